import PyProof.Rows.All
import Wide.All
import OpenK.AllK
import Wide.FinOn
import Lean
import PyProof.EqAt
import PyProof.EqKinds
import PyProof.TupleCall
import PyProof.ListMulRoad
import KE.KDictOf
import KE.KEqDict
import PyProof.DictTruth
import KE.LcSums
import PyProof.StrWalks
import PyProof.FString4
import KE.KTabLook
import PyProof.Rows.ZipGen
import PyProof.StrCalls6
import PyProof.StrLawsReplace
import PyProof.MaxThree
import PyProof.ConsumeWalk
import PySem.Challenge.RW_blamewise_k15_texts_refused
open PySem renaming wpAny_bind→ε,Value→η,Str→θ,wpAny_pure→π,Shared→τ,NameKind→Β,Addr→Δ,wpAny→Ε,wpAny_mono→Η,Expr→Ξ,starEach→Ο,wpAny_toks_of→ό,wpAny_holding→ώ,mainGlobals→ϔ,Around→ϗ,sizeLine→ϙ,Pos→ϧ,wpAny_truthy_bool→Ϸ,Heap→Â,behindInMarks→Å,attributeBase→Æ,wpAny_Call_method→Ç,wpAny_field→Ë,Program→Î,mem_of_lookup→Ð,compareOp→Ò,Stmt→Ø,backTo→Ü,wpAny_isTrue_Compare1→Þ,FuncData→á,strLen_append→ä,World→é,sliceBounds→î,sizeLine_eq→ï,wpAny_passesOwn→ó,wpAny_standAt→õ,wpAny_newObj_type→ø,rawInt→ú,noteFrame→û,codeAny_mono→ü,bootBuiltins→ý,ExcBaseFacts→ÿ,Scope→Ą,intText?→ą,ExceptHandler→Ć,wpAny_call→Ċ,wpAny_Call_Name_kw→ċ,typeIs_str→Č,wpAny_getItem_str_slice→Đ,plainObj_wpAny_Assign_Attribute→ę,call_meets→Ĝ,assignEach→ĝ,keywordEach→ġ,codeAny_call_builtin→Ģ,wpAny_execs_nil→Ī,codeAny→Ĳ,swapsWith→ķ,wpAny_Compare1→Ľ,binaryOp→ľ,wpAny_loadPart_at→ŉ,wpAny_assign_Name→Ŋ,foldedSetIterable→ŋ,wpAny_execs_cons→Ř,wpAny_call_entry→ř,wpAny_callSpecial?_slot→Ś,wpAny_specialOf→Ţ,wpAny_ite_split→ţ,post_val_or_str→Ť,letOwnedTupleGo→ť,getAttrByItsOwn→Ŧ,cLine→ŧ,Env→Ų,wpAny_setField→ų,wpAny_Expr_any→Ŵ,unbindBehindTheSuite→ŵ,backToKw→Ŷ,list_append→ŷ,IsPart→Ÿ,valueAt→ź,length_partsBetween→D0,wpAny_attempt→D8,wpAny_List_spliced→DO,slot_dict_contains→DP,isInstance→DQ,Sem→DR,wpAny_typeOf→E7,wpAny_sequenceKey→E8,wpAny_pyIter_list→E9,wpAny_Assign_Name→Ea,standAt→Eb,slot_dict_getitem→Ec,getItem→Ed,getAttr→Ef,callerA→Eg,callWith→Eh,Keyword→Eo,wpAny_pyHash_str→EE,wpAny_comp_letGo→EF,strValues→EG,pyIter→EH,noFill_tuple_add→EI,getMethod→EJ,unpackItems→EP,excClassObj→ER,Model→EW,setItem→F2,setAttr→F3,dictGet→F4,ofString_length→F5,wpAny_loadPart→Fd,isTrue→Fe,findBy→Ff,boundAndCalled→Fh,Operator→Fj,swapsWithSole→FA,swappedStores→FC,seq_tuple_add→FD,call→FE,Comprehension→FL,setFlight→FP,bindL→FQ,bindC→FR,Obj→FX,Arguments→G4,seqIndex_neg→G5,concat_meets→G6,OsState→Ga,wpAny_storeName_local→Gn,wpAny_formatField_int→Gp,exec_Assign_Name_used→Gq,codeAny_handlers_test→Gs,builtinLookup_eq_fast→Gu,wpAny_pyIter_revIter→GG,wpAny_BinOp→GH,seqIndex_of→GJ,reprText→GK,int_text_length_le10→GL,wpAny_handleBy_cons→GU,wpAny_Assign_stores→GV,wpAny_Name→H4,wpAny_Constant_int→H5,typeLookup→H6,sysModules→H7,refuseLoop→H9,findBy_of_findIdx?→Ha,closureFor→Hb,call_reversed_list→Hc,WalksT→Hf,passOn→Hh,Within→Hi,wpAny_dictEntries→Hr,slot_list_getitem→Hs,Builtin→Hy,BindsTo→Hz,wpAny_lookBehind→HA,wpAny_Dict_empty→HB,storeName→HC,pastItsLine_dict→HD,lastMarks→HE,checkBuiltinCall→HF,cellsFrom→HG,PassesOwn→HK,typeLookup_type→HX
open List renaming length_append→ζ,mem_singleton→ι,mem_cons_self→κ,replicate→μ,getElem?_eq_some_iff→ν,prefix_refl→ξ,length_map→ο,mem_cons_of_mem→υ,mem_cons→φ,append_assoc→χ,length_cons→ψ,length_singleton→ω,getElem?_eq_getElem→Ζ,mem_of_getElem?→Ι,size_toArray→Μ,append_nil→Ν,mem_append→Ρ,getElem?_set_ne→Φ,getElem?_append_right→Χ,all_eq_true→Ψ,getElem?_map→ϑ,getElem?_append_left→ϓ,mem_filter→ϕ,length_drop→ϖ,length_replicate→Ϛ,nil_append→ϛ,getElem?_set_self→Ϟ,length_take→Ϡ,mem_of_mem_drop→Ϥ,filterMap_cons→ϥ,length_nil→Ϧ,nodup_cons→ϫ,map_append→Ϭ,replicate_succ→Ϯ,mem_of_mem_take→ϯ,eq_of_mem_replicate→ϵ,length_set→ϸ,flatMap_cons→Á,length_zip→Ä,prefix_append→Ì,filter_eq_nil_iff→Ó,getElem_mem→Ö,zip_cons_cons→Ù,length_eq_zero_iff→â,getElem?_cons_succ→ã,take_of_length_le→ç,dropLast_concat→ö,length_pos_iff→ù,foldl_cons→þ,getElem?_replicate→Ă,drop_zero→ĉ,lookup_cons→ē,cons_append→Ĕ,map_cons→Ė,zip_nil_right→ĩ,getElem?_zip_eq_some→İ,drop_eq_getElem_cons→ı,append→Ķ,all_cons→ĺ,not_mem_nil→Ń,range→Ō,mem_map→ō,map_nil→Ŏ,of_mem_zip→Œ,mem_append_right→Ŕ,eq_nil_or_concat→ŕ,dropLast_eq_take→Ŗ,concat_eq_append→ŗ,mem_append_left→Ŝ,length_dropLast→ŝ,flatMap_append→Ũ,getElem?_drop→Ű,filter_append→ű,filter_congr→ż,take_length→DL,drop_length→DM,forIn_cons→E4,dropLast_concat_getLast→E5,mem_range→Eu,getElem?_eq_none_iff→EN,lookup_eq_some_iff→F0,getElem?_cons_zero→F1,drop_eq_nil_of_le→F8,take_append_drop→Fk,mem_iff_getElem?→Fl,range'→Fs,lookup→Ft,getLast?_concat→Fv,map_congr_left→FF,getElem_of_mem→FG,map_replicate→FY,lookup_append→FZ,take_sublist→Gc,reverse_cons→Ge,mem_range'_1→Gf,mem_of_head?→Gg,foldl_append→Gh,filter_cons→Gy,any_eq_true→Gz,find?_cons→GP,filterMap→H0,map_take→Hk,map_drop→Hl,drop_nil→Hm,any_cons→Hn,all_map→Hv,length→HP,foldl→Ib
open PySem.W renaming Frag→ς,findIn→Υ,mroIn→Ω,nsIn→ϒ,keepIn→Ϝ,mg_of→Ϫ,hasDictIn→ϭ,fnOf→Ê,instObj→Í,emptyDict→Û,kia_one→æ,typeIn→ð,codeIn→ñ,plainGet→č,callWith_K→Ğ,specialIn→ħ,clsIn→Ĭ,handedIn→Ĵ,isFn→Ŀ,makesIn→Ł,lookIn→Ő,plainGet_of→ś,plainOver→ũ,takesIn→D3,takerIn→D4,tailIn→DS,cellsFrom_some→EK,methodCall_KW→ES,callWith_K0→F6,tail_of_in→Fi,OpenLaw→FT,nsOkIn→G7,kitOne→G9,WalkO→Gv
open Option renaming map_eq_some_iff→Α,bind_eq_some_iff→ϊ,getD_some→Ż,isSome_iff_exists→Et,getD_none→FU,bind_some→FW
open Bool renaming and_eq_true→Θ,false_ne_true→ϩ,or_eq_true→í,false_eq_true→Ā,eq_iff_iff→ě,or_false→ļ,true_and→ŭ,eq_false_iff→ſ,and_false→EB,or_eq_false_iff→Fx,and_eq_true_iff→Fy,or_eq_true_iff→FO,false_and→H3,false_or→Ho
open PySem.Heap renaming get?_push_of_some→Κ,get?_push_size→Λ,get?_none_of_le→Ϙ,lt_size→ϟ,get?_update_other→ϱ,get?_update_self→È,SameBut→è,size_push→Ş,MadeExcOf→Ew,get?_update_ne→FK,get?_push_at→Gj
open PySem.Calls renaming spliced_cons→Τ,spliced_nil→ϋ,callWith_builtin→Ϩ,Constant_str→Ϲ,evalArgs_plain→ϻ,Name_function_global→Er,call_len_list→Fw
open Nat renaming le_refl→ύ,le_succ_of_le→ϡ,ne_of_lt→ϲ,lt_of_lt_of_le→Ϻ,zero_le→À,le_trans→Õ,ne_of_gt→ê,sub_self→Ď,le_of_lt→ď,le_add_right→ĕ,le_succ→Ě,sub_zero→Ĥ,min_self→ĥ,length_toDigits_le_iff→į,lt_of_succ_lt_succ→ő,succ_pos→D6,lt_succ_self→DW,one_pos→DY,log2_lt→DZ,not_lt_zero→En,mul_le_mul→EM,lt_irrefl→EY,add_assoc→EZ,add_sub_cancel_left→F7,add_sub_cancel→Gb,succ_ne_self→GN,zero_add→HM,toDigits→HN,add_comm→HO
open PySem.Txt renaming slice→Ϗ,split→Ï,replace→ă,mul→ĸ,startswith→Š,contains→HI
open Option.some renaming inj→ϝ
open PySem.Value renaming bool→Ϣ,none→ϣ,ref→É,type→đ,int→Ġ,builtin→ĳ,isStrOf→GZ,isInt→Ht
open PyProof.Rows.KTD renaming datumAt→ϰ,tabLook→E6,kt_dictFind_strs→FH,TabOf→GQ
open Ne renaming symm→ϳ
open ForInStep renaming yield→ϴ
open PySem.Str renaming empty→Ã,ofString→Ô
open PySem.NameKind renaming free→Ñ
open PyProof.Rows renaming slot_tuple_getitem→Ú,boot_isinstance→Ĉ,boot_list→Ĩ,kindOf→ī,AllBare→ŏ,Constant_none→œ,envOfC→ş,evalArgs_nil3→ů,boot_tuple→D5,boot_str→DU,boot_int→DV,IntsAre→Gi,FormattedValue_plain→GR,entry_tuple_getitem→GX,slot_tuple_getitem→H8,args_tuple_getitem→He,Subscript_→Hg,firstMet→HY,boot_reversed→HZ,boot_bool→Ia
open PySem.F renaming slot_list_append→Ý,plainAttrs_list→ß,plainAttrs_str→ā,args_list_append_2→ğ,entry_list_append→ģ,args_tuple_add_2→ĭ,entry_tuple_add→ĵ,slot_tuple_add→ŀ,slot_str_startswith→D9,attrBase_ValueError→DK,excBase_ValueError→DT,type_list_append→Ek,slot_str_isdigit→El,slot_list_extend→Em,slot_str_split→EL,slot_list_pop→EU,slot_int_rmul→EV,entry_bexc_ga→Hx
open PySem.Obj renaming mapSeq→à,isFreed_of_fields→Ē,mapFields→Ę,data_mapFields→Į,cls_mapFields→Gx
open PySem.Builtin.List renaming listExtendWith→å,listTooLong→Ž,listSameRef→ž,listItems→DN,listUpdate→Ic,listLengthHint→Ie,listFitsIndex→Ig
open PySem.StrLaws renaming sliceText→ë,sliceText_nat→Ņ,sliceIdx_none_hi→Ei
open PySem.Builtin.Slice renaming slicePlaces→ì,sliceAdjust→ė,sliceApplied→Ŭ,slicePartIndex→HS,sliceFields→HU
open PySem.Builtin.Tuple renaming tupleExact→ò,tupleItemsOf→Ū,tupleIsExact→ū
open Array renaming getElem?_eq_some_iff→ô,length_toList→š,getElem?_eq_getElem→EC,mem_toList_iff→Fq,toList_append→Fz,toList→Hq,ext'→HW
open PySem.Value.ref renaming inj→ć
open PySem.Builtin.Str renaming occurrences→Ħ,partsBetween→D7,tooLong→Ez,strKind→EA
open Nat.succ renaming inj→Ĺ
open Int renaming toNat_natCast→Ļ,ofNat→ņ,eq_ofNat_of_zero_le→Ň,emod_lt_of_pos→Ź,emod_nonneg→Ep,zero_add→Fm,le_ediv_iff_mul_le→Fo,negSucc→FJ
open Prod renaming fst→ł,snd→Es
open PySem.Builtin.ObjectAttr renaming storeInDict→ń,newKeyGuard→GF
open False renaming elim→ň
open True renaming intro→Ů
open Sum renaming inr→D1,inl→D2
open And renaming right→DX
open PySem.W.KIN renaming val_back→Ej
open Char renaming toNat→Ey
open PySem.Arg renaming arg→ED
open PySem.EntryCells renaming newEntry→EO
open PySem.Spec renaming countIn→ET
open PySem.Around renaming under→EX
open PySem.Heap.DictOf renaming new→F9
open PySem.Code renaming isFrame→Fc,quiet_builtin→G3,frames→HQ
open PySem.Builtin.BaseException renaming bexcPut→FN
open List.cons renaming inj→G0
open Classical renaming em→Gk
open PySem.Builtin.SmallTypes renaming fitsIndex→GB
open PySem.Walks renaming listRev→GY,list→HH
open PySem.Challenge renaming pw_blamewise_k15_texts_refused→Hj
open PySem.MeetsSeq renaming list_pop_last→Hu
open PySem.Heap.IsSliceOf renaming new→Hw
open PySem.W.Looks renaming here→HJ
open PySem.Builtin.Range renaming rangeSize→HV
open PySem.Builtin.Dict renaming pendingKey?→Ih
open PySem PySem.Spec PyProof.Rows
set_option compiler.extract_closed false
noncomputable section
local macro_rules|`($d:declaration)=>do let r:=d.raw;let k:=r[1].getKind;if (k==`Lean.Parser.Command.definition||k==`Lean.Parser.Command.abbrev)&&r[0][4].getNumArgs==0 then return r.setArg 0 (r[0].setArg 4 (Lean.mkNullNode #[Lean.mkNode `Lean.Parser.Command.noncomputable #[Lean.mkAtom "noncomputable"]])) else Lean.Macro.throwUnsupported
set_option hygiene false
local macro_rules|`($a<|>$b)=>`(A $a $b)
abbrev Fg:=PySem.W.Frag
abbrev NK:=List (Str×NameKind)
abbrev ZZ:=@if_pos
abbrev ZY:=@if_neg
abbrev ZX:=@absurd
abbrev ZW:=@decide_eq_true
abbrev ZV:=@decide_eq_false
abbrev ZU:=@beq_eq_false_iff_ne
abbrev ZT:=@beq_self_eq_true
abbrev ZS:=@congrArg
set_option Elab.async false
set_option linter.all false
set_option maxRecDepth 100000
set_option maxHeartbeats 8000000
set_option Elab.async false
set_option linter.all false
set_option maxRecDepth 100000
namespace L2
abbrev Key:=Sum Int θ
def iW:Key→η→Bool
 | .inl k,v=>Ht k v
 | .inr x,v=>GZ x v
def Df (w:é):Key→Int
 | .inl k=>hashInt k
 | .inr x=>hashStr w x
theorem ay:∀ {k} {v},iW k v=true→(∃ i t,k=D2 i∧v=Ġ i t)∨(∃ x t,k=D1 x∧v=Value.str x t)
 | .inl i,v,h=>by
   obtain ⟨t,e⟩:=Value.isInt_shape (k:=i) (v:=v) h
   exact .inl ⟨i,t,rfl,e⟩
 | .inr x,v,h=>by
   obtain ⟨t,e⟩:=Value.isStrOf_shape (x:=x) (v:=v) h
   exact .inr ⟨x,t,rfl,e⟩
theorem qp (i) (t):iW (.inl i) (.int i t)=true:=by simp [iW,Ht]
theorem qr (x) (t):iW (.inr x) (.str x t)=true:=by simp [iW,GZ]
theorem yz (a b):decide ((D2 a:Key)=D2 b)=(a == b):=by
 by_cases e:a=b
 ·subst e;simp
 ·have h:¬ (D2 a:Key)=D2 b:=fun q=>e (Sum.inl.inj q)
  rw [ZV h]
  exact (ZU.mpr e).symm
theorem yC (a b):decide ((D1 a:Key)=D1 b)=decide (a=b):=by
 by_cases e:a=b
 ·subst e;simp
 ·have h:¬ (D1 a:Key)=D1 b:=fun q=>e (Sum.inr.inj q)
  rw [ZV h,ZV e]
theorem yA (a) (b):decide ((D2 a:Key)=D1 b)=false:=ZV (fun q=>nomatch q)
theorem yB (a) (b):decide ((D1 a:Key)=D2 b)=false:=ZV (fun q=>nomatch q)
def bO (prog:Î) (w:é):PySem.KeyKind prog w Key where
 is:=iW
 hash:=Df w
 inj:=fun v a b ha hb=>by
  rcases ay ha with ⟨i,t,rfl,rfl⟩ | ⟨x,t,rfl,rfl⟩
  ·rcases ay hb with ⟨j,u,rfl,e⟩ | ⟨y,u,rfl,e⟩
   ·injection e with e1 _;rw [e1]
   ·exact nomatch e
  ·rcases ay hb with ⟨j,u,rfl,e⟩ | ⟨y,u,rfl,e⟩
   ·exact nomatch e
   ·injection e with e1 _;rw [e1]
 byValue:=fun k v h=>by
  rcases ay h with ⟨i,t,rfl,rfl⟩ | ⟨x,t,rfl,rfl⟩ <;> rfl
 pyHash:=fun hv h=>by
  rcases ay hv with ⟨i,t,rfl,rfl⟩ | ⟨x,t,rfl,rfl⟩
  ·exact wpAny_pyHash_int h
  ·exact EE h
 eqBool:=fun hu hv h=>by
  rcases ay hu with ⟨i,t,rfl,rfl⟩ | ⟨x,t,rfl,rfl⟩
  ·rcases ay hv with ⟨j,u,rfl,rfl⟩ | ⟨y,u,rfl,rfl⟩
   ·rw [yz] at h;exact wpAny_eqBool_int h
   ·rw [yA] at h;exact SeqAt.EqAt.int_str i t y u _ _ _ _ h
  ·rcases ay hv with ⟨j,u,rfl,rfl⟩ | ⟨y,u,rfl,rfl⟩
   ·rw [yB] at h;exact SeqAt.EqAt.str_int x t j u _ _ _ _ h
   ·rw [yC] at h;exact wpAny_eqBool_str h
 «strs»:=fun k x t v h=>by
  rcases ay h with ⟨i,u,rfl,e⟩ | ⟨y,u,rfl,e⟩
  ·exact nomatch e
  ·injection e with e1 _
   subst e1
   cases v <;> rfl
theorem kU (prog) (w) (i) (t):(bO prog w).is (.inl i) (.int i t)=true:=qp i t
theorem kW (prog) (w) (x) (t):(bO prog w).is (.inr x) (.str x t)=true:=qr x t
end L2
namespace L2
structure Mod (K:ς) (mg:θ→Option η) (base:Â):Prop where
 kin:K.In base
 glob:base.Ns ϔ mg
 blt:∃ mb,base.Ns builtinsNs mb∧∀ x:θ,x≠"__name__"→mb x=ý x
 nolimit:base.NoLimit
def frs (l:List Ų):List Δ:=l.filterMap (·.frame)
def Vis (sc:Ą) (x:θ):Prop:=sc.names.lookup x=some .local∨sc.names.lookup x=some .cell∨sc.names.lookup x=some .free
def Loc (sc:Ą) (x:θ):Prop:=sc.names.lookup x=some .local∨sc.names.lookup x=some .cell
def mc (env:Ų) (h:Â) (m:θ→Option η) (x:θ) (u:η):Prop:=
 (env.kindOf x=some .local∧m x=some u)∨((env.kindOf x=some .cell∨env.kindOf x=some .free)∧∃ c,env.cells.lookup x=some c∧h.IsCell c (some u))
section
variable {X:Cx} {pins:List (Δ×FX)} {σ:List (Option V)} {H H':Hp} {s:τ} {h':Â}
theorem gY {N:List θ} (hN:N.Nodup) {i j:Nat} {x:θ} (a:N[i]? = some x) (b:N[j]? = some x):i=j:=by
 obtain ⟨h1,e1⟩:=ν.mp a
 obtain ⟨h2,e2⟩:=ν.mp b
 exact (List.getElem_inj hN).mp (e1.trans e2.symm)
end
theorem thn (h:Ε M A t Q E s) (hQ:∀ a s,Q a s→Q' a s):Ε M A t Q' E s:=Η h hQ fun _ _ x=>x
end L2
namespace L2
theorem iU (ho:s.heap.get? it=some o) (hc:o.cls = .type n) (hd:o.data = .fields vs)
 (hn:["enumerate","zip","dict_itemiterator","dict_reverseitemiterator","odict_iterator","itertools.zip_longest","itertools.pairwise"].contains n=false) (hQ:Q () s):Ε M A (ť tg (.ref it) u) Q E s:=by
 unfold ť
 cases tg <;> first
  | exact π hQ
  | (cases u <;> first
   | exact π hQ
   | (refine ε (wpAny_load ho ?_)
      rw [hc,hd]
      show Ε M A (if (["enumerate","zip","dict_itemiterator","dict_reverseitemiterator","odict_iterator","itertools.zip_longest","itertools.pairwise"].contains n && vs[0]? == some (ú _))=true then _ else _) Q E s
      rw [ZY (by intro h;rw [hn,H3] at h;cases h)]
      exact π hQ))
end L2
namespace L2
section
variable {X:Cx} {a b c:Ξ} {ta tb tc:TE} {pos:ϧ}
def xM (i j:Int):Prop:=(-(2 ^ 64)<i∧i<2 ^ 64)∨(-(2 ^ 64)<j∧j<2 ^ 64)
theorem xM.ok (h:xM i j):IntMulOk i j:=by
 rcases h with ⟨h1,h2⟩ | ⟨h1,h2⟩
 ·exact .of_left (intBits_le_64 h1 h2)
 ·exact .of_right (intBits_le_64 h1 h2)
end
section
variable {X:Cx} {a b c:Ξ} {ta tb tc:TE} {pos:ϧ}
theorem gR:(ϙ:Nat)<2 ^ 63:=by rw [ï];decide
end
end L2
namespace L2
structure mn (h:Â) (x dx C:Δ) (mA:θ→Option η):Prop where
 obj:h.get? x=some (Í C dx)
 ns:h.Ns1 dx mA
 ne:dx≠x
theorem iY {h:Â} {dx:Δ} {mA:θ→Option η} (n:h.Ns1 dx mA):∃ od,h.get? dx=some od∧∀ name,Ő name od=some (mA name):=by
 obtain ⟨o,es,ep,ho,hd,hk,_,hm⟩:=n
 refine ⟨o,ho,fun name=>?_⟩
 have e:=hm name
 unfold nsFind Ff at e
 rw [← Array.find?_toList] at e
 unfold Ő
 rw [hd]
 dsimp only
 split
 ·rename_i y q
  rw [q] at e
  exact ZS some e
 ·rename_i q
  rw [q] at e
  have a:es.toList.any (·.refKey)=false:=by
   rw [List.any_eq_false]
   intro y hy
   obtain ⟨z,t,hkey⟩:=hk y (Fq.mp hy)
   simp [DictEntry.refKey,hkey]
  have a':¬ es.toList.any (·.refKey)=true:=by rw [a];exact ϩ
  rw [ZY a']
  exact ZS some e
theorem mn.look (I:mn h x dx C mA):∃ od,PySem.W.InstAt h x (Í C dx) C (some od)∧∀ name,Ő name od=some (mA name):=
 let ⟨od,ho,hl⟩:=iY I.ns
 ⟨od,⟨I.obj,rfl,rfl,ho⟩,hl⟩
section
variable {prog:Î} {w:é} {A:ϗ} {E:η→τ→Prop} {s:τ} {K:ς} {x dx C f:Δ} {mA:θ→Option η} {name:θ} {v:η}
theorem vo (X:K.In s.heap) (I:mn s.heap x dx C mA) (hg:č K C name=true) (hh:ϭ K C=true)
 (ha:Υ K (.ref C) name=some none) (hv:mA name=some v) (hv':Ĵ v=true) (h:Q v { s with toks:=s.toks+1 }) :
 Ε (model prog w) A (Ef (.ref x) name expr) Q E s:=by
 obtain ⟨od,J,hl⟩:=I.look
 exact PySem.W.get_value X J (ś hg).1 (PySem.W.findObj_own hh ha rfl (by rw [hl,hv])) hv' h
theorem r9 (X:K.In s.heap) (I:mn s.heap x dx C mA) (hg:č K C name=true)
 (hf:Υ K (.ref C) name=some (some (.ref f))) (ht:Ŀ K (.ref f)=true) (hv:mA name=none) (h:Q (.ref f,[.ref x]) s) :
 Ε (model prog w) A (EJ (.ref x) name pl) Q E s:=by
 obtain ⟨od,J,hl⟩:=I.look
 exact PySem.W.method_fn X J (ś hg).1 (ś hg).2 hf (beq_iff_eq.mp ht) (by show (Ő name od).map (·.isSome)=some false;rw [hl,hv];rfl) h
theorem wI (X:K.In s.heap) (I:mn s.heap x dx C mA)
 (hs:Υ K (.ref C) "__setattr__" = some (some (.builtin "object.__setattr__"))) (hp:ũ K C=true) (ht:D4 K C name=some none) (hh:ϭ K C=true)
 (hw:Hi mA ns) (hsz:ns.length≤ϙ)
 (h:∀ h',mn h' x dx C (fun y=>if y=name then some v else mA y)→è dx s.heap h'→Q () { s with heap:=h',toks:=s.toks+2 }) :
 Ε (model prog w) A (F3 (.ref x) name v) Q E s:=by
 obtain ⟨od,J,hl⟩:=I.look
 refine PySem.W.set_plain X J hs (PySem.W.osa_open (s:={ s with toks:=s.toks+1 }) (r:=none) X J hp ht fun b=>?_)
 obtain ⟨cd,hc,hd'⟩:=PySem.W.any_some hh
 have hx:s.heap.get? x=some ⟨.ref C,some dx,.plain,#[]⟩:=I.obj
 refine ε (π (ε (ε (Fd hx (ε (HJ (s:={ s with toks:=s.toks+1 }) (PySem.W.looks_clsIn X hc) ?_))))))
 rw [hd']
 refine π (a:=some dx) (ε (π (ε ?_)))
 refine wpAny_nsSet1 (s:={ s with toks:=s.toks+1 }) I.ns fun h' hn2 hs2=>?_
 obtain ⟨oD,esD,epD,hoD,hdD,hcD⟩:=hn2.count (PySem.Within.cons name v hw)
 refine ε (HA hoD (by rw [hdD];exact HD (Õ hcD (by rw [ψ];omega))) ?_)
 exact π (h _ ⟨(hs2.2 _ (ϳ I.ne)).trans I.obj,hn2,I.ne⟩ hs2)
theorem tG (X:K.In s.heap) (hm:Ł K C=true)
 (hi:Υ K (.ref C) "__init__" = some (some (.ref f))) (hf:ð K (.ref f)=some (.type "function"))
 (h:Ĳ (model prog w) (A.under (.builtin "type.__call__" ⟨.ref C :: vs,kw⟩)) (.call (.ref f) ⟨.ref (s.heap.objs.size+1) :: vs,kw⟩) (PySem.W.InitBack (s.heap.objs.size+1) R)
  { s with heap:=(s.heap.push Û).push (Í C s.heap.objs.size) }) :
 Ĳ (model prog w) A (.call (.ref C) ⟨vs,kw⟩) R s:=by
 obtain ⟨hh,g,d,t,os⟩:=s
 exact PySem.W.make_core (PySem.W.makes_of X hm) (PySem.W.looks_findIn X hi) (fun self=>PySem.W.bind_fn X self hf) (.inl rfl) h
end
structure Cls (K:ς) (C:Δ):Prop where
 pg:č K C Ã=true
 hd:ϭ K C=true
 po:ũ K C=true
 sa:Υ K (.ref C) "__setattr__" = some (some (.builtin "object.__setattr__"))
theorem Cls.get {K:ς} {C:Δ} (c:Cls K C) (f:θ):č K C f=true:=c.pg
def dq (K:ς) (C:Δ) (f:θ):Prop:=Υ K (.ref C) f=some none
theorem dq.taker {K:ς} {C:Δ} {f:θ} (n:dq K C f):D4 K C f=some none:=by
 unfold D4
 rw [show Υ K (.ref C) f=some none from n]
 rfl
structure Ar (K:ς) (C:Δ) (m:θ) (f:Δ):Prop where
 at_:Υ K (.ref C) m=some (some (.ref f))
 fn:Ŀ K (.ref f)=true
 kp:Ϝ K (.ref f)=true
section
variable {X:Cx} {pins:List (Δ×FX)} {σ:St} {H:Hp} {s:τ} {a C dx:Δ} {fs:List (θ×V)} {f:θ} {v:V} {A:ϗ} {E:η→τ→Prop}
theorem uQ (hb:Æ e f env (eval e env)=eval e env)
 (h:Ε (model prog w) A (eval e env) (fun o s₁=>Ε (model prog w) A (Ef o f true) Q E s₁) E s):Ε (model prog w) A (eval (.Attribute e f pos) env) Q E s:=
 Attribute_any_ h (by rw [arm_eval_Attribute,hb])
end
end L2
namespace L2
structure bv (k:Nat) (A:ϗ):Prop where
 hd:A.handled=none
 dp:A.depth+k+5<recursionLimit
 un:A.units+16 * k+200<ŧ
theorem bv.mono (r:bv k A) (h:j≤k):bv j A:=⟨r.hd,by have:=r.dp;omega,by have:=r.un;omega⟩
theorem bv.deeper (r:bv (k+1) A) (env):bv k (A.deeper env):=
 ⟨r.hd,by have:=r.dp;show A.depth+1+k+5<_;omega,by have:=r.un;show A.units+3+16 * k+200<_;omega⟩
theorem ng {A:ϗ} {C:Δ} {us:List η} {kw:List (θ×η)}:(A.under (.builtin "type.__call__" ⟨.ref C :: us,kw⟩)).depth=A.depth+1:=by
 first | rfl | simp [EX,Code.weight,Code.isCreation,Code.isGuard,Code.isCaller,HQ,Fc,guardIds]
theorem nh {A:ϗ} {C:Δ} {us:List η} {kw:List (θ×η)}:(A.under (.builtin "type.__call__" ⟨.ref C :: us,kw⟩)).units=A.units+1:=by
 first | rfl | simp [EX,Code.cUnits,HQ,Fc]
theorem bv.make (r:bv (k+1) A) (C) (us) (kw):bv k (A.under (.builtin "type.__call__" ⟨.ref C :: us,kw⟩)):=
 ⟨r.hd,by have:=r.dp;rw [ng];omega,by have:=r.un;rw [nh];omega⟩
theorem bv.depth (r:bv k A):A.depth<recursionLimit:=by have:=r.dp;omega
def b6 (K:ς) (fd:á) (ps:List θ) (ds:List η):Prop:=
 ∀ (s:τ) (us:List η),K.In s.heap→(us ++ ds).length=ps.length→Hz s fd ⟨us,[]⟩ (ps.zip (us ++ ds))
theorem b6.all {K:ς} {fd:á} {ps:List θ} (h:∀ us:List η,us.length=ps.length→bindArgs fd ⟨us,[]⟩=pure (ps.zip us)):b6 K fd ps []:=fun s us _ hl=>by
 rw [Ν] at hl ⊢
 exact .of_eq (h us hl)
section
variable {X:Cx} {CX:CXT} {k:Nat} {f C:Δ} {fd:á} {ps:List θ} {sp:Sp} {dvs:List V} {ds:List η} {E:XK} {x m:θ} {p pos apos:ϧ} {e o:Ξ} {es:List Ξ} {ta:TE} {t:TA}
structure Mk (K:ς) (C f:Δ):Prop where
 makes:Ł K C=true
 init:Υ K (.ref C) "__init__" = some (some (.ref f))
 fn:Ŀ K (.ref f)=true
 kp:Ϝ K (.ref C)=true
end
structure ez (N P:List θ) (sc:Ą):Prop where
 kind:sc.kind = .function
 co:sc.isCoroutine=false
 gen:sc.isGenerator=false
 nd:N.Nodup
 pre:N.take P.length=P
 par:∀ x∈P,sc.names.lookup x=some .local∨sc.names.lookup x=some .cell
 nofree:∀ y∈sc.names,y.2≠.free
theorem iM {ī:θ→Option Β} {x:θ}:∀ {binds:List (θ×η)} {m:θ→Option η},(∀ v,(x,v) ∉ binds)→FQ ī binds m x=m x
 | [],_,_=>rfl
 | (n,v) :: r,m,h=>by
   unfold FQ
   rw [iM fun w hw=>h w (υ _ hw)]
   split
   ·have:x≠n:=by rintro rfl;exact h v κ
    simp [this]
   ·rfl
theorem iK {ī:θ→Option Β} {x:θ}:∀ {binds:List (θ×η)} {m:θ→Option η},(∀ v,(x,v) ∉ binds)→FR ī binds m x=m x
 | [],_,_=>rfl
 | (n,v) :: r,m,h=>by
   unfold FR
   rw [iK fun w hw=>h w (υ _ hw)]
   split
   ·rfl
   ·have:x≠n:=by rintro rfl;exact h v κ
    simp [this]
theorem iL {ī:θ→Option Β} {x:θ} {v:η}:∀ {P:List θ} {vs:List η} {i:Nat} {m:θ→Option η},P.Nodup→P[i]? = some x→vs[i]? = some v→ī x=some .local →
 FQ ī (P.zip vs) m x=some v
 | [],_,_,_,_,h,_,_=>by simp at h
 | _ :: _,[],_,_,_,_,h,_=>by simp at h
 | p :: P,w :: vs,0,m,nd,h1,h2,hk=>by
   simp at h1 h2;subst h1;subst h2
   show FQ ī ((p,w) :: P.zip vs) m p=_
   unfold FQ
   rw [iM fun v hv=>(ϫ.mp nd).1 (Œ hv).1,ZZ hk]
   simp
 | p :: P,w :: vs,i+1,m,nd,h1,h2,hk=>by
   show FQ ī ((p,w) :: P.zip vs) m x=_
   unfold FQ
   exact iL (i:=i) (ϫ.mp nd).2 (by simpa using h1) (by simpa using h2) hk
theorem iJ {ī:θ→Option Β} {x:θ} {v:η}:∀ {P:List θ} {vs:List η} {i:Nat} {m:θ→Option η},P.Nodup→P[i]? = some x→vs[i]? = some v→ī x≠some .local →
 FR ī (P.zip vs) m x=some v
 | [],_,_,_,_,h,_,_=>by simp at h
 | _ :: _,[],_,_,_,_,h,_=>by simp at h
 | p :: P,w :: vs,0,m,nd,h1,h2,hk=>by
   simp at h1 h2;subst h1;subst h2
   show FR ī ((p,w) :: P.zip vs) m p=_
   unfold FR
   rw [iK fun v hv=>(ϫ.mp nd).1 (Œ hv).1,ZY hk]
   simp
 | p :: P,w :: vs,i+1,m,nd,h1,h2,hk=>by
   show FR ī ((p,w) :: P.zip vs) m x=_
   unfold FR
   exact iJ (i:=i) (ϫ.mp nd).2 (by simpa using h1) (by simpa using h2) hk
theorem kf {sc:Ą} {n:Nat} {x:θ} (h:sc.names.lookup x=some .cell):∃ c,(HG n sc.names []).lookup x=some c:=by
 have q:=EK sc.names n [] (.inl h)
 exact Et.mp q
end L2
namespace HT
open PySem PyProof.Rows
section
variable {prog:Î} {w:é} {A:ϗ} {E:η→τ→Prop} {s:τ}
theorem cat_tup (ht:IsTup s.heap t vs.toArray) (hb:IsTup s.heap b ws.toArray) (hv:vs≠[])
 (h1:ws = []→Q (.ref t) s) (h2:ws≠[]→Q (.ref s.heap.objs.size) { s with heap:=s.heap.push { cls:=.type "tuple",data:=.seq (vs ++ ws).toArray } })
 (hsz:vs.length+ws.length≤ϙ):Ε (model prog w) A (ľ .Add (.ref t) (.ref b)) Q E s:=by
 obtain ⟨⟨cls,dd,data,sl⟩,ho,hc,n,hd⟩:=id ht
 obtain ⟨⟨cls2,dd2,data2,sl2⟩,ho2,hc2,n2,hd2⟩:=id hb
 simp only at hc hd hc2 hd2
 subst hc hd hc2 hd2
 have e:vs.toArray ++ ws.toArray=(vs ++ ws).toArray:=by simp
 by_cases hw:ws = []
 ·exact G6 ⟨_,ho,rfl⟩ ⟨_,ho2,rfl⟩ EI FD ŀ ĵ (ĭ _ _)
   (tuple_addW1 t b vs.toArray ws.toArray n n2 dd dd2 sl sl2 (by simpa using hv) (by simp [hw])) ⟨ho,ho2,h1 hw⟩
 ·refine G6 ⟨_,ho,rfl⟩ ⟨_,ho2,rfl⟩ EI FD ŀ ĵ (ĭ _ _)
   (tuple_addW2 t b vs.toArray ws.toArray n n2 dd dd2 sl sl2 (by simpa using hv) (by simpa using hw) (by rw [Μ,Μ];exact hsz)) ⟨ho,ho2,?_⟩
  rw [e]
  exact h2 hw
def sIx (n d:Nat):Option Int→Nat
 | none=>d
 | some v=>if v<0 then (v+(n:Int)).toNat else min v.toNat n
theorem zS (n d) (hd:d≤n) (o):sIx n d o≤n:=by
 cases o with
 | none=>exact hd
 | some v=>
   show (if v<0 then (v+(n:Int)).toNat else min v.toNat n)≤n
   by_cases hv:v<0
   ·rw [ZZ hv];omega
   ·rw [ZY hv];exact Nat.min_le_right _ _
theorem oq (v:Int) (n d:Nat):(if v<0 then max (v+(n:Int)) 0 else min v (n:Int))=((sIx n d (some v):Nat):Int):=by
 show (if v<0 then max (v+(n:Int)) 0 else min v (n:Int))=(((if v<0 then (v+(n:Int)).toNat else min v.toNat n):Nat):Int)
 by_cases hv:v<0
 ·simp only [ZZ hv];omega
 ·simp only [ZY hv];omega
theorem mv (lo hi:Option Int) (n:Nat):ė lo hi 1 (n:Int)=(((sIx n 0 lo:Nat):Int),((sIx n n hi:Nat):Int)):=by
 have h1:¬ ((1:Int)<0):=by omega
 unfold ė
 simp only [h1,if_false]
 refine Prod.ext ?_ ?_
 ·cases lo with
  | none=>rfl
  | some v=>exact oq v n 0
 ·cases hi with
  | none=>rfl
  | some v=>exact oq v n n
theorem nH (i j:Nat):ì (i:Int) (j:Int) 1=j - i:=by
 unfold ì
 have h1:(1:Int)>0:=by omega
 simp only [h1,if_true,Int.ediv_one]
 split <;> omega
theorem ik (p:Ÿ v o) (h:Q o s):Ε (model prog w) A (HS v) Q E s:=by
 cases p with
 | none=>exact slicePart_none h
 | int i t=>exact slicePart_int h
theorem cK {sl:Δ} {vl vu:η} {lo hi:Option Int} {n:Nat} {Q:Int×Int×Nat→τ→Prop} (hs:s.heap.IsSliceOf sl vl vu .none) (pl:Ÿ vl lo) (pu:Ÿ vu hi)
 (h:Q (((sIx n 0 lo:Nat):Int),1,sIx n n hi - sIx n 0 lo) s):Ε (model prog w) A (Ŭ (.ref sl) (pure (n:Int))) Q E s:=by
 obtain ⟨os,hos,hcs,hds⟩:=id hs
 unfold Ŭ HU
 refine ε (ε (Ë hos hds (x:=vl) rfl (ε (Ë hos hds (x:=vu) rfl (ε (Ë hos hds (x:=.none) rfl (π ?_)))))))
 refine ε (slicePart_none ?_)
 show Ε _ _ (if ((1:Int) == 0)=true then _ else _) _ _ s
 rw [ZY (by decide)]
 refine ε (ik pl (ε (ik pu (ε (π ?_)))))
 show Ε _ _ (match ė lo hi 1 (n:Int) with | (lo,hi)=>pure (lo,(1:Int),ì lo hi 1)) _ _ s
 rw [mv lo hi n]
 show Ε _ _ (pure (((sIx n 0 lo:Nat):Int),(1:Int),ì ((sIx n 0 lo:Nat):Int) ((sIx n n hi:Nat):Int) 1)) _ _ s
 rw [nH]
 exact π h
theorem tX (xs:Array η) (i k:Nat):((Ō k).filterMap fun (m:Nat)=>xs[((i:Int)+(m:Int) * 1).toNat]?).toArray=((xs.toList.drop i).take k).toArray:=by
 have e:(fun (m:Nat)=>xs[((i:Int)+(m:Int) * 1).toNat]?)=fun m=>xs[i+m]?:=by
  funext m
  have:((i:Int)+(m:Int) * 1).toNat=i+m:=by omega
  rw [this]
 rw [e]
 have:=pick_run xs i k
 rw [List.filterMap_map] at this
 have e2:((fun x=>xs[x]?) ∘ fun x=>i+x)=fun m=>xs[i+m]?:=rfl
 rw [e2] at this
 rw [this]
theorem getItem_tuple_cut {t sl:Δ} {items:Array η} {vl vu:η} {lo hi:Option Int} {Q:η→τ→Prop} (ht:IsTup s.heap t items) (hs:s.heap.IsSliceOf sl vl vu .none) (pl:Ÿ vl lo) (pu:Ÿ vu hi)
 (hw:¬ (sIx items.size 0 lo=0∧sIx items.size items.size hi=items.size))
 (h:Q (.ref s.heap.objs.size) { s with heap:=s.heap.push { cls:=.type "tuple",data:=.seq ((items.toList.drop (sIx items.size 0 lo)).take (sIx items.size items.size hi - sIx items.size 0 lo)).toArray } })
 (hsz:items.size≤ϙ):Ε (model prog w) A (Ed (.ref t) (.ref sl)) Q E s:=by
 have htake:sizeOk (.seq ((items.toList.drop (sIx items.size 0 lo)).take (sIx items.size items.size hi - sIx items.size 0 lo)).toArray):=by
  show ((items.toList.drop (sIx items.size 0 lo)).take (sIx items.size items.size hi - sIx items.size 0 lo)).toArray.size≤ϙ
  rw [Μ,Ϡ,ϖ,š]
  omega
 have hj:sIx items.size items.size hi≤items.size:=zS _ _ (ύ _) hi
 obtain ⟨os,hos,hcs,hds⟩:=id hs
 have hTs:s.TypeIs (.ref sl) "slice":=⟨os,hos,hcs⟩
 unfold Ed
 try with_reducible refine ώ ?_
 first | refine ε (π ?_) | skip
 refine ε (E8 ht.typeIs (by decide) ?_)
 refine ε (Ś (name:=Ô "__getitem__") ht.typeIs Ú
  (ř Ú ht.typeIs GX ?_ (He _ _)))
 show Ε _ _ (Ū (.ref t) >>= _) _ _ s
 refine ε (tupleItemsOf_ ht ?_)
 refine ε (E7 hTs ?_)
 rw [ZZ (by decide)]
 refine ε (cK hs pl pu ?_)
 have hno:¬ ((((sIx items.size 0 lo:Nat):Int) == 0 && (1:Int) == 1 && (sIx items.size items.size hi - sIx items.size 0 lo) == items.size)=true):=by
  intro q
  rw [Θ,Θ] at q
  have q1:((sIx items.size 0 lo:Nat):Int)=0:=eq_of_beq q.1.1
  have q2:sIx items.size items.size hi - sIx items.size 0 lo=items.size:=eq_of_beq q.2
  exact hw ⟨by omega,by omega⟩
 show Ε _ _ (if (((sIx items.size 0 lo:Nat):Int) == 0 && (1:Int) == 1 && (sIx items.size items.size hi - sIx items.size 0 lo) == items.size)=true then _ else _) _ _ s
 rw [ZY hno,tX]
 first
  | exact ε (m:=ò _) (ø (π ⟨_,rfl,π h⟩) htake)
  | exact ε (m:=ò _) (ø (ε (π (π ⟨_,rfl,π h⟩))) htake)
  | exact ε (ε (m:=ò _) (ø (π (π ⟨_,rfl,π h⟩)) htake))
  | exact ε (ε (m:=ò _) (ø (π ⟨_,rfl,π h⟩) htake))
end
end HT
namespace L2
def ixN (n:Nat) (i:Int):Option Nat:=if 0≤i then (if i<n then some i.toNat else none) else if -(n:Int)≤i then some (i+n).toNat else none
def atI {α:Type} (xs:List α) (i:Int):Option α:=(ixN xs.length i).bind fun j=>xs[j]?
theorem oR (h:ixN n i=some j):seqIndex? i n=some j∧j<n∧-(n:Int)≤i∧i<n:=by
 unfold ixN at h
 by_cases h0:0≤i
 ·rw [ZZ h0] at h
  by_cases h1:i<n
  ·rw [ZZ h1] at h
   have e:i.toNat=j:=ϝ h
   exact ⟨by rw [GJ h0 h1,e],by omega,by omega,h1⟩
  ·rw [ZY h1] at h;cases h
 ·rw [ZY h0] at h
  by_cases h1:-(n:Int)≤i
  ·rw [ZZ h1] at h
   have e:(i+n).toNat=j:=ϝ h
   exact ⟨by rw [G5 (by omega) h1,e],by omega,h1,by omega⟩
  ·rw [ZY h1] at h;cases h
theorem je (h:atI xs i=some v):∃ j,seqIndex? i xs.length=some j∧xs[j]? = some v∧j<xs.length∧-(xs.length:Int)≤i∧i<xs.length:=by
 unfold atI at h
 cases e:ixN xs.length i with
 | none=>rw [e] at h;cases h
 | some j=>
   rw [e] at h
   obtain ⟨h1,h2,h3,h4⟩:=oR e
   exact ⟨j,h1,h,h2,h3,h4⟩
theorem bq {α:Type} {xs:List α} {j:Nat} {v:α} (h:xs[j]? = some v):atI xs (j:Int)=some v:=by
 have hj:j<xs.length:=(ν.mp h).1
 have e:ixN xs.length (j:Int)=some j:=by
  unfold ixN
  rw [ZZ (by omega),ZZ (by omega)];simp
 unfold atI;rw [e];exact h
section
variable {X:Cx} {a b:Ξ} {ta tb:TE} {pos:ϧ}
theorem jS (lo hi) (n):(î lo hi none n).1=((HT.sIx n 0 lo:Nat):Int)∧(î lo hi none n).2.1=((HT.sIx n n hi:Nat):Int)∧(î lo hi none n).2.2=1:=by
 refine ⟨?_,?_,rfl⟩
 ·cases lo with
  | none=>simp [î,HT.sIx]
  | some i=>
    simp only [î,HT.sIx,FU,show (1:Int)>0 by decide,if_true]
    by_cases h:i<0
    ·simp only [h,if_true] <;> omega
    ·simp only [h,if_false] <;> omega
 ·cases hi with
  | none=>simp [î,HT.sIx]
  | some i=>
    simp only [î,HT.sIx,FU,show (1:Int)>0 by decide,if_true]
    by_cases h:i<0
    ·simp only [h,if_true] <;> omega
    ·simp only [h,if_false] <;> omega
theorem iG (its:List η) (lo hi:Option Int):slicePick its.toArray lo hi none=((its.drop (HT.sIx its.length 0 lo)).take (HT.sIx its.length its.length hi - HT.sIx its.length 0 lo)).toArray:=by
 obtain ⟨h1,h2,h3⟩:=jS lo hi its.toArray.size
 unfold slicePick
 rw [h1,h2,h3]
 simp only [sliceRange_one,pick_run,Μ] <;> rfl
variable {o e:Ξ} {es:List Ξ} {to:TE} {t:TA} {name:θ} {apos cpos:ϧ} {T id:String} {r:V→List V→Hp→VK→Prop}
end
end L2
namespace Att
open PySem PySem.W PySem.Calls PyProof.Rows
theorem fZ :∀ (ns) (vs),WellAll P h vs (ns.map WData.int)→Gi vs ns:=by
 intro ns
 induction ns with
 | nil=>
   intro vs w
   rw [Ŏ] at w
   cases w
   exact .nil
 | cons n ns ih=>
   intro vs w
   rw [Ė] at w
   cases w with
   | cons a b=>
     cases a
     exact .cons _ _ (ih _ b)
theorem qL {l:OpenLaw} {n:Nat} (hn:l.most=some n) {P:Params} {h:Â} {args:List WData} {vals:List η}
 (hpre:l.row.toRowW.claim.pre args=true) (hwl:WellAll P h vals args) :
 ∃ a vs ns,vals = [É a]∧args = [WData.list (ns.map WData.int)]∧h.get? a=some { cls:=.type "list",data:=.seq vs.toArray }∧Gi vs ns∧ns.length≤n:=by
 have hsh:WShape.hasAll [] args [.list .int]=true:=(pre_splitW hpre).1
 have hc:l.pre.holds [] { args:=args }=true:=(pre_splitW hpre).2
 obtain ⟨d,r,rfl,h1,h2⟩:=hasAllW_cons hsh
 obtain rfl:=hasAllW_nil h2
 obtain ⟨xs,rfl,h3⟩:=hasW_list h1
 obtain ⟨ns,rfl⟩:=items_int h3
 have hlen:ns.length≤n:=by
  unfold OpenLaw.pre at hc
  have h4:(WTm.not (.lt (.lit (.int (n:Int))) (.len (.arg 0)))).holds [] { args:=[.list (ns.map .int)] }=true:=by
   have h4:=(holds_andW hc).1
   rw [hn] at h4
   exact h4
  have h5:=condW_of h4 (w_not (w_lt w_lit (w_len_list (w_arg rfl))))
  rw [ο] at h5
  refine Nat.le_of_not_lt fun q=>?_
  have q':(n:Int)<((ns.length:Nat):Int):=by omega
  first
   | (rw [ZW q'] at h5;exact ZX h5 (by decide))
   | (simp at h5;omega)
 cases hwl with
 | cons w1 w2=>
   cases w2
   cases w1 with
   | list ho hall=>exact ⟨_,_,ns,rfl,rfl,ho,fZ ns _ hall,hlen⟩
theorem qF (l:OpenLaw) (args:List WData):l.row.toRowW.claim.post args (.bool true) args=true:=
 postW_of (r:=l.row.toRowW) (X:=(true == true))
  (show WShape.has [] (.bool true) .bool=true by first | rfl | decide | simp [WShape.has,WShape.arms,WShape.armsAll])
  (show (WTm.eq .res (.lit (.bool true))).value [] { args:=args,res:=some (.bool true),after:=args }=some (.bool (true == true)) from w_eq_bool (w_res rfl) w_lit) rfl
theorem attach_call {l:OpenLaw} {n:Nat} {q:Î} {loose:List θ} {XP:(θ→Option η)→Â→Prop} {YP:é→Â→Prop} {d:DefRec}
 (hn:l.most=some n) (hdf:d.params.defaults = [])
 (call:∀ (w:é) (s₀ s₁:τ) (mg mb:θ→Option η) (fa:Δ) (o:FX) (pm cd doc:η) (a:Δ) (vs:List η) (ns:List Int),
  Ground q loose [] XP w s₀ mg mb s₁.heap→YP w s₁.heap →
  s₁.heap.get? fa=some o→o.data = .func (docDef d.name d.params d.body d.scope pm cd doc)→s₁.heap.CodeRec cd d.name→mg d.name=some (.ref fa) →
  s₁.heap.get? a=some { cls:=.type "list",data:=.seq vs.toArray }→Gi vs ns→ns.length≤n→s₁.gens = #[] →
  Ĳ (model l.prog w) Eg (.call (.ref fa) ⟨[.ref a],[]⟩) (fun r s'=>r = .ok (.ret (.bool true))∧OldK s₁.heap s'.heap∧s'.os=s₁.os∧ŏ s'.gens) s₁) :
 WalkO q loose XP YP l.row.toRowW d [] (fun f vs=>FE f vs):=by
 intro w s₀ s₁ mg mb G Y fa o pm cd doc dV kV ho hd hcd hD hmg hg args vals as hpre hlay hrd hwl hlo
 obtain rfl:dV = .none:=Dflts.none hD hdf
 obtain rfl:kV = .none:=Dflts.noKw hD
 obtain ⟨a,vs,ns,rfl,rfl,hobj,hints,hlen⟩:=qL hn hpre hwl
 refine enter_call (ü (call w s₀ s₁ mg mb fa o pm cd doc a vs ns G Y ho (fd_plain hd) hcd hmg hobj hints hlen hg) fun r s' hq=>?_)
 obtain ⟨rfl,h2,h3,h4⟩:=hq
 exact ⟨.inl ⟨.bool true,.bool true,[],rfl,fun _=>rfl,.bool true,qF l _,fun _=>⟨List.Pairwise.nil,fun _ hm=>(nomatch hm)⟩⟩,h2,h3,h4⟩
end Att
namespace L2
def aG (s:Ø):G4:=match s with
 | .FunctionDef _ a _ _ _ _ _ _ _ _=>a
 | _=>{ posonlyargs:=[],args:=[],vararg:=none,kwonlyargs:=[],kw_defaults:=[],kwarg:=none,defaults:=[] }
def bY (s:Ø):List Ø:=match s with
 | .FunctionDef _ _ b _ _ _ _ _ _ _=>b
 | _=>[]
def au (s:Ø):Ą:=match s with
 | .FunctionDef _ _ _ _ _ _ sc _ _ _=>sc
 | _=>{ kind:=.function,names:=[],isGenerator:=false,isCoroutine:=false }
structure Fun (K:ς) (x qual:θ) (st:Ø) (f:Δ) (fd:á):Prop where
 ex:∃ (oc:η) (od:Option Δ) (kV doc pm:η) (an:Option Δ) (cdv ct:η) (osl:Array (Option η)),
  fd=Ê x qual (aG st) (bY st) (au st) .none kV doc pm an cdv ct∧K.lookup f=some ⟨oc,od,.func fd,osl⟩∧ñ K cdv qual=true
 kp:Ϝ K (.ref f)=true
section
variable {P:Î} {w:é} {K:ς} {mg:θ→Option η} {base:Â}
theorem Fun.binds {x qual:θ} {st:Ø} {f:Δ} {fd:á} {ps:List θ} (F:Fun K x qual st f fd)
 (h:∀ (kV doc pm:η) (an:Option Δ) (cdv ct:η) (us:List η),us.length=ps.length→bindArgs (Ê x qual (aG st) (bY st) (au st) .none kV doc pm an cdv ct) ⟨us,[]⟩=pure (ps.zip us)):b6 K fd ps []:=by
 obtain ⟨oc,od,kV,doc,pm,an,cdv,ct,osl,rfl,lk,hcd⟩:=F.ex
 exact .all (h kV doc pm an cdv ct)
theorem mI {x qual:θ} {st:Ø} {f:Δ} {oc:η} {od an:Option Δ} {osl:Array (Option η)} {kV doc pm cdv ct:η} (l:K.lookup f=some ⟨oc,od,.func (Ê x qual (aG st) (bY st) (au st) .none kV doc pm an cdv ct),osl⟩)
 (c:ñ K cdv qual=true) (k:Ϝ K (.ref f)=true):Fun K x qual st f (Ê x qual (aG st) (bY st) (au st) .none kV doc pm an cdv ct):=⟨⟨oc,od,kV,doc,pm,an,cdv,ct,osl,rfl,l,c⟩,k⟩
end
end L2
section
namespace L2.Bk
open PySem
inductive Dk where
 | non
 | int (i:Int)
 | bl (b:Bool)
 | str (x:θ)
 | tup (xs:List Dk)
def sumI:List Int→Int
 | []=>0
 | x :: r=>x+sumI r
end L2.Bk
namespace L2.Bw
def maxD (d:Int):List Int→Int
 | []=>d
 | x :: r=>r.foldl (fun a b=>if b>a then b else a) x
end L2.Bw
namespace L2.Ev
inductive D where
 | non | bl (b:Bool) | int (i:Int) | str (x:θ) | tup (l:List D) | lst (l:List D) | dic (k:List Key) (l:List D) | ins (c:Nat) (l:List D) | ref (n:Nat)
inductive O where
 | lst (l:List D) | dic (k:List Key) (l:List D) | ins (c:Nat) (l:List D)
inductive Op where
 | add | sub | mul | fdiv | mod | pow | shl | shr | band | bxor | eq | ne | lt | le | gt | ge | isin | notin | eq2
 deriving DecidableEq
inductive Bi where
 | len | tuple | list | all | max0 | sum | abs | str | int | range1 | range2 | zip2 | zip3 | enum | enum2 | rev | dict | max2 | min2 | isTup | isStr | isInt | isBool | isLst | isDic | isVal | setl
 deriving DecidableEq
inductive SM where
 | rep (y z:θ) | spl (y:θ) | dig | sta (y:θ) | mulc (y:θ) | cnt | mull
inductive E where
 | sm (k:SM) (a:E) | pop (a:E) | isXv (a:E) | snap (i:Nat) (a:E)
 | v (i:Nat) | c (d:D) | g (j:Nat) | op (o:Op) (a b:E) | isN (a:E) | isNN (a:E) | neg (a:E) | not (a:E) | and (a b:E) | or (a b:E) | ite (c a b:E)
 | chain (o p:Op) (a b c:E)
 | ix (a b:E) | sl (a lo hi:E) | fld (a:E) (f:Nat) | tup (es:E) | lst (es:E) | dic (es:E) | nil | cons (a es:E)
 | call (j:Nat) (es:E) | hcall (j:Nat) (es:E) | mth (c j:Nat) (a es:E) | new (j:Nat) (es:E) | bi (b:Bi) (es:E) | join (x:θ) (a:E) | get (a b c:E) | index (a b:E) | isX (a:E) (js:List Nat)
 | lc (t:List Nat) (one:Bool) (it elt cond:E)
 | tab (j:Nat) (e:E) | tabin (j:Nat) (e:E)
 | newl (es:E) | keep (kp:List Nat) (a:E) | sto (a:E) | fcall (own:Bool) (j:Nat) (es:E)
 | sl3 (a lo st:E) | tget (j:Nat) (e d:E) | newd (j:Nat) (es:E) | fmt (x:θ) (a:E) (y:θ) | dicc (ks:List θ) (es:E)
 | tand (a b:E) | tor (a b:E) | tnot (a:E) | tv (a:E) | it (b:Bi) (es:E) | itv (a:E)
inductive S where
 | skip | seq (a b:S) | set (i:Nat) (e:E) | setT (l:List Nat) (e:E) | setR (i:Nat) (es:E) | ret (e:E) | ifs (c:E) (a b:S) | drop (e:E)
 | app (i:Nat) (e:E) | ext (i:Nat) (e:E) | put (a b e:E) | fld (a:E) (f:Nat) (e:E) | aug (a:E) (f:Nat) (o:Op) (e:E) | fapp (a:E) (f:Nat) (e:E) | fext (a e:E)
 | for_ (t:List Nat) (one:Bool) (it:E) (b:S) | whl (c:E) (b:S) | rais (j:Nat) (es:E) | try_ (a:S) (hs:S) | hand (j:Nat) (i:Option Nat) (b rest:S)
def fl:D→Bool
 | .non=>true | .bl _=>true | .int _=>true | .str _=>true | _=>false
def eqf:D→D→Bool
 | .non,.non=>true
 | .bl a,.bl b=>a == b
 | .bl a,.int b=>(if a then 1 else 0) == b
 | .int a,.int b=>a == b
 | .int a,.bl b=>a == (if b then 1 else 0)
 | .str a,.str b=>a == b
 | _,_=>false
def sh:D→Nat
 | .non=>0 | .bl _=>0 | .int _=>0 | .str _=>0 | .tup _=>1 | .lst _=>2 | _=>3
def eq0 (d e:D):Option Bool:=
 if sh d=3∨sh e=3 then none else if sh d=0∧sh e=0 then some (eqf d e) else if sh d=sh e then none else some false
def gJ (f:D→D→Option Bool):List D→List D→Option Bool
 | d :: a,e :: b=>(match f d e with | none=>none | some x=>(gJ f a b).map (x && ·))
 | _,_=>some true
def eqv:Nat→D→D→Option Bool
 | 0,d,e=>eq0 d e
 | n+1,.tup a,.tup b=>(gJ (eqv n) a b).map (· && a.length == b.length)
 | n+1,.lst a,.lst b=>if a.length=b.length then gJ (eqv n) a b else some false
 | _+1,d,e=>eq0 d e
end L2.Ev
namespace L2.Ev
structure Fn where
 np:Nat
 ns:Nat
 body:S
 df:List D
structure Cl where
 what:Nat
 at_:List Nat
 init:Nat
 me:List (Nat×Nat)
 sup:List Nat
 chk:List Nat:=[]
def toD:L2.Bk.Dk→D
 | .non=>.non
 | .int i=>.int i
 | .bl b=>.bl b
 | .str x=>.str x
 | .tup l=>.tup (toDs l)
where toDs:List L2.Bk.Dk→List D
 | []=>[]
 | d :: r=>toD d :: toDs r
structure Gm where
 gl:List L2.Bk.Dk
 tb:List (List (θ×L2.Bk.Dk))
 fn:List Fn
 cl:List Cl
structure Sta where
 env:List (Option D)
 ow:List Nat
 st:List O
inductive Out (α:Type) where
 | ok (a:α) (s:Sta) | exc (c:Nat) (l:List D) (s:Sta) | bad
inductive Res where
 | ok (d:D) (st:List O) | exc (c:Nat) (l:List D) (st:List O) | bad
inductive ah where
 | nx (s:Sta) | rt (d:D) (s:Sta) | exc (c:Nat) (l:List D) (s:Sta) | bad
def Out.bind {α β:Type} (x:Out α) (f:α→Sta→Out β):Out β:=match x with
 | .ok a s=>f a s
 | .exc c l s=>.exc c l s
 | .bad=>.bad
def Out.of {α:Type} (s:Sta):Option α→Out α
 | some a=>.ok a s
 | none=>.bad
def Out.go {α:Type} (x:Out α) (f:α→Sta→ah):ah:=match x with
 | .ok a s=>f a s
 | .exc c l s=>.exc c l s
 | .bad=>.bad
def ah.go (x:ah) (f:Sta→ah):ah:=match x with
 | .nx s=>f s
 | y=>y
def kH:D→Bool
 | .non=>true | _=>false
def un (s:Sta) (i:Nat):Sta:=⟨s.env,s.ow.filter (· != i),s.st⟩
def look (st:List O):D→D
 | .ref n=>(match st[n]? with | some (.lst l)=>.lst l | some (.dic k l)=>.dic k l | _=>.ref n)
 | d=>d
def cb:D→Option Key
 | .int i=>some (.inl i)
 | .str x=>some (.inr x)
 | _=>none
def eh:List Key→List D→Key→Option D
 | k :: ks,d :: ds,x=>if k=x then some d else eh ks ds x
 | _,_,_=>none
def lA:List Key→List D→Key→D→List D
 | k :: ks,d :: ds,x,e=>(if k=x then e else d) :: lA ks ds x e
 | _,ds,_,_=>ds
def dk (ks:List Key) (ds:List D) (x:Key) (e:D):List Key×List D:=if ks.any (fun k=>decide (k=x))=true then (ks,lA ks ds x e) else (ks ++ [x],ds ++ [e])
def inD (d:D):List D→Option Bool
 | []=>some false
 | e :: r=>match eqv 55 e d with | none=>none | some b=>(inD d r).map (b || ·)
def eA (n:Nat) (d:D):Option D:=if n≤100000 then some d else none
def opI (o:Op) (i j:Int):Option D:=match o with
 | .add=>some (.int (i+j))
 | .sub=>some (.int (i - j))
 | .mul=>if ((-(2 ^ 64)<i∧i<2 ^ 64)∨(-(2 ^ 64)<j∧j<2 ^ 64))∨(i.natAbs<2 ^ 400∧j.natAbs<2 ^ 400) then some (.int (i * j)) else none
 | .fdiv=>if 0<j∧j<2 ^ 200 then some (.int (i / j)) else none
 | .mod=>if 0<j then some (.int (i % j)) else none
 | .pow=>if 0≤j∧j≤1000000∧i.natAbs<2 ^ 64 then some (.int (i ^ j.toNat)) else none
 | .shl=>if 0≤j∧j≤1000000∧i.natAbs<2 ^ 64 then some (.int (i * 2 ^ j.toNat)) else none
 | .shr=>if 0≤j then some (.int (i / 2 ^ j.toNat)) else none
 | .band=>some (.int (Builtin.bitAnd i j))
 | .bxor=>some (.int (Builtin.bitXor i j))
 | .lt=>some (.bl (decide (i<j)))
 | .le=>some (.bl (decide (i≤j)))
 | .gt=>some (.bl (decide (j<i)))
 | .ge=>some (.bl (decide (j≤i)))
 | _=>none
def si (ls:List Key) (es:List D):List Key→List D→Option Bool
 | k :: ks,d :: ds=>(match eh ls es k with | none=>some false | some e=>(match eqv 55 d e with | none=>none | some x=>(si ls es ks ds).map (x && ·)))
 | _,_=>some true
def eqT (a b:D):Option Bool:=match a,b with
 | .dic ks ds,.dic ls es=>if ks.length=ls.length then si ls es ks ds else some false
 | a,b=>eqv 55 a b
def A6:List D→List D→Bool
 | [],[]=>true
 | d :: l,e :: m=>eqT d e == some true && A6 l m
 | _,_=>false
def C7 (a b:D):Option D:=match a,b with
 | .tup l,.tup m=>if A6 l m then some (.bl true) else none
 | _,_=>none
def opD (o:Op) (a b:D):Option D:=match o with
 | .eq2=>C7 a b
 | .eq=>(eqT a b).map .bl
 | .ne=>(eqT a b).map fun x=>.bl (!x)
 | .isin=>(match b with | .str y=>(match a with | .str x=>some (.bl (HI y x)) | _=>none) | .lst l=>(inD a l).map .bl | .tup l=>(inD a l).map .bl | .dic ks ds=>(cb a).map fun k=>.bl (eh ks ds k).isSome | _=>none)
 | .notin=>(match b with | .str y=>(match a with | .str x=>some (.bl (!Txt.contains y x)) | _=>none) | .lst l=>(inD a l).map fun x=>.bl (!x) | .tup l=>(inD a l).map fun x=>.bl (!x) | .dic ks ds=>(cb a).map fun k=>.bl (!(eh ks ds k).isSome) | _=>none)
 | _=>match a,b with
   | .int i,.int j=>opI o i j
   | .str x,.str y=>if o = .add then eA (x.length+y.length) (.str (x ++ y)) else none
   | .tup x,.tup y=>if o = .add then eA (x.length+y.length) (.tup (x ++ y)) else none
   | .lst x,.lst y=>if o = .add then eA (x.length+y.length) (.lst (x ++ y)) else none
   | _,_=>none
def wO:D→Option Bool
 | .bl b=>some b
 | .tup l=>some (!l.isEmpty)
 | .lst l=>some (!l.isEmpty)
 | .int i=>some (i != 0)
 | .non=>some false
 | _=>none
def ixD (a b:D):Option D:=match a,b with
 | .tup l,.int i=>atI l i
 | .lst l,.int i=>atI l i
 | .str x,.int i=>if x.length≤100000 then (atI x.cps.toList i).map fun c=>.str ⟨#[c]⟩ else none
 | .dic ks ds,k=>(cb k).bind fun k=>eh ks ds k
 | _,_=>none
def cutD (xs:List D) (lo hi:Option Int):List D:=(xs.drop (HT.sIx xs.length 0 lo)).take (HT.sIx xs.length xs.length hi - HT.sIx xs.length 0 lo)
def slO (a:D) (l h:Option Int):Option D:=match a with
 | .tup x=>some (.tup (cutD x l h))
 | .lst x=>some (.lst (cutD x l h))
 | .str x=>if x.length≤100000 then some (.str (Ϗ x l h)) else none
 | _=>none
def B8 {α:Type} (xs:List α) (lo:Option Int) (st:Int):List α:=(sliceRange (î lo none (some st) xs.length).1 (î lo none (some st) xs.length).2.1 (î lo none (some st) xs.length).2.2).filterMap (xs[·]?)
def qM (a:D) (l st:Option Int):Option D:=match a,st with
 | .lst x,some k=>if k=0 then none else some (.lst (B8 x l k))
 | _,_=>none
def isDic:D→Bool
 | .dic _ _=>true
 | _=>false
def bD:E→Bool
 | .nil=>true
 | _=>false
def toI (d:D) (s:Sta):Out (Option Int):=match d with | .int i=>.ok (some i) s | _=>.bad
def gN:List D→Option (List Int)
 | []=>some []
 | .int i :: r=>(gN r).map (i :: ·)
 | _=>none
def fR:List D→Option (List Bool)
 | []=>some []
 | .bl i :: r=>(fR r).map (i :: ·)
 | _=>none
def eg:List D→Option (List θ)
 | []=>some []
 | .str i :: r=>(eg r).map (i :: ·)
 | _=>none
def di (b:Bi) (x:D):Option D:=match b,x with
 | .len,.tup l=>some (.int l.length)
 | .len,.lst l=>some (.int l.length)
 | .len,.str x=>if x.length≤100000 then some (.int x.length) else none
 | .len,.dic k _=>if k.length≤100000 then some (.int k.length) else none
 | .tuple,.lst l=>some (.tup l)
 | .tuple,.tup l=>some (.tup l)
 | .list,.tup l=>some (.lst l)
 | .list,.lst l=>some (.lst l)
 | .rev,.lst l=>some (.lst l.reverse)
 | .all,.lst l=>(fR l).map fun bs=>.bl (bs.all id)
 | .sum,.lst l=>(gN l).map fun ns=>.int (L2.Bk.sumI ns)
 | .max2,.lst l=>(match gN l with | some (n :: r)=>some (.int (L2.Bw.maxD 0 (n :: r))) | _=>none)
 | .abs,.int i=>some (.int (if i<0 then -i else i))
 | .str,.str x=>some (.str x)
 | .str,.int i=>if i.natAbs.log2<1920 then some (.str (Ô (toString i))) else none
 | .int,.int i=>some (.int i)
 | .int,.bl k=>some (.int (if k then 1 else 0))
 | .int,.str x=>if x.length≤640 then (ą x).map .int else none
 | .dict,.dic k l=>some (.dic k l)
 | .setl,.lst l=>(gN l).bind fun ns=>if ns.length+1<4096 then some (.int ((HY (fun i=>ns.getD i 0) ns.length).length:Nat)) else none
 | .isTup,d=>(match d with | .tup _=>some (.bl true) | .ref _=>none | .ins _ _=>none | _=>some (.bl false))
 | .isStr,d=>(match d with | .str _=>some (.bl true) | .ref _=>none | .ins _ _=>none | _=>some (.bl false))
 | .isBool,d=>(match d with | .bl _=>some (.bl true) | .ref _=>none | .ins _ _=>none | _=>some (.bl false))
 | .isInt,d=>(match d with | .bl _=>some (.bl true) | .int _=>some (.bl true) | .ref _=>none | .ins _ _=>none | _=>some (.bl false))
 | .isLst,d=>(match d with | .lst _=>some (.bl true) | .ref _=>none | .ins _ _=>none | _=>some (.bl false))
 | .isDic,d=>(match d with | .dic _ _=>some (.bl true) | .ref _=>none | .ins _ _=>none | _=>some (.bl false))
 | .isVal,d=>(match d with | .lst _=>some (.bl true) | .int _=>some (.bl true) | .bl _=>some (.bl true) | .str _=>some (.bl true) | .ref _=>none | .ins _ _=>none | _=>some (.bl false))
 | _,_=>none
def Av (b:Bi) (x y:D):Option D:=match b,x,y with
 | .max0,.lst l,.int d=>(gN l).map fun ns=>.int (L2.Bw.maxD d ns)
 | .max2,.int i,.int j=>some (.int (if j>i then j else i))
 | .min2,.int i,.int j=>some (.int (if j<i then j else i))
 | _,_,_=>none
def Cy (b:Bi) (x y z:D):Option D:=match b,x,y,z with
 | .max2,.int i,.int j,.int k=>some (.int (if j>i then (if k>j then k else j) else if k>i then k else i))
 | _,_,_,_=>none
def biD (b:Bi) (ds:List D):Option D:=match ds with
 | [x]=>di b x
 | [x,y]=>Av b x y
 | [x,y,z]=>Cy b x y z
 | _=>none
def yy:Key→D
 | .inl i=>.int i
 | .inr x=>.str x
def lZ:D→Option (List D)
 | .lst l=>some l
 | .tup l=>some l
 | .dic ks _=>some (ks.map yy)
 | .str x=>if x.cps.all (· < 128)=true then some (x.cps.toList.map fun c=>.str ⟨#[c]⟩) else none
 | _=>none
def hW (lo:Int) (n:Nat):List D:=(Ō n).map fun (i:Nat)=>.int (lo+i)
def Cu:List D→List D→List D
 | a :: r,b :: q=>.tup [a,b] :: Cu r q
 | _,_=>[]
def xJ:List D→List D→List D→List D
 | a :: r,b :: q,c :: p=>.tup [a,b,c] :: xJ r q p
 | _,_,_=>[]
def cY:Int→List D→List D
 | i,a :: r=>.tup [.int i,a] :: cY (i+1) r
 | _,[]=>[]
def sqL:D→Option (List D)
 | .lst l=>some l
 | .tup l=>some l
 | _=>none
def yv (b:Bi) (x:D):Option (List D):=match b,x with
 | .range1,.int j=>if -(2 ^ 62)≤j∧j<2 ^ 62 then some (hW 0 j.toNat) else none
 | .enum,.lst x=>some (cY 0 x)
 | .rev,.lst x=>some x.reverse
 | _,_=>none
def Da (b:Bi) (x y:D):Option (List D):=match b,x,y with
 | .range2,.int i,.int j=>if (-(2 ^ 62)≤i∧i<2 ^ 62∧-(2 ^ 62)≤j∧j<2 ^ 62) then some (hW i (j - i).toNat) else none
 | .zip2,x,y=>(match sqL x,sqL y with | some l,some m=>if l.length≤m.length then some (Cu l m) else none | _,_=>none)
 | .enum2,.tup x,.int n=>if GB n=true∧0≤n then some (cY n x) else none
 | _,_,_=>none
def Db (b:Bi) (x y z:D):Option (List D):=match b,x,y,z with
 | .zip3,x,y,z=>(match sqL x,sqL y,sqL z with | some l,some m,some n=>if l.length≤m.length∧l.length≤n.length then some (xJ l m n) else none | _,_,_=>none)
 | _,_,_,_=>none
def itD (b:Bi) (ds:List D):Option (List D):=match ds with
 | [x]=>yv b x
 | [x,y]=>Da b x y
 | [x,y,z]=>Db b x y z
 | _=>none
def mH (Γ:Gm) (st:List O) (d:D) (f:Nat):Option D:=match d with
 | .ins c l=>(Γ.cl[c]?).bind fun k=>l[k.at_.idxOf f]?
 | .ref n=>(match st[n]? with | some (.ins c l)=>(Γ.cl[c]?).bind fun k=>l[k.at_.idxOf f]? | _=>none)
 | _=>none
def aJ (t:List Nat) (one:Bool) (d:D) (env:List (Option D)):Option (List (Option D)):=
 if one then (match t with | [i]=>some (env.set i (some d)) | _=>none)
 else (match d with
  | .tup l=>if l.length=t.length then some ((t.zip l).foldl (fun e p=>e.set p.1 (some p.2)) env) else none
  | .lst l=>if l.length=t.length then some ((t.zip l).foldl (fun e p=>e.set p.1 (some p.2)) env) else none
  | _=>none)
def noX {α:Type}:Out α→Out α
 | .exc _ _ _=>.bad
 | o=>o
def bx (f:D→Sta→Out (Option D)):List D→List D→Sta→Out D
 | [],acc,s=>.ok (.lst acc) s
 | d :: r,acc,s=>(f d s).bind fun o s'=>match o with
   | some e=>if acc.length<100000 then bx f r (acc ++ [e]) s' else .bad
   | none=>bx f r acc s'
def Out.back {α:Type} (env:List (Option D)):Out α→Out α
 | .ok d s=>.ok d ⟨env,[],s.st⟩
 | .exc c l s=>.exc c l ⟨env,[],s.st⟩
 | .bad=>.bad
mutual
noncomputable def noL:D→Bool
 | .lst _=>false
 | .tup l=>kZ l
 | .dic _ l=>kZ l
 | .ins _ l=>kZ l
 | _=>true
noncomputable def kZ:List D→Bool
 | []=>true
 | d :: r=>noL d && kZ r
end
mutual
noncomputable def noR:D→Bool
 | .ref _=>false
 | .tup l=>aU l
 | .lst l=>aU l
 | .dic _ l=>aU l
 | .ins _ l=>aU l
 | _=>true
noncomputable def aU:List D→Bool
 | []=>true
 | d :: r=>noR d && aU r
end
def nv:O→Bool
 | .lst _=>false
 | .dic _ l=>kZ l
 | .ins _ l=>kZ l
def bJ:E→List Nat
 | .cons (.v i) r=>i :: bJ r
 | .cons _ r=>bJ r
 | _=>[]
def isLst:Option (Option D)→Bool
 | some (some (.lst _))=>true
 | _=>false
def aft (es:E) (s:Sta) (d:D) (st:List O):Sta:=⟨s.env,s.ow.filter fun i=>!(bJ es).contains i || (isLst s.env[i]? && (noL d && st.all nv)),st⟩
def drp (es:E) (s:Sta) (st:List O):Sta:=⟨s.env,s.ow.filter fun i=>!(bJ es).contains i,st⟩
def rG:List D→Option (List Key×List D)
 | []=>some ([],[])
 | [_]=>none
 | k :: d :: r=>(cb k).bind fun k=>(rG r).bind fun p=>if p.1.contains k then none else some (k :: p.1,d :: p.2)
def vq:D→Bool
 | .tup _=>true
 | _=>false
def By (x y:D):Option D:=match x,y with
 | .tup l,.str k=>(eg l).bind fun ss=>(ss.findIdx? (· == k)).map fun (j:Nat)=>.int j
 | _,_=>none
def xv (x:θ) (y:D):Option D:=match y with
 | .lst l=>(eg l).bind fun ss=>if x.length≤64∧(ss.map (·.length)).sum≤100000∧ss.length≤1000 then some (.str (Txt.join x ss)) else none
 | _=>none
def Bb (x:θ) (v:D) (y:θ):Option D:=match v with
 | .str z=>if x.length≤1000∧z.length≤100000∧y.length≤1000 then some (.str (((Ã ++ x) ++ z) ++ y)) else none
 | _=>none
mutual
noncomputable def shD (k:Nat):D→D
 | .tup l=>.tup (iF k l)
 | .lst l=>.lst (iF k l)
 | .dic ks l=>.dic ks (iF k l)
 | .ins c l=>.ins c (iF k l)
 | .ref n=>.ref (k+n)
 | d=>d
noncomputable def iF (k:Nat):List D→List D
 | []=>[]
 | d :: r=>shD k d :: iF k r
end
def shO (k:Nat):O→O
 | .lst l=>.lst (iF k l)
 | .dic ks l=>.dic ks (iF k l)
 | .ins c l=>.ins c (iF k l)
def fX (Γ:Gm) (c:Nat):Bool:=match Γ.cl[c]? with | some k=>k.what == 2 | none=>false
def BC (Γ:Gm) (x:D) (js:List Nat):Option D:=match x with
 | .ins c _=>if (fX Γ c && js.all (fX Γ))=true then (Γ.cl[c]?).map fun k=>.bl (js.any fun j=>c == j || k.sup.contains j) else none
 | _=>none
def ak:E→Bool
 | .lst _=>true | .lc ..=>true | .bi .list _=>true | .bi .rev _=>true | .bi .dict _=>true | .dic _=>true | .keep _ a=>ak a | .fcall own _ _=>own | .snap _ a=>ak a | _=>false
mutual
noncomputable def flT:D→Bool
 | .non=>true | .bl _=>true | .int _=>true | .str _=>true
 | .tup l=>flTs l
 | _=>false
noncomputable def flTs:List D→Bool
 | []=>true
 | d :: r=>flT d && flTs r
end
def flR:D→Bool
 | .lst l=>flTs l
 | d=>flT d
def flX (f:Bool) (d:D):Bool:=if f=true then flR d else flT d
def bj (env:List (Option D)):List (Option D):=env.map fun o=>o.bind fun d=>if noR d then some d else none
def xq (Γ:Gm) (x:D):Option D:=match x with
 | .ins c _=>if fX Γ c=true then (Γ.cl[c]?).map fun k=>.bl (k.sup.contains 1000) else none
 | _=>none
def smO (k:SM) (x:D):Option D:=match k,x with
 | .rep y z,.str x=>if x.length≤10000∧z.length≤100∧y.length=1 then some (.str (ă x y z)) else none
 | .spl y,.str x=>if x.length≤60000∧y.length=1 then some (.lst ((Ï x y).map .str)) else none
 | .dig,.str x=>some (.bl (Txt.isdigit x))
 | .sta y,.str x=>some (.bl (Š x y))
 | .mulc y,.int n=>if -1000000≤n∧n≤10000∧y.length≤10 then some (.str (ĸ y n)) else none
 | .cnt,.tup [.lst l,.str k]=>(eg l).map fun ss=>.int (ss.countP (· == k):Nat)
 | .mull,.tup [.lst l,.int n]=>if -1000000≤n∧n≤10000∧l.length=1 then some (.lst (μ n.toNat l).flatten) else none
 | .mull,.tup [.str y,.int n]=>if -1000000≤n∧n≤10000∧y.length≤10 then some (.str (ĸ y n)) else none
 | _,_=>none
def Dm (x:D) (s:Sta):Out D:=match x with
 | .ref n=>(match s.st[n]? with
   | some (.lst l)=>(match l.getLast? with | some d=>.ok d ⟨s.env,s.ow,s.st.set n (.lst l.dropLast)⟩ | none=>.bad)
   | _=>.bad)
 | _=>.bad
def xk (ks:List θ) (l:List D):Option D:=if ks.length=l.length∧ks.Nodup∧ks.length≤15∧ks≠[] then some (.dic (ks.map .inr) l) else none
def se (kp:List Nat) (env:List (Option D)):List (Option D):=env.mapIdx fun i d=>if kp.contains i then none else d
def hid (kp:List Nat) (s:Sta):Sta:=⟨se kp s.env,s.ow.filter (fun i=>!kp.contains i),s.st⟩
def Ck (x:D) (s:Sta):Out D:=match x with | .lst l=>.ok (.ref s.st.length) ⟨s.env,s.ow,s.st ++ [.lst l]⟩ | _=>.bad
section
variable (Γ:Gm) (cal cal1:Nat→List D→List O→Res)
def iu (es:E) (j:Nat) (ds:List D) (s:Sta):Out D:=match cal j ds s.st with
 | .ok d st=>.ok d (aft es s d st)
 | .exc c l st=>.exc c l (drp es s st)
 | .bad=>.bad
def vp (j:Nat) (ds:List D) (s:Sta):Out D:=if aU ds then (match cal j ds [] with
 | .ok d st=>if noR d then .ok d s else .ok (shD s.st.length d) ⟨s.env,s.ow,s.st ++ st.map (shO s.st.length)⟩
 | .exc c l _=>if aU l then .exc c l s else .bad
 | .bad=>.bad) else .bad
def oO:D→Bool
 | .ref _=>true | _=>false
def Bf (st:List O):D→Option D
 | .ref n=>(match st[n]? with | some (.lst l)=>if aU l then some (.lst l) else none | some (.dic k l)=>if aU l then some (.dic k l) else none | _=>none)
 | d=>if noR d then some d else none
def Bh (st:List O):List D→Option (List D)
 | []=>some []
 | d :: r=>(Bf st d).bind fun e=>(Bh st r).map (e :: ·)
def Bg (st:List O):D→Option D
 | .tup l=>(Bh st l).map .tup
 | d=>Bf st d
def yk (own:Bool) (j:Nat) (ds:List D) (s:Sta):Out D:=if aU ds then (match cal j ds [] with
 | .ok d st=>if own && !oO d then .bad else .of s (Bg st d)
 | .exc c l _=>if aU l then .exc c l s else .bad
 | .bad=>.bad) else .bad
mutual
noncomputable def ev (br:Bool):E→Sta→Out D
 | .v i,s=>(match s.env[i]? with | some (some d)=>.ok d (if br then s else un s i) | _=>.bad)
 | .c d,s=>.ok d s
 | .g j,s=>.of s (Γ.gl[j]?.map toD)
 | .op o a b,s=>(ev true a s).bind fun x s=>(ev true b s).bind fun y s=>.of s (opD o (look s.st x) (look s.st y))
 | .isN a,s=>(ev true a s).bind fun x s=>.ok (.bl (kH x)) s
 | .isNN a,s=>(ev true a s).bind fun x s=>.ok (.bl (!kH x)) s
 | .neg a,s=>(ev true a s).bind fun x s=>(match x with | .int i=>.ok (.int (-i)) s | _=>.bad)
 | .not a,s=>(ev true a s).bind fun x s=>(match x with | .bl b=>.ok (.bl (!b)) s | _=>.bad)
 | .and a b,s=>(ev false a s).bind fun x s=>(match x with | .bl true=>ev false b s | .bl false=>.ok (.bl false) s | _=>.bad)
 | .or a b,s=>(ev false a s).bind fun x s=>(match x with | .bl false=>ev false b s | .bl true=>.ok (.bl true) s | _=>.bad)
 | .ite c a b,s=>(ev true c s).bind fun x s=>(match x with | .bl true=>ev false a s | .bl false=>ev false b s | _=>.bad)
 | .chain o p a b c,s=>(ev true a s).bind fun x s=>(ev true b s).bind fun y s=>(match opD o (look s.st x) (look s.st y) with
   | some (.bl true)=>(ev true c s).bind fun z s=>.of s (opD p (look s.st y) (look s.st z))
   | some (.bl false)=>.ok (.bl false) s
   | _=>.bad)
 | .ix a b,s=>(ev true a s).bind fun x s=>(ev true b s).bind fun y s=>.of s (ixD (look s.st x) y)
 | .sl a lo hi,s=>(ev true a s).bind fun x s=>(if bD lo then .ok none s else (ev true lo s).bind toI).bind fun l s=>(if bD hi then .ok none s else (ev true hi s).bind toI).bind fun h s=>.of s (slO (look s.st x) l h)
 | .sl3 a lo st,s=>(ev true a s).bind fun x s=>(if bD lo then .ok none s else (ev true lo s).bind toI).bind fun l s=>(if bD st then .ok none s else (ev true st s).bind toI).bind fun z s=>.of s (qM (look s.st x) l z)
 | .tget j e d,s=>(ev true e s).bind fun x s=>(ev false d s).bind fun z s=>(match Γ.tb[j]?,x with | some t,.str k=>.ok (((ϰ k t).map toD).getD z) s | _,_=>.bad)
 | .newd j es,s=>(evs false es s).bind fun l s=>.of s ((Γ.cl[j]?).bind fun k=>if k.what=1∧l.length=k.at_.length then some (D.ins j l) else none)
 | .fld a f,s=>(ev true a s).bind fun x s=>.of s (mH Γ s.st x f)
 | .tup es,s=>(evs false es s).bind fun l s=>if l.length≤100000 then .ok (.tup l) s else .bad
 | .lst es,s=>(evs false es s).bind fun l s=>if l.length≤100000 then .ok (.lst l) s else .bad
 | .newl es,s=>(evs false es s).bind fun l s=>if l.length≤100000 then .ok (.ref s.st.length) ⟨s.env,s.ow,s.st ++ [.lst l]⟩ else .bad
 | .keep kp a,s=>(noX (ev false a (hid (kp.filter s.ow.contains) s))).bind fun d s'=>.ok d ⟨s.env,s'.ow ++ kp.filter s.ow.contains,s'.st⟩
 | .sto a,s=>(ev false a s).bind Ck
 | .fcall own j es,s=>(evs false es s).bind fun l s=>yk cal own j l s
 | .call j es,s=>(evs true es s).bind fun l s=>iu cal es j l s
 | .hcall j es,s=>(evs false es s).bind fun l s=>vp cal j l s
 | .mth c j a es,s=>(ev true a s).bind fun x s=>(match x with
   | .ref p=>(match s.st[p]? with
     | some (.ins c' _)=>if c'=c then (evs true es s).bind fun l s=>iu cal es j (x :: l) s else .bad
     | _=>.bad)
   | _=>.bad)
 | .bi b es,s=>(evs true es s).bind fun l s=>.of s (biD b (l.map (look s.st)))
 | .tab j e,s=>(ev true e s).bind fun x s=>(match Γ.tb[j]?,x with | some t,.str k=>.of s ((ϰ k t).map toD) | _,_=>.bad)
 | .tabin j e,s=>(ev true e s).bind fun x s=>(match Γ.tb[j]?,x with | some t,.str k=>.ok (.bl (ϰ k t).isSome) s | _,_=>.bad)
 | .lc t one it elt cond,s=>(ev false it s).bind fun x s=>(match x with
   | .lst ds=>(bx (fun d s'=>(match aJ t one d s'.env with
     | some env=>(ev true cond ⟨env,[],s'.st⟩).bind fun b s2=>(match b with
       | .bl true=>(ev false elt s2).bind fun e s3=>.ok (some e) ⟨s3.env,[],s3.st⟩
       | .bl false=>.ok none ⟨s2.env,[],s2.st⟩
       | _=>.bad)
     | none=>.bad)) ds [] ⟨μ t.length none ++ s.env,[],s.st⟩).back s.env
   | _=>.bad)
 | .tand a b,s=>(ev true a s).bind fun x s=>(match x with | .bl true=>ev true b s | .bl false=>.ok (.bl false) s | _=>.bad)
 | .tor a b,s=>(ev true a s).bind fun x s=>(match x with | .bl true=>.ok (.bl true) s | .bl false=>ev true b s | _=>.bad)
 | .tnot a,s=>(ev true a s).bind fun x s=>(match x with | .bl b=>.ok (.bl (!b)) s | _=>.bad)
 | .tv a,s=>(ev true a s).bind fun x s=>.of s ((wO (look s.st x)).map .bl)
 | .it b es,s=>(evs false es s).bind fun l s=>.of s ((itD b l).map .lst)
 | .itv a,s=>(ev false a s).bind fun x s=>.of s ((lZ x).map .lst)
 | .dic es,s=>(evs false es s).bind fun l s=>.of s ((rG l).map fun p=>.dic p.1 p.2)
 | .get a b c,s=>(ev true a s).bind fun x s=>if isDic (look s.st x)=true then (ev true b s).bind fun y s=>(ev false c s).bind fun z s=>(match look s.st x,cb y with
   | .dic ks ds,some k=>.ok ((eh ks ds k).getD z) s
   | _,_=>.bad) else .bad
 | .index a b,s=>(ev true a s).bind fun x s=>if vq x=true then (ev true b s).bind fun y s=>.of s (By x y) else .bad
 | .join x a,s=>(ev true a s).bind fun y s=>.of s (xv x (look s.st y))
 | .fmt x a y,s=>(ev true a s).bind fun v s=>.of s (Bb x v y)
 | .dicc ks es,s=>(evs false es s).bind fun l s=>.of s (xk ks l)
 | .isX a js,s=>(ev true a s).bind fun x s=>.of s (BC Γ x js)
 | .isXv a,s=>(ev true a s).bind fun x s=>.of s (xq Γ x)
 | .snap i a,s=>(match s.env[i]? with
   | some (some (.ref n))=>(match s.st[n]? with
     | some (.lst l)=>if aU l=true then (noX (ev false a ⟨(bj s.env).set i (some (.lst l)),[],[]⟩)).bind fun d _=>if flX (ak a) d=true then .ok d ⟨s.env,[],s.st⟩ else .bad else .bad
     | _=>.bad)
   | some (some _)=>ev false a s
   | _=>.bad)
 | .sm k a,s=>(ev true a s).bind fun x s=>.of s (smO k x)
 | .pop a,s=>(ev true a s).bind Dm
 | .new j es,s=>(evs true es s).bind fun l s=>(match Γ.cl[j]? with
   | some k=>if k.what=1 then (if l.length=k.at_.length then .ok (.ins j l) (drp es s s.st) else .bad)
     else if k.what=0 then (match cal1 k.init (.ref s.st.length :: l) (s.st ++ [.ins j []]) with
      | .ok .non st=>.ok (.ref s.st.length) (aft es s .non st)
      | _=>.bad)
     else .bad
   | none=>.bad)
 | _,_=>.bad
noncomputable def evs (br:Bool):E→Sta→Out (List D)
 | .nil,s=>.ok [] s
 | .cons a r,s=>(ev br a s).bind fun x s=>(evs br r s).bind fun l s=>.ok (x :: l) s
 | _,_=>.bad
end
end
end L2.Ev
namespace L2.Ev
def sA:D→Bool
 | .lst _=>true | .dic _ _=>true | _=>false
def ie (s:Sta) (i:Nat) (d:D) (f:Bool):Sta:=⟨s.env.set i (some d),if f && sA d then i :: s.ow.filter (· != i) else s.ow.filter (· != i),s.st⟩
def uh (l:List D) (i:Int) (d:D):Option (List D):=(ixN l.length i).map fun j=>l.set j d
def fL (o:O) (k d:D):Option O:=match o with
 | .lst l=>(match k with | .int i=>(uh l i d).map .lst | _=>none)
 | .dic ks ds=>(cb k).bind fun k=>if ks.length<100000 then some (.dic (dk ks ds k d).1 (dk ks ds k d).2) else none
 | _=>none
def lj (o:D) (k d:D):Option D:=match o with
 | .lst l=>(match k with | .int i=>(uh l i d).map .lst | _=>none)
 | .dic ks ds=>(cb k).bind fun k=>if ks.length<100000 then some (.dic (dk ks ds k d).1 (dk ks ds k d).2) else none
 | _=>none
def eZ (Γ:Gm) (o:O) (f:Nat) (d:D):Option O:=match o with
 | .ins c l=>(Γ.cl[c]?).bind fun k=>if k.at_.length<1000 then (if k.at_.idxOf f<l.length then some (.ins c (l.set (k.at_.idxOf f) d)) else if k.at_.idxOf f=l.length∧k.at_.idxOf f<k.at_.length then some (.ins c (l ++ [d])) else none) else none
 | _=>none
def uk:Option D→Bool
 | some (.int n)=>decide (0≤n) && decide (n<100000)
 | _=>false
def jb:D→Bool
 | .str x=>decide ((GK x).length≤10000)
 | .int n=>decide (0≤n) && decide (n<100000)
 | _=>false
def dh (Γ:Gm) (j:Nat) (l:List D):Bool:=match Γ.cl[j]? with
 | some k=>if k.at_.isEmpty then l.all jb else l.length == k.at_.length && k.chk.all (fun i=>uk l[i]?) && decide (l.length≤1000) && !l.isEmpty
 | none=>false
def gK (Γ:Gm) (j:Nat) (l:List D):List D:=match Γ.cl[j]? with
 | some k=>if k.at_.isEmpty then [] else l
 | none=>l
def cy (f:D→Sta→ah):List D→Sta→ah
 | [],s=>.nx s
 | d :: r,s=>(f d s).go fun s=>cy f r s
def cM (c:Sta→Out D) (f:Sta→ah):Nat→Sta→ah
 | 0,_=>.bad
 | m+1,s=>(c s).go fun x s=>match x with | .bl true=>(f s).go fun s=>cM c f m s | .bl false=>.nx s | _=>.bad
def gb (st:List O):D→Bool
 | .ref n=>(match st[n]? with | some (.lst _)=>true | _=>false)
 | _=>false
def apO (x d:D) (s:Sta):ah:=match x with
 | .ref n=>(match s.st[n]? with | some (.lst l)=>if l.length<100000 then .nx ⟨s.env,s.ow,s.st.set n (.lst (l ++ [d]))⟩ else .bad | _=>.bad)
 | _=>.bad
def exO (x d:D) (s:Sta):ah:=match x with
 | .ref n=>(match s.st[n]?,d with | some (.lst l),.lst m=>if l.length+m.length≤100000 then .nx ⟨s.env,s.ow,s.st.set n (.lst (l ++ m))⟩ else .bad | _,_=>.bad)
 | _=>.bad
def dj (Γ:Gm) (j c:Nat):Option Bool:=(Γ.cl[c]?).map fun k=>c == j || k.sup.contains j
section
variable (Γ:Gm) (cal cal1:Nat→List D→List O→Res)
def exS:S→Sta→ah
 | .skip,s=>.nx s
 | .seq a b,s=>(exS a s).go fun s=>exS b s
 | .set i e,s=>(ev Γ cal cal1 false e s).go fun d s=>.nx (ie s i d (ak e))
 | .setT l e,s=>(ev Γ cal cal1 false e s).go fun d s=>(match aJ l false d s.env with | some env=>.nx ⟨env,s.ow.filter fun i=>!l.contains i,s.st⟩ | none=>.bad)
 | .setR i es,s=>(evs Γ cal cal1 false es s).go fun l s=>if l.length≤100000 then .nx ⟨s.env.set i (some (.ref s.st.length)),s.ow.filter (· != i),s.st ++ [.lst l]⟩ else .bad
 | .ret e,s=>(ev Γ cal cal1 false e s).go fun d s=>.rt d s
 | .ifs c a b,s=>(ev Γ cal cal1 true c s).go fun x s=>(match x with | .bl true=>exS a s | .bl false=>exS b s | _=>.bad)
 | .drop e,s=>(ev Γ cal cal1 false e s).go fun _ s=>.nx s
 | .app i e,s=>if s.ow.contains i && isLst s.env[i]? then (ev Γ cal cal1 false e s).go fun d s=>if s.ow.contains i then (match s.env[i]? with
  | some (some (.lst l))=>if l.length<100000 then .nx ⟨s.env.set i (some (.lst (l ++ [d]))),s.ow,s.st⟩ else .bad
  | _=>.bad) else .bad else .bad
 | .ext i e,s=>if s.ow.contains i && isLst s.env[i]? then (ev Γ cal cal1 false e s).go fun d s=>if s.ow.contains i then (match s.env[i]?,d with
  | some (some (.lst l)),.lst x=>if l.length+x.length≤100000 then .nx ⟨s.env.set i (some (.lst (l ++ x))),s.ow,s.st⟩ else .bad
  | _,_=>.bad) else .bad else .bad
 | .put (.v i) b e,s=>(ev Γ cal cal1 false e s).go fun d s=>(match s.env[i]? with
  | some (some x)=>(ev Γ cal cal1 true b s).go fun k s=>(match x with
    | .ref n=>(match (s.st[n]?).bind fun o=>fL o k d with | some o=>.nx ⟨s.env,s.ow,s.st.set n o⟩ | none=>.bad)
    | x=>if s.ow.contains i then (match lj x k d with | some y=>.nx ⟨s.env.set i (some y),s.ow,s.st⟩ | none=>.bad) else .bad)
  | _=>.bad)
 | .put a b e,s=>(ev Γ cal cal1 false e s).go fun d s=>(ev Γ cal cal1 true a s).go fun x s=>(ev Γ cal cal1 true b s).go fun k s=>(match x with
  | .ref n=>(match (s.st[n]?).bind fun o=>fL o k d with | some o=>.nx ⟨s.env,s.ow,s.st.set n o⟩ | none=>.bad)
  | _=>.bad)
 | .fld a f e,s=>(match e with
  | .lst .nil=>(ev Γ cal cal1 true a s).go fun x s=>(match x with
    | .ref n=>(match (s.st[n]?).bind fun o=>eZ Γ o f (.ref s.st.length) with | some o=>.nx ⟨s.env,s.ow,(s.st ++ [O.lst []]).set n o⟩ | none=>.bad)
    | _=>.bad)
  | .dic .nil=>(ev Γ cal cal1 true a s).go fun x s=>(match x with
    | .ref n=>(match (s.st[n]?).bind fun o=>eZ Γ o f (.ref s.st.length) with | some o=>.nx ⟨s.env,s.ow,(s.st ++ [O.dic [] []]).set n o⟩ | none=>.bad)
    | _=>.bad)
  | e=>(ev Γ cal cal1 false e s).go fun d s=>(ev Γ cal cal1 true a s).go fun x s=>(match x with
    | .ref n=>(match (s.st[n]?).bind fun o=>eZ Γ o f d with | some o=>.nx ⟨s.env,s.ow,s.st.set n o⟩ | none=>.bad)
    | _=>.bad))
 | .aug a f o e,s=>(ev Γ cal cal1 true a s).go fun x s=>(match x with
  | .ref n=>(match mH Γ s.st x f with
    | some (.int i)=>(ev Γ cal cal1 false e s).go fun d s=>(match d with
      | .int j=>(match opI o i j,s.st[n]? with
        | some y,some ob=>(match eZ Γ ob f y with | some ob=>.nx ⟨s.env,s.ow,s.st.set n ob⟩ | none=>.bad)
        | _,_=>.bad)
      | _=>.bad)
    | _=>.bad)
  | _=>.bad)
 | .fapp a f e,s=>(ev Γ cal cal1 true a s).go fun x s=>if gb s.st x=true then (ev Γ cal cal1 false e s).go fun d s=>apO x d s else .bad
 | .fext a e,s=>(ev Γ cal cal1 true a s).go fun x s=>if gb s.st x=true then (ev Γ cal cal1 false e s).go fun d s=>exO x d s else .bad
 | .for_ t one it b,s=>(ev Γ cal cal1 false it s).go fun x s=>(match x with
  | .lst ds=>cy (fun d s=>match aJ t one d s.env with | some env=>exS b ⟨env,s.ow.filter fun i=>!t.contains i,s.st⟩ | none=>.bad) ds s
  | _=>.bad)
 | .whl c b,s=>cM (ev Γ cal cal1 true c) (exS b) 100000 s
 | .rais j es,s=>(evs Γ cal cal1 false es s).go fun l s=>if dh Γ j l then .exc j (gK Γ j l) s else .bad
 | .try_ a hs,s=>(match exS a s with
  | .exc c l s'=>hnd hs c l s'
  | r=>r)
 | _,_=>.bad
where hnd:S→Nat→List D→Sta→ah
 | .hand j (some i) b r,c,l,s=>(match dj Γ j c with
  | some true=>(match exS b ⟨s.env.set i (some (.ins c l)),s.ow.filter (· != i),s.st⟩ with
    | .nx s=>.nx ⟨s.env.set i none,s.ow.filter (· != i),s.st⟩
    | .rt d s=>.rt d s
    | _=>.bad)
  | some false=>hnd r c l s
  | none=>.bad)
 | .hand j none b r,c,l,s=>(match dj Γ j c with
  | some true=>(match exS b s with | .nx s=>.nx s | .rt d s=>.rt d s | _=>.bad)
  | some false=>hnd r c l s
  | none=>.bad)
 | .skip,c,l,s=>.exc c l s
 | _,_,_,_=>.bad
end
def iE (Γ:Gm) (cal cal1:Nat→List D→List O→Res) (j:Nat) (ds:List D) (st:List O):Res:=match Γ.fn[j]? with
 | some f=>if (ds ++ f.df).length=f.np then (match exS Γ cal cal1 f.body ⟨(ds ++ f.df).map some ++ μ (f.ns - f.np) none,[],st⟩ with
   | .nx s=>.ok .non s.st
   | .rt d s=>.ok d s.st
   | .exc c l s=>.exc c l s.st
   | .bad=>.bad) else .bad
 | none=>.bad
def rB (Γ:Gm):Nat→(Nat→List D→List O→Res)×(Nat→List D→List O→Res)
 | 0=>(fun _ _ _=>.bad,fun _ _ _=>.bad)
 | n+1=>(iE Γ (rB Γ n).1 (rB Γ n).2,(rB Γ n).1)
def af (Γ:Gm) (n:Nat):Nat→List D→List O→Res:=(rB Γ n).1
def ao (Γ:Gm) (n:Nat):Nat→List D→List O→Res:=(rB Γ n).2
structure CI where
 ad:Δ
 nm:List θ
structure Wd where
 P:Î
 w:é
 ci:List CI
 what:List Nat
abbrev Hp:=Δ→Option FX
abbrev Rs:=List (Δ×Δ)
def TpO (o:FX) (l:List η):Prop:=o.cls = .type "tuple"∧(∃ n,o.data = .seq l.toArray n)∧l.length≤ϙ∧o.dict=none
def LsO (o:FX) (l:List η):Prop:=(∃ n,o={ cls:=.type "list",data:=.seq l.toArray n })∧l.length≤ϙ
def DcO (W:Wd) (o:FX) (l:List (Key×η)):Prop:=∃ es ep,o.ExactDict∧o.data = .dict es ep∧KeysOf (bO W.P W.w) es∧Pairs (bO W.P W.w) es.toList l∧(l.map (·.1)).Nodup∧l.length≤ϙ
def NsO (o:FX) (l:List (θ×η)):Prop:=∃ es ep,o.data = .dict es ep∧StrKeys es∧UniqKeys es∧∀ n,nsFind es n=l.lookup n
def InO (h:Hp) (a dx C:Δ) (l:List (θ×η)):Prop:=h a=some (Í C dx)∧dx≠a∧l.length≤1000∧∃ o,h dx=some o∧NsO o l
def ExO (h:Hp) (a C:Δ) (l:List (θ×η)):Prop:=∃ o vs,h a=some o∧o.cls = .ref C∧o.data = .fields vs∧((l = []∧o.dict=none)∨∃ d od,o.dict=some d∧h d=some od∧NsO od l)
inductive Ra (G:Hp) (T:FX→List η→Prop) (Q:List η→Prop) (v:η):Prop
 | mk (a:Δ) (o:FX) (vs:List η) (_:v = .ref a) (_:G a=some o) (_:T o vs) (_:Q vs)
inductive Rb (W:Wd) (G:Hp) (ks:List Key) (n:Nat) (Q:List η→Prop) (v:η):Prop
 | mk (a:Δ) (o:FX) (vs:List η) (_:v = .ref a) (_:(a == H7)=false) (_:G a=some o) (_:DcO W o (ks.zip vs)) (_:ks.length=n) (_:Q vs)
inductive Ri (W:Wd) (G:Hp) (c n:Nat) (Q:List η→Prop) (v:η):Prop
 | mk (a:Δ) (i:CI) (vs:List η) (_:v = .ref a) (_:W.ci[c]? = some i) (_:n≤i.nm.length) (_:(W.what[c]? = some 1∧∃ dx,InO G a dx i.ad (i.nm.zip vs))∨(W.what[c]? = some 2∧ExO G a i.ad (i.nm.zip vs))) (_:Q vs)
inductive Rc (P:η→Prop) (Q:List η→Prop) (vs:List η):Prop
 | mk (v:η) (r:List η) (_:vs=v :: r) (_:P v) (_:Q r)
mutual
noncomputable def RD (W:Wd) (ρ:Rs) (G:Hp):D→η→Prop
 | .non,v=>v = .none
 | .bl b,v=>v = .bool b
 | .int i,v=>∃ t,v = .int i t
 | .str x,v=>∃ t,v = .str x t
 | .tup ds,v=>Ra G TpO (RDs W ρ G ds) v
 | .lst ds,v=>Ra G LsO (RDs W ρ G ds) v
 | .dic ks ds,v=>Rb W G ks ds.length (RDs W ρ G ds) v
 | .ins c ds,v=>Ri W G c ds.length (RDs W ρ G ds) v
 | .ref n,v=>∃ p,ρ[n]? = some p∧v = .ref p.1
noncomputable def RDs (W:Wd) (ρ:Rs) (G:Hp):List D→List η→Prop
 | [],vs=>vs = []
 | d :: ds,vs=>Rc (RD W ρ G d) (RDs W ρ G ds) vs
end
def Sub (G H:Hp):Prop:=∀ a o,G a=some o→H a=some o
theorem Sub.refl (G):Sub G G:=fun _ _ e=>e
theorem Sub.trans (h:Sub G H) (i:Sub H I):Sub G I:=fun a o e=>i a o (h a o e)
section
variable {W:Wd} {ρ ρ':Rs} {G G' H H':Hp}
theorem eV (h:ρ <+: ρ') {n:Nat} (e:ρ[n]? = some a):ρ'[n]? = some a:=by
 obtain ⟨t,rfl⟩:=h
 rw [ϓ (ν.mp e).1];exact e
theorem InO.sub (h:Sub G G'):InO G a dx C l→InO G' a dx C l:=fun ⟨x,n,z,o,e,r⟩=>⟨h _ _ x,n,z,o,h _ _ e,r⟩
theorem ExO.sub (h:Sub G G'):ExO G a C l→ExO G' a C l:=fun ⟨o,vs,e,c,d,r⟩=>⟨o,vs,h _ _ e,c,d,r.elim .inl fun ⟨d,od,q,e,r⟩=>.inr ⟨d,od,q,h _ _ e,r⟩⟩
mutual
theorem RD.mono (hp:ρ <+: ρ') (h:Sub G G'):∀ {d:D} {v},RD W ρ G d v→RD W ρ' G' d v
 | .non,_,e=>e
 | .bl _,_,e=>e
 | .int _,_,e=>e
 | .str _,_,e=>e
 | .tup _,_,⟨a,o,vs,e,t,q,r⟩=>⟨a,o,vs,e,h _ _ t,q,RDs.mono hp h r⟩
 | .lst _,_,⟨a,o,vs,e,t,q,r⟩=>⟨a,o,vs,e,h _ _ t,q,RDs.mono hp h r⟩
 | .dic _ _,_,⟨a,o,vs,e,m,t,q,l,r⟩=>⟨a,o,vs,e,m,h _ _ t,q,l,RDs.mono hp h r⟩
 | .ins _ _,_,⟨a,i,vs,e,hc,l,t,r⟩=>⟨a,i,vs,e,hc,l,t.elim (fun ⟨w,dx,q⟩=>.inl ⟨w,dx,q.sub h⟩) (fun ⟨w,q⟩=>.inr ⟨w,q.sub h⟩),RDs.mono hp h r⟩
 | .ref _,_,⟨a,e,q⟩=>⟨a,eV hp e,q⟩
theorem RDs.mono (hp:ρ <+: ρ') (h:Sub G G'):∀ {ds} {vs},RDs W ρ G ds vs→RDs W ρ' G' ds vs
 | [],_,e=>e
 | _ :: _,_,⟨v,r,e,t,q⟩=>⟨v,r,e,RD.mono hp h t,RDs.mono hp h q⟩
end
theorem RDs.cons (h:RD W ρ G d v) (t:RDs W ρ G ds vs):RDs W ρ G (d :: ds) (v :: vs):=⟨v,vs,rfl,h,t⟩
theorem jP:∀ {ds vs},RDs W ρ G ds vs↔Paired (RD W ρ G) ds vs
 | [],vs=>⟨fun h=>by cases (show vs = [] from h);exact .nil,fun h=>by cases h;exact rfl⟩
 | d :: ds,vs=>⟨fun ⟨v,r,e,h,t⟩=>e ▸ .cons h (jP.mp t),fun h=>by cases h with | cons h t=>exact .cons h (jP.mpr t)⟩
theorem RDs.len (h:RDs W ρ G ds vs):ds.length=vs.length:=(jP.mp h).length
theorem RDs.get:∀ {ds} {vs} {i:Nat} {d:D},RDs W ρ G ds vs→ds[i]? = some d→∃ v,vs[i]? = some v∧RD W ρ G d v
 | [],_,_,_,_,e=>by simp at e
 | d :: ds,vs,0,d',⟨v,r,e,h,_⟩,e'=>by subst e;simp at e';subst e';exact ⟨v,rfl,h⟩
 | d :: ds,vs,i+1,d',⟨v,r,e,_,t⟩,e'=>by
   subst e
   obtain ⟨u,h1,h2⟩:=RDs.get (i:=i) t (by simpa using e')
   exact ⟨u,by simpa using h1,h2⟩
theorem RDs.app:∀ {ds es} {vs us},RDs W ρ G ds vs→RDs W ρ G es us→RDs W ρ G (ds ++ es) (vs ++ us)
 | [],_,vs,_,h,t=>by cases (show vs = [] from h);exact t
 | d :: ds,es,vs,us,⟨v,r,e,h,t'⟩,t=>by subst e;exact .cons h (RDs.app t' t)
theorem RDs.drop:∀ {ds} {vs} (n),RDs W ρ G ds vs→RDs W ρ G (ds.drop n) (vs.drop n)
 | _,_,0,h=>h
 | [],vs,n+1,h=>by cases (show vs = [] from h);exact rfl
 | d :: ds,vs,n+1,⟨v,r,e,h,t⟩=>by subst e;exact RDs.drop n t
theorem RDs.take:∀ {ds} {vs} (n),RDs W ρ G ds vs→RDs W ρ G (ds.take n) (vs.take n)
 | _,_,0,_=>rfl
 | [],vs,n+1,h=>by cases (show vs = [] from h);exact rfl
 | d :: ds,vs,n+1,⟨v,r,e,h,t⟩=>by subst e;exact .cons h (RDs.take n t)
theorem RDs.set:∀ {ds} {vs} (n) {d} {v},RDs W ρ G ds vs→RD W ρ G d v→RDs W ρ G (ds.set n d) (vs.set n v)
 | [],vs,_,_,_,h,_=>by cases (show vs = [] from h);exact rfl
 | d :: ds,vs,0,_,_,⟨v,r,e,h,t⟩,q=>by subst e;exact .cons q t
 | d :: ds,vs,n+1,_,_,⟨v,r,e,h,t⟩,q=>by subst e;exact .cons h (RDs.set n t q)
theorem RDs.rev:∀ {ds} {vs},RDs W ρ G ds vs→RDs W ρ G ds.reverse vs.reverse
 | [],vs,h=>by cases (show vs = [] from h);exact rfl
 | d :: ds,vs,⟨v,r,e,h,t⟩=>by subst e;rw [Ge,Ge];exact (RDs.rev t).app (.cons h rfl)
end
inductive Oa (h:Hp) (p:Δ×Δ) (Q:List η→Prop):Prop
 | mk (o:FX) (vs:List η) (_:p.2=p.1) (_:h p.1=some o) (_:LsO o vs) (_:Q vs)
inductive Ob (W:Wd) (h:Hp) (p:Δ×Δ) (ks:List Key) (n:Nat) (Q:List η→Prop):Prop
 | mk (o:FX) (vs:List η) (_:p.2=p.1) (_:(p.1 == H7)=false) (_:h p.1=some o) (_:DcO W o (ks.zip vs)) (_:ks.length=n) (_:Q vs)
inductive Oi (W:Wd) (h:Hp) (p:Δ×Δ) (c n:Nat) (Q:List η→Prop):Prop
 | mk (i:CI) (vs:List η) (_:W.ci[c]? = some i) (_:W.what[c]? = some 0) (_:n≤i.nm.length) (_:InO h p.1 p.2 i.ad (i.nm.zip vs)) (_:Q vs)
def ObR (W:Wd) (ρ:Rs) (G h:Hp) (p:Δ×Δ):O→Prop
 | .lst ds=>Oa h p (RDs W ρ G ds)
 | .dic ks ds=>Ob W h p ks ds.length (RDs W ρ G ds)
 | .ins c ds=>Oi W h p c ds.length (RDs W ρ G ds)
theorem ObR.mono (hp:ρ <+: ρ') (g:Sub G G') (k:∀ a,a=p.1∨a=p.2→∀ o,h a=some o→h' a=some o):∀ {o},ObR W ρ G h p o→ObR W ρ' G' h' p o
 | .lst _,⟨o,vs,z,e,q,r⟩=>⟨o,vs,z,k _ (.inl rfl) _ e,q,r.mono hp g⟩
 | .dic _ _,⟨o,vs,z,m,e,q,l,r⟩=>⟨o,vs,z,m,k _ (.inl rfl) _ e,q,l,r.mono hp g⟩
 | .ins _ _,⟨i,vs,c,w,l,⟨e,n,z,o,e2,q⟩,r⟩=>⟨i,vs,c,w,l,⟨k _ (.inl rfl) _ e,n,z,o,k _ (.inr rfl) _ e2,q⟩,r.mono hp g⟩
theorem ObR.th:∀ {o},ObR W ρ G h p o→(∃ o,h p.1=some o)∧∃ o,h p.2=some o
 | .lst _,⟨o,vs,z,e,_,_⟩=>⟨⟨o,e⟩,z ▸ ⟨o,e⟩⟩
 | .dic _ _,⟨o,vs,z,m,e,_,_,_⟩=>⟨⟨o,e⟩,z ▸ ⟨o,e⟩⟩
 | .ins _ _,⟨i,vs,c,w,l,⟨e,n,z,o,e2,q⟩,r⟩=>⟨⟨_,e⟩,⟨_,e2⟩⟩
def toO:D→Option O
 | .lst l=>some (.lst l)
 | .dic k l=>some (.dic k l)
 | _=>none
structure Cx where
 W:Wd
 K:ς
 mg:θ→Option η
 base:Â
 os:Ga
 Γ:Gm
 cal:Nat→List D→List O→Res
 cal1:Nat→List D→List O→Res
 A:ϗ
 fr:List Ų
 N:List θ
 env:Ų
 calm:Bool
 tz:Nat:=0
abbrev Cx.ev (X:Cx) (br:Bool) (e:E):Sta→Out D:=Ev.ev X.Γ X.cal X.cal1 br e
abbrev Cx.evs (X:Cx) (br:Bool) (e:E):Sta→Out (List D):=Ev.evs X.Γ X.cal X.cal1 br e
abbrev Cx.ex (X:Cx) (c:S):Sta→ah:=Ev.exS X.Γ X.cal X.cal1 c
abbrev Cx.M (X:Cx):EW:=model X.W.P X.W.w
structure Z where
 ρ:Rs
 G:Hp
 t:Sta
 σ:List (Option η)
 s:τ
abbrev Z.h (z:Z):Hp:=z.s.heap.get?
def Mu (ρ:Rs) (a:Δ):Prop:=∃ p∈ρ,a=p.1∨a=p.2
def Own (z:Z) (a:Δ):Prop:=∃ i∈z.t.ow,z.σ[i]? = some (some (.ref a))
def Lc (X:Cx) (a:Δ):Prop:=a=X.env.locals∨∃ x,X.env.cells.lookup x=some a
structure HR (X:Cx) (z:Z):Prop where
 md:Mod X.K X.mg X.base
 fm:X.A.frames=some X.fr
 hd:X.calm=true→X.A.handled=none
 bs:∀ b o,X.base.get? b=some o→z.G b=some o
 gh:Sub z.G z.h
 rl:z.ρ.length=z.t.st.length
 rn:∀ (i j:Nat) (p q:Δ×Δ) (a:Δ),z.ρ[i]? = some p→z.ρ[j]? = some q→(a=p.1∨a=p.2)→(a=q.1∨a=q.2)→i=j
 rg:∀ a,Mu z.ρ a→z.G a=none
 ob:∀ (n:Nat) (o:O) (p:Δ×Δ),z.t.st[n]? = some o→z.ρ[n]? = some p→ObR X.W z.ρ z.G z.h p o
 fu:z.s.heap.FunFrames X.base X.fr
 ff:∀ b∈frs X.fr,z.G b=none∧¬ Mu z.ρ b
 br:ŏ z.s.gens
 os:z.s.os=X.os
 tk:X.tz≤z.s.toks
structure COk (X:Cx):Prop where
 un:X.A.units+200<ŧ
 kd:X.env.scope.kind = .function
 gl:X.env.globals=ϔ
 bl:X.env.builtins=builtinsNs
 ci:∀ x y c,X.env.cells.lookup x=some c→X.env.cells.lookup y=some c→x=y
 ch:∀ x,(X.env.kindOf x=some .cell∨X.env.kindOf x=some .free)→∃ c,X.env.cells.lookup x=some c
def Fre (X:Cx) (z:Z) (a:Δ):Prop:=z.G a=none∧¬ Mu z.ρ a∧a ∉ frs X.fr∧¬ Lc X a
structure Rep (X:Cx) (z:Z):Prop extends HR X z where
 ok:COk X
 lo:∃ m,z.s.heap.Ns X.env.locals m∧∀ (i:Nat) (x:θ) (u:η),X.N[i]? = some x→z.σ[i]? = some (some u)→Vis X.env.scope x→mc X.env z.s.heap m x u
 ce:∀ x c,X.env.cells.lookup x=some c→∃ v,z.s.heap.IsCell c v
 fl:∀ a,Lc X a→z.G a=none∧¬ Mu z.ρ a
 el:z.t.env.length=z.σ.length
 sl:z.σ.length=X.N.length
 en:∀ (i:Nat) (d:D),i ∉ z.t.ow→z.t.env[i]? = some (some d)→∃ u,z.σ[i]? = some (some u)∧RD X.W z.ρ z.G d u
 eo:∀ (i:Nat),i∈z.t.ow→∃ d a o,z.t.env[i]? = some (some d)∧z.σ[i]? = some (some (.ref a))∧toO d=some o∧ObR X.W z.ρ z.G z.h (a,a) o∧Fre X z a
 od:∀ (i j:Nat) (a:Δ),i∈z.t.ow→j∈z.t.ow→z.σ[i]? = some (some (.ref a))→z.σ[j]? = some (some (.ref a))→i=j
structure Stp (fr:List Ų) (w:Δ→Prop) (z z':Z):Prop where
 pr:z.ρ <+: z'.ρ
 gg:Sub z.G z'.G
 gn:∀ a o,z'.G a=some o→z.G a=some o∨z.h a=none∨w a
 rn:∀ a,Mu z'.ρ a→Mu z.ρ a∨z.h a=none
 th:∀ a o,z.h a=some o→∃ o',z'.h a=some o'
 sm:∀ a o,z.h a=some o→¬ Mu z.ρ a→¬ w a→a ∉ frs fr→z'.h a=some o
 sl:∀ a o,z.h a=some o→¬ Mu z.ρ a→¬ w a→a∈frs fr→∃ sl,z'.h a=some { o with slots:=sl }
theorem Stp.no (x:Stp fr w z z') (e:z'.h a=none):z.h a=none:=by
 cases q:z.h a with
 | none=>rfl
 | some o=>obtain ⟨o',e'⟩:=x.th a o q;rw [e] at e';cases e'
theorem Stp.refl:Stp fr w z z:=⟨ξ _,.refl _,fun _ _ e=>.inl e,fun _ h=>.inl h,fun _ o e=>⟨o,e⟩,fun _ _ e _ _ _=>e,fun _ o e _ _ _=>⟨o.slots,e⟩⟩
theorem Stp.trans (x:Stp fr w z z1) (y:Stp fr w1 z1 z2) (k:∀ a,w1 a→w a∨z.h a=none):Stp fr w z z2:=by
 have nm:∀ a o,z.h a=some o→¬ Mu z.ρ a→¬ Mu z1.ρ a:=fun a o e n m=>(x.rn a m).elim n fun q=>by rw [q] at e;cases e
 have nw:∀ a o,z.h a=some o→¬ w a→¬ w1 a:=fun a o e n m=>(k a m).elim n fun q=>by rw [q] at e;cases e
 refine ⟨x.pr.trans y.pr,x.gg.trans y.gg,fun a o e=>?_,fun a m=>?_,fun a o e=>?_,fun a o e n m f=>y.sm a o (x.sm a o e n m f) (nm a o e n) (nw a o e m) f,fun a o e n m f=>?_⟩
 ·rcases y.gn a o e with q | q | q
  ·exact x.gn a o q
  ·exact .inr (.inl (x.no q))
  ·exact .inr ((k a q).symm)
 ·rcases y.rn a m with q | q
  ·exact x.rn a q
  ·exact .inr (x.no q)
 ·obtain ⟨o1,e1⟩:=x.th a o e;exact y.th a o1 e1
 ·obtain ⟨sl,e1⟩:=x.sl a o e n m f
  obtain ⟨sl2,e2⟩:=y.sl a _ e1 (nm a o e n) (nw a o e m) f
  exact ⟨sl2,e2⟩
theorem Stp.mono (x:Stp fr w z z') (k:∀ a,w a→w' a):Stp fr w' z z':=⟨x.pr,x.gg,fun a o e=>(x.gn a o e).imp_right (·.imp_right (k a)),x.rn,x.th,fun a o e n m=>x.sm a o e n fun q=>m (k a q),fun a o e n m=>x.sl a o e n fun q=>m (k a q)⟩
structure Ee (X:Cx) (z z':Z):Prop where
 st:Stp X.fr (Own z) z z'
 sg:z'.σ=z.σ
 en:z'.t.env=z.t.env
 ow:∀ i∈z'.t.ow,i∈z.t.ow
theorem Ee.refl:Ee X z z:=⟨.refl,rfl,rfl,fun _ h=>h⟩
theorem Ee.own (x:Ee X z z'):Own z' a→Own z a:=fun ⟨i,m,e⟩=>⟨i,x.ow i m,x.sg ▸ e⟩
theorem Ee.trans (x:Ee X z z1) (y:Ee X z1 z2):Ee X z z2:=⟨x.st.trans y.st fun _ o=>.inl (x.own o),y.sg.trans x.sg,y.en.trans x.en,fun i m=>x.ow i (y.ow i m)⟩
def Pv (X:Cx) (z:Z) (a:Δ):Prop:=Own z a∨Lc X a
structure Go (X:Cx) (z z':Z):Prop where
 st:Stp X.fr (Pv X z) z z'
 ow:∀ a,Own z' a→Own z a∨z.h a=none
theorem Go.refl:Go X z z:=⟨.refl,fun _ o=>.inl o⟩
theorem Go.trans (x:Go X z z1) (y:Go X z1 z2):Go X z z2:=by
 refine ⟨x.st.trans y.st fun a o=>o.elim (fun q=>(x.ow a q).imp_left .inl) fun q=>.inl (.inr q),fun a o=>?_⟩
 rcases y.ow a o with q | q
 ·exact x.ow a q
 ·exact .inr (x.st.no q)
theorem Ee.go (x:Ee X z z'):Go X z z':=⟨x.st.mono fun _=>.inl,fun _ o=>.inl (x.own o)⟩
def RB (W:Wd) (z:Z) (d:D) (u:η):Prop:=RD W z.ρ z.G d u∨∃ i∈z.t.ow,z.σ[i]? = some (some u)∧z.t.env[i]? = some (some d)
def RV (W:Wd) (br:Bool) (c:E) (z:Z) (d:D) (u:η):Prop:=RD W z.ρ z.G d u∨(br=true∧∃ i,c = .v i∧i∈z.t.ow∧z.σ[i]? = some (some u)∧z.t.env[i]? = some (some d))
theorem RV.of (h:RD W z.ρ z.G d u):RV W br c z d u:=.inl h
theorem RV.rd (h:RV W false c z d u):RD W z.ρ z.G d u:=h.elim id fun ⟨z,_⟩=>nomatch z
theorem RV.rb (h:RV W br c z d u):RB W z d u:=h.elim .inl fun ⟨_,i,_,m,e⟩=>.inr ⟨i,m,e⟩
theorem RD.st (h:RD W z.ρ z.G d u) (x:Stp fr w z z'):RD W z'.ρ z'.G d u:=h.mono x.pr x.gg
theorem RV.st (h:RV X.W br c z d u) (x:Ee X z z') (I:Rep X z'):RV X.W br c z' d u:=by
 rcases h with h | ⟨b,i,hc,m,e1,e2⟩
 ·exact .inl (h.st x.st)
 ·by_cases q:i∈z'.t.ow
  ·exact .inr ⟨b,i,hc,q,x.sg ▸ e1,x.en ▸ e2⟩
  ·obtain ⟨u',e3,r⟩:=I.en i d q (x.en ▸ e2)
   rw [x.sg,e1] at e3;cases e3
   exact .inl r
theorem RB.st (h:RB X.W z d u) (x:Ee X z z') (I:Rep X z'):RB X.W z' d u:=by
 rcases h with h | ⟨i,m,e1,e2⟩
 ·exact .inl (h.st x.st)
 ·by_cases q:i∈z'.t.ow
  ·exact .inr ⟨i,q,x.sg ▸ e1,x.en ▸ e2⟩
  ·obtain ⟨u',e3,r⟩:=I.en i d q (x.en ▸ e2)
   rw [x.sg,e1] at e3;cases e3
   exact .inl r
def CR (W:Wd) (z:Z):D→η→Prop
 | .lst ds,v=>Ra z.h LsO (RDs W z.ρ z.G ds) v
 | .dic ks ds,v=>Rb W z.h ks ds.length (RDs W z.ρ z.G ds) v
 | d,v=>RD W z.ρ z.G d v
theorem CR.of (I:HR X z):∀ {d},RD X.W z.ρ z.G d u→CR X.W z d u
 | .non,h=>h
 | .bl _,h=>h
 | .int _,h=>h
 | .str _,h=>h
 | .ref _,h=>h
 | .ins _ _,h=>h
 | .tup _,h=>h
 | .lst _,⟨a,o,vs,e,g,q,r⟩=>⟨a,o,vs,e,I.gh _ _ g,q,r⟩
 | .dic _ _,⟨a,o,vs,e,m,g,q,l,r⟩=>⟨a,o,vs,e,m,I.gh _ _ g,q,l,r⟩
theorem CR.ob {d:D} (e:toO d=some o) (h:ObR W z.ρ z.G z.h (a,b) o):CR W z d (.ref a):=by
 cases d <;> cases e
 ·obtain ⟨o,vs,_,e,l,r⟩:=h;exact ⟨a,o,vs,rfl,e,l,r⟩
 ·obtain ⟨o,vs,_,m,e,l,n,r⟩:=h;exact ⟨a,o,vs,rfl,m,e,l,n,r⟩
theorem RB.cr0 (I:Rep X z) (h:RB X.W z d u):CR X.W z d u:=by
 rcases h with h | ⟨i,m,e1,e2⟩
 ·exact .of I.toHR h
 ·obtain ⟨d',a,o,e3,e4,e5,r,_⟩:=I.eo i m
  rw [e1] at e4;cases e4
  rw [e2] at e3;cases e3
  exact .ob e5 r
theorem RB.cr (I:Rep X z) (h:RB X.W z d u):CR X.W z (look z.t.st d) u:=by
 have c:=h.cr0 I
 cases d with
 | ref n=>
   obtain ⟨p,e,rfl⟩:=(show RD X.W z.ρ z.G (.ref n) u from c)
   show CR X.W z (match z.t.st[n]? with | some (.lst l)=>.lst l | some (.dic k l)=>.dic k l | _=>.ref n) _
   cases q:z.t.st[n]? with
   | none=>exact c
   | some o=>
     have r:=I.ob n o p q e
     cases o with
     | lst l=>exact .ob (d:=.lst l) rfl r
     | dic k l=>exact .ob (d:=.dic k l) rfl r
     | ins _ _=>exact c
 | _=>exact c
structure Gr (s s':τ):Prop where
 os:s'.os=s.os
 gs:s'.gens=s.gens
 k:∀ b o,s.heap.get? b=some o→s'.heap.get? b=some o
theorem Gr.refl:Gr s s:=⟨rfl,rfl,fun _ _ e=>e⟩
theorem Gr.trans (x:Gr s s1) (y:Gr s1 s2):Gr s s2:=⟨y.os.trans x.os,y.gs.trans x.gs,fun b o e=>y.k b o (x.k b o e)⟩
theorem Gr.tok {s:τ} {t:Nat}:Gr s { s with toks:=t }:=⟨rfl,rfl,fun _ _ e=>e⟩
theorem Gr.hp {s:τ} {h:Â} {t:Nat} (k:∀ b o,s.heap.get? b=some o→h.get? b=some o):Gr s { s with heap:=h,toks:=t }:=⟨rfl,rfl,k⟩
theorem Gr.push {s:τ} {o:FX} {t:Nat}:Gr s { s with heap:=s.heap.push o,toks:=t }:=.hp fun _ _ e=>Κ _ e
structure Grw (z:Z) (G':Hp) (s':τ):Prop where
 gr:Gr z.s s'
 gg:Sub z.G G'
 gh:Sub G' s'.heap.get?
 gn:∀ a o,G' a=some o→z.G a=some o∨z.h a=none
theorem nfu {h h':Â} (x:h.FunFrames base l) (k:∀ b o,h.get? b=some o→h'.get? b=some o):h'.FunFrames base l:=x.of_keeps fun b o e _=>⟨o,k b o e,rfl⟩
theorem HR.th (I:HR X z) (m:Mu z.ρ a):∃ o,z.h a=some o:=by
 obtain ⟨p,hp,e⟩:=m
 obtain ⟨n,hn⟩:=Fl.mp hp
 have lt:n<z.t.st.length:=by rw [← I.rl];exact (ν.mp hn).1
 obtain ⟨h1,h2⟩:=(I.ob n _ p (Ζ lt) hn).th
 rcases e with rfl | rfl
 ·exact h1
 ·exact h2
theorem HR.fth (I:HR X z) (m:b∈frs X.fr):∃ o,z.h b=some o:=let ⟨_,o,e,_⟩:=I.fu.mem m;⟨o,e⟩
section
variable {X:Cx} {z:Z} {G':Hp} {s':τ}
theorem HR.tk1 (I:HR X z):X.tz≤z.s.toks+1:=ϡ I.tk
theorem HR.tk2 (I:HR X z):X.tz≤z.s.toks+2:=ϡ I.tk1
theorem HR.tk3 (I:HR X z):X.tz≤z.s.toks+3:=ϡ I.tk2
theorem HR.grow (I:HR X z) (g:Grw z G' s') (tk:X.tz≤s'.toks:=by first | assumption | exact HR.tk (by assumption) | exact HR.tk1 (by assumption)):HR X { z with G:=G',s:=s' }:=by
 have nn:∀ {a:Δ},(∃ o,z.h a=some o)→z.G a=none→G' a=none:=fun {a} ⟨o,e⟩ n=>by
  cases q:G' a with
  | none=>rfl
  | some o'=>rcases g.gn a o' q with z | z;rw [n] at z;cases z;rw [z] at e;cases e
 exact ⟨I.md,I.fm,I.hd,fun b o e=>g.gg _ _ (I.bs b o e),g.gh,I.rl,I.rn,fun a m=>nn (I.th m) (I.rg a m),fun n o p h1 h2=>(I.ob n o p h1 h2).mono (ξ _) g.gg fun a _ o e=>g.gr.k a o e,nfu I.fu g.gr.k,fun b m=>⟨nn (I.fth m) (I.ff b m).1,(I.ff b m).2⟩,by rw [g.gr.gs];exact I.br,g.gr.os.trans I.os,tk⟩
theorem Rep.lth (I:Rep X z) (l:Lc X a):∃ o,z.h a=some o:=by
 rcases l with rfl | ⟨x,e⟩
 ·obtain ⟨m,⟨o,_,_,e,_⟩,_⟩:=I.lo;exact ⟨o,e⟩
 ·obtain ⟨v,o,e,_⟩:=I.ce x a e;exact ⟨o,e⟩
theorem Rep.oth (I:Rep X z) (o:Own z a):Fre X z a∧∃ o,z.h a=some o:=by
 obtain ⟨i,m,e⟩:=o
 obtain ⟨d,b,o,_,e2,_,r,f⟩:=I.eo i m
 rw [e] at e2;cases e2
 exact ⟨f,r.th.1⟩
theorem dB {h h':Â} (k:∀ c v,env.cells.lookup x=some c→h.IsCell c v→h'.IsCell c v) (l:mc env h m x u):mc env h' m x u:=l.imp_right fun ⟨a,c,e,q⟩=>⟨a,c,e,k c _ e q⟩
theorem Rep.fre (I:Rep X z) (n:z.h a=none):Fre X z a∧¬ Own z a:=by
 have no:∀ {P:Prop},(P→∃ o,z.h a=some o)→¬ P:=fun k p=>by obtain ⟨o,e⟩:=k p;rw [n] at e;cases e
 refine ⟨⟨?_,no I.th,no I.fth,no I.lth⟩,no fun o=>(I.oth o).2⟩
 cases q:z.G a with
 | none=>rfl
 | some o=>have:=I.gh a o q;rw [n] at this;cases this
theorem xE {h h':Â} (sl:∀ b o,h.get? b=some o→∃ sl,h'.get? b=some { o with slots:=sl }) (n:h.Ns a m):h'.Ns a m:=let ⟨o,es,ep,e,r⟩:=n;let ⟨_,q⟩:=sl a o e;⟨_,es,ep,q,r⟩
theorem gc {h h':Â} (sl:∀ b o,h.get? b=some o→∃ sl,h'.get? b=some { o with slots:=sl }) (n:h.IsCell c v):h'.IsCell c v:=let ⟨o,e,d⟩:=n;let ⟨_,q⟩:=sl c o e;⟨_,q,d⟩
theorem Rep.grw (I:Rep X z) (tk:X.tz≤s'.toks) (os:s'.os=z.s.os) (br:ŏ s'.gens) (k:∀ b o,z.h b=some o→b ∉ frs X.fr→s'.heap.get? b=some o) (sl:∀ b o,z.h b=some o→∃ sl,s'.heap.get? b=some { o with slots:=sl })
 (gg:Sub z.G G') (gh:Sub G' s'.heap.get?) (gn:∀ a o,G' a=some o→z.G a=some o∨(Fre X z a∧¬ Own z a)):Rep X { z with G:=G',s:=s' }:=by
 have nn:∀ {a:Δ},¬ (Fre X z a∧¬ Own z a)→z.G a=none→G' a=none:=fun {a} f n=>by
  cases q:G' a with
  | none=>rfl
  | some o'=>rcases gn a o' q with z | z;rw [n] at z;cases z;exact (f z).elim
 refine ⟨⟨I.md,I.fm,I.hd,fun b o e=>gg _ _ (I.bs b o e),gh,I.rl,I.rn,fun a m=>nn (fun f=>f.1.2.1 m) (I.rg a m),fun n o p h1 h2=>(I.ob n o p h1 h2).mono (ξ _) gg fun a ha o e=>k a o e fun m=>(I.ff a m).2 ⟨p,Ι h2,ha⟩,I.fu.of_keeps fun b o e _=>let ⟨_,q⟩:=sl b o e;⟨_,q,rfl⟩,fun b m=>⟨nn (fun f=>f.1.2.2.1 m) (I.ff b m).1,(I.ff b m).2⟩,br,os.trans I.os,tk⟩,I.ok,?_,fun x c e=>let ⟨v,q⟩:=I.ce x c e;⟨v,gc sl q⟩,fun a l=>⟨nn (fun f=>f.1.2.2.2 l) (I.fl a l).1,(I.fl a l).2⟩,I.el,I.sl,fun i d n e=>let ⟨u,q,r⟩:=I.en i d n e;⟨u,q,r.mono (ξ _) gg⟩,fun i m=>?_,I.od⟩
 ·obtain ⟨m,hn,hl⟩:=I.lo
  exact ⟨m,xE sl hn,fun i x u h1 h2 h3=>dB (fun c v _ q=>gc sl q) (hl i x u h1 h2 h3)⟩
 ·obtain ⟨d,a,o,h1,h2,h3,r,f⟩:=I.eo i m
  exact ⟨d,a,o,h1,h2,h3,r.mono (ξ _) gg fun b hb o e=>k b o e (by rcases hb with rfl | rfl <;> exact f.2.2.1),nn (fun f=>f.2 ⟨i,m,h2⟩) f.1,f.2⟩
theorem Rep.grow (I:Rep X z) (g:Grw z G' s') (tk:X.tz≤s'.toks:=by first | assumption | exact HR.tk (by assumption) | exact HR.tk1 (by assumption) | exact (Rep.toHR (by assumption)).tk | exact (Rep.toHR (by assumption)).tk1 | exact HR.tk2 (Rep.toHR (by assumption)) | exact HR.tk3 (Rep.toHR (by assumption))):Rep X { z with G:=G',s:=s' }:=I.grw tk g.gr.os (by rw [g.gr.gs];exact I.br) (fun b o e _=>g.gr.k b o e) (fun b o e=>⟨o.slots,g.gr.k b o e⟩) g.gg g.gh fun a o e=>(g.gn a o e).imp_right I.fre
theorem Grw.stp (g:Grw z G' s'):Stp fr w z { z with G:=G',s:=s' }:=⟨ξ _,g.gg,fun a o e=>(g.gn a o e).imp_right .inl,fun _ m=>.inl m,fun a o e=>⟨o,g.gr.k a o e⟩,fun a o e _ _ _=>g.gr.k a o e,fun a o e _ _ _=>⟨o.slots,g.gr.k a o e⟩⟩
theorem Grw.ee (g:Grw z G' s'):Ee X z { z with G:=G',s:=s' }:=⟨g.stp,rfl,rfl,fun _ h=>h⟩
end
def Z.up (z:Z) (s':τ):Z:={ z with G:=fun a=>match z.h a with | none=>s'.heap.get? a | some _=>z.G a,s:=s' }
theorem jZ {z:Z} {s':τ} (n:z.h a=none):(z.up s').G a=s'.heap.get? a:=by show (match z.h a with | none=>s'.heap.get? a | some _=>z.G a)=_;rw [n]
theorem cn {z:Z} {s':τ} (I:Sub z.G z.h) (g:Gr z.s s'):Grw z (z.up s').G s':=by
 refine ⟨g,fun a o e=>?_,fun a o e=>?_,fun a o e=>?_⟩
 ·show (match z.h a with | none=>s'.heap.get? a | some _=>z.G a)=_
  rw [I a o e];exact e
 ·revert e
  show (match z.h a with | none=>s'.heap.get? a | some _=>z.G a)=_→_
  cases q:z.h a with
  | none=>exact fun e=>e
  | some u=>exact fun e=>g.k a o (I a o e)
 ·cases q:z.h a with
  | none=>exact .inr rfl
  | some u=>
    revert e
    show (match z.h a with | none=>s'.heap.get? a | some _=>z.G a)=_→_
    rw [q];exact .inl
theorem aq {z:Z} {s':τ} (I:Sub z.G z.h) (g:Gr z.s s'):Grw z z.G s':=⟨g,.refl _,fun a o e=>g.k a o (I a o e),fun _ _ e=>.inl e⟩
def j8 (z:Z) (p:Nat→Bool) (a:Δ):Prop:=∃ i∈z.t.ow,p i=false∧z.σ[i]? = some (some (.ref a))
open Classical in
noncomputable def Z.rel (z:Z) (p:Nat→Bool):Z:={ z with t:=⟨z.t.env,z.t.ow.filter p,z.t.st⟩,G:=fun a=>if j8 z p a then z.h a else z.G a }
theorem gv {z:Z} (h:j8 z p a):(z.rel p).G a=z.h a:=ZZ h
theorem dF {z:Z} (h:¬ j8 z p a):(z.rel p).G a=z.G a:=ZY h
theorem jJ {d:D} (e:toO d=some o) (r:ObR W ρ G h (a,b) o) (g:Sub G G') (q:G' a=h a):RD W ρ G' d (.ref a):=by
 cases d <;> cases e
 ·obtain ⟨o,vs,_,e,l,t⟩:=r;exact ⟨a,o,vs,rfl,q.trans e,l,t.mono (ξ _) g⟩
 ·obtain ⟨o,vs,_,m,e,l,n,t⟩:=r;exact ⟨a,o,vs,rfl,m,q.trans e,l,n,t.mono (ξ _) g⟩
theorem Rep.rel (I:Rep X z) (p:Nat→Bool):Rep X (z.rel p)∧Ee X z (z.rel p):=by
 have own:∀ {a},j8 z p a→Own z a:=fun ⟨i,m,_,e⟩=>⟨i,m,e⟩
 have gg:Sub z.G (z.rel p).G:=fun a o e=>by
  by_cases q:j8 z p a
  ·rw [(I.oth (own q)).1.1] at e;cases e
  ·rw [dF q];exact e
 have nn:∀ {a},¬ Own z a→z.G a=none→(z.rel p).G a=none:=fun n g=>by rw [dF fun q=>n (own q)];exact g
 refine ⟨⟨⟨I.md,I.fm,I.hd,fun b o e=>gg _ _ (I.bs b o e),fun a o e=>?_,I.rl,I.rn,fun a m=>nn (fun q=>(I.oth q).1.2.1 m) (I.rg a m),fun n o p h1 h2=>(I.ob n o p h1 h2).mono (ξ _) gg fun _ _ _ e=>e,I.fu,fun b m=>⟨nn (fun q=>(I.oth q).1.2.2.1 m) (I.ff b m).1,(I.ff b m).2⟩,I.br,I.os,I.tk⟩,I.ok,I.lo,I.ce,fun a l=>⟨nn (fun q=>(I.oth q).1.2.2.2 l) (I.fl a l).1,(I.fl a l).2⟩,I.el,I.sl,fun i d n e=>?_,fun i m=>?_,fun i j a m1 m2=>I.od i j a (ϕ.mp m1).1 (ϕ.mp m2).1⟩,⟨⟨ξ _,gg,fun a o e=>?_,fun _ m=>.inl m,fun a o e=>⟨o,e⟩,fun _ _ e _ _ _=>e,fun _ o e _ _ _=>⟨o.slots,e⟩⟩,rfl,rfl,fun i m=>(ϕ.mp m).1⟩⟩
 ·by_cases q:j8 z p a
  ·rw [gv q] at e;exact e
  ·rw [dF q] at e;exact I.gh a o e
 ·by_cases m:i∈z.t.ow
  ·have pf:p i=false:=by
    cases q:p i with
    | false=>rfl
    | true=>exact ZX (ϕ.mpr ⟨m,q⟩) n
   obtain ⟨d',a,o,h1,h2,h3,r,f⟩:=I.eo i m
   rw [show z.t.env[i]? = some (some d) from e] at h1;cases h1
   exact ⟨_,h2,jJ h3 r gg (gv ⟨i,m,pf,h2⟩)⟩
  ·obtain ⟨u,q,r⟩:=I.en i d m e
   exact ⟨u,q,r.mono (ξ _) gg⟩
 ·obtain ⟨m1,m2⟩:=ϕ.mp m
  obtain ⟨d',a,o,h1,h2,h3,r,f⟩:=I.eo i m1
  refine ⟨d',a,o,h1,h2,h3,r.mono (ξ _) gg fun _ _ _ e=>e,?_,f.2⟩
  refine (dF fun ⟨j,mj,pj,ej⟩=>?_).trans f.1
  rw [I.od j i a mj m1 ej h2,m2] at pj;cases pj
 ·by_cases q:j8 z p a
  ·exact .inr (.inr (own q))
  ·rw [dF q] at e;exact .inl e
inductive Tr (h:Â) (a:Δ) (cls:η) (dx:Option Δ) (T:Δ) (fl:η):Prop
 | mk (oe:_) (vs:_) (oT:_) (ts:_) (_:h.get? a=some oe) (_:(oe.cls=cls∧oe.dict=dx)) (_:oe.data = .fields vs) (_:vs[1]? = some (.ref T)) (_:T≠a) (_:h.get? T=some oT) (_:oT.data = .fields ts) (_:ts[3]? = some fl)
inductive Rw (h:Â) (a:Δ) (cls:η) (dx:Option Δ):Prop
 | mk (oe:_) (vs:_) (_:h.get? a=some oe) (_:(oe.cls=cls∧oe.dict=dx)) (_:oe.data = .fields vs) (_:vs[1]? = some .none)
inductive XI (W:Wd) (ρ:Rs) (G:Hp) (c:Nat) (l:List D) (cls:η) (dx:Option Δ):Prop
 | mk (i:CI) (_:W.ci[c]? = some i) (_:W.what[c]? = some 2) (_:cls = .ref i.ad) (_:l.length≤i.nm.length) (_:(l = []∧dx=none)∨∃ d od vs,dx=some d∧G d=some od∧NsO od (i.nm.zip vs)∧RDs W ρ G l vs)
def XR (W:Wd) (z:Z) (c:Nat) (l:List D) (cls:η) (dx:Option Δ):Prop:=XI W z.ρ z.G c l cls dx
def Nob (X:Cx) (z z':Z) (a:Δ):Prop:=z.h a=none∧Fre X z' a∧¬ Own z' a
inductive XO (X:Cx) (z z':Z) (c:Nat) (l:List D) (e:η):Prop
 | mk (a:_) (cls:_) (dx:_) (_:e = .ref a) (_:XR X.W z' c l cls dx) (_:Nob X z z' a) (_:(Rw z'.s.heap a cls dx∨∃ T fl,Tr z'.s.heap a cls dx T fl∧(fl = .none∨∃ L,X.env.frame=some L∧fl=ú L)∧Nob X z z' T))
theorem XO.less (h:XO X z1 z' c l e) (k:∀ a,z1.h a=none→z.h a=none):XO X z z' c l e:=by
 obtain ⟨a,cls,dx,e,r,n,h⟩:=h
 exact ⟨a,cls,dx,e,r,⟨k a n.1,n.2⟩,h.imp_right fun ⟨T,fl,t,q,n⟩=>⟨T,fl,t,q,k T n.1,n.2⟩⟩
section
variable {α β γ δ:Type} {X:Cx}
inductive Pe (X:Cx) (z:Z) (o:Out α) (R:Z→α→β→Prop) (u:β) (s':τ):Prop
 | mk (z':_) (d:_) (_:z'.s=s') (_:o = .ok d z'.t) (_:Ee X z z') (_:Rep X z') (_:R z' d u)
inductive Px (X:Cx) (z:Z) (o:Out α) (x:η) (s':τ):Prop
 | mk (z':_) (c:_) (l:_) (_:z'.s=s') (_:o = .exc c l z'.t) (_:Ee X z z') (_:Rep X z') (_:XO X z z' c l x)
abbrev Wp (X:Cx) (t:DR β) (z:Z) (o:Out α) (R:Z→α→β→Prop):Prop:=Ε X.M X.A t (Pe X z o R) (Px X z o) z.s
def Jg (X:Cx) (t:DR β) (m:Sta→Out α) (R:Z→α→β→Prop):Prop:=∀ z,Rep X z→m z.t≠.bad→Wp X t z (m z.t) R
theorem Pe.less {z1:Z} {o:Out α} {R:Z→α→β→Prop} (x:Ee X z z1) (h:Pe X z1 o R u s'):Pe X z o R u s':=let ⟨z',d,e,q,y,J,r⟩:=h;⟨z',d,e,q,x.trans y,J,r⟩
theorem Px.less {z1:Z} {o:Out α} (x:Ee X z z1) (h:Px X z1 o u s'):Px X z o u s':=let ⟨z',c,l,e,q,y,r,n⟩:=h;⟨z',c,l,e,q,x.trans y,r,n.less fun _=>x.st.no⟩
theorem Px.map {o:Out α} {f:α→Sta→Out γ} (h:Px X z o u s'):Px X z (o.bind f) u s':=let ⟨z',c,l,e,q,y,J,r⟩:=h;⟨z',c,l,e,by rw [q];rfl,y,J,r⟩
theorem Wp.less {t:DR β} {z1:Z} {o:Out α} {R:Z→α→β→Prop} (x:Ee X z z1) (h:Wp X t z1 o R):Ε X.M X.A t (Pe X z o R) (Px X z o) z1.s:=Η h (fun _ _ h=>h.less x) fun _ _ h=>h.less x
theorem Jg.go {t:DR β} {m:Sta→Out α} {R:Z→α→β→Prop} {f:α→Sta→Out γ} {o:Out γ} {K:β→τ→Prop} (h:Jg X t m R) (x:Ee X z z1) (I:Rep X z1) (e:o=(m z1.t).bind f) (nb:o≠.bad)
 (k:∀ z2 d u,Ee X z1 z2→Ee X z z2→Rep X z2→R z2 d u→o=f d z2.t→K u z2.s):Ε X.M X.A t K (Px X z o) z1.s:=by
 subst e
 refine Η (h z1 I fun q=>nb (by rw [q];rfl)) (fun u s' ⟨z2,d,e,q,y,I1,r⟩=>?_) fun u s' h=>(h.less x).map
 subst e;exact k z2 d u y (x.trans y) I1 r (by rw [q];rfl)
theorem Jg.at {t:DR β} {m:Sta→Out α} {R:Z→α→β→Prop} {o:Out α} (h:Jg X t m R) (x:Ee X z z1) (I:Rep X z1) (e:o=m z1.t) (nb:o≠.bad):Ε X.M X.A t (Pe X z o R) (Px X z o) z1.s:=by subst e;exact (h z1 I nb).less x
theorem aV {M:EW} {A:ϗ} {s:τ} {t:DR β} {Q:β→τ→Prop} {E:η→τ→Prop} {n:Nat} (h0:n≤s.toks) (h:Ε M A t (fun a s'=>n≤s'.toks→Q a s') E s):Ε M A t Q E s:=Η (ό h0 h) (fun _ _ k=>k.2 k.1) fun _ _ k=>k.2
def Dn (X:Cx) (z:Z) (d:D) (u:η) (s':τ):Prop:=Gr z.s s'∧RD X.W z.ρ (z.up s').G d u
theorem Dn.pe (I:Rep X z) (h:Dn X z d u s') (tk:X.tz≤s'.toks:=by first | assumption | exact HR.tk (by assumption) | exact HR.tk1 (by assumption) | exact (Rep.toHR (by assumption)).tk | exact (Rep.toHR (by assumption)).tk1 | exact HR.tk2 (Rep.toHR (by assumption)) | exact HR.tk3 (Rep.toHR (by assumption))):Pe X z (.ok d z.t) (RV X.W br c) u s':=⟨z.up s',d,rfl,rfl,(cn I.gh h.1).ee,I.grow (cn I.gh h.1),.of h.2⟩
theorem Dn.flat {s':τ} (g:Gr z.s s') (h:∀ G,RD X.W z.ρ G d u):Dn X z d u s':=⟨g,h _⟩
theorem Dn.old (I:Rep X z) {s':τ} (g:Gr z.s s') (h:RD X.W z.ρ z.G d u):Dn X z d u s':=⟨g,h.mono (ξ _) (cn I.gh g).gg⟩
theorem Dn.at (x:Ee X z0 z) (I:Rep X z) (e:o = .ok d z.t) (h:Dn X z d u s') (tk:X.tz≤s'.toks:=by first | assumption | exact HR.tk (by assumption) | exact HR.tk1 (by assumption) | exact (Rep.toHR (by assumption)).tk | exact (Rep.toHR (by assumption)).tk1 | exact HR.tk2 (Rep.toHR (by assumption)) | exact HR.tk3 (Rep.toHR (by assumption))):Pe X z0 o (RV X.W br c) u s':=e ▸ (h.pe I tk).less x
theorem cB {t:DR η} {o:Out D} (x:Ee X z0 z) (I:Rep X z) (e:o=Out.of z.t od) (nb:o≠.bad) (h:∀ d,od=some d→Ε X.M X.A t (Dn X z d) (fun _ _=>False) z.s):Ε X.M X.A t (Pe X z0 o (RV X.W br c)) (Px X z0 o) z.s:=by
 cases od with
 | none=>exact ZX e nb
 | some d=>exact Η (ό I.tk (h d rfl)) (fun _ _ h=>h.2.at x I e h.1) fun _ _ z=>z.2.elim
end
theorem big (h:n≤100000):n≤ϙ:=Õ h (by rw [ï];decide)
theorem ku:∀ {ds es} {b},gJ f ds es=some b→(∀ j (h1:j<ds.length) (h2:j<es.length),∃ c,f ds[j] es[j]=some c)∧b=(Ō (min ds.length es.length)).all fun j=>(f (ds[j]?.getD .non) (es[j]?.getD .non)).getD false
 | [],es,b,h=>by cases h;exact ⟨fun j h=>ZX h (En _),by simp⟩
 | d :: ds,[],b,h=>by cases h;exact ⟨fun j _ h=>ZX h (En _),by simp⟩
 | d :: ds,e :: es,b,h=>by
   unfold gJ at h
   cases q:f d e with
   | none=>rw [q] at h;cases h
   | some x=>
     rw [q] at h
     cases q2:gJ f ds es with
     | none=>rw [q2] at h;cases h
     | some y=>
       rw [q2] at h
       cases h
       obtain ⟨i1,i2⟩:=ku q2
       refine ⟨fun j h1 h2=>?_,?_⟩
       ·cases j with
        | zero=>exact ⟨x,q⟩
        | succ j=>exact i1 j (ő h1) (ő h2)
       ·have m:min (d :: ds).length (e :: es).length=min ds.length es.length+1:=by simp only [ψ];omega
        rw [m,List.range_succ_eq_map,ĺ,Hv,i2]
        simp only [F1,Ż,q]
        rfl
theorem zX (f:sh d=1):∃ l,d = .tup l:=by cases d <;> first | exact ⟨_,rfl⟩ | cases f
theorem zW (f:sh d=2):∃ l,d = .lst l:=by cases d <;> first | exact ⟨_,rfl⟩ | cases f
theorem xI (d:D):sh d<4:=by cases d <;> exact Nat.le_of_ble_eq_true rfl
theorem zY:∀ x y:Fin 4,¬ (x.1=3∨y.1=3)→¬ (x.1=0∧y.1=0)→¬ x.1=y.1→(x.1=0∧(y.1=1∨y.1=2))∨((x.1=1∨x.1=2)∧y.1=0)∨(x.1=1∧y.1=2)∨(x.1=2∧y.1=1):=by decide +kernel
theorem rH (h:eq0 d e=some b):(sh d=0∧sh e=0∧b=eqf d e)∨(b=false∧((sh d=0∧(sh e=1∨sh e=2))∨((sh d=1∨sh d=2)∧sh e=0)∨(sh d=1∧sh e=2)∨(sh d=2∧sh e=1))):=by
 unfold eq0 at h
 split at h
 ·cases h
 ·rename_i h3
  split at h
  ·rename_i h0;cases h;exact .inl ⟨h0.1,h0.2,rfl⟩
  ·split at h
   ·cases h
   ·cases h
    refine .inr ⟨rfl,?_⟩
    rename_i h0 h1
    exact zY ⟨sh d,xI d⟩ ⟨sh e,xI e⟩ h3 h0 h1
theorem qh (h:eqv (n+1) d e=some b):(∃ da db y,d = .tup da∧e = .tup db∧gJ (eqv n) da db=some y∧b=(y && da.length == db.length)) ∨
 (∃ da db,d = .lst da∧e = .lst db∧((da.length=db.length∧gJ (eqv n) da db=some b)∨(da.length≠db.length∧b=false)))∨eq0 d e=some b:=by
 cases d with
 | tup da=>cases e with
   | tup db=>
     obtain ⟨y,a,c⟩:=Α.mp (show (gJ (eqv n) da db).map (· && da.length == db.length)=some b from h)
     exact .inl ⟨da,db,y,rfl,rfl,a,c.symm⟩
   | _=>exact .inr (.inr h)
 | lst da=>cases e with
   | lst db=>
     have h':(if da.length=db.length then gJ (eqv n) da db else some false)=some b:=h
     split at h'
     ·rename_i z;exact .inr (.inl ⟨da,db,rfl,rfl,.inl ⟨z,h'⟩⟩)
     ·rename_i z;cases h';exact .inr (.inl ⟨da,db,rfl,rfl,.inr ⟨z,rfl⟩⟩)
   | _=>exact .inr (.inr h)
 | _=>exact .inr (.inr h)
open SeqAt
def E3 (A:ϗ) (s:τ) (u v:η) (b:Bool):Prop:=EqAt A s u v b∧RcAt A s u v b∧RcNeAt A s u v (!b)
theorem vb (f1:sh d=0) (f2:sh e=0) (h1:RD W ρ G d u) (h2:RD W ρ G e v):(u=v→eqf d e=true)∧∀ A s,E3 A s u v (eqf d e):=by
 cases d with
 | non=>
   cases (show u=ϣ from h1)
   cases e with
   | non=>cases (show v=ϣ from h2);exact ⟨fun _=>rfl,fun A s=>⟨.same _,.none_none,.none_none⟩⟩
   | bl b=>cases (show v=Ϣ b from h2);exact ⟨nofun,fun A s=>⟨.none_bool _,.none_bool _,.none_bool _⟩⟩
   | int b=>obtain ⟨t,rfl⟩:=(show ∃ t,v=Ġ b t from h2);exact ⟨nofun,fun A s=>⟨.none_int _ _,.none_int _ _,.none_int _ _⟩⟩
   | str b=>obtain ⟨t,rfl⟩:=(show ∃ t,v=Value.str b t from h2);exact ⟨nofun,fun A s=>⟨.none_str _ _,.none_str _ _,.none_str _ _⟩⟩
   | _=>cases f2
 | bl a=>
   cases (show u=Ϣ a from h1)
   cases e with
   | non=>cases (show v=ϣ from h2);exact ⟨nofun,fun A s=>⟨.bool_none _,.bool_none _,.bool_none _⟩⟩
   | bl b=>cases (show v=Ϣ b from h2);exact ⟨fun z=>by cases z;exact ZT a,fun A s=>⟨.bool_bool _ _,.bool_bool _ _,.bool_bool _ _⟩⟩
   | int b=>obtain ⟨t,rfl⟩:=(show ∃ t,v=Ġ b t from h2);exact ⟨nofun,fun A s=>⟨.bool_int _ _ _,.bool_int _ _ _,.bool_int _ _ _⟩⟩
   | str b=>obtain ⟨t,rfl⟩:=(show ∃ t,v=Value.str b t from h2);exact ⟨nofun,fun A s=>⟨.bool_str _ _ _,.bool_str _ _ _,.bool_str _ _ _⟩⟩
   | _=>cases f2
 | int a=>
   obtain ⟨t,rfl⟩:=(show ∃ t,u=Ġ a t from h1)
   cases e with
   | non=>cases (show v=ϣ from h2);exact ⟨nofun,fun A s=>⟨.int_none _ _,.int_none _ _,.int_none _ _⟩⟩
   | bl b=>cases (show v=Ϣ b from h2);exact ⟨nofun,fun A s=>⟨.int_bool _ _ _,.int_bool _ _ _,.int_bool _ _ _⟩⟩
   | int b=>obtain ⟨t,rfl⟩:=(show ∃ t,v=Ġ b t from h2);exact ⟨fun z=>by cases z;exact ZT a,fun A s=>⟨.int_int _ _ _ _,.int_int _ _ _ _,.int_int _ _ _ _⟩⟩
   | str b=>obtain ⟨t,rfl⟩:=(show ∃ t,v=Value.str b t from h2);exact ⟨nofun,fun A s=>⟨.int_str _ _ _ _,.int_str _ _ _ _,.int_str _ _ _ _⟩⟩
   | _=>cases f2
 | str a=>
   obtain ⟨t,rfl⟩:=(show ∃ t,u=Value.str a t from h1)
   cases e with
   | non=>cases (show v=ϣ from h2);exact ⟨nofun,fun A s=>⟨.str_none _ _,.str_none _ _,.str_none _ _⟩⟩
   | bl b=>cases (show v=Ϣ b from h2);exact ⟨nofun,fun A s=>⟨.str_bool _ _ _,.str_bool _ _ _,.str_bool _ _ _⟩⟩
   | int b=>obtain ⟨t,rfl⟩:=(show ∃ t,v=Ġ b t from h2);exact ⟨nofun,fun A s=>⟨.str_int _ _ _ _,.str_int _ _ _ _,.str_int _ _ _ _⟩⟩
   | str b=>obtain ⟨t,rfl⟩:=(show ∃ t,v=Value.str b t from h2);exact ⟨fun z=>by cases z;exact ZT a,fun A s=>⟨.str_str _ _ _ _,.str_str _ _ _ _,.str_str _ _ _ _⟩⟩
   | _=>cases f2
 | _=>cases f1
theorem jj {s:τ} (f:sh d=0) (h:RD W ρ G d u) (hu:A.units<ŧ):(∀ b,u≠.ref b)∧∀ b its,(s.heap.IsTuple b its∨s.heap.IsList b its)→E3 A s u (.ref b) false∧E3 A s (.ref b) u false:=by
 cases d with
 | non=>cases (show u=ϣ from h);exact ⟨nofun,fun b its p=>p.elim (fun p=>⟨⟨.none_tuple p hu,.none_tuple p hu,.none_tuple p hu⟩,.tuple_none p hu,.tuple_none p hu,.tuple_none p hu⟩) fun p=>⟨⟨.none_list p hu,.none_list p hu,.none_list p hu⟩,.list_none p hu,.list_none p hu,.list_none p hu⟩⟩
 | bl k=>cases (show u=Ϣ k from h);exact ⟨nofun,fun b its p=>p.elim (fun p=>⟨⟨.bool_tuple k p hu,.bool_tuple k p hu,.bool_tuple k p hu⟩,.tuple_bool k p hu,.tuple_bool k p hu,.tuple_bool k p hu⟩) fun p=>⟨⟨.bool_list k p hu,.bool_list k p hu,.bool_list k p hu⟩,.list_bool k p hu,.list_bool k p hu,.list_bool k p hu⟩⟩
 | int k=>obtain ⟨t,rfl⟩:=(show ∃ t,u=Ġ k t from h);exact ⟨nofun,fun b its p=>p.elim (fun p=>⟨⟨.int_tuple k t p hu,.int_tuple k t p hu,.int_tuple k t p hu⟩,.tuple_int k t p hu,.tuple_int k t p hu,.tuple_int k t p hu⟩) fun p=>⟨⟨.int_list k t p hu,.int_list k t p hu,.int_list k t p hu⟩,.list_int k t p hu,.list_int k t p hu,.list_int k t p hu⟩⟩
 | str k=>obtain ⟨t,rfl⟩:=(show ∃ t,u=Value.str k t from h);exact ⟨nofun,fun b its p=>p.elim (fun p=>⟨⟨.str_tuple k t p hu,.str_tuple k t p hu,.str_tuple k t p hu⟩,.tuple_str k t p hu,.tuple_str k t p hu,.tuple_str k t p hu⟩) fun p=>⟨⟨.str_list k t p hu,.str_list k t p hu,.str_list k t p hu⟩,.list_str k t p hu,.list_str k t p hu,.list_str k t p hu⟩⟩
 | _=>cases f
theorem CR.fl (f:sh d=0) (h:CR W z d u):RD W z.ρ z.G d u:=by cases d <;> first | exact h | cases f
theorem tpt {h:Â} (e:h.get? a=some o) (t:TpO o l):h.IsTuple a l.toArray:=⟨o,e,t.1,t.2.1⟩
theorem lsl {h:Â} (e:h.get? a=some o) (t:LsO o l):h.IsList a l.toArray:=by obtain ⟨⟨n,rfl⟩,_⟩:=t;exact ⟨_,e,rfl,n,rfl⟩
theorem E3.refs (ne:l=b→k=true) (h:RcAt A s (.ref l) (.ref b) k) (h2:RcNeAt A s (.ref l) (.ref b) (!k)):E3 A s (.ref l) (.ref b) k:=by
 refine ⟨?_,h,h2⟩
 by_cases q:l=b
 ·subst q;rw [ne rfl];exact .same _
 ·exact .of_refs q h
theorem e3 (I:HR X z):∀ (n:Nat) {d e u v b},eqv n d e=some b→CR X.W z d u→CR X.W z e v→(u=v→b=true)∧∀ A,A.units+n+1<ŧ→E3 A z.s u v b:=by
 have low:∀ {d e u v b},eq0 d e=some b→CR X.W z d u→CR X.W z e v→(u=v→b=true)∧∀ A,A.units<ŧ→E3 A z.s u v b:=by
  intro d e u v b h h1 h2
  have it:∀ {d:D} {u:η},(sh d=1∨sh d=2)→CR X.W z d u→∃ a its,u = .ref a∧((sh d=1∧z.s.heap.IsTuple a its)∨(sh d=2∧z.s.heap.IsList a its)):=fun {d u} f h=>by
   rcases f with f | f
   ·obtain ⟨l,rfl⟩:=zX f;obtain ⟨a,o,vs,rfl,e,t,_⟩:=h;exact ⟨a,_,rfl,.inl ⟨rfl,tpt (I.gh _ _ e) t⟩⟩
   ·obtain ⟨l,rfl⟩:=zW f;obtain ⟨a,o,vs,rfl,e,t,_⟩:=h;exact ⟨a,_,rfl,.inr ⟨rfl,lsl e t⟩⟩
  rcases rH h with ⟨f1,f2,rfl⟩ | ⟨rfl,c⟩
  ·obtain ⟨p,q⟩:=vb f1 f2 (h1.fl f1) (h2.fl f2);exact ⟨p,fun A _=>q A _⟩
  ·rcases c with ⟨c1,c2⟩ | ⟨c1,c2⟩ | ⟨c1,c2⟩ | ⟨c1,c2⟩
   ·obtain ⟨a,its,rfl,w⟩:=it c2 h2
    have w:=w.imp DX DX
    exact ⟨fun q=>ZX q ((jj (s:=z.s) (A:={ }) c1 (h1.fl c1) (by decide)).1 a),fun A hu=>((jj c1 (h1.fl c1) hu).2 a its w).1⟩
   ·obtain ⟨a,its,rfl,w⟩:=it c1 h1
    have w:=w.imp DX DX
    exact ⟨fun q=>ZX q.symm ((jj (s:=z.s) (A:={ }) c2 (h2.fl c2) (by decide)).1 a),fun A hu=>((jj c2 (h2.fl c2) hu).2 a its w).2⟩
   ·obtain ⟨a,i1,rfl,w1⟩:=it (.inl c1) h1
    obtain ⟨b,i2,rfl,w2⟩:=it (.inr c2) h2
    have w1:=w1.resolve_right fun z=>by omega
    have w2:=w2.resolve_left fun z=>by omega
    exact ⟨fun q=>ZX (ć q).symm (ne_of_list_tuple w2.2 w1.2),fun A hu=>⟨.tuple_list w1.2 w2.2 hu,.tuple_list w1.2 w2.2 hu,.tuple_list w1.2 w2.2 hu⟩⟩
   ·obtain ⟨a,i1,rfl,w1⟩:=it (.inr c1) h1
    obtain ⟨b,i2,rfl,w2⟩:=it (.inl c2) h2
    have w1:=w1.resolve_left fun z=>by omega
    have w2:=w2.resolve_right fun z=>by omega
    exact ⟨fun q=>ZX (ć q) (ne_of_list_tuple w1.2 w2.2),fun A hu=>⟨.list_tuple w1.2 w2.2 hu,.list_tuple w1.2 w2.2 hu,.list_tuple w1.2 w2.2 hu⟩⟩
 intro n
 induction n with
 | zero=>intro d e u v b h h1 h2;obtain ⟨p,q⟩:=low h h1 h2;exact ⟨p,fun A hu=>q A (by omega)⟩
 | succ n ih=>
   intro d e u v b h h1 h2
   have items:∀ {da db:List D} {vs ws:List η} {y:Bool},gJ (eqv n) da db=some y→RDs X.W z.ρ z.G da vs→RDs X.W z.ρ z.G db ws→(vs=ws→y=true)∧∃ f:Nat→Bool,(Ō (min vs.toArray.size ws.toArray.size)).all f=y∧∀ A,A.units+n+1<ŧ→∀ j (h1:j<vs.toArray.size) (h2:j<ws.toArray.size),EqAt A z.s vs.toArray[j] ws.toArray[j] (f j):=by
    intro da db vs ws y q r1 r2
    obtain ⟨q1,q2⟩:=ku q
    have l3:=r1.len
    have l4:=r2.len
    have one:∀ j (h1:j<vs.length) (h2:j<ws.length),∃ c,(eqv n (da[j]?.getD .non) (db[j]?.getD .non)).getD false=c∧(vs[j]=ws[j]→c=true)∧∀ A,A.units+n+1<ŧ→EqAt A z.s vs[j] ws[j] c:=fun j h1 h2=>by
     have e1:=Ζ (l:=da) (i:=j) (by omega)
     have e2:=Ζ (l:=db) (i:=j) (by omega)
     obtain ⟨x1,f1,w1⟩:=r1.get e1
     obtain ⟨y1,f2,w2⟩:=r2.get e2
     rw [Ζ h1] at f1;rw [Ζ h2] at f2;cases f1;cases f2
     obtain ⟨c,hc⟩:=q1 j (by omega) (by omega)
     obtain ⟨p,q⟩:=ih hc (.of I w1) (.of I w2)
     exact ⟨c,by rw [e1,e2];simp only [Ż,hc],p,fun A hu=>(q A hu).1⟩
    refine ⟨fun q=>?_,fun j=>(eqv n (da[j]?.getD .non) (db[j]?.getD .non)).getD false,?_,fun A hu j h1 h2=>?_⟩
    ·subst q
     rw [q2,Ψ]
     intro j hj
     have hj:=Eu.mp hj
     obtain ⟨c,e,p,_⟩:=one j (by omega) (by omega)
     rw [e];exact p rfl
    ·rw [q2,Μ,Μ,← l3,← l4]
    ·rw [Μ] at h1 h2
     obtain ⟨c,e,_,p⟩:=one j h1 h2
     show EqAt A z.s vs[j] ws[j] ((eqv n (da[j]?.getD .non) (db[j]?.getD .non)).getD false)
     rw [e];exact p A hu
   rcases qh h with ⟨da,db,y,rfl,rfl,q,rfl⟩ | ⟨da,db,rfl,rfl,q⟩ | h
   ·obtain ⟨a,o,vs,rfl,t,to,r1⟩:=h1
    obtain ⟨a',o',ws,rfl,t',to',r2⟩:=h2
    obtain ⟨sm,f,val,its⟩:=items q r1 r2
    have l3:=r1.len
    have l4:=r2.len
    have same:a=a'→(y && da.length == db.length)=true:=fun z=>by
     subst z
     rw [t] at t';cases t'
     obtain ⟨n1,e1⟩:=to.2.1
     obtain ⟨n2,e2⟩:=to'.2.1
     rw [e1] at e2
     injection e2 with e2
     have e:vs=ws:=by simpa using ZS Hq e2
     rw [sm e,l3,l4,e];simp
    have lz:(vs.toArray.size == ws.toArray.size)=(da.length == db.length):=by rw [l3,l4];rfl
    refine ⟨fun z=>same (ć z),fun A hu=>.refs same ?_ ?_⟩
    ·rw [← val,← lz];exact .tuples (tpt (I.gh _ _ t) to) (tpt (I.gh _ _ t') to') (by omega) (its _ (show A.units+1+n+1<ŧ by omega))
    ·rw [← val,← lz];exact .tuples (tpt (I.gh _ _ t) to) (tpt (I.gh _ _ t') to') (by omega) (its _ (show A.units+1+n+1<ŧ by omega))
   ·obtain ⟨a,o,vs,rfl,t,to,r1⟩:=h1
    obtain ⟨a',o',ws,rfl,t',to',r2⟩:=h2
    have l3:=r1.len
    have l4:=r2.len
    have sv:a=a'→vs=ws:=fun z=>by
     subst z
     rw [t] at t';cases t'
     obtain ⟨⟨n1,rfl⟩,_⟩:=to
     obtain ⟨⟨n2,e2⟩,_⟩:=to'
     injection e2 with _ _ e2
     injection e2 with e2
     simpa using ZS Hq e2
    rcases q with ⟨hl,q⟩ | ⟨hl,rfl⟩
    ·obtain ⟨sm,f,val,its⟩:=items q r1 r2
     have m:min vs.toArray.size ws.toArray.size=vs.toArray.size:=by simp;omega
     rw [m] at val
     refine ⟨fun z=>sm (sv (ć z)),fun A hu=>.refs (fun z=>sm (sv z)) ?_ ?_⟩
     ·rw [← val];exact .lists (lsl t to) (lsl t' to') (by simp;omega) (by omega) (its _ (show A.units+1+n+1<ŧ by omega))
     ·rw [← val];exact .lists (lsl t to) (lsl t' to') (by simp;omega) (by omega) (its _ (show A.units+1+n+1<ŧ by omega))
    ·have ne:a=a'→false=true:=fun z=>by rw [sv z] at l3;omega
     exact ⟨fun z=>ne (ć z),fun A hu=>.refs ne (.lists_lengths (lsl t to) (lsl t' to') (by simp;omega) (by omega)) (.lists_lengths (lsl t to) (lsl t' to') (by simp;omega) (by omega))⟩
   ·obtain ⟨p,q⟩:=low h h1 h2;exact ⟨p,fun A hu=>q A (by omega)⟩
theorem oI:∀ {l} {b},inD d l=some b→(∀ j (h:j<l.length),∃ c,eqv 55 l[j] d=some c)∧b=l.any fun e=>(eqv 55 e d).getD false
 | [],b,h=>by cases h;exact ⟨fun j h=>ZX h (En _),rfl⟩
 | e :: r,b,h=>by
   unfold inD at h
   cases q:eqv 55 e d with
   | none=>rw [q] at h;cases h
   | some x=>
     rw [q] at h
     obtain ⟨y,q2,rfl⟩:=Α.mp h
     obtain ⟨i1,i2⟩:=oI q2
     refine ⟨fun j h=>?_,by rw [Hn,q,i2];rfl⟩
     cases j with
     | zero=>exact ⟨x,q⟩
     | succ j=>exact i1 j (ő h)
theorem kG (I:HR X z) (hu:A.units+57<ŧ) (q:inD d l=some b) (r:RDs X.W z.ρ z.G l vs) (hd:CR X.W z d v):∃ e:η→Bool,(∀ y,y∈vs.toArray→EqAt A z.s y v (e y))∧vs.toArray.any e=b:=by
 obtain ⟨q1,q2⟩:=oI q
 have l3:=r.len
 have eqs:∀ j (h1:j<vs.length) (h2:j<l.length),EqAt A z.s vs[j] v ((eqv 55 l[j] d).getD false):=fun j h1 h2=>by
  obtain ⟨x1,e1,w1⟩:=r.get (Ζ h2)
  rw [Ζ h1] at e1;cases e1
  obtain ⟨c,hc⟩:=q1 j h2
  rw [hc]
  exact ((e3 I 55 hc (.of I w1) hd).2 A (by omega)).1
 have cl:∀ y,Decidable (∃ j,∃ (h1:j<vs.length) (h2:j<l.length),vs[j]=y∧(eqv 55 l[j] d).getD false=true):=fun y=>Classical.propDecidable _
 refine ⟨fun y=>@decide _ (cl y),fun y hy=>?_,?_⟩
 ·rcases Gk (∃ j,∃ (h1:j<vs.length) (h2:j<l.length),vs[j]=y∧(eqv 55 l[j] d).getD false=true) with c | c
  ·obtain ⟨j,h1,h2,e,t⟩:=id c
   have w:=eqs j h1 h2
   rw [e,t] at w
   dsimp only
   rw [show @decide _ (cl y)=true from @ZW _ (cl y) c]
   exact w
  ·obtain ⟨j,h1,e⟩:=FG (by simpa using hy)
   have w:=eqs j h1 (by omega)
   have t:(eqv 55 l[j] d).getD false=false:=ſ.mpr fun t=>c ⟨j,h1,by omega,e,t⟩
   rw [t,e] at w
   dsimp only
   rw [show @decide _ (cl y)=false from @ZV _ (cl y) c]
   exact w
 ·rw [q2,List.any_toArray,ě,Gz,Gz]
  constructor
  ·rintro ⟨y,hy,t⟩
   obtain ⟨j,h1,h2,e,t⟩:=@of_decide_eq_true _ (cl _) t
   exact ⟨l[j],Ö h2,t⟩
  ·rintro ⟨e,he,t⟩
   obtain ⟨j,h2,rfl⟩:=FG he
   exact ⟨vs[j]'(by omega),Ö _,@ZW _ (cl _) ⟨j,by omega,h2,rfl,t⟩⟩
end L2.Ev
end
section
namespace HT
section
variable {prog:Î} {w:é} {A:ϗ} {E:η→τ→Prop} {s:τ}
theorem getItem_tuple_all {lo hi:Option Int} {Q:η→τ→Prop} (ht:IsTup s.heap t items) (hs:s.heap.IsSliceOf sl vl vu .none) (pl:Ÿ vl lo) (pu:Ÿ vu hi)
 (hw:sIx items.size 0 lo=0∧sIx items.size items.size hi=items.size) (h:Q (.ref t) s):Ε (model prog w) A (Ed (.ref t) (.ref sl)) Q E s:=by
 obtain ⟨os,hos,hcs,hds⟩:=id hs
 have hTs:s.TypeIs (.ref sl) "slice":=⟨os,hos,hcs⟩
 unfold Ed
 try with_reducible refine ώ ?_
 first | refine ε (π ?_) | skip
 refine ε (E8 ht.typeIs (by decide) ?_)
 refine ε (Ś (name:=Ô "__getitem__") ht.typeIs Ú
  (ř Ú ht.typeIs GX ?_ (He _ _)))
 show Ε _ _ (Ū (.ref t) >>= _) _ _ s
 refine ε (tupleItemsOf_ ht ?_)
 refine ε (E7 hTs ?_)
 rw [ZZ (by decide)]
 refine ε (cK hs pl pu ?_)
 have hyes:(((sIx items.size 0 lo:Nat):Int) == 0 && (1:Int) == 1 && (sIx items.size items.size hi - sIx items.size 0 lo) == items.size)=true:=by
  rw [hw.1,hw.2]
  simp
 show Ε _ _ (if (((sIx items.size 0 lo:Nat):Int) == 0 && (1:Int) == 1 && (sIx items.size items.size hi - sIx items.size 0 lo) == items.size)=true then _ else _) _ _ s
 rw [ZZ hyes]
 show Ε _ _ (ū (.ref t) >>= _) _ _ s
 refine ε ?_
 unfold ū
 refine ε (E7 ht.typeIs (π ?_))
 rw [ZZ (by decide)]
 refine ε (wpAny_rule ?_)
 first
  | exact π ⟨_,rfl,π h⟩
  | exact ε (π (π ⟨_,rfl,π h⟩))
  | exact ε (ε (π (π ⟨_,rfl,π h⟩)))
end
end HT
namespace L2.Ev
abbrev NoE:η→τ→Prop:=fun _ _=>False
theorem az {c:Prop} [Decidable c] {a d:α} (e:(if c then some a else none)=some d):c∧a=d:=by
 by_cases h:c
 ·rw [ZZ h] at e;exact ⟨h,ϝ e⟩
 ·rw [ZY h] at e;cases e
section
variable {X:Cx} {z:Z}
theorem aH (z:Z):z.h z.s.heap.objs.size=none:=Ϙ (ύ _)
theorem Dn.tok {n:Nat} (h:∀ W ρ G,RD W ρ G d u):Dn X z d u { z.s with toks:=n }:=⟨.tok,h ..⟩
theorem Dn.tup (I:Rep X z) (r:RDs X.W z.ρ z.G l vs) (g:Gr z.s s') (n:z.h a=none) (e:s'.heap.get? a=some o) (t:TpO o vs):Dn X z (.tup l) (.ref a) s':=
 ⟨g,a,o,vs,rfl,(jZ n).trans e,t,r.mono (ξ _) (cn I.gh g).gg⟩
theorem uz (hz:vs.length≤ϙ):TpO { cls:=.type "tuple",data:=.seq vs.toArray n } vs:=⟨rfl,⟨n,rfl⟩,hz,rfl⟩
theorem Dn.tupn (I:Rep X z) (r:RDs X.W z.ρ z.G l vs) (hz:vs.length≤ϙ) {n t:Nat}:Dn X z (.tup l) (.ref z.s.heap.objs.size) { z.s with heap:=z.s.heap.push { cls:=.type "tuple",data:=.seq vs.toArray n },toks:=t }:=
 .tup I r .push (aH z) (Λ _ rfl) (uz hz)
def Dw (X:Cx) (z:Z) (d:D) (u:η) (s':τ):Prop:=Gr z.s s'∧∃ a o,u = .ref a∧z.h a=none∧toO d=some o∧ObR X.W z.ρ z.G s'.heap.get? (a,a) o
theorem Dw.dn (I:Rep X z) (h:Dw X z d u s'):Dn X z d u s':=by
 obtain ⟨g,a,o,rfl,n,e,r⟩:=h
 exact ⟨g,jJ e r (cn I.gh g).gg (jZ n)⟩
def FV (X:Cx) (z0 z:Z) (d:D) (u:η):Prop:=∃ a o,u = .ref a∧z0.h a=none∧toO d=some o∧ObR X.W z.ρ z.G z.h (a,a) o∧Fre X z a∧¬ Own z a
theorem Dw.pe (I:Rep X z) (h:Dw X z d u s') (tk:X.tz≤s'.toks:=by first | assumption | exact HR.tk (by assumption) | exact HR.tk1 (by assumption) | exact (Rep.toHR (by assumption)).tk | exact (Rep.toHR (by assumption)).tk1 | exact ϡ (by assumption)):Pe X z (.ok d z.t) (FV X z) u s':=by
 obtain ⟨g,a,o,rfl,n,e,r⟩:=h
 have f:=I.fre n
 exact ⟨{ z with s:=s' },d,rfl,rfl,(aq I.gh g).ee,I.grow (aq I.gh g) tk,a,o,rfl,n,e,r,f⟩
theorem Dw.lst (r:RDs X.W z.ρ z.G l vs) (g:Gr z.s s') (n:z.h a=none) (e:s'.heap.get? a=some { cls:=.type "list",data:=.seq vs.toArray k }) (hz:vs.length≤ϙ):Dw X z (.lst l) (.ref a) s':=⟨g,a,.lst l,rfl,n,rfl,_,vs,rfl,e,⟨⟨k,rfl⟩,hz⟩,r⟩
theorem Dw.lstn (r:RDs X.W z.ρ z.G l vs) (hz:vs.length≤ϙ) {n t:Nat}:Dw X z (.lst l) (.ref z.s.heap.objs.size) { z.s with heap:=z.s.heap.push { cls:=.type "list",data:=.seq vs.toArray n },toks:=t }:=.lst r .push (aH z) (Λ _ rfl) hz
def Op2 (X:Cx) (f:η→η→DR η) (g:D→D→Option D):Prop:=∀ z u v d1 d2 d,Rep X z→CR X.W z d1 u→CR X.W z d2 v→g d1 d2=some d→Ε X.M X.A (f u v) (Dn X z d) NoE z.s
theorem BB (ho:o≠.add∧o≠.eq∧o≠.ne∧o≠.isin∧o≠.notin∧o≠.eq2) (e:opD o d1 d2=some d):∃ i j,d1 = .int i∧d2 = .int j∧opI o i j=some d:=by
 obtain ⟨n1,n2,n3,n4,n5,n6⟩:=ho
 unfold opD at e
 split at e
 ·exact ZX rfl n6
 ·exact ZX rfl n2
 ·exact ZX rfl n3
 ·exact ZX rfl n4
 ·exact ZX rfl n5
 ·split at e
  ·exact ⟨_,_,rfl,rfl,e⟩
  all_goals first | (cases e;done) | (rw [ZY n1] at e;cases e)
theorem lh {f:η→η→DR η} (ho:o≠.add∧o≠.eq∧o≠.ne∧o≠.isin∧o≠.notin∧o≠.eq2)
 (rule:∀ (i j:Int) (t u:Tok) (d:D) (s:τ) (Q:η→τ→Prop),opI o i j=some d→(∀ (v:η) (n:Nat),(∀ W ρ G,RD W ρ G d v)→Q v { s with toks:=n })→Ε X.M X.A (f (.int i t) (.int j u)) Q NoE s):Op2 X f (opD o):=fun z u v d1 d2 d I h1 h2 e=>by
 obtain ⟨i,j,rfl,rfl,e2⟩:=BB ho e
 obtain ⟨t,rfl⟩:=h1
 obtain ⟨t',rfl⟩:=h2
 exact rule i j t t' d z.s _ e2 fun v n h=>.tok h
theorem zH:Op2 X (ľ .Sub) (opD .sub):=lh (by decide) fun _ _ _ _ _ _ _ e k=>by cases e;exact sub_int (k _ _ fun _ _ _=>⟨_,rfl⟩)
theorem zF:Op2 X (ľ .Mult) (opD .mul):=lh (by decide) fun _ _ _ _ _ _ _ e k=>by
 obtain ⟨c,rfl⟩:=az e
 refine mul_int (k _ _ fun _ _ _=>⟨_,rfl⟩) ?_
 rcases c with h | ⟨h1,h2⟩
 ·exact xM.ok h
 ·exact mulOk_of_bits (m:=400) (n:=400) (intBits_le_iff.mpr h1) (intBits_le_iff.mpr h2) (by decide)
theorem wu:Op2 X (ľ .FloorDiv) (opD .fdiv):=lh (by decide) fun i j _ _ _ _ _ e k=>by
 obtain ⟨⟨h1,h2⟩,rfl⟩:=az e
 refine floordiv_int (by omega) (by rw [Int.fdiv_eq_ediv_of_nonneg i (by omega)];exact k _ _ fun _ _ _=>⟨_,rfl⟩) (.inl (PyProof.noPylong_of_log2 ?_))
 have h:j.natAbs.log2<200:=(DZ (by omega)).2 (by omega)
 omega
theorem zE:Op2 X (ľ .Mod) (opD .mod):=lh (by decide) fun i j _ _ _ _ _ e k=>by
 obtain ⟨c,rfl⟩:=az e
 exact mod_int' (by omega) (by rw [Int.fmod_eq_emod_of_nonneg i (by omega)];exact k _ _ fun _ _ _=>⟨_,rfl⟩)
theorem zG:Op2 X (ľ .Pow) (opD .pow):=lh (by decide) fun _ _ _ _ _ _ _ e k=>by
 obtain ⟨c,rfl⟩:=az e;exact pow_int_small c.1 c.2.1 c.2.2 (k _ _ fun _ _ _=>⟨_,rfl⟩)
theorem B6:Op2 X (Ò .Lt) (opD .lt):=lh (by decide) fun _ _ _ _ _ s _ e k=>by cases e;exact lt_int (k _ s.toks fun _ _ _=>rfl)
theorem B5:Op2 X (Ò .LtE) (opD .le):=lh (by decide) fun _ _ _ _ _ s _ e k=>by cases e;exact le_int (k _ s.toks fun _ _ _=>rfl)
theorem B3:Op2 X (Ò .Gt) (opD .gt):=lh (by decide) fun _ _ _ _ _ s _ e k=>by cases e;exact gt_int (k _ s.toks fun _ _ _=>rfl)
theorem zB:Op2 X (ľ .Add) (opD .add):=fun z u v d1 d2 d I h1 h2 e=>by
 have chk:∀ {n:Nat} {a:D},eA n a=some d→n≤ϙ∧a=d:=fun e=>let ⟨c,q⟩:=az e;⟨big c,q⟩
 cases d1 with
 | int i=>cases d2 with
   | int j=>cases e;obtain ⟨t,rfl⟩:=h1;obtain ⟨t',rfl⟩:=h2;exact add_int (.tok fun _ _ _=>⟨_,rfl⟩)
   | _=>cases e
 | str i=>cases d2 with
   | str j=>obtain ⟨hz,rfl⟩:=chk e;obtain ⟨t,rfl⟩:=h1;obtain ⟨t',rfl⟩:=h2;exact add_str (fun t' tk=>.tok fun _ _ _=>⟨_,rfl⟩) hz
   | _=>cases e
 | tup a=>cases d2 with
   | tup b=>
     obtain ⟨hz,rfl⟩:=chk e
     obtain ⟨p,o1,vs,rfl,e1,t1,r1⟩:=id h1
     obtain ⟨q,o2,ws,rfl,e2,t2,r2⟩:=id h2
     have l1:=r1.len
     have l2:=r2.len
     have k1:=tpt (I.gh _ _ e1) t1
     have k2:=tpt (I.gh _ _ e2) t2
     cases vs with
     | nil=>
       cases (show a = [] from â.mp l1)
       obtain ⟨⟨cls,dd,data,sl⟩,ho,hc,n,hd⟩:=id k1
       obtain ⟨⟨cls2,dd2,data2,sl2⟩,ho2,hc2,n2,hd2⟩:=id k2
       simp only at hc hd hc2 hd2
       subst hc hd hc2 hd2
       exact G6 ⟨_,ho,rfl⟩ ⟨_,ho2,rfl⟩ EI FD ŀ ĵ (ĭ _ _) (tuple_addW0 p q #[] ws.toArray n n2 dd dd2 sl sl2 rfl) ⟨ho,ho2,.old I .refl h2⟩
     | cons v0 vs=>
       refine HT.cat_tup k1 k2 (by simp) (fun w=>?_) (fun _=>.tupn I (r1.app r2) (by rw [ζ];omega)) (by omega)
       subst w
       cases (show b = [] from â.mp l2)
       rw [Ν]
       exact .old I .refl h1
   | _=>cases e
 | lst a=>cases d2 with
   | lst b=>
     obtain ⟨hz,rfl⟩:=chk e
     obtain ⟨p,o1,vs,rfl,e1,⟨⟨n1,rfl⟩,_⟩,r1⟩:=h1
     obtain ⟨q,o2,ws,rfl,e2,⟨⟨n2,rfl⟩,_⟩,r2⟩:=h2
     have l1:=r1.len
     have l2:=r2.len
     refine PySem.P.add_list e1 e2 ?_ (by rw [Μ,Μ];omega)
     rw [show vs.toArray ++ ws.toArray=(vs ++ ws).toArray by simp]
     exact (Dw.lstn (r1.app r2) (by rw [ζ];omega)).dn I
   | _=>cases e
 | _=>cases e
end
end L2.Ev
end
section
namespace L2.Ev
open PyProof.Rows.LSm
section
variable {X:Cx} {z:Z}
theorem mP (e:cb d=some k) (h:CR W z d u):(bO P w).is k u=true:=by
 cases d with
 | int i=>cases e;obtain ⟨t,rfl⟩:=h;exact kU P w i t
 | str i=>cases e;obtain ⟨t,rfl⟩:=h;exact kW P w i t
 | _=>cases e
theorem DcO.of {h:Â} (e:h.get? a=some o) (d:DcO W o l):h.DictOf (bO W.P W.w) a l:=let ⟨es,ep,x,y,a,b,c,_⟩:=d;⟨o,es,ep,e,x,y,a,b,c⟩
theorem ft:∀ {ks} {ds} {vs} {k:Key},ks.length=ds.length→RDs W ρ G ds vs→match eh ks ds k with | some d=>∃ v,ź (ks.zip vs) k=some v∧RD W ρ G d v | none=>ź (ks.zip vs) k=none
 | [],[],vs,k,_,_=>rfl
 | [],_ :: _,_,_,h,_=>by cases h
 | _ :: _,[],_,_,h,_=>by cases h
 | q :: ks,e :: ds,vs,k,h,r=>by
   obtain ⟨v,ws,rfl,r1,r2⟩:=r
   have ih:=ft (k:=k) (Ĺ h) r2
   unfold eh
   by_cases c:q=k
   ·rw [ZZ c];exact ⟨v,by simp [ź,GP,c],r1⟩
   ·rw [ZY c]
    have n:ź ((q :: ks).zip (v :: ws)) k=ź (ks.zip ws) k:=by simp [ź,GP,c]
    rw [n];exact ih
theorem uB (hl:ks.length=ds.length) (r:RDs W ρ G ds vs) (e:eh ks ds k=some d):∃ v,ź (ks.zip vs) k=some v∧RD W ρ G d v:=by have:=ft (k:=k) hl r;rw [e] at this;exact this
theorem Ai (hl:ks.length=ds.length) (r:RDs W ρ G ds vs):(ź (ks.zip vs) k).isSome=(eh ks ds k).isSome:=by
 have:=ft (k:=k) hl r
 cases q:eh ks ds k with
 | none=>rw [q] at this;rw [this];rfl
 | some d=>rw [q] at this;obtain ⟨v,e,_⟩:=this;rw [e];rfl
theorem iQ (h:eqT a b=some r):(∃ ks ds ls es,a = .dic ks ds∧b = .dic ls es∧∃ x,(ks.length=ls.length→si ls es ks ds=some x)∧r=(ks.length == ls.length && x))∨eqv 55 a b=some r:=by
 unfold eqT at h
 split at h
 ·rename_i ks ds ls es
  refine .inl ⟨ks,ds,ls,es,rfl,rfl,?_⟩
  split at h
  ·rename_i c;exact ⟨r,fun _=>h,by simp [c]⟩
  ·rename_i c;cases h;exact ⟨false,fun z=>ZX z c,by simp⟩
 ·exact .inr h
theorem jq {A:ϗ} (I:HR X z) (un:A.units+56<ŧ) (hl2:ls.length=es.length) (r2:RDs X.W z.ρ z.G es ws):∀ {ks ds vs r},ks.length=ds.length→RDs X.W z.ρ z.G ds vs→si ls es ks ds=some r→PySem.W.KeqHits A z.s (ls.zip ws) (ks.zip vs) r
 | [],ds,vs,r,_,_,h=>by cases h;exact .nil
 | k :: ks,[],vs,r,hl,_,h=>by cases hl
 | k :: ks,d :: ds,vs,r,hl,r1,h=>by
   obtain ⟨v,vs,rfl,h1,h2⟩:=r1
   unfold si at h
   have q:=ft (k:=k) hl2 r2
   cases e:eh ls es k with
   | none=>rw [e] at h q;cases h;exact .miss q
   | some y=>
     rw [e] at h q
     obtain ⟨w,e1,e2⟩:=q
     dsimp only at h
     cases e3':eqv 55 d y with
     | none=>rw [e3'] at h;cases h
     | some x=>
       rw [e3'] at h
       obtain ⟨b,hb,rfl⟩:=Α.mp h
       exact .hit e1 (((e3 I 55 e3' (.of I h1) (.of I e2)).2 A (by omega)).1) (jq I un hl2 r2 (Ĺ hl) h2 hb)
theorem B2:Op2 X (Ò .Eq) (opD .eq):=fun z u v d1 d2 d I h1 h2 e=>by
 obtain ⟨b,q,rfl⟩:=Α.mp (show (eqT d1 d2).map D.bl=some d from e)
 rcases iQ q with ⟨ks,ds,ls,es,rfl,rfl,x,q',rfl⟩ | q
 ·obtain ⟨a,o,vs,rfl,m,e1,c1,l1,r1⟩:=h1
  obtain ⟨a',o',ws,rfl,m',e2,c2,l2,r2⟩:=h2
  have n1:(ks.zip vs).length=ks.length:=by rw [Ä,← r1.len,l1,ĥ]
  have n2:(ls.zip ws).length=ls.length:=by rw [Ä,← r2.len,l2,ĥ]
  refine PySem.W.keq_eq m m' (c1.of e1) (c2.of e2) (by have:=I.ok.un;omega) (fun h=>jq I.toHR (by have:=I.ok.un;show X.A.units+1+56<_;omega) l2 r2 l1 r1 (q' (by rw [← n1,← n2];exact h))) (.tok fun _ _ _=>?_)
  rw [n1,n2];rfl
 ·exact ((e3 I.toHR 55 q h1 h2).2 X.A (by have:=I.ok.un;omega)).2.1 _ _ _ _ (.tok fun _ _ _=>rfl)
theorem B7:Op2 X (Ò .NotEq) (opD .ne):=fun z u v d1 d2 d I h1 h2 e=>by
 obtain ⟨b,q,rfl⟩:=Α.mp (show (eqT d1 d2).map (fun x=>D.bl (!x))=some d from e)
 rcases iQ q with ⟨ks,ds,ls,es,rfl,rfl,x,q',rfl⟩ | q
 ·obtain ⟨a,o,vs,rfl,m,e1,c1,l1,r1⟩:=h1
  obtain ⟨a',o',ws,rfl,m',e2,c2,l2,r2⟩:=h2
  have n1:(ks.zip vs).length=ks.length:=by rw [Ä,← r1.len,l1,ĥ]
  have n2:(ls.zip ws).length=ls.length:=by rw [Ä,← r2.len,l2,ĥ]
  refine PySem.W.keq_ne m m' (c1.of e1) (c2.of e2) (by have:=I.ok.un;omega) (fun h=>jq I.toHR (by have:=I.ok.un;show X.A.units+1+56<_;omega) l2 r2 l1 r1 (q' (by rw [← n1,← n2];exact h))) (.tok fun _ _ _=>?_)
  rw [n1,n2];rfl
 ·exact ((e3 I.toHR 55 q h1 h2).2 X.A (by have:=I.ok.un;omega)).2.2 _ _ _ _ (.tok fun _ _ _=>rfl)
theorem B4:Op2 X (Ò .In) (opD .isin):=fun z u v d1 d2 d I h1 h2 e=>by
 have un:X.A.in1.units+57<ŧ:=by have:=I.ok.un;show X.A.units+1+57<_;omega
 cases d2 with
 | str y=>cases d1 with
   | str x=>cases e;obtain ⟨t,rfl⟩:=h1;obtain ⟨t',rfl⟩:=h2;exact SB.contains (.tok fun _ _ _=>rfl)
   | _=>cases e
 | lst l=>
   obtain ⟨b,q,rfl⟩:=Α.mp (show (inD d1 l).map D.bl=some d from e)
   obtain ⟨a,o,vs,rfl,e1,t,r⟩:=h2
   obtain ⟨f,hf,rfl⟩:=kG I.toHR un q r h1
   exact SeqAt.in_listAt f (lsl e1 t) hf (.tok fun _ _ _=>rfl)
 | tup l=>
   obtain ⟨b,q,rfl⟩:=Α.mp (show (inD d1 l).map D.bl=some d from e)
   obtain ⟨a,o,vs,rfl,e1,t,r⟩:=h2
   obtain ⟨f,hf,rfl⟩:=kG I.toHR un q r h1
   exact SeqAt.in_tupleAt f (tpt (I.gh _ _ e1) t) hf (.tok fun _ _ _=>rfl)
 | dic ks l=>
   obtain ⟨k,q,rfl⟩:=Α.mp (show ((cb d1).map fun k=>D.bl (eh ks l k).isSome)=some d from e)
   obtain ⟨a,o,vs,rfl,m,e1,t,hl,r⟩:=h2
   exact wpAny_in_of (mP q h1) m (t.of e1).mapOf (by rw [Ai hl r];exact .tok fun _ _ _=>rfl)
 | _=>cases e
def Aq (X:Cx) (z:Z) (u i:η) (d:D):Prop:=∃ T id,H6 (.type T) "__getitem__" = pure (some (.builtin id))∧z.s.TypeIs u T∧Ε X.M X.A (Ed u i) (Dn X z d) NoE z.s
theorem RDs.at (r:RDs W ρ G ds vs) (e:atI ds i=some d):∃ v,atI vs i=some v∧RD W ρ G d v:=by
 unfold atI at e ⊢
 rw [← r.len]
 cases q:ixN ds.length i with
 | none=>rw [q] at e;cases e
 | some j=>rw [q] at e;exact r.get e
theorem Dc {d1 d2:D} {u v:η} (I:Rep X z) (h1:CR X.W z d1 u) (h2:CR X.W z d2 v) (e:ixD d1 d2=some d):Aq X z u v d:=by
 have hn:=gR
 cases d1 with
 | tup l=>cases d2 with
   | int i=>
     obtain ⟨a,o,vs,rfl,e1,t,r⟩:=h1
     obtain ⟨tk,rfl⟩:=h2
     obtain ⟨w,ew,rw'⟩:=r.at (show atI l i=some d from e)
     obtain ⟨j,g1,g2,g3,g4,g5⟩:=je ew
     have p:=tpt (I.gh _ _ e1) t
     have hz:=t.2.2
     exact ⟨_,_,H8.lookup,⟨_,I.gh _ _ e1,t.1⟩,getItem_tuple (j:=j) p (by omega) (by omega) g1 (by simpa using g2) (.old I .refl rw')⟩
   | _=>cases e
 | lst l=>cases d2 with
   | int i=>
     obtain ⟨a,o,vs,rfl,e1,t,r⟩:=h1
     obtain ⟨tk,rfl⟩:=h2
     obtain ⟨w,ew,rw'⟩:=r.at (show atI l i=some d from e)
     obtain ⟨j,g1,g2,g3,g4,g5⟩:=je ew
     have p:=lsl e1 t
     have hz:=t.2
     refine ⟨_,_,Hs.lookup,p.typeIs,?_⟩
     by_cases h0:0≤i
     ·have hj:i.toNat=j:=by rw [GJ h0 g5] at g1;exact ϝ g1
      exact wpAny_getItem_list p h0 (by omega) (by rw [hj];simpa using g2) (.old I .refl rw')
     ·have hj:(i+(vs.toArray.size:Int)).toNat=j:=by rw [G5 (by omega) g4] at g1;exact ϝ g1
      exact wpAny_getItem_list_neg p (by omega) g4 (by omega) (by rw [hj];simpa using g2) (.old I .refl rw')
   | _=>cases e
 | str y=>cases d2 with
   | int i=>
     obtain ⟨hz,e⟩:y.length≤100000∧(atI y.cps.toList i).map (fun c=>D.str ⟨#[c]⟩)=some d:=by
      unfold ixD at e;dsimp only at e;split at e
      ·rename_i c;exact ⟨c,e⟩
      ·cases e
     obtain ⟨c,q,rfl⟩:=Α.mp e
     obtain ⟨t,rfl⟩:=h1
     obtain ⟨t',rfl⟩:=h2
     obtain ⟨j,g1,g2,g3,g4,g5⟩:=je q
     have hl:y.cps.toList.length=y.length:=by simp [Str.length]
     rw [hl] at g1 g4 g5
     exact ⟨_,_,slot_str_getitem.lookup,Č _ y t,getItem_str (c:=c) (by
      have e1:decide (i < -(2 ^ 63:Int))=false:=ZV (by omega)
      have e2:decide (i≥2 ^ 63)=false:=ZV (by omega)
      rw [e1,e2,ļ]) (by rw [g1];simpa using g2) (.tok fun _ _ _=>⟨_,rfl⟩)⟩
   | _=>cases e
 | dic ks l=>
   have e':((cb d2).bind fun k=>eh ks l k)=some d:=by cases d2 <;> exact e
   obtain ⟨k,q,e'⟩:=ϊ.mp e'
   obtain ⟨a,o,vs,rfl,m,e1,t,hl,r⟩:=h1
   obtain ⟨w,ew,rw'⟩:=uB hl r e'
   exact ⟨_,_,PySem.F.slot_dict_getitem.lookup,(t.of e1).typeIs,wpAny_getItem_of (mP q h2) (t.of e1).mapOf ew (.old I .tok rw')⟩
 | _=>cases e
theorem RDs.cut (r:RDs W ρ G ds vs) (lo hi):RDs W ρ G (cutD ds lo hi) ((vs.drop (HT.sIx vs.length 0 lo)).take (HT.sIx vs.length vs.length hi - HT.sIx vs.length 0 lo)):=by
 unfold cutD
 rw [r.len]
 exact (r.drop _).take _
theorem Dp {d1:D} {u vl vu:η} {lo hi:Option Int} (I:Rep X z) (h1:CR X.W z d1 u) (hs:z.s.heap.IsSliceOf sl vl vu .none) (pl:Ÿ vl lo) (pu:Ÿ vu hi) (e:slO d1 lo hi=some d):Aq X z u (.ref sl) d:=by
 have cl:∀ (vs:List η),((vs.drop (HT.sIx vs.length 0 lo)).take (HT.sIx vs.length vs.length hi - HT.sIx vs.length 0 lo)).length≤vs.length:=fun vs=>by rw [Ϡ,ϖ];omega
 cases d1 with
 | tup l=>
   cases e
   obtain ⟨a,o,vs,rfl,e1,t,r⟩:=id h1
   have p:=tpt (I.gh _ _ e1) t
   refine ⟨"tuple",_,H8.lookup,⟨_,I.gh _ _ e1,t.1⟩,?_⟩
   by_cases w:HT.sIx vs.length 0 lo=0∧HT.sIx vs.length vs.length hi=vs.length
   ·refine HT.getItem_tuple_all p hs pl pu w ?_
    have e:cutD l lo hi=l:=by
     unfold cutD
     rw [r.len,w.1,w.2,Ĥ,ĉ,← r.len,DL]
    rw [e]
    exact .old I .refl h1
   ·exact HT.getItem_tuple_cut p hs pl pu w (.tupn I (r.cut lo hi) (Õ (cl vs) t.2.2.1)) t.2.2.1
 | lst l=>
   cases e
   obtain ⟨a,o,vs,rfl,e1,t,r⟩:=h1
   refine ⟨"list",_,Hs.lookup,(lsl e1 t).typeIs,wpAny_getItem_list_slice (lsl e1 t) hs pl pu .none (by simp) ?_ (by rw [Μ];exact t.2)⟩
   rw [iG]
   exact (Dw.lstn (r.cut lo hi) (Õ (cl vs) t.2)).dn I
 | str y=>
   obtain ⟨hz,rfl⟩:=az (show (if y.length≤100000 then some (D.str (Ϗ y lo hi)) else none)=some d from e)
   obtain ⟨t,rfl⟩:=h1
   have fin:Nat.le (Ϗ y lo hi).length ϙ∧∀ t' k,Dn X z (.str (Ϗ y lo hi)) (.str (Ϗ y lo hi) t') { z.s with toks:=k }:=⟨Õ (Txt.slice_le y _ _) (big hz),fun t' k=>.tok fun _ _ _=>⟨t',rfl⟩⟩
   refine ⟨"str",_,PySem.F.slot_str_getitem.lookup,Č _ _ _,?_⟩
   cases pl <;> cases pu
   ·exact Đ (l:=none) (u:=none) (st:=none) hs rfl (Ť fin)
   ·exact Đ (l:=none) (u:=some (_,_)) (st:=none) hs rfl (Ť fin)
   ·exact Đ (l:=some (_,_)) (u:=none) (st:=none) hs rfl (Ť fin)
   ·exact Đ (l:=some (_,_)) (u:=some (_,_)) (st:=none) hs rfl (Ť fin)
 | _=>cases e
def Bi1 (X:Cx) (f:η) (b:Bi):Prop:=∀ z u x d,Rep X z→CR X.W z x u→di b x=some d→Ε X.M X.A (call f [u]) (Dn X z d) NoE z.s
def xL (X:Cx) (f:η) (b:Bi):Prop:=∀ z u x d,Rep X z→CR X.W z x u→di b x=some d→Ε X.M X.A (call f [u]) (Dw X z d) NoE z.s
theorem xT:Bi1 X (.builtin "len") .len:=fun z u x d I h e=>by
 have hn:=gR
 cases x with
 | tup l=>cases e;obtain ⟨a,o,vs,rfl,e1,t,r⟩:=h;have:=t.2.2;rw [r.len];exact len_tuple (tpt (I.gh _ _ e1) t) (by rw [Μ];omega) (.tok fun _ _ _=>⟨_,rfl⟩)
 | lst l=>cases e;obtain ⟨a,o,vs,rfl,e1,t,r⟩:=h;have:=t.2;rw [r.len];exact Fw (lsl e1 t) (by rw [Μ];omega) (.tok fun _ _ _=>⟨_,rfl⟩)
 | str y=>
   obtain ⟨hz,rfl⟩:=az (show (if y.length≤100000 then some (D.int y.length) else none)=some d from e)
   obtain ⟨t,rfl⟩:=h;have:=big hz
   exact len_str (by omega) (.tok fun _ _ _=>⟨_,rfl⟩)
 | dic ks ds=>
   obtain ⟨hz,rfl⟩:=az (show (if ks.length≤100000 then some (D.int ks.length) else none)=some d from e)
   obtain ⟨a,o,vs,rfl,m,e1,c1,l1,r1⟩:=h
   have n1:(ks.zip vs).length=ks.length:=by rw [Ä,← r1.len,l1,ĥ]
   have:=big hz
   refine call_len_dict m (c1.of e1) (by rw [n1];omega) ?_
   rw [n1]
   exact .tok fun _ _ _=>⟨_,rfl⟩
 | _=>cases e
theorem re:Bi1 X (.type "tuple") .tuple:=fun z u x d I h e=>by
 cases x with
 | tup l=>cases e;obtain ⟨a,o,vs,rfl,e1,t,r⟩:=id h;exact call_tuple_same (tpt (I.gh _ _ e1) t) (.old I .refl h)
 | lst l=>
   cases e
   obtain ⟨a,o,vs,rfl,e1,t,r⟩:=h
   refine call_tuple_list (lsl e1 t) (fun h' kp=>?_) (by rw [Μ];exact t.2)
   have nn:z.h h'.objs.size=none:=by
    cases q:z.h h'.objs.size with
    | none=>rfl
    | some o=>exact ZX (ϟ (kp _ o q)) (EY _)
   exact .tup I r (.hp (t:=z.s.toks) fun b o e=>Κ _ (kp b o e)) nn (Λ _ rfl) (uz t.2)
 | _=>cases e
theorem uX:xL X (.type "list") .list:=fun z u x d I h e=>by
 cases x with
 | tup l=>
   cases e
   obtain ⟨a,o,vs,rfl,e1,t,r⟩:=h
   obtain ⟨n,hd⟩:=t.2.1
   exact call_list_seq a (.inr rfl) (I.gh _ _ e1) t.1 hd (fun h' c' kp e=>.lst r (.hp (t:=z.s.toks) kp) (aH z) e t.2.2.1) (by rw [Μ];exact t.2.2.1)
 | lst l=>
   cases e
   obtain ⟨a,o,vs,rfl,e1,⟨⟨n,rfl⟩,hz⟩,r⟩:=h
   exact call_list_seq a (.inl rfl) e1 rfl rfl (fun h' c' kp e=>.lst r (.hp (t:=z.s.toks) kp) (aH z) e hz) (by rw [Μ];exact hz)
 | _=>cases e
theorem HR.sysm (I:HR X z):H7<z.s.heap.objs.size:=Nat.lt_trans (by decide) (I.md.glob.keeps fun b o e=>I.gh _ _ (I.bs b o e)).lt
theorem xU:Bi1 X (.type "str") .str:=fun z u x d I h e=>by
 cases x with
 | int i=>obtain ⟨hz,rfl⟩:=az (show (if i.natAbs.log2<1920 then some (D.str (Ô (toString i))) else none)=some d from e);obtain ⟨t,rfl⟩:=h;exact PySem.P.str_of_int hz (.tok fun _ _ _=>⟨_,rfl⟩)
 | str y=>cases e;obtain ⟨t,rfl⟩:=h;exact PySem.P.str_of_str (.old I .refl ⟨t,rfl⟩)
 | _=>cases e
theorem xS:Bi1 X (.type "int") .int:=fun z u x d I h e=>by
 cases x with
 | int i=>cases e;obtain ⟨t,rfl⟩:=h;exact call_int_int (.tok fun _ _ _=>⟨_,rfl⟩)
 | bl i=>cases e;cases (show u=Ϣ i from h);exact call_int_bool (.tok fun _ _ _=>⟨_,rfl⟩)
 | str y=>
   obtain ⟨hz,e⟩:y.length≤640∧(ą y).map D.int=some d:=by
    unfold di at e;dsimp only at e;split at e
    ·rename_i c;exact ⟨c,e⟩
    ·cases e
   obtain ⟨n,q,rfl⟩:=Α.mp e
   obtain ⟨t,rfl⟩:=h
   exact PySem.W.KIN.call_text q hz (.tok fun _ _ _=>⟨_,rfl⟩)
 | _=>cases e
def Bi2 (X:Cx) (f:η) (b:Bi):Prop:=∀ z u v x y d,Rep X z→CR X.W z x u→CR X.W z y v→Av b x y=some d→Ε X.M X.A (call f [u,v]) (Dn X z d) NoE z.s
def tyN:Bi→String
 | .isTup=>"tuple" | .isStr=>"str" | .isBool=>"bool" | .isInt=>"int" | .isDic=>"dict" | _=>"list"
theorem Ax (hb:b = .isTup∨b = .isStr∨b = .isBool∨b = .isInt∨b = .isLst∨b = .isDic) {u:η} (I:Rep X z) (h:CR X.W z x u) (e:di b x=some d):Ε X.M X.A (call (.builtin "isinstance") [u,.type (tyN b)]) (Dn X z d) NoE z.s:=by
 have kin:X.K.In z.s.heap:=I.md.kin.keeps fun b o e=>I.gh _ _ (I.bs b o e)
 have go:∀ {tn:String},di b x=(G9 [] (.type tn) (.type (tyN b))).map D.bl→(∀ v,G9 [] (.type tn) (.type (tyN b))=some v→(∀ n,Dn X z (.bl v) (.bool v) { z.s with toks:=n })→Ε X.M X.A (call (.builtin "isinstance") [u,.type (tyN b)]) (Dn X z (.bl v)) NoE z.s)→Ε X.M X.A (call (.builtin "isinstance") [u,.type (tyN b)]) (Dn X z d) NoE z.s:=fun q k=>by
  rw [q] at e
  obtain ⟨v,e1,rfl⟩:=Α.mp e
  exact k v e1 fun n=>.tok fun _ _ _=>rfl
 cases x with
 | non=>cases (show u=ϣ from h);exact go (tn:="NoneType") (by rcases hb with rfl | rfl | rfl | rfl | rfl | rfl <;> kernel_rfl) fun v q k=>æ PySem.W.kitx_none kin Ů q (fun z=>nomatch z) k
 | bl y=>cases (show u=Ϣ y from h);exact go (tn:="bool") (by rcases hb with rfl | rfl | rfl | rfl | rfl | rfl <;> kernel_rfl) fun v q k=>æ PySem.W.kitx_bool kin Ů q (fun z=>nomatch z) k
 | int y=>obtain ⟨t,rfl⟩:=(show ∃ t,u=Ġ y t from h);exact go (tn:="int") (by rcases hb with rfl | rfl | rfl | rfl | rfl | rfl <;> kernel_rfl) fun v q k=>æ PySem.W.kitx_int kin Ů q (fun z=>nomatch z) k
 | str y=>obtain ⟨t,rfl⟩:=(show ∃ t,u=Value.str y t from h);exact go (tn:="str") (by rcases hb with rfl | rfl | rfl | rfl | rfl | rfl <;> kernel_rfl) fun v q k=>æ PySem.W.kitx_str kin Ů q (fun z=>nomatch z) k
 | tup l=>obtain ⟨a,o,vs,rfl,e1,t,r⟩:=h;exact go (tn:="tuple") (by rcases hb with rfl | rfl | rfl | rfl | rfl | rfl <;> kernel_rfl) fun v q k=>æ PySem.W.kitx_tuple kin ⟨o,I.gh _ _ e1,t.1⟩ q (fun z=>nomatch z) k
 | lst l=>obtain ⟨a,o,vs,rfl,e1,⟨⟨n,rfl⟩,_⟩,r⟩:=h;exact go (tn:="list") (by rcases hb with rfl | rfl | rfl | rfl | rfl | rfl <;> kernel_rfl) fun v q k=>æ PySem.W.kitx_list kin ⟨_,e1,rfl⟩ q (fun z=>nomatch z) k
 | dic ks l=>obtain ⟨a,o,vs,rfl,m,e1,⟨_,_,c,_⟩,hl,r⟩:=h;exact go (tn:="dict") (by rcases hb with rfl | rfl | rfl | rfl | rfl | rfl <;> kernel_rfl) fun v q k=>æ PySem.W.kitx_dict kin ⟨o,e1,c.1⟩ q (fun z=>nomatch z) k
 | _=>rcases hb with rfl | rfl | rfl | rfl | rfl | rfl <;> cases e
end
end L2.Ev
end
section
namespace L2.Ev
def toB (d:D) (s:Sta):Out Bool:=match d with | .bl b=>.ok b s | _=>.bad
def RT (_:Z) (b c:Bool):Prop:=c=b
def RVs (W:Wd) (br:Bool):E→Z→List D→List η→Prop
 | .cons a r,z,d :: ds,u :: us=>RV W br a z d u∧RVs W br r z ds us
 | .nil,_,[],[]=>True
 | _,_,_,_=>False
def LE (X:Cx) (e:Ξ) (c:E):Prop:=∀ br,Jg X (eval e X.env) (X.ev br c) (RV X.W br c)
def LF (X:Cx) (e:Ξ) (c:E):Prop:=∀ z,Rep X z→X.ev false c z.t≠.bad→Wp X (eval e X.env) z (X.ev false c z.t) (FV X z)
def LT (X:Cx) (e:Ξ) (c:E):Prop:=Jg X (Fe e X.env (eval e X.env)) (fun t=>(X.ev true c t).bind toB) RT
def LW (X:Cx) (e:Ξ) (c:E):Prop:=∀ wh,Jg X (Fe e X.env wh) (fun t=>(X.ev true c t).bind toB) RT
def LA (X:Cx) (es:List Ξ) (c:E):Prop:=∀ br pos,Jg X (spliced (Ü pos (Ο es X.env))) (X.evs br c) (RVs X.W br c)
theorem ai (x:Out α) (f:α→Sta→Out β) (g:β→Sta→Out γ):(x.bind f).bind g=x.bind fun a s=>(f a s).bind g:=by cases x <;> rfl
theorem Cb (h:RB X.W z (.bl b) u) (I:Rep X z):u = .bool b:=(h.cr0 I:RD X.W z.ρ z.G (.bl b) u)
section
variable {X:Cx} {z z0 z1:Z} {br:Bool}
theorem Rep.bk (I:HR X z):∀ b o,X.base.get? b=some o→z.s.heap.get? b=some o:=fun b o e=>I.gh _ _ (I.bs b o e)
theorem HR.kin (I:HR X z):X.K.In z.s.heap:=I.md.kin.keeps (Rep.bk I)
theorem cU {i:Nat} {x:θ} {Q:η→τ→Prop} {E:η→τ→Prop} (I:Rep X z) (hN:X.N[i]? = some x) (hv:Vis X.env.scope x) (e:z.σ[i]? = some (some u)) (q:Q u z.s) (hd:(x == ("__debug__":θ))=false) (hc:(x == ("__classdict__":θ))=false):Ε X.M X.A (eval (.Name x pos) X.env) Q E z.s:=by
 obtain ⟨m,hn,hl⟩:=I.lo
 rcases hl i x u hN e hv with ⟨hk,hm⟩ | ⟨hk,c,hc',hcell⟩
 ·exact H4 (wpAny_loadName_local I.ok.kd hk hn hm q) hd
 ·rcases hk with hk | hk
  ·exact H4 (wpAny_loadName_cell I.ok.kd hk hc' hcell q) hd
  ·exact H4 (wpAny_loadName_free I.ok.kd hk hc' hcell q hc) hd
theorem Rep.slot {i:Nat} {d:D} (I:Rep X z) (e:z.t.env[i]? = some (some d)):∃ u,z.σ[i]? = some (some u)∧RB X.W z d u:=by
 by_cases m:i∈z.t.ow
 ·obtain ⟨d',a,o,h1,h2,_⟩:=I.eo i m
  exact ⟨_,h2,.inr ⟨i,m,h2,e⟩⟩
 ·obtain ⟨u,q,r⟩:=I.en i d m e
  exact ⟨u,q,.inl r⟩
theorem vH {i:Nat} {x:θ} (hN:X.N[i]? = some x) (hv:Vis X.env.scope x) (hd:(x == ("__debug__":θ))=false) (hc:(x == ("__classdict__":θ))=false):LE X (.Name x pos) (.v i):=fun br z I nb=>by
 have en:∃ d,z.t.env[i]? = some (some d):=by
  cases q:z.t.env[i]? with
  | none=>exact ZX (show X.ev br (.v i) z.t = .bad by show (match z.t.env[i]? with | some (some d)=>Out.ok d (if br then z.t else un z.t i) | _=>.bad)=_;rw [q]) nb
  | some o=>cases o with
    | none=>exact ZX (show X.ev br (.v i) z.t = .bad by show (match z.t.env[i]? with | some (some d)=>Out.ok d (if br then z.t else un z.t i) | _=>.bad)=_;rw [q]) nb
    | some d=>exact ⟨d,rfl⟩
 obtain ⟨d,q⟩:=en
 have e:X.ev br (.v i) z.t = .ok d (if br then z.t else un z.t i):=by show (match z.t.env[i]? with | some (some d)=>Out.ok d (if br then z.t else un z.t i) | _=>.bad)=_;rw [q]
 obtain ⟨u,q1,r⟩:=I.slot q
 rw [e]
 refine cU I hN hv q1 ?_ hd hc
 cases br with
 | true=>
   refine ⟨z,d,rfl,rfl,.refl,I,?_⟩
   by_cases m:i∈z.t.ow
   ·exact .inr ⟨rfl,i,rfl,m,q1,q⟩
   ·obtain ⟨u',q2,r2⟩:=I.en i d m q
    rw [q1] at q2;cases q2;exact .inl r2
 | false=>
   obtain ⟨I2,x2⟩:=I.rel (fun j=>j != i)
   refine ⟨z.rel fun j=>j != i,d,rfl,rfl,x2,I2,?_⟩
   obtain ⟨u',q2,r2⟩:=I2.en i d (fun m=>by simp [Z.rel] at m) q
   rw [show z.σ[i]? = some (some u') from q2] at q1;cases q1;exact .inl r2
theorem vy (h:∀ z,Ε X.M X.A (eval e X.env) (Dn X z d) NoE z.s):LE X e (.c d):=fun br z I nb=>Η (ό I.tk (h z)) (fun _ _ k=>k.2.pe I k.1) fun _ _ z=>z.2.elim
theorem xi:LE X (.Constant .none j pos) (.c .non):=vy fun _=>œ (.tok fun _ _ _=>rfl)
theorem A1:LE X (.Constant (.bool b) j pos) (.c (.bl b)):=vy fun _=>Constant_bool (.tok fun _ _ _=>rfl)
theorem xh:LE X (.Constant (.int i) j pos) (.c (.int i)):=vy fun _=>H5 (.tok fun _ _ _=>⟨_,rfl⟩)
theorem xj:LE X (.Constant (.str x) j pos) (.c (.str x)):=vy fun _=>Ϲ (.tok fun _ _ _=>⟨_,rfl⟩)
def Gl (X:Cx) (x:θ):Prop:=X.env.kindOf x=some .globalImplicit
theorem aQ {Q:η→τ→Prop} {E:η→τ→Prop} (I:Rep X z) (hg:Gl X x) (hm:X.mg x=some u) (h:Q u z.s) (hd:(x == ("__debug__":θ))=false):Ε X.M X.A (eval (.Name x pos) X.env) Q E z.s:=
 Er I.ok.kd hg (Calls.loadGlobal_global (by rw [I.ok.gl];exact I.md.glob.keeps (Rep.bk I.toHR)) hm h) hd
theorem yG {Q:η→τ→Prop} {E:η→τ→Prop} (I:Rep X z) (hg:Gl X x) (hm:X.mg x=none) (hv:ý x=some u) (h:Q u z.s) (hn:x≠"__name__") (hd:(x == ("__debug__":θ))=false):Ε X.M X.A (eval (.Name x pos) X.env) Q E z.s:=by
 obtain ⟨mb,h1,h2⟩:=I.md.blt
 exact Er I.ok.kd hg (Calls.loadGlobal_builtin (by rw [I.ok.gl];exact I.md.glob.keeps (Rep.bk I.toHR)) hm (by rw [I.ok.bl];exact h1.keeps (Rep.bk I.toHR)) ((h2 x hn).trans hv) h) hd
def aT (K:ς):L2.Bk.Dk→η→Bool
 | .str x,v=>(match v with | .str y _=>decide (y=x) | _=>false)
 | .int i,v=>(match v with | .int j _=>decide (j=i) | _=>false)
 | .bl b,v=>(match v with | .bool c=>decide (c=b) | _=>false)
 | .non,v=>(match v with | .none=>true | _=>false)
 | .tup ds,v=>(match v with
   | .ref a=>(match K.lookup a with
     | some o=>o.cls == .type "tuple" && o.dict.isNone && (match o.data with | .seq its _=>decide (its.size≤1000) && lookDs K ds its.toList | _=>false)
     | none=>false)
   | _=>false)
where lookDs (K:ς):List L2.Bk.Dk→List η→Bool
 | [],vs=>vs.isEmpty
 | d :: ds,vs=>(match vs with | v :: r=>aT K d v && lookDs K ds r | []=>false)
mutual
theorem ub {K:ς} {G:Hp} (k:∀ a o,K.lookup a=some o→G a=some o):∀ d v,aT K d v=true→RD W ρ G (toD d) v
 | .str x,v,h=>by cases v <;> simp only [aT] at h <;> first | cases h | exact ⟨_,by rw [of_decide_eq_true h]⟩
 | .int x,v,h=>by cases v <;> simp only [aT] at h <;> first | cases h | exact ⟨_,by rw [of_decide_eq_true h]⟩
 | .bl x,v,h=>by cases v <;> simp only [aT] at h <;> first | cases h | exact (by rw [of_decide_eq_true h];rfl)
 | .non,v,h=>by cases v <;> simp only [aT] at h <;> first | exact (rfl:RD W ρ G .non .none) | cases h
 | .tup ds,v,h=>by
   cases v with
   | ref a=>
     simp only [aT] at h
     cases q:K.lookup a with
     | none=>rw [q] at h;cases h
     | some o=>
       rw [q] at h
       dsimp only at h
       rw [Θ] at h
       rw [Θ] at h
       obtain ⟨⟨h1,h3⟩,h2⟩:=h
       cases qd:o.data with
       | seq its n=>
         rw [qd] at h2
         dsimp only at h2
         rw [Θ] at h2
         have hz:its.size≤1000:=of_decide_eq_true h2.1
         exact ⟨a,o,its.toList,rfl,k a o q,⟨by simpa using h1,⟨n,by simpa using qd⟩,(by rw [š,ï];omega),by simpa using h3⟩,pB k ds _ h2.2⟩
       | _=>rw [qd] at h2;cases h2
   | _=>simp [aT] at h
theorem pB {K:ς} {G:Hp} (k:∀ a o,K.lookup a=some o→G a=some o):∀ ds vs,aT.lookDs K ds vs=true→RDs W ρ G (toD.toDs ds) vs
 | [],vs,h=>by cases vs with
   | nil=>exact rfl
   | cons _ _=>simp [aT.lookDs] at h
 | d :: ds,vs,h=>by cases vs with
   | nil=>simp [aT.lookDs] at h
   | cons v r=>
     simp only [aT.lookDs,Θ] at h
     exact .cons (ub k d v h.1) (pB k ds r h.2)
end
theorem HR.top (I:HR X z) (h:aT X.K d u=true):RD X.W z.ρ z.G (toD d) u:=ub (fun a o e=>I.bs a o (I.md.kin a o e)) d u h
theorem Dg {j:Nat} (hg:Gl X x) (hm:X.mg x=some u) (hd:(x == ("__debug__":θ))=false) (e:X.Γ.gl[j]? = some d) (h:aT X.K d u=true):LE X (.Name x pos) (.g j):=fun br z I nb=>by
 have q:X.ev br (.g j) z.t = .ok (toD d) z.t:=by show Out.of z.t (X.Γ.gl[j]?.map toD)=_;rw [e];rfl
 rw [q]
 exact aQ I hg hm ⟨z,toD d,rfl,rfl,.refl,I,.of (I.toHR.top h)⟩ hd
theorem BO {o:Op} (ho:Op2 X (ľ op) (opD o)) (ha:LE X ea a) (hb:LE X eb b):LE X (.BinOp ea op eb pos) (.op o a b):=fun br z I nb=>
 GH ((ha true).go .refl I rfl nb fun z1 x u y1 x1 I1 r1 e1=>(hb true).go x1 I1 e1 nb fun z2 y v y2 x2 I2 r2 e2=>cB x2 I2 e2 nb fun d q=>ho z2 u v _ _ d I2 ((r1.rb.st y2 I2).cr I2) (r2.rb.cr I2) q)
theorem yL {o:Op} (ho:Op2 X (Ò op) (opD o)) (ha:LE X ea a) (hb:LE X eb b) (hm:Å op eb=false):LE X (.Compare ea [op] [eb] pos) (.op o a b):=fun br z I nb=>
 Ľ ((ha true).go .refl I rfl nb fun z1 x u y1 x1 I1 r1 e1=>(hb true).go x1 I1 e1 nb fun z2 y v y2 x2 I2 r2 e2=>cB x2 I2 e2 nb fun d q=>ho z2 u v _ _ d I2 ((r1.rb.st y2 I2).cr I2) (r2.rb.cr I2) q) hm
theorem Dn.tru {o:Out Bool} {s':τ} (x:Ee X z0 z) (I:Rep X z) (e:o=(Out.ok d z.t).bind toB) (nb:o≠.bad) (h:Dn X z d u s') (tk:X.tz≤s'.toks:=by first | assumption | exact HR.tk (by assumption) | exact HR.tk1 (by assumption) | exact (Rep.toHR (by assumption)).tk | exact (Rep.toHR (by assumption)).tk1 | exact ϡ (by assumption)):Ε X.M X.A (truthy u) (Pe X z0 o RT) (Px X z0 o) s':=by
 cases d with
 | bl b=>
   cases (show u=Ϣ b from h.2)
   exact Ϸ ⟨z.up s',b,rfl,e,x.trans (cn I.gh h.1).ee,I.grow (cn I.gh h.1) tk,rfl⟩
 | _=>exact ZX e nb
theorem zm {o:Op} (ho:Op2 X (Ò op) (opD o)) (ha:LE X ea a) (hb:LE X eb b) (hm:Å op eb=false):LT X (.Compare ea [op] [eb] pos) (.op o a b):=fun z I nb=>
 Þ ((ha true).go .refl I (ai ..) nb fun z1 x u y1 x1 I1 r1 e1=>(hb true).go x1 I1 (e1.trans (ai ..)) nb fun z2 y v y2 x2 I2 r2 e2=>by
  cases q:opD o (look z2.t.st x) (look z2.t.st y) with
  | none=>rw [q] at e2;exact ZX e2 nb
  | some d=>rw [q] at e2;exact Η (ό I2.tk (ho z2 u v _ _ d I2 ((r1.rb.st y2 I2).cr I2) (r2.rb.cr I2) q)) (fun c s' k=>k.2.tru x2 I2 e2 nb k.1) fun _ _ z=>z.2.elim) hm
theorem jI (I:Rep X z) (h:RB X.W z d u):(u == ϣ)=kH d:=by
 rcases h with h | ⟨i,m,e1,e2⟩
 ·cases d with
  | non=>cases (show u=_ from h);rfl
  | bl b=>cases (show u=_ from h);rfl
  | int b=>obtain ⟨t,rfl⟩:=h;rfl
  | str b=>obtain ⟨t,rfl⟩:=h;rfl
  | tup l=>obtain ⟨a,_,_,rfl,_⟩:=h;rfl
  | lst l=>obtain ⟨a,_,_,rfl,_⟩:=h;rfl
  | dic k l=>obtain ⟨a,_,_,rfl,_⟩:=h;rfl
  | ins c l=>obtain ⟨a,_,_,rfl,_⟩:=h;rfl
  | ref n=>obtain ⟨a,_,rfl⟩:=h;rfl
 ·obtain ⟨d',a,o,h1,h2,h3,_⟩:=I.eo i m
  rw [e1] at h2;cases h2
  rw [e2] at h1;cases h1
  cases d <;> first | rfl | cases h3
theorem cO (b:Bool) {z:Z}:Dn X z (.bl b) (.bool b) z.s:=.tok (n:=z.s.toks) fun _ _ _=>rfl
theorem yP (ha:LE X ea a) (h1:Å .Is (.Constant .none j pos')=false):LE X (.Compare ea [.Is] [.Constant .none j pos'] pos) (.isN a):=fun br z I nb=>
 Ľ ((ha true).go .refl I rfl nb fun z1 x u y1 x1 I1 r1 e1=>œ (is_none_gen (by rw [jI I1 r1.rb];exact (cO _).at x1 I1 e1))) h1
theorem vA (ha:LE X ea a) (h1:Å .IsNot (.Constant .none j pos')=false):LE X (.Compare ea [.IsNot] [.Constant .none j pos'] pos) (.isNN a):=fun br z I nb=>
 Ľ ((ha true).go .refl I rfl nb fun z1 x u y1 x1 I1 r1 e1=>œ (isnot_none_gen (by rw [jI I1 r1.rb];exact (cO _).at x1 I1 e1))) h1
theorem zo (ha:LE X ea a) (h1:Å .Is (.Constant .none j pos')=false):LT X (.Compare ea [.Is] [.Constant .none j pos'] pos) (.isN a):=fun z I nb=>
 Þ ((ha true).go .refl I (ai ..) nb fun z1 x u y1 x1 I1 r1 e1=>œ (is_none_gen (by rw [jI I1 r1.rb];exact (cO _).tru x1 I1 e1 nb))) h1
theorem v7 (ha:LE X ea a) (h1:Å .IsNot (.Constant .none j pos')=false):LT X (.Compare ea [.IsNot] [.Constant .none j pos'] pos) (.isNN a):=fun z I nb=>
 Þ ((ha true).go .refl I (ai ..) nb fun z1 x u y1 x1 I1 r1 e1=>œ (isnot_none_gen (by rw [jI I1 r1.rb];exact (cO _).tru x1 I1 e1 nb))) h1
theorem yT (ha:LE X ea a):LE X (.UnaryOp .USub ea pos) (.neg a):=fun br z I nb=>
 UnaryOp_ ((ha true).go .refl I rfl nb fun z1 x u y1 x1 I1 r1 e1=>by
  cases x with
  | int i=>obtain ⟨t,rfl⟩:=(r1.rb.cr0 I1:CR X.W z1 (.int i) u);exact neg_int ((Dn.tok fun _ _ _=>⟨_,rfl⟩:Dn X z1 (.int (-i)) _ _).at x1 I1 e1)
  | _=>exact ZX e1 nb)
theorem yV (ha:LE X ea a):LE X (.UnaryOp .Not ea pos) (.not a):=fun br z I nb=>
 UnaryOp_ ((ha true).go .refl I rfl nb fun z1 x u y1 x1 I1 r1 e1=>by
  cases x with
  | bl b=>cases Cb r1.rb I1;exact not_of (Ϸ ((cO _).at x1 I1 e1))
  | _=>exact ZX e1 nb)
theorem yH (ha:LE X ea a) (hb:LE X (.BoolOp .And (eb :: r) pos) b):LE X (.BoolOp .And (ea :: eb :: r) pos) (.and a b):=fun br z I nb=>
 BoolOp_and ((ha false).go .refl I rfl nb fun z1 x u y1 x1 I1 r1 e1=>by
  cases x with
  | bl c=>
    cases (show u=Ϣ c from r1.rd)
    refine Ϸ ?_
    cases c with
    | true=>exact Η ((hb false).at x1 I1 e1 nb) (fun u s' ⟨z',d,e,q,y,I',r⟩=>⟨z',d,e,q,y,I',.of r.rd⟩) fun _ _ h=>h
    | false=>exact (cO _).at x1 I1 e1
  | _=>exact ZX e1 nb)
theorem BP (ha:LE X ea a) (hb:LE X (.BoolOp .Or (eb :: r) pos) b):LE X (.BoolOp .Or (ea :: eb :: r) pos) (.or a b):=fun br z I nb=>
 BoolOp_or ((ha false).go .refl I rfl nb fun z1 x u y1 x1 I1 r1 e1=>by
  cases x with
  | bl c=>
    cases (show u=Ϣ c from r1.rd)
    refine Ϸ ?_
    cases c with
    | false=>exact Η ((hb false).at x1 I1 e1 nb) (fun u s' ⟨z',d,e,q,y,I',r⟩=>⟨z',d,e,q,y,I',.of r.rd⟩) fun _ _ h=>h
    | true=>exact (cO _).at x1 I1 e1
  | _=>exact ZX e1 nb)
theorem xz (h:LW X e c):LT X e c:=h _
theorem wa (ha:LT X ea a):LW X (.BoolOp .And [ea] pos) a:=fun wh z I nb=>isTrue_and (thn (ha z I nb) fun c s1 e=>by
 cases c with
 | true=>exact isTrue_and_nil e
 | false=>exact e)
theorem zu (ha:LT X ea a):LW X (.BoolOp .Or [ea] pos) a:=fun wh z I nb=>isTrue_or (thn (ha z I nb) fun c s1 e=>by
 cases c with
 | false=>exact isTrue_or_nil e
 | true=>exact e)
theorem RT.pe (x:Ee X z0 z) (I:Rep X z) (e:o = .ok b z.t):Pe X z0 o RT b z.s:=⟨z,b,rfl,e,x,I,rfl⟩
theorem tB (x:Out D) (f:Bool→Sta→Out β):(x.bind toB).bind f=x.bind fun d s=>match d with | .bl b=>f b s | _=>.bad:=by
 cases x with
 | ok d s=>cases d <;> rfl
 | _=>rfl
theorem zt (ha:LT X ea a) (hb:LW X (.BoolOp .And (eb :: r) pos) b):LW X (.BoolOp .And (ea :: eb :: r) pos) (.tand a b):=fun wh z I nb=>by
 have e:(X.ev true (.tand a b) z.t).bind toB=((X.ev true a z.t).bind toB).bind fun c s=>if c then (X.ev true b s).bind toB else .ok false s:=by
  rw [tB];show Out.bind (Out.bind _ _) _=_;rw [ai];congr 1;funext d s
  cases d <;> first | rfl | (rename_i c;cases c <;> rfl)
 refine isTrue_and (ha.go .refl I e nb fun z1 c u y1 x1 I1 r1 e1=>?_)
 cases (show u=c from r1)
 cases c with
 | true=>exact (hb wh).at x1 I1 e1 nb
 | false=>exact RT.pe x1 I1 e1
theorem BU (ha:LT X ea a) (hb:LW X (.BoolOp .Or (eb :: r) pos) b):LW X (.BoolOp .Or (ea :: eb :: r) pos) (.tor a b):=fun wh z I nb=>by
 have e:(X.ev true (.tor a b) z.t).bind toB=((X.ev true a z.t).bind toB).bind fun c s=>if c then .ok true s else (X.ev true b s).bind toB:=by
  rw [tB];show Out.bind (Out.bind _ _) _=_;rw [ai];congr 1;funext d s
  cases d <;> first | rfl | (rename_i c;cases c <;> rfl)
 refine isTrue_or (ha.go .refl I e nb fun z1 c u y1 x1 I1 r1 e1=>?_)
 cases (show u=c from r1)
 cases c with
 | false=>exact (hb wh).at x1 I1 e1 nb
 | true=>exact RT.pe x1 I1 e1
theorem zp (ha:LT X ea a):LT X (.UnaryOp .Not ea pos) (.tnot a):=fun z I nb=>by
 have e:(X.ev true (.tnot a) z.t).bind toB=((X.ev true a z.t).bind toB).bind fun c s=>.ok (!c) s:=by
  rw [tB];show Out.bind (Out.bind _ _) _=_;rw [ai];congr 1;funext d s
  cases d <;> rfl
 exact isTrue_not (ha.go .refl I e nb fun z1 c u y1 x1 I1 r1 e1=>by
  cases (show u=c from r1)
  exact RT.pe x1 I1 e1)
theorem yR (hc:LT X ec c) (ha:LE X ea a) (hb:LE X eb b):LE X (.IfExp ec ea eb pos) (.ite c a b):=fun br z I nb=>by
 have e:X.ev br (.ite c a b) z.t=((X.ev true c z.t).bind toB).bind fun c s=>if c then X.ev false a s else X.ev false b s:=by
  rw [tB];show Out.bind _ _=_;congr 1;funext d s
  cases d <;> first | rfl | (rename_i c;cases c <;> rfl)
 refine wpAny_IfExp (hc.go .refl I e nb fun z1 c u y1 x1 I1 r1 e1=>?_)
 cases (show u=c from r1)
 cases c with
 | true=>exact Η ((ha false).at x1 I1 e1 nb) (fun u s' ⟨z',d,e,q,y,I',r⟩=>⟨z',d,e,q,y,I',.of r.rd⟩) fun _ _ h=>h
 | false=>exact Η ((hb false).at x1 I1 e1 nb) (fun u s' ⟨z',d,e,q,y,I',r⟩=>⟨z',d,e,q,y,I',.of r.rd⟩) fun _ _ h=>h
theorem Co {d:D} {u:η} (I:Rep X z) (h:CR X.W z d u) (e:wO d=some b):Ε X.M X.A (truthy u) (fun c s'=>c=b∧Gr z.s s') NoE z.s:=by
 have hl:=gR
 cases d with
 | non=>cases e;cases (show u=_ from h);exact truthy_none ⟨rfl,.refl⟩
 | bl c=>cases e;cases (show u=_ from h);exact Ϸ ⟨rfl,.refl⟩
 | int i=>cases e;obtain ⟨t,rfl⟩:=h;exact PySem.P.truthy_int ⟨rfl,.refl⟩
 | tup l=>
   cases e;obtain ⟨a,o,vs,rfl,e1,t,r⟩:=h;have:=t.2.2
   refine truthy_tuple (tpt (I.gh _ _ e1) t) (by rw [Μ];omega) ⟨?_,.tok⟩
   have:=r.len;cases l <;> cases vs <;> first | rfl | cases this
 | lst l=>
   cases e;obtain ⟨a,o,vs,rfl,e1,t,r⟩:=h;have:=t.2
   refine wpAny_truthy_list (lsl e1 t) (by rw [Μ];omega) ⟨?_,.tok⟩
   have:=r.len;cases l <;> cases vs <;> first | rfl | cases this
 | _=>cases e
theorem BT (ha:LE X ea a) (he:∀ whole,Fe ea X.env whole=(do let v ← whole;Eb ea.pos;holding [v] (truthy v))):LT X ea (.tv a):=fun z I nb=>
 isTrue_plain ((ha true).go .refl I (ai ..) nb fun z1 x u y1 x1 I1 r1 e1=>by
  cases q:wO (look z1.t.st x) with
  | none=>rw [q] at e1;exact ZX e1 nb
  | some b=>
    rw [q] at e1
    refine Η (ό I1.tk (Co I1 (r1.rb.cr I1) q)) (fun c s' ⟨tk,h,g⟩=>?_) fun _ _ z=>z.2.elim
    subst h
    exact ⟨z1.up s',c,rfl,e1,x1.trans (cn I1.gh g).ee,I1.grow (cn I1.gh g) tk,rfl⟩) (he _)
theorem sQ {o p:Op} (ho:Op2 X (Ò op) (opD o)) (hp:Op2 X (Ò op') (opD p)) (ha:LE X ea a) (hb:LE X eb b) (hc:LE X ec c) (hm:HE [op,op'] [eb,ec]=false):LE X (.Compare ea [op,op'] [eb,ec] pos) (.chain o p a b c):=fun br z I nb=>
 Compare_chain ((ha true).go .refl I rfl nb fun z1 x u y1 x1 I1 r1 e1=>chain_link ((hb true).go x1 I1 e1 nb fun z2 y v y2 x2 I2 r2 e2=>by
  cases q:opD o (look z2.t.st x) (look z2.t.st y) with
  | none=>rw [q] at e2;exact ZX e2 nb
  | some d=>
    rw [q] at e2
    refine Η (ό I2.tk (ho z2 u v _ _ d I2 ((r1.rb.st y2 I2).cr I2) (r2.rb.cr I2) q)) (fun w s' ⟨tk,k⟩=>?_) fun _ _ z=>z.2.elim
    cases d with
    | bl t=>
      cases (show w=Ϣ t from k.2)
      have g:=cn I2.gh k.1
      refine Ϸ ?_
      cases t with
      | false=>exact ite_ff (k.at x2 I2 e2)
      | true=>exact ite_tt (chain_last ((hc true).go (x2.trans g.ee) (I2.grow g) e2 nb fun z4 w' v' y4 x4 I4 r4 e4=>cB x4 I4 e4 nb fun d q=>hp z4 v v' _ _ d I4 (((r2.rb.st g.ee (I2.grow g)).st y4 I4).cr I4) (r4.rb.cr I4) q))
    | _=>exact ZX e2 nb)) hm
end
section
variable {X:Cx} {z z0 z1:Z} {br:Bool}
def jc (b:Ξ):Prop:=∀ o i,subscripted b false o i=operate [o,i] (Ed o i)
theorem BM (ha:LE X ea a) (hb:LE X eb b) (hs:jc eb):LE X (.Subscript ea eb pos) (.ix a b):=fun br z I nb=>
 Hg ((ha true).go .refl I rfl nb fun z1 x u y1 x1 I1 r1 e1=>(hb true).go x1 I1 e1 nb fun z2 y v y2 x2 I2 r2 e2=>cB x2 I2 e2 nb fun d q=>by
  obtain ⟨T,id,h1,h2,h3⟩:=Dc I2 ((r1.rb.st y2 I2).cr I2) (r2.rb.cr0 I2) q
  exact tail_any h2 h1 h3 (hs _ _))
def Cx.prt (X:Cx) (c:E) (s:Sta):Out (Option Int):=if bD c then .ok none s else (X.ev true c s).bind toI
def LO (X:Cx) (e:Option Ξ) (c:E):Prop:=Jg X (evalPart e X.env) (X.prt c) fun _ o u=>Ÿ u o
theorem vN:LO X none .nil:=fun z I nb=>by rw [evalPart_none];exact π ⟨z,none,rfl,rfl,.refl,I,.none⟩
theorem vO (n:bD a=false) (ha:LE X ea a):LO X (some ea) a:=fun z I nb=>by
 rw [evalPart_some]
 have e:X.prt a z.t=(X.ev true a z.t).bind toI:=by unfold Cx.prt;rw [n];rfl
 refine (ha true).go .refl I e nb fun z1 x u y1 x1 I1 r1 e1=>?_
 cases x with
 | int i=>obtain ⟨t,rfl⟩:=(r1.rb.cr0 I1:CR X.W z1 (.int i) u);exact ⟨z1,some i,rfl,e1,x1,I1,.int i t⟩
 | _=>exact ZX e1 nb
theorem CR.grow {s':τ} (g:Grw z G' s'):∀ {d},CR W z d u→CR W { z with G:=G',s:=s' } d u
 | .lst _,⟨a,o,vs,e,q,t,r⟩=>⟨a,o,vs,e,g.gr.k _ _ q,t,r.mono (ξ _) g.gg⟩
 | .dic _ _,⟨a,o,vs,e,m,q,t,l,r⟩=>⟨a,o,vs,e,m,g.gr.k _ _ q,t,l,r.mono (ξ _) g.gg⟩
 | .non,h=>h
 | .bl _,h=>h
 | .int _,h=>h
 | .str _,h=>h
 | .tup _,h=>RD.mono (ξ _) g.gg h
 | .ins _ _,h=>RD.mono (ξ _) g.gg h
 | .ref _,h=>RD.mono (ξ _) g.gg h
theorem BQ {lo hi:Option Ξ} {pos p2:ϧ} (ha:LE X ea a) (hl:LO X lo l) (hh:LO X hi h):LE X (.Subscript ea (.Slice lo hi none p2) pos) (.sl a l h):=fun br z I nb=>
 Hg ((ha true).go (f:=fun x s=>(X.prt l s).bind fun l s=>(X.prt h s).bind fun h s=>.of s (slO (look s.st x) l h)) .refl I rfl nb fun z1 x u y1 x1 I1 r1 e1=>wpAny_Slice (hl.go x1 I1 e1 nb fun z2 lo' vl y2 x2 I2 r2 e2=>hh.go x2 I2 e2 nb fun z3 hi' vu y3 x3 I3 r3 e3=>by
  rw [evalPart_none]
  refine π ?_
  have g:=aq (s':={ z3.s with heap:=z3.s.heap.push { cls:=.type "slice",data:=.fields #[vl,vu,.none] } }) I3.gh (.push (t:=z3.s.toks))
  have I4:=I3.grow g
  show Ε X.M X.A (subscriptTail ea (.Slice lo hi none p2) u (.ref z3.s.heap.objs.size)) _ _ { z3.s with heap:=z3.s.heap.push { cls:=.type "slice",data:=.fields #[vl,vu,.none] } }
  refine cB (z:={ z3 with s:=_ }) (x3.trans g.ee) I4 e3 nb fun d q=>?_
  obtain ⟨T,id,h1,h2,h3⟩:=Dp I4 ((((r1.rb.st y2 I2).st y3 I3).cr I3).grow g) (Hw ..) r2 r3 q
  exact tail_any (ops:=[.ref z3.s.heap.objs.size,u]) h2 h1 h3 (by with_unfolding_all rfl)))
theorem RVs.ind {W:Wd} {br:Bool} {z:Z} {P:E→List D→List η→Prop} (hn:P .nil [] []) (hc:∀ a r d ds u us,RV W br a z d u→RVs W br r z ds us→P r ds us→P (.cons a r) (d :: ds) (u :: us)) (c:E):∀ ds us,RVs W br c z ds us→P c ds us:=by
 induction c with
 | nil=>
   intro ds us h
   cases ds with
   | nil=>cases us with
     | nil=>exact hn
     | cons _ _=>exact ň h
   | cons _ _=>exact ň h
 | cons a r _ ih=>
   intro ds us h
   cases ds with
   | nil=>exact ň h
   | cons d ds=>cases us with
     | nil=>exact ň h
     | cons u us=>exact hc a r d ds u us h.1 h.2 (ih ds us h.2)
 | _=>exact fun _ _ h=>ň h
theorem RVs.rds {c ds us} (h:RVs W false c z ds us):RDs W z.ρ z.G ds us:=RVs.ind (P:=fun _ ds us=>RDs W z.ρ z.G ds us) rfl (fun _ _ _ _ _ _ h _ ih=>.cons h.rd ih) c ds us h
theorem sK:LA X [] .nil:=fun br pos z I nb=>ϋ ⟨z,[],rfl,rfl,.refl,I,trivial⟩
theorem oW (ha:LE X ea a) (hr:LA X er r) (hs:Ο (ea :: er) X.env=(false,eval ea X.env) :: Ο er X.env):LA X (ea :: er) (.cons a r):=fun br pos z I nb=>by
 rw [hs]
 show Ε _ _ (spliced ((false,eval ea X.env) :: Ü pos (Ο er X.env))) _ _ _
 exact Τ ((ha br).go .refl I rfl nb fun z1 x u y1 x1 I1 r1 e1=>(hr br pos).go x1 I1 e1 nb fun z2 l us y2 x2 I2 r2 e2=>⟨z2,x :: l,rfl,e2,x2,I2,r1.st y2 I2,r2⟩)
theorem mW (h:LA X es c):LE X (.Tuple es x1 pos) (.tup c):=fun br z I nb=>
 wpAny_Tuple_spliced ((h false pos).go (f:=fun l s=>if l.length≤100000 then Out.ok (D.tup l) s else .bad) .refl I rfl nb fun z1 l us y1 x1 I1 r1 e1=>by
  by_cases c:l.length≤100000
  ·rw [ZZ c] at e1
   have hz:us.length≤ϙ:=by rw [← r1.rds.len];exact big c
   exact ⟨hz,Dn.at x1 I1 e1 (.tupn (t:=z1.s.toks) I1 r1.rds hz)⟩
  ·rw [ZY c] at e1;exact ZX e1 nb)
theorem FV.less (x:Ee X z0 z1) (h:FV X z1 z d u):FV X z0 z d u:=let ⟨a,o,e,n,r⟩:=h;⟨a,o,e,x.st.no n,r⟩
theorem jF (h:LA X es c):LF X (.List es pos) (.lst c):=fun z I nb=>
 DO ((h false pos).go (f:=fun l s=>if l.length≤100000 then Out.ok (D.lst l) s else .bad) .refl I rfl nb fun z1 l us y1 x1 I1 r1 e1=>by
  by_cases c:l.length≤100000
  ·rw [ZZ c] at e1
   have hz:us.length≤ϙ:=by rw [← r1.rds.len];exact big c
   obtain ⟨z2,d,q,q2,y,I2,fv⟩:=(Dw.lstn (X:=X) (t:=z1.s.toks) (n:=0) r1.rds hz).pe I1
   exact ⟨hz,z2,d,q,e1.trans q2,x1.trans y,I2,fv.less x1⟩
  ·rw [ZY c] at e1;exact ZX e1 nb)
theorem FV.rd (x:Ee X z0 z) (I:Rep X z) (h:FV X z0 z d u) (e:o = .ok d z.t):Pe X z0 o (RV X.W br c) u z.s:=by
 obtain ⟨a,ob,rfl,n,t,r,f,no⟩:=h
 obtain ⟨oa,ha⟩:=r.th.1
 have gg:Sub z.G fun b=>if b=a then some oa else z.G b:=fun b o q=>by
  dsimp only
  by_cases c:b=a
  ·subst c;rw [f.1] at q;cases q
  ·rw [ZY c];exact q
 refine ⟨{ z with G:=fun b=>if b=a then some oa else z.G b },d,rfl,e,⟨⟨x.st.pr,x.st.gg.trans gg,fun b o q=>?_,x.st.rn,x.st.th,x.st.sm,x.st.sl⟩,x.sg,x.en,x.ow⟩,I.grw I.tk rfl I.br (fun _ _ e _=>e) (fun _ o e=>⟨o.slots,e⟩) gg (fun b o q=>?_) fun b o q=>?_,.of (jJ t r gg (by dsimp only;rw [ZZ rfl];exact ha.symm))⟩
 ·by_cases c:b=a
  ·subst c;exact .inr (.inl n)
  ·have q:(if b=a then some oa else z.G b)=some o:=q
   rw [ZY c] at q;exact x.st.gn b o q
 ·have q:(if b=a then some oa else z.G b)=some o:=q
  by_cases c:b=a
  ·subst c;rw [ZZ rfl] at q;cases q;exact ha
  ·rw [ZY c] at q;exact I.gh b o q
 ·have q:(if b=a then some oa else z.G b)=some o:=q
  by_cases c:b=a
  ·subst c;exact .inr ⟨f,no⟩
  ·rw [ZY c] at q;exact .inl q
theorem LF.le (h:LF X e c) (hb:∀ br,X.ev br c=X.ev false c):LE X e c:=fun br z I nb=>by
 rw [hb] at nb ⊢
 exact Η (h z I nb) (fun u s' ⟨z',d,q,e,x,I',f⟩=>by subst q;exact f.rd x I' e) fun _ _ h=>h
theorem vK:LF X (.Dict [] [] pos) (.dic .nil):=fun z I nb=>HB (Dw.pe I ⟨.push (t:=z.s.toks),_,.dic [] [],rfl,aH z,rfl,_,[],rfl,ZU.mpr (ê I.sysm),Λ _ rfl,by
 obtain ⟨o,es,ep,h1,h2,h3,h4,h5,h6⟩:=F9 (knd:=bO X.W.P X.W.w) z.s.heap
 rw [Λ _ rfl] at h1
 cases h1
 exact ⟨es,ep,h2,h3,h4,h5,h6,À _⟩,rfl,rfl⟩)
theorem ev1 (f:List D→Sta→Out β):(X.evs br (.cons a .nil) t).bind f=(X.ev br a t).bind fun x s=>f [x] s:=by
 show ((X.ev br a t).bind fun x s=>Out.ok [x] s).bind f=_
 rw [ai];rfl
theorem ev2 (f:List D→Sta→Out β):(X.evs br (.cons a (.cons b .nil)) t).bind f=(X.ev br a t).bind fun x s=>(X.ev br b s).bind fun y s=>f [x,y] s:=by
 show ((X.ev br a t).bind fun x s=>((X.ev br b s).bind fun y s=>Out.ok [y] s).bind fun l s=>Out.ok (x :: l) s).bind f=_
 rw [ai];congr 1;funext x s;rw [ai,ai];rfl
def Blt (X:Cx) (x:θ) (u:η):Prop:=Gl X x∧X.mg x=none∧ý x=some u∧x≠"__name__"∧(x == ("__debug__":θ))=false
theorem Blt.ld {Q:η→τ→Prop} {E:η→τ→Prop} (h:Blt X x u) (I:Rep X z) (q:Q u z.s):Ε X.M X.A (eval (.Name x pos) X.env) Q E z.s:=yG I h.1 h.2.1 h.2.2.1 q h.2.2.2.1 h.2.2.2.2
theorem aR {f:η} {Q:η→τ→Prop} {E:η→τ→Prop} (hf:(∃ id,f = .builtin id)∨∃ T,f = .type T) (hx:Blt X x f) (he:Ο (e :: er) X.env=(false,eval e X.env) :: Ο er X.env) (hpl:(Ü pos (Ο er X.env)).any (·.1)=false) (I:Rep X z)
 (h:Ε X.M X.A (spliced ((false,eval e X.env) :: Ü pos (Ο er X.env))) (fun us s'=>Ε X.M X.A (call f us) Q E s') E z.s):Ε X.M X.A (eval (.Call (.Name x p) (e :: er) [] pos) X.env) Q E z.s:=by
 refine ċ (hx.ld I ?_)
 have h:Ε X.M X.A (spliced (Ü pos (Ο (e :: er) X.env))) (fun us s'=>Ε X.M X.A (call f us) Q E s') E z.s:=by rw [he];exact h
 rcases hf with ⟨id,rfl⟩ | ⟨T,rfl⟩
 ·exact callWith_builtin1 h he hpl
 ·exact callWith_type1 h he hpl
abbrev FB (f:η):Prop:=(∃ id,f = .builtin id)∨∃ T,f = .type T
theorem yJ {f:η} (hb:Bi1 X f b) (hf:FB f) (hx:Blt X x f) (ha:LE X ea a) (he:Ο [ea] X.env=(false,eval ea X.env) :: Ο [] X.env):LE X (.Call (.Name x p) [ea] [] pos) (.bi b (.cons a .nil)):=fun br z I nb=>
 aR hf hx he rfl I (Τ ((ha true).go .refl I (ev1 fun l s=>Out.of s (biD b (l.map (look s.st)))) nb fun z1 x u y1 x1 I1 r1 e1=>ϋ (cB x1 I1 e1 nb fun d q=>hb z1 _ _ d I1 (r1.rb.cr I1) q)))
theorem y9 {f:η} (hb:xL X f b) (hf:FB f) (hx:Blt X x f) (ha:LE X ea a) (he:Ο [ea] X.env=(false,eval ea X.env) :: Ο [] X.env):LF X (.Call (.Name x p) [ea] [] pos) (.bi b (.cons a .nil)):=fun z I nb=>
 aR hf hx he rfl I (Τ ((ha true).go .refl I (ev1 fun l s=>Out.of s (biD b (l.map (look s.st)))) nb fun z1 x u y1 x1 I1 r1 e1=>ϋ (by
  cases q:di b (look z1.t.st x) with
  | none=>exact ZX (e1.trans (show Out.of z1.t (di b (look z1.t.st x)) = .bad by rw [q];rfl)) nb
  | some d=>
    refine Η (ό I1.tk (hb z1 _ _ d I1 (r1.rb.cr I1) q)) (fun v s' ⟨tk,k⟩=>?_) fun _ _ z=>z.2.elim
    obtain ⟨z2,d,q1,q2,y,I2,fv⟩:=k.pe I1
    exact ⟨z2,d,q1,(e1.trans (show Out.of z1.t (di b (look z1.t.st x))=_ by rw [q];rfl)).trans q2,x1.trans y,I2,fv.less x1⟩)))
theorem yK {f:η} (hb:Bi2 X f b) (hf:FB f) (hx:Blt X x f) (ha:LE X ea a) (hc:LE X ec c) (he:Ο [ea,ec] X.env=(false,eval ea X.env) :: Ο [ec] X.env) (he2:Ο [ec] X.env=(false,eval ec X.env) :: Ο [] X.env):LE X (.Call (.Name x p) [ea,ec] [] pos) (.bi b (.cons a (.cons c .nil))):=fun br z I nb=>
 aR hf hx he (by rw [he2];rfl) I (by
  rw [he2]
  exact Τ ((ha true).go .refl I (ev2 fun l s=>Out.of s (biD b (l.map (look s.st)))) nb fun z1 x u y1 x1 I1 r1 e1=>Τ ((hc true).go x1 I1 e1 nb fun z2 y v y2 x2 I2 r2 e2=>ϋ (cB x2 I2 e2 nb fun d q=>hb z2 _ _ _ _ d I2 ((r1.rb.st y2 I2).cr I2) (r2.rb.cr I2) q))))
theorem BL (hb:b = .isTup∨b = .isStr∨b = .isBool∨b = .isInt∨b = .isLst∨b = .isDic) (hx:Blt X "isinstance" (.builtin "isinstance")) (ht:Blt X x (.type (tyN b))) (ha:LE X ea a) (he:Ο [ea,.Name x q] X.env=(false,eval ea X.env) :: Ο [.Name x q] X.env):LE X (.Call (.Name "isinstance" p) [ea,.Name x q] [] pos) (.bi b (.cons a .nil)):=fun br z I nb=>
 aR (.inl ⟨_,rfl⟩) hx he rfl I (Τ ((ha true).go .refl I (ev1 fun l s=>Out.of s (biD b (l.map (look s.st)))) nb fun z1 x u y1 x1 I1 r1 e1=>Τ (ht.ld I1 (ϋ (cB x1 I1 e1 nb fun d q=>Ax hb I1 (r1.rb.cr I1) q)))))
structure b7 (K:ς) (C:Δ):Prop where
 ga:Υ K (.ref C) "__getattribute__" = some (some (.builtin "BaseException.__getattribute__"))
 gn:Υ K (.ref C) "__getattr__" = some none
 cl:Υ K (.ref C) "__class__" = some (some (.builtin "object.__class__"))
 sg:ħ K (.builtin "object.__class__") "__get__" = some (some (.builtin "getset_descriptor.__get__"))
 tk:D3 K (.builtin "object.__class__")=some true
 ob:Ω K C (.type "object")=some true
 be:Ω K C (.type "BaseException")=some true
 is:(Ĭ K C).isSome=true
structure cE (X:Cx) (an:Nat→θ) (c:Nat) (k:Cl) (i:CI):Prop where
 ci:X.W.ci[c]? = some i
 cls:k.what≠2→Cls X.K i.ad
 na:∀ f∈i.nm,dq X.K i.ad f
 wh:X.W.what[c]? = some k.what
 nm:i.nm=k.at_.map an
 nd:i.nm.Nodup
 xc:k.what=2→b7 X.K i.ad∧ϭ X.K i.ad=true
theorem uI {names:List θ} {vs:List η} {f:θ} {v:η} (hn:names.Nodup) {j:Nat} (h1:names[j]? = some f) (h2:vs[j]? = some v):(names.zip vs).lookup f=some v:=by
 induction names generalizing vs j with
 | nil=>simp at h1
 | cons n r ih=>
   cases vs with
   | nil=>simp at h2
   | cons w vs=>
     show (match f == n with | true=>some w | false=>(r.zip vs).lookup f)=some v
     cases j with
     | zero=>simp at h1 h2;subst h1 h2;simp
     | succ j=>
       have h3:r[j]? = some f:=by simpa using h1
       have ne:f≠n:=fun z=>by subst z;exact (ϫ.mp hn).1 (Ι h3)
       rw [show (f == n)=false by simpa using ne]
       exact ih (ϫ.mp hn).2 h3 (by simpa using h2)
theorem InO.objm {s:τ} (h:InO s.heap.get? a dx C l):mn s.heap a dx C fun n=>l.lookup n:=let ⟨e,n,_,o,e2,es,ep,r⟩:=h;⟨e,⟨o,es,ep,e2,r⟩,n⟩
theorem i7:∀ {d v},RD W ρ G d v→Ĵ v=true
 | .non,_,h=>by cases (show _=_ from h);rfl
 | .bl _,_,h=>by cases (show _=_ from h);rfl
 | .int _,_,⟨_,h⟩=>h ▸ rfl
 | .str _,_,⟨_,h⟩=>h ▸ rfl
 | .tup _,_,⟨_,_,_,h,_,_,_⟩=>h ▸ rfl
 | .lst _,_,⟨_,_,_,h,_,_,_⟩=>h ▸ rfl
 | .dic _ _,_,⟨_,_,_,h,_,_,_,_,_⟩=>h ▸ rfl
 | .ins _ _,_,⟨_,_,_,h,_,_,_,_⟩=>h ▸ rfl
 | .ref _,_,⟨_,_,h⟩=>h ▸ rfl
abbrev bQ (X:Cx) (an:Nat→θ):Prop:=∀ (c:Nat) (k:Cl),X.Γ.cl[c]? = some k→∃ i,cE X an c k i
theorem kB (T:bQ X an) {c f:Nat} {l:List D} {d2:D} (e:((X.Γ.cl[c]?).bind fun k=>l[k.at_.idxOf f]?)=some d2):∃ k i,∃ j:Nat,X.Γ.cl[c]? = some k∧cE X an c k i∧l[j]? = some d2∧(l.length≤i.nm.length→i.nm[j]? = some (an f)):=by
 obtain ⟨k,q,e⟩:=ϊ.mp e
 obtain ⟨i,ok⟩:=T c k q
 refine ⟨k,i,k.at_.idxOf f,q,ok,e,fun hl=>?_⟩
 have h1:k.at_.idxOf f<l.length:=(ν.mp e).1
 have h2:k.at_.idxOf f<k.at_.length:=by rw [ok.nm,ο] at hl;omega
 rw [ok.nm,ϑ,Ζ h2]
 simp
theorem rW (T:bQ X an) (I:Rep X z) {n f:Nat} {d:D} {p:Δ×Δ} (ea:z.ρ[n]? = some p) (e:mH X.Γ z.t.st (.ref n) f=some d):∃ C fs v,InO z.h p.1 p.2 C fs∧Cls X.K C∧dq X.K C (an f)∧fs.lookup (an f)=some v∧RD X.W z.ρ z.G d v:=by
 unfold mH at e
 dsimp only at e
 cases q:z.t.st[n]? with
 | none=>rw [q] at e;cases e
 | some o=>
   rw [q] at e
   cases o with
   | ins c l=>
     dsimp only at e
     obtain ⟨k,i',j,e1,ok,e2,e3⟩:=kB T e
     obtain ⟨i,vs,w1,w2,w3,w4,w5⟩:=I.ob n _ p q ea
     have e4:=ok.ci
     rw [w1] at e4;cases e4
     obtain ⟨v,ev,rv⟩:=w5.get e2
     have wz:k.what≠2:=by have:=ok.wh;rw [w2] at this;have e:=ϝ this;omega
     exact ⟨i'.ad,_,v,w4,ok.cls wz,ok.na _ (Ι (e3 w3)),uI ok.nd (e3 w3) ev,rv⟩
   | _=>cases e
theorem mJ {Q:η→τ→Prop} {E:η→τ→Prop} {A:ϗ} (I:Rep X z) (h:InO z.h a dx C fs) (c:Cls X.K C) (n:dq X.K C f) (l:fs.lookup f=some v) (r:RD X.W z.ρ z.G d v) (q:Q v { z.s with toks:=z.s.toks+1 }):Ε X.M A (Ef (.ref a) f b) Q E z.s:=
 vo I.toHR.kin (InO.objm h) (c.get f) c.hd n l (i7 r) q
theorem yO (T:bQ X an) (xr:∀ {z:Z} {a C:Δ} {l:List (θ×η)} {f:θ} {v:η} {Q:η→τ→Prop} {b:Bool},Rep X z→ExO z.h a C l→l≠[]→b7 X.K C→ϭ X.K C=true→Υ X.K (.ref C) f=some none→l.lookup f=some v→Ĵ v=true→Q v { z.s with toks:=z.s.toks+1 }→Ε X.M X.A (Ef (.ref a) f b) Q NoE z.s)
 (ha:LE X ea a) (hb:Æ ea (an f) X.env (eval ea X.env)=eval ea X.env):LE X (.Attribute ea (an f) pos) (.fld a f):=fun br z I nb=>
 uQ hb ((ha true).go .refl I rfl nb fun z1 x u y1 x1 I1 r1 e1=>cB x1 I1 e1 nb fun d q=>by
  have cr:=r1.rb.cr0 I1
  cases x with
  | ins c l=>
    obtain ⟨a,i,vs,rfl,hc,hl,w,rs⟩:=(cr:RD X.W z1.ρ z1.G (.ins c l) u)
    obtain ⟨k,i',j,e1,ok,e2,e3⟩:=kB T (show ((X.Γ.cl[c]?).bind fun k=>l[k.at_.idxOf f]?)=some d from q)
    have e4:=ok.ci
    rw [hc] at e4;cases e4
    obtain ⟨v,ev,rv⟩:=rs.get e2
    have lk:=uI ok.nd (e3 hl) ev
    have mem:an f∈i.nm:=Ι (e3 hl)
    rcases w with ⟨w1,dx,ga⟩ | ⟨w2,w⟩
    ·have w3:k.what≠2:=by have:=ok.wh;rw [w1] at this;have e:=ϝ this;omega
     exact mJ I1 (ga.sub I1.gh) (ok.cls w3) (ok.na _ mem) lk rv (.old I1 .tok rv)
    ·have w3:k.what=2:=by have:=ok.wh;rw [w2] at this;exact (ϝ this).symm
     exact xr I1 (w.sub I1.gh) (fun z=>by rw [z] at lk;cases lk) (ok.xc w3).1 (ok.xc w3).2 (ok.na _ mem) lk (i7 rv) (.old I1 .tok rv)
  | ref n=>
    obtain ⟨p,ep,rfl⟩:=(cr:RD X.W z1.ρ z1.G (.ref n) u)
    obtain ⟨C,fs,v,h1,h2,h3,h4,h5⟩:=rW T I1 ep q
    exact mJ I1 h1 h2 h3 h4 h5 (.old I1 .tok h5)
  | _=>cases q)
end
abbrev NoW:Δ→Prop:=fun _=>False
def XC (X:Cx) (z z':Z) (c:Nat) (l:List D) (e:η):Prop:=∃ a T cls dx,e = .ref a∧XR X.W z' c l cls dx∧Tr z'.s.heap a cls dx T .none∧(z.h a=none∧z'.G a=none∧¬ Mu z'.ρ a)∧z.h T=none∧z'.G T=none∧¬ Mu z'.ρ T
def CRs (X:Cx) (z:Z) (r:Res) (q:Result) (s':τ):Prop:=match q with
 | .ok (.ret u)=>∃ z' d,z'.s=s'∧r = .ok d z'.t.st∧Stp X.fr NoW z z'∧HR X z'∧RD X.W z'.ρ z'.G d u
 | .error e=>∃ z' c l,z'.s=s'∧r = .exc c l z'.t.st∧Stp X.fr NoW z z'∧HR X z'∧XC X z z' c l e
 | _=>False
structure FnC (X:Cx) (cal:Nat→List D→List O→Res) (lv j:Nat) (f:Δ) (fd:á) (ps:List θ) (dvs:List η):Prop where
 len:∀ ds st,cal j ds st≠.bad→ds.length+dvs.length=ps.length
 run:∀ (A:ϗ) (fr:List Ų) (z:Z) (args:Args) (us:List η) (ds:List D),bv lv A→HR { X with A:=A,fr:=fr } z→Hz z.s fd args (ps.zip (us ++ dvs))→RDs X.W z.ρ z.G ds us→cal j ds z.t.st≠.bad →
  Ĳ X.M A (.call (.ref f) args) (CRs { X with A:=A,fr:=fr } z (cal j ds z.t.st)) z.s
def bT (X:Cx) (cal:Nat→List D→List O→Res) (lv j:Nat) (f:Δ):Prop:=∃ fd ps dvs,FnC X cal lv j f fd ps dvs∧b6 X.K fd ps dvs∧Ϝ X.K (.ref f)=true
mutual
theorem py {G G':Hp} (k:∀ a o,G a=some o→(∀ l,¬ LsO o l)→G' a=some o):∀ {d:D} {v},noL d=true→RD W ρ G d v→RD W ρ G' d v
 | .non,_,_,e=>e
 | .bl _,_,_,e=>e
 | .int _,_,_,e=>e
 | .str _,_,_,e=>e
 | .ref _,_,_,e=>e
 | .tup _,_,n,⟨a,o,vs,e,t,q,r⟩=>⟨a,o,vs,e,k _ _ t fun l ⟨⟨_,z⟩,_⟩=>by have:=q.1;rw [z] at this;exact ZX this (show đ "list"≠.type "tuple" by decide),q,cJ k n r⟩
 | .dic _ _,_,n,⟨a,o,vs,e,m,t,q,l,r⟩=>⟨a,o,vs,e,m,k _ _ t fun l ⟨⟨_,z⟩,_⟩=>by obtain ⟨_,_,x,_⟩:=q;have:=x.1;rw [z] at this;exact ZX this (show đ "list"≠.type "dict" by decide),q,l,cJ k n r⟩
 | .ins _ _,_,n,⟨a,i,vs,e,hc,l,t,r⟩=>⟨a,i,vs,e,hc,l,t.elim (fun ⟨w,dx,q1,q2,q3,o,q4,q5⟩=>.inl ⟨w,dx,k _ _ q1 (fun l ⟨⟨_,z⟩,_⟩=>by injection z with z;cases z),q2,q3,o,k _ _ q4 (tU q5),q5⟩) (fun ⟨w,o,vs,q1,q2,q3,q4⟩=>.inr ⟨w,o,vs,k _ _ q1 (fun l ⟨⟨_,z⟩,_⟩=>by rw [z] at q3;cases q3),q2,q3,q4.elim .inl fun ⟨d,od,p1,p2,p3⟩=>.inr ⟨d,od,p1,k _ _ p2 (tU p3),p3⟩⟩),cJ k n r⟩
 | .lst _,_,n,_=>by cases n
theorem cJ {G G':Hp} (k:∀ a o,G a=some o→(∀ l,¬ LsO o l)→G' a=some o):∀ {ds:List D} {vs},kZ ds=true→RDs W ρ G ds vs→RDs W ρ G' ds vs
 | [],_,_,e=>e
 | _ :: _,_,n,⟨v,r,e,t,q⟩=>by
   have n:(noL _ && kZ _)=true:=n
   rw [Θ] at n
   exact ⟨v,r,e,py k n.1 t,cJ k n.2 q⟩
theorem tU (h:NsO o m):∀ l,¬ LsO o l:=fun l ⟨⟨_,z⟩,_⟩=>by obtain ⟨_,_,q,_⟩:=h;rw [z] at q;cases q
end
section
variable {X:Cx} {z z':Z} {br:Bool}
theorem Stp.slots (S:Stp fr NoW z z') (n:¬ Mu z.ρ a) (e:z.h a=some o):∃ sl,z'.h a=some { o with slots:=sl }:=by
 by_cases f:a∈frs fr
 ·exact S.sl a o e n id f
 ·exact ⟨o.slots,S.sm a o e n id f⟩
open Classical in
theorem Rep.back (I:Rep X z) (p q:Nat→Bool) (S:Stp X.fr NoW (z.rel p) z') (H:HR X z') (pq:∀ i,p i=true→q i=true) (hq:∀ i∈z.t.ow,q i=true→p i=true∨(isLst z.t.env[i]? = true∧z'.t.st.all nv=true)) :
 ∃ zf,zf.s=z'.s∧zf.t=⟨z.t.env,z.t.ow.filter q,z'.t.st⟩∧zf.ρ=z'.ρ∧Rep X zf∧Ee X z zf∧(∀ a,z.h a=none→zf.G a=z'.G a)∧(∀ a o,z'.G a=some o→(∀ l,¬ LsO o l)→zf.G a=some o)∧((∀ i∈z.t.ow,q i=true→p i=true)→Sub z'.G zf.G):=by
 obtain ⟨Ir,xr⟩:=I.rel p
 let Rm:Δ→Prop:=fun a=>∃ i∈z.t.ow,q i=true∧z.σ[i]? = some (some (.ref a))
 have own:∀ {a},Rm a→Own z a:=fun ⟨i,m,_,e⟩=>⟨i,m,e⟩
 let G2:Hp:=fun a=>if Rm a then none else z'.G a
 have yes:∀ {a},Rm a→G2 a=none:=fun h=>ZZ h
 have no:∀ {a},¬ Rm a→G2 a=z'.G a:=fun h=>ZY h
 have g2s:Sub G2 z'.G:=fun a o e=>by
  by_cases c:Rm a
  ·rw [yes c] at e;cases e
  ·rw [no c] at e;exact e
 have gz:Sub z.G G2:=fun a o e=>by
  by_cases c:Rm a
  ·rw [(I.oth (own c)).1.1] at e;cases e
  ·rw [no c];exact S.gg _ _ (xr.st.gg _ _ e)
 have hold:∀ {i:Nat} {a:Δ},i∈z.t.ow→p i=true→z.σ[i]? = some (some (.ref a))→z'.G a=none:=fun {i a} m pi es=>by
  obtain ⟨f,o',e'⟩:=I.oth ⟨i,m,es⟩
  have n:(z.rel p).G a=none:=(dF fun ⟨j,mj,pj,ej⟩=>by rw [I.od j i a mj m ej es,pi] at pj;cases pj).trans f.1
  cases w:z'.G a with
  | none=>rfl
  | some o=>
    rcases S.gn a o w with w | w | w
    ·rw [n] at w;cases w
    ·rw [show (z.rel p).h a=z.h a from rfl,e'] at w;cases w
    ·exact w.elim
 have gp:∀ {a o},Rm a→z'.G a=some o→(∃ l,LsO o l)∧z'.t.st.all nv=true∧¬ ∀ i∈z.t.ow,q i=true→p i=true:=fun {a o} ⟨i,m,qi,es⟩ e=>by
  by_cases pi:p i=true
  ·rw [hold m pi es] at e;cases e
  ·obtain ⟨li,al⟩:=(hq i m qi).resolve_left pi
   obtain ⟨d,b,ob,h1,h2,h3,r,f⟩:=I.eo i m
   rw [es] at h2;cases h2
   refine ⟨?_,al,fun w=>pi (w i m qi)⟩
   rw [h1] at li
   cases d with
   | lst ds=>
     cases h3
     obtain ⟨oo,vs,_,e1,l1,_⟩:=r
     have:=S.gg a oo ((gv ⟨i,m,by simpa using pi,es⟩).trans e1)
     rw [e] at this;cases this
     exact ⟨vs,l1⟩
   | _=>cases li
 have kp:∀ a o,z'.G a=some o→(∀ l,¬ LsO o l)→G2 a=some o:=fun a o e n=>by
  by_cases c:Rm a
  ·obtain ⟨⟨l,h⟩,_⟩:=gp c e;exact ZX h (n l)
  ·rw [no c];exact e
 have kq:(∀ i∈z.t.ow,q i=true→p i=true)→Sub z'.G G2:=fun w a o e=>by
  by_cases c:Rm a
  ·exact ZX w (gp c e).2.2
  ·rw [no c];exact e
 have nn:∀ {a},z'.G a=none→G2 a=none:=fun {a} e=>by
  by_cases c:Rm a
  ·exact yes c
  ·rw [no c];exact e
 have rh:∀ {a},(z.rel p).h a=z.h a:=rfl
 have same:∀ a,¬ Mu z.ρ a→∀ o,z.h a=some o→∃ sl,z'.h a=some { o with slots:=sl }:=fun a n o e=>S.slots n e
 have nmu:∀ {a o},z.h a=some o→¬ Mu z.ρ a→¬ Mu z'.ρ a:=fun {a o} e n m=>(S.rn a m).elim n fun w=>by rw [rh,e] at w;cases w
 have nG:∀ {a o},z.h a=some o→(z.rel p).G a=none→z'.G a=none:=fun {a o} e n=>by
  cases w:z'.G a with
  | none=>rfl
  | some o'=>
    rcases S.gn a o' w with w | w | w
    ·rw [n] at w;cases w
    ·rw [rh,e] at w;cases w
    ·exact w.elim
 have ob2:∀ (n:Nat) (o:O) (pp:Δ×Δ),z'.t.st[n]? = some o→z'.ρ[n]? = some pp→ObR X.W z'.ρ G2 z'.h pp o:=fun n o pp h1 h2=>by
  by_cases w:∀ i∈z.t.ow,q i=true→p i=true
  ·exact (H.ob n o pp h1 h2).mono (ξ _) (kq w) fun _ _ _ e=>e
  ·by_cases al:z'.t.st.all nv=true
   ·have nl:=Ψ.mp al o (Ι h1)
    cases o with
    | lst l=>cases nl
    | dic ks l=>obtain ⟨o,vs,a1,a2,a3,a4,a5,a6⟩:=H.ob n _ pp h1 h2;exact ⟨o,vs,a1,a2,a3,a4,a5,cJ kp nl a6⟩
    | ins c l=>obtain ⟨i,vs,a1,a2,a3,a4,a5⟩:=H.ob n _ pp h1 h2;exact ⟨i,vs,a1,a2,a3,a4,cJ kp nl a5⟩
   ·exact ZX (fun i m qi=>(hq i m qi).resolve_right fun v=>al v.2) w
 refine ⟨⟨z'.ρ,G2,⟨z.t.env,z.t.ow.filter q,z'.t.st⟩,z.σ,z'.s⟩,rfl,rfl,rfl,⟨⟨H.md,H.fm,H.hd,fun b o e=>gz _ _ (I.bs b o e),g2s.trans H.gh,H.rl,H.rn,fun a m=>nn (H.rg a m),ob2,H.fu,fun b m=>⟨nn (H.ff b m).1,(H.ff b m).2⟩,H.br,H.os,H.tk⟩,I.ok,?_,fun x c e=>?_,fun a l=>?_,I.el,I.sl,fun i d n e=>?_,fun i m=>?_,fun i j a m1 m2=>I.od i j a (ϕ.mp m1).1 (ϕ.mp m2).1⟩,⟨⟨S.pr,gz,fun a o e=>?_,S.rn,S.th,fun a o e n w f=>S.sm a o e n id f,fun a o e n w f=>S.sl a o e n id f⟩,rfl,rfl,fun i m=>(ϕ.mp m).1⟩,fun a e=>?_,kp,kq⟩
 ·obtain ⟨m,hn,hl⟩:=I.lo
  have cl:∀ c v,(∃ x,X.env.cells.lookup x=some c)→z.s.heap.IsCell c v→z'.s.heap.IsCell c v:=fun c v ⟨x,ex⟩ ⟨o,e,d⟩=>let ⟨_,w⟩:=same c (I.fl c (.inr ⟨x,ex⟩)).2 o e;⟨_,w,d⟩
  obtain ⟨oL,es,ep,eL,r⟩:=hn
  obtain ⟨sl,w⟩:=same _ (I.fl _ (.inl rfl)).2 oL eL
  exact ⟨m,⟨_,es,ep,w,r⟩,fun i x u h1 h2 h3=>dB (fun c v e q=>cl c v ⟨x,e⟩ q) (hl i x u h1 h2 h3)⟩
 ·obtain ⟨v,o,e1,d⟩:=I.ce x c e
  obtain ⟨sl,w⟩:=same c (I.fl c (.inr ⟨x,e⟩)).2 o e1
  exact ⟨v,_,w,d⟩
 ·obtain ⟨o,e⟩:=I.lth l
  exact ⟨nn (nG e (Ir.fl a l).1),nmu e (I.fl a l).2⟩
 ·by_cases m:i∈z.t.ow
  ·obtain ⟨d',a,o,h1,h2,h3,r,f⟩:=I.eo i m
   rw [show z.t.env[i]? = some (some d) from e] at h1;cases h1
   have qf:¬ q i=true:=fun w=>n (ϕ.mpr ⟨m,w⟩)
   have pf:p i=false:=by cases w:p i with
    | false=>rfl
    | true=>exact ZX (pq i w) qf
   obtain ⟨oa,ea⟩:=r.th.1
   refine ⟨_,h2,jJ h3 (r.mono (h':=z.h) S.pr (Sub.refl _) fun _ _ _ e=>e) gz ?_⟩
   have nr:¬ Rm a:=fun ⟨j,mj,qj,ej⟩=>by rw [I.od j i a mj m ej h2] at qj;exact qf qj
   exact (no nr).trans ((S.gg a oa ((gv ⟨i,m,pf,h2⟩).trans ea)).trans ea.symm)
  ·obtain ⟨u,w,r⟩:=I.en i d m e
   exact ⟨u,w,r.mono S.pr gz⟩
 ·obtain ⟨m1,m2⟩:=ϕ.mp m
  obtain ⟨d',a,o,h1,h2,h3,r,f⟩:=I.eo i m1
  obtain ⟨oa,ea⟩:=r.th.1
  refine ⟨d',a,o,h1,h2,h3,r.mono S.pr gz fun b hb o e=>?_,yes ⟨i,m1,m2,h2⟩,nmu ea f.2.1,f.2.2⟩
  have hb:b=a:=hb.elim id id
  subst hb
  exact S.sm b o e f.2.1 id f.2.2.1
 ·rcases S.gn a o (g2s a o e) with w | w | w
  ·by_cases c:j8 z p a
   ·obtain ⟨i,m,_,e⟩:=c;exact .inr (.inr ⟨i,m,e⟩)
   ·rw [dF c] at w;exact .inl w
  ·exact .inr (.inl w)
  ·exact w.elim
 ·exact no fun c=>by obtain ⟨o,w⟩:=(I.oth (own c)).2;rw [e] at w;cases w
theorem va {a r:E} (m:i∈bJ r):i∈bJ (.cons a r):=by cases a <;> first | exact υ _ m | exact m
theorem jQ (I:Rep X (z.rel p)) (gg:Sub z.G (z.rel p).G) (k:∀ i∈bJ c,p i=false) {c' ds us} (hs:∀ i∈bJ c',i∈bJ c) (h:RVs X.W true c' z ds us):RDs X.W z.ρ (z.rel p).G ds us:=
 RVs.ind (P:=fun c' ds us=>(∀ i∈bJ c',i∈bJ c)→RDs X.W z.ρ (z.rel p).G ds us) (fun _=>rfl) (fun a r d ds u us h _ ih hs=>by
  refine .cons ?_ (ih fun i m=>hs i (va m))
  rcases h with h | ⟨_,i,rfl,m,e1,e2⟩
  ·exact h.mono (ξ _) gg
  ·obtain ⟨u',q,r⟩:=I.en i d (fun w=>by have:=(ϕ.mp w).2;rw [k i (hs i κ)] at this;cases this) e2
   rw [show z.σ[i]? = some (some u') from q] at e1;cases e1;exact r) c' ds us h hs
theorem hZ {o:Out D} (F:bT X X.cal lv j f) (hr:bv lv X.A) (x:Ee X z0 z) (I:Rep X z) (rd:RDs X.W z.ρ (z.rel fun i=>!(bJ es).contains i).G ds us) (e:o=iu X.cal es j ds z.t) (nb:o≠.bad):Ε X.M X.A (call (.ref f) us) (Pe X z0 o (RV X.W br c)) (Px X z0 o) z.s:=by
 obtain ⟨Ir,xr⟩:=I.rel fun i=>!(bJ es).contains i
 obtain ⟨fd,ps,dvs,F,hb,kp⟩:=F
 subst e
 have nbc:X.cal j ds z.t.st≠.bad:=fun q=>nb (by unfold iu;rw [q])
 have bd:=hb z.s us I.toHR.kin (by rw [ζ,← rd.len];exact F.len _ _ nbc)
 refine Ċ (ü (F.run X.A X.fr (z.rel fun i=>!(bJ es).contains i) ⟨us,[]⟩ us ds hr Ir.toHR bd rd nbc) fun q s' hq=>?_)
 cases q with
 | error e=>
   obtain ⟨z',c,l,rfl,er,S,H,a,T,cls,dx,rfl,xr',tr,⟨na,ga,ma⟩,nT,gT,mT⟩:=hq
   obtain ⟨zf,e1,e2,e3,If,xf,k1,k2,k3⟩:=I.back (fun i=>!(bJ es).contains i) _ S H (fun _ h=>h) fun _ _ h=>.inl h
   have nob:∀ {b:Δ},z.h b=none→z'.G b=none→¬ Mu z'.ρ b→Nob X z zf b:=fun {b} n g m=>by
    have ⟨f,no⟩:=I.fre n
    exact ⟨n,⟨(k1 b n).trans g,e3 ▸ m,f.2.2⟩,fun w=>no (xf.own w)⟩
   refine Px.less x ⟨zf,c,l,e1,by unfold iu;rw [show X.cal j ds z.t.st=_ from er,e2];rfl,xf,If,a,cls,dx,rfl,?_,nob na ga ma,.inr ⟨T,.none,e1 ▸ tr,.inl rfl,nob nT gT mT⟩⟩
   obtain ⟨i,a1,a2,a3,a4,a5⟩:=xr'
   refine ⟨i,a1,a2,a3,a4,a5.imp_right fun ⟨d,od,vs,b1,b2,b3,b4⟩=>⟨d,od,vs,b1,k2 _ _ b2 (tU b3),b3,?_⟩⟩
   rw [e3];exact b4.mono (ξ _) (k3 fun _ _ h=>h)
 | ok fl=>
   cases fl with
   | ret u=>
     obtain ⟨z',d,rfl,er,S,H,r⟩:=hq
     obtain ⟨zf,e1,e2,e3,If,xf,k1,k2,k3⟩:=I.back (fun i=>!(bJ es).contains i) (fun i=>!(bJ es).contains i || (isLst z.t.env[i]? && (noL d && z'.t.st.all nv))) S H (fun i h=>by rw [h];rfl) fun i _ h=>by
      cases w:(!(bJ es).contains i) with
      | true=>exact .inl rfl
      | false=>rw [w,Ho,Θ,Θ] at h;exact .inr ⟨h.1,h.2.2⟩
     refine Pe.less x ⟨zf,d,e1,by unfold iu;rw [show X.cal j ds z.t.st=_ from er,e2];rfl,xf,If,.of ?_⟩
     rw [e3]
     cases w:noL d with
     | true=>exact py k2 w r
     | false=>exact r.mono (ξ _) (k3 fun i _ h=>by rw [w,H3,EB,ļ] at h;exact h)
   | next=>exact hq.elim
   | brk=>exact hq.elim
   | cont=>exact hq.elim
theorem gI {es:E}:∀ i∈bJ es,(!(bJ es).contains i)=false:=fun i m=>by simpa using m
theorem vz {x:θ} (F:bT X X.cal lv j f) (hr:bv lv X.A) (hg:Gl X x) (hm:X.mg x=some (.ref f)) (ha:LA X (ea :: er) es) (hd:(x == ("__debug__":θ))=false) (he:Ο (ea :: er) X.env=(false,eval ea X.env) :: Ο er X.env) (hpl:(Ü pos (Ο er X.env)).any (·.1)=false):LE X (.Call (.Name x p) (ea :: er) [] pos) (.call j es):=fun br z I nb=>
 ċ (aQ I hg hm (Ğ (h₀:=X.base) I.md.kin (let ⟨_,_,_,_,_,k⟩:=F;k) ((ha true pos).go .refl I rfl nb fun z1 l us y1 x1 I1 r1 e1=>⟨I1.toHR.kin,hZ F hr x1 I1 (jQ (I1.rel _).1 (I1.rel _).2.st.gg gI (fun _ h=>h) r1) e1 nb⟩) he hpl) hd)
end
mutual
theorem nJ:∀ {d:D} {v},noR d=true→RD W ρ G d v→RD W ρ' G d v
 | .non,_,_,e=>e
 | .bl _,_,_,e=>e
 | .int _,_,_,e=>e
 | .str _,_,_,e=>e
 | .ref _,_,n,_=>by cases n
 | .tup _,_,n,⟨a,o,vs,e,t,q,r⟩=>⟨a,o,vs,e,t,q,cC n r⟩
 | .lst _,_,n,⟨a,o,vs,e,t,q,r⟩=>⟨a,o,vs,e,t,q,cC n r⟩
 | .dic _ _,_,n,⟨a,o,vs,e,m,t,q,l,r⟩=>⟨a,o,vs,e,m,t,q,l,cC n r⟩
 | .ins _ _,_,n,⟨a,i,vs,e,hc,l,t,r⟩=>⟨a,i,vs,e,hc,l,t,cC n r⟩
theorem cC:∀ {ds:List D} {vs},aU ds=true→RDs W ρ G ds vs→RDs W ρ' G ds vs
 | [],_,_,e=>e
 | _ :: _,_,n,⟨v,r,e,t,q⟩=>by
   have n:(noR _ && aU _)=true:=n
   rw [Θ] at n
   exact ⟨v,r,e,nJ n.1 t,cC n.2 q⟩
end
theorem ig (k:Nat):∀ l:List D,(iF k l).length=l.length
 | []=>rfl
 | _ :: r=>ZS (· + 1) (ig k r)
section
variable {X:Cx} {z z' z0:Z} {br:Bool}
abbrev Z.bare (z:Z):Z:={ z with ρ:=[],t:=⟨z.t.env,z.t.ow,[]⟩ }
theorem c9:¬ Mu [] a:=fun ⟨_,h,_⟩=>nomatch h
theorem HR.bare (I:HR X z):HR X z.bare:=⟨I.md,I.fm,I.hd,I.bs,I.gh,rfl,fun _ _ _ _ _ h=>by simp at h,fun _ m=>(c9 m).elim,fun _ _ _ h=>by simp at h,I.fu,fun b m=>⟨(I.ff b m).1,c9⟩,I.br,I.os,I.tk⟩
theorem Rep.hout (I:Rep X z) (S:Stp X.fr NoW z.bare z') (H:HR X z'):Rep X { z with G:=z'.G,s:=z'.s }∧Ee X z { z with G:=z'.G,s:=z'.s }:=by
 have gn:∀ a o,z'.G a=some o→z.G a=some o∨z.h a=none:=fun a o e=>(S.gn a o e).imp_right fun w=>w.elim id ň
 exact ⟨I.grw H.tk (H.os.trans I.os.symm) H.br (fun b o e f=>S.sm b o e c9 id f) (fun b o e=>S.slots c9 e) S.gg H.gh fun a o e=>(gn a o e).imp_right I.fre,⟨ξ _,S.gg,fun a o e=>(gn a o e).imp_right .inl,fun _ m=>.inl m,S.th,fun a o e _ _ f=>S.sm a o e c9 id f,fun a o e _ _ f=>S.sl a o e c9 id f⟩,rfl,rfl,fun _ h=>h⟩
mutual
theorem RD.sh:∀ {d:D} {v},RD W ρ' G d v→RD W (ρ ++ ρ') G (shD ρ.length d) v
 | .non,_,e=>e
 | .bl _,_,e=>e
 | .int _,_,e=>e
 | .str _,_,e=>e
 | .ref n,_,⟨p,e,q⟩=>⟨p,by rw [Χ (ĕ ..),F7];exact e,q⟩
 | .tup _,_,⟨a,o,vs,e,t,q,r⟩=>⟨a,o,vs,e,t,q,r.sh⟩
 | .lst _,_,⟨a,o,vs,e,t,q,r⟩=>⟨a,o,vs,e,t,q,r.sh⟩
 | .dic _ _,_,⟨a,o,vs,e,m,t,q,l,r⟩=>⟨a,o,vs,e,m,t,q,l.trans (ig _ _).symm,r.sh⟩
 | .ins _ _,_,⟨a,i,vs,e,hc,l,t,r⟩=>⟨a,i,vs,e,hc,by rw [ig];exact l,t,r.sh⟩
theorem RDs.sh:∀ {ds:List D} {vs},RDs W ρ' G ds vs→RDs W (ρ ++ ρ') G (iF ρ.length ds) vs
 | [],_,e=>e
 | _ :: _,_,⟨v,r,e,t,q⟩=>⟨v,r,e,t.sh,q.sh⟩
end
theorem ObR.sh:∀ {o:O},ObR W ρ' G h p o→ObR W (ρ ++ ρ') G h p (shO ρ.length o)
 | .lst _,⟨o,vs,z,e,q,r⟩=>⟨o,vs,z,e,q,r.sh⟩
 | .dic _ _,⟨o,vs,z,m,e,q,l,r⟩=>⟨o,vs,z,m,e,q,l.trans (ig _ _).symm,r.sh⟩
 | .ins _ _,⟨i,vs,c,w,l,e,r⟩=>⟨i,vs,c,w,by rw [ig];exact l,e,r.sh⟩
theorem eO:Mu (ρ ++ ρ') a↔Mu ρ a∨Mu ρ' a:=⟨fun ⟨p,h,e⟩=>(Ρ.mp h).imp (fun h=>⟨p,h,e⟩) fun h=>⟨p,h,e⟩,fun h=>h.elim (fun ⟨p,h,e⟩=>⟨p,Ŝ _ h,e⟩) fun ⟨p,h,e⟩=>⟨p,Ŕ _ h,e⟩⟩
theorem Rep.more {os:List O} {ρ':Rs} (I:Rep X z) (hl:ρ'.length=os.length) (nw:∀ a,Mu ρ' a→Fre X z a∧¬ Own z a) (rn:∀ (i j:Nat) (p q:Δ×Δ) (a:Δ),ρ'[i]? = some p→ρ'[j]? = some q→(a=p.1∨a=p.2)→(a=q.1∨a=q.2)→i=j)
 (ob:∀ (n:Nat) (o:O) (p:Δ×Δ),os[n]? = some o→ρ'[n]? = some p→ObR X.W (z.ρ ++ ρ') z.G z.h p o):Rep X { z with ρ:=z.ρ ++ ρ',t:=⟨z.t.env,z.t.ow,z.t.st ++ os⟩ }:=by
 have rl:=I.rl
 have pre:z.ρ <+: z.ρ ++ ρ':=Ì _ _
 have at_:∀ {i:Nat} {p:Δ×Δ},(z.ρ ++ ρ')[i]? = some p→(i<z.ρ.length∧z.ρ[i]? = some p)∨(z.ρ.length≤i∧ρ'[i - z.ρ.length]? = some p):=fun {i p} h=>by
  by_cases c:i<z.ρ.length
  ·rw [ϓ c] at h;exact .inl ⟨c,h⟩
  ·rw [Χ (by omega)] at h;exact .inr ⟨by omega,h⟩
 have mem:∀ {i:Nat} {p:Δ×Δ} {l:Rs} {a:Δ},l[i]? = some p→(a=p.1∨a=p.2)→Mu l a:=fun h e=>⟨_,Ι h,e⟩
 refine ⟨⟨I.md,I.fm,I.hd,I.bs,I.gh,by show (z.ρ ++ ρ').length=(z.t.st ++ os).length;simp only [ζ];omega,fun i j p q a h1 h2 h3 h4=>?_,fun a m=>(eO.mp m).elim (I.rg a) fun m=>(nw a m).1.1,fun n o p h1 h2=>?_,I.fu,fun b m=>⟨(I.ff b m).1,fun h=>(eO.mp h).elim (I.ff b m).2 fun h=>(nw b h).1.2.2.1 m⟩,I.br,I.os,I.tk⟩,I.ok,I.lo,I.ce,fun a l=>⟨(I.fl a l).1,fun h=>(eO.mp h).elim (I.fl a l).2 fun h=>(nw a h).1.2.2.2 l⟩,I.el,I.sl,fun i d n e=>let ⟨u,q,r⟩:=I.en i d n e;⟨u,q,r.mono pre (.refl _)⟩,fun i m=>?_,I.od⟩
 ·rcases at_ h1 with ⟨c1,w1⟩ | ⟨c1,w1⟩ <;> rcases at_ h2 with ⟨c2,w2⟩ | ⟨c2,w2⟩
  ·exact I.rn i j p q a w1 w2 h3 h4
  ·exact ZX (mem w1 h3) (nw a (mem w2 h4)).1.2.1
  ·exact ZX (mem w2 h4) (nw a (mem w1 h3)).1.2.1
  ·have:=rn _ _ p q a w1 w2 h3 h4;omega
 ·have h1:(z.t.st ++ os)[n]? = some o:=h1
  rcases at_ h2 with ⟨c1,w1⟩ | ⟨c1,w1⟩
  ·rw [ϓ (by omega)] at h1
   exact (I.ob n o p h1 w1).mono pre (.refl _) fun _ _ _ e=>e
  ·rw [Χ (by omega),← rl] at h1
   exact ob _ o p h1 w1
 ·obtain ⟨d,a,o,h1,h2,h3,r,f⟩:=I.eo i m
  exact ⟨d,a,o,h1,h2,h3,r.mono pre (.refl _) fun _ _ _ e=>e,f.1,fun h=>(eO.mp h).elim f.2.1 fun h=>(nw a h).2 ⟨i,m,h2⟩,f.2.2⟩
theorem sR {x:θ} (F:bT X X.cal lv j f) (hr:bv lv X.A) (hg:Gl X x) (hm:X.mg x=some (.ref f)) (ha:LA X (ea :: er) es) (hd:(x == ("__debug__":θ))=false) (he:Ο (ea :: er) X.env=(false,eval ea X.env) :: Ο er X.env) (hpl:(Ü pos (Ο er X.env)).any (·.1)=false):LE X (.Call (.Name x p) (ea :: er) [] pos) (.hcall j es):=fun br z I nb=>
 ċ (aQ I hg hm (Ğ (h₀:=X.base) I.md.kin (let ⟨_,_,_,_,_,k⟩:=F;k) ((ha false pos).go .refl I rfl nb fun z1 l us y1 x1 I1 r1 e1=>⟨I1.toHR.kin,by
  obtain ⟨fd,ps,dvs,F,hb,kp⟩:=F
  unfold vp at e1
  by_cases nr:aU l=true
  ·rw [ZZ nr] at e1
   have nbc:X.cal j l []≠.bad:=fun q=>by rw [q] at e1;exact nb e1
   have rd:RDs X.W z1.bare.ρ z1.bare.G l us:=cC nr r1.rds
   have bd:=hb z1.s us I1.toHR.kin (by rw [ζ,← rd.len];exact F.len _ _ nbc)
   refine Ċ (ü (F.run X.A X.fr z1.bare ⟨us,[]⟩ us l hr I1.toHR.bare bd rd nbc) fun q s' hq=>?_)
   cases q with
   | error e=>
     obtain ⟨z',c,l',rfl,er,S,H,a,T,cls,dx,rfl,xr',tr,⟨na,ga,ma⟩,nT,gT,mT⟩:=hq
     rw [show X.cal j l []=_ from er] at e1
     obtain ⟨If,xf⟩:=I1.hout S H
     by_cases n2:aU l'=true
     ·have e1:=e1.trans (ZZ n2)
      have nob:∀ {b:Δ},z1.h b=none→z'.G b=none→Nob X z1 { z1 with G:=z'.G,s:=z'.s } b:=fun {b} n g=>by
       have ⟨f,no⟩:=I1.fre n
       exact ⟨n,⟨g,f.2⟩,no⟩
      refine Px.less x1 ⟨{ z1 with G:=z'.G,s:=z'.s },c,l',rfl,e1,xf,If,a,cls,dx,rfl,?_,nob na ga,.inr ⟨T,.none,tr,.inl rfl,nob nT gT⟩⟩
      obtain ⟨i,a1,a2,a3,a4,a5⟩:=xr'
      exact ⟨i,a1,a2,a3,a4,a5.imp_right fun ⟨d,od,vs,b1,b2,b3,b4⟩=>⟨d,od,vs,b1,b2,b3,cC n2 b4⟩⟩
     ·exact ZX (e1.trans (ZY n2)) nb
   | ok fl=>
     cases fl with
     | ret u=>
       obtain ⟨z',d,rfl,er,S,H,r⟩:=hq
       rw [show X.cal j l []=_ from er] at e1
       obtain ⟨If,xf⟩:=I1.hout S H
       by_cases n2:noR d=true
       ·have e1:=e1.trans (show (if noR d=true then Out.ok d z1.t else _)=_ from ZZ n2)
        exact Pe.less x1 ⟨{ z1 with G:=z'.G,s:=z'.s },d,rfl,e1,xf,If,.of (nJ n2 r)⟩
       ·have e1:=e1.trans (show (if noR d=true then Out.ok d z1.t else _)=_ from ZY n2)
        have new:∀ a,Mu z'.ρ a→z1.h a=none:=fun a m=>(S.rn a m).elim (fun m=>(c9 m).elim) id
        have I2:=If.more (ρ':=z'.ρ) (os:=z'.t.st.map (shO z1.t.st.length)) (by rw [ο];exact H.rl) (fun a m=>let ⟨f,no⟩:=I1.fre (new a m);⟨⟨H.rg a m,f.2⟩,no⟩) H.rn (fun n o p h1 h2=>by
         rw [ϑ,Α] at h1
         obtain ⟨o',h1,rfl⟩:=h1
         rw [← I1.rl];exact (H.ob n o' p h1 h2).sh)
        refine Pe.less x1 ⟨{ z1 with ρ:=z1.ρ ++ z'.ρ,G:=z'.G,t:=⟨z1.t.env,z1.t.ow,z1.t.st ++ z'.t.st.map (shO z1.t.st.length)⟩,s:=z'.s },shD z1.t.st.length d,rfl,e1,⟨⟨Ì _ _,xf.st.gg,xf.st.gn,fun a m=>(eO.mp m).imp_right (new a),xf.st.th,xf.st.sm,xf.st.sl⟩,rfl,rfl,fun _ h=>h⟩,I2,.of ?_⟩
        rw [← I1.rl];exact r.sh
     | next=>exact hq.elim
     | brk=>exact hq.elim
     | cont=>exact hq.elim
  ·rw [ZY nr] at e1;exact ZX e1 nb⟩) he hpl) hd)
structure pS (X:Cx) (an:Nat→θ) (m:θ) (c:Nat) (f:Δ):Prop where
 ex:∃ i k,X.Γ.cl[c]? = some k∧cE X an c k i∧k.what=0∧Ar X.K i.ad m f∧m ∉ i.nm
theorem uJ {l:List θ} {vs:List η} (h:m ∉ l):(l.zip vs).lookup m=none:=by
 induction l generalizing vs with
 | nil=>rfl
 | cons n r ih=>
   cases vs with
   | nil=>rfl
   | cons w vs=>
     show (match m == n with | true=>some w | false=>(r.zip vs).lookup m)=none
     rw [show (m == n)=false from ZU.mpr fun z=>h (by rw [z];exact κ)]
     exact ih fun z=>h (υ _ z)
theorem o7 {n:Nat} {l:List D} {p:Δ×Δ} {Q:η×List η→τ→Prop} {E:η→τ→Prop} {pl:DR Bool} (M:pS X an m c f) (I:Rep X z) (e:z.t.st[n]? = some (.ins c l)) (ep:z.ρ[n]? = some p) (q:Q (.ref f,[.ref p.1]) z.s):Ε X.M X.A (EJ (.ref p.1) m pl) Q E z.s:=by
 obtain ⟨i,k,hc,ok,w,hm,nm⟩:=M.ex
 obtain ⟨i',vs,w1,w2,w3,w4,w5⟩:=I.ob n _ p e ep
 have e4:=ok.ci
 rw [w1] at e4;cases e4
 exact r9 I.toHR.kin (InO.objm w4) ((ok.cls (by omega)).get m) hm.at_ hm.fn (uJ nm) q
theorem o8 {o:Out D} {f:List D→Sta→Out D} {x:D} (e:o=(match x with
 | .ref p=>(match z.t.st[p]? with
   | some (.ins c' _)=>if c'=c then (X.evs true es z.t).bind fun l s=>iu X.cal es j (x :: l) s else .bad
   | _=>.bad)
 | _=>.bad)) (nb:o≠.bad):∃ n l,x = .ref n∧z.t.st[n]? = some (.ins c l)∧o=(X.evs true es z.t).bind fun l s=>iu X.cal es j (.ref n :: l) s:=by
 cases x with
 | ref n=>
   dsimp only at e
   cases q:z.t.st[n]? with
   | none=>rw [q] at e;exact ZX e nb
   | some ob=>
     rw [q] at e
     cases ob with
     | ins c' l=>
       dsimp only at e
       by_cases h:c'=c
       ·subst h;rw [ZZ rfl] at e;exact ⟨n,l,rfl,q,e⟩
       ·rw [ZY h] at e;exact ZX e nb
     | _=>exact ZX e nb
 | _=>exact ZX e nb
theorem yS (F:bT X X.cal lv j f) (hr:bv lv X.A) (M:pS X an m c f) (ho:LE X eo a) (ha:LA X (ea :: er) es) (he:Ο (ea :: er) X.env=(false,eval ea X.env) :: Ο er X.env) (hpl:(Ü pos (Ο er X.env)).any (·.1)=false)
 (ht:eval (.Call (.Attribute eo m apos) (ea :: er) [] pos) X.env=(do
  let ov ← eval eo X.env
  Eb apos.atName
  let (f,first) ← holding [ov] (EJ ov m pl)
  Eh pos f first (Ü pos (Ο (ea :: er) X.env)) (Ŷ pos (ġ [] X.env)))):LE X (.Call (.Attribute eo m apos) (ea :: er) [] pos) (.mth c j a es):=fun br z I nb=>
 ES (pl:=pl) ((ho true).go .refl I rfl nb fun z1 x u y1 x1 I1 r1 e1=>by
  obtain ⟨n,l,rfl,q,e1⟩:=o8 (f:=fun _ _=>.bad) e1 nb
  obtain ⟨p,ep,rfl⟩:=(r1.rb.cr0 I1:RD X.W z1.ρ z1.G (.ref n) u)
  exact o7 M I1 q ep (Ğ (first:=[.ref p.1]) (h₀:=X.base) I.md.kin (let ⟨_,_,_,_,_,k⟩:=F;k) ((ha true pos).go x1 I1 e1 nb fun z2 l us y2 x2 I2 r2 e2=>⟨I2.toHR.kin,hZ (us:=.ref p.1 :: us) F hr x2 I2 (.cons (d:=.ref n) ⟨p,eV y2.st.pr ep,rfl⟩ (jQ (I2.rel _).1 (I2.rel _).2.st.gg gI (fun _ h=>h) r2)) e2 nb⟩) he hpl)) ht
theorem vD (F:bT X X.cal lv j f) (hr:bv lv X.A) (M:pS X an m c f) (ho:LE X eo a)
 (ht:eval (.Call (.Attribute eo m apos) [] [] pos) X.env=(do
  let ov ← eval eo X.env
  Eb apos.atName
  let (f,first) ← holding [ov] (EJ ov m pl)
  Eh pos f first (Ü pos (Ο [] X.env)) (Ŷ pos (ġ [] X.env)))):LE X (.Call (.Attribute eo m apos) [] [] pos) (.mth c j a .nil):=fun br z I nb=>
 ES (pl:=pl) ((ho true).go .refl I rfl nb fun z1 x u y1 x1 I1 r1 e1=>by
  obtain ⟨n,l,rfl,q,e1⟩:=o8 (f:=fun _ _=>.bad) e1 nb
  obtain ⟨p,ep,rfl⟩:=(r1.rb.cr0 I1:RD X.W z1.ρ z1.G (.ref n) u)
  exact o7 M I1 q ep (F6 (first:=[.ref p.1]) I1.toHR.kin (let ⟨_,_,_,_,_,k⟩:=F;k) (hZ (us:=[.ref p.1]) (es:=.nil) F hr x1 I1 (.cons (d:=.ref n) (ds:=[]) ⟨p,ep,rfl⟩ rfl) e1 nb))) ht
theorem ip (C:Δ) (us:List η) (kw:List (θ×η)):(X.A.under (.builtin "type.__call__" ⟨.ref C :: us,kw⟩)).frames=X.A.frames:=by simp [EX,Code.envs,Fc,pushEnvs]
theorem d9:Mu (ρ ++ [p]) a↔Mu ρ a∨a=p.1∨a=p.2:=by
 constructor
 ·rintro ⟨q,h,e⟩
  rcases Ρ.mp h with h | h
  ·exact .inl ⟨q,h,e⟩
  ·cases ι.mp h;exact .inr e
 ·rintro (⟨q,h,e⟩ | e)
  ·exact ⟨q,Ŝ _ h,e⟩
  ·exact ⟨p,Ŕ _ κ,e⟩
theorem aS {l:List α} (e:(l ++ [a])[n]? = some b):l[n]? = some b∨(n=l.length∧b=a):=by
 rcases Nat.lt_trichotomy n l.length with h | h | h
 ·rw [ϓ h] at e;exact .inl e
 ·subst h;rw [Χ (ύ _),Ď] at e;cases e;exact .inr ⟨rfl,rfl⟩
 ·rw [Χ (ď h),List.getElem?_eq_none (by simp;omega)] at e;cases e
theorem HR.snoc (I:HR X z) (g:Gr z.s s') (hp:z.h p.1=none∧z.h p.2=none) (r:ObR X.W (z.ρ ++ [p]) z.G s'.heap.get? p o) (tk:X.tz≤s'.toks:=by first | assumption | exact HR.tk (by assumption) | exact HR.tk1 (by assumption) | exact (Rep.toHR (by assumption)).tk | exact (Rep.toHR (by assumption)).tk1 | exact ϡ (by assumption)):HR X { z with ρ:=z.ρ ++ [p],t:=⟨z.t.env,z.t.ow,z.t.st ++ [o]⟩,s:=s' }∧Stp X.fr w z { z with ρ:=z.ρ ++ [p],t:=⟨z.t.env,z.t.ow,z.t.st ++ [o]⟩,s:=s' }:=by
 have nn:∀ {a:Δ},(a=p.1∨a=p.2)→z.h a=none:=fun h=>h.elim (fun e=>e ▸ hp.1) fun e=>e ▸ hp.2
 have pre:z.ρ <+: z.ρ ++ [p]:=Ì _ _
 have no:∀ {a:Δ} {P:Prop},(a=p.1∨a=p.2)→(∃ o,z.h a=some o)→P:=fun h ⟨o,e⟩=>by rw [nn h] at e;cases e
 have old:∀ {i:Nat} {q:Δ×Δ} {a:Δ},z.ρ[i]? = some q→(a=q.1∨a=q.2)→∃ o,z.h a=some o:=fun h1 h2=>I.th ⟨_,Ι h1,h2⟩
 refine ⟨⟨I.md,I.fm,I.hd,I.bs,fun a o e=>g.k a o (I.gh a o e),by simp [I.rl],fun i j q1 q2 a h1 h2 h3 h4=>?_,fun a m=>?_,fun n o' q h1 h2=>?_,nfu I.fu g.k,fun b m=>⟨(I.ff b m).1,fun w=>(d9.mp w).elim (I.ff b m).2 fun w=>no w (I.fth m)⟩,by show ŏ s'.gens;rw [g.gs];exact I.br,g.os.trans I.os,tk⟩,⟨pre,.refl _,fun _ _ e=>.inl e,fun a m=>(d9.mp m).imp_right nn,fun a o e=>⟨o,g.k a o e⟩,fun a o e _ _ _=>g.k a o e,fun a o e _ _ _=>⟨o.slots,g.k a o e⟩⟩⟩
 ·rcases aS h1 with a1 | ⟨a1,b1⟩
  ·rcases aS h2 with a2 | ⟨a2,b2⟩
   ·exact I.rn i j q1 q2 a a1 a2 h3 h4
   ·subst b2;exact no h4 (old a1 h3)
  ·subst b1
   rcases aS h2 with a2 | ⟨a2,b2⟩
   ·exact no h3 (old a2 h4)
   ·rw [a1,a2]
 ·rcases d9.mp m with m | m
  ·exact I.rg a m
  ·cases q:z.G a with
   | none=>rfl
   | some o=>exact no m ⟨o,I.gh a o q⟩
 ·rcases aS h2 with a2 | ⟨a2,b2⟩
  ·rcases aS h1 with a1 | ⟨a1,_⟩
   ·exact (I.ob n o' q a1 a2).mono pre (.refl _) fun a _ o e=>g.k a o e
   ·have:=(ν.mp a2).1;rw [I.rl] at this;omega
  ·subst b2
   rcases aS h1 with a1 | ⟨_,b1⟩
   ·have:=(ν.mp a1).1;rw [← I.rl] at this;omega
   ·subst b1;exact r
theorem HR.at {A:ϗ} (I:HR X z) (f:A.frames=X.A.frames) (h:A.handled=X.A.handled):HR { X with A:=A } z:=⟨I.md,f.trans I.fm,fun c=>h.trans (I.hd c),I.bs,I.gh,I.rl,I.rn,I.rg,I.ob,I.fu,I.ff,I.br,I.os,I.tk⟩
theorem pH {o:Out D} {j:Nat} {cl:Cl} {i:CI} (F:bT X X.cal1 lv cl.init f) (hr:bv (lv+1) X.A) (M:Mk X.K i.ad f) (hcl:X.Γ.cl[j]? = some cl) (hw:cl.what=0) (hci:X.W.ci[j]? = some i) (hwh:X.W.what[j]? = some 0) (x:Ee X z0 z) (I:Rep X z) (r:RVs X.W true es z l us)
 (e:o=(match X.Γ.cl[j]? with
 | some k=>if k.what=1 then (if l.length=k.at_.length then .ok (.ins j l) (drp es z.t z.t.st) else .bad)
   else if k.what=0 then (match X.cal1 k.init (.ref z.t.st.length :: l) (z.t.st ++ [.ins j []]) with
    | .ok .non st=>.ok (.ref z.t.st.length) (aft es z.t .non st)
    | _=>.bad)
   else .bad
 | none=>.bad)) (nb:o≠.bad):Ε X.M X.A (call (.ref i.ad) us) (Pe X z0 o (RV X.W br c)) (Px X z0 o) z.s:=by
 rw [hcl] at e
 dsimp only at e
 rw [ZY (by omega),ZZ hw] at e
 obtain ⟨Ir,xr⟩:=I.rel fun i=>!(bJ es).contains i
 obtain ⟨fd,ps,dvs,F,hb,kp⟩:=F
 have nbc:X.cal1 cl.init (.ref z.t.st.length :: l) (z.t.st ++ [.ins j []])≠.bad:=fun q=>by rw [q] at e;exact nb e
 have g:Gr z.s { z.s with heap:=(z.s.heap.push Û).push (Í i.ad z.s.heap.objs.size) }:=⟨rfl,rfl,fun b o e=>Κ _ (Κ _ e)⟩
 have e1:(z.s.heap.push Û).get? z.s.heap.objs.size=some Û:=Λ z.s.heap rfl
 have e2:((z.s.heap.push Û).push (Í i.ad z.s.heap.objs.size)).get? (z.s.heap.objs.size+1)=some (Í i.ad z.s.heap.objs.size):=by
  have:=Λ (z.s.heap.push Û) (o:=Í i.ad z.s.heap.objs.size) rfl
  rwa [Ş] at this
 have hn:z.h (z.s.heap.objs.size+1)=none∧z.h z.s.heap.objs.size=none:=⟨Ϙ (Ě _),Ϙ (ύ _)⟩
 have ne:z.s.heap.objs.size≠z.s.heap.objs.size+1:=ϲ (DW _)
 obtain ⟨H1,S1⟩:=HR.snoc (w:=NoW) (p:=(z.s.heap.objs.size+1,z.s.heap.objs.size)) (o:=.ins j []) Ir.toHR g hn ⟨i,[],hci,hwh,À _,⟨e2,ne,by simp,_,Κ _ e1,#[],_,rfl,(fun e he=>ZX he (by simp)),.nil,fun n=>by cases i.nm <;> rfl⟩,rfl⟩
 have at0:(z.ρ ++ [(z.s.heap.objs.size+1,z.s.heap.objs.size)])[z.t.st.length]? = some (z.s.heap.objs.size+1,z.s.heap.objs.size):=by rw [Χ (by rw [I.rl];exact ύ _),I.rl,Ď];rfl
 have rd0:=jQ Ir xr.st.gg gI (fun _ h=>h) r
 have rd:RDs X.W (z.ρ ++ [(z.s.heap.objs.size+1,z.s.heap.objs.size)]) (z.rel fun i=>!(bJ es).contains i).G (.ref z.t.st.length :: l) (.ref (z.s.heap.objs.size+1) :: us):=.cons ⟨_,at0,rfl⟩ (rd0.mono (Ì _ _) (.refl _))
 have bd:=hb { z.s with heap:=(z.s.heap.push Û).push (Í i.ad z.s.heap.objs.size) } (.ref (z.s.heap.objs.size+1) :: us) (I.toHR.kin.keeps g.k) (by rw [ζ,← rd.len];exact F.len _ _ nbc)
 refine Ċ (tG (f:=f) I.toHR.kin M.makes M.init (beq_iff_eq.mp M.fn) (ü (F.run _ X.fr _ ⟨.ref (z.s.heap.objs.size+1) :: us,[]⟩ _ _ (hr.make i.ad us []) (H1.at (ip i.ad us []) rfl) bd rd nbc) fun q s' hq=>?_))
 cases q with
 | error e'=>obtain ⟨z',c,l',_,er,_,_,_⟩:=hq;rw [show X.cal1 cl.init (.ref z.t.st.length :: l) (z.t.st ++ [.ins j []])=_ from er] at e;exact ZX e nb
 | ok fl=>
   cases fl with
   | ret u=>
     obtain ⟨z',d,rfl,er,S,H,r⟩:=hq
     rw [show X.cal1 cl.init (.ref z.t.st.length :: l) (z.t.st ++ [.ins j []])=_ from er] at e
     cases d with
     | non=>
       refine ⟨(show u = .none from r),?_⟩
       have S2:Stp X.fr NoW (z.rel fun i=>!(bJ es).contains i) z':=S1.trans S fun _ h=>h.elim
       have H2:HR X z':=H.at (X:={ X with A:=_,fr:=X.fr }) (A:=X.A) (ip i.ad us []).symm rfl
       obtain ⟨zf,f1,f2,f3,If,xf,k1,k2,k3⟩:=I.back (fun i=>!(bJ es).contains i) (fun i=>!(bJ es).contains i || (isLst z.t.env[i]? && (noL .non && z'.t.st.all nv))) S2 H2 (fun i h=>by rw [h];rfl) fun i _ h=>by
        cases w:(!(bJ es).contains i) with
        | true=>exact .inl rfl
        | false=>rw [w,Ho,Θ,Θ] at h;exact .inr ⟨h.1,h.2.2⟩
       refine Pe.less x ⟨zf,.ref z.t.st.length,f1,by rw [e,f2];rfl,xf,If,.of ⟨(z.s.heap.objs.size+1,z.s.heap.objs.size),?_,rfl⟩⟩
       rw [f3]
       exact eV S.pr at0
     | _=>exact ZX e nb
   | next=>exact hq.elim
   | brk=>exact hq.elim
   | cont=>exact hq.elim
end
def Ps (X:Cx) (z:Z) (o:ah) (f:Flow) (s':τ):Prop:=match o with
 | .nx t=>f = .next∧∃ z',z'.s=s'∧z'.t=t∧Go X z z'∧Rep X z'
 | .rt d t=>∃ u z',f = .ret u∧z'.s=s'∧z'.t.st=t.st∧Go X z z'∧Rep X z'∧RD X.W z'.ρ z'.G d u
 | _=>False
inductive PxS (X:Cx) (z:Z) (o:ah) (x:η) (s':τ):Prop
 | mk (z':_) (c:_) (l:_) (_:z'.s=s') (_:o = .exc c l z'.t) (_:Go X z z') (_:Rep X z') (_:XO X z z' c l x)
abbrev Ws (X:Cx) (t:DR Flow) (z:Z) (o:ah):Prop:=Ε X.M X.A t (Ps X z o) (PxS X z o) z.s
def LS (X:Cx) (st:Ø) (c:S):Prop:=∀ z,Rep X z→X.ex c z.t≠.bad→Ws X (exec st X.env) z (X.ex c z.t)
def LSs (X:Cx) (st:List Ø) (c:S):Prop:=∀ z,Rep X z→X.ex c z.t≠.bad→Ws X (execs st X.env) z (X.ex c z.t)
section
variable {X:Cx} {z z' z0 z1:Z}
theorem Ps.less (x:Go X z z1) (h:Ps X z1 o f s'):Ps X z o f s':=by
 cases o with
 | nx t=>obtain ⟨e,z',a,b,y,I⟩:=h;exact ⟨e,z',a,b,x.trans y,I⟩
 | rt d t=>obtain ⟨u,z',e,a,b,y,I⟩:=h;exact ⟨u,z',e,a,b,x.trans y,I⟩
 | _=>exact h
theorem PxS.less (x:Go X z z1) (h:PxS X z1 o u s'):PxS X z o u s':=let ⟨z',c,l,e,q,y,I,n⟩:=h;⟨z',c,l,e,q,x.trans y,I,n.less fun _=>x.st.no⟩
theorem PxS.of {m:Out α} (x:Go X z z1) (h:Px X z1 m u s') {f:α→Sta→ah}:PxS X z (m.go f) u s':=let ⟨z',c,l,e,q,y,I,n⟩:=h;⟨z',c,l,e,by rw [q];rfl,x.trans y.go,I,n.less fun _=>x.st.no⟩
theorem Jg.gos {t:DR β} {m:Sta→Out α} {R:Z→α→β→Prop} {f:α→Sta→ah} {o:ah} {K:β→τ→Prop} (h:Jg X t m R) (x:Go X z z1) (I:Rep X z1) (e:o=(m z1.t).go f) (nb:o≠.bad)
 (k:∀ z2 d u,Ee X z1 z2→Go X z z2→Rep X z2→R z2 d u→o=f d z2.t→K u z2.s):Ε X.M X.A t K (PxS X z o) z1.s:=by
 subst e
 refine Η (h z1 I fun q=>nb (by rw [q];rfl)) (fun u s' ⟨z2,d,e,q,y,I1,r⟩=>?_) fun u s' h=>.of x h
 subst e;exact k z2 d u y (x.trans y.go) I1 r (by rw [q];rfl)
theorem nxt (x:Go X z z1) (I:Rep X z1) (e:o = .nx z1.t):Ps X z o .next z1.s:=by subst e;exact ⟨rfl,z1,rfl,rfl,x,I⟩
theorem LSs.at (h:LSs X sts c) (x:Go X z z1) (I:Rep X z1) (e:o=X.ex c z1.t) (nb:o≠.bad):Ε X.M X.A (execs sts X.env) (Ps X z o) (PxS X z o) z1.s:=by subst e;exact Η (h z1 I nb) (fun _ _ h=>h.less x) fun _ _ h=>h.less x
theorem ti:LSs X [] .skip:=fun z I _=>Ī (nxt .refl I rfl)
theorem tj (h:LS X tm c):LSs X [tm] c:=fun z I nb=>Ř (thn (h z I nb) fun f s1 q=>by
 cases f with
 | next=>exact Ī q
 | ret v=>exact q
 | brk=>exact q
 | cont=>exact q)
theorem oY (h1:LS X tm a) (h2:LSs X rest b):LSs X (tm :: rest) (.seq a b):=fun z I nb=>by
 have nb1:X.ex a z.t≠.bad:=fun q=>nb (show ah.go (X.ex a z.t) _=_ by rw [q];rfl)
 refine Ř (Η (h1 z I nb1) (fun f s1 q=>?_) fun u s' ⟨z',c,l,e,q,y,J,r⟩=>⟨z',c,l,e,show ah.go (X.ex a z.t) _=_ by rw [q];rfl,y,J,r⟩)
 cases qa:X.ex a z.t with
 | nx t=>
   rw [qa] at q
   obtain ⟨rfl,z1,rfl,rfl,x1,I1⟩:=q
   exact h2.at x1 I1 (show ah.go (X.ex a z.t) _=_ by rw [qa];rfl) nb
 | rt d t=>
   have e:X.ex (.seq a b) z.t = .rt d t:=show ah.go (X.ex a z.t) _=_ by rw [qa];rfl
   rw [qa] at q
   obtain ⟨u,z1,rfl,r⟩:=q
   show Ps X z (X.ex (.seq a b) z.t) (.ret u) s1
   rw [e];exact ⟨u,z1,rfl,r⟩
 | exc c l t=>rw [qa] at q;exact q.elim
 | bad=>exact ZX qa nb1
theorem oZ (h:∀ z,Rep X z→Ε X.M X.A (exec tm X.env) (fun f s'=>f = .next∧Gr z.s s') NoE z.s):LS X tm .skip:=fun z I _=>Η (ό I.tk (h z I)) (fun f s' ⟨tk,e,g⟩=>by subst e;exact nxt (z1:={ z with s:=s' }) (aq I.gh g).ee.go (I.grow (aq I.gh g) tk) rfl) fun _ _ z=>z.2.elim
theorem vU:LS X (.Pass pos) .skip:=oZ fun _ _=>wpAny_Pass ⟨rfl,.refl⟩
theorem Rep.quiet (I:Rep X z):interactive X.env=false:=by simp [interactive,I.ok.kd]
theorem ze:LS X (.Expr (.Constant (.str x) j pos) pos') .skip:=oZ fun z I=>wpAny_Expr (Ϲ (show _∧_ from ⟨rfl,.tok⟩)) I.quiet
theorem vP (he:LE X e c) (hs:ķ e none pos.line X.env=pure false):LS X (.Expr e pos) (.drop c):=fun z I nb=>Ŵ ((he false).gos .refl I rfl nb fun z1 d u y x I1 r e1=>nxt x I1 e1) I.quiet hs
theorem gU (he:LE X e c):LS X (.Return (some e) pos) (.ret c):=fun z I nb=>wpAny_Return_some ((he false).gos .refl I rfl nb fun z1 d u y x I1 r e1=>by
 show Ps X z (X.ex (.ret c) z.t) _ _
 rw [e1];exact ⟨u,z1,rfl,rfl,rfl,x,I1,r.rd⟩)
theorem vX:LS X (.Return none pos) (.ret (.c .non)):=fun z I nb=>wpAny_Return_none ⟨.none,z,rfl,rfl,rfl,.refl,I,rfl⟩
theorem BS (hc:LT X ec c) (ha:LSs X sa a) (hb:LSs X sb b):LS X (.If ec sa sb pos) (.ifs c a b):=fun z I nb=>by
 have e:X.ex (.ifs c a b) z.t=((X.ev true c z.t).bind toB).go fun t s=>if t then X.ex a s else X.ex b s:=by
  show Out.go (X.ev true c z.t) _=_
  cases X.ev true c z.t with
  | ok d s=>cases d <;> first | rfl | (rename_i t;cases t <;> rfl)
  | _=>rfl
 refine wpAny_If (hc.gos .refl I e nb fun z1 t u y x I1 r e1=>?_)
 cases (show u=t from r)
 cases t with
 | true=>exact ha.at x I1 e1 nb
 | false=>exact hb.at x I1 e1 nb
def Vl (X:Cx) (z0 z:Z) (own:Bool) (d:D) (u:η):Prop:=match own with
 | false=>RD X.W z.ρ z.G d u
 | true=>FV X z0 z d u
def stV (t:Sta) (i:Nat) (d:D) (own:Bool):Sta:=⟨t.env.set i (some d),if own then i :: t.ow.filter (· != i) else t.ow.filter (· != i),t.st⟩
theorem jo {h h' base:Â} (k:∀ b o,h.get? b=some o→(∀ vs,o.data≠.fields vs)→∃ o',h'.get? b=some o'∧∀ vs,o'.data≠.fields vs):∀ {l:List Ų},h.FunFrames base l→h'.FunFrames base l
 | [],_=>trivial
 | _ :: _,⟨a,⟨L,o,e1,e2,e3,e4⟩,r⟩=>let ⟨o',q1,q2⟩:=k L o e3 e4;⟨a,⟨L,o',e1,e2,q1,q2⟩,jo k r⟩
theorem Rep.put {s':τ} {i:Nat} {own:Bool} {d:D} {u:η} (x0:Go X z0 z) (I:Rep X z) (sb:è a z.s.heap s'.heap) (la:Lc X a) (th:∃ o,s'.heap.get? a=some o∧∀ vs,o.data≠.fields vs) (os:s'.os=z.s.os) (gs:s'.gens=z.s.gens) (vl:Vl X z0 z own d u) (hi:i<X.N.length)
 (lo:∃ m,s'.heap.Ns X.env.locals m∧∀ (j:Nat) (x:θ) (w:η),X.N[j]? = some x→(z.σ.set i (some u))[j]? = some (some w)→Vis X.env.scope x→mc X.env s'.heap m x w)
 (ce:∀ x c,X.env.cells.lookup x=some c→∃ v,s'.heap.IsCell c v) (tk:X.tz≤s'.toks:=by first | assumption | exact HR.tk (by assumption) | exact HR.tk1 (by assumption) | exact (Rep.toHR (by assumption)).tk | exact (Rep.toHR (by assumption)).tk1 | exact ϡ (by assumption)):Rep X { z with t:=stV z.t i d own,σ:=z.σ.set i (some u),s:=s' }∧Go X z0 { z with t:=stV z.t i d own,σ:=z.σ.set i (some u),s:=s' }:=by
 have ne:∀ {b:Δ},¬ Lc X b→s'.heap.get? b=z.h b:=fun n=>sb.2 _ fun e=>n (e ▸ la)
 have nG:∀ {b o},z.G b=some o→¬ Lc X b:=fun e l=>by rw [(I.fl _ l).1] at e;cases e
 have nM:∀ {b},Mu z.ρ b→¬ Lc X b:=fun m l=>(I.fl _ l).2 m
 have hiσ:i<z.σ.length:=by rw [I.sl];exact hi
 have ow:∀ {j},j∈(stV z.t i d own).ow→(j=i∧own=true)∨(j≠i∧j∈z.t.ow):=fun {j} m=>by
  cases own with
  | true=>
    rcases φ.mp (show j∈i :: z.t.ow.filter (· != i) from m) with w | w
    ·exact .inl ⟨w,rfl⟩
    ·have:=ϕ.mp w;exact .inr ⟨by simpa using this.2,this.1⟩
  | false=>have:=ϕ.mp (show j∈z.t.ow.filter (· != i) from m);exact .inr ⟨by simpa using this.2,this.1⟩
 have wo:∀ {j},j≠i→j∈z.t.ow→j∈(stV z.t i d own).ow:=fun {j} n m=>by
  have w:j∈z.t.ow.filter (· != i):=ϕ.mpr ⟨m,by simpa using n⟩
  cases own with
  | true=>exact υ _ w
  | false=>exact w
 have get:∀ {j},j≠i→(z.σ.set i (some u))[j]? = z.σ[j]?:=fun h=>Φ (ϳ h)
 have gete:∀ {j},j≠i→(z.t.env.set i (some d))[j]? = z.t.env[j]?:=fun h=>Φ (ϳ h)
 have gi:(z.σ.set i (some u))[i]? = some (some u):=Ϟ hiσ
 have gie:(z.t.env.set i (some d))[i]? = some (some d):=Ϟ (by rw [I.el];exact hiσ)
 have fu:s'.heap.FunFrames X.base X.fr:=jo (fun b o e nf=>by
  by_cases q:b=a
  ·subst q;exact th
  ·exact ⟨o,(sb.2 b q).trans e,nf⟩) I.fu
 have th':∀ b o,z.h b=some o→∃ o',s'.heap.get? b=some o':=fun b o e=>by
  by_cases q:b=a
  ·subst q;exact th.imp fun _ h=>h.1
  ·exact ⟨o,(sb.2 b q).trans e⟩
 have S:Stp X.fr (Pv X z) z { z with t:=stV z.t i d own,σ:=z.σ.set i (some u),s:=s' }:=⟨ξ _,.refl _,fun _ _ e=>.inl e,fun _ m=>.inl m,th',fun b o e _ w _=>(ne fun l=>w (.inr l)).trans e,fun b o e _ w _=>⟨o.slots,(ne fun l=>w (.inr l)).trans e⟩⟩
 refine ⟨⟨⟨I.md,I.fm,I.hd,I.bs,fun b o e=>(ne (nG e)).trans (I.gh b o e),I.rl,I.rn,I.rg,fun n o p h1 h2=>(I.ob n o p h1 h2).mono (ξ _) (.refl _) fun b hb o e=>(ne (nM ⟨p,Ι h2,hb⟩)).trans e,fu,I.ff,by show ŏ s'.gens;rw [gs];exact I.br,os.trans I.os,tk⟩,I.ok,lo,ce,I.fl,by show (z.t.env.set i (some d)).length=(z.σ.set i (some u)).length;rw [ϸ,ϸ];exact I.el,by show (z.σ.set i (some u)).length=_;rw [ϸ];exact I.sl,fun j d' n e=>?_,fun j m=>?_,fun j k b m1 m2 e1 e2=>?_⟩,x0.st.trans S fun b w=>w.elim (fun w=>(x0.ow b w).imp_left .inl) fun w=>.inl (.inr w),fun b ⟨j,m,e⟩=>?_⟩
 ·by_cases q:j=i
  ·subst q
   rw [show (z.t.env.set j (some d))[j]? = some (some d') from e] at gie;cases gie
   cases own with
   | true=>exact ZX κ n
   | false=>exact ⟨u,gi,vl⟩
  ·obtain ⟨w,e1,r⟩:=I.en j d' (fun m=>n (wo q m)) ((gete q).symm.trans e)
   exact ⟨w,(get q).trans e1,r⟩
 ·rcases ow m with ⟨rfl,rfl⟩ | ⟨q,m⟩
  ·obtain ⟨b,o,rfl,_,t,r,f,no⟩:=vl
   exact ⟨d,b,o,gie,gi,t,r.mono (ξ _) (.refl _) fun c hc o e=>(ne (by rcases hc with rfl | rfl <;> exact f.2.2.2)).trans e,f⟩
  ·obtain ⟨d',b,o,h1,h2,h3,r,f⟩:=I.eo j m
   exact ⟨d',b,o,(gete q).trans h1,(get q).trans h2,h3,r.mono (ξ _) (.refl _) fun c hc o e=>(ne (by rcases hc with rfl | rfl <;> exact f.2.2.2)).trans e,f⟩
 ·have new:∀ {k:Nat} {b:Δ},own=true→k∈z.t.ow→(z.σ.set i (some u))[i]? = some (some (.ref b))→z.σ[k]? = some (some (.ref b))→False:=fun {k b} ho mk w1 w2=>by
   subst ho
   obtain ⟨b',o,rfl,_,t,r,f,no⟩:=vl
   rw [gi] at w1;cases w1
   exact no ⟨k,mk,w2⟩
  rcases ow m1 with ⟨h1,ho⟩ | ⟨q1,n1⟩ <;> rcases ow m2 with ⟨h2,ho2⟩ | ⟨q2,n2⟩
  ·exact h1.trans h2.symm
  ·exact (new ho n2 (h1 ▸ e1) ((get q2).symm.trans e2)).elim
  ·exact (new ho2 n1 (h2 ▸ e2) ((get q1).symm.trans e1)).elim
  ·exact I.od j k b n1 n2 ((get q1).symm.trans e1) ((get q2).symm.trans e2)
 ·rcases ow m with ⟨rfl,rfl⟩ | ⟨q,m⟩
  ·obtain ⟨b',o,rfl,n,_⟩:=vl
   rw [show (z.σ.set j (some (.ref b')))[j]? = some (some (.ref b)) from e] at gi;cases gi
   exact .inr n
  ·exact x0.ow b ⟨j,m,(get q).symm.trans e⟩
theorem Rep.cne (I:Rep X z):∀ x c,X.env.cells.lookup x=some c→c≠X.env.locals:=fun x c e q=>by
 obtain ⟨v,o,ho,hd⟩:=I.ce x c e
 obtain ⟨m,⟨o',es,ep,ho',hd',_⟩,_⟩:=I.lo
 rw [q,ho'] at ho;cases ho;rw [hd'] at hd;cases hd
theorem bG {i:Nat} {x:θ} {own:Bool} {d:D} {u:η} {Q:Unit→τ→Prop} {E:η→τ→Prop} (x0:Go X z0 z) (I:Rep X z) (hN:X.N.Nodup) (hi:X.N[i]? = some x) (hx:Loc X.env.scope x) (vl:Vl X z0 z own d u)
 (h:∀ s' a,è a z.s.heap s'.heap→Lc X a∧(X.env.scope.names.lookup x=some .local→a=X.env.locals)→Rep X { z with t:=stV z.t i d own,σ:=z.σ.set i (some u),s:=s' }→Go X z0 { z with t:=stV z.t i d own,σ:=z.σ.set i (some u),s:=s' }→Q () s'):Ε X.M X.A (HC X.env x u) Q E z.s:=by
 obtain ⟨m,hn,hl⟩:=id I.lo
 have hcls:(X.env.scope.kind == .class || (X.env.scope.kind == .module && X.env.locals != X.env.globals))=false:=by rw [I.ok.kd];rfl
 have il:i<X.N.length:=(ν.mp hi).1
 have hiσ:i<z.σ.length:=by rw [I.sl];exact il
 rcases hx with hk | hk
 ·refine Gn hk hn (fun h' hn' hs=>?_) hcls
  have ⟨oL,es,ep,hoL,hdL,_⟩:=hn'
  have lo:∀ (j:Nat) (y:θ) (w:η),X.N[j]? = some y→(z.σ.set i (some u))[j]? = some (some w)→Vis X.env.scope y→mc X.env h' (fun y=>if y=x then some u else m y) y w:=fun j y w e1 e2 e3=>by
   by_cases hj:j=i
   ·subst hj
    rw [hi] at e1;cases e1
    rw [Ϟ hiσ] at e2;cases e2
    exact .inl ⟨hk,by simp⟩
   ·rw [Φ (ϳ hj)] at e2
    rcases hl j y w e1 e2 e3 with ⟨k,e⟩ | ⟨k,c,e,q⟩
    ·have:y≠x:=fun e=>hj (gY hN e1 (e ▸ hi))
     exact .inl ⟨k,by simp [this,e]⟩
    ·exact .inr ⟨k,c,e,q.sameBut hs (I.cne y c e)⟩
  obtain ⟨I',g'⟩:=Rep.put (s':={ z.s with heap:=h',toks:=z.s.toks+1 }) x0 I hs (.inl rfl) ⟨oL,hoL,fun vs e=>by rw [hdL] at e;cases e⟩ rfl rfl vl il ⟨_,hn',lo⟩ fun y c e=>let ⟨v,q⟩:=I.ce y c e;⟨v,q.sameBut hs (I.cne y c e)⟩
  exact h _ _ hs ⟨.inl rfl,fun _=>rfl⟩ I' g'
 ·obtain ⟨c,hc⟩:=I.ok.ch x (.inl hk)
  obtain ⟨w',q0⟩:=I.ce x c hc
  refine wpAny_storeName_cell I.ok.kd hk hc q0 (fun h' hc' hs=>?_)
  have ⟨oc,hoc,hdc⟩:=hc'
  have lo:∀ (j:Nat) (y:θ) (w:η),X.N[j]? = some y→(z.σ.set i (some u))[j]? = some (some w)→Vis X.env.scope y→mc X.env h' m y w:=fun j y w e1 e2 e3=>by
   by_cases hj:j=i
   ·subst hj
    rw [hi] at e1;cases e1
    rw [Ϟ hiσ] at e2;cases e2
    exact .inr ⟨.inl hk,c,hc,hc'⟩
   ·rw [Φ (ϳ hj)] at e2
    rcases hl j y w e1 e2 e3 with q | ⟨k,c',e,q⟩
    ·exact .inl q
    ·refine .inr ⟨k,c',e,q.sameBut hs ?_⟩
     rintro rfl
     exact hj (gY hN e1 (I.ok.ci _ _ _ e hc ▸ hi))
  have ce:∀ y c',X.env.cells.lookup y=some c'→∃ v,h'.IsCell c' v:=fun y c' e=>by
   by_cases hcc:c'=c
   ·subst hcc;exact ⟨_,hc'⟩
   ·obtain ⟨w2,q2⟩:=I.ce y c' e
    exact ⟨w2,q2.sameBut hs hcc⟩
  obtain ⟨I',g'⟩:=Rep.put (s':={ z.s with heap:=h' }) x0 I hs (.inr ⟨x,hc⟩) ⟨oc,hoc,fun vs e=>by rw [hdc] at e;cases e⟩ rfl rfl vl il ⟨m,hn.sameBut hs (ϳ (I.cne x c hc)),lo⟩ ce
  exact h _ _ hs ⟨.inr ⟨x,hc⟩,fun e=>by rw [show X.env.scope.names.lookup x=some .cell from hk] at e;cases e⟩ I' g'
theorem fG (hN:X.N.Nodup) (hi:X.N[i]? = some x) (hx:Loc X.env.scope x) (he:LE X e c) (hf:ak c=true→LF X e c) (hs:ķ e (some (.Name x pos')) pos.line X.env=pure false):LS X (.Assign [.Name x pos'] e pos) (.set i c):=fun z I nb=>by
 refine Ea ?_ hs
 cases f:ak c with
 | false=>
   refine (he false).gos .refl I rfl nb fun z1 d u y x0 I1 r e1=>bG (own:=false) x0 I1 hN hi hx r.rd fun s' a _ _ I' g'=>nxt (z1:={ z1 with t:=stV z1.t i d false,σ:=z1.σ.set i (some u),s:=s' }) g' I' ?_
   rw [e1];unfold ie;rw [f];rfl
 | true=>
   have nb1:X.ev false c z.t≠.bad:=fun q=>nb (show Out.go (X.ev false c z.t) _=_ by rw [q];rfl)
   refine Η (hf f z I nb1) (fun u s' ⟨z1,d,q1,q2,y,I1,fv⟩=>?_) fun u s' h=>.of .refl h
   subst q1
   refine bG (own:=true) y.go I1 hN hi hx fv fun s' a _ _ I' g'=>nxt (z1:={ z1 with t:=stV z1.t i d true,σ:=z1.σ.set i (some u),s:=s' }) g' I' ?_
   show Out.go (X.ev false c z.t) _=_
   rw [q2]
   show ah.nx (ie z1.t i d (ak c))=_
   unfold ie
   have ld:sA d=true:=by
    obtain ⟨_,_,_,_,t,_⟩:=fv
    cases d <;> first | rfl | cases t
   rw [f,ld];rfl
end
def aE:Ξ→Bool
 | .Starred ..=>false
 | .Set ..=>false
 | .Slice ..=>false
 | _=>true
section
variable {X:Cx} {z z' z0 z1:Z}
theorem zw {o:O} {hp:Hp} (q:ObR W ρ G hp (a,b) o) (e:∃ d:D,toO d=some o):∃ ob,hp a=some ob∧∀ vs,ob.data≠.fields vs:=by
 obtain ⟨d,e⟩:=e
 cases d <;> cases e
 ·obtain ⟨o,vs,_,q,⟨⟨n,rfl⟩,_⟩,_⟩:=q;exact ⟨_,q,nofun⟩
 ·obtain ⟨o,vs,_,_,q,⟨es,ep,_,w,_⟩,_⟩:=q;exact ⟨_,q,fun v z=>by rw [w] at z;cases z⟩
theorem Rep.ownw {s':τ} {i:Nat} {d':D} {o':O} (I:Rep X z) (m:i∈z.t.ow) (ea:z.σ[i]? = some (some (.ref a))) (t:toO d'=some o') (sb:∀ b,b≠a→s'.heap.get? b=z.h b) (r:ObR X.W z.ρ z.G s'.heap.get? (a,a) o') (os:s'.os=z.s.os) (gs:s'.gens=z.s.gens) (tk:X.tz≤s'.toks:=by first | assumption | exact HR.tk (by assumption) | exact HR.tk1 (by assumption) | exact (Rep.toHR (by assumption)).tk | exact (Rep.toHR (by assumption)).tk1 | exact HR.tk2 (Rep.toHR (by assumption)) | exact HR.tk3 (Rep.toHR (by assumption))) :
 Rep X { z with t:=⟨z.t.env.set i (some d'),z.t.ow,z.t.st⟩,s:=s' }∧Go X z { z with t:=⟨z.t.env.set i (some d'),z.t.ow,z.t.st⟩,s:=s' }:=by
 obtain ⟨f,oa,ha⟩:=I.oth ⟨i,m,ea⟩
 have nM:∀ {b},Mu z.ρ b→b≠a:=fun h e=>f.2.1 (e ▸ h)
 have nG:∀ {b o},z.G b=some o→b≠a:=fun h e=>by rw [e,f.1] at h;cases h
 have nL:∀ {b},Lc X b→b≠a:=fun h e=>f.2.2.2 (e ▸ h)
 have nf:∀ {b},b∈frs X.fr→b≠a:=fun h e=>f.2.2.1 (e ▸ h)
 obtain ⟨on,hn,_⟩:=zw r ⟨d',t⟩
 have hie:i<z.t.env.length:=by obtain ⟨d,_,_,e,_⟩:=I.eo i m;exact (ν.mp e).1
 have ck:∀ x c v,X.env.cells.lookup x=some c→z.s.heap.IsCell c v→s'.heap.IsCell c v:=fun x c v e ⟨o,q,d⟩=>⟨o,(sb c (nL (.inr ⟨x,e⟩))).trans q,d⟩
 have fu:s'.heap.FunFrames X.base X.fr:=by
  have:∀ {l:List Ų},(∀ b∈frs l,b≠a)→z.s.heap.FunFrames X.base l→s'.heap.FunFrames X.base l:=fun {l}=>by
   induction l with
   | nil=>exact fun _ _=>trivial
   | cons v r ih=>
     intro hs ⟨k,⟨L,o,e1,e2,e3,e4⟩,q⟩
     have hm:L∈frs (v :: r):=by unfold frs;rw [ϥ,e1];exact κ
     exact ⟨k,⟨L,o,e1,e2,(sb L (hs L hm)).trans e3,e4⟩,ih (fun b hb=>hs b (by unfold frs;rw [ϥ,e1];exact υ _ hb)) q⟩
  exact this (fun b h=>nf h) I.fu
 refine ⟨⟨⟨I.md,I.fm,I.hd,I.bs,fun b o e=>(sb b (nG e)).trans (I.gh b o e),I.rl,I.rn,I.rg,fun n o p h1 h2=>(I.ob n o p h1 h2).mono (ξ _) (.refl _) fun b hb o e=>(sb b (nM ⟨p,Ι h2,hb⟩)).trans e,fu,I.ff,by show ŏ s'.gens;rw [gs];exact I.br,os.trans I.os,tk⟩,I.ok,?_,fun x c e=>let ⟨v,q⟩:=I.ce x c e;⟨v,ck x c v e q⟩,I.fl,by show (z.t.env.set i (some d')).length=_;rw [ϸ];exact I.el,I.sl,fun j d n e=>?_,fun j mj=>?_,I.od⟩,⟨ξ _,.refl _,fun _ _ e=>.inl e,fun _ m=>.inl m,fun b o e=>?_,fun b o e _ w _=>(sb b fun q=>w (.inl (q ▸ ⟨i,m,ea⟩))).trans e,fun b o e _ w _=>⟨o.slots,(sb b fun q=>w (.inl (q ▸ ⟨i,m,ea⟩))).trans e⟩⟩,fun b ⟨j,mj,e⟩=>.inl ⟨j,mj,e⟩⟩
 ·obtain ⟨mm,⟨oL,es,ep,q,r⟩,hl⟩:=I.lo
  exact ⟨mm,⟨oL,es,ep,(sb _ (nL (.inl rfl))).trans q,r⟩,fun j x w e1 e2 e3=>dB (fun c v e q=>ck x c v e q) (hl j x w e1 e2 e3)⟩
 ·have q:j≠i:=fun q=>n (q ▸ m)
  exact I.en j d n ((Φ (ϳ q)).symm.trans e)
 ·by_cases q:j=i
  ·subst q;exact ⟨d',a,o',Ϟ hie,ea,t,r,f⟩
  ·obtain ⟨d,b,o,h1,h2,h3,r,f⟩:=I.eo j mj
   have nb:b≠a:=fun w=>q (I.od j i b mj m h2 (w ▸ ea))
   exact ⟨d,b,o,(Φ (ϳ q)).trans h1,h2,h3,r.mono (ξ _) (.refl _) fun c hc o e=>(sb c (by rcases hc with rfl | rfl <;> exact nb)).trans e,f⟩
 ·by_cases q:b=a
  ·subst q;exact ⟨on,hn⟩
  ·exact ⟨o,(sb b q).trans e⟩
theorem Rep.stw {s':τ} {n:Nat} {o':O} {p:Δ×Δ} {e:Δ} (I:Rep X z) (ep:z.ρ[n]? = some p) (he:e=p.1∨e=p.2) (sb:∀ b,b≠e→s'.heap.get? b=z.h b) (r:ObR X.W z.ρ z.G s'.heap.get? p o') (os:s'.os=z.s.os) (gs:s'.gens=z.s.gens) (tk:X.tz≤s'.toks:=by first | assumption | exact HR.tk (by assumption) | exact HR.tk1 (by assumption) | exact (Rep.toHR (by assumption)).tk | exact (Rep.toHR (by assumption)).tk1 | exact HR.tk2 (Rep.toHR (by assumption)) | exact HR.tk3 (Rep.toHR (by assumption))) :
 Rep X { z with t:=⟨z.t.env,z.t.ow,z.t.st.set n o'⟩,s:=s' }∧Go X z { z with t:=⟨z.t.env,z.t.ow,z.t.st.set n o'⟩,s:=s' }:=by
 have mu:Mu z.ρ e:=⟨p,Ι ep,he⟩
 have nG:∀ {b o},z.G b=some o→b≠e:=fun h q=>by rw [q,I.rg e mu] at h;cases h
 have nL:∀ {b},Lc X b→b≠e:=fun h q=>(I.fl _ h).2 (q ▸ mu)
 have nf:∀ {b},b∈frs X.fr→b≠e:=fun h q=>(I.ff _ h).2 (q ▸ mu)
 have nO:∀ {b},Own z b→b≠e:=fun h q=>(I.oth h).1.2.1 (q ▸ mu)
 have ck:∀ x c v,X.env.cells.lookup x=some c→z.s.heap.IsCell c v→s'.heap.IsCell c v:=fun x c v e ⟨o,q,d⟩=>⟨o,(sb c (nL (.inr ⟨x,e⟩))).trans q,d⟩
 have fu:s'.heap.FunFrames X.base X.fr:=by
  have:∀ {l:List Ų},(∀ b∈frs l,b≠e)→z.s.heap.FunFrames X.base l→s'.heap.FunFrames X.base l:=fun {l}=>by
   induction l with
   | nil=>exact fun _ _=>trivial
   | cons v r ih=>
     intro hs ⟨k,⟨L,o,e1,e2,e3,e4⟩,q⟩
     have hm:L∈frs (v :: r):=by unfold frs;rw [ϥ,e1];exact κ
     exact ⟨k,⟨L,o,e1,e2,(sb L (hs L hm)).trans e3,e4⟩,ih (fun b hb=>hs b (by unfold frs;rw [ϥ,e1];exact υ _ hb)) q⟩
  exact this (fun b h=>nf h) I.fu
 obtain ⟨⟨o1,h1⟩,⟨o2,h2⟩⟩:=r.th
 have hn:n<z.t.st.length:=by rw [← I.rl];exact (ν.mp ep).1
 refine ⟨⟨⟨I.md,I.fm,I.hd,I.bs,fun b o w=>(sb b (nG w)).trans (I.gh b o w),by show _=(z.t.st.set n o').length;rw [ϸ];exact I.rl,I.rn,I.rg,fun k o q h1 h2=>?_,fu,I.ff,by show ŏ s'.gens;rw [gs];exact I.br,os.trans I.os,tk⟩,I.ok,?_,fun x c w=>let ⟨v,q⟩:=I.ce x c w;⟨v,ck x c v w q⟩,I.fl,I.el,I.sl,I.en,fun j mj=>?_,I.od⟩,⟨ξ _,.refl _,fun _ _ w=>.inl w,fun _ m=>.inl m,fun b o w=>?_,fun b o w q _ _=>(sb b fun z=>q (z ▸ mu)).trans w,fun b o w q _ _=>⟨o.slots,(sb b fun z=>q (z ▸ mu)).trans w⟩⟩,fun b w=>.inl w⟩
 ·by_cases c:k=n
  ·subst c
   have h1:(z.t.st.set k o')[k]? = some o:=h1
   rw [Ϟ hn] at h1;cases h1
   rw [show z.ρ[k]? = some q from h2] at ep;cases ep
   exact r
  ·exact (I.ob k o q ((Φ (ϳ c)).symm.trans h1) h2).mono (ξ _) (.refl _) fun b hb o w=>(sb b fun w'=>c (I.rn k n q p b h2 ep hb (w' ▸ he))).trans w
 ·obtain ⟨mm,⟨oL,es,ep,q,r⟩,hl⟩:=I.lo
  exact ⟨mm,⟨oL,es,ep,(sb _ (nL (.inl rfl))).trans q,r⟩,fun j x w e1 e2 e3=>dB (fun c v e q=>ck x c v e q) (hl j x w e1 e2 e3)⟩
 ·obtain ⟨d,b,o,h1,h2,h3,r,f⟩:=I.eo j mj
  exact ⟨d,b,o,h1,h2,h3,r.mono (ξ _) (.refl _) fun c hc o w=>(sb c (by rcases hc with rfl | rfl <;> exact nO ⟨j,mj,h2⟩)).trans w,f⟩
 ·by_cases q:b=e
  ·rcases he with w | w
   ·exact ⟨o1,by rw [q,w];exact h1⟩
   ·exact ⟨o2,by rw [q,w];exact h2⟩
  ·exact ⟨o,(sb b q).trans w⟩
structure M1 (X:Cx) (o:Ξ) (m:θ) (apos:ϧ) (e:Ξ) (cpos:ϧ):Prop where
 base:Æ o m X.env (eval o X.env)=eval o X.env
 few:((Ü cpos (Ο [e] X.env)).all (fun x=>!x.1) && (Ŷ cpos (ġ [] X.env)).all (fun x=>x.1.isSome) && decide (([e]:List Ξ).length+([]:List Eo).length+(if ([]:List Eo).isEmpty then 0 else 1)<30))=true
 line:(apos.endLine == cpos.line)=true
 trees:Ü cpos (Ο [e] X.env) = [(false,eval e X.env)]
theorem pk {i:Nat} (I:Rep X z) (m:i∈z.t.ow) (e:z.t.env[i]? = some (some (.lst l))):∃ a vs n,z.σ[i]? = some (some (.ref a))∧z.h a=some { cls:=.type "list",data:=.seq vs.toArray n }∧RDs X.W z.ρ z.G l vs:=by
 obtain ⟨d,a,o,h1,h2,h3,r,f⟩:=I.eo i m
 rw [e] at h1;cases h1;cases h3
 obtain ⟨o,vs,_,q,⟨⟨n,rfl⟩,_⟩,r⟩:=r
 exact ⟨a,vs,n,h2,q,r⟩
theorem dN {z:Z} {vs ws:List η} {f:Array η→Array η} (e:z.h a=some { cls:=.type "list",data:=.seq vs.toArray n }) (hf:f vs.toArray=ws.toArray) (hz:ws.length≤ϙ):(∃ o,(z.s.heap.update a (à f)).get? a=some o∧LsO o ws)∧∀ b,b≠a→(z.s.heap.update a (à f)).get? b=z.h b:=
 ⟨⟨_,È _ e rfl,⟨_,by simp only [à,hf];rfl⟩,hz⟩,fun b n=>ϱ _ _ (ϳ n)⟩
theorem zc {i:Nat} {x:θ} (hN:X.N[i]? = some x) (hv:Vis X.env.scope x) (hd:(x == ("__debug__":θ))=false) (hcd:(x == ("__classdict__":θ))=false) (he:LE X e c) (m:M1 X (.Name x p) "append" apos e cpos):LS X (.Expr (.Call (.Attribute (.Name x p) "append" apos) [e] [] cpos) pos) (.app i c):=fun z I nb=>by
 have e0:X.ex (.app i c) z.t=(if z.t.ow.contains i && isLst z.t.env[i]? then (X.ev false c z.t).go fun d s=>if s.ow.contains i then (match s.env[i]? with
  | some (some (.lst l))=>if l.length<100000 then .nx ⟨s.env.set i (some (.lst (l ++ [d]))),s.ow,s.st⟩ else .bad
  | _=>.bad) else .bad else .bad):=rfl
 by_cases c0:(z.t.ow.contains i && isLst z.t.env[i]?)=true
 ·rw [ZZ c0] at e0
  rw [Θ] at c0
  have mi:i∈z.t.ow:=by simpa using c0.1
  obtain ⟨l,el⟩:∃ l,z.t.env[i]? = some (some (.lst l)):=by
   have:=c0.2
   unfold isLst at this
   split at this
   ·rename_i l q;exact ⟨l,q⟩
   ·cases this
  obtain ⟨a,vs,n,es,ha,r⟩:=pk I mi el
  refine Ŵ (Ç m.base m.few m.line ß Ý Ek (cU I hN hv es ⟨⟨_,ha,rfl⟩,fun b q=>(by cases q;exact ⟨_,ha,rfl⟩),?_⟩ hd hcd)) I.quiet rfl
  rw [m.trees]
  refine Ϩ rfl (ϻ (Τ ((he false).gos .refl I e0 nb fun z1 d u y x1 I1 r1 e1=>ϋ ?_)))
  by_cases c1:z1.t.ow.contains i=true
  ·rw [ZZ c1] at e1
   have m1:i∈z1.t.ow:=by simpa using c1
   have el1:z1.t.env[i]? = some (some (.lst l)):=by rw [y.en];exact el
   rw [el1] at e1
   dsimp only at e1
   obtain ⟨a',vs,n,es',ha,r⟩:=pk I1 m1 el1
   rw [y.sg,es] at es';cases es'
   by_cases c2:l.length<100000
   ·rw [ZZ c2] at e1
    have hz:vs.length<100000:=by rw [← r.len];exact c2
    refine Ĝ Ý ⟨_,ha,rfl⟩ ģ (ğ _ _) (ŷ a vs.toArray n u (by rw [Μ];exact ď (Ϻ hz (big (ύ _))))) ⟨ha,?_⟩
    obtain ⟨⟨o1,u1,u3⟩,u2⟩:=dN (f:=(·.push u)) (ws:=vs ++ [u]) ha (by simp) (by rw [ζ];exact big (by simp;omega))
    obtain ⟨I2,g2⟩:=I1.ownw (s':={ z1.s with heap:=z1.s.heap.update a (à (·.push u)) }) (d':=.lst (l ++ [d])) m1 (by rw [y.sg];exact es) rfl u2 ⟨o1,vs ++ [u],rfl,u1,u3,r.app (.cons r1.rd rfl)⟩ rfl rfl
    exact nxt (x1.trans g2) I2 e1
   ·rw [ZY c2] at e1;exact ZX e1 nb
  ·rw [ZY c1] at e1;exact ZX e1 nb
 ·rw [ZY c0] at e0;exact ZX e0 nb
theorem pA:∀ {ks} {ds} {vs} {k} {d} {v},ks.length=ds.length→RDs W ρ G ds vs→RD W ρ G d v→∃ us,RDs W ρ G (lA ks ds k d) us∧(ks.zip vs).map (fun kv=>if kv.1=k then (kv.1,v) else kv)=ks.zip us
 | [],[],vs,k,d,v,_,h,_=>⟨vs,h,rfl⟩
 | [],_ :: _,_,_,_,_,l,_,_=>by cases l
 | _ :: _,[],_,_,_,_,l,_,_=>by cases l
 | q :: ks,e :: ds,vs,k,d,v,l,⟨u,r,ev,h1,h2⟩,rd=>by
   subst ev
   obtain ⟨us,h3,h4⟩:=pA (k:=k) (Ĺ l) h2 rd
   by_cases c:q=k
   ·refine ⟨v :: us,⟨v,us,rfl,by rw [ZZ c];exact rd,h3⟩,?_⟩
    show (if q=k then (q,v) else (q,u)) :: (ks.zip r).map _=(q,v) :: ks.zip us
    rw [ZZ c,h4]
   ·refine ⟨u :: us,⟨u,us,rfl,by rw [ZY c];exact h1,h3⟩,?_⟩
    show (if q=k then (q,v) else (q,u)) :: (ks.zip r).map _=(q,u) :: ks.zip us
    rw [ZY c,h4]
theorem gx:∀ {ks} {ds} {k} {d},(lA ks ds k d).length=ds.length
 | [],_,_,_=>by unfold lA;rfl
 | _ :: _,[],_,_=>by unfold lA;rfl
 | _ :: ks,_ :: ds,k,d=>by show (lA ks ds k d).length+1=ds.length+1;rw [gx]
theorem iI:∀ {ks:List Key} {vs:List η} {k:Key},ks.length=vs.length→((ks.zip vs).any fun kv=>decide (kv.1=k))=ks.any fun q=>decide (q=k)
 | [],_,_,_=>rfl
 | _ :: _,[],_,l=>by cases l
 | q :: ks,v :: vs,k,l=>by
   show (decide (q=k) || (ks.zip vs).any _)=(decide (q=k) || ks.any _)
   rw [iI (Ĺ l)]
theorem qH (l:ks.length=ds.length) (r:RDs W ρ G ds vs) (rd:RD W ρ G d v):∃ us,stored (ks.zip vs) k v=(dk ks ds k d).1.zip us∧(dk ks ds k d).1.length=(dk ks ds k d).2.length∧RDs W ρ G (dk ks ds k d).2 us∧(dk ks ds k d).1.length≤ks.length+1:=by
 have lv:ks.length=vs.length:=l.trans r.len
 unfold stored dk
 rw [iI lv]
 split
 ·obtain ⟨us,h1,h2⟩:=pA (k:=k) l r rd
  exact ⟨us,h2,by show ks.length=(lA ks ds k d).length;rw [gx,l],h1,Ě _⟩
 ·exact ⟨vs ++ [v],by rw [List.zip_append lv];rfl,by simp [l],r.app (.cons rd rfl),by simp⟩
theorem zK {A:ϗ} {E:η→τ→Prop} {Q:Unit→τ→Prop} {x y k d:D} {o:O} {kv v:η} (t:toO x=some o) (r:ObR X.W z.ρ z.G z.h (a,b) o) (rk:CR X.W z k kv) (rd:RD X.W z.ρ z.G d v) (e:lj x k d=some y)
 (h:∀ s' o',toO y=some o'→(∀ b,b≠a→s'.heap.get? b=z.h b)→ObR X.W z.ρ z.G s'.heap.get? (a,b) o'→s'.os=z.s.os→s'.gens=z.s.gens→Q () s'):Ε X.M A (F2 (.ref a) kv v) Q E z.s:=by
 cases x <;> cases t
 ·rename_i l
  obtain ⟨o,vs,hb,ho,⟨⟨n,rfl⟩,hz⟩,r⟩:=r
  cases k with
  | int i=>
    obtain ⟨tk,rfl⟩:=(rk:RD X.W z.ρ z.G (.int i) kv)
    obtain ⟨l',e1,rfl⟩:=Α.mp (show (uh l i d).map D.lst=some y from e)
    obtain ⟨j,e2,rfl⟩:=Α.mp (show (ixN l.length i).map (fun j=>l.set j d)=some l' from e1)
    obtain ⟨h1,h2,h3,h4⟩:=oR e2
    have hl:=r.len
    have hn:=gR
    obtain ⟨⟨o1,u1,u3⟩,u2⟩:=dN (z:=z) (f:=(·.setIfInBounds j v)) (ws:=vs.set j v) ho (by simp) (by rw [ϸ];exact hz)
    have q:Q () { z.s with heap:=z.s.heap.update a (à (·.setIfInBounds j v)) }:=h _ _ rfl u2 ⟨o1,_,hb,u1,u3,r.set j rd⟩ rfl rfl
    by_cases h0:0≤i
    ·have hk:i.toNat=j:=by rw [GJ h0 h4] at h1;exact ϝ h1
     exact PySem.W.ki_setAt ho h0 (by omega) (by rw [Μ,← hl];exact h4) (by rw [hk];exact q)
    ·have hk:(i+(vs.toArray.size:Int)).toNat=j:=by
      rw [G5 (by omega) h3] at h1
      rw [Μ,← hl]
      exact ϝ h1
     exact PySem.W.ki_setBack ho (by omega) (by rw [Μ,← hl];exact h3) (by omega) (by rw [hk];exact q)
  | _=>cases e
 ·rename_i ks ds
  obtain ⟨o,vs,hb,hs,ho,dc,hl,r⟩:=r
  obtain ⟨kk,e1,e2⟩:=ϊ.mp (show ((cb k).bind fun k=>if ks.length<100000 then some (D.dic (dk ks ds k d).1 (dk ks ds k d).2) else none)=some y from e)
  by_cases c:ks.length<100000
  ·rw [ZZ c] at e2
   cases e2
   obtain ⟨us,h3,h4,h5,h6⟩:=qH (k:=kk) hl r rd
   refine wpAny_setItem_pairs (hsz:=by obtain ⟨_,_,_,_,_,_,_,w⟩:=dc;exact w) (mP e1 rk) (dc.of ho) fun h' dd hs'=>?_
   rw [h3] at dd
   obtain ⟨o1,es,ep,w1,w2,w3,w4,w5,w6⟩:=dd
   exact h _ _ rfl hs'.2 ⟨o1,us,hb,hs,w1,⟨es,ep,w2,w3,w4,w5,w6,by rw [Ä];exact big (by omega)⟩,h4,h5⟩ rfl rfl
  ·rw [ZY c] at e2;cases e2
theorem pw {A:ϗ} {E:η→τ→Prop} {Q:Unit→τ→Prop} {x y k d:D} {o:O} {kv v:η} (tk:X.tz≤z.s.toks) (t:toO x=some o) (r:ObR X.W z.ρ z.G z.h (a,b) o) (rk:CR X.W z k kv) (rd:RD X.W z.ρ z.G d v) (e:lj x k d=some y)
 (h:∀ s' o',toO y=some o'→(∀ b,b≠a→s'.heap.get? b=z.h b)→ObR X.W z.ρ z.G s'.heap.get? (a,b) o'→s'.os=z.s.os→s'.gens=z.s.gens→X.tz≤s'.toks→Q () s'):Ε X.M A (F2 (.ref a) kv v) Q E z.s:=
 Η (ό tk (zK (E:=E) (Q:=fun _ s'=>∃ o',toO y=some o'∧(∀ b,b≠a→s'.heap.get? b=z.h b)∧ObR X.W z.ρ z.G s'.heap.get? (a,b) o'∧s'.os=z.s.os∧s'.gens=z.s.gens) t r rk rd e fun s' o' a1 a2 a3 a4 a5=>⟨o',a1,a2,a3,a4,a5⟩)) (fun _ s' ⟨tk,o',a1,a2,a3,a4,a5⟩=>h s' o' a1 a2 a3 a4 a5 tk) fun _ _ w=>w.2
theorem zJ {o o':O} (e:fL o k d=some o'):∃ x y,toO x=some o∧lj x k d=some y∧toO y=some o':=by
 cases o with
 | lst l=>
   cases k with
   | int i=>obtain ⟨l',e1,rfl⟩:=Α.mp (show (uh l i d).map O.lst=some o' from e);exact ⟨.lst l,.lst l',rfl,by show (uh l i d).map D.lst=_;rw [e1];rfl,rfl⟩
   | _=>cases e
 | dic ks ds=>
   obtain ⟨kk,e1,e2⟩:=ϊ.mp (show ((cb k).bind fun k=>if ks.length<100000 then some (O.dic (dk ks ds k d).1 (dk ks ds k d).2) else none)=some o' from e)
   by_cases c:ks.length<100000
   ·rw [ZZ c] at e2;cases e2
    exact ⟨.dic ks ds,.dic (dk ks ds kk d).1 (dk ks ds kk d).2,rfl,by show ((cb k).bind fun k=>if ks.length<100000 then some (D.dic (dk ks ds k d).1 (dk ks ds k d).2) else none)=_;rw [e1];exact ZZ c,rfl⟩
   ·rw [ZY c] at e2;cases e2
 | ins _ _=>cases e
theorem pX (h:aE i=true):∀ v,assign (o.Subscript i pos) env v=(do
 let ov ← holding [v] (eval o env)
 let iv ← holding [v,ov] (eval i env)
 Eb pos
 holding [v,ov,iv] (F2 ov iv v)
 release [v,ov,iv] []):=by
 cases i <;> first | (intro v;rfl) | cases h
theorem tR :FA [.Subscript o i p] e l env=pure false:=by
 cases e <;> rfl
theorem ny :FC [.Subscript o i p] e env=pure none:=by
 cases e <;> rfl
theorem og {K:η→τ→Prop} {E:η→τ→Prop} {Q:Flow→τ→Prop} {s:τ} (hn:aE eb=true) (h:Ε X.M X.A (eval ee X.env) K E s) (k:∀ v s',K v s'→Ε X.M X.A (eval eo X.env) (fun ov s2=>Ε X.M X.A (eval eb X.env) (fun iv s3=>Ε X.M X.A (F2 ov iv v) (fun _ s4=>Q .next s4) E s3) E s2) E s'):Ε X.M X.A (exec (.Assign [.Subscript eo eb p2] ee pos) X.env) Q E s:=by
 refine GV (thn h fun v s1 q=>?_) tR ny
 show Ε _ _ (assign (eo.Subscript eb p2) X.env v) _ _ _
 rw [pX hn]
 exact ε (ώ (thn (k v s1 q) fun ov s2 q=>ε (ώ (thn q fun iv s3 q=>ε (õ (ε (ώ (thn q fun _ s4 q=>wpAny_release q))))))))
theorem jM {n:Nat} {kv v:η} {p:Δ×Δ} {E:η→τ→Prop} {o:ah} (x:Go X z0 z) (I:Rep X z) (ep:z.ρ[n]? = some p) (rk:CR X.W z k kv) (rd:RD X.W z.ρ z.G d v) (e:o=(match (z.t.st[n]?).bind fun o=>fL o k d with | some o=>.nx ⟨z.t.env,z.t.ow,z.t.st.set n o⟩ | none=>.bad)) (nb:o≠.bad):Ε X.M X.A (F2 (.ref p.1) kv v) (fun _ s4=>Ps X z0 o .next s4) E z.s:=by
 cases q:(z.t.st[n]?).bind fun o=>fL o k d with
 | none=>rw [q] at e;exact ZX e nb
 | some o'=>
   rw [q] at e
   obtain ⟨ob,q1,q2⟩:=ϊ.mp q
   obtain ⟨x1,y1,t1,t2,t3⟩:=zJ q2
   have r:=I.ob n ob p q1 ep
   have hp:p=(p.1,p.2):=rfl
   refine pw I.tk t1 (hp ▸ r) rk rd t2 fun s' o1 t4 sb r' os gs tk=>?_
   rw [t3] at t4;cases t4
   obtain ⟨I2,g2⟩:=I.stw ep (.inl rfl) sb r' os gs tk
   exact nxt (z1:={ z with t:=⟨z.t.env,z.t.ow,z.t.st.set n o'⟩,s:=s' }) (x.trans g2) I2 e
theorem vW {i:Nat} {x:θ} (hN:X.N[i]? = some x) (hv:Vis X.env.scope x) (hd:(x == ("__debug__":θ))=false) (hcd:(x == ("__classdict__":θ))=false) (hn:aE eb=true) (hb:LE X eb b) (he:LE X ee e):LS X (.Assign [.Subscript (.Name x p) eb p2] ee pos) (.put (.v i) b e):=fun z I nb=>by
 refine og hn ((he false).gos (K:=fun v s'=>∃ z1 d,z1.s=s'∧Go X z z1∧Rep X z1∧RD X.W z1.ρ z1.G d v∧X.ex (.put (.v i) b e) z.t=(match z1.t.env[i]? with
  | some (some x)=>(X.ev true b z1.t).go fun k s=>(match x with
    | .ref n=>(match (s.st[n]?).bind fun o=>fL o k d with | some o=>.nx ⟨s.env,s.ow,s.st.set n o⟩ | none=>.bad)
    | x=>if s.ow.contains i then (match lj x k d with | some y=>.nx ⟨s.env.set i (some y),s.ow,s.st⟩ | none=>.bad) else .bad)
  | _=>.bad)) .refl I rfl nb fun z1 d u y x1 I1 r1 e1=>⟨z1,d,rfl,x1,I1,r1.rd,e1⟩) fun v s' ⟨z1,d,q,x1,I1,r1,e1⟩=>?_
 subst q
 cases q:z1.t.env[i]? with
 | none=>rw [q] at e1;exact ZX e1 nb
 | some o0=>
   cases o0 with
   | none=>rw [q] at e1;exact ZX e1 nb
   | some x0=>
     rw [q] at e1
     obtain ⟨u,hu,_⟩:=I1.slot q
     refine cU I1 hN hv hu ((hb true).gos x1 I1 e1 nb fun z2 kd kv y2 x2 I2 r2 e2=>?_) hd hcd
     have q2:z2.t.env[i]? = some (some x0):=by rw [y2.en];exact q
     have hu2:z2.σ[i]? = some (some u):=by rw [y2.sg];exact hu
     have own:∀ x1:D,x0=x1→X.ex (.put (.v i) b e) z.t=(if z2.t.ow.contains i then (match lj x1 kd d with | some y=>.nx ⟨z2.t.env.set i (some y),z2.t.ow,z2.t.st⟩ | none=>.bad) else .bad)→Ε X.M X.A (F2 u kv v) (fun _ s4=>Ps X z (X.ex (.put (.v i) b e) z.t) .next s4) (PxS X z (X.ex (.put (.v i) b e) z.t)) z2.s:=fun x1 ex e3=>by
      subst ex
      by_cases c:z2.t.ow.contains i=true
      ·rw [ZZ c] at e3
       have m2:i∈z2.t.ow:=by simpa using c
       obtain ⟨d0,a,o,h1,h2,h3,r,f⟩:=I2.eo i m2
       rw [q2] at h1;cases h1
       rw [hu2] at h2;cases h2
       cases q3:lj x0 kd d with
       | none=>rw [q3] at e3;exact ZX e3 nb
       | some y=>
         rw [q3] at e3
         refine pw I2.tk h3 r (r2.rb.cr0 I2) (r1.st y2.st) q3 fun s' o' t sb r' os gs tk=>?_
         obtain ⟨I3,g3⟩:=I2.ownw (s':=s') m2 hu2 t sb r' os gs tk
         exact nxt (z1:={ z2 with t:=⟨z2.t.env.set i (some y),z2.t.ow,z2.t.st⟩,s:=s' }) (x2.trans g3) I3 e3
      ·rw [ZY c] at e3;exact ZX e3 nb
     cases x0 with
     | ref n=>
       have nm:i ∉ z2.t.ow:=fun m=>by
        obtain ⟨d0,a,o,h1,h2,h3,_⟩:=I2.eo i m
        rw [q2] at h1;cases h1;cases h3
       obtain ⟨u',hu',p,ep,rfl⟩:=I2.en i _ nm q2
       rw [hu2] at hu';cases hu'
       exact jM x2 I2 ep (r2.rb.cr0 I2) (r1.st y2.st) e2 nb
     | _=>exact own _ rfl e2
end
section
variable {X:Cx} {z z' z0 z1:Z} {an:Nat→θ}
theorem Rep.snoc {s':τ} {p:Δ×Δ} {o:O} (I:Rep X z) (g:Gr z.s s') (hp:z.h p.1=none∧z.h p.2=none) (r:ObR X.W (z.ρ ++ [p]) z.G s'.heap.get? p o) (tk:X.tz≤s'.toks:=by first | assumption | exact HR.tk (by assumption) | exact HR.tk1 (by assumption) | exact (Rep.toHR (by assumption)).tk | exact (Rep.toHR (by assumption)).tk1 | exact HR.tk2 (Rep.toHR (by assumption)) | exact HR.tk3 (Rep.toHR (by assumption))):Rep X { z with ρ:=z.ρ ++ [p],t:=⟨z.t.env,z.t.ow,z.t.st ++ [o]⟩,s:=s' }∧Ee X z { z with ρ:=z.ρ ++ [p],t:=⟨z.t.env,z.t.ow,z.t.st ++ [o]⟩,s:=s' }:=by
 obtain ⟨H,S⟩:=HR.snoc (w:=Own z) I.toHR g hp r tk
 have pre:z.ρ <+: z.ρ ++ [p]:=Ì _ _
 have nm:∀ {a},(∃ o,z.h a=some o)→¬ Mu z.ρ a→¬ Mu (z.ρ ++ [p]) a:=fun ⟨o,e⟩ n w=>(d9.mp w).elim n fun w=>by
  rcases w with w | w
  ·rw [w,hp.1] at e;cases e
  ·rw [w,hp.2] at e;cases e
 have sl:∀ b o,z.s.heap.get? b=some o→∃ sl,s'.heap.get? b=some { o with slots:=sl }:=fun b o e=>⟨o.slots,g.k b o e⟩
 refine ⟨⟨H,I.ok,?_,fun x c e=>let ⟨v,q⟩:=I.ce x c e;⟨v,gc sl q⟩,fun a l=>⟨(I.fl a l).1,nm (I.lth l) (I.fl a l).2⟩,I.el,I.sl,fun i d n e=>let ⟨u,q,r⟩:=I.en i d n e;⟨u,q,r.mono pre (.refl _)⟩,fun i m=>?_,I.od⟩,S,rfl,rfl,fun _ h=>h⟩
 ·obtain ⟨m,hn,hl⟩:=I.lo
  exact ⟨m,xE sl hn,fun i x u h1 h2 h3=>dB (fun c v _ q=>gc sl q) (hl i x u h1 h2 h3)⟩
 ·obtain ⟨d,a,o,h1,h2,h3,r,f⟩:=I.eo i m
  exact ⟨d,a,o,h1,h2,h3,r.mono pre (.refl _) fun b _ o e=>g.k b o e,f.1,nm r.th.1 f.2.1,f.2.2⟩
theorem nq (I:HR X z):(z.ρ ++ [p])[z.t.st.length]? = some p:=by rw [Χ (by rw [I.rl];exact ύ _),I.rl,Ď];rfl
theorem pQ {y:η}:∀ {nm:List θ} {vs:List η} {j:Nat},nm.Nodup→nm[j]? = some f→j<vs.length→∀ g,(nm.zip (vs.set j y)).lookup g=if g=f then some y else (nm.zip vs).lookup g
 | [],_,_,_,h,_,_=>by simp at h
 | _ :: _,[],_,_,_,h,_=>by simp at h
 | n :: nm,v :: vs,0,nd,h,_,g=>by
   have e:n=f:=by simpa using h
   subst e
   show (match g == n with | true=>some y | false=>(nm.zip vs).lookup g)=if g=n then some y else (match g == n with | true=>some v | false=>(nm.zip vs).lookup g)
   by_cases c:g=n
   ·rw [ZZ c,beq_iff_eq.mpr c]
   ·rw [ZY c,ZU.mpr c]
 | n :: nm,v :: vs,j+1,nd,h,hl,g=>by
   have h':nm[j]? = some f:=by simpa using h
   have ne:n≠f:=fun z=>by subst z;exact (ϫ.mp nd).1 (Ι h')
   have ih:=pQ (y:=y) (ϫ.mp nd).2 h' (by simpa using hl) g
   show (match g == n with | true=>some v | false=>(nm.zip (vs.set j y)).lookup g)=if g=f then some y else (match g == n with | true=>some v | false=>(nm.zip vs).lookup g)
   by_cases c:g=n
   ·rw [ZY fun w=>ne (c ▸ w),beq_iff_eq.mpr c]
   ·rw [ZU.mpr c];exact ih
theorem l8 {y:η}:∀ {nm:List θ} {vs:List η},nm.Nodup→nm[vs.length]? = some f→∀ g,(nm.zip (vs ++ [y])).lookup g=if g=f then some y else (nm.zip vs).lookup g
 | [],_,_,h,_=>by simp at h
 | n :: nm,[],nd,h,g=>by
   have e:n=f:=by simpa using h
   subst e
   rw [ϛ,Ù,ĩ,ĩ]
   show (match g == n with | true=>some y | false=>none)=if g=n then some y else none
   by_cases c:g=n
   ·rw [ZZ c,beq_iff_eq.mpr c]
   ·rw [ZY c,ZU.mpr c]
 | n :: nm,v :: vs,nd,h,g=>by
   have h':nm[vs.length]? = some f:=by simpa using h
   have ne:n≠f:=fun z=>by subst z;exact (ϫ.mp nd).1 (Ι h')
   have ih:=l8 (y:=y) (ϫ.mp nd).2 h' g
   show (match g == n with | true=>some v | false=>(nm.zip (vs ++ [y])).lookup g)=if g=f then some y else (match g == n with | true=>some v | false=>(nm.zip vs).lookup g)
   by_cases c:g=n
   ·rw [ZY fun w=>ne (c ▸ w),beq_iff_eq.mpr c]
   ·rw [ZU.mpr c];exact ih
theorem wG (h:eZ Γ (.ins c l) f d=some o):∃ k,Γ.cl[c]? = some k∧k.at_.length<1000∧((k.at_.idxOf f<l.length∧o = .ins c (l.set (k.at_.idxOf f) d))∨(k.at_.idxOf f=l.length∧k.at_.idxOf f<k.at_.length∧o = .ins c (l ++ [d]))):=by
 have h:((Γ.cl[c]?).bind fun k=>if k.at_.length<1000 then (if k.at_.idxOf f<l.length then some (O.ins c (l.set (k.at_.idxOf f) d)) else if k.at_.idxOf f=l.length∧k.at_.idxOf f<k.at_.length then some (.ins c (l ++ [d])) else none) else none)=some o:=h
 obtain ⟨k,hk,h⟩:=ϊ.mp h
 refine ⟨k,hk,?_⟩
 by_cases z0:k.at_.length<1000
 ·rw [ZZ z0] at h
  refine ⟨z0,?_⟩
  by_cases z:k.at_.idxOf f<l.length
  ·rw [ZZ z] at h;cases h;exact .inl ⟨z,rfl⟩
  ·rw [ZY z] at h
   by_cases z2:k.at_.idxOf f=l.length∧k.at_.idxOf f<k.at_.length
   ·rw [ZZ z2] at h;cases h;exact .inr ⟨z2.1,z2.2,rfl⟩
   ·rw [ZY z2] at h;cases h
 ·rw [ZY z0] at h;cases h
theorem zU (T:bQ X an) (I:Rep X z) {n f:Nat} {p:Δ×Δ} {d:D} {v:η} {o o':O} {A:ϗ} {Q:Unit→τ→Prop} {E:η→τ→Prop} (ep:z.ρ[n]? = some p) (rd:RD X.W z.ρ z.G d v) (q:z.t.st[n]? = some o) (e:eZ X.Γ o f d=some o')
 (h:∀ s',Rep X { z with t:=⟨z.t.env,z.t.ow,z.t.st.set n o'⟩,s:=s' }→Go X z { z with t:=⟨z.t.env,z.t.ow,z.t.st.set n o'⟩,s:=s' }→Q () s'):Ε X.M A (F3 (.ref p.1) (an f) v) Q E z.s:=by
 have ob:=I.ob n o p q ep
 cases o with
 | ins c l=>
   obtain ⟨k,hk,h1000,alt⟩:=wG e
   obtain ⟨i',vs,w1,w2,w3,w4,w5⟩:=ob
   obtain ⟨i,C⟩:=T c k hk
   rw [C.ci] at w1
   have ii:i=i':=ϝ w1
   subst ii
   have lnm:i.nm.length=k.at_.length:=by rw [C.nm,ο]
   have wz:k.what≠2:=by have:=C.wh;rw [w2] at this;have e:=ϝ this;omega
   have lv:=w5.len
   have hj:k.at_.idxOf f<k.at_.length:=by
    rcases alt with ⟨z,_⟩ | ⟨_,z,_⟩
    ·omega
    ·exact z
   have hn:i.nm[k.at_.idxOf f]? = some (an f):=by rw [C.nm,ϑ,Ζ hj];simp
   have cl:=C.cls wz
   have na:=C.na _ (Ι hn)
   refine wI (ns:=i.nm) I.toHR.kin (InO.objm w4) cl.sa cl.po na.taker cl.hd (fun y hy=>?_) (by rw [lnm];exact Õ (ď h1000) (big (by omega))) fun h' om sb=>?_
   ·cases qq:(i.nm.zip vs).lookup y with
    | none=>exact ZX qq hy
    | some u=>
      obtain ⟨l1,l2,e1,_⟩:=F0.mp qq
      exact (Œ (show (y,u)∈i.nm.zip vs by rw [e1];simp)).1
   ·have done:∀ vs' l',o' = .ins c l'→RDs X.W z.ρ z.G l' vs'→l'.length≤i.nm.length→(∀ g,(i.nm.zip vs').lookup g=if g=an f then some v else (i.nm.zip vs).lookup g)→Q () { z.s with heap:=h',toks:=z.s.toks+2 }:=fun vs' l' eo r hl lk=>by
     subst eo
     obtain ⟨od,es,ep',e1,e2,e3,e4,e5⟩:=om.ns
     obtain ⟨I2,g2⟩:=I.stw (s':={ z.s with heap:=h',toks:=z.s.toks+2 }) (o':=.ins c l') ep (.inr rfl) (fun b hb=>sb.2 b hb) ⟨i,vs',C.ci,w2,hl,⟨om.obj,om.ne,by rw [Ä];omega,od,e1,es,ep',e2,e3,e4,fun nn=>(e5 nn).trans (lk nn).symm⟩,r⟩ rfl rfl
     exact h _ I2 g2
    rcases alt with ⟨z,eo⟩ | ⟨z,_,eo⟩
    ·exact done _ _ eo (w5.set _ rd) (by rw [ϸ];exact w3) (pQ C.nd hn (by omega))
    ·exact done _ _ eo (w5.app (.cons rd rfl)) (by rw [ζ];simp;omega) (l8 C.nd (by rw [← lv,← z];exact hn))
 | _=>cases e
theorem jR (T:bQ X an) (x:Go X z0 z) (I:Rep X z) {n f:Nat} {p:Δ×Δ} {d:D} {v:η} {A:ϗ} {E:η→τ→Prop} {o:ah} (ep:z.ρ[n]? = some p) (rd:RD X.W z.ρ z.G d v) (e:o=(match (z.t.st[n]?).bind fun o=>eZ X.Γ o f d with | some o=>.nx ⟨z.t.env,z.t.ow,z.t.st.set n o⟩ | none=>.bad)) (nb:o≠.bad):Ε X.M A (F3 (.ref p.1) (an f) v) (fun _ s'=>Ps X z0 o .next s') E z.s:=by
 cases q:(z.t.st[n]?).bind fun o=>eZ X.Γ o f d with
 | none=>rw [q] at e;exact ZX e nb
 | some o'=>
   rw [q] at e
   obtain ⟨ob,q1,q2⟩:=ϊ.mp q
   exact zU T I ep rd q1 q2 fun s' I2 g2=>nxt (z1:={ z with t:=⟨z.t.env,z.t.ow,z.t.st.set n o'⟩,s:=s' }) (x.trans g2) I2 e
def nI:E→Bool
 | .lst .nil=>false
 | .dic .nil=>false
 | _=>true
theorem iS (h:nI e=true):X.ex (.fld a f e) s=(X.ev false e s).go fun d s=>(X.ev true a s).go fun x s=>(match x with
        | .ref n=>(match (s.st[n]?).bind fun o=>eZ X.Γ o f d with | some o=>.nx ⟨s.env,s.ow,s.st.set n o⟩ | none=>.bad)
        | _=>.bad):=by
 cases e with
 | lst es=>cases es <;> first | rfl | cases h
 | dic es=>cases es <;> first | rfl | cases h
 | _=>rfl
theorem gX :ķ e (some (.Attribute o x p)) l env=pure false:=by
 cases e <;> rfl
theorem fM (I:Rep X z) (h:RB X.W z (.ref n) u):∃ p,z.ρ[n]? = some p∧u = .ref p.1:=h.cr0 I
theorem zg (T:bQ X an) (hp:nI e=true) (ho:LE X eo a) (he:LE X ee e):LS X (.Assign [.Attribute eo (an f) p] ee pos) (.fld a f e):=fun z I nb=>ę ((he false).gos .refl I (iS hp) nb fun z1 d v y1 x1 I1 r1 e1=>(ho true).gos x1 I1 e1 nb fun z2 x u y2 x2 I2 r2 e2=>by
 cases x with
 | ref n=>
   obtain ⟨p,ep,rfl⟩:=fM I2 r2.rb
   exact jR T x2 I2 ep (r1.rd.st y2.st) e2 nb
 | _=>exact ZX e2 nb) gX
theorem pa (T:bQ X an) {o:ah} {o0:O} {s':τ} {a:Δ} {i:Nat} {x:θ} (I:Rep X z) (g:Gr z.s s') (ha:z.h a=none) (r:∀ ρ,ObR X.W ρ z.G s'.heap.get? (a,a) o0) (hN:X.N[i]? = some x) (hv:Vis X.env.scope x) (hd:(x == ("__debug__":θ))=false) (hcd:(x == ("__classdict__":θ))=false)
 (e:o=((X.ev true (.v i) z.t).go fun x s=>(match x with
  | .ref n=>(match (s.st[n]?).bind fun o=>eZ X.Γ o f (.ref s.st.length) with | some o=>.nx ⟨s.env,s.ow,(s.st ++ [o0]).set n o⟩ | none=>.bad)
  | _=>.bad))) (nb:o≠.bad) (tk:X.tz≤s'.toks:=by first | assumption | exact HR.tk (by assumption) | exact HR.tk1 (by assumption) | exact (Rep.toHR (by assumption)).tk | exact (Rep.toHR (by assumption)).tk1 | exact HR.tk2 (Rep.toHR (by assumption)) | exact HR.tk3 (Rep.toHR (by assumption))):Ε X.M X.A (eval (.Name x p1) X.env) (fun ov s2=>Ε X.M X.A (F3 ov (an f) (.ref a)) (fun _ s3=>Ps X z o .next s3) (PxS X z o) s2) (PxS X z o) s':=by
 obtain ⟨I1,x1⟩:=I.snoc (p:=(a,a)) g ⟨ha,ha⟩ (r _)
 have ev:X.ev true (.v i) z.t=(match z.t.env[i]? with | some (some d)=>.ok d z.t | _=>.bad):=rfl
 rw [ev] at e
 cases q:z.t.env[i]? with
 | none=>rw [q] at e;exact ZX e nb
 | some oo=>cases oo with
   | none=>rw [q] at e;exact ZX e nb
   | some d=>
     rw [q] at e
     obtain ⟨u,hu,ru⟩:=I1.slot (i:=i) (d:=d) q
     refine cU I1 hN hv hu ?_ hd hcd
     cases d with
     | ref n=>
       obtain ⟨p,ep,rfl⟩:=fM I1 ru
       have e:o=(match (z.t.st[n]?).bind fun o=>eZ X.Γ o f (.ref z.t.st.length) with | some o=>.nx ⟨z.t.env,z.t.ow,(z.t.st ++ [o0]).set n o⟩ | none=>.bad):=e
       refine jR T x1.go I1 ep (show RD X.W (z.ρ ++ [(a,a)]) z.G (.ref z.t.st.length) (.ref a) from ⟨_,nq I.toHR,rfl⟩) (e.trans ?_) nb
       show _=(match ((z.t.st ++ [o0])[n]?).bind fun o=>eZ X.Γ o f (.ref z.t.st.length) with | some o=>ah.nx ⟨z.t.env,z.t.ow,(z.t.st ++ [o0]).set n o⟩ | none=>ah.bad)
       cases q1:z.t.st[n]? with
       | none=>rw [q1] at e;exact ZX e nb
       | some w=>rw [ϓ (ν.mp q1).1,q1]
     | _=>exact ZX e nb
theorem vS (T:bQ X an) (hN:X.N[i]? = some x) (hv:Vis X.env.scope x) (hd:(x == ("__debug__":θ))=false) (hcd:(x == ("__classdict__":θ))=false):LS X (.Assign [.Attribute (.Name x p1) (an f) p] (.Dict [] [] p2) pos) (.fld (.v i) f (.dic .nil)):=fun z I nb=>ę (HB (pa (o0:=.dic [] []) T I (.push (t:=z.s.toks)) (aH z) (fun ρ=>⟨_,[],rfl,ZU.mpr (ê I.sysm),Λ _ rfl,by
 obtain ⟨o,es,ep,h1,h2,h3,h4,h5,h6⟩:=F9 (knd:=bO X.W.P X.W.w) z.s.heap
 rw [Λ _ rfl] at h1
 cases h1
 exact ⟨es,ep,h2,h3,h4,h5,h6,À _⟩,rfl,rfl⟩) hN hv hd hcd rfl nb)) gX
theorem vT (T:bQ X an) (hN:X.N[i]? = some x) (hv:Vis X.env.scope x) (hd:(x == ("__debug__":θ))=false) (hcd:(x == ("__classdict__":θ))=false):LS X (.Assign [.Attribute (.Name x p1) (an f) p] (.List [] p2) pos) (.fld (.v i) f (.lst .nil)):=fun z I nb=>ę (DO (ϋ ⟨À _,pa (o0:=.lst []) T I (.push (t:=z.s.toks)) (aH z) (fun ρ=>⟨_,[],rfl,Λ _ rfl,⟨⟨_,rfl⟩,À _⟩,rfl⟩) hN hv hd hcd rfl nb⟩)) gX
theorem wi {es:List D} {us:List η} {o:Out D} (x:Ee X z0 z) (I:Rep X z) (r:RDs X.W z.ρ z.G es us) (hz:es.length≤100000) (e:o = .ok (.ref z.t.st.length) ⟨z.t.env,z.t.ow,z.t.st ++ [.lst es]⟩):Pe X z0 o (RV X.W br c) (.ref z.s.heap.objs.size) { z.s with heap:=z.s.heap.push { cls:=.type "list",data:=.seq us.toArray } }:=by
 obtain ⟨I1,x1⟩:=I.snoc (p:=(z.s.heap.objs.size,z.s.heap.objs.size)) (o:=.lst es) (.push (t:=z.s.toks)) ⟨aH z,aH z⟩ ⟨_,us,rfl,Λ _ rfl,⟨⟨_,rfl⟩,by rw [← r.len];exact big hz⟩,r.mono (Ì _ _) (.refl _)⟩
 exact ⟨_,.ref z.t.st.length,rfl,e,x.trans x1,I1,.of (show RD X.W (z.ρ ++ [_]) z.G (.ref z.t.st.length) _ from ⟨_,nq I.toHR,rfl⟩)⟩
theorem jD (h:LA X er es):LE X (.List er pos) (.newl es):=fun br z I nb=>DO ((h false pos).go (f:=fun l s=>if l.length≤100000 then Out.ok (D.ref s.st.length) ⟨s.env,s.ow,s.st ++ [.lst l]⟩ else .bad) .refl I rfl nb fun z1 l us y1 x1 I1 r1 e1=>by
 by_cases c:l.length≤100000
 ·rw [ZZ c] at e1
  exact ⟨by rw [← r1.rds.len];exact big c,wi x1 I1 r1.rds c e1⟩
 ·rw [ZY c] at e1;exact ZX e1 nb)
theorem vY (hN:X.N.Nodup) (hi:X.N[i]? = some x) (hx:Loc X.env.scope x) (h:LA X er es) (hs:ķ (.List er lp) (some (.Name x pos')) pos.line X.env=pure false):LS X (.Assign [.Name x pos'] (.List er lp) pos) (.setR i es):=fun z I nb=>Ea (by
 have e:X.ex (.setR i es) z.t=(X.ev false (.newl es) z.t).go fun d s=>.nx (stV s i d false):=by
  show Out.go (X.evs false es z.t) _=Out.go (Out.bind (X.evs false es z.t) _) _
  cases X.evs false es z.t with
  | ok l s=>show (if l.length≤100000 then _ else _)=Out.go (if l.length≤100000 then _ else _) _;by_cases c:l.length≤100000 <;> simp only [c,if_true,if_false] <;> rfl
  | _=>rfl
 exact (jD h false).gos .refl I e nb fun z1 d u y x0 I1 r e1=>bG (own:=false) x0 I1 hN hi hx r.rd fun s' a _ _ I' g'=>nxt (z1:={ z1 with t:=stV z1.t i d false,σ:=z1.σ.set i (some u),s:=s' }) g' I' e1) hs
theorem sZ {st:List O} {x:D} {w:Int} (h:look st x = .int w):x = .int w:=by
 cases x with
 | ref n=>unfold look at h;dsimp only at h;split at h <;> cases h
 | _=>exact h
structure uK (X:Cx) (op:Fj) (o:Op) (g:Int→Int→Int):Prop where
 op:∀ {A:ϗ} {s:τ} {i j:Int} {t u:Tok} {Q:η→τ→Prop} {E:η→τ→Prop},Q (.int (g i j) s.toks) { s with toks:=s.toks+1 }→Ε X.M A (inplaceOp op (.int i t) (.int j u)) Q E s
 od:∀ i j,opD o (.int i) (.int j)=some (.int (g i j))
 oi:∀ x c d,opD o x (.int c)=some d→∃ w,x = .int w
theorem uS:uK X .Sub .sub (· - ·):=⟨isub_int,fun _ _=>rfl,fun x c d h=>by cases x <;> first | exact ⟨_,rfl⟩ | cases h⟩
theorem uR:uK X .Add .add (· + ·):=⟨iadd_int,fun _ _=>rfl,fun x c d h=>by cases x <;> first | exact ⟨_,rfl⟩ | cases h⟩
theorem zd (T:bQ X an) {o:Op} (ar:uK X op o g) (hN:X.N[i]? = some x) (hv:Vis X.env.scope x) (hd:(x == ("__debug__":θ))=false) (hcd:(x == ("__classdict__":θ))=false):LS X (.AugAssign (.Attribute (.Name x p1) (an f) p) op (.Constant (.int c) j p2) pos) (.fld (.v i) f (.op o (.fld (.v i) f) (.c (.int c)))):=fun z I nb=>by
 have e:=iS (X:=X) (a:=.v i) (f:=f) (s:=z.t) (e:=.op o (.fld (.v i) f) (.c (.int c))) rfl
 have e:X.ex (.fld (.v i) f (.op o (.fld (.v i) f) (.c (.int c)))) z.t=((((X.ev true (.v i) z.t).bind fun x s=>Out.of s (mH X.Γ s.st x f)).bind fun x s=>Out.of s (opD o (look s.st x) (.int c))).go fun d s=>(X.ev true (.v i) s).go fun x s=>(match x with
  | .ref n=>(match (s.st[n]?).bind fun o=>eZ X.Γ o f d with | some o=>.nx ⟨s.env,s.ow,s.st.set n o⟩ | none=>.bad)
  | _=>.bad)):=e
 have ev:X.ev true (.v i) z.t=(match z.t.env[i]? with | some (some d)=>.ok d z.t | _=>.bad):=rfl
 revert nb
 generalize X.ex (.fld (.v i) f (.op o (.fld (.v i) f) (.c (.int c)))) z.t=oo at e
 intro nb
 refine wpAny_AugAssign_AttributeAny ?_
 cases q:z.t.env[i]? with
 | none=>rw [ev,q] at e;exact ZX e nb
 | some ow=>cases ow with
   | none=>rw [ev,q] at e;exact ZX e nb
   | some d=>
     rw [q] at ev
     rw [ev] at e
     obtain ⟨u,hu,ru⟩:=I.slot q
     refine cU I hN hv hu ?_ hd hcd
     cases q1:mH X.Γ z.t.st d f with
     | none=>simp only [Out.bind,q1,Out.of] at e;exact ZX e nb
     | some x=>
       simp only [Out.bind,q1,Out.of] at e
       cases q2:opD o (look z.t.st x) (.int c) with
       | none=>simp only [q2] at e;exact ZX e nb
       | some d2=>
         simp only [q2] at e
         obtain ⟨w,hw⟩:=ar.oi _ _ _ q2
         rw [hw] at q2
         obtain rfl:=sZ hw
         obtain rfl:=ϝ ((ar.od w c).symm.trans q2)
         have e:oo=((X.ev true (.v i) z.t).go fun x s=>(match x with
          | .ref n=>(match (s.st[n]?).bind fun o=>eZ X.Γ o f (.int (g w c)) with | some o=>.nx ⟨s.env,s.ow,s.st.set n o⟩ | none=>.bad)
          | _=>.bad)):=e
         rw [ev] at e
         cases d with
         | ref n=>
           obtain ⟨p,ep,rfl⟩:=fM I ru
           obtain ⟨C,fs,v,h1,h2,h3,h4,h5⟩:=rW T I ep q1
           have h6:=h5
           obtain ⟨t,ht⟩:∃ t,v = .int w t:=h6
           subst ht
           refine mJ I h1 h2 h3 h4 h5 (H5 (ar.op ?_))
           have gr:Gr z.s { z.s with toks:=z.s.toks+1+1+1 }:=.tok
           exact jR (z:={ z with s:={ z.s with toks:=z.s.toks+1+1+1 } }) T (aq I.gh gr).ee.go (I.grow (aq I.gh gr)) ep (show RD X.W z.ρ z.G (.int (g w c)) _ from ⟨_,rfl⟩) e nb
         | _=>exact ZX e nb
end
section
variable {prog:Î} {w:é} {A:ϗ} {E:η→τ→Prop} {s:τ}
theorem iP {it l:Δ} {items:Array η} (hne:l≠it):∀ (n i:Nat) (s:τ) (Q:List η→τ→Prop),s.heap.IsListIter it l i→s.heap.IsList l items→i+n≤items.size →
 (∀ h',h'.IsListIter it l (i+n)→è it s.heap h'→Q ((items.toList.drop i).take n) { s with heap:=h' })→Ε (model prog w) A (draw (.ref it) n) Q E s
 | 0,i,s,Q,hit,_,_,hQ=>by
   show Ε _ _ (pure []) Q E s
   exact π (by simpa using hQ s.heap hit (Heap.SameBut.refl ..))
 | n+1,i,s,Q,hit,ht,hle,hQ=>by
   have hlt:i<items.size:=by omega
   show Ε _ _ (pyNext (.ref it) >>= _) Q E s
   refine ε (wpAny_pyNext_list_item hit ht (x:=items[i]) (by simp [hlt]) fun h₁ hit₁ hs₁=>?_)
   refine ε (ώ (iP hne n (i+1) _ _ hit₁ (ht.extBut hs₁.extBut hne) (by omega) fun h₂ hit₂ hs₂=>π ?_))
   have hd:items.toList.drop i=items[i] :: items.toList.drop (i+1):=by simp [ı,hlt]
   have:=hQ h₂ (by rw [show i+(n+1)=i+1+n by omega];exact hit₂) (hs₁.trans hs₂)
   rw [hd,List.take_succ_cons] at this
   exact this
theorem fQ {l:Δ} {items:Array η} {Q:List η→τ→Prop} (hh:A.handled=none) (ht:s.heap.IsList l items)
 (hQ:∀ h',Heap.ExtBut s.heap.objs.size s.heap h'→Q items.toList { s with heap:=h' }):Ε (model prog w) A (EP (.ref l) items.size none) Q E s:=by
 have hlt:l≠s.heap.objs.size:=by obtain ⟨o,ho,_⟩:=ht;exact ϲ (ϟ ho)
 unfold EP
 refine ε ?_
 unfold notIterableAtAll
 refine ε (Ţ ht.typeIs slot_list_iter.lookup ?_)
 refine π ?_
 simp only [Ā,if_false]
 refine ε (ώ (E9 ht ?_))
 refine ε (ώ (iP hlt items.size 0 _ _ ⟨_,Λ _ rfl,rfl,rfl⟩ (ht.push _) (by omega) fun h₁ hit₁ hs₁=>?_))
 have hall:List.take items.size (List.drop 0 items.toList)=items.toList:=by
  rw [ĉ];exact ç (by simp)
 rw [hall]
 rw [ZY (by simp)]
 have ht₁:h₁.IsList l items:=(ht.push _).extBut hs₁.extBut hlt
 refine ε (ώ (wpAny_pyNext_list_end hh hit₁ ht₁ (by simp) fun h₂ he₂=>?_))
 simp only [Option.isSome_none,Ā,if_false]
 exact π (hQ h₂ fun b o hb e=>he₂ b o hb (hs₁.extBut b o hb (Κ _ e)))
end
section
variable {X:Cx} {z z' z0 z1:Z}
def binds (env:List (Option D)) (l:List (Nat×D)):List (Option D):=l.foldl (fun e p=>e.set p.1 (some p.2)) env
def Ay (t:Sta) (ts:List Nat) (ds:List D):Sta:=⟨binds t.env (ts.zip ds),t.ow.filter fun i=>!ts.contains i,t.st⟩
def As (X:Cx):List (η→DR Unit)→List Nat→Prop
 | f :: fs,i :: t=>(∃ x,X.N[i]? = some x∧Loc X.env.scope x∧∀ {v Q E s},Ε X.M X.A (HC X.env x v) Q E s→Ε X.M X.A (f v) Q E s)∧As X fs t
 | [],[]=>True
 | _,_=>False
theorem wV {Q:Unit→τ→Prop} {E:η→τ→Prop} (hN:X.N.Nodup):∀ {fs t ds us z},As X fs t→Go X z0 z→Rep X z→RDs X.W z.ρ z.G ds us→ds.length=t.length→(∀ z',Go X z0 z'→Rep X z'→z'.ρ=z.ρ→z'.G=z.G→z'.t=Ay z.t t ds→(∀ j,j ∉ t→z'.σ[j]? = z.σ[j]?)→((∀ i∈t,∀ x,X.N[i]? = some x→X.env.scope.names.lookup x=some .local)→∀ b o,z.h b=some o→b≠X.env.locals→z'.h b=some o)→Q () z'.s)→Ε X.M X.A (assignInOrder fs us) Q E z.s
 | [],[],[],us,z,_,x,I,r,_,h=>assignInOrder_nil (h z x I rfl rfl (by
   have:z.t.ow.filter (fun i=>!([]:List Nat).contains i)=z.t.ow:=List.filter_eq_self.mpr fun _ _=>rfl
   show z.t=⟨z.t.env,_,z.t.st⟩
   rw [this]) (fun _ _=>rfl) fun _ _ _ e _=>e)
 | f :: fs,i :: t,d :: ds,us,z,⟨⟨x',h1,h2,h3⟩,ha⟩,x,I,r,hl,h=>by
   obtain ⟨u,vs,rfl,r1,r2⟩:=r
   refine assignInOrder_cons (h3 (bG (own:=false) x I hN h1 h2 r1 fun s' a sb la I' g'=>?_))
   refine wV hN (z:={ z with t:=stV z.t i d false,σ:=z.σ.set i (some u),s:=s' }) ha g' I' r2 (Ĺ hl) fun z' gz Iz eρ eG et eσ ek=>h z' gz Iz eρ eG (et.trans ?_) (fun j nj=>?_) fun lc b o e nb=>ek (fun i' m=>lc i' (υ _ m)) b o ((sb.2 b fun q=>nb (q.trans (la.2 (lc i κ x' h1)))).trans e) nb
   ·show (⟨binds (z.t.env.set i (some d)) (t.zip ds),(z.t.ow.filter (· != i)).filter (fun j=>!t.contains j),z.t.st⟩:Sta)=⟨binds (z.t.env.set i (some d)) (t.zip ds),z.t.ow.filter (fun j=>!(i :: t).contains j),z.t.st⟩
    rw [List.filter_filter]
    congr 1
    refine ż fun j _=>?_
    rw [List.contains_cons,Bool.not_or,Bool.and_comm];rfl
   ·rw [φ,not_or] at nj
    exact (eσ j nj.2).trans (Φ (ϳ nj.1))
 | [],_ :: _,_,_,_,h,_,_,_,_,_=>h.elim
 | _ :: _,[],_,_,_,h,_,_,_,_,_=>h.elim
 | [],[],_ :: _,_,_,_,_,_,_,hl,_=>by cases hl
 | _ :: _,_ :: _,[],_,_,_,_,_,_,hl,_=>by cases hl
def LG (X:Cx) (tg:Ξ) (t:List Nat) (one:Bool):Prop:=∀ (z0 z:Z) (d:D) (u:η) (env:List (Option D)) (Q:Unit→τ→Prop) (E:η→τ→Prop),Go X z0 z→Rep X z→RD X.W z.ρ z.G d u→aJ t one d z.t.env=some env →
 (∀ z',Go X z0 z'→Rep X z'→z'.ρ=z.ρ→Go X z z'→z'.t=⟨env,z.t.ow.filter fun i=>!t.contains i,z.t.st⟩→(∀ j,j ∉ t→z'.σ[j]? = z.σ[j]?)→((∀ i∈t,∀ x,X.N[i]? = some x→X.env.scope.names.lookup x=some .local)→∀ b o,z.h b=some o→b≠X.env.locals→z'.h b=some o)→Q () z'.s)→Ε X.M X.A (assign tg X.env u) Q E z.s
theorem vL (hN:X.N.Nodup) (hi:X.N[i]? = some x) (hx:Loc X.env.scope x):LG X (.Name x pos) [i] true:=fun z0 z d u env Q E x0 I r e h=>by
 cases (show some (z.t.env.set i (some d))=some env from e)
 refine Ŋ (bG (own:=false) .refl I hN hi hx r fun s' a sb la I' g'=>h { z with t:=stV z.t i d false,σ:=z.σ.set i (some u),s:=s' } (x0.trans g') I' rfl g' ?_ (fun j nj=>?_) fun lc b o e nb=>(sb.2 b fun q=>nb (q.trans (la.2 (lc i (ι.mpr rfl) x hi)))).trans e)
 ·show (⟨_,z.t.ow.filter (· != i),z.t.st⟩:Sta)=⟨_,z.t.ow.filter (fun j=>![i].contains j),z.t.st⟩
  congr 1
  refine ż fun j _=>?_
  by_cases c:j=i <;> simp [c]
 ·exact Φ fun w=>nj (by rw [w];exact ι.mpr rfl)
theorem uA {n:Nat} {Q:List η→τ→Prop} {E:η→τ→Prop} {d:D} {l:List D} (hc:X.calm=true) (I:Rep X z) (r:RD X.W z.ρ z.G d u) (e:d = .tup l∨d = .lst l) (hn:l.length=n) (q:∀ s' us,Gr z.s s'→RDs X.W z.ρ z.G l us→Q us s'):Ε X.M X.A (EP u n none) Q E z.s:=by
 subst hn
 rcases e with rfl | rfl
 ·obtain ⟨a,o,vs,rfl,g,⟨tc,⟨k,td⟩,tl⟩,r⟩:=r
  rw [show l.length=vs.toArray.size by simp [r.len]]
  exact wpAny_unpackItems_tuple (I.hd hc) (show z.s.heap.IsTuple a vs.toArray from ⟨o,I.gh _ _ g,tc,⟨k,td⟩⟩) fun h' hx=>q _ _ (.hp (t:=z.s.toks) fun b o e=>hx b o (ϲ (ϟ e)) e) (by simpa using r)
 ·obtain ⟨a,o,vs,rfl,g,⟨⟨k,rfl⟩,tl⟩,r⟩:=r
  rw [show l.length=vs.toArray.size by simp [r.len]]
  exact fQ (I.hd hc) (show z.s.heap.IsList a vs.toArray from ⟨_,I.gh _ _ g,rfl,⟨k,rfl⟩⟩) fun h' hx=>q _ _ (.hp (t:=z.s.toks) fun b o e=>hx b o (ϲ (ϟ e)) e) (by simpa using r)
theorem qO {n:Nat} {Q:List η→τ→Prop} {E:η→τ→Prop} {d:D} {l:List D} (hc:X.calm=true) (I:Rep X z) (r:RD X.W z.ρ z.G d u) (e:d = .tup l∨d = .lst l) (hn:l.length=n) (q:∀ s' us,X.tz≤s'.toks→Gr z.s s'→RDs X.W z.ρ z.G l us→Q us s'):Ε X.M X.A (EP u n none) Q E z.s:=
 Η (ό I.tk (uA (E:=E) (Q:=fun us s'=>Gr z.s s'∧RDs X.W z.ρ z.G l us) hc I r e hn fun s' us a b=>⟨a,b⟩)) (fun us s' ⟨tk,a,b⟩=>q s' us tk a b) fun _ _ w=>w.2
theorem ri (e:aJ t false d env=some env'):∃ l,(d = .tup l∨d = .lst l)∧l.length=t.length∧env'=binds env (t.zip l):=by
 cases d with
 | tup l=>obtain ⟨c,e⟩:=az (show (if l.length=t.length then some (binds env (t.zip l)) else none)=some env' from e);cases e;exact ⟨l,.inl rfl,c,rfl⟩
 | lst l=>obtain ⟨c,e⟩:=az (show (if l.length=t.length then some (binds env (t.zip l)) else none)=some env' from e);cases e;exact ⟨l,.inr rfl,c,rfl⟩
 | _=>cases e
theorem sY {es:List Ξ} {k:Nat} {pos:ϧ} (hc:X.calm=true) (hN:X.N.Nodup) (ha:As X ((ĝ es X.env).map (·.2)) t) (hn:(ĝ es X.env).length=t.length) (hst:(ĝ es X.env).findIdx? (·.1)=none):LG X (.Tuple es k pos) t false:=fun z0 z d u env Q E x0 I r e h=>by
 obtain ⟨l,dl,hl,rfl⟩:=ri e
 rw [assign_Tuple]
 refine ε (õ ?_)
 unfold unpack
 rw [hn,hst]
 refine ε (ώ (qO hc I r dl hl fun s' us tk g rs=>?_))
 exact wV (z:={ z with s:=s' }) hN ha (aq I.gh g).ee.go (I.grow (aq I.gh g) tk) rs hl fun z' gz Iz eρ eG et eσ ek=>h z' (x0.trans gz) Iz eρ gz et eσ fun lc b o e nb=>ek lc b o (g.k b o e) nb
theorem vZ (he:LE X e c) (hg:LG X tg t false) (hs:FA [tg] e pos.line X.env=pure false) (hw:FC [tg] e X.env=pure none) (h1:(ĝ [tg] X.env).map (·.2) = [assign tg X.env]):LS X (.Assign [tg] e pos) (.setT t c):=fun z I nb=>GV ((he false).gos .refl I rfl nb fun z1 d u y x0 I1 r e1=>by
 rw [h1]
 cases q:aJ t false d z1.t.env with
 | none=>rw [q] at e1;exact ZX e1 nb
 | some env=>
   rw [q] at e1
   exact hg z z1 d u env _ _ x0 I1 r.rd q fun z' gz Iz _ _ et _ _=>nxt gz Iz (by rw [et];exact e1)) hs hw
end
section
variable {X:Cx} {z:Z}
def isV:E→Bool
 | .v _=>true
 | _=>false
theorem vV (hn:aE eb=true) (hv:isV a=false) (ho:LE X eo a) (hb:LE X eb b) (he:LE X ee e):LS X (.Assign [.Subscript eo eb p2] ee pos) (.put a b e):=fun z I nb=>by
 have e0:X.ex (.put a b e) z.t=(X.ev false e z.t).go fun d s=>(X.ev true a s).go fun x s=>(X.ev true b s).go fun k s=>(match x with
  | .ref n=>(match (s.st[n]?).bind fun o=>fL o k d with | some o=>.nx ⟨s.env,s.ow,s.st.set n o⟩ | none=>.bad)
  | _=>.bad):=by cases a <;> first | rfl | cases hv
 refine og hn ((he false).gos (K:=fun v s'=>∃ z1 d,z1.s=s'∧Go X z z1∧Rep X z1∧RD X.W z1.ρ z1.G d v∧X.ex (.put a b e) z.t=((X.ev true a z1.t).go fun x s=>(X.ev true b s).go fun k s=>(match x with
  | .ref n=>(match (s.st[n]?).bind fun o=>fL o k d with | some o=>.nx ⟨s.env,s.ow,s.st.set n o⟩ | none=>.bad)
  | _=>.bad))) .refl I e0 nb fun z1 d u y x1 I1 r1 e1=>⟨z1,d,rfl,x1,I1,r1.rd,e1⟩) fun v s' ⟨z1,d,q,x1,I1,r1,e1⟩=>?_
 subst q
 exact (ho true).gos x1 I1 e1 nb fun z2 x u y2 x2 I2 r2 e2=>(hb true).gos x2 I2 e2 nb fun z3 k kv y3 x3 I3 r3 e3=>by
  cases x with
  | ref n=>
    obtain ⟨p,ep,rfl⟩:=fM I3 (r2.rb.st y3 I3)
    exact jM x3 I3 ep (r3.rb.cr0 I3) ((r1.st y2.st).st y3.st) e3 nb
  | _=>exact ZX e3 nb
end
section
variable {X:Cx}
theorem oN {st:List O} {x:D} (h:gb st x=true):∃ n l,x = .ref n∧st[n]? = some (.lst l):=by
 unfold gb at h
 split at h
 ·split at h
  ·exact ⟨_,_,rfl,by assumption⟩
  ·cases h
 ·cases h
theorem vQ {f:Nat} (ho:LE X eo a) (he:LE X e c) (m:M1 X eo "append" apos e cpos):LS X (.Expr (.Call (.Attribute eo "append" apos) [e] [] cpos) pos) (.fapp a f c):=fun z I nb=>by
 have e0:X.ex (.fapp a f c) z.t=(X.ev true a z.t).go fun x s=>if gb s.st x=true then (X.ev false c s).go fun d s=>apO x d s else .bad:=rfl
 refine Ŵ (Ç m.base m.few m.line ß Ý Ek ((ho true).gos .refl I e0 nb fun z1 x u y1 x1 I1 r1 e1=>?_)) I.quiet rfl
 by_cases c0:gb z1.t.st x=true
 ·rw [ZZ c0] at e1
  obtain ⟨n,l,rfl,en⟩:=oN c0
  obtain ⟨p,ep,rfl⟩:=fM I1 r1.rb
  obtain ⟨o,vs,_,ho,⟨⟨k,rfl⟩,_⟩,_⟩:=I1.ob n _ p en ep
  refine ⟨⟨_,ho,rfl⟩,fun b q=>(by cases q;exact ⟨_,ho,rfl⟩),?_⟩
  rw [m.trees]
  refine Ϩ rfl (ϻ (Τ ((he false).gos x1 I1 e1 nb fun z2 d w y2 x2 I2 r2 e2=>ϋ ?_)))
  have e2:X.ex (.fapp a f c) z.t=(match z2.t.st[n]? with | some (.lst l)=>if l.length<100000 then .nx ⟨z2.t.env,z2.t.ow,z2.t.st.set n (.lst (l ++ [d]))⟩ else .bad | _=>.bad):=e2
  cases q:z2.t.st[n]? with
  | none=>rw [q] at e2;exact ZX e2 nb
  | some ob=>
    rw [q] at e2
    cases ob with
    | lst l2=>
      dsimp only at e2
      by_cases c2:l2.length<100000
      ·rw [ZZ c2] at e2
       have ep2:=eV y2.st.pr ep
       obtain ⟨o,vs,hp2,ho,⟨⟨k,rfl⟩,_⟩,rl⟩:=I2.ob n _ p q ep2
       have hz:vs.length<100000:=by rw [← rl.len];exact c2
       refine Ĝ Ý ⟨_,ho,rfl⟩ ģ (ğ _ _) (ŷ p.1 vs.toArray k w (by rw [Μ];exact ď (Ϻ hz (big (ύ _))))) ⟨ho,?_⟩
       obtain ⟨⟨o1,u1,u3⟩,u2⟩:=dN (f:=(·.push w)) (ws:=vs ++ [w]) ho (by simp) (by rw [ζ];exact big (by simp;omega))
       obtain ⟨I3,g3⟩:=I2.stw (s':={ z2.s with heap:=z2.s.heap.update p.1 (à (·.push w)) }) (o':=.lst (l2 ++ [d])) ep2 (.inl rfl) u2 ⟨o1,vs ++ [w],hp2,u1,u3,rl.app (.cons r2.rd rfl)⟩ rfl rfl
       exact nxt (x2.trans g3) I3 e2
      ·rw [ZY c2] at e2;exact ZX e2 nb
    | _=>exact ZX e2 nb
 ·rw [ZY c0] at e1;exact ZX e1 nb
end
structure Itr (W:Wd) (tg:Ξ) (it:Δ) (fp wr:List Δ) (ds:List D) (ρ:Rs) (G:Hp) (St:Nat→Â→Prop):Prop where
 sub:∀ b∈wr,b∈fp
 keep:∀ i h h',St i h→(∀ b∈fp,∀ o,h.get? b=some o→h'.get? b=some o)→St i h'
 ex:∀ i h,St i h→∀ b∈wr,∃ o,h.get? b=some o
 item:∀ {A:ϗ} {i:Nat} {d:D} {s:τ},A.handled=none→ds[i]? = some d→St i s.heap→Ε (model W.P W.w) A (pyNext (.ref it)) (fun r s1=>∃ u,r=some u∧Ε (model W.P W.w) A (ť tg (.ref it) u) (fun _ s2=>St (i+1) s2.heap∧(s2.os=s.os∧s2.gens=s.gens)∧(∀ b o,b ∉ wr→s.heap.get? b=some o→s2.heap.get? b=some o) ∧
  ∀ ρ' G',ρ <+: ρ'→Sub G G'→(∀ a o,s.heap.get? a=none→s2.heap.get? a=some o→G' a=some o)→RD W ρ' G' d u) NoE s1) NoE s
 done:∀ {A:ϗ} {s:τ},A.handled=none→St ds.length s.heap→Ε (model W.P W.w) A (pyNext (.ref it)) (fun r s2=>r=none∧(s2.os=s.os∧s2.gens=s.gens)∧∀ b o,b ∉ wr→s.heap.get? b=some o→s2.heap.get? b=some o) NoE s
 self:∀ {A:ϗ} {i:Nat} {s:τ} {Q:η→τ→Prop} {E:η→τ→Prop},A.handled=none→St i s.heap→Q (.ref it) s→Ε (model W.P W.w) A (EH (.ref it)) Q E s
def Fp (X:Cx) (z0 z:Z) (fp wr:List Δ):Prop:=∀ b∈fp,(Nob X z0 z b∧∃ o,z.h b=some o)∨(b ∉ wr∧∃ o,z.G b=some o)
section
variable {X:Cx} {z z' z0 z1:Z}
theorem Nob.go (x:Go X z z') (n:Nob X z0 z b) (e:z.h b=some o):Nob X z0 z' b∧z'.h b=some o:=by
 obtain ⟨n0,⟨f1,f2,f3,f4⟩,f5⟩:=n
 have no:∀ {P:Prop},z.h b=none→P:=fun w=>by rw [w] at e;cases e
 refine ⟨⟨n0,⟨?_,fun m=>(x.st.rn b m).elim f2 no,f3,f4⟩,fun w=>(x.ow b w).elim f5 no⟩,x.st.sm b o e f2 (fun w=>w.elim f5 f4) f3⟩
 cases q:z'.G b with
 | none=>rfl
 | some o'=>
   rcases x.st.gn b o' q with w | w | w
   ·rw [f1] at w;cases w
   ·exact no w
   ·exact (w.elim f5 f4).elim
theorem Fp.go (x:Go X z z') (f:Fp X z0 z fp wr):Fp X z0 z' fp wr:=fun b hb=>(f b hb).imp (fun ⟨n,o,e⟩=>let ⟨a,b⟩:=n.go x e;⟨a,o,b⟩) fun ⟨n,o,e⟩=>⟨n,o,x.st.gg b o e⟩
theorem Fp.keep (x:Go X z z') (I:Rep X z) (I':Rep X z') (f:Fp X z0 z fp wr):∀ b∈fp,∀ o,z.h b=some o→z'.h b=some o:=fun b hb o e=>by
 rcases f b hb with ⟨n,o',e'⟩ | ⟨_,o',e'⟩
 ·exact (n.go x e).2
 ·rw [I.gh b o' e'] at e;cases e;exact I'.gh b _ (x.st.gg b _ e')
theorem Rep.turn {s':τ} {wr:List Δ} {w:Δ→Prop} (x:Stp X.fr w z0 z) (I:Rep X z) (hw:∀ b∈wr,Nob X z0 z b∧∃ o,z.h b=some o) (k:∀ b o,b ∉ wr→z.h b=some o→s'.heap.get? b=some o) (os:s'.os=z.s.os∧s'.gens=z.s.gens) (tk:X.tz≤s'.toks:=by first | assumption | exact HR.tk (by assumption) | exact HR.tk1 (by assumption) | exact (Rep.toHR (by assumption)).tk | exact (Rep.toHR (by assumption)).tk1 | exact ϡ (by assumption)):Rep X (z.up s')∧Stp X.fr w z0 (z.up s')∧Sub z.G (z.up s').G∧∀ b∈wr,Nob X z0 (z.up s') b:=by
 have gd:∀ a,(z.up s').G a=match z.h a with | none=>s'.heap.get? a | some _=>z.G a:=fun _=>rfl
 have nG:∀ {b o},z.G b=some o→b ∉ wr:=fun e m=>by rw [(hw _ m).1.2.1.1] at e;cases e
 have nM:∀ {b},Mu z.ρ b→b ∉ wr:=fun h m=>(hw _ m).1.2.1.2.1 h
 have nf:∀ {b},b∈frs X.fr→b ∉ wr:=fun h m=>(hw _ m).1.2.1.2.2.1 h
 have nL:∀ {b},Lc X b→b ∉ wr:=fun h m=>(hw _ m).1.2.1.2.2.2 h
 have nO:∀ {b},Own z b→b ∉ wr:=fun h m=>(hw _ m).1.2.2 h
 have gg:Sub z.G (z.up s').G:=fun a o e=>by rw [gd,I.gh a o e];exact e
 have nn:∀ {a:Δ},(∃ o,z.h a=some o)→z.G a=none→(z.up s').G a=none:=fun {a} ⟨o,e⟩ n=>by rw [gd,e];exact n
 have gh:Sub (z.up s').G s'.heap.get?:=fun a o e=>by
  rw [gd] at e
  cases q:z.h a with
  | none=>rw [q] at e;exact e
  | some u=>rw [q] at e;exact k a o (nG e) (I.gh a o e)
 have ck:∀ x c v,X.env.cells.lookup x=some c→z.s.heap.IsCell c v→s'.heap.IsCell c v:=fun x c v e ⟨o,q,d⟩=>⟨o,k c o (nL (.inr ⟨x,e⟩)) q,d⟩
 have fu:s'.heap.FunFrames X.base X.fr:=by
  have:∀ {l:List Ų},(∀ b∈frs l,b ∉ wr)→z.s.heap.FunFrames X.base l→s'.heap.FunFrames X.base l:=fun {l}=>by
   induction l with
   | nil=>exact fun _ _=>trivial
   | cons v r ih=>
     intro hs ⟨a,⟨L,o,e1,e2,e3,e4⟩,q⟩
     have hm:L∈frs (v :: r):=by unfold frs;rw [ϥ,e1];exact κ
     exact ⟨a,⟨L,o,e1,e2,k L o (hs L hm) e3,e4⟩,ih (fun b hb=>hs b (by unfold frs;rw [ϥ,e1];exact υ _ hb)) q⟩
  exact this (fun b h=>nf h) I.fu
 have gn:∀ a o,(z.up s').G a=some o→z.G a=some o∨z.h a=none:=fun a o e=>by
  rw [gd] at e
  cases q:z.h a with
  | none=>exact .inr rfl
  | some u=>rw [q] at e;exact .inl e
 refine ⟨⟨⟨I.md,I.fm,I.hd,fun b o e=>gg _ _ (I.bs b o e),gh,I.rl,I.rn,fun a m=>nn (I.th m) (I.rg a m),fun n o p h1 h2=>(I.ob n o p h1 h2).mono (ξ _) gg fun a ha o e=>k a o (nM ⟨p,Ι h2,ha⟩) e,fu,fun b m=>⟨nn (I.fth m) (I.ff b m).1,(I.ff b m).2⟩,by show ŏ s'.gens;rw [os.2];exact I.br,os.1.trans I.os,tk⟩,I.ok,?_,fun x c e=>let ⟨v,q⟩:=I.ce x c e;⟨v,ck x c v e q⟩,fun a l=>⟨nn (I.lth l) (I.fl a l).1,(I.fl a l).2⟩,I.el,I.sl,fun i d n e=>let ⟨u,q,r⟩:=I.en i d n e;⟨u,q,r.mono (ξ _) gg⟩,fun i m=>?_,I.od⟩,⟨x.pr,x.gg.trans gg,fun a o e=>?_,x.rn,fun a o e=>?_,fun a o e n w f=>?_,fun a o e n w f=>?_⟩,gg,fun b hb=>let ⟨⟨n0,f,no⟩,ex⟩:=hw b hb;⟨n0,⟨nn ex f.1,f.2⟩,no⟩⟩
 ·obtain ⟨m,⟨oL,es,ep,q,r⟩,hl⟩:=I.lo
  exact ⟨m,⟨oL,es,ep,k _ _ (nL (.inl rfl)) q,r⟩,fun j x w e1 e2 e3=>dB (fun c v e q=>ck x c v e q) (hl j x w e1 e2 e3)⟩
 ·obtain ⟨d,a,o,h1,h2,h3,r,f⟩:=I.eo i m
  exact ⟨d,a,o,h1,h2,h3,r.mono (ξ _) gg fun c hc o e=>k c o (by rcases hc with rfl | rfl <;> exact nO ⟨i,m,h2⟩) e,nn r.th.1 f.1,f.2⟩
 ·rcases gn a o e with w | w
  ·exact x.gn a o w
  ·exact .inr (.inl (x.no w))
 ·obtain ⟨o1,e1⟩:=x.th a o e
  by_cases m:a∈wr
  ·rw [(hw a m).1.1] at e;cases e
  ·exact ⟨o1,k a o1 m e1⟩
 ·exact k a o (fun m=>by rw [(hw a m).1.1] at e;cases e) (x.sm a o e n w f)
 ·obtain ⟨sl,q⟩:=x.sl a o e n w f
  exact ⟨sl,k a _ (fun m=>by rw [(hw a m).1.1] at e;cases e) q⟩
theorem Fp.up {s':τ} {wr wr':List Δ} (I:Rep X z) (f:Fp X z0 z fp wr) (g:Sub z.G (z.up s').G) (k:∀ b o,b ∉ wr'→z.h b=some o→s'.heap.get? b=some o) (ex:∀ b∈wr',b∈fp→∃ o,s'.heap.get? b=some o):Fp X z0 (z.up s') fp wr:=fun b hb=>(f b hb).imp (fun ⟨⟨n0,ff,no⟩,o',e'⟩=>⟨⟨n0,⟨by show (match z.h b with | none=>s'.heap.get? b | some _=>z.G b)=none;rw [e'];exact ff.1,ff.2⟩,no⟩,by
 by_cases m:b∈wr'
 ·exact ex b m hb
 ·exact ⟨o',k b o' m e'⟩⟩) fun ⟨m,o',e'⟩=>⟨m,o',g b o' e'⟩
theorem Fp.wr {wr:List Δ} {St:Nat→Â→Prop} (T:Itr W tg it fp wr ds ρ G St) (st:St i z.s.heap) (f:Fp X z0 z fp wr):∀ b∈wr,Nob X z0 z b∧∃ o,z.h b=some o:=fun b hb=>(f b (T.sub b hb)).elim id fun ⟨n,_⟩=>ZX hb n
inductive FI (X:Cx) (z:Z) (tg:Ξ) (o:Out D) (itv:η) (s2:τ):Prop
 | mk (z1:Z) (ds:List D) (it:Δ) (fp wr:List Δ) (St:Nat→Â→Prop) (_:z1.s=s2) (_:o = .ok (.lst ds) z1.t) (_:Ee X z z1) (_:X.tz≤s2.toks→Rep X z1) (_:itv = .ref it) (_:Itr X.W tg it fp wr ds z1.ρ z1.G St) (_:St 0 s2.heap) (_:Fp X z z1 fp wr)
def LI (X:Cx) (tg e:Ξ) (c:E):Prop:=∀ z,Rep X z→X.ev false c z.t≠.bad→Ε X.M X.A (eval e X.env) (fun v s1=>Ε X.M X.A (EH v) (FI X z tg (X.ev false c z.t)) NoE s1) (Px X z (X.ev false c z.t)) z.s
theorem ox {ds:List α} {i:Nat} (h:ds[i]? = some d):ds.drop i=d :: ds.drop (i+1):=by
 obtain ⟨hi,rfl⟩:=ν.mp h
 exact ı hi
inductive FoJ (X:Cx) (z z1:Z) (ds:List D) (St:Nat→Â→Prop) (fp wr:List Nat) (o:ah) (f:D→Sta→ah) (n:Nat) (s:τ):Prop
 | mk (i:Nat) (z':Z) (_:z'.s=s) (_:n=ds.length - i) (_:i≤ds.length) (_:Go X z z') (_:Rep X z') (_:St i s.heap) (_:Fp X z z' fp wr) (_:z1.ρ <+: z'.ρ) (_:Sub z1.G z'.G) (_:o=cy f (ds.drop i) z'.t)
theorem zh {t:List Nat} {one:Bool} (hc:X.calm=true) (hp:∀ z o,HK X.M X.A X.env (PxS X z o)) (hi:LI X tg iter it) (hg:LG X tg t one) (hb:LSs X body b) (hs:∀ x,ŋ iter X.env x=pure x):LS X (.For tg iter body [] pos) (.for_ t one it b):=fun z I nb=>by
 let f:D→Sta→ah:=fun d s=>match aJ t one d s.env with | some env=>X.ex b ⟨env,s.ow.filter fun i=>!t.contains i,s.st⟩ | none=>.bad
 have e0:X.ex (.for_ t one it b) z.t=(X.ev false it z.t).go fun x s=>(match x with | .lst ds=>cy f ds s | _=>.bad):=rfl
 generalize X.ex (.for_ t one it b) z.t=o at e0 nb
 have nb0:X.ev false it z.t≠.bad:=fun q=>nb (by rw [e0,q];rfl)
 refine wpAny_For (Η (ό I.tk (hi z I nb0)) (fun v s1 ⟨tk1,h1⟩=>Η (ό tk1 h1) (fun itv s2 ⟨tk2,h2⟩=>?_) fun _ _ w=>w.2.elim) fun u s' h=>?_) hs
 rotate_left
 ·rw [e0];exact .of .refl h.2
 obtain ⟨z1,ds,a,fp,wr,St,q1,q2,x1,I1,q3,T,st1,f1⟩:=h2
 subst q1 q3
 have I1:=I1 tk2
 rw [q2] at e0
 have e0:o=cy f ds z1.t:=e0
 refine codeAny_forLoop_any (FoJ X z z1 ds St fp wr o f) ?_ (ds.length - 0) ⟨0,z1,rfl,rfl,À _,x1.go,I1,st1,f1,ξ _,.refl _,by rw [ĉ];exact e0⟩
 rintro n s3 ⟨i,z3,e3,en,hi,x3,I3,st3,f3,p3,g3,q⟩
 subst e3
 cases qd:ds[i]? with
 | none=>
   have hl:i=ds.length:=by rw [EN] at qd;omega
   subst hl
   refine ó (hp z o) (Η (ό I3.tk (T.done (I3.hd hc) st3)) (fun r s4 ⟨tk4,er,os,k⟩=>?_) fun _ _ w=>w.2.elim)
   subst er
   obtain ⟨I4,x4,_⟩:=I3.turn x3.st (f3.wr T st3) k os tk4
   rw [DM] at q
   exact Ī (nxt (z1:=z3.up s4) ⟨x4,x3.ow⟩ I4 q)
 | some d=>
   have hil:i<ds.length:=(ν.mp qd).1
   rw [ox qd] at q
   have q:o=(f d z3.t).go fun s=>cy f (ds.drop (i+1)) s:=q
   refine ó (hp z o) (Η (ό I3.tk (T.item (I3.hd hc) qd st3)) (fun r s4 ⟨tk4,u,er,h4⟩=>?_) fun _ _ w=>w.2.elim)
   subst er
   refine ó (hp z o) (Η (ό tk4 h4) (fun _ s5 ⟨tk5,st5,os5,k5,rd5⟩=>?_) fun _ _ w=>w.2.elim)
   have hw:=f3.wr T st3
   obtain ⟨I5,x5',g5,n5⟩:=I3.turn x3.st hw k5 os5 tk5
   have x5:Go X z (z3.up s5):=⟨x5',x3.ow⟩
   have rd:=rd5 z3.ρ (z3.up s5).G p3 (g3.trans g5) fun a o e1 e2=>by rw [jZ e1];exact e2
   have f5:Fp X z (z3.up s5) fp wr:=f3.up I3 g5 k5 fun b m _=>T.ex _ _ st5 b m
   cases qb:aJ t one d z3.t.env with
   | none=>exact ZX (show o = .bad by rw [q];show ah.go (match aJ t one d z3.t.env with | some env=>X.ex b ⟨env,z3.t.ow.filter fun i=>!t.contains i,z3.t.st⟩ | none=>.bad) _=_;rw [qb];rfl) nb
   | some env=>
     have q:o=(X.ex b ⟨env,z3.t.ow.filter fun i=>!t.contains i,z3.t.st⟩).go fun s=>cy f (ds.drop (i+1)) s:=by rw [q];show ah.go (match aJ t one d z3.t.env with | some env=>X.ex b ⟨env,z3.t.ow.filter fun i=>!t.contains i,z3.t.st⟩ | none=>.bad) _=_;rw [qb]
     refine ó (hp z o) (hg z (z3.up s5) d u env _ _ x5 I5 rd qb fun z6 x6 I6 eρ y6 et eσ _=>?_)
     rw [← show z6.t=(⟨env,z3.t.ow.filter fun i=>!t.contains i,z3.t.st⟩:Sta) from et] at q
     have nb6:X.ex b z6.t≠.bad:=fun w=>nb (by rw [q,w];rfl)
     refine ó (hp z o) (Η (hb z6 I6 nb6) (fun fl s7 h7=>?_) fun u s' h=>?_)
     ·cases qx:X.ex b z6.t with
      | nx t7=>
        rw [qx] at h7 q
        obtain ⟨rfl,z7,e7,et7,x7,I7⟩:=h7
        subst e7 et7
        exact ⟨ds.length - (i+1),by omega,i+1,z7,rfl,rfl,hil,x6.trans x7,I7,T.keep _ _ _ st5 ((f5.keep (y6.trans x7) I5 I7)),f5.go (y6.trans x7),(p3.trans (eρ ▸ ξ _:z3.ρ <+: z6.ρ)).trans x7.st.pr,(g3.trans g5).trans (y6.st.gg.trans x7.st.gg),q⟩
      | rt d7 t7=>
        rw [qx] at h7 q
        obtain ⟨u7,z7,rfl,r7⟩:=h7
        have:=Ps.less x6 (show Ps X z6 (.rt d7 t7) (.ret u7) s7 from ⟨u7,z7,rfl,r7⟩)
        show Ps X z o (.ret u7) s7
        rw [q];exact this
      | exc c l t7=>rw [qx] at h7;exact h7.elim
      | bad=>exact ZX qx nb6
     ·obtain ⟨z7,c,l,e7,qx,y7,J7,r7⟩:=h.less x6
      exact ⟨z7,c,l,e7,by rw [q,qx];rfl,y7,J7,r7⟩
end
section
variable {X:Cx} {z:Z}
theorem tA (hp:∀ z o,HK X.M X.A X.env (PxS X z o)) (ht:LT X e c) (hb:LSs X body b):LS X (.While e body [] pos) (.whl c b):=fun z I nb=>by
 have e0:X.ex (.whl c b) z.t=cM (X.ev true c) (X.ex b) 100000 z.t:=rfl
 generalize X.ex (.whl c b) z.t=o at e0 nb
 refine wpAny_While (codeAny_whileLoop (fun n s'=>∃ z',z'.s=s'∧Go X z z'∧Rep X z'∧o=cM (X.ev true c) (X.ex b) n z'.t) ?_ 100000 ⟨z,rfl,.refl,I,e0⟩)
 rintro n s3 ⟨z3,e3,x3,I3,q⟩
 subst e3
 cases n with
 | zero=>exact ZX q nb
 | succ n=>
   have q:o=((X.ev true c z3.t).bind toB).go fun x s=>if x then (X.ex b s).go fun s=>cM (X.ev true c) (X.ex b) n s else .nx s:=by
    rw [q]
    show (X.ev true c z3.t).go _=_
    cases X.ev true c z3.t with
    | ok d s=>cases d <;> first | rfl | (rename_i b;cases b <;> rfl)
    | exc c l s=>rfl
    | bad=>rfl
   refine ó (hp z o) (Jg.gos ht x3 I3 q nb fun z4 d u y4 x4 I4 r4 e4=>?_)
   cases (show u=d from r4)
   cases d with
   | true=>
     have e4:o=(X.ex b z4.t).go fun s=>cM (X.ev true c) (X.ex b) n s:=e4
     have nb4:X.ex b z4.t≠.bad:=fun w=>nb (by rw [e4,w];rfl)
     refine ó (hp z o) (Η (hb z4 I4 nb4) (fun fl s7 h7=>?_) fun u s' h=>?_)
     ·cases qx:X.ex b z4.t with
      | nx t7=>
        rw [qx] at h7 e4
        obtain ⟨rfl,z7,e7,et7,x7,I7⟩:=h7
        subst e7 et7
        exact ⟨n,DW n,z7,rfl,x4.trans x7,I7,e4⟩
      | rt d7 t7=>
        rw [qx] at h7 e4
        obtain ⟨u7,z7,rfl,r7⟩:=h7
        have:=Ps.less x4 (show Ps X z4 (.rt d7 t7) (.ret u7) s7 from ⟨u7,z7,rfl,r7⟩)
        show Ps X z o (.ret u7) s7
        rw [e4];exact this
      | exc c l t7=>rw [qx] at h7;exact h7.elim
      | bad=>exact ZX qx nb4
     ·obtain ⟨z7,c,l,e7,qx,y7,J7,r7⟩:=h.less x4
      exact ⟨z7,c,l,e7,by rw [e4,qx];rfl,y7,J7,r7⟩
   | false=>exact Ī (nxt x4 I4 e4)
end
theorem nin (n j k a:Nat) (h:j≠k) (ha:a<n):n+j ∉ [n+k,a]:=by simp;omega
theorem r6 {h:Â} (n:h.objs.size≤a):h.get? a=none:=Ϙ n
section
variable {W:Wd} {tg:Ξ} {it:Δ} {fp wr:List Δ} {ds:List D} {ρ:Rs} {G:Hp} {St:Nat→Â→Prop}
theorem Itr.walks {P:Nat→η→Prop} {A0:ϗ} (h0:A0.handled=none) {n:Nat} (hn:ds.length=n) (w:∀ A,A.handled=none→Walks W.P W.w A it fp wr n P St) (ex:∀ i h,St i h→∀ b∈wr,∃ o,h.get? b=some o) (go:∀ {A:ϗ} {s:τ} {u:η} {Q:Unit→τ→Prop} {E:η→τ→Prop} {i:Nat},St i s.heap→Q () s→Ε (model W.P W.w) A (ť tg (.ref it) u) Q E s)
 (hP:∀ i v d,P i v→ds[i]? = some d→∀ ρ' G',ρ <+: ρ'→Sub G G'→RD W ρ' G' d v):Itr W tg it fp wr ds ρ G St where
 sub:=(w A0 h0).sub
 keep:=(w A0 h0).frame
 ex:=ex
 item:=fun {A i d s} h e st=>(w A h).item i s _ _ (hn ▸ (ν.mp e).1) st fun v h' tk p st' k=>⟨v,rfl,go (s:={ s with heap:=h',toks:=tk }) st' ⟨st',⟨rfl,rfl⟩,fun b o n q=>k b o n q,fun ρ' G' h1 h2 _=>hP i v d p e ρ' G' h1 h2⟩⟩
 done:=fun {A s} h st=>(w A h).done s _ _ (hn ▸ st) fun h' tk k=>⟨rfl,⟨rfl,rfl⟩,k⟩
 self:=fun {A i s Q E} h st q=>(w A h).self i s Q E st q
abbrev Exa (h:Â) (T:Δ):Prop:=∀ o,h.get? T=some o→o.dict=none
theorem Itr.walksT {Pt:Nat→Array η→Prop} {Mid:Nat→Δ→Â→Prop} {A0:ϗ} {elts:List Ξ} {k:Nat} {pos:ϧ} (h0:A0.handled=none) {n:Nat} (hn:ds.length=n) (w:∀ A,A.handled=none→Hf W.P W.w A it fp wr n Pt St Mid) (ex:∀ i h,St i h→∀ b∈wr,∃ o,h.get? b=some o) (hm:∀ i T h,Mid i T h→Exa h T)
 (hP:∀ i vals d,Pt i vals→ds[i]? = some d→vals.size≤ϙ∧∃ l,d = .tup l∧∀ ρ' G',ρ <+: ρ'→Sub G G'→RDs W ρ' G' l vals.toList):Itr W (.Tuple elts k pos) it fp wr ds ρ G St where
 sub:=(w A0 h0).sub
 keep:=(w A0 h0).frame
 ex:=ex
 item:=fun {A i d s} h e st=>(w A h).item i s _ _ (hn ▸ (ν.mp e).1) st fun T vals h' tk p hT tup mid kk=>⟨.ref T,rfl,(w A h).go elts k pos i T { s with heap:=h',toks:=tk } _ _ mid fun h2 st2 k2=>⟨st2,⟨rfl,rfl⟩,fun b o n q=>k2 b o n (kk b o n q),fun ρ' G' h1 h3 h4=>by
  obtain ⟨hz,l,rfl,r⟩:=hP i vals d p e
  obtain ⟨o,e1,e2,n,e3⟩:=tup
  exact ⟨T,o,vals.toList,rfl,h4 T o (r6 hT) (k2 T o ((w A h).apart i T h' mid) e1),⟨e2,⟨n,by simpa using e3⟩,(by simpa using hz),hm i T h' mid o e1⟩,r ρ' G' h1 h3⟩⟩⟩
 done:=fun {A s} h st=>(w A h).done s _ _ (hn ▸ st) fun h' tk k=>⟨rfl,⟨rfl,rfl⟩,k⟩
 self:=fun {A i s Q E} h st q=>(w A h).self i s Q E st q
theorem nY {prog:Î} {w:é} {A:ϗ} {it:Δ} {fp:List Δ} {n:Nat} {P:Nat→η→Prop} {St:Nat→Â→Prop} (D:Draws prog w A.in1 it fp n P St) (e:Δ) (hei:e≠it) (hef:e ∉ fp) (hif:it∈fp):Hf prog w A e (e :: fp) [e,it] n (fun i vals=>∃ t x,P i x∧vals = #[.int i t,x]) (fun i h=>(∃ old,IsEnum h e it i old)∧St i h) (fun i T h=>((∃ x,IsEnumOut h e it ((i:Int)+1) x T)∧St (i+1) h∧T≠e∧T≠it)∧Exa h T):=
 have V:=WalksT.enumerateD D e hei hef hif
 { sub:=V.sub,frame:=V.frame,done:=V.done,self:=V.self,go:=fun elts k pos i T s Q E m q=>V.go elts k pos i T s Q E m.1 q,apart:=fun i T h m=>V.apart i T h m.1,
   item:=fun i s Q E hi ⟨⟨old,he⟩,hs⟩ hQ=>wpAny_pyNext_enum_itemD D he hs hi hei hef fun x h' tk hP ho hs' hT hsz hk=>hQ s.heap.objs.size #[.int i tk,x] h' (tk+1) ⟨_,_,hP,rfl⟩ (ύ _) ⟨_,hT,rfl,_,rfl⟩ ⟨⟨⟨_,ho⟩,hs',ê (ϟ he),ê (let ⟨_,y⟩:=D.live _ _ hs;ϟ y)⟩,fun o q=>(by rw [hT] at q;cases q;rfl)⟩ fun b o hb y=>hk b o (fun z=>hb (z ▸ κ)) (fun z=>hb (z ▸ υ _ κ)) y }
end
section
variable {X:Cx} {z z' z0 z1:Z} {tg:Ξ}
theorem gL {s2:τ} {o:Out D} {ds:List D} {it:Δ} {fp wr:List Δ} {St:Nat→Â→Prop} (x:Ee X z z1) (I:Rep X z1) (g:Gr z1.s s2) (T:Itr X.W tg it fp wr ds z1.ρ z1.G St) (st:St 0 s2.heap) (hf:∀ b∈fp,(z1.h b=none∧∃ o,s2.heap.get? b=some o)∨(b ∉ wr∧∃ o,z1.G b=some o)) (e:o = .ok (.lst ds) z1.t):FI X z tg o (.ref it) s2:=
 ⟨{ z1 with s:=s2 },ds,it,fp,wr,St,rfl,e,x.trans (aq I.gh g).ee,fun tk=>I.grow (aq I.gh g) tk,rfl,T,st,fun b hb=>(hf b hb).imp_left fun ⟨n,ex⟩=>⟨⟨x.st.no n,I.fre n⟩,ex⟩⟩
theorem oQ (I:Rep X z) (e:z.G a=some o):a≠z.s.heap.objs.size:=ϲ (ϟ (I.gh a o e))
theorem Di (hc:X.calm=true) (ha:LE X e a):LI X tg e (.itv a):=fun z I nb=>(ha false).go (K:=fun v s1=>Ε X.M X.A (EH v) (FI X z tg (X.ev false (.itv a) z.t)) NoE s1) .refl I rfl nb fun z1 d u y x1 I1 r1 e1=>by
 have r:=r1.rd
 cases d with
 | lst l=>
   obtain ⟨p,o,vs,rfl,g,⟨⟨n,rfl⟩,hz⟩,r⟩:=r
   have ne:=oQ I1 g
   refine E9 (show z1.s.heap.IsList p vs.toArray from ⟨_,I1.gh _ _ g,rfl,n,rfl⟩) (gL (wr:=[z1.s.heap.objs.size]) x1 I1 (.push (t:=z1.s.toks)) (Itr.walks (I1.hd hc) (by simp [r.len]) (fun A hA=>HH hA _ p ne vs.toArray) (fun i h st b hb=>by rw [ι.mp hb];obtain ⟨⟨o,e,_⟩,_⟩:=st;exact ⟨o,e⟩) (fun st q=>let ⟨⟨o,e,c,d⟩,_⟩:=st;iU e c d (by decide) q) fun i v d p1 p2 ρ' G' h1 h2=>?_) ⟨⟨_,Λ _ rfl,rfl,rfl⟩,⟨_,Κ _ (I1.gh _ _ g),rfl,n,rfl⟩⟩ (fun b hb=>?_) e1)
   ·obtain ⟨v',w1,w2⟩:=(r.mono h1 h2).get p2
    rw [show vs[i]? = some v by simpa using p1] at w1;cases w1;exact w2
   ·rcases φ.mp hb with w | w
    ·rw [w];exact .inl ⟨aH z1,_,Λ _ rfl⟩
    ·rw [ι.mp w];exact .inr ⟨fun m=>ne (ι.mp m),_,g⟩
 | tup l=>
   obtain ⟨p,o,vs,rfl,g,⟨tc,⟨n,td⟩,hz⟩,r⟩:=r
   have ne:=oQ I1 g
   refine wpAny_pyIter_tuple (show z1.s.heap.IsTuple p vs.toArray from ⟨_,I1.gh _ _ g,tc,n,td⟩) (gL (wr:=[z1.s.heap.objs.size]) x1 I1 (.push (t:=z1.s.toks)) (Itr.walks (I1.hd hc) (by simp [r.len]) (fun A hA=>Walks.tuple hA _ p ne vs.toArray) (fun i h st b hb=>by rw [ι.mp hb];obtain ⟨⟨o,e,_⟩,_⟩:=st;exact ⟨o,e⟩) (fun st q=>let ⟨⟨o,e,c,d⟩,_⟩:=st;iU e c d (by decide) q) fun i v d p1 p2 ρ' G' h1 h2=>?_) ⟨⟨_,Λ _ rfl,rfl,rfl⟩,⟨_,Κ _ (I1.gh _ _ g),tc,n,td⟩⟩ (fun b hb=>?_) e1)
   ·obtain ⟨v',w1,w2⟩:=(r.mono h1 h2).get p2
    rw [show vs[i]? = some v by simpa using p1] at w1;cases w1;exact w2
   ·rcases φ.mp hb with w | w
    ·rw [w];exact .inl ⟨aH z1,_,Λ _ rfl⟩
    ·rw [ι.mp w];exact .inr ⟨fun m=>ne (ι.mp m),_,g⟩
 | dic ks l=>
   obtain ⟨p,o,vs,rfl,hs,g,⟨es,ep,c1,c2,c3,c4,c5,hz⟩,hl,r⟩:=r
   have ne:=oQ I1 g
   have dm:Heap.DictAt (bO X.W.P X.W.w) z1.s.heap p (ks.zip vs) ep:=⟨o,es,I1.gh _ _ g,c1,c2,c3,c4,c5⟩
   have lk:ks.length=vs.length:=hl.trans r.len
   have lz:(ks.zip vs).length=(ks.map yy).length:=by rw [Ä,ο];omega
   refine wpAny_pyIter_dict hs dm (gL (ds:=ks.map yy) (wr:=[z1.s.heap.objs.size]) x1 I1 (.push (t:=z1.s.toks)) (Itr.walks (I1.hd hc) lz.symm (fun A hA=>Walks.dictKeys (knd:=bO X.W.P X.W.w) hA _ p ne (ks.zip vs) ep) (fun i h st b hb=>by rw [ι.mp hb];obtain ⟨⟨o,e,_⟩,_⟩:=st;exact ⟨o,e⟩) (fun st q=>let ⟨⟨o,e,c,d⟩,_⟩:=st;iU e c d (by decide) q) fun i v d p1 p2 ρ' G' h1 h2=>?_) ⟨⟨_,Λ _ rfl,rfl,rfl⟩,⟨o,es,Κ _ (I1.gh _ _ g),c1,c2,c3,c4,c5⟩⟩ (fun b hb=>?_) e1)
   ·obtain ⟨k,u,w1,w2⟩:=p1
    have kk:ks[i]? = some k:=by
     have:=İ.mp w1;exact this.1
    rw [ϑ,kk] at p2
    cases p2
    rcases ay w2 with ⟨j,t,rfl,rfl⟩ | ⟨x,t,rfl,rfl⟩
    ·exact ⟨t,rfl⟩
    ·exact ⟨t,rfl⟩
   ·rcases φ.mp hb with w | w
    ·rw [w];exact .inl ⟨aH z1,_,Λ _ rfl⟩
    ·rw [ι.mp w];exact .inr ⟨fun m=>ne (ι.mp m),_,g⟩
 | str y=>
   obtain ⟨t,rfl⟩:=r
   have e1:X.ev false (.itv a) z.t=Out.of z1.t ((if y.cps.all (· < 128)=true then some (y.cps.toList.map fun c=>D.str ⟨#[c]⟩) else none).map D.lst):=e1
   by_cases hy:y.cps.all (· < 128)=true
   ·rw [ZZ hy] at e1
    refine wpAny_pyIter_ascii hy (gL (ds:=y.cps.toList.map fun c=>.str ⟨#[c]⟩) (wr:=[z1.s.heap.objs.size]) x1 I1 (.push (t:=z1.s.toks)) (Itr.walks (I1.hd hc) (by simp) (fun A hA=>Walks.strAscii hA _ y t) (fun i h st b hb=>by rw [ι.mp hb];obtain ⟨o,e,_⟩:=st;exact ⟨o,e⟩) (fun st q=>let ⟨o,e,c,d⟩:=st;iU e c d (by decide) q) fun i v d p1 p2 ρ' G' h1 h2=>?_) ⟨_,Λ _ rfl,rfl,rfl⟩ (fun b hb=>?_) e1)
    ·obtain ⟨c,u,w1,rfl⟩:=p1
     rw [ϑ,Array.getElem?_toList,w1] at p2
     cases p2;exact ⟨u,rfl⟩
    ·rw [ι.mp hb];exact .inl ⟨aH z1,_,Λ _ rfl⟩
   ·rw [ZY hy] at e1;exact ZX e1 nb
 | _=>exact ZX e1 nb
theorem wD {a:Int}:(hW a n).length=n:=by simp [hW]
theorem ua {lo hi:Int} {t u v:Tok} {tk:Nat} {o:Out D} (hc:X.calm=true) (x:Ee X z z1) (I:Rep X z1) (h1:-(2 ^ 62)≤lo) (h2:lo<2 ^ 62) (h3:-(2 ^ 62)≤hi) (h4:hi<2 ^ 62) (e:o = .ok (.lst (hW lo (hi - lo).toNat)) z1.t):Ε X.M X.A (EH (.ref z1.s.heap.objs.size)) (FI X z tg o) NoE { z1.s with heap:=z1.s.heap.push { cls:=.type "range",data:=.fields #[.int lo t,.int hi u,.int 1 v] },toks:=tk }:=by
 refine wpAny_pyIter_range (IsRange.new ..) (small_one h1 h2 h3 h4) ?_
 have e2:(((hi - lo).toNat:Nat):Int) - ((0:Nat):Int)=HV lo hi 1:=by rw [rangeSize_one];split <;> omega
 have g0:Gr z1.s { z1.s with heap:=z1.s.heap.push { cls:=.type "range",data:=.fields #[.int lo t,.int hi u,.int 1 v] },toks:=tk }:=.push
 refine gL (ds:=hW lo (hi - lo).toNat) x I (g0.trans (.push (t:=tk))) (Itr.walks (I.hd hc) wD (fun A hA=>Walks.range hA _ lo 1 (hi - lo).toNat) (fun i h st b hb=>by rw [ι.mp hb];exact ⟨_,st⟩) (fun st q=>iU st rfl rfl (by decide) q) fun i v d p1 p2 ρ' G' _ _=>?_) ?_ (fun b hb=>?_) e
 ·obtain ⟨t,rfl⟩:=p1
  unfold hW at p2
  rw [ϑ,Α] at p2
  obtain ⟨j,p3,rfl⟩:=p2
  obtain ⟨hj,hj2⟩:=ν.mp p3
  rw [List.getElem_range] at hj2
  subst hj2
  exact ⟨t,by rw [Int.mul_one]⟩
 ·show IsRangeIter _ _ (lo+((0:Nat):Int) * 1) ((((hi - lo).toNat:Nat):Int) - ((0:Nat):Int)) 1
  rw [e2,show lo+((0:Nat):Int) * 1=lo by simp]
  exact Λ _ rfl
 ·rw [ι.mp hb];exact .inl ⟨Ϙ (by rw [Ş];exact Ě _),_,Λ _ rfl⟩
theorem qv (hc:X.calm=true) (hx:Blt X "range" (.type "range")) (ha:LE X ea a) (he:Ο [ea] X.env=(false,eval ea X.env) :: Ο [] X.env):LI X tg (.Call (.Name "range" p) [ea] [] pos) (.it .range1 (.cons a .nil)):=fun z I nb=>
 aR (Q:=fun v s1=>Ε X.M X.A (EH v) (FI X z tg (X.ev false (.it .range1 (.cons a .nil)) z.t)) NoE s1) (.inr ⟨_,rfl⟩) hx he rfl I (Τ ((ha false).go .refl I (ev1 fun l s=>Out.of s ((itD .range1 l).map D.lst)) nb fun z1 x u y1 x1 I1 r1 e1=>ϋ (by
  cases x with
  | int j=>
    obtain ⟨t,rfl⟩:=r1.rd
    have e1:X.ev false (.it .range1 (.cons a .nil)) z.t=Out.of z1.t ((if -(2 ^ 62)≤j∧j<2 ^ 62 then some (hW 0 j.toNat) else none).map D.lst):=e1
    by_cases c:-(2 ^ 62)≤j∧j<2 ^ 62
    ·rw [ZZ c] at e1
     exact call_range_1 (ua hc x1 I1 (by omega) (by omega) c.1 c.2 (by rw [Int.sub_zero];exact e1))
    ·rw [ZY c] at e1;exact ZX e1 nb
  | _=>exact ZX e1 nb)))
theorem oy:∀ {l:List D} {i:Nat} {j:Int},(cY j l)[i]? = (l[i]?).map fun d=>.tup [.int (j+i),d]
 | [],_,_=>by unfold cY;simp
 | a :: r,0,j=>by unfold cY;simp
 | a :: r,i+1,j=>by
   unfold cY
   rw [ã,ã,oy]
   congr 1;funext d;congr 3;omega
theorem kt:∀ {l:List D} {j:Int},(cY j l).length=l.length
 | [],_=>by unfold cY;rfl
 | a :: r,j=>by unfold cY;rw [ψ,ψ,kt]
theorem vM {es:List Ξ} {k:Nat} {tp:ϧ} (hc:X.calm=true) (hx:Blt X "enumerate" (.type "enumerate")) (ha:LE X ea a) (he:Ο [ea] X.env=(false,eval ea X.env) :: Ο [] X.env):LI X (.Tuple es k tp) (.Call (.Name "enumerate" p) [ea] [] pos) (.it .enum (.cons a .nil)):=fun z I nb=>
 aR (Q:=fun v s1=>Ε X.M X.A (EH v) (FI X z (.Tuple es k tp) (X.ev false (.it .enum (.cons a .nil)) z.t)) NoE s1) (.inr ⟨_,rfl⟩) hx he rfl I (Τ ((ha false).go .refl I (ev1 fun l s=>Out.of s ((itD .enum l).map D.lst)) nb fun z1 x u y1 x1 I1 r1 e1=>ϋ (by
  cases x with
  | lst l=>
    obtain ⟨a0,o,vs,rfl,g,⟨⟨n,rfl⟩,hz⟩,r⟩:=r1.rd
    have hlt:=ϟ (I1.gh _ _ g)
    refine call_enumerate_1 (I1.gh _ _ g) fun h' g1 g2 hsz kp=>wpAny_pyIter_enum g1 (gL (ds:=cY 0 l) x1 I1 (s2:={ z1.s with heap:=h' }) (.hp (t:=z1.s.toks) kp) (Itr.walksT (I1.hd hc) (by rw [kt];simp [r.len]) (fun A hA=>nY (Draws.list (A:=A.in1) hA z1.s.heap.objs.size a0 (ϲ hlt) vs.toArray) (z1.s.heap.objs.size+1) (GN _) (nin _ 1 0 _ (by decide) hlt) κ) (fun i h st b hb=>?_) (fun _ _ _ m=>m.2) fun i vals d p1 p2=>?_) ⟨⟨_,g1⟩,g2,⟨_,kp _ _ (I1.gh _ _ g),rfl,n,rfl⟩⟩ (fun b hb=>?_) e1)
    ·obtain ⟨⟨old,e1⟩,⟨o2,e2,_⟩,_⟩:=st
     rcases φ.mp hb with w | w
     ·rw [w];exact ⟨_,e1⟩
     ·rw [ι.mp w];exact ⟨o2,e2⟩
    ·obtain ⟨t,v,p3,rfl⟩:=p1
     rw [oy,Α] at p2
     obtain ⟨d',p4,rfl⟩:=p2
     refine ⟨by simp [ï],_,rfl,fun ρ' G' h1 h2=>?_⟩
     obtain ⟨v',w1,w2⟩:=(r.mono h1 h2).get p4
     rw [show vs[i]? = some v by simpa using p3] at w1;cases w1
     exact .cons ⟨t,by rw [Fm]⟩ (.cons w2 rfl)
    ·rcases φ.mp hb with w | w
     ·rw [w];exact .inl ⟨r6 (Ě _),_,g1⟩
     ·rcases φ.mp w with w | w
      ·obtain ⟨o2,e2,_⟩:=g2
       rw [w];exact .inl ⟨aH z1,_,e2⟩
      ·rw [ι.mp w]
       refine .inr ⟨fun m=>?_,_,g⟩
       rcases φ.mp m with q | q
       ·exact ϲ (Nat.lt_succ_of_lt hlt) q
       ·exact ϲ hlt (ι.mp q)
  | _=>exact ZX e1 nb)))
end
def iy (env:Ų):List (θ×Β)→List (θ×Δ)→List (θ×Δ)
 | [],cs=>cs
 | y :: r,cs=>iy env r (if (y.2 == Ñ)=true then (match env.cells.lookup y.1 with | some a=>(y.1,a) :: cs | none=>cs) else cs)
theorem cG :∀ {l:List (θ×β)} {p:θ×β},p∈l→∃ c,l.lookup p.1=some c
 | [],_,h=>nomatch h
 | (a,b) :: r,p,h=>by
   cases e:p.1 == a with
   | true=>exact ⟨b,by simp only [ē,e]⟩
   | false=>
     rcases φ.mp h with q | q
     ·subst q;simp at e
     ·obtain ⟨c,hc⟩:=cG q
      exact ⟨c,by simp only [ē,e];exact hc⟩
theorem ki :∀ {ns} {cs} {p:θ×Δ},p∈iy env ns cs→p∈cs∨env.cells.lookup p.1=some p.2
 | [],_,_,h=>.inl h
 | y :: r,cs,p,h=>by
   rcases ki (ns:=r) h with q | q
   ·by_cases hk:(y.2 == Ñ)=true
    ·rw [ZZ hk] at q
     cases e:env.cells.lookup y.1 with
     | none=>rw [e] at q;exact .inl q
     | some a=>
       rw [e] at q
       rcases φ.mp q with rfl | q
       ·exact .inr e
       ·exact .inl q
    ·rw [ZY hk] at q;exact .inl q
   ·exact .inr q
theorem iO :∀ {ns} {cs} {p:θ×Δ},p∈cs→p∈iy env ns cs
 | [],_,_,h=>h
 | y :: r,cs,p,h=>by
   refine iO (ns:=r) ?_
   by_cases hk:(y.2 == Ñ)=true
   ·rw [ZZ hk]
    cases e:env.cells.lookup y.1 with
    | none=>exact h
    | some a=>exact υ _ h
   ·rw [ZY hk];exact h
theorem gF :∀ {ns} {cs} {y:θ×Β} {c},y∈ns→y.2 = .free→env.cells.lookup y.1=some c→(y.1,c)∈iy env ns cs
 | z :: r,cs,y,c,h,hf,hc=>by
   rcases φ.mp h with rfl | h
   ·refine iO (ns:=r) ?_
    rw [ZZ (by rw [hf];rfl),hc]
    exact κ
   ·exact gF (ns:=r) h hf hc
theorem dY
 (hf:∀ y cs,f y cs=if (y.2 == Ñ)=true then (do let a ← cellOf env y.1;pure (ϴ ((y.1,a) :: cs))) else pure (ϴ cs)) :
 ∀ (ns) (cs),(∀ y∈ns,y.2 = .free→∃ c,env.cells.lookup y.1=some c)→(forIn ns cs f:DR _)=pure (iy env ns cs)
 | [],cs,_=>rfl
 | y :: r,cs,h=>by
   rw [E4,hf]
   by_cases hk:(y.2 == Ñ)=true
   ·obtain ⟨c,hc⟩:=h y κ (by simpa using hk)
    have e1:cellOf env y.1=pure c:=by unfold cellOf;rw [hc]
    rw [ZZ hk,e1]
    have ih:=dY hf r ((y.1,c) :: cs) fun z hz=>h z (υ _ hz)
    show (forIn r ((y.1,c) :: cs) f:DR _)=pure (iy env r _)
    rw [ih,ZZ hk,hc]
   ·have ih:=dY hf r cs fun z hz=>h z (υ _ hz)
    rw [ZY hk]
    show (forIn r cs f:DR _)=pure (iy env r _)
    rw [ih,ZY hk]
theorem mE (h:∀ y∈sc.names,y.2 = .free→∃ c,env.cells.lookup y.1=some c):Hb sc env=pure (iy env sc.names []):=by
 simp only [Hb]
 rw [dY (env:=env) (fun y cs=>by obtain ⟨n,kd⟩:=y;by_cases hk:(kd == Ñ)=true <;> simp [hk]) sc.names [] h]
 rfl
def cxC (X:Cx) (N:List θ) (sc:Ą) (C:Δ):Cx:={ X with N:=N,env:=compEnvC sc (iy X.env sc.names []) C X.env }
def i5 (sc:Ą) (env:Ų) (p:θ×θ):Bool:=match (relabel sc env).names.lookup p.1 with
 | some .local=>false
 | some .cell=>p.1 == p.2
 | some .free=>p.1 == p.2
 | _=>true
structure Lcn (X:Cx) (sc:Ą) (k:Nat) (N:List θ):Prop where
 nocell:∀ y∈sc.names,y.2≠.cell
 kind:sc.kind = .function
 names:∀ y∈sc.names,y.2 = .local→sc.names.lookup y.1=some .local
 fr:∀ y∈sc.names,y.2 = .free→X.env.kindOf y.1=some .cell∨X.env.kindOf y.1=some .free
 len:N.length=k+X.N.length
 old:((N.drop k).zip X.N).all (i5 sc X.env)=true
theorem BJ (h1:(sc.names.all fun y=>y.2 != .cell)=true) (h2:sc.kind = .function) (h3:(sc.names.all fun y=>y.2 != .local || sc.names.lookup y.1 == some .local)=true)
 (h4:(sc.names.all fun y=>y.2 != .free || (X.env.kindOf y.1 == some .cell || X.env.kindOf y.1 == some .free))=true) (h5:N.length=k+X.N.length) (h6:((N.drop k).zip X.N).all (i5 sc X.env)=true):Lcn X sc k N where
 nocell:=fun y hy=>by have:=Ψ.mp h1 y hy;simpa using this
 kind:=h2
 names:=fun y hy hl=>by have:=Ψ.mp h3 y hy;simpa [hl] using this
 fr:=fun y hy hl=>by have:=Ψ.mp h4 y hy;simpa [hl] using this
 len:=h5
 old:=h6
section
variable {X:Cx} {sc:Ą} {k:Nat} {N:List θ} {z z' z0 z1:Z} {C:Δ}
theorem Lcn.cells (L:Lcn X sc k N) (ok:COk X):∀ y∈sc.names,y.2 = .free→∃ c,X.env.cells.lookup y.1=some c:=fun y hy hf=>ok.ch y.1 (L.fr y hy hf)
theorem kl (e:(iy X.env sc.names []).lookup x=some c):X.env.cells.lookup x=some c:=by
 rcases ki (Ð e) with q | q
 ·exact nomatch q
 ·exact q
theorem cu (L:Lcn X sc k N) (e:(relabel sc X.env).names.lookup x=some kd) (hk:kd = .cell∨kd = .free):(x,Ñ)∈sc.names:=by
 have hm:=Ð e
 obtain ⟨⟨n,k'⟩,hy,q⟩:=ō.mp hm
 dsimp only at q
 by_cases hc:(k' == Ñ && X.env.scope.kind == .function && X.env.kindOf n == some .cell)=true
 ·rw [ZZ hc] at q
  have e1:n=x:=ZS ł q
  have e2:k' = .free:=by simp at hc;exact hc.1.1
  subst e1 e2
  exact hy
 ·rw [ZY hc] at q
  have e1:n=x:=ZS ł q
  have e2:k'=kd:=ZS Es q
  subst e1 e2
  rcases hk with rfl | rfl
  ·exact ZX rfl (L.nocell _ hy)
  ·exact hy
theorem qg (L:Lcn X sc k N) (hi:N[i]? = some x) (hk:k≤i) (v:Vis (relabel sc X.env) x):X.N[i - k]? = some x∧(x,Ñ)∈sc.names:=by
 have hlt:i<N.length:=(ν.mp hi).1
 have hl:=L.len
 have h2:i - k<X.N.length:=by omega
 have e1:(N.drop k)[i - k]? = some x:=by rw [Ű];rw [show k+(i - k)=i by omega];exact hi
 have e2:X.N[i - k]? = some X.N[i - k]:=Ζ h2
 have hz:((N.drop k).zip X.N)[i - k]? = some (x,X.N[i - k]):=by rw [İ];exact ⟨e1,e2⟩
 have ho:=Ψ.mp L.old _ (Ι hz)
 have v':(relabel sc X.env).names.lookup x=some .local∨(relabel sc X.env).names.lookup x=some .cell∨(relabel sc X.env).names.lookup x=some .free:=v
 unfold i5 at ho
 rcases v' with q | q | q
 ·simp only [q] at ho;cases ho
 ·simp only [q] at ho
  have e3:x=X.N[i - k]:=by simpa using ho
  exact ⟨by rw [e2,← e3],cu L q (.inl rfl)⟩
 ·simp only [q] at ho
  have e3:x=X.N[i - k]:=by simpa using ho
  exact ⟨by rw [e2,← e3],cu L q (.inr rfl)⟩
theorem HR.cx (I:HR X z):HR (cxC X N sc C) z:=⟨I.md,I.fm,I.hd,I.bs,I.gh,I.rl,I.rn,I.rg,I.ob,I.fu,I.ff,I.br,I.os,I.tk⟩
theorem HR.out (I:HR (cxC X N sc C) z):HR X z:=⟨I.md,I.fm,I.hd,I.bs,I.gh,I.rl,I.rn,I.rg,I.ob,I.fu,I.ff,I.br,I.os,I.tk⟩
theorem xy (h:Lc (cxC X N sc C) a):a=C∨Lc X a:=h.imp_right fun ⟨x,e⟩=>.inr ⟨x,kl e⟩
theorem sP {s':τ} {m:θ→Option η} (L:Lcn X sc k N) (I:Rep X z) (ow:z.t.ow = []) (g:Gr z.s s') (hC:z.h C=none) (hn:s'.heap.Ns C m) (tk:X.tz≤s'.toks:=by first | assumption | exact HR.tk (by assumption) | exact HR.tk1 (by assumption) | exact (Rep.toHR (by assumption)).tk | exact (Rep.toHR (by assumption)).tk1 | exact ϡ (by assumption)):Rep (cxC X N sc C) ⟨z.ρ,z.G,⟨μ k none ++ z.t.env,[],z.t.st⟩,μ k none ++ z.σ,s'⟩:=by
 have H:=(I.toHR.grow (aq I.gh g) tk).cx (N:=N) (sc:=sc) (C:=C)
 have ck:∀ {c:Δ} {v:Option η},z.s.heap.IsCell c v→s'.heap.IsCell c v:=fun ⟨o,e,d⟩=>⟨o,g.k _ o e,d⟩
 have fC:=I.fre hC
 refine ⟨⟨H.md,H.fm,H.hd,H.bs,H.gh,H.rl,H.rn,H.rg,H.ob,H.fu,H.ff,H.br,H.os,H.tk⟩,⟨I.ok.un,L.kind,I.ok.gl,I.ok.bl,fun x y c h1 h2=>I.ok.ci x y c (kl h1) (kl h2),fun x hx=>?_⟩,⟨m,hn,fun i x v h1 h2 h3=>?_⟩,fun x c e=>let ⟨v,q⟩:=I.ce x c (kl e);⟨v,ck q⟩,fun a l=>?_,by show (μ k none ++ z.t.env).length=(μ k none ++ z.σ).length;rw [ζ,ζ,I.el];simp,by show (μ k none ++ z.σ).length=N.length;rw [ζ,Ϛ,L.len,I.sl],fun i d _ e=>?_,(fun i m=>nomatch m),(fun i j a m=>nomatch m)⟩
 ·have hx':(relabel sc X.env).names.lookup x=some .cell∨(relabel sc X.env).names.lookup x=some .free:=hx
  have hm:(x,Ñ)∈sc.names:=by
   rcases hx' with q | q
   ·exact cu L q (.inl rfl)
   ·exact cu L q (.inr rfl)
  obtain ⟨c,hc⟩:=L.cells I.ok _ hm rfl
  exact cG (gF hm rfl hc)
 ·have hki:k≤i:=by
   by_cases q:i<k
   ·rw [ϓ (by simpa using q),Ă,ZZ q] at h2
    cases h2
   ·omega
  rw [Χ (by simpa using hki),Ϛ] at h2
  obtain ⟨hx,hm⟩:=qg L h1 hki h3
  have hkx:=L.fr _ hm rfl
  have hvis:Vis X.env.scope x:=by
   rcases hkx with q | q
   ·exact .inr (.inl q)
   ·exact .inr (.inr q)
  obtain ⟨m0,_,hl⟩:=I.lo
  rcases hl (i - k) x v hx h2 hvis with ⟨q,_⟩ | ⟨_,c,hc,hcell⟩
  ·rcases hkx with z | z
   ·rw [show X.env.kindOf x=some .cell from z] at q;cases q
   ·rw [show X.env.kindOf x=some .free from z] at q;cases q
  ·obtain ⟨c',hc'⟩:=cG (gF hm rfl hc)
   have e:=kl hc'
   rw [hc] at e;cases e
   refine .inr ⟨?_,c,hc',ck hcell⟩
   have v':(relabel sc X.env).names.lookup x=some .local∨(relabel sc X.env).names.lookup x=some .cell∨(relabel sc X.env).names.lookup x=some .free:=h3
   rcases v' with z | z | z
   ·exfalso
    have hlt:i<N.length:=(ν.mp h1).1
    have hl':=L.len
    have h2':i - k<X.N.length:=by omega
    have hz:((N.drop k).zip X.N)[i - k]? = some (x,X.N[i - k]):=by
     rw [İ]
     exact ⟨by rw [Ű,show k+(i - k)=i by omega];exact h1,Ζ h2'⟩
    have ho:=Ψ.mp L.old _ (Ι hz)
    unfold i5 at ho
    simp only [z] at ho
    cases ho
   ·exact .inl z
   ·exact .inr z
 ·rcases xy l with rfl | l
  ·exact ⟨fC.1.1,fC.1.2.1⟩
  ·exact I.fl a l
 ·have hki:k≤i:=by
   by_cases q:i<k
   ·have e:(μ k none ++ z.t.env)[i]? = some (some d):=e
    rw [ϓ (by simpa using q),Ă,ZZ q] at e
    cases e
   ·omega
  have e:(μ k none ++ z.t.env)[i]? = some (some d):=e
  rw [Χ (by simpa using hki),Ϛ] at e
  obtain ⟨u,e1,r⟩:=I.en (i - k) d (by rw [ow];exact nofun) e
  exact ⟨u,by show (μ k none ++ z.σ)[i]? = _;rw [Χ (by simpa using hki),Ϛ];exact e1,r⟩
theorem sN {zr:Z} (I:Rep X z) (Ir:Rep X zr) (er:zr.t.env=z.t.env∧zr.σ=z.σ∧zr.t.ow = []) (S:Stp X.fr (Own z) z z') (H:HR X z') (pr:zr.ρ <+: z'.ρ) (gg:Sub zr.G z'.G):Rep X { z' with t:=⟨z.t.env,[],z'.t.st⟩,σ:=z.σ }:=by
 have sl:∀ b o,z.h b=some o→¬ Mu z.ρ b→¬ Own z b→∃ sl,z'.s.heap.get? b=some { o with slots:=sl }:=fun b o e n w=>by
  by_cases f:b∈frs X.fr
  ·exact S.sl b o e n w f
  ·exact ⟨o.slots,S.sm b o e n w f⟩
 have nO:∀ {a},Lc X a→¬ Own z a:=fun l w=>(I.oth w).1.2.2.2 l
 have ck:∀ x c v,X.env.cells.lookup x=some c→z.s.heap.IsCell c v→z'.s.heap.IsCell c v:=fun x c v e ⟨o,q,d⟩=>by
  have l:Lc X c:=.inr ⟨x,e⟩
  obtain ⟨s,q2⟩:=sl c o q (I.fl c l).2 (nO l)
  exact ⟨_,q2,d⟩
 refine ⟨⟨H.md,H.fm,H.hd,H.bs,H.gh,H.rl,H.rn,H.rg,H.ob,H.fu,H.ff,H.br,H.os,H.tk⟩,I.ok,?_,fun x c e=>let ⟨v,q⟩:=I.ce x c e;⟨v,ck x c v e q⟩,fun a l=>⟨?_,fun m=>(S.rn a m).elim (I.fl a l).2 fun w=>?_⟩,I.el,I.sl,fun i d _ e=>?_,(fun i m=>nomatch m),(fun i j a m=>nomatch m)⟩
 ·obtain ⟨m,⟨oL,es,ep,q,r⟩,hl⟩:=I.lo
  have l:Lc X X.env.locals:=.inl rfl
  obtain ⟨s,q2⟩:=sl _ _ q (I.fl _ l).2 (nO l)
  exact ⟨m,⟨_,es,ep,q2,r⟩,fun j x w e1 e2 e3=>dB (fun c v e q=>ck x c v e q) (hl j x w e1 e2 e3)⟩
 ·cases q:z'.G a with
  | none=>rfl
  | some o=>
    obtain ⟨o1,e1⟩:=I.lth l
    rcases S.gn a o q with w | w | w
    ·rw [(I.fl a l).1] at w;cases w
    ·rw [w] at e1;cases e1
    ·exact ZX w (nO l)
 ·obtain ⟨o1,e1⟩:=I.lth l
  rw [w] at e1;cases e1
 ·obtain ⟨u,e1,r⟩:=Ir.en i d (by rw [er.2.2];exact nofun) (by rw [er.1];exact e)
  exact ⟨u,er.2.1 ▸ e1,r.mono pr gg⟩
def LTs (Y:Cx) (ifs:List Ξ) (c:E):Prop:=Jg Y (forIn ifs true fun c r=>if r=true then do let ok ← Fe c Y.env (eval c Y.env);pure (ϴ ok) else pure (ϴ r)) (fun t=>(Y.ev true c t).bind toB) RT
theorem v8:LTs X [] (.c (.bl true)):=fun z I nb=>wpAny_tests_nil ⟨z,true,rfl,rfl,.refl,I,rfl⟩
theorem v9 (h:LT X e c):LTs X [e] c:=fun z I nb=>wpAny_tests_one (h z I nb)
def lcF (X:Cx) (t:List Nat) (one:Bool) (elt cond:E) (d:D) (s':Sta):Out (Option D):=match aJ t one d s'.env with
 | some env=>(X.ev true cond ⟨env,[],s'.st⟩).bind fun b s2=>(match b with
   | .bl true=>(X.ev false elt s2).bind fun e s3=>.ok (some e) ⟨s3.env,[],s3.st⟩
   | .bl false=>.ok none ⟨s2.env,[],s2.st⟩
   | _=>.bad)
 | none=>.bad
theorem Ee.nil (x:Ee X z z') (h:z.t.ow = []):z'.t.ow = []∧Stp X.fr (fun _=>False) z z':=⟨List.eq_nil_iff_forall_not_mem.mpr (fun i m=>by have:=x.ow i m;rw [h] at this;exact nomatch this),x.st.mono fun a ⟨i,m,_⟩=>by rw [h] at m;exact nomatch m⟩
theorem pL {t:Sta} (h:t.ow = []):(⟨t.env,[],t.st⟩:Sta)=t:=by cases t;cases h;rfl
end
structure Wr (S ch:List Δ) (h h':Â):Prop where
 keep:∀ b o,h.get? b=some o→b ∉ S→b ∉ ch→h'.get? b=some o
 slot:∀ b o,h.get? b=some o→b ∉ ch→∃ sl,h'.get? b=some { o with slots:=sl }
 there:∀ b o,h.get? b=some o→∃ o',h'.get? b=some o'
section
variable {S ch ch':List Δ} {h h1 h2 h':Â}
theorem Wr.trans (x:Wr S ch h h1) (y:Wr S ch h1 h2):Wr S ch h h2:=
 ⟨fun b o e n m=>y.keep b o (x.keep b o e n m) n m,fun b o e m=>let ⟨_,e1⟩:=x.slot b o e m;let ⟨sl,e2⟩:=y.slot b _ e1 m;⟨sl,e2⟩,fun b o e=>let ⟨_,e1⟩:=x.there b o e;y.there b _ e1⟩
theorem Wr.mono (x:Wr S ch h h') (k:∀ b∈ch,b∈ch'):Wr S ch' h h':=⟨fun b o e n m=>x.keep b o e n fun z=>m (k b z),fun b o e m=>x.slot b o e fun z=>m (k b z),x.there⟩
theorem Wr.kept (k:∀ b o,h.get? b=some o→h'.get? b=some o):Wr S ch h h':=⟨fun b o e _ _=>k b o e,fun b o e _=>⟨o.slots,k b o e⟩,fun b o e=>⟨o,k b o e⟩⟩
theorem Wr.set (ho:h.get? a=some o) (hd:o.data = .fields vs) (g:Array η→Array η):Wr S [a] h (h.update a (Ę g)):=by
 have ot:∀ b,b≠a→(h.update a (Ę g)).get? b=h.get? b:=fun b n=>ϱ h _ fun z=>n z.symm
 have nm:∀ b,b ∉ [a]→b≠a:=fun b m z=>m (by rw [z];exact κ)
 refine ⟨fun b u e _ m=>by rw [ot b (nm b m)];exact e,fun b u e m=>⟨u.slots,by rw [ot b (nm b m)];exact e⟩,fun b u e=>?_⟩
 by_cases z:b=a
 ·subst z
  exact ⟨_,È _ ho (Ē (Į hd g))⟩
 ·exact ⟨u,by rw [ot b z];exact e⟩
theorem Wr.slots (x:Heap.SlotsOnly S h h'):Wr S ch h h':=⟨fun b o e n _=>(x.2.1 b n).trans e,fun b o e _=>x.2.2 b o e,fun b o e=>let ⟨_,q⟩:=x.2.2 b o e;⟨_,q⟩⟩
end
theorem gH (g:Array η→Array η) (o):(Ę g o).dict=o.dict:=by
 obtain ⟨c,d,dt,sl⟩:=o
 cases dt <;> rfl
section
variable {M:EW} {A:ϗ} {E:η→τ→Prop} {s:τ} {a T L:Δ} {cls fl:η} {dx:Option Δ} {Q:Unit→τ→Prop} {base:Â} {env:Ų} {outer:List Ų} {S:List Δ}
theorem nR (t:Tr s.heap a cls dx T fl) (hQ:∀ h',Tr h' a cls dx T (fr.elim .none fun f=>ú f)→Wr S [T] s.heap h'→Q () { s with heap:=h' }):Ε M A (FP (.ref a) fr) Q E s:=by
 obtain ⟨oe,vs,oT,ts,he,hc,hd,h1,ne,hT,hdT,h3⟩:=t
 have z3:=(ô.mp h3).1
 unfold FP
 refine ε (Ë he hd h1 ?_)
 rw [ZZ (show (É T != ϣ)=true by simp)]
 refine ų hT hdT z3 (hQ _ ?_ (Wr.set hT hdT _))
 have dT:=Į hdT (·.setIfInBounds 3 (fr.elim ϣ fun f=>ú f))
 exact ⟨oe,vs,_,_,(ϱ _ _ ne).trans he,hc,hd,h1,ne,È _ hT (Ē dT),dT,by simp [z3]⟩
theorem entry (hfr:A.frames=some (env :: outer)) (hl:s.heap.FunFrames base (env :: outer)) (hf:env.frame=some L) (he:s.heap.get? a=some oe) (hd:oe.data = .fields vs) (hz:1<vs.size)
 (hQ:∀ h' T,s.heap.get? T=none→Tr h' a oe.cls oe.dict T (ú L)→Wr (frs (env :: outer)) [a] s.heap h'→Q () { s with heap:=h' }) :
 Ε M A (do let x ← frameOf env;let pl ← entryPlaceOf L hn;let b ← EO head x .none (ú L) .none pl;setField (.ref a) 1 b) Q E s:=by
 have na:a ∉ (env :: outer).filterMap (·.frame):=fun m=>by
  obtain ⟨_,o,ho,nf⟩:=hl.mem m
  rw [he] at ho
  cases ho
  exact nf vs hd
 refine ε (wpAny_frameOf_fun hfr hl hf fun g hg=>ε (wpAny_entryPlaceOf fun pl hp=>?_))
 unfold EO newFields;refine ε (ø ?_ (IsPlace.sizeOk5 hp _ _ _ _ _))
 have ea:g.get? a=some oe:=(hg.2.1 a na).trans he
 generalize hu:([head,É L,ϣ,ú L,ϣ] ++ (if pl.isEmpty then μ 6 ϣ else pl)).toArray=us
 have u3:us[3]? = some (ú L):=by rw [← hu];rfl
 have ea2:=Κ (h:=g) { cls:=.type "traceback",dict:=none,data:=.fields us } ea
 have nT:g.objs.size≠a:=ê (ϟ ea)
 refine ų ea2 hd hz (hQ _ g.objs.size ?_ ?_ ?_)
 ·rw [hg.1];exact Ϙ (ύ _)
 ·have da:=Į hd (·.setIfInBounds 1 (É g.objs.size))
  exact ⟨_,_,_,us,È _ ea2 (Ē da),⟨Gx _ _,gH _ _⟩,da,by simp [hz],nT,(ϱ _ _ (ϳ nT)).trans (Λ g rfl),rfl,u3⟩
 ·exact (Wr.slots (ch:=[a]) hg).trans ((Wr.kept fun b o e=>Κ _ e).trans (Wr.set ea2 hd _))
theorem tT (hfr:A.frames=some (env :: outer)) (hl:s.heap.FunFrames base (env :: outer)) (hf:env.frame=some L) (x:Rw s.heap a cls dx)
 (hQ:∀ h' T,s.heap.get? T=none→Tr h' a cls dx T (ú L)→Wr (frs (env :: outer)) [a] s.heap h'→Q () { s with heap:=h' }):Ε M A (û (.ref a) env) Q E s:=by
 obtain ⟨oe,vs,he,⟨rfl,rfl⟩,hd,h1⟩:=x
 unfold û
 simp only [hf]
 refine ε (Ë he hd h1 ?_)
 rw [ZY (by decide)]
 exact entry hfr hl hf he hd (ô.mp h1).1 hQ
theorem qE (hfr:A.frames=some (env :: outer)) (hl:s.heap.FunFrames base (env :: outer)) (hf:env.frame=some L) (x:Tr s.heap a cls dx T .none)
 (hQ:∀ h' T',s.heap.get? T'=none→Tr h' a cls dx T' (ú L)→Wr (frs (env :: outer)) [a,T] s.heap h'→Q () { s with heap:=h' }):Ε M A (û (.ref a) env) Q E s:=by
 obtain ⟨oe,vs,oT,ts,he,⟨rfl,rfl⟩,hd,h1,ne,hT,hdT,h3⟩:=x
 unfold û
 simp only [hf]
 refine ε (Ë he hd h1 ?_)
 rw [ZZ (show (É T != ϣ)=true by simp)]
 refine ε (Ë hT hdT h3 ?_)
 rw [ZY (show ¬ ((ϣ == ú L)=true) by simp [ú])]
 refine ε (ų hT hdT (ô.mp h3).1 ?_)
 have w1:Wr (frs (env :: outer)) [T] s.heap _:=Wr.set hT hdT (·.setIfInBounds 3 ϣ)
 refine entry hfr (hl.of_keeps fun b o e nf=>⟨o,?_,rfl⟩) hf ((ϱ _ _ ne).trans he) hd (ô.mp h1).1 fun h' T' n t w=>hQ h' T' ?_ t ((w1.mono (by simp)).trans (w.mono (by simp)))
 ·refine (ϱ _ _ fun z=>?_).trans e
  subst z
  rw [hT] at e
  cases e
  exact nf ts hdT
 ·cases q:s.heap.get? T' with
  | none=>rfl
  | some o=>
    obtain ⟨o',e'⟩:=w1.there T' o q
    rw [n] at e'
    cases e'
theorem qD (hf:env.frame=some L) (x:Tr s.heap a cls dx T (ú L)) (hQ:Q () s):Ε M A (û (.ref a) env) Q E s:=by
 obtain ⟨oe,vs,oT,ts,he,⟨rfl,rfl⟩,hd,h1,ne,hT,hdT,h3⟩:=x
 unfold û
 simp only [hf]
 refine ε (Ë he hd h1 ?_)
 rw [ZZ (show (É T != ϣ)=true by simp)]
 refine ε (Ë hT hdT h3 ?_)
 rw [ZZ (show (ú L == ú L)=true by simp)]
 exact π hQ
end
section
variable {X:Cx} {z z' z0 z1:Z} {M:EW} {w:Δ→Prop}
theorem rY {h h':Â}:∀ {l:List Ų},h.FunFrames base l→(∀ b∈frs l,∀ o,h.get? b=some o→∃ sl,h'.get? b=some { o with slots:=sl })→h'.FunFrames base l
 | [],_,_=>trivial
 | v :: r,⟨a,⟨L,o,e1,e2,e3,e4⟩,q⟩,k=>by
   have hm:L∈frs (v :: r):=by unfold frs;rw [ϥ,e1];exact κ
   obtain ⟨sl,e5⟩:=k L hm o e3
   exact ⟨a,⟨L,_,e1,e2,e5,e4⟩,rY q fun b hb=>k b (by unfold frs;rw [ϥ,e1];exact υ _ hb)⟩
theorem Rep.wr {h':Â} {ch:List Δ} {t:Nat} (I:Rep X z) (y:Wr (frs X.fr) ch z.s.heap h') (hc:∀ b∈ch,Fre X z b∧¬ Own z b) (tk:X.tz≤t:=by first | assumption | exact HR.tk (by assumption) | exact HR.tk1 (by assumption) | exact (Rep.toHR (by assumption)).tk | exact (Rep.toHR (by assumption)).tk1 | exact ϡ (by assumption)):Rep X { z with s:={ z.s with heap:=h',toks:=t } }:=by
 have nG:∀ {b o},z.G b=some o→z.h b=some o→h'.get? b=some o:=fun e e'=>y.keep _ _ e' (fun m=>by rw [(I.ff _ m).1] at e;cases e) fun m=>by rw [(hc _ m).1.1] at e;cases e
 have sl:∀ b,Lc X b→∀ o,z.s.heap.get? b=some o→∃ sl,h'.get? b=some { o with slots:=sl }:=fun b l o e=>y.slot b o e fun m=>(hc b m).1.2.2.2 l
 have ck:∀ x c v,X.env.cells.lookup x=some c→z.s.heap.IsCell c v→h'.IsCell c v:=fun x c v e ⟨o,q,d⟩=>let ⟨_,q2⟩:=sl c (.inr ⟨x,e⟩) o q;⟨_,q2,d⟩
 refine ⟨⟨I.md,I.fm,I.hd,I.bs,fun b o e=>nG e (I.gh b o e),I.rl,I.rn,I.rg,fun n o p h1 h2=>(I.ob n o p h1 h2).mono (ξ _) (.refl _) fun b hb o e=>?_,rY I.fu fun b hb o e=>y.slot b o e fun m=>(hc b m).1.2.2.1 hb,I.ff,I.br,I.os,tk⟩,I.ok,?_,fun x c e=>let ⟨v,q⟩:=I.ce x c e;⟨v,ck x c v e q⟩,I.fl,I.el,I.sl,I.en,fun i m=>?_,I.od⟩
 ·have mu:Mu z.ρ b:=⟨p,Ι h2,hb⟩
  exact y.keep b o e (fun m=>(I.ff b m).2 mu) fun m=>(hc b m).1.2.1 mu
 ·obtain ⟨m,⟨oL,es,ep,q,r⟩,hl⟩:=I.lo
  obtain ⟨_,q2⟩:=sl _ (.inl rfl) _ q
  exact ⟨m,⟨_,es,ep,q2,r⟩,fun j x w e1 e2 e3=>dB (fun c v e q=>ck x c v e q) (hl j x w e1 e2 e3)⟩
 ·obtain ⟨d,a,o,h1,h2,h3,r,f⟩:=I.eo i m
  exact ⟨d,a,o,h1,h2,h3,r.mono (ξ _) (.refl _) fun b hb o e=>y.keep b o e (by rcases hb with rfl | rfl <;> exact f.2.2.1) fun mm=>(hc b mm).2 (by rcases hb with rfl | rfl <;> exact ⟨i,m,h2⟩),f⟩
theorem Stp.wr {h':Â} {ch:List Δ} {t:Nat} (x:Stp fr w z0 z) (y:Wr (frs fr) ch z.s.heap h') (hc:∀ b∈ch,z0.h b=none):Stp fr w z0 { z with s:={ z.s with heap:=h',toks:=t } }:=by
 have nc:∀ {b o},z0.h b=some o→b ∉ ch:=fun e m=>by rw [hc _ m] at e;cases e
 refine ⟨x.pr,x.gg,x.gn,x.rn,fun a o e=>let ⟨o',e'⟩:=x.th a o e;y.there a o' e',fun a o e n m f=>y.keep a o (x.sm a o e n m f) f (nc e),fun a o e n m f=>?_⟩
 obtain ⟨sl,e1⟩:=x.sl a o e n m f
 obtain ⟨sl2,e2⟩:=y.slot a _ e1 (nc e)
 exact ⟨sl2,e2⟩
structure bI (X:Cx):Prop where
 fr:∃ e0 outer,X.fr=e0 :: outer∧e0.frame=X.env.frame
 frame:∃ L,X.env.frame=some L
theorem wl {c d:Ų} (h:c.frame=d.frame) (e:η):û e c=û e d:=by unfold û PySem.frameOf;rw [h]
inductive XN (X:Cx) (w:Δ→Prop) (z z':Z) (c:Nat) (l:List D) (e:η) (fl:η):Prop
 | mk (a:_) (T:_) (cls:_) (dx:_) (_:e = .ref a) (_:Stp X.fr w z z') (_:Rep X z') (_:XR X.W z' c l cls dx) (_:Nob X z z' a) (_:Tr z'.s.heap a cls dx T fl) (_:Nob X z z' T)
theorem XN.wr {h':Â} {ch:List Δ} {a T:Δ} {fl:η} (x:Stp X.fr w z z') (I:Rep X z') (r:XR X.W z' c l cls dx) (na:Nob X z z' a) (nT:Nob X z z' T) (y:Wr (frs X.fr) ch z'.s.heap h') (hc:∀ b∈ch,Nob X z z' b) (t:Tr h' a cls dx T fl):XN X w z { z' with s:={ z'.s with heap:=h' } } c l (.ref a) fl:=
 ⟨a,T,cls,dx,rfl,x.wr (t:=z'.s.toks) y fun b hb=>(hc b hb).1,I.wr (t:=z'.s.toks) y fun b hb=>(hc b hb).2,r,na,t,nT⟩
theorem fx {Q:Unit→τ→Prop} {E:η→τ→Prop} (F:bI X) (x:Stp X.fr w z z') (I:Rep X z') (h:XO X z z' c l e) (hQ:∀ L h',X.env.frame=some L→XN X w z { z' with s:={ z'.s with heap:=h' } } c l e (ú L)→Q () { z'.s with heap:=h' }):Ε M X.A (û e X.env) Q E z'.s:=by
 obtain ⟨e0,outer,hfr,hef⟩:=F.fr
 obtain ⟨L,hL⟩:=F.frame
 have hL0:=hef.trans hL
 rw [wl hef.symm]
 have fm:=I.fm
 have fu:=I.fu
 rw [hfr] at fm fu
 obtain ⟨a,cls,dx,rfl,r,na,t⟩:=h
 have new:∀ T,z'.h T=none→Nob X z z' T:=fun T n=>⟨x.no n,I.fre n⟩
 rcases t with t | ⟨T,fl,t,hfl,nT⟩
 ·refine tT fm fu hL0 t fun h' T n t' y=>hQ L h' hL (.wr x I r na (new T n) (by rw [hfr];exact y) (fun b hb=>?_) t')
  rw [ι.mp hb];exact na
 ·rcases hfl with rfl | ⟨L',hL',rfl⟩
  ·refine qE fm fu hL0 t fun h' T' n t' y=>hQ L h' hL (.wr x I r na (new T' n) (by rw [hfr];exact y) (fun b hb=>?_) t')
   rcases φ.mp hb with q | q
   ·rw [q];exact na
   ·rw [ι.mp q];exact nT
  ·rw [hL] at hL';cases hL'
   exact qD hL0 t (hQ L z'.s.heap hL ⟨a,T,cls,dx,rfl,x,I,r,na,t,nT⟩)
theorem bN {fl:η} {fr:Option Δ} {Q:Unit→τ→Prop} {E:η→τ→Prop} {A:ϗ} (h:XN X w z z' c l e fl) (hQ:∀ h',XN X w z { z' with s:={ z'.s with heap:=h' } } c l e (fr.elim .none fun f=>ú f)→Q () { z'.s with heap:=h' }):Ε M A (FP e fr) Q E z'.s:=by
 obtain ⟨a,T,cls,dx,rfl,x,I,r,na,t,nT⟩:=h
 exact nR (S:=frs X.fr) t fun h' t' y=>hQ h' (.wr x I r na nT y (fun b hb=>by rw [ι.mp hb];exact nT) t')
theorem px (F:bI X):HK M X.A X.env (PxS X z o):=fun e s' ⟨z',c,l,q,q2,x,I,h⟩=>by
 subst q
 unfold notedBy
 refine fx F x.st I h fun L h' hL hn=>?_
 obtain ⟨a,T,cls,dx,e1,_,_,_,_,t,_⟩:=id hn
 subst e1
 unfold cameBackBy
 obtain ⟨oe,vs,oT,ts,he,hc,hd,h1,r⟩:=id t
 refine ε (Ë he hd h1 ?_)
 rw [ZY (show ¬ ((É T == ϣ)=true) by simp),hL]
 refine bN (z':={ z' with s:={ z'.s with heap:=h' } }) (fr:=some L) hn fun h2 hn2=>?_
 obtain ⟨a',T',cls',dx',e1,x2,I2,r2,na2,t2,nT2⟩:=hn2
 exact ⟨{ z' with s:={ z'.s with heap:=h2 } },c,l,rfl,q2,⟨x2,x.ow⟩,I2,a',cls',dx',e1,r2,na2,.inr ⟨T',_,t2,.inr ⟨L,hL,rfl⟩,nT2⟩⟩
theorem qI {E:η→τ→Prop} {Q:η→τ→Prop} (F:bI X) (h:PxS X z o e s') (q:∀ z' c l a T cls dx,o = .exc c l z'.t→e = .ref a→Stp X.fr (Pv X z) z z'→Rep X z'→XR X.W z' c l cls dx→Nob X z z' a→Tr z'.s.heap a cls dx T .none→Nob X z z' T→Q e z'.s):Ε M X.A (leaving X.env e) (fun _ s''=>Q e s'') E s':=by
 obtain ⟨z',c,l,e1,q2,x,I,h⟩:=h
 subst e1
 unfold leaving
 refine ε (fx F x.st I h fun L h' hL hn=>bN (z':={ z' with s:={ z'.s with heap:=h' } }) (fr:=none) hn fun h2 hn2=>?_)
 obtain ⟨a,T,cls,dx,e1,x2,I2,r2,na2,t2,nT2⟩:=hn2
 exact q { z' with s:={ z'.s with heap:=h2 } } c l a T cls dx q2 e1 x2 I2 r2 na2 t2 nT2
end
section
variable {X:Cx} {sc:Ą} {N:List θ} {z z' z0 z1:Z}
def sM (M:EW) (A:ϗ) (E:η→τ→Prop) (use:Option (η→DR Unit)) (Q:η→τ→Prop) (acc:η) (C:Δ) (fr:Option Δ) (r:Result) (s':τ):Prop:=match r with
 | .error x=>∃ m,s'.heap.Ns C m∧∀ h',è C s'.heap h'→∀ ce:Ų,ce.frame=fr→Ε M A (passOn "comprehension.variables-let-go" x ce:DR η) (fun _ _=>False) E { s' with heap:=h' }
 | r=>compPost M A E use Q acc C r s'
theorem yf {M:EW} {A:ϗ} {E Q:η→τ→Prop} {s:τ} {env:Ų} {e:Ξ} {scope:Ą} {pos:ϧ} {newAcc first:DR η} {g:FL} {gs:List FL} {cl:List (θ×Δ)} {use:Option (η→DR Unit)}
 (hcl:clausesOf e=g :: gs) (hs:∀ x,ŋ g.iter env x=pure x) (hclos:Hb scope env=pure cl) (hkind:scope.kind = .function) (hnames:∀ x∈scope.names,x.2 = .local→scope.names.lookup x.1=some .local)
 (h:Ε M A first (fun x s1=>Ε M A (EH x) (fun it s2=>Ε M A newAcc (fun acc s3=>Ε M A (newFunctionEnv scope env.globals cl [] env.qual none .none (some env)) (fun ce s4=>Ĳ M A (.compStart e 0 it acc { ce with scope:=relabel scope env }) (sM M A E use Q acc ce.locals ce.frame) s4) E s3) E s2) E s1) E s) :
 Ε M A (comprehension e scope env pos newAcc false first use) Q E s:=by
 have id:∀ (x:η) (s':τ),E x s'→E x s':=fun _ _ y=>y
 unfold comprehension
 rw [hclos,hcl]
 refine ε (Η h (fun x s1 h1=>ε (õ ?_)) id)
 refine ε (wpAny_of_eq (hs x) (ε (ώ (Η h1 (fun it s2 h2=>?_) id))))
 refine wpAny_standIf (ε (Η h2 (fun acc s3 h3=>?_) id))
 refine ε (π (ε (Η h3 (fun ce s4 h4=>?_) id)))
 dsimp only
 generalize hvs:(scope.names.filter fun x=>(x.2 == .local || x.2 == .cell) && x.1 != (".0":θ))=vs
 have hv:∀ x∈vs,x.2 = .local→Env.kindOf { ce with scope:=relabel scope env } x.1=some .local:=fun x m l=>lookup_relabel_local (hnames x (ϕ.mp (hvs ▸ m)).1 l)
 have hr:∀ x∈vs.reverse,x.2 = .local→Env.kindOf { ce with scope:=relabel scope env } x.1=some .local:=fun x m=>hv x (List.mem_reverse.mp m)
 refine ώ (ε (D8 (ώ (wpAny_run (ü h4 fun r s' hq=>?_)))))
 cases r with
 | error x=>
   obtain ⟨m,hn,hq⟩:=hq
   refine ε (ώ (EF (cenv:={ ce with scope:=relabel scope env }) hkind _ s' m hr hn fun h' m' _ sb=>?_))
   exact Η (hq h' sb _ rfl) (fun _ _ f=>f.elim) id
 | ok f=>
   cases use with
   | none=>
     obtain ⟨m,hn,hq⟩:=hq
     exact ε (ώ (EF (cenv:={ ce with scope:=relabel scope env }) hkind _ s' m hr hn fun h' m' _ sb=>π (hq h' sb)))
   | some u=>
     refine ε (wpAny_rule (ε (ώ (Η hq (fun _ s2 hq=>?_) id))))
     obtain ⟨m,hn,hq⟩:=hq
     exact ε (EF (cenv:={ ce with scope:=relabel scope env }) hkind _ s2 m (fun x hx=>(Ρ.mp hx).elim (fun q=>hr x (Ϥ q)) fun q=>hr x (ϯ q)) hn fun h' m' _ sb=>π (hq h' sb))
theorem sO {zr zn:Z} {E:η→τ→Prop} {o:Out D} {C L:Δ} (I:Rep X z) (Ir:Rep X zr) (er:zr.t.env=z.t.env∧zr.σ=z.σ∧zr.t.ow = []) (fC:C ∉ frs X.fr∧¬ Lc X C∧z.h C=none) (hL:X.env.frame=some L)
 (hn:XN (cxC X N sc C) (Own z) z zn c l e (ú L)) (pr:zr.ρ <+: zn.ρ) (gg:Sub zr.G zn.G) (q:o = .exc c l ⟨z.t.env,[],zn.t.st⟩) (hE:∀ u s',Px X z o u s'→E u s') :
 ∃ m,zn.s.heap.Ns C m∧∀ h',è C zn.s.heap h'→∀ ce:Ų,ce.frame=X.env.frame→Ε X.M X.A (passOn "comprehension.variables-let-go" e ce:DR η) (fun _ _=>False) E { zn.s with heap:=h' }:=by
 obtain ⟨a,T,cls,dx,e1,S,J,r,na,t,nT⟩:=hn
 subst e1
 have If:=sN I Ir er S J.toHR.out pr gg
 obtain ⟨m,hm,_⟩:=J.lo
 obtain ⟨oC,_,_,eC,_⟩:=id hm
 refine ⟨m,hm,fun h' sb ce hf=>?_⟩
 have k:∀ b o,b ∉ [C]→zn.s.heap.get? b=some o→h'.get? b=some o:=fun b o m e=>(sb.2 b fun w=>m (by rw [w];exact ι.mpr rfl)).trans e
 have S0:Stp X.fr (Own z) z { zn with t:=⟨z.t.env,[],zn.t.st⟩,σ:=z.σ }:=⟨S.pr,S.gg,S.gn,S.rn,S.th,S.sm,S.sl⟩
 have lC:Lc (cxC X N sc C) C:=.inl rfl
 obtain ⟨I4,S4,g4,n4⟩:=Rep.turn (X:=X) (s':={ zn.s with heap:=h' }) (tk:=If.toHR.tk) S0 If (fun b hb=>by rw [ι.mp hb];exact ⟨⟨fC.2.2,⟨(J.fl C lC).1,(J.fl C lC).2,fC.1,fC.2.1⟩,fun ⟨i,m,_⟩=>nomatch m⟩,oC,eC⟩) k ⟨rfl,rfl⟩
 have up:∀ {b},Nob (cxC X N sc C) z zn b→∀ {o},zn.h b=some o→b≠C∧h'.get? b=some o∧Nob X z (Z.up { zn with t:=⟨z.t.env,[],zn.t.st⟩,σ:=z.σ } { zn.s with heap:=h' }) b:=fun {b} nb {o} eb=>by
  have ne:b≠C:=fun w=>nb.2.1.2.2.2 (w ▸ lC)
  refine ⟨ne,(sb.2 b ne).trans eb,nb.1,⟨?_,nb.2.1.2.1,nb.2.1.2.2.1,fun l=>?_⟩,fun ⟨i,m,_⟩=>nomatch m⟩
  ·show (match zn.h b with | none=>h'.get? b | some _=>zn.G b)=none
   rw [eb];exact nb.2.1.1
  ·obtain ⟨o1,e1⟩:=I.lth l
   rw [nb.1] at e1;cases e1
 obtain ⟨oe,vs,oT,ts,he,hc,hd,h1,ne,hT,hdT,h3⟩:=t
 obtain ⟨neA,heA,nA⟩:=up na he
 obtain ⟨neT,heT,nTT⟩:=up nT hT
 unfold Hh
 refine ε (Ë heA hd h1 ?_)
 rw [ZY (show ¬ ((É T == ϣ)=true) by simp),hf,hL]
 refine ε (bN (X:=X) (w:=Own z) (z:=z) (c:=c) (l:=l) (z':=Z.up { zn with t:=⟨z.t.env,[],zn.t.st⟩,σ:=z.σ } { zn.s with heap:=h' }) (fr:=some L) (fl:=ú L) ⟨a,T,cls,dx,rfl,S4,I4,?_,nA,⟨oe,vs,oT,ts,heA,hc,hd,h1,ne,heT,hdT,h3⟩,nTT⟩ fun h2 hn2=>wpAny_throw ?_)
 ·obtain ⟨i,r1,r2,r3,r4,r5⟩:=r
  exact ⟨i,r1,r2,r3,r4,r5.imp_right fun ⟨d,od,vs,w1,w2,w3,w4⟩=>⟨d,od,vs,w1,g4 _ _ w2,w3,w4.mono (ξ _) g4⟩⟩
 ·obtain ⟨a',T',cls',dx',e1,x2,I2,r2,na2,t2,nT2⟩:=hn2
  exact hE _ _ ⟨_,c,l,rfl,q,⟨x2,rfl,rfl,fun i m=>nomatch m⟩,I2,a',cls',dx',e1,r2,na2,.inr ⟨T',_,t2,.inr ⟨L,hL,rfl⟩,nT2⟩⟩
structure LcP (X:Cx) (N:List θ) (ee tg iter:Ξ) (ifs:List Ξ) (sc:Ą) (t:List Nat) (one:Bool) (it elt cond:E):Prop where
 hc:X.calm=true
 F:bI X
 L:Lcn X sc t.length N
 hi:LI X tg iter it
 hg:∀ C,LG (cxC X N sc C) tg t one
 hl:∀ i∈t,∀ x,N[i]? = some x→(relabel sc X.env).names.lookup x=some .local
 ht:∀ C,LTs (cxC X N sc C) ifs cond
 he:∀ C,LE (cxC X N sc C) ee elt
 hs:∀ x,ŋ iter X.env x=pure x
inductive LcJ (X Y:Cx) (z zr:Z) (env:List (Option D)) (ds:List D) (St:Nat→Â→Prop) (fp wr:List Nat) (a:Nat) (o:Out D) (f:D→Sta→Out (Option D)) (n:Nat) (s:τ):Prop
 | mk (i:Nat) (z':Z) (acc:List D) (vs:List η) (ob:FX) (_:z'.s=s) (_:n=ds.length - i) (_:i≤ds.length) (_:Stp X.fr (Own z) z z') (_:Rep Y z') (_:z'.t.ow = []) (_:St i z'.s.heap) (_:Fp Y z z' fp wr) (_:zr.ρ <+: z'.ρ) (_:Sub zr.G z'.G) (_:Nob Y z z' a) (_:z'.h a=some ob) (_:LsO ob vs) (_:RDs X.W z'.ρ z'.G acc vs) (_:o=(bx f (ds.drop i) acc z'.t).back env)
theorem mU {ee tg iter:Ξ} {ifs:List Ξ} {t:List Nat} {one:Bool} {it elt cond:E} {pos p:ϧ} {use:Option (η→DR Unit)} {Q:η→τ→Prop} {E:η→τ→Prop} {o:Out D} (P:LcP X N ee tg iter ifs sc t one it elt cond) (I:Rep X z) (e0:o=X.ev false (.lc t one it elt cond) z.t) (nb:o≠.bad) (hE:∀ u s',Px X z o u s'→E u s')
 (fin:∀ zf d D C m,Ee X z zf→Rep X zf→o = .ok d zf.t→FV X z zf d (.ref D)→Nob X z zf C→(∃ oC,zf.h C=some oC)→zf.s.heap.Ns C m→C≠D→compPost X.M X.A E use Q (.ref D) C (.ok .next) zf.s) :
 Ε X.M X.A (comprehension (.ListComp ee [⟨tg,iter,ifs,0⟩] sc pos) sc X.env p (newList []) false (eval iter X.env) use) Q E z.s:=by
 have e0:o=(X.ev false it z.t).bind fun x s=>(match x with
  | .lst ds=>(bx (lcF X t one elt cond) ds [] ⟨μ t.length none ++ s.env,[],s.st⟩).back s.env
  | _=>.bad):=e0
 have nb0:X.ev false it z.t≠.bad:=fun q=>nb (by rw [e0,q];rfl)
 refine yf rfl P.hs (mE (P.L.cells I.ok)) P.L.kind P.L.names (Η (ό I.tk (P.hi z I nb0)) (fun v s1 ⟨tk1,h1⟩=>Η (ό tk1 h1) (fun itv s2 ⟨tk2,h2⟩=>?_) fun _ _ w=>w.2.elim) fun u s' h=>hE u s' (by rw [e0];exact h.2.map))
 obtain ⟨z1,ds,a,fp,wr,St,q1,q2,x1,I1,q3,T,st1,f1⟩:=h2
 subst q1 q3
 have I1:=I1 tk2
 rw [q2] at e0
 have e0:o=(bx (lcF X t one elt cond) ds [] ⟨μ t.length none ++ z1.t.env,[],z1.t.st⟩).back z1.t.env:=e0
 refine ø (wpAny_newFunctionEnv P.L.nocell (by intro y hy;simp at hy) (fun h1 hns hsb=>?_) P.L.kind)
 dsimp only at hns hsb ⊢
 generalize hD:z1.s.heap.objs.size=D at hns hsb ⊢
 have nD:z1.h D=none:=hD ▸ aH z1
 generalize hG:z1.s.heap.push { cls:=.type "list",dict:=none,data:=.seq ([]:List η).toArray }=G1 at hns hsb ⊢
 have hC0:G1.objs.size=D+1:=by rw [← hG,Ş,hD]
 generalize hC:G1.objs.size=C at hns hsb ⊢ hC0
 have CD:C≠D:=by rw [hC0];exact GN _
 have nC:z1.h C=none:=Ϙ (by rw [hC0,hD];exact Ě _)
 have up:∀ b o,G1.get? b=some o→h1.get? b=some o:=fun b o e=>hsb.extBut b o (hC ▸ ϲ (ϟ e)) (Κ _ e)
 have kp:∀ b o,z1.s.heap.get? b=some o→h1.get? b=some o:=fun b o e=>up b o (hG ▸ Κ _ e)
 have gr:Gr z1.s { z1.s with heap:=h1,toks:=z1.s.toks+([]:List (θ×η)).length }:=.hp kp
 have hDo:h1.get? D=some { cls:=.type "list",data:=.seq ([]:List η).toArray }:=up _ _ (hG ▸ hD ▸ Λ _ rfl)
 obtain ⟨Ir,xr⟩:=I1.rel fun _=>false
 have owr:(z1.rel fun _=>false).t.ow = []:=Ó.mpr fun _ _=>by simp
 have I2:=sP (k:=t.length) P.L Ir owr (s':={ z1.s with heap:=h1,toks:=z1.s.toks+([]:List (θ×η)).length }) gr nC hns
 generalize hz2:(⟨(z1.rel fun _=>false).ρ,(z1.rel fun _=>false).G,⟨μ t.length none ++ (z1.rel fun _=>false).t.env,[],(z1.rel fun _=>false).t.st⟩,μ t.length none ++ (z1.rel fun _=>false).σ,{ z1.s with heap:=h1,toks:=z1.s.toks+([]:List (θ×η)).length }⟩:Z)=z2 at I2
 have xa:=x1.trans xr
 have fD:=Ir.fre (a:=D) nD
 have fC:=Ir.fre (a:=C) nC
 have zD:z.h D=none:=x1.st.no nD
 have zC:z.h C=none:=x1.st.no nC
 have S2:Stp X.fr (Own z) z z2:=by
  subst hz2
  exact ⟨xa.st.pr,xa.st.gg,xa.st.gn,xa.st.rn,fun b o e=>let ⟨o',e'⟩:=xa.st.th b o e;⟨o',kp b o' e'⟩,fun b o e n w f=>kp b o (xa.st.sm b o e n w f),fun b o e n w f=>let ⟨sl,e'⟩:=xa.st.sl b o e n w f;⟨sl,kp b _ e'⟩⟩
 have nLD:¬ Lc X D:=fD.1.2.2.2
 have nLC:¬ Lc X C:=fC.1.2.2.2
 have nob2:∀ {b},z.h b=none→(z1.rel fun _=>false).G b=none→¬ Mu z1.ρ b→b ∉ frs X.fr→¬ Lc X b→b≠C→Nob (cxC X N sc C) z z2 b:=fun h0 h1 h2 h3 h4 h5=>by
  subst hz2
  exact ⟨h0,⟨h1,h2,h3,fun l=>(xy l).elim h5 h4⟩,fun ⟨i,m,_⟩=>nomatch m⟩
 have nobD:Nob (cxC X N sc C) z z2 D:=nob2 zD fD.1.1 fD.1.2.1 fD.1.2.2.1 nLD (ϳ CD)
 have fp1:∀ b∈fp,∃ o,z1.h b=some o:=fun b hb=>(f1 b hb).elim (·.2) fun ⟨_,o,e⟩=>⟨o,I1.gh b o e⟩
 have fpn:∀ b∈fp,b≠D∧b≠C:=fun b hb=>by
  obtain ⟨o,e⟩:=fp1 b hb
  exact ⟨fun w=>(by rw [w,nD] at e;cases e),fun w=>(by rw [w,nC] at e;cases e)⟩
 have f2:Fp (cxC X N sc C) z z2 fp wr:=fun b hb=>by
  obtain ⟨o1,e1⟩:=fp1 b hb
  rcases f1 b hb with ⟨⟨n0,ff,no⟩,_⟩ | ⟨m,o,e⟩
  ·exact .inl ⟨nob2 n0 ((dF fun ⟨i,m,_,e⟩=>no ⟨i,m,e⟩).trans ff.1) ff.2.1 ff.2.2.1 ff.2.2.2 (fpn b hb).2,o1,by subst hz2;exact kp b o1 e1⟩
  ·exact .inr ⟨m,o,by subst hz2;exact xr.st.gg b o e⟩
 have pr2:(z1.rel fun _=>false).ρ <+: z2.ρ:=by subst hz2;exact ξ _
 have gg2:Sub (z1.rel fun _=>false).G z2.G:=by subst hz2;exact .refl _
 have ow2:z2.t.ow = []:=by subst hz2;rfl
 have s2e:z2.s={ z1.s with heap:=h1,toks:=z1.s.toks+([]:List (θ×η)).length }:=by subst hz2;rfl
 have hD2:z2.h D=some { cls:=.type "list",data:=.seq ([]:List η).toArray }:=by show z2.s.heap.get? D=_;rw [s2e];exact hDo
 have st2:St 0 z2.s.heap:=by rw [s2e];exact T.keep _ _ _ st1 fun b _ o e=>kp b o e
 have e2:o=(bx (lcF X t one elt cond) ds [] z2.t).back z1.t.env:=by subst hz2;exact e0
 have loop:Ĳ X.M X.A (.compLoop (.ListComp ee [⟨tg,iter,ifs,0⟩] sc pos) 0 (.ref a) (.ref D) (cxC X N sc C).env) (sM X.M X.A E use Q (.ref D) C X.env.frame) z2.s:=by
  refine codeAny_loop rfl (LcJ X (cxC X N sc C) z (z1.rel fun _=>false) z1.t.env ds St fp wr D o (lcF X t one elt cond)) (fun n s3 hI=>?_) (ds.length - 0) ⟨0,z2,[],[],_,rfl,rfl,À _,S2,I2,ow2,st2,f2,pr2,gg2,nobD,hD2,⟨⟨_,rfl⟩,À _⟩,rfl,by rw [ĉ];exact e2⟩
  obtain ⟨i,z3,acc,vs,ob,e3,en,hi,S3,I3,ow3,st3,f3,p3,g3,nD3,hD3,lo3,ra3,q⟩:=hI
  subst e3
  show Ε X.M X.A ((compTurn (.ListComp ee [⟨tg,iter,ifs,0⟩] sc pos) 0 (.ref a) (.ref D) (cxC X N sc C).env).onRaise (fun x=>do û x (cxC X N sc C).env;theTreesLotGoes x)) _ _ z3.s
  refine wpAny_noted ?_
  rw [compTurn_list]
  refine ε (õ (ε ?_))
  cases qd:ds[i]? with
  | none=>
    have hl:i=ds.length:=by rw [EN] at qd;omega
    subst hl
    refine Η (ό I3.tk (T.done (I3.hd P.hc) st3)) (fun r s4 ⟨tk4,er,os,k⟩=>?_) fun _ _ w=>w.2.elim
    subst er
    obtain ⟨I4,S4,g4,_⟩:=Rep.turn (X:=cxC X N sc C) S3 I3 (f3.wr T st3) k os tk4
    rw [DM] at q
    have nDw:D ∉ wr:=fun m=>(fpn D (T.sub D m)).1 rfl
    have If:=sN I Ir ⟨x1.en,x1.sg,owr⟩ S4 I4.toHR.out p3 (g3.trans g4)
    obtain ⟨m,hn,_⟩:=I4.lo
    obtain ⟨n0,ff,no⟩:=nD3
    have GD:(z3.up s4).G D=none:=by show (match z3.h D with | none=>s4.heap.get? D | some _=>z3.G D)=none;rw [hD3];exact ff.1
    refine π (fin { z3.up s4 with t:=⟨z.t.env,[],z3.t.st⟩,σ:=z.σ } (.lst acc) D C m ⟨⟨S4.pr,S4.gg,S4.gn,S4.rn,S4.th,S4.sm,S4.sl⟩,rfl,rfl,fun i m=>nomatch m⟩ If (q.trans (by rw [x1.en];rfl)) ⟨D,.lst acc,rfl,zD,rfl,⟨ob,vs,rfl,k D ob nDw hD3,lo3,ra3.mono (ξ _) g4⟩,⟨GD,ff.2.1,ff.2.2.1,nLD⟩,fun ⟨i,m,_⟩=>nomatch m⟩ ⟨zC,⟨(I4.fl C (.inl rfl)).1,(I4.fl C (.inl rfl)).2,fC.1.2.2.1,nLC⟩,fun ⟨i,m,_⟩=>nomatch m⟩ ?_ hn CD)
    obtain ⟨oC,_,_,eC,_⟩:=hn
    exact ⟨oC,eC⟩
  | some d=>
    have hil:i<ds.length:=(ν.mp qd).1
    rw [ox qd] at q
    have q:o=((lcF X t one elt cond d z3.t).bind fun o s'=>match o with
     | some e=>if acc.length<100000 then bx (lcF X t one elt cond) (ds.drop (i+1)) (acc ++ [e]) s' else .bad
     | none=>bx (lcF X t one elt cond) (ds.drop (i+1)) acc s').back z1.t.env:=q
    refine Η (ό I3.tk (T.item (I3.hd P.hc) qd st3)) (fun r s4 ⟨tk4,u,er,h4⟩=>?_) fun _ _ w=>w.2.elim
    subst er
    refine ε (Η (ό tk4 h4) (fun _ s5 ⟨tk5,st5,os5,k5,rd5⟩=>?_) fun _ _ w=>w.2.elim)
    obtain ⟨I5,S5,g5,n5⟩:=Rep.turn (X:=cxC X N sc C) S3 I3 (f3.wr T st3) k5 os5 tk5
    have rd:=rd5 z3.ρ (z3.up s5).G (xr.st.pr.trans p3) ((xr.st.gg.trans g3).trans g5) fun a o e1 e2=>by rw [jZ e1];exact e2
    have f5:=f3.up I3 g5 k5 fun b m _=>T.ex _ _ st5 b m
    have nDw:D ∉ wr:=fun m=>(fpn D (T.sub D m)).1 rfl
    have nD5:Nob (cxC X N sc C) z (z3.up s5) D:=⟨nD3.1,⟨by show (match z3.h D with | none=>s5.heap.get? D | some _=>z3.G D)=none;rw [hD3];exact nD3.2.1.1,nD3.2.1.2⟩,nD3.2.2⟩
    have hD5:(z3.up s5).h D=some ob:=k5 D ob nDw hD3
    cases qb:aJ t one d z3.t.env with
    | none=>rw [show lcF X t one elt cond d z3.t = .bad by unfold lcF;rw [qb]] at q;exact ZX q nb
    | some env=>
      rw [show lcF X t one elt cond d z3.t=(X.ev true cond ⟨env,[],z3.t.st⟩).bind fun b s2=>(match b with
       | .bl true=>(X.ev false elt s2).bind fun e s3=>.ok (some e) ⟨s3.env,[],s3.st⟩
       | .bl false=>.ok none ⟨s2.env,[],s2.st⟩
       | _=>.bad) by unfold lcF;rw [qb];all_goals rfl] at q
      refine ε (P.hg C (z3.up s5) (z3.up s5) d u env _ _ .refl I5 rd qb fun z6 _ I6 eρ y6 et eσ ek=>?_)
      have k6:=ek P.hl
      have ow6:z6.t.ow = []:=by rw [et];show z3.t.ow.filter _ = [];rw [ow3];rfl
      have t6:z6.t=⟨env,[],z3.t.st⟩:=by rw [et];show (⟨env,z3.t.ow.filter _,z3.t.st⟩:Sta)=_;rw [ow3];rfl
      have S56:Stp X.fr (fun b=>b=C) (z3.up s5) z6:=⟨y6.st.pr,y6.st.gg,fun b o e=>(by
       rcases y6.st.gn b o e with w | w | w
       ·exact .inl w
       ·exact .inr (.inl w)
       ·rcases w with ⟨j,m,_⟩ | l
        ·have:j∈z3.t.ow:=m
         rw [ow3] at this;exact nomatch this
        ·rw [(I6.fl b l).1] at e;cases e),y6.st.rn,y6.st.th,fun b o e _ w _=>k6 b o e w,fun b o e _ w _=>⟨o.slots,k6 b o e w⟩⟩
      have S6:Stp X.fr (Own z) z z6:=S5.trans S56 fun b w=>.inr (by rw [w];exact zC)
      obtain ⟨nD6,hD6⟩:=nD5.go y6 hD5
      have f6:=f5.go y6
      have st6:St (i+1) z6.s.heap:=T.keep _ _ _ st5 (f5.keep y6 I5 I6)
      rw [← t6] at q
      have nb6:(X.ev true cond z6.t).bind toB≠.bad:=fun w=>nb (by
       rw [q]
       cases qc:X.ev true cond z6.t with
       | ok b s2=>
         rw [qc] at w
         cases b with
         | bl b=>cases w
         | _=>rfl
       | exc c l s2=>rw [qc] at w;cases w
       | bad=>rfl)
      have p6:(z1.rel fun _=>false).ρ <+: z6.ρ:=p3.trans (eρ ▸ ξ _)
      have g36:Sub z3.G z6.G:=g5.trans y6.st.gg
      refine ε (Η (P.ht C z6 I6 nb6) (fun b s7 ⟨z7,tb,e7,q7,x7,I7,r7⟩=>?_) fun u s' ⟨z7,c,l,e7,q7,x7,I7,xo⟩=>?_)
      rotate_left
      ·subst e7
       obtain ⟨ow7,S67⟩:=x7.nil ow6
       have qc:X.ev true cond z6.t = .exc c l z7.t:=by
        have q7:(X.ev true cond z6.t).bind toB = .exc c l z7.t:=q7
        cases qc:X.ev true cond z6.t with
        | ok b s2=>rw [qc] at q7;cases b <;> cases q7
        | exc c l s2=>rw [qc] at q7;cases q7;rfl
        | bad=>rw [qc] at q7;cases q7
       rw [qc] at q
       have S7:Stp X.fr (Own z) z z7:=S6.trans S67 fun _ w=>w.elim
       refine fx (X:=cxC X N sc C) (w:=Own z) (z:=z) (z':=z7) ⟨P.F.fr,P.F.frame⟩ S7 I7 (xo.less fun _=>S6.no) fun L h' hL hn=>?_
       exact sO I Ir ⟨x1.en,x1.sg,owr⟩ ⟨fC.1.2.2.1,nLC,zC⟩ hL hn (p6.trans x7.st.pr) ((g3.trans g36).trans x7.st.gg) (q.trans (by rw [x1.en];rfl)) hE
      subst e7
      obtain ⟨ow7,S67⟩:=x7.nil ow6
      have S7:Stp X.fr (Own z) z z7:=S6.trans S67 fun _ w=>w.elim
      obtain ⟨nD7,hD7⟩:=nD6.go x7.go hD6
      have f7:=f6.go x7.go
      have st7:St (i+1) z7.s.heap:=T.keep _ _ _ st6 (f6.keep x7.go I6 I7)
      have qc:X.ev true cond z6.t = .ok (.bl tb) z7.t:=by
       have q7:(X.ev true cond z6.t).bind toB = .ok tb z7.t:=q7
       cases qc:X.ev true cond z6.t with
       | ok b s2=>rw [qc] at q7;cases b <;> first | (cases q7;rfl) | cases q7
       | exc c l s2=>rw [qc] at q7;cases q7
       | bad=>rw [qc] at q7;cases q7
      rw [qc] at q
      have p7:(z1.rel fun _=>false).ρ <+: z7.ρ:=p3.trans ((eρ ▸ ξ _:z3.ρ <+: z6.ρ).trans x7.st.pr)
      have g37:Sub z3.G z7.G:=(g5.trans y6.st.gg).trans x7.st.gg
      cases (show b=tb from r7)
      cases b with
      | false=>
        have q:o=(bx (lcF X t one elt cond) (ds.drop (i+1)) acc ⟨z7.t.env,[],z7.t.st⟩).back z1.t.env:=q
        rw [pL ow7] at q
        exact π ⟨rfl,ds.length - (i+1),by omega,i+1,z7,acc,vs,ob,rfl,rfl,hil,S7,I7,ow7,st7,f7,p7,g3.trans g37,nD7,hD7,lo3,ra3.mono ((eρ ▸ ξ _:z3.ρ <+: z6.ρ).trans x7.st.pr) g37,q⟩
      | true=>
        have q:o=(((X.ev false elt z7.t).bind fun e s3=>Out.ok (some e) ⟨s3.env,[],s3.st⟩).bind fun o s'=>match o with
         | some e=>if acc.length<100000 then bx (lcF X t one elt cond) (ds.drop (i+1)) (acc ++ [e]) s' else .bad
         | none=>bx (lcF X t one elt cond) (ds.drop (i+1)) acc s').back z1.t.env:=q
        have nb7:X.ev false elt z7.t≠.bad:=fun w=>nb (by rw [q,w];rfl)
        refine ε (ε (Η (P.he C false z7 I7 nb7) (fun v s8 ⟨z8,de,e8,q8,x8,I8,r8⟩=>?_) fun u s' ⟨z8,c,l,e8,q8,x8,I8,xo⟩=>?_))
        rotate_left
        ·subst e8
         obtain ⟨ow8,S78⟩:=x8.nil ow7
         rw [show X.ev false elt z7.t=_ from q8] at q
         have S8:Stp X.fr (Own z) z z8:=S7.trans S78 fun _ w=>w.elim
         refine fx (X:=cxC X N sc C) (w:=Own z) (z:=z) (z':=z8) ⟨P.F.fr,P.F.frame⟩ S8 I8 (xo.less fun _=>S7.no) fun L h' hL hn=>?_
         exact sO I Ir ⟨x1.en,x1.sg,owr⟩ ⟨fC.1.2.2.1,nLC,zC⟩ hL hn (p7.trans x8.st.pr) ((g3.trans g37).trans x8.st.gg) (q.trans (by rw [x1.en];rfl)) hE
        subst e8
        rw [show X.ev false elt z7.t=_ from q8] at q
        have q:o=(if acc.length<100000 then bx (lcF X t one elt cond) (ds.drop (i+1)) (acc ++ [de]) ⟨z8.t.env,[],z8.t.st⟩ else .bad).back z1.t.env:=q
        by_cases ca:acc.length<100000
        ·rw [ZZ ca] at q
         obtain ⟨ow8,S78⟩:=x8.nil ow7
         rw [pL ow8] at q
         have S8:Stp X.fr (Own z) z z8:=S7.trans S78 fun _ w=>w.elim
         obtain ⟨nD8,hD8⟩:=nD7.go x8.go hD7
         have f8:=f7.go x8.go
         have st8:St (i+1) z8.s.heap:=T.keep _ _ _ st7 (f7.keep x8.go I7 I8)
         obtain ⟨⟨n,rfl⟩,hz⟩:=lo3
         have ra8:=ra3.mono ((eρ ▸ ξ _:z3.ρ <+: z6.ρ).trans (x7.st.pr.trans x8.st.pr)) (g37.trans x8.st.gg)
         have hl:vs.length<100000:=by rw [← ra8.len];exact ca
         refine ε (Ĝ Ý ⟨_,hD8,rfl⟩ ģ (ğ _ _) (ŷ D vs.toArray n v (by rw [Μ];exact ď (Ϻ hl (big (ύ _))))) ⟨hD8,?_⟩)
         obtain ⟨⟨o1,u1,u3⟩,u2⟩:=dN (f:=(·.push v)) (ws:=vs ++ [v]) hD8 (by simp) (by rw [ζ];exact big (by simp;omega))
         have k9:∀ b o,b ∉ [D]→z8.h b=some o→(z8.s.heap.update D (à (·.push v))).get? b=some o:=fun b o m e=>(u2 b fun w=>m (by rw [w];exact ι.mpr rfl)).trans e
         obtain ⟨I9,S9,g9,_⟩:=Rep.turn (X:=cxC X N sc C) (s':={ z8.s with heap:=z8.s.heap.update D (à (·.push v)) }) S8 I8 (fun b hb=>by rw [ι.mp hb];exact ⟨nD8,_,hD8⟩) k9 ⟨rfl,rfl⟩
         refine π (π ⟨rfl,ds.length - (i+1),by omega,i+1,_,acc ++ [de],vs ++ [v],o1,rfl,rfl,hil,S9,I9,ow8,T.keep _ _ _ st8 fun b hb o e=>k9 b o (fun m=>(fpn b hb).1 (ι.mp m)) e,f8.up I8 g9 k9 fun b m hb=>ZX (ι.mp m) (fpn b hb).1,p7.trans x8.st.pr,((g3.trans g37).trans x8.st.gg).trans g9,⟨nD8.1,⟨?_,nD8.2.1.2⟩,nD8.2.2⟩,u1,u3,(ra8.mono (ξ _) g9).app (.cons (r8.rd.mono (ξ _) g9) rfl),q⟩)
         show (match z8.h D with | none=>_ | some _=>z8.G D)=none
         rw [hD8];exact nD8.2.1.1
        ·rw [ZY ca] at q;exact ZX q nb
 rw [← s2e]
 exact codeAny_compStart_list loop (T.self (I1.hd P.hc) st2 loop)
theorem kP {ee tg iter:Ξ} {ifs:List Ξ} {t:List Nat} {one:Bool} {it elt cond:E} {pos:ϧ} (P:LcP X N ee tg iter ifs sc t one it elt cond):LF X (.ListComp ee [⟨tg,iter,ifs,0⟩] sc pos) (.lc t one it elt cond):=fun z I nb=>by
 rw [eval_ListComp]
 refine mU P I rfl nb (fun _ _ h=>h) fun zf d D C m x If e fv nC exC hn CD=>⟨m,hn,fun h' sb=>?_⟩
 have k:∀ b o,b ∉ [C]→zf.h b=some o→h'.get? b=some o:=fun b o m e=>(sb.2 b fun w=>m (by rw [w];exact ι.mpr rfl)).trans e
 obtain ⟨I4,S4,g4,_⟩:=Rep.turn (s':={ zf.s with heap:=h' }) x.st If (fun b hb=>by rw [ι.mp hb];exact ⟨nC,exC⟩) k ⟨rfl,rfl⟩
 obtain ⟨a,ob,ea,n,t1,r,f,no⟩:=fv
 have ea:a=D:=(ć ea).symm
 subst ea
 obtain ⟨oa,ha⟩:=r.th.1
 refine ⟨zf.up { zf.s with heap:=h' },d,rfl,e,⟨S4,x.sg,x.en,x.ow⟩,I4,a,ob,rfl,n,t1,r.mono (ξ _) g4 fun b hb o e=>k b o (fun m=>?_) e,⟨?_,f.2⟩,no⟩
 ·have:b=a:=by rcases hb with w | w <;> exact w
  exact CD ((ι.mp m).symm.trans this)
 ·show (match zf.h a with | none=>h'.get? a | some _=>zf.G a)=none
  rw [ha];exact f.1
theorem BN {ee tg iter:Ξ} {ifs:List Ξ} {t:List Nat} {one:Bool} {it elt cond:E} {pos:ϧ} (P:LcP X N ee tg iter ifs sc t one it elt cond):LE X (.ListComp ee [⟨tg,iter,ifs,0⟩] sc pos) (.lc t one it elt cond):=(kP P).le fun _=>rfl
theorem kR {ee tg iter:Ξ} {ifs:List Ξ} {t:List Nat} {one:Bool} {it elt cond:E} {pos pos' spos:ϧ} {i:Nat} {x:θ} (hN:X.N.Nodup) (hi:X.N[i]? = some x) (hx:Loc X.env.scope x) (P:LcP X N ee tg iter ifs sc t one it elt cond):LS X (.Assign [.Name x pos'] (.ListComp ee [⟨tg,iter,ifs,0⟩] sc pos) spos) (.set i (.lc t one it elt cond)):=fun z I nb=>by
 obtain ⟨b,sw⟩:∃ b,ķ (.ListComp ee [⟨tg,iter,ifs,0⟩] sc pos) (some (.Name x pos')) spos.line X.env=pure b:=⟨_,rfl⟩
 cases b with
 | false=>exact fG hN hi hx (BN P) (fun _=>kP P) sw z I nb
 | true=>
   have nb1:X.ev false (.lc t one it elt cond) z.t≠.bad:=fun q=>nb (show Out.go (X.ev false (.lc t one it elt cond) z.t) _=_ by rw [q];rfl)
   rw [Gq _ _ _ _ sw]
   refine ε (õ (ε ?_))
   show Ε _ X.A (do let _ ← comprehension (.ListComp ee [⟨tg,iter,ifs,0⟩] sc pos) sc X.env _ (newList []) false (eval iter X.env) (some (assign (.Name x pos') X.env))) _ _ z.s
   refine ε (thn (mU (use:=some (assign (.Name x pos') X.env)) (Q:=fun _ s'=>Ps X z (X.ex (.set i (.lc t one it elt cond)) z.t) .next s') P I rfl nb1 (fun u s' h=>PxS.of .refl h) fun zf d D C m x0 If e fv nC exC hn CD=>?_) fun _ s' hq=>π (π hq))
   show Ε _ X.A (assign (.Name x pos') X.env (.ref D)) _ _ _
   refine Ŋ (bG (own:=true) x0.go If hN hi hx fv fun s' a sb la I' g'=>?_)
   have Ca:C≠a:=fun w=>nC.2.1.2.2.2 (w ▸ la.1)
   refine ⟨m,hn.sameBut sb Ca,fun h' sb'=>?_⟩
   have k:∀ b o,b ∉ [C]→s'.heap.get? b=some o→h'.get? b=some o:=fun b o m e=>(sb'.2 b fun w=>m (by rw [w];exact ι.mpr rfl)).trans e
   obtain ⟨oC,eC⟩:=exC
   obtain ⟨I4,S4,g4,_⟩:=Rep.turn (z:={ zf with t:=stV zf.t i d true,σ:=zf.σ.set i (some (.ref D)),s:=s' }) (s':={ s' with heap:=h' }) g'.st I' (fun b hb=>by
    rw [ι.mp hb]
    refine ⟨⟨nC.1,nC.2.1,fun ⟨j,mj,ej⟩=>?_⟩,oC,(sb.2 C Ca).trans eC⟩
    by_cases q:j=i
    ·subst q
     have hl:j<zf.σ.length:=by rw [If.sl];exact (ν.mp hi).1
     have ej:(zf.σ.set j (some (.ref D)))[j]? = some (some (.ref C)):=ej
     rw [Ϟ hl] at ej
     cases ej;exact CD rfl
    ·have ej:(zf.σ.set i (some (.ref D)))[j]? = some (some (.ref C)):=ej
     rw [Φ (ϳ q)] at ej
     have mj:j∈i :: zf.t.ow.filter (· != i):=mj
     rcases φ.mp mj with w | w
     ·exact q w
     ·exact nC.2.2 ⟨j,(ϕ.mp w).1,ej⟩) k ⟨rfl,rfl⟩
   refine nxt (z1:=Z.up { zf with t:=stV zf.t i d true,σ:=zf.σ.set i (some (.ref D)),s:=s' } { s' with heap:=h' }) ⟨S4,g'.ow⟩ I4 ?_
   show Out.go (X.ev false (.lc t one it elt cond) z.t) _=_
   rw [e]
   show ah.nx (ie zf.t i d true)=_
   have ld:sA d=true:=by
    obtain ⟨_,_,_,_,t,_⟩:=fv
    cases d <;> first | rfl | cases t
   unfold ie
   rw [ld];rfl
end
theorem sf {kp:List Nat} {env:List (Option D)} {i:Nat} {d:D}:(se kp env)[i]? = some (some d)↔i ∉ kp∧env[i]? = some (some d):=by
 unfold se
 rw [List.getElem?_mapIdx]
 by_cases c:i∈kp
 ·simp [c]
 ·simp [c]
theorem jp {kp:List Nat} {s:Sta} {i:Nat}:i∈(hid kp s).ow↔i∈s.ow∧i ∉ kp:=by
 unfold hid
 simp
section
variable {X:Cx} {z z':Z} {kp:List Nat}
theorem Rep.hid (I:Rep X z):Rep X { z with t:=L2.Ev.hid kp z.t }:=by
 refine ⟨⟨I.md,I.fm,I.hd,I.bs,I.gh,I.rl,I.rn,I.rg,I.ob,I.fu,I.ff,I.br,I.os,I.tk⟩,I.ok,I.lo,I.ce,I.fl,?_,I.sl,fun i d n e=>?_,fun i m=>?_,fun i j a m1 m2 e1 e2=>I.od i j a (jp.mp m1).1 (jp.mp m2).1 e1 e2⟩
 ·show (se kp z.t.env).length=_
  unfold se
  rw [List.length_mapIdx];exact I.el
 ·obtain ⟨h1,h2⟩:=sf.mp e
  exact I.en i d (fun m=>n (jp.mpr ⟨m,h1⟩)) h2
 ·obtain ⟨m1,m2⟩:=jp.mp m
  obtain ⟨d,a,o,h1,h2,h3,h4,h5⟩:=I.eo i m1
  exact ⟨d,a,o,sf.mpr ⟨m2,h1⟩,h2,h3,h4,h5⟩
end
section
variable {X:Cx} {z z0:Z}
theorem Rep.give {a:Δ} {o:O} (I:Rep X z) (f:Fre X z a) (no:¬ Own z a) (r:ObR X.W z.ρ z.G z.h (a,a) o):Rep X { z with ρ:=z.ρ ++ [(a,a)],t:=⟨z.t.env,z.t.ow,z.t.st ++ [o]⟩ }:=by
 have pre:z.ρ <+: z.ρ ++ [(a,a)]:=Ì _ _
 have eqa:∀ {b:Δ},(b=((a,a):Δ×Δ).1∨b=((a,a):Δ×Δ).2)→b=a:=fun h=>h.elim id id
 have old:∀ {i:Nat} {q:Δ×Δ} {b:Δ},z.ρ[i]? = some q→(b=q.1∨b=q.2)→b≠a:=fun h1 h2 e=>f.2.1 ⟨_,Ι h1,e ▸ h2⟩
 have nm:∀ {b:Δ},b≠a→¬ Mu z.ρ b→¬ Mu (z.ρ ++ [(a,a)]) b:=fun n m w=>(d9.mp w).elim m fun w=>n (eqa w)
 refine ⟨⟨I.md,I.fm,I.hd,I.bs,I.gh,by simp [I.rl],fun i j q1 q2 b h1 h2 h3 h4=>?_,fun b m=>?_,fun n o' q h1 h2=>?_,I.fu,fun b m=>⟨(I.ff b m).1,nm (fun w=>f.2.2.1 (w ▸ m)) (I.ff b m).2⟩,I.br,I.os,I.tk⟩,I.ok,I.lo,I.ce,fun b l=>⟨(I.fl b l).1,nm (fun w=>f.2.2.2 (w ▸ l)) (I.fl b l).2⟩,I.el,I.sl,fun i d n e=>let ⟨u,q,r⟩:=I.en i d n e;⟨u,q,r.mono pre (.refl _)⟩,fun i m=>?_,I.od⟩
 ·rcases aS h1 with a1 | ⟨a1,b1⟩
  ·rcases aS h2 with a2 | ⟨a2,b2⟩
   ·exact I.rn i j q1 q2 b a1 a2 h3 h4
   ·subst b2;exact ZX (eqa h4) (old a1 h3)
  ·subst b1
   rcases aS h2 with a2 | ⟨a2,b2⟩
   ·exact ZX (eqa h3) (old a2 h4)
   ·rw [a1,a2]
 ·rcases d9.mp m with m | m
  ·exact I.rg b m
  ·rw [eqa m];exact f.1
 ·rcases aS h2 with a2 | ⟨a2,b2⟩
  ·rcases aS h1 with a1 | ⟨a1,_⟩
   ·exact (I.ob n o' q a1 a2).mono pre (.refl _) fun _ _ _ e=>e
   ·have:=(ν.mp a2).1;rw [I.rl] at this;omega
  ·subst b2
   rcases aS h1 with a1 | ⟨_,b1⟩
   ·have:=(ν.mp a1).1;rw [← I.rl] at this;omega
   ·subst b1;exact r.mono pre (.refl _) fun _ _ _ e=>e
 ·obtain ⟨d,b,o,h1,h2,h3,r,g⟩:=I.eo i m
  exact ⟨d,b,o,h1,h2,h3,r.mono pre (.refl _) fun _ _ _ e=>e,g.1,nm (fun w=>no ⟨i,m,w ▸ h2⟩) g.2.1,g.2.2⟩
theorem mV {e:Ξ} {c:E} (h:LF X e c):LE X e (.sto c):=fun br z I nb=>by
 have q0:X.ev br (.sto c) z.t=(X.ev false c z.t).bind Ck:=rfl
 rw [q0] at nb ⊢
 refine Η (h z I fun q=>nb (by rw [q];rfl)) (fun u s' ⟨z',d,e,q,y,I1,fv⟩=>?_) fun _ _ w=>w.map
 rw [q] at nb ⊢
 obtain ⟨a,o,h1,h2,h3,h4,h5,h6⟩:=fv
 cases d with
 | lst l=>
   cases h3
   refine ⟨{ z' with ρ:=z'.ρ ++ [(a,a)],t:=⟨z'.t.env,z'.t.ow,z'.t.st ++ [.lst l]⟩ },.ref z'.t.st.length,e,rfl,⟨⟨y.st.pr.trans (Ì _ _),y.st.gg,y.st.gn,fun b m=>?_,y.st.th,y.st.sm,y.st.sl⟩,y.sg,y.en,y.ow⟩,I1.give h5 h6 h4,.of ?_⟩
   ·rcases d9.mp m with m | m
    ·exact y.st.rn b m
    ·exact .inr ((show b=a from m.elim id id) ▸ h2)
   ·exact ⟨_,nq I1.toHR,h1⟩
 | _=>exact ZX rfl nb
end
mutual
theorem RD.flT {G2:Hp} (h:∀ b o,G b=some o→o.cls = .type "tuple"→G2 b=some o):∀ {d:D} {v},L2.Ev.flT d=true→RD W ρ G d v→RD W ρ2 G2 d v
 | .non,_,_,e=>e
 | .bl _,_,_,e=>e
 | .int _,_,_,e=>e
 | .str _,_,_,e=>e
 | .tup _,_,n,⟨a,o,vs,e,t,q,r⟩=>⟨a,o,vs,e,h _ _ t q.1,q,RDs.flT h n r⟩
 | .lst _,_,n,_=>nomatch n
 | .dic _ _,_,n,_=>nomatch n
 | .ins _ _,_,n,_=>nomatch n
 | .ref _,_,n,_=>nomatch n
theorem RDs.flT {G2:Hp} (h:∀ b o,G b=some o→o.cls = .type "tuple"→G2 b=some o):∀ {ds:List D} {vs},L2.Ev.flTs ds=true→RDs W ρ G ds vs→RDs W ρ2 G2 ds vs
 | [],_,_,e=>e
 | _ :: _,_,n,⟨v,r,e,t,q⟩=>by
   have n:(L2.Ev.flT _ && L2.Ev.flTs _)=true:=n
   rw [Θ] at n
   exact ⟨v,r,e,RD.flT h n.1 t,RDs.flT h n.2 q⟩
end
section
variable {X:Cx} {z z0:Z}
theorem uT {env:List (Option D)} {i:Nat} {d:D} (h:(bj env)[i]? = some (some d)):env[i]? = some (some d)∧noR d=true:=by
 unfold bj at h
 rw [ϑ] at h
 cases q:env[i]? with
 | none=>rw [q] at h;cases h
 | some o=>cases o with
   | none=>rw [q] at h;cases h
   | some e=>
     rw [q] at h
     have h:some ((some e).bind fun d=>if noR d then some d else none)=some (some d):=h
     have h:=ϝ h
     have h:(if noR e then some e else none)=some d:=h
     split at h
     ·cases h;exact ⟨rfl,by assumption⟩
     ·cases h
def Z.snap (z:Z) (a:Δ) (i:Nat) (l:List D):Z:=⟨[],fun b=>if b=a then z.h a else z.G b,⟨(bj z.t.env).set i (some (.lst l)),[],[]⟩,z.σ,z.s⟩
theorem Rep.snap {a b:Δ} {i n:Nat} {l:List D} (I:Rep X z) (o0:z.t.ow = []) (ei:z.t.env[i]? = some (some (.ref n))) (ep:z.ρ[n]? = some (a,b)) (es:z.t.st[n]? = some (.lst l)) (nl:aU l=true):Rep X (z.snap a i l):=by
 have mu:Mu z.ρ a:=⟨_,Ι ep,.inl rfl⟩
 obtain ⟨o,vs,hp2,ho,lo,rl⟩:=I.ob n _ _ es ep
 have ga:z.G a=none:=I.rg a mu
 have sb:Sub z.G (z.snap a i l).G:=fun c o e=>by
  show (if c=a then z.h a else z.G c)=_
  rw [ZY fun w=>by rw [w,ga] at e;cases e];exact e
 have nn:∀ {c},c≠a→z.G c=none→(z.snap a i l).G c=none:=fun n e=>by show (if _=a then z.h a else z.G _)=_;rw [ZY n];exact e
 refine ⟨⟨I.md,I.fm,I.hd,fun c o e=>sb c o (I.bs c o e),fun c o e=>?_,rfl,fun _ _ _ _ _ h=>by simp [Z.snap] at h,fun _ m=>(c9 m).elim,fun _ _ _ h=>by simp [Z.snap] at h,I.fu,fun c m=>⟨nn (fun w=>(I.ff c m).2 (w ▸ mu)) (I.ff c m).1,c9⟩,I.br,I.os,I.tk⟩,I.ok,I.lo,I.ce,fun c m=>⟨nn (fun w=>(I.fl c m).2 (w ▸ mu)) (I.fl c m).1,c9⟩,?_,I.sl,fun j d _ e=>?_,(fun j m=>nomatch m),(fun j k c m=>nomatch m)⟩
 ·have e:(if c=a then z.h a else z.G c)=some o:=e
  by_cases q:c=a
  ·rw [ZZ q] at e;rw [q];exact e
  ·rw [ZY q] at e;exact I.gh c o e
 ·show ((bj z.t.env).set i _).length=z.σ.length
  rw [ϸ];unfold bj;rw [ο];exact I.el
 ·have e:((bj z.t.env).set i (some (.lst l)))[j]? = some (some d):=e
  by_cases q:j=i
  ·subst q
   have hl:j<(bj z.t.env).length:=by unfold bj;rw [ο];exact (ν.mp ei).1
   rw [Ϟ hl] at e
   cases e
   obtain ⟨u,hu,ru⟩:=I.en j _ (by rw [o0];exact nofun) ei
   obtain ⟨p,e2,rfl⟩:=(ru:RD X.W z.ρ z.G (.ref n) u)
   rw [ep] at e2;cases e2
   exact ⟨_,hu,a,o,vs,rfl,by show (if a=a then z.h a else z.G a)=_;rw [ZZ rfl];exact ho,lo,cC nl (rl.mono (ξ _) sb)⟩
  ·rw [Φ (ϳ q)] at e
   obtain ⟨e1,n1⟩:=uT e
   obtain ⟨u,hu,ru⟩:=I.en j d (by rw [o0];exact nofun) e1
   exact ⟨u,hu,nJ n1 (ru.mono (ξ _) sb)⟩
def Z.unsnap (z z2:Z) (a:Δ):Z:={ z with G:=fun b=>if b=a then none else z2.G b,s:=z2.s }
theorem Rep.unsnap {a b:Δ} {i n:Nat} {l:List D} {z2:Z} (I:Rep X z) (o0:z.t.ow = []) (ep:z.ρ[n]? = some (a,b)) (x:Ee X (z.snap a i l) z2) (J:Rep X z2):Rep X (z.unsnap z2 a)∧Ee X z (z.unsnap z2 a):=by
 have mu:Mu z.ρ a:=⟨_,Ι ep,.inl rfl⟩
 have ga:z.G a=none:=I.rg a mu
 have nO:∀ {c},¬ Own (z.snap a i l) c:=fun ⟨_,m,_⟩=>nomatch m
 have sm:∀ c o,z.h c=some o→c ∉ frs X.fr→z2.h c=some o:=fun c o e f=>x.st.sm c o e c9 nO f
 have sl:∀ c o,z.h c=some o→∃ s,z2.h c=some { o with slots:=s }:=fun c o e=>by
  by_cases f:c∈frs X.fr
  ·exact x.st.sl c o e c9 nO f
  ·exact ⟨o.slots,sm c o e f⟩
 have gg:Sub z.G (z.unsnap z2 a).G:=fun c o e=>by
  have ne:c≠a:=fun w=>by rw [w,ga] at e;cases e
  show (if c=a then none else z2.G c)=_
  rw [ZY ne]
  refine x.st.gg c o ?_
  show (if c=a then z.h a else z.G c)=_
  rw [ZY ne];exact e
 have gn:∀ c o,(z.unsnap z2 a).G c=some o→z.G c=some o∨z.h c=none:=fun c o e=>by
  have e:(if c=a then none else z2.G c)=some o:=e
  by_cases q:c=a
  ·rw [ZZ q] at e;cases e
  ·rw [ZY q] at e
   rcases x.st.gn c o e with w | w | w
   ·have w:(if c=a then z.h a else z.G c)=some o:=w
    rw [ZY q] at w;exact .inl w
   ·exact .inr w
   ·exact (nO w).elim
 refine ⟨I.grw J.tk (J.os.trans I.os.symm) J.br sm sl gg (fun c o e=>?_) fun c o e=>(gn c o e).imp_right I.fre,⟨ξ _,gg,fun c o e=>(gn c o e).imp_right .inl,fun _ m=>.inl m,x.st.th,fun c o e _ _ f=>sm c o e f,fun c o e _ _ _=>sl c o e⟩,rfl,rfl,fun _ m=>m⟩
 have e:(if c=a then none else z2.G c)=some o:=e
 by_cases q:c=a
 ·rw [ZZ q] at e;cases e
 ·rw [ZY q] at e;exact J.gh c o e
theorem pJ {i:Nat} {c:E} {e:Ξ} {R R2:Z→Z→D→η→Prop} (h:∀ z,Rep X z→X.ev false c z.t≠.bad→Wp X (eval e X.env) z (X.ev false c z.t) (R z)) (hD:∀ {z z2:Z} {d:D} {u:η},R z z2 d u→R2 z z2 d u) (hR:∀ {z0 z:Z} {a b:Δ} {n:Nat} {l:List D} {z2:Z} {d:D} {u:η},Ee X z0 z→Rep X z→z.t.ow = []→z.ρ[n]? = some (a,b)→z.t.st[n]? = some (.lst l)→Ee X (Z.snap z a i l) z2→Rep X z2→flX (ak c) d=true→R (z.snap a i l) z2 d u→R2 z0 (z.unsnap z2 a) d u):∀ z,Rep X z→X.ev false (.snap i c) z.t≠.bad→Wp X (eval e X.env) z (X.ev false (.snap i c) z.t) (R2 z):=fun z I nb=>by
 have q0:X.ev false (.snap i c) z.t=(match z.t.env[i]? with
  | some (some (.ref n))=>(match z.t.st[n]? with
    | some (.lst l)=>if aU l=true then (noX (X.ev false c ⟨(bj z.t.env).set i (some (.lst l)),[],[]⟩)).bind fun d _=>if flX (ak c) d=true then .ok d ⟨z.t.env,[],z.t.st⟩ else .bad else .bad
    | _=>.bad)
  | some (some _)=>X.ev false c z.t
  | _=>.bad):=rfl
 have dir:X.ev false (.snap i c) z.t=X.ev false c z.t→Wp X (eval e X.env) z (X.ev false (.snap i c) z.t) (R2 z):=fun q=>by
  rw [q] at nb ⊢
  exact Η (h z I nb) (fun u s' ⟨z',d,e,q,y,I1,r⟩=>⟨z',d,e,q,y,I1,hD r⟩) fun _ _ w=>w
 cases q1:z.t.env[i]? with
 | none=>rw [q0,q1] at nb;exact ZX rfl nb
 | some o=>cases o with
   | none=>rw [q0,q1] at nb;exact ZX rfl nb
   | some d=>cases d with
     | ref n=>
       rw [q1] at q0
       dsimp only at q0
       cases q2:z.t.st[n]? with
       | none=>rw [q0,q2] at nb;exact ZX rfl nb
       | some ob=>cases ob with
         | lst l=>
           rw [q2] at q0
           dsimp only at q0
           by_cases nl:aU l=true
           ·rw [ZZ nl] at q0
            obtain ⟨I0,x0⟩:=I.rel fun _=>false
            have o0:(z.rel fun _=>false).t.ow = []:=Ó.mpr fun _ _=>by simp
            obtain ⟨⟨a,b⟩,ep⟩:∃ p,z.ρ[n]? = some p:=by
             have:=(ν.mp q2).1
             rw [← I.rl] at this
             exact ⟨_,Ζ this⟩
            have J:=I0.snap (a:=a) (b:=b) (i:=i) (n:=n) (l:=l) o0 q1 ep q2 nl
            have nb2:X.ev false c ((z.rel fun _=>false).snap a i l).t≠.bad:=fun w=>nb (by rw [q0,show X.ev false c ⟨(bj z.t.env).set i (some (.lst l)),[],[]⟩ = .bad from w];rfl)
            refine Η (h ((z.rel fun _=>false).snap a i l) J nb2) (fun u s' ⟨z2,d,e1,q3,x2,J2,r⟩=>?_) fun u s' ⟨z2,c',l',_,q3,_,_,_⟩=>ZX (by rw [q0,show X.ev false c ⟨(bj z.t.env).set i (some (.lst l)),[],[]⟩ = .exc c' l' z2.t from q3];rfl) nb
            rw [show X.ev false c ⟨(bj z.t.env).set i (some (.lst l)),[],[]⟩ = .ok d z2.t from q3] at q0
            have q0:X.ev false (.snap i c) z.t=if flX (ak c) d=true then .ok d ⟨z.t.env,[],z.t.st⟩ else .bad:=q0
            by_cases fr:flX (ak c) d=true
            ·rw [ZZ fr] at q0
             obtain ⟨I3,x3⟩:=I0.unsnap (a:=a) (b:=b) (i:=i) (n:=n) (l:=l) o0 ep x2 J2
             refine ⟨(z.rel fun _=>false).unsnap z2 a,d,e1,?_,x0.trans x3,I3,hR x0 I0 o0 ep q2 x2 J2 fr r⟩
             rw [q0]
             show Out.ok d _=Out.ok d ⟨z.t.env,z.t.ow.filter _,z.t.st⟩
             rw [show z.t.ow.filter (fun _=>false) = [] from o0]
            ·rw [ZY fr] at q0;exact ZX q0 nb
           ·rw [ZY nl] at q0;exact ZX q0 nb
         | _=>rw [q0,q2] at nb;exact ZX rfl nb
     | _=>rw [q1] at q0;exact dir q0
theorem lY {z z2:Z} {a b:Δ} {i n:Nat} {l:List D} (I:Rep X z) (ep:z.ρ[n]? = some (a,b)) (es:z.t.st[n]? = some (.lst l)) (x:Ee X (z.snap a i l) z2):∀ c o,z2.G c=some o→o.cls = .type "tuple"→(z.unsnap z2 a).G c=some o:=fun c o e t=>by
 obtain ⟨o',vs,hp2,ho,⟨⟨k,rfl⟩,_⟩,rl⟩:=I.ob n _ _ es ep
 show (if c=a then none else z2.G c)=_
 rw [ZY fun w=>?_]
 ·exact e
 ·subst w
  have:=x.st.gg c _ (show (if c=c then z.h c else z.G c)=some _ by rw [ZZ rfl];exact ho)
  rw [e] at this
  cases this
  exact ZX (Value.type.inj t) (by decide)
theorem vG {i:Nat} {e:Ξ} {c:E} (h:LE X e c) (hf:ak c=false):LE X e (.snap i c):=fun br=>
 pJ (R:=fun _=>RV X.W false c) (R2:=fun _=>RV X.W br (.snap i c)) (h false) (fun r=>.of r.rd) fun {z0 z a b n l z2 d u} x0 I o0 ep es x J f r=>.of (by
  rw [hf] at f
  exact RD.flT (lY I ep es x) f r.rd)
theorem oF {z0 z z2:Z} {a b:Δ} {i n:Nat} {l:List D} {d:D} {u:η} (x0:Ee X z0 z) (I:Rep X z) (o0:z.t.ow = []) (ep:z.ρ[n]? = some (a,b)) (es:z.t.st[n]? = some (.lst l)) (x:Ee X (z.snap a i l) z2) (f:flR d=true) (r:FV X (z.snap a i l) z2 d u):FV X z0 (z.unsnap z2 a) d u:=by
 obtain ⟨a',o,rfl,h1,h2,h3,h4,h5⟩:=r
 cases d with
 | lst m=>
   cases h2
   obtain ⟨o,vs,q1,q2,q3,q4⟩:=h3
   refine ⟨a',.lst m,rfl,x0.st.no h1,rfl,⟨o,vs,q1,q2,q3,RDs.flT (lY I ep es x) f q4⟩,⟨?_,fun m=>?_,h4.2.2.1,h4.2.2.2⟩,fun ⟨j,m,_⟩=>by rw [show (z.unsnap z2 a).t.ow = [] from o0] at m;exact nomatch m⟩
   ·show (if a'=a then none else z2.G a')=none
    split
    ·rfl
    ·exact h4.1
   ·obtain ⟨o2,e2⟩:=I.th m
    rw [show z.h a'=none from h1] at e2;cases e2
 | _=>first | (cases h2;done) | cases f
theorem tS {z0 z z2:Z} {a C:Δ} {i:Nat} {l:List D} (x0:Ee X z0 z) (I:Rep X z) (o0:z.t.ow = []) (r:Nob X (z.snap a i l) z2 C):Nob X z0 (z.unsnap z2 a) C:=by
 refine ⟨x0.st.no r.1,⟨?_,fun m=>?_,r.2.1.2.2.1,r.2.1.2.2.2⟩,fun ⟨j,m,_⟩=>by rw [show (z.unsnap z2 a).t.ow = [] from o0] at m;exact nomatch m⟩
 ·show (if C=a then none else z2.G C)=none
  split
  ·rfl
  ·exact r.2.1.1
 ·obtain ⟨o2,e2⟩:=I.th m
  rw [show z.h C=none from r.1] at e2;cases e2
theorem gq {i:Nat} {e:Ξ} {c:E} (h:LF X e c) (hf:ak c=true):LF X e (.snap i c):=
 pJ (R:=FV X) (R2:=FV X) h (fun r=>r) fun {z0 z a b n l z2 d u} x0 I o0 ep es x J f r=>oF x0 I o0 ep es x (by rw [hf] at f;exact f) r
theorem wH {c:E} {i:Nat} {x:θ} {pos':ϧ} {E:η→τ→Prop} {zf:Z} {d:D} {D' C:Δ} {m:θ→Option η} (hN:X.N.Nodup) (hi:X.N[i]? = some x) (hx:Loc X.env.scope x) (hf:ak c=true) (x0:Ee X z zf) (If:Rep X zf) (e1:X.ev false c z.t = .ok d zf.t) (fv:FV X z zf d (.ref D')) (nC:Nob X z zf C) (exC:∃ oC,zf.h C=some oC) (hn:zf.s.heap.Ns C m) (CD:C≠D') :
 compPost X.M X.A E (some (assign (.Name x pos') X.env)) (fun _ s'=>Ps X z (X.ex (.set i c) z.t) .next s') (.ref D') C (.ok .next) zf.s:=by
 show Ε _ X.A (assign (.Name x pos') X.env (.ref D')) _ _ _
 refine Ŋ (bG (own:=true) x0.go If hN hi hx fv fun s' a sb la I' g'=>?_)
 have Ca:C≠a:=fun w=>nC.2.1.2.2.2 (w ▸ la.1)
 refine ⟨m,hn.sameBut sb Ca,fun h' sb'=>?_⟩
 have k:∀ b o,b ∉ [C]→s'.heap.get? b=some o→h'.get? b=some o:=fun b o m e=>(sb'.2 b fun w=>m (by rw [w];exact ι.mpr rfl)).trans e
 obtain ⟨oC,eC⟩:=exC
 obtain ⟨I4,S4,g4,_⟩:=Rep.turn (z:={ zf with t:=stV zf.t i d true,σ:=zf.σ.set i (some (.ref D')),s:=s' }) (s':={ s' with heap:=h' }) g'.st I' (fun b hb=>by
  rw [ι.mp hb]
  refine ⟨⟨nC.1,nC.2.1,fun ⟨j,mj,ej⟩=>?_⟩,oC,(sb.2 C Ca).trans eC⟩
  by_cases q:j=i
  ·subst q
   have hl:j<zf.σ.length:=by rw [If.sl];exact (ν.mp hi).1
   have ej:(zf.σ.set j (some (.ref D')))[j]? = some (some (.ref C)):=ej
   rw [Ϟ hl] at ej
   cases ej;exact CD rfl
  ·have ej:(zf.σ.set i (some (.ref D')))[j]? = some (some (.ref C)):=ej
   rw [Φ (ϳ q)] at ej
   have mj:j∈i :: zf.t.ow.filter (· != i):=mj
   rcases φ.mp mj with w | w
   ·exact q w
   ·exact nC.2.2 ⟨j,(ϕ.mp w).1,ej⟩) k ⟨rfl,rfl⟩
 refine nxt (z1:=Z.up { zf with t:=stV zf.t i d true,σ:=zf.σ.set i (some (.ref D')),s:=s' } { s' with heap:=h' }) ⟨S4,g'.ow⟩ I4 ?_
 show Out.go (X.ev false c z.t) _=_
 rw [e1]
 show ah.nx (ie zf.t i d (ak c))=_
 have ld:sA d=true:=by
  obtain ⟨_,_,_,_,t,_⟩:=fv
  cases d <;> first | rfl | cases t
 unfold ie
 rw [ld,hf];rfl
theorem qz {N:List θ} {sc:Ą} {ee tg iter:Ξ} {ifs:List Ξ} {t:List Nat} {one:Bool} {it elt cond:E} {pos pos' spos:ϧ} {i j:Nat} {x:θ} (hN:X.N.Nodup) (hi:X.N[i]? = some x) (hx:Loc X.env.scope x) (P:LcP X N ee tg iter ifs sc t one it elt cond):LS X (.Assign [.Name x pos'] (.ListComp ee [⟨tg,iter,ifs,0⟩] sc pos) spos) (.set i (.snap j (.lc t one it elt cond))):=fun z I nb=>by
 by_cases dr:∃ d,z.t.env[j]? = some (some d)∧oO d=false
 ·obtain ⟨d,e1,e2⟩:=dr
  have q:X.ev false (.snap j (.lc t one it elt cond)) z.t=X.ev false (.lc t one it elt cond) z.t:=by
   have q0:X.ev false (.snap j (.lc t one it elt cond)) z.t=(match z.t.env[j]? with
    | some (some (.ref n))=>(match z.t.st[n]? with
      | some (.lst l)=>if aU l=true then (noX (X.ev false (.lc t one it elt cond) ⟨(bj z.t.env).set j (some (.lst l)),[],[]⟩)).bind fun d _=>if flX true d=true then .ok d ⟨z.t.env,[],z.t.st⟩ else .bad else .bad
      | _=>.bad)
    | some (some _)=>X.ev false (.lc t one it elt cond) z.t
    | _=>.bad):=rfl
   rw [q0,e1]
   cases d <;> first | rfl | cases e2
  have e:X.ex (.set i (.snap j (.lc t one it elt cond))) z.t=X.ex (.set i (.lc t one it elt cond)) z.t:=by
   show Out.go (X.ev false (.snap j (.lc t one it elt cond)) z.t) _=Out.go (X.ev false (.lc t one it elt cond) z.t) _
   rw [q];rfl
  have g:=kR (pos:=pos) (pos':=pos') (spos:=spos) hN hi hx P z I (fun w=>nb (e.trans w))
  rw [← e] at g
  exact g
 obtain ⟨b,sw⟩:∃ b,ķ (.ListComp ee [⟨tg,iter,ifs,0⟩] sc pos) (some (.Name x pos')) spos.line X.env=pure b:=⟨_,rfl⟩
 cases b with
 | false=>exact fG hN hi hx ((gq (kP P) rfl).le fun _=>rfl) (fun _=>gq (kP P) rfl) sw z I nb
 | true=>
   have nb:X.ev false (.snap j (.lc t one it elt cond)) z.t≠.bad:=fun q=>nb (show Out.go (X.ev false (.snap j (.lc t one it elt cond)) z.t) _=_ by rw [q];rfl)
   rw [Gq _ _ _ _ sw]
   refine ε (õ (ε ?_))
   show Ε _ X.A (do let _ ← comprehension (.ListComp ee [⟨tg,iter,ifs,0⟩] sc pos) sc X.env _ (newList []) false (eval iter X.env) (some (assign (.Name x pos') X.env))) _ _ z.s
   have q0:X.ev false (.snap j (.lc t one it elt cond)) z.t=(match z.t.env[j]? with
    | some (some (.ref n))=>(match z.t.st[n]? with
      | some (.lst l)=>if aU l=true then (noX (X.ev false (.lc t one it elt cond) ⟨(bj z.t.env).set j (some (.lst l)),[],[]⟩)).bind fun d _=>if flX true d=true then .ok d ⟨z.t.env,[],z.t.st⟩ else .bad else .bad
      | _=>.bad)
    | some (some _)=>X.ev false (.lc t one it elt cond) z.t
    | _=>.bad):=rfl
   cases q1:z.t.env[j]? with
   | none=>rw [q0,q1] at nb;exact ZX rfl nb
   | some o=>cases o with
     | none=>rw [q0,q1] at nb;exact ZX rfl nb
     | some d=>cases d with
       | ref n=>
         rw [q1] at q0
         dsimp only at q0
         cases q2:z.t.st[n]? with
         | none=>rw [q0,q2] at nb;exact ZX rfl nb
         | some ob=>cases ob with
           | lst l=>
             rw [q2] at q0
             dsimp only at q0
             by_cases nl:aU l=true
             ·rw [ZZ nl] at q0
              obtain ⟨I0,x0⟩:=I.rel fun _=>false
              have o0:(z.rel fun _=>false).t.ow = []:=Ó.mpr fun _ _=>by simp
              obtain ⟨⟨a,b⟩,ep⟩:∃ p,z.ρ[n]? = some p:=by
               have:=(ν.mp q2).1
               rw [← I.rl] at this
               exact ⟨_,Ζ this⟩
              have J:=I0.snap (a:=a) (b:=b) (i:=j) (n:=n) (l:=l) o0 q1 ep q2 nl
              have nb2:X.ev false (.lc t one it elt cond) ((z.rel fun _=>false).snap a j l).t≠.bad:=fun w=>nb (by rw [q0,show X.ev false (.lc t one it elt cond) ⟨(bj z.t.env).set j (some (.lst l)),[],[]⟩ = .bad from w];rfl)
              refine ε (thn (mU (use:=some (assign (.Name x pos') X.env)) (z:=(z.rel fun _=>false).snap a j l) (Q:=fun _ s'=>Ps X z (X.ex (.set i (.snap j (.lc t one it elt cond))) z.t) .next s') P J rfl nb2 (fun u s' ⟨z',c',l',e,q3,_,_,_⟩=>ZX (by rw [q0,show X.ev false (.lc t one it elt cond) ⟨(bj z.t.env).set j (some (.lst l)),[],[]⟩ = .exc c' l' z'.t from q3];rfl) nb) fun zf d D' C m x2 If e fv nC exC hn CD=>?_) fun _ s' hq=>π (π hq))
              rw [show X.ev false (.lc t one it elt cond) ⟨(bj z.t.env).set j (some (.lst l)),[],[]⟩ = .ok d zf.t from e] at q0
              have q0:X.ev false (.snap j (.lc t one it elt cond)) z.t=if flX true d=true then .ok d ⟨z.t.env,[],z.t.st⟩ else .bad:=q0
              by_cases fr:flX true d=true
              ·rw [ZZ fr] at q0
               obtain ⟨I3,x3⟩:=I0.unsnap (a:=a) (b:=b) (i:=j) (n:=n) (l:=l) o0 ep x2 If
               refine wH (z:=z) (zf:=(z.rel fun _=>false).unsnap zf a) hN hi hx rfl (x0.trans x3) I3 ?_ (oF x0 I0 o0 ep q2 x2 fr fv) (tS x0 I0 o0 nC) exC hn CD
               rw [q0]
               show Out.ok d _=Out.ok d ⟨z.t.env,z.t.ow.filter _,z.t.st⟩
               rw [show z.t.ow.filter (fun _=>false) = [] from o0]
              ·rw [ZY fr] at q0;exact ZX q0 nb
             ·rw [ZY nl] at q0;exact ZX q0 nb
           | _=>rw [q0,q2] at nb;exact ZX rfl nb
       | _=>exact ZX ⟨_,q1,rfl⟩ dr
end
def cxF (X:Cx) (cal cal1:Nat→List D→List O→Res) (N:List θ) (qual:θ) (scope:Ą) (f:Δ) (cd:η) (A:ϗ) (fr:List Ų) (L:Δ):Cx:=
 { X with A:=A.deeper (ş qual scope L f cd),fr:=ş qual scope L f cd :: fr,N:=N,env:=ş qual scope L f cd,cal:=cal,cal1:=cal1 }
section
variable {X:Cx} {cal cal1:Nat→List D→List O→Res} {N ps:List θ} {qual:θ} {scope:Ą} {f:Δ} {cd:η} {A:ϗ} {fr:List Ų} {z z':Z} {k:Nat}
theorem qN {α β:Type} {ds:List α} {n i:Nat} {d:α} (h:(ds.map some ++ μ n none)[i]? = some (some d)):ds[i]? = some d:=by
 by_cases hi:i<ds.length
 ·rw [ϓ (by simpa using hi),ϑ] at h
  cases e:ds[i]? with
  | none=>rw [e] at h;cases h
  | some a=>rw [e] at h;cases h;rfl
 ·rw [Χ (by simpa using hi),Ă] at h
  split at h <;> cases h
theorem uv {α:Type} {ds:List α} {n i:Nat} {d:α} (h:ds[i]? = some d):(ds.map some ++ μ n none)[i]? = some (some d):=by
 have hi:=(ν.mp h).1
 rw [ϓ (by simpa using hi),ϑ,h];rfl
theorem nV {es:List (Option D)} {n i:Nat} {d:D} (h:(es ++ μ n none)[i]? = some (some d)):es[i]? = some (some d):=by
 by_cases hi:i<es.length
 ·rwa [ϓ hi] at h
 ·rw [Χ (by omega),Ă] at h
  split at h <;> cases h
theorem qK {s1:τ} {es:List (Option D)} {us:List η} (S:ez N ps scope) (I:HR { X with A:=A,fr:=fr } z) (hr:bv (k+1) A) (hl:us.length=ps.length) (le:es.length=us.length) (r:∀ (i:Nat) (d:D),es[i]? = some (some d)→∃ v,us[i]? = some v∧RD X.W z.ρ z.G d v)
 (x:InCallC z.s z.s.heap.objs.size (FQ (ş qual scope z.s.heap.objs.size f cd).kindOf (ps.zip us) fun _=>none) (HG (z.s.heap.objs.size+1) scope.names []) (FR (ş qual scope z.s.heap.objs.size f cd).kindOf (ps.zip us) fun _=>none) s1) (tk1:X.tz≤s1.toks) :
 Rep (cxF X cal cal1 N qual scope f cd A fr z.s.heap.objs.size) ⟨z.ρ,z.G,⟨es ++ μ (N.length - ps.length) none,[],z.t.st⟩,us.map some ++ μ (N.length - ps.length) none,s1⟩:=by
 have hpl:ps.length≤N.length:=by have:=ZS HP S.pre;rw [Ϡ] at this;omega
 obtain ⟨h1,tk,rfl,hk⟩:=x.done
 have ak:∀ {c:Δ},z.s.heap.objs.size≤c→z.G c=none∧¬ Mu z.ρ c:=fun {c} h=>by
  have n:z.h c=none:=Ϙ h
  refine ⟨?_,fun m=>by obtain ⟨o,e⟩:=I.th m;rw [n] at e;cases e⟩
  cases q:z.G c with
  | none=>rfl
  | some o=>have:=I.gh c o q;rw [n] at this;cases this
 have lcf:∀ {a},Lc (cxF X cal cal1 N qual scope f cd A fr z.s.heap.objs.size) a→z.s.heap.objs.size≤a:=fun h=>by
  rcases h with rfl | ⟨y,e⟩
  ·exact ύ _
  ·exact ď (x.above y _ (Ð e))
 have bn:X.base.get? z.s.heap.objs.size=none:=by
  cases q:X.base.get? z.s.heap.objs.size with
  | none=>rfl
  | some o=>have:=I.gh _ o (I.bs _ o q);rw [show z.h z.s.heap.objs.size=none from Ϙ (ύ _)] at this;cases this
 obtain ⟨oL,esL,epL,hoL,hdL,_⟩:=id x.toInCall.ns
 have gr:Gr z.s { z.s with heap:=h1,toks:=tk }:=.hp hk
 have G:=I.grow (aq I.gh gr) tk1
 refine ⟨⟨I.md,Around.frames_deeper I.fm,I.hd,I.bs,G.gh,I.rl,I.rn,I.rg,G.ob,?_,fun b hb=>?_,I.br,I.os,tk1⟩,⟨by have:=(hr.deeper (ş qual scope z.s.heap.objs.size f cd)).un;show (A.deeper _).units+200<_;omega,S.kind,rfl,rfl,fun y w c e1 e2=>name_of_addr x.apart (Ð e1) (Ð e2),fun y hy=>?_⟩,⟨_,x.toInCall.ns,fun i y v e1 e2 e3=>?_⟩,fun y c h=>⟨_,x.cell y c h⟩,fun a l=>ak (lcf l),by show (es ++ _).length=(us.map some ++ _).length;simp [le],by show (us.map some ++ _).length=N.length;rw [ζ,ο,Ϛ];omega,fun i d _ e=>?_,(fun i m=>nomatch m),(fun i j a m=>nomatch m)⟩
 ·have kd:(ş qual scope z.s.heap.objs.size f cd).scope.kind≠ScopeKind.module:=by show scope.kind≠_;rw [S.kind];decide
  exact ⟨kd,⟨_,oL,rfl,bn,hoL,fun vs e=>by rw [hdL] at e;cases e⟩,G.fu⟩
 ·rcases φ.mp (show b∈z.s.heap.objs.size :: frs fr from hb) with q | q
  ·rw [q];exact ak (ύ _)
  ·exact I.ff b q
 ·have hy:scope.names.lookup y=some .cell∨scope.names.lookup y=some .free:=hy
  rcases hy with hy | hy
  ·exact kf hy
  ·exact ZX rfl (S.nofree _ (Ð hy))
 ·have hu:us[i]? = some v:=qN (β:=Unit) e2
  have hi:i<ps.length:=by rw [← hl];exact (ν.mp hu).1
  have hp:ps[i]? = some y:=by
   rw [← S.pre,List.getElem?_take_of_lt (by omega)];exact e1
  have ndP:ps.Nodup:=by rw [← S.pre];exact S.nd.sublist (Gc _ _)
  rcases S.par y (Ι hp) with k | k
  ·exact .inl ⟨k,iL ndP hp hu k⟩
  ·obtain ⟨c,e⟩:=kf (n:=z.s.heap.objs.size+1) k
   refine .inr ⟨.inl k,c,e,?_⟩
   have q:=x.cell y c e
   rw [iJ ndP hp hu (by show scope.names.lookup y≠_;rw [k];decide)] at q
   exact q
 ·obtain ⟨v,e1,r1⟩:=r i d (nV e)
  exact ⟨v,uv e1,r1⟩
theorem Bc {name:θ} {params:G4} {body:List Ø} {dV kV doc pm ct oc:η} {an od:Option Δ} {osl:Array (Option η)} {j:Nat} {c:S} (lk:X.K.lookup f=some ⟨oc,od,.func (Ê name qual params body scope dV kV doc pm an cd ct),osl⟩) (hcd:ñ X.K cd qual=true) (S:ez N ps scope) {df:List D} {dvs:List η} (hj:X.Γ.fn[j]? = some ⟨ps.length,N.length,c,df⟩) (hdv:∀ ρ G,RDs X.W ρ G df dvs)
 (hb:∀ A fr L,bv k (A.deeper (ş qual scope L f cd))→LSs (cxF X cal cal1 N qual scope f cd A fr L) body c):FnC X (iE X.Γ cal cal1) (k+1) j f (Ê name qual params body scope dV kV doc pm an cd ct) ps dvs:=by
 have run:∀ ds st,iE X.Γ cal cal1 j ds st=if (ds ++ df).length=ps.length then (match exS X.Γ cal cal1 c ⟨(ds ++ df).map some ++ μ (N.length - ps.length) none,[],st⟩ with
  | .nx s=>.ok .non s.st
  | .rt d s=>.ok d s.st
  | .exc c l s=>.exc c l s.st
  | .bad=>.bad) else .bad:=fun ds st=>by unfold iE;rw [hj];all_goals rfl
 refine ⟨fun ds st nb=>?_,fun A fr z args us ds hr I hbd r nb=>?_⟩
 ·by_cases q:(ds ++ df).length=ps.length
  ·rw [← (hdv [] fun _=>none).len,← ζ];exact q
  ·rw [run,ZY q] at nb;exact ZX rfl nb
 by_cases hl:(ds ++ df).length=ps.length
 rotate_left
 ·rw [run,ZY hl] at nb;exact ZX rfl nb
 rw [run,ZZ hl] at nb ⊢
 have r:=r.app (hdv z.ρ z.G)
 generalize ds ++ df=ds at r hl nb ⊢
 generalize us ++ dvs=us at r hbd
 have KX:X.K.In z.s.heap:=I.kin
 have lim:z.s.heap.NoLimit:=I.md.nolimit.keeps (Rep.bk I)
 have hkind:∀ y∈ps.zip us,scope.names.lookup y.1=some .local∨(scope.names.lookup y.1=some .cell∧((HG (z.s.heap.objs.size+1) scope.names []).lookup y.1).isSome=true):=fun ⟨n,v⟩ hy=>by
  rcases S.par n (Œ hy).1 with q | q
  ·exact .inl q
  ·exact .inr ⟨q,EK _ _ _ (.inl q)⟩
 refine codeAny_call_function hr.depth (KX _ _ lk) rfl S.co S.gen rfl (PySem.W.codeRec_of KX hcd) (hbd _ _ _ _ ?_)
 refine aV I.tk (wpAny_newFunctionEnv_cells S.kind hkind fun env he s1 x tk1=>?_)
 subst he
 refine ⟨lim.keeps x.toInCall.keep,codeAny_func ?_⟩
 have J:=qK (es:=ds.map some) (cal:=cal) (cal1:=cal1) S I hr (r.len ▸ hl) (by rw [ο];exact r.len) (fun i d e=>r.get (by rw [ϑ,Α] at e;obtain ⟨_,e1,e2⟩:=e;cases e2;exact e1)) x tk1
 have hk:∀ b o,z.h b=some o→s1.heap.get? b=some o:=x.toInCall.keep
 have F:bI (cxF X cal cal1 N qual scope f cd A fr z.s.heap.objs.size):=⟨⟨_,fr,rfl,rfl⟩,⟨_,rfl⟩⟩
 have lcf:∀ {a o},z.h a=some o→¬ Lc (cxF X cal cal1 N qual scope f cd A fr z.s.heap.objs.size) a:=fun {a o} e h=>by
  have:z.s.heap.objs.size≤a:=by
   rcases h with rfl | ⟨y,e⟩
   ·exact ύ _
   ·exact ď (x.above y _ (Ð e))
  exact ZX (ϟ e) (Nat.not_lt.mpr this)
 have nofr:∀ {a o},z.h a=some o→a ∉ frs fr→a ∉ frs (ş qual scope z.s.heap.objs.size f cd :: fr):=fun {a o} e n m=>by
  rcases φ.mp (show a∈z.s.heap.objs.size :: frs fr from m) with q | q
  ·exact ZX (ϟ e) (by rw [q];exact EY _)
  ·exact n q
 have none1:∀ {a},s1.heap.get? a=none→z.h a=none:=fun {a} n=>by
  cases q:z.h a with
  | none=>rfl
  | some o=>rw [hk a o q] at n;cases n
 have back:∀ {z'},Stp (ş qual scope z.s.heap.objs.size f cd :: fr) (Pv (cxF X cal cal1 N qual scope f cd A fr z.s.heap.objs.size) ⟨z.ρ,z.G,⟨ds.map some ++ μ (N.length - ps.length) none,[],z.t.st⟩,us.map some ++ μ (N.length - ps.length) none,s1⟩) ⟨z.ρ,z.G,⟨ds.map some ++ μ (N.length - ps.length) none,[],z.t.st⟩,us.map some ++ μ (N.length - ps.length) none,s1⟩ z'→Rep (cxF X cal cal1 N qual scope f cd A fr z.s.heap.objs.size) z'→Stp fr NoW z z'∧HR { X with A:=A,fr:=fr } z':=fun {z'} y K=>by
  have nw:∀ {a o},z.h a=some o→¬ Pv (cxF X cal cal1 N qual scope f cd A fr z.s.heap.objs.size) ⟨z.ρ,z.G,⟨ds.map some ++ μ (N.length - ps.length) none,[],z.t.st⟩,us.map some ++ μ (N.length - ps.length) none,s1⟩ a:=fun e w=>w.elim (fun ⟨i,m,_⟩=>nomatch m) (lcf e)
  refine ⟨⟨y.pr,y.gg,fun a o e=>?_,fun a m=>(y.rn a m).imp_right none1,fun a o e=>y.th a o (hk a o e),fun a o e n _ m=>y.sm a o (hk a o e) n (nw e) (nofr e m),fun a o e n _ m=>y.sl a o (hk a o e) n (nw e) (υ _ m)⟩,⟨K.md,I.fm,I.hd,K.bs,K.gh,K.rl,K.rn,K.rg,K.ob,K.fu.2.2,fun b m=>K.ff b (υ _ m),K.br,K.os,K.tk⟩⟩
  rcases y.gn a o e with q | q | q
  ·exact .inl q
  ·exact .inr (.inl (none1 q))
  ·rcases q with ⟨i,m,_⟩ | l
   ·exact nomatch m
   ·rw [(K.fl a l).1] at e;cases e
 have nb2:(cxF X cal cal1 N qual scope f cd A fr z.s.heap.objs.size).ex c ⟨ds.map some ++ μ (N.length - ps.length) none,[],z.t.st⟩≠.bad:=fun q=>nb (by rw [show exS X.Γ cal cal1 c ⟨ds.map some ++ μ (N.length - ps.length) none,[],z.t.st⟩ = .bad from q])
 refine Η (hb A fr z.s.heap.objs.size (hr.deeper _) _ J nb2) (fun fl s' hs=>?_) fun e s' hs=>qI (Q:=fun e s''=>CRs { X with A:=A,fr:=fr } z _ (.error e) s'') F hs fun z' c' l a T cls dx q e1 y K xr na t nT=>?_
 ·cases q:exS X.Γ cal cal1 c ⟨ds.map some ++ μ (N.length - ps.length) none,[],z.t.st⟩ with
  | nx t=>
    rw [show (cxF X cal cal1 N qual scope f cd A fr z.s.heap.objs.size).ex c _ = .nx t from q] at hs
    obtain ⟨rfl,z',e1,e2,y,K⟩:=hs
    subst e1 e2
    obtain ⟨b1,b2⟩:=back y.st K
    exact ⟨z',.non,rfl,rfl,b1,b2,rfl⟩
  | rt d t=>
    rw [show (cxF X cal cal1 N qual scope f cd A fr z.s.heap.objs.size).ex c _ = .rt d t from q] at hs
    obtain ⟨u,z',rfl,e1,e2,y,K,rd⟩:=hs
    subst e1
    obtain ⟨b1,b2⟩:=back y.st K
    exact ⟨z',d,rfl,by rw [e2],b1,b2,rd⟩
  | exc c' l t=>rw [show (cxF X cal cal1 N qual scope f cd A fr z.s.heap.objs.size).ex c _ = .exc c' l t from q] at hs;exact hs.elim
  | bad=>exact ZX q nb2
 ·obtain ⟨b1,b2⟩:=back y K
  have q:exS X.Γ cal cal1 c ⟨ds.map some ++ μ (N.length - ps.length) none,[],z.t.st⟩ = .exc c' l z'.t:=q
  rw [q]
  exact ⟨z',c',l,rfl,rfl,b1,b2,a,T,cls,dx,e1,xr,t,⟨none1 na.1,na.2.1.1,na.2.1.2.1⟩,none1 nT.1,nT.2.1.1,nT.2.1.2.1⟩
end
end L2.Ev
end
section
namespace L2.Ev
open PySem.W
theorem rT {K:Frag} {C:Δ} (Y:b7 K C) (od:Option FX):findObj K C od "__class__" = some (.bind (.builtin "getset_descriptor.__get__") (.builtin "object.__class__")):=by
 obtain ⟨cd,hc⟩:=Et.mp Y.is
 unfold findObj
 rw [hc,FW,Y.cl,FW]
 simp [Y.sg,Y.tk]
section
variable {prog:Î} {w:é} {A:ϗ} {E:η→τ→Prop} {K:Frag} {C a:Δ} {o:FX} {od:Option FX} {h:Â} {g:Array GenState} {d:Drawn} {t:Nat} {os:Ga}
theorem kh (Y:b7 K C) (X:K.In h) (I:InstAt h a o C od) (hq:Q () ⟨h,g,d,t,os⟩):Ε M A (HF "BaseException.__getattribute__" ⟨[.ref a,nameV],[]⟩) Q E ⟨h,g,d,t,os⟩:=by
 have k1:builtinKind "BaseException.__getattribute__" = some .slot:=by decide +kernel
 have k2:splitId "BaseException.__getattribute__" = some ("BaseException","__getattribute__"):=by decide +kernel
 have L:Looks M h (DQ (.ref a) (.type "BaseException")) true:=(I.type (M:=M)).andThen (looks_mroIn X Y.be)
 have ha:=F.args_bexc_ga (.ref a) nameV
 simp only [HF,k1,k2]
 refine ε (L.at ?_)
 repeat (any_goals (first | assumption | wp_step))
theorem km {tk:Tok} {Q:Fin→τ→Prop} (Y:b7 K C) (X:K.In h) (I:InstAt h a o C od) (hq:Q (.done (.ret (.ref C))) ⟨h,g,d,t,os⟩) :
 Ε (model prog w) A (Hy.«object.__getattribute__» ⟨[.ref a,.str "__class__" tk],[]⟩) Q E ⟨h,g,d,t,os⟩:=by
 have L0:=I.type (M:=model prog w)
 have L1:=looks_find (M:=model prog w) X I (rT Y od)
 refine ε (π (ε (π (ε (L0.at (ε (L1.at ?_)))))))
 show Ε _ _ (holding [ĳ "object.__class__"] (call (ĳ "getset_descriptor.__get__") [ĳ "object.__class__",É a,É C]) >>= ret) _ _ _
 exact ε (ώ (Ċ (class_get (s:=⟨h,g,d,t,os⟩) X I Y.ob (π hq))))
theorem mD (Y:b7 K C) (X:K.In h) (I:InstAt h a o C od) (hq:Q (some (.ref C)) ⟨h,g,d,t+1,os⟩):Ε (model prog w) A (getAttr? (.ref a) "__class__") Q E ⟨h,g,d,t,os⟩:=by
 have L0:=I.type (M:=model prog w)
 have L1:=looks_findIn (M:=model prog w) X Y.ga
 have L2:=looks_findIn (M:=model prog w) X Y.gn
 have G:=DK.ga
 have b1:=G.bind (.ref a)
 unfold getAttr?;unfold getAttrBy?;unfold getAttrBy
 refine ε (wpAny_mkText ?_)
 refine ε (D8 (ώ ?_))
 refine ε (L0.at ?_)
 refine ε (L1.at ?_)
 show Ε _ _ (Ŧ _ _ _ _ _ _) _ _ _
 unfold Ŧ
 refine ε (L2.at ?_)
 refine ε (D8 (ώ ?_))
 show Ε _ _ (Fh _ _ _) _ _ _
 unfold Fh
 rw [b1]
 refine ε (π ?_)
 refine Ċ (Ģ G.plain Hx (kh Y X I (km Y X I ?_)))
 exact handed_on rfl (π hq)
end
theorem rC {K:Frag} (e:(clsIn K C).isSome=true):∃ c' d' cd' sl',K.lookup C=some ⟨c',d',.cls cd',sl'⟩:=by
 unfold clsIn at e
 split at e
 ·rename_i q;exact ⟨_,_,_,_,q⟩
 ·cases e
structure j7 (K:Frag) (B:Δ):Prop where
 ty:typeIn K (.ref B)=some (.type "type")
 is:(clsIn K B).isSome=true
 be:mroIn K B (.type "BaseException")=some true
theorem oP {K:Frag} {M:EW} (X:K.In h) (e:(clsIn K C).isSome=true):Looks M h (isType (.ref C)) true:=by
 obtain ⟨c',d',cd',sl',hk⟩:=rC e
 intro A' Q' E' s' k q
 unfold isType;unfold loadHead
 exact ε (Fd (k _ _ (X _ _ hk)) (π q))
theorem gV {K:Frag} {M:EW} {A:ϗ} {E:η→τ→Prop} {s:τ} {a B C:Δ} {o:FX} {Q:Bool→τ→Prop} (X:K.In s.heap) (Y:j7 K B) (he:s.heap.get? a=some o) (hc:o.cls = .ref C) {b:Bool} (hm:mroIn K C (.ref B)=some b) (hq:Q b s):Ε M A (excMatches (.ref a) (.ref B)) Q E s:=by
 have L1:Looks M s.heap (DQ (.ref B) (.type "tuple")) false:=(looks_typeIn X Y.ty).andThen (Looks.of_pure tc_notTuple)
 have L2:=oP (M:=M) X Y.is
 have L3:=looks_mroIn (M:=M) X Y.be
 have L4:=looks_mroIn (M:=M) X hm
 obtain ⟨h,g,d,t,os⟩:=s
 unfold excMatches isExcClass
 refine ε (L1.at ?_)
 dsimp only
 rw [ZY ϩ]
 refine ε (π ?_)
 rw [E4]
 refine ε (ε (ε (ε (L2.at ?_))))
 rw [ZZ rfl]
 refine L3.at ?_
 rw [ZY (show ¬ ((!true)=true) by decide)]
 refine π ?_
 dsimp only
 rw [List.forIn_nil]
 refine π ?_
 have T0:∀ {Q':η→τ→Prop},Q' (.ref C) ⟨h,g,d,t,os⟩→Ε M A (typeOf (.ref a)) Q' E ⟨h,g,d,t,os⟩:=fun {Q'} q'=>by
  repeat (first | (with_reducible refine ŉ he ?_;rw [hc]) | wp_step)
  exact q'
 refine ε (T0 ?_)
 rw [E4]
 refine ε (ε (ε (L4.at ?_)))
 cases b with
 | true=>rw [ZZ rfl];exact π (π (π hq))
 | false=>
   rw [ZY ϩ]
   exact π (π (show Ε M A (pure false) Q E _ from π hq))
def gZ (bmB:List η):List η→Bool
 | []=>false
 | v :: r=>(v :: r) == bmB || match v with | .ref _=>gZ bmB r | _=>false
theorem dE (hp:H9 self "__setattr__" bmB=pure ()):∀ {l},gZ bmB l=true→H9 self "__setattr__" l=pure ()
 | [],e=>by cases e
 | v :: r,e=>by
   unfold gZ at e
   rcases FO.mp e with z | z
   ·rw [beq_iff_eq.mp z];exact hp
   ·split at z
    ·rw [refuseLoop_ref];exact dE hp z
    ·cases z
abbrev veB:List η:=[.type "ValueError",.type "Exception",.type "BaseException",.type "object"]
abbrev exB:List η:=[.type "Exception",.type "BaseException",.type "object"]
structure gy (K:Frag) (C:Δ):Prop where
 sa:findIn K (.ref C) "__setattr__" = some (some (.builtin "object.__setattr__"))
 over:((clsIn K C).any fun cd=>gZ veB cd.mro || gZ exB cd.mro)=true
 hd:((clsIn K C).any fun cd=>cd.hasDict)=true
 ob:mroIn K C (.type "object")=some true
section
variable {prog:Î} {w:é} {A:ϗ} {E:η→τ→Prop} {s:τ} {K:Frag} {x C:Δ} {o:FX} {vs:Array η} {mA:θ→Option η} {name:θ} {v:η} {ns:List θ}
theorem iV (hn:s.heap.Ns1 d mA) (hw:Within mA ns) (hz:ns.length<1000)
 (hq:∀ h',h'.Ns1 d (fun y=>if y=name then some v else mA y)→è d s.heap h'→Q (.done (.ret .none)) { s with heap:=h',toks:=s.toks+1 }):Ε M A (ń d (.str name tk) name v) Q E s:=by
 unfold ń GF
 refine ε (π (ε (wpAny_nsSet1 hn fun h' n' sb=>?_)))
 obtain ⟨od,es,ep,e1,e2,e3⟩:=n'.count (Within.cons name v hw)
 have few:es.size≤ϙ:=Õ e3 (by rw [ψ,ï];omega)
 refine ε (HA e1 (by rw [e2];exact HD (ϡ few)) ?_)
 exact π (hq h' n' sb)
theorem qk (X:K.In s.heap) (Z:gy K C) (hf:findIn K (.ref C) name=some none) (hx:s.heap.get? x=some o) (hc:o.cls = .ref C) (hd:o.data = .fields vs)
 (hm:(o.dict=none∧∀ n,mA n=none)∨∃ d,o.dict=some d∧d≠x∧s.heap.Ns1 d mA) (hw:Within mA ns) (hz:ns.length<1000)
 (hq:∀ h' d t',h'.get? x=some { o with dict:=some d }→d≠x→h'.Ns1 d (fun y=>if y=name then some v else mA y)→(∀ b u,b≠x→b≠d→s.heap.get? b=some u→h'.get? b=some u) →
  (o.dict=some d∨(o.dict=none∧s.heap.get? d=none))→Q () { s with heap:=h',toks:=t' }):Ε (model prog w) A (F3 (.ref x) name v) Q E s:=by
 obtain ⟨od,I⟩:∃ od,InstAt s.heap x o C od:=by
  rcases hm with ⟨z,_⟩ | ⟨d,z,_,od,_,_,e,_⟩
  ·exact ⟨none,hx,hc,by unfold notCls;rw [hd],by rw [z];trivial⟩
  ·exact ⟨some od,hx,hc,by unfold notCls;rw [hd],by rw [z];exact e⟩
 have SF:=PySem.F.store_ValueError
 obtain ⟨cd,hcd,hov⟩:=any_some Z.over
 obtain ⟨cd',hcd',hhd⟩:=any_some Z.hd
 rw [hcd] at hcd'
 cases hcd'
 refine set_plain X I Z.sa ?_
 obtain ⟨h,g,d,t,os⟩:=s
 have sub:Looks (model prog w) h (DQ (.ref x) (.type "object")) true:=I.type.andThen (looks_mroIn X Z.ob)
 refine Ģ SF.slot.plain SF.entry (@check_slot (model prog w) _ _ ⟨h,g,d,t+1,os⟩ "object.__setattr__" "object" "__setattr__" (.ref x) [.str name t,v] [] _ SF.kind SF.split sub (SF.args (.ref x) (.str name t) v) ?_)
 have lm:Looks (model prog w) h (mroOf (.ref C)) cd.mro:=(looks_clsIn X hcd).andThen .now
 rw [osa_eq,refuse_eq]
 have l0:=I.type (M:=model prog w)
 have lf:=looks_findIn (M:=model prog w) X hf
 refine ε (ε (l0.at (ε (lm.at ?_))))
 rw [show H9 (.ref x) "__setattr__" cd.mro=pure () from (FO.mp hov).elim (dE (SF.passes _)) (dE (PySem.F.store_Exception.passes _))]
 refine π (ε (l0.at (ε (lf.at ?_))))
 refine ε (π ?_)
 refine ε (π ?_)
 have lc:=looks_clsIn (M:=model prog w) X hcd
 obtain ⟨oc,odi,oda,osl⟩:=o
 dsimp only at hc hd hm hx
 subst hc hd
 refine ε (ε (Fd hx (ε (lc.at ?_))))
 rw [hhd]
 rcases hm with ⟨rfl,hmA⟩ | ⟨dx,rfl,hne,hns⟩
 ·obtain rfl:mA=fun _=>none:=funext hmA
  have hxs:x≠h.objs.size:=ϲ (ϟ hx)
  have hx1:=Κ { cls:=.type "dict",data:=.dict #[] } hx
  refine ε (wpAny_alloc' (ε (wpAny_update' hx1 ?_)))
  have hg:((h.push { cls:=.type "dict",data:=.dict #[] }).update x fun o=>{ cls:=o.cls,dict:=some h.objs.size,data:=o.data,slots:=o.slots }).get? h.objs.size=some { cls:=.type "dict",data:=.dict #[] }:=
   (FK _ _ _ _ (ϳ hxs)).trans (Gj rfl rfl)
  have hn0:((h.push { cls:=.type "dict",data:=.dict #[] }).update x fun o=>{ cls:=o.cls,dict:=some h.objs.size,data:=o.data,slots:=o.slots }).Ns h.objs.size (fun _=>none):=
   ⟨_,#[],_,hg,rfl,fun e he=>ZX he (by simp),fun _=>rfl⟩
  refine π (a:=some h.objs.size) ?_
  refine iV (Heap.Ns1.of_empty hn0) Within.nil (by decide) fun h' n' sb=>?_
  refine hq h' h.objs.size _ ?_ (ϳ hxs) n' (fun b u h1 h2 e=>?_) (.inr ⟨rfl,Ϙ (ύ _)⟩)
  ·refine (sb.2 x hxs).trans (È _ hx1 rfl)
  ·exact (sb.2 b h2).trans ((FK _ _ _ _ h1).trans (Κ _ e))
 ·refine π (a:=some dx) ?_
  refine iV hns hw hz fun h' n' sb=>?_
  exact hq h' dx _ ((sb.2 x (ϳ hne)).trans hx) hne n' (fun b u _ h2 e=>(sb.2 b h2).trans e) (.inl rfl)
theorem rP (Y:b7 K C) (hh:hasDictIn K C=true) (X:K.In s.heap) (hf:findIn K (.ref C) name=some none) (hx:s.heap.get? x=some o) (hc:o.cls = .ref C) (hd:o.data = .fields vs) (hdi:o.dict=some d) (hn:s.heap.Ns1 d mA) (hv:mA name=some v) (hv':handedIn v=true)
 (hq:Q v { s with toks:=s.toks+1 }):Ε (model prog w) A (Ef (.ref x) name expr) Q E s:=by
 obtain ⟨od,ho,hl⟩:=iY hn
 have I:InstAt s.heap x o C (some od):=⟨hx,hc,by unfold notCls;rw [hd],by rw [hdi];exact ho⟩
 have fo:findObj K C (some od) name=some (.value v):=findObj_own hh hf rfl (by rw [hl,hv])
 obtain ⟨h,g,dr,t,os⟩:=s
 have l0:=I.type (M:=model prog w)
 have l1:=looks_findIn (M:=model prog w) X Y.ga
 have l2:=looks_findIn (M:=model prog w) X Y.gn
 have l3:=looks_find (M:=model prog w) X I fo
 have G:=DK.ga
 have b1:=G.bind (.ref x)
 unfold Ef getAttrBy
 refine ε (wpAny_mkText (ώ (ε (l0.at (ε (l1.at ?_))))))
 show Ε _ _ (Ŧ _ _ _ _ _ _) _ _ _
 unfold Ŧ
 refine ε (l2.at (ε (D8 (ώ ?_))))
 unfold callGetattribute
 rw [show (expr && onTheHeap (ĳ "BaseException.__getattribute__"))=false from EB _,ZY ϩ]
 unfold Fh
 rw [b1]
 refine ε (π ?_)
 refine Ċ (Ģ G.plain Hx (kh Y X I ?_))
 refine ε (π (ε (π (ε (l0.at (ε (l3.at ?_)))))))
 exact π (handed_on hv' hq)
end
structure iq (K:Frag) (C fI:Δ) (bmB:List η) (newId:String):Prop where
 at_:∃ (nm q:θ) (N:Δ) (bs bm:List η) (hdct:Bool) (sn:List θ) (sub:List η) (ab:Bool) (col:Option Bool) (dd:Option Δ) (k0 k1 k2 k3 k5:Option η),
  K.lookup C=some (ER nm q C N bs bm hdct sn sub ab col dd k0 k1 k2 k3 k5 newId)∧tailIn K bmB bm=true
 init:findIn K (.ref C) "__init__" = some (some (.ref fI))
 fn:isFn K (.ref fI)=true
section
variable {prog:Î} {w:é} {A:ϗ} {E:η→τ→Prop} {K:Frag} {C fI:Δ} {rest bmB:List η} {B newId initId:String} {h:Â} {g:Array GenState} {d:Drawn} {t:Nat} {os:Ga}
abbrev jf (h:Â) (C:Δ) (rest:List η):Â:=(h.push { cls:=.type "tuple",data:=.seq rest.toArray }).push { cls:=.ref C,data:=.fields #[.ref h.objs.size,.none,.none,.none,.bool false,.none] }
theorem gB (b) (u) (z:h.get? b=some u):(jf h C rest).get? b=some u:=Κ _ (Κ _ z)
theorem pY:Ew h (jf h C rest) (h.objs.size+1) (.ref C) rest where
 keeps:=gB
 new:=Ϙ (Ě _)
 there:=⟨h.objs.size,by heap_get,Ϙ (ύ _),Κ _ (Gj rfl rfl)⟩
theorem iz (F:ÿ B newId initId bmB) (X:K.In h) (O:iq K C fI bmB newId) (hz:rest.length≤ϙ)
 (hq:∀ h' e,Ew h h' e (.ref C) rest→Ε (model prog w) A (call (.ref fI) (.ref e :: rest)) (fun r s'=>r = .none∧Q (.done (.ret (.ref e))) s') E ⟨h',g,d,t,os⟩) :
 Ε (model prog w) A (Hy.«type.__call__» ⟨.ref C :: rest,[]⟩) Q E ⟨h,g,d,t,os⟩:=by
 obtain ⟨nm,q,N,bs,bm,hdct,sn,sub,ab,col,dd,k0,k1,k2,k3,k5,l,tl⟩:=O.at_
 have c0:=X _ _ l
 have T:=tail_of_in X tl
 have X1:K.In (jf h C rest):=fun b u z=>gB b u (X b u z)
 have c1:=X1 _ _ l
 have m1:=(pY (h:=h) (C:=C) (rest:=rest))
 obtain ⟨tt,e1,_,_⟩:=id m1.there
 have self:(É C :: bm).contains (.ref C)=true:=by simp
 have l1:=looks_findIn (M:=model prog w) X1 O.init
 have l2:=fun self=>bind_fn (M:=model prog w) X1 self (beq_iff_eq.mp O.fn)
 repeat (first | with_reducible refine ŉ c0 ?_ | with_reducible refine wpAny_madeBy_exc c0 ?_ | wp_step)
 refine codeAny_call_builtin_code (G3 _ F.quiet) (wpAny_check_new_subT F T c0 (codeAny_exc_new_subT F T c0 ?_ hz))
 show Ε _ _ _ _ _ _
 unfold DQ
 repeat (first | with_reducible refine ŉ e1 ?_ | (with_reducible refine wpAny_isSubtype_exc c1 ?_;rw [self]) | wp_step)
 refine l1.at (ώ (ε ((l2 _).at ?_)))
 refine ε (Η (hq _ _ m1) (fun r s' z=>?_) fun _ _ z=>z)
 obtain ⟨rfl,z⟩:=z
 wp_walk
 exact z
theorem rO (F:ÿ B newId initId bmB) (X:K.In h) (O:iq K C fI bmB newId) (hz:rest.length≤ϙ)
 (hq:∀ h' e,Ew h h' e (.ref C) rest→Ε (model prog w) (A.under (.builtin "type.__call__" ⟨.ref C :: rest,[]⟩)) (call (.ref fI) (.ref e :: rest)) (fun r s'=>r = .none∧Q (.ref e) s') E ⟨h',g,d,t,os⟩) :
 Ε (model prog w) A (call (.ref C) rest) Q E ⟨h,g,d,t,os⟩:=by
 obtain ⟨nm,q,N,bs,bm,hdct,sn,sub,ab,col,dd,k0,k1,k2,k3,k5,l,tl⟩:=O.at_
 have c0:=X _ _ l
 have y1:=tc_lookup
 have y2:=tc_bind (.ref C)
 have y3:Shared.TypeIs ⟨h,g,d,t,os⟩ (.ref C) "type":=⟨_,c0,rfl⟩
 refine Ċ (codeAny_of_tree ?_)
 show Ε _ _ (callAny (.ref C) _) _ _ _
 repeat (any_goals (first | assumption | with_reducible refine ŉ c0 ?_ | wp_step))
 refine ⟨rfl,codeAny_call_builtin_at (G3 _ (by decide +kernel)) entry_typeCall (wpAny_check_type_call_sub c0 ?_)⟩
 exact iz F X O hz fun h' e m=>hq h' e m
end
section
variable {M:EW} {A:ϗ} {E:η→τ→Prop} {s:τ}
theorem qJ {K:Frag} {env:Ų} {C:Δ} {x:DR η} {Q:Flow→τ→Prop} (be:mroIn K C (.type "BaseException")=some true) (ty:typeIn K (.ref C)=some (.type "type")) (hh:A.handled=none)
 (h:Ε M A x (fun v s1=>∃ p ob vs,v = .ref p∧K.In s1.heap∧s1.heap.get? p=some ob∧ob.cls = .ref C∧ob.data = .fields vs∧vs[1]? = some .none∧E (.ref p) s1) E s):Ε M A (raiseStmt env (some x) none) Q E s:=by
 unfold raiseStmt
 refine ε (Η h (fun v s1 z=>?_) fun _ _ z=>z)
 obtain ⟨p,⟨oc,od,oda,osl⟩,vs,rfl,Xk,e1,e2,e3,e4,q⟩:=z
 simp only at e2 e3
 subst e2 e3
 obtain ⟨h1,g1,d1,t1,o1⟩:=s1
 have l0:Looks M h1 (typeOf (.ref p)) (.ref C):=(Looks.ld e1).andThen .now
 have l1:Looks M h1 (DQ (.ref p) (.type "BaseException")) true:=l0.andThen (looks_mroIn Xk be)
 have l2:=looks_typeIn (M:=M) Xk ty
 have l3:Looks M h1 (isType (.ref p)) false:=(Looks.ld e1).andThen .now
 have l4:Looks M h1 (isExcClass (.ref p)) false:=l3.andThen .now
 refine ε (π (ε (ώ ?_)))
 unfold excFromValue raisedInstance FP
 refine ε (l4.at ?_)
 rw [ZY ϩ]
 refine ε (l1.at ?_)
 rw [ZZ rfl]
 refine π (ε (l3.at ?_))
 rw [ZY ϩ]
 refine ε (ε (l0.at (ε (l2.at ?_))))
 rw [ZZ (show (đ "type" == đ "type")=true by decide)]
 refine π (ε (ε (Ë e1 rfl e4 ?_)))
 rw [ZY (show ¬ ((ϣ != ϣ)=true) by decide)]
 exact π (wpAny_raiseNew_none hh q)
end
end L2.Ev
end
section
namespace L2.Ev
theorem qB {M:EW} {A:ϗ} {E:η→τ→Prop} {Q:Unit→τ→Prop} {s:τ} {env:Ų} {n:θ} {m:θ→Option η} {pos:ϧ} (hl:env.kindOf n=some .local) (hn:s.heap.Ns env.locals m) (hp:(env.scope.kind == .class || (env.scope.kind == .module && env.locals != env.globals))=false)
 (h:∀ h' v,h'.Ns env.locals (fun y=>if y=n then v else m y)→è env.locals s.heap h'→Q () { s with heap:=h',toks:=s.toks+1 }):Ε M A (do bindName env n .none;ŵ env n pos) Q E s:=by
 refine ε (wpAny_bindName (Gn hl hn (fun h1 n1 s1=>?_) hp))
 unfold ŵ unbindName;refine wpAny_onRaise (ε (wpAny_point (ε ?_)))
 unfold deleteName;simp only [hl,hp];rw [ZY (by decide)]
 refine ε (wpAny_nsDel_keeps n1 fun h2 v n2 s2=>?_)
 simp only [if_true,Option.isSome_some,Bool.not_true,Ā,if_false]
 refine π (wpAny_point (h h2 v ?_ (s1.trans s2)))
 have e:(fun y=>if y=n then v else if y=n then some ϣ else m y)=fun y=>if y=n then v else m y:=by
  funext y
  by_cases z:y=n <;> simp [z]
 rw [e] at n2
 exact n2
section
variable {X:Cx} {z z' z0 z1:Z} {w:Δ→Prop}
theorem Al {a C:Δ} {l:List (θ×η)} {f:θ} {v:η} {Q:η→τ→Prop} {b:Bool} (I:Rep X z) (h:ExO z.h a C l) (nl:l≠[]) (Y:b7 X.K C) (hh:ϭ X.K C=true) (hf:Υ X.K (.ref C) f=some none) (lk:l.lookup f=some v) (hv:Ĵ v=true) (q:Q v { z.s with toks:=z.s.toks+1 }):Ε X.M X.A (Ef (.ref a) f b) Q NoE z.s:=by
 obtain ⟨o,vs,e1,e2,e3,e4⟩:=h
 rcases e4 with ⟨w,_⟩ | ⟨d,od,e5,e6,es,ep,e7⟩
 ·exact ZX w nl
 ·exact rP Y hh I.toHR.kin hf e1 e2 e3 e5 (mA:=fun n=>l.lookup n) ⟨od,es,ep,e6,e7⟩ lk hv q
abbrev aB (X:Cx) (e:η):Cx:={ X with A:=X.A.mark (some e),calm:=false }
theorem Rep.suite (I:Rep X z):Rep (aB X e) z:=⟨⟨I.md,I.fm,(fun c=>nomatch c),I.bs,I.gh,I.rl,I.rn,I.rg,I.ob,I.fu,I.ff,I.br,I.os,I.tk⟩,⟨I.ok.un,I.ok.kd,I.ok.gl,I.ok.bl,I.ok.ci,I.ok.ch⟩,I.lo,I.ce,I.fl,I.el,I.sl,I.en,I.eo,I.od⟩
theorem Rep.unsuite (h:X.calm=true→X.A.handled=none) (I:Rep (aB X e) z):Rep X z:=⟨⟨I.md,I.fm,h,I.bs,I.gh,I.rl,I.rn,I.rg,I.ob,I.fu,I.ff,I.br,I.os,I.tk⟩,⟨I.ok.un,I.ok.kd,I.ok.gl,I.ok.bl,I.ok.ci,I.ok.ch⟩,I.lo,I.ce,I.fl,I.el,I.sl,I.en,I.eo,I.od⟩
theorem Go.unsuite (g:Go (aB X e) z z'):Go X z z':=⟨g.st,g.ow⟩
theorem Rep.gone {h':Â} {t:Nat} {i:Nat} {x:θ} {m:θ→Option η} {v:Option η} (I:Rep X z) (hN:X.N.Nodup) (hi:X.N[i]? = some x) (hk:X.env.scope.names.lookup x=some .local) (lk:∀ (i:Nat) (x:θ) (u:η),X.N[i]? = some x→z.σ[i]? = some (some u)→Vis X.env.scope x→mc X.env z.s.heap m x u)
 (hn:h'.Ns X.env.locals (fun y=>if y=x then v else m y)) (sb:è X.env.locals z.s.heap h') (tk:X.tz≤t:=by first | assumption | exact HR.tk (by assumption) | exact HR.tk1 (by assumption) | exact (Rep.toHR (by assumption)).tk | exact (Rep.toHR (by assumption)).tk1 | exact ϡ (by assumption)):Rep X { z with t:=⟨z.t.env.set i none,z.t.ow.filter (· != i),z.t.st⟩,σ:=z.σ.set i none,s:={ z.s with heap:=h',toks:=t } }∧Go X z { z with t:=⟨z.t.env.set i none,z.t.ow.filter (· != i),z.t.st⟩,σ:=z.σ.set i none,s:={ z.s with heap:=h',toks:=t } }:=by
 have ne:∀ {b:Δ},b≠X.env.locals→h'.get? b=z.h b:=fun n=>sb.2 _ n
 have lL:Lc X X.env.locals:=.inl rfl
 have nG:∀ {b o},z.G b=some o→b≠X.env.locals:=fun e q=>by rw [q,(I.fl _ lL).1] at e;cases e
 have nM:∀ {b},Mu z.ρ b→b≠X.env.locals:=fun m q=>(I.fl _ lL).2 (q ▸ m)
 obtain ⟨oL,es,ep,hoL,hdL,_⟩:=id hn
 have ck:∀ y c u,X.env.cells.lookup y=some c→z.s.heap.IsCell c u→h'.IsCell c u:=fun y c u e q=>q.sameBut sb (I.cne y c e)
 have hiσ:i<z.σ.length:=by rw [I.sl];exact (ν.mp hi).1
 have mf:∀ {j},j∈z.t.ow.filter (· != i)→j∈z.t.ow∧j≠i:=fun m=>⟨(ϕ.mp m).1,by simpa using (ϕ.mp m).2⟩
 have fu:h'.FunFrames X.base X.fr:=jo (fun b o e nf=>by
  by_cases q:b=X.env.locals
  ·subst q;exact ⟨oL,hoL,fun vs e=>by rw [hdL] at e;cases e⟩
  ·exact ⟨o,(ne q).trans e,nf⟩) I.fu
 refine ⟨⟨⟨I.md,I.fm,I.hd,I.bs,fun b o e=>(ne (nG e)).trans (I.gh b o e),I.rl,I.rn,I.rg,fun n o p h1 h2=>(I.ob n o p h1 h2).mono (ξ _) (.refl _) fun b hb o e=>(ne (nM ⟨p,Ι h2,hb⟩)).trans e,fu,I.ff,I.br,I.os,tk⟩,I.ok,⟨_,hn,fun j y u e1 e2 e3=>?_⟩,fun y c e=>let ⟨u,q⟩:=I.ce y c e;⟨u,ck y c u e q⟩,I.fl,by show (z.t.env.set i none).length=(z.σ.set i none).length;rw [ϸ,ϸ];exact I.el,by show (z.σ.set i none).length=_;rw [ϸ];exact I.sl,fun j d n e=>?_,fun j mj=>?_,fun j k a m1 m2 e1 e2=>?_⟩,⟨⟨ξ _,.refl _,fun _ _ e=>.inl e,fun _ m=>.inl m,fun b o e=>?_,fun b o e _ w _=>(ne fun q=>w (.inr (.inl q))).trans e,fun b o e _ w _=>⟨o.slots,(ne fun q=>w (.inr (.inl q))).trans e⟩⟩,fun b ⟨j,mj,e⟩=>?_⟩⟩
 ·by_cases q:j=i
  ·subst q
   rw [Ϟ hiσ] at e2;cases e2
  ·rw [Φ (ϳ q)] at e2
   rcases lk j y u e1 e2 e3 with ⟨k,e⟩ | ⟨k,c,e,w⟩
   ·have:y≠x:=fun e=>q (gY hN e1 (e ▸ hi))
    exact .inl ⟨k,by simp [this,e]⟩
   ·exact .inr ⟨k,c,e,ck y c _ e w⟩
 ·have e:(z.t.env.set i none)[j]? = some (some d):=e
  by_cases q:j=i
  ·subst q
   rw [Ϟ (by rw [I.el];exact hiσ)] at e;cases e
  ·rw [Φ (ϳ q)] at e
   obtain ⟨u,e1,r⟩:=I.en j d (fun m=>n (ϕ.mpr ⟨m,by simpa using q⟩)) e
   exact ⟨u,(Φ (ϳ q)).trans e1,r⟩
 ·obtain ⟨m1,q⟩:=mf mj
  obtain ⟨d,a,o,h1,h2,h3,r,f⟩:=I.eo j m1
  exact ⟨d,a,o,(Φ (ϳ q)).trans h1,(Φ (ϳ q)).trans h2,h3,r.mono (ξ _) (.refl _) fun b hb o e=>(ne fun w=>f.2.2.2 (by rcases hb with rfl | rfl <;> exact .inl w)).trans e,f⟩
 ·obtain ⟨a1,q1⟩:=mf m1
  obtain ⟨a2,q2⟩:=mf m2
  exact I.od j k a a1 a2 ((Φ (ϳ q1)).symm.trans e1) ((Φ (ϳ q2)).symm.trans e2)
 ·by_cases q:b=X.env.locals
  ·subst q;exact ⟨oL,hoL⟩
  ·exact ⟨o,(ne q).trans e⟩
 ·obtain ⟨m1,q⟩:=mf mj
  exact .inl ⟨j,m1,(Φ (ϳ q)).symm.trans e⟩
theorem uH {a T:Δ} {fl cls:η} {dx:Option Δ} (x:Stp X.fr w z z') (I:Rep X z') (r:XR X.W z' c l cls dx) (na:Nob X z z' a) (t:Tr z'.s.heap a cls dx T fl):∃ z2,z2.s=z'.s∧z2.t=z'.t∧Stp X.fr w z z2∧(∀ b,Own z2 b↔Own z' b)∧Rep X z2∧RD X.W z2.ρ z2.G (.ins c l) (.ref a)∧(z2.σ=z'.σ):=by
 obtain ⟨oe,vs,_,_,he,⟨hc,hd⟩,hda,_⟩:=t
 have gg:Sub z'.G fun b=>if b=a then some oe else z'.G b:=fun b o q=>by
  dsimp only
  by_cases c:b=a
  ·subst c;rw [na.2.1.1] at q;cases q
  ·rw [ZY c];exact q
 have rd:RD X.W z'.ρ (fun b=>if b=a then some oe else z'.G b) (.ins c l) (.ref a):=by
  obtain ⟨i,h1,h2,h3,h4,h5⟩:=r
  subst h3
  rcases h5 with ⟨rfl,rfl⟩ | ⟨d,od,us,rfl,h6,h7,h8⟩
  ·exact ⟨a,i,[],rfl,h1,h4,.inr ⟨h2,oe,vs,ZZ rfl,hc,hda,.inl ⟨by simp,hd⟩⟩,rfl⟩
  ·exact ⟨a,i,us,rfl,h1,h4,.inr ⟨h2,oe,vs,ZZ rfl,hc,hda,.inr ⟨d,od,hd,gg _ _ h6,h7⟩⟩,h8.mono (ξ _) gg⟩
 refine ⟨{ z' with G:=fun b=>if b=a then some oe else z'.G b },rfl,rfl,⟨x.pr,x.gg.trans gg,fun b o q=>?_,x.rn,x.th,x.sm,x.sl⟩,fun _=>.rfl,I.grw I.tk rfl I.br (fun _ _ e _=>e) (fun _ o e=>⟨o.slots,e⟩) gg (fun b o q=>?_) fun b o q=>?_,rd,rfl⟩
 all_goals
  have q:(if b=a then some oe else z'.G b)=some o:=q
  by_cases c:b=a
 ·subst c;exact .inr (.inl na.1)
 ·rw [ZY c] at q;exact x.gn b o q
 ·subst c;rw [ZZ rfl] at q;cases q;exact he
 ·rw [ZY c] at q;exact I.gh b o q
 ·subst c;exact .inr na.2
 ·rw [ZY c] at q;exact .inl q
def pR (X:Cx) (j:Nat) (x:θ):Prop:=∃ i,X.W.ci[j]? = some i∧X.mg x=some (.ref i.ad)∧j7 X.K i.ad∧∀ c k ic,X.Γ.cl[c]? = some k→X.W.ci[c]? = some ic→X.W.what[c]? = some 2→Ω X.K ic.ad (.ref i.ad)=some (c == j || k.sup.contains j)
def HL (X:Cx) (hs:List Ć) (r:S):Prop:=∀ (z z1:Z) (c:Nat) (l:List D) (e:η) (o:ah),XN X (Pv X z) z z1 c l e .none→(∀ a,Own z1 a→Own z a∨z.h a=none)→o=exS.hnd X.Γ X.cal X.cal1 r c l z1.t→o≠.bad→Ε X.M X.A (handleBy e X.env hs) (Ps X z o) (PxS X z o) z1.s
theorem yt (F:bI X):HL X [] .skip:=fun z z1 c l e o hn ow e0 nb=>by
 obtain ⟨L,hL⟩:=F.frame
 have e0:o = .exc c l z1.t:=e0
 refine wpAny_handleBy_nil ?_
 obtain ⟨a,T,cls,dx,e1,_,_,_,_,t,_⟩:=id hn
 subst e1
 unfold Hh
 obtain ⟨oe,vs,oT,ts,he,hc,hd,h1,r⟩:=id t
 refine ε (Ë he hd h1 ?_)
 rw [ZY (show ¬ ((É T == ϣ)=true) by simp),hL]
 refine ε (bN (z':=z1) (fr:=some L) hn fun h2 hn2=>wpAny_throw ?_)
 obtain ⟨a',T',cls',dx',e1,x2,I2,r2,na2,t2,nT2⟩:=hn2
 exact ⟨{ z1 with s:={ z1.s with heap:=h2 } },c,l,rfl,e0,⟨x2,ow⟩,I2,a',cls',dx',e1,r2,na2,.inr ⟨T',_,t2,.inr ⟨L,hL,rfl⟩,nT2⟩⟩
theorem Bq {j i:Nat} {Bn n:θ} {np hpos:ϧ} {hs:List Ć} {suite:List Ø} {b₀:Ø} {b r:S} (hS:∀ e,LSs (aB X e) (b₀ :: suite) b) (hx:pR X j Bn) (hg:Gl X Bn) (hdb:(Bn == ("__debug__":θ))=false) (hN:X.N.Nodup) (hi:X.N[i]? = some n) (hl:X.env.scope.names.lookup n=some .local) (hr:HL X hs r):HL X (.ExceptHandler (some (.Name Bn np)) (some n) (b₀ :: suite) hpos :: hs) (.hand j (some i) b r):=fun z z1 c l e o hn3 ow1 e0 nb=>by
 have e0:o=(match dj X.Γ j c with
  | some true=>(match X.ex b ⟨z1.t.env.set i (some (.ins c l)),z1.t.ow.filter (· != i),z1.t.st⟩ with
    | .nx s=>.nx ⟨s.env.set i none,s.ow.filter (· != i),s.st⟩
    | .rt d s=>.rt d s
    | _=>.bad)
  | some false=>exS.hnd X.Γ X.cal X.cal1 r c l z1.t
  | none=>.bad):=e0
 obtain ⟨p,T,cls,dx,rfl,x3,I3,r3,na3,t3,nT3⟩:=id hn3
 refine GU (Gs ?_) (fun z=>nomatch z)
 obtain ⟨ic,w1,w2,w3,w4⟩:=hx
 obtain ⟨i2,v1,v2,v3,v4,v5⟩:=id r3
 cases ek:X.Γ.cl[c]? with
 | none=>exact ZX (by rw [e0];unfold dj;rw [ek];rfl) nb
 | some k=>
   have hsub:=w4 c k i2 ek v1 v2
   rw [show dj X.Γ j c=some (c == j || k.sup.contains j) by unfold dj;rw [ek];rfl] at e0
   generalize (c == j || k.sup.contains j)=kk at e0 hsub
   refine aQ (X:=aB X (.ref p)) (z:=z1) I3.suite hg w2 ?_ hdb
   obtain ⟨oe,vs,oT,tt,he,⟨hcl,hdi⟩,hda,_⟩:=id t3
   refine gV I3.toHR.kin w3 he (hcl.trans v3) hsub ?_
   cases kk with
   | false=>exact hr z z1 c l _ o hn3 ow1 e0 nb
   | true=>
     have e0:o=(match X.ex b ⟨z1.t.env.set i (some (.ins c l)),z1.t.ow.filter (· != i),z1.t.st⟩ with
      | .nx s=>.nx ⟨s.env.set i none,s.ow.filter (· != i),s.st⟩
      | .rt d s=>.rt d s
      | _=>.bad):=e0
     show Ĳ _ _ _ _ _
     refine codeAny_handlers_suite_as (bN (z':=z1) (fr:=none) hn3 fun h4 hn4=>?_)
     obtain ⟨p',T',cls',dx',ep,x4,I4,r4,na4,t4,nT4⟩:=hn4
     cases ep
     obtain ⟨z5,e5,t5,x5,o5,I5,rd5,s5⟩:=uH x4 I4 r4 na4 t4
     rw [show ({ z1.s with heap:=h4 }:τ)=z5.s from e5.symm]
     have g5:Go X z z5:=⟨x5,fun b ob=>ow1 b ((o5 b).mp ob)⟩
     refine bG (X:=aB X (.ref p)) (own:=false) (d:=.ins c l) (z:=z5) (z0:=z5) .refl I5.suite hN hi (.inl hl) rd5 fun s6 a6 _ _ I6 g6=>?_
     have t6:stV z5.t i (.ins c l) false=⟨z1.t.env.set i (some (.ins c l)),z1.t.ow.filter (· != i),z1.t.st⟩:=by rw [show z5.t=z1.t from t5];rfl
     rw [← t6] at e0
     have nb6:(aB X (.ref p)).ex b (stV z5.t i (.ins c l) false)≠.bad:=fun q=>nb (by rw [e0,show X.ex b (stV z5.t i (.ins c l) false) = .bad from q])
     refine Η (hS (.ref p) { z5 with t:=stV z5.t i (.ins c l) false,σ:=z5.σ.set i (some (.ref p)),s:=s6 } I6 nb6) (fun f s7 h7=>?_) fun e s7 ⟨z7,c7,l7,_,q7,_,_,_⟩=>ZX (by rw [e0,show X.ex b (stV z5.t i (.ins c l) false)=_ from q7]) nb
     have fin:∀ z7,z7.s=s7→Go (aB X (.ref p)) { z5 with t:=stV z5.t i (.ins c l) false,σ:=z5.σ.set i (some (.ref p)),s:=s6 } z7→Rep (aB X (.ref p)) z7→(∀ z8,z8.t=⟨z7.t.env.set i none,z7.t.ow.filter (· != i),z7.t.st⟩→z8.ρ=z7.ρ→z8.G=z7.G→Go X z z8→Rep X z8→Ps X z o f z8.s)→Ε X.M X.A (do bindName X.env n .none;ŵ X.env n hpos) (fun _ s3=>Ps X z o f s3) (PxS X z o) s7:=fun z7 e7 g7 I7 hh=>by
      subst e7
      have J7:=I7.unsuite I3.hd
      obtain ⟨m,hn,lk⟩:=id J7.lo
      refine qB hl hn (by rw [I3.ok.kd];rfl) fun h8 v n8 s8=>?_
      obtain ⟨I8,g8⟩:=J7.gone (t:=z7.s.toks+1) hN hi hl lk n8 s8
      exact hh { z7 with t:=⟨z7.t.env.set i none,z7.t.ow.filter (· != i),z7.t.st⟩,σ:=z7.σ.set i none,s:={ z7.s with heap:=h8,toks:=z7.s.toks+1 } } rfl rfl rfl (((g5.trans g6.unsuite).trans g7.unsuite).trans g8) I8
     cases q7:X.ex b (stV z5.t i (.ins c l) false) with
     | nx t7=>
       rw [show (aB X (.ref p)).ex b (stV z5.t i (.ins c l) false) = .nx t7 from q7] at h7
       rw [q7] at e0
       obtain ⟨rfl,z7,e7,et7,g7,I7⟩:=h7
       refine fin z7 e7 g7 I7 fun z8 e8 _ _ g8 I8=>nxt g8 I8 ?_
       rw [e0,e8,et7]
     | rt d t7=>
       rw [show (aB X (.ref p)).ex b (stV z5.t i (.ins c l) false) = .rt d t7 from q7] at h7
       rw [q7] at e0
       obtain ⟨u,z7,rfl,e7,et7,g7,I7,rd7⟩:=h7
       refine fin z7 e7 g7 I7 fun z8 e8 r8 G8 g8 I8=>?_
       rw [e0]
       exact ⟨u,z8,rfl,rfl,by rw [e8];exact et7,g8,I8,by rw [r8,G8];exact rd7⟩
     | exc c7 l7 t7=>rw [q7] at e0;exact ZX e0 nb
     | bad=>exact ZX q7 nb6
theorem Bs {j:Nat} {Bn:θ} {np hpos:ϧ} {hs:List Ć} {suite:List Ø} {b₀:Ø} {b r:S} (hS:∀ e,LSs (aB X e) (b₀ :: suite) b) (hx:pR X j Bn) (hg:Gl X Bn) (hdb:(Bn == ("__debug__":θ))=false) (hr:HL X hs r):HL X (.ExceptHandler (some (.Name Bn np)) none (b₀ :: suite) hpos :: hs) (.hand j none b r):=fun z z1 c l e o hn3 ow1 e0 nb=>by
 have e0:o=(match dj X.Γ j c with
  | some true=>(match X.ex b z1.t with | .nx s=>.nx s | .rt d s=>.rt d s | _=>.bad)
  | some false=>exS.hnd X.Γ X.cal X.cal1 r c l z1.t
  | none=>.bad):=e0
 obtain ⟨p,T,cls,dx,rfl,x3,I3,r3,na3,t3,nT3⟩:=id hn3
 refine GU (Gs ?_) (fun z=>nomatch z)
 obtain ⟨ic,w1,w2,w3,w4⟩:=hx
 obtain ⟨i2,v1,v2,v3,v4,v5⟩:=id r3
 cases ek:X.Γ.cl[c]? with
 | none=>exact ZX (by rw [e0];unfold dj;rw [ek];rfl) nb
 | some k=>
   have hsub:=w4 c k i2 ek v1 v2
   rw [show dj X.Γ j c=some (c == j || k.sup.contains j) by unfold dj;rw [ek];rfl] at e0
   generalize (c == j || k.sup.contains j)=kk at e0 hsub
   refine aQ (X:=aB X (.ref p)) (z:=z1) I3.suite hg w2 ?_ hdb
   obtain ⟨oe,vs,oT,tt,he,⟨hcl,hdi⟩,hda,_⟩:=id t3
   refine gV I3.toHR.kin w3 he (hcl.trans v3) hsub ?_
   cases kk with
   | false=>exact hr z z1 c l _ o hn3 ow1 e0 nb
   | true=>
     have e0:o=(match X.ex b z1.t with | .nx s=>.nx s | .rt d s=>.rt d s | _=>.bad):=e0
     show Ĳ _ _ _ _ _
     refine codeAny_handlers_suite (bN (z':=z1) (fr:=none) hn3 fun h4 hn4=>?_)
     obtain ⟨p',T',cls',dx',ep,x4,I4,r4,na4,t4,nT4⟩:=hn4
     cases ep
     have g4:Go X z { z1 with s:={ z1.s with heap:=h4 } }:=⟨x4,ow1⟩
     have nb6:(aB X (.ref p)).ex b z1.t≠.bad:=fun q=>nb (by rw [e0,show X.ex b z1.t = .bad from q])
     refine Η (hS (.ref p) { z1 with s:={ z1.s with heap:=h4 } } I4.suite nb6) (fun f s7 h7=>?_) fun e s7 ⟨z7,c7,l7,_,q7,_,_,_⟩=>ZX (by rw [e0,show X.ex b z1.t=_ from q7]) nb
     cases q7:X.ex b z1.t with
     | nx t7=>
       rw [show (aB X (.ref p)).ex b z1.t = .nx t7 from q7] at h7
       rw [q7] at e0
       obtain ⟨rfl,z7,e7,et7,g7,I7⟩:=h7
       subst e7
       exact nxt (g4.trans g7.unsuite) (I7.unsuite I3.hd) (by rw [e0,et7])
     | rt d t7=>
       rw [show (aB X (.ref p)).ex b z1.t = .rt d t7 from q7] at h7
       rw [q7] at e0
       obtain ⟨u,z7,rfl,e7,et7,g7,I7,rd7⟩:=h7
       subst e7
       show Ps X z o (.ret u) z7.s
       rw [e0]
       exact ⟨u,z7,rfl,rfl,et7,g4.trans g7.unsuite,I7.unsuite I3.hd,rd7⟩
     | exc c7 l7 t7=>rw [q7] at e0;exact ZX e0 nb
     | bad=>exact ZX q7 nb6
theorem zj {h0:Ć} {hs:List Ć} {pos:ϧ} {body:List Ø} {a r:S} (F:bI X) (hb:LSs X body a) (hh:HL X (h0 :: hs) r):LS X (.Try body (h0 :: hs) [] [] pos) (.try_ a r):=fun z I nb=>by
 have e0:X.ex (.try_ a r) z.t=(match X.ex a z.t with
  | .exc c l s=>exS.hnd X.Γ X.cal X.cal1 r c l s
  | r=>r):=rfl
 generalize X.ex (.try_ a r) z.t=o at e0 nb
 have nb1:X.ex a z.t≠.bad:=fun q=>nb (by rw [e0,q])
 refine wpAny_Try_except (Η (hb z I nb1) (fun f s1 h=>?_) fun e s1 h=>?_)
 ·cases q:X.ex a z.t with
  | nx t=>rw [q] at h e0;obtain ⟨rfl,h⟩:=h;exact Ī (show Ps X z o .next s1 by rw [e0];exact ⟨rfl,h⟩)
  | rt d t=>rw [q] at h e0;obtain ⟨u,z',rfl,h⟩:=h;exact show Ps X z o (.ret u) s1 by rw [e0];exact ⟨u,z',rfl,h⟩
  | exc c l t=>rw [q] at h;exact h.elim
  | bad=>exact ZX q nb1
 ·obtain ⟨z1,c,l,e1,q1,x1,I1,xo⟩:=h
  subst e1
  rw [q1] at e0
  exact fx F x1.st I1 xo fun L h2 hL hn2=>bN (z':={ z1 with s:={ z1.s with heap:=h2 } }) (fr:=none) hn2 fun h3 hn3=>hh z { z1 with s:={ z1.s with heap:=h3 } } c l e o hn3 x1.ow e0 nb
end
end L2.Ev
end
section
namespace L2.Ev
open PySem.W
theorem iX {K:Frag} {C p:Δ} (Y:b7 K C):KitX K (.ref p) (.ref C) (fun h=>∃ o od,InstAt h p o C od) where
 ty:=fun M h _ z=>let ⟨_,_,I⟩:=z;I.type
 it:=fun M h X _=>oP X Y.is
 ne:=fun h tp dd its n sl X e=>by
  obtain ⟨c',d',cd',sl',hk⟩:=rC Y.is
  refine ZU.mpr fun z=>?_
  cases z
  rw [X _ _ hk] at e
  cases e
 ca:=fun {prog w A E Q s} X z hq=>by
  obtain ⟨_,_,I⟩:=z
  obtain ⟨h,g,d,t,os⟩:=s
  exact mD Y X I hq
theorem vt {K:Frag} {C J:Δ} {b:Bool} (Y:j7 K J) (h:mroIn K C (.ref J)=some b) (hs:C=J→b=true):kitOne K (.ref C) (.ref J)=some b:=by
 unfold kitOne
 by_cases q:C=J
 ·subst q
  rw [ZZ (by simp),hs rfl]
 ·rw [ZY (by simpa using q)]
  show (if ((clsIn K J).isSome && typeIn K (.ref J) == some (.type "type"))=true then subIn K (.ref C) (.ref J) else none)=_
  rw [ZZ (by rw [Y.is,Y.ty];rfl)]
  exact h
section
variable {X:Cx} {z:Z}
theorem j5 {an:Nat→θ} (T:bQ X an) {c:Nat} (h:fX X.Γ c=true):∃ k i,X.Γ.cl[c]? = some k∧cE X an c k i∧k.what=2:=by
 unfold fX at h
 split at h
 ·rename_i k e
  obtain ⟨i,ok⟩:=T c k e
  exact ⟨k,i,e,ok,by simpa using h⟩
 ·cases h
theorem yQ {an:Nat→θ} {j:Nat} {x:θ} (T:bQ X an) (hx:Blt X "isinstance" (.builtin "isinstance")) (ix:pR X j x) (hg:Gl X x) (hd:(x == ("__debug__":θ))=false) (ha:LE X ea a) (he:Ο [ea,.Name x q] X.env=(false,eval ea X.env) :: Ο [.Name x q] X.env):LE X (.Call (.Name "isinstance" p) [ea,.Name x q] [] pos) (.isX a [j]):=fun br z I nb=>by
 obtain ⟨ij,hj,hm,Y,hr⟩:=ix
 exact aR (.inl ⟨_,rfl⟩) hx he rfl I (Τ ((ha true).go .refl I rfl nb fun z1 x u y1 x1 I1 r1 e1=>Τ (aQ I1 hg hm (ϋ (cB x1 I1 e1 nb fun d q=>by
  have cr:=r1.rb.cr0 I1
  cases x with
  | ins c l=>
    obtain ⟨a,i,vs,rfl,hc,hl,w,rs⟩:=(cr:RD X.W z1.ρ z1.G (.ins c l) u)
    have q:(if (fX X.Γ c && [j].all (fX X.Γ))=true then (X.Γ.cl[c]?).map fun k=>D.bl ([j].any fun j=>c == j || k.sup.contains j) else none)=some d:=q
    split at q
    ·rename_i hw
     simp only [ĺ,List.all_nil,Bool.and_true,Θ] at hw
     obtain ⟨k,i',e1,ok,w2⟩:=j5 T hw.1
     obtain ⟨kj,i'',e2,okj,wj⟩:=j5 T hw.2
     have e3:=ok.ci
     rw [hc] at e3;cases e3
     have e4:=okj.ci
     rw [hj] at e4;cases e4
     rw [e1] at q
     cases q
     have wc:=ok.wh
     rw [w2] at wc
     have wjj:=okj.wh
     rw [wj] at wjj
     have m1:=hr c k i e1 hc wc
     have m2:=hr j kj ij e2 hj wjj
     have K1:=vt Y m1 fun z=>by
      rw [z,m2] at m1
      simpa using m1.symm
     have J:∃ o od,InstAt z1.s.heap a o i.ad od:=by
      rcases w with ⟨w1,_⟩ | ⟨_,w⟩
      ·rw [wc] at w1;cases w1
      ·obtain ⟨o,vs,g1,g2,g3,g4⟩:=w.sub I1.gh
       rcases g4 with ⟨_,g5⟩ | ⟨d,od,g5,g6,g7⟩
       ·exact ⟨o,none,g1,g2,by unfold notCls;rw [g3],by rw [g5];trivial⟩
       ·exact ⟨o,some od,g1,g2,by unfold notCls;rw [g3],by rw [g5];exact g6⟩
     simp only [Hn,List.any_nil,ļ]
     exact kia_one (iX (ok.xc w2).1) I1.toHR.kin J K1 (fun z=>nomatch z) fun tk=>.old I1 .tok rfl
    ·cases q
  | _=>cases q)) hd)))
end
end L2.Ev
end
section
namespace L2.Ev
structure Pri (X:Cx) (p:Δ) (nm:List θ) (P:List Δ→List (θ×η)→Â→Prop):Prop where
 ex:∀ {ch l h},P ch l h→∀ b∈ch,∃ o,h.get? b=some o
 keep:∀ {ch l h h'},P ch l h→(∀ b∈ch,∀ o,h.get? b=some o→h'.get? b=some o)→P ch l h'
 set:∀ {A:ϗ} {s:τ} {ch:List Δ} {l:List (θ×η)} {f:θ} {v:η} {Q:Unit→τ→Prop} {E:η→τ→Prop},X.K.In s.heap→P ch l s.heap→f∈nm→f ∉ l.map (·.1)→l.length<900 →
  (∀ h' ch' t,P ch' (l ++ [(f,v)]) h'→(∀ b∈ch',b∈ch∨s.heap.get? b=none)→(∀ b∈ch,b∈ch')→(∀ b o,b ∉ ch→s.heap.get? b=some o→h'.get? b=some o)→Q () { s with heap:=h',toks:=t })→Ε X.M A (F3 (.ref p) f v) Q E s
theorem iZ {f:θ} {v:η}:∀ {l:List (θ×η)},f ∉ l.map (·.1)→∀ g,(l ++ [(f,v)]).lookup g=if g=f then some v else l.lookup g
 | [],_,g=>by
   show (match g == f with | true=>some v | false=>none)=if g=f then some v else none
   by_cases c:g=f
   ·rw [ZZ c,beq_iff_eq.mpr c]
   ·rw [ZY c,ZU.mpr c]
 | (a,b) :: r,h,g=>by
   have h':f≠a∧f ∉ r.map (·.1):=by simpa using h
   have ih:=iZ (v:=v) h'.2 g
   show (match g == a with | true=>some b | false=>(r ++ [(f,v)]).lookup g)=if g=f then some v else (match g == a with | true=>some b | false=>r.lookup g)
   by_cases c:g=a
   ·have gf:g≠f:=fun w=>h'.1 (w.symm.trans c)
    rw [beq_iff_eq.mpr c,ZY gf]
   ·rw [ZU.mpr c];exact ih
theorem uE (l:List (θ×η)):Hi (fun n=>l.lookup n) (l.map (·.1)):=fun y hy=>by
 cases q:l.lookup y with
 | none=>exact ZX q hy
 | some u=>
   obtain ⟨l1,l2,e1,_⟩:=F0.mp q
   rw [e1];simp
section
variable {X:Cx} {z z' z0 z1:Z} {p C:Δ} {nm:List θ}
theorem pv (Z:gy X.K C) (na:∀ f∈nm,Υ X.K (.ref C) f=some none):Pri X p nm (fun ch l h=>∃ o vs,h.get? p=some o∧o.cls = .ref C∧o.data = .fields vs∧vs[1]? = some .none∧((l = []∧o.dict=none∧ch = [p])∨∃ d od,o.dict=some d∧d≠p∧ch = [p,d]∧h.get? d=some od∧NsO od l)) where
 ex:=fun ⟨o,vs,h1,_,_,_,h5⟩ b hb=>by
  rcases h5 with ⟨_,_,e⟩ | ⟨d,od,_,_,e,h6,_⟩
  ·rw [e] at hb;rw [ι.mp hb];exact ⟨o,h1⟩
  ·rw [e] at hb
   rcases φ.mp hb with w | w
   ·rw [w];exact ⟨_,h1⟩
   ·rw [ι.mp w];exact ⟨od,h6⟩
 keep:=fun ⟨o,vs,h1,h2,h3,h4,h5⟩ k=>by
  rcases h5 with ⟨a,b,e⟩ | ⟨d,od,a,b,e,h6,h7⟩
  ·exact ⟨o,vs,k p (by rw [e];simp) _ h1,h2,h3,h4,.inl ⟨a,b,e⟩⟩
  ·exact ⟨o,vs,k p (by rw [e];simp) _ h1,h2,h3,h4,.inr ⟨d,od,a,b,e,k d (by rw [e];simp) _ h6,h7⟩⟩
 set:=fun {A s ch l f v Q E} hK ⟨o,vs,h1,h2,h3,h4,h5⟩ hf hn hz hq=>by
  refine qk (mA:=fun n=>l.lookup n) (ns:=l.map (·.1)) hK Z (na f hf) h1 h2 h3 ?_ (uE l) (by rw [ο];omega) fun h' d t g1 ne n k ds=>?_
  ·rcases h5 with ⟨rfl,b,_⟩ | ⟨d,od,a,b,_,h6,es,ep,h7⟩
   ·exact .inl ⟨b,fun _=>rfl⟩
   ·exact .inr ⟨d,a,b,od,es,ep,h6,h7⟩
  ·obtain ⟨od2,es,ep,e1,e2,e3,e4,e5⟩:=n
   refine hq h' [p,d] t ⟨_,vs,g1,h2,h3,h4,.inr ⟨d,od2,rfl,ne,rfl,e1,es,ep,e2,e3,e4,fun n=>(e5 n).trans (iZ hn n).symm⟩⟩ (fun b hb=>?_) (fun b hb=>?_) fun b u nb e=>?_
   ·rcases h5 with ⟨_,b1,e⟩ | ⟨d',od,a,_,e,_⟩
    ·rcases φ.mp hb with w | w
     ·left;rw [e,w];simp
     ·rw [ι.mp w]
      rcases ds with q | ⟨_,q⟩
      ·rw [b1] at q;cases q
      ·exact .inr q
    ·rcases ds with q | ⟨q,_⟩
     ·rw [a] at q;cases q;rw [e];exact .inl hb
     ·rw [a] at q;cases q
   ·rcases h5 with ⟨_,b1,e⟩ | ⟨d',od,a,_,e,_⟩
    ·rw [e] at hb;rw [ι.mp hb];simp
    ·rcases ds with q | ⟨q,_⟩
     ·rw [a] at q;cases q;rw [e] at hb;exact hb
     ·rw [a] at q;cases q
   ·have np:b≠p:=fun w=>by
     rcases h5 with ⟨_,_,e'⟩ | ⟨_,_,_,_,e',_⟩ <;> exact nb (by rw [e',w];simp)
    refine k b u np (fun w=>?_) e
    rcases ds with q | ⟨_,q⟩
    ·rcases h5 with ⟨_,b1,_⟩ | ⟨d',od,a,_,e',_⟩
     ·rw [b1] at q;cases q
     ·rw [a] at q;cases q;exact nb (by rw [e',w];simp)
    ·rw [w,q] at e;cases e
def Bas (X:Cx) (p:Δ) (P:List Δ→List (θ×η)→Â→Prop):Prop:=∀ {A:ϗ} {s:τ} {ch:List Δ} {l:List (θ×η)} {ur:List η} {Q:η→τ→Prop} {E:η→τ→Prop},X.K.In s.heap→P ch l s.heap→ur.length≤ϙ →
 (∀ h',P ch l h'→(∀ b∈ch,∃ o,h'.get? b=some o)→(∀ b o,b ∉ ch→s.heap.get? b=some o→h'.get? b=some o)→Q .none { s with heap:=h' })→Ε X.M A (call (.builtin "ValueError.__init__") (.ref p :: ur)) Q E s
theorem uU {fI:Δ} (O:iq X.K C fI veB "ValueError.__new__") (Pr:Pri X p nm fun ch l h=>∃ o vs,h.get? p=some o∧o.cls = .ref C∧o.data = .fields vs∧vs[1]? = some .none∧((l = []∧o.dict=none∧ch = [p])∨∃ d od,o.dict=some d∧d≠p∧ch = [p,d]∧h.get? d=some od∧NsO od l)):Bas X p (fun ch l h=>∃ o vs,h.get? p=some o∧o.cls = .ref C∧o.data = .fields vs∧vs[1]? = some .none∧((l = []∧o.dict=none∧ch = [p])∨∃ d od,o.dict=some d∧d≠p∧ch = [p,d]∧h.get? d=some od∧NsO od l)):=fun {A s ch l ur Q E} K2 hP lz hq=>by
 have F:=DT
 obtain ⟨ob,fv,e1,e2,e3,e4,e5⟩:=id hP
 obtain ⟨nm',q',N,bs,bm,hdct,sn,sub,ab,col,dd,k0,k1,k2,k3,k5,l',tl⟩:=O.at_
 have sz:1<fv.size:=by
  cases Nat.lt_or_ge 1 fv.size with
  | inl h=>exact h
  | inr h=>rw [Array.getElem?_eq_none h] at e4;cases e4
 have z0:0<fv.size:=Nat.lt_of_succ_lt sz
 obtain ⟨h2,g2,d2,t2,o2⟩:=s
 refine Ċ (Ģ F.init.plain F.initEntry (wpAny_check_init_subT F (Fi K2 tl) (K2 _ _ l') e1 e2 ?_))
 have e1':=Κ (h:=h2) { cls:=.type "tuple",data:=.seq ur.toArray } e1
 obtain ⟨f0,e0⟩:∃ f0,fv[0]? = some f0:=⟨_,EC z0⟩
 unfold Hy.«BaseException.__init__» FN
 refine ε (wpAny_newTuple ?_ lz)
 refine ε (ε (Ë e1' e3 e0 (ε (ų e1' e3 z0 ?_))))
 have dT:=Į e3 (·.setIfInBounds 0 (É h2.objs.size))
 have gs:=È (h:=h2.push { cls:=.type "tuple",data:=.seq ur.toArray }) (Ę (·.setIfInBounds 0 (É h2.objs.size))) e1' (Ē dT)
 have ot:∀ b o,b≠p→h2.get? b=some o→((h2.push { cls:=.type "tuple",data:=.seq ur.toArray }).update p (Ę (·.setIfInBounds 0 (É h2.objs.size)))).get? b=some o:=fun b o n e=>(ϱ _ _ (ϳ n)).trans (Κ _ e)
 have fin:=hq ((h2.push { cls:=.type "tuple",data:=.seq ur.toArray }).update p (Ę (·.setIfInBounds 0 (É h2.objs.size)))) ⟨_,_,gs,by rw [Gx];exact e2,dT,by rw [Array.getElem?_setIfInBounds_ne (by decide)];exact e4,e5.imp (fun ⟨a,b,c⟩=>⟨a,by rw [gH];exact b,c⟩) fun ⟨d,od,a,b,c,e,f⟩=>⟨d,od,by rw [gH];exact a,b,c,ot d od b e,f⟩⟩ (fun b hb=>by
  by_cases q:b=p
  ·rw [q];exact ⟨_,gs⟩
  ·obtain ⟨o,e⟩:=Pr.ex hP b hb
   exact ⟨o,ot b o q e⟩) (fun b o n e=>ot b o (fun q=>n (by rcases e5 with ⟨_,_,c⟩ | ⟨_,_,_,_,c,_⟩ <;> (rw [c,q];simp))) e)
 cases f0 <;> first | exact π (π fin) | exact wpAny_letGo (π fin)
structure wT (K:ς) (B:Δ):Prop where
 ga:ħ K (.ref B) "__getattribute__" = some (some (.builtin "type.__getattribute__"))
 rd:PySem.W.readsIn K B (.type "type")=true
 at_:PySem.W.findCls K (.ref B) (.type "type") "__init__" = some (.val (.builtin "ValueError.__init__"))
structure FnI (X:Cx) (lv:Nat) (f:Δ) (fd:á) (ps nm:List θ) (ck:Option (List Nat)):Prop where
 len:ps.length=nm.length+1
 run:∀ (A:ϗ) (fr:List Ų) (z:Z) (args:Args) (us:List η) (p:Δ) (P:List Δ→List (θ×η)→Â→Prop) (ch:List Δ),bv lv A→HR { X with A:=A,fr:=fr } z→Hz z.s fd args (ps.zip (.ref p :: us))→us.length=nm.length→Pri X p nm P→(∀ c,ck=some c→Bas X p P∧∀ i∈c,∃ (n:Nat) (t:Tok),us[i]? = some (.int n t)∧n<100000)→P ch [] z.s.heap→(∀ b∈ch,z.G b=none∧¬ Mu z.ρ b∧b ∉ frs fr) →
  Ĳ X.M A (.call (.ref f) args) (fun r s'=>r = .ok (.ret .none)∧∃ ch',P ch' (nm.zip us) s'.heap∧(∀ b∈ch',b∈ch∨z.h b=none)∧(s'.os=z.s.os∧s'.gens=z.s.gens)∧(∀ b o,b ∉ ch→z.h b=some o→s'.heap.get? b=some o)) z.s
end
section
variable {X:Cx} {z z' z0 z1:Z}
theorem ke {C:Δ} {x:θ} {Q:η→τ→Prop} {E:η→τ→Prop} (I:Rep X z) (kp:Ϝ X.K (.ref C)=true) (hg:Gl X x) (hm:X.mg x=some (.ref C)) (hd:(x == ("__debug__":θ))=false) (he:Ο (ea :: er) X.env=(false,eval ea X.env) :: Ο er X.env) (hpl:(Ü pos (Ο er X.env)).any (·.1)=false)
 (h:Ε X.M X.A (spliced (Ü pos (Ο (ea :: er) X.env))) (fun us s'=>X.K.In s'.heap∧Ε X.M X.A (call (.ref C) us) Q E s') E z.s):Ε X.M X.A (eval (.Call (.Name x p) (ea :: er) [] pos) X.env) Q E z.s:=
 ċ (aQ I hg hm (Ğ (h₀:=X.base) I.md.kin kp h he hpl) hd)
theorem yU {x:θ} {j:Nat} {cl:Cl} {i:CI} (F:bT X X.cal1 lv cl.init f) (hr:bv (lv+1) X.A) (M:Mk X.K i.ad f) (hcl:X.Γ.cl[j]? = some cl) (hw:cl.what=0) (hci:X.W.ci[j]? = some i) (hwh:X.W.what[j]? = some 0) (hg:Gl X x) (hm:X.mg x=some (.ref i.ad)) (ha:LA X (ea :: er) es) (hd:(x == ("__debug__":θ))=false) (he:Ο (ea :: er) X.env=(false,eval ea X.env) :: Ο er X.env) (hpl:(Ü pos (Ο er X.env)).any (·.1)=false):LE X (.Call (.Name x p) (ea :: er) [] pos) (.new j es):=fun br z I nb=>
 ke I M.kp hg hm hd he hpl ((ha true pos).go .refl I rfl nb fun z1 l us y1 x1 I1 r1 e1=>⟨I1.toHR.kin,pH F hr M hcl hw hci hwh x1 I1 r1 e1 nb⟩)
theorem tu {x:θ} {j:Nat} {k:Cl} {i:CI} {fd:á} {ps:List θ} {fI:Δ} {Bx nwI iniI:String} {bmB:List η} {np cp pos:ϧ} (Fb:ÿ Bx nwI iniI bmB) (O:iq X.K i.ad fI bmB nwI) {ck:Option (List Nat)} (F:FnI X lv fI fd ps i.nm ck) (hk:ck=none∨(ck=some k.chk∧iq X.K i.ad fI veB "ValueError.__new__")) (hb:b6 X.K fd ps []) (hr:bv (lv+1) X.A) (Z:gy X.K i.ad) (na:∀ f∈i.nm,Υ X.K (.ref i.ad) f=some none) (hcl:X.Γ.cl[j]? = some k) (hci:X.W.ci[j]? = some i) (hwh:X.W.what[j]? = some 2) (hn:i.nm.length=k.at_.length) (h0:k.at_.isEmpty=false)
 (be:Ω X.K i.ad (.type "BaseException")=some true) (ty:ð X.K (.ref i.ad)=some (.type "type")) (kp:Ϝ X.K (.ref i.ad)=true) (hc:X.calm=true) (hg:Gl X x) (hm:X.mg x=some (.ref i.ad)) (ha:LA X (ea :: er) es) (hd:(x == ("__debug__":θ))=false) (he:Ο (ea :: er) X.env=(false,eval ea X.env) :: Ο er X.env) (hpl:(Ü cp (Ο er X.env)).any (·.1)=false):LS X (.Raise (some (.Call (.Name x np) (ea :: er) [] cp)) none pos) (.rais j es):=fun z I nb=>by
 rw [arm_exec_Raise]
 refine ε (õ (qJ (K:=X.K) (C:=i.ad) be ty (I.hd hc) (ε ?_)))
 refine ke I kp hg hm hd he hpl ((ha false cp).gos (f:=fun l s=>if dh X.Γ j l then .exc j (gK X.Γ j l) s else .bad) .refl I rfl nb fun z1 l us y1 x1 I1 r1 e1=>⟨I1.toHR.kin,?_⟩)
 have rs:=r1.rds
 by_cases c:dh X.Γ j l=true
 rotate_left
 ·rw [ZY c] at e1;exact ZX e1 nb
 rw [ZZ c] at e1
 have ea:gK X.Γ j l=l:=by unfold gK;rw [hcl];exact ZY (by rw [h0];exact ϩ)
 rw [ea] at e1
 unfold dh at c
 rw [hcl] at c
 dsimp only at c
 rw [ZY (by rw [h0];exact ϩ)] at c
 simp only [Θ,decide_eq_true_eq] at c
 obtain ⟨⟨⟨c1,c2⟩,c3⟩,c4⟩:=c
 have c1:l.length=k.at_.length:=by simpa using c1
 have lu:us.length=i.nm.length:=by rw [← rs.len,c1,hn]
 have l0:l≠[]:=by intro w;rw [w] at c4;simp at c4
 refine rO (h:=z1.s.heap) (g:=z1.s.gens) (d:=z1.s.drawn) (t:=z1.s.toks) (os:=z1.s.os) Fb I1.toHR.kin O (by rw [← rs.len];exact big (by omega)) fun h' p m=>?_
 have kz:∀ b o,z1.h b=some o→h'.get? b=some o:=fun b o e=>m.keeps b o e
 have np:z1.h p=none:=m.new
 obtain ⟨tt,ht,_,_⟩:=m.there
 have g:Gr z1.s { z1.s with heap:=h' }:=⟨rfl,rfl,kz⟩
 have bd:=hb { z1.s with heap:=h' } (.ref p :: us) (I1.toHR.kin.keeps kz) (by rw [Ν,ψ,F.len,lu])
 rw [Ν] at bd
 have H1:=(I1.toHR.grow (aq I1.gh g) I1.tk).at (A:=X.A.under (.builtin "type.__call__" ⟨.ref i.ad :: us,[]⟩)) (ip i.ad us []) rfl
 have fp:=I1.fre np
 refine aV I1.tk (Ċ (ü (F.run _ X.fr { z1 with s:={ z1.s with heap:=h' } } ⟨.ref p :: us,[]⟩ us p _ [p] (hr.make i.ad us []) H1 bd lu (pv Z na) (fun c e=>?_) ⟨_,_,ht,rfl,rfl,rfl,.inl ⟨rfl,rfl,rfl⟩⟩ fun b hb=>?_) fun r s' hq=>?_))
 ·rcases hk with w | ⟨w,O'⟩
  ·rw [w] at e;cases e
  ·rw [w] at e;cases e
   refine ⟨uU O' (pv Z na),fun j hj=>?_⟩
   have sm:=Ψ.mp c2 j hj
   cases q:l[j]? with
   | none=>rw [q] at sm;cases sm
   | some d=>
     obtain ⟨u,hu,ru⟩:=rs.get q
     rw [q] at sm
     cases d with
     | int n=>
       obtain ⟨t,rfl⟩:=ru
       unfold uk at sm
       simp only [Θ,decide_eq_true_eq] at sm
       obtain ⟨m,rfl⟩:=Ň sm.1
       exact ⟨m,t,hu,by omega⟩
     | _=>cases sm
 ·rw [ι.mp hb];exact ⟨fp.1.1,fp.1.2.1,fp.1.2.2.1⟩
 obtain ⟨rfl,ch',⟨o,vs,q1,q2,q3,q4,q5⟩,cc,os,kk⟩:=hq
 intro tk
 have gr:Gr z1.s s':=⟨os.1.trans g.os,os.2.trans g.gs,fun b o e=>kk b o (fun w=>by have e:z1.h b=some o:=e;rw [ι.mp w,np] at e;cases e) (kz b o e)⟩
 rcases q5 with ⟨w,_,_⟩ | ⟨d,od,q6,q7,q8,q9,q10⟩
 ·have:i.nm.zip us≠[]:=fun w=>by
   have hl:=rs.len
   have:0<l.length:=ù.mpr l0
   have w0:(i.nm.zip us).length=0:=by rw [w];rfl
   rw [Ä] at w0
   omega
  exact ZX w this
 have nd:z1.h d=none:=by
  rcases cc d (by rw [q8];simp) with w | w
  ·exact ZX (ι.mp w) q7
  ·cases q:z1.h d with
   | none=>rfl
   | some o=>have:=kz d o q;rw [show h'.get? d=none from w] at this;cases this
 have fd:=I1.fre nd
 have gw:Grw z1 (fun b=>if b=d then some od else z1.G b) s':=⟨gr,fun b o e=>by
  by_cases c:b=d
  ·subst c;rw [fd.1.1] at e;cases e
  ·rw [ZY c];exact e,fun b o e=>by
  by_cases c:b=d
  ·subst c;rw [ZZ rfl] at e;cases e;exact q9
  ·rw [ZY c] at e;exact gr.k b o (I1.gh b o e),fun b o e=>by
  by_cases c:b=d
  ·subst c;exact .inr nd
  ·rw [ZY c] at e;exact .inl e⟩
 have I3:=I1.grow gw
 have pG:(if p=d then some od else z1.G p)=none:=by rw [ZY (ϳ q7)];exact fp.1.1
 refine ⟨rfl,ε (õ (π ⟨p,o,vs,rfl,I3.toHR.kin,q1,q2,q3,q4,{ z1 with G:=fun b=>if b=d then some od else z1.G b,s:=s' },j,l,rfl,e1,x1.trans gw.ee.go,I3,p,.ref i.ad,some d,rfl,⟨i,hci,hwh,rfl,by rw [c1,hn];exact ύ _,.inr ⟨d,od,us,rfl,ZZ rfl,q10,rs.mono (ξ _) gw.gg⟩⟩,⟨x1.st.no np,⟨pG,fp.1.2⟩,fp.2⟩,.inl ⟨o,vs,q1,⟨q2,q6⟩,q3,q4⟩⟩))⟩
def FnJ (X:Cx) (lv:Nat) (f:Δ) (fd:á) (ps nm:List θ) (k:Cl) (C:Δ):Prop:=∃ ck,FnI X lv f fd ps nm ck∧(ck=none∨(ck=some k.chk∧iq X.K C f veB "ValueError.__new__"))
end
def n7 (K:ς) (C:Δ) (bmB:List η) (newId:String):Prop:=∃ (nm q:θ) (N:Δ) (bs bm:List η) (hdct:Bool) (sn:List θ) (sub:List η) (ab:Bool) (col:Option Bool) (dd:Option Δ) (k0 k1 k2 k3 k5:Option η),
 K.lookup C=some (ER nm q C N bs bm hdct sn sub ab col dd k0 k1 k2 k3 k5 newId)∧G7 K N=true∧ϒ K N "__init__" = some none∧DS K bmB bm=true
inductive TxP (X:Cx):List Ξ→E→Prop
 | nil:TxP X [] .nil
 | c {x:θ} {j:Nat} {p:ϧ} {r es}:x.length≤1000→TxP X r es→TxP X (.Constant (.str x) j p :: r) es
 | f {x:θ} {i:Nat} {p q:ϧ} {r es}:X.N[i]? = some x→Vis X.env.scope x→((x == ("__debug__":θ)) || (x == ("__classdict__":θ)))=false→TxP X r es→TxP X (.FormattedValue (.Name x p) (-1) none q :: r) (.cons (.op .add (.v i) (.c (.int 0))) es)
 | r {x:θ} {i:Nat} {p q:ϧ} {r es}:X.N[i]? = some x→Vis X.env.scope x→((x == ("__debug__":θ)) || (x == ("__classdict__":θ)))=false→TxP X r es→TxP X (.FormattedValue (.Name x p) 114 none q :: r) (.cons (.op .add (.v i) (.c (.str ""))) es)
 | g {x:θ} {j:Nat} {u:η} {d:L2.Bk.Dk} {p q:ϧ} {r es}:Gl X x→X.mg x=some u→X.Γ.gl[j]? = some d→aT X.K d u=true→(x == ("__debug__":θ))=false→TxP X r es→TxP X (.FormattedValue (.Name x p) (-1) none q :: r) (.cons (.op .add (.g j) (.c (.int 0))) es)
section
variable {X:Cx} {z:Z}
theorem Cq (t:Sta) (j:Nat) (es:E):X.evs false (.cons (.op .add (.g j) (.c (.int 0))) es) t = .bad∨∃ n,X.Γ.gl[j]?.map toD=some (.int n)∧X.evs false (.cons (.op .add (.g j) (.c (.int 0))) es) t=(X.evs false es t).bind fun l s=>.ok (.int (n+0) :: l) s:=by
 have h:X.evs false (.cons (.op .add (.g j) (.c (.int 0))) es) t=((Out.of t (X.Γ.gl[j]?.map toD)).bind fun x s=>Out.of s (opD .add (look s.st x) (.int 0))).bind (fun x s=>(X.evs false es s).bind fun l s=>.ok (x :: l) s):=rfl
 rw [h]
 cases X.Γ.gl[j]? with
 | none=>exact .inl rfl
 | some d=>cases d with
   | int n=>exact .inr ⟨n,rfl,rfl⟩
   | _=>exact .inl rfl
theorem Cp (t:Sta) (i:Nat) (es:E):X.evs false (.cons (.op .add (.v i) (.c (.int 0))) es) t = .bad∨∃ n,t.env[i]? = some (some (.int n))∧X.evs false (.cons (.op .add (.v i) (.c (.int 0))) es) t=(X.evs false es t).bind fun l s=>.ok (.int (n+0) :: l) s:=by
 have h:X.evs false (.cons (.op .add (.v i) (.c (.int 0))) es) t=((match t.env[i]? with | some (some d)=>Out.ok d t | _=>.bad).bind fun x s=>Out.of s (opD .add (look s.st x) (.int 0))).bind (fun x s=>(X.evs false es s).bind fun l s=>.ok (x :: l) s):=rfl
 rw [h]
 rcases q:t.env[i]? with _ | (_ | d)
 ·exact .inl rfl
 ·exact .inl rfl
 ·cases d with
  | int n=>exact .inr ⟨n,rfl,rfl⟩
  | ref n=>
    have e:opD .add (look t.st (.ref n)) (.int 0)=none:=by
     rw [show look t.st (.ref n)=(match t.st[n]? with | some (.lst l)=>.lst l | some (.dic k l)=>.dic k l | _=>.ref n) from rfl]
     rcases t.st[n]? with _ | (_ | _ | _) <;> rfl
    refine .inl ?_
    show (Out.of t (opD .add (look t.st (.ref n)) (.int 0))).bind _=_
    rw [e];rfl
  | _=>exact .inl rfl
theorem Cs (t:Sta) (i:Nat) (es:E):X.evs false (.cons (.op .add (.v i) (.c (.str ""))) es) t = .bad∨∃ x,t.env[i]? = some (some (.str x))∧X.evs false (.cons (.op .add (.v i) (.c (.str ""))) es) t=(X.evs false es t).bind fun l s=>.ok (.str (x ++ ("":θ)) :: l) s:=by
 have h:X.evs false (.cons (.op .add (.v i) (.c (.str ""))) es) t=((match t.env[i]? with | some (some d)=>Out.ok d t | _=>.bad).bind fun x s=>Out.of s (opD .add (look s.st x) (.str ""))).bind (fun x s=>(X.evs false es s).bind fun l s=>.ok (x :: l) s):=rfl
 rw [h]
 rcases q:t.env[i]? with _ | (_ | d)
 ·exact .inl rfl
 ·exact .inl rfl
 ·cases d with
  | str x=>
    by_cases c:x.length+("":θ).length≤100000
    ·have e:opD .add (look t.st (.str x)) (.str "")=some (.str (x ++ ("":θ))):=by show eA _ _=_;unfold eA;rw [ZZ c]
     refine .inr ⟨x,rfl,?_⟩
     show (Out.of t (opD .add (look t.st (.str x)) (.str ""))).bind _=_
     rw [e];rfl
    ·have e:opD .add (look t.st (.str x)) (.str "")=none:=by show eA _ _=_;unfold eA;rw [ZY c]
     refine .inl ?_
     show (Out.of t (opD .add (look t.st (.str x)) (.str ""))).bind _=_
     rw [e];rfl
  | ref n=>
    have e:opD .add (look t.st (.ref n)) (.str "")=none:=by
     rw [show look t.st (.ref n)=(match t.st[n]? with | some (.lst l)=>.lst l | some (.dic k l)=>.dic k l | _=>.ref n) from rfl]
     rcases t.st[n]? with _ | (_ | _ | _) <;> rfl
    refine .inl ?_
    show (Out.of t (opD .add (look t.st (.ref n)) (.str ""))).bind _=_
    rw [e];rfl
  | _=>exact .inl rfl
theorem Cr {es:List Ξ} {c:E} (T:TxP X es c):∀ (t:Sta),X.evs false c t = .bad∨∃ l,X.evs false c t = .ok l t:=by
 induction T with
 | nil=>exact fun t=>.inr ⟨[],rfl⟩
 | c _ _ ih=>exact ih
 | @f x i p q r es h1 h2 h3 _ ih=>
   intro t
   rcases Cp (X:=X) t i es with h | ⟨n,_,h⟩
   ·exact .inl h
   ·rcases ih t with e | ⟨l,e⟩
    ·rw [h,e];exact .inl rfl
    ·rw [h,e];exact .inr ⟨_,rfl⟩
 | @g x j u d p q r es h1 h2 h3 h4 h5 _ ih=>
   intro t
   rcases Cq (X:=X) t j es with h | ⟨n,_,h⟩
   ·exact .inl h
   ·rcases ih t with e | ⟨l,e⟩
    ·rw [h,e];exact .inl rfl
    ·rw [h,e];exact .inr ⟨_,rfl⟩
 | @r x i p q r es h1 h2 h3 _ ih=>
   intro t
   rcases Cs (X:=X) t i es with h | ⟨n,_,h⟩
   ·exact .inl h
   ·rcases ih t with e | ⟨l,e⟩
    ·rw [h,e];exact .inl rfl
    ·rw [h,e];exact .inr ⟨_,rfl⟩
theorem uO (x:θ):x ++ ("":θ)=x:=by
 cases x with
 | mk a=>show Str.mk (a ++ #[])=_;rw [Array.append_empty]
theorem pI (I:Rep X z) {i:Nat} {d:D} (e:z.t.env[i]? = some (some d)) (h:toO d=none):∃ u,z.σ[i]? = some (some u)∧RD X.W z.ρ z.G d u:=by
 refine I.en i d (fun m=>?_) e
 obtain ⟨d',a,o,e1,_,e3,_⟩:=I.eo i m
 rw [e] at e1;cases e1
 rw [h] at e3;cases e3
theorem Ag {Ex:η→τ→Prop} {es:List Ξ} {c:E} (T:TxP X es c):∀ {z:Z} {acc:θ} {Q:θ→τ→Prop} {l:List D},Rep X z→X.evs false c z.t = .ok l z.t→l.all jb=true→acc.length+10000 * es.length≤100000→(∀ out t,out.length≤100000→Q out { z.s with toks:=t })→Joins X.M X.A Ex (evalEach es X.env) acc Q z.s:=by
 have sz:∀ {n},n≤100000→n≤ϙ:=fun h=>Õ h (by decide)
 induction T with
 | nil=>exact fun I hs hk hl q=>q _ _ (by simpa using hl)
 | @c x j p r es hx _ ih=>
   intro z acc Q l I hs hk hl q
   rw [ψ] at hl
   show Ε _ _ (eval (.Constant (.str x) j p) X.env) _ _ _
   refine Ϲ ⟨x,_,rfl,sz (by rw [ä];omega),?_⟩
   exact ih (z:={ z with s:={ z.s with toks:=z.s.toks+1 } }) (I.grow (aq I.gh .tok)) hs hk (by rw [ä];omega) q
 | @f x i p p2 r es hN hv hd _ ih=>
   intro z acc Q l I hs hk hl q
   rw [ψ] at hl
   simp only [Fx] at hd
   rcases Cp (X:=X) z.t i es with h | ⟨n,en,h⟩
   ·rw [h] at hs;cases hs
   rw [h] at hs
   rcases e:X.evs false es z.t with ⟨l',s'⟩ | ⟨c',y,s'⟩ | _
   ·rw [e] at hs
    cases hs
    rw [ĺ,Θ] at hk
    obtain ⟨k1,k2⟩:=hk
    unfold jb at k1
    simp only [Θ,decide_eq_true_eq] at k1
    obtain ⟨u,su,ru⟩:=pI I en rfl
    obtain ⟨tk,rfl⟩:=ru
    obtain ⟨m,rfl⟩:=Ň (show 0≤n by omega)
    have hm:m<100000:=by omega
    have lt:=GL (a:=(m:Int)) (k:=5) (by decide) hm
    have lg:(m:Int).natAbs.log2<1920:=by
     show m.log2<1920
     by_cases c:m=0
     ·subst c;decide
     ·exact Ϻ ((DZ (k:=17) c).mpr (by omega)) (by decide)
    have le:(Ô (toString (m:Int))).length≤6:=by rw [F5];exact lt
    refine GR (cU I hN hv su (Gp lg ⟨_,_,rfl,sz (by rw [ä];omega),?_⟩) hd.1 hd.2)
    exact ih (z:={ z with s:={ z.s with toks:=z.s.toks+1+1 } }) (I.grow (aq I.gh .tok)) e k2 (by rw [ä];omega) q
   ·rw [e] at hs;cases hs
   ·rw [e] at hs;cases hs
 | @g x j u d p p2 r es hg hmg hj hk0 hd _ ih=>
   intro z acc Q l I hs hk hl q
   rw [ψ] at hl
   rcases Cq (X:=X) z.t j es with h | ⟨n,en,h⟩
   ·rw [h] at hs;cases hs
   rw [h] at hs
   rcases e:X.evs false es z.t with ⟨l',s'⟩ | ⟨c',y,s'⟩ | _
   ·rw [e] at hs
    cases hs
    rw [ĺ,Θ] at hk
    obtain ⟨k1,k2⟩:=hk
    unfold jb at k1
    simp only [Θ,decide_eq_true_eq] at k1
    rw [hj] at en
    have ru:RD X.W z.ρ z.G (.int n) u:=by have:=I.toHR.top hk0;rw [show toD d = .int n from ϝ en] at this;exact this
    obtain ⟨tk,rfl⟩:=ru
    obtain ⟨m,rfl⟩:=Ň (show 0≤n by omega)
    have hm:m<100000:=by omega
    have lt:=GL (a:=(m:Int)) (k:=5) (by decide) hm
    have lg:(m:Int).natAbs.log2<1920:=by
     show m.log2<1920
     by_cases c:m=0
     ·subst c;decide
     ·exact Ϻ ((DZ (k:=17) c).mpr (by omega)) (by decide)
    have le:(Ô (toString (m:Int))).length≤6:=by rw [F5];exact lt
    refine GR (aQ I hg hmg (Gp lg ⟨_,_,rfl,sz (by rw [ä];omega),?_⟩) hd)
    exact ih (z:={ z with s:={ z.s with toks:=z.s.toks+1+1 } }) (I.grow (aq I.gh .tok)) e k2 (by rw [ä];omega) q
   ·rw [e] at hs;cases hs
   ·rw [e] at hs;cases hs
 | @r x i p p2 r es hN hv hd _ ih=>
   intro z acc Q l I hs hk hl q
   rw [ψ] at hl
   simp only [Fx] at hd
   rcases Cs (X:=X) z.t i es with h | ⟨n,en,h⟩
   ·rw [h] at hs;cases hs
   rw [h] at hs
   rcases e:X.evs false es z.t with ⟨l',s'⟩ | ⟨c',y,s'⟩ | _
   ·rw [e] at hs
    cases hs
    rw [ĺ,Θ] at hk
    obtain ⟨k1,k2⟩:=hk
    unfold jb at k1
    rw [uO] at k1
    have k1:(GK n).length≤10000:=by simpa using k1
    obtain ⟨u,su,ru⟩:=pI I en rfl
    obtain ⟨tk,rfl⟩:=ru
    have go:∀ t',X.tz≤t'→Joins X.M X.A Ex (evalEach r X.env) (acc ++ GK n) Q { z.s with toks:=t' }:=fun t' tk=>ih (z:={ z with s:={ z.s with toks:=t' } }) (I.grow (aq I.gh .tok) tk) e k2 (by rw [ä];omega) q
    refine wpAny_FormattedValue_repr (cU I hN hv su (pyReprObj_str ?_ (sz (by omega))) hd.1 hd.2)
    exact wpAny_formatField_str ⟨_,_,rfl,sz (by rw [ä];omega),go _ (by first | exact I.tk | exact I.tk1 | exact I.tk2)⟩ ⟨_,_,rfl,sz (by rw [ä];omega),go _ (by first | exact I.tk | exact I.tk1 | exact I.tk2)⟩ (sz (by omega))
   ·rw [e] at hs;cases hs
   ·rw [e] at hs;cases hs
inductive TxA (X:Cx):Ξ→E→Prop
 | c {x:θ} {j:Nat} {p:ϧ}:x.length≤1000→TxA X (.Constant (.str x) j p) .nil
 | j {e1 e2:Ξ} {r:List Ξ} {p:ϧ} {es:E}:TxP X (e1 :: e2 :: r) es→r.length≤8→TxA X (.JoinedStr (e1 :: e2 :: r) p) es
theorem Ah {e:Ξ} {c:E} (T:TxA X e c):∀ (t:Sta),X.evs false c t = .bad∨∃ l,X.evs false c t = .ok l t:=by
 cases T with
 | c _=>exact fun t=>.inr ⟨[],rfl⟩
 | j h _=>exact Cr h
theorem wP {e:Ξ} {c:E} {Q:η→τ→Prop} {Ex:η→τ→Prop} {l:List D} (T:TxA X e c) (I:Rep X z) (hs:X.evs false c z.t = .ok l z.t) (hk:l.all jb=true) (q:∀ u t,X.tz≤t→Q u { z.s with toks:=t }):Ε X.M X.A (eval e X.env) Q Ex z.s:=by
 refine aV I.tk ?_
 cases T with
 | c _=>exact Ϲ (q _ _)
 | j h hr=>exact wpAny_JoinedStr (Ag h I hs hk (by rw [ψ,ψ];show 0+_≤_;omega) fun out t ho=>⟨Õ ho (by decide),q _ _⟩)
theorem qw {x:θ} {j:Nat} {k:Cl} {i:CI} {Bx nwI iniI:String} {bmB:List η} {np cp pos:ϧ} {e:Ξ} {es:E} (F:ÿ Bx nwI iniI bmB) (O:n7 X.K i.ad bmB nwI) (hcl:X.Γ.cl[j]? = some k) (h0:k.at_.isEmpty=true) (hci:X.W.ci[j]? = some i) (hwh:X.W.what[j]? = some 2)
 (hc:X.calm=true) (hg:Gl X x) (hm:X.mg x=some (.ref i.ad)) (T:TxA X e es) (hd:(x == ("__debug__":θ))=false) (he:Ο [e] X.env = [(false,eval e X.env)]):LS X (.Raise (some (.Call (.Name x np) [e] [] cp)) none pos) (.rais j es):=fun z I nb=>by
 have eo:X.ex (.rais j es) z.t=(X.evs false es z.t).go fun l s=>if dh X.Γ j l then .exc j (gK X.Γ j l) s else .bad:=rfl
 rw [eo] at nb ⊢
 rcases Ah T z.t with h | ⟨l,h⟩
 ·rw [h] at nb;exact ZX rfl nb
 rw [h] at nb ⊢
 have nb:(if dh X.Γ j l then ah.exc j (gK X.Γ j l) z.t else .bad)≠.bad:=nb
 show Ws X _ z (if dh X.Γ j l then ah.exc j (gK X.Γ j l) z.t else .bad)
 by_cases c:dh X.Γ j l=true
 rotate_left
 ·rw [ZY c] at nb;exact ZX rfl nb
 rw [ZZ c]
 have ea:gK X.Γ j l = []:=by unfold gK;rw [hcl];exact ZZ h0
 rw [ea]
 unfold dh at c
 rw [hcl] at c
 dsimp only at c
 rw [ZZ h0] at c
 obtain ⟨nm,q,N,bs,bm,hdct,sn,sub,ab,col,dd,k0,k1,k2,k3,k5,z1,z2,z3,z4⟩:=O
 have KX:X.K.In z.s.heap:=I.toHR.kin
 have T':=Fi KX z4
 refine wpAny_Raise_call_subT (C:=i.ad) (N:=N) (nm:=nm) (q:=q) (bs:=bs) (bm:=bm) (hdct:=hdct) (sn:=sn) (sub:=sub) (ab:=ab) (col:=col) (dd:=dd) (k0:=k0) (k1:=k1) (k2:=k2) (k3:=k3) (k5:=k5) (mN:=z.s.heap.nsMap N) F (T'.hasType F.hasBase) (I.hd hc) ?_ (PySem.W.nsMap_none_of_in KX z2 z3) (aQ I hg hm ⟨rfl,?_⟩ hd)
 ·rw [he];rfl
 ·rw [he]
  show Ε _ _ (evalArgs (.ref i.ad) true ((false,eval e X.env) :: Ü cp []) []) _ _ _
  refine ϻ (Τ (wP T I h c fun u t tk=>ϋ ?_))
  refine ⟨rfl,by show 1≤ϙ;rw [ï];decide,KX _ _ z1,Heap.Ns.of_isNs (PySem.W.isNs_of_in KX z2),T',fun h' a m=>?_⟩
  have kz:∀ b o,z.h b=some o→h'.get? b=some o:=fun b o e=>m.keeps b o e
  have np:z.h a=none:=m.new
  obtain ⟨tt,ht,_,_⟩:=m.there
  have g:Gr z.s { z.s with heap:=h',toks:=t }:=⟨rfl,rfl,kz⟩
  have gw:=aq I.gh g
  have I3:=I.grow gw tk
  have fp:=I.fre np
  exact ⟨{ z with s:={ z.s with heap:=h',toks:=t } },j,[],rfl,rfl,gw.ee.go,I3,a,.ref i.ad,none,rfl,⟨i,hci,hwh,rfl,À _,.inl ⟨rfl,rfl⟩⟩,⟨np,⟨fp.1.1,fp.1.2⟩,fp.2⟩,.inl ⟨_,_,ht,⟨rfl,rfl⟩,rfl,rfl⟩⟩
end
end L2.Ev
namespace L2.Ev
theorem ot_mk {K:ς} {C:Δ} {bmB:List η} {newId:String} {nm q:θ} {N:Δ} {bs bm:List η} {hdct:Bool} {sn:List θ} {sub:List η} {ab:Bool} {col:Option Bool} {dd:Option Δ} {k0 k1 k2 k3 k5:Option η} (l:K.lookup C=some (ER nm q C N bs bm hdct sn sub ab col dd k0 k1 k2 k3 k5 newId)) (o:G7 K N=true) (i:ϒ K N "__init__" = some none) (t:DS K bmB bm=true):n7 K C bmB newId:=⟨nm,q,N,bs,bm,hdct,sn,sub,ab,col,dd,k0,k1,k2,k3,k5,l,o,i,t⟩
theorem rZ {prog:Î} {w:é} {A:ϗ} {E:η→τ→Prop} {s:τ} {Q:Option η→τ→Prop} {δ:Type} {R:δ→η→Prop} {a:Δ} {D:List (θ×δ)} {z:θ} {tz:Tok} {d:δ}
 (T:GQ R s.heap a D) (hat:ϰ z D=some d) (h:∀ v,R d v→Q (some v) { s with toks:=s.toks+1 }):Ε (model prog w) A (F4 a (.str z tz)) Q E s:=by
 obtain ⟨_,o,es,ep,ho,_,hd,hr⟩:=T
 obtain ⟨v,hv,hfl⟩:=hr.find_some hat
 have all:(es.all fun e=>isExactStrKey e.key)=true:=by
  obtain ⟨l⟩:=es
  simpa using hr.exact
 have hq:Q (Ff (fun k v=>v.isStr k) es z) { s with toks:=s.toks+1 }:=by
  rw [show Ff (fun k v=>v.isStr k) es z=some v by obtain ⟨l⟩:=es;simpa [Ff] using hv]
  exact h v hfl
 rw [Ha] at hq
 unfold F4
 refine ώ ?_
 refine ε (EE (ε (FH (s:={ s with toks:=s.toks+1 }) ho hd all ?_)))
 cases hi:es.findIdx? fun e=>e.key.isStr z with
 | none=>
   rw [hi] at hq
   exact π hq
 | some i=>
   rw [hi] at hq
   exact ε (Hr (s:={ s with toks:=s.toks+1 }) ho hd (π hq))
theorem vn {prog:Î} {w:é} {A:ϗ} {E:η→τ→Prop} {s:τ} {Q:Option η→τ→Prop} {δ:Type} {R:δ→η→Prop} {a:Δ} {D:List (θ×δ)} {z:θ} {tz:Tok}
 (T:GQ R s.heap a D) (hat:ϰ z D=none) (h:Q none { s with toks:=s.toks+1 }):Ε (model prog w) A (F4 a (.str z tz)) Q E s:=by
 obtain ⟨_,o,es,ep,ho,_,hd,hr⟩:=T
 have hv:=hr.find_none hat
 have all:(es.all fun e=>isExactStrKey e.key)=true:=by
  obtain ⟨l⟩:=es
  simpa using hr.exact
 have hq:Q (Ff (fun k v=>v.isStr k) es z) { s with toks:=s.toks+1 }:=by
  rw [show Ff (fun k v=>v.isStr k) es z=none by obtain ⟨l⟩:=es;simpa [Ff] using hv]
  exact h
 rw [Ha] at hq
 unfold F4
 refine ώ (ε (EE (ε (FH (s:={ s with toks:=s.toks+1 }) ho hd all ?_))))
 cases hi:es.findIdx? fun e=>e.key.isStr z with
 | none=>
   rw [hi] at hq
   exact π hq
 | some i=>
   rw [hi] at hq
   exact ε (Hr (s:={ s with toks:=s.toks+1 }) ho hd (π hq))
section
variable {X:Cx} {z z1:Z} {a:Δ} {t:List (θ×L2.Bk.Dk)} {j:Nat} {x:θ}
abbrev TbL (X:Cx) (a:Δ) (t:List (θ×L2.Bk.Dk)):Prop:=E6 (aT X.K) (fun b=>X.K.lookup b) a t=true
theorem uw (I:HR X z) (hK:TbL X a t):GQ (fun d v=>aT X.K d v=true) z.s.heap a t:=KTD.tab_of_look (fun _ _ h=>h) (fun b o e=>I.kin b o e) hK
theorem yZ (hg:Gl X x) (hm:X.mg x=some (.ref a)) (ht:X.Γ.tb[j]? = some t) (hK:TbL X a t) (hb:LE X eb b) (hs:jc eb) (hd:(x == ("__debug__":θ))=false) (hl:∀ r,letTemporaryGo (.Name x p) (.ref a) r=pure ()):LE X (.Subscript (.Name x p) eb pos) (.tab j b):=fun br z I nb=>
 Hg (aQ I hg hm ((hb true).go .refl I rfl nb fun z1 d u y1 x1 I1 r1 e1=>by
  rw [ht] at e1
  cases d with
  | str k=>
    obtain ⟨tz,rfl⟩:=(r1.rb.cr0 I1:RD X.W z1.ρ z1.G (.str k) u)
    have T:=uw I1.toHR hK
    have ty:z1.s.TypeIs (.ref a) "dict":=by obtain ⟨_,o,_,_,ho,hc,_⟩:=T;exact ⟨o,ho,hc.1⟩
    refine cB x1 I1 e1 nb fun d q=>?_
    obtain ⟨d0,hat,rfl⟩:=Α.mp q
    refine subscriptTail_builtin ty Ec.lookup ?_ (hs _ _) hl
    unfold Ed
    refine ώ (ε (E8 ty (by decide) (ε (Ś (name:=Ô "__getitem__") ty Ec (ř Ec ty entry_dict_getitem ?_ (args_dict_getitem _ _))))))
    show Ε _ _ (F4 a (.str k tz) >>= _) _ _ z1.s
    exact ε (rZ T hat fun v hv=>π ⟨v,rfl,π (.old I1 .tok (I1.toHR.top hv))⟩)
  | _=>exact ZX e1 nb) hd)
theorem lS {k:θ} {tz:Tok} {Q:Bool→τ→Prop} {E:η→τ→Prop} (I:HR X z) (hK:TbL X a t) (q:∀ n,Q (ϰ k t).isSome { z.s with toks:=n }):Ε X.M X.A (contains (.ref a) (.str k tz)) Q E z.s:=by
 have T:=uw I hK
 have ty:z.s.TypeIs (.ref a) "dict":=by obtain ⟨_,o,_,_,ho,hc,_⟩:=T;exact ⟨o,ho,hc.1⟩
 have nsm:=T.1
 unfold contains
 refine ώ ?_
 refine ε (Ţ ty DP.lookup ?_)
 show Ε _ _ (if (some (ĳ "dict.__contains__") == some ϣ)=true then _ else _) _ _ z.s
 rw [ZY (by rw [beq_builtin_none];exact ϩ)]
 refine ε (wpAny_callSpecialUnlessNone?_slot (name:=Ô "__contains__") ty DP (ř DP ty entry_dict_contains ?_ (args_dict_contains _ _)))
 show Ε _ _ (F4 a (.str k tz) >>= _) _ _ z.s
 cases hat:ϰ k t with
 | some d=>
   rw [hat] at q
   refine ε (rZ T hat fun v _=>?_)
   show Ε _ _ (ret (.bool true)) _ _ _
   exact π ⟨_,rfl,Ϸ (q _)⟩
 | none=>
   rw [hat] at q
   refine ε (vn T hat ?_)
   show Ε _ _ (Ih a (.str k tz) >>= _) _ _ _
   exact ε (wpAny_pendingKey_other nsm (π ⟨_,rfl,Ϸ (q _)⟩))
theorem lT {k:θ} {tz:Tok} {Q:η→τ→Prop} {E:η→τ→Prop} (I:HR X z) (hK:TbL X a t) (q:∀ n,Q (.bool (ϰ k t).isSome) { z.s with toks:=n }):Ε X.M X.A (Ò .In (.str k tz) (.ref a)) Q E z.s:=
 show Ε _ _ (do return Ϣ (← contains (.ref a) (.str k tz))) _ _ z.s from ε (lS I hK fun n=>π (q n))
theorem lU {k:θ} {tz:Tok} {Q:η→τ→Prop} {E:η→τ→Prop} (I:HR X z) (hK:TbL X a t) (q:∀ n,Q (.bool (!(ϰ k t).isSome)) { z.s with toks:=n }):Ε X.M X.A (Ò .NotIn (.str k tz) (.ref a)) Q E z.s:=
 show Ε _ _ (do return Ϣ (!(← contains (.ref a) (.str k tz)))) _ _ z.s from ε (lS I hK fun n=>π (q n))
theorem sT (hg:Gl X x) (hm:X.mg x=some (.ref a)) (ht:X.Γ.tb[j]? = some t) (hK:TbL X a t) (hb:LE X eb b) (hd:(x == ("__debug__":θ))=false) (h1:Å .In (.Name x p)=false):LE X (.Compare eb [.In] [.Name x p] pos) (.tabin j b):=fun br z I nb=>
 Ľ ((hb true).go .refl I rfl nb fun z1 d u y1 x1 I1 r1 e1=>by
  rw [ht] at e1
  cases d with
  | str k=>
    obtain ⟨tz,rfl⟩:=(r1.rb.cr0 I1:RD X.W z1.ρ z1.G (.str k) u)
    exact aQ I1 hg hm (aV I1.tk (lT I1.toHR hK fun n tk=>Dn.at x1 I1 e1 (.tok fun _ _ _=>rfl) tk)) hd
  | _=>exact ZX e1 nb) h1
theorem tD (hg:Gl X x) (hm:X.mg x=some (.ref a)) (ht:X.Γ.tb[j]? = some t) (hK:TbL X a t) (hb:LE X eb b) (hd:(x == ("__debug__":θ))=false) (h1:Å .In (.Name x p)=false):LT X (.Compare eb [.In] [.Name x p] pos) (.tabin j b):=fun z I nb=>
 Þ ((hb true).go .refl I (ai ..) nb fun z1 d u y1 x1 I1 r1 e1=>by
  rw [ht] at e1
  cases d with
  | str k=>
    obtain ⟨tz,rfl⟩:=(r1.rb.cr0 I1:RD X.W z1.ρ z1.G (.str k) u)
    exact aQ I1 hg hm (aV I1.tk (lT I1.toHR hK fun n tk=>(Dn.tok (X:=X) (z:=z1) (d:=.bl (ϰ k t).isSome) (n:=n) fun _ _ _=>rfl).tru x1 I1 e1 nb tk)) hd
  | _=>exact ZX e1 nb) h1
theorem sU (hg:Gl X x) (hm:X.mg x=some (.ref a)) (ht:X.Γ.tb[j]? = some t) (hK:TbL X a t) (hb:LE X eb b) (hd:(x == ("__debug__":θ))=false) (h1:Å .NotIn (.Name x p)=false):LE X (.Compare eb [.NotIn] [.Name x p] pos) (.not (.tabin j b)):=fun br z I nb=>
 Ľ ((hb true).go .refl I (ai ..) nb fun z1 d u y1 x1 I1 r1 e1=>by
  rw [ht] at e1
  cases d with
  | str k=>
    obtain ⟨tz,rfl⟩:=(r1.rb.cr0 I1:RD X.W z1.ρ z1.G (.str k) u)
    exact aQ I1 hg hm (aV I1.tk (lU I1.toHR hK fun n tk=>Dn.at x1 I1 e1 (.tok fun _ _ _=>rfl) tk)) hd
  | _=>exact ZX e1 nb) h1
theorem tF (hg:Gl X x) (hm:X.mg x=some (.ref a)) (ht:X.Γ.tb[j]? = some t) (hK:TbL X a t) (hb:LE X eb b) (hd:(x == ("__debug__":θ))=false) (h1:Å .NotIn (.Name x p)=false):LT X (.Compare eb [.NotIn] [.Name x p] pos) (.not (.tabin j b)):=fun z I nb=>
 Þ ((hb true).go .refl I ((ZS (fun q=>Out.bind q toB) (ai ..)).trans (ai ..)) nb fun z1 d u y1 x1 I1 r1 e1=>by
  rw [ht] at e1
  cases d with
  | str k=>
    obtain ⟨tz,rfl⟩:=(r1.rb.cr0 I1:RD X.W z1.ρ z1.G (.str k) u)
    exact aQ I1 hg hm (aV I1.tk (lU I1.toHR hK fun n tk=>(Dn.tok (X:=X) (z:=z1) (d:=.bl (!(ϰ k t).isSome)) (n:=n) fun _ _ _=>rfl).tru x1 I1 e1 nb tk)) hd
  | _=>exact ZX e1 nb) h1
end
section
variable {X:Cx} {z z1:Z}
structure M2 (X:Cx) (o:Ξ) (m:θ) (apos:ϧ) (e f:Ξ) (cpos:ϧ):Prop where
 base:Æ o m X.env (eval o X.env)=eval o X.env
 few:((Ü cpos (Ο [e,f] X.env)).all (fun x=>!x.1) && (Ŷ cpos (ġ [] X.env)).all (fun x=>x.1.isSome) && decide (([e,f]:List Ξ).length+([]:List Eo).length+(if ([]:List Eo).isEmpty then 0 else 1)<30))=true
 line:(apos.endLine == cpos.line)=true
 trees:Ü cpos (Ο [e,f] X.env) = [(false,eval e X.env),(false,eval f X.env)]
theorem lR:∀ {l ss vs},eg l=some ss→RDs W ρ G l vs→StrsAre vs ss
 | [],ss,vs,e,r=>by cases e;cases (show vs = [] from r);exact .nil
 | d :: l,ss,vs,e,r=>by
   cases d with
   | str b=>
     obtain ⟨cs,q,rfl⟩:=Α.mp (show (eg l).map (b :: ·)=some ss from e)
     obtain ⟨v,r',rfl,⟨t,rfl⟩,tl⟩:=r
     exact .cons b t (lR q tl)
   | _=>cases e
end
theorem nK:H6 (.type "list_reverseiterator") "__len__" = pure none:=by rw [HX,Gu];kernel_rfl
theorem ue:H6 (.type "list_reverseiterator") "__length_hint__" = pure (some (.builtin "list_reverseiterator.__length_hint__")):=by rw [HX,Gu];kernel_rfl
section
variable {prog:Î} {w:é} {A:ϗ} {E:η→τ→Prop} {s:τ}
theorem vi {R:Result→τ→Prop} {r l S:Δ} {xs:Array η} {c0:Nat} {res:η} (hh:A.handled=none) (hn:xs.size≤ϙ) (g:s.heap.IsRevIter r l ((xs.size:Int) - 1)) (gl:s.heap.IsList l xs) (ne:l≠r)
 (hS:s.heap.get? S=some { cls:=.type "list",data:=.seq #[] c0 }) (n1:S≠r) (n2:S≠l)
 (q:∀ h1 tk acc c1,(∀ b o,b≠S→b≠r→s.heap.get? b=some o→h1.get? b=some o)→h1.get? S=some { cls:=.type "list",dict:=none,data:=.seq acc c1,slots:=#[] }→ItemsOf (fun i v=>xs[xs.size - 1 - i]? = some v) acc xs.size→R (.ok (.ret res)) { s with heap:=h1,toks:=tk }) :
 Ε (model prog w) A.in1 (å (.ref S) (.ref r) res)
  (fun fin s1=>match fin with | .done f=>R (.ok f) s1 | .again c1=>c1.quiet=true∧Ĳ (model prog w) A c1 R s1) (fun e s1=>R (.error e) s1) s:=by
 have ty:=g.typeIs
 unfold å
 refine ε (E7 ty ?_)
 have a1:ž (.ref S) (.ref r)=false:=by simp [ž,n1]
 have a2:(đ "list_reverseiterator" == đ "list")=false:=by decide
 have a3:(đ "list_reverseiterator" == đ "tuple")=false:=by decide
 simp only [a1,a2,a3,ļ,Ā,if_false]
 refine ε (GG g (ε (ώ ?_)))
 unfold Ie
 refine ε (Ţ ty nK ?_)
 show Ε _ A.in1 (specialOf (É r) (Ô "__length_hint__") >>= fun _=>_) _ _ _
 refine ε (Ţ ty ue ?_)
 have W:=(GY (prog:=prog) (w:=w) (A:=A.in1) hh r l ne xs).toS
 have nS:S ∉ [r,l]:=by simp [n1,n2]
 have sp:splitId "list_reverseiterator.__length_hint__" = some ("list_reverseiterator","__length_hint__"):=by decide +kernel
 dsimp only
 simp only [sp]
 refine ε (wpAny_isInstance (T:="list_reverseiterator") (b:=true) ty (by rw [isSubtype_type];kernel_rfl) ?_)
 refine ţ (fun z=>ZX z (by decide)) fun _=>?_
 refine ţ (fun _=>?_) (fun z=>ZX (by decide +kernel) z)
 refine ţ (fun z=>ZX z (by decide +kernel)) fun _=>π ?_
 refine ţ (fun z=>ZX z (by decide +kernel)) fun _=>?_
 refine π ⟨plainId_quiet F.plain_extend_loop _,codeAny_extend_loopS W hn S nS res xs.size 0 _ _ _ rfl (À _) ⟨À _,by simpa using g,gl⟩ hS (ItemsOf.nil _) fun s1 acc c1 hm hS1 hacc=>?_⟩
 rw [Moved.eq_with hm]
 refine q s1.heap s1.toks acc c1 (fun b o z1 z2 e=>hm.heap b o (fun z=>?_) e) hS1 hacc
 rcases φ.mp z with z | z
 ·exact z1 z
 ·exact z2 (ι.mp z)
theorem jh {r l:Δ} {xs:Array η} {Q:η→τ→Prop} (hh:A.handled=none) (hn:xs.size≤ϙ) (g:s.heap.IsRevIter r l ((xs.size:Int) - 1)) (gl:s.heap.IsList l xs) (ne:l≠r)
 (q:∀ h1 tk acc c1,(∀ b o,b≠r→s.heap.get? b=some o→h1.get? b=some o)→h1.get? s.heap.objs.size=some { cls:=.type "list",dict:=none,data:=.seq acc c1,slots:=#[] }→ItemsOf (fun i v=>xs[xs.size - 1 - i]? = some v) acc xs.size →
  Q (.ref s.heap.objs.size) { s with heap:=h1,toks:=tk }):Ε (model prog w) A (call (.type "list") [.ref r]) Q E s:=by
 refine callType_codes (Q₁:=fun obj s1=>obj = .ref s.heap.objs.size∧s1={ s with heap:=s.heap.push { cls:=.type "list",data:=.seq #[] } }) F.called_list (F.typeCall_list_1 _) F.entry_list_init (code_list_new _ ⟨rfl,rfl⟩) fun obj s1 z=>?_
 obtain ⟨e,e'⟩:=z
 subst e e'
 have hS:(s.heap.push { cls:=.type "list",data:=.seq #[] }).get? s.heap.objs.size=some { cls:=.type "list",data:=.seq #[] }:=Λ _ rfl
 have rlt:r<s.heap.objs.size:=by obtain ⟨_,e,_⟩:=g;exact ϟ e
 have llt:l<s.heap.objs.size:=by obtain ⟨_,e,_⟩:=gl;exact ϟ e
 refine ⟨⟨_,hS,rfl⟩,F.args_list_init_2 _ _,?_⟩
 show Ε _ _ (do let old ← DN (.ref s.heap.objs.size);Ic (.ref s.heap.objs.size) (fun _=>#[]);letGo old.toList.reverse;å (.ref s.heap.objs.size) (.ref r) .none) _ _ _
 refine ε ?_
 unfold DN
 refine ε (wpAny_seqItems hS rfl (π ?_))
 show Ε _ _ (updateSeq s.heap.objs.size (fun _=>#[]) >>= fun _=>letGo (#[]:Array η).toList.reverse >>= fun _=>å (.ref s.heap.objs.size) (.ref r) .none) _ _ _
 refine ε (wpAny_updateSeq hS rfl (ε (wpAny_letGo ?_)))
 have oth:∀ b o,s.heap.get? b=some o→((s.heap.push { cls:=.type "list",data:=.seq #[] }).update s.heap.objs.size (à (fun _=>(#[]:Array η)))).get? b=some o:=fun b o e=>
  (ϱ _ _ (ê (ϟ e))).trans (Κ _ e)
 refine vi (A:=A.in1) hh hn (g.at fun o e=>oth r o e) (gl.at fun o e=>oth l o e) ne (È (à (fun _=>(#[]:Array η))) hS rfl) (ê rlt) (ê llt) fun h1 tk acc c1 k1 k2 k3=>⟨rfl,?_⟩
 exact q h1 tk acc c1 (fun b o n1 e=>k1 b o (ϲ (ϟ e)) n1 (oth b o e)) k2 k3
end
section
variable {X:Cx} {z z1:Z}
theorem qm {us:List η} {acc:Array η} (h:ItemsOf (fun i v=>us.toArray[us.toArray.size - 1 - i]? = some v) acc us.toArray.size):acc.toList=us.reverse:=by
 obtain ⟨h1,h2⟩:=h
 refine List.ext_getElem (by simpa using h1) fun i l1 l2=>?_
 have k:=h2 i acc[i] (EC (by simpa using l1))
 have l3:i<us.length:=by simpa using l2
 rw [List.getElem_reverse]
 have k':us[us.length - 1 - i]? = some acc[i]:=by simpa using k
 rw [Ζ (by omega)] at k'
 simpa using (ϝ k').symm
theorem za {p1 p2 pos pos2:ϧ} (hc:X.calm=true) (g1:Blt X "list" (.type "list")) (g2:Blt X "reversed" (.type "reversed")) (ha:LE X ea a) (hs:Ο [ea] X.env=(false,eval ea X.env) :: Ο [] X.env) (hs2:Ο [.Call (.Name "reversed" p2) [ea] [] pos2] X.env=(false,eval (.Call (.Name "reversed" p2) [ea] [] pos2) X.env) :: Ο [] X.env):LF X (.Call (.Name "list" p1) [.Call (.Name "reversed" p2) [ea] [] pos2] [] pos) (.bi .rev (.cons a .nil)):=fun z I nb=>
 aR (.inr ⟨_,rfl⟩) g1 hs2 rfl I (Τ (aR (.inr ⟨_,rfl⟩) g2 hs rfl I (Τ ((ha true).go .refl I (ev1 fun l s=>Out.of s (biD .rev (l.map (look s.st)))) nb fun z1 x u y1 x1 I1 r1 e1=>ϋ (by
  have cr:=r1.rb.cr I1
  have e1:X.ev false (.bi .rev (.cons a .nil)) z.t=Out.of z1.t (di .rev (look z1.t.st x)):=e1
  revert e1 cr
  generalize look z1.t.st x=cc
  intro cr e1
  cases cc with
  | lst l=>
    obtain ⟨ad,o,vs,rfl,ho,⟨⟨n,rfl⟩,hz⟩,r⟩:=cr
    have pl:z1.s.heap.IsList ad vs.toArray:=⟨_,ho,rfl,n,rfl⟩
    refine Hc pl (ϋ ?_)
    refine aV I1.tk (jh (I1.hd hc) (by simp;omega) ⟨_,Λ _ rfl,rfl,rfl⟩ (pl.at fun o e=>Κ _ e) (ϲ (ϟ ho)) fun h1 tk acc c1 k1 k2 k3 tk0=>?_)
    have w:=qm k3
    have nn:z1.h (z1.s.heap.push (revObj ad ((vs.toArray.size:Int) - 1))).objs.size=none:=Ϙ (by rw [Ş];exact Ě _)
    obtain ⟨z2,d,q1,q2,y,I2,fv⟩:=(Dw.lst (X:=X) (z:=z1) (s':={ z1.s with heap:=h1,toks:=tk }) (k:=c1) r.rev (.hp fun b o e=>k1 b o (ϲ (ϟ e)) (Κ _ e)) nn (by show h1.get? _=_;rw [k2,← w]) (by rw [List.length_reverse];exact hz)).pe I1 tk0
    exact ⟨z2,d,q1,e1.trans q2,x1.trans y,I2,fv.less x1⟩
  | _=>exact ZX e1 nb)))))
end
structure Zd where
 it:Δ
 fp:List Δ
 n:Nat
 P:Nat→η→Prop
 St:Nat→Â→Prop
structure ZOk (prog:Î) (w:é) (A:ϗ) (n:Nat) (l:List Zd) (z TI TO:Δ):Prop where
 dr:∀ d∈l,Draws prog w A d.it d.fp d.n d.P d.St∧n≤d.n∧d.it∈d.fp∧z ∉ d.fp∧TO ∉ d.fp∧TI≠d.it
 ap:∀ (i j:Nat) (d e:Zd),l[i]? = some d→l[j]? = some e→i≠j→d.it ∉ e.fp
 hd:∃ d r,l=d :: r∧d.n=n
 zT:z≠TI∧z≠TO∧TI≠TO
 sz:l.length≤ϙ
end L2.Ev
end
section
namespace L2.Ev
def xN (h:Â) (k:Bool) (a:Δ) (xs:Array η):Prop:=(k=true∧h.IsTuple a xs)∨(k=false∧h.IsList a xs)
section
variable {prog:Î} {w:é} {A:ϗ} {E:η→τ→Prop} {s:τ} {k k1 k2 k3:Bool} {a a1 a2 a3:Δ} {xs ys zs:Array η}
theorem xN.push (h:xN h0 k a xs) (o:FX):xN (h0.push o) k a xs:=h.imp (fun ⟨e,q⟩=>⟨e,Heap.IsTuple.push q o⟩) fun ⟨e,q⟩=>⟨e,Heap.IsList.push q o⟩
end
section
variable {X:Cx} {z z' z0 z1:Z} {tg:Ξ}
theorem RDs.v {i:Nat} {d:D} {v:η} (r:RDs W ρ G l vs) (e:l[i]? = some d) (q:vs.toArray[i]? = some v):RD W ρ G d v:=by
 obtain ⟨v',w1,w2⟩:=r.get e
 rw [show vs[i]? = some v by simpa using q] at w1;cases w1;exact w2
end
section
variable {X:Cx} {z:Z}
theorem vF {x:θ} {j:Nat} {cl:Cl} {i:CI} (F:bT X X.cal1 lv cl.init f) (hr:bv (lv+1) X.A) (M:Mk X.K i.ad f) (hcl:X.Γ.cl[j]? = some cl) (hw:cl.what=0) (hci:X.W.ci[j]? = some i) (hwh:X.W.what[j]? = some 0) (hg:Gl X x) (hm:X.mg x=some (.ref i.ad)) (hd:(x == ("__debug__":θ))=false):LE X (.Call (.Name x p) [] [] pos) (.new j .nil):=fun br z I nb=>
 ċ (aQ I hg hm (F6 I.toHR.kin M.kp (pH F hr M hcl hw hci hwh .refl I (l:=[]) (us:=[]) (es:=.nil) trivial rfl nb)) hd)
end
end L2.Ev
end
section
namespace L2.Ev
open PySem.W
theorem uq {prog:Î} {w:é} {A:ϗ} {E:η→τ→Prop} {s:τ} {x y:θ} {t u:Tok} {Q:η→τ→Prop} (hy:(y.length == 0)=false) (hz:x.length≤ϙ) (hn:(D7 x (Ħ x y 0 x.length (x.length+1)) y.length).length≤ϙ)
 (q:∀ (l:List (θ×Tok)) k,l.map (·.1)=Ï x y→Q (.ref s.heap.objs.size) { s with heap:=s.heap.push { cls:=.type "list",data:=.seq (EG l).toArray },toks:=k }):Ε (model prog w) A (call (.builtin "str.split") [.str x t,.str y u]) Q E s:=by
 have m:=fun {W} (k:Meets (Hy.«str.split» ⟨[.str x t,.str y u],[]⟩) W)=>Ĝ (prog:=prog) (w:=w) (A:=A) (Q:=Q) (E:=E) (s:=s) EL (Č _ _ _) PySem.F.entry_str_split (PySem.F.args_str_split_2 _ _) k
 cases c1:(decide (x.length<y.length) || decide (EA x<EA y)) with
 | true=>exact m (meets_str_split_cannot_occur x y t u c1) (q [(x,t)] s.toks (ZZ c1).symm)
 | false=>
   cases c2:(Ħ x y 0 x.length (x.length+1)).isEmpty with
   | true=>exact m (meets_str_split_not_found x y t u c1 hy c2) (q [(x,t)] s.toks ((ZY (by rw [c1];decide)).trans (ZZ c2)).symm)
   | false=>
     refine m (meets_str_split_sep x y t u c1 hy c2 hz hn) ?_
     have e:=strsFrom_eq s.toks (D7 x (Ħ x y 0 x.length (x.length+1)) y.length)
     show wants Q E _ { s with toks:=_,heap:=s.heap.push { cls:=.type "list",data:=.seq (strsFrom s.toks _).toArray } }
     rw [e]
     exact q (numbered s.toks _) _ ((numbered_texts _ _).trans ((ZY (by rw [c1];decide)).trans (ZY (by rw [c2];decide))).symm)
section
variable {X:Cx} {z z1:Z}
theorem hJ {W:Wd} {ρ:Rs} {G:Hp}:∀ (l:List (θ×Tok)),RDs W ρ G ((l.map (·.1)).map .str) (EG l)
 | []=>rfl
 | (x,t) :: r=>.cons ⟨t,rfl⟩ (hJ r)
theorem sS {y z':θ} {j1 j2:Nat} {p1 p2:ϧ} (htz:0<X.tz) (hyz:(y == z')=false) (ha:LE X eo a) (base:Æ eo "replace" X.env (eval eo X.env)=eval eo X.env) (line:(apos.endLine == cpos.line)=true):LE X (.Call (.Attribute eo "replace" apos) [.Constant (.str y) j1 p1,.Constant (.str z') j2 p2] [] cpos) (.sm (.rep y z') a):=fun br z I nb=>by
 refine Ç base rfl line ā PySem.F.slot_str_replace PySem.F.type_str_replace ((ha true).go .refl I rfl nb fun z1 x u y1 x1 I1 r1 e1=>?_)
 cases x with
 | str x=>
   obtain ⟨t,rfl⟩:=(r1.rb.cr0 I1:RD X.W z1.ρ z1.G (.str x) u)
   refine ⟨Č _ _ _,(fun _ e=>nomatch e),?_⟩
   show Ε _ _ (Eh _ _ _ [(false,eval (.Constant (.str y) j1 p1) X.env),(false,eval (.Constant (.str z') j2 p2) X.env)] []) _ _ _
   refine Ϩ rfl (ϻ (Τ (Ϲ (Τ (Ϲ (ϋ ?_))))))
   have e1:X.ev br (.sm (.rep y z') a) z.t=Out.of z1.t (if x.length≤10000∧z'.length≤100∧y.length=1 then some (.str (ă x y z')) else none):=e1
   by_cases c:x.length≤10000∧z'.length≤100∧y.length=1
   ·rw [ZZ c] at e1
    have:=I1.tk
    refine aV (ϡ I1.toHR.tk1) (SC.replace (ê (Ϻ htz I1.tk)) (Nat.succ_ne_zero _) (ϲ (DW _)) hyz ?_ fun t' k tk=>Dn.at x1 I1 e1 (.tok fun _ _ _=>⟨_,rfl⟩) tk)
    have:=EM (show x.length+1≤10001 by omega) c.2.1
    omega
   ·rw [ZY c] at e1;exact ZX e1 nb
 | _=>exact ZX e1 nb
theorem yX {y:θ} {j1:Nat} {p1:ϧ} (ha:LE X eo a) (base:Æ eo "split" X.env (eval eo X.env)=eval eo X.env) (line:(apos.endLine == cpos.line)=true):LE X (.Call (.Attribute eo "split" apos) [.Constant (.str y) j1 p1] [] cpos) (.sm (.spl y) a):=fun br z I nb=>by
 refine Ç base rfl line ā EL PySem.F.type_str_split ((ha true).go .refl I rfl nb fun z1 x u y1 x1 I1 r1 e1=>?_)
 cases x with
 | str x=>
   obtain ⟨t,rfl⟩:=(r1.rb.cr0 I1:RD X.W z1.ρ z1.G (.str x) u)
   refine ⟨Č _ _ _,(fun _ e=>nomatch e),?_⟩
   show Ε _ _ (Eh _ _ _ [(false,eval (.Constant (.str y) j1 p1) X.env)] []) _ _ _
   refine Ϩ rfl (ϻ (Τ (Ϲ (ϋ ?_))))
   have e1:X.ev br (.sm (.spl y) a) z.t=Out.of z1.t (if x.length≤60000∧y.length=1 then some (.lst ((Ï x y).map .str)) else none):=e1
   by_cases c:x.length≤60000∧y.length=1
   ·rw [ZZ c] at e1
    have h1:=StrLaws.occ_length_le x y 0 x.length (x.length+1)
    have sl:(65536:Nat)≤ϙ:=by rw [ï];decide
    refine aV I1.toHR.tk1 (uq (by rw [c.2];rfl) (by omega) (by rw [D0];omega) fun l k hl tk=>Dn.at x1 I1 e1 ?_ tk)
    have hz:(EG l).length≤ϙ:=by
     have e2:(EG l).length=(Ï x y).length:=by rw [← hl,ο];exact (hJ (W:=X.W) (ρ:=z1.ρ) (G:=z1.G) l).len ▸ by rw [ο,ο]
     have e3:(Ï x y).length≤x.length+2:=by
      unfold Ï
      split
      ·simp
      ·split
       ·simp
       ·rw [D0];omega
     omega
    have d:Dw X z1 (.lst ((Ï x y).map .str)) (.ref z1.s.heap.objs.size) { z1.s with heap:=z1.s.heap.push { cls:=.type "list",data:=.seq (EG l).toArray },toks:=k }:=.lstn (hl ▸ hJ l) hz
    exact d.dn I1
   ·rw [ZY c] at e1;exact ZX e1 nb
 | _=>exact ZX e1 nb
theorem yN (ha:LE X eo a) (base:Æ eo "isdigit" X.env (eval eo X.env)=eval eo X.env) (line:(apos.endLine == cpos.line)=true):LE X (.Call (.Attribute eo "isdigit" apos) [] [] cpos) (.sm .dig a):=fun br z I nb=>by
 refine Ç base rfl line ā El PySem.F.type_str_isdigit ((ha true).go .refl I rfl nb fun z1 x u y1 x1 I1 r1 e1=>?_)
 cases x with
 | str x=>
   obtain ⟨t,rfl⟩:=(r1.rb.cr0 I1:RD X.W z1.ρ z1.G (.str x) u)
   refine ⟨Č _ _ _,(fun _ e=>nomatch e),?_⟩
   refine Ϩ rfl (ů ?_)
   exact call_gives El (Č _ _ _) PySem.F.entry_str_isdigit (PySem.F.args_str_isdigit_1 _) (gives_str_isdigit x t) (Dn.at x1 I1 e1 (.old I1 .refl rfl))
 | _=>exact ZX e1 nb
theorem yY {y:θ} {j1:Nat} {p1:ϧ} (ha:LE X eo a) (base:Æ eo "startswith" X.env (eval eo X.env)=eval eo X.env) (line:(apos.endLine == cpos.line)=true):LE X (.Call (.Attribute eo "startswith" apos) [.Constant (.str y) j1 p1] [] cpos) (.sm (.sta y) a):=fun br z I nb=>by
 refine Ç base rfl line ā D9 PySem.F.type_str_startswith ((ha true).go .refl I rfl nb fun z1 x u y1 x1 I1 r1 e1=>?_)
 cases x with
 | str x=>
   obtain ⟨t,rfl⟩:=(r1.rb.cr0 I1:RD X.W z1.ρ z1.G (.str x) u)
   refine ⟨Č _ _ _,(fun _ e=>nomatch e),?_⟩
   show Ε _ _ (Eh _ _ _ [(false,eval (.Constant (.str y) j1 p1) X.env)] []) _ _ _
   refine Ϩ rfl (ϻ (Τ (Ϲ (ϋ ?_))))
   exact call_gives D9 (Č _ _ _) PySem.F.entry_str_startswith (PySem.F.args_str_startswith_2 _ _) (gives_str_startswith x y _ _) (Dn.at x1 I1 e1 (.old I1 .tok rfl))
 | _=>exact ZX e1 nb
theorem vE {y:θ} {j1:Nat} {p1 pos:ϧ} (ha:LE X eo a):LE X (.BinOp (.Constant (.str y) j1 p1) .Mult eo pos) (.sm (.mulc y) a):=fun br z I nb=>by
 have g:Gr z.s { z.s with toks:=z.s.toks+1 }:=.tok
 refine GH (Ϲ ((ha true).go (z:=z) (z1:={ z with s:={ z.s with toks:=z.s.toks+1 } }) (aq I.gh g).ee (I.grow (aq I.gh g)) rfl nb fun z2 x v y2 x2 I2 r2 e2=>?_))
 cases x with
 | int n=>
   obtain ⟨t,rfl⟩:=(r2.rb.cr0 I2:RD X.W z2.ρ z2.G (.int n) v)
   have e2:X.ev br (.sm (.mulc y) a) z.t=Out.of z2.t (if -1000000≤n∧n≤10000∧y.length≤10 then some (.str (ĸ y n)) else none):=e2
   by_cases c:-1000000≤n∧n≤10000∧y.length≤10
   ·rw [ZZ c] at e2
    refine aV I2.tk (SB.mul ⟨by simp;omega,fun h1 _=>?_,fun h1 _=>?_⟩ fun t' k tk=>Dn.at x2 I2 e2 (.tok fun _ _ _=>⟨_,rfl⟩) tk)
    ·have:(10:Int)≤(2 ^ 63 - 1) / n:=(Fo (by omega)).mpr (by omega)
     omega
    ·have e3:y.length * n.toNat≤10 * 10000:=EM c.2.2 (by omega)
     unfold Ez
     rw [ï]
     exact ZV (by omega)
   ·rw [ZY c] at e2;exact ZX e2 nb
 | _=>exact ZX e2 nb
theorem rD (k:θ):∀ ss:List θ,ET (.str k) (ss.map PyData.str)=((ss.countP (· == k):Nat):Int)
 | []=>rfl
 | x :: r=>by
   rw [Ė,ET,rD k r,List.countP_cons]
   simp only [PySem.Spec.same]
   rcases Bool.eq_false_or_eq_true (x == k) with hb | hb <;> simp only [hb,Ā,if_true,if_false] <;> push_cast <;> omega
theorem rL {k:SM} {a b:E} {br:Bool} {t:Sta}:X.ev br (.sm k (.tup (.cons a (.cons b .nil)))) t=(X.ev false a t).bind fun x s=>(X.ev false b s).bind fun y s=>Out.of s (smO k (.tup [x,y])):=by
 show (((X.ev false a t).bind fun x s=>((X.ev false b s).bind fun y s=>Out.ok [y] s).bind fun r s=>Out.ok (x :: r) s).bind fun l s=>if l.length≤100000 then Out.ok (D.tup l) s else .bad).bind (fun x s=>Out.of s (smO k x))=_
 cases X.ev false a t with
 | ok x s=>
   show ((((X.ev false b s).bind fun y s=>Out.ok [y] s).bind fun r s=>Out.ok (x :: r) s).bind fun l s=>if l.length≤100000 then Out.ok (D.tup l) s else .bad).bind (fun x s=>Out.of s (smO k x))=(X.ev false b s).bind fun y s=>Out.of s (smO k (.tup [x,y]))
   cases X.ev false b s <;> rfl
 | _=>rfl
theorem rM {k:SM} {c b:E} {br:Bool} {t:Sta}:X.ev br (.sm k (.tup (.cons (.lst c) (.cons b .nil)))) t=(X.ev false (.lst c) t).bind fun x s=>match x with | .lst l=>(X.ev false b s).bind fun y s=>Out.of s (smO k (.tup [.lst l,y])) | _=>.bad:=by
 refine rL.trans ?_
 show ((evs X.Γ X.cal X.cal1 false c t).bind fun l s=>if l.length≤100000 then Out.ok (D.lst l) s else .bad).bind _=((evs X.Γ X.cal X.cal1 false c t).bind fun l s=>if l.length≤100000 then Out.ok (D.lst l) s else .bad).bind _
 cases evs X.Γ X.cal X.cal1 false c t with
 | ok l s=>
   show (if l.length≤100000 then Out.ok (D.lst l) s else .bad).bind _=(if l.length≤100000 then Out.ok (D.lst l) s else .bad).bind _
   by_cases h:l.length≤100000
   ·rw [ZZ h];rfl
   ·rw [ZY h];rfl
 | _=>rfl
theorem yM (ha:LE X eo (.lst c)) (hb:LE X eb b) (m:M1 X eo "count" apos eb cpos):LE X (.Call (.Attribute eo "count" apos) [eb] [] cpos) (.sm .cnt (.tup (.cons (.lst c) (.cons b .nil)))):=fun br z I nb=>
 Ç m.base m.few m.line ß PySem.F.slot_list_count PySem.F.type_list_count ((ha false).go .refl I rM nb fun z1 x u y1 x1 I1 r1 e1=>by
  cases x with
  | lst l=>
    obtain ⟨ad,o,vs,rfl,ho,⟨⟨n,rfl⟩,hz⟩,w⟩:=(r1.rd:RD X.W z1.ρ z1.G (.lst l) u)
    refine ⟨⟨_,I1.gh _ _ ho,rfl⟩,fun b q=>(by cases q;exact ⟨_,I1.gh _ _ ho,rfl⟩),?_⟩
    rw [m.trees]
    refine Ϩ rfl (ϻ (Τ ((hb false).go x1 I1 e1 nb fun z2 y v y2 x2 I2 r2 e2=>ϋ (cB x2 I2 e2 nb fun d q=>?_))))
    cases y with
    | str k=>
      obtain ⟨t,rfl⟩:=(r2.rd:RD X.W z2.ρ z2.G (.str k) v)
      obtain ⟨ss,q1,rfl⟩:=Α.mp (show (eg l).map (fun ss=>D.int (ss.countP (· == k):Nat))=some d from q)
      have sa:=lR q1 (w.mono y2.st.pr y2.st.gg)
      have e9:=rD k ss
      refine count_list_strs (show z2.s.heap.IsList ad vs.toArray from ⟨_,I2.gh _ _ (y2.st.gg _ _ ho),rfl,n,rfl⟩) sa ?_
      rw [e9]
      exact .tok fun _ _ _=>⟨_,rfl⟩
    | _=>cases q
  | _=>exact ZX e1 nb)
theorem ly {W:Wd} {ρ:Rs} {G:Hp} {d:D} {v:η} (h:RD W ρ G d v):∀ n:Nat,RDs W ρ G (μ n d) (μ n v)
 | 0=>rfl
 | n+1=>.cons h (ly h n)
theorem wA {α:Type} (a:α):∀ n:Nat,(μ n [a]).flatten=μ n a
 | 0=>rfl
 | n+1=>by rw [Ϯ,List.flatten_cons,wA a n,Ϯ];rfl
theorem pD (a:η):∀ (n:Nat) (b:Array η),Ib (fun x1 x2=>x1 ++ x2) b (μ n #[a])=b ++ (μ n a).toArray
 | 0,b=>by simp
 | n+1,b=>by rw [Ϯ,þ,pD a n,Ϯ];apply HW;simp
theorem oX (hl:LE X el l) (ha:LE X ea a):LE X (.BinOp el .Mult ea pos) (.sm .mull (.tup (.cons l (.cons a .nil)))):=fun br z I nb=>
 GH ((hl false).go .refl I rL nb fun z1 x u y1 x1 I1 r1 e1=>by
  refine (ha false).go x1 I1 e1 nb fun z2 y v y2 x2 I2 r2 e2=>cB x2 I2 e2 nb fun d q=>?_
  cases x with
  | lst ls=>
    obtain ⟨ad,o,vs,rfl,ho,⟨⟨n,rfl⟩,hz⟩,w⟩:=(r1.rd:RD X.W z1.ρ z1.G (.lst ls) u)
    cases y with
    | int k=>
      obtain ⟨t,rfl⟩:=(r2.rd:RD X.W z2.ρ z2.G (.int k) v)
      obtain ⟨c,rfl⟩:=az (show (if -1000000≤k∧k≤10000∧ls.length=1 then some (D.lst (μ k.toNat ls).flatten) else none)=some d from q)
      obtain ⟨d0,rfl⟩:=List.length_eq_one_iff.mp c.2.2
      have w2:=w.mono y2.st.pr y2.st.gg
      obtain ⟨v0,vr,rfl,rd0,h0⟩:=w2
      have h0:vr = []:=h0
      subst h0
      have hl:=I2.gh _ _ (y2.st.gg _ _ ho)
      have sl:(65536:Nat)≤ϙ:=by rw [ï];decide
      refine wpAny_binaryOp_repeat_ref (T:="list") (U:="int") (by decide) ⟨_,hl,rfl⟩ (fun s'=>typeIs_int s' k t) noFill_list_mul PySem.F.fills_int_mul EV repeat_list PySem.F.slot_int_index.lookup
       (Ĝ EV (typeIs_int z2.s k t) PySem.F.entry_int_rmul (PySem.F.args_int_rmul_2 _ _) (int___rmul___int_list k t ad _ n)
        ⟨hl,rfl,⟨_,hl,rfl⟩,Ĝ PySem.F.slot_list_mul ⟨_,hl,rfl⟩ PySem.F.entry_list_mul (PySem.F.args_list_mul_2 _ _)
         (AutoListH.list___mul___list_int_3 ad _ n k t (by simp [Ig];omega) (by simp;omega) (by simp [Ž,ϙ];omega))
         ⟨hl,?_⟩⟩)
      have e9:Ib (fun x1 x2=>x1 ++ x2) #[] (μ (if ([v0].toArray).isEmpty=true then 0 else k.toNat) [v0].toArray)=(μ k.toNat v0).toArray:=by
       rw [ZY (by simp)]
       have:=pD v0 k.toNat #[]
       simpa using this
      rw [e9,wA]
      have dw:Dw X z2 (.lst (μ k.toNat d0)) (.ref z2.s.heap.objs.size) { z2.s with heap:=z2.s.heap.push { cls:=.type "list",data:=.seq (μ k.toNat v0).toArray },toks:=z2.s.toks }:=.lstn (ly rd0 _) (by rw [Ϛ];omega)
      exact dw.dn I2
    | _=>cases q
  | str ys=>
    obtain ⟨t0,rfl⟩:=(r1.rd:RD X.W z1.ρ z1.G (.str ys) u)
    cases y with
    | int k=>
      obtain ⟨t,rfl⟩:=(r2.rd:RD X.W z2.ρ z2.G (.int k) v)
      obtain ⟨c,rfl⟩:=az (show (if -1000000≤k∧k≤10000∧ys.length≤10 then some (D.str (ĸ ys k)) else none)=some d from q)
      refine SB.mul ⟨by simp;omega,fun h1 _=>?_,fun h1 _=>?_⟩ fun t' k=>.tok fun _ _ _=>⟨_,rfl⟩
      ·have:(10:Int)≤(2 ^ 63 - 1) / k:=(Fo (by omega)).mpr (by omega)
       omega
      ·have e3:ys.length * k.toNat≤10 * 10000:=EM c.2.2 (by omega)
       unfold Ez
       rw [ï]
       exact ZV (by omega)
    | _=>cases q
  | _=>cases q)
theorem Rep.stwe {s':τ} {n:Nat} {o':O} {p:Δ×Δ} {e:Δ} (I:Rep X z) (ep:z.ρ[n]? = some p) (he:e=p.1∨e=p.2) (sb:∀ b,b≠e→s'.heap.get? b=z.h b) (r:ObR X.W z.ρ z.G s'.heap.get? p o') (os:s'.os=z.s.os) (gs:s'.gens=z.s.gens) (tk:X.tz≤s'.toks) :
 Rep X { z with t:=⟨z.t.env,z.t.ow,z.t.st.set n o'⟩,s:=s' }∧Ee X z { z with t:=⟨z.t.env,z.t.ow,z.t.st.set n o'⟩,s:=s' }:=by
 have mu:Mu z.ρ e:=⟨p,Ι ep,he⟩
 obtain ⟨I',g'⟩:=I.stw ep he sb r os gs tk
 have k:∀ b o,z.h b=some o→¬ Mu z.ρ b→s'.heap.get? b=some o:=fun b o w q=>(sb b fun z=>q (z ▸ mu)).trans w
 exact ⟨I',⟨ξ _,.refl _,fun _ _ w=>.inl w,fun _ m=>.inl m,g'.st.th,fun b o w q _ _=>k b o w q,fun b o w q _ _=>⟨o.slots,k b o w q⟩⟩,rfl,rfl,fun _ m=>m⟩
theorem yW (ha:LE X eo a) (base:Æ eo "pop" X.env (eval eo X.env)=eval eo X.env) (line:(apos.endLine == cpos.line)=true):LE X (.Call (.Attribute eo "pop" apos) [] [] cpos) (.pop a):=fun br z I nb=>by
 refine Ç base rfl line ß EU PySem.F.type_list_pop ((ha true).go .refl I rfl nb fun z1 x u y1 x1 I1 r1 e1=>?_)
 cases x with
 | ref n=>
   obtain ⟨p,ep,rfl⟩:=(r1.rb.cr0 I1:RD X.W z1.ρ z1.G (.ref n) u)
   have e1:X.ev br (.pop a) z.t=(match z1.t.st[n]? with
    | some (.lst l)=>(match l.getLast? with | some d=>.ok d ⟨z1.t.env,z1.t.ow,z1.t.st.set n (.lst l.dropLast)⟩ | none=>.bad)
    | _=>.bad):=e1
   cases q:z1.t.st[n]? with
   | none=>rw [q] at e1;exact ZX e1 nb
   | some ob=>
     rw [q] at e1
     cases ob with
     | lst l=>
       dsimp only at e1
       cases q2:l.getLast? with
       | none=>rw [q2] at e1;exact ZX e1 nb
       | some d=>
         rw [q2] at e1
         obtain ⟨o,vs,hp2,ho,⟨⟨k,rfl⟩,hz⟩,rl⟩:=I1.ob n _ p q ep
         refine ⟨⟨_,ho,rfl⟩,fun b q=>(by cases q;exact ⟨_,ho,rfl⟩),?_⟩
         refine Ϩ rfl (ů ?_)
         have hl:l[l.length - 1]? = some d:=by rw [← List.getLast?_eq_getElem?];exact q2
         obtain ⟨v,hv,rv⟩:=rl.get hl
         have len:=rl.len
         have pos:l.length - 1<l.length:=(ν.mp hl).1
         have hv':vs.toArray[vs.toArray.size - 1]? = some v:=by simp only [Μ,List.getElem?_toArray];rw [← len];exact hv
         refine Ĝ EU ⟨_,ho,rfl⟩ PySem.F.entry_list_pop (PySem.F.args_list_pop_1 _) (Hu p.1 vs.toArray k v hv' (by rw [Μ];exact hz)) ⟨ho,?_⟩
         have hf:(vs.toArray.eraseIdxIfInBounds (vs.toArray.size - 1))=vs.dropLast.toArray:=by
          have:vs.toArray.size - 1<vs.toArray.size:=by simp;omega
          simp only [Array.eraseIdxIfInBounds,this,dite_true]
          apply HW
          rw [Array.toList_eraseIdx]
          simp only [Μ]
          rw [List.eraseIdx_eq_take_drop_succ,Ŗ,F8 (by omega),Ν]
         obtain ⟨⟨o1,u1,u3⟩,u2⟩:=dN (f:=fun xs=>xs.eraseIdxIfInBounds (vs.toArray.size - 1)) (ws:=vs.dropLast) ho hf (by rw [ŝ];omega)
         obtain ⟨I3,g3⟩:=I1.stwe (s':={ z1.s with heap:=z1.s.heap.update p.1 (à fun xs=>xs.eraseIdxIfInBounds (vs.toArray.size - 1)) }) (o':=.lst l.dropLast) ep (.inl rfl) u2 ⟨o1,vs.dropLast,hp2,u1,u3,by rw [Ŗ,Ŗ,← len];exact rl.take _⟩ rfl rfl I1.tk
         exact ⟨_,d,rfl,e1,x1.trans g3,I3,.of rv⟩
     | _=>exact ZX e1 nb
 | _=>exact ZX e1 nb
end
section
variable {X:Cx} {z z1:Z} {tg:Ξ}
theorem zb (hc:X.calm=true) (hx:Blt X "reversed" (.type "reversed")) (ha:LE X ea a) (he:Ο [ea] X.env=(false,eval ea X.env) :: Ο [] X.env):LI X tg (.Call (.Name "reversed" p) [ea] [] pos) (.it .rev (.cons a .nil)):=fun z I nb=>
 aR (Q:=fun v s1=>Ε X.M X.A (EH v) (FI X z tg (X.ev false (.it .rev (.cons a .nil)) z.t)) NoE s1) (.inr ⟨_,rfl⟩) hx he rfl I (Τ ((ha false).go .refl I (ev1 fun l s=>Out.of s ((itD .rev l).map D.lst)) nb fun z1 x u y1 x1 I1 r1 e1=>ϋ (by
  cases x with
  | lst l=>
    obtain ⟨a0,o,vs,rfl,g,⟨⟨n,rfl⟩,hz⟩,r⟩:=r1.rd
    have gl:z1.s.heap.IsList a0 vs.toArray:=⟨_,I1.gh _ _ g,rfl,n,rfl⟩
    have ne:=oQ I1 g
    refine Hc gl ?_
    have gi:(z1.s.heap.push (revObj a0 ((vs.toArray.size:Int) - 1))).IsRevIter z1.s.heap.objs.size a0 ((vs.toArray.size:Int) - 1):=⟨_,Λ _ rfl,rfl,rfl⟩
    refine GG gi (gL (ds:=l.reverse) (wr:=[z1.s.heap.objs.size]) x1 I1 (.push (t:=z1.s.toks)) (Itr.walks (I1.hd hc) (by simp [r.len]) (fun A hA=>GY hA _ a0 ne vs.toArray) (fun i h st b hb=>by rw [ι.mp hb];obtain ⟨_,⟨o,e,_⟩,_⟩:=st;exact ⟨o,e⟩) (fun st q=>let ⟨_,⟨o,e,c,d⟩,_⟩:=st;iU e c d (by decide) q) fun i v d p1 p2 ρ' G' h1 h2=>?_) ⟨À _,by simpa using gi,gl.at fun o e=>Κ _ e⟩ (fun b hb=>?_) e1)
    ·obtain ⟨v',w1,w2⟩:=(r.rev.mono h1 h2).get p2
     have w1:vs.reverse[i]? = some v':=w1
     have hi:i<vs.length:=by have:=(ν.mp w1).1;simpa using this
     rw [List.getElem?_reverse hi] at w1
     have p1:vs[vs.length - 1 - i]? = some v:=by simpa using p1
     rw [p1] at w1;cases w1;exact w2
    ·rcases φ.mp hb with w | w
     ·rw [w];exact .inl ⟨aH z1,_,Λ _ rfl⟩
     ·rw [ι.mp w];exact .inr ⟨fun m=>ne (ι.mp m),_,g⟩
  | _=>exact ZX e1 nb)))
theorem vR (ho:LE X eo a) (he:LE X e c) (m:M1 X eo "extend" apos e cpos):LS X (.Expr (.Call (.Attribute eo "extend" apos) [e] [] cpos) pos) (.fext a c):=fun z I nb=>by
 have e0:X.ex (.fext a c) z.t=(X.ev true a z.t).go fun x s=>if gb s.st x=true then (X.ev false c s).go fun d s=>exO x d s else .bad:=rfl
 refine Ŵ (Ç m.base m.few m.line ß Em PySem.F.type_list_extend ((ho true).gos .refl I e0 nb fun z1 x u y1 x1 I1 r1 e1=>?_)) I.quiet rfl
 by_cases c0:gb z1.t.st x=true
 ·rw [ZZ c0] at e1
  obtain ⟨n,l,rfl,en⟩:=oN c0
  obtain ⟨p,ep,rfl⟩:=fM I1 r1.rb
  obtain ⟨o,vs,_,ho,⟨⟨k,rfl⟩,_⟩,_⟩:=I1.ob n _ p en ep
  refine ⟨⟨_,ho,rfl⟩,fun b q=>(by cases q;exact ⟨_,ho,rfl⟩),?_⟩
  rw [m.trees]
  refine Ϩ rfl (ϻ (Τ ((he false).gos x1 I1 e1 nb fun z2 d w y2 x2 I2 r2 e2=>ϋ ?_)))
  have e2:X.ex (.fext a c) z.t=exO (.ref n) d z2.t:=e2
  unfold exO at e2
  dsimp only at e2
  cases q:z2.t.st[n]? with
  | none=>rw [q] at e2;exact ZX e2 nb
  | some ob=>
    rw [q] at e2
    cases ob with
    | lst l2=>
      cases d with
      | lst xs=>
        dsimp only at e2
        by_cases c2:l2.length+xs.length≤100000
        ·rw [ZZ c2] at e2
         have ep2:=eV y2.st.pr ep
         obtain ⟨o,vs,hp2,ho,⟨⟨k,rfl⟩,_⟩,rl⟩:=I2.ob n _ p q ep2
         obtain ⟨b,o,us,rfl,g,⟨⟨n2,rfl⟩,hz2⟩,rx⟩:=r2.rd
         have l1:=rl.len
         have l3:=rx.len
         have hz:vs.toArray.size+us.toArray.size≤ϙ:=by simp only [Μ];exact big (by omega)
         refine Ĝ Em ⟨_,ho,rfl⟩ PySem.F.entry_list_extend (PySem.F.args_list_extend_2 _ _) (AutoSeq1.list_extend_list_list_0 p.1 vs.toArray k b us.toArray n2 ?_ (by omega) (by omega)) ⟨ho,I2.gh _ _ g,?_⟩
         ·rw [show Ž (vs.toArray.size+us.toArray.size)=false from ZV (Nat.not_lt.mpr hz),EB];exact fun h=>nomatch h
         obtain ⟨⟨o1,u1,u3⟩,u2⟩:=dN (f:=(· ++ us.toArray)) (ws:=vs ++ us) ho (by simp) (by rw [ζ];simpa using hz)
         obtain ⟨I3,g3⟩:=I2.stw (s':={ z2.s with heap:=z2.s.heap.update p.1 (à (· ++ us.toArray)) }) (o':=.lst (l2 ++ xs)) ep2 (.inl rfl) u2 ⟨o1,vs ++ us,hp2,u1,u3,rl.app rx⟩ rfl rfl
         exact nxt (x2.trans g3) I3 e2
        ·rw [ZY c2] at e2;exact ZX e2 nb
      | _=>exact ZX e2 nb
    | _=>cases d <;> exact ZX e2 nb
 ·rw [ZY c0] at e1;exact ZX e1 nb
def xO (X:Cx):Prop:=∀ (c:Nat) (k:Cl) (ic:CI),X.Γ.cl[c]? = some k→X.W.ci[c]? = some ic→X.W.what[c]? = some 2→Ω X.K ic.ad (.type "ValueError")=some (k.sup.contains 1000)
theorem vB {an:Nat→θ} (T:bQ X an) (hx:Blt X "isinstance" (.builtin "isinstance")) (ht:Blt X "ValueError" (.type "ValueError")) (V:xO X) (ha:LE X ea a) (he:Ο [ea,.Name "ValueError" q] X.env=(false,eval ea X.env) :: Ο [.Name "ValueError" q] X.env):LE X (.Call (.Name "isinstance" p) [ea,.Name "ValueError" q] [] pos) (.isXv a):=fun br z I nb=>by
 exact aR (.inl ⟨_,rfl⟩) hx he rfl I (Τ ((ha true).go .refl I rfl nb fun z1 x u y1 x1 I1 r1 e1=>Τ (ht.ld I1 (ϋ (cB x1 I1 e1 nb fun d q=>by
  have cr:=r1.rb.cr0 I1
  cases x with
  | ins c l=>
    obtain ⟨a,i,vs,rfl,hc,hl,w,rs⟩:=(cr:RD X.W z1.ρ z1.G (.ins c l) u)
    have q:(if fX X.Γ c=true then (X.Γ.cl[c]?).map fun k=>D.bl (k.sup.contains 1000) else none)=some d:=q
    split at q
    ·rename_i hw
     obtain ⟨k,i',e1,ok,w2⟩:=j5 T hw
     have e3:=ok.ci
     rw [hc] at e3;cases e3
     rw [e1] at q
     cases q
     have wc:=ok.wh
     rw [w2] at wc
     have K1:kitOne X.K (.ref i.ad) (.type "ValueError")=some (k.sup.contains 1000):=by
      unfold kitOne
      rw [ZY (by simp)]
      exact V c k i e1 hc wc
     have J:∃ o od,InstAt z1.s.heap a o i.ad od:=by
      rcases w with ⟨w1,_⟩ | ⟨_,w⟩
      ·rw [wc] at w1;cases w1
      ·obtain ⟨o,vs,g1,g2,g3,g4⟩:=w.sub I1.gh
       rcases g4 with ⟨_,g5⟩ | ⟨d,od,g5,g6,g7⟩
       ·exact ⟨o,none,g1,g2,by unfold notCls;rw [g3],by rw [g5];trivial⟩
       ·exact ⟨o,some od,g1,g2,by unfold notCls;rw [g3],by rw [g5];exact g6⟩
     exact kia_one (iX (ok.xc w2).1) I1.toHR.kin J K1 (fun z=>nomatch z) fun tk=>.old I1 .tok rfl
    ·cases q
  | _=>cases q)))))
end
end L2.Ev
end
section
namespace L2.Ev
def c6 (nm:List (θ×Β)) (x:θ):Bool:=match nm.lookup x with
 | some .local=>true
 | some .cell=>true
 | some .free=>true
 | _=>false
def bB (nm:List (θ×Β)) (x:θ):Bool:=nm.lookup x == some .globalImplicit
def bc:Ξ→Bool
 | .Call (.Name id _) [] [] _=>id != "super"
 | _=>true
theorem ag (h:aE e=true):Ο (e :: es) env=(false,eval e env) :: Ο es env:=by
 cases e <;> first | rfl | cases h
theorem hH (h:aE e=true):jc e:=by
 cases e <;> first | (intro o i;rfl) | cases h
theorem d8 (h:aE e=true):Å op e=false:=by
 cases e <;> first | rfl | cases h
theorem iT (h:aE e=true):∀ x,ŋ e env x=pure x:=by
 cases e <;> first | (intro x;rfl) | cases h
theorem bM (h:∀ e∈es,aE e=true):(Ü pos (Ο es env)).any (·.1)=false:=by
 induction es with
 | nil=>rfl
 | cons e r ih=>
   rw [ag (h e κ)]
   have:=ih fun x hx=>h x (υ _ hx)
   show (false || (Ü pos (Ο r env)).any (·.1))=false
   rw [this];rfl
theorem bH {X:Cx} (hs:X.env.scope.names=nm) (h:c6 nm x=true):Vis X.env.scope x:=by
 unfold c6 at h
 unfold Vis
 rw [hs]
 split at h <;> first | (rename_i q;exact .inl q) | (rename_i q;exact .inr (.inl q)) | (rename_i q;exact .inr (.inr q)) | cases h
theorem ba (hs:X.env.scope.names=nm) (h:bB nm x=true):Gl X x:=by
 unfold bB at h
 show X.env.scope.names.lookup x=_
 rw [hs]
 simpa using h
structure Ns where
 gl:List θ
 tb:List θ
 fn:List θ
 at_:List θ
 bl:List θ
 rf:List θ:=[]
 me:List (θ×Nat×Nat):=[]
 ex:List θ:=[]
 nw:List θ:=[]
 mu:List θ:=[]
 nd:List θ:=[]
 hx:List θ:=[]
 hc:List θ:=[]
 xt:List θ:=[]
 kp:List θ:=[]
 alt:List (θ×Nat):=[]
 dn:List (θ×Nat×Nat):=[]
 fc:List θ:=[]
 oc:List θ:=[]
 e2:Bool:=false
 rl:List θ:=[]
 sn:List θ:=[]
 vx:Bool:=false
def Ns.an (T:Ns) (f:Nat):θ:=T.at_.getD f ""
abbrev Cx.to (X:Cx) (A:ϗ) (fr:List Ų) (N:List θ) (e:Ų) (cal cal1:Nat→List D→List O→Res):Cx:={ X with A:=A,fr:=fr,N:=N,env:=e,cal:=cal,cal1:=cal1 }
theorem HR.to {X:Cx} {A:ϗ} {fr:List Ų} {N1 N2:List θ} {e1 e2:Ų} {c1 c2 d1 d2:Nat→List D→List O→Res} (I:HR (X.to A fr N1 e1 c1 d1) z):HR (X.to A fr N2 e2 c2 d2) z:=⟨I.md,I.fm,I.hd,I.bs,I.gh,I.rl,I.rn,I.rg,I.ob,I.fu,I.ff,I.br,I.os,I.tk⟩
theorem FnC.to {X:Cx} {A:ϗ} {fr:List Ų} {N:List θ} {e:Ų} {c1 d1:Nat→List D→List O→Res} (h:FnC X cal lv j f fd ps dvs):FnC (X.to A fr N e c1 d1) cal lv j f fd ps dvs:=⟨h.len,fun A2 fr2 z args us ds r I b rd nb=>ü (h.run A2 fr2 z args us ds r (HR.to (X:=X) (N1:=N) (e1:=e) (c1:=c1) (d1:=d1) I) b rd nb) fun q s' hq=>by
 cases q with
 | error x=>obtain ⟨z',c,l,a1,a2,a3,a4,a5⟩:=hq;exact ⟨z',c,l,a1,a2,a3,HR.to (X:=X) a4,a5⟩
 | ok fl=>cases fl with
   | ret u=>obtain ⟨z',d,a1,a2,a3,a4,a5⟩:=hq;exact ⟨z',d,a1,a2,a3,HR.to (X:=X) a4,a5⟩
   | _=>exact hq.elim⟩
theorem bT.to {X:Cx} {A:ϗ} {fr:List Ų} {N:List θ} {e:Ų} {c1 d1:Nat→List D→List O→Res} (h:bT X cal lv j f):bT (X.to A fr N e c1 d1) cal lv j f:=let ⟨fd,ps,dvs,a,b,c⟩:=h;⟨fd,ps,dvs,a.to,b,c⟩
theorem FnI.to {X:Cx} {A:ϗ} {fr:List Ų} {N:List θ} {e:Ų} {c1 d1:Nat→List D→List O→Res} (h:FnI X lv f fd ps nm ck):FnI (X.to A fr N e c1 d1) lv f fd ps nm ck:=⟨h.len,fun A2 fr2 z args us p P ch r I b lu H hB hP hc=>h.run A2 fr2 z args us p P ch r (HR.to (X:=X) (N1:=N) (e1:=e) (c1:=c1) (d1:=d1) I) b lu ⟨H.ex,H.keep,H.set⟩ hB hP hc⟩
theorem FnJ.to {X:Cx} {A:ϗ} {fr:List Ų} {N:List θ} {e:Ų} {c1 d1:Nat→List D→List O→Res} (h:FnJ X lv f fd ps nm k C):FnJ (X.to A fr N e c1 d1) lv f fd ps nm k C:=let ⟨ck,a,b⟩:=h;⟨ck,a.to,b⟩
structure CxOk (T:Ns) (X:Cx) (nm:List (θ×Β)) (N:List θ):Prop where
 hN:X.N=N
 nd:N.Nodup
 sc:X.env.scope.names=nm
 kd:X.env.scope.kind = .function
 calm:X.calm=true
 fns:∀ (j:Nat) (x:θ),T.fn[j]? = some x→∃ k f,bT X X.cal k j f∧bv k X.A∧X.mg x=some (.ref f)
 gls:∀ (j:Nat) (x:θ),T.gl[j]? = some x→∃ d u,X.Γ.gl[j]? = some d∧X.mg x=some u∧aT X.K d u=true
 tbs:∀ (j:Nat) (x:θ),T.tb[j]? = some x→∃ t a,X.Γ.tb[j]? = some t∧X.mg x=some (.ref a)∧TbL X a t
 blt:∀ x∈T.bl,X.mg x=none
 cls:bQ X T.an
 mts:∀ q∈T.me,∃ k f,bT X X.cal k q.2.2 f∧bv k X.A∧pS X T.an q.1 q.2.1 f
 nws:∀ (j:Nat) (x:θ),T.nw[j]? = some x→x≠""→∃ n f i cl,bT X X.cal1 n cl.init f∧bv (n+1) X.A∧Mk X.K i.ad f∧X.Γ.cl[j]? = some cl∧cl.what=0∧X.W.ci[j]? = some i∧X.W.what[j]? = some 0∧X.mg x=some (.ref i.ad)
 nds:∀ (j:Nat) (x:θ),T.nd[j]? = some x→x≠""→∃ n f fd ps i cl,FnI X n f fd ps i.nm none∧b6 X.K fd ps []∧bv (n+1) X.A∧Mk X.K i.ad f∧Cls X.K i.ad∧(∀ f∈i.nm,dq X.K i.ad f)∧X.Γ.cl[j]? = some cl∧X.W.ci[j]? = some i∧X.W.what[j]? = some 1∧i.nm.length=cl.at_.length∧X.mg x=some (.ref i.ad)
 hxs:∀ (j:Nat) (x:θ),T.hx[j]? = some x→x≠""→pR X j x
 fr:bI X
 vxs:T.vx=true→xO X
abbrev GE (T:Ns) (nm:List (θ×Β)) (N:List θ) (e:Ξ):={c:E // ∀ X,CxOk T X nm N→LE X e c∧(ak c=true→LF X e c)}
abbrev GT (T:Ns) (nm:List (θ×Β)) (N:List θ) (e:Ξ):={c:E // ∀ X,CxOk T X nm N→LT X e c}
abbrev GW (T:Ns) (nm:List (θ×Β)) (N:List θ) (e:Ξ):={c:E // ∀ X,CxOk T X nm N→LW X e c}
abbrev GA (T:Ns) (nm:List (θ×Β)) (N:List θ) (es:List Ξ):={c:E // ∀ X,CxOk T X nm N→LA X es c}
abbrev GO (T:Ns) (nm:List (θ×Β)) (N:List θ) (e:Option Ξ):={c:E // ∀ X,CxOk T X nm N→LO X e c}
abbrev GI (T:Ns) (nm:List (θ×Β)) (N:List θ) (tg e:Ξ):={c:E // ∀ X,CxOk T X nm N→LI X tg e c}
abbrev av (T:Ns):=∀ nm N e,Option (GE T nm N e)
abbrev ir (T:Ns):=∀ nm N e,Option (GT T nm N e)
theorem mk (h:LE X e c) (n:ak c=false:=by rfl):LE X e c∧(ak c=true→LF X e c):=⟨h,fun q=>by rw [n] at q;cases q⟩
theorem mkf (h:LF X e c) (hb:∀ br,X.ev br c=X.ev false c:=by intro _;rfl):LE X e c∧(ak c=true→LF X e c):=⟨h.le hb,fun _=>h⟩
def yes (b:Bool):Option (PLift (b=true)):=match b with | true=>some ⟨rfl⟩ | false=>none
def no (b:Bool):Option (PLift (b=false)):=match b with | false=>some ⟨rfl⟩ | true=>none
def aK (x:θ):(l:List θ)→Option {i:Nat // l[i]? = some x}
 | []=>none
 | y :: r=>match h:y == x with
   | true=>some ⟨0,by rw [F1];congr;simpa using h⟩
   | false=>(aK x r).map fun i=>⟨i.1+1,by rw [ã];exact i.2⟩
def dnA (x:θ) (n:Nat) (l:List (θ×Nat×Nat)):List (θ×Nat):=match l.lookup x with
 | some q=>if n=q.1 then [(x,q.2)] else []
 | none=>[]
def Cv (x:θ) (al:List (θ×Nat)) (l:List θ):Option {i:Nat // l[i]? = some x}:=match al.lookup x with
 | some j=>(match h:l[j]? with
   | some y=>(match h2:y == x with
     | true=>some ⟨j,by rw [h];congr;simpa using h2⟩
     | false=>none)
   | none=>none)
 | none=>aK x l
def qA (x:θ):(l:List θ)→Option (PLift (x∈l))
 | []=>none
 | y :: r=>match h:y == x with
   | true=>some ⟨by have:y=x:=by simpa using h
                    rw [this];exact κ⟩
   | false=>(qA x r).map fun i=>⟨υ _ i.down⟩
section
variable {T:Ns} {nm:List (θ×Β)} {N:List θ}
def AK (T:Ns) (nm:List (θ×Β)) (N:List θ) (x:θ) (pos:ϧ):Option (GE T nm N (.Name x pos)):=do
 let hd ← no (x == ("__debug__":θ))
 let hc ← no (x == ("__classdict__":θ))
 match hl:c6 nm x with
 | true=>
   let i ← aK x N
   some ⟨.v i.1,fun X k=>mk (vH (by rw [k.hN];exact i.2) (bH k.sc hl) hd.down hc.down)⟩
 | false=>
   let hg ← yes (bB nm x)
   let j ← aK x T.gl
   some ⟨.g j.1,fun X k=>by
    obtain ⟨d,u,h1,h2,h3⟩:=k.gls j.1 x j.2
    exact mk (Dg (ba k.sc hg.down) h2 hd.down h1 h3)⟩
def xY (T:Ns) (nm:List (θ×Β)) (N:List θ) (c:Const) (j:Nat) (pos:ϧ):Option (GE T nm N (.Constant c j pos)):=match c with
 | .none=>some ⟨.c .non,fun X k=>mk xi⟩
 | .bool b=>some ⟨.c (.bl b),fun X k=>mk A1⟩
 | .int i=>some ⟨.c (.int i),fun X k=>mk xh⟩
 | .str x=>some ⟨.c (.str x),fun X k=>mk xj⟩
 | _=>none
def opP (op:Fj):Option {o:Op // ∀ X:Cx,Op2 X (ľ op) (opD o)}:=match op with
 | .Add=>some ⟨.add,fun X=>zB⟩
 | .Sub=>some ⟨.sub,fun X=>zH⟩
 | .Mult=>some ⟨.mul,fun X=>zF⟩
 | .FloorDiv=>some ⟨.fdiv,fun X=>wu⟩
 | .Mod=>some ⟨.mod,fun X=>zE⟩
 | .Pow=>some ⟨.pow,fun X=>zG⟩
 | _=>none
def u6 (op:CmpOp):Option {o:Op // ∀ X:Cx,Op2 X (Ò op) (opD o)}:=match op with
 | .Eq=>some ⟨.eq,fun X=>B2⟩
 | .NotEq=>some ⟨.ne,fun X=>B7⟩
 | .Lt=>some ⟨.lt,fun X=>B6⟩
 | .LtE=>some ⟨.le,fun X=>B5⟩
 | .Gt=>some ⟨.gt,fun X=>B3⟩
 | .In=>some ⟨.isin,fun X=>B4⟩
 | _=>none
def cq (f:∀ e,Option (GE T nm N e)):(es:List Ξ)→Option (GA T nm N es)
 | []=>some ⟨.nil,fun _ _=>sK⟩
 | e :: r=>do
   let h ← yes (aE e)
   let a ← f e
   let b ← cq f r
   some ⟨.cons a.1 b.1,fun X k=>oW (a.2 X k).1 (b.2 X k) (ag h.down)⟩
def wY (f:∀ e,Option (GE T nm N e)) (pos:ϧ):(es:List Ξ)→Option {c:E // ∀ X,CxOk T X nm N→LE X (.BoolOp .And es pos) c}
 | []=>none
 | [a]=>(f a).map fun x=>⟨x.1,fun X k=>(x.2 X k).1⟩
 | a :: b :: r=>do
   let x ← f a
   let y ← wY f pos (b :: r)
   some ⟨.and x.1 y.1,fun X k=>yH (x.2 X k).1 (y.2 X k)⟩
def AQ (f:∀ e,Option (GE T nm N e)) (pos:ϧ):(es:List Ξ)→Option {c:E // ∀ X,CxOk T X nm N→LE X (.BoolOp .Or es pos) c}
 | []=>none
 | [a]=>(f a).map fun x=>⟨x.1,fun X k=>(x.2 X k).1⟩
 | a :: b :: r=>do
   let x ← f a
   let y ← AQ f pos (b :: r)
   some ⟨.or x.1 y.1,fun X k=>BP (x.2 X k).1 (y.2 X k)⟩
def wX (g:∀ e,Option (GT T nm N e)) (pos:ϧ):(es:List Ξ)→Option (GW T nm N (.BoolOp .And es pos))
 | []=>none
 | [a]=>(g a).map fun x=>⟨x.1,fun X k=>wa (x.2 X k)⟩
 | a :: b :: r=>do
   let x ← g a
   let y ← wX g pos (b :: r)
   some ⟨.tand x.1 y.1,fun X k=>zt (x.2 X k) (y.2 X k)⟩
def AP (g:∀ e,Option (GT T nm N e)) (pos:ϧ):(es:List Ξ)→Option (GW T nm N (.BoolOp .Or es pos))
 | []=>none
 | [a]=>(g a).map fun x=>⟨x.1,fun X k=>zu (x.2 X k)⟩
 | a :: b :: r=>do
   let x ← g a
   let y ← AP g pos (b :: r)
   some ⟨.tor x.1 y.1,fun X k=>BU (x.2 X k) (y.2 X k)⟩
def AO (f:∀ e,Option (GE T nm N e)):(o:Option Ξ)→Option (GO T nm N o)
 | none=>some ⟨.nil,fun X k=>vN⟩
 | some e=>do
   let a ← f e
   let h ← no (bD a.1)
   some ⟨a.1,fun X k=>vO h.down (a.2 X k).1⟩
end
end L2.Ev
end
section
namespace L2.Ev
open L2.Bw
theorem Draws.sh {prog:Î} {w:é} {A:ϗ} {it:Δ} {fp:List Δ} {n:Nat} {P:Nat→η→Prop} {St:Nat→Â→Prop} (D:Draws prog w A it fp n P St) (m:Nat):Draws prog w A it fp (m+n) (fun i v=>P (i - m) v) (fun i h=>m≤i∧St (i - m) h) where
 live:=fun i h st=>D.live _ h st.2
 frame:=fun i h h' st k=>⟨st.1,D.frame _ _ _ st.2 k⟩
 item:=fun i s Q E hi st hQ=>D.item (i - m) s Q E (by have:=st.1;omega) st.2 fun x h' tk p q sb=>hQ x h' tk p ⟨ϡ st.1,by rw [Nat.succ_sub st.1];exact q⟩ sb
 done:=fun s Q E st hE=>D.done s Q E (by have:=st.2;rwa [F7] at this) hE
theorem Hf.sh {prog:Î} {w:é} {A:ϗ} {it:Δ} {fp wr:List Δ} {n:Nat} {Pt:Nat→Array η→Prop} {St:Nat→Â→Prop} {Mid:Nat→Δ→Â→Prop} (m:Nat) (V:Hf prog w A it fp wr (m+n) Pt St Mid):Hf prog w A it fp wr n (fun i=>Pt (m+i)) (fun i=>St (m+i)) (fun i=>Mid (m+i)) where
 sub:=V.sub
 frame:=fun i=>V.frame (m+i)
 item:=fun i s Q E hi=>V.item (m+i) s Q E (Nat.add_lt_add_left hi m)
 go:=fun elts k pos i=>V.go elts k pos (m+i)
 apart:=fun i=>V.apart (m+i)
 done:=V.done
 self:=fun i=>V.self (m+i)
end L2.Ev
end
section
namespace L2.Ev
open L2.Bw
theorem pz:∀ {l bs vs},fR l=some bs→RDs W ρ G l vs→vs=bs.map Ϣ
 | [],bs,vs,e,r=>by cases e;cases (show vs = [] from r);rfl
 | d :: l,bs,vs,e,r=>by
   cases d with
   | bl b=>
     obtain ⟨cs,q,rfl⟩:=Α.mp (show (fR l).map (b :: ·)=some bs from e)
     obtain ⟨v,r',rfl,h,tl⟩:=r
     cases (show v=Ϣ b from h)
     rw [pz q tl];rfl
   | _=>cases e
theorem uN (bs:List Bool):((Ō bs.length).all fun i=>(bs[i]?).getD true)=bs.all id:=by
 rw [ě,Ψ,Ψ]
 constructor
 ·intro h b hb
  obtain ⟨i,hi,rfl⟩:=List.mem_iff_getElem.mp hb
  have:=h i (Eu.mpr hi)
  rw [Ζ hi] at this
  exact this
 ·intro h i hi
  have hi:=Eu.mp hi
  rw [Ζ hi]
  exact h _ (Ö hi)
section
variable {X:Cx} {z:Z}
theorem xR (hc:X.calm=true):Bi1 X (.builtin "all") .all:=fun z u x d I h e=>by
 cases x with
 | lst l=>
   obtain ⟨bs,q,rfl⟩:=Α.mp (show (fR l).map (fun bs=>D.bl (bs.all id))=some d from e)
   obtain ⟨a,o,vs,rfl,g,⟨⟨n,rfl⟩,hz⟩,r⟩:=h
   have hv:=pz q r
   have hi:z.s.heap.IsList a vs.toArray:=⟨_,g,rfl,n,rfl⟩
   have hlt:=ϟ g
   refine call_all_walk (E9 hi ?_)
   refine ⟨z.s.heap.objs.size,[z.s.heap.objs.size,a],[z.s.heap.objs.size],vs.toArray.size,_,_,fun i=>(bs[i]?).getD true,rfl,HH (A:=X.A.in1) (I.hd hc) _ a (ϲ hlt) vs.toArray,⟨⟨_,Λ _ rfl,rfl,rfl⟩,hi.push _⟩,fun i v s' Q' E' hP hQ=>?_,fun h' tk hk=>?_⟩
   ·have hP:vs[i]? = some v:=by simpa using hP
    rw [hv,ϑ,Α] at hP
    obtain ⟨b,e,rfl⟩:=hP
    simp only [e,Ż] at hQ
    exact Ϸ hQ
   ·have e:((Ō vs.toArray.size).all fun i=>(bs[i]?).getD true)=bs.all id:=by
     rw [Μ,hv,ο];exact uN bs
    rw [e]
    exact .flat (.hp fun b o e=>hk b o (fun hm=>by rw [ι.mp hm] at e;exact EY _ (ϟ e)) (Κ _ e)) fun G=>rfl
 | _=>cases e
end
end L2.Ev
end
section
namespace L2.Ev
def isP (x y:θ):Option (PLift (x=y)):=match h:x == y with
 | true=>some ⟨by simpa using h⟩
 | false=>none
theorem kD:ak (.bi b es)=ak (.bi b .nil):=by cases b <;> rfl
abbrev Am (x:θ) (b:Bi):Prop:=∀ X:Cx,X.calm=true→∃ f,FB f∧ý x=some f∧((Bi1 X f b∧ak (.bi b .nil)=false)∨xL X f b)
def CA:List {q:θ×Bi // Am q.1 q.2}:=[
 ⟨("len",.len),fun X c=>⟨_,.inl ⟨_,rfl⟩,boot_len,.inl ⟨xT,rfl⟩⟩⟩,
 ⟨("tuple",.tuple),fun X c=>⟨_,.inr ⟨_,rfl⟩,D5,.inl ⟨re,rfl⟩⟩⟩,
 ⟨("list",.list),fun X c=>⟨_,.inr ⟨_,rfl⟩,Ĩ,.inr uX⟩⟩,
 ⟨("all",.all),fun X c=>⟨_,.inl ⟨_,rfl⟩,boot_all,.inl ⟨xR c,rfl⟩⟩⟩,
 ⟨("str",.str),fun X c=>⟨_,.inr ⟨_,rfl⟩,DU,.inl ⟨xU,rfl⟩⟩⟩,
 ⟨("int",.int),fun X c=>⟨_,.inr ⟨_,rfl⟩,DV,.inl ⟨xS,rfl⟩⟩⟩]
abbrev Ao (x:θ) (b:Bi):Prop:=ak (.bi b .nil)=false∧∀ X:Cx,X.calm=true→∃ f,FB f∧ý x=some f∧Bi2 X f b
def CB:List {q:θ×Bi // Ao q.1 q.2}:=[]
def uV {P:θ→Bi→Prop} (x:θ):List {q:θ×Bi // P q.1 q.2}→Option {b:Bi // P x b}
 | []=>none
 | q :: r=>match isP q.1.1 x with
   | some h=>some ⟨q.1.2,by rw [← h.down];exact q.2⟩
   | none=>uV x r
abbrev Au (x:θ) (b:Bi):Prop:=(b = .isTup∨b = .isStr∨b = .isBool∨b = .isInt∨b = .isLst∨b = .isDic)∧ý x=some (.type (tyN b))
def tys:List {q:θ×Bi // Au q.1 q.2}:=[⟨("tuple",.isTup),.inl rfl,D5⟩,⟨("str",.isStr),.inr (.inl rfl),DU⟩,⟨("bool",.isBool),.inr (.inr (.inl rfl)),Ia⟩,⟨("int",.isInt),.inr (.inr (.inr (.inl rfl))),DV⟩,⟨("list",.isLst),.inr (.inr (.inr (.inr (.inl rfl)))),Ĩ⟩]
section
variable {T:Ns} {nm:List (θ×Β)} {N:List θ}
def gD (T:Ns) (nm:List (θ×Β)) (x:θ):Option (PLift (x∈T.bl∧bB nm x=true)):=do
 let m ← qA x T.bl
 let g ← yes (bB nm x)
 some ⟨m.down,g.down⟩
theorem bz (k:CxOk T X nm N) (h:x∈T.bl∧bB nm x=true) (hv:ý x=some u) (hn:x≠"__name__":=by decide) (hd:(x == ("__debug__":θ))=false:=by decide):Blt X x u:=⟨ba k.sc h.2,k.blt x h.1,hv,hn,hd⟩
def CF (f:∀ e,Option (GE T nm N e)) (x:θ) (p:ϧ) (hx:x≠"__name__") (hd:(x == ("__debug__":θ))=false) (m:x∈T.bl∧bB nm x=true):(es:List Ξ)→(pos:ϧ)→Option (GE T nm N (.Call (.Name x p) es [] pos))
 | [e],pos=>do
   let he ← yes (aE e)
   let a ← f e
   let b ← uV x CA
   some ⟨.bi b.1 (.cons a.1 .nil),fun X k=>by
    obtain ⟨fv,h1,h2,h3⟩:=b.2 X k.calm
    rcases h3 with ⟨h3,h4⟩ | h3
    ·exact mk (yJ h3 h1 (bz k m h2 hx hd) (a.2 X k).1 (ag he.down)) (kD.trans h4)
    ·exact mkf (y9 h3 h1 (bz k m h2 hx hd) (a.2 X k).1 (ag he.down))⟩
 | [e,g],pos=>do
   let he ← yes (aE e)
   let hg ← yes (aE g)
   let a ← f e
   let c ← f g
   let b ← uV x CB
   some ⟨.bi b.1 (.cons a.1 (.cons c.1 .nil)),fun X k=>by
    obtain ⟨fv,h1,h2,h3⟩:=b.2.2 X k.calm
    exact mk (yK h3 h1 (bz k m h2 hx hd) (a.2 X k).1 (c.2 X k).1 (ag he.down) (ag hg.down)) (kD.trans b.2.1)⟩
 | _,_=>none
def wZ (f:∀ e,Option (GE T nm N e)) (x:θ) (p:ϧ) (e:Ξ) (er:List Ξ) (pos:ϧ):Option (GE T nm N (.Call (.Name x p) (e :: er) [] pos)):=do
 let hd ← no (x == ("__debug__":θ))
 let hnm ← no (x == ("__name__":θ))
 let hg ← yes (bB nm x)
 match Cv x (dnA x (er.length+1) T.dn ++ T.alt) T.fn with
 | some j=>
   let hn ← yes (er.all aE)
   let he ← yes (aE e)
   let a ← cq f (e :: er)
   some (if T.hc.contains x then ⟨.hcall j.1 a.1,fun X k=>by
    obtain ⟨n,fa,h1,h2,h3⟩:=k.fns j.1 x j.2
    exact mk (sR h1 h2 (ba k.sc hg.down) h3 (a.2 X k) hd.down (ag he.down) (bM (Ψ.mp hn.down)))⟩ else ⟨.call j.1 a.1,fun X k=>by
    obtain ⟨n,fa,h1,h2,h3⟩:=k.fns j.1 x j.2
    exact mk (vz h1 h2 (ba k.sc hg.down) h3 (a.2 X k) hd.down (ag he.down) (bM (Ψ.mp hn.down)))⟩)
 | none=>
   let m ← qA x T.bl
   CF f x p (by simpa using hnm.down) hd.down ⟨m.down,hg.down⟩ (e :: er) pos
def cIs (f:∀ e,Option (GE T nm N e)) (y:θ) (p:ϧ) (ea:Ξ) (x:θ) (q pos:ϧ):Option (GE T nm N (.Call (.Name y p) [ea,.Name x q] [] pos)):=do
 let hy ← isP "isinstance" y
 let g1 ← gD T nm "isinstance"
 let g2 ← gD T nm x
 let b ← uV (P:=Au) x tys
 let hd ← no (x == ("__debug__":θ))
 let hnm ← no (x == ("__name__":θ))
 let he ← yes (aE ea)
 let a ← f ea
 some ⟨.bi b.1 (.cons a.1 .nil),fun X k=>by
  obtain rfl:=hy.down
  exact mk (BL b.2.1 (bz k g1.down Ĉ) (bz k g2.down b.2.2 (by simpa using hnm.down) hd.down) (a.2 X k).1 (ag he.down)) (by rcases b.2.1 with w | w | w | w | w | w <;> rw [w] <;> rfl)⟩
def CT (f:∀ e,Option (GE T nm N e)) (y:θ) (p:ϧ) (ea:Ξ) (x:θ) (q pos:ϧ):Option (GE T nm N (.Call (.Name y p) [ea,.Name x q] [] pos)):=do
 let hy ← isP "isinstance" y
 let g1 ← gD T nm "isinstance"
 let j ← aK x T.hx
 let hz ← no (x == ("":θ))
 let hd ← no (x == ("__debug__":θ))
 let hg ← yes (bB nm x)
 let he ← yes (aE ea)
 let a ← f ea
 some ⟨.isX a.1 [j.1],fun X k=>by
  obtain rfl:=hy.down
  exact mk (yQ k.cls (bz k g1.down Ĉ) (k.hxs j.1 x j.2 (by simpa using hz.down)) (ba k.sc hg.down) hd.down (a.2 X k).1 (ag he.down))⟩
def CS (f:∀ e,Option (GE T nm N e)) (y:θ) (p:ϧ) (ea:Ξ) (x1 x2 x3:θ) (q1 q2 q3:ϧ) (k:Nat) (q pos:ϧ):Option (GE T nm N (.Call (.Name y p) [ea,.Tuple [.Name x1 q1,.Name x2 q2,.Name x3 q3] k q] [] pos)):=none
def CY (f:∀ e,Option (GE T nm N e)) (x y:θ) (p1 p2:ϧ) (ea:Ξ) (pos2 pos:ϧ):Option (GE T nm N (.Call (.Name x p1) [.Call (.Name y p2) [ea] [] pos2] [] pos)):=do
 let hx ← isP "list" x
 let hy ← isP "reversed" y
 let g1 ← gD T nm "list"
 let g2 ← gD T nm "reversed"
 let he ← yes (aE ea)
 let a ← f ea
 some ⟨.bi .rev (.cons a.1 .nil),fun X k=>by
  obtain rfl:=hx.down
  obtain rfl:=hy.down
  exact mkf (za k.calm (bz k g1.down Ĩ) (bz k g2.down boot_reversed) (a.2 X k).1 (ag he.down) rfl)⟩
def iN (f:∀ e,Option (GE T nm N e)) (tg e:Ξ):Option (GI T nm N tg e):=(f e).map fun a=>⟨.itv a.1,fun X k=>Di k.calm (a.2 X k).1⟩
def cR1 (f:∀ e,Option (GE T nm N e)) (tg:Ξ) (x:θ) (p:ϧ) (a:Ξ) (pos:ϧ):Option (GI T nm N tg (.Call (.Name x p) [a] [] pos)):=do
 let hx ← isP "range" x
 let g ← gD T nm "range"
 let he ← yes (aE a)
 let u ← f a
 some ⟨.it .range1 (.cons u.1 .nil),fun X k=>by
  obtain rfl:=hx.down
  exact qv k.calm (bz k g.down boot_range) (u.2 X k).1 (ag he.down)⟩
def cRw (f:∀ e,Option (GE T nm N e)) (tg:Ξ) (x:θ) (p:ϧ) (a:Ξ) (pos:ϧ):Option (GI T nm N tg (.Call (.Name x p) [a] [] pos)):=do
 let hx ← isP "reversed" x
 let g ← gD T nm "reversed"
 let he ← yes (aE a)
 let u ← f a
 some ⟨.it .rev (.cons u.1 .nil),fun X k=>by
  obtain rfl:=hx.down
  exact zb k.calm (bz k g.down HZ) (u.2 X k).1 (ag he.down)⟩
def cR2 (f:∀ e,Option (GE T nm N e)) (tg:Ξ) (x:θ) (p:ϧ) (a b:Ξ) (pos:ϧ):Option (GI T nm N tg (.Call (.Name x p) [a,b] [] pos)):=none
def cE1 (f:∀ e,Option (GE T nm N e)) (ts:List Ξ) (n:Nat) (tp:ϧ) (x:θ) (p:ϧ) (a:Ξ) (pos:ϧ):Option (GI T nm N (.Tuple ts n tp) (.Call (.Name x p) [a] [] pos)):=do
 let hx ← isP "enumerate" x
 let g ← gD T nm "enumerate"
 let he ← yes (aE a)
 let u ← f a
 some ⟨.it .enum (.cons u.1 .nil),fun X k=>by
  obtain rfl:=hx.down
  exact vM k.calm (bz k g.down boot_enumerate) (u.2 X k).1 (ag he.down)⟩
def cE2 (f:∀ e,Option (GE T nm N e)) (ts:List Ξ) (n:Nat) (tp:ϧ) (x y:θ) (p:ϧ) (a b:Ξ) (kp pos:ϧ):Option (GI T nm N (.Tuple ts n tp) (.Call (.Name x p) [a] [⟨some y,b,kp⟩] pos)):=none
def cZ2 (f:∀ e,Option (GE T nm N e)) (ts:List Ξ) (n:Nat) (tp:ϧ) (x:θ) (p:ϧ) (a b:Ξ) (pos:ϧ):Option (GI T nm N (.Tuple ts n tp) (.Call (.Name x p) [a,b] [] pos)):=none
def cZ3 (f:∀ e,Option (GE T nm N e)) (ts:List Ξ) (n:Nat) (tp:ϧ) (x:θ) (p:ϧ) (a b c:Ξ) (pos:ϧ):Option (GI T nm N (.Tuple ts n tp) (.Call (.Name x p) [a,b,c] [] pos)):=none
def xd (f:∀ e,Option (GE T nm N e)):(tg e:Ξ)→Option (GI T nm N tg e)
 | .Tuple ts n tp,.Call (.Name x p) [a] [] pos=>(cE1 f ts n tp x p a pos).orElse fun _=>iN f _ _
 | .Tuple ts n tp,.Call (.Name x p) [a] [⟨some y,b,kp⟩] pos=>cE2 f ts n tp x y p a b kp pos
 | .Tuple ts n tp,.Call (.Name x p) [a,b] [] pos=>(cZ2 f ts n tp x p a b pos).orElse fun _=>iN f _ _
 | .Tuple ts n tp,.Call (.Name x p) [a,b,c] [] pos=>(cZ3 f ts n tp x p a b c pos).orElse fun _=>iN f _ _
 | tg,.Call (.Name x p) [a] [] pos=>((cR1 f tg x p a pos).orElse fun _=>cRw f tg x p a pos).orElse fun _=>iN f _ _
 | tg,.Call (.Name x p) [a,b] [] pos=>(cR2 f tg x p a b pos).orElse fun _=>iN f _ _
 | tg,e=>iN f tg e
theorem aw (h:bc e=true):Æ e x env m=m:=by
 unfold Æ
 split
 ·have h':(_ != ("super":θ))=true:=h
  rw [ZZ (by rw [h'];rfl)]
 ·rfl
theorem uu (h:∀ e∈es,aE e=true):((Ü pos (Ο es env)).all fun x=>!x.1)=true:=by
 have:=bM (env:=env) (pos:=pos) h
 rw [List.all_eq_not_any_not]
 simpa using this
theorem tJ (h1:bc o=true) (h2:∀ x∈es,aE x=true) (h3:es.length<30) (h4:(apos.endLine == pos.line)=true):eval (.Call (.Attribute o m apos) es [] pos) env=(do
 let ov ← eval o env
 Eb apos.atName
 let (f,first) ← holding [ov] (EJ ov m (do return (← importBound o env).getD true))
 Eh pos f first (Ü pos (Ο es env)) (Ŷ pos (ġ [] env))):=by
 have e0:eval (.Call (.Attribute o m apos) es [] pos) env=(do
  let ov ← Æ o m env (eval o env)
  Eb apos.atName
  methodCall o m apos pos env ov (es.length+([]:List Eo).length) (Ü pos (Ο es env)) (Ŷ pos (ġ [] env))):=rfl
 rw [e0,aw h1]
 have few:methodCallForm (es.length+([]:List Eo).length) (Ü pos (Ο es env)) (Ŷ pos (ġ [] env))=true:=by
  unfold methodCallForm
  rw [uu h2]
  simp only [ŭ]
  show (true && decide (_<30))=true
  simp only [ŭ]
  apply ZW
  exact h3
 congr 1
 funext ov
 congr 1
 funext _
 unfold methodCall
 simp only [few]
 have e1:methodCallPos true o env apos pos=pure pos:=by unfold methodCallPos;rw [h4];rfl
 simp only [e1]
 rfl
def zv (m:θ):(l:List (θ×Nat×Nat))→Option {q:Nat×Nat // (m,q.1,q.2)∈l}
 | []=>none
 | (y,c,j) :: r=>match isP y m with
   | some h=>some ⟨(c,j),by obtain rfl:=h.down;exact κ⟩
   | none=>(zv m r).map fun i=>⟨i.1,υ _ i.2⟩
def CV (f:∀ e,Option (GE T nm N e)) (o:Ξ) (m:θ) (ap:ϧ):(args:List Ξ)→(pos:ϧ)→Option (GE T nm N (.Call (.Attribute o m ap) args [] pos))
 | [],pos=>do
   let q ← zv m T.me
   let hs ← yes (bc o)
   let hp ← yes (ap.endLine == pos.line)
   let a ← f o
   some ⟨.mth q.1.1 q.1.2 a.1 .nil,fun X k=>by
    obtain ⟨n,fa,h1,h2,h3⟩:=k.mts _ q.2
    exact mk (vD h1 h2 h3 (a.2 X k).1 (tJ hs.down (fun x hx=>nomatch hx) (by decide) hp.down))⟩
 | e :: er,pos=>do
   let q ← zv m T.me
   let hs ← yes (bc o)
   let hp ← yes (ap.endLine == pos.line)
   let hn ← yes ((e :: er).all aE)
   let hl ← yes (decide ((e :: er).length<30))
   let a ← f o
   let b ← cq f (e :: er)
   some ⟨.mth q.1.1 q.1.2 a.1 b.1,fun X k=>by
    obtain ⟨n,fa,h1,h2,h3⟩:=k.mts _ q.2
    have hn':=Ψ.mp hn.down
    exact mk (yS h1 h2 h3 (a.2 X k).1 (b.2 X k) (ag (hn' e κ)) (bM fun x hx=>hn' x (υ _ hx)) (tJ hs.down hn' (by simpa using hl.down) hp.down))⟩
def CO (f:∀ e,Option (GE T nm N e)) (o:Ξ) (m:θ) (ap:ϧ):(args:List Ξ)→(pos:ϧ)→Option (GE T nm N (.Call (.Attribute o m ap) args [] pos)):=fun _ _=>none
def AZ (f:∀ e,Option (GE T nm N e)) (m:θ) (ap:ϧ):(o:Ξ)→(args:List Ξ)→(pos:ϧ)→Option (GE T nm N (.Call (.Attribute o m ap) args [] pos)):=fun _ _ _=>none
def x9 (f:∀ e,Option (GE T nm N e)) (x:θ) (j:Nat) (p:ϧ) (m:θ) (ap:ϧ):(args:List Ξ)→(pos:ϧ)→Option (GE T nm N (.Call (.Attribute (.Constant (.str x) j p) m ap) args [] pos)):=fun _ _=>none
def CN (f:∀ e,Option (GE T nm N e)) (x:θ) (j1:Nat) (p1:ϧ) (e:Ξ) (p2:ϧ) (y:θ) (j2:Nat) (p3 pos:ϧ):Option (GE T nm N (.JoinedStr [.Constant (.str x) j1 p1,.FormattedValue e (-1) none p2,.Constant (.str y) j2 p3] pos)):=none
def C0 (f:∀ e,Option (GE T nm N e)) (a:Ξ) (lo:Option Ξ) (st:Ξ) (p2 pos:ϧ):Option (GE T nm N (.Subscript a (.Slice lo none (some st) p2) pos)):=none
def AM (f:∀ e,Option (GE T nm N e)) (x:θ) (p:ϧ):(args:List Ξ)→(pos:ϧ)→Option (GE T nm N (.Call (.Name x p) args [] pos))
 | [],pos=>do
   let j ← aK x T.nw
   let hz ← no (x == ("":θ))
   let hd ← no (x == ("__debug__":θ))
   let hg ← yes (bB nm x)
   some ⟨.new j.1 .nil,fun X k=>by
    obtain ⟨n,fa,i,cl,h1,h4,h5,h6,h7,h8,h9,h10⟩:=k.nws j.1 x j.2 (by simpa using hz.down)
    exact mk (vF h1 h4 h5 h6 h7 h8 h9 (ba k.sc hg.down) h10 hd.down)⟩
 | e :: er,pos=>do
   let j ← aK x T.nw
   let hz ← no (x == ("":θ))
   let hd ← no (x == ("__debug__":θ))
   let hg ← yes (bB nm x)
   let hn ← yes ((e :: er).all aE)
   let a ← cq f (e :: er)
   some ⟨.new j.1 a.1,fun X k=>by
    obtain ⟨n,fa,i,cl,h1,h4,h5,h6,h7,h8,h9,h10⟩:=k.nws j.1 x j.2 (by simpa using hz.down)
    have hn':=Ψ.mp hn.down
    exact mk (yU h1 h4 h5 h6 h7 h8 h9 (ba k.sc hg.down) h10 (a.2 X k) hd.down (ag (hn' e κ)) (bM fun y hy=>hn' y (υ _ hy)))⟩
def AN (f:∀ e,Option (GE T nm N e)) (x:θ) (p:ϧ):(args:List Ξ)→(pos:ϧ)→Option (GE T nm N (.Call (.Name x p) args [] pos)):=fun _ _=>none
def ry (f:∀ e,Option (GE T nm N e)):(e:Ξ)→Option (GE T nm N e)
 | .List es pos=>(cq f es).map fun x=>⟨.newl x.1,fun X k=>mk (jD (x.2 X k))⟩
 | e=>(f e).map fun a=>match h:ak a.1 with
   | true=>⟨.sto a.1,fun X k=>mk (mV ((a.2 X k).2 h))⟩
   | false=>a
def AD (f:∀ e,Option (GE T nm N e)):(e:Ξ)→Option (GE T nm N e)
 | .Tuple es n pos=>(cq (ry f) es).map fun x=>⟨.tup x.1,fun X k=>mk (mW (x.2 X k))⟩
 | e=>ry f e
def snA (T:Ns) (N:List θ):List Ξ→Option Nat
 | []=>none
 | .Name x _ :: r=>if T.rl.contains x then (aK x N).map (·.1) else snA T N r
 | _ :: r=>snA T N r
def snW {e:Ξ} (i:Nat) (a:GE T nm N e):GE T nm N e:=match h:ak a.1 with
 | true=>⟨.snap i a.1,fun X k=>⟨(gq ((a.2 X k).2 h) h).le fun _=>rfl,fun _=>gq ((a.2 X k).2 h) h⟩⟩
 | false=>⟨.snap i a.1,fun X k=>⟨vG (a.2 X k).1 h,fun q=>by rw [show ak (.snap i a.1)=ak a.1 from rfl,h] at q;cases q⟩⟩
def xX (f:∀ e,Option (GE T nm N e)) (x:θ) (p:ϧ) (e:Ξ) (er:List Ξ) (pos:ϧ):Option (GE T nm N (.Call (.Name x p) (e :: er) [] pos)):=do
 let a ← (match qA x T.mu with
  | some _=>wZ (AD f) x p e er pos
  | none=>wZ f x p e er pos)
 match qA x T.sn,snA T N (e :: er) with
 | some _,some i=>some (snW i a)
 | _,_=>some a
end
section
variable {T:Ns} {nm:List (θ×Β)} {N:List θ}
def AE (f:∀ e,Option (GE T nm N e)) (keys:List (Option Ξ)) (vals:List Ξ) (pos:ϧ):Option (GE T nm N (.Dict keys vals pos)):=none
end
def fF (fn:Bool) (nm:List (θ×Β)) (x:θ):Bool:=nm.lookup x == some .local || (fn && nm.lookup x == some .cell)
structure TgH (nm:List (θ×Β)) (N:List θ) (X:Cx):Prop where
 calm:X.calm=true
 hN:X.N=N
 nd:N.Nodup
 sc:X.env.scope.names=nm
theorem cX {fn:Bool} (h:TgH nm N X) (hl:fF fn nm x=true):Loc X.env.scope x:=by
 have l1:nm.lookup x=some .local∨(fn=true∧nm.lookup x=some .cell):=by
  unfold fF at hl
  simpa using hl
 show X.env.scope.names.lookup x=_∨X.env.scope.names.lookup x=_
 rw [h.sc]
 exact l1.imp id DX
def Pl (nm:List (θ×Β)) (N:List θ) (t:List Nat):Prop:=∀ i∈t,∀ x,N[i]? = some x→nm.lookup x=some .local
theorem tY {nm:List (θ×Β)} {N:List θ} {i:Nat} {x:θ} (hi:N[i]? = some x) (hl:fF false nm x=true):∀ y,N[i]? = some y→nm.lookup y=some .local:=fun y e=>by
 rw [hi] at e;cases e
 unfold fF at hl
 simpa using hl
structure At (fn:Bool) (nm:List (θ×Β)) (N:List θ) (es:List Ξ) (t:List Nat):Prop where
 len:∀ env,(ĝ es env).length=t.length
 fst:∀ env,(ĝ es env).findIdx? (·.1)=none
 as_:∀ X,TgH nm N X→As X ((ĝ es X.env).map (·.2)) t
 pl:fn=false→Pl nm N t
def Ae (fn:Bool) (nm:List (θ×Β)) (N:List θ):(es:List Ξ)→Option {t:List Nat // At fn nm N es t}
 | []=>some ⟨[],fun _=>rfl,fun _=>rfl,fun X h=>trivial,fun _ i m=>nomatch m⟩
 | .Name x p :: r=>do
   let i ← aK x N
   let hl ← yes (fF fn nm x)
   let t ← Ae fn nm N r
   some ⟨i.1 :: t.1,fun env=>ZS (· + 1) (t.2.len env),fun env=>by
    show List.findIdx? _ ((false,assign (.Name x p) env) :: ĝ r env)=none
    rw [List.findIdx?_cons,t.2.fst env];rfl,fun X h=>⟨⟨x,by rw [h.hN];exact i.2,cX h hl.down,fun q=>Ŋ q⟩,t.2.as_ X h⟩,fun hf j m y e=>by
    rcases φ.mp m with w | w
    ·rw [w] at e;exact tY i.2 (hf ▸ hl.down) y e
    ·exact t.2.pl hf j w y e⟩
 | _=>none
def tgP (fn:Bool) (nm:List (θ×Β)) (N:List θ):(tg:Ξ)→Option {q:List Nat×Bool // (∀ X,TgH nm N X→LG X tg q.1 q.2)∧(fn=false→Pl nm N q.1)}
 | .Name x p=>do
   let i ← aK x N
   let hl ← yes (fF fn nm x)
   some ⟨([i.1],true),fun X h=>vL (by rw [h.hN];exact h.nd) (by rw [h.hN];exact i.2) (cX h hl.down),fun hf j m y e=>by rw [ι.mp m] at e;exact tY i.2 (hf ▸ hl.down) y e⟩
 | .Tuple es k p=>do
   let t ← Ae fn nm N es
   some ⟨(t.1,false),fun X h=>sY h.calm (by rw [h.hN];exact h.nd) (t.2.as_ X h) (t.2.len _) (t.2.fst _),t.2.pl⟩
 | _=>none
def fh:Ξ→List θ
 | .Name x _=>[x]
 | .Tuple es _ _=>es.filterMap fun e=>match e with | .Name x _=>some x | _=>none
 | _=>[]
def fW (nm:List (θ×Β)) (sc:Ą):List (θ×Β):=sc.names.map fun y=>if (y.2 == .free && nm.lookup y.1 == some .cell)=true then (y.1,.cell) else (y.1,y.2)
def zA (nm:List (θ×Β)) (p:θ×θ):Bool:=match nm.lookup p.1 with
 | some .local=>false
 | some .cell=>p.1 == p.2
 | some .free=>p.1 == p.2
 | _=>true
def ndB:List θ→Bool
 | []=>true
 | x :: r=>!r.contains x && ndB r
theorem xB:∀ {l},ndB l=true→l.Nodup
 | [],_=>List.nodup_nil
 | x :: r,h=>by
   have h':r.contains x=false∧ndB r=true:=by simpa [ndB] using h
   refine ϫ.mpr ⟨fun m=>?_,xB h'.2⟩
   have:r.contains x=true:=by simpa using m
   rw [h'.1] at this
   cases this
def kF (own:List θ) (N:List θ):List θ:=own ++ N.map fun y=>if own.contains y then ⟨y.cps.push (1200000+N.length)⟩ else y
def lcB (nm:List (θ×Β)) (N N':List θ) (sc:Ą) (k:Nat):Bool:=
 (sc.names.all fun y=>y.2 != .cell) && sc.kind == .function && (sc.names.all fun y=>y.2 != .local || sc.names.lookup y.1 == some .local) &&
 (sc.names.all fun y=>y.2 != .free || (nm.lookup y.1 == some .cell || nm.lookup y.1 == some .free)) && N'.length == k+N.length && ((N'.drop k).zip N).all (zA (fW nm sc)) && ndB N'
section
variable {T:Ns} {nm:List (θ×Β)} {N N':List θ} {X:Cx} {sc:Ą}
theorem eX (k:CxOk T X nm N):(relabel sc X.env).names=fW nm sc:=by
 unfold relabel fW
 dsimp only
 congr 1
 funext y
 rw [k.kd,show X.env.kindOf y.1=nm.lookup y.1 by rw [← k.sc];rfl]
 simp
theorem BK (k:CxOk T X nm N) (h:lcB nm N N' sc n=true):Lcn X sc n N'∧N'.Nodup:=by
 unfold lcB at h
 simp only [Θ] at h
 obtain ⟨⟨⟨⟨⟨⟨h1,h2⟩,h3⟩,h4⟩,h5⟩,h6⟩,h7⟩:=h
 have kk:∀ x,X.env.kindOf x=nm.lookup x:=fun x=>by rw [← k.sc];rfl
 refine ⟨BJ h1 (by simpa using h2) h3 (by simp only [kk];exact h4) (by rw [k.hN];simpa using h5) ?_,xB h7⟩
 rw [k.hN]
 have e:i5 sc X.env=zA (fW nm sc):=by
  funext p
  unfold i5 zA
  rw [eX k]
  all_goals rfl
 rw [e]
 exact h6
theorem cE.cx (h:cE X an c k i):cE (cxC X N' sc C) an c k i:=⟨h.ci,h.cls,h.na,h.wh,h.nm,h.nd,h.xc⟩
theorem CxOk.inner (k:CxOk T X nm N) (L:Lcn X sc n N') (nd:N'.Nodup) :CxOk T (cxC X N' sc C) (fW nm sc) N' where
 hN:=rfl
 nd:=nd
 sc:=eX k
 kd:=L.kind
 calm:=k.calm
 fns:=fun j x h=>let ⟨n,f,h1,h2,h3⟩:=k.fns j x h;⟨n,f,bT.to (X:=X) h1,h2,h3⟩
 gls:=k.gls
 tbs:=k.tbs
 blt:=k.blt
 cls:=fun c cl h=>let ⟨i,h1⟩:=k.cls c cl h;⟨i,h1.cx⟩
 mts:=fun q h=>let ⟨n,f,h1,h2,⟨i,cl,a,b,c⟩⟩:=k.mts q h;⟨n,f,bT.to (X:=X) h1,h2,⟨i,cl,a,b.cx,c⟩⟩
 nws:=fun j x h hz=>let ⟨n,f,i,cl,h1,h2⟩:=k.nws j x h hz;⟨n,f,i,cl,bT.to (X:=X) h1,h2⟩
 nds:=fun j x h hz=>let ⟨n,f,fd,ps,i,cl,h1,h2⟩:=k.nds j x h hz;⟨n,f,fd,ps,i,cl,FnI.to (X:=X) h1,h2⟩
 hxs:=k.hxs
 fr:=⟨k.fr.fr,k.fr.frame⟩
 vxs:=k.vxs
def CQ (g:∀ e,Option (GT T nm N e)):(ifs:List Ξ)→Option {c:E // ∀ X,CxOk T X nm N→LTs X ifs c}
 | []=>some ⟨.c (.bl true),fun X k=>v8⟩
 | [c]=>(g c).map fun x=>⟨x.1,fun X k=>v9 (x.2 X k)⟩
 | _=>none
def AI (f:av T) (g:ir T) (nm:List (θ×Β)) (N:List θ) (ee tg iter:Ξ) (ifs:List Ξ) (sc:Ą):Option {q:(List Nat×Bool)×E×E×E // ∀ X,CxOk T X nm N→LcP X (kF (fh tg) N) ee tg iter ifs sc q.1.1 q.1.2 q.2.1 q.2.2.1 q.2.2.2}:=do
 let it ← xd (f nm N) tg iter
 let q ← tgP false (fW nm sc) (kF (fh tg) N) tg
 let h0 ← yes (q.1.1.all fun i=>decide (i<q.1.1.length))
 let hl ← yes (lcB nm N (kF (fh tg) N) sc q.1.1.length)
 let c ← CQ (g (fW nm sc) (kF (fh tg) N)) ifs
 let e ← f (fW nm sc) (kF (fh tg) N) ee
 let hn ← yes (aE iter)
 some ⟨(q.1,it.1,e.1,c.1),fun X k=>by
  obtain ⟨L,nd⟩:=BK k hl.down
  exact ⟨k.calm,k.fr,L,it.2 X k,fun C=>q.2.1 (cxC X _ sc C) ⟨k.calm,rfl,nd,eX k⟩,fun i m x e=>by rw [eX k];exact q.2.2 rfl i m x e,fun C=>c.2 _ (k.inner L nd),fun C=>(e.2 _ (k.inner L nd)).1,iT hn.down⟩⟩
def cLC (f:av T) (g:ir T) (nm:List (θ×Β)) (N:List θ) (ee tg iter:Ξ) (ifs:List Ξ) (sc:Ą) (pos:ϧ):Option (GE T nm N (.ListComp ee [⟨tg,iter,ifs,0⟩] sc pos)):=
 (AI f g nm N ee tg iter ifs sc).map fun q=>⟨.lc q.1.1.1 q.1.1.2 q.1.2.1 q.1.2.2.1 q.1.2.2.2,fun X k=>mkf (kP (q.2 X k))⟩
end
theorem nX (h:(match e with | .Compare ..=>false | .BoolOp ..=>false | .UnaryOp ..=>false | .IfExp ..=>false | .NamedExpr ..=>false | _=>true)=true):Fe e env whole=(do let v ← whole;Eb e.pos;holding [v] (truthy v)):=by
 cases e <;> first | rfl | cases h
section
variable {T:Ns}
theorem tC {X:Cx} {o p:Op} (ho:Op2 X (Ò op) (opD o)) (hp:Op2 X (Ò op') (opD p)) (ha:LE X ea a) (hb:LE X eb b) (hc:LE X ec c) (hm:HE [op,op'] [eb,ec]=false):LT X (.Compare ea [op,op'] [eb,ec] pos) (.chain o p a b c):=fun z I nb=>
 isTrue_chain ((ha true).go .refl I (ai ..) nb fun z1 x u y1 x1 I1 r1 e1=>test_link ((hb true).go x1 I1 (e1.trans (ai ..)) nb fun z2 y v y2 x2 I2 r2 e2=>by
  cases q:opD o (look z2.t.st x) (look z2.t.st y) with
  | none=>rw [q] at e2;exact ZX e2 nb
  | some d=>
    rw [q] at e2
    refine Η (ό I2.tk (ho z2 u v _ _ d I2 ((r1.rb.st y2 I2).cr I2) (r2.rb.cr I2) q)) (fun w s' ⟨tk,k⟩=>?_) fun _ _ z=>z.2.elim
    cases d with
    | bl t=>
      cases (show w=Ϣ t from k.2)
      have g:=cn I2.gh k.1
      refine Ϸ ?_
      cases t with
      | false=>exact ite_ff ⟨z2.up s',false,rfl,e2,x2.trans g.ee,I2.grow g,rfl⟩
      | true=>exact ite_tt (test_last ((hc true).go (x2.trans g.ee) (I2.grow g) (e2.trans (ai ..)) nb fun z4 w' v' y4 x4 I4 r4 e4=>by
        cases q4:opD p (look z4.t.st y) (look z4.t.st w') with
        | none=>rw [q4] at e4;exact ZX e4 nb
        | some d4=>rw [q4] at e4;exact Η (ό I4.tk (hp z4 v v' _ _ d4 I4 (((r2.rb.st g.ee (I2.grow g)).st y4 I4).cr I4) (r4.rb.cr I4) q4)) (fun c s' k=>k.2.tru x4 I4 e4 nb k.1) fun _ _ z=>z.2.elim))
    | _=>exact ZX e2 nb)) hm
abbrev GC (T:Ns) (nm:List (θ×Β)) (N:List θ) (e:Ξ):={c:E // ∀ X,CxOk T X nm N→(LE X e c∧ak c=false)∧LT X e c}
def u4 (f:av T) (nm:List (θ×Β)) (N:List θ) (a:Ξ) (op:CmpOp) (b:Ξ) (pos:ϧ):Option (GC T nm N (.Compare a [op] [b] pos)):=do
 let o ← u6 op
 let hb ← yes (aE b)
 let x ← f nm N a
 let y ← f nm N b
 some ⟨.op o.1 x.1 y.1,fun X k=>⟨⟨yL (o.2 X) (x.2 X k).1 (y.2 X k).1 (d8 hb.down),rfl⟩,zm (o.2 X) (x.2 X k).1 (y.2 X k).1 (d8 hb.down)⟩⟩
def yb (f:av T) (nm:List (θ×Β)) (N:List θ) (a:Ξ) (x:θ) (p pos:ϧ):Option (GC T nm N (.Compare a [.In] [.Name x p] pos)):=do
 let hd ← no (x == ("__debug__":θ))
 let hg ← yes (bB nm x)
 let j ← aK x T.tb
 let y ← f nm N a
 some ⟨.tabin j.1 y.1,fun X k=>by
  obtain ⟨t,ad,h1,h2,h3⟩:=k.tbs j.1 x j.2
  exact ⟨⟨sT (ba k.sc hg.down) h2 h1 h3 (y.2 X k).1 hd.down rfl,rfl⟩,tD (ba k.sc hg.down) h2 h1 h3 (y.2 X k).1 hd.down rfl⟩⟩
def yc (f:av T) (nm:List (θ×Β)) (N:List θ) (a:Ξ) (x:θ) (p pos:ϧ):Option (GC T nm N (.Compare a [.NotIn] [.Name x p] pos)):=do
 let hd ← no (x == ("__debug__":θ))
 let hg ← yes (bB nm x)
 let j ← aK x T.tb
 let y ← f nm N a
 some ⟨.not (.tabin j.1 y.1),fun X k=>by
  obtain ⟨t,ad,h1,h2,h3⟩:=k.tbs j.1 x j.2
  exact ⟨⟨sU (ba k.sc hg.down) h2 h1 h3 (y.2 X k).1 hd.down rfl,rfl⟩,tF (ba k.sc hg.down) h2 h1 h3 (y.2 X k).1 hd.down rfl⟩⟩
def CK (f:av T) (nm:List (θ×Β)) (N:List θ) (a:Ξ) (b:Ξ) (pos:ϧ):Option (GC T nm N (.Compare a [.Eq] [b] pos)):=none
def w7 (f:av T) (nm:List (θ×Β)) (N:List θ):(a:Ξ)→(ops:List CmpOp)→(bs:List Ξ)→(pos:ϧ)→Option (GC T nm N (.Compare a ops bs pos))
 | a,[.Is],[.Constant .none j p],pos=>(f nm N a).map fun x=>⟨.isN x.1,fun X k=>⟨⟨yP (x.2 X k).1 rfl,rfl⟩,zo (x.2 X k).1 rfl⟩⟩
 | a,[.IsNot],[.Constant .none j p],pos=>(f nm N a).map fun x=>⟨.isNN x.1,fun X k=>⟨⟨vA (x.2 X k).1 rfl,rfl⟩,v7 (x.2 X k).1 rfl⟩⟩
 | a,[.NotIn],[.Name x p],pos=>(yc f nm N a x p pos).orElse fun _=>u4 f nm N a .NotIn (.Name x p) pos
 | a,[.In],[.Name x p],pos=>(yb f nm N a x p pos).orElse fun _=>u4 f nm N a .In (.Name x p) pos
 | a,[.Eq],[.Tuple es k p],pos=>(CK f nm N a (.Tuple es k p) pos).orElse fun _=>u4 f nm N a .Eq (.Tuple es k p) pos
 | a,[op],[b],pos=>u4 f nm N a op b pos
 | a,[op,op'],[b,c],pos=>do
   let o ← u6 op
   let o' ← u6 op'
   let h ← no (HE [op,op'] [b,c])
   let x ← f nm N a
   let y ← f nm N b
   let z ← f nm N c
   some ⟨.chain o.1 o'.1 x.1 y.1 z.1,fun X k=>⟨⟨sQ (o.2 X) (o'.2 X) (x.2 X k).1 (y.2 X k).1 (z.2 X k).1 h.down,rfl⟩,tC (o.2 X) (o'.2 X) (x.2 X k).1 (y.2 X k).1 (z.2 X k).1 h.down⟩⟩
 | _,_,_,_=>none
def C4 (f:av T) (nm:List (θ×Β)) (N:List θ) (x:θ) (p:ϧ) (b:Ξ) (pos:ϧ):Option (GE T nm N (.Subscript (.Name x p) b pos)):=do
 let hd ← no (x == ("__debug__":θ))
 let hg ← yes (bB nm x)
 let j ← aK x T.tb
 let hb ← yes (aE b)
 let y ← f nm N b
 some ⟨.tab j.1 y.1,fun X k=>by
  obtain ⟨t,ad,h1,h2,h3⟩:=k.tbs j.1 x j.2
  exact mk (yZ (ba k.sc hg.down) h2 h1 h3 (y.2 X k).1 (hH hb.down) hd.down fun _=>rfl)⟩
def cIx (f:av T) (nm:List (θ×Β)) (N:List θ) (a b:Ξ) (pos:ϧ):Option (GE T nm N (.Subscript a b pos)):=do
 let hb ← yes (aE b)
 let x ← f nm N a
 let y ← f nm N b
 some ⟨.ix x.1 y.1,fun X k=>mk (BM (x.2 X k).1 (y.2 X k).1 (hH hb.down))⟩
theorem rV (e:T.an i=x) (T':bQ X T.an) (hy:LE X a y) (hs:bc a=true):LE X (.Attribute a x pos) (.fld y i):=by
 subst e
 exact yO T' Al hy (aw hs)
theorem iH (h:T.at_[i]? = some x):T.an i=x:=by unfold Ns.an;rw [List.getD_eq_getElem?_getD,h];rfl
def mz {nm:List (θ×Β)} {N:List θ} (f:∀ e,Option (GE T nm N e)) (x:θ) (p:ϧ) (e:Ξ) (er:List Ξ) (pos:ϧ):Option (GE T nm N (.Call (.Name x p) (e :: er) [] pos)):=((xX f x p e er pos).orElse fun _=>AM f x p (e :: er) pos).orElse fun _=>AN f x p (e :: er) pos
def cUn (f:av T) (nm:List (θ×Β)) (N:List θ) (a:Ξ) (pos:ϧ):(op:UnaryOp)→Option (GE T nm N (.UnaryOp op a pos))
 | .USub=>(f nm N a).map fun x=>⟨.neg x.1,fun X k=>mk (yT (x.2 X k).1)⟩
 | .Not=>(f nm N a).map fun x=>⟨.not x.1,fun X k=>mk (yV (x.2 X k).1)⟩
 | _=>none
def C1 (f:av T) (nm:List (θ×Β)) (N:List θ) (a:Ξ) (lo:Option Ξ) (p2 pos:ϧ):(hi st:Option Ξ)→Option (GE T nm N (.Subscript a (.Slice lo hi st p2) pos))
 | hi,none=>do
   let x ← f nm N a
   let l ← AO (f nm N) lo
   let h ← AO (f nm N) hi
   some ⟨.sl x.1 l.1 h.1,fun X k=>mk (BQ (x.2 X k).1 (l.2 X k) (h.2 X k))⟩
 | none,some st=>C0 (f nm N) a lo st p2 pos
 | _,_=>none
def cTa (f:av T) (nm:List (θ×Β)) (N:List θ) (b:Ξ) (pos:ϧ):(a:Ξ)→Option (GE T nm N (.Subscript a b pos))
 | .Name x p=>C4 f nm N x p b pos
 | _=>none
def C3 (f:av T) (nm:List (θ×Β)) (N:List θ) (a:Ξ) (pos:ϧ):(b:Ξ)→Option (GE T nm N (.Subscript a b pos))
 | .Slice lo hi st p2=>C1 f nm N a lo p2 pos hi st
 | b=>(cTa f nm N b pos a).orElse fun _=>cIx f nm N a b pos
def AU (f:av T) (nm:List (θ×Β)) (N:List θ) (x y:θ) (p p2:ϧ) (a:Ξ) (pos2 pos:ϧ):Option (GE T nm N (.Call (.Name x p) [.Call (.Name y p2) [a] [] pos2] [] pos)):=none
def cRv (f:av T) (nm:List (θ×Β)) (N:List θ) (x:θ) (p:ϧ) (pos:ϧ):(a:Ξ)→Option (GE T nm N (.Call (.Name x p) [a] [] pos))
 | .Call (.Name y p2) [a] [] pos2=>(CY (f nm N) x y p p2 a pos2 pos).orElse fun _=>AU f nm N x y p p2 a pos2 pos
 | _=>none
theorem uZ:ý "ValueError" = some (.type "ValueError"):=by decide +kernel
def AH {nm:List (θ×Β)} {N:List θ} (f:∀ e,Option (GE T nm N e)) (y:θ) (p:ϧ) (ea:Ξ) (x:θ) (q pos:ϧ):Option (GE T nm N (.Call (.Name y p) [ea,.Name x q] [] pos)):=do
 let hy ← isP "isinstance" y
 let hx ← isP "ValueError" x
 let g1 ← gD T nm "isinstance"
 let g2 ← gD T nm "ValueError"
 let hv ← yes T.vx
 let he ← yes (aE ea)
 let a ← f ea
 some ⟨.isXv a.1,fun X k=>by
  obtain rfl:=hy.down
  obtain rfl:=hx.down
  exact mk (vB k.cls (bz k g1.down Ĉ) (bz k g2.down uZ) (k.vxs hv.down) (a.2 X k).1 (ag he.down))⟩
def cIz (f:av T) (nm:List (θ×Β)) (N:List θ) (x:θ) (p:ϧ) (a:Ξ) (pos:ϧ):(b:Ξ)→Option (GE T nm N (.Call (.Name x p) [a,b] [] pos))
 | .Name y q=>((cIs (f nm N) x p a y q pos).orElse fun _=>CT (f nm N) x p a y q pos).orElse fun _=>AH (f nm N) x p a y q pos
 | .Tuple [.Name x1 q1,.Name x2 q2,.Name x3 q3] k q=>CS (f nm N) x p a x1 x2 x3 q1 q2 q3 k q pos
 | _=>none
def CH (f:av T) (nm:List (θ×Β)) (N:List θ) (x:θ) (p:ϧ) (pos:ϧ):(args:List Ξ)→Option (GE T nm N (.Call (.Name x p) args [] pos))
 | []=>AM (f nm N) x p [] pos
 | [a]=>(cRv f nm N x p pos a).orElse fun _=>mz (f nm N) x p a [] pos
 | [a,b]=>(cIz f nm N x p a pos b).orElse fun _=>mz (f nm N) x p a [b] pos
 | e :: er=>mz (f nm N) x p e er pos
def cSJ (f:av T) (nm:List (θ×Β)) (N:List θ) (m:θ) (ap:ϧ) (args:List Ξ) (pos:ϧ):(o:Ξ)→Option (GE T nm N (.Call (.Attribute o m ap) args [] pos))
 | .Constant (.str x) j p=>x9 (f nm N) x j p m ap args pos
 | _=>none
def CG (f:av T) (nm:List (θ×Β)) (N:List θ) (o:Ξ) (m:θ) (ap:ϧ) (args:List Ξ) (pos:ϧ):Option (GE T nm N (.Call (.Attribute o m ap) args [] pos)):=
 (((cSJ f nm N m ap args pos o).orElse fun _=>AZ (f nm N) m ap o args pos).orElse fun _=>CO (f nm N) o m ap args pos).orElse fun _=>CV (f nm N) o m ap args pos
def cMx (f:av T) (nm:List (θ×Β)) (N:List θ) (x y:θ) (p:ϧ) (a b:Ξ) (kp pos:ϧ):Option (GE T nm N (.Call (.Name x p) [a] [⟨some y,b,kp⟩] pos)):=none
def CP (f:av T) (nm:List (θ×Β)) (N:List θ) (o:Ξ) (m:θ) (ap:ϧ):(args:List Ξ)→(pos:ϧ)→Option (GE T nm N (.Call (.Attribute o m ap) args [] pos)):=fun _ _=>none
def cSm (f:av T) (nm:List (θ×Β)) (N:List θ) (o:Ξ) (m:θ) (ap pos:ϧ):(args:List Ξ)→Option (GE T nm N (.Call (.Attribute o m ap) args [] pos))
 | []=>do
   let hp ← yes (ap.endLine == pos.line)
   let hs ← yes (bc o)
   let a ← f nm N o
   match isP "isdigit" m,isP "pop" m with
   | some hm,_=>some ⟨.sm .dig a.1,fun X k=>by obtain rfl:=hm.down;exact mk (yN (a.2 X k).1 (aw hs.down) hp.down)⟩
   | _,some hm=>some ⟨.pop a.1,fun X k=>by obtain rfl:=hm.down;exact mk (yW (a.2 X k).1 (aw hs.down) hp.down)⟩
   | _,_=>none
 | [.Constant (.str y) j p]=>do
   let hp ← yes (ap.endLine == pos.line)
   let hs ← yes (bc o)
   let a ← f nm N o
   match isP "split" m,isP "startswith" m with
   | some hm,_=>some ⟨.sm (.spl y) a.1,fun X k=>by obtain rfl:=hm.down;exact mk (yX (a.2 X k).1 (aw hs.down) hp.down)⟩
   | _,some hm=>some ⟨.sm (.sta y) a.1,fun X k=>by obtain rfl:=hm.down;exact mk (yY (a.2 X k).1 (aw hs.down) hp.down)⟩
   | _,_=>none
 | _=>none
def CJ (f:av T) (nm:List (θ×Β)) (N:List θ) (m:θ) (ap pos:ϧ):(o:Ξ)→(args:List Ξ)→Option (GE T nm N (.Call (.Attribute o m ap) args [] pos))
 | .List es p,[e]=>do
   let hm ← isP "count" m
   let hp ← yes (ap.endLine == pos.line)
   let hn ← yes (aE e)
   let a ← cq (f nm N) es
   let b ← f nm N e
   some ⟨.sm .cnt (.tup (.cons (.lst a.1) (.cons b.1 .nil))),fun X k=>by
    obtain rfl:=hm.down
    exact mk (yM ((jF (a.2 X k)).le fun _=>rfl) (b.2 X k).1 ⟨aw rfl,by rw [ag hn.down];rfl,hp.down,by rw [ag hn.down];rfl⟩)⟩
 | _,_=>none
def cCl (f:av T) (nm:List (θ×Β)) (N:List θ) (pos:ϧ) (args:List Ξ):(fn:Ξ)→(kw:List Eo)→Option (GE T nm N (.Call fn args kw pos))
 | .Name x p,[]=>CH f nm N x p pos args
 | .Attribute o m ap,[]=>(((cSm f nm N o m ap pos args).orElse fun _=>CJ f nm N m ap pos o args).orElse fun _=>CP f nm N o m ap args pos).orElse fun _=>CG f nm N o m ap args pos
 | .Name x p,[⟨some y,b,kp⟩]=>(match args with | [a]=>cMx f nm N x y p a b kp pos | _=>none)
 | _,_=>none
def cF2 (f:av T) (nm:List (θ×Β)) (N:List θ) (x:θ) (j1:Nat) (p1 pos:ϧ):(b c:Ξ)→Option (GE T nm N (.JoinedStr [.Constant (.str x) j1 p1,b,c] pos))
 | .FormattedValue e (.negSucc 0) none p2,.Constant (.str y) j2 p3=>CN (f nm N) x j1 p1 e p2 y j2 p3 pos
 | _,_=>none
def cJs (f:av T) (nm:List (θ×Β)) (N:List θ) (pos:ϧ):(es:List Ξ)→Option (GE T nm N (.JoinedStr es pos))
 | [.Constant (.str x) j1 p1,b,c]=>cF2 f nm N x j1 p1 pos b c
 | _=>none
def cDi (f:av T) (nm:List (θ×Β)) (N:List θ) (pos:ϧ):(ks:List (Option Ξ))→(vs:List Ξ)→Option (GE T nm N (.Dict ks vs pos))
 | [],[]=>some ⟨.dic .nil,fun X k=>mkf vK⟩
 | ks,vs=>AE (f nm N) ks vs pos
def snI (T:Ns) (N:List θ):Ξ→Option Nat
 | .Name x _=>if T.rl.contains x then (aK x N).map (·.1) else none
 | .Call (.Name y _) (.Name x _ :: _) _ _=>if T.rl.contains x && y != "len" && y != "range" then (aK x N).map (·.1) else none
 | _=>none
def CU (f:av T) (g:ir T) (nm:List (θ×Β)) (N:List θ) (ee:Ξ) (sc:Ą) (pos:ϧ):(gs:List FL)→Option (GE T nm N (.ListComp ee gs sc pos))
 | [⟨tg,iter,ifs,0⟩]=>(cLC f g nm N ee tg iter ifs sc pos).map fun a=>match snI T N iter with | some i=>snW i a | none=>a
 | _=>none
def AJ (f:av T) (nm:List (θ×Β)) (N:List θ) (b:Ξ) (pos:ϧ):(a:Ξ)→(op:Fj)→Option (GE T nm N (.BinOp a op b pos))
 | .Constant (.str y) j p,.Mult=>(f nm N b).map fun x=>⟨.sm (.mulc y) x.1,fun X k=>mk (vE (x.2 X k).1)⟩
 | .List es p,.Mult=>do
   let l ← f nm N (.List es p)
   let x ← f nm N b
   some ⟨.sm .mull (.tup (.cons l.1 (.cons x.1 .nil))),fun X k=>mk (oX (l.2 X k).1 (x.2 X k).1)⟩
 | .Subscript (.Constant (.str y) j p) e2 p2,.Mult=>do
   let l ← f nm N (.Subscript (.Constant (.str y) j p) e2 p2)
   let x ← f nm N b
   some ⟨.sm .mull (.tup (.cons l.1 (.cons x.1 .nil))),fun X k=>mk (oX (l.2 X k).1 (x.2 X k).1)⟩
 | _,_=>none
def Ci (f:av T) (g:ir T) (nm:List (θ×Β)) (N:List θ):(e:Ξ)→Option (GE T nm N e)
 | .Name x pos=>AK T nm N x pos
 | .Constant c j pos=>xY T nm N c j pos
 | .BinOp a op b pos=>(AJ f nm N b pos a op).orElse fun _=>do
   let o ← opP op
   let x ← f nm N a
   let y ← f nm N b
   some ⟨.op o.1 x.1 y.1,fun X k=>mk (BO (o.2 X) (x.2 X k).1 (y.2 X k).1)⟩
 | .UnaryOp op a pos=>cUn f nm N a pos op
 | .BoolOp .And es pos=>do
   let x ← wY (f nm N) pos es
   let h ← no (ak x.1)
   some ⟨x.1,fun X k=>mk (x.2 X k) h.down⟩
 | .BoolOp .Or es pos=>do
   let x ← AQ (f nm N) pos es
   let h ← no (ak x.1)
   some ⟨x.1,fun X k=>mk (x.2 X k) h.down⟩
 | .IfExp c a b pos=>do
   let t ← g nm N c
   let x ← f nm N a
   let y ← f nm N b
   some ⟨.ite t.1 x.1 y.1,fun X k=>mk (yR (t.2 X k) (x.2 X k).1 (y.2 X k).1)⟩
 | .Compare a ops bs pos=>(w7 f nm N a ops bs pos).map fun x=>⟨x.1,fun X k=>mk (x.2 X k).1.1 (x.2 X k).1.2⟩
 | .Tuple es n pos=>(cq (f nm N) es).map fun x=>⟨.tup x.1,fun X k=>mk (mW (x.2 X k))⟩
 | .List es pos=>(cq (f nm N) es).map fun x=>⟨.lst x.1,fun X k=>mkf (jF (x.2 X k))⟩
 | .Subscript a b pos=>C3 f nm N a pos b
 | .Attribute a x pos=>do
   let i ← aK x T.at_
   let hs ← yes (bc a)
   let y ← f nm N a
   some ⟨.fld y.1 i.1,fun X k=>mk (rV (iH i.2) k.cls (y.2 X k).1 hs.down)⟩
 | .Call fn args kw pos=>cCl f nm N pos args fn kw
 | .JoinedStr es pos=>cJs f nm N pos es
 | .Dict keys vals pos=>cDi f nm N pos keys vals
 | .ListComp ee gs sc pos=>CU f g nm N ee sc pos gs
 | _=>none
def Cj (f:av T) (g:ir T) (nm:List (θ×Β)) (N:List θ):(e:Ξ)→Option (GT T nm N e)
 | .UnaryOp .Not a pos=>(g nm N a).map fun x=>⟨.tnot x.1,fun X k=>zp (x.2 X k)⟩
 | .BoolOp .And es pos=>(wX (g nm N) pos es).map fun x=>⟨x.1,fun X k=>xz (x.2 X k)⟩
 | .BoolOp .Or es pos=>(AP (g nm N) pos es).map fun x=>⟨x.1,fun X k=>xz (x.2 X k)⟩
 | .Compare a ops bs pos=>(w7 f nm N a ops bs pos).map fun x=>⟨x.1,fun X k=>(x.2 X k).2⟩
 | e=>do
   let h ← yes (match e with | .Compare ..=>false | .BoolOp ..=>false | .UnaryOp ..=>false | .IfExp ..=>false | .NamedExpr ..=>false | _=>true)
   let x ← f nm N e
   some ⟨.tv x.1,fun X k=>BT (x.2 X k).1 fun w=>nX h.down⟩
theorem yI:LE X e .nil:=fun br z I nb=>ZX rfl nb
theorem zl:LT X e .nil:=fun z I nb=>ZX rfl nb
def qe (T:Ns):Nat→av T×ir T
 | 0=>(fun _ _ _=>none,fun _ _ _=>none)
 | k+1=>(fun nm N e=>some ((Ci (qe T k).1 (qe T k).2 nm N e).getD ⟨.nil,fun X _=>mk yI⟩),fun nm N e=>some ((Cj (qe T k).1 (qe T k).2 nm N e).getD ⟨.nil,fun X _=>zl⟩))
end
section
variable {α β:Type} {X:Cx} {z z0 z1:Z}
def Cx.on (X:Cx):Cx:={ X with tz:=1 }
theorem Rep.on (I:Rep X z) (h:0<z.s.toks):Rep X.on z:=⟨⟨I.md,I.fm,I.hd,I.bs,I.gh,I.rl,I.rn,I.rg,I.ob,I.fu,I.ff,I.br,I.os,h⟩,⟨I.ok.un,I.ok.kd,I.ok.gl,I.ok.bl,I.ok.ci,I.ok.ch⟩,I.lo,I.ce,I.fl,I.el,I.sl,I.en,I.eo,I.od⟩
theorem Rep.dn (I:Rep X.on z) (h:X.tz≤z.s.toks):Rep X z:=⟨⟨I.md,I.fm,I.hd,I.bs,I.gh,I.rl,I.rn,I.rg,I.ob,I.fu,I.ff,I.br,I.os,h⟩,⟨I.ok.un,I.ok.kd,I.ok.gl,I.ok.bl,I.ok.ci,I.ok.ch⟩,I.lo,I.ce,I.fl,I.el,I.sl,I.en,I.eo,I.od⟩
theorem Go.dn (g:Go X.on z z1):Go X z z1:=⟨g.st,g.ow⟩
theorem Ps.dn {o:ah} {f:Flow} {s':τ} (tk:X.tz≤s'.toks) (h:Ps X.on z o f s'):Ps X z o f s':=by
 cases o with
 | nx t=>obtain ⟨e,z',rfl,b,y,I⟩:=h;exact ⟨e,z',rfl,b,y.dn,I.dn tk⟩
 | rt d t=>obtain ⟨u,z',e,rfl,b,y,I,r⟩:=h;exact ⟨u,z',e,rfl,b,y.dn,I.dn tk,r⟩
 | exc c l t=>exact h.elim
 | bad=>exact h.elim
theorem PxS.dn {o:ah} {e:η} {s':τ} (tk:X.tz≤s'.toks) (h:PxS X.on z o e s'):PxS X z o e s':=by
 obtain ⟨z',c,l,rfl,b,y,I,a,cls,dx,q,r,n,w⟩:=h
 exact ⟨z',c,l,rfl,b,y.dn,I.dn tk,a,cls,dx,q,r,n,w⟩
def JgT (X:Cx) (t:DR β) (m:Sta→Out α) (R:Z→α→β→Prop):Prop:=∀ z,Rep X z→m z.t≠.bad→Ε X.M X.A t (fun u s'=>Pe X z (m z.t) R u s'∧0<s'.toks) (Px X z (m z.t)) z.s
theorem JgT.go {γ:Type} {t:DR β} {m:Sta→Out α} {R:Z→α→β→Prop} {f:α→Sta→Out γ} {o:Out γ} {K:β→τ→Prop} (h:JgT X t m R) (x:Ee X z z1) (I:Rep X z1) (e:o=(m z1.t).bind f) (nb:o≠.bad)
 (k:∀ z2 d u,Ee X z1 z2→Ee X z z2→Rep X z2→R z2 d u→o=f d z2.t→0<z2.s.toks→K u z2.s):Ε X.M X.A t K (Px X z o) z1.s:=by
 subst e
 refine Η (h z1 I fun q=>nb (by rw [q];rfl)) (fun u s' ⟨⟨z2,d,e,q,y,I1,r⟩,tk⟩=>?_) fun u s' h=>(h.less x).map
 subst e;exact k z2 d u y (x.trans y) I1 r (by rw [q];rfl) tk
theorem JgT.gos {t:DR β} {m:Sta→Out α} {R:Z→α→β→Prop} {f:α→Sta→ah} {o:ah} {K:β→τ→Prop} (h:JgT X t m R) (x:Go X z z1) (I:Rep X z1) (e:o=(m z1.t).go f) (nb:o≠.bad)
 (k:∀ z2 d u,Ee X z1 z2→Go X z z2→Rep X z2→R z2 d u→o=f d z2.t→0<z2.s.toks→K u z2.s):Ε X.M X.A t K (PxS X z o) z1.s:=by
 subst e
 refine Η (h z1 I fun q=>nb (by rw [q];rfl)) (fun u s' ⟨⟨z2,d,e,q,y,I1,r⟩,tk⟩=>?_) fun u s' h=>.of x h
 subst e;exact k z2 d u y (x.trans y.go) I1 r (by rw [q];rfl) tk
theorem zz {t:DR η} {o:Out D} {od:Option D} {br:Bool} {c:E} (x:Ee X z0 z) (I:Rep X z) (e:o=Out.of z.t od) (nb:o≠.bad) (h:∀ d,od=some d→Ε X.M X.A t (fun v s'=>Dn X z d v s'∧0<s'.toks) (fun _ _=>False) z.s):Ε X.M X.A t (fun u s'=>Pe X z0 o (RV X.W br c) u s'∧0<s'.toks) (Px X z0 o) z.s:=by
 cases od with
 | none=>exact ZX e nb
 | some d=>exact Η (ό I.tk (h d rfl)) (fun _ _ h=>⟨h.2.1.at x I e h.1,h.2.2⟩) fun _ _ z=>z.2.elim
theorem uW (z:Z) (u:η) (x d:D) (h:CR X.W z x u) (e:di .len x=some d) (I:Rep X z):Ε X.M X.A (call (.builtin "len") [u]) (fun v s'=>Dn X z d v s'∧0<s'.toks) NoE z.s:=by
 have hn:=gR
 cases x with
 | tup l=>cases e;obtain ⟨a,o,vs,rfl,e1,t,r⟩:=h;have:=t.2.2;rw [r.len];exact len_tuple (tpt (I.gh _ _ e1) t) (by rw [Μ];omega) ⟨.tok fun _ _ _=>⟨_,rfl⟩,D6 _⟩
 | lst l=>cases e;obtain ⟨a,o,vs,rfl,e1,t,r⟩:=h;have:=t.2;rw [r.len];exact Fw (lsl e1 t) (by rw [Μ];omega) ⟨.tok fun _ _ _=>⟨_,rfl⟩,D6 _⟩
 | str y=>
   obtain ⟨hz,rfl⟩:=az (show (if y.length≤100000 then some (D.int y.length) else none)=some d from e)
   obtain ⟨t,rfl⟩:=h;have:=big hz
   exact len_str (by omega) ⟨.tok fun _ _ _=>⟨_,rfl⟩,D6 _⟩
 | dic ks ds=>
   obtain ⟨hz,rfl⟩:=az (show (if ks.length≤100000 then some (D.int ks.length) else none)=some d from e)
   obtain ⟨a,o,vs,rfl,m,e1,c1,l1,r1⟩:=h
   have n1:(ks.zip vs).length=ks.length:=by rw [Ä,← r1.len,l1,ĥ]
   have:=big hz
   refine call_len_dict m (c1.of e1) (by rw [n1];omega) ?_
   rw [n1]
   exact ⟨.tok fun _ _ _=>⟨_,rfl⟩,D6 _⟩
 | _=>cases e
theorem vC (hx:Blt X "len" (.builtin "len")) (ha:LE X ea a) (he:Ο [ea] X.env=(false,eval ea X.env) :: Ο [] X.env):JgT X (eval (.Call (.Name "len" p) [ea] [] pos) X.env) (X.ev true (.bi .len (.cons a .nil))) (RV X.W true (.bi .len (.cons a .nil))):=fun z I nb=>
 aR (.inl ⟨_,rfl⟩) hx he rfl I (Τ ((ha true).go .refl I (ev1 fun l s=>Out.of s (biD .len (l.map (look s.st)))) nb fun z1 x u y1 x1 I1 r1 e1=>ϋ (zz x1 I1 e1 nb fun d q=>uW z1 _ _ d (r1.rb.cr I1) q I1)))
theorem v6 {o:Op} (ho:Op2 X (Ò op) (opD o)) (ha:JgT X (eval ea X.env) (X.ev true a) (RV X.W true a)) (hb:LE X eb b) (hm:Å op eb=false):JgT X (Fe (.Compare ea [op] [eb] pos) X.env (eval (.Compare ea [op] [eb] pos) X.env)) (fun t=>(X.ev true (.op o a b) t).bind toB) RT:=fun z I nb=>
 Þ (ha.go .refl I (ai ..) nb fun z1 x u y1 x1 I1 r1 e1 tk=>aV (n:=1) tk ((hb true).go x1 I1 (e1.trans (ai ..)) nb fun z2 y v y2 x2 I2 r2 e2 tk2=>by
  cases q:opD o (look z2.t.st x) (look z2.t.st y) with
  | none=>rw [q] at e2;exact ZX e2 nb
  | some d=>rw [q] at e2;exact Η (ό I2.tk (ό (n:=1) tk2 (ho z2 u v _ _ d I2 ((r1.rb.st y2 I2).cr I2) (r2.rb.cr I2) q))) (fun c s' k=>Η (ό (n:=1) k.2.1 (k.2.2.tru x2 I2 e2 nb k.1)) (fun _ _ k=>⟨k.2,k.1⟩) fun _ _ k=>k.2) fun _ _ z=>z.2.2.elim)) hm
def LS0 (X:Cx) (st:Ø) (c:S):Prop:=∀ z,Rep X z→X.ex c z.t≠.bad→Ε X.M X.A (exec st X.env) (fun f s'=>Ps X z (X.ex c z.t) f s'∧0<s'.toks) (PxS X z (X.ex c z.t)) z.s
theorem zi (hc:JgT X (Fe ec X.env (eval ec X.env)) (fun t=>(X.ev true c t).bind toB) RT) (ha:LSs X sa a) (hb:LSs X sb b):LS0 X (.If ec sa sb pos) (.ifs c a b):=fun z I nb=>by
 have e:X.ex (.ifs c a b) z.t=((X.ev true c z.t).bind toB).go fun t s=>if t then X.ex a s else X.ex b s:=by
  show Out.go (X.ev true c z.t) _=_
  cases X.ev true c z.t with
  | ok d s=>cases d <;> first | rfl | (rename_i t;cases t <;> rfl)
  | _=>rfl
 refine wpAny_If (hc.gos .refl I e nb fun z1 t u y x I1 r e1 tk=>?_)
 cases (show u=t from r)
 cases t with
 | true=>exact Η (ό (n:=1) tk (ha.at x I1 e1 nb)) (fun _ _ k=>⟨k.2,k.1⟩) fun _ _ k=>k.2
 | false=>exact Η (ό (n:=1) tk (hb.at x I1 e1 nb)) (fun _ _ k=>⟨k.2,k.1⟩) fun _ _ k=>k.2
theorem tf (h1:LS0 X tm a) (h2:LS X.on tn b) (h3:LSs X rest c):LSs X (tm :: tn :: rest) (.seq a (.seq b c)):=fun z I nb=>by
 have nb1:X.ex a z.t≠.bad:=fun q=>nb (show ah.go (X.ex a z.t) _=_ by rw [q];rfl)
 refine Ř (Η (h1 z I nb1) (fun f s1 ⟨q,tk⟩=>?_) fun u s' ⟨z',c,l,e,q,y,J,r⟩=>⟨z',c,l,e,show ah.go (X.ex a z.t) _=_ by rw [q];rfl,y,J,r⟩)
 cases qa:X.ex a z.t with
 | nx t=>
   rw [qa] at q
   obtain ⟨rfl,z1,rfl,rfl,x1,I1⟩:=q
   have e1:X.ex (.seq a (.seq b c)) z.t=(X.ex b z1.t).go fun s=>X.ex c s:=show ah.go (X.ex a z.t) _=_ by rw [qa];rfl
   have nb2:X.ex b z1.t≠.bad:=fun q=>nb (by rw [e1,q];rfl)
   refine Ř (Η (ό I1.tk (h2 z1 (I1.on tk) nb2)) (fun f s2 ⟨tk2,q⟩=>?_) fun u s' ⟨tk2,w⟩=>?_)
   ·have q:=Ps.dn tk2 q
    cases qb:X.ex b z1.t with
    | nx t=>
      rw [show X.on.ex b z1.t=X.ex b z1.t from rfl,qb] at q
      obtain ⟨rfl,z2,rfl,rfl,x2,I2⟩:=q
      exact h3.at (x1.trans x2) I2 (e1.trans (by rw [qb];rfl)) nb
    | rt d t=>
      have e:=e1.trans (show _=ah.rt d t by rw [qb];rfl)
      rw [show X.on.ex b z1.t=X.ex b z1.t from rfl,qb] at q
      obtain ⟨u,z2,rfl,s2,s3,y,r⟩:=q
      show Ps X z (X.ex (.seq a (.seq b c)) z.t) (.ret u) _
      rw [e];exact ⟨u,z2,rfl,s2,s3,x1.trans y,r⟩
    | exc c l t=>rw [show X.on.ex b z1.t=X.ex b z1.t from rfl,qb] at q;exact q.elim
    | bad=>exact ZX qb nb2
   ·obtain ⟨z',c',l,e,q,y,J,r⟩:=PxS.dn tk2 w
    exact ⟨z',c',l,e,e1.trans (by rw [show X.ex b z1.t = .exc c' l z'.t from q];rfl),x1.trans y,J,r.less fun a n=>x1.st.no n⟩
 | rt d t=>
   have e:X.ex (.seq a (.seq b c)) z.t = .rt d t:=show ah.go (X.ex a z.t) _=_ by rw [qa];rfl
   rw [qa] at q
   obtain ⟨u,z1,rfl,r⟩:=q
   show Ps X z (X.ex (.seq a (.seq b c)) z.t) (.ret u) s1
   rw [e];exact ⟨u,z1,rfl,r⟩
 | exc c l t=>rw [qa] at q;exact q.elim
 | bad=>exact ZX qa nb1
end
section
variable {X:Cx}
theorem qy (hN:X.N.Nodup) (hi:X.N[i]? = some x) (hx:Loc X.env.scope x) (hc:LT X ec c) (ha:LF X ea a) (hb:LF X eb b) (fa:ak a=true) (fb:ak b=true) (hs:ķ (.IfExp ec ea eb ep) (some (.Name x pos')) pos.line X.env=pure false):LS X (.Assign [.Name x pos'] (.IfExp ec ea eb ep) pos) (.ifs c (.set i a) (.set i b)):=fun z I nb=>by
 have e:X.ex (.ifs c (.set i a) (.set i b)) z.t=((X.ev true c z.t).bind toB).go fun t s=>if t then X.ex (.set i a) s else X.ex (.set i b) s:=by
  show Out.go (X.ev true c z.t) _=_
  cases X.ev true c z.t with
  | ok d s=>cases d <;> first | rfl | (rename_i t;cases t <;> rfl)
  | _=>rfl
 refine Ea ?_ hs
 refine wpAny_IfExp (hc.gos .refl I e nb fun z1 t u y x0 I1 r e1=>?_)
 cases (show u=t from r)
 have go:∀ {e2:Ξ} {c2:E},LF X e2 c2→ak c2=true→X.ex (.ifs c (.set i a) (.set i b)) z.t=X.ex (.set i c2) z1.t→Ε X.M X.A (eval e2 X.env) (fun v s₁=>Ε X.M X.A (HC X.env x v) (fun _=>Ps X z (X.ex (.ifs c (.set i a) (.set i b)) z.t) Flow.next) (PxS X z (X.ex (.ifs c (.set i a) (.set i b)) z.t)) s₁) (PxS X z (X.ex (.ifs c (.set i a) (.set i b)) z.t)) z1.s:=fun {e2 c2} h f e1=>by
  have nb1:X.ev false c2 z1.t≠.bad:=fun q=>nb (e1.trans (show Out.go (X.ev false c2 z1.t) _=_ by rw [q];rfl))
  refine Η (h z1 I1 nb1) (fun u s' ⟨z2,d,q1,q2,y2,I2,fv⟩=>?_) fun u s' h=>?_
  ·subst q1
   refine bG (own:=true) (x0.trans y2.go) I2 hN hi hx (fv.less y) fun s' a _ _ I' g'=>nxt (z1:={ z2 with t:=stV z2.t i d true,σ:=z2.σ.set i (some u),s:=s' }) g' I' ?_
   rw [e1]
   show Out.go (X.ev false c2 z1.t) _=_
   rw [q2]
   show ah.nx (ie z2.t i d (ak c2))=_
   unfold ie
   have ld:sA d=true:=by
    obtain ⟨_,_,_,_,t,_⟩:=fv
    cases d <;> first | rfl | cases t
   rw [f,ld];rfl
  ·rw [e1];exact .of x0 h
 cases t with
 | true=>exact go ha fa e1
 | false=>exact go hb fb e1
end
def RaP (X:Cx) (j:Nat) (x:θ):Prop:=∃ (lv:Nat) (k:Cl) (i:CI) (fI:Δ) (fd:á) (ps:List θ) (Bx nwI iniI:String) (bmB:List η),ÿ Bx nwI iniI bmB∧iq X.K i.ad fI bmB nwI∧FnJ X lv fI fd ps i.nm k i.ad∧b6 X.K fd ps []∧bv (lv+1) X.A∧gy X.K i.ad∧(∀ f∈i.nm,Υ X.K (.ref i.ad) f=some none)∧X.Γ.cl[j]? = some k∧X.W.ci[j]? = some i∧X.W.what[j]? = some 2∧i.nm.length=k.at_.length∧Ω X.K i.ad (.type "BaseException")=some true∧ð X.K (.ref i.ad)=some (.type "type")∧Ϝ X.K (.ref i.ad)=true∧X.mg x=some (.ref i.ad)∧k.at_.isEmpty=false
def RtP (X:Cx) (j:Nat) (x:θ):Prop:=∃ (k:Cl) (i:CI) (Bx nwI iniI:String) (bmB:List η),ÿ Bx nwI iniI bmB∧n7 X.K i.ad bmB nwI∧X.Γ.cl[j]? = some k∧k.at_.isEmpty=true∧X.W.ci[j]? = some i∧X.W.what[j]? = some 2∧X.mg x=some (.ref i.ad)
structure CxS (T:Ns) (X:Cx) (nm:List (θ×Β)) (N:List θ):Prop extends CxOk T X nm N where
 rs:∀ (j:Nat) (x:θ),T.ex[j]? = some x→x≠""→RaP X j x
 rt:∀ (j:Nat) (x:θ),T.xt[j]? = some x→x≠""→RtP X j x
abbrev GS (T:Ns) (nm:List (θ×Β)) (N:List θ) (st:Ø):={c:S // ∀ X,CxS T X nm N→LS X st c}
abbrev GSs (T:Ns) (nm:List (θ×Β)) (N:List θ) (st:List Ø):={c:S // ∀ X,CxS T X nm N→LSs X st c}
def gW:Ξ→Bool
 | .ListComp ..=>false
 | .SetComp ..=>false
 | .DictComp ..=>false
 | _=>true
theorem cS (h:gW e=true):ķ e t l env=pure false:=by
 cases e <;> first | rfl | cases h
theorem tQ :FA [.Tuple es k p] e l env=pure false:=by
 cases e <;> rfl
def xD:Ξ→Bool
 | .Tuple ..=>false
 | _=>true
theorem qC (h:xD e=true):FC [.Tuple es k p] e env=pure none:=by
 cases e <;> first | rfl | cases h
section
variable {T:Ns} {nm:List (θ×Β)} {N:List θ}
theorem CxOk.tg (k:CxOk T X nm N):TgH nm N X:=⟨k.calm,k.hN,k.nd,k.sc⟩
theorem CxOk.at {i:Nat} {x:θ} (k:CxOk T X nm N) (h:N[i]? = some x):X.N[i]? = some x:=by rw [k.hN];exact h
theorem CxOk.ndx (k:CxOk T X nm N):X.N.Nodup:=by rw [k.hN];exact k.nd
def xe (f:av T) (nm:List (θ×Β)) (N:List θ) (x:θ) (p:ϧ) (pos:ϧ) (e:Ξ):Option (GS T nm N (.Assign [.Name x p] e pos)):=do
 let i ← aK x N
 let hl ← yes (fF true nm x)
 let hn ← yes (gW e)
 let a ← f nm N e
 some (match h:(T.rf.contains x && T.rl.contains x) && ak a.1 with
  | true=>⟨.set i.1 (.sto a.1),fun X k=>fG k.ndx (k.at i.2) (cX k.tg hl.down) (mV ((a.2 X k.toCxOk).2 (Fy.mp h).2)) (fun q=>nomatch q) (cS hn.down)⟩
  | false=>⟨.set i.1 a.1,fun X k=>fG k.ndx (k.at i.2) (cX k.tg hl.down) (a.2 X k.toCxOk).1 (a.2 X k.toCxOk).2 (cS hn.down)⟩)
def CZ (f:av T) (g:ir T) (nm:List (θ×Β)) (N:List θ) (x:θ) (p:ϧ) (pos:ϧ):(e:Ξ)→Option (GS T nm N (.Assign [.Name x p] e pos))
 | .ListComp ee [⟨tg,iter,ifs,0⟩] sc pos2=>do
   let i ← aK x N
   let hl ← yes (fF true nm x)
   let q ← AI f g nm N ee tg iter ifs sc
   some (match snI T N iter with | some j=>⟨.set i.1 (.snap j (.lc q.1.1.1 q.1.1.2 q.1.2.1 q.1.2.2.1 q.1.2.2.2)),fun X k=>qz k.ndx (k.at i.2) (cX k.tg hl.down) (q.2 X k.toCxOk)⟩ | none=>⟨.set i.1 (.lc q.1.1.1 q.1.1.2 q.1.2.1 q.1.2.2.1 q.1.2.2.2),fun X k=>kR k.ndx (k.at i.2) (cX k.tg hl.down) (q.2 X k.toCxOk)⟩)
 | .List es lp=>(match qA x T.rf with
   | some _=>do
     let i ← aK x N
     let hl ← yes (fF true nm x)
     let a ← cq (f nm N) es
     some ⟨.setR i.1 a.1,fun X k=>vY k.ndx (k.at i.2) (cX k.tg hl.down) (a.2 X k.toCxOk) (cS rfl)⟩
   | none=>xe f nm N x p pos (.List es lp))
 | .IfExp ec (.List e1 q1) (.List e2 q2) ep=>do
   let i ← aK x N
   let hl ← yes (fF true nm x)
   let hn ← yes (gW (.IfExp ec (.List e1 q1) (.List e2 q2) ep))
   let c ← g nm N ec
   let a ← cq (f nm N) e1
   let b ← cq (f nm N) e2
   some ⟨.ifs c.1 (.set i.1 (.lst a.1)) (.set i.1 (.lst b.1)),fun X k=>qy k.ndx (k.at i.2) (cX k.tg hl.down) (c.2 X k.toCxOk) (jF (a.2 X k.toCxOk)) (jF (b.2 X k.toCxOk)) rfl rfl (cS hn.down)⟩
 | e=>xe f nm N x p pos e
def CC (f:av T) (nm:List (θ×Β)) (N:List θ) (x:θ) (p:ϧ) (m:θ) (ap:ϧ) (e:Ξ) (cp pos:ϧ):Option (GS T nm N (.Expr (.Call (.Attribute (.Name x p) m ap) [e] [] cp) pos)):=do
 let hm ← isP "append" m
 let i ← aK x N
 let hl ← yes (c6 nm x)
 let hd ← no (x == ("__debug__":θ))
 let hc ← no (x == ("__classdict__":θ))
 let he ← yes (aE e)
 let hp ← yes (ap.endLine == cp.line)
 let a ← f nm N e
 some ⟨.app i.1 a.1,fun X k=>by
  obtain rfl:=hm.down
  exact zc (k.at i.2) (bH k.sc hl.down) hd.down hc.down (a.2 X k.toCxOk).1 ⟨aw rfl,by rw [ag he.down];rfl,hp.down,by rw [ag he.down];rfl⟩⟩
def w9 (f:av T) (nm:List (θ×Β)) (N:List θ) (o:Ξ) (m:θ) (ap:ϧ) (e:Ξ) (cp pos:ϧ):Option (GS T nm N (.Expr (.Call (.Attribute o m ap) [e] [] cp) pos)):=do
 let hm ← isP "append" m
 let he ← yes (aE e)
 let hp ← yes (ap.endLine == cp.line)
 let hs ← yes (bc o)
 let b ← f nm N o
 let a ← f nm N e
 some ⟨.fapp b.1 0 a.1,fun X k=>by
  obtain rfl:=hm.down
  exact vQ (b.2 X k.toCxOk).1 (a.2 X k.toCxOk).1 ⟨aw hs.down,by rw [ag he.down];rfl,hp.down,by rw [ag he.down];rfl⟩⟩
def AF (f:av T) (nm:List (θ×Β)) (N:List θ) (o:Ξ) (m:θ) (ap:ϧ) (e:Ξ) (cp pos:ϧ):Option (GS T nm N (.Expr (.Call (.Attribute o m ap) [e] [] cp) pos)):=do
 let hm ← isP "extend" m
 let he ← yes (aE e)
 let hp ← yes (ap.endLine == cp.line)
 let hs ← yes (bc o)
 let b ← f nm N o
 let a ← f nm N e
 some ⟨.fext b.1 a.1,fun X k=>by
  obtain rfl:=hm.down
  exact vR (b.2 X k.toCxOk).1 (a.2 X k.toCxOk).1 ⟨aw hs.down,by rw [ag he.down];rfl,hp.down,by rw [ag he.down];rfl⟩⟩
def CL (f:av T) (nm:List (θ×Β)) (N:List θ) (x:θ) (p:ϧ) (m:θ) (ap:ϧ) (e:Ξ) (cp pos:ϧ):Option (GS T nm N (.Expr (.Call (.Attribute (.Name x p) m ap) [e] [] cp) pos)):=none
def rz (f:av T) (nm:List (θ×Β)) (N:List θ) (e:Ξ) (pos:ϧ):Option (GS T nm N (.Expr e pos)):=do
 let hn ← yes (gW e)
 let a ← f nm N e
 some ⟨.drop a.1,fun X k=>vP (a.2 X k.toCxOk).1 (cS hn.down)⟩
def AY (f:av T) (nm:List (θ×Β)) (N:List θ) (j:Nat) (p:ϧ) (k:Nat) (q pos:ϧ):(ts vs:List Ξ)→Option (GS T nm N (.Assign [.Tuple ts j p] (.Tuple vs k q) pos)):=fun _ _=>none
def CW (f:av T) (nm:List (θ×Β)) (N:List θ) (x:θ) (p:ϧ) (eb:Ξ) (p2:ϧ) (ee:Ξ) (pos:ϧ):Option (GS T nm N (.Assign [.Subscript (.Name x p) eb p2] ee pos)):=do
 let i ← aK x N
 let hl ← yes (c6 nm x)
 let hd ← no (x == ("__debug__":θ))
 let hc ← no (x == ("__classdict__":θ))
 let hn ← yes (aE eb)
 let b ← f nm N eb
 let e ← f nm N ee
 some ⟨.put (.v i.1) b.1 e.1,fun X k=>vW (k.at i.2) (bH k.sc hl.down) hd.down hc.down hn.down (b.2 X k.toCxOk).1 (e.2 X k.toCxOk).1⟩
def AR (f:av T) (nm:List (θ×Β)) (N:List θ) (eo eb:Ξ) (p2:ϧ) (ee:Ξ) (pos:ϧ):Option (GS T nm N (.Assign [.Subscript eo eb p2] ee pos)):=do
 let hn ← yes (aE eb)
 let o ← f nm N eo
 let hv ← no (isV o.1)
 let b ← f nm N eb
 let e ← f nm N ee
 some ⟨.put o.1 b.1 e.1,fun X k=>vV hn.down hv.down (o.2 X k.toCxOk).1 (b.2 X k.toCxOk).1 (e.2 X k.toCxOk).1⟩
def xZ (f:av T) (nm:List (θ×Β)) (N:List θ) (x:θ) (np:ϧ):(args:List Ξ)→(cp pos:ϧ)→Option (GS T nm N (.Raise (some (.Call (.Name x np) args [] cp)) none pos))
 | [],_,_=>none
 | e :: er,cp,pos=>do
   let j ← aK x T.ex
   let hz ← no (x == ("":θ))
   let hn ← yes ((e :: er).all aE)
   let hg ← yes (bB nm x)
   let hd ← no (x == ("__debug__":θ))
   let a ← cq (f nm N) (e :: er)
   some ⟨.rais j.1 a.1,fun X k=>by
    obtain ⟨lv,cl,i,fI,fd,ps,Bx,nwI,iniI,bmB,h1,h2,h3,h4,h5,h6,h7,h8,h9,h10,h11,h12,h13,h14,h15,h16⟩:=k.rs j.1 x j.2 (by simpa using hz.down)
    have hn':=Ψ.mp hn.down
    obtain ⟨ck,h3,hk⟩:=h3
    exact tu h1 h2 h3 hk h4 h5 h6 h7 h8 h9 h10 h11 h16 h12 h13 h14 k.calm (ba k.sc hg.down) h15 (a.2 X k.toCxOk) hd.down (ag (hn' e κ)) (bM fun y hy=>hn' y (υ _ hy))⟩
def rA (T:Ns) (nm:List (θ×Β)) (N:List θ):(es:List Ξ)→Option {c:E // ∀ X,CxOk T X nm N→TxP X es c}
 | []=>some ⟨.nil,fun _ _=>.nil⟩
 | .Constant (.str x) j p :: r=>do
   let h ← yes (decide (x.length≤1000))
   let a ← rA T nm N r
   some ⟨a.1,fun X k=>.c (by simpa using h.down) (a.2 X k)⟩
 | .FormattedValue (.Name x p) (.negSucc 0) none q :: r=>(do
   let hl ← yes (bB nm x)
   let hd ← no (x == ("__debug__":θ))
   let j ← aK x T.gl
   let a ← rA T nm N r
   (some ⟨.cons (.op .add (.g j.1) (.c (.int 0))) a.1,fun X k=>by
    obtain ⟨d,u,h1,h2,h3⟩:=k.gls j.1 x j.2
    exact .g (ba k.sc hl.down) h2 h1 h3 hd.down (a.2 X k)⟩:Option {c:E // ∀ X,CxOk T X nm N→TxP X (.FormattedValue (.Name x p) (.negSucc 0) none q :: r) c})).orElse fun _=>do
   let i ← aK x N
   let hl ← yes (c6 nm x)
   let hd ← no ((x == ("__debug__":θ)) || (x == ("__classdict__":θ)))
   let a ← rA T nm N r
   some ⟨.cons (.op .add (.v i.1) (.c (.int 0))) a.1,fun X k=>.f (by rw [k.hN];exact i.2) (bH k.sc hl.down) hd.down (a.2 X k)⟩
 | .FormattedValue (.Name x p) (.ofNat 114) none q :: r=>do
   let i ← aK x N
   let hl ← yes (c6 nm x)
   let hd ← no ((x == ("__debug__":θ)) || (x == ("__classdict__":θ)))
   let a ← rA T nm N r
   some ⟨.cons (.op .add (.v i.1) (.c (.str ""))) a.1,fun X k=>.r (by rw [k.hN];exact i.2) (bH k.sc hl.down) hd.down (a.2 X k)⟩
 | _=>none
def C6 (T:Ns) (nm:List (θ×Β)) (N:List θ):(e:Ξ)→Option {c:E // ∀ X,CxOk T X nm N→TxA X e c}
 | .Constant (.str x) j p=>do
   let h ← yes (decide (x.length≤1000))
   some ⟨.nil,fun X k=>.c (by simpa using h.down)⟩
 | .JoinedStr (e1 :: e2 :: r) p=>do
   let h ← yes (decide (r.length≤8))
   let a ← rA T nm N (e1 :: e2 :: r)
   some ⟨a.1,fun X k=>.j (a.2 X k) (by simpa using h.down)⟩
 | _=>none
def u5 (nm:List (θ×Β)) (N:List θ) (x:θ) (np:ϧ):(args:List Ξ)→(cp pos:ϧ)→Option (GS T nm N (.Raise (some (.Call (.Name x np) args [] cp)) none pos))
 | [e],cp,pos=>do
   let j ← aK x T.xt
   let hz ← no (x == ("":θ))
   let hn ← yes (aE e)
   let hg ← yes (bB nm x)
   let hd ← no (x == ("__debug__":θ))
   let a ← C6 T nm N e
   some ⟨.rais j.1 a.1,fun X k=>by
    obtain ⟨cl,i,Bx,nwI,iniI,bmB,h1,h2,h3,h4,h5,h6,h7⟩:=k.rt j.1 x j.2 (by simpa using hz.down)
    exact qw h1 h2 h3 h4 h5 h6 k.calm (ba k.sc hg.down) h7 (a.2 X k.toCxOk) hd.down (by rw [ag hn.down];rfl)⟩
 | _,_,_=>none
def xb (nm:List (θ×Β)) (N:List θ) (y:θ) (p1:ϧ) (x:θ) (p pos p2:ϧ):Option (GS T nm N (.Assign [.Attribute (.Name y p1) x p] (.Dict [] [] p2) pos)×GS T nm N (.Assign [.Attribute (.Name y p1) x p] (.List [] p2) pos)):=do
 let j ← aK x T.at_
 let i ← aK y N
 let hl ← yes (c6 nm y)
 let hd ← no (y == ("__debug__":θ))
 let hc ← no (y == ("__classdict__":θ))
 some (⟨.fld (.v i.1) j.1 (.dic .nil),fun X k=>by
  have h:=vS (X:=X) (p:=p) (pos:=pos) (p1:=p1) (p2:=p2) (f:=j.1) k.cls (k.at i.2) (bH k.sc hl.down) hd.down hc.down
  rw [iH j.2] at h
  exact h⟩,⟨.fld (.v i.1) j.1 (.lst .nil),fun X k=>by
  have h:=vT (X:=X) (p:=p) (pos:=pos) (p1:=p1) (p2:=p2) (f:=j.1) k.cls (k.at i.2) (bH k.sc hl.down) hd.down hc.down
  rw [iH j.2] at h
  exact h⟩)
def CM (f:av T) (nm:List (θ×Β)) (N:List θ) (eo:Ξ) (x:θ) (p:ϧ) (ee:Ξ) (pos:ϧ):Option (GS T nm N (.Assign [.Attribute eo x p] ee pos)):=do
 let j ← aK x T.at_
 let o ← f nm N eo
 let e ← f nm N ee
 let hp ← yes (nI e.1)
 some ⟨.fld o.1 j.1 e.1,fun X k=>by
  have h:=zg (X:=X) (p:=p) (pos:=pos) (f:=j.1) k.cls hp.down (o.2 X k.toCxOk).1 (e.2 X k.toCxOk).1
  rw [iH j.2] at h
  exact h⟩
def AG (f:av T) (nm:List (θ×Β)) (N:List θ):(eo:Ξ)→(x:θ)→(p:ϧ)→(ee:Ξ)→(pos:ϧ)→Option (GS T nm N (.Assign [.Attribute eo x p] ee pos))
 | .Name y p1,x,p,.Dict [] [] p2,pos=>(xb nm N y p1 x p pos p2).map (·.1)
 | .Name y p1,x,p,.List [] p2,pos=>(xb nm N y p1 x p pos p2).map (·.2)
 | eo,x,p,ee,pos=>CM f nm N eo x p ee pos
def Cw:(op:Fj)→Option {o:Op // ∀ X:Cx,∃ g,uK X op o g}
 | .Sub=>some ⟨.sub,fun X=>⟨_,uS⟩⟩
 | .Add=>some ⟨.add,fun X=>⟨_,uR⟩⟩
 | _=>none
def CE (nm:List (θ×Β)) (N:List θ) (op:Fj) (pos:ϧ):(tg e:Ξ)→Option (GS T nm N (.AugAssign tg op e pos))
 | .Attribute (.Name y p1) x p,.Constant (.int c) j p2=>do
   let o ← Cw op
   let a ← aK x T.at_
   let i ← aK y N
   let hl ← yes (c6 nm y)
   let hd ← no (y == ("__debug__":θ))
   let hc ← no (y == ("__classdict__":θ))
   some ⟨.fld (.v i.1) a.1 (.op o.1 (.fld (.v i.1) a.1) (.c (.int c))),fun X k=>by
    obtain ⟨g,ar⟩:=o.2 X
    have h:=zd (X:=X) (p:=p) (pos:=pos) (p1:=p1) (p2:=p2) (j:=j) (c:=c) (f:=a.1) k.cls ar (k.at i.2) (bH k.sc hl.down) hd.down hc.down
    rw [iH a.2] at h
    exact h⟩
 | _,_=>none
structure mo (T:Ns) (X:Cx) (nm:List (θ×Β)) (N:List θ):Prop where
 hN:X.N=N
 nd:N.Nodup
 sc:X.env.scope.names=nm
 cls:bQ X T.an
theorem CxOk.su (k:CxOk T X nm N) (e:η):mo T (aB X e) nm N:=⟨k.hN,k.nd,k.sc,fun c cl h=>let ⟨i,h⟩:=k.cls c cl h;⟨i,h.ci,h.cls,h.na,h.wh,h.nm,h.nd,h.xc⟩⟩
def xg (nm:List (θ×Β)) (N:List θ):(e:Ξ)→Option {c:E // ak c=false∧∀ X,mo T X nm N→LE X e c}
 | .Name x pos=>do
   let hd ← no (x == ("__debug__":θ))
   let hc ← no (x == ("__classdict__":θ))
   let hl ← yes (c6 nm x)
   let i ← aK x N
   some ⟨.v i.1,rfl,fun X k=>vH (by rw [k.hN];exact i.2) (bH k.sc hl.down) hd.down hc.down⟩
 | .Constant c j pos=>match c with
   | .none=>some ⟨.c .non,rfl,fun X k=>xi⟩
   | .bool b=>some ⟨.c (.bl b),rfl,fun X k=>A1⟩
   | .int i=>some ⟨.c (.int i),rfl,fun X k=>xh⟩
   | .str x=>some ⟨.c (.str x),rfl,fun X k=>xj⟩
   | _=>none
 | .Attribute (.Name y p) x pos=>do
   let hd ← no (y == ("__debug__":θ))
   let hc ← no (y == ("__classdict__":θ))
   let hl ← yes (c6 nm y)
   let i ← aK y N
   let j ← aK x T.at_
   let hs ← yes (bc (.Name y p))
   some ⟨.fld (.v i.1) j.1,rfl,fun X k=>rV (iH j.2) k.cls (vH (by rw [k.hN];exact i.2) (bH k.sc hl.down) hd.down hc.down) hs.down⟩
 | _=>none
def AV (nm:List (θ×Β)) (N:List θ):(es:List Ξ)→Option {c:E // ∀ X,mo T X nm N→LA X es c}
 | []=>some ⟨.nil,fun X k=>sK⟩
 | e :: r=>do
   let h ← yes (aE e)
   let a ← xg (T:=T) nm N e
   let b ← AV nm N r
   some ⟨.cons a.1 b.1,fun X k=>oW (a.2.2 X k) (b.2 X k) (ag h.down)⟩
def AX (nm:List (θ×Β)) (N:List θ):(e:Ξ)→Option {c:E // ak c=false∧∀ X,mo T X nm N→LE X e c}
 | .Tuple es n pos=>(AV (T:=T) nm N es).map fun a=>⟨.tup a.1,rfl,fun X k=>mW (a.2 X k)⟩
 | e=>xg nm N e
def cSu (nm:List (θ×Β)) (N:List θ):(st:Ø)→Option {c:S // ∀ X,mo T X nm N→LS X st c}
 | .Return (some e) pos=>(AX (T:=T) nm N e).map fun a=>⟨.ret a.1,fun X k=>gU (a.2.2 X k)⟩
 | .Assign [.Name x p] e pos=>do
   let i ← aK x N
   let hl ← yes (fF true nm x)
   let hn ← yes (gW e)
   let a ← AX (T:=T) nm N e
   some ⟨.set i.1 a.1,fun X k=>fG (by rw [k.hN];exact k.nd) (by rw [k.hN];exact i.2) (by
    have l1:nm.lookup x=some .local∨nm.lookup x=some .cell:=by have:=hl.down;unfold fF at this;simpa using this
    show X.env.scope.names.lookup x=_∨X.env.scope.names.lookup x=_
    rw [k.sc];exact l1) (a.2.2 X k) (fun q=>by rw [a.2.1] at q;cases q) (cS hn.down)⟩
 | _=>none
theorem m7 {st:Ø}:LS X st (.hand 0 none .skip .skip):=fun z I nb=>ZX rfl nb
def AW (nm:List (θ×Β)) (N:List θ) (st:Ø):{c:S // ∀ X,mo T X nm N→LS X st c}:=(cSu (T:=T) nm N st).getD ⟨.hand 0 none .skip .skip,fun X k=>m7⟩
def ya (nm:List (θ×Β)) (N:List θ):(st:List Ø)→Option {c:S // ∀ X,mo T X nm N→LSs X st c}
 | []=>some ⟨.skip,fun X k=>ti⟩
 | [a]=>let x:=AW (T:=T) nm N a;some ⟨x.1,fun X k=>tj (x.2 X k)⟩
 | a :: b :: r=>do
   let x:=AW (T:=T) nm N a
   let y ← ya nm N (b :: r)
   some ⟨.seq x.1 y.1,fun X k=>oY (x.2 X k) (y.2 X k)⟩
def cHs (nm:List (θ×Β)) (N:List θ):(hs:List Ć)→Option {r:S // ∀ X,CxS T X nm N→HL X hs r}
 | []=>some ⟨.skip,fun X k=>yt k.fr⟩
 | .ExceptHandler (some (.Name Bn np)) (some x) (b₀ :: suite) hpos :: hs=>do
   let j ← aK Bn T.hx
   let hz ← no (Bn == ("":θ))
   let hg ← yes (bB nm Bn)
   let hd ← no (Bn == ("__debug__":θ))
   let i ← aK x N
   let hl ← yes (nm.lookup x == some .local)
   let b ← ya (T:=T) nm N (b₀ :: suite)
   let r ← cHs nm N hs
   some ⟨.hand j.1 (some i.1) b.1 r.1,fun X k=>Bq (fun e=>b.2 _ (k.toCxOk.su e)) (k.hxs j.1 Bn j.2 (by simpa using hz.down)) (ba k.sc hg.down) hd.down k.ndx (k.at i.2) (by rw [k.sc];simpa using hl.down) (r.2 X k)⟩
 | .ExceptHandler (some (.Name Bn np)) none (b₀ :: suite) hpos :: hs=>do
   let j ← aK Bn T.hx
   let hz ← no (Bn == ("":θ))
   let hg ← yes (bB nm Bn)
   let hd ← no (Bn == ("__debug__":θ))
   let b ← ya (T:=T) nm N (b₀ :: suite)
   let r ← cHs nm N hs
   some ⟨.hand j.1 none b.1 r.1,fun X k=>Bs (fun e=>b.2 _ (k.toCxOk.su e)) (k.hxs j.1 Bn j.2 (by simpa using hz.down)) (ba k.sc hg.down) hd.down (r.2 X k)⟩
 | _=>none
def C5 (a:GSs T nm N body):(hs:List Ć)→(pos:ϧ)→Option (GS T nm N (.Try body hs [] [] pos))
 | h0 :: hs,pos=>(cHs nm N (h0 :: hs)).map fun r=>⟨.try_ a.1 r.1,fun X k=>zj k.fr (a.2 X k) (r.2 X k)⟩
 | _,_=>none
def AS (f:av T) (nm:List (θ×Β)) (N:List θ) (er:List Ξ) (p2 pos:ϧ):Option (GS T nm N (.Return (some (.List er p2)) pos)):=do
 let _ ← yes (N.any fun x=>T.mu.contains x)
 let a ← cq (f nm N) er
 some ⟨.ret (.newl a.1),fun X k=>gU (jD (a.2 X k.toCxOk))⟩
def AT (f:av T) (nm:List (θ×Β)) (N:List θ) (e:Ξ) (pos:ϧ):Option (GS T nm N (.Return (some e) pos)):=do
 let a ← f nm N e
 match h:N.any (fun x=>T.mu.contains x) && ak a.1 with
 | true=>some ⟨.ret (.sto a.1),fun X k=>gU (mV ((a.2 X k.toCxOk).2 (Fy.mp h).2))⟩
 | false=>some ⟨.ret a.1,fun X k=>gU (a.2 X k.toCxOk).1⟩
def cRp (f:av T) (nm:List (θ×Β)) (N:List θ) (h:∀ st,Option (GSs T nm N st)):(a b:Ø)→(r:List Ø)→Option (GSs T nm N (a :: b :: r))
 | .If (.Compare (.Call (.Name l p1) [ea] [] p2) [op] [eb] p3) sa sb p4,.Assign [.Name y p5] (.Call (.Attribute (.Call (.Attribute (.Name x p6) m1 ap1) [.Constant (.str y1) j1 q1,.Constant (.str z1) j2 q2] [] p7) m2 ap2) [.Constant (.str y2) j3 q3,.Constant (.str z2) j4 q4] [] p8) p9,r=>do
   let hl ← isP "len" l
   let hm1 ← isP "replace" m1
   let hm2 ← isP "replace" m2
   let g ← gD T nm "len"
   let he ← yes (aE ea)
   let o ← u6 op
   let hb ← yes (aE eb)
   let a ← f nm N ea
   let b ← f nm N eb
   let c1 ← h sa
   let c2 ← h sb
   let i ← aK y N
   let hi ← yes (fF true nm y)
   let k ← aK x N
   let hv ← yes (c6 nm x)
   let hd ← no (x == ("__debug__":θ))
   let hc ← no (x == ("__classdict__":θ))
   let h1 ← no (y1 == z1)
   let h2 ← no (y2 == z2)
   let hp1 ← yes (ap1.endLine == p7.line)
   let hp2 ← yes (ap2.endLine == p8.line)
   let c3 ← h r
   some ⟨.seq (.ifs (.op o.1 (.bi .len (.cons a.1 .nil)) b.1) c1.1 c2.1) (.seq (.set i.1 (.sm (.rep y2 z2) (.sm (.rep y1 z1) (.v k.1)))) c3.1),fun X q=>by
    obtain rfl:=hl.down
    obtain rfl:=hm1.down
    obtain rfl:=hm2.down
    have E:LE X.on (.Name x p6) (.v k.1):=vH (X:=X.on) (q.at k.2) (bH q.sc hv.down) hd.down hc.down
    have E1:=sS (X:=X.on) (j1:=j1) (j2:=j2) (p1:=q1) (p2:=q2) DY h1.down E (aw rfl) hp1.down
    have E2:=sS (X:=X.on) (j1:=j3) (j2:=j4) (p1:=q3) (p2:=q4) DY h2.down E1 (aw rfl) hp2.down
    exact tf (zi (v6 (o.2 X) (vC (bz q.toCxOk g.down boot_len) (a.2 X q.toCxOk).1 (by rw [ag he.down])) (b.2 X q.toCxOk).1 (d8 hb.down)) (c1.2 X q) (c2.2 X q)) (fG (X:=X.on) q.ndx (q.at i.2) (show Loc X.env.scope y from cX q.tg hi.down) E2 (fun z=>nomatch z) (cS rfl)) (c3.2 X q)⟩
 | _,_,_=>none
mutual
noncomputable def C2 (f:av T) (g:ir T) (nm:List (θ×Β)) (N:List θ):(n:Nat)→(st:Ø)→Option (GS T nm N st)
 | 0,_=>none
 | _+1,.Pass pos=>some ⟨.skip,fun X k=>vU⟩
 | _+1,.Return none pos=>some ⟨.ret (.c .non),fun X k=>vX⟩
 | _+1,.Return (some (.List er p2)) pos=>(AS f nm N er p2 pos).orElse fun _=>(f nm N (.List er p2)).map fun a=>⟨.ret a.1,fun X k=>gU (a.2 X k.toCxOk).1⟩
 | _+1,.Return (some e) pos=>AT f nm N e pos
 | _+1,.Expr (.Constant (.str x) j p) pos=>some ⟨.skip,fun X k=>ze⟩
 | _+1,.Expr (.Call (.Attribute (.Attribute o2 f2 ap2) m ap) [e] [] cp) pos=>(w9 f nm N (.Attribute o2 f2 ap2) m ap e cp pos).orElse fun _=>rz f nm N _ pos
 | _+1,.Expr (.Call (.Attribute (.Name x p) m ap) [e] [] cp) pos=>(((if T.rl.contains x then (w9 f nm N (.Name x p) m ap e cp pos).orElse fun _=>AF f nm N (.Name x p) m ap e cp pos else none).orElse fun _=>CC f nm N x p m ap e cp pos).orElse fun _=>CL f nm N x p m ap e cp pos).orElse fun _=>rz f nm N _ pos
 | _+1,.Expr e pos=>rz f nm N e pos
 | _+1,.Assign [.Name x p] e pos=>CZ f g nm N x p pos e
 | _+1,.Assign [.Subscript (.Name x p) eb p2] ee pos=>CW f nm N x p eb p2 ee pos
 | _+1,.Assign [.Subscript eo eb p2] ee pos=>AR f nm N eo eb p2 ee pos
 | _+1,.Raise (some (.Call (.Name x np) args [] cp)) none pos=>(xZ f nm N x np args cp pos).orElse fun _=>u5 nm N x np args cp pos
 | _+1,.Assign [.Attribute eo x p] ee pos=>AG f nm N eo x p ee pos
 | _+1,.AugAssign tg op e pos=>CE nm N op pos tg e
 | _+1,.Assign [.Tuple ts j p] (.Tuple vs k q) pos=>AY f nm N j p k q pos ts vs
 | _+1,.Assign [.Tuple es j p] e pos=>do
   let t ← Ae true nm N es
   let h ← yes (xD e)
   let a ← f nm N e
   some ⟨.setT t.1 a.1,fun X k=>vZ (a.2 X k.toCxOk).1 (sY k.calm k.ndx (t.2.as_ X k.tg) (t.2.len _) (t.2.fst _)) tQ (qC h.down) rfl⟩
 | n+1,.If e sa sb pos=>do
   let c ← g nm N e
   let a ← kc f g nm N n sa
   let b ← kc f g nm N n sb
   some ⟨.ifs c.1 a.1 b.1,fun X k=>BS (c.2 X k.toCxOk) (a.2 X k) (b.2 X k)⟩
 | n+1,.For tg iter body [] pos=>do
   let it ← xd (f nm N) tg iter
   let q ← tgP true nm N tg
   let hn ← yes (aE iter)
   let b ← kc f g nm N n body
   some ⟨.for_ q.1.1 q.1.2 it.1 b.1,fun X k=>zh k.calm (fun z o=>px k.fr) (it.2 X k.toCxOk) (q.2.1 X k.tg) (b.2 X k) (iT hn.down)⟩
 | n+1,.While e body [] pos=>do
   let c ← g nm N e
   let b ← kc f g nm N n body
   some ⟨.whl c.1 b.1,fun X k=>tA (fun z o=>px k.fr) (c.2 X k.toCxOk) (b.2 X k)⟩
 | n+1,.Try body hs [] [] pos=>do
   let a ← kc f g nm N n body
   C5 a hs pos
 | _,_=>none
noncomputable def cSt (f:av T) (g:ir T) (nm:List (θ×Β)) (N:List θ):(n:Nat)→(st:Ø)→Option (GS T nm N st)
 | 0,st=>some ⟨.hand 0 none .skip .skip,fun X k=>m7⟩
 | n+1,st=>some ((C2 f g nm N n st).getD ⟨.hand 0 none .skip .skip,fun X k=>m7⟩)
noncomputable def kc (f:av T) (g:ir T) (nm:List (θ×Β)) (N:List θ):(n:Nat)→(st:List Ø)→Option (GSs T nm N st)
 | 0,_=>none
 | _+1,[]=>some ⟨.skip,fun X k=>ti⟩
 | n+1,[a]=>(cSt f g nm N n a).map fun x=>⟨x.1,fun X k=>tj (x.2 X k)⟩
 | n+1,a :: b :: r=>(cRp f nm N (kc f g nm N n) a b r).orElse fun _=>do
   let x ← cSt f g nm N n a
   let y ← kc f g nm N n (b :: r)
   some ⟨.seq x.1 y.1,fun X k=>oY (x.2 X k) (y.2 X k)⟩
end
end
def cv (st:Ø):List θ:=(aG st).args.map (·.arg)
def m5 (st:Ø):List θ:=cv st ++ ((au st).names.filter fun y=>(y.2 == .local || y.2 == .cell) && !(cv st).contains y.1).map (·.1)
def dfB (st:Ø):Option Bool:=match (aG st).defaults with
 | [.Constant (.bool b) _ _]=>some b
 | _=>none
def DfV (K:ς) (dV:η):Option Bool→Prop
 | none=>dV = .none
 | some b=>∃ T o n,dV = .ref T∧K.lookup T=some o∧o.data = .seq #[.bool b] n
structure l9 (K:ς) (x qual:θ) (st:Ø) (f:Δ) (fd:á):Prop where
 ex:∃ (oc:η) (od:Option Δ) (dV kV doc pm:η) (an:Option Δ) (cdv ct:η) (osl:Array (Option η)),
  fd=Ê x qual (aG st) (bY st) (au st) dV kV doc pm an cdv ct∧K.lookup f=some ⟨oc,od,.func fd,osl⟩∧ñ K cdv qual=true∧DfV K dV (dfB st)
 kp:Ϝ K (.ref f)=true
def dfT (T:Ns) (st:Ø):Option Bool:=if T.mu.contains "#d" then dfB st else none
def dfD:Option Bool→List D
 | some b=>[.bl b]
 | none=>[]
def dfU:Option Bool→List η
 | some b=>[.bool b]
 | none=>[]
theorem A4:∀ (o:Option Bool) (ρ:Rs) (G:Hp),RDs W ρ G (dfD o) (dfU o)
 | none,_,_=>rfl
 | some b,_,_=>.cons rfl rfl
def fS (T:Ns) (st:Ø):Option Fn:=(kc (qe T 200).1 (qe T 200).2 (au st).names (m5 st) 200 (bY st)).map fun c=>⟨(cv st).length,(m5 st).length,c.1,dfD (dfT T st)⟩
structure uL (T:Ns) (X:Cx) (ad:List Δ) (lv:Nat):Prop where
 calm:X.calm=true
 fns:∀ (j:Nat) (f:Δ),ad[j]? = some f→∃ x qual st fd fn mu al fc oc,l9 X.K x qual st f fd∧b6 X.K fd (cv st) (dfU (dfT { T with mu:=mu,alt:=al,fc:=fc,oc:=oc } st))∧ez (m5 st) (cv st) (au st)∧X.Γ.fn[j]? = some fn∧fS { T with mu:=mu,alt:=al,fc:=fc,oc:=oc } st=some fn
 glb:∀ (j:Nat) (x:θ),T.fn[j]? = some x→∃ f,ad[j]? = some f∧X.mg x=some (.ref f)
 gls:∀ (j:Nat) (x:θ),T.gl[j]? = some x→∃ d u,X.Γ.gl[j]? = some d∧X.mg x=some u∧aT X.K d u=true
 tbs:∀ (j:Nat) (x:θ),T.tb[j]? = some x→∃ t a,X.Γ.tb[j]? = some t∧X.mg x=some (.ref a)∧TbL X a t
 blt:∀ x∈T.bl,X.mg x=none
 cls:bQ X T.an
 mts:∀ q∈T.me,∃ f,ad[q.2.2]? = some f∧pS X T.an q.1 q.2.1 f
 nws:∀ (j:Nat) (x:θ),T.nw[j]? = some x→x≠""→∃ f i cl,ad[cl.init]? = some f∧Mk X.K i.ad f∧X.Γ.cl[j]? = some cl∧cl.what=0∧X.W.ci[j]? = some i∧X.W.what[j]? = some 0∧X.mg x=some (.ref i.ad)
 nds:∀ (j:Nat) (x:θ),T.nd[j]? = some x→x≠""→∃ f fd ps i cl,FnI X lv f fd ps i.nm none∧b6 X.K fd ps []∧Mk X.K i.ad f∧Cls X.K i.ad∧(∀ f∈i.nm,dq X.K i.ad f)∧X.Γ.cl[j]? = some cl∧X.W.ci[j]? = some i∧X.W.what[j]? = some 1∧i.nm.length=cl.at_.length∧X.mg x=some (.ref i.ad)
 rs:∀ (j:Nat) (x:θ),T.ex[j]? = some x→x≠""→∃ (k:Cl) (i:CI) (fI:Δ) (fd:á) (ps:List θ) (Bx nwI iniI:String) (bmB:List η),ÿ Bx nwI iniI bmB∧iq X.K i.ad fI bmB nwI∧FnJ X lv fI fd ps i.nm k i.ad∧b6 X.K fd ps []∧gy X.K i.ad∧(∀ f∈i.nm,Υ X.K (.ref i.ad) f=some none)∧X.Γ.cl[j]? = some k∧X.W.ci[j]? = some i∧X.W.what[j]? = some 2∧i.nm.length=k.at_.length∧Ω X.K i.ad (.type "BaseException")=some true∧ð X.K (.ref i.ad)=some (.type "type")∧Ϝ X.K (.ref i.ad)=true∧X.mg x=some (.ref i.ad)∧k.at_.isEmpty=false
 hxs:∀ (j:Nat) (x:θ),T.hx[j]? = some x→x≠""→pR X j x
 rt:∀ (j:Nat) (x:θ),T.xt[j]? = some x→x≠""→RtP X j x
 vxs:T.vx=true→xO X
section
variable {X:Cx} {T:Ns} {ad:List Δ} {lv:Nat}
theorem cE.to {A:ϗ} {fr:List Ų} {N:List θ} {e:Ų} {c1 d1:Nat→List D→List O→Res} (h:cE X an c k i):cE (X.to A fr N e c1 d1) an c k i:=⟨h.ci,h.cls,h.na,h.wh,h.nm,h.nd,h.xc⟩
theorem qG (Pg:uL T X ad lv) (n:Nat) (ih:∀ (j:Nat) (f:Δ),ad[j]? = some f→bT X (af X.Γ n) (lv+1+n) j f) (ih1:∀ (j:Nat) (f:Δ),ad[j]? = some f→∃ m,m+1≤lv+1+n∧bT X (ao X.Γ n) m j f) {j:Nat} {f:Δ} (h:ad[j]? = some f):bT X (af X.Γ (n+1)) (lv+1+(n+1)) j f:=by
 obtain ⟨x,qual,st,fd,fn,mu,al,fc,oc,Fu,b,Sc,hj,hc⟩:=Pg.fns j f h
 obtain ⟨oc',od,dV,kV,doc,pm,an,cd,ct,osl,rfl,lk,hcd,_⟩:=Fu.ex
 unfold fS at hc
 obtain ⟨c,_,rfl⟩:=Α.mp hc
 refine ⟨_,_,_,Bc (cal:=af X.Γ n) (cal1:=ao X.Γ n) (k:=lv+1+n) lk hcd Sc hj (A4 _) fun A fr L hr=>c.2 _ ⟨⟨rfl,Sc.nd,rfl,Sc.kind,Pg.calm,fun i y hy=>?_,Pg.gls,Pg.tbs,Pg.blt,fun c cl h=>let ⟨i,h⟩:=Pg.cls c cl h;⟨i,h.to⟩,fun q hq=>?_,fun i y hy hz=>?_,fun i y hy hz=>?_,Pg.hxs,⟨⟨_,fr,rfl,rfl⟩,⟨_,rfl⟩⟩,Pg.vxs⟩,fun i y hy hz=>?_,Pg.rt⟩,b,Fu.kp⟩
 ·obtain ⟨g,h1,h2⟩:=Pg.glb i y hy
  exact ⟨_,g,(ih i g h1).to,hr,h2⟩
 ·obtain ⟨g,h1,⟨i,k,a1,a2,a3⟩⟩:=Pg.mts q hq
  exact ⟨_,g,(ih _ g h1).to,hr,⟨i,k,a1,a2.to,a3⟩⟩
 ·obtain ⟨g,ci,cl,h1,h2⟩:=Pg.nws i y hy hz
  obtain ⟨m,hm,h3⟩:=ih1 _ g h1
  exact ⟨m,g,ci,cl,h3.to,hr.mono hm,h2⟩
 ·obtain ⟨g,fd,ps,ci,cl,h1,h2,h3⟩:=Pg.nds i y hy hz
  exact ⟨lv,g,fd,ps,ci,cl,h1.to,h2,hr.mono (by omega),h3⟩
 ·obtain ⟨k,ci,fI,fd,ps,Bx,nwI,iniI,bmB,h1,h2,h3,h4,h5⟩:=Pg.rs i y hy hz
  exact ⟨lv,k,ci,fI,fd,ps,Bx,nwI,iniI,bmB,h1,h2,h3.to,h4,hr.mono (by omega),h5⟩
theorem oB (Pg:uL T X ad lv) {j:Nat} {f:Δ} (h:ad[j]? = some f) {cal:Nat→List D→List O→Res} (no:∀ ds st,cal j ds st = .bad) (m:Nat):bT X cal m j f:=by
 obtain ⟨x,qual,st,fd,fn,mu,al,fc,oc,Fu,b,_⟩:=Pg.fns j f h
 exact ⟨fd,_,_,⟨fun ds st nb=>ZX (no ds st) nb,fun A fr z args us ds _ _ _ _ nb=>ZX (no ds _) nb⟩,b,Fu.kp⟩
theorem jL (Pg:uL T X ad lv):∀ (n j:Nat) (f:Δ),ad[j]? = some f→bT X (af X.Γ n) (lv+1+n) j f
 | 0,j,f,h=>oB Pg h (fun _ _=>rfl) _
 | n+1,j,f,h=>qG Pg n (jL Pg n) (fun i g hg=>by
   match n with
   | 0=>exact ⟨0,by omega,oB Pg hg (fun _ _=>rfl) _⟩
   | n'+1=>exact ⟨lv+1+n',by omega,jL Pg n' i g hg⟩) h
end
theorem lr {vs:List η} {ns:List Int} (h:Gi vs ns):RDs W ρ G (ns.map D.int) vs:=by
 induction h with
 | nil=>exact rfl
 | cons n t h ih=>exact .cons ⟨t,rfl⟩ ih
theorem sL {X:Cx} {Γ:Gm} {n j k:Nat} {fa a:Δ} {s₁:τ} {vs:List η} {ns:List Int} (md:Mod X.K X.mg X.base) (hb:X.base=s₁.heap) (os:X.os=s₁.os) (hc:X.calm=true) (h0:X.tz=0) (hg:s₁.gens = #[])
 (ha:s₁.heap.get? a=some { cls:=.type "list",data:=.seq vs.toArray }) (hi:Gi vs ns) (hl:ns.length≤ϙ) (hr:bv k Eg)
 (F:bT X (af Γ n) k j fa) (hlaw:∃ st',af Γ n j [.lst (ns.map .int)] [] = .ok (.bl true) st') :
 Ĳ X.M Eg (.call (.ref fa) ⟨[.ref a],[]⟩) (fun r s'=>r = .ok (.ret (.bool true))∧OldK s₁.heap s'.heap∧s'.os=s₁.os∧ŏ s'.gens) s₁:=by
 obtain ⟨st',e⟩:=hlaw
 obtain ⟨fd,ps,dvs,F,hbd,_⟩:=F
 have hp:=F.len [.lst (ns.map .int)] [] (by rw [e];exact fun z=>nomatch z)
 have nm:∀ {b},¬ Mu ([]:Rs) b:=fun ⟨p,m,_⟩=>nomatch m
 have I:HR { X with A:=Eg,fr:=[] } ⟨[],s₁.heap.get?,⟨[],[],[]⟩,[],s₁⟩:=⟨md,rfl,fun _=>hr.hd,(fun b o e=>by rw [hb] at e;exact e),.refl _,rfl,(fun i j p q b h=>by simp at h),fun b m=>(nm m).elim,(fun n o p h=>by simp at h),trivial,(fun b m=>nomatch m),(by show ŏ s₁.gens;rw [hg];exact fun g h=>by simp at h),os.symm,(by show X.tz≤_;rw [h0];exact À _)⟩
 refine ü (F.run Eg [] ⟨[],s₁.heap.get?,⟨[],[],[]⟩,[],s₁⟩ ⟨[.ref a],[]⟩ [.ref a] [.lst (ns.map .int)] hr I (hbd s₁ [.ref a] (hb ▸ md.kin) (by rw [ζ];exact hp)) (.cons ⟨a,_,vs,rfl,ha,⟨⟨_,rfl⟩,by rw [hi.length];exact hl⟩,lr hi⟩ rfl) (by rw [e];exact fun z=>nomatch z)) fun r s' hq=>?_
 rw [e] at hq
 cases r with
 | error u=>obtain ⟨_,_,_,_,z,_⟩:=hq;cases z
 | ok fl=>cases fl with
   | ret u=>
     obtain ⟨z',d,q1,q2,S,H,rd⟩:=hq
     subst q1
     cases q2
     cases (show u=Ϣ true from rd)
     have keep:∀ b o,s₁.heap.get? b=some o→z'.s.heap.get? b=some o:=fun b o e=>S.sm b o e nm (fun z=>z) (fun m=>nomatch m)
     exact ⟨rfl,OldK.of_keep keep,H.os.trans os,H.br⟩
   | _=>exact hq.elim
theorem wQ {l:FT} {n k lv:Nat} {q:Î} {loose:List θ} {XP:(θ→Option η)→Â→Prop} {YP:é→Â→Prop} {d:DefRec} {K:Params→ς} {j:Nat} {Γ:Gm}
 (hn:l.most=some n) (hn2:n≤ϙ) (hdf:d.params.defaults = []) (hr:bv lv Eg) (hY:∀ (w:é) (h:Â),YP w h→(K w.params).In h)
 (F:∀ (w:é) (mg:θ→Option η) (fa:Δ) (h:Â) (os:Ga),(K w.params).In h→h.Ns ϔ mg→mg d.name=some (.ref fa)→Mod (K w.params) mg h →
  ∃ X:Cx,X.W.P=l.prog∧X.W.w=w∧X.K=K w.params∧X.mg=mg∧X.base=h∧X.os=os∧X.calm=true∧X.tz=0∧bT X (af Γ k) lv j fa)
 (hlaw:∀ ns:List Int,ns.length≤n→∃ st',af Γ k j [.lst (ns.map .int)] [] = .ok (.bl true) st'):Gv q loose XP YP l.row.toRowW d [] (fun f vs=>FE f vs):=by
 refine Att.attach_call hn hdf fun w s₀ s₁ mg mb fa o pm cd doc a vs ns G Y ho hd hcd hmg hobj hints hlen hg=>?_
 have KX:=hY w _ Y
 have md:Mod (K w.params) mg s₁.heap:=⟨KX,G.T.g,⟨mb,G.T.b,G.T.builtins⟩,G.T.nolimit⟩
 obtain ⟨X,e1,e2,e3,e4,e5,e6,e7,e8,hF⟩:=F w mg fa s₁.heap s₁.os KX G.T.g hmg md
 have:=sL (X:=X) (by rw [e3,e4,e5];exact md) e5 e6 e7 e8 hg hobj hints (Õ hlen hn2) hr hF (hlaw ns hlen)
 rw [show X.M=model l.prog w by show model X.W.P X.W.w=_;rw [e1,e2]] at this
 exact this
def FnF (T:Ns) (K:ς) (Γ:Gm) (j:Nat) (f:Δ):Prop:=∃ x qual st fd fn mu al fc oc,l9 K x qual st f fd∧b6 K fd (cv st) (dfU (dfT { T with mu:=mu,alt:=al,fc:=fc,oc:=oc } st))∧ez (m5 st) (cv st) (au st)∧Γ.fn[j]? = some fn∧fS { T with mu:=mu,alt:=al,fc:=fc,oc:=oc } st=some fn
theorem gS:∀ {ps:List θ} {us:List η},ps.Nodup→us.length=ps.length→ps.filterMap (fun n=>((ps.zip us).lookup n).map (n,·))=ps.zip us
 | [],[],_,_=>rfl
 | p :: ps,u :: us,nd,hl=>by
   have ih:=gS (ϫ.mp nd).2 (by simpa using hl)
   rw [ϥ]
   simp only [Ù,ē,ZT,Option.map_some]
   congr 1
   have:∀ l:List θ,(∀ n∈l,n∈ps)→l.filterMap (fun n=>((match n == p with | true=>some u | false=>(ps.zip us).lookup n).map fun x=>(n,x)))=l.filterMap fun n=>((ps.zip us).lookup n).map fun x=>(n,x):=fun l=>by
    induction l with
    | nil=>intro _;rfl
    | cons n l ih=>
      intro h
      have q:(n == p)=false:=ZU.mpr fun e=>(ϫ.mp nd).1 (e ▸ h n κ)
      rw [ϥ,ϥ,ih fun m hm=>h m (υ _ hm),q]
   exact (this ps fun _ h=>h).trans ih
 | [],_ :: _,_,hl=>by simp at hl
 | _ :: _,[],_,hl=>by simp at hl
theorem i3:∀ {ps:List θ} {us:List η},us.length=ps.length→(ps.filter fun n=>((ps.zip us).lookup n).isNone) = []:=by
 intro ps us hl
 rw [Ó]
 intro n hn
 have:((ps.zip us).lookup n).isSome=true:=by
  induction ps generalizing us with
  | nil=>cases hn
  | cons p ps ih=>
    cases us with
    | nil=>simp at hl
    | cons u us=>
      rw [Ù,ē]
      cases e:n == p with
      | true=>rfl
      | false=>
        rcases φ.mp hn with q | q
        ·subst q;simp at e
        ·exact ih (by simpa using hl) q
 cases e:(ps.zip us).lookup n with
 | none=>rw [e] at this;cases this
 | some v=>simp
theorem gC {p:G4} {x q:θ} {body:List Ø} {sc:Ą} {kV doc pm cd ct:η} {an:Option Δ} {us:List η} (h1:p.posonlyargs = []) (h2:p.kwonlyargs = []) (h3:p.vararg=none) (h4:p.kwarg=none) (nd:(p.args.map (·.arg)).Nodup) (hl:us.length=(p.args.map (·.arg)).length) :
 bindArgs (Ê x q p body sc .none kV doc pm an cd ct) ⟨us,[]⟩=pure ((p.args.map (·.arg)).zip us):=by
 have e1:=i3 hl
 have e2:=gS nd hl
 obtain ⟨a1,a2,a3,a4,a5,a6,a7⟩:=p
 cases h1;cases h2;cases h3;cases h4
 refine Eq.trans (ZY (c:=((decide (us.length>(a2.map (·.arg)).length)) && true)=true) ?_) ?_
 ·rw [hl];simp
 refine Eq.trans (ZY ?_) ?_
 ·show ¬ (!((a2.map (·.arg)).take ((a2.map (·.arg)).length - (List.drop (0 - (a2.map (·.arg)).length) ([]:List η)).length) |>.filter fun n=>(((a2.map (·.arg)).zip us).lookup n).isNone).isEmpty)=true
  rw [Hm,Ϧ,Ĥ,DL,e1];exact fun h=>nomatch h
 have e3:∀ n:Nat,List.drop n ([]:List η) = []:=fun _=>Hm
 show (forIn ((List.drop ((List.map ED a2).length - (List.drop (0 - (List.map ED a2).length) ([]:List η)).length) (List.map ED a2)).zip (List.drop (0 - (List.map ED a2).length) ([]:List η))) _ _ >>= _)=_
 rw [e3,ĩ]
 show (pure ((List.map ED a2 ++ []).filterMap fun n=>(((List.map ED a2).zip us).lookup n).map (n,·)):DR _)=_
 rw [Ν]
 exact ZS pure e2
theorem dH {α β:Type}:∀ {qs:List α} {us:List β} {x:α} {v:β},us.length=qs.length→(qs ++ [x]).zip (us ++ [v])=qs.zip us ++ [(x,v)]
 | [],[],_,_,_=>rfl
 | _ :: _,_ :: _,_,_,h=>by rw [Ĕ,Ĕ,Ù,dH (by simpa using h)];rfl
 | [],_ :: _,_,_,h=>by simp at h
 | _ :: _,[],_,_,h=>by simp at h
theorem l6 {α β:Type}:∀ {qs:List α} {us:List β} {x:α},us.length=qs.length→(qs ++ [x]).zip us=qs.zip us
 | [],[],_,_=>rfl
 | _ :: _,_ :: _,_,h=>by rw [Ĕ,Ù,l6 (by simpa using h)];rfl
 | [],_ :: _,_,h=>by simp at h
 | _ :: _,[],_,h=>by simp at h
theorem s9 {qs:List θ} {us:List η} {x:θ} (h:x ∉ qs):((qs.zip us).lookup x)=none:=by
 induction qs generalizing us with
 | nil=>rfl
 | cons q r ih=>
   cases us with
   | nil=>rfl
   | cons u us=>
     rw [Ù,ē]
     have:(x == q)=false:=ZU.mpr fun e=>h (e ▸ κ)
     rw [this];exact ih fun m=>h (υ _ m)
theorem uY {s:τ} {p:G4} {x q:θ} {body:List Ø} {sc:Ą} {kV doc pm cd ct:η} {an:Option Δ} {us:List η} {T:Δ} {o:FX} {b:Bool} {n:Nat} (h1:p.posonlyargs = []) (h2:p.kwonlyargs = []) (h3:p.vararg=none) (h4:p.kwarg=none) (nd:(p.args.map (·.arg)).Nodup) (ho:s.heap.get? T=some o) (hd:o.data = .seq #[.bool b] n) (hn:p.args≠[]) (ds:List η) (hds:ds = []∨ds = [.bool b]) (hl:(us ++ ds).length=(p.args.map (·.arg)).length) :
 Hz s (Ê x q p body sc (.ref T) kV doc pm an cd ct) ⟨us,[]⟩ ((p.args.map (·.arg)).zip (us ++ ds)):=by
 obtain ⟨a1,a2,a3,a4,a5,a6,a7⟩:=p
 cases h1;cases h2;cases h3;cases h4
 dsimp only at nd hl hn
 obtain ⟨qa,y,rfl⟩:∃ qa y,a2=qa ++ [y]:=⟨_,_,(E5 hn).symm⟩
 rw [Ϭ] at nd hl
 have nd2:=List.nodup_append.mp nd
 have yq:y.arg ∉ qa.map (·.arg):=fun m=>nd2.2.2 _ m _ (by simp) rfl
 refine BindsTo.of_defaults (T:=T) (items:=#[.bool b]) (n:=n) (o:=o) rfl ho hd rfl ?_
 obtain ⟨Q,hQ⟩:∃ Q,List.map (fun x:Arg=>x.arg) qa=Q:=⟨_,rfl⟩
 rw [hQ] at hl yq
 have lq:(List.map (fun x:Arg=>x.arg) (qa ++ [y]))=Q ++ [y.arg]:=by rw [Ϭ,hQ];rfl
 have hl:us.length+ds.length=Q.length+1:=by simpa using hl
 dsimp only
 rw [lq]
 have d1:ds.length≤1:=by rcases hds with rfl | rfl <;> simp
 obtain ⟨vs,r,lv,sl,tg⟩:∃ (vs:List η) (r:List (θ×η)),vs.length=Q.length∧(Q ++ [y.arg]).zip us=Q.zip vs ++ r∧((r = []∧(Q ++ [y.arg]).zip (us ++ ds)=Q.zip vs ++ [(y.arg,.bool b)])∨∃ v,r = [(y.arg,v)]∧(Q ++ [y.arg]).zip (us ++ ds)=Q.zip vs ++ [(y.arg,v)]):=by
  rcases hds with rfl | rfl
  ·have hne:us≠[]:=by rintro rfl;simp at hl
   obtain ⟨vs,v,rfl⟩:∃ vs v,us=vs ++ [v]:=⟨_,_,(E5 hne).symm⟩
   have lv:vs.length=Q.length:=by simpa using hl
   exact ⟨vs,[(y.arg,v)],lv,dH lv,.inr ⟨v,rfl,by rw [Ν];exact dH lv⟩⟩
  ·have lv:us.length=Q.length:=by simpa using hl
   exact ⟨us,[],lv,by rw [Ν];exact l6 lv,.inl ⟨rfl,dH lv⟩⟩
 have tk:(Q ++ [y.arg]).take Q.length=Q:=by rw [List.take_append_of_le_length (ύ _),DL]
 have dr:(Q ++ [y.arg]).drop Q.length = [y.arg]:=by rw [List.drop_append_of_le_length (ύ _),DM];rfl
 have full:∀ (z:List η) ,z.length=Q.length→∀ r,((Q.filter fun n=>((Q.zip z ++ r).lookup n).isNone)) = []:=fun z hz r=>by
  rw [Ó]
  intro n hn
  have e:=i3 (ps:=Q) (us:=z) hz
  rw [Ó] at e
  have e:=e n hn
  cases q:(Q.zip z).lookup n with
  | none=>rw [q] at e;exact ZX rfl e
  | some v=>rw [FZ,q];simp
 have e0:List.drop (1 - (Q.length+1)) [Ϣ b] = [Ϣ b]:=by rw [show 1 - (Q.length+1)=0 by omega];rfl
 refine Eq.trans (ZY ?_) ?_
 ·simp;omega
 have em:((some #[Ϣ b]).getD #[]).toList = [Ϣ b]:=rfl
 have ln:(List.map (fun x:Arg=>x.arg) ([]:List Arg) ++ (Q ++ [y.arg]))=Q ++ [y.arg]:=rfl
 rw [em,ln,ζ,ω,ω,e0,ω,Gb,tk,dr,sl]
 refine Eq.trans (ZY ?_) ?_
 ·rw [full vs lv r];exact fun h=>nomatch h
 rw [Ù,ĩ]
 have lk:∀ w:η,(Q ++ [y.arg]).filterMap (fun n=>((Q.zip vs ++ [(y.arg,w)]).lookup n).map (n,·))=Q.zip vs ++ [(y.arg,w)]:=fun w=>by
  have e:=gS (ps:=Q ++ [y.arg]) (us:=vs ++ [w]) (by rw [← hQ];exact nd) (by simp [lv])
  rwa [dH lv] at e
 have out:=s9 (us:=vs) yq
 have fin:∀ w r,(if (Ft y.arg (Q.zip vs ++ r)).isNone=true then pure (ϴ (Q.zip vs ++ r ++ [(y.arg,Ϣ b)])) else pure (ϴ (Q.zip vs ++ r)):DR (ForInStep (List (θ×η))))=pure (ϴ (Q.zip vs ++ [(y.arg,w)]))→(forIn [(y.arg,Ϣ b)] (Q.zip vs ++ r) (fun x s=>if (Ft x.fst s).isNone=true then pure (ϴ (s ++ [(x.fst,x.snd)])) else pure (ϴ s)):DR _)=pure (Q.zip vs ++ [(y.arg,w)]):=fun w r h=>by
  show ((if (Ft y.arg (Q.zip vs ++ r)).isNone=true then pure (ϴ (Q.zip vs ++ r ++ [(y.arg,Ϣ b)])) else pure (ϴ (Q.zip vs ++ r)):DR (ForInStep (List (θ×η)))) >>= _)=_
  rw [h];rfl
 rcases tg with ⟨rfl,e⟩ | ⟨v,rfl,e⟩
 ·rw [e,fin (.bool b) [] (by rw [Ν,out];rfl)]
  show (pure (H0 _ (Q ++ [y.arg] ++ [])):DR _)=_
  rw [Ν];exact ZS pure (lk _)
 ·rw [e,fin v [(y.arg,v)] (by rw [FZ,out];simp)]
  show (pure (H0 _ (Q ++ [y.arg] ++ [])):DR _)=_
  rw [Ν];exact ZS pure (lk _)
def fnC (st:Ø):Bool:=(aG st).posonlyargs.isEmpty && (aG st).kwonlyargs.isEmpty && (aG st).vararg.isNone && (aG st).kwarg.isNone && (match (au st).kind with | .function=>true | _=>false) && !(au st).isCoroutine && !(au st).isGenerator && ((dfB st).isNone || !(aG st).args.isEmpty) &&
 decide ((m5 st).Nodup∧(m5 st).take (cv st).length=cv st∧(∀ x∈cv st,(au st).names.lookup x=some .local∨(au st).names.lookup x=some .cell)∧∀ y∈(au st).names,y.2≠.free)
theorem yl {st:Ø} (h:fnC st=true):ez (m5 st) (cv st) (au st)∧(∀ {K:ς} {x q:θ} {f:Δ} {fd:á},Fun K x q st f fd→b6 K fd (cv st) [])∧∀ {K:ς} {x q:θ} {f:Δ} {fd:á} (T:Ns),l9 K x q st f fd→b6 K fd (cv st) (dfU (dfT T st)):=by
 unfold fnC at h
 simp only [Θ,decide_eq_true_eq,Bool.not_eq_true',List.isEmpty_iff,Option.isNone_iff_eq_none] at h
 obtain ⟨⟨⟨⟨⟨⟨⟨⟨h1,h2⟩,h3⟩,h4⟩,h5⟩,h6⟩,h7⟩,hna⟩,h8,h9,h10,h11⟩:=h
 have nd:(cv st).Nodup:=h9 ▸ h8.sublist (Gc _ _)
 refine ⟨⟨(by split at h5 <;> first | assumption | cases h5),h6,h7,h8,h9,h10,h11⟩,fun F=>F.binds fun _ _ _ _ _ _ us hl=>gC h1 h2 h3 h4 nd hl,fun T F=>?_⟩
 obtain ⟨oc,od,dV,kV,doc,pm,an,cdv,ct,osl,rfl,lk,hcd,dv⟩:=F.ex
 unfold dfT
 cases q:dfB st with
 | none=>
   rw [q] at dv
   cases (show dV = .none from dv)
   rw [show (if T.mu.contains "#d" = true then (none:Option Bool) else none)=none by split <;> rfl]
   exact .all fun us hl=>gC h1 h2 h3 h4 nd hl
 | some b=>
   rw [q] at dv
   obtain ⟨t,o,n,rfl,d1,d2⟩:=dv
   have na:(aG st).args≠[]:=fun e=>by rw [q,e] at hna;exact nomatch hna
   intro s us hK hl
   exact uY h1 h2 h3 h4 nd (hK _ _ d1) d2 na _ (by split <;> first | exact .inl rfl | exact .inr rfl) hl
def cT (T:Ns) (st:Ø):Fn:=(fS T st).getD ⟨0,0,.skip,[]⟩
def FsL (K:ς):List (θ×θ×Ø)→List Δ→Prop
 | [],[]=>True
 | p :: r,f :: fs=>(∃ fd,l9 K p.1 p.2.1 p.2.2 f fd)∧FsL K r fs
 | _,_=>False
theorem FsL.app {K:ς}:∀ {l l' fs fs'},FsL K l fs→FsL K l' fs'→FsL K (l ++ l') (fs ++ fs')
 | [],_,[],_,_,h=>h
 | _ :: _,_,_ :: _,_,h,t=>⟨h.1,FsL.app h.2 t⟩
 | [],_,_ :: _,_,h,_=>h.elim
 | _ :: _,_,[],_,h,_=>h.elim
theorem FsL.len {K:ς}:∀ {l fs},FsL K l fs→fs.length=l.length
 | [],[],_=>rfl
 | _ :: _,_ :: _,h=>ZS (· + 1) h.2.len
 | [],_ :: _,h=>h.elim
 | _ :: _,[],h=>h.elim
theorem FsL.at {K:ς}:∀ {l fs} {j:Nat} {f:Δ},FsL K l fs→fs[j]? = some f→∃ p fd,l[j]? = some p∧l9 K p.1 p.2.1 p.2.2 f fd
 | [],[],j,f,_,e=>by simp at e
 | p :: l,g :: fs,0,f,h,e=>by simp at e;subst e;obtain ⟨fd,F⟩:=h.1;exact ⟨p,fd,rfl,F⟩
 | p :: l,g :: fs,j+1,f,h,e=>FsL.at (j:=j) h.2 (by simpa using e)
 | [],_ :: _,_,_,h,_=>h.elim
 | _ :: _,[],_,_,h,_=>h.elim
theorem Bj {T:Ns} {ad:List Δ} {K:ς} {Γ:Gm} {l:List (θ×θ×Ø)} (hΓ:Γ.fn=l.map fun p=>cT T p.2.2) (hc:(l.all fun p=>fnC p.2.2 && (fS T p.2.2).isSome)=true) (h:FsL K l ad) {j:Nat} {f:Δ} (e:ad[j]? = some f):FnF T K Γ j f:=by
 obtain ⟨p,fd,e1,F⟩:=h.at e
 have c:=Ψ.mp hc p (Ι e1)
 rw [Θ] at c
 obtain ⟨S,_,B⟩:=yl c.1
 refine ⟨_,_,_,fd,cT T p.2.2,T.mu,T.alt,T.fc,T.oc,F,B _ F,S,by rw [hΓ,ϑ,e1];rfl,?_⟩
 show fS T p.2.2=_
 cases q:fS T p.2.2 with
 | none=>rw [q] at c;exact nomatch c.2
 | some g=>unfold cT;rw [q];rfl
theorem _root_.L2.Fun.d {K:ς} {x q:θ} {st:Ø} {f:Δ} {fd:á} (F:Fun K x q st f fd) (h:dfB st=none):l9 K x q st f fd:=by
 obtain ⟨oc,od,kV,doc,pm,an,cdv,ct,osl,e,lk,hcd⟩:=F.ex
 exact ⟨⟨oc,od,.none,kV,doc,pm,an,cdv,ct,osl,e,lk,hcd,by rw [h];rfl⟩,F.kp⟩
def gA (K:ς):List (θ×Ø)→Prop
 | []=>True
 | p :: r=>(∃ f fd,l9 K p.1 p.1 p.2 f fd∧ϒ K ϔ p.1=some (some (.ref f)))∧gA K r
theorem hl_cons {K:ς} {x:θ} {st:Ø} {f:Δ} {od an:Option Δ} {sl:Array (Option η)} {oc kV dc pm cd ct:η} (a:ϒ K ϔ x=some (some (.ref f)))
 (l:K.lookup f=some ⟨oc,od,.func (Ê x x (aG st) (bY st) (au st) .none kV dc pm an cd ct),sl⟩) (c:ñ K cd x=true) (k:Ϝ K (.ref f)=true) (d:dfB st=none) (t:gA K r):gA K ((x,st) :: r):=⟨⟨f,_,(mI l c k).d d,a⟩,t⟩
def xK (mg:θ→Option η):List θ→List Δ→Prop
 | [],_=>True
 | x :: xs,f :: fs=>mg x=some (.ref f)∧xK mg xs fs
 | _ :: _,[]=>False
theorem gA.ad {K:ς} {h:Â} {mg:θ→Option η} (Y:K.In h) (G:h.Ns ϔ mg):∀ {l},gA K l→∃ ad,FsL K (l.map fun p=>(p.1,p.1,p.2)) ad∧xK mg (l.map (·.1)) ad
 | [],_=>⟨[],trivial,trivial⟩
 | _ :: _,⟨⟨f,fd,F,n⟩,t⟩=>let ⟨ad,h1,h2⟩:=gA.ad Y G t;⟨f :: ad,⟨⟨fd,F⟩,h1⟩,Ϫ Y G n,h2⟩
theorem bU {ad ms:List Δ} (h:ad.length=n):(ad ++ ms)[n+k]? = ms[k]?:=by rw [Χ (by omega)];congr 1;omega
theorem qZ :∀ {xs} {fs} {j:Nat} {x:θ},xK mg xs fs→xs[j]? = some x→∃ f,fs[j]? = some f∧mg x=some (.ref f)
 | [],_,_,_,_,e=>by simp at e
 | y :: xs,f :: fs,0,x,h,e=>by simp at e;subst e;exact ⟨f,rfl,h.1⟩
 | y :: xs,f :: fs,j+1,x,h,e=>by
   obtain ⟨g,h1,h2⟩:=qZ (j:=j) h.2 (by simpa using e)
   exact ⟨g,by simpa using h1,h2⟩
 | _ :: _,[],_,_,h,_=>h.elim
def cH {α:Type} (P:Nat→α→Prop):Nat→List α→Prop
 | _,[]=>True
 | j,x :: r=>P j x∧cH P (j+1) r
theorem wU :∀ {l:List α} {j i} {x:α},cH P j l→l[i]? = some x→P (j+i) x
 | [],_,i,_,_,e=>by simp at e
 | g :: r,j,0,f,h,e=>by simp at e;subst e;exact h.1
 | g :: r,j,i+1,f,h,e=>by
   have:=wU (i:=i) h.2 (by simpa using e)
   rw [show j+(i+1)=j+1+i by omega];exact this
theorem bR (h:cH P 0 l) (e:l[i]? = some x):P i x:=by
 have:=wU h e
 rwa [HM] at this
def fy (K:ς) (C:Δ) (m qn:θ) (st:Ø) (f:Δ):Prop:=(∃ fd,Fun K m qn st f fd)∧Ar K C m f
theorem me_mk {K:ς} {C f:Δ} {m qn:θ} {st:Ø} {od an:Option Δ} {sl:Array (Option η)} {oc kV dc pm cd ct:η} (at_:Υ K (.ref C) m=some (some (.ref f))) (l:K.lookup f=some ⟨oc,od,.func (Ê m qn (aG st) (bY st) (au st) .none kV dc pm an cd ct),sl⟩) (fn:Ŀ K (.ref f)=true) (c:ñ K cd qn=true) (k:Ϝ K (.ref f)=true):fy K C m qn st f:=⟨⟨_,mI l c k⟩,at_,fn,k⟩
structure Ap (K:ς) (x:θ) (C:Δ):Prop where
 a:ϒ K ϔ x=some (some (.ref C))
 cls:Cls K C
 mks:Ł K C=true
 kp:Ϝ K (.ref C)=true
theorem cc_mk {K:ς} (a:ϒ K ϔ x=some (some (.ref C))) (pg:č K C Ã=true) (hd:ϭ K C=true) (po:ũ K C=true) (sa:Υ K (.ref C) "__setattr__" = some (some (.builtin "object.__setattr__"))) (mk:Ł K C=true) (kp:Ϝ K (.ref C)=true):Ap K x C:=⟨a,⟨pg,hd,po,sa⟩,mk,kp⟩
structure pV (K:ς) (x qn:θ) (st:Ø) (bmB:List η) (nw:String) (C fI:Δ):Prop where
 a:ϒ K ϔ x=some (some (.ref C))
 own:iq K C fI bmB nw
 ini:∃ fd,Fun K "__init__" qn st fI fd
 st:gy K C
 fd:b7 K C
 hh:ϭ K C=true
 ec:j7 K C
 kp:Ϝ K (.ref C)=true
 me:Ω K C (.ref C)=some true
theorem xc_mk {K:ς} {x qn:θ} {st:Ø} {bmB:List η} {nw:String} {C fI:Δ} {nm q:θ} {N:Δ} {bs bm:List η} {hdct:Bool} {sn:List θ} {sub:List η} {ab:Bool} {col:Option Bool} {dd:Option Δ} {k0 k1 k2 k3 k5:Option η} {od an:Option Δ} {sl:Array (Option η)} {oc kV dc pm cd ct:η}
 (a:ϒ K ϔ x=some (some (.ref C))) (l:K.lookup C=some (ER nm q C N bs bm hdct sn sub ab col dd k0 k1 k2 k3 k5 nw)) (t:DS K bmB bm=true) (ini:Υ K (.ref C) "__init__" = some (some (.ref fI))) (fl:K.lookup fI=some ⟨oc,od,.func (Ê "__init__" qn (aG st) (bY st) (au st) .none kV dc pm an cd ct),sl⟩) (fn:Ŀ K (.ref fI)=true) (fc:ñ K cd qn=true) (fk:Ϝ K (.ref fI)=true)
 (ga:Υ K (.ref C) "__getattribute__" = some (some (.builtin "BaseException.__getattribute__"))) (gn:Υ K (.ref C) "__getattr__" = some none) (cl:Υ K (.ref C) "__class__" = some (some (.builtin "object.__class__"))) (sg:ħ K (.builtin "object.__class__") "__get__" = some (some (.builtin "getset_descriptor.__get__"))) (tk:D3 K (.builtin "object.__class__")=some true) (ob:Ω K C (.type "object")=some true) (be:Ω K C (.type "BaseException")=some true)
 (is:(Ĭ K C).isSome=true) (kp:Ϝ K (.ref C)=true) (tyC:ð K (.ref C)=some (.type "type")) (sa:Υ K (.ref C) "__setattr__" = some (some (.builtin "object.__setattr__"))) (ov:((Ĭ K C).any fun cd=>gZ veB cd.mro || gZ exB cd.mro)=true) (hdc:((Ĭ K C).any fun cd=>cd.hasDict)=true) (hh:ϭ K C=true) (me:Ω K C (.ref C)=some true):pV K x qn st bmB nw C fI:=
 ⟨a,⟨⟨nm,q,N,bs,bm,hdct,sn,sub,ab,col,dd,k0,k1,k2,k3,k5,l,t⟩,ini,fn⟩,⟨_,mI fl fc fk⟩,⟨sa,ov,hdc,ob⟩,⟨ga,gn,cl,sg,tk,ob,be,is⟩,hh,⟨tyC,is,be⟩,kp,me⟩
structure qW (K:ς) (x:θ) (C:Δ):Prop where
 a:ϒ K ϔ x=some (some (.ref C))
 fd:b7 K C
 hh:ϭ K C=true
 ec:j7 K C
theorem xb_mk {K:ς} {x:θ} {C:Δ} (a:ϒ K ϔ x=some (some (.ref C))) (ga:Υ K (.ref C) "__getattribute__" = some (some (.builtin "BaseException.__getattribute__"))) (gn:Υ K (.ref C) "__getattr__" = some none) (cl:Υ K (.ref C) "__class__" = some (some (.builtin "object.__class__"))) (sg:ħ K (.builtin "object.__class__") "__get__" = some (some (.builtin "getset_descriptor.__get__"))) (tk:D3 K (.builtin "object.__class__")=some true) (ob:Ω K C (.type "object")=some true) (be:Ω K C (.type "BaseException")=some true)
 (is:(Ĭ K C).isSome=true) (tyC:ð K (.ref C)=some (.type "type")) (hh:ϭ K C=true):qW K x C:=⟨a,⟨ga,gn,cl,sg,tk,ob,be,is⟩,hh,⟨tyC,is,be⟩⟩
def GlL (K:ς):List (θ×L2.Bk.Dk)→Prop
 | []=>True
 | p :: r=>(∃ u,ϒ K ϔ p.1=some (some u)∧aT K p.2 u=true)∧GlL K r
theorem gl_cons {K:ς} (a:ϒ K ϔ x=some (some u)) (b:aT K d u=true) (t:GlL K r):GlL K ((x,d) :: r):=⟨⟨u,a,b⟩,t⟩
theorem GlL.at {K:ς}:∀ {l} {j:Nat} {x:θ},GlL K l→(l.map (·.1))[j]? = some x→∃ d u,(l.map (·.2))[j]? = some d∧ϒ K ϔ x=some (some u)∧aT K d u=true
 | [],_,_,_,e=>by simp at e
 | p :: _,0,_,⟨⟨u,h⟩,_⟩,e=>by simp at e;subst e;exact ⟨_,u,rfl,h⟩
 | _ :: _,j+1,_,h,e=>GlL.at (j:=j) h.2 (by simpa using e)
def mt (K:ς):List (θ×List (θ×L2.Bk.Dk))→Prop
 | []=>True
 | p :: r=>(∃ a,ϒ K ϔ p.1=some (some (.ref a))∧E6 (aT K) (fun b=>K.lookup b) a p.2=true)∧mt K r
theorem tb_cons {K:ς} {u:Δ} {d:List (θ×L2.Bk.Dk)} (a:ϒ K ϔ x=some (some (.ref u))) (b:E6 (aT K) (fun b=>K.lookup b) u d=true) (t:mt K r):mt K ((x,d) :: r):=⟨⟨u,a,b⟩,t⟩
theorem mt.at {K:ς}:∀ {l} {j:Nat} {x:θ},mt K l→(l.map (·.1))[j]? = some x→∃ t a,(l.map (·.2))[j]? = some t∧ϒ K ϔ x=some (some (.ref a))∧E6 (aT K) (fun b=>K.lookup b) a t=true
 | [],_,_,_,e=>by simp at e
 | p :: _,0,_,⟨⟨u,h⟩,_⟩,e=>by simp at e;subst e;exact ⟨_,u,rfl,h⟩
 | _ :: _,j+1,_,h,e=>mt.at (j:=j) h.2 (by simpa using e)
def NoL (K:ς):List θ→Prop
 | []=>True
 | x :: r=>ϒ K ϔ x=some none∧NoL K r
theorem nl_cons {K:ς} (a:ϒ K ϔ x=some none) (t:NoL K r):NoL K (x :: r):=⟨a,t⟩
theorem NoL.at {K:ς}:∀ {l},NoL K l→∀ x∈l,ϒ K ϔ x=some none
 | _ :: _,h,_,m=>(φ.mp m).elim (fun e=>e ▸ h.1) (h.2.at _)
def NaL (K:ς) (C:Δ):List θ→Prop
 | []=>True
 | x :: r=>Υ K (.ref C) x=some none∧NaL K C r
theorem NaL.at {K:ς}:∀ {l},NaL K C l→∀ x∈l,Υ K (.ref C) x=some none
 | _ :: _,h,_,m=>(φ.mp m).elim (fun e=>e ▸ h.1) (h.2.at _)
def MrL (K:ς):List (θ×θ×Bool)→Prop
 | []=>True
 | p :: r=>(∃ C D:Δ,ϒ K ϔ p.1=some (some (.ref C))∧ϒ K ϔ p.2.1=some (some (.ref D))∧Ω K C (.ref D)=some p.2.2)∧MrL K r
theorem mr_cons {K:ς} {C D:Δ} {m n:θ} {o:Bool} (a:ϒ K ϔ m=some (some (.ref C))) (b:ϒ K ϔ n=some (some (.ref D))) (c:Ω K C (.ref D)=some o) (t:MrL K r):MrL K ((m,n,o) :: r):=⟨⟨C,D,a,b,c⟩,t⟩
def VxL (K:ς):List (θ×Bool)→Prop
 | []=>True
 | p :: r=>(∃ C:Δ,ϒ K ϔ p.1=some (some (.ref C))∧Ω K C (.type "ValueError")=some p.2)∧VxL K r
theorem vx_cons {K:ς} {C:Δ} {m:θ} {o:Bool} (a:ϒ K ϔ m=some (some (.ref C))) (b:Ω K C (.type "ValueError")=some o) (tv:VxL K r):VxL K ((m,o) :: r):=⟨⟨C,a,b⟩,tv⟩
theorem VxL.at {K:ς} {C:Δ} {m:θ} {o:Bool}:∀ {l},VxL K l→(m,o)∈l→ϒ K ϔ m=some (some (.ref C))→Ω K C (.type "ValueError")=some o
 | p :: r,⟨⟨C',a,b⟩,t⟩,h,e=>by
   rcases φ.mp h with q | q
   ·subst q
    rw [a] at e;cases e;exact b
   ·exact VxL.at t q e
theorem MrL.at {K:ς} {C D:Δ} {m n:θ} {o:Bool}:∀ {l},MrL K l→(m,n,o)∈l→ϒ K ϔ m=some (some (.ref C))→ϒ K ϔ n=some (some (.ref D))→Ω K C (.ref D)=some o
 | p :: r,⟨⟨C',D',a,b,c⟩,t⟩,h,e1,e2=>by
   rcases φ.mp h with q | q
   ·subst q
    rw [e1] at a;cases a
    rw [e2] at b;cases b
    exact c
   ·exact MrL.at t q e1 e2
def KOf {K:ς} {h:Â} (_:K.In h):ς:=K
theorem C9 {Γ:Gm} {cal cal1:Nat→List D→List O→Res}:ev Γ cal cal1 br (.v i) s=(match s.env[i]? with | some (some d)=>.ok d (if br then s else un s i) | _=>.bad):=rfl
inductive IT where
 | fin (o:ah)
 | call (j:Nat) (ds:List D) (st:List O) (k:Res→IT)
 | call1 (j:Nat) (ds:List D) (st:List O) (k:Res→IT)
 | test (b:Bool) (k:Bool→IT)
 | opt (o:Option D) (k:D→IT)
 | sub (o:Out D) (k:D→Sta→IT) (kx:Nat→List D→Sta→IT)
 | subS (o:ah) (k:ah→IT)
def IT.bad:IT:=.fin .bad
def lcT (g:D→Sta→(Option D→Sta→IT)→IT):List D→List D→Sta→(D→Sta→IT)→IT
 | [],acc,s,k=>k (.lst acc) s
 | d :: r,acc,s,k=>g d s fun o s'=>match o with
   | some e=>.test (decide (acc.length<100000)) fun t=>if t then lcT g r (acc ++ [e]) s' k else .bad
   | none=>lcT g r acc s' k
def ym (g:D→Sta→(Sta→IT)→IT):List D→Sta→(Sta→IT)→IT
 | [],s,k=>k s
 | d :: r,s,k=>g d s fun s=>ym g r s k
def sy (st:List O) (p c:Nat):Bool:=match st[p]? with | some (.ins c' _)=>c' == c | _=>false
def yn (x y:D) (z:D):Option D:=match x,cb y with | .dic ks ds,some k=>some ((eh ks ds k).getD z) | _,_=>none
def pW (es:E) (s:Sta) (d:D) (st:List O) (k:D→Sta→IT):IT:=if s.ow.any fun i=>(bJ es).contains i then .test (noL d && st.all nv) fun t=>k d ⟨s.env,s.ow.filter fun i=>!(bJ es).contains i || (isLst s.env[i]? && t),st⟩ else k d (aft es s d st)
section
variable (Γ:Gm) (cal cal1:Nat→List D→List O→Res) (lp:Bool)
mutual
noncomputable def evT (br:Bool):E→Sta→(D→Sta→IT)→(Nat→List D→Sta→IT)→IT
 | .v i,s,k,kx=>(match s.env[i]? with | some (some d)=>k d (if br then s else un s i) | _=>.bad)
 | .c d,s,k,kx=>k d s
 | .g j,s,k,kx=>(match Γ.gl[j]?.map toD with | some d=>k d s | none=>.bad)
 | .op o a b,s,k,kx=>evT true a s (fun x s=>evT true b s (fun y s=>.opt (opD o (look s.st x) (look s.st y)) fun d=>k d s) kx) kx
 | .isN a,s,k,kx=>evT true a s (fun x s=>k (.bl (kH x)) s) kx
 | .isNN a,s,k,kx=>evT true a s (fun x s=>k (.bl (!kH x)) s) kx
 | .neg a,s,k,kx=>evT true a s (fun x s=>match x with | .int i=>k (.int (-i)) s | _=>.bad) kx
 | .not a,s,k,kx=>evT true a s (fun x s=>match x with | .bl b=>k (.bl (!b)) s | _=>.bad) kx
 | .and a b,s,k,kx=>evT false a s (fun x s=>match x with | .bl t=>.test t fun t=>if t then evT false b s k kx else k (.bl false) s | _=>.bad) kx
 | .or a b,s,k,kx=>evT false a s (fun x s=>match x with | .bl t=>.test t fun t=>if t then k (.bl true) s else evT false b s k kx | _=>.bad) kx
 | .ite c a b,s,k,kx=>evT true c s (fun x s=>match x with | .bl t=>.test t fun t=>if t then evT false a s k kx else evT false b s k kx | _=>.bad) kx
 | .chain o p a b c,s,k,kx=>evT true a s (fun x s=>evT true b s (fun y s=>.opt (opD o (look s.st x) (look s.st y)) fun d=>match d with
   | .bl t=>.test t fun t=>if t then evT true c s (fun z s=>.opt (opD p (look s.st y) (look s.st z)) fun d=>k d s) kx else k (.bl false) s
   | _=>.bad) kx) kx
 | .ix a b,s,k,kx=>evT true a s (fun x s=>evT true b s (fun y s=>.opt (ixD (look s.st x) y) fun d=>k d s) kx) kx
 | .sl a lo hi,s,k,kx=>evT true a s (fun x s=>
  let k3:=fun l s=>(if bD hi then .opt (slO (look s.st x) l none) fun d=>k d s else evT true hi s (fun z s=>match z with | .int h=>.opt (slO (look s.st x) l (some h)) fun d=>k d s | _=>.bad) kx)
  if bD lo then k3 none s else evT true lo s (fun z s=>match z with | .int l=>k3 (some l) s | _=>.bad) kx) kx
 | .sl3 a lo hi,s,k,kx=>evT true a s (fun x s=>
  let k3:=fun l s=>(if bD hi then .opt (qM (look s.st x) l none) fun d=>k d s else evT true hi s (fun z s=>match z with | .int h=>.opt (qM (look s.st x) l (some h)) fun d=>k d s | _=>.bad) kx)
  if bD lo then k3 none s else evT true lo s (fun z s=>match z with | .int l=>k3 (some l) s | _=>.bad) kx) kx
 | .tget j e d,s,k,kx=>evT true e s (fun x s=>evT false d s (fun z s=>match Γ.tb[j]?,x with | some t,.str y=>k (((ϰ y t).map toD).getD z) s | _,_=>.bad) kx) kx
 | .newd j es,s,k,kx=>du false es s (fun l s=>.opt ((Γ.cl[j]?).bind fun k=>if k.what=1∧l.length=k.at_.length then some (D.ins j l) else none) fun d=>k d s) kx
 | .fld a f,s,k,kx=>evT true a s (fun x s=>.opt (mH Γ s.st x f) fun d=>k d s) kx
 | .tup es,s,k,kx=>du false es s (fun l s=>if l.length≤100000 then k (.tup l) s else .bad) kx
 | .lst es,s,k,kx=>du false es s (fun l s=>if l.length≤100000 then k (.lst l) s else .bad) kx
 | .newl es,s,k,kx=>du false es s (fun l s=>if l.length≤100000 then k (.ref s.st.length) ⟨s.env,s.ow,s.st ++ [.lst l]⟩ else .bad) kx
 | .keep kp a,s,k,kx=>evT false a (hid (kp.filter s.ow.contains) s) (fun d s'=>k d ⟨s.env,s'.ow ++ kp.filter s.ow.contains,s'.st⟩) (fun _ _ _=>.bad)
 | .sto a,s,k,kx=>evT false a s (fun x s=>match x with | .lst l=>k (.ref s.st.length) ⟨s.env,s.ow,s.st ++ [.lst l]⟩ | _=>.bad) kx
 | .call j es,s,k,kx=>du true es s (fun l s=>.call j l s.st fun r=>match r with | .ok d st=>pW es s d st k | .exc c l st=>kx c l (drp es s st) | .bad=>.bad) kx
 | .hcall j es,s,k,kx=>du false es s (fun l s=>.test (aU l) fun t=>if t then .call j l [] fun r=>(match r with
  | .ok d st=>.test (noR d) fun t=>if t then k d s else k (shD s.st.length d) ⟨s.env,s.ow,s.st ++ st.map (shO s.st.length)⟩
  | .exc c l _=>.test (aU l) fun t=>if t then kx c l s else .bad
  | .bad=>.bad) else .bad) kx
 | .fcall own j es,s,k,kx=>du false es s (fun l s=>.test (aU l) fun t=>if t then .call j l [] fun r=>(match r with
  | .ok d st=>.test (own && !oO d) fun t=>if t then .bad else .opt (Bg st d) fun d=>k d s
  | .exc c l _=>.test (aU l) fun t=>if t then kx c l s else .bad
  | .bad=>.bad) else .bad) kx
 | .mth c j a es,s,k,kx=>evT true a s (fun x s=>match x with
   | .ref p=>.test (sy s.st p c) fun t=>if t then du true es s (fun l s=>.call j (.ref p :: l) s.st fun r=>match r with | .ok d st=>pW es s d st k | .exc c l st=>kx c l (drp es s st) | .bad=>.bad) kx else .bad
   | _=>.bad) kx
 | .bi b es,s,k,kx=>du true es s (fun l s=>.opt (biD b (l.map (look s.st))) fun d=>k d s) kx
 | .tab j e,s,k,kx=>evT true e s (fun x s=>match Γ.tb[j]?,x with | some t,.str y=>.opt ((ϰ y t).map toD) fun d=>k d s | _,_=>.bad) kx
 | .tabin j e,s,k,kx=>evT true e s (fun x s=>match Γ.tb[j]?,x with | some t,.str y=>k (.bl (ϰ y t).isSome) s | _,_=>.bad) kx
 | .lc t one it elt cond,s,k,kx=>evT false it s (fun x s=>match x with
   | .lst ds=>if lp then .sub ((bx (fun d s'=>(match aJ t one d s'.env with
    | some env=>(ev Γ cal cal1 true cond ⟨env,[],s'.st⟩).bind fun b s2=>(match b with
      | .bl true=>(ev Γ cal cal1 false elt s2).bind fun e s3=>.ok (some e) ⟨s3.env,[],s3.st⟩
      | .bl false=>.ok none ⟨s2.env,[],s2.st⟩
      | _=>.bad)
    | none=>.bad)) ds [] ⟨μ t.length none ++ s.env,[],s.st⟩)) (fun d s'=>k d ⟨s.env,[],s'.st⟩) (fun c l s'=>kx c l ⟨s.env,[],s'.st⟩)
     else lcT (fun d s' k'=>match aJ t one d s'.env with
      | some env=>evT true cond ⟨env,[],s'.st⟩ (fun b s2=>match b with
        | .bl t=>.test t fun t=>if t then evT false elt s2 (fun e s3=>k' (some e) ⟨s3.env,[],s3.st⟩) (fun c l s'=>kx c l ⟨s.env,[],s'.st⟩) else k' none ⟨s2.env,[],s2.st⟩
        | _=>.bad) (fun c l s'=>kx c l ⟨s.env,[],s'.st⟩)
      | none=>.bad) ds [] ⟨μ t.length none ++ s.env,[],s.st⟩ (fun d s'=>k d ⟨s.env,[],s'.st⟩)
   | _=>.bad) kx
 | .tand a b,s,k,kx=>evT true a s (fun x s=>match x with | .bl t=>.test t fun t=>if t then evT true b s k kx else k (.bl false) s | _=>.bad) kx
 | .tor a b,s,k,kx=>evT true a s (fun x s=>match x with | .bl t=>.test t fun t=>if t then k (.bl true) s else evT true b s k kx | _=>.bad) kx
 | .tnot a,s,k,kx=>evT true a s (fun x s=>match x with | .bl b=>k (.bl (!b)) s | _=>.bad) kx
 | .tv a,s,k,kx=>evT true a s (fun x s=>.opt ((wO (look s.st x)).map .bl) fun d=>k d s) kx
 | .it b es,s,k,kx=>du false es s (fun l s=>.opt ((itD b l).map .lst) fun d=>k d s) kx
 | .itv a,s,k,kx=>evT false a s (fun x s=>match lZ x with | some l=>k (.lst l) s | none=>.bad) kx
 | .dic es,s,k,kx=>du false es s (fun l s=>.opt ((rG l).map fun p=>.dic p.1 p.2) fun d=>k d s) kx
 | .get a b c,s,k,kx=>evT true a s (fun x s=>.test (isDic (look s.st x)) fun t=>if t then evT true b s (fun y s=>evT false c s (fun z s=>.opt (yn (look s.st x) y z) fun d=>k d s) kx) kx else .bad) kx
 | .index a b,s,k,kx=>evT true a s (fun x s=>.test (vq x) fun t=>if t then evT true b s (fun y s=>.opt (By x y) fun d=>k d s) kx else .bad) kx
 | .join x a,s,k,kx=>evT true a s (fun y s=>.opt (xv x (look s.st y)) fun d=>k d s) kx
 | .fmt x a y,s,k,kx=>evT true a s (fun v s=>.opt (Bb x v y) fun d=>k d s) kx
 | .dicc ks es,s,k,kx=>du false es s (fun l s=>.opt (xk ks l) fun d=>k d s) kx
 | .isXv a,s,k,kx=>evT true a s (fun x s=>.opt (xq Γ x) fun d=>k d s) kx
 | .snap i a,s,k,kx=>(match s.env[i]? with
   | some (some (.ref n))=>(match s.st[n]? with
     | some (.lst l)=>.test (aU l) fun t=>if t then evT false a ⟨(bj s.env).set i (some (.lst l)),[],[]⟩ (fun d _=>.test (flX (ak a) d) fun t=>if t then k d ⟨s.env,[],s.st⟩ else .bad) (fun _ _ _=>.bad) else .bad
     | _=>.bad)
   | some (some _)=>evT false a s k kx
   | _=>.bad)
 | .sm q a,s,k,kx=>evT true a s (fun x s=>.opt (smO q x) fun d=>k d s) kx
 | .pop a,s,k,kx=>evT true a s (fun x s=>match x with
   | .ref n=>(match s.st[n]? with | some (.lst l)=>.opt l.getLast? fun d=>k d ⟨s.env,s.ow,s.st.set n (.lst l.dropLast)⟩ | _=>.bad)
   | _=>.bad) kx
 | .isX a js,s,k,kx=>evT true a s (fun x s=>.opt (BC Γ x js) fun d=>k d s) kx
 | .new j es,s,k,kx=>du true es s (fun l s=>(match Γ.cl[j]? with
   | some q=>if q.what=1 then (if l.length=q.at_.length then k (.ins j l) (drp es s s.st) else .bad) else if q.what=0 then .call1 q.init (.ref s.st.length :: l) (s.st ++ [.ins j []]) fun r=>(match r with
    | .ok .non st=>k (.ref s.st.length) (aft es s .non st)
    | _=>.bad)
     else .bad
   | none=>.bad)) kx
 | _,_,_,_=>.bad
noncomputable def du (br:Bool):E→Sta→(List D→Sta→IT)→(Nat→List D→Sta→IT)→IT
 | .nil,s,k,kx=>k [] s
 | .cons a r,s,k,kx=>evT br a s (fun x s=>du br r s (fun l s=>k (x :: l) s) kx) kx
 | _,_,_,_=>.bad
end
def exT:S→Sta→(Sta→IT)→(D→Sta→IT)→(Nat→List D→Sta→IT)→IT
 | .skip,s,kn,kr,kx=>kn s
 | .seq a b,s,kn,kr,kx=>exT a s (fun s=>exT b s kn kr kx) kr kx
 | .set i e,s,kn,kr,kx=>evT Γ cal cal1 lp false e s (fun d s=>kn (ie s i d (ak e))) kx
 | .setT l e,s,kn,kr,kx=>evT Γ cal cal1 lp false e s (fun d s=>match aJ l false d s.env with | some env=>kn ⟨env,s.ow.filter fun i=>!l.contains i,s.st⟩ | none=>.bad) kx
 | .setR i es,s,kn,kr,kx=>du Γ cal cal1 lp false es s (fun l s=>if l.length≤100000 then kn ⟨s.env.set i (some (.ref s.st.length)),s.ow.filter (· != i),s.st ++ [.lst l]⟩ else .bad) kx
 | .ret e,s,kn,kr,kx=>evT Γ cal cal1 lp false e s kr kx
 | .ifs c a b,s,kn,kr,kx=>evT Γ cal cal1 lp true c s (fun x s=>match x with | .bl t=>.test t fun t=>if t then exT a s kn kr kx else exT b s kn kr kx | _=>.bad) kx
 | .drop e,s,kn,kr,kx=>evT Γ cal cal1 lp false e s (fun _ s=>kn s) kx
 | .app i e,s,kn,kr,kx=>if s.ow.contains i && isLst s.env[i]? then evT Γ cal cal1 lp false e s (fun d s=>if s.ow.contains i then (match s.env[i]? with
  | some (some (.lst l))=>.test (decide (l.length<100000)) fun t=>if t then kn ⟨s.env.set i (some (.lst (l ++ [d]))),s.ow,s.st⟩ else .bad
  | _=>.bad) else .bad) kx else .bad
 | .ext i e,s,kn,kr,kx=>if s.ow.contains i && isLst s.env[i]? then evT Γ cal cal1 lp false e s (fun d s=>if s.ow.contains i then (match s.env[i]?,d with
  | some (some (.lst l)),.lst x=>.test (decide (l.length+x.length≤100000)) fun t=>if t then kn ⟨s.env.set i (some (.lst (l ++ x))),s.ow,s.st⟩ else .bad
  | _,_=>.bad) else .bad) kx else .bad
 | .put (.v i) b e,s,kn,kr,kx=>evT Γ cal cal1 lp false e s (fun d s=>(match s.env[i]? with
  | some (some x)=>evT Γ cal cal1 lp true b s (fun y s=>(match x with
    | .ref n=>(match (s.st[n]?).bind fun o=>fL o y d with | some o=>kn ⟨s.env,s.ow,s.st.set n o⟩ | none=>.bad)
    | x=>if s.ow.contains i then .opt (lj x y d) fun y=>kn ⟨s.env.set i (some y),s.ow,s.st⟩ else .bad)) kx
  | _=>.bad)) kx
 | .fapp a f e,s,kn,kr,kx=>evT Γ cal cal1 lp true a s (fun x s=>.test (gb s.st x) fun t=>if t then evT Γ cal cal1 lp false e s (fun d s=>(match x with
  | .ref n=>(match s.st[n]? with | some (.lst l)=>.test (decide (l.length<100000)) fun t=>if t then kn ⟨s.env,s.ow,s.st.set n (.lst (l ++ [d]))⟩ else .bad | _=>.bad)
  | _=>.bad)) kx else .bad) kx
 | .fext a e,s,kn,kr,kx=>evT Γ cal cal1 lp true a s (fun x s=>.test (gb s.st x) fun t=>if t then evT Γ cal cal1 lp false e s (fun d s=>(match x with
  | .ref n=>(match s.st[n]?,d with | some (.lst l),.lst m=>.test (decide (l.length+m.length≤100000)) fun t=>if t then kn ⟨s.env,s.ow,s.st.set n (.lst (l ++ m))⟩ else .bad | _,_=>.bad)
  | _=>.bad)) kx else .bad) kx
 | .rais j es,s,kn,kr,kx=>du Γ cal cal1 lp false es s (fun l s=>.test (dh Γ j l) fun t=>if t then kx j (gK Γ j l) s else .bad) kx
 | .try_ a hs,s,kn,kr,kx=>exT a s kn kr (fun c l s'=>hndT hs c l s' kn kr kx)
 | .for_ t one it b,s,kn,kr,kx=>evT Γ cal cal1 lp false it s (fun x s=>(match x with
  | .lst ds=>if lp then .subS (cy (fun d s=>match aJ t one d s.env with | some env=>exS Γ cal cal1 b ⟨env,s.ow.filter fun i=>!t.contains i,s.st⟩ | none=>.bad) ds s) (fun o=>match o with | .nx s=>kn s | .rt d s=>kr d s | .exc c l s=>kx c l s | .bad=>.bad)
    else ym (fun d s k=>match aJ t one d s.env with | some env=>exT b ⟨env,s.ow.filter fun i=>!t.contains i,s.st⟩ k kr kx | none=>.bad) ds s kn
  | _=>.bad)) kx
 | c,s,kn,kr,kx=>.subS (exS Γ cal cal1 c s) (fun o=>match o with | .nx s=>kn s | .rt d s=>kr d s | .exc c l s=>kx c l s | .bad=>.bad)
where hndT:S→Nat→List D→Sta→(Sta→IT)→(D→Sta→IT)→(Nat→List D→Sta→IT)→IT
 | .hand j (some i) b r,c,l,s,kn,kr,kx=>(match dj Γ j c with
  | some true=>exT b ⟨s.env.set i (some (.ins c l)),s.ow.filter (· != i),s.st⟩ (fun s=>kn ⟨s.env.set i none,s.ow.filter (· != i),s.st⟩) kr (fun _ _ _=>.bad)
  | some false=>hndT r c l s kn kr kx
  | none=>.bad)
 | .hand j none b r,c,l,s,kn,kr,kx=>(match dj Γ j c with
  | some true=>exT b s kn kr (fun _ _ _=>.bad)
  | some false=>hndT r c l s kn kr kx
  | none=>.bad)
 | .skip,c,l,s,kn,kr,kx=>kx c l s
 | _,_,_,_,_,_,_=>.bad
def ac:IT→ah
 | .fin o=>o
 | .call j ds st k=>ac (k (cal j ds st))
 | .call1 j ds st k=>ac (k (cal1 j ds st))
 | .test b k=>ac (k b)
 | .opt o k=>(match o with | some d=>ac (k d) | none=>.bad)
 | .sub o k kx=>(match o with | .ok d s=>ac (k d s) | .exc c l s=>ac (kx c l s) | .bad=>.bad)
 | .subS o k=>ac (k o)
end
def oc {α:Type} (x:Out α) (k:α→Sta→ah) (kx:Nat→List D→Sta→ah):ah:=match x with
 | .ok a s=>k a s
 | .exc c l s=>kx c l s
 | .bad=>.bad
theorem bP :oc (x.bind f) k kx=oc x (fun a s=>oc (f a s) k kx) kx:=by cases x <;> rfl
theorem cj (h:∀ a s,k a s=k' a s):oc x k kx=oc x k' kx:=by cases x <;> first | exact h _ _ | rfl
theorem ae (h:∀ a s,g a s=oc (f a s) k kx):oc x g kx=oc (x.bind f) k kx:=by
 rw [bP];exact cj h
section
variable {Γ:Gm} {cal cal1:Nat→List D→List O→Res} {lp:Bool}
theorem bo {k:D→Sta→IT} :ac cal cal1 (.opt o fun d=>k d s)=oc (.of s o) (fun d s=>ac cal cal1 (k d s)) kx:=by cases o <;> rfl
theorem sj [Decidable p] {k:D→Sta→IT} {kx:Nat→List D→Sta→ah}:ac cal cal1 (if p then k d s else .bad)=oc (if p then .ok d s else .bad) (fun d s=>ac cal cal1 (k d s)) kx:=by split <;> rfl
theorem Bt {st:List O} {k:D→Sta→IT}:ac cal cal1 (pW es s d st k)=ac cal cal1 (k d (aft es s d st)):=by unfold pW;split <;> rfl
theorem xp {k:D→Sta→IT} {kx:Nat→List D→Sta→IT}:ac cal cal1 (.call j l s.st fun r=>match r with | .ok d st=>pW es s d st k | .exc c l st=>kx c l (drp es s st) | .bad=>.bad)=oc (iu cal es j l s) (fun d s=>ac cal cal1 (k d s)) (fun c l s=>ac cal cal1 (kx c l s)):=by
 show ac cal cal1 (match cal j l s.st with | .ok d st=>pW es s d st k | .exc c l st=>kx c l (drp es s st) | .bad=>.bad)=_
 unfold iu
 cases cal j l s.st <;> first | exact Bt | rfl
theorem mS (h:∀ d s k,ac cal cal1 (g d s k)=oc (f d s) (fun o s=>ac cal cal1 (k o s)) kx):∀ (ds acc) (s) (k:D→Sta→IT),ac cal cal1 (lcT g ds acc s k)=oc (bx f ds acc s) (fun d s=>ac cal cal1 (k d s)) kx
 | [],acc,s,k=>rfl
 | d :: r,acc,s,k=>by
   show ac cal cal1 (g d s _)=oc ((f d s).bind _) _ _
   rw [h,bP]
   refine cj fun o s'=>?_
   cases o with
   | none=>exact mS h r acc s' k
   | some e=>
     dsimp only
     show ac cal cal1 (if decide (acc.length<100000)=true then lcT g r (acc ++ [e]) s' k else .bad)=_
     by_cases c:acc.length<100000
     ·rw [ZZ (ZW c),ZZ c];exact mS h r (acc ++ [e]) s' k
     ·rw [ZY (by simpa using c),ZY c];rfl
theorem wn {x:Out D}:oc (x.back env) k kx=oc x (fun d s'=>k d ⟨env,[],s'.st⟩) (fun c l s'=>kx c l ⟨env,[],s'.st⟩):=by cases x <;> rfl
theorem Bv {x:Out D} {k:D→Sta→IT} {kx:Nat→List D→Sta→IT}:ac cal cal1 (.sub x k kx)=oc x (fun d s=>ac cal cal1 (k d s)) (fun c l s=>ac cal cal1 (kx c l s)):=by cases x <;> rfl
theorem A9 :evT Γ cal cal1 lp br (.v i) s k kx=(match s.env[i]? with | some (some d)=>k d (if br then s else un s i) | _=>.bad):=rfl
theorem A8 :evT Γ cal cal1 lp br (.g j) s k kx=(match Γ.gl[j]?.map toD with | some d=>k d s | none=>.bad):=rfl
theorem C8 :ev Γ cal cal1 br (.g j) s = .of s (Γ.gl[j]?.map toD):=rfl
theorem a9:∀ e:E,(∀ br s k kx,ac cal cal1 (evT Γ cal cal1 lp br e s k kx)=oc (ev Γ cal cal1 br e s) (fun d s=>ac cal cal1 (k d s)) (fun c l s=>ac cal cal1 (kx c l s))) ∧
 (∀ br s k kx,ac cal cal1 (du Γ cal cal1 lp br e s k kx)=oc (evs Γ cal cal1 br e s) (fun d s=>ac cal cal1 (k d s)) (fun c l s=>ac cal cal1 (kx c l s))):=by
 intro e
 induction e with
 | v i=>
   refine ⟨fun br s k kx=>?_,fun br s k kx=>rfl⟩
   rw [A9,C9]
   cases s.env[i]? with
   | none=>rfl
   | some o=>cases o <;> rfl
 | c d=>exact ⟨fun br s k kx=>rfl,fun br s k kx=>rfl⟩
 | g j=>
   refine ⟨fun br s k kx=>?_,fun br s k kx=>rfl⟩
   rw [A8,C8]
   cases Γ.gl[j]?.map toD <;> rfl
 | op o a b iha ihb=>exact ⟨fun br s k kx=>(iha.1 _ _ _ _).trans (ae fun x s=>(ihb.1 _ _ _ _).trans (ae fun y s=>bo)),fun br s k kx=>rfl⟩
 | isN a ih=>exact ⟨fun br s k kx=>(ih.1 _ _ _ _).trans (ae fun x s=>rfl),fun br s k kx=>rfl⟩
 | isNN a ih=>exact ⟨fun br s k kx=>(ih.1 _ _ _ _).trans (ae fun x s=>rfl),fun br s k kx=>rfl⟩
 | neg a ih=>exact ⟨fun br s k kx=>(ih.1 _ _ _ _).trans (ae fun x s=>by cases x <;> rfl),fun br s k kx=>rfl⟩
 | not a ih=>exact ⟨fun br s k kx=>(ih.1 _ _ _ _).trans (ae fun x s=>by cases x <;> rfl),fun br s k kx=>rfl⟩
 | and a b iha ihb=>exact ⟨fun br s k kx=>(iha.1 _ _ _ _).trans (ae fun x s=>by
  cases x with
  | bl t=>cases t with
    | true=>exact ihb.1 _ _ _ _
    | false=>rfl
  | _=>rfl),fun br s k kx=>rfl⟩
 | or a b iha ihb=>exact ⟨fun br s k kx=>(iha.1 _ _ _ _).trans (ae fun x s=>by
  cases x with
  | bl t=>cases t with
    | false=>exact ihb.1 _ _ _ _
    | true=>rfl
  | _=>rfl),fun br s k kx=>rfl⟩
 | ite c a b ihc iha ihb=>exact ⟨fun br s k kx=>(ihc.1 _ _ _ _).trans (ae fun x s=>by
  cases x with
  | bl t=>cases t with
    | true=>exact iha.1 _ _ _ _
    | false=>exact ihb.1 _ _ _ _
  | _=>rfl),fun br s k kx=>rfl⟩
 | chain o p a b c iha ihb ihc=>exact ⟨fun br s k kx=>(iha.1 _ _ _ _).trans (ae fun x s=>(ihb.1 _ _ _ _).trans (ae fun y s=>by
  show ac cal cal1 (.opt (opD o (look s.st x) (look s.st y)) _)=_
  cases opD o (look s.st x) (look s.st y) with
  | none=>rfl
  | some d=>cases d with
    | bl t=>cases t with
      | true=>exact (ihc.1 _ _ _ _).trans (ae fun z s=>bo)
      | false=>rfl
    | _=>rfl)),fun br s k kx=>rfl⟩
 | ix a b iha ihb=>exact ⟨fun br s k kx=>(iha.1 _ _ _ _).trans (ae fun x s=>(ihb.1 _ _ _ _).trans (ae fun y s=>bo)),fun br s k kx=>rfl⟩
 | sl a lo hi iha ihl ihh=>
   refine ⟨fun br s k kx=>(iha.1 _ _ _ _).trans (ae fun x s=>?_),fun br s k kx=>rfl⟩
   have k3:∀ l s,ac cal cal1 (if bD hi then .opt (slO (look s.st x) l none) fun d=>k d s else evT Γ cal cal1 lp true hi s (fun z s=>match z with | .int h=>.opt (slO (look s.st x) l (some h)) fun d=>k d s | _=>.bad) kx)=oc ((if bD hi then .ok none s else (ev Γ cal cal1 true hi s).bind toI).bind fun h s=>.of s (slO (look s.st x) l h)) (fun d s=>ac cal cal1 (k d s)) (fun c l s=>ac cal cal1 (kx c l s)):=fun l s=>by
    by_cases c:bD hi=true
    ·rw [ZZ c,ZZ c];exact bo
    ·rw [ZY c,ZY c,ihh.1,bP,bP]
     exact cj fun z s=>by cases z <;> first | exact bo | rfl
   by_cases c:bD lo=true
   ·dsimp only
    rw [ZZ c,ZZ c];exact k3 none s
   ·dsimp only
    rw [ZY c,ZY c,ihl.1,bP,bP]
    exact cj fun z s=>by cases z <;> first | exact k3 _ s | rfl
 | sl3 a lo hi iha ihl ihh=>
   refine ⟨fun br s k kx=>(iha.1 _ _ _ _).trans (ae fun x s=>?_),fun br s k kx=>rfl⟩
   have k3:∀ l s,ac cal cal1 (if bD hi then .opt (qM (look s.st x) l none) fun d=>k d s else evT Γ cal cal1 lp true hi s (fun z s=>match z with | .int h=>.opt (qM (look s.st x) l (some h)) fun d=>k d s | _=>.bad) kx)=oc ((if bD hi then .ok none s else (ev Γ cal cal1 true hi s).bind toI).bind fun h s=>.of s (qM (look s.st x) l h)) (fun d s=>ac cal cal1 (k d s)) (fun c l s=>ac cal cal1 (kx c l s)):=fun l s=>by
    by_cases c:bD hi=true
    ·rw [ZZ c,ZZ c];exact bo
    ·rw [ZY c,ZY c,ihh.1,bP,bP]
     exact cj fun z s=>by cases z <;> first | exact bo | rfl
   by_cases c:bD lo=true
   ·dsimp only
    rw [ZZ c,ZZ c];exact k3 none s
   ·dsimp only
    rw [ZY c,ZY c,ihl.1,bP,bP]
    exact cj fun z s=>by cases z <;> first | exact k3 _ s | rfl
 | tget j a b iha ihb=>exact ⟨fun br s k kx=>(iha.1 _ _ _ _).trans (ae fun x s=>(ihb.1 _ _ _ _).trans (ae fun y s=>by cases Γ.tb[j]? <;> cases x <;> rfl)),fun br s k kx=>rfl⟩
 | newd j es ih=>exact ⟨fun br s k kx=>(ih.2 _ _ _ _).trans (ae fun l s=>bo),fun br s k kx=>rfl⟩
 | fld a f ih=>exact ⟨fun br s k kx=>(ih.1 _ _ _ _).trans (ae fun x s=>bo),fun br s k kx=>rfl⟩
 | tup es ih=>exact ⟨fun br s k kx=>(ih.2 _ _ _ _).trans (ae fun l s=>sj),fun br s k kx=>rfl⟩
 | lst es ih=>exact ⟨fun br s k kx=>(ih.2 _ _ _ _).trans (ae fun l s=>sj),fun br s k kx=>rfl⟩
 | newl es ih=>exact ⟨fun br s k kx=>(ih.2 _ _ _ _).trans (ae fun l s=>by by_cases c:l.length≤100000 <;> simp only [c,if_true,if_false] <;> rfl),fun br s k kx=>rfl⟩
 | nil=>exact ⟨fun br s k kx=>rfl,fun br s k kx=>rfl⟩
 | cons a r iha ihr=>exact ⟨fun br s k kx=>rfl,fun br s k kx=>(iha.1 _ _ _ _).trans (ae fun x s=>(ihr.2 _ _ _ _).trans (ae fun l s=>rfl))⟩
 | call j es ih=>exact ⟨fun br s k kx=>(ih.2 _ _ _ _).trans (ae fun l s=>xp),fun br s k kx=>rfl⟩
 | hcall j es ih=>exact ⟨fun br s k kx=>(ih.2 _ _ _ _).trans (ae fun l s=>by
  show ac cal cal1 (if aU l=true then _ else .bad)=oc (vp cal j l s) _ _
  unfold vp
  split
  ·show ac cal cal1 (match cal j l [] with | .ok d _=>_ | .exc c l _=>_ | .bad=>_)=_
   cases cal j l [] with
   | ok d st=>show ac cal cal1 (if noR d=true then _ else _)=_;dsimp only;split <;> rfl
   | exc c l st=>show ac cal cal1 (if aU l=true then _ else .bad)=_;dsimp only;split <;> rfl
   | bad=>rfl
  ·rfl),fun br s k kx=>rfl⟩
 | fcall own j es ih=>exact ⟨fun br s k kx=>(ih.2 _ _ _ _).trans (ae fun l s=>by
  show ac cal cal1 (if aU l=true then _ else .bad)=oc (yk cal own j l s) _ _
  unfold yk
  split
  ·show ac cal cal1 (match cal j l [] with | .ok d _=>_ | .exc c l _=>_ | .bad=>_)=_
   cases cal j l [] with
   | ok d st=>
     show ac cal cal1 (if (own && !oO d)=true then _ else _)=_;dsimp only;split
     ·rfl
     ·exact bo
   | exc c l st=>show ac cal cal1 (if aU l=true then _ else .bad)=_;dsimp only;split <;> rfl
   | bad=>rfl
  ·rfl),fun br s k kx=>rfl⟩
 | mth c j a es iha ih=>exact ⟨fun br s k kx=>(iha.1 _ _ _ _).trans (ae fun x s=>by
  cases x with
  | ref p=>
    show ac cal cal1 (if sy s.st p c=true then _ else .bad)=_
    unfold sy
    dsimp only
    cases s.st[p]? with
    | none=>rfl
    | some o=>cases o with
      | ins c' l'=>
        dsimp only
        by_cases e:c'=c
        ·rw [ZZ (by simpa using e),ZZ e]
         exact (ih.2 _ _ _ _).trans (ae fun l s=>xp)
        ·rw [ZY (by simpa using e),ZY e];rfl
      | _=>rfl
  | _=>rfl),fun br s k kx=>rfl⟩
 | bi b es ih=>exact ⟨fun br s k kx=>(ih.2 _ _ _ _).trans (ae fun l s=>bo),fun br s k kx=>rfl⟩
 | tab j a ih=>exact ⟨fun br s k kx=>(ih.1 _ _ _ _).trans (ae fun x s=>by cases Γ.tb[j]? <;> cases x <;> first | exact bo | rfl),fun br s k kx=>rfl⟩
 | tabin j a ih=>exact ⟨fun br s k kx=>(ih.1 _ _ _ _).trans (ae fun x s=>by cases Γ.tb[j]? <;> cases x <;> rfl),fun br s k kx=>rfl⟩
 | tand a b iha ihb=>exact ⟨fun br s k kx=>(iha.1 _ _ _ _).trans (ae fun x s=>by
  cases x with
  | bl t=>cases t with
    | true=>exact ihb.1 _ _ _ _
    | false=>rfl
  | _=>rfl),fun br s k kx=>rfl⟩
 | tor a b iha ihb=>exact ⟨fun br s k kx=>(iha.1 _ _ _ _).trans (ae fun x s=>by
  cases x with
  | bl t=>cases t with
    | false=>exact ihb.1 _ _ _ _
    | true=>rfl
  | _=>rfl),fun br s k kx=>rfl⟩
 | tnot a ih=>exact ⟨fun br s k kx=>(ih.1 _ _ _ _).trans (ae fun x s=>by cases x <;> rfl),fun br s k kx=>rfl⟩
 | tv a ih=>exact ⟨fun br s k kx=>(ih.1 _ _ _ _).trans (ae fun x s=>bo),fun br s k kx=>rfl⟩
 | it b es ih=>exact ⟨fun br s k kx=>(ih.2 _ _ _ _).trans (ae fun l s=>bo),fun br s k kx=>rfl⟩
 | itv a ih=>exact ⟨fun br s k kx=>(ih.1 _ _ _ _).trans (ae fun x s=>by cases lZ x <;> rfl),fun br s k kx=>rfl⟩
 | dic es ih=>exact ⟨fun br s k kx=>(ih.2 _ _ _ _).trans (ae fun l s=>bo),fun br s k kx=>rfl⟩
 | get a b c iha ihb ihc=>exact ⟨fun br s k kx=>(iha.1 _ _ _ _).trans (ae fun x s=>by
  show ac cal cal1 (if isDic (look s.st x)=true then _ else .bad)=_
  split
  ·refine (ihb.1 _ _ _ _).trans (ae fun y s=>(ihc.1 _ _ _ _).trans (ae fun z s=>?_))
   show ac cal cal1 (.opt (yn (look s.st x) y z) _)=_
   unfold yn
   cases look s.st x <;> cases cb y <;> rfl
  ·rfl),fun br s k kx=>rfl⟩
 | index a b iha ihb=>exact ⟨fun br s k kx=>(iha.1 _ _ _ _).trans (ae fun x s=>by
  show ac cal cal1 (if vq x=true then _ else _)=oc (if vq x=true then _ else _) _ _
  split
  ·exact (ihb.1 _ _ _ _).trans (ae fun y s=>bo)
  ·rfl),fun br s k kx=>rfl⟩
 | join x a ih=>exact ⟨fun br s k kx=>(ih.1 _ _ _ _).trans (ae fun y s=>bo),fun br s k kx=>rfl⟩
 | fmt x a y ih=>exact ⟨fun br s k kx=>(ih.1 _ _ _ _).trans (ae fun v s=>bo),fun br s k kx=>rfl⟩
 | dicc ks es ih=>exact ⟨fun br s k kx=>(ih.2 _ _ _ _).trans (ae fun l s=>bo),fun br s k kx=>rfl⟩
 | keep kp a ih=>exact ⟨fun br s k kx=>(ih.1 _ _ _ _).trans (by show oc (ev Γ cal cal1 false a _) _ _=oc ((noX (ev Γ cal cal1 false a _)).bind _) _ _;cases ev Γ cal cal1 false a (hid (kp.filter s.ow.contains) s) <;> rfl),fun br s k kx=>rfl⟩
 | sto a ih=>exact ⟨fun br s k kx=>(ih.1 _ _ _ _).trans (ae fun x s=>by cases x <;> rfl),fun br s k kx=>rfl⟩
 | isXv a ih=>exact ⟨fun br s k kx=>(ih.1 _ _ _ _).trans (ae fun x s=>bo),fun br s k kx=>rfl⟩
 | snap i a ih=>
   refine ⟨fun br s k kx=>?_,fun br s k kx=>rfl⟩
   show ac cal cal1 (match s.env[i]? with
    | some (some (.ref n))=>(match s.st[n]? with
      | some (.lst l)=>.test (aU l) fun t=>if t then evT Γ cal cal1 lp false a ⟨(bj s.env).set i (some (.lst l)),[],[]⟩ (fun d _=>.test (flX (ak a) d) fun t=>if t then k d ⟨s.env,[],s.st⟩ else .bad) (fun _ _ _=>.bad) else .bad
      | _=>.bad)
    | some (some _)=>evT Γ cal cal1 lp false a s k kx
    | _=>.bad)=oc (match s.env[i]? with
    | some (some (.ref n))=>(match s.st[n]? with
      | some (.lst l)=>if aU l=true then (noX (ev Γ cal cal1 false a ⟨(bj s.env).set i (some (.lst l)),[],[]⟩)).bind fun d _=>if flX (ak a) d=true then .ok d ⟨s.env,[],s.st⟩ else .bad else .bad
      | _=>.bad)
    | some (some _)=>ev Γ cal cal1 false a s
    | _=>.bad) _ _
   cases s.env[i]? with
   | none=>rfl
   | some o=>cases o with
     | none=>rfl
     | some d=>cases d with
       | ref n=>
         dsimp only
         cases s.st[n]? with
         | none=>rfl
         | some o=>cases o with
           | lst l=>
             show ac cal cal1 (if aU l=true then _ else .bad)=_
             dsimp only
             split
             ·refine (ih.1 _ _ _ _).trans ?_
              show oc (ev Γ cal cal1 false a _) _ (fun _ _ _=>.bad)=_
              cases ev Γ cal cal1 false a ⟨(bj s.env).set i (some (.lst l)),[],[]⟩ with
              | ok d s'=>
                show ac cal cal1 (if flX (ak a) d=true then k d _ else .bad)=oc (if flX (ak a) d=true then Out.ok d _ else .bad) _ _
                split <;> rfl
              | _=>rfl
             ·rfl
           | _=>rfl
       | _=>exact ih.1 _ _ _ _
 | sm q a ih=>exact ⟨fun br s k kx=>(ih.1 _ _ _ _).trans (ae fun x s=>bo),fun br s k kx=>rfl⟩
 | pop a ih=>exact ⟨fun br s k kx=>(ih.1 _ _ _ _).trans (ae fun x s=>by
  cases x with
  | ref n=>
    show ac cal cal1 (match s.st[n]? with | some (.lst l)=>.opt l.getLast? fun d=>k d ⟨s.env,s.ow,s.st.set n (.lst l.dropLast)⟩ | _=>.bad)=oc (match s.st[n]? with | some (.lst l)=>(match l.getLast? with | some d=>.ok d ⟨s.env,s.ow,s.st.set n (.lst l.dropLast)⟩ | none=>.bad) | _=>.bad) _ _
    cases s.st[n]? with
    | none=>rfl
    | some o=>cases o with
      | lst l=>dsimp only;cases l.getLast? <;> rfl
      | _=>rfl
  | _=>rfl),fun br s k kx=>rfl⟩
 | isX a js ih=>exact ⟨fun br s k kx=>(ih.1 _ _ _ _).trans (ae fun x s=>bo),fun br s k kx=>rfl⟩
 | lc t one it elt cond ihi ihe ihc=>
   refine ⟨fun br s k kx=>(ihi.1 _ _ _ _).trans (ae fun x s=>?_),fun br s k kx=>rfl⟩
   cases x with
   | lst ds=>
     dsimp only
     rw [wn]
     cases lp with
     | true=>rw [ZZ rfl];exact Bv
     | false=>
       rw [ZY ϩ]
       refine mS (f:=fun d s'=>(match aJ t one d s'.env with
        | some env=>(ev Γ cal cal1 true cond ⟨env,[],s'.st⟩).bind fun b s2=>(match b with
          | .bl true=>(ev Γ cal cal1 false elt s2).bind fun e s3=>.ok (some e) ⟨s3.env,[],s3.st⟩
          | .bl false=>.ok none ⟨s2.env,[],s2.st⟩
          | _=>.bad)
        | none=>.bad)) (fun d s' k'=>?_) ds [] _ _
       cases aJ t one d s'.env with
       | none=>rfl
       | some env=>
         refine (ihc.1 _ _ _ _).trans (ae fun b s2=>?_)
         cases b with
         | bl b=>cases b with
           | true=>exact (ihe.1 _ _ _ _).trans (ae fun e s3=>rfl)
           | false=>rfl
         | _=>rfl
   | _=>rfl
 | new j es ih=>exact ⟨fun br s k kx=>(ih.2 _ _ _ _).trans (ae fun l s=>by
  cases Γ.cl[j]? with
  | none=>rfl
  | some q=>
    dsimp only
    by_cases c1:q.what=1
    ·rw [ZZ c1,ZZ c1];exact sj
    ·rw [ZY c1,ZY c1]
     by_cases c0:q.what=0
     ·rw [ZZ c0,ZZ c0]
      show ac cal cal1 (match cal1 q.init (.ref s.st.length :: l) (s.st ++ [.ins j []]) with | .ok .non st=>k (.ref s.st.length) (aft es s .non st) | _=>.bad)=_
      cases cal1 q.init (.ref s.st.length :: l) (s.st ++ [.ins j []]) with
      | ok d st=>cases d <;> rfl
      | _=>rfl
     ·rw [ZY c0,ZY c0];rfl),fun br s k kx=>rfl⟩
end
def sc (x:ah) (kn:Sta→ah) (kr:D→Sta→ah) (kx:Nat→List D→Sta→ah):ah:=match x with
 | .nx s=>kn s
 | .rt d s=>kr d s
 | .exc c l s=>kx c l s
 | .bad=>.bad
theorem Cd :sc (x.go f) kn kr kx=oc x (fun a s=>sc (f a s) kn kr kx) kx:=by cases x <;> rfl
theorem aI (h:∀ a s,g a s=sc (f a s) kn kr kx):oc x g kx=sc (x.go f) kn kr kx:=by
 rw [Cd];exact cj h
theorem ug :sc (x.go f) kn kr kx=sc x (fun s=>sc (f s) kn kr kx) kr kx:=by cases x <;> rfl
theorem lO (h:∀ s,kn s=kn' s) (h2:∀ c l s,kx c l s=kx' c l s):sc x kn kr kx=sc x kn' kr kx':=by cases x <;> first | exact h _ | exact h2 _ _ _ | rfl
section
variable {Γ:Gm} {cal cal1:Nat→List D→List O→Res} {lp:Bool}
theorem oE (h:∀ d s k,ac cal cal1 (g d s k)=sc (f d s) (fun s=>ac cal cal1 (k s)) kr kx):∀ (ds) (s) (k:Sta→IT),ac cal cal1 (ym g ds s k)=sc (cy f ds s) (fun s=>ac cal cal1 (k s)) kr kx
 | [],s,k=>rfl
 | d :: r,s,k=>by
   show ac cal cal1 (g d s _)=sc ((f d s).go _) _ _ _
   rw [h,ug]
   exact lO (fun s=>oE h r s k) fun _ _ _=>rfl
theorem fB {kn:Sta→IT} {kr:D→Sta→IT} {kx:Nat→List D→Sta→IT}:ac cal cal1 (.subS x (fun o=>match o with | .nx s=>kn s | .rt d s=>kr d s | .exc c l s=>kx c l s | .bad=>.bad))=sc x (fun s=>ac cal cal1 (kn s)) (fun d s=>ac cal cal1 (kr d s)) (fun c l s=>ac cal cal1 (kx c l s)):=by cases x <;> rfl
theorem Bu {g:D→Sta} {kn:Sta→IT} {kr:D→Sta→ah} {kx:Nat→List D→Sta→ah}:ac cal cal1 (.opt o fun y=>kn (g y))=sc (match o with | some y=>.nx (g y) | none=>.bad) (fun s=>ac cal cal1 (kn s)) kr kx:=by cases o <;> rfl
theorem vg :exT Γ cal cal1 lp (.app i e) s kn kr kx=(if s.ow.contains i && isLst s.env[i]? then evT Γ cal cal1 lp false e s (fun d s=>if s.ow.contains i then (match s.env[i]? with
 | some (some (.lst l))=>.test (decide (l.length<100000)) fun t=>if t then kn ⟨s.env.set i (some (.lst (l ++ [d]))),s.ow,s.st⟩ else .bad
 | _=>.bad) else .bad) kx else .bad):=rfl
theorem ve :exS Γ cal cal1 (.app i e) s=(if s.ow.contains i && isLst s.env[i]? then (ev Γ cal cal1 false e s).go fun d s=>if s.ow.contains i then (match s.env[i]? with
 | some (some (.lst l))=>if l.length<100000 then .nx ⟨s.env.set i (some (.lst (l ++ [d]))),s.ow,s.st⟩ else .bad
 | _=>.bad) else .bad else .bad):=rfl
theorem vh :exT Γ cal cal1 lp (.ext i e) s kn kr kx=(if s.ow.contains i && isLst s.env[i]? then evT Γ cal cal1 lp false e s (fun d s=>if s.ow.contains i then (match s.env[i]?,d with
 | some (some (.lst l)),.lst x=>.test (decide (l.length+x.length≤100000)) fun t=>if t then kn ⟨s.env.set i (some (.lst (l ++ x))),s.ow,s.st⟩ else .bad
 | _,_=>.bad) else .bad) kx else .bad):=rfl
theorem vf :exS Γ cal cal1 (.ext i e) s=(if s.ow.contains i && isLst s.env[i]? then (ev Γ cal cal1 false e s).go fun d s=>if s.ow.contains i then (match s.env[i]?,d with
 | some (some (.lst l)),.lst x=>if l.length+x.length≤100000 then .nx ⟨s.env.set i (some (.lst (l ++ x))),s.ow,s.st⟩ else .bad
 | _,_=>.bad) else .bad else .bad):=rfl
theorem oH {kn:Sta→IT} {kr:D→Sta→ah} {kx:Nat→List D→Sta→ah} {c:Prop} [Decidable c] {z:Sta}:ac cal cal1 (.test (decide c) fun t=>if t then kn z else .bad)=sc (if c then .nx z else .bad) (fun s=>ac cal cal1 (kn s)) kr kx:=by
 show ac cal cal1 (if decide c=true then _ else .bad)=_
 by_cases h:c
 ·rw [ZZ (ZW h),ZZ h];rfl
 ·rw [ZY (by simpa using h),ZY h];rfl
theorem rN:∀ c:S,(∀ s kn kr kx,ac cal cal1 (exT Γ cal cal1 lp c s kn kr kx)=sc (exS Γ cal cal1 c s) (fun s=>ac cal cal1 (kn s)) (fun d s=>ac cal cal1 (kr d s)) (fun c l s=>ac cal cal1 (kx c l s))) ∧
 (∀ c' l s kn kr kx,ac cal cal1 (exT.hndT Γ cal cal1 lp c c' l s kn kr kx)=sc (exS.hnd Γ cal cal1 c c' l s) (fun s=>ac cal cal1 (kn s)) (fun d s=>ac cal cal1 (kr d s)) (fun c l s=>ac cal cal1 (kx c l s))):=by
 intro c
 have hb:∀ {c:S},(∀ c' l s kn kr kx,exT.hndT Γ cal cal1 lp c c' l s kn kr kx = .bad)→(∀ c' l s,exS.hnd Γ cal cal1 c c' l s = .bad)→(∀ c' l s kn kr kx,ac cal cal1 (exT.hndT Γ cal cal1 lp c c' l s kn kr kx)=sc (exS.hnd Γ cal cal1 c c' l s) (fun s=>ac cal cal1 (kn s)) (fun d s=>ac cal cal1 (kr d s)) (fun c l s=>ac cal cal1 (kx c l s))):=fun h1 h2 c' l s kn kr kx=>by rw [h1,h2];rfl
 induction c with
 | skip=>exact ⟨fun s kn kr kx=>rfl,fun _ _ _ _ _ _=>rfl⟩
 | seq a b iha ihb=>
   refine ⟨fun s kn kr kx=>(iha.1 _ _ _ _).trans ?_,hb (fun _ _ _ _ _ _=>rfl) fun _ _ _=>rfl⟩
   show _=sc ((exS Γ cal cal1 a s).go fun s=>exS Γ cal cal1 b s) _ _ _
   rw [ug]
   exact lO (fun s=>ihb.1 _ _ _ _) fun _ _ _=>rfl
 | set i e=>exact ⟨fun s kn kr kx=>((a9 e).1 _ _ _ _).trans (aI fun d s=>rfl),hb (fun _ _ _ _ _ _=>rfl) fun _ _ _=>rfl⟩
 | setT l e=>exact ⟨fun s kn kr kx=>((a9 e).1 _ _ _ _).trans (aI fun d s=>by cases aJ l false d s.env <;> rfl),hb (fun _ _ _ _ _ _=>rfl) fun _ _ _=>rfl⟩
 | setR i es=>exact ⟨fun s kn kr kx=>((a9 es).2 _ _ _ _).trans (aI fun l s=>by by_cases c:l.length≤100000 <;> simp only [c,if_true,if_false] <;> rfl),hb (fun _ _ _ _ _ _=>rfl) fun _ _ _=>rfl⟩
 | ret e=>exact ⟨fun s kn kr kx=>((a9 e).1 _ _ _ _).trans (aI fun d s=>rfl),hb (fun _ _ _ _ _ _=>rfl) fun _ _ _=>rfl⟩
 | ifs c a b iha ihb=>exact ⟨fun s kn kr kx=>((a9 c).1 _ _ _ _).trans (aI fun x s=>by
  cases x with
  | bl t=>cases t with
    | true=>exact iha.1 _ _ _ _
    | false=>exact ihb.1 _ _ _ _
  | _=>rfl),hb (fun _ _ _ _ _ _=>rfl) fun _ _ _=>rfl⟩
 | drop e=>exact ⟨fun s kn kr kx=>((a9 e).1 _ _ _ _).trans (aI fun d s=>rfl),hb (fun _ _ _ _ _ _=>rfl) fun _ _ _=>rfl⟩
 | app i e=>
   refine ⟨fun s kn kr kx=>?_,hb (fun _ _ _ _ _ _=>rfl) fun _ _ _=>rfl⟩
   rw [vg,ve]
   split
   ·refine ((a9 e).1 _ _ _ _).trans (aI fun d s=>?_)
    split
    ·split <;> first | exact oH | rfl
    ·rfl
   ·rfl
 | ext i e=>
   refine ⟨fun s kn kr kx=>?_,hb (fun _ _ _ _ _ _=>rfl) fun _ _ _=>rfl⟩
   rw [vh,vf]
   split
   ·refine ((a9 e).1 _ _ _ _).trans (aI fun d s=>?_)
    split
    ·split <;> first | exact oH | rfl
    ·rfl
   ·rfl
 | put a b e=>
   refine ⟨fun s kn kr kx=>?_,hb (fun _ _ _ _ _ _=>rfl) fun _ _ _=>rfl⟩
   cases a with
   | v i=>
     refine ((a9 e).1 _ _ _ _).trans (aI fun d s=>?_)
     cases s.env[i]? with
     | none=>rfl
     | some o=>cases o with
       | none=>rfl
       | some x=>
         refine ((a9 b).1 _ _ _ _).trans (aI fun y s=>?_)
         cases x with
         | ref n=>
           dsimp only
           cases (s.st[n]?).bind fun o=>fL o y d <;> rfl
         | _=>
           dsimp only
           split
           ·exact Bu
           ·rfl
   | _=>exact fB
 | fld a f e=>exact ⟨fun s kn kr kx=>fB,hb (fun _ _ _ _ _ _=>rfl) fun _ _ _=>rfl⟩
 | aug a f o e=>exact ⟨fun s kn kr kx=>fB,hb (fun _ _ _ _ _ _=>rfl) fun _ _ _=>rfl⟩
 | fapp a f e=>
   refine ⟨fun s kn kr kx=>((a9 a).1 _ _ _ _).trans (aI fun x s=>?_),hb (fun _ _ _ _ _ _=>rfl) fun _ _ _=>rfl⟩
   show ac cal cal1 (if gb s.st x=true then _ else .bad)=_
   split
   ·refine ((a9 e).1 _ _ _ _).trans (aI fun d s=>?_)
    cases x with
    | ref n=>
      show ac cal cal1 (match s.st[n]? with | some (.lst l)=>.test (decide (l.length<100000)) fun t=>if t then kn ⟨s.env,s.ow,s.st.set n (.lst (l ++ [d]))⟩ else .bad | _=>.bad)=sc (match s.st[n]? with | some (.lst l)=>if l.length<100000 then .nx ⟨s.env,s.ow,s.st.set n (.lst (l ++ [d]))⟩ else .bad | _=>.bad) _ _ _
      cases s.st[n]? with
      | none=>rfl
      | some o=>cases o with
        | lst l=>exact oH
        | _=>rfl
    | _=>rfl
   ·rfl
 | fext a e=>
   refine ⟨fun s kn kr kx=>((a9 a).1 _ _ _ _).trans (aI fun x s=>?_),hb (fun _ _ _ _ _ _=>rfl) fun _ _ _=>rfl⟩
   show ac cal cal1 (if gb s.st x=true then _ else .bad)=_
   split
   ·refine ((a9 e).1 _ _ _ _).trans (aI fun d s=>?_)
    cases x with
    | ref n=>
      show ac cal cal1 (match s.st[n]?,d with | some (.lst l),.lst m=>.test (decide (l.length+m.length≤100000)) fun t=>if t then kn ⟨s.env,s.ow,s.st.set n (.lst (l ++ m))⟩ else .bad | _,_=>.bad)=sc (match s.st[n]?,d with | some (.lst l),.lst m=>if l.length+m.length≤100000 then .nx ⟨s.env,s.ow,s.st.set n (.lst (l ++ m))⟩ else .bad | _,_=>.bad) _ _ _
      cases s.st[n]? with
      | none=>rfl
      | some o=>cases o with
        | lst l=>cases d <;> first | exact oH | rfl
        | _=>rfl
    | _=>rfl
   ·rfl
 | for_ t one it b ih=>
   refine ⟨fun s kn kr kx=>((a9 it).1 _ _ _ _).trans (aI fun x s=>?_),hb (fun _ _ _ _ _ _=>rfl) fun _ _ _=>rfl⟩
   cases x with
   | lst ds=>
     dsimp only
     cases lp with
     | true=>rw [ZZ rfl];exact fB
     | false=>
       rw [ZY ϩ]
       refine oE (fun d s k=>?_) ds s kn
       cases aJ t one d s.env with
       | none=>rfl
       | some env=>exact ih.1 _ _ _ _
   | _=>rfl
 | whl c b ih=>exact ⟨fun s kn kr kx=>fB,hb (fun _ _ _ _ _ _=>rfl) fun _ _ _=>rfl⟩
 | rais j es=>
   refine ⟨fun s kn kr kx=>((a9 es).2 _ _ _ _).trans (aI fun l s=>?_),hb (fun _ _ _ _ _ _=>rfl) fun _ _ _=>rfl⟩
   show ac cal cal1 (if dh Γ j l=true then kx j (gK Γ j l) s else .bad)=_
   split <;> rfl
 | try_ a h iha ihh=>
   refine ⟨fun s kn kr kx=>(iha.1 _ _ _ _).trans ?_,hb (fun _ _ _ _ _ _=>rfl) fun _ _ _=>rfl⟩
   show _=sc (match exS Γ cal cal1 a s with | .exc c l s'=>exS.hnd Γ cal cal1 h c l s' | r=>r) _ _ _
   cases exS Γ cal cal1 a s with
   | exc c l s'=>exact ihh.2 _ _ _ _ _ _
   | _=>rfl
 | hand j i b r ihb ihr=>
   refine ⟨fun s kn kr kx=>fB,fun c' l s kn kr kx=>?_⟩
   cases i with
   | none=>
     show ac cal cal1 (match dj Γ j c' with | some true=>_ | some false=>exT.hndT Γ cal cal1 lp r c' l s kn kr kx | none=>.bad)=sc (match dj Γ j c' with | some true=>_ | some false=>exS.hnd Γ cal cal1 r c' l s | none=>.bad) _ _ _
     rcases dj Γ j c' with _ | (_ | _)
     ·rfl
     ·exact ihr.2 _ _ _ _ _ _
     ·refine (ihb.1 _ _ _ _).trans ?_
      cases exS Γ cal cal1 b s <;> rfl
   | some i=>
     show ac cal cal1 (match dj Γ j c' with | some true=>_ | some false=>exT.hndT Γ cal cal1 lp r c' l s kn kr kx | none=>.bad)=sc (match dj Γ j c' with | some true=>_ | some false=>exS.hnd Γ cal cal1 r c' l s | none=>.bad) _ _ _
     rcases dj Γ j c' with _ | (_ | _)
     ·rfl
     ·exact ihr.2 _ _ _ _ _ _
     ·refine (ihb.1 _ _ _ _).trans ?_
      cases exS Γ cal cal1 b ⟨s.env.set i (some (.ins c' l)),s.ow.filter (· != i),s.st⟩ <;> rfl
inductive An where
 | r (r:Res) | t (n:Nat) (b:Bool) | o (n:Nat) (d:D) | e (d:D) (s:Sta) | y (c:Nat) (l:List D) (s:Sta) | x (o:ah) | c
end
section
variable (cal cal1:Nat→List D→List O→Res)
def trc:IT→List An→Prop×ah
 | .fin o,[]=>(True,o)
 | .fin o,_=>(False,o)
 | .call j ds st k,.r a :: l=>((cal j ds st=a)∧(trc (k a) l).1,(trc (k a) l).2)
 | .call1 j ds st k,.r a :: l=>((cal1 j ds st=a)∧(trc (k a) l).1,(trc (k a) l).2)
 | .call j ds st k,.c :: l=>trc (k (cal j ds st)) l
 | .call1 j ds st k,.c :: l=>trc (k (cal1 j ds st)) l
 | .test b k,.t 0 a :: l=>((b=a)∧(trc (k a) l).1,(trc (k a) l).2)
 | .test b k,.t (n+1) a :: l=>trc (k b) (.t n a :: l)
 | .test b k,.o (n+1) a :: l=>trc (k b) (.o n a :: l)
 | .test b k,l=>trc (k b) l
 | .opt o k,.o 0 a :: l=>((o=some a)∧(trc (k a) l).1,(trc (k a) l).2)
 | .opt (some d) k,.o (n+1) a :: l=>trc (k d) (.o n a :: l)
 | .opt (some d) k,.t (n+1) a :: l=>trc (k d) (.t n a :: l)
 | .opt (some d) k,l=>trc (k d) l
 | .sub o k _,.e d s :: l=>((o = .ok d s)∧(trc (k d s) l).1,(trc (k d s) l).2)
 | .sub o _ kx,.y c m s :: l=>((o = .exc c m s)∧(trc (kx c m s) l).1,(trc (kx c m s) l).2)
 | .subS o k,.x a :: l=>((o=a)∧(trc (k a) l).1,(trc (k a) l).2)
 | _,_=>(False,.bad)
theorem nW:∀ (t) (l),(trc cal cal1 t l).1→ac cal cal1 t=(trc cal cal1 t l).2:=by
 intro t
 induction t with
 | fin o=>intro l h;cases l <;> first | rfl | exact h.elim
 | call j ds st k ih=>
   intro l h
   cases l with
   | nil=>exact h.elim
   | cons a l=>cases a with
     | r a=>obtain ⟨h1,h2⟩:=h;have:=ih a l h2;rw [← h1] at this ⊢;show ac cal cal1 (k (cal j ds st))=_;rw [h1] at this ⊢;exact this
     | c=>exact ih _ l h
     | _=>exact h.elim
 | call1 j ds st k ih=>
   intro l h
   cases l with
   | nil=>exact h.elim
   | cons a l=>cases a with
     | r a=>obtain ⟨h1,h2⟩:=h;show ac cal cal1 (k (cal1 j ds st))=_;rw [h1];exact ih a l h2
     | c=>exact ih _ l h
     | _=>exact h.elim
 | test b k ih=>
   intro l h
   show ac cal cal1 (k b)=_
   cases l with
   | nil=>exact ih b _ h
   | cons a l=>cases a with
     | t n a=>cases n with
       | zero=>obtain ⟨h1,h2⟩:=h;rw [h1];exact ih a l h2
       | succ n=>exact ih b _ h
     | o n a=>cases n with
       | zero=>exact ih b _ h
       | succ n=>exact ih b _ h
     | _=>exact ih b _ h
 | opt o k ih=>
   intro l h
   cases l with
   | nil=>cases o with
     | none=>exact h.elim
     | some d=>exact ih d _ h
   | cons a l=>cases a with
     | o n a=>cases n with
       | zero=>obtain ⟨rfl,h2⟩:=h;exact ih a l h2
       | succ n=>cases o with
         | none=>exact h.elim
         | some d=>exact ih d _ h
     | t n a=>cases n with
       | zero=>cases o with
         | none=>exact h.elim
         | some d=>exact ih d _ h
       | succ n=>cases o with
         | none=>exact h.elim
         | some d=>exact ih d _ h
     | _=>cases o with
        | none=>exact h.elim
        | some d=>exact ih d _ h
 | sub o k kx ih ihx=>
   intro l h
   cases l with
   | nil=>exact h.elim
   | cons a l=>cases a with
     | e d s=>obtain ⟨rfl,h2⟩:=h;exact ih d s l h2
     | y c m s=>obtain ⟨rfl,h2⟩:=h;exact ihx c m s l h2
     | _=>exact h.elim
 | subS o k ih=>
   intro l h
   cases l with
   | nil=>exact h.elim
   | cons a l=>cases a with
     | x a=>obtain ⟨h1,h2⟩:=h;show ac cal cal1 (k o)=_;rw [h1];exact ih a l h2
     | _=>exact h.elim
end
def Cc:ah→Res
 | .nx s=>.ok .non s.st
 | .rt d s=>.ok d s.st
 | .exc c l s=>.exc c l s.st
 | .bad=>.bad
def wF (Γ:Gm) (cal cal1:Nat→List D→List O→Res) (lp:Bool) (j:Nat) (ds:List D) (st:List O) (l:List An):Prop×Res:=match Γ.fn[j]? with
 | some f=>if (ds ++ f.df).length=f.np then
  (fun p=>(p.1,Cc p.2)) (trc cal cal1 (exT Γ cal cal1 lp f.body ⟨(ds ++ f.df).map some ++ μ (f.ns - f.np) none,[],st⟩ (fun s=>.fin (.nx s)) (fun d s=>.fin (.rt d s)) (fun c l s=>.fin (.exc c l s))) l)
   else (False,.bad)
 | none=>(False,.bad)
theorem zR {st:List O} (l:List An) {P:Prop} {r:Res} (hp:P) (h:wF Γ cal cal1 lp j ds st l=(P,r)):iE Γ cal cal1 j ds st=r:=by
 unfold wF at h
 unfold iE
 cases q:Γ.fn[j]? with
 | none=>rw [q] at h;have t:False=P:=ZS ł h;exact (Eq.mpr t hp:False).elim
 | some f=>
   rw [q] at h
   dsimp only at h ⊢
   by_cases c:(ds ++ f.df).length=f.np
   ·rw [ZZ c] at h ⊢
    have h1:=ZS ł h
    have h2:=ZS Es h
    dsimp only at h1 h2
    have t:=nW cal cal1 _ l (h1 ▸ hp)
    rw [(rN f.body).1] at t
    rw [← h2,← t]
    cases exS Γ cal cal1 f.body ⟨(ds ++ f.df).map some ++ μ (f.ns - f.np) none,[],st⟩ <;> rfl
   ·rw [ZY c] at h;have t:False=P:=ZS ł h;exact (Eq.mpr t hp:False).elim
theorem yd (lp) {st:List O} (l:List An) {P:Prop} {r:Res} (hp:P) (h:wF Γ (af Γ n) (ao Γ n) lp j ds st l=(P,r)):af Γ (n+1) j ds st=r:=zR l hp h
theorem xl (lp) (l) {P:Prop} {o:ah} (hp:P) (h:trc cal cal1 (exT Γ cal cal1 lp c s (fun s=>.fin (.nx s)) (fun d s=>.fin (.rt d s)) (fun c l s=>.fin (.exc c l s))) l=(P,o)):exS Γ cal cal1 c s=o:=by
 have h1:=ZS ł h
 have h2:=ZS Es h
 dsimp only at h1 h2
 have t:=nW cal cal1 _ l (h1 ▸ hp)
 rw [(rN c).1,h2] at t
 rw [← t]
 cases exS Γ cal cal1 c s <;> rfl
def xF:ah→Out D
 | .rt d s=>.ok d s
 | .exc c l s=>.exc c l s
 | _=>.bad
theorem Ba (lp) (l) {P:Prop} {o:Out D} (hp:P) (h:(fun p:Prop×ah=>(p.1,xF p.2)) (trc cal cal1 (evT Γ cal cal1 lp br e s (fun d s=>.fin (.rt d s)) (fun c l s=>.fin (.exc c l s))) l)=(P,o)):ev Γ cal cal1 br e s=o:=by
 have h1:=ZS ł h
 have h2:=ZS Es h
 dsimp only at h1 h2
 have t:=nW cal cal1 _ l (h1 ▸ hp)
 rw [(a9 e).1] at t
 rw [← h2,← t]
 cases ev Γ cal cal1 br e s <;> rfl
theorem kC (h:f d s = .nx s1) (h2:cy f r s1=o):cy f (d :: r) s=o:=by
 show (f d s).go _=o
 rw [h];exact h2
theorem cR (h:f d s = .ok (some e) s1) (ha:acc.length<100000) (h2:bx f r (acc ++ [e]) s1=o):bx f (d :: r) acc s=o:=by
 show (f d s).bind _=o
 rw [h]
 show (if acc.length<100000 then bx f r (acc ++ [e]) s1 else .bad)=o
 rw [ZZ ha];exact h2
theorem jC (h:f d s = .ok none s1) (h2:bx f r acc s1=o):bx f (d :: r) acc s=o:=by
 show (f d s).bind _=o
 rw [h];exact h2
def i4:S→S
 | .seq a b=>(match i4 a with | .skip=>i4 b | x=>x)
 | .ifs _ a b=>(match i4 a with | .skip=>i4 b | x=>x)
 | .for_ _ _ _ b=>b
 | _=>.skip
def toR:ah→Res
 | .nx s=>.ok .non s.st
 | .rt d s=>.ok d s.st
 | .exc c l s=>.exc c l s.st
 | .bad=>.bad
def hdS:Nat→S→S
 | 0,.seq a _=>a
 | n+1,.seq a b=>.seq a (hdS n b)
 | _,s=>s
def tlS:Nat→S→S
 | 0,.seq _ b=>b
 | n+1,.seq _ b=>tlS n b
 | _,_=>.skip
theorem xn (x:ah):(x.go fun s=>.nx s)=x:=by cases x <;> rfl
theorem iR (n:Nat) (c:S) (s:Sta):exS Γ cal cal1 c s=(exS Γ cal cal1 (hdS n c) s).go fun s=>exS Γ cal cal1 (tlS n c) s:=by
 induction n generalizing c s with
 | zero=>cases c <;> first | rfl | exact (xn _).symm
 | succ n ih=>
   cases c with
   | seq a b=>
     show (exS Γ cal cal1 a s).go _=((exS Γ cal cal1 a s).go fun s=>exS Γ cal cal1 (hdS n b) s).go _
     cases exS Γ cal cal1 a s with
     | nx s=>exact ih b s
     | _=>rfl
   | _=>exact (xn _).symm
theorem yj (lp) (l) {P:Prop} {r:Res} (hp:P) (h:(fun p:Prop×ah=>(p.1,toR p.2)) (trc cal cal1 (exT Γ cal cal1 lp c s (fun s=>.fin (.nx s)) (fun d s=>.fin (.rt d s)) (fun c l s=>.fin (.exc c l s))) l)=(P,r)):toR (exS Γ cal cal1 c s)=r:=by
 have h1:=ZS ł h
 have h2:=ZS Es h
 dsimp only at h1 h2
 rw [← h2]
 exact ZS toR (xl lp l (h1 ▸ hp) rfl)
theorem dI {n:Nat} {ds:List D} {st:List O} {r:Res} (k:Nat) (f:Fn) {s':Sta} (hf:Γ.fn[j]? = some f) (hl:(ds ++ f.df).length=f.np) (h1:exS Γ (af Γ n) (ao Γ n) (hdS k f.body) ⟨(ds ++ f.df).map some ++ μ (f.ns - f.np) none,[],st⟩ = .nx s') (h2:toR (exS Γ (af Γ n) (ao Γ n) (tlS k f.body) s')=r):af Γ (n+1) j ds st=r:=by
 show iE Γ (af Γ n) (ao Γ n) j ds st=r
 unfold iE
 rw [hf]
 dsimp only
 rw [ZZ hl,iR k,h1,← h2]
 rfl
class ToAn (α:Type) where
 an:Nat→α→An
instance:ToAn Res:=⟨fun _ a=>.r a⟩
instance:ToAn Bool:=⟨fun n b=>.t n b⟩
instance:ToAn (Option D):=⟨fun n o=>match o with | some d=>.o n d | none=>.c⟩
instance:ToAn (Out D):=⟨fun _ o=>match o with | .ok d s=>.e d s | .exc c l s=>.y c l s | _=>.c⟩
instance:ToAn ah:=⟨fun _ o=>.x o⟩
def AL (_:List An) (P:Prop):Prop:=P
theorem aX (n:Nat) {α:Type} [ToAn α] {x a:α} (h:x=a) {l:List An} {P:Prop} (t:AL l P):AL (ToAn.an n a :: l) (x=a∧P):=⟨h,t⟩
theorem aC {l:List An} {P:Prop} (t:AL l P):AL (.c :: l) P:=t
theorem aZ:AL [] True:=Ů
theorem aa (lp) {st:List O} {l:List An} {P:Prop} {r:Res} (hp:AL l P) (h:wF Γ (af Γ n) (ao Γ n) lp j ds st l=(P,r)):af Γ (n+1) j ds st=r:=yd lp l hp h
theorem bp (lp) {l:List An} {P:Prop} {o:ah} (hp:AL l P) (h:trc cal cal1 (exT Γ cal cal1 lp c s (fun s=>.fin (.nx s)) (fun d s=>.fin (.rt d s)) (fun c l s=>.fin (.exc c l s))) l=(P,o)):exS Γ cal cal1 c s=o:=xl lp l hp h
theorem fY (lp) {l:List An} {P:Prop} {o:Out D} (hp:AL l P) (h:(fun p:Prop×ah=>(p.1,xF p.2)) (trc cal cal1 (evT Γ cal cal1 lp br e s (fun d s=>.fin (.rt d s)) (fun c l s=>.fin (.exc c l s))) l)=(P,o)):ev Γ cal cal1 br e s=o:=Ba lp l hp h
theorem ky (lp) {l:List An} {P:Prop} {r:Res} (hp:AL l P) (h:(fun p:Prop×ah=>(p.1,toR p.2)) (trc cal cal1 (exT Γ cal cal1 lp c s (fun s=>.fin (.nx s)) (fun d s=>.fin (.rt d s)) (fun c l s=>.fin (.exc c l s))) l)=(P,r)):toR (exS Γ cal cal1 c s)=r:=yj lp l hp h
def ql (Γ:Gm) (cal cal1:Nat→List D→List O→Res) (t:List Nat) (one:Bool) (b:S):D→Sta→ah:=fun d s=>match aJ t one d s.env with | some env=>exS Γ cal cal1 b ⟨env,s.ow.filter fun i=>!t.contains i,s.st⟩ | none=>.bad
def lcQ (Γ:Gm) (cal cal1:Nat→List D→List O→Res) (t:List Nat) (one:Bool) (elt cond:E):D→Sta→Out (Option D):=fun d s'=>(match aJ t one d s'.env with
 | some env=>(ev Γ cal cal1 true cond ⟨env,[],s'.st⟩).bind fun b s2=>(match b with
   | .bl true=>(ev Γ cal cal1 false elt s2).bind fun e s3=>.ok (some e) ⟨s3.env,[],s3.st⟩
   | .bl false=>.ok none ⟨s2.env,[],s2.st⟩
   | _=>.bad)
 | none=>.bad)
theorem gj {s:Sta} (hb:aJ t one d s.env=some env) (h:exS Γ cal cal1 b ⟨env,s.ow.filter fun i=>!t.contains i,s.st⟩=o):ql Γ cal cal1 t one b d s=o:=by unfold ql;rw [hb];exact h
theorem d6 {s:Sta} {cond elt:E} (hb:aJ t one d s.env=some env) (hc:ev Γ cal cal1 true cond ⟨env,[],s.st⟩ = .ok (.bl true) s2) (h:ev Γ cal cal1 false elt s2 = .ok e s3):lcQ Γ cal cal1 t one elt cond d s = .ok (some e) ⟨s3.env,[],s3.st⟩:=by
 unfold lcQ
 rw [hb]
 dsimp only
 rw [hc]
 show (ev Γ cal cal1 false elt s2).bind _=_
 rw [h];rfl
theorem mR {s:Sta} {cond elt:E} (hb:aJ t one d s.env=some env) (hc:ev Γ cal cal1 true cond ⟨env,[],s.st⟩ = .ok (.bl false) s2):lcQ Γ cal cal1 t one elt cond d s = .ok none ⟨s2.env,[],s2.st⟩:=by
 unfold lcQ
 rw [hb]
 dsimp only
 rw [hc];rfl
theorem yF {s:Sta} {cond elt:E} (hb:aJ t one d s.env=some env) (hc:ev Γ cal cal1 true cond ⟨env,[],s.st⟩ = .ok (.bl true) s2) (h:ev Γ cal cal1 false elt s2 = .exc c l s3):lcQ Γ cal cal1 t one elt cond d s = .exc c l s3:=by
 unfold lcQ
 rw [hb]
 dsimp only
 rw [hc]
 show (ev Γ cal cal1 false elt s2).bind _=_
 rw [h];rfl
theorem qt (h:f d s = .exc c l s1):bx f (d :: r) acc s = .exc c l s1:=by
 show (f d s).bind _=_
 rw [h];rfl
end L2.Ev
end
section
namespace L2.Lx
abbrev Ch:=List Nat
def ch (x:θ):Ch:=x.cps.toList
def mk (w:Ch):θ:=⟨w.toArray⟩
theorem tH (x:θ):mk (ch x)=x:=by cases x;rfl
theorem ch_inj {x y:θ} (h:ch x=ch y):x=y:=by rw [← tH x,h,tH]
theorem ch_app (x y:θ):ch (x ++ y)=ch x ++ ch y:=by
 show (x.cps ++ y.cps).toList=_
 rw [Fz];rfl
theorem ch_len (x:θ):x.length=(ch x).length:=by show x.cps.size=x.cps.toList.length;rw [š]
def spl (c:Nat):Ch→List Ch
 | []=>[[]]
 | x :: r=>if x=c then [] :: spl c r else match spl c r with | []=>[[x]] | w :: ws=>(x :: w) :: ws
def jz (z:Ch):List Ch→Ch
 | []=>[]
 | [p]=>p
 | p :: q :: r=>p ++ z ++ jz z (q :: r)
theorem spl_cons (c x:Nat) (r:Ch):spl c (x :: r)=if x=c then [] :: spl c r else match spl c r with | []=>[[x]] | w :: ws=>(x :: w) :: ws:=rfl
theorem nU (c:Nat):∀ l,spl c l≠[]
 | []=>by simp [spl]
 | x :: r=>by
   unfold spl
   split
   ·simp
   ·split <;> simp
theorem dG (c:Nat):∀ l,c ∉ l→spl c l = [l]
 | [],_=>rfl
 | x :: r,h=>by
   have h1:x≠c:=fun e=>h (e ▸ κ)
   unfold spl
   rw [ZY h1,dG c r fun m=>h (υ _ m)]
theorem fg (c:Nat) (b:Ch):∀ a,spl c (a ++ c :: b)=spl c a ++ spl c b
 | []=>by rw [ϛ,spl_cons,ZZ rfl];rfl
 | x :: r=>by
   rw [Ĕ,spl_cons,spl_cons,fg c b r]
   split
   ·rfl
   ·cases e:spl c r with
    | nil=>exact ZX e (nU c r)
    | cons w ws=>rfl
theorem um (c:Nat):∀ ps:List Ch,ps≠[]→(∀ p∈ps,c ∉ p)→spl c (jz [c] ps)=ps
 | [p],_,h=>dG c p (h p κ)
 | p :: q :: r,_,h=>by
   show spl c (p ++ [c] ++ jz [c] (q :: r))=_
   rw [χ]
   show spl c (p ++ c :: jz [c] (q :: r))=_
   rw [fg,dG c p (h p κ),um c (q :: r) (by simp) fun x m=>h x (υ _ m)]
   rfl
theorem sG (c:Nat) (z:Ch):∀ l:Ch,jz z (spl c l)=l.flatMap fun x=>if x=c then z else [x]
 | []=>rfl
 | x :: r=>by
   have ih:=sG c z r
   rw [Á,← ih,spl_cons]
   by_cases h:x=c
   ·rw [ZZ h,ZZ h]
    cases e:spl c r with
    | nil=>exact ZX e (nU c r)
    | cons w ws=>show [] ++ z ++ jz z (w :: ws)=_;rw [ϛ]
   ·rw [ZY h,ZY h]
    cases e:spl c r with
    | nil=>exact ZX e (nU c r)
    | cons w ws=>cases ws with
      | nil=>rfl
      | cons v vs=>rfl
theorem ji (z:θ):∀ ps:List θ,ch (Str.join z ps)=jz (ch z) (ps.map ch)
 | []=>rfl
 | [p]=>rfl
 | p :: q :: r=>by
   show ch (p ++ z ++ Str.join z (q :: r))=_
   rw [ch_app,ch_app,ji z (q :: r)]
   rfl
theorem ut (x:θ) (y:θ):Ï x y≠[]:=by
 unfold Ï
 split
 ·simp
 ·split
  ·simp
  ·intro h
   have:=ZS HP h
   rw [D0] at this
   cases this
theorem split_ch (x:θ) (c:Nat):(Ï x ⟨#[c]⟩).map ch=spl c (ch x):=by
 have h1:=ji ⟨#[c]⟩ (Ï x ⟨#[c]⟩)
 rw [StrLaws.join_split] at h1
 rw [h1]
 exact (um c _ (by simp [ut]) fun p m=>by
  obtain ⟨q,hq,rfl⟩:=ō.mp m
  exact StrLaws.split_free x c q hq).symm
theorem split_mk (x:θ) (c:Nat):Ï x ⟨#[c]⟩=(spl c (ch x)).map mk:=by
 rw [← split_ch,List.map_map]
 exact (List.map_id' _).symm.trans (FF fun y _=>(tH y).symm)
theorem replace_ch (x z:θ) (c:Nat):ch (ă x ⟨#[c]⟩ z)=(ch x).flatMap fun y=>if y=c then ch z else [y]:=by
 rw [StrLaws.replace_one,ji,split_ch,sG]
def sp (x:Nat):Ch:=if x=40 then [32,40,32] else if x=41 then [32,41,32] else [x]
def lex (l:Ch):List Ch:=(spl 32 (l.flatMap sp)).filter fun w=>!w.isEmpty
theorem mY (a b:Ch):lex (a ++ 32 :: b)=lex a ++ lex b:=by
 unfold lex
 rw [Ũ,Á,show sp 32 = [32] from rfl]
 rw [show [32] ++ b.flatMap sp=32 :: b.flatMap sp from rfl,fg,ű]
theorem fE (a b:Ch) (c:Nat) (h:c=40∨c=41):lex (a ++ c :: b)=lex a ++ [c] :: lex b:=by
 unfold lex
 rw [Ũ,Á,show sp c = [32,c,32] by rcases h with rfl | rfl <;> rfl]
 show (spl 32 (_ ++ 32 :: ([c] ++ 32 :: _))).filter _=_
 rw [fg,fg,dG 32 [c] (by rcases h with rfl | rfl <;> simp),ű,ű]
 rfl
def Wd (w:Ch):Prop:=w≠[]∧∀ x∈w,x≠32∧x≠40∧x≠41
theorem vm {w:Ch} (h:∀ x∈w,x≠32∧x≠40∧x≠41):w.flatMap sp=w:=by
 induction w with
 | nil=>rfl
 | cons x r ih=>
   obtain ⟨h1,h2,h3⟩:=h x κ
   rw [Á,ih fun y m=>h y (υ _ m)]
   unfold sp
   rw [ZY h2,ZY h3];rfl
theorem mZ {w:Ch} (h:Wd w):lex w = [w]:=by
 unfold lex
 rw [vm h.2,dG 32 w fun m=>(h.2 32 m).1 rfl]
 cases w with
 | nil=>exact ZX rfl h.1
 | cons x r=>rfl
def Sep (b:Ch):Prop:=b = []∨∃ x r,b=x :: r∧(x=32∨x=40∨x=41)
theorem y8 {w b:Ch} (h:Wd w) (s:Sep b):lex (w ++ b)=w :: lex b:=by
 rcases s with rfl | ⟨x,r,rfl,q | q⟩
 ·rw [Ν,mZ h];rfl
 ·subst q
  rw [mY,mZ h]
  rw [show (32 :: r:Ch) = [] ++ 32 :: r from rfl,mY];rfl
 ·rw [fE _ _ _ q,mZ h]
  rw [show (x :: r:Ch) = [] ++ x :: r from rfl,fE _ _ _ q];rfl
def Tok (w:Ch):Prop:=w = [40]∨w = [41]∨Wd w
def Br (w:Ch):Prop:=w = [40]∨w = [41]
theorem y5 {w b:Ch} (h:Tok w) (s:Br w∨Sep b):lex (w ++ b)=w :: lex b:=by
 rcases h with rfl | rfl | h
 ·exact fE [] b 40 (.inl rfl)
 ·exact fE [] b 41 (.inr rfl)
 ·rcases s with (rfl | rfl) | s
  ·exact fE [] b 40 (.inl rfl)
  ·exact fE [] b 41 (.inr rfl)
  ·exact y8 h s
theorem vJ (n:Nat) (b:Ch):lex (μ n 32 ++ b)=lex b:=by
 induction n with
 | zero=>rfl
 | succ n ih=>rw [Ϯ];exact (mY [] _).trans ih
def Con (T:Ch) (ws:List Ch) (br:Prop):Prop:=∀ b,br∨Sep b→lex (T ++ b)=ws ++ lex b
theorem b8 {T:Ch} {ws:List Ch} {br:Prop} {w:Ch} (n:Nat) (h:Con T ws br) (tw:Tok w) (g:0<n∨br∨Br w):Con (T ++ (μ n 32 ++ w)) (ws ++ [w]) (Br w):=fun b s=>by
 rw [χ,χ,h,vJ,y5 tw s,χ]
 ·rfl
 ·cases n with
  | succ n=>exact .inr (.inr ⟨32,_,by rw [Ϯ];rfl,.inl rfl⟩)
  | zero=>
    rcases g with g | g | g
    ·cases g
    ·exact .inl g
    ·rcases g with rfl | rfl
     ·exact .inr (.inr ⟨40,b,rfl,.inr (.inl rfl)⟩)
     ·exact .inr (.inr ⟨41,b,rfl,.inr (.inr rfl)⟩)
theorem Con.lex {T:Ch} {ws:List Ch} {br:Prop} (h:Con T ws br):L2.Lx.lex T=ws:=by
 have:=h [] (.inr (.inl rfl))
 rw [Ν] at this
 rw [this];exact Ν _
end L2.Lx
end
section
namespace L2.K15
open L2.Bk L2.Ev
def top (i:Nat):Ø:=Hj.main.body.getD i (.Pass ⟨0,0,0,0⟩)
def aA (s:Ø) (j:Nat):Ø:=match s with
 | .ClassDef _ _ _ body _ _ _ _ _ _ _=>body.getD j (.Pass ⟨0,0,0,0⟩)
 | _=>.Pass ⟨0,0,0,0⟩
def fnl:List (θ×Ø):=(Ķ [("form",top 12),("read",top 29),("words_in",top 30),("leaf",top 32),("is_number",top 33),("only_signs",top 34),("given_of",top 35),("name_of",top 36),("_law_cell_at",top 38),("_law_alike",top 39),("_law_next",top 40),("_law_sort",top 41),("_law_word",top 42),("_law_leaf",top 43),("_law_front",top 44),("_law_kinds",top 45)] [("_law_many",top 46),("_law_tree",top 47),("_law_joined",top 48),("_law_brackets",top 49),("_law_signed",top 50),("_law_worse",top 51),("_law_more",top 52),("_law_right",top 53),("law",top 54)])
def mel:List (θ×θ×Ø):=[("__init__","Reader.__init__",aA (top 31) 0),("peek","Reader.peek",aA (top 31) 1),("take","Reader.take",aA (top 31) 2),("need_closed","Reader.need_closed",aA (top 31) 3),("need_end","Reader.need_end",aA (top 31) 4),("new_place","Reader.new_place",aA (top 31) 5),("read_node","Reader.read_node",aA (top 31) 6),("read_bracketed","Reader.read_bracketed",aA (top 31) 7),("read_things","Reader.read_things",aA (top 31) 8),("read_thing","Reader.read_thing",aA (top 31) 9),("read_row","Reader.read_row",aA (top 31) 10),("read_one_kind","Reader.read_one_kind",aA (top 31) 11)]
def gll:List (θ×Dk):=[("MOST_NODES",(.int 120)),("MOST_NEST",(.int 8)),("TRUTHS",(.tup [(.str "yes"),(.str "no")])),("MOST_FIGURES",(.int 40)),("FIGURES",(.str "0123456789")),("MOST_LETTERS",(.int 8)),("LETTERS",(.str "abcdefghijklmnopqrstuvwxyz")),("SIGNS",(.tup [(.str "+"),(.str "-"),(.str "*"),(.str "<"),(.str "=")])),("BRACKETED",(.tup [(.str "given"),(.str "fn"),(.str "self"),(.str "call"),(.str "let"),(.str "if"),(.str "row"),(.str "at"),(.str "size"),(.str "pair"),(.str "one"),(.str "two"),(.str "as")])),("MOST_GIVEN",(.int 7)),("MOST_IN_ROW",(.int 4)),("MOST_DEPTH",(.int 6)),("SIMPLE_KINDS",(.tup [(.str "whole"),(.str "truth"),(.str "?")])),("MOST_SIGNS",(.int 2000))]
def wM:List (θ×Dk):=[("whole",(.tup [(.str "number")])),("truth",(.tup [(.str "truth")])),("given",(.tup [(.str "given")])),("name",(.tup [(.str "name")])),("fn",(.tup [(.str "name"),(.str "kind"),(.str "node")])),("self",(.tup [(.str "name"),(.str "name"),(.str "kind"),(.str "kind"),(.str "node")])),("call",(.tup [(.str "node"),(.str "node")])),("let",(.tup [(.str "name"),(.str "node"),(.str "node")])),("if",(.tup [(.str "node"),(.str "node"),(.str "node")])),("do",(.tup [(.str "sign"),(.str "node"),(.str "node")])),("row",(.tup [(.str "kind"),(.str "nodes")])),("at",(.tup [(.str "node"),(.str "node")])),("size",(.tup [(.str "node")])),("pair",(.tup [(.str "node"),(.str "node")])),("one",(.tup [(.str "node")])),("two",(.tup [(.str "node")])),("as",(.tup [(.str "kind"),(.str "node")])),("look",(.tup [(.str "put in"),(.str "put in"),(.str "node")]))]
def jT:List (θ×Dk):=[("to",(.int 2)),("row",(.int 1)),("pair",(.int 2))]
def tbl:List (θ×List (θ×Dk)):=[("FORMS",wM),("KIND_PARTS",jT)]
def T:Ns where
 gl:=gll.map (·.1)
 tb:=tbl.map (·.1)
 fn:=fnl.map (·.1)
 at_:=["place","kind","by","wanted","way","words","taken","nodes"]
 bl:=["len","range","str","tuple","enumerate","all","int","isinstance","bool","list","reversed","ValueError"]
 rf:=["_law_xs","_law_words","_law_used","_law_odd","_law_turned"]
 mu:=["_law_tree"]
 me:=[("peek",9,26),("take",9,27),("need_closed",9,28),("need_end",9,29),("new_place",9,30),("read_node",9,31),("read_bracketed",9,32),("read_things",9,33),("read_thing",9,34),("read_row",9,35),("read_one_kind",9,36)]
 ex:=["","","","","","","","","",""]
 nd:=["","","","","","","","","",""]
 nw:=["","","","","","","","","","Reader"]
 hx:=["BlameError","NoText","NoPart","TooMany","NoName","TooDeep","NoFit","NoLook","Parted",""]
 hc:=["read"]
 xt:=["","NoText","","","","","","","",""]
 rl:=["_law_words","_law_xs","_law_used","_law_odd","_law_turned"]
 sn:=["_law_joined"]
 vx:=true
def Γ:Gm:=⟨gll.map (·.2),tbl.map (·.2),((fnl.map fun p=>(p.1,p.1,p.2)) ++ mel).map fun p=>cT T p.2.2,[⟨2,[],0,[],[1000],[]⟩,⟨2,[],0,[],[0,1000],[]⟩,⟨2,[],0,[],[0,1000],[]⟩,⟨2,[],0,[],[0,1000],[]⟩,⟨2,[0],0,[],[0,1000],[0]⟩,⟨2,[0],0,[],[0,1000],[0]⟩,⟨2,[0],0,[],[0,1000],[0]⟩,⟨2,[0],0,[],[0,1000],[0]⟩,⟨2,[0,1,2,3,4],0,[],[0,1000],[0,2]⟩,⟨0,[5,6,7],25,[],[],[]⟩]⟩
abbrev yw:Nat:=0
abbrev sC:Nat:=1
abbrev gP:Nat:=2
abbrev yx:Nat:=3
abbrev kM:Nat:=4
def bZ:Fn:=cT T (top 34)
abbrev b0:Nat:=5
abbrev mL:Nat:=6
abbrev qo:Nat:=7
abbrev gO:Nat:=8
def jk:Fn:=cT T (top 39)
abbrev eE:Nat:=9
abbrev dA:Nat:=10
abbrev kL:Nat:=11
abbrev fV:Nat:=12
abbrev kI:Nat:=13
abbrev jv:Nat:=14
abbrev jw:Nat:=15
abbrev kJ:Nat:=16
def fT:Fn:=cT T (top 47)
abbrev fU:Nat:=17
def iA:Fn:=cT T (top 48)
abbrev iB:Nat:=18
abbrev bt:Nat:=19
abbrev iC:Nat:=20
def cP:Fn:=cT T (top 51)
abbrev jx:Nat:=21
abbrev kK:Nat:=22
abbrev eH:Nat:=23
def rQ:Fn:=cT T (top 54)
abbrev sB:Nat:=24
abbrev dQ:Nat:=26
abbrev dR:Nat:=27
abbrev bb:Nat:=28
abbrev cz:Nat:=29
abbrev b9:Nat:=30
abbrev d5:Nat:=31
abbrev aN:Nat:=32
abbrev dz:Nat:=33
abbrev dP:Nat:=34
abbrev eD:Nat:=35
abbrev cQ:Nat:=36
open L2.Lx (ch ch_len ch_app)
inductive L3 where
 | whole | truth | unt
 deriving DecidableEq
inductive H2 where
 | to | pair
 deriving DecidableEq
def L3.str:L3→θ
 | .whole=>"whole" | .truth=>"truth" | .unt=>"?"
def H2.str:H2→θ
 | .to=>"to" | .pair=>"pair"
inductive Kd where
 | lf (l:L3) | row (a:Kd) | two (h:H2) (a b:Kd)
def Kd.dep:Kd→Nat
 | .lf _=>1 | .row a=>1+a.dep | .two _ a b=>1+max a.dep b.dep
def Kd.toD:Kd→D
 | .lf l=>.tup [.str l.str]
 | .row a=>.tup [.str "row",a.toD]
 | .two h a b=>.tup [.str h.str,a.toD,b.toD]
def Kd.tok:Kd→List θ
 | .lf l=>[l.str]
 | .row a=>"(" :: "row" :: (a.tok ++ ([")"]:List θ))
 | .two h a b=>"(" :: h.str :: (a.tok ++ (b.tok ++ ([")"]:List θ)))
inductive Hd where
 | fn | self | call | let_ | if_ | do_ | row | at_ | size | pair | one | two | as_
 deriving DecidableEq
def Hd.str:Hd→θ
 | .fn=>"fn" | .self=>"self" | .call=>"call" | .let_=>"let" | .if_=>"if" | .do_=>"do" | .row=>"row" | .at_=>"at" | .size=>"size" | .pair=>"pair" | .one=>"one" | .two=>"two" | .as_=>"as"
def Hd.nf:Hd→Nat
 | .fn=>1 | .self=>2 | .let_=>1 | _=>0
def Hd.nk:Hd→Nat
 | .fn=>1 | .self=>2 | .row=>1 | .as_=>1 | _=>0
def Hd.np:Hd→Nat
 | .if_=>3 | .call=>2 | .let_=>2 | .do_=>2 | .at_=>2 | .pair=>2 | _=>1
abbrev sgs:List θ:=["+","-","*","<","="]
abbrev sD (l:List θ):List D:=l.map D.str
abbrev aj (i:Int):θ:=Ô (toString i)
inductive Tr where
 | num (i:Int) | tru (b:Bool) | giv (k:Nat) | nam (w:θ)
 | nd (h:Hd) (fr:List θ) (ks:List Kd) (ps:List Tr)
def Hd.pre (h:Hd):List θ:=if h = .do_ then [] else [h.str]
mutual
noncomputable def Tr.sz:Tr→Nat
 | .nd _ _ _ ps=>1+szs ps
 | _=>1
noncomputable def szs:List Tr→Nat
 | []=>0
 | p :: r=>p.sz+szs r
end
mutual
noncomputable def Tr.tok:Tr→List θ
 | .num i=>[aj i]
 | .tru b=>[if b then "yes" else "no"]
 | .giv k=>["(","given",aj k,")"]
 | .nam w=>[w]
 | .nd h fr ks ps=>"(" :: ((h.pre ++ fr) ++ (ks.flatMap Kd.tok ++ (toks ps ++ ([")"]:List θ))))
noncomputable def toks:List Tr→List θ
 | []=>[]
 | p :: r=>p.tok ++ toks r
end
mutual
noncomputable def Tr.toD (f:Nat→Int) (n:Nat):Tr→D
 | .num i=>.tup [.str "whole",.int (f n),.int i]
 | .tru b=>.tup [.str "truth",.int (f n),.bl b]
 | .giv k=>.tup [.str "given",.int (f n),.int (k:Nat)]
 | .nam w=>.tup [.str "name",.int (f n),.str w]
 | .nd h fr ks ps=>.tup (.str h.str :: .int (f n) :: ((sD fr ++ ks.map Kd.toD) ++ (if h = .row then [.tup (toDs f (n+1) ps)] else toDs f (n+1) ps)))
noncomputable def toDs (f:Nat→Int) (n:Nat):List Tr→List D
 | []=>[]
 | p :: r=>p.toD f n :: toDs f (n+p.sz) r
end
abbrev Nm (w:θ):Prop:=(1≤w.length∧w.length≤8)∧(∀ c∈ch w,97≤c∧c≤122)∧w≠"yes"∧w≠"no"
def bI (h:Hd) (fr:List θ):Prop:=if h = .do_ then ∃ s∈sgs,fr = [s] else fr.length=h.nf∧∀ w∈fr,Nm w
def dS (h:Hd) (n:Nat):Prop:=if h = .row then n≤4 else n=h.np
inductive Ok:Nat→Tr→Prop
 | num (r i):i.natAbs<10 ^ 40→Ok (r+1) (.num i)
 | tru (r b):Ok (r+1) (.tru b)
 | giv (r k):k≤7→Ok (r+1) (.giv k)
 | nam (r w):Nm w→Ok (r+1) (.nam w)
 | nd (r h fr ks ps):bI h fr→ks.length=h.nk→(∀ k∈ks,k.dep≤6)→dS h ps.length→(∀ p∈ps,Ok r p)→Ok (r+1) (.nd h fr ks ps)
theorem bW (a b:List θ):sD (a ++ b)=sD a ++ sD b:=Ϭ
abbrev St (b:Bool) (A B C E:O) (w:List D) (xs:List Int) (us od:List D):List O:=match b with
 | true=>[.lst w,.lst us,.lst (xs.map .int),.lst od]
 | false=>[A,B,C,E,.lst od,.lst w,.lst (xs.map .int),.lst us]
abbrev xr (b:Bool):D:=match b with | true=>.ref 2 | false=>.ref 6
abbrev wr (b:Bool):D:=match b with | true=>.ref 0 | false=>.ref 5
abbrev ur (b:Bool):D:=match b with | true=>.ref 1 | false=>.ref 7
abbrev dr (b:Bool):D:=match b with | true=>.ref 3 | false=>.ref 4
section
variable {n:Nat} {A B C E:O} {b:Bool} {w us od:List D}
theorem BX {m:Int}:af Γ (n+1) dA [xr b,.int m] (St b A B C E w [] us od) = .ok (.int 0) (St b A B C E w [] us od):=by cases b <;> kernel_rfl
theorem BY {m:Int} (xs:List Int) (x:Int) (hm:0<m):af Γ (n+1) dA [xr b,.int m] (St b A B C E w (xs ++ [x]) us od) = .ok (.int (x % m)) (St b A B C E w xs us od):=by
 have e1:opD .eq (.lst ((xs ++ [x]).map .int)) (.lst [])=some (.bl false):=by rw [Ϭ];cases xs <;> rfl
 have e2:((xs ++ [x]).map D.int).getLast? = some (.int x):=by rw [Ϭ];exact Fv
 have e3:opD .mod (.int x) (.int m)=some (.int (x % m)):=by show (if 0<m then some (D.int (x % m)) else none)=_;rw [ZZ hm]
 have e4:((xs ++ [x]).map D.int).dropLast=xs.map .int:=by rw [Ϭ];exact ö
 cases b <;> (dsimp only [St];rw [← e4];exact (aa false (aX 0 (e1) (aX 1 (e2) (aX 0 (e3) aZ))) (by kernel_rfl)))
theorem next (xs:List Int) (m:Int) (hm:0<m):∃ (r:Int) (xs':List Int),(0≤r∧r<m)∧∀ (n:Nat) (b:Bool) (A B C E:O) (w us od:List D),af Γ (n+1) dA [xr b,.int m] (St b A B C E w xs us od) = .ok (.int r) (St b A B C E w xs' us od):=by
 rcases ŕ xs with rfl | ⟨ys,y,rfl⟩
 ·exact ⟨0,[],⟨by omega,hm⟩,fun n b A B C E w us od=>BX⟩
 ·rw [ŗ]
  exact ⟨_,ys,⟨Ep _ (by omega),Ź _ hm⟩,fun n b A B C E w us od=>BY ys y hm⟩
end
open L2.Lx (ch ch_len ch_app Tok Wd Br)
abbrev lpS:θ:="("
abbrev rpS:θ:=")"
abbrev blS:θ:=" "
abbrev emS:θ:=""
abbrev FIG:θ:="0123456789"
abbrev LET:θ:="abcdefghijklmnopqrstuvwxyz"
theorem rF (S:θ) (c:Nat):HI S ⟨#[c]⟩=decide (c∈ch S):=StrLaws.found_one S c
theorem pM (w:θ) (c:Nat):Š w ⟨#[c]⟩=decide ((ch w).head? = some c):=by
 have h:=StrLaws.subAt_one w c 0
 rw [ě,decide_eq_true_eq]
 show (decide (0+(⟨#[c]⟩:θ).length≤w.length) && Builtin.Str.subAt w ⟨#[c]⟩ 0)=true↔_
 rw [Θ,decide_eq_true_eq,h,List.head?_eq_getElem?];rfl
theorem z9 (w:θ) (h:1≤w.length):ch (Ϗ w (some 1) none)=(ch w).drop 1:=by
 have e:Ϗ w (some 1) none=ë w (some ((1:Nat):Int)) (some (w.length:Int)):=by
  unfold Ϗ ë
  rw [Ei];rfl
 rw [e,Ņ w h (ύ _)]
 show ((ch w).drop 1).take (w.length - 1)=_
 rw [ç]
 rw [ϖ,← ch_len];exact ύ _
def cF (w:θ):Bool:=w == lpS || w == rpS
theorem rm {w:θ} (h:cF w=true):Br (ch w):=by
 unfold cF at h
 rw [í,beq_iff_eq,beq_iff_eq] at h
 rcases h with rfl | rfl
 ·exact .inl (by decide +kernel)
 ·exact .inr (by decide +kernel)
abbrev dg (m:Nat):List Nat:=(HN 10 m).map Ey
theorem cN (m:Nat):∀ c∈dg m,48≤c∧c≤57:=by
 intro c hc
 obtain ⟨ch,hch,e⟩:=ō.mp hc
 rw [← e]
 exact digit_range (Nat.isDigit_of_mem_toDigits (by decide) (by decide) hch)
theorem ko (m:Nat):dg m≠[]:=fun e=>by
 have h:=toDigits_len_ge 10 m
 rw [List.map_eq_nil_iff.mp e] at h
 exact ZX h (by decide)
theorem mG {m:Nat} (h:m<10 ^ 40):(dg m).length≤40:=by
 rw [ο]
 exact (į (by decide) (by decide)).mpr h
theorem u9:∀ m:Nat,0<m→(dg m).head?≠some 48:=fun m=>by
 induction m using Nat.strongRecOn with
 | _ m ih=>
   intro h
   by_cases c:m<10
   ·rw [dg,Nat.toDigits_of_lt_base c]
    have:∀ d,d<10→0<d→(List.map Ey [Nat.digitChar d]).head?≠some 48:=by decide
    exact this m c h
   ·have n:=ko (m / 10)
    rw [dg,Nat.toDigits_of_base_le (by decide) (by omega),Ϭ]
    have i:=ih (m / 10) (by omega) (by omega)
    cases e:dg (m / 10) with
    | nil=>exact ZX e n
    | cons a r=>rw [e] at i;rw [show (List.map Ey (HN 10 (m / 10)))=a :: r from e];exact i
theorem aW (m:Nat):ch (aj (m:Nat))=dg m:=PySem.W.KIN.signs_num m
theorem dW (m:Nat):ch (aj (FJ m))=45 :: dg (m+1):=by
 show (Ô (toString (FJ m))).cps.toList=_
 rw [signs_ofString]
 show ("-" ++ Nat.repr (m+1)).toList.map Ey=_
 rw [String.toList_append,Ϭ,Nat.toList_repr]
 rfl
theorem pb {i:Int} (h:i.natAbs<10 ^ 40):(aj i).length≤41:=by
 rw [ch_len]
 cases i with
 | ofNat m=>have:=mG (m:=m) h;rw [show ch (aj (ņ m))=dg m from aW m];omega
 | negSucc m=>have:=mG (m:=m+1) h;rw [dW,ψ];omega
theorem k7 {i:Int} (h:i.natAbs<10 ^ 40):ą (aj i)=some i:=by
 have l:=pb h
 cases i with
 | ofNat m=>
   have s:(aj (ņ m)).cps.toList=dg m:=aW m
   have e:=intText_digits (x:=aj (ņ m)) (by rw [s];exact cN m) (by rw [s];exact ko m) (by omega)
   rw [s,Ej] at e
   exact e
 | negSucc m=>
   have e:=intText_neg (x:=aj (FJ m)) (dW m) (cN (m+1)) (ko (m+1)) (by omega)
   rw [Ej] at e
   rw [e];rfl
def bf (l:List Nat):List Nat:=if l.head? = some 45 then l.drop 1 else l
abbrev dD (S:θ) (l:List Nat):Bool:=l.all fun c=>decide (c∈ch S)
def bL (w:θ):Bool:=(decide (1≤(bf (ch w)).length∧(bf (ch w)).length≤40) && dD FIG (bf (ch w))) && (w == "0" || !decide ((bf (ch w)).head? = some 48))
def cg (w:θ):Bool:=!(w == "yes" || w == "no") && (decide (1≤w.length∧w.length≤8) && dD LET (ch w))
theorem jn (c:Nat):c∈ch FIG↔48≤c∧c≤57:=by
 rw [show ch FIG=Fs 48 10 by decide +kernel,Gf];omega
theorem jE (c:Nat):c∈ch LET↔97≤c∧c≤122:=by
 rw [show ch LET=Fs 97 26 by decide +kernel,Gf];omega
theorem vj {l:List Nat} (h:∀ c∈l,48≤c∧c≤57):dD FIG l=true:=Ψ.mpr fun c m=>ZW ((jn c).mpr (h c m))
theorem eU {i:Int} (h:i.natAbs<10 ^ 40):bL (aj i)=true:=by
 have go:∀ m:Nat,m<10 ^ 40→bf (ch (aj i))=dg m→(m=0→aj i = "0")→bL (aj i)=true:=fun m hm hf h0=>by
  unfold bL
  rw [hf,vj (cN m),ZW ⟨ù.mpr (ko m),mG hm⟩]
  by_cases c:m=0
  ·rw [h0 c];rfl
  ·rw [ZV (u9 m (by omega))];simp
 cases i with
 | ofNat m=>
   refine go m h ?_ (fun e=>by subst e;decide +kernel)
   rw [show ch (aj (ņ m))=dg m from aW m]
   unfold bf
   rw [ZY]
   intro e
   have:=cN m 45 (Gg e)
   omega
 | negSucc m=>
   refine go (m+1) h ?_ (fun e=>ZX e (by omega))
   rw [dW];rfl
theorem fH {w:θ} (h:Nm w):cg w=true:=by
 unfold cg
 rw [ZU.mpr h.2.2.1,ZU.mpr h.2.2.2,ZW h.1]
 exact Ψ.mpr fun c m=>ZW ((jE c).mpr (h.2.1 c m))
theorem kg {w:θ} (h:1≤w.length):∃ a r,ch w=a :: r:=by
 rw [ch_len] at h
 cases e:ch w with
 | nil=>rw [e] at h;cases h
 | cons a r=>exact ⟨a,r,rfl⟩
theorem tK {w:θ} (h:Nm w):bL w=false:=by
 obtain ⟨a,r,e⟩:=kg h.1.1
 have ha:=h.2.1 a (by rw [e];exact κ)
 have f:bf (ch w)=a :: r:=by
  rw [e];unfold bf;rw [ZY]
  simp;omega
 unfold bL
 rw [f]
 have:dD FIG (a :: r)=false:=by
  rw [ſ]
  intro q
  have:=(jn a).mp (of_decide_eq_true (Ψ.mp q a κ))
  omega
 rw [this];simp
structure Kw (w:θ):Prop where
 len:w.length≤42
 tok:Tok (ch w)
 asc:∀ c∈ch w,c<128
def kwB (w:θ):Bool:=decide (w.length≤42∧(∀ c∈ch w,c<128)∧((ch w = [40]∨ch w = [41])∨(ch w≠[]∧∀ x∈ch w,x≠32∧x≠40∧x≠41)))
theorem eI {w:θ} (h:kwB w=true):Kw w:=by
 have h:=of_decide_eq_true h
 exact ⟨h.1,h.2.2.elim (fun q=>q.elim .inl fun q=>.inr (.inl q)) fun q=>.inr (.inr q),h.2.1⟩
theorem xw {w:θ} (h:Nm w):Kw w:=by
 obtain ⟨a,r,e⟩:=kg h.1.1
 exact ⟨by have:=h.1.2;omega,.inr (.inr ⟨by rw [e];simp,fun x m=>by have:=h.2.1 x m;omega⟩),fun c m=>by have:=h.2.1 c m;omega⟩
theorem mQ {i:Int} (h:i.natAbs<10 ^ 40):Kw (aj i):=by
 have l:=pb h
 have go:(∀ c∈ch (aj i),c=45∨(48≤c∧c≤57))→ch (aj i)≠[]→Kw (aj i):=fun g n=>⟨by omega,.inr (.inr ⟨n,fun x m=>by have:=g x m;omega⟩),fun c m=>by have:=g c m;omega⟩
 cases i with
 | ofNat m=>
   have e:ch (aj (ņ m))=dg m:=aW m
   exact go (by rw [e];exact fun c q=>.inr (cN m c q)) (by rw [e];exact ko m)
 | negSucc m=>
   exact go (by rw [dW];exact fun c q=>by rcases φ.mp q with q | q;exact .inl q;exact .inr (cN (m+1) c q)) (by rw [dW];simp)
theorem BH (l:L3):Kw l.str:=eI (by cases l <;> decide +kernel)
theorem BF (h:H2):Kw h.str:=eI (by cases h <;> decide +kernel)
theorem BG (h:Hd):Kw h.str:=eI (by cases h <;> decide +kernel)
theorem kN:Kw lpS:=eI (by decide +kernel)
theorem kO:Kw rpS:=eI (by decide +kernel)
theorem BI {s:θ} (h:s∈sgs):Kw s:=eI ((by decide +kernel:∀ s∈sgs,kwB s=true) s h)
theorem oV:∀ (k:Kd),∀ w∈k.tok,Kw w
 | .lf l,w,h=>by simp only [Kd.tok,ι] at h;subst h;exact BH l
 | .row a,w,h=>by
   simp only [Kd.tok,φ,Ρ,Ń,or_false] at h
   rcases h with rfl | rfl | h | rfl
   ·exact kN
   ·exact eI (by decide +kernel)
   ·exact oV a w h
   ·exact kO
 | .two q a b,w,h=>by
   simp only [Kd.tok,φ,Ρ,Ń,or_false] at h
   rcases h with rfl | rfl | h | h | rfl
   ·exact kN
   ·exact BF q
   ·exact oV a w h
   ·exact oV b w h
   ·exact kO
theorem kT {w:θ}:∀ {ps:List Tr},w∈toks ps→∃ p∈ps,w∈p.tok
 | p :: r,h=>by
   rcases Ρ.mp (show w∈p.tok ++ toks r from h) with h | h
   ·exact ⟨p,κ,h⟩
   ·obtain ⟨q,m,hq⟩:=kT h
    exact ⟨q,υ _ m,hq⟩
theorem Bd {h:Hd} {fr:List θ} (f:bI h fr):∀ w∈h.pre ++ fr,Kw w:=by
 intro w m
 unfold bI at f
 unfold Hd.pre at m
 by_cases c:h = .do_
 ·rw [ZZ c] at f m
  obtain ⟨s,hs,rfl⟩:=f
  rw [ϛ,ι] at m
  subst m;exact BI hs
 ·rw [ZY c] at f m
  rcases φ.mp m with rfl | m
  ·exact BG h
  ·exact xw (f.2 w m)
theorem jX:∀ (r:Nat) (t:Tr),Ok r t→∀ w∈t.tok,Kw w
 | r+1,t,ok,w,m=>by
   cases ok with
   | num _ i h=>rw [ι.mp m];exact mQ h
   | tru _ b=>rw [ι.mp m];cases b <;> exact eI (by decide +kernel)
   | giv _ k h=>
     rcases φ.mp m with rfl | m
     ·exact kN
     rcases φ.mp m with rfl | m
     ·exact eI (by decide +kernel)
     rcases φ.mp m with rfl | m
     ·exact mQ (by show k<_;omega)
     ·rw [ι.mp m];exact kO
   | nam _ w h=>rw [ι.mp m];exact xw h
   | nd _ h fr ks ps h1 h2 h3 h4 h5=>
     rcases φ.mp m with rfl | m
     ·exact kN
     rcases Ρ.mp m with m | m
     ·exact Bd h1 w m
     rcases Ρ.mp m with m | m
     ·obtain ⟨k,hk,m⟩:=List.mem_flatMap.mp m;exact oV k w m
     rcases Ρ.mp m with m | m
     ·obtain ⟨p,hp,m⟩:=kT m;exact jX r p (h5 p hp) w m
     ·rw [ι.mp m];exact kO
open L2.Lx (ch Con Tok Br Wd b8 Sep ch_app ch_len)
def jn1 (s:θ×θ) (w:θ):θ×θ:=(if s.2=lpS∨w=rpS then s.1 ++ w else (s.1 ++ blS) ++ w,w)
def aO (ws:List θ):θ:=(ws.foldl jn1 (Ã,lpS)).1
abbrev jB:S:=i4 iA.body
theorem ni (a b:θ):opD .ne (.str a) (.str b)=some (.bl (!(a == b))):=rfl
theorem BW {a b:θ} (h:a=b):opD .ne (.str a) (.str b)=some (.bl false):=by rw [ni,h];simp
theorem jH {a b:θ} (h:a≠b):opD .ne (.str a) (.str b)=some (.bl true):=by rw [ni,ZU.mpr h];rfl
theorem dU {a b:θ} (h:a.length+b.length≤100000):opD .add (.str a) (.str b)=some (.str (a ++ b)):=by
 show eA _ _=_;unfold eA;rw [ZZ h]
theorem bg (a b:θ):(a ++ b).length=a.length+b.length:=by
 rw [L2.Lx.ch_len,L2.Lx.ch_len,L2.Lx.ch_len,L2.Lx.ch_app,ζ]
section
variable {m:Nat} {S:List O}
theorem oU (w0:D):∀ (ws:List θ) (t p:θ) (e:Option D),t.length+61 * ws.length≤90000→(∀ w∈ws,w.length≤60)→∃ e':Option D,cy (ql Γ (af Γ m) (ao Γ m) [3] true jB) (sD ws) ⟨[some w0,some (.str t),some (.str p),e],[],S⟩ = .nx ⟨[some w0,some (.str (ws.foldl jn1 (t,p)).1),some (.str (ws.foldl jn1 (t,p)).2),e'],[],S⟩
 | [],t,p,e,_,_=>⟨e,rfl⟩
 | w :: ws,t,p,e,hl,hw=>by
   have w8:=hw w κ
   have b1:blS.length=1:=rfl
   simp only [ψ] at hl
   have go:∀ t',t'.length≤t.length+61→jn1 (t,p) w=(t',w)→ql Γ (af Γ m) (ao Γ m) [3] true jB (.str w) ⟨[some w0,some (.str t),some (.str p),e],[],S⟩ = .nx ⟨[some w0,some (.str t'),some (.str w),some (.str w)],[],S⟩→∃ e':Option D,cy (ql Γ (af Γ m) (ao Γ m) [3] true jB) (sD (w :: ws)) ⟨[some w0,some (.str t),some (.str p),e],[],S⟩ = .nx ⟨[some w0,some (.str ((w :: ws).foldl jn1 (t,p)).1),some (.str ((w :: ws).foldl jn1 (t,p)).2),e'],[],S⟩:=fun t' h1 h2 h3=>by
    obtain ⟨e',h⟩:=oU w0 ws t' w (some (.str w)) (by omega) fun y hy=>hw y (υ _ hy)
    refine ⟨e',kC h3 ?_⟩
    rw [þ,h2];exact h
   have a1:opD .add (.str t) (.str w)=some (.str (t ++ w)):=dU (by omega)
   have a2:opD .add (.str t) (.str blS)=some (.str (t ++ blS)):=dU (by omega)
   have a3:opD .add (.str (t ++ blS)) (.str w)=some (.str ((t ++ blS) ++ w)):=dU (by rw [bg];omega)
   by_cases hp:p=lpS
   ·exact go (t ++ w) (by rw [bg];omega) (by unfold jn1;rw [ZZ (.inl hp)]) (gj rfl (bp false (aX 0 (BW hp) (aX 2 (a1) aZ)) (by kernel_rfl)))
   ·by_cases hr:w=rpS
    ·exact go (t ++ w) (by rw [bg];omega) (by unfold jn1;rw [ZZ (.inr hr)]) (gj rfl (bp false (aX 0 (jH hp) (aX 1 (BW hr) (aX 1 (a1) aZ))) (by kernel_rfl)))
    ·exact go ((t ++ blS) ++ w) (by rw [bg,bg];omega) (by unfold jn1;rw [ZY (not_or.mpr ⟨hp,hr⟩)]) (gj rfl (bp false (aX 0 (jH hp) (aX 1 (jH hr) (aX 1 (a2) (aX 0 (a3) aZ)))) (by kernel_rfl)))
theorem cI (ws:List θ) (hl:61 * ws.length≤90000) (hw:∀ w∈ws,w.length≤60):af Γ (m+1) iB [.lst (sD ws)] S = .ok (.str (aO ws)) S:=by
 obtain ⟨e,h⟩:=oU (m:=m) (S:=S) (.lst (sD ws)) ws Ã lpS none (by rw [show Ã.length=0 from rfl];omega) hw
 exact (aa true (aX 0 (h) aZ) (by kernel_rfl))
end
theorem gQ:∀ (ws:List θ) (t p:θ) (acc:List (List Nat)),(∀ w∈ws,Tok (ch w))→Con (ch t) acc (Br (ch p))→Con (ch (ws.foldl jn1 (t,p)).1) (acc ++ ws.map ch) (Br (ch (ws.foldl jn1 (t,p)).2))
 | [],t,p,acc,_,h=>by rw [Ŏ,Ν];exact h
 | w :: ws,t,p,acc,hw,h=>by
   have tw:=hw w κ
   have hs:=fun y hy=>hw y (υ _ hy)
   rw [þ,Ė,show acc ++ ch w :: ws.map ch=(acc ++ [ch w]) ++ ws.map ch by simp]
   have c40:ch lpS = [40]:=by decide +kernel
   have c41:ch rpS = [41]:=by decide +kernel
   have c32:ch blS = [32]:=by decide +kernel
   unfold jn1
   by_cases c:p=lpS∨w=rpS
   ·rw [ZZ c]
    refine gQ ws _ _ _ hs ?_
    rw [ch_app]
    exact b8 0 h tw (.inr (c.elim (fun (q:p=lpS)=>.inl (.inl (by rw [q];exact c40))) fun (q:w=rpS)=>.inr (.inr (by rw [q];exact c41))))
   ·rw [ZY c]
    refine gQ ws _ _ _ hs ?_
    rw [ch_app,ch_app,c32,χ]
    exact b8 1 h tw (.inl DY)
theorem mM (ws:List θ) (hw:∀ w∈ws,Tok (ch w)):Con (ch (aO ws)) (ws.map ch) (Br (ch (ws.foldl jn1 (Ã,lpS)).2)):=by
 have:=gQ ws Ã lpS [] hw (fun b _=>rfl)
 rw [ϛ] at this
 exact this
theorem sF:∀ (ws:List θ) (t p:θ),(∀ w∈ws,w.length≤60)→(ws.foldl jn1 (t,p)).1.length≤t.length+61 * ws.length
 | [],t,p,_=>ύ _
 | w :: ws,t,p,h=>by
   have h1:=h w κ
   have b1:blS.length=1:=rfl
   have:=sF ws (jn1 (t,p) w).1 w fun y hy=>h y (υ _ hy)
   have h2:(jn1 (t,p) w).1.length≤t.length+61:=by unfold jn1;dsimp only;split <;> simp only [bg] <;> omega
   rw [þ,ψ]
   exact Õ this (by omega)
theorem mO (ws:List θ) (h:∀ w∈ws,w.length≤60):(aO ws).length≤61 * ws.length:=by
 have:=sF ws Ã lpS h
 rw [show Ã.length=0 from rfl] at this
 unfold aO;omega
open L2.Lx (ch Con Tok Br Wd b8 Sep ch_app ch_len)
abbrev spL:θ:=" ( "
abbrev spR:θ:=" ) "
def cm (T:θ):θ:=ă (ă T lpS spL) rpS spR
def a8 (T:θ):List θ:=(Ï (cm T) blS).filter (fun w=>!(w == emS))
theorem ul (T:θ):ch (cm T)=(ch T).flatMap L2.Lx.sp:=by
 unfold cm
 rw [show rpS=(⟨#[41]⟩:θ) by decide +kernel,show lpS=(⟨#[40]⟩:θ) by decide +kernel,L2.Lx.replace_ch,L2.Lx.replace_ch,List.flatMap_assoc]
 refine ZS (fun f=>List.flatMap f (ch T)) (funext fun x=>?_)
 unfold L2.Lx.sp
 by_cases h:x=40
 ·rw [ZZ h,ZZ h];decide +kernel
 ·rw [ZY h,ZY h,Á,List.flatMap_nil,Ν]
  by_cases g:x=41
  ·rw [ZZ g,ZZ g];decide +kernel
  ·rw [ZY g,ZY g]
theorem qP (T:θ):(a8 T).map ch=L2.Lx.lex (ch T):=by
 have h1:=ul T
 unfold a8 L2.Lx.lex
 rw [← h1,show blS=(⟨#[32]⟩:θ) by decide +kernel,← L2.Lx.split_ch,List.filter_map]
 refine ZS (List.map ch) (ż fun w _=>?_)
 show (!(w == emS)) = !(ch w).isEmpty
 by_cases e:w=emS
 ·subst e;decide +kernel
 ·rw [ZU.mpr e]
  cases q:ch w with
  | nil=>exact ZX (L2.Lx.ch_inj (q.trans (by decide +kernel))) e
  | cons a b=>rfl
theorem o6:∀ a b:List θ,a.map ch=b.map ch→a=b
 | [],[],_=>rfl
 | x :: a,y :: b,h=>by
   rw [Ė,Ė] at h
   rw [L2.Lx.ch_inj (G0 h).1,o6 a b (G0 h).2]
theorem l5 {T:θ} {ws:List θ} (h:L2.Lx.lex (ch T)=ws.map ch):a8 T=ws:=by
 have:=(qP T).trans h
 exact o6 _ _ this
section
variable {m:Nat} {S:List O}
abbrev wE:E:=.v 0
abbrev wC:E:=.op .ne (.v 0) (.c (.str emS))
theorem j0 (t0 s0:D):∀ (l:List θ) (acc:List D) (e:Option D),acc.length+l.length<100000→∃ e':Option D,bx (lcQ Γ (af Γ m) (ao Γ m) [0] true wE wC) (sD l) acc ⟨[e,some t0,some s0],[],S⟩ = .ok (.lst (acc ++ sD (l.filter (fun w=>!(w == emS))))) ⟨[e',some t0,some s0],[],S⟩
 | [],acc,e,_=>⟨e,by rw [List.filter_nil];simp [bx]⟩
 | w :: l,acc,e,h=>by
   simp only [ψ] at h
   have ne:=ni w emS
   have cd:ev Γ (af Γ m) (ao Γ m) true wC ⟨[some (.str w),some t0,some s0],[],S⟩ = .ok (.bl (!(w == emS))) ⟨[some (.str w),some t0,some s0],[],S⟩:=(fY false (aX 0 (ne) aZ) (by kernel_rfl))
   cases b:!(w == emS) with
   | false=>
     obtain ⟨e',g⟩:=j0 t0 s0 l acc (some (.str w)) (by omega)
     rw [b] at cd
     refine ⟨e',?_⟩
     rw [Gy,b]
     exact jC (mR rfl cd) g
   | true=>
     obtain ⟨e',g⟩:=j0 t0 s0 l (acc ++ [.str w]) (some (.str w)) (by rw [ζ,ω];omega)
     rw [b] at cd
     refine ⟨e',?_⟩
     rw [Gy,b]
     have el:ev Γ (af Γ m) (ao Γ m) false wE ⟨[some (.str w),some t0,some s0],[],S⟩ = .ok (.str w) ⟨[some (.str w),some t0,some s0],[],S⟩:=rfl
     rw [χ] at g
     exact cR (d6 rfl cd el) (by omega) g
theorem pK (c:Nat):∀ l:List Nat,(L2.Lx.spl c l).length≤l.length+1
 | []=>by simp [L2.Lx.spl]
 | x :: r=>by
   have ih:=pK c r
   rw [L2.Lx.spl_cons]
   split
   ·simp only [ψ];omega
   ·split
    ·simp
    ·rename_i q;rw [q] at ih;simp only [ψ] at ih ⊢;omega
theorem wK (T:θ):(cm T).length≤3 * T.length:=by
 rw [ch_len,ch_len]
 have h1:=ul T
 rw [h1]
 generalize ch T=l
 induction l with
 | nil=>simp
 | cons x r ih=>
   rw [Á,ζ,ψ]
   have:(L2.Lx.sp x).length≤3:=by
    unfold L2.Lx.sp
    split
    ·simp
    ·split <;> simp
   omega
theorem gx (T:θ):(ă T lpS spL).length≤3 * T.length:=by
 rw [ch_len,ch_len,show lpS=(⟨#[40]⟩:θ) by decide +kernel,L2.Lx.replace_ch]
 generalize ch T=l
 induction l with
 | nil=>simp
 | cons x r ih=>
   rw [Á,ζ,ψ]
   have:(if x=40 then ch spL else [x]).length≤3:=by
    split
    ·decide +kernel
    ·simp
   omega
theorem uG (T:θ) (h:T.length≤2000):af Γ (m+1) gP [.str T] S = .ok (.lst (sD (a8 T))) S:=by
 have l1:=gx T
 have l2:=wK T
 have a0:di .len (.str T)=some (.int T.length):=by show (if _ then _ else _)=_;rw [ZZ (by omega)]
 have a1:opD .gt (.int T.length) (.int 2000)=some (.bl false):=by show some (D.bl (decide _))=_;rw [ZV (by omega)]
 have a2:smO (.rep lpS spL) (.str T)=some (.str (ă T lpS spL)):=by show (if _ then _ else _)=_;rw [ZZ ⟨by omega,by decide +kernel,by decide +kernel⟩]
 have a3:smO (.rep rpS spR) (.str (ă T lpS spL))=some (.str (cm T)):=by show (if _ then _ else _)=_;rw [ZZ ⟨by omega,by decide +kernel,by decide +kernel⟩];rfl
 have a4:smO (.spl blS) (.str (cm T))=some (.lst (sD (Ï (cm T) blS))):=by show (if _ then _ else _)=_;rw [ZZ ⟨by omega,by decide +kernel⟩]
 have l3:(Ï (cm T) blS).length≤6001:=by
  have:=pK 32 (ch (cm T))
  rw [show blS=(⟨#[32]⟩:θ) by decide +kernel,L2.Lx.split_mk,ο]
  rw [ch_len] at l2;omega
 obtain ⟨e,lp⟩:=j0 (m:=m) (S:=S) (.str T) (.str (cm T)) (Ï (cm T) blS) [] none (by simp only [Ϧ];omega)
 exact (aa true (aX 0 (a0) (aX 0 (a1) (aX 1 (a2) (aX 0 (a3) (aX 0 (a4) (aX 0 (lp) aZ)))))) (by kernel_rfl))
theorem uF (T:θ) (h:2000<T.length) (h2:T.length≤100000):af Γ (m+1) gP [.str T] S = .exc 1 [] S:=by
 have a0:di .len (.str T)=some (.int T.length):=by show (if _ then _ else _)=_;rw [ZZ (by omega)]
 have a1:opD .gt (.int T.length) (.int 2000)=some (.bl true):=by show some (D.bl (decide _))=_;rw [ZW (by omega)]
 exact (aa false (aX 0 (a0) (aX 0 (a1) aZ)) (by kernel_rfl))
end
open L2.Lx (ch ch_app ch_len)
theorem tM {w:θ} (h:Nm w):w≠lpS∧w≠rpS:=⟨fun e=>by subst e;have:=h.2.1 40 (by decide +kernel);omega,fun e=>by subst e;have:=h.2.1 41 (by decide +kernel);omega⟩
theorem nB {i:Int} (h:i.natAbs<10 ^ 40):aj i≠lpS∧aj i≠rpS:=by
 have k:=(mQ h)
 have go:∀ c,(c=40∨c=41)→c ∉ ch (aj i):=fun c hc m=>by
  have:=eU h
  cases i with
  | ofNat m'=>rw [show ch (aj (ņ m'))=dg m' from aW m'] at m;have:=cN m' c m;omega
  | negSucc m'=>rw [dW] at m;rcases φ.mp m with e | m;omega;have:=cN (m'+1) c m;omega
 exact ⟨fun e=>go 40 (.inl rfl) (by rw [e];decide +kernel),fun e=>go 41 (.inr rfl) (by rw [e];decide +kernel)⟩
theorem cL:∀ ps:List Tr,toks ps=ps.flatMap Tr.tok
 | []=>rfl
 | p :: r=>by show p.tok ++ toks r=_;rw [cL r];rfl
def Hd.sorts:Hd→List θ
 | .fn=>["name","kind","node"] | .self=>["name","name","kind","kind","node"] | .call=>["node","node"] | .let_=>["name","node","node"] | .if_=>["node","node","node"] | .do_=>["sign","node","node"] | .row=>["kind","nodes"] | .at_=>["node","node"] | .size=>["node"] | .pair=>["node","node"] | .one=>["node"] | .two=>["node"] | .as_=>["kind","node"]
abbrev Hd.sn (h:Hd):θ:=if h = .do_ then "sign" else "name"
theorem lQ (h:Hd):h.sorts=μ (if h = .do_ then 1 else h.nf) h.sn ++ (μ h.nk ("kind":θ) ++ (if h = .row then (["nodes"]:List θ) else μ h.np ("node":θ))):=by cases h <;> rfl
theorem Bp (h:Hd):opD .eq (.str h.str) (.str "whole")=some (.bl false)∧opD .eq (.str h.str) (.str "truth")=some (.bl false)∧opD .eq (.str h.str) (.str "name")=some (.bl false)∧opD .eq (.str h.str) (.str "do")=some (.bl (decide (h = .do_))):=by cases h <;> exact ⟨rfl,rfl,rfl,rfl⟩
abbrev alB:S:=i4 jk.body
inductive Pl:Nat→D→Prop
 | int (r i):Pl r (.int i)
 | bl (r b):Pl r (.bl b)
 | str (r x):Pl r (.str x)
 | tup (r l):l.length≤1000→(∀ d∈l,Pl r d)→Pl (r+1) (.tup l)
theorem Pl.up {d:D}:∀ {r q:Nat},Pl r d→r≤q→Pl q d:=by
 intro r
 induction r generalizing d with
 | zero=>intro q h _;cases h <;> constructor
 | succ r ih=>
   intro q h hq
   cases h with
   | int=>constructor
   | bl=>constructor
   | str=>constructor
   | tup _ l hl h=>obtain ⟨q,rfl⟩:∃ k,q=k+1:=⟨q - 1,by omega⟩;exact .tup q l hl fun d m=>ih (h d m) (by omega)
abbrev ixs (a k:Nat):List D:=(Fs a k).map fun (i:Nat)=>.int (i:Int)
theorem nN {n:Nat} (h:n≤100000):Option.map D.lst (itD .range1 [.int (n:Nat)])=some (.lst (ixs 0 n)):=by
 have c:-(2 ^ 62)≤(n:Int)∧(n:Int)<2 ^ 62:=by omega
 have e:itD .range1 [.int (n:Nat)]=some (hW 0 (n:Int).toNat):=by
  show yv .range1 (.int (n:Nat))=_
  unfold yv
  exact ZZ c
 rw [e]
 show some (D.lst (hW 0 (n:Int).toNat))=_
 unfold hW ixs
 rw [Ļ,List.range_eq_range']
 refine ZS (fun l=>some (D.lst l)) (FF fun i _=>?_)
 rw [Fm]
section
variable {S:List O}
theorem vd (i:Int):opD .eq (.int i) (.int i)=some (.bl true):=by show some (D.bl (i == i))=_;rw [ZT]
theorem rK (x:θ):opD .eq (.str x) (.str x)=some (.bl true):=by show some (D.bl (x == x))=_;rw [ZT]
theorem n9 {m:Nat} (l:List D):∀ (k a:Nat),a+k=l.length→(∀ d∈l,af Γ m eE [d,d] S = .ok (.bl true) S)→∀ e:Option D,∃ e':Option D,cy (ql Γ (af Γ m) (ao Γ m) [2] true alB) (ixs a k) ⟨[some (.tup l),some (.tup l),e],[],S⟩ = .nx ⟨[some (.tup l),some (.tup l),e'],[],S⟩
 | 0,a,_,_,e=>⟨e,rfl⟩
 | k+1,a,hk,h,e=>by
   obtain ⟨e',g⟩:=n9 l k (a+1) (by omega) h (some (.int (a:Int)))
   have hl:a<l.length:=by omega
   have x1:ixD (.tup l) (.int (a:Int))=some l[a]:=bq (Ζ hl)
   have c:=h l[a] (Ö hl)
   exact ⟨e',kC (gj rfl (bp false (aX 0 (x1) (aX 0 (x1) (aX 0 (c) aZ))) (by kernel_rfl))) g⟩
theorem ka:∀ (r:Nat) (d:D),Pl r d→∀ m,af Γ (m+r+1) eE [d,d] S = .ok (.bl true) S
 | 0,d,h,m=>by
   cases h with
   | int _ i=>exact (aa false (aX 11 (vd i) aZ) (by kernel_rfl))
   | bl _ b=>cases b <;> kernel_rfl
   | str _ x=>exact (aa false (aX 12 (rK x) aZ) (by kernel_rfl))
 | r+1,d,h,m=>by
   cases h with
   | int _ i=>exact (aa false (aX 11 (vd i) aZ) (by kernel_rfl))
   | bl _ b=>cases b <;> kernel_rfl
   | str _ x=>exact (aa false (aX 12 (rK x) aZ) (by kernel_rfl))
   | tup _ l hl h=>
     have c:=fun d (md:d∈l)=>ka r d (h d md) m
     obtain ⟨e',lp⟩:=n9 (S:=S) (m:=m+r+1) l l.length 0 (by omega) c none
     have ne:opD .ne (.int (l.length:Nat)) (.int (l.length:Nat))=some (.bl false):=by show some (D.bl (!((l.length:Int) == l.length)))=_;rw [ZT];rfl
     have rg:=nN (n:=l.length) (by omega)
     exact (aa true (aX 18 (ne) (aX 2 (rg) (aX 0 (lp) aZ))) (by kernel_rfl))
end
theorem pt:∀ k:Kd,Pl k.dep k.toD
 | .lf l=>.tup 0 _ (by simp) fun d m=>by rw [ι.mp m];constructor
 | .row a=>by
   show Pl (1+a.dep) _
   rw [HO]
   refine .tup _ _ (by simp) fun d m=>?_
   rcases φ.mp m with rfl | m
   ·constructor
   ·rw [ι.mp m];exact pt a
 | .two h a b=>by
   show Pl (1+max a.dep b.dep) _
   rw [HO]
   refine .tup _ _ (by simp) fun d m=>?_
   rcases φ.mp m with rfl | m
   ·constructor
   rcases φ.mp m with rfl | m
   ·exact (pt a).up (by omega)
   ·rw [ι.mp m];exact (pt b).up (by omega)
theorem kS {f:Nat→Int} {d:D}:∀ {ps:List Tr} {n:Nat},d∈toDs f n ps→∃ p∈ps,∃ n,d=p.toD f n
 | p :: r,n,h=>by
   rcases φ.mp (show d∈p.toD f n :: toDs f (n+p.sz) r from h) with h | h
   ·exact ⟨p,κ,n,h⟩
   ·obtain ⟨q,m,h⟩:=kS h;exact ⟨q,υ _ m,h⟩
theorem fj {f:Nat→Int}:∀ (ps:List Tr) (n:Nat),(toDs f n ps).length=ps.length
 | [],n=>rfl
 | p :: r,n=>by show (toDs f (n+p.sz) r).length+1=_;rw [fj r];rfl
theorem B0 {h:Hd} {n:Nat} (h4:dS h n):n≤4:=by unfold dS at h4;split at h4 <;> first | exact h4 | (rw [h4];cases h <;> decide)
theorem xC (h:Hd):h.nk≤2:=by cases h <;> decide
theorem rX {h:Hd} {fr:List θ} (h1:bI h fr):fr.length≤2:=by
 unfold bI at h1
 by_cases c:h = .do_
 ·rw [ZZ c] at h1;obtain ⟨s,_,rfl⟩:=h1;simp
 ·rw [ZY c] at h1;rw [h1.1];cases h <;> decide
theorem tZ {f:Nat→Int}:∀ (r:Nat) (t:Tr),Ok r t→∀ n,Pl (2 * r+7) (t.toD f n)
 | r+1,t,ok,n=>by
   have two:∀ {a b c:D},(∀ q,Pl q a∧Pl q b∧Pl q c)→Pl (2 * (r+1)+7) (.tup [a,b,c]):=fun h=>.tup _ _ (by simp) fun d m=>by
    rcases φ.mp m with rfl | m
    ·exact (h _).1
    rcases φ.mp m with rfl | m
    ·exact (h _).2.1
    ·rw [ι.mp m];exact (h _).2.2
   cases ok with
   | num _ i h=>exact two fun q=>⟨.str ..,.int ..,.int ..⟩
   | tru _ b=>exact two fun q=>⟨.str ..,.int ..,.bl ..⟩
   | giv _ k h=>exact two fun q=>⟨.str ..,.int ..,.int ..⟩
   | nam _ w h=>exact two fun q=>⟨.str ..,.int ..,.str ..⟩
   | nd _ h fr ks ps h1 h2 h3 h4 h5=>
     have np:=B0 h4
     have nk:=xC h
     have nf:=rX h1
     have ih:∀ n,∀ d∈toDs f n ps,Pl (2 * r+7) d:=fun n d m=>by obtain ⟨p,mp,n,rfl⟩:=kS m;exact tZ r p (h5 p mp) n
     refine .tup (2 * r+8) _ ?_ fun d m=>?_
     ·simp only [ψ,ζ,ο]
      split
      ·simp only [ω];omega
      ·rw [fj];omega
     rcases φ.mp m with rfl | m
     ·constructor
     rcases φ.mp m with rfl | m
     ·constructor
     rcases Ρ.mp m with m | m
     ·rcases Ρ.mp m with m | m
      ·obtain ⟨w,_,rfl⟩:=ō.mp m;constructor
      ·obtain ⟨k,mk,rfl⟩:=ō.mp m;exact (pt k).up (by have:=h3 k mk;omega)
     ·by_cases c:h = .row
      ·rw [ZZ c] at m
       rw [ι.mp m]
       exact .tup _ _ (by rw [fj];omega) (ih (n+1))
      ·rw [ZY c] at m
       exact (ih (n+1) d m).up (by omega)
open L2.Lx (ch ch_app ch_len)
abbrev RS (ws:List θ) (t c:Nat):List O:=[.ins 9 [.lst (sD ws),.int t,.int c]]
abbrev RSr (ws r:List θ) (c:Nat):List O:=RS ws (ws.length - r.length) c
theorem rI {t k:Nat} (h:t=k):opD .eq (.int t) (.int k)=some (.bl true):=by subst h;exact vd _
theorem rJ {t k:Nat} (h:t≠k):opD .eq (.int t) (.int k)=some (.bl false):=by show some (D.bl ((t:Int) == k))=_;rw [ZU.mpr (by omega)]
section
variable {n:Nat} {ws r:List θ} {t c:Nat} {w:θ} {S:List O}
theorem sfx (h:(w :: r) <:+ ws):ws[ws.length - (w :: r).length]? = some w∧r <:+ ws∧ws.length - (w :: r).length+1=ws.length - r.length:=by
 obtain ⟨a,rfl⟩:=h
 refine ⟨?_,⟨a ++ [w],by simp⟩,?_⟩
 ·rw [ζ,Gb,Χ (ύ _),Ď];rfl
 ·simp only [ζ,ψ];omega
theorem pn:af Γ (n+1) dQ [.ref 0] (RSr ws [] c) = .exc 1 [] (RSr ws [] c):=by
 have e:opD .eq (.int ((ws.length - 0:Nat):Int)) (.int ((sD ws).length:Nat))=some (.bl true):=rI (by rw [ο];rfl)
 exact (aa false (aX 3 (e) aZ) (by kernel_rfl))
theorem jK (h:(w :: r) <:+ ws):af Γ (n+1) dQ [.ref 0] (RSr ws (w :: r) c) = .ok (.str w) (RSr ws (w :: r) c):=by
 have hs:=sfx h
 have ht:ws.length - (w :: r).length<ws.length:=(ν.mp hs.1).1
 have e:opD .eq (.int ((ws.length - (w :: r).length:Nat):Int)) (.int ((sD ws).length:Nat))=some (.bl false):=rJ (by rw [ο];omega)
 have e2:ixD (.lst (sD ws)) (.int ((ws.length - (w :: r).length:Nat):Int))=some (.str w):=bq (by rw [ϑ,hs.1];rfl)
 exact (aa false (aX 3 (e) (aX 3 (e2) aZ)) (by kernel_rfl))
theorem cW:af Γ (n+2) dR [.ref 0] (RSr ws [] c) = .exc 1 [] (RSr ws [] c):=by
 have p:=pn (n:=n) (ws:=ws) (c:=c)
 exact (aa false (aX 0 (p) aZ) (by kernel_rfl))
theorem ux {m:Nat}:exS Γ (af Γ m) (ao Γ m) (.fld (.v 0) 6 (.op .add (.fld (.v 0) 6) (.c (.int 1)))) ⟨[some (.ref 0),some (.str w)],[],RS ws t c⟩ = .nx ⟨[some (.ref 0),some (.str w)],[],RS ws (t+1) c⟩:=by kernel_rfl
theorem cD (h:(w :: r) <:+ ws):af Γ (n+2) dR [.ref 0] (RSr ws (w :: r) c) = .ok (.str w) (RSr ws r c):=by
 have p:=jK (n:=n) (c:=c) h
 have f:=ux (ws:=ws) (t:=ws.length - (w :: r).length) (c:=c) (m:=n+1) (w:=w)
 rw [(sfx h).2.2] at f
 exact (aa false (aX 0 (p) (aX 0 (f) aZ)) (by kernel_rfl))
def Ow (w:θ):Prop:=w.length≤200∧∀ c∈w.cps.toList,c<16 ^ 8
theorem fK (h:Ow w):opD .add (.str w) (.str emS)=some (.str (w ++ emS)):=dU (by have:=h.1;rw [show emS.length=0 from rfl];omega)
theorem dJ (h:Ow w):dh Γ 1 [.str (w ++ emS)]=true:=by
 have e:w ++ emS=w:=L2.Lx.ch_inj (by rw [ch_app,show ch emS = [] by decide +kernel,Ν])
 rw [e]
 have h1:=StrLaws.reprText_len w h.2
 have h2:=h.1
 show (decide ((GK w).length≤10000) && true)=true
 rw [ZW (by omega)];rfl
theorem dX:af Γ (n+3) bb [.ref 0] (RSr ws [] c) = .exc 1 [] (RSr ws [] c):=by
 have p:=cW (n:=n) (ws:=ws) (c:=c)
 exact (aa false (aX 0 (p) aZ) (by kernel_rfl))
theorem fA (h:(rpS :: r) <:+ ws):af Γ (n+3) bb [.ref 0] (RSr ws (rpS :: r) c) = .ok .non (RSr ws r c):=by
 have p:=cD (n:=n) (c:=c) h
 exact (aa false (aX 0 (p) aZ) (by kernel_rfl))
theorem fz (h:(w :: r) <:+ ws) (hw:w≠rpS) (hl:Ow w):af Γ (n+3) bb [.ref 0] (RSr ws (w :: r) c) = .exc 1 [] (RSr ws r c):=by
 have p:=cD (n:=n) (c:=c) h
 exact (aa false (aX 0 (p) (aX 0 (jH hw) (aX 1 (fK hl) (aX 0 (dJ hl) aZ)))) (by kernel_rfl))
theorem zI {m:Nat}:exS Γ (af Γ m) (ao Γ m) (.fld (.v 0) 7 (.op .add (.fld (.v 0) 7) (.c (.int 1)))) ⟨[some (.ref 0)],[],RS ws t c⟩ = .nx ⟨[some (.ref 0)],[],RS ws t (c+1)⟩:=by kernel_rfl
theorem t9 (h:c≠120):af Γ (n+1) b9 [.ref 0] (RS ws t c) = .ok (.int c) (RS ws t (c+1)):=by
 have e:opD .eq (.int c) (.int (120:Nat))=some (.bl false):=rJ h
 have s:opD .sub (.int ((c+1:Nat):Int)) (.int 1)=some (.int c):=ZS (fun z=>some (D.int z)) (by omega)
 have f:=zI (ws:=ws) (t:=t) (c:=c) (m:=n)
 exact (aa false (aX 1 (e) (aX 0 (f) (aX 1 (s) aZ))) (by kernel_rfl))
theorem t8 (h:c=120):af Γ (n+1) b9 [.ref 0] (RS ws t c) = .exc 1 [] (RS ws t c):=by
 have e:opD .eq (.int c) (.int (120:Nat))=some (.bl true):=rI h
 exact (aa false (aX 1 (e) aZ) (by kernel_rfl))
abbrev osE:E:=.op .isin (.v 0) (.v 2)
theorem ph {m:Nat} (X T:θ):∀ (l:List Nat) (acc:List Bool) (e:Option D),acc.length+l.length≤90000→∃ e':Option D,bx (lcQ Γ (af Γ m) (ao Γ m) [0] true osE (.c (.bl true))) (l.map fun c=>.str ⟨#[c]⟩) (acc.map .bl) ⟨[e,some (.str X),some (.str T)],[],S⟩ = .ok (.lst ((acc ++ l.map fun c=>decide (c∈ch T)).map .bl)) ⟨[e',some (.str X),some (.str T)],[],S⟩
 | [],acc,e,_=>⟨e,by rw [Ŏ,Ŏ,Ν];rfl⟩
 | c :: l,acc,e,h=>by
   simp only [ψ] at h
   obtain ⟨e',g⟩:=ph X T l (acc ++ [decide (c∈ch T)]) (some (.str ⟨#[c]⟩)) (by rw [ζ,ω];omega)
   have q:opD .isin (.str ⟨#[c]⟩) (.str T)=some (.bl (decide (c∈ch T))):=ZS (fun b=>some (D.bl b)) (rF T c)
   have el:ev Γ (af Γ m) (ao Γ m) false osE ⟨[some (.str ⟨#[c]⟩),some (.str X),some (.str T)],[],S⟩ = .ok (.bl (decide (c∈ch T))) ⟨[some (.str ⟨#[c]⟩),some (.str X),some (.str T)],[],S⟩:=(fY false (aX 0 (q) aZ) (by kernel_rfl))
   rw [Ϭ,χ] at g
   exact ⟨e',cR (d6 rfl rfl el) (by rw [ο];omega) g⟩
theorem oj:∀ l:List Bool,fR (l.map .bl)=some l
 | []=>rfl
 | b :: l=>by show (fR (l.map .bl)).map (b :: ·)=_;rw [oj l];rfl
theorem uP {X:θ} (h:∀ c∈ch X,c<128):X.cps.all (· < 128)=true:=by
 rw [Array.all_eq_true_iff_forall_mem]
 intro x m
 exact ZW (h x (Fq.mpr m))
abbrev osL:E:=.lc [0] true (.itv (.v 0)) osE (.c (.bl true))
theorem wv:bZ.body = .ret (.bi .all (.cons osL .nil)):=by kernel_rfl
theorem pd (X T:θ) (h:X.length≤80000) (ha:∀ c∈ch X,c<128):af Γ (n+1) b0 [.str X,.str T] S = .ok (.bl (dD T (ch X))) S:=by
 obtain ⟨e,lp⟩:=ph (m:=n) (S:=S) X T (ch X) [] none (by rw [← ch_len];simp only [Ϧ];omega)
 rw [ϛ] at lp
 have al:biD .all [.lst (((ch X).map fun c=>decide (c∈ch T)).map .bl)]=some (.bl (dD T (ch X))):=by
  show (fR _).map _=_
  rw [oj]
  exact ZS (fun b=>some (D.bl b)) (by rw [Hv];rfl)
 have wk:lZ (.str X)=some ((ch X).map fun c=>.str ⟨#[c]⟩):=ZZ (uP ha)
 have hl:ev Γ (af Γ n) (ao Γ n) true osL ⟨[some (.str X),some (.str T)],[],S⟩ = .ok (.lst (((ch X).map fun c=>decide (c∈ch T)).map .bl)) ⟨[some (.str X),some (.str T)],[],S⟩:=by
  show (Out.of _ ((lZ (.str X)).map D.lst)).bind _=_
  rw [wk]
  show (bx (lcQ Γ (af Γ n) (ao Γ n) [0] true osE (.c (.bl true))) ((ch X).map fun c=>.str ⟨#[c]⟩) [] ⟨[none,some (.str X),some (.str T)],[],S⟩).back [some (.str X),some (.str T)]=_
  rw [show bx (lcQ Γ (af Γ n) (ao Γ n) [0] true osE (.c (.bl true))) ((ch X).map fun c=>.str ⟨#[c]⟩) [] ⟨[none,some (.str X),some (.str T)],[],S⟩=_ from lp];rfl
 rw [show af Γ (n+1) b0 [.str X,.str T] S=iE Γ (af Γ n) (ao Γ n) b0 [.str X,.str T] S by unfold af ao;rfl]
 unfold iE
 rw [show Γ.fn[b0]? = some bZ from rfl]
 dsimp only
 rw [ZZ (show ([D.str X,D.str T] ++ bZ.df).length=bZ.np by kernel_rfl),wv]
 have he:ev Γ (af Γ n) (ao Γ n) false (.bi .all (.cons osL .nil)) ⟨[some (.str X),some (.str T)],[],S⟩ = .ok (.bl (dD T (ch X))) ⟨[some (.str X),some (.str T)],[],S⟩:=by
  show ((ev Γ (af Γ n) (ao Γ n) true osL _).bind _).bind _=_
  rw [hl]
  show Out.of _ (biD .all [.lst _])=_
  rw [al];rfl
 show (match (ev Γ (af Γ n) (ao Γ n) false (.bi .all (.cons osL .nil)) ⟨[some (.str X),some (.str T)],[],S⟩).go _ with | .nx s=>Res.ok .non s.st | .rt d s=>.ok d s.st | .exc c l s=>.exc c l s.st | .bad=>.bad)=_
 rw [he];rfl
def dO (w:θ):θ:=if (ch w).head? = some 45 then Ϗ w (some 1) none else w
theorem jm (w:θ):ch (dO w)=bf (ch w):=by
 unfold dO bf
 split
 ·rename_i h
  exact z9 w (by rw [ch_len];cases e:ch w with
   | nil=>rw [e] at h;cases h
   | cons a b=>simp)
 ·rfl
theorem rR (l:List Nat):(bf l).length≤l.length:=by unfold bf;split <;> simp
theorem rS {l:List Nat} {c:Nat} (m:c∈bf l):c∈l:=by
 unfold bf at m
 split at m
 ·exact Ϥ m
 ·exact m
theorem y0 {x:θ} (h:x.length≤100000):di .len (.str x)=some (.int x.length):=ZZ h
theorem Cg (w:θ):smO (.sta "-") (.str w)=some (.bl (decide ((ch w).head? = some 45))):=by
 show some (D.bl (Š w "-"))=_
 rw [show ("-":θ)=⟨#[45]⟩ by decide +kernel,pM]
theorem Cf (w:θ):smO (.sta "0") (.str w)=some (.bl (decide ((ch w).head? = some 48))):=by
 show some (D.bl (Š w "0"))=_
 rw [show ("0":θ)=⟨#[48]⟩ by decide +kernel,pM]
theorem qu (a b:Int):opD .le (.int a) (.int b)=some (.bl (decide (a≤b))):=rfl
theorem A7 (a b:θ):opD .eq (.str a) (.str b)=some (.bl (a == b)):=rfl
theorem tV (h:w.length≤5000) (ha:∀ c∈ch w,c<128):af Γ (n+2) kM [.str w] S = .ok (.bl (bL w)) S:=by
 have s1:=Cg w
 have lf:=rR (ch w)
 rw [← jm,← ch_len,← ch_len] at lf
 have l0:=y0 (x:=dO w) (by omega)
 have l1:=qu 1 (dO w).length
 have l2:=qu (dO w).length 40
 have os:=pd (n:=n) (S:=S) (dO w) FIG (by omega) (by rw [jm];exact fun c m=>ha c (rS m))
 have e0:=A7 w "0"
 have s0:=Cf (dO w)
 have nb:bL w=((decide (1≤(dO w).length∧(dO w).length≤40) && dD FIG (ch (dO w))) && (w == "0" || !decide ((ch (dO w)).head? = some 48))):=by unfold bL;rw [← jm,← ch_len]
 have sl:(ch w).head? = some 45→slO (.str w) (some 1) none=some (.str (dO w)):=fun c=>by
  show (if w.length≤100000 then some (D.str (Ϗ w (some 1) none)) else none)=_
  unfold dO;rw [ZZ c,ZZ (by omega)]
 have fw:(ch w).head?≠some 45→dO w=w:=fun c=>by unfold dO;rw [ZY c]
 rw [nb]
 clear nb lf
 have c:=Gk ((ch w).head? = some 45)
 revert s0 sl fw os l0 l1 l2
 generalize dO w=v
 intro l0 l1 l2 os s0 sl fw
 by_cases c1:1≤v.length
 ·rw [ZW (show (1:Int)≤v.length by omega)] at l1
  by_cases c2:v.length≤40
  ·rw [ZW (show (v.length:Int)≤40 by omega)] at l2
   rw [ZW ⟨c1,c2⟩,ŭ]
   cases o:dD FIG (ch v) with
   | false=>
     rw [o] at os
     rcases c with c | c
     ·rw [ZW c] at s1;exact (aa false (aX 0 (s1) (aX 2 (sl c) (aX 0 (l0) (aX 0 (l1) (aX 1 (l2) (aX 0 (os) aZ)))))) (by kernel_rfl))
     ·rw [ZV c] at s1;obtain rfl:=fw c;exact (aa false (aX 0 (s1) (aX 2 (l0) (aX 0 (l1) (aX 1 (l2) (aX 0 (os) aZ))))) (by kernel_rfl))
   | true=>
     rw [o] at os
     rw [ŭ]
     cases b:w == "0" with
     | true=>
       rw [b] at e0
       rcases c with c | c
       ·rw [ZW c] at s1;exact (aa false (aX 0 (s1) (aX 2 (sl c) (aX 0 (l0) (aX 0 (l1) (aX 1 (l2) (aX 0 (os) (aX 2 (e0) aZ))))))) (by kernel_rfl))
       ·rw [ZV c] at s1;obtain rfl:=fw c;exact (aa false (aX 0 (s1) (aX 2 (l0) (aX 0 (l1) (aX 1 (l2) (aX 0 (os) (aX 2 (e0) aZ)))))) (by kernel_rfl))
     | false=>
       rw [b] at e0
       rcases c with c | c
       ·rw [ZW c] at s1;exact (aa false (aX 0 (s1) (aX 2 (sl c) (aX 0 (l0) (aX 0 (l1) (aX 1 (l2) (aX 0 (os) (aX 2 (e0) (aX 1 (s0) aZ)))))))) (by kernel_rfl))
       ·rw [ZV c] at s1;obtain rfl:=fw c;exact (aa false (aX 0 (s1) (aX 2 (l0) (aX 0 (l1) (aX 1 (l2) (aX 0 (os) (aX 2 (e0) (aX 1 (s0) aZ))))))) (by kernel_rfl))
  ·rw [ZV (show ¬ (v.length:Int)≤40 by omega)] at l2
   rw [ZV (fun q=>c2 q.2)]
   rcases c with c | c
   ·rw [ZW c] at s1;exact (aa false (aX 0 (s1) (aX 2 (sl c) (aX 0 (l0) (aX 0 (l1) (aX 1 (l2) aZ))))) (by kernel_rfl))
   ·rw [ZV c] at s1;obtain rfl:=fw c;exact (aa false (aX 0 (s1) (aX 2 (l0) (aX 0 (l1) (aX 1 (l2) aZ)))) (by kernel_rfl))
 ·rw [ZV (show ¬ (1:Int)≤v.length by omega)] at l1
  rw [ZV (fun q=>c1 q.1)]
  rcases c with c | c
  ·rw [ZW c] at s1;exact (aa false (aX 0 (s1) (aX 2 (sl c) (aX 0 (l0) (aX 0 (l1) aZ)))) (by kernel_rfl))
  ·rw [ZV c] at s1;obtain rfl:=fw c;exact (aa false (aX 0 (s1) (aX 2 (l0) (aX 0 (l1) aZ))) (by kernel_rfl))
end
open L2.Lx (ch ch_app ch_len)
def Rs (o:Option D) (S:List O):Res:=match o with | some d=>.ok d S | none=>.exc 1 [] S
structure Aw (w:θ):Prop where
 len:w.length≤200
 asc:∀ c∈ch w,c<128
theorem Aw.ow {w:θ} (h:Aw w):Ow w:=⟨h.len,fun c m=>Ϻ (h.asc c m) (by decide)⟩
def c8 (w:θ):Option D:=if cg w=true then some (.str w) else none
def eS (w:θ):Int:=(ą w).getD 0
def kE (w:θ):Option D:=if bL w=true∧0≤eS w∧eS w≤7 then some (.int (eS w)) else none
def cf (w:θ) (c:Nat):Option D:=if w = "yes" then some (.tup [.str "truth",.int c,.bl true]) else if w = "no" then some (.tup [.str "truth",.int c,.bl false]) else if bL w=true then some (.tup [.str "whole",.int c,.int (eS w)]) else if cg w=true then some (.tup [.str "name",.int c,.str w]) else none
section
variable {n:Nat} {w:θ} {S:List O}
theorem sq (w:θ):opD .isin (.str w) (.tup [.str "yes",.str "no"])=some (.bl (w == "yes" || w == "no")):=by
 show some (D.bl (("yes":θ) == w || (("no":θ) == w || false)))=_
 rw [ļ,show (("yes":θ) == w)=(w == "yes") from BEq.comm,show (("no":θ) == w)=(w == "no") from BEq.comm]
theorem o9 (h:Aw w):af Γ (n+2) qo [.str w] S=Rs (c8 w) S:=by
 have it:=sq w
 have l0:=y0 (x:=w) (by have:=h.len;omega)
 have l1:=qu 1 w.length
 have l2:=qu w.length 8
 have os:=pd (n:=n) (S:=S) w LET (by have:=h.len;omega) h.asc
 have no:cg w=false→c8 w=none:=fun e=>by unfold c8;rw [e];rfl
 have oa:=fK h.ow
 have orr:=dJ h.ow
 cases e:(w == "yes" || w == "no") with
 | true=>
   rw [no (by unfold cg;rw [e];rfl)]
   rw [e] at it
   exact (aa false (aX 0 (it) (aX 2 (oa) (aX 0 (orr) aZ))) (by kernel_rfl))
 | false=>
   rw [e] at it
   by_cases c1:1≤w.length
   ·rw [ZW (show (1:Int)≤w.length by omega)] at l1
    by_cases c2:w.length≤8
    ·rw [ZW (show (w.length:Int)≤8 by omega)] at l2
     cases o:dD LET (ch w) with
     | true=>
       rw [o] at os
       have:c8 w=some (.str w):=by unfold c8 cg;rw [e,o,ZW ⟨c1,c2⟩];rfl
       rw [this]
       exact (aa false (aX 0 (it) (aX 1 (l0) (aX 0 (l1) (aX 1 (l2) (aX 0 (os) aZ))))) (by kernel_rfl))
     | false=>
       rw [o] at os
       rw [no (by unfold cg;rw [o];simp)]
       exact (aa false (aX 0 (it) (aX 1 (l0) (aX 0 (l1) (aX 1 (l2) (aX 0 (os) (aX 2 (oa) (aX 0 (orr) aZ))))))) (by kernel_rfl))
    ·rw [ZV (show ¬ (w.length:Int)≤8 by omega)] at l2
     rw [no (by unfold cg;rw [ZV (fun q=>c2 q.2)];simp)]
     exact (aa false (aX 0 (it) (aX 1 (l0) (aX 0 (l1) (aX 1 (l2) (aX 2 (oa) (aX 0 (orr) aZ)))))) (by kernel_rfl))
   ·rw [ZV (show ¬ (1:Int)≤w.length by omega)] at l1
    rw [no (by unfold cg;rw [ZV (fun q=>c1 q.1)];simp)]
    exact (aa false (aX 0 (it) (aX 1 (l0) (aX 0 (l1) (aX 3 (oa) (aX 0 (orr) aZ))))) (by kernel_rfl))
theorem pc (h:Aw w) (hn:bL w=true):di .int (.str w)=some (.int (eS w)):=by
 have hl:=h.len
 have e:∃ i,ą w=some i:=by
  unfold bL at hn
  rw [Θ,Θ,decide_eq_true_eq] at hn
  obtain ⟨⟨⟨h1,h2⟩,h3⟩,_⟩:=hn
  have h3:NumText.AllDigits (bf (ch w)):=fun c m=>(jn c).mp (of_decide_eq_true (Ψ.mp h3 c m))
  have ne:bf (ch w)≠[]:=fun e=>by rw [e] at h1;exact ZX h1 (by decide)
  by_cases c:(ch w).head? = some 45
  ·have f:bf (ch w)=(ch w).drop 1:=by unfold bf;rw [ZZ c]
   cases q:ch w with
   | nil=>rw [q] at c;cases c
   | cons a r=>
     rw [q] at c f
     cases c
     exact ⟨_,intText_neg (cs:=r) q (by rw [q,f] at h3;exact h3) (by rw [q,f] at ne;exact ne) (by omega)⟩
  ·have f:bf (ch w)=ch w:=by unfold bf;rw [ZY c]
   exact ⟨_,intText_digits (x:=w) (by rw [f] at h3;exact h3) (by rw [f] at ne;exact ne) (by omega)⟩
 obtain ⟨i,e⟩:=e
 show (if w.length≤640 then (ą w).map D.int else none)=_
 unfold eS
 rw [ZZ (by omega),e];rfl
theorem yo (h:Aw w):af Γ (n+3) mL [.str w] S=Rs (kE w) S:=by
 have nb:=tV (n:=n) (S:=S) (w:=w) (by have:=h.len;omega) h.asc
 have oa:=fK h.ow
 have orr:=dJ h.ow
 unfold kE
 cases b:bL w with
 | false=>
   rw [b] at nb
   rw [ZY (fun q=>by cases q.1)]
   exact (aa false (aX 0 (nb) (aX 3 (oa) (aX 0 (orr) aZ))) (by kernel_rfl))
 | true=>
   rw [b] at nb
   have i:=pc h b
   have l1:=qu 0 (eS w)
   have l2:=qu (eS w) 7
   by_cases c1:0≤eS w
   ·rw [ZW c1] at l1
    by_cases c2:eS w≤7
    ·rw [ZW c2] at l2
     rw [ZZ ⟨rfl,c1,c2⟩]
     exact (aa false (aX 0 (nb) (aX 2 (i) (aX 0 (l1) (aX 1 (l2) (aX 1 (i) aZ))))) (by kernel_rfl))
    ·rw [ZV c2] at l2
     rw [ZY (fun q=>c2 q.2.2)]
     exact (aa false (aX 0 (nb) (aX 2 (i) (aX 0 (l1) (aX 1 (l2) (aX 1 (oa) (aX 0 (orr) aZ)))))) (by kernel_rfl))
   ·rw [ZV c1] at l1
    rw [ZY (fun q=>c1 q.2.1)]
    exact (aa false (aX 0 (nb) (aX 2 (i) (aX 0 (l1) (aX 2 (oa) (aX 0 (orr) aZ))))) (by kernel_rfl))
theorem vI (h:Aw w) (c:Nat):af Γ (n+3) yx [.str w,.int c] S=Rs (cf w c) S:=by
 have it:=sq w
 have nb:=tV (n:=n) (S:=S) (w:=w) (by have:=h.len;omega) h.asc
 have nm:=o9 (n:=n) (S:=S) h
 have ey:=A7 w "yes"
 unfold cf
 by_cases c1:w = "yes"
 ·rw [ZZ c1];subst c1;kernel_rfl
 ·rw [ZY c1]
  by_cases c2:w = "no"
  ·rw [ZZ c2];subst c2;kernel_rfl
  ·rw [ZY c2]
   rw [ZU.mpr c1,ZU.mpr c2] at it
   cases b:bL w with
   | true=>
     rw [b] at nb
     have i:=pc h b
     rw [ZZ rfl]
     exact (aa false (aX 0 (it) (aX 0 (nb) (aX 2 (i) aZ))) (by kernel_rfl))
   | false=>
     rw [b] at nb
     rw [ZY (by decide)]
     unfold c8 at nm
     cases m:cg w with
     | true=>
       rw [m,ZZ rfl] at nm
       rw [ZZ rfl]
       exact (aa false (aX 0 (it) (aX 0 (nb) (aX 0 (nm) aZ))) (by kernel_rfl))
     | false=>
       rw [m,ZY (by decide)] at nm
       rw [ZY (by decide)]
       exact (aa false (aX 0 (it) (aX 0 (nb) (aX 0 (nm) aZ))) (by kernel_rfl))
end
def h2M (h:θ):Option H2:=if h = "to" then some .to else if h = "pair" then some .pair else none
def l3M (h:θ):Option L3:=if h = "whole" then some .whole else if h = "truth" then some .truth else if h = "?" then some .unt else none
def clM {α:Type} (a:α):List θ→Option (α×List θ)
 | x :: r=>if x=rpS then some (a,r) else none
 | []=>none
def kdM:Nat→List θ→Option (Kd×List θ)
 | 0,_=>none
 | _+1,[]=>none
 | q+1,w :: r=>match l3M w with
   | some l=>some (.lf l,r)
   | none=>if w=lpS then (match r with
     | []=>none
     | h :: r=>if h = "row" then (kdM q r).bind fun p=>clM (.row p.1) p.2
       else (h2M h).bind fun k=>(kdM q r).bind fun p=>(kdM q p.2).bind fun p2=>clM (.two k p.1 p2.1) p2.2) else none
def Sy (ws:List θ) (o:Option (D×List θ×Nat)) (res:Res):Prop:=match o with
 | some (d,r,c)=>r <:+ ws∧res = .ok d (RSr ws r c)
 | none=>∃ st,res = .exc 1 [] st
abbrev kdA (c:Nat) (o:Option (Kd×List θ)):Option (D×List θ×Nat):=o.map fun p=>(p.1.toD,p.2,c)
theorem BA {w:θ} (h1:w≠"whole") (h2:w≠"truth") (h3:w≠"?"):opD .isin (.str w) (.tup [.str "whole",.str "truth",.str "?"])=some (.bl false):=by
 show some (D.bl (("whole":θ) == w || (("truth":θ) == w || (("?":θ) == w || false))))=_
 rw [ZU.mpr h1.symm,ZU.mpr h2.symm,ZU.mpr h3.symm];rfl
theorem Ab {w:θ} (h1:w≠"to") (h2:w≠"row") (h3:w≠"pair"):(!(ϰ w (tbl.map (·.2))[1]!).isSome)=true:=by
 show (!(ϰ w [("to",_),("row",_),("pair",_)]).isSome)=true
 simp only [ϰ]
 rw [ZY (by simpa using h1),ZY (by simpa using h2),ZY (by simpa using h3)];rfl
theorem sH (ws:List θ) (hw:∀ w∈ws,Aw w) (c:Nat):∀ (q d:Nat),d+q=7→∀ (r:List θ) (n:Nat),r <:+ ws→Sy ws (kdA c (kdM q r)) (af Γ (n+q+4) cQ [.ref 0,.int (d:Nat)] (RSr ws r c))
 | 0,d,hd,r,n,_=>by
   have e0:opD .gt (.int (d:Nat)) (.int 6)=some (.bl true):=by show some (D.bl (decide _))=_;rw [ZW (by omega)]
   exact ⟨RSr ws r c,(aa false (aX 0 (e0) aZ) (by kernel_rfl))⟩
 | q+1,d,hd,[],n,_=>by
   have e0:opD .gt (.int (d:Nat)) (.int 6)=some (.bl false):=by show some (D.bl (decide _))=_;rw [ZV (by omega)]
   have p1:=cW (n:=n+q+2) (ws:=ws) (c:=c)
   exact ⟨RSr ws [] c,(aa false (aX 0 (e0) (aX 0 (p1) aZ)) (by kernel_rfl))⟩
 | q+1,d,hd,w :: r,n,hs=>by
   have e0:opD .gt (.int (d:Nat)) (.int 6)=some (.bl false):=by show some (D.bl (decide _))=_;rw [ZV (by omega)]
   have p1:=cD (n:=n+q+2) (c:=c) hs
   have o1:=(hw w (hs.subset κ)).ow
   have s1:=(sfx hs).2.1
   by_cases c1:w = "whole"
   ·subst c1;exact ⟨s1,(aa false (aX 0 (e0) (aX 0 (p1) aZ)) (by kernel_rfl))⟩
   by_cases c2:w = "truth"
   ·subst c2;exact ⟨s1,(aa false (aX 0 (e0) (aX 0 (p1) aZ)) (by kernel_rfl))⟩
   by_cases c3:w = "?"
   ·subst c3;exact ⟨s1,(aa false (aX 0 (e0) (aX 0 (p1) aZ)) (by kernel_rfl))⟩
   have l3:l3M w=none:=by unfold l3M;rw [ZY c1,ZY c2,ZY c3]
   have i1:=BA c1 c2 c3
   by_cases c4:w=lpS
   ·cases r with
    | nil=>
      have e:kdM (q+1) [w]=none:=by unfold kdM;rw [l3];dsimp only;rw [ZZ c4]
      rw [e];subst c4
      have p2:=cW (n:=n+q+2) (ws:=ws) (c:=c)
      exact ⟨RSr ws [] c,(aa false (aX 0 (e0) (aX 0 (p1) (aX 0 (p2) aZ))) (by kernel_rfl))⟩
    | cons h r=>
      have p2:=cD (n:=n+q+2) (c:=c) s1
      have o2:=(hw h (s1.subset κ)).ow
      have s2:=(sfx s1).2.1
      have ia:=sH ws hw c q (d+1) (by omega) r n s2
      by_cases cr:h = "row"
      ·have e:kdM (q+1) (w :: h :: r)=(kdM q r).bind fun p=>clM (.row p.1) p.2:=by rw [kdM];rw [l3];dsimp only;rw [ZZ c4,ZZ cr]
       rw [e];subst c4 cr
       cases ea:kdM q r with
       | none=>
         rw [ea] at ia
         obtain ⟨st,ia⟩:=ia
         exact ⟨st,(aa false (aX 0 (e0) (aX 0 (p1) (aX 0 (p2) (aX 0 (ia) aZ)))) (by kernel_rfl))⟩
       | some p=>
         obtain ⟨a,r1⟩:=p
         rw [ea] at ia
         obtain ⟨sa,ia⟩:=ia
         cases r1 with
         | nil=>exact ⟨RSr ws [] c,(aa false (aX 0 (e0) (aX 0 (p1) (aX 0 (p2) (aX 0 (ia) (aX 0 (dX (n:=n+q+1) (ws:=ws) (c:=c)) aZ))))) (by kernel_rfl))⟩
         | cons x r1=>
           have s3:=(sfx sa).2.1
           by_cases cx:x=rpS
           ·have e:kdA c ((some (a,x :: r1)).bind fun p=>clM (Kd.row p.1) p.2)=some ((Kd.row a).toD,r1,c):=by show kdA c (if x=rpS then _ else _)=_;rw [ZZ cx];rfl
            rw [e];subst cx
            exact ⟨s3,(aa false (aX 0 (e0) (aX 0 (p1) (aX 0 (p2) (aX 0 (ia) (aX 0 (fA (n:=n+q+1) (c:=c) sa) aZ))))) (by kernel_rfl))⟩
           ·have e:kdA c ((some (a,x :: r1)).bind fun p=>clM (Kd.row p.1) p.2)=none:=by show kdA c (if x=rpS then _ else _)=_;rw [ZY cx];rfl
            rw [e]
            exact ⟨RSr ws r1 c,(aa false (aX 0 (e0) (aX 0 (p1) (aX 0 (p2) (aX 0 (ia) (aX 0 (fz (n:=n+q+1) (c:=c) sa cx (hw x (sa.subset κ)).ow) aZ))))) (by kernel_rfl))⟩
      ·have e:kdM (q+1) (w :: h :: r)=(h2M h).bind fun k=>(kdM q r).bind fun p=>(kdM q p.2).bind fun p2=>clM (.two k p.1 p2.1) p2.2:=by rw [kdM];rw [l3];dsimp only;rw [ZZ c4,ZY cr]
       rw [e];subst c4
       have go:∀ k:H2,h=k.str→h2M h=some k:=fun k e=>by subst e;cases k <;> decide +kernel
       by_cases ct:∃ k:H2,h=k.str
       ·obtain ⟨k,ek⟩:=ct
        rw [go k ek];subst ek
        show Sy ws (kdA c ((kdM q r).bind fun p=>(kdM q p.2).bind fun p2=>clM (Kd.two k p.1 p2.1) p2.2)) _
        cases ea:kdM q r with
        | none=>
          rw [ea] at ia
          obtain ⟨st,ia⟩:=ia
          exact ⟨st,by cases k <;> exact (aa false (aX 0 (e0) (aX 0 (p1) (aX 0 (p2) (aX 0 (ia) aZ)))) (by kernel_rfl))⟩
        | some p=>
          obtain ⟨a,r1⟩:=p
          rw [ea] at ia
          obtain ⟨sa,ia⟩:=ia
          have ib:=sH ws hw c q (d+1) (by omega) r1 n sa
          show Sy ws (kdA c ((kdM q r1).bind fun p2=>clM (Kd.two k a p2.1) p2.2)) _
          cases eb:kdM q r1 with
          | none=>
            rw [eb] at ib
            obtain ⟨st,ib⟩:=ib
            exact ⟨st,by cases k <;> exact (aa false (aX 0 (e0) (aX 0 (p1) (aX 0 (p2) (aX 0 (ia) (aX 0 (ib) aZ))))) (by kernel_rfl))⟩
          | some p=>
            obtain ⟨b,r2⟩:=p
            rw [eb] at ib
            obtain ⟨sb,ib⟩:=ib
            cases r2 with
            | nil=>exact ⟨RSr ws [] c,by cases k <;> exact (aa false (aX 0 (e0) (aX 0 (p1) (aX 0 (p2) (aX 0 (ia) (aX 0 (ib) (aX 0 (dX (n:=n+q+1) (ws:=ws) (c:=c)) aZ)))))) (by kernel_rfl))⟩
            | cons x r2=>
              have s3:=(sfx sb).2.1
              by_cases cx:x=rpS
              ·have e:kdA c ((some (b,x :: r2)).bind fun p2=>clM (Kd.two k a p2.1) p2.2)=some ((Kd.two k a b).toD,r2,c):=by show kdA c (if x=rpS then _ else _)=_;rw [ZZ cx];rfl
               rw [e];subst cx
               exact ⟨s3,by cases k <;> exact (aa false (aX 0 (e0) (aX 0 (p1) (aX 0 (p2) (aX 0 (ia) (aX 0 (ib) (aX 0 (fA (n:=n+q+1) (c:=c) sb) aZ)))))) (by kernel_rfl))⟩
              ·have e:kdA c ((some (b,x :: r2)).bind fun p2=>clM (Kd.two k a p2.1) p2.2)=none:=by show kdA c (if x=rpS then _ else _)=_;rw [ZY cx];rfl
               rw [e]
               exact ⟨RSr ws r2 c,by cases k <;> exact (aa false (aX 0 (e0) (aX 0 (p1) (aX 0 (p2) (aX 0 (ia) (aX 0 (ib) (aX 0 (fz (n:=n+q+1) (c:=c) sb cx (hw x (sb.subset κ)).ow) aZ)))))) (by kernel_rfl))⟩
       ·have nt:∀ k:H2,h≠k.str:=fun k e=>ct ⟨k,e⟩
        have e:h2M h=none:=by unfold h2M;rw [ZY (show h≠"to" from nt .to),ZY (show h≠"pair" from nt .pair)]
        rw [e]
        exact ⟨RSr ws r c,(aa false (aX 0 (e0) (aX 0 (p1) (aX 0 (p2) (aX 0 (Ab (nt .to) cr (nt .pair)) (aX 0 (fK o2) (aX 0 (dJ o2) aZ)))))) (by kernel_rfl))⟩
   ·have e:kdM (q+1) (w :: r)=none:=by
     cases r <;> (unfold kdM;rw [l3];dsimp only;rw [ZY c4])
    rw [e]
    exact ⟨RSr ws r c,(aa false (aX 0 (e0) (aX 0 (p1) (aX 0 (i1) (aX 1 (jH c4) (aX 1 (fK o1) (aX 0 (dJ o1) aZ)))))) (by kernel_rfl))⟩
open L2.Lx (ch ch_app ch_len)
abbrev Md:=List θ→Nat→Option (D×List θ×Nat)
def bh (nd:Md):Nat→List θ→Nat→Option (List D×List θ×Nat)
 | _,[],_=>none
 | 0,w :: r,c=>if w=rpS then some ([],w :: r,c) else none
 | k+1,w :: r,c=>if w=rpS then some ([],w :: r,c) else (nd (w :: r) c).bind fun p=>(bh nd k p.2.1 p.2.2).map fun q=>(p.1 :: q.1,q.2)
def thM (nd:Md) (s:θ) (r:List θ) (c:Nat):Option (D×List θ×Nat):=if s = "node" then nd r c else if s = "nodes" then (bh nd 4 r c).map fun p=>(.tup p.1,p.2) else if s = "kind" then kdA c (kdM 6 r) else (match r with
 | []=>none
 | w :: r=>(if s = "name" then c8 w else kE w).map fun d=>(d,r,c))
def am (nd:Md):List θ→List θ→Nat→Option (List D×List θ×Nat)
 | [],r,c=>some ([],r,c)
 | s :: ss,r,c=>(thM nd s r c).bind fun p=>(am nd ss p.2.1 p.2.2).map fun q=>(p.1 :: q.1,q.2)
abbrev wL:List θ:=["node","nodes","kind","name","given"]
abbrev brs:List θ:=["given","fn","self","call","let","if","row","at","size","pair","one","two","as"]
abbrev brL:List (List θ):=[["given"],Hd.fn.sorts,Hd.self.sorts,Hd.call.sorts,Hd.let_.sorts,Hd.if_.sorts,Hd.row.sorts,Hd.at_.sorts,Hd.size.sorts,Hd.pair.sorts,Hd.one.sorts,Hd.two.sorts,Hd.as_.sorts]
def brM (h:θ):Option (θ×List D×List θ):=if h∈sgs then some ("do",[.str h],["node","node"]) else if h∈brs then some (h,[],brL.getD (brs.idxOf h) []) else none
def ndM:Nat→Md
 | 0,_,_=>none
 | q+1,ws,c=>if c=120 then none else (match ws with
   | []=>none
   | w :: r=>if w=lpS then (match r with
       | []=>none
       | h :: r=>(brM h).bind fun b=>(am (ndM q) b.2.2 r (c+1)).bind fun p=>(clM (.tup (.str b.1 :: .int c :: (b.2.1 ++ p.1))) p.2.1).map fun x=>(x.1,x.2,p.2.2))
     else (cf w c).map fun d=>(d,r,c+1))
theorem Ak {c:Sta→Out D} {f:Sta→ah} {s s1 s2:Sta} {n:Nat} (hc:c s = .ok (.bl true) s1) (hb:f s1 = .nx s2):cM c f (n+1) s=cM c f n s2:=by
 show (c s).go _=_
 rw [hc]
 show (f s1).go _=_
 rw [hb];rfl
theorem uC {c:Sta→Out D} {f:Sta→ah} {s s1 s2:Sta} {n j:Nat} {l:List D} (hc:c s = .ok (.bl true) s1) (hb:f s1 = .exc j l s2):cM c f (n+1) s = .exc j l s2:=by
 show (c s).go _=_
 rw [hc]
 show (f s1).go _=_
 rw [hb];rfl
theorem Aj {c:Sta→Out D} {f:Sta→ah} {s s1:Sta} {n j:Nat} {l:List D} (hc:c s = .exc j l s1):cM c f (n+1) s = .exc j l s1:=by
 show (c s).go _=_
 rw [hc];rfl
theorem uD {c:Sta→Out D} {f:Sta→ah} {s s1:Sta} {n:Nat} (hc:c s = .ok (.bl false) s1):cM c f (n+1) s = .nx s1:=by
 show (c s).go _=_
 rw [hc];rfl
def mh (ws:List θ) (nd:Md) (d K:Nat):Prop:=∀ (n:Nat) (r:List θ) (c:Nat),r <:+ ws→Sy ws (nd r c) (af Γ (n+K+12) d5 [.ref 0,.int (d:Nat)] (RSr ws r c))
abbrev rwC:E:=.op .ne (.mth 9 26 (.v 0) .nil) (.c (.str ")"))
abbrev rwB:S:=.seq (.ifs (.op .eq (.bi .len (.cons (.v 2) .nil)) (.g 10)) (.rais 1 (.cons (.op .add (.g 10) (.c (.int 0))) .nil)) .skip) (.app 2 (.mth 9 31 (.v 0) (.cons (.v 1) .nil)))
section
variable {ws:List θ} {nd:Md} {d K:Nat}
abbrev rSt (ws:List θ) (d:Nat) (acc:List D) (r:List θ) (c:Nat):Sta:=⟨[some (.ref 0),some (.int (d:Nat)),some (.lst acc)],[2],RSr ws r c⟩
theorem lG (hnd:mh ws nd d K) (n m:Nat):∀ (k:Nat) (acc:List D) (r:List θ) (c:Nat),acc.length+k=4→r <:+ ws→(match bh nd k r c with
 | some (ds,r',c')=>r' <:+ ws∧cM (ev Γ (af Γ (n+K+12)) (ao Γ (n+K+12)) true rwC) (exS Γ (af Γ (n+K+12)) (ao Γ (n+K+12)) rwB) (m+k+1) (rSt ws d acc r c) = .nx (rSt ws d (acc ++ ds) r' c')
 | none=>∃ s',cM (ev Γ (af Γ (n+K+12)) (ao Γ (n+K+12)) true rwC) (exS Γ (af Γ (n+K+12)) (ao Γ (n+K+12)) rwB) (m+k+1) (rSt ws d acc r c) = .exc 1 [] s')
 | k,acc,[],c,ha,hs=>by
   have p:=pn (n:=n+K+11) (ws:=ws) (c:=c)
   have hc:ev Γ (af Γ (n+K+12)) (ao Γ (n+K+12)) true rwC (rSt ws d acc [] c) = .exc 1 [] (rSt ws d acc [] c):=(fY false (aX 0 (p) aZ) (by kernel_rfl))
   have e:bh nd k [] c=none:=by cases k <;> rfl
   rw [e]
   exact ⟨_,Aj hc⟩
 | 0,acc,w :: r,c,ha,hs=>by
   have p:=jK (n:=n+K+11) (c:=c) hs
   have e:bh nd 0 (w :: r) c=if w=rpS then some ([],w :: r,c) else none:=rfl
   by_cases h:w=rpS
   ·rw [e,ZZ h]
    subst h
    have hc:ev Γ (af Γ (n+K+12)) (ao Γ (n+K+12)) true rwC (rSt ws d acc (rpS :: r) c) = .ok (.bl false) (rSt ws d acc (rpS :: r) c):=(fY false (aX 0 (p) aZ) (by kernel_rfl))
    refine ⟨hs,?_⟩
    rw [Ν]
    exact uD hc
   ·rw [e,ZY h]
    have hc:ev Γ (af Γ (n+K+12)) (ao Γ (n+K+12)) true rwC (rSt ws d acc (w :: r) c) = .ok (.bl true) (rSt ws d acc (w :: r) c):=(fY false (aX 0 (p) (aX 0 (jH h) aZ)) (by kernel_rfl))
    have e4:opD .eq (.int (acc.length:Nat)) (.int (4:Nat))=some (.bl true):=rI (by omega)
    have hb:exS Γ (af Γ (n+K+12)) (ao Γ (n+K+12)) rwB (rSt ws d acc (w :: r) c) = .exc 1 [] (rSt ws d acc (w :: r) c):=(bp false (aX 1 (e4) aZ) (by kernel_rfl))
    exact ⟨_,uC hc hb⟩
 | k+1,acc,w :: r,c,ha,hs=>by
   have p:=jK (n:=n+K+11) (c:=c) hs
   have e:bh nd (k+1) (w :: r) c=if w=rpS then some ([],w :: r,c) else (nd (w :: r) c).bind fun p=>(bh nd k p.2.1 p.2.2).map fun q=>(p.1 :: q.1,q.2):=rfl
   by_cases h:w=rpS
   ·rw [e,ZZ h]
    subst h
    have hc:ev Γ (af Γ (n+K+12)) (ao Γ (n+K+12)) true rwC (rSt ws d acc (rpS :: r) c) = .ok (.bl false) (rSt ws d acc (rpS :: r) c):=(fY false (aX 0 (p) aZ) (by kernel_rfl))
    refine ⟨hs,?_⟩
    rw [Ν]
    exact uD hc
   ·rw [e,ZY h]
    have hc:ev Γ (af Γ (n+K+12)) (ao Γ (n+K+12)) true rwC (rSt ws d acc (w :: r) c) = .ok (.bl true) (rSt ws d acc (w :: r) c):=(fY false (aX 0 (p) (aX 0 (jH h) aZ)) (by kernel_rfl))
    have e4:opD .eq (.int (acc.length:Nat)) (.int (4:Nat))=some (.bl false):=rJ (by omega)
    have hn:=hnd n (w :: r) c hs
    cases en:nd (w :: r) c with
    | none=>
      rw [en] at hn
      obtain ⟨st,hn⟩:=hn
      have hb:exS Γ (af Γ (n+K+12)) (ao Γ (n+K+12)) rwB (rSt ws d acc (w :: r) c) = .exc 1 [] ⟨[some (.ref 0),some (.int (d:Nat)),some (.lst acc)],[2],st⟩:=(bp false (aX 1 (e4) (aX 0 (hn) aZ)) (by kernel_rfl))
      exact ⟨_,uC hc hb⟩
    | some x=>
      obtain ⟨x,r1,c1⟩:=x
      rw [en] at hn
      obtain ⟨s1,hn⟩:=hn
      have hb:exS Γ (af Γ (n+K+12)) (ao Γ (n+K+12)) rwB (rSt ws d acc (w :: r) c) = .nx (rSt ws d (acc ++ [x]) r1 c1):=(bp false (aX 1 (e4) (aX 0 (hn) (aX 0 ((ZW (by omega):decide (acc.length+1≤100000)=true)) aZ))) (by kernel_rfl))
      have ih:=lG hnd n m k (acc ++ [x]) r1 c1 (by rw [ζ,ω];omega) s1
      rw [show m+(k+1)+1=(m+k+1)+1 by omega,Ak hc hb]
      show match (bh nd k r1 c1).map fun q=>(x :: q.1,q.2) with | some (ds,r',c')=>_ | none=>_
      cases er:bh nd k r1 c1 with
      | none=>rw [er] at ih;exact ih
      | some y=>
        obtain ⟨ds,r2,c2⟩:=y
        rw [er] at ih
        dsimp only at ih
        rw [χ] at ih
        exact ih
theorem zQ (hnd:mh ws nd d K) (n:Nat) (r:List θ) (c:Nat) (hs:r <:+ ws):Sy ws ((bh nd 4 r c).map fun p=>(.tup p.1,p.2)) (af Γ (n+K+13) eD [.ref 0,.int (d:Nat)] (RSr ws r c)):=by
 have lp:=lG hnd n 99995 4 [] r c rfl hs
 cases e:bh nd 4 r c with
 | none=>
   rw [e] at lp
   obtain ⟨s',lp⟩:=lp
   have lp:exS Γ (af Γ (n+K+12)) (ao Γ (n+K+12)) (.whl rwC rwB) (rSt ws d [] r c) = .exc 1 [] s':=lp
   exact ⟨s'.st,(aa true (aX 0 (lp) aZ) (by kernel_rfl))⟩
 | some y=>
   obtain ⟨ds,r2,c2⟩:=y
   rw [e] at lp
   obtain ⟨s2,lp⟩:=lp
   have lp:exS Γ (af Γ (n+K+12)) (ao Γ (n+K+12)) (.whl rwC rwB) (rSt ws d [] r c) = .nx (rSt ws d ds r2 c2):=lp
   exact ⟨s2,(aa true (aX 0 (lp) aZ) (by kernel_rfl))⟩
theorem Cm (hw:∀ w∈ws,Aw w) (hnd:mh ws nd (d+1) K) (n:Nat) (s:θ) (h:s∈wL) (r:List θ) (c:Nat) (hs:r <:+ ws):Sy ws (thM nd s r c) (af Γ (n+K+14) dP [.ref 0,.str s,.int (d:Nat)] (RSr ws r c)):=by
 have a1:=hnd (n+1) r c hs
 rw [show n+1+K+12=n+K+13 by omega] at a1
 have a2:=zQ hnd n r c hs
 have a3:=sH ws hw c 6 1 rfl r (n+K+3) hs
 have h:s = "node"∨s = "nodes"∨s = "kind"∨s = "name"∨s = "given":=by simpa using h
 rcases h with rfl | rfl | rfl | rfl | rfl
 ·have e:thM nd "node" r c=nd r c:=rfl
  rw [e]
  cases e:nd r c with
  | none=>rw [e] at a1;obtain ⟨st,a1⟩:=a1;exact ⟨st,(aa false (aX 0 (a1) aZ) (by kernel_rfl))⟩
  | some y=>obtain ⟨y,r2,c2⟩:=y;rw [e] at a1;obtain ⟨s2,a1⟩:=a1;exact ⟨s2,(aa false (aX 0 (a1) aZ) (by kernel_rfl))⟩
 ·have e:thM nd "nodes" r c=(bh nd 4 r c).map fun p=>(.tup p.1,p.2):=rfl
  rw [e]
  cases e:(bh nd 4 r c).map fun p=>(D.tup p.1,p.2) with
  | none=>rw [e] at a2;obtain ⟨st,a2⟩:=a2;exact ⟨st,(aa false (aX 0 (a2) aZ) (by kernel_rfl))⟩
  | some y=>obtain ⟨y,r2,c2⟩:=y;rw [e] at a2;obtain ⟨s2,a2⟩:=a2;exact ⟨s2,(aa false (aX 0 (a2) aZ) (by kernel_rfl))⟩
 ·have e:thM nd "kind" r c=kdA c (kdM 6 r):=rfl
  rw [e]
  cases e:kdA c (kdM 6 r) with
  | none=>rw [e] at a3;obtain ⟨st,a3⟩:=a3;exact ⟨st,(aa false (aX 0 (a3) aZ) (by kernel_rfl))⟩
  | some y=>obtain ⟨y,r2,c2⟩:=y;rw [e] at a3;obtain ⟨s2,a3⟩:=a3;exact ⟨s2,(aa false (aX 0 (a3) aZ) (by kernel_rfl))⟩
 ·cases r with
  | nil=>exact ⟨RSr ws [] c,(aa false (aX 0 (cW (n:=n+K+11) (ws:=ws) (c:=c)) aZ) (by kernel_rfl))⟩
  | cons w r=>
    have p1:=cD (n:=n+K+11) (c:=c) hs
    have a4:=o9 (n:=n+K+11) (S:=RSr ws r c) (hw w (hs.subset κ))
    have e:thM nd "name" (w :: r) c=(c8 w).map fun d=>(d,r,c):=rfl
    rw [e]
    cases e:c8 w with
    | none=>rw [e] at a4;exact ⟨RSr ws r c,(aa false (aX 0 (p1) (aX 0 (a4) aZ)) (by kernel_rfl))⟩
    | some y=>rw [e] at a4;exact ⟨(sfx hs).2.1,(aa false (aX 0 (p1) (aX 0 (a4) aZ)) (by kernel_rfl))⟩
 ·cases r with
  | nil=>exact ⟨RSr ws [] c,(aa false (aX 0 (cW (n:=n+K+11) (ws:=ws) (c:=c)) aZ) (by kernel_rfl))⟩
  | cons w r=>
    have p1:=cD (n:=n+K+11) (c:=c) hs
    have a4:=yo (n:=n+K+10) (S:=RSr ws r c) (hw w (hs.subset κ))
    have e:thM nd "given" (w :: r) c=(kE w).map fun d=>(d,r,c):=rfl
    rw [e]
    cases e:kE w with
    | none=>rw [e] at a4;exact ⟨RSr ws r c,(aa false (aX 0 (p1) (aX 0 (a4) aZ)) (by kernel_rfl))⟩
    | some y=>rw [e] at a4;exact ⟨(sfx hs).2.1,(aa false (aX 0 (p1) (aX 0 (a4) aZ)) (by kernel_rfl))⟩
abbrev tsE:E:=.mth 9 34 (.v 1) (.cons (.v 0) (.cons (.v 3) .nil))
abbrev tSt (ws:List θ) (e:Option D) (X:D) (d:Nat) (r:List θ) (c:Nat):Sta:=⟨[e,some (.ref 0),some X,some (.int (d:Nat))],[],RSr ws r c⟩
theorem lV (hw:∀ w∈ws,Aw w) (hnd:mh ws nd (d+1) K) (n:Nat) (X:D):∀ (ss:List θ) (acc:List D) (r:List θ) (c:Nat) (e:Option D),(∀ s∈ss,s∈wL)→acc.length+ss.length≤100→r <:+ ws→(match am nd ss r c with
 | some (ds,r',c')=>r' <:+ ws∧∃ e',bx (lcQ Γ (af Γ (n+K+14)) (ao Γ (n+K+14)) [0] true tsE (.c (.bl true))) (sD ss) acc (tSt ws e X d r c) = .ok (.lst (acc ++ ds)) (tSt ws e' X d r' c')
 | none=>∃ s',bx (lcQ Γ (af Γ (n+K+14)) (ao Γ (n+K+14)) [0] true tsE (.c (.bl true))) (sD ss) acc (tSt ws e X d r c) = .exc 1 [] s')
 | [],acc,r,c,e,_,_,hs=>by
   show r <:+ ws∧_
   exact ⟨hs,e,by rw [Ν];rfl⟩
 | s :: ss,acc,r,c,e,hq,hl,hs=>by
   have a:=Cm hw hnd n s (hq s κ) r c hs
   show match (thM nd s r c).bind fun p=>(am nd ss p.2.1 p.2.2).map fun q=>(p.1 :: q.1,q.2) with | some (ds,r',c')=>_ | none=>_
   cases en:thM nd s r c with
   | none=>
     rw [en] at a
     obtain ⟨st,a⟩:=a
     have el:ev Γ (af Γ (n+K+14)) (ao Γ (n+K+14)) false tsE (tSt ws (some (.str s)) X d r c) = .exc 1 [] ⟨[some (.str s),some (.ref 0),some X,some (.int (d:Nat))],[],st⟩:=(fY false (aX 0 (a) aZ) (by kernel_rfl))
     exact ⟨_,qt (yF rfl rfl el)⟩
   | some y=>
     obtain ⟨y,r1,c1⟩:=y
     rw [en] at a
     obtain ⟨s1,a⟩:=a
     have el:ev Γ (af Γ (n+K+14)) (ao Γ (n+K+14)) false tsE (tSt ws (some (.str s)) X d r c) = .ok y (tSt ws (some (.str s)) X d r1 c1):=(fY false (aX 0 (a) aZ) (by kernel_rfl))
     simp only [ψ] at hl
     have ih:=lV hw hnd n X ss (acc ++ [y]) r1 c1 (some (.str s)) (fun s m=>hq s (υ _ m)) (by rw [ζ,ω];omega) s1
     show match (am nd ss r1 c1).map fun q=>(y :: q.1,q.2) with | some (ds,r',c')=>_ | none=>_
     cases er:am nd ss r1 c1 with
     | none=>
       rw [er] at ih
       obtain ⟨s',ih⟩:=ih
       exact ⟨s',cR (d6 rfl rfl el) (by omega) ih⟩
     | some z=>
       obtain ⟨ds,r2,c2⟩:=z
       rw [er] at ih
       obtain ⟨s2,e',ih⟩:=ih
       rw [χ] at ih
       exact ⟨s2,e',cR (d6 rfl rfl el) (by omega) ih⟩
theorem uy (hw:∀ w∈ws,Aw w) (hnd:mh ws nd (d+1) K) (n:Nat) (ss:List θ) (hq:∀ s∈ss,s∈wL) (hl:ss.length≤100) (r:List θ) (c:Nat) (hs:r <:+ ws):Sy ws ((am nd ss r c).map fun p=>(.tup p.1,p.2)) (af Γ (n+K+15) dz [.ref 0,.tup (sD ss),.int (d:Nat)] (RSr ws r c)):=by
 have lp:=lV hw hnd n (.tup (sD ss)) ss [] r c none hq (by simpa using hl) hs
 cases e:am nd ss r c with
 | none=>
   rw [e] at lp
   obtain ⟨s',lp⟩:=lp
   exact ⟨s'.st,(aa true (aX 0 (lp) aZ) (by kernel_rfl))⟩
 | some y=>
   obtain ⟨ds,r2,c2⟩:=y
   rw [e] at lp
   obtain ⟨s2,e',lp⟩:=lp
   rw [ϛ] at lp
   exact ⟨s2,(aa true (aX 0 (lp) aZ) (by kernel_rfl))⟩
end
open L2.Lx (ch ch_app ch_len)
theorem oJ (w:θ):∀ l:List θ,inD (.str w) (sD l)=some (decide (w∈l))
 | []=>rfl
 | x :: l=>by
   show (inD (.str w) (sD l)).map ((x == w) || ·)=_
   rw [oJ w l]
   show some ((x == w) || decide (w∈l))=_
   refine ZS some (ě.mpr ?_)
   rw [í,beq_iff_eq,decide_eq_true_eq,decide_eq_true_eq,φ]
   exact or_congr_left ⟨Eq.symm,Eq.symm⟩
theorem mK (l:List θ) (w:θ):opD .isin (.str w) (.tup (sD l))=some (.bl (decide (w∈l))):=by
 show (inD (.str w) (sD l)).map D.bl=_
 rw [oJ];rfl
theorem u0 {S:List O} {n:Nat}:∀ h∈brs,af Γ (n+1) yw [.str h] S = .ok (.tup (sD (brL.getD (brs.idxOf h) []))) S:=by
 intro h m
 have m:h = "given"∨h = "fn"∨h = "self"∨h = "call"∨h = "let"∨h = "if"∨h = "row"∨h = "at"∨h = "size"∨h = "pair"∨h = "one"∨h = "two"∨h = "as":=by simpa using m
 rcases m with rfl | rfl | rfl | rfl | rfl | rfl | rfl | rfl | rfl | rfl | rfl | rfl | rfl <;> kernel_rfl
theorem xW:∀ h∈brs,(∀ s∈brL.getD (brs.idxOf h) [],s∈wL)∧(brL.getD (brs.idxOf h) []).length≤100:=by decide +kernel
theorem jV {nd:Md}:∀ (ss r:List θ) (c:Nat) {p},am nd ss r c=some p→p.1.length=ss.length
 | [],r,c,p,h=>by cases h;rfl
 | s :: ss,r,c,p,h=>by
   rw [am] at h
   cases e:thM nd s r c with
   | none=>rw [e] at h;cases h
   | some x=>
     rw [e] at h
     have h:(am nd ss x.2.1 x.2.2).map (fun q=>(x.1 :: q.1,q.2))=some p:=h
     cases e2:am nd ss x.2.1 x.2.2 with
     | none=>rw [e2] at h;cases h
     | some y=>
       rw [e2] at h;cases h
       exact ZS (· + 1) (jV ss _ _ e2)
theorem qX {a b:List D} (h:a.length+b.length≤100000):opD .add (.tup a) (.tup b)=some (.tup (a ++ b)):=by
 show eA _ _=_;unfold eA;rw [ZZ h]
section
variable {ws:List θ} {nd:Md} {d K:Nat}
theorem Az (hw:∀ w∈ws,Aw w) (hnd:mh ws nd (d+1) K) (n:Nat) (c:Nat) (h:θ) (r:List θ) (k:Nat) (hs:(h :: r) <:+ ws):Sy ws ((brM h).bind fun b=>(am nd b.2.2 r c).map fun p=>(.tup (.str b.1 :: .int (k:Nat) :: (b.2.1 ++ p.1)),p.2.1,p.2.2)) (af Γ (n+K+16) aN [.ref 0,.int (k:Nat),.int (d:Nat)] (RSr ws (h :: r) c)):=by
 have p1:=cD (n:=n+K+13) (c:=c) hs
 have s1:=(sfx hs).2.1
 have i1:=mK sgs h
 have i2:=mK brs h
 have oh:=(hw h (hs.subset κ)).ow
 by_cases c1:h∈sgs
 ·rw [ZW c1] at i1
  have e:brM h=some (("do":θ),[D.str h],(["node","node"]:List θ)):=ZZ c1
  rw [e]
  have a:=uy hw hnd n ["node","node"] (by decide) (by decide) r c s1
  show Sy ws ((am nd ["node","node"] r c).map fun p=>(.tup (.str "do" :: .int (k:Nat) :: ([D.str h] ++ p.1)),p.2.1,p.2.2)) _
  cases e:am nd ["node","node"] r c with
  | none=>rw [e] at a;obtain ⟨st,a⟩:=a;exact ⟨st,(aa false (aX 0 (p1) (aX 0 (i1) (aC (aX 0 (a) aZ)))) (by kernel_rfl))⟩
  | some y=>
    obtain ⟨y,r2,c2⟩:=y
    have l:y.length=2:=jV _ _ _ e
    rw [e] at a
    obtain ⟨s2,a⟩:=a
    have ad:opD .add (.tup [.str "do",.int (k:Nat),.str h]) (.tup y)=some (.tup ([.str "do",.int (k:Nat),.str h] ++ y)):=qX (by simp only [ψ,Ϧ];omega)
    exact ⟨s2,(aa false (aX 0 (p1) (aX 0 (i1) (aC (aX 0 (a) (aX 0 (ad) aZ))))) (by kernel_rfl))⟩
 ·rw [ZV c1] at i1
  by_cases c2:h∈brs
  ·rw [ZW c2] at i2
   have e:brM h=some (h,[],brL.getD (brs.idxOf h) []):=by unfold brM;rw [ZY c1,ZZ c2]
   rw [e]
   have bs:=xW h c2
   have f:=u0 (S:=RSr ws r c) (n:=n+K+14) h c2
   revert bs f
   generalize brL.getD (brs.idxOf h) []=ss
   intro bs f
   have a:=uy hw hnd n ss bs.1 bs.2 r c s1
   show Sy ws ((am nd ss r c).map fun p=>(.tup (.str h :: .int (k:Nat) :: ([] ++ p.1)),p.2.1,p.2.2)) _
   cases e:am nd ss r c with
   | none=>rw [e] at a;obtain ⟨st,a⟩:=a;exact ⟨st,(aa false (aX 0 (p1) (aX 0 (i1) (aX 1 (i2) (aX 0 (f) (aX 0 (a) aZ))))) (by kernel_rfl))⟩
   | some y=>
     obtain ⟨y,r2,c2⟩:=y
     have l:y.length=ss.length:=jV _ _ _ e
     rw [e] at a
     obtain ⟨s2,a⟩:=a
     have ad:opD .add (.tup [.str h,.int (k:Nat)]) (.tup y)=some (.tup ([.str h,.int (k:Nat)] ++ y)):=qX (by have:=bs.2;simp only [ψ,Ϧ];omega)
     exact ⟨s2,(aa false (aX 0 (p1) (aX 0 (i1) (aX 1 (i2) (aX 0 (f) (aX 0 (a) (aX 0 (ad) aZ)))))) (by kernel_rfl))⟩
  ·rw [ZV c2] at i2
   have e:brM h=none:=by unfold brM;rw [ZY c1,ZY c2]
   rw [e]
   exact ⟨RSr ws r c,(aa false (aX 0 (p1) (aX 0 (i1) (aX 1 (i2) (aX 1 (fK oh) (aX 0 (dJ oh) aZ))))) (by kernel_rfl))⟩
theorem AB (n:Nat) (c k:Nat):af Γ (n+K+16) aN [.ref 0,.int (k:Nat),.int (d:Nat)] (RSr ws [] c) = .exc 1 [] (RSr ws [] c):=(aa false (aX 0 (cW (n:=n+K+13) (ws:=ws) (c:=c)) aZ) (by kernel_rfl))
theorem kY {q c:Nat} (hc:c≠120) (h:θ) (r:List θ):ndM (q+1) (lpS :: h :: r) c=(brM h).bind fun b=>(am (ndM q) b.2.2 r (c+1)).bind fun p=>(clM (.tup (.str b.1 :: .int c :: (b.2.1 ++ p.1))) p.2.1).map fun x=>(x.1,x.2,p.2.2):=by
 show (if c=120 then none else _)=_
 rw [ZY hc]
 show (if lpS=lpS then _ else _)=_
 rw [ZZ rfl]
theorem eQ {q c:Nat} (hc:c≠120) {w:θ} (r:List θ) (h:w≠lpS):ndM (q+1) (w :: r) c=(cf w c).map fun d=>(d,r,c+1):=by
 show (if c=120 then none else _)=_
 rw [ZY hc]
 show (if w=lpS then _ else _)=_
 rw [ZY h]
theorem xA (hw:∀ w∈ws,Aw w):∀ (q d:Nat),d+q=9→mh ws (ndM q) d (5 * q)
 | 0,d,hd=>fun n r c _=>by
   have e0:opD .gt (.int (d:Nat)) (.int 8)=some (.bl true):=by show some (D.bl (decide _))=_;rw [ZW (by omega)]
   exact ⟨RSr ws r c,(aa false (aX 0 (e0) aZ) (by kernel_rfl))⟩
 | q+1,d,hd=>fun n r c hs=>by
   have e0:opD .gt (.int (d:Nat)) (.int 8)=some (.bl false):=by show some (D.bl (decide _))=_;rw [ZV (by omega)]
   by_cases hc:c=120
   ·have e:ndM (q+1) r c=none:=by unfold ndM;rw [ZZ hc]
    rw [e]
    have p0:=t8 (n:=n+5 * q+15) (ws:=ws) (t:=ws.length - r.length) hc
    exact ⟨RSr ws r c,(aa false (aX 0 (e0) (aX 0 (p0) aZ)) (by kernel_rfl))⟩
   have p0:=t9 (n:=n+5 * q+15) (ws:=ws) (t:=ws.length - r.length) hc
   cases r with
   | nil=>
     have e:ndM (q+1) [] c=none:=by unfold ndM;rw [ZY hc]
     rw [e]
     have p1:=cW (n:=n+5 * q+14) (ws:=ws) (c:=c+1)
     exact ⟨RSr ws [] (c+1),(aa false (aX 0 (e0) (aX 0 (p0) (aX 0 (p1) aZ))) (by kernel_rfl))⟩
   | cons w r=>
     have p1:=cD (n:=n+5 * q+14) (c:=c+1) hs
     have s1:=(sfx hs).2.1
     by_cases cw:w=lpS
     ·cases r with
      | nil=>
        have e:ndM (q+1) [w] c=none:=by unfold ndM;rw [ZY hc];dsimp only;rw [ZZ cw]
        rw [e];subst cw
        exact ⟨RSr ws [] (c+1),(aa false (aX 0 (e0) (aX 0 (p0) (aX 0 (p1) (aX 0 (AB (ws:=ws) (K:=5 * q) (d:=d) n (c+1) c) aZ)))) (by kernel_rfl))⟩
      | cons h r=>
        rw [cw] at hs p0 p1 ⊢
        rw [kY hc h r]
        have b:=Az hw (xA hw q (d+1) (by omega)) n (c+1) h r c s1
        cases eb:brM h with
        | none=>rw [eb] at b;obtain ⟨st,b⟩:=b;exact ⟨st,(aa false (aX 0 (e0) (aX 0 (p0) (aX 0 (p1) (aX 0 (b) aZ)))) (by kernel_rfl))⟩
        | some x=>
          obtain ⟨x1,x2,x3⟩:=x
          rw [eb] at b
          have b:Sy ws ((am (ndM q) x3 r (c+1)).map fun p=>(.tup (.str x1 :: .int (c:Nat) :: (x2 ++ p.1)),p.2.1,p.2.2)) (af Γ (n+5 * q+16) aN [.ref 0,.int (c:Nat),.int (d:Nat)] (RSr ws (h :: r) (c+1))):=b
          show Sy ws ((am (ndM q) x3 r (c+1)).bind fun p=>(clM (D.tup (.str x1 :: .int c :: (x2 ++ p.1))) p.2.1).map fun x=>(x.1,x.2,p.2.2)) _
          cases et:am (ndM q) x3 r (c+1) with
          | none=>rw [et] at b;obtain ⟨st,b⟩:=b;exact ⟨st,(aa false (aX 0 (e0) (aX 0 (p0) (aX 0 (p1) (aX 0 (b) aZ)))) (by kernel_rfl))⟩
          | some y=>
            obtain ⟨y,r2,c2⟩:=y
            rw [et] at b
            obtain ⟨s2,b⟩:=b
            show Sy ws ((clM (D.tup (.str x1 :: .int c :: (x2 ++ y))) r2).map fun x=>(x.1,x.2,c2)) _
            cases r2 with
            | nil=>exact ⟨RSr ws [] c2,(aa false (aX 0 (e0) (aX 0 (p0) (aX 0 (p1) (aX 0 (b) (aX 0 (dX (n:=n+5 * q+13) (ws:=ws) (c:=c2)) aZ))))) (by kernel_rfl))⟩
            | cons x r2=>
              have s3:=(sfx s2).2.1
              show Sy ws ((if x=rpS then some (D.tup (.str x1 :: .int c :: (x2 ++ y)),r2) else none).map fun x=>(x.1,x.2,c2)) _
              by_cases cx:x=rpS
              ·rw [ZZ cx];subst cx
               exact ⟨s3,(aa false (aX 0 (e0) (aX 0 (p0) (aX 0 (p1) (aX 0 (b) (aX 0 (fA (n:=n+5 * q+13) (c:=c2) s2) aZ))))) (by kernel_rfl))⟩
              ·rw [ZY cx]
               exact ⟨RSr ws r2 c2,(aa false (aX 0 (e0) (aX 0 (p0) (aX 0 (p1) (aX 0 (b) (aX 0 (fz (n:=n+5 * q+13) (c:=c2) s2 cx (hw x (s2.subset κ)).ow) aZ))))) (by kernel_rfl))⟩
     ·have lf:=vI (n:=n+5 * q+13) (S:=RSr ws r (c+1)) (hw w (hs.subset κ)) c
      have e:=eQ (q:=q) hc r cw
      rw [e]
      cases el:cf w c with
      | none=>rw [el] at lf;exact ⟨RSr ws r (c+1),(aa false (aX 0 (e0) (aX 0 (p0) (aX 0 (p1) (aX 0 (jH cw) (aX 0 (lf) aZ))))) (by kernel_rfl))⟩
      | some y=>rw [el] at lf;exact ⟨s1,(aa false (aX 0 (e0) (aX 0 (p0) (aX 0 (p1) (aX 0 (jH cw) (aX 0 (lf) aZ))))) (by kernel_rfl))⟩
end
section
variable {n:Nat} {S:List O}
theorem ini (ws:List θ):ao Γ (n+2) 25 [.ref 0,.lst (sD ws)] [.ins 9 []] = .ok .non (RS ws 0 0):=by kernel_rfl
theorem yi {ws:List θ} {c:Nat}:af Γ (n+1) cz [.ref 0] (RSr ws [] c) = .ok .non (RSr ws [] c):=by
 have e:opD .lt (.int ((ws.length - 0:Nat):Int)) (.int ((sD ws).length:Nat))=some (.bl false):=by show some (D.bl (decide _))=_;rw [ZV (by rw [ο];omega)]
 exact (aa false (aX 3 (e) aZ) (by kernel_rfl))
theorem yh {ws r:List θ} {c:Nat} {w:θ} (h:(w :: r) <:+ ws):af Γ (n+1) cz [.ref 0] (RSr ws (w :: r) c) = .exc 1 [] (RSr ws (w :: r) c):=by
 have hl:=h.length_le
 rw [ψ] at hl
 have e:opD .lt (.int ((ws.length - (w :: r).length:Nat):Int)) (.int ((sD ws).length:Nat))=some (.bl true):=by show some (D.bl (decide _))=_;rw [ZW (by rw [ο,ψ];omega)]
 exact (aa false (aX 3 (e) aZ) (by kernel_rfl))
def rdM (ws:List θ):Option D:=(ndM 8 ws 0).bind fun p=>if p.2.1 = [] then some p.1 else none
def rdT (T:θ):Option D:=if T.length≤2000 then rdM (a8 T) else none
theorem pC (T:θ) (h5:T.length≤90000) (hw:T.length≤2000→∀ w∈a8 T,Aw w):match rdT T with
 | some d=>∃ st,af Γ (n+60) sC [.str T] [] = .ok d st
 | none=>∃ st,af Γ (n+60) sC [.str T] [] = .exc 1 [] st:=by
 unfold rdT
 by_cases hl:T.length≤2000
 ·rw [ZZ hl]
  have w0:=uG (S:=[]) (m:=n+58) T hl
  have i0:=ini (n:=n+57) (a8 T)
  have a:=xA (hw hl) 8 1 rfl (n+7) (a8 T) 0 (List.suffix_refl _)
  unfold rdM
  revert hw w0 i0 a
  generalize a8 T=ws
  intro hw w0 i0 a
  have i0:ao Γ (n+59) 25 [.ref 0,.lst (sD ws)] [.ins 9 []] = .ok .non (RSr ws ws 0):=by rw [i0];unfold RSr;rw [Ď]
  cases e:ndM 8 ws 0 with
  | none=>rw [e] at a;obtain ⟨st,a⟩:=a;exact ⟨st,(aa false (aX 0 (w0) (aX 0 (i0) (aX 0 (a) aZ))) (by kernel_rfl))⟩
  | some y=>
    obtain ⟨y,r,c⟩:=y
    rw [e] at a
    obtain ⟨s1,a⟩:=a
    cases r with
    | nil=>exact ⟨RSr ws [] c,(aa false (aX 0 (w0) (aX 0 (i0) (aX 0 (a) (aX 0 (yi (n:=n+58) (ws:=ws) (c:=c)) aZ)))) (by kernel_rfl))⟩
    | cons w r=>exact ⟨RSr ws (w :: r) c,(aa false (aX 0 (w0) (aX 0 (i0) (aX 0 (a) (aX 0 (yh (n:=n+58) (c:=c) s1) aZ)))) (by kernel_rfl))⟩
 ·rw [ZY hl]
  have w0:=uF (S:=[]) (m:=n+58) T (by omega) (by omega)
  exact ⟨[],(aa false (aX 0 (w0) aZ) (by kernel_rfl))⟩
end
open L2.Lx (ch ch_app ch_len)
abbrev idp:Nat→Int:=fun n=>(n:Int)
theorem mB {α:Type} (a:α) (r:List θ):clM a (rpS :: r)=some (a,r):=(ZZ rfl:(if rpS=rpS then some (a,r) else none)=some (a,r))
theorem jA:∀ (k:Kd) (q:Nat) (r:List θ),k.dep≤q→kdM q (k.tok ++ r)=some (k,r)
 | .lf l,q+1,r,_=>by cases l <;> rfl
 | .lf l,0,r,h=>by simp only [Kd.dep] at h;omega
 | .row a,0,r,h=>by simp only [Kd.dep] at h;omega
 | .two k a b,0,r,h=>by simp only [Kd.dep] at h;omega
 | .row a,q+1,r,h=>by
   have h:1+a.dep≤q+1:=h
   show kdM (q+1) (lpS :: ("row":θ) :: ((a.tok ++ ([rpS]:List θ)) ++ r))=_
   rw [χ]
   show ((kdM q (a.tok ++ rpS :: r)).bind fun p=>clM (Kd.row p.1) p.2)=_
   rw [jA a q _ (by omega)]
   exact mB _ _
 | .two k a b,q+1,r,h=>by
   have h:1+max a.dep b.dep≤q+1:=h
   show kdM (q+1) (lpS :: k.str :: ((a.tok ++ (b.tok ++ ([rpS]:List θ))) ++ r))=_
   rw [χ,χ]
   have e:kdM (q+1) (lpS :: k.str :: (a.tok ++ (b.tok ++ rpS :: r)))=(kdM q (a.tok ++ (b.tok ++ rpS :: r))).bind fun p=>(kdM q p.2).bind fun p2=>clM (Kd.two k p.1 p2.1) p2.2:=by cases k <;> rfl
   rw [show ([rpS]:List θ) ++ r=rpS :: r from rfl,e,jA a q _ (by omega)]
   show ((kdM q (b.tok ++ rpS :: r)).bind fun p2=>clM (Kd.two k a p2.1) p2.2)=_
   rw [jA b q _ (by omega)]
   exact mB _ _
theorem wN {nd:Md} {w:θ} (h:Nm w) (r:List θ) (c:Nat):thM nd "name" (w :: r) c=some (.str w,r,c):=by
 show (c8 w).map (fun d=>(d,r,c))=_
 unfold c8
 rw [ZZ (fH h)];rfl
theorem jU {nd:Md}:∀ (a b r:List θ) (c:Nat),am nd (a ++ b) r c=(am nd a r c).bind fun p=>(am nd b p.2.1 p.2.2).map fun q=>(p.1 ++ q.1,q.2)
 | [],b,r,c=>by
   show am nd b r c=(am nd b r c).map fun q=>([] ++ q.1,q.2)
   cases am nd b r c <;> rfl
 | s :: a,b,r,c=>by
   show (thM nd s r c).bind (fun p=>(am nd (a ++ b) p.2.1 p.2.2).map fun q=>(p.1 :: q.1,q.2))=((thM nd s r c).bind fun p=>(am nd a p.2.1 p.2.2).map fun q=>(p.1 :: q.1,q.2)).bind fun p=>(am nd b p.2.1 p.2.2).map fun q=>(p.1 ++ q.1,q.2)
   cases thM nd s r c with
   | none=>rfl
   | some x=>
     show (am nd (a ++ b) x.2.1 x.2.2).map (fun q=>(x.1 :: q.1,q.2))=((am nd a x.2.1 x.2.2).map fun q=>(x.1 :: q.1,q.2)).bind fun p=>(am nd b p.2.1 p.2.2).map fun q=>(p.1 ++ q.1,q.2)
     rw [jU a b]
     cases am nd a x.2.1 x.2.2 with
     | none=>rfl
     | some y=>
       show ((am nd b y.2.1 y.2.2).map fun q=>(y.1 ++ q.1,q.2)).map (fun q=>(x.1 :: q.1,q.2))=(am nd b y.2.1 y.2.2).map fun q=>((x.1 :: y.1) ++ q.1,q.2)
       cases am nd b y.2.1 y.2.2 <;> rfl
theorem fi {nd:Md} {s:θ} {ss r r1 r2:List θ} {c c1 c2:Nat} {d:D} {ds:List D} (h:thM nd s r c=some (d,r1,c1)) (h2:am nd ss r1 c1=some (ds,r2,c2)):am nd (s :: ss) r c=some (d :: ds,r2,c2):=by
 rw [am,h]
 show (am nd ss r1 c1).map _=_
 rw [h2];rfl
theorem dM {nd:Md} {a b r r1 r2:List θ} {c c1 c2:Nat} {d ds:List D} (h:am nd a r c=some (d,r1,c1)) (h2:am nd b r1 c1=some (ds,r2,c2)):am nd (a ++ b) r c=some (d ++ ds,r2,c2):=by
 rw [jU,h]
 show (am nd b r1 c1).map _=_
 rw [h2];rfl
theorem fO {nd:Md}:∀ (fr r:List θ) (c:Nat),(∀ w∈fr,Nm w)→am nd (μ fr.length "name") (fr ++ r) c=some (sD fr,r,c)
 | [],r,c,_=>rfl
 | w :: fr,r,c,h=>fi (wN (h w κ) _ c) (fO fr r c fun w m=>h w (υ _ m))
theorem fN {nd:Md}:∀ (ks:List Kd) (r:List θ) (c:Nat),(∀ k∈ks,k.dep≤6)→am nd (μ ks.length "kind") (ks.flatMap Kd.tok ++ r) c=some (ks.map Kd.toD,r,c)
 | [],r,c,_=>rfl
 | k :: ks,r,c,h=>by
   rw [Á,χ]
   refine fi (r1:=ks.flatMap Kd.tok ++ r) (c1:=c) ?_ (fN ks r c fun w m=>h w (υ _ m))
   show kdA c (kdM 6 _)=_
   rw [jA k 6 _ (h k κ)];rfl
def Nd1 (nd:Md) (p:Tr) (m:Nat):Prop:=∀ (r:List θ) (c:Nat),c+p.sz≤m→nd (p.tok ++ r) c=some (p.toD idp c,r,c+p.sz)
theorem dL {nd:Md} {m:Nat}:∀ (ps:List Tr) (r:List θ) (c:Nat),(∀ p∈ps,Nd1 nd p m)→c+szs ps≤m→am nd (μ ps.length "node") (toks ps ++ r) c=some (toDs idp c ps,r,c+szs ps)
 | [],r,c,_,_=>rfl
 | p :: ps,r,c,h,hc=>by
   have hc:c+(p.sz+szs ps)≤m:=hc
   show am nd ("node" :: μ ps.length "node") ((p.tok ++ toks ps) ++ r) c=some (p.toD idp c :: toDs idp (c+p.sz) ps,r,c+(p.sz+szs ps))
   rw [χ,← EZ]
   exact fi (r1:=toks ps ++ r) (c1:=c+p.sz) (h p κ _ c (by omega)) (dL ps r (c+p.sz) (fun w q=>h w (υ _ q)) (by omega))
theorem sd {r:Nat} {t:Tr} (ok:Ok r t):∃ w l,t.tok=w :: l∧w≠rpS:=by
 cases ok with
 | num _ i h=>exact ⟨_,_,rfl,(nB h).2⟩
 | tru _ b=>exact ⟨_,_,rfl,by cases b <;> decide +kernel⟩
 | giv _ k h=>exact ⟨_,_,rfl,by decide +kernel⟩
 | nam _ w h=>exact ⟨_,_,rfl,(tM h).2⟩
 | nd=>exact ⟨_,_,rfl,by decide +kernel⟩
theorem i9 {nd:Md} {m:Nat}:∀ (ps:List Tr) (r:List θ) (c k:Nat),(∀ p∈ps,Nd1 nd p m∧∃ w l,p.tok=w :: l∧w≠rpS)→c+szs ps≤m→ps.length≤k→bh nd k (toks ps ++ rpS :: r) c=some (toDs idp c ps,rpS :: r,c+szs ps)
 | [],r,c,k,_,_,_=>by cases k <;> exact ZZ rfl
 | p :: ps,r,c,0,_,_,hk=>by simp at hk
 | p :: ps,r,c,k+1,h,hc,hk=>by
   have hc:c+(p.sz+szs ps)≤m:=hc
   obtain ⟨hp,w,l,e,hw⟩:=h p κ
   show bh nd (k+1) ((p.tok ++ toks ps) ++ rpS :: r) c=some (p.toD idp c :: toDs idp (c+p.sz) ps,rpS :: r,c+(p.sz+szs ps))
   rw [χ,← EZ]
   have hp:=hp (toks ps ++ rpS :: r) c (by omega)
   rw [e] at hp ⊢
   show (if w=rpS then _ else (nd (w :: (l ++ (toks ps ++ rpS :: r))) c).bind fun p=>(bh nd k p.2.1 p.2.2).map fun q=>(p.1 :: q.1,q.2))=_
   rw [ZY hw,show nd (w :: (l ++ (toks ps ++ rpS :: r))) c=_ from hp]
   show ((bh nd k (toks ps ++ rpS :: r) (c+p.sz)).map fun q=>(p.toD idp c :: q.1,q.2))=_
   rw [i9 ps r (c+p.sz) k (fun w q=>h w (υ _ q)) (by omega) (by simpa using hk)];rfl
theorem sW {i:Int} (h:i.natAbs<10 ^ 40) (c:Nat):cf (aj i) c=some (.tup [.str "whole",.int c,.int i]):=by
 have n:=eU h
 unfold cf
 rw [ZY (fun e=>by rw [e] at n;exact ZX n (by decide +kernel)),ZY (fun e=>by rw [e] at n;exact ZX n (by decide +kernel)),ZZ n]
 unfold eS
 rw [k7 h];rfl
theorem sV {w:θ} (h:Nm w) (c:Nat):cf w c=some (.tup [.str "name",.int c,.str w]):=by
 unfold cf
 rw [ZY h.2.2.1,ZY h.2.2.2,tK h,ZY (by decide),ZZ (fH h)]
theorem wW {s:θ} (h:s∈sgs):brM s=some (("do":θ),[D.str s],(["node","node"]:List θ)):=ZZ h
theorem rj {h:Hd} (c:h≠.do_):brM h.str=some (h.str,[],h.sorts):=by cases h <;> first | (exact ZX rfl c) | kernel_rfl
theorem A3 {α:Type} (a:α) (r:List θ) (c:Nat):((clM a (rpS :: r)).map fun x=>(x.1,x.2,c))=some (a,r,c):=by rw [mB];rfl
theorem jG {q c c2:Nat} (hc:c≠120) {h:θ} {r r2:List θ} {b:θ×List D×List θ} {ds:List D} (hb:brM h=some b) (ht:am (ndM q) b.2.2 r (c+1)=some (ds,rpS :: r2,c2)):ndM (q+1) (lpS :: h :: r) c=some (.tup (.str b.1 :: .int c :: (b.2.1 ++ ds)),r2,c2):=by
 rw [kY hc,hb]
 show ((am (ndM q) b.2.2 r (c+1)).bind _)=_
 rw [ht]
 exact A3 _ _ _
theorem dC:∀ (q:Nat) (t:Tr),Ok q t→Nd1 (ndM q) t 120
 | q+1,t,ok=>fun r c hc=>by
   have c0:c≠120:=fun e=>by
    have:1≤t.sz:=by cases t <;> simp [Tr.sz]
    omega
   cases ok with
   | num _ i h=>
     show ndM (q+1) (aj i :: r) c=_
     rw [eQ c0 r (nB h).1,sW h];rfl
   | tru _ b=>
     show ndM (q+1) ((if b=true then ("yes":θ) else "no") :: r) c=_
     rw [eQ c0 r (by cases b <;> decide +kernel)]
     cases b <;> rfl
   | giv _ k h=>
     show ndM (q+1) (lpS :: ("given":θ) :: (aj k :: rpS :: r)) c=_
     have hk:(k:Int).natAbs<10 ^ 40:=by show k<_;omega
     have e:am (ndM q) ["given"] (aj k :: rpS :: r) (c+1)=some ([.int k],rpS :: r,c+1):=fi (r1:=rpS :: r) (c1:=c+1) (by
      show (kE (aj k)).map (fun d=>(d,rpS :: r,c+1))=_
      unfold kE eS
      rw [k7 hk,ZZ ⟨eU hk,by show (0:Int)≤k;omega,by show (k:Int)≤7;omega⟩];rfl) rfl
     rw [jG (b:=(("given":θ),([]:List D),(["given"]:List θ))) c0 (by kernel_rfl) e];rfl
   | nam _ w h=>
     show ndM (q+1) (w :: r) c=_
     rw [eQ c0 r (tM h).1,sV h];rfl
   | nd _ h fr ks ps h1 h2 h3 h4 h5=>
     have hc:c+(1+szs ps)≤120:=hc
     have ih:∀ p∈ps,Nd1 (ndM q) p 120:=fun p m=>dC q p (h5 p m)
     have eP:=dL ps (rpS :: r) (c+1) ih (by omega)
     have eK:=fN (nd:=ndM q) ks (toks ps ++ rpS :: r) (c+1) h3
     by_cases cd:h = .do_
     ·subst cd
      unfold bI at h1
      rw [ZZ rfl] at h1
      obtain ⟨s,hs,rfl⟩:=h1
      have k0:ks = []:=â.mp h2
      subst k0
      have p2:ps.length=2:=by unfold dS at h4;rw [ZY (by decide)] at h4;exact h4
      rw [p2] at eP
      have e:((Tr.nd .do_ [s] [] ps).tok ++ r)=lpS :: s :: (toks ps ++ rpS :: r):=by
       show (lpS :: s :: ([] ++ (toks ps ++ ([rpS]:List θ)))) ++ r=_
       simp
      rw [e,jG c0 (wW hs) eP]
      show some (D.tup (.str "do" :: .int c :: ([.str s] ++ toDs idp (c+1) ps)),r,c+1+szs ps)=some (_,r,c+(1+szs ps))
      rw [← EZ];rfl
     ·have e:((Tr.nd h fr ks ps).tok ++ r)=lpS :: h.str :: (fr ++ (ks.flatMap Kd.tok ++ (toks ps ++ rpS :: r))):=by
       show (lpS :: ((h.pre ++ fr) ++ (ks.flatMap Kd.tok ++ (toks ps ++ ([rpS]:List θ))))) ++ r=_
       unfold Hd.pre
       rw [ZY cd];simp
      unfold bI at h1
      rw [ZY cd] at h1
      have eF:=fO (nd:=ndM q) fr (ks.flatMap Kd.tok ++ (toks ps ++ rpS :: r)) (c+1) h1.2
      rw [h1.1] at eF
      rw [h2] at eK
      have so:=lQ h
      have sn:h.sn = "name":=ZY cd
      rw [ZY cd,sn] at so
      have toDe:(Tr.nd h fr ks ps).toD idp c = .tup (.str h.str :: .int c :: ((sD fr ++ ks.map Kd.toD) ++ (if h = .row then [.tup (toDs idp (c+1) ps)] else toDs idp (c+1) ps))):=rfl
      have szE:c+(Tr.nd h fr ks ps).sz=c+1+szs ps:=by show c+(1+szs ps)=_;omega
      rw [e,toDe,szE]
      by_cases cr:h = .row
      ·rw [ZZ cr] at so ⊢
       have n4:ps.length≤4:=by unfold dS at h4;rw [ZZ cr] at h4;exact h4
       have eR:=i9 ps r (c+1) 4 (fun p m=>⟨ih p m,sd (h5 p m)⟩) (by omega) n4
       have eT:am (ndM q) ["nodes"] (toks ps ++ rpS :: r) (c+1)=some ([.tup (toDs idp (c+1) ps)],rpS :: r,c+1+szs ps):=fi (r1:=rpS :: r) (c1:=c+1+szs ps) (by
        show (bh (ndM q) 4 (toks ps ++ rpS :: r) (c+1)).map (fun p=>(D.tup p.1,p.2))=_
        rw [eR];rfl) rfl
       have all:=dM eF (dM eK eT)
       rw [← so] at all
       rw [jG c0 (rj cd) all,χ];rfl
      ·rw [ZY cr] at so ⊢
       have np:ps.length=h.np:=by unfold dS at h4;rw [ZY cr] at h4;exact h4
       rw [np] at eP
       have all:=dM eF (dM eK eP)
       rw [← so] at all
       rw [jG c0 (rj cd) all,χ];rfl
theorem zP {t:Tr} (ok:Ok 8 t) (hs:t.sz≤120):rdM t.tok=some (t.toD idp 0):=by
 have h:=dC 8 t ok [] 0 (by omega)
 rw [Ν] at h
 unfold rdM
 rw [h];rfl
open L2.Lx (ch ch_app ch_len)
abbrev Lt (w:θ):Prop:=∀ c∈ch w,97≤c∧c≤122
abbrev oks:List Nat:=[40,41,42,43,45,60,61,63]
def Gw (w:θ):Prop:=bL w=true∨(w.length=1∧∀ c∈ch w,c∈oks)∨(Lt w∧w.length≤8)
def bal:List θ→Int
 | []=>0
 | w :: r=>(if w=lpS then 1 else if w=rpS then -1 else 0)+bal r
theorem aF:∀ a b,bal (a ++ b)=bal a+bal b
 | [],b=>(Fm _).symm
 | w :: a,b=>by show _+bal (a ++ b)=_+bal a+bal b;rw [aF a b];omega
structure Rw (u:List θ):Prop where
 zero:bal u=0
 gw:∀ w∈u,Gw w
theorem nQ:Rw []:=⟨rfl,fun w m=>nomatch m⟩
theorem Rw.app {a b:List θ} (h:Rw a) (g:Rw b):Rw (a ++ b):=⟨by rw [aF,h.zero,g.zero];rfl,fun w m=>(Ρ.mp m).elim (h.gw w) (g.gw w)⟩
def Pw (w:θ):Prop:=Gw w∧w≠lpS∧w≠rpS
theorem Pw.rw {w:θ} (h:Pw w):Rw [w]:=⟨by show (if w=lpS then (1:Int) else if w=rpS then -1 else 0)+0=0;rw [ZY h.2.1,ZY h.2.2];rfl,fun x m=>by rw [ι.mp m];exact h.1⟩
theorem Bm:Gw lpS:=.inr (.inl ⟨by decide +kernel,by decide +kernel⟩)
theorem Bo:Gw rpS:=.inr (.inl ⟨by decide +kernel,by decide +kernel⟩)
theorem Rw.br {u:List θ} (h:Rw u):Rw (lpS :: (u ++ [rpS])):=⟨by
 show (if lpS=lpS then (1:Int) else _)+bal (u ++ [rpS])=0
 rw [ZZ rfl,aF,h.zero]
 show (1:Int)+(0+((if rpS=lpS then (1:Int) else if rpS=rpS then -1 else 0)+0))=0
 rw [ZY (by decide +kernel),ZZ rfl];rfl,fun w m=>by
 rcases φ.mp m with rfl | m
 ·exact Bm
 rcases Ρ.mp m with m | m
 ·exact h.gw w m
 ·rw [ι.mp m];exact Bo⟩
theorem jO {w:θ} (h:bL w=true):Pw w:=⟨.inl h,fun e=>by rw [e] at h;exact ZX h (by decide +kernel),fun e=>by rw [e] at h;exact ZX h (by decide +kernel)⟩
theorem jN {w:θ} (h:cg w=true):Pw w:=by
 refine ⟨?_,fun e=>by rw [e] at h;exact ZX h (by decide +kernel),fun e=>by rw [e] at h;exact ZX h (by decide +kernel)⟩
 unfold cg at h
 rw [Θ,Θ,decide_eq_true_eq] at h
 exact .inr (.inr ⟨fun c m=>(jE c).mp (of_decide_eq_true (Ψ.mp h.2.2 c m)),h.2.1.2⟩)
def ltB (w:θ):Bool:=(ch w).all (fun c=>decide (97≤c∧c≤122)) && decide (w.length≤8)
def pwB (w:θ):Bool:=(decide (w.length=1∧∀ c∈ch w,c∈oks) || ltB w) && !(w == lpS) && !(w == rpS)
theorem bS {w:θ} (h:pwB w=true):Pw w:=by
 unfold pwB at h
 rw [Θ,Θ,í,decide_eq_true_eq] at h
 refine ⟨?_,fun e=>by subst e;exact ZX h.1.2 (by decide +kernel),fun e=>by subst e;exact ZX h.2 (by decide +kernel)⟩
 rcases h.1.1 with q | q
 ·exact .inr (.inl q)
 ·unfold ltB at q
  rw [Θ,decide_eq_true_eq] at q
  exact .inr (.inr ⟨fun c m=>of_decide_eq_true (Ψ.mp q.1 c m),q.2⟩)
def S1 (ws r:List θ):Prop:=∃ u,ws=u ++ r∧Rw u
theorem S1.refl (ws:List θ):S1 ws ws:=⟨[],rfl,nQ⟩
theorem S1.trans {a b c:List θ} (h:S1 a b) (g:S1 b c):S1 a c:=by
 obtain ⟨u,rfl,hu⟩:=h
 obtain ⟨v,rfl,hv⟩:=g
 exact ⟨u ++ v,(χ ..).symm,hu.app hv⟩
theorem S1.one {w:θ} (h:Pw w) (r:List θ):S1 (w :: r) r:=⟨[w],rfl,h.rw⟩
theorem S1.br {a r:List θ} (h:S1 a (rpS :: r)):S1 (lpS :: a) r:=by
 obtain ⟨u,rfl,hu⟩:=h
 exact ⟨lpS :: (u ++ [rpS]),by simp,hu.br⟩
theorem mC {α:Type} {a:α} {ws:List θ} {p:α×List θ} (h:clM a ws=some p):ws=rpS :: p.2:=by
 cases ws with
 | nil=>cases h
 | cons x r=>
   have h:(if x=rpS then some (a,r) else none)=some p:=h
   by_cases c:x=rpS
   ·rw [ZZ c] at h;cases h;rw [c]
   ·rw [ZY c] at h;cases h
theorem yD {w:θ} {l:L3} (h:l3M w=some l):Pw w:=by
 unfold l3M at h
 by_cases c1:w = "whole"
 ·subst c1;exact bS (by decide +kernel)
 by_cases c2:w = "truth"
 ·subst c2;exact bS (by decide +kernel)
 by_cases c3:w = "?"
 ·subst c3;exact bS (by decide +kernel)
 rw [ZY c1,ZY c2,ZY c3] at h;cases h
theorem yp {w:θ} {l:H2} (h:h2M w=some l):Pw w:=by
 unfold h2M at h
 by_cases c1:w = "to"
 ·subst c1;exact bS (by decide +kernel)
 by_cases c2:w = "pair"
 ·subst c2;exact bS (by decide +kernel)
 rw [ZY c1,ZY c2] at h;cases h
theorem jy:∀ (q:Nat) (ws:List θ) (p:Kd×List θ),kdM q ws=some p→S1 ws p.2
 | 0,ws,p,h=>by cases h
 | q+1,[],p,h=>by cases h
 | q+1,w :: r,p,h=>by
   rw [kdM.eq_def] at h
   dsimp only at h
   cases e:l3M w with
   | some l=>rw [e] at h;cases h;exact .one (yD e) r
   | none=>
     rw [e] at h
     dsimp only at h
     by_cases c:w=lpS
     ·rw [ZZ c] at h;subst c
      cases r with
      | nil=>cases h
      | cons x r=>
        dsimp only at h
        by_cases c2:x = "row"
        ·rw [ZZ c2] at h;subst c2
         obtain ⟨a,h1,h2⟩:=ϊ.mp h
         have s:=jy q r a h1
         rw [mC h2] at s
         exact (S1.trans (.one (bS (by decide +kernel)) r) s).br
        ·rw [ZY c2] at h
         obtain ⟨k,h0,h⟩:=ϊ.mp h
         obtain ⟨a,h1,h⟩:=ϊ.mp h
         obtain ⟨b,h2,h3⟩:=ϊ.mp h
         have s:=(jy q r a h1).trans (jy q a.2 b h2)
         rw [mC h3] at s
         exact (S1.trans (.one (yp h0) r) s).br
     ·rw [ZY c] at h;cases h
theorem sX {w:θ} {c:Nat} {d:D} (h:cf w c=some d):Pw w:=by
 unfold cf at h
 by_cases c1:w = "yes"
 ·subst c1;exact bS (by decide +kernel)
 by_cases c2:w = "no"
 ·subst c2;exact bS (by decide +kernel)
 rw [ZY c1,ZY c2] at h
 by_cases c3:bL w=true
 ·exact jO c3
 rw [ZY c3] at h
 by_cases c4:cg w=true
 ·exact jN c4
 rw [ZY c4] at h;cases h
theorem xV {h:θ} {b} (e:brM h=some b):Pw h:=by
 unfold brM at e
 by_cases c1:h∈sgs
 ·exact bS ((by decide +kernel:∀ h∈sgs,pwB h=true) h c1)
 rw [ZY c1] at e
 by_cases c2:h∈brs
 ·exact bS ((by decide +kernel:∀ h∈brs,pwB h=true) h c2)
 rw [ZY c2] at e;cases e
def NdS (nd:Md):Prop:=∀ (ws:List θ) (c:Nat) (p),nd ws c=some p→S1 ws p.2.1
section
variable {nd:Md}
theorem pF (hn:NdS nd):∀ (k:Nat) (ws:List θ) (c:Nat) (p),bh nd k ws c=some p→S1 ws p.2.1
 | k,[],c,p,h=>by cases k <;> cases h
 | 0,w :: r,c,p,h=>by
   have h:(if w=rpS then some (([]:List D),w :: r,c) else none)=some p:=h
   by_cases e:w=rpS
   ·rw [ZZ e] at h;cases h;exact .refl _
   ·rw [ZY e] at h;cases h
 | k+1,w :: r,c,p,h=>by
   have h:(if w=rpS then some (([]:List D),w :: r,c) else (nd (w :: r) c).bind fun p=>(bh nd k p.2.1 p.2.2).map fun q=>(p.1 :: q.1,q.2))=some p:=h
   by_cases e:w=rpS
   ·rw [ZZ e] at h;cases h;exact .refl _
   ·rw [ZY e] at h
    obtain ⟨a,h1,h⟩:=ϊ.mp h
    obtain ⟨b,h2,rfl⟩:=Α.mp h
    exact (hn _ _ _ h1).trans (pF hn k _ _ b h2)
theorem Af (hn:NdS nd) {s:θ} {ws:List θ} {c:Nat} {p} (h:thM nd s ws c=some p):S1 ws p.2.1:=by
 unfold thM at h
 by_cases c1:s = "node"
 ·rw [ZZ c1] at h;exact hn _ _ _ h
 rw [ZY c1] at h
 by_cases c2:s = "nodes"
 ·rw [ZZ c2] at h
  obtain ⟨a,h1,rfl⟩:=Α.mp h
  exact pF hn 4 _ _ _ h1
 rw [ZY c2] at h
 by_cases c3:s = "kind"
 ·rw [ZZ c3] at h
  obtain ⟨a,h1,rfl⟩:=Α.mp h
  exact jy 6 ws a h1
 rw [ZY c3] at h
 cases ws with
 | nil=>cases h
 | cons w r=>
   obtain ⟨a,h1,rfl⟩:=Α.mp h
   refine .one ?_ r
   by_cases c4:s = "name"
   ·rw [ZZ c4] at h1
    unfold c8 at h1
    by_cases c5:cg w=true
    ·exact jN c5
    ·rw [ZY c5] at h1;cases h1
   ·rw [ZY c4] at h1
    unfold kE at h1
    by_cases c5:bL w=true∧0≤eS w∧eS w≤7
    ·exact jO c5.1
    ·rw [ZY c5] at h1;cases h1
theorem pN (hn:NdS nd):∀ (ss ws:List θ) (c:Nat) (p),am nd ss ws c=some p→S1 ws p.2.1
 | [],ws,c,p,h=>by cases h;exact .refl _
 | s :: ss,ws,c,p,h=>by
   rw [am] at h
   obtain ⟨a,h1,h⟩:=ϊ.mp h
   obtain ⟨b,h2,rfl⟩:=Α.mp h
   exact (Af hn h1).trans (pN hn ss _ _ b h2)
end
theorem tL:∀ q:Nat,NdS (ndM q)
 | 0=>fun ws c p h=>by cases h
 | q+1=>fun ws c p h=>by
   by_cases hc:c=120
   ·rw [ndM.eq_def] at h;dsimp only at h;rw [ZZ hc] at h;cases h
   cases ws with
   | nil=>rw [ndM.eq_def] at h;dsimp only at h;rw [ZY hc] at h;cases h
   | cons w r=>
     by_cases cw:w=lpS
     ·subst cw
      cases r with
      | nil=>
        rw [ndM.eq_def] at h;dsimp only at h;rw [ZY hc,ZZ rfl] at h;cases h
      | cons x r=>
        rw [kY hc] at h
        obtain ⟨b,h0,h⟩:=ϊ.mp h
        obtain ⟨a,h1,h⟩:=ϊ.mp h
        obtain ⟨e,h2,rfl⟩:=Α.mp h
        have s:=pN (tL q) _ _ _ _ h1
        rw [mC h2] at s
        exact (S1.trans (.one (xV h0) r) s).br
     ·rw [eQ hc r cw] at h
      obtain ⟨a,h1,rfl⟩:=Α.mp h
      exact .one (sX h1) r
theorem zO {ws:List θ} {d:D} (h:rdM ws=some d):Rw ws:=by
 unfold rdM at h
 obtain ⟨p,h1,h2⟩:=ϊ.mp h
 have h2:(if p.2.1 = [] then some p.1 else none)=some d:=h2
 by_cases c:p.2.1 = []
 ·obtain ⟨u,e,hu⟩:=tL 8 _ _ _ h1
  rw [c,Ν] at e
  rw [e];exact hu
 ·rw [ZY c] at h2;cases h2
theorem i8 {ws:List θ} (h:¬ Rw ws):rdM ws=none:=by
 cases e:rdM ws with
 | none=>rfl
 | some d=>exact ZX (zO e) h
open L2.Lx (ch ch_app ch_len)
abbrev svS:θ:="7"
def odd (o:Int) (f:Bool) (h:Hd) (m n:Nat) (l:List θ):List θ:=if (n:Int)=o then (if h = .row then l ++ μ (5 - m) svS else if f=true then l ++ [svS] else l.dropLast) else l
mutual
noncomputable def Tr.tokO (o:Int) (f:Bool):Tr→Nat→List θ
 | .nd h fr ks ps,n=>"(" :: ((h.pre ++ fr) ++ (ks.flatMap Kd.tok ++ (odd o f h ps.length n (ax o f ps (n+1)) ++ ([")"]:List θ))))
 | .num i,_=>[aj i]
 | .tru b,_=>[if b then "yes" else "no"]
 | .giv k,_=>["(","given",aj k,")"]
 | .nam w,_=>[w]
noncomputable def ax (o:Int) (f:Bool):List Tr→Nat→List θ
 | [],_=>[]
 | p :: r,n=>p.tokO o f n ++ ax o f r (n+p.sz)
end
mutual
theorem jW {o:Int} {f:Bool}:∀ (t:Tr) (n:Nat),(∀ k,n≤k→k<n+t.sz→(k:Int)≠o)→t.tokO o f n=t.tok
 | .num i,n,h=>rfl
 | .tru b,n,h=>rfl
 | .giv k,n,h=>rfl
 | .nam w,n,h=>rfl
 | .nd H fr ks ps,n,h=>by
   have e:(Tr.nd H fr ks ps).sz=1+szs ps:=rfl
   have h1:=fq (f:=f) ps (n+1) fun k a b=>h k (by omega) (by rw [e];omega)
   show lpS :: ((H.pre ++ fr) ++ (ks.flatMap Kd.tok ++ (odd o f H ps.length n (ax o f ps (n+1)) ++ ([")"]:List θ))))=lpS :: ((H.pre ++ fr) ++ (ks.flatMap Kd.tok ++ (toks ps ++ ([")"]:List θ))))
   unfold odd
   rw [ZY (h n (ύ _) (by rw [e];omega)),h1]
theorem fq {o:Int} {f:Bool}:∀ (ps:List Tr) (n:Nat),(∀ k,n≤k→k<n+szs ps→(k:Int)≠o)→ax o f ps n=toks ps
 | [],n,_=>rfl
 | p :: r,n,h=>by
   have e:szs (p :: r)=p.sz+szs r:=rfl
   show p.tokO o f n ++ ax o f r (n+p.sz)=p.tok ++ toks r
   rw [jW p n fun k a b=>h k a (by rw [e];omega),fq r (n+p.sz) fun k a b=>h k (by omega) (by rw [e];omega)]
end
mutual
noncomputable def inn (o:Nat):Tr→Nat→Prop
 | .nd _ _ _ ps,n=>o=n∨jt o ps (n+1)
 | _,_=>False
noncomputable def jt (o:Nat):List Tr→Nat→Prop
 | [],_=>False
 | p :: r,n=>inn o p n∨jt o r (n+p.sz)
end
mutual
theorem sr {o:Nat}:∀ (t:Tr) (n:Nat),inn o t n→n≤o∧o<n+t.sz
 | .nd H fr ks ps,n,h=>by
   have e:(Tr.nd H fr ks ps).sz=1+szs ps:=rfl
   rcases (h:o=n∨jt o ps (n+1)) with h | h
   ·omega
   ·have:=gk ps (n+1) h;omega
 | .num i,n,h=>h.elim
 | .tru b,n,h=>h.elim
 | .giv k,n,h=>h.elim
 | .nam w,n,h=>h.elim
theorem gk {o:Nat}:∀ (ps:List Tr) (n:Nat),jt o ps n→n≤o∧o<n+szs ps
 | p :: r,n,h=>by
   have e:szs (p :: r)=p.sz+szs r:=rfl
   rcases (h:inn o p n∨jt o r (n+p.sz)) with h | h
   ·have:=sr p n h;omega
   ·have:=gk r _ h;omega
end
theorem lJ:∀ k:Kd,Rw k.tok
 | .lf l=>(bS (by cases l <;> decide +kernel):Pw l.str).rw
 | .row a=>by
   have:=((bS (by decide +kernel):Pw "row").rw.app (lJ a)).br
   exact this
 | .two h a b=>by
   have:=((bS (by cases h <;> decide +kernel):Pw h.str).rw.app ((lJ a).app (lJ b))).br
   rw [← χ,χ] at this
   simpa [Kd.tok] using this
theorem eY {α:Type} {f:α→List θ}:∀ l:List α,(∀ a∈l,Rw (f a))→Rw (l.flatMap f)
 | [],_=>nQ
 | a :: l,h=>by rw [Á];exact (h a κ).app (eY l fun x m=>h x (υ _ m))
theorem nP:∀ l:List θ,(∀ w∈l,Pw w)→Rw l
 | [],_=>nQ
 | w :: l,h=>(h w κ).rw.app (nP l fun x m=>h x (υ _ m))
theorem B9 (h:Hd):Pw h.str:=bS (by cases h <;> decide +kernel)
theorem xH {w:θ} (h:Nm w):Pw w:=jN (fH h)
theorem xm {h:Hd} {fr:List θ} (f:bI h fr):∀ w∈h.pre ++ fr,Pw w:=by
 intro w m
 unfold bI at f
 unfold Hd.pre at m
 by_cases c:h = .do_
 ·rw [ZZ c] at f m
  obtain ⟨s,hs,rfl⟩:=f
  rw [ϛ,ι] at m
  subst m
  exact bS ((by decide +kernel:∀ h∈sgs,pwB h=true) w hs)
 ·rw [ZY c] at f m
  rcases φ.mp m with rfl | m
  ·exact B9 h
  ·exact xH (f.2 w m)
theorem lK:∀ (q:Nat) (t:Tr),Ok q t→Rw t.tok
 | q+1,t,ok=>by
   cases ok with
   | num _ i h=>exact (jO (eU h)).rw
   | tru _ b=>exact (bS (by cases b <;> decide +kernel):Pw (if b then "yes" else "no")).rw
   | giv _ k h=>exact ((bS (by decide +kernel):Pw "given").rw.app (jO (eU (i:=(k:Nat)) (by show k<_;omega))).rw).br
   | nam _ w h=>exact (xH h).rw
   | nd _ h fr ks ps h1 h2 h3 h4 h5=>
     have:=((nP _ (xm h1)).app ((eY ks fun k _=>lJ k).app (eY (f:=Tr.tok) ps fun p m=>lK q p (h5 p m)))).br
     rw [← cL] at this
     simpa [Tr.tok] using this
theorem kb {q:Nat} {ps:List Tr} (h:∀ p∈ps,Ok q p):bal (toks ps)=0:=by
 rw [cL];exact (eY ps fun p m=>lK q p (h p m)).zero
theorem BV (q c:Nat) (l:List θ):ndM q (rpS :: l) c=none:=by
 cases q with
 | zero=>rfl
 | succ q=>
   by_cases hc:c=120
   ·rw [ndM.eq_def];dsimp only;rw [ZZ hc]
   ·rw [eQ hc l (by decide +kernel),show cf rpS c=none by kernel_rfl];rfl
theorem uj (q:Nat):∀ (k c:Nat) (r:List θ),bh (ndM q) k (μ (k+1) svS ++ r) c=none
 | 0,c,r=>by show (if (svS:θ)=rpS then _ else none)=none;rw [ZY (by decide +kernel)]
 | k+1,c,r=>by
   show (if (svS:θ)=rpS then _ else (ndM q (svS :: (μ (k+1) svS ++ r)) c).bind fun p=>(bh (ndM q) k p.2.1 p.2.2).map fun q=>(p.1 :: q.1,q.2))=none
   rw [ZY (by decide +kernel)]
   cases q with
   | zero=>rfl
   | succ q=>
     by_cases hc:c=120
     ·rw [show ndM (q+1) (svS :: (μ (k+1) svS ++ r)) c=none by rw [ndM.eq_def];dsimp only;rw [ZZ hc]];rfl
     ·rw [eQ hc _ (by decide +kernel),show cf svS c=some (.tup [.str "whole",.int c,.int 7]) by kernel_rfl]
      show (bh (ndM (q+1)) k (μ (k+1) svS ++ r) (c+1)).map _=none
      rw [uj (q+1) k (c+1) r];rfl
theorem lI {nd:Md} {k c c1:Nat} {w:θ} {l ws r1:List θ} {d:D} (e:ws=w :: l) (hw:w≠rpS) (h:nd ws c=some (d,r1,c1)) (h2:bh nd k r1 c1=none):bh nd (k+1) ws c=none:=by
 subst e
 show (if w=rpS then _ else (nd (w :: l) c).bind fun p=>(bh nd k p.2.1 p.2.2).map fun q=>(p.1 :: q.1,q.2))=none
 rw [ZY hw,h]
 show (bh nd k r1 c1).map _=none
 rw [h2];rfl
theorem uf {nd:Md} {k c:Nat} {w:θ} {l ws:List θ} (e:ws=w :: l) (hw:w≠rpS) (h:nd ws c=none):bh nd (k+1) ws c=none:=by
 subst e
 show (if w=rpS then _ else (nd (w :: l) c).bind fun p=>(bh nd k p.2.1 p.2.2).map fun q=>(p.1 :: q.1,q.2))=none
 rw [ZY hw,h];rfl
theorem lH {q:Nat}:∀ (ps:List Tr) (r:List θ) (c k:Nat),(∀ p∈ps,Ok q p)→c+szs ps≤120→ps.length≤k→bh (ndM q) k (toks ps ++ (μ (k+1 - ps.length) svS ++ r)) c=none
 | [],r,c,k,_,_,_=>uj q k c r
 | p :: ps,r,c,0,_,_,hk=>by simp at hk
 | p :: ps,r,c,k+1,h,hc,hk=>by
   have hc:c+(p.sz+szs ps)≤120:=hc
   have op:=h p κ
   obtain ⟨w,l,e,hw⟩:=sd op
   show bh (ndM q) (k+1) ((p.tok ++ toks ps) ++ (μ (k+1+1 - (ps.length+1)) svS ++ r)) c=none
   rw [χ,Nat.add_sub_add_right]
   exact lI (by rw [e];rfl) hw (dC q p op _ c (by omega)) (lH ps r (c+p.sz) k (fun x m=>h x (υ _ m)) (by omega) (by simpa using hk))
abbrev bs (h:Hd):List θ:=if h = .row then ["nodes"] else μ h.np "node"
theorem im {nd:Md} {a b r r1:List θ} {c c1:Nat} {d:List D} (h:am nd a r c=some (d,r1,c1)) (h2:am nd b r1 c1=none):am nd (a ++ b) r c=none:=by
 rw [jU,h]
 show (am nd b r1 c1).map _=none
 rw [h2];rfl
theorem wg {q c:Nat} {h:Hd} {fr:List θ} {ks:List Kd} {X:List θ} (h1:bI h fr) (h2:ks.length=h.nk) (h3:∀ k∈ks,k.dep≤6) (hX:am (ndM q) (bs h) X (c+1)=none∨∃ ds w r c2,am (ndM q) (bs h) X (c+1)=some (ds,w :: r,c2)∧w≠rpS):ndM (q+1) ("(" :: ((h.pre ++ fr) ++ (ks.flatMap Kd.tok ++ X))) c=none:=by
 by_cases hc:c=120
 ·rw [ndM.eq_def];dsimp only;rw [ZZ hc]
 have fin:∀ (x:θ) (b:θ×List D×List θ) (Y:List θ),brM x=some b→(am (ndM q) b.2.2 Y (c+1)=none∨∃ ds w r c2,am (ndM q) b.2.2 Y (c+1)=some (ds,w :: r,c2)∧w≠rpS)→ndM (q+1) (lpS :: x :: Y) c=none:=fun x b Y hb hY=>by
  rw [kY hc,hb]
  show ((am (ndM q) b.2.2 Y (c+1)).bind fun p=>(clM (D.tup (.str b.1 :: .int c :: (b.2.1 ++ p.1))) p.2.1).map fun x=>(x.1,x.2,p.2.2))=none
  rcases hY with e | ⟨ds,w,r,c2,e,hw⟩
  ·rw [e];rfl
  ·rw [e]
   show ((if w=rpS then some (D.tup _,r) else none).map fun x=>(x.1,x.2,c2))=none
   rw [ZY hw];rfl
 by_cases cd:h = .do_
 ·subst cd
  unfold bI at h1
  rw [ZZ rfl] at h1
  obtain ⟨s,hs,rfl⟩:=h1
  have k0:ks = []:=â.mp h2
  subst k0
  exact fin s _ X (wW hs) hX
 ·unfold bI at h1
  rw [ZY cd] at h1
  have e:("(" :: ((h.pre ++ fr) ++ (ks.flatMap Kd.tok ++ X)):List θ)=lpS :: h.str :: (fr ++ (ks.flatMap Kd.tok ++ X)):=by unfold Hd.pre;rw [ZY cd];rfl
  rw [e]
  have so:=lQ h
  have sn:h.sn = "name":=ZY cd
  rw [ZY cd,sn] at so
  have eF:=fO (nd:=ndM q) fr (ks.flatMap Kd.tok ++ X) (c+1) h1.2
  have eK:=fN (nd:=ndM q) ks X (c+1) h3
  rw [h1.1] at eF
  rw [h2] at eK
  refine fin h.str _ _ (rj cd) ?_
  show am (ndM q) h.sorts _ _=none∨∃ ds w r c2,am (ndM q) h.sorts _ _=some (ds,w :: r,c2)∧w≠rpS
  rw [so]
  rcases hX with hX | ⟨ds,w,r,c2,hX,hw⟩
  ·exact .inl (im eF (im eK hX))
  ·exact .inr ⟨_,w,r,c2,dM eF (dM eK hX),hw⟩
open L2.Lx (ch ch_app ch_len)
theorem pO {r:Nat} {t:Tr} (ok:Ok r t) (o:Int) (f:Bool) (n:Nat):∃ w l,t.tokO o f n=w :: l∧w≠rpS:=by
 cases ok with
 | num _ i h=>exact ⟨_,_,rfl,(nB h).2⟩
 | tru _ b=>exact ⟨_,_,rfl,by cases b <;> decide +kernel⟩
 | giv _ k h=>exact ⟨_,_,rfl,by decide +kernel⟩
 | nam _ w h=>exact ⟨_,_,rfl,(tM h).2⟩
 | nd=>exact ⟨_,_,rfl,by decide +kernel⟩
theorem k8 {q:Nat} (ih:∀ t,Ok q t→∀ (n o:Nat) (f:Bool),inn o t n→bal (t.tokO o f n)=1∨∀ r c,c+t.sz≤120→ndM q (t.tokO o f n ++ r) c=none):∀ (ps:List Tr),(∀ p∈ps,Ok q p)→∀ (n o:Nat) (f:Bool),jt o ps n→bal (ax o f ps n)=1∨∀ r c,c+szs ps≤120→am (ndM q) (μ ps.length "node") (ax o f ps n ++ r) c=none∧∀ k,ps.length≤k→bh (ndM q) k (ax o f ps n ++ r) c=none
 | p :: ps,h,n,o,f,hi=>by
   have op:=h p κ
   have hs:=fun x m=>h x (υ p m)
   have tE:ax o f (p :: ps) n=p.tokO o f n ++ ax o f ps (n+p.sz):=rfl
   have sE:szs (p :: ps)=p.sz+szs ps:=rfl
   rcases (hi:inn o p n∨jt o ps (n+p.sz)) with hi | hi
   ·have rng:=sr p n hi
    have e:=fq (o:=o) (f:=f) ps (n+p.sz) fun k a b=>by omega
    rw [tE,e]
    rcases ih p op n o f hi with g | g
    ·left;rw [aF,g,kb hs];rfl
    ·right
     intro r c hc
     rw [χ]
     have g:=g (toks ps ++ r) c (by omega)
     refine ⟨?_,fun k hk=>?_⟩
     ·show (ndM q (p.tokO o f n ++ (toks ps ++ r)) c).bind _=none
      rw [g];rfl
     ·obtain ⟨w,l,e2,hw⟩:=pO op o f n
      cases k with
      | zero=>simp at hk
      | succ k=>exact uf (w:=w) (l:=l ++ (toks ps ++ r)) (by rw [e2];rfl) hw g
   ·have rng:=gk ps _ hi
    have e:=jW (o:=o) (f:=f) p n fun k a b=>by omega
    rw [tE,e]
    rcases k8 ih ps hs (n+p.sz) o f hi with g | g
    ·left;rw [aF,g,(lK q p op).zero];rfl
    ·right
     intro r c hc
     rw [χ]
     have g:=g r (c+p.sz) (by omega)
     have np:=dC q p op (ax o f ps (n+p.sz) ++ r) c (by omega)
     refine ⟨?_,fun k hk=>?_⟩
     ·show (ndM q (p.tok ++ (ax o f ps (n+p.sz) ++ r)) c).bind (fun p=>(am (ndM q) (μ ps.length "node") p.2.1 p.2.2).map fun q=>(p.1 :: q.1,q.2))=none
      rw [np]
      show (am (ndM q) (μ ps.length "node") (ax o f ps (n+p.sz) ++ r) (c+p.sz)).map _=none
      rw [g.1];rfl
     ·obtain ⟨w,l,e2,hw⟩:=sd op
      cases k with
      | zero=>simp at hk
      | succ k=>exact lI (w:=w) (l:=l ++ (ax o f ps (n+p.sz) ++ r)) (by rw [e2];rfl) hw np (g.2 k (by simpa using hk))
theorem vw {q:Nat} {t:Tr} (ok:Ok q t):(∃ w,t.tok = [w])∨∃ u,t.tok=u ++ [rpS]:=by
 cases ok with
 | num _ i h=>exact .inl ⟨_,rfl⟩
 | tru _ b=>exact .inl ⟨_,rfl⟩
 | giv _ k h=>exact .inr ⟨["(","given",aj k],rfl⟩
 | nam _ w h=>exact .inl ⟨_,rfl⟩
 | nd _ h fr ks ps=>exact .inr ⟨lpS :: ((h.pre ++ fr) ++ (ks.flatMap Kd.tok ++ toks ps)),by
  show lpS :: ((h.pre ++ fr) ++ (ks.flatMap Kd.tok ++ (toks ps ++ ([")"]:List θ))))=_
  simp⟩
theorem lX (a b:List Tr):toks (a ++ b)=toks a ++ toks b:=by rw [cL,cL,cL,Ũ]
theorem rc {A K L:List θ} (hA:bal A=0) (hK:bal K=0):bal (lpS :: (A ++ (K ++ (L ++ ([")"]:List θ)))))=bal L:=by
 show (if lpS=lpS then (1:Int) else _)+bal (A ++ (K ++ (L ++ [rpS])))=_
 rw [ZZ rfl,aF,aF,aF,hA,hK]
 show (1:Int)+(0+(0+(bal L+((if rpS=lpS then (1:Int) else if rpS=rpS then -1 else 0)+0))))=_
 rw [ZY (by decide +kernel),ZZ rfl];omega
theorem rr {h:Hd} (c:h = .row):bs h=(["nodes"]:List θ):=ZZ c
theorem rq {h:Hd} (c:h≠.row):bs h=μ h.np ("node":θ):=ZY c
theorem tW:∀ (q:Nat) (t:Tr),Ok q t→∀ (n o:Nat) (f:Bool),inn o t n→bal (t.tokO o f n)=1∨∀ r c,c+t.sz≤120→ndM q (t.tokO o f n ++ r) c=none
 | q+1,t,ok,n,o,f,hi=>by
   cases ok with
   | num=>exact hi.elim
   | tru=>exact hi.elim
   | giv=>exact hi.elim
   | nam=>exact hi.elim
   | nd _ h fr ks ps h1 h2 h3 h4 h5=>
     have bA:bal (h.pre ++ fr)=0:=(nP _ (xm h1)).zero
     have bK:bal (ks.flatMap Kd.tok)=0:=(eY ks fun k _=>lJ k).zero
     have tE:(Tr.nd h fr ks ps).tokO o f n=lpS :: ((h.pre ++ fr) ++ (ks.flatMap Kd.tok ++ (odd o f h ps.length n (ax o f ps (n+1)) ++ ([")"]:List θ)))):=rfl
     have sE:(Tr.nd h fr ks ps).sz=1+szs ps:=rfl
     have go:∀ L:List θ,(∀ r c,c+(1+szs ps)≤120→am (ndM q) (bs h) (L ++ rpS :: r) (c+1)=none∨∃ ds w r2 c2,am (ndM q) (bs h) (L ++ rpS :: r) (c+1)=some (ds,w :: r2,c2)∧w≠rpS)→∀ r c,c+(Tr.nd h fr ks ps).sz≤120→ndM (q+1) (lpS :: ((h.pre ++ fr) ++ (ks.flatMap Kd.tok ++ (L ++ ([")"]:List θ)))) ++ r) c=none:=fun L hL r c hc=>by
      have e:((lpS :: ((h.pre ++ fr) ++ (ks.flatMap Kd.tok ++ (L ++ ([")"]:List θ))))) ++ r:List θ)=lpS :: ((h.pre ++ fr) ++ (ks.flatMap Kd.tok ++ (L ++ rpS :: r))):=by simp
      rw [e]
      exact wg h1 h2 h3 (hL r c (by rw [← sE];exact hc))
     rw [tE]
     rcases (hi:o=n∨jt o ps (n+1)) with rfl | hi
     ·have e:=fq (o:=o) (f:=f) ps (o+1) fun k a b=>by omega
      rw [e]
      unfold odd
      rw [ZZ rfl]
      by_cases cr:h = .row
      ·rw [ZZ cr]
       right
       refine go _ fun r c hc=>.inl ?_
       have n4:ps.length≤4:=by unfold dS at h4;rw [ZZ cr] at h4;exact h4
       have g:=lH ps (rpS :: r) (c+1) 4 h5 (by omega) n4
       rw [rr cr,χ]
       show ((bh (ndM q) 4 (toks ps ++ (μ (5 - ps.length) svS ++ rpS :: r)) (c+1)).map fun p=>(D.tup p.1,p.2)).bind _=none
       rw [g];rfl
      ·rw [ZY cr]
       have np:ps.length=h.np:=by unfold dS at h4;rw [ZY cr] at h4;exact h4
       have ih:∀ p∈ps,Nd1 (ndM q) p 120:=fun p m=>dC q p (h5 p m)
       cases f with
       | true=>
         rw [ZZ rfl]
         right
         refine go _ fun r c hc=>.inr ?_
         have eP:=dL ps (svS :: rpS :: r) (c+1) ih (by omega)
         rw [rq cr,← np,χ]
         exact ⟨_,_,_,_,eP,by decide +kernel⟩
       | false=>
         rw [ZY (by decide)]
         have p1:1≤ps.length:=by rw [np];cases h <;> first | exact ZX rfl cr | decide
         rcases ŕ ps with rfl | ⟨ps0,p,e0⟩
         ·simp at p1
         rw [ŗ] at e0
         subst e0
         have op:=h5 p (by simp)
         have o0:∀ x∈ps0,Ok q x:=fun x m=>h5 x (by simp [m])
         rcases vw op with ⟨w,ew⟩ | ⟨u,eu⟩
         ·right
          have ed:(toks (ps0 ++ [p])).dropLast=toks ps0:=by
           rw [lX,show toks [p]=p.tok ++ [] from rfl,ew,Ν];exact ö
          rw [ed]
          refine go _ fun r c hc=>.inl ?_
          have sz:szs (ps0 ++ [p])=szs ps0+p.sz:=by
           have:∀ l:List Tr,szs (l ++ [p])=szs l+p.sz:=fun l=>by
            induction l with
            | nil=>show p.sz+0=0+p.sz;omega
            | cons x l ih=>show x.sz+szs (l ++ [p])=x.sz+szs l+p.sz;rw [ih];omega
           exact this ps0
          have eP:=dL ps0 (rpS :: r) (c+1) (fun x m=>dC q x (o0 x m)) (by omega)
          rw [rq cr,← np,ζ,ω,List.replicate_succ']
          refine im eP ?_
          show (ndM q (rpS :: r) (c+1+szs ps0)).bind _=none
          rw [BV];rfl
         ·left
          have ed:(toks (ps0 ++ [p])).dropLast=toks ps0 ++ u:=by
           rw [lX,show toks [p]=p.tok ++ [] from rfl,eu,Ν,← χ];exact ö
          rw [ed,rc bA bK,aF,kb o0]
          have b:=(lK q p op).zero
          rw [eu,aF] at b
          have c1:bal [rpS] = -1:=by decide +kernel
          omega
     ·have rng:=gk ps _ hi
      have e:∀ l,odd o f h ps.length n l=l:=fun l=>by unfold odd;rw [ZY (by omega)]
      rw [e]
      rcases k8 (fun t ok n o f=>tW q t ok n o f) ps h5 (n+1) o f hi with g | g
      ·left;rw [rc bA bK,g]
      ·right
       refine go _ fun r c hc=>.inl ?_
       have g:=g (rpS :: r) (c+1) (by omega)
       by_cases cr:h = .row
       ·have n4:ps.length≤4:=by unfold dS at h4;rw [ZZ cr] at h4;exact h4
        rw [rr cr]
        show ((bh (ndM q) 4 (ax o f ps (n+1) ++ rpS :: r) (c+1)).map fun p=>(D.tup p.1,p.2)).bind _=none
        rw [g.2 4 n4];rfl
       ·have np:ps.length=h.np:=by unfold dS at h4;rw [ZY cr] at h4;exact h4
        rw [rq cr,← np];exact g.1
theorem zN {t:Tr} (ok:Ok 8 t) (hs:t.sz≤120) {o:Nat} {f:Bool} (hi:inn o t 0):rdM (t.tokO o f 0)=none:=by
 rcases tW 8 t ok 0 o f hi with g | g
 ·exact i8 fun h=>by have:=h.zero;omega
 ·have g:=g [] 0 (by omega)
  rw [Ν] at g
  unfold rdM
  rw [g];rfl
open L2.Lx (ch ch_app ch_len Tok Con Br)
theorem Ok.up:∀ (r:Nat) (t:Tr),Ok r t→Ok (r+1) t
 | r+1,t,ok=>by
   cases ok with
   | num _ i h=>exact .num _ i h
   | tru _ b=>exact .tru _ b
   | giv _ k h=>exact .giv _ k h
   | nam _ w h=>exact .nam _ w h
   | nd _ h fr ks ps h1 h2 h3 h4 h5=>exact .nd _ h fr ks ps h1 h2 h3 h4 fun p m=>Ok.up r p (h5 p m)
structure Kx (w:θ):Prop where
 len:w.length≤60
 tok:Tok (ch w)
 asc:∀ c∈ch w,c<128
theorem sI {w:θ} (h:Kw w):Kx w:=⟨by have:=h.len;omega,h.tok,h.asc⟩
structure Rf (ws:List θ):Prop where
 len:∀ w∈ws,w.length≤60
 few:ws.length≤1200
 no:(∀ w∈a8 (aO ws),Aw w)∧rdM (a8 (aO ws))=none
theorem b5 {ws:List θ} (h:∀ w∈ws,Tok (ch w)):a8 (aO ws)=ws:=l5 (mM ws h).lex
theorem hU {ws:List θ} (h:∀ w∈ws,Kx w) (hl:ws.length≤1200) (hn:rdM ws=none):Rf ws:=by
 refine ⟨fun w m=>(h w m).len,hl,?_⟩
 rw [b5 fun w m=>(h w m).tok]
 exact ⟨fun w m=>⟨by have:=(h w m).len;omega,(h w m).asc⟩,hn⟩
structure Gd (t:Tr):Prop where
 ok:Ok 8 t
 sz:t.sz≤120
 len:t.tok.length≤1100
theorem Gd.kx {t:Tr} (g:Gd t):∀ w∈t.tok,Kx w:=fun w m=>sI (jX 8 t g.ok w m)
theorem Gd.bal {t:Tr} (g:Gd t):bal t.tok=0:=(lK 8 t g.ok).zero
theorem j9 {a b:List D} (h:a.length+b.length≤100000):opD .add (.lst a) (.lst b)=some (.lst (a ++ b)):=by show eA _ _=_;unfold eA;rw [ZZ h]
theorem mF (ws:List θ) (i:Nat) (h:i≤ws.length):Ev.cutD (sD ws) none (some (i:Int))=sD (ws.take i):=by
 unfold Ev.cutD
 have e:HT.sIx (sD ws).length (sD ws).length (some (i:Int))=i:=by
  show (if (i:Int)<0 then ((i:Int)+((sD ws).length:Int)).toNat else min (i:Int).toNat (sD ws).length)=i
  rw [ZY (by omega),ο];omega
 rw [e]
 show ((sD ws).drop 0).take (i - 0)=_
 rw [ĉ,Ĥ]
 exact Hk.symm
theorem gG (ws:List θ) (i:Nat) (h:i≤ws.length):Ev.cutD (sD ws) (some (i:Int)) none=sD (ws.drop i):=by
 unfold Ev.cutD
 have e:HT.sIx (sD ws).length 0 (some (i:Int))=i:=by
  show (if (i:Int)<0 then ((i:Int)+((sD ws).length:Int)).toNat else min (i:Int).toNat (sD ws).length)=i
  rw [ZY (by omega),ο];omega
 rw [e]
 show ((sD ws).drop i).take ((sD ws).length - i)=_
 rw [ç (by rw [ϖ];omega)]
 exact Hl.symm
theorem cZ (a:Int) {b:Int} (hb:0<b∧b<2 ^ 200):opD .fdiv (.int a) (.int b)=some (.int (a / b)):=by show (if 0<b∧b<2 ^ 200 then some (D.int (a / b)) else none)=_;rw [ZZ hb]
theorem aY {a b k:Int} (h:a % b=k) (hb:0<b):opD .mod (.int a) (.int b)=some (.int k):=by show (if 0<b then some (D.int (a % b)) else none)=_;rw [ZZ hb,h]
theorem bF:∀ l:List θ,aU (sD l)=true
 | []=>rfl
 | a :: l=>by show (true && aU (sD l))=true;rw [bF l];rfl
theorem eJ (a:Int) (b:Nat) (hb:0<b):∃ r:Nat,r<b∧opD .mod (.int a) (.int (b:Nat))=some (.int (r:Nat)):=by
 have h1:=Ep a (b:=(b:Int)) (by omega)
 have h2:=Ź a (b:=(b:Int)) (by omega)
 exact ⟨(a % (b:Int)).toNat,by omega,aY (by omega) (by omega)⟩
def br:Nat→List θ→List Nat
 | _,[]=>[]
 | i,w :: r=>if cF w=true then i :: br (i+1) r else br (i+1) r
abbrev brD (l:List Nat):List D:=l.map fun (j:Nat)=>D.int j
theorem rp:∀ (ws:List θ) (i j:Nat),j∈br i ws→∃ w,i≤j∧ws[j - i]? = some w∧cF w=true
 | w :: ws,i,j,h=>by
   have go:j∈br (i+1) ws→∃ w',i≤j∧(w :: ws)[j - i]? = some w'∧cF w'=true:=fun h=>by
    obtain ⟨y,h1,h2,h3⟩:=rp ws (i+1) j h
    refine ⟨y,by omega,?_,h3⟩
    rw [show j - i=(j - (i+1))+1 by omega,ã];exact h2
   unfold br at h
   split at h
   ·rename_i b
    rcases φ.mp h with rfl | h
    ·exact ⟨w,ύ _,by rw [Ď];rfl,b⟩
    ·exact go h
   ·exact go h
theorem Bz (w:θ):opD .isin (.str w) (.tup [.str lpS,.str rpS])=some (.bl (cF w)):=by
 have:=mK [lpS,rpS] w
 rw [show (.tup [.str lpS,.str rpS]:D) = .tup (sD [lpS,rpS]) from rfl,this]
 refine ZS (fun b=>some (D.bl b)) (ě.mpr ?_)
 unfold cF
 rw [decide_eq_true_eq,í,beq_iff_eq,beq_iff_eq];simp
abbrev bE:E:=.v 0
abbrev bC:E:=.op .isin (.v 1) (.tup (.cons (.c (.str lpS)) (.cons (.c (.str rpS)) .nil)))
theorem jg {m:Nat} (E0:List (Option D)):∀ (ws:List θ) (i:Nat) (acc:List D) (e f:Option D),acc.length+ws.length<90000→∃ e' f':Option D,bx (lcQ Γ (af Γ m) (ao Γ m) [0,1] false bE bC) (cY (i:Nat) (sD ws)) acc ⟨e :: f :: E0,[],[]⟩ = .ok (.lst (acc ++ brD (br i ws))) ⟨e' :: f' :: E0,[],[]⟩
 | [],i,acc,e,f,_=>⟨e,f,by show Out.ok _ _=_;rw [show acc ++ brD (br i [])=acc from Ν _]⟩
 | w :: ws,i,acc,e,f,hl=>by
   simp only [ψ] at hl
   have ib:=Bz w
   have cd:ev Γ (af Γ m) (ao Γ m) true bC ⟨some (.int (i:Nat)) :: some (.str w) :: E0,[],[]⟩ = .ok (.bl (cF w)) ⟨some (.int (i:Nat)) :: some (.str w) :: E0,[],[]⟩:=(fY false (aX 0 (ib) aZ) (by kernel_rfl))
   unfold br
   cases b:cF w with
   | false=>
     obtain ⟨e',f',h⟩:=jg E0 ws (i+1) acc (some (.int (i:Nat))) (some (.str w)) (by omega)
     rw [b] at cd
     exact ⟨e',f',jC (mR rfl cd) h⟩
   | true=>
     obtain ⟨e',f',h⟩:=jg E0 ws (i+1) (acc ++ [.int (i:Nat)]) (some (.int (i:Nat))) (some (.str w)) (by rw [ζ,ω];omega)
     rw [b] at cd
     have el:ev Γ (af Γ m) (ao Γ m) false bE ⟨some (.int (i:Nat)) :: some (.str w) :: E0,[],[]⟩ = .ok (.int (i:Nat)) ⟨some (.int (i:Nat)) :: some (.str w) :: E0,[],[]⟩:=rfl
     rw [χ] at h
     exact ⟨e',f',cR (d6 rfl cd el) (by omega) h⟩
theorem kA:∀ l:List Nat,flTs (brD l)=true
 | []=>rfl
 | a :: l=>by show (true && flTs (brD l))=true;rw [kA l];rfl
theorem ra {w:θ} (h:cF w=true):bal [w]=1∨bal [w] = -1:=by
 unfold cF at h
 rw [í,beq_iff_eq,beq_iff_eq] at h
 rcases h with rfl | rfl
 ·exact .inl (by decide +kernel)
 ·exact .inr (by decide +kernel)
theorem AA {w:θ} (h:cF w=true):Kx w:=by
 unfold cF at h
 rw [í,beq_iff_eq,beq_iff_eq] at h
 rcases h with rfl | rfl
 ·exact sI kN
 ·exact sI kO
section
variable {R:List O} {t:Tr} {n:Nat}
theorem yu (g:Gd t) (i:Nat) {b:θ} (hb:cF b=true):Rf (t.tok.take i ++ ([b]:List θ) ++ t.tok.drop i):=by
 refine hU (fun w m=>?_) ?_ (i8 fun h=>?_)
 ·rw [χ,Ρ,Ρ,ι] at m
  rcases m with m | rfl | m
  ·exact g.kx w (ϯ m)
  ·exact AA hb
  ·exact g.kx w (Ϥ m)
 ·have:=g.len
  rw [ζ,ζ,Ϡ,ω,ϖ];omega
 ·have z:=h.zero
  have z2:=g.bal
  rw [← Fk i t.tok,aF] at z2
  rw [aF,aF] at z
  rcases ra hb with q | q <;> omega
theorem uo {ws:List θ} {i:Nat} {w:θ} (h:ws[i]? = some w):ws=ws.take i ++ w :: ws.drop (i+1):=by
 obtain ⟨h1,rfl⟩:=ν.mp h
 rw [← ı h1,Fk]
theorem yg (g:Gd t) {i:Nat} {b:θ} (hi:t.tok[i]? = some b) (hb:cF b=true):Rf (t.tok.take i ++ t.tok.drop (i+1)):=by
 refine hU (fun w m=>?_) ?_ (i8 fun h=>?_)
 ·rcases Ρ.mp m with m | m
  ·exact g.kx w (ϯ m)
  ·exact g.kx w (Ϥ m)
 ·have:=g.len
  rw [ζ,Ϡ,ϖ];omega
 ·have z:=h.zero
  have z2:=g.bal
  rw [uo hi,aF] at z2
  rw [aF] at z
  have e:bal (b :: t.tok.drop (i+1))=bal [b]+bal (t.tok.drop (i+1)):=aF [b] _
  rw [e] at z2
  rcases ra hb with q | q <;> omega
theorem ro (g:Gd t) (c:Int):∃ ws,Rf ws∧af Γ (n+1) bt [.ref 0,.int c] (.lst (sD t.tok) :: R) = .ok (.lst (sD ws)) (.lst (sD t.tok) :: R):=by
 have hl:=g.len
 obtain ⟨e,f,lp⟩:=jg (m:=n) [some (.lst (sD t.tok)),some (.int c),none,none] t.tok 0 [] none none (by simp only [Ϧ];omega)
 rw [ϛ] at lp
 have fl:flX true (.lst (brD (br 0 t.tok)))=true:=kA _
 have z4:=cZ c (b:=4) (by decide)
 have z2:=cZ c (b:=2) (by decide)
 have A:∀ (b:θ),cF b=true→∀ r:Nat,r≤t.tok.length→(∀ (a1:opD .add (.lst (Ev.cutD (sD t.tok) none (some (r:Int)))) (.lst [.str b])=some (.lst (sD (t.tok.take r ++ ([b]:List θ))))) (a2:opD .add (.lst (sD (t.tok.take r ++ ([b]:List θ)))) (.lst (Ev.cutD (sD t.tok) (some (r:Int)) none))=some (.lst (sD (t.tok.take r ++ ([b]:List θ) ++ t.tok.drop r)))),af Γ (n+1) bt [.ref 0,.int c] (.lst (sD t.tok) :: R) = .ok (.lst (sD (t.tok.take r ++ ([b]:List θ) ++ t.tok.drop r))) (.lst (sD t.tok) :: R))→∃ ws,Rf ws∧af Γ (n+1) bt [.ref 0,.int c] (.lst (sD t.tok) :: R) = .ok (.lst (sD ws)) (.lst (sD t.tok) :: R):=fun b hb r hr k=>⟨_,yu g r hb,k (by rw [mF _ _ hr,bW];exact j9 (by rw [ο,Ϡ];simp only [ω];omega)) (by rw [gG _ _ hr,bW (_ ++ _)];exact j9 (by rw [ο,ζ,Ϡ,ω,ο,ϖ];omega))⟩
 obtain ⟨r,hr,mr⟩:=eJ (c / 4) (t.tok.length+1) (by omega)
 have mr:opD .mod (.int (c / 4)) (.int (((sD t.tok).length:Int)+1))=some (.int (r:Nat)):=by rw [ο];exact mr
 have h2:c / 2 % 2=0∨c / 2 % 2=1:=by omega
 have B:(br 0 t.tok = []∨c % 2=0)→∃ ws,Rf ws∧af Γ (n+1) bt [.ref 0,.int c] (.lst (sD t.tok) :: R) = .ok (.lst (sD ws)) (.lst (sD t.tok) :: R):=fun h=>by
  by_cases hb:br 0 t.tok = []
  ·have e1:opD .eq (.lst (brD (br 0 t.tok))) (.lst [])=some (.bl true):=by rw [hb];rfl
   rcases h2 with h2 | h2
   ·have m2:=aY h2 (by decide)
    exact A lpS rfl r (by omega) fun a1 a2=>(aa true (aX 0 (bF t.tok) (aX 0 (lp) (aX 0 (fl) (aX 0 (e1) (aX 2 (z4) (aX 2 (mr) (aX 1 (z2) (aX 0 (m2) (aX 1 (a1) (aX 1 (a2) aZ)))))))))) (by kernel_rfl))
   ·have m2:=aY h2 (by decide)
    exact A rpS rfl r (by omega) fun a1 a2=>(aa true (aX 0 (bF t.tok) (aX 0 (lp) (aX 0 (fl) (aX 0 (e1) (aX 2 (z4) (aX 2 (mr) (aX 1 (z2) (aX 0 (m2) (aX 1 (a1) (aX 1 (a2) aZ)))))))))) (by kernel_rfl))
  ·have e1:opD .eq (.lst (brD (br 0 t.tok))) (.lst [])=some (.bl false):=by cases q:br 0 t.tok with
    | nil=>exact ZX q hb
    | cons a b=>rfl
   have m0:=aY (h.resolve_left hb) (by decide)
   rcases h2 with h2 | h2
   ·have m2:=aY h2 (by decide)
    exact A lpS rfl r (by omega) fun a1 a2=>(aa true (aX 0 (bF t.tok) (aX 0 (lp) (aX 0 (fl) (aX 0 (e1) (aX 1 (m0) (aX 2 (z4) (aX 2 (mr) (aX 1 (z2) (aX 0 (m2) (aX 1 (a1) (aX 1 (a2) aZ))))))))))) (by kernel_rfl))
   ·have m2:=aY h2 (by decide)
    exact A rpS rfl r (by omega) fun a1 a2=>(aa true (aX 0 (bF t.tok) (aX 0 (lp) (aX 0 (fl) (aX 0 (e1) (aX 1 (m0) (aX 2 (z4) (aX 2 (mr) (aX 1 (z2) (aX 0 (m2) (aX 1 (a1) (aX 1 (a2) aZ))))))))))) (by kernel_rfl))
 by_cases hB:br 0 t.tok = []∨c % 2=0
 ·exact B hB
 have hb:br 0 t.tok≠[]:=fun q=>hB (.inl q)
 have m0:=aY (a:=c) (b:=2) (k:=1) (by have:¬ c % 2=0:=fun q=>hB (.inr q);omega) (by decide)
 have e1:opD .eq (.lst (brD (br 0 t.tok))) (.lst [])=some (.bl false):=by cases q:br 0 t.tok with
  | nil=>exact ZX q hb
  | cons a b=>rfl
 have ln:0<(br 0 t.tok).length:=ù.mpr hb
 obtain ⟨s,hs,ms⟩:=eJ (c / 2) (br 0 t.tok).length ln
 have ms:opD .mod (.int (c / 2)) (.int ((brD (br 0 t.tok)).length:Nat))=some (.int (s:Nat)):=by rw [ο];exact ms
 obtain ⟨j,hj⟩:∃ j,(br 0 t.tok)[s]? = some j:=⟨_,Ζ hs⟩
 have i1:ixD (.lst (brD (br 0 t.tok))) (.int (s:Nat))=some (.int (j:Nat)):=bq (by rw [ϑ,hj];rfl)
 obtain ⟨w,_,hw,bw⟩:=rp t.tok 0 j (Ι hj)
 rw [Ĥ] at hw
 have jl:j<t.tok.length:=(ν.mp hw).1
 have c1:(j:Int)+1=((j+1:Nat):Int):=by omega
 have ad:opD .add (.lst (Ev.cutD (sD t.tok) none (some (j:Int)))) (.lst (Ev.cutD (sD t.tok) (some ((j:Int)+1)) none))=some (.lst (sD (t.tok.take j ++ t.tok.drop (j+1)))):=by
  rw [mF _ _ (by omega),c1,gG _ _ (by omega),bW]
  exact j9 (by rw [ο,ο,Ϡ,ϖ];omega)
 exact ⟨_,yg g hw bw,(aa true (aX 0 (bF t.tok) (aX 0 (lp) (aX 0 (fl) (aX 0 (e1) (aX 1 (m0) (aX 2 (z2) (aX 1 (ms) (aX 0 (i1) (aX 3 (ad) aZ))))))))) (by kernel_rfl))⟩
end
end L2.K15
end
section
set_option exponentiation.threshold 300
namespace L2.K15
open L2.Bk L2.Ev
open L2.Lx (ch ch_app ch_len Tok Con Br)
def Bw (w:θ):Prop:=Kx w∧¬ Gw w
theorem xQ {w:θ} (h1:bL w=false) (h2:2≤w.length) (h3:(∃ c∈ch w,c<97)∨9≤w.length):¬ Gw w:=fun g=>by
 rcases g with g | g | g
 ·rw [h1] at g;cases g
 ·have:=g.1;omega
 ·rcases h3 with ⟨c,m,h3⟩ | h3
  ·have:=g.1 c m;omega
  ·have:=g.2;omega
theorem xx {w:θ} (h:1≤w.length∧w.length≤60) (hc:∀ c∈ch w,42≤c∧c<128):Kx w:=by
 obtain ⟨a,r,e⟩:=kg h.1
 exact ⟨h.2,.inr (.inr ⟨by rw [e];simp,fun x m=>by have:=hc x m;omega⟩),fun c m=>(hc c m).2⟩
theorem fJ {w:θ} (h:∃ c∈bf (ch w),c<48∨57<c):bL w=false:=by
 obtain ⟨c,m,h⟩:=h
 have:dD FIG (bf (ch w))=false:=by
  rw [ſ]
  intro q
  have:=(jn c).mp (of_decide_eq_true (Ψ.mp q c m))
  omega
 unfold bL
 rw [this];simp
theorem tO {w:θ} (h:40<(bf (ch w)).length):bL w=false:=by
 unfold bL
 rw [ZV (fun q=>by omega)];rfl
theorem BZ {w:θ} (h:(bf (ch w)).head? = some 48) (hl:2≤w.length):bL w=false:=by
 have:(w == "0")=false:=ZU.mpr fun e=>by rw [e] at hl;exact ZX hl (by decide +kernel)
 unfold bL
 rw [this,ZW h];simp
def bwB (w:θ):Bool:=decide (1≤w.length∧w.length≤60) && (ch w).all (fun c=>decide (42≤c∧c<128)) && !(bL w || decide (w.length=1) || ltB w)
theorem AC {w:θ} (h:bwB w=true):Bw w:=by
 unfold bwB at h
 rw [Θ,Θ,decide_eq_true_eq] at h
 refine ⟨xx h.1.1 fun c m=>of_decide_eq_true (Ψ.mp h.1.2 c m),fun g=>?_⟩
 have h2:=h.2
 rcases g with g | g | g
 ·rw [g] at h2;simp at h2
 ·rw [ZW g.1] at h2;simp at h2
 ·have:ltB w=true:=by
   unfold ltB
   rw [Θ,decide_eq_true_eq]
   exact ⟨Ψ.mpr fun c m=>ZW (g.1 c m),g.2⟩
  rw [this] at h2;simp at h2
theorem cV (w:θ) (k:Nat) (h:k≤w.length):ch (Ϗ w (some (k:Int)) none)=(ch w).drop k:=by
 have e:Ϗ w (some (k:Int)) none=ë w (some (k:Int)) (some (w.length:Int)):=by
  unfold Ϗ ë
  rw [Ei]
 rw [e,Ņ w h (ύ _)]
 show ((ch w).drop k).take (w.length - k)=_
 rw [ç]
 rw [ϖ,← ch_len];exact ύ _
theorem lP (w:θ) (k:Nat) (h:k≤w.length):ch (Ϗ w none (some (k:Int)))=(ch w).take k:=by
 have e:Ϗ w none (some (k:Int))=ë w (some ((0:Nat):Int)) (some (k:Int)):=by
  unfold Ϗ ë
  rw [StrLaws.sliceIdx_none_lo];rfl
 rw [e,Ņ w (À _) h]
 show ((ch w).drop 0).take (k - 0)=_
 rw [ĉ,Ĥ]
theorem wm {i:Int} (h:i.natAbs<10 ^ 42):di .str (.int i)=some (.str (aj i)):=by
 show (if i.natAbs.log2<1920 then _ else none)=_
 rw [ZZ]
 rcases Nat.eq_zero_or_pos i.natAbs with z | z
 ·rw [z];decide
 ·exact Ϻ ((DZ (by omega)).mpr (Ϻ h (by decide +kernel:10 ^ 42≤2 ^ 400))) (by decide)
theorem ou {m k:Nat} (hk:0<k) (h:m<10 ^ k):(dg m).length≤k:=by
 rw [ο]
 exact (į (by decide) hk).mpr h
theorem A5 {m k:Nat} (hk:0<k) (h:10 ^ k≤m):k<(dg m).length:=by
 rw [ο]
 exact Nat.lt_of_not_le fun q=>by have:=(į (by decide) hk).mp q;omega
theorem vk (m:Nat):bf (dg m)=dg m:=by
 unfold bf
 rw [ZY]
 intro e
 have:=cN m 45 (Gg e)
 omega
theorem mX {w:θ} {l:List Nat} (h:ch w=l):w.length=l.length:=by rw [ch_len,h]
theorem dZ (m:Nat):1≤(dg m).length:=ù.mpr (ko m)
theorem bX {w:θ} {l:List Nat} (h:ch w=l) (hl:2≤l.length∧l.length≤60) (hc:∀ c∈l,42≤c∧c<128) (hn:bL w=false) (h3:(∃ c∈l,c<97)∨9≤l.length):Bw w:=by
 have hw:=mX h
 exact ⟨xx (by omega) (by rw [h];exact hc),xQ hn (by omega) (by rw [h,hw];exact h3)⟩
theorem w2a {M:Nat} (h1:(dg M).length≤41) (h2:40<(dg M).length):Bw (aj (M:Nat)):=by
 have e:=aW M
 exact bX e (by omega) (fun c m=>by have:=cN M c m;omega) (tO (by rw [e,vk];exact h2)) (.inr (by omega))
theorem w2b {M:Nat} (h1:(dg M).length≤41) (h2:40<(dg M).length):Bw (("-":θ) ++ aj (M:Nat)):=by
 have e:ch (("-":θ) ++ aj (M:Nat))=45 :: dg M:=by rw [ch_app,aW];rfl
 refine bX e (by simp only [ψ];omega) (fun c m=>?_) (tO (by rw [e];exact h2)) (.inr (by simp only [ψ];omega))
 rcases φ.mp m with rfl | m
 ·decide
 ·have:=cN M c m;omega
section
variable {N:Nat} (hN:N<10 ^ 30)
include hN
theorem dgN:(dg N).length≤30:=ou (by decide) hN
theorem w0:Bw (("0":θ) ++ aj (N:Nat)):=by
 have e:ch (("0":θ) ++ aj (N:Nat))=48 :: dg N:=by rw [ch_app,aW];rfl
 have h1:=dgN hN
 have h2:=dZ N
 refine bX e (by simp only [ψ];omega) (fun c m=>?_) (BZ ?_ (by rw [mX e,ψ];omega)) (.inl ⟨48,κ,by decide⟩)
 ·rcases φ.mp m with rfl | m
  ·decide
  ·have:=cN N c m;omega
 ·rw [e];rfl
theorem w1:Bw (("-0":θ) ++ Ϗ (aj (N:Nat)) (some ((1:Nat):Int)) none):=by
 have h1:=dgN hN
 have h2:=dZ N
 have e:ch (("-0":θ) ++ Ϗ (aj (N:Nat)) (some ((1:Nat):Int)) none)=45 :: 48 :: (dg N).drop 1:=by
  rw [ch_app,cV _ 1 (by rw [ch_len,aW];exact h2),aW];rfl
 refine bX e (by simp only [ψ,ϖ];omega) (fun c m=>?_) (BZ ?_ (by rw [mX e];simp only [ψ];omega)) (.inl ⟨48,by simp,by decide⟩)
 ·rcases φ.mp m with rfl | m
  ·decide
  rcases φ.mp m with rfl | m
  ·decide
  ·have:=cN N c (Ϥ m);omega
 ·rw [e];rfl
theorem w4a:Bw (("+":θ) ++ aj (N:Nat)):=by
 have h1:=dgN hN
 have h2:=dZ N
 have e:ch (("+":θ) ++ aj (N:Nat))=43 :: dg N:=by rw [ch_app,aW];rfl
 refine bX e (by simp only [ψ];omega) (fun c m=>?_) (fJ ⟨43,by rw [e];exact κ,by decide⟩) (.inl ⟨43,κ,by decide⟩)
 rcases φ.mp m with rfl | m
 ·decide
 ·have:=cN N c m;omega
theorem w4b:Bw (("--":θ) ++ aj (N:Nat)):=by
 have h1:=dgN hN
 have h2:=dZ N
 have e:ch (("--":θ) ++ aj (N:Nat))=45 :: 45 :: dg N:=by rw [ch_app,aW];rfl
 refine bX e (by simp only [ψ];omega) (fun c m=>?_) (fJ ⟨45,by rw [e];exact κ,by decide⟩) (.inl ⟨45,κ,by decide⟩)
 rcases φ.mp m with rfl | m
 ·decide
 rcases φ.mp m with rfl | m
 ·decide
 ·have:=cN N c m;omega
theorem w4c {x:Nat} (hx:97≤x∧x≤122):Bw (aj (N:Nat) ++ ⟨#[x]⟩):=by
 have h1:=dgN hN
 have h2:=dZ N
 have e:ch (aj (N:Nat) ++ ⟨#[x]⟩)=dg N ++ [x]:=by rw [ch_app,aW];rfl
 cases q:dg N with
 | nil=>exact ZX q (ko N)
 | cons d r=>
   have hd:=cN N d (by rw [q];exact κ)
   rw [q] at e h1
   have f:bf (ch (aj (N:Nat) ++ ⟨#[x]⟩))=(d :: r) ++ [x]:=by
    rw [e];unfold bf;rw [ZY]
    intro z
    have:d=45:=by simpa using z
    omega
   refine bX e (by rw [ζ,ω,ψ];simp only [ψ] at h1;omega) (fun c m=>?_) (fJ ⟨x,by rw [f];simp,by omega⟩) (.inl ⟨d,by simp,by omega⟩)
   rcases Ρ.mp m with m | m
   ·have:=cN N c (by rw [q];exact m);omega
   ·rw [ι.mp m];omega
theorem w4d {x:Nat} (hx:97≤x∧x≤122):Bw ((⟨#[x]⟩:θ) ++ aj (N:Nat)):=by
 have h1:=dgN hN
 have h2:=dZ N
 have e:ch ((⟨#[x]⟩:θ) ++ aj (N:Nat))=x :: dg N:=by rw [ch_app,aW];rfl
 have f:bf (ch ((⟨#[x]⟩:θ) ++ aj (N:Nat)))=x :: dg N:=by
  rw [e];unfold bf;rw [ZY]
  intro z
  have:x=45:=by simpa using z
  omega
 cases q:dg N with
 | nil=>exact ZX q (ko N)
 | cons d r=>
   have hd:=cN N d (by rw [q];exact κ)
   refine bX e (by simp only [ψ];omega) (fun c m=>?_) (fJ ⟨x,by rw [f];exact κ,by omega⟩) (.inl ⟨d,by rw [q];simp,by omega⟩)
   rcases φ.mp m with rfl | m
   ·omega
   ·have:=cN N c m;omega
end
theorem w3 {w:θ} (h:∀ c∈ch w,97≤c∧c≤122) (hl:9≤w.length∧w.length≤17):Bw w:=by
 obtain ⟨a,r,e⟩:=kg (show 1≤w.length by omega)
 have ha:=h a (by rw [e];exact κ)
 have f:bf (ch w)=a :: r:=by
  rw [e];unfold bf;rw [ZY]
  intro z
  have:a=45:=by simpa using z
  omega
 exact bX (l:=ch w) rfl (by rw [← ch_len];omega) (fun c m=>by have:=h c m;omega) (fJ ⟨a,by rw [f];exact κ,by omega⟩) (.inr (by rw [← ch_len];omega))
open L2.Lx (ch ch_app ch_len Tok Con Br)
theorem Dl (i:Int) {j:Int} (hj:-(2 ^ 64)<j∧j<2 ^ 64):opD .mul (.int i) (.int j)=some (.int (i * j)):=by
 show (if _ then _ else _)=_
 rw [ZZ (.inl (.inr hj))]
theorem vc (s:θ):("":θ) ++ s=s:=L2.Lx.ch_inj (by rw [ch_app];rfl)
abbrev wq:List θ:=["<=","==","**","?x","??","-x","+-","x?","x=","7-"]
theorem B1 (r:Nat) (h:r<10):∃ w:θ,Bw w∧ixD (.lst (sD wq)) (.int (r:Nat))=some (.str w):=by
 have hk:r<wq.length:=h
 refine ⟨wq[r],AC ((by decide +kernel:∀ w∈wq,bwB w=true) _ (Ö hk)),bq (by rw [ϑ,Ζ hk];rfl)⟩
abbrev wS0 (c:Int) (S:List O):Sta:=⟨[some (.ref 0),some (.int c),none,none,none,none],[],S⟩
abbrev wS8 (c:Int) (d2 d3:D) (w:θ) (S:List O):Sta:=⟨[some (.ref 0),some (.int c),some d2,some d3,some (.str w),none],[],S⟩
theorem sx {N:Nat} (hN:N<10 ^ 30):(aj (N:Nat)).length≤30:=by rw [ch_len,aW];exact dgN hN
theorem Cz {N:Nat} (hN:N<10 ^ 30):∃ M:Nat,((10 ^ 40:Int)+(N:Int) * 10 ^ 9)=(M:Nat)∧(dg M).length≤41∧40<(dg M).length∧M<10 ^ 42:=by
 obtain ⟨M,hM⟩:∃ M:Nat,M=10 ^ 40+N * 10 ^ 9:=⟨_,rfl⟩
 have m1:M<10 ^ 41:=by omega
 have m2:10 ^ 40≤M:=by omega
 exact ⟨M,by omega,ou (by decide) m1,A5 (by decide) m2,by omega⟩
abbrev WO (c:Int) (n:Nat) (S:List O):Prop:=∃ (w:θ) (d2 d3:D),Bw w∧exS Γ (af Γ n) (ao Γ n) (hdS 8 cP.body) (wS0 c S) = .nx (wS8 c d2 d3 w S)
theorem nZ (c:Int) (n:Nat) (S:List O):WO c n S:=by
 have z6:=cZ c (b:=6) (by decide)
 obtain ⟨N,hN,mN⟩:∃ N:Nat,N<10 ^ 30∧opD .mod (.int (c / 6)) (.int ((10:Int) ^ 30))=some (.int (N:Nat)):=by
  obtain ⟨y,hy⟩:∃ y,c / 6 % ((10:Int) ^ 30)=y:=⟨_,rfl⟩
  obtain ⟨N,rfl⟩:∃ N:Nat,y=N:=⟨y.toNat,by omega⟩
  exact ⟨N,by omega,aY hy (by decide)⟩
 obtain ⟨k,hk,mk⟩:=eJ (c / 6) 26 (by decide)
 have lL:LET.length=26:=by decide +kernel
 have sk:=cV LET k (by omega)
 have ls:(Ϗ LET (some (k:Int)) none).length=26 - k:=by rw [ch_len,sk,ϖ,← ch_len,lL]
 have a3:opD .add (.str (Ϗ LET (some (k:Int)) none)) (.str LET)=some (.str (Ϗ LET (some (k:Int)) none ++ LET)):=dU (by rw [ls,lL];omega)
 have c3:∀ x∈ch (Ϗ LET (some (k:Int)) none ++ LET),97≤x∧x≤122:=fun x m=>by
  rw [ch_app,sk] at m
  exact (jE x).mp ((Ρ.mp m).elim Ϥ id)
 have l3:(Ϗ LET (some (k:Int)) none ++ LET).length=52 - k:=by rw [bg,ls,lL];omega
 revert a3 c3 l3
 generalize Ϗ LET (some (k:Int)) none ++ LET=L3
 intro a3 c3 l3
 obtain ⟨x0,r0,e0⟩:=kg (show 1≤L3.length by omega)
 have hx0:=c3 x0 (by rw [e0];exact κ)
 have ix0:ixD (.str L3) (.int 0)=some (.str ⟨#[x0]⟩):=by
  show (if L3.length≤100000 then (atI L3.cps.toList ((0:Nat):Int)).map fun c=>D.str ⟨#[c]⟩ else none)=_
  rw [ZZ (by omega),bq (show L3.cps.toList[0]? = some x0 by rw [show L3.cps.toList=x0 :: r0 from e0];rfl)];rfl
 have nS:di .str (.int (N:Nat))=some (.str (aj (N:Nat))):=wm (by show N<_;omega)
 have lN:=sx hN
 have a0:opD .add (.str "0") (.str (aj (N:Nat)))=some (.str (("0":θ) ++ aj (N:Nat))):=dU (by show 1+_≤_;omega)
 have lx:(⟨#[x0]⟩:θ).length=1:=rfl
 have c12:c % 12=0∨c % 12=6∨c % 12=1∨c % 12=7∨c % 12=2∨c % 12=8∨c % 12=3∨c % 12=9∨c % 12=4∨c % 12=10∨c % 12=5∨c % 12=11:=by omega
 have one:∀ j k:Int,c % 12=j→c % 6=k→k=0→(j=0∨j=6)→WO c n S:=fun j k h1 h2 hk hj=>by
  subst hk
  have m6:=aY h2 (b:=6) (by decide)
  have m12:=aY h1 (b:=12) (by decide)
  refine ⟨_,.int (N:Nat),.str L3,w0 hN,?_⟩
  rcases hj with rfl | rfl <;> exact (bp false (aX 0 (z6) (aX 1 (mN) (aX 0 (z6) (aX 0 (mk) (aX 1 (a3) (aX 0 (nS) (aX 0 (a0) (aX 0 (m6) (aX 2 (m6) (aX 2 (m6) (aX 2 (m6) (aX 2 (m12) (aX 2 (m6) aZ))))))))))))) (by kernel_rfl))
 have two:∀ j k:Int,c % 12=j→c % 6=k→k=1→(j=1∨j=7)→WO c n S:=fun j k h1 h2 hk hj=>by
  subst hk
  have m6:=aY h2 (b:=6) (by decide)
  have m12:=aY h1 (b:=12) (by decide)
  have s1:slO (.str (aj (N:Nat))) (some ((1:Nat):Int)) none=some (.str (Ϗ (aj (N:Nat)) (some ((1:Nat):Int)) none)):=ZZ (by omega)
  have ll:(Ϗ (aj (N:Nat)) (some ((1:Nat):Int)) none).length≤30:=by
   have:=dZ N
   rw [ch_len,cV _ 1 (by rw [ch_len,aW];exact this),ϖ,← ch_len];omega
  have ad:opD .add (.str "-0") (.str (Ϗ (aj (N:Nat)) (some ((1:Nat):Int)) none))=some (.str (("-0":θ) ++ Ϗ (aj (N:Nat)) (some ((1:Nat):Int)) none)):=dU (by show 2+_≤_;omega)
  refine ⟨_,.int (N:Nat),.str L3,w1 hN,?_⟩
  rcases hj with rfl | rfl <;> exact (bp false (aX 0 (z6) (aX 1 (mN) (aX 0 (z6) (aX 0 (mk) (aX 1 (a3) (aX 0 (nS) (aX 0 (a0) (aX 0 (m6) (aX 2 (nS) (aX 0 (s1) (aX 0 (ad) (aX 0 (m6) (aX 2 (m6) (aX 2 (m6) (aX 2 (m12) (aX 2 (m6) aZ)))))))))))))))) (by kernel_rfl))
 have thr:∀ j k:Int,c % 12=j→c % 6=k→k=2→(j=2∨j=8)→WO c n S:=fun j k h1 h2 hk hj=>by
  subst hk
  have m6:=aY h2 (b:=6) (by decide)
  have m12:=aY h1 (b:=12) (by decide)
  obtain ⟨M,eM,g1,g2,g3⟩:=Cz hN
  obtain ⟨P,hP,mu⟩:∃ P:Int,(N:Int) * 10 ^ 9=P∧opD .mul (.int (N:Nat)) (.int (10 ^ 9))=some (.int P):=⟨_,rfl,Dl (N:Nat) (j:=10 ^ 9) (by decide)⟩
  rw [hP] at eM
  have nM:di .str (.int ((10 ^ 40:Int)+P))=some (.str (aj (M:Nat))):=by
   rw [eM];exact wm (by show M<_;exact g3)
  have lM:(aj (M:Nat)).length≤41:=by rw [ch_len,aW];exact g1
  have a1:opD .add (.str "") (.str (aj (M:Nat)))=some (.str (("":θ) ++ aj (M:Nat))):=dU (by show 0+_≤_;omega)
  have a2:opD .add (.str "-") (.str (aj (M:Nat)))=some (.str (("-":θ) ++ aj (M:Nat))):=dU (by show 1+_≤_;omega)
  have n2:(N:Int) % 2=0∨(N:Int) % 2=1:=by omega
  obtain ⟨y,hy⟩:∃ y:Int,(N:Int)=y:=⟨_,rfl⟩
  rw [hy] at mN nS a0 mu n2
  rcases n2 with n2 | n2
  ·have m2:=aY n2 (b:=2) (by decide)
   refine ⟨("":θ) ++ aj (M:Nat),.int y,.str L3,by rw [vc];exact w2a g1 g2,?_⟩
   rcases hj with rfl | rfl <;> exact (bp false (aX 0 (z6) (aX 1 (mN) (aX 0 (z6) (aX 0 (mk) (aX 1 (a3) (aX 0 (nS) (aX 0 (a0) (aX 0 (m6) (aX 2 (m6) (aX 2 (m2) (aX 3 (mu) (aX 1 (nM) (aX 0 (a1) (aX 0 (m6) (aX 2 (m6) (aX 2 (m12) (aX 2 (m6) aZ))))))))))))))))) (by kernel_rfl))
  ·have m2:=aY n2 (b:=2) (by decide)
   refine ⟨_,.int y,.str L3,w2b g1 g2,?_⟩
   rcases hj with rfl | rfl <;> exact (bp false (aX 0 (z6) (aX 1 (mN) (aX 0 (z6) (aX 0 (mk) (aX 1 (a3) (aX 0 (nS) (aX 0 (a0) (aX 0 (m6) (aX 2 (m6) (aX 2 (m2) (aX 3 (mu) (aX 1 (nM) (aX 0 (a2) (aX 0 (m6) (aX 2 (m6) (aX 2 (m12) (aX 2 (m6) aZ))))))))))))))))) (by kernel_rfl))
 have fou:∀ j k:Int,c % 12=j→c % 6=k→k=3→(j=3∨j=9)→WO c n S:=fun j k h1 h2 hk hj=>by
  subst hk
  have m6:=aY h2 (b:=6) (by decide)
  have m12:=aY h1 (b:=12) (by decide)
  have z26:=cZ (N:Nat) (b:=26) (by decide)
  obtain ⟨s,hs,m9⟩:=eJ ((N:Int) / 26) 9 (by decide)
  have ad:opD .add (.int 9) (.int (s:Nat))=some (.int ((9+s:Nat):Int)):=ZS (fun z=>some (D.int z)) (by omega)
  have s1:slO (.str L3) none (some ((9+s:Nat):Int))=some (.str (Ϗ L3 none (some ((9+s:Nat):Int)))):=ZZ (by omega)
  have st:=lP L3 (9+s) (by omega)
  refine ⟨_,.int (N:Nat),.str L3,w3 (w:=Ϗ L3 none (some ((9+s:Nat):Int))) (fun x m=>c3 x (by rw [st] at m;exact ϯ m)) (by rw [ch_len,st,Ϡ,← ch_len];omega),?_⟩
  rcases hj with rfl | rfl <;> exact (bp false (aX 0 (z6) (aX 1 (mN) (aX 0 (z6) (aX 0 (mk) (aX 1 (a3) (aX 0 (nS) (aX 0 (a0) (aX 0 (m6) (aX 2 (m6) (aX 2 (m6) (aX 2 (z26) (aX 0 (m9) (aX 0 (ad) (aX 0 (s1) (aX 0 (m6) (aX 2 (m12) (aX 2 (m6) aZ))))))))))))))))) (by kernel_rfl))
 have aP:opD .add (.str "+") (.str (aj (N:Nat)))=some (.str (("+":θ) ++ aj (N:Nat))):=dU (by show 1+_≤_;omega)
 have aM:opD .add (.str "--") (.str (aj (N:Nat)))=some (.str (("--":θ) ++ aj (N:Nat))):=dU (by show 2+_≤_;omega)
 have aL:opD .add (.str (aj (N:Nat))) (.str ⟨#[x0]⟩)=some (.str (aj (N:Nat) ++ ⟨#[x0]⟩)):=dU (by rw [lx];omega)
 have aD:opD .add (.str ⟨#[x0]⟩) (.str (aj (N:Nat)))=some (.str ((⟨#[x0]⟩:θ) ++ aj (N:Nat))):=dU (by rw [lx];omega)
 have n3:(N:Int) % 3=0∨(N:Int) % 3=1∨(N:Int) % 3=2:=by omega
 have fiv:c % 12=4→c % 6=4→WO c n S:=fun h1 h2=>by
  have m6:=aY h2 (b:=6) (by decide)
  have m12:=aY h1 (b:=12) (by decide)
  refine ⟨_,.int (N:Nat),.str L3,w4d hN hx0,?_⟩
  rcases n3 with n3 | n3 | n3 <;> (have m3:=aY n3 (b:=3) (by decide);exact (bp false (aX 0 (z6) (aX 1 (mN) (aX 0 (z6) (aX 0 (mk) (aX 1 (a3) (aX 0 (nS) (aX 0 (a0) (aX 0 (m6) (aX 2 (m6) (aX 2 (m6) (aX 2 (m6) (aX 2 (nS) (aX 0 (aP) (aX 0 (nS) (aX 0 (aM) (aX 0 (nS) (aX 0 (ix0) (aX 0 (aL) (aX 0 (m3) (aX 1 (m12) (aX 2 (ix0) (aX 0 (nS) (aX 0 (aD) (aX 0 (m6) aZ)))))))))))))))))))))))) (by kernel_rfl)))
 have six:c % 12=10→c % 6=4→WO c n S:=fun h1 h2=>by
  have m6:=aY h2 (b:=6) (by decide)
  have m12:=aY h1 (b:=12) (by decide)
  rcases n3 with n3 | n3 | n3
  ·have m3:=aY n3 (b:=3) (by decide)
   exact ⟨_,.int (N:Nat),.str L3,w4a hN,(bp false (aX 0 (z6) (aX 1 (mN) (aX 0 (z6) (aX 0 (mk) (aX 1 (a3) (aX 0 (nS) (aX 0 (a0) (aX 0 (m6) (aX 2 (m6) (aX 2 (m6) (aX 2 (m6) (aX 2 (nS) (aX 0 (aP) (aX 0 (nS) (aX 0 (aM) (aX 0 (nS) (aX 0 (ix0) (aX 0 (aL) (aX 0 (m3) (aX 1 (m12) (aX 2 (m6) aZ))))))))))))))))))))) (by kernel_rfl))⟩
  ·have m3:=aY n3 (b:=3) (by decide)
   exact ⟨_,.int (N:Nat),.str L3,w4b hN,(bp false (aX 0 (z6) (aX 1 (mN) (aX 0 (z6) (aX 0 (mk) (aX 1 (a3) (aX 0 (nS) (aX 0 (a0) (aX 0 (m6) (aX 2 (m6) (aX 2 (m6) (aX 2 (m6) (aX 2 (nS) (aX 0 (aP) (aX 0 (nS) (aX 0 (aM) (aX 0 (nS) (aX 0 (ix0) (aX 0 (aL) (aX 0 (m3) (aX 1 (m12) (aX 2 (m6) aZ))))))))))))))))))))) (by kernel_rfl))⟩
  ·have m3:=aY n3 (b:=3) (by decide)
   exact ⟨_,.int (N:Nat),.str L3,w4c hN hx0,(bp false (aX 0 (z6) (aX 1 (mN) (aX 0 (z6) (aX 0 (mk) (aX 1 (a3) (aX 0 (nS) (aX 0 (a0) (aX 0 (m6) (aX 2 (m6) (aX 2 (m6) (aX 2 (m6) (aX 2 (nS) (aX 0 (aP) (aX 0 (nS) (aX 0 (aM) (aX 0 (nS) (aX 0 (ix0) (aX 0 (aL) (aX 0 (m3) (aX 1 (m12) (aX 2 (m6) aZ))))))))))))))))))))) (by kernel_rfl))⟩
 have sev:∀ j k:Int,c % 12=j→c % 6=k→k=5→(j=5∨j=11)→WO c n S:=fun j k h1 h2 hk hj=>by
  subst hk
  have m6:=aY h2 (b:=6) (by decide)
  have m12:=aY h1 (b:=12) (by decide)
  obtain ⟨s,hs,m10⟩:=eJ (N:Int) 10 (by decide)
  obtain ⟨w,hw,ix⟩:=B1 s hs
  refine ⟨w,.int (N:Nat),.str L3,hw,?_⟩
  rcases hj with rfl | rfl <;> exact (bp false (aX 0 (z6) (aX 1 (mN) (aX 0 (z6) (aX 0 (mk) (aX 1 (a3) (aX 0 (nS) (aX 0 (a0) (aX 0 (m6) (aX 2 (m6) (aX 2 (m6) (aX 2 (m6) (aX 2 (m12) (aX 2 (m6) (aX 2 (m10) (aX 0 (ix) aZ))))))))))))))) (by kernel_rfl))
 rcases c12 with h | h | h | h | h | h | h | h | h | h | h | h
 ·exact one _ _ h rfl (by omega) (.inl rfl)
 ·exact one _ _ h rfl (by omega) (.inr rfl)
 ·exact two _ _ h rfl (by omega) (.inl rfl)
 ·exact two _ _ h rfl (by omega) (.inr rfl)
 ·exact thr _ _ h rfl (by omega) (.inl rfl)
 ·exact thr _ _ h rfl (by omega) (.inr rfl)
 ·exact fou _ _ h rfl (by omega) (.inl rfl)
 ·exact fou _ _ h rfl (by omega) (.inr rfl)
 ·exact fiv h (by omega)
 ·exact six h (by omega)
 ·exact sev _ _ h rfl (by omega) (.inl rfl)
 ·exact sev _ _ h rfl (by omega) (.inr rfl)
section
variable {R:List O} {t:Tr} {n:Nat}
theorem ud (g:Gd t) (i:Nat) {b:θ} (hb:Bw b):Rf (t.tok.take i ++ ([b]:List θ) ++ t.tok.drop (i+1)):=by
 refine hU (fun w m=>?_) ?_ (i8 fun h=>hb.2 (h.gw b (by simp)))
 ·rw [χ,Ρ,Ρ,ι] at m
  rcases m with m | rfl | m
  ·exact g.kx w (ϯ m)
  ·exact hb.1
  ·exact g.kx w (Ϥ m)
 ·have:=g.len
  rw [ζ,ζ,Ϡ,ω,ϖ];omega
theorem jY (t:Tr):1≤t.tok.length:=by cases t <;> simp [Tr.tok]
theorem ui (g:Gd t) {i:Nat} (hi:i<t.tok.length) (w:θ):opD .add (.lst (Ev.cutD (sD t.tok) none (some (i:Int)))) (.lst [.str w])=some (.lst (sD (t.tok.take i ++ ([w]:List θ))))∧opD .add (.lst (sD (t.tok.take i ++ ([w]:List θ)))) (.lst (Ev.cutD (sD t.tok) (some ((i:Int)+1)) none))=some (.lst (sD (t.tok.take i ++ ([w]:List θ) ++ t.tok.drop (i+1)))):=by
 have hl:=g.len
 have c1:(i:Int)+1=((i+1:Nat):Int):=by omega
 constructor
 ·rw [mF _ _ (by omega),bW]
  exact j9 (by rw [ο,Ϡ];simp only [ω];omega)
 ·rw [c1,gG _ _ (by omega),bW (_ ++ _)]
  exact j9 (by rw [ο,ζ,Ϡ,ω,ο,ϖ];omega)
theorem Ct (g:Gd t) (c:Int):∃ ws,Rf ws∧af Γ (n+1) jx [.ref 0,.int c] (.lst (sD t.tok) :: R) = .ok (.lst (sD ws)) (.lst (sD t.tok) :: R):=by
 obtain ⟨w,d2,d3,hw,h8⟩:=nZ c n (.lst (sD t.tok) :: R)
 have z11:=cZ c (b:=11) (by decide)
 obtain ⟨i,hi,mi⟩:=eJ (c / 11) t.tok.length (jY t)
 have mi:opD .mod (.int (c / 11)) (.int ((sD t.tok).length:Nat))=some (.int (i:Nat)):=by rw [ο];exact mi
 obtain ⟨a1,a2⟩:=ui g hi w
 have tl:toR (exS Γ (af Γ n) (ao Γ n) (tlS 8 cP.body) (wS8 c d2 d3 w (.lst (sD t.tok) :: R))) = .ok (.lst (sD (t.tok.take i ++ ([w]:List θ) ++ t.tok.drop (i+1)))) (.lst (sD t.tok) :: R):=(ky false (aX 0 (z11) (aX 1 (mi) (aX 1 (a1) (aX 2 (a2) aZ)))) (by kernel_rfl))
 exact ⟨_,ud g i hw,dI 8 cP rfl rfl h8 tl⟩
end
open L2.Lx (ch ch_app ch_len Tok Con Br)
abbrev eN:List (List θ):=[["7"],["x"],["yes"],["(","given","3",")"],["(",")"],["fn"],["?"],["-"]]
abbrev i6:List (List θ):=[["(","foo","1","2",")"],["(","7",")"],["(","yes",")"]]
abbrev lD (l:List (List θ)):List D:=l.map fun a=>.lst (sD a)
def kxB (w:θ):Bool:=decide (w.length≤60∧(∀ c∈ch w,c<128)∧((ch w = [40]∨ch w = [41])∨(ch w≠[]∧∀ x∈ch w,x≠32∧x≠40∧x≠41)))
theorem vv {w:θ} (h:kxB w=true):Kx w:=by
 have h:=of_decide_eq_true h
 exact ⟨h.1,h.2.2.elim (fun q=>q.elim .inl fun q=>.inr (.inl q)) fun q=>.inr (.inr q),h.2.1⟩
theorem kX:∀ l∈eN,(∀ w∈l,kxB w=true)∧1≤l.length∧l.length≤4:=by decide +kernel
theorem dK {p:D×List θ×Nat} (h:p.2.1≠[]) {ws:List θ} (e:ndM 8 ws 0=some p):rdM ws=none:=by
 unfold rdM
 rw [e]
 show (if p.2.1 = [] then some p.1 else none)=none
 rw [ZY h]
theorem bu {ws:List θ} (e:ndM 8 ws 0=none):rdM ws=none:=by
 unfold rdM
 rw [e];rfl
theorem gm {w:θ} {r:List θ} (h:w≠lpS) (e:cf w 0=none):ndM 8 (w :: r) 0=none:=by rw [eQ (q:=7) (by decide) r h,e];rfl
theorem gu {w:θ} {r:List θ} {d:D} (h:w≠lpS) (e:cf w 0=some d):ndM 8 (w :: r) 0=some (d,r,1):=by rw [eQ (q:=7) (by decide) r h,e];rfl
theorem cA {h:θ} {r:List θ} (e:brM h=none):ndM 8 (lpS :: h :: r) 0=none:=by rw [kY (q:=7) (by decide),e];rfl
theorem qY (r:List θ) (h:r≠[]):∀ l∈eN,rdM (l ++ r)=none:=fun l m=>by
 simp only [eN,φ,Ń,or_false] at m
 rcases m with rfl | rfl | rfl | rfl | rfl | rfl | rfl | rfl
 ·exact dK h (gu (d:=.tup [.str "whole",.int 0,.int 7]) (by decide +kernel) (by kernel_rfl))
 ·exact dK h (gu (d:=.tup [.str "name",.int 0,.str "x"]) (by decide +kernel) (by kernel_rfl))
 ·exact dK h (gu (d:=.tup [.str "truth",.int 0,.bl true]) (by decide +kernel) (by kernel_rfl))
 ·have e:=dC 8 (.giv 3) (.giv 7 3 (by decide)) r 0 (by decide)
  have t3:(Tr.giv 3).tok=(["(","given","3",")"]:List θ):=by
   show (["(","given",aj (3:Nat),")"]:List θ)=_
   rw [show aj (3:Nat)=("3":θ) by decide +kernel]
  rw [t3] at e
  exact dK h e
 ·exact bu (cA (by kernel_rfl))
 ·exact dK h (gu (d:=.tup [.str "name",.int 0,.str "fn"]) (by decide +kernel) (by kernel_rfl))
 ·exact bu (gm (by decide +kernel) (by kernel_rfl))
 ·exact bu (gm (by decide +kernel) (by kernel_rfl))
theorem pZ {t:Tr} (g:Gd t) (r:List θ) (h:r≠[]):rdM (t.tok ++ r)=none:=dK h (dC 8 t g.ok r 0 (by have:=g.sz;omega))
abbrev nF (k:Nat):List (List θ):=[[],["(",")"],["(","(","given","1",")",")"],["?"],["-"],["("],["(","x",")"],μ k lpS]
theorem hO {l:List θ} (h:(∀ w∈l,kxB w=true)) (hl:l.length≤1200) (hn:rdM l=none):Rf l:=hU (fun w m=>vv (h w m)) hl hn
theorem zx (k:Nat) (h1:21≤k) (h2:k≤400) (s:Nat) (hs:s<11):∃ l,Rf l∧((nF k ++ i6)[s]? = some l):=by
 have:s=0∨s=1∨s=2∨s=3∨s=4∨s=5∨s=6∨s=7∨s=8∨s=9∨s=10:=by omega
 rcases this with rfl | rfl | rfl | rfl | rfl | rfl | rfl | rfl | rfl | rfl | rfl
 ·exact ⟨_,hO (by decide +kernel) (by decide) (by rfl),rfl⟩
 ·exact ⟨_,hO (by decide +kernel) (by decide) (bu (cA (by kernel_rfl))),rfl⟩
 ·exact ⟨_,hO (by decide +kernel) (by decide) (bu (cA (by kernel_rfl))),rfl⟩
 ·exact ⟨_,hO (by decide +kernel) (by decide) (bu (gm (by decide +kernel) (by kernel_rfl))),rfl⟩
 ·exact ⟨_,hO (by decide +kernel) (by decide) (bu (gm (by decide +kernel) (by kernel_rfl))),rfl⟩
 ·exact ⟨_,hO (by decide +kernel) (by decide) (i8 fun h=>ZX h.zero (by decide +kernel)),rfl⟩
 ·exact ⟨_,hO (by decide +kernel) (by decide) (bu (cA (by kernel_rfl))),rfl⟩
 ·refine ⟨_,hO (l:=μ k lpS) (fun w m=>?_) (by rw [Ϛ];omega) ?_,rfl⟩
  ·rw [ϵ m];decide +kernel
  ·obtain ⟨q,rfl⟩:∃ q,k=q+2:=⟨k - 2,by omega⟩
   rw [Ϯ,Ϯ]
   exact bu (cA (by kernel_rfl))
 ·exact ⟨_,hO (by decide +kernel) (by decide) (bu (cA (by kernel_rfl))),rfl⟩
 ·exact ⟨_,hO (by decide +kernel) (by decide) (bu (cA (by kernel_rfl))),rfl⟩
 ·exact ⟨_,hO (by decide +kernel) (by decide) (bu (cA (by kernel_rfl))),rfl⟩
theorem BD (L:List (List θ)) {r:Nat} {l:List θ} (h:L[r]? = some l):ixD (.lst (lD L)) (.int (r:Nat))=some (.lst (sD l)):=bq (by rw [ϑ,h];rfl)
theorem wB (k:Nat):(μ k [D.str lpS]).flatten=sD (μ k lpS):=by
 rw [wA];exact FY.symm
section
variable {R:List O} {t:Tr} {n:Nat}
theorem tI (g:Gd t) {l:List θ} (m:l∈eN):Rf (t.tok ++ l)∧Rf (l ++ t.tok):=by
 have k:=kX l m
 have hl:=g.len
 have ne:l≠[]:=fun e=>by rw [e] at k;exact ZX k.2.1 (by decide)
 refine ⟨hU (fun w mw=>(Ρ.mp mw).elim (g.kx w) fun mw=>vv (k.1 w mw)) (by rw [ζ];omega) (pZ g l ne),hU (fun w mw=>(Ρ.mp mw).elim (fun mw=>vv (k.1 w mw)) (g.kx w)) (by rw [ζ];omega) (qY _ (fun e=>by have:=jY t;rw [e] at this;exact ZX this (by decide)) l m)⟩
theorem wb {o1 o2 o3 o4:O} (g:Gd t) (c:Int):∃ ws S',Rf ws∧af Γ (n+1) kK [.ref 0,.int c] [.lst (sD t.tok),o1,o2,o3,o4] = .ok (.lst (sD ws)) (.lst (sD t.tok) :: S'):=by
 have hl:=g.len
 have z3:=cZ c (b:=3) (by decide)
 obtain ⟨s,hs,m8⟩:=eJ (c / 3) 8 (by decide)
 have hs8:s<eN.length:=hs
 have ix:=BD eN (Ζ hs8)
 have mm:eN[s]∈eN:=Ö hs8
 revert ix mm
 generalize eN[s]=l
 intro ix mm
 have k:=kX l mm
 have rf:=tI g mm
 have c3:c % 3=0∨c % 3=1∨c % 3=2:=by omega
 rcases c3 with c3 | c3 | c3
 ·have m3:=aY c3 (b:=3) (by decide)
  have ad:opD .add (.lst (sD t.tok)) (.lst (sD l))=some (.lst (sD (t.tok ++ l))):=by rw [bW];exact j9 (by rw [ο,ο];omega)
  exact ⟨_,[o1,o2,o3,o4],rf.1,(aa false (aX 0 (z3) (aX 0 (m8) (aX 0 (ix) (aX 0 (m3) (aX 2 (ad) aZ))))) (by kernel_rfl))⟩
 ·have m3:=aY c3 (b:=3) (by decide)
  have ad:opD .add (.lst (sD l)) (.lst (sD t.tok))=some (.lst (sD (l ++ t.tok))):=by rw [bW];exact j9 (by rw [ο,ο];omega)
  exact ⟨_,[o1,o2,o3,o4],rf.2,(aa false (aX 0 (z3) (aX 0 (m8) (aX 0 (ix) (aX 0 (m3) (aX 2 (m3) (aX 2 (ad) aZ)))))) (by kernel_rfl))⟩
 ·have m3:=aY c3 (b:=3) (by decide)
  have z30:=cZ c (b:=30) (by decide)
  obtain ⟨q,hq,m300⟩:=eJ (c / 30) 300 (by decide)
  have a21:opD .add (.int 21) (.int (q:Nat))=some (.int ((21+q:Nat):Int)):=ZS (fun z=>some (D.int z)) (by omega)
  have ml:smO .mull (.tup [.lst [.str lpS],.int ((21+q:Nat):Int)])=some (.lst (sD (μ (21+q) lpS))):=by
   show (if _ then some (D.lst (μ ((21+q:Nat):Int).toNat [D.str lpS]).flatten) else none)=_
   rw [ZZ ⟨by omega,by omega,rfl⟩,Ļ,wB]
  obtain ⟨r,hr,m11⟩:=eJ (c / 3) 11 (by decide)
  obtain ⟨ws,hw,e⟩:=zx (21+q) (by omega) (by omega) r hr
  have ad:opD .add (.lst (lD (nF (21+q)))) (.lst (lD i6))=some (.lst (lD (nF (21+q) ++ i6))):=by
   rw [show lD (nF (21+q) ++ i6)=lD (nF (21+q)) ++ lD i6 from Ϭ]
   exact j9 (by rw [ο,ο];show 8+3≤_;decide)
  have ix2:=BD (nF (21+q) ++ i6) e
  exact ⟨ws,[o1,o2,o3,o4,.lst (lD (nF (21+q)))],hw,(aa false (aX 0 (z3) (aX 0 (m8) (aX 0 (ix) (aX 0 (m3) (aX 2 (m3) (aX 2 (z30) (aX 0 (m300) (aX 0 (a21) (aX 0 (ml) (aX 0 (ad) (aX 0 (z3) (aX 0 (m11) (aX 0 (ix2) aZ))))))))))))) (by kernel_rfl))⟩
end
open L2.Lx (ch ch_app ch_len Tok Con Br Wd b8 Sep)
abbrev SG:θ:="!\"#$&',./:;>@ABCDEFGHIJKLMNOPQRSTUVWXYZ[\\]^_`{|}~"
abbrev BdS (x:Nat):Prop:=(33≤x∧x<128)∧¬ (48≤x∧x≤57)∧¬ (97≤x∧x≤122)∧x ∉ oks
theorem zV:∀ x∈ch SG,BdS x:=by decide +kernel
theorem mx {x:Nat} (h:BdS x) {w:θ} (m:x∈ch w):¬ Gw w:=fun g=>by
 rcases g with g | g | g
 ·have n45:x≠45:=fun e=>h.2.2.2 (by rw [e];decide)
  have mf:x∈bf (ch w):=by
   unfold bf
   by_cases c:(ch w).head? = some 45
   ·rw [ZZ c]
    cases q:ch w with
    | nil=>rw [q] at m;cases m
    | cons a r=>
      rw [q] at m c
      have c:a=45:=by simpa using c
      rcases φ.mp m with e | m
      ·exact ZX (e.trans c) n45
      ·exact m
   ·rw [ZY c];exact m
  rw [fJ ⟨x,mf,by have:=h.2.1;omega⟩] at g;cases g
 ·exact h.2.2.2 (g.2 x m)
 ·exact h.2.2.1 (g.1 x m)
abbrev one (x:Nat):θ:=⟨#[x]⟩
theorem gE (x:Nat):ch (one x) = [x]:=rfl
theorem pP {x:Nat} (h:BdS x):Tok (ch (one x)):=.inr (.inr ⟨by rw [gE];simp,fun y m=>by
 rw [gE,ι] at m
 subst m
 refine ⟨by have:=h.1;omega,fun e=>h.2.2.2 (by rw [e];decide),fun e=>h.2.2.2 (by rw [e];decide)⟩⟩)
theorem sJ {x:Nat} (h:BdS x):Kx (one x):=⟨by show 1≤60;decide,pP h,fun c m=>by rw [gE,ι] at m;subst m;exact h.1.2⟩
theorem rE {T:List Nat} {ws:List (List Nat)} {b c:Prop} (h:Con T ws b) (i:c→b):Con T ws c:=fun x hx=>h x (hx.imp_left i)
theorem De {s:θ×θ} {w:θ} (c:s.2=lpS∨w=rpS):jn1 s w=(s.1 ++ w,w):=by unfold jn1;rw [ZZ c]
theorem Dd {s:θ×θ} {w:θ} (c:¬ (s.2=lpS∨w=rpS)):jn1 s w=((s.1 ++ blS) ++ w,w):=by unfold jn1;rw [ZY c]
theorem Bl {a d:List θ} {p q:θ} (ha:∀ w∈a,Tok (ch w)) (hd:∀ w∈d,Tok (ch w)) (tp:Tok (ch p)) (tq:Tok (ch q)) (hb:Br (ch p)∨Br (ch q)) (h2:2≤(p ++ q).length):a8 (aO (a ++ ([p ++ q]:List θ) ++ d))=a ++ ([p,q]:List θ) ++ d:=by
 have c1:=gQ a Ã lpS [] ha (fun b _=>rfl)
 have ne:p ++ q≠rpS:=fun e=>by rw [e] at h2;exact ZX h2 (by decide +kernel)
 have nb:¬ Br (ch (p ++ q)):=fun e=>by
  rw [ch_len] at h2
  rcases e with e | e <;> (rw [e] at h2;exact ZX h2 (by decide))
 have e1:(a ++ ([p ++ q]:List θ) ++ d).foldl jn1 (Ã,lpS)=d.foldl jn1 (jn1 (a.foldl jn1 (Ã,lpS)) (p ++ q)):=by rw [Gh,Gh];rfl
 have c40:ch lpS = [40]:=by decide +kernel
 have c32:ch blS = [32]:=by decide +kernel
 have k:∀ n:Nat,(0<n∨Br (ch (a.foldl jn1 (Ã,lpS)).2)∨Br (ch p))→Con (ch (a.foldl jn1 (Ã,lpS)).1 ++ (μ n 32 ++ ch (p ++ q))) ((([] ++ a.map ch) ++ [ch p]) ++ [ch q]) (Br (ch (p ++ q))):=fun n hn=>by
  have s1:=b8 n c1 tp hn
  have s2:=b8 0 s1 tq (.inr hb)
  rw [ch_app]
  simp only [χ,List.replicate_zero,ϛ] at s2 ⊢
  exact rE s2 fun e=>ZX e (by rw [← ch_app];exact nb)
 refine l5 ?_
 unfold aO
 rw [e1]
 have fin:∀ T:θ,Con (ch T) ((([] ++ a.map ch) ++ [ch p]) ++ [ch q]) (Br (ch (p ++ q)))→L2.Lx.lex (ch (d.foldl jn1 (T,p ++ q)).1)=(a ++ ([p,q]:List θ) ++ d).map ch:=fun T h=>by
  have:=(gQ d T (p ++ q) _ hd h).lex
  rw [this];simp
 by_cases c:(a.foldl jn1 (Ã,lpS)).2=lpS∨p ++ q=rpS
 ·rw [De c]
  refine fin _ ?_
  have h:=k 0 (.inr (.inl (.inl (by rw [c.resolve_right ne];exact c40))))
  rw [ch_app];exact h
 ·rw [Dd c]
  refine fin _ ?_
  have h:=k 1 (.inl DY)
  rw [ch_app,ch_app,c32,χ];exact h
section
variable {R:List O} {t:Tr} {n:Nat}
theorem oG (g:Gd t) {i:Nat} {p q:θ} (kp:Kx p) (kq:Kx q) (hb:Br (ch p)∨Br (ch q)) (h2:(p ++ q).length=2) (hg:¬ Gw p∨¬ Gw q):Rf (t.tok.take i ++ ([p ++ q]:List θ) ++ t.tok.drop (i+1)):=by
 have e:=Bl (a:=t.tok.take i) (d:=t.tok.drop (i+1)) (fun w m=>(g.kx w (ϯ m)).tok) (fun w m=>(g.kx w (Ϥ m)).tok) kp.tok kq.tok hb (by omega)
 have kk:∀ w∈t.tok.take i ++ ([p,q]:List θ) ++ t.tok.drop (i+1),Kx w:=fun w m=>by
  rw [χ,Ρ,Ρ] at m
  rcases m with m | m | m
  ·exact g.kx w (ϯ m)
  ·rcases φ.mp m with rfl | m
   ·exact kp
   ·rw [ι.mp m];exact kq
  ·exact g.kx w (Ϥ m)
 refine ⟨fun w m=>?_,?_,?_⟩
 ·rw [χ,Ρ,Ρ,ι] at m
  rcases m with m | rfl | m
  ·exact (g.kx w (ϯ m)).len
  ·omega
  ·exact (g.kx w (Ϥ m)).len
 ·have:=g.len
  rw [ζ,ζ,Ϡ,ω,ϖ];omega
 ·rw [e]
  exact ⟨fun w m=>⟨by have:=(kk w m).len;omega,(kk w m).asc⟩,i8 fun h=>hg.elim (fun x=>x (h.gw p (by simp))) fun x=>x (h.gw q (by simp))⟩
theorem zM (g:Gd t) {i:Nat} {w:θ} (hw:t.tok[i]? = some w) {x:Nat} (hx:BdS x) (k:Nat) (hk:k≤w.length) {a b:θ} (ea:ch a=(ch w).take k) (eb:ch b=(ch w).drop k):Rf (t.tok.take i ++ ([(a ++ one x) ++ b]:List θ) ++ t.tok.drop (i+1)):=by
 have m:=Ι hw
 have kw:=jX 8 t g.ok w m
 have ec:ch ((a ++ one x) ++ b)=((ch w).take k ++ [x]) ++ (ch w).drop k:=by rw [ch_app,ch_app,ea,eb];rfl
 by_cases hb:cF w=true
 ·have l1:(ch w).length=1:=by rcases rm hb with e | e <;> (rw [e];rfl)
  have k01:k=0∨k=1:=by rw [ch_len] at hk;omega
  rcases k01 with rfl | rfl
  ·have e:(a ++ one x) ++ b=one x ++ w:=L2.Lx.ch_inj (by rw [ec,ch_app];rfl)
   rw [e]
   exact oG g (sJ hx) (g.kx w m) (.inr (rm hb)) (by rw [bg,ch_len w,l1];rfl) (.inl (mx hx (w:=one x) (by rw [gE];simp)))
  ·have e:(a ++ one x) ++ b=w ++ one x:=L2.Lx.ch_inj (by rw [ec,ch_app,ç (by omega),F8 (by omega),Ν];rfl)
   rw [e]
   exact oG g (g.kx w m) (sJ hx) (.inl (rm hb)) (by rw [bg,ch_len w,l1];rfl) (.inr (mx hx (w:=one x) (by rw [gE];simp)))
 ·have wd:Wd (ch w):=by
   have nb:cF w=false:=by cases q:cF w;rfl;exact ZX q hb
   rcases kw.tok with e | e | e
   ·exact ZX (show cF w=true by rw [L2.Lx.ch_inj (x:=w) (y:=lpS) (e.trans (by decide +kernel))];rfl) hb
   ·exact ZX (show cF w=true by rw [L2.Lx.ch_inj (x:=w) (y:=rpS) (e.trans (by decide +kernel))];rfl) hb
   ·exact e
  have mem:∀ y∈ch ((a ++ one x) ++ b),y∈ch w∨y=x:=fun y my=>by
   rw [ec,Ρ,Ρ,ι] at my
   rcases my with (my | my) | my
   ·exact .inl (ϯ my)
   ·exact .inr my
   ·exact .inl (Ϥ my)
  have t1:=pP hx
  refine ud g i ⟨⟨?_,.inr (.inr ⟨by rw [ec];simp,fun y my=>?_⟩),fun y my=>?_⟩,mx hx (by rw [ec];simp)⟩
  ·have:=kw.len
   rw [ch_len,ec,ζ,ζ,Ϡ,ω,ϖ]
   rw [ch_len] at this;omega
  ·rcases mem y my with my | rfl
   ·exact wd.2 y my
   ·exact ⟨by have:=hx.1;omega,fun e=>hx.2.2.2 (by rw [e];decide),fun e=>hx.2.2.2 (by rw [e];decide)⟩
  ·rcases mem y my with my | rfl
   ·exact kw.asc y my
   ·exact hx.1.2
theorem Ce (r:Nat) (h:r<SG.length):∃ x,BdS x∧ixD (.str SG) (.int (r:Nat))=some (.str (one x)):=by
 have h2:r<(ch SG).length:=by rw [← ch_len];exact h
 refine ⟨(ch SG)[r],zV _ (Ö h2),?_⟩
 show (if SG.length≤100000 then (atI SG.cps.toList ((r:Nat):Int)).map fun c=>D.str ⟨#[c]⟩ else none)=_
 rw [ZZ (by decide +kernel),bq (show SG.cps.toList[r]? = some (ch SG)[r] from Ζ h2)];rfl
theorem zZ (g:Gd t) (c:Int):∃ ws,Rf ws∧af Γ (n+1) iC [.ref 0,.int c] (.lst (sD t.tok) :: R) = .ok (.lst (sD ws)) (.lst (sD t.tok) :: R):=by
 have hl:=g.len
 have tp:=jY t
 obtain ⟨i,hi,mi⟩:=eJ c t.tok.length tp
 have mi:opD .mod (.int c) (.int ((sD t.tok).length:Nat))=some (.int (i:Nat)):=by rw [ο];exact mi
 obtain ⟨w,hw⟩:∃ w,t.tok[i]? = some w:=⟨_,Ζ hi⟩
 have kw:=jX 8 t g.ok w (Ι hw)
 have lw:=kw.len
 have fd:opD .fdiv (.int c) (.int ((sD t.tok).length:Nat))=some (.int (c / (t.tok.length:Nat))):=by
  rw [ο];exact cZ c (by
   refine ⟨by omega,?_⟩
   have:(1200:Int)<2 ^ 200:=by decide
   omega)
 have iw:ixD (.lst (sD t.tok)) (.int (i:Nat))=some (.str w):=bq (by rw [ϑ,hw];rfl)
 have lnw:=y0 (x:=w) (by omega)
 obtain ⟨k,hk,mk⟩:=eJ (c / (t.tok.length:Nat)) (w.length+1) (by omega)
 have mk:opD .mod (.int (c / (t.tok.length:Nat))) (.int ((w.length:Int)+1))=some (.int (k:Nat)):=mk
 have z7:=cZ c (b:=7) (by decide)
 obtain ⟨r,hr⟩:∃ r:Nat,c / 7 % ((SG.length:Nat):Int)=r:=⟨(c / 7 % ((SG.length:Nat):Int)).toNat,by have:=Ep (c / 7) (b:=((SG.length:Nat):Int)) (by decide +kernel);omega⟩
 have r2:r<SG.length:=by have:=Ź (c / 7) (b:=((SG.length:Nat):Int)) (by decide +kernel);omega
 obtain ⟨x,hx,ix⟩:=Ce r r2
 rw [← hr] at ix
 have s1:slO (.str w) none (some ((k:Nat):Int))=some (.str (Ϗ w none (some (k:Int)))):=ZZ (by omega)
 have s2:slO (.str w) (some ((k:Nat):Int)) none=some (.str (Ϗ w (some (k:Int)) none)):=ZZ (by omega)
 have ea:=lP w k (by omega)
 have eb:=cV w k (by omega)
 have la:(Ϗ w none (some (k:Int))).length≤60:=by rw [ch_len,ea,Ϡ,← ch_len];omega
 have lb:(Ϗ w (some (k:Int)) none).length≤60:=by rw [ch_len,eb,ϖ,← ch_len];omega
 have l1:(one x).length=1:=rfl
 have b1:opD .add (.str (Ϗ w none (some (k:Int)))) (.str (one x))=some (.str (Ϗ w none (some (k:Int)) ++ one x)):=dU (by omega)
 have b2:opD .add (.str (Ϗ w none (some (k:Int)) ++ one x)) (.str (Ϗ w (some (k:Int)) none))=some (.str ((Ϗ w none (some (k:Int)) ++ one x) ++ Ϗ w (some (k:Int)) none)):=dU (by rw [bg];omega)
 obtain ⟨a1,a2⟩:=ui g hi ((Ϗ w none (some (k:Int)) ++ one x) ++ Ϗ w (some (k:Int)) none)
 exact ⟨_,zM g hw hx k (by omega) ea eb,(aa false (aX 1 (mi) (aX 1 (fd) (aX 0 (iw) (aX 0 (lnw) (aX 1 (mk) (aX 0 (z7) (aX 2 (ix) (aX 0 (iw) (aX 0 (s1) (aX 0 (b1) (aX 0 (s2) (aX 0 (b2) (aX 1 (a1) (aX 2 (a2) aZ)))))))))))))) (by kernel_rfl))⟩
end
open L2.Lx (ch ch_app ch_len)
abbrev wt (l:List θ):Nat:=(l.map fun w=>w.length+1).sum
theorem j6 (a b:List θ):wt (a ++ b)=wt a+wt b:=by unfold wt;rw [Ϭ,List.sum_append]
theorem eB (l:List D) (d:D):ixD (.lst (l ++ [d])) (.int (-1))=some d:=by
 show ((ixN (l ++ [d]).length (-1)).bind fun j=>(l ++ [d])[j]?)=some d
 have h1:ixN (l ++ [d]).length (-1)=some l.length:=by
  unfold ixN;rw [ζ,ω]
  simp
  omega
 rw [h1]
 simp
theorem kQ (b:Bool) (r x:Int):b=(r == x)→opD .eq (.int r) (.int x)=some (.bl b):=fun e=>by subst e;rfl
theorem zq (b:Bool) (r x:Int):b=decide (r<x)→opD .lt (.int r) (.int x)=some (.bl b):=fun e=>by subst e;rfl
theorem ju (m:Int) (h:0≤m∧m<26):∃ c:Nat,(97≤c∧c≤122)∧ixD (.str LET) (.int m)=some (.str (one c)):=by
 obtain ⟨k,rfl⟩:∃ k:Nat,m=k:=⟨m.toNat,by omega⟩
 have h2:k<(ch LET).length:=by rw [show (ch LET).length=26 by decide +kernel];omega
 refine ⟨(ch LET)[k],(jE _).mp (Ö h2),?_⟩
 show (if LET.length≤100000 then (atI LET.cps.toList ((k:Nat):Int)).map fun c=>D.str ⟨#[c]⟩ else none)=_
 rw [ZZ (by decide +kernel),bq (show LET.cps.toList[k]? = some (ch LET)[k] from Ζ h2)];rfl
theorem uc (c:Nat) (k:Nat):∀ a:Array Nat,((μ k #[c]).foldl (· ++ ·) a).toList=a.toList ++ μ k c:=by
 induction k with
 | zero=>intro a;simp
 | succ k ih=>intro a;rw [Ϯ,þ,ih,Fz,χ,Ϯ];rfl
theorem mul_one (c:Nat) (n:Int):ch (ĸ (one c) n)=μ n.toNat c:=by
 unfold ĸ
 split
 ·rw [show n.toNat=0 by omega];rfl
 ·split
  ·rename_i h
   have:n=1:=by
    rw [í,beq_iff_eq,beq_iff_eq] at h
    rcases h with h | h
    ·exact h
    ·exact ZX h (by show ¬ (1=0);decide)
   subst this
   rfl
  ·exact uc c _ #[]
theorem tN {c:Nat} (hc:97≤c∧c≤122) {x:θ} {k:Nat} (hk:1≤k∧k≤8) (e:ch x=μ k c):Nm x:=by
 have hl:x.length=k:=by rw [ch_len,e,Ϛ]
 refine ⟨by omega,fun y m=>by rw [e] at m;rw [ϵ m];exact hc,fun h=>?_,fun h=>?_⟩
 ·have m1:(121:Nat)∈ch x:=by rw [h];decide +kernel
  have m2:(101:Nat)∈ch x:=by rw [h];decide +kernel
  rw [e] at m1 m2
  have:=ϵ m1
  have:=ϵ m2
  omega
 ·have m1:(110:Nat)∈ch x:=by rw [h];decide +kernel
  have m2:(111:Nat)∈ch x:=by rw [h];decide +kernel
  rw [e] at m1 m2
  have:=ϵ m1
  have:=ϵ m2
  omega
theorem nu {c:Nat} (hc:97≤c∧c≤122):Nm (one c):=tN hc (k:=1) (by decide) rfl
theorem oM {i:Int} (h:i.natAbs<10 ^ 9):(aj i).length≤10:=by
 rw [ch_len]
 cases i with
 | ofNat m=>have:(dg m).length≤9:=ou (by decide) h;rw [show ch (aj (ņ m))=dg m from aW m];omega
 | negSucc m=>have:(dg (m+1)).length≤9:=ou (by decide) h;rw [dW,ψ];omega
abbrev lws:List θ:=["whole","truth","given","name"]
structure Lf (t:Tr):Prop where
 sz:t.sz=1
 odd:∀ o f n,t.tokO o f n=t.tok
 ok:∀ r,Ok (r+1) t
 inn:∀ o n,¬ inn o t n
theorem Dh (xs:List Int) (k:Nat) (hk:k<4):∃ (t:Tr) (xs':List Int),Lf t∧t.tok.length≤4∧wt t.tok≤25∧∃ W:θ,lws[k]? = some W∧∀ (n:Nat) (b:Bool) (A B C E:O) (w us od:List D) (u:Nat),w.length≤20000→af Γ (n+2) kI [xr b,.int (u:Nat),.str W,wr b] (St b A B C E w xs us od) = .ok (t.toD idp u) (St b A B C E (w ++ sD t.tok) xs' us od):=by
 obtain ⟨v,x1,hv,en⟩:=next xs (10 ^ 9) (by decide)
 have:k=0∨k=1∨k=2∨k=3:=by omega
 rcases this with rfl | rfl | rfl | rfl
 ·have hi:(v - 10 ^ 8).natAbs<10 ^ 9:=by omega
  refine ⟨.num (v - 10 ^ 8),x1,⟨rfl,fun _ _ _=>rfl,fun r=>.num r _ (by omega),fun _ _ h=>h⟩,by show 1≤4;decide,?_,_,rfl,fun n b A B C E w us od u hw=>?_⟩
  ·have:=oM hi
   show (aj (v - 10 ^ 8)).length+1+0≤25;omega
  ·have en:=en n b A B C E w us od
   have c0:decide (w.length<100000)=true:=ZW (by omega)
   have ns:=wm (i:=v - 10 ^ 8) (by omega)
   cases b <;> exact (aa false (aX 0 (en) (aX 9 (ns) (aX 0 (c0) aZ))) (by kernel_rfl))
 ·have:v % 2=0∨v % 2=1:=by omega
  rcases this with h | h
  ·refine ⟨.tru false,x1,⟨rfl,fun _ _ _=>rfl,fun r=>.tru r _,fun _ _ h=>h⟩,by show 1≤4;decide,by decide +kernel,_,rfl,fun n b A B C E w us od u hw=>?_⟩
   have en:=en n b A B C E w us od
   have c0:decide (w.length<100000)=true:=ZW (by omega)
   have m2:=aY h (b:=2) (by decide)
   cases b <;> exact (aa false (aX 0 (en) (aX 5 (m2) (aX 1 (c0) (aX 0 (m2) aZ)))) (by kernel_rfl))
  ·refine ⟨.tru true,x1,⟨rfl,fun _ _ _=>rfl,fun r=>.tru r _,fun _ _ h=>h⟩,by show 1≤4;decide,by decide +kernel,_,rfl,fun n b A B C E w us od u hw=>?_⟩
   have en:=en n b A B C E w us od
   have c0:decide (w.length<100000)=true:=ZW (by omega)
   have m2:=aY h (b:=2) (by decide)
   cases b <;> exact (aa false (aX 0 (en) (aX 5 (m2) (aX 1 (c0) (aX 0 (m2) aZ)))) (by kernel_rfl))
 ·obtain ⟨k,hk,m8⟩:=eJ v 8 (by decide)
  have hi:((k:Nat):Int).natAbs<10 ^ 9:=by show k<_;omega
  refine ⟨.giv k,x1,⟨rfl,fun _ _ _=>rfl,fun r=>.giv r k (by omega),fun _ _ h=>h⟩,by show 4≤4;decide,?_,_,rfl,fun n b A B C E w us od u hw=>?_⟩
  ·have:=oM hi
   show 1+1+(5+1+((aj (k:Nat)).length+1+(1+1+0)))≤25;omega
  ·have en:=en n b A B C E w us od
   have c0:decide (w.length+4≤100000)=true:=ZW (by omega)
   have ns:=wm (i:=(k:Nat)) (by show k<_;omega)
   cases b <;> exact (aa false (aX 0 (en) (aX 3 (m8) (aX 0 (ns) (aX 0 (c0) (aX 0 (m8) aZ))))) (by kernel_rfl))
 ·obtain ⟨z,hz⟩:∃ z,v % 26=z:=⟨_,rfl⟩
  obtain ⟨c,hc,ix⟩:=ju z (by omega)
  have m26:=aY hz (b:=26) (by decide)
  have z26:=cZ v (b:=26) (by decide)
  obtain ⟨r,hr,m8⟩:=eJ (v / 26) 8 (by decide)
  have ad:opD .add (.int 1) (.int (r:Nat))=some (.int ((1+r:Nat):Int)):=ZS (fun z=>some (D.int z)) (by omega)
  have ml:smO .mull (.tup [.str (one c),.int ((1+r:Nat):Int)])=some (.str (ĸ (one c) ((1+r:Nat):Int))):=by
   show (if _ then some (D.str _) else none)=_
   rw [ZZ ⟨by omega,by omega,by show 1≤10;decide⟩]
  have ex:ch (ĸ (one c) ((1+r:Nat):Int))=μ (1+r) c:=by rw [mul_one,Ļ]
  have nm:=tN hc (k:=1+r) (by omega) ex
  have lx:(ĸ (one c) ((1+r:Nat):Int)).length=1+r:=by rw [ch_len,ex,Ϛ]
  revert nm ml lx
  generalize ĸ (one c) ((1+r:Nat):Int)=x
  intro ml nm lx
  refine ⟨.nam x,x1,⟨rfl,fun _ _ _=>rfl,fun r=>.nam r x nm,fun _ _ h=>h⟩,by show 1≤4;decide,by show x.length+1+0≤25;omega,_,rfl,fun n b A B C E w us od u hw=>?_⟩
  have en:=en n b A B C E w us od
  have c0:decide (w.length<100000)=true:=ZW (by omega)
  have il:=eB w (.str x)
  cases b <;> exact (aa false (aX 0 (en) (aX 7 (m26) (aX 0 (ix) (aX 0 (z26) (aX 0 (m8) (aX 0 (ad) (aX 0 (ml) (aX 0 (c0) (aX 0 (il) aZ))))))))) (by kernel_rfl))
abbrev wds:List θ:=["whole","truth","given","name","call","if","do","let","fn","self","row","at","size","pair","one","two","as"]
theorem wS (k:Nat) (h:k<4) {W:θ} (e:lws[k]? = some W) (n:Nat) (S:List O):af Γ (n+1) fV [.int (k:Nat)] S = .ok (.str W) S:=by
 have:k=0∨k=1∨k=2∨k=3:=by omega
 rcases this with rfl | rfl | rfl | rfl <;> (cases e;kernel_rfl)
abbrev hds:List Hd:=[.call,.if_,.do_,.let_,.fn,.self,.row,.at_,.size,.pair,.one,.two,.as_]
theorem wR (k:Nat) (h:4≤k∧k<17):∃ H:Hd,∀ (n:Nat) (S:List O),af Γ (n+1) fV [.int (k:Nat)] S = .ok (.str H.str) S:=by
 have hk:k - 4<hds.length:=by show k - 4<13;omega
 refine ⟨hds[k - 4],fun n S=>?_⟩
 have ix:ixD (.lst (sD wds)) (.int (k:Nat))=some (.str (hds[k - 4]).str):=by
  have:k=4∨k=5∨k=6∨k=7∨k=8∨k=9∨k=10∨k=11∨k=12∨k=13∨k=14∨k=15∨k=16:=by omega
  rcases this with rfl | rfl | rfl | rfl | rfl | rfl | rfl | rfl | rfl | rfl | rfl | rfl | rfl <;> kernel_rfl
 exact (aa false (aX 1 (ix) aZ) (by kernel_rfl))
theorem Dj (h:Hd) (xs:List Int):∃ (m:Nat) (xs':List Int),dS h m∧m≤4∧∀ (n:Nat) (b:Bool) (A B C E:O) (w us od:List D),af Γ (n+2) kJ [xr b,.str h.str] (St b A B C E w xs us od) = .ok (.int (m:Nat)) (St b A B C E w xs' us od):=by
 by_cases c:h = .row
 ·subst c
  obtain ⟨v,x1,hv,en⟩:=next xs 5 (by decide)
  obtain ⟨m,rfl⟩:∃ m:Nat,v=m:=⟨v.toNat,by omega⟩
  refine ⟨m,x1,by show m≤4;omega,by omega,fun n b A B C E w us od=>?_⟩
  have en:=en n b A B C E w us od
  cases b <;> exact (aa false (aX 0 (en) aZ) (by kernel_rfl))
 ·refine ⟨h.np,xs,by unfold dS;rw [ZY c],by cases h <;> decide,fun n b A B C E w us od=>?_⟩
  cases h <;> first | exact ZX rfl c | (cases b <;> kernel_rfl)
theorem Do (r:Int) (h:0≤r∧r<5):∃ s∈sgs,s.length=1∧ixD (.str "+-*<=") (.int r)=some (.str s):=by
 have:r=0∨r=1∨r=2∨r=3∨r=4:=by omega
 rcases this with rfl | rfl | rfl | rfl | rfl
 ·exact ⟨"+",by decide +kernel,by decide +kernel,by kernel_rfl⟩
 ·exact ⟨"-",by decide +kernel,by decide +kernel,by kernel_rfl⟩
 ·exact ⟨"*",by decide +kernel,by decide +kernel,by kernel_rfl⟩
 ·exact ⟨"<",by decide +kernel,by decide +kernel,by kernel_rfl⟩
 ·exact ⟨"=",by decide +kernel,by decide +kernel,by kernel_rfl⟩
theorem yr (h:Hd):h.str.length≤4:=by cases h <;> decide +kernel
theorem Be (h:Hd) (xs:List Int):∃ (fr:List θ) (xs':List Int),bI h fr∧wt (h.pre ++ fr)≤5+2 * (if h = .do_ then 0 else h.nf)∧∀ (n:Nat) (b:Bool) (A B C E:O) (w us od:List D),w.length≤20000→af Γ (n+2) jv [xr b,.str h.str,wr b] (St b A B C E w xs us od) = .ok (.lst (sD fr)) (St b A B C E (w ++ sD (h.pre ++ fr)) xs' us od):=by
 have hl:=yr h
 by_cases c:h = .do_
 ·subst c
  obtain ⟨v,x1,hv,en⟩:=next xs 5 (by decide)
  obtain ⟨s,hs,ls,ix⟩:=Do v hv
  refine ⟨[s],x1,by unfold bI;rw [ZZ rfl];exact ⟨s,hs,rfl⟩,by rw [ZZ rfl];show s.length+1+0≤5+0;omega,fun n b A B C E w us od hw=>?_⟩
  have en:=en n b A B C E w us od
  have c0:decide (w.length<100000)=true:=ZW (by omega)
  have il:=eB w (.str s)
  cases b <;> exact (aa false (aX 0 (en) (aX 0 (ix) (aX 0 (c0) (aX 0 (il) aZ)))) (by kernel_rfl))
 ·have ed:opD .eq (.str h.str) (.str "do")=some (.bl false):=by have:=(Bp h).2.2.2;rw [ZV c] at this;exact this
  have ct:smO .cnt (.tup [.lst [.str "fn",.str "let",.str "self",.str "self"],.str h.str])=some (.int (h.nf:Nat)):=by cases h <;> kernel_rfl
  have pe:h.pre = [h.str]:=by unfold Hd.pre;rw [ZY c]
  have fk:∀ fr:List θ,fr.length=h.nf→(∀ w∈fr,Nm w)→bI h fr:=fun fr h1 h2=>by unfold bI;rw [ZY c];exact ⟨h1,h2⟩
  have n3:h.nf=0∨h.nf=1∨h.nf=2:=by cases h <;> decide
  have e1:∀ (w:List D) (fr:List θ),w ++ sD (h.pre ++ fr)=(w ++ [.str h.str]) ++ sD fr:=fun w fr=>by rw [pe,χ];rfl
  have lo:∀ c:Nat,(one c).length=1:=fun c=>rfl
  rw [ZY c,pe]
  rcases n3 with e | e | e
  ·rw [e] at ct
   refine ⟨[],xs,fk _ (by rw [e];rfl) (fun w m=>nomatch m),by rw [e];show h.str.length+1+0≤_;omega,fun n b A B C E w us od hw=>?_⟩
   rw [← pe,e1]
   have c0:decide (w.length<100000)=true:=ZW (by omega)
   have c1:decide ((w ++ [D.str h.str]).length+0≤100000)=true:=ZW (by rw [ζ,ω];omega)
   cases b <;> exact (aa false (aX 0 (ed) (aX 2 (c0) (aX 0 (ct) (aX 2 (c1) aZ)))) (by kernel_rfl))
  ·rw [e] at ct
   obtain ⟨v,x1,hv,en⟩:=next xs 26 (by decide)
   obtain ⟨x,hx,ix⟩:=ju v hv
   refine ⟨[one x],x1,fk _ (by rw [e];rfl) (fun w m=>by rw [ι.mp m];exact nu hx),by rw [e];show h.str.length+1+((one x).length+1+0)≤_;rw [lo];omega,fun n b A B C E w us od hw=>?_⟩
   rw [← pe,e1]
   have en:=en n b A B C E (w ++ [.str h.str]) us od
   have c0:decide (w.length<100000)=true:=ZW (by omega)
   have c1:decide ((w ++ [D.str h.str]).length+1≤100000)=true:=ZW (by rw [ζ,ω];omega)
   cases b <;> exact (aa false (aX 0 (ed) (aX 2 (c0) (aX 0 (ct) (aX 0 (en) (aX 0 (ix) (aX 2 (c1) aZ)))))) (by kernel_rfl))
  ·rw [e] at ct
   obtain ⟨v,x1,hv,en⟩:=next xs 26 (by decide)
   obtain ⟨x,hx,ix⟩:=ju v hv
   obtain ⟨v2,x2,hv2,en2⟩:=next x1 26 (by decide)
   obtain ⟨y,hy,ix2⟩:=ju v2 hv2
   refine ⟨[one x,one y],x2,fk _ (by rw [e];rfl) (fun w m=>by rcases φ.mp m with rfl | m;exact nu hx;rw [ι.mp m];exact nu hy),by rw [e];show h.str.length+1+((one x).length+1+((one y).length+1+0))≤_;rw [lo,lo];omega,fun n b A B C E w us od hw=>?_⟩
   rw [← pe,e1]
   have en:=en n b A B C E (w ++ [.str h.str]) us od
   have en2:=en2 n b A B C E (w ++ [.str h.str]) us od
   have c0:decide (w.length<100000)=true:=ZW (by omega)
   have c1:decide ((w ++ [D.str h.str]).length+2≤100000)=true:=ZW (by rw [ζ,ω];omega)
   cases b <;> exact (aa false (aX 0 (ed) (aX 2 (c0) (aX 0 (ct) (aX 0 (en) (aX 0 (ix) (aX 0 (en2) (aX 0 (ix2) (aX 2 (c1) aZ)))))))) (by kernel_rfl))
theorem zk (y:Int) (h:0≤y∧y<3):∃ l:L3,l.str.length≤5∧ixD (.lst [.str "whole",.str "truth",.str "?"]) (.int y)=some (.str l.str):=by
 have:y=0∨y=1∨y=2:=by omega
 rcases this with rfl | rfl | rfl
 ·exact ⟨.whole,by decide +kernel,rfl⟩
 ·exact ⟨.truth,by decide +kernel,rfl⟩
 ·exact ⟨.unt,by decide +kernel,rfl⟩
theorem BE (h:Hd) (xs:List Int):∃ (ks:List Kd) (xs':List Int),ks.length=h.nk∧(∀ k∈ks,k.dep≤6)∧(ks.flatMap Kd.tok).length=h.nk∧wt (ks.flatMap Kd.tok)≤6 * h.nk∧∀ (n:Nat) (b:Bool) (A B C E:O) (w us od:List D),w.length≤20000→af Γ (n+2) jw [xr b,.str h.str,wr b] (St b A B C E w xs us od) = .ok (.lst (ks.map Kd.toD)) (St b A B C E (w ++ sD (ks.flatMap Kd.tok)) xs' us od):=by
 have ct:smO .cnt (.tup [.lst [.str "fn",.str "self",.str "self",.str "row",.str "as"],.str h.str])=some (.int (h.nk:Nat)):=by cases h <;> kernel_rfl
 have n3:h.nk=0∨h.nk=1∨h.nk=2:=by cases h <;> decide
 rcases n3 with e | e | e
 ·rw [e] at ct ⊢
  refine ⟨[],xs,rfl,(fun k m=>nomatch m),rfl,by decide,fun n b A B C E w us od hw=>?_⟩
  rw [show sD (([]:List Kd).flatMap Kd.tok) = [] from rfl,Ν]
  cases b <;> exact (aa false (aX 0 (ct) aZ) (by kernel_rfl))
 ·rw [e] at ct ⊢
  obtain ⟨v,x1,hv,en⟩:=next xs 3 (by decide)
  obtain ⟨l,ll,ix⟩:=zk v hv
  refine ⟨[.lf l],x1,rfl,fun k m=>by rw [ι.mp m];show 1≤6;decide,rfl,by show l.str.length+1+0≤6;omega,fun n b A B C E w us od hw=>?_⟩
  have en:=en n b A B C E w us od
  have c0:decide (w.length<100000)=true:=ZW (by omega)
  have il:=eB w (.str l.str)
  cases b <;> exact (aa false (aX 0 (ct) (aX 0 (en) (aX 0 (ix) (aX 0 (c0) (aX 0 (il) aZ))))) (by kernel_rfl))
 ·rw [e] at ct ⊢
  obtain ⟨v,x1,hv,en⟩:=next xs 3 (by decide)
  obtain ⟨l,ll,ix⟩:=zk v hv
  obtain ⟨v2,x2,hv2,en2⟩:=next x1 3 (by decide)
  obtain ⟨l2,ll2,ix2⟩:=zk v2 hv2
  refine ⟨[.lf l,.lf l2],x2,rfl,fun k m=>by rcases φ.mp m with rfl | m;(show 1≤6;decide);rw [ι.mp m];show 1≤6;decide,rfl,by show l.str.length+1+(l2.str.length+1+0)≤12;omega,fun n b A B C E w us od hw=>?_⟩
  have en:=en n b A B C E w us od
  have en2:=en2 n b A B C E (w ++ [.str l.str]) us od
  have c0:decide (w.length<100000)=true:=ZW (by omega)
  have c1:decide ((w ++ [D.str l.str]).length<100000)=true:=ZW (by rw [ζ,ω];omega)
  have il:=eB w (.str l.str)
  have il2:=eB (w ++ [.str l.str]) (.str l2.str)
  have we:w ++ sD (([.lf l,.lf l2]:List Kd).flatMap Kd.tok)=(w ++ [.str l.str]) ++ [.str l2.str]:=by rw [χ];rfl
  rw [we]
  cases b <;> exact (aa false (aX 0 (ct) (aX 0 (en) (aX 0 (ix) (aX 0 (c0) (aX 0 (il) (aX 0 (en2) (aX 0 (ix2) (aX 0 (c1) (aX 0 (il2) aZ))))))))) (by kernel_rfl))
open L2.Lx (ch ch_app ch_len)
mutual
noncomputable def Tr.fl:Tr→List Int
 | .nd _ _ _ ps=>1 :: fls ps
 | .num _=>[0]
 | .tru _=>[0]
 | .giv _=>[0]
 | .nam _=>[0]
noncomputable def fls:List Tr→List Int
 | []=>[]
 | p :: r=>p.fl ++ fls r
end
mutual
theorem gM:∀ t:Tr,t.fl.length=t.sz
 | .nd _ _ _ ps=>by show (fls ps).length+1=1+szs ps;rw [oA ps];omega
 | .num _=>rfl
 | .tru _=>rfl
 | .giv _=>rfl
 | .nam _=>rfl
theorem oA:∀ ps:List Tr,(fls ps).length=szs ps
 | []=>rfl
 | p :: r=>by show (p.fl ++ fls r).length=p.sz+szs r;rw [ζ,gM p,oA r]
end
mutual
theorem rU:∀ (t:Tr) (o n:Nat),t.fl[o]? = some 1→inn (n+o) t n
 | .nd _ _ _ ps,o,n,h=>by
   cases o with
   | zero=>exact .inl rfl
   | succ o=>
     right
     have h:(fls ps)[o]? = some 1:=h
     have:=oz ps o (n+1) h
     rw [show n+(o+1)=n+1+o by omega];exact this
 | .num _,o,n,h=>by cases o <;> cases h
 | .tru _,o,n,h=>by cases o <;> cases h
 | .giv _,o,n,h=>by cases o <;> cases h
 | .nam _,o,n,h=>by cases o <;> cases h
theorem oz:∀ (ps:List Tr) (o n:Nat),(fls ps)[o]? = some 1→jt (n+o) ps n
 | [],o,n,h=>by cases h
 | p :: r,o,n,h=>by
   have h:(p.fl ++ fls r)[o]? = some 1:=h
   by_cases c:o<p.fl.length
   ·rw [ϓ c] at h
    exact .inl (rU p o n h)
   ·rw [Χ (by omega),gM] at h
    rw [gM] at c
    have:=oz r (o - p.sz) (n+p.sz) h
    right
    rw [show n+o=n+p.sz+(o - p.sz) by omega];exact this
end
theorem BR {t:Tr} (h:Lf t):t.fl = [0]:=by
 cases t with
 | nd=>exact ZX (.inl rfl) (h.inn 0 0)
 | _=>rfl
mutual
theorem io (o:Int) (f:Bool):∀ (t:Tr) (n:Nat),(t.tokO o f n).length≤t.tok.length+5 * t.sz
 | .num i,n=>ĕ _ _
 | .tru b,n=>ĕ _ _
 | .giv k,n=>ĕ _ _
 | .nam w,n=>ĕ _ _
 | .nd h fr ks ps,n=>by
   have i:=fP o f ps (n+1)
   have e:(odd o f h ps.length n (ax o f ps (n+1))).length≤(ax o f ps (n+1)).length+5:=by
    unfold odd
    split
    ·split
     ·rw [ζ,Ϛ];omega
     ·split
      ·rw [ζ,ω];omega
      ·rw [ŝ];omega
    ·omega
   show (lpS :: ((h.pre ++ fr) ++ (ks.flatMap Kd.tok ++ (odd o f h ps.length n (ax o f ps (n+1)) ++ ([rpS]:List θ))))).length≤(lpS :: ((h.pre ++ fr) ++ (ks.flatMap Kd.tok ++ (toks ps ++ ([rpS]:List θ))))).length+5 * (1+szs ps)
   simp only [ψ,ζ,Ϧ]
   omega
theorem fP (o:Int) (f:Bool):∀ (ps:List Tr) (n:Nat),(ax o f ps n).length≤(toks ps).length+5 * szs ps
 | [],n=>À _
 | p :: r,n=>by
   have a:=io o f p n
   have b:=fP o f r (n+p.sz)
   show (p.tokO o f n ++ ax o f r (n+p.sz)).length≤(p.tok ++ toks r).length+5 * (p.sz+szs r)
   rw [ζ,ζ];omega
end
abbrev iD (l:List Int):List D:=l.map D.int
abbrev Wd (b:Bool):D:=.tup [xr b,wr b,ur b,dr b]
abbrev pE:E:=.call 17 (.cons (.v 1) (.cons (.op .sub (.v 2) (.c (.int 1))) .nil))
def TrO (r:Nat):Prop:=∀ (xs:List Int) (u:Nat),∃ (t:Tr) (xs':List Int),Ok r t∧t.tok.length≤9 * t.sz∧wt t.tok≤25 * t.sz∧u+t.sz≤max (u+1) (61+3 * (r - 1))∧∀ (n:Nat) (b:Bool) (A B C E:O) (w us:List D) (o:Int) (f g:Bool),us.length=u→u≤1000→w.length+20 * r≤14 * u+200→∃ g':Bool,af Γ (n+r+10) fU [Wd b,.int r] (St b A B C E w xs us [.int o,.bl f,.bl g]) = .ok (t.toD idp u) (St b A B C E (w ++ sD (t.tokO o f u)) xs' (us ++ iD t.fl) [.int o,.bl f,.bl g'])
theorem Aa (t:Tr):1≤t.sz:=by cases t <;> simp [Tr.sz]
theorem xG {r:Nat} (hr:r≤8) (ih:TrO r):∀ (k a:Nat) (xs:List Int) (u:Nat),∃ (ps:List Tr) (xs':List Int),ps.length=k∧(∀ q∈ps,Ok r q)∧(toks ps).length≤9 * szs ps∧wt (toks ps)≤25 * szs ps∧u+szs ps≤max (u+k) (61+3 * (r - 1)+k - 1)∧∀ (n:Nat) (b:Bool) (A B C E:O) (w us:List D) (o:Int) (f g:Bool) (R:List (Option D)) (acc:List D) (e:Option D),us.length=u→u+k≤1000→k≤10→w.length+20 * r≤14 * u+200→acc.length+k≤100→∃ (g':Bool) (e':Option D),bx (lcQ Γ (af Γ (n+r+10)) (ao Γ (n+r+10)) [0] true pE (.c (.bl true))) (ixs a k) acc ⟨e :: some (Wd b) :: some (.int ((r+1:Nat):Int)) :: R,[],St b A B C E w xs us [.int o,.bl f,.bl g]⟩ = .ok (.lst (acc ++ toDs idp u ps)) ⟨e' :: some (Wd b) :: some (.int ((r+1:Nat):Int)) :: R,[],St b A B C E (w ++ sD (ax o f ps u)) xs' (us ++ iD (fls ps)) [.int o,.bl f,.bl g']⟩
 | 0,a,xs,u=>⟨[],xs,rfl,(fun k m=>nomatch m),ύ _,ύ _,by show u+0≤_;omega,fun n b A B C E w us o f g R acc e hu _ _ _ _=>⟨g,e,by rw [show ax o f [] u = [] from rfl,show toDs idp u [] = [] from rfl,show iD (fls []) = [] from rfl,Ν,show sD [] = [] from rfl,Ν,Ν];rfl⟩⟩
 | k+1,a,xs,u=>by
   obtain ⟨t,x1,ok,hl,hwt,hz,et⟩:=ih xs u
   have tp:=Aa t
   obtain ⟨ps,x2,h1,h2,h3,h3w,h4,g0⟩:=xG hr ih k (a+1) x1 (u+t.sz)
   refine ⟨t :: ps,x2,by rw [ψ,h1],fun q mq=>by rcases φ.mp mq with rfl | mq;exact ok;exact h2 q mq,by show (t.tok ++ toks ps).length≤9 * (t.sz+szs ps);rw [ζ];omega,by show wt (t.tok ++ toks ps)≤25 * (t.sz+szs ps);rw [j6];omega,by show u+(t.sz+szs ps)≤_;omega,fun n b A B C E w us o f g R acc e hu h5 h6 hw ha=>?_⟩
   obtain ⟨g1,et⟩:=et n b A B C E w us o f g hu (by omega) hw
   have lo:=io o f t u
   have lfl:(us ++ iD t.fl).length=u+t.sz:=by rw [ζ,ο,gM,hu]
   obtain ⟨g2,e',q⟩:=g0 n b A B C E (w ++ sD (t.tokO o f u)) (us ++ iD t.fl) o f g1 R (acc ++ [t.toD idp u]) (some (.int (a:Int))) lfl (by omega) (by omega) (by rw [ζ,ο];omega) (by rw [ζ,ω];omega)
   have ef:iD (fls (t :: ps))=iD t.fl ++ iD (fls ps):=Ϭ
   rw [χ,χ,χ,← bW,← ef] at q
   refine ⟨g2,e',?_⟩
   have oS:opD .sub (.int ((r+1:Nat):Int)) (.int 1)=some (.int (r:Nat)):=ZS (fun z=>some (D.int z)) (by omega)
   have el:ev Γ (af Γ (n+r+10)) (ao Γ (n+r+10)) false pE ⟨some (.int (a:Int)) :: some (Wd b) :: some (.int ((r+1:Nat):Int)) :: R,[],St b A B C E w xs us [.int o,.bl f,.bl g]⟩ = .ok (t.toD idp u) ⟨some (.int (a:Int)) :: some (Wd b) :: some (.int ((r+1:Nat):Int)) :: R,[],St b A B C E (w ++ sD (t.tokO o f u)) x1 (us ++ iD t.fl) [.int o,.bl f,.bl g1]⟩:=by cases b <;> exact (fY false (aX 0 (oS) (aX 0 (et) aZ)) (by kernel_rfl))
   exact cR (d6 rfl (by cases b <;> rfl) el) (by omega) q
theorem ye {H:Hd} {m:Nat} (h4:dS H m) (m4:m≤4):2 * (if H = .do_ then 0 else H.nf)+6 * H.nk≤16∧(if H = .do_ then 0 else H.nf)+H.nk≤4:=by cases H <;> decide
theorem ww {H:Hd} {fr:List θ} (h1:bI H fr):(H.pre ++ fr).length≤1+(if H = .do_ then 0 else H.nf):=by
 unfold bI at h1
 unfold Hd.pre
 by_cases c:H = .do_
 ·rw [ZZ c] at h1 ⊢
  obtain ⟨s,_,rfl⟩:=h1
  rw [ZZ c];exact ύ _
 ·rw [ZY c] at h1 ⊢
  rw [ZY c,ζ,h1.1];exact ύ _
theorem wx (us:List D) {u:Nat} (hu:us.length=u):(us ++ [D.int 0]).set u (.int 1)=us ++ [.int 1]:=by subst hu;simp
open L2.Lx (ch ch_app ch_len)
theorem dy {Γ:Gm} {c1 c2:Nat→List D→List O→Res} (n:Nat) {c:S} {s s1:Sta} {r:Res} (h:exS Γ c1 c2 (hdS n c) s = .nx s1) (h2:toR (exS Γ c1 c2 (tlS n c) s1)=r):toR (exS Γ c1 c2 c s)=r:=by rw [iR n,h];exact h2
theorem zL (us:List D) {u:Nat} (hu:us.length=u):fL (.lst (us ++ [.int 0])) (.int (u:Nat)) (.int 1)=some (.lst (us ++ [.int 1])):=by
 have e:ixN (us ++ [D.int 0]).length ((u:Nat):Int)=some u:=by
  unfold ixN
  rw [ζ,ω,hu]
  simp
  omega
 show ((ixN (us ++ [D.int 0]).length ((u:Nat):Int)).map fun j=>(us ++ [D.int 0]).set j (.int 1)).map O.lst=_
 rw [e]
 show some (O.lst ((us ++ [D.int 0]).set u (.int 1)))=_
 rw [wx us hu]
abbrev tB:S:=fT.body
abbrev tE (b:Bool) (room u v:Int) (W:θ) (e9 e10 e11 e12:Option D):List (Option D):=[some (Wd b),some (.int room),some (xr b),some (wr b),some (ur b),some (dr b),some (.int u),some (.int v),some (.str W),e9,e10,e11,e12]
section
variable {n:Nat} {b:Bool} {A B C E:O} {w us od:List D} {xs:List Int}
theorem jM {c1 c2:Nat→List D→List O→Res} {room v:Int} {u:Nat} {W:θ} (hu:us.length=u):exS Γ c1 c2 (hdS 0 (tlS 5 tB)) ⟨tE b room (u:Nat) v W none none none none,[],St b A B C E w xs (us ++ [.int 0]) od⟩ = .nx ⟨tE b room (u:Nat) v W none none none none,[],St b A B C E w xs (us ++ [.int 1]) od⟩:=by
 have hs:hdS 0 (tlS 5 tB) = .put (.v 4) (.v 6) (.c (.int 1)):=by kernel_rfl
 rw [hs]
 have hp:=zL us hu
 cases b
 ·show (match (fL (.lst (us ++ [.int 0])) (.int (u:Nat)) (.int 1)) with | some o=>ah.nx ⟨_,_,List.set _ _ o⟩ | none=>.bad)=_
  rw [hp];rfl
 ·show (match (fL (.lst (us ++ [.int 0])) (.int (u:Nat)) (.int 1)) with | some o=>ah.nx ⟨_,_,List.set _ _ o⟩ | none=>.bad)=_
  rw [hp];rfl
theorem zy {m0:Nat} {room v o:Int} {u:Nat} {H:Hd} {f g:Bool} {fr:List θ} {ks:List D} {ps:List D} {m:Nat} (h4:dS H m) (m4:m≤4) {l:List θ} (hl:l≠[]∨m=0) (hw:w.length+l.length≤50000):∃ g',exS Γ (af Γ m0) (ao Γ m0) (hdS 0 (tlS 4 (tlS 0 (tlS 5 tB)))) ⟨tE b room (u:Nat) v H.str (some (.lst (sD fr))) (some (.lst ks)) (some (.int (m:Nat))) (some (.lst ps)),[12],St b A B C E (w ++ sD l) xs us [.int o,.bl f,.bl g]⟩ = .nx ⟨tE b room (u:Nat) v H.str (some (.lst (sD fr))) (some (.lst ks)) (some (.int (m:Nat))) (some (.lst ps)),[12],St b A B C E (w ++ sD (odd o f H m u l)) xs us [.int o,.bl f,.bl g']⟩:=by
 unfold odd
 by_cases c:((u:Nat):Int)=o
 ·subst c
  have e0:opD .eq (.int ((u:Nat):Int)) (.int ((u:Nat):Int))=some (.bl true):=vd _
  rw [ZZ rfl]
  by_cases cr:H = .row
  ·have er:opD .eq (.str H.str) (.str "row")=some (.bl true):=by subst cr;rfl
   have os:opD .sub (.int 5) (.int (m:Nat))=some (.int ((5 - m:Nat):Int)):=ZS (fun z=>some (D.int z)) (by omega)
   have ml:smO .mull (.tup [.lst [.str svS],.int ((5 - m:Nat):Int)])=some (.lst (sD (μ (5 - m) svS))):=by
    show (if _ then some (D.lst (μ ((5 - m:Nat):Int).toNat [D.str svS]).flatten) else none)=_
    rw [ZZ ⟨by omega,by omega,rfl⟩,Ļ,wA]
    exact ZS (fun l=>some (D.lst l)) FY.symm
   have ct:decide ((w ++ sD l).length+(sD (μ (5 - m) svS)).length≤100000)=true:=ZW (by rw [ζ,ο,ο,Ϛ];omega)
   rw [ZZ cr,bW,← χ]
   exact ⟨true,by cases b <;> exact (bp false (aX 1 (e0) (aX 1 (er) (aX 3 (er) (aX 1 (os) (aX 0 (ml) (aX 0 (ct) aZ)))))) (by kernel_rfl))⟩
  ·have er:opD .eq (.str H.str) (.str "row")=some (.bl false):=by revert cr;cases H <;> intro cr <;> first | exact ZX rfl cr | rfl
   rw [ZY cr]
   cases f with
   | true=>
     have ct:decide ((w ++ sD l).length+1≤100000)=true:=ZW (by rw [ζ,ο];omega)
     rw [ZZ rfl,bW,← χ]
     exact ⟨true,by cases b <;> exact (bp false (aX 1 (e0) (aX 1 (er) (aX 5 (er) (aX 2 (ct) aZ)))) (by kernel_rfl))⟩
   | false=>
     rw [ZY (by decide)]
     have ne:l≠[]:=hl.resolve_right fun e=>by
      unfold dS at h4
      rw [ZY cr] at h4
      rw [e] at h4
      revert cr h4;cases H <;> intro p q <;> first | exact ZX rfl p | exact ZX rfl q | exact ZX p (by decide) | exact ZX q (by decide)
     rcases ŕ l with rfl | ⟨l0,x,e⟩
     ·exact ZX rfl ne
     ·rw [ŗ] at e
      subst e
      have g1:(w ++ sD (l0 ++ [x])).getLast? = some (.str x):=by rw [bW,← χ];exact Fv
      have g2:(w ++ sD (l0 ++ [x])).dropLast=w ++ sD l0:=by rw [bW,← χ];exact ö
      rw [ö,← g2]
      exact ⟨true,by cases b <;> exact (bp false (aX 1 (e0) (aX 1 (er) (aX 5 (e0) (aX 1 (g1) aZ)))) (by kernel_rfl))⟩
 ·have e0:opD .eq (.int ((u:Nat):Int)) (.int o)=some (.bl false):=kQ false _ _ (ZU.mpr c).symm
  rw [ZY c]
  exact ⟨g,by cases b <;> exact (bp false (aX 1 (e0) (aX 3 (e0) aZ)) (by kernel_rfl))⟩
end
open L2.Lx (ch ch_app ch_len)
theorem wp (o:Int) (f:Bool) (h:Hd) (m n:Nat) (l:List θ):(odd o f h m n l).length≤l.length+5:=by
 unfold odd
 split
 ·split
  ·rw [ζ,Ϛ];omega
  ·split
   ·rw [ζ,ω];omega
   ·rw [ŝ];omega
 ·omega
abbrev lpD:D:=.str "("
abbrev rpD:D:=.str ")"
abbrev W3 (w:List D) (H:Hd) (fr:List θ) (ks:List Kd):List D:=((w ++ [lpD]) ++ sD (H.pre ++ fr)) ++ sD (ks.flatMap Kd.tok)
theorem Cn:∀ r:Nat,0<r→r≤8→TrO r
 | r+1,_,hr=>fun xs u=>by
   obtain ⟨v,x1,hv,en⟩:=next xs 17 (by decide)
   obtain ⟨k,rfl⟩:∃ k:Nat,v=k:=⟨v.toNat,by omega⟩
   by_cases hc:r=0∨k<4∨60<u+1
   ·obtain ⟨t,x2,lf,l4,w25,W,eW,el⟩:=Dh x1 (k % 4) (by omega)
    refine ⟨t,x2,lf.ok r,by rw [lf.sz];omega,by rw [lf.sz];omega,by rw [lf.sz];omega,fun n b A B C E w us o f g hu h1 hw=>⟨g,?_⟩⟩
    rw [lf.odd,BR lf]
    subst hu
    have c0:decide (us.length<100000)=true:=ZW (by omega)
    have en:=en (n+r+9) b A B C E w (us ++ [.int 0]) [.int o,.bl f,.bl g]
    have m4:=aY (show (k:Int) % 4=((k % 4:Nat):Int) by omega) (b:=4) (by decide)
    have ew:=wS (k % 4) (by omega) eW (n+r+9) (St b A B C E w x1 (us ++ [.int 0]) [.int o,.bl f,.bl g])
    have el:=el (n+r+8) b A B C E w (us ++ [.int 0]) [.int o,.bl f,.bl g] us.length (by omega)
    by_cases c1:r=0
    ·subst c1
     cases b <;> exact (aa false (aX 2 (c0) (aX 0 (en) (aX 3 (m4) (aX 0 (ew) (aX 0 (el) aZ))))) (by kernel_rfl))
    ·have e1:opD .eq (.int ((r+1:Nat):Int)) (.int 1)=some (.bl false):=kQ false _ _ (ZU.mpr (by omega)).symm
     by_cases c2:k<4
     ·have e2:=zq true k 4 (ZW (by omega)).symm
      cases b <;> exact (aa false (aX 2 (c0) (aX 0 (en) (aX 0 (e1) (aX 1 (e2) (aX 2 (m4) (aX 0 (ew) (aX 0 (el) aZ))))))) (by kernel_rfl))
     ·have e2:=zq false k 4 (ZV (by omega)).symm
      have e3:opD .gt (.int ((us ++ [D.int 0]).length:Nat)) (.int 60)=some (.bl true):=by show some (D.bl (decide _))=_;rw [ZW (by rw [ζ,ω];omega)]
      cases b <;> exact (aa false (aX 2 (c0) (aX 0 (en) (aX 0 (e1) (aX 1 (e2) (aX 2 (e3) (aX 1 (m4) (aX 0 (ew) (aX 0 (el) aZ)))))))) (by kernel_rfl))
   ·have g0:r≠0∧4≤k∧u+1≤60:=by omega
    obtain ⟨H,ew⟩:=wR k (by omega)
    obtain ⟨fr,x2,hfr,wf,ef⟩:=Be H x1
    obtain ⟨ks,x3,hk1,hk2,hk3,wk,ek⟩:=BE H x2
    obtain ⟨m,x4,hm,hm4,em⟩:=Dj H x3
    obtain ⟨ps,x5,hp1,hp2,hp3,hp3w,hp4,ep⟩:=xG (by omega) (Cn r (by omega) (by omega)) m 0 x4 (u+1)
    have cnt:=ye hm hm4
    have pl:=ww hfr
    have nk2:=xC H
    have nf2:=rX hfr
    have pne:∀ (o:Int) (f:Bool),ax o f ps (u+1)≠[]∨m=0:=fun o f=>by
     cases ps with
     | nil=>right;rw [← hp1];rfl
     | cons p q=>
       left
       obtain ⟨y,l,e,_⟩:=pO (hp2 p κ) o f (u+1)
       show p.tokO o f (u+1) ++ _≠[]
       rw [e];simp
    have sE:(Tr.nd H fr ks ps).sz=1+szs ps:=rfl
    refine ⟨.nd H fr ks ps,x5,.nd r H fr ks ps hfr hk1 hk2 (hp1 ▸ hm) hp2,?_,?_,by rw [sE];omega,fun n b A B C E w us o f g hu h1 hw=>?_⟩
    ·show ((lpS :: ((H.pre ++ fr) ++ (ks.flatMap Kd.tok ++ (toks ps ++ ([rpS]:List θ))))):List θ).length≤9 * (1+szs ps)
     rw [ψ,ζ,ζ (as:=ks.flatMap Kd.tok),ζ (as:=toks ps),ω]
     omega
    ·have e:wt (Tr.nd H fr ks ps).tok=2+(wt (H.pre ++ fr)+(wt (ks.flatMap Kd.tok)+(wt (toks ps)+2))):=by
      show lpS.length+1+wt ((H.pre ++ fr) ++ (ks.flatMap Kd.tok ++ (toks ps ++ ([rpS]:List θ))))=_
      rw [j6,j6 (ks.flatMap Kd.tok),j6 (toks ps)];rfl
     rw [e,sE];omega
    have c0:decide (us.length<100000)=true:=ZW (by omega)
    have en:=en (n+r+9) b A B C E w (us ++ [.int 0]) [.int o,.bl f,.bl g]
    have e1:opD .eq (.int ((r+1:Nat):Int)) (.int 1)=some (.bl false):=kQ false _ _ (ZU.mpr (by omega)).symm
    have e2:=zq false k 4 (ZV (by omega)).symm
    have e3:opD .gt (.int ((us ++ [D.int 0]).length:Nat)) (.int 60)=some (.bl false):=by show some (D.bl (decide _))=_;rw [ZV (by rw [ζ,ω];omega)]
    have ew:=ew (n+r+9) (St b A B C E w x1 (us ++ [.int 0]) [.int o,.bl f,.bl g])
    have h5:exS Γ (af Γ (n+r+10)) (ao Γ (n+r+10)) (hdS 5 tB) ⟨[some (Wd b),some (.int ((r+1:Nat):Int)),none,none,none,none,none,none,none,none,none,none,none],[],St b A B C E w xs us [.int o,.bl f,.bl g]⟩ = .nx ⟨tE b ((r+1:Nat):Int) (u:Nat) k H.str none none none none,[],St b A B C E w x1 (us ++ [.int 0]) [.int o,.bl f,.bl g]⟩:=by
     subst hu
     cases b <;> exact (bp false (aX 2 (c0) (aX 0 (en) (aX 0 (e1) (aX 1 (e2) (aX 2 (e3) (aX 0 (ew) aZ)))))) (by kernel_rfl))
    have hput:=jM (b:=b) (A:=A) (B:=B) (C:=C) (E:=E) (w:=w) (xs:=x1) (od:=[.int o,.bl f,.bl g]) (c1:=af Γ (n+r+10)) (c2:=ao Γ (n+r+10)) (room:=((r+1:Nat):Int)) (v:=k) (W:=H.str) hu
    have hus:(us ++ [D.int 1]).length=u+1:=by rw [ζ,ω,hu]
    have c1:decide (w.length<100000)=true:=ZW (by omega)
    have w1:(w ++ [lpD]).length=w.length+1:=by rw [ζ,ω]
    have w2:((w ++ [lpD]) ++ sD (H.pre ++ fr)).length=w.length+1+(H.pre ++ fr).length:=by rw [ζ,w1,ο]
    have w3:(W3 w H fr ks).length=w.length+1+(H.pre ++ fr).length+H.nk:=by rw [ζ,w2,ο,hk3]
    have ef:=ef (n+r+8) b A B C E (w ++ [lpD]) (us ++ [.int 1]) [.int o,.bl f,.bl g] (by omega)
    have ek:=ek (n+r+8) b A B C E ((w ++ [lpD]) ++ sD (H.pre ++ fr)) (us ++ [.int 1]) [.int o,.bl f,.bl g] (by omega)
    have em:=em (n+r+8) b A B C E (W3 w H fr ks) (us ++ [.int 1]) [.int o,.bl f,.bl g]
    have rg2:=nN (n:=m) (by omega)
    obtain ⟨g2,z2,lp⟩:=ep n b A B C E (W3 w H fr ks) (us ++ [.int 1]) o f g [some (xr b),some (wr b),some (ur b),some (dr b),some (.int (u:Nat)),some (.int k),some (.str H.str),some (.lst (sD fr)),some (.lst (ks.map Kd.toD)),some (.int (m:Nat)),none] [] none hus (by omega) (by omega) (by omega) (by simp only [Ϧ];omega)
    rw [ϛ] at lp
    have h11:exS Γ (af Γ (n+r+10)) (ao Γ (n+r+10)) (hdS 4 (tlS 0 (tlS 5 tB))) ⟨tE b ((r+1:Nat):Int) (u:Nat) k H.str none none none none,[],St b A B C E w x1 (us ++ [.int 1]) [.int o,.bl f,.bl g]⟩ = .nx ⟨tE b ((r+1:Nat):Int) (u:Nat) k H.str (some (.lst (sD fr))) (some (.lst (ks.map Kd.toD))) (some (.int (m:Nat))) (some (.lst (toDs idp (u+1) ps))),[12],St b A B C E ((W3 w H fr ks) ++ sD (ax o f ps (u+1))) x5 ((us ++ [.int 1]) ++ iD (fls ps)) [.int o,.bl f,.bl g2]⟩:=by
     cases b <;> exact (bp true (aX 1 (c1) (aX 0 (ef) (aX 0 (ek) (aX 0 (em) (aX 0 (rg2) (aX 0 (lp) aZ)))))) (by kernel_rfl))
    have lo:=fP o f ps (u+1)
    have szb:szs ps≤200:=by omega
    obtain ⟨g3,hodd⟩:=zy (m0:=n+r+10) (b:=b) (A:=A) (B:=B) (C:=C) (E:=E) (w:=(W3 w H fr ks)) (us:=(us ++ [.int 1]) ++ iD (fls ps)) (xs:=x5) (room:=((r+1:Nat):Int)) (v:=k) (o:=o) (u:=u) (f:=f) (g:=g2) (fr:=fr) (ks:=ks.map Kd.toD) (ps:=toDs idp (u+1) ps) hm hm4 (pne o f) (by omega)
    refine ⟨g3,?_⟩
    have ol:=wp o f H m u (ax o f ps (u+1))
    have c3:decide (((W3 w H fr ks) ++ sD (odd o f H m u (ax o f ps (u+1)))).length<100000)=true:=ZW (by rw [ζ,w3,ο];omega)
    have we:w ++ sD ((Tr.nd H fr ks ps).tokO o f u)=((W3 w H fr ks) ++ sD (odd o f H m u (ax o f ps (u+1)))) ++ [rpD]:=by
     show w ++ sD (lpS :: ((H.pre ++ fr) ++ (ks.flatMap Kd.tok ++ (odd o f H ps.length u (ax o f ps (u+1)) ++ ([rpS]:List θ)))))=_
     rw [hp1]
     simp only [sD,Ė,Ϭ,Ŏ,χ,Ĕ,ϛ]
    have fe:us ++ iD (Tr.nd H fr ks ps).fl=(us ++ [.int 1]) ++ iD (fls ps):=by rw [χ];rfl
    rw [we,fe]
    refine dI 5 fT rfl rfl h5 (dy 0 hput (dy 4 h11 (dy 0 hodd ?_)))
    by_cases cr:H = .row
    ·have te:(Tr.nd H fr ks ps).toD idp u = .tup (.str H.str :: .int (u:Nat) :: ((sD fr ++ ks.map Kd.toD) ++ [.tup (toDs idp (u+1) ps)])):=by
      show D.tup (.str H.str :: .int (u:Nat) :: ((sD fr ++ ks.map Kd.toD) ++ (if H = .row then _ else _)))=_
      rw [ZZ cr]
     have er:opD .eq (.str H.str) (.str "row")=some (.bl true):=by subst cr;rfl
     obtain ⟨k0,rfl⟩:∃ k,ks = [k]:=by
      rw [cr] at hk1
      match ks,hk1 with
      | [k],_=>exact ⟨k,rfl⟩
     have f0:fr = []:=by
      unfold bI at hfr
      rw [ZY (by rw [cr];decide),cr] at hfr
      exact â.mp hfr.1
     subst f0
     rw [te]
     cases b <;> exact (ky false (aX 1 (c3) (aX 0 (er) aZ)) (by kernel_rfl))
    ·have te:(Tr.nd H fr ks ps).toD idp u = .tup (.str H.str :: .int (u:Nat) :: ((sD fr ++ ks.map Kd.toD) ++ toDs idp (u+1) ps)):=by
      show D.tup (.str H.str :: .int (u:Nat) :: ((sD fr ++ ks.map Kd.toD) ++ (if H = .row then _ else _)))=_
      rw [ZY cr]
     have er:opD .eq (.str H.str) (.str "row")=some (.bl false):=by revert cr;cases H <;> intro cr <;> first | exact ZX rfl cr | rfl
     have tl:=fj (f:=idp) ps (u+1)
     have a1:opD .add (.tup [.str H.str,.int (u:Nat)]) (.tup (sD fr))=some (.tup ([.str H.str,.int (u:Nat)] ++ sD fr)):=qX (by rw [ο];simp only [ψ,Ϧ];omega)
     have a2:opD .add (.tup ([.str H.str,.int (u:Nat)] ++ sD fr)) (.tup (ks.map Kd.toD))=some (.tup (([.str H.str,.int (u:Nat)] ++ sD fr) ++ ks.map Kd.toD)):=qX (by rw [ζ,ο,ο];simp only [ψ,Ϧ];omega)
     have a3:opD .add (.tup (([.str H.str,.int (u:Nat)] ++ sD fr) ++ ks.map Kd.toD)) (.tup (toDs idp (u+1) ps))=some (.tup ((([.str H.str,.int (u:Nat)] ++ sD fr) ++ ks.map Kd.toD) ++ toDs idp (u+1) ps)):=qX (by rw [ζ,ζ,ο,ο,tl];simp only [ψ,Ϧ];omega)
     rw [te]
     cases b <;> exact (ky false (aX 1 (c3) (aX 0 (er) (aX 2 (a1) (aX 1 (a2) (aX 1 (a3) aZ))))) (by kernel_rfl))
open L2.Lx (ch ch_app ch_len Tok Con Br)
theorem xu:∀ (ws:List θ) (s:θ×θ),(ws.foldl jn1 s).1.length≤s.1.length+wt ws
 | [],s=>ύ _
 | w :: ws,s=>by
   have i:=xu ws (jn1 s w)
   have h:(jn1 s w).1.length≤s.1.length+(w.length+1):=by
    unfold jn1
    dsimp only
    split
    ·rw [bg];omega
    ·rw [bg,bg,show blS.length=1 from rfl];omega
   have e:wt (w :: ws)=w.length+1+wt ws:=rfl
   rw [þ,e];omega
theorem k4:∀ {l:List D},(∀ d∈l,noR d=true)→aU l=true
 | [],_=>rfl
 | d :: l,h=>by
   show (noR d && aU l)=true
   rw [h d κ,k4 fun x m=>h x (υ _ m)];rfl
theorem tP:∀ (r:Nat) (d:D),Pl r d→noR d=true
 | r,_,.int _ _=>rfl
 | r,_,.bl _ _=>rfl
 | r,_,.str _ _=>rfl
 | r+1,_,.tup _ l hl h=>k4 fun d m=>tP r d (h d m)
section
variable {n:Nat} {S:List O} {T:θ} {t:Tr}
theorem wJ:af Γ (n+1) kL [.ins 1 []] S = .ok (.str "refused") S:=by kernel_rfl
theorem hV (g:Gd t) (hT:a8 T=t.tok) (h5:T.length≤2000):af Γ (n+61) eH [.str T,t.toD idp 0,.bl true] S = .ok (.bl true) S:=by
 have rd:=pC (n:=n) T (by omega) fun _ w m=>⟨by have:=(g.kx w (hT ▸ m)).len;omega,(g.kx w (hT ▸ m)).asc⟩
 unfold rdT at rd
 rw [ZZ h5,hT,zP g.ok g.sz] at rd
 obtain ⟨st,rd⟩:=rd
 have nr:=tP _ _ (tZ (f:=idp) 8 t g.ok 0)
 have al:=ka (S:=S) 23 _ (tZ (f:=idp) 8 t g.ok 0) (n+36)
 exact (aa false (aX 0 (rd) (aX 0 (nr) (aX 0 (al) aZ))) (by kernel_rfl))
theorem lF {ws:List θ} (h:Rf ws):af Γ (n+61) eH [.str (aO ws),.non,.bl false] S = .ok (.bl true) S:=by
 have jl:=mO ws h.len
 have hf:=h.few
 have rd:=pC (n:=n) (aO ws) (by omega) fun _=>h.no.1
 have e:rdT (aO ws)=none:=by
  unfold rdT
  rw [h.no.2];split <;> rfl
 rw [e] at rd
 obtain ⟨st,rd⟩:=rd
 exact (aa false (aX 0 (rd) (aX 0 (wJ (n:=n+59) (S:=S)) aZ)) (by kernel_rfl))
end
def bV:Nat→List Int→List Nat
 | _,[]=>[]
 | i,x :: r=>if x=1 then i :: bV (i+1) r else bV (i+1) r
theorem oK:∀ (l:List Int) (i j:Nat),j∈bV i l→i≤j∧l[j - i]? = some 1
 | x :: l,i,j,h=>by
   have go:j∈bV (i+1) l→i≤j∧(x :: l)[j - i]? = some 1:=fun h=>by
    obtain ⟨h1,h2⟩:=oK l (i+1) j h
    refine ⟨by omega,?_⟩
    rw [show j - i=(j - (i+1))+1 by omega,ã];exact h2
   unfold bV at h
   split at h
   ·rename_i b
    rcases φ.mp h with rfl | h
    ·exact ⟨ύ _,by rw [Ď,b];rfl⟩
    ·exact go h
   ·exact go h
abbrev nE:E:=.v 0
abbrev nC:E:=.op .eq (.ix (.v 5) (.v 0)) (.c (.int 1))
theorem jr {m:Nat} {S:List O} {F:List Int} (hS:S[1]? = some (.lst (iD F))) (d0 d1 d2 d3:Option D) (R:List (Option D)):∀ (l:List Int) (i:Nat) (acc:List D) (e:Option D),F.drop i=l→acc.length+l.length<90000→∃ e':Option D,bx (lcQ Γ (af Γ m) (ao Γ m) [0] true nE nC) (ixs i l.length) acc ⟨e :: d0 :: d1 :: d2 :: d3 :: some (.ref 1) :: R,[],S⟩ = .ok (.lst (acc ++ brD (bV i l))) ⟨e' :: d0 :: d1 :: d2 :: d3 :: some (.ref 1) :: R,[],S⟩
 | [],i,acc,e,_,_=>⟨e,by show Out.ok _ _=_;rw [show acc ++ brD (bV i [])=acc from Ν _]⟩
 | x :: l,i,acc,e,hF,hl=>by
   simp only [ψ] at hl
   have hx:F[i]? = some x:=by
    have:(F.drop i)[0]? = some x:=by rw [hF];rfl
    rw [Ű] at this;exact this
   have hF2:F.drop (i+1)=l:=by rw [← List.tail_drop,hF];rfl
   have ix:ixD (.lst (iD F)) (.int (i:Nat))=some (.int x):=bq (by rw [ϑ,hx];rfl)
   have cd:ev Γ (af Γ m) (ao Γ m) true nC ⟨some (.int (i:Int)) :: d0 :: d1 :: d2 :: d3 :: some (.ref 1) :: R,[],S⟩ = .ok (.bl (x == 1)) ⟨some (.int (i:Int)) :: d0 :: d1 :: d2 :: d3 :: some (.ref 1) :: R,[],S⟩:=by
    obtain ⟨o0,S2,e⟩:∃ o0 S2,S=o0 :: .lst (iD F) :: S2:=by
     match S,hS with
     | a :: b :: c,h=>cases h;exact ⟨a,c,rfl⟩
    subst e
    have eq:opD .eq (.int x) (.int 1)=some (.bl (x == 1)):=kQ _ _ _ rfl
    exact (fY false (aX 0 (ix) (aX 0 (eq) aZ)) (by kernel_rfl))
   unfold bV
   by_cases c:x=1
   ·obtain ⟨e',h⟩:=jr hS d0 d1 d2 d3 R l (i+1) (acc ++ [.int (i:Nat)]) (some (.int (i:Int))) hF2 (by rw [ζ,ω];omega)
    rw [beq_iff_eq.mpr c] at cd
    have el:ev Γ (af Γ m) (ao Γ m) false nE ⟨some (.int (i:Int)) :: d0 :: d1 :: d2 :: d3 :: some (.ref 1) :: R,[],S⟩ = .ok (.int (i:Nat)) ⟨some (.int (i:Int)) :: d0 :: d1 :: d2 :: d3 :: some (.ref 1) :: R,[],S⟩:=rfl
    rw [χ] at h
    rw [ZZ c]
    exact ⟨e',cR (d6 rfl cd el) (by omega) h⟩
   ·obtain ⟨e',h⟩:=jr hS d0 d1 d2 d3 R l (i+1) acc (some (.int (i:Int))) hF2 (by omega)
    rw [ZU.mpr c] at cd
    rw [ZY c]
    exact ⟨e',jC (mR rfl cd) h⟩
theorem cell (ns:List Int) (k n:Nat):∃ c:Int,∀ S:List O,af Γ (n+1) gO [.lst (ns.map .int),.int k] S = .ok (.int c) S:=by
 by_cases c:k<ns.length
 ·have e1:decide ((k:Int)<((ns.map D.int).length:Nat))=true:=by rw [ο];exact ZW (by omega)
  have e2:ixD (.lst (ns.map D.int)) (.int (k:Int))=some (.int ns[k]):=by
   refine bq ?_
   rw [ϑ,Ζ c]
   rfl
  exact ⟨ns[k],fun S=>(aa false (aX 2 (e1) (aX 0 (e2) aZ)) (by kernel_rfl))⟩
 ·have e1:decide ((k:Int)<((ns.map D.int).length:Nat))=false:=by rw [ο];exact ZV (by omega)
  exact ⟨0,fun S=>(aa false (aX 2 (e1) aZ) (by kernel_rfl))⟩
open L2.Lx (ch ch_app ch_len Tok Con Br)
abbrev lB:S:=rQ.body
abbrev lE (ns:List Int) (wy c:Int) (d:D) (inn:List Nat) (e8:Option D):List (Option D):=[some (.lst (ns.map .int)),some (.int wy),some (.int c),some (.ref 0),some (.ref 1),some d,some (.ref 4),some (.lst (brD inn)),e8]
section
variable {t:Tr} {ns:List Int} {wy c:Int} {inn:List Nat} {ws:List θ}
theorem Ac (g:Gd t) (h5:(aO t.tok).length≤2000) (h:Rf ws) (R:List O):toR (exS Γ (af Γ 249) (ao Γ 249) (tlS 4 (tlS 7 lB)) ⟨lE ns wy c (t.toD idp 0) inn (some (.lst (sD ws))),[7],.lst (sD t.tok) :: R⟩) = .ok (.bl true) (.lst (sD t.tok) :: R):=by
 have hf:=h.few
 have hl:=g.len
 have j1:=cI (m:=248) (S:=.lst (sD t.tok) :: R) ws (by omega) h.len
 have j2:=cI (m:=248) (S:=[]) t.tok (by omega) fun w m=>(g.kx w m).len
 have r1:=lF (n:=188) (S:=.lst (sD t.tok) :: R) h
 have r2:=hV (n:=188) (S:=.lst (sD t.tok) :: R) (T:=aO t.tok) g (b5 fun w m=>(g.kx w m).tok) h5
 exact (ky false (aX 0 (j1) (aX 0 (r1) (aX 2 (bF t.tok) (aX 0 (j2) (aX 0 (r2) (aX 0 (j1) (aX 0 (r1) aZ))))))) (by kernel_rfl))
theorem Ad (g:Gd t) (h5:(aO t.tok).length≤2000) (h:Rf ws) (B C E F x u:O):toR (exS Γ (af Γ 249) (ao Γ 249) (tlS 4 (tlS 7 lB)) ⟨lE ns wy c (t.toD idp 0) inn (some (.ref 5)),[7],[.lst (sD t.tok),B,C,E,F,.lst (sD ws),x,u]⟩) = .ok (.bl true) [.lst (sD t.tok),B,C,E,F,.lst (sD ws),x,u]:=by
 have hf:=h.few
 have hl:=g.len
 have j1:=cI (m:=248) (S:=[]) ws (by omega) h.len
 have j2:=cI (m:=248) (S:=[]) t.tok (by omega) fun w m=>(g.kx w m).len
 have r1:=lF (n:=188) (S:=[.lst (sD t.tok),B,C,E,F,.lst (sD ws),x,u]) h
 have r2:=hV (n:=188) (S:=[.lst (sD t.tok),B,C,E,F,.lst (sD ws),x,u]) (T:=aO t.tok) g (b5 fun w m=>(g.kx w m).tok) h5
 exact (ky false (aX 0 (bF ws) (aX 0 (j1) (aX 0 (r1) (aX 2 (bF t.tok) (aX 0 (j2) (aX 0 (r2) (aX 2 (bF ws) (aX 0 (j1) (aX 0 (r1) aZ))))))))) (by kernel_rfl))
end
mutual
theorem lW {o:Int} {f:Bool} {w:θ}:∀ (t:Tr) (n:Nat),w∈t.tokO o f n→w∈t.tok∨w=svS
 | .num i,n,h=>.inl h
 | .tru b,n,h=>.inl h
 | .giv k,n,h=>.inl h
 | .nam x,n,h=>.inl h
 | .nd H fr ks ps,n,h=>by
   have h:w∈lpS :: ((H.pre ++ fr) ++ (ks.flatMap Kd.tok ++ (odd o f H ps.length n (ax o f ps (n+1)) ++ ([rpS]:List θ)))):=h
   show w∈lpS :: ((H.pre ++ fr) ++ (ks.flatMap Kd.tok ++ (toks ps ++ ([rpS]:List θ))))∨w=svS
   simp only [φ,Ρ,Ń,or_false] at h ⊢
   rcases h with h | h | h | h | h
   ·exact .inl (.inl h)
   ·exact .inl (.inr (.inl h))
   ·exact .inl (.inr (.inr (.inl h)))
   ·have m:w∈ax o f ps (n+1)∨w=svS:=by
     unfold odd at h
     split at h
     ·split at h
      ·rcases Ρ.mp h with h | h
       ·exact .inl h
       ·exact .inr (ϵ h)
      ·split at h
       ·rcases Ρ.mp h with h | h
        ·exact .inl h
        ·exact .inr (ι.mp h)
       ·exact .inl (List.dropLast_subset _ h)
     ·exact .inl h
    rcases m with m | m
    ·rcases ja ps (n+1) m with m | m
     ·exact .inl (.inr (.inr (.inr (.inl m))))
     ·exact .inr m
    ·exact .inr m
   ·exact .inl (.inr (.inr (.inr (.inr h))))
theorem ja {o:Int} {f:Bool} {w:θ}:∀ (ps:List Tr) (n:Nat),w∈ax o f ps n→w∈toks ps∨w=svS
 | [],n,h=>.inl h
 | p :: r,n,h=>by
   rcases Ρ.mp (show w∈p.tokO o f n ++ ax o f r (n+p.sz) from h) with h | h
   ·exact (lW p n h).imp_left fun h=>Ŝ _ h
   ·exact (ja r (n+p.sz) h).imp_left fun h=>Ŕ _ h
end
theorem u8 (l:List Int) (a b:Option Int):Ev.cutD (l.map .int) a b=((l.drop (HT.sIx (l.map D.int).length 0 a)).take (HT.sIx (l.map D.int).length (l.map D.int).length b - HT.sIx (l.map D.int).length 0 a)).map .int:=by unfold Ev.cutD;rw [Hk,Hl]
abbrev s0 (ns:List Int):Sta:=⟨[some (.lst (ns.map .int)),none,none,none,none,none,none,none,none],[],[]⟩
abbrev R4 (t:Tr) (xs':List Int) (g1 f0:Bool):List O:=[.lst (iD t.fl),.lst (xs'.map .int),.lst [.int (-1),.bl true,.bl g1],.lst [.int (-1),.bl f0,.bl false]]
abbrev S5 (t:Tr) (xs':List Int) (g1 f0:Bool):List O:=.lst (sD t.tok) :: R4 t xs' g1 f0
abbrev t7 (ns:List Int) (wy c:Int) (t:Tr) (xs':List Int) (g1 f0:Bool):Sta:=⟨lE ns wy c (t.toD idp 0) (bV 0 t.fl) none,[7],S5 t xs' g1 f0⟩
theorem yE (ns:List Int) (hn:ns.length≤63):∃ st':List O,af Γ 250 sB [.lst (ns.map .int)] [] = .ok (.bl true) st':=by
 obtain ⟨c0,hc⟩:=cell ns 0 248
 obtain ⟨d,hd⟩:=cell ns 1 248
 obtain ⟨xs,eL⟩:∃ xs:List Int,(Ev.cutD (ns.map .int) (some 2) (some 120)).reverse=xs.map .int:=⟨_,by rw [u8,← List.map_reverse]⟩
 obtain ⟨t,xs',ok6,hl,hwt,hz,et⟩:=Cn 6 (by decide) (by decide) xs 0
 have ok:=Ok.up _ _ (Ok.up _ _ ok6)
 have g:Gd t:=⟨ok,by omega,by omega⟩
 have h5:(aO t.tok).length≤2000:=by
  have:=xu t.tok (Ã,lpS)
  rw [show (Ã,lpS).1.length=0 from rfl] at this
  unfold aO;omega
 obtain ⟨wy,hwy⟩:∃ wy,c0 % 6=wy:=⟨_,rfl⟩
 have m6:=aY hwy (b:=6) (by decide)
 have z6:=cZ c0 (b:=6) (by decide)
 obtain ⟨c,hcc⟩:∃ c,c0 / 6=c:=⟨_,rfl⟩
 rw [hcc] at z6
 obtain ⟨g1,e1⟩:=et 233 true (.lst []) (.lst []) (.lst []) (.lst []) [] [] (-1) true false rfl (by decide) (by simp only [Ϧ];omega)
 have nz:∀ f:Bool,t.tokO (-1) f 0=t.tok:=fun f=>jW t 0 fun k _ _=>by omega
 dsimp only [St] at e1
 rw [← eL,nz,ϛ,ϛ] at e1
 have j2:=cI (m:=248) (S:=[]) t.tok (by omega) fun w m=>(g.kx w m).len
 have r2:=hV (n:=188) (S:=[.lst (sD t.tok),.lst (iD t.fl),.lst (xs'.map .int),.lst [.int (-1),.bl true,.bl g1]]) (T:=aO t.tok) g (b5 fun w m=>(g.kx w m).tok) h5
 obtain ⟨f0,m2,hf0⟩:∃ f0:Bool,∃ y:Int,opD .mod (.int c) (.int 2)=some (.int y)∧opD .eq (.int y) (.int 0)=some (.bl f0):=⟨_,_,aY rfl (by decide),kQ _ _ _ rfl⟩
 obtain ⟨hm2,he2⟩:=hf0
 have fl:=gM t
 have rg:=nN (n:=(iD t.fl).length) (by rw [ο];omega)
 obtain ⟨e9,lp⟩:=jr (m:=249) (S:=(S5 t xs' g1 f0)) (F:=t.fl) rfl (some (.lst (ns.map .int))) (some (.int wy)) (some (.int c)) (some (.ref 0)) [some (t.toD idp 0),some (.ref 4),none,none] t.fl 0 [] none rfl (by simp only [Ϧ];omega)
 rw [ϛ,← ο (f:=D.int)] at lp
 have h7:exS Γ (af Γ 249) (ao Γ 249) (hdS 7 lB) (s0 ns) = .nx ⟨lE ns wy c (t.toD idp 0) (bV 0 t.fl) none,[7],(S5 t xs' g1 f0)⟩:=(bp true (aX 0 (hc []) (aX 0 (m6) (aX 0 (hc []) (aX 0 (z6) (aX 0 (e1) (aX 0 (bF t.tok) (aX 0 (j2) (aX 0 (r2) (aX 2 (hm2) (aX 0 (he2) (aX 1 (rg) (aX 0 (lp) aZ)))))))))))) (by kernel_rfl))
 have z2:=cZ c (b:=2) (by decide)
 have w6:wy=0∨wy=1∨wy=2∨wy=3∨wy=4∨wy=5:=by omega
 obtain ⟨ws0,rf0,eb⟩:=ro (n:=248) (R:=(R4 t xs' g1 f0)) g d
 have hd7:=hd (S5 t xs' g1 f0)
 have fin:∀ (ws:List θ) (R:List O),Rf ws→exS Γ (af Γ 249) (ao Γ 249) (hdS 4 (tlS 7 lB)) (t7 ns wy c t xs' g1 f0) = .nx ⟨lE ns wy c (t.toD idp 0) (bV 0 t.fl) (some (.lst (sD ws))),[7],.lst (sD t.tok) :: R⟩→∃ st':List O,af Γ 250 sB [.lst (ns.map .int)] [] = .ok (.bl true) st':=fun ws R rf h=>⟨_,dI 7 rQ rfl rfl h7 (dy 4 h (Ac g h5 rf R))⟩
 have late:(3<wy)→(∀ h:opD .ne (.lst (brD (bV 0 t.fl))) (.lst [])=some (.bl false),exS Γ (af Γ 249) (ao Γ 249) (hdS 4 (tlS 7 lB)) (t7 ns wy c t xs' g1 f0) = .nx ⟨lE ns wy c (t.toD idp 0) (bV 0 t.fl) (some (.lst (sD ws0))),[7],(S5 t xs' g1 f0)⟩)→(∀ (j s:Nat) (g2:Bool) (h1:opD .ne (.lst (brD (bV 0 t.fl))) (.lst [])=some (.bl true)) (h2:opD .mod (.int (c / 2)) (.int ((brD (bV 0 t.fl)).length:Nat))=some (.int (s:Nat))) (h3:ixD (.lst (brD (bV 0 t.fl))) (.int (s:Nat))=some (.int (j:Nat))) (h4:af Γ 249 fU [.tup [.ref 6,.ref 5,.ref 7,.ref 4],.int 6] [.lst (sD t.tok),.lst (iD t.fl),.lst (xs'.map .int),.lst [.int (-1),.bl true,.bl g1],.lst [.int (j:Nat),.bl f0,.bl false],.lst [],.lst (Ev.cutD (ns.map .int) (some 2) (some 120)).reverse,.lst []] = .ok (t.toD idp 0) [.lst (sD t.tok),.lst (iD t.fl),.lst (xs'.map .int),.lst [.int (-1),.bl true,.bl g1],.lst [.int (j:Nat),.bl f0,.bl g2],.lst (sD (t.tokO j f0 0)),.lst (xs'.map .int),.lst (iD t.fl)]),exS Γ (af Γ 249) (ao Γ 249) (hdS 4 (tlS 7 lB)) (t7 ns wy c t xs' g1 f0) = .nx ⟨lE ns wy c (t.toD idp 0) (bV 0 t.fl) (some (.ref 5)),[7],[.lst (sD t.tok),.lst (iD t.fl),.lst (xs'.map .int),.lst [.int (-1),.bl true,.bl g1],.lst [.int (j:Nat),.bl f0,.bl g2],.lst (sD (t.tokO j f0 0)),.lst (xs'.map .int),.lst (iD t.fl)]⟩)→∃ st':List O,af Γ 250 sB [.lst (ns.map .int)] [] = .ok (.bl true) st':=fun _ k1 k2=>by
  by_cases hb:bV 0 t.fl = []
  ·exact fin ws0 _ rf0 (k1 (by rw [hb];rfl))
  ·have ln:0<(bV 0 t.fl).length:=ù.mpr hb
   have h1:opD .ne (.lst (brD (bV 0 t.fl))) (.lst [])=some (.bl true):=by cases q:bV 0 t.fl with
    | nil=>exact ZX q hb
    | cons a b=>rfl
   obtain ⟨s,hs,ms⟩:=eJ (c / 2) (bV 0 t.fl).length ln
   have ms:opD .mod (.int (c / 2)) (.int ((brD (bV 0 t.fl)).length:Nat))=some (.int (s:Nat)):=by rw [ο];exact ms
   obtain ⟨j,hj⟩:∃ j,(bV 0 t.fl)[s]? = some j:=⟨_,Ζ hs⟩
   have i1:ixD (.lst (brD (bV 0 t.fl))) (.int (s:Nat))=some (.int (j:Nat)):=bq (by rw [ϑ,hj];rfl)
   have hin:inn j t 0:=by
    have:=rU t j 0 (by have:=(oK t.fl 0 j (Ι hj)).2;rw [Ĥ] at this;exact this)
    rw [HM] at this;exact this
   obtain ⟨g2,e2⟩:=et 233 false (.lst (sD t.tok)) (.lst (iD t.fl)) (.lst (xs'.map .int)) (.lst [.int (-1),.bl true,.bl g1]) [] [] j f0 false rfl (by decide) (by simp only [Ϧ];omega)
   dsimp only [St] at e2
   rw [← eL,ϛ,ϛ] at e2
   have lo:=io j f0 t 0
   have rf:Rf (t.tokO j f0 0):=hU (fun w m=>(lW t 0 m).elim (g.kx w) fun e=>by rw [e];exact vv (by decide +kernel)) (by omega) (zN ok g.sz hin)
   exact ⟨_,dI 7 rQ rfl rfl h7 (dy 4 (k2 j s g2 h1 ms i1 e2) (Ad g h5 rf _ _ _ _ _ _))⟩
 rcases w6 with rfl | rfl | rfl | rfl | rfl | rfl
 ·exact fin ws0 (R4 t xs' g1 f0) rf0 (bp false (aX 0 (hd7) (aX 0 (eb) aZ)) (by kernel_rfl))
 ·obtain ⟨ws,rf,e⟩:=zZ (n:=248) (R:=(R4 t xs' g1 f0)) g d
  exact fin ws (R4 t xs' g1 f0) rf (bp false (aX 0 (hd7) (aX 0 (eb) (aX 0 (hd7) (aX 0 (e) aZ)))) (by kernel_rfl))
 ·obtain ⟨ws,rf,e⟩:=Ct (n:=248) (R:=(R4 t xs' g1 f0)) g d
  exact fin ws (R4 t xs' g1 f0) rf (bp false (aX 0 (hd7) (aX 0 (eb) (aX 0 (hd7) (aX 0 (e) aZ)))) (by kernel_rfl))
 ·obtain ⟨ws,S',rf,e⟩:=wb (n:=248) (o1:=.lst (iD t.fl)) (o2:=.lst (xs'.map .int)) (o3:=.lst [.int (-1),.bl true,.bl g1]) (o4:=.lst [.int (-1),.bl f0,.bl false]) g d
  exact fin ws S' rf (bp false (aX 0 (hd7) (aX 0 (eb) (aX 0 (hd7) (aX 0 (e) aZ)))) (by kernel_rfl))
 ·exact late (by decide) (fun h=>(bp false (aX 0 (hd7) (aX 0 (eb) (aX 8 (h) aZ))) (by kernel_rfl))) (fun j s g2 h1 h2 h3 h4=>(bp false (aX 0 (hd7) (aX 0 (eb) (aX 8 (h1) (aX 1 (z2) (aX 1 (h2) (aX 0 (h3) (aX 0 (h4) aZ))))))) (by kernel_rfl)))
 ·exact late (by decide) (fun h=>(bp false (aX 0 (hd7) (aX 0 (eb) (aX 8 (h) aZ))) (by kernel_rfl))) (fun j s g2 h1 h2 h3 h4=>(bp false (aX 0 (hd7) (aX 0 (eb) (aX 8 (h1) (aX 1 (z2) (aX 1 (h2) (aX 0 (h3) (aX 0 (h4) aZ))))))) (by kernel_rfl)))
def jd (K:ς):Prop:=∃ C:Δ,qW K "BlameError" C∧NaL K C []
def qT (K:ς):Prop:=∃ C:Δ,qW K "NoText" C∧n7 K C veB "ValueError.__new__"∧NaL K C []
def qS (K:ς):Prop:=∃ C:Δ,qW K "NoPart" C∧NaL K C []
def pU (K:ς):Prop:=∃ C:Δ,qW K "TooMany" C∧NaL K C []
def qR (K:ς):Prop:=∃ C fI:Δ,pV K "NoName" "NoName.__init__" (aA (top 5) 0) veB "ValueError.__new__" C fI∧NaL K C ["place"]
def pT (K:ς):Prop:=∃ C fI:Δ,pV K "TooDeep" "TooDeep.__init__" (aA (top 6) 0) veB "ValueError.__new__" C fI∧NaL K C ["place"]
def uM (K:ς):Prop:=∃ C fI:Δ,pV K "NoFit" "NoFit.__init__" (aA (top 7) 0) veB "ValueError.__new__" C fI∧NaL K C ["place"]
def qQ (K:ς):Prop:=∃ C fI:Δ,pV K "NoLook" "NoLook.__init__" (aA (top 8) 0) veB "ValueError.__new__" C fI∧NaL K C ["place"]
def qU (K:ς):Prop:=∃ C fI:Δ,pV K "Parted" "Parted.__init__" (aA (top 9) 0) veB "ValueError.__new__" C fI∧NaL K C ["place","kind","by","wanted","way"]
def qV (K:ς):Prop:=∃ C f0 f1 f2 f3 f4 f5 f6 f7 f8 f9 f10 f11:Δ,Ap K "Reader" C∧NaL K C ["words","taken","nodes"]∧fy K C "__init__" "Reader.__init__" (aA (top 31) 0) f0∧fy K C "peek" "Reader.peek" (aA (top 31) 1) f1∧fy K C "take" "Reader.take" (aA (top 31) 2) f2∧fy K C "need_closed" "Reader.need_closed" (aA (top 31) 3) f3∧fy K C "need_end" "Reader.need_end" (aA (top 31) 4) f4∧fy K C "new_place" "Reader.new_place" (aA (top 31) 5) f5∧fy K C "read_node" "Reader.read_node" (aA (top 31) 6) f6∧fy K C "read_bracketed" "Reader.read_bracketed" (aA (top 31) 7) f7∧fy K C "read_things" "Reader.read_things" (aA (top 31) 8) f8∧fy K C "read_thing" "Reader.read_thing" (aA (top 31) 9) f9∧fy K C "read_row" "Reader.read_row" (aA (top 31) 10) f10∧fy K C "read_one_kind" "Reader.read_one_kind" (aA (top 31) 11) f11
def mrl:List (θ×θ×Bool):=(Ķ [("BlameError","BlameError",true),("NoText","BlameError",true),("NoPart","BlameError",true),("TooMany","BlameError",true),("NoName","BlameError",true),("TooDeep","BlameError",true),("NoFit","BlameError",true),("NoLook","BlameError",true),("Parted","BlameError",true),("BlameError","NoText",false),("NoText","NoText",true),("NoPart","NoText",false),("TooMany","NoText",false),("NoName","NoText",false),("TooDeep","NoText",false),("NoFit","NoText",false)] (Ķ [("NoLook","NoText",false),("Parted","NoText",false),("BlameError","NoPart",false),("NoText","NoPart",false),("NoPart","NoPart",true),("TooMany","NoPart",false),("NoName","NoPart",false),("TooDeep","NoPart",false),("NoFit","NoPart",false),("NoLook","NoPart",false),("Parted","NoPart",false),("BlameError","TooMany",false),("NoText","TooMany",false),("NoPart","TooMany",false),("TooMany","TooMany",true),("NoName","TooMany",false)] (Ķ [("TooDeep","TooMany",false),("NoFit","TooMany",false),("NoLook","TooMany",false),("Parted","TooMany",false),("BlameError","NoName",false),("NoText","NoName",false),("NoPart","NoName",false),("TooMany","NoName",false),("NoName","NoName",true),("TooDeep","NoName",false),("NoFit","NoName",false),("NoLook","NoName",false),("Parted","NoName",false),("BlameError","TooDeep",false),("NoText","TooDeep",false),("NoPart","TooDeep",false)] (Ķ [("TooMany","TooDeep",false),("NoName","TooDeep",false),("TooDeep","TooDeep",true),("NoFit","TooDeep",false),("NoLook","TooDeep",false),("Parted","TooDeep",false),("BlameError","NoFit",false),("NoText","NoFit",false),("NoPart","NoFit",false),("TooMany","NoFit",false),("NoName","NoFit",false),("TooDeep","NoFit",false),("NoFit","NoFit",true),("NoLook","NoFit",false),("Parted","NoFit",false),("BlameError","NoLook",false)] (Ķ [("NoText","NoLook",false),("NoPart","NoLook",false),("TooMany","NoLook",false),("NoName","NoLook",false),("TooDeep","NoLook",false),("NoFit","NoLook",false),("NoLook","NoLook",true),("Parted","NoLook",false),("BlameError","Parted",false),("NoText","Parted",false),("NoPart","Parted",false),("TooMany","Parted",false),("NoName","Parted",false),("TooDeep","Parted",false),("NoFit","Parted",false),("NoLook","Parted",false)] [("Parted","Parted",true)])))))
def vxl:List (θ×Bool):=[("BlameError",true),("NoText",true),("NoPart",true),("TooMany",true),("NoName",true),("TooDeep",true),("NoFit",true),("NoLook",true),("Parted",true)]
structure Txt (K:ς):Prop where
 fn:gA K fnl
 gl:GlL K gll
 tl:mt K tbl
 bl:NoL K T.bl
 mr:MrL K mrl
 vx:VxL K vxl
 bi_BlameError:∃ B,ϒ K ϔ "BlameError" = some (some (.ref B))∧wT K B
 x_BlameError:jd K
 x_NoText:qT K
 x_NoPart:qS K
 x_TooMany:pU K
 x_NoName:qR K
 x_TooDeep:pT K
 x_NoFit:uM K
 x_NoLook:qQ K
 x_Parted:qU K
 x_Reader:qV K
theorem tx:(((fnl.map fun p=>(p.1,p.1,p.2)) ++ mel).all fun p=>fnC p.2.2 && (fS T p.2.2).isSome)=true:=by kernel_rfl
theorem xP {P:Î} {w:é} {K:ς} {h:Â} {mg:θ→Option η} {fa:Δ} {os:Ga} (Y:K.In h) (G:h.Ns ϔ mg) (hfa:mg "law" = some (.ref fa)) (T':Txt K) :
 ∃ X:Cx,X.W.P=P∧X.W.w=w∧X.K=K∧X.mg=mg∧X.base=h∧X.os=os∧X.calm=true∧X.tz=0∧bT X (af Γ 250) 252 24 fa:=by
 obtain ⟨ad,hF,hG⟩:=T'.fn.ad Y G
 obtain ⟨C_BlameError,Dq,na_BlameError⟩:=T'.x_BlameError
 obtain ⟨C_NoText,Dv,ot_NoText,na_NoText⟩:=T'.x_NoText
 obtain ⟨C_NoPart,Dy,na_NoPart⟩:=T'.x_NoPart
 obtain ⟨C_TooMany,Ds,na_TooMany⟩:=T'.x_TooMany
 obtain ⟨C_NoName,fi_NoName,Du,na_NoName⟩:=T'.x_NoName
 obtain ⟨fd_NoName,Fi_NoName⟩:=Du.ini
 obtain ⟨C_TooDeep,fi_TooDeep,Dr,na_TooDeep⟩:=T'.x_TooDeep
 obtain ⟨fd_TooDeep,Fi_TooDeep⟩:=Dr.ini
 obtain ⟨C_NoFit,fi_NoFit,Dz,na_NoFit⟩:=T'.x_NoFit
 obtain ⟨fd_NoFit,Fi_NoFit⟩:=Dz.ini
 obtain ⟨C_NoLook,fi_NoLook,Dt,na_NoLook⟩:=T'.x_NoLook
 obtain ⟨fd_NoLook,Fi_NoLook⟩:=Dt.ini
 obtain ⟨C_Parted,fi_Parted,Dx,na_Parted⟩:=T'.x_Parted
 obtain ⟨fd_Parted,Fi_Parted⟩:=Dx.ini
 obtain ⟨C_Reader,a_Reader___init__,a_Reader_peek,a_Reader_take,a_Reader_need_closed,a_Reader_need_end,a_Reader_new_place,a_Reader_read_node,a_Reader_read_bracketed,a_Reader_read_things,a_Reader_read_thing,a_Reader_read_row,a_Reader_read_one_kind,DB,na_Reader,⟨⟨fd_Reader___init__,F_Reader___init__⟩,M_Reader___init__⟩,⟨⟨fd_Reader_peek,F_Reader_peek⟩,M_Reader_peek⟩,⟨⟨fd_Reader_take,F_Reader_take⟩,M_Reader_take⟩,⟨⟨fd_Reader_need_closed,F_Reader_need_closed⟩,M_Reader_need_closed⟩,⟨⟨fd_Reader_need_end,F_Reader_need_end⟩,M_Reader_need_end⟩,⟨⟨fd_Reader_new_place,F_Reader_new_place⟩,M_Reader_new_place⟩,⟨⟨fd_Reader_read_node,F_Reader_read_node⟩,M_Reader_read_node⟩,⟨⟨fd_Reader_read_bracketed,F_Reader_read_bracketed⟩,M_Reader_read_bracketed⟩,⟨⟨fd_Reader_read_things,F_Reader_read_things⟩,M_Reader_read_things⟩,⟨⟨fd_Reader_read_thing,F_Reader_read_thing⟩,M_Reader_read_thing⟩,⟨⟨fd_Reader_read_row,F_Reader_read_row⟩,M_Reader_read_row⟩,⟨⟨fd_Reader_read_one_kind,F_Reader_read_one_kind⟩,M_Reader_read_one_kind⟩⟩:=T'.x_Reader
 let X:Cx:=⟨⟨P,w,[⟨C_BlameError,[]⟩,⟨C_NoText,[]⟩,⟨C_NoPart,[]⟩,⟨C_TooMany,[]⟩,⟨C_NoName,["place"]⟩,⟨C_TooDeep,["place"]⟩,⟨C_NoFit,["place"]⟩,⟨C_NoLook,["place"]⟩,⟨C_Parted,["place","kind","by","wanted","way"]⟩,⟨C_Reader,["words","taken","nodes"]⟩],[2,2,2,2,2,2,2,2,2,0]⟩,K,mg,h,os,Γ,fun _ _ _=>.bad,fun _ _ _=>.bad,Eg,[],[],ş "" (au (top 0)) 0 0 .none,true,0⟩
 have hB_BlameError:∀ (b:θ) (c:List Nat),some (("BlameError":θ),c)=some (b,c)→∃ B,mg b=some (.ref B)∧wT K B:=fun b c e=>by cases e;obtain ⟨B,h1,h2⟩:=T'.bi_BlameError;exact ⟨B,Ϫ Y G h1,h2⟩
 have hM:FsL K mel [a_Reader___init__,a_Reader_peek,a_Reader_take,a_Reader_need_closed,a_Reader_need_end,a_Reader_new_place,a_Reader_read_node,a_Reader_read_bracketed,a_Reader_read_things,a_Reader_read_thing,a_Reader_read_row,a_Reader_read_one_kind]:=⟨⟨_,F_Reader___init__.d (by kernel_rfl)⟩,⟨_,F_Reader_peek.d (by kernel_rfl)⟩,⟨_,F_Reader_take.d (by kernel_rfl)⟩,⟨_,F_Reader_need_closed.d (by kernel_rfl)⟩,⟨_,F_Reader_need_end.d (by kernel_rfl)⟩,⟨_,F_Reader_new_place.d (by kernel_rfl)⟩,⟨_,F_Reader_read_node.d (by kernel_rfl)⟩,⟨_,F_Reader_read_bracketed.d (by kernel_rfl)⟩,⟨_,F_Reader_read_things.d (by kernel_rfl)⟩,⟨_,F_Reader_read_thing.d (by kernel_rfl)⟩,⟨_,F_Reader_read_row.d (by kernel_rfl)⟩,⟨_,F_Reader_read_one_kind.d (by kernel_rfl)⟩,trivial⟩
 have DC:cE X T.an 0 ⟨2,[],0,[],[1000],[]⟩ ⟨C_BlameError,[]⟩:=⟨rfl,(fun z=>ZX rfl z),na_BlameError.at,rfl,(show ([]:List θ)=List.map T.an [] by decide +kernel),(show ([]:List θ).Nodup by decide +kernel),fun _=>⟨Dq.fd,Dq.hh⟩⟩
 have DI:cE X T.an 1 ⟨2,[],0,[],[0,1000],[]⟩ ⟨C_NoText,[]⟩:=⟨rfl,(fun z=>ZX rfl z),na_NoText.at,rfl,(show ([]:List θ)=List.map T.an [] by decide +kernel),(show ([]:List θ).Nodup by decide +kernel),fun _=>⟨Dv.fd,Dv.hh⟩⟩
 have DH:cE X T.an 2 ⟨2,[],0,[],[0,1000],[]⟩ ⟨C_NoPart,[]⟩:=⟨rfl,(fun z=>ZX rfl z),na_NoPart.at,rfl,(show ([]:List θ)=List.map T.an [] by decide +kernel),(show ([]:List θ).Nodup by decide +kernel),fun _=>⟨Dy.fd,Dy.hh⟩⟩
 have DE:cE X T.an 3 ⟨2,[],0,[],[0,1000],[]⟩ ⟨C_TooMany,[]⟩:=⟨rfl,(fun z=>ZX rfl z),na_TooMany.at,rfl,(show ([]:List θ)=List.map T.an [] by decide +kernel),(show ([]:List θ).Nodup by decide +kernel),fun _=>⟨Ds.fd,Ds.hh⟩⟩
 have DG:cE X T.an 4 ⟨2,[0],0,[],[0,1000],[0]⟩ ⟨C_NoName,["place"]⟩:=⟨rfl,(fun z=>ZX rfl z),na_NoName.at,rfl,(show (["place"]:List θ)=List.map T.an [0] by decide +kernel),(show (["place"]:List θ).Nodup by decide +kernel),fun _=>⟨Du.fd,Du.hh⟩⟩
 have DD:cE X T.an 5 ⟨2,[0],0,[],[0,1000],[0]⟩ ⟨C_TooDeep,["place"]⟩:=⟨rfl,(fun z=>ZX rfl z),na_TooDeep.at,rfl,(show (["place"]:List θ)=List.map T.an [0] by decide +kernel),(show (["place"]:List θ).Nodup by decide +kernel),fun _=>⟨Dr.fd,Dr.hh⟩⟩
 have k_NoFit:cE X T.an 6 ⟨2,[0],0,[],[0,1000],[0]⟩ ⟨C_NoFit,["place"]⟩:=⟨rfl,(fun z=>ZX rfl z),na_NoFit.at,rfl,(show (["place"]:List θ)=List.map T.an [0] by decide +kernel),(show (["place"]:List θ).Nodup by decide +kernel),fun _=>⟨Dz.fd,Dz.hh⟩⟩
 have DF:cE X T.an 7 ⟨2,[0],0,[],[0,1000],[0]⟩ ⟨C_NoLook,["place"]⟩:=⟨rfl,(fun z=>ZX rfl z),na_NoLook.at,rfl,(show (["place"]:List θ)=List.map T.an [0] by decide +kernel),(show (["place"]:List θ).Nodup by decide +kernel),fun _=>⟨Dt.fd,Dt.hh⟩⟩
 have DJ:cE X T.an 8 ⟨2,[0,1,2,3,4],0,[],[0,1000],[0,2]⟩ ⟨C_Parted,["place","kind","by","wanted","way"]⟩:=⟨rfl,(fun z=>ZX rfl z),na_Parted.at,rfl,(show (["place","kind","by","wanted","way"]:List θ)=List.map T.an [0,1,2,3,4] by decide +kernel),(show (["place","kind","by","wanted","way"]:List θ).Nodup by decide +kernel),fun _=>⟨Dx.fd,Dx.hh⟩⟩
 have DA:cE X T.an 9 ⟨0,[5,6,7],25,[],[],[]⟩ ⟨C_Reader,["words","taken","nodes"]⟩:=⟨rfl,fun _=>DB.cls,na_Reader.at,rfl,(show (["words","taken","nodes"]:List θ)=List.map T.an [5,6,7] by decide +kernel),(show (["words","taken","nodes"]:List θ).Nodup by decide +kernel),fun z=>ZX z (by decide)⟩
 have Pg:uL T X (ad ++ [a_Reader___init__,a_Reader_peek,a_Reader_take,a_Reader_need_closed,a_Reader_need_end,a_Reader_new_place,a_Reader_read_node,a_Reader_read_bracketed,a_Reader_read_things,a_Reader_read_thing,a_Reader_read_row,a_Reader_read_one_kind]) 1:=by
  refine ⟨rfl,fun j f e=>Bj rfl tx (hF.app hM) e,fun j x e=>?_,fun j x e=>?_,fun j x e=>?_,fun x e=>PySem.W.mg_none_of Y G (T'.bl.at x e),fun c k e=>?_,fun q e=>?_,fun j x e hz=>?_,fun j x e hz=>?_,fun j x e hz=>?_,fun j x e hz=>?_,fun j x e hz=>?_,fun e=>?_⟩
  ·obtain ⟨f,h1,h2⟩:=qZ hG e
   exact ⟨f,ϓ (ν.mp h1).1 ▸ h1,h2⟩
  ·obtain ⟨d,u,h1,h2,h3⟩:=T'.gl.at e
   exact ⟨d,u,h1,Ϫ Y G h2,h3⟩
  ·obtain ⟨t,a,h1,h2,h3⟩:=T'.tl.at e
   exact ⟨t,a,h1,Ϫ Y G h2,h3⟩
  ·exact bR (P:=fun (c:Nat) (k:Cl)=>∃ i,cE X T.an c k i) (show cH _ 0 Γ.cl from ⟨⟨_,DC⟩,⟨_,DI⟩,⟨_,DH⟩,⟨_,DE⟩,⟨_,DG⟩,⟨_,DD⟩,⟨_,k_NoFit⟩,⟨_,DF⟩,⟨_,DJ⟩,⟨_,DA⟩,trivial⟩) e
  ·obtain ⟨i,e⟩:=Fl.mp e
   exact bR (P:=fun (_:Nat) (q:θ×Nat×Nat)=>∃ f,(ad ++ [a_Reader___init__,a_Reader_peek,a_Reader_take,a_Reader_need_closed,a_Reader_need_end,a_Reader_new_place,a_Reader_read_node,a_Reader_read_bracketed,a_Reader_read_things,a_Reader_read_thing,a_Reader_read_row,a_Reader_read_one_kind])[q.2.2]? = some f∧pS X T.an q.1 q.2.1 f) (show cH _ 0 T.me from ⟨⟨a_Reader_peek,bU (n:=25) (k:=1) hF.len,⟨_,_,rfl,DA,rfl,M_Reader_peek,(show ("peek":θ) ∉ (["words","taken","nodes"]:List θ) by decide +kernel)⟩⟩,⟨a_Reader_take,bU (n:=25) (k:=2) hF.len,⟨_,_,rfl,DA,rfl,M_Reader_take,(show ("take":θ) ∉ (["words","taken","nodes"]:List θ) by decide +kernel)⟩⟩,⟨a_Reader_need_closed,bU (n:=25) (k:=3) hF.len,⟨_,_,rfl,DA,rfl,M_Reader_need_closed,(show ("need_closed":θ) ∉ (["words","taken","nodes"]:List θ) by decide +kernel)⟩⟩,⟨a_Reader_need_end,bU (n:=25) (k:=4) hF.len,⟨_,_,rfl,DA,rfl,M_Reader_need_end,(show ("need_end":θ) ∉ (["words","taken","nodes"]:List θ) by decide +kernel)⟩⟩,⟨a_Reader_new_place,bU (n:=25) (k:=5) hF.len,⟨_,_,rfl,DA,rfl,M_Reader_new_place,(show ("new_place":θ) ∉ (["words","taken","nodes"]:List θ) by decide +kernel)⟩⟩,⟨a_Reader_read_node,bU (n:=25) (k:=6) hF.len,⟨_,_,rfl,DA,rfl,M_Reader_read_node,(show ("read_node":θ) ∉ (["words","taken","nodes"]:List θ) by decide +kernel)⟩⟩,⟨a_Reader_read_bracketed,bU (n:=25) (k:=7) hF.len,⟨_,_,rfl,DA,rfl,M_Reader_read_bracketed,(show ("read_bracketed":θ) ∉ (["words","taken","nodes"]:List θ) by decide +kernel)⟩⟩,⟨a_Reader_read_things,bU (n:=25) (k:=8) hF.len,⟨_,_,rfl,DA,rfl,M_Reader_read_things,(show ("read_things":θ) ∉ (["words","taken","nodes"]:List θ) by decide +kernel)⟩⟩,⟨a_Reader_read_thing,bU (n:=25) (k:=9) hF.len,⟨_,_,rfl,DA,rfl,M_Reader_read_thing,(show ("read_thing":θ) ∉ (["words","taken","nodes"]:List θ) by decide +kernel)⟩⟩,⟨a_Reader_read_row,bU (n:=25) (k:=10) hF.len,⟨_,_,rfl,DA,rfl,M_Reader_read_row,(show ("read_row":θ) ∉ (["words","taken","nodes"]:List θ) by decide +kernel)⟩⟩,⟨a_Reader_read_one_kind,bU (n:=25) (k:=11) hF.len,⟨_,_,rfl,DA,rfl,M_Reader_read_one_kind,(show ("read_one_kind":θ) ∉ (["words","taken","nodes"]:List θ) by decide +kernel)⟩⟩,trivial⟩) e
  ·exact bR (P:=fun (j:Nat) (x:θ)=>x≠("":θ)→∃ f i cl,(ad ++ [a_Reader___init__,a_Reader_peek,a_Reader_take,a_Reader_need_closed,a_Reader_need_end,a_Reader_new_place,a_Reader_read_node,a_Reader_read_bracketed,a_Reader_read_things,a_Reader_read_thing,a_Reader_read_row,a_Reader_read_one_kind])[cl.init]? = some f∧Mk K i.ad f∧Γ.cl[j]? = some cl∧cl.what=0∧X.W.ci[j]? = some i∧X.W.what[j]? = some 0∧mg x=some (.ref i.ad)) (show cH _ 0 T.nw from ⟨(fun z=>ZX rfl z),(fun z=>ZX rfl z),(fun z=>ZX rfl z),(fun z=>ZX rfl z),(fun z=>ZX rfl z),(fun z=>ZX rfl z),(fun z=>ZX rfl z),(fun z=>ZX rfl z),(fun z=>ZX rfl z),(fun _=>⟨a_Reader___init__,⟨C_Reader,_⟩,_,bU (n:=25) (k:=0) hF.len,⟨DB.mks,M_Reader___init__.at_,M_Reader___init__.fn,DB.kp⟩,rfl,rfl,rfl,rfl,Ϫ Y G DB.a⟩),trivial⟩) e hz
  ·exact bR (P:=fun (j:Nat) (x:θ)=>x≠("":θ)→∃ f fd ps i cl,FnI X 1 f fd ps i.nm none∧b6 K fd ps []∧Mk K i.ad f∧Cls K i.ad∧(∀ f∈i.nm,dq K i.ad f)∧Γ.cl[j]? = some cl∧X.W.ci[j]? = some i∧X.W.what[j]? = some 1∧i.nm.length=cl.at_.length∧mg x=some (.ref i.ad)) (show cH _ 0 T.nd from ⟨(fun z=>ZX rfl z),(fun z=>ZX rfl z),(fun z=>ZX rfl z),(fun z=>ZX rfl z),(fun z=>ZX rfl z),(fun z=>ZX rfl z),(fun z=>ZX rfl z),(fun z=>ZX rfl z),(fun z=>ZX rfl z),(fun z=>ZX rfl z),trivial⟩) e hz
  ·exact bR (P:=fun (j:Nat) (x:θ)=>x≠("":θ)→∃ (k:Cl) (i:CI) (fI:Δ) (fd:á) (ps:List θ) (Bx nwI iniI:String) (bmB:List η),ÿ Bx nwI iniI bmB∧iq K i.ad fI bmB nwI∧FnJ X 1 fI fd ps i.nm k i.ad∧b6 K fd ps []∧gy K i.ad∧(∀ f∈i.nm,Υ K (.ref i.ad) f=some none)∧Γ.cl[j]? = some k∧X.W.ci[j]? = some i∧X.W.what[j]? = some 2∧i.nm.length=k.at_.length∧Ω K i.ad (.type "BaseException")=some true∧ð K (.ref i.ad)=some (.type "type")∧Ϝ K (.ref i.ad)=true∧mg x=some (.ref i.ad)∧k.at_.isEmpty=false) (show cH _ 0 T.ex from ⟨(fun z=>ZX rfl z),(fun z=>ZX rfl z),(fun z=>ZX rfl z),(fun z=>ZX rfl z),(fun z=>ZX rfl z),(fun z=>ZX rfl z),(fun z=>ZX rfl z),(fun z=>ZX rfl z),(fun z=>ZX rfl z),(fun z=>ZX rfl z),trivial⟩) e hz
  ·exact bR (P:=fun (j:Nat) (x:θ)=>x≠("":θ)→pR X j x) (show cH _ 0 T.hx from ⟨(fun _=>⟨⟨C_BlameError,_⟩,rfl,Ϫ Y G Dq.a,Dq.ec,fun c k ic h1 h2 h3=>bR (P:=fun (c:Nat) (k:Cl)=>∀ ic,X.W.ci[c]? = some ic→X.W.what[c]? = some 2→Ω K ic.ad (.ref C_BlameError)=some (c == 0 || k.sup.contains 0)) (show cH _ 0 Γ.cl from ⟨(fun _ e _=>by cases e;exact T'.mr.at (by decide +kernel) Dq.a Dq.a),(fun _ e _=>by cases e;exact T'.mr.at (by decide +kernel) Dv.a Dq.a),(fun _ e _=>by cases e;exact T'.mr.at (by decide +kernel) Dy.a Dq.a),(fun _ e _=>by cases e;exact T'.mr.at (by decide +kernel) Ds.a Dq.a),(fun _ e _=>by cases e;exact T'.mr.at (by decide +kernel) Du.a Dq.a),(fun _ e _=>by cases e;exact T'.mr.at (by decide +kernel) Dr.a Dq.a),(fun _ e _=>by cases e;exact T'.mr.at (by decide +kernel) Dz.a Dq.a),(fun _ e _=>by cases e;exact T'.mr.at (by decide +kernel) Dt.a Dq.a),(fun _ e _=>by cases e;exact T'.mr.at (by decide +kernel) Dx.a Dq.a),(fun _ _ z=>ZX z (by show some 0≠some 2;decide)),trivial⟩) h1 ic h2 h3⟩),(fun _=>⟨⟨C_NoText,_⟩,rfl,Ϫ Y G Dv.a,Dv.ec,fun c k ic h1 h2 h3=>bR (P:=fun (c:Nat) (k:Cl)=>∀ ic,X.W.ci[c]? = some ic→X.W.what[c]? = some 2→Ω K ic.ad (.ref C_NoText)=some (c == 1 || k.sup.contains 1)) (show cH _ 0 Γ.cl from ⟨(fun _ e _=>by cases e;exact T'.mr.at (by decide +kernel) Dq.a Dv.a),(fun _ e _=>by cases e;exact T'.mr.at (by decide +kernel) Dv.a Dv.a),(fun _ e _=>by cases e;exact T'.mr.at (by decide +kernel) Dy.a Dv.a),(fun _ e _=>by cases e;exact T'.mr.at (by decide +kernel) Ds.a Dv.a),(fun _ e _=>by cases e;exact T'.mr.at (by decide +kernel) Du.a Dv.a),(fun _ e _=>by cases e;exact T'.mr.at (by decide +kernel) Dr.a Dv.a),(fun _ e _=>by cases e;exact T'.mr.at (by decide +kernel) Dz.a Dv.a),(fun _ e _=>by cases e;exact T'.mr.at (by decide +kernel) Dt.a Dv.a),(fun _ e _=>by cases e;exact T'.mr.at (by decide +kernel) Dx.a Dv.a),(fun _ _ z=>ZX z (by show some 0≠some 2;decide)),trivial⟩) h1 ic h2 h3⟩),(fun _=>⟨⟨C_NoPart,_⟩,rfl,Ϫ Y G Dy.a,Dy.ec,fun c k ic h1 h2 h3=>bR (P:=fun (c:Nat) (k:Cl)=>∀ ic,X.W.ci[c]? = some ic→X.W.what[c]? = some 2→Ω K ic.ad (.ref C_NoPart)=some (c == 2 || k.sup.contains 2)) (show cH _ 0 Γ.cl from ⟨(fun _ e _=>by cases e;exact T'.mr.at (by decide +kernel) Dq.a Dy.a),(fun _ e _=>by cases e;exact T'.mr.at (by decide +kernel) Dv.a Dy.a),(fun _ e _=>by cases e;exact T'.mr.at (by decide +kernel) Dy.a Dy.a),(fun _ e _=>by cases e;exact T'.mr.at (by decide +kernel) Ds.a Dy.a),(fun _ e _=>by cases e;exact T'.mr.at (by decide +kernel) Du.a Dy.a),(fun _ e _=>by cases e;exact T'.mr.at (by decide +kernel) Dr.a Dy.a),(fun _ e _=>by cases e;exact T'.mr.at (by decide +kernel) Dz.a Dy.a),(fun _ e _=>by cases e;exact T'.mr.at (by decide +kernel) Dt.a Dy.a),(fun _ e _=>by cases e;exact T'.mr.at (by decide +kernel) Dx.a Dy.a),(fun _ _ z=>ZX z (by show some 0≠some 2;decide)),trivial⟩) h1 ic h2 h3⟩),(fun _=>⟨⟨C_TooMany,_⟩,rfl,Ϫ Y G Ds.a,Ds.ec,fun c k ic h1 h2 h3=>bR (P:=fun (c:Nat) (k:Cl)=>∀ ic,X.W.ci[c]? = some ic→X.W.what[c]? = some 2→Ω K ic.ad (.ref C_TooMany)=some (c == 3 || k.sup.contains 3)) (show cH _ 0 Γ.cl from ⟨(fun _ e _=>by cases e;exact T'.mr.at (by decide +kernel) Dq.a Ds.a),(fun _ e _=>by cases e;exact T'.mr.at (by decide +kernel) Dv.a Ds.a),(fun _ e _=>by cases e;exact T'.mr.at (by decide +kernel) Dy.a Ds.a),(fun _ e _=>by cases e;exact T'.mr.at (by decide +kernel) Ds.a Ds.a),(fun _ e _=>by cases e;exact T'.mr.at (by decide +kernel) Du.a Ds.a),(fun _ e _=>by cases e;exact T'.mr.at (by decide +kernel) Dr.a Ds.a),(fun _ e _=>by cases e;exact T'.mr.at (by decide +kernel) Dz.a Ds.a),(fun _ e _=>by cases e;exact T'.mr.at (by decide +kernel) Dt.a Ds.a),(fun _ e _=>by cases e;exact T'.mr.at (by decide +kernel) Dx.a Ds.a),(fun _ _ z=>ZX z (by show some 0≠some 2;decide)),trivial⟩) h1 ic h2 h3⟩),(fun _=>⟨⟨C_NoName,_⟩,rfl,Ϫ Y G Du.a,Du.ec,fun c k ic h1 h2 h3=>bR (P:=fun (c:Nat) (k:Cl)=>∀ ic,X.W.ci[c]? = some ic→X.W.what[c]? = some 2→Ω K ic.ad (.ref C_NoName)=some (c == 4 || k.sup.contains 4)) (show cH _ 0 Γ.cl from ⟨(fun _ e _=>by cases e;exact T'.mr.at (by decide +kernel) Dq.a Du.a),(fun _ e _=>by cases e;exact T'.mr.at (by decide +kernel) Dv.a Du.a),(fun _ e _=>by cases e;exact T'.mr.at (by decide +kernel) Dy.a Du.a),(fun _ e _=>by cases e;exact T'.mr.at (by decide +kernel) Ds.a Du.a),(fun _ e _=>by cases e;exact T'.mr.at (by decide +kernel) Du.a Du.a),(fun _ e _=>by cases e;exact T'.mr.at (by decide +kernel) Dr.a Du.a),(fun _ e _=>by cases e;exact T'.mr.at (by decide +kernel) Dz.a Du.a),(fun _ e _=>by cases e;exact T'.mr.at (by decide +kernel) Dt.a Du.a),(fun _ e _=>by cases e;exact T'.mr.at (by decide +kernel) Dx.a Du.a),(fun _ _ z=>ZX z (by show some 0≠some 2;decide)),trivial⟩) h1 ic h2 h3⟩),(fun _=>⟨⟨C_TooDeep,_⟩,rfl,Ϫ Y G Dr.a,Dr.ec,fun c k ic h1 h2 h3=>bR (P:=fun (c:Nat) (k:Cl)=>∀ ic,X.W.ci[c]? = some ic→X.W.what[c]? = some 2→Ω K ic.ad (.ref C_TooDeep)=some (c == 5 || k.sup.contains 5)) (show cH _ 0 Γ.cl from ⟨(fun _ e _=>by cases e;exact T'.mr.at (by decide +kernel) Dq.a Dr.a),(fun _ e _=>by cases e;exact T'.mr.at (by decide +kernel) Dv.a Dr.a),(fun _ e _=>by cases e;exact T'.mr.at (by decide +kernel) Dy.a Dr.a),(fun _ e _=>by cases e;exact T'.mr.at (by decide +kernel) Ds.a Dr.a),(fun _ e _=>by cases e;exact T'.mr.at (by decide +kernel) Du.a Dr.a),(fun _ e _=>by cases e;exact T'.mr.at (by decide +kernel) Dr.a Dr.a),(fun _ e _=>by cases e;exact T'.mr.at (by decide +kernel) Dz.a Dr.a),(fun _ e _=>by cases e;exact T'.mr.at (by decide +kernel) Dt.a Dr.a),(fun _ e _=>by cases e;exact T'.mr.at (by decide +kernel) Dx.a Dr.a),(fun _ _ z=>ZX z (by show some 0≠some 2;decide)),trivial⟩) h1 ic h2 h3⟩),(fun _=>⟨⟨C_NoFit,_⟩,rfl,Ϫ Y G Dz.a,Dz.ec,fun c k ic h1 h2 h3=>bR (P:=fun (c:Nat) (k:Cl)=>∀ ic,X.W.ci[c]? = some ic→X.W.what[c]? = some 2→Ω K ic.ad (.ref C_NoFit)=some (c == 6 || k.sup.contains 6)) (show cH _ 0 Γ.cl from ⟨(fun _ e _=>by cases e;exact T'.mr.at (by decide +kernel) Dq.a Dz.a),(fun _ e _=>by cases e;exact T'.mr.at (by decide +kernel) Dv.a Dz.a),(fun _ e _=>by cases e;exact T'.mr.at (by decide +kernel) Dy.a Dz.a),(fun _ e _=>by cases e;exact T'.mr.at (by decide +kernel) Ds.a Dz.a),(fun _ e _=>by cases e;exact T'.mr.at (by decide +kernel) Du.a Dz.a),(fun _ e _=>by cases e;exact T'.mr.at (by decide +kernel) Dr.a Dz.a),(fun _ e _=>by cases e;exact T'.mr.at (by decide +kernel) Dz.a Dz.a),(fun _ e _=>by cases e;exact T'.mr.at (by decide +kernel) Dt.a Dz.a),(fun _ e _=>by cases e;exact T'.mr.at (by decide +kernel) Dx.a Dz.a),(fun _ _ z=>ZX z (by show some 0≠some 2;decide)),trivial⟩) h1 ic h2 h3⟩),(fun _=>⟨⟨C_NoLook,_⟩,rfl,Ϫ Y G Dt.a,Dt.ec,fun c k ic h1 h2 h3=>bR (P:=fun (c:Nat) (k:Cl)=>∀ ic,X.W.ci[c]? = some ic→X.W.what[c]? = some 2→Ω K ic.ad (.ref C_NoLook)=some (c == 7 || k.sup.contains 7)) (show cH _ 0 Γ.cl from ⟨(fun _ e _=>by cases e;exact T'.mr.at (by decide +kernel) Dq.a Dt.a),(fun _ e _=>by cases e;exact T'.mr.at (by decide +kernel) Dv.a Dt.a),(fun _ e _=>by cases e;exact T'.mr.at (by decide +kernel) Dy.a Dt.a),(fun _ e _=>by cases e;exact T'.mr.at (by decide +kernel) Ds.a Dt.a),(fun _ e _=>by cases e;exact T'.mr.at (by decide +kernel) Du.a Dt.a),(fun _ e _=>by cases e;exact T'.mr.at (by decide +kernel) Dr.a Dt.a),(fun _ e _=>by cases e;exact T'.mr.at (by decide +kernel) Dz.a Dt.a),(fun _ e _=>by cases e;exact T'.mr.at (by decide +kernel) Dt.a Dt.a),(fun _ e _=>by cases e;exact T'.mr.at (by decide +kernel) Dx.a Dt.a),(fun _ _ z=>ZX z (by show some 0≠some 2;decide)),trivial⟩) h1 ic h2 h3⟩),(fun _=>⟨⟨C_Parted,_⟩,rfl,Ϫ Y G Dx.a,Dx.ec,fun c k ic h1 h2 h3=>bR (P:=fun (c:Nat) (k:Cl)=>∀ ic,X.W.ci[c]? = some ic→X.W.what[c]? = some 2→Ω K ic.ad (.ref C_Parted)=some (c == 8 || k.sup.contains 8)) (show cH _ 0 Γ.cl from ⟨(fun _ e _=>by cases e;exact T'.mr.at (by decide +kernel) Dq.a Dx.a),(fun _ e _=>by cases e;exact T'.mr.at (by decide +kernel) Dv.a Dx.a),(fun _ e _=>by cases e;exact T'.mr.at (by decide +kernel) Dy.a Dx.a),(fun _ e _=>by cases e;exact T'.mr.at (by decide +kernel) Ds.a Dx.a),(fun _ e _=>by cases e;exact T'.mr.at (by decide +kernel) Du.a Dx.a),(fun _ e _=>by cases e;exact T'.mr.at (by decide +kernel) Dr.a Dx.a),(fun _ e _=>by cases e;exact T'.mr.at (by decide +kernel) Dz.a Dx.a),(fun _ e _=>by cases e;exact T'.mr.at (by decide +kernel) Dt.a Dx.a),(fun _ e _=>by cases e;exact T'.mr.at (by decide +kernel) Dx.a Dx.a),(fun _ _ z=>ZX z (by show some 0≠some 2;decide)),trivial⟩) h1 ic h2 h3⟩),(fun z=>ZX rfl z),trivial⟩) e hz
  ·exact bR (P:=fun (j:Nat) (x:θ)=>x≠("":θ)→RtP X j x) (show cH _ 0 T.xt from ⟨(fun z=>ZX rfl z),(fun _=>⟨_,⟨C_NoText,_⟩,_,_,_,_,DT,ot_NoText,rfl,rfl,rfl,rfl,Ϫ Y G Dv.a⟩),(fun z=>ZX rfl z),(fun z=>ZX rfl z),(fun z=>ZX rfl z),(fun z=>ZX rfl z),(fun z=>ZX rfl z),(fun z=>ZX rfl z),(fun z=>ZX rfl z),(fun z=>ZX rfl z),trivial⟩) e hz
  ·exact fun c k ic h1 h2 h3=>bR (P:=fun (c:Nat) (k:Cl)=>∀ ic,X.W.ci[c]? = some ic→X.W.what[c]? = some 2→Ω K ic.ad (.type "ValueError")=some (k.sup.contains 1000)) (show cH _ 0 Γ.cl from ⟨(fun _ e _=>by cases e;exact T'.vx.at (by decide +kernel) Dq.a),(fun _ e _=>by cases e;exact T'.vx.at (by decide +kernel) Dv.a),(fun _ e _=>by cases e;exact T'.vx.at (by decide +kernel) Dy.a),(fun _ e _=>by cases e;exact T'.vx.at (by decide +kernel) Ds.a),(fun _ e _=>by cases e;exact T'.vx.at (by decide +kernel) Du.a),(fun _ e _=>by cases e;exact T'.vx.at (by decide +kernel) Dr.a),(fun _ e _=>by cases e;exact T'.vx.at (by decide +kernel) Dz.a),(fun _ e _=>by cases e;exact T'.vx.at (by decide +kernel) Dt.a),(fun _ e _=>by cases e;exact T'.vx.at (by decide +kernel) Dx.a),(fun _ _ z=>ZX z (by show some 0≠some 2;decide)),trivial⟩) h1 ic h2 h3
 obtain ⟨f,h1,h2⟩:=qZ hG (j:=24) (x:="law") rfl
 rw [hfa] at h2
 cases h2
 exact ⟨X,rfl,rfl,rfl,rfl,rfl,rfl,rfl,rfl,jL Pg 250 24 fa (ϓ (ν.mp h1).1 ▸ h1)⟩
theorem walk {l:FT} {q:Î} {loose:List θ} {XP:(θ→Option η)→Â→Prop} {YP:é→Â→Prop} {d:DefRec} {K:Params→ς} (hn:l.most=some 63) (hdf:d.params.defaults = []) (hd:d.name = "law")
 (hY:∀ (w:é) (h:Â),YP w h→(K w.params).In h) (F:∀ (w:é) (h:Â) (Y:(K w.params).In h),Txt (KOf Y)):Gv q loose XP YP l.row.toRowW d [] (fun f vs=>FE f vs):=
 wQ (n:=63) hn (by decide) hdf ⟨rfl,by decide,by decide⟩ hY (fun w mg fa h os Y G e md=>xP Y G (hd ▸ e) (F w h Y)) (fun ns h=>yE ns h)
end L2.K15
end
section
open PySem PySem.W PyProof.Rows
namespace PySem.W.Fast
def tw11486759246904363740:Nat:=0
def tw7388004543085183670:Nat:=0
def tw7696179103580606120:Nat:=0
def tw9780799260475902428:Nat:=0
def tw2763379225349602459:Nat:=0
def tw11775358012754496254:Nat:=0
def tw869282053120672638:Nat:=0
def tw2779022238346709675:Nat:=0
def tw10356475472729476206:Nat:=0
def tw11362789347321064961:Nat:=0
def tw16353717136787869451:Nat:=0
def tw12486981568733387940:Nat:=0
def tw5980615064499679206:Nat:=0
def tw16339571189110750050:Nat:=0
def tw6778824892560478824:Nat:=0
def tw9902400778809267268:Nat:=0
def tw5367441368831530179:Nat:=0
def tw2497307616619452789:Nat:=0
def tw8036515785121029691:Nat:=0
def tw7777781119181177734:Nat:=0
def tw7697857875253989158:Nat:=0
def tw7845426756061468902:Nat:=0
def tw16805059515014065229:Nat:=0
def tw7036252502286568002:Nat:=0
def tw10791929565272590294:Nat:=0
def tw11833100466872136416:Nat:=0
def tw7425265618298077818:Nat:=0
def tw12582960166986958516:Nat:=0
def tw541963311790771518:Nat:=0
def tw15046181703145339136:Nat:=0
def tw10802614407500694394:Nat:=0
def tw17611153453915573256:Nat:=0
def tw10610472845003180701:Nat:=0
def tw18252787906411828762:Nat:=0
def tw16982716294239690720:Nat:=0
def tw2102709423947734217:Nat:=0
def tw11440694980144287897:Nat:=0
def tw9249895409022915637:Nat:=0
def tw5519910569101648452:Nat:=0
def tw1026086109203153723:Nat:=0
def tw9467141452470678852:Nat:=0
def tw15876966436125259452:Nat:=0
def tw12753291235574505818:Nat:=0
def tw11021248178013613643:Nat:=0
def tw13181168572800140601:Nat:=0
def tw7490931415399994448:Nat:=0
def tw2132614303513411012:Nat:=0
def tw17437206279933424548:Nat:=0
def tw1095551191482979979:Nat:=0
def tw8501988293146634758:Nat:=0
def tw11494206033694631351:Nat:=0
def tw13829018956206387277:Nat:=0
def tw1994901850688899827:Nat:=0
def tw11120741560433485893:Nat:=0
def tw11262423488114166594:Nat:=0
def tw13845644873982297655:Nat:=0
def tw12679588283582584185:Nat:=0
def tw3761454768515866482:Nat:=0
def tw5010621936807762618:Nat:=0
def tw1307998747117619632:Nat:=0
def tw11835706759106304695:Nat:=0
end PySem.W.Fast
set_option maxRecDepth 100000 in
set_option maxHeartbeats 0 in
theorem PySem.Challenge.cw_blamewise_k15_texts_refused_holds : PySem.Challenge.rw_blamewise_k15_texts_refused.Holds := by
 w_on;o_law;k_head;(case hw=>w_witness2)
 k_fill
 refine L2.K15.walk (l:=PySem.Challenge.rw_blamewise_k15_texts_refused) rfl rfl rfl (fun w h Y=>PySem.W.kIn_of Y) ?F
 case F=>
  intro w h KX
  dsimp only [L2.Ev.KOf]
  refine' L2.K15.Txt.mk ?fn ?gl ?tl ?bl ?mr ?vx ?bi_BlameError ?x_BlameError ?x_NoText ?x_NoPart ?x_TooMany ?x_NoName ?x_TooDeep ?x_NoFit ?x_NoLook ?x_Parted ?x_Reader
  (case fn=>(repeat (first | (apply L2.Ev.hl_cons;(case a=>k_is);(case l=>k_is);(case c=>k_is);(case k=>k_is);(case d=>kernel_rfl)) | (apply L2.Ev.hl_consD;(case a=>k_is);(case l=>k_is);(case c=>k_is);(case k=>k_is);(case g=>k_is);(case d=>kernel_rfl))));exact trivial)
  (case gl=>(repeat (apply L2.Ev.gl_cons;(case a=>k_is);(case b=>kernel_rfl)));exact trivial)
  (case tl=>(repeat (apply L2.Ev.tb_cons;(case a=>k_is);(case b=>kernel_rfl)));exact trivial)
  (case bl=>(repeat (apply L2.Ev.nl_cons;(case a=>k_is)));exact trivial)
  (case mr=>(repeat (apply L2.Ev.mr_cons;(case a=>k_is);(case b=>k_is);(case c=>k_is)));exact trivial)
  (case vx=>(repeat (apply L2.Ev.vx_cons;(case a=>k_is);(case b=>k_is)));exact trivial)
  (case bi_BlameError=>(refine' ⟨_,?bi0,?bi1,?bi2,?bi3⟩;(case bi0=>k_is);(case bi1=>k_is);(case bi2=>k_is);(case bi3=>k_is)))
  (case x_BlameError=>(refine' ⟨_,L2.Ev.xb_mk ?a ?ga ?gn ?cl ?sg ?tk ?ob ?be ?is ?tyC ?hh,trivial⟩;(case a=>k_is);(case ga=>k_is);(case gn=>k_is);(case cl=>k_is);(case sg=>k_is);(case tk=>k_is);(case ob=>k_is);(case be=>k_is);(case is=>kernel_rfl);(case tyC=>k_is);(case hh=>k_is)))
  (case x_NoText=>(refine' ⟨_,L2.Ev.xb_mk ?a ?ga ?gn ?cl ?sg ?tk ?ob ?be ?is ?tyC ?hh,L2.Ev.ot_mk ?ol ?oo ?oi ?ot,trivial⟩;(case a=>k_is);(case ol=>k_is);(case oo=>kernel_rfl);(case oi=>k_is);(case ot=>kernel_rfl);(case ga=>k_is);(case gn=>k_is);(case cl=>k_is);(case sg=>k_is);(case tk=>k_is);(case ob=>k_is);(case be=>k_is);(case is=>kernel_rfl);(case tyC=>k_is);(case hh=>k_is)))
  (case x_NoPart=>(refine' ⟨_,L2.Ev.xb_mk ?a ?ga ?gn ?cl ?sg ?tk ?ob ?be ?is ?tyC ?hh,trivial⟩;(case a=>k_is);(case ga=>k_is);(case gn=>k_is);(case cl=>k_is);(case sg=>k_is);(case tk=>k_is);(case ob=>k_is);(case be=>k_is);(case is=>kernel_rfl);(case tyC=>k_is);(case hh=>k_is)))
  (case x_TooMany=>(refine' ⟨_,L2.Ev.xb_mk ?a ?ga ?gn ?cl ?sg ?tk ?ob ?be ?is ?tyC ?hh,trivial⟩;(case a=>k_is);(case ga=>k_is);(case gn=>k_is);(case cl=>k_is);(case sg=>k_is);(case tk=>k_is);(case ob=>k_is);(case be=>k_is);(case is=>kernel_rfl);(case tyC=>k_is);(case hh=>k_is)))
  (case x_NoName=>(refine' ⟨_,_,L2.Ev.xc_mk ?a ?l ?tq ?ini ?fl ?fn ?fc ?fk ?ga ?gn ?cl ?sg ?tk ?ob ?be ?is ?kp ?tyC ?sa ?ov ?hdc ?hh ?me,?n0,trivial⟩;(case a=>k_is);(case l=>k_is);(case tq=>kernel_rfl);(case ini=>k_is);(case fl=>k_is);(case fn=>k_is);(case fc=>k_is);(case fk=>k_is);(case ga=>k_is);(case gn=>k_is);(case cl=>k_is);(case sg=>k_is);(case tk=>k_is);(case ob=>k_is);(case be=>k_is);(case is=>kernel_rfl);(case kp=>k_is);(case tyC=>k_is);(case sa=>k_is);(case ov=>kernel_rfl);(case hdc=>kernel_rfl);(case hh=>k_is);(case me=>k_is);(case n0=>k_is)))
  (case x_TooDeep=>(refine' ⟨_,_,L2.Ev.xc_mk ?a ?l ?tq ?ini ?fl ?fn ?fc ?fk ?ga ?gn ?cl ?sg ?tk ?ob ?be ?is ?kp ?tyC ?sa ?ov ?hdc ?hh ?me,?n0,trivial⟩;(case a=>k_is);(case l=>k_is);(case tq=>kernel_rfl);(case ini=>k_is);(case fl=>k_is);(case fn=>k_is);(case fc=>k_is);(case fk=>k_is);(case ga=>k_is);(case gn=>k_is);(case cl=>k_is);(case sg=>k_is);(case tk=>k_is);(case ob=>k_is);(case be=>k_is);(case is=>kernel_rfl);(case kp=>k_is);(case tyC=>k_is);(case sa=>k_is);(case ov=>kernel_rfl);(case hdc=>kernel_rfl);(case hh=>k_is);(case me=>k_is);(case n0=>k_is)))
  (case x_NoFit=>(refine' ⟨_,_,L2.Ev.xc_mk ?a ?l ?tq ?ini ?fl ?fn ?fc ?fk ?ga ?gn ?cl ?sg ?tk ?ob ?be ?is ?kp ?tyC ?sa ?ov ?hdc ?hh ?me,?n0,trivial⟩;(case a=>k_is);(case l=>k_is);(case tq=>kernel_rfl);(case ini=>k_is);(case fl=>k_is);(case fn=>k_is);(case fc=>k_is);(case fk=>k_is);(case ga=>k_is);(case gn=>k_is);(case cl=>k_is);(case sg=>k_is);(case tk=>k_is);(case ob=>k_is);(case be=>k_is);(case is=>kernel_rfl);(case kp=>k_is);(case tyC=>k_is);(case sa=>k_is);(case ov=>kernel_rfl);(case hdc=>kernel_rfl);(case hh=>k_is);(case me=>k_is);(case n0=>k_is)))
  (case x_NoLook=>(refine' ⟨_,_,L2.Ev.xc_mk ?a ?l ?tq ?ini ?fl ?fn ?fc ?fk ?ga ?gn ?cl ?sg ?tk ?ob ?be ?is ?kp ?tyC ?sa ?ov ?hdc ?hh ?me,?n0,trivial⟩;(case a=>k_is);(case l=>k_is);(case tq=>kernel_rfl);(case ini=>k_is);(case fl=>k_is);(case fn=>k_is);(case fc=>k_is);(case fk=>k_is);(case ga=>k_is);(case gn=>k_is);(case cl=>k_is);(case sg=>k_is);(case tk=>k_is);(case ob=>k_is);(case be=>k_is);(case is=>kernel_rfl);(case kp=>k_is);(case tyC=>k_is);(case sa=>k_is);(case ov=>kernel_rfl);(case hdc=>kernel_rfl);(case hh=>k_is);(case me=>k_is);(case n0=>k_is)))
  (case x_Parted=>(refine' ⟨_,_,L2.Ev.xc_mk ?a ?l ?tq ?ini ?fl ?fn ?fc ?fk ?ga ?gn ?cl ?sg ?tk ?ob ?be ?is ?kp ?tyC ?sa ?ov ?hdc ?hh ?me,?n0,?n1,?n2,?n3,?n4,trivial⟩;(case a=>k_is);(case l=>k_is);(case tq=>kernel_rfl);(case ini=>k_is);(case fl=>k_is);(case fn=>k_is);(case fc=>k_is);(case fk=>k_is);(case ga=>k_is);(case gn=>k_is);(case cl=>k_is);(case sg=>k_is);(case tk=>k_is);(case ob=>k_is);(case be=>k_is);(case is=>kernel_rfl);(case kp=>k_is);(case tyC=>k_is);(case sa=>k_is);(case ov=>kernel_rfl);(case hdc=>kernel_rfl);(case hh=>k_is);(case me=>k_is);(case n0=>k_is);(case n1=>k_is);(case n2=>k_is);(case n3=>k_is);(case n4=>k_is)))
  (case x_Reader=>(refine' ⟨_,_,_,_,_,_,_,_,_,_,_,_,_,L2.Ev.cc_mk ?a ?pg ?hd ?po ?sa ?mk ?kp,⟨?n0,?n1,?n2,trivial⟩,L2.Ev.me_mk ?at0 ?fl0 ?fn0 ?fc0 ?fk0,L2.Ev.me_mk ?at1 ?fl1 ?fn1 ?fc1 ?fk1,L2.Ev.me_mk ?at2 ?fl2 ?fn2 ?fc2 ?fk2,L2.Ev.me_mk ?at3 ?fl3 ?fn3 ?fc3 ?fk3,L2.Ev.me_mk ?at4 ?fl4 ?fn4 ?fc4 ?fk4,L2.Ev.me_mk ?at5 ?fl5 ?fn5 ?fc5 ?fk5,L2.Ev.me_mk ?at6 ?fl6 ?fn6 ?fc6 ?fk6,L2.Ev.me_mk ?at7 ?fl7 ?fn7 ?fc7 ?fk7,L2.Ev.me_mk ?at8 ?fl8 ?fn8 ?fc8 ?fk8,L2.Ev.me_mk ?at9 ?fl9 ?fn9 ?fc9 ?fk9,L2.Ev.me_mk ?at10 ?fl10 ?fn10 ?fc10 ?fk10,L2.Ev.me_mk ?at11 ?fl11 ?fn11 ?fc11 ?fk11⟩;(case a=>k_is);(case pg=>k_is);(case hd=>k_is);(case po=>k_is);(case sa=>k_is);(case mk=>k_is);(case kp=>k_is);(case n0=>k_is);(case n1=>k_is);(case n2=>k_is);(case at0=>k_is);(case fl0=>k_is);(case fn0=>k_is);(case fc0=>k_is);(case fk0=>k_is);(case at1=>k_is);(case fl1=>k_is);(case fn1=>k_is);(case fc1=>k_is);(case fk1=>k_is);(case at2=>k_is);(case fl2=>k_is);(case fn2=>k_is);(case fc2=>k_is);(case fk2=>k_is);(case at3=>k_is);(case fl3=>k_is);(case fn3=>k_is);(case fc3=>k_is);(case fk3=>k_is);(case at4=>k_is);(case fl4=>k_is);(case fn4=>k_is);(case fc4=>k_is);(case fk4=>k_is);(case at5=>k_is);(case fl5=>k_is);(case fn5=>k_is);(case fc5=>k_is);(case fk5=>k_is);(case at6=>k_is);(case fl6=>k_is);(case fn6=>k_is);(case fc6=>k_is);(case fk6=>k_is);(case at7=>k_is);(case fl7=>k_is);(case fn7=>k_is);(case fc7=>k_is);(case fk7=>k_is);(case at8=>k_is);(case fl8=>k_is);(case fn8=>k_is);(case fc8=>k_is);(case fk8=>k_is);(case at9=>k_is);(case fl9=>k_is);(case fn9=>k_is);(case fc9=>k_is);(case fk9=>k_is);(case at10=>k_is);(case fl10=>k_is);(case fn10=>k_is);(case fc10=>k_is);(case fk10=>k_is);(case at11=>k_is);(case fl11=>k_is);(case fn11=>k_is);(case fc11=>k_is);(case fk11=>k_is)))
end
