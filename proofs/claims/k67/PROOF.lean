import PyProof.Rows.All
import Wide.All
import OpenK.AllK
import Wide.FinOn
import Lean
import PyProof.EqAt
import PyProof.EqKinds
import PyProof.TupleCall
import PyProof.ListMulRoad
import KE.KDictOf
import KE.KEqDict
import PyProof.DictTruth
import KE.LcSums
import PyProof.StrWalks
import PyProof.FString4
import KE.KTabLook
import PyProof.Rows.ZipGen
import PyProof.StrCalls6
import PyProof.StrLawsReplace
import PyProof.MaxThree
import PyProof.ConsumeWalk
import PySem.Challenge.RW_blamewise_k67_shown
open PySem renaming wpAny_bind→ε,Value→ζ,wpAny_pure→θ,Str→μ,Shared→ν,wpAny→χ,Addr→Α,NameKind→Β,starEach→Δ,wpAny_mono→Κ,Expr→Λ,wpAny_holding→Τ,mainGlobals→ύ,Around→Ϗ,wpAny_toks_of→ϙ,wpAny_field→Ϝ,sizeLine→ϟ,Pos→Ϫ,keywordEach→Ϭ,Heap→ϳ,Program→ϴ,wpAny_truthy_bool→ϵ,strLen_append→Ϲ,backTo→Ϻ,wpAny_callSpecial?_slot→Â,mem_of_lookup→Ä,wpAny_newObj_type→È,rawInt→Ê,Stmt→Ë,backToKw→Í,wpAny_call_entry→Ð,wpAny_standAt→Ò,wpAny_seqItems→Ö,compareOp→Ú,World→Û,FuncData→Ý,codeAny_mono→â,wpAny_Call_Name_kw→è,codeAny_call_builtin→î,behindInMarks→ð,plainObj_wpAny_Assign_Attribute→ó,argBest→ø,sliceBounds→ý,wpAny_pyIter_list→ą,wpAny_Call_method→Ć,wpAny_call→Ċ,sizeLine_eq→ċ,noteFrame→Č,attributeBase→Ē,Scope→ē,ExceptHandler→Ĕ,wpAny_setField_rec→Ę,wpAny_pyIter_tuple→ę,wpAny_getItem_str_slice→Ĝ,wpAny_setField→Ġ,bootBuiltins→ġ,ExcBaseFacts→Ģ,wpAny_isTrue_Compare1→Ħ,assignEach→Ī,codeAny→ĭ,wpAny_letGo→į,wpAny_updateSeq→ĺ,wpAny_passesOwn→Ļ,wpAny_execs_nil→ļ,wpAny_tryCatch→ň,wpAny_Expr_any→ŉ,binaryOp→Ŋ,wpAny_loadPart_at→Ř,standAt→ř,foldedSetIterable→Ś,callerA→ś,Builtin→ŝ,pyIter→ş,plainId_quiet→Š,methodCallPos→š,wpAny_execs_cons→Ū,checkBuiltinCall→ū,callWith→Ŭ,cLine→ŭ,wpAny_rule→ŷ,Keyword→Ź,wpAny_specialOf→Ž,wpAny_ite_split→ž,post_val_or_str→ſ,letOwnedTupleGo→C5,codeAny_builtin→C6,Env→CL,wpAny_of_eq→CT,wpAny_Compare1→CU,unbindBehindTheSuite→CV,list_append→CY,IsZip→D0,IsPart→D1,valueAt→D2,swapsWith→D3,seqItems?→D4,wpAny_attempt→Di,Model→Dj,wpAny_List_spliced→Dt,slot_dict_contains→Du,isInstance→Dv,call_meets→Dx,Sem→DD,wpAny_typeOf→DF,wpAny_sequenceKey→DG,wpAny_assign_Name→DH,slot_dict_getitem→DI,getItem→DJ,getAttr→DK,dictGet→DL,wpAny_pyHash_str→DW,wpAny_comp_letGo→DX,pyNext→DY,noFill_tuple_add→DZ,getMethod→E0,Arguments→E6,wpAny_point→E7,unpackItems→E8,Obj→Ea,setItem→Ei,setAttr→Ej,wpAny_newFunctionEnv_cells→Et,wpAny_loadPart→Eu,typeLookup→Ew,findBy→Ex,WalksT→Ey,Operator→EA,wpAny_onRaise→ED,swapsWithSole→EF,swappedStores→EG,seq_tuple_add→EH,call→EI,Comprehension→EO,setFlight→ES,cellsFrom→ET,bindL→EU,bindC→EV,Draws→Fc,seqIndex_neg→Fd,concat_meets→Fe,argsOk→Ff,OsState→Fj,wpAny_storeName_local→Fq,codeAny_handlers_test→Fs,codeAny_call_function→Fv,builtinLookup_eq_fast→Fw,wpAny_throw→FA,seqIndex_of→FC,excClassObj→FD,intText?→FE,wpAny_handleBy_cons→FK,wpAny_Assign_stores→FL,wpAny_evalAll_cons→G0,wpAny_Name→G3,wpAny_Constant_int→G4,typeIs_str→G5,sysModules→G6,refuseLoop→G9,isTrue→Ga,findBy_of_findIdx?→Gb,closureFor→Gd,passOn→Gg,Within→Gh,wpAny_pyIter_enum→Gu,wpAny_evalAll_nil→Gv,wpAny_dictEntries→Gw,wpAny_Assign_Name→Gx,slot_list_getitem→Gy,evalAll→Gz,Meets→GF,BindsTo→GJ,wpAny_pyIter_zip→GK,wpAny_lookBehind→GL,wpAny_isInstance→GN,wpAny_Dict_empty→GP,updateSeq→GQ,pastItsLine_dict→GR,lastMarks→GU,wpAny_JoinedStr→H8,typeLookup_type→H9,getAttrByItsOwn→Ha,codeAny_of_tree→Hb,Fin→Hc
open List renaming mem_singleton→η,mem_cons_of_mem→ι,mem_cons_self→κ,prefix_refl→ξ,mem_of_getElem?→ο,mem_cons→π,getElem?_eq_some_iff→ς,length_append→ω,replicate→Ε,getElem?_eq_getElem→Ζ,length_cons→Η,length_map→Θ,size_toArray→Μ,getElem?_append_right→Ν,length_nil→Υ,getElem?_set_ne→Φ,getElem?_map→Ψ,length_singleton→ϊ,getElem?_append_left→ό,all_eq_true→ϓ,mem_filter→ϔ,append_nil→ϕ,nodup_cons→ϛ,filterMap_cons→Ϧ,getElem?_set_self→ϧ,mem_map→ϱ,length_set→Ϸ,mem_flatMap→ϻ,getElem?_cons_succ→À,length_zip→Æ,flatMap_cons→Ó,append_assoc→Ô,map_append→Õ,zip_cons_cons→Þ,prefix_append→ß,getD_eq_getElem?_getD→à,length_replicate→å,getElem?_zip_eq_some→ç,mem_append→ë,map_cons→ì,getElem?_replicate→ï,nil_append→û,mem_iff_getElem?→þ,append→Ă,not_mem_nil→ć,count_cons→ď,filter_eq_nil_iff→Ė,count_append→ė,lookup_cons→Ğ,getElem_mem→ğ,of_mem_zip→ħ,forIn_cons→Ĩ,dropLast_concat_getLast→ĩ,map_map→Į,zip_nil_right→Ĵ,range→ĵ,drop_zero→Ķ,count_nil→ķ,drop_eq_getElem_cons→ŀ,nodup_append→ń,drop_length→ŏ,any_eq_true→Ő,mem_append_right→ŧ,getElem?_eq_none→Ũ,range'→Ű,mem_range→ű,mem_of_mem_tail→Ų,mem_iff_getElem→ų,mem_append_left→Ŵ,map_congr_left→C7,mem_filterMap→CP,getElem?_drop→CQ,take_length→Dl,length_take→Dm,length_drop→Dp,cons_append→Dq,getElem?_eq_none_iff→E2,lookup_eq_some_iff→Ef,length_eq_zero_iff→Eg,getElem?_cons_zero→Eh,take_of_length_le→Em,map_nil→En,lookup→EB,length→EC,getElem_of_mem→EK,flatMap_append→EL,lookup_append→EZ,take_sublist→Fk,reverse_cons→Fl,filter_congr→Fm,zipIdx_cons→Fy,find?_cons→FF,filterMap→FU,drop_nil→Gk
open PySem.Heap renaming get?_push_of_some→τ,get?_push_size→ψ,lt_size→Ξ,get?_update_other→ϑ,get?_none_of_le→ϖ,get?_update_self→ϣ,size_push→ϯ,SameBut→Ü,MadeExcOf→DT,get?_update_ne→EN,get?_push_at→Fo,ExtBut→H0
open PySem.W renaming Frag→υ,findIn→Ρ,nsIn→ώ,keepIn→Ϙ,emptyDict→Ϟ,instObj→ϡ,mroIn→Ϩ,fnOf→ϰ,hasDictIn→Á,codeIn→Ì,mg_of→é,kia_one→ô,typeIn→đ,plainGet→Ě,isFn→ĥ,callWith_K→ī,handedIn→Ł,cellsFrom_some→ŋ,makesIn→ō,methodCall_KW→œ,lookIn→Ţ,plainGet_of→Ů,clsIn→ů,specialIn→C8,plainOver→C9,takerIn→Dd,callWith_K0→El,codeRec_of→Ez,takesIn→EW,OpenLaw→EX,tailIn→Fh,kitOne→Fi,WalkO→Fx
open Option renaming map_eq_some_iff→φ,bind_eq_some_iff→ϗ,isSome_iff_exists→ĉ,getD_some→D5,getD_none→EY
open PySem.Calls renaming spliced_cons→Ι,spliced_nil→ϋ,callWith_builtin→Ã,evalArgs_plain→Ï,Constant_str→ö,Name_function_global→DR
open Nat renaming le_of_ble_eq_true→Ο,le_refl→Ω,le_succ_of_le→ϒ,ne_of_lt→ϝ,le_trans→ϫ,zero_le→ϲ,ne_of_gt→Î,le_succ→Ñ,lt_of_lt_of_le→ä,le_of_lt→ú,mul_le_mul_right→ă,add_mul→Ą,lt_irrefl→Ď,zero_add→ě,sub_self→ı,min_self→Ĳ,succ_ne_self→Ŕ,lt_succ_self→ŕ,add_sub_cancel_left→Ŗ,lt_of_succ_lt_succ→ţ,not_lt_zero→Ŧ,not_lt→CZ,lt_succ_of_lt→Dg,le_add_right→DB,repr→E1,log2_lt→EJ,strongRecOn→FT,mul_le_mul→Gj,sub_zero→GX,add_comm→GY
open Bool renaming and_eq_true→Χ,false_ne_true→Ϡ,false_eq_true→á,not_eq_true'→Ņ,or_false→Ň,or_eq_false_iff→Ŷ,eq_false_iff→D8,and_false→DU,true_and→Ec,or_eq_true_iff→ER,eq_iff_iff→FJ,false_and→FZ,false_or→Gq
open PySem.Value renaming none→Ϛ,ref→Ϣ,bool→ϩ,type→č,int→Đ,str→ĝ,isStrOf→FO,builtin→FP,isInt→GB
open Option.some renaming inj→Ϥ
open Ne renaming symm→ϥ
open ForInStep renaming yield→ϭ
open PySem.Str renaming ofString→Ϯ,join→Ù,empty→ñ
open PySem.Builtin.SmallTypes renaming nextOf→ϸ,fitsIndex→Å,ownedTupleIsFree→É,ownedTupleHandOut→ĸ
open PyProof.Rows.KTD renaming datumAt→Ç,tabLook→DE,kt_dictFind_strs→EM,TabOf→FG
open PySem.NameKind renaming free→Ø
open PyProof.Rows renaming slot_tuple_getitem→ã,boot_list→ĳ,kindOf→Ľ,AllBare→Ş,Constant_none→Ť,envOfC→Ÿ,IntsAre→D6,boot_tuple→De,boot_str→Dz,boot_int→DA,tupleItemsOf_→EE,FormattedValue_plain→FH,entry_tuple_getitem→FN,slot_tuple_getitem→G7,args_tuple_getitem→Ge,Subscript_→Gf,firstMet→Hd,boot_isinstance→He,boot_dict→Hf,boot_bool→Hg
open PySem.Heap.SameBut renaming update→æ
open PySem.F renaming slot_list_append→ê,plain_max_loop→õ,slot_tuple_iterator_next→Ĉ,args_list_append_2→Ĭ,entry_list_append→İ,args_tuple_add_2→ľ,plainAttrs_list→ł,entry_tuple_add→Ń,slot_tuple_add→Ō,slot_zip_next→ŵ,type_list_append→DN,slot_tuple_index→DO,slot_list_extend→DP,entry_max_loop→DQ,args_tuple_iterator_next_1→E4,slot_dict_get→E9,entry_tuple_iterator_next→Eb,args_zip_next_1→FW,entry_zip_next→Gp,entry_zip_new→GH
open PySem.Obj renaming mapSeq→í,data_mapFields→ù,isFreed_of_fields→ÿ,mapFields→Ĥ,cls_mapFields→Df
open PySem.Builtin.List renaming listExtendWith→ò,listSameRef→D7,listItems→Ds,listUpdate→Hh,listTooLong→Hi,listLengthHint→Hj
open PySem.Builtin.Slice renaming slicePlaces→ü,sliceAdjust→ģ,sliceApplied→CO,slicePartIndex→H5,sliceFields→H6
open PySem.Builtin.Tuple renaming tupleExact→Ā,tupleItemsOf→CM,tupleIsExact→CN
open Array renaming getElem?_eq_some_iff→ā,getElem?_eq_getElem→Ŀ,length_toList→ż,toList→Gs
open PySem.Value.ref renaming inj→ĕ
open And renaming intro→Ĺ,right→DC
open Nat.succ renaming inj→ņ
open Prod renaming fst→Ŏ,snd→DS
open Except renaming error→ő
open PySem.Builtin.ObjectAttr renaming storeInDict→Œ,newKeyGuard→Fz
open False renaming elim→ŗ
open True renaming intro→Ŝ
open PySem.Shared renaming heap→ť
open PySem.Around renaming under_plainId→ũ,under→Ed
open Int renaming negSucc→ź,le_refl→Ż,toNat_natCast→Dh,eq_ofNat_of_zero_le→Eo,zero_add→GZ
open PySem.Code renaming quiet_builtin→CS,isFrame→Es,frames→H4
open Std.Legacy.Range renaming size→CW,forIn_eq_forIn_range'→FR
open Sum renaming inr→D9,inl→Dc
open Decidable renaming byContradiction→Dr
open PySem.Txt renaming slice→Dy
open PySem.Walks renaming list→DM
open PySem.Arg renaming arg→DV
open PySem.EntryCells renaming newEntry→E5
open String renaming length_toList→Ek
open PySem.Heap.DictOf renaming new→Ep
open PySem.Builtin.BaseException renaming bexcPut→EP
open Sum.inl renaming inj→FQ
open PySem.CmpOf renaming ints_gt→FX
open PySem.Builtin.Builtins renaming bindParams→FY
open PySem.Challenge renaming pw_blamewise_k67_shown→Gi
open PySem.Heap.IsSliceOf renaming new→GG
open PySem.W.Looks renaming here→GV
open PySem.Draws renaming list→H3
open PySem.Builtin.Range renaming rangeSize→H7
open PySem.Builtin.Dict renaming pendingKey?→Hk,missed→Hl
open PySem PySem.Spec PyProof.Rows
set_option compiler.extract_closed false
noncomputable section
local macro_rules|`($d:declaration)=>do let r:=d.raw;let k:=r[1].getKind;if (k==`Lean.Parser.Command.definition||k==`Lean.Parser.Command.abbrev)&&r[0][4].getNumArgs==0 then return r.setArg 0 (r[0].setArg 4 (Lean.mkNullNode #[Lean.mkNode `Lean.Parser.Command.noncomputable #[Lean.mkAtom "noncomputable"]])) else Lean.Macro.throwUnsupported
set_option hygiene false
local macro_rules|`($a<|>$b)=>`(A $a $b)
abbrev Fg:=PySem.W.Frag
abbrev NK:=List (Str×NameKind)
abbrev ZZ:=@if_pos
abbrev ZY:=@if_neg
abbrev ZX:=@absurd
abbrev ZW:=@decide_eq_true
abbrev ZV:=@decide_eq_false
abbrev ZU:=@beq_eq_false_iff_ne
abbrev ZT:=@beq_self_eq_true
abbrev ZS:=@congrArg
set_option Elab.async false
set_option linter.all false
set_option maxRecDepth 100000
set_option maxHeartbeats 8000000
set_option Elab.async false
set_option linter.all false
set_option maxRecDepth 100000
namespace L2
abbrev Key:=Sum Int μ
def jd:Key→ζ→Bool
 | .inl k,v=>GB k v
 | .inr x,v=>FO x v
def Cz (w:Û):Key→Int
 | .inl k=>hashInt k
 | .inr x=>hashStr w x
theorem aG:∀ {k} {v},jd k v=true→(∃ i t,k=Dc i∧v=Đ i t)∨(∃ x t,k=D9 x∧v=ĝ x t)
 | .inl i,v,h=>by
   obtain ⟨t,e⟩:=Value.isInt_shape (k:=i) (v:=v) h
   exact .inl ⟨i,t,rfl,e⟩
 | .inr x,v,h=>by
   obtain ⟨t,e⟩:=Value.isStrOf_shape (x:=x) (v:=v) h
   exact .inr ⟨x,t,rfl,e⟩
theorem py (i) (t):jd (.inl i) (.int i t)=true:=by simp [jd,GB]
theorem pz (x) (t):jd (.inr x) (.str x t)=true:=by simp [jd,FO]
theorem xH (a b):decide ((Dc a:Key)=Dc b)=(a == b):=by
 by_cases e:a=b
 ·subst e;simp
 ·have h:¬ (Dc a:Key)=Dc b:=fun q=>e (FQ q)
  rw [ZV h]
  exact (ZU.mpr e).symm
theorem xK (a b):decide ((D9 a:Key)=D9 b)=decide (a=b):=by
 by_cases e:a=b
 ·subst e;simp
 ·have h:¬ (D9 a:Key)=D9 b:=fun q=>e (Sum.inr.inj q)
  rw [ZV h,ZV e]
theorem xI (a) (b):decide ((Dc a:Key)=D9 b)=false:=ZV (fun q=>nomatch q)
theorem xJ (a) (b):decide ((D9 a:Key)=Dc b)=false:=ZV (fun q=>nomatch q)
def bH (prog:ϴ) (w:Û):PySem.KeyKind prog w Key where
 is:=jd
 hash:=Cz w
 inj:=fun v a b ha hb=>by
  rcases aG ha with ⟨i,t,rfl,rfl⟩ | ⟨x,t,rfl,rfl⟩
  ·rcases aG hb with ⟨j,u,rfl,e⟩ | ⟨y,u,rfl,e⟩
   ·injection e with e1 _;rw [e1]
   ·exact nomatch e
  ·rcases aG hb with ⟨j,u,rfl,e⟩ | ⟨y,u,rfl,e⟩
   ·exact nomatch e
   ·injection e with e1 _;rw [e1]
 byValue:=fun k v h=>by
  rcases aG h with ⟨i,t,rfl,rfl⟩ | ⟨x,t,rfl,rfl⟩ <;> rfl
 pyHash:=fun hv h=>by
  rcases aG hv with ⟨i,t,rfl,rfl⟩ | ⟨x,t,rfl,rfl⟩
  ·exact wpAny_pyHash_int h
  ·exact DW h
 eqBool:=fun hu hv h=>by
  rcases aG hu with ⟨i,t,rfl,rfl⟩ | ⟨x,t,rfl,rfl⟩
  ·rcases aG hv with ⟨j,u,rfl,rfl⟩ | ⟨y,u,rfl,rfl⟩
   ·rw [xH] at h;exact wpAny_eqBool_int h
   ·rw [xI] at h;exact SeqAt.EqAt.int_str i t y u _ _ _ _ h
  ·rcases aG hv with ⟨j,u,rfl,rfl⟩ | ⟨y,u,rfl,rfl⟩
   ·rw [xJ] at h;exact SeqAt.EqAt.str_int x t j u _ _ _ _ h
   ·rw [xK] at h;exact wpAny_eqBool_str h
 «strs»:=fun k x t v h=>by
  rcases aG h with ⟨i,u,rfl,e⟩ | ⟨y,u,rfl,e⟩
  ·exact nomatch e
  ·injection e with e1 _
   subst e1
   cases v <;> rfl
theorem kX (prog) (w) (i) (t):(bH prog w).is (.inl i) (.int i t)=true:=py i t
theorem kY (prog) (w) (x) (t):(bH prog w).is (.inr x) (.str x t)=true:=pz x t
end L2
namespace L2
structure Mod (K:υ) (mg:μ→Option ζ) (base:ϳ):Prop where
 kin:K.In base
 glob:base.Ns ύ mg
 blt:∃ mb,base.Ns builtinsNs mb∧∀ x:μ,x≠"__name__"→mb x=ġ x
 nolimit:base.NoLimit
def frs (l:List CL):List Α:=l.filterMap (·.frame)
def Vis (sc:ē) (x:μ):Prop:=sc.names.lookup x=some .local∨sc.names.lookup x=some .cell∨sc.names.lookup x=some .free
def Loc (sc:ē) (x:μ):Prop:=sc.names.lookup x=some .local∨sc.names.lookup x=some .cell
def lQ (env:CL) (h:ϳ) (m:μ→Option ζ) (x:μ) (u:ζ):Prop:=
 (env.kindOf x=some .local∧m x=some u)∨((env.kindOf x=some .cell∨env.kindOf x=some .free)∧∃ c,env.cells.lookup x=some c∧h.IsCell c (some u))
section
variable {X:Cx} {pins:List (Α×Ea)} {σ:List (Option V)} {H H':Hp} {s:ν} {h':ϳ}
theorem hH {N:List μ} (hN:N.Nodup) {i j:Nat} {x:μ} (a:N[i]? = some x) (b:N[j]? = some x):i=j:=by
 obtain ⟨h1,e1⟩:=ς.mp a
 obtain ⟨h2,e2⟩:=ς.mp b
 exact (List.getElem_inj hN).mp (e1.trans e2.symm)
end
theorem thn (h:χ M A t Q E s) (hQ:∀ a s,Q a s→Q' a s):χ M A t Q' E s:=Κ h hQ fun _ _ x=>x
end L2
namespace L2
theorem kM (ho:s.heap.get? it=some o) (hc:o.cls = .type n) (hd:o.data = .fields vs)
 (hn:["enumerate","zip","dict_itemiterator","dict_reverseitemiterator","odict_iterator","itertools.zip_longest","itertools.pairwise"].contains n=false) (hQ:Q () s):χ M A (C5 tg (.ref it) u) Q E s:=by
 unfold C5
 cases tg <;> first
  | exact θ hQ
  | (cases u <;> first
   | exact θ hQ
   | (refine ε (wpAny_load ho ?_)
      rw [hc,hd]
      show χ M A (if (["enumerate","zip","dict_itemiterator","dict_reverseitemiterator","odict_iterator","itertools.zip_longest","itertools.pairwise"].contains n && vs[0]? == some (Ê _))=true then _ else _) Q E s
      rw [ZY (by intro h;rw [hn,FZ] at h;cases h)]
      exact θ hQ))
end L2
namespace L2
section
variable {X:Cx} {a b c:Λ} {ta tb tc:TE} {pos:Ϫ}
def wM (i j:Int):Prop:=(-(2 ^ 64)<i∧i<2 ^ 64)∨(-(2 ^ 64)<j∧j<2 ^ 64)
theorem wM.ok (h:wM i j):IntMulOk i j:=by
 rcases h with ⟨h1,h2⟩ | ⟨h1,h2⟩
 ·exact .of_left (intBits_le_64 h1 h2)
 ·exact .of_right (intBits_le_64 h1 h2)
end
section
variable {X:Cx} {a b c:Λ} {ta tb tc:TE} {pos:Ϫ}
theorem jP:(ϟ:Nat)<2 ^ 63:=by rw [ċ];decide
end
end L2
namespace L2
structure lR (h:ϳ) (x dx C:Α) (mA:μ→Option ζ):Prop where
 obj:h.get? x=some (ϡ C dx)
 ns:h.Ns1 dx mA
 ne:dx≠x
theorem jf {h:ϳ} {dx:Α} {mA:μ→Option ζ} (n:h.Ns1 dx mA):∃ od,h.get? dx=some od∧∀ name,Ţ name od=some (mA name):=by
 obtain ⟨o,es,ep,ho,hd,hk,_,hm⟩:=n
 refine ⟨o,ho,fun name=>?_⟩
 have e:=hm name
 unfold nsFind Ex at e
 rw [← Array.find?_toList] at e
 unfold Ţ
 rw [hd]
 dsimp only
 split
 ·rename_i y q
  rw [q] at e
  exact ZS some e
 ·rename_i q
  rw [q] at e
  have a:es.toList.any (·.refKey)=false:=by
   rw [List.any_eq_false]
   intro y hy
   obtain ⟨z,t,hkey⟩:=hk y (Array.mem_toList_iff.mp hy)
   simp [DictEntry.refKey,hkey]
  have a':¬ es.toList.any (·.refKey)=true:=by rw [a];exact Ϡ
  rw [ZY a']
  exact ZS some e
theorem lR.look (I:lR h x dx C mA):∃ od,PySem.W.InstAt h x (ϡ C dx) C (some od)∧∀ name,Ţ name od=some (mA name):=
 let ⟨od,ho,hl⟩:=jf I.ns
 ⟨od,⟨I.obj,rfl,rfl,ho⟩,hl⟩
section
variable {prog:ϴ} {w:Û} {A:Ϗ} {E:ζ→ν→Prop} {s:ν} {K:υ} {x dx C f:Α} {mA:μ→Option ζ} {name:μ} {v:ζ}
theorem ua (X:K.In s.heap) (I:lR s.heap x dx C mA) (hg:Ě K C name=true) (hh:Á K C=true)
 (ha:Ρ K (.ref C) name=some none) (hv:mA name=some v) (hv':Ł v=true) (h:Q v { s with toks:=s.toks+1 }) :
 χ (model prog w) A (DK (.ref x) name expr) Q E s:=by
 obtain ⟨od,J,hl⟩:=I.look
 exact PySem.W.get_value X J (Ů hg).1 (PySem.W.findObj_own hh ha rfl (by rw [hl,hv])) hv' h
theorem qO (X:K.In s.heap) (I:lR s.heap x dx C mA) (hg:Ě K C name=true)
 (hf:Ρ K (.ref C) name=some (some (.ref f))) (ht:ĥ K (.ref f)=true) (hv:mA name=none) (h:Q (.ref f,[.ref x]) s) :
 χ (model prog w) A (E0 (.ref x) name pl) Q E s:=by
 obtain ⟨od,J,hl⟩:=I.look
 exact PySem.W.method_fn X J (Ů hg).1 (Ů hg).2 hf (beq_iff_eq.mp ht) (by show (Ţ name od).map (·.isSome)=some false;rw [hl,hv];rfl) h
theorem oz (X:K.In s.heap) (I:lR s.heap x dx C mA)
 (hs:Ρ K (.ref C) "__setattr__" = some (some (.builtin "object.__setattr__"))) (hp:C9 K C=true) (ht:Dd K C name=some none) (hh:Á K C=true)
 (hw:Gh mA ns) (hsz:ns.length≤ϟ)
 (h:∀ h',lR h' x dx C (fun y=>if y=name then some v else mA y)→Ü dx s.heap h'→Q () { s with heap:=h',toks:=s.toks+2 }) :
 χ (model prog w) A (Ej (.ref x) name v) Q E s:=by
 obtain ⟨od,J,hl⟩:=I.look
 refine PySem.W.set_plain X J hs (PySem.W.osa_open (s:={ s with toks:=s.toks+1 }) (r:=none) X J hp ht fun b=>?_)
 obtain ⟨cd,hc,hd'⟩:=PySem.W.any_some hh
 have hx:s.heap.get? x=some ⟨.ref C,some dx,.plain,#[]⟩:=I.obj
 refine ε (θ (ε (ε (Eu hx (ε (GV (s:={ s with toks:=s.toks+1 }) (PySem.W.looks_clsIn X hc) ?_))))))
 rw [hd']
 refine θ (a:=some dx) (ε (θ (ε ?_)))
 refine wpAny_nsSet1 (s:={ s with toks:=s.toks+1 }) I.ns fun h' hn2 hs2=>?_
 obtain ⟨oD,esD,epD,hoD,hdD,hcD⟩:=hn2.count (PySem.Within.cons name v hw)
 refine ε (GL hoD (by rw [hdD];exact GR (ϫ hcD (by rw [Η];omega))) ?_)
 exact θ (h _ ⟨(hs2.2 _ (ϥ I.ne)).trans I.obj,hn2,I.ne⟩ hs2)
theorem kW (X:K.In s.heap) (hm:ō K C=true)
 (hi:Ρ K (.ref C) "__init__" = some (some (.ref f))) (hf:đ K (.ref f)=some (.type "function"))
 (h:ĭ (model prog w) (A.under (.builtin "type.__call__" ⟨.ref C :: vs,kw⟩)) (.call (.ref f) ⟨.ref (s.heap.objs.size+1) :: vs,kw⟩) (PySem.W.InitBack (s.heap.objs.size+1) R)
  { s with heap:=(s.heap.push Ϟ).push (ϡ C s.heap.objs.size) }) :
 ĭ (model prog w) A (.call (.ref C) ⟨vs,kw⟩) R s:=by
 obtain ⟨hh,g,d,t,os⟩:=s
 exact PySem.W.make_core (PySem.W.makes_of X hm) (PySem.W.looks_findIn X hi) (fun self=>PySem.W.bind_fn X self hf) (.inl rfl) h
end
structure Cls (K:υ) (C:Α):Prop where
 pg:Ě K C ñ=true
 hd:Á K C=true
 po:C9 K C=true
 sa:Ρ K (.ref C) "__setattr__" = some (some (.builtin "object.__setattr__"))
theorem Cls.get {K:υ} {C:Α} (c:Cls K C) (f:μ):Ě K C f=true:=c.pg
def cL (K:υ) (C:Α) (f:μ):Prop:=Ρ K (.ref C) f=some none
theorem cL.taker {K:υ} {C:Α} {f:μ} (n:cL K C f):Dd K C f=some none:=by
 unfold Dd
 rw [show Ρ K (.ref C) f=some none from n]
 rfl
structure zv (K:υ) (C:Α) (m:μ) (f:Α):Prop where
 at_:Ρ K (.ref C) m=some (some (.ref f))
 fn:ĥ K (.ref f)=true
 kp:Ϙ K (.ref f)=true
section
variable {X:Cx} {pins:List (Α×Ea)} {σ:St} {H:Hp} {s:ν} {a C dx:Α} {fs:List (μ×V)} {f:μ} {v:V} {A:Ϗ} {E:ζ→ν→Prop}
theorem tH (hb:Ē e f env (eval e env)=eval e env)
 (h:χ (model prog w) A (eval e env) (fun o s₁=>χ (model prog w) A (DK o f true) Q E s₁) E s):χ (model prog w) A (eval (.Attribute e f pos) env) Q E s:=
 Attribute_any_ h (by rw [arm_eval_Attribute,hb])
end
end L2
namespace L2
structure bq (k:Nat) (A:Ϗ):Prop where
 hd:A.handled=none
 dp:A.depth+k+5<recursionLimit
 un:A.units+16 * k+200<ŭ
theorem bq.mono (r:bq k A) (h:j≤k):bq j A:=⟨r.hd,by have:=r.dp;omega,by have:=r.un;omega⟩
theorem bq.deeper (r:bq (k+1) A) (env):bq k (A.deeper env):=
 ⟨r.hd,by have:=r.dp;show A.depth+1+k+5<_;omega,by have:=r.un;show A.units+3+16 * k+200<_;omega⟩
theorem mx {A:Ϗ} {C:Α} {us:List ζ} {kw:List (μ×ζ)}:(A.under (.builtin "type.__call__" ⟨.ref C :: us,kw⟩)).depth=A.depth+1:=by
 first | rfl | simp [Ed,Code.weight,Code.isCreation,Code.isGuard,Code.isCaller,H4,Es,guardIds]
theorem my {A:Ϗ} {C:Α} {us:List ζ} {kw:List (μ×ζ)}:(A.under (.builtin "type.__call__" ⟨.ref C :: us,kw⟩)).units=A.units+1:=by
 first | rfl | simp [Ed,Code.cUnits,H4,Es]
theorem bq.make (r:bq (k+1) A) (C) (us) (kw):bq k (A.under (.builtin "type.__call__" ⟨.ref C :: us,kw⟩)):=
 ⟨r.hd,by have:=r.dp;rw [mx];omega,by have:=r.un;rw [my];omega⟩
theorem bq.depth (r:bq k A):A.depth<recursionLimit:=by have:=r.dp;omega
def bU (K:υ) (fd:Ý) (ps:List μ) (ds:List ζ):Prop:=
 ∀ (s:ν) (us:List ζ),K.In s.heap→(us ++ ds).length=ps.length→GJ s fd ⟨us,[]⟩ (ps.zip (us ++ ds))
theorem bU.all {K:υ} {fd:Ý} {ps:List μ} (h:∀ us:List ζ,us.length=ps.length→bindArgs fd ⟨us,[]⟩=pure (ps.zip us)):bU K fd ps []:=fun s us _ hl=>by
 rw [ϕ] at hl ⊢
 exact .of_eq (h us hl)
section
variable {X:Cx} {CX:CXT} {k:Nat} {f C:Α} {fd:Ý} {ps:List μ} {sp:Sp} {dvs:List V} {ds:List ζ} {E:XK} {x m:μ} {p pos apos:Ϫ} {e o:Λ} {es:List Λ} {ta:TE} {t:TA}
structure Mk (K:υ) (C f:Α):Prop where
 makes:ō K C=true
 init:Ρ K (.ref C) "__init__" = some (some (.ref f))
 fn:ĥ K (.ref f)=true
 kp:Ϙ K (.ref C)=true
end
structure dH (N P:List μ) (sc:ē):Prop where
 kind:sc.kind = .function
 co:sc.isCoroutine=false
 gen:sc.isGenerator=false
 nd:N.Nodup
 pre:N.take P.length=P
 par:∀ x∈P,sc.names.lookup x=some .local∨sc.names.lookup x=some .cell
 nofree:∀ y∈sc.names,y.2≠.free
theorem iW {Ľ:μ→Option Β} {x:μ}:∀ {binds:List (μ×ζ)} {m:μ→Option ζ},(∀ v,(x,v) ∉ binds)→EU Ľ binds m x=m x
 | [],_,_=>rfl
 | (n,v) :: r,m,h=>by
   unfold EU
   rw [iW fun w hw=>h w (ι _ hw)]
   split
   ·have:x≠n:=by rintro rfl;exact h v κ
    simp [this]
   ·rfl
theorem iU {Ľ:μ→Option Β} {x:μ}:∀ {binds:List (μ×ζ)} {m:μ→Option ζ},(∀ v,(x,v) ∉ binds)→EV Ľ binds m x=m x
 | [],_,_=>rfl
 | (n,v) :: r,m,h=>by
   unfold EV
   rw [iU fun w hw=>h w (ι _ hw)]
   split
   ·rfl
   ·have:x≠n:=by rintro rfl;exact h v κ
    simp [this]
theorem iV {Ľ:μ→Option Β} {x:μ} {v:ζ}:∀ {P:List μ} {vs:List ζ} {i:Nat} {m:μ→Option ζ},P.Nodup→P[i]? = some x→vs[i]? = some v→Ľ x=some .local →
 EU Ľ (P.zip vs) m x=some v
 | [],_,_,_,_,h,_,_=>by simp at h
 | _ :: _,[],_,_,_,_,h,_=>by simp at h
 | p :: P,w :: vs,0,m,nd,h1,h2,hk=>by
   simp at h1 h2;subst h1;subst h2
   show EU Ľ ((p,w) :: P.zip vs) m p=_
   unfold EU
   rw [iW fun v hv=>(ϛ.mp nd).1 (ħ hv).1,ZZ hk]
   simp
 | p :: P,w :: vs,i+1,m,nd,h1,h2,hk=>by
   show EU Ľ ((p,w) :: P.zip vs) m x=_
   unfold EU
   exact iV (i:=i) (ϛ.mp nd).2 (by simpa using h1) (by simpa using h2) hk
theorem iT {Ľ:μ→Option Β} {x:μ} {v:ζ}:∀ {P:List μ} {vs:List ζ} {i:Nat} {m:μ→Option ζ},P.Nodup→P[i]? = some x→vs[i]? = some v→Ľ x≠some .local →
 EV Ľ (P.zip vs) m x=some v
 | [],_,_,_,_,h,_,_=>by simp at h
 | _ :: _,[],_,_,_,_,h,_=>by simp at h
 | p :: P,w :: vs,0,m,nd,h1,h2,hk=>by
   simp at h1 h2;subst h1;subst h2
   show EV Ľ ((p,w) :: P.zip vs) m p=_
   unfold EV
   rw [iU fun v hv=>(ϛ.mp nd).1 (ħ hv).1,ZY hk]
   simp
 | p :: P,w :: vs,i+1,m,nd,h1,h2,hk=>by
   show EV Ľ ((p,w) :: P.zip vs) m x=_
   unfold EV
   exact iT (i:=i) (ϛ.mp nd).2 (by simpa using h1) (by simpa using h2) hk
theorem kA {sc:ē} {n:Nat} {x:μ} (h:sc.names.lookup x=some .cell):∃ c,(ET n sc.names []).lookup x=some c:=by
 have q:=ŋ sc.names n [] (.inl h)
 exact ĉ.mp q
end L2
namespace HT
open PySem PyProof.Rows
section
variable {prog:ϴ} {w:Û} {A:Ϗ} {E:ζ→ν→Prop} {s:ν}
theorem cat_tup (ht:IsTup s.heap t vs.toArray) (hb:IsTup s.heap b ws.toArray) (hv:vs≠[])
 (h1:ws = []→Q (.ref t) s) (h2:ws≠[]→Q (.ref s.heap.objs.size) { s with heap:=s.heap.push { cls:=.type "tuple",data:=.seq (vs ++ ws).toArray } })
 (hsz:vs.length+ws.length≤ϟ):χ (model prog w) A (Ŋ .Add (.ref t) (.ref b)) Q E s:=by
 obtain ⟨⟨cls,dd,data,sl⟩,ho,hc,n,hd⟩:=id ht
 obtain ⟨⟨cls2,dd2,data2,sl2⟩,ho2,hc2,n2,hd2⟩:=id hb
 simp only at hc hd hc2 hd2
 subst hc hd hc2 hd2
 have e:vs.toArray ++ ws.toArray=(vs ++ ws).toArray:=by simp
 by_cases hw:ws = []
 ·exact Fe ⟨_,ho,rfl⟩ ⟨_,ho2,rfl⟩ DZ EH Ō Ń (ľ _ _)
   (tuple_addW1 t b vs.toArray ws.toArray n n2 dd dd2 sl sl2 (by simpa using hv) (by simp [hw])) ⟨ho,ho2,h1 hw⟩
 ·refine Fe ⟨_,ho,rfl⟩ ⟨_,ho2,rfl⟩ DZ EH Ō Ń (ľ _ _)
   (tuple_addW2 t b vs.toArray ws.toArray n n2 dd dd2 sl sl2 (by simpa using hv) (by simpa using hw) (by rw [Μ,Μ];exact hsz)) ⟨ho,ho2,?_⟩
  rw [e]
  exact h2 hw
def sIx (n d:Nat):Option Int→Nat
 | none=>d
 | some v=>if v<0 then (v+(n:Int)).toNat else min v.toNat n
theorem yZ (n d) (hd:d≤n) (o):sIx n d o≤n:=by
 cases o with
 | none=>exact hd
 | some v=>
   show (if v<0 then (v+(n:Int)).toNat else min v.toNat n)≤n
   by_cases hv:v<0
   ·rw [ZZ hv];omega
   ·rw [ZY hv];exact Nat.min_le_right _ _
theorem mQ (v:Int) (n d:Nat):(if v<0 then max (v+(n:Int)) 0 else min v (n:Int))=((sIx n d (some v):Nat):Int):=by
 show (if v<0 then max (v+(n:Int)) 0 else min v (n:Int))=(((if v<0 then (v+(n:Int)).toNat else min v.toNat n):Nat):Int)
 by_cases hv:v<0
 ·simp only [ZZ hv];omega
 ·simp only [ZY hv];omega
theorem lU (lo hi:Option Int) (n:Nat):ģ lo hi 1 (n:Int)=(((sIx n 0 lo:Nat):Int),((sIx n n hi:Nat):Int)):=by
 have h1:¬ ((1:Int)<0):=by omega
 unfold ģ
 simp only [h1,if_false]
 refine Prod.ext ?_ ?_
 ·cases lo with
  | none=>rfl
  | some v=>exact mQ v n 0
 ·cases hi with
  | none=>rfl
  | some v=>exact mQ v n n
theorem mF (i j:Nat):ü (i:Int) (j:Int) 1=j - i:=by
 unfold ü
 have h1:(1:Int)>0:=by omega
 simp only [h1,if_true,Int.ediv_one]
 split <;> omega
theorem ij (p:D1 v o) (h:Q o s):χ (model prog w) A (H5 v) Q E s:=by
 cases p with
 | none=>exact slicePart_none h
 | int i t=>exact slicePart_int h
theorem cV {sl:Α} {vl vu:ζ} {lo hi:Option Int} {n:Nat} {Q:Int×Int×Nat→ν→Prop} (hs:s.heap.IsSliceOf sl vl vu .none) (pl:D1 vl lo) (pu:D1 vu hi)
 (h:Q (((sIx n 0 lo:Nat):Int),1,sIx n n hi - sIx n 0 lo) s):χ (model prog w) A (CO (.ref sl) (pure (n:Int))) Q E s:=by
 obtain ⟨os,hos,hcs,hds⟩:=id hs
 unfold CO H6
 refine ε (ε (Ϝ hos hds (x:=vl) rfl (ε (Ϝ hos hds (x:=vu) rfl (ε (Ϝ hos hds (x:=.none) rfl (θ ?_)))))))
 refine ε (slicePart_none ?_)
 show χ _ _ (if ((1:Int) == 0)=true then _ else _) _ _ s
 rw [ZY (by decide)]
 refine ε (ij pl (ε (ij pu (ε (θ ?_)))))
 show χ _ _ (match ģ lo hi 1 (n:Int) with | (lo,hi)=>pure (lo,(1:Int),ü lo hi 1)) _ _ s
 rw [lU lo hi n]
 show χ _ _ (pure (((sIx n 0 lo:Nat):Int),(1:Int),ü ((sIx n 0 lo:Nat):Int) ((sIx n n hi:Nat):Int) 1)) _ _ s
 rw [mF]
 exact θ h
theorem sA (xs:Array ζ) (i k:Nat):((ĵ k).filterMap fun (m:Nat)=>xs[((i:Int)+(m:Int) * 1).toNat]?).toArray=((xs.toList.drop i).take k).toArray:=by
 have e:(fun (m:Nat)=>xs[((i:Int)+(m:Int) * 1).toNat]?)=fun m=>xs[i+m]?:=by
  funext m
  have:((i:Int)+(m:Int) * 1).toNat=i+m:=by omega
  rw [this]
 rw [e]
 have:=pick_run xs i k
 rw [List.filterMap_map] at this
 have e2:((fun x=>xs[x]?) ∘ fun x=>i+x)=fun m=>xs[i+m]?:=rfl
 rw [e2] at this
 rw [this]
theorem getItem_tuple_cut {t sl:Α} {items:Array ζ} {vl vu:ζ} {lo hi:Option Int} {Q:ζ→ν→Prop} (ht:IsTup s.heap t items) (hs:s.heap.IsSliceOf sl vl vu .none) (pl:D1 vl lo) (pu:D1 vu hi)
 (hw:¬ (sIx items.size 0 lo=0∧sIx items.size items.size hi=items.size))
 (h:Q (.ref s.heap.objs.size) { s with heap:=s.heap.push { cls:=.type "tuple",data:=.seq ((items.toList.drop (sIx items.size 0 lo)).take (sIx items.size items.size hi - sIx items.size 0 lo)).toArray } })
 (hsz:items.size≤ϟ):χ (model prog w) A (DJ (.ref t) (.ref sl)) Q E s:=by
 have htake:sizeOk (.seq ((items.toList.drop (sIx items.size 0 lo)).take (sIx items.size items.size hi - sIx items.size 0 lo)).toArray):=by
  show ((items.toList.drop (sIx items.size 0 lo)).take (sIx items.size items.size hi - sIx items.size 0 lo)).toArray.size≤ϟ
  rw [Μ,Dm,Dp,ż]
  omega
 have hj:sIx items.size items.size hi≤items.size:=yZ _ _ (Ω _) hi
 obtain ⟨os,hos,hcs,hds⟩:=id hs
 have hTs:s.TypeIs (.ref sl) "slice":=⟨os,hos,hcs⟩
 unfold DJ
 try with_reducible refine Τ ?_
 first | refine ε (θ ?_) | skip
 refine ε (DG ht.typeIs (by decide) ?_)
 refine ε (Â (name:=Ϯ "__getitem__") ht.typeIs ã
  (Ð ã ht.typeIs FN ?_ (Ge _ _)))
 show χ _ _ (CM (.ref t) >>= _) _ _ s
 refine ε (EE ht ?_)
 refine ε (DF hTs ?_)
 rw [ZZ (by decide)]
 refine ε (cV hs pl pu ?_)
 have hno:¬ ((((sIx items.size 0 lo:Nat):Int) == 0 && (1:Int) == 1 && (sIx items.size items.size hi - sIx items.size 0 lo) == items.size)=true):=by
  intro q
  rw [Χ,Χ] at q
  have q1:((sIx items.size 0 lo:Nat):Int)=0:=eq_of_beq q.1.1
  have q2:sIx items.size items.size hi - sIx items.size 0 lo=items.size:=eq_of_beq q.2
  exact hw ⟨by omega,by omega⟩
 show χ _ _ (if (((sIx items.size 0 lo:Nat):Int) == 0 && (1:Int) == 1 && (sIx items.size items.size hi - sIx items.size 0 lo) == items.size)=true then _ else _) _ _ s
 rw [ZY hno,sA]
 first
  | exact ε (m:=Ā _) (È (θ ⟨_,rfl,θ h⟩) htake)
  | exact ε (m:=Ā _) (È (ε (θ (θ ⟨_,rfl,θ h⟩))) htake)
  | exact ε (ε (m:=Ā _) (È (θ (θ ⟨_,rfl,θ h⟩)) htake))
  | exact ε (ε (m:=Ā _) (È (θ ⟨_,rfl,θ h⟩) htake))
end
end HT
namespace L2
def ixN (n:Nat) (i:Int):Option Nat:=if 0≤i then (if i<n then some i.toNat else none) else if -(n:Int)≤i then some (i+n).toNat else none
def atI {α:Type} (xs:List α) (i:Int):Option α:=(ixN xs.length i).bind fun j=>xs[j]?
theorem m9 (h:ixN n i=some j):seqIndex? i n=some j∧j<n∧-(n:Int)≤i∧i<n:=by
 unfold ixN at h
 by_cases h0:0≤i
 ·rw [ZZ h0] at h
  by_cases h1:i<n
  ·rw [ZZ h1] at h
   have e:i.toNat=j:=Ϥ h
   exact ⟨by rw [FC h0 h1,e],by omega,by omega,h1⟩
  ·rw [ZY h1] at h;cases h
 ·rw [ZY h0] at h
  by_cases h1:-(n:Int)≤i
  ·rw [ZZ h1] at h
   have e:(i+n).toNat=j:=Ϥ h
   exact ⟨by rw [Fd (by omega) h1,e],by omega,h1,by omega⟩
  ·rw [ZY h1] at h;cases h
theorem jv (h:atI xs i=some v):∃ j,seqIndex? i xs.length=some j∧xs[j]? = some v∧j<xs.length∧-(xs.length:Int)≤i∧i<xs.length:=by
 unfold atI at h
 cases e:ixN xs.length i with
 | none=>rw [e] at h;cases h
 | some j=>
   rw [e] at h
   obtain ⟨h1,h2,h3,h4⟩:=m9 e
   exact ⟨j,h1,h,h2,h3,h4⟩
theorem cW {α:Type} {xs:List α} {j:Nat} {v:α} (h:xs[j]? = some v):atI xs (j:Int)=some v:=by
 have hj:j<xs.length:=(ς.mp h).1
 have e:ixN xs.length (j:Int)=some j:=by
  unfold ixN
  rw [ZZ (by omega),ZZ (by omega)];simp
 unfold atI;rw [e];exact h
section
variable {X:Cx} {a b:Λ} {ta tb:TE} {pos:Ϫ}
theorem j8 (lo hi) (n):(ý lo hi none n).1=((HT.sIx n 0 lo:Nat):Int)∧(ý lo hi none n).2.1=((HT.sIx n n hi:Nat):Int)∧(ý lo hi none n).2.2=1:=by
 refine ⟨?_,?_,rfl⟩
 ·cases lo with
  | none=>simp [ý,HT.sIx]
  | some i=>
    simp only [ý,HT.sIx,EY,show (1:Int)>0 by decide,if_true]
    by_cases h:i<0
    ·simp only [h,if_true] <;> omega
    ·simp only [h,if_false] <;> omega
 ·cases hi with
  | none=>simp [ý,HT.sIx]
  | some i=>
    simp only [ý,HT.sIx,EY,show (1:Int)>0 by decide,if_true]
    by_cases h:i<0
    ·simp only [h,if_true] <;> omega
    ·simp only [h,if_false] <;> omega
theorem iP (its:List ζ) (lo hi:Option Int):slicePick its.toArray lo hi none=((its.drop (HT.sIx its.length 0 lo)).take (HT.sIx its.length its.length hi - HT.sIx its.length 0 lo)).toArray:=by
 obtain ⟨h1,h2,h3⟩:=j8 lo hi its.toArray.size
 unfold slicePick
 rw [h1,h2,h3]
 simp only [sliceRange_one,pick_run,Μ] <;> rfl
variable {o e:Λ} {es:List Λ} {to:TE} {t:TA} {name:μ} {apos cpos:Ϫ} {T id:String} {r:V→List V→Hp→VK→Prop}
end
end L2
namespace Att
open PySem PySem.W PySem.Calls PyProof.Rows
theorem fR :∀ (ns) (vs),WellAll P h vs (ns.map WData.int)→D6 vs ns:=by
 intro ns
 induction ns with
 | nil=>
   intro vs w
   rw [En] at w
   cases w
   exact .nil
 | cons n ns ih=>
   intro vs w
   rw [ì] at w
   cases w with
   | cons a b=>
     cases a
     exact .cons _ _ (ih _ b)
theorem pO {l:OpenLaw} {n:Nat} (hn:l.most=some n) {P:Params} {h:ϳ} {args:List WData} {vals:List ζ}
 (hpre:l.row.toRowW.claim.pre args=true) (hwl:WellAll P h vals args) :
 ∃ a vs ns,vals = [Ϣ a]∧args = [WData.list (ns.map WData.int)]∧h.get? a=some { cls:=.type "list",data:=.seq vs.toArray }∧D6 vs ns∧ns.length≤n:=by
 have hsh:WShape.hasAll [] args [.list .int]=true:=(pre_splitW hpre).1
 have hc:l.pre.holds [] { args:=args }=true:=(pre_splitW hpre).2
 obtain ⟨d,r,rfl,h1,h2⟩:=hasAllW_cons hsh
 obtain rfl:=hasAllW_nil h2
 obtain ⟨xs,rfl,h3⟩:=hasW_list h1
 obtain ⟨ns,rfl⟩:=items_int h3
 have hlen:ns.length≤n:=by
  unfold OpenLaw.pre at hc
  have h4:(WTm.not (.lt (.lit (.int (n:Int))) (.len (.arg 0)))).holds [] { args:=[.list (ns.map .int)] }=true:=by
   have h4:=(holds_andW hc).1
   rw [hn] at h4
   exact h4
  have h5:=condW_of h4 (w_not (w_lt w_lit (w_len_list (w_arg rfl))))
  rw [Θ] at h5
  refine Nat.le_of_not_lt fun q=>?_
  have q':(n:Int)<((ns.length:Nat):Int):=by omega
  first
   | (rw [ZW q'] at h5;exact ZX h5 (by decide))
   | (simp at h5;omega)
 cases hwl with
 | cons w1 w2=>
   cases w2
   cases w1 with
   | list ho hall=>exact ⟨_,_,ns,rfl,rfl,ho,fR ns _ hall,hlen⟩
theorem pJ (l:OpenLaw) (args:List WData):l.row.toRowW.claim.post args (.bool true) args=true:=
 postW_of (r:=l.row.toRowW) (X:=(true == true))
  (show WShape.has [] (.bool true) .bool=true by first | rfl | decide | simp [WShape.has,WShape.arms,WShape.armsAll])
  (show (WTm.eq .res (.lit (.bool true))).value [] { args:=args,res:=some (.bool true),after:=args }=some (.bool (true == true)) from w_eq_bool (w_res rfl) w_lit) rfl
theorem attach_call {l:OpenLaw} {n:Nat} {q:ϴ} {loose:List μ} {XP:(μ→Option ζ)→ϳ→Prop} {YP:Û→ϳ→Prop} {d:DefRec}
 (hn:l.most=some n) (hdf:d.params.defaults = [])
 (call:∀ (w:Û) (s₀ s₁:ν) (mg mb:μ→Option ζ) (fa:Α) (o:Ea) (pm cd doc:ζ) (a:Α) (vs:List ζ) (ns:List Int),
  Ground q loose [] XP w s₀ mg mb s₁.heap→YP w s₁.heap →
  s₁.heap.get? fa=some o→o.data = .func (docDef d.name d.params d.body d.scope pm cd doc)→s₁.heap.CodeRec cd d.name→mg d.name=some (.ref fa) →
  s₁.heap.get? a=some { cls:=.type "list",data:=.seq vs.toArray }→D6 vs ns→ns.length≤n→s₁.gens = #[] →
  ĭ (model l.prog w) ś (.call (.ref fa) ⟨[.ref a],[]⟩) (fun r s'=>r = .ok (.ret (.bool true))∧OldK s₁.heap s'.heap∧s'.os=s₁.os∧Ş s'.gens) s₁) :
 WalkO q loose XP YP l.row.toRowW d [] (fun f vs=>EI f vs):=by
 intro w s₀ s₁ mg mb G Y fa o pm cd doc dV kV ho hd hcd hD hmg hg args vals as hpre hlay hrd hwl hlo
 obtain rfl:dV = .none:=Dflts.none hD hdf
 obtain rfl:kV = .none:=Dflts.noKw hD
 obtain ⟨a,vs,ns,rfl,rfl,hobj,hints,hlen⟩:=pO hn hpre hwl
 refine enter_call (â (call w s₀ s₁ mg mb fa o pm cd doc a vs ns G Y ho (fd_plain hd) hcd hmg hobj hints hlen hg) fun r s' hq=>?_)
 obtain ⟨rfl,h2,h3,h4⟩:=hq
 exact ⟨.inl ⟨.bool true,.bool true,[],rfl,fun _=>rfl,.bool true,pJ l _,fun _=>⟨List.Pairwise.nil,fun _ hm=>(nomatch hm)⟩⟩,h2,h3,h4⟩
end Att
namespace L2
def aK (s:Ë):E6:=match s with
 | .FunctionDef _ a _ _ _ _ _ _ _ _=>a
 | _=>{ posonlyargs:=[],args:=[],vararg:=none,kwonlyargs:=[],kw_defaults:=[],kwarg:=none,defaults:=[] }
def bx (s:Ë):List Ë:=match s with
 | .FunctionDef _ _ b _ _ _ _ _ _ _=>b
 | _=>[]
def au (s:Ë):ē:=match s with
 | .FunctionDef _ _ _ _ _ _ sc _ _ _=>sc
 | _=>{ kind:=.function,names:=[],isGenerator:=false,isCoroutine:=false }
structure Fun (K:υ) (x qual:μ) (st:Ë) (f:Α) (fd:Ý):Prop where
 ex:∃ (oc:ζ) (od:Option Α) (kV doc pm:ζ) (an:Option Α) (cdv ct:ζ) (osl:Array (Option ζ)),
  fd=ϰ x qual (aK st) (bx st) (au st) .none kV doc pm an cdv ct∧K.lookup f=some ⟨oc,od,.func fd,osl⟩∧Ì K cdv qual=true
 kp:Ϙ K (.ref f)=true
section
variable {P:ϴ} {w:Û} {K:υ} {mg:μ→Option ζ} {base:ϳ}
theorem Fun.binds {x qual:μ} {st:Ë} {f:Α} {fd:Ý} {ps:List μ} (F:Fun K x qual st f fd)
 (h:∀ (kV doc pm:ζ) (an:Option Α) (cdv ct:ζ) (us:List ζ),us.length=ps.length→bindArgs (ϰ x qual (aK st) (bx st) (au st) .none kV doc pm an cdv ct) ⟨us,[]⟩=pure (ps.zip us)):bU K fd ps []:=by
 obtain ⟨oc,od,kV,doc,pm,an,cdv,ct,osl,rfl,lk,hcd⟩:=F.ex
 exact .all (h kV doc pm an cdv ct)
theorem l5 {x qual:μ} {st:Ë} {f:Α} {oc:ζ} {od an:Option Α} {osl:Array (Option ζ)} {kV doc pm cdv ct:ζ} (l:K.lookup f=some ⟨oc,od,.func (ϰ x qual (aK st) (bx st) (au st) .none kV doc pm an cdv ct),osl⟩)
 (c:Ì K cdv qual=true) (k:Ϙ K (.ref f)=true):Fun K x qual st f (ϰ x qual (aK st) (bx st) (au st) .none kV doc pm an cdv ct):=⟨⟨oc,od,kV,doc,pm,an,cdv,ct,osl,rfl,l,c⟩,k⟩
end
end L2
section
namespace L2.Bk
open PySem
inductive Dk where
 | non
 | int (i:Int)
 | bl (b:Bool)
 | str (x:μ)
 | tup (xs:List Dk)
def sumI:List Int→Int
 | []=>0
 | x :: r=>x+sumI r
end L2.Bk
namespace L2.Bw
def maxD (d:Int):List Int→Int
 | []=>d
 | x :: r=>r.foldl (fun a b=>if b>a then b else a) x
end L2.Bw
namespace L2.Ev
inductive D where
 | non | bl (b:Bool) | int (i:Int) | str (x:μ) | tup (l:List D) | lst (l:List D) | dic (k:List Key) (l:List D) | ins (c:Nat) (l:List D) | ref (n:Nat)
inductive O where
 | lst (l:List D) | dic (k:List Key) (l:List D) | ins (c:Nat) (l:List D)
inductive Op where
 | add | sub | mul | fdiv | mod | pow | shl | shr | band | bxor | eq | ne | lt | le | gt | ge | isin | notin | eq2
 deriving DecidableEq
inductive Bi where
 | len | tuple | list | all | max0 | sum | abs | str | int | range1 | range2 | zip2 | zip3 | enum | enum2 | rev | dict | max2 | min2 | isTup | isStr | isInt | isBool | isLst | isDic | isVal | setl
 deriving DecidableEq
inductive SM where
 | rep (y z:μ) | spl (y:μ) | dig | sta (y:μ) | mulc (y:μ) | cnt | mull
inductive E where
 | sm (k:SM) (a:E) | pop (a:E) | isXv (a:E) | snap (i:Nat) (a:E)
 | v (i:Nat) | c (d:D) | g (j:Nat) | op (o:Op) (a b:E) | isN (a:E) | isNN (a:E) | neg (a:E) | not (a:E) | and (a b:E) | or (a b:E) | ite (c a b:E)
 | chain (o p:Op) (a b c:E)
 | ix (a b:E) | sl (a lo hi:E) | fld (a:E) (f:Nat) | tup (es:E) | lst (es:E) | dic (es:E) | nil | cons (a es:E)
 | call (j:Nat) (es:E) | hcall (j:Nat) (es:E) | mth (c j:Nat) (a es:E) | new (j:Nat) (es:E) | bi (b:Bi) (es:E) | join (x:μ) (a:E) | get (a b c:E) | index (a b:E) | isX (a:E) (js:List Nat)
 | lc (t:List Nat) (one:Bool) (it elt cond:E)
 | tab (j:Nat) (e:E) | tabin (j:Nat) (e:E)
 | newl (es:E) | keep (kp:List Nat) (a:E) | sto (a:E) | fcall (own:Bool) (j:Nat) (es:E)
 | sl3 (a lo st:E) | tget (j:Nat) (e d:E) | newd (j:Nat) (es:E) | fmt (x:μ) (a:E) (y:μ) | dicc (ks:List μ) (es:E)
 | tand (a b:E) | tor (a b:E) | tnot (a:E) | tv (a:E) | it (b:Bi) (es:E) | itv (a:E)
inductive S where
 | skip | seq (a b:S) | set (i:Nat) (e:E) | setT (l:List Nat) (e:E) | setR (i:Nat) (es:E) | ret (e:E) | ifs (c:E) (a b:S) | drop (e:E)
 | app (i:Nat) (e:E) | ext (i:Nat) (e:E) | put (a b e:E) | fld (a:E) (f:Nat) (e:E) | aug (a:E) (f:Nat) (o:Op) (e:E) | fapp (a:E) (f:Nat) (e:E) | fext (a e:E)
 | for_ (t:List Nat) (one:Bool) (it:E) (b:S) | whl (c:E) (b:S) | rais (j:Nat) (es:E) | try_ (a:S) (hs:S) | hand (j:Nat) (i:Option Nat) (b rest:S)
def fl:D→Bool
 | .non=>true | .bl _=>true | .int _=>true | .str _=>true | _=>false
def eqf:D→D→Bool
 | .non,.non=>true
 | .bl a,.bl b=>a == b
 | .bl a,.int b=>(if a then 1 else 0) == b
 | .int a,.int b=>a == b
 | .int a,.bl b=>a == (if b then 1 else 0)
 | .str a,.str b=>a == b
 | _,_=>false
def sh:D→Nat
 | .non=>0 | .bl _=>0 | .int _=>0 | .str _=>0 | .tup _=>1 | .lst _=>2 | _=>3
def eq0 (d e:D):Option Bool:=
 if sh d=3∨sh e=3 then none else if sh d=0∧sh e=0 then some (eqf d e) else if sh d=sh e then none else some false
def dk (f:D→D→Option Bool):List D→List D→Option Bool
 | d :: a,e :: b=>(match f d e with | none=>none | some x=>(dk f a b).map (x && ·))
 | _,_=>some true
def eqv:Nat→D→D→Option Bool
 | 0,d,e=>eq0 d e
 | n+1,.tup a,.tup b=>(dk (eqv n) a b).map (· && a.length == b.length)
 | n+1,.lst a,.lst b=>if a.length=b.length then dk (eqv n) a b else some false
 | _+1,d,e=>eq0 d e
end L2.Ev
namespace L2.Ev
structure Fn where
 np:Nat
 ns:Nat
 body:S
 df:List D
structure Cl where
 what:Nat
 at_:List Nat
 init:Nat
 me:List (Nat×Nat)
 sup:List Nat
 chk:List Nat:=[]
def toD:L2.Bk.Dk→D
 | .non=>.non
 | .int i=>.int i
 | .bl b=>.bl b
 | .str x=>.str x
 | .tup l=>.tup (toDs l)
where toDs:List L2.Bk.Dk→List D
 | []=>[]
 | d :: r=>toD d :: toDs r
structure Gm where
 gl:List L2.Bk.Dk
 tb:List (List (μ×L2.Bk.Dk))
 fn:List Fn
 cl:List Cl
structure Sta where
 env:List (Option D)
 ow:List Nat
 st:List O
inductive Out (α:Type) where
 | ok (a:α) (s:Sta) | exc (c:Nat) (l:List D) (s:Sta) | bad
inductive Res where
 | ok (d:D) (st:List O) | exc (c:Nat) (l:List D) (st:List O) | bad
inductive am where
 | nx (s:Sta) | rt (d:D) (s:Sta) | exc (c:Nat) (l:List D) (s:Sta) | bad
def Out.bind {α β:Type} (x:Out α) (f:α→Sta→Out β):Out β:=match x with
 | .ok a s=>f a s
 | .exc c l s=>.exc c l s
 | .bad=>.bad
def Out.of {α:Type} (s:Sta):Option α→Out α
 | some a=>.ok a s
 | none=>.bad
def Out.go {α:Type} (x:Out α) (f:α→Sta→am):am:=match x with
 | .ok a s=>f a s
 | .exc c l s=>.exc c l s
 | .bad=>.bad
def am.go (x:am) (f:Sta→am):am:=match x with
 | .nx s=>f s
 | y=>y
def kP:D→Bool
 | .non=>true | _=>false
def un (s:Sta) (i:Nat):Sta:=⟨s.env,s.ow.filter (· != i),s.st⟩
def look (st:List O):D→D
 | .ref n=>(match st[n]? with | some (.lst l)=>.lst l | some (.dic k l)=>.dic k l | _=>.ref n)
 | d=>d
def bL:D→Option Key
 | .int i=>some (.inl i)
 | .str x=>some (.inr x)
 | _=>none
def cg:List Key→List D→Key→Option D
 | k :: ks,d :: ds,x=>if k=x then some d else cg ks ds x
 | _,_,_=>none
def iN:List Key→List D→Key→D→List D
 | k :: ks,d :: ds,x,e=>(if k=x then e else d) :: iN ks ds x e
 | _,ds,_,_=>ds
def bV (ks:List Key) (ds:List D) (x:Key) (e:D):List Key×List D:=if ks.any (fun k=>decide (k=x))=true then (ks,iN ks ds x e) else (ks ++ [x],ds ++ [e])
def inD (d:D):List D→Option Bool
 | []=>some false
 | e :: r=>match eqv 55 e d with | none=>none | some b=>(inD d r).map (b || ·)
def kC (n:Nat) (d:D):Option D:=if n≤100000 then some d else none
def opI (o:Op) (i j:Int):Option D:=match o with
 | .add=>some (.int (i+j))
 | .sub=>some (.int (i - j))
 | .mul=>if ((-(2 ^ 64)<i∧i<2 ^ 64)∨(-(2 ^ 64)<j∧j<2 ^ 64))∨(i.natAbs<2 ^ 400∧j.natAbs<2 ^ 400) then some (.int (i * j)) else none
 | .fdiv=>if 0<j∧j<2 ^ 200 then some (.int (i / j)) else none
 | .mod=>if 0<j then some (.int (i % j)) else none
 | .pow=>if 0≤j∧j≤1000000∧i.natAbs<2 ^ 64 then some (.int (i ^ j.toNat)) else none
 | .shl=>if 0≤j∧j≤1000000∧i.natAbs<2 ^ 64 then some (.int (i * 2 ^ j.toNat)) else none
 | .shr=>if 0≤j then some (.int (i / 2 ^ j.toNat)) else none
 | .band=>some (.int (Builtin.bitAnd i j))
 | .bxor=>some (.int (Builtin.bitXor i j))
 | .lt=>some (.bl (decide (i<j)))
 | .le=>some (.bl (decide (i≤j)))
 | .gt=>some (.bl (decide (j<i)))
 | .ge=>some (.bl (decide (j≤i)))
 | _=>none
def qV (ls:List Key) (es:List D):List Key→List D→Option Bool
 | k :: ks,d :: ds=>(match cg ls es k with | none=>some false | some e=>(match eqv 55 d e with | none=>none | some x=>(qV ls es ks ds).map (x && ·)))
 | _,_=>some true
def eqT (a b:D):Option Bool:=match a,b with
 | .dic ks ds,.dic ls es=>if ks.length=ls.length then qV ls es ks ds else some false
 | a,b=>eqv 55 a b
def Aj:List D→List D→Bool
 | [],[]=>true
 | d :: l,e :: m=>eqT d e == some true && Aj l m
 | _,_=>false
def Cq (a b:D):Option D:=match a,b with
 | .tup l,.tup m=>if Aj l m then some (.bl true) else none
 | _,_=>none
def opD (o:Op) (a b:D):Option D:=match o with
 | .eq2=>Cq a b
 | .eq=>(eqT a b).map .bl
 | .ne=>(eqT a b).map fun x=>.bl (!x)
 | .isin=>(match b with | .str y=>(match a with | .str x=>some (.bl (Txt.contains y x)) | _=>none) | .lst l=>(inD a l).map .bl | .tup l=>(inD a l).map .bl | .dic ks ds=>(bL a).map fun k=>.bl (cg ks ds k).isSome | _=>none)
 | .notin=>(match b with | .str y=>(match a with | .str x=>some (.bl (!Txt.contains y x)) | _=>none) | .lst l=>(inD a l).map fun x=>.bl (!x) | .tup l=>(inD a l).map fun x=>.bl (!x) | .dic ks ds=>(bL a).map fun k=>.bl (!(cg ks ds k).isSome) | _=>none)
 | _=>match a,b with
   | .int i,.int j=>opI o i j
   | .str x,.str y=>if o = .add then kC (x.length+y.length) (.str (x ++ y)) else none
   | .tup x,.tup y=>if o = .add then kC (x.length+y.length) (.tup (x ++ y)) else none
   | .lst x,.lst y=>if o = .add then kC (x.length+y.length) (.lst (x ++ y)) else none
   | _,_=>none
def vB:D→Option Bool
 | .bl b=>some b
 | .tup l=>some (!l.isEmpty)
 | .lst l=>some (!l.isEmpty)
 | .int i=>some (i != 0)
 | .non=>some false
 | _=>none
def ixD (a b:D):Option D:=match a,b with
 | .tup l,.int i=>atI l i
 | .lst l,.int i=>atI l i
 | .str x,.int i=>if x.length≤100000 then (atI x.cps.toList i).map fun c=>.str ⟨#[c]⟩ else none
 | .dic ks ds,k=>(bL k).bind fun k=>cg ks ds k
 | _,_=>none
def o9 (xs:List D) (lo hi:Option Int):List D:=(xs.drop (HT.sIx xs.length 0 lo)).take (HT.sIx xs.length xs.length hi - HT.sIx xs.length 0 lo)
def slO (a:D) (l h:Option Int):Option D:=match a with
 | .tup x=>some (.tup (o9 x l h))
 | .lst x=>some (.lst (o9 x l h))
 | .str x=>if x.length≤100000 then some (.str (Dy x l h)) else none
 | _=>none
def Bo {α:Type} (xs:List α) (lo:Option Int) (st:Int):List α:=(sliceRange (ý lo none (some st) xs.length).1 (ý lo none (some st) xs.length).2.1 (ý lo none (some st) xs.length).2.2).filterMap (xs[·]?)
def pP (a:D) (l st:Option Int):Option D:=match a,st with
 | .lst x,some k=>if k=0 then none else some (.lst (Bo x l k))
 | _,_=>none
def isDic:D→Bool
 | .dic _ _=>true
 | _=>false
def bG:E→Bool
 | .nil=>true
 | _=>false
def toI (d:D) (s:Sta):Out (Option Int):=match d with | .int i=>.ok (some i) s | _=>.bad
def cY:List D→Option (List Int)
 | []=>some []
 | .int i :: r=>(cY r).map (i :: ·)
 | _=>none
def kt:List D→Option (List Bool)
 | []=>some []
 | .bl i :: r=>(kt r).map (i :: ·)
 | _=>none
def cA:List D→Option (List μ)
 | []=>some []
 | .str i :: r=>(cA r).map (i :: ·)
 | _=>none
def fP (b:Bi) (x:D):Option D:=match b,x with
 | .len,.tup l=>some (.int l.length)
 | .len,.lst l=>some (.int l.length)
 | .len,.str x=>if x.length≤100000 then some (.int x.length) else none
 | .len,.dic k _=>if k.length≤100000 then some (.int k.length) else none
 | .tuple,.lst l=>some (.tup l)
 | .tuple,.tup l=>some (.tup l)
 | .list,.tup l=>some (.lst l)
 | .list,.lst l=>some (.lst l)
 | .rev,.lst l=>some (.lst l.reverse)
 | .all,.lst l=>(kt l).map fun bs=>.bl (bs.all id)
 | .sum,.lst l=>(cY l).map fun ns=>.int (L2.Bk.sumI ns)
 | .max2,.lst l=>(match cY l with | some (n :: r)=>some (.int (L2.Bw.maxD 0 (n :: r))) | _=>none)
 | .abs,.int i=>some (.int (if i<0 then -i else i))
 | .str,.str x=>some (.str x)
 | .str,.int i=>if i.natAbs.log2<1920 then some (.str (Ϯ (toString i))) else none
 | .int,.int i=>some (.int i)
 | .int,.bl k=>some (.int (if k then 1 else 0))
 | .int,.str x=>if x.length≤640 then (FE x).map .int else none
 | .dict,.dic k l=>some (.dic k l)
 | .setl,.lst l=>(cY l).bind fun ns=>if ns.length+1<4096 then some (.int ((Hd (fun i=>ns.getD i 0) ns.length).length:Nat)) else none
 | .isTup,d=>(match d with | .tup _=>some (.bl true) | .ref _=>none | .ins _ _=>none | _=>some (.bl false))
 | .isStr,d=>(match d with | .str _=>some (.bl true) | .ref _=>none | .ins _ _=>none | _=>some (.bl false))
 | .isBool,d=>(match d with | .bl _=>some (.bl true) | .ref _=>none | .ins _ _=>none | _=>some (.bl false))
 | .isInt,d=>(match d with | .bl _=>some (.bl true) | .int _=>some (.bl true) | .ref _=>none | .ins _ _=>none | _=>some (.bl false))
 | .isLst,d=>(match d with | .lst _=>some (.bl true) | .ref _=>none | .ins _ _=>none | _=>some (.bl false))
 | .isDic,d=>(match d with | .dic _ _=>some (.bl true) | .ref _=>none | .ins _ _=>none | _=>some (.bl false))
 | .isVal,d=>(match d with | .lst _=>some (.bl true) | .int _=>some (.bl true) | .bl _=>some (.bl true) | .str _=>some (.bl true) | .ref _=>none | .ins _ _=>none | _=>some (.bl false))
 | _,_=>none
def wP (b:Bi) (x y:D):Option D:=match b,x,y with
 | .max0,.lst l,.int d=>(cY l).map fun ns=>.int (L2.Bw.maxD d ns)
 | .max2,.int i,.int j=>some (.int (if j>i then j else i))
 | .min2,.int i,.int j=>some (.int (if j<i then j else i))
 | _,_,_=>none
def BO (b:Bi) (x y z:D):Option D:=match b,x,y,z with
 | .max2,.int i,.int j,.int k=>some (.int (if j>i then (if k>j then k else j) else if k>i then k else i))
 | _,_,_,_=>none
def biD (b:Bi) (ds:List D):Option D:=match ds with
 | [x]=>fP b x
 | [x,y]=>wP b x y
 | [x,y,z]=>BO b x y z
 | _=>none
def xG:Key→D
 | .inl i=>.int i
 | .inr x=>.str x
def s9:D→Option (List D)
 | .lst l=>some l
 | .tup l=>some l
 | .dic ks _=>some (ks.map xG)
 | .str x=>if x.cps.all (· < 128)=true then some (x.cps.toList.map fun c=>.str ⟨#[c]⟩) else none
 | _=>none
def ia (lo:Int) (n:Nat):List D:=(ĵ n).map fun (i:Nat)=>.int (lo+i)
def fF:List D→List D→List D
 | a :: r,b :: q=>.tup [a,b] :: fF r q
 | _,_=>[]
def cK:List D→List D→List D→List D
 | a :: r,b :: q,c :: p=>.tup [a,b,c] :: cK r q p
 | _,_,_=>[]
def bJ:Int→List D→List D
 | i,a :: r=>.tup [.int i,a] :: bJ (i+1) r
 | _,[]=>[]
def sqL:D→Option (List D)
 | .lst l=>some l
 | .tup l=>some l
 | _=>none
def xC (b:Bi) (x:D):Option (List D):=match b,x with
 | .range1,.int j=>if -(2 ^ 62)≤j∧j<2 ^ 62 then some (ia 0 j.toNat) else none
 | .enum,.lst x=>some (bJ 0 x)
 | .rev,.lst x=>some x.reverse
 | _,_=>none
def Cv (b:Bi) (x y:D):Option (List D):=match b,x,y with
 | .range2,.int i,.int j=>if (-(2 ^ 62)≤i∧i<2 ^ 62∧-(2 ^ 62)≤j∧j<2 ^ 62) then some (ia i (j - i).toNat) else none
 | .zip2,x,y=>(match sqL x,sqL y with | some l,some m=>if l.length≤m.length then some (fF l m) else none | _,_=>none)
 | .enum2,.tup x,.int n=>if Å n=true∧0≤n then some (bJ n x) else none
 | _,_,_=>none
def Cw (b:Bi) (x y z:D):Option (List D):=match b,x,y,z with
 | .zip3,x,y,z=>(match sqL x,sqL y,sqL z with | some l,some m,some n=>if l.length≤m.length∧l.length≤n.length then some (cK l m n) else none | _,_,_=>none)
 | _,_,_,_=>none
def itD (b:Bi) (ds:List D):Option (List D):=match ds with
 | [x]=>xC b x
 | [x,y]=>Cv b x y
 | [x,y,z]=>Cw b x y z
 | _=>none
def lZ (Γ:Gm) (st:List O) (d:D) (f:Nat):Option D:=match d with
 | .ins c l=>(Γ.cl[c]?).bind fun k=>l[k.at_.idxOf f]?
 | .ref n=>(match st[n]? with | some (.ins c l)=>(Γ.cl[c]?).bind fun k=>l[k.at_.idxOf f]? | _=>none)
 | _=>none
def aV (t:List Nat) (one:Bool) (d:D) (env:List (Option D)):Option (List (Option D)):=
 if one then (match t with | [i]=>some (env.set i (some d)) | _=>none)
 else (match d with
  | .tup l=>if l.length=t.length then some ((t.zip l).foldl (fun e p=>e.set p.1 (some p.2)) env) else none
  | .lst l=>if l.length=t.length then some ((t.zip l).foldl (fun e p=>e.set p.1 (some p.2)) env) else none
  | _=>none)
def noX {α:Type}:Out α→Out α
 | .exc _ _ _=>.bad
 | o=>o
def bZ (f:D→Sta→Out (Option D)):List D→List D→Sta→Out D
 | [],acc,s=>.ok (.lst acc) s
 | d :: r,acc,s=>(f d s).bind fun o s'=>match o with
   | some e=>if acc.length<100000 then bZ f r (acc ++ [e]) s' else .bad
   | none=>bZ f r acc s'
def Out.back {α:Type} (env:List (Option D)):Out α→Out α
 | .ok d s=>.ok d ⟨env,[],s.st⟩
 | .exc c l s=>.exc c l ⟨env,[],s.st⟩
 | .bad=>.bad
mutual
noncomputable def noL:D→Bool
 | .lst _=>false
 | .tup l=>fT l
 | .dic _ l=>fT l
 | .ins _ l=>fT l
 | _=>true
noncomputable def fT:List D→Bool
 | []=>true
 | d :: r=>noL d && fT r
end
mutual
noncomputable def noR:D→Bool
 | .ref _=>false
 | .tup l=>aS l
 | .lst l=>aS l
 | .dic _ l=>aS l
 | .ins _ l=>aS l
 | _=>true
noncomputable def aS:List D→Bool
 | []=>true
 | d :: r=>noR d && aS r
end
def k7:O→Bool
 | .lst _=>false
 | .dic _ l=>fT l
 | .ins _ l=>fT l
def bI:E→List Nat
 | .cons (.v i) r=>i :: bI r
 | .cons _ r=>bI r
 | _=>[]
def isLst:Option (Option D)→Bool
 | some (some (.lst _))=>true
 | _=>false
def aft (es:E) (s:Sta) (d:D) (st:List O):Sta:=⟨s.env,s.ow.filter fun i=>!(bI es).contains i || (isLst s.env[i]? && (noL d && st.all k7)),st⟩
def drp (es:E) (s:Sta) (st:List O):Sta:=⟨s.env,s.ow.filter fun i=>!(bI es).contains i,st⟩
def qo:List D→Option (List Key×List D)
 | []=>some ([],[])
 | [_]=>none
 | k :: d :: r=>(bL k).bind fun k=>(qo r).bind fun p=>if p.1.contains k then none else some (k :: p.1,d :: p.2)
def uk:D→Bool
 | .tup _=>true
 | _=>false
def xy (x y:D):Option D:=match x,y with
 | .tup l,.str k=>(cA l).bind fun ss=>(ss.findIdx? (· == k)).map fun (j:Nat)=>.int j
 | _,_=>none
def jc (x:μ) (y:D):Option D:=match y with
 | .lst l=>(cA l).bind fun ss=>if x.length≤64∧(ss.map (·.length)).sum≤100000∧ss.length≤1000 then some (.str (Txt.join x ss)) else none
 | _=>none
def qG (x:μ) (v:D) (y:μ):Option D:=match v with
 | .str z=>if x.length≤1000∧z.length≤100000∧y.length≤1000 then some (.str (((ñ ++ x) ++ z) ++ y)) else none
 | _=>none
mutual
noncomputable def shD (k:Nat):D→D
 | .tup l=>.tup (iO k l)
 | .lst l=>.lst (iO k l)
 | .dic ks l=>.dic ks (iO k l)
 | .ins c l=>.ins c (iO k l)
 | .ref n=>.ref (k+n)
 | d=>d
noncomputable def iO (k:Nat):List D→List D
 | []=>[]
 | d :: r=>shD k d :: iO k r
end
def shO (k:Nat):O→O
 | .lst l=>.lst (iO k l)
 | .dic ks l=>.dic ks (iO k l)
 | .ins c l=>.ins c (iO k l)
def te (Γ:Gm) (c:Nat):Bool:=match Γ.cl[c]? with | some k=>k.what == 2 | none=>false
def AI (Γ:Gm) (x:D) (js:List Nat):Option D:=match x with
 | .ins c _=>if (te Γ c && js.all (te Γ))=true then (Γ.cl[c]?).map fun k=>.bl (js.any fun j=>c == j || k.sup.contains j) else none
 | _=>none
def aM:E→Bool
 | .lst _=>true | .lc ..=>true | .bi .list _=>true | .bi .rev _=>true | .bi .dict _=>true | .dic _=>true | .keep _ a=>aM a | .fcall own _ _=>own | .snap _ a=>aM a | _=>false
mutual
noncomputable def flT:D→Bool
 | .non=>true | .bl _=>true | .int _=>true | .str _=>true
 | .tup l=>flTs l
 | _=>false
noncomputable def flTs:List D→Bool
 | []=>true
 | d :: r=>flT d && flTs r
end
def flR:D→Bool
 | .lst l=>flTs l
 | d=>flT d
def flX (f:Bool) (d:D):Bool:=if f=true then flR d else flT d
def cP (env:List (Option D)):List (Option D):=env.map fun o=>o.bind fun d=>if noR d then some d else none
def wg (Γ:Gm) (x:D):Option D:=match x with
 | .ins c _=>if te Γ c=true then (Γ.cl[c]?).map fun k=>.bl (k.sup.contains 1000) else none
 | _=>none
def smO (k:SM) (x:D):Option D:=match k,x with
 | .rep y z,.str x=>if x.length≤10000∧z.length≤100∧y.length=1 then some (.str (Txt.replace x y z)) else none
 | .spl y,.str x=>if x.length≤60000∧y.length=1 then some (.lst ((Txt.split x y).map .str)) else none
 | .dig,.str x=>some (.bl (Txt.isdigit x))
 | .sta y,.str x=>some (.bl (Txt.startswith x y))
 | .mulc y,.int n=>if -1000000≤n∧n≤10000∧y.length≤10 then some (.str (Txt.mul y n)) else none
 | .cnt,.tup [.lst l,.str k]=>(cA l).map fun ss=>.int (ss.countP (· == k):Nat)
 | .mull,.tup [.lst l,.int n]=>if -1000000≤n∧n≤10000∧l.length=1 then some (.lst (Ε n.toNat l).flatten) else none
 | .mull,.tup [.str y,.int n]=>if -1000000≤n∧n≤10000∧y.length≤10 then some (.str (Txt.mul y n)) else none
 | _,_=>none
def CE (x:D) (s:Sta):Out D:=match x with
 | .ref n=>(match s.st[n]? with
   | some (.lst l)=>(match l.getLast? with | some d=>.ok d ⟨s.env,s.ow,s.st.set n (.lst l.dropLast)⟩ | none=>.bad)
   | _=>.bad)
 | _=>.bad
def vW (ks:List μ) (l:List D):Option D:=if ks.length=l.length∧ks.Nodup∧ks.length≤15∧ks≠[] then some (.dic (ks.map .inr) l) else none
def qT (kp:List Nat) (env:List (Option D)):List (Option D):=env.mapIdx fun i d=>if kp.contains i then none else d
def hid (kp:List Nat) (s:Sta):Sta:=⟨qT kp s.env,s.ow.filter (fun i=>!kp.contains i),s.st⟩
def CJ (x:D) (s:Sta):Out D:=match x with | .lst l=>.ok (.ref s.st.length) ⟨s.env,s.ow,s.st ++ [.lst l]⟩ | _=>.bad
section
variable (Γ:Gm) (cal cal1:Nat→List D→List O→Res)
def iD (es:E) (j:Nat) (ds:List D) (s:Sta):Out D:=match cal j ds s.st with
 | .ok d st=>.ok d (aft es s d st)
 | .exc c l st=>.exc c l (drp es s st)
 | .bad=>.bad
def ud (j:Nat) (ds:List D) (s:Sta):Out D:=if aS ds then (match cal j ds [] with
 | .ok d st=>if noR d then .ok d s else .ok (shD s.st.length d) ⟨s.env,s.ow,s.st ++ st.map (shO s.st.length)⟩
 | .exc c l _=>if aS l then .exc c l s else .bad
 | .bad=>.bad) else .bad
def qZ:D→Bool
 | .ref _=>true | _=>false
def At (st:List O):D→Option D
 | .ref n=>(match st[n]? with | some (.lst l)=>if aS l then some (.lst l) else none | some (.dic k l)=>if aS l then some (.dic k l) else none | _=>none)
 | d=>if noR d then some d else none
def Av (st:List O):List D→Option (List D)
 | []=>some []
 | d :: r=>(At st d).bind fun e=>(Av st r).map (e :: ·)
def Au (st:List O):D→Option D
 | .tup l=>(Av st l).map .tup
 | d=>At st d
def xj (own:Bool) (j:Nat) (ds:List D) (s:Sta):Out D:=if aS ds then (match cal j ds [] with
 | .ok d st=>if own && !qZ d then .bad else .of s (Au st d)
 | .exc c l _=>if aS l then .exc c l s else .bad
 | .bad=>.bad) else .bad
mutual
noncomputable def ev (br:Bool):E→Sta→Out D
 | .v i,s=>(match s.env[i]? with | some (some d)=>.ok d (if br then s else un s i) | _=>.bad)
 | .c d,s=>.ok d s
 | .g j,s=>.of s (Γ.gl[j]?.map toD)
 | .op o a b,s=>(ev true a s).bind fun x s=>(ev true b s).bind fun y s=>.of s (opD o (look s.st x) (look s.st y))
 | .isN a,s=>(ev true a s).bind fun x s=>.ok (.bl (kP x)) s
 | .isNN a,s=>(ev true a s).bind fun x s=>.ok (.bl (!kP x)) s
 | .neg a,s=>(ev true a s).bind fun x s=>(match x with | .int i=>.ok (.int (-i)) s | _=>.bad)
 | .not a,s=>(ev true a s).bind fun x s=>(match x with | .bl b=>.ok (.bl (!b)) s | _=>.bad)
 | .and a b,s=>(ev false a s).bind fun x s=>(match x with | .bl true=>ev false b s | .bl false=>.ok (.bl false) s | _=>.bad)
 | .or a b,s=>(ev false a s).bind fun x s=>(match x with | .bl false=>ev false b s | .bl true=>.ok (.bl true) s | _=>.bad)
 | .ite c a b,s=>(ev true c s).bind fun x s=>(match x with | .bl true=>ev false a s | .bl false=>ev false b s | _=>.bad)
 | .chain o p a b c,s=>(ev true a s).bind fun x s=>(ev true b s).bind fun y s=>(match opD o (look s.st x) (look s.st y) with
   | some (.bl true)=>(ev true c s).bind fun z s=>.of s (opD p (look s.st y) (look s.st z))
   | some (.bl false)=>.ok (.bl false) s
   | _=>.bad)
 | .ix a b,s=>(ev true a s).bind fun x s=>(ev true b s).bind fun y s=>.of s (ixD (look s.st x) y)
 | .sl a lo hi,s=>(ev true a s).bind fun x s=>(if bG lo then .ok none s else (ev true lo s).bind toI).bind fun l s=>(if bG hi then .ok none s else (ev true hi s).bind toI).bind fun h s=>.of s (slO (look s.st x) l h)
 | .sl3 a lo st,s=>(ev true a s).bind fun x s=>(if bG lo then .ok none s else (ev true lo s).bind toI).bind fun l s=>(if bG st then .ok none s else (ev true st s).bind toI).bind fun z s=>.of s (pP (look s.st x) l z)
 | .tget j e d,s=>(ev true e s).bind fun x s=>(ev false d s).bind fun z s=>(match Γ.tb[j]?,x with | some t,.str k=>.ok (((Ç k t).map toD).getD z) s | _,_=>.bad)
 | .newd j es,s=>(evs false es s).bind fun l s=>.of s ((Γ.cl[j]?).bind fun k=>if k.what=1∧l.length=k.at_.length then some (D.ins j l) else none)
 | .fld a f,s=>(ev true a s).bind fun x s=>.of s (lZ Γ s.st x f)
 | .tup es,s=>(evs false es s).bind fun l s=>if l.length≤100000 then .ok (.tup l) s else .bad
 | .lst es,s=>(evs false es s).bind fun l s=>if l.length≤100000 then .ok (.lst l) s else .bad
 | .newl es,s=>(evs false es s).bind fun l s=>if l.length≤100000 then .ok (.ref s.st.length) ⟨s.env,s.ow,s.st ++ [.lst l]⟩ else .bad
 | .keep kp a,s=>(noX (ev false a (hid (kp.filter s.ow.contains) s))).bind fun d s'=>.ok d ⟨s.env,s'.ow ++ kp.filter s.ow.contains,s'.st⟩
 | .sto a,s=>(ev false a s).bind CJ
 | .fcall own j es,s=>(evs false es s).bind fun l s=>xj cal own j l s
 | .call j es,s=>(evs true es s).bind fun l s=>iD cal es j l s
 | .hcall j es,s=>(evs false es s).bind fun l s=>ud cal j l s
 | .mth c j a es,s=>(ev true a s).bind fun x s=>(match x with
   | .ref p=>(match s.st[p]? with
     | some (.ins c' _)=>if c'=c then (evs true es s).bind fun l s=>iD cal es j (x :: l) s else .bad
     | _=>.bad)
   | _=>.bad)
 | .bi b es,s=>(evs true es s).bind fun l s=>.of s (biD b (l.map (look s.st)))
 | .tab j e,s=>(ev true e s).bind fun x s=>(match Γ.tb[j]?,x with | some t,.str k=>.of s ((Ç k t).map toD) | _,_=>.bad)
 | .tabin j e,s=>(ev true e s).bind fun x s=>(match Γ.tb[j]?,x with | some t,.str k=>.ok (.bl (Ç k t).isSome) s | _,_=>.bad)
 | .lc t one it elt cond,s=>(ev false it s).bind fun x s=>(match x with
   | .lst ds=>(bZ (fun d s'=>(match aV t one d s'.env with
     | some env=>(ev true cond ⟨env,[],s'.st⟩).bind fun b s2=>(match b with
       | .bl true=>(ev false elt s2).bind fun e s3=>.ok (some e) ⟨s3.env,[],s3.st⟩
       | .bl false=>.ok none ⟨s2.env,[],s2.st⟩
       | _=>.bad)
     | none=>.bad)) ds [] ⟨Ε t.length none ++ s.env,[],s.st⟩).back s.env
   | _=>.bad)
 | .tand a b,s=>(ev true a s).bind fun x s=>(match x with | .bl true=>ev true b s | .bl false=>.ok (.bl false) s | _=>.bad)
 | .tor a b,s=>(ev true a s).bind fun x s=>(match x with | .bl true=>.ok (.bl true) s | .bl false=>ev true b s | _=>.bad)
 | .tnot a,s=>(ev true a s).bind fun x s=>(match x with | .bl b=>.ok (.bl (!b)) s | _=>.bad)
 | .tv a,s=>(ev true a s).bind fun x s=>.of s ((vB (look s.st x)).map .bl)
 | .it b es,s=>(evs false es s).bind fun l s=>.of s ((itD b l).map .lst)
 | .itv a,s=>(ev false a s).bind fun x s=>.of s ((s9 x).map .lst)
 | .dic es,s=>(evs false es s).bind fun l s=>.of s ((qo l).map fun p=>.dic p.1 p.2)
 | .get a b c,s=>(ev true a s).bind fun x s=>if isDic (look s.st x)=true then (ev true b s).bind fun y s=>(ev false c s).bind fun z s=>(match look s.st x,bL y with
   | .dic ks ds,some k=>.ok ((cg ks ds k).getD z) s
   | _,_=>.bad) else .bad
 | .index a b,s=>(ev true a s).bind fun x s=>if uk x=true then (ev true b s).bind fun y s=>.of s (xy x y) else .bad
 | .join x a,s=>(ev true a s).bind fun y s=>.of s (jc x (look s.st y))
 | .fmt x a y,s=>(ev true a s).bind fun v s=>.of s (qG x v y)
 | .dicc ks es,s=>(evs false es s).bind fun l s=>.of s (vW ks l)
 | .isX a js,s=>(ev true a s).bind fun x s=>.of s (AI Γ x js)
 | .isXv a,s=>(ev true a s).bind fun x s=>.of s (wg Γ x)
 | .snap i a,s=>(match s.env[i]? with
   | some (some (.ref n))=>(match s.st[n]? with
     | some (.lst l)=>if aS l=true then (noX (ev false a ⟨(cP s.env).set i (some (.lst l)),[],[]⟩)).bind fun d _=>if flX (aM a) d=true then .ok d ⟨s.env,[],s.st⟩ else .bad else .bad
     | _=>.bad)
   | some (some _)=>ev false a s
   | _=>.bad)
 | .sm k a,s=>(ev true a s).bind fun x s=>.of s (smO k x)
 | .pop a,s=>(ev true a s).bind CE
 | .new j es,s=>(evs true es s).bind fun l s=>(match Γ.cl[j]? with
   | some k=>if k.what=1 then (if l.length=k.at_.length then .ok (.ins j l) (drp es s s.st) else .bad)
     else if k.what=0 then (match cal1 k.init (.ref s.st.length :: l) (s.st ++ [.ins j []]) with
      | .ok .non st=>.ok (.ref s.st.length) (aft es s .non st)
      | _=>.bad)
     else .bad
   | none=>.bad)
 | _,_=>.bad
noncomputable def evs (br:Bool):E→Sta→Out (List D)
 | .nil,s=>.ok [] s
 | .cons a r,s=>(ev br a s).bind fun x s=>(evs br r s).bind fun l s=>.ok (x :: l) s
 | _,_=>.bad
end
end
end L2.Ev
namespace L2.Ev
def xB:D→Bool
 | .lst _=>true | .dic _ _=>true | _=>false
def mJ (s:Sta) (i:Nat) (d:D) (f:Bool):Sta:=⟨s.env.set i (some d),if f && xB d then i :: s.ow.filter (· != i) else s.ow.filter (· != i),s.st⟩
def sM (l:List D) (i:Int) (d:D):Option (List D):=(ixN l.length i).map fun j=>l.set j d
def eQ (o:O) (k d:D):Option O:=match o with
 | .lst l=>(match k with | .int i=>(sM l i d).map .lst | _=>none)
 | .dic ks ds=>(bL k).bind fun k=>if ks.length<100000 then some (.dic (bV ks ds k d).1 (bV ks ds k d).2) else none
 | _=>none
def iL (o:D) (k d:D):Option D:=match o with
 | .lst l=>(match k with | .int i=>(sM l i d).map .lst | _=>none)
 | .dic ks ds=>(bL k).bind fun k=>if ks.length<100000 then some (.dic (bV ks ds k d).1 (bV ks ds k d).2) else none
 | _=>none
def eS (Γ:Gm) (o:O) (f:Nat) (d:D):Option O:=match o with
 | .ins c l=>(Γ.cl[c]?).bind fun k=>if k.at_.length<1000 then (if k.at_.idxOf f<l.length then some (.ins c (l.set (k.at_.idxOf f) d)) else if k.at_.idxOf f=l.length∧k.at_.idxOf f<k.at_.length then some (.ins c (l ++ [d])) else none) else none
 | _=>none
def sO:Option D→Bool
 | some (.int n)=>decide (0≤n) && decide (n<100000)
 | _=>false
def BG:D→Bool
 | .str x=>decide ((reprText x).length≤10000)
 | .int n=>decide (0≤n) && decide (n<100000)
 | _=>false
def jm (Γ:Gm) (j:Nat) (l:List D):Bool:=match Γ.cl[j]? with
 | some k=>if k.at_.isEmpty then l.all BG else l.length == k.at_.length && k.chk.all (fun i=>sO l[i]?) && decide (l.length≤1000) && !l.isEmpty
 | none=>false
def pk (Γ:Gm) (j:Nat) (l:List D):List D:=match Γ.cl[j]? with
 | some k=>if k.at_.isEmpty then [] else l
 | none=>l
def aT (f:D→Sta→am):List D→Sta→am
 | [],s=>.nx s
 | d :: r,s=>(f d s).go fun s=>aT f r s
def wK (c:Sta→Out D) (f:Sta→am):Nat→Sta→am
 | 0,_=>.bad
 | m+1,s=>(c s).go fun x s=>match x with | .bl true=>(f s).go fun s=>wK c f m s | .bl false=>.nx s | _=>.bad
def iH (st:List O):D→Bool
 | .ref n=>(match st[n]? with | some (.lst _)=>true | _=>false)
 | _=>false
def apO (x d:D) (s:Sta):am:=match x with
 | .ref n=>(match s.st[n]? with | some (.lst l)=>if l.length<100000 then .nx ⟨s.env,s.ow,s.st.set n (.lst (l ++ [d]))⟩ else .bad | _=>.bad)
 | _=>.bad
def exO (x d:D) (s:Sta):am:=match x with
 | .ref n=>(match s.st[n]?,d with | some (.lst l),.lst m=>if l.length+m.length≤100000 then .nx ⟨s.env,s.ow,s.st.set n (.lst (l ++ m))⟩ else .bad | _,_=>.bad)
 | _=>.bad
def dj (Γ:Gm) (j c:Nat):Option Bool:=(Γ.cl[c]?).map fun k=>c == j || k.sup.contains j
section
variable (Γ:Gm) (cal cal1:Nat→List D→List O→Res)
def exS:S→Sta→am
 | .skip,s=>.nx s
 | .seq a b,s=>(exS a s).go fun s=>exS b s
 | .set i e,s=>(ev Γ cal cal1 false e s).go fun d s=>.nx (mJ s i d (aM e))
 | .setT l e,s=>(ev Γ cal cal1 false e s).go fun d s=>(match aV l false d s.env with | some env=>.nx ⟨env,s.ow.filter fun i=>!l.contains i,s.st⟩ | none=>.bad)
 | .setR i es,s=>(evs Γ cal cal1 false es s).go fun l s=>if l.length≤100000 then .nx ⟨s.env.set i (some (.ref s.st.length)),s.ow.filter (· != i),s.st ++ [.lst l]⟩ else .bad
 | .ret e,s=>(ev Γ cal cal1 false e s).go fun d s=>.rt d s
 | .ifs c a b,s=>(ev Γ cal cal1 true c s).go fun x s=>(match x with | .bl true=>exS a s | .bl false=>exS b s | _=>.bad)
 | .drop e,s=>(ev Γ cal cal1 false e s).go fun _ s=>.nx s
 | .app i e,s=>if s.ow.contains i && isLst s.env[i]? then (ev Γ cal cal1 false e s).go fun d s=>if s.ow.contains i then (match s.env[i]? with
  | some (some (.lst l))=>if l.length<100000 then .nx ⟨s.env.set i (some (.lst (l ++ [d]))),s.ow,s.st⟩ else .bad
  | _=>.bad) else .bad else .bad
 | .ext i e,s=>if s.ow.contains i && isLst s.env[i]? then (ev Γ cal cal1 false e s).go fun d s=>if s.ow.contains i then (match s.env[i]?,d with
  | some (some (.lst l)),.lst x=>if l.length+x.length≤100000 then .nx ⟨s.env.set i (some (.lst (l ++ x))),s.ow,s.st⟩ else .bad
  | _,_=>.bad) else .bad else .bad
 | .put (.v i) b e,s=>(ev Γ cal cal1 false e s).go fun d s=>(match s.env[i]? with
  | some (some x)=>(ev Γ cal cal1 true b s).go fun k s=>(match x with
    | .ref n=>(match (s.st[n]?).bind fun o=>eQ o k d with | some o=>.nx ⟨s.env,s.ow,s.st.set n o⟩ | none=>.bad)
    | x=>if s.ow.contains i then (match iL x k d with | some y=>.nx ⟨s.env.set i (some y),s.ow,s.st⟩ | none=>.bad) else .bad)
  | _=>.bad)
 | .put a b e,s=>(ev Γ cal cal1 false e s).go fun d s=>(ev Γ cal cal1 true a s).go fun x s=>(ev Γ cal cal1 true b s).go fun k s=>(match x with
  | .ref n=>(match (s.st[n]?).bind fun o=>eQ o k d with | some o=>.nx ⟨s.env,s.ow,s.st.set n o⟩ | none=>.bad)
  | _=>.bad)
 | .fld a f e,s=>(match e with
  | .lst .nil=>(ev Γ cal cal1 true a s).go fun x s=>(match x with
    | .ref n=>(match (s.st[n]?).bind fun o=>eS Γ o f (.ref s.st.length) with | some o=>.nx ⟨s.env,s.ow,(s.st ++ [O.lst []]).set n o⟩ | none=>.bad)
    | _=>.bad)
  | .dic .nil=>(ev Γ cal cal1 true a s).go fun x s=>(match x with
    | .ref n=>(match (s.st[n]?).bind fun o=>eS Γ o f (.ref s.st.length) with | some o=>.nx ⟨s.env,s.ow,(s.st ++ [O.dic [] []]).set n o⟩ | none=>.bad)
    | _=>.bad)
  | e=>(ev Γ cal cal1 false e s).go fun d s=>(ev Γ cal cal1 true a s).go fun x s=>(match x with
    | .ref n=>(match (s.st[n]?).bind fun o=>eS Γ o f d with | some o=>.nx ⟨s.env,s.ow,s.st.set n o⟩ | none=>.bad)
    | _=>.bad))
 | .aug a f o e,s=>(ev Γ cal cal1 true a s).go fun x s=>(match x with
  | .ref n=>(match lZ Γ s.st x f with
    | some (.int i)=>(ev Γ cal cal1 false e s).go fun d s=>(match d with
      | .int j=>(match opI o i j,s.st[n]? with
        | some y,some ob=>(match eS Γ ob f y with | some ob=>.nx ⟨s.env,s.ow,s.st.set n ob⟩ | none=>.bad)
        | _,_=>.bad)
      | _=>.bad)
    | _=>.bad)
  | _=>.bad)
 | .fapp a f e,s=>(ev Γ cal cal1 true a s).go fun x s=>if iH s.st x=true then (ev Γ cal cal1 false e s).go fun d s=>apO x d s else .bad
 | .fext a e,s=>(ev Γ cal cal1 true a s).go fun x s=>if iH s.st x=true then (ev Γ cal cal1 false e s).go fun d s=>exO x d s else .bad
 | .for_ t one it b,s=>(ev Γ cal cal1 false it s).go fun x s=>(match x with
  | .lst ds=>aT (fun d s=>match aV t one d s.env with | some env=>exS b ⟨env,s.ow.filter fun i=>!t.contains i,s.st⟩ | none=>.bad) ds s
  | _=>.bad)
 | .whl c b,s=>wK (ev Γ cal cal1 true c) (exS b) 100000 s
 | .rais j es,s=>(evs Γ cal cal1 false es s).go fun l s=>if jm Γ j l then .exc j (pk Γ j l) s else .bad
 | .try_ a hs,s=>(match exS a s with
  | .exc c l s'=>hnd hs c l s'
  | r=>r)
 | _,_=>.bad
where hnd:S→Nat→List D→Sta→am
 | .hand j (some i) b r,c,l,s=>(match dj Γ j c with
  | some true=>(match exS b ⟨s.env.set i (some (.ins c l)),s.ow.filter (· != i),s.st⟩ with
    | .nx s=>.nx ⟨s.env.set i none,s.ow.filter (· != i),s.st⟩
    | .rt d s=>.rt d s
    | _=>.bad)
  | some false=>hnd r c l s
  | none=>.bad)
 | .hand j none b r,c,l,s=>(match dj Γ j c with
  | some true=>(match exS b s with | .nx s=>.nx s | .rt d s=>.rt d s | _=>.bad)
  | some false=>hnd r c l s
  | none=>.bad)
 | .skip,c,l,s=>.exc c l s
 | _,_,_,_=>.bad
end
def lj (Γ:Gm) (cal cal1:Nat→List D→List O→Res) (j:Nat) (ds:List D) (st:List O):Res:=match Γ.fn[j]? with
 | some f=>if (ds ++ f.df).length=f.np then (match exS Γ cal cal1 f.body ⟨(ds ++ f.df).map some ++ Ε (f.ns - f.np) none,[],st⟩ with
   | .nx s=>.ok .non s.st
   | .rt d s=>.ok d s.st
   | .exc c l s=>.exc c l s.st
   | .bad=>.bad) else .bad
 | none=>.bad
def qh (Γ:Gm):Nat→(Nat→List D→List O→Res)×(Nat→List D→List O→Res)
 | 0=>(fun _ _ _=>.bad,fun _ _ _=>.bad)
 | n+1=>(lj Γ (qh Γ n).1 (qh Γ n).2,(qh Γ n).1)
def aa (Γ:Gm) (n:Nat):Nat→List D→List O→Res:=(qh Γ n).1
def aH (Γ:Gm) (n:Nat):Nat→List D→List O→Res:=(qh Γ n).2
structure CI where
 ad:Α
 nm:List μ
structure Wd where
 P:ϴ
 w:Û
 ci:List CI
 what:List Nat
abbrev Hp:=Α→Option Ea
abbrev Rs:=List (Α×Α)
def TpO (o:Ea) (l:List ζ):Prop:=o.cls = .type "tuple"∧(∃ n,o.data = .seq l.toArray n)∧l.length≤ϟ∧o.dict=none
def LsO (o:Ea) (l:List ζ):Prop:=(∃ n,o={ cls:=.type "list",data:=.seq l.toArray n })∧l.length≤ϟ
def DcO (W:Wd) (o:Ea) (l:List (Key×ζ)):Prop:=∃ es ep,o.ExactDict∧o.data = .dict es ep∧KeysOf (bH W.P W.w) es∧Pairs (bH W.P W.w) es.toList l∧(l.map (·.1)).Nodup∧l.length≤ϟ
def NsO (o:Ea) (l:List (μ×ζ)):Prop:=∃ es ep,o.data = .dict es ep∧StrKeys es∧UniqKeys es∧∀ n,nsFind es n=l.lookup n
def InO (h:Hp) (a dx C:Α) (l:List (μ×ζ)):Prop:=h a=some (ϡ C dx)∧dx≠a∧l.length≤1000∧∃ o,h dx=some o∧NsO o l
def ExO (h:Hp) (a C:Α) (l:List (μ×ζ)):Prop:=∃ o vs,h a=some o∧o.cls = .ref C∧o.data = .fields vs∧((l = []∧o.dict=none)∨∃ d od,o.dict=some d∧h d=some od∧NsO od l)
inductive Ra (G:Hp) (T:Ea→List ζ→Prop) (Q:List ζ→Prop) (v:ζ):Prop
 | mk (a:Α) (o:Ea) (vs:List ζ) (_:v = .ref a) (_:G a=some o) (_:T o vs) (_:Q vs)
inductive Rb (W:Wd) (G:Hp) (ks:List Key) (n:Nat) (Q:List ζ→Prop) (v:ζ):Prop
 | mk (a:Α) (o:Ea) (vs:List ζ) (_:v = .ref a) (_:(a == G6)=false) (_:G a=some o) (_:DcO W o (ks.zip vs)) (_:ks.length=n) (_:Q vs)
inductive Ri (W:Wd) (G:Hp) (c n:Nat) (Q:List ζ→Prop) (v:ζ):Prop
 | mk (a:Α) (i:CI) (vs:List ζ) (_:v = .ref a) (_:W.ci[c]? = some i) (_:n≤i.nm.length) (_:(W.what[c]? = some 1∧∃ dx,InO G a dx i.ad (i.nm.zip vs))∨(W.what[c]? = some 2∧ExO G a i.ad (i.nm.zip vs))) (_:Q vs)
inductive Rc (P:ζ→Prop) (Q:List ζ→Prop) (vs:List ζ):Prop
 | mk (v:ζ) (r:List ζ) (_:vs=v :: r) (_:P v) (_:Q r)
mutual
noncomputable def RD (W:Wd) (ρ:Rs) (G:Hp):D→ζ→Prop
 | .non,v=>v = .none
 | .bl b,v=>v = .bool b
 | .int i,v=>∃ t,v = .int i t
 | .str x,v=>∃ t,v = .str x t
 | .tup ds,v=>Ra G TpO (RDs W ρ G ds) v
 | .lst ds,v=>Ra G LsO (RDs W ρ G ds) v
 | .dic ks ds,v=>Rb W G ks ds.length (RDs W ρ G ds) v
 | .ins c ds,v=>Ri W G c ds.length (RDs W ρ G ds) v
 | .ref n,v=>∃ p,ρ[n]? = some p∧v = .ref p.1
noncomputable def RDs (W:Wd) (ρ:Rs) (G:Hp):List D→List ζ→Prop
 | [],vs=>vs = []
 | d :: ds,vs=>Rc (RD W ρ G d) (RDs W ρ G ds) vs
end
def Sub (G H:Hp):Prop:=∀ a o,G a=some o→H a=some o
theorem Sub.refl (G):Sub G G:=fun _ _ e=>e
theorem Sub.trans (h:Sub G H) (i:Sub H I):Sub G I:=fun a o e=>i a o (h a o e)
section
variable {W:Wd} {ρ ρ':Rs} {G G' H H':Hp}
theorem gj (h:ρ <+: ρ') {n:Nat} (e:ρ[n]? = some a):ρ'[n]? = some a:=by
 obtain ⟨t,rfl⟩:=h
 rw [ό (ς.mp e).1];exact e
theorem InO.sub (h:Sub G G'):InO G a dx C l→InO G' a dx C l:=fun ⟨x,n,z,o,e,r⟩=>⟨h _ _ x,n,z,o,h _ _ e,r⟩
theorem ExO.sub (h:Sub G G'):ExO G a C l→ExO G' a C l:=fun ⟨o,vs,e,c,d,r⟩=>⟨o,vs,h _ _ e,c,d,r.elim .inl fun ⟨d,od,q,e,r⟩=>.inr ⟨d,od,q,h _ _ e,r⟩⟩
mutual
theorem RD.mono (hp:ρ <+: ρ') (h:Sub G G'):∀ {d:D} {v},RD W ρ G d v→RD W ρ' G' d v
 | .non,_,e=>e
 | .bl _,_,e=>e
 | .int _,_,e=>e
 | .str _,_,e=>e
 | .tup _,_,⟨a,o,vs,e,t,q,r⟩=>⟨a,o,vs,e,h _ _ t,q,RDs.mono hp h r⟩
 | .lst _,_,⟨a,o,vs,e,t,q,r⟩=>⟨a,o,vs,e,h _ _ t,q,RDs.mono hp h r⟩
 | .dic _ _,_,⟨a,o,vs,e,m,t,q,l,r⟩=>⟨a,o,vs,e,m,h _ _ t,q,l,RDs.mono hp h r⟩
 | .ins _ _,_,⟨a,i,vs,e,hc,l,t,r⟩=>⟨a,i,vs,e,hc,l,t.elim (fun ⟨w,dx,q⟩=>.inl ⟨w,dx,q.sub h⟩) (fun ⟨w,q⟩=>.inr ⟨w,q.sub h⟩),RDs.mono hp h r⟩
 | .ref _,_,⟨a,e,q⟩=>⟨a,gj hp e,q⟩
theorem RDs.mono (hp:ρ <+: ρ') (h:Sub G G'):∀ {ds} {vs},RDs W ρ G ds vs→RDs W ρ' G' ds vs
 | [],_,e=>e
 | _ :: _,_,⟨v,r,e,t,q⟩=>⟨v,r,e,RD.mono hp h t,RDs.mono hp h q⟩
end
theorem RDs.cons (h:RD W ρ G d v) (t:RDs W ρ G ds vs):RDs W ρ G (d :: ds) (v :: vs):=⟨v,vs,rfl,h,t⟩
theorem j3:∀ {ds vs},RDs W ρ G ds vs↔Paired (RD W ρ G) ds vs
 | [],vs=>⟨fun h=>by cases (show vs = [] from h);exact .nil,fun h=>by cases h;exact rfl⟩
 | d :: ds,vs=>⟨fun ⟨v,r,e,h,t⟩=>e ▸ .cons h (j3.mp t),fun h=>by cases h with | cons h t=>exact .cons h (j3.mpr t)⟩
theorem RDs.len (h:RDs W ρ G ds vs):ds.length=vs.length:=(j3.mp h).length
theorem RDs.get:∀ {ds} {vs} {i:Nat} {d:D},RDs W ρ G ds vs→ds[i]? = some d→∃ v,vs[i]? = some v∧RD W ρ G d v
 | [],_,_,_,_,e=>by simp at e
 | d :: ds,vs,0,d',⟨v,r,e,h,_⟩,e'=>by subst e;simp at e';subst e';exact ⟨v,rfl,h⟩
 | d :: ds,vs,i+1,d',⟨v,r,e,_,t⟩,e'=>by
   subst e
   obtain ⟨u,h1,h2⟩:=RDs.get (i:=i) t (by simpa using e')
   exact ⟨u,by simpa using h1,h2⟩
theorem RDs.app:∀ {ds es} {vs us},RDs W ρ G ds vs→RDs W ρ G es us→RDs W ρ G (ds ++ es) (vs ++ us)
 | [],_,vs,_,h,t=>by cases (show vs = [] from h);exact t
 | d :: ds,es,vs,us,⟨v,r,e,h,t'⟩,t=>by subst e;exact .cons h (RDs.app t' t)
theorem RDs.drop:∀ {ds} {vs} (n),RDs W ρ G ds vs→RDs W ρ G (ds.drop n) (vs.drop n)
 | _,_,0,h=>h
 | [],vs,n+1,h=>by cases (show vs = [] from h);exact rfl
 | d :: ds,vs,n+1,⟨v,r,e,h,t⟩=>by subst e;exact RDs.drop n t
theorem RDs.take:∀ {ds} {vs} (n),RDs W ρ G ds vs→RDs W ρ G (ds.take n) (vs.take n)
 | _,_,0,_=>rfl
 | [],vs,n+1,h=>by cases (show vs = [] from h);exact rfl
 | d :: ds,vs,n+1,⟨v,r,e,h,t⟩=>by subst e;exact .cons h (RDs.take n t)
theorem RDs.set:∀ {ds} {vs} (n) {d} {v},RDs W ρ G ds vs→RD W ρ G d v→RDs W ρ G (ds.set n d) (vs.set n v)
 | [],vs,_,_,_,h,_=>by cases (show vs = [] from h);exact rfl
 | d :: ds,vs,0,_,_,⟨v,r,e,h,t⟩,q=>by subst e;exact .cons q t
 | d :: ds,vs,n+1,_,_,⟨v,r,e,h,t⟩,q=>by subst e;exact .cons h (RDs.set n t q)
theorem RDs.rev:∀ {ds} {vs},RDs W ρ G ds vs→RDs W ρ G ds.reverse vs.reverse
 | [],vs,h=>by cases (show vs = [] from h);exact rfl
 | d :: ds,vs,⟨v,r,e,h,t⟩=>by subst e;rw [Fl,Fl];exact (RDs.rev t).app (.cons h rfl)
end
inductive Oa (h:Hp) (p:Α×Α) (Q:List ζ→Prop):Prop
 | mk (o:Ea) (vs:List ζ) (_:p.2=p.1) (_:h p.1=some o) (_:LsO o vs) (_:Q vs)
inductive Ob (W:Wd) (h:Hp) (p:Α×Α) (ks:List Key) (n:Nat) (Q:List ζ→Prop):Prop
 | mk (o:Ea) (vs:List ζ) (_:p.2=p.1) (_:(p.1 == G6)=false) (_:h p.1=some o) (_:DcO W o (ks.zip vs)) (_:ks.length=n) (_:Q vs)
inductive Oi (W:Wd) (h:Hp) (p:Α×Α) (c n:Nat) (Q:List ζ→Prop):Prop
 | mk (i:CI) (vs:List ζ) (_:W.ci[c]? = some i) (_:W.what[c]? = some 0) (_:n≤i.nm.length) (_:InO h p.1 p.2 i.ad (i.nm.zip vs)) (_:Q vs)
def ObR (W:Wd) (ρ:Rs) (G h:Hp) (p:Α×Α):O→Prop
 | .lst ds=>Oa h p (RDs W ρ G ds)
 | .dic ks ds=>Ob W h p ks ds.length (RDs W ρ G ds)
 | .ins c ds=>Oi W h p c ds.length (RDs W ρ G ds)
theorem ObR.mono (hp:ρ <+: ρ') (g:Sub G G') (k:∀ a,a=p.1∨a=p.2→∀ o,h a=some o→h' a=some o):∀ {o},ObR W ρ G h p o→ObR W ρ' G' h' p o
 | .lst _,⟨o,vs,z,e,q,r⟩=>⟨o,vs,z,k _ (.inl rfl) _ e,q,r.mono hp g⟩
 | .dic _ _,⟨o,vs,z,m,e,q,l,r⟩=>⟨o,vs,z,m,k _ (.inl rfl) _ e,q,l,r.mono hp g⟩
 | .ins _ _,⟨i,vs,c,w,l,⟨e,n,z,o,e2,q⟩,r⟩=>⟨i,vs,c,w,l,⟨k _ (.inl rfl) _ e,n,z,o,k _ (.inr rfl) _ e2,q⟩,r.mono hp g⟩
theorem ObR.th:∀ {o},ObR W ρ G h p o→(∃ o,h p.1=some o)∧∃ o,h p.2=some o
 | .lst _,⟨o,vs,z,e,_,_⟩=>⟨⟨o,e⟩,z ▸ ⟨o,e⟩⟩
 | .dic _ _,⟨o,vs,z,m,e,_,_,_⟩=>⟨⟨o,e⟩,z ▸ ⟨o,e⟩⟩
 | .ins _ _,⟨i,vs,c,w,l,⟨e,n,z,o,e2,q⟩,r⟩=>⟨⟨_,e⟩,⟨_,e2⟩⟩
def toO:D→Option O
 | .lst l=>some (.lst l)
 | .dic k l=>some (.dic k l)
 | _=>none
structure Cx where
 W:Wd
 K:υ
 mg:μ→Option ζ
 base:ϳ
 os:Fj
 Γ:Gm
 cal:Nat→List D→List O→Res
 cal1:Nat→List D→List O→Res
 A:Ϗ
 fr:List CL
 N:List μ
 env:CL
 calm:Bool
 tz:Nat:=0
abbrev Cx.ev (X:Cx) (br:Bool) (e:E):Sta→Out D:=Ev.ev X.Γ X.cal X.cal1 br e
abbrev Cx.evs (X:Cx) (br:Bool) (e:E):Sta→Out (List D):=Ev.evs X.Γ X.cal X.cal1 br e
abbrev Cx.ex (X:Cx) (c:S):Sta→am:=Ev.exS X.Γ X.cal X.cal1 c
abbrev Cx.M (X:Cx):Dj:=model X.W.P X.W.w
structure Z where
 ρ:Rs
 G:Hp
 t:Sta
 σ:List (Option ζ)
 s:ν
abbrev Z.h (z:Z):Hp:=z.s.heap.get?
def Mu (ρ:Rs) (a:Α):Prop:=∃ p∈ρ,a=p.1∨a=p.2
def Own (z:Z) (a:Α):Prop:=∃ i∈z.t.ow,z.σ[i]? = some (some (.ref a))
def Lc (X:Cx) (a:Α):Prop:=a=X.env.locals∨∃ x,X.env.cells.lookup x=some a
structure HR (X:Cx) (z:Z):Prop where
 md:Mod X.K X.mg X.base
 fm:X.A.frames=some X.fr
 hd:X.calm=true→X.A.handled=none
 bs:∀ b o,X.base.get? b=some o→z.G b=some o
 gh:Sub z.G z.h
 rl:z.ρ.length=z.t.st.length
 rn:∀ (i j:Nat) (p q:Α×Α) (a:Α),z.ρ[i]? = some p→z.ρ[j]? = some q→(a=p.1∨a=p.2)→(a=q.1∨a=q.2)→i=j
 rg:∀ a,Mu z.ρ a→z.G a=none
 ob:∀ (n:Nat) (o:O) (p:Α×Α),z.t.st[n]? = some o→z.ρ[n]? = some p→ObR X.W z.ρ z.G z.h p o
 fu:z.s.heap.FunFrames X.base X.fr
 ff:∀ b∈frs X.fr,z.G b=none∧¬ Mu z.ρ b
 br:Ş z.s.gens
 os:z.s.os=X.os
 tk:X.tz≤z.s.toks
structure COk (X:Cx):Prop where
 un:X.A.units+200<ŭ
 kd:X.env.scope.kind = .function
 gl:X.env.globals=ύ
 bl:X.env.builtins=builtinsNs
 ci:∀ x y c,X.env.cells.lookup x=some c→X.env.cells.lookup y=some c→x=y
 ch:∀ x,(X.env.kindOf x=some .cell∨X.env.kindOf x=some .free)→∃ c,X.env.cells.lookup x=some c
def Fre (X:Cx) (z:Z) (a:Α):Prop:=z.G a=none∧¬ Mu z.ρ a∧a ∉ frs X.fr∧¬ Lc X a
structure Rep (X:Cx) (z:Z):Prop extends HR X z where
 ok:COk X
 lo:∃ m,z.s.heap.Ns X.env.locals m∧∀ (i:Nat) (x:μ) (u:ζ),X.N[i]? = some x→z.σ[i]? = some (some u)→Vis X.env.scope x→lQ X.env z.s.heap m x u
 ce:∀ x c,X.env.cells.lookup x=some c→∃ v,z.s.heap.IsCell c v
 fl:∀ a,Lc X a→z.G a=none∧¬ Mu z.ρ a
 el:z.t.env.length=z.σ.length
 sl:z.σ.length=X.N.length
 en:∀ (i:Nat) (d:D),i ∉ z.t.ow→z.t.env[i]? = some (some d)→∃ u,z.σ[i]? = some (some u)∧RD X.W z.ρ z.G d u
 eo:∀ (i:Nat),i∈z.t.ow→∃ d a o,z.t.env[i]? = some (some d)∧z.σ[i]? = some (some (.ref a))∧toO d=some o∧ObR X.W z.ρ z.G z.h (a,a) o∧Fre X z a
 od:∀ (i j:Nat) (a:Α),i∈z.t.ow→j∈z.t.ow→z.σ[i]? = some (some (.ref a))→z.σ[j]? = some (some (.ref a))→i=j
structure Stp (fr:List CL) (w:Α→Prop) (z z':Z):Prop where
 pr:z.ρ <+: z'.ρ
 gg:Sub z.G z'.G
 gn:∀ a o,z'.G a=some o→z.G a=some o∨z.h a=none∨w a
 rn:∀ a,Mu z'.ρ a→Mu z.ρ a∨z.h a=none
 th:∀ a o,z.h a=some o→∃ o',z'.h a=some o'
 sm:∀ a o,z.h a=some o→¬ Mu z.ρ a→¬ w a→a ∉ frs fr→z'.h a=some o
 sl:∀ a o,z.h a=some o→¬ Mu z.ρ a→¬ w a→a∈frs fr→∃ sl,z'.h a=some { o with slots:=sl }
theorem Stp.no (x:Stp fr w z z') (e:z'.h a=none):z.h a=none:=by
 cases q:z.h a with
 | none=>rfl
 | some o=>obtain ⟨o',e'⟩:=x.th a o q;rw [e] at e';cases e'
theorem Stp.refl:Stp fr w z z:=⟨ξ _,.refl _,fun _ _ e=>.inl e,fun _ h=>.inl h,fun _ o e=>⟨o,e⟩,fun _ _ e _ _ _=>e,fun _ o e _ _ _=>⟨o.slots,e⟩⟩
theorem Stp.trans (x:Stp fr w z z1) (y:Stp fr w1 z1 z2) (k:∀ a,w1 a→w a∨z.h a=none):Stp fr w z z2:=by
 have nm:∀ a o,z.h a=some o→¬ Mu z.ρ a→¬ Mu z1.ρ a:=fun a o e n m=>(x.rn a m).elim n fun q=>by rw [q] at e;cases e
 have nw:∀ a o,z.h a=some o→¬ w a→¬ w1 a:=fun a o e n m=>(k a m).elim n fun q=>by rw [q] at e;cases e
 refine ⟨x.pr.trans y.pr,x.gg.trans y.gg,fun a o e=>?_,fun a m=>?_,fun a o e=>?_,fun a o e n m f=>y.sm a o (x.sm a o e n m f) (nm a o e n) (nw a o e m) f,fun a o e n m f=>?_⟩
 ·rcases y.gn a o e with q | q | q
  ·exact x.gn a o q
  ·exact .inr (.inl (x.no q))
  ·exact .inr ((k a q).symm)
 ·rcases y.rn a m with q | q
  ·exact x.rn a q
  ·exact .inr (x.no q)
 ·obtain ⟨o1,e1⟩:=x.th a o e;exact y.th a o1 e1
 ·obtain ⟨sl,e1⟩:=x.sl a o e n m f
  obtain ⟨sl2,e2⟩:=y.sl a _ e1 (nm a o e n) (nw a o e m) f
  exact ⟨sl2,e2⟩
theorem Stp.mono (x:Stp fr w z z') (k:∀ a,w a→w' a):Stp fr w' z z':=⟨x.pr,x.gg,fun a o e=>(x.gn a o e).imp_right (·.imp_right (k a)),x.rn,x.th,fun a o e n m=>x.sm a o e n fun q=>m (k a q),fun a o e n m=>x.sl a o e n fun q=>m (k a q)⟩
structure Ee (X:Cx) (z z':Z):Prop where
 st:Stp X.fr (Own z) z z'
 sg:z'.σ=z.σ
 en:z'.t.env=z.t.env
 ow:∀ i∈z'.t.ow,i∈z.t.ow
theorem Ee.refl:Ee X z z:=⟨.refl,rfl,rfl,fun _ h=>h⟩
theorem Ee.own (x:Ee X z z'):Own z' a→Own z a:=fun ⟨i,m,e⟩=>⟨i,x.ow i m,x.sg ▸ e⟩
theorem Ee.trans (x:Ee X z z1) (y:Ee X z1 z2):Ee X z z2:=⟨x.st.trans y.st fun _ o=>.inl (x.own o),y.sg.trans x.sg,y.en.trans x.en,fun i m=>x.ow i (y.ow i m)⟩
def Pv (X:Cx) (z:Z) (a:Α):Prop:=Own z a∨Lc X a
structure Go (X:Cx) (z z':Z):Prop where
 st:Stp X.fr (Pv X z) z z'
 ow:∀ a,Own z' a→Own z a∨z.h a=none
theorem Go.refl:Go X z z:=⟨.refl,fun _ o=>.inl o⟩
theorem Go.trans (x:Go X z z1) (y:Go X z1 z2):Go X z z2:=by
 refine ⟨x.st.trans y.st fun a o=>o.elim (fun q=>(x.ow a q).imp_left .inl) fun q=>.inl (.inr q),fun a o=>?_⟩
 rcases y.ow a o with q | q
 ·exact x.ow a q
 ·exact .inr (x.st.no q)
theorem Ee.go (x:Ee X z z'):Go X z z':=⟨x.st.mono fun _=>.inl,fun _ o=>.inl (x.own o)⟩
def RB (W:Wd) (z:Z) (d:D) (u:ζ):Prop:=RD W z.ρ z.G d u∨∃ i∈z.t.ow,z.σ[i]? = some (some u)∧z.t.env[i]? = some (some d)
def RV (W:Wd) (br:Bool) (c:E) (z:Z) (d:D) (u:ζ):Prop:=RD W z.ρ z.G d u∨(br=true∧∃ i,c = .v i∧i∈z.t.ow∧z.σ[i]? = some (some u)∧z.t.env[i]? = some (some d))
theorem RV.of (h:RD W z.ρ z.G d u):RV W br c z d u:=.inl h
theorem RV.rd (h:RV W false c z d u):RD W z.ρ z.G d u:=h.elim id fun ⟨z,_⟩=>nomatch z
theorem RV.rb (h:RV W br c z d u):RB W z d u:=h.elim .inl fun ⟨_,i,_,m,e⟩=>.inr ⟨i,m,e⟩
theorem RD.st (h:RD W z.ρ z.G d u) (x:Stp fr w z z'):RD W z'.ρ z'.G d u:=h.mono x.pr x.gg
theorem RV.st (h:RV X.W br c z d u) (x:Ee X z z') (I:Rep X z'):RV X.W br c z' d u:=by
 rcases h with h | ⟨b,i,hc,m,e1,e2⟩
 ·exact .inl (h.st x.st)
 ·by_cases q:i∈z'.t.ow
  ·exact .inr ⟨b,i,hc,q,x.sg ▸ e1,x.en ▸ e2⟩
  ·obtain ⟨u',e3,r⟩:=I.en i d q (x.en ▸ e2)
   rw [x.sg,e1] at e3;cases e3
   exact .inl r
theorem RB.st (h:RB X.W z d u) (x:Ee X z z') (I:Rep X z'):RB X.W z' d u:=by
 rcases h with h | ⟨i,m,e1,e2⟩
 ·exact .inl (h.st x.st)
 ·by_cases q:i∈z'.t.ow
  ·exact .inr ⟨i,q,x.sg ▸ e1,x.en ▸ e2⟩
  ·obtain ⟨u',e3,r⟩:=I.en i d q (x.en ▸ e2)
   rw [x.sg,e1] at e3;cases e3
   exact .inl r
def CR (W:Wd) (z:Z):D→ζ→Prop
 | .lst ds,v=>Ra z.h LsO (RDs W z.ρ z.G ds) v
 | .dic ks ds,v=>Rb W z.h ks ds.length (RDs W z.ρ z.G ds) v
 | d,v=>RD W z.ρ z.G d v
theorem CR.of (I:HR X z):∀ {d},RD X.W z.ρ z.G d u→CR X.W z d u
 | .non,h=>h
 | .bl _,h=>h
 | .int _,h=>h
 | .str _,h=>h
 | .ref _,h=>h
 | .ins _ _,h=>h
 | .tup _,h=>h
 | .lst _,⟨a,o,vs,e,g,q,r⟩=>⟨a,o,vs,e,I.gh _ _ g,q,r⟩
 | .dic _ _,⟨a,o,vs,e,m,g,q,l,r⟩=>⟨a,o,vs,e,m,I.gh _ _ g,q,l,r⟩
theorem CR.ob {d:D} (e:toO d=some o) (h:ObR W z.ρ z.G z.h (a,b) o):CR W z d (.ref a):=by
 cases d <;> cases e
 ·obtain ⟨o,vs,_,e,l,r⟩:=h;exact ⟨a,o,vs,rfl,e,l,r⟩
 ·obtain ⟨o,vs,_,m,e,l,n,r⟩:=h;exact ⟨a,o,vs,rfl,m,e,l,n,r⟩
theorem RB.cr0 (I:Rep X z) (h:RB X.W z d u):CR X.W z d u:=by
 rcases h with h | ⟨i,m,e1,e2⟩
 ·exact .of I.toHR h
 ·obtain ⟨d',a,o,e3,e4,e5,r,_⟩:=I.eo i m
  rw [e1] at e4;cases e4
  rw [e2] at e3;cases e3
  exact .ob e5 r
theorem RB.cr (I:Rep X z) (h:RB X.W z d u):CR X.W z (look z.t.st d) u:=by
 have c:=h.cr0 I
 cases d with
 | ref n=>
   obtain ⟨p,e,rfl⟩:=(show RD X.W z.ρ z.G (.ref n) u from c)
   show CR X.W z (match z.t.st[n]? with | some (.lst l)=>.lst l | some (.dic k l)=>.dic k l | _=>.ref n) _
   cases q:z.t.st[n]? with
   | none=>exact c
   | some o=>
     have r:=I.ob n o p q e
     cases o with
     | lst l=>exact .ob (d:=.lst l) rfl r
     | dic k l=>exact .ob (d:=.dic k l) rfl r
     | ins _ _=>exact c
 | _=>exact c
structure Gr (s s':ν):Prop where
 os:s'.os=s.os
 gs:s'.gens=s.gens
 k:∀ b o,s.heap.get? b=some o→s'.heap.get? b=some o
theorem Gr.refl:Gr s s:=⟨rfl,rfl,fun _ _ e=>e⟩
theorem Gr.trans (x:Gr s s1) (y:Gr s1 s2):Gr s s2:=⟨y.os.trans x.os,y.gs.trans x.gs,fun b o e=>y.k b o (x.k b o e)⟩
theorem Gr.tok {s:ν} {t:Nat}:Gr s { s with toks:=t }:=⟨rfl,rfl,fun _ _ e=>e⟩
theorem Gr.hp {s:ν} {h:ϳ} {t:Nat} (k:∀ b o,s.heap.get? b=some o→h.get? b=some o):Gr s { s with heap:=h,toks:=t }:=⟨rfl,rfl,k⟩
theorem Gr.push {s:ν} {o:Ea} {t:Nat}:Gr s { s with heap:=s.heap.push o,toks:=t }:=.hp fun _ _ e=>τ _ e
structure Grw (z:Z) (G':Hp) (s':ν):Prop where
 gr:Gr z.s s'
 gg:Sub z.G G'
 gh:Sub G' s'.heap.get?
 gn:∀ a o,G' a=some o→z.G a=some o∨z.h a=none
theorem nfu {h h':ϳ} (x:h.FunFrames base l) (k:∀ b o,h.get? b=some o→h'.get? b=some o):h'.FunFrames base l:=x.of_keeps fun b o e _=>⟨o,k b o e,rfl⟩
theorem HR.th (I:HR X z) (m:Mu z.ρ a):∃ o,z.h a=some o:=by
 obtain ⟨p,hp,e⟩:=m
 obtain ⟨n,hn⟩:=þ.mp hp
 have lt:n<z.t.st.length:=by rw [← I.rl];exact (ς.mp hn).1
 obtain ⟨h1,h2⟩:=(I.ob n _ p (Ζ lt) hn).th
 rcases e with rfl | rfl
 ·exact h1
 ·exact h2
theorem HR.fth (I:HR X z) (m:b∈frs X.fr):∃ o,z.h b=some o:=let ⟨_,o,e,_⟩:=I.fu.mem m;⟨o,e⟩
section
variable {X:Cx} {z:Z} {G':Hp} {s':ν}
theorem HR.tk1 (I:HR X z):X.tz≤z.s.toks+1:=ϒ I.tk
theorem HR.tk2 (I:HR X z):X.tz≤z.s.toks+2:=ϒ I.tk1
theorem HR.tk3 (I:HR X z):X.tz≤z.s.toks+3:=ϒ I.tk2
theorem HR.grow (I:HR X z) (g:Grw z G' s') (tk:X.tz≤s'.toks:=by first | assumption | exact HR.tk (by assumption) | exact HR.tk1 (by assumption)):HR X { z with G:=G',s:=s' }:=by
 have nn:∀ {a:Α},(∃ o,z.h a=some o)→z.G a=none→G' a=none:=fun {a} ⟨o,e⟩ n=>by
  cases q:G' a with
  | none=>rfl
  | some o'=>rcases g.gn a o' q with z | z;rw [n] at z;cases z;rw [z] at e;cases e
 exact ⟨I.md,I.fm,I.hd,fun b o e=>g.gg _ _ (I.bs b o e),g.gh,I.rl,I.rn,fun a m=>nn (I.th m) (I.rg a m),fun n o p h1 h2=>(I.ob n o p h1 h2).mono (ξ _) g.gg fun a _ o e=>g.gr.k a o e,nfu I.fu g.gr.k,fun b m=>⟨nn (I.fth m) (I.ff b m).1,(I.ff b m).2⟩,by rw [g.gr.gs];exact I.br,g.gr.os.trans I.os,tk⟩
theorem Rep.lth (I:Rep X z) (l:Lc X a):∃ o,z.h a=some o:=by
 rcases l with rfl | ⟨x,e⟩
 ·obtain ⟨m,⟨o,_,_,e,_⟩,_⟩:=I.lo;exact ⟨o,e⟩
 ·obtain ⟨v,o,e,_⟩:=I.ce x a e;exact ⟨o,e⟩
theorem Rep.oth (I:Rep X z) (o:Own z a):Fre X z a∧∃ o,z.h a=some o:=by
 obtain ⟨i,m,e⟩:=o
 obtain ⟨d,b,o,_,e2,_,r,f⟩:=I.eo i m
 rw [e] at e2;cases e2
 exact ⟨f,r.th.1⟩
theorem dC {h h':ϳ} (k:∀ c v,env.cells.lookup x=some c→h.IsCell c v→h'.IsCell c v) (l:lQ env h m x u):lQ env h' m x u:=l.imp_right fun ⟨a,c,e,q⟩=>⟨a,c,e,k c _ e q⟩
theorem Rep.fre (I:Rep X z) (n:z.h a=none):Fre X z a∧¬ Own z a:=by
 have no:∀ {P:Prop},(P→∃ o,z.h a=some o)→¬ P:=fun k p=>by obtain ⟨o,e⟩:=k p;rw [n] at e;cases e
 refine ⟨⟨?_,no I.th,no I.fth,no I.lth⟩,no fun o=>(I.oth o).2⟩
 cases q:z.G a with
 | none=>rfl
 | some o=>have:=I.gh a o q;rw [n] at this;cases this
theorem ww {h h':ϳ} (sl:∀ b o,h.get? b=some o→∃ sl,h'.get? b=some { o with slots:=sl }) (n:h.Ns a m):h'.Ns a m:=let ⟨o,es,ep,e,r⟩:=n;let ⟨_,q⟩:=sl a o e;⟨_,es,ep,q,r⟩
theorem fY {h h':ϳ} (sl:∀ b o,h.get? b=some o→∃ sl,h'.get? b=some { o with slots:=sl }) (n:h.IsCell c v):h'.IsCell c v:=let ⟨o,e,d⟩:=n;let ⟨_,q⟩:=sl c o e;⟨_,q,d⟩
theorem Rep.grw (I:Rep X z) (tk:X.tz≤s'.toks) (os:s'.os=z.s.os) (br:Ş s'.gens) (k:∀ b o,z.h b=some o→b ∉ frs X.fr→s'.heap.get? b=some o) (sl:∀ b o,z.h b=some o→∃ sl,s'.heap.get? b=some { o with slots:=sl })
 (gg:Sub z.G G') (gh:Sub G' s'.heap.get?) (gn:∀ a o,G' a=some o→z.G a=some o∨(Fre X z a∧¬ Own z a)):Rep X { z with G:=G',s:=s' }:=by
 have nn:∀ {a:Α},¬ (Fre X z a∧¬ Own z a)→z.G a=none→G' a=none:=fun {a} f n=>by
  cases q:G' a with
  | none=>rfl
  | some o'=>rcases gn a o' q with z | z;rw [n] at z;cases z;exact (f z).elim
 refine ⟨⟨I.md,I.fm,I.hd,fun b o e=>gg _ _ (I.bs b o e),gh,I.rl,I.rn,fun a m=>nn (fun f=>f.1.2.1 m) (I.rg a m),fun n o p h1 h2=>(I.ob n o p h1 h2).mono (ξ _) gg fun a ha o e=>k a o e fun m=>(I.ff a m).2 ⟨p,ο h2,ha⟩,I.fu.of_keeps fun b o e _=>let ⟨_,q⟩:=sl b o e;⟨_,q,rfl⟩,fun b m=>⟨nn (fun f=>f.1.2.2.1 m) (I.ff b m).1,(I.ff b m).2⟩,br,os.trans I.os,tk⟩,I.ok,?_,fun x c e=>let ⟨v,q⟩:=I.ce x c e;⟨v,fY sl q⟩,fun a l=>⟨nn (fun f=>f.1.2.2.2 l) (I.fl a l).1,(I.fl a l).2⟩,I.el,I.sl,fun i d n e=>let ⟨u,q,r⟩:=I.en i d n e;⟨u,q,r.mono (ξ _) gg⟩,fun i m=>?_,I.od⟩
 ·obtain ⟨m,hn,hl⟩:=I.lo
  exact ⟨m,ww sl hn,fun i x u h1 h2 h3=>dC (fun c v _ q=>fY sl q) (hl i x u h1 h2 h3)⟩
 ·obtain ⟨d,a,o,h1,h2,h3,r,f⟩:=I.eo i m
  exact ⟨d,a,o,h1,h2,h3,r.mono (ξ _) gg fun b hb o e=>k b o e (by rcases hb with rfl | rfl <;> exact f.2.2.1),nn (fun f=>f.2 ⟨i,m,h2⟩) f.1,f.2⟩
theorem Rep.grow (I:Rep X z) (g:Grw z G' s') (tk:X.tz≤s'.toks:=by first | assumption | exact HR.tk (by assumption) | exact HR.tk1 (by assumption) | exact (Rep.toHR (by assumption)).tk | exact (Rep.toHR (by assumption)).tk1 | exact HR.tk2 (Rep.toHR (by assumption)) | exact HR.tk3 (Rep.toHR (by assumption))):Rep X { z with G:=G',s:=s' }:=I.grw tk g.gr.os (by rw [g.gr.gs];exact I.br) (fun b o e _=>g.gr.k b o e) (fun b o e=>⟨o.slots,g.gr.k b o e⟩) g.gg g.gh fun a o e=>(g.gn a o e).imp_right I.fre
theorem Grw.stp (g:Grw z G' s'):Stp fr w z { z with G:=G',s:=s' }:=⟨ξ _,g.gg,fun a o e=>(g.gn a o e).imp_right .inl,fun _ m=>.inl m,fun a o e=>⟨o,g.gr.k a o e⟩,fun a o e _ _ _=>g.gr.k a o e,fun a o e _ _ _=>⟨o.slots,g.gr.k a o e⟩⟩
theorem Grw.ee (g:Grw z G' s'):Ee X z { z with G:=G',s:=s' }:=⟨g.stp,rfl,rfl,fun _ h=>h⟩
end
def Z.up (z:Z) (s':ν):Z:={ z with G:=fun a=>match z.h a with | none=>s'.heap.get? a | some _=>z.G a,s:=s' }
theorem fA {z:Z} {s':ν} (n:z.h a=none):(z.up s').G a=s'.heap.get? a:=by show (match z.h a with | none=>s'.heap.get? a | some _=>z.G a)=_;rw [n]
theorem b6 {z:Z} {s':ν} (I:Sub z.G z.h) (g:Gr z.s s'):Grw z (z.up s').G s':=by
 refine ⟨g,fun a o e=>?_,fun a o e=>?_,fun a o e=>?_⟩
 ·show (match z.h a with | none=>s'.heap.get? a | some _=>z.G a)=_
  rw [I a o e];exact e
 ·revert e
  show (match z.h a with | none=>s'.heap.get? a | some _=>z.G a)=_→_
  cases q:z.h a with
  | none=>exact fun e=>e
  | some u=>exact fun e=>g.k a o (I a o e)
 ·cases q:z.h a with
  | none=>exact .inr rfl
  | some u=>
    revert e
    show (match z.h a with | none=>s'.heap.get? a | some _=>z.G a)=_→_
    rw [q];exact .inl
theorem aw {z:Z} {s':ν} (I:Sub z.G z.h) (g:Gr z.s s'):Grw z z.G s':=⟨g,.refl _,fun a o e=>g.k a o (I a o e),fun _ _ e=>.inl e⟩
def km (z:Z) (p:Nat→Bool) (a:Α):Prop:=∃ i∈z.t.ow,p i=false∧z.σ[i]? = some (some (.ref a))
open Classical in
noncomputable def Z.rel (z:Z) (p:Nat→Bool):Z:={ z with t:=⟨z.t.env,z.t.ow.filter p,z.t.st⟩,G:=fun a=>if km z p a then z.h a else z.G a }
theorem gq {z:Z} (h:km z p a):(z.rel p).G a=z.h a:=ZZ h
theorem dF {z:Z} (h:¬ km z p a):(z.rel p).G a=z.G a:=ZY h
theorem jY {d:D} (e:toO d=some o) (r:ObR W ρ G h (a,b) o) (g:Sub G G') (q:G' a=h a):RD W ρ G' d (.ref a):=by
 cases d <;> cases e
 ·obtain ⟨o,vs,_,e,l,t⟩:=r;exact ⟨a,o,vs,rfl,q.trans e,l,t.mono (ξ _) g⟩
 ·obtain ⟨o,vs,_,m,e,l,n,t⟩:=r;exact ⟨a,o,vs,rfl,m,q.trans e,l,n,t.mono (ξ _) g⟩
theorem Rep.rel (I:Rep X z) (p:Nat→Bool):Rep X (z.rel p)∧Ee X z (z.rel p):=by
 have own:∀ {a},km z p a→Own z a:=fun ⟨i,m,_,e⟩=>⟨i,m,e⟩
 have gg:Sub z.G (z.rel p).G:=fun a o e=>by
  by_cases q:km z p a
  ·rw [(I.oth (own q)).1.1] at e;cases e
  ·rw [dF q];exact e
 have nn:∀ {a},¬ Own z a→z.G a=none→(z.rel p).G a=none:=fun n g=>by rw [dF fun q=>n (own q)];exact g
 refine ⟨⟨⟨I.md,I.fm,I.hd,fun b o e=>gg _ _ (I.bs b o e),fun a o e=>?_,I.rl,I.rn,fun a m=>nn (fun q=>(I.oth q).1.2.1 m) (I.rg a m),fun n o p h1 h2=>(I.ob n o p h1 h2).mono (ξ _) gg fun _ _ _ e=>e,I.fu,fun b m=>⟨nn (fun q=>(I.oth q).1.2.2.1 m) (I.ff b m).1,(I.ff b m).2⟩,I.br,I.os,I.tk⟩,I.ok,I.lo,I.ce,fun a l=>⟨nn (fun q=>(I.oth q).1.2.2.2 l) (I.fl a l).1,(I.fl a l).2⟩,I.el,I.sl,fun i d n e=>?_,fun i m=>?_,fun i j a m1 m2=>I.od i j a (ϔ.mp m1).1 (ϔ.mp m2).1⟩,⟨⟨ξ _,gg,fun a o e=>?_,fun _ m=>.inl m,fun a o e=>⟨o,e⟩,fun _ _ e _ _ _=>e,fun _ o e _ _ _=>⟨o.slots,e⟩⟩,rfl,rfl,fun i m=>(ϔ.mp m).1⟩⟩
 ·by_cases q:km z p a
  ·rw [gq q] at e;exact e
  ·rw [dF q] at e;exact I.gh a o e
 ·by_cases m:i∈z.t.ow
  ·have pf:p i=false:=by
    cases q:p i with
    | false=>rfl
    | true=>exact ZX (ϔ.mpr ⟨m,q⟩) n
   obtain ⟨d',a,o,h1,h2,h3,r,f⟩:=I.eo i m
   rw [show z.t.env[i]? = some (some d) from e] at h1;cases h1
   exact ⟨_,h2,jY h3 r gg (gq ⟨i,m,pf,h2⟩)⟩
  ·obtain ⟨u,q,r⟩:=I.en i d m e
   exact ⟨u,q,r.mono (ξ _) gg⟩
 ·obtain ⟨m1,m2⟩:=ϔ.mp m
  obtain ⟨d',a,o,h1,h2,h3,r,f⟩:=I.eo i m1
  refine ⟨d',a,o,h1,h2,h3,r.mono (ξ _) gg fun _ _ _ e=>e,?_,f.2⟩
  refine (dF fun ⟨j,mj,pj,ej⟩=>?_).trans f.1
  rw [I.od j i a mj m1 ej h2,m2] at pj;cases pj
 ·by_cases q:km z p a
  ·exact .inr (.inr (own q))
  ·rw [dF q] at e;exact .inl e
inductive Tr (h:ϳ) (a:Α) (cls:ζ) (dx:Option Α) (T:Α) (fl:ζ):Prop
 | mk (oe:_) (vs:_) (oT:_) (ts:_) (_:h.get? a=some oe) (_:(oe.cls=cls∧oe.dict=dx)) (_:oe.data = .fields vs) (_:vs[1]? = some (.ref T)) (_:T≠a) (_:h.get? T=some oT) (_:oT.data = .fields ts) (_:ts[3]? = some fl)
inductive Rw (h:ϳ) (a:Α) (cls:ζ) (dx:Option Α):Prop
 | mk (oe:_) (vs:_) (_:h.get? a=some oe) (_:(oe.cls=cls∧oe.dict=dx)) (_:oe.data = .fields vs) (_:vs[1]? = some .none)
inductive XI (W:Wd) (ρ:Rs) (G:Hp) (c:Nat) (l:List D) (cls:ζ) (dx:Option Α):Prop
 | mk (i:CI) (_:W.ci[c]? = some i) (_:W.what[c]? = some 2) (_:cls = .ref i.ad) (_:l.length≤i.nm.length) (_:(l = []∧dx=none)∨∃ d od vs,dx=some d∧G d=some od∧NsO od (i.nm.zip vs)∧RDs W ρ G l vs)
def XR (W:Wd) (z:Z) (c:Nat) (l:List D) (cls:ζ) (dx:Option Α):Prop:=XI W z.ρ z.G c l cls dx
def Nob (X:Cx) (z z':Z) (a:Α):Prop:=z.h a=none∧Fre X z' a∧¬ Own z' a
inductive XO (X:Cx) (z z':Z) (c:Nat) (l:List D) (e:ζ):Prop
 | mk (a:_) (cls:_) (dx:_) (_:e = .ref a) (_:XR X.W z' c l cls dx) (_:Nob X z z' a) (_:(Rw z'.s.heap a cls dx∨∃ T fl,Tr z'.s.heap a cls dx T fl∧(fl = .none∨∃ L,X.env.frame=some L∧fl=Ê L)∧Nob X z z' T))
theorem XO.less (h:XO X z1 z' c l e) (k:∀ a,z1.h a=none→z.h a=none):XO X z z' c l e:=by
 obtain ⟨a,cls,dx,e,r,n,h⟩:=h
 exact ⟨a,cls,dx,e,r,⟨k a n.1,n.2⟩,h.imp_right fun ⟨T,fl,t,q,n⟩=>⟨T,fl,t,q,k T n.1,n.2⟩⟩
section
variable {α β γ δ:Type} {X:Cx}
inductive Pe (X:Cx) (z:Z) (o:Out α) (R:Z→α→β→Prop) (u:β) (s':ν):Prop
 | mk (z':_) (d:_) (_:z'.s=s') (_:o = .ok d z'.t) (_:Ee X z z') (_:Rep X z') (_:R z' d u)
inductive Px (X:Cx) (z:Z) (o:Out α) (x:ζ) (s':ν):Prop
 | mk (z':_) (c:_) (l:_) (_:z'.s=s') (_:o = .exc c l z'.t) (_:Ee X z z') (_:Rep X z') (_:XO X z z' c l x)
abbrev Wp (X:Cx) (t:DD β) (z:Z) (o:Out α) (R:Z→α→β→Prop):Prop:=χ X.M X.A t (Pe X z o R) (Px X z o) z.s
def Jg (X:Cx) (t:DD β) (m:Sta→Out α) (R:Z→α→β→Prop):Prop:=∀ z,Rep X z→m z.t≠.bad→Wp X t z (m z.t) R
theorem Pe.less {z1:Z} {o:Out α} {R:Z→α→β→Prop} (x:Ee X z z1) (h:Pe X z1 o R u s'):Pe X z o R u s':=let ⟨z',d,e,q,y,J,r⟩:=h;⟨z',d,e,q,x.trans y,J,r⟩
theorem Px.less {z1:Z} {o:Out α} (x:Ee X z z1) (h:Px X z1 o u s'):Px X z o u s':=let ⟨z',c,l,e,q,y,r,n⟩:=h;⟨z',c,l,e,q,x.trans y,r,n.less fun _=>x.st.no⟩
theorem Px.map {o:Out α} {f:α→Sta→Out γ} (h:Px X z o u s'):Px X z (o.bind f) u s':=let ⟨z',c,l,e,q,y,J,r⟩:=h;⟨z',c,l,e,by rw [q];rfl,y,J,r⟩
theorem Wp.less {t:DD β} {z1:Z} {o:Out α} {R:Z→α→β→Prop} (x:Ee X z z1) (h:Wp X t z1 o R):χ X.M X.A t (Pe X z o R) (Px X z o) z1.s:=Κ h (fun _ _ h=>h.less x) fun _ _ h=>h.less x
theorem Jg.go {t:DD β} {m:Sta→Out α} {R:Z→α→β→Prop} {f:α→Sta→Out γ} {o:Out γ} {K:β→ν→Prop} (h:Jg X t m R) (x:Ee X z z1) (I:Rep X z1) (e:o=(m z1.t).bind f) (nb:o≠.bad)
 (k:∀ z2 d u,Ee X z1 z2→Ee X z z2→Rep X z2→R z2 d u→o=f d z2.t→K u z2.s):χ X.M X.A t K (Px X z o) z1.s:=by
 subst e
 refine Κ (h z1 I fun q=>nb (by rw [q];rfl)) (fun u s' ⟨z2,d,e,q,y,I1,r⟩=>?_) fun u s' h=>(h.less x).map
 subst e;exact k z2 d u y (x.trans y) I1 r (by rw [q];rfl)
theorem Jg.at {t:DD β} {m:Sta→Out α} {R:Z→α→β→Prop} {o:Out α} (h:Jg X t m R) (x:Ee X z z1) (I:Rep X z1) (e:o=m z1.t) (nb:o≠.bad):χ X.M X.A t (Pe X z o R) (Px X z o) z1.s:=by subst e;exact (h z1 I nb).less x
theorem bW {M:Dj} {A:Ϗ} {s:ν} {t:DD β} {Q:β→ν→Prop} {E:ζ→ν→Prop} {n:Nat} (h0:n≤s.toks) (h:χ M A t (fun a s'=>n≤s'.toks→Q a s') E s):χ M A t Q E s:=Κ (ϙ h0 h) (fun _ _ k=>k.2 k.1) fun _ _ k=>k.2
def Dn (X:Cx) (z:Z) (d:D) (u:ζ) (s':ν):Prop:=Gr z.s s'∧RD X.W z.ρ (z.up s').G d u
theorem Dn.pe (I:Rep X z) (h:Dn X z d u s') (tk:X.tz≤s'.toks:=by first | assumption | exact HR.tk (by assumption) | exact HR.tk1 (by assumption) | exact (Rep.toHR (by assumption)).tk | exact (Rep.toHR (by assumption)).tk1 | exact HR.tk2 (Rep.toHR (by assumption)) | exact HR.tk3 (Rep.toHR (by assumption))):Pe X z (.ok d z.t) (RV X.W br c) u s':=⟨z.up s',d,rfl,rfl,(b6 I.gh h.1).ee,I.grow (b6 I.gh h.1),.of h.2⟩
theorem Dn.flat {s':ν} (g:Gr z.s s') (h:∀ G,RD X.W z.ρ G d u):Dn X z d u s':=⟨g,h _⟩
theorem Dn.old (I:Rep X z) {s':ν} (g:Gr z.s s') (h:RD X.W z.ρ z.G d u):Dn X z d u s':=⟨g,h.mono (ξ _) (b6 I.gh g).gg⟩
theorem Dn.at (x:Ee X z0 z) (I:Rep X z) (e:o = .ok d z.t) (h:Dn X z d u s') (tk:X.tz≤s'.toks:=by first | assumption | exact HR.tk (by assumption) | exact HR.tk1 (by assumption) | exact (Rep.toHR (by assumption)).tk | exact (Rep.toHR (by assumption)).tk1 | exact HR.tk2 (Rep.toHR (by assumption)) | exact HR.tk3 (Rep.toHR (by assumption))):Pe X z0 o (RV X.W br c) u s':=e ▸ (h.pe I tk).less x
theorem cI {t:DD ζ} {o:Out D} (x:Ee X z0 z) (I:Rep X z) (e:o=Out.of z.t od) (nb:o≠.bad) (h:∀ d,od=some d→χ X.M X.A t (Dn X z d) (fun _ _=>False) z.s):χ X.M X.A t (Pe X z0 o (RV X.W br c)) (Px X z0 o) z.s:=by
 cases od with
 | none=>exact ZX e nb
 | some d=>exact Κ (ϙ I.tk (h d rfl)) (fun _ _ h=>h.2.at x I e h.1) fun _ _ z=>z.2.elim
end
theorem big (h:n≤100000):n≤ϟ:=ϫ h (by rw [ċ];decide)
theorem kH:∀ {ds es} {b},dk f ds es=some b→(∀ j (h1:j<ds.length) (h2:j<es.length),∃ c,f ds[j] es[j]=some c)∧b=(ĵ (min ds.length es.length)).all fun j=>(f (ds[j]?.getD .non) (es[j]?.getD .non)).getD false
 | [],es,b,h=>by cases h;exact ⟨fun j h=>ZX h (Ŧ _),by simp⟩
 | d :: ds,[],b,h=>by cases h;exact ⟨fun j _ h=>ZX h (Ŧ _),by simp⟩
 | d :: ds,e :: es,b,h=>by
   unfold dk at h
   cases q:f d e with
   | none=>rw [q] at h;cases h
   | some x=>
     rw [q] at h
     cases q2:dk f ds es with
     | none=>rw [q2] at h;cases h
     | some y=>
       rw [q2] at h
       cases h
       obtain ⟨i1,i2⟩:=kH q2
       refine ⟨fun j h1 h2=>?_,?_⟩
       ·cases j with
        | zero=>exact ⟨x,q⟩
        | succ j=>exact i1 j (ţ h1) (ţ h2)
       ·have m:min (d :: ds).length (e :: es).length=min ds.length es.length+1:=by simp only [Η];omega
        rw [m,List.range_succ_eq_map,List.all_cons,List.all_map,i2]
        simp only [Eh,D5,q]
        rfl
theorem y9 (f:sh d=1):∃ l,d = .tup l:=by cases d <;> first | exact ⟨_,rfl⟩ | cases f
theorem y8 (f:sh d=2):∃ l,d = .lst l:=by cases d <;> first | exact ⟨_,rfl⟩ | cases f
theorem wI (d:D):sh d<4:=by cases d <;> exact Ο rfl
theorem za:∀ x y:Fin 4,¬ (x.1=3∨y.1=3)→¬ (x.1=0∧y.1=0)→¬ x.1=y.1→(x.1=0∧(y.1=1∨y.1=2))∨((x.1=1∨x.1=2)∧y.1=0)∨(x.1=1∧y.1=2)∨(x.1=2∧y.1=1):=by decide +kernel
theorem qv (h:eq0 d e=some b):(sh d=0∧sh e=0∧b=eqf d e)∨(b=false∧((sh d=0∧(sh e=1∨sh e=2))∨((sh d=1∨sh d=2)∧sh e=0)∨(sh d=1∧sh e=2)∨(sh d=2∧sh e=1))):=by
 unfold eq0 at h
 split at h
 ·cases h
 ·rename_i h3
  split at h
  ·rename_i h0;cases h;exact .inl ⟨h0.1,h0.2,rfl⟩
  ·split at h
   ·cases h
   ·cases h
    refine .inr ⟨rfl,?_⟩
    rename_i h0 h1
    exact za ⟨sh d,wI d⟩ ⟨sh e,wI e⟩ h3 h0 h1
theorem pd (h:eqv (n+1) d e=some b):(∃ da db y,d = .tup da∧e = .tup db∧dk (eqv n) da db=some y∧b=(y && da.length == db.length)) ∨
 (∃ da db,d = .lst da∧e = .lst db∧((da.length=db.length∧dk (eqv n) da db=some b)∨(da.length≠db.length∧b=false)))∨eq0 d e=some b:=by
 cases d with
 | tup da=>cases e with
   | tup db=>
     obtain ⟨y,a,c⟩:=φ.mp (show (dk (eqv n) da db).map (· && da.length == db.length)=some b from h)
     exact .inl ⟨da,db,y,rfl,rfl,a,c.symm⟩
   | _=>exact .inr (.inr h)
 | lst da=>cases e with
   | lst db=>
     have h':(if da.length=db.length then dk (eqv n) da db else some false)=some b:=h
     split at h'
     ·rename_i z;exact .inr (.inl ⟨da,db,rfl,rfl,.inl ⟨z,h'⟩⟩)
     ·rename_i z;cases h';exact .inr (.inl ⟨da,db,rfl,rfl,.inr ⟨z,rfl⟩⟩)
   | _=>exact .inr (.inr h)
 | _=>exact .inr (.inr h)
open SeqAt
def E3 (A:Ϗ) (s:ν) (u v:ζ) (b:Bool):Prop:=EqAt A s u v b∧RcAt A s u v b∧RcNeAt A s u v (!b)
theorem tW (f1:sh d=0) (f2:sh e=0) (h1:RD W ρ G d u) (h2:RD W ρ G e v):(u=v→eqf d e=true)∧∀ A s,E3 A s u v (eqf d e):=by
 cases d with
 | non=>
   cases (show u=Ϛ from h1)
   cases e with
   | non=>cases (show v=Ϛ from h2);exact ⟨fun _=>rfl,fun A s=>⟨.same _,.none_none,.none_none⟩⟩
   | bl b=>cases (show v=ϩ b from h2);exact ⟨nofun,fun A s=>⟨.none_bool _,.none_bool _,.none_bool _⟩⟩
   | int b=>obtain ⟨t,rfl⟩:=(show ∃ t,v=Đ b t from h2);exact ⟨nofun,fun A s=>⟨.none_int _ _,.none_int _ _,.none_int _ _⟩⟩
   | str b=>obtain ⟨t,rfl⟩:=(show ∃ t,v=ĝ b t from h2);exact ⟨nofun,fun A s=>⟨.none_str _ _,.none_str _ _,.none_str _ _⟩⟩
   | _=>cases f2
 | bl a=>
   cases (show u=ϩ a from h1)
   cases e with
   | non=>cases (show v=Ϛ from h2);exact ⟨nofun,fun A s=>⟨.bool_none _,.bool_none _,.bool_none _⟩⟩
   | bl b=>cases (show v=ϩ b from h2);exact ⟨fun z=>by cases z;exact ZT a,fun A s=>⟨.bool_bool _ _,.bool_bool _ _,.bool_bool _ _⟩⟩
   | int b=>obtain ⟨t,rfl⟩:=(show ∃ t,v=Đ b t from h2);exact ⟨nofun,fun A s=>⟨.bool_int _ _ _,.bool_int _ _ _,.bool_int _ _ _⟩⟩
   | str b=>obtain ⟨t,rfl⟩:=(show ∃ t,v=ĝ b t from h2);exact ⟨nofun,fun A s=>⟨.bool_str _ _ _,.bool_str _ _ _,.bool_str _ _ _⟩⟩
   | _=>cases f2
 | int a=>
   obtain ⟨t,rfl⟩:=(show ∃ t,u=Đ a t from h1)
   cases e with
   | non=>cases (show v=Ϛ from h2);exact ⟨nofun,fun A s=>⟨.int_none _ _,.int_none _ _,.int_none _ _⟩⟩
   | bl b=>cases (show v=ϩ b from h2);exact ⟨nofun,fun A s=>⟨.int_bool _ _ _,.int_bool _ _ _,.int_bool _ _ _⟩⟩
   | int b=>obtain ⟨t,rfl⟩:=(show ∃ t,v=Đ b t from h2);exact ⟨fun z=>by cases z;exact ZT a,fun A s=>⟨.int_int _ _ _ _,.int_int _ _ _ _,.int_int _ _ _ _⟩⟩
   | str b=>obtain ⟨t,rfl⟩:=(show ∃ t,v=ĝ b t from h2);exact ⟨nofun,fun A s=>⟨.int_str _ _ _ _,.int_str _ _ _ _,.int_str _ _ _ _⟩⟩
   | _=>cases f2
 | str a=>
   obtain ⟨t,rfl⟩:=(show ∃ t,u=ĝ a t from h1)
   cases e with
   | non=>cases (show v=Ϛ from h2);exact ⟨nofun,fun A s=>⟨.str_none _ _,.str_none _ _,.str_none _ _⟩⟩
   | bl b=>cases (show v=ϩ b from h2);exact ⟨nofun,fun A s=>⟨.str_bool _ _ _,.str_bool _ _ _,.str_bool _ _ _⟩⟩
   | int b=>obtain ⟨t,rfl⟩:=(show ∃ t,v=Đ b t from h2);exact ⟨nofun,fun A s=>⟨.str_int _ _ _ _,.str_int _ _ _ _,.str_int _ _ _ _⟩⟩
   | str b=>obtain ⟨t,rfl⟩:=(show ∃ t,v=ĝ b t from h2);exact ⟨fun z=>by cases z;exact ZT a,fun A s=>⟨.str_str _ _ _ _,.str_str _ _ _ _,.str_str _ _ _ _⟩⟩
   | _=>cases f2
 | _=>cases f1
theorem jz {s:ν} (f:sh d=0) (h:RD W ρ G d u) (hu:A.units<ŭ):(∀ b,u≠.ref b)∧∀ b its,(s.heap.IsTuple b its∨s.heap.IsList b its)→E3 A s u (.ref b) false∧E3 A s (.ref b) u false:=by
 cases d with
 | non=>cases (show u=Ϛ from h);exact ⟨nofun,fun b its p=>p.elim (fun p=>⟨⟨.none_tuple p hu,.none_tuple p hu,.none_tuple p hu⟩,.tuple_none p hu,.tuple_none p hu,.tuple_none p hu⟩) fun p=>⟨⟨.none_list p hu,.none_list p hu,.none_list p hu⟩,.list_none p hu,.list_none p hu,.list_none p hu⟩⟩
 | bl k=>cases (show u=ϩ k from h);exact ⟨nofun,fun b its p=>p.elim (fun p=>⟨⟨.bool_tuple k p hu,.bool_tuple k p hu,.bool_tuple k p hu⟩,.tuple_bool k p hu,.tuple_bool k p hu,.tuple_bool k p hu⟩) fun p=>⟨⟨.bool_list k p hu,.bool_list k p hu,.bool_list k p hu⟩,.list_bool k p hu,.list_bool k p hu,.list_bool k p hu⟩⟩
 | int k=>obtain ⟨t,rfl⟩:=(show ∃ t,u=Đ k t from h);exact ⟨nofun,fun b its p=>p.elim (fun p=>⟨⟨.int_tuple k t p hu,.int_tuple k t p hu,.int_tuple k t p hu⟩,.tuple_int k t p hu,.tuple_int k t p hu,.tuple_int k t p hu⟩) fun p=>⟨⟨.int_list k t p hu,.int_list k t p hu,.int_list k t p hu⟩,.list_int k t p hu,.list_int k t p hu,.list_int k t p hu⟩⟩
 | str k=>obtain ⟨t,rfl⟩:=(show ∃ t,u=ĝ k t from h);exact ⟨nofun,fun b its p=>p.elim (fun p=>⟨⟨.str_tuple k t p hu,.str_tuple k t p hu,.str_tuple k t p hu⟩,.tuple_str k t p hu,.tuple_str k t p hu,.tuple_str k t p hu⟩) fun p=>⟨⟨.str_list k t p hu,.str_list k t p hu,.str_list k t p hu⟩,.list_str k t p hu,.list_str k t p hu,.list_str k t p hu⟩⟩
 | _=>cases f
theorem CR.fl (f:sh d=0) (h:CR W z d u):RD W z.ρ z.G d u:=by cases d <;> first | exact h | cases f
theorem tpt {h:ϳ} (e:h.get? a=some o) (t:TpO o l):h.IsTuple a l.toArray:=⟨o,e,t.1,t.2.1⟩
theorem lsl {h:ϳ} (e:h.get? a=some o) (t:LsO o l):h.IsList a l.toArray:=by obtain ⟨⟨n,rfl⟩,_⟩:=t;exact ⟨_,e,rfl,n,rfl⟩
theorem E3.refs (ne:l=b→k=true) (h:RcAt A s (.ref l) (.ref b) k) (h2:RcNeAt A s (.ref l) (.ref b) (!k)):E3 A s (.ref l) (.ref b) k:=by
 refine ⟨?_,h,h2⟩
 by_cases q:l=b
 ·subst q;rw [ne rfl];exact .same _
 ·exact .of_refs q h
theorem e3 (I:HR X z):∀ (n:Nat) {d e u v b},eqv n d e=some b→CR X.W z d u→CR X.W z e v→(u=v→b=true)∧∀ A,A.units+n+1<ŭ→E3 A z.s u v b:=by
 have low:∀ {d e u v b},eq0 d e=some b→CR X.W z d u→CR X.W z e v→(u=v→b=true)∧∀ A,A.units<ŭ→E3 A z.s u v b:=by
  intro d e u v b h h1 h2
  have it:∀ {d:D} {u:ζ},(sh d=1∨sh d=2)→CR X.W z d u→∃ a its,u = .ref a∧((sh d=1∧z.s.heap.IsTuple a its)∨(sh d=2∧z.s.heap.IsList a its)):=fun {d u} f h=>by
   rcases f with f | f
   ·obtain ⟨l,rfl⟩:=y9 f;obtain ⟨a,o,vs,rfl,e,t,_⟩:=h;exact ⟨a,_,rfl,.inl ⟨rfl,tpt (I.gh _ _ e) t⟩⟩
   ·obtain ⟨l,rfl⟩:=y8 f;obtain ⟨a,o,vs,rfl,e,t,_⟩:=h;exact ⟨a,_,rfl,.inr ⟨rfl,lsl e t⟩⟩
  rcases qv h with ⟨f1,f2,rfl⟩ | ⟨rfl,c⟩
  ·obtain ⟨p,q⟩:=tW f1 f2 (h1.fl f1) (h2.fl f2);exact ⟨p,fun A _=>q A _⟩
  ·rcases c with ⟨c1,c2⟩ | ⟨c1,c2⟩ | ⟨c1,c2⟩ | ⟨c1,c2⟩
   ·obtain ⟨a,its,rfl,w⟩:=it c2 h2
    have w:=w.imp DC DC
    exact ⟨fun q=>ZX q ((jz (s:=z.s) (A:={ }) c1 (h1.fl c1) (by decide)).1 a),fun A hu=>((jz c1 (h1.fl c1) hu).2 a its w).1⟩
   ·obtain ⟨a,its,rfl,w⟩:=it c1 h1
    have w:=w.imp DC DC
    exact ⟨fun q=>ZX q.symm ((jz (s:=z.s) (A:={ }) c2 (h2.fl c2) (by decide)).1 a),fun A hu=>((jz c2 (h2.fl c2) hu).2 a its w).2⟩
   ·obtain ⟨a,i1,rfl,w1⟩:=it (.inl c1) h1
    obtain ⟨b,i2,rfl,w2⟩:=it (.inr c2) h2
    have w1:=w1.resolve_right fun z=>by omega
    have w2:=w2.resolve_left fun z=>by omega
    exact ⟨fun q=>ZX (ĕ q).symm (ne_of_list_tuple w2.2 w1.2),fun A hu=>⟨.tuple_list w1.2 w2.2 hu,.tuple_list w1.2 w2.2 hu,.tuple_list w1.2 w2.2 hu⟩⟩
   ·obtain ⟨a,i1,rfl,w1⟩:=it (.inr c1) h1
    obtain ⟨b,i2,rfl,w2⟩:=it (.inl c2) h2
    have w1:=w1.resolve_left fun z=>by omega
    have w2:=w2.resolve_right fun z=>by omega
    exact ⟨fun q=>ZX (ĕ q) (ne_of_list_tuple w1.2 w2.2),fun A hu=>⟨.list_tuple w1.2 w2.2 hu,.list_tuple w1.2 w2.2 hu,.list_tuple w1.2 w2.2 hu⟩⟩
 intro n
 induction n with
 | zero=>intro d e u v b h h1 h2;obtain ⟨p,q⟩:=low h h1 h2;exact ⟨p,fun A hu=>q A (by omega)⟩
 | succ n ih=>
   intro d e u v b h h1 h2
   have items:∀ {da db:List D} {vs ws:List ζ} {y:Bool},dk (eqv n) da db=some y→RDs X.W z.ρ z.G da vs→RDs X.W z.ρ z.G db ws→(vs=ws→y=true)∧∃ f:Nat→Bool,(ĵ (min vs.toArray.size ws.toArray.size)).all f=y∧∀ A,A.units+n+1<ŭ→∀ j (h1:j<vs.toArray.size) (h2:j<ws.toArray.size),EqAt A z.s vs.toArray[j] ws.toArray[j] (f j):=by
    intro da db vs ws y q r1 r2
    obtain ⟨q1,q2⟩:=kH q
    have l3:=r1.len
    have l4:=r2.len
    have one:∀ j (h1:j<vs.length) (h2:j<ws.length),∃ c,(eqv n (da[j]?.getD .non) (db[j]?.getD .non)).getD false=c∧(vs[j]=ws[j]→c=true)∧∀ A,A.units+n+1<ŭ→EqAt A z.s vs[j] ws[j] c:=fun j h1 h2=>by
     have e1:=Ζ (l:=da) (i:=j) (by omega)
     have e2:=Ζ (l:=db) (i:=j) (by omega)
     obtain ⟨x1,f1,w1⟩:=r1.get e1
     obtain ⟨y1,f2,w2⟩:=r2.get e2
     rw [Ζ h1] at f1;rw [Ζ h2] at f2;cases f1;cases f2
     obtain ⟨c,hc⟩:=q1 j (by omega) (by omega)
     obtain ⟨p,q⟩:=ih hc (.of I w1) (.of I w2)
     exact ⟨c,by rw [e1,e2];simp only [D5,hc],p,fun A hu=>(q A hu).1⟩
    refine ⟨fun q=>?_,fun j=>(eqv n (da[j]?.getD .non) (db[j]?.getD .non)).getD false,?_,fun A hu j h1 h2=>?_⟩
    ·subst q
     rw [q2,ϓ]
     intro j hj
     have hj:=ű.mp hj
     obtain ⟨c,e,p,_⟩:=one j (by omega) (by omega)
     rw [e];exact p rfl
    ·rw [q2,Μ,Μ,← l3,← l4]
    ·rw [Μ] at h1 h2
     obtain ⟨c,e,_,p⟩:=one j h1 h2
     show EqAt A z.s vs[j] ws[j] ((eqv n (da[j]?.getD .non) (db[j]?.getD .non)).getD false)
     rw [e];exact p A hu
   rcases pd h with ⟨da,db,y,rfl,rfl,q,rfl⟩ | ⟨da,db,rfl,rfl,q⟩ | h
   ·obtain ⟨a,o,vs,rfl,t,to,r1⟩:=h1
    obtain ⟨a',o',ws,rfl,t',to',r2⟩:=h2
    obtain ⟨sm,f,val,its⟩:=items q r1 r2
    have l3:=r1.len
    have l4:=r2.len
    have same:a=a'→(y && da.length == db.length)=true:=fun z=>by
     subst z
     rw [t] at t';cases t'
     obtain ⟨n1,e1⟩:=to.2.1
     obtain ⟨n2,e2⟩:=to'.2.1
     rw [e1] at e2
     injection e2 with e2
     have e:vs=ws:=by simpa using ZS Gs e2
     rw [sm e,l3,l4,e];simp
    have lz:(vs.toArray.size == ws.toArray.size)=(da.length == db.length):=by rw [l3,l4];rfl
    refine ⟨fun z=>same (ĕ z),fun A hu=>.refs same ?_ ?_⟩
    ·rw [← val,← lz];exact .tuples (tpt (I.gh _ _ t) to) (tpt (I.gh _ _ t') to') (by omega) (its _ (show A.units+1+n+1<ŭ by omega))
    ·rw [← val,← lz];exact .tuples (tpt (I.gh _ _ t) to) (tpt (I.gh _ _ t') to') (by omega) (its _ (show A.units+1+n+1<ŭ by omega))
   ·obtain ⟨a,o,vs,rfl,t,to,r1⟩:=h1
    obtain ⟨a',o',ws,rfl,t',to',r2⟩:=h2
    have l3:=r1.len
    have l4:=r2.len
    have sv:a=a'→vs=ws:=fun z=>by
     subst z
     rw [t] at t';cases t'
     obtain ⟨⟨n1,rfl⟩,_⟩:=to
     obtain ⟨⟨n2,e2⟩,_⟩:=to'
     injection e2 with _ _ e2
     injection e2 with e2
     simpa using ZS Gs e2
    rcases q with ⟨hl,q⟩ | ⟨hl,rfl⟩
    ·obtain ⟨sm,f,val,its⟩:=items q r1 r2
     have m:min vs.toArray.size ws.toArray.size=vs.toArray.size:=by simp;omega
     rw [m] at val
     refine ⟨fun z=>sm (sv (ĕ z)),fun A hu=>.refs (fun z=>sm (sv z)) ?_ ?_⟩
     ·rw [← val];exact .lists (lsl t to) (lsl t' to') (by simp;omega) (by omega) (its _ (show A.units+1+n+1<ŭ by omega))
     ·rw [← val];exact .lists (lsl t to) (lsl t' to') (by simp;omega) (by omega) (its _ (show A.units+1+n+1<ŭ by omega))
    ·have ne:a=a'→false=true:=fun z=>by rw [sv z] at l3;omega
     exact ⟨fun z=>ne (ĕ z),fun A hu=>.refs ne (.lists_lengths (lsl t to) (lsl t' to') (by simp;omega) (by omega)) (.lists_lengths (lsl t to) (lsl t' to') (by simp;omega) (by omega))⟩
   ·obtain ⟨p,q⟩:=low h h1 h2;exact ⟨p,fun A hu=>q A (by omega)⟩
theorem m8:∀ {l} {b},inD d l=some b→(∀ j (h:j<l.length),∃ c,eqv 55 l[j] d=some c)∧b=l.any fun e=>(eqv 55 e d).getD false
 | [],b,h=>by cases h;exact ⟨fun j h=>ZX h (Ŧ _),rfl⟩
 | e :: r,b,h=>by
   unfold inD at h
   cases q:eqv 55 e d with
   | none=>rw [q] at h;cases h
   | some x=>
     rw [q] at h
     obtain ⟨y,q2,rfl⟩:=φ.mp h
     obtain ⟨i1,i2⟩:=m8 q2
     refine ⟨fun j h=>?_,by rw [List.any_cons,q,i2];rfl⟩
     cases j with
     | zero=>exact ⟨x,q⟩
     | succ j=>exact i1 j (ţ h)
theorem eD (I:HR X z) (hu:A.units+57<ŭ) (q:inD d l=some b) (r:RDs X.W z.ρ z.G l vs) (hd:CR X.W z d v):∃ e:ζ→Bool,(∀ y,y∈vs.toArray→EqAt A z.s y v (e y))∧vs.toArray.any e=b:=by
 obtain ⟨q1,q2⟩:=m8 q
 have l3:=r.len
 have eqs:∀ j (h1:j<vs.length) (h2:j<l.length),EqAt A z.s vs[j] v ((eqv 55 l[j] d).getD false):=fun j h1 h2=>by
  obtain ⟨x1,e1,w1⟩:=r.get (Ζ h2)
  rw [Ζ h1] at e1;cases e1
  obtain ⟨c,hc⟩:=q1 j h2
  rw [hc]
  exact ((e3 I 55 hc (.of I w1) hd).2 A (by omega)).1
 have cl:∀ y,Decidable (∃ j,∃ (h1:j<vs.length) (h2:j<l.length),vs[j]=y∧(eqv 55 l[j] d).getD false=true):=fun y=>Classical.propDecidable _
 refine ⟨fun y=>@decide _ (cl y),fun y hy=>?_,?_⟩
 ·rcases Classical.em (∃ j,∃ (h1:j<vs.length) (h2:j<l.length),vs[j]=y∧(eqv 55 l[j] d).getD false=true) with c | c
  ·obtain ⟨j,h1,h2,e,t⟩:=id c
   have w:=eqs j h1 h2
   rw [e,t] at w
   dsimp only
   rw [show @decide _ (cl y)=true from @ZW _ (cl y) c]
   exact w
  ·obtain ⟨j,h1,e⟩:=EK (by simpa using hy)
   have w:=eqs j h1 (by omega)
   have t:(eqv 55 l[j] d).getD false=false:=D8.mpr fun t=>c ⟨j,h1,by omega,e,t⟩
   rw [t,e] at w
   dsimp only
   rw [show @decide _ (cl y)=false from @ZV _ (cl y) c]
   exact w
 ·rw [q2,List.any_toArray,FJ,Ő,Ő]
  constructor
  ·rintro ⟨y,hy,t⟩
   obtain ⟨j,h1,h2,e,t⟩:=@of_decide_eq_true _ (cl _) t
   exact ⟨l[j],ğ h2,t⟩
  ·rintro ⟨e,he,t⟩
   obtain ⟨j,h2,rfl⟩:=EK he
   exact ⟨vs[j]'(by omega),ğ _,@ZW _ (cl _) ⟨j,by omega,h2,rfl,t⟩⟩
end L2.Ev
end
section
namespace HT
section
variable {prog:ϴ} {w:Û} {A:Ϗ} {E:ζ→ν→Prop} {s:ν}
theorem getItem_tuple_all {lo hi:Option Int} {Q:ζ→ν→Prop} (ht:IsTup s.heap t items) (hs:s.heap.IsSliceOf sl vl vu .none) (pl:D1 vl lo) (pu:D1 vu hi)
 (hw:sIx items.size 0 lo=0∧sIx items.size items.size hi=items.size) (h:Q (.ref t) s):χ (model prog w) A (DJ (.ref t) (.ref sl)) Q E s:=by
 obtain ⟨os,hos,hcs,hds⟩:=id hs
 have hTs:s.TypeIs (.ref sl) "slice":=⟨os,hos,hcs⟩
 unfold DJ
 try with_reducible refine Τ ?_
 first | refine ε (θ ?_) | skip
 refine ε (DG ht.typeIs (by decide) ?_)
 refine ε (Â (name:=Ϯ "__getitem__") ht.typeIs ã
  (Ð ã ht.typeIs FN ?_ (Ge _ _)))
 show χ _ _ (CM (.ref t) >>= _) _ _ s
 refine ε (EE ht ?_)
 refine ε (DF hTs ?_)
 rw [ZZ (by decide)]
 refine ε (cV hs pl pu ?_)
 have hyes:(((sIx items.size 0 lo:Nat):Int) == 0 && (1:Int) == 1 && (sIx items.size items.size hi - sIx items.size 0 lo) == items.size)=true:=by
  rw [hw.1,hw.2]
  simp
 show χ _ _ (if (((sIx items.size 0 lo:Nat):Int) == 0 && (1:Int) == 1 && (sIx items.size items.size hi - sIx items.size 0 lo) == items.size)=true then _ else _) _ _ s
 rw [ZZ hyes]
 show χ _ _ (CN (.ref t) >>= _) _ _ s
 refine ε ?_
 unfold CN
 refine ε (DF ht.typeIs (θ ?_))
 rw [ZZ (by decide)]
 refine ε (ŷ ?_)
 first
  | exact θ ⟨_,rfl,θ h⟩
  | exact ε (θ (θ ⟨_,rfl,θ h⟩))
  | exact ε (ε (θ (θ ⟨_,rfl,θ h⟩)))
end
end HT
namespace L2.Ev
abbrev NoE:ζ→ν→Prop:=fun _ _=>False
theorem aO {c:Prop} [Decidable c] {a d:α} (e:(if c then some a else none)=some d):c∧a=d:=by
 by_cases h:c
 ·rw [ZZ h] at e;exact ⟨h,Ϥ e⟩
 ·rw [ZY h] at e;cases e
section
variable {X:Cx} {z:Z}
theorem aL (z:Z):z.h z.s.heap.objs.size=none:=ϖ (Ω _)
theorem Dn.tok {n:Nat} (h:∀ W ρ G,RD W ρ G d u):Dn X z d u { z.s with toks:=n }:=⟨.tok,h ..⟩
theorem Dn.tup (I:Rep X z) (r:RDs X.W z.ρ z.G l vs) (g:Gr z.s s') (n:z.h a=none) (e:s'.heap.get? a=some o) (t:TpO o vs):Dn X z (.tup l) (.ref a) s':=
 ⟨g,a,o,vs,rfl,(fA n).trans e,t,r.mono (ξ _) (b6 I.gh g).gg⟩
theorem sT (hz:vs.length≤ϟ):TpO { cls:=.type "tuple",data:=.seq vs.toArray n } vs:=⟨rfl,⟨n,rfl⟩,hz,rfl⟩
theorem Dn.tupn (I:Rep X z) (r:RDs X.W z.ρ z.G l vs) (hz:vs.length≤ϟ) {n t:Nat}:Dn X z (.tup l) (.ref z.s.heap.objs.size) { z.s with heap:=z.s.heap.push { cls:=.type "tuple",data:=.seq vs.toArray n },toks:=t }:=
 .tup I r .push (aL z) (ψ _ rfl) (sT hz)
def Dw (X:Cx) (z:Z) (d:D) (u:ζ) (s':ν):Prop:=Gr z.s s'∧∃ a o,u = .ref a∧z.h a=none∧toO d=some o∧ObR X.W z.ρ z.G s'.heap.get? (a,a) o
theorem Dw.dn (I:Rep X z) (h:Dw X z d u s'):Dn X z d u s':=by
 obtain ⟨g,a,o,rfl,n,e,r⟩:=h
 exact ⟨g,jY e r (b6 I.gh g).gg (fA n)⟩
def FV (X:Cx) (z0 z:Z) (d:D) (u:ζ):Prop:=∃ a o,u = .ref a∧z0.h a=none∧toO d=some o∧ObR X.W z.ρ z.G z.h (a,a) o∧Fre X z a∧¬ Own z a
theorem Dw.pe (I:Rep X z) (h:Dw X z d u s') (tk:X.tz≤s'.toks:=by first | assumption | exact HR.tk (by assumption) | exact HR.tk1 (by assumption) | exact (Rep.toHR (by assumption)).tk | exact (Rep.toHR (by assumption)).tk1 | exact ϒ (by assumption)):Pe X z (.ok d z.t) (FV X z) u s':=by
 obtain ⟨g,a,o,rfl,n,e,r⟩:=h
 have f:=I.fre n
 exact ⟨{ z with s:=s' },d,rfl,rfl,(aw I.gh g).ee,I.grow (aw I.gh g) tk,a,o,rfl,n,e,r,f⟩
theorem Dw.lst (r:RDs X.W z.ρ z.G l vs) (g:Gr z.s s') (n:z.h a=none) (e:s'.heap.get? a=some { cls:=.type "list",data:=.seq vs.toArray k }) (hz:vs.length≤ϟ):Dw X z (.lst l) (.ref a) s':=⟨g,a,.lst l,rfl,n,rfl,_,vs,rfl,e,⟨⟨k,rfl⟩,hz⟩,r⟩
theorem Dw.lstn (r:RDs X.W z.ρ z.G l vs) (hz:vs.length≤ϟ) {n t:Nat}:Dw X z (.lst l) (.ref z.s.heap.objs.size) { z.s with heap:=z.s.heap.push { cls:=.type "list",data:=.seq vs.toArray n },toks:=t }:=.lst r .push (aL z) (ψ _ rfl) hz
def Op2 (X:Cx) (f:ζ→ζ→DD ζ) (g:D→D→Option D):Prop:=∀ z u v d1 d2 d,Rep X z→CR X.W z d1 u→CR X.W z d2 v→g d1 d2=some d→χ X.M X.A (f u v) (Dn X z d) NoE z.s
theorem AH (ho:o≠.add∧o≠.eq∧o≠.ne∧o≠.isin∧o≠.notin∧o≠.eq2) (e:opD o d1 d2=some d):∃ i j,d1 = .int i∧d2 = .int j∧opI o i j=some d:=by
 obtain ⟨n1,n2,n3,n4,n5,n6⟩:=ho
 unfold opD at e
 split at e
 ·exact ZX rfl n6
 ·exact ZX rfl n2
 ·exact ZX rfl n3
 ·exact ZX rfl n4
 ·exact ZX rfl n5
 ·split at e
  ·exact ⟨_,_,rfl,rfl,e⟩
  all_goals first | (cases e;done) | (rw [ZY n1] at e;cases e)
theorem jX {f:ζ→ζ→DD ζ} (ho:o≠.add∧o≠.eq∧o≠.ne∧o≠.isin∧o≠.notin∧o≠.eq2)
 (rule:∀ (i j:Int) (t u:Tok) (d:D) (s:ν) (Q:ζ→ν→Prop),opI o i j=some d→(∀ (v:ζ) (n:Nat),(∀ W ρ G,RD W ρ G d v)→Q v { s with toks:=n })→χ X.M X.A (f (.int i t) (.int j u)) Q NoE s):Op2 X f (opD o):=fun z u v d1 d2 d I h1 h2 e=>by
 obtain ⟨i,j,rfl,rfl,e2⟩:=AH ho e
 obtain ⟨t,rfl⟩:=h1
 obtain ⟨t',rfl⟩:=h2
 exact rule i j t t' d z.s _ e2 fun v n h=>.tok h
theorem yP:Op2 X (Ŋ .Sub) (opD .sub):=jX (by decide) fun _ _ _ _ _ _ _ e k=>by cases e;exact sub_int (k _ _ fun _ _ _=>⟨_,rfl⟩)
theorem yN:Op2 X (Ŋ .Mult) (opD .mul):=jX (by decide) fun _ _ _ _ _ _ _ e k=>by
 obtain ⟨c,rfl⟩:=aO e
 refine mul_int (k _ _ fun _ _ _=>⟨_,rfl⟩) ?_
 rcases c with h | ⟨h1,h2⟩
 ·exact wM.ok h
 ·exact mulOk_of_bits (m:=400) (n:=400) (intBits_le_iff.mpr h1) (intBits_le_iff.mpr h2) (by decide)
theorem vj:Op2 X (Ŋ .FloorDiv) (opD .fdiv):=jX (by decide) fun i j _ _ _ _ _ e k=>by
 obtain ⟨⟨h1,h2⟩,rfl⟩:=aO e
 refine floordiv_int (by omega) (by rw [Int.fdiv_eq_ediv_of_nonneg i (by omega)];exact k _ _ fun _ _ _=>⟨_,rfl⟩) (.inl (PyProof.noPylong_of_log2 ?_))
 have h:j.natAbs.log2<200:=(EJ (by omega)).2 (by omega)
 omega
theorem yM:Op2 X (Ŋ .Mod) (opD .mod):=jX (by decide) fun i j _ _ _ _ _ e k=>by
 obtain ⟨c,rfl⟩:=aO e
 exact mod_int' (by omega) (by rw [Int.fmod_eq_emod_of_nonneg i (by omega)];exact k _ _ fun _ _ _=>⟨_,rfl⟩)
theorem yO:Op2 X (Ŋ .Pow) (opD .pow):=jX (by decide) fun _ _ _ _ _ _ _ e k=>by
 obtain ⟨c,rfl⟩:=aO e;exact pow_int_small c.1 c.2.1 c.2.2 (k _ _ fun _ _ _=>⟨_,rfl⟩)
theorem Bj:Op2 X (Ú .Lt) (opD .lt):=jX (by decide) fun _ _ _ _ _ s _ e k=>by cases e;exact lt_int (k _ s.toks fun _ _ _=>rfl)
theorem Bh:Op2 X (Ú .LtE) (opD .le):=jX (by decide) fun _ _ _ _ _ s _ e k=>by cases e;exact le_int (k _ s.toks fun _ _ _=>rfl)
theorem Bf:Op2 X (Ú .Gt) (opD .gt):=jX (by decide) fun _ _ _ _ _ s _ e k=>by cases e;exact gt_int (k _ s.toks fun _ _ _=>rfl)
theorem Be:Op2 X (Ú .GtE) (opD .ge):=jX (by decide) fun _ _ _ _ _ s _ e k=>by cases e;exact ge_int (k _ s.toks fun _ _ _=>rfl)
theorem yL:Op2 X (Ŋ .Add) (opD .add):=fun z u v d1 d2 d I h1 h2 e=>by
 have chk:∀ {n:Nat} {a:D},kC n a=some d→n≤ϟ∧a=d:=fun e=>let ⟨c,q⟩:=aO e;⟨big c,q⟩
 cases d1 with
 | int i=>cases d2 with
   | int j=>cases e;obtain ⟨t,rfl⟩:=h1;obtain ⟨t',rfl⟩:=h2;exact add_int (.tok fun _ _ _=>⟨_,rfl⟩)
   | _=>cases e
 | str i=>cases d2 with
   | str j=>obtain ⟨hz,rfl⟩:=chk e;obtain ⟨t,rfl⟩:=h1;obtain ⟨t',rfl⟩:=h2;exact add_str (fun t' tk=>.tok fun _ _ _=>⟨_,rfl⟩) hz
   | _=>cases e
 | tup a=>cases d2 with
   | tup b=>
     obtain ⟨hz,rfl⟩:=chk e
     obtain ⟨p,o1,vs,rfl,e1,t1,r1⟩:=id h1
     obtain ⟨q,o2,ws,rfl,e2,t2,r2⟩:=id h2
     have l1:=r1.len
     have l2:=r2.len
     have k1:=tpt (I.gh _ _ e1) t1
     have k2:=tpt (I.gh _ _ e2) t2
     cases vs with
     | nil=>
       cases (show a = [] from Eg.mp l1)
       obtain ⟨⟨cls,dd,data,sl⟩,ho,hc,n,hd⟩:=id k1
       obtain ⟨⟨cls2,dd2,data2,sl2⟩,ho2,hc2,n2,hd2⟩:=id k2
       simp only at hc hd hc2 hd2
       subst hc hd hc2 hd2
       exact Fe ⟨_,ho,rfl⟩ ⟨_,ho2,rfl⟩ DZ EH Ō Ń (ľ _ _) (tuple_addW0 p q #[] ws.toArray n n2 dd dd2 sl sl2 rfl) ⟨ho,ho2,.old I .refl h2⟩
     | cons v0 vs=>
       refine HT.cat_tup k1 k2 (by simp) (fun w=>?_) (fun _=>.tupn I (r1.app r2) (by rw [ω];omega)) (by omega)
       subst w
       cases (show b = [] from Eg.mp l2)
       rw [ϕ]
       exact .old I .refl h1
   | _=>cases e
 | lst a=>cases d2 with
   | lst b=>
     obtain ⟨hz,rfl⟩:=chk e
     obtain ⟨p,o1,vs,rfl,e1,⟨⟨n1,rfl⟩,_⟩,r1⟩:=h1
     obtain ⟨q,o2,ws,rfl,e2,⟨⟨n2,rfl⟩,_⟩,r2⟩:=h2
     have l1:=r1.len
     have l2:=r2.len
     refine PySem.P.add_list e1 e2 ?_ (by rw [Μ,Μ];omega)
     rw [show vs.toArray ++ ws.toArray=(vs ++ ws).toArray by simp]
     exact (Dw.lstn (r1.app r2) (by rw [ω];omega)).dn I
   | _=>cases e
 | _=>cases e
end
end L2.Ev
end
section
namespace L2.Ev
open PyProof.Rows.LSm
section
variable {X:Cx} {z:Z}
theorem jL (e:bL d=some k) (h:CR W z d u):(bH P w).is k u=true:=by
 cases d with
 | int i=>cases e;obtain ⟨t,rfl⟩:=h;exact kX P w i t
 | str i=>cases e;obtain ⟨t,rfl⟩:=h;exact kY P w i t
 | _=>cases e
theorem DcO.of {h:ϳ} (e:h.get? a=some o) (d:DcO W o l):h.DictOf (bH W.P W.w) a l:=let ⟨es,ep,x,y,a,b,c,_⟩:=d;⟨o,es,ep,e,x,y,a,b,c⟩
theorem eZ:∀ {ks} {ds} {vs} {k:Key},ks.length=ds.length→RDs W ρ G ds vs→match cg ks ds k with | some d=>∃ v,D2 (ks.zip vs) k=some v∧RD W ρ G d v | none=>D2 (ks.zip vs) k=none
 | [],[],vs,k,_,_=>rfl
 | [],_ :: _,_,_,h,_=>by cases h
 | _ :: _,[],_,_,h,_=>by cases h
 | q :: ks,e :: ds,vs,k,h,r=>by
   obtain ⟨v,ws,rfl,r1,r2⟩:=r
   have ih:=eZ (k:=k) (ņ h) r2
   unfold cg
   by_cases c:q=k
   ·rw [ZZ c];exact ⟨v,by simp [D2,FF,c],r1⟩
   ·rw [ZY c]
    have n:D2 ((q :: ks).zip (v :: ws)) k=D2 (ks.zip ws) k:=by simp [D2,FF,c]
    rw [n];exact ih
theorem sY (hl:ks.length=ds.length) (r:RDs W ρ G ds vs) (e:cg ks ds k=some d):∃ v,D2 (ks.zip vs) k=some v∧RD W ρ G d v:=by have:=eZ (k:=k) hl r;rw [e] at this;exact this
theorem sX (hl:ks.length=ds.length) (r:RDs W ρ G ds vs):(D2 (ks.zip vs) k).isSome=(cg ks ds k).isSome:=by
 have:=eZ (k:=k) hl r
 cases q:cg ks ds k with
 | none=>rw [q] at this;rw [this];rfl
 | some d=>rw [q] at this;obtain ⟨v,e,_⟩:=this;rw [e];rfl
theorem i6 (h:eqT a b=some r):(∃ ks ds ls es,a = .dic ks ds∧b = .dic ls es∧∃ x,(ks.length=ls.length→qV ls es ks ds=some x)∧r=(ks.length == ls.length && x))∨eqv 55 a b=some r:=by
 unfold eqT at h
 split at h
 ·rename_i ks ds ls es
  refine .inl ⟨ks,ds,ls,es,rfl,rfl,?_⟩
  split at h
  ·rename_i c;exact ⟨r,fun _=>h,by simp [c]⟩
  ·rename_i c;cases h;exact ⟨false,fun z=>ZX z c,by simp⟩
 ·exact .inr h
theorem jI {A:Ϗ} (I:HR X z) (un:A.units+56<ŭ) (hl2:ls.length=es.length) (r2:RDs X.W z.ρ z.G es ws):∀ {ks ds vs r},ks.length=ds.length→RDs X.W z.ρ z.G ds vs→qV ls es ks ds=some r→PySem.W.KeqHits A z.s (ls.zip ws) (ks.zip vs) r
 | [],ds,vs,r,_,_,h=>by cases h;exact .nil
 | k :: ks,[],vs,r,hl,_,h=>by cases hl
 | k :: ks,d :: ds,vs,r,hl,r1,h=>by
   obtain ⟨v,vs,rfl,h1,h2⟩:=r1
   unfold qV at h
   have q:=eZ (k:=k) hl2 r2
   cases e:cg ls es k with
   | none=>rw [e] at h q;cases h;exact .miss q
   | some y=>
     rw [e] at h q
     obtain ⟨w,e1,e2⟩:=q
     dsimp only at h
     cases e3':eqv 55 d y with
     | none=>rw [e3'] at h;cases h
     | some x=>
       rw [e3'] at h
       obtain ⟨b,hb,rfl⟩:=φ.mp h
       exact .hit e1 (((e3 I 55 e3' (.of I h1) (.of I e2)).2 A (by omega)).1) (jI I un hl2 r2 (ņ hl) h2 hb)
theorem Bc:Op2 X (Ú .Eq) (opD .eq):=fun z u v d1 d2 d I h1 h2 e=>by
 obtain ⟨b,q,rfl⟩:=φ.mp (show (eqT d1 d2).map D.bl=some d from e)
 rcases i6 q with ⟨ks,ds,ls,es,rfl,rfl,x,q',rfl⟩ | q
 ·obtain ⟨a,o,vs,rfl,m,e1,c1,l1,r1⟩:=h1
  obtain ⟨a',o',ws,rfl,m',e2,c2,l2,r2⟩:=h2
  have n1:(ks.zip vs).length=ks.length:=by rw [Æ,← r1.len,l1,Ĳ]
  have n2:(ls.zip ws).length=ls.length:=by rw [Æ,← r2.len,l2,Ĳ]
  refine PySem.W.keq_eq m m' (c1.of e1) (c2.of e2) (by have:=I.ok.un;omega) (fun h=>jI I.toHR (by have:=I.ok.un;show X.A.units+1+56<_;omega) l2 r2 l1 r1 (q' (by rw [← n1,← n2];exact h))) (.tok fun _ _ _=>?_)
  rw [n1,n2];rfl
 ·exact ((e3 I.toHR 55 q h1 h2).2 X.A (by have:=I.ok.un;omega)).2.1 _ _ _ _ (.tok fun _ _ _=>rfl)
theorem Bl:Op2 X (Ú .NotEq) (opD .ne):=fun z u v d1 d2 d I h1 h2 e=>by
 obtain ⟨b,q,rfl⟩:=φ.mp (show (eqT d1 d2).map (fun x=>D.bl (!x))=some d from e)
 rcases i6 q with ⟨ks,ds,ls,es,rfl,rfl,x,q',rfl⟩ | q
 ·obtain ⟨a,o,vs,rfl,m,e1,c1,l1,r1⟩:=h1
  obtain ⟨a',o',ws,rfl,m',e2,c2,l2,r2⟩:=h2
  have n1:(ks.zip vs).length=ks.length:=by rw [Æ,← r1.len,l1,Ĳ]
  have n2:(ls.zip ws).length=ls.length:=by rw [Æ,← r2.len,l2,Ĳ]
  refine PySem.W.keq_ne m m' (c1.of e1) (c2.of e2) (by have:=I.ok.un;omega) (fun h=>jI I.toHR (by have:=I.ok.un;show X.A.units+1+56<_;omega) l2 r2 l1 r1 (q' (by rw [← n1,← n2];exact h))) (.tok fun _ _ _=>?_)
  rw [n1,n2];rfl
 ·exact ((e3 I.toHR 55 q h1 h2).2 X.A (by have:=I.ok.un;omega)).2.2 _ _ _ _ (.tok fun _ _ _=>rfl)
theorem Bg:Op2 X (Ú .In) (opD .isin):=fun z u v d1 d2 d I h1 h2 e=>by
 have un:X.A.in1.units+57<ŭ:=by have:=I.ok.un;show X.A.units+1+57<_;omega
 cases d2 with
 | str y=>cases d1 with
   | str x=>cases e;obtain ⟨t,rfl⟩:=h1;obtain ⟨t',rfl⟩:=h2;exact SB.contains (.tok fun _ _ _=>rfl)
   | _=>cases e
 | lst l=>
   obtain ⟨b,q,rfl⟩:=φ.mp (show (inD d1 l).map D.bl=some d from e)
   obtain ⟨a,o,vs,rfl,e1,t,r⟩:=h2
   obtain ⟨f,hf,rfl⟩:=eD I.toHR un q r h1
   exact SeqAt.in_listAt f (lsl e1 t) hf (.tok fun _ _ _=>rfl)
 | tup l=>
   obtain ⟨b,q,rfl⟩:=φ.mp (show (inD d1 l).map D.bl=some d from e)
   obtain ⟨a,o,vs,rfl,e1,t,r⟩:=h2
   obtain ⟨f,hf,rfl⟩:=eD I.toHR un q r h1
   exact SeqAt.in_tupleAt f (tpt (I.gh _ _ e1) t) hf (.tok fun _ _ _=>rfl)
 | dic ks l=>
   obtain ⟨k,q,rfl⟩:=φ.mp (show ((bL d1).map fun k=>D.bl (cg ks l k).isSome)=some d from e)
   obtain ⟨a,o,vs,rfl,m,e1,t,hl,r⟩:=h2
   exact wpAny_in_of (jL q h1) m (t.of e1).mapOf (by rw [sX hl r];exact .tok fun _ _ _=>rfl)
 | _=>cases e
theorem sx:Op2 X (Ú .NotIn) (opD .notin):=fun z u v d1 d2 d I h1 h2 e=>by
 have un:X.A.in1.units+57<ŭ:=by have:=I.ok.un;show X.A.units+1+57<_;omega
 cases d2 with
 | str y=>cases d1 with
   | str x=>cases e;obtain ⟨t,rfl⟩:=h1;obtain ⟨t',rfl⟩:=h2;exact SB.notContains (.tok fun _ _ _=>rfl)
   | _=>cases e
 | lst l=>
   obtain ⟨b,q,rfl⟩:=φ.mp (show (inD d1 l).map (fun x=>D.bl (!x))=some d from e)
   obtain ⟨a,o,vs,rfl,e1,t,r⟩:=h2
   obtain ⟨f,hf,rfl⟩:=eD I.toHR un q r h1
   exact SeqAt.notIn_listAt f (lsl e1 t) hf (.tok fun _ _ _=>rfl)
 | tup l=>
   obtain ⟨b,q,rfl⟩:=φ.mp (show (inD d1 l).map (fun x=>D.bl (!x))=some d from e)
   obtain ⟨a,o,vs,rfl,e1,t,r⟩:=h2
   obtain ⟨f,hf,rfl⟩:=eD I.toHR un q r h1
   exact SeqAt.notIn_tupleAt f (tpt (I.gh _ _ e1) t) hf (.tok fun _ _ _=>rfl)
 | dic ks l=>
   obtain ⟨k,q,rfl⟩:=φ.mp (show ((bL d1).map fun k=>D.bl (!(cg ks l k).isSome))=some d from e)
   obtain ⟨a,o,vs,rfl,m,e1,t,hl,r⟩:=h2
   exact wpAny_notIn_of (jL q h1) m (t.of e1).mapOf (by rw [sX hl r];exact .tok fun _ _ _=>rfl)
 | _=>cases e
def zu (X:Cx) (z:Z) (u i:ζ) (d:D):Prop:=∃ T id,Ew (.type T) "__getitem__" = pure (some (.builtin id))∧z.s.TypeIs u T∧χ X.M X.A (DJ u i) (Dn X z d) NoE z.s
theorem RDs.at (r:RDs W ρ G ds vs) (e:atI ds i=some d):∃ v,atI vs i=some v∧RD W ρ G d v:=by
 unfold atI at e ⊢
 rw [← r.len]
 cases q:ixN ds.length i with
 | none=>rw [q] at e;cases e
 | some j=>rw [q] at e;exact r.get e
theorem Cy {d1 d2:D} {u v:ζ} (I:Rep X z) (h1:CR X.W z d1 u) (h2:CR X.W z d2 v) (e:ixD d1 d2=some d):zu X z u v d:=by
 have hn:=jP
 cases d1 with
 | tup l=>cases d2 with
   | int i=>
     obtain ⟨a,o,vs,rfl,e1,t,r⟩:=h1
     obtain ⟨tk,rfl⟩:=h2
     obtain ⟨w,ew,rw'⟩:=r.at (show atI l i=some d from e)
     obtain ⟨j,g1,g2,g3,g4,g5⟩:=jv ew
     have p:=tpt (I.gh _ _ e1) t
     have hz:=t.2.2
     exact ⟨_,_,G7.lookup,⟨_,I.gh _ _ e1,t.1⟩,getItem_tuple (j:=j) p (by omega) (by omega) g1 (by simpa using g2) (.old I .refl rw')⟩
   | _=>cases e
 | lst l=>cases d2 with
   | int i=>
     obtain ⟨a,o,vs,rfl,e1,t,r⟩:=h1
     obtain ⟨tk,rfl⟩:=h2
     obtain ⟨w,ew,rw'⟩:=r.at (show atI l i=some d from e)
     obtain ⟨j,g1,g2,g3,g4,g5⟩:=jv ew
     have p:=lsl e1 t
     have hz:=t.2
     refine ⟨_,_,Gy.lookup,p.typeIs,?_⟩
     by_cases h0:0≤i
     ·have hj:i.toNat=j:=by rw [FC h0 g5] at g1;exact Ϥ g1
      exact wpAny_getItem_list p h0 (by omega) (by rw [hj];simpa using g2) (.old I .refl rw')
     ·have hj:(i+(vs.toArray.size:Int)).toNat=j:=by rw [Fd (by omega) g4] at g1;exact Ϥ g1
      exact wpAny_getItem_list_neg p (by omega) g4 (by omega) (by rw [hj];simpa using g2) (.old I .refl rw')
   | _=>cases e
 | str y=>cases d2 with
   | int i=>
     obtain ⟨hz,e⟩:y.length≤100000∧(atI y.cps.toList i).map (fun c=>D.str ⟨#[c]⟩)=some d:=by
      unfold ixD at e;dsimp only at e;split at e
      ·rename_i c;exact ⟨c,e⟩
      ·cases e
     obtain ⟨c,q,rfl⟩:=φ.mp e
     obtain ⟨t,rfl⟩:=h1
     obtain ⟨t',rfl⟩:=h2
     obtain ⟨j,g1,g2,g3,g4,g5⟩:=jv q
     have hl:y.cps.toList.length=y.length:=by simp [Str.length]
     rw [hl] at g1 g4 g5
     exact ⟨_,_,slot_str_getitem.lookup,G5 _ y t,getItem_str (c:=c) (by
      have e1:decide (i < -(2 ^ 63:Int))=false:=ZV (by omega)
      have e2:decide (i≥2 ^ 63)=false:=ZV (by omega)
      rw [e1,e2,Ň]) (by rw [g1];simpa using g2) (.tok fun _ _ _=>⟨_,rfl⟩)⟩
   | _=>cases e
 | dic ks l=>
   have e':((bL d2).bind fun k=>cg ks l k)=some d:=by cases d2 <;> exact e
   obtain ⟨k,q,e'⟩:=ϗ.mp e'
   obtain ⟨a,o,vs,rfl,m,e1,t,hl,r⟩:=h1
   obtain ⟨w,ew,rw'⟩:=sY hl r e'
   exact ⟨_,_,PySem.F.slot_dict_getitem.lookup,(t.of e1).typeIs,wpAny_getItem_of (jL q h2) (t.of e1).mapOf ew (.old I .tok rw')⟩
 | _=>cases e
theorem RDs.cut (r:RDs W ρ G ds vs) (lo hi):RDs W ρ G (o9 ds lo hi) ((vs.drop (HT.sIx vs.length 0 lo)).take (HT.sIx vs.length vs.length hi - HT.sIx vs.length 0 lo)):=by
 unfold o9
 rw [r.len]
 exact (r.drop _).take _
theorem CH {d1:D} {u vl vu:ζ} {lo hi:Option Int} (I:Rep X z) (h1:CR X.W z d1 u) (hs:z.s.heap.IsSliceOf sl vl vu .none) (pl:D1 vl lo) (pu:D1 vu hi) (e:slO d1 lo hi=some d):zu X z u (.ref sl) d:=by
 have cl:∀ (vs:List ζ),((vs.drop (HT.sIx vs.length 0 lo)).take (HT.sIx vs.length vs.length hi - HT.sIx vs.length 0 lo)).length≤vs.length:=fun vs=>by rw [Dm,Dp];omega
 cases d1 with
 | tup l=>
   cases e
   obtain ⟨a,o,vs,rfl,e1,t,r⟩:=id h1
   have p:=tpt (I.gh _ _ e1) t
   refine ⟨"tuple",_,G7.lookup,⟨_,I.gh _ _ e1,t.1⟩,?_⟩
   by_cases w:HT.sIx vs.length 0 lo=0∧HT.sIx vs.length vs.length hi=vs.length
   ·refine HT.getItem_tuple_all p hs pl pu w ?_
    have e:o9 l lo hi=l:=by
     unfold o9
     rw [r.len,w.1,w.2,GX,Ķ,← r.len,Dl]
    rw [e]
    exact .old I .refl h1
   ·exact HT.getItem_tuple_cut p hs pl pu w (.tupn I (r.cut lo hi) (ϫ (cl vs) t.2.2.1)) t.2.2.1
 | lst l=>
   cases e
   obtain ⟨a,o,vs,rfl,e1,t,r⟩:=h1
   refine ⟨"list",_,Gy.lookup,(lsl e1 t).typeIs,wpAny_getItem_list_slice (lsl e1 t) hs pl pu .none (by simp) ?_ (by rw [Μ];exact t.2)⟩
   rw [iP]
   exact (Dw.lstn (r.cut lo hi) (ϫ (cl vs) t.2)).dn I
 | str y=>
   obtain ⟨hz,rfl⟩:=aO (show (if y.length≤100000 then some (D.str (Dy y lo hi)) else none)=some d from e)
   obtain ⟨t,rfl⟩:=h1
   have fin:Nat.le (Dy y lo hi).length ϟ∧∀ t' k,Dn X z (.str (Dy y lo hi)) (.str (Dy y lo hi) t') { z.s with toks:=k }:=⟨ϫ (Txt.slice_le y _ _) (big hz),fun t' k=>.tok fun _ _ _=>⟨t',rfl⟩⟩
   refine ⟨"str",_,PySem.F.slot_str_getitem.lookup,G5 _ _ _,?_⟩
   cases pl <;> cases pu
   ·exact Ĝ (l:=none) (u:=none) (st:=none) hs rfl (ſ fin)
   ·exact Ĝ (l:=none) (u:=some (_,_)) (st:=none) hs rfl (ſ fin)
   ·exact Ĝ (l:=some (_,_)) (u:=none) (st:=none) hs rfl (ſ fin)
   ·exact Ĝ (l:=some (_,_)) (u:=some (_,_)) (st:=none) hs rfl (ſ fin)
 | _=>cases e
def Bi1 (X:Cx) (f:ζ) (b:Bi):Prop:=∀ z u x d,Rep X z→CR X.W z x u→fP b x=some d→χ X.M X.A (call f [u]) (Dn X z d) NoE z.s
def tD (X:Cx) (f:ζ) (b:Bi):Prop:=∀ z u x d,Rep X z→CR X.W z x u→fP b x=some d→χ X.M X.A (call f [u]) (Dw X z d) NoE z.s
theorem wT:Bi1 X (.builtin "len") .len:=fun z u x d I h e=>by
 have hn:=jP
 cases x with
 | tup l=>cases e;obtain ⟨a,o,vs,rfl,e1,t,r⟩:=h;have:=t.2.2;rw [r.len];exact len_tuple (tpt (I.gh _ _ e1) t) (by rw [Μ];omega) (.tok fun _ _ _=>⟨_,rfl⟩)
 | lst l=>cases e;obtain ⟨a,o,vs,rfl,e1,t,r⟩:=h;have:=t.2;rw [r.len];exact Calls.call_len_list (lsl e1 t) (by rw [Μ];omega) (.tok fun _ _ _=>⟨_,rfl⟩)
 | str y=>
   obtain ⟨hz,rfl⟩:=aO (show (if y.length≤100000 then some (D.int y.length) else none)=some d from e)
   obtain ⟨t,rfl⟩:=h;have:=big hz
   exact len_str (by omega) (.tok fun _ _ _=>⟨_,rfl⟩)
 | dic ks ds=>
   obtain ⟨hz,rfl⟩:=aO (show (if ks.length≤100000 then some (D.int ks.length) else none)=some d from e)
   obtain ⟨a,o,vs,rfl,m,e1,c1,l1,r1⟩:=h
   have n1:(ks.zip vs).length=ks.length:=by rw [Æ,← r1.len,l1,Ĳ]
   have:=big hz
   refine call_len_dict m (c1.of e1) (by rw [n1];omega) ?_
   rw [n1]
   exact .tok fun _ _ _=>⟨_,rfl⟩
 | _=>cases e
theorem p9:Bi1 X (.type "tuple") .tuple:=fun z u x d I h e=>by
 cases x with
 | tup l=>cases e;obtain ⟨a,o,vs,rfl,e1,t,r⟩:=id h;exact call_tuple_same (tpt (I.gh _ _ e1) t) (.old I .refl h)
 | lst l=>
   cases e
   obtain ⟨a,o,vs,rfl,e1,t,r⟩:=h
   refine call_tuple_list (lsl e1 t) (fun h' kp=>?_) (by rw [Μ];exact t.2)
   have nn:z.h h'.objs.size=none:=by
    cases q:z.h h'.objs.size with
    | none=>rfl
    | some o=>exact ZX (Ξ (kp _ o q)) (Ď _)
   exact .tup I r (.hp (t:=z.s.toks) fun b o e=>τ _ (kp b o e)) nn (ψ _ rfl) (sT t.2)
 | _=>cases e
theorem tO:tD X (.type "list") .list:=fun z u x d I h e=>by
 cases x with
 | tup l=>
   cases e
   obtain ⟨a,o,vs,rfl,e1,t,r⟩:=h
   obtain ⟨n,hd⟩:=t.2.1
   exact call_list_seq a (.inr rfl) (I.gh _ _ e1) t.1 hd (fun h' c' kp e=>.lst r (.hp (t:=z.s.toks) kp) (aL z) e t.2.2.1) (by rw [Μ];exact t.2.2.1)
 | lst l=>
   cases e
   obtain ⟨a,o,vs,rfl,e1,⟨⟨n,rfl⟩,hz⟩,r⟩:=h
   exact call_list_seq a (.inl rfl) e1 rfl rfl (fun h' c' kp e=>.lst r (.hp (t:=z.s.toks) kp) (aL z) e hz) (by rw [Μ];exact hz)
 | _=>cases e
theorem HR.sysm (I:HR X z):G6<z.s.heap.objs.size:=Nat.lt_trans (by decide) (I.md.glob.keeps fun b o e=>I.gh _ _ (I.bs b o e)).lt
theorem tN:tD X (.type "dict") .dict:=fun z u x d I h e=>by
 cases x with
 | dic ks l=>
   cases e
   obtain ⟨a,o,vs,rfl,m,e1,t,hl,r⟩:=h
   have hz:(ks.zip vs).length≤ϟ:=by obtain ⟨_,_,_,_,_,_,_,q⟩:=t;exact q
   refine kt_call_dict (knd:=bH X.W.P X.W.w) m (t.of e1) hz fun h' hd' sb=>?_
   obtain ⟨o',es,ep,e2,x,y,a1,a2,a3⟩:=hd'
   exact ⟨.hp (t:=z.s.toks) fun b o e=>(sb.2 b (ϝ (Ξ e))).trans (τ _ e),_,.dic ks l,rfl,aL z,rfl,o',vs,rfl,ZU.mpr (Î I.sysm),e2,⟨es,ep,x,y,a1,a2,a3,hz⟩,hl,r⟩
 | _=>cases e
theorem wQ:Bi1 X (.builtin "abs") .abs:=fun z u x d I h e=>by
 cases x with
 | int i=>cases e;obtain ⟨t,rfl⟩:=h;exact call_abs_int fun u tk=>.tok fun _ _ _=>⟨_,rfl⟩
 | _=>cases e
theorem wU:Bi1 X (.type "str") .str:=fun z u x d I h e=>by
 cases x with
 | int i=>obtain ⟨hz,rfl⟩:=aO (show (if i.natAbs.log2<1920 then some (D.str (Ϯ (toString i))) else none)=some d from e);obtain ⟨t,rfl⟩:=h;exact PySem.P.str_of_int hz (.tok fun _ _ _=>⟨_,rfl⟩)
 | str y=>cases e;obtain ⟨t,rfl⟩:=h;exact PySem.P.str_of_str (.old I .refl ⟨t,rfl⟩)
 | _=>cases e
theorem wS:Bi1 X (.type "int") .int:=fun z u x d I h e=>by
 cases x with
 | int i=>cases e;obtain ⟨t,rfl⟩:=h;exact call_int_int (.tok fun _ _ _=>⟨_,rfl⟩)
 | bl i=>cases e;cases (show u=ϩ i from h);exact call_int_bool (.tok fun _ _ _=>⟨_,rfl⟩)
 | str y=>
   obtain ⟨hz,e⟩:y.length≤640∧(FE y).map D.int=some d:=by
    unfold fP at e;dsimp only at e;split at e
    ·rename_i c;exact ⟨c,e⟩
    ·cases e
   obtain ⟨n,q,rfl⟩:=φ.mp e
   obtain ⟨t,rfl⟩:=h
   exact PySem.W.KIN.call_text q hz (.tok fun _ _ _=>⟨_,rfl⟩)
 | _=>cases e
theorem hZ:∀ {l ns vs},cY l=some ns→RDs W ρ G l vs→D6 vs ns
 | [],ns,vs,e,r=>by cases e;cases (show vs = [] from r);exact .nil
 | d :: l,ns,vs,e,r=>by
   cases d with
   | int b=>
     obtain ⟨cs,q,rfl⟩:=φ.mp (show (cY l).map (b :: ·)=some ns from e)
     obtain ⟨v,r',rfl,⟨t,rfl⟩,tl⟩:=r
     exact .cons b t (hZ q tl)
   | _=>cases e
def Bi2 (X:Cx) (f:ζ) (b:Bi):Prop:=∀ z u v x y d,Rep X z→CR X.W z x u→CR X.W z y v→wP b x y=some d→χ X.M X.A (call f [u,v]) (Dn X z d) NoE z.s
def tyN:Bi→String
 | .isTup=>"tuple" | .isStr=>"str" | .isBool=>"bool" | .isInt=>"int" | .isDic=>"dict" | _=>"list"
theorem zH (hb:b = .isTup∨b = .isStr∨b = .isBool∨b = .isInt∨b = .isLst∨b = .isDic) {u:ζ} (I:Rep X z) (h:CR X.W z x u) (e:fP b x=some d):χ X.M X.A (call (.builtin "isinstance") [u,.type (tyN b)]) (Dn X z d) NoE z.s:=by
 have kin:X.K.In z.s.heap:=I.md.kin.keeps fun b o e=>I.gh _ _ (I.bs b o e)
 have go:∀ {tn:String},fP b x=(Fi [] (.type tn) (.type (tyN b))).map D.bl→(∀ v,Fi [] (.type tn) (.type (tyN b))=some v→(∀ n,Dn X z (.bl v) (.bool v) { z.s with toks:=n })→χ X.M X.A (call (.builtin "isinstance") [u,.type (tyN b)]) (Dn X z (.bl v)) NoE z.s)→χ X.M X.A (call (.builtin "isinstance") [u,.type (tyN b)]) (Dn X z d) NoE z.s:=fun q k=>by
  rw [q] at e
  obtain ⟨v,e1,rfl⟩:=φ.mp e
  exact k v e1 fun n=>.tok fun _ _ _=>rfl
 cases x with
 | non=>cases (show u=Ϛ from h);exact go (tn:="NoneType") (by rcases hb with rfl | rfl | rfl | rfl | rfl | rfl <;> kernel_rfl) fun v q k=>ô PySem.W.kitx_none kin Ŝ q (fun z=>nomatch z) k
 | bl y=>cases (show u=ϩ y from h);exact go (tn:="bool") (by rcases hb with rfl | rfl | rfl | rfl | rfl | rfl <;> kernel_rfl) fun v q k=>ô PySem.W.kitx_bool kin Ŝ q (fun z=>nomatch z) k
 | int y=>obtain ⟨t,rfl⟩:=(show ∃ t,u=Đ y t from h);exact go (tn:="int") (by rcases hb with rfl | rfl | rfl | rfl | rfl | rfl <;> kernel_rfl) fun v q k=>ô PySem.W.kitx_int kin Ŝ q (fun z=>nomatch z) k
 | str y=>obtain ⟨t,rfl⟩:=(show ∃ t,u=ĝ y t from h);exact go (tn:="str") (by rcases hb with rfl | rfl | rfl | rfl | rfl | rfl <;> kernel_rfl) fun v q k=>ô PySem.W.kitx_str kin Ŝ q (fun z=>nomatch z) k
 | tup l=>obtain ⟨a,o,vs,rfl,e1,t,r⟩:=h;exact go (tn:="tuple") (by rcases hb with rfl | rfl | rfl | rfl | rfl | rfl <;> kernel_rfl) fun v q k=>ô PySem.W.kitx_tuple kin ⟨o,I.gh _ _ e1,t.1⟩ q (fun z=>nomatch z) k
 | lst l=>obtain ⟨a,o,vs,rfl,e1,⟨⟨n,rfl⟩,_⟩,r⟩:=h;exact go (tn:="list") (by rcases hb with rfl | rfl | rfl | rfl | rfl | rfl <;> kernel_rfl) fun v q k=>ô PySem.W.kitx_list kin ⟨_,e1,rfl⟩ q (fun z=>nomatch z) k
 | dic ks l=>obtain ⟨a,o,vs,rfl,m,e1,⟨_,_,c,_⟩,hl,r⟩:=h;exact go (tn:="dict") (by rcases hb with rfl | rfl | rfl | rfl | rfl | rfl <;> kernel_rfl) fun v q k=>ô PySem.W.kitx_dict kin ⟨o,e1,c.1⟩ q (fun z=>nomatch z) k
 | _=>rcases hb with rfl | rfl | rfl | rfl | rfl | rfl <;> cases e
end
end L2.Ev
end
section
namespace L2.Ev
def toB (d:D) (s:Sta):Out Bool:=match d with | .bl b=>.ok b s | _=>.bad
def RT (_:Z) (b c:Bool):Prop:=c=b
def RVs (W:Wd) (br:Bool):E→Z→List D→List ζ→Prop
 | .cons a r,z,d :: ds,u :: us=>RV W br a z d u∧RVs W br r z ds us
 | .nil,_,[],[]=>True
 | _,_,_,_=>False
def LE (X:Cx) (e:Λ) (c:E):Prop:=∀ br,Jg X (eval e X.env) (X.ev br c) (RV X.W br c)
def LF (X:Cx) (e:Λ) (c:E):Prop:=∀ z,Rep X z→X.ev false c z.t≠.bad→Wp X (eval e X.env) z (X.ev false c z.t) (FV X z)
def LT (X:Cx) (e:Λ) (c:E):Prop:=Jg X (Ga e X.env (eval e X.env)) (fun t=>(X.ev true c t).bind toB) RT
def LW (X:Cx) (e:Λ) (c:E):Prop:=∀ wh,Jg X (Ga e X.env wh) (fun t=>(X.ev true c t).bind toB) RT
def LA (X:Cx) (es:List Λ) (c:E):Prop:=∀ br pos,Jg X (spliced (Ϻ pos (Δ es X.env))) (X.evs br c) (RVs X.W br c)
theorem aq (x:Out α) (f:α→Sta→Out β) (g:β→Sta→Out γ):(x.bind f).bind g=x.bind fun a s=>(f a s).bind g:=by cases x <;> rfl
theorem Br (h:RB X.W z (.bl b) u) (I:Rep X z):u = .bool b:=(h.cr0 I:RD X.W z.ρ z.G (.bl b) u)
section
variable {X:Cx} {z z0 z1:Z} {br:Bool}
theorem Rep.bk (I:HR X z):∀ b o,X.base.get? b=some o→z.s.heap.get? b=some o:=fun b o e=>I.gh _ _ (I.bs b o e)
theorem HR.kin (I:HR X z):X.K.In z.s.heap:=I.md.kin.keeps (Rep.bk I)
theorem bT {i:Nat} {x:μ} {Q:ζ→ν→Prop} {E:ζ→ν→Prop} (I:Rep X z) (hN:X.N[i]? = some x) (hv:Vis X.env.scope x) (e:z.σ[i]? = some (some u)) (q:Q u z.s) (hd:(x == ("__debug__":μ))=false) (hc:(x == ("__classdict__":μ))=false):χ X.M X.A (eval (.Name x pos) X.env) Q E z.s:=by
 obtain ⟨m,hn,hl⟩:=I.lo
 rcases hl i x u hN e hv with ⟨hk,hm⟩ | ⟨hk,c,hc',hcell⟩
 ·exact G3 (wpAny_loadName_local I.ok.kd hk hn hm q) hd
 ·rcases hk with hk | hk
  ·exact G3 (wpAny_loadName_cell I.ok.kd hk hc' hcell q) hd
  ·exact G3 (wpAny_loadName_free I.ok.kd hk hc' hcell q hc) hd
theorem Rep.slot {i:Nat} {d:D} (I:Rep X z) (e:z.t.env[i]? = some (some d)):∃ u,z.σ[i]? = some (some u)∧RB X.W z d u:=by
 by_cases m:i∈z.t.ow
 ·obtain ⟨d',a,o,h1,h2,_⟩:=I.eo i m
  exact ⟨_,h2,.inr ⟨i,m,h2,e⟩⟩
 ·obtain ⟨u,q,r⟩:=I.en i d m e
  exact ⟨u,q,.inl r⟩
theorem ye {i:Nat} {x:μ} (hN:X.N[i]? = some x) (hv:Vis X.env.scope x) (hd:(x == ("__debug__":μ))=false) (hc:(x == ("__classdict__":μ))=false):LE X (.Name x pos) (.v i):=fun br z I nb=>by
 have en:∃ d,z.t.env[i]? = some (some d):=by
  cases q:z.t.env[i]? with
  | none=>exact ZX (show X.ev br (.v i) z.t = .bad by show (match z.t.env[i]? with | some (some d)=>Out.ok d (if br then z.t else un z.t i) | _=>.bad)=_;rw [q]) nb
  | some o=>cases o with
    | none=>exact ZX (show X.ev br (.v i) z.t = .bad by show (match z.t.env[i]? with | some (some d)=>Out.ok d (if br then z.t else un z.t i) | _=>.bad)=_;rw [q]) nb
    | some d=>exact ⟨d,rfl⟩
 obtain ⟨d,q⟩:=en
 have e:X.ev br (.v i) z.t = .ok d (if br then z.t else un z.t i):=by show (match z.t.env[i]? with | some (some d)=>Out.ok d (if br then z.t else un z.t i) | _=>.bad)=_;rw [q]
 obtain ⟨u,q1,r⟩:=I.slot q
 rw [e]
 refine bT I hN hv q1 ?_ hd hc
 cases br with
 | true=>
   refine ⟨z,d,rfl,rfl,.refl,I,?_⟩
   by_cases m:i∈z.t.ow
   ·exact .inr ⟨rfl,i,rfl,m,q1,q⟩
   ·obtain ⟨u',q2,r2⟩:=I.en i d m q
    rw [q1] at q2;cases q2;exact .inl r2
 | false=>
   obtain ⟨I2,x2⟩:=I.rel (fun j=>j != i)
   refine ⟨z.rel fun j=>j != i,d,rfl,rfl,x2,I2,?_⟩
   obtain ⟨u',q2,r2⟩:=I2.en i d (fun m=>by simp [Z.rel] at m) q
   rw [show z.σ[i]? = some (some u') from q2] at q1;cases q1;exact .inl r2
theorem ux (h:∀ z,χ X.M X.A (eval e X.env) (Dn X z d) NoE z.s):LE X e (.c d):=fun br z I nb=>Κ (ϙ I.tk (h z)) (fun _ _ k=>k.2.pe I k.1) fun _ _ z=>z.2.elim
theorem vU:LE X (.Constant .none j pos) (.c .non):=ux fun _=>Ť (.tok fun _ _ _=>rfl)
theorem Ae:LE X (.Constant (.bool b) j pos) (.c (.bl b)):=ux fun _=>Constant_bool (.tok fun _ _ _=>rfl)
theorem vT:LE X (.Constant (.int i) j pos) (.c (.int i)):=ux fun _=>G4 (.tok fun _ _ _=>⟨_,rfl⟩)
theorem vV:LE X (.Constant (.str x) j pos) (.c (.str x)):=ux fun _=>ö (.tok fun _ _ _=>⟨_,rfl⟩)
def Gl (X:Cx) (x:μ):Prop:=X.env.kindOf x=some .globalImplicit
theorem bz {Q:ζ→ν→Prop} {E:ζ→ν→Prop} (I:Rep X z) (hg:Gl X x) (hm:X.mg x=some u) (h:Q u z.s) (hd:(x == ("__debug__":μ))=false):χ X.M X.A (eval (.Name x pos) X.env) Q E z.s:=
 DR I.ok.kd hg (Calls.loadGlobal_global (by rw [I.ok.gl];exact I.md.glob.keeps (Rep.bk I.toHR)) hm h) hd
theorem xQ {Q:ζ→ν→Prop} {E:ζ→ν→Prop} (I:Rep X z) (hg:Gl X x) (hm:X.mg x=none) (hv:ġ x=some u) (h:Q u z.s) (hn:x≠"__name__") (hd:(x == ("__debug__":μ))=false):χ X.M X.A (eval (.Name x pos) X.env) Q E z.s:=by
 obtain ⟨mb,h1,h2⟩:=I.md.blt
 exact DR I.ok.kd hg (Calls.loadGlobal_builtin (by rw [I.ok.gl];exact I.md.glob.keeps (Rep.bk I.toHR)) hm (by rw [I.ok.bl];exact h1.keeps (Rep.bk I.toHR)) ((h2 x hn).trans hv) h) hd
def ba (K:υ):L2.Bk.Dk→ζ→Bool
 | .str x,v=>(match v with | .str y _=>decide (y=x) | _=>false)
 | .int i,v=>(match v with | .int j _=>decide (j=i) | _=>false)
 | .bl b,v=>(match v with | .bool c=>decide (c=b) | _=>false)
 | .non,v=>(match v with | .none=>true | _=>false)
 | .tup ds,v=>(match v with
   | .ref a=>(match K.lookup a with
     | some o=>o.cls == .type "tuple" && o.dict.isNone && (match o.data with | .seq its _=>decide (its.size≤1000) && lookDs K ds its.toList | _=>false)
     | none=>false)
   | _=>false)
where lookDs (K:υ):List L2.Bk.Dk→List ζ→Bool
 | [],vs=>vs.isEmpty
 | d :: ds,vs=>(match vs with | v :: r=>ba K d v && lookDs K ds r | []=>false)
mutual
theorem sH {K:υ} {G:Hp} (k:∀ a o,K.lookup a=some o→G a=some o):∀ d v,ba K d v=true→RD W ρ G (toD d) v
 | .str x,v,h=>by cases v <;> simp only [ba] at h <;> first | cases h | exact ⟨_,by rw [of_decide_eq_true h]⟩
 | .int x,v,h=>by cases v <;> simp only [ba] at h <;> first | cases h | exact ⟨_,by rw [of_decide_eq_true h]⟩
 | .bl x,v,h=>by cases v <;> simp only [ba] at h <;> first | cases h | exact (by rw [of_decide_eq_true h];rfl)
 | .non,v,h=>by cases v <;> simp only [ba] at h <;> first | exact (rfl:RD W ρ G .non .none) | cases h
 | .tup ds,v,h=>by
   cases v with
   | ref a=>
     simp only [ba] at h
     cases q:K.lookup a with
     | none=>rw [q] at h;cases h
     | some o=>
       rw [q] at h
       dsimp only at h
       rw [Χ] at h
       rw [Χ] at h
       obtain ⟨⟨h1,h3⟩,h2⟩:=h
       cases qd:o.data with
       | seq its n=>
         rw [qd] at h2
         dsimp only at h2
         rw [Χ] at h2
         have hz:its.size≤1000:=of_decide_eq_true h2.1
         exact ⟨a,o,its.toList,rfl,k a o q,⟨by simpa using h1,⟨n,by simpa using qd⟩,(by rw [ż,ċ];omega),by simpa using h3⟩,oj k ds _ h2.2⟩
       | _=>rw [qd] at h2;cases h2
   | _=>simp [ba] at h
theorem oj {K:υ} {G:Hp} (k:∀ a o,K.lookup a=some o→G a=some o):∀ ds vs,ba.lookDs K ds vs=true→RDs W ρ G (toD.toDs ds) vs
 | [],vs,h=>by cases vs with
   | nil=>exact rfl
   | cons _ _=>simp [ba.lookDs] at h
 | d :: ds,vs,h=>by cases vs with
   | nil=>simp [ba.lookDs] at h
   | cons v r=>
     simp only [ba.lookDs,Χ] at h
     exact .cons (sH k d v h.1) (oj k ds r h.2)
end
theorem HR.top (I:HR X z) (h:ba X.K d u=true):RD X.W z.ρ z.G (toD d) u:=sH (fun a o e=>I.bs a o (I.md.kin a o e)) d u h
theorem CB {j:Nat} (hg:Gl X x) (hm:X.mg x=some u) (hd:(x == ("__debug__":μ))=false) (e:X.Γ.gl[j]? = some d) (h:ba X.K d u=true):LE X (.Name x pos) (.g j):=fun br z I nb=>by
 have q:X.ev br (.g j) z.t = .ok (toD d) z.t:=by show Out.of z.t (X.Γ.gl[j]?.map toD)=_;rw [e];rfl
 rw [q]
 exact bz I hg hm ⟨z,toD d,rfl,rfl,.refl,I,.of (I.toHR.top h)⟩ hd
theorem AQ {o:Op} (ho:Op2 X (Ŋ op) (opD o)) (ha:LE X ea a) (hb:LE X eb b):LE X (.BinOp ea op eb pos) (.op o a b):=fun br z I nb=>
 wpAny_BinOp ((ha true).go .refl I rfl nb fun z1 x u y1 x1 I1 r1 e1=>(hb true).go x1 I1 e1 nb fun z2 y v y2 x2 I2 r2 e2=>cI x2 I2 e2 nb fun d q=>ho z2 u v _ _ d I2 ((r1.rb.st y2 I2).cr I2) (r2.rb.cr I2) q)
theorem xV {o:Op} (ho:Op2 X (Ú op) (opD o)) (ha:LE X ea a) (hb:LE X eb b) (hm:ð op eb=false):LE X (.Compare ea [op] [eb] pos) (.op o a b):=fun br z I nb=>
 CU ((ha true).go .refl I rfl nb fun z1 x u y1 x1 I1 r1 e1=>(hb true).go x1 I1 e1 nb fun z2 y v y2 x2 I2 r2 e2=>cI x2 I2 e2 nb fun d q=>ho z2 u v _ _ d I2 ((r1.rb.st y2 I2).cr I2) (r2.rb.cr I2) q) hm
theorem Dn.tru {o:Out Bool} {s':ν} (x:Ee X z0 z) (I:Rep X z) (e:o=(Out.ok d z.t).bind toB) (nb:o≠.bad) (h:Dn X z d u s') (tk:X.tz≤s'.toks:=by first | assumption | exact HR.tk (by assumption) | exact HR.tk1 (by assumption) | exact (Rep.toHR (by assumption)).tk | exact (Rep.toHR (by assumption)).tk1 | exact ϒ (by assumption)):χ X.M X.A (truthy u) (Pe X z0 o RT) (Px X z0 o) s':=by
 cases d with
 | bl b=>
   cases (show u=ϩ b from h.2)
   exact ϵ ⟨z.up s',b,rfl,e,x.trans (b6 I.gh h.1).ee,I.grow (b6 I.gh h.1) tk,rfl⟩
 | _=>exact ZX e nb
theorem yx {o:Op} (ho:Op2 X (Ú op) (opD o)) (ha:LE X ea a) (hb:LE X eb b) (hm:ð op eb=false):LT X (.Compare ea [op] [eb] pos) (.op o a b):=fun z I nb=>
 Ħ ((ha true).go .refl I (aq ..) nb fun z1 x u y1 x1 I1 r1 e1=>(hb true).go x1 I1 (e1.trans (aq ..)) nb fun z2 y v y2 x2 I2 r2 e2=>by
  cases q:opD o (look z2.t.st x) (look z2.t.st y) with
  | none=>rw [q] at e2;exact ZX e2 nb
  | some d=>rw [q] at e2;exact Κ (ϙ I2.tk (ho z2 u v _ _ d I2 ((r1.rb.st y2 I2).cr I2) (r2.rb.cr I2) q)) (fun c s' k=>k.2.tru x2 I2 e2 nb k.1) fun _ _ z=>z.2.elim) hm
theorem jV (I:Rep X z) (h:RB X.W z d u):(u == Ϛ)=kP d:=by
 rcases h with h | ⟨i,m,e1,e2⟩
 ·cases d with
  | non=>cases (show u=_ from h);rfl
  | bl b=>cases (show u=_ from h);rfl
  | int b=>obtain ⟨t,rfl⟩:=h;rfl
  | str b=>obtain ⟨t,rfl⟩:=h;rfl
  | tup l=>obtain ⟨a,_,_,rfl,_⟩:=h;rfl
  | lst l=>obtain ⟨a,_,_,rfl,_⟩:=h;rfl
  | dic k l=>obtain ⟨a,_,_,rfl,_⟩:=h;rfl
  | ins c l=>obtain ⟨a,_,_,rfl,_⟩:=h;rfl
  | ref n=>obtain ⟨a,_,rfl⟩:=h;rfl
 ·obtain ⟨d',a,o,h1,h2,h3,_⟩:=I.eo i m
  rw [e1] at h2;cases h2
  rw [e2] at h1;cases h1
  cases d <;> first | rfl | cases h3
theorem dK (b:Bool) {z:Z}:Dn X z (.bl b) (.bool b) z.s:=.tok (n:=z.s.toks) fun _ _ _=>rfl
theorem xY (ha:LE X ea a) (h1:ð .Is (.Constant .none j pos')=false):LE X (.Compare ea [.Is] [.Constant .none j pos'] pos) (.isN a):=fun br z I nb=>
 CU ((ha true).go .refl I rfl nb fun z1 x u y1 x1 I1 r1 e1=>Ť (is_none_gen (by rw [jV I1 r1.rb];exact (dK _).at x1 I1 e1))) h1
theorem uz (ha:LE X ea a) (h1:ð .IsNot (.Constant .none j pos')=false):LE X (.Compare ea [.IsNot] [.Constant .none j pos'] pos) (.isNN a):=fun br z I nb=>
 CU ((ha true).go .refl I rfl nb fun z1 x u y1 x1 I1 r1 e1=>Ť (isnot_none_gen (by rw [jV I1 r1.rb];exact (dK _).at x1 I1 e1))) h1
theorem yy (ha:LE X ea a) (h1:ð .Is (.Constant .none j pos')=false):LT X (.Compare ea [.Is] [.Constant .none j pos'] pos) (.isN a):=fun z I nb=>
 Ħ ((ha true).go .refl I (aq ..) nb fun z1 x u y1 x1 I1 r1 e1=>Ť (is_none_gen (by rw [jV I1 r1.rb];exact (dK _).tru x1 I1 e1 nb))) h1
theorem uY (ha:LE X ea a) (h1:ð .IsNot (.Constant .none j pos')=false):LT X (.Compare ea [.IsNot] [.Constant .none j pos'] pos) (.isNN a):=fun z I nb=>
 Ħ ((ha true).go .refl I (aq ..) nb fun z1 x u y1 x1 I1 r1 e1=>Ť (isnot_none_gen (by rw [jV I1 r1.rb];exact (dK _).tru x1 I1 e1 nb))) h1
theorem ya (ha:LE X ea a):LE X (.UnaryOp .USub ea pos) (.neg a):=fun br z I nb=>
 UnaryOp_ ((ha true).go .refl I rfl nb fun z1 x u y1 x1 I1 r1 e1=>by
  cases x with
  | int i=>obtain ⟨t,rfl⟩:=(r1.rb.cr0 I1:CR X.W z1 (.int i) u);exact neg_int ((Dn.tok fun _ _ _=>⟨_,rfl⟩:Dn X z1 (.int (-i)) _ _).at x1 I1 e1)
  | _=>exact ZX e1 nb)
theorem yc (ha:LE X ea a):LE X (.UnaryOp .Not ea pos) (.not a):=fun br z I nb=>
 UnaryOp_ ((ha true).go .refl I rfl nb fun z1 x u y1 x1 I1 r1 e1=>by
  cases x with
  | bl b=>cases Br r1.rb I1;exact not_of (ϵ ((dK _).at x1 I1 e1))
  | _=>exact ZX e1 nb)
theorem xR (ha:LE X ea a) (hb:LE X (.BoolOp .And (eb :: r) pos) b):LE X (.BoolOp .And (ea :: eb :: r) pos) (.and a b):=fun br z I nb=>
 BoolOp_and ((ha false).go .refl I rfl nb fun z1 x u y1 x1 I1 r1 e1=>by
  cases x with
  | bl c=>
    cases (show u=ϩ c from r1.rd)
    refine ϵ ?_
    cases c with
    | true=>exact Κ ((hb false).at x1 I1 e1 nb) (fun u s' ⟨z',d,e,q,y,I',r⟩=>⟨z',d,e,q,y,I',.of r.rd⟩) fun _ _ h=>h
    | false=>exact (dK _).at x1 I1 e1
  | _=>exact ZX e1 nb)
theorem wp (h:LW X e c):LT X e c:=h _
theorem u5 (ha:LT X ea a):LW X (.BoolOp .And [ea] pos) a:=fun wh z I nb=>isTrue_and (thn (ha z I nb) fun c s1 e=>by
 cases c with
 | true=>exact isTrue_and_nil e
 | false=>exact e)
theorem yB (ha:LT X ea a):LW X (.BoolOp .Or [ea] pos) a:=fun wh z I nb=>isTrue_or (thn (ha z I nb) fun c s1 e=>by
 cases c with
 | false=>exact isTrue_or_nil e
 | true=>exact e)
theorem RT.pe (x:Ee X z0 z) (I:Rep X z) (e:o = .ok b z.t):Pe X z0 o RT b z.s:=⟨z,b,rfl,e,x,I,rfl⟩
theorem tB (x:Out D) (f:Bool→Sta→Out β):(x.bind toB).bind f=x.bind fun d s=>match d with | .bl b=>f b s | _=>.bad:=by
 cases x with
 | ok d s=>cases d <;> rfl
 | _=>rfl
theorem yA (ha:LT X ea a) (hb:LW X (.BoolOp .And (eb :: r) pos) b):LW X (.BoolOp .And (ea :: eb :: r) pos) (.tand a b):=fun wh z I nb=>by
 have e:(X.ev true (.tand a b) z.t).bind toB=((X.ev true a z.t).bind toB).bind fun c s=>if c then (X.ev true b s).bind toB else .ok false s:=by
  rw [tB];show Out.bind (Out.bind _ _) _=_;rw [aq];congr 1;funext d s
  cases d <;> first | rfl | (rename_i c;cases c <;> rfl)
 refine isTrue_and (ha.go .refl I e nb fun z1 c u y1 x1 I1 r1 e1=>?_)
 cases (show u=c from r1)
 cases c with
 | true=>exact (hb wh).at x1 I1 e1 nb
 | false=>exact RT.pe x1 I1 e1
theorem AV (ha:LT X ea a) (hb:LW X (.BoolOp .Or (eb :: r) pos) b):LW X (.BoolOp .Or (ea :: eb :: r) pos) (.tor a b):=fun wh z I nb=>by
 have e:(X.ev true (.tor a b) z.t).bind toB=((X.ev true a z.t).bind toB).bind fun c s=>if c then .ok true s else (X.ev true b s).bind toB:=by
  rw [tB];show Out.bind (Out.bind _ _) _=_;rw [aq];congr 1;funext d s
  cases d <;> first | rfl | (rename_i c;cases c <;> rfl)
 refine isTrue_or (ha.go .refl I e nb fun z1 c u y1 x1 I1 r1 e1=>?_)
 cases (show u=c from r1)
 cases c with
 | false=>exact (hb wh).at x1 I1 e1 nb
 | true=>exact RT.pe x1 I1 e1
theorem yz (ha:LT X ea a):LT X (.UnaryOp .Not ea pos) (.tnot a):=fun z I nb=>by
 have e:(X.ev true (.tnot a) z.t).bind toB=((X.ev true a z.t).bind toB).bind fun c s=>.ok (!c) s:=by
  rw [tB];show Out.bind (Out.bind _ _) _=_;rw [aq];congr 1;funext d s
  cases d <;> rfl
 exact isTrue_not (ha.go .refl I e nb fun z1 c u y1 x1 I1 r1 e1=>by
  cases (show u=c from r1)
  exact RT.pe x1 I1 e1)
theorem xZ (hc:LT X ec c) (ha:LE X ea a) (hb:LE X eb b):LE X (.IfExp ec ea eb pos) (.ite c a b):=fun br z I nb=>by
 have e:X.ev br (.ite c a b) z.t=((X.ev true c z.t).bind toB).bind fun c s=>if c then X.ev false a s else X.ev false b s:=by
  rw [tB];show Out.bind _ _=_;congr 1;funext d s
  cases d <;> first | rfl | (rename_i c;cases c <;> rfl)
 refine wpAny_IfExp (hc.go .refl I e nb fun z1 c u y1 x1 I1 r1 e1=>?_)
 cases (show u=c from r1)
 cases c with
 | true=>exact Κ ((ha false).at x1 I1 e1 nb) (fun u s' ⟨z',d,e,q,y,I',r⟩=>⟨z',d,e,q,y,I',.of r.rd⟩) fun _ _ h=>h
 | false=>exact Κ ((hb false).at x1 I1 e1 nb) (fun u s' ⟨z',d,e,q,y,I',r⟩=>⟨z',d,e,q,y,I',.of r.rd⟩) fun _ _ h=>h
theorem BF {d:D} {u:ζ} (I:Rep X z) (h:CR X.W z d u) (e:vB d=some b):χ X.M X.A (truthy u) (fun c s'=>c=b∧Gr z.s s') NoE z.s:=by
 have hl:=jP
 cases d with
 | non=>cases e;cases (show u=_ from h);exact truthy_none ⟨rfl,.refl⟩
 | bl c=>cases e;cases (show u=_ from h);exact ϵ ⟨rfl,.refl⟩
 | int i=>cases e;obtain ⟨t,rfl⟩:=h;exact PySem.P.truthy_int ⟨rfl,.refl⟩
 | tup l=>
   cases e;obtain ⟨a,o,vs,rfl,e1,t,r⟩:=h;have:=t.2.2
   refine truthy_tuple (tpt (I.gh _ _ e1) t) (by rw [Μ];omega) ⟨?_,.tok⟩
   have:=r.len;cases l <;> cases vs <;> first | rfl | cases this
 | lst l=>
   cases e;obtain ⟨a,o,vs,rfl,e1,t,r⟩:=h;have:=t.2
   refine wpAny_truthy_list (lsl e1 t) (by rw [Μ];omega) ⟨?_,.tok⟩
   have:=r.len;cases l <;> cases vs <;> first | rfl | cases this
 | _=>cases e
theorem AU (ha:LE X ea a) (he:∀ whole,Ga ea X.env whole=(do let v ← whole;ř ea.pos;holding [v] (truthy v))):LT X ea (.tv a):=fun z I nb=>
 isTrue_plain ((ha true).go .refl I (aq ..) nb fun z1 x u y1 x1 I1 r1 e1=>by
  cases q:vB (look z1.t.st x) with
  | none=>rw [q] at e1;exact ZX e1 nb
  | some b=>
    rw [q] at e1
    refine Κ (ϙ I1.tk (BF I1 (r1.rb.cr I1) q)) (fun c s' ⟨tk,h,g⟩=>?_) fun _ _ z=>z.2.elim
    subst h
    exact ⟨z1.up s',c,rfl,e1,x1.trans (b6 I1.gh g).ee,I1.grow (b6 I1.gh g) tk,rfl⟩) (he _)
theorem rJ {o p:Op} (ho:Op2 X (Ú op) (opD o)) (hp:Op2 X (Ú op') (opD p)) (ha:LE X ea a) (hb:LE X eb b) (hc:LE X ec c) (hm:GU [op,op'] [eb,ec]=false):LE X (.Compare ea [op,op'] [eb,ec] pos) (.chain o p a b c):=fun br z I nb=>
 Compare_chain ((ha true).go .refl I rfl nb fun z1 x u y1 x1 I1 r1 e1=>chain_link ((hb true).go x1 I1 e1 nb fun z2 y v y2 x2 I2 r2 e2=>by
  cases q:opD o (look z2.t.st x) (look z2.t.st y) with
  | none=>rw [q] at e2;exact ZX e2 nb
  | some d=>
    rw [q] at e2
    refine Κ (ϙ I2.tk (ho z2 u v _ _ d I2 ((r1.rb.st y2 I2).cr I2) (r2.rb.cr I2) q)) (fun w s' ⟨tk,k⟩=>?_) fun _ _ z=>z.2.elim
    cases d with
    | bl t=>
      cases (show w=ϩ t from k.2)
      have g:=b6 I2.gh k.1
      refine ϵ ?_
      cases t with
      | false=>exact ite_ff (k.at x2 I2 e2)
      | true=>exact ite_tt (chain_last ((hc true).go (x2.trans g.ee) (I2.grow g) e2 nb fun z4 w' v' y4 x4 I4 r4 e4=>cI x4 I4 e4 nb fun d q=>hp z4 v v' _ _ d I4 (((r2.rb.st g.ee (I2.grow g)).st y4 I4).cr I4) (r4.rb.cr I4) q))
    | _=>exact ZX e2 nb)) hm
end
section
variable {X:Cx} {z z0 z1:Z} {br:Bool}
def jt (b:Λ):Prop:=∀ o i,subscripted b false o i=operate [o,i] (DJ o i)
theorem AO (ha:LE X ea a) (hb:LE X eb b) (hs:jt eb):LE X (.Subscript ea eb pos) (.ix a b):=fun br z I nb=>
 Gf ((ha true).go .refl I rfl nb fun z1 x u y1 x1 I1 r1 e1=>(hb true).go x1 I1 e1 nb fun z2 y v y2 x2 I2 r2 e2=>cI x2 I2 e2 nb fun d q=>by
  obtain ⟨T,id,h1,h2,h3⟩:=Cy I2 ((r1.rb.st y2 I2).cr I2) (r2.rb.cr0 I2) q
  exact tail_any h2 h1 h3 (hs _ _))
def Cx.prt (X:Cx) (c:E) (s:Sta):Out (Option Int):=if bG c then .ok none s else (X.ev true c s).bind toI
def LO (X:Cx) (e:Option Λ) (c:E):Prop:=Jg X (evalPart e X.env) (X.prt c) fun _ o u=>D1 u o
theorem uM:LO X none .nil:=fun z I nb=>by rw [evalPart_none];exact θ ⟨z,none,rfl,rfl,.refl,I,.none⟩
theorem uN (n:bG a=false) (ha:LE X ea a):LO X (some ea) a:=fun z I nb=>by
 rw [evalPart_some]
 have e:X.prt a z.t=(X.ev true a z.t).bind toI:=by unfold Cx.prt;rw [n];rfl
 refine (ha true).go .refl I e nb fun z1 x u y1 x1 I1 r1 e1=>?_
 cases x with
 | int i=>obtain ⟨t,rfl⟩:=(r1.rb.cr0 I1:CR X.W z1 (.int i) u);exact ⟨z1,some i,rfl,e1,x1,I1,.int i t⟩
 | _=>exact ZX e1 nb
theorem CR.grow {s':ν} (g:Grw z G' s'):∀ {d},CR W z d u→CR W { z with G:=G',s:=s' } d u
 | .lst _,⟨a,o,vs,e,q,t,r⟩=>⟨a,o,vs,e,g.gr.k _ _ q,t,r.mono (ξ _) g.gg⟩
 | .dic _ _,⟨a,o,vs,e,m,q,t,l,r⟩=>⟨a,o,vs,e,m,g.gr.k _ _ q,t,l,r.mono (ξ _) g.gg⟩
 | .non,h=>h
 | .bl _,h=>h
 | .int _,h=>h
 | .str _,h=>h
 | .tup _,h=>RD.mono (ξ _) g.gg h
 | .ins _ _,h=>RD.mono (ξ _) g.gg h
 | .ref _,h=>RD.mono (ξ _) g.gg h
theorem AR {lo hi:Option Λ} {pos p2:Ϫ} (ha:LE X ea a) (hl:LO X lo l) (hh:LO X hi h):LE X (.Subscript ea (.Slice lo hi none p2) pos) (.sl a l h):=fun br z I nb=>
 Gf ((ha true).go (f:=fun x s=>(X.prt l s).bind fun l s=>(X.prt h s).bind fun h s=>.of s (slO (look s.st x) l h)) .refl I rfl nb fun z1 x u y1 x1 I1 r1 e1=>wpAny_Slice (hl.go x1 I1 e1 nb fun z2 lo' vl y2 x2 I2 r2 e2=>hh.go x2 I2 e2 nb fun z3 hi' vu y3 x3 I3 r3 e3=>by
  rw [evalPart_none]
  refine θ ?_
  have g:=aw (s':={ z3.s with heap:=z3.s.heap.push { cls:=.type "slice",data:=.fields #[vl,vu,.none] } }) I3.gh (.push (t:=z3.s.toks))
  have I4:=I3.grow g
  show χ X.M X.A (subscriptTail ea (.Slice lo hi none p2) u (.ref z3.s.heap.objs.size)) _ _ { z3.s with heap:=z3.s.heap.push { cls:=.type "slice",data:=.fields #[vl,vu,.none] } }
  refine cI (z:={ z3 with s:=_ }) (x3.trans g.ee) I4 e3 nb fun d q=>?_
  obtain ⟨T,id,h1,h2,h3⟩:=CH I4 ((((r1.rb.st y2 I2).st y3 I3).cr I3).grow g) (GG ..) r2 r3 q
  exact tail_any (ops:=[.ref z3.s.heap.objs.size,u]) h2 h1 h3 (by with_unfolding_all rfl)))
theorem RVs.ind {W:Wd} {br:Bool} {z:Z} {P:E→List D→List ζ→Prop} (hn:P .nil [] []) (hc:∀ a r d ds u us,RV W br a z d u→RVs W br r z ds us→P r ds us→P (.cons a r) (d :: ds) (u :: us)) (c:E):∀ ds us,RVs W br c z ds us→P c ds us:=by
 induction c with
 | nil=>
   intro ds us h
   cases ds with
   | nil=>cases us with
     | nil=>exact hn
     | cons _ _=>exact ŗ h
   | cons _ _=>exact ŗ h
 | cons a r _ ih=>
   intro ds us h
   cases ds with
   | nil=>exact ŗ h
   | cons d ds=>cases us with
     | nil=>exact ŗ h
     | cons u us=>exact hc a r d ds u us h.1 h.2 (ih ds us h.2)
 | _=>exact fun _ _ h=>ŗ h
theorem RVs.rds {c ds us} (h:RVs W false c z ds us):RDs W z.ρ z.G ds us:=RVs.ind (P:=fun _ ds us=>RDs W z.ρ z.G ds us) rfl (fun _ _ _ _ _ _ h _ ih=>.cons h.rd ih) c ds us h
theorem rx:LA X [] .nil:=fun br pos z I nb=>ϋ ⟨z,[],rfl,rfl,.refl,I,trivial⟩
theorem nk (ha:LE X ea a) (hr:LA X er r) (hs:Δ (ea :: er) X.env=(false,eval ea X.env) :: Δ er X.env):LA X (ea :: er) (.cons a r):=fun br pos z I nb=>by
 rw [hs]
 show χ _ _ (spliced ((false,eval ea X.env) :: Ϻ pos (Δ er X.env))) _ _ _
 exact Ι ((ha br).go .refl I rfl nb fun z1 x u y1 x1 I1 r1 e1=>(hr br pos).go x1 I1 e1 nb fun z2 l us y2 x2 I2 r2 e2=>⟨z2,x :: l,rfl,e2,x2,I2,r1.st y2 I2,r2⟩)
theorem rN (h:LA X es c):LE X (.Tuple es x1 pos) (.tup c):=fun br z I nb=>
 wpAny_Tuple_spliced ((h false pos).go (f:=fun l s=>if l.length≤100000 then Out.ok (D.tup l) s else .bad) .refl I rfl nb fun z1 l us y1 x1 I1 r1 e1=>by
  by_cases c:l.length≤100000
  ·rw [ZZ c] at e1
   have hz:us.length≤ϟ:=by rw [← r1.rds.len];exact big c
   exact ⟨hz,Dn.at x1 I1 e1 (.tupn (t:=z1.s.toks) I1 r1.rds hz)⟩
  ·rw [ZY c] at e1;exact ZX e1 nb)
theorem FV.less (x:Ee X z0 z1) (h:FV X z1 z d u):FV X z0 z d u:=let ⟨a,o,e,n,r⟩:=h;⟨a,o,e,x.st.no n,r⟩
theorem yg (h:LA X es c):LF X (.List es pos) (.lst c):=fun z I nb=>
 Dt ((h false pos).go (f:=fun l s=>if l.length≤100000 then Out.ok (D.lst l) s else .bad) .refl I rfl nb fun z1 l us y1 x1 I1 r1 e1=>by
  by_cases c:l.length≤100000
  ·rw [ZZ c] at e1
   have hz:us.length≤ϟ:=by rw [← r1.rds.len];exact big c
   obtain ⟨z2,d,q,q2,y,I2,fv⟩:=(Dw.lstn (X:=X) (t:=z1.s.toks) (n:=0) r1.rds hz).pe I1
   exact ⟨hz,z2,d,q,e1.trans q2,x1.trans y,I2,fv.less x1⟩
  ·rw [ZY c] at e1;exact ZX e1 nb)
theorem FV.rd (x:Ee X z0 z) (I:Rep X z) (h:FV X z0 z d u) (e:o = .ok d z.t):Pe X z0 o (RV X.W br c) u z.s:=by
 obtain ⟨a,ob,rfl,n,t,r,f,no⟩:=h
 obtain ⟨oa,ha⟩:=r.th.1
 have gg:Sub z.G fun b=>if b=a then some oa else z.G b:=fun b o q=>by
  dsimp only
  by_cases c:b=a
  ·subst c;rw [f.1] at q;cases q
  ·rw [ZY c];exact q
 refine ⟨{ z with G:=fun b=>if b=a then some oa else z.G b },d,rfl,e,⟨⟨x.st.pr,x.st.gg.trans gg,fun b o q=>?_,x.st.rn,x.st.th,x.st.sm,x.st.sl⟩,x.sg,x.en,x.ow⟩,I.grw I.tk rfl I.br (fun _ _ e _=>e) (fun _ o e=>⟨o.slots,e⟩) gg (fun b o q=>?_) fun b o q=>?_,.of (jY t r gg (by dsimp only;rw [ZZ rfl];exact ha.symm))⟩
 ·by_cases c:b=a
  ·subst c;exact .inr (.inl n)
  ·have q:(if b=a then some oa else z.G b)=some o:=q
   rw [ZY c] at q;exact x.st.gn b o q
 ·have q:(if b=a then some oa else z.G b)=some o:=q
  by_cases c:b=a
  ·subst c;rw [ZZ rfl] at q;cases q;exact ha
  ·rw [ZY c] at q;exact I.gh b o q
 ·have q:(if b=a then some oa else z.G b)=some o:=q
  by_cases c:b=a
  ·subst c;exact .inr ⟨f,no⟩
  ·rw [ZY c] at q;exact .inl q
theorem LF.le (h:LF X e c) (hb:∀ br,X.ev br c=X.ev false c):LE X e c:=fun br z I nb=>by
 rw [hb] at nb ⊢
 exact Κ (h z I nb) (fun u s' ⟨z',d,q,e,x,I',f⟩=>by subst q;exact f.rd x I' e) fun _ _ h=>h
theorem uH:LF X (.Dict [] [] pos) (.dic .nil):=fun z I nb=>GP (Dw.pe I ⟨.push (t:=z.s.toks),_,.dic [] [],rfl,aL z,rfl,_,[],rfl,ZU.mpr (Î I.sysm),ψ _ rfl,by
 obtain ⟨o,es,ep,h1,h2,h3,h4,h5,h6⟩:=Ep (knd:=bH X.W.P X.W.w) z.s.heap
 rw [ψ _ rfl] at h1
 cases h1
 exact ⟨es,ep,h2,h3,h4,h5,h6,ϲ _⟩,rfl,rfl⟩)
theorem ev1 (f:List D→Sta→Out β):(X.evs br (.cons a .nil) t).bind f=(X.ev br a t).bind fun x s=>f [x] s:=by
 show ((X.ev br a t).bind fun x s=>Out.ok [x] s).bind f=_
 rw [aq];rfl
theorem ev2 (f:List D→Sta→Out β):(X.evs br (.cons a (.cons b .nil)) t).bind f=(X.ev br a t).bind fun x s=>(X.ev br b s).bind fun y s=>f [x,y] s:=by
 show ((X.ev br a t).bind fun x s=>((X.ev br b s).bind fun y s=>Out.ok [y] s).bind fun l s=>Out.ok (x :: l) s).bind f=_
 rw [aq];congr 1;funext x s;rw [aq,aq];rfl
def Blt (X:Cx) (x:μ) (u:ζ):Prop:=Gl X x∧X.mg x=none∧ġ x=some u∧x≠"__name__"∧(x == ("__debug__":μ))=false
theorem Blt.ld {Q:ζ→ν→Prop} {E:ζ→ν→Prop} (h:Blt X x u) (I:Rep X z) (q:Q u z.s):χ X.M X.A (eval (.Name x pos) X.env) Q E z.s:=xQ I h.1 h.2.1 h.2.2.1 q h.2.2.2.1 h.2.2.2.2
theorem bt {f:ζ} {Q:ζ→ν→Prop} {E:ζ→ν→Prop} (hf:(∃ id,f = .builtin id)∨∃ T,f = .type T) (hx:Blt X x f) (he:Δ (e :: er) X.env=(false,eval e X.env) :: Δ er X.env) (hpl:(Ϻ pos (Δ er X.env)).any (·.1)=false) (I:Rep X z)
 (h:χ X.M X.A (spliced ((false,eval e X.env) :: Ϻ pos (Δ er X.env))) (fun us s'=>χ X.M X.A (call f us) Q E s') E z.s):χ X.M X.A (eval (.Call (.Name x p) (e :: er) [] pos) X.env) Q E z.s:=by
 refine è (hx.ld I ?_)
 have h:χ X.M X.A (spliced (Ϻ pos (Δ (e :: er) X.env))) (fun us s'=>χ X.M X.A (call f us) Q E s') E z.s:=by rw [he];exact h
 rcases hf with ⟨id,rfl⟩ | ⟨T,rfl⟩
 ·exact callWith_builtin1 h he hpl
 ·exact callWith_type1 h he hpl
abbrev FB (f:ζ):Prop:=(∃ id,f = .builtin id)∨∃ T,f = .type T
theorem xT {f:ζ} (hb:Bi1 X f b) (hf:FB f) (hx:Blt X x f) (ha:LE X ea a) (he:Δ [ea] X.env=(false,eval ea X.env) :: Δ [] X.env):LE X (.Call (.Name x p) [ea] [] pos) (.bi b (.cons a .nil)):=fun br z I nb=>
 bt hf hx he rfl I (Ι ((ha true).go .refl I (ev1 fun l s=>Out.of s (biD b (l.map (look s.st)))) nb fun z1 x u y1 x1 I1 r1 e1=>ϋ (cI x1 I1 e1 nb fun d q=>hb z1 _ _ d I1 (r1.rb.cr I1) q)))
theorem yf {f:ζ} (hb:tD X f b) (hf:FB f) (hx:Blt X x f) (ha:LE X ea a) (he:Δ [ea] X.env=(false,eval ea X.env) :: Δ [] X.env):LF X (.Call (.Name x p) [ea] [] pos) (.bi b (.cons a .nil)):=fun z I nb=>
 bt hf hx he rfl I (Ι ((ha true).go .refl I (ev1 fun l s=>Out.of s (biD b (l.map (look s.st)))) nb fun z1 x u y1 x1 I1 r1 e1=>ϋ (by
  cases q:fP b (look z1.t.st x) with
  | none=>exact ZX (e1.trans (show Out.of z1.t (fP b (look z1.t.st x)) = .bad by rw [q];rfl)) nb
  | some d=>
    refine Κ (ϙ I1.tk (hb z1 _ _ d I1 (r1.rb.cr I1) q)) (fun v s' ⟨tk,k⟩=>?_) fun _ _ z=>z.2.elim
    obtain ⟨z2,d,q1,q2,y,I2,fv⟩:=k.pe I1
    exact ⟨z2,d,q1,(e1.trans (show Out.of z1.t (fP b (look z1.t.st x))=_ by rw [q];rfl)).trans q2,x1.trans y,I2,fv.less x1⟩)))
theorem xU {f:ζ} (hb:Bi2 X f b) (hf:FB f) (hx:Blt X x f) (ha:LE X ea a) (hc:LE X ec c) (he:Δ [ea,ec] X.env=(false,eval ea X.env) :: Δ [ec] X.env) (he2:Δ [ec] X.env=(false,eval ec X.env) :: Δ [] X.env):LE X (.Call (.Name x p) [ea,ec] [] pos) (.bi b (.cons a (.cons c .nil))):=fun br z I nb=>
 bt hf hx he (by rw [he2];rfl) I (by
  rw [he2]
  exact Ι ((ha true).go .refl I (ev2 fun l s=>Out.of s (biD b (l.map (look s.st)))) nb fun z1 x u y1 x1 I1 r1 e1=>Ι ((hc true).go x1 I1 e1 nb fun z2 y v y2 x2 I2 r2 e2=>ϋ (cI x2 I2 e2 nb fun d q=>hb z2 _ _ _ _ d I2 ((r1.rb.st y2 I2).cr I2) (r2.rb.cr I2) q))))
theorem AN (hb:b = .isTup∨b = .isStr∨b = .isBool∨b = .isInt∨b = .isLst∨b = .isDic) (hx:Blt X "isinstance" (.builtin "isinstance")) (ht:Blt X x (.type (tyN b))) (ha:LE X ea a) (he:Δ [ea,.Name x q] X.env=(false,eval ea X.env) :: Δ [.Name x q] X.env):LE X (.Call (.Name "isinstance" p) [ea,.Name x q] [] pos) (.bi b (.cons a .nil)):=fun br z I nb=>
 bt (.inl ⟨_,rfl⟩) hx he rfl I (Ι ((ha true).go .refl I (ev1 fun l s=>Out.of s (biD b (l.map (look s.st)))) nb fun z1 x u y1 x1 I1 r1 e1=>Ι (ht.ld I1 (ϋ (cI x1 I1 e1 nb fun d q=>zH hb I1 (r1.rb.cr I1) q)))))
structure fe (K:υ) (C:Α):Prop where
 ga:Ρ K (.ref C) "__getattribute__" = some (some (.builtin "BaseException.__getattribute__"))
 gn:Ρ K (.ref C) "__getattr__" = some none
 cl:Ρ K (.ref C) "__class__" = some (some (.builtin "object.__class__"))
 sg:C8 K (.builtin "object.__class__") "__get__" = some (some (.builtin "getset_descriptor.__get__"))
 tk:EW K (.builtin "object.__class__")=some true
 ob:Ϩ K C (.type "object")=some true
 be:Ϩ K C (.type "BaseException")=some true
 is:(ů K C).isSome=true
structure d8 (X:Cx) (an:Nat→μ) (c:Nat) (k:Cl) (i:CI):Prop where
 ci:X.W.ci[c]? = some i
 cls:k.what≠2→Cls X.K i.ad
 na:∀ f∈i.nm,cL X.K i.ad f
 wh:X.W.what[c]? = some k.what
 nm:i.nm=k.at_.map an
 nd:i.nm.Nodup
 xc:k.what=2→fe X.K i.ad∧Á X.K i.ad=true
theorem ti {names:List μ} {vs:List ζ} {f:μ} {v:ζ} (hn:names.Nodup) {j:Nat} (h1:names[j]? = some f) (h2:vs[j]? = some v):(names.zip vs).lookup f=some v:=by
 induction names generalizing vs j with
 | nil=>simp at h1
 | cons n r ih=>
   cases vs with
   | nil=>simp at h2
   | cons w vs=>
     show (match f == n with | true=>some w | false=>(r.zip vs).lookup f)=some v
     cases j with
     | zero=>simp at h1 h2;subst h1 h2;simp
     | succ j=>
       have h3:r[j]? = some f:=by simpa using h1
       have ne:f≠n:=fun z=>by subst z;exact (ϛ.mp hn).1 (ο h3)
       rw [show (f == n)=false by simpa using ne]
       exact ih (ϛ.mp hn).2 h3 (by simpa using h2)
theorem InO.objm {s:ν} (h:InO s.heap.get? a dx C l):lR s.heap a dx C fun n=>l.lookup n:=let ⟨e,n,_,o,e2,es,ep,r⟩:=h;⟨e,⟨o,es,ep,e2,r⟩,n⟩
theorem jo:∀ {d v},RD W ρ G d v→Ł v=true
 | .non,_,h=>by cases (show _=_ from h);rfl
 | .bl _,_,h=>by cases (show _=_ from h);rfl
 | .int _,_,⟨_,h⟩=>h ▸ rfl
 | .str _,_,⟨_,h⟩=>h ▸ rfl
 | .tup _,_,⟨_,_,_,h,_,_,_⟩=>h ▸ rfl
 | .lst _,_,⟨_,_,_,h,_,_,_⟩=>h ▸ rfl
 | .dic _ _,_,⟨_,_,_,h,_,_,_,_,_⟩=>h ▸ rfl
 | .ins _ _,_,⟨_,_,_,h,_,_,_,_⟩=>h ▸ rfl
 | .ref _,_,⟨_,_,h⟩=>h ▸ rfl
abbrev cB (X:Cx) (an:Nat→μ):Prop:=∀ (c:Nat) (k:Cl),X.Γ.cl[c]? = some k→∃ i,d8 X an c k i
theorem kJ (T:cB X an) {c f:Nat} {l:List D} {d2:D} (e:((X.Γ.cl[c]?).bind fun k=>l[k.at_.idxOf f]?)=some d2):∃ k i,∃ j:Nat,X.Γ.cl[c]? = some k∧d8 X an c k i∧l[j]? = some d2∧(l.length≤i.nm.length→i.nm[j]? = some (an f)):=by
 obtain ⟨k,q,e⟩:=ϗ.mp e
 obtain ⟨i,ok⟩:=T c k q
 refine ⟨k,i,k.at_.idxOf f,q,ok,e,fun hl=>?_⟩
 have h1:k.at_.idxOf f<l.length:=(ς.mp e).1
 have h2:k.at_.idxOf f<k.at_.length:=by rw [ok.nm,Θ] at hl;omega
 rw [ok.nm,Ψ,Ζ h2]
 simp
theorem qF (T:cB X an) (I:Rep X z) {n f:Nat} {d:D} {p:Α×Α} (ea:z.ρ[n]? = some p) (e:lZ X.Γ z.t.st (.ref n) f=some d):∃ C fs v,InO z.h p.1 p.2 C fs∧Cls X.K C∧cL X.K C (an f)∧fs.lookup (an f)=some v∧RD X.W z.ρ z.G d v:=by
 unfold lZ at e
 dsimp only at e
 cases q:z.t.st[n]? with
 | none=>rw [q] at e;cases e
 | some o=>
   rw [q] at e
   cases o with
   | ins c l=>
     dsimp only at e
     obtain ⟨k,i',j,e1,ok,e2,e3⟩:=kJ T e
     obtain ⟨i,vs,w1,w2,w3,w4,w5⟩:=I.ob n _ p q ea
     have e4:=ok.ci
     rw [w1] at e4;cases e4
     obtain ⟨v,ev,rv⟩:=w5.get e2
     have wz:k.what≠2:=by have:=ok.wh;rw [w2] at this;have e:=Ϥ this;omega
     exact ⟨i'.ad,_,v,w4,ok.cls wz,ok.na _ (ο (e3 w3)),ti ok.nd (e3 w3) ev,rv⟩
   | _=>cases e
theorem l8 {Q:ζ→ν→Prop} {E:ζ→ν→Prop} {A:Ϗ} (I:Rep X z) (h:InO z.h a dx C fs) (c:Cls X.K C) (n:cL X.K C f) (l:fs.lookup f=some v) (r:RD X.W z.ρ z.G d v) (q:Q v { z.s with toks:=z.s.toks+1 }):χ X.M A (DK (.ref a) f b) Q E z.s:=
 ua I.toHR.kin (InO.objm h) (c.get f) c.hd n l (jo r) q
theorem xW (T:cB X an) (xr:∀ {z:Z} {a C:Α} {l:List (μ×ζ)} {f:μ} {v:ζ} {Q:ζ→ν→Prop} {b:Bool},Rep X z→ExO z.h a C l→l≠[]→fe X.K C→Á X.K C=true→Ρ X.K (.ref C) f=some none→l.lookup f=some v→Ł v=true→Q v { z.s with toks:=z.s.toks+1 }→χ X.M X.A (DK (.ref a) f b) Q NoE z.s)
 (ha:LE X ea a) (hb:Ē ea (an f) X.env (eval ea X.env)=eval ea X.env):LE X (.Attribute ea (an f) pos) (.fld a f):=fun br z I nb=>
 tH hb ((ha true).go .refl I rfl nb fun z1 x u y1 x1 I1 r1 e1=>cI x1 I1 e1 nb fun d q=>by
  have cr:=r1.rb.cr0 I1
  cases x with
  | ins c l=>
    obtain ⟨a,i,vs,rfl,hc,hl,w,rs⟩:=(cr:RD X.W z1.ρ z1.G (.ins c l) u)
    obtain ⟨k,i',j,e1,ok,e2,e3⟩:=kJ T (show ((X.Γ.cl[c]?).bind fun k=>l[k.at_.idxOf f]?)=some d from q)
    have e4:=ok.ci
    rw [hc] at e4;cases e4
    obtain ⟨v,ev,rv⟩:=rs.get e2
    have lk:=ti ok.nd (e3 hl) ev
    have mem:an f∈i.nm:=ο (e3 hl)
    rcases w with ⟨w1,dx,ga⟩ | ⟨w2,w⟩
    ·have w3:k.what≠2:=by have:=ok.wh;rw [w1] at this;have e:=Ϥ this;omega
     exact l8 I1 (ga.sub I1.gh) (ok.cls w3) (ok.na _ mem) lk rv (.old I1 .tok rv)
    ·have w3:k.what=2:=by have:=ok.wh;rw [w2] at this;exact (Ϥ this).symm
     exact xr I1 (w.sub I1.gh) (fun z=>by rw [z] at lk;cases lk) (ok.xc w3).1 (ok.xc w3).2 (ok.na _ mem) lk (jo rv) (.old I1 .tok rv)
  | ref n=>
    obtain ⟨p,ep,rfl⟩:=(cr:RD X.W z1.ρ z1.G (.ref n) u)
    obtain ⟨C,fs,v,h1,h2,h3,h4,h5⟩:=qF T I1 ep q
    exact l8 I1 h1 h2 h3 h4 h5 (.old I1 .tok h5)
  | _=>cases q)
end
abbrev NoW:Α→Prop:=fun _=>False
def XC (X:Cx) (z z':Z) (c:Nat) (l:List D) (e:ζ):Prop:=∃ a T cls dx,e = .ref a∧XR X.W z' c l cls dx∧Tr z'.s.heap a cls dx T .none∧(z.h a=none∧z'.G a=none∧¬ Mu z'.ρ a)∧z.h T=none∧z'.G T=none∧¬ Mu z'.ρ T
def CRs (X:Cx) (z:Z) (r:Res) (q:Result) (s':ν):Prop:=match q with
 | .ok (.ret u)=>∃ z' d,z'.s=s'∧r = .ok d z'.t.st∧Stp X.fr NoW z z'∧HR X z'∧RD X.W z'.ρ z'.G d u
 | .error e=>∃ z' c l,z'.s=s'∧r = .exc c l z'.t.st∧Stp X.fr NoW z z'∧HR X z'∧XC X z z' c l e
 | _=>False
structure FnC (X:Cx) (cal:Nat→List D→List O→Res) (lv j:Nat) (f:Α) (fd:Ý) (ps:List μ) (dvs:List ζ):Prop where
 len:∀ ds st,cal j ds st≠.bad→ds.length+dvs.length=ps.length
 run:∀ (A:Ϗ) (fr:List CL) (z:Z) (args:Args) (us:List ζ) (ds:List D),bq lv A→HR { X with A:=A,fr:=fr } z→GJ z.s fd args (ps.zip (us ++ dvs))→RDs X.W z.ρ z.G ds us→cal j ds z.t.st≠.bad →
  ĭ X.M A (.call (.ref f) args) (CRs { X with A:=A,fr:=fr } z (cal j ds z.t.st)) z.s
def bX (X:Cx) (cal:Nat→List D→List O→Res) (lv j:Nat) (f:Α):Prop:=∃ fd ps dvs,FnC X cal lv j f fd ps dvs∧bU X.K fd ps dvs∧Ϙ X.K (.ref f)=true
mutual
theorem n9 {G G':Hp} (k:∀ a o,G a=some o→(∀ l,¬ LsO o l)→G' a=some o):∀ {d:D} {v},noL d=true→RD W ρ G d v→RD W ρ G' d v
 | .non,_,_,e=>e
 | .bl _,_,_,e=>e
 | .int _,_,_,e=>e
 | .str _,_,_,e=>e
 | .ref _,_,_,e=>e
 | .tup _,_,n,⟨a,o,vs,e,t,q,r⟩=>⟨a,o,vs,e,k _ _ t fun l ⟨⟨_,z⟩,_⟩=>by have:=q.1;rw [z] at this;exact ZX this (show č "list"≠.type "tuple" by decide),q,cU k n r⟩
 | .dic _ _,_,n,⟨a,o,vs,e,m,t,q,l,r⟩=>⟨a,o,vs,e,m,k _ _ t fun l ⟨⟨_,z⟩,_⟩=>by obtain ⟨_,_,x,_⟩:=q;have:=x.1;rw [z] at this;exact ZX this (show č "list"≠.type "dict" by decide),q,l,cU k n r⟩
 | .ins _ _,_,n,⟨a,i,vs,e,hc,l,t,r⟩=>⟨a,i,vs,e,hc,l,t.elim (fun ⟨w,dx,q1,q2,q3,o,q4,q5⟩=>.inl ⟨w,dx,k _ _ q1 (fun l ⟨⟨_,z⟩,_⟩=>by injection z with z;cases z),q2,q3,o,k _ _ q4 (sq q5),q5⟩) (fun ⟨w,o,vs,q1,q2,q3,q4⟩=>.inr ⟨w,o,vs,k _ _ q1 (fun l ⟨⟨_,z⟩,_⟩=>by rw [z] at q3;cases q3),q2,q3,q4.elim .inl fun ⟨d,od,p1,p2,p3⟩=>.inr ⟨d,od,p1,k _ _ p2 (sq p3),p3⟩⟩),cU k n r⟩
 | .lst _,_,n,_=>by cases n
theorem cU {G G':Hp} (k:∀ a o,G a=some o→(∀ l,¬ LsO o l)→G' a=some o):∀ {ds:List D} {vs},fT ds=true→RDs W ρ G ds vs→RDs W ρ G' ds vs
 | [],_,_,e=>e
 | _ :: _,_,n,⟨v,r,e,t,q⟩=>by
   have n:(noL _ && fT _)=true:=n
   rw [Χ] at n
   exact ⟨v,r,e,n9 k n.1 t,cU k n.2 q⟩
theorem sq (h:NsO o m):∀ l,¬ LsO o l:=fun l ⟨⟨_,z⟩,_⟩=>by obtain ⟨_,_,q,_⟩:=h;rw [z] at q;cases q
end
section
variable {X:Cx} {z z':Z} {br:Bool}
theorem Stp.slots (S:Stp fr NoW z z') (n:¬ Mu z.ρ a) (e:z.h a=some o):∃ sl,z'.h a=some { o with slots:=sl }:=by
 by_cases f:a∈frs fr
 ·exact S.sl a o e n id f
 ·exact ⟨o.slots,S.sm a o e n id f⟩
open Classical in
theorem Rep.back (I:Rep X z) (p q:Nat→Bool) (S:Stp X.fr NoW (z.rel p) z') (H:HR X z') (pq:∀ i,p i=true→q i=true) (hq:∀ i∈z.t.ow,q i=true→p i=true∨(isLst z.t.env[i]? = true∧z'.t.st.all k7=true)) :
 ∃ zf,zf.s=z'.s∧zf.t=⟨z.t.env,z.t.ow.filter q,z'.t.st⟩∧zf.ρ=z'.ρ∧Rep X zf∧Ee X z zf∧(∀ a,z.h a=none→zf.G a=z'.G a)∧(∀ a o,z'.G a=some o→(∀ l,¬ LsO o l)→zf.G a=some o)∧((∀ i∈z.t.ow,q i=true→p i=true)→Sub z'.G zf.G):=by
 obtain ⟨Ir,xr⟩:=I.rel p
 let Rm:Α→Prop:=fun a=>∃ i∈z.t.ow,q i=true∧z.σ[i]? = some (some (.ref a))
 have own:∀ {a},Rm a→Own z a:=fun ⟨i,m,_,e⟩=>⟨i,m,e⟩
 let G2:Hp:=fun a=>if Rm a then none else z'.G a
 have yes:∀ {a},Rm a→G2 a=none:=fun h=>ZZ h
 have no:∀ {a},¬ Rm a→G2 a=z'.G a:=fun h=>ZY h
 have g2s:Sub G2 z'.G:=fun a o e=>by
  by_cases c:Rm a
  ·rw [yes c] at e;cases e
  ·rw [no c] at e;exact e
 have gz:Sub z.G G2:=fun a o e=>by
  by_cases c:Rm a
  ·rw [(I.oth (own c)).1.1] at e;cases e
  ·rw [no c];exact S.gg _ _ (xr.st.gg _ _ e)
 have hold:∀ {i:Nat} {a:Α},i∈z.t.ow→p i=true→z.σ[i]? = some (some (.ref a))→z'.G a=none:=fun {i a} m pi es=>by
  obtain ⟨f,o',e'⟩:=I.oth ⟨i,m,es⟩
  have n:(z.rel p).G a=none:=(dF fun ⟨j,mj,pj,ej⟩=>by rw [I.od j i a mj m ej es,pi] at pj;cases pj).trans f.1
  cases w:z'.G a with
  | none=>rfl
  | some o=>
    rcases S.gn a o w with w | w | w
    ·rw [n] at w;cases w
    ·rw [show (z.rel p).h a=z.h a from rfl,e'] at w;cases w
    ·exact w.elim
 have gp:∀ {a o},Rm a→z'.G a=some o→(∃ l,LsO o l)∧z'.t.st.all k7=true∧¬ ∀ i∈z.t.ow,q i=true→p i=true:=fun {a o} ⟨i,m,qi,es⟩ e=>by
  by_cases pi:p i=true
  ·rw [hold m pi es] at e;cases e
  ·obtain ⟨li,al⟩:=(hq i m qi).resolve_left pi
   obtain ⟨d,b,ob,h1,h2,h3,r,f⟩:=I.eo i m
   rw [es] at h2;cases h2
   refine ⟨?_,al,fun w=>pi (w i m qi)⟩
   rw [h1] at li
   cases d with
   | lst ds=>
     cases h3
     obtain ⟨oo,vs,_,e1,l1,_⟩:=r
     have:=S.gg a oo ((gq ⟨i,m,by simpa using pi,es⟩).trans e1)
     rw [e] at this;cases this
     exact ⟨vs,l1⟩
   | _=>cases li
 have kp:∀ a o,z'.G a=some o→(∀ l,¬ LsO o l)→G2 a=some o:=fun a o e n=>by
  by_cases c:Rm a
  ·obtain ⟨⟨l,h⟩,_⟩:=gp c e;exact ZX h (n l)
  ·rw [no c];exact e
 have kq:(∀ i∈z.t.ow,q i=true→p i=true)→Sub z'.G G2:=fun w a o e=>by
  by_cases c:Rm a
  ·exact ZX w (gp c e).2.2
  ·rw [no c];exact e
 have nn:∀ {a},z'.G a=none→G2 a=none:=fun {a} e=>by
  by_cases c:Rm a
  ·exact yes c
  ·rw [no c];exact e
 have rh:∀ {a},(z.rel p).h a=z.h a:=rfl
 have same:∀ a,¬ Mu z.ρ a→∀ o,z.h a=some o→∃ sl,z'.h a=some { o with slots:=sl }:=fun a n o e=>S.slots n e
 have nmu:∀ {a o},z.h a=some o→¬ Mu z.ρ a→¬ Mu z'.ρ a:=fun {a o} e n m=>(S.rn a m).elim n fun w=>by rw [rh,e] at w;cases w
 have nG:∀ {a o},z.h a=some o→(z.rel p).G a=none→z'.G a=none:=fun {a o} e n=>by
  cases w:z'.G a with
  | none=>rfl
  | some o'=>
    rcases S.gn a o' w with w | w | w
    ·rw [n] at w;cases w
    ·rw [rh,e] at w;cases w
    ·exact w.elim
 have ob2:∀ (n:Nat) (o:O) (pp:Α×Α),z'.t.st[n]? = some o→z'.ρ[n]? = some pp→ObR X.W z'.ρ G2 z'.h pp o:=fun n o pp h1 h2=>by
  by_cases w:∀ i∈z.t.ow,q i=true→p i=true
  ·exact (H.ob n o pp h1 h2).mono (ξ _) (kq w) fun _ _ _ e=>e
  ·by_cases al:z'.t.st.all k7=true
   ·have nl:=ϓ.mp al o (ο h1)
    cases o with
    | lst l=>cases nl
    | dic ks l=>obtain ⟨o,vs,a1,a2,a3,a4,a5,a6⟩:=H.ob n _ pp h1 h2;exact ⟨o,vs,a1,a2,a3,a4,a5,cU kp nl a6⟩
    | ins c l=>obtain ⟨i,vs,a1,a2,a3,a4,a5⟩:=H.ob n _ pp h1 h2;exact ⟨i,vs,a1,a2,a3,a4,cU kp nl a5⟩
   ·exact ZX (fun i m qi=>(hq i m qi).resolve_right fun v=>al v.2) w
 refine ⟨⟨z'.ρ,G2,⟨z.t.env,z.t.ow.filter q,z'.t.st⟩,z.σ,z'.s⟩,rfl,rfl,rfl,⟨⟨H.md,H.fm,H.hd,fun b o e=>gz _ _ (I.bs b o e),g2s.trans H.gh,H.rl,H.rn,fun a m=>nn (H.rg a m),ob2,H.fu,fun b m=>⟨nn (H.ff b m).1,(H.ff b m).2⟩,H.br,H.os,H.tk⟩,I.ok,?_,fun x c e=>?_,fun a l=>?_,I.el,I.sl,fun i d n e=>?_,fun i m=>?_,fun i j a m1 m2=>I.od i j a (ϔ.mp m1).1 (ϔ.mp m2).1⟩,⟨⟨S.pr,gz,fun a o e=>?_,S.rn,S.th,fun a o e n w f=>S.sm a o e n id f,fun a o e n w f=>S.sl a o e n id f⟩,rfl,rfl,fun i m=>(ϔ.mp m).1⟩,fun a e=>?_,kp,kq⟩
 ·obtain ⟨m,hn,hl⟩:=I.lo
  have cl:∀ c v,(∃ x,X.env.cells.lookup x=some c)→z.s.heap.IsCell c v→z'.s.heap.IsCell c v:=fun c v ⟨x,ex⟩ ⟨o,e,d⟩=>let ⟨_,w⟩:=same c (I.fl c (.inr ⟨x,ex⟩)).2 o e;⟨_,w,d⟩
  obtain ⟨oL,es,ep,eL,r⟩:=hn
  obtain ⟨sl,w⟩:=same _ (I.fl _ (.inl rfl)).2 oL eL
  exact ⟨m,⟨_,es,ep,w,r⟩,fun i x u h1 h2 h3=>dC (fun c v e q=>cl c v ⟨x,e⟩ q) (hl i x u h1 h2 h3)⟩
 ·obtain ⟨v,o,e1,d⟩:=I.ce x c e
  obtain ⟨sl,w⟩:=same c (I.fl c (.inr ⟨x,e⟩)).2 o e1
  exact ⟨v,_,w,d⟩
 ·obtain ⟨o,e⟩:=I.lth l
  exact ⟨nn (nG e (Ir.fl a l).1),nmu e (I.fl a l).2⟩
 ·by_cases m:i∈z.t.ow
  ·obtain ⟨d',a,o,h1,h2,h3,r,f⟩:=I.eo i m
   rw [show z.t.env[i]? = some (some d) from e] at h1;cases h1
   have qf:¬ q i=true:=fun w=>n (ϔ.mpr ⟨m,w⟩)
   have pf:p i=false:=by cases w:p i with
    | false=>rfl
    | true=>exact ZX (pq i w) qf
   obtain ⟨oa,ea⟩:=r.th.1
   refine ⟨_,h2,jY h3 (r.mono (h':=z.h) S.pr (Sub.refl _) fun _ _ _ e=>e) gz ?_⟩
   have nr:¬ Rm a:=fun ⟨j,mj,qj,ej⟩=>by rw [I.od j i a mj m ej h2] at qj;exact qf qj
   exact (no nr).trans ((S.gg a oa ((gq ⟨i,m,pf,h2⟩).trans ea)).trans ea.symm)
  ·obtain ⟨u,w,r⟩:=I.en i d m e
   exact ⟨u,w,r.mono S.pr gz⟩
 ·obtain ⟨m1,m2⟩:=ϔ.mp m
  obtain ⟨d',a,o,h1,h2,h3,r,f⟩:=I.eo i m1
  obtain ⟨oa,ea⟩:=r.th.1
  refine ⟨d',a,o,h1,h2,h3,r.mono S.pr gz fun b hb o e=>?_,yes ⟨i,m1,m2,h2⟩,nmu ea f.2.1,f.2.2⟩
  have hb:b=a:=hb.elim id id
  subst hb
  exact S.sm b o e f.2.1 id f.2.2.1
 ·rcases S.gn a o (g2s a o e) with w | w | w
  ·by_cases c:km z p a
   ·obtain ⟨i,m,_,e⟩:=c;exact .inr (.inr ⟨i,m,e⟩)
   ·rw [dF c] at w;exact .inl w
  ·exact .inr (.inl w)
  ·exact w.elim
 ·exact no fun c=>by obtain ⟨o,w⟩:=(I.oth (own c)).2;rw [e] at w;cases w
theorem tV {a r:E} (m:i∈bI r):i∈bI (.cons a r):=by cases a <;> first | exact ι _ m | exact m
theorem j5 (I:Rep X (z.rel p)) (gg:Sub z.G (z.rel p).G) (k:∀ i∈bI c,p i=false) {c' ds us} (hs:∀ i∈bI c',i∈bI c) (h:RVs X.W true c' z ds us):RDs X.W z.ρ (z.rel p).G ds us:=
 RVs.ind (P:=fun c' ds us=>(∀ i∈bI c',i∈bI c)→RDs X.W z.ρ (z.rel p).G ds us) (fun _=>rfl) (fun a r d ds u us h _ ih hs=>by
  refine .cons ?_ (ih fun i m=>hs i (tV m))
  rcases h with h | ⟨_,i,rfl,m,e1,e2⟩
  ·exact h.mono (ξ _) gg
  ·obtain ⟨u',q,r⟩:=I.en i d (fun w=>by have:=(ϔ.mp w).2;rw [k i (hs i κ)] at this;cases this) e2
   rw [show z.σ[i]? = some (some u') from q] at e1;cases e1;exact r) c' ds us h hs
theorem ib {o:Out D} (F:bX X X.cal lv j f) (hr:bq lv X.A) (x:Ee X z0 z) (I:Rep X z) (rd:RDs X.W z.ρ (z.rel fun i=>!(bI es).contains i).G ds us) (e:o=iD X.cal es j ds z.t) (nb:o≠.bad):χ X.M X.A (call (.ref f) us) (Pe X z0 o (RV X.W br c)) (Px X z0 o) z.s:=by
 obtain ⟨Ir,xr⟩:=I.rel fun i=>!(bI es).contains i
 obtain ⟨fd,ps,dvs,F,hb,kp⟩:=F
 subst e
 have nbc:X.cal j ds z.t.st≠.bad:=fun q=>nb (by unfold iD;rw [q])
 have bd:=hb z.s us I.toHR.kin (by rw [ω,← rd.len];exact F.len _ _ nbc)
 refine Ċ (â (F.run X.A X.fr (z.rel fun i=>!(bI es).contains i) ⟨us,[]⟩ us ds hr Ir.toHR bd rd nbc) fun q s' hq=>?_)
 cases q with
 | error e=>
   obtain ⟨z',c,l,rfl,er,S,H,a,T,cls,dx,rfl,xr',tr,⟨na,ga,ma⟩,nT,gT,mT⟩:=hq
   obtain ⟨zf,e1,e2,e3,If,xf,k1,k2,k3⟩:=I.back (fun i=>!(bI es).contains i) _ S H (fun _ h=>h) fun _ _ h=>.inl h
   have nob:∀ {b:Α},z.h b=none→z'.G b=none→¬ Mu z'.ρ b→Nob X z zf b:=fun {b} n g m=>by
    have ⟨f,no⟩:=I.fre n
    exact ⟨n,⟨(k1 b n).trans g,e3 ▸ m,f.2.2⟩,fun w=>no (xf.own w)⟩
   refine Px.less x ⟨zf,c,l,e1,by unfold iD;rw [show X.cal j ds z.t.st=_ from er,e2];rfl,xf,If,a,cls,dx,rfl,?_,nob na ga ma,.inr ⟨T,.none,e1 ▸ tr,.inl rfl,nob nT gT mT⟩⟩
   obtain ⟨i,a1,a2,a3,a4,a5⟩:=xr'
   refine ⟨i,a1,a2,a3,a4,a5.imp_right fun ⟨d,od,vs,b1,b2,b3,b4⟩=>⟨d,od,vs,b1,k2 _ _ b2 (sq b3),b3,?_⟩⟩
   rw [e3];exact b4.mono (ξ _) (k3 fun _ _ h=>h)
 | ok fl=>
   cases fl with
   | ret u=>
     obtain ⟨z',d,rfl,er,S,H,r⟩:=hq
     obtain ⟨zf,e1,e2,e3,If,xf,k1,k2,k3⟩:=I.back (fun i=>!(bI es).contains i) (fun i=>!(bI es).contains i || (isLst z.t.env[i]? && (noL d && z'.t.st.all k7))) S H (fun i h=>by rw [h];rfl) fun i _ h=>by
      cases w:(!(bI es).contains i) with
      | true=>exact .inl rfl
      | false=>rw [w,Gq,Χ,Χ] at h;exact .inr ⟨h.1,h.2.2⟩
     refine Pe.less x ⟨zf,d,e1,by unfold iD;rw [show X.cal j ds z.t.st=_ from er,e2];rfl,xf,If,.of ?_⟩
     rw [e3]
     cases w:noL d with
     | true=>exact n9 k2 w r
     | false=>exact r.mono (ξ _) (k3 fun i _ h=>by rw [w,FZ,DU,Ň] at h;exact h)
   | next=>exact hq.elim
   | brk=>exact hq.elim
   | cont=>exact hq.elim
theorem gG {es:E}:∀ i∈bI es,(!(bI es).contains i)=false:=fun i m=>by simpa using m
theorem uy {x:μ} (F:bX X X.cal lv j f) (hr:bq lv X.A) (hg:Gl X x) (hm:X.mg x=some (.ref f)) (ha:LA X (ea :: er) es) (hd:(x == ("__debug__":μ))=false) (he:Δ (ea :: er) X.env=(false,eval ea X.env) :: Δ er X.env) (hpl:(Ϻ pos (Δ er X.env)).any (·.1)=false):LE X (.Call (.Name x p) (ea :: er) [] pos) (.call j es):=fun br z I nb=>
 è (bz I hg hm (ī (h₀:=X.base) I.md.kin (let ⟨_,_,_,_,_,k⟩:=F;k) ((ha true pos).go .refl I rfl nb fun z1 l us y1 x1 I1 r1 e1=>⟨I1.toHR.kin,ib F hr x1 I1 (j5 (I1.rel _).1 (I1.rel _).2.st.gg gG (fun _ h=>h) r1) e1 nb⟩) he hpl) hd)
end
mutual
theorem mH:∀ {d:D} {v},noR d=true→RD W ρ G d v→RD W ρ' G d v
 | .non,_,_,e=>e
 | .bl _,_,_,e=>e
 | .int _,_,_,e=>e
 | .str _,_,_,e=>e
 | .ref _,_,n,_=>by cases n
 | .tup _,_,n,⟨a,o,vs,e,t,q,r⟩=>⟨a,o,vs,e,t,q,cJ n r⟩
 | .lst _,_,n,⟨a,o,vs,e,t,q,r⟩=>⟨a,o,vs,e,t,q,cJ n r⟩
 | .dic _ _,_,n,⟨a,o,vs,e,m,t,q,l,r⟩=>⟨a,o,vs,e,m,t,q,l,cJ n r⟩
 | .ins _ _,_,n,⟨a,i,vs,e,hc,l,t,r⟩=>⟨a,i,vs,e,hc,l,t,cJ n r⟩
theorem cJ:∀ {ds:List D} {vs},aS ds=true→RDs W ρ G ds vs→RDs W ρ' G ds vs
 | [],_,_,e=>e
 | _ :: _,_,n,⟨v,r,e,t,q⟩=>by
   have n:(noR _ && aS _)=true:=n
   rw [Χ] at n
   exact ⟨v,r,e,mH n.1 t,cJ n.2 q⟩
end
theorem ig (k:Nat):∀ l:List D,(iO k l).length=l.length
 | []=>rfl
 | _ :: r=>ZS (· + 1) (ig k r)
section
variable {X:Cx} {z z' z0:Z} {br:Bool}
abbrev Z.bare (z:Z):Z:={ z with ρ:=[],t:=⟨z.t.env,z.t.ow,[]⟩ }
theorem dZ:¬ Mu [] a:=fun ⟨_,h,_⟩=>nomatch h
theorem HR.bare (I:HR X z):HR X z.bare:=⟨I.md,I.fm,I.hd,I.bs,I.gh,rfl,fun _ _ _ _ _ h=>by simp at h,fun _ m=>(dZ m).elim,fun _ _ _ h=>by simp at h,I.fu,fun b m=>⟨(I.ff b m).1,dZ⟩,I.br,I.os,I.tk⟩
theorem Rep.hout (I:Rep X z) (S:Stp X.fr NoW z.bare z') (H:HR X z'):Rep X { z with G:=z'.G,s:=z'.s }∧Ee X z { z with G:=z'.G,s:=z'.s }:=by
 have gn:∀ a o,z'.G a=some o→z.G a=some o∨z.h a=none:=fun a o e=>(S.gn a o e).imp_right fun w=>w.elim id ŗ
 exact ⟨I.grw H.tk (H.os.trans I.os.symm) H.br (fun b o e f=>S.sm b o e dZ id f) (fun b o e=>S.slots dZ e) S.gg H.gh fun a o e=>(gn a o e).imp_right I.fre,⟨ξ _,S.gg,fun a o e=>(gn a o e).imp_right .inl,fun _ m=>.inl m,S.th,fun a o e _ _ f=>S.sm a o e dZ id f,fun a o e _ _ f=>S.sl a o e dZ id f⟩,rfl,rfl,fun _ h=>h⟩
mutual
theorem RD.sh:∀ {d:D} {v},RD W ρ' G d v→RD W (ρ ++ ρ') G (shD ρ.length d) v
 | .non,_,e=>e
 | .bl _,_,e=>e
 | .int _,_,e=>e
 | .str _,_,e=>e
 | .ref n,_,⟨p,e,q⟩=>⟨p,by rw [Ν (DB ..),Ŗ];exact e,q⟩
 | .tup _,_,⟨a,o,vs,e,t,q,r⟩=>⟨a,o,vs,e,t,q,r.sh⟩
 | .lst _,_,⟨a,o,vs,e,t,q,r⟩=>⟨a,o,vs,e,t,q,r.sh⟩
 | .dic _ _,_,⟨a,o,vs,e,m,t,q,l,r⟩=>⟨a,o,vs,e,m,t,q,l.trans (ig _ _).symm,r.sh⟩
 | .ins _ _,_,⟨a,i,vs,e,hc,l,t,r⟩=>⟨a,i,vs,e,hc,by rw [ig];exact l,t,r.sh⟩
theorem RDs.sh:∀ {ds:List D} {vs},RDs W ρ' G ds vs→RDs W (ρ ++ ρ') G (iO ρ.length ds) vs
 | [],_,e=>e
 | _ :: _,_,⟨v,r,e,t,q⟩=>⟨v,r,e,t.sh,q.sh⟩
end
theorem ObR.sh:∀ {o:O},ObR W ρ' G h p o→ObR W (ρ ++ ρ') G h p (shO ρ.length o)
 | .lst _,⟨o,vs,z,e,q,r⟩=>⟨o,vs,z,e,q,r.sh⟩
 | .dic _ _,⟨o,vs,z,m,e,q,l,r⟩=>⟨o,vs,z,m,e,q,l.trans (ig _ _).symm,r.sh⟩
 | .ins _ _,⟨i,vs,c,w,l,e,r⟩=>⟨i,vs,c,w,by rw [ig];exact l,e,r.sh⟩
theorem eM:Mu (ρ ++ ρ') a↔Mu ρ a∨Mu ρ' a:=⟨fun ⟨p,h,e⟩=>(ë.mp h).imp (fun h=>⟨p,h,e⟩) fun h=>⟨p,h,e⟩,fun h=>h.elim (fun ⟨p,h,e⟩=>⟨p,Ŵ _ h,e⟩) fun ⟨p,h,e⟩=>⟨p,ŧ _ h,e⟩⟩
theorem Rep.more {os:List O} {ρ':Rs} (I:Rep X z) (hl:ρ'.length=os.length) (nw:∀ a,Mu ρ' a→Fre X z a∧¬ Own z a) (rn:∀ (i j:Nat) (p q:Α×Α) (a:Α),ρ'[i]? = some p→ρ'[j]? = some q→(a=p.1∨a=p.2)→(a=q.1∨a=q.2)→i=j)
 (ob:∀ (n:Nat) (o:O) (p:Α×Α),os[n]? = some o→ρ'[n]? = some p→ObR X.W (z.ρ ++ ρ') z.G z.h p o):Rep X { z with ρ:=z.ρ ++ ρ',t:=⟨z.t.env,z.t.ow,z.t.st ++ os⟩ }:=by
 have rl:=I.rl
 have pre:z.ρ <+: z.ρ ++ ρ':=ß _ _
 have at_:∀ {i:Nat} {p:Α×Α},(z.ρ ++ ρ')[i]? = some p→(i<z.ρ.length∧z.ρ[i]? = some p)∨(z.ρ.length≤i∧ρ'[i - z.ρ.length]? = some p):=fun {i p} h=>by
  by_cases c:i<z.ρ.length
  ·rw [ό c] at h;exact .inl ⟨c,h⟩
  ·rw [Ν (by omega)] at h;exact .inr ⟨by omega,h⟩
 have mem:∀ {i:Nat} {p:Α×Α} {l:Rs} {a:Α},l[i]? = some p→(a=p.1∨a=p.2)→Mu l a:=fun h e=>⟨_,ο h,e⟩
 refine ⟨⟨I.md,I.fm,I.hd,I.bs,I.gh,by show (z.ρ ++ ρ').length=(z.t.st ++ os).length;simp only [ω];omega,fun i j p q a h1 h2 h3 h4=>?_,fun a m=>(eM.mp m).elim (I.rg a) fun m=>(nw a m).1.1,fun n o p h1 h2=>?_,I.fu,fun b m=>⟨(I.ff b m).1,fun h=>(eM.mp h).elim (I.ff b m).2 fun h=>(nw b h).1.2.2.1 m⟩,I.br,I.os,I.tk⟩,I.ok,I.lo,I.ce,fun a l=>⟨(I.fl a l).1,fun h=>(eM.mp h).elim (I.fl a l).2 fun h=>(nw a h).1.2.2.2 l⟩,I.el,I.sl,fun i d n e=>let ⟨u,q,r⟩:=I.en i d n e;⟨u,q,r.mono pre (.refl _)⟩,fun i m=>?_,I.od⟩
 ·rcases at_ h1 with ⟨c1,w1⟩ | ⟨c1,w1⟩ <;> rcases at_ h2 with ⟨c2,w2⟩ | ⟨c2,w2⟩
  ·exact I.rn i j p q a w1 w2 h3 h4
  ·exact ZX (mem w1 h3) (nw a (mem w2 h4)).1.2.1
  ·exact ZX (mem w2 h4) (nw a (mem w1 h3)).1.2.1
  ·have:=rn _ _ p q a w1 w2 h3 h4;omega
 ·have h1:(z.t.st ++ os)[n]? = some o:=h1
  rcases at_ h2 with ⟨c1,w1⟩ | ⟨c1,w1⟩
  ·rw [ό (by omega)] at h1
   exact (I.ob n o p h1 w1).mono pre (.refl _) fun _ _ _ e=>e
  ·rw [Ν (by omega),← rl] at h1
   exact ob _ o p h1 w1
 ·obtain ⟨d,a,o,h1,h2,h3,r,f⟩:=I.eo i m
  exact ⟨d,a,o,h1,h2,h3,r.mono pre (.refl _) fun _ _ _ e=>e,f.1,fun h=>(eM.mp h).elim f.2.1 fun h=>(nw a h).2 ⟨i,m,h2⟩,f.2.2⟩
theorem rK {x:μ} (F:bX X X.cal lv j f) (hr:bq lv X.A) (hg:Gl X x) (hm:X.mg x=some (.ref f)) (ha:LA X (ea :: er) es) (hd:(x == ("__debug__":μ))=false) (he:Δ (ea :: er) X.env=(false,eval ea X.env) :: Δ er X.env) (hpl:(Ϻ pos (Δ er X.env)).any (·.1)=false):LE X (.Call (.Name x p) (ea :: er) [] pos) (.hcall j es):=fun br z I nb=>
 è (bz I hg hm (ī (h₀:=X.base) I.md.kin (let ⟨_,_,_,_,_,k⟩:=F;k) ((ha false pos).go .refl I rfl nb fun z1 l us y1 x1 I1 r1 e1=>⟨I1.toHR.kin,by
  obtain ⟨fd,ps,dvs,F,hb,kp⟩:=F
  unfold ud at e1
  by_cases nr:aS l=true
  ·rw [ZZ nr] at e1
   have nbc:X.cal j l []≠.bad:=fun q=>by rw [q] at e1;exact nb e1
   have rd:RDs X.W z1.bare.ρ z1.bare.G l us:=cJ nr r1.rds
   have bd:=hb z1.s us I1.toHR.kin (by rw [ω,← rd.len];exact F.len _ _ nbc)
   refine Ċ (â (F.run X.A X.fr z1.bare ⟨us,[]⟩ us l hr I1.toHR.bare bd rd nbc) fun q s' hq=>?_)
   cases q with
   | error e=>
     obtain ⟨z',c,l',rfl,er,S,H,a,T,cls,dx,rfl,xr',tr,⟨na,ga,ma⟩,nT,gT,mT⟩:=hq
     rw [show X.cal j l []=_ from er] at e1
     obtain ⟨If,xf⟩:=I1.hout S H
     by_cases n2:aS l'=true
     ·have e1:=e1.trans (ZZ n2)
      have nob:∀ {b:Α},z1.h b=none→z'.G b=none→Nob X z1 { z1 with G:=z'.G,s:=z'.s } b:=fun {b} n g=>by
       have ⟨f,no⟩:=I1.fre n
       exact ⟨n,⟨g,f.2⟩,no⟩
      refine Px.less x1 ⟨{ z1 with G:=z'.G,s:=z'.s },c,l',rfl,e1,xf,If,a,cls,dx,rfl,?_,nob na ga,.inr ⟨T,.none,tr,.inl rfl,nob nT gT⟩⟩
      obtain ⟨i,a1,a2,a3,a4,a5⟩:=xr'
      exact ⟨i,a1,a2,a3,a4,a5.imp_right fun ⟨d,od,vs,b1,b2,b3,b4⟩=>⟨d,od,vs,b1,b2,b3,cJ n2 b4⟩⟩
     ·exact ZX (e1.trans (ZY n2)) nb
   | ok fl=>
     cases fl with
     | ret u=>
       obtain ⟨z',d,rfl,er,S,H,r⟩:=hq
       rw [show X.cal j l []=_ from er] at e1
       obtain ⟨If,xf⟩:=I1.hout S H
       by_cases n2:noR d=true
       ·have e1:=e1.trans (show (if noR d=true then Out.ok d z1.t else _)=_ from ZZ n2)
        exact Pe.less x1 ⟨{ z1 with G:=z'.G,s:=z'.s },d,rfl,e1,xf,If,.of (mH n2 r)⟩
       ·have e1:=e1.trans (show (if noR d=true then Out.ok d z1.t else _)=_ from ZY n2)
        have new:∀ a,Mu z'.ρ a→z1.h a=none:=fun a m=>(S.rn a m).elim (fun m=>(dZ m).elim) id
        have I2:=If.more (ρ':=z'.ρ) (os:=z'.t.st.map (shO z1.t.st.length)) (by rw [Θ];exact H.rl) (fun a m=>let ⟨f,no⟩:=I1.fre (new a m);⟨⟨H.rg a m,f.2⟩,no⟩) H.rn (fun n o p h1 h2=>by
         rw [Ψ,φ] at h1
         obtain ⟨o',h1,rfl⟩:=h1
         rw [← I1.rl];exact (H.ob n o' p h1 h2).sh)
        refine Pe.less x1 ⟨{ z1 with ρ:=z1.ρ ++ z'.ρ,G:=z'.G,t:=⟨z1.t.env,z1.t.ow,z1.t.st ++ z'.t.st.map (shO z1.t.st.length)⟩,s:=z'.s },shD z1.t.st.length d,rfl,e1,⟨⟨ß _ _,xf.st.gg,xf.st.gn,fun a m=>(eM.mp m).imp_right (new a),xf.st.th,xf.st.sm,xf.st.sl⟩,rfl,rfl,fun _ h=>h⟩,I2,.of ?_⟩
        rw [← I1.rl];exact r.sh
     | next=>exact hq.elim
     | brk=>exact hq.elim
     | cont=>exact hq.elim
  ·rw [ZY nr] at e1;exact ZX e1 nb⟩) he hpl) hd)
structure oU (X:Cx) (an:Nat→μ) (m:μ) (c:Nat) (f:Α):Prop where
 ex:∃ i k,X.Γ.cl[c]? = some k∧d8 X an c k i∧k.what=0∧zv X.K i.ad m f∧m ∉ i.nm
theorem tA {l:List μ} {vs:List ζ} (h:m ∉ l):(l.zip vs).lookup m=none:=by
 induction l generalizing vs with
 | nil=>rfl
 | cons n r ih=>
   cases vs with
   | nil=>rfl
   | cons w vs=>
     show (match m == n with | true=>some w | false=>(r.zip vs).lookup m)=none
     rw [show (m == n)=false from ZU.mpr fun z=>h (by rw [z];exact κ)]
     exact ih fun z=>h (ι _ z)
theorem nJ {n:Nat} {l:List D} {p:Α×Α} {Q:ζ×List ζ→ν→Prop} {E:ζ→ν→Prop} {pl:DD Bool} (M:oU X an m c f) (I:Rep X z) (e:z.t.st[n]? = some (.ins c l)) (ep:z.ρ[n]? = some p) (q:Q (.ref f,[.ref p.1]) z.s):χ X.M X.A (E0 (.ref p.1) m pl) Q E z.s:=by
 obtain ⟨i,k,hc,ok,w,hm,nm⟩:=M.ex
 obtain ⟨i',vs,w1,w2,w3,w4,w5⟩:=I.ob n _ p e ep
 have e4:=ok.ci
 rw [w1] at e4;cases e4
 exact qO I.toHR.kin (InO.objm w4) ((ok.cls (by omega)).get m) hm.at_ hm.fn (tA nm) q
theorem nK {o:Out D} {f:List D→Sta→Out D} {x:D} (e:o=(match x with
 | .ref p=>(match z.t.st[p]? with
   | some (.ins c' _)=>if c'=c then (X.evs true es z.t).bind fun l s=>iD X.cal es j (x :: l) s else .bad
   | _=>.bad)
 | _=>.bad)) (nb:o≠.bad):∃ n l,x = .ref n∧z.t.st[n]? = some (.ins c l)∧o=(X.evs true es z.t).bind fun l s=>iD X.cal es j (.ref n :: l) s:=by
 cases x with
 | ref n=>
   dsimp only at e
   cases q:z.t.st[n]? with
   | none=>rw [q] at e;exact ZX e nb
   | some ob=>
     rw [q] at e
     cases ob with
     | ins c' l=>
       dsimp only at e
       by_cases h:c'=c
       ·subst h;rw [ZZ rfl] at e;exact ⟨n,l,rfl,q,e⟩
       ·rw [ZY h] at e;exact ZX e nb
     | _=>exact ZX e nb
 | _=>exact ZX e nb
theorem x9 (F:bX X X.cal lv j f) (hr:bq lv X.A) (M:oU X an m c f) (ho:LE X eo a) (ha:LA X (ea :: er) es) (he:Δ (ea :: er) X.env=(false,eval ea X.env) :: Δ er X.env) (hpl:(Ϻ pos (Δ er X.env)).any (·.1)=false)
 (ht:eval (.Call (.Attribute eo m apos) (ea :: er) [] pos) X.env=(do
  let ov ← eval eo X.env
  ř apos.atName
  let (f,first) ← holding [ov] (E0 ov m pl)
  Ŭ pos f first (Ϻ pos (Δ (ea :: er) X.env)) (Í pos (Ϭ [] X.env)))):LE X (.Call (.Attribute eo m apos) (ea :: er) [] pos) (.mth c j a es):=fun br z I nb=>
 œ (pl:=pl) ((ho true).go .refl I rfl nb fun z1 x u y1 x1 I1 r1 e1=>by
  obtain ⟨n,l,rfl,q,e1⟩:=nK (f:=fun _ _=>.bad) e1 nb
  obtain ⟨p,ep,rfl⟩:=(r1.rb.cr0 I1:RD X.W z1.ρ z1.G (.ref n) u)
  exact nJ M I1 q ep (ī (first:=[.ref p.1]) (h₀:=X.base) I.md.kin (let ⟨_,_,_,_,_,k⟩:=F;k) ((ha true pos).go x1 I1 e1 nb fun z2 l us y2 x2 I2 r2 e2=>⟨I2.toHR.kin,ib (us:=.ref p.1 :: us) F hr x2 I2 (.cons (d:=.ref n) ⟨p,gj y2.st.pr ep,rfl⟩ (j5 (I2.rel _).1 (I2.rel _).2.st.gg gG (fun _ h=>h) r2)) e2 nb⟩) he hpl)) ht
theorem uC (F:bX X X.cal lv j f) (hr:bq lv X.A) (M:oU X an m c f) (ho:LE X eo a)
 (ht:eval (.Call (.Attribute eo m apos) [] [] pos) X.env=(do
  let ov ← eval eo X.env
  ř apos.atName
  let (f,first) ← holding [ov] (E0 ov m pl)
  Ŭ pos f first (Ϻ pos (Δ [] X.env)) (Í pos (Ϭ [] X.env)))):LE X (.Call (.Attribute eo m apos) [] [] pos) (.mth c j a .nil):=fun br z I nb=>
 œ (pl:=pl) ((ho true).go .refl I rfl nb fun z1 x u y1 x1 I1 r1 e1=>by
  obtain ⟨n,l,rfl,q,e1⟩:=nK (f:=fun _ _=>.bad) e1 nb
  obtain ⟨p,ep,rfl⟩:=(r1.rb.cr0 I1:RD X.W z1.ρ z1.G (.ref n) u)
  exact nJ M I1 q ep (El (first:=[.ref p.1]) I1.toHR.kin (let ⟨_,_,_,_,_,k⟩:=F;k) (ib (us:=[.ref p.1]) (es:=.nil) F hr x1 I1 (.cons (d:=.ref n) (ds:=[]) ⟨p,ep,rfl⟩ rfl) e1 nb))) ht
theorem eX (C:Α) (us:List ζ) (kw:List (μ×ζ)):(X.A.under (.builtin "type.__call__" ⟨.ref C :: us,kw⟩)).frames=X.A.frames:=by simp [Ed,Code.envs,Es,pushEnvs]
theorem fj:Mu (ρ ++ [p]) a↔Mu ρ a∨a=p.1∨a=p.2:=by
 constructor
 ·rintro ⟨q,h,e⟩
  rcases ë.mp h with h | h
  ·exact .inl ⟨q,h,e⟩
  ·cases η.mp h;exact .inr e
 ·rintro (⟨q,h,e⟩ | e)
  ·exact ⟨q,Ŵ _ h,e⟩
  ·exact ⟨p,ŧ _ κ,e⟩
theorem aY {l:List α} (e:(l ++ [a])[n]? = some b):l[n]? = some b∨(n=l.length∧b=a):=by
 rcases Nat.lt_trichotomy n l.length with h | h | h
 ·rw [ό h] at e;exact .inl e
 ·subst h;rw [Ν (Ω _),ı] at e;cases e;exact .inr ⟨rfl,rfl⟩
 ·rw [Ν (ú h),Ũ (by simp;omega)] at e;cases e
theorem HR.snoc (I:HR X z) (g:Gr z.s s') (hp:z.h p.1=none∧z.h p.2=none) (r:ObR X.W (z.ρ ++ [p]) z.G s'.heap.get? p o) (tk:X.tz≤s'.toks:=by first | assumption | exact HR.tk (by assumption) | exact HR.tk1 (by assumption) | exact (Rep.toHR (by assumption)).tk | exact (Rep.toHR (by assumption)).tk1 | exact ϒ (by assumption)):HR X { z with ρ:=z.ρ ++ [p],t:=⟨z.t.env,z.t.ow,z.t.st ++ [o]⟩,s:=s' }∧Stp X.fr w z { z with ρ:=z.ρ ++ [p],t:=⟨z.t.env,z.t.ow,z.t.st ++ [o]⟩,s:=s' }:=by
 have nn:∀ {a:Α},(a=p.1∨a=p.2)→z.h a=none:=fun h=>h.elim (fun e=>e ▸ hp.1) fun e=>e ▸ hp.2
 have pre:z.ρ <+: z.ρ ++ [p]:=ß _ _
 have no:∀ {a:Α} {P:Prop},(a=p.1∨a=p.2)→(∃ o,z.h a=some o)→P:=fun h ⟨o,e⟩=>by rw [nn h] at e;cases e
 have old:∀ {i:Nat} {q:Α×Α} {a:Α},z.ρ[i]? = some q→(a=q.1∨a=q.2)→∃ o,z.h a=some o:=fun h1 h2=>I.th ⟨_,ο h1,h2⟩
 refine ⟨⟨I.md,I.fm,I.hd,I.bs,fun a o e=>g.k a o (I.gh a o e),by simp [I.rl],fun i j q1 q2 a h1 h2 h3 h4=>?_,fun a m=>?_,fun n o' q h1 h2=>?_,nfu I.fu g.k,fun b m=>⟨(I.ff b m).1,fun w=>(fj.mp w).elim (I.ff b m).2 fun w=>no w (I.fth m)⟩,by show Ş s'.gens;rw [g.gs];exact I.br,g.os.trans I.os,tk⟩,⟨pre,.refl _,fun _ _ e=>.inl e,fun a m=>(fj.mp m).imp_right nn,fun a o e=>⟨o,g.k a o e⟩,fun a o e _ _ _=>g.k a o e,fun a o e _ _ _=>⟨o.slots,g.k a o e⟩⟩⟩
 ·rcases aY h1 with a1 | ⟨a1,b1⟩
  ·rcases aY h2 with a2 | ⟨a2,b2⟩
   ·exact I.rn i j q1 q2 a a1 a2 h3 h4
   ·subst b2;exact no h4 (old a1 h3)
  ·subst b1
   rcases aY h2 with a2 | ⟨a2,b2⟩
   ·exact no h3 (old a2 h4)
   ·rw [a1,a2]
 ·rcases fj.mp m with m | m
  ·exact I.rg a m
  ·cases q:z.G a with
   | none=>rfl
   | some o=>exact no m ⟨o,I.gh a o q⟩
 ·rcases aY h2 with a2 | ⟨a2,b2⟩
  ·rcases aY h1 with a1 | ⟨a1,_⟩
   ·exact (I.ob n o' q a1 a2).mono pre (.refl _) fun a _ o e=>g.k a o e
   ·have:=(ς.mp a2).1;rw [I.rl] at this;omega
  ·subst b2
   rcases aY h1 with a1 | ⟨_,b1⟩
   ·have:=(ς.mp a1).1;rw [← I.rl] at this;omega
   ·subst b1;exact r
theorem HR.at {A:Ϗ} (I:HR X z) (f:A.frames=X.A.frames) (h:A.handled=X.A.handled):HR { X with A:=A } z:=⟨I.md,f.trans I.fm,fun c=>h.trans (I.hd c),I.bs,I.gh,I.rl,I.rn,I.rg,I.ob,I.fu,I.ff,I.br,I.os,I.tk⟩
theorem ou {o:Out D} {j:Nat} {cl:Cl} {i:CI} (F:bX X X.cal1 lv cl.init f) (hr:bq (lv+1) X.A) (M:Mk X.K i.ad f) (hcl:X.Γ.cl[j]? = some cl) (hw:cl.what=0) (hci:X.W.ci[j]? = some i) (hwh:X.W.what[j]? = some 0) (x:Ee X z0 z) (I:Rep X z) (r:RVs X.W true es z l us)
 (e:o=(match X.Γ.cl[j]? with
 | some k=>if k.what=1 then (if l.length=k.at_.length then .ok (.ins j l) (drp es z.t z.t.st) else .bad)
   else if k.what=0 then (match X.cal1 k.init (.ref z.t.st.length :: l) (z.t.st ++ [.ins j []]) with
    | .ok .non st=>.ok (.ref z.t.st.length) (aft es z.t .non st)
    | _=>.bad)
   else .bad
 | none=>.bad)) (nb:o≠.bad):χ X.M X.A (call (.ref i.ad) us) (Pe X z0 o (RV X.W br c)) (Px X z0 o) z.s:=by
 rw [hcl] at e
 dsimp only at e
 rw [ZY (by omega),ZZ hw] at e
 obtain ⟨Ir,xr⟩:=I.rel fun i=>!(bI es).contains i
 obtain ⟨fd,ps,dvs,F,hb,kp⟩:=F
 have nbc:X.cal1 cl.init (.ref z.t.st.length :: l) (z.t.st ++ [.ins j []])≠.bad:=fun q=>by rw [q] at e;exact nb e
 have g:Gr z.s { z.s with heap:=(z.s.heap.push Ϟ).push (ϡ i.ad z.s.heap.objs.size) }:=⟨rfl,rfl,fun b o e=>τ _ (τ _ e)⟩
 have e1:(z.s.heap.push Ϟ).get? z.s.heap.objs.size=some Ϟ:=ψ z.s.heap rfl
 have e2:((z.s.heap.push Ϟ).push (ϡ i.ad z.s.heap.objs.size)).get? (z.s.heap.objs.size+1)=some (ϡ i.ad z.s.heap.objs.size):=by
  have:=ψ (z.s.heap.push Ϟ) (o:=ϡ i.ad z.s.heap.objs.size) rfl
  rwa [ϯ] at this
 have hn:z.h (z.s.heap.objs.size+1)=none∧z.h z.s.heap.objs.size=none:=⟨ϖ (Ñ _),ϖ (Ω _)⟩
 have ne:z.s.heap.objs.size≠z.s.heap.objs.size+1:=ϝ (ŕ _)
 obtain ⟨H1,S1⟩:=HR.snoc (w:=NoW) (p:=(z.s.heap.objs.size+1,z.s.heap.objs.size)) (o:=.ins j []) Ir.toHR g hn ⟨i,[],hci,hwh,ϲ _,⟨e2,ne,by simp,_,τ _ e1,#[],_,rfl,(fun e he=>ZX he (by simp)),.nil,fun n=>by cases i.nm <;> rfl⟩,rfl⟩
 have at0:(z.ρ ++ [(z.s.heap.objs.size+1,z.s.heap.objs.size)])[z.t.st.length]? = some (z.s.heap.objs.size+1,z.s.heap.objs.size):=by rw [Ν (by rw [I.rl];exact Ω _),I.rl,ı];rfl
 have rd0:=j5 Ir xr.st.gg gG (fun _ h=>h) r
 have rd:RDs X.W (z.ρ ++ [(z.s.heap.objs.size+1,z.s.heap.objs.size)]) (z.rel fun i=>!(bI es).contains i).G (.ref z.t.st.length :: l) (.ref (z.s.heap.objs.size+1) :: us):=.cons ⟨_,at0,rfl⟩ (rd0.mono (ß _ _) (.refl _))
 have bd:=hb { z.s with heap:=(z.s.heap.push Ϟ).push (ϡ i.ad z.s.heap.objs.size) } (.ref (z.s.heap.objs.size+1) :: us) (I.toHR.kin.keeps g.k) (by rw [ω,← rd.len];exact F.len _ _ nbc)
 refine Ċ (kW (f:=f) I.toHR.kin M.makes M.init (beq_iff_eq.mp M.fn) (â (F.run _ X.fr _ ⟨.ref (z.s.heap.objs.size+1) :: us,[]⟩ _ _ (hr.make i.ad us []) (H1.at (eX i.ad us []) rfl) bd rd nbc) fun q s' hq=>?_))
 cases q with
 | error e'=>obtain ⟨z',c,l',_,er,_,_,_⟩:=hq;rw [show X.cal1 cl.init (.ref z.t.st.length :: l) (z.t.st ++ [.ins j []])=_ from er] at e;exact ZX e nb
 | ok fl=>
   cases fl with
   | ret u=>
     obtain ⟨z',d,rfl,er,S,H,r⟩:=hq
     rw [show X.cal1 cl.init (.ref z.t.st.length :: l) (z.t.st ++ [.ins j []])=_ from er] at e
     cases d with
     | non=>
       refine ⟨(show u = .none from r),?_⟩
       have S2:Stp X.fr NoW (z.rel fun i=>!(bI es).contains i) z':=S1.trans S fun _ h=>h.elim
       have H2:HR X z':=H.at (X:={ X with A:=_,fr:=X.fr }) (A:=X.A) (eX i.ad us []).symm rfl
       obtain ⟨zf,f1,f2,f3,If,xf,k1,k2,k3⟩:=I.back (fun i=>!(bI es).contains i) (fun i=>!(bI es).contains i || (isLst z.t.env[i]? && (noL .non && z'.t.st.all k7))) S2 H2 (fun i h=>by rw [h];rfl) fun i _ h=>by
        cases w:(!(bI es).contains i) with
        | true=>exact .inl rfl
        | false=>rw [w,Gq,Χ,Χ] at h;exact .inr ⟨h.1,h.2.2⟩
       refine Pe.less x ⟨zf,.ref z.t.st.length,f1,by rw [e,f2];rfl,xf,If,.of ⟨(z.s.heap.objs.size+1,z.s.heap.objs.size),?_,rfl⟩⟩
       rw [f3]
       exact gj S.pr at0
     | _=>exact ZX e nb
   | next=>exact hq.elim
   | brk=>exact hq.elim
   | cont=>exact hq.elim
end
def Ps (X:Cx) (z:Z) (o:am) (f:Flow) (s':ν):Prop:=match o with
 | .nx t=>f = .next∧∃ z',z'.s=s'∧z'.t=t∧Go X z z'∧Rep X z'
 | .rt d t=>∃ u z',f = .ret u∧z'.s=s'∧z'.t.st=t.st∧Go X z z'∧Rep X z'∧RD X.W z'.ρ z'.G d u
 | _=>False
inductive PxS (X:Cx) (z:Z) (o:am) (x:ζ) (s':ν):Prop
 | mk (z':_) (c:_) (l:_) (_:z'.s=s') (_:o = .exc c l z'.t) (_:Go X z z') (_:Rep X z') (_:XO X z z' c l x)
abbrev Ws (X:Cx) (t:DD Flow) (z:Z) (o:am):Prop:=χ X.M X.A t (Ps X z o) (PxS X z o) z.s
def LS (X:Cx) (st:Ë) (c:S):Prop:=∀ z,Rep X z→X.ex c z.t≠.bad→Ws X (exec st X.env) z (X.ex c z.t)
def LSs (X:Cx) (st:List Ë) (c:S):Prop:=∀ z,Rep X z→X.ex c z.t≠.bad→Ws X (execs st X.env) z (X.ex c z.t)
section
variable {X:Cx} {z z' z0 z1:Z}
theorem Ps.less (x:Go X z z1) (h:Ps X z1 o f s'):Ps X z o f s':=by
 cases o with
 | nx t=>obtain ⟨e,z',a,b,y,I⟩:=h;exact ⟨e,z',a,b,x.trans y,I⟩
 | rt d t=>obtain ⟨u,z',e,a,b,y,I⟩:=h;exact ⟨u,z',e,a,b,x.trans y,I⟩
 | _=>exact h
theorem PxS.less (x:Go X z z1) (h:PxS X z1 o u s'):PxS X z o u s':=let ⟨z',c,l,e,q,y,I,n⟩:=h;⟨z',c,l,e,q,x.trans y,I,n.less fun _=>x.st.no⟩
theorem PxS.of {m:Out α} (x:Go X z z1) (h:Px X z1 m u s') {f:α→Sta→am}:PxS X z (m.go f) u s':=let ⟨z',c,l,e,q,y,I,n⟩:=h;⟨z',c,l,e,by rw [q];rfl,x.trans y.go,I,n.less fun _=>x.st.no⟩
theorem Jg.gos {t:DD β} {m:Sta→Out α} {R:Z→α→β→Prop} {f:α→Sta→am} {o:am} {K:β→ν→Prop} (h:Jg X t m R) (x:Go X z z1) (I:Rep X z1) (e:o=(m z1.t).go f) (nb:o≠.bad)
 (k:∀ z2 d u,Ee X z1 z2→Go X z z2→Rep X z2→R z2 d u→o=f d z2.t→K u z2.s):χ X.M X.A t K (PxS X z o) z1.s:=by
 subst e
 refine Κ (h z1 I fun q=>nb (by rw [q];rfl)) (fun u s' ⟨z2,d,e,q,y,I1,r⟩=>?_) fun u s' h=>.of x h
 subst e;exact k z2 d u y (x.trans y.go) I1 r (by rw [q];rfl)
theorem nxt (x:Go X z z1) (I:Rep X z1) (e:o = .nx z1.t):Ps X z o .next z1.s:=by subst e;exact ⟨rfl,z1,rfl,rfl,x,I⟩
theorem LSs.at (h:LSs X sts c) (x:Go X z z1) (I:Rep X z1) (e:o=X.ex c z1.t) (nb:o≠.bad):χ X.M X.A (execs sts X.env) (Ps X z o) (PxS X z o) z1.s:=by subst e;exact Κ (h z1 I nb) (fun _ _ h=>h.less x) fun _ _ h=>h.less x
theorem rU:LSs X [] .skip:=fun z I _=>ļ (nxt .refl I rfl)
theorem rV (h:LS X tm c):LSs X [tm] c:=fun z I nb=>Ū (thn (h z I nb) fun f s1 q=>by
 cases f with
 | next=>exact ļ q
 | ret v=>exact q
 | brk=>exact q
 | cont=>exact q)
theorem nu (h1:LS X tm a) (h2:LSs X rest b):LSs X (tm :: rest) (.seq a b):=fun z I nb=>by
 have nb1:X.ex a z.t≠.bad:=fun q=>nb (show am.go (X.ex a z.t) _=_ by rw [q];rfl)
 refine Ū (Κ (h1 z I nb1) (fun f s1 q=>?_) fun u s' ⟨z',c,l,e,q,y,J,r⟩=>⟨z',c,l,e,show am.go (X.ex a z.t) _=_ by rw [q];rfl,y,J,r⟩)
 cases qa:X.ex a z.t with
 | nx t=>
   rw [qa] at q
   obtain ⟨rfl,z1,rfl,rfl,x1,I1⟩:=q
   exact h2.at x1 I1 (show am.go (X.ex a z.t) _=_ by rw [qa];rfl) nb
 | rt d t=>
   have e:X.ex (.seq a b) z.t = .rt d t:=show am.go (X.ex a z.t) _=_ by rw [qa];rfl
   rw [qa] at q
   obtain ⟨u,z1,rfl,r⟩:=q
   show Ps X z (X.ex (.seq a b) z.t) (.ret u) s1
   rw [e];exact ⟨u,z1,rfl,r⟩
 | exc c l t=>rw [qa] at q;exact q.elim
 | bad=>exact ZX qa nb1
theorem nz (h:∀ z,Rep X z→χ X.M X.A (exec tm X.env) (fun f s'=>f = .next∧Gr z.s s') NoE z.s):LS X tm .skip:=fun z I _=>Κ (ϙ I.tk (h z I)) (fun f s' ⟨tk,e,g⟩=>by subst e;exact nxt (z1:={ z with s:=s' }) (aw I.gh g).ee.go (I.grow (aw I.gh g) tk) rfl) fun _ _ z=>z.2.elim
theorem uS:LS X (.Pass pos) .skip:=nz fun _ _=>wpAny_Pass ⟨rfl,.refl⟩
theorem Rep.quiet (I:Rep X z):interactive X.env=false:=by simp [interactive,I.ok.kd]
theorem yl:LS X (.Expr (.Constant (.str x) j pos) pos') .skip:=nz fun z I=>wpAny_Expr (ö (show _∧_ from ⟨rfl,.tok⟩)) I.quiet
theorem uO (he:LE X e c) (hs:D3 e none pos.line X.env=pure false):LS X (.Expr e pos) (.drop c):=fun z I nb=>ŉ ((he false).gos .refl I rfl nb fun z1 d u y x I1 r e1=>nxt x I1 e1) I.quiet hs
theorem mq (he:LE X e c):LS X (.Return (some e) pos) (.ret c):=fun z I nb=>wpAny_Return_some ((he false).gos .refl I rfl nb fun z1 d u y x I1 r e1=>by
 show Ps X z (X.ex (.ret c) z.t) _ _
 rw [e1];exact ⟨u,z1,rfl,rfl,rfl,x,I1,r.rd⟩)
theorem uV:LS X (.Return none pos) (.ret (.c .non)):=fun z I nb=>wpAny_Return_none ⟨.none,z,rfl,rfl,rfl,.refl,I,rfl⟩
theorem AS (hc:LT X ec c) (ha:LSs X sa a) (hb:LSs X sb b):LS X (.If ec sa sb pos) (.ifs c a b):=fun z I nb=>by
 have e:X.ex (.ifs c a b) z.t=((X.ev true c z.t).bind toB).go fun t s=>if t then X.ex a s else X.ex b s:=by
  show Out.go (X.ev true c z.t) _=_
  cases X.ev true c z.t with
  | ok d s=>cases d <;> first | rfl | (rename_i t;cases t <;> rfl)
  | _=>rfl
 refine wpAny_If (hc.gos .refl I e nb fun z1 t u y x I1 r e1=>?_)
 cases (show u=t from r)
 cases t with
 | true=>exact ha.at x I1 e1 nb
 | false=>exact hb.at x I1 e1 nb
def Vl (X:Cx) (z0 z:Z) (own:Bool) (d:D) (u:ζ):Prop:=match own with
 | false=>RD X.W z.ρ z.G d u
 | true=>FV X z0 z d u
def stV (t:Sta) (i:Nat) (d:D) (own:Bool):Sta:=⟨t.env.set i (some d),if own then i :: t.ow.filter (· != i) else t.ow.filter (· != i),t.st⟩
theorem jE {h h' base:ϳ} (k:∀ b o,h.get? b=some o→(∀ vs,o.data≠.fields vs)→∃ o',h'.get? b=some o'∧∀ vs,o'.data≠.fields vs):∀ {l:List CL},h.FunFrames base l→h'.FunFrames base l
 | [],_=>trivial
 | _ :: _,⟨a,⟨L,o,e1,e2,e3,e4⟩,r⟩=>let ⟨o',q1,q2⟩:=k L o e3 e4;⟨a,⟨L,o',e1,e2,q1,q2⟩,jE k r⟩
theorem Rep.put {s':ν} {i:Nat} {own:Bool} {d:D} {u:ζ} (x0:Go X z0 z) (I:Rep X z) (sb:Ü a z.s.heap s'.heap) (la:Lc X a) (th:∃ o,s'.heap.get? a=some o∧∀ vs,o.data≠.fields vs) (os:s'.os=z.s.os) (gs:s'.gens=z.s.gens) (vl:Vl X z0 z own d u) (hi:i<X.N.length)
 (lo:∃ m,s'.heap.Ns X.env.locals m∧∀ (j:Nat) (x:μ) (w:ζ),X.N[j]? = some x→(z.σ.set i (some u))[j]? = some (some w)→Vis X.env.scope x→lQ X.env s'.heap m x w)
 (ce:∀ x c,X.env.cells.lookup x=some c→∃ v,s'.heap.IsCell c v) (tk:X.tz≤s'.toks:=by first | assumption | exact HR.tk (by assumption) | exact HR.tk1 (by assumption) | exact (Rep.toHR (by assumption)).tk | exact (Rep.toHR (by assumption)).tk1 | exact ϒ (by assumption)):Rep X { z with t:=stV z.t i d own,σ:=z.σ.set i (some u),s:=s' }∧Go X z0 { z with t:=stV z.t i d own,σ:=z.σ.set i (some u),s:=s' }:=by
 have ne:∀ {b:Α},¬ Lc X b→s'.heap.get? b=z.h b:=fun n=>sb.2 _ fun e=>n (e ▸ la)
 have nG:∀ {b o},z.G b=some o→¬ Lc X b:=fun e l=>by rw [(I.fl _ l).1] at e;cases e
 have nM:∀ {b},Mu z.ρ b→¬ Lc X b:=fun m l=>(I.fl _ l).2 m
 have hiσ:i<z.σ.length:=by rw [I.sl];exact hi
 have ow:∀ {j},j∈(stV z.t i d own).ow→(j=i∧own=true)∨(j≠i∧j∈z.t.ow):=fun {j} m=>by
  cases own with
  | true=>
    rcases π.mp (show j∈i :: z.t.ow.filter (· != i) from m) with w | w
    ·exact .inl ⟨w,rfl⟩
    ·have:=ϔ.mp w;exact .inr ⟨by simpa using this.2,this.1⟩
  | false=>have:=ϔ.mp (show j∈z.t.ow.filter (· != i) from m);exact .inr ⟨by simpa using this.2,this.1⟩
 have wo:∀ {j},j≠i→j∈z.t.ow→j∈(stV z.t i d own).ow:=fun {j} n m=>by
  have w:j∈z.t.ow.filter (· != i):=ϔ.mpr ⟨m,by simpa using n⟩
  cases own with
  | true=>exact ι _ w
  | false=>exact w
 have get:∀ {j},j≠i→(z.σ.set i (some u))[j]? = z.σ[j]?:=fun h=>Φ (ϥ h)
 have gete:∀ {j},j≠i→(z.t.env.set i (some d))[j]? = z.t.env[j]?:=fun h=>Φ (ϥ h)
 have gi:(z.σ.set i (some u))[i]? = some (some u):=ϧ hiσ
 have gie:(z.t.env.set i (some d))[i]? = some (some d):=ϧ (by rw [I.el];exact hiσ)
 have fu:s'.heap.FunFrames X.base X.fr:=jE (fun b o e nf=>by
  by_cases q:b=a
  ·subst q;exact th
  ·exact ⟨o,(sb.2 b q).trans e,nf⟩) I.fu
 have th':∀ b o,z.h b=some o→∃ o',s'.heap.get? b=some o':=fun b o e=>by
  by_cases q:b=a
  ·subst q;exact th.imp fun _ h=>h.1
  ·exact ⟨o,(sb.2 b q).trans e⟩
 have S:Stp X.fr (Pv X z) z { z with t:=stV z.t i d own,σ:=z.σ.set i (some u),s:=s' }:=⟨ξ _,.refl _,fun _ _ e=>.inl e,fun _ m=>.inl m,th',fun b o e _ w _=>(ne fun l=>w (.inr l)).trans e,fun b o e _ w _=>⟨o.slots,(ne fun l=>w (.inr l)).trans e⟩⟩
 refine ⟨⟨⟨I.md,I.fm,I.hd,I.bs,fun b o e=>(ne (nG e)).trans (I.gh b o e),I.rl,I.rn,I.rg,fun n o p h1 h2=>(I.ob n o p h1 h2).mono (ξ _) (.refl _) fun b hb o e=>(ne (nM ⟨p,ο h2,hb⟩)).trans e,fu,I.ff,by show Ş s'.gens;rw [gs];exact I.br,os.trans I.os,tk⟩,I.ok,lo,ce,I.fl,by show (z.t.env.set i (some d)).length=(z.σ.set i (some u)).length;rw [Ϸ,Ϸ];exact I.el,by show (z.σ.set i (some u)).length=_;rw [Ϸ];exact I.sl,fun j d' n e=>?_,fun j m=>?_,fun j k b m1 m2 e1 e2=>?_⟩,x0.st.trans S fun b w=>w.elim (fun w=>(x0.ow b w).imp_left .inl) fun w=>.inl (.inr w),fun b ⟨j,m,e⟩=>?_⟩
 ·by_cases q:j=i
  ·subst q
   rw [show (z.t.env.set j (some d))[j]? = some (some d') from e] at gie;cases gie
   cases own with
   | true=>exact ZX κ n
   | false=>exact ⟨u,gi,vl⟩
  ·obtain ⟨w,e1,r⟩:=I.en j d' (fun m=>n (wo q m)) ((gete q).symm.trans e)
   exact ⟨w,(get q).trans e1,r⟩
 ·rcases ow m with ⟨rfl,rfl⟩ | ⟨q,m⟩
  ·obtain ⟨b,o,rfl,_,t,r,f,no⟩:=vl
   exact ⟨d,b,o,gie,gi,t,r.mono (ξ _) (.refl _) fun c hc o e=>(ne (by rcases hc with rfl | rfl <;> exact f.2.2.2)).trans e,f⟩
  ·obtain ⟨d',b,o,h1,h2,h3,r,f⟩:=I.eo j m
   exact ⟨d',b,o,(gete q).trans h1,(get q).trans h2,h3,r.mono (ξ _) (.refl _) fun c hc o e=>(ne (by rcases hc with rfl | rfl <;> exact f.2.2.2)).trans e,f⟩
 ·have new:∀ {k:Nat} {b:Α},own=true→k∈z.t.ow→(z.σ.set i (some u))[i]? = some (some (.ref b))→z.σ[k]? = some (some (.ref b))→False:=fun {k b} ho mk w1 w2=>by
   subst ho
   obtain ⟨b',o,rfl,_,t,r,f,no⟩:=vl
   rw [gi] at w1;cases w1
   exact no ⟨k,mk,w2⟩
  rcases ow m1 with ⟨h1,ho⟩ | ⟨q1,n1⟩ <;> rcases ow m2 with ⟨h2,ho2⟩ | ⟨q2,n2⟩
  ·exact h1.trans h2.symm
  ·exact (new ho n2 (h1 ▸ e1) ((get q2).symm.trans e2)).elim
  ·exact (new ho2 n1 (h2 ▸ e2) ((get q1).symm.trans e1)).elim
  ·exact I.od j k b n1 n2 ((get q1).symm.trans e1) ((get q2).symm.trans e2)
 ·rcases ow m with ⟨rfl,rfl⟩ | ⟨q,m⟩
  ·obtain ⟨b',o,rfl,n,_⟩:=vl
   rw [show (z.σ.set j (some (.ref b')))[j]? = some (some (.ref b)) from e] at gi;cases gi
   exact .inr n
  ·exact x0.ow b ⟨j,m,(get q).symm.trans e⟩
theorem Rep.cne (I:Rep X z):∀ x c,X.env.cells.lookup x=some c→c≠X.env.locals:=fun x c e q=>by
 obtain ⟨v,o,ho,hd⟩:=I.ce x c e
 obtain ⟨m,⟨o',es,ep,ho',hd',_⟩,_⟩:=I.lo
 rw [q,ho'] at ho;cases ho;rw [hd'] at hd;cases hd
theorem cz {i:Nat} {x:μ} {own:Bool} {d:D} {u:ζ} {Q:Unit→ν→Prop} {E:ζ→ν→Prop} (x0:Go X z0 z) (I:Rep X z) (hN:X.N.Nodup) (hi:X.N[i]? = some x) (hx:Loc X.env.scope x) (vl:Vl X z0 z own d u)
 (h:∀ s' a,Ü a z.s.heap s'.heap→Lc X a∧(X.env.scope.names.lookup x=some .local→a=X.env.locals)→Rep X { z with t:=stV z.t i d own,σ:=z.σ.set i (some u),s:=s' }→Go X z0 { z with t:=stV z.t i d own,σ:=z.σ.set i (some u),s:=s' }→Q () s'):χ X.M X.A (storeName X.env x u) Q E z.s:=by
 obtain ⟨m,hn,hl⟩:=id I.lo
 have hcls:(X.env.scope.kind == .class || (X.env.scope.kind == .module && X.env.locals != X.env.globals))=false:=by rw [I.ok.kd];rfl
 have il:i<X.N.length:=(ς.mp hi).1
 have hiσ:i<z.σ.length:=by rw [I.sl];exact il
 rcases hx with hk | hk
 ·refine Fq hk hn (fun h' hn' hs=>?_) hcls
  have ⟨oL,es,ep,hoL,hdL,_⟩:=hn'
  have lo:∀ (j:Nat) (y:μ) (w:ζ),X.N[j]? = some y→(z.σ.set i (some u))[j]? = some (some w)→Vis X.env.scope y→lQ X.env h' (fun y=>if y=x then some u else m y) y w:=fun j y w e1 e2 e3=>by
   by_cases hj:j=i
   ·subst hj
    rw [hi] at e1;cases e1
    rw [ϧ hiσ] at e2;cases e2
    exact .inl ⟨hk,by simp⟩
   ·rw [Φ (ϥ hj)] at e2
    rcases hl j y w e1 e2 e3 with ⟨k,e⟩ | ⟨k,c,e,q⟩
    ·have:y≠x:=fun e=>hj (hH hN e1 (e ▸ hi))
     exact .inl ⟨k,by simp [this,e]⟩
    ·exact .inr ⟨k,c,e,q.sameBut hs (I.cne y c e)⟩
  obtain ⟨I',g'⟩:=Rep.put (s':={ z.s with heap:=h',toks:=z.s.toks+1 }) x0 I hs (.inl rfl) ⟨oL,hoL,fun vs e=>by rw [hdL] at e;cases e⟩ rfl rfl vl il ⟨_,hn',lo⟩ fun y c e=>let ⟨v,q⟩:=I.ce y c e;⟨v,q.sameBut hs (I.cne y c e)⟩
  exact h _ _ hs ⟨.inl rfl,fun _=>rfl⟩ I' g'
 ·obtain ⟨c,hc⟩:=I.ok.ch x (.inl hk)
  obtain ⟨w',q0⟩:=I.ce x c hc
  refine wpAny_storeName_cell I.ok.kd hk hc q0 (fun h' hc' hs=>?_)
  have ⟨oc,hoc,hdc⟩:=hc'
  have lo:∀ (j:Nat) (y:μ) (w:ζ),X.N[j]? = some y→(z.σ.set i (some u))[j]? = some (some w)→Vis X.env.scope y→lQ X.env h' m y w:=fun j y w e1 e2 e3=>by
   by_cases hj:j=i
   ·subst hj
    rw [hi] at e1;cases e1
    rw [ϧ hiσ] at e2;cases e2
    exact .inr ⟨.inl hk,c,hc,hc'⟩
   ·rw [Φ (ϥ hj)] at e2
    rcases hl j y w e1 e2 e3 with q | ⟨k,c',e,q⟩
    ·exact .inl q
    ·refine .inr ⟨k,c',e,q.sameBut hs ?_⟩
     rintro rfl
     exact hj (hH hN e1 (I.ok.ci _ _ _ e hc ▸ hi))
  have ce:∀ y c',X.env.cells.lookup y=some c'→∃ v,h'.IsCell c' v:=fun y c' e=>by
   by_cases hcc:c'=c
   ·subst hcc;exact ⟨_,hc'⟩
   ·obtain ⟨w2,q2⟩:=I.ce y c' e
    exact ⟨w2,q2.sameBut hs hcc⟩
  obtain ⟨I',g'⟩:=Rep.put (s':={ z.s with heap:=h' }) x0 I hs (.inr ⟨x,hc⟩) ⟨oc,hoc,fun vs e=>by rw [hdc] at e;cases e⟩ rfl rfl vl il ⟨m,hn.sameBut hs (ϥ (I.cne x c hc)),lo⟩ ce
  exact h _ _ hs ⟨.inr ⟨x,hc⟩,fun e=>by rw [show X.env.scope.names.lookup x=some .cell from hk] at e;cases e⟩ I' g'
theorem mw (hN:X.N.Nodup) (hi:X.N[i]? = some x) (hx:Loc X.env.scope x) (he:LE X e c) (hf:aM c=true→LF X e c) (hs:D3 e (some (.Name x pos')) pos.line X.env=pure false):LS X (.Assign [.Name x pos'] e pos) (.set i c):=fun z I nb=>by
 refine Gx ?_ hs
 cases f:aM c with
 | false=>
   refine (he false).gos .refl I rfl nb fun z1 d u y x0 I1 r e1=>cz (own:=false) x0 I1 hN hi hx r.rd fun s' a _ _ I' g'=>nxt (z1:={ z1 with t:=stV z1.t i d false,σ:=z1.σ.set i (some u),s:=s' }) g' I' ?_
   rw [e1];unfold mJ;rw [f];rfl
 | true=>
   have nb1:X.ev false c z.t≠.bad:=fun q=>nb (show Out.go (X.ev false c z.t) _=_ by rw [q];rfl)
   refine Κ (hf f z I nb1) (fun u s' ⟨z1,d,q1,q2,y,I1,fv⟩=>?_) fun u s' h=>.of .refl h
   subst q1
   refine cz (own:=true) y.go I1 hN hi hx fv fun s' a _ _ I' g'=>nxt (z1:={ z1 with t:=stV z1.t i d true,σ:=z1.σ.set i (some u),s:=s' }) g' I' ?_
   show Out.go (X.ev false c z.t) _=_
   rw [q2]
   show am.nx (mJ z1.t i d (aM c))=_
   unfold mJ
   have ld:xB d=true:=by
    obtain ⟨_,_,_,_,t,_⟩:=fv
    cases d <;> first | rfl | cases t
   rw [f,ld];rfl
end
def aJ:Λ→Bool
 | .Starred ..=>false
 | .Set ..=>false
 | .Slice ..=>false
 | _=>true
section
variable {X:Cx} {z z' z0 z1:Z}
theorem yJ {o:O} {hp:Hp} (q:ObR W ρ G hp (a,b) o) (e:∃ d:D,toO d=some o):∃ ob,hp a=some ob∧∀ vs,ob.data≠.fields vs:=by
 obtain ⟨d,e⟩:=e
 cases d <;> cases e
 ·obtain ⟨o,vs,_,q,⟨⟨n,rfl⟩,_⟩,_⟩:=q;exact ⟨_,q,nofun⟩
 ·obtain ⟨o,vs,_,_,q,⟨es,ep,_,w,_⟩,_⟩:=q;exact ⟨_,q,fun v z=>by rw [w] at z;cases z⟩
theorem Rep.ownw {s':ν} {i:Nat} {d':D} {o':O} (I:Rep X z) (m:i∈z.t.ow) (ea:z.σ[i]? = some (some (.ref a))) (t:toO d'=some o') (sb:∀ b,b≠a→s'.heap.get? b=z.h b) (r:ObR X.W z.ρ z.G s'.heap.get? (a,a) o') (os:s'.os=z.s.os) (gs:s'.gens=z.s.gens) (tk:X.tz≤s'.toks:=by first | assumption | exact HR.tk (by assumption) | exact HR.tk1 (by assumption) | exact (Rep.toHR (by assumption)).tk | exact (Rep.toHR (by assumption)).tk1 | exact HR.tk2 (Rep.toHR (by assumption)) | exact HR.tk3 (Rep.toHR (by assumption))) :
 Rep X { z with t:=⟨z.t.env.set i (some d'),z.t.ow,z.t.st⟩,s:=s' }∧Go X z { z with t:=⟨z.t.env.set i (some d'),z.t.ow,z.t.st⟩,s:=s' }:=by
 obtain ⟨f,oa,ha⟩:=I.oth ⟨i,m,ea⟩
 have nM:∀ {b},Mu z.ρ b→b≠a:=fun h e=>f.2.1 (e ▸ h)
 have nG:∀ {b o},z.G b=some o→b≠a:=fun h e=>by rw [e,f.1] at h;cases h
 have nL:∀ {b},Lc X b→b≠a:=fun h e=>f.2.2.2 (e ▸ h)
 have nf:∀ {b},b∈frs X.fr→b≠a:=fun h e=>f.2.2.1 (e ▸ h)
 obtain ⟨on,hn,_⟩:=yJ r ⟨d',t⟩
 have hie:i<z.t.env.length:=by obtain ⟨d,_,_,e,_⟩:=I.eo i m;exact (ς.mp e).1
 have ck:∀ x c v,X.env.cells.lookup x=some c→z.s.heap.IsCell c v→s'.heap.IsCell c v:=fun x c v e ⟨o,q,d⟩=>⟨o,(sb c (nL (.inr ⟨x,e⟩))).trans q,d⟩
 have fu:s'.heap.FunFrames X.base X.fr:=by
  have:∀ {l:List CL},(∀ b∈frs l,b≠a)→z.s.heap.FunFrames X.base l→s'.heap.FunFrames X.base l:=fun {l}=>by
   induction l with
   | nil=>exact fun _ _=>trivial
   | cons v r ih=>
     intro hs ⟨k,⟨L,o,e1,e2,e3,e4⟩,q⟩
     have hm:L∈frs (v :: r):=by unfold frs;rw [Ϧ,e1];exact κ
     exact ⟨k,⟨L,o,e1,e2,(sb L (hs L hm)).trans e3,e4⟩,ih (fun b hb=>hs b (by unfold frs;rw [Ϧ,e1];exact ι _ hb)) q⟩
  exact this (fun b h=>nf h) I.fu
 refine ⟨⟨⟨I.md,I.fm,I.hd,I.bs,fun b o e=>(sb b (nG e)).trans (I.gh b o e),I.rl,I.rn,I.rg,fun n o p h1 h2=>(I.ob n o p h1 h2).mono (ξ _) (.refl _) fun b hb o e=>(sb b (nM ⟨p,ο h2,hb⟩)).trans e,fu,I.ff,by show Ş s'.gens;rw [gs];exact I.br,os.trans I.os,tk⟩,I.ok,?_,fun x c e=>let ⟨v,q⟩:=I.ce x c e;⟨v,ck x c v e q⟩,I.fl,by show (z.t.env.set i (some d')).length=_;rw [Ϸ];exact I.el,I.sl,fun j d n e=>?_,fun j mj=>?_,I.od⟩,⟨ξ _,.refl _,fun _ _ e=>.inl e,fun _ m=>.inl m,fun b o e=>?_,fun b o e _ w _=>(sb b fun q=>w (.inl (q ▸ ⟨i,m,ea⟩))).trans e,fun b o e _ w _=>⟨o.slots,(sb b fun q=>w (.inl (q ▸ ⟨i,m,ea⟩))).trans e⟩⟩,fun b ⟨j,mj,e⟩=>.inl ⟨j,mj,e⟩⟩
 ·obtain ⟨mm,⟨oL,es,ep,q,r⟩,hl⟩:=I.lo
  exact ⟨mm,⟨oL,es,ep,(sb _ (nL (.inl rfl))).trans q,r⟩,fun j x w e1 e2 e3=>dC (fun c v e q=>ck x c v e q) (hl j x w e1 e2 e3)⟩
 ·have q:j≠i:=fun q=>n (q ▸ m)
  exact I.en j d n ((Φ (ϥ q)).symm.trans e)
 ·by_cases q:j=i
  ·subst q;exact ⟨d',a,o',ϧ hie,ea,t,r,f⟩
  ·obtain ⟨d,b,o,h1,h2,h3,r,f⟩:=I.eo j mj
   have nb:b≠a:=fun w=>q (I.od j i b mj m h2 (w ▸ ea))
   exact ⟨d,b,o,(Φ (ϥ q)).trans h1,h2,h3,r.mono (ξ _) (.refl _) fun c hc o e=>(sb c (by rcases hc with rfl | rfl <;> exact nb)).trans e,f⟩
 ·by_cases q:b=a
  ·subst q;exact ⟨on,hn⟩
  ·exact ⟨o,(sb b q).trans e⟩
theorem Rep.stw {s':ν} {n:Nat} {o':O} {p:Α×Α} {e:Α} (I:Rep X z) (ep:z.ρ[n]? = some p) (he:e=p.1∨e=p.2) (sb:∀ b,b≠e→s'.heap.get? b=z.h b) (r:ObR X.W z.ρ z.G s'.heap.get? p o') (os:s'.os=z.s.os) (gs:s'.gens=z.s.gens) (tk:X.tz≤s'.toks:=by first | assumption | exact HR.tk (by assumption) | exact HR.tk1 (by assumption) | exact (Rep.toHR (by assumption)).tk | exact (Rep.toHR (by assumption)).tk1 | exact HR.tk2 (Rep.toHR (by assumption)) | exact HR.tk3 (Rep.toHR (by assumption))) :
 Rep X { z with t:=⟨z.t.env,z.t.ow,z.t.st.set n o'⟩,s:=s' }∧Go X z { z with t:=⟨z.t.env,z.t.ow,z.t.st.set n o'⟩,s:=s' }:=by
 have mu:Mu z.ρ e:=⟨p,ο ep,he⟩
 have nG:∀ {b o},z.G b=some o→b≠e:=fun h q=>by rw [q,I.rg e mu] at h;cases h
 have nL:∀ {b},Lc X b→b≠e:=fun h q=>(I.fl _ h).2 (q ▸ mu)
 have nf:∀ {b},b∈frs X.fr→b≠e:=fun h q=>(I.ff _ h).2 (q ▸ mu)
 have nO:∀ {b},Own z b→b≠e:=fun h q=>(I.oth h).1.2.1 (q ▸ mu)
 have ck:∀ x c v,X.env.cells.lookup x=some c→z.s.heap.IsCell c v→s'.heap.IsCell c v:=fun x c v e ⟨o,q,d⟩=>⟨o,(sb c (nL (.inr ⟨x,e⟩))).trans q,d⟩
 have fu:s'.heap.FunFrames X.base X.fr:=by
  have:∀ {l:List CL},(∀ b∈frs l,b≠e)→z.s.heap.FunFrames X.base l→s'.heap.FunFrames X.base l:=fun {l}=>by
   induction l with
   | nil=>exact fun _ _=>trivial
   | cons v r ih=>
     intro hs ⟨k,⟨L,o,e1,e2,e3,e4⟩,q⟩
     have hm:L∈frs (v :: r):=by unfold frs;rw [Ϧ,e1];exact κ
     exact ⟨k,⟨L,o,e1,e2,(sb L (hs L hm)).trans e3,e4⟩,ih (fun b hb=>hs b (by unfold frs;rw [Ϧ,e1];exact ι _ hb)) q⟩
  exact this (fun b h=>nf h) I.fu
 obtain ⟨⟨o1,h1⟩,⟨o2,h2⟩⟩:=r.th
 have hn:n<z.t.st.length:=by rw [← I.rl];exact (ς.mp ep).1
 refine ⟨⟨⟨I.md,I.fm,I.hd,I.bs,fun b o w=>(sb b (nG w)).trans (I.gh b o w),by show _=(z.t.st.set n o').length;rw [Ϸ];exact I.rl,I.rn,I.rg,fun k o q h1 h2=>?_,fu,I.ff,by show Ş s'.gens;rw [gs];exact I.br,os.trans I.os,tk⟩,I.ok,?_,fun x c w=>let ⟨v,q⟩:=I.ce x c w;⟨v,ck x c v w q⟩,I.fl,I.el,I.sl,I.en,fun j mj=>?_,I.od⟩,⟨ξ _,.refl _,fun _ _ w=>.inl w,fun _ m=>.inl m,fun b o w=>?_,fun b o w q _ _=>(sb b fun z=>q (z ▸ mu)).trans w,fun b o w q _ _=>⟨o.slots,(sb b fun z=>q (z ▸ mu)).trans w⟩⟩,fun b w=>.inl w⟩
 ·by_cases c:k=n
  ·subst c
   have h1:(z.t.st.set k o')[k]? = some o:=h1
   rw [ϧ hn] at h1;cases h1
   rw [show z.ρ[k]? = some q from h2] at ep;cases ep
   exact r
  ·exact (I.ob k o q ((Φ (ϥ c)).symm.trans h1) h2).mono (ξ _) (.refl _) fun b hb o w=>(sb b fun w'=>c (I.rn k n q p b h2 ep hb (w' ▸ he))).trans w
 ·obtain ⟨mm,⟨oL,es,ep,q,r⟩,hl⟩:=I.lo
  exact ⟨mm,⟨oL,es,ep,(sb _ (nL (.inl rfl))).trans q,r⟩,fun j x w e1 e2 e3=>dC (fun c v e q=>ck x c v e q) (hl j x w e1 e2 e3)⟩
 ·obtain ⟨d,b,o,h1,h2,h3,r,f⟩:=I.eo j mj
  exact ⟨d,b,o,h1,h2,h3,r.mono (ξ _) (.refl _) fun c hc o w=>(sb c (by rcases hc with rfl | rfl <;> exact nO ⟨j,mj,h2⟩)).trans w,f⟩
 ·by_cases q:b=e
  ·rcases he with w | w
   ·exact ⟨o1,by rw [q,w];exact h1⟩
   ·exact ⟨o2,by rw [q,w];exact h2⟩
  ·exact ⟨o,(sb b q).trans w⟩
structure M1 (X:Cx) (o:Λ) (m:μ) (apos:Ϫ) (e:Λ) (cpos:Ϫ):Prop where
 base:Ē o m X.env (eval o X.env)=eval o X.env
 few:((Ϻ cpos (Δ [e] X.env)).all (fun x=>!x.1) && (Í cpos (Ϭ [] X.env)).all (fun x=>x.1.isSome) && decide (([e]:List Λ).length+([]:List Ź).length+(if ([]:List Ź).isEmpty then 0 else 1)<30))=true
 line:(apos.endLine == cpos.line)=true
 trees:Ϻ cpos (Δ [e] X.env) = [(false,eval e X.env)]
theorem gc {i:Nat} (I:Rep X z) (m:i∈z.t.ow) (e:z.t.env[i]? = some (some (.lst l))):∃ a vs n,z.σ[i]? = some (some (.ref a))∧z.h a=some { cls:=.type "list",data:=.seq vs.toArray n }∧RDs X.W z.ρ z.G l vs:=by
 obtain ⟨d,a,o,h1,h2,h3,r,f⟩:=I.eo i m
 rw [e] at h1;cases h1;cases h3
 obtain ⟨o,vs,_,q,⟨⟨n,rfl⟩,_⟩,r⟩:=r
 exact ⟨a,vs,n,h2,q,r⟩
theorem eY {z:Z} {vs ws:List ζ} {f:Array ζ→Array ζ} (e:z.h a=some { cls:=.type "list",data:=.seq vs.toArray n }) (hf:f vs.toArray=ws.toArray) (hz:ws.length≤ϟ):(∃ o,(z.s.heap.update a (í f)).get? a=some o∧LsO o ws)∧∀ b,b≠a→(z.s.heap.update a (í f)).get? b=z.h b:=
 ⟨⟨_,ϣ _ e rfl,⟨_,by simp only [í,hf];rfl⟩,hz⟩,fun b n=>ϑ _ _ (ϥ n)⟩
theorem yj {i:Nat} {x:μ} (hN:X.N[i]? = some x) (hv:Vis X.env.scope x) (hd:(x == ("__debug__":μ))=false) (hcd:(x == ("__classdict__":μ))=false) (he:LE X e c) (m:M1 X (.Name x p) "append" apos e cpos):LS X (.Expr (.Call (.Attribute (.Name x p) "append" apos) [e] [] cpos) pos) (.app i c):=fun z I nb=>by
 have e0:X.ex (.app i c) z.t=(if z.t.ow.contains i && isLst z.t.env[i]? then (X.ev false c z.t).go fun d s=>if s.ow.contains i then (match s.env[i]? with
  | some (some (.lst l))=>if l.length<100000 then .nx ⟨s.env.set i (some (.lst (l ++ [d]))),s.ow,s.st⟩ else .bad
  | _=>.bad) else .bad else .bad):=rfl
 by_cases c0:(z.t.ow.contains i && isLst z.t.env[i]?)=true
 ·rw [ZZ c0] at e0
  rw [Χ] at c0
  have mi:i∈z.t.ow:=by simpa using c0.1
  obtain ⟨l,el⟩:∃ l,z.t.env[i]? = some (some (.lst l)):=by
   have:=c0.2
   unfold isLst at this
   split at this
   ·rename_i l q;exact ⟨l,q⟩
   ·cases this
  obtain ⟨a,vs,n,es,ha,r⟩:=gc I mi el
  refine ŉ (Ć m.base m.few m.line ł ê DN (bT I hN hv es ⟨⟨_,ha,rfl⟩,fun b q=>(by cases q;exact ⟨_,ha,rfl⟩),?_⟩ hd hcd)) I.quiet rfl
  rw [m.trees]
  refine Ã rfl (Ï (Ι ((he false).gos .refl I e0 nb fun z1 d u y x1 I1 r1 e1=>ϋ ?_)))
  by_cases c1:z1.t.ow.contains i=true
  ·rw [ZZ c1] at e1
   have m1:i∈z1.t.ow:=by simpa using c1
   have el1:z1.t.env[i]? = some (some (.lst l)):=by rw [y.en];exact el
   rw [el1] at e1
   dsimp only at e1
   obtain ⟨a',vs,n,es',ha,r⟩:=gc I1 m1 el1
   rw [y.sg,es] at es';cases es'
   by_cases c2:l.length<100000
   ·rw [ZZ c2] at e1
    have hz:vs.length<100000:=by rw [← r.len];exact c2
    refine Dx ê ⟨_,ha,rfl⟩ İ (Ĭ _ _) (CY a vs.toArray n u (by rw [Μ];exact ú (ä hz (big (Ω _))))) ⟨ha,?_⟩
    obtain ⟨⟨o1,u1,u3⟩,u2⟩:=eY (f:=(·.push u)) (ws:=vs ++ [u]) ha (by simp) (by rw [ω];exact big (by simp;omega))
    obtain ⟨I2,g2⟩:=I1.ownw (s':={ z1.s with heap:=z1.s.heap.update a (í (·.push u)) }) (d':=.lst (l ++ [d])) m1 (by rw [y.sg];exact es) rfl u2 ⟨o1,vs ++ [u],rfl,u1,u3,r.app (.cons r1.rd rfl)⟩ rfl rfl
    exact nxt (x1.trans g2) I2 e1
   ·rw [ZY c2] at e1;exact ZX e1 nb
  ·rw [ZY c1] at e1;exact ZX e1 nb
 ·rw [ZY c0] at e0;exact ZX e0 nb
theorem oh:∀ {ks} {ds} {vs} {k} {d} {v},ks.length=ds.length→RDs W ρ G ds vs→RD W ρ G d v→∃ us,RDs W ρ G (iN ks ds k d) us∧(ks.zip vs).map (fun kv=>if kv.1=k then (kv.1,v) else kv)=ks.zip us
 | [],[],vs,k,d,v,_,h,_=>⟨vs,h,rfl⟩
 | [],_ :: _,_,_,_,_,l,_,_=>by cases l
 | _ :: _,[],_,_,_,_,l,_,_=>by cases l
 | q :: ks,e :: ds,vs,k,d,v,l,⟨u,r,ev,h1,h2⟩,rd=>by
   subst ev
   obtain ⟨us,h3,h4⟩:=oh (k:=k) (ņ l) h2 rd
   by_cases c:q=k
   ·refine ⟨v :: us,⟨v,us,rfl,by rw [ZZ c];exact rd,h3⟩,?_⟩
    show (if q=k then (q,v) else (q,u)) :: (ks.zip r).map _=(q,v) :: ks.zip us
    rw [ZZ c,h4]
   ·refine ⟨u :: us,⟨u,us,rfl,by rw [ZY c];exact h1,h3⟩,?_⟩
    show (if q=k then (q,v) else (q,u)) :: (ks.zip r).map _=(q,u) :: ks.zip us
    rw [ZY c,h4]
theorem oq:∀ {ks} {ds} {k} {d},(iN ks ds k d).length=ds.length
 | [],_,_,_=>by unfold iN;rfl
 | _ :: _,[],_,_=>by unfold iN;rfl
 | _ :: ks,_ :: ds,k,d=>by show (iN ks ds k d).length+1=ds.length+1;rw [oq]
theorem iS:∀ {ks:List Key} {vs:List ζ} {k:Key},ks.length=vs.length→((ks.zip vs).any fun kv=>decide (kv.1=k))=ks.any fun q=>decide (q=k)
 | [],_,_,_=>rfl
 | _ :: _,[],_,l=>by cases l
 | q :: ks,v :: vs,k,l=>by
   show (decide (q=k) || (ks.zip vs).any _)=(decide (q=k) || ks.any _)
   rw [iS (ņ l)]
theorem pL (l:ks.length=ds.length) (r:RDs W ρ G ds vs) (rd:RD W ρ G d v):∃ us,stored (ks.zip vs) k v=(bV ks ds k d).1.zip us∧(bV ks ds k d).1.length=(bV ks ds k d).2.length∧RDs W ρ G (bV ks ds k d).2 us∧(bV ks ds k d).1.length≤ks.length+1:=by
 have lv:ks.length=vs.length:=l.trans r.len
 unfold stored bV
 rw [iS lv]
 split
 ·obtain ⟨us,h1,h2⟩:=oh (k:=k) l r rd
  exact ⟨us,h2,by show ks.length=(iN ks ds k d).length;rw [oq,l],h1,Ñ _⟩
 ·exact ⟨vs ++ [v],by rw [List.zip_append lv];rfl,by simp [l],r.app (.cons rd rfl),by simp⟩
theorem yU {A:Ϗ} {E:ζ→ν→Prop} {Q:Unit→ν→Prop} {x y k d:D} {o:O} {kv v:ζ} (t:toO x=some o) (r:ObR X.W z.ρ z.G z.h (a,b) o) (rk:CR X.W z k kv) (rd:RD X.W z.ρ z.G d v) (e:iL x k d=some y)
 (h:∀ s' o',toO y=some o'→(∀ b,b≠a→s'.heap.get? b=z.h b)→ObR X.W z.ρ z.G s'.heap.get? (a,b) o'→s'.os=z.s.os→s'.gens=z.s.gens→Q () s'):χ X.M A (Ei (.ref a) kv v) Q E z.s:=by
 cases x <;> cases t
 ·rename_i l
  obtain ⟨o,vs,hb,ho,⟨⟨n,rfl⟩,hz⟩,r⟩:=r
  cases k with
  | int i=>
    obtain ⟨tk,rfl⟩:=(rk:RD X.W z.ρ z.G (.int i) kv)
    obtain ⟨l',e1,rfl⟩:=φ.mp (show (sM l i d).map D.lst=some y from e)
    obtain ⟨j,e2,rfl⟩:=φ.mp (show (ixN l.length i).map (fun j=>l.set j d)=some l' from e1)
    obtain ⟨h1,h2,h3,h4⟩:=m9 e2
    have hl:=r.len
    have hn:=jP
    obtain ⟨⟨o1,u1,u3⟩,u2⟩:=eY (z:=z) (f:=(·.setIfInBounds j v)) (ws:=vs.set j v) ho (by simp) (by rw [Ϸ];exact hz)
    have q:Q () { z.s with heap:=z.s.heap.update a (í (·.setIfInBounds j v)) }:=h _ _ rfl u2 ⟨o1,_,hb,u1,u3,r.set j rd⟩ rfl rfl
    by_cases h0:0≤i
    ·have hk:i.toNat=j:=by rw [FC h0 h4] at h1;exact Ϥ h1
     exact PySem.W.ki_setAt ho h0 (by omega) (by rw [Μ,← hl];exact h4) (by rw [hk];exact q)
    ·have hk:(i+(vs.toArray.size:Int)).toNat=j:=by
      rw [Fd (by omega) h3] at h1
      rw [Μ,← hl]
      exact Ϥ h1
     exact PySem.W.ki_setBack ho (by omega) (by rw [Μ,← hl];exact h3) (by omega) (by rw [hk];exact q)
  | _=>cases e
 ·rename_i ks ds
  obtain ⟨o,vs,hb,hs,ho,dc,hl,r⟩:=r
  obtain ⟨kk,e1,e2⟩:=ϗ.mp (show ((bL k).bind fun k=>if ks.length<100000 then some (D.dic (bV ks ds k d).1 (bV ks ds k d).2) else none)=some y from e)
  by_cases c:ks.length<100000
  ·rw [ZZ c] at e2
   cases e2
   obtain ⟨us,h3,h4,h5,h6⟩:=pL (k:=kk) hl r rd
   refine wpAny_setItem_pairs (hsz:=by obtain ⟨_,_,_,_,_,_,_,w⟩:=dc;exact w) (jL e1 rk) (dc.of ho) fun h' dd hs'=>?_
   rw [h3] at dd
   obtain ⟨o1,es,ep,w1,w2,w3,w4,w5,w6⟩:=dd
   exact h _ _ rfl hs'.2 ⟨o1,us,hb,hs,w1,⟨es,ep,w2,w3,w4,w5,w6,by rw [Æ];exact big (by omega)⟩,h4,h5⟩ rfl rfl
  ·rw [ZY c] at e2;cases e2
theorem n7 {A:Ϗ} {E:ζ→ν→Prop} {Q:Unit→ν→Prop} {x y k d:D} {o:O} {kv v:ζ} (tk:X.tz≤z.s.toks) (t:toO x=some o) (r:ObR X.W z.ρ z.G z.h (a,b) o) (rk:CR X.W z k kv) (rd:RD X.W z.ρ z.G d v) (e:iL x k d=some y)
 (h:∀ s' o',toO y=some o'→(∀ b,b≠a→s'.heap.get? b=z.h b)→ObR X.W z.ρ z.G s'.heap.get? (a,b) o'→s'.os=z.s.os→s'.gens=z.s.gens→X.tz≤s'.toks→Q () s'):χ X.M A (Ei (.ref a) kv v) Q E z.s:=
 Κ (ϙ tk (yU (E:=E) (Q:=fun _ s'=>∃ o',toO y=some o'∧(∀ b,b≠a→s'.heap.get? b=z.h b)∧ObR X.W z.ρ z.G s'.heap.get? (a,b) o'∧s'.os=z.s.os∧s'.gens=z.s.gens) t r rk rd e fun s' o' a1 a2 a3 a4 a5=>⟨o',a1,a2,a3,a4,a5⟩)) (fun _ s' ⟨tk,o',a1,a2,a3,a4,a5⟩=>h s' o' a1 a2 a3 a4 a5 tk) fun _ _ w=>w.2
theorem yT {o o':O} (e:eQ o k d=some o'):∃ x y,toO x=some o∧iL x k d=some y∧toO y=some o':=by
 cases o with
 | lst l=>
   cases k with
   | int i=>obtain ⟨l',e1,rfl⟩:=φ.mp (show (sM l i d).map O.lst=some o' from e);exact ⟨.lst l,.lst l',rfl,by show (sM l i d).map D.lst=_;rw [e1];rfl,rfl⟩
   | _=>cases e
 | dic ks ds=>
   obtain ⟨kk,e1,e2⟩:=ϗ.mp (show ((bL k).bind fun k=>if ks.length<100000 then some (O.dic (bV ks ds k d).1 (bV ks ds k d).2) else none)=some o' from e)
   by_cases c:ks.length<100000
   ·rw [ZZ c] at e2;cases e2
    exact ⟨.dic ks ds,.dic (bV ks ds kk d).1 (bV ks ds kk d).2,rfl,by show ((bL k).bind fun k=>if ks.length<100000 then some (D.dic (bV ks ds k d).1 (bV ks ds k d).2) else none)=_;rw [e1];exact ZZ c,rfl⟩
   ·rw [ZY c] at e2;cases e2
 | ins _ _=>cases e
theorem oW (h:aJ i=true):∀ v,assign (o.Subscript i pos) env v=(do
 let ov ← holding [v] (eval o env)
 let iv ← holding [v,ov] (eval i env)
 ř pos
 holding [v,ov,iv] (Ei ov iv v)
 release [v,ov,iv] []):=by
 cases i <;> first | (intro v;rfl) | cases h
theorem sj :EF [.Subscript o i p] e l env=pure false:=by
 cases e <;> rfl
theorem mC :EG [.Subscript o i p] e env=pure none:=by
 cases e <;> rfl
theorem mP {K:ζ→ν→Prop} {E:ζ→ν→Prop} {Q:Flow→ν→Prop} {s:ν} (hn:aJ eb=true) (h:χ X.M X.A (eval ee X.env) K E s) (k:∀ v s',K v s'→χ X.M X.A (eval eo X.env) (fun ov s2=>χ X.M X.A (eval eb X.env) (fun iv s3=>χ X.M X.A (Ei ov iv v) (fun _ s4=>Q .next s4) E s3) E s2) E s'):χ X.M X.A (exec (.Assign [.Subscript eo eb p2] ee pos) X.env) Q E s:=by
 refine FL (thn h fun v s1 q=>?_) sj mC
 show χ _ _ (assign (eo.Subscript eb p2) X.env v) _ _ _
 rw [oW hn]
 exact ε (Τ (thn (k v s1 q) fun ov s2 q=>ε (Τ (thn q fun iv s3 q=>ε (Ò (ε (Τ (thn q fun _ s4 q=>wpAny_release q))))))))
theorem sF {n:Nat} {kv v:ζ} {p:Α×Α} {E:ζ→ν→Prop} {o:am} (x:Go X z0 z) (I:Rep X z) (ep:z.ρ[n]? = some p) (rk:CR X.W z k kv) (rd:RD X.W z.ρ z.G d v) (e:o=(match (z.t.st[n]?).bind fun o=>eQ o k d with | some o=>.nx ⟨z.t.env,z.t.ow,z.t.st.set n o⟩ | none=>.bad)) (nb:o≠.bad):χ X.M X.A (Ei (.ref p.1) kv v) (fun _ s4=>Ps X z0 o .next s4) E z.s:=by
 cases q:(z.t.st[n]?).bind fun o=>eQ o k d with
 | none=>rw [q] at e;exact ZX e nb
 | some o'=>
   rw [q] at e
   obtain ⟨ob,q1,q2⟩:=ϗ.mp q
   obtain ⟨x1,y1,t1,t2,t3⟩:=yT q2
   have r:=I.ob n ob p q1 ep
   have hp:p=(p.1,p.2):=rfl
   refine n7 I.tk t1 (hp ▸ r) rk rd t2 fun s' o1 t4 sb r' os gs tk=>?_
   rw [t3] at t4;cases t4
   obtain ⟨I2,g2⟩:=I.stw ep (.inl rfl) sb r' os gs tk
   exact nxt (z1:={ z with t:=⟨z.t.env,z.t.ow,z.t.st.set n o'⟩,s:=s' }) (x.trans g2) I2 e
theorem uU {i:Nat} {x:μ} (hN:X.N[i]? = some x) (hv:Vis X.env.scope x) (hd:(x == ("__debug__":μ))=false) (hcd:(x == ("__classdict__":μ))=false) (hn:aJ eb=true) (hb:LE X eb b) (he:LE X ee e):LS X (.Assign [.Subscript (.Name x p) eb p2] ee pos) (.put (.v i) b e):=fun z I nb=>by
 refine mP hn ((he false).gos (K:=fun v s'=>∃ z1 d,z1.s=s'∧Go X z z1∧Rep X z1∧RD X.W z1.ρ z1.G d v∧X.ex (.put (.v i) b e) z.t=(match z1.t.env[i]? with
  | some (some x)=>(X.ev true b z1.t).go fun k s=>(match x with
    | .ref n=>(match (s.st[n]?).bind fun o=>eQ o k d with | some o=>.nx ⟨s.env,s.ow,s.st.set n o⟩ | none=>.bad)
    | x=>if s.ow.contains i then (match iL x k d with | some y=>.nx ⟨s.env.set i (some y),s.ow,s.st⟩ | none=>.bad) else .bad)
  | _=>.bad)) .refl I rfl nb fun z1 d u y x1 I1 r1 e1=>⟨z1,d,rfl,x1,I1,r1.rd,e1⟩) fun v s' ⟨z1,d,q,x1,I1,r1,e1⟩=>?_
 subst q
 cases q:z1.t.env[i]? with
 | none=>rw [q] at e1;exact ZX e1 nb
 | some o0=>
   cases o0 with
   | none=>rw [q] at e1;exact ZX e1 nb
   | some x0=>
     rw [q] at e1
     obtain ⟨u,hu,_⟩:=I1.slot q
     refine bT I1 hN hv hu ((hb true).gos x1 I1 e1 nb fun z2 kd kv y2 x2 I2 r2 e2=>?_) hd hcd
     have q2:z2.t.env[i]? = some (some x0):=by rw [y2.en];exact q
     have hu2:z2.σ[i]? = some (some u):=by rw [y2.sg];exact hu
     have own:∀ x1:D,x0=x1→X.ex (.put (.v i) b e) z.t=(if z2.t.ow.contains i then (match iL x1 kd d with | some y=>.nx ⟨z2.t.env.set i (some y),z2.t.ow,z2.t.st⟩ | none=>.bad) else .bad)→χ X.M X.A (Ei u kv v) (fun _ s4=>Ps X z (X.ex (.put (.v i) b e) z.t) .next s4) (PxS X z (X.ex (.put (.v i) b e) z.t)) z2.s:=fun x1 ex e3=>by
      subst ex
      by_cases c:z2.t.ow.contains i=true
      ·rw [ZZ c] at e3
       have m2:i∈z2.t.ow:=by simpa using c
       obtain ⟨d0,a,o,h1,h2,h3,r,f⟩:=I2.eo i m2
       rw [q2] at h1;cases h1
       rw [hu2] at h2;cases h2
       cases q3:iL x0 kd d with
       | none=>rw [q3] at e3;exact ZX e3 nb
       | some y=>
         rw [q3] at e3
         refine n7 I2.tk h3 r (r2.rb.cr0 I2) (r1.st y2.st) q3 fun s' o' t sb r' os gs tk=>?_
         obtain ⟨I3,g3⟩:=I2.ownw (s':=s') m2 hu2 t sb r' os gs tk
         exact nxt (z1:={ z2 with t:=⟨z2.t.env.set i (some y),z2.t.ow,z2.t.st⟩,s:=s' }) (x2.trans g3) I3 e3
      ·rw [ZY c] at e3;exact ZX e3 nb
     cases x0 with
     | ref n=>
       have nm:i ∉ z2.t.ow:=fun m=>by
        obtain ⟨d0,a,o,h1,h2,h3,_⟩:=I2.eo i m
        rw [q2] at h1;cases h1;cases h3
       obtain ⟨u',hu',p,ep,rfl⟩:=I2.en i _ nm q2
       rw [hu2] at hu';cases hu'
       exact sF x2 I2 ep (r2.rb.cr0 I2) (r1.st y2.st) e2 nb
     | _=>exact own _ rfl e2
end
section
variable {X:Cx} {z z' z0 z1:Z} {an:Nat→μ}
theorem Rep.snoc {s':ν} {p:Α×Α} {o:O} (I:Rep X z) (g:Gr z.s s') (hp:z.h p.1=none∧z.h p.2=none) (r:ObR X.W (z.ρ ++ [p]) z.G s'.heap.get? p o) (tk:X.tz≤s'.toks:=by first | assumption | exact HR.tk (by assumption) | exact HR.tk1 (by assumption) | exact (Rep.toHR (by assumption)).tk | exact (Rep.toHR (by assumption)).tk1 | exact HR.tk2 (Rep.toHR (by assumption)) | exact HR.tk3 (Rep.toHR (by assumption))):Rep X { z with ρ:=z.ρ ++ [p],t:=⟨z.t.env,z.t.ow,z.t.st ++ [o]⟩,s:=s' }∧Ee X z { z with ρ:=z.ρ ++ [p],t:=⟨z.t.env,z.t.ow,z.t.st ++ [o]⟩,s:=s' }:=by
 obtain ⟨H,S⟩:=HR.snoc (w:=Own z) I.toHR g hp r tk
 have pre:z.ρ <+: z.ρ ++ [p]:=ß _ _
 have nm:∀ {a},(∃ o,z.h a=some o)→¬ Mu z.ρ a→¬ Mu (z.ρ ++ [p]) a:=fun ⟨o,e⟩ n w=>(fj.mp w).elim n fun w=>by
  rcases w with w | w
  ·rw [w,hp.1] at e;cases e
  ·rw [w,hp.2] at e;cases e
 have sl:∀ b o,z.s.heap.get? b=some o→∃ sl,s'.heap.get? b=some { o with slots:=sl }:=fun b o e=>⟨o.slots,g.k b o e⟩
 refine ⟨⟨H,I.ok,?_,fun x c e=>let ⟨v,q⟩:=I.ce x c e;⟨v,fY sl q⟩,fun a l=>⟨(I.fl a l).1,nm (I.lth l) (I.fl a l).2⟩,I.el,I.sl,fun i d n e=>let ⟨u,q,r⟩:=I.en i d n e;⟨u,q,r.mono pre (.refl _)⟩,fun i m=>?_,I.od⟩,S,rfl,rfl,fun _ h=>h⟩
 ·obtain ⟨m,hn,hl⟩:=I.lo
  exact ⟨m,ww sl hn,fun i x u h1 h2 h3=>dC (fun c v _ q=>fY sl q) (hl i x u h1 h2 h3)⟩
 ·obtain ⟨d,a,o,h1,h2,h3,r,f⟩:=I.eo i m
  exact ⟨d,a,o,h1,h2,h3,r.mono pre (.refl _) fun b _ o e=>g.k b o e,f.1,nm r.th.1 f.2.1,f.2.2⟩
theorem sf (I:HR X z):(z.ρ ++ [p])[z.t.st.length]? = some p:=by rw [Ν (by rw [I.rl];exact Ω _),I.rl,ı];rfl
theorem oS {y:ζ}:∀ {nm:List μ} {vs:List ζ} {j:Nat},nm.Nodup→nm[j]? = some f→j<vs.length→∀ g,(nm.zip (vs.set j y)).lookup g=if g=f then some y else (nm.zip vs).lookup g
 | [],_,_,_,h,_,_=>by simp at h
 | _ :: _,[],_,_,_,h,_=>by simp at h
 | n :: nm,v :: vs,0,nd,h,_,g=>by
   have e:n=f:=by simpa using h
   subst e
   show (match g == n with | true=>some y | false=>(nm.zip vs).lookup g)=if g=n then some y else (match g == n with | true=>some v | false=>(nm.zip vs).lookup g)
   by_cases c:g=n
   ·rw [ZZ c,beq_iff_eq.mpr c]
   ·rw [ZY c,ZU.mpr c]
 | n :: nm,v :: vs,j+1,nd,h,hl,g=>by
   have h':nm[j]? = some f:=by simpa using h
   have ne:n≠f:=fun z=>by subst z;exact (ϛ.mp nd).1 (ο h')
   have ih:=oS (y:=y) (ϛ.mp nd).2 h' (by simpa using hl) g
   show (match g == n with | true=>some v | false=>(nm.zip (vs.set j y)).lookup g)=if g=f then some y else (match g == n with | true=>some v | false=>(nm.zip vs).lookup g)
   by_cases c:g=n
   ·rw [ZY fun w=>ne (c ▸ w),beq_iff_eq.mpr c]
   ·rw [ZU.mpr c];exact ih
theorem lO {y:ζ}:∀ {nm:List μ} {vs:List ζ},nm.Nodup→nm[vs.length]? = some f→∀ g,(nm.zip (vs ++ [y])).lookup g=if g=f then some y else (nm.zip vs).lookup g
 | [],_,_,h,_=>by simp at h
 | n :: nm,[],nd,h,g=>by
   have e:n=f:=by simpa using h
   subst e
   rw [û,Þ,Ĵ,Ĵ]
   show (match g == n with | true=>some y | false=>none)=if g=n then some y else none
   by_cases c:g=n
   ·rw [ZZ c,beq_iff_eq.mpr c]
   ·rw [ZY c,ZU.mpr c]
 | n :: nm,v :: vs,nd,h,g=>by
   have h':nm[vs.length]? = some f:=by simpa using h
   have ne:n≠f:=fun z=>by subst z;exact (ϛ.mp nd).1 (ο h')
   have ih:=lO (y:=y) (ϛ.mp nd).2 h' g
   show (match g == n with | true=>some v | false=>(nm.zip (vs ++ [y])).lookup g)=if g=f then some y else (match g == n with | true=>some v | false=>(nm.zip vs).lookup g)
   by_cases c:g=n
   ·rw [ZY fun w=>ne (c ▸ w),beq_iff_eq.mpr c]
   ·rw [ZU.mpr c];exact ih
theorem vv (h:eS Γ (.ins c l) f d=some o):∃ k,Γ.cl[c]? = some k∧k.at_.length<1000∧((k.at_.idxOf f<l.length∧o = .ins c (l.set (k.at_.idxOf f) d))∨(k.at_.idxOf f=l.length∧k.at_.idxOf f<k.at_.length∧o = .ins c (l ++ [d]))):=by
 have h:((Γ.cl[c]?).bind fun k=>if k.at_.length<1000 then (if k.at_.idxOf f<l.length then some (O.ins c (l.set (k.at_.idxOf f) d)) else if k.at_.idxOf f=l.length∧k.at_.idxOf f<k.at_.length then some (.ins c (l ++ [d])) else none) else none)=some o:=h
 obtain ⟨k,hk,h⟩:=ϗ.mp h
 refine ⟨k,hk,?_⟩
 by_cases z0:k.at_.length<1000
 ·rw [ZZ z0] at h
  refine ⟨z0,?_⟩
  by_cases z:k.at_.idxOf f<l.length
  ·rw [ZZ z] at h;cases h;exact .inl ⟨z,rfl⟩
  ·rw [ZY z] at h
   by_cases z2:k.at_.idxOf f=l.length∧k.at_.idxOf f<k.at_.length
   ·rw [ZZ z2] at h;cases h;exact .inr ⟨z2.1,z2.2,rfl⟩
   ·rw [ZY z2] at h;cases h
 ·rw [ZY z0] at h;cases h
theorem y5 (T:cB X an) (I:Rep X z) {n f:Nat} {p:Α×Α} {d:D} {v:ζ} {o o':O} {A:Ϗ} {Q:Unit→ν→Prop} {E:ζ→ν→Prop} (ep:z.ρ[n]? = some p) (rd:RD X.W z.ρ z.G d v) (q:z.t.st[n]? = some o) (e:eS X.Γ o f d=some o')
 (h:∀ s',Rep X { z with t:=⟨z.t.env,z.t.ow,z.t.st.set n o'⟩,s:=s' }→Go X z { z with t:=⟨z.t.env,z.t.ow,z.t.st.set n o'⟩,s:=s' }→Q () s'):χ X.M A (Ej (.ref p.1) (an f) v) Q E z.s:=by
 have ob:=I.ob n o p q ep
 cases o with
 | ins c l=>
   obtain ⟨k,hk,h1000,alt⟩:=vv e
   obtain ⟨i',vs,w1,w2,w3,w4,w5⟩:=ob
   obtain ⟨i,C⟩:=T c k hk
   rw [C.ci] at w1
   have ii:i=i':=Ϥ w1
   subst ii
   have lnm:i.nm.length=k.at_.length:=by rw [C.nm,Θ]
   have wz:k.what≠2:=by have:=C.wh;rw [w2] at this;have e:=Ϥ this;omega
   have lv:=w5.len
   have hj:k.at_.idxOf f<k.at_.length:=by
    rcases alt with ⟨z,_⟩ | ⟨_,z,_⟩
    ·omega
    ·exact z
   have hn:i.nm[k.at_.idxOf f]? = some (an f):=by rw [C.nm,Ψ,Ζ hj];simp
   have cl:=C.cls wz
   have na:=C.na _ (ο hn)
   refine oz (ns:=i.nm) I.toHR.kin (InO.objm w4) cl.sa cl.po na.taker cl.hd (fun y hy=>?_) (by rw [lnm];exact ϫ (ú h1000) (big (by omega))) fun h' om sb=>?_
   ·cases qq:(i.nm.zip vs).lookup y with
    | none=>exact ZX qq hy
    | some u=>
      obtain ⟨l1,l2,e1,_⟩:=Ef.mp qq
      exact (ħ (show (y,u)∈i.nm.zip vs by rw [e1];simp)).1
   ·have done:∀ vs' l',o' = .ins c l'→RDs X.W z.ρ z.G l' vs'→l'.length≤i.nm.length→(∀ g,(i.nm.zip vs').lookup g=if g=an f then some v else (i.nm.zip vs).lookup g)→Q () { z.s with heap:=h',toks:=z.s.toks+2 }:=fun vs' l' eo r hl lk=>by
     subst eo
     obtain ⟨od,es,ep',e1,e2,e3,e4,e5⟩:=om.ns
     obtain ⟨I2,g2⟩:=I.stw (s':={ z.s with heap:=h',toks:=z.s.toks+2 }) (o':=.ins c l') ep (.inr rfl) (fun b hb=>sb.2 b hb) ⟨i,vs',C.ci,w2,hl,⟨om.obj,om.ne,by rw [Æ];omega,od,e1,es,ep',e2,e3,e4,fun nn=>(e5 nn).trans (lk nn).symm⟩,r⟩ rfl rfl
     exact h _ I2 g2
    rcases alt with ⟨z,eo⟩ | ⟨z,_,eo⟩
    ·exact done _ _ eo (w5.set _ rd) (by rw [Ϸ];exact w3) (oS C.nd hn (by omega))
    ·exact done _ _ eo (w5.app (.cons rd rfl)) (by rw [ω];simp;omega) (lO C.nd (by rw [← lv,← z];exact hn))
 | _=>cases e
theorem j6 (T:cB X an) (x:Go X z0 z) (I:Rep X z) {n f:Nat} {p:Α×Α} {d:D} {v:ζ} {A:Ϗ} {E:ζ→ν→Prop} {o:am} (ep:z.ρ[n]? = some p) (rd:RD X.W z.ρ z.G d v) (e:o=(match (z.t.st[n]?).bind fun o=>eS X.Γ o f d with | some o=>.nx ⟨z.t.env,z.t.ow,z.t.st.set n o⟩ | none=>.bad)) (nb:o≠.bad):χ X.M A (Ej (.ref p.1) (an f) v) (fun _ s'=>Ps X z0 o .next s') E z.s:=by
 cases q:(z.t.st[n]?).bind fun o=>eS X.Γ o f d with
 | none=>rw [q] at e;exact ZX e nb
 | some o'=>
   rw [q] at e
   obtain ⟨ob,q1,q2⟩:=ϗ.mp q
   exact y5 T I ep rd q1 q2 fun s' I2 g2=>nxt (z1:={ z with t:=⟨z.t.env,z.t.ow,z.t.st.set n o'⟩,s:=s' }) (x.trans g2) I2 e
def mG:E→Bool
 | .lst .nil=>false
 | .dic .nil=>false
 | _=>true
theorem i7 (h:mG e=true):X.ex (.fld a f e) s=(X.ev false e s).go fun d s=>(X.ev true a s).go fun x s=>(match x with
        | .ref n=>(match (s.st[n]?).bind fun o=>eS X.Γ o f d with | some o=>.nx ⟨s.env,s.ow,s.st.set n o⟩ | none=>.bad)
        | _=>.bad):=by
 cases e with
 | lst es=>cases es <;> first | rfl | cases h
 | dic es=>cases es <;> first | rfl | cases h
 | _=>rfl
theorem eN :D3 e (some (.Attribute o x p)) l env=pure false:=by
 cases e <;> rfl
theorem hX (I:Rep X z) (h:RB X.W z (.ref n) u):∃ p,z.ρ[n]? = some p∧u = .ref p.1:=h.cr0 I
theorem yr (T:cB X an) (hp:mG e=true) (ho:LE X eo a) (he:LE X ee e):LS X (.Assign [.Attribute eo (an f) p] ee pos) (.fld a f e):=fun z I nb=>ó ((he false).gos .refl I (i7 hp) nb fun z1 d v y1 x1 I1 r1 e1=>(ho true).gos x1 I1 e1 nb fun z2 x u y2 x2 I2 r2 e2=>by
 cases x with
 | ref n=>
   obtain ⟨p,ep,rfl⟩:=hX I2 r2.rb
   exact j6 T x2 I2 ep (r1.rd.st y2.st) e2 nb
 | _=>exact ZX e2 nb) eN
theorem nP (T:cB X an) {o:am} {o0:O} {s':ν} {a:Α} {i:Nat} {x:μ} (I:Rep X z) (g:Gr z.s s') (ha:z.h a=none) (r:∀ ρ,ObR X.W ρ z.G s'.heap.get? (a,a) o0) (hN:X.N[i]? = some x) (hv:Vis X.env.scope x) (hd:(x == ("__debug__":μ))=false) (hcd:(x == ("__classdict__":μ))=false)
 (e:o=((X.ev true (.v i) z.t).go fun x s=>(match x with
  | .ref n=>(match (s.st[n]?).bind fun o=>eS X.Γ o f (.ref s.st.length) with | some o=>.nx ⟨s.env,s.ow,(s.st ++ [o0]).set n o⟩ | none=>.bad)
  | _=>.bad))) (nb:o≠.bad) (tk:X.tz≤s'.toks:=by first | assumption | exact HR.tk (by assumption) | exact HR.tk1 (by assumption) | exact (Rep.toHR (by assumption)).tk | exact (Rep.toHR (by assumption)).tk1 | exact HR.tk2 (Rep.toHR (by assumption)) | exact HR.tk3 (Rep.toHR (by assumption))):χ X.M X.A (eval (.Name x p1) X.env) (fun ov s2=>χ X.M X.A (Ej ov (an f) (.ref a)) (fun _ s3=>Ps X z o .next s3) (PxS X z o) s2) (PxS X z o) s':=by
 obtain ⟨I1,x1⟩:=I.snoc (p:=(a,a)) g ⟨ha,ha⟩ (r _)
 have ev:X.ev true (.v i) z.t=(match z.t.env[i]? with | some (some d)=>.ok d z.t | _=>.bad):=rfl
 rw [ev] at e
 cases q:z.t.env[i]? with
 | none=>rw [q] at e;exact ZX e nb
 | some oo=>cases oo with
   | none=>rw [q] at e;exact ZX e nb
   | some d=>
     rw [q] at e
     obtain ⟨u,hu,ru⟩:=I1.slot (i:=i) (d:=d) q
     refine bT I1 hN hv hu ?_ hd hcd
     cases d with
     | ref n=>
       obtain ⟨p,ep,rfl⟩:=hX I1 ru
       have e:o=(match (z.t.st[n]?).bind fun o=>eS X.Γ o f (.ref z.t.st.length) with | some o=>.nx ⟨z.t.env,z.t.ow,(z.t.st ++ [o0]).set n o⟩ | none=>.bad):=e
       refine j6 T x1.go I1 ep (show RD X.W (z.ρ ++ [(a,a)]) z.G (.ref z.t.st.length) (.ref a) from ⟨_,sf I.toHR,rfl⟩) (e.trans ?_) nb
       show _=(match ((z.t.st ++ [o0])[n]?).bind fun o=>eS X.Γ o f (.ref z.t.st.length) with | some o=>am.nx ⟨z.t.env,z.t.ow,(z.t.st ++ [o0]).set n o⟩ | none=>am.bad)
       cases q1:z.t.st[n]? with
       | none=>rw [q1] at e;exact ZX e nb
       | some w=>rw [ό (ς.mp q1).1,q1]
     | _=>exact ZX e nb
theorem uQ (T:cB X an) (hN:X.N[i]? = some x) (hv:Vis X.env.scope x) (hd:(x == ("__debug__":μ))=false) (hcd:(x == ("__classdict__":μ))=false):LS X (.Assign [.Attribute (.Name x p1) (an f) p] (.Dict [] [] p2) pos) (.fld (.v i) f (.dic .nil)):=fun z I nb=>ó (GP (nP (o0:=.dic [] []) T I (.push (t:=z.s.toks)) (aL z) (fun ρ=>⟨_,[],rfl,ZU.mpr (Î I.sysm),ψ _ rfl,by
 obtain ⟨o,es,ep,h1,h2,h3,h4,h5,h6⟩:=Ep (knd:=bH X.W.P X.W.w) z.s.heap
 rw [ψ _ rfl] at h1
 cases h1
 exact ⟨es,ep,h2,h3,h4,h5,h6,ϲ _⟩,rfl,rfl⟩) hN hv hd hcd rfl nb)) eN
theorem uR (T:cB X an) (hN:X.N[i]? = some x) (hv:Vis X.env.scope x) (hd:(x == ("__debug__":μ))=false) (hcd:(x == ("__classdict__":μ))=false):LS X (.Assign [.Attribute (.Name x p1) (an f) p] (.List [] p2) pos) (.fld (.v i) f (.lst .nil)):=fun z I nb=>ó (Dt (ϋ ⟨ϲ _,nP (o0:=.lst []) T I (.push (t:=z.s.toks)) (aL z) (fun ρ=>⟨_,[],rfl,ψ _ rfl,⟨⟨_,rfl⟩,ϲ _⟩,rfl⟩) hN hv hd hcd rfl nb⟩)) eN
theorem ve {es:List D} {us:List ζ} {o:Out D} (x:Ee X z0 z) (I:Rep X z) (r:RDs X.W z.ρ z.G es us) (hz:es.length≤100000) (e:o = .ok (.ref z.t.st.length) ⟨z.t.env,z.t.ow,z.t.st ++ [.lst es]⟩):Pe X z0 o (RV X.W br c) (.ref z.s.heap.objs.size) { z.s with heap:=z.s.heap.push { cls:=.type "list",data:=.seq us.toArray } }:=by
 obtain ⟨I1,x1⟩:=I.snoc (p:=(z.s.heap.objs.size,z.s.heap.objs.size)) (o:=.lst es) (.push (t:=z.s.toks)) ⟨aL z,aL z⟩ ⟨_,us,rfl,ψ _ rfl,⟨⟨_,rfl⟩,by rw [← r.len];exact big hz⟩,r.mono (ß _ _) (.refl _)⟩
 exact ⟨_,.ref z.t.st.length,rfl,e,x.trans x1,I1,.of (show RD X.W (z.ρ ++ [_]) z.G (.ref z.t.st.length) _ from ⟨_,sf I.toHR,rfl⟩)⟩
theorem uF (h:LA X er es):LE X (.List er pos) (.newl es):=fun br z I nb=>Dt ((h false pos).go (f:=fun l s=>if l.length≤100000 then Out.ok (D.ref s.st.length) ⟨s.env,s.ow,s.st ++ [.lst l]⟩ else .bad) .refl I rfl nb fun z1 l us y1 x1 I1 r1 e1=>by
 by_cases c:l.length≤100000
 ·rw [ZZ c] at e1
  exact ⟨by rw [← r1.rds.len];exact big c,ve x1 I1 r1.rds c e1⟩
 ·rw [ZY c] at e1;exact ZX e1 nb)
theorem uW (hN:X.N.Nodup) (hi:X.N[i]? = some x) (hx:Loc X.env.scope x) (h:LA X er es) (hs:D3 (.List er lp) (some (.Name x pos')) pos.line X.env=pure false):LS X (.Assign [.Name x pos'] (.List er lp) pos) (.setR i es):=fun z I nb=>Gx (by
 have e:X.ex (.setR i es) z.t=(X.ev false (.newl es) z.t).go fun d s=>.nx (stV s i d false):=by
  show Out.go (X.evs false es z.t) _=Out.go (Out.bind (X.evs false es z.t) _) _
  cases X.evs false es z.t with
  | ok l s=>show (if l.length≤100000 then _ else _)=Out.go (if l.length≤100000 then _ else _) _;by_cases c:l.length≤100000 <;> simp only [c,if_true,if_false] <;> rfl
  | _=>rfl
 exact (uF h false).gos .refl I e nb fun z1 d u y x0 I1 r e1=>cz (own:=false) x0 I1 hN hi hx r.rd fun s' a _ _ I' g'=>nxt (z1:={ z1 with t:=stV z1.t i d false,σ:=z1.σ.set i (some u),s:=s' }) g' I' e1) hs
theorem rR {st:List O} {x:D} {w:Int} (h:look st x = .int w):x = .int w:=by
 cases x with
 | ref n=>unfold look at h;dsimp only at h;split at h <;> cases h
 | _=>exact h
structure tC (X:Cx) (op:EA) (o:Op) (g:Int→Int→Int):Prop where
 op:∀ {A:Ϗ} {s:ν} {i j:Int} {t u:Tok} {Q:ζ→ν→Prop} {E:ζ→ν→Prop},Q (.int (g i j) s.toks) { s with toks:=s.toks+1 }→χ X.M A (inplaceOp op (.int i t) (.int j u)) Q E s
 od:∀ i j,opD o (.int i) (.int j)=some (.int (g i j))
 oi:∀ x c d,opD o x (.int c)=some d→∃ w,x = .int w
theorem tJ:tC X .Sub .sub (· - ·):=⟨isub_int,fun _ _=>rfl,fun x c d h=>by cases x <;> first | exact ⟨_,rfl⟩ | cases h⟩
theorem tI:tC X .Add .add (· + ·):=⟨iadd_int,fun _ _=>rfl,fun x c d h=>by cases x <;> first | exact ⟨_,rfl⟩ | cases h⟩
theorem yk (T:cB X an) {o:Op} (ar:tC X op o g) (hN:X.N[i]? = some x) (hv:Vis X.env.scope x) (hd:(x == ("__debug__":μ))=false) (hcd:(x == ("__classdict__":μ))=false):LS X (.AugAssign (.Attribute (.Name x p1) (an f) p) op (.Constant (.int c) j p2) pos) (.fld (.v i) f (.op o (.fld (.v i) f) (.c (.int c)))):=fun z I nb=>by
 have e:=i7 (X:=X) (a:=.v i) (f:=f) (s:=z.t) (e:=.op o (.fld (.v i) f) (.c (.int c))) rfl
 have e:X.ex (.fld (.v i) f (.op o (.fld (.v i) f) (.c (.int c)))) z.t=((((X.ev true (.v i) z.t).bind fun x s=>Out.of s (lZ X.Γ s.st x f)).bind fun x s=>Out.of s (opD o (look s.st x) (.int c))).go fun d s=>(X.ev true (.v i) s).go fun x s=>(match x with
  | .ref n=>(match (s.st[n]?).bind fun o=>eS X.Γ o f d with | some o=>.nx ⟨s.env,s.ow,s.st.set n o⟩ | none=>.bad)
  | _=>.bad)):=e
 have ev:X.ev true (.v i) z.t=(match z.t.env[i]? with | some (some d)=>.ok d z.t | _=>.bad):=rfl
 revert nb
 generalize X.ex (.fld (.v i) f (.op o (.fld (.v i) f) (.c (.int c)))) z.t=oo at e
 intro nb
 refine wpAny_AugAssign_AttributeAny ?_
 cases q:z.t.env[i]? with
 | none=>rw [ev,q] at e;exact ZX e nb
 | some ow=>cases ow with
   | none=>rw [ev,q] at e;exact ZX e nb
   | some d=>
     rw [q] at ev
     rw [ev] at e
     obtain ⟨u,hu,ru⟩:=I.slot q
     refine bT I hN hv hu ?_ hd hcd
     cases q1:lZ X.Γ z.t.st d f with
     | none=>simp only [Out.bind,q1,Out.of] at e;exact ZX e nb
     | some x=>
       simp only [Out.bind,q1,Out.of] at e
       cases q2:opD o (look z.t.st x) (.int c) with
       | none=>simp only [q2] at e;exact ZX e nb
       | some d2=>
         simp only [q2] at e
         obtain ⟨w,hw⟩:=ar.oi _ _ _ q2
         rw [hw] at q2
         obtain rfl:=rR hw
         obtain rfl:=Ϥ ((ar.od w c).symm.trans q2)
         have e:oo=((X.ev true (.v i) z.t).go fun x s=>(match x with
          | .ref n=>(match (s.st[n]?).bind fun o=>eS X.Γ o f (.int (g w c)) with | some o=>.nx ⟨s.env,s.ow,s.st.set n o⟩ | none=>.bad)
          | _=>.bad)):=e
         rw [ev] at e
         cases d with
         | ref n=>
           obtain ⟨p,ep,rfl⟩:=hX I ru
           obtain ⟨C,fs,v,h1,h2,h3,h4,h5⟩:=qF T I ep q1
           have h6:=h5
           obtain ⟨t,ht⟩:∃ t,v = .int w t:=h6
           subst ht
           refine l8 I h1 h2 h3 h4 h5 (G4 (ar.op ?_))
           have gr:Gr z.s { z.s with toks:=z.s.toks+1+1+1 }:=.tok
           exact j6 (z:={ z with s:={ z.s with toks:=z.s.toks+1+1+1 } }) T (aw I.gh gr).ee.go (I.grow (aw I.gh gr)) ep (show RD X.W z.ρ z.G (.int (g w c)) _ from ⟨_,rfl⟩) e nb
         | _=>exact ZX e nb
end
section
variable {prog:ϴ} {w:Û} {A:Ϗ} {E:ζ→ν→Prop} {s:ν}
theorem iZ {it l:Α} {items:Array ζ} (hne:l≠it):∀ (n i:Nat) (s:ν) (Q:List ζ→ν→Prop),s.heap.IsListIter it l i→s.heap.IsList l items→i+n≤items.size →
 (∀ h',h'.IsListIter it l (i+n)→Ü it s.heap h'→Q ((items.toList.drop i).take n) { s with heap:=h' })→χ (model prog w) A (draw (.ref it) n) Q E s
 | 0,i,s,Q,hit,_,_,hQ=>by
   show χ _ _ (pure []) Q E s
   exact θ (by simpa using hQ s.heap hit (Heap.SameBut.refl ..))
 | n+1,i,s,Q,hit,ht,hle,hQ=>by
   have hlt:i<items.size:=by omega
   show χ _ _ (DY (.ref it) >>= _) Q E s
   refine ε (wpAny_pyNext_list_item hit ht (x:=items[i]) (by simp [hlt]) fun h₁ hit₁ hs₁=>?_)
   refine ε (Τ (iZ hne n (i+1) _ _ hit₁ (ht.extBut hs₁.extBut hne) (by omega) fun h₂ hit₂ hs₂=>θ ?_))
   have hd:items.toList.drop i=items[i] :: items.toList.drop (i+1):=by simp [ŀ,hlt]
   have:=hQ h₂ (by rw [show i+(n+1)=i+1+n by omega];exact hit₂) (hs₁.trans hs₂)
   rw [hd,List.take_succ_cons] at this
   exact this
theorem fz {l:Α} {items:Array ζ} {Q:List ζ→ν→Prop} (hh:A.handled=none) (ht:s.heap.IsList l items)
 (hQ:∀ h',H0 s.heap.objs.size s.heap h'→Q items.toList { s with heap:=h' }):χ (model prog w) A (E8 (.ref l) items.size none) Q E s:=by
 have hlt:l≠s.heap.objs.size:=by obtain ⟨o,ho,_⟩:=ht;exact ϝ (Ξ ho)
 unfold E8
 refine ε ?_
 unfold notIterableAtAll
 refine ε (Ž ht.typeIs slot_list_iter.lookup ?_)
 refine θ ?_
 simp only [á,if_false]
 refine ε (Τ (ą ht ?_))
 refine ε (Τ (iZ hlt items.size 0 _ _ ⟨_,ψ _ rfl,rfl,rfl⟩ (ht.push _) (by omega) fun h₁ hit₁ hs₁=>?_))
 have hall:List.take items.size (List.drop 0 items.toList)=items.toList:=by
  rw [Ķ];exact Em (by simp)
 rw [hall]
 rw [ZY (by simp)]
 have ht₁:h₁.IsList l items:=(ht.push _).extBut hs₁.extBut hlt
 refine ε (Τ (wpAny_pyNext_list_end hh hit₁ ht₁ (by simp) fun h₂ he₂=>?_))
 simp only [Option.isSome_none,á,if_false]
 exact θ (hQ h₂ fun b o hb e=>he₂ b o hb (hs₁.extBut b o hb (τ _ e)))
end
section
variable {X:Cx} {z z' z0 z1:Z}
def binds (env:List (Option D)) (l:List (Nat×D)):List (Option D):=l.foldl (fun e p=>e.set p.1 (some p.2)) env
def zI (t:Sta) (ts:List Nat) (ds:List D):Sta:=⟨binds t.env (ts.zip ds),t.ow.filter fun i=>!ts.contains i,t.st⟩
def As (X:Cx):List (ζ→DD Unit)→List Nat→Prop
 | f :: fs,i :: t=>(∃ x,X.N[i]? = some x∧Loc X.env.scope x∧∀ {v Q E s},χ X.M X.A (storeName X.env x v) Q E s→χ X.M X.A (f v) Q E s)∧As X fs t
 | [],[]=>True
 | _,_=>False
theorem vJ {Q:Unit→ν→Prop} {E:ζ→ν→Prop} (hN:X.N.Nodup):∀ {fs t ds us z},As X fs t→Go X z0 z→Rep X z→RDs X.W z.ρ z.G ds us→ds.length=t.length→(∀ z',Go X z0 z'→Rep X z'→z'.ρ=z.ρ→z'.G=z.G→z'.t=zI z.t t ds→(∀ j,j ∉ t→z'.σ[j]? = z.σ[j]?)→((∀ i∈t,∀ x,X.N[i]? = some x→X.env.scope.names.lookup x=some .local)→∀ b o,z.h b=some o→b≠X.env.locals→z'.h b=some o)→Q () z'.s)→χ X.M X.A (assignInOrder fs us) Q E z.s
 | [],[],[],us,z,_,x,I,r,_,h=>assignInOrder_nil (h z x I rfl rfl (by
   have:z.t.ow.filter (fun i=>!([]:List Nat).contains i)=z.t.ow:=List.filter_eq_self.mpr fun _ _=>rfl
   show z.t=⟨z.t.env,_,z.t.st⟩
   rw [this]) (fun _ _=>rfl) fun _ _ _ e _=>e)
 | f :: fs,i :: t,d :: ds,us,z,⟨⟨x',h1,h2,h3⟩,ha⟩,x,I,r,hl,h=>by
   obtain ⟨u,vs,rfl,r1,r2⟩:=r
   refine assignInOrder_cons (h3 (cz (own:=false) x I hN h1 h2 r1 fun s' a sb la I' g'=>?_))
   refine vJ hN (z:={ z with t:=stV z.t i d false,σ:=z.σ.set i (some u),s:=s' }) ha g' I' r2 (ņ hl) fun z' gz Iz eρ eG et eσ ek=>h z' gz Iz eρ eG (et.trans ?_) (fun j nj=>?_) fun lc b o e nb=>ek (fun i' m=>lc i' (ι _ m)) b o ((sb.2 b fun q=>nb (q.trans (la.2 (lc i κ x' h1)))).trans e) nb
   ·show (⟨binds (z.t.env.set i (some d)) (t.zip ds),(z.t.ow.filter (· != i)).filter (fun j=>!t.contains j),z.t.st⟩:Sta)=⟨binds (z.t.env.set i (some d)) (t.zip ds),z.t.ow.filter (fun j=>!(i :: t).contains j),z.t.st⟩
    rw [List.filter_filter]
    congr 1
    refine Fm fun j _=>?_
    rw [List.contains_cons,Bool.not_or,Bool.and_comm];rfl
   ·rw [π,not_or] at nj
    exact (eσ j nj.2).trans (Φ (ϥ nj.1))
 | [],_ :: _,_,_,_,h,_,_,_,_,_=>h.elim
 | _ :: _,[],_,_,_,h,_,_,_,_,_=>h.elim
 | [],[],_ :: _,_,_,_,_,_,_,hl,_=>by cases hl
 | _ :: _,_ :: _,[],_,_,_,_,_,_,hl,_=>by cases hl
def LG (X:Cx) (tg:Λ) (t:List Nat) (one:Bool):Prop:=∀ (z0 z:Z) (d:D) (u:ζ) (env:List (Option D)) (Q:Unit→ν→Prop) (E:ζ→ν→Prop),Go X z0 z→Rep X z→RD X.W z.ρ z.G d u→aV t one d z.t.env=some env →
 (∀ z',Go X z0 z'→Rep X z'→z'.ρ=z.ρ→Go X z z'→z'.t=⟨env,z.t.ow.filter fun i=>!t.contains i,z.t.st⟩→(∀ j,j ∉ t→z'.σ[j]? = z.σ[j]?)→((∀ i∈t,∀ x,X.N[i]? = some x→X.env.scope.names.lookup x=some .local)→∀ b o,z.h b=some o→b≠X.env.locals→z'.h b=some o)→Q () z'.s)→χ X.M X.A (assign tg X.env u) Q E z.s
theorem uI (hN:X.N.Nodup) (hi:X.N[i]? = some x) (hx:Loc X.env.scope x):LG X (.Name x pos) [i] true:=fun z0 z d u env Q E x0 I r e h=>by
 cases (show some (z.t.env.set i (some d))=some env from e)
 refine DH (cz (own:=false) .refl I hN hi hx r fun s' a sb la I' g'=>h { z with t:=stV z.t i d false,σ:=z.σ.set i (some u),s:=s' } (x0.trans g') I' rfl g' ?_ (fun j nj=>?_) fun lc b o e nb=>(sb.2 b fun q=>nb (q.trans (la.2 (lc i (η.mpr rfl) x hi)))).trans e)
 ·show (⟨_,z.t.ow.filter (· != i),z.t.st⟩:Sta)=⟨_,z.t.ow.filter (fun j=>![i].contains j),z.t.st⟩
  congr 1
  refine Fm fun j _=>?_
  by_cases c:j=i <;> simp [c]
 ·exact Φ fun w=>nj (by rw [w];exact η.mpr rfl)
theorem sU {n:Nat} {Q:List ζ→ν→Prop} {E:ζ→ν→Prop} {d:D} {l:List D} (hc:X.calm=true) (I:Rep X z) (r:RD X.W z.ρ z.G d u) (e:d = .tup l∨d = .lst l) (hn:l.length=n) (q:∀ s' us,Gr z.s s'→RDs X.W z.ρ z.G l us→Q us s'):χ X.M X.A (E8 u n none) Q E z.s:=by
 subst hn
 rcases e with rfl | rfl
 ·obtain ⟨a,o,vs,rfl,g,⟨tc,⟨k,td⟩,tl⟩,r⟩:=r
  rw [show l.length=vs.toArray.size by simp [r.len]]
  exact wpAny_unpackItems_tuple (I.hd hc) (show z.s.heap.IsTuple a vs.toArray from ⟨o,I.gh _ _ g,tc,⟨k,td⟩⟩) fun h' hx=>q _ _ (.hp (t:=z.s.toks) fun b o e=>hx b o (ϝ (Ξ e)) e) (by simpa using r)
 ·obtain ⟨a,o,vs,rfl,g,⟨⟨k,rfl⟩,tl⟩,r⟩:=r
  rw [show l.length=vs.toArray.size by simp [r.len]]
  exact fz (I.hd hc) (show z.s.heap.IsList a vs.toArray from ⟨_,I.gh _ _ g,rfl,⟨k,rfl⟩⟩) fun h' hx=>q _ _ (.hp (t:=z.s.toks) fun b o e=>hx b o (ϝ (Ξ e)) e) (by simpa using r)
theorem pT {n:Nat} {Q:List ζ→ν→Prop} {E:ζ→ν→Prop} {d:D} {l:List D} (hc:X.calm=true) (I:Rep X z) (r:RD X.W z.ρ z.G d u) (e:d = .tup l∨d = .lst l) (hn:l.length=n) (q:∀ s' us,X.tz≤s'.toks→Gr z.s s'→RDs X.W z.ρ z.G l us→Q us s'):χ X.M X.A (E8 u n none) Q E z.s:=
 Κ (ϙ I.tk (sU (E:=E) (Q:=fun us s'=>Gr z.s s'∧RDs X.W z.ρ z.G l us) hc I r e hn fun s' us a b=>⟨a,b⟩)) (fun us s' ⟨tk,a,b⟩=>q s' us tk a b) fun _ _ w=>w.2
theorem qe (e:aV t false d env=some env'):∃ l,(d = .tup l∨d = .lst l)∧l.length=t.length∧env'=binds env (t.zip l):=by
 cases d with
 | tup l=>obtain ⟨c,e⟩:=aO (show (if l.length=t.length then some (binds env (t.zip l)) else none)=some env' from e);cases e;exact ⟨l,.inl rfl,c,rfl⟩
 | lst l=>obtain ⟨c,e⟩:=aO (show (if l.length=t.length then some (binds env (t.zip l)) else none)=some env' from e);cases e;exact ⟨l,.inr rfl,c,rfl⟩
 | _=>cases e
theorem rP {es:List Λ} {k:Nat} {pos:Ϫ} (hc:X.calm=true) (hN:X.N.Nodup) (ha:As X ((Ī es X.env).map (·.2)) t) (hn:(Ī es X.env).length=t.length) (hst:(Ī es X.env).findIdx? (·.1)=none):LG X (.Tuple es k pos) t false:=fun z0 z d u env Q E x0 I r e h=>by
 obtain ⟨l,dl,hl,rfl⟩:=qe e
 rw [assign_Tuple]
 refine ε (Ò ?_)
 unfold unpack
 rw [hn,hst]
 refine ε (Τ (pT hc I r dl hl fun s' us tk g rs=>?_))
 exact vJ (z:={ z with s:=s' }) hN ha (aw I.gh g).ee.go (I.grow (aw I.gh g) tk) rs hl fun z' gz Iz eρ eG et eσ ek=>h z' (x0.trans gz) Iz eρ gz et eσ fun lc b o e nb=>ek lc b o (g.k b o e) nb
theorem uX (he:LE X e c) (hg:LG X tg t false) (hs:EF [tg] e pos.line X.env=pure false) (hw:EG [tg] e X.env=pure none) (h1:(Ī [tg] X.env).map (·.2) = [assign tg X.env]):LS X (.Assign [tg] e pos) (.setT t c):=fun z I nb=>FL ((he false).gos .refl I rfl nb fun z1 d u y x0 I1 r e1=>by
 rw [h1]
 cases q:aV t false d z1.t.env with
 | none=>rw [q] at e1;exact ZX e1 nb
 | some env=>
   rw [q] at e1
   exact hg z z1 d u env _ _ x0 I1 r.rd q fun z' gz Iz _ _ et _ _=>nxt gz Iz (by rw [et];exact e1)) hs hw
end
section
variable {X:Cx} {z:Z}
def isV:E→Bool
 | .v _=>true
 | _=>false
theorem uT (hn:aJ eb=true) (hv:isV a=false) (ho:LE X eo a) (hb:LE X eb b) (he:LE X ee e):LS X (.Assign [.Subscript eo eb p2] ee pos) (.put a b e):=fun z I nb=>by
 have e0:X.ex (.put a b e) z.t=(X.ev false e z.t).go fun d s=>(X.ev true a s).go fun x s=>(X.ev true b s).go fun k s=>(match x with
  | .ref n=>(match (s.st[n]?).bind fun o=>eQ o k d with | some o=>.nx ⟨s.env,s.ow,s.st.set n o⟩ | none=>.bad)
  | _=>.bad):=by cases a <;> first | rfl | cases hv
 refine mP hn ((he false).gos (K:=fun v s'=>∃ z1 d,z1.s=s'∧Go X z z1∧Rep X z1∧RD X.W z1.ρ z1.G d v∧X.ex (.put a b e) z.t=((X.ev true a z1.t).go fun x s=>(X.ev true b s).go fun k s=>(match x with
  | .ref n=>(match (s.st[n]?).bind fun o=>eQ o k d with | some o=>.nx ⟨s.env,s.ow,s.st.set n o⟩ | none=>.bad)
  | _=>.bad))) .refl I e0 nb fun z1 d u y x1 I1 r1 e1=>⟨z1,d,rfl,x1,I1,r1.rd,e1⟩) fun v s' ⟨z1,d,q,x1,I1,r1,e1⟩=>?_
 subst q
 exact (ho true).gos x1 I1 e1 nb fun z2 x u y2 x2 I2 r2 e2=>(hb true).gos x2 I2 e2 nb fun z3 k kv y3 x3 I3 r3 e3=>by
  cases x with
  | ref n=>
    obtain ⟨p,ep,rfl⟩:=hX I3 (r2.rb.st y3 I3)
    exact sF x3 I3 ep (r3.rb.cr0 I3) ((r1.st y2.st).st y3.st) e3 nb
  | _=>exact ZX e3 nb
theorem yn {i:Nat} {x:μ} (hN:X.N[i]? = some x) (hv:Vis X.env.scope x) (hd:(x == ("__debug__":μ))=false) (hcd:(x == ("__classdict__":μ))=false) (he:LE X e c) (m:M1 X (.Name x p) "extend" apos e cpos):LS X (.Expr (.Call (.Attribute (.Name x p) "extend" apos) [e] [] cpos) pos) (.ext i c):=fun z I nb=>by
 have e0:X.ex (.ext i c) z.t=(if z.t.ow.contains i && isLst z.t.env[i]? then (X.ev false c z.t).go fun d s=>if s.ow.contains i then (match s.env[i]?,d with
  | some (some (.lst l)),.lst x=>if l.length+x.length≤100000 then .nx ⟨s.env.set i (some (.lst (l ++ x))),s.ow,s.st⟩ else .bad
  | _,_=>.bad) else .bad else .bad):=rfl
 by_cases c0:(z.t.ow.contains i && isLst z.t.env[i]?)=true
 ·rw [ZZ c0] at e0
  rw [Χ] at c0
  have mi:i∈z.t.ow:=by simpa using c0.1
  obtain ⟨l,el⟩:∃ l,z.t.env[i]? = some (some (.lst l)):=by
   have:=c0.2
   unfold isLst at this
   split at this
   ·rename_i l q;exact ⟨l,q⟩
   ·cases this
  obtain ⟨a,vs,n,es,ha,r⟩:=gc I mi el
  refine ŉ (Ć m.base m.few m.line ł DP PySem.F.type_list_extend (bT I hN hv es ⟨⟨_,ha,rfl⟩,fun b q=>(by cases q;exact ⟨_,ha,rfl⟩),?_⟩ hd hcd)) I.quiet rfl
  rw [m.trees]
  refine Ã rfl (Ï (Ι ((he false).gos .refl I e0 nb fun z1 d u y x1 I1 r1 e1=>ϋ ?_)))
  by_cases c1:z1.t.ow.contains i=true
  ·rw [ZZ c1] at e1
   have m1:i∈z1.t.ow:=by simpa using c1
   have el1:z1.t.env[i]? = some (some (.lst l)):=by rw [y.en];exact el
   rw [el1] at e1
   cases d with
   | lst x=>
     dsimp only at e1
     obtain ⟨a',vs,n,es',ha,r⟩:=gc I1 m1 el1
     rw [y.sg,es] at es';cases es'
     obtain ⟨b,o,us,rfl,g,⟨⟨n2,rfl⟩,hz2⟩,r2⟩:=r1.rd
     by_cases c2:l.length+x.length≤100000
     ·rw [ZZ c2] at e1
      have l1:=r.len
      have l2:=r2.len
      have hz:vs.toArray.size+us.toArray.size≤ϟ:=by simp only [Μ];exact big (by omega)
      refine Dx DP ⟨_,ha,rfl⟩ PySem.F.entry_list_extend (PySem.F.args_list_extend_2 _ _) (AutoSeq1.list_extend_list_list_0 a vs.toArray n b us.toArray n2 ?_ (by omega) (by omega)) ⟨ha,I1.gh _ _ g,?_⟩
      ·rw [show Hi (vs.toArray.size+us.toArray.size)=false from ZV (CZ.mpr hz),DU];exact fun h=>nomatch h
      obtain ⟨⟨o1,u1,u3⟩,u2⟩:=eY (f:=(· ++ us.toArray)) (ws:=vs ++ us) ha (by simp) (by rw [ω];simpa using hz)
      obtain ⟨I2,g2⟩:=I1.ownw (s':={ z1.s with heap:=z1.s.heap.update a (í (· ++ us.toArray)) }) (d':=.lst (l ++ x)) m1 (by rw [y.sg];exact es) rfl u2 ⟨o1,vs ++ us,rfl,u1,u3,r.app r2⟩ rfl rfl
      exact nxt (x1.trans g2) I2 e1
     ·rw [ZY c2] at e1;exact ZX e1 nb
   | _=>exact ZX e1 nb
  ·rw [ZY c1] at e1;exact ZX e1 nb
 ·rw [ZY c0] at e0;exact ZX e0 nb
end
section
variable {X:Cx}
theorem uj {st:List O} {x:D} (h:iH st x=true):∃ n l,x = .ref n∧st[n]? = some (.lst l):=by
 unfold iH at h
 split at h
 ·split at h
  ·exact ⟨_,_,rfl,by assumption⟩
  ·cases h
 ·cases h
theorem uP {f:Nat} (ho:LE X eo a) (he:LE X e c) (m:M1 X eo "append" apos e cpos):LS X (.Expr (.Call (.Attribute eo "append" apos) [e] [] cpos) pos) (.fapp a f c):=fun z I nb=>by
 have e0:X.ex (.fapp a f c) z.t=(X.ev true a z.t).go fun x s=>if iH s.st x=true then (X.ev false c s).go fun d s=>apO x d s else .bad:=rfl
 refine ŉ (Ć m.base m.few m.line ł ê DN ((ho true).gos .refl I e0 nb fun z1 x u y1 x1 I1 r1 e1=>?_)) I.quiet rfl
 by_cases c0:iH z1.t.st x=true
 ·rw [ZZ c0] at e1
  obtain ⟨n,l,rfl,en⟩:=uj c0
  obtain ⟨p,ep,rfl⟩:=hX I1 r1.rb
  obtain ⟨o,vs,_,ho,⟨⟨k,rfl⟩,_⟩,_⟩:=I1.ob n _ p en ep
  refine ⟨⟨_,ho,rfl⟩,fun b q=>(by cases q;exact ⟨_,ho,rfl⟩),?_⟩
  rw [m.trees]
  refine Ã rfl (Ï (Ι ((he false).gos x1 I1 e1 nb fun z2 d w y2 x2 I2 r2 e2=>ϋ ?_)))
  have e2:X.ex (.fapp a f c) z.t=(match z2.t.st[n]? with | some (.lst l)=>if l.length<100000 then .nx ⟨z2.t.env,z2.t.ow,z2.t.st.set n (.lst (l ++ [d]))⟩ else .bad | _=>.bad):=e2
  cases q:z2.t.st[n]? with
  | none=>rw [q] at e2;exact ZX e2 nb
  | some ob=>
    rw [q] at e2
    cases ob with
    | lst l2=>
      dsimp only at e2
      by_cases c2:l2.length<100000
      ·rw [ZZ c2] at e2
       have ep2:=gj y2.st.pr ep
       obtain ⟨o,vs,hp2,ho,⟨⟨k,rfl⟩,_⟩,rl⟩:=I2.ob n _ p q ep2
       have hz:vs.length<100000:=by rw [← rl.len];exact c2
       refine Dx ê ⟨_,ho,rfl⟩ İ (Ĭ _ _) (CY p.1 vs.toArray k w (by rw [Μ];exact ú (ä hz (big (Ω _))))) ⟨ho,?_⟩
       obtain ⟨⟨o1,u1,u3⟩,u2⟩:=eY (f:=(·.push w)) (ws:=vs ++ [w]) ho (by simp) (by rw [ω];exact big (by simp;omega))
       obtain ⟨I3,g3⟩:=I2.stw (s':={ z2.s with heap:=z2.s.heap.update p.1 (í (·.push w)) }) (o':=.lst (l2 ++ [d])) ep2 (.inl rfl) u2 ⟨o1,vs ++ [w],hp2,u1,u3,rl.app (.cons r2.rd rfl)⟩ rfl rfl
       exact nxt (x2.trans g3) I3 e2
      ·rw [ZY c2] at e2;exact ZX e2 nb
    | _=>exact ZX e2 nb
 ·rw [ZY c0] at e1;exact ZX e1 nb
end
structure Itr (W:Wd) (tg:Λ) (it:Α) (fp wr:List Α) (ds:List D) (ρ:Rs) (G:Hp) (St:Nat→ϳ→Prop):Prop where
 sub:∀ b∈wr,b∈fp
 keep:∀ i h h',St i h→(∀ b∈fp,∀ o,h.get? b=some o→h'.get? b=some o)→St i h'
 ex:∀ i h,St i h→∀ b∈wr,∃ o,h.get? b=some o
 item:∀ {A:Ϗ} {i:Nat} {d:D} {s:ν},A.handled=none→ds[i]? = some d→St i s.heap→χ (model W.P W.w) A (DY (.ref it)) (fun r s1=>∃ u,r=some u∧χ (model W.P W.w) A (C5 tg (.ref it) u) (fun _ s2=>St (i+1) s2.heap∧(s2.os=s.os∧s2.gens=s.gens)∧(∀ b o,b ∉ wr→s.heap.get? b=some o→s2.heap.get? b=some o) ∧
  ∀ ρ' G',ρ <+: ρ'→Sub G G'→(∀ a o,s.heap.get? a=none→s2.heap.get? a=some o→G' a=some o)→RD W ρ' G' d u) NoE s1) NoE s
 done:∀ {A:Ϗ} {s:ν},A.handled=none→St ds.length s.heap→χ (model W.P W.w) A (DY (.ref it)) (fun r s2=>r=none∧(s2.os=s.os∧s2.gens=s.gens)∧∀ b o,b ∉ wr→s.heap.get? b=some o→s2.heap.get? b=some o) NoE s
 self:∀ {A:Ϗ} {i:Nat} {s:ν} {Q:ζ→ν→Prop} {E:ζ→ν→Prop},A.handled=none→St i s.heap→Q (.ref it) s→χ (model W.P W.w) A (ş (.ref it)) Q E s
def Fp (X:Cx) (z0 z:Z) (fp wr:List Α):Prop:=∀ b∈fp,(Nob X z0 z b∧∃ o,z.h b=some o)∨(b ∉ wr∧∃ o,z.G b=some o)
section
variable {X:Cx} {z z' z0 z1:Z}
theorem Nob.go (x:Go X z z') (n:Nob X z0 z b) (e:z.h b=some o):Nob X z0 z' b∧z'.h b=some o:=by
 obtain ⟨n0,⟨f1,f2,f3,f4⟩,f5⟩:=n
 have no:∀ {P:Prop},z.h b=none→P:=fun w=>by rw [w] at e;cases e
 refine ⟨⟨n0,⟨?_,fun m=>(x.st.rn b m).elim f2 no,f3,f4⟩,fun w=>(x.ow b w).elim f5 no⟩,x.st.sm b o e f2 (fun w=>w.elim f5 f4) f3⟩
 cases q:z'.G b with
 | none=>rfl
 | some o'=>
   rcases x.st.gn b o' q with w | w | w
   ·rw [f1] at w;cases w
   ·exact no w
   ·exact (w.elim f5 f4).elim
theorem Fp.go (x:Go X z z') (f:Fp X z0 z fp wr):Fp X z0 z' fp wr:=fun b hb=>(f b hb).imp (fun ⟨n,o,e⟩=>let ⟨a,b⟩:=n.go x e;⟨a,o,b⟩) fun ⟨n,o,e⟩=>⟨n,o,x.st.gg b o e⟩
theorem Fp.keep (x:Go X z z') (I:Rep X z) (I':Rep X z') (f:Fp X z0 z fp wr):∀ b∈fp,∀ o,z.h b=some o→z'.h b=some o:=fun b hb o e=>by
 rcases f b hb with ⟨n,o',e'⟩ | ⟨_,o',e'⟩
 ·exact (n.go x e).2
 ·rw [I.gh b o' e'] at e;cases e;exact I'.gh b _ (x.st.gg b _ e')
theorem Rep.turn {s':ν} {wr:List Α} {w:Α→Prop} (x:Stp X.fr w z0 z) (I:Rep X z) (hw:∀ b∈wr,Nob X z0 z b∧∃ o,z.h b=some o) (k:∀ b o,b ∉ wr→z.h b=some o→s'.heap.get? b=some o) (os:s'.os=z.s.os∧s'.gens=z.s.gens) (tk:X.tz≤s'.toks:=by first | assumption | exact HR.tk (by assumption) | exact HR.tk1 (by assumption) | exact (Rep.toHR (by assumption)).tk | exact (Rep.toHR (by assumption)).tk1 | exact ϒ (by assumption)):Rep X (z.up s')∧Stp X.fr w z0 (z.up s')∧Sub z.G (z.up s').G∧∀ b∈wr,Nob X z0 (z.up s') b:=by
 have gd:∀ a,(z.up s').G a=match z.h a with | none=>s'.heap.get? a | some _=>z.G a:=fun _=>rfl
 have nG:∀ {b o},z.G b=some o→b ∉ wr:=fun e m=>by rw [(hw _ m).1.2.1.1] at e;cases e
 have nM:∀ {b},Mu z.ρ b→b ∉ wr:=fun h m=>(hw _ m).1.2.1.2.1 h
 have nf:∀ {b},b∈frs X.fr→b ∉ wr:=fun h m=>(hw _ m).1.2.1.2.2.1 h
 have nL:∀ {b},Lc X b→b ∉ wr:=fun h m=>(hw _ m).1.2.1.2.2.2 h
 have nO:∀ {b},Own z b→b ∉ wr:=fun h m=>(hw _ m).1.2.2 h
 have gg:Sub z.G (z.up s').G:=fun a o e=>by rw [gd,I.gh a o e];exact e
 have nn:∀ {a:Α},(∃ o,z.h a=some o)→z.G a=none→(z.up s').G a=none:=fun {a} ⟨o,e⟩ n=>by rw [gd,e];exact n
 have gh:Sub (z.up s').G s'.heap.get?:=fun a o e=>by
  rw [gd] at e
  cases q:z.h a with
  | none=>rw [q] at e;exact e
  | some u=>rw [q] at e;exact k a o (nG e) (I.gh a o e)
 have ck:∀ x c v,X.env.cells.lookup x=some c→z.s.heap.IsCell c v→s'.heap.IsCell c v:=fun x c v e ⟨o,q,d⟩=>⟨o,k c o (nL (.inr ⟨x,e⟩)) q,d⟩
 have fu:s'.heap.FunFrames X.base X.fr:=by
  have:∀ {l:List CL},(∀ b∈frs l,b ∉ wr)→z.s.heap.FunFrames X.base l→s'.heap.FunFrames X.base l:=fun {l}=>by
   induction l with
   | nil=>exact fun _ _=>trivial
   | cons v r ih=>
     intro hs ⟨a,⟨L,o,e1,e2,e3,e4⟩,q⟩
     have hm:L∈frs (v :: r):=by unfold frs;rw [Ϧ,e1];exact κ
     exact ⟨a,⟨L,o,e1,e2,k L o (hs L hm) e3,e4⟩,ih (fun b hb=>hs b (by unfold frs;rw [Ϧ,e1];exact ι _ hb)) q⟩
  exact this (fun b h=>nf h) I.fu
 have gn:∀ a o,(z.up s').G a=some o→z.G a=some o∨z.h a=none:=fun a o e=>by
  rw [gd] at e
  cases q:z.h a with
  | none=>exact .inr rfl
  | some u=>rw [q] at e;exact .inl e
 refine ⟨⟨⟨I.md,I.fm,I.hd,fun b o e=>gg _ _ (I.bs b o e),gh,I.rl,I.rn,fun a m=>nn (I.th m) (I.rg a m),fun n o p h1 h2=>(I.ob n o p h1 h2).mono (ξ _) gg fun a ha o e=>k a o (nM ⟨p,ο h2,ha⟩) e,fu,fun b m=>⟨nn (I.fth m) (I.ff b m).1,(I.ff b m).2⟩,by show Ş s'.gens;rw [os.2];exact I.br,os.1.trans I.os,tk⟩,I.ok,?_,fun x c e=>let ⟨v,q⟩:=I.ce x c e;⟨v,ck x c v e q⟩,fun a l=>⟨nn (I.lth l) (I.fl a l).1,(I.fl a l).2⟩,I.el,I.sl,fun i d n e=>let ⟨u,q,r⟩:=I.en i d n e;⟨u,q,r.mono (ξ _) gg⟩,fun i m=>?_,I.od⟩,⟨x.pr,x.gg.trans gg,fun a o e=>?_,x.rn,fun a o e=>?_,fun a o e n w f=>?_,fun a o e n w f=>?_⟩,gg,fun b hb=>let ⟨⟨n0,f,no⟩,ex⟩:=hw b hb;⟨n0,⟨nn ex f.1,f.2⟩,no⟩⟩
 ·obtain ⟨m,⟨oL,es,ep,q,r⟩,hl⟩:=I.lo
  exact ⟨m,⟨oL,es,ep,k _ _ (nL (.inl rfl)) q,r⟩,fun j x w e1 e2 e3=>dC (fun c v e q=>ck x c v e q) (hl j x w e1 e2 e3)⟩
 ·obtain ⟨d,a,o,h1,h2,h3,r,f⟩:=I.eo i m
  exact ⟨d,a,o,h1,h2,h3,r.mono (ξ _) gg fun c hc o e=>k c o (by rcases hc with rfl | rfl <;> exact nO ⟨i,m,h2⟩) e,nn r.th.1 f.1,f.2⟩
 ·rcases gn a o e with w | w
  ·exact x.gn a o w
  ·exact .inr (.inl (x.no w))
 ·obtain ⟨o1,e1⟩:=x.th a o e
  by_cases m:a∈wr
  ·rw [(hw a m).1.1] at e;cases e
  ·exact ⟨o1,k a o1 m e1⟩
 ·exact k a o (fun m=>by rw [(hw a m).1.1] at e;cases e) (x.sm a o e n w f)
 ·obtain ⟨sl,q⟩:=x.sl a o e n w f
  exact ⟨sl,k a _ (fun m=>by rw [(hw a m).1.1] at e;cases e) q⟩
theorem Fp.up {s':ν} {wr wr':List Α} (I:Rep X z) (f:Fp X z0 z fp wr) (g:Sub z.G (z.up s').G) (k:∀ b o,b ∉ wr'→z.h b=some o→s'.heap.get? b=some o) (ex:∀ b∈wr',b∈fp→∃ o,s'.heap.get? b=some o):Fp X z0 (z.up s') fp wr:=fun b hb=>(f b hb).imp (fun ⟨⟨n0,ff,no⟩,o',e'⟩=>⟨⟨n0,⟨by show (match z.h b with | none=>s'.heap.get? b | some _=>z.G b)=none;rw [e'];exact ff.1,ff.2⟩,no⟩,by
 by_cases m:b∈wr'
 ·exact ex b m hb
 ·exact ⟨o',k b o' m e'⟩⟩) fun ⟨m,o',e'⟩=>⟨m,o',g b o' e'⟩
theorem Fp.wr {wr:List Α} {St:Nat→ϳ→Prop} (T:Itr W tg it fp wr ds ρ G St) (st:St i z.s.heap) (f:Fp X z0 z fp wr):∀ b∈wr,Nob X z0 z b∧∃ o,z.h b=some o:=fun b hb=>(f b (T.sub b hb)).elim id fun ⟨n,_⟩=>ZX hb n
inductive FI (X:Cx) (z:Z) (tg:Λ) (o:Out D) (itv:ζ) (s2:ν):Prop
 | mk (z1:Z) (ds:List D) (it:Α) (fp wr:List Α) (St:Nat→ϳ→Prop) (_:z1.s=s2) (_:o = .ok (.lst ds) z1.t) (_:Ee X z z1) (_:X.tz≤s2.toks→Rep X z1) (_:itv = .ref it) (_:Itr X.W tg it fp wr ds z1.ρ z1.G St) (_:St 0 s2.heap) (_:Fp X z z1 fp wr)
def LI (X:Cx) (tg e:Λ) (c:E):Prop:=∀ z,Rep X z→X.ev false c z.t≠.bad→χ X.M X.A (eval e X.env) (fun v s1=>χ X.M X.A (ş v) (FI X z tg (X.ev false c z.t)) NoE s1) (Px X z (X.ev false c z.t)) z.s
theorem mS {ds:List α} {i:Nat} (h:ds[i]? = some d):ds.drop i=d :: ds.drop (i+1):=by
 obtain ⟨hi,rfl⟩:=ς.mp h
 exact ŀ hi
inductive FoJ (X:Cx) (z z1:Z) (ds:List D) (St:Nat→ϳ→Prop) (fp wr:List Nat) (o:am) (f:D→Sta→am) (n:Nat) (s:ν):Prop
 | mk (i:Nat) (z':Z) (_:z'.s=s) (_:n=ds.length - i) (_:i≤ds.length) (_:Go X z z') (_:Rep X z') (_:St i s.heap) (_:Fp X z z' fp wr) (_:z1.ρ <+: z'.ρ) (_:Sub z1.G z'.G) (_:o=aT f (ds.drop i) z'.t)
theorem yt {t:List Nat} {one:Bool} (hc:X.calm=true) (hp:∀ z o,PassesOwn X.M X.A X.env (PxS X z o)) (hi:LI X tg iter it) (hg:LG X tg t one) (hb:LSs X body b) (hs:∀ x,Ś iter X.env x=pure x):LS X (.For tg iter body [] pos) (.for_ t one it b):=fun z I nb=>by
 let f:D→Sta→am:=fun d s=>match aV t one d s.env with | some env=>X.ex b ⟨env,s.ow.filter fun i=>!t.contains i,s.st⟩ | none=>.bad
 have e0:X.ex (.for_ t one it b) z.t=(X.ev false it z.t).go fun x s=>(match x with | .lst ds=>aT f ds s | _=>.bad):=rfl
 generalize X.ex (.for_ t one it b) z.t=o at e0 nb
 have nb0:X.ev false it z.t≠.bad:=fun q=>nb (by rw [e0,q];rfl)
 refine wpAny_For (Κ (ϙ I.tk (hi z I nb0)) (fun v s1 ⟨tk1,h1⟩=>Κ (ϙ tk1 h1) (fun itv s2 ⟨tk2,h2⟩=>?_) fun _ _ w=>w.2.elim) fun u s' h=>?_) hs
 rotate_left
 ·rw [e0];exact .of .refl h.2
 obtain ⟨z1,ds,a,fp,wr,St,q1,q2,x1,I1,q3,T,st1,f1⟩:=h2
 subst q1 q3
 have I1:=I1 tk2
 rw [q2] at e0
 have e0:o=aT f ds z1.t:=e0
 refine codeAny_forLoop_any (FoJ X z z1 ds St fp wr o f) ?_ (ds.length - 0) ⟨0,z1,rfl,rfl,ϲ _,x1.go,I1,st1,f1,ξ _,.refl _,by rw [Ķ];exact e0⟩
 rintro n s3 ⟨i,z3,e3,en,hi,x3,I3,st3,f3,p3,g3,q⟩
 subst e3
 cases qd:ds[i]? with
 | none=>
   have hl:i=ds.length:=by rw [E2] at qd;omega
   subst hl
   refine Ļ (hp z o) (Κ (ϙ I3.tk (T.done (I3.hd hc) st3)) (fun r s4 ⟨tk4,er,os,k⟩=>?_) fun _ _ w=>w.2.elim)
   subst er
   obtain ⟨I4,x4,_⟩:=I3.turn x3.st (f3.wr T st3) k os tk4
   rw [ŏ] at q
   exact ļ (nxt (z1:=z3.up s4) ⟨x4,x3.ow⟩ I4 q)
 | some d=>
   have hil:i<ds.length:=(ς.mp qd).1
   rw [mS qd] at q
   have q:o=(f d z3.t).go fun s=>aT f (ds.drop (i+1)) s:=q
   refine Ļ (hp z o) (Κ (ϙ I3.tk (T.item (I3.hd hc) qd st3)) (fun r s4 ⟨tk4,u,er,h4⟩=>?_) fun _ _ w=>w.2.elim)
   subst er
   refine Ļ (hp z o) (Κ (ϙ tk4 h4) (fun _ s5 ⟨tk5,st5,os5,k5,rd5⟩=>?_) fun _ _ w=>w.2.elim)
   have hw:=f3.wr T st3
   obtain ⟨I5,x5',g5,n5⟩:=I3.turn x3.st hw k5 os5 tk5
   have x5:Go X z (z3.up s5):=⟨x5',x3.ow⟩
   have rd:=rd5 z3.ρ (z3.up s5).G p3 (g3.trans g5) fun a o e1 e2=>by rw [fA e1];exact e2
   have f5:Fp X z (z3.up s5) fp wr:=f3.up I3 g5 k5 fun b m _=>T.ex _ _ st5 b m
   cases qb:aV t one d z3.t.env with
   | none=>exact ZX (show o = .bad by rw [q];show am.go (match aV t one d z3.t.env with | some env=>X.ex b ⟨env,z3.t.ow.filter fun i=>!t.contains i,z3.t.st⟩ | none=>.bad) _=_;rw [qb];rfl) nb
   | some env=>
     have q:o=(X.ex b ⟨env,z3.t.ow.filter fun i=>!t.contains i,z3.t.st⟩).go fun s=>aT f (ds.drop (i+1)) s:=by rw [q];show am.go (match aV t one d z3.t.env with | some env=>X.ex b ⟨env,z3.t.ow.filter fun i=>!t.contains i,z3.t.st⟩ | none=>.bad) _=_;rw [qb]
     refine Ļ (hp z o) (hg z (z3.up s5) d u env _ _ x5 I5 rd qb fun z6 x6 I6 eρ y6 et eσ _=>?_)
     rw [← show z6.t=(⟨env,z3.t.ow.filter fun i=>!t.contains i,z3.t.st⟩:Sta) from et] at q
     have nb6:X.ex b z6.t≠.bad:=fun w=>nb (by rw [q,w];rfl)
     refine Ļ (hp z o) (Κ (hb z6 I6 nb6) (fun fl s7 h7=>?_) fun u s' h=>?_)
     ·cases qx:X.ex b z6.t with
      | nx t7=>
        rw [qx] at h7 q
        obtain ⟨rfl,z7,e7,et7,x7,I7⟩:=h7
        subst e7 et7
        exact ⟨ds.length - (i+1),by omega,i+1,z7,rfl,rfl,hil,x6.trans x7,I7,T.keep _ _ _ st5 ((f5.keep (y6.trans x7) I5 I7)),f5.go (y6.trans x7),(p3.trans (eρ ▸ ξ _:z3.ρ <+: z6.ρ)).trans x7.st.pr,(g3.trans g5).trans (y6.st.gg.trans x7.st.gg),q⟩
      | rt d7 t7=>
        rw [qx] at h7 q
        obtain ⟨u7,z7,rfl,r7⟩:=h7
        have:=Ps.less x6 (show Ps X z6 (.rt d7 t7) (.ret u7) s7 from ⟨u7,z7,rfl,r7⟩)
        show Ps X z o (.ret u7) s7
        rw [q];exact this
      | exc c l t7=>rw [qx] at h7;exact h7.elim
      | bad=>exact ZX qx nb6
     ·obtain ⟨z7,c,l,e7,qx,y7,J7,r7⟩:=h.less x6
      exact ⟨z7,c,l,e7,by rw [q,qx];rfl,y7,J7,r7⟩
end
theorem nin (n j k a:Nat) (h:j≠k) (ha:a<n):n+j ∉ [n+k,a]:=by simp;omega
theorem gJ {h:ϳ} (n:h.objs.size≤a):h.get? a=none:=ϖ n
section
variable {W:Wd} {tg:Λ} {it:Α} {fp wr:List Α} {ds:List D} {ρ:Rs} {G:Hp} {St:Nat→ϳ→Prop}
theorem Itr.walks {P:Nat→ζ→Prop} {A0:Ϗ} (h0:A0.handled=none) {n:Nat} (hn:ds.length=n) (w:∀ A,A.handled=none→Walks W.P W.w A it fp wr n P St) (ex:∀ i h,St i h→∀ b∈wr,∃ o,h.get? b=some o) (go:∀ {A:Ϗ} {s:ν} {u:ζ} {Q:Unit→ν→Prop} {E:ζ→ν→Prop} {i:Nat},St i s.heap→Q () s→χ (model W.P W.w) A (C5 tg (.ref it) u) Q E s)
 (hP:∀ i v d,P i v→ds[i]? = some d→∀ ρ' G',ρ <+: ρ'→Sub G G'→RD W ρ' G' d v):Itr W tg it fp wr ds ρ G St where
 sub:=(w A0 h0).sub
 keep:=(w A0 h0).frame
 ex:=ex
 item:=fun {A i d s} h e st=>(w A h).item i s _ _ (hn ▸ (ς.mp e).1) st fun v h' tk p st' k=>⟨v,rfl,go (s:={ s with heap:=h',toks:=tk }) st' ⟨st',⟨rfl,rfl⟩,fun b o n q=>k b o n q,fun ρ' G' h1 h2 _=>hP i v d p e ρ' G' h1 h2⟩⟩
 done:=fun {A s} h st=>(w A h).done s _ _ (hn ▸ st) fun h' tk k=>⟨rfl,⟨rfl,rfl⟩,k⟩
 self:=fun {A i s Q E} h st q=>(w A h).self i s Q E st q
abbrev Exa (h:ϳ) (T:Α):Prop:=∀ o,h.get? T=some o→o.dict=none
theorem Itr.walksT {Pt:Nat→Array ζ→Prop} {Mid:Nat→Α→ϳ→Prop} {A0:Ϗ} {elts:List Λ} {k:Nat} {pos:Ϫ} (h0:A0.handled=none) {n:Nat} (hn:ds.length=n) (w:∀ A,A.handled=none→Ey W.P W.w A it fp wr n Pt St Mid) (ex:∀ i h,St i h→∀ b∈wr,∃ o,h.get? b=some o) (hm:∀ i T h,Mid i T h→Exa h T)
 (hP:∀ i vals d,Pt i vals→ds[i]? = some d→vals.size≤ϟ∧∃ l,d = .tup l∧∀ ρ' G',ρ <+: ρ'→Sub G G'→RDs W ρ' G' l vals.toList):Itr W (.Tuple elts k pos) it fp wr ds ρ G St where
 sub:=(w A0 h0).sub
 keep:=(w A0 h0).frame
 ex:=ex
 item:=fun {A i d s} h e st=>(w A h).item i s _ _ (hn ▸ (ς.mp e).1) st fun T vals h' tk p hT tup mid kk=>⟨.ref T,rfl,(w A h).go elts k pos i T { s with heap:=h',toks:=tk } _ _ mid fun h2 st2 k2=>⟨st2,⟨rfl,rfl⟩,fun b o n q=>k2 b o n (kk b o n q),fun ρ' G' h1 h3 h4=>by
  obtain ⟨hz,l,rfl,r⟩:=hP i vals d p e
  obtain ⟨o,e1,e2,n,e3⟩:=tup
  exact ⟨T,o,vals.toList,rfl,h4 T o (gJ hT) (k2 T o ((w A h).apart i T h' mid) e1),⟨e2,⟨n,by simpa using e3⟩,(by simpa using hz),hm i T h' mid o e1⟩,r ρ' G' h1 h3⟩⟩⟩
 done:=fun {A s} h st=>(w A h).done s _ _ (hn ▸ st) fun h' tk k=>⟨rfl,⟨rfl,rfl⟩,k⟩
 self:=fun {A i s Q E} h st q=>(w A h).self i s Q E st q
theorem iy {prog:ϴ} {w:Û} {A:Ϗ} {it:Α} {fp:List Α} {n:Nat} {P:Nat→ζ→Prop} {St:Nat→ϳ→Prop} (D:Fc prog w A.in1 it fp n P St) (e:Α) (hei:e≠it) (hef:e ∉ fp) (hif:it∈fp):Ey prog w A e (e :: fp) [e,it] n (fun i vals=>∃ t x,P i x∧vals = #[.int i t,x]) (fun i h=>(∃ old,IsEnum h e it i old)∧St i h) (fun i T h=>((∃ x,IsEnumOut h e it ((i:Int)+1) x T)∧St (i+1) h∧T≠e∧T≠it)∧Exa h T):=
 have V:=WalksT.enumerateD D e hei hef hif
 { sub:=V.sub,frame:=V.frame,done:=V.done,self:=V.self,go:=fun elts k pos i T s Q E m q=>V.go elts k pos i T s Q E m.1 q,apart:=fun i T h m=>V.apart i T h m.1,
   item:=fun i s Q E hi ⟨⟨old,he⟩,hs⟩ hQ=>wpAny_pyNext_enum_itemD D he hs hi hei hef fun x h' tk hP ho hs' hT hsz hk=>hQ s.heap.objs.size #[.int i tk,x] h' (tk+1) ⟨_,_,hP,rfl⟩ (Ω _) ⟨_,hT,rfl,_,rfl⟩ ⟨⟨⟨_,ho⟩,hs',Î (Ξ he),Î (let ⟨_,y⟩:=D.live _ _ hs;Ξ y)⟩,fun o q=>(by rw [hT] at q;cases q;rfl)⟩ fun b o hb y=>hk b o (fun z=>hb (z ▸ κ)) (fun z=>hb (z ▸ ι _ κ)) y }
end
section
variable {X:Cx} {z z' z0 z1:Z} {tg:Λ}
theorem fK {s2:ν} {o:Out D} {ds:List D} {it:Α} {fp wr:List Α} {St:Nat→ϳ→Prop} (x:Ee X z z1) (I:Rep X z1) (g:Gr z1.s s2) (T:Itr X.W tg it fp wr ds z1.ρ z1.G St) (st:St 0 s2.heap) (hf:∀ b∈fp,(z1.h b=none∧∃ o,s2.heap.get? b=some o)∨(b ∉ wr∧∃ o,z1.G b=some o)) (e:o = .ok (.lst ds) z1.t):FI X z tg o (.ref it) s2:=
 ⟨{ z1 with s:=s2 },ds,it,fp,wr,St,rfl,e,x.trans (aw I.gh g).ee,fun tk=>I.grow (aw I.gh g) tk,rfl,T,st,fun b hb=>(hf b hb).imp_left fun ⟨n,ex⟩=>⟨⟨x.st.no n,I.fre n⟩,ex⟩⟩
theorem ra (I:Rep X z) (e:z.G a=some o):a≠z.s.heap.objs.size:=ϝ (Ξ (I.gh a o e))
theorem CC (hc:X.calm=true) (ha:LE X e a):LI X tg e (.itv a):=fun z I nb=>(ha false).go (K:=fun v s1=>χ X.M X.A (ş v) (FI X z tg (X.ev false (.itv a) z.t)) NoE s1) .refl I rfl nb fun z1 d u y x1 I1 r1 e1=>by
 have r:=r1.rd
 cases d with
 | lst l=>
   obtain ⟨p,o,vs,rfl,g,⟨⟨n,rfl⟩,hz⟩,r⟩:=r
   have ne:=ra I1 g
   refine ą (show z1.s.heap.IsList p vs.toArray from ⟨_,I1.gh _ _ g,rfl,n,rfl⟩) (fK (wr:=[z1.s.heap.objs.size]) x1 I1 (.push (t:=z1.s.toks)) (Itr.walks (I1.hd hc) (by simp [r.len]) (fun A hA=>DM hA _ p ne vs.toArray) (fun i h st b hb=>by rw [η.mp hb];obtain ⟨⟨o,e,_⟩,_⟩:=st;exact ⟨o,e⟩) (fun st q=>let ⟨⟨o,e,c,d⟩,_⟩:=st;kM e c d (by decide) q) fun i v d p1 p2 ρ' G' h1 h2=>?_) ⟨⟨_,ψ _ rfl,rfl,rfl⟩,⟨_,τ _ (I1.gh _ _ g),rfl,n,rfl⟩⟩ (fun b hb=>?_) e1)
   ·obtain ⟨v',w1,w2⟩:=(r.mono h1 h2).get p2
    rw [show vs[i]? = some v by simpa using p1] at w1;cases w1;exact w2
   ·rcases π.mp hb with w | w
    ·rw [w];exact .inl ⟨aL z1,_,ψ _ rfl⟩
    ·rw [η.mp w];exact .inr ⟨fun m=>ne (η.mp m),_,g⟩
 | tup l=>
   obtain ⟨p,o,vs,rfl,g,⟨tc,⟨n,td⟩,hz⟩,r⟩:=r
   have ne:=ra I1 g
   refine ę (show z1.s.heap.IsTuple p vs.toArray from ⟨_,I1.gh _ _ g,tc,n,td⟩) (fK (wr:=[z1.s.heap.objs.size]) x1 I1 (.push (t:=z1.s.toks)) (Itr.walks (I1.hd hc) (by simp [r.len]) (fun A hA=>Walks.tuple hA _ p ne vs.toArray) (fun i h st b hb=>by rw [η.mp hb];obtain ⟨⟨o,e,_⟩,_⟩:=st;exact ⟨o,e⟩) (fun st q=>let ⟨⟨o,e,c,d⟩,_⟩:=st;kM e c d (by decide) q) fun i v d p1 p2 ρ' G' h1 h2=>?_) ⟨⟨_,ψ _ rfl,rfl,rfl⟩,⟨_,τ _ (I1.gh _ _ g),tc,n,td⟩⟩ (fun b hb=>?_) e1)
   ·obtain ⟨v',w1,w2⟩:=(r.mono h1 h2).get p2
    rw [show vs[i]? = some v by simpa using p1] at w1;cases w1;exact w2
   ·rcases π.mp hb with w | w
    ·rw [w];exact .inl ⟨aL z1,_,ψ _ rfl⟩
    ·rw [η.mp w];exact .inr ⟨fun m=>ne (η.mp m),_,g⟩
 | dic ks l=>
   obtain ⟨p,o,vs,rfl,hs,g,⟨es,ep,c1,c2,c3,c4,c5,hz⟩,hl,r⟩:=r
   have ne:=ra I1 g
   have dm:Heap.DictAt (bH X.W.P X.W.w) z1.s.heap p (ks.zip vs) ep:=⟨o,es,I1.gh _ _ g,c1,c2,c3,c4,c5⟩
   have lk:ks.length=vs.length:=hl.trans r.len
   have lz:(ks.zip vs).length=(ks.map xG).length:=by rw [Æ,Θ];omega
   refine wpAny_pyIter_dict hs dm (fK (ds:=ks.map xG) (wr:=[z1.s.heap.objs.size]) x1 I1 (.push (t:=z1.s.toks)) (Itr.walks (I1.hd hc) lz.symm (fun A hA=>Walks.dictKeys (knd:=bH X.W.P X.W.w) hA _ p ne (ks.zip vs) ep) (fun i h st b hb=>by rw [η.mp hb];obtain ⟨⟨o,e,_⟩,_⟩:=st;exact ⟨o,e⟩) (fun st q=>let ⟨⟨o,e,c,d⟩,_⟩:=st;kM e c d (by decide) q) fun i v d p1 p2 ρ' G' h1 h2=>?_) ⟨⟨_,ψ _ rfl,rfl,rfl⟩,⟨o,es,τ _ (I1.gh _ _ g),c1,c2,c3,c4,c5⟩⟩ (fun b hb=>?_) e1)
   ·obtain ⟨k,u,w1,w2⟩:=p1
    have kk:ks[i]? = some k:=by
     have:=ç.mp w1;exact this.1
    rw [Ψ,kk] at p2
    cases p2
    rcases aG w2 with ⟨j,t,rfl,rfl⟩ | ⟨x,t,rfl,rfl⟩
    ·exact ⟨t,rfl⟩
    ·exact ⟨t,rfl⟩
   ·rcases π.mp hb with w | w
    ·rw [w];exact .inl ⟨aL z1,_,ψ _ rfl⟩
    ·rw [η.mp w];exact .inr ⟨fun m=>ne (η.mp m),_,g⟩
 | str y=>
   obtain ⟨t,rfl⟩:=r
   have e1:X.ev false (.itv a) z.t=Out.of z1.t ((if y.cps.all (· < 128)=true then some (y.cps.toList.map fun c=>D.str ⟨#[c]⟩) else none).map D.lst):=e1
   by_cases hy:y.cps.all (· < 128)=true
   ·rw [ZZ hy] at e1
    refine wpAny_pyIter_ascii hy (fK (ds:=y.cps.toList.map fun c=>.str ⟨#[c]⟩) (wr:=[z1.s.heap.objs.size]) x1 I1 (.push (t:=z1.s.toks)) (Itr.walks (I1.hd hc) (by simp) (fun A hA=>Walks.strAscii hA _ y t) (fun i h st b hb=>by rw [η.mp hb];obtain ⟨o,e,_⟩:=st;exact ⟨o,e⟩) (fun st q=>let ⟨o,e,c,d⟩:=st;kM e c d (by decide) q) fun i v d p1 p2 ρ' G' h1 h2=>?_) ⟨_,ψ _ rfl,rfl,rfl⟩ (fun b hb=>?_) e1)
    ·obtain ⟨c,u,w1,rfl⟩:=p1
     rw [Ψ,Array.getElem?_toList,w1] at p2
     cases p2;exact ⟨u,rfl⟩
    ·rw [η.mp hb];exact .inl ⟨aL z1,_,ψ _ rfl⟩
   ·rw [ZY hy] at e1;exact ZX e1 nb
 | _=>exact ZX e1 nb
theorem vr {a:Int}:(ia a n).length=n:=by simp [ia]
theorem sG {lo hi:Int} {t u v:Tok} {tk:Nat} {o:Out D} (hc:X.calm=true) (x:Ee X z z1) (I:Rep X z1) (h1:-(2 ^ 62)≤lo) (h2:lo<2 ^ 62) (h3:-(2 ^ 62)≤hi) (h4:hi<2 ^ 62) (e:o = .ok (.lst (ia lo (hi - lo).toNat)) z1.t):χ X.M X.A (ş (.ref z1.s.heap.objs.size)) (FI X z tg o) NoE { z1.s with heap:=z1.s.heap.push { cls:=.type "range",data:=.fields #[.int lo t,.int hi u,.int 1 v] },toks:=tk }:=by
 refine wpAny_pyIter_range (IsRange.new ..) (small_one h1 h2 h3 h4) ?_
 have e2:(((hi - lo).toNat:Nat):Int) - ((0:Nat):Int)=H7 lo hi 1:=by rw [rangeSize_one];split <;> omega
 have g0:Gr z1.s { z1.s with heap:=z1.s.heap.push { cls:=.type "range",data:=.fields #[.int lo t,.int hi u,.int 1 v] },toks:=tk }:=.push
 refine fK (ds:=ia lo (hi - lo).toNat) x I (g0.trans (.push (t:=tk))) (Itr.walks (I.hd hc) vr (fun A hA=>Walks.range hA _ lo 1 (hi - lo).toNat) (fun i h st b hb=>by rw [η.mp hb];exact ⟨_,st⟩) (fun st q=>kM st rfl rfl (by decide) q) fun i v d p1 p2 ρ' G' _ _=>?_) ?_ (fun b hb=>?_) e
 ·obtain ⟨t,rfl⟩:=p1
  unfold ia at p2
  rw [Ψ,φ] at p2
  obtain ⟨j,p3,rfl⟩:=p2
  obtain ⟨hj,hj2⟩:=ς.mp p3
  rw [List.getElem_range] at hj2
  subst hj2
  exact ⟨t,by rw [Int.mul_one]⟩
 ·show IsRangeIter _ _ (lo+((0:Nat):Int) * 1) ((((hi - lo).toNat:Nat):Int) - ((0:Nat):Int)) 1
  rw [e2,show lo+((0:Nat):Int) * 1=lo by simp]
  exact ψ _ rfl
 ·rw [η.mp hb];exact .inl ⟨ϖ (by rw [ϯ];exact Ñ _),_,ψ _ rfl⟩
theorem pC (hc:X.calm=true) (hx:Blt X "range" (.type "range")) (ha:LE X ea a) (he:Δ [ea] X.env=(false,eval ea X.env) :: Δ [] X.env):LI X tg (.Call (.Name "range" p) [ea] [] pos) (.it .range1 (.cons a .nil)):=fun z I nb=>
 bt (Q:=fun v s1=>χ X.M X.A (ş v) (FI X z tg (X.ev false (.it .range1 (.cons a .nil)) z.t)) NoE s1) (.inr ⟨_,rfl⟩) hx he rfl I (Ι ((ha false).go .refl I (ev1 fun l s=>Out.of s ((itD .range1 l).map D.lst)) nb fun z1 x u y1 x1 I1 r1 e1=>ϋ (by
  cases x with
  | int j=>
    obtain ⟨t,rfl⟩:=r1.rd
    have e1:X.ev false (.it .range1 (.cons a .nil)) z.t=Out.of z1.t ((if -(2 ^ 62)≤j∧j<2 ^ 62 then some (ia 0 j.toNat) else none).map D.lst):=e1
    by_cases c:-(2 ^ 62)≤j∧j<2 ^ 62
    ·rw [ZZ c] at e1
     exact call_range_1 (sG hc x1 I1 (by omega) (by omega) c.1 c.2 (by rw [Int.sub_zero];exact e1))
    ·rw [ZY c] at e1;exact ZX e1 nb
  | _=>exact ZX e1 nb)))
theorem jA:∀ {l:List D} {i:Nat} {j:Int},(bJ j l)[i]? = (l[i]?).map fun d=>.tup [.int (j+i),d]
 | [],_,_=>by unfold bJ;simp
 | a :: r,0,j=>by unfold bJ;simp
 | a :: r,i+1,j=>by
   unfold bJ
   rw [À,À,jA]
   congr 1;funext d;congr 3;omega
theorem gH:∀ {l:List D} {j:Int},(bJ j l).length=l.length
 | [],_=>by unfold bJ;rfl
 | a :: r,j=>by unfold bJ;rw [Η,Η,gH]
theorem uJ {es:List Λ} {k:Nat} {tp:Ϫ} (hc:X.calm=true) (hx:Blt X "enumerate" (.type "enumerate")) (ha:LE X ea a) (he:Δ [ea] X.env=(false,eval ea X.env) :: Δ [] X.env):LI X (.Tuple es k tp) (.Call (.Name "enumerate" p) [ea] [] pos) (.it .enum (.cons a .nil)):=fun z I nb=>
 bt (Q:=fun v s1=>χ X.M X.A (ş v) (FI X z (.Tuple es k tp) (X.ev false (.it .enum (.cons a .nil)) z.t)) NoE s1) (.inr ⟨_,rfl⟩) hx he rfl I (Ι ((ha false).go .refl I (ev1 fun l s=>Out.of s ((itD .enum l).map D.lst)) nb fun z1 x u y1 x1 I1 r1 e1=>ϋ (by
  cases x with
  | lst l=>
    obtain ⟨a0,o,vs,rfl,g,⟨⟨n,rfl⟩,hz⟩,r⟩:=r1.rd
    have hlt:=Ξ (I1.gh _ _ g)
    refine call_enumerate_1 (I1.gh _ _ g) fun h' g1 g2 hsz kp=>Gu g1 (fK (ds:=bJ 0 l) x1 I1 (s2:={ z1.s with heap:=h' }) (.hp (t:=z1.s.toks) kp) (Itr.walksT (I1.hd hc) (by rw [gH];simp [r.len]) (fun A hA=>iy (H3 (A:=A.in1) hA z1.s.heap.objs.size a0 (ϝ hlt) vs.toArray) (z1.s.heap.objs.size+1) (Ŕ _) (nin _ 1 0 _ (by decide) hlt) κ) (fun i h st b hb=>?_) (fun _ _ _ m=>m.2) fun i vals d p1 p2=>?_) ⟨⟨_,g1⟩,g2,⟨_,kp _ _ (I1.gh _ _ g),rfl,n,rfl⟩⟩ (fun b hb=>?_) e1)
    ·obtain ⟨⟨old,e1⟩,⟨o2,e2,_⟩,_⟩:=st
     rcases π.mp hb with w | w
     ·rw [w];exact ⟨_,e1⟩
     ·rw [η.mp w];exact ⟨o2,e2⟩
    ·obtain ⟨t,v,p3,rfl⟩:=p1
     rw [jA,φ] at p2
     obtain ⟨d',p4,rfl⟩:=p2
     refine ⟨by simp [ċ],_,rfl,fun ρ' G' h1 h2=>?_⟩
     obtain ⟨v',w1,w2⟩:=(r.mono h1 h2).get p4
     rw [show vs[i]? = some v by simpa using p3] at w1;cases w1
     exact .cons ⟨t,by rw [GZ]⟩ (.cons w2 rfl)
    ·rcases π.mp hb with w | w
     ·rw [w];exact .inl ⟨gJ (Ñ _),_,g1⟩
     ·rcases π.mp w with w | w
      ·obtain ⟨o2,e2,_⟩:=g2
       rw [w];exact .inl ⟨aL z1,_,e2⟩
      ·rw [η.mp w]
       refine .inr ⟨fun m=>?_,_,g⟩
       rcases π.mp m with q | q
       ·exact ϝ (Dg hlt) q
       ·exact ϝ hlt (η.mp q)
  | _=>exact ZX e1 nb)))
end
def iE (env:CL):List (μ×Β)→List (μ×Α)→List (μ×Α)
 | [],cs=>cs
 | y :: r,cs=>iE env r (if (y.2 == Ø)=true then (match env.cells.lookup y.1 with | some a=>(y.1,a) :: cs | none=>cs) else cs)
theorem cO :∀ {l:List (μ×β)} {p:μ×β},p∈l→∃ c,l.lookup p.1=some c
 | [],_,h=>nomatch h
 | (a,b) :: r,p,h=>by
   cases e:p.1 == a with
   | true=>exact ⟨b,by simp only [Ğ,e]⟩
   | false=>
     rcases π.mp h with q | q
     ·subst q;simp at e
     ·obtain ⟨c,hc⟩:=cO q
      exact ⟨c,by simp only [Ğ,e];exact hc⟩
theorem kD :∀ {ns} {cs} {p:μ×Α},p∈iE env ns cs→p∈cs∨env.cells.lookup p.1=some p.2
 | [],_,_,h=>.inl h
 | y :: r,cs,p,h=>by
   rcases kD (ns:=r) h with q | q
   ·by_cases hk:(y.2 == Ø)=true
    ·rw [ZZ hk] at q
     cases e:env.cells.lookup y.1 with
     | none=>rw [e] at q;exact .inl q
     | some a=>
       rw [e] at q
       rcases π.mp q with rfl | q
       ·exact .inr e
       ·exact .inl q
    ·rw [ZY hk] at q;exact .inl q
   ·exact .inr q
theorem iY :∀ {ns} {cs} {p:μ×Α},p∈cs→p∈iE env ns cs
 | [],_,_,h=>h
 | y :: r,cs,p,h=>by
   refine iY (ns:=r) ?_
   by_cases hk:(y.2 == Ø)=true
   ·rw [ZZ hk]
    cases e:env.cells.lookup y.1 with
    | none=>exact h
    | some a=>exact ι _ h
   ·rw [ZY hk];exact h
theorem gD :∀ {ns} {cs} {y:μ×Β} {c},y∈ns→y.2 = .free→env.cells.lookup y.1=some c→(y.1,c)∈iE env ns cs
 | z :: r,cs,y,c,h,hf,hc=>by
   rcases π.mp h with rfl | h
   ·refine iY (ns:=r) ?_
    rw [ZZ (by rw [hf];rfl),hc]
    exact κ
   ·exact gD (ns:=r) h hf hc
theorem d9
 (hf:∀ y cs,f y cs=if (y.2 == Ø)=true then (do let a ← cellOf env y.1;pure (ϭ ((y.1,a) :: cs))) else pure (ϭ cs)) :
 ∀ (ns) (cs),(∀ y∈ns,y.2 = .free→∃ c,env.cells.lookup y.1=some c)→(forIn ns cs f:DD _)=pure (iE env ns cs)
 | [],cs,_=>rfl
 | y :: r,cs,h=>by
   rw [Ĩ,hf]
   by_cases hk:(y.2 == Ø)=true
   ·obtain ⟨c,hc⟩:=h y κ (by simpa using hk)
    have e1:cellOf env y.1=pure c:=by unfold cellOf;rw [hc]
    rw [ZZ hk,e1]
    have ih:=d9 hf r ((y.1,c) :: cs) fun z hz=>h z (ι _ hz)
    show (forIn r ((y.1,c) :: cs) f:DD _)=pure (iE env r _)
    rw [ih,ZZ hk,hc]
   ·have ih:=d9 hf r cs fun z hz=>h z (ι _ hz)
    rw [ZY hk]
    show (forIn r cs f:DD _)=pure (iE env r _)
    rw [ih,ZY hk]
theorem lX (h:∀ y∈sc.names,y.2 = .free→∃ c,env.cells.lookup y.1=some c):Gd sc env=pure (iE env sc.names []):=by
 simp only [Gd]
 rw [d9 (env:=env) (fun y cs=>by obtain ⟨n,kd⟩:=y;by_cases hk:(kd == Ø)=true <;> simp [hk]) sc.names [] h]
 rfl
def cxC (X:Cx) (N:List μ) (sc:ē) (C:Α):Cx:={ X with N:=N,env:=compEnvC sc (iE X.env sc.names []) C X.env }
def jj (sc:ē) (env:CL) (p:μ×μ):Bool:=match (relabel sc env).names.lookup p.1 with
 | some .local=>false
 | some .cell=>p.1 == p.2
 | some .free=>p.1 == p.2
 | _=>true
structure Lcn (X:Cx) (sc:ē) (k:Nat) (N:List μ):Prop where
 nocell:∀ y∈sc.names,y.2≠.cell
 kind:sc.kind = .function
 names:∀ y∈sc.names,y.2 = .local→sc.names.lookup y.1=some .local
 fr:∀ y∈sc.names,y.2 = .free→X.env.kindOf y.1=some .cell∨X.env.kindOf y.1=some .free
 len:N.length=k+X.N.length
 old:((N.drop k).zip X.N).all (jj sc X.env)=true
theorem AK (h1:(sc.names.all fun y=>y.2 != .cell)=true) (h2:sc.kind = .function) (h3:(sc.names.all fun y=>y.2 != .local || sc.names.lookup y.1 == some .local)=true)
 (h4:(sc.names.all fun y=>y.2 != .free || (X.env.kindOf y.1 == some .cell || X.env.kindOf y.1 == some .free))=true) (h5:N.length=k+X.N.length) (h6:((N.drop k).zip X.N).all (jj sc X.env)=true):Lcn X sc k N where
 nocell:=fun y hy=>by have:=ϓ.mp h1 y hy;simpa using this
 kind:=h2
 names:=fun y hy hl=>by have:=ϓ.mp h3 y hy;simpa [hl] using this
 fr:=fun y hy hl=>by have:=ϓ.mp h4 y hy;simpa [hl] using this
 len:=h5
 old:=h6
section
variable {X:Cx} {sc:ē} {k:Nat} {N:List μ} {z z' z0 z1:Z} {C:Α}
theorem Lcn.cells (L:Lcn X sc k N) (ok:COk X):∀ y∈sc.names,y.2 = .free→∃ c,X.env.cells.lookup y.1=some c:=fun y hy hf=>ok.ch y.1 (L.fr y hy hf)
theorem kE (e:(iE X.env sc.names []).lookup x=some c):X.env.cells.lookup x=some c:=by
 rcases kD (Ä e) with q | q
 ·exact nomatch q
 ·exact q
theorem cC (L:Lcn X sc k N) (e:(relabel sc X.env).names.lookup x=some kd) (hk:kd = .cell∨kd = .free):(x,Ø)∈sc.names:=by
 have hm:=Ä e
 obtain ⟨⟨n,k'⟩,hy,q⟩:=ϱ.mp hm
 dsimp only at q
 by_cases hc:(k' == Ø && X.env.scope.kind == .function && X.env.kindOf n == some .cell)=true
 ·rw [ZZ hc] at q
  have e1:n=x:=ZS Ŏ q
  have e2:k' = .free:=by simp at hc;exact hc.1.1
  subst e1 e2
  exact hy
 ·rw [ZY hc] at q
  have e1:n=x:=ZS Ŏ q
  have e2:k'=kd:=ZS DS q
  subst e1 e2
  rcases hk with rfl | rfl
  ·exact ZX rfl (L.nocell _ hy)
  ·exact hy
theorem o8 (L:Lcn X sc k N) (hi:N[i]? = some x) (hk:k≤i) (v:Vis (relabel sc X.env) x):X.N[i - k]? = some x∧(x,Ø)∈sc.names:=by
 have hlt:i<N.length:=(ς.mp hi).1
 have hl:=L.len
 have h2:i - k<X.N.length:=by omega
 have e1:(N.drop k)[i - k]? = some x:=by rw [CQ];rw [show k+(i - k)=i by omega];exact hi
 have e2:X.N[i - k]? = some X.N[i - k]:=Ζ h2
 have hz:((N.drop k).zip X.N)[i - k]? = some (x,X.N[i - k]):=by rw [ç];exact ⟨e1,e2⟩
 have ho:=ϓ.mp L.old _ (ο hz)
 have v':(relabel sc X.env).names.lookup x=some .local∨(relabel sc X.env).names.lookup x=some .cell∨(relabel sc X.env).names.lookup x=some .free:=v
 unfold jj at ho
 rcases v' with q | q | q
 ·simp only [q] at ho;cases ho
 ·simp only [q] at ho
  have e3:x=X.N[i - k]:=by simpa using ho
  exact ⟨by rw [e2,← e3],cC L q (.inl rfl)⟩
 ·simp only [q] at ho
  have e3:x=X.N[i - k]:=by simpa using ho
  exact ⟨by rw [e2,← e3],cC L q (.inr rfl)⟩
theorem HR.cx (I:HR X z):HR (cxC X N sc C) z:=⟨I.md,I.fm,I.hd,I.bs,I.gh,I.rl,I.rn,I.rg,I.ob,I.fu,I.ff,I.br,I.os,I.tk⟩
theorem HR.out (I:HR (cxC X N sc C) z):HR X z:=⟨I.md,I.fm,I.hd,I.bs,I.gh,I.rl,I.rn,I.rg,I.ob,I.fu,I.ff,I.br,I.os,I.tk⟩
theorem wm (h:Lc (cxC X N sc C) a):a=C∨Lc X a:=h.imp_right fun ⟨x,e⟩=>.inr ⟨x,kE e⟩
theorem rI {s':ν} {m:μ→Option ζ} (L:Lcn X sc k N) (I:Rep X z) (ow:z.t.ow = []) (g:Gr z.s s') (hC:z.h C=none) (hn:s'.heap.Ns C m) (tk:X.tz≤s'.toks:=by first | assumption | exact HR.tk (by assumption) | exact HR.tk1 (by assumption) | exact (Rep.toHR (by assumption)).tk | exact (Rep.toHR (by assumption)).tk1 | exact ϒ (by assumption)):Rep (cxC X N sc C) ⟨z.ρ,z.G,⟨Ε k none ++ z.t.env,[],z.t.st⟩,Ε k none ++ z.σ,s'⟩:=by
 have H:=(I.toHR.grow (aw I.gh g) tk).cx (N:=N) (sc:=sc) (C:=C)
 have ck:∀ {c:Α} {v:Option ζ},z.s.heap.IsCell c v→s'.heap.IsCell c v:=fun ⟨o,e,d⟩=>⟨o,g.k _ o e,d⟩
 have fC:=I.fre hC
 refine ⟨⟨H.md,H.fm,H.hd,H.bs,H.gh,H.rl,H.rn,H.rg,H.ob,H.fu,H.ff,H.br,H.os,H.tk⟩,⟨I.ok.un,L.kind,I.ok.gl,I.ok.bl,fun x y c h1 h2=>I.ok.ci x y c (kE h1) (kE h2),fun x hx=>?_⟩,⟨m,hn,fun i x v h1 h2 h3=>?_⟩,fun x c e=>let ⟨v,q⟩:=I.ce x c (kE e);⟨v,ck q⟩,fun a l=>?_,by show (Ε k none ++ z.t.env).length=(Ε k none ++ z.σ).length;rw [ω,ω,I.el];simp,by show (Ε k none ++ z.σ).length=N.length;rw [ω,å,L.len,I.sl],fun i d _ e=>?_,(fun i m=>nomatch m),(fun i j a m=>nomatch m)⟩
 ·have hx':(relabel sc X.env).names.lookup x=some .cell∨(relabel sc X.env).names.lookup x=some .free:=hx
  have hm:(x,Ø)∈sc.names:=by
   rcases hx' with q | q
   ·exact cC L q (.inl rfl)
   ·exact cC L q (.inr rfl)
  obtain ⟨c,hc⟩:=L.cells I.ok _ hm rfl
  exact cO (gD hm rfl hc)
 ·have hki:k≤i:=by
   by_cases q:i<k
   ·rw [ό (by simpa using q),ï,ZZ q] at h2
    cases h2
   ·omega
  rw [Ν (by simpa using hki),å] at h2
  obtain ⟨hx,hm⟩:=o8 L h1 hki h3
  have hkx:=L.fr _ hm rfl
  have hvis:Vis X.env.scope x:=by
   rcases hkx with q | q
   ·exact .inr (.inl q)
   ·exact .inr (.inr q)
  obtain ⟨m0,_,hl⟩:=I.lo
  rcases hl (i - k) x v hx h2 hvis with ⟨q,_⟩ | ⟨_,c,hc,hcell⟩
  ·rcases hkx with z | z
   ·rw [show X.env.kindOf x=some .cell from z] at q;cases q
   ·rw [show X.env.kindOf x=some .free from z] at q;cases q
  ·obtain ⟨c',hc'⟩:=cO (gD hm rfl hc)
   have e:=kE hc'
   rw [hc] at e;cases e
   refine .inr ⟨?_,c,hc',ck hcell⟩
   have v':(relabel sc X.env).names.lookup x=some .local∨(relabel sc X.env).names.lookup x=some .cell∨(relabel sc X.env).names.lookup x=some .free:=h3
   rcases v' with z | z | z
   ·exfalso
    have hlt:i<N.length:=(ς.mp h1).1
    have hl':=L.len
    have h2':i - k<X.N.length:=by omega
    have hz:((N.drop k).zip X.N)[i - k]? = some (x,X.N[i - k]):=by
     rw [ç]
     exact ⟨by rw [CQ,show k+(i - k)=i by omega];exact h1,Ζ h2'⟩
    have ho:=ϓ.mp L.old _ (ο hz)
    unfold jj at ho
    simp only [z] at ho
    cases ho
   ·exact .inl z
   ·exact .inr z
 ·rcases wm l with rfl | l
  ·exact ⟨fC.1.1,fC.1.2.1⟩
  ·exact I.fl a l
 ·have hki:k≤i:=by
   by_cases q:i<k
   ·have e:(Ε k none ++ z.t.env)[i]? = some (some d):=e
    rw [ό (by simpa using q),ï,ZZ q] at e
    cases e
   ·omega
  have e:(Ε k none ++ z.t.env)[i]? = some (some d):=e
  rw [Ν (by simpa using hki),å] at e
  obtain ⟨u,e1,r⟩:=I.en (i - k) d (by rw [ow];exact nofun) e
  exact ⟨u,by show (Ε k none ++ z.σ)[i]? = _;rw [Ν (by simpa using hki),å];exact e1,r⟩
theorem rD {zr:Z} (I:Rep X z) (Ir:Rep X zr) (er:zr.t.env=z.t.env∧zr.σ=z.σ∧zr.t.ow = []) (S:Stp X.fr (Own z) z z') (H:HR X z') (pr:zr.ρ <+: z'.ρ) (gg:Sub zr.G z'.G):Rep X { z' with t:=⟨z.t.env,[],z'.t.st⟩,σ:=z.σ }:=by
 have sl:∀ b o,z.h b=some o→¬ Mu z.ρ b→¬ Own z b→∃ sl,z'.s.heap.get? b=some { o with slots:=sl }:=fun b o e n w=>by
  by_cases f:b∈frs X.fr
  ·exact S.sl b o e n w f
  ·exact ⟨o.slots,S.sm b o e n w f⟩
 have nO:∀ {a},Lc X a→¬ Own z a:=fun l w=>(I.oth w).1.2.2.2 l
 have ck:∀ x c v,X.env.cells.lookup x=some c→z.s.heap.IsCell c v→z'.s.heap.IsCell c v:=fun x c v e ⟨o,q,d⟩=>by
  have l:Lc X c:=.inr ⟨x,e⟩
  obtain ⟨s,q2⟩:=sl c o q (I.fl c l).2 (nO l)
  exact ⟨_,q2,d⟩
 refine ⟨⟨H.md,H.fm,H.hd,H.bs,H.gh,H.rl,H.rn,H.rg,H.ob,H.fu,H.ff,H.br,H.os,H.tk⟩,I.ok,?_,fun x c e=>let ⟨v,q⟩:=I.ce x c e;⟨v,ck x c v e q⟩,fun a l=>⟨?_,fun m=>(S.rn a m).elim (I.fl a l).2 fun w=>?_⟩,I.el,I.sl,fun i d _ e=>?_,(fun i m=>nomatch m),(fun i j a m=>nomatch m)⟩
 ·obtain ⟨m,⟨oL,es,ep,q,r⟩,hl⟩:=I.lo
  have l:Lc X X.env.locals:=.inl rfl
  obtain ⟨s,q2⟩:=sl _ _ q (I.fl _ l).2 (nO l)
  exact ⟨m,⟨_,es,ep,q2,r⟩,fun j x w e1 e2 e3=>dC (fun c v e q=>ck x c v e q) (hl j x w e1 e2 e3)⟩
 ·cases q:z'.G a with
  | none=>rfl
  | some o=>
    obtain ⟨o1,e1⟩:=I.lth l
    rcases S.gn a o q with w | w | w
    ·rw [(I.fl a l).1] at w;cases w
    ·rw [w] at e1;cases e1
    ·exact ZX w (nO l)
 ·obtain ⟨o1,e1⟩:=I.lth l
  rw [w] at e1;cases e1
 ·obtain ⟨u,e1,r⟩:=Ir.en i d (by rw [er.2.2];exact nofun) (by rw [er.1];exact e)
  exact ⟨u,er.2.1 ▸ e1,r.mono pr gg⟩
def LTs (Y:Cx) (ifs:List Λ) (c:E):Prop:=Jg Y (forIn ifs true fun c r=>if r=true then do let ok ← Ga c Y.env (eval c Y.env);pure (ϭ ok) else pure (ϭ r)) (fun t=>(Y.ev true c t).bind toB) RT
theorem uZ:LTs X [] (.c (.bl true)):=fun z I nb=>wpAny_tests_nil ⟨z,true,rfl,rfl,.refl,I,rfl⟩
theorem u4 (h:LT X e c):LTs X [e] c:=fun z I nb=>wpAny_tests_one (h z I nb)
def lcF (X:Cx) (t:List Nat) (one:Bool) (elt cond:E) (d:D) (s':Sta):Out (Option D):=match aV t one d s'.env with
 | some env=>(X.ev true cond ⟨env,[],s'.st⟩).bind fun b s2=>(match b with
   | .bl true=>(X.ev false elt s2).bind fun e s3=>.ok (some e) ⟨s3.env,[],s3.st⟩
   | .bl false=>.ok none ⟨s2.env,[],s2.st⟩
   | _=>.bad)
 | none=>.bad
theorem Ee.nil (x:Ee X z z') (h:z.t.ow = []):z'.t.ow = []∧Stp X.fr (fun _=>False) z z':=⟨List.eq_nil_iff_forall_not_mem.mpr (fun i m=>by have:=x.ow i m;rw [h] at this;exact nomatch this),x.st.mono fun a ⟨i,m,_⟩=>by rw [h] at m;exact nomatch m⟩
theorem oG {t:Sta} (h:t.ow = []):(⟨t.env,[],t.st⟩:Sta)=t:=by cases t;cases h;rfl
end
structure Wr (S ch:List Α) (h h':ϳ):Prop where
 keep:∀ b o,h.get? b=some o→b ∉ S→b ∉ ch→h'.get? b=some o
 slot:∀ b o,h.get? b=some o→b ∉ ch→∃ sl,h'.get? b=some { o with slots:=sl }
 there:∀ b o,h.get? b=some o→∃ o',h'.get? b=some o'
section
variable {S ch ch':List Α} {h h1 h2 h':ϳ}
theorem Wr.trans (x:Wr S ch h h1) (y:Wr S ch h1 h2):Wr S ch h h2:=
 ⟨fun b o e n m=>y.keep b o (x.keep b o e n m) n m,fun b o e m=>let ⟨_,e1⟩:=x.slot b o e m;let ⟨sl,e2⟩:=y.slot b _ e1 m;⟨sl,e2⟩,fun b o e=>let ⟨_,e1⟩:=x.there b o e;y.there b _ e1⟩
theorem Wr.mono (x:Wr S ch h h') (k:∀ b∈ch,b∈ch'):Wr S ch' h h':=⟨fun b o e n m=>x.keep b o e n fun z=>m (k b z),fun b o e m=>x.slot b o e fun z=>m (k b z),x.there⟩
theorem Wr.kept (k:∀ b o,h.get? b=some o→h'.get? b=some o):Wr S ch h h':=⟨fun b o e _ _=>k b o e,fun b o e _=>⟨o.slots,k b o e⟩,fun b o e=>⟨o,k b o e⟩⟩
theorem Wr.set (ho:h.get? a=some o) (hd:o.data = .fields vs) (g:Array ζ→Array ζ):Wr S [a] h (h.update a (Ĥ g)):=by
 have ot:∀ b,b≠a→(h.update a (Ĥ g)).get? b=h.get? b:=fun b n=>ϑ h _ fun z=>n z.symm
 have nm:∀ b,b ∉ [a]→b≠a:=fun b m z=>m (by rw [z];exact κ)
 refine ⟨fun b u e _ m=>by rw [ot b (nm b m)];exact e,fun b u e m=>⟨u.slots,by rw [ot b (nm b m)];exact e⟩,fun b u e=>?_⟩
 by_cases z:b=a
 ·subst z
  exact ⟨_,ϣ _ ho (ÿ (ù hd g))⟩
 ·exact ⟨u,by rw [ot b z];exact e⟩
theorem Wr.slots (x:Heap.SlotsOnly S h h'):Wr S ch h h':=⟨fun b o e n _=>(x.2.1 b n).trans e,fun b o e _=>x.2.2 b o e,fun b o e=>let ⟨_,q⟩:=x.2.2 b o e;⟨_,q⟩⟩
end
theorem gF (g:Array ζ→Array ζ) (o):(Ĥ g o).dict=o.dict:=by
 obtain ⟨c,d,dt,sl⟩:=o
 cases dt <;> rfl
section
variable {M:Dj} {A:Ϗ} {E:ζ→ν→Prop} {s:ν} {a T L:Α} {cls fl:ζ} {dx:Option Α} {Q:Unit→ν→Prop} {base:ϳ} {env:CL} {outer:List CL} {S:List Α}
theorem mK (t:Tr s.heap a cls dx T fl) (hQ:∀ h',Tr h' a cls dx T (fr.elim .none fun f=>Ê f)→Wr S [T] s.heap h'→Q () { s with heap:=h' }):χ M A (ES (.ref a) fr) Q E s:=by
 obtain ⟨oe,vs,oT,ts,he,hc,hd,h1,ne,hT,hdT,h3⟩:=t
 have z3:=(ā.mp h3).1
 unfold ES
 refine ε (Ϝ he hd h1 ?_)
 rw [ZZ (show (Ϣ T != Ϛ)=true by simp)]
 refine Ġ hT hdT z3 (hQ _ ?_ (Wr.set hT hdT _))
 have dT:=ù hdT (·.setIfInBounds 3 (fr.elim Ϛ fun f=>Ê f))
 exact ⟨oe,vs,_,_,(ϑ _ _ ne).trans he,hc,hd,h1,ne,ϣ _ hT (ÿ dT),dT,by simp [z3]⟩
theorem entry (hfr:A.frames=some (env :: outer)) (hl:s.heap.FunFrames base (env :: outer)) (hf:env.frame=some L) (he:s.heap.get? a=some oe) (hd:oe.data = .fields vs) (hz:1<vs.size)
 (hQ:∀ h' T,s.heap.get? T=none→Tr h' a oe.cls oe.dict T (Ê L)→Wr (frs (env :: outer)) [a] s.heap h'→Q () { s with heap:=h' }) :
 χ M A (do let x ← frameOf env;let pl ← entryPlaceOf L hn;let b ← E5 head x .none (Ê L) .none pl;setField (.ref a) 1 b) Q E s:=by
 have na:a ∉ (env :: outer).filterMap (·.frame):=fun m=>by
  obtain ⟨_,o,ho,nf⟩:=hl.mem m
  rw [he] at ho
  cases ho
  exact nf vs hd
 refine ε (wpAny_frameOf_fun hfr hl hf fun g hg=>ε (wpAny_entryPlaceOf fun pl hp=>?_))
 unfold E5 newFields;refine ε (È ?_ (IsPlace.sizeOk5 hp _ _ _ _ _))
 have ea:g.get? a=some oe:=(hg.2.1 a na).trans he
 generalize hu:([head,Ϣ L,Ϛ,Ê L,Ϛ] ++ (if pl.isEmpty then Ε 6 Ϛ else pl)).toArray=us
 have u3:us[3]? = some (Ê L):=by rw [← hu];rfl
 have ea2:=τ (h:=g) { cls:=.type "traceback",dict:=none,data:=.fields us } ea
 have nT:g.objs.size≠a:=Î (Ξ ea)
 refine Ġ ea2 hd hz (hQ _ g.objs.size ?_ ?_ ?_)
 ·rw [hg.1];exact ϖ (Ω _)
 ·have da:=ù hd (·.setIfInBounds 1 (Ϣ g.objs.size))
  exact ⟨_,_,_,us,ϣ _ ea2 (ÿ da),⟨Df _ _,gF _ _⟩,da,by simp [hz],nT,(ϑ _ _ (ϥ nT)).trans (ψ g rfl),rfl,u3⟩
 ·exact (Wr.slots (ch:=[a]) hg).trans ((Wr.kept fun b o e=>τ _ e).trans (Wr.set ea2 hd _))
theorem sk (hfr:A.frames=some (env :: outer)) (hl:s.heap.FunFrames base (env :: outer)) (hf:env.frame=some L) (x:Rw s.heap a cls dx)
 (hQ:∀ h' T,s.heap.get? T=none→Tr h' a cls dx T (Ê L)→Wr (frs (env :: outer)) [a] s.heap h'→Q () { s with heap:=h' }):χ M A (Č (.ref a) env) Q E s:=by
 obtain ⟨oe,vs,he,⟨rfl,rfl⟩,hd,h1⟩:=x
 unfold Č
 simp only [hf]
 refine ε (Ϝ he hd h1 ?_)
 rw [ZY (by decide)]
 exact entry hfr hl hf he hd (ā.mp h1).1 hQ
theorem pI (hfr:A.frames=some (env :: outer)) (hl:s.heap.FunFrames base (env :: outer)) (hf:env.frame=some L) (x:Tr s.heap a cls dx T .none)
 (hQ:∀ h' T',s.heap.get? T'=none→Tr h' a cls dx T' (Ê L)→Wr (frs (env :: outer)) [a,T] s.heap h'→Q () { s with heap:=h' }):χ M A (Č (.ref a) env) Q E s:=by
 obtain ⟨oe,vs,oT,ts,he,⟨rfl,rfl⟩,hd,h1,ne,hT,hdT,h3⟩:=x
 unfold Č
 simp only [hf]
 refine ε (Ϝ he hd h1 ?_)
 rw [ZZ (show (Ϣ T != Ϛ)=true by simp)]
 refine ε (Ϝ hT hdT h3 ?_)
 rw [ZY (show ¬ ((Ϛ == Ê L)=true) by simp [Ê])]
 refine ε (Ġ hT hdT (ā.mp h3).1 ?_)
 have w1:Wr (frs (env :: outer)) [T] s.heap _:=Wr.set hT hdT (·.setIfInBounds 3 Ϛ)
 refine entry hfr (hl.of_keeps fun b o e nf=>⟨o,?_,rfl⟩) hf ((ϑ _ _ ne).trans he) hd (ā.mp h1).1 fun h' T' n t w=>hQ h' T' ?_ t ((w1.mono (by simp)).trans (w.mono (by simp)))
 ·refine (ϑ _ _ fun z=>?_).trans e
  subst z
  rw [hT] at e
  cases e
  exact nf ts hdT
 ·cases q:s.heap.get? T' with
  | none=>rfl
  | some o=>
    obtain ⟨o',e'⟩:=w1.there T' o q
    rw [n] at e'
    cases e'
theorem pH (hf:env.frame=some L) (x:Tr s.heap a cls dx T (Ê L)) (hQ:Q () s):χ M A (Č (.ref a) env) Q E s:=by
 obtain ⟨oe,vs,oT,ts,he,⟨rfl,rfl⟩,hd,h1,ne,hT,hdT,h3⟩:=x
 unfold Č
 simp only [hf]
 refine ε (Ϝ he hd h1 ?_)
 rw [ZZ (show (Ϣ T != Ϛ)=true by simp)]
 refine ε (Ϝ hT hdT h3 ?_)
 rw [ZZ (show (Ê L == Ê L)=true by simp)]
 exact θ hQ
end
section
variable {X:Cx} {z z' z0 z1:Z} {M:Dj} {w:Α→Prop}
theorem qK {h h':ϳ}:∀ {l:List CL},h.FunFrames base l→(∀ b∈frs l,∀ o,h.get? b=some o→∃ sl,h'.get? b=some { o with slots:=sl })→h'.FunFrames base l
 | [],_,_=>trivial
 | v :: r,⟨a,⟨L,o,e1,e2,e3,e4⟩,q⟩,k=>by
   have hm:L∈frs (v :: r):=by unfold frs;rw [Ϧ,e1];exact κ
   obtain ⟨sl,e5⟩:=k L hm o e3
   exact ⟨a,⟨L,_,e1,e2,e5,e4⟩,qK q fun b hb=>k b (by unfold frs;rw [Ϧ,e1];exact ι _ hb)⟩
theorem Rep.wr {h':ϳ} {ch:List Α} {t:Nat} (I:Rep X z) (y:Wr (frs X.fr) ch z.s.heap h') (hc:∀ b∈ch,Fre X z b∧¬ Own z b) (tk:X.tz≤t:=by first | assumption | exact HR.tk (by assumption) | exact HR.tk1 (by assumption) | exact (Rep.toHR (by assumption)).tk | exact (Rep.toHR (by assumption)).tk1 | exact ϒ (by assumption)):Rep X { z with s:={ z.s with heap:=h',toks:=t } }:=by
 have nG:∀ {b o},z.G b=some o→z.h b=some o→h'.get? b=some o:=fun e e'=>y.keep _ _ e' (fun m=>by rw [(I.ff _ m).1] at e;cases e) fun m=>by rw [(hc _ m).1.1] at e;cases e
 have sl:∀ b,Lc X b→∀ o,z.s.heap.get? b=some o→∃ sl,h'.get? b=some { o with slots:=sl }:=fun b l o e=>y.slot b o e fun m=>(hc b m).1.2.2.2 l
 have ck:∀ x c v,X.env.cells.lookup x=some c→z.s.heap.IsCell c v→h'.IsCell c v:=fun x c v e ⟨o,q,d⟩=>let ⟨_,q2⟩:=sl c (.inr ⟨x,e⟩) o q;⟨_,q2,d⟩
 refine ⟨⟨I.md,I.fm,I.hd,I.bs,fun b o e=>nG e (I.gh b o e),I.rl,I.rn,I.rg,fun n o p h1 h2=>(I.ob n o p h1 h2).mono (ξ _) (.refl _) fun b hb o e=>?_,qK I.fu fun b hb o e=>y.slot b o e fun m=>(hc b m).1.2.2.1 hb,I.ff,I.br,I.os,tk⟩,I.ok,?_,fun x c e=>let ⟨v,q⟩:=I.ce x c e;⟨v,ck x c v e q⟩,I.fl,I.el,I.sl,I.en,fun i m=>?_,I.od⟩
 ·have mu:Mu z.ρ b:=⟨p,ο h2,hb⟩
  exact y.keep b o e (fun m=>(I.ff b m).2 mu) fun m=>(hc b m).1.2.1 mu
 ·obtain ⟨m,⟨oL,es,ep,q,r⟩,hl⟩:=I.lo
  obtain ⟨_,q2⟩:=sl _ (.inl rfl) _ q
  exact ⟨m,⟨_,es,ep,q2,r⟩,fun j x w e1 e2 e3=>dC (fun c v e q=>ck x c v e q) (hl j x w e1 e2 e3)⟩
 ·obtain ⟨d,a,o,h1,h2,h3,r,f⟩:=I.eo i m
  exact ⟨d,a,o,h1,h2,h3,r.mono (ξ _) (.refl _) fun b hb o e=>y.keep b o e (by rcases hb with rfl | rfl <;> exact f.2.2.1) fun mm=>(hc b mm).2 (by rcases hb with rfl | rfl <;> exact ⟨i,m,h2⟩),f⟩
theorem Stp.wr {h':ϳ} {ch:List Α} {t:Nat} (x:Stp fr w z0 z) (y:Wr (frs fr) ch z.s.heap h') (hc:∀ b∈ch,z0.h b=none):Stp fr w z0 { z with s:={ z.s with heap:=h',toks:=t } }:=by
 have nc:∀ {b o},z0.h b=some o→b ∉ ch:=fun e m=>by rw [hc _ m] at e;cases e
 refine ⟨x.pr,x.gg,x.gn,x.rn,fun a o e=>let ⟨o',e'⟩:=x.th a o e;y.there a o' e',fun a o e n m f=>y.keep a o (x.sm a o e n m f) f (nc e),fun a o e n m f=>?_⟩
 obtain ⟨sl,e1⟩:=x.sl a o e n m f
 obtain ⟨sl2,e2⟩:=y.slot a _ e1 (nc e)
 exact ⟨sl2,e2⟩
structure ki (X:Cx):Prop where
 fr:∃ e0 outer,X.fr=e0 :: outer∧e0.frame=X.env.frame
 frame:∃ L,X.env.frame=some L
theorem vf {c d:CL} (h:c.frame=d.frame) (e:ζ):Č e c=Č e d:=by unfold Č PySem.frameOf;rw [h]
inductive XN (X:Cx) (w:Α→Prop) (z z':Z) (c:Nat) (l:List D) (e:ζ) (fl:ζ):Prop
 | mk (a:_) (T:_) (cls:_) (dx:_) (_:e = .ref a) (_:Stp X.fr w z z') (_:Rep X z') (_:XR X.W z' c l cls dx) (_:Nob X z z' a) (_:Tr z'.s.heap a cls dx T fl) (_:Nob X z z' T)
theorem XN.wr {h':ϳ} {ch:List Α} {a T:Α} {fl:ζ} (x:Stp X.fr w z z') (I:Rep X z') (r:XR X.W z' c l cls dx) (na:Nob X z z' a) (nT:Nob X z z' T) (y:Wr (frs X.fr) ch z'.s.heap h') (hc:∀ b∈ch,Nob X z z' b) (t:Tr h' a cls dx T fl):XN X w z { z' with s:={ z'.s with heap:=h' } } c l (.ref a) fl:=
 ⟨a,T,cls,dx,rfl,x.wr (t:=z'.s.toks) y fun b hb=>(hc b hb).1,I.wr (t:=z'.s.toks) y fun b hb=>(hc b hb).2,r,na,t,nT⟩
theorem e9 {Q:Unit→ν→Prop} {E:ζ→ν→Prop} (F:ki X) (x:Stp X.fr w z z') (I:Rep X z') (h:XO X z z' c l e) (hQ:∀ L h',X.env.frame=some L→XN X w z { z' with s:={ z'.s with heap:=h' } } c l e (Ê L)→Q () { z'.s with heap:=h' }):χ M X.A (Č e X.env) Q E z'.s:=by
 obtain ⟨e0,outer,hfr,hef⟩:=F.fr
 obtain ⟨L,hL⟩:=F.frame
 have hL0:=hef.trans hL
 rw [vf hef.symm]
 have fm:=I.fm
 have fu:=I.fu
 rw [hfr] at fm fu
 obtain ⟨a,cls,dx,rfl,r,na,t⟩:=h
 have new:∀ T,z'.h T=none→Nob X z z' T:=fun T n=>⟨x.no n,I.fre n⟩
 rcases t with t | ⟨T,fl,t,hfl,nT⟩
 ·refine sk fm fu hL0 t fun h' T n t' y=>hQ L h' hL (.wr x I r na (new T n) (by rw [hfr];exact y) (fun b hb=>?_) t')
  rw [η.mp hb];exact na
 ·rcases hfl with rfl | ⟨L',hL',rfl⟩
  ·refine pI fm fu hL0 t fun h' T' n t' y=>hQ L h' hL (.wr x I r na (new T' n) (by rw [hfr];exact y) (fun b hb=>?_) t')
   rcases π.mp hb with q | q
   ·rw [q];exact na
   ·rw [η.mp q];exact nT
  ·rw [hL] at hL';cases hL'
   exact pH hL0 t (hQ L z'.s.heap hL ⟨a,T,cls,dx,rfl,x,I,r,na,t,nT⟩)
theorem bP {fl:ζ} {fr:Option Α} {Q:Unit→ν→Prop} {E:ζ→ν→Prop} {A:Ϗ} (h:XN X w z z' c l e fl) (hQ:∀ h',XN X w z { z' with s:={ z'.s with heap:=h' } } c l e (fr.elim .none fun f=>Ê f)→Q () { z'.s with heap:=h' }):χ M A (ES e fr) Q E z'.s:=by
 obtain ⟨a,T,cls,dx,rfl,x,I,r,na,t,nT⟩:=h
 exact mK (S:=frs X.fr) t fun h' t' y=>hQ h' (.wr x I r na nT y (fun b hb=>by rw [η.mp hb];exact nT) t')
theorem vp (F:ki X):PassesOwn M X.A X.env (PxS X z o):=fun e s' ⟨z',c,l,q,q2,x,I,h⟩=>by
 subst q
 unfold notedBy
 refine e9 F x.st I h fun L h' hL hn=>?_
 obtain ⟨a,T,cls,dx,e1,_,_,_,_,t,_⟩:=id hn
 subst e1
 unfold cameBackBy
 obtain ⟨oe,vs,oT,ts,he,hc,hd,h1,r⟩:=id t
 refine ε (Ϝ he hd h1 ?_)
 rw [ZY (show ¬ ((Ϣ T == Ϛ)=true) by simp),hL]
 refine bP (z':={ z' with s:={ z'.s with heap:=h' } }) (fr:=some L) hn fun h2 hn2=>?_
 obtain ⟨a',T',cls',dx',e1,x2,I2,r2,na2,t2,nT2⟩:=hn2
 exact ⟨{ z' with s:={ z'.s with heap:=h2 } },c,l,rfl,q2,⟨x2,x.ow⟩,I2,a',cls',dx',e1,r2,na2,.inr ⟨T',_,t2,.inr ⟨L,hL,rfl⟩,nT2⟩⟩
theorem pM {E:ζ→ν→Prop} {Q:ζ→ν→Prop} (F:ki X) (h:PxS X z o e s') (q:∀ z' c l a T cls dx,o = .exc c l z'.t→e = .ref a→Stp X.fr (Pv X z) z z'→Rep X z'→XR X.W z' c l cls dx→Nob X z z' a→Tr z'.s.heap a cls dx T .none→Nob X z z' T→Q e z'.s):χ M X.A (leaving X.env e) (fun _ s''=>Q e s'') E s':=by
 obtain ⟨z',c,l,e1,q2,x,I,h⟩:=h
 subst e1
 unfold leaving
 refine ε (e9 F x.st I h fun L h' hL hn=>bP (z':={ z' with s:={ z'.s with heap:=h' } }) (fr:=none) hn fun h2 hn2=>?_)
 obtain ⟨a,T,cls,dx,e1,x2,I2,r2,na2,t2,nT2⟩:=hn2
 exact q { z' with s:={ z'.s with heap:=h2 } } c l a T cls dx q2 e1 x2 I2 r2 na2 t2 nT2
end
section
variable {X:Cx} {sc:ē} {N:List μ} {z z' z0 z1:Z}
def rC (M:Dj) (A:Ϗ) (E:ζ→ν→Prop) (use:Option (ζ→DD Unit)) (Q:ζ→ν→Prop) (acc:ζ) (C:Α) (fr:Option Α) (r:Result) (s':ν):Prop:=match r with
 | .error x=>∃ m,s'.heap.Ns C m∧∀ h',Ü C s'.heap h'→∀ ce:CL,ce.frame=fr→χ M A (passOn "comprehension.variables-let-go" x ce:DD ζ) (fun _ _=>False) E { s' with heap:=h' }
 | r=>compPost M A E use Q acc C r s'
theorem xh {M:Dj} {A:Ϗ} {E Q:ζ→ν→Prop} {s:ν} {env:CL} {e:Λ} {scope:ē} {pos:Ϫ} {newAcc first:DD ζ} {g:EO} {gs:List EO} {cl:List (μ×Α)} {use:Option (ζ→DD Unit)}
 (hcl:clausesOf e=g :: gs) (hs:∀ x,Ś g.iter env x=pure x) (hclos:Gd scope env=pure cl) (hkind:scope.kind = .function) (hnames:∀ x∈scope.names,x.2 = .local→scope.names.lookup x.1=some .local)
 (h:χ M A first (fun x s1=>χ M A (ş x) (fun it s2=>χ M A newAcc (fun acc s3=>χ M A (newFunctionEnv scope env.globals cl [] env.qual none .none (some env)) (fun ce s4=>ĭ M A (.compStart e 0 it acc { ce with scope:=relabel scope env }) (rC M A E use Q acc ce.locals ce.frame) s4) E s3) E s2) E s1) E s) :
 χ M A (comprehension e scope env pos newAcc false first use) Q E s:=by
 have id:∀ (x:ζ) (s':ν),E x s'→E x s':=fun _ _ y=>y
 unfold comprehension
 rw [hclos,hcl]
 refine ε (Κ h (fun x s1 h1=>ε (Ò ?_)) id)
 refine ε (CT (hs x) (ε (Τ (Κ h1 (fun it s2 h2=>?_) id))))
 refine wpAny_standIf (ε (Κ h2 (fun acc s3 h3=>?_) id))
 refine ε (θ (ε (Κ h3 (fun ce s4 h4=>?_) id)))
 dsimp only
 generalize hvs:(scope.names.filter fun x=>(x.2 == .local || x.2 == .cell) && x.1 != (".0":μ))=vs
 have hv:∀ x∈vs,x.2 = .local→Env.kindOf { ce with scope:=relabel scope env } x.1=some .local:=fun x m l=>lookup_relabel_local (hnames x (ϔ.mp (hvs ▸ m)).1 l)
 have hr:∀ x∈vs.reverse,x.2 = .local→Env.kindOf { ce with scope:=relabel scope env } x.1=some .local:=fun x m=>hv x (List.mem_reverse.mp m)
 refine Τ (ε (Di (Τ (wpAny_run (â h4 fun r s' hq=>?_)))))
 cases r with
 | error x=>
   obtain ⟨m,hn,hq⟩:=hq
   refine ε (Τ (DX (cenv:={ ce with scope:=relabel scope env }) hkind _ s' m hr hn fun h' m' _ sb=>?_))
   exact Κ (hq h' sb _ rfl) (fun _ _ f=>f.elim) id
 | ok f=>
   cases use with
   | none=>
     obtain ⟨m,hn,hq⟩:=hq
     exact ε (Τ (DX (cenv:={ ce with scope:=relabel scope env }) hkind _ s' m hr hn fun h' m' _ sb=>θ (hq h' sb)))
   | some u=>
     refine ε (ŷ (ε (Τ (Κ hq (fun _ s2 hq=>?_) id))))
     obtain ⟨m,hn,hq⟩:=hq
     exact ε (DX (cenv:={ ce with scope:=relabel scope env }) hkind _ s2 m (fun x hx=>(ë.mp hx).elim (fun q=>hr x (List.mem_of_mem_drop q)) fun q=>hr x (List.mem_of_mem_take q)) hn fun h' m' _ sb=>θ (hq h' sb))
theorem rG {zr zn:Z} {E:ζ→ν→Prop} {o:Out D} {C L:Α} (I:Rep X z) (Ir:Rep X zr) (er:zr.t.env=z.t.env∧zr.σ=z.σ∧zr.t.ow = []) (fC:C ∉ frs X.fr∧¬ Lc X C∧z.h C=none) (hL:X.env.frame=some L)
 (hn:XN (cxC X N sc C) (Own z) z zn c l e (Ê L)) (pr:zr.ρ <+: zn.ρ) (gg:Sub zr.G zn.G) (q:o = .exc c l ⟨z.t.env,[],zn.t.st⟩) (hE:∀ u s',Px X z o u s'→E u s') :
 ∃ m,zn.s.heap.Ns C m∧∀ h',Ü C zn.s.heap h'→∀ ce:CL,ce.frame=X.env.frame→χ X.M X.A (passOn "comprehension.variables-let-go" e ce:DD ζ) (fun _ _=>False) E { zn.s with heap:=h' }:=by
 obtain ⟨a,T,cls,dx,e1,S,J,r,na,t,nT⟩:=hn
 subst e1
 have If:=rD I Ir er S J.toHR.out pr gg
 obtain ⟨m,hm,_⟩:=J.lo
 obtain ⟨oC,_,_,eC,_⟩:=id hm
 refine ⟨m,hm,fun h' sb ce hf=>?_⟩
 have k:∀ b o,b ∉ [C]→zn.s.heap.get? b=some o→h'.get? b=some o:=fun b o m e=>(sb.2 b fun w=>m (by rw [w];exact η.mpr rfl)).trans e
 have S0:Stp X.fr (Own z) z { zn with t:=⟨z.t.env,[],zn.t.st⟩,σ:=z.σ }:=⟨S.pr,S.gg,S.gn,S.rn,S.th,S.sm,S.sl⟩
 have lC:Lc (cxC X N sc C) C:=.inl rfl
 obtain ⟨I4,S4,g4,n4⟩:=Rep.turn (X:=X) (s':={ zn.s with heap:=h' }) (tk:=If.toHR.tk) S0 If (fun b hb=>by rw [η.mp hb];exact ⟨⟨fC.2.2,⟨(J.fl C lC).1,(J.fl C lC).2,fC.1,fC.2.1⟩,fun ⟨i,m,_⟩=>nomatch m⟩,oC,eC⟩) k ⟨rfl,rfl⟩
 have up:∀ {b},Nob (cxC X N sc C) z zn b→∀ {o},zn.h b=some o→b≠C∧h'.get? b=some o∧Nob X z (Z.up { zn with t:=⟨z.t.env,[],zn.t.st⟩,σ:=z.σ } { zn.s with heap:=h' }) b:=fun {b} nb {o} eb=>by
  have ne:b≠C:=fun w=>nb.2.1.2.2.2 (w ▸ lC)
  refine ⟨ne,(sb.2 b ne).trans eb,nb.1,⟨?_,nb.2.1.2.1,nb.2.1.2.2.1,fun l=>?_⟩,fun ⟨i,m,_⟩=>nomatch m⟩
  ·show (match zn.h b with | none=>h'.get? b | some _=>zn.G b)=none
   rw [eb];exact nb.2.1.1
  ·obtain ⟨o1,e1⟩:=I.lth l
   rw [nb.1] at e1;cases e1
 obtain ⟨oe,vs,oT,ts,he,hc,hd,h1,ne,hT,hdT,h3⟩:=t
 obtain ⟨neA,heA,nA⟩:=up na he
 obtain ⟨neT,heT,nTT⟩:=up nT hT
 unfold Gg
 refine ε (Ϝ heA hd h1 ?_)
 rw [ZY (show ¬ ((Ϣ T == Ϛ)=true) by simp),hf,hL]
 refine ε (bP (X:=X) (w:=Own z) (z:=z) (c:=c) (l:=l) (z':=Z.up { zn with t:=⟨z.t.env,[],zn.t.st⟩,σ:=z.σ } { zn.s with heap:=h' }) (fr:=some L) (fl:=Ê L) ⟨a,T,cls,dx,rfl,S4,I4,?_,nA,⟨oe,vs,oT,ts,heA,hc,hd,h1,ne,heT,hdT,h3⟩,nTT⟩ fun h2 hn2=>FA ?_)
 ·obtain ⟨i,r1,r2,r3,r4,r5⟩:=r
  exact ⟨i,r1,r2,r3,r4,r5.imp_right fun ⟨d,od,vs,w1,w2,w3,w4⟩=>⟨d,od,vs,w1,g4 _ _ w2,w3,w4.mono (ξ _) g4⟩⟩
 ·obtain ⟨a',T',cls',dx',e1,x2,I2,r2,na2,t2,nT2⟩:=hn2
  exact hE _ _ ⟨_,c,l,rfl,q,⟨x2,rfl,rfl,fun i m=>nomatch m⟩,I2,a',cls',dx',e1,r2,na2,.inr ⟨T',_,t2,.inr ⟨L,hL,rfl⟩,nT2⟩⟩
structure LcP (X:Cx) (N:List μ) (ee tg iter:Λ) (ifs:List Λ) (sc:ē) (t:List Nat) (one:Bool) (it elt cond:E):Prop where
 hc:X.calm=true
 F:ki X
 L:Lcn X sc t.length N
 hi:LI X tg iter it
 hg:∀ C,LG (cxC X N sc C) tg t one
 hl:∀ i∈t,∀ x,N[i]? = some x→(relabel sc X.env).names.lookup x=some .local
 ht:∀ C,LTs (cxC X N sc C) ifs cond
 he:∀ C,LE (cxC X N sc C) ee elt
 hs:∀ x,Ś iter X.env x=pure x
inductive LcJ (X Y:Cx) (z zr:Z) (env:List (Option D)) (ds:List D) (St:Nat→ϳ→Prop) (fp wr:List Nat) (a:Nat) (o:Out D) (f:D→Sta→Out (Option D)) (n:Nat) (s:ν):Prop
 | mk (i:Nat) (z':Z) (acc:List D) (vs:List ζ) (ob:Ea) (_:z'.s=s) (_:n=ds.length - i) (_:i≤ds.length) (_:Stp X.fr (Own z) z z') (_:Rep Y z') (_:z'.t.ow = []) (_:St i z'.s.heap) (_:Fp Y z z' fp wr) (_:zr.ρ <+: z'.ρ) (_:Sub zr.G z'.G) (_:Nob Y z z' a) (_:z'.h a=some ob) (_:LsO ob vs) (_:RDs X.W z'.ρ z'.G acc vs) (_:o=(bZ f (ds.drop i) acc z'.t).back env)
theorem rH {ee tg iter:Λ} {ifs:List Λ} {t:List Nat} {one:Bool} {it elt cond:E} {pos p:Ϫ} {use:Option (ζ→DD Unit)} {Q:ζ→ν→Prop} {E:ζ→ν→Prop} {o:Out D} (P:LcP X N ee tg iter ifs sc t one it elt cond) (I:Rep X z) (e0:o=X.ev false (.lc t one it elt cond) z.t) (nb:o≠.bad) (hE:∀ u s',Px X z o u s'→E u s')
 (fin:∀ zf d D C m,Ee X z zf→Rep X zf→o = .ok d zf.t→FV X z zf d (.ref D)→Nob X z zf C→(∃ oC,zf.h C=some oC)→zf.s.heap.Ns C m→C≠D→compPost X.M X.A E use Q (.ref D) C (.ok .next) zf.s) :
 χ X.M X.A (comprehension (.ListComp ee [⟨tg,iter,ifs,0⟩] sc pos) sc X.env p (newList []) false (eval iter X.env) use) Q E z.s:=by
 have e0:o=(X.ev false it z.t).bind fun x s=>(match x with
  | .lst ds=>(bZ (lcF X t one elt cond) ds [] ⟨Ε t.length none ++ s.env,[],s.st⟩).back s.env
  | _=>.bad):=e0
 have nb0:X.ev false it z.t≠.bad:=fun q=>nb (by rw [e0,q];rfl)
 refine xh rfl P.hs (lX (P.L.cells I.ok)) P.L.kind P.L.names (Κ (ϙ I.tk (P.hi z I nb0)) (fun v s1 ⟨tk1,h1⟩=>Κ (ϙ tk1 h1) (fun itv s2 ⟨tk2,h2⟩=>?_) fun _ _ w=>w.2.elim) fun u s' h=>hE u s' (by rw [e0];exact h.2.map))
 obtain ⟨z1,ds,a,fp,wr,St,q1,q2,x1,I1,q3,T,st1,f1⟩:=h2
 subst q1 q3
 have I1:=I1 tk2
 rw [q2] at e0
 have e0:o=(bZ (lcF X t one elt cond) ds [] ⟨Ε t.length none ++ z1.t.env,[],z1.t.st⟩).back z1.t.env:=e0
 refine È (wpAny_newFunctionEnv P.L.nocell (by intro y hy;simp at hy) (fun h1 hns hsb=>?_) P.L.kind)
 dsimp only at hns hsb ⊢
 generalize hD:z1.s.heap.objs.size=D at hns hsb ⊢
 have nD:z1.h D=none:=hD ▸ aL z1
 generalize hG:z1.s.heap.push { cls:=.type "list",dict:=none,data:=.seq ([]:List ζ).toArray }=G1 at hns hsb ⊢
 have hC0:G1.objs.size=D+1:=by rw [← hG,ϯ,hD]
 generalize hC:G1.objs.size=C at hns hsb ⊢ hC0
 have CD:C≠D:=by rw [hC0];exact Ŕ _
 have nC:z1.h C=none:=ϖ (by rw [hC0,hD];exact Ñ _)
 have up:∀ b o,G1.get? b=some o→h1.get? b=some o:=fun b o e=>hsb.extBut b o (hC ▸ ϝ (Ξ e)) (τ _ e)
 have kp:∀ b o,z1.s.heap.get? b=some o→h1.get? b=some o:=fun b o e=>up b o (hG ▸ τ _ e)
 have gr:Gr z1.s { z1.s with heap:=h1,toks:=z1.s.toks+([]:List (μ×ζ)).length }:=.hp kp
 have hDo:h1.get? D=some { cls:=.type "list",data:=.seq ([]:List ζ).toArray }:=up _ _ (hG ▸ hD ▸ ψ _ rfl)
 obtain ⟨Ir,xr⟩:=I1.rel fun _=>false
 have owr:(z1.rel fun _=>false).t.ow = []:=Ė.mpr fun _ _=>by simp
 have I2:=rI (k:=t.length) P.L Ir owr (s':={ z1.s with heap:=h1,toks:=z1.s.toks+([]:List (μ×ζ)).length }) gr nC hns
 generalize hz2:(⟨(z1.rel fun _=>false).ρ,(z1.rel fun _=>false).G,⟨Ε t.length none ++ (z1.rel fun _=>false).t.env,[],(z1.rel fun _=>false).t.st⟩,Ε t.length none ++ (z1.rel fun _=>false).σ,{ z1.s with heap:=h1,toks:=z1.s.toks+([]:List (μ×ζ)).length }⟩:Z)=z2 at I2
 have xa:=x1.trans xr
 have fD:=Ir.fre (a:=D) nD
 have fC:=Ir.fre (a:=C) nC
 have zD:z.h D=none:=x1.st.no nD
 have zC:z.h C=none:=x1.st.no nC
 have S2:Stp X.fr (Own z) z z2:=by
  subst hz2
  exact ⟨xa.st.pr,xa.st.gg,xa.st.gn,xa.st.rn,fun b o e=>let ⟨o',e'⟩:=xa.st.th b o e;⟨o',kp b o' e'⟩,fun b o e n w f=>kp b o (xa.st.sm b o e n w f),fun b o e n w f=>let ⟨sl,e'⟩:=xa.st.sl b o e n w f;⟨sl,kp b _ e'⟩⟩
 have nLD:¬ Lc X D:=fD.1.2.2.2
 have nLC:¬ Lc X C:=fC.1.2.2.2
 have nob2:∀ {b},z.h b=none→(z1.rel fun _=>false).G b=none→¬ Mu z1.ρ b→b ∉ frs X.fr→¬ Lc X b→b≠C→Nob (cxC X N sc C) z z2 b:=fun h0 h1 h2 h3 h4 h5=>by
  subst hz2
  exact ⟨h0,⟨h1,h2,h3,fun l=>(wm l).elim h5 h4⟩,fun ⟨i,m,_⟩=>nomatch m⟩
 have nobD:Nob (cxC X N sc C) z z2 D:=nob2 zD fD.1.1 fD.1.2.1 fD.1.2.2.1 nLD (ϥ CD)
 have fp1:∀ b∈fp,∃ o,z1.h b=some o:=fun b hb=>(f1 b hb).elim (·.2) fun ⟨_,o,e⟩=>⟨o,I1.gh b o e⟩
 have fpn:∀ b∈fp,b≠D∧b≠C:=fun b hb=>by
  obtain ⟨o,e⟩:=fp1 b hb
  exact ⟨fun w=>(by rw [w,nD] at e;cases e),fun w=>(by rw [w,nC] at e;cases e)⟩
 have f2:Fp (cxC X N sc C) z z2 fp wr:=fun b hb=>by
  obtain ⟨o1,e1⟩:=fp1 b hb
  rcases f1 b hb with ⟨⟨n0,ff,no⟩,_⟩ | ⟨m,o,e⟩
  ·exact .inl ⟨nob2 n0 ((dF fun ⟨i,m,_,e⟩=>no ⟨i,m,e⟩).trans ff.1) ff.2.1 ff.2.2.1 ff.2.2.2 (fpn b hb).2,o1,by subst hz2;exact kp b o1 e1⟩
  ·exact .inr ⟨m,o,by subst hz2;exact xr.st.gg b o e⟩
 have pr2:(z1.rel fun _=>false).ρ <+: z2.ρ:=by subst hz2;exact ξ _
 have gg2:Sub (z1.rel fun _=>false).G z2.G:=by subst hz2;exact .refl _
 have ow2:z2.t.ow = []:=by subst hz2;rfl
 have s2e:z2.s={ z1.s with heap:=h1,toks:=z1.s.toks+([]:List (μ×ζ)).length }:=by subst hz2;rfl
 have hD2:z2.h D=some { cls:=.type "list",data:=.seq ([]:List ζ).toArray }:=by show z2.s.heap.get? D=_;rw [s2e];exact hDo
 have st2:St 0 z2.s.heap:=by rw [s2e];exact T.keep _ _ _ st1 fun b _ o e=>kp b o e
 have e2:o=(bZ (lcF X t one elt cond) ds [] z2.t).back z1.t.env:=by subst hz2;exact e0
 have loop:ĭ X.M X.A (.compLoop (.ListComp ee [⟨tg,iter,ifs,0⟩] sc pos) 0 (.ref a) (.ref D) (cxC X N sc C).env) (rC X.M X.A E use Q (.ref D) C X.env.frame) z2.s:=by
  refine codeAny_loop rfl (LcJ X (cxC X N sc C) z (z1.rel fun _=>false) z1.t.env ds St fp wr D o (lcF X t one elt cond)) (fun n s3 hI=>?_) (ds.length - 0) ⟨0,z2,[],[],_,rfl,rfl,ϲ _,S2,I2,ow2,st2,f2,pr2,gg2,nobD,hD2,⟨⟨_,rfl⟩,ϲ _⟩,rfl,by rw [Ķ];exact e2⟩
  obtain ⟨i,z3,acc,vs,ob,e3,en,hi,S3,I3,ow3,st3,f3,p3,g3,nD3,hD3,lo3,ra3,q⟩:=hI
  subst e3
  show χ X.M X.A ((compTurn (.ListComp ee [⟨tg,iter,ifs,0⟩] sc pos) 0 (.ref a) (.ref D) (cxC X N sc C).env).onRaise (fun x=>do Č x (cxC X N sc C).env;theTreesLotGoes x)) _ _ z3.s
  refine wpAny_noted ?_
  rw [compTurn_list]
  refine ε (Ò (ε ?_))
  cases qd:ds[i]? with
  | none=>
    have hl:i=ds.length:=by rw [E2] at qd;omega
    subst hl
    refine Κ (ϙ I3.tk (T.done (I3.hd P.hc) st3)) (fun r s4 ⟨tk4,er,os,k⟩=>?_) fun _ _ w=>w.2.elim
    subst er
    obtain ⟨I4,S4,g4,_⟩:=Rep.turn (X:=cxC X N sc C) S3 I3 (f3.wr T st3) k os tk4
    rw [ŏ] at q
    have nDw:D ∉ wr:=fun m=>(fpn D (T.sub D m)).1 rfl
    have If:=rD I Ir ⟨x1.en,x1.sg,owr⟩ S4 I4.toHR.out p3 (g3.trans g4)
    obtain ⟨m,hn,_⟩:=I4.lo
    obtain ⟨n0,ff,no⟩:=nD3
    have GD:(z3.up s4).G D=none:=by show (match z3.h D with | none=>s4.heap.get? D | some _=>z3.G D)=none;rw [hD3];exact ff.1
    refine θ (fin { z3.up s4 with t:=⟨z.t.env,[],z3.t.st⟩,σ:=z.σ } (.lst acc) D C m ⟨⟨S4.pr,S4.gg,S4.gn,S4.rn,S4.th,S4.sm,S4.sl⟩,rfl,rfl,fun i m=>nomatch m⟩ If (q.trans (by rw [x1.en];rfl)) ⟨D,.lst acc,rfl,zD,rfl,⟨ob,vs,rfl,k D ob nDw hD3,lo3,ra3.mono (ξ _) g4⟩,⟨GD,ff.2.1,ff.2.2.1,nLD⟩,fun ⟨i,m,_⟩=>nomatch m⟩ ⟨zC,⟨(I4.fl C (.inl rfl)).1,(I4.fl C (.inl rfl)).2,fC.1.2.2.1,nLC⟩,fun ⟨i,m,_⟩=>nomatch m⟩ ?_ hn CD)
    obtain ⟨oC,_,_,eC,_⟩:=hn
    exact ⟨oC,eC⟩
  | some d=>
    have hil:i<ds.length:=(ς.mp qd).1
    rw [mS qd] at q
    have q:o=((lcF X t one elt cond d z3.t).bind fun o s'=>match o with
     | some e=>if acc.length<100000 then bZ (lcF X t one elt cond) (ds.drop (i+1)) (acc ++ [e]) s' else .bad
     | none=>bZ (lcF X t one elt cond) (ds.drop (i+1)) acc s').back z1.t.env:=q
    refine Κ (ϙ I3.tk (T.item (I3.hd P.hc) qd st3)) (fun r s4 ⟨tk4,u,er,h4⟩=>?_) fun _ _ w=>w.2.elim
    subst er
    refine ε (Κ (ϙ tk4 h4) (fun _ s5 ⟨tk5,st5,os5,k5,rd5⟩=>?_) fun _ _ w=>w.2.elim)
    obtain ⟨I5,S5,g5,n5⟩:=Rep.turn (X:=cxC X N sc C) S3 I3 (f3.wr T st3) k5 os5 tk5
    have rd:=rd5 z3.ρ (z3.up s5).G (xr.st.pr.trans p3) ((xr.st.gg.trans g3).trans g5) fun a o e1 e2=>by rw [fA e1];exact e2
    have f5:=f3.up I3 g5 k5 fun b m _=>T.ex _ _ st5 b m
    have nDw:D ∉ wr:=fun m=>(fpn D (T.sub D m)).1 rfl
    have nD5:Nob (cxC X N sc C) z (z3.up s5) D:=⟨nD3.1,⟨by show (match z3.h D with | none=>s5.heap.get? D | some _=>z3.G D)=none;rw [hD3];exact nD3.2.1.1,nD3.2.1.2⟩,nD3.2.2⟩
    have hD5:(z3.up s5).h D=some ob:=k5 D ob nDw hD3
    cases qb:aV t one d z3.t.env with
    | none=>rw [show lcF X t one elt cond d z3.t = .bad by unfold lcF;rw [qb]] at q;exact ZX q nb
    | some env=>
      rw [show lcF X t one elt cond d z3.t=(X.ev true cond ⟨env,[],z3.t.st⟩).bind fun b s2=>(match b with
       | .bl true=>(X.ev false elt s2).bind fun e s3=>.ok (some e) ⟨s3.env,[],s3.st⟩
       | .bl false=>.ok none ⟨s2.env,[],s2.st⟩
       | _=>.bad) by unfold lcF;rw [qb];all_goals rfl] at q
      refine ε (P.hg C (z3.up s5) (z3.up s5) d u env _ _ .refl I5 rd qb fun z6 _ I6 eρ y6 et eσ ek=>?_)
      have k6:=ek P.hl
      have ow6:z6.t.ow = []:=by rw [et];show z3.t.ow.filter _ = [];rw [ow3];rfl
      have t6:z6.t=⟨env,[],z3.t.st⟩:=by rw [et];show (⟨env,z3.t.ow.filter _,z3.t.st⟩:Sta)=_;rw [ow3];rfl
      have S56:Stp X.fr (fun b=>b=C) (z3.up s5) z6:=⟨y6.st.pr,y6.st.gg,fun b o e=>(by
       rcases y6.st.gn b o e with w | w | w
       ·exact .inl w
       ·exact .inr (.inl w)
       ·rcases w with ⟨j,m,_⟩ | l
        ·have:j∈z3.t.ow:=m
         rw [ow3] at this;exact nomatch this
        ·rw [(I6.fl b l).1] at e;cases e),y6.st.rn,y6.st.th,fun b o e _ w _=>k6 b o e w,fun b o e _ w _=>⟨o.slots,k6 b o e w⟩⟩
      have S6:Stp X.fr (Own z) z z6:=S5.trans S56 fun b w=>.inr (by rw [w];exact zC)
      obtain ⟨nD6,hD6⟩:=nD5.go y6 hD5
      have f6:=f5.go y6
      have st6:St (i+1) z6.s.heap:=T.keep _ _ _ st5 (f5.keep y6 I5 I6)
      rw [← t6] at q
      have nb6:(X.ev true cond z6.t).bind toB≠.bad:=fun w=>nb (by
       rw [q]
       cases qc:X.ev true cond z6.t with
       | ok b s2=>
         rw [qc] at w
         cases b with
         | bl b=>cases w
         | _=>rfl
       | exc c l s2=>rw [qc] at w;cases w
       | bad=>rfl)
      have p6:(z1.rel fun _=>false).ρ <+: z6.ρ:=p3.trans (eρ ▸ ξ _)
      have g36:Sub z3.G z6.G:=g5.trans y6.st.gg
      refine ε (Κ (P.ht C z6 I6 nb6) (fun b s7 ⟨z7,tb,e7,q7,x7,I7,r7⟩=>?_) fun u s' ⟨z7,c,l,e7,q7,x7,I7,xo⟩=>?_)
      rotate_left
      ·subst e7
       obtain ⟨ow7,S67⟩:=x7.nil ow6
       have qc:X.ev true cond z6.t = .exc c l z7.t:=by
        have q7:(X.ev true cond z6.t).bind toB = .exc c l z7.t:=q7
        cases qc:X.ev true cond z6.t with
        | ok b s2=>rw [qc] at q7;cases b <;> cases q7
        | exc c l s2=>rw [qc] at q7;cases q7;rfl
        | bad=>rw [qc] at q7;cases q7
       rw [qc] at q
       have S7:Stp X.fr (Own z) z z7:=S6.trans S67 fun _ w=>w.elim
       refine e9 (X:=cxC X N sc C) (w:=Own z) (z:=z) (z':=z7) ⟨P.F.fr,P.F.frame⟩ S7 I7 (xo.less fun _=>S6.no) fun L h' hL hn=>?_
       exact rG I Ir ⟨x1.en,x1.sg,owr⟩ ⟨fC.1.2.2.1,nLC,zC⟩ hL hn (p6.trans x7.st.pr) ((g3.trans g36).trans x7.st.gg) (q.trans (by rw [x1.en];rfl)) hE
      subst e7
      obtain ⟨ow7,S67⟩:=x7.nil ow6
      have S7:Stp X.fr (Own z) z z7:=S6.trans S67 fun _ w=>w.elim
      obtain ⟨nD7,hD7⟩:=nD6.go x7.go hD6
      have f7:=f6.go x7.go
      have st7:St (i+1) z7.s.heap:=T.keep _ _ _ st6 (f6.keep x7.go I6 I7)
      have qc:X.ev true cond z6.t = .ok (.bl tb) z7.t:=by
       have q7:(X.ev true cond z6.t).bind toB = .ok tb z7.t:=q7
       cases qc:X.ev true cond z6.t with
       | ok b s2=>rw [qc] at q7;cases b <;> first | (cases q7;rfl) | cases q7
       | exc c l s2=>rw [qc] at q7;cases q7
       | bad=>rw [qc] at q7;cases q7
      rw [qc] at q
      have p7:(z1.rel fun _=>false).ρ <+: z7.ρ:=p3.trans ((eρ ▸ ξ _:z3.ρ <+: z6.ρ).trans x7.st.pr)
      have g37:Sub z3.G z7.G:=(g5.trans y6.st.gg).trans x7.st.gg
      cases (show b=tb from r7)
      cases b with
      | false=>
        have q:o=(bZ (lcF X t one elt cond) (ds.drop (i+1)) acc ⟨z7.t.env,[],z7.t.st⟩).back z1.t.env:=q
        rw [oG ow7] at q
        exact θ ⟨rfl,ds.length - (i+1),by omega,i+1,z7,acc,vs,ob,rfl,rfl,hil,S7,I7,ow7,st7,f7,p7,g3.trans g37,nD7,hD7,lo3,ra3.mono ((eρ ▸ ξ _:z3.ρ <+: z6.ρ).trans x7.st.pr) g37,q⟩
      | true=>
        have q:o=(((X.ev false elt z7.t).bind fun e s3=>Out.ok (some e) ⟨s3.env,[],s3.st⟩).bind fun o s'=>match o with
         | some e=>if acc.length<100000 then bZ (lcF X t one elt cond) (ds.drop (i+1)) (acc ++ [e]) s' else .bad
         | none=>bZ (lcF X t one elt cond) (ds.drop (i+1)) acc s').back z1.t.env:=q
        have nb7:X.ev false elt z7.t≠.bad:=fun w=>nb (by rw [q,w];rfl)
        refine ε (ε (Κ (P.he C false z7 I7 nb7) (fun v s8 ⟨z8,de,e8,q8,x8,I8,r8⟩=>?_) fun u s' ⟨z8,c,l,e8,q8,x8,I8,xo⟩=>?_))
        rotate_left
        ·subst e8
         obtain ⟨ow8,S78⟩:=x8.nil ow7
         rw [show X.ev false elt z7.t=_ from q8] at q
         have S8:Stp X.fr (Own z) z z8:=S7.trans S78 fun _ w=>w.elim
         refine e9 (X:=cxC X N sc C) (w:=Own z) (z:=z) (z':=z8) ⟨P.F.fr,P.F.frame⟩ S8 I8 (xo.less fun _=>S7.no) fun L h' hL hn=>?_
         exact rG I Ir ⟨x1.en,x1.sg,owr⟩ ⟨fC.1.2.2.1,nLC,zC⟩ hL hn (p7.trans x8.st.pr) ((g3.trans g37).trans x8.st.gg) (q.trans (by rw [x1.en];rfl)) hE
        subst e8
        rw [show X.ev false elt z7.t=_ from q8] at q
        have q:o=(if acc.length<100000 then bZ (lcF X t one elt cond) (ds.drop (i+1)) (acc ++ [de]) ⟨z8.t.env,[],z8.t.st⟩ else .bad).back z1.t.env:=q
        by_cases ca:acc.length<100000
        ·rw [ZZ ca] at q
         obtain ⟨ow8,S78⟩:=x8.nil ow7
         rw [oG ow8] at q
         have S8:Stp X.fr (Own z) z z8:=S7.trans S78 fun _ w=>w.elim
         obtain ⟨nD8,hD8⟩:=nD7.go x8.go hD7
         have f8:=f7.go x8.go
         have st8:St (i+1) z8.s.heap:=T.keep _ _ _ st7 (f7.keep x8.go I7 I8)
         obtain ⟨⟨n,rfl⟩,hz⟩:=lo3
         have ra8:=ra3.mono ((eρ ▸ ξ _:z3.ρ <+: z6.ρ).trans (x7.st.pr.trans x8.st.pr)) (g37.trans x8.st.gg)
         have hl:vs.length<100000:=by rw [← ra8.len];exact ca
         refine ε (Dx ê ⟨_,hD8,rfl⟩ İ (Ĭ _ _) (CY D vs.toArray n v (by rw [Μ];exact ú (ä hl (big (Ω _))))) ⟨hD8,?_⟩)
         obtain ⟨⟨o1,u1,u3⟩,u2⟩:=eY (f:=(·.push v)) (ws:=vs ++ [v]) hD8 (by simp) (by rw [ω];exact big (by simp;omega))
         have k9:∀ b o,b ∉ [D]→z8.h b=some o→(z8.s.heap.update D (í (·.push v))).get? b=some o:=fun b o m e=>(u2 b fun w=>m (by rw [w];exact η.mpr rfl)).trans e
         obtain ⟨I9,S9,g9,_⟩:=Rep.turn (X:=cxC X N sc C) (s':={ z8.s with heap:=z8.s.heap.update D (í (·.push v)) }) S8 I8 (fun b hb=>by rw [η.mp hb];exact ⟨nD8,_,hD8⟩) k9 ⟨rfl,rfl⟩
         refine θ (θ ⟨rfl,ds.length - (i+1),by omega,i+1,_,acc ++ [de],vs ++ [v],o1,rfl,rfl,hil,S9,I9,ow8,T.keep _ _ _ st8 fun b hb o e=>k9 b o (fun m=>(fpn b hb).1 (η.mp m)) e,f8.up I8 g9 k9 fun b m hb=>ZX (η.mp m) (fpn b hb).1,p7.trans x8.st.pr,((g3.trans g37).trans x8.st.gg).trans g9,⟨nD8.1,⟨?_,nD8.2.1.2⟩,nD8.2.2⟩,u1,u3,(ra8.mono (ξ _) g9).app (.cons (r8.rd.mono (ξ _) g9) rfl),q⟩)
         show (match z8.h D with | none=>_ | some _=>z8.G D)=none
         rw [hD8];exact nD8.2.1.1
        ·rw [ZY ca] at q;exact ZX q nb
 rw [← s2e]
 exact codeAny_compStart_list loop (T.self (I1.hd P.hc) st2 loop)
theorem rO {ee tg iter:Λ} {ifs:List Λ} {t:List Nat} {one:Bool} {it elt cond:E} {pos:Ϫ} (P:LcP X N ee tg iter ifs sc t one it elt cond):LF X (.ListComp ee [⟨tg,iter,ifs,0⟩] sc pos) (.lc t one it elt cond):=fun z I nb=>by
 rw [eval_ListComp]
 refine rH P I rfl nb (fun _ _ h=>h) fun zf d D C m x If e fv nC exC hn CD=>⟨m,hn,fun h' sb=>?_⟩
 have k:∀ b o,b ∉ [C]→zf.h b=some o→h'.get? b=some o:=fun b o m e=>(sb.2 b fun w=>m (by rw [w];exact η.mpr rfl)).trans e
 obtain ⟨I4,S4,g4,_⟩:=Rep.turn (s':={ zf.s with heap:=h' }) x.st If (fun b hb=>by rw [η.mp hb];exact ⟨nC,exC⟩) k ⟨rfl,rfl⟩
 obtain ⟨a,ob,ea,n,t1,r,f,no⟩:=fv
 have ea:a=D:=(ĕ ea).symm
 subst ea
 obtain ⟨oa,ha⟩:=r.th.1
 refine ⟨zf.up { zf.s with heap:=h' },d,rfl,e,⟨S4,x.sg,x.en,x.ow⟩,I4,a,ob,rfl,n,t1,r.mono (ξ _) g4 fun b hb o e=>k b o (fun m=>?_) e,⟨?_,f.2⟩,no⟩
 ·have:b=a:=by rcases hb with w | w <;> exact w
  exact CD ((η.mp m).symm.trans this)
 ·show (match zf.h a with | none=>h'.get? a | some _=>zf.G a)=none
  rw [ha];exact f.1
theorem AP {ee tg iter:Λ} {ifs:List Λ} {t:List Nat} {one:Bool} {it elt cond:E} {pos:Ϫ} (P:LcP X N ee tg iter ifs sc t one it elt cond):LE X (.ListComp ee [⟨tg,iter,ifs,0⟩] sc pos) (.lc t one it elt cond):=(rO P).le fun _=>rfl
theorem rX {ee tg iter:Λ} {ifs:List Λ} {t:List Nat} {one:Bool} {it elt cond:E} {pos pos' spos:Ϫ} {i:Nat} {x:μ} (hN:X.N.Nodup) (hi:X.N[i]? = some x) (hx:Loc X.env.scope x) (P:LcP X N ee tg iter ifs sc t one it elt cond):LS X (.Assign [.Name x pos'] (.ListComp ee [⟨tg,iter,ifs,0⟩] sc pos) spos) (.set i (.lc t one it elt cond)):=fun z I nb=>by
 obtain ⟨b,sw⟩:∃ b,D3 (.ListComp ee [⟨tg,iter,ifs,0⟩] sc pos) (some (.Name x pos')) spos.line X.env=pure b:=⟨_,rfl⟩
 cases b with
 | false=>exact mw hN hi hx (AP P) (fun _=>rO P) sw z I nb
 | true=>
   have nb1:X.ev false (.lc t one it elt cond) z.t≠.bad:=fun q=>nb (show Out.go (X.ev false (.lc t one it elt cond) z.t) _=_ by rw [q];rfl)
   rw [exec_Assign_Name_used _ _ _ _ sw]
   refine ε (Ò (ε ?_))
   show χ _ X.A (do let _ ← comprehension (.ListComp ee [⟨tg,iter,ifs,0⟩] sc pos) sc X.env _ (newList []) false (eval iter X.env) (some (assign (.Name x pos') X.env))) _ _ z.s
   refine ε (thn (rH (use:=some (assign (.Name x pos') X.env)) (Q:=fun _ s'=>Ps X z (X.ex (.set i (.lc t one it elt cond)) z.t) .next s') P I rfl nb1 (fun u s' h=>PxS.of .refl h) fun zf d D C m x0 If e fv nC exC hn CD=>?_) fun _ s' hq=>θ (θ hq))
   show χ _ X.A (assign (.Name x pos') X.env (.ref D)) _ _ _
   refine DH (cz (own:=true) x0.go If hN hi hx fv fun s' a sb la I' g'=>?_)
   have Ca:C≠a:=fun w=>nC.2.1.2.2.2 (w ▸ la.1)
   refine ⟨m,hn.sameBut sb Ca,fun h' sb'=>?_⟩
   have k:∀ b o,b ∉ [C]→s'.heap.get? b=some o→h'.get? b=some o:=fun b o m e=>(sb'.2 b fun w=>m (by rw [w];exact η.mpr rfl)).trans e
   obtain ⟨oC,eC⟩:=exC
   obtain ⟨I4,S4,g4,_⟩:=Rep.turn (z:={ zf with t:=stV zf.t i d true,σ:=zf.σ.set i (some (.ref D)),s:=s' }) (s':={ s' with heap:=h' }) g'.st I' (fun b hb=>by
    rw [η.mp hb]
    refine ⟨⟨nC.1,nC.2.1,fun ⟨j,mj,ej⟩=>?_⟩,oC,(sb.2 C Ca).trans eC⟩
    by_cases q:j=i
    ·subst q
     have hl:j<zf.σ.length:=by rw [If.sl];exact (ς.mp hi).1
     have ej:(zf.σ.set j (some (.ref D)))[j]? = some (some (.ref C)):=ej
     rw [ϧ hl] at ej
     cases ej;exact CD rfl
    ·have ej:(zf.σ.set i (some (.ref D)))[j]? = some (some (.ref C)):=ej
     rw [Φ (ϥ q)] at ej
     have mj:j∈i :: zf.t.ow.filter (· != i):=mj
     rcases π.mp mj with w | w
     ·exact q w
     ·exact nC.2.2 ⟨j,(ϔ.mp w).1,ej⟩) k ⟨rfl,rfl⟩
   refine nxt (z1:=Z.up { zf with t:=stV zf.t i d true,σ:=zf.σ.set i (some (.ref D)),s:=s' } { s' with heap:=h' }) ⟨S4,g'.ow⟩ I4 ?_
   show Out.go (X.ev false (.lc t one it elt cond) z.t) _=_
   rw [e]
   show am.nx (mJ zf.t i d true)=_
   have ld:xB d=true:=by
    obtain ⟨_,_,_,_,t,_⟩:=fv
    cases d <;> first | rfl | cases t
   unfold mJ
   rw [ld];rfl
end
theorem qU {kp:List Nat} {env:List (Option D)} {i:Nat} {d:D}:(qT kp env)[i]? = some (some d)↔i ∉ kp∧env[i]? = some (some d):=by
 unfold qT
 rw [List.getElem?_mapIdx]
 by_cases c:i∈kp
 ·simp [c]
 ·simp [c]
theorem jH {kp:List Nat} {s:Sta} {i:Nat}:i∈(hid kp s).ow↔i∈s.ow∧i ∉ kp:=by
 unfold hid
 simp
section
variable {X:Cx} {z z':Z} {kp:List Nat}
theorem Rep.hid (I:Rep X z):Rep X { z with t:=L2.Ev.hid kp z.t }:=by
 refine ⟨⟨I.md,I.fm,I.hd,I.bs,I.gh,I.rl,I.rn,I.rg,I.ob,I.fu,I.ff,I.br,I.os,I.tk⟩,I.ok,I.lo,I.ce,I.fl,?_,I.sl,fun i d n e=>?_,fun i m=>?_,fun i j a m1 m2 e1 e2=>I.od i j a (jH.mp m1).1 (jH.mp m2).1 e1 e2⟩
 ·show (qT kp z.t.env).length=_
  unfold qT
  rw [List.length_mapIdx];exact I.el
 ·obtain ⟨h1,h2⟩:=qU.mp e
  exact I.en i d (fun m=>n (jH.mpr ⟨m,h1⟩)) h2
 ·obtain ⟨m1,m2⟩:=jH.mp m
  obtain ⟨d,a,o,h1,h2,h3,h4,h5⟩:=I.eo i m1
  exact ⟨d,a,o,qU.mpr ⟨m2,h1⟩,h2,h3,h4,h5⟩
end
section
variable {X:Cx} {z z0:Z}
theorem Rep.give {a:Α} {o:O} (I:Rep X z) (f:Fre X z a) (no:¬ Own z a) (r:ObR X.W z.ρ z.G z.h (a,a) o):Rep X { z with ρ:=z.ρ ++ [(a,a)],t:=⟨z.t.env,z.t.ow,z.t.st ++ [o]⟩ }:=by
 have pre:z.ρ <+: z.ρ ++ [(a,a)]:=ß _ _
 have eqa:∀ {b:Α},(b=((a,a):Α×Α).1∨b=((a,a):Α×Α).2)→b=a:=fun h=>h.elim id id
 have old:∀ {i:Nat} {q:Α×Α} {b:Α},z.ρ[i]? = some q→(b=q.1∨b=q.2)→b≠a:=fun h1 h2 e=>f.2.1 ⟨_,ο h1,e ▸ h2⟩
 have nm:∀ {b:Α},b≠a→¬ Mu z.ρ b→¬ Mu (z.ρ ++ [(a,a)]) b:=fun n m w=>(fj.mp w).elim m fun w=>n (eqa w)
 refine ⟨⟨I.md,I.fm,I.hd,I.bs,I.gh,by simp [I.rl],fun i j q1 q2 b h1 h2 h3 h4=>?_,fun b m=>?_,fun n o' q h1 h2=>?_,I.fu,fun b m=>⟨(I.ff b m).1,nm (fun w=>f.2.2.1 (w ▸ m)) (I.ff b m).2⟩,I.br,I.os,I.tk⟩,I.ok,I.lo,I.ce,fun b l=>⟨(I.fl b l).1,nm (fun w=>f.2.2.2 (w ▸ l)) (I.fl b l).2⟩,I.el,I.sl,fun i d n e=>let ⟨u,q,r⟩:=I.en i d n e;⟨u,q,r.mono pre (.refl _)⟩,fun i m=>?_,I.od⟩
 ·rcases aY h1 with a1 | ⟨a1,b1⟩
  ·rcases aY h2 with a2 | ⟨a2,b2⟩
   ·exact I.rn i j q1 q2 b a1 a2 h3 h4
   ·subst b2;exact ZX (eqa h4) (old a1 h3)
  ·subst b1
   rcases aY h2 with a2 | ⟨a2,b2⟩
   ·exact ZX (eqa h3) (old a2 h4)
   ·rw [a1,a2]
 ·rcases fj.mp m with m | m
  ·exact I.rg b m
  ·rw [eqa m];exact f.1
 ·rcases aY h2 with a2 | ⟨a2,b2⟩
  ·rcases aY h1 with a1 | ⟨a1,_⟩
   ·exact (I.ob n o' q a1 a2).mono pre (.refl _) fun _ _ _ e=>e
   ·have:=(ς.mp a2).1;rw [I.rl] at this;omega
  ·subst b2
   rcases aY h1 with a1 | ⟨_,b1⟩
   ·have:=(ς.mp a1).1;rw [← I.rl] at this;omega
   ·subst b1;exact r.mono pre (.refl _) fun _ _ _ e=>e
 ·obtain ⟨d,b,o,h1,h2,h3,r,g⟩:=I.eo i m
  exact ⟨d,b,o,h1,h2,h3,r.mono pre (.refl _) fun _ _ _ e=>e,g.1,nm (fun w=>no ⟨i,m,w ▸ h2⟩) g.2.1,g.2.2⟩
end
mutual
theorem RD.flT {G2:Hp} (h:∀ b o,G b=some o→o.cls = .type "tuple"→G2 b=some o):∀ {d:D} {v},L2.Ev.flT d=true→RD W ρ G d v→RD W ρ2 G2 d v
 | .non,_,_,e=>e
 | .bl _,_,_,e=>e
 | .int _,_,_,e=>e
 | .str _,_,_,e=>e
 | .tup _,_,n,⟨a,o,vs,e,t,q,r⟩=>⟨a,o,vs,e,h _ _ t q.1,q,RDs.flT h n r⟩
 | .lst _,_,n,_=>nomatch n
 | .dic _ _,_,n,_=>nomatch n
 | .ins _ _,_,n,_=>nomatch n
 | .ref _,_,n,_=>nomatch n
theorem RDs.flT {G2:Hp} (h:∀ b o,G b=some o→o.cls = .type "tuple"→G2 b=some o):∀ {ds:List D} {vs},L2.Ev.flTs ds=true→RDs W ρ G ds vs→RDs W ρ2 G2 ds vs
 | [],_,_,e=>e
 | _ :: _,_,n,⟨v,r,e,t,q⟩=>by
   have n:(L2.Ev.flT _ && L2.Ev.flTs _)=true:=n
   rw [Χ] at n
   exact ⟨v,r,e,RD.flT h n.1 t,RDs.flT h n.2 q⟩
end
section
variable {X:Cx} {z z0:Z}
theorem tK {env:List (Option D)} {i:Nat} {d:D} (h:(cP env)[i]? = some (some d)):env[i]? = some (some d)∧noR d=true:=by
 unfold cP at h
 rw [Ψ] at h
 cases q:env[i]? with
 | none=>rw [q] at h;cases h
 | some o=>cases o with
   | none=>rw [q] at h;cases h
   | some e=>
     rw [q] at h
     have h:some ((some e).bind fun d=>if noR d then some d else none)=some (some d):=h
     have h:=Ϥ h
     have h:(if noR e then some e else none)=some d:=h
     split at h
     ·cases h;exact ⟨rfl,by assumption⟩
     ·cases h
def Z.snap (z:Z) (a:Α) (i:Nat) (l:List D):Z:=⟨[],fun b=>if b=a then z.h a else z.G b,⟨(cP z.t.env).set i (some (.lst l)),[],[]⟩,z.σ,z.s⟩
theorem Rep.snap {a b:Α} {i n:Nat} {l:List D} (I:Rep X z) (o0:z.t.ow = []) (ei:z.t.env[i]? = some (some (.ref n))) (ep:z.ρ[n]? = some (a,b)) (es:z.t.st[n]? = some (.lst l)) (nl:aS l=true):Rep X (z.snap a i l):=by
 have mu:Mu z.ρ a:=⟨_,ο ep,.inl rfl⟩
 obtain ⟨o,vs,hp2,ho,lo,rl⟩:=I.ob n _ _ es ep
 have ga:z.G a=none:=I.rg a mu
 have sb:Sub z.G (z.snap a i l).G:=fun c o e=>by
  show (if c=a then z.h a else z.G c)=_
  rw [ZY fun w=>by rw [w,ga] at e;cases e];exact e
 have nn:∀ {c},c≠a→z.G c=none→(z.snap a i l).G c=none:=fun n e=>by show (if _=a then z.h a else z.G _)=_;rw [ZY n];exact e
 refine ⟨⟨I.md,I.fm,I.hd,fun c o e=>sb c o (I.bs c o e),fun c o e=>?_,rfl,fun _ _ _ _ _ h=>by simp [Z.snap] at h,fun _ m=>(dZ m).elim,fun _ _ _ h=>by simp [Z.snap] at h,I.fu,fun c m=>⟨nn (fun w=>(I.ff c m).2 (w ▸ mu)) (I.ff c m).1,dZ⟩,I.br,I.os,I.tk⟩,I.ok,I.lo,I.ce,fun c m=>⟨nn (fun w=>(I.fl c m).2 (w ▸ mu)) (I.fl c m).1,dZ⟩,?_,I.sl,fun j d _ e=>?_,(fun j m=>nomatch m),(fun j k c m=>nomatch m)⟩
 ·have e:(if c=a then z.h a else z.G c)=some o:=e
  by_cases q:c=a
  ·rw [ZZ q] at e;rw [q];exact e
  ·rw [ZY q] at e;exact I.gh c o e
 ·show ((cP z.t.env).set i _).length=z.σ.length
  rw [Ϸ];unfold cP;rw [Θ];exact I.el
 ·have e:((cP z.t.env).set i (some (.lst l)))[j]? = some (some d):=e
  by_cases q:j=i
  ·subst q
   have hl:j<(cP z.t.env).length:=by unfold cP;rw [Θ];exact (ς.mp ei).1
   rw [ϧ hl] at e
   cases e
   obtain ⟨u,hu,ru⟩:=I.en j _ (by rw [o0];exact nofun) ei
   obtain ⟨p,e2,rfl⟩:=(ru:RD X.W z.ρ z.G (.ref n) u)
   rw [ep] at e2;cases e2
   exact ⟨_,hu,a,o,vs,rfl,by show (if a=a then z.h a else z.G a)=_;rw [ZZ rfl];exact ho,lo,cJ nl (rl.mono (ξ _) sb)⟩
  ·rw [Φ (ϥ q)] at e
   obtain ⟨e1,n1⟩:=tK e
   obtain ⟨u,hu,ru⟩:=I.en j d (by rw [o0];exact nofun) e1
   exact ⟨u,hu,mH n1 (ru.mono (ξ _) sb)⟩
end
def cxF (X:Cx) (cal cal1:Nat→List D→List O→Res) (N:List μ) (qual:μ) (scope:ē) (f:Α) (cd:ζ) (A:Ϗ) (fr:List CL) (L:Α):Cx:=
 { X with A:=A.deeper (Ÿ qual scope L f cd),fr:=Ÿ qual scope L f cd :: fr,N:=N,env:=Ÿ qual scope L f cd,cal:=cal,cal1:=cal1 }
section
variable {X:Cx} {cal cal1:Nat→List D→List O→Res} {N ps:List μ} {qual:μ} {scope:ē} {f:Α} {cd:ζ} {A:Ϗ} {fr:List CL} {z z':Z} {k:Nat}
theorem pQ {α β:Type} {ds:List α} {n i:Nat} {d:α} (h:(ds.map some ++ Ε n none)[i]? = some (some d)):ds[i]? = some d:=by
 by_cases hi:i<ds.length
 ·rw [ό (by simpa using hi),Ψ] at h
  cases e:ds[i]? with
  | none=>rw [e] at h;cases h
  | some a=>rw [e] at h;cases h;rfl
 ·rw [Ν (by simpa using hi),ï] at h
  split at h <;> cases h
theorem eU {α:Type} {ds:List α} {n i:Nat} {d:α} (h:ds[i]? = some d):(ds.map some ++ Ε n none)[i]? = some (some d):=by
 have hi:=(ς.mp h).1
 rw [ό (by simpa using hi),Ψ,h];rfl
theorem mL {es:List (Option D)} {n i:Nat} {d:D} (h:(es ++ Ε n none)[i]? = some (some d)):es[i]? = some (some d):=by
 by_cases hi:i<es.length
 ·rwa [ό hi] at h
 ·rw [Ν (by omega),ï] at h
  split at h <;> cases h
theorem jp {s1:ν} {es:List (Option D)} {us:List ζ} (S:dH N ps scope) (I:HR { X with A:=A,fr:=fr } z) (hr:bq (k+1) A) (hl:us.length=ps.length) (le:es.length=us.length) (r:∀ (i:Nat) (d:D),es[i]? = some (some d)→∃ v,us[i]? = some v∧RD X.W z.ρ z.G d v)
 (x:InCallC z.s z.s.heap.objs.size (EU (Ÿ qual scope z.s.heap.objs.size f cd).kindOf (ps.zip us) fun _=>none) (ET (z.s.heap.objs.size+1) scope.names []) (EV (Ÿ qual scope z.s.heap.objs.size f cd).kindOf (ps.zip us) fun _=>none) s1) (tk1:X.tz≤s1.toks) :
 Rep (cxF X cal cal1 N qual scope f cd A fr z.s.heap.objs.size) ⟨z.ρ,z.G,⟨es ++ Ε (N.length - ps.length) none,[],z.t.st⟩,us.map some ++ Ε (N.length - ps.length) none,s1⟩:=by
 have hpl:ps.length≤N.length:=by have:=ZS EC S.pre;rw [Dm] at this;omega
 obtain ⟨h1,tk,rfl,hk⟩:=x.done
 have aM:∀ {c:Α},z.s.heap.objs.size≤c→z.G c=none∧¬ Mu z.ρ c:=fun {c} h=>by
  have n:z.h c=none:=ϖ h
  refine ⟨?_,fun m=>by obtain ⟨o,e⟩:=I.th m;rw [n] at e;cases e⟩
  cases q:z.G c with
  | none=>rfl
  | some o=>have:=I.gh c o q;rw [n] at this;cases this
 have lcf:∀ {a},Lc (cxF X cal cal1 N qual scope f cd A fr z.s.heap.objs.size) a→z.s.heap.objs.size≤a:=fun h=>by
  rcases h with rfl | ⟨y,e⟩
  ·exact Ω _
  ·exact ú (x.above y _ (Ä e))
 have bn:X.base.get? z.s.heap.objs.size=none:=by
  cases q:X.base.get? z.s.heap.objs.size with
  | none=>rfl
  | some o=>have:=I.gh _ o (I.bs _ o q);rw [show z.h z.s.heap.objs.size=none from ϖ (Ω _)] at this;cases this
 obtain ⟨oL,esL,epL,hoL,hdL,_⟩:=id x.toInCall.ns
 have gr:Gr z.s { z.s with heap:=h1,toks:=tk }:=.hp hk
 have G:=I.grow (aw I.gh gr) tk1
 refine ⟨⟨I.md,Around.frames_deeper I.fm,I.hd,I.bs,G.gh,I.rl,I.rn,I.rg,G.ob,?_,fun b hb=>?_,I.br,I.os,tk1⟩,⟨by have:=(hr.deeper (Ÿ qual scope z.s.heap.objs.size f cd)).un;show (A.deeper _).units+200<_;omega,S.kind,rfl,rfl,fun y w c e1 e2=>name_of_addr x.apart (Ä e1) (Ä e2),fun y hy=>?_⟩,⟨_,x.toInCall.ns,fun i y v e1 e2 e3=>?_⟩,fun y c h=>⟨_,x.cell y c h⟩,fun a l=>aM (lcf l),by show (es ++ _).length=(us.map some ++ _).length;simp [le],by show (us.map some ++ _).length=N.length;rw [ω,Θ,å];omega,fun i d _ e=>?_,(fun i m=>nomatch m),(fun i j a m=>nomatch m)⟩
 ·have kd:(Ÿ qual scope z.s.heap.objs.size f cd).scope.kind≠ScopeKind.module:=by show scope.kind≠_;rw [S.kind];decide
  exact ⟨kd,⟨_,oL,rfl,bn,hoL,fun vs e=>by rw [hdL] at e;cases e⟩,G.fu⟩
 ·rcases π.mp (show b∈z.s.heap.objs.size :: frs fr from hb) with q | q
  ·rw [q];exact aM (Ω _)
  ·exact I.ff b q
 ·have hy:scope.names.lookup y=some .cell∨scope.names.lookup y=some .free:=hy
  rcases hy with hy | hy
  ·exact kA hy
  ·exact ZX rfl (S.nofree _ (Ä hy))
 ·have hu:us[i]? = some v:=pQ (β:=Unit) e2
  have hi:i<ps.length:=by rw [← hl];exact (ς.mp hu).1
  have hp:ps[i]? = some y:=by
   rw [← S.pre,List.getElem?_take_of_lt (by omega)];exact e1
  have ndP:ps.Nodup:=by rw [← S.pre];exact S.nd.sublist (Fk _ _)
  rcases S.par y (ο hp) with k | k
  ·exact .inl ⟨k,iV ndP hp hu k⟩
  ·obtain ⟨c,e⟩:=kA (n:=z.s.heap.objs.size+1) k
   refine .inr ⟨.inl k,c,e,?_⟩
   have q:=x.cell y c e
   rw [iT ndP hp hu (by show scope.names.lookup y≠_;rw [k];decide)] at q
   exact q
 ·obtain ⟨v,e1,r1⟩:=r i d (mL e)
  exact ⟨v,eU e1,r1⟩
theorem Ar {name:μ} {params:E6} {body:List Ë} {dV kV doc pm ct oc:ζ} {an od:Option Α} {osl:Array (Option ζ)} {j:Nat} {c:S} (lk:X.K.lookup f=some ⟨oc,od,.func (ϰ name qual params body scope dV kV doc pm an cd ct),osl⟩) (hcd:Ì X.K cd qual=true) (S:dH N ps scope) {df:List D} {dvs:List ζ} (hj:X.Γ.fn[j]? = some ⟨ps.length,N.length,c,df⟩) (hdv:∀ ρ G,RDs X.W ρ G df dvs)
 (hb:∀ A fr L,bq k (A.deeper (Ÿ qual scope L f cd))→LSs (cxF X cal cal1 N qual scope f cd A fr L) body c):FnC X (lj X.Γ cal cal1) (k+1) j f (ϰ name qual params body scope dV kV doc pm an cd ct) ps dvs:=by
 have run:∀ ds st,lj X.Γ cal cal1 j ds st=if (ds ++ df).length=ps.length then (match exS X.Γ cal cal1 c ⟨(ds ++ df).map some ++ Ε (N.length - ps.length) none,[],st⟩ with
  | .nx s=>.ok .non s.st
  | .rt d s=>.ok d s.st
  | .exc c l s=>.exc c l s.st
  | .bad=>.bad) else .bad:=fun ds st=>by unfold lj;rw [hj];all_goals rfl
 refine ⟨fun ds st nb=>?_,fun A fr z args us ds hr I hbd r nb=>?_⟩
 ·by_cases q:(ds ++ df).length=ps.length
  ·rw [← (hdv [] fun _=>none).len,← ω];exact q
  ·rw [run,ZY q] at nb;exact ZX rfl nb
 by_cases hl:(ds ++ df).length=ps.length
 rotate_left
 ·rw [run,ZY hl] at nb;exact ZX rfl nb
 rw [run,ZZ hl] at nb ⊢
 have r:=r.app (hdv z.ρ z.G)
 generalize ds ++ df=ds at r hl nb ⊢
 generalize us ++ dvs=us at r hbd
 have KX:X.K.In z.s.heap:=I.kin
 have lim:z.s.heap.NoLimit:=I.md.nolimit.keeps (Rep.bk I)
 have hkind:∀ y∈ps.zip us,scope.names.lookup y.1=some .local∨(scope.names.lookup y.1=some .cell∧((ET (z.s.heap.objs.size+1) scope.names []).lookup y.1).isSome=true):=fun ⟨n,v⟩ hy=>by
  rcases S.par n (ħ hy).1 with q | q
  ·exact .inl q
  ·exact .inr ⟨q,ŋ _ _ _ (.inl q)⟩
 refine Fv hr.depth (KX _ _ lk) rfl S.co S.gen rfl (Ez KX hcd) (hbd _ _ _ _ ?_)
 refine bW I.tk (Et S.kind hkind fun env he s1 x tk1=>?_)
 subst he
 refine ⟨lim.keeps x.toInCall.keep,codeAny_func ?_⟩
 have J:=jp (es:=ds.map some) (cal:=cal) (cal1:=cal1) S I hr (r.len ▸ hl) (by rw [Θ];exact r.len) (fun i d e=>r.get (by rw [Ψ,φ] at e;obtain ⟨_,e1,e2⟩:=e;cases e2;exact e1)) x tk1
 have hk:∀ b o,z.h b=some o→s1.heap.get? b=some o:=x.toInCall.keep
 have F:ki (cxF X cal cal1 N qual scope f cd A fr z.s.heap.objs.size):=⟨⟨_,fr,rfl,rfl⟩,⟨_,rfl⟩⟩
 have lcf:∀ {a o},z.h a=some o→¬ Lc (cxF X cal cal1 N qual scope f cd A fr z.s.heap.objs.size) a:=fun {a o} e h=>by
  have:z.s.heap.objs.size≤a:=by
   rcases h with rfl | ⟨y,e⟩
   ·exact Ω _
   ·exact ú (x.above y _ (Ä e))
  exact ZX (Ξ e) (CZ.mpr this)
 have nofr:∀ {a o},z.h a=some o→a ∉ frs fr→a ∉ frs (Ÿ qual scope z.s.heap.objs.size f cd :: fr):=fun {a o} e n m=>by
  rcases π.mp (show a∈z.s.heap.objs.size :: frs fr from m) with q | q
  ·exact ZX (Ξ e) (by rw [q];exact Ď _)
  ·exact n q
 have none1:∀ {a},s1.heap.get? a=none→z.h a=none:=fun {a} n=>by
  cases q:z.h a with
  | none=>rfl
  | some o=>rw [hk a o q] at n;cases n
 have back:∀ {z'},Stp (Ÿ qual scope z.s.heap.objs.size f cd :: fr) (Pv (cxF X cal cal1 N qual scope f cd A fr z.s.heap.objs.size) ⟨z.ρ,z.G,⟨ds.map some ++ Ε (N.length - ps.length) none,[],z.t.st⟩,us.map some ++ Ε (N.length - ps.length) none,s1⟩) ⟨z.ρ,z.G,⟨ds.map some ++ Ε (N.length - ps.length) none,[],z.t.st⟩,us.map some ++ Ε (N.length - ps.length) none,s1⟩ z'→Rep (cxF X cal cal1 N qual scope f cd A fr z.s.heap.objs.size) z'→Stp fr NoW z z'∧HR { X with A:=A,fr:=fr } z':=fun {z'} y K=>by
  have nw:∀ {a o},z.h a=some o→¬ Pv (cxF X cal cal1 N qual scope f cd A fr z.s.heap.objs.size) ⟨z.ρ,z.G,⟨ds.map some ++ Ε (N.length - ps.length) none,[],z.t.st⟩,us.map some ++ Ε (N.length - ps.length) none,s1⟩ a:=fun e w=>w.elim (fun ⟨i,m,_⟩=>nomatch m) (lcf e)
  refine ⟨⟨y.pr,y.gg,fun a o e=>?_,fun a m=>(y.rn a m).imp_right none1,fun a o e=>y.th a o (hk a o e),fun a o e n _ m=>y.sm a o (hk a o e) n (nw e) (nofr e m),fun a o e n _ m=>y.sl a o (hk a o e) n (nw e) (ι _ m)⟩,⟨K.md,I.fm,I.hd,K.bs,K.gh,K.rl,K.rn,K.rg,K.ob,K.fu.2.2,fun b m=>K.ff b (ι _ m),K.br,K.os,K.tk⟩⟩
  rcases y.gn a o e with q | q | q
  ·exact .inl q
  ·exact .inr (.inl (none1 q))
  ·rcases q with ⟨i,m,_⟩ | l
   ·exact nomatch m
   ·rw [(K.fl a l).1] at e;cases e
 have nb2:(cxF X cal cal1 N qual scope f cd A fr z.s.heap.objs.size).ex c ⟨ds.map some ++ Ε (N.length - ps.length) none,[],z.t.st⟩≠.bad:=fun q=>nb (by rw [show exS X.Γ cal cal1 c ⟨ds.map some ++ Ε (N.length - ps.length) none,[],z.t.st⟩ = .bad from q])
 refine Κ (hb A fr z.s.heap.objs.size (hr.deeper _) _ J nb2) (fun fl s' hs=>?_) fun e s' hs=>pM (Q:=fun e s''=>CRs { X with A:=A,fr:=fr } z _ (.error e) s'') F hs fun z' c' l a T cls dx q e1 y K xr na t nT=>?_
 ·cases q:exS X.Γ cal cal1 c ⟨ds.map some ++ Ε (N.length - ps.length) none,[],z.t.st⟩ with
  | nx t=>
    rw [show (cxF X cal cal1 N qual scope f cd A fr z.s.heap.objs.size).ex c _ = .nx t from q] at hs
    obtain ⟨rfl,z',e1,e2,y,K⟩:=hs
    subst e1 e2
    obtain ⟨b1,b2⟩:=back y.st K
    exact ⟨z',.non,rfl,rfl,b1,b2,rfl⟩
  | rt d t=>
    rw [show (cxF X cal cal1 N qual scope f cd A fr z.s.heap.objs.size).ex c _ = .rt d t from q] at hs
    obtain ⟨u,z',rfl,e1,e2,y,K,rd⟩:=hs
    subst e1
    obtain ⟨b1,b2⟩:=back y.st K
    exact ⟨z',d,rfl,by rw [e2],b1,b2,rd⟩
  | exc c' l t=>rw [show (cxF X cal cal1 N qual scope f cd A fr z.s.heap.objs.size).ex c _ = .exc c' l t from q] at hs;exact hs.elim
  | bad=>exact ZX q nb2
 ·obtain ⟨b1,b2⟩:=back y K
  have q:exS X.Γ cal cal1 c ⟨ds.map some ++ Ε (N.length - ps.length) none,[],z.t.st⟩ = .exc c' l z'.t:=q
  rw [q]
  exact ⟨z',c',l,rfl,rfl,b1,b2,a,T,cls,dx,e1,xr,t,⟨none1 na.1,na.2.1.1,na.2.1.2.1⟩,none1 nT.1,nT.2.1.1,nT.2.1.2.1⟩
end
end L2.Ev
end
section
namespace L2.Ev
open PySem.W
section
variable {prog:ϴ} {w:Û} {A:Ϗ} {E:ζ→ν→Prop} {K:Frag} {C a:Α} {o:Ea} {od:Option Ea} {h:ϳ} {g:Array GenState} {d:Drawn} {t:Nat} {os:Fj}
theorem ql (Y:fe K C) (X:K.In h) (I:InstAt h a o C od) (hq:Q () ⟨h,g,d,t,os⟩):χ M A (ū "BaseException.__getattribute__" ⟨[.ref a,nameV],[]⟩) Q E ⟨h,g,d,t,os⟩:=by
 have k1:builtinKind "BaseException.__getattribute__" = some .slot:=by decide +kernel
 have k2:splitId "BaseException.__getattribute__" = some ("BaseException","__getattribute__"):=by decide +kernel
 have L:Looks M h (Dv (.ref a) (.type "BaseException")) true:=(I.type (M:=M)).andThen (looks_mroIn X Y.be)
 have ha:=F.args_bexc_ga (.ref a) nameV
 simp only [ū,k1,k2]
 refine ε (L.at ?_)
 repeat (any_goals (first | assumption | wp_step))
end
theorem xe {K:Frag} (e:(clsIn K C).isSome=true):∃ c' d' cd' sl',K.lookup C=some ⟨c',d',.cls cd',sl'⟩:=by
 unfold clsIn at e
 split at e
 ·rename_i q;exact ⟨_,_,_,_,q⟩
 ·cases e
structure pX (K:Frag) (B:Α):Prop where
 ty:typeIn K (.ref B)=some (.type "type")
 is:(clsIn K B).isSome=true
 be:mroIn K B (.type "BaseException")=some true
theorem ul {K:Frag} {M:Dj} (X:K.In h) (e:(clsIn K C).isSome=true):Looks M h (isType (.ref C)) true:=by
 obtain ⟨c',d',cd',sl',hk⟩:=xe e
 intro A' Q' E' s' k q
 unfold isType;unfold loadHead
 exact ε (Eu (k _ _ (X _ _ hk)) (θ q))
theorem gX {K:Frag} {M:Dj} {A:Ϗ} {E:ζ→ν→Prop} {s:ν} {a B C:Α} {o:Ea} {Q:Bool→ν→Prop} (X:K.In s.heap) (Y:pX K B) (he:s.heap.get? a=some o) (hc:o.cls = .ref C) {b:Bool} (hm:mroIn K C (.ref B)=some b) (hq:Q b s):χ M A (excMatches (.ref a) (.ref B)) Q E s:=by
 have L1:Looks M s.heap (Dv (.ref B) (.type "tuple")) false:=(looks_typeIn X Y.ty).andThen (Looks.of_pure tc_notTuple)
 have L2:=ul (M:=M) X Y.is
 have L3:=looks_mroIn (M:=M) X Y.be
 have L4:=looks_mroIn (M:=M) X hm
 obtain ⟨h,g,d,t,os⟩:=s
 unfold excMatches isExcClass
 refine ε (L1.at ?_)
 dsimp only
 rw [ZY Ϡ]
 refine ε (θ ?_)
 rw [Ĩ]
 refine ε (ε (ε (ε (L2.at ?_))))
 rw [ZZ rfl]
 refine L3.at ?_
 rw [ZY (show ¬ ((!true)=true) by decide)]
 refine θ ?_
 dsimp only
 rw [List.forIn_nil]
 refine θ ?_
 have T0:∀ {Q':ζ→ν→Prop},Q' (.ref C) ⟨h,g,d,t,os⟩→χ M A (typeOf (.ref a)) Q' E ⟨h,g,d,t,os⟩:=fun {Q'} q'=>by
  repeat (first | (with_reducible refine Ř he ?_;rw [hc]) | wp_step)
  exact q'
 refine ε (T0 ?_)
 rw [Ĩ]
 refine ε (ε (ε (L4.at ?_)))
 cases b with
 | true=>rw [ZZ rfl];exact θ (θ (θ hq))
 | false=>
   rw [ZY Ϡ]
   exact θ (θ (show χ M A (pure false) Q E _ from θ hq))
def hJ (bmB:List ζ):List ζ→Bool
 | []=>false
 | v :: r=>(v :: r) == bmB || match v with | .ref _=>hJ bmB r | _=>false
theorem dE (hp:G9 self "__setattr__" bmB=pure ()):∀ {l},hJ bmB l=true→G9 self "__setattr__" l=pure ()
 | [],e=>by cases e
 | v :: r,e=>by
   unfold hJ at e
   rcases ER.mp e with z | z
   ·rw [beq_iff_eq.mp z];exact hp
   ·split at z
    ·rw [refuseLoop_ref];exact dE hp z
    ·cases z
abbrev veB:List ζ:=[.type "ValueError",.type "Exception",.type "BaseException",.type "object"]
abbrev exB:List ζ:=[.type "Exception",.type "BaseException",.type "object"]
structure gx (K:Frag) (C:Α):Prop where
 sa:findIn K (.ref C) "__setattr__" = some (some (.builtin "object.__setattr__"))
 over:((clsIn K C).any fun cd=>hJ veB cd.mro || hJ exB cd.mro)=true
 hd:((clsIn K C).any fun cd=>cd.hasDict)=true
 ob:mroIn K C (.type "object")=some true
section
variable {prog:ϴ} {w:Û} {A:Ϗ} {E:ζ→ν→Prop} {s:ν} {K:Frag} {x C:Α} {o:Ea} {vs:Array ζ} {mA:μ→Option ζ} {name:μ} {v:ζ} {ns:List μ}
theorem i9 (hn:s.heap.Ns1 d mA) (hw:Within mA ns) (hz:ns.length<1000)
 (hq:∀ h',h'.Ns1 d (fun y=>if y=name then some v else mA y)→Ü d s.heap h'→Q (.done (.ret .none)) { s with heap:=h',toks:=s.toks+1 }):χ M A (Œ d (.str name tk) name v) Q E s:=by
 unfold Œ Fz
 refine ε (θ (ε (wpAny_nsSet1 hn fun h' n' sb=>?_)))
 obtain ⟨od,es,ep,e1,e2,e3⟩:=n'.count (Within.cons name v hw)
 have few:es.size≤ϟ:=ϫ e3 (by rw [Η,ċ];omega)
 refine ε (GL e1 (by rw [e2];exact GR (ϒ few)) ?_)
 exact θ (hq h' n' sb)
theorem pv (X:K.In s.heap) (Z:gx K C) (hf:findIn K (.ref C) name=some none) (hx:s.heap.get? x=some o) (hc:o.cls = .ref C) (hd:o.data = .fields vs)
 (hm:(o.dict=none∧∀ n,mA n=none)∨∃ d,o.dict=some d∧d≠x∧s.heap.Ns1 d mA) (hw:Within mA ns) (hz:ns.length<1000)
 (hq:∀ h' d t',h'.get? x=some { o with dict:=some d }→d≠x→h'.Ns1 d (fun y=>if y=name then some v else mA y)→(∀ b u,b≠x→b≠d→s.heap.get? b=some u→h'.get? b=some u) →
  (o.dict=some d∨(o.dict=none∧s.heap.get? d=none))→Q () { s with heap:=h',toks:=t' }):χ (model prog w) A (Ej (.ref x) name v) Q E s:=by
 obtain ⟨od,I⟩:∃ od,InstAt s.heap x o C od:=by
  rcases hm with ⟨z,_⟩ | ⟨d,z,_,od,_,_,e,_⟩
  ·exact ⟨none,hx,hc,by unfold notCls;rw [hd],by rw [z];trivial⟩
  ·exact ⟨some od,hx,hc,by unfold notCls;rw [hd],by rw [z];exact e⟩
 have SF:=PySem.F.store_ValueError
 obtain ⟨cd,hcd,hov⟩:=any_some Z.over
 obtain ⟨cd',hcd',hhd⟩:=any_some Z.hd
 rw [hcd] at hcd'
 cases hcd'
 refine set_plain X I Z.sa ?_
 obtain ⟨h,g,d,t,os⟩:=s
 have sub:Looks (model prog w) h (Dv (.ref x) (.type "object")) true:=I.type.andThen (looks_mroIn X Z.ob)
 refine î SF.slot.plain SF.entry (@check_slot (model prog w) _ _ ⟨h,g,d,t+1,os⟩ "object.__setattr__" "object" "__setattr__" (.ref x) [.str name t,v] [] _ SF.kind SF.split sub (SF.args (.ref x) (.str name t) v) ?_)
 have lm:Looks (model prog w) h (mroOf (.ref C)) cd.mro:=(looks_clsIn X hcd).andThen .now
 rw [osa_eq,refuse_eq]
 have l0:=I.type (M:=model prog w)
 have lf:=looks_findIn (M:=model prog w) X hf
 refine ε (ε (l0.at (ε (lm.at ?_))))
 rw [show G9 (.ref x) "__setattr__" cd.mro=pure () from (ER.mp hov).elim (dE (SF.passes _)) (dE (PySem.F.store_Exception.passes _))]
 refine θ (ε (l0.at (ε (lf.at ?_))))
 refine ε (θ ?_)
 refine ε (θ ?_)
 have lc:=looks_clsIn (M:=model prog w) X hcd
 obtain ⟨oc,odi,oda,osl⟩:=o
 dsimp only at hc hd hm hx
 subst hc hd
 refine ε (ε (Eu hx (ε (lc.at ?_))))
 rw [hhd]
 rcases hm with ⟨rfl,hmA⟩ | ⟨dx,rfl,hne,hns⟩
 ·obtain rfl:mA=fun _=>none:=funext hmA
  have hxs:x≠h.objs.size:=ϝ (Ξ hx)
  have hx1:=τ { cls:=.type "dict",data:=.dict #[] } hx
  refine ε (wpAny_alloc' (ε (wpAny_update' hx1 ?_)))
  have hg:((h.push { cls:=.type "dict",data:=.dict #[] }).update x fun o=>{ cls:=o.cls,dict:=some h.objs.size,data:=o.data,slots:=o.slots }).get? h.objs.size=some { cls:=.type "dict",data:=.dict #[] }:=
   (EN _ _ _ _ (ϥ hxs)).trans (Fo rfl rfl)
  have hn0:((h.push { cls:=.type "dict",data:=.dict #[] }).update x fun o=>{ cls:=o.cls,dict:=some h.objs.size,data:=o.data,slots:=o.slots }).Ns h.objs.size (fun _=>none):=
   ⟨_,#[],_,hg,rfl,fun e he=>ZX he (by simp),fun _=>rfl⟩
  refine θ (a:=some h.objs.size) ?_
  refine i9 (Heap.Ns1.of_empty hn0) Within.nil (by decide) fun h' n' sb=>?_
  refine hq h' h.objs.size _ ?_ (ϥ hxs) n' (fun b u h1 h2 e=>?_) (.inr ⟨rfl,ϖ (Ω _)⟩)
  ·refine (sb.2 x hxs).trans (ϣ _ hx1 rfl)
  ·exact (sb.2 b h2).trans ((EN _ _ _ _ h1).trans (τ _ e))
 ·refine θ (a:=some dx) ?_
  refine i9 hns hw hz fun h' n' sb=>?_
  exact hq h' dx _ ((sb.2 x (ϥ hne)).trans hx) hne n' (fun b u _ h2 e=>(sb.2 b h2).trans e) (.inl rfl)
theorem qC (Y:fe K C) (hh:hasDictIn K C=true) (X:K.In s.heap) (hf:findIn K (.ref C) name=some none) (hx:s.heap.get? x=some o) (hc:o.cls = .ref C) (hd:o.data = .fields vs) (hdi:o.dict=some d) (hn:s.heap.Ns1 d mA) (hv:mA name=some v) (hv':handedIn v=true)
 (hq:Q v { s with toks:=s.toks+1 }):χ (model prog w) A (DK (.ref x) name expr) Q E s:=by
 obtain ⟨od,ho,hl⟩:=jf hn
 have I:InstAt s.heap x o C (some od):=⟨hx,hc,by unfold notCls;rw [hd],by rw [hdi];exact ho⟩
 have fo:findObj K C (some od) name=some (.value v):=findObj_own hh hf rfl (by rw [hl,hv])
 obtain ⟨h,g,dr,t,os⟩:=s
 have l0:=I.type (M:=model prog w)
 have l1:=looks_findIn (M:=model prog w) X Y.ga
 have l2:=looks_findIn (M:=model prog w) X Y.gn
 have l3:=looks_find (M:=model prog w) X I fo
 have G:=PySem.F.attrBase_ValueError.ga
 have b1:=G.bind (.ref x)
 unfold DK getAttrBy
 refine ε (wpAny_mkText (Τ (ε (l0.at (ε (l1.at ?_))))))
 show χ _ _ (Ha _ _ _ _ _ _) _ _ _
 unfold Ha
 refine ε (l2.at (ε (Di (Τ ?_))))
 unfold callGetattribute
 rw [show (expr && onTheHeap (FP "BaseException.__getattribute__"))=false from DU _,ZY Ϡ]
 unfold boundAndCalled
 rw [b1]
 refine ε (θ ?_)
 refine Ċ (î G.plain F.entry_bexc_ga (ql Y X I ?_))
 refine ε (θ (ε (θ (ε (l0.at (ε (l3.at ?_)))))))
 exact θ (handed_on hv' hq)
end
structure iA (K:Frag) (C fI:Α) (bmB:List ζ) (newId:String):Prop where
 at_:∃ (nm q:μ) (N:Α) (bs bm:List ζ) (hdct:Bool) (sn:List μ) (sub:List ζ) (ab:Bool) (col:Option Bool) (dd:Option Α) (k0 k1 k2 k3 k5:Option ζ),
  K.lookup C=some (FD nm q C N bs bm hdct sn sub ab col dd k0 k1 k2 k3 k5 newId)∧tailIn K bmB bm=true
 init:findIn K (.ref C) "__init__" = some (some (.ref fI))
 fn:isFn K (.ref fI)=true
section
variable {prog:ϴ} {w:Û} {A:Ϗ} {E:ζ→ν→Prop} {K:Frag} {C fI:Α} {rest bmB:List ζ} {B newId initId:String} {h:ϳ} {g:Array GenState} {d:Drawn} {t:Nat} {os:Fj}
abbrev jw (h:ϳ) (C:Α) (rest:List ζ):ϳ:=(h.push { cls:=.type "tuple",data:=.seq rest.toArray }).push { cls:=.ref C,data:=.fields #[.ref h.objs.size,.none,.none,.none,.bool false,.none] }
theorem gy (b) (u) (z:h.get? b=some u):(jw h C rest).get? b=some u:=τ _ (τ _ z)
theorem oX:DT h (jw h C rest) (h.objs.size+1) (.ref C) rest where
 keeps:=gy
 new:=ϖ (Ñ _)
 there:=⟨h.objs.size,by heap_get,ϖ (Ω _),τ _ (Fo rfl rfl)⟩
theorem iF (F:Ģ B newId initId bmB) (X:K.In h) (O:iA K C fI bmB newId) (hz:rest.length≤ϟ)
 (hq:∀ h' e,DT h h' e (.ref C) rest→χ (model prog w) A (call (.ref fI) (.ref e :: rest)) (fun r s'=>r = .none∧Q (.done (.ret (.ref e))) s') E ⟨h',g,d,t,os⟩) :
 χ (model prog w) A (ŝ.«type.__call__» ⟨.ref C :: rest,[]⟩) Q E ⟨h,g,d,t,os⟩:=by
 obtain ⟨nm,q,N,bs,bm,hdct,sn,sub,ab,col,dd,k0,k1,k2,k3,k5,l,tl⟩:=O.at_
 have c0:=X _ _ l
 have T:=tail_of_in X tl
 have X1:K.In (jw h C rest):=fun b u z=>gy b u (X b u z)
 have c1:=X1 _ _ l
 have m1:=(oX (h:=h) (C:=C) (rest:=rest))
 obtain ⟨tt,e1,_,_⟩:=id m1.there
 have self:(Ϣ C :: bm).contains (.ref C)=true:=by simp
 have l1:=looks_findIn (M:=model prog w) X1 O.init
 have l2:=fun self=>bind_fn (M:=model prog w) X1 self (beq_iff_eq.mp O.fn)
 repeat (first | with_reducible refine Ř c0 ?_ | with_reducible refine wpAny_madeBy_exc c0 ?_ | wp_step)
 refine codeAny_call_builtin_code (CS _ F.quiet) (wpAny_check_new_subT F T c0 (codeAny_exc_new_subT F T c0 ?_ hz))
 show χ _ _ _ _ _ _
 unfold Dv
 repeat (first | with_reducible refine Ř e1 ?_ | (with_reducible refine wpAny_isSubtype_exc c1 ?_;rw [self]) | wp_step)
 refine l1.at (Τ (ε ((l2 _).at ?_)))
 refine ε (Κ (hq _ _ m1) (fun r s' z=>?_) fun _ _ z=>z)
 obtain ⟨rfl,z⟩:=z
 wp_walk
 exact z
theorem qA (F:Ģ B newId initId bmB) (X:K.In h) (O:iA K C fI bmB newId) (hz:rest.length≤ϟ)
 (hq:∀ h' e,DT h h' e (.ref C) rest→χ (model prog w) (A.under (.builtin "type.__call__" ⟨.ref C :: rest,[]⟩)) (call (.ref fI) (.ref e :: rest)) (fun r s'=>r = .none∧Q (.ref e) s') E ⟨h',g,d,t,os⟩) :
 χ (model prog w) A (call (.ref C) rest) Q E ⟨h,g,d,t,os⟩:=by
 obtain ⟨nm,q,N,bs,bm,hdct,sn,sub,ab,col,dd,k0,k1,k2,k3,k5,l,tl⟩:=O.at_
 have c0:=X _ _ l
 have y1:=tc_lookup
 have y2:=tc_bind (.ref C)
 have y3:Shared.TypeIs ⟨h,g,d,t,os⟩ (.ref C) "type":=⟨_,c0,rfl⟩
 refine Ċ (Hb ?_)
 show χ _ _ (callAny (.ref C) _) _ _ _
 repeat (any_goals (first | assumption | with_reducible refine Ř c0 ?_ | wp_step))
 refine ⟨rfl,codeAny_call_builtin_at (CS _ (by decide +kernel)) entry_typeCall (wpAny_check_type_call_sub c0 ?_)⟩
 exact iF F X O hz fun h' e m=>hq h' e m
end
section
variable {M:Dj} {A:Ϗ} {E:ζ→ν→Prop} {s:ν}
theorem pN {K:Frag} {env:CL} {C:Α} {x:DD ζ} {Q:Flow→ν→Prop} (be:mroIn K C (.type "BaseException")=some true) (ty:typeIn K (.ref C)=some (.type "type")) (hh:A.handled=none)
 (h:χ M A x (fun v s1=>∃ p ob vs,v = .ref p∧K.In s1.heap∧s1.heap.get? p=some ob∧ob.cls = .ref C∧ob.data = .fields vs∧vs[1]? = some .none∧E (.ref p) s1) E s):χ M A (raiseStmt env (some x) none) Q E s:=by
 unfold raiseStmt
 refine ε (Κ h (fun v s1 z=>?_) fun _ _ z=>z)
 obtain ⟨p,⟨oc,od,oda,osl⟩,vs,rfl,Xk,e1,e2,e3,e4,q⟩:=z
 simp only at e2 e3
 subst e2 e3
 obtain ⟨h1,g1,d1,t1,o1⟩:=s1
 have l0:Looks M h1 (typeOf (.ref p)) (.ref C):=(Looks.ld e1).andThen .now
 have l1:Looks M h1 (Dv (.ref p) (.type "BaseException")) true:=l0.andThen (looks_mroIn Xk be)
 have l2:=looks_typeIn (M:=M) Xk ty
 have l3:Looks M h1 (isType (.ref p)) false:=(Looks.ld e1).andThen .now
 have l4:Looks M h1 (isExcClass (.ref p)) false:=l3.andThen .now
 refine ε (θ (ε (Τ ?_)))
 unfold excFromValue raisedInstance ES
 refine ε (l4.at ?_)
 rw [ZY Ϡ]
 refine ε (l1.at ?_)
 rw [ZZ rfl]
 refine θ (ε (l3.at ?_))
 rw [ZY Ϡ]
 refine ε (ε (l0.at (ε (l2.at ?_))))
 rw [ZZ (show (č "type" == č "type")=true by decide)]
 refine θ (ε (ε (Ϝ e1 rfl e4 ?_)))
 rw [ZY (show ¬ ((Ϛ != Ϛ)=true) by decide)]
 exact θ (wpAny_raiseNew_none hh q)
end
end L2.Ev
end
section
namespace L2.Ev
theorem pD {M:Dj} {A:Ϗ} {E:ζ→ν→Prop} {Q:Unit→ν→Prop} {s:ν} {env:CL} {n:μ} {m:μ→Option ζ} {pos:Ϫ} (hl:env.kindOf n=some .local) (hn:s.heap.Ns env.locals m) (hp:(env.scope.kind == .class || (env.scope.kind == .module && env.locals != env.globals))=false)
 (h:∀ h' v,h'.Ns env.locals (fun y=>if y=n then v else m y)→Ü env.locals s.heap h'→Q () { s with heap:=h',toks:=s.toks+1 }):χ M A (do bindName env n .none;CV env n pos) Q E s:=by
 refine ε (wpAny_bindName (Fq hl hn (fun h1 n1 s1=>?_) hp))
 unfold CV unbindName;refine ED (ε (E7 (ε ?_)))
 unfold deleteName;simp only [hl,hp];rw [ZY (by decide)]
 refine ε (wpAny_nsDel_keeps n1 fun h2 v n2 s2=>?_)
 simp only [if_true,Option.isSome_some,Bool.not_true,á,if_false]
 refine θ (E7 (h h2 v ?_ (s1.trans s2)))
 have e:(fun y=>if y=n then v else if y=n then some Ϛ else m y)=fun y=>if y=n then v else m y:=by
  funext y
  by_cases z:y=n <;> simp [z]
 rw [e] at n2
 exact n2
section
variable {X:Cx} {z z' z0 z1:Z} {w:Α→Prop}
theorem zk {a C:Α} {l:List (μ×ζ)} {f:μ} {v:ζ} {Q:ζ→ν→Prop} {b:Bool} (I:Rep X z) (h:ExO z.h a C l) (nl:l≠[]) (Y:fe X.K C) (hh:Á X.K C=true) (hf:Ρ X.K (.ref C) f=some none) (lk:l.lookup f=some v) (hv:Ł v=true) (q:Q v { z.s with toks:=z.s.toks+1 }):χ X.M X.A (DK (.ref a) f b) Q NoE z.s:=by
 obtain ⟨o,vs,e1,e2,e3,e4⟩:=h
 rcases e4 with ⟨w,_⟩ | ⟨d,od,e5,e6,es,ep,e7⟩
 ·exact ZX w nl
 ·exact qC Y hh I.toHR.kin hf e1 e2 e3 e5 (mA:=fun n=>l.lookup n) ⟨od,es,ep,e6,e7⟩ lk hv q
abbrev aN (X:Cx) (e:ζ):Cx:={ X with A:=X.A.mark (some e),calm:=false }
theorem Rep.suite (I:Rep X z):Rep (aN X e) z:=⟨⟨I.md,I.fm,(fun c=>nomatch c),I.bs,I.gh,I.rl,I.rn,I.rg,I.ob,I.fu,I.ff,I.br,I.os,I.tk⟩,⟨I.ok.un,I.ok.kd,I.ok.gl,I.ok.bl,I.ok.ci,I.ok.ch⟩,I.lo,I.ce,I.fl,I.el,I.sl,I.en,I.eo,I.od⟩
theorem Rep.unsuite (h:X.calm=true→X.A.handled=none) (I:Rep (aN X e) z):Rep X z:=⟨⟨I.md,I.fm,h,I.bs,I.gh,I.rl,I.rn,I.rg,I.ob,I.fu,I.ff,I.br,I.os,I.tk⟩,⟨I.ok.un,I.ok.kd,I.ok.gl,I.ok.bl,I.ok.ci,I.ok.ch⟩,I.lo,I.ce,I.fl,I.el,I.sl,I.en,I.eo,I.od⟩
theorem Go.unsuite (g:Go (aN X e) z z'):Go X z z':=⟨g.st,g.ow⟩
theorem Rep.gone {h':ϳ} {t:Nat} {i:Nat} {x:μ} {m:μ→Option ζ} {v:Option ζ} (I:Rep X z) (hN:X.N.Nodup) (hi:X.N[i]? = some x) (hk:X.env.scope.names.lookup x=some .local) (lk:∀ (i:Nat) (x:μ) (u:ζ),X.N[i]? = some x→z.σ[i]? = some (some u)→Vis X.env.scope x→lQ X.env z.s.heap m x u)
 (hn:h'.Ns X.env.locals (fun y=>if y=x then v else m y)) (sb:Ü X.env.locals z.s.heap h') (tk:X.tz≤t:=by first | assumption | exact HR.tk (by assumption) | exact HR.tk1 (by assumption) | exact (Rep.toHR (by assumption)).tk | exact (Rep.toHR (by assumption)).tk1 | exact ϒ (by assumption)):Rep X { z with t:=⟨z.t.env.set i none,z.t.ow.filter (· != i),z.t.st⟩,σ:=z.σ.set i none,s:={ z.s with heap:=h',toks:=t } }∧Go X z { z with t:=⟨z.t.env.set i none,z.t.ow.filter (· != i),z.t.st⟩,σ:=z.σ.set i none,s:={ z.s with heap:=h',toks:=t } }:=by
 have ne:∀ {b:Α},b≠X.env.locals→h'.get? b=z.h b:=fun n=>sb.2 _ n
 have lL:Lc X X.env.locals:=.inl rfl
 have nG:∀ {b o},z.G b=some o→b≠X.env.locals:=fun e q=>by rw [q,(I.fl _ lL).1] at e;cases e
 have nM:∀ {b},Mu z.ρ b→b≠X.env.locals:=fun m q=>(I.fl _ lL).2 (q ▸ m)
 obtain ⟨oL,es,ep,hoL,hdL,_⟩:=id hn
 have ck:∀ y c u,X.env.cells.lookup y=some c→z.s.heap.IsCell c u→h'.IsCell c u:=fun y c u e q=>q.sameBut sb (I.cne y c e)
 have hiσ:i<z.σ.length:=by rw [I.sl];exact (ς.mp hi).1
 have mf:∀ {j},j∈z.t.ow.filter (· != i)→j∈z.t.ow∧j≠i:=fun m=>⟨(ϔ.mp m).1,by simpa using (ϔ.mp m).2⟩
 have fu:h'.FunFrames X.base X.fr:=jE (fun b o e nf=>by
  by_cases q:b=X.env.locals
  ·subst q;exact ⟨oL,hoL,fun vs e=>by rw [hdL] at e;cases e⟩
  ·exact ⟨o,(ne q).trans e,nf⟩) I.fu
 refine ⟨⟨⟨I.md,I.fm,I.hd,I.bs,fun b o e=>(ne (nG e)).trans (I.gh b o e),I.rl,I.rn,I.rg,fun n o p h1 h2=>(I.ob n o p h1 h2).mono (ξ _) (.refl _) fun b hb o e=>(ne (nM ⟨p,ο h2,hb⟩)).trans e,fu,I.ff,I.br,I.os,tk⟩,I.ok,⟨_,hn,fun j y u e1 e2 e3=>?_⟩,fun y c e=>let ⟨u,q⟩:=I.ce y c e;⟨u,ck y c u e q⟩,I.fl,by show (z.t.env.set i none).length=(z.σ.set i none).length;rw [Ϸ,Ϸ];exact I.el,by show (z.σ.set i none).length=_;rw [Ϸ];exact I.sl,fun j d n e=>?_,fun j mj=>?_,fun j k a m1 m2 e1 e2=>?_⟩,⟨⟨ξ _,.refl _,fun _ _ e=>.inl e,fun _ m=>.inl m,fun b o e=>?_,fun b o e _ w _=>(ne fun q=>w (.inr (.inl q))).trans e,fun b o e _ w _=>⟨o.slots,(ne fun q=>w (.inr (.inl q))).trans e⟩⟩,fun b ⟨j,mj,e⟩=>?_⟩⟩
 ·by_cases q:j=i
  ·subst q
   rw [ϧ hiσ] at e2;cases e2
  ·rw [Φ (ϥ q)] at e2
   rcases lk j y u e1 e2 e3 with ⟨k,e⟩ | ⟨k,c,e,w⟩
   ·have:y≠x:=fun e=>q (hH hN e1 (e ▸ hi))
    exact .inl ⟨k,by simp [this,e]⟩
   ·exact .inr ⟨k,c,e,ck y c _ e w⟩
 ·have e:(z.t.env.set i none)[j]? = some (some d):=e
  by_cases q:j=i
  ·subst q
   rw [ϧ (by rw [I.el];exact hiσ)] at e;cases e
  ·rw [Φ (ϥ q)] at e
   obtain ⟨u,e1,r⟩:=I.en j d (fun m=>n (ϔ.mpr ⟨m,by simpa using q⟩)) e
   exact ⟨u,(Φ (ϥ q)).trans e1,r⟩
 ·obtain ⟨m1,q⟩:=mf mj
  obtain ⟨d,a,o,h1,h2,h3,r,f⟩:=I.eo j m1
  exact ⟨d,a,o,(Φ (ϥ q)).trans h1,(Φ (ϥ q)).trans h2,h3,r.mono (ξ _) (.refl _) fun b hb o e=>(ne fun w=>f.2.2.2 (by rcases hb with rfl | rfl <;> exact .inl w)).trans e,f⟩
 ·obtain ⟨a1,q1⟩:=mf m1
  obtain ⟨a2,q2⟩:=mf m2
  exact I.od j k a a1 a2 ((Φ (ϥ q1)).symm.trans e1) ((Φ (ϥ q2)).symm.trans e2)
 ·by_cases q:b=X.env.locals
  ·subst q;exact ⟨oL,hoL⟩
  ·exact ⟨o,(ne q).trans e⟩
 ·obtain ⟨m1,q⟩:=mf mj
  exact .inl ⟨j,m1,(Φ (ϥ q)).symm.trans e⟩
theorem tf {a T:Α} {fl cls:ζ} {dx:Option Α} (x:Stp X.fr w z z') (I:Rep X z') (r:XR X.W z' c l cls dx) (na:Nob X z z' a) (t:Tr z'.s.heap a cls dx T fl):∃ z2,z2.s=z'.s∧z2.t=z'.t∧Stp X.fr w z z2∧(∀ b,Own z2 b↔Own z' b)∧Rep X z2∧RD X.W z2.ρ z2.G (.ins c l) (.ref a)∧(z2.σ=z'.σ):=by
 obtain ⟨oe,vs,_,_,he,⟨hc,hd⟩,hda,_⟩:=t
 have gg:Sub z'.G fun b=>if b=a then some oe else z'.G b:=fun b o q=>by
  dsimp only
  by_cases c:b=a
  ·subst c;rw [na.2.1.1] at q;cases q
  ·rw [ZY c];exact q
 have rd:RD X.W z'.ρ (fun b=>if b=a then some oe else z'.G b) (.ins c l) (.ref a):=by
  obtain ⟨i,h1,h2,h3,h4,h5⟩:=r
  subst h3
  rcases h5 with ⟨rfl,rfl⟩ | ⟨d,od,us,rfl,h6,h7,h8⟩
  ·exact ⟨a,i,[],rfl,h1,h4,.inr ⟨h2,oe,vs,ZZ rfl,hc,hda,.inl ⟨by simp,hd⟩⟩,rfl⟩
  ·exact ⟨a,i,us,rfl,h1,h4,.inr ⟨h2,oe,vs,ZZ rfl,hc,hda,.inr ⟨d,od,hd,gg _ _ h6,h7⟩⟩,h8.mono (ξ _) gg⟩
 refine ⟨{ z' with G:=fun b=>if b=a then some oe else z'.G b },rfl,rfl,⟨x.pr,x.gg.trans gg,fun b o q=>?_,x.rn,x.th,x.sm,x.sl⟩,fun _=>.rfl,I.grw I.tk rfl I.br (fun _ _ e _=>e) (fun _ o e=>⟨o.slots,e⟩) gg (fun b o q=>?_) fun b o q=>?_,rd,rfl⟩
 all_goals
  have q:(if b=a then some oe else z'.G b)=some o:=q
  by_cases c:b=a
 ·subst c;exact .inr (.inl na.1)
 ·rw [ZY c] at q;exact x.gn b o q
 ·subst c;rw [ZZ rfl] at q;cases q;exact he
 ·rw [ZY c] at q;exact I.gh b o q
 ·subst c;exact .inr na.2
 ·rw [ZY c] at q;exact .inl q
def pY (X:Cx) (j:Nat) (x:μ):Prop:=∃ i,X.W.ci[j]? = some i∧X.mg x=some (.ref i.ad)∧pX X.K i.ad∧∀ c k ic,X.Γ.cl[c]? = some k→X.W.ci[c]? = some ic→X.W.what[c]? = some 2→Ϩ X.K ic.ad (.ref i.ad)=some (c == j || k.sup.contains j)
def HL (X:Cx) (hs:List Ĕ) (r:S):Prop:=∀ (z z1:Z) (c:Nat) (l:List D) (e:ζ) (o:am),XN X (Pv X z) z z1 c l e .none→(∀ a,Own z1 a→Own z a∨z.h a=none)→o=exS.hnd X.Γ X.cal X.cal1 r c l z1.t→o≠.bad→χ X.M X.A (handleBy e X.env hs) (Ps X z o) (PxS X z o) z1.s
theorem xx (F:ki X):HL X [] .skip:=fun z z1 c l e o hn ow e0 nb=>by
 obtain ⟨L,hL⟩:=F.frame
 have e0:o = .exc c l z1.t:=e0
 refine wpAny_handleBy_nil ?_
 obtain ⟨a,T,cls,dx,e1,_,_,_,_,t,_⟩:=id hn
 subst e1
 unfold Gg
 obtain ⟨oe,vs,oT,ts,he,hc,hd,h1,r⟩:=id t
 refine ε (Ϝ he hd h1 ?_)
 rw [ZY (show ¬ ((Ϣ T == Ϛ)=true) by simp),hL]
 refine ε (bP (z':=z1) (fr:=some L) hn fun h2 hn2=>FA ?_)
 obtain ⟨a',T',cls',dx',e1,x2,I2,r2,na2,t2,nT2⟩:=hn2
 exact ⟨{ z1 with s:={ z1.s with heap:=h2 } },c,l,rfl,e0,⟨x2,ow⟩,I2,a',cls',dx',e1,r2,na2,.inr ⟨T',_,t2,.inr ⟨L,hL,rfl⟩,nT2⟩⟩
theorem AB {j i:Nat} {Bn n:μ} {np hpos:Ϫ} {hs:List Ĕ} {suite:List Ë} {b₀:Ë} {b r:S} (hS:∀ e,LSs (aN X e) (b₀ :: suite) b) (hx:pY X j Bn) (hg:Gl X Bn) (hdb:(Bn == ("__debug__":μ))=false) (hN:X.N.Nodup) (hi:X.N[i]? = some n) (hl:X.env.scope.names.lookup n=some .local) (hr:HL X hs r):HL X (.ExceptHandler (some (.Name Bn np)) (some n) (b₀ :: suite) hpos :: hs) (.hand j (some i) b r):=fun z z1 c l e o hn3 ow1 e0 nb=>by
 have e0:o=(match dj X.Γ j c with
  | some true=>(match X.ex b ⟨z1.t.env.set i (some (.ins c l)),z1.t.ow.filter (· != i),z1.t.st⟩ with
    | .nx s=>.nx ⟨s.env.set i none,s.ow.filter (· != i),s.st⟩
    | .rt d s=>.rt d s
    | _=>.bad)
  | some false=>exS.hnd X.Γ X.cal X.cal1 r c l z1.t
  | none=>.bad):=e0
 obtain ⟨p,T,cls,dx,rfl,x3,I3,r3,na3,t3,nT3⟩:=id hn3
 refine FK (Fs ?_) (fun z=>nomatch z)
 obtain ⟨ic,w1,w2,w3,w4⟩:=hx
 obtain ⟨i2,v1,v2,v3,v4,v5⟩:=id r3
 cases ek:X.Γ.cl[c]? with
 | none=>exact ZX (by rw [e0];unfold dj;rw [ek];rfl) nb
 | some k=>
   have hsub:=w4 c k i2 ek v1 v2
   rw [show dj X.Γ j c=some (c == j || k.sup.contains j) by unfold dj;rw [ek];rfl] at e0
   generalize (c == j || k.sup.contains j)=kk at e0 hsub
   refine bz (X:=aN X (.ref p)) (z:=z1) I3.suite hg w2 ?_ hdb
   obtain ⟨oe,vs,oT,tt,he,⟨hcl,hdi⟩,hda,_⟩:=id t3
   refine gX I3.toHR.kin w3 he (hcl.trans v3) hsub ?_
   cases kk with
   | false=>exact hr z z1 c l _ o hn3 ow1 e0 nb
   | true=>
     have e0:o=(match X.ex b ⟨z1.t.env.set i (some (.ins c l)),z1.t.ow.filter (· != i),z1.t.st⟩ with
      | .nx s=>.nx ⟨s.env.set i none,s.ow.filter (· != i),s.st⟩
      | .rt d s=>.rt d s
      | _=>.bad):=e0
     show ĭ _ _ _ _ _
     refine codeAny_handlers_suite_as (bP (z':=z1) (fr:=none) hn3 fun h4 hn4=>?_)
     obtain ⟨p',T',cls',dx',ep,x4,I4,r4,na4,t4,nT4⟩:=hn4
     cases ep
     obtain ⟨z5,e5,t5,x5,o5,I5,rd5,s5⟩:=tf x4 I4 r4 na4 t4
     rw [show ({ z1.s with heap:=h4 }:ν)=z5.s from e5.symm]
     have g5:Go X z z5:=⟨x5,fun b ob=>ow1 b ((o5 b).mp ob)⟩
     refine cz (X:=aN X (.ref p)) (own:=false) (d:=.ins c l) (z:=z5) (z0:=z5) .refl I5.suite hN hi (.inl hl) rd5 fun s6 a6 _ _ I6 g6=>?_
     have t6:stV z5.t i (.ins c l) false=⟨z1.t.env.set i (some (.ins c l)),z1.t.ow.filter (· != i),z1.t.st⟩:=by rw [show z5.t=z1.t from t5];rfl
     rw [← t6] at e0
     have nb6:(aN X (.ref p)).ex b (stV z5.t i (.ins c l) false)≠.bad:=fun q=>nb (by rw [e0,show X.ex b (stV z5.t i (.ins c l) false) = .bad from q])
     refine Κ (hS (.ref p) { z5 with t:=stV z5.t i (.ins c l) false,σ:=z5.σ.set i (some (.ref p)),s:=s6 } I6 nb6) (fun f s7 h7=>?_) fun e s7 ⟨z7,c7,l7,_,q7,_,_,_⟩=>ZX (by rw [e0,show X.ex b (stV z5.t i (.ins c l) false)=_ from q7]) nb
     have fin:∀ z7,z7.s=s7→Go (aN X (.ref p)) { z5 with t:=stV z5.t i (.ins c l) false,σ:=z5.σ.set i (some (.ref p)),s:=s6 } z7→Rep (aN X (.ref p)) z7→(∀ z8,z8.t=⟨z7.t.env.set i none,z7.t.ow.filter (· != i),z7.t.st⟩→z8.ρ=z7.ρ→z8.G=z7.G→Go X z z8→Rep X z8→Ps X z o f z8.s)→χ X.M X.A (do bindName X.env n .none;CV X.env n hpos) (fun _ s3=>Ps X z o f s3) (PxS X z o) s7:=fun z7 e7 g7 I7 hh=>by
      subst e7
      have J7:=I7.unsuite I3.hd
      obtain ⟨m,hn,lk⟩:=id J7.lo
      refine pD hl hn (by rw [I3.ok.kd];rfl) fun h8 v n8 s8=>?_
      obtain ⟨I8,g8⟩:=J7.gone (t:=z7.s.toks+1) hN hi hl lk n8 s8
      exact hh { z7 with t:=⟨z7.t.env.set i none,z7.t.ow.filter (· != i),z7.t.st⟩,σ:=z7.σ.set i none,s:={ z7.s with heap:=h8,toks:=z7.s.toks+1 } } rfl rfl rfl (((g5.trans g6.unsuite).trans g7.unsuite).trans g8) I8
     cases q7:X.ex b (stV z5.t i (.ins c l) false) with
     | nx t7=>
       rw [show (aN X (.ref p)).ex b (stV z5.t i (.ins c l) false) = .nx t7 from q7] at h7
       rw [q7] at e0
       obtain ⟨rfl,z7,e7,et7,g7,I7⟩:=h7
       refine fin z7 e7 g7 I7 fun z8 e8 _ _ g8 I8=>nxt g8 I8 ?_
       rw [e0,e8,et7]
     | rt d t7=>
       rw [show (aN X (.ref p)).ex b (stV z5.t i (.ins c l) false) = .rt d t7 from q7] at h7
       rw [q7] at e0
       obtain ⟨u,z7,rfl,e7,et7,g7,I7,rd7⟩:=h7
       refine fin z7 e7 g7 I7 fun z8 e8 r8 G8 g8 I8=>?_
       rw [e0]
       exact ⟨u,z8,rfl,rfl,by rw [e8];exact et7,g8,I8,by rw [r8,G8];exact rd7⟩
     | exc c7 l7 t7=>rw [q7] at e0;exact ZX e0 nb
     | bad=>exact ZX q7 nb6
theorem AC {j:Nat} {Bn:μ} {np hpos:Ϫ} {hs:List Ĕ} {suite:List Ë} {b₀:Ë} {b r:S} (hS:∀ e,LSs (aN X e) (b₀ :: suite) b) (hx:pY X j Bn) (hg:Gl X Bn) (hdb:(Bn == ("__debug__":μ))=false) (hr:HL X hs r):HL X (.ExceptHandler (some (.Name Bn np)) none (b₀ :: suite) hpos :: hs) (.hand j none b r):=fun z z1 c l e o hn3 ow1 e0 nb=>by
 have e0:o=(match dj X.Γ j c with
  | some true=>(match X.ex b z1.t with | .nx s=>.nx s | .rt d s=>.rt d s | _=>.bad)
  | some false=>exS.hnd X.Γ X.cal X.cal1 r c l z1.t
  | none=>.bad):=e0
 obtain ⟨p,T,cls,dx,rfl,x3,I3,r3,na3,t3,nT3⟩:=id hn3
 refine FK (Fs ?_) (fun z=>nomatch z)
 obtain ⟨ic,w1,w2,w3,w4⟩:=hx
 obtain ⟨i2,v1,v2,v3,v4,v5⟩:=id r3
 cases ek:X.Γ.cl[c]? with
 | none=>exact ZX (by rw [e0];unfold dj;rw [ek];rfl) nb
 | some k=>
   have hsub:=w4 c k i2 ek v1 v2
   rw [show dj X.Γ j c=some (c == j || k.sup.contains j) by unfold dj;rw [ek];rfl] at e0
   generalize (c == j || k.sup.contains j)=kk at e0 hsub
   refine bz (X:=aN X (.ref p)) (z:=z1) I3.suite hg w2 ?_ hdb
   obtain ⟨oe,vs,oT,tt,he,⟨hcl,hdi⟩,hda,_⟩:=id t3
   refine gX I3.toHR.kin w3 he (hcl.trans v3) hsub ?_
   cases kk with
   | false=>exact hr z z1 c l _ o hn3 ow1 e0 nb
   | true=>
     have e0:o=(match X.ex b z1.t with | .nx s=>.nx s | .rt d s=>.rt d s | _=>.bad):=e0
     show ĭ _ _ _ _ _
     refine codeAny_handlers_suite (bP (z':=z1) (fr:=none) hn3 fun h4 hn4=>?_)
     obtain ⟨p',T',cls',dx',ep,x4,I4,r4,na4,t4,nT4⟩:=hn4
     cases ep
     have g4:Go X z { z1 with s:={ z1.s with heap:=h4 } }:=⟨x4,ow1⟩
     have nb6:(aN X (.ref p)).ex b z1.t≠.bad:=fun q=>nb (by rw [e0,show X.ex b z1.t = .bad from q])
     refine Κ (hS (.ref p) { z1 with s:={ z1.s with heap:=h4 } } I4.suite nb6) (fun f s7 h7=>?_) fun e s7 ⟨z7,c7,l7,_,q7,_,_,_⟩=>ZX (by rw [e0,show X.ex b z1.t=_ from q7]) nb
     cases q7:X.ex b z1.t with
     | nx t7=>
       rw [show (aN X (.ref p)).ex b z1.t = .nx t7 from q7] at h7
       rw [q7] at e0
       obtain ⟨rfl,z7,e7,et7,g7,I7⟩:=h7
       subst e7
       exact nxt (g4.trans g7.unsuite) (I7.unsuite I3.hd) (by rw [e0,et7])
     | rt d t7=>
       rw [show (aN X (.ref p)).ex b z1.t = .rt d t7 from q7] at h7
       rw [q7] at e0
       obtain ⟨u,z7,rfl,e7,et7,g7,I7,rd7⟩:=h7
       subst e7
       show Ps X z o (.ret u) z7.s
       rw [e0]
       exact ⟨u,z7,rfl,rfl,et7,g4.trans g7.unsuite,I7.unsuite I3.hd,rd7⟩
     | exc c7 l7 t7=>rw [q7] at e0;exact ZX e0 nb
     | bad=>exact ZX q7 nb6
theorem yu {h0:Ĕ} {hs:List Ĕ} {pos:Ϫ} {body:List Ë} {a r:S} (F:ki X) (hb:LSs X body a) (hh:HL X (h0 :: hs) r):LS X (.Try body (h0 :: hs) [] [] pos) (.try_ a r):=fun z I nb=>by
 have e0:X.ex (.try_ a r) z.t=(match X.ex a z.t with
  | .exc c l s=>exS.hnd X.Γ X.cal X.cal1 r c l s
  | r=>r):=rfl
 generalize X.ex (.try_ a r) z.t=o at e0 nb
 have nb1:X.ex a z.t≠.bad:=fun q=>nb (by rw [e0,q])
 refine wpAny_Try_except (Κ (hb z I nb1) (fun f s1 h=>?_) fun e s1 h=>?_)
 ·cases q:X.ex a z.t with
  | nx t=>rw [q] at h e0;obtain ⟨rfl,h⟩:=h;exact ļ (show Ps X z o .next s1 by rw [e0];exact ⟨rfl,h⟩)
  | rt d t=>rw [q] at h e0;obtain ⟨u,z',rfl,h⟩:=h;exact show Ps X z o (.ret u) s1 by rw [e0];exact ⟨u,z',rfl,h⟩
  | exc c l t=>rw [q] at h;exact h.elim
  | bad=>exact ZX q nb1
 ·obtain ⟨z1,c,l,e1,q1,x1,I1,xo⟩:=h
  subst e1
  rw [q1] at e0
  exact e9 F x1.st I1 xo fun L h2 hL hn2=>bP (z':={ z1 with s:={ z1.s with heap:=h2 } }) (fr:=none) hn2 fun h3 hn3=>hh z { z1 with s:={ z1.s with heap:=h3 } } c l e o hn3 x1.ow e0 nb
end
end L2.Ev
end
section
namespace L2.Ev
structure Pri (X:Cx) (p:Α) (nm:List μ) (P:List Α→List (μ×ζ)→ϳ→Prop):Prop where
 ex:∀ {ch l h},P ch l h→∀ b∈ch,∃ o,h.get? b=some o
 keep:∀ {ch l h h'},P ch l h→(∀ b∈ch,∀ o,h.get? b=some o→h'.get? b=some o)→P ch l h'
 set:∀ {A:Ϗ} {s:ν} {ch:List Α} {l:List (μ×ζ)} {f:μ} {v:ζ} {Q:Unit→ν→Prop} {E:ζ→ν→Prop},X.K.In s.heap→P ch l s.heap→f∈nm→f ∉ l.map (·.1)→l.length<900 →
  (∀ h' ch' t,P ch' (l ++ [(f,v)]) h'→(∀ b∈ch',b∈ch∨s.heap.get? b=none)→(∀ b∈ch,b∈ch')→(∀ b o,b ∉ ch→s.heap.get? b=some o→h'.get? b=some o)→Q () { s with heap:=h',toks:=t })→χ X.M A (Ej (.ref p) f v) Q E s
theorem fi {f:μ} {v:ζ}:∀ {l:List (μ×ζ)},f ∉ l.map (·.1)→∀ g,(l ++ [(f,v)]).lookup g=if g=f then some v else l.lookup g
 | [],_,g=>by
   show (match g == f with | true=>some v | false=>none)=if g=f then some v else none
   by_cases c:g=f
   ·rw [ZZ c,beq_iff_eq.mpr c]
   ·rw [ZY c,ZU.mpr c]
 | (a,b) :: r,h,g=>by
   have h':f≠a∧f ∉ r.map (·.1):=by simpa using h
   have ih:=fi (v:=v) h'.2 g
   show (match g == a with | true=>some b | false=>(r ++ [(f,v)]).lookup g)=if g=f then some v else (match g == a with | true=>some b | false=>r.lookup g)
   by_cases c:g=a
   ·have gf:g≠f:=fun w=>h'.1 (w.symm.trans c)
    rw [beq_iff_eq.mpr c,ZY gf]
   ·rw [ZU.mpr c];exact ih
theorem lH (l:List (μ×ζ)):Gh (fun n=>l.lookup n) (l.map (·.1)):=fun y hy=>by
 cases q:l.lookup y with
 | none=>exact ZX q hy
 | some u=>
   obtain ⟨l1,l2,e1,_⟩:=Ef.mp q
   rw [e1];simp
section
variable {X:Cx} {z z' z0 z1:Z} {p C:Α} {nm:List μ}
theorem vn (cl:Cls X.K C) (na:∀ f∈nm,cL X.K C f):Pri X p nm (fun ch l h=>∃ dx,ch = [p,dx]∧InO h.get? p dx C l) where
 ex:=fun ⟨dx,e,h1,h2,h3,o,h4,h5⟩ b hb=>by
  subst e
  rcases π.mp hb with w | w
  ·rw [w];exact ⟨_,h1⟩
  ·rw [η.mp w];exact ⟨o,h4⟩
 keep:=fun ⟨dx,e,h1,h2,h3,o,h4,h5⟩ k=>⟨dx,e,k p (by rw [e];simp) _ h1,h2,h3,o,k dx (by rw [e];simp) _ h4,h5⟩
 set:=fun {A s ch l f v Q E} hK ⟨dx,e,io⟩ hf hn hz hq=>by
  subst e
  refine oz (ns:=l.map (·.1)) hK (InO.objm io) cl.sa cl.po (na f hf).taker cl.hd (lH l) (by rw [Θ];exact ϫ (ú hz) (big (by omega))) fun h' om sb=>?_
  obtain ⟨od,es,ep,e1,e2,e3,e4,e5⟩:=om.ns
  exact hq h' [p,dx] _ ⟨dx,rfl,om.obj,om.ne,by rw [ω];simp;omega,od,e1,es,ep,e2,e3,e4,fun n=>(e5 n).trans (fi hn n).symm⟩ (fun b hb=>.inl hb) (fun b hb=>hb) fun b o nb e=>(sb.2 b fun w=>nb (by rw [w];simp)).trans e
theorem nY (Z:gx X.K C) (na:∀ f∈nm,Ρ X.K (.ref C) f=some none):Pri X p nm (fun ch l h=>∃ o vs,h.get? p=some o∧o.cls = .ref C∧o.data = .fields vs∧vs[1]? = some .none∧((l = []∧o.dict=none∧ch = [p])∨∃ d od,o.dict=some d∧d≠p∧ch = [p,d]∧h.get? d=some od∧NsO od l)) where
 ex:=fun ⟨o,vs,h1,_,_,_,h5⟩ b hb=>by
  rcases h5 with ⟨_,_,e⟩ | ⟨d,od,_,_,e,h6,_⟩
  ·rw [e] at hb;rw [η.mp hb];exact ⟨o,h1⟩
  ·rw [e] at hb
   rcases π.mp hb with w | w
   ·rw [w];exact ⟨_,h1⟩
   ·rw [η.mp w];exact ⟨od,h6⟩
 keep:=fun ⟨o,vs,h1,h2,h3,h4,h5⟩ k=>by
  rcases h5 with ⟨a,b,e⟩ | ⟨d,od,a,b,e,h6,h7⟩
  ·exact ⟨o,vs,k p (by rw [e];simp) _ h1,h2,h3,h4,.inl ⟨a,b,e⟩⟩
  ·exact ⟨o,vs,k p (by rw [e];simp) _ h1,h2,h3,h4,.inr ⟨d,od,a,b,e,k d (by rw [e];simp) _ h6,h7⟩⟩
 set:=fun {A s ch l f v Q E} hK ⟨o,vs,h1,h2,h3,h4,h5⟩ hf hn hz hq=>by
  refine pv (mA:=fun n=>l.lookup n) (ns:=l.map (·.1)) hK Z (na f hf) h1 h2 h3 ?_ (lH l) (by rw [Θ];omega) fun h' d t g1 ne n k ds=>?_
  ·rcases h5 with ⟨rfl,b,_⟩ | ⟨d,od,a,b,_,h6,es,ep,h7⟩
   ·exact .inl ⟨b,fun _=>rfl⟩
   ·exact .inr ⟨d,a,b,od,es,ep,h6,h7⟩
  ·obtain ⟨od2,es,ep,e1,e2,e3,e4,e5⟩:=n
   refine hq h' [p,d] t ⟨_,vs,g1,h2,h3,h4,.inr ⟨d,od2,rfl,ne,rfl,e1,es,ep,e2,e3,e4,fun n=>(e5 n).trans (fi hn n).symm⟩⟩ (fun b hb=>?_) (fun b hb=>?_) fun b u nb e=>?_
   ·rcases h5 with ⟨_,b1,e⟩ | ⟨d',od,a,_,e,_⟩
    ·rcases π.mp hb with w | w
     ·left;rw [e,w];simp
     ·rw [η.mp w]
      rcases ds with q | ⟨_,q⟩
      ·rw [b1] at q;cases q
      ·exact .inr q
    ·rcases ds with q | ⟨q,_⟩
     ·rw [a] at q;cases q;rw [e];exact .inl hb
     ·rw [a] at q;cases q
   ·rcases h5 with ⟨_,b1,e⟩ | ⟨d',od,a,_,e,_⟩
    ·rw [e] at hb;rw [η.mp hb];simp
    ·rcases ds with q | ⟨q,_⟩
     ·rw [a] at q;cases q;rw [e] at hb;exact hb
     ·rw [a] at q;cases q
   ·have np:b≠p:=fun w=>by
     rcases h5 with ⟨_,_,e'⟩ | ⟨_,_,_,_,e',_⟩ <;> exact nb (by rw [e',w];simp)
    refine k b u np (fun w=>?_) e
    rcases ds with q | ⟨_,q⟩
    ·rcases h5 with ⟨_,b1,_⟩ | ⟨d',od,a,_,e',_⟩
     ·rw [b1] at q;cases q
     ·rw [a] at q;cases q;exact nb (by rw [e',w];simp)
    ·rw [w,q] at e;cases e
def Bas (X:Cx) (p:Α) (P:List Α→List (μ×ζ)→ϳ→Prop):Prop:=∀ {A:Ϗ} {s:ν} {ch:List Α} {l:List (μ×ζ)} {ur:List ζ} {Q:ζ→ν→Prop} {E:ζ→ν→Prop},X.K.In s.heap→P ch l s.heap→ur.length≤ϟ →
 (∀ h',P ch l h'→(∀ b∈ch,∃ o,h'.get? b=some o)→(∀ b o,b ∉ ch→s.heap.get? b=some o→h'.get? b=some o)→Q .none { s with heap:=h' })→χ X.M A (call (.builtin "ValueError.__init__") (.ref p :: ur)) Q E s
theorem tL {fI:Α} (O:iA X.K C fI veB "ValueError.__new__") (Pr:Pri X p nm fun ch l h=>∃ o vs,h.get? p=some o∧o.cls = .ref C∧o.data = .fields vs∧vs[1]? = some .none∧((l = []∧o.dict=none∧ch = [p])∨∃ d od,o.dict=some d∧d≠p∧ch = [p,d]∧h.get? d=some od∧NsO od l)):Bas X p (fun ch l h=>∃ o vs,h.get? p=some o∧o.cls = .ref C∧o.data = .fields vs∧vs[1]? = some .none∧((l = []∧o.dict=none∧ch = [p])∨∃ d od,o.dict=some d∧d≠p∧ch = [p,d]∧h.get? d=some od∧NsO od l)):=fun {A s ch l ur Q E} K2 hP lz hq=>by
 have F:=PySem.F.excBase_ValueError
 obtain ⟨ob,fv,e1,e2,e3,e4,e5⟩:=id hP
 obtain ⟨nm',q',N,bs,bm,hdct,sn,sub,ab,col,dd,k0,k1,k2,k3,k5,l',tl⟩:=O.at_
 have sz:1<fv.size:=by
  cases Nat.lt_or_ge 1 fv.size with
  | inl h=>exact h
  | inr h=>rw [Array.getElem?_eq_none h] at e4;cases e4
 have z0:0<fv.size:=Nat.lt_of_succ_lt sz
 obtain ⟨h2,g2,d2,t2,o2⟩:=s
 refine Ċ (î F.init.plain F.initEntry (wpAny_check_init_subT F (PySem.W.tail_of_in K2 tl) (K2 _ _ l') e1 e2 ?_))
 have e1':=τ (h:=h2) { cls:=.type "tuple",data:=.seq ur.toArray } e1
 obtain ⟨f0,e0⟩:∃ f0,fv[0]? = some f0:=⟨_,Ŀ z0⟩
 unfold ŝ.«BaseException.__init__» EP
 refine ε (wpAny_newTuple ?_ lz)
 refine ε (ε (Ϝ e1' e3 e0 (ε (Ġ e1' e3 z0 ?_))))
 have dT:=ù e3 (·.setIfInBounds 0 (Ϣ h2.objs.size))
 have gs:=ϣ (h:=h2.push { cls:=.type "tuple",data:=.seq ur.toArray }) (Ĥ (·.setIfInBounds 0 (Ϣ h2.objs.size))) e1' (ÿ dT)
 have ot:∀ b o,b≠p→h2.get? b=some o→((h2.push { cls:=.type "tuple",data:=.seq ur.toArray }).update p (Ĥ (·.setIfInBounds 0 (Ϣ h2.objs.size)))).get? b=some o:=fun b o n e=>(ϑ _ _ (ϥ n)).trans (τ _ e)
 have fin:=hq ((h2.push { cls:=.type "tuple",data:=.seq ur.toArray }).update p (Ĥ (·.setIfInBounds 0 (Ϣ h2.objs.size)))) ⟨_,_,gs,by rw [Df];exact e2,dT,by rw [Array.getElem?_setIfInBounds_ne (by decide)];exact e4,e5.imp (fun ⟨a,b,c⟩=>⟨a,by rw [gF];exact b,c⟩) fun ⟨d,od,a,b,c,e,f⟩=>⟨d,od,by rw [gF];exact a,b,c,ot d od b e,f⟩⟩ (fun b hb=>by
  by_cases q:b=p
  ·rw [q];exact ⟨_,gs⟩
  ·obtain ⟨o,e⟩:=Pr.ex hP b hb
   exact ⟨o,ot b o q e⟩) (fun b o n e=>ot b o (fun q=>n (by rcases e5 with ⟨_,_,c⟩ | ⟨_,_,_,_,c,_⟩ <;> (rw [c,q];simp))) e)
 cases f0 <;> first | exact θ (θ fin) | exact į (θ fin)
structure pV (K:υ) (B:Α):Prop where
 ga:C8 K (.ref B) "__getattribute__" = some (some (.builtin "type.__getattribute__"))
 rd:PySem.W.readsIn K B (.type "type")=true
 at_:PySem.W.findCls K (.ref B) (.type "type") "__init__" = some (.val (.builtin "ValueError.__init__"))
inductive JsP (X:Cx) (ck:List Nat):List Λ→Prop
 | nil:JsP X ck []
 | c {x:μ} {j:Nat} {p:Ϫ} {r}:x.length≤1000→JsP X ck r→JsP X ck (.Constant (.str x) j p :: r)
 | f {x:μ} {i:Nat} {p q:Ϫ} {r}:i∈ck→X.N[i+1]? = some x→Vis X.env.scope x→((x == ("__debug__":μ)) || (x == ("__classdict__":μ)))=false→JsP X ck r→JsP X ck (.FormattedValue (.Name x p) (-1) none q :: r)
def SmV (σ:List (Option ζ)) (ck:List Nat):Prop:=∀ i∈ck,∃ (n:Nat) (t:Tok),σ[i+1]? = some (some (.int n t))∧n<100000
theorem xF {E:ζ→ν→Prop} {ck:List Nat} {es:List Λ} (h:JsP X ck es):∀ {z:Z} {acc:μ} {Q:μ→ν→Prop},Rep X z→SmV z.σ ck→acc.length+1000 * es.length≤100000→(∀ out t,out.length≤100000→Q out { z.s with toks:=t })→Joins X.M X.A E (evalEach es X.env) acc Q z.s:=by
 have sz:∀ {n},n≤100000→n≤ϟ:=fun h=>ϫ h (by decide)
 induction h with
 | nil=>exact fun I hs hl q=>q _ _ (by simpa using hl)
 | @c x j p r hx _ ih=>
   intro z acc Q I hs hl q
   rw [Η] at hl
   show χ _ _ (eval (.Constant (.str x) j p) X.env) _ _ _
   refine ö ⟨x,_,rfl,sz (by rw [Ϲ];omega),?_⟩
   exact ih (z:={ z with s:={ z.s with toks:=z.s.toks+1 } }) (I.grow (aw I.gh .tok)) hs (by rw [Ϲ];omega) q
 | @f x i p p2 r hi hN hv hd _ ih=>
   intro z acc Q I hs hl q
   rw [Η] at hl
   simp only [Ŷ] at hd
   obtain ⟨n,t,e,hn⟩:=hs i hi
   have lt:=int_text_length_le10 (a:=(n:Int)) (k:=5) (by decide) hn
   have lg:(n:Int).natAbs.log2<1920:=by
    show n.log2<1920
    by_cases c:n=0
    ·subst c;decide
    ·exact ä ((EJ (k:=17) c).mpr (by omega)) (by decide)
   have le:(Ϯ (toString (n:Int))).length≤6:=by rw [PySem.ofString_length];exact lt
   refine FH (bT I hN hv e (wpAny_formatField_int lg ⟨_,_,rfl,sz (by rw [Ϲ];omega),?_⟩) hd.1 hd.2)
   exact ih (z:={ z with s:={ z.s with toks:=z.s.toks+1+1 } }) (I.grow (aw I.gh .tok)) hs (by rw [Ϲ];omega) q
inductive kj (X:Cx) (ck:Option (List Nat)):List Ë→List (μ×Nat)→Prop
 | nil:kj X ck [] []
 | base {c:List Nat} {s0 Bn:μ} {B:Α} {np ap p1 p2 cp ep:Ϫ} {e1 e2:Λ} {es r l}:ck=some c→X.N[0]? = some s0→Vis X.env.scope s0→((s0 == ("__debug__":μ)) || (s0 == ("__classdict__":μ)) || (Bn == ("__debug__":μ)))=false→Gl X Bn→X.mg Bn=some (.ref B)→pV X.K B→JsP X c (e1 :: e2 :: es)→es.length≤50→(ap.endLine == cp.line)=true→kj X ck r l→kj X ck (.Expr (.Call (.Attribute (.Name Bn np) "__init__" ap) [.Name s0 p1,.JoinedStr (e1 :: e2 :: es) p2] [] cp) ep :: r) l
 | cons {s0 x:μ} {f:μ} {i:Nat} {p1 p2 p3 pos:Ϫ} {r l}:X.N[0]? = some s0→X.N[i]? = some x→Vis X.env.scope s0→Vis X.env.scope x→((s0 == ("__debug__":μ)) || (s0 == ("__classdict__":μ)) || (x == ("__debug__":μ)) || (x == ("__classdict__":μ)))=false→kj X ck r l→kj X ck (.Assign [.Attribute (.Name s0 p1) f p2] (.Name x p3) pos :: r) ((f,i) :: l)
theorem uf {P:List Α→List (μ×ζ)→ϳ→Prop} {ck:Option (List Nat)} (H:Pri X p nm P) (hB:∀ c,ck=some c→Bas X p P) {body:List Ë} {l:List (μ×Nat)} (B:kj X ck body l):∀ (z:Z) (ch:List Α) (l0:List (μ×ζ)) (vs:List ζ),Rep X z→z.σ[0]? = some (some (.ref p))→P ch l0 z.s.heap→(∀ b∈ch,Fre X z b∧¬ Own z b)→(∀ q∈l,q.1∈nm)→(l0.map (·.1) ++ l.map (·.1)).Nodup→l0.length+l.length<900→l.map (fun q=>z.σ[q.2]?)=vs.map (fun v=>some (some v))→(∀ c,ck=some c→SmV z.σ c) →
 χ X.M X.A (execs body X.env) (fun fl s'=>fl = .next∧∃ ch',P ch' (l0 ++ (l.map (·.1)).zip vs) s'.heap∧(∀ b∈ch',b∈ch∨z.h b=none)∧(s'.os=z.s.os∧s'.gens=z.s.gens)∧(∀ b o,b ∉ ch→z.h b=some o→s'.heap.get? b=some o)) NoE z.s:=by
 induction B with
 | nil=>exact fun z ch l0 vs I _ hP hf _ _ _ _ _=>ļ ⟨rfl,ch,by simpa using hP,fun b hb=>.inl hb,⟨rfl,rfl⟩,fun _ _ _ e=>e⟩
 | @base c s0 Bn Ba np ap p1 p2 cp ep e1 e2 es r l hc n0 v0 hd hg hm2 Z J hes hln B ih=>
   intro z ch l0 vs I h0 hP hf hm nd hz hv hs
   simp only [Ŷ] at hd
   have mp:š true (.Name Bn np) X.env ap cp=pure cp:=by unfold š;rw [hln];rfl
   refine Ū (ŉ (œ (pl:=do return (← importBound (.Name Bn np) X.env).getD true) (he:=by
    show (eval (.Name Bn np) X.env >>= fun ov=>ř ap.atName >>= fun _=>holding [ov] (calleeOf true (.Name Bn np) X.env ov "__init__") >>= fun x=>š true (.Name Bn np) X.env ap cp >>= fun callPos=>Ŭ callPos x.1 x.2 (Ϻ cp (Δ [.Name s0 p1,.JoinedStr (e1 :: e2 :: es) p2] X.env)) (Í cp (Ϭ [] X.env)))=_
    rw [mp];rfl) (bz I hg hm2 (PySem.W.method_cls I.toHR.kin Z.ga (PySem.W.cls_value I.toHR.kin Z.rd Z.at_ rfl ?_)) hd.2)) I.quiet rfl)
   have I1:Rep X { z with s:={ z.s with toks:=z.s.toks+1 } }:=I.grow (aw I.gh .tok)
   refine Ã rfl (Ï (Ι (bT I1 n0 v0 h0 (Ι (bW I1.tk (H8 (pos:=p2) (xF J I1 (hs c hc) (by show ñ.length+1000 * (es.length+1+1)≤100000;have:ñ.length=0:=rfl;omega) fun out t ho=>⟨ϫ ho (by decide),fun tk5=>ϋ ?_⟩)))) hd.1.1 hd.1.2)))
   refine hB c hc (I.toHR.kin) hP (by rw [ċ];exact Ο rfl) fun h' hP' c2 k=>?_
   have W:Wr (frs X.fr) ch z.s.heap h':=⟨fun b o e _ n=>k b o n e,fun b o e n=>⟨o.slots,k b o n e⟩,fun b o e=>by
    by_cases m:b∈ch
    ·exact c2 b m
    ·exact ⟨o,k b o m e⟩⟩
   have I2:Rep X { z with s:={ z.s with heap:=h',toks:=t+1 } }:=I.wr W hf tk5
   refine Κ (ih { z with s:={ z.s with heap:=h',toks:=t+1 } } ch l0 vs I2 h0 hP' hf hm nd hz hv hs) (fun fl s' ⟨e,ch2,q1,q2,q3,q5⟩=>⟨e,ch2,q1,fun b hb=>(q2 b hb).imp_right fun w=>?_,q3,fun b o n e=>q5 b o n (k b o n e)⟩) fun _ _ w=>w
   cases q:z.h b with
   | none=>rfl
   | some o=>obtain ⟨o',e'⟩:=W.there b o q;rw [show h'.get? b=none from w] at e';cases e'
 | @cons s0 x f i p1 p2 p3 pos r l n0 ni v0 vi hd B ih=>
   intro z ch l0 vs I h0 hP hf hm nd hz hv hs
   simp only [Ŷ] at hd
   obtain ⟨⟨⟨d1,d2⟩,d3⟩,d4⟩:=hd
   match vs,hv with
   | [],hv=>cases hv
   | v :: vs,hv=>
     rw [ì,ì] at hv
     injection hv with hv1 hv2
     have nf:f ∉ l0.map (·.1)∧(l0.map (·.1) ++ [f] ++ l.map (·.1)).Nodup:=by
      rw [ì] at nd
      refine ⟨fun m=>?_,by simpa using nd⟩
      exact (ń.mp nd).2.2 f m f κ rfl
     refine Ū (ó (bT I ni vi hv1 (bT I n0 v0 h0 (bW I.tk (H.set I.toHR.kin hP (hm _ κ) nf.1 (by simp at hz;omega) fun h' ch' t hP' c1 c2 k tk=>?_)) d1 d2) d3 d4) eN)
     have W:Wr (frs X.fr) ch z.s.heap h':=⟨fun b o e _ n=>k b o n e,fun b o e n=>⟨o.slots,k b o n e⟩,fun b o e=>by
      by_cases m:b∈ch
      ·exact H.ex hP' b (c2 b m)
      ·exact ⟨o,k b o m e⟩⟩
     have I1:Rep X { z with s:={ z.s with heap:=h',toks:=t } }:=I.wr W hf tk
     have f1:∀ b∈ch',Fre X z b∧¬ Own z b:=fun b hb=>(c1 b hb).elim (hf b) fun n=>I.fre n
     refine Κ (ih { z with s:={ z.s with heap:=h',toks:=t } } ch' (l0 ++ [(f,v)]) vs I1 h0 hP' f1 (fun q m=>hm q (ι _ m)) (by rw [Õ];exact nf.2) (by simp at hz ⊢;omega) hv2 hs) (fun fl s' ⟨e,ch2,q1,q2,q3,q5⟩=>⟨e,ch2,by rw [Ô] at q1;exact q1,fun b hb=>?_,q3,fun b o n e=>?_⟩) fun _ _ w=>w
     ·rcases q2 b hb with w | w
      ·exact c1 b w
      ·refine .inr ?_
       cases q:z.h b with
       | none=>rfl
       | some o=>obtain ⟨o',e'⟩:=W.there b o q;rw [show h'.get? b=none from w] at e';cases e'
     ·by_cases m:b∈ch'
      ·rcases c1 b m with w | w
       ·exact ZX w n
       ·rw [show z.h b=none from w] at e;cases e
      ·exact q5 b o m (k b o n e)
structure FnI (X:Cx) (lv:Nat) (f:Α) (fd:Ý) (ps nm:List μ) (ck:Option (List Nat)):Prop where
 len:ps.length=nm.length+1
 run:∀ (A:Ϗ) (fr:List CL) (z:Z) (args:Args) (us:List ζ) (p:Α) (P:List Α→List (μ×ζ)→ϳ→Prop) (ch:List Α),bq lv A→HR { X with A:=A,fr:=fr } z→GJ z.s fd args (ps.zip (.ref p :: us))→us.length=nm.length→Pri X p nm P→(∀ c,ck=some c→Bas X p P∧∀ i∈c,∃ (n:Nat) (t:Tok),us[i]? = some (.int n t)∧n<100000)→P ch [] z.s.heap→(∀ b∈ch,z.G b=none∧¬ Mu z.ρ b∧b ∉ frs fr) →
  ĭ X.M A (.call (.ref f) args) (fun r s'=>r = .ok (.ret .none)∧∃ ch',P ch' (nm.zip us) s'.heap∧(∀ b∈ch',b∈ch∨z.h b=none)∧(s'.os=z.s.os∧s'.gens=z.s.gens)∧(∀ b o,b ∉ ch→z.h b=some o→s'.heap.get? b=some o)) z.s
theorem xk {name qual:μ} {params:E6} {body:List Ë} {scope:ē} {dV kV doc pm ct oc cd:ζ} {an od:Option Α} {osl:Array (Option ζ)} {ps:List μ} {f:Α} {k:Nat} {l:List (μ×Nat)} (lk:X.K.lookup f=some ⟨oc,od,.func (ϰ name qual params body scope dV kV doc pm an cd ct),osl⟩) (hcd:Ì X.K cd qual=true) (S:dH ps ps scope) (hn:ps.length=nm.length+1) (nd:nm.Nodup) (h9:nm.length<900) (hl:l=nm.zip (Ű 1 nm.length))
 {ck:Option (List Nat)} (hb:∀ A fr L,kj (cxF X X.cal X.cal1 ps qual scope f cd A fr L) ck body l):FnI X (k+1) f (ϰ name qual params body scope dV kV doc pm an cd ct) ps nm ck:=by
 refine ⟨hn,fun A fr z args us p P ch hr I hbd hlu H hB hP hc=>?_⟩
 have hl2:(Ϣ p :: us).length=ps.length:=by rw [Η];omega
 have KX:X.K.In z.s.heap:=I.kin
 have lim:z.s.heap.NoLimit:=I.md.nolimit.keeps (Rep.bk I)
 have hkind:∀ y∈ps.zip (.ref p :: us),scope.names.lookup y.1=some .local∨(scope.names.lookup y.1=some .cell∧((ET (z.s.heap.objs.size+1) scope.names []).lookup y.1).isSome=true):=fun ⟨n,v⟩ hy=>by
  rcases S.par n (ħ hy).1 with q | q
  ·exact .inl q
  ·exact .inr ⟨q,ŋ _ _ _ (.inl q)⟩
 refine Fv hr.depth (KX _ _ lk) rfl S.co S.gen rfl (Ez KX hcd) (hbd _ _ _ _ ?_)
 refine bW I.tk (Et S.kind hkind fun env he s1 x tk1=>?_)
 subst he
 refine ⟨lim.keeps x.toInCall.keep,codeAny_func ?_⟩
 have hk:∀ b o,z.h b=some o→s1.heap.get? b=some o:=x.toInCall.keep
 have J:=jp (es:=Ε (Ϣ p :: us).length none) (cal:=X.cal) (cal1:=X.cal1) S I hr hl2 (å ..) (fun i d e=>by rw [ï] at e;split at e <;> cases e) x tk1
 have lcf:∀ {a o},z.h a=some o→¬ Lc (cxF X X.cal X.cal1 ps qual scope f cd A fr z.s.heap.objs.size) a:=fun {a o} e h=>by
  have:z.s.heap.objs.size≤a:=by
   rcases h with rfl | ⟨y,e⟩
   ·exact Ω _
   ·exact ú (x.above y _ (Ä e))
  exact ZX (Ξ e) (CZ.mpr this)
 have noz:∀ {b},b∈ch→∃ o,z.h b=some o:=fun hb=>H.ex hP _ hb
 have hP1:P ch [] s1.heap:=H.keep hP fun b _ o e=>hk b o e
 have fc:∀ b∈ch,Fre (cxF X X.cal X.cal1 ps qual scope f cd A fr z.s.heap.objs.size) ⟨z.ρ,z.G,⟨Ε (Ϣ p :: us).length none ++ Ε (ps.length - ps.length) none,[],z.t.st⟩,(Ϣ p :: us).map some ++ Ε (ps.length - ps.length) none,s1⟩ b∧¬ Own ⟨z.ρ,z.G,⟨Ε (Ϣ p :: us).length none ++ Ε (ps.length - ps.length) none,[],z.t.st⟩,(Ϣ p :: us).map some ++ Ε (ps.length - ps.length) none,s1⟩ b:=fun b hb=>by
  obtain ⟨o,e⟩:=noz hb
  obtain ⟨c1,c2,c3⟩:=hc b hb
  refine ⟨⟨c1,c2,fun m=>?_,lcf e⟩,fun ⟨i,m,_⟩=>nomatch m⟩
  rcases π.mp (show b∈z.s.heap.objs.size :: frs fr from m) with q | q
  ·exact ZX (Ξ e) (by rw [q];exact Ď _)
  ·exact c3 q
 have lm:l.map (·.1)=nm:=by rw [hl,List.map_fst_zip (by simp)]
 have H':Pri (cxF X X.cal X.cal1 ps qual scope f cd A fr z.s.heap.objs.size) p nm P:=⟨H.ex,H.keep,H.set⟩
 refine Κ (uf H' (fun c e=>(hB c e).1) (hb A fr z.s.heap.objs.size) _ ch [] us J (eU (n:=ps.length - ps.length) (i:=0) rfl) hP1 fc (fun q m=>by rw [← lm];exact List.mem_map_of_mem m) (by rw [lm];simpa using nd) (by have:=ZS EC lm;rw [Θ] at this;simp;omega) ?_ fun c e i hi=>?_) (fun fl s' ⟨e,ch',q1,q2,q3,q5⟩=>?_) fun _ _ w=>w.elim
 ·rw [hl]
  refine List.ext_getElem? fun i=>?_
  rw [Ψ,Ψ]
  cases q:us[i]? with
  | none=>
    have:¬ i<us.length:=fun h=>by rw [Ζ h] at q;cases q
    rw [Ũ (by rw [Æ,List.length_range'];omega)];rfl
  | some v=>
    have hi:i<us.length:=(ς.mp q).1
    have e1:(nm.zip (Ű 1 nm.length))[i]? = some (nm[i]'(by omega),1+i):=by rw [ç];exact ⟨Ζ _,by rw [List.getElem?_range' (by omega)];simp⟩
    rw [e1]
    show some (((Ϣ p :: us).map some ++ Ε (ps.length - ps.length) none)[1+i]?)=some (some (some v))
    rw [eU (d:=v) (by rw [GY,À];exact q)]
 ·obtain ⟨n,t,e1,e2⟩:=(hB c e).2 i hi
  exact ⟨n,t,eU (d:=Đ n t) (by rw [À];exact e1),e2⟩
 ·subst e
  rw [lm] at q1
  have none1:∀ {a},s1.heap.get? a=none→z.h a=none:=fun {a} n=>by
   cases q:z.h a with
   | none=>rfl
   | some o=>rw [hk a o q] at n;cases n
  obtain ⟨h1,tk,e1,_⟩:=x.done
  exact ⟨rfl,ch',q1,fun b hb=>(q2 b hb).imp_right none1,⟨q3.1.trans (by rw [e1]),q3.2.trans (by rw [e1])⟩,fun b o n e=>q5 b o n (hk b o e)⟩
end
section
variable {X:Cx} {z z' z0 z1:Z}
theorem gC {C:Α} {x:μ} {Q:ζ→ν→Prop} {E:ζ→ν→Prop} (I:Rep X z) (kp:Ϙ X.K (.ref C)=true) (hg:Gl X x) (hm:X.mg x=some (.ref C)) (hd:(x == ("__debug__":μ))=false) (he:Δ (ea :: er) X.env=(false,eval ea X.env) :: Δ er X.env) (hpl:(Ϻ pos (Δ er X.env)).any (·.1)=false)
 (h:χ X.M X.A (spliced (Ϻ pos (Δ (ea :: er) X.env))) (fun us s'=>X.K.In s'.heap∧χ X.M X.A (call (.ref C) us) Q E s') E z.s):χ X.M X.A (eval (.Call (.Name x p) (ea :: er) [] pos) X.env) Q E z.s:=
 è (bz I hg hm (ī (h₀:=X.base) I.md.kin kp h he hpl) hd)
theorem yb {x:μ} {j:Nat} {cl:Cl} {i:CI} (F:bX X X.cal1 lv cl.init f) (hr:bq (lv+1) X.A) (M:Mk X.K i.ad f) (hcl:X.Γ.cl[j]? = some cl) (hw:cl.what=0) (hci:X.W.ci[j]? = some i) (hwh:X.W.what[j]? = some 0) (hg:Gl X x) (hm:X.mg x=some (.ref i.ad)) (ha:LA X (ea :: er) es) (hd:(x == ("__debug__":μ))=false) (he:Δ (ea :: er) X.env=(false,eval ea X.env) :: Δ er X.env) (hpl:(Ϻ pos (Δ er X.env)).any (·.1)=false):LE X (.Call (.Name x p) (ea :: er) [] pos) (.new j es):=fun br z I nb=>
 gC I M.kp hg hm hd he hpl ((ha true pos).go .refl I rfl nb fun z1 l us y1 x1 I1 r1 e1=>⟨I1.toHR.kin,ou F hr M hcl hw hci hwh x1 I1 r1 e1 nb⟩)
theorem uE {x:μ} {j:Nat} {cl:Cl} {i:CI} {fd:Ý} {ps:List μ} (F:FnI X lv f fd ps i.nm none) (hb:bU X.K fd ps []) (hr:bq (lv+1) X.A) (M:Mk X.K i.ad f) (C:Cls X.K i.ad) (na:∀ f∈i.nm,cL X.K i.ad f) (hcl:X.Γ.cl[j]? = some cl) (hci:X.W.ci[j]? = some i) (hwh:X.W.what[j]? = some 1) (hn:i.nm.length=cl.at_.length) (hg:Gl X x) (hm:X.mg x=some (.ref i.ad)) (ha:LA X (ea :: er) es) (hd:(x == ("__debug__":μ))=false) (he:Δ (ea :: er) X.env=(false,eval ea X.env) :: Δ er X.env) (hpl:(Ϻ pos (Δ er X.env)).any (·.1)=false):LE X (.Call (.Name x p) (ea :: er) [] pos) (.newd j es):=fun br z I nb=>
 gC I M.kp hg hm hd he hpl ((ha false pos).go .refl I rfl nb fun z1 l us y1 x1 I1 r1 e1=>⟨I1.toHR.kin,cI x1 I1 e1 nb fun d q=>by
  rw [hcl] at q
  obtain ⟨⟨_,hl⟩,rfl⟩:=aO (show (if cl.what=1∧l.length=cl.at_.length then some (D.ins j l) else none)=some d from q)
  have rs:=r1.rds
  have lu:us.length=i.nm.length:=by rw [← rs.len,hl,hn]
  have g:Gr z1.s { z1.s with heap:=(z1.s.heap.push Ϟ).push (ϡ i.ad z1.s.heap.objs.size) }:=⟨rfl,rfl,fun b o e=>τ _ (τ _ e)⟩
  have e1:(z1.s.heap.push Ϟ).get? z1.s.heap.objs.size=some Ϟ:=ψ z1.s.heap rfl
  have e2:((z1.s.heap.push Ϟ).push (ϡ i.ad z1.s.heap.objs.size)).get? (z1.s.heap.objs.size+1)=some (ϡ i.ad z1.s.heap.objs.size):=by
   have:=ψ (z1.s.heap.push Ϟ) (o:=ϡ i.ad z1.s.heap.objs.size) rfl
   rwa [ϯ] at this
  have n1:z1.h (z1.s.heap.objs.size+1)=none:=ϖ (Ñ _)
  have n0:=aL z1
  have ne:z1.s.heap.objs.size≠z1.s.heap.objs.size+1:=ϝ (ŕ _)
  have bd:=hb { z1.s with heap:=(z1.s.heap.push Ϟ).push (ϡ i.ad z1.s.heap.objs.size) } (.ref (z1.s.heap.objs.size+1) :: us) (I1.toHR.kin.keeps g.k) (by rw [ϕ,Η,F.len,lu])
  rw [ϕ] at bd
  have H1:=(I1.toHR.grow (aw I1.gh g) I1.tk).at (A:=X.A.under (.builtin "type.__call__" ⟨.ref i.ad :: us,[]⟩)) (eX i.ad us []) rfl
  refine Ċ (kW (f:=f) I1.toHR.kin M.makes M.init (beq_iff_eq.mp M.fn) (â (F.run _ X.fr { z1 with s:={ z1.s with heap:=(z1.s.heap.push Ϟ).push (ϡ i.ad z1.s.heap.objs.size) } } ⟨.ref (z1.s.heap.objs.size+1) :: us,[]⟩ us _ _ [z1.s.heap.objs.size+1,z1.s.heap.objs.size] (hr.make i.ad us []) H1 bd lu (vn C na) (fun _ e=>nomatch e) ⟨_,rfl,e2,ne,ϲ _,_,τ _ e1,#[],_,rfl,(fun e he=>ZX he (by simp)),.nil,fun _=>rfl⟩ fun b hb=>?_) fun r s' hq=>?_))
  ·rcases π.mp hb with w | w
   ·rw [w];exact ⟨(I1.fre n1).1.1,(I1.fre n1).1.2.1,(I1.fre n1).1.2.2.1⟩
   ·rw [η.mp w];exact ⟨(I1.fre n0).1.1,(I1.fre n0).1.2.1,(I1.fre n0).1.2.2.1⟩
  ·obtain ⟨rfl,ch',⟨dx,ec,io⟩,c1,os,k⟩:=hq
   have gr:Gr z1.s s':=⟨os.1,os.2,fun b o e=>k b o (fun m=>by
    have e:z1.h b=some o:=e
    rcases π.mp m with w | w
    ·rw [w,n1] at e;cases e
    ·rw [η.mp w,n0] at e;cases e) (g.k b o e)⟩
   have nd:z1.h dx=none:=by
    rcases c1 dx (by rw [ec];simp) with w | w
    ·rcases π.mp w with w | w
     ·rw [w];exact n1
     ·rw [η.mp w];exact n0
    ·cases q:z1.h dx with
     | none=>rfl
     | some o=>exact ZX (g.k dx o q) (by rw [show ((z1.s.heap.push Ϟ).push (ϡ i.ad z1.s.heap.objs.size)).get? dx=none from w];exact fun z=>nomatch z)
   obtain ⟨i1,i2,i3,oo,i4,i5⟩:=io
   exact ⟨rfl,gr,_,i,us,rfl,hci,by rw [hl,hn];exact Ω _,.inl ⟨hwh,dx,(fA n1).trans i1,i2,i3,oo,(fA nd).trans i4,i5⟩,rs.mono (ξ _) (b6 I1.gh gr).gg⟩⟩)
theorem rW {x:μ} {j:Nat} {k:Cl} {i:CI} {fd:Ý} {ps:List μ} {fI:Α} {Bx nwI iniI:String} {bmB:List ζ} {np cp pos:Ϫ} (Fb:Ģ Bx nwI iniI bmB) (O:iA X.K i.ad fI bmB nwI) {ck:Option (List Nat)} (F:FnI X lv fI fd ps i.nm ck) (hk:ck=none∨(ck=some k.chk∧iA X.K i.ad fI veB "ValueError.__new__")) (hb:bU X.K fd ps []) (hr:bq (lv+1) X.A) (Z:gx X.K i.ad) (na:∀ f∈i.nm,Ρ X.K (.ref i.ad) f=some none) (hcl:X.Γ.cl[j]? = some k) (hci:X.W.ci[j]? = some i) (hwh:X.W.what[j]? = some 2) (hn:i.nm.length=k.at_.length) (h0:k.at_.isEmpty=false)
 (be:Ϩ X.K i.ad (.type "BaseException")=some true) (ty:đ X.K (.ref i.ad)=some (.type "type")) (kp:Ϙ X.K (.ref i.ad)=true) (hc:X.calm=true) (hg:Gl X x) (hm:X.mg x=some (.ref i.ad)) (ha:LA X (ea :: er) es) (hd:(x == ("__debug__":μ))=false) (he:Δ (ea :: er) X.env=(false,eval ea X.env) :: Δ er X.env) (hpl:(Ϻ cp (Δ er X.env)).any (·.1)=false):LS X (.Raise (some (.Call (.Name x np) (ea :: er) [] cp)) none pos) (.rais j es):=fun z I nb=>by
 rw [arm_exec_Raise]
 refine ε (Ò (pN (K:=X.K) (C:=i.ad) be ty (I.hd hc) (ε ?_)))
 refine gC I kp hg hm hd he hpl ((ha false cp).gos (f:=fun l s=>if jm X.Γ j l then .exc j (pk X.Γ j l) s else .bad) .refl I rfl nb fun z1 l us y1 x1 I1 r1 e1=>⟨I1.toHR.kin,?_⟩)
 have rs:=r1.rds
 by_cases c:jm X.Γ j l=true
 rotate_left
 ·rw [ZY c] at e1;exact ZX e1 nb
 rw [ZZ c] at e1
 have ea:pk X.Γ j l=l:=by unfold pk;rw [hcl];exact ZY (by rw [h0];exact Ϡ)
 rw [ea] at e1
 unfold jm at c
 rw [hcl] at c
 dsimp only at c
 rw [ZY (by rw [h0];exact Ϡ)] at c
 simp only [Χ,decide_eq_true_eq] at c
 obtain ⟨⟨⟨c1,c2⟩,c3⟩,c4⟩:=c
 have c1:l.length=k.at_.length:=by simpa using c1
 have lu:us.length=i.nm.length:=by rw [← rs.len,c1,hn]
 have l0:l≠[]:=by intro w;rw [w] at c4;simp at c4
 refine qA (h:=z1.s.heap) (g:=z1.s.gens) (d:=z1.s.drawn) (t:=z1.s.toks) (os:=z1.s.os) Fb I1.toHR.kin O (by rw [← rs.len];exact big (by omega)) fun h' p m=>?_
 have kz:∀ b o,z1.h b=some o→h'.get? b=some o:=fun b o e=>m.keeps b o e
 have np:z1.h p=none:=m.new
 obtain ⟨tt,ht,_,_⟩:=m.there
 have g:Gr z1.s { z1.s with heap:=h' }:=⟨rfl,rfl,kz⟩
 have bd:=hb { z1.s with heap:=h' } (.ref p :: us) (I1.toHR.kin.keeps kz) (by rw [ϕ,Η,F.len,lu])
 rw [ϕ] at bd
 have H1:=(I1.toHR.grow (aw I1.gh g) I1.tk).at (A:=X.A.under (.builtin "type.__call__" ⟨.ref i.ad :: us,[]⟩)) (eX i.ad us []) rfl
 have fp:=I1.fre np
 refine bW I1.tk (Ċ (â (F.run _ X.fr { z1 with s:={ z1.s with heap:=h' } } ⟨.ref p :: us,[]⟩ us p _ [p] (hr.make i.ad us []) H1 bd lu (nY Z na) (fun c e=>?_) ⟨_,_,ht,rfl,rfl,rfl,.inl ⟨rfl,rfl,rfl⟩⟩ fun b hb=>?_) fun r s' hq=>?_))
 ·rcases hk with w | ⟨w,O'⟩
  ·rw [w] at e;cases e
  ·rw [w] at e;cases e
   refine ⟨tL O' (nY Z na),fun j hj=>?_⟩
   have sm:=ϓ.mp c2 j hj
   cases q:l[j]? with
   | none=>rw [q] at sm;cases sm
   | some d=>
     obtain ⟨u,hu,ru⟩:=rs.get q
     rw [q] at sm
     cases d with
     | int n=>
       obtain ⟨t,rfl⟩:=ru
       unfold sO at sm
       simp only [Χ,decide_eq_true_eq] at sm
       obtain ⟨m,rfl⟩:=Eo sm.1
       exact ⟨m,t,hu,by omega⟩
     | _=>cases sm
 ·rw [η.mp hb];exact ⟨fp.1.1,fp.1.2.1,fp.1.2.2.1⟩
 obtain ⟨rfl,ch',⟨o,vs,q1,q2,q3,q4,q5⟩,cc,os,kk⟩:=hq
 intro tk
 have gr:Gr z1.s s':=⟨os.1.trans g.os,os.2.trans g.gs,fun b o e=>kk b o (fun w=>by have e:z1.h b=some o:=e;rw [η.mp w,np] at e;cases e) (kz b o e)⟩
 rcases q5 with ⟨w,_,_⟩ | ⟨d,od,q6,q7,q8,q9,q10⟩
 ·have:i.nm.zip us≠[]:=fun w=>by
   have hl:=rs.len
   have:0<l.length:=List.length_pos_iff.mpr l0
   have w0:(i.nm.zip us).length=0:=by rw [w];rfl
   rw [Æ] at w0
   omega
  exact ZX w this
 have nd:z1.h d=none:=by
  rcases cc d (by rw [q8];simp) with w | w
  ·exact ZX (η.mp w) q7
  ·cases q:z1.h d with
   | none=>rfl
   | some o=>have:=kz d o q;rw [show h'.get? d=none from w] at this;cases this
 have fd:=I1.fre nd
 have gw:Grw z1 (fun b=>if b=d then some od else z1.G b) s':=⟨gr,fun b o e=>by
  by_cases c:b=d
  ·subst c;rw [fd.1.1] at e;cases e
  ·rw [ZY c];exact e,fun b o e=>by
  by_cases c:b=d
  ·subst c;rw [ZZ rfl] at e;cases e;exact q9
  ·rw [ZY c] at e;exact gr.k b o (I1.gh b o e),fun b o e=>by
  by_cases c:b=d
  ·subst c;exact .inr nd
  ·rw [ZY c] at e;exact .inl e⟩
 have I3:=I1.grow gw
 have pG:(if p=d then some od else z1.G p)=none:=by rw [ZY (ϥ q7)];exact fp.1.1
 refine ⟨rfl,ε (Ò (θ ⟨p,o,vs,rfl,I3.toHR.kin,q1,q2,q3,q4,{ z1 with G:=fun b=>if b=d then some od else z1.G b,s:=s' },j,l,rfl,e1,x1.trans gw.ee.go,I3,p,.ref i.ad,some d,rfl,⟨i,hci,hwh,rfl,by rw [c1,hn];exact Ω _,.inr ⟨d,od,us,rfl,ZZ rfl,q10,rs.mono (ξ _) gw.gg⟩⟩,⟨x1.st.no np,⟨pG,fp.1.2⟩,fp.2⟩,.inl ⟨o,vs,q1,⟨q2,q6⟩,q3,q4⟩⟩))⟩
def FnJ (X:Cx) (lv:Nat) (f:Α) (fd:Ý) (ps nm:List μ) (k:Cl) (C:Α):Prop:=∃ ck,FnI X lv f fd ps nm ck∧(ck=none∨(ck=some k.chk∧iA X.K C f veB "ValueError.__new__"))
end
def zw (K:υ) (C:Α) (bmB:List ζ) (newId:String):Prop:=∃ (nm q:μ) (N:Α) (bs bm:List ζ) (hdct:Bool) (sn:List μ) (sub:List ζ) (ab:Bool) (col:Option Bool) (dd:Option Α) (k0 k1 k2 k3 k5:Option ζ),
 K.lookup C=some (FD nm q C N bs bm hdct sn sub ab col dd k0 k1 k2 k3 k5 newId)∧PySem.W.nsOkIn K N=true∧ώ K N "__init__" = some none∧Fh K bmB bm=true
inductive TxP (X:Cx):List Λ→E→Prop
 | nil:TxP X [] .nil
 | c {x:μ} {j:Nat} {p:Ϫ} {r es}:x.length≤1000→TxP X r es→TxP X (.Constant (.str x) j p :: r) es
 | f {x:μ} {i:Nat} {p q:Ϫ} {r es}:X.N[i]? = some x→Vis X.env.scope x→((x == ("__debug__":μ)) || (x == ("__classdict__":μ)))=false→TxP X r es→TxP X (.FormattedValue (.Name x p) (-1) none q :: r) (.cons (.op .add (.v i) (.c (.int 0))) es)
 | r {x:μ} {i:Nat} {p q:Ϫ} {r es}:X.N[i]? = some x→Vis X.env.scope x→((x == ("__debug__":μ)) || (x == ("__classdict__":μ)))=false→TxP X r es→TxP X (.FormattedValue (.Name x p) 114 none q :: r) (.cons (.op .add (.v i) (.c (.str ""))) es)
 | g {x:μ} {j:Nat} {u:ζ} {d:L2.Bk.Dk} {p q:Ϫ} {r es}:Gl X x→X.mg x=some u→X.Γ.gl[j]? = some d→ba X.K d u=true→(x == ("__debug__":μ))=false→TxP X r es→TxP X (.FormattedValue (.Name x p) (-1) none q :: r) (.cons (.op .add (.g j) (.c (.int 0))) es)
section
variable {X:Cx} {z:Z}
inductive TxA (X:Cx):Λ→E→Prop
 | c {x:μ} {j:Nat} {p:Ϫ}:x.length≤1000→TxA X (.Constant (.str x) j p) .nil
 | j {e1 e2:Λ} {r:List Λ} {p:Ϫ} {es:E}:TxP X (e1 :: e2 :: r) es→r.length≤8→TxA X (.JoinedStr (e1 :: e2 :: r) p) es
end
end L2.Ev
namespace L2.Ev
theorem l6 {prog:ϴ} {w:Û} {A:Ϗ} {E:ζ→ν→Prop} {s:ν} {Q:Option ζ→ν→Prop} {δ:Type} {R:δ→ζ→Prop} {a:Α} {D:List (μ×δ)} {z:μ} {tz:Tok} {d:δ}
 (T:FG R s.heap a D) (hat:Ç z D=some d) (h:∀ v,R d v→Q (some v) { s with toks:=s.toks+1 }):χ (model prog w) A (DL a (.str z tz)) Q E s:=by
 obtain ⟨_,o,es,ep,ho,_,hd,hr⟩:=T
 obtain ⟨v,hv,hfl⟩:=hr.find_some hat
 have all:(es.all fun e=>isExactStrKey e.key)=true:=by
  obtain ⟨l⟩:=es
  simpa using hr.exact
 have hq:Q (Ex (fun k v=>v.isStr k) es z) { s with toks:=s.toks+1 }:=by
  rw [show Ex (fun k v=>v.isStr k) es z=some v by obtain ⟨l⟩:=es;simpa [Ex] using hv]
  exact h v hfl
 rw [Gb] at hq
 unfold DL
 refine Τ ?_
 refine ε (DW (ε (EM (s:={ s with toks:=s.toks+1 }) ho hd all ?_)))
 cases hi:es.findIdx? fun e=>e.key.isStr z with
 | none=>
   rw [hi] at hq
   exact θ hq
 | some i=>
   rw [hi] at hq
   exact ε (Gw (s:={ s with toks:=s.toks+1 }) ho hd (θ hq))
theorem mX {prog:ϴ} {w:Û} {A:Ϗ} {E:ζ→ν→Prop} {s:ν} {Q:Option ζ→ν→Prop} {δ:Type} {R:δ→ζ→Prop} {a:Α} {D:List (μ×δ)} {z:μ} {tz:Tok}
 (T:FG R s.heap a D) (hat:Ç z D=none) (h:Q none { s with toks:=s.toks+1 }):χ (model prog w) A (DL a (.str z tz)) Q E s:=by
 obtain ⟨_,o,es,ep,ho,_,hd,hr⟩:=T
 have hv:=hr.find_none hat
 have all:(es.all fun e=>isExactStrKey e.key)=true:=by
  obtain ⟨l⟩:=es
  simpa using hr.exact
 have hq:Q (Ex (fun k v=>v.isStr k) es z) { s with toks:=s.toks+1 }:=by
  rw [show Ex (fun k v=>v.isStr k) es z=none by obtain ⟨l⟩:=es;simpa [Ex] using hv]
  exact h
 rw [Gb] at hq
 unfold DL
 refine Τ (ε (DW (ε (EM (s:={ s with toks:=s.toks+1 }) ho hd all ?_))))
 cases hi:es.findIdx? fun e=>e.key.isStr z with
 | none=>
   rw [hi] at hq
   exact θ hq
 | some i=>
   rw [hi] at hq
   exact ε (Gw (s:={ s with toks:=s.toks+1 }) ho hd (θ hq))
section
variable {X:Cx} {z z1:Z} {a:Α} {t:List (μ×L2.Bk.Dk)} {j:Nat} {x:μ}
abbrev TbL (X:Cx) (a:Α) (t:List (μ×L2.Bk.Dk)):Prop:=DE (ba X.K) (fun b=>X.K.lookup b) a t=true
theorem ke (I:HR X z) (hK:TbL X a t):FG (fun d v=>ba X.K d v=true) z.s.heap a t:=KTD.tab_of_look (fun _ _ h=>h) (fun b o e=>I.kin b o e) hK
theorem yd (hg:Gl X x) (hm:X.mg x=some (.ref a)) (ht:X.Γ.tb[j]? = some t) (hK:TbL X a t) (hb:LE X eb b) (hs:jt eb) (hd:(x == ("__debug__":μ))=false) (hl:∀ r,letTemporaryGo (.Name x p) (.ref a) r=pure ()):LE X (.Subscript (.Name x p) eb pos) (.tab j b):=fun br z I nb=>
 Gf (bz I hg hm ((hb true).go .refl I rfl nb fun z1 d u y1 x1 I1 r1 e1=>by
  rw [ht] at e1
  cases d with
  | str k=>
    obtain ⟨tz,rfl⟩:=(r1.rb.cr0 I1:RD X.W z1.ρ z1.G (.str k) u)
    have T:=ke I1.toHR hK
    have ty:z1.s.TypeIs (.ref a) "dict":=by obtain ⟨_,o,_,_,ho,hc,_⟩:=T;exact ⟨o,ho,hc.1⟩
    refine cI x1 I1 e1 nb fun d q=>?_
    obtain ⟨d0,hat,rfl⟩:=φ.mp q
    refine subscriptTail_builtin ty DI.lookup ?_ (hs _ _) hl
    unfold DJ
    refine Τ (ε (DG ty (by decide) (ε (Â (name:=Ϯ "__getitem__") ty DI (Ð DI ty entry_dict_getitem ?_ (args_dict_getitem _ _))))))
    show χ _ _ (DL a (.str k tz) >>= _) _ _ z1.s
    exact ε (l6 T hat fun v hv=>θ ⟨v,rfl,θ (.old I1 .tok (I1.toHR.top hv))⟩)
  | _=>exact ZX e1 nb) hd)
theorem sR {k:μ} {tz:Tok} {Q:Bool→ν→Prop} {E:ζ→ν→Prop} (I:HR X z) (hK:TbL X a t) (q:∀ n,Q (Ç k t).isSome { z.s with toks:=n }):χ X.M X.A (contains (.ref a) (.str k tz)) Q E z.s:=by
 have T:=ke I hK
 have ty:z.s.TypeIs (.ref a) "dict":=by obtain ⟨_,o,_,_,ho,hc,_⟩:=T;exact ⟨o,ho,hc.1⟩
 have nsm:=T.1
 unfold contains
 refine Τ ?_
 refine ε (Ž ty Du.lookup ?_)
 show χ _ _ (if (some (FP "dict.__contains__") == some Ϛ)=true then _ else _) _ _ z.s
 rw [ZY (by rw [beq_builtin_none];exact Ϡ)]
 refine ε (wpAny_callSpecialUnlessNone?_slot (name:=Ϯ "__contains__") ty Du (Ð Du ty entry_dict_contains ?_ (args_dict_contains _ _)))
 show χ _ _ (DL a (.str k tz) >>= _) _ _ z.s
 cases hat:Ç k t with
 | some d=>
   rw [hat] at q
   refine ε (l6 T hat fun v _=>?_)
   show χ _ _ (ret (.bool true)) _ _ _
   exact θ ⟨_,rfl,ϵ (q _)⟩
 | none=>
   rw [hat] at q
   refine ε (mX T hat ?_)
   show χ _ _ (Hk a (.str k tz) >>= _) _ _ _
   exact ε (wpAny_pendingKey_other nsm (θ ⟨_,rfl,ϵ (q _)⟩))
theorem lA {k:μ} {tz:Tok} {Q:ζ→ν→Prop} {E:ζ→ν→Prop} (I:HR X z) (hK:TbL X a t) (q:∀ n,Q (.bool (Ç k t).isSome) { z.s with toks:=n }):χ X.M X.A (Ú .In (.str k tz) (.ref a)) Q E z.s:=
 show χ _ _ (do return ϩ (← contains (.ref a) (.str k tz))) _ _ z.s from ε (sR I hK fun n=>θ (q n))
theorem rM (hg:Gl X x) (hm:X.mg x=some (.ref a)) (ht:X.Γ.tb[j]? = some t) (hK:TbL X a t) (hb:LE X eb b) (hd:(x == ("__debug__":μ))=false) (h1:ð .In (.Name x p)=false):LE X (.Compare eb [.In] [.Name x p] pos) (.tabin j b):=fun br z I nb=>
 CU ((hb true).go .refl I rfl nb fun z1 d u y1 x1 I1 r1 e1=>by
  rw [ht] at e1
  cases d with
  | str k=>
    obtain ⟨tz,rfl⟩:=(r1.rb.cr0 I1:RD X.W z1.ρ z1.G (.str k) u)
    exact bz I1 hg hm (bW I1.tk (lA I1.toHR hK fun n tk=>Dn.at x1 I1 e1 (.tok fun _ _ _=>rfl) tk)) hd
  | _=>exact ZX e1 nb) h1
theorem r6 (hg:Gl X x) (hm:X.mg x=some (.ref a)) (ht:X.Γ.tb[j]? = some t) (hK:TbL X a t) (hb:LE X eb b) (hd:(x == ("__debug__":μ))=false) (h1:ð .In (.Name x p)=false):LT X (.Compare eb [.In] [.Name x p] pos) (.tabin j b):=fun z I nb=>
 Ħ ((hb true).go .refl I (aq ..) nb fun z1 d u y1 x1 I1 r1 e1=>by
  rw [ht] at e1
  cases d with
  | str k=>
    obtain ⟨tz,rfl⟩:=(r1.rb.cr0 I1:RD X.W z1.ρ z1.G (.str k) u)
    exact bz I1 hg hm (bW I1.tk (lA I1.toHR hK fun n tk=>(Dn.tok (X:=X) (z:=z1) (d:=.bl (Ç k t).isSome) (n:=n) fun _ _ _=>rfl).tru x1 I1 e1 nb tk)) hd
  | _=>exact ZX e1 nb) h1
end
section
variable {X:Cx} {z z1:Z}
structure M2 (X:Cx) (o:Λ) (m:μ) (apos:Ϫ) (e f:Λ) (cpos:Ϫ):Prop where
 base:Ē o m X.env (eval o X.env)=eval o X.env
 few:((Ϻ cpos (Δ [e,f] X.env)).all (fun x=>!x.1) && (Í cpos (Ϭ [] X.env)).all (fun x=>x.1.isSome) && decide (([e,f]:List Λ).length+([]:List Ź).length+(if ([]:List Ź).isEmpty then 0 else 1)<30))=true
 line:(apos.endLine == cpos.line)=true
 trees:Ϻ cpos (Δ [e,f] X.env) = [(false,eval e X.env),(false,eval f X.env)]
theorem uG {ad:Α} {t:List (μ×L2.Bk.Dk)} {j:Nat} {x:μ} (hg:Gl X x) (hm:X.mg x=some (.ref ad)) (ht:X.Γ.tb[j]? = some t) (hK:TbL X ad t) (hd:(x == ("__debug__":μ))=false) (hb:LE X eb b) (hc:LE X ec c) (m:M2 X (.Name x p) "get" apos eb ec cpos):LE X (.Call (.Attribute (.Name x p) "get" apos) [eb,ec] [] cpos) (.tget j b c):=fun br z I nb=>
 Ć m.base m.few m.line PySem.F.plainAttrs_dict E9 PySem.F.type_dict_get (bz I hg hm (by
  obtain ⟨_,o1,_,_,ho1,hc1,_⟩:=id (ke I.toHR hK)
  refine ⟨⟨o1,ho1,hc1.1⟩,fun b q=>(by cases q;exact ⟨o1,ho1,hc1.2.1⟩),?_⟩
  rw [m.trees]
  refine Ã rfl (Ï (Ι ((hb true).go .refl I rfl nb fun z2 y iv y2 x2 I2 r2 e2=>Ι ((hc false).go x2 I2 e2 nb fun z3 w fv y3 x3 I3 r3 e3=>ϋ ?_))))
  rw [ht] at e3
  cases y with
  | str k=>
    obtain ⟨tz,rfl⟩:=(r2.rb.cr0 I2:RD X.W z2.ρ z2.G (.str k) iv)
    have T:=ke I3.toHR hK
    have ty':z3.s.TypeIs (.ref ad) "dict":=by obtain ⟨_,o,_,_,ho,hc,_⟩:=T;exact ⟨o,ho,hc.1⟩
    have nsm:=T.1
    have e3:X.ev br (.tget j b c) z.t = .ok (((Ç k t).map toD).getD w) z3.t:=e3
    refine Ð E9 ty' PySem.F.entry_dict_get ?_ (PySem.F.args_dict_get_3 _ _ _)
    show χ _ _ (DL ad (.str k tz) >>= _) _ _ z3.s
    cases hat:Ç k t with
    | some d=>
      rw [hat] at e3
      exact ε (l6 T hat fun v hv=>θ ⟨v,rfl,Dn.at x3 I3 e3 (.old I3 .tok (I3.toHR.top hv))⟩)
    | none=>
      rw [hat] at e3
      refine ε (mX T hat ?_)
      show χ _ _ (Hl ad (.str k tz) >>= _) _ _ _
      exact ε (wpAny_missed_other nsm (θ ⟨fv,rfl,Dn.at x3 I3 e3 (.old I3 .tok r3.rd)⟩))
  | _=>exact ZX e3 nb) hd)
theorem ip:∀ {l ss vs},cA l=some ss→RDs W ρ G l vs→StrsAre vs ss
 | [],ss,vs,e,r=>by cases e;cases (show vs = [] from r);exact .nil
 | d :: l,ss,vs,e,r=>by
   cases d with
   | str b=>
     obtain ⟨cs,q,rfl⟩:=φ.mp (show (cA l).map (b :: ·)=some ss from e)
     obtain ⟨v,r',rfl,⟨t,rfl⟩,tl⟩:=r
     exact .cons b t (ip q tl)
   | _=>cases e
theorem uA {x:μ} (ha:LE X ea a) (m:M1 X (.Constant (.str x) j p) "join" apos ea cpos):LE X (.Call (.Attribute (.Constant (.str x) j p) "join" apos) [ea] [] cpos) (.join x a):=fun br z I nb=>
 Ć m.base m.few m.line PySem.F.plainAttrs_str PySem.F.slot_str_join PySem.F.type_str_join (ö (by
  refine ⟨G5 _ _ _,(fun b q=>by cases q),?_⟩
  rw [m.trees]
  have g:Gr z.s { z.s with toks:=z.s.toks+1 }:=.tok
  refine Ã rfl (Ï (Ι ((ha true).go (z:=z) (z1:={ z with s:={ z.s with toks:=z.s.toks+1 } }) (aw I.gh g).ee (I.grow (aw I.gh g)) rfl nb fun z1 d u y1 x1 I1 r1 e1=>ϋ (cI x1 I1 e1 nb fun d2 e=>?_))))
  have cr:=r1.rb.cr I1
  revert e cr
  generalize look z1.t.st d=cc
  intro e cr
  cases cc with
  | lst l=>
    obtain ⟨ss,h1,h2⟩:=ϗ.mp (show ((cA l).bind fun ss=>if x.length≤64∧(ss.map (·.length)).sum≤100000∧ss.length≤1000 then some (D.str (Txt.join x ss)) else none)=some d2 from e)
    obtain ⟨c,rfl⟩:=aO h2
    obtain ⟨ad,o,vs,rfl,ho,⟨⟨n,rfl⟩,hz⟩,w⟩:=cr
    refine join_list (ys:=ss) (show z1.s.heap.IsList ad vs.toArray from ⟨_,ho,rfl,n,rfl⟩) (by simpa using ip h1 w) ?_ fun t' k=>.tok fun _ _ _=>⟨_,rfl⟩
    have:=Gj c.2.2 c.1
    omega
  | _=>cases e))
theorem xX {x y:μ} (hx:x.length≤1000) (hy:y.length≤1000) (ha:LE X ea a):LE X (.JoinedStr [.Constant (.str x) j1 p1,.FormattedValue ea (-1) none p2,.Constant (.str y) j2 p3] pos) (.fmt x a y):=fun br z I nb=>by
 have l0:ñ.length=0:=rfl
 have sz:∀ n,n≤200000→n≤ϟ:=fun n h=>ϫ h (by decide)
 have g:Gr z.s { z.s with toks:=z.s.toks+1 }:=.tok
 refine H8 ?_
 show χ _ _ (eval (.Constant (.str x) j1 p1) X.env) _ _ _
 refine ö ⟨x,_,rfl,sz _ (by rw [Ϲ,l0];omega),?_⟩
 show χ _ _ (eval (.FormattedValue ea (-1) none p2) X.env) _ _ _
 refine FH ((ha true).go (z:=z) (z1:={ z with s:={ z.s with toks:=z.s.toks+1 } }) (aw I.gh g).ee (I.grow (aw I.gh g)) rfl nb fun z1 d u y1 x1 I1 r1 e1=>?_)
 cases d with
 | str k=>
   obtain ⟨tk,rfl⟩:=(r1.rb.cr0 I1:RD X.W z1.ρ z1.G (.str k) u)
   cases q:qG x (.str k) y with
   | none=>rw [q] at e1;exact ZX e1 nb
   | some d2=>
     rw [q] at e1
     obtain ⟨c,rfl⟩:=aO (show (if x.length≤1000∧k.length≤100000∧y.length≤1000 then some (D.str (((ñ ++ x) ++ k) ++ y)) else none)=some d2 from q)
     have fin:∀ n tt,X.tz≤n→∃ k' t',ĝ k tt = .str k' t'∧((ñ ++ x) ++ k').length≤ϟ∧Joins X.M X.A (Px X z (X.ev br (.fmt x a y) z.t)) (evalEach [.Constant (.str y) j2 p3] X.env) ((ñ ++ x) ++ k') (fun out s₁=>out.length≤ϟ∧Pe X z (X.ev br (.fmt x a y) z.t) (RV X.W br (.fmt x a y)) (.str out s₁.toks) { s₁ with toks:=s₁.toks+1 }) { z1.s with toks:=n }:=fun n tt hn=>⟨k,tt,rfl,sz _ (by rw [Ϲ,Ϲ,l0];omega),by
      show χ _ _ (eval (.Constant (.str y) j2 p3) X.env) _ _ _
      exact ö ⟨y,_,rfl,sz _ (by rw [Ϲ,Ϲ,Ϲ,l0];omega),sz _ (by rw [Ϲ,Ϲ,Ϲ,l0];omega),Dn.at x1 I1 e1 (.tok fun _ _ _=>⟨_,rfl⟩) (by first | exact ϒ hn | exact ϒ (ϒ hn))⟩⟩
     exact wpAny_formatField_str (fin z1.s.toks tk I1.toHR.tk) (fin _ _ I1.toHR.tk1) (sz _ (by omega))
 | _=>exact ZX e1 nb
end
theorem mI:Ew (.type "list_reverseiterator") "__len__" = pure none:=by rw [H9,Fw];kernel_rfl
theorem sI:Ew (.type "list_reverseiterator") "__length_hint__" = pure (some (.builtin "list_reverseiterator.__length_hint__")):=by rw [H9,Fw];kernel_rfl
section
variable {prog:ϴ} {w:Û} {A:Ϗ} {E:ζ→ν→Prop} {s:ν}
theorem t8 {R:Result→ν→Prop} {r l S:Α} {xs:Array ζ} {c0:Nat} {res:ζ} (hh:A.handled=none) (hn:xs.size≤ϟ) (g:s.heap.IsRevIter r l ((xs.size:Int) - 1)) (gl:s.heap.IsList l xs) (ne:l≠r)
 (hS:s.heap.get? S=some { cls:=.type "list",data:=.seq #[] c0 }) (n1:S≠r) (n2:S≠l)
 (q:∀ h1 tk acc c1,(∀ b o,b≠S→b≠r→s.heap.get? b=some o→h1.get? b=some o)→h1.get? S=some { cls:=.type "list",dict:=none,data:=.seq acc c1,slots:=#[] }→ItemsOf (fun i v=>xs[xs.size - 1 - i]? = some v) acc xs.size→R (.ok (.ret res)) { s with heap:=h1,toks:=tk }) :
 χ (model prog w) A.in1 (ò (.ref S) (.ref r) res)
  (fun fin s1=>match fin with | .done f=>R (.ok f) s1 | .again c1=>c1.quiet=true∧ĭ (model prog w) A c1 R s1) (fun e s1=>R (.error e) s1) s:=by
 have ty:=g.typeIs
 unfold ò
 refine ε (DF ty ?_)
 have a1:D7 (.ref S) (.ref r)=false:=by simp [D7,n1]
 have a2:(č "list_reverseiterator" == č "list")=false:=by decide
 have a3:(č "list_reverseiterator" == č "tuple")=false:=by decide
 simp only [a1,a2,a3,Ň,á,if_false]
 refine ε (wpAny_pyIter_revIter g (ε (Τ ?_)))
 unfold Hj
 refine ε (Ž ty mI ?_)
 show χ _ A.in1 (specialOf (Ϣ r) (Ϯ "__length_hint__") >>= fun _=>_) _ _ _
 refine ε (Ž ty sI ?_)
 have W:=(Walks.listRev (prog:=prog) (w:=w) (A:=A.in1) hh r l ne xs).toS
 have nS:S ∉ [r,l]:=by simp [n1,n2]
 have sp:splitId "list_reverseiterator.__length_hint__" = some ("list_reverseiterator","__length_hint__"):=by decide +kernel
 dsimp only
 simp only [sp]
 refine ε (GN (T:="list_reverseiterator") (b:=true) ty (by rw [isSubtype_type];kernel_rfl) ?_)
 refine ž (fun z=>ZX z (by decide)) fun _=>?_
 refine ž (fun _=>?_) (fun z=>ZX (by decide +kernel) z)
 refine ž (fun z=>ZX z (by decide +kernel)) fun _=>θ ?_
 refine ž (fun z=>ZX z (by decide +kernel)) fun _=>?_
 refine θ ⟨Š F.plain_extend_loop _,codeAny_extend_loopS W hn S nS res xs.size 0 _ _ _ rfl (ϲ _) ⟨ϲ _,by simpa using g,gl⟩ hS (ItemsOf.nil _) fun s1 acc c1 hm hS1 hacc=>?_⟩
 rw [Moved.eq_with hm]
 refine q s1.heap s1.toks acc c1 (fun b o z1 z2 e=>hm.heap b o (fun z=>?_) e) hS1 hacc
 rcases π.mp z with z | z
 ·exact z1 z
 ·exact z2 (η.mp z)
theorem jy {r l:Α} {xs:Array ζ} {Q:ζ→ν→Prop} (hh:A.handled=none) (hn:xs.size≤ϟ) (g:s.heap.IsRevIter r l ((xs.size:Int) - 1)) (gl:s.heap.IsList l xs) (ne:l≠r)
 (q:∀ h1 tk acc c1,(∀ b o,b≠r→s.heap.get? b=some o→h1.get? b=some o)→h1.get? s.heap.objs.size=some { cls:=.type "list",dict:=none,data:=.seq acc c1,slots:=#[] }→ItemsOf (fun i v=>xs[xs.size - 1 - i]? = some v) acc xs.size →
  Q (.ref s.heap.objs.size) { s with heap:=h1,toks:=tk }):χ (model prog w) A (call (.type "list") [.ref r]) Q E s:=by
 refine callType_codes (Q₁:=fun obj s1=>obj = .ref s.heap.objs.size∧s1={ s with heap:=s.heap.push { cls:=.type "list",data:=.seq #[] } }) F.called_list (F.typeCall_list_1 _) F.entry_list_init (code_list_new _ ⟨rfl,rfl⟩) fun obj s1 z=>?_
 obtain ⟨e,e'⟩:=z
 subst e e'
 have hS:(s.heap.push { cls:=.type "list",data:=.seq #[] }).get? s.heap.objs.size=some { cls:=.type "list",data:=.seq #[] }:=ψ _ rfl
 have rlt:r<s.heap.objs.size:=by obtain ⟨_,e,_⟩:=g;exact Ξ e
 have llt:l<s.heap.objs.size:=by obtain ⟨_,e,_⟩:=gl;exact Ξ e
 refine ⟨⟨_,hS,rfl⟩,F.args_list_init_2 _ _,?_⟩
 show χ _ _ (do let old ← Ds (.ref s.heap.objs.size);Hh (.ref s.heap.objs.size) (fun _=>#[]);letGo old.toList.reverse;ò (.ref s.heap.objs.size) (.ref r) .none) _ _ _
 refine ε ?_
 unfold Ds
 refine ε (Ö hS rfl (θ ?_))
 show χ _ _ (GQ s.heap.objs.size (fun _=>#[]) >>= fun _=>letGo (#[]:Array ζ).toList.reverse >>= fun _=>ò (.ref s.heap.objs.size) (.ref r) .none) _ _ _
 refine ε (ĺ hS rfl (ε (į ?_)))
 have oth:∀ b o,s.heap.get? b=some o→((s.heap.push { cls:=.type "list",data:=.seq #[] }).update s.heap.objs.size (í (fun _=>(#[]:Array ζ)))).get? b=some o:=fun b o e=>
  (ϑ _ _ (Î (Ξ e))).trans (τ _ e)
 refine t8 (A:=A.in1) hh hn (g.at fun o e=>oth r o e) (gl.at fun o e=>oth l o e) ne (ϣ (í (fun _=>(#[]:Array ζ))) hS rfl) (Î rlt) (Î llt) fun h1 tk acc c1 k1 k2 k3=>⟨rfl,?_⟩
 exact q h1 tk acc c1 (fun b o n1 e=>k1 b o (ϝ (Ξ e)) n1 (oth b o e)) k2 k3
end
section
variable {X:Cx} {z z1:Z}
theorem pw {us:List ζ} {acc:Array ζ} (h:ItemsOf (fun i v=>us.toArray[us.toArray.size - 1 - i]? = some v) acc us.toArray.size):acc.toList=us.reverse:=by
 obtain ⟨h1,h2⟩:=h
 refine List.ext_getElem (by simpa using h1) fun i l1 l2=>?_
 have k:=h2 i acc[i] (Ŀ (by simpa using l1))
 have l3:i<us.length:=by simpa using l2
 rw [List.getElem_reverse]
 have k':us[us.length - 1 - i]? = some acc[i]:=by simpa using k
 rw [Ζ (by omega)] at k'
 simpa using (Ϥ k').symm
theorem yh {p1 p2 pos pos2:Ϫ} (hc:X.calm=true) (g1:Blt X "list" (.type "list")) (g2:Blt X "reversed" (.type "reversed")) (ha:LE X ea a) (hs:Δ [ea] X.env=(false,eval ea X.env) :: Δ [] X.env) (hs2:Δ [.Call (.Name "reversed" p2) [ea] [] pos2] X.env=(false,eval (.Call (.Name "reversed" p2) [ea] [] pos2) X.env) :: Δ [] X.env):LF X (.Call (.Name "list" p1) [.Call (.Name "reversed" p2) [ea] [] pos2] [] pos) (.bi .rev (.cons a .nil)):=fun z I nb=>
 bt (.inr ⟨_,rfl⟩) g1 hs2 rfl I (Ι (bt (.inr ⟨_,rfl⟩) g2 hs rfl I (Ι ((ha true).go .refl I (ev1 fun l s=>Out.of s (biD .rev (l.map (look s.st)))) nb fun z1 x u y1 x1 I1 r1 e1=>ϋ (by
  have cr:=r1.rb.cr I1
  have e1:X.ev false (.bi .rev (.cons a .nil)) z.t=Out.of z1.t (fP .rev (look z1.t.st x)):=e1
  revert e1 cr
  generalize look z1.t.st x=cc
  intro cr e1
  cases cc with
  | lst l=>
    obtain ⟨ad,o,vs,rfl,ho,⟨⟨n,rfl⟩,hz⟩,r⟩:=cr
    have pl:z1.s.heap.IsList ad vs.toArray:=⟨_,ho,rfl,n,rfl⟩
    refine call_reversed_list pl (ϋ ?_)
    refine bW I1.tk (jy (I1.hd hc) (by simp;omega) ⟨_,ψ _ rfl,rfl,rfl⟩ (pl.at fun o e=>τ _ e) (ϝ (Ξ ho)) fun h1 tk acc c1 k1 k2 k3 tk0=>?_)
    have w:=pw k3
    have nn:z1.h (z1.s.heap.push (revObj ad ((vs.toArray.size:Int) - 1))).objs.size=none:=ϖ (by rw [ϯ];exact Ñ _)
    obtain ⟨z2,d,q1,q2,y,I2,fv⟩:=(Dw.lst (X:=X) (z:=z1) (s':={ z1.s with heap:=h1,toks:=tk }) (k:=c1) r.rev (.hp fun b o e=>k1 b o (ϝ (Ξ e)) (τ _ e)) nn (by show h1.get? _=_;rw [k2,← w]) (by rw [List.length_reverse];exact hz)).pe I1 tk0
    exact ⟨z2,d,q1,e1.trans q2,x1.trans y,I2,fv.less x1⟩
  | _=>exact ZX e1 nb)))))
end
structure Zd where
 it:Α
 fp:List Α
 n:Nat
 P:Nat→ζ→Prop
 St:Nat→ϳ→Prop
abbrev IsT (h:ϳ) (T:Α) (l:List ζ):Prop:=h.get? T=some { cls:=.type "tuple",data:=.seq l.toArray }
structure ZOk (prog:ϴ) (w:Û) (A:Ϗ) (n:Nat) (l:List Zd) (z TI TO:Α):Prop where
 dr:∀ d∈l,Fc prog w A d.it d.fp d.n d.P d.St∧n≤d.n∧d.it∈d.fp∧z ∉ d.fp∧TO ∉ d.fp∧TI≠d.it
 ap:∀ (i j:Nat) (d e:Zd),l[i]? = some d→l[j]? = some e→i≠j→d.it ∉ e.fp
 hd:∃ d r,l=d :: r∧d.n=n
 zT:z≠TI∧z≠TO∧TI≠TO
 sz:l.length≤ϟ
section
variable {prog:ϴ} {w:Û} {A:Ϗ} {E:ζ→ν→Prop} {s:ν} {n i:Nat} {l:List Zd} {z TI TO:Α} {old:List ζ}
theorem vE {Q:ζ→ν→Prop} (D:ZOk prog w A n l z TI TO) (hz:D0 s.heap z TI TO .none) (hTI:IsT s.heap TI (l.map fun d=>.ref d.it)) (hTO:IsT s.heap TO old) (hl:old.length=l.length) (hi:i<n) (st:∀ d∈l,d.St i s.heap)
 (hQ:∀ h' tk vals,D0 h' z TI TO (Ê s.heap.objs.size)→IsT h' TO vals→vals.length=l.length→(∀ d∈l,d.St (i+1) h')→(∀ (j:Nat) (d:Zd) v,l[j]? = some d→vals[j]? = some v→d.P i v)→IsT h' s.heap.objs.size vals→h'.objs.size=s.heap.objs.size+1 →
  (∀ b o,b≠z→b≠TO→(∀ d∈l,b≠d.it)→s.heap.get? b=some o→h'.get? b=some o)→Q (.ref s.heap.objs.size) { s with heap:=h',toks:=tk }) :
 χ (model prog w) A (ŝ.«zip.__next__» ⟨[.ref z],[]⟩) (fun fin s'=>∃ v,fin = .done (.ret v)∧Q v s') E s:=by
 have ne:((l.map fun d=>Ϣ d.it).toArray.isEmpty)=false:=by obtain ⟨d,r,rfl,_⟩:=D.hd;simp
 show χ _ _ (field (.ref z) 2 >>= _) _ _ _;refine ε (Ϝ hz rfl (x:=.bool false) rfl ?_)
 show χ _ _ (field (.ref z) 3 >>= _) _ _ _;refine ε (Ϝ hz rfl (x:=.ref TI) rfl ?_)
 refine ε (Ö hTI rfl ?_)
 simp only [ne]
 show χ _ _ (É (.ref z) >>= _) _ _ _
 refine ε ?_;unfold É;refine ε (Ϝ hz rfl (x:=.none) rfl (θ ?_));simp only [if_true]
 refine ε (ŷ ?_);refine ε (Ϝ hz rfl (x:=.ref TO) rfl ?_);refine ε (Ę hz (by simp) fun h₁ hz₁ hs₁=>?_)
 replace hz₁:D0 h₁ z TI TO .ellipsis:=hz₁
 refine ε ?_
 refine wpAny_forIn_list _ (fun rem r s'=>r=⟨none,()⟩∧∃ h tk vals,s'={ s with heap:=h,toks:=tk }∧rem=((l.drop vals.length).map fun d=>Ϣ d.it).zipIdx vals.length∧vals.length≤l.length∧D0 h z TI TO .ellipsis∧IsT h TO (vals ++ old.drop vals.length)∧(∀ (j:Nat) (d:Zd),l[j]? = some d→d.St (if j<vals.length then i+1 else i) h)∧(∀ (j:Nat) (d:Zd) v,l[j]? = some d→vals[j]? = some v→d.P i v)∧h.objs.size=s.heap.objs.size∧(∀ b o,b≠z→b≠TO→(∀ d∈l,b≠d.it)→s.heap.get? b=some o→h.get? b=some o)) _ (fun x rem r s' hI=>?_) (fun r s' hI=>?_) _ _ ⟨rfl,h₁,s.toks,[],rfl,?_,ϲ _,hz₁,?_,fun j d e=>?_,fun j d v _ e=>by simp at e,hs₁.1,fun b o h _ _ e=>hs₁.extBut _ _ h e⟩
 ·obtain ⟨rfl,h,tk,vals,rfl,er,hv,gz,gT,gS,gP,gs,gk⟩:=hI
  cases q:l.drop vals.length with
  | nil=>rw [q] at er;cases er
  | cons d r=>
    rw [q,ì,Fy] at er
    cases er
    have hd:l[vals.length]? = some d:=by have:=CQ (xs:=l) (i:=vals.length) (j:=0);rw [q] at this;simpa using this.symm
    have hlt:=(ς.mp hd).1
    obtain ⟨dw,dn,di,dz,dT,dI⟩:=D.dr d (ο hd)
    refine ε (ED ?_);show χ _ _ (ϸ (.ref d.it) >>= _) _ _ _
    have g0:=gS _ d hd
    rw [ZY (Ď _)] at g0
    refine ε (dw.item i _ _ _ (ä hi dn) g0 fun x h2 tk2 hP hst hs2=>θ ?_)
    replace hs2:Ü d.it h h2:=hs2
    have zi:z≠d.it:=fun e=>dz (e ▸ di)
    have Ti:TO≠d.it:=fun e=>dT (e ▸ di)
    have gT2:IsT h2 TO (vals ++ old.drop vals.length):=hs2.extBut _ _ Ti gT
    refine ε (Ö gT2 rfl ?_);have hsz:(vals ++ old.drop vals.length).length≤ϟ:=by have:=D.sz;rw [ω,Dp];omega
    refine ε (ĺ gT2 rfl ?_ (by simpa using hsz) (by simpa using ϒ hsz))
    refine ε (į (θ ⟨rfl,h2.update TO _,tk2,vals ++ [x],rfl,?_,?_,?_,?_,fun j e he=>?_,fun j e v he hv'=>?_,?_,fun b o b1 b2 b3 e=>?_⟩))
    ·rw [ω,ϊ,← List.drop_drop,q];rfl
    ·rw [ω,ϊ];exact hlt
    ·exact (æ ..).extBut _ _ D.zT.2.1 (hs2.extBut _ _ zi gz)
    ·show (h2.update TO _).get? TO=_
     rw [ϣ _ gT2 rfl]
     have ho:vals.length<old.length:=by omega
     have e4:(vals ++ old.drop vals.length).set vals.length x=vals ++ [x] ++ old.drop (vals ++ [x]).length:=by
      rw [List.set_append_right _ _ (Ω _),ı,ω,ϊ,ŀ ho,List.set_cons_zero,Ô];rfl
     rw [← e4]
     simp [í]
    ·obtain ⟨ew,en,ei,ez,eT,eI⟩:=D.dr e (ο he)
     have fr:∀ {f:Ea→Ea},∀ b∈e.fp,∀ o,h2.get? b=some o→(h2.update TO f).get? b=some o:=fun b hb o q=>(æ ..).extBut _ _ (fun w=>eT (w ▸ hb)) q
     rw [ω,ϊ]
     by_cases c:j=vals.length
     ·subst c
      rw [hd] at he;cases he
      rw [ZZ (ŕ _)]
      exact dw.frame _ _ _ hst fr
     ·have g1:=gS j e he
      have hne:=D.ap _ _ _ _ hd he (ϥ c)
      have:(if j<vals.length+1 then i+1 else i)=(if j<vals.length then i+1 else i):=by
       by_cases c2:j<vals.length
       ·rw [ZZ c2,ZZ (by omega)]
       ·rw [ZY c2,ZY (by omega)]
      rw [this]
      exact ew.frame _ _ _ (ew.frame _ _ _ g1 fun b hb o q=>hs2.extBut _ _ (fun w=>hne (w ▸ hb)) q) fr
    ·by_cases c:j<vals.length
     ·rw [ό c] at hv'
      exact gP j e v he hv'
     ·rw [Ν (by omega)] at hv'
      have:j - vals.length=0:=by
       have:=(ς.mp hv').1
       simp at this;omega
      rw [this] at hv'
      cases hv'
      have:j=vals.length:=by omega
      subst this
      rw [hd] at he;cases he;exact hP
    ·exact (æ h2 TO _).1.trans (hs2.1.trans gs)
    ·exact (æ ..).extBut _ _ b2 (hs2.extBut _ _ (b3 d (ο hd)) (gk b o b1 b2 b3 e))
 ·obtain ⟨rfl,h,tk,vals,rfl,er,hv,gz,gT,gS,gP,gs,gk⟩:=hI
  have el:vals.length=l.length:=by
   have:=ZS EC er
   simp at this;omega
  rw [el,← hl,ŏ,ϕ] at gT
  show χ _ _ (D4 (.ref TO) >>= _) _ _ _
  refine ε (Ö gT rfl ?_);refine ε (wpAny_newTuple ?_ (by have:=D.sz;simpa using (show vals.length≤ϟ by omega)))
  have hzlt:z<h.objs.size:=Ξ gz
  show χ _ _ (ĸ (.ref z) (.ref h.objs.size) >>= _) _ _ _
  refine ε ?_;unfold ĸ
  have hz₈:D0 (h.push { cls:=.type "tuple",data:=.seq vals.toArray }) z TI TO .ellipsis:=τ _ gz
  refine ε (Ę hz₈ (by simp) fun h₉ hz₉ hs₉=>?_)
  replace hz₉:D0 h₉ z TI TO (Ê h.objs.size):=hz₉
  refine Ę hz₉ (by simp) fun hA hzA hsA=>?_
  replace hzA:D0 hA z TI TO (Ê h.objs.size):=hzA
  have up:∀ d o,d≠z→h.get? d=some o→hA.get? d=some o:=fun d o c1 e=>hsA.extBut _ _ c1 (hs₉.extBut _ _ c1 (τ _ e))
  have hTA:IsT hA h.objs.size vals:=hsA.extBut _ _ (Î hzlt) (hs₉.extBut _ _ (Î hzlt) (ψ _ rfl))
  have hzA8:hA.objs.size=h.objs.size+1:=by rw [hsA.1,hs₉.1,ϯ]
  refine θ ⟨_,rfl,?_⟩
  show Q (.ref h.objs.size) _
  rw [gs] at hzA hTA hzA8 ⊢
  refine hQ hA tk vals hzA (up _ _ (ϥ D.zT.2.1) gT) el (fun d hd=>?_) gP hTA hzA8 fun b o b1 b2 b3 e=>up b o b1 (gk b o b1 b2 b3 e)
  obtain ⟨j,hj⟩:=þ.mp hd
  have g1:=gS j d hj
  rw [ZZ (by rw [el];exact (ς.mp hj).1)] at g1
  obtain ⟨dw,_,_,dz,_⟩:=D.dr d hd
  exact dw.frame _ _ _ g1 fun b hb o q=>up b o (fun w=>dz (w ▸ hb)) q
 ·simp
 ·rw [û,Υ,Ķ];exact hs₁.extBut _ _ (ϥ D.zT.2.1) hTO
 ·obtain ⟨dw,_,_,dz,_⟩:=D.dr d (ο e)
  rw [Υ,ZY (Ŧ _)]
  exact dw.frame _ _ _ (st d (ο e)) fun b hb o q=>hs₁.extBut _ _ (fun w=>dz (w ▸ hb)) q
theorem zo {Q:Fin→ν→Prop} (D:ZOk prog w A n l z TI TO) (hz:D0 s.heap z TI TO .none) (hTI:IsT s.heap TI (l.map fun d=>.ref d.it)) (st:∀ d∈l,d.St n s.heap)
 (hE:∀ h' e,(∀ b o,b≠z→(∀ d∈l,b≠d.it)→s.heap.get? b=some o→h'.get? b=some o)→(∃ o,h'.get? e=some o∧o.cls = .type "StopIteration")→E (.ref e) { s with heap:=h' }) :
 χ (model prog w) A (ŝ.«zip.__next__» ⟨[.ref z],[]⟩) Q E s:=by
 obtain ⟨d,r,rfl,hn⟩:=D.hd
 obtain ⟨dw,dn,di,dz,dT,dI⟩:=D.dr d κ
 show χ _ _ (field (.ref z) 2 >>= _) _ _ _;refine ε (Ϝ hz rfl (x:=.bool false) rfl ?_)
 show χ _ _ (field (.ref z) 3 >>= _) _ _ _;refine ε (Ϝ hz rfl (x:=.ref TI) rfl ?_)
 refine ε (Ö hTI rfl ?_)
 simp only [show (((d :: r).map fun d=>Ϣ d.it).toArray.isEmpty)=false by simp]
 show χ _ _ (É (.ref z) >>= _) _ _ _
 refine ε ?_;unfold É;refine ε (Ϝ hz rfl (x:=.none) rfl (θ ?_));simp only [if_true]
 refine ε (ŷ ?_);refine ε (Ϝ hz rfl (x:=.ref TO) rfl ?_);refine ε (Ę hz (by simp) fun h₁ hz₁ hs₁=>?_)
 replace hz₁:D0 h₁ z TI TO .ellipsis:=hz₁
 refine ε ?_;simp only [ì,Fy,Ĩ]
 refine ε (ε (ED ?_));show χ _ _ (ϸ (.ref d.it) >>= _) _ _ _
 have s1:d.St d.n h₁:=by rw [hn];exact dw.frame _ _ _ (st d κ) fun b hb o q=>hs₁.extBut _ _ (fun w=>dz (w ▸ hb)) q
 refine ε (dw.done _ _ _ s1 fun h₂ e hs₂ he=>?_)
 obtain ⟨oe,hoe,hce⟩:=he
 have zi:z≠d.it:=fun e=>dz (e ▸ di)
 have hz₂:D0 h₂ z TI TO .ellipsis:=hs₂ _ _ zi hz₁
 have hez:e≠z:=fun x=>by subst x;rw [hz₂] at hoe;cases hoe;simp at hce
 exact Ę hz₂ (by simp) fun h₃ _ hs₃=>hE h₃ e (fun b o c1 c3 x=>hs₃.extBut _ _ c1 (hs₂ _ _ (c3 d κ) (hs₁.extBut _ _ c1 x))) ⟨oe,hs₃.extBut _ _ hez hoe,hce⟩
theorem pU (D:ZOk prog w A.in1 n l z TI TO):Ey prog w A z (z :: TI :: TO :: l.flatMap (·.fp)) (z :: TO :: l.map (·.it)) n
 (fun i vals=>∃ vs:List ζ,vals=vs.toArray∧vs.length=l.length∧∀ (j:Nat) (d:Zd) v,l[j]? = some d→vs[j]? = some v→d.P i v)
 (fun i h=>D0 h z TI TO .none∧IsT h TI (l.map fun d=>.ref d.it)∧(∃ vs,IsT h TO vs∧vs.length=l.length)∧∀ d∈l,d.St i h)
 (fun i T h=>(D0 h z TI TO (Ê T)∧IsT h TI (l.map fun d=>.ref d.it)∧(∃ vs,IsT h TO vs∧vs.length=l.length)∧(∀ d∈l,d.St (i+1) h)∧T≠z∧T≠TO∧∀ d∈l,T≠d.it)∧Exa h T) where
 sub:=fun b hb=>by
  rcases π.mp hb with rfl | hb
  ·exact κ
  rcases π.mp hb with rfl | hb
  ·exact ι _ (ι _ κ)
  obtain ⟨d,hd,rfl⟩:=ϱ.mp hb
  exact ι _ (ι _ (ι _ (ϻ.mpr ⟨d,hd,(D.dr d hd).2.2.1⟩)))
 frame:=fun i h h' ⟨h1,h2,⟨vs,h3,h4⟩,h5⟩ hk=>⟨hk z (by simp) _ h1,hk TI (by simp) _ h2,⟨vs,hk TO (by simp) _ h3,h4⟩,fun d hd=>(D.dr d hd).1.frame _ _ _ (h5 d hd) fun b hb o e=>hk b (ι _ (ι _ (ι _ (ϻ.mpr ⟨d,hd,hb⟩)))) o e⟩
 item:=fun i s Q E hi ⟨h1,h2,⟨vs,h3,h4⟩,h5⟩ hQ=>by
  have hT:s.TypeIs (.ref z) "zip":=⟨_,h1,rfl⟩
  unfold DY
  refine ε (Di (Â (name:=Ϯ "__next__") hT ŵ (Ð ŵ hT Gp (vE D h1 h2 h3 h4 hi h5 fun h' tk vals a1 a2 a3 a4 a5 a6 a7 a8=>θ ?_) (FW _))))
  have lt:∀ {c o},s.heap.get? c=some o→s.heap.objs.size≠c:=fun e=>Î (Ξ e)
  refine hQ s.heap.objs.size vals.toArray h' tk ⟨vals,rfl,a3,a5⟩ (Ω _) ⟨_,a6,rfl,_,rfl⟩ ⟨⟨a1,a8 _ _ (ϥ D.zT.1) D.zT.2.2 (fun d hd=>(D.dr d hd).2.2.2.2.2) h2,⟨vals,a2,a3⟩,a4,lt h1,lt h3,fun d hd=>?_⟩,fun o q=>(by rw [a6] at q;cases q;rfl)⟩ fun b o hb e=>a8 b o (fun w=>hb (w ▸ κ)) (fun w=>hb (w ▸ ι _ κ)) (fun d hd w=>hb (w ▸ ι _ (ι _ (ϱ.mpr ⟨d,hd,rfl⟩)))) e
  obtain ⟨o,e⟩:=(D.dr d hd).1.live i _ (h5 d hd)
  exact lt e
 go:=fun elts k pos i T s Q E ⟨⟨h1,h2,⟨vs,h3,h4⟩,h5,t1,t2,t3⟩,_⟩ hQ=>wpAny_letOwnedTupleGo_zip h1 fun h' hz' hs'=>hQ h' ⟨hz',hs'.extBut _ _ (ϥ D.zT.1) h2,⟨vs,hs'.extBut _ _ (ϥ D.zT.2.1) h3,h4⟩,fun d hd=>(D.dr d hd).1.frame _ _ _ (h5 d hd) fun b hb o e=>hs'.extBut _ _ (fun w=>(D.dr d hd).2.2.2.1 (w ▸ hb)) e⟩ fun b o hb e=>hs'.extBut _ _ (fun w=>hb (w ▸ κ)) e
 apart:=fun i T h ⟨⟨_,_,_,_,t1,t2,t3⟩,_⟩ hT=>by
  rcases π.mp hT with w | hT
  ·exact t1 w
  rcases π.mp hT with w | hT
  ·exact t2 w
  obtain ⟨d,hd,w⟩:=ϱ.mp hT
  exact t3 d hd w.symm
 done:=fun s Q E ⟨h1,h2,_,h5⟩ hQ=>by
  have hT:s.TypeIs (.ref z) "zip":=⟨_,h1,rfl⟩
  unfold DY
  refine ε (Di (Â (name:=Ϯ "__next__") hT ŵ (Ð ŵ hT Gp (zo D h1 h2 h5 fun h' e hk he=>?_) (FW _))))
  obtain ⟨o,ho,hc⟩:=he
  refine ε (GN (T:="StopIteration") (b:=true) ⟨o,ho,hc⟩ isSubtype_stop ?_)
  exact θ (hQ h' s.toks fun b o hb e=>hk b o (fun w=>hb (w ▸ κ)) (fun d hd w=>hb (w ▸ ι _ (ι _ (ϱ.mpr ⟨d,hd,rfl⟩)))) e)
 self:=fun i s Q E hst hQ=>GK hst.1 hQ
end
end L2.Ev
end
section
namespace PySem
namespace F
theorem z3_typeCall (a b c):checkTypeCall "zip" ⟨[a,b,c],[]⟩=pure ():=by kernel_rfl
theorem z3_newCall (a b c):ū "zip.__new__" ⟨[.type "zip",a,b,c],[]⟩=pure ():=by kernel_rfl
theorem z3_args_init (a b c d):Ff "object.__init__" ⟨[a,b,c,d],[]⟩:=by
 unfold Ff;rw [signature?_of (id:="object.__init__") (n:=['_','_','t','i','n','i','_','_']) (o:=['t','c','e','j','b','o']) (by kernel_rfl) owner_object];kernel_rfl
end F
section
variable {prog:ϴ} {w:Û} {A:Ϗ} {E:ζ→ν→Prop} {s:ν}
theorem fV (hit:s.heap.IsTupleIter it t i) (ht:s.heap.IsTuple t items) (hx:items[i]? = some x)
 (hQ:∀ h',h'.IsTupleIter it t (i+1)→Ü it s.heap h'→Q x { s with heap:=h' }):χ (model prog w) A (ϸ (.ref it)) Q E s:=by
 obtain ⟨o,ho,hc,hd⟩:=id hit
 obtain ⟨ol,hol,_,nl,hdl⟩:=ht
 unfold ϸ
 refine ε (Â (name:=Ϯ "__next__") hit.typeIs Ĉ (Ð Ĉ hit.typeIs Eb ?_ (E4 _)))
 show χ _ _ (field (.ref it) 0 >>= _) _ _ s;refine ε (Ϝ ho hd (x:=.ref t) rfl ?_)
 show χ _ _ (if (Ϣ t == Ϛ)=true then _ else _) _ _ s;rw [ZY (show ¬ ((Ϣ t == Ϛ)=true) from Ϡ)]
 show χ _ _ (field (.ref it) 1 >>= _) _ _ s;refine ε (Ϝ ho hd (x:=.int i 0) rfl ?_)
 show χ _ _ (D4 (.ref t) >>= _) _ _ s;refine ε (Ö hol hdl ?_);simp only [Dh,hx]
 refine ε (Ġ ho hd (by simp) (θ ⟨x,rfl,θ (hQ _ ?_ (æ ..))⟩))
 exact ⟨_,ϣ _ ho (ÿ (ù hd _)),(Df ..).trans hc,by rw [ù hd];simp [Ê]⟩
theorem iu (hh:A.handled=none) (hit:s.heap.IsTupleIter it t i) (ht:s.heap.IsTuple t items) (hx:items[i]? = none)
 (hE:∀ h' e,H0 it s.heap h'→(∃ o,h'.get? e=some o∧o.cls = .type "StopIteration")→E (.ref e) { s with heap:=h' }):χ (model prog w) A (ϸ (.ref it)) Q E s:=by
 obtain ⟨o,ho,hc,hd⟩:=id hit
 obtain ⟨ol,hol,_,nl,hdl⟩:=ht
 unfold ϸ
 refine ε (Â (name:=Ϯ "__next__") hit.typeIs Ĉ (Ð Ĉ hit.typeIs Eb ?_ (E4 _)))
 show χ _ _ (field (.ref it) 0 >>= _) _ _ s;refine ε (Ϝ ho hd (x:=.ref t) rfl ?_)
 show χ _ _ (if (Ϣ t == Ϛ)=true then _ else _) _ _ s;rw [ZY (show ¬ ((Ϣ t == Ϛ)=true) from Ϡ)]
 show χ _ _ (field (.ref it) 1 >>= _) _ _ s;refine ε (Ϝ ho hd (x:=.int i 0) rfl ?_)
 show χ _ _ (D4 (.ref t) >>= _) _ _ s;refine ε (Ö hol hdl ?_);simp only [Dh,hx]
 refine ε (ŷ (ε (Ġ ho hd (by simp) ?_)));show χ _ _ (newExc (.type "StopIteration") [] >>= _) _ _ _
 refine ε ?_;simp only [newExc,newTuple];refine ε (È ?_ (by size_fits))
 refine ε (m:=firstArgMember _ _) (CT (a:=Ϛ) (by first | rfl | (simp only [firstArgMember];rfl)) ?_);refine È ?_ (by size_fits)
 simp only [raiseNew];refine ε (wpAny_handled ?_);first | rw [show A.in1.handled=none from hh] | rw [hh]
 refine ε (θ (FA ?_));exact hE _ _ (((æ ..).extBut.push _).push _) ⟨_,ψ _ rfl,rfl⟩
end
end PySem
namespace L2.Ev
theorem fJ {prog:ϴ} {w:Û} {A:Ϗ} (hh:A.handled=none) (it l:Α) (hne:l≠it) (items:Array ζ) :
 Fc prog w A it [it,l] items.size (fun i v=>items[i]? = some v) (fun i h=>h.IsTupleIter it l i∧h.IsTuple l items) where
 live:=fun _ _ st=>let ⟨o,ho,_⟩:=st.1;⟨o,ho⟩
 frame:=fun _ _ _ st hk=>⟨st.1.at fun o e=>hk it (by simp) o e,st.2.at fun o e=>hk l (by simp) o e⟩
 item:=fun i s Q E hi st hQ=>fV st.1 st.2 (x:=items[i]) (by simp [hi]) fun h' hit' hs'=>hQ _ h' s.toks (by simp [hi]) ⟨hit',st.2.extBut hs'.extBut hne⟩ hs'
 done:=fun s Q E st hE=>iu hh st.1 st.2 (by simp) hE
def b8 (h:ϳ) (k:Bool) (a:Α) (xs:Array ζ):Prop:=(k=true∧h.IsTuple a xs)∨(k=false∧h.IsList a xs)
def itN:Bool→String
 | true=>"tuple_iterator"
 | false=>"list_iterator"
abbrev itO (k:Bool) (a:Α):Ea:={ cls:=.type (itN k),data:=.fields #[.ref a,.int 0 0] }
section
variable {prog:ϴ} {w:Û} {A:Ϗ} {E:ζ→ν→Prop} {s:ν} {k k1 k2 k3:Bool} {a a1 a2 a3:Α} {xs ys zs:Array ζ}
theorem b8.push (h:b8 h0 k a xs) (o:Ea):b8 (h0.push o) k a xs:=h.imp (fun ⟨e,q⟩=>⟨e,Heap.IsTuple.push q o⟩) fun ⟨e,q⟩=>⟨e,Heap.IsList.push q o⟩
theorem eE {Q:ζ→ν→Prop} (h:b8 s.heap k a xs) (q:Q (.ref s.heap.objs.size) { s with heap:=s.heap.push (itO k a) }):χ (model prog w) A (ş (.ref a)) Q E s:=by
 rcases h with ⟨rfl,h⟩ | ⟨rfl,h⟩
 ·exact ę h q
 ·exact ą h q
theorem tu (k1 k2:Bool) (a1 a2:Α) (xs ys:Array ζ) :
 GF (ŝ.«zip.__new__» ⟨[.type "zip",.ref a1,.ref a2],[]⟩) (fun _ R s=>b8 s.heap k1 a1 xs∧b8 s.heap k2 a2 ys ∧
  R (.ok (.ret (.ref (((((s.heap.push (itO k1 a1)).push (itO k2 a2)).push { cls:=.type "tuple",data:=.seq #[.ref s.heap.objs.size,.ref (s.heap.push (itO k1 a1)).objs.size] }).push { cls:=.type "tuple",data:=.seq #[.none,.none] })).objs.size)))
    { s with heap:=(((((s.heap.push (itO k1 a1)).push (itO k2 a2)).push { cls:=.type "tuple",data:=.seq #[.ref s.heap.objs.size,.ref (s.heap.push (itO k1 a1)).objs.size] }).push { cls:=.type "tuple",data:=.seq #[.none,.none] }).push { cls:=.type "zip",data:=.fields #[.none,.bool false,.bool false,.ref ((s.heap.push (itO k1 a1)).push (itO k2 a2)).objs.size,.ref (((s.heap.push (itO k1 a1)).push (itO k2 a2)).push { cls:=.type "tuple",data:=.seq #[.ref s.heap.objs.size,.ref (s.heap.push (itO k1 a1)).objs.size] }).objs.size] }) }):=
 .of_wp fun prog w A R s h=>by
  obtain ⟨hp,g,d,tk,os⟩:=s;obtain ⟨h1,h2,h⟩:=h
  have hsub:=sub_zip
  have L1:b8 (ť ⟨hp,g,d,tk,os⟩) k1 a1 xs:=h1
  have L2:b8 (ť ⟨hp.push (itO k1 a1),g,d,tk,os⟩) k2 a2 ys:=h2.push _
  wp_walk using eE L1,eE L2
  exact ⟨_,rfl,h⟩
abbrev zH2 (h:ϳ) (k1 k2:Bool) (a1 a2:Α):ϳ:=((h.push (itO k1 a1)).push (itO k2 a2))
theorem tw (k1 k2 k3:Bool) (a1 a2 a3:Α) (xs ys zs:Array ζ) :
 GF (ŝ.«zip.__new__» ⟨[.type "zip",.ref a1,.ref a2,.ref a3],[]⟩) (fun _ R s=>b8 s.heap k1 a1 xs∧b8 s.heap k2 a2 ys∧b8 s.heap k3 a3 zs ∧
  R (.ok (.ret (.ref (((((zH2 s.heap k1 k2 a1 a2).push (itO k3 a3)).push { cls:=.type "tuple",data:=.seq #[.ref s.heap.objs.size,.ref (s.heap.push (itO k1 a1)).objs.size,.ref (zH2 s.heap k1 k2 a1 a2).objs.size] }).push { cls:=.type "tuple",data:=.seq #[.none,.none,.none] })).objs.size)))
    { s with heap:=(((((zH2 s.heap k1 k2 a1 a2).push (itO k3 a3)).push { cls:=.type "tuple",data:=.seq #[.ref s.heap.objs.size,.ref (s.heap.push (itO k1 a1)).objs.size,.ref (zH2 s.heap k1 k2 a1 a2).objs.size] }).push { cls:=.type "tuple",data:=.seq #[.none,.none,.none] }).push { cls:=.type "zip",data:=.fields #[.none,.bool false,.bool false,.ref ((zH2 s.heap k1 k2 a1 a2).push (itO k3 a3)).objs.size,.ref (((zH2 s.heap k1 k2 a1 a2).push (itO k3 a3)).push { cls:=.type "tuple",data:=.seq #[.ref s.heap.objs.size,.ref (s.heap.push (itO k1 a1)).objs.size,.ref (zH2 s.heap k1 k2 a1 a2).objs.size] }).objs.size] }) }):=
 .of_wp fun prog w A R s h=>by
  obtain ⟨hp,g,d,tk,os⟩:=s;obtain ⟨h1,h2,h3,h⟩:=h
  have hsub:=sub_zip
  have L1:b8 (ť ⟨hp,g,d,tk,os⟩) k1 a1 xs:=h1
  have L2:b8 (ť ⟨hp.push (itO k1 a1),g,d,tk,os⟩) k2 a2 ys:=h2.push _
  have L3:b8 (ť ⟨(hp.push (itO k1 a1)).push (itO k2 a2),g,d,tk,os⟩) k3 a3 zs:=(h3.push _).push _
  wp_walk using eE L1,eE L2,eE L3
  exact ⟨_,rfl,h⟩
def psh (h:ϳ):List Ea→ϳ
 | []=>h
 | o :: r=>psh (h.push o) r
theorem dO:∀ {l:List Ea} {h:ϳ} {b o},h.get? b=some o→(psh h l).get? b=some o
 | [],_,_,_,e=>e
 | a :: r,h,_,_,e=>dO (l:=r) (h:=h.push a) (τ _ e)
theorem bO:∀ {l:List Ea} {h:ϳ} {j:Nat} {o:Ea},l[j]? = some o→o.isFreed=false→(psh h l).get? (h.objs.size+j)=some o
 | [],_,_,_,e,_=>by simp at e
 | a :: r,h,0,o,e,q=>by simp at e;subst e;exact dO (l:=r) (h:=h.push a) (ψ _ q)
 | a :: r,h,j+1,o,e,q=>by
   have:=bO (h:=h.push a) (j:=j) (l:=r) (by simpa using e) q
   rw [ϯ] at this
   rw [show h.objs.size+(j+1)=h.objs.size+1+j by omega];exact this
theorem o6 {Q:ζ→ν→Prop} (h1:b8 s.heap k1 a1 xs) (h2:b8 s.heap k2 a2 ys)
 (h:∀ h',h'=psh s.heap [itO k1 a1,itO k2 a2,{ cls:=.type "tuple",data:=.seq #[.ref s.heap.objs.size,.ref (s.heap.objs.size+1)] },{ cls:=.type "tuple",data:=.seq #[.none,.none] },{ cls:=.type "zip",data:=.fields #[.none,.bool false,.bool false,.ref (s.heap.objs.size+2),.ref (s.heap.objs.size+3)] }]→Q (.ref (s.heap.objs.size+4)) { s with heap:=h' }) :
 χ (model prog w) A (call (.type "zip") [.ref a1,.ref a2]) Q E s:=by
 refine callType_new F.called_zip (by decide) (F.typeCall_zip_2 _ _) (F.newCall_zip_2 _ _) (fun obj=>F.args_object_init_3 obj _ _) GH (tu k1 k2 a1 a2 xs ys) ⟨h1,h2,?_⟩
 have z1:=@ϯ
 show _∧_
 simp only [ϯ]
 exact ⟨⟨_,by rw [show s.heap.objs.size+4=(((((s.heap.push (itO k1 a1)).push (itO k2 a2)).push { cls:=.type "tuple",data:=.seq #[.ref s.heap.objs.size,.ref (s.heap.objs.size+1)] }).push { cls:=.type "tuple",data:=.seq #[.none,.none] })).objs.size by simp only [ϯ]];exact ψ _ rfl,rfl⟩,h _ rfl⟩
end
section
variable {prog:ϴ} {w:Û} {A:Ϗ} {E:ζ→ν→Prop} {s:ν} {k k1 k2 k3:Bool} {a a1 a2 a3:Α} {xs ys zs:Array ζ}
theorem o7 {Q:ζ→ν→Prop} (h1:b8 s.heap k1 a1 xs) (h2:b8 s.heap k2 a2 ys) (h3:b8 s.heap k3 a3 zs)
 (h:∀ h',h'=psh s.heap [itO k1 a1,itO k2 a2,itO k3 a3,{ cls:=.type "tuple",data:=.seq #[.ref s.heap.objs.size,.ref (s.heap.objs.size+1),.ref (s.heap.objs.size+2)] },{ cls:=.type "tuple",data:=.seq #[.none,.none,.none] },{ cls:=.type "zip",data:=.fields #[.none,.bool false,.bool false,.ref (s.heap.objs.size+3),.ref (s.heap.objs.size+4)] }]→Q (.ref (s.heap.objs.size+5)) { s with heap:=h' }) :
 χ (model prog w) A (call (.type "zip") [.ref a1,.ref a2,.ref a3]) Q E s:=by
 refine callType_new F.called_zip (by decide) (F.z3_typeCall _ _ _) (F.z3_newCall _ _ _) (fun obj=>F.z3_args_init obj _ _ _) GH (tw k1 k2 k3 a1 a2 a3 xs ys zs) ⟨h1,h2,h3,?_⟩
 show _∧_
 simp only [ϯ]
 exact ⟨⟨_,bO (j:=5) (h:=s.heap) (l:=[itO k1 a1,itO k2 a2,itO k3 a3,{ cls:=.type "tuple",data:=.seq #[.ref s.heap.objs.size,.ref (s.heap.objs.size+1),.ref (s.heap.objs.size+2)] },{ cls:=.type "tuple",data:=.seq #[.none,.none,.none] },{ cls:=.type "zip",data:=.fields #[.none,.bool false,.bool false,.ref (s.heap.objs.size+3),.ref (s.heap.objs.size+4)] }]) rfl rfl,rfl⟩,h _ rfl⟩
def zd (k:Bool) (it a:Α) (xs:Array ζ):Zd:=⟨it,[it,a],xs.size,fun i v=>xs[i]? = some v,fun i h=>(if k then h.IsTupleIter it a i else h.IsListIter it a i)∧if k then h.IsTuple a xs else h.IsList a xs⟩
theorem lI (hh:A.handled=none) (k:Bool) (it a:Α) (hne:a≠it) (xs:Array ζ):Fc prog w A it [it,a] xs.size (zd k it a xs).P (zd k it a xs).St:=by
 cases k
 ·exact H3 hh it a hne xs
 ·exact fJ hh it a hne xs
theorem lJ {h:ϳ} (e:h.get? it=some (itO k a)) (q:b8 h k a xs):(zd k it a xs).St 0 h:=by
 rcases q with ⟨rfl,q⟩ | ⟨rfl,q⟩
 ·exact ⟨⟨_,e,rfl,rfl⟩,q⟩
 ·exact ⟨⟨_,e,rfl,rfl⟩,q⟩
end
theorem lne (n j a:Nat) (ha:a<n):a≠n+j:=by omega
theorem oQ:∀ {l m:List D} {i:Nat},(fF l m)[i]? = (l[i]?).bind fun a=>(m[i]?).map fun b=>.tup [a,b]
 | [],_,_=>by simp [fF]
 | a :: r,[],i=>by simp [fF]
 | a :: r,b :: q,0=>by simp [fF]
 | a :: r,b :: q,i+1=>by rw [fF,À,oQ];rfl
theorem lK:∀ {l m:List D},l.length≤m.length→(fF l m).length=l.length
 | [],_,_=>by simp [fF]
 | a :: r,[],h=>by simp at h
 | a :: r,b :: q,h=>by rw [fF,Η,lK (by simpa using h),Η]
theorem oR:∀ {l m n:List D} {i:Nat},(cK l m n)[i]? = (l[i]?).bind fun a=>(m[i]?).bind fun b=>(n[i]?).map fun c=>.tup [a,b,c]
 | [],_,_,_=>by simp [cK]
 | a :: r,[],_,i=>by simp [cK]
 | a :: r,b :: q,[],i=>by simp [cK]
 | a :: r,b :: q,c :: p,0=>by simp [cK]
 | a :: r,b :: q,c :: p,i+1=>by rw [cK,À,oR];rfl
theorem lM:∀ {l m n:List D},l.length≤m.length→l.length≤n.length→(cK l m n).length=l.length
 | [],_,_,_,_=>by simp [cK]
 | a :: r,[],_,h,_=>by simp at h
 | a :: r,b :: q,[],_,h=>by simp at h
 | a :: r,b :: q,c :: p,h,h'=>by rw [cK,Η,lM (by simpa using h) (by simpa using h'),Η]
section
variable {X:Cx} {z z' z0 z1:Z} {tg:Λ}
theorem RDs.v {i:Nat} {d:D} {v:ζ} (r:RDs W ρ G l vs) (e:l[i]? = some d) (q:vs.toArray[i]? = some v):RD W ρ G d v:=by
 obtain ⟨v',w1,w2⟩:=r.get e
 rw [show vs[i]? = some v by simpa using q] at w1;cases w1;exact w2
theorem lw {x:D} (I:Rep X z) (h:RD X.W z.ρ z.G x u) (e:sqL x=some l):∃ k a vs,u = .ref a∧(∃ o,z.G a=some o)∧b8 z.s.heap k a vs.toArray∧RDs X.W z.ρ z.G l vs:=by
 cases x with
 | lst m=>cases e;obtain ⟨a,o,vs,rfl,g,⟨⟨n,rfl⟩,_⟩,r⟩:=h;exact ⟨false,a,vs,rfl,⟨_,g⟩,.inr ⟨rfl,_,I.gh _ _ g,rfl,n,rfl⟩,r⟩
 | tup m=>cases e;obtain ⟨a,o,vs,rfl,g,⟨tc,⟨n,td⟩,_⟩,r⟩:=h;exact ⟨true,a,vs,rfl,⟨_,g⟩,.inl ⟨rfl,_,I.gh _ _ g,tc,n,td⟩,r⟩
 | _=>cases e
theorem b8.psh (q:b8 h k a xs):b8 (psh h l) k a xs:=q.imp (fun ⟨e,q⟩=>⟨e,q.at fun o e=>dO e⟩) fun ⟨e,q⟩=>⟨e,q.at fun o e=>dO e⟩
theorem tj {es:List Λ} {k:Nat} {tp:Ϫ} {ds:List D} {n:Nat} {l:List Zd} {zz TI TO:Α} {h':ϳ} {o:Out D} (hc:X.calm=true) (x:Ee X z z1) (I:Rep X z1) (kp:∀ b o,z1.s.heap.get? b=some o→h'.get? b=some o)
 (D:∀ A,A.handled=none→ZOk X.W.P X.W.w A n l zz TI TO) (hz:D0 h' zz TI TO .none) (hTI:IsT h' TI (l.map fun d=>.ref d.it)) (hTO:∃ vs,IsT h' TO vs∧vs.length=l.length) (st:∀ d∈l,d.St 0 h') (hn:ds.length=n) (nw:∀ b,b=zz∨b=TI∨b=TO→z1.h b=none)
 (fp:∀ d∈l,∃ a,d.fp = [d.it,a]∧z1.h d.it=none∧∃ o,z1.G a=some o)
 (hP:∀ i d (vs:List ζ),vs.length=l.length→(∀ (j:Nat) (d:Zd) v,l[j]? = some d→vs[j]? = some v→d.P i v)→ds[i]? = some d→∃ l,d = .tup l∧∀ ρ' G',z1.ρ <+: ρ'→Sub z1.G G'→RDs X.W ρ' G' l vs) (e:o = .ok (.lst ds) z1.t) :
 χ X.M X.A (ş (.ref zz)) (FI X z (.Tuple es k tp) o) NoE { z1.s with heap:=h' }:=by
 refine GK hz (fK (ds:=ds) x I (s2:={ z1.s with heap:=h' }) (.hp (t:=z1.s.toks) kp) (Itr.walksT (I.hd hc) hn (fun A hA=>pU (D A.in1 hA)) (fun i h st b hb=>?_) (fun _ _ _ m=>m.2) fun i vals d p1 p2=>?_) ⟨hz,hTI,hTO,st⟩ (fun b hb=>?_) e)
 ·obtain ⟨w1,w2,⟨_,w3,_⟩,w4⟩:=st
  rcases π.mp hb with rfl | hb
  ·exact ⟨_,w1⟩
  rcases π.mp hb with rfl | hb
  ·exact ⟨_,w3⟩
  obtain ⟨d,hd,rfl⟩:=ϱ.mp hb
  exact ((D ś rfl).dr d hd).1.live _ _ (w4 d hd)
 ·obtain ⟨vs,rfl,hl,hv⟩:=p1
  obtain ⟨l',q1,q2⟩:=hP i d vs hl hv p2
  refine ⟨by have:=(D ś rfl).sz;simpa using (show vs.length≤ϟ by omega),l',q1,fun ρ' G' h1 h2=>q2 ρ' G' h1 h2⟩
 ·have old:∀ {c},z1.h c=none→∀ {o},z1.G c=some o→False:=fun n o q=>by rw [I.gh _ _ q] at n;cases n
  rcases π.mp hb with rfl | hb
  ·exact .inl ⟨nw _ (.inl rfl),_,hz⟩
  rcases π.mp hb with rfl | hb
  ·exact .inl ⟨nw _ (.inr (.inl rfl)),_,hTI⟩
  rcases π.mp hb with rfl | hb
  ·obtain ⟨_,w,_⟩:=hTO;exact .inl ⟨nw _ (.inr (.inr rfl)),_,w⟩
  obtain ⟨d,hd,hb⟩:=ϻ.mp hb
  obtain ⟨a,f1,f2,o,f3⟩:=fp d hd
  rw [f1] at hb
  rcases π.mp hb with rfl | hb
  ·exact .inl ⟨f2,((D ś rfl).dr d hd).1.live _ _ (st d hd)⟩
  ·cases η.mp hb
   refine .inr ⟨fun m=>?_,o,f3⟩
   rcases π.mp m with rfl | m
   ·exact old (nw _ (.inl rfl)) f3
   rcases π.mp m with rfl | m
   ·exact old (nw _ (.inr (.inr rfl))) f3
   obtain ⟨d',hd',rfl⟩:=ϱ.mp m
   obtain ⟨_,_,f5,_⟩:=fp d' hd'
   exact old f5 f3
theorem ev3 (f:List D→Sta→Out β):(X.evs br (.cons a (.cons b (.cons c .nil))) t).bind f=(X.ev br a t).bind fun x s=>(X.ev br b s).bind fun y s=>(X.ev br c s).bind fun w s=>f [x,y,w] s:=by
 show ((X.ev br a t).bind fun x s=>(X.evs br (.cons b (.cons c .nil)) s).bind fun l s=>Out.ok (x :: l) s).bind f=_
 rw [aq];congr 1;funext x s;rw [aq,ev2];rfl
theorem uK {es:List Λ} {k:Nat} {tp:Ϫ} (hc:X.calm=true) (hx:Blt X "zip" (.type "zip")) (ha:LE X ea a) (hb:LE X eb b) (he:Δ [ea,eb] X.env=(false,eval ea X.env) :: Δ [eb] X.env) (he2:Δ [eb] X.env=(false,eval eb X.env) :: Δ [] X.env):LI X (.Tuple es k tp) (.Call (.Name "zip" p) [ea,eb] [] pos) (.it .zip2 (.cons a (.cons b .nil))):=fun z I nb=>
 bt (Q:=fun v s1=>χ X.M X.A (ş v) (FI X z (.Tuple es k tp) (X.ev false (.it .zip2 (.cons a (.cons b .nil))) z.t)) NoE s1) (.inr ⟨_,rfl⟩) hx he (by rw [he2];rfl) I (by
  rw [he2]
  exact Ι ((ha false).go .refl I (ev2 fun l s=>Out.of s ((itD .zip2 l).map D.lst)) nb fun z1 x u y1 x1 I1 r1 e1=>Ι ((hb false).go x1 I1 e1 nb fun z2 y v y2 x2 I2 r2 e2=>ϋ (by
   have e2:X.ev false (.it .zip2 (.cons a (.cons b .nil))) z.t=Out.of z2.t ((match sqL x,sqL y with | some l,some m=>if l.length≤m.length then some (fF l m) else none | _,_=>none).map D.lst):=e2
   cases q1:sqL x with
   | none=>rw [q1] at e2;exact ZX e2 nb
   | some l=>
     cases q2:sqL y with
     | none=>rw [q1,q2] at e2;exact ZX e2 nb
     | some m=>
       rw [q1,q2] at e2
       by_cases c:l.length≤m.length
       ·have e2:X.ev false (.it .zip2 (.cons a (.cons b .nil))) z.t = .ok (.lst (fF l m)) z2.t:=by rw [e2];simp only [ZZ c];rfl
        obtain ⟨k1,a1,vs,rfl,⟨o1,g1⟩,s1,w1⟩:=lw I2 (r1.rd.st y2.st) q1
        obtain ⟨k2,a2,us,rfl,⟨o2,g2⟩,s2,w2⟩:=lw I2 r2.rd q2
        have l1:=Ξ (I2.gh _ _ g1)
        have l2:=Ξ (I2.gh _ _ g2)
        refine o6 s1 s2 fun h' hh=>?_
        have N:∀ j,z2.h (z2.s.heap.objs.size+j)=none:=fun j=>gJ (DB ..)
        have e1:=w1.len
        have e3:=w2.len
        refine tj (ds:=fF l m) (n:=vs.toArray.size) (l:=[zd k1 z2.s.heap.objs.size a1 vs.toArray,zd k2 (z2.s.heap.objs.size+1) a2 us.toArray]) hc x2 I2 (fun b o e=>hh ▸ dO e) (fun A hA=>⟨fun d hd=>?_,fun i j d e hi hj ne=>?_,⟨_,_,rfl,rfl⟩,⟨?_,?_,?_⟩,by rw [ċ];exact Ο rfl⟩) (hh ▸ bO (j:=4) rfl rfl) (hh ▸ bO (j:=2) rfl rfl) ⟨[.none,.none],hh ▸ bO (j:=3) rfl rfl,rfl⟩ (fun d hd=>?_) (by rw [lK c,e1];simp) (fun b hb=>by rcases hb with rfl | rfl | rfl <;> exact N _) (fun d hd=>?_) (fun i d ws hl hv hd=>?_) e2
        ·simp only [π,ć,or_false] at hd
         rcases hd with rfl | rfl
         ·exact ⟨lI hA _ _ _ (ϝ l1) _,Ω _,κ,nin _ 4 0 _ (by decide) l1,nin _ 3 0 _ (by decide) l1,by simp [zd]⟩
         ·exact ⟨lI hA _ _ _ (lne _ 1 _ l2) _,by simp [zd];omega,κ,nin _ 4 1 _ (by decide) l2,nin _ 3 1 _ (by decide) l2,by simp [zd]⟩
        ·match i,j,hi,hj,ne with
         | 0,0,_,_,ne=>exact ZX rfl ne
         | 0,1,hi,hj,_=>cases hi;cases hj;exact nin _ 0 1 _ (by decide) l2
         | 1,0,hi,hj,_=>cases hi;cases hj;exact nin _ 1 0 _ (by decide) l1
         | 1,1,_,_,ne=>exact ZX rfl ne
         | i+2,_,hi,_,_=>simp at hi
         | _,j+2,_,hj,_=>simp at hj
        ·simp
        ·simp
        ·simp
        ·simp only [π,ć,or_false] at hd
         rcases hd with rfl | rfl
         ·exact lJ (hh ▸ bO (j:=0) rfl rfl) (hh ▸ s1.psh)
         ·exact lJ (hh ▸ bO (j:=1) rfl rfl) (hh ▸ s2.psh)
        ·simp only [π,ć,or_false] at hd
         rcases hd with rfl | rfl
         ·exact ⟨a1,rfl,N 0,_,g1⟩
         ·exact ⟨a2,rfl,N 1,_,g2⟩
        ·rw [oQ] at hd
         obtain ⟨da,w3,hd⟩:=ϗ.mp hd
         obtain ⟨db,w4,rfl⟩:=φ.mp hd
         match ws,hl,hv with
         | [va,vb],_,hv=>exact ⟨_,rfl,fun ρ' G' h1 h2=>.cons ((w1.mono h1 h2).v w3 (hv 0 _ va rfl rfl)) (.cons ((w2.mono h1 h2).v w4 (hv 1 _ vb rfl rfl)) rfl)⟩
       ·simp only [ZY c] at e2;exact ZX e2 nb))))
theorem uL {es:List Λ} {k:Nat} {tp:Ϫ} (hc:X.calm=true) (hx:Blt X "zip" (.type "zip")) (ha:LE X ea a) (hb:LE X eb b) (hd:LE X ec c) (he:Δ [ea,eb,ec] X.env=(false,eval ea X.env) :: Δ [eb,ec] X.env) (he2:Δ [eb,ec] X.env=(false,eval eb X.env) :: Δ [ec] X.env) (he3:Δ [ec] X.env=(false,eval ec X.env) :: Δ [] X.env):LI X (.Tuple es k tp) (.Call (.Name "zip" p) [ea,eb,ec] [] pos) (.it .zip3 (.cons a (.cons b (.cons c .nil)))):=fun z I nb=>
 bt (Q:=fun v s1=>χ X.M X.A (ş v) (FI X z (.Tuple es k tp) (X.ev false (.it .zip3 (.cons a (.cons b (.cons c .nil)))) z.t)) NoE s1) (.inr ⟨_,rfl⟩) hx he (by rw [he2,he3];rfl) I (by
  rw [he2,he3]
  exact Ι ((ha false).go .refl I (ev3 fun l s=>Out.of s ((itD .zip3 l).map D.lst)) nb fun z0 x0 u0 y0 x0' I0 r0 e0=>Ι ((hb false).go x0' I0 e0 nb fun z1 x u y1 x1 I1 r1 e1=>Ι ((hd false).go x1 I1 e1 nb fun z2 y v y2 x2 I2 r2 e2=>ϋ (by
   have e2:X.ev false (.it .zip3 (.cons a (.cons b (.cons c .nil)))) z.t=Out.of z2.t ((match sqL x0,sqL x,sqL y with | some l,some m,some n=>if l.length≤m.length∧l.length≤n.length then some (cK l m n) else none | _,_,_=>none).map D.lst):=e2
   cases q1:sqL x0 with
   | none=>rw [q1] at e2;exact ZX e2 nb
   | some l=>
     cases q2:sqL x with
     | none=>rw [q1,q2] at e2;exact ZX e2 nb
     | some m=>
       cases q3:sqL y with
       | none=>rw [q1,q2,q3] at e2;exact ZX e2 nb
       | some n=>
         rw [q1,q2,q3] at e2
         by_cases cc:l.length≤m.length∧l.length≤n.length
         ·have e2:X.ev false (.it .zip3 (.cons a (.cons b (.cons c .nil)))) z.t = .ok (.lst (cK l m n)) z2.t:=by rw [e2];simp only [ZZ cc];rfl
          obtain ⟨k1,a1,vs,rfl,⟨o1,g1⟩,s1,w1⟩:=lw I2 ((r0.rd.st y1.st).st y2.st) q1
          obtain ⟨k2,a2,us,rfl,⟨o2,g2⟩,s2,w2⟩:=lw I2 (r1.rd.st y2.st) q2
          obtain ⟨k3,a3,ts,rfl,⟨o3,g3⟩,s3,w3⟩:=lw I2 r2.rd q3
          have l1:=Ξ (I2.gh _ _ g1)
          have l2:=Ξ (I2.gh _ _ g2)
          have l3:=Ξ (I2.gh _ _ g3)
          refine o7 s1 s2 s3 fun h' hh=>?_
          have N:∀ j,z2.h (z2.s.heap.objs.size+j)=none:=fun j=>gJ (DB ..)
          have e1:=w1.len
          have e3:=w2.len
          have e4:=w3.len
          refine tj (ds:=cK l m n) (n:=vs.toArray.size) (l:=[zd k1 z2.s.heap.objs.size a1 vs.toArray,zd k2 (z2.s.heap.objs.size+1) a2 us.toArray,zd k3 (z2.s.heap.objs.size+2) a3 ts.toArray]) hc x2 I2 (fun b o e=>hh ▸ dO e) (fun A hA=>⟨fun d hd=>?_,fun i j d e hi hj ne=>?_,⟨_,_,rfl,rfl⟩,⟨?_,?_,?_⟩,by rw [ċ];exact Ο rfl⟩) (hh ▸ bO (j:=5) rfl rfl) (hh ▸ bO (j:=3) rfl rfl) ⟨[.none,.none,.none],hh ▸ bO (j:=4) rfl rfl,rfl⟩ (fun d hd=>?_) (by rw [lM cc.1 cc.2,e1];simp) (fun b hb=>by rcases hb with rfl | rfl | rfl <;> exact N _) (fun d hd=>?_) (fun i d ws hl hv hd=>?_) e2
          ·simp only [π,ć,or_false] at hd
           rcases hd with rfl | rfl | rfl
           ·exact ⟨lI hA _ _ _ (ϝ l1) _,Ω _,κ,nin _ 5 0 _ (by decide) l1,nin _ 4 0 _ (by decide) l1,by simp [zd]⟩
           ·exact ⟨lI hA _ _ _ (lne _ 1 _ l2) _,by simp [zd];omega,κ,nin _ 5 1 _ (by decide) l2,nin _ 4 1 _ (by decide) l2,by simp [zd]⟩
           ·exact ⟨lI hA _ _ _ (lne _ 2 _ l3) _,by simp [zd];omega,κ,nin _ 5 2 _ (by decide) l3,nin _ 4 2 _ (by decide) l3,by simp [zd]⟩
          ·have hl:∀ (i:Nat) (d:Zd),[zd k1 z2.s.heap.objs.size a1 vs.toArray,zd k2 (z2.s.heap.objs.size+1) a2 us.toArray,zd k3 (z2.s.heap.objs.size+2) a3 ts.toArray][i]? = some d→i<3∧d.it=z2.s.heap.objs.size+i∧∃ b:Nat,d.fp = [z2.s.heap.objs.size+i,b]∧b<z2.s.heap.objs.size:=fun i d h=>by
            match i,h with
            | 0,h=>cases h;exact ⟨by decide,rfl,a1,rfl,l1⟩
            | 1,h=>cases h;exact ⟨by decide,rfl,a2,rfl,l2⟩
            | 2,h=>cases h;exact ⟨by decide,rfl,a3,rfl,l3⟩
            | i+3,h=>simp at h
           obtain ⟨_,h1,_⟩:=hl i d hi
           obtain ⟨_,_,b,h2,h3⟩:=hl j e hj
           rw [h1,h2]
           exact nin _ i j b ne h3
          ·simp
          ·simp
          ·simp
          ·simp only [π,ć,or_false] at hd
           rcases hd with rfl | rfl | rfl
           ·exact lJ (hh ▸ bO (j:=0) rfl rfl) (hh ▸ s1.psh)
           ·exact lJ (hh ▸ bO (j:=1) rfl rfl) (hh ▸ s2.psh)
           ·exact lJ (hh ▸ bO (j:=2) rfl rfl) (hh ▸ s3.psh)
          ·simp only [π,ć,or_false] at hd
           rcases hd with rfl | rfl | rfl
           ·exact ⟨a1,rfl,N 0,_,g1⟩
           ·exact ⟨a2,rfl,N 1,_,g2⟩
           ·exact ⟨a3,rfl,N 2,_,g3⟩
          ·rw [oR] at hd
           obtain ⟨da,p3,hd⟩:=ϗ.mp hd
           obtain ⟨db,p4,hd⟩:=ϗ.mp hd
           obtain ⟨dc,p5,rfl⟩:=φ.mp hd
           match ws,hl,hv with
           | [va,vb,vc],_,hv=>exact ⟨_,rfl,fun ρ' G' h1 h2=>.cons ((w1.mono h1 h2).v p3 (hv 0 _ va rfl rfl)) (.cons ((w2.mono h1 h2).v p4 (hv 1 _ vb rfl rfl)) (.cons ((w3.mono h1 h2).v p5 (hv 2 _ vc rfl rfl)) rfl))⟩
         ·simp only [ZY cc] at e2;exact ZX e2 nb)))))
end
theorem kO {M:Dj} {A:Ϗ} {E:ζ→ν→Prop} {s:ν} {items:Array ζ} {x:ζ} {e:ζ→Bool} {Q:Option Hc×Unit→ν→Prop} (he:∀ y∈items,∀ (E':ζ→ν→Prop) (Q':Bool→ν→Prop),Q' (e y) s→χ M A (eqBool y x) Q' E' s) {j:Nat} (hj:j<items.size) (hit:e items[j]=true)
 (hq:Q (some (.done (.ret (.int j s.toks))),()) { s with toks:=s.toks+1 }):∀ (k i:Nat),i+k=items.size→i≤j→(∀ m (hm:m<items.size),i≤m→m<j→e items[m]=false) →
 χ M A (forIn (Ű i k) ((none:Option Hc),()) fun (i:Nat) _=>match items[i]? with
  | some y=>do
    if ← eqBool y x then
     let r ← retInt (i:Nat)
     pure (ForInStep.done (some r,()))
    else pure (ϭ (none,()))
  | _=>pure (ϭ (none,()))) Q E s
 | 0,i,h1,h2,_=>by omega
 | k+1,i,h1,h2,hn=>by
   have hi:i<items.size:=by omega
   rw [List.range'_succ,Ĩ,Ŀ hi]
   refine ε (ε (he _ (Array.getElem_mem hi) _ _ ?_))
   by_cases z:i=j
   ·subst z
    rw [hit,ZZ rfl]
    refine ε ?_
    unfold retInt
    exact ε (wpAny_mkInt (θ (θ (θ hq))))
   ·rw [hn i hi (Ω _) (by omega),ZY Ϡ]
    exact θ (kO he hj hit hq k (i+1) (by omega) (by omega) fun m hm h3 h4=>hn m hm (by omega) h4)
theorem pS (l:Α) (items:Array ζ) (x:ζ) (e:ζ→Bool) (j:Nat) (hj:j<items.size) (hit:e items[j]=true) (hno:∀ m (hm:m<items.size),m<j→e items[m]=false) :
 GF (ŝ.«tuple.index» ⟨[.ref l,x],[]⟩) (fun A R s=>s.heap.IsTuple l items∧(∀ y,y∈items→SeqAt.EqAt A.in1 s y x (e y))∧R (.ok (.ret (.int j s.toks))) { s with toks:=s.toks+1 }):=by
 intro prog w A R s h
 obtain ⟨ht,he,hq⟩:=h
 unfold ŝ.«tuple.index»
 refine ε (θ ?_)
 refine ε (EE ht ?_)
 refine ε (θ ?_)
 refine ε (θ ?_)
 dsimp only
 rw [Ĳ,FR]
 have ez:CW [:items.size]=items.size:=by simp [CW]
 rw [ez]
 refine ε (kO (e:=e) (fun y hy E' Q' q'=>he y hy prog w E' Q' q') hj hit ?_ items.size 0 (by omega) (by omega) fun m hm _ h4=>hno m hm h4)
 exact θ hq
section
variable {X:Cx} {z:Z}
theorem oI:∀ {us:List ζ} {ss:List μ} {i:Nat} {v:ζ},StrsAre us ss→us[i]? = some v→∃ y t,ss[i]? = some y∧v = .str y t
 | _,_,_,_,.nil,e=>by simp at e
 | _,_,0,v,.cons y t _,e=>by simp at e;subst e;exact ⟨y,t,rfl,rfl⟩
 | _,_,i+1,v,.cons _ _ r,e=>by
   obtain ⟨y,t,h1,h2⟩:=oI (i:=i) r (by simpa using e)
   exact ⟨y,t,by simpa using h1,h2⟩
def ixT (k:μ):ζ→Bool
 | .str y _=>y == k
 | _=>false
theorem rL (ha:LE X eo a) (hb:LE X eb b) (m:M1 X eo "index" apos eb cpos):LE X (.Call (.Attribute eo "index" apos) [eb] [] cpos) (.index a b):=fun br z I nb=>
 Ć m.base m.few m.line PySem.F.plainAttrs_tuple DO PySem.F.type_tuple_index ((ha true).go .refl I rfl nb fun z1 x u y1 x1 I1 r1 e1=>by
  cases x with
  | tup l=>
    have e1:X.ev br (.index a b) z.t=(X.ev true b z1.t).bind fun y s=>.of s (xy (.tup l) y):=e1
    obtain ⟨p,o,vs,rfl,g,⟨tc,⟨n,td⟩,hz,tdi⟩,r⟩:=(r1.rb.cr0 I1:RD X.W z1.ρ z1.G (.tup l) u)
    refine ⟨⟨o,I1.gh _ _ g,tc⟩,fun b q=>(by cases q;exact ⟨o,I1.gh _ _ g,tdi⟩),?_⟩
    rw [m.trees]
    refine Ã rfl (Ï (Ι ((hb true).go x1 I1 e1 nb fun z2 y v y2 x2 I2 r2 e2=>ϋ (cI x2 I2 e2 nb fun d q=>?_))))
    cases y with
    | str k=>
      obtain ⟨t,rfl⟩:=(r2.rb.cr0 I2:RD X.W z2.ρ z2.G (.str k) v)
      obtain ⟨ss,q1,q2⟩:=ϗ.mp (show ((cA l).bind fun ss=>(ss.findIdx? (· == k)).map fun (j:Nat)=>D.int j)=some d from q)
      obtain ⟨j,q3,rfl⟩:=φ.mp q2
      have sa:=ip q1 (r.mono y2.st.pr y2.st.gg)
      obtain ⟨hj,hp,hn⟩:=List.findIdx?_eq_some_iff_getElem.mp q3
      have hl:vs.length=ss.length:=sa.length
      have at_:∀ m (hm:m<vs.toArray.size),∃ t,vs.toArray[m] = .str (ss[m]'(by simp at hm;omega)) t:=fun m hm=>by
       have hm':m<vs.length:=by simpa using hm
       obtain ⟨y,t,w1,w2⟩:=oI sa (Ζ hm')
       rw [Ζ (by omega)] at w1;cases w1
       exact ⟨t,by simpa using w2⟩
      refine Dx DO ⟨o,I2.gh _ _ (y2.st.gg _ _ g),tc⟩ PySem.F.entry_tuple_index (PySem.F.args_tuple_index_2 _ _) (pS p vs.toArray (.str k t) (ixT k) j (by simp;omega) ?_ fun m hm lt=>?_) ⟨⟨o,I2.gh _ _ (y2.st.gg _ _ g),tc,n,td⟩,fun y hy=>?_,.tok fun _ _ _=>⟨_,rfl⟩⟩
      ·obtain ⟨t',e'⟩:=at_ j (by simp;omega)
       rw [e'];exact hp
      ·obtain ⟨t',e'⟩:=at_ m hm
       rw [e'];exact ZU.mpr (by simpa using hn m lt)
      ·obtain ⟨m,hm,rfl⟩:=Array.mem_iff_getElem.mp hy
       obtain ⟨t',e'⟩:=at_ m hm
       rw [e']
       exact ((e3 I2.toHR 1 (d:=.str (ss[m]'(by simp at hm;omega))) (e:=.str k) (by rfl) (show CR X.W z2 (.str _) _ from ⟨_,rfl⟩) (show CR X.W z2 (.str k) _ from ⟨_,rfl⟩)).2 _ (by have:=I2.ok.un;show _+1+1+1<_;omega)).1
    | _=>cases q
  | _=>exact ZX e1 nb)
theorem uD {x:μ} {j:Nat} {cl:Cl} {i:CI} (F:bX X X.cal1 lv cl.init f) (hr:bq (lv+1) X.A) (M:Mk X.K i.ad f) (hcl:X.Γ.cl[j]? = some cl) (hw:cl.what=0) (hci:X.W.ci[j]? = some i) (hwh:X.W.what[j]? = some 0) (hg:Gl X x) (hm:X.mg x=some (.ref i.ad)) (hd:(x == ("__debug__":μ))=false):LE X (.Call (.Name x p) [] [] pos) (.new j .nil):=fun br z I nb=>
 è (bz I hg hm (El I.toHR.kin M.kp (ou F hr M hcl hw hci hwh .refl I (l:=[]) (us:=[]) (es:=.nil) trivial rfl nb)) hd)
end
end L2.Ev
end
section
namespace L2.Ev
open PySem.W
section
variable {X:Cx} {z z1:Z} {tg:Λ}
def zA (X:Cx):Prop:=∀ (c:Nat) (k:Cl) (ic:CI),X.Γ.cl[c]? = some k→X.W.ci[c]? = some ic→X.W.what[c]? = some 2→Ϩ X.K ic.ad (.type "ValueError")=some (k.sup.contains 1000)
end
end L2.Ev
end
section
namespace L2.Ev
def cG (nm:List (μ×Β)) (x:μ):Bool:=match nm.lookup x with
 | some .local=>true
 | some .cell=>true
 | some .free=>true
 | _=>false
def bK (nm:List (μ×Β)) (x:μ):Bool:=nm.lookup x == some .globalImplicit
def bv:Λ→Bool
 | .Call (.Name id _) [] [] _=>id != "super"
 | _=>true
theorem ag (h:aJ e=true):Δ (e :: es) env=(false,eval e env) :: Δ es env:=by
 cases e <;> first | rfl | cases h
theorem hV (h:aJ e=true):jt e:=by
 cases e <;> first | (intro o i;rfl) | cases h
theorem gW (h:aJ e=true):ð op e=false:=by
 cases e <;> first | rfl | cases h
theorem i8 (h:aJ e=true):∀ x,Ś e env x=pure x:=by
 cases e <;> first | (intro x;rfl) | cases h
theorem bD (h:∀ e∈es,aJ e=true):(Ϻ pos (Δ es env)).any (·.1)=false:=by
 induction es with
 | nil=>rfl
 | cons e r ih=>
   rw [ag (h e κ)]
   have:=ih fun x hx=>h x (ι _ hx)
   show (false || (Ϻ pos (Δ r env)).any (·.1))=false
   rw [this];rfl
theorem bj {X:Cx} (hs:X.env.scope.names=nm) (h:cG nm x=true):Vis X.env.scope x:=by
 unfold cG at h
 unfold Vis
 rw [hs]
 split at h <;> first | (rename_i q;exact .inl q) | (rename_i q;exact .inr (.inl q)) | (rename_i q;exact .inr (.inr q)) | cases h
theorem bC (hs:X.env.scope.names=nm) (h:bK nm x=true):Gl X x:=by
 unfold bK at h
 show X.env.scope.names.lookup x=_
 rw [hs]
 simpa using h
structure Ns where
 gl:List μ
 tb:List μ
 fn:List μ
 at_:List μ
 bl:List μ
 rf:List μ:=[]
 me:List (μ×Nat×Nat):=[]
 ex:List μ:=[]
 nw:List μ:=[]
 mu:List μ:=[]
 nd:List μ:=[]
 hx:List μ:=[]
 hc:List μ:=[]
 xt:List μ:=[]
 kp:List μ:=[]
 alt:List (μ×Nat):=[]
 dn:List (μ×Nat×Nat):=[]
 fc:List μ:=[]
 oc:List μ:=[]
 e2:Bool:=false
 rl:List μ:=[]
 sn:List μ:=[]
 vx:Bool:=false
def Ns.an (T:Ns) (f:Nat):μ:=T.at_.getD f ""
abbrev Cx.to (X:Cx) (A:Ϗ) (fr:List CL) (N:List μ) (e:CL) (cal cal1:Nat→List D→List O→Res):Cx:={ X with A:=A,fr:=fr,N:=N,env:=e,cal:=cal,cal1:=cal1 }
theorem HR.to {X:Cx} {A:Ϗ} {fr:List CL} {N1 N2:List μ} {e1 e2:CL} {c1 c2 d1 d2:Nat→List D→List O→Res} (I:HR (X.to A fr N1 e1 c1 d1) z):HR (X.to A fr N2 e2 c2 d2) z:=⟨I.md,I.fm,I.hd,I.bs,I.gh,I.rl,I.rn,I.rg,I.ob,I.fu,I.ff,I.br,I.os,I.tk⟩
theorem FnC.to {X:Cx} {A:Ϗ} {fr:List CL} {N:List μ} {e:CL} {c1 d1:Nat→List D→List O→Res} (h:FnC X cal lv j f fd ps dvs):FnC (X.to A fr N e c1 d1) cal lv j f fd ps dvs:=⟨h.len,fun A2 fr2 z args us ds r I b rd nb=>â (h.run A2 fr2 z args us ds r (HR.to (X:=X) (N1:=N) (e1:=e) (c1:=c1) (d1:=d1) I) b rd nb) fun q s' hq=>by
 cases q with
 | error x=>obtain ⟨z',c,l,a1,a2,a3,a4,a5⟩:=hq;exact ⟨z',c,l,a1,a2,a3,HR.to (X:=X) a4,a5⟩
 | ok fl=>cases fl with
   | ret u=>obtain ⟨z',d,a1,a2,a3,a4,a5⟩:=hq;exact ⟨z',d,a1,a2,a3,HR.to (X:=X) a4,a5⟩
   | _=>exact hq.elim⟩
theorem bX.to {X:Cx} {A:Ϗ} {fr:List CL} {N:List μ} {e:CL} {c1 d1:Nat→List D→List O→Res} (h:bX X cal lv j f):bX (X.to A fr N e c1 d1) cal lv j f:=let ⟨fd,ps,dvs,a,b,c⟩:=h;⟨fd,ps,dvs,a.to,b,c⟩
theorem FnI.to {X:Cx} {A:Ϗ} {fr:List CL} {N:List μ} {e:CL} {c1 d1:Nat→List D→List O→Res} (h:FnI X lv f fd ps nm ck):FnI (X.to A fr N e c1 d1) lv f fd ps nm ck:=⟨h.len,fun A2 fr2 z args us p P ch r I b lu H hB hP hc=>h.run A2 fr2 z args us p P ch r (HR.to (X:=X) (N1:=N) (e1:=e) (c1:=c1) (d1:=d1) I) b lu ⟨H.ex,H.keep,H.set⟩ hB hP hc⟩
theorem FnJ.to {X:Cx} {A:Ϗ} {fr:List CL} {N:List μ} {e:CL} {c1 d1:Nat→List D→List O→Res} (h:FnJ X lv f fd ps nm k C):FnJ (X.to A fr N e c1 d1) lv f fd ps nm k C:=let ⟨ck,a,b⟩:=h;⟨ck,a.to,b⟩
structure CxOk (T:Ns) (X:Cx) (nm:List (μ×Β)) (N:List μ):Prop where
 hN:X.N=N
 nd:N.Nodup
 sc:X.env.scope.names=nm
 kd:X.env.scope.kind = .function
 calm:X.calm=true
 fns:∀ (j:Nat) (x:μ),T.fn[j]? = some x→∃ k f,bX X X.cal k j f∧bq k X.A∧X.mg x=some (.ref f)
 gls:∀ (j:Nat) (x:μ),T.gl[j]? = some x→∃ d u,X.Γ.gl[j]? = some d∧X.mg x=some u∧ba X.K d u=true
 tbs:∀ (j:Nat) (x:μ),T.tb[j]? = some x→∃ t a,X.Γ.tb[j]? = some t∧X.mg x=some (.ref a)∧TbL X a t
 blt:∀ x∈T.bl,X.mg x=none
 cls:cB X T.an
 mts:∀ q∈T.me,∃ k f,bX X X.cal k q.2.2 f∧bq k X.A∧oU X T.an q.1 q.2.1 f
 nws:∀ (j:Nat) (x:μ),T.nw[j]? = some x→x≠""→∃ n f i cl,bX X X.cal1 n cl.init f∧bq (n+1) X.A∧Mk X.K i.ad f∧X.Γ.cl[j]? = some cl∧cl.what=0∧X.W.ci[j]? = some i∧X.W.what[j]? = some 0∧X.mg x=some (.ref i.ad)
 nds:∀ (j:Nat) (x:μ),T.nd[j]? = some x→x≠""→∃ n f fd ps i cl,FnI X n f fd ps i.nm none∧bU X.K fd ps []∧bq (n+1) X.A∧Mk X.K i.ad f∧Cls X.K i.ad∧(∀ f∈i.nm,cL X.K i.ad f)∧X.Γ.cl[j]? = some cl∧X.W.ci[j]? = some i∧X.W.what[j]? = some 1∧i.nm.length=cl.at_.length∧X.mg x=some (.ref i.ad)
 hxs:∀ (j:Nat) (x:μ),T.hx[j]? = some x→x≠""→pY X j x
 fr:ki X
 vxs:T.vx=true→zA X
abbrev GE (T:Ns) (nm:List (μ×Β)) (N:List μ) (e:Λ):={c:E // ∀ X,CxOk T X nm N→LE X e c∧(aM c=true→LF X e c)}
abbrev GT (T:Ns) (nm:List (μ×Β)) (N:List μ) (e:Λ):={c:E // ∀ X,CxOk T X nm N→LT X e c}
abbrev GW (T:Ns) (nm:List (μ×Β)) (N:List μ) (e:Λ):={c:E // ∀ X,CxOk T X nm N→LW X e c}
abbrev GA (T:Ns) (nm:List (μ×Β)) (N:List μ) (es:List Λ):={c:E // ∀ X,CxOk T X nm N→LA X es c}
abbrev GO (T:Ns) (nm:List (μ×Β)) (N:List μ) (e:Option Λ):={c:E // ∀ X,CxOk T X nm N→LO X e c}
abbrev GI (T:Ns) (nm:List (μ×Β)) (N:List μ) (tg e:Λ):={c:E // ∀ X,CxOk T X nm N→LI X tg e c}
abbrev aF (T:Ns):=∀ nm N e,Option (GE T nm N e)
abbrev iB (T:Ns):=∀ nm N e,Option (GT T nm N e)
theorem mk (h:LE X e c) (n:aM c=false:=by rfl):LE X e c∧(aM c=true→LF X e c):=⟨h,fun q=>by rw [n] at q;cases q⟩
theorem mkf (h:LF X e c) (hb:∀ br,X.ev br c=X.ev false c:=by intro _;rfl):LE X e c∧(aM c=true→LF X e c):=⟨h.le hb,fun _=>h⟩
def yes (b:Bool):Option (PLift (b=true)):=match b with | true=>some ⟨rfl⟩ | false=>none
def no (b:Bool):Option (PLift (b=false)):=match b with | false=>some ⟨rfl⟩ | true=>none
def bu (x:μ):(l:List μ)→Option {i:Nat // l[i]? = some x}
 | []=>none
 | y :: r=>match h:y == x with
   | true=>some ⟨0,by rw [Eh];congr;simpa using h⟩
   | false=>(bu x r).map fun i=>⟨i.1+1,by rw [À];exact i.2⟩
def dnA (x:μ) (n:Nat) (l:List (μ×Nat×Nat)):List (μ×Nat):=match l.lookup x with
 | some q=>if n=q.1 then [(x,q.2)] else []
 | none=>[]
def BK (x:μ) (al:List (μ×Nat)) (l:List μ):Option {i:Nat // l[i]? = some x}:=match al.lookup x with
 | some j=>(match h:l[j]? with
   | some y=>(match h2:y == x with
     | true=>some ⟨j,by rw [h];congr;simpa using h2⟩
     | false=>none)
   | none=>none)
 | none=>bu x l
def vd (x:μ):(l:List μ)→Option (PLift (x∈l))
 | []=>none
 | y :: r=>match h:y == x with
   | true=>some ⟨by have:y=x:=by simpa using h
                    rw [this];exact κ⟩
   | false=>(vd x r).map fun i=>⟨ι _ i.down⟩
section
variable {T:Ns} {nm:List (μ×Β)} {N:List μ}
def zQ (T:Ns) (nm:List (μ×Β)) (N:List μ) (x:μ) (pos:Ϫ):Option (GE T nm N (.Name x pos)):=do
 let hd ← no (x == ("__debug__":μ))
 let hc ← no (x == ("__classdict__":μ))
 match hl:cG nm x with
 | true=>
   let i ← bu x N
   some ⟨.v i.1,fun X k=>mk (ye (by rw [k.hN];exact i.2) (bj k.sc hl) hd.down hc.down)⟩
 | false=>
   let hg ← yes (bK nm x)
   let j ← bu x T.gl
   some ⟨.g j.1,fun X k=>by
    obtain ⟨d,u,h1,h2,h3⟩:=k.gls j.1 x j.2
    exact mk (CB (bC k.sc hg.down) h2 hd.down h1 h3)⟩
def wY (T:Ns) (nm:List (μ×Β)) (N:List μ) (c:Const) (j:Nat) (pos:Ϫ):Option (GE T nm N (.Constant c j pos)):=match c with
 | .none=>some ⟨.c .non,fun X k=>mk vU⟩
 | .bool b=>some ⟨.c (.bl b),fun X k=>mk Ae⟩
 | .int i=>some ⟨.c (.int i),fun X k=>mk vT⟩
 | .str x=>some ⟨.c (.str x),fun X k=>mk vV⟩
 | _=>none
def opP (op:EA):Option {o:Op // ∀ X:Cx,Op2 X (Ŋ op) (opD o)}:=match op with
 | .Add=>some ⟨.add,fun X=>yL⟩
 | .Sub=>some ⟨.sub,fun X=>yP⟩
 | .Mult=>some ⟨.mul,fun X=>yN⟩
 | .FloorDiv=>some ⟨.fdiv,fun X=>vj⟩
 | .Mod=>some ⟨.mod,fun X=>yM⟩
 | .Pow=>some ⟨.pow,fun X=>yO⟩
 | _=>none
def xg (op:CmpOp):Option {o:Op // ∀ X:Cx,Op2 X (Ú op) (opD o)}:=match op with
 | .Eq=>some ⟨.eq,fun X=>Bc⟩
 | .NotEq=>some ⟨.ne,fun X=>Bl⟩
 | .Lt=>some ⟨.lt,fun X=>Bj⟩
 | .LtE=>some ⟨.le,fun X=>Bh⟩
 | .Gt=>some ⟨.gt,fun X=>Bf⟩
 | .GtE=>some ⟨.ge,fun X=>Be⟩
 | .In=>some ⟨.isin,fun X=>Bg⟩
 | .NotIn=>some ⟨.notin,fun X=>sx⟩
 | _=>none
def eA (f:∀ e,Option (GE T nm N e)):(es:List Λ)→Option (GA T nm N es)
 | []=>some ⟨.nil,fun _ _=>rx⟩
 | e :: r=>do
   let h ← yes (aJ e)
   let a ← f e
   let b ← eA f r
   some ⟨.cons a.1 b.1,fun X k=>nk (a.2 X k).1 (b.2 X k) (ag h.down)⟩
def vM (f:∀ e,Option (GE T nm N e)) (pos:Ϫ):(es:List Λ)→Option {c:E // ∀ X,CxOk T X nm N→LE X (.BoolOp .And es pos) c}
 | []=>none
 | [a]=>(f a).map fun x=>⟨x.1,fun X k=>(x.2 X k).1⟩
 | a :: b :: r=>do
   let x ← f a
   let y ← vM f pos (b :: r)
   some ⟨.and x.1 y.1,fun X k=>xR (x.2 X k).1 (y.2 X k)⟩
def Cc (f:∀ e,Option (GE T nm N e)) (pos:Ϫ):(es:List Λ)→Option {c:E // ∀ X,CxOk T X nm N→LE X (.BoolOp .Or es pos) c}:=fun _=>none
def vL (g:∀ e,Option (GT T nm N e)) (pos:Ϫ):(es:List Λ)→Option (GW T nm N (.BoolOp .And es pos))
 | []=>none
 | [a]=>(g a).map fun x=>⟨x.1,fun X k=>u5 (x.2 X k)⟩
 | a :: b :: r=>do
   let x ← g a
   let y ← vL g pos (b :: r)
   some ⟨.tand x.1 y.1,fun X k=>yA (x.2 X k) (y.2 X k)⟩
def zV (g:∀ e,Option (GT T nm N e)) (pos:Ϫ):(es:List Λ)→Option (GW T nm N (.BoolOp .Or es pos))
 | []=>none
 | [a]=>(g a).map fun x=>⟨x.1,fun X k=>yB (x.2 X k)⟩
 | a :: b :: r=>do
   let x ← g a
   let y ← zV g pos (b :: r)
   some ⟨.tor x.1 y.1,fun X k=>AV (x.2 X k) (y.2 X k)⟩
def zU (f:∀ e,Option (GE T nm N e)):(o:Option Λ)→Option (GO T nm N o)
 | none=>some ⟨.nil,fun X k=>uM⟩
 | some e=>do
   let a ← f e
   let h ← no (bG a.1)
   some ⟨a.1,fun X k=>uN h.down (a.2 X k).1⟩
end
end L2.Ev
end
section
namespace L2.Bw
theorem ug (a1:Ew (.type T) "__init__" = pure (some (.builtin "object.__init__"))) (a2:Bind.madeBy (.type T)=pure (some newId))
 (a3:(some newId != some "object.__new__")=true) (a4:more≠[]):GF (ŝ.«object.__init__» ⟨me :: more,kws⟩) (fun _ R s=>s.TypeIs me T∧R (.ok (.ret .none)) s):=by
 refine Meets.of_wp fun prog w A R s q=>?_
 obtain ⟨ty,q⟩:=q
 cases more with
 | nil=>exact ZX rfl a4
 | cons b more=>
   repeat (any_goals (first | assumption | wp_step))
   exact ⟨_,rfl,q⟩
section
variable {prog:ϴ} {w:Û} {A:Ϗ} {E:ζ→ν→Prop} {s:ν}
theorem ku (ft:TypeCalled T newId "object.__init__") (ne:(some newId != some "object.__new__")=true) (na:args≠[])
 (c1:checkTypeCall T ⟨args,kws⟩=pure ()) (c2:ū newId ⟨.type T :: args,kws⟩=pure ()) (e1:entryFor table newId=some Bn) (g:GF (Bn ⟨.type T :: args,kws⟩) S) (h:S A.in1 (wants Q1 E) s)
 (hn:∀ obj s1,Q1 obj s1→s1.TypeIs obj T∧Ff "object.__init__" ⟨obj :: args,kws⟩∧Q obj s1):χ (model prog w) A (call (.type T) args kws) Q E s:=by
 obtain ⟨c,tl,m1⟩:=ft.mro
 have m2:=ft.made
 have m3:=ft.sub
 refine Ċ (Hb ?_)
 show χ _ _ (callAny (.type T) _) _ _ _
 refine θ ⟨CS _ (by decide +kernel),C6 F.entry_type_call ?_⟩
 rw [Around.under_plain (weight_type_call_type T args kws) (units_type_call_type T args kws)]
 have m4:=ft.notType
 have m5:=ft.canCreate
 repeat (any_goals (first | assumption | wp_step))
 refine â (î ft.plain e1 (CT c2 (g prog w A.in1 _ s h))) fun r s1 q1=>?_
 cases r with
 | error e=>exact q1
 | ok fl=>
   cases fl with
   | ret obj=>
     obtain ⟨ty,ok,qq⟩:=hn _ _ q1
     have m6:=ft.init.lookup
     have m7:=ft.init.bind obj
     repeat (any_goals (first | assumption | wp_step))
     refine â (î ft.init.plain F.entry_object_init (ft.init.check _ _ _ _ _ _ _ _ ty ok (ug m6 m2 ne na prog w A.in1 (wants (fun r s2=>r = .none∧Q obj s2) E) s1 ⟨ty,rfl,qq⟩))) fun r2 s2 q2=>?_
     cases r2 with
     | error e=>exact q2
     | ok f2=>
       cases f2 with
       | ret r=>
         obtain ⟨e,q3⟩:=q2
         subst e
         repeat (any_goals (first | assumption | wp_step))
       | _=>exact q2.elim
   | _=>exact q1.elim
theorem qu (t) (n) (tk) (hn:Å n=true) (items) :
 GF (ŝ.«enumerate.__new__» ⟨[.type "enumerate",.ref t],[("start",.int n tk)]⟩) (fun _ R s=>s.heap.IsTuple t items ∧
  R (.ok (.ret (.ref (s.heap.push { cls:=.type "tuple_iterator",data:=.fields #[.ref t,.int 0 0] }).objs.size)))
    { s with heap:=(s.heap.push { cls:=.type "tuple_iterator",data:=.fields #[.ref t,.int 0 0] }).push { cls:=.type "enumerate",data:=.fields #[.none,.bool false,.ref s.heap.objs.size,Ê n,.none,.none] } }):=
 .of_wp fun prog w A R s h=>by
  obtain ⟨hp,g,d,tk',os⟩:=s
  obtain ⟨ht,h⟩:=h
  have sub:=sub_enumerate
  wp_walk
  refine wpAny_stack_any fun st=>θ ?_
  split
  ·rename_i c _ _ _ _ _
   cases (c == č "enumerate")
   ·wp_walk using ę ht
    exact ⟨_,rfl,h⟩
   ·wp_walk using ę ht
    exact ⟨_,rfl,h⟩
  ·wp_walk using ę ht
   exact ⟨_,rfl,h⟩
end
section
variable {prog:ϴ} {w:Û} {A:Ϗ} {E:ζ→ν→Prop} {s:ν}
theorem oZ {rest:List Λ} {kws:List Ź} {Q:ζ→ν→Prop}
 (h:χ M A (spliced (Ϻ pos (Δ (e :: rest) env))) (fun vs s1=>χ M A (Gz ((Í pos (Ϭ kws env)).map (·.2))) (fun ks s2=>χ M A (call (.type T) vs (((Í pos (Ϭ kws env)).filterMap (·.1)).zip ks)) Q E s2) E s1) E s)
 (he:Δ (e :: rest) env=(false,eval e env) :: Δ rest env) (h1:(Ϻ pos (Δ (e :: rest) env)).any (·.1)=false) (h2:(Í pos (Ϭ kws env)).all (·.1.isSome)=true) (h3:(Í pos (Ϭ kws env)).any (·.1.isNone)=false) :
 χ M A (Ŭ pos (.type T) [] (Ϻ pos (Δ (e :: rest) env)) (Í pos (Ϭ kws env))) Q E s:=by
 have k:χ M A (evalArgs (.type T) true (Ϻ pos (Δ (e :: rest) env)) (Í pos (Ϭ kws env))) (fun a s1=>χ M A (call (.type T) ([] ++ a.pos) a.kw) Q E s1) E s:=by
  rw [he] at h ⊢
  exact evalArgs_kwB h2 h
 unfold Ŭ
 refine ε (Τ (thn k fun a s1 q=>ε (Ò ?_)))
 simp only [h1,h3,Ň]
 exact ε (θ (ε (thn q fun r s2 q2=>ε (Τ (E7 (θ q2))))))
theorem pc (hn:Å n=true) (ht:s.heap.IsTuple t xs)
 (h:Q (.ref (s.heap.push { cls:=.type "tuple_iterator",data:=.fields #[.ref t,.int 0 0] }).objs.size)
  { s with heap:=(s.heap.push { cls:=.type "tuple_iterator",data:=.fields #[.ref t,.int 0 0] }).push { cls:=.type "enumerate",data:=.fields #[.none,.bool false,.ref s.heap.objs.size,Ê n,.none,.none] } }) :
 χ (model prog w) A (call (.type "enumerate") [.ref t] [("start",.int n tk)]) Q E s:=by
 refine ku (Q1:=fun obj s1=>obj = .ref (s.heap.push { cls:=.type "tuple_iterator",data:=.fields #[.ref t,.int 0 0] }).objs.size∧s1={ s with heap:=(s.heap.push { cls:=.type "tuple_iterator",data:=.fields #[.ref t,.int 0 0] }).push { cls:=.type "enumerate",data:=.fields #[.none,.bool false,.ref s.heap.objs.size,Ê n,.none,.none] } })
  F.called_enumerate (by decide) (by simp) (by kernel_rfl) (by kernel_rfl) F.entry_enumerate_new (qu t n tk hn xs) ⟨ht,rfl,rfl⟩ fun obj s1 q=>?_
 obtain ⟨e,e'⟩:=q
 subst e e'
 exact ⟨⟨_,ψ _ rfl,rfl⟩,by first | (simp [Ff];done) | (unfold Ff;kernel_rfl) | (unfold Ff;decide +kernel) | kernel_rfl,h⟩
end
end L2.Bw
namespace L2.Ev
open L2.Bw
theorem Fc.sh {prog:ϴ} {w:Û} {A:Ϗ} {it:Α} {fp:List Α} {n:Nat} {P:Nat→ζ→Prop} {St:Nat→ϳ→Prop} (D:Fc prog w A it fp n P St) (m:Nat):Fc prog w A it fp (m+n) (fun i v=>P (i - m) v) (fun i h=>m≤i∧St (i - m) h) where
 live:=fun i h st=>D.live _ h st.2
 frame:=fun i h h' st k=>⟨st.1,D.frame _ _ _ st.2 k⟩
 item:=fun i s Q E hi st hQ=>D.item (i - m) s Q E (by have:=st.1;omega) st.2 fun x h' tk p q sb=>hQ x h' tk p ⟨ϒ st.1,by rw [Nat.succ_sub st.1];exact q⟩ sb
 done:=fun s Q E st hE=>D.done s Q E (by have:=st.2;rwa [Ŗ] at this) hE
theorem Ey.sh {prog:ϴ} {w:Û} {A:Ϗ} {it:Α} {fp wr:List Α} {n:Nat} {Pt:Nat→Array ζ→Prop} {St:Nat→ϳ→Prop} {Mid:Nat→Α→ϳ→Prop} (m:Nat) (V:Ey prog w A it fp wr (m+n) Pt St Mid):Ey prog w A it fp wr n (fun i=>Pt (m+i)) (fun i=>St (m+i)) (fun i=>Mid (m+i)) where
 sub:=V.sub
 frame:=fun i=>V.frame (m+i)
 item:=fun i s Q E hi=>V.item (m+i) s Q E (Nat.add_lt_add_left hi m)
 go:=fun elts k pos i=>V.go elts k pos (m+i)
 apart:=fun i=>V.apart (m+i)
 done:=V.done
 self:=fun i=>V.self (m+i)
section
variable {X:Cx} {z z1:Z}
theorem rQ {es:List Λ} {k:Nat} {tp kp:Ϫ} (hc:X.calm=true) (hx:Blt X "enumerate" (.type "enumerate")) (ha:LE X ea a) (hb:LE X eb b) (he:Δ [ea] X.env=(false,eval ea X.env) :: Δ [] X.env):LI X (.Tuple es k tp) (.Call (.Name "enumerate" p) [ea] [⟨some "start",eb,kp⟩] pos) (.it .enum2 (.cons a (.cons b .nil))):=fun z I nb=>by
 refine è (hx.ld I ?_)
 refine oZ (Q:=fun v s1=>χ X.M X.A (ş v) (FI X z (.Tuple es k tp) (X.ev false (.it .enum2 (.cons a (.cons b .nil))) z.t)) NoE s1) ?_ he (by rw [he];rfl) rfl rfl
 rw [he]
 refine Ι ((ha false).go .refl I (ev2 fun l s=>Out.of s ((itD .enum2 l).map D.lst)) nb fun z1 x u y1 x1 I1 r1 e1=>ϋ ?_)
 show χ _ _ (Gz ((do let v ← eval eb X.env;ř pos;pure v) :: [])) _ _ _
 refine G0 (ε ((hb false).go x1 I1 e1 nb fun z2 y v y2 x2 I2 r2 e2=>ε (Ò (θ (Gv ?_)))))
 cases x with
 | tup l=>
   cases y with
   | int n=>
     obtain ⟨ad,o,vs,rfl,g,⟨tc,⟨m,td⟩,hz⟩,r⟩:=r1.rd.st y2.st
     obtain ⟨tz,rfl⟩:=r2.rd
     have e2:X.ev false (.it .enum2 (.cons a (.cons b .nil))) z.t=Out.of z2.t ((if Å n=true∧0≤n then some (bJ n l) else none).map D.lst):=e2
     by_cases hn:Å n=true∧0≤n
     ·rw [ZZ hn] at e2
      obtain ⟨hn,h0⟩:=hn
      obtain ⟨j,rfl⟩:=Eo h0
      have ht:z2.s.heap.IsTuple ad vs.toArray:=⟨o,I2.gh _ _ g,tc,m,td⟩
      have hlt:=Ξ (I2.gh _ _ g)
      have hsz:(z2.s.heap.push { cls:=.type "tuple_iterator",data:=.fields #[.ref ad,.int 0 0] }).objs.size=z2.s.heap.objs.size+1:=ϯ ..
      refine pc hn ht (Gu (ψ _ rfl) ?_)
      rw [hsz]
      have kk:∀ b o,z2.s.heap.get? b=some o→((z2.s.heap.push { cls:=.type "tuple_iterator",data:=.fields #[.ref ad,.int 0 0] }).push { cls:=.type "enumerate",data:=.fields #[.none,.bool false,.ref z2.s.heap.objs.size,Ê (j:Int),.none,.none] }).get? b=some o:=fun b o e=>τ _ (τ _ e)
      have ge:IsEnum ((z2.s.heap.push { cls:=.type "tuple_iterator",data:=.fields #[.ref ad,.int 0 0] }).push { cls:=.type "enumerate",data:=.fields #[.none,.bool false,.ref z2.s.heap.objs.size,Ê (j:Int),.none,.none] }) (z2.s.heap.objs.size+1) z2.s.heap.objs.size (j:Int) .none:=by rw [← hsz];exact ψ _ rfl
      have gi:((z2.s.heap.push { cls:=.type "tuple_iterator",data:=.fields #[.ref ad,.int 0 0] }).push { cls:=.type "enumerate",data:=.fields #[.none,.bool false,.ref z2.s.heap.objs.size,Ê (j:Int),.none,.none] }).get? z2.s.heap.objs.size=some { cls:=.type "tuple_iterator",data:=.fields #[.ref ad,.int 0 0] }:=τ _ (ψ _ rfl)
      have rl:=r.len
      refine fK (ds:=bJ (j:Int) l) x2 I2 (.hp (t:=z2.s.toks) kk) (Itr.walksT (I2.hd hc) (n:=vs.toArray.size) (by rw [gH];simpa using rl) (fun A hA=>Ey.sh j (iy (Fc.sh (fJ (A:=A.in1) hA z2.s.heap.objs.size ad (ϝ hlt) vs.toArray) j) (z2.s.heap.objs.size+1) (Ŕ _) (nin _ 1 0 _ (by decide) hlt) κ)) (fun i h st b hb=>?_) (fun _ _ _ m=>m.2) fun i vals d p1 p2=>?_) ⟨⟨.none,ge⟩,Ω _,by rw [Nat.add_zero,ı];exact ⟨⟨_,gi,rfl,rfl⟩,⟨o,kk _ _ (I2.gh _ _ g),tc,m,td⟩⟩⟩ (fun b hb=>?_) e2
      ·obtain ⟨⟨old,e1⟩,_,⟨o2,e2,_⟩,_⟩:=st
       rcases π.mp hb with w | w
       ·rw [w];exact ⟨_,e1⟩
       ·rw [η.mp w];exact ⟨o2,e2⟩
      ·obtain ⟨t,v,p3,rfl⟩:=p1
       rw [jA,φ] at p2
       obtain ⟨d',p4,rfl⟩:=p2
       rw [Ŗ] at p3
       refine ⟨by simp [ċ],_,rfl,fun ρ' G' h1 h2=>?_⟩
       exact .cons ⟨t,by rw [Int.natCast_add]⟩ (.cons ((r.mono h1 h2).v p4 p3) rfl)
      rcases π.mp hb with w | w
      ·rw [w];exact .inl ⟨gJ (Ñ _),_,ge⟩
      ·rcases π.mp w with w | w
       ·rw [w];exact .inl ⟨aL z2,_,gi⟩
       ·rw [η.mp w]
        refine .inr ⟨fun q=>?_,_,g⟩
        rcases π.mp q with q | q
        ·exact ϝ (Dg hlt) q
        ·exact ϝ hlt (η.mp q)
     ·rw [ZY hn] at e2;exact ZX e2 nb
   | _=>exact ZX e2 nb
 | _=>exact ZX (e2.trans (by cases y <;> rfl)) nb
end
end L2.Ev
end
section
namespace L2.Bw
section
variable {prog:ϴ} {w:Û} {A:Ϗ} {R:Result→ν→Prop} {it:Α} {fp wr:List Α} {n:Nat} {f:Nat→Int} {Z:Nat→ϳ→Prop}
abbrev fG (f:Nat→Int):Nat→ζ→Prop:=fun i v=>∃ t,v = .int (f i) t
abbrev cX (f:Nat→Int):Nat→Nat→Bool:=fun i j=>decide (f i>f j)
theorem yC (W:Walks prog w A.in1 it fp wr n (fG f) Z) (kws:List (μ×ζ)) (B:Α) (nB:B ∉ fp) :
 ∀ (k j:Nat) (s:ν) (u:ζ) (c:Nat),n - (j+1)=k→j+1≤n→Z (j+1) s.heap→fG f (ø (cX f) j) u→s.heap.get? B=some { cls:=.type "list",dict:=none,data:=.seq #[u,u] c,slots:=#[] } →
 (∀ v h1 tk,fG f (ø (cX f) (n - 1)) v→(∀ b o,b ∉ wr→b≠B→s.heap.get? b=some o→h1.get? b=some o)→R (.ok (.ret v)) { s with heap:=h1,toks:=tk }) →
 ĭ (model prog w) A (.builtin "max.loop" ⟨[.ref it,.none,.ref B],kws⟩) R s:=by
 have nw:B ∉ wr:=fun h=>nB (W.sub _ h)
 have nm:(toString "max" ++ toString ".loop":String) = "max.loop":=by decide
 have cmp:CmpOf prog w A.in1 .Gt (fG f) (cX f):=FX f fun _ _ h=>h
 intro k
 induction k with
 | zero=>
   intro j s u c hk hj hz hu hB hR
   have e:j+1=n:=by omega
   refine C6 DQ ?_
   rw [ũ õ _]
   show χ _ A.in1 (D4 (.ref B) >>= fun _=>_) _ _ s
   refine ε (Ö hB rfl ?_)
   show χ _ A.in1 (tryCatch (DY (.ref it)) _ >>= fun _=>_) _ _ s
   refine ε (ň (W.done s _ _ (e ▸ hz) fun h1 tk k1=>?_))
   show χ _ A.in1 (GQ B (fun _=>#[]) >>= fun _=>_) _ _ _
   refine ε (ĺ (k1 B _ nw hB) rfl (ε (į (θ ?_))))
   exact hR u _ tk (by rw [← e];exact hu) fun b o n1 n2 q=>(ϑ _ _ (ϥ n2)).trans (k1 b o n1 q)
 | succ k ih=>
   intro j s u c hk hj hz hu hB hR
   have lt:j+1<n:=by omega
   refine C6 DQ ?_
   rw [ũ õ _]
   show χ _ A.in1 (D4 (.ref B) >>= fun _=>_) _ _ s
   refine ε (Ö hB rfl ?_)
   show χ _ A.in1 (tryCatch (DY (.ref it)) _ >>= fun _=>_) _ _ s
   refine ε (ň (W.item (j+1) s _ _ lt hz fun v h1 tk hv hz1 k1=>?_))
   have hB1:=k1 B _ nw hB
   show χ _ A.in1 (tryCatch (holding [v,v] (richCompare .Gt v u >>= _)) _ >>= fun _=>_) _ _ _
   refine ε (ň (Τ (ε (cmp (j+1) (ø (cX f) j) v u _ _ _ hv hu ?_))))
   refine ε (Τ (ϵ (ε (į (θ ?_)))))
   cases hb:cX f (j+1) (ø (cX f) j) with
   | true=>
     simp only [if_true]
     refine ε (ĺ hB1 rfl (ε (į ?_)))
     rw [nm]
     refine θ ⟨Š õ _,ih (j+1) _ v _ (by omega) lt (W.frame _ _ _ hz1 fun b hbf o q=>(ϑ _ _ (fun z:B=b=>nB (by rw [z];exact hbf))).trans q) ?_ (ϣ _ hB1 rfl) fun v' h2 tk2 hv' k2=>?_⟩
     ·simp only [ø,hb,if_true];exact hv
     ·exact hR v' h2 tk2 hv' fun b o n1 n2 q=>k2 b o n1 n2 ((ϑ _ _ (ϥ n2)).trans (k1 b o n1 q))
   | false=>
     simp only [á,if_false]
     refine ε (į ?_)
     rw [nm]
     refine θ ⟨Š õ _,ih (j+1) _ u c (by omega) lt hz1 ?_ hB1 fun v' h2 tk2 hv' k2=>hR v' h2 tk2 hv' fun b o n1 n2 q=>k2 b o n1 n2 (k1 b o n1 q)⟩
     simp only [ø,hb,á,if_false];exact hu
theorem fX (f:Nat→Int):∀ k i,i≤k→f i≤f (ø (cX f) k)
 | 0,i,h=>by cases (show i=0 by omega);exact Ż _
 | k+1,i,h=>by
   unfold ø
   cases hb:cX f (k+1) (ø (cX f) k) with
   | true=>
     have hb':f (k+1)>f (ø (cX f) k):=of_decide_eq_true hb
     simp only [if_true]
     by_cases e:i=k+1
     ·rw [e];exact Ż _
     ·have:=fX f k i (by omega);omega
   | false=>
     have hb':¬ f (k+1)>f (ø (cX f) k):=of_decide_eq_false hb
     simp only [á,if_false]
     by_cases e:i=k+1
     ·rw [e];omega
     ·exact fX f k i (by omega)
theorem jx (f:Nat→Int):∀ k,ø (cX f) k≤k
 | 0=>Ω _
 | k+1=>by
   unfold ø
   cases cX f (k+1) (ø (cX f) k) with
   | true=>exact Ω _
   | false=>exact ϫ (jx f k) (Ñ _)
end
theorem qI (r:List Int):∀ x:Int,x≤r.foldl (fun a b=>if b>a then b else a) x∧(∀ y∈r,y≤r.foldl (fun a b=>if b>a then b else a) x)∧(r.foldl (fun a b=>if b>a then b else a) x=x∨r.foldl (fun a b=>if b>a then b else a) x∈r):=by
 induction r with
 | nil=>intro x;exact ⟨Ż _,fun y h=>(nomatch h),.inl rfl⟩
 | cons b r ih=>
   intro x
   have h:=ih (if b>x then b else x)
   rw [List.foldl_cons]
   obtain ⟨h1,h2,h3⟩:=h
   by_cases c:b>x
   ·rw [ZZ c] at h1 h2 h3 ⊢
    refine ⟨by omega,fun y hy=>?_,?_⟩
    ·rcases π.mp hy with rfl | hy
     ·exact h1
     ·exact h2 y hy
    ·rcases h3 with h3 | h3
     ·exact .inr (by rw [h3];exact κ)
     ·exact .inr (ι _ h3)
   ·rw [ZY c] at h1 h2 h3 ⊢
    refine ⟨h1,fun y hy=>?_,?_⟩
    ·rcases π.mp hy with rfl | hy
     ·omega
     ·exact h2 y hy
    ·rcases h3 with h3 | h3
     ·exact .inl h3
     ·exact .inr (ι _ h3)
theorem nE {d m:Int} {ns:List Int} (ne:ns≠[]) (hm:m∈ns) (hg:∀ y∈ns,y≤m):maxD d ns=m:=by
 cases ns with
 | nil=>exact ZX rfl ne
 | cons x r=>
   obtain ⟨h1,h2,h3⟩:=qI r x
   have k1:maxD d (x :: r)=r.foldl (fun a b=>if b>a then b else a) x:=rfl
   rw [k1]
   have a1:r.foldl (fun a b=>if b>a then b else a) x≤m:=by
    rcases h3 with h3 | h3
    ·rw [h3];exact hg x κ
    ·exact hg _ (ι _ h3)
   have a2:m≤r.foldl (fun a b=>if b>a then b else a) x:=by
    rcases π.mp hm with rfl | hm
    ·exact h1
    ·exact h2 m hm
   omega
theorem dy:∀ {us:List ζ} {ns:List Int} {i:Nat} {v:ζ},D6 us ns→us[i]? = some v→∃ t,v = .int (ns.getD i 0) t
 | _,_,_,_,.nil,e=>by simp at e
 | _,_,0,v,.cons _ t _,e=>by simp at e;subst e;exact ⟨t,by simp⟩
 | _,_,i+1,v,.cons _ _ r,e=>by
   obtain ⟨t,h⟩:=dy (i:=i) r (by simpa using e)
   exact ⟨t,by simpa using h⟩
theorem yD {prog:ϴ} {w:Û} {A:Ϗ} {E:ζ→ν→Prop} {s:ν} {l:Α} {us:List ζ} {ns:List Int} {d:Int} {td:Tok} {Q:ζ→ν→Prop} (hh:A.handled=none) (hl:s.heap.IsList l us.toArray) (hi:D6 us ns)
 (q:∀ t h1 tk,(∀ b o,s.heap.get? b=some o→h1.get? b=some o)→Q (.int (maxD d ns) t) { s with heap:=h1,toks:=tk }):χ (model prog w) A (call (.builtin "max") [.ref l] [("default",.int d td)]) Q E s:=by
 have nm:(toString "max" ++ toString ".loop":String) = "max.loop":=by decide
 have hlt:l<s.heap.objs.size:=by obtain ⟨_,e,_⟩:=hl;exact Ξ e
 refine Ċ (î F.plain_max F.entry_max (CT (a:=()) (by kernel_rfl) ?_))
 show χ _ A.in1 (FY "max" ["key","default"] 0 ⟨[],[("default",.int d td)]⟩ >>= fun _=>_) _ _ s
 refine ε (CT (a:=[none,some (.int d td)]) (by rfl) (ε (θ ?_)))
 refine ε (ą hl (ε (È ?_)))
 rw [nm]
 let it:Α:=s.heap.objs.size
 generalize hh1:s.heap.push { cls:=.type "list_iterator",data:=.fields #[.ref l,.int 0 0] }=h1
 have sz1:h1.objs.size=s.heap.objs.size+1:=by rw [← hh1];exact ϯ ..
 have kp1:∀ b o,s.heap.get? b=some o→h1.get? b=some o:=fun b o e=>by rw [← hh1];exact τ _ e
 have it1:h1.IsListIter s.heap.objs.size l 0:=by rw [← hh1];exact ⟨_,ψ _ rfl,rfl,rfl⟩
 have W:=DM (prog:=prog) (w:=w) (A:=A.in1) hh s.heap.objs.size l (ϝ hlt) us.toArray
 have nB:h1.objs.size ∉ [s.heap.objs.size,l]:=fun hm=>by
  rw [sz1] at hm
  rcases π.mp hm with z | z
  ·exact ZX z (Ŕ _)
  ·rw [η] at z;exact ZX hlt (by rw [← z];exact CZ.mpr (Ñ _))
 have hlen:us.length=ns.length:=hi.length
 have hB:(h1.push { cls:=.type "list",dict:=none,data:=.seq ([]:List ζ).toArray }).get? h1.objs.size=some { cls:=.type "list",dict:=none,data:=.seq #[] 0,slots:=#[] }:=ψ _ rfl
 have st0:(h1.push { cls:=.type "list",dict:=none,data:=.seq ([]:List ζ).toArray }).IsListIter s.heap.objs.size l 0∧(h1.push { cls:=.type "list",dict:=none,data:=.seq ([]:List ζ).toArray }).IsList l us.toArray:=
  ⟨it1.at fun o e=>τ _ e,(hl.at fun o e=>kp1 l o e).at fun o e=>τ _ e⟩
 have back:∀ (h2:ϳ),(∀ b o,b ∉ [s.heap.objs.size]→b≠h1.objs.size→(h1.push { cls:=.type "list",dict:=none,data:=.seq ([]:List ζ).toArray }).get? b=some o→h2.get? b=some o)→∀ b o,s.heap.get? b=some o→h2.get? b=some o:=fun h2 k b o e=>by
  have lt:=Ξ e
  refine k b o (fun z=>?_) (fun z=>?_) (τ _ (kp1 b o e))
  ·rw [η.mp z] at lt;exact Ď _ lt
  ·rw [z,sz1] at lt;exact ZX lt (CZ.mpr (Ñ _))
 refine θ ⟨Š õ _,?_⟩
 refine C6 DQ ?_
 rw [ũ õ _]
 show χ _ A.in1 (D4 (.ref h1.objs.size) >>= fun _=>_) _ _ _
 refine ε (Ö hB rfl ?_)
 show χ _ A.in1 (tryCatch (DY (.ref s.heap.objs.size)) _ >>= fun _=>_) _ _ _
 cases hns:ns with
 | nil=>
   have hz:us.toArray.size=0:=by rw [hns] at hlen;simpa using hlen
   refine ε (ň (W.done _ _ _ (by rw [hz];exact st0) fun h2 tk k2=>?_))
   refine ε (ŷ (θ ?_))
   have:=q td h2 tk (back h2 fun b o n1 n2 e=>k2 b o n1 e)
   rw [hns] at this
   exact this
 | cons x r=>
   have hz:0<us.toArray.size:=by rw [hns] at hlen;simp;rw [hlen];simp
   let f:Nat→Int:=fun i=>ns.getD i 0
   have P:∀ i v,us.toArray[i]? = some v→fG f i v:=fun i v e=>by
    have e':us[i]? = some v:=by simpa using e
    obtain ⟨t,ht⟩:=dy hi e'
    exact ⟨t,ht⟩
   have W':Walks prog w A.in1 s.heap.objs.size [s.heap.objs.size,l] [s.heap.objs.size] us.toArray.size (fG f) (fun i h=>h.IsListIter s.heap.objs.size l i∧h.IsList l us.toArray):=
    { sub:=W.sub,frame:=W.frame,done:=W.done,self:=W.self,item:=fun i s Q E hi st hQ=>W.item i s Q E hi st fun v h' tk hP=>hQ v h' tk (P i v hP) }
   refine ε (ň (W'.item 0 _ _ _ hz st0 fun v h2 tk hv st2 k2=>?_))
   have nBw:h1.objs.size ∉ [s.heap.objs.size]:=fun z=>nB (by rw [η.mp z];exact κ)
   have hB2:=k2 _ _ nBw hB
   show χ _ A.in1 (GQ h1.objs.size (fun _=>#[v,v]) >>= fun _=>_) _ _ _
   refine ε (ĺ hB2 rfl ?_)
   rw [nm]
   refine θ ⟨Š õ _,yC W' _ h1.objs.size nB _ 0 _ v _ rfl hz (W'.frame _ _ _ st2 fun b hb o e=>(ϑ _ _ (fun z:h1.objs.size=b=>nB (by rw [z];exact hb))).trans e) hv (ϣ _ hB2 rfl) fun v' h3 tk3 hv' k3=>?_⟩
   obtain ⟨t',e'⟩:=hv'
   have lt:=jx f (us.toArray.size - 1)
   have hmem:f (ø (cX f) (us.toArray.size - 1))=maxD d ns:=by
    have hl2:ø (cX f) (us.toArray.size - 1)<ns.length:=by simp at lt hz ⊢;omega
    refine (nE (by rw [hns];simp) ?_ fun y hy=>?_).symm
    ·show ns.getD _ 0∈ns
     rw [à,Ζ hl2]
     exact ğ _
    ·obtain ⟨i,hi',rfl⟩:=ų.mp hy
     have:=fX f (us.toArray.size - 1) i (by simp;omega)
     have e2:f i=ns[i]:=by show ns.getD i 0=_;rw [à,Ζ hi'];rfl
     rw [← e2];exact this
   have q':=q t' h3 tk3 (back h3 fun b o n1 n2 e=>k3 b o n1 n2 ((ϑ _ _ (ϥ n2)).trans (k2 b o n1 e)))
   subst e'
   rw [hmem]
   exact q'
section
variable {M:Dj} {A:Ϗ} {E:ζ→ν→Prop} {s:ν} {env:CL} {pos:Ϫ} {e:Λ}
theorem qk {id:String} {rest:List Λ} {kws:List Ź} {Q:ζ→ν→Prop}
 (h:χ M A (spliced (Ϻ pos (Δ (e :: rest) env))) (fun vs s1=>χ M A (Gz ((Í pos (Ϭ kws env)).map (·.2))) (fun ks s2=>χ M A (call (.builtin id) vs (((Í pos (Ϭ kws env)).filterMap (·.1)).zip ks)) Q E s2) E s1) E s)
 (he:Δ (e :: rest) env=(false,eval e env) :: Δ rest env) (h1:(Ϻ pos (Δ (e :: rest) env)).any (·.1)=false) (h2:(Í pos (Ϭ kws env)).all (·.1.isSome)=true) (h3:(Í pos (Ϭ kws env)).any (·.1.isNone)=false) :
 χ M A (Ŭ pos (.builtin id) [] (Ϻ pos (Δ (e :: rest) env)) (Í pos (Ϭ kws env))) Q E s:=by
 have k:χ M A (evalArgs (.builtin id) true (Ϻ pos (Δ (e :: rest) env)) (Í pos (Ϭ kws env))) (fun a s1=>χ M A (call (.builtin id) ([] ++ a.pos) a.kw) Q E s1) E s:=by
  rw [he] at h ⊢
  exact evalArgs_kwB h2 h
 unfold Ŭ
 refine ε (Τ (thn k fun a s1 q=>ε (Ò ?_)))
 simp only [h1,h3,Ň]
 exact ε (θ (ε (thn q fun r s2 q2=>ε (Τ (E7 (θ q2))))))
end
end L2.Bw
namespace L2.Ev
open L2.Bw
section
variable {X:Cx}
theorem uB {kp:Ϫ} (hc:X.calm=true) (hx:Blt X "max" (.builtin "max")) (ha:LE X ea a) (hb:LE X eb b) (he:Δ [ea] X.env=(false,eval ea X.env) :: Δ [] X.env):LE X (.Call (.Name "max" p) [ea] [⟨some "default",eb,kp⟩] pos) (.bi .max0 (.cons a (.cons b .nil))):=fun br z I nb=>by
 refine è (hx.ld I ?_)
 refine qk ?_ he (by rw [he];rfl) rfl rfl
 rw [he]
 refine Ι ((ha true).go .refl I (ev2 fun l s=>Out.of s (biD .max0 (l.map (look s.st)))) nb fun z1 x u y1 x1 I1 r1 e1=>ϋ ?_)
 show χ _ _ (Gz ((do let v ← eval eb X.env;ř pos;pure v) :: [])) _ _ _
 refine G0 (ε ((hb true).go x1 I1 e1 nb fun z2 y v y2 x2 I2 r2 e2=>ε (Ò (θ (Gv ?_)))))
 refine cI x2 I2 e2 nb fun d q=>?_
 have c1:=(r1.rb.st y2 I2).cr I2
 have c2:=r2.rb.cr I2
 have q:wP .max0 (look z2.t.st x) (look z2.t.st y)=some d:=q
 revert q c1 c2
 generalize look z2.t.st x=x'
 generalize look z2.t.st y=y'
 intro c1 c2 q
 cases x' with
 | lst l=>
   cases y' with
   | int d0=>
     obtain ⟨ns,q1,rfl⟩:=φ.mp q
     obtain ⟨a0,o,vs,rfl,g,⟨⟨n,rfl⟩,hz⟩,r⟩:=c1
     obtain ⟨t,rfl⟩:=(show ∃ t,v=Đ d0 t from c2)
     exact yD (I2.hd hc) (show z2.s.heap.IsList a0 vs.toArray from ⟨_,g,rfl,n,rfl⟩) (hZ q1 r) fun t h1 tk kp=>.flat (.hp kp) fun G=>⟨t,rfl⟩
   | _=>cases q
 | _=>cases q
end
theorem og:∀ {l bs vs},kt l=some bs→RDs W ρ G l vs→vs=bs.map ϩ
 | [],bs,vs,e,r=>by cases e;cases (show vs = [] from r);rfl
 | d :: l,bs,vs,e,r=>by
   cases d with
   | bl b=>
     obtain ⟨cs,q,rfl⟩:=φ.mp (show (kt l).map (b :: ·)=some bs from e)
     obtain ⟨v,r',rfl,h,tl⟩:=r
     cases (show v=ϩ b from h)
     rw [og q tl];rfl
   | _=>cases e
theorem tG (bs:List Bool):((ĵ bs.length).all fun i=>(bs[i]?).getD true)=bs.all id:=by
 rw [FJ,ϓ,ϓ]
 constructor
 ·intro h b hb
  obtain ⟨i,hi,rfl⟩:=ų.mp hb
  have:=h i (ű.mpr hi)
  rw [Ζ hi] at this
  exact this
 ·intro h i hi
  have hi:=ű.mp hi
  rw [Ζ hi]
  exact h _ (ğ hi)
section
variable {X:Cx} {z:Z}
theorem wR (hc:X.calm=true):Bi1 X (.builtin "all") .all:=fun z u x d I h e=>by
 cases x with
 | lst l=>
   obtain ⟨bs,q,rfl⟩:=φ.mp (show (kt l).map (fun bs=>D.bl (bs.all id))=some d from e)
   obtain ⟨a,o,vs,rfl,g,⟨⟨n,rfl⟩,hz⟩,r⟩:=h
   have hv:=og q r
   have hi:z.s.heap.IsList a vs.toArray:=⟨_,g,rfl,n,rfl⟩
   have hlt:=Ξ g
   refine call_all_walk (ą hi ?_)
   refine ⟨z.s.heap.objs.size,[z.s.heap.objs.size,a],[z.s.heap.objs.size],vs.toArray.size,_,_,fun i=>(bs[i]?).getD true,rfl,DM (A:=X.A.in1) (I.hd hc) _ a (ϝ hlt) vs.toArray,⟨⟨_,ψ _ rfl,rfl,rfl⟩,hi.push _⟩,fun i v s' Q' E' hP hQ=>?_,fun h' tk hk=>?_⟩
   ·have hP:vs[i]? = some v:=by simpa using hP
    rw [hv,Ψ,φ] at hP
    obtain ⟨b,e,rfl⟩:=hP
    simp only [e,D5] at hQ
    exact ϵ hQ
   ·have e:((ĵ vs.toArray.size).all fun i=>(bs[i]?).getD true)=bs.all id:=by
     rw [Μ,hv,Θ];exact tG bs
    rw [e]
    exact .flat (.hp fun b o e=>hk b o (fun hm=>by rw [η.mp hm] at e;exact Ď _ (Ξ e)) (τ _ e)) fun G=>rfl
 | _=>cases e
theorem tP (hc:X.calm=true):Bi1 X (.builtin "max") .max2:=fun z u x d I h e=>by
 cases x with
 | lst l=>
   have e:(match cY l with | some (n :: r)=>some (D.int (maxD 0 (n :: r))) | _=>none)=some d:=e
   cases q:cY l with
   | none=>rw [q] at e;cases e
   | some ns=>
     cases ns with
     | nil=>rw [q] at e;cases e
     | cons n0 r0=>
       rw [q] at e;cases e
       obtain ⟨a,o,vs,rfl,g,⟨⟨n,rfl⟩,hz⟩,r⟩:=h
       have hi:=hZ q r
       have hlt:=Ξ g
       have hl:z.s.heap.IsList a vs.toArray:=⟨_,g,rfl,n,rfl⟩
       have hlen:vs.length=(n0 :: r0).length:=hi.length
       let f:Nat→Int:=fun i=>(n0 :: r0).getD i 0
       have P:∀ i v,vs.toArray[i]? = some v→fG f i v:=fun i v e=>dy hi (by simpa using e)
       refine call_max_walk (ą hl ?_)
       have W:=DM (prog:=X.W.P) (w:=X.W.w) (A:=X.A.in1) (I.hd hc) z.s.heap.objs.size a (ϝ hlt) vs.toArray
       refine ⟨z.s.heap.objs.size,[z.s.heap.objs.size,a],[z.s.heap.objs.size],vs.toArray.size,fG f,_,cX f,rfl,{ sub:=W.sub,frame:=W.frame,done:=W.done,self:=W.self,item:=fun i s Q E hi st hQ=>W.item i s Q E hi st fun v h' tk hP=>hQ v h' tk (P i v hP) },⟨⟨_,ψ _ rfl,rfl,rfl⟩,hl.push _⟩,fun b hb=>?_,by simp [hlen],FX f fun _ _ h=>h,fun v h' tk hv hk=>?_⟩
       ·show b<(z.s.heap.push _).objs.size
        rw [ϯ]
        rcases π.mp hb with w | w
        ·rw [w];exact ŕ _
        ·rw [η.mp w];exact Dg hlt
       ·obtain ⟨t,rfl⟩:=hv
        have lt:=jx f (vs.toArray.size - 1)
        have hl2:ø (cX f) (vs.toArray.size - 1)<(n0 :: r0).length:=by simp at lt ⊢;simp at hlen;omega
        have em:f (ø (cX f) (vs.toArray.size - 1))=maxD 0 (n0 :: r0):=by
         refine (nE (by simp) ?_ fun y hy=>?_).symm
         ·show (n0 :: r0).getD _ 0∈_
          rw [à,Ζ hl2]
          exact ğ _
         ·obtain ⟨i,hi',rfl⟩:=ų.mp hy
          have:=fX f (vs.toArray.size - 1) i (by simp at hi' hlen ⊢;omega)
          have e2:f i=(n0 :: r0)[i]:=by show (n0 :: r0).getD i 0=_;rw [à,Ζ hi'];rfl
          rw [← e2];exact this
        exact .flat (.hp fun b o e=>hk b o (fun hm=>by rw [η.mp hm] at e;exact Ď _ (Ξ e)) (τ _ e)) fun G=>⟨t,by rw [em]⟩
 | _=>cases e
end
end L2.Ev
end
section
namespace L2.Ev
def isP (x y:μ):Option (PLift (x=y)):=match h:x == y with
 | true=>some ⟨by simpa using h⟩
 | false=>none
theorem kL:aM (.bi b es)=aM (.bi b .nil):=by cases b <;> rfl
abbrev zq (x:μ) (b:Bi):Prop:=∀ X:Cx,X.calm=true→∃ f,FB f∧ġ x=some f∧((Bi1 X f b∧aM (.bi b .nil)=false)∨tD X f b)
def BP:List {q:μ×Bi // zq q.1 q.2}:=[
 ⟨("len",.len),fun X c=>⟨_,.inl ⟨_,rfl⟩,boot_len,.inl ⟨wT,rfl⟩⟩⟩,
 ⟨("tuple",.tuple),fun X c=>⟨_,.inr ⟨_,rfl⟩,De,.inl ⟨p9,rfl⟩⟩⟩,
 ⟨("list",.list),fun X c=>⟨_,.inr ⟨_,rfl⟩,ĳ,.inr tO⟩⟩,
 ⟨("dict",.dict),fun X c=>⟨_,.inr ⟨_,rfl⟩,Hf,.inr tN⟩⟩,
 ⟨("all",.all),fun X c=>⟨_,.inl ⟨_,rfl⟩,boot_all,.inl ⟨wR c,rfl⟩⟩⟩,
 ⟨("max",.max2),fun X c=>⟨_,.inl ⟨_,rfl⟩,boot_max,.inl ⟨tP c,rfl⟩⟩⟩,
 ⟨("abs",.abs),fun X c=>⟨_,.inl ⟨_,rfl⟩,boot_abs,.inl ⟨wQ,rfl⟩⟩⟩,
 ⟨("str",.str),fun X c=>⟨_,.inr ⟨_,rfl⟩,Dz,.inl ⟨wU,rfl⟩⟩⟩,
 ⟨("int",.int),fun X c=>⟨_,.inr ⟨_,rfl⟩,DA,.inl ⟨wS,rfl⟩⟩⟩]
abbrev zt (x:μ) (b:Bi):Prop:=aM (.bi b .nil)=false∧∀ X:Cx,X.calm=true→∃ f,FB f∧ġ x=some f∧Bi2 X f b
def BQ:List {q:μ×Bi // zt q.1 q.2}:=[]
def tM {P:μ→Bi→Prop} (x:μ):List {q:μ×Bi // P q.1 q.2}→Option {b:Bi // P x b}
 | []=>none
 | q :: r=>match isP q.1.1 x with
   | some h=>some ⟨q.1.2,by rw [← h.down];exact q.2⟩
   | none=>tM x r
abbrev zy (x:μ) (b:Bi):Prop:=(b = .isTup∨b = .isStr∨b = .isBool∨b = .isInt∨b = .isLst∨b = .isDic)∧ġ x=some (.type (tyN b))
def tys:List {q:μ×Bi // zy q.1 q.2}:=[⟨("tuple",.isTup),.inl rfl,De⟩,⟨("str",.isStr),.inr (.inl rfl),Dz⟩,⟨("bool",.isBool),.inr (.inr (.inl rfl)),Hg⟩,⟨("int",.isInt),.inr (.inr (.inr (.inl rfl))),DA⟩,⟨("list",.isLst),.inr (.inr (.inr (.inr (.inl rfl)))),ĳ⟩]
section
variable {T:Ns} {nm:List (μ×Β)} {N:List μ}
def iC (T:Ns) (nm:List (μ×Β)) (x:μ):Option (PLift (x∈T.bl∧bK nm x=true)):=do
 let m ← vd x T.bl
 let g ← yes (bK nm x)
 some ⟨m.down,g.down⟩
theorem bN (k:CxOk T X nm N) (h:x∈T.bl∧bK nm x=true) (hv:ġ x=some u) (hn:x≠"__name__":=by decide) (hd:(x == ("__debug__":μ))=false:=by decide):Blt X x u:=⟨bC k.sc h.2,k.blt x h.1,hv,hn,hd⟩
def BW (f:∀ e,Option (GE T nm N e)) (x:μ) (p:Ϫ) (hx:x≠"__name__") (hd:(x == ("__debug__":μ))=false) (m:x∈T.bl∧bK nm x=true):(es:List Λ)→(pos:Ϫ)→Option (GE T nm N (.Call (.Name x p) es [] pos))
 | [e],pos=>do
   let he ← yes (aJ e)
   let a ← f e
   let b ← tM x BP
   some ⟨.bi b.1 (.cons a.1 .nil),fun X k=>by
    obtain ⟨fv,h1,h2,h3⟩:=b.2 X k.calm
    rcases h3 with ⟨h3,h4⟩ | h3
    ·exact mk (xT h3 h1 (bN k m h2 hx hd) (a.2 X k).1 (ag he.down)) (kL.trans h4)
    ·exact mkf (yf h3 h1 (bN k m h2 hx hd) (a.2 X k).1 (ag he.down))⟩
 | [e,g],pos=>do
   let he ← yes (aJ e)
   let hg ← yes (aJ g)
   let a ← f e
   let c ← f g
   let b ← tM x BQ
   some ⟨.bi b.1 (.cons a.1 (.cons c.1 .nil)),fun X k=>by
    obtain ⟨fv,h1,h2,h3⟩:=b.2.2 X k.calm
    exact mk (xU h3 h1 (bN k m h2 hx hd) (a.2 X k).1 (c.2 X k).1 (ag he.down) (ag hg.down)) (kL.trans b.2.1)⟩
 | _,_=>none
def zJ (f:∀ e,Option (GE T nm N e)) (x:μ) (p:Ϫ) (e:Λ) (er:List Λ) (pos:Ϫ):Option (GE T nm N (.Call (.Name x p) (e :: er) [] pos)):=do
 let hd ← no (x == ("__debug__":μ))
 let hnm ← no (x == ("__name__":μ))
 let hg ← yes (bK nm x)
 match BK x (dnA x (er.length+1) T.dn ++ T.alt) T.fn with
 | some j=>
   let hn ← yes (er.all aJ)
   let he ← yes (aJ e)
   let a ← eA f (e :: er)
   some (if T.hc.contains x then ⟨.hcall j.1 a.1,fun X k=>by
    obtain ⟨n,fa,h1,h2,h3⟩:=k.fns j.1 x j.2
    exact mk (rK h1 h2 (bC k.sc hg.down) h3 (a.2 X k) hd.down (ag he.down) (bD (ϓ.mp hn.down)))⟩ else ⟨.call j.1 a.1,fun X k=>by
    obtain ⟨n,fa,h1,h2,h3⟩:=k.fns j.1 x j.2
    exact mk (uy h1 h2 (bC k.sc hg.down) h3 (a.2 X k) hd.down (ag he.down) (bD (ϓ.mp hn.down)))⟩)
 | none=>
   let m ← vd x T.bl
   BW f x p (by simpa using hnm.down) hd.down ⟨m.down,hg.down⟩ (e :: er) pos
def cIs (f:∀ e,Option (GE T nm N e)) (y:μ) (p:Ϫ) (ea:Λ) (x:μ) (q pos:Ϫ):Option (GE T nm N (.Call (.Name y p) [ea,.Name x q] [] pos)):=do
 let hy ← isP "isinstance" y
 let g1 ← iC T nm "isinstance"
 let g2 ← iC T nm x
 let b ← tM (P:=zy) x tys
 let hd ← no (x == ("__debug__":μ))
 let hnm ← no (x == ("__name__":μ))
 let he ← yes (aJ ea)
 let a ← f ea
 some ⟨.bi b.1 (.cons a.1 .nil),fun X k=>by
  obtain rfl:=hy.down
  exact mk (AN b.2.1 (bN k g1.down He) (bN k g2.down b.2.2 (by simpa using hnm.down) hd.down) (a.2 X k).1 (ag he.down)) (by rcases b.2.1 with w | w | w | w | w | w <;> rw [w] <;> rfl)⟩
def B8 (f:∀ e,Option (GE T nm N e)) (y:μ) (p:Ϫ) (ea:Λ) (x:μ) (q pos:Ϫ):Option (GE T nm N (.Call (.Name y p) [ea,.Name x q] [] pos)):=none
def B7 (f:∀ e,Option (GE T nm N e)) (y:μ) (p:Ϫ) (ea:Λ) (x1 x2 x3:μ) (q1 q2 q3:Ϫ) (k:Nat) (q pos:Ϫ):Option (GE T nm N (.Call (.Name y p) [ea,.Tuple [.Name x1 q1,.Name x2 q2,.Name x3 q3] k q] [] pos)):=none
def Ce (f:∀ e,Option (GE T nm N e)) (x y:μ) (p1 p2:Ϫ) (ea:Λ) (pos2 pos:Ϫ):Option (GE T nm N (.Call (.Name x p1) [.Call (.Name y p2) [ea] [] pos2] [] pos)):=do
 let hx ← isP "list" x
 let hy ← isP "reversed" y
 let g1 ← iC T nm "list"
 let g2 ← iC T nm "reversed"
 let he ← yes (aJ ea)
 let a ← f ea
 some ⟨.bi .rev (.cons a.1 .nil),fun X k=>by
  obtain rfl:=hx.down
  obtain rfl:=hy.down
  exact mkf (yh k.calm (bN k g1.down ĳ) (bN k g2.down boot_reversed) (a.2 X k).1 (ag he.down) rfl)⟩
def iX (f:∀ e,Option (GE T nm N e)) (tg e:Λ):Option (GI T nm N tg e):=(f e).map fun a=>⟨.itv a.1,fun X k=>CC k.calm (a.2 X k).1⟩
def cR1 (f:∀ e,Option (GE T nm N e)) (tg:Λ) (x:μ) (p:Ϫ) (a:Λ) (pos:Ϫ):Option (GI T nm N tg (.Call (.Name x p) [a] [] pos)):=do
 let hx ← isP "range" x
 let g ← iC T nm "range"
 let he ← yes (aJ a)
 let u ← f a
 some ⟨.it .range1 (.cons u.1 .nil),fun X k=>by
  obtain rfl:=hx.down
  exact pC k.calm (bN k g.down boot_range) (u.2 X k).1 (ag he.down)⟩
def cRw (f:∀ e,Option (GE T nm N e)) (tg:Λ) (x:μ) (p:Ϫ) (a:Λ) (pos:Ϫ):Option (GI T nm N tg (.Call (.Name x p) [a] [] pos)):=none
def cRr (f:∀ e,Option (GE T nm N e)) (tg:Λ) (x:μ) (p:Ϫ) (pos:Ϫ):(a:Λ)→Option (GI T nm N tg (.Call (.Name x p) [a] [] pos)):=fun _=>none
def cR2 (f:∀ e,Option (GE T nm N e)) (tg:Λ) (x:μ) (p:Ϫ) (a b:Λ) (pos:Ϫ):Option (GI T nm N tg (.Call (.Name x p) [a,b] [] pos)):=none
def cE1 (f:∀ e,Option (GE T nm N e)) (ts:List Λ) (n:Nat) (tp:Ϫ) (x:μ) (p:Ϫ) (a:Λ) (pos:Ϫ):Option (GI T nm N (.Tuple ts n tp) (.Call (.Name x p) [a] [] pos)):=do
 let hx ← isP "enumerate" x
 let g ← iC T nm "enumerate"
 let he ← yes (aJ a)
 let u ← f a
 some ⟨.it .enum (.cons u.1 .nil),fun X k=>by
  obtain rfl:=hx.down
  exact uJ k.calm (bN k g.down boot_enumerate) (u.2 X k).1 (ag he.down)⟩
def cE2 (f:∀ e,Option (GE T nm N e)) (ts:List Λ) (n:Nat) (tp:Ϫ) (x y:μ) (p:Ϫ) (a b:Λ) (kp pos:Ϫ):Option (GI T nm N (.Tuple ts n tp) (.Call (.Name x p) [a] [⟨some y,b,kp⟩] pos)):=do
 let hx ← isP "enumerate" x
 let hy ← isP "start" y
 let g ← iC T nm "enumerate"
 let he ← yes (aJ a)
 let u ← f a
 let w ← f b
 some ⟨.it .enum2 (.cons u.1 (.cons w.1 .nil)),fun X k=>by
  obtain rfl:=hx.down
  obtain rfl:=hy.down
  exact rQ k.calm (bN k g.down boot_enumerate) (u.2 X k).1 (w.2 X k).1 (ag he.down)⟩
def cZ2 (f:∀ e,Option (GE T nm N e)) (ts:List Λ) (n:Nat) (tp:Ϫ) (x:μ) (p:Ϫ) (a b:Λ) (pos:Ϫ):Option (GI T nm N (.Tuple ts n tp) (.Call (.Name x p) [a,b] [] pos)):=do
 let hx ← isP "zip" x
 let g ← iC T nm "zip"
 let ha ← yes (aJ a)
 let hb ← yes (aJ b)
 let u ← f a
 let v ← f b
 some ⟨.it .zip2 (.cons u.1 (.cons v.1 .nil)),fun X k=>by
  obtain rfl:=hx.down
  exact uK k.calm (bN k g.down boot_zip) (u.2 X k).1 (v.2 X k).1 (ag ha.down) (ag hb.down)⟩
def cZ3 (f:∀ e,Option (GE T nm N e)) (ts:List Λ) (n:Nat) (tp:Ϫ) (x:μ) (p:Ϫ) (a b c:Λ) (pos:Ϫ):Option (GI T nm N (.Tuple ts n tp) (.Call (.Name x p) [a,b,c] [] pos)):=do
 let hx ← isP "zip" x
 let g ← iC T nm "zip"
 let ha ← yes (aJ a)
 let hb ← yes (aJ b)
 let hc ← yes (aJ c)
 let u ← f a
 let v ← f b
 let w ← f c
 some ⟨.it .zip3 (.cons u.1 (.cons v.1 (.cons w.1 .nil))),fun X k=>by
  obtain rfl:=hx.down
  exact uL k.calm (bN k g.down boot_zip) (u.2 X k).1 (v.2 X k).1 (w.2 X k).1 (ag ha.down) (ag hb.down) (ag hc.down)⟩
def vQ (f:∀ e,Option (GE T nm N e)):(tg e:Λ)→Option (GI T nm N tg e)
 | .Tuple ts n tp,.Call (.Name x p) [a] [] pos=>(cE1 f ts n tp x p a pos).orElse fun _=>iX f _ _
 | .Tuple ts n tp,.Call (.Name x p) [a] [⟨some y,b,kp⟩] pos=>cE2 f ts n tp x y p a b kp pos
 | .Tuple ts n tp,.Call (.Name x p) [a,b] [] pos=>(cZ2 f ts n tp x p a b pos).orElse fun _=>iX f _ _
 | .Tuple ts n tp,.Call (.Name x p) [a,b,c] [] pos=>(cZ3 f ts n tp x p a b c pos).orElse fun _=>iX f _ _
 | tg,.Call (.Name x p) [a] [] pos=>(((cR1 f tg x p a pos).orElse fun _=>cRr f tg x p pos a).orElse fun _=>cRw f tg x p a pos).orElse fun _=>iX f _ _
 | tg,.Call (.Name x p) [a,b] [] pos=>(cR2 f tg x p a b pos).orElse fun _=>iX f _ _
 | tg,e=>iX f tg e
theorem bg (h:bv e=true):Ē e x env m=m:=by
 unfold Ē
 split
 ·have h':(_ != ("super":μ))=true:=h
  rw [ZZ (by rw [h'];rfl)]
 ·rfl
theorem sP (h:∀ e∈es,aJ e=true):((Ϻ pos (Δ es env)).all fun x=>!x.1)=true:=by
 have:=bD (env:=env) (pos:=pos) h
 rw [List.all_eq_not_any_not]
 simpa using this
theorem sd (h1:bv o=true) (h2:∀ x∈es,aJ x=true) (h3:es.length<30) (h4:(apos.endLine == pos.line)=true):eval (.Call (.Attribute o m apos) es [] pos) env=(do
 let ov ← eval o env
 ř apos.atName
 let (f,first) ← holding [ov] (E0 ov m (do return (← importBound o env).getD true))
 Ŭ pos f first (Ϻ pos (Δ es env)) (Í pos (Ϭ [] env))):=by
 have e0:eval (.Call (.Attribute o m apos) es [] pos) env=(do
  let ov ← Ē o m env (eval o env)
  ř apos.atName
  methodCall o m apos pos env ov (es.length+([]:List Ź).length) (Ϻ pos (Δ es env)) (Í pos (Ϭ [] env))):=rfl
 rw [e0,bg h1]
 have few:methodCallForm (es.length+([]:List Ź).length) (Ϻ pos (Δ es env)) (Í pos (Ϭ [] env))=true:=by
  unfold methodCallForm
  rw [sP h2]
  simp only [Ec]
  show (true && decide (_<30))=true
  simp only [Ec]
  apply ZW
  exact h3
 congr 1
 funext ov
 congr 1
 funext _
 unfold methodCall
 simp only [few]
 have e1:š true o env apos pos=pure pos:=by unfold š;rw [h4];rfl
 simp only [e1]
 rfl
def yE (m:μ):(l:List (μ×Nat×Nat))→Option {q:Nat×Nat // (m,q.1,q.2)∈l}
 | []=>none
 | (y,c,j) :: r=>match isP y m with
   | some h=>some ⟨(c,j),by obtain rfl:=h.down;exact κ⟩
   | none=>(yE m r).map fun i=>⟨i.1,ι _ i.2⟩
def Cb (f:∀ e,Option (GE T nm N e)) (o:Λ) (m:μ) (ap:Ϫ):(args:List Λ)→(pos:Ϫ)→Option (GE T nm N (.Call (.Attribute o m ap) args [] pos))
 | [],pos=>do
   let q ← yE m T.me
   let hs ← yes (bv o)
   let hp ← yes (ap.endLine == pos.line)
   let a ← f o
   some ⟨.mth q.1.1 q.1.2 a.1 .nil,fun X k=>by
    obtain ⟨n,fa,h1,h2,h3⟩:=k.mts _ q.2
    exact mk (uC h1 h2 h3 (a.2 X k).1 (sd hs.down (fun x hx=>nomatch hx) (by decide) hp.down))⟩
 | e :: er,pos=>do
   let q ← yE m T.me
   let hs ← yes (bv o)
   let hp ← yes (ap.endLine == pos.line)
   let hn ← yes ((e :: er).all aJ)
   let hl ← yes (decide ((e :: er).length<30))
   let a ← f o
   let b ← eA f (e :: er)
   some ⟨.mth q.1.1 q.1.2 a.1 b.1,fun X k=>by
    obtain ⟨n,fa,h1,h2,h3⟩:=k.mts _ q.2
    have hn':=ϓ.mp hn.down
    exact mk (x9 h1 h2 h3 (a.2 X k).1 (b.2 X k) (ag (hn' e κ)) (bD fun x hx=>hn' x (ι _ hx)) (sd hs.down hn' (by simpa using hl.down) hp.down))⟩
def B4 (f:∀ e,Option (GE T nm N e)) (o:Λ) (m:μ) (ap:Ϫ):(args:List Λ)→(pos:Ϫ)→Option (GE T nm N (.Call (.Attribute o m ap) args [] pos)):=fun _ _=>none
def Ad (f:∀ e,Option (GE T nm N e)) (m:μ) (ap:Ϫ):(o:Λ)→(args:List Λ)→(pos:Ϫ)→Option (GE T nm N (.Call (.Attribute o m ap) args [] pos))
 | .Name x p,[e,g],pos=>do
   let hm ← isP "get" m
   let hd ← no (x == ("__debug__":μ))
   let hg ← yes (bK nm x)
   let j ← bu x T.tb
   let hs ← yes (bv (.Name x p))
   let hp ← yes (ap.endLine == pos.line)
   let hn ← yes (aJ e)
   let hg2 ← yes (aJ g)
   let b ← f e
   let c ← f g
   some ⟨.tget j.1 b.1 c.1,fun X k=>by
    obtain rfl:=hm.down
    obtain ⟨t,ad,h1,h2,h3⟩:=k.tbs j.1 x j.2
    exact mk (uG (bC k.sc hg.down) h2 h1 h3 hd.down (b.2 X k).1 (c.2 X k).1 ⟨bg hs.down,by rw [ag hn.down,ag hg2.down];rfl,hp.down,by rw [ag hn.down,ag hg2.down];rfl⟩)⟩
 | _,_,_=>none
def w7 (f:∀ e,Option (GE T nm N e)) (x:μ) (j:Nat) (p:Ϫ) (m:μ) (ap:Ϫ):(args:List Λ)→(pos:Ϫ)→Option (GE T nm N (.Call (.Attribute (.Constant (.str x) j p) m ap) args [] pos))
 | [e],pos=>do
   let hm ← isP "join" m
   let hp ← yes (ap.endLine == pos.line)
   let hn ← yes (aJ e)
   let a ← f e
   some ⟨.join x a.1,fun X k=>by
    obtain rfl:=hm.down
    exact mk (uA (a.2 X k).1 ⟨bg rfl,by rw [ag hn.down];rfl,hp.down,by rw [ag hn.down];rfl⟩)⟩
 | _,_=>none
def B3 (f:∀ e,Option (GE T nm N e)) (x:μ) (j1:Nat) (p1:Ϫ) (e:Λ) (p2:Ϫ) (y:μ) (j2:Nat) (p3 pos:Ϫ):Option (GE T nm N (.JoinedStr [.Constant (.str x) j1 p1,.FormattedValue e (-1) none p2,.Constant (.str y) j2 p3] pos)):=do
 let hx ← yes (decide (x.length≤1000))
 let hy ← yes (decide (y.length≤1000))
 let a ← f e
 some ⟨.fmt x a.1 y,fun X k=>mk (xX (by simpa using hx.down) (by simpa using hy.down) (a.2 X k).1)⟩
def Cg (f:∀ e,Option (GE T nm N e)) (a:Λ) (lo:Option Λ) (st:Λ) (p2 pos:Ϫ):Option (GE T nm N (.Subscript a (.Slice lo none (some st) p2) pos)):=none
def zR (f:∀ e,Option (GE T nm N e)) (x:μ) (p:Ϫ):(args:List Λ)→(pos:Ϫ)→Option (GE T nm N (.Call (.Name x p) args [] pos))
 | [],pos=>do
   let j ← bu x T.nw
   let hz ← no (x == ("":μ))
   let hd ← no (x == ("__debug__":μ))
   let hg ← yes (bK nm x)
   some ⟨.new j.1 .nil,fun X k=>by
    obtain ⟨n,fa,i,cl,h1,h4,h5,h6,h7,h8,h9,h10⟩:=k.nws j.1 x j.2 (by simpa using hz.down)
    exact mk (uD h1 h4 h5 h6 h7 h8 h9 (bC k.sc hg.down) h10 hd.down)⟩
 | e :: er,pos=>do
   let j ← bu x T.nw
   let hz ← no (x == ("":μ))
   let hd ← no (x == ("__debug__":μ))
   let hg ← yes (bK nm x)
   let hn ← yes ((e :: er).all aJ)
   let a ← eA f (e :: er)
   some ⟨.new j.1 a.1,fun X k=>by
    obtain ⟨n,fa,i,cl,h1,h4,h5,h6,h7,h8,h9,h10⟩:=k.nws j.1 x j.2 (by simpa using hz.down)
    have hn':=ϓ.mp hn.down
    exact mk (yb h1 h4 h5 h6 h7 h8 h9 (bC k.sc hg.down) h10 (a.2 X k) hd.down (ag (hn' e κ)) (bD fun y hy=>hn' y (ι _ hy)))⟩
def zS (f:∀ e,Option (GE T nm N e)) (x:μ) (p:Ϫ):(args:List Λ)→(pos:Ϫ)→Option (GE T nm N (.Call (.Name x p) args [] pos))
 | [],pos=>none
 | e :: er,pos=>do
   let j ← bu x T.nd
   let hz ← no (x == ("":μ))
   let hd ← no (x == ("__debug__":μ))
   let hg ← yes (bK nm x)
   let hn ← yes ((e :: er).all aJ)
   let a ← eA f (e :: er)
   some ⟨.newd j.1 a.1,fun X k=>by
    obtain ⟨n,fa,fd,ps,i,cl,h1,h2,h3,h4,h5,h6,h7,h8,h9,h10,h11⟩:=k.nds j.1 x j.2 (by simpa using hz.down)
    have hn':=ϓ.mp hn.down
    exact mk (uE h1 h2 h3 h4 h5 h6 h7 h8 h9 h10 (bC k.sc hg.down) h11 (a.2 X k) hd.down (ag (hn' e κ)) (bD fun y hy=>hn' y (ι _ hy)))⟩
def wX (f:∀ e,Option (GE T nm N e)) (x:μ) (p:Ϫ) (e:Λ) (er:List Λ) (pos:Ϫ):Option (GE T nm N (.Call (.Name x p) (e :: er) [] pos)):=do
 let a ← zJ f x p e er pos
 some a
end
section
variable {T:Ns} {nm:List (μ×Β)} {N:List μ}
def zK (f:∀ e,Option (GE T nm N e)) (keys:List (Option Λ)) (vals:List Λ) (pos:Ϫ):Option (GE T nm N (.Dict keys vals pos)):=none
end
def gR (fn:Bool) (nm:List (μ×Β)) (x:μ):Bool:=nm.lookup x == some .local || (fn && nm.lookup x == some .cell)
structure TgH (nm:List (μ×Β)) (N:List μ) (X:Cx):Prop where
 calm:X.calm=true
 hN:X.N=N
 nd:N.Nodup
 sc:X.env.scope.names=nm
theorem ir {fn:Bool} (h:TgH nm N X) (hl:gR fn nm x=true):Loc X.env.scope x:=by
 have l1:nm.lookup x=some .local∨(fn=true∧nm.lookup x=some .cell):=by
  unfold gR at hl
  simpa using hl
 show X.env.scope.names.lookup x=_∨X.env.scope.names.lookup x=_
 rw [h.sc]
 exact l1.imp id DC
def Pl (nm:List (μ×Β)) (N:List μ) (t:List Nat):Prop:=∀ i∈t,∀ x,N[i]? = some x→nm.lookup x=some .local
theorem fw {nm:List (μ×Β)} {N:List μ} {i:Nat} {x:μ} (hi:N[i]? = some x) (hl:gR false nm x=true):∀ y,N[i]? = some y→nm.lookup y=some .local:=fun y e=>by
 rw [hi] at e;cases e
 unfold gR at hl
 simpa using hl
structure zx (fn:Bool) (nm:List (μ×Β)) (N:List μ) (es:List Λ) (t:List Nat):Prop where
 len:∀ env,(Ī es env).length=t.length
 fst:∀ env,(Ī es env).findIdx? (·.1)=none
 as_:∀ X,TgH nm N X→As X ((Ī es X.env).map (·.2)) t
 pl:fn=false→Pl nm N t
def zg (fn:Bool) (nm:List (μ×Β)) (N:List μ):(es:List Λ)→Option {t:List Nat // zx fn nm N es t}
 | []=>some ⟨[],fun _=>rfl,fun _=>rfl,fun X h=>trivial,fun _ i m=>nomatch m⟩
 | .Name x p :: r=>do
   let i ← bu x N
   let hl ← yes (gR fn nm x)
   let t ← zg fn nm N r
   some ⟨i.1 :: t.1,fun env=>ZS (· + 1) (t.2.len env),fun env=>by
    show List.findIdx? _ ((false,assign (.Name x p) env) :: Ī r env)=none
    rw [List.findIdx?_cons,t.2.fst env];rfl,fun X h=>⟨⟨x,by rw [h.hN];exact i.2,ir h hl.down,fun q=>DH q⟩,t.2.as_ X h⟩,fun hf j m y e=>by
    rcases π.mp m with w | w
    ·rw [w] at e;exact fw i.2 (hf ▸ hl.down) y e
    ·exact t.2.pl hf j w y e⟩
 | _=>none
def tgP (fn:Bool) (nm:List (μ×Β)) (N:List μ):(tg:Λ)→Option {q:List Nat×Bool // (∀ X,TgH nm N X→LG X tg q.1 q.2)∧(fn=false→Pl nm N q.1)}
 | .Name x p=>do
   let i ← bu x N
   let hl ← yes (gR fn nm x)
   some ⟨([i.1],true),fun X h=>uI (by rw [h.hN];exact h.nd) (by rw [h.hN];exact i.2) (ir h hl.down),fun hf j m y e=>by rw [η.mp m] at e;exact fw i.2 (hf ▸ hl.down) y e⟩
 | .Tuple es k p=>do
   let t ← zg fn nm N es
   some ⟨(t.1,false),fun X h=>rP h.calm (by rw [h.hN];exact h.nd) (t.2.as_ X h) (t.2.len _) (t.2.fst _),t.2.pl⟩
 | _=>none
def eW:Λ→List μ
 | .Name x _=>[x]
 | .Tuple es _ _=>es.filterMap fun e=>match e with | .Name x _=>some x | _=>none
 | _=>[]
def fO (nm:List (μ×Β)) (sc:ē):List (μ×Β):=sc.names.map fun y=>if (y.2 == .free && nm.lookup y.1 == some .cell)=true then (y.1,.cell) else (y.1,y.2)
def yK (nm:List (μ×Β)) (p:μ×μ):Bool:=match nm.lookup p.1 with
 | some .local=>false
 | some .cell=>p.1 == p.2
 | some .free=>p.1 == p.2
 | _=>true
def ndB:List μ→Bool
 | []=>true
 | x :: r=>!r.contains x && ndB r
theorem wq:∀ {l},ndB l=true→l.Nodup
 | [],_=>List.nodup_nil
 | x :: r,h=>by
   have h':r.contains x=false∧ndB r=true:=by simpa [ndB] using h
   refine ϛ.mpr ⟨fun m=>?_,wq h'.2⟩
   have:r.contains x=true:=by simpa using m
   rw [h'.1] at this
   cases this
def kN (own:List μ) (N:List μ):List μ:=own ++ N.map fun y=>if own.contains y then ⟨y.cps.push (1200000+N.length)⟩ else y
def lcB (nm:List (μ×Β)) (N N':List μ) (sc:ē) (k:Nat):Bool:=
 (sc.names.all fun y=>y.2 != .cell) && sc.kind == .function && (sc.names.all fun y=>y.2 != .local || sc.names.lookup y.1 == some .local) &&
 (sc.names.all fun y=>y.2 != .free || (nm.lookup y.1 == some .cell || nm.lookup y.1 == some .free)) && N'.length == k+N.length && ((N'.drop k).zip N).all (yK (fO nm sc)) && ndB N'
section
variable {T:Ns} {nm:List (μ×Β)} {N N':List μ} {X:Cx} {sc:ē}
theorem eR (k:CxOk T X nm N):(relabel sc X.env).names=fO nm sc:=by
 unfold relabel fO
 dsimp only
 congr 1
 funext y
 rw [k.kd,show X.env.kindOf y.1=nm.lookup y.1 by rw [← k.sc];rfl]
 simp
theorem AM (k:CxOk T X nm N) (h:lcB nm N N' sc n=true):Lcn X sc n N'∧N'.Nodup:=by
 unfold lcB at h
 simp only [Χ] at h
 obtain ⟨⟨⟨⟨⟨⟨h1,h2⟩,h3⟩,h4⟩,h5⟩,h6⟩,h7⟩:=h
 have kk:∀ x,X.env.kindOf x=nm.lookup x:=fun x=>by rw [← k.sc];rfl
 refine ⟨AK h1 (by simpa using h2) h3 (by simp only [kk];exact h4) (by rw [k.hN];simpa using h5) ?_,wq h7⟩
 rw [k.hN]
 have e:jj sc X.env=yK (fO nm sc):=by
  funext p
  unfold jj yK
  rw [eR k]
  all_goals rfl
 rw [e]
 exact h6
theorem d8.cx (h:d8 X an c k i):d8 (cxC X N' sc C) an c k i:=⟨h.ci,h.cls,h.na,h.wh,h.nm,h.nd,h.xc⟩
theorem CxOk.inner (k:CxOk T X nm N) (L:Lcn X sc n N') (nd:N'.Nodup) :CxOk T (cxC X N' sc C) (fO nm sc) N' where
 hN:=rfl
 nd:=nd
 sc:=eR k
 kd:=L.kind
 calm:=k.calm
 fns:=fun j x h=>let ⟨n,f,h1,h2,h3⟩:=k.fns j x h;⟨n,f,bX.to (X:=X) h1,h2,h3⟩
 gls:=k.gls
 tbs:=k.tbs
 blt:=k.blt
 cls:=fun c cl h=>let ⟨i,h1⟩:=k.cls c cl h;⟨i,h1.cx⟩
 mts:=fun q h=>let ⟨n,f,h1,h2,⟨i,cl,a,b,c⟩⟩:=k.mts q h;⟨n,f,bX.to (X:=X) h1,h2,⟨i,cl,a,b.cx,c⟩⟩
 nws:=fun j x h hz=>let ⟨n,f,i,cl,h1,h2⟩:=k.nws j x h hz;⟨n,f,i,cl,bX.to (X:=X) h1,h2⟩
 nds:=fun j x h hz=>let ⟨n,f,fd,ps,i,cl,h1,h2⟩:=k.nds j x h hz;⟨n,f,fd,ps,i,cl,FnI.to (X:=X) h1,h2⟩
 hxs:=k.hxs
 fr:=⟨k.fr.fr,k.fr.frame⟩
 vxs:=k.vxs
def B6 (g:∀ e,Option (GT T nm N e)):(ifs:List Λ)→Option {c:E // ∀ X,CxOk T X nm N→LTs X ifs c}
 | []=>some ⟨.c (.bl true),fun X k=>uZ⟩
 | [c]=>(g c).map fun x=>⟨x.1,fun X k=>u4 (x.2 X k)⟩
 | _=>none
def zO (f:aF T) (g:iB T) (nm:List (μ×Β)) (N:List μ) (ee tg iter:Λ) (ifs:List Λ) (sc:ē):Option {q:(List Nat×Bool)×E×E×E // ∀ X,CxOk T X nm N→LcP X (kN (eW tg) N) ee tg iter ifs sc q.1.1 q.1.2 q.2.1 q.2.2.1 q.2.2.2}:=do
 let it ← vQ (f nm N) tg iter
 let q ← tgP false (fO nm sc) (kN (eW tg) N) tg
 let h0 ← yes (q.1.1.all fun i=>decide (i<q.1.1.length))
 let hl ← yes (lcB nm N (kN (eW tg) N) sc q.1.1.length)
 let c ← B6 (g (fO nm sc) (kN (eW tg) N)) ifs
 let e ← f (fO nm sc) (kN (eW tg) N) ee
 let hn ← yes (aJ iter)
 some ⟨(q.1,it.1,e.1,c.1),fun X k=>by
  obtain ⟨L,nd⟩:=AM k hl.down
  exact ⟨k.calm,k.fr,L,it.2 X k,fun C=>q.2.1 (cxC X _ sc C) ⟨k.calm,rfl,nd,eR k⟩,fun i m x e=>by rw [eR k];exact q.2.2 rfl i m x e,fun C=>c.2 _ (k.inner L nd),fun C=>(e.2 _ (k.inner L nd)).1,i8 hn.down⟩⟩
def cLC (f:aF T) (g:iB T) (nm:List (μ×Β)) (N:List μ) (ee tg iter:Λ) (ifs:List Λ) (sc:ē) (pos:Ϫ):Option (GE T nm N (.ListComp ee [⟨tg,iter,ifs,0⟩] sc pos)):=
 (zO f g nm N ee tg iter ifs sc).map fun q=>⟨.lc q.1.1.1 q.1.1.2 q.1.2.1 q.1.2.2.1 q.1.2.2.2,fun X k=>mkf (rO (q.2 X k))⟩
end
theorem mN (h:(match e with | .Compare ..=>false | .BoolOp ..=>false | .UnaryOp ..=>false | .IfExp ..=>false | .NamedExpr ..=>false | _=>true)=true):Ga e env whole=(do let v ← whole;ř e.pos;holding [v] (truthy v)):=by
 cases e <;> first | rfl | cases h
section
variable {T:Ns}
theorem rY {X:Cx} {o p:Op} (ho:Op2 X (Ú op) (opD o)) (hp:Op2 X (Ú op') (opD p)) (ha:LE X ea a) (hb:LE X eb b) (hc:LE X ec c) (hm:GU [op,op'] [eb,ec]=false):LT X (.Compare ea [op,op'] [eb,ec] pos) (.chain o p a b c):=fun z I nb=>
 isTrue_chain ((ha true).go .refl I (aq ..) nb fun z1 x u y1 x1 I1 r1 e1=>test_link ((hb true).go x1 I1 (e1.trans (aq ..)) nb fun z2 y v y2 x2 I2 r2 e2=>by
  cases q:opD o (look z2.t.st x) (look z2.t.st y) with
  | none=>rw [q] at e2;exact ZX e2 nb
  | some d=>
    rw [q] at e2
    refine Κ (ϙ I2.tk (ho z2 u v _ _ d I2 ((r1.rb.st y2 I2).cr I2) (r2.rb.cr I2) q)) (fun w s' ⟨tk,k⟩=>?_) fun _ _ z=>z.2.elim
    cases d with
    | bl t=>
      cases (show w=ϩ t from k.2)
      have g:=b6 I2.gh k.1
      refine ϵ ?_
      cases t with
      | false=>exact ite_ff ⟨z2.up s',false,rfl,e2,x2.trans g.ee,I2.grow g,rfl⟩
      | true=>exact ite_tt (test_last ((hc true).go (x2.trans g.ee) (I2.grow g) (e2.trans (aq ..)) nb fun z4 w' v' y4 x4 I4 r4 e4=>by
        cases q4:opD p (look z4.t.st y) (look z4.t.st w') with
        | none=>rw [q4] at e4;exact ZX e4 nb
        | some d4=>rw [q4] at e4;exact Κ (ϙ I4.tk (hp z4 v v' _ _ d4 I4 (((r2.rb.st g.ee (I2.grow g)).st y4 I4).cr I4) (r4.rb.cr I4) q4)) (fun c s' k=>k.2.tru x4 I4 e4 nb k.1) fun _ _ z=>z.2.elim))
    | _=>exact ZX e2 nb)) hm
abbrev GC (T:Ns) (nm:List (μ×Β)) (N:List μ) (e:Λ):={c:E // ∀ X,CxOk T X nm N→(LE X e c∧aM c=false)∧LT X e c}
def tS (f:aF T) (nm:List (μ×Β)) (N:List μ) (a:Λ) (op:CmpOp) (b:Λ) (pos:Ϫ):Option (GC T nm N (.Compare a [op] [b] pos)):=do
 let o ← xg op
 let hb ← yes (aJ b)
 let x ← f nm N a
 let y ← f nm N b
 some ⟨.op o.1 x.1 y.1,fun X k=>⟨⟨xV (o.2 X) (x.2 X k).1 (y.2 X k).1 (gW hb.down),rfl⟩,yx (o.2 X) (x.2 X k).1 (y.2 X k).1 (gW hb.down)⟩⟩
def w9 (f:aF T) (nm:List (μ×Β)) (N:List μ) (a:Λ) (x:μ) (p pos:Ϫ):Option (GC T nm N (.Compare a [.In] [.Name x p] pos)):=do
 let hd ← no (x == ("__debug__":μ))
 let hg ← yes (bK nm x)
 let j ← bu x T.tb
 let y ← f nm N a
 some ⟨.tabin j.1 y.1,fun X k=>by
  obtain ⟨t,ad,h1,h2,h3⟩:=k.tbs j.1 x j.2
  exact ⟨⟨rM (bC k.sc hg.down) h2 h1 h3 (y.2 X k).1 hd.down rfl,rfl⟩,r6 (bC k.sc hg.down) h2 h1 h3 (y.2 X k).1 hd.down rfl⟩⟩
def xb (f:aF T) (nm:List (μ×Β)) (N:List μ) (a:Λ) (x:μ) (p pos:Ϫ):Option (GC T nm N (.Compare a [.NotIn] [.Name x p] pos)):=none
def B0 (f:aF T) (nm:List (μ×Β)) (N:List μ) (a:Λ) (b:Λ) (pos:Ϫ):Option (GC T nm N (.Compare a [.Eq] [b] pos)):=none
def vN (f:aF T) (nm:List (μ×Β)) (N:List μ):(a:Λ)→(ops:List CmpOp)→(bs:List Λ)→(pos:Ϫ)→Option (GC T nm N (.Compare a ops bs pos))
 | a,[.Is],[.Constant .none j p],pos=>(f nm N a).map fun x=>⟨.isN x.1,fun X k=>⟨⟨xY (x.2 X k).1 rfl,rfl⟩,yy (x.2 X k).1 rfl⟩⟩
 | a,[.IsNot],[.Constant .none j p],pos=>(f nm N a).map fun x=>⟨.isNN x.1,fun X k=>⟨⟨uz (x.2 X k).1 rfl,rfl⟩,uY (x.2 X k).1 rfl⟩⟩
 | a,[.NotIn],[.Name x p],pos=>(xb f nm N a x p pos).orElse fun _=>tS f nm N a .NotIn (.Name x p) pos
 | a,[.In],[.Name x p],pos=>(w9 f nm N a x p pos).orElse fun _=>tS f nm N a .In (.Name x p) pos
 | a,[.Eq],[.Tuple es k p],pos=>(B0 f nm N a (.Tuple es k p) pos).orElse fun _=>tS f nm N a .Eq (.Tuple es k p) pos
 | a,[op],[b],pos=>tS f nm N a op b pos
 | a,[op,op'],[b,c],pos=>do
   let o ← xg op
   let o' ← xg op'
   let h ← no (GU [op,op'] [b,c])
   let x ← f nm N a
   let y ← f nm N b
   let z ← f nm N c
   some ⟨.chain o.1 o'.1 x.1 y.1 z.1,fun X k=>⟨⟨rJ (o.2 X) (o'.2 X) (x.2 X k).1 (y.2 X k).1 (z.2 X k).1 h.down,rfl⟩,rY (o.2 X) (o'.2 X) (x.2 X k).1 (y.2 X k).1 (z.2 X k).1 h.down⟩⟩
 | _,_,_,_=>none
def Cn (f:aF T) (nm:List (μ×Β)) (N:List μ) (x:μ) (p:Ϫ) (b:Λ) (pos:Ϫ):Option (GE T nm N (.Subscript (.Name x p) b pos)):=do
 let hd ← no (x == ("__debug__":μ))
 let hg ← yes (bK nm x)
 let j ← bu x T.tb
 let hb ← yes (aJ b)
 let y ← f nm N b
 some ⟨.tab j.1 y.1,fun X k=>by
  obtain ⟨t,ad,h1,h2,h3⟩:=k.tbs j.1 x j.2
  exact mk (yd (bC k.sc hg.down) h2 h1 h3 (y.2 X k).1 (hV hb.down) hd.down fun _=>rfl)⟩
def cIx (f:aF T) (nm:List (μ×Β)) (N:List μ) (a b:Λ) (pos:Ϫ):Option (GE T nm N (.Subscript a b pos)):=do
 let hb ← yes (aJ b)
 let x ← f nm N a
 let y ← f nm N b
 some ⟨.ix x.1 y.1,fun X k=>mk (AO (x.2 X k).1 (y.2 X k).1 (hV hb.down))⟩
theorem qE (e:T.an i=x) (T':cB X T.an) (hy:LE X a y) (hs:bv a=true):LE X (.Attribute a x pos) (.fld y i):=by
 subst e
 exact xW T' zk hy (bg hs)
theorem iR (h:T.at_[i]? = some x):T.an i=x:=by unfold Ns.an;rw [à,h];rfl
def lV {nm:List (μ×Β)} {N:List μ} (f:∀ e,Option (GE T nm N e)) (x:μ) (p:Ϫ) (e:Λ) (er:List Λ) (pos:Ϫ):Option (GE T nm N (.Call (.Name x p) (e :: er) [] pos)):=((wX f x p e er pos).orElse fun _=>zR f x p (e :: er) pos).orElse fun _=>zS f x p (e :: er) pos
def cUn (f:aF T) (nm:List (μ×Β)) (N:List μ) (a:Λ) (pos:Ϫ):(op:UnaryOp)→Option (GE T nm N (.UnaryOp op a pos))
 | .USub=>(f nm N a).map fun x=>⟨.neg x.1,fun X k=>mk (ya (x.2 X k).1)⟩
 | .Not=>(f nm N a).map fun x=>⟨.not x.1,fun X k=>mk (yc (x.2 X k).1)⟩
 | _=>none
def Ci (f:aF T) (nm:List (μ×Β)) (N:List μ) (a:Λ) (lo:Option Λ) (p2 pos:Ϫ):(hi st:Option Λ)→Option (GE T nm N (.Subscript a (.Slice lo hi st p2) pos))
 | hi,none=>do
   let x ← f nm N a
   let l ← zU (f nm N) lo
   let h ← zU (f nm N) hi
   some ⟨.sl x.1 l.1 h.1,fun X k=>mk (AR (x.2 X k).1 (l.2 X k) (h.2 X k))⟩
 | none,some st=>Cg (f nm N) a lo st p2 pos
 | _,_=>none
def cTa (f:aF T) (nm:List (μ×Β)) (N:List μ) (b:Λ) (pos:Ϫ):(a:Λ)→Option (GE T nm N (.Subscript a b pos))
 | .Name x p=>Cn f nm N x p b pos
 | _=>none
def Ck (f:aF T) (nm:List (μ×Β)) (N:List μ) (a:Λ) (pos:Ϫ):(b:Λ)→Option (GE T nm N (.Subscript a b pos))
 | .Slice lo hi st p2=>Ci f nm N a lo p2 pos hi st
 | b=>(cTa f nm N b pos a).orElse fun _=>cIx f nm N a b pos
def zY (f:aF T) (nm:List (μ×Β)) (N:List μ) (x y:μ) (p p2:Ϫ) (a:Λ) (pos2 pos:Ϫ):Option (GE T nm N (.Call (.Name x p) [.Call (.Name y p2) [a] [] pos2] [] pos)):=none
def cRv (f:aF T) (nm:List (μ×Β)) (N:List μ) (x:μ) (p:Ϫ) (pos:Ϫ):(a:Λ)→Option (GE T nm N (.Call (.Name x p) [a] [] pos))
 | .Call (.Name y p2) [a] [] pos2=>(Ce (f nm N) x y p p2 a pos2 pos).orElse fun _=>zY f nm N x y p p2 a pos2 pos
 | _=>none
def zN {nm:List (μ×Β)} {N:List μ} (f:∀ e,Option (GE T nm N e)) (y:μ) (p:Ϫ) (ea:Λ) (x:μ) (q pos:Ϫ):Option (GE T nm N (.Call (.Name y p) [ea,.Name x q] [] pos)):=none
def cIz (f:aF T) (nm:List (μ×Β)) (N:List μ) (x:μ) (p:Ϫ) (a:Λ) (pos:Ϫ):(b:Λ)→Option (GE T nm N (.Call (.Name x p) [a,b] [] pos))
 | .Name y q=>((cIs (f nm N) x p a y q pos).orElse fun _=>B8 (f nm N) x p a y q pos).orElse fun _=>zN (f nm N) x p a y q pos
 | .Tuple [.Name x1 q1,.Name x2 q2,.Name x3 q3] k q=>B7 (f nm N) x p a x1 x2 x3 q1 q2 q3 k q pos
 | _=>none
def BY (f:aF T) (nm:List (μ×Β)) (N:List μ) (x:μ) (p:Ϫ) (pos:Ϫ):(args:List Λ)→Option (GE T nm N (.Call (.Name x p) args [] pos))
 | []=>zR (f nm N) x p [] pos
 | [a]=>(cRv f nm N x p pos a).orElse fun _=>lV (f nm N) x p a [] pos
 | [a,b]=>(cIz f nm N x p a pos b).orElse fun _=>lV (f nm N) x p a [b] pos
 | e :: er=>lV (f nm N) x p e er pos
def cSJ (f:aF T) (nm:List (μ×Β)) (N:List μ) (m:μ) (ap:Ϫ) (args:List Λ) (pos:Ϫ):(o:Λ)→Option (GE T nm N (.Call (.Attribute o m ap) args [] pos))
 | .Constant (.str x) j p=>w7 (f nm N) x j p m ap args pos
 | _=>none
def BX (f:aF T) (nm:List (μ×Β)) (N:List μ) (o:Λ) (m:μ) (ap:Ϫ) (args:List Λ) (pos:Ϫ):Option (GE T nm N (.Call (.Attribute o m ap) args [] pos)):=
 (((cSJ f nm N m ap args pos o).orElse fun _=>Ad (f nm N) m ap o args pos).orElse fun _=>B4 (f nm N) o m ap args pos).orElse fun _=>Cb (f nm N) o m ap args pos
def cMx (f:aF T) (nm:List (μ×Β)) (N:List μ) (x y:μ) (p:Ϫ) (a b:Λ) (kp pos:Ϫ):Option (GE T nm N (.Call (.Name x p) [a] [⟨some y,b,kp⟩] pos)):=do
 let hx ← isP "max" x
 let hy ← isP "default" y
 let g ← iC T nm "max"
 let he ← yes (aJ a)
 let u ← f nm N a
 let w ← f nm N b
 some ⟨.bi .max0 (.cons u.1 (.cons w.1 .nil)),fun X k=>by
  obtain rfl:=hx.down
  obtain rfl:=hy.down
  exact mk (uB k.calm (bN k g.down boot_max) (u.2 X k).1 (w.2 X k).1 (ag he.down))⟩
def B5 (f:aF T) (nm:List (μ×Β)) (N:List μ) (o:Λ) (m:μ) (ap:Ϫ):(args:List Λ)→(pos:Ϫ)→Option (GE T nm N (.Call (.Attribute o m ap) args [] pos))
 | [e],pos=>do
   let hm ← isP "index" m
   let hp ← yes (ap.endLine == pos.line)
   let hn ← yes (aJ e)
   let hs ← yes (bv o)
   let a ← f nm N o
   let b ← f nm N e
   some ⟨.index a.1 b.1,fun X k=>by
    obtain rfl:=hm.down
    exact mk (rL (a.2 X k).1 (b.2 X k).1 ⟨bg hs.down,by rw [ag hn.down];rfl,hp.down,by rw [ag hn.down];rfl⟩)⟩
 | _,_=>none
def cSm (f:aF T) (nm:List (μ×Β)) (N:List μ) (o:Λ) (m:μ) (ap pos:Ϫ):(args:List Λ)→Option (GE T nm N (.Call (.Attribute o m ap) args [] pos)):=fun _=>none
def BZ (f:aF T) (nm:List (μ×Β)) (N:List μ) (m:μ) (ap pos:Ϫ):(o:Λ)→(args:List Λ)→Option (GE T nm N (.Call (.Attribute o m ap) args [] pos)):=fun _ _=>none
def cCl (f:aF T) (nm:List (μ×Β)) (N:List μ) (pos:Ϫ) (args:List Λ):(fn:Λ)→(kw:List Ź)→Option (GE T nm N (.Call fn args kw pos))
 | .Name x p,[]=>BY f nm N x p pos args
 | .Attribute o m ap,[]=>(((cSm f nm N o m ap pos args).orElse fun _=>BZ f nm N m ap pos o args).orElse fun _=>B5 f nm N o m ap args pos).orElse fun _=>BX f nm N o m ap args pos
 | .Name x p,[⟨some y,b,kp⟩]=>(match args with | [a]=>cMx f nm N x y p a b kp pos | _=>none)
 | _,_=>none
def cF2 (f:aF T) (nm:List (μ×Β)) (N:List μ) (x:μ) (j1:Nat) (p1 pos:Ϫ):(b c:Λ)→Option (GE T nm N (.JoinedStr [.Constant (.str x) j1 p1,b,c] pos))
 | .FormattedValue e (.negSucc 0) none p2,.Constant (.str y) j2 p3=>B3 (f nm N) x j1 p1 e p2 y j2 p3 pos
 | _,_=>none
def cJs (f:aF T) (nm:List (μ×Β)) (N:List μ) (pos:Ϫ):(es:List Λ)→Option (GE T nm N (.JoinedStr es pos))
 | [.Constant (.str x) j1 p1,b,c]=>cF2 f nm N x j1 p1 pos b c
 | _=>none
def cDi (f:aF T) (nm:List (μ×Β)) (N:List μ) (pos:Ϫ):(ks:List (Option Λ))→(vs:List Λ)→Option (GE T nm N (.Dict ks vs pos))
 | [],[]=>some ⟨.dic .nil,fun X k=>mkf uH⟩
 | ks,vs=>zK (f nm N) ks vs pos
def B9 (f:aF T) (g:iB T) (nm:List (μ×Β)) (N:List μ) (ee:Λ) (sc:ē) (pos:Ϫ):(gs:List EO)→Option (GE T nm N (.ListComp ee gs sc pos))
 | [⟨tg,iter,ifs,0⟩]=>cLC f g nm N ee tg iter ifs sc pos
 | _=>none
def zP (f:aF T) (nm:List (μ×Β)) (N:List μ) (b:Λ) (pos:Ϫ):(a:Λ)→(op:EA)→Option (GE T nm N (.BinOp a op b pos)):=fun _ _=>none
def BB (f:aF T) (g:iB T) (nm:List (μ×Β)) (N:List μ):(e:Λ)→Option (GE T nm N e)
 | .Name x pos=>zQ T nm N x pos
 | .Constant c j pos=>wY T nm N c j pos
 | .BinOp a op b pos=>(zP f nm N b pos a op).orElse fun _=>do
   let o ← opP op
   let x ← f nm N a
   let y ← f nm N b
   some ⟨.op o.1 x.1 y.1,fun X k=>mk (AQ (o.2 X) (x.2 X k).1 (y.2 X k).1)⟩
 | .UnaryOp op a pos=>cUn f nm N a pos op
 | .BoolOp .And es pos=>do
   let x ← vM (f nm N) pos es
   let h ← no (aM x.1)
   some ⟨x.1,fun X k=>mk (x.2 X k) h.down⟩
 | .BoolOp .Or es pos=>do
   let x ← Cc (f nm N) pos es
   let h ← no (aM x.1)
   some ⟨x.1,fun X k=>mk (x.2 X k) h.down⟩
 | .IfExp c a b pos=>do
   let t ← g nm N c
   let x ← f nm N a
   let y ← f nm N b
   some ⟨.ite t.1 x.1 y.1,fun X k=>mk (xZ (t.2 X k) (x.2 X k).1 (y.2 X k).1)⟩
 | .Compare a ops bs pos=>(vN f nm N a ops bs pos).map fun x=>⟨x.1,fun X k=>mk (x.2 X k).1.1 (x.2 X k).1.2⟩
 | .Tuple es n pos=>(eA (f nm N) es).map fun x=>⟨.tup x.1,fun X k=>mk (rN (x.2 X k))⟩
 | .List es pos=>(eA (f nm N) es).map fun x=>⟨.lst x.1,fun X k=>mkf (yg (x.2 X k))⟩
 | .Subscript a b pos=>Ck f nm N a pos b
 | .Attribute a x pos=>do
   let i ← bu x T.at_
   let hs ← yes (bv a)
   let y ← f nm N a
   some ⟨.fld y.1 i.1,fun X k=>mk (qE (iR i.2) k.cls (y.2 X k).1 hs.down)⟩
 | .Call fn args kw pos=>cCl f nm N pos args fn kw
 | .JoinedStr es pos=>cJs f nm N pos es
 | .Dict keys vals pos=>cDi f nm N pos keys vals
 | .ListComp ee gs sc pos=>B9 f g nm N ee sc pos gs
 | _=>none
def BC (f:aF T) (g:iB T) (nm:List (μ×Β)) (N:List μ):(e:Λ)→Option (GT T nm N e)
 | .UnaryOp .Not a pos=>(g nm N a).map fun x=>⟨.tnot x.1,fun X k=>yz (x.2 X k)⟩
 | .BoolOp .And es pos=>(vL (g nm N) pos es).map fun x=>⟨x.1,fun X k=>wp (x.2 X k)⟩
 | .BoolOp .Or es pos=>(zV (g nm N) pos es).map fun x=>⟨x.1,fun X k=>wp (x.2 X k)⟩
 | .Compare a ops bs pos=>(vN f nm N a ops bs pos).map fun x=>⟨x.1,fun X k=>(x.2 X k).2⟩
 | e=>do
   let h ← yes (match e with | .Compare ..=>false | .BoolOp ..=>false | .UnaryOp ..=>false | .IfExp ..=>false | .NamedExpr ..=>false | _=>true)
   let x ← f nm N e
   some ⟨.tv x.1,fun X k=>AU (x.2 X k).1 fun w=>mN h.down⟩
theorem xS:LE X e .nil:=fun br z I nb=>ZX rfl nb
theorem yw:LT X e .nil:=fun z I nb=>ZX rfl nb
def bY (T:Ns):Nat→aF T×iB T
 | 0=>(fun _ _ _=>none,fun _ _ _=>none)
 | k+1=>(fun nm N e=>some ((BB (bY T k).1 (bY T k).2 nm N e).getD ⟨.nil,fun X _=>mk xS⟩),fun nm N e=>some ((BC (bY T k).1 (bY T k).2 nm N e).getD ⟨.nil,fun X _=>yw⟩))
end
section
variable {α β:Type} {X:Cx} {z z0 z1:Z}
def Cx.on (X:Cx):Cx:={ X with tz:=1 }
theorem Rep.on (I:Rep X z) (h:0<z.s.toks):Rep X.on z:=⟨⟨I.md,I.fm,I.hd,I.bs,I.gh,I.rl,I.rn,I.rg,I.ob,I.fu,I.ff,I.br,I.os,h⟩,⟨I.ok.un,I.ok.kd,I.ok.gl,I.ok.bl,I.ok.ci,I.ok.ch⟩,I.lo,I.ce,I.fl,I.el,I.sl,I.en,I.eo,I.od⟩
theorem Rep.dn (I:Rep X.on z) (h:X.tz≤z.s.toks):Rep X z:=⟨⟨I.md,I.fm,I.hd,I.bs,I.gh,I.rl,I.rn,I.rg,I.ob,I.fu,I.ff,I.br,I.os,h⟩,⟨I.ok.un,I.ok.kd,I.ok.gl,I.ok.bl,I.ok.ci,I.ok.ch⟩,I.lo,I.ce,I.fl,I.el,I.sl,I.en,I.eo,I.od⟩
theorem Go.dn (g:Go X.on z z1):Go X z z1:=⟨g.st,g.ow⟩
theorem Ps.dn {o:am} {f:Flow} {s':ν} (tk:X.tz≤s'.toks) (h:Ps X.on z o f s'):Ps X z o f s':=by
 cases o with
 | nx t=>obtain ⟨e,z',rfl,b,y,I⟩:=h;exact ⟨e,z',rfl,b,y.dn,I.dn tk⟩
 | rt d t=>obtain ⟨u,z',e,rfl,b,y,I,r⟩:=h;exact ⟨u,z',e,rfl,b,y.dn,I.dn tk,r⟩
 | exc c l t=>exact h.elim
 | bad=>exact h.elim
theorem PxS.dn {o:am} {e:ζ} {s':ν} (tk:X.tz≤s'.toks) (h:PxS X.on z o e s'):PxS X z o e s':=by
 obtain ⟨z',c,l,rfl,b,y,I,a,cls,dx,q,r,n,w⟩:=h
 exact ⟨z',c,l,rfl,b,y.dn,I.dn tk,a,cls,dx,q,r,n,w⟩
def JgT (X:Cx) (t:DD β) (m:Sta→Out α) (R:Z→α→β→Prop):Prop:=∀ z,Rep X z→m z.t≠.bad→χ X.M X.A t (fun u s'=>Pe X z (m z.t) R u s'∧0<s'.toks) (Px X z (m z.t)) z.s
theorem JgT.go {γ:Type} {t:DD β} {m:Sta→Out α} {R:Z→α→β→Prop} {f:α→Sta→Out γ} {o:Out γ} {K:β→ν→Prop} (h:JgT X t m R) (x:Ee X z z1) (I:Rep X z1) (e:o=(m z1.t).bind f) (nb:o≠.bad)
 (k:∀ z2 d u,Ee X z1 z2→Ee X z z2→Rep X z2→R z2 d u→o=f d z2.t→0<z2.s.toks→K u z2.s):χ X.M X.A t K (Px X z o) z1.s:=by
 subst e
 refine Κ (h z1 I fun q=>nb (by rw [q];rfl)) (fun u s' ⟨⟨z2,d,e,q,y,I1,r⟩,tk⟩=>?_) fun u s' h=>(h.less x).map
 subst e;exact k z2 d u y (x.trans y) I1 r (by rw [q];rfl) tk
theorem JgT.gos {t:DD β} {m:Sta→Out α} {R:Z→α→β→Prop} {f:α→Sta→am} {o:am} {K:β→ν→Prop} (h:JgT X t m R) (x:Go X z z1) (I:Rep X z1) (e:o=(m z1.t).go f) (nb:o≠.bad)
 (k:∀ z2 d u,Ee X z1 z2→Go X z z2→Rep X z2→R z2 d u→o=f d z2.t→0<z2.s.toks→K u z2.s):χ X.M X.A t K (PxS X z o) z1.s:=by
 subst e
 refine Κ (h z1 I fun q=>nb (by rw [q];rfl)) (fun u s' ⟨⟨z2,d,e,q,y,I1,r⟩,tk⟩=>?_) fun u s' h=>.of x h
 subst e;exact k z2 d u y (x.trans y.go) I1 r (by rw [q];rfl) tk
end
def RaP (X:Cx) (j:Nat) (x:μ):Prop:=∃ (lv:Nat) (k:Cl) (i:CI) (fI:Α) (fd:Ý) (ps:List μ) (Bx nwI iniI:String) (bmB:List ζ),Ģ Bx nwI iniI bmB∧iA X.K i.ad fI bmB nwI∧FnJ X lv fI fd ps i.nm k i.ad∧bU X.K fd ps []∧bq (lv+1) X.A∧gx X.K i.ad∧(∀ f∈i.nm,Ρ X.K (.ref i.ad) f=some none)∧X.Γ.cl[j]? = some k∧X.W.ci[j]? = some i∧X.W.what[j]? = some 2∧i.nm.length=k.at_.length∧Ϩ X.K i.ad (.type "BaseException")=some true∧đ X.K (.ref i.ad)=some (.type "type")∧Ϙ X.K (.ref i.ad)=true∧X.mg x=some (.ref i.ad)∧k.at_.isEmpty=false
def RtP (X:Cx) (j:Nat) (x:μ):Prop:=∃ (k:Cl) (i:CI) (Bx nwI iniI:String) (bmB:List ζ),Ģ Bx nwI iniI bmB∧zw X.K i.ad bmB nwI∧X.Γ.cl[j]? = some k∧k.at_.isEmpty=true∧X.W.ci[j]? = some i∧X.W.what[j]? = some 2∧X.mg x=some (.ref i.ad)
structure CxS (T:Ns) (X:Cx) (nm:List (μ×Β)) (N:List μ):Prop extends CxOk T X nm N where
 rs:∀ (j:Nat) (x:μ),T.ex[j]? = some x→x≠""→RaP X j x
 rt:∀ (j:Nat) (x:μ),T.xt[j]? = some x→x≠""→RtP X j x
abbrev GS (T:Ns) (nm:List (μ×Β)) (N:List μ) (st:Ë):={c:S // ∀ X,CxS T X nm N→LS X st c}
abbrev GSs (T:Ns) (nm:List (μ×Β)) (N:List μ) (st:List Ë):={c:S // ∀ X,CxS T X nm N→LSs X st c}
def jT:Λ→Bool
 | .ListComp ..=>false
 | .SetComp ..=>false
 | .DictComp ..=>false
 | _=>true
theorem f9 (h:jT e=true):D3 e t l env=pure false:=by
 cases e <;> first | rfl | cases h
theorem si :EF [.Tuple es k p] e l env=pure false:=by
 cases e <;> rfl
def wu:Λ→Bool
 | .Tuple ..=>false
 | _=>true
theorem pE (h:wu e=true):EG [.Tuple es k p] e env=pure none:=by
 cases e <;> first | rfl | cases h
section
variable {T:Ns} {nm:List (μ×Β)} {N:List μ}
theorem CxOk.tg (k:CxOk T X nm N):TgH nm N X:=⟨k.calm,k.hN,k.nd,k.sc⟩
theorem CxOk.at {i:Nat} {x:μ} (k:CxOk T X nm N) (h:N[i]? = some x):X.N[i]? = some x:=by rw [k.hN];exact h
theorem CxOk.ndx (k:CxOk T X nm N):X.N.Nodup:=by rw [k.hN];exact k.nd
def vR (f:aF T) (nm:List (μ×Β)) (N:List μ) (x:μ) (p:Ϫ) (pos:Ϫ) (e:Λ):Option (GS T nm N (.Assign [.Name x p] e pos)):=do
 let i ← bu x N
 let hl ← yes (gR true nm x)
 let hn ← yes (jT e)
 let a ← f nm N e
 some ⟨.set i.1 a.1,fun X k=>mw k.ndx (k.at i.2) (ir k.tg hl.down) (a.2 X k.toCxOk).1 (a.2 X k.toCxOk).2 (f9 hn.down)⟩
def Cf (f:aF T) (g:iB T) (nm:List (μ×Β)) (N:List μ) (x:μ) (p:Ϫ) (pos:Ϫ):(e:Λ)→Option (GS T nm N (.Assign [.Name x p] e pos))
 | .ListComp ee [⟨tg,iter,ifs,0⟩] sc pos2=>do
   let i ← bu x N
   let hl ← yes (gR true nm x)
   let q ← zO f g nm N ee tg iter ifs sc
   some (⟨.set i.1 (.lc q.1.1.1 q.1.1.2 q.1.2.1 q.1.2.2.1 q.1.2.2.2),fun X k=>rX k.ndx (k.at i.2) (ir k.tg hl.down) (q.2 X k.toCxOk)⟩)
 | .List es lp=>(match vd x T.rf with
   | some _=>do
     let i ← bu x N
     let hl ← yes (gR true nm x)
     let a ← eA (f nm N) es
     some ⟨.setR i.1 a.1,fun X k=>uW k.ndx (k.at i.2) (ir k.tg hl.down) (a.2 X k.toCxOk) (f9 rfl)⟩
   | none=>vR f nm N x p pos (.List es lp))
 | e=>vR f nm N x p pos e
def BU (f:aF T) (nm:List (μ×Β)) (N:List μ) (x:μ) (p:Ϫ) (m:μ) (ap:Ϫ) (e:Λ) (cp pos:Ϫ):Option (GS T nm N (.Expr (.Call (.Attribute (.Name x p) m ap) [e] [] cp) pos)):=do
 let hm ← isP "append" m
 let i ← bu x N
 let hl ← yes (cG nm x)
 let hd ← no (x == ("__debug__":μ))
 let hc ← no (x == ("__classdict__":μ))
 let he ← yes (aJ e)
 let hp ← yes (ap.endLine == cp.line)
 let a ← f nm N e
 some ⟨.app i.1 a.1,fun X k=>by
  obtain rfl:=hm.down
  exact yj (k.at i.2) (bj k.sc hl.down) hd.down hc.down (a.2 X k.toCxOk).1 ⟨bg rfl,by rw [ag he.down];rfl,hp.down,by rw [ag he.down];rfl⟩⟩
def vO (f:aF T) (nm:List (μ×Β)) (N:List μ) (o:Λ) (m:μ) (ap:Ϫ) (e:Λ) (cp pos:Ϫ):Option (GS T nm N (.Expr (.Call (.Attribute o m ap) [e] [] cp) pos)):=do
 let hm ← isP "append" m
 let he ← yes (aJ e)
 let hp ← yes (ap.endLine == cp.line)
 let hs ← yes (bv o)
 let b ← f nm N o
 let a ← f nm N e
 some ⟨.fapp b.1 0 a.1,fun X k=>by
  obtain rfl:=hm.down
  exact uP (b.2 X k.toCxOk).1 (a.2 X k.toCxOk).1 ⟨bg hs.down,by rw [ag he.down];rfl,hp.down,by rw [ag he.down];rfl⟩⟩
def zL (f:aF T) (nm:List (μ×Β)) (N:List μ) (o:Λ) (m:μ) (ap:Ϫ) (e:Λ) (cp pos:Ϫ):Option (GS T nm N (.Expr (.Call (.Attribute o m ap) [e] [] cp) pos)):=none
def B1 (f:aF T) (nm:List (μ×Β)) (N:List μ) (x:μ) (p:Ϫ) (m:μ) (ap:Ϫ) (e:Λ) (cp pos:Ϫ):Option (GS T nm N (.Expr (.Call (.Attribute (.Name x p) m ap) [e] [] cp) pos)):=do
 let hm ← isP "extend" m
 let i ← bu x N
 let hl ← yes (cG nm x)
 let hd ← no (x == ("__debug__":μ))
 let hc ← no (x == ("__classdict__":μ))
 let he ← yes (aJ e)
 let hp ← yes (ap.endLine == cp.line)
 let a ← f nm N e
 some ⟨.ext i.1 a.1,fun X k=>by
  obtain rfl:=hm.down
  exact yn (k.at i.2) (bj k.sc hl.down) hd.down hc.down (a.2 X k.toCxOk).1 ⟨bg rfl,by rw [ag he.down];rfl,hp.down,by rw [ag he.down];rfl⟩⟩
def qg (f:aF T) (nm:List (μ×Β)) (N:List μ) (e:Λ) (pos:Ϫ):Option (GS T nm N (.Expr e pos)):=do
 let hn ← yes (jT e)
 let a ← f nm N e
 some ⟨.drop a.1,fun X k=>uO (a.2 X k.toCxOk).1 (f9 hn.down)⟩
def Ac (f:aF T) (nm:List (μ×Β)) (N:List μ) (j:Nat) (p:Ϫ) (k:Nat) (q pos:Ϫ):(ts vs:List Λ)→Option (GS T nm N (.Assign [.Tuple ts j p] (.Tuple vs k q) pos)):=fun _ _=>none
def Cd (f:aF T) (nm:List (μ×Β)) (N:List μ) (x:μ) (p:Ϫ) (eb:Λ) (p2:Ϫ) (ee:Λ) (pos:Ϫ):Option (GS T nm N (.Assign [.Subscript (.Name x p) eb p2] ee pos)):=do
 let i ← bu x N
 let hl ← yes (cG nm x)
 let hd ← no (x == ("__debug__":μ))
 let hc ← no (x == ("__classdict__":μ))
 let hn ← yes (aJ eb)
 let b ← f nm N eb
 let e ← f nm N ee
 some ⟨.put (.v i.1) b.1 e.1,fun X k=>uU (k.at i.2) (bj k.sc hl.down) hd.down hc.down hn.down (b.2 X k.toCxOk).1 (e.2 X k.toCxOk).1⟩
def zW (f:aF T) (nm:List (μ×Β)) (N:List μ) (eo eb:Λ) (p2:Ϫ) (ee:Λ) (pos:Ϫ):Option (GS T nm N (.Assign [.Subscript eo eb p2] ee pos)):=do
 let hn ← yes (aJ eb)
 let o ← f nm N eo
 let hv ← no (isV o.1)
 let b ← f nm N eb
 let e ← f nm N ee
 some ⟨.put o.1 b.1 e.1,fun X k=>uT hn.down hv.down (o.2 X k.toCxOk).1 (b.2 X k.toCxOk).1 (e.2 X k.toCxOk).1⟩
def wZ (f:aF T) (nm:List (μ×Β)) (N:List μ) (x:μ) (np:Ϫ):(args:List Λ)→(cp pos:Ϫ)→Option (GS T nm N (.Raise (some (.Call (.Name x np) args [] cp)) none pos))
 | [],_,_=>none
 | e :: er,cp,pos=>do
   let j ← bu x T.ex
   let hz ← no (x == ("":μ))
   let hn ← yes ((e :: er).all aJ)
   let hg ← yes (bK nm x)
   let hd ← no (x == ("__debug__":μ))
   let a ← eA (f nm N) (e :: er)
   some ⟨.rais j.1 a.1,fun X k=>by
    obtain ⟨lv,cl,i,fI,fd,ps,Bx,nwI,iniI,bmB,h1,h2,h3,h4,h5,h6,h7,h8,h9,h10,h11,h12,h13,h14,h15,h16⟩:=k.rs j.1 x j.2 (by simpa using hz.down)
    have hn':=ϓ.mp hn.down
    obtain ⟨ck,h3,hk⟩:=h3
    exact rW h1 h2 h3 hk h4 h5 h6 h7 h8 h9 h10 h11 h16 h12 h13 h14 k.calm (bC k.sc hg.down) h15 (a.2 X k.toCxOk) hd.down (ag (hn' e κ)) (bD fun y hy=>hn' y (ι _ hy))⟩
def tT (nm:List (μ×Β)) (N:List μ) (x:μ) (np:Ϫ):(args:List Λ)→(cp pos:Ϫ)→Option (GS T nm N (.Raise (some (.Call (.Name x np) args [] cp)) none pos)):=fun _ _ _=>none
def vP (nm:List (μ×Β)) (N:List μ) (y:μ) (p1:Ϫ) (x:μ) (p pos p2:Ϫ):Option (GS T nm N (.Assign [.Attribute (.Name y p1) x p] (.Dict [] [] p2) pos)×GS T nm N (.Assign [.Attribute (.Name y p1) x p] (.List [] p2) pos)):=do
 let j ← bu x T.at_
 let i ← bu y N
 let hl ← yes (cG nm y)
 let hd ← no (y == ("__debug__":μ))
 let hc ← no (y == ("__classdict__":μ))
 some (⟨.fld (.v i.1) j.1 (.dic .nil),fun X k=>by
  have h:=uQ (X:=X) (p:=p) (pos:=pos) (p1:=p1) (p2:=p2) (f:=j.1) k.cls (k.at i.2) (bj k.sc hl.down) hd.down hc.down
  rw [iR j.2] at h
  exact h⟩,⟨.fld (.v i.1) j.1 (.lst .nil),fun X k=>by
  have h:=uR (X:=X) (p:=p) (pos:=pos) (p1:=p1) (p2:=p2) (f:=j.1) k.cls (k.at i.2) (bj k.sc hl.down) hd.down hc.down
  rw [iR j.2] at h
  exact h⟩)
def B2 (f:aF T) (nm:List (μ×Β)) (N:List μ) (eo:Λ) (x:μ) (p:Ϫ) (ee:Λ) (pos:Ϫ):Option (GS T nm N (.Assign [.Attribute eo x p] ee pos)):=do
 let j ← bu x T.at_
 let o ← f nm N eo
 let e ← f nm N ee
 let hp ← yes (mG e.1)
 some ⟨.fld o.1 j.1 e.1,fun X k=>by
  have h:=yr (X:=X) (p:=p) (pos:=pos) (f:=j.1) k.cls hp.down (o.2 X k.toCxOk).1 (e.2 X k.toCxOk).1
  rw [iR j.2] at h
  exact h⟩
def zM (f:aF T) (nm:List (μ×Β)) (N:List μ):(eo:Λ)→(x:μ)→(p:Ϫ)→(ee:Λ)→(pos:Ϫ)→Option (GS T nm N (.Assign [.Attribute eo x p] ee pos))
 | .Name y p1,x,p,.Dict [] [] p2,pos=>(vP nm N y p1 x p pos p2).map (·.1)
 | .Name y p1,x,p,.List [] p2,pos=>(vP nm N y p1 x p pos p2).map (·.2)
 | eo,x,p,ee,pos=>B2 f nm N eo x p ee pos
def BM:(op:EA)→Option {o:Op // ∀ X:Cx,∃ g,tC X op o g}
 | .Sub=>some ⟨.sub,fun X=>⟨_,tJ⟩⟩
 | .Add=>some ⟨.add,fun X=>⟨_,tI⟩⟩
 | _=>none
def BV (nm:List (μ×Β)) (N:List μ) (op:EA) (pos:Ϫ):(tg e:Λ)→Option (GS T nm N (.AugAssign tg op e pos))
 | .Attribute (.Name y p1) x p,.Constant (.int c) j p2=>do
   let o ← BM op
   let a ← bu x T.at_
   let i ← bu y N
   let hl ← yes (cG nm y)
   let hd ← no (y == ("__debug__":μ))
   let hc ← no (y == ("__classdict__":μ))
   some ⟨.fld (.v i.1) a.1 (.op o.1 (.fld (.v i.1) a.1) (.c (.int c))),fun X k=>by
    obtain ⟨g,ar⟩:=o.2 X
    have h:=yk (X:=X) (p:=p) (pos:=pos) (p1:=p1) (p2:=p2) (j:=j) (c:=c) (f:=a.1) k.cls ar (k.at i.2) (bj k.sc hl.down) hd.down hc.down
    rw [iR a.2] at h
    exact h⟩
 | _,_=>none
structure lS (T:Ns) (X:Cx) (nm:List (μ×Β)) (N:List μ):Prop where
 hN:X.N=N
 nd:N.Nodup
 sc:X.env.scope.names=nm
 cls:cB X T.an
theorem CxOk.su (k:CxOk T X nm N) (e:ζ):lS T (aN X e) nm N:=⟨k.hN,k.nd,k.sc,fun c cl h=>let ⟨i,h⟩:=k.cls c cl h;⟨i,h.ci,h.cls,h.na,h.wh,h.nm,h.nd,h.xc⟩⟩
def vS (nm:List (μ×Β)) (N:List μ):(e:Λ)→Option {c:E // aM c=false∧∀ X,lS T X nm N→LE X e c}
 | .Name x pos=>do
   let hd ← no (x == ("__debug__":μ))
   let hc ← no (x == ("__classdict__":μ))
   let hl ← yes (cG nm x)
   let i ← bu x N
   some ⟨.v i.1,rfl,fun X k=>ye (by rw [k.hN];exact i.2) (bj k.sc hl.down) hd.down hc.down⟩
 | .Constant c j pos=>match c with
   | .none=>some ⟨.c .non,rfl,fun X k=>vU⟩
   | .bool b=>some ⟨.c (.bl b),rfl,fun X k=>Ae⟩
   | .int i=>some ⟨.c (.int i),rfl,fun X k=>vT⟩
   | .str x=>some ⟨.c (.str x),rfl,fun X k=>vV⟩
   | _=>none
 | .Attribute (.Name y p) x pos=>do
   let hd ← no (y == ("__debug__":μ))
   let hc ← no (y == ("__classdict__":μ))
   let hl ← yes (cG nm y)
   let i ← bu y N
   let j ← bu x T.at_
   let hs ← yes (bv (.Name y p))
   some ⟨.fld (.v i.1) j.1,rfl,fun X k=>qE (iR j.2) k.cls (ye (by rw [k.hN];exact i.2) (bj k.sc hl.down) hd.down hc.down) hs.down⟩
 | _=>none
def zZ (nm:List (μ×Β)) (N:List μ):(es:List Λ)→Option {c:E // ∀ X,lS T X nm N→LA X es c}
 | []=>some ⟨.nil,fun X k=>rx⟩
 | e :: r=>do
   let h ← yes (aJ e)
   let a ← vS (T:=T) nm N e
   let b ← zZ nm N r
   some ⟨.cons a.1 b.1,fun X k=>nk (a.2.2 X k) (b.2 X k) (ag h.down)⟩
def Ab (nm:List (μ×Β)) (N:List μ):(e:Λ)→Option {c:E // aM c=false∧∀ X,lS T X nm N→LE X e c}
 | .Tuple es n pos=>(zZ (T:=T) nm N es).map fun a=>⟨.tup a.1,rfl,fun X k=>rN (a.2 X k)⟩
 | e=>vS nm N e
def cSu (nm:List (μ×Β)) (N:List μ):(st:Ë)→Option {c:S // ∀ X,lS T X nm N→LS X st c}
 | .Return (some e) pos=>(Ab (T:=T) nm N e).map fun a=>⟨.ret a.1,fun X k=>mq (a.2.2 X k)⟩
 | .Assign [.Name x p] e pos=>do
   let i ← bu x N
   let hl ← yes (gR true nm x)
   let hn ← yes (jT e)
   let a ← Ab (T:=T) nm N e
   some ⟨.set i.1 a.1,fun X k=>mw (by rw [k.hN];exact k.nd) (by rw [k.hN];exact i.2) (by
    have l1:nm.lookup x=some .local∨nm.lookup x=some .cell:=by have:=hl.down;unfold gR at this;simpa using this
    show X.env.scope.names.lookup x=_∨X.env.scope.names.lookup x=_
    rw [k.sc];exact l1) (a.2.2 X k) (fun q=>by rw [a.2.1] at q;cases q) (f9 hn.down)⟩
 | _=>none
theorem mo {st:Ë}:LS X st (.hand 0 none .skip .skip):=fun z I nb=>ZX rfl nb
def Aa (nm:List (μ×Β)) (N:List μ) (st:Ë):{c:S // ∀ X,lS T X nm N→LS X st c}:=(cSu (T:=T) nm N st).getD ⟨.hand 0 none .skip .skip,fun X k=>mo⟩
def w8 (nm:List (μ×Β)) (N:List μ):(st:List Ë)→Option {c:S // ∀ X,lS T X nm N→LSs X st c}
 | []=>some ⟨.skip,fun X k=>rU⟩
 | [a]=>let x:=Aa (T:=T) nm N a;some ⟨x.1,fun X k=>rV (x.2 X k)⟩
 | a :: b :: r=>do
   let x:=Aa (T:=T) nm N a
   let y ← w8 nm N (b :: r)
   some ⟨.seq x.1 y.1,fun X k=>nu (x.2 X k) (y.2 X k)⟩
def cHs (nm:List (μ×Β)) (N:List μ):(hs:List Ĕ)→Option {r:S // ∀ X,CxS T X nm N→HL X hs r}
 | []=>some ⟨.skip,fun X k=>xx k.fr⟩
 | .ExceptHandler (some (.Name Bn np)) (some x) (b₀ :: suite) hpos :: hs=>do
   let j ← bu Bn T.hx
   let hz ← no (Bn == ("":μ))
   let hg ← yes (bK nm Bn)
   let hd ← no (Bn == ("__debug__":μ))
   let i ← bu x N
   let hl ← yes (nm.lookup x == some .local)
   let b ← w8 (T:=T) nm N (b₀ :: suite)
   let r ← cHs nm N hs
   some ⟨.hand j.1 (some i.1) b.1 r.1,fun X k=>AB (fun e=>b.2 _ (k.toCxOk.su e)) (k.hxs j.1 Bn j.2 (by simpa using hz.down)) (bC k.sc hg.down) hd.down k.ndx (k.at i.2) (by rw [k.sc];simpa using hl.down) (r.2 X k)⟩
 | .ExceptHandler (some (.Name Bn np)) none (b₀ :: suite) hpos :: hs=>do
   let j ← bu Bn T.hx
   let hz ← no (Bn == ("":μ))
   let hg ← yes (bK nm Bn)
   let hd ← no (Bn == ("__debug__":μ))
   let b ← w8 (T:=T) nm N (b₀ :: suite)
   let r ← cHs nm N hs
   some ⟨.hand j.1 none b.1 r.1,fun X k=>AC (fun e=>b.2 _ (k.toCxOk.su e)) (k.hxs j.1 Bn j.2 (by simpa using hz.down)) (bC k.sc hg.down) hd.down (r.2 X k)⟩
 | _=>none
def Cp (a:GSs T nm N body):(hs:List Ĕ)→(pos:Ϫ)→Option (GS T nm N (.Try body hs [] [] pos))
 | h0 :: hs,pos=>(cHs nm N (h0 :: hs)).map fun r=>⟨.try_ a.1 r.1,fun X k=>yu k.fr (a.2 X k) (r.2 X k)⟩
 | _,_=>none
def zX (f:aF T) (nm:List (μ×Β)) (N:List μ) (er:List Λ) (p2 pos:Ϫ):Option (GS T nm N (.Return (some (.List er p2)) pos)):=none
def cRp (f:aF T) (nm:List (μ×Β)) (N:List μ) (h:∀ st,Option (GSs T nm N st)):(a b:Ë)→(r:List Ë)→Option (GSs T nm N (a :: b :: r)):=fun _ _ _=>none
mutual
noncomputable def Cj (f:aF T) (g:iB T) (nm:List (μ×Β)) (N:List μ):(n:Nat)→(st:Ë)→Option (GS T nm N st)
 | 0,_=>none
 | _+1,.Pass pos=>some ⟨.skip,fun X k=>uS⟩
 | _+1,.Return none pos=>some ⟨.ret (.c .non),fun X k=>uV⟩
 | _+1,.Return (some (.List er p2)) pos=>(zX f nm N er p2 pos).orElse fun _=>(f nm N (.List er p2)).map fun a=>⟨.ret a.1,fun X k=>mq (a.2 X k.toCxOk).1⟩
 | _+1,.Return (some e) pos=>(f nm N e).map fun a=>⟨.ret a.1,fun X k=>mq (a.2 X k.toCxOk).1⟩
 | _+1,.Expr (.Constant (.str x) j p) pos=>some ⟨.skip,fun X k=>yl⟩
 | _+1,.Expr (.Call (.Attribute (.Attribute o2 f2 ap2) m ap) [e] [] cp) pos=>(vO f nm N (.Attribute o2 f2 ap2) m ap e cp pos).orElse fun _=>qg f nm N _ pos
 | _+1,.Expr (.Call (.Attribute (.Name x p) m ap) [e] [] cp) pos=>(((if T.rl.contains x then (vO f nm N (.Name x p) m ap e cp pos).orElse fun _=>zL f nm N (.Name x p) m ap e cp pos else none).orElse fun _=>BU f nm N x p m ap e cp pos).orElse fun _=>B1 f nm N x p m ap e cp pos).orElse fun _=>qg f nm N _ pos
 | _+1,.Expr e pos=>qg f nm N e pos
 | _+1,.Assign [.Name x p] e pos=>Cf f g nm N x p pos e
 | _+1,.Assign [.Subscript (.Name x p) eb p2] ee pos=>Cd f nm N x p eb p2 ee pos
 | _+1,.Assign [.Subscript eo eb p2] ee pos=>zW f nm N eo eb p2 ee pos
 | _+1,.Raise (some (.Call (.Name x np) args [] cp)) none pos=>(wZ f nm N x np args cp pos).orElse fun _=>tT nm N x np args cp pos
 | _+1,.Assign [.Attribute eo x p] ee pos=>zM f nm N eo x p ee pos
 | _+1,.AugAssign tg op e pos=>BV nm N op pos tg e
 | _+1,.Assign [.Tuple ts j p] (.Tuple vs k q) pos=>Ac f nm N j p k q pos ts vs
 | _+1,.Assign [.Tuple es j p] e pos=>do
   let t ← zg true nm N es
   let h ← yes (wu e)
   let a ← f nm N e
   some ⟨.setT t.1 a.1,fun X k=>uX (a.2 X k.toCxOk).1 (rP k.calm k.ndx (t.2.as_ X k.tg) (t.2.len _) (t.2.fst _)) si (pE h.down) rfl⟩
 | n+1,.If e sa sb pos=>do
   let c ← g nm N e
   let a ← lW f g nm N n sa
   let b ← lW f g nm N n sb
   some ⟨.ifs c.1 a.1 b.1,fun X k=>AS (c.2 X k.toCxOk) (a.2 X k) (b.2 X k)⟩
 | n+1,.For tg iter body [] pos=>do
   let it ← vQ (f nm N) tg iter
   let q ← tgP true nm N tg
   let hn ← yes (aJ iter)
   let b ← lW f g nm N n body
   some ⟨.for_ q.1.1 q.1.2 it.1 b.1,fun X k=>yt k.calm (fun z o=>vp k.fr) (it.2 X k.toCxOk) (q.2.1 X k.tg) (b.2 X k) (i8 hn.down)⟩
 | n+1,.Try body hs [] [] pos=>do
   let a ← lW f g nm N n body
   Cp a hs pos
 | _,_=>none
noncomputable def cSt (f:aF T) (g:iB T) (nm:List (μ×Β)) (N:List μ):(n:Nat)→(st:Ë)→Option (GS T nm N st)
 | 0,st=>some ⟨.hand 0 none .skip .skip,fun X k=>mo⟩
 | n+1,st=>some ((Cj f g nm N n st).getD ⟨.hand 0 none .skip .skip,fun X k=>mo⟩)
noncomputable def lW (f:aF T) (g:iB T) (nm:List (μ×Β)) (N:List μ):(n:Nat)→(st:List Ë)→Option (GSs T nm N st)
 | 0,_=>none
 | _+1,[]=>some ⟨.skip,fun X k=>rU⟩
 | n+1,[a]=>(cSt f g nm N n a).map fun x=>⟨x.1,fun X k=>rV (x.2 X k)⟩
 | n+1,a :: b :: r=>(cRp f nm N (lW f g nm N n) a b r).orElse fun _=>do
   let x ← cSt f g nm N n a
   let y ← lW f g nm N n (b :: r)
   some ⟨.seq x.1 y.1,fun X k=>nu (x.2 X k) (y.2 X k)⟩
end
end
def bE (st:Ë):List μ:=(aK st).args.map (·.arg)
def kT (st:Ë):List μ:=bE st ++ ((au st).names.filter fun y=>(y.2 == .local || y.2 == .cell) && !(bE st).contains y.1).map (·.1)
def dfB (st:Ë):Option Bool:=match (aK st).defaults with
 | [.Constant (.bool b) _ _]=>some b
 | _=>none
def DfV (K:υ) (dV:ζ):Option Bool→Prop
 | none=>dV = .none
 | some b=>∃ T o n,dV = .ref T∧K.lookup T=some o∧o.data = .seq #[.bool b] n
structure lP (K:υ) (x qual:μ) (st:Ë) (f:Α) (fd:Ý):Prop where
 ex:∃ (oc:ζ) (od:Option Α) (dV kV doc pm:ζ) (an:Option Α) (cdv ct:ζ) (osl:Array (Option ζ)),
  fd=ϰ x qual (aK st) (bx st) (au st) dV kV doc pm an cdv ct∧K.lookup f=some ⟨oc,od,.func fd,osl⟩∧Ì K cdv qual=true∧DfV K dV (dfB st)
 kp:Ϙ K (.ref f)=true
def dfT (T:Ns) (st:Ë):Option Bool:=if T.mu.contains "#d" then dfB st else none
def dfD:Option Bool→List D
 | some b=>[.bl b]
 | none=>[]
def dfU:Option Bool→List ζ
 | some b=>[.bool b]
 | none=>[]
theorem Ai:∀ (o:Option Bool) (ρ:Rs) (G:Hp),RDs W ρ G (dfD o) (dfU o)
 | none,_,_=>rfl
 | some b,_,_=>.cons rfl rfl
def gE (T:Ns) (st:Ë):Option Fn:=(lW (bY T 200).1 (bY T 200).2 (au st).names (kT st) 200 (bx st)).map fun c=>⟨(bE st).length,(kT st).length,c.1,dfD (dfT T st)⟩
structure tF (T:Ns) (X:Cx) (ad:List Α) (lv:Nat):Prop where
 calm:X.calm=true
 fns:∀ (j:Nat) (f:Α),ad[j]? = some f→∃ x qual st fd fn mu al fc oc,lP X.K x qual st f fd∧bU X.K fd (bE st) (dfU (dfT { T with mu:=mu,alt:=al,fc:=fc,oc:=oc } st))∧dH (kT st) (bE st) (au st)∧X.Γ.fn[j]? = some fn∧gE { T with mu:=mu,alt:=al,fc:=fc,oc:=oc } st=some fn
 glb:∀ (j:Nat) (x:μ),T.fn[j]? = some x→∃ f,ad[j]? = some f∧X.mg x=some (.ref f)
 gls:∀ (j:Nat) (x:μ),T.gl[j]? = some x→∃ d u,X.Γ.gl[j]? = some d∧X.mg x=some u∧ba X.K d u=true
 tbs:∀ (j:Nat) (x:μ),T.tb[j]? = some x→∃ t a,X.Γ.tb[j]? = some t∧X.mg x=some (.ref a)∧TbL X a t
 blt:∀ x∈T.bl,X.mg x=none
 cls:cB X T.an
 mts:∀ q∈T.me,∃ f,ad[q.2.2]? = some f∧oU X T.an q.1 q.2.1 f
 nws:∀ (j:Nat) (x:μ),T.nw[j]? = some x→x≠""→∃ f i cl,ad[cl.init]? = some f∧Mk X.K i.ad f∧X.Γ.cl[j]? = some cl∧cl.what=0∧X.W.ci[j]? = some i∧X.W.what[j]? = some 0∧X.mg x=some (.ref i.ad)
 nds:∀ (j:Nat) (x:μ),T.nd[j]? = some x→x≠""→∃ f fd ps i cl,FnI X lv f fd ps i.nm none∧bU X.K fd ps []∧Mk X.K i.ad f∧Cls X.K i.ad∧(∀ f∈i.nm,cL X.K i.ad f)∧X.Γ.cl[j]? = some cl∧X.W.ci[j]? = some i∧X.W.what[j]? = some 1∧i.nm.length=cl.at_.length∧X.mg x=some (.ref i.ad)
 rs:∀ (j:Nat) (x:μ),T.ex[j]? = some x→x≠""→∃ (k:Cl) (i:CI) (fI:Α) (fd:Ý) (ps:List μ) (Bx nwI iniI:String) (bmB:List ζ),Ģ Bx nwI iniI bmB∧iA X.K i.ad fI bmB nwI∧FnJ X lv fI fd ps i.nm k i.ad∧bU X.K fd ps []∧gx X.K i.ad∧(∀ f∈i.nm,Ρ X.K (.ref i.ad) f=some none)∧X.Γ.cl[j]? = some k∧X.W.ci[j]? = some i∧X.W.what[j]? = some 2∧i.nm.length=k.at_.length∧Ϩ X.K i.ad (.type "BaseException")=some true∧đ X.K (.ref i.ad)=some (.type "type")∧Ϙ X.K (.ref i.ad)=true∧X.mg x=some (.ref i.ad)∧k.at_.isEmpty=false
 hxs:∀ (j:Nat) (x:μ),T.hx[j]? = some x→x≠""→pY X j x
 rt:∀ (j:Nat) (x:μ),T.xt[j]? = some x→x≠""→RtP X j x
 vxs:T.vx=true→zA X
section
variable {X:Cx} {T:Ns} {ad:List Α} {lv:Nat}
theorem d8.to {A:Ϗ} {fr:List CL} {N:List μ} {e:CL} {c1 d1:Nat→List D→List O→Res} (h:d8 X an c k i):d8 (X.to A fr N e c1 d1) an c k i:=⟨h.ci,h.cls,h.na,h.wh,h.nm,h.nd,h.xc⟩
theorem pK (Pg:tF T X ad lv) (n:Nat) (ih:∀ (j:Nat) (f:Α),ad[j]? = some f→bX X (aa X.Γ n) (lv+1+n) j f) (ih1:∀ (j:Nat) (f:Α),ad[j]? = some f→∃ m,m+1≤lv+1+n∧bX X (aH X.Γ n) m j f) {j:Nat} {f:Α} (h:ad[j]? = some f):bX X (aa X.Γ (n+1)) (lv+1+(n+1)) j f:=by
 obtain ⟨x,qual,st,fd,fn,mu,al,fc,oc,Fu,b,Sc,hj,hc⟩:=Pg.fns j f h
 obtain ⟨oc',od,dV,kV,doc,pm,an,cd,ct,osl,rfl,lk,hcd,_⟩:=Fu.ex
 unfold gE at hc
 obtain ⟨c,_,rfl⟩:=φ.mp hc
 refine ⟨_,_,_,Ar (cal:=aa X.Γ n) (cal1:=aH X.Γ n) (k:=lv+1+n) lk hcd Sc hj (Ai _) fun A fr L hr=>c.2 _ ⟨⟨rfl,Sc.nd,rfl,Sc.kind,Pg.calm,fun i y hy=>?_,Pg.gls,Pg.tbs,Pg.blt,fun c cl h=>let ⟨i,h⟩:=Pg.cls c cl h;⟨i,h.to⟩,fun q hq=>?_,fun i y hy hz=>?_,fun i y hy hz=>?_,Pg.hxs,⟨⟨_,fr,rfl,rfl⟩,⟨_,rfl⟩⟩,Pg.vxs⟩,fun i y hy hz=>?_,Pg.rt⟩,b,Fu.kp⟩
 ·obtain ⟨g,h1,h2⟩:=Pg.glb i y hy
  exact ⟨_,g,(ih i g h1).to,hr,h2⟩
 ·obtain ⟨g,h1,⟨i,k,a1,a2,a3⟩⟩:=Pg.mts q hq
  exact ⟨_,g,(ih _ g h1).to,hr,⟨i,k,a1,a2.to,a3⟩⟩
 ·obtain ⟨g,ci,cl,h1,h2⟩:=Pg.nws i y hy hz
  obtain ⟨m,hm,h3⟩:=ih1 _ g h1
  exact ⟨m,g,ci,cl,h3.to,hr.mono hm,h2⟩
 ·obtain ⟨g,fd,ps,ci,cl,h1,h2,h3⟩:=Pg.nds i y hy hz
  exact ⟨lv,g,fd,ps,ci,cl,h1.to,h2,hr.mono (by omega),h3⟩
 ·obtain ⟨k,ci,fI,fd,ps,Bx,nwI,iniI,bmB,h1,h2,h3,h4,h5⟩:=Pg.rs i y hy hz
  exact ⟨lv,k,ci,fI,fd,ps,Bx,nwI,iniI,bmB,h1,h2,h3.to,h4,hr.mono (by omega),h5⟩
theorem mV (Pg:tF T X ad lv) {j:Nat} {f:Α} (h:ad[j]? = some f) {cal:Nat→List D→List O→Res} (no:∀ ds st,cal j ds st = .bad) (m:Nat):bX X cal m j f:=by
 obtain ⟨x,qual,st,fd,fn,mu,al,fc,oc,Fu,b,_⟩:=Pg.fns j f h
 exact ⟨fd,_,_,⟨fun ds st nb=>ZX (no ds st) nb,fun A fr z args us ds _ _ _ _ nb=>ZX (no ds _) nb⟩,b,Fu.kp⟩
theorem j0 (Pg:tF T X ad lv):∀ (n j:Nat) (f:Α),ad[j]? = some f→bX X (aa X.Γ n) (lv+1+n) j f
 | 0,j,f,h=>mV Pg h (fun _ _=>rfl) _
 | n+1,j,f,h=>pK Pg n (j0 Pg n) (fun i g hg=>by
   match n with
   | 0=>exact ⟨0,by omega,mV Pg hg (fun _ _=>rfl) _⟩
   | n'+1=>exact ⟨lv+1+n',by omega,j0 Pg n' i g hg⟩) h
end
theorem lh {vs:List ζ} {ns:List Int} (h:D6 vs ns):RDs W ρ G (ns.map D.int) vs:=by
 induction h with
 | nil=>exact rfl
 | cons n t h ih=>exact .cons ⟨t,rfl⟩ ih
theorem rz {X:Cx} {Γ:Gm} {n j k:Nat} {fa a:Α} {s₁:ν} {vs:List ζ} {ns:List Int} (md:Mod X.K X.mg X.base) (hb:X.base=s₁.heap) (os:X.os=s₁.os) (hc:X.calm=true) (h0:X.tz=0) (hg:s₁.gens = #[])
 (ha:s₁.heap.get? a=some { cls:=.type "list",data:=.seq vs.toArray }) (hi:D6 vs ns) (hl:ns.length≤ϟ) (hr:bq k ś)
 (F:bX X (aa Γ n) k j fa) (hlaw:∃ st',aa Γ n j [.lst (ns.map .int)] [] = .ok (.bl true) st') :
 ĭ X.M ś (.call (.ref fa) ⟨[.ref a],[]⟩) (fun r s'=>r = .ok (.ret (.bool true))∧OldK s₁.heap s'.heap∧s'.os=s₁.os∧Ş s'.gens) s₁:=by
 obtain ⟨st',e⟩:=hlaw
 obtain ⟨fd,ps,dvs,F,hbd,_⟩:=F
 have hp:=F.len [.lst (ns.map .int)] [] (by rw [e];exact fun z=>nomatch z)
 have nm:∀ {b},¬ Mu ([]:Rs) b:=fun ⟨p,m,_⟩=>nomatch m
 have I:HR { X with A:=ś,fr:=[] } ⟨[],s₁.heap.get?,⟨[],[],[]⟩,[],s₁⟩:=⟨md,rfl,fun _=>hr.hd,(fun b o e=>by rw [hb] at e;exact e),.refl _,rfl,(fun i j p q b h=>by simp at h),fun b m=>(nm m).elim,(fun n o p h=>by simp at h),trivial,(fun b m=>nomatch m),(by show Ş s₁.gens;rw [hg];exact fun g h=>by simp at h),os.symm,(by show X.tz≤_;rw [h0];exact ϲ _)⟩
 refine â (F.run ś [] ⟨[],s₁.heap.get?,⟨[],[],[]⟩,[],s₁⟩ ⟨[.ref a],[]⟩ [.ref a] [.lst (ns.map .int)] hr I (hbd s₁ [.ref a] (hb ▸ md.kin) (by rw [ω];exact hp)) (.cons ⟨a,_,vs,rfl,ha,⟨⟨_,rfl⟩,by rw [hi.length];exact hl⟩,lh hi⟩ rfl) (by rw [e];exact fun z=>nomatch z)) fun r s' hq=>?_
 rw [e] at hq
 cases r with
 | error u=>obtain ⟨_,_,_,_,z,_⟩:=hq;cases z
 | ok fl=>cases fl with
   | ret u=>
     obtain ⟨z',d,q1,q2,S,H,rd⟩:=hq
     subst q1
     cases q2
     cases (show u=ϩ true from rd)
     have keep:∀ b o,s₁.heap.get? b=some o→z'.s.heap.get? b=some o:=fun b o e=>S.sm b o e nm (fun z=>z) (fun m=>nomatch m)
     exact ⟨rfl,OldK.of_keep keep,H.os.trans os,H.br⟩
   | _=>exact hq.elim
theorem vD {l:EX} {n k lv:Nat} {q:ϴ} {loose:List μ} {XP:(μ→Option ζ)→ϳ→Prop} {YP:Û→ϳ→Prop} {d:DefRec} {K:Params→υ} {j:Nat} {Γ:Gm}
 (hn:l.most=some n) (hn2:n≤ϟ) (hdf:d.params.defaults = []) (hr:bq lv ś) (hY:∀ (w:Û) (h:ϳ),YP w h→(K w.params).In h)
 (F:∀ (w:Û) (mg:μ→Option ζ) (fa:Α) (h:ϳ) (os:Fj),(K w.params).In h→h.Ns ύ mg→mg d.name=some (.ref fa)→Mod (K w.params) mg h →
  ∃ X:Cx,X.W.P=l.prog∧X.W.w=w∧X.K=K w.params∧X.mg=mg∧X.base=h∧X.os=os∧X.calm=true∧X.tz=0∧bX X (aa Γ k) lv j fa)
 (hlaw:∀ ns:List Int,ns.length≤n→∃ st',aa Γ k j [.lst (ns.map .int)] [] = .ok (.bl true) st'):Fx q loose XP YP l.row.toRowW d [] (fun f vs=>EI f vs):=by
 refine Att.attach_call hn hdf fun w s₀ s₁ mg mb fa o pm cd doc a vs ns G Y ho hd hcd hmg hobj hints hlen hg=>?_
 have KX:=hY w _ Y
 have md:Mod (K w.params) mg s₁.heap:=⟨KX,G.T.g,⟨mb,G.T.b,G.T.builtins⟩,G.T.nolimit⟩
 obtain ⟨X,e1,e2,e3,e4,e5,e6,e7,e8,hF⟩:=F w mg fa s₁.heap s₁.os KX G.T.g hmg md
 have:=rz (X:=X) (by rw [e3,e4,e5];exact md) e5 e6 e7 e8 hg hobj hints (ϫ hlen hn2) hr hF (hlaw ns hlen)
 rw [show X.M=model l.prog w by show model X.W.P X.W.w=_;rw [e1,e2]] at this
 exact this
def FnF (T:Ns) (K:υ) (Γ:Gm) (j:Nat) (f:Α):Prop:=∃ x qual st fd fn mu al fc oc,lP K x qual st f fd∧bU K fd (bE st) (dfU (dfT { T with mu:=mu,alt:=al,fc:=fc,oc:=oc } st))∧dH (kT st) (bE st) (au st)∧Γ.fn[j]? = some fn∧gE { T with mu:=mu,alt:=al,fc:=fc,oc:=oc } st=some fn
theorem gU:∀ {ps:List μ} {us:List ζ},ps.Nodup→us.length=ps.length→ps.filterMap (fun n=>((ps.zip us).lookup n).map (n,·))=ps.zip us
 | [],[],_,_=>rfl
 | p :: ps,u :: us,nd,hl=>by
   have ih:=gU (ϛ.mp nd).2 (by simpa using hl)
   rw [Ϧ]
   simp only [Þ,Ğ,ZT,Option.map_some]
   congr 1
   have:∀ l:List μ,(∀ n∈l,n∈ps)→l.filterMap (fun n=>((match n == p with | true=>some u | false=>(ps.zip us).lookup n).map fun x=>(n,x)))=l.filterMap fun n=>((ps.zip us).lookup n).map fun x=>(n,x):=fun l=>by
    induction l with
    | nil=>intro _;rfl
    | cons n l ih=>
      intro h
      have q:(n == p)=false:=ZU.mpr fun e=>(ϛ.mp nd).1 (e ▸ h n κ)
      rw [Ϧ,Ϧ,ih fun m hm=>h m (ι _ hm),q]
   exact (this ps fun _ h=>h).trans ih
 | [],_ :: _,_,hl=>by simp at hl
 | _ :: _,[],_,hl=>by simp at hl
theorem jg:∀ {ps:List μ} {us:List ζ},us.length=ps.length→(ps.filter fun n=>((ps.zip us).lookup n).isNone) = []:=by
 intro ps us hl
 rw [Ė]
 intro n hn
 have:((ps.zip us).lookup n).isSome=true:=by
  induction ps generalizing us with
  | nil=>cases hn
  | cons p ps ih=>
    cases us with
    | nil=>simp at hl
    | cons u us=>
      rw [Þ,Ğ]
      cases e:n == p with
      | true=>rfl
      | false=>
        rcases π.mp hn with q | q
        ·subst q;simp at e
        ·exact ih (by simpa using hl) q
 cases e:(ps.zip us).lookup n with
 | none=>rw [e] at this;cases this
 | some v=>simp
theorem gA {p:E6} {x q:μ} {body:List Ë} {sc:ē} {kV doc pm cd ct:ζ} {an:Option Α} {us:List ζ} (h1:p.posonlyargs = []) (h2:p.kwonlyargs = []) (h3:p.vararg=none) (h4:p.kwarg=none) (nd:(p.args.map (·.arg)).Nodup) (hl:us.length=(p.args.map (·.arg)).length) :
 bindArgs (ϰ x q p body sc .none kV doc pm an cd ct) ⟨us,[]⟩=pure ((p.args.map (·.arg)).zip us):=by
 have e1:=jg hl
 have e2:=gU nd hl
 obtain ⟨a1,a2,a3,a4,a5,a6,a7⟩:=p
 cases h1;cases h2;cases h3;cases h4
 refine Eq.trans (ZY (c:=((decide (us.length>(a2.map (·.arg)).length)) && true)=true) ?_) ?_
 ·rw [hl];simp
 refine Eq.trans (ZY ?_) ?_
 ·show ¬ (!((a2.map (·.arg)).take ((a2.map (·.arg)).length - (List.drop (0 - (a2.map (·.arg)).length) ([]:List ζ)).length) |>.filter fun n=>(((a2.map (·.arg)).zip us).lookup n).isNone).isEmpty)=true
  rw [Gk,Υ,GX,Dl,e1];exact fun h=>nomatch h
 have e3:∀ n:Nat,List.drop n ([]:List ζ) = []:=fun _=>Gk
 show (forIn ((List.drop ((List.map DV a2).length - (List.drop (0 - (List.map DV a2).length) ([]:List ζ)).length) (List.map DV a2)).zip (List.drop (0 - (List.map DV a2).length) ([]:List ζ))) _ _ >>= _)=_
 rw [e3,Ĵ]
 show (pure ((List.map DV a2 ++ []).filterMap fun n=>(((List.map DV a2).zip us).lookup n).map (n,·)):DD _)=_
 rw [ϕ]
 exact ZS pure e2
theorem dG {α β:Type}:∀ {qs:List α} {us:List β} {x:α} {v:β},us.length=qs.length→(qs ++ [x]).zip (us ++ [v])=qs.zip us ++ [(x,v)]
 | [],[],_,_,_=>rfl
 | _ :: _,_ :: _,_,_,h=>by rw [Dq,Dq,Þ,dG (by simpa using h)];rfl
 | [],_ :: _,_,_,h=>by simp at h
 | _ :: _,[],_,_,h=>by simp at h
theorem lN {α β:Type}:∀ {qs:List α} {us:List β} {x:α},us.length=qs.length→(qs ++ [x]).zip us=qs.zip us
 | [],[],_,_=>rfl
 | _ :: _,_ :: _,_,h=>by rw [Dq,Þ,lN (by simpa using h)];rfl
 | [],_ :: _,_,h=>by simp at h
 | _ :: _,[],_,h=>by simp at h
theorem rS {qs:List μ} {us:List ζ} {x:μ} (h:x ∉ qs):((qs.zip us).lookup x)=none:=by
 induction qs generalizing us with
 | nil=>rfl
 | cons q r ih=>
   cases us with
   | nil=>rfl
   | cons u us=>
     rw [Þ,Ğ]
     have:(x == q)=false:=ZU.mpr fun e=>h (e ▸ κ)
     rw [this];exact ih fun m=>h (ι _ m)
theorem tQ {s:ν} {p:E6} {x q:μ} {body:List Ë} {sc:ē} {kV doc pm cd ct:ζ} {an:Option Α} {us:List ζ} {T:Α} {o:Ea} {b:Bool} {n:Nat} (h1:p.posonlyargs = []) (h2:p.kwonlyargs = []) (h3:p.vararg=none) (h4:p.kwarg=none) (nd:(p.args.map (·.arg)).Nodup) (ho:s.heap.get? T=some o) (hd:o.data = .seq #[.bool b] n) (hn:p.args≠[]) (ds:List ζ) (hds:ds = []∨ds = [.bool b]) (hl:(us ++ ds).length=(p.args.map (·.arg)).length) :
 GJ s (ϰ x q p body sc (.ref T) kV doc pm an cd ct) ⟨us,[]⟩ ((p.args.map (·.arg)).zip (us ++ ds)):=by
 obtain ⟨a1,a2,a3,a4,a5,a6,a7⟩:=p
 cases h1;cases h2;cases h3;cases h4
 dsimp only at nd hl hn
 obtain ⟨qa,y,rfl⟩:∃ qa y,a2=qa ++ [y]:=⟨_,_,(ĩ hn).symm⟩
 rw [Õ] at nd hl
 have nd2:=ń.mp nd
 have yq:y.arg ∉ qa.map (·.arg):=fun m=>nd2.2.2 _ m _ (by simp) rfl
 refine BindsTo.of_defaults (T:=T) (items:=#[.bool b]) (n:=n) (o:=o) rfl ho hd rfl ?_
 obtain ⟨Q,hQ⟩:∃ Q,List.map (fun x:Arg=>x.arg) qa=Q:=⟨_,rfl⟩
 rw [hQ] at hl yq
 have lq:(List.map (fun x:Arg=>x.arg) (qa ++ [y]))=Q ++ [y.arg]:=by rw [Õ,hQ];rfl
 have hl:us.length+ds.length=Q.length+1:=by simpa using hl
 dsimp only
 rw [lq]
 have d1:ds.length≤1:=by rcases hds with rfl | rfl <;> simp
 obtain ⟨vs,r,lv,sl,tg⟩:∃ (vs:List ζ) (r:List (μ×ζ)),vs.length=Q.length∧(Q ++ [y.arg]).zip us=Q.zip vs ++ r∧((r = []∧(Q ++ [y.arg]).zip (us ++ ds)=Q.zip vs ++ [(y.arg,.bool b)])∨∃ v,r = [(y.arg,v)]∧(Q ++ [y.arg]).zip (us ++ ds)=Q.zip vs ++ [(y.arg,v)]):=by
  rcases hds with rfl | rfl
  ·have hne:us≠[]:=by rintro rfl;simp at hl
   obtain ⟨vs,v,rfl⟩:∃ vs v,us=vs ++ [v]:=⟨_,_,(ĩ hne).symm⟩
   have lv:vs.length=Q.length:=by simpa using hl
   exact ⟨vs,[(y.arg,v)],lv,dG lv,.inr ⟨v,rfl,by rw [ϕ];exact dG lv⟩⟩
  ·have lv:us.length=Q.length:=by simpa using hl
   exact ⟨us,[],lv,by rw [ϕ];exact lN lv,.inl ⟨rfl,dG lv⟩⟩
 have tk:(Q ++ [y.arg]).take Q.length=Q:=by rw [List.take_append_of_le_length (Ω _),Dl]
 have dr:(Q ++ [y.arg]).drop Q.length = [y.arg]:=by rw [List.drop_append_of_le_length (Ω _),ŏ];rfl
 have full:∀ (z:List ζ) ,z.length=Q.length→∀ r,((Q.filter fun n=>((Q.zip z ++ r).lookup n).isNone)) = []:=fun z hz r=>by
  rw [Ė]
  intro n hn
  have e:=jg (ps:=Q) (us:=z) hz
  rw [Ė] at e
  have e:=e n hn
  cases q:(Q.zip z).lookup n with
  | none=>rw [q] at e;exact ZX rfl e
  | some v=>rw [EZ,q];simp
 have e0:List.drop (1 - (Q.length+1)) [ϩ b] = [ϩ b]:=by rw [show 1 - (Q.length+1)=0 by omega];rfl
 refine Eq.trans (ZY ?_) ?_
 ·simp;omega
 have em:((some #[ϩ b]).getD #[]).toList = [ϩ b]:=rfl
 have ln:(List.map (fun x:Arg=>x.arg) ([]:List Arg) ++ (Q ++ [y.arg]))=Q ++ [y.arg]:=rfl
 rw [em,ln,ω,ϊ,ϊ,e0,ϊ,Nat.add_sub_cancel,tk,dr,sl]
 refine Eq.trans (ZY ?_) ?_
 ·rw [full vs lv r];exact fun h=>nomatch h
 rw [Þ,Ĵ]
 have lk:∀ w:ζ,(Q ++ [y.arg]).filterMap (fun n=>((Q.zip vs ++ [(y.arg,w)]).lookup n).map (n,·))=Q.zip vs ++ [(y.arg,w)]:=fun w=>by
  have e:=gU (ps:=Q ++ [y.arg]) (us:=vs ++ [w]) (by rw [← hQ];exact nd) (by simp [lv])
  rwa [dG lv] at e
 have out:=rS (us:=vs) yq
 have fin:∀ w r,(if (EB y.arg (Q.zip vs ++ r)).isNone=true then pure (ϭ (Q.zip vs ++ r ++ [(y.arg,ϩ b)])) else pure (ϭ (Q.zip vs ++ r)):DD (ForInStep (List (μ×ζ))))=pure (ϭ (Q.zip vs ++ [(y.arg,w)]))→(forIn [(y.arg,ϩ b)] (Q.zip vs ++ r) (fun x s=>if (EB x.fst s).isNone=true then pure (ϭ (s ++ [(x.fst,x.snd)])) else pure (ϭ s)):DD _)=pure (Q.zip vs ++ [(y.arg,w)]):=fun w r h=>by
  show ((if (EB y.arg (Q.zip vs ++ r)).isNone=true then pure (ϭ (Q.zip vs ++ r ++ [(y.arg,ϩ b)])) else pure (ϭ (Q.zip vs ++ r)):DD (ForInStep (List (μ×ζ)))) >>= _)=_
  rw [h];rfl
 rcases tg with ⟨rfl,e⟩ | ⟨v,rfl,e⟩
 ·rw [e,fin (.bool b) [] (by rw [ϕ,out];rfl)]
  show (pure (FU _ (Q ++ [y.arg] ++ [])):DD _)=_
  rw [ϕ];exact ZS pure (lk _)
 ·rw [e,fin v [(y.arg,v)] (by rw [EZ,out];simp)]
  show (pure (FU _ (Q ++ [y.arg] ++ [])):DD _)=_
  rw [ϕ];exact ZS pure (lk _)
def fnC (st:Ë):Bool:=(aK st).posonlyargs.isEmpty && (aK st).kwonlyargs.isEmpty && (aK st).vararg.isNone && (aK st).kwarg.isNone && (match (au st).kind with | .function=>true | _=>false) && !(au st).isCoroutine && !(au st).isGenerator && ((dfB st).isNone || !(aK st).args.isEmpty) &&
 decide ((kT st).Nodup∧(kT st).take (bE st).length=bE st∧(∀ x∈bE st,(au st).names.lookup x=some .local∨(au st).names.lookup x=some .cell)∧∀ y∈(au st).names,y.2≠.free)
theorem qH {st:Ë} (h:fnC st=true):dH (kT st) (bE st) (au st)∧(∀ {K:υ} {x q:μ} {f:Α} {fd:Ý},Fun K x q st f fd→bU K fd (bE st) [])∧∀ {K:υ} {x q:μ} {f:Α} {fd:Ý} (T:Ns),lP K x q st f fd→bU K fd (bE st) (dfU (dfT T st)):=by
 unfold fnC at h
 simp only [Χ,decide_eq_true_eq,Ņ,List.isEmpty_iff,Option.isNone_iff_eq_none] at h
 obtain ⟨⟨⟨⟨⟨⟨⟨⟨h1,h2⟩,h3⟩,h4⟩,h5⟩,h6⟩,h7⟩,hna⟩,h8,h9,h10,h11⟩:=h
 have nd:(bE st).Nodup:=h9 ▸ h8.sublist (Fk _ _)
 refine ⟨⟨(by split at h5 <;> first | assumption | cases h5),h6,h7,h8,h9,h10,h11⟩,fun F=>F.binds fun _ _ _ _ _ _ us hl=>gA h1 h2 h3 h4 nd hl,fun T F=>?_⟩
 obtain ⟨oc,od,dV,kV,doc,pm,an,cdv,ct,osl,rfl,lk,hcd,dv⟩:=F.ex
 unfold dfT
 cases q:dfB st with
 | none=>
   rw [q] at dv
   cases (show dV = .none from dv)
   rw [show (if T.mu.contains "#d" = true then (none:Option Bool) else none)=none by split <;> rfl]
   exact .all fun us hl=>gA h1 h2 h3 h4 nd hl
 | some b=>
   rw [q] at dv
   obtain ⟨t,o,n,rfl,d1,d2⟩:=dv
   have na:(aK st).args≠[]:=fun e=>by rw [q,e] at hna;exact nomatch hna
   intro s us hK hl
   exact tQ h1 h2 h3 h4 nd (hK _ _ d1) d2 na _ (by split <;> first | exact .inl rfl | exact .inr rfl) hl
def cT (T:Ns) (st:Ë):Fn:=(gE T st).getD ⟨0,0,.skip,[]⟩
def FsL (K:υ):List (μ×μ×Ë)→List Α→Prop
 | [],[]=>True
 | p :: r,f :: fs=>(∃ fd,lP K p.1 p.2.1 p.2.2 f fd)∧FsL K r fs
 | _,_=>False
theorem FsL.app {K:υ}:∀ {l l' fs fs'},FsL K l fs→FsL K l' fs'→FsL K (l ++ l') (fs ++ fs')
 | [],_,[],_,_,h=>h
 | _ :: _,_,_ :: _,_,h,t=>⟨h.1,FsL.app h.2 t⟩
 | [],_,_ :: _,_,h,_=>h.elim
 | _ :: _,_,[],_,h,_=>h.elim
theorem FsL.len {K:υ}:∀ {l fs},FsL K l fs→fs.length=l.length
 | [],[],_=>rfl
 | _ :: _,_ :: _,h=>ZS (· + 1) h.2.len
 | [],_ :: _,h=>h.elim
 | _ :: _,[],h=>h.elim
theorem FsL.at {K:υ}:∀ {l fs} {j:Nat} {f:Α},FsL K l fs→fs[j]? = some f→∃ p fd,l[j]? = some p∧lP K p.1 p.2.1 p.2.2 f fd
 | [],[],j,f,_,e=>by simp at e
 | p :: l,g :: fs,0,f,h,e=>by simp at e;subst e;obtain ⟨fd,F⟩:=h.1;exact ⟨p,fd,rfl,F⟩
 | p :: l,g :: fs,j+1,f,h,e=>FsL.at (j:=j) h.2 (by simpa using e)
 | [],_ :: _,_,_,h,_=>h.elim
 | _ :: _,[],_,_,h,_=>h.elim
theorem xn {T:Ns} {ad:List Α} {K:υ} {Γ:Gm} {l:List (μ×μ×Ë)} {vs:List (List μ×List (μ×Nat)×List μ×List μ)} (hl:l.length=vs.length) (hΓ:Γ.fn=(l.zip vs).map fun p=>cT { T with mu:=p.2.1,alt:=p.2.2.1,fc:=p.2.2.2.1,oc:=p.2.2.2.2 } p.1.2.2) (hc:((l.zip vs).all fun p=>fnC p.1.2.2 && (gE { T with mu:=p.2.1,alt:=p.2.2.1,fc:=p.2.2.2.1,oc:=p.2.2.2.2 } p.1.2.2).isSome)=true) (h:FsL K l ad) {j:Nat} {f:Α} (e:ad[j]? = some f):FnF T K Γ j f:=by
 obtain ⟨p,fd,e1,F⟩:=h.at e
 have hj:j<vs.length:=hl ▸ (ς.mp e1).1
 have e2:(l.zip vs)[j]? = some (p,vs[j]):=ç.mpr ⟨e1,Ζ hj⟩
 have c:=ϓ.mp hc _ (ο e2)
 rw [Χ] at c
 obtain ⟨S,_,B⟩:=qH c.1
 refine ⟨_,_,_,fd,cT { T with mu:=vs[j].1,alt:=vs[j].2.1,fc:=vs[j].2.2.1,oc:=vs[j].2.2.2 } p.2.2,vs[j].1,vs[j].2.1,vs[j].2.2.1,vs[j].2.2.2,F,B _ F,S,by rw [hΓ,Ψ,e2];rfl,?_⟩
 cases q:gE { T with mu:=vs[j].1,alt:=vs[j].2.1,fc:=vs[j].2.2.1,oc:=vs[j].2.2.2 } p.2.2 with
 | none=>have:=c.2;dsimp only at this;rw [q] at this;exact nomatch this
 | some g=>unfold cT;rw [q];rfl
theorem _root_.L2.Fun.d {K:υ} {x q:μ} {st:Ë} {f:Α} {fd:Ý} (F:Fun K x q st f fd) (h:dfB st=none):lP K x q st f fd:=by
 obtain ⟨oc,od,kV,doc,pm,an,cdv,ct,osl,e,lk,hcd⟩:=F.ex
 exact ⟨⟨oc,od,.none,kV,doc,pm,an,cdv,ct,osl,e,lk,hcd,by rw [h];rfl⟩,F.kp⟩
def ey (K:υ):List (μ×Ë)→Prop
 | []=>True
 | p :: r=>(∃ f fd,lP K p.1 p.1 p.2 f fd∧ώ K ύ p.1=some (some (.ref f)))∧ey K r
theorem hl_cons {K:υ} {x:μ} {st:Ë} {f:Α} {od an:Option Α} {sl:Array (Option ζ)} {oc kV dc pm cd ct:ζ} (a:ώ K ύ x=some (some (.ref f)))
 (l:K.lookup f=some ⟨oc,od,.func (ϰ x x (aK st) (bx st) (au st) .none kV dc pm an cd ct),sl⟩) (c:Ì K cd x=true) (k:Ϙ K (.ref f)=true) (d:dfB st=none) (t:ey K r):ey K ((x,st) :: r):=⟨⟨f,_,(l5 l c k).d d,a⟩,t⟩
theorem hl_consD {K:υ} {x:μ} {st:Ë} {f dt:Α} {od an od2:Option Α} {sl sl2:Array (Option ζ)} {oc kV dc pm cd ct oc2:ζ} {b:Bool} {n:Nat} (a:ώ K ύ x=some (some (.ref f)))
 (l:K.lookup f=some ⟨oc,od,.func (ϰ x x (aK st) (bx st) (au st) (.ref dt) kV dc pm an cd ct),sl⟩) (c:Ì K cd x=true) (k:Ϙ K (.ref f)=true) (g:K.lookup dt=some ⟨oc2,od2,.seq #[.bool b] n,sl2⟩) (d:dfB st=some b) (t:ey K r):ey K ((x,st) :: r):=⟨⟨f,_,⟨⟨oc,od,.ref dt,kV,dc,pm,an,cd,ct,sl,rfl,l,c,by rw [d];exact ⟨dt,_,n,rfl,g,rfl⟩⟩,k⟩,a⟩,t⟩
def wL (mg:μ→Option ζ):List μ→List Α→Prop
 | [],_=>True
 | x :: xs,f :: fs=>mg x=some (.ref f)∧wL mg xs fs
 | _ :: _,[]=>False
theorem ey.ad {K:υ} {h:ϳ} {mg:μ→Option ζ} (Y:K.In h) (G:h.Ns ύ mg):∀ {l},ey K l→∃ ad,FsL K (l.map fun p=>(p.1,p.1,p.2)) ad∧wL mg (l.map (·.1)) ad
 | [],_=>⟨[],trivial,trivial⟩
 | _ :: _,⟨⟨f,fd,F,n⟩,t⟩=>let ⟨ad,h1,h2⟩:=ey.ad Y G t;⟨f :: ad,⟨⟨fd,F⟩,h1⟩,é Y G n,h2⟩
theorem bA {ad ms:List Α} (h:ad.length=n):(ad ++ ms)[n+k]? = ms[k]?:=by rw [Ν (by omega)];congr 1;omega
theorem pZ :∀ {xs} {fs} {j:Nat} {x:μ},wL mg xs fs→xs[j]? = some x→∃ f,fs[j]? = some f∧mg x=some (.ref f)
 | [],_,_,_,_,e=>by simp at e
 | y :: xs,f :: fs,0,x,h,e=>by simp at e;subst e;exact ⟨f,rfl,h.1⟩
 | y :: xs,f :: fs,j+1,x,h,e=>by
   obtain ⟨g,h1,h2⟩:=pZ (j:=j) h.2 (by simpa using e)
   exact ⟨g,by simpa using h1,h2⟩
 | _ :: _,[],_,_,h,_=>h.elim
def gv {α:Type} (P:Nat→α→Prop):Nat→List α→Prop
 | _,[]=>True
 | j,x :: r=>P j x∧gv P (j+1) r
theorem vI :∀ {l:List α} {j i} {x:α},gv P j l→l[i]? = some x→P (j+i) x
 | [],_,i,_,_,e=>by simp at e
 | g :: r,j,0,f,h,e=>by simp at e;subst e;exact h.1
 | g :: r,j,i+1,f,h,e=>by
   have:=vI (i:=i) h.2 (by simpa using e)
   rw [show j+(i+1)=j+1+i by omega];exact this
theorem fH (h:gv P 0 l) (e:l[i]? = some x):P i x:=by
 have:=vI h e
 rwa [ě] at this
def dh (K:υ) (C:Α) (m qn:μ) (st:Ë) (f:Α):Prop:=(∃ fd,Fun K m qn st f fd)∧zv K C m f
theorem AW {K:υ} {C f:Α} {m qn:μ} {st:Ë} {od an:Option Α} {sl:Array (Option ζ)} {oc kV dc pm cd ct:ζ} (at_:Ρ K (.ref C) m=some (some (.ref f))) (l:K.lookup f=some ⟨oc,od,.func (ϰ m qn (aK st) (bx st) (au st) .none kV dc pm an cd ct),sl⟩) (fn:ĥ K (.ref f)=true) (c:Ì K cd qn=true) (k:Ϙ K (.ref f)=true):dh K C m qn st f:=⟨⟨_,l5 l c k⟩,at_,fn,k⟩
theorem me_cons {R:Prop} {K:υ} {C f:Α} {m qn:μ} {st:Ë} {od an:Option Α} {sl:Array (Option ζ)} {oc kV dc pm cd ct:ζ} (a:Ρ K (.ref C) m=some (some (.ref f))) (b:K.lookup f=some ⟨oc,od,.func (ϰ m qn (aK st) (bx st) (au st) .none kV dc pm an cd ct),sl⟩) (c:ĥ K (.ref f)=true) (d:Ì K cd qn=true) (e:Ϙ K (.ref f)=true) (t:R):(∃ f,dh K C m qn st f)∧R:=⟨⟨f,AW a b c d e⟩,t⟩
structure pW (K:υ) (x:μ) (C:Α):Prop where
 a:ώ K ύ x=some (some (.ref C))
 cls:Cls K C
 mks:ō K C=true
 kp:Ϙ K (.ref C)=true
theorem cc_mk {K:υ} (a:ώ K ύ x=some (some (.ref C))) (pg:Ě K C ñ=true) (hd:Á K C=true) (po:C9 K C=true) (sa:Ρ K (.ref C) "__setattr__" = some (some (.builtin "object.__setattr__"))) (mk:ō K C=true) (kp:Ϙ K (.ref C)=true):pW K x C:=⟨a,⟨pg,hd,po,sa⟩,mk,kp⟩
structure zB (K:υ) (x qn:μ) (st:Ë) (bmB:List ζ) (nw:String) (C fI:Α):Prop where
 a:ώ K ύ x=some (some (.ref C))
 own:iA K C fI bmB nw
 ini:∃ fd,Fun K "__init__" qn st fI fd
 st:gx K C
 fd:fe K C
 hh:Á K C=true
 ec:pX K C
 kp:Ϙ K (.ref C)=true
 me:Ϩ K C (.ref C)=some true
theorem xc_mk {K:υ} {x qn:μ} {st:Ë} {bmB:List ζ} {nw:String} {C fI:Α} {nm q:μ} {N:Α} {bs bm:List ζ} {hdct:Bool} {sn:List μ} {sub:List ζ} {ab:Bool} {col:Option Bool} {dd:Option Α} {k0 k1 k2 k3 k5:Option ζ} {od an:Option Α} {sl:Array (Option ζ)} {oc kV dc pm cd ct:ζ}
 (a:ώ K ύ x=some (some (.ref C))) (l:K.lookup C=some (FD nm q C N bs bm hdct sn sub ab col dd k0 k1 k2 k3 k5 nw)) (t:Fh K bmB bm=true) (ini:Ρ K (.ref C) "__init__" = some (some (.ref fI))) (fl:K.lookup fI=some ⟨oc,od,.func (ϰ "__init__" qn (aK st) (bx st) (au st) .none kV dc pm an cd ct),sl⟩) (fn:ĥ K (.ref fI)=true) (fc:Ì K cd qn=true) (fk:Ϙ K (.ref fI)=true)
 (ga:Ρ K (.ref C) "__getattribute__" = some (some (.builtin "BaseException.__getattribute__"))) (gn:Ρ K (.ref C) "__getattr__" = some none) (cl:Ρ K (.ref C) "__class__" = some (some (.builtin "object.__class__"))) (sg:C8 K (.builtin "object.__class__") "__get__" = some (some (.builtin "getset_descriptor.__get__"))) (tk:EW K (.builtin "object.__class__")=some true) (ob:Ϩ K C (.type "object")=some true) (be:Ϩ K C (.type "BaseException")=some true)
 (is:(ů K C).isSome=true) (kp:Ϙ K (.ref C)=true) (tyC:đ K (.ref C)=some (.type "type")) (sa:Ρ K (.ref C) "__setattr__" = some (some (.builtin "object.__setattr__"))) (ov:((ů K C).any fun cd=>hJ veB cd.mro || hJ exB cd.mro)=true) (hdc:((ů K C).any fun cd=>cd.hasDict)=true) (hh:Á K C=true) (me:Ϩ K C (.ref C)=some true):zB K x qn st bmB nw C fI:=
 ⟨a,⟨⟨nm,q,N,bs,bm,hdct,sn,sub,ab,col,dd,k0,k1,k2,k3,k5,l,t⟩,ini,fn⟩,⟨_,l5 fl fc fk⟩,⟨sa,ov,hdc,ob⟩,⟨ga,gn,cl,sg,tk,ob,be,is⟩,hh,⟨tyC,is,be⟩,kp,me⟩
def jsC (N:List μ) (nm:List (μ×Β)) (ck:List Nat):(es:List Λ)→Option (PLift (∀ X:Cx,X.N=N→X.env.scope.names=nm→JsP X ck es))
 | []=>some ⟨fun _ _ _=>.nil⟩
 | .Constant (.str x) _ _ :: r=>match h:decide (x.length≤1000) with
   | true=>(jsC N nm ck r).map fun ih=>⟨fun X hN hs=>.c (of_decide_eq_true h) (ih.down X hN hs)⟩
   | false=>none
 | .FormattedValue (.Name x _) (.negSucc 0) none _ :: r=>match h:(ck.any fun i=>decide (N[i+1]? = some x)) && cG nm x && !((x == ("__debug__":μ)) || (x == ("__classdict__":μ))) with
   | true=>(jsC N nm ck r).map fun ih=>⟨fun X hN hs=>by
     simp only [Χ,Ő,decide_eq_true_eq,Ņ] at h
     obtain ⟨⟨⟨i,h1,h2⟩,h3⟩,h4⟩:=h
     exact .f h1 (hN ▸ h2) (bj hs h3) h4 (ih.down X hN hs)⟩
   | false=>none
 | _=>none
def bsP (bs:Option (μ×List Nat)):Option {q:μ×List Nat // bs=some q}:=match bs with
 | some q=>some ⟨q,rfl⟩
 | none=>none
def xA (N:List μ) (nm:List (μ×Β)) (bs:Option (μ×List Nat)):(b:List Ë)→(l:List (μ×Nat))→Option (PLift (∀ X:Cx,X.N=N→X.env.scope.names=nm→(∀ b c,bs=some (b,c)→∃ B,X.mg b=some (.ref B)∧pV X.K B)→kj X (bs.map (·.2)) b l))
 | [],[]=>some ⟨fun _ _ _ _=>.nil⟩
 | .Assign [.Attribute (.Name s0 _) f _] (.Name x _) _ :: r,(g,i) :: l=>match h:decide (f=g∧N[0]? = some s0∧N[i]? = some x) && cG nm s0 && cG nm x && !((s0 == ("__debug__":μ)) || (s0 == ("__classdict__":μ)) || (x == ("__debug__":μ)) || (x == ("__classdict__":μ))) with
   | true=>(xA N nm bs r l).map fun ih=>⟨fun X hN hs hB=>by
     simp only [Χ,decide_eq_true_eq,Ņ] at h
     obtain ⟨⟨⟨⟨rfl,h1,h2⟩,h3⟩,h4⟩,h5⟩:=h
     exact .cons (hN ▸ h1) (hN ▸ h2) (bj hs h3) (bj hs h4) h5 (ih.down X hN hs hB)⟩
   | false=>none
 | .Expr (.Call (.Attribute (.Name Bn _) m ap) [.Name s0 _,.JoinedStr (e1 :: e2 :: es) _] [] cp) _ :: r,l=>(bsP bs).bind fun q=>match h:decide (Bn=q.1.1∧m = "__init__"∧N[0]? = some s0∧es.length≤50) && cG nm s0 && bK nm Bn && !((s0 == ("__debug__":μ)) || (s0 == ("__classdict__":μ)) || (Bn == ("__debug__":μ))) && (ap.endLine == cp.line) with
   | true=>(jsC N nm q.1.2 (e1 :: e2 :: es)).bind fun js=>(xA N nm bs r l).map fun ih=>⟨fun X hN hs hB=>by
     obtain ⟨⟨b,ck⟩,hb⟩:=q
     subst hb
     simp only [Χ,decide_eq_true_eq,Ņ] at h
     obtain ⟨⟨⟨⟨⟨rfl,rfl,h1,h2⟩,h3⟩,h4⟩,h5⟩,h6⟩:=h
     obtain ⟨B,h9,h10⟩:=hB _ _ rfl
     exact .base rfl (hN ▸ h1) (bj hs h3) h5 (bC hs h4) h9 h10 (js.down X hN hs) h2 h6 (ih.down X hN hs hB)⟩
   | false=>none
 | _,_=>none
def dtC (st:Ë) (nm:List μ) (bs:Option (μ×List Nat)):Bool:=fnC st && decide (kT st=bE st∧(bE st).length=nm.length+1∧nm.Nodup∧nm.length<900) && (xA (bE st) (au st).names bs (bx st) (nm.zip (Ű 1 nm.length))).isSome
theorem jD {X:Cx} {x qual:μ} {st:Ë} {f:Α} {fd:Ý} {nm:List μ} (bs:Option (μ×List Nat)) (F:Fun X.K x qual st f fd) (h:dtC st nm bs=true) (hB:∀ b c,bs=some (b,c)→∃ B,X.mg b=some (.ref B)∧pV X.K B:=by nofun):FnI X 1 f fd (bE st) nm (bs.map (·.2))∧bU X.K fd (bE st) []:=by
 unfold dtC at h
 simp only [Χ,decide_eq_true_eq] at h
 obtain ⟨⟨h1,h2,h3,h4,h5⟩,h6⟩:=h
 obtain ⟨h6,_⟩:=ĉ.mp h6
 obtain ⟨S,B,_⟩:=qH h1
 rw [h2] at S
 refine ⟨?_,B F⟩
 obtain ⟨oc,od,kV,doc,pm,an,cd,ct,osl,rfl,lk,hcd⟩:=F.ex
 exact xk (k:=0) lk hcd S h3 h4 h5 rfl fun A fr L=>h6.down (cxF X X.cal X.cal1 (bE st) qual (au st) f cd A fr L) rfl rfl hB
def GlL (K:υ):List (μ×L2.Bk.Dk)→Prop
 | []=>True
 | p :: r=>(∃ u,ώ K ύ p.1=some (some u)∧ba K p.2 u=true)∧GlL K r
theorem gl_cons {K:υ} (a:ώ K ύ x=some (some u)) (b:ba K d u=true) (t:GlL K r):GlL K ((x,d) :: r):=⟨⟨u,a,b⟩,t⟩
theorem GlL.at {K:υ}:∀ {l} {j:Nat} {x:μ},GlL K l→(l.map (·.1))[j]? = some x→∃ d u,(l.map (·.2))[j]? = some d∧ώ K ύ x=some (some u)∧ba K d u=true
 | [],_,_,_,e=>by simp at e
 | p :: _,0,_,⟨⟨u,h⟩,_⟩,e=>by simp at e;subst e;exact ⟨_,u,rfl,h⟩
 | _ :: _,j+1,_,h,e=>GlL.at (j:=j) h.2 (by simpa using e)
def lT (K:υ):List (μ×List (μ×L2.Bk.Dk))→Prop
 | []=>True
 | p :: r=>(∃ a,ώ K ύ p.1=some (some (.ref a))∧DE (ba K) (fun b=>K.lookup b) a p.2=true)∧lT K r
theorem tb_cons {K:υ} {u:Α} {d:List (μ×L2.Bk.Dk)} (a:ώ K ύ x=some (some (.ref u))) (b:DE (ba K) (fun b=>K.lookup b) u d=true) (t:lT K r):lT K ((x,d) :: r):=⟨⟨u,a,b⟩,t⟩
theorem lT.at {K:υ}:∀ {l} {j:Nat} {x:μ},lT K l→(l.map (·.1))[j]? = some x→∃ t a,(l.map (·.2))[j]? = some t∧ώ K ύ x=some (some (.ref a))∧DE (ba K) (fun b=>K.lookup b) a t=true
 | [],_,_,_,e=>by simp at e
 | p :: _,0,_,⟨⟨u,h⟩,_⟩,e=>by simp at e;subst e;exact ⟨_,u,rfl,h⟩
 | _ :: _,j+1,_,h,e=>lT.at (j:=j) h.2 (by simpa using e)
def NoL (K:υ):List μ→Prop
 | []=>True
 | x :: r=>ώ K ύ x=some none∧NoL K r
theorem nl_cons {K:υ} (a:ώ K ύ x=some none) (t:NoL K r):NoL K (x :: r):=⟨a,t⟩
theorem NoL.at {K:υ}:∀ {l},NoL K l→∀ x∈l,ώ K ύ x=some none
 | _ :: _,h,_,m=>(π.mp m).elim (fun e=>e ▸ h.1) (h.2.at _)
def NaL (K:υ) (C:Α):List μ→Prop
 | []=>True
 | x :: r=>Ρ K (.ref C) x=some none∧NaL K C r
theorem NaL.at {K:υ}:∀ {l},NaL K C l→∀ x∈l,Ρ K (.ref C) x=some none
 | _ :: _,h,_,m=>(π.mp m).elim (fun e=>e ▸ h.1) (h.2.at _)
def MrL (K:υ):List (μ×μ×Bool)→Prop
 | []=>True
 | p :: r=>(∃ C D:Α,ώ K ύ p.1=some (some (.ref C))∧ώ K ύ p.2.1=some (some (.ref D))∧Ϩ K C (.ref D)=some p.2.2)∧MrL K r
theorem mr_cons {K:υ} {C D:Α} {m n:μ} {o:Bool} (a:ώ K ύ m=some (some (.ref C))) (b:ώ K ύ n=some (some (.ref D))) (c:Ϩ K C (.ref D)=some o) (t:MrL K r):MrL K ((m,n,o) :: r):=⟨⟨C,D,a,b,c⟩,t⟩
def VxL (K:υ):List (μ×Bool)→Prop
 | []=>True
 | p :: r=>(∃ C:Α,ώ K ύ p.1=some (some (.ref C))∧Ϩ K C (.type "ValueError")=some p.2)∧VxL K r
theorem MrL.at {K:υ} {C D:Α} {m n:μ} {o:Bool}:∀ {l},MrL K l→(m,n,o)∈l→ώ K ύ m=some (some (.ref C))→ώ K ύ n=some (some (.ref D))→Ϩ K C (.ref D)=some o
 | p :: r,⟨⟨C',D',a,b,c⟩,t⟩,h,e1,e2=>by
   rcases π.mp h with q | q
   ·subst q
    rw [e1] at a;cases a
    rw [e2] at b;cases b
    exact c
   ·exact MrL.at t q e1 e2
theorem fS {x:μ} {l:List μ} (h:decide (x ∉ l)=true):x ∉ l:=of_decide_eq_true h
theorem se {l:List μ} (h:decide l.Nodup=true):l.Nodup:=of_decide_eq_true h
theorem ab0 {α:Type} {x:α} {p:Prop} (z:x≠x):p:=ZX rfl z
section
variable {K:υ} {wh:List Nat} {cn:List μ} {cs:List Cl} {ci:List CI}
def mrB (cs:List Cl) (wh:List Nat) (cn:List μ) (l:List (μ×μ×Bool)) (n:μ) (j:Nat):Bool:=(ĵ cs.length).all fun c=>match cs[c]?,wh[c]?,cn[c]? with
 | some k,some 2,some m=>decide ((m,n,c == j || k.sup.contains j)∈l)
 | _,_,_=>true
theorem yF {l:List (μ×μ×Bool)} {n:μ} {j:Nat} {B:Α} (T:MrL K l) (hN:∀ (c:Nat) (ic:CI),ci[c]? = some ic→wh[c]? = some 2→∃ m,cn[c]? = some m∧ώ K ύ m=some (some (.ref ic.ad))) (hb:ώ K ύ n=some (some (.ref B))) (h:mrB cs wh cn l n j=true) (c:Nat) (k:Cl) (ic:CI) (h1:cs[c]? = some k) (h2:ci[c]? = some ic) (h3:wh[c]? = some 2):Ϩ K ic.ad (.ref B)=some (c == j || k.sup.contains j):=by
 obtain ⟨m,hm,ha⟩:=hN c ic h2 h3
 have q:=ϓ.mp h c (ű.mpr (ς.mp h1).1)
 rw [h1,h3,hm] at q
 exact T.at (of_decide_eq_true q) ha hb
end
def KOf {K:υ} {h:ϳ} (_:K.In h):υ:=K
theorem Ct {Γ:Gm} {cal cal1:Nat→List D→List O→Res}:ev Γ cal cal1 br (.v i) s=(match s.env[i]? with | some (some d)=>.ok d (if br then s else un s i) | _=>.bad):=rfl
inductive IT where
 | fin (o:am)
 | call (j:Nat) (ds:List D) (st:List O) (k:Res→IT)
 | call1 (j:Nat) (ds:List D) (st:List O) (k:Res→IT)
 | test (b:Bool) (k:Bool→IT)
 | opt (o:Option D) (k:D→IT)
 | sub (o:Out D) (k:D→Sta→IT) (kx:Nat→List D→Sta→IT)
 | subS (o:am) (k:am→IT)
def IT.bad:IT:=.fin .bad
def lcT (g:D→Sta→(Option D→Sta→IT)→IT):List D→List D→Sta→(D→Sta→IT)→IT
 | [],acc,s,k=>k (.lst acc) s
 | d :: r,acc,s,k=>g d s fun o s'=>match o with
   | some e=>.test (decide (acc.length<100000)) fun t=>if t then lcT g r (acc ++ [e]) s' k else .bad
   | none=>lcT g r acc s' k
def xl (g:D→Sta→(Sta→IT)→IT):List D→Sta→(Sta→IT)→IT
 | [],s,k=>k s
 | d :: r,s,k=>g d s fun s=>xl g r s k
def qY (st:List O) (p c:Nat):Bool:=match st[p]? with | some (.ins c' _)=>c' == c | _=>false
def xv (x y:D) (z:D):Option D:=match x,bL y with | .dic ks ds,some k=>some ((cg ks ds k).getD z) | _,_=>none
def oV (es:E) (s:Sta) (d:D) (st:List O) (k:D→Sta→IT):IT:=if s.ow.any fun i=>(bI es).contains i then .test (noL d && st.all k7) fun t=>k d ⟨s.env,s.ow.filter fun i=>!(bI es).contains i || (isLst s.env[i]? && t),st⟩ else k d (aft es s d st)
section
variable (Γ:Gm) (cal cal1:Nat→List D→List O→Res) (lp:Bool)
mutual
noncomputable def evT (br:Bool):E→Sta→(D→Sta→IT)→(Nat→List D→Sta→IT)→IT
 | .v i,s,k,kx=>(match s.env[i]? with | some (some d)=>k d (if br then s else un s i) | _=>.bad)
 | .c d,s,k,kx=>k d s
 | .g j,s,k,kx=>(match Γ.gl[j]?.map toD with | some d=>k d s | none=>.bad)
 | .op o a b,s,k,kx=>evT true a s (fun x s=>evT true b s (fun y s=>.opt (opD o (look s.st x) (look s.st y)) fun d=>k d s) kx) kx
 | .isN a,s,k,kx=>evT true a s (fun x s=>k (.bl (kP x)) s) kx
 | .isNN a,s,k,kx=>evT true a s (fun x s=>k (.bl (!kP x)) s) kx
 | .neg a,s,k,kx=>evT true a s (fun x s=>match x with | .int i=>k (.int (-i)) s | _=>.bad) kx
 | .not a,s,k,kx=>evT true a s (fun x s=>match x with | .bl b=>k (.bl (!b)) s | _=>.bad) kx
 | .and a b,s,k,kx=>evT false a s (fun x s=>match x with | .bl t=>.test t fun t=>if t then evT false b s k kx else k (.bl false) s | _=>.bad) kx
 | .or a b,s,k,kx=>evT false a s (fun x s=>match x with | .bl t=>.test t fun t=>if t then k (.bl true) s else evT false b s k kx | _=>.bad) kx
 | .ite c a b,s,k,kx=>evT true c s (fun x s=>match x with | .bl t=>.test t fun t=>if t then evT false a s k kx else evT false b s k kx | _=>.bad) kx
 | .chain o p a b c,s,k,kx=>evT true a s (fun x s=>evT true b s (fun y s=>.opt (opD o (look s.st x) (look s.st y)) fun d=>match d with
   | .bl t=>.test t fun t=>if t then evT true c s (fun z s=>.opt (opD p (look s.st y) (look s.st z)) fun d=>k d s) kx else k (.bl false) s
   | _=>.bad) kx) kx
 | .ix a b,s,k,kx=>evT true a s (fun x s=>evT true b s (fun y s=>.opt (ixD (look s.st x) y) fun d=>k d s) kx) kx
 | .sl a lo hi,s,k,kx=>evT true a s (fun x s=>
  let k3:=fun l s=>(if bG hi then .opt (slO (look s.st x) l none) fun d=>k d s else evT true hi s (fun z s=>match z with | .int h=>.opt (slO (look s.st x) l (some h)) fun d=>k d s | _=>.bad) kx)
  if bG lo then k3 none s else evT true lo s (fun z s=>match z with | .int l=>k3 (some l) s | _=>.bad) kx) kx
 | .sl3 a lo hi,s,k,kx=>evT true a s (fun x s=>
  let k3:=fun l s=>(if bG hi then .opt (pP (look s.st x) l none) fun d=>k d s else evT true hi s (fun z s=>match z with | .int h=>.opt (pP (look s.st x) l (some h)) fun d=>k d s | _=>.bad) kx)
  if bG lo then k3 none s else evT true lo s (fun z s=>match z with | .int l=>k3 (some l) s | _=>.bad) kx) kx
 | .tget j e d,s,k,kx=>evT true e s (fun x s=>evT false d s (fun z s=>match Γ.tb[j]?,x with | some t,.str y=>k (((Ç y t).map toD).getD z) s | _,_=>.bad) kx) kx
 | .newd j es,s,k,kx=>dq false es s (fun l s=>.opt ((Γ.cl[j]?).bind fun k=>if k.what=1∧l.length=k.at_.length then some (D.ins j l) else none) fun d=>k d s) kx
 | .fld a f,s,k,kx=>evT true a s (fun x s=>.opt (lZ Γ s.st x f) fun d=>k d s) kx
 | .tup es,s,k,kx=>dq false es s (fun l s=>if l.length≤100000 then k (.tup l) s else .bad) kx
 | .lst es,s,k,kx=>dq false es s (fun l s=>if l.length≤100000 then k (.lst l) s else .bad) kx
 | .newl es,s,k,kx=>dq false es s (fun l s=>if l.length≤100000 then k (.ref s.st.length) ⟨s.env,s.ow,s.st ++ [.lst l]⟩ else .bad) kx
 | .keep kp a,s,k,kx=>evT false a (hid (kp.filter s.ow.contains) s) (fun d s'=>k d ⟨s.env,s'.ow ++ kp.filter s.ow.contains,s'.st⟩) (fun _ _ _=>.bad)
 | .sto a,s,k,kx=>evT false a s (fun x s=>match x with | .lst l=>k (.ref s.st.length) ⟨s.env,s.ow,s.st ++ [.lst l]⟩ | _=>.bad) kx
 | .call j es,s,k,kx=>dq true es s (fun l s=>.call j l s.st fun r=>match r with | .ok d st=>oV es s d st k | .exc c l st=>kx c l (drp es s st) | .bad=>.bad) kx
 | .hcall j es,s,k,kx=>dq false es s (fun l s=>.test (aS l) fun t=>if t then .call j l [] fun r=>(match r with
  | .ok d st=>.test (noR d) fun t=>if t then k d s else k (shD s.st.length d) ⟨s.env,s.ow,s.st ++ st.map (shO s.st.length)⟩
  | .exc c l _=>.test (aS l) fun t=>if t then kx c l s else .bad
  | .bad=>.bad) else .bad) kx
 | .fcall own j es,s,k,kx=>dq false es s (fun l s=>.test (aS l) fun t=>if t then .call j l [] fun r=>(match r with
  | .ok d st=>.test (own && !qZ d) fun t=>if t then .bad else .opt (Au st d) fun d=>k d s
  | .exc c l _=>.test (aS l) fun t=>if t then kx c l s else .bad
  | .bad=>.bad) else .bad) kx
 | .mth c j a es,s,k,kx=>evT true a s (fun x s=>match x with
   | .ref p=>.test (qY s.st p c) fun t=>if t then dq true es s (fun l s=>.call j (.ref p :: l) s.st fun r=>match r with | .ok d st=>oV es s d st k | .exc c l st=>kx c l (drp es s st) | .bad=>.bad) kx else .bad
   | _=>.bad) kx
 | .bi b es,s,k,kx=>dq true es s (fun l s=>.opt (biD b (l.map (look s.st))) fun d=>k d s) kx
 | .tab j e,s,k,kx=>evT true e s (fun x s=>match Γ.tb[j]?,x with | some t,.str y=>.opt ((Ç y t).map toD) fun d=>k d s | _,_=>.bad) kx
 | .tabin j e,s,k,kx=>evT true e s (fun x s=>match Γ.tb[j]?,x with | some t,.str y=>k (.bl (Ç y t).isSome) s | _,_=>.bad) kx
 | .lc t one it elt cond,s,k,kx=>evT false it s (fun x s=>match x with
   | .lst ds=>if lp then .sub ((bZ (fun d s'=>(match aV t one d s'.env with
    | some env=>(ev Γ cal cal1 true cond ⟨env,[],s'.st⟩).bind fun b s2=>(match b with
      | .bl true=>(ev Γ cal cal1 false elt s2).bind fun e s3=>.ok (some e) ⟨s3.env,[],s3.st⟩
      | .bl false=>.ok none ⟨s2.env,[],s2.st⟩
      | _=>.bad)
    | none=>.bad)) ds [] ⟨Ε t.length none ++ s.env,[],s.st⟩)) (fun d s'=>k d ⟨s.env,[],s'.st⟩) (fun c l s'=>kx c l ⟨s.env,[],s'.st⟩)
     else lcT (fun d s' k'=>match aV t one d s'.env with
      | some env=>evT true cond ⟨env,[],s'.st⟩ (fun b s2=>match b with
        | .bl t=>.test t fun t=>if t then evT false elt s2 (fun e s3=>k' (some e) ⟨s3.env,[],s3.st⟩) (fun c l s'=>kx c l ⟨s.env,[],s'.st⟩) else k' none ⟨s2.env,[],s2.st⟩
        | _=>.bad) (fun c l s'=>kx c l ⟨s.env,[],s'.st⟩)
      | none=>.bad) ds [] ⟨Ε t.length none ++ s.env,[],s.st⟩ (fun d s'=>k d ⟨s.env,[],s'.st⟩)
   | _=>.bad) kx
 | .tand a b,s,k,kx=>evT true a s (fun x s=>match x with | .bl t=>.test t fun t=>if t then evT true b s k kx else k (.bl false) s | _=>.bad) kx
 | .tor a b,s,k,kx=>evT true a s (fun x s=>match x with | .bl t=>.test t fun t=>if t then k (.bl true) s else evT true b s k kx | _=>.bad) kx
 | .tnot a,s,k,kx=>evT true a s (fun x s=>match x with | .bl b=>k (.bl (!b)) s | _=>.bad) kx
 | .tv a,s,k,kx=>evT true a s (fun x s=>.opt ((vB (look s.st x)).map .bl) fun d=>k d s) kx
 | .it b es,s,k,kx=>dq false es s (fun l s=>.opt ((itD b l).map .lst) fun d=>k d s) kx
 | .itv a,s,k,kx=>evT false a s (fun x s=>match s9 x with | some l=>k (.lst l) s | none=>.bad) kx
 | .dic es,s,k,kx=>dq false es s (fun l s=>.opt ((qo l).map fun p=>.dic p.1 p.2) fun d=>k d s) kx
 | .get a b c,s,k,kx=>evT true a s (fun x s=>.test (isDic (look s.st x)) fun t=>if t then evT true b s (fun y s=>evT false c s (fun z s=>.opt (xv (look s.st x) y z) fun d=>k d s) kx) kx else .bad) kx
 | .index a b,s,k,kx=>evT true a s (fun x s=>.test (uk x) fun t=>if t then evT true b s (fun y s=>.opt (xy x y) fun d=>k d s) kx else .bad) kx
 | .join x a,s,k,kx=>evT true a s (fun y s=>.opt (jc x (look s.st y)) fun d=>k d s) kx
 | .fmt x a y,s,k,kx=>evT true a s (fun v s=>.opt (qG x v y) fun d=>k d s) kx
 | .dicc ks es,s,k,kx=>dq false es s (fun l s=>.opt (vW ks l) fun d=>k d s) kx
 | .isXv a,s,k,kx=>evT true a s (fun x s=>.opt (wg Γ x) fun d=>k d s) kx
 | .snap i a,s,k,kx=>(match s.env[i]? with
   | some (some (.ref n))=>(match s.st[n]? with
     | some (.lst l)=>.test (aS l) fun t=>if t then evT false a ⟨(cP s.env).set i (some (.lst l)),[],[]⟩ (fun d _=>.test (flX (aM a) d) fun t=>if t then k d ⟨s.env,[],s.st⟩ else .bad) (fun _ _ _=>.bad) else .bad
     | _=>.bad)
   | some (some _)=>evT false a s k kx
   | _=>.bad)
 | .sm q a,s,k,kx=>evT true a s (fun x s=>.opt (smO q x) fun d=>k d s) kx
 | .pop a,s,k,kx=>evT true a s (fun x s=>match x with
   | .ref n=>(match s.st[n]? with | some (.lst l)=>.opt l.getLast? fun d=>k d ⟨s.env,s.ow,s.st.set n (.lst l.dropLast)⟩ | _=>.bad)
   | _=>.bad) kx
 | .isX a js,s,k,kx=>evT true a s (fun x s=>.opt (AI Γ x js) fun d=>k d s) kx
 | .new j es,s,k,kx=>dq true es s (fun l s=>(match Γ.cl[j]? with
   | some q=>if q.what=1 then (if l.length=q.at_.length then k (.ins j l) (drp es s s.st) else .bad) else if q.what=0 then .call1 q.init (.ref s.st.length :: l) (s.st ++ [.ins j []]) fun r=>(match r with
    | .ok .non st=>k (.ref s.st.length) (aft es s .non st)
    | _=>.bad)
     else .bad
   | none=>.bad)) kx
 | _,_,_,_=>.bad
noncomputable def dq (br:Bool):E→Sta→(List D→Sta→IT)→(Nat→List D→Sta→IT)→IT
 | .nil,s,k,kx=>k [] s
 | .cons a r,s,k,kx=>evT br a s (fun x s=>dq br r s (fun l s=>k (x :: l) s) kx) kx
 | _,_,_,_=>.bad
end
def exT:S→Sta→(Sta→IT)→(D→Sta→IT)→(Nat→List D→Sta→IT)→IT
 | .skip,s,kn,kr,kx=>kn s
 | .seq a b,s,kn,kr,kx=>exT a s (fun s=>exT b s kn kr kx) kr kx
 | .set i e,s,kn,kr,kx=>evT Γ cal cal1 lp false e s (fun d s=>kn (mJ s i d (aM e))) kx
 | .setT l e,s,kn,kr,kx=>evT Γ cal cal1 lp false e s (fun d s=>match aV l false d s.env with | some env=>kn ⟨env,s.ow.filter fun i=>!l.contains i,s.st⟩ | none=>.bad) kx
 | .setR i es,s,kn,kr,kx=>dq Γ cal cal1 lp false es s (fun l s=>if l.length≤100000 then kn ⟨s.env.set i (some (.ref s.st.length)),s.ow.filter (· != i),s.st ++ [.lst l]⟩ else .bad) kx
 | .ret e,s,kn,kr,kx=>evT Γ cal cal1 lp false e s kr kx
 | .ifs c a b,s,kn,kr,kx=>evT Γ cal cal1 lp true c s (fun x s=>match x with | .bl t=>.test t fun t=>if t then exT a s kn kr kx else exT b s kn kr kx | _=>.bad) kx
 | .drop e,s,kn,kr,kx=>evT Γ cal cal1 lp false e s (fun _ s=>kn s) kx
 | .app i e,s,kn,kr,kx=>if s.ow.contains i && isLst s.env[i]? then evT Γ cal cal1 lp false e s (fun d s=>if s.ow.contains i then (match s.env[i]? with
  | some (some (.lst l))=>.test (decide (l.length<100000)) fun t=>if t then kn ⟨s.env.set i (some (.lst (l ++ [d]))),s.ow,s.st⟩ else .bad
  | _=>.bad) else .bad) kx else .bad
 | .ext i e,s,kn,kr,kx=>if s.ow.contains i && isLst s.env[i]? then evT Γ cal cal1 lp false e s (fun d s=>if s.ow.contains i then (match s.env[i]?,d with
  | some (some (.lst l)),.lst x=>.test (decide (l.length+x.length≤100000)) fun t=>if t then kn ⟨s.env.set i (some (.lst (l ++ x))),s.ow,s.st⟩ else .bad
  | _,_=>.bad) else .bad) kx else .bad
 | .put (.v i) b e,s,kn,kr,kx=>evT Γ cal cal1 lp false e s (fun d s=>(match s.env[i]? with
  | some (some x)=>evT Γ cal cal1 lp true b s (fun y s=>(match x with
    | .ref n=>(match (s.st[n]?).bind fun o=>eQ o y d with | some o=>kn ⟨s.env,s.ow,s.st.set n o⟩ | none=>.bad)
    | x=>if s.ow.contains i then .opt (iL x y d) fun y=>kn ⟨s.env.set i (some y),s.ow,s.st⟩ else .bad)) kx
  | _=>.bad)) kx
 | .fapp a f e,s,kn,kr,kx=>evT Γ cal cal1 lp true a s (fun x s=>.test (iH s.st x) fun t=>if t then evT Γ cal cal1 lp false e s (fun d s=>(match x with
  | .ref n=>(match s.st[n]? with | some (.lst l)=>.test (decide (l.length<100000)) fun t=>if t then kn ⟨s.env,s.ow,s.st.set n (.lst (l ++ [d]))⟩ else .bad | _=>.bad)
  | _=>.bad)) kx else .bad) kx
 | .fext a e,s,kn,kr,kx=>evT Γ cal cal1 lp true a s (fun x s=>.test (iH s.st x) fun t=>if t then evT Γ cal cal1 lp false e s (fun d s=>(match x with
  | .ref n=>(match s.st[n]?,d with | some (.lst l),.lst m=>.test (decide (l.length+m.length≤100000)) fun t=>if t then kn ⟨s.env,s.ow,s.st.set n (.lst (l ++ m))⟩ else .bad | _,_=>.bad)
  | _=>.bad)) kx else .bad) kx
 | .rais j es,s,kn,kr,kx=>dq Γ cal cal1 lp false es s (fun l s=>.test (jm Γ j l) fun t=>if t then kx j (pk Γ j l) s else .bad) kx
 | .try_ a hs,s,kn,kr,kx=>exT a s kn kr (fun c l s'=>hndT hs c l s' kn kr kx)
 | .for_ t one it b,s,kn,kr,kx=>evT Γ cal cal1 lp false it s (fun x s=>(match x with
  | .lst ds=>if lp then .subS (aT (fun d s=>match aV t one d s.env with | some env=>exS Γ cal cal1 b ⟨env,s.ow.filter fun i=>!t.contains i,s.st⟩ | none=>.bad) ds s) (fun o=>match o with | .nx s=>kn s | .rt d s=>kr d s | .exc c l s=>kx c l s | .bad=>.bad)
    else xl (fun d s k=>match aV t one d s.env with | some env=>exT b ⟨env,s.ow.filter fun i=>!t.contains i,s.st⟩ k kr kx | none=>.bad) ds s kn
  | _=>.bad)) kx
 | c,s,kn,kr,kx=>.subS (exS Γ cal cal1 c s) (fun o=>match o with | .nx s=>kn s | .rt d s=>kr d s | .exc c l s=>kx c l s | .bad=>.bad)
where hndT:S→Nat→List D→Sta→(Sta→IT)→(D→Sta→IT)→(Nat→List D→Sta→IT)→IT
 | .hand j (some i) b r,c,l,s,kn,kr,kx=>(match dj Γ j c with
  | some true=>exT b ⟨s.env.set i (some (.ins c l)),s.ow.filter (· != i),s.st⟩ (fun s=>kn ⟨s.env.set i none,s.ow.filter (· != i),s.st⟩) kr (fun _ _ _=>.bad)
  | some false=>hndT r c l s kn kr kx
  | none=>.bad)
 | .hand j none b r,c,l,s,kn,kr,kx=>(match dj Γ j c with
  | some true=>exT b s kn kr (fun _ _ _=>.bad)
  | some false=>hndT r c l s kn kr kx
  | none=>.bad)
 | .skip,c,l,s,kn,kr,kx=>kx c l s
 | _,_,_,_,_,_,_=>.bad
def ae:IT→am
 | .fin o=>o
 | .call j ds st k=>ae (k (cal j ds st))
 | .call1 j ds st k=>ae (k (cal1 j ds st))
 | .test b k=>ae (k b)
 | .opt o k=>(match o with | some d=>ae (k d) | none=>.bad)
 | .sub o k kx=>(match o with | .ok d s=>ae (k d s) | .exc c l s=>ae (kx c l s) | .bad=>.bad)
 | .subS o k=>ae (k o)
end
def oc {α:Type} (x:Out α) (k:α→Sta→am) (kx:Nat→List D→Sta→am):am:=match x with
 | .ok a s=>k a s
 | .exc c l s=>kx c l s
 | .bad=>.bad
theorem bS :oc (x.bind f) k kx=oc x (fun a s=>oc (f a s) k kx) kx:=by cases x <;> rfl
theorem cy (h:∀ a s,k a s=k' a s):oc x k kx=oc x k' kx:=by cases x <;> first | exact h _ _ | rfl
theorem af (h:∀ a s,g a s=oc (f a s) k kx):oc x g kx=oc (x.bind f) k kx:=by
 rw [bS];exact cy h
section
variable {Γ:Gm} {cal cal1:Nat→List D→List O→Res} {lp:Bool}
theorem bp {k:D→Sta→IT} :ae cal cal1 (.opt o fun d=>k d s)=oc (.of s o) (fun d s=>ae cal cal1 (k d s)) kx:=by cases o <;> rfl
theorem qW [Decidable p] {k:D→Sta→IT} {kx:Nat→List D→Sta→am}:ae cal cal1 (if p then k d s else .bad)=oc (if p then .ok d s else .bad) (fun d s=>ae cal cal1 (k d s)) kx:=by split <;> rfl
theorem AD {st:List O} {k:D→Sta→IT}:ae cal cal1 (oV es s d st k)=ae cal cal1 (k d (aft es s d st)):=by unfold oV;split <;> rfl
theorem wf {k:D→Sta→IT} {kx:Nat→List D→Sta→IT}:ae cal cal1 (.call j l s.st fun r=>match r with | .ok d st=>oV es s d st k | .exc c l st=>kx c l (drp es s st) | .bad=>.bad)=oc (iD cal es j l s) (fun d s=>ae cal cal1 (k d s)) (fun c l s=>ae cal cal1 (kx c l s)):=by
 show ae cal cal1 (match cal j l s.st with | .ok d st=>oV es s d st k | .exc c l st=>kx c l (drp es s st) | .bad=>.bad)=_
 unfold iD
 cases cal j l s.st <;> first | exact AD | rfl
theorem mn (h:∀ d s k,ae cal cal1 (g d s k)=oc (f d s) (fun o s=>ae cal cal1 (k o s)) kx):∀ (ds acc) (s) (k:D→Sta→IT),ae cal cal1 (lcT g ds acc s k)=oc (bZ f ds acc s) (fun d s=>ae cal cal1 (k d s)) kx
 | [],acc,s,k=>rfl
 | d :: r,acc,s,k=>by
   show ae cal cal1 (g d s _)=oc ((f d s).bind _) _ _
   rw [h,bS]
   refine cy fun o s'=>?_
   cases o with
   | none=>exact mn h r acc s' k
   | some e=>
     dsimp only
     show ae cal cal1 (if decide (acc.length<100000)=true then lcT g r (acc ++ [e]) s' k else .bad)=_
     by_cases c:acc.length<100000
     ·rw [ZZ (ZW c),ZZ c];exact mn h r (acc ++ [e]) s' k
     ·rw [ZY (by simpa using c),ZY c];rfl
theorem vh {x:Out D}:oc (x.back env) k kx=oc x (fun d s'=>k d ⟨env,[],s'.st⟩) (fun c l s'=>kx c l ⟨env,[],s'.st⟩):=by cases x <;> rfl
theorem AF {x:Out D} {k:D→Sta→IT} {kx:Nat→List D→Sta→IT}:ae cal cal1 (.sub x k kx)=oc x (fun d s=>ae cal cal1 (k d s)) (fun c l s=>ae cal cal1 (kx c l s)):=by cases x <;> rfl
theorem Ao :evT Γ cal cal1 lp br (.v i) s k kx=(match s.env[i]? with | some (some d)=>k d (if br then s else un s i) | _=>.bad):=rfl
theorem Am :evT Γ cal cal1 lp br (.g j) s k kx=(match Γ.gl[j]?.map toD with | some d=>k d s | none=>.bad):=rfl
theorem Cr :ev Γ cal cal1 br (.g j) s = .of s (Γ.gl[j]?.map toD):=rfl
theorem bh:∀ e:E,(∀ br s k kx,ae cal cal1 (evT Γ cal cal1 lp br e s k kx)=oc (ev Γ cal cal1 br e s) (fun d s=>ae cal cal1 (k d s)) (fun c l s=>ae cal cal1 (kx c l s))) ∧
 (∀ br s k kx,ae cal cal1 (dq Γ cal cal1 lp br e s k kx)=oc (evs Γ cal cal1 br e s) (fun d s=>ae cal cal1 (k d s)) (fun c l s=>ae cal cal1 (kx c l s))):=by
 intro e
 induction e with
 | v i=>
   refine ⟨fun br s k kx=>?_,fun br s k kx=>rfl⟩
   rw [Ao,Ct]
   cases s.env[i]? with
   | none=>rfl
   | some o=>cases o <;> rfl
 | c d=>exact ⟨fun br s k kx=>rfl,fun br s k kx=>rfl⟩
 | g j=>
   refine ⟨fun br s k kx=>?_,fun br s k kx=>rfl⟩
   rw [Am,Cr]
   cases Γ.gl[j]?.map toD <;> rfl
 | op o a b iha ihb=>exact ⟨fun br s k kx=>(iha.1 _ _ _ _).trans (af fun x s=>(ihb.1 _ _ _ _).trans (af fun y s=>bp)),fun br s k kx=>rfl⟩
 | isN a ih=>exact ⟨fun br s k kx=>(ih.1 _ _ _ _).trans (af fun x s=>rfl),fun br s k kx=>rfl⟩
 | isNN a ih=>exact ⟨fun br s k kx=>(ih.1 _ _ _ _).trans (af fun x s=>rfl),fun br s k kx=>rfl⟩
 | neg a ih=>exact ⟨fun br s k kx=>(ih.1 _ _ _ _).trans (af fun x s=>by cases x <;> rfl),fun br s k kx=>rfl⟩
 | not a ih=>exact ⟨fun br s k kx=>(ih.1 _ _ _ _).trans (af fun x s=>by cases x <;> rfl),fun br s k kx=>rfl⟩
 | and a b iha ihb=>exact ⟨fun br s k kx=>(iha.1 _ _ _ _).trans (af fun x s=>by
  cases x with
  | bl t=>cases t with
    | true=>exact ihb.1 _ _ _ _
    | false=>rfl
  | _=>rfl),fun br s k kx=>rfl⟩
 | or a b iha ihb=>exact ⟨fun br s k kx=>(iha.1 _ _ _ _).trans (af fun x s=>by
  cases x with
  | bl t=>cases t with
    | false=>exact ihb.1 _ _ _ _
    | true=>rfl
  | _=>rfl),fun br s k kx=>rfl⟩
 | ite c a b ihc iha ihb=>exact ⟨fun br s k kx=>(ihc.1 _ _ _ _).trans (af fun x s=>by
  cases x with
  | bl t=>cases t with
    | true=>exact iha.1 _ _ _ _
    | false=>exact ihb.1 _ _ _ _
  | _=>rfl),fun br s k kx=>rfl⟩
 | chain o p a b c iha ihb ihc=>exact ⟨fun br s k kx=>(iha.1 _ _ _ _).trans (af fun x s=>(ihb.1 _ _ _ _).trans (af fun y s=>by
  show ae cal cal1 (.opt (opD o (look s.st x) (look s.st y)) _)=_
  cases opD o (look s.st x) (look s.st y) with
  | none=>rfl
  | some d=>cases d with
    | bl t=>cases t with
      | true=>exact (ihc.1 _ _ _ _).trans (af fun z s=>bp)
      | false=>rfl
    | _=>rfl)),fun br s k kx=>rfl⟩
 | ix a b iha ihb=>exact ⟨fun br s k kx=>(iha.1 _ _ _ _).trans (af fun x s=>(ihb.1 _ _ _ _).trans (af fun y s=>bp)),fun br s k kx=>rfl⟩
 | sl a lo hi iha ihl ihh=>
   refine ⟨fun br s k kx=>(iha.1 _ _ _ _).trans (af fun x s=>?_),fun br s k kx=>rfl⟩
   have k3:∀ l s,ae cal cal1 (if bG hi then .opt (slO (look s.st x) l none) fun d=>k d s else evT Γ cal cal1 lp true hi s (fun z s=>match z with | .int h=>.opt (slO (look s.st x) l (some h)) fun d=>k d s | _=>.bad) kx)=oc ((if bG hi then .ok none s else (ev Γ cal cal1 true hi s).bind toI).bind fun h s=>.of s (slO (look s.st x) l h)) (fun d s=>ae cal cal1 (k d s)) (fun c l s=>ae cal cal1 (kx c l s)):=fun l s=>by
    by_cases c:bG hi=true
    ·rw [ZZ c,ZZ c];exact bp
    ·rw [ZY c,ZY c,ihh.1,bS,bS]
     exact cy fun z s=>by cases z <;> first | exact bp | rfl
   by_cases c:bG lo=true
   ·dsimp only
    rw [ZZ c,ZZ c];exact k3 none s
   ·dsimp only
    rw [ZY c,ZY c,ihl.1,bS,bS]
    exact cy fun z s=>by cases z <;> first | exact k3 _ s | rfl
 | sl3 a lo hi iha ihl ihh=>
   refine ⟨fun br s k kx=>(iha.1 _ _ _ _).trans (af fun x s=>?_),fun br s k kx=>rfl⟩
   have k3:∀ l s,ae cal cal1 (if bG hi then .opt (pP (look s.st x) l none) fun d=>k d s else evT Γ cal cal1 lp true hi s (fun z s=>match z with | .int h=>.opt (pP (look s.st x) l (some h)) fun d=>k d s | _=>.bad) kx)=oc ((if bG hi then .ok none s else (ev Γ cal cal1 true hi s).bind toI).bind fun h s=>.of s (pP (look s.st x) l h)) (fun d s=>ae cal cal1 (k d s)) (fun c l s=>ae cal cal1 (kx c l s)):=fun l s=>by
    by_cases c:bG hi=true
    ·rw [ZZ c,ZZ c];exact bp
    ·rw [ZY c,ZY c,ihh.1,bS,bS]
     exact cy fun z s=>by cases z <;> first | exact bp | rfl
   by_cases c:bG lo=true
   ·dsimp only
    rw [ZZ c,ZZ c];exact k3 none s
   ·dsimp only
    rw [ZY c,ZY c,ihl.1,bS,bS]
    exact cy fun z s=>by cases z <;> first | exact k3 _ s | rfl
 | tget j a b iha ihb=>exact ⟨fun br s k kx=>(iha.1 _ _ _ _).trans (af fun x s=>(ihb.1 _ _ _ _).trans (af fun y s=>by cases Γ.tb[j]? <;> cases x <;> rfl)),fun br s k kx=>rfl⟩
 | newd j es ih=>exact ⟨fun br s k kx=>(ih.2 _ _ _ _).trans (af fun l s=>bp),fun br s k kx=>rfl⟩
 | fld a f ih=>exact ⟨fun br s k kx=>(ih.1 _ _ _ _).trans (af fun x s=>bp),fun br s k kx=>rfl⟩
 | tup es ih=>exact ⟨fun br s k kx=>(ih.2 _ _ _ _).trans (af fun l s=>qW),fun br s k kx=>rfl⟩
 | lst es ih=>exact ⟨fun br s k kx=>(ih.2 _ _ _ _).trans (af fun l s=>qW),fun br s k kx=>rfl⟩
 | newl es ih=>exact ⟨fun br s k kx=>(ih.2 _ _ _ _).trans (af fun l s=>by by_cases c:l.length≤100000 <;> simp only [c,if_true,if_false] <;> rfl),fun br s k kx=>rfl⟩
 | nil=>exact ⟨fun br s k kx=>rfl,fun br s k kx=>rfl⟩
 | cons a r iha ihr=>exact ⟨fun br s k kx=>rfl,fun br s k kx=>(iha.1 _ _ _ _).trans (af fun x s=>(ihr.2 _ _ _ _).trans (af fun l s=>rfl))⟩
 | call j es ih=>exact ⟨fun br s k kx=>(ih.2 _ _ _ _).trans (af fun l s=>wf),fun br s k kx=>rfl⟩
 | hcall j es ih=>exact ⟨fun br s k kx=>(ih.2 _ _ _ _).trans (af fun l s=>by
  show ae cal cal1 (if aS l=true then _ else .bad)=oc (ud cal j l s) _ _
  unfold ud
  split
  ·show ae cal cal1 (match cal j l [] with | .ok d _=>_ | .exc c l _=>_ | .bad=>_)=_
   cases cal j l [] with
   | ok d st=>show ae cal cal1 (if noR d=true then _ else _)=_;dsimp only;split <;> rfl
   | exc c l st=>show ae cal cal1 (if aS l=true then _ else .bad)=_;dsimp only;split <;> rfl
   | bad=>rfl
  ·rfl),fun br s k kx=>rfl⟩
 | fcall own j es ih=>exact ⟨fun br s k kx=>(ih.2 _ _ _ _).trans (af fun l s=>by
  show ae cal cal1 (if aS l=true then _ else .bad)=oc (xj cal own j l s) _ _
  unfold xj
  split
  ·show ae cal cal1 (match cal j l [] with | .ok d _=>_ | .exc c l _=>_ | .bad=>_)=_
   cases cal j l [] with
   | ok d st=>
     show ae cal cal1 (if (own && !qZ d)=true then _ else _)=_;dsimp only;split
     ·rfl
     ·exact bp
   | exc c l st=>show ae cal cal1 (if aS l=true then _ else .bad)=_;dsimp only;split <;> rfl
   | bad=>rfl
  ·rfl),fun br s k kx=>rfl⟩
 | mth c j a es iha ih=>exact ⟨fun br s k kx=>(iha.1 _ _ _ _).trans (af fun x s=>by
  cases x with
  | ref p=>
    show ae cal cal1 (if qY s.st p c=true then _ else .bad)=_
    unfold qY
    dsimp only
    cases s.st[p]? with
    | none=>rfl
    | some o=>cases o with
      | ins c' l'=>
        dsimp only
        by_cases e:c'=c
        ·rw [ZZ (by simpa using e),ZZ e]
         exact (ih.2 _ _ _ _).trans (af fun l s=>wf)
        ·rw [ZY (by simpa using e),ZY e];rfl
      | _=>rfl
  | _=>rfl),fun br s k kx=>rfl⟩
 | bi b es ih=>exact ⟨fun br s k kx=>(ih.2 _ _ _ _).trans (af fun l s=>bp),fun br s k kx=>rfl⟩
 | tab j a ih=>exact ⟨fun br s k kx=>(ih.1 _ _ _ _).trans (af fun x s=>by cases Γ.tb[j]? <;> cases x <;> first | exact bp | rfl),fun br s k kx=>rfl⟩
 | tabin j a ih=>exact ⟨fun br s k kx=>(ih.1 _ _ _ _).trans (af fun x s=>by cases Γ.tb[j]? <;> cases x <;> rfl),fun br s k kx=>rfl⟩
 | tand a b iha ihb=>exact ⟨fun br s k kx=>(iha.1 _ _ _ _).trans (af fun x s=>by
  cases x with
  | bl t=>cases t with
    | true=>exact ihb.1 _ _ _ _
    | false=>rfl
  | _=>rfl),fun br s k kx=>rfl⟩
 | tor a b iha ihb=>exact ⟨fun br s k kx=>(iha.1 _ _ _ _).trans (af fun x s=>by
  cases x with
  | bl t=>cases t with
    | false=>exact ihb.1 _ _ _ _
    | true=>rfl
  | _=>rfl),fun br s k kx=>rfl⟩
 | tnot a ih=>exact ⟨fun br s k kx=>(ih.1 _ _ _ _).trans (af fun x s=>by cases x <;> rfl),fun br s k kx=>rfl⟩
 | tv a ih=>exact ⟨fun br s k kx=>(ih.1 _ _ _ _).trans (af fun x s=>bp),fun br s k kx=>rfl⟩
 | it b es ih=>exact ⟨fun br s k kx=>(ih.2 _ _ _ _).trans (af fun l s=>bp),fun br s k kx=>rfl⟩
 | itv a ih=>exact ⟨fun br s k kx=>(ih.1 _ _ _ _).trans (af fun x s=>by cases s9 x <;> rfl),fun br s k kx=>rfl⟩
 | dic es ih=>exact ⟨fun br s k kx=>(ih.2 _ _ _ _).trans (af fun l s=>bp),fun br s k kx=>rfl⟩
 | get a b c iha ihb ihc=>exact ⟨fun br s k kx=>(iha.1 _ _ _ _).trans (af fun x s=>by
  show ae cal cal1 (if isDic (look s.st x)=true then _ else .bad)=_
  split
  ·refine (ihb.1 _ _ _ _).trans (af fun y s=>(ihc.1 _ _ _ _).trans (af fun z s=>?_))
   show ae cal cal1 (.opt (xv (look s.st x) y z) _)=_
   unfold xv
   cases look s.st x <;> cases bL y <;> rfl
  ·rfl),fun br s k kx=>rfl⟩
 | index a b iha ihb=>exact ⟨fun br s k kx=>(iha.1 _ _ _ _).trans (af fun x s=>by
  show ae cal cal1 (if uk x=true then _ else _)=oc (if uk x=true then _ else _) _ _
  split
  ·exact (ihb.1 _ _ _ _).trans (af fun y s=>bp)
  ·rfl),fun br s k kx=>rfl⟩
 | join x a ih=>exact ⟨fun br s k kx=>(ih.1 _ _ _ _).trans (af fun y s=>bp),fun br s k kx=>rfl⟩
 | fmt x a y ih=>exact ⟨fun br s k kx=>(ih.1 _ _ _ _).trans (af fun v s=>bp),fun br s k kx=>rfl⟩
 | dicc ks es ih=>exact ⟨fun br s k kx=>(ih.2 _ _ _ _).trans (af fun l s=>bp),fun br s k kx=>rfl⟩
 | keep kp a ih=>exact ⟨fun br s k kx=>(ih.1 _ _ _ _).trans (by show oc (ev Γ cal cal1 false a _) _ _=oc ((noX (ev Γ cal cal1 false a _)).bind _) _ _;cases ev Γ cal cal1 false a (hid (kp.filter s.ow.contains) s) <;> rfl),fun br s k kx=>rfl⟩
 | sto a ih=>exact ⟨fun br s k kx=>(ih.1 _ _ _ _).trans (af fun x s=>by cases x <;> rfl),fun br s k kx=>rfl⟩
 | isXv a ih=>exact ⟨fun br s k kx=>(ih.1 _ _ _ _).trans (af fun x s=>bp),fun br s k kx=>rfl⟩
 | snap i a ih=>
   refine ⟨fun br s k kx=>?_,fun br s k kx=>rfl⟩
   show ae cal cal1 (match s.env[i]? with
    | some (some (.ref n))=>(match s.st[n]? with
      | some (.lst l)=>.test (aS l) fun t=>if t then evT Γ cal cal1 lp false a ⟨(cP s.env).set i (some (.lst l)),[],[]⟩ (fun d _=>.test (flX (aM a) d) fun t=>if t then k d ⟨s.env,[],s.st⟩ else .bad) (fun _ _ _=>.bad) else .bad
      | _=>.bad)
    | some (some _)=>evT Γ cal cal1 lp false a s k kx
    | _=>.bad)=oc (match s.env[i]? with
    | some (some (.ref n))=>(match s.st[n]? with
      | some (.lst l)=>if aS l=true then (noX (ev Γ cal cal1 false a ⟨(cP s.env).set i (some (.lst l)),[],[]⟩)).bind fun d _=>if flX (aM a) d=true then .ok d ⟨s.env,[],s.st⟩ else .bad else .bad
      | _=>.bad)
    | some (some _)=>ev Γ cal cal1 false a s
    | _=>.bad) _ _
   cases s.env[i]? with
   | none=>rfl
   | some o=>cases o with
     | none=>rfl
     | some d=>cases d with
       | ref n=>
         dsimp only
         cases s.st[n]? with
         | none=>rfl
         | some o=>cases o with
           | lst l=>
             show ae cal cal1 (if aS l=true then _ else .bad)=_
             dsimp only
             split
             ·refine (ih.1 _ _ _ _).trans ?_
              show oc (ev Γ cal cal1 false a _) _ (fun _ _ _=>.bad)=_
              cases ev Γ cal cal1 false a ⟨(cP s.env).set i (some (.lst l)),[],[]⟩ with
              | ok d s'=>
                show ae cal cal1 (if flX (aM a) d=true then k d _ else .bad)=oc (if flX (aM a) d=true then Out.ok d _ else .bad) _ _
                split <;> rfl
              | _=>rfl
             ·rfl
           | _=>rfl
       | _=>exact ih.1 _ _ _ _
 | sm q a ih=>exact ⟨fun br s k kx=>(ih.1 _ _ _ _).trans (af fun x s=>bp),fun br s k kx=>rfl⟩
 | pop a ih=>exact ⟨fun br s k kx=>(ih.1 _ _ _ _).trans (af fun x s=>by
  cases x with
  | ref n=>
    show ae cal cal1 (match s.st[n]? with | some (.lst l)=>.opt l.getLast? fun d=>k d ⟨s.env,s.ow,s.st.set n (.lst l.dropLast)⟩ | _=>.bad)=oc (match s.st[n]? with | some (.lst l)=>(match l.getLast? with | some d=>.ok d ⟨s.env,s.ow,s.st.set n (.lst l.dropLast)⟩ | none=>.bad) | _=>.bad) _ _
    cases s.st[n]? with
    | none=>rfl
    | some o=>cases o with
      | lst l=>dsimp only;cases l.getLast? <;> rfl
      | _=>rfl
  | _=>rfl),fun br s k kx=>rfl⟩
 | isX a js ih=>exact ⟨fun br s k kx=>(ih.1 _ _ _ _).trans (af fun x s=>bp),fun br s k kx=>rfl⟩
 | lc t one it elt cond ihi ihe ihc=>
   refine ⟨fun br s k kx=>(ihi.1 _ _ _ _).trans (af fun x s=>?_),fun br s k kx=>rfl⟩
   cases x with
   | lst ds=>
     dsimp only
     rw [vh]
     cases lp with
     | true=>rw [ZZ rfl];exact AF
     | false=>
       rw [ZY Ϡ]
       refine mn (f:=fun d s'=>(match aV t one d s'.env with
        | some env=>(ev Γ cal cal1 true cond ⟨env,[],s'.st⟩).bind fun b s2=>(match b with
          | .bl true=>(ev Γ cal cal1 false elt s2).bind fun e s3=>.ok (some e) ⟨s3.env,[],s3.st⟩
          | .bl false=>.ok none ⟨s2.env,[],s2.st⟩
          | _=>.bad)
        | none=>.bad)) (fun d s' k'=>?_) ds [] _ _
       cases aV t one d s'.env with
       | none=>rfl
       | some env=>
         refine (ihc.1 _ _ _ _).trans (af fun b s2=>?_)
         cases b with
         | bl b=>cases b with
           | true=>exact (ihe.1 _ _ _ _).trans (af fun e s3=>rfl)
           | false=>rfl
         | _=>rfl
   | _=>rfl
 | new j es ih=>exact ⟨fun br s k kx=>(ih.2 _ _ _ _).trans (af fun l s=>by
  cases Γ.cl[j]? with
  | none=>rfl
  | some q=>
    dsimp only
    by_cases c1:q.what=1
    ·rw [ZZ c1,ZZ c1];exact qW
    ·rw [ZY c1,ZY c1]
     by_cases c0:q.what=0
     ·rw [ZZ c0,ZZ c0]
      show ae cal cal1 (match cal1 q.init (.ref s.st.length :: l) (s.st ++ [.ins j []]) with | .ok .non st=>k (.ref s.st.length) (aft es s .non st) | _=>.bad)=_
      cases cal1 q.init (.ref s.st.length :: l) (s.st ++ [.ins j []]) with
      | ok d st=>cases d <;> rfl
      | _=>rfl
     ·rw [ZY c0,ZY c0];rfl),fun br s k kx=>rfl⟩
end
def sc (x:am) (kn:Sta→am) (kr:D→Sta→am) (kx:Nat→List D→Sta→am):am:=match x with
 | .nx s=>kn s
 | .rt d s=>kr d s
 | .exc c l s=>kx c l s
 | .bad=>.bad
theorem BA :sc (x.go f) kn kr kx=oc x (fun a s=>sc (f a s) kn kr kx) kx:=by cases x <;> rfl
theorem aU (h:∀ a s,g a s=sc (f a s) kn kr kx):oc x g kx=sc (x.go f) kn kr kx:=by
 rw [BA];exact cy h
theorem sL :sc (x.go f) kn kr kx=sc x (fun s=>sc (f s) kn kr kx) kr kx:=by cases x <;> rfl
theorem lr (h:∀ s,kn s=kn' s) (h2:∀ c l s,kx c l s=kx' c l s):sc x kn kr kx=sc x kn' kr kx':=by cases x <;> first | exact h _ | exact h2 _ _ _ | rfl
section
variable {Γ:Gm} {cal cal1:Nat→List D→List O→Res} {lp:Bool}
theorem mW (h:∀ d s k,ae cal cal1 (g d s k)=sc (f d s) (fun s=>ae cal cal1 (k s)) kr kx):∀ (ds) (s) (k:Sta→IT),ae cal cal1 (xl g ds s k)=sc (aT f ds s) (fun s=>ae cal cal1 (k s)) kr kx
 | [],s,k=>rfl
 | d :: r,s,k=>by
   show ae cal cal1 (g d s _)=sc ((f d s).go _) _ _ _
   rw [h,sL]
   exact lr (fun s=>mW h r s k) fun _ _ _=>rfl
theorem fh {kn:Sta→IT} {kr:D→Sta→IT} {kx:Nat→List D→Sta→IT}:ae cal cal1 (.subS x (fun o=>match o with | .nx s=>kn s | .rt d s=>kr d s | .exc c l s=>kx c l s | .bad=>.bad))=sc x (fun s=>ae cal cal1 (kn s)) (fun d s=>ae cal cal1 (kr d s)) (fun c l s=>ae cal cal1 (kx c l s)):=by cases x <;> rfl
theorem AE {g:D→Sta} {kn:Sta→IT} {kr:D→Sta→am} {kx:Nat→List D→Sta→am}:ae cal cal1 (.opt o fun y=>kn (g y))=sc (match o with | some y=>.nx (g y) | none=>.bad) (fun s=>ae cal cal1 (kn s)) kr kx:=by cases o <;> rfl
theorem tZ :exT Γ cal cal1 lp (.app i e) s kn kr kx=(if s.ow.contains i && isLst s.env[i]? then evT Γ cal cal1 lp false e s (fun d s=>if s.ow.contains i then (match s.env[i]? with
 | some (some (.lst l))=>.test (decide (l.length<100000)) fun t=>if t then kn ⟨s.env.set i (some (.lst (l ++ [d]))),s.ow,s.st⟩ else .bad
 | _=>.bad) else .bad) kx else .bad):=rfl
theorem tX :exS Γ cal cal1 (.app i e) s=(if s.ow.contains i && isLst s.env[i]? then (ev Γ cal cal1 false e s).go fun d s=>if s.ow.contains i then (match s.env[i]? with
 | some (some (.lst l))=>if l.length<100000 then .nx ⟨s.env.set i (some (.lst (l ++ [d]))),s.ow,s.st⟩ else .bad
 | _=>.bad) else .bad else .bad):=rfl
theorem t0 :exT Γ cal cal1 lp (.ext i e) s kn kr kx=(if s.ow.contains i && isLst s.env[i]? then evT Γ cal cal1 lp false e s (fun d s=>if s.ow.contains i then (match s.env[i]?,d with
 | some (some (.lst l)),.lst x=>.test (decide (l.length+x.length≤100000)) fun t=>if t then kn ⟨s.env.set i (some (.lst (l ++ x))),s.ow,s.st⟩ else .bad
 | _,_=>.bad) else .bad) kx else .bad):=rfl
theorem tY :exS Γ cal cal1 (.ext i e) s=(if s.ow.contains i && isLst s.env[i]? then (ev Γ cal cal1 false e s).go fun d s=>if s.ow.contains i then (match s.env[i]?,d with
 | some (some (.lst l)),.lst x=>if l.length+x.length≤100000 then .nx ⟨s.env.set i (some (.lst (l ++ x))),s.ow,s.st⟩ else .bad
 | _,_=>.bad) else .bad else .bad):=rfl
theorem mZ {kn:Sta→IT} {kr:D→Sta→am} {kx:Nat→List D→Sta→am} {c:Prop} [Decidable c] {z:Sta}:ae cal cal1 (.test (decide c) fun t=>if t then kn z else .bad)=sc (if c then .nx z else .bad) (fun s=>ae cal cal1 (kn s)) kr kx:=by
 show ae cal cal1 (if decide c=true then _ else .bad)=_
 by_cases h:c
 ·rw [ZZ (ZW h),ZZ h];rfl
 ·rw [ZY (by simpa using h),ZY h];rfl
theorem qz:∀ c:S,(∀ s kn kr kx,ae cal cal1 (exT Γ cal cal1 lp c s kn kr kx)=sc (exS Γ cal cal1 c s) (fun s=>ae cal cal1 (kn s)) (fun d s=>ae cal cal1 (kr d s)) (fun c l s=>ae cal cal1 (kx c l s))) ∧
 (∀ c' l s kn kr kx,ae cal cal1 (exT.hndT Γ cal cal1 lp c c' l s kn kr kx)=sc (exS.hnd Γ cal cal1 c c' l s) (fun s=>ae cal cal1 (kn s)) (fun d s=>ae cal cal1 (kr d s)) (fun c l s=>ae cal cal1 (kx c l s))):=by
 intro c
 have hb:∀ {c:S},(∀ c' l s kn kr kx,exT.hndT Γ cal cal1 lp c c' l s kn kr kx = .bad)→(∀ c' l s,exS.hnd Γ cal cal1 c c' l s = .bad)→(∀ c' l s kn kr kx,ae cal cal1 (exT.hndT Γ cal cal1 lp c c' l s kn kr kx)=sc (exS.hnd Γ cal cal1 c c' l s) (fun s=>ae cal cal1 (kn s)) (fun d s=>ae cal cal1 (kr d s)) (fun c l s=>ae cal cal1 (kx c l s))):=fun h1 h2 c' l s kn kr kx=>by rw [h1,h2];rfl
 induction c with
 | skip=>exact ⟨fun s kn kr kx=>rfl,fun _ _ _ _ _ _=>rfl⟩
 | seq a b iha ihb=>
   refine ⟨fun s kn kr kx=>(iha.1 _ _ _ _).trans ?_,hb (fun _ _ _ _ _ _=>rfl) fun _ _ _=>rfl⟩
   show _=sc ((exS Γ cal cal1 a s).go fun s=>exS Γ cal cal1 b s) _ _ _
   rw [sL]
   exact lr (fun s=>ihb.1 _ _ _ _) fun _ _ _=>rfl
 | set i e=>exact ⟨fun s kn kr kx=>((bh e).1 _ _ _ _).trans (aU fun d s=>rfl),hb (fun _ _ _ _ _ _=>rfl) fun _ _ _=>rfl⟩
 | setT l e=>exact ⟨fun s kn kr kx=>((bh e).1 _ _ _ _).trans (aU fun d s=>by cases aV l false d s.env <;> rfl),hb (fun _ _ _ _ _ _=>rfl) fun _ _ _=>rfl⟩
 | setR i es=>exact ⟨fun s kn kr kx=>((bh es).2 _ _ _ _).trans (aU fun l s=>by by_cases c:l.length≤100000 <;> simp only [c,if_true,if_false] <;> rfl),hb (fun _ _ _ _ _ _=>rfl) fun _ _ _=>rfl⟩
 | ret e=>exact ⟨fun s kn kr kx=>((bh e).1 _ _ _ _).trans (aU fun d s=>rfl),hb (fun _ _ _ _ _ _=>rfl) fun _ _ _=>rfl⟩
 | ifs c a b iha ihb=>exact ⟨fun s kn kr kx=>((bh c).1 _ _ _ _).trans (aU fun x s=>by
  cases x with
  | bl t=>cases t with
    | true=>exact iha.1 _ _ _ _
    | false=>exact ihb.1 _ _ _ _
  | _=>rfl),hb (fun _ _ _ _ _ _=>rfl) fun _ _ _=>rfl⟩
 | drop e=>exact ⟨fun s kn kr kx=>((bh e).1 _ _ _ _).trans (aU fun d s=>rfl),hb (fun _ _ _ _ _ _=>rfl) fun _ _ _=>rfl⟩
 | app i e=>
   refine ⟨fun s kn kr kx=>?_,hb (fun _ _ _ _ _ _=>rfl) fun _ _ _=>rfl⟩
   rw [tZ,tX]
   split
   ·refine ((bh e).1 _ _ _ _).trans (aU fun d s=>?_)
    split
    ·split <;> first | exact mZ | rfl
    ·rfl
   ·rfl
 | ext i e=>
   refine ⟨fun s kn kr kx=>?_,hb (fun _ _ _ _ _ _=>rfl) fun _ _ _=>rfl⟩
   rw [t0,tY]
   split
   ·refine ((bh e).1 _ _ _ _).trans (aU fun d s=>?_)
    split
    ·split <;> first | exact mZ | rfl
    ·rfl
   ·rfl
 | put a b e=>
   refine ⟨fun s kn kr kx=>?_,hb (fun _ _ _ _ _ _=>rfl) fun _ _ _=>rfl⟩
   cases a with
   | v i=>
     refine ((bh e).1 _ _ _ _).trans (aU fun d s=>?_)
     cases s.env[i]? with
     | none=>rfl
     | some o=>cases o with
       | none=>rfl
       | some x=>
         refine ((bh b).1 _ _ _ _).trans (aU fun y s=>?_)
         cases x with
         | ref n=>
           dsimp only
           cases (s.st[n]?).bind fun o=>eQ o y d <;> rfl
         | _=>
           dsimp only
           split
           ·exact AE
           ·rfl
   | _=>exact fh
 | fld a f e=>exact ⟨fun s kn kr kx=>fh,hb (fun _ _ _ _ _ _=>rfl) fun _ _ _=>rfl⟩
 | aug a f o e=>exact ⟨fun s kn kr kx=>fh,hb (fun _ _ _ _ _ _=>rfl) fun _ _ _=>rfl⟩
 | fapp a f e=>
   refine ⟨fun s kn kr kx=>((bh a).1 _ _ _ _).trans (aU fun x s=>?_),hb (fun _ _ _ _ _ _=>rfl) fun _ _ _=>rfl⟩
   show ae cal cal1 (if iH s.st x=true then _ else .bad)=_
   split
   ·refine ((bh e).1 _ _ _ _).trans (aU fun d s=>?_)
    cases x with
    | ref n=>
      show ae cal cal1 (match s.st[n]? with | some (.lst l)=>.test (decide (l.length<100000)) fun t=>if t then kn ⟨s.env,s.ow,s.st.set n (.lst (l ++ [d]))⟩ else .bad | _=>.bad)=sc (match s.st[n]? with | some (.lst l)=>if l.length<100000 then .nx ⟨s.env,s.ow,s.st.set n (.lst (l ++ [d]))⟩ else .bad | _=>.bad) _ _ _
      cases s.st[n]? with
      | none=>rfl
      | some o=>cases o with
        | lst l=>exact mZ
        | _=>rfl
    | _=>rfl
   ·rfl
 | fext a e=>
   refine ⟨fun s kn kr kx=>((bh a).1 _ _ _ _).trans (aU fun x s=>?_),hb (fun _ _ _ _ _ _=>rfl) fun _ _ _=>rfl⟩
   show ae cal cal1 (if iH s.st x=true then _ else .bad)=_
   split
   ·refine ((bh e).1 _ _ _ _).trans (aU fun d s=>?_)
    cases x with
    | ref n=>
      show ae cal cal1 (match s.st[n]?,d with | some (.lst l),.lst m=>.test (decide (l.length+m.length≤100000)) fun t=>if t then kn ⟨s.env,s.ow,s.st.set n (.lst (l ++ m))⟩ else .bad | _,_=>.bad)=sc (match s.st[n]?,d with | some (.lst l),.lst m=>if l.length+m.length≤100000 then .nx ⟨s.env,s.ow,s.st.set n (.lst (l ++ m))⟩ else .bad | _,_=>.bad) _ _ _
      cases s.st[n]? with
      | none=>rfl
      | some o=>cases o with
        | lst l=>cases d <;> first | exact mZ | rfl
        | _=>rfl
    | _=>rfl
   ·rfl
 | for_ t one it b ih=>
   refine ⟨fun s kn kr kx=>((bh it).1 _ _ _ _).trans (aU fun x s=>?_),hb (fun _ _ _ _ _ _=>rfl) fun _ _ _=>rfl⟩
   cases x with
   | lst ds=>
     dsimp only
     cases lp with
     | true=>rw [ZZ rfl];exact fh
     | false=>
       rw [ZY Ϡ]
       refine mW (fun d s k=>?_) ds s kn
       cases aV t one d s.env with
       | none=>rfl
       | some env=>exact ih.1 _ _ _ _
   | _=>rfl
 | whl c b ih=>exact ⟨fun s kn kr kx=>fh,hb (fun _ _ _ _ _ _=>rfl) fun _ _ _=>rfl⟩
 | rais j es=>
   refine ⟨fun s kn kr kx=>((bh es).2 _ _ _ _).trans (aU fun l s=>?_),hb (fun _ _ _ _ _ _=>rfl) fun _ _ _=>rfl⟩
   show ae cal cal1 (if jm Γ j l=true then kx j (pk Γ j l) s else .bad)=_
   split <;> rfl
 | try_ a h iha ihh=>
   refine ⟨fun s kn kr kx=>(iha.1 _ _ _ _).trans ?_,hb (fun _ _ _ _ _ _=>rfl) fun _ _ _=>rfl⟩
   show _=sc (match exS Γ cal cal1 a s with | .exc c l s'=>exS.hnd Γ cal cal1 h c l s' | r=>r) _ _ _
   cases exS Γ cal cal1 a s with
   | exc c l s'=>exact ihh.2 _ _ _ _ _ _
   | _=>rfl
 | hand j i b r ihb ihr=>
   refine ⟨fun s kn kr kx=>fh,fun c' l s kn kr kx=>?_⟩
   cases i with
   | none=>
     show ae cal cal1 (match dj Γ j c' with | some true=>_ | some false=>exT.hndT Γ cal cal1 lp r c' l s kn kr kx | none=>.bad)=sc (match dj Γ j c' with | some true=>_ | some false=>exS.hnd Γ cal cal1 r c' l s | none=>.bad) _ _ _
     rcases dj Γ j c' with _ | (_ | _)
     ·rfl
     ·exact ihr.2 _ _ _ _ _ _
     ·refine (ihb.1 _ _ _ _).trans ?_
      cases exS Γ cal cal1 b s <;> rfl
   | some i=>
     show ae cal cal1 (match dj Γ j c' with | some true=>_ | some false=>exT.hndT Γ cal cal1 lp r c' l s kn kr kx | none=>.bad)=sc (match dj Γ j c' with | some true=>_ | some false=>exS.hnd Γ cal cal1 r c' l s | none=>.bad) _ _ _
     rcases dj Γ j c' with _ | (_ | _)
     ·rfl
     ·exact ihr.2 _ _ _ _ _ _
     ·refine (ihb.1 _ _ _ _).trans ?_
      cases exS Γ cal cal1 b ⟨s.env.set i (some (.ins c' l)),s.ow.filter (· != i),s.st⟩ <;> rfl
inductive An where
 | r (r:Res) | t (n:Nat) (b:Bool) | o (n:Nat) (d:D) | e (d:D) (s:Sta) | y (c:Nat) (l:List D) (s:Sta) | x (o:am) | c
end
section
variable (cal cal1:Nat→List D→List O→Res)
def trc:IT→List An→Prop×am
 | .fin o,[]=>(True,o)
 | .fin o,_=>(False,o)
 | .call j ds st k,.r a :: l=>((cal j ds st=a)∧(trc (k a) l).1,(trc (k a) l).2)
 | .call1 j ds st k,.r a :: l=>((cal1 j ds st=a)∧(trc (k a) l).1,(trc (k a) l).2)
 | .call j ds st k,.c :: l=>trc (k (cal j ds st)) l
 | .call1 j ds st k,.c :: l=>trc (k (cal1 j ds st)) l
 | .test b k,.t 0 a :: l=>((b=a)∧(trc (k a) l).1,(trc (k a) l).2)
 | .test b k,.t (n+1) a :: l=>trc (k b) (.t n a :: l)
 | .test b k,.o (n+1) a :: l=>trc (k b) (.o n a :: l)
 | .test b k,l=>trc (k b) l
 | .opt o k,.o 0 a :: l=>((o=some a)∧(trc (k a) l).1,(trc (k a) l).2)
 | .opt (some d) k,.o (n+1) a :: l=>trc (k d) (.o n a :: l)
 | .opt (some d) k,.t (n+1) a :: l=>trc (k d) (.t n a :: l)
 | .opt (some d) k,l=>trc (k d) l
 | .sub o k _,.e d s :: l=>((o = .ok d s)∧(trc (k d s) l).1,(trc (k d s) l).2)
 | .sub o _ kx,.y c m s :: l=>((o = .exc c m s)∧(trc (kx c m s) l).1,(trc (kx c m s) l).2)
 | .subS o k,.x a :: l=>((o=a)∧(trc (k a) l).1,(trc (k a) l).2)
 | _,_=>(False,.bad)
theorem mM:∀ (t) (l),(trc cal cal1 t l).1→ae cal cal1 t=(trc cal cal1 t l).2:=by
 intro t
 induction t with
 | fin o=>intro l h;cases l <;> first | rfl | exact h.elim
 | call j ds st k ih=>
   intro l h
   cases l with
   | nil=>exact h.elim
   | cons a l=>cases a with
     | r a=>obtain ⟨h1,h2⟩:=h;have:=ih a l h2;rw [← h1] at this ⊢;show ae cal cal1 (k (cal j ds st))=_;rw [h1] at this ⊢;exact this
     | c=>exact ih _ l h
     | _=>exact h.elim
 | call1 j ds st k ih=>
   intro l h
   cases l with
   | nil=>exact h.elim
   | cons a l=>cases a with
     | r a=>obtain ⟨h1,h2⟩:=h;show ae cal cal1 (k (cal1 j ds st))=_;rw [h1];exact ih a l h2
     | c=>exact ih _ l h
     | _=>exact h.elim
 | test b k ih=>
   intro l h
   show ae cal cal1 (k b)=_
   cases l with
   | nil=>exact ih b _ h
   | cons a l=>cases a with
     | t n a=>cases n with
       | zero=>obtain ⟨h1,h2⟩:=h;rw [h1];exact ih a l h2
       | succ n=>exact ih b _ h
     | o n a=>cases n with
       | zero=>exact ih b _ h
       | succ n=>exact ih b _ h
     | _=>exact ih b _ h
 | opt o k ih=>
   intro l h
   cases l with
   | nil=>cases o with
     | none=>exact h.elim
     | some d=>exact ih d _ h
   | cons a l=>cases a with
     | o n a=>cases n with
       | zero=>obtain ⟨rfl,h2⟩:=h;exact ih a l h2
       | succ n=>cases o with
         | none=>exact h.elim
         | some d=>exact ih d _ h
     | t n a=>cases n with
       | zero=>cases o with
         | none=>exact h.elim
         | some d=>exact ih d _ h
       | succ n=>cases o with
         | none=>exact h.elim
         | some d=>exact ih d _ h
     | _=>cases o with
        | none=>exact h.elim
        | some d=>exact ih d _ h
 | sub o k kx ih ihx=>
   intro l h
   cases l with
   | nil=>exact h.elim
   | cons a l=>cases a with
     | e d s=>obtain ⟨rfl,h2⟩:=h;exact ih d s l h2
     | y c m s=>obtain ⟨rfl,h2⟩:=h;exact ihx c m s l h2
     | _=>exact h.elim
 | subS o k ih=>
   intro l h
   cases l with
   | nil=>exact h.elim
   | cons a l=>cases a with
     | x a=>obtain ⟨h1,h2⟩:=h;show ae cal cal1 (k o)=_;rw [h1];exact ih a l h2
     | _=>exact h.elim
end
def Bv:am→Res
 | .nx s=>.ok .non s.st
 | .rt d s=>.ok d s.st
 | .exc c l s=>.exc c l s.st
 | .bad=>.bad
def vt (Γ:Gm) (cal cal1:Nat→List D→List O→Res) (lp:Bool) (j:Nat) (ds:List D) (st:List O) (l:List An):Prop×Res:=match Γ.fn[j]? with
 | some f=>if (ds ++ f.df).length=f.np then
  (fun p=>(p.1,Bv p.2)) (trc cal cal1 (exT Γ cal cal1 lp f.body ⟨(ds ++ f.df).map some ++ Ε (f.ns - f.np) none,[],st⟩ (fun s=>.fin (.nx s)) (fun d s=>.fin (.rt d s)) (fun c l s=>.fin (.exc c l s))) l)
   else (False,.bad)
 | none=>(False,.bad)
theorem yW {st:List O} (l:List An) {P:Prop} {r:Res} (hp:P) (h:vt Γ cal cal1 lp j ds st l=(P,r)):lj Γ cal cal1 j ds st=r:=by
 unfold vt at h
 unfold lj
 cases q:Γ.fn[j]? with
 | none=>rw [q] at h;have t:False=P:=ZS Ŏ h;exact (Eq.mpr t hp:False).elim
 | some f=>
   rw [q] at h
   dsimp only at h ⊢
   by_cases c:(ds ++ f.df).length=f.np
   ·rw [ZZ c] at h ⊢
    have h1:=ZS Ŏ h
    have h2:=ZS DS h
    dsimp only at h1 h2
    have t:=mM cal cal1 _ l (h1 ▸ hp)
    rw [(qz f.body).1] at t
    rw [← h2,← t]
    cases exS Γ cal cal1 f.body ⟨(ds ++ f.df).map some ++ Ε (f.ns - f.np) none,[],st⟩ <;> rfl
   ·rw [ZY c] at h;have t:False=P:=ZS Ŏ h;exact (Eq.mpr t hp:False).elim
theorem gB (lp) {st:List O} (l:List An) {P:Prop} {r:Res} (hp:P) (h:vt Γ (aa Γ n) (aH Γ n) lp j ds st l=(P,r)):aa Γ (n+1) j ds st=r:=yW l hp h
theorem vY (lp) (l) {P:Prop} {o:am} (hp:P) (h:trc cal cal1 (exT Γ cal cal1 lp c s (fun s=>.fin (.nx s)) (fun d s=>.fin (.rt d s)) (fun c l s=>.fin (.exc c l s))) l=(P,o)):exS Γ cal cal1 c s=o:=by
 have h1:=ZS Ŏ h
 have h2:=ZS DS h
 dsimp only at h1 h2
 have t:=mM cal cal1 _ l (h1 ▸ hp)
 rw [(qz c).1,h2] at t
 rw [← t]
 cases exS Γ cal cal1 c s <;> rfl
def wx:am→Out D
 | .rt d s=>.ok d s
 | .exc c l s=>.exc c l s
 | _=>.bad
theorem Ap (lp) (l) {P:Prop} {o:Out D} (hp:P) (h:(fun p:Prop×am=>(p.1,wx p.2)) (trc cal cal1 (evT Γ cal cal1 lp br e s (fun d s=>.fin (.rt d s)) (fun c l s=>.fin (.exc c l s))) l)=(P,o)):ev Γ cal cal1 br e s=o:=by
 have h1:=ZS Ŏ h
 have h2:=ZS DS h
 dsimp only at h1 h2
 have t:=mM cal cal1 _ l (h1 ▸ hp)
 rw [(bh e).1] at t
 rw [← h2,← t]
 cases ev Γ cal cal1 br e s <;> rfl
theorem aW (h:f d s = .nx s1) (h2:aT f r s1=o):aT f (d :: r) s=o:=by
 show (f d s).go _=o
 rw [h];exact h2
theorem gI (h:f d s=o) (n:∀ s,o≠.nx s):aT f (d :: r) s=o:=by
 show (f d s).go _=o
 rw [h]
 cases o with
 | nx s=>exact ZX rfl (n s)
 | _=>rfl
theorem fZ (h:f d s = .ok (some e) s1) (ha:acc.length<100000) (h2:bZ f r (acc ++ [e]) s1=o):bZ f (d :: r) acc s=o:=by
 show (f d s).bind _=o
 rw [h]
 show (if acc.length<100000 then bZ f r (acc ++ [e]) s1 else .bad)=o
 rw [ZZ ha];exact h2
theorem uw (h:f d s = .ok none s1) (h2:bZ f r acc s1=o):bZ f (d :: r) acc s=o:=by
 show (f d s).bind _=o
 rw [h];exact h2
def cQ:S→S
 | .seq a b=>(match cQ a with | .skip=>cQ b | x=>x)
 | .ifs _ a b=>(match cQ a with | .skip=>cQ b | x=>x)
 | .for_ _ _ _ b=>b
 | _=>.skip
def toR:am→Res
 | .nx s=>.ok .non s.st
 | .rt d s=>.ok d s.st
 | .exc c l s=>.exc c l s.st
 | .bad=>.bad
def hdS:Nat→S→S
 | 0,.seq a _=>a
 | n+1,.seq a b=>.seq a (hdS n b)
 | _,s=>s
def tlS:Nat→S→S
 | 0,.seq _ b=>b
 | n+1,.seq _ b=>tlS n b
 | _,_=>.skip
theorem v8 (x:am):(x.go fun s=>.nx s)=x:=by cases x <;> rfl
theorem ph (n:Nat) (c:S) (s:Sta):exS Γ cal cal1 c s=(exS Γ cal cal1 (hdS n c) s).go fun s=>exS Γ cal cal1 (tlS n c) s:=by
 induction n generalizing c s with
 | zero=>cases c <;> first | rfl | exact (v8 _).symm
 | succ n ih=>
   cases c with
   | seq a b=>
     show (exS Γ cal cal1 a s).go _=((exS Γ cal cal1 a s).go fun s=>exS Γ cal cal1 (hdS n b) s).go _
     cases exS Γ cal cal1 a s with
     | nx s=>exact ih b s
     | _=>rfl
   | _=>exact (v8 _).symm
theorem xi (lp) (l) {P:Prop} {r:Res} (hp:P) (h:(fun p:Prop×am=>(p.1,toR p.2)) (trc cal cal1 (exT Γ cal cal1 lp c s (fun s=>.fin (.nx s)) (fun d s=>.fin (.rt d s)) (fun c l s=>.fin (.exc c l s))) l)=(P,r)):toR (exS Γ cal cal1 c s)=r:=by
 have h1:=ZS Ŏ h
 have h2:=ZS DS h
 dsimp only at h1 h2
 rw [← h2]
 exact ZS toR (vY lp l (h1 ▸ hp) rfl)
theorem dJ {n:Nat} {ds:List D} {st:List O} {r:Res} (k:Nat) (f:Fn) {s':Sta} (hf:Γ.fn[j]? = some f) (hl:(ds ++ f.df).length=f.np) (h1:exS Γ (aa Γ n) (aH Γ n) (hdS k f.body) ⟨(ds ++ f.df).map some ++ Ε (f.ns - f.np) none,[],st⟩ = .nx s') (h2:toR (exS Γ (aa Γ n) (aH Γ n) (tlS k f.body) s')=r):aa Γ (n+1) j ds st=r:=by
 show lj Γ (aa Γ n) (aH Γ n) j ds st=r
 unfold lj
 rw [hf]
 dsimp only
 rw [ZZ hl,ph k,h1,← h2]
 rfl
class ToAn (α:Type) where
 an:Nat→α→An
instance:ToAn Res:=⟨fun _ a=>.r a⟩
instance:ToAn Bool:=⟨fun n b=>.t n b⟩
instance:ToAn (Option D):=⟨fun n o=>match o with | some d=>.o n d | none=>.c⟩
instance:ToAn (Out D):=⟨fun _ o=>match o with | .ok d s=>.e d s | .exc c l s=>.y c l s | _=>.c⟩
instance:ToAn am:=⟨fun _ o=>.x o⟩
theorem qw {a b:D} (h:isDic a=false):eqT a b=eqv 55 a b:=by cases a <;> first | rfl | cases h
def AL (_:List An) (P:Prop):Prop:=P
theorem aX (n:Nat) {α:Type} [ToAn α] {x a:α} (h:x=a) {l:List An} {P:Prop} (t:AL l P):AL (ToAn.an n a :: l) (x=a∧P):=⟨h,t⟩
theorem aC {l:List An} {P:Prop} (t:AL l P):AL (.c :: l) P:=t
theorem aZ:AL [] True:=Ŝ
theorem ac (lp) {st:List O} {l:List An} {P:Prop} {r:Res} (hp:AL l P) (h:vt Γ (aa Γ n) (aH Γ n) lp j ds st l=(P,r)):aa Γ (n+1) j ds st=r:=gB lp l hp h
theorem b9 (lp) {l:List An} {P:Prop} {o:am} (hp:AL l P) (h:trc cal cal1 (exT Γ cal cal1 lp c s (fun s=>.fin (.nx s)) (fun d s=>.fin (.rt d s)) (fun c l s=>.fin (.exc c l s))) l=(P,o)):exS Γ cal cal1 c s=o:=vY lp l hp h
theorem fQ (lp) {l:List An} {P:Prop} {o:Out D} (hp:AL l P) (h:(fun p:Prop×am=>(p.1,wx p.2)) (trc cal cal1 (evT Γ cal cal1 lp br e s (fun d s=>.fin (.rt d s)) (fun c l s=>.fin (.exc c l s))) l)=(P,o)):ev Γ cal cal1 br e s=o:=Ap lp l hp h
theorem mU (lp) {l:List An} {P:Prop} {r:Res} (hp:AL l P) (h:(fun p:Prop×am=>(p.1,toR p.2)) (trc cal cal1 (exT Γ cal cal1 lp c s (fun s=>.fin (.nx s)) (fun d s=>.fin (.rt d s)) (fun c l s=>.fin (.exc c l s))) l)=(P,r)):toR (exS Γ cal cal1 c s)=r:=xi lp l hp h
def cM (Γ:Gm) (cal cal1:Nat→List D→List O→Res) (t:List Nat) (one:Bool) (b:S):D→Sta→am:=fun d s=>match aV t one d s.env with | some env=>exS Γ cal cal1 b ⟨env,s.ow.filter fun i=>!t.contains i,s.st⟩ | none=>.bad
def lcQ (Γ:Gm) (cal cal1:Nat→List D→List O→Res) (t:List Nat) (one:Bool) (elt cond:E):D→Sta→Out (Option D):=fun d s'=>(match aV t one d s'.env with
 | some env=>(ev Γ cal cal1 true cond ⟨env,[],s'.st⟩).bind fun b s2=>(match b with
   | .bl true=>(ev Γ cal cal1 false elt s2).bind fun e s3=>.ok (some e) ⟨s3.env,[],s3.st⟩
   | .bl false=>.ok none ⟨s2.env,[],s2.st⟩
   | _=>.bad)
 | none=>.bad)
theorem aA {s:Sta} (hb:aV t one d s.env=some env) (h:exS Γ cal cal1 b ⟨env,s.ow.filter fun i=>!t.contains i,s.st⟩=o):cM Γ cal cal1 t one b d s=o:=by unfold cM;rw [hb];exact h
theorem jO {s:Sta} {cond elt:E} (hb:aV t one d s.env=some env) (hc:ev Γ cal cal1 true cond ⟨env,[],s.st⟩ = .ok (.bl true) s2) (h:ev Γ cal cal1 false elt s2 = .ok e s3):lcQ Γ cal cal1 t one elt cond d s = .ok (some e) ⟨s3.env,[],s3.st⟩:=by
 unfold lcQ
 rw [hb]
 dsimp only
 rw [hc]
 show (ev Γ cal cal1 false elt s2).bind _=_
 rw [h];rfl
theorem xP {s:Sta} {cond elt:E} (hb:aV t one d s.env=some env) (hc:ev Γ cal cal1 true cond ⟨env,[],s.st⟩ = .ok (.bl false) s2):lcQ Γ cal cal1 t one elt cond d s = .ok none ⟨s2.env,[],s2.st⟩:=by
 unfold lcQ
 rw [hb]
 dsimp only
 rw [hc];rfl
theorem xO {s:Sta} {cond elt:E} (hb:aV t one d s.env=some env) (hc:ev Γ cal cal1 true cond ⟨env,[],s.st⟩ = .ok (.bl true) s2) (h:ev Γ cal cal1 false elt s2 = .exc c l s3):lcQ Γ cal cal1 t one elt cond d s = .exc c l s3:=by
 unfold lcQ
 rw [hb]
 dsimp only
 rw [hc]
 show (ev Γ cal cal1 false elt s2).bind _=_
 rw [h];rfl
theorem pA (h:f d s = .exc c l s1):bZ f (d :: r) acc s = .exc c l s1:=by
 show (f d s).bind _=_
 rw [h];rfl
theorem nZ {x:E} {f:Nat} {b e:E} (h1:ev Γ cal cal1 false e s = .ok d s1) (h2:ev Γ cal cal1 true (.fld x f) s1 = .ok (.ref n) s2) (h3:ev Γ cal cal1 true b s2 = .ok k s3) (h4:s3.st[n]? = some o) (h5:eQ o k d=some o'):exS Γ cal cal1 (.put (.fld x f) b e) s = .nx ⟨s3.env,s3.ow,s3.st.set n o'⟩:=by
 show (ev Γ cal cal1 false e s).go _=_
 rw [h1]
 show (ev Γ cal cal1 true (.fld x f) s1).go _=_
 rw [h2]
 show (ev Γ cal cal1 true b s2).go _=_
 rw [h3]
 show (match (s3.st[n]?).bind fun o=>eQ o k d with | some o=>am.nx ⟨s3.env,s3.ow,s3.st.set n o⟩ | none=>.bad)=_
 rw [h4]
 show (match eQ o k d with | some o=>am.nx ⟨s3.env,s3.ow,s3.st.set n o⟩ | none=>.bad)=_
 rw [h5]
end L2.Ev
end
section
namespace L2.Lx
abbrev Ch:=List Nat
def ch (x:μ):Ch:=x.cps.toList
theorem ch_app (x y:μ):ch (x ++ y)=ch x ++ ch y:=by
 show (x.cps ++ y.cps).toList=_
 rw [Array.toList_append];rfl
theorem ch_len (x:μ):x.length=(ch x).length:=by show x.cps.size=x.cps.toList.length;rw [ż]
end L2.Lx
end
section
namespace L2.K67
open L2.Bk L2.Ev
def top (i:Nat):Ë:=Gi.main.body.getD i (.Pass ⟨0,0,0,0⟩)
def aD (s:Ë) (j:Nat):Ë:=match s with
 | .ClassDef _ _ _ body _ _ _ _ _ _ _=>body.getD j (.Pass ⟨0,0,0,0⟩)
 | _=>.Pass ⟨0,0,0,0⟩
def fnl:List (μ×Ë):=(Ă [("steps",top 10),("kinds_in",top 11),("with_kinds",top 12),("depth",top 13),("ground",top 14),("part",top 15),("stepped",top 16),("parting",top 18),("join",top 19),("form",top 22),("indexes",top 23),("parts",top 24),("written",top 25),("places",top 26),("need_names",top 27),("need_bound",top 28)] (Ă [("names_bound",top 29),("looked",top 37),("need_shallow",top 39),("need_same",top 40),("bound_within",top 41),("wanted_kind",top 42),("own_kind",top 43),("made",top 51),("going",top 52),("body_between",top 53),("label_beyond",top 54),("body_with",top 55),("is_broken",top 56),("looks_of",top 58),("made_looks",top 59),("laid",top 61)] (Ă [("both",top 62),("laid_bodies",top 63),("laid_parts",top 64),("alone",top 69),("need_ground",top 70),("end_in_blame",top 71),("looks_beside",top 72),("thing_of",top 75),("text_of",top 76),("shown",top 77),("thing_shown",top 78),("leaf_value",top 83),("need_head",top 84),("deed",top 85),("reckoned",top 86),("reckoned_number",top 87)] (Ă [("thing_at",top 88),("names_with",top 89),("names_in_call",top 90),("node_called",top 91),("walked",top 93),("run",top 96),("run",top 96),("plain",top 98),("_law_next",top 100),("_law_place",top 101),("_law_cell_at",top 102),("_law_flat",top 103),("_law_single",top 104),("_law_bad",top 105),("_law_taken",top 106),("_law_row",top 107)] [("_law_pair",top 108),("_law_thing",top 109),("_law_text",top 110),("_law_due",top 111),("_law_alike",top 112),("law",top 113)]))))
def mel:List (μ×μ×Ë):=[("__init__","Looker.__init__",aD (top 38) 0),("look","Looker.look",aD (top 38) 1),("hold","Looker.hold",aD (top 38) 2),("hold_choice","Looker.hold_choice",aD (top 38) 3),("want","Looker.want",aD (top 38) 4),("__init__","Giver.__init__",aD (top 68) 0),("give","Giver.give",aD (top 68) 1),("give_all","Giver.give_all",aD (top 68) 2),("give_in_call","Giver.give_in_call",aD (top 68) 3),("guards_with","Giver.guards_with",aD (top 68) 4),("note","Giver.note",aD (top 68) 5),("__init__","Walker.__init__",aD (top 94) 0),("come_to","Walker.come_to",aD (top 94) 1),("value_of","Walker.value_of",aD (top 94) 2),("called","Walker.called",aD (top 94) 3)]
def gll:List (μ×Dk):=[("BODY",(.int 1)),("ASK",(.int 0)),("TAG",(.int 2)),("SAME",(.tup [(.str "same")])),("STILL",(.tup [.non,(.tup [(.str "same")]),.non])),("LEAVES",(.tup [(.str "whole"),(.str "truth"),(.str "given"),(.str "name"),(.str "fn"),(.str "self")])),("MOST_FIGURES",(.int 40)),("UNTOLD",(.tup [(.str "?")])),("ALL_STEPS",(.tup [(.str "arg"),(.str "res"),(.str "item"),(.str "one"),(.str "two")])),("MOST_LEVEL",(.int 3)),("TRUTH",(.tup [(.str "truth")])),("WHOLE",(.tup [(.str "whole")])),("MOST_DEPTH",(.int 4))]
def iq:List (μ×Dk):=[("call",(.tup [(.str "to")])),("if",(.tup [(.str "truth")])),("do",(.tup [(.str "whole"),(.str "whole")])),("at",(.tup [(.str "row"),(.str "whole")])),("size",(.tup [(.str "row")])),("one",(.tup [(.str "pair")])),("two",(.tup [(.str "pair")]))]
def vy:List (μ×Dk):=[("whole",(.tup [(.str "number")])),("truth",(.tup [(.str "truth")])),("given",(.tup [(.str "given")])),("name",(.tup [(.str "name")])),("fn",(.tup [(.str "name"),(.str "kind"),(.str "node")])),("self",(.tup [(.str "name"),(.str "name"),(.str "kind"),(.str "kind"),(.str "node")])),("call",(.tup [(.str "node"),(.str "node")])),("let",(.tup [(.str "name"),(.str "node"),(.str "node")])),("if",(.tup [(.str "node"),(.str "node"),(.str "node")])),("do",(.tup [(.str "sign"),(.str "node"),(.str "node")])),("row",(.tup [(.str "kind"),(.str "nodes")])),("at",(.tup [(.str "node"),(.str "node")])),("size",(.tup [(.str "node")])),("pair",(.tup [(.str "node"),(.str "node")])),("one",(.tup [(.str "node")])),("two",(.tup [(.str "node")])),("as",(.tup [(.str "kind"),(.str "node")])),("look",(.tup [(.str "put in"),(.str "put in"),(.str "node")]))]
def vz:List (μ×Dk):=[("whole",(.tup [])),("truth",(.tup [])),("?",(.tup [])),("to",(.tup [(.str "arg"),(.str "res")])),("row",(.tup [(.str "item")])),("pair",(.tup [(.str "one"),(.str "two")]))]
def kc:List (μ×Dk):=[("whole",(.tup [(.str "whole")])),("given",(.tup [(.str "whole")])),("size",(.tup [(.str "whole")])),("truth",(.tup [(.str "truth")]))]
def ly:List (μ×Dk):=[("call",(.tup [(.str "res")])),("at",(.tup [(.str "item")])),("one",(.tup [(.str "one")])),("two",(.tup [(.str "two")]))]
def sQ:List (μ×Dk):=[("call",(.tup [(.str "to"),(.tup [(.str "?")]),(.tup [(.str "?")])])),("at",(.tup [(.str "row"),(.tup [(.str "?")])])),("size",(.tup [(.str "row"),(.tup [(.str "?")])])),("one",(.tup [(.str "pair"),(.tup [(.str "?")]),(.tup [(.str "?")])])),("two",(.tup [(.str "pair"),(.tup [(.str "?")]),(.tup [(.str "?")])]))]
def j9:List (μ×Dk):=[("in",(.str "out")),("out",(.str "in"))]
def tbl:List (μ×List (μ×Dk)):=[("NEEDED_HEADS",iq),("FORMS",vy),("STEPS",vz),("SURE_KINDS",kc),("TAKEN_OUT",ly),("NEEDED",sQ),("OTHER_SIDE",j9)]
def T:Ns where
 gl:=gll.map (·.1)
 tb:=tbl.map (·.1)
 fn:=fnl.map (·.1)
 at_:=["kinds","wanted","outcome","head","held","guards","tag","left","together","notes","looks","numbers","giver"]
 bl:=["len","range","isinstance","list","zip","tuple","bool","str","int","reversed","all","enumerate","abs","dict","max"]
 rf:=["_law_deal"]
 me:=[("look",0,71),("hold",0,72),("hold_choice",0,73),("want",0,74),("give",3,76),("give_all",3,77),("give_in_call",3,78),("guards_with",3,79),("note",3,80),("come_to",4,82),("value_of",4,83),("called",4,84)]
 ex:=["","Ended","","",""]
 nd:=["","","Value","",""]
 nw:=["Looker","","","Giver","Walker"]
 hx:=["","Ended","","",""]
 hc:=["plain","run","run#d","made_looks"]
 xt:=["","","","",""]
 dn:=[("run",3,54)]
def vrl:List (List μ×List (μ×Nat)×List μ×List μ):=(Ă [(T.mu,T.alt,T.fc,T.oc),(T.mu,T.alt,T.fc,T.oc),(T.mu,T.alt,T.fc,T.oc),(T.mu,T.alt,T.fc,T.oc),(T.mu,T.alt,T.fc,T.oc),(T.mu,T.alt,T.fc,T.oc),(T.mu,T.alt,T.fc,T.oc),(T.mu,T.alt,T.fc,T.oc),(T.mu,T.alt,T.fc,T.oc),(T.mu,T.alt,T.fc,T.oc),(T.mu,T.alt,T.fc,T.oc),(T.mu,T.alt,T.fc,T.oc),(T.mu,T.alt,T.fc,T.oc),(T.mu,T.alt,T.fc,T.oc),(T.mu,T.alt,T.fc,T.oc),(T.mu,T.alt,T.fc,T.oc)] (Ă [(T.mu,T.alt,T.fc,T.oc),(T.mu,T.alt,T.fc,T.oc),(T.mu,T.alt,T.fc,T.oc),(T.mu,T.alt,T.fc,T.oc),(T.mu,T.alt,T.fc,T.oc),(T.mu,T.alt,T.fc,T.oc),(T.mu,T.alt,T.fc,T.oc),(T.mu,T.alt,T.fc,T.oc),(T.mu,T.alt,T.fc,T.oc),(T.mu,T.alt,T.fc,T.oc),(T.mu,T.alt,T.fc,T.oc),(T.mu,T.alt,T.fc,T.oc),(T.mu,T.alt,T.fc,T.oc),(T.mu,T.alt,T.fc,T.oc),(T.mu,T.alt,T.fc,T.oc),(T.mu,T.alt,T.fc,T.oc)] (Ă [(T.mu,T.alt,T.fc,T.oc),(T.mu,T.alt,T.fc,T.oc),(T.mu,T.alt,T.fc,T.oc),(T.mu,T.alt,T.fc,T.oc),(T.mu,T.alt,T.fc,T.oc),(T.mu,T.alt,T.fc,T.oc),(T.mu,T.alt,T.fc,T.oc),(T.mu,T.alt,T.fc,T.oc),(T.mu,T.alt,T.fc,T.oc),(T.mu,T.alt,T.fc,T.oc),(T.mu,T.alt,T.fc,T.oc),(T.mu,T.alt,T.fc,T.oc),(T.mu,T.alt,T.fc,T.oc),(T.mu,T.alt,T.fc,T.oc),(T.mu,T.alt,T.fc,T.oc),(T.mu,T.alt,T.fc,T.oc)] (Ă [(T.mu,T.alt,T.fc,T.oc),(T.mu,T.alt,T.fc,T.oc),(T.mu,T.alt,T.fc,T.oc),(T.mu,T.alt,T.fc,T.oc),(T.mu,T.alt,T.fc,T.oc),(T.mu,T.alt,T.fc,T.oc),(["#d"],T.alt,T.fc,T.oc),(T.mu,T.alt,T.fc,T.oc),(T.mu,T.alt,T.fc,T.oc),(T.mu,T.alt,T.fc,T.oc),(T.mu,T.alt,T.fc,T.oc),(T.mu,T.alt,T.fc,T.oc),(T.mu,T.alt,T.fc,T.oc),(T.mu,T.alt,T.fc,T.oc),(T.mu,T.alt,T.fc,T.oc),(T.mu,T.alt,T.fc,T.oc)] (Ă [(T.mu,T.alt,T.fc,T.oc),(T.mu,T.alt,T.fc,T.oc),(T.mu,T.alt,T.fc,T.oc),(T.mu,T.alt,T.fc,T.oc),(T.mu,T.alt,T.fc,T.oc),(T.mu,T.alt,T.fc,T.oc),(T.mu,T.alt,T.fc,T.oc),(T.mu,T.alt,T.fc,T.oc),(T.mu,T.alt,T.fc,T.oc),(T.mu,T.alt,T.fc,T.oc),(T.mu,T.alt,T.fc,T.oc),(T.mu,T.alt,T.fc,T.oc),(T.mu,T.alt,T.fc,T.oc),(T.mu,T.alt,T.fc,T.oc),(T.mu,T.alt,T.fc,T.oc),(T.mu,T.alt,T.fc,T.oc)] [(T.mu,T.alt,T.fc,T.oc),(T.mu,T.alt,T.fc,T.oc),(T.mu,T.alt,T.fc,T.oc),(T.mu,T.alt,T.fc,T.oc),(T.mu,T.alt,T.fc,T.oc)])))))
def Γ:Gm:=⟨gll.map (·.2),tbl.map (·.2),(((fnl.map fun p=>(p.1,p.1,p.2)) ++ mel).zip vrl).map fun p=>cT { T with mu:=p.2.1,alt:=p.2.2.1,fc:=p.2.2.2.1,oc:=p.2.2.2.2 } p.1.2.2,[⟨0,[0,1],70,[],[],[]⟩,⟨2,[2],0,[],[],[]⟩,⟨1,[3,4,5,6],0,[],[],[]⟩,⟨0,[7,8,9],75,[],[],[]⟩,⟨0,[10,11,12],81,[],[],[]⟩]⟩
abbrev mh:Nat:=1
abbrev um:Nat:=3
abbrev ja:Nat:=7
abbrev uo:Nat:=11
abbrev px:Nat:=12
def qD:Fn:=cT T (top 26)
abbrev kS:Nat:=13
abbrev eJ:Nat:=14
def jC:Fn:=cT T (top 28)
abbrev eH:Nat:=15
abbrev iJ:Nat:=16
abbrev ri:Nat:=17
abbrev gN:Nat:=18
abbrev kR:Nat:=19
abbrev dB:Nat:=20
abbrev bR:Nat:=21
abbrev c6:Nat:=22
abbrev xE:Nat:=23
abbrev ml:Nat:=29
def jB:Fn:=cT T (top 59)
abbrev jK:Nat:=30
abbrev dX:Nat:=36
abbrev gM:Nat:=38
abbrev eg:Nat:=39
abbrev jb:Nat:=40
abbrev bQ:Nat:=41
abbrev dY:Nat:=42
abbrev fN:Nat:=44
abbrev xD:Nat:=45
abbrev rm:Nat:=52
abbrev wi:Nat:=53
abbrev rj:Nat:=54
abbrev ng:Nat:=55
abbrev kQ:Nat:=56
abbrev jJ:Nat:=57
abbrev gL:Nat:=58
abbrev fL:Nat:=59
abbrev bc:Nat:=60
def lY:Fn:=cT T (top 105)
abbrev gK:Nat:=61
abbrev eF:Nat:=62
def bB:Fn:=cT T (top 107)
abbrev ef:Nat:=63
abbrev fM:Nat:=64
abbrev aB:Nat:=65
def kI:Fn:=cT T (top 110)
abbrev aQ:Nat:=66
abbrev ed:Nat:=67
abbrev cb:Nat:=68
abbrev re:Nat:=69
def dS:Fn:=cT T (aD (top 38) 1)
abbrev cN:Nat:=71
abbrev dW:Nat:=72
def iG:Fn:=cT T (aD (top 38) 4)
abbrev iI:Nat:=74
abbrev ao:Nat:=76
abbrev av:Nat:=77
abbrev dP:Nat:=79
abbrev cZ:Nat:=80
abbrev cH:Nat:=81
abbrev aI:Nat:=82
def bf:Fn:=cT T (aD (top 94) 2)
abbrev ah:Nat:=83
theorem A {a b:Prop} (x:a) (y:b):a∧b:=⟨x,y⟩
theorem Z:True:=Ŝ
inductive Kd where
 | whole | truth | unt | to (a b:Kd) | row (a:Kd) | pair (a b:Kd)
 deriving DecidableEq
def Kd.dep:Kd→Nat
 | .to a b=>1+max a.dep b.dep
 | .pair a b=>1+max a.dep b.dep
 | .row a=>1+a.dep
 | _=>1
def Sm (p:Int):Prop:=0≤p∧p<100000
def Kd.toD:Kd→D
 | .whole=>.tup [.str "whole"]
 | .truth=>.tup [.str "truth"]
 | .unt=>.tup [.str "?"]
 | .to a b=>.tup [.str "to",a.toD,b.toD]
 | .row a=>.tup [.str "row",a.toD]
 | .pair a b=>.tup [.str "pair",a.toD,b.toD]
inductive T68 where
 | whole (p v:Int) | truth (p:Int) (b:Bool) | fn (p:Int) (x:μ) (k:Kd) (q:Int) | nam (p:Int) (x:μ) (k:Kd)
 | as_ (p:Int) (k:Kd) (a:T68) | row (p:Int) (k:Kd) (ts:List T68) | pair (p:Int) (a b:T68)
abbrev nmD (p:Int) (x:μ):D:=.tup [.str "name",.int p,.str x]
mutual
noncomputable def T68.toD:T68→D
 | .whole p v=>.tup [.str "whole",.int p,.int v]
 | .truth p b=>.tup [.str "truth",.int p,.bl b]
 | .fn p x k q=>.tup [.str "fn",.int p,.str x,k.toD,nmD q x]
 | .nam p x _=>nmD p x
 | .as_ p k a=>.tup [.str "as",.int p,k.toD,a.toD]
 | .row p k ts=>.tup [.str "row",.int p,k.toD,.tup (toDs ts)]
 | .pair p a b=>.tup [.str "pair",.int p,a.toD,b.toD]
noncomputable def toDs:List T68→List D
 | []=>[]
 | t :: r=>t.toD :: toDs r
end
def T68.pl:T68→Int
 | .whole p _=>p | .truth p _=>p | .fn p _ _ _=>p | .nam p _ _=>p | .as_ p _ _=>p | .row p _ _=>p | .pair p _ _=>p
def ay:T68→List T68
 | .fn _ x k q=>[.nam q x k]
 | .as_ _ _ a=>[a]
 | .row _ _ ts=>ts
 | .pair _ a b=>[a,b]
 | _=>[]
def bnd:T68→Nat→List μ
 | .fn _ x _ _,_=>[x]
 | _,_=>[]
def wks:T68→List Kd
 | .fn _ _ k _=>[k]
 | .as_ _ k _=>[k]
 | .row _ k _=>[k]
 | _=>[]
def own:T68→Prop
 | .row _ _ ts=>ts.length≤4
 | _=>True
def T68.isN:T68→Bool
 | .nam _ _ _=>true | _=>false
def T68.isF:T68→Bool
 | .fn _ _ _ _=>true | _=>false
def Ok:Nat→T68→Prop
 | 0,_=>False
 | n+1,t=>own t∧Sm t.pl∧∀ k∈ay t,Ok n k∧(k.isN=true→t.isF=true)
theorem Bp (t:T68):ixD t.toD (.int 1)=some (.int t.pl):=by cases t <;> rfl
theorem rT (t:T68) (st:List O):look st t.toD=t.toD:=by cases t <;> rfl
theorem c9 (t:T68) (st:List O):ixD (look st t.toD) (.int 1)=some (.int t.pl):=by rw [rT];exact Bp t
theorem lD:∀ ts:List T68,toDs ts=ts.map T68.toD
 | []=>rfl
 | t :: r=>by unfold toDs;rw [lD r];rfl
theorem gQ {t:T68} (h:own t):(ay t).length≤4:=by
 cases t with
 | row p kd ts=>exact h
 | _=>exact Ο rfl
theorem hU (t:T68) (n:Nat) (st:List O):aa Γ (n+3) uo [t.toD] st = .ok (.lst (toDs (ay t))) st:=by
 cases t <;> kernel_rfl
def sts (l:List μ):List D:=l.map D.str
theorem yG (t:T68) (i:Nat) (k:T68) (h:(ay t)[i]? = some k) (n:Nat) (st:List O):aa Γ (n+1) iJ [t.toD,.int i] st = .ok (.tup (sts (bnd t i))) st:=by
 cases t <;> kernel_rfl
theorem CK (t:T68) (n:Nat) (st:List O):aa Γ (n+3) px [t.toD] st = .ok (.lst ((wks t).map Kd.toD)) st:=by
 cases t <;> kernel_rfl
theorem nh (k:Kd) (st:List O):look st k.toD=k.toD:=by cases k <;> rfl
theorem u8 (a b:Nat):L2.Bw.maxD 0 [(a:Int),(b:Int)]=((max a b:Nat):Int):=by
 show (if (b:Int)>(a:Int) then (b:Int) else (a:Int))=_
 by_cases h:(b:Int)>(a:Int)
 ·rw [ZZ h];have:max a b=b:=Nat.max_eq_right (by omega);rw [this]
 ·rw [ZY h];have:max a b=a:=Nat.max_eq_left (by omega);rw [this]
theorem kin (k:Kd) (l:List D) (h:k.toD = .tup (D.str h0 :: l)) (n:Nat) (st:List O):aa Γ (n+1) mh [k.toD] st = .ok (.lst l) st:=by
 cases k <;> (cases h;kernel_rfl)
theorem ju (m:Nat):opD .add (.int 1) (.int (m:Nat))=some (.int ((1+m:Nat):Int)):=by
 show some (D.int (1+(m:Int)))=_;congr 2
theorem u9 (a:Nat):biD .max0 [.lst [.int (a:Nat)],.int 0]=some (.int (a:Nat)):=rfl
theorem nF (a b:Nat):biD .max0 [.lst [.int (a:Nat),.int (b:Nat)],.int 0]=some (.int ((max a b:Nat):Int)):=by
 show some (D.int (L2.Bw.maxD 0 [(a:Int),(b:Int)]))=_;rw [u8]
theorem depth:∀ (k:Kd) (N:Nat),k.dep+1≤N→∀ st,aa Γ N um [k.toD] st = .ok (.int (k.dep:Nat)) st
 | .whole,N,h,st=>by obtain ⟨n,rfl⟩:∃ n,N=n+2:=⟨N - 2,by unfold Kd.dep at h;omega⟩;kernel_rfl
 | .truth,N,h,st=>by obtain ⟨n,rfl⟩:∃ n,N=n+2:=⟨N - 2,by unfold Kd.dep at h;omega⟩;kernel_rfl
 | .unt,N,h,st=>by obtain ⟨n,rfl⟩:∃ n,N=n+2:=⟨N - 2,by unfold Kd.dep at h;omega⟩;kernel_rfl
 | .pair a b,N,h,st=>by
   unfold Kd.dep at h
   obtain ⟨n,rfl⟩:∃ n,N=n+2:=⟨N - 2,by omega⟩
   exact (ac false (aX 0 (kin (.pair a b) [a.toD,b.toD] rfl n st) (aX 0 (depth a (n+1) (by omega) st) (aX 0 (depth b (n+1) (by omega) st) (aX 1 (nF a.dep b.dep) (aX 0 (ju (max a.dep b.dep)) aZ))))) (by kernel_rfl))
 | .row a,N,h,st=>by
   unfold Kd.dep at h
   obtain ⟨n,rfl⟩:∃ n,N=n+2:=⟨N - 2,by omega⟩
   have i1:=depth a (n+1) (by omega) st
   exact gB false [.r (.ok (.lst [a.toD]) st),.r (.ok (.int (a.dep:Nat)) st),.o 0 (.int (a.dep:Nat)),.o 0 (.int ((1+a.dep:Nat):Int))] (kin (.row a) [a.toD] rfl n st<|>i1<|>u9 a.dep<|>ju a.dep<|>Z) (by kernel_rfl)
 | .to a b,N,h,st=>by
   unfold Kd.dep at h
   obtain ⟨n,rfl⟩:∃ n,N=n+2:=⟨N - 2,by omega⟩
   have i1:=depth a (n+1) (by omega) st
   have i2:=depth b (n+1) (by omega) st
   exact gB false [.r (.ok (.lst [a.toD,b.toD]) st),.r (.ok (.int (a.dep:Nat)) st),.r (.ok (.int (b.dep:Nat)) st),.o 0 (.int ((max a.dep b.dep:Nat):Int)),.o 0 (.int ((1+max a.dep b.dep:Nat):Int))] (kin (.to a b) [a.toD,b.toD] rfl n st<|>i1<|>i2<|>nF a.dep b.dep<|>ju (max a.dep b.dep)<|>Z) (by kernel_rfl)
theorem cS:∀ (k:Kd) (N:Nat),k.dep+2≤N→∀ st,aa Γ N ja [k.toD,k.toD] st = .ok .non st
 | k,N,h,st=>by
   obtain ⟨n,rfl⟩:∃ n,N=n+3:=⟨N - 3,by cases k <;> (unfold Kd.dep at h;omega)⟩
   cases k with
   | whole=>kernel_rfl
   | truth=>kernel_rfl
   | unt=>kernel_rfl
   | row a=>
     unfold Kd.dep at h
     exact (ac false (aC (aC (aC (aX 0 (cS a (n+2) (by omega) st) aZ)))) (by kernel_rfl))
   | to a b=>
     unfold Kd.dep at h
     exact (ac false (aC (aC (aC (aX 0 (cS a (n+2) (by omega) st) (aX 0 (cS b (n+2) (by omega) st) aZ))))) (by kernel_rfl))
   | pair a b=>
     unfold Kd.dep at h
     exact (ac false (aC (aC (aC (aX 0 (cS a (n+2) (by omega) st) (aX 0 (cS b (n+2) (by omega) st) aZ))))) (by kernel_rfl))
abbrev dsK (fs:List Kd):List D:=fs.map Kd.toD
theorem qy (f:D→D→Option Bool):∀ l l':List Kd,(∀ a∈l,∀ b:Kd,f a.toD b.toD=some (decide (a=b)))→∃ x,dk f (dsK l) (dsK l')=some x∧(x && l.length == l'.length)=decide (l=l')
 | [],l',h=>⟨true,by cases l' <;> rfl,by cases l' <;> simp⟩
 | a :: l,[],h=>⟨true,rfl,by simp⟩
 | a :: l,b :: l',h=>by
   obtain ⟨x,h1,h2⟩:=qy f l l' (fun c hc=>h c (by simp [hc]))
   have h3:=h a (by simp) b
   refine ⟨decide (a=b) && x,?_,?_⟩
   ·show (match f a.toD b.toD with | none=>none | some x=>(dk f (dsK l) (dsK l')).map (x && ·))=_
    rw [h3,h1];rfl
   ·by_cases e:a=b
    ·subst e
     have:((a :: l).length == (a :: l').length)=(l.length == l'.length):=by simp
     rw [this];simp only [decide_true,Ec,h2];simp
    ·simp [e]
def Kd.hd:Kd→μ
 | .whole=>"whole" | .truth=>"truth" | .to _ _=>"to" | .row _=>"row" | .pair _ _=>"pair" | .unt=>"?"
def Kd.ps:Kd→List Kd
 | .to a b=>[a,b] | .pair a b=>[a,b] | .row a=>[a] | _=>[]
theorem Kd.toD_eq (a:Kd):a.toD = .tup (.str a.hd :: dsK a.ps):=by cases a <;> rfl
theorem Kd.ps_dep {a b:Kd} (h:b∈a.ps):b.dep+1≤a.dep:=by
 cases a with
 | to c d=>rcases π.mp h with rfl | h;(show b.dep+1≤1+max b.dep d.dep;omega);(rw [η.mp h];show d.dep+1≤1+max c.dep d.dep;omega)
 | pair c d=>rcases π.mp h with rfl | h;(show b.dep+1≤1+max b.dep d.dep;omega);(rw [η.mp h];show d.dep+1≤1+max c.dep d.dep;omega)
 | row c=>rw [η.mp h];show c.dep+1≤1+c.dep;omega
 | _=>cases h
theorem Kd.ext {a b:Kd}:a=b↔a.hd=b.hd∧a.ps=b.ps:=by
 constructor
 ·intro h;subst h;exact ⟨rfl,rfl⟩
 ·rintro ⟨h1,h2⟩
  cases a <;> cases b <;> first | (cases h2;done) | (cases h2;rfl) | (exact ZX h1 (by decide +kernel)) | (exact ZX (show ("to":μ) = "pair" from h1) (by decide +kernel)) | (exact ZX (show ("pair":μ) = "to" from h1) (by decide +kernel))
theorem oH (n:Nat) (x y:μ):eqv n (.str x) (.str y)=some (decide (x=y)):=by
 have:eqv n (.str x) (.str y)=some (x == y):=by cases n <;> rfl
 rw [this]
 by_cases h:x=y
 ·subst h;simp
 ·simp [h]
theorem rq:∀ (n:Nat) (a:Kd),a.dep≤n→∀ b:Kd,eqv n a.toD b.toD=some (decide (a=b))
 | 0,a,h,b=>by cases a <;> (unfold Kd.dep at h;omega)
 | n+1,a,h,b=>by
   obtain ⟨x,h1,h2⟩:=qy (eqv n) a.ps b.ps (fun c hc d=>rq n c (by have:=Kd.ps_dep hc;omega) d)
   rw [a.toD_eq,b.toD_eq]
   show (match eqv n (.str a.hd) (.str b.hd) with | none=>none | some x=>(dk (eqv n) (dsK a.ps) (dsK b.ps)).map (x && ·)).map (· && ((D.str a.hd :: dsK a.ps).length == (D.str b.hd :: dsK b.ps).length))=_
   rw [oH,h1]
   show some ((decide (a.hd=b.hd) && x) && ((D.str a.hd :: dsK a.ps).length == (D.str b.hd :: dsK b.ps).length))=_
   have e:((D.str a.hd :: dsK a.ps).length == (D.str b.hd :: dsK b.ps).length)=(a.ps.length == b.ps.length):=by simp [dsK]
   rw [e,Bool.and_assoc,h2]
   congr 1
   by_cases q:a=b
   ·subst q;simp
   ·rw [ZV q]
    by_cases q1:a.hd=b.hd
    ·have:a.ps≠b.ps:=fun z=>q (Kd.ext.mpr ⟨q1,z⟩)
     simp [this]
    ·simp [q1]
theorem A3 (k w:Kd) (h:k.dep≤55) (st:List O):opD .ne (look st k.toD) (look st w.toD)=some (.bl (!decide (k=w))):=by
 rw [nh,nh]
 show (eqT k.toD w.toD).map (fun x=>D.bl (!x))=_
 rw [qw (by cases k <;> rfl),rq 55 k h w];rfl
def Cs (k w:Kd):Prop:=k=w∨k = .unt∨w = .unt
theorem yR {k w:Kd} (h:Cs k w) (N:Nat) (hN:k.dep+2≤N) (st:List O):aa Γ N ja [k.toD,w.toD] st = .ok .non st:=by
 rcases h with rfl | rfl | rfl
 ·exact cS k N hN st
 ·obtain ⟨n,rfl⟩:∃ n,N=n+3:=⟨N - 3,by unfold Kd.dep at hN;omega⟩
  kernel_rfl
 ·obtain ⟨n,rfl⟩:∃ n,N=n+3:=⟨N - 3,by cases k <;> (unfold Kd.dep at hN;omega)⟩
  cases k <;> kernel_rfl
abbrev AlG (β:Type):=List (Key×β)
abbrev Al:=AlG Kd
def bb {β:Type} (l:AlG β) (k:Key) (v:β):AlG β:=if (l.any fun p=>decide (p.1=k))=true then l.map (fun p=>if p.1=k then (p.1,v) else p) else l ++ [(k,v)]
def ax {β:Type}:AlG β→Key→Option β
 | [],_=>none
 | p :: r,k=>if p.1=k then some p.2 else ax r k
def ksA {β:Type} (l:AlG β):List Key:=l.map (·.1)
def dsF {β:Type} (f:β→D) (l:AlG β):List D:=l.map fun p=>f p.2
abbrev dsA (l:Al):List D:=dsF Kd.toD l
abbrev dA (l:Al):D:=.dic (ksA l) (dsA l)
abbrev oA (l:Al):O:=.dic (ksA l) (dsA l)
theorem wF {β:Type} (f:β→D) (k:Key) (v:β):∀ l:AlG β,iN (ksA l) (dsF f l) k (f v)=dsF f (l.map fun p=>if p.1=k then (p.1,v) else p)
 | []=>rfl
 | p :: r=>by
   show (if p.1=k then f v else f p.2) :: iN (ksA r) (dsF f r) k (f v)=f (if p.1=k then (p.1,v) else p).2 :: dsF f _
   rw [wF f k v r]
   by_cases h:p.1=k <;> simp [h]
theorem xL {β:Type} (k:Key) (v:β) (l:AlG β):ksA (l.map fun p=>if p.1=k then (p.1,v) else p)=ksA l:=by
 unfold ksA
 rw [Į]
 refine C7 fun p _=>?_
 show (if p.1=k then (p.1,v) else p).1=p.1
 by_cases h:p.1=k <;> simp [h]
theorem wE {β:Type} (f:β→D) (l:AlG β) (k:Key) (v:β):bV (ksA l) (dsF f l) k (f v)=(ksA (bb l k v),dsF f (bb l k v)):=by
 unfold bV bb
 have e:((ksA l).any fun q=>decide (q=k))=l.any fun p=>decide (p.1=k):=by unfold ksA;rw [List.any_map];rfl
 rw [e]
 by_cases h:(l.any fun p=>decide (p.1=k))=true
 ·rw [ZZ h,ZZ h,wF,xL]
 ·rw [ZY h,ZY h];simp [ksA,dsF]
theorem mY {β:Type} (f:β→D) (k:Key):∀ l:AlG β,cg (ksA l) (dsF f l) k=(ax l k).map f
 | []=>rfl
 | p :: r=>by
   show (if p.1=k then some (f p.2) else cg (ksA r) (dsF f r) k)=(if p.1=k then some p.2 else ax r k).map f
   rw [mY f k r]
   by_cases h:p.1=k <;> simp [h]
theorem qM (k:Key) (l:Al):cg (ksA l) (dsA l) k=(ax l k).map Kd.toD:=mY _ k l
theorem gm {β:Type} (l:AlG β) (k:Key) (v:β):(bb l k v).length≤l.length+1:=by
 unfold bb
 split
 ·rw [Θ];omega
 ·simp
theorem sD {β:Type} (f:β→D) (l:AlG β) (d:D) (k:Key) (hk:bL d=some k) (v:β) (h:l.length<100000):iL (.dic (ksA l) (dsF f l)) d (f v)=some (.dic (ksA (bb l k v)) (dsF f (bb l k v))):=by
 show (bL d).bind (fun k=>if (ksA l).length<100000 then some (D.dic (bV (ksA l) (dsF f l) k (f v)).1 (bV (ksA l) (dsF f l) k (f v)).2) else none)=_
 rw [hk]
 show (if (ksA l).length<100000 then some (D.dic (bV (ksA l) (dsF f l) k (f v)).1 (bV (ksA l) (dsF f l) k (f v)).2) else none)=_
 rw [ZZ (by unfold ksA;rw [Θ];exact h),wE]
theorem yS (l:Al) (x:μ) (v:Kd) (h:l.length<100000):iL (dA l) (.str x) v.toD=some (dA (bb l (.inr x) v)):=sD Kd.toD l (.str x) _ rfl v h
theorem sE (l:Al) (p:Int) (v:Kd) (h:l.length<100000):eQ (oA l) (.int p) v.toD=some (oA (bb l (.inl p) v)):=by
 show (if (ksA l).length<100000 then some (O.dic (bV (ksA l) (dsA l) (.inl p) v.toD).1 (bV (ksA l) (dsA l) (.inl p) v.toD).2) else none)=_
 rw [ZZ (by unfold ksA;rw [Θ];exact h),wE Kd.toD]
theorem nsh (t:T68) (k:Kd) (h:k.dep≤4) (N:Nat) (hN:k.dep+2≤N) (st:List O):aa Γ N gN [t.toD,k.toD] st = .ok .non st:=by
 obtain ⟨n,rfl⟩:∃ n,N=n+1:=⟨N - 1,by omega⟩
 have d:=depth k n (by omega) st
 have e:decide (((k.dep:Nat):Int)>4)=false:=ZV (by omega)
 exact (ac false (aX 0 (d) (aX 1 (e) aZ)) (by kernel_rfl))
theorem nsm (x t:T68) (k w:Kd) (h:Cs k w) (N:Nat) (hN:k.dep+3≤N) (st:List O):aa Γ N kR [x.toD,k.toD,t.toD,w.toD] st = .ok .non st:=by
 obtain ⟨n,rfl⟩:∃ n,N=n+1:=⟨N - 1,by omega⟩
 have d:=yR h n (by omega) st
 exact (ac false (aX 0 (d) aZ) (by kernel_rfl))
theorem dM {β:Type} (l:AlG β) (k:Key) (v:β) (x:Key):ax (bb l k v) x=if k=x then some v else ax l x:=by
 have rep:∀ l:AlG β,(l.any fun p=>decide (p.1=k))=true→ax (l.map (fun p=>if p.1=k then (p.1,v) else p)) x=if k=x then some v else ax l x:=by
  intro l
  induction l with
  | nil=>intro h;cases h
  | cons p r ih=>
    intro h
    show (if (if p.1=k then (p.1,v) else p).1=x then some (if p.1=k then (p.1,v) else p).2 else ax (r.map _) x)=if k=x then some v else if p.1=x then some p.2 else ax r x
    by_cases hk:p.1=k
    ·simp only [hk,if_true]
     by_cases hx:k=x
     ·simp [hx]
     ·simp only [hx,if_false]
      by_cases hr:(r.any fun p=>decide (p.1=k))=true
      ·rw [ih hr,ZY hx]
      ·have:∀ q∈r,q.1≠k:=fun q hq e=>hr (Ő.mpr ⟨q,hq,by simpa using e⟩)
       have e:r.map (fun p=>if p.1=k then (p.1,v) else p)=r:=by
        conv=>rhs;rw [← List.map_id r]
        refine C7 fun q hq=>?_
        rw [ZY (this q hq)];rfl
       rw [e]
    ·simp only [hk,if_false]
     have hr:(r.any fun p=>decide (p.1=k))=true:=by simpa [hk] using h
     rw [ih hr]
     by_cases hx:k=x
     ·subst hx;simp [hk]
     ·simp [hx]
 have app:∀ l:AlG β,(l.any fun p=>decide (p.1=k))=false→ax (l ++ [(k,v)]) x=if k=x then some v else ax l x:=by
  intro l
  induction l with
  | nil=>intro h;show (if k=x then some v else none)=_;rfl
  | cons p r ih=>
    intro h
    have h2:p.1≠k∧(r.any fun p=>decide (p.1=k))=false:=by simpa using h
    show (if p.1=x then some p.2 else ax (r ++ [(k,v)]) x)=if k=x then some v else if p.1=x then some p.2 else ax r x
    rw [ih h2.2]
    by_cases hx:k=x
    ·subst hx;simp [h2.1]
    ·simp [hx]
 unfold bb
 by_cases h:(l.any fun p=>decide (p.1=k))=true
 ·rw [ZZ h];exact rep l h
 ·rw [ZY h];exact app l (D8.mpr h)
theorem vo {P:Kd→Prop} {l:Al} {k:Key} {v:Kd} (h:∀ p∈l,P p.2) (hv:P v):∀ p∈bb l k v,P p.2:=by
 unfold bb
 split
 ·intro p hp
  obtain ⟨q,hq,rfl⟩:=ϱ.mp hp
  by_cases c:q.1=k
  ·rw [ZZ c];exact hv
  ·rw [ZY c];exact h q hq
 ·intro p hp
  rcases ë.mp hp with hp | hp
  ·exact h p hp
  ·rw [η.mp hp];exact hv
def inN (t:T68) (N:Al):Al:=match t with
 | .fn _ x k _=>bb N (.inr x) k
 | _=>N
theorem xz {t:T68} {N:Al}:(inN t N).length≤N.length+1:=by
 cases t with
 | fn p x k b=>exact gm N (.inr x) k
 | _=>exact Ñ _
theorem bw (t:T68) (i:Nat) (fs:List Kd) (N:Al) (hN:N.length+1<100000) (n:Nat) (st:List O):aa Γ (n+1) dB [t.toD,.int i,.lst (dsK fs),dA N] st = .ok (dA (inN t N)) st:=by
 cases t with
 | fn p x k b=>exact (ac false (aX 6 (yS N x k (by omega)) aZ) (by kernel_rfl))
 | _=>kernel_rfl
abbrev ls (kd wd:Al):List O:=[.ins 0 [.ref 1,.ref 2],oA kd,oA wd]
theorem oK (t:T68) (k:Kd) (kd wd:Al) (h:wd.length<100000) (n:Nat):aa Γ (n+1) iI [.ref 0,t.toD,k.toD] (ls kd wd) = .ok .non (ls kd (bb wd (.inl t.pl) k)):=by
 have e:exS Γ (aa Γ n) (aH Γ n) iG.body ⟨[some (.ref 0),some t.toD,some k.toD],[],ls kd wd⟩ = .nx ⟨[some (.ref 0),some t.toD,some k.toD],[],ls kd (bb wd (.inl t.pl) k)⟩:=by
  have e1:ev Γ (aa Γ n) (aH Γ n) true (.ix (.v 1) (.c (.int 1))) ⟨[some (.ref 0),some t.toD,some k.toD],[],ls kd wd⟩ = .ok (.int t.pl) ⟨[some (.ref 0),some t.toD,some k.toD],[],ls kd wd⟩:=(fQ false (aX 0 (c9 t (ls kd wd)) aZ) (by kernel_rfl))
  exact nZ (o:=oA wd) (n:=2) rfl rfl e1 rfl (sE wd t.pl k h)
 exact (ac false (aX 0 (e) aZ) (by kernel_rfl))
theorem uv {α:Type} (l:List α) (x:α):atI (l ++ [x]) (-1)=some x:=by
 show (ixN (l ++ [x]).length (-1)).bind _=_
 have e:ixN (l ++ [x]).length (-1)=some l.length:=by
  unfold ixN
  rw [ω,ϊ]
  rw [ZY (by decide),ZZ (by omega)]
  congr 1;omega
 rw [e]
 show (l ++ [x])[l.length]? = some x
 simp
theorem AJ (fs:List Kd) (i:Nat) (h:fs.length=i+1):ixD (.lst (dsK fs)) (.int (-1))=some (fs.getLastD .whole).toD:=by
 obtain ⟨l,x,rfl⟩:∃ l x,fs=l ++ [x]:=⟨_,_,(ĩ (List.ne_nil_of_length_eq_add_one h)).symm⟩
 have e:(l ++ [x]).getLastD .whole=x:=by simp
 rw [e]
 show atI (dsK (l ++ [x])) (-1)=_
 unfold dsK
 rw [Õ]
 exact uv _ _
theorem gY:∀ k:Kd,noL k.toD=true
 | .whole=>rfl
 | .truth=>rfl
 | .row a=>by show (true && (noL a.toD && true))=true;rw [gY a];rfl
 | .to a b=>by show (true && (noL a.toD && (noL b.toD && true)))=true;rw [gY a,gY b];rfl
 | .pair a b=>by show (true && (noL a.toD && (noL b.toD && true)))=true;rw [gY a,gY b];rfl
 | .unt=>rfl
theorem jU:∀ l:Al,fT (dsA l)=true
 | []=>rfl
 | p :: r=>by show (noL p.2.toD && fT (dsA r))=true;rw [gY,jU r];rfl
theorem mz (d:D) (h:noL d=true) (kd wd:Al):(noL d && (ls kd wd).all k7)=true:=by
 rw [h]
 show (true && (true && (fT (dsA kd) && (fT (dsA wd) && true))))=true
 rw [jU,jU];rfl
abbrev wB:S:=cQ dS.body
abbrev kB:S:=cQ (tlS 1 dS.body)
theorem oN (t:T68) (N:Al) (m:Nat) (S:List O):∀ (ks:List Kd) (e:Option D),(∀ k∈ks,k.dep≤4)→6≤m→∃ e':Option D,aT (cM Γ (aa Γ m) (aH Γ m) [3] true wB) (ks.map Kd.toD) ⟨[some (.ref 0),some t.toD,some (dA N),e,none,none,none,none],[],S⟩ = .nx ⟨[some (.ref 0),some t.toD,some (dA N),e',none,none,none,none],[],S⟩
 | [],e,_,_=>⟨e,rfl⟩
 | k :: r,e,h,hm=>by
   have h4:=h k (by simp)
   have n1:=nsh t k h4 m (by omega) S
   obtain ⟨e',h2⟩:=oN t N m S r (some k.toD) (fun k hk=>h k (by simp [hk])) hm
   exact ⟨e',aW (s1:=⟨[some (.ref 0),some t.toD,some (dA N),some k.toD,none,none,none,none],[],S⟩) (aA rfl (b9 false (aX 0 (n1) aZ) (by kernel_rfl))) h2⟩
def T68.word:T68→μ
 | .whole _ _=>"whole" | .truth _ _=>"truth" | .fn _ _ _ _=>"fn" | .nam _ _ _=>"name" | .as_ _ _ _=>"as" | .row _ _ _=>"row" | .pair _ _ _=>"pair"
theorem A6 (t:T68):opD .eq (.str t.word) (.str "if")=some (.bl false):=by cases t <;> rfl
theorem oM (t:T68) (S:List O):ixD (look S t.toD) (.int 0)=some (.str t.word):=by rw [rT];cases t <;> rfl
theorem ue (t y:T68) (fs:List Kd) (k w:Kd) (cs:Cs k w) (kd wd:Al) (n:Nat) (wk:∀ S,aa Γ (n+8) bR [t.toD,.lst (dsK (fs ++ [k]))] S = .ok w.toD S) (hd:k.dep≤4) (hw:wd.length<100000):aa Γ (n+9) dW [.ref 0,t.toD,y.toD,.lst (dsK (fs ++ [k]))] (ls kd wd) = .ok .non (ls kd (bb wd (.inl y.pl) w)):=by
 have la:=AJ (fs ++ [k]) fs.length (by simp)
 rw [show (fs ++ [k]).getLastD .whole=k by simp] at la
 have h0:=oM t (ls kd wd)
 have w0:=wk (ls kd wd)
 have ns:=nsm y t k w cs (n+8) (by omega) (ls kd wd)
 have w1:=oK y w kd wd hw (n+7)
 have e1:=A6 t
 exact (ac false (aX 0 (h0) (aX 0 (e1) (aX 0 (w0) (aX 0 (la) (aX 0 (ns) (aX 0 (w1) aZ)))))) (by kernel_rfl))
def kof:T68→Kd
 | .whole ..=>.whole | .truth ..=>.truth | .fn _ _ k _=>.to k k | .nam _ _ k=>k | .as_ _ k _=>k | .row _ k _=>.row k | .pair _ a b=>.pair (kof a) (kof b)
def wnt:T68→Nat→Kd
 | .fn _ _ k _,_=>k
 | .as_ _ k _,_=>k
 | .row _ k _,_=>k
 | .pair _ a _,0=>kof a
 | .pair _ _ b,_=>kof b
 | _,_=>.unt
inductive Tk:T68→Prop
 | mk {t:T68} (hw:∀ k∈wks t,k.dep≤4) (hd:(kof t).dep≤4) (hk:∀ (i:Nat) (y:T68),(ay t)[i]? = some y→Tk y) (hc:∀ (i:Nat) (y:T68),(ay t)[i]? = some y→Cs (kof y) (wnt t i)):Tk t
theorem Tk.d {t:T68} (h:Tk t):(kof t).dep≤4:=by cases h;assumption
def ai:Nat→T68→List Int
 | 0,_=>[]
 | n+1,t=>t.pl :: (ay t).flatMap (ai n)
def RW:Nat→T68→Al→Al→Prop
 | 0,_,_,_=>True
 | q+1,t,a,b=>∀ i y,(ay t)[i]? = some y→ax a (.inl y.pl)=some (kof y)∧ax b (.inl y.pl)=some (wnt t i)∧RW q y a b
structure Gr (a a':Al) (ps:List Int):Prop where
 kp:∀ x,(ax a x).isSome=true→(ax a' x).isSome=true
 hp:∀ p∈ps,(ax a' (.inl p)).isSome=true
 d4:(∀ p∈a,p.2.dep≤4)→∀ p∈a',p.2.dep≤4
 u:∀ p,p ∉ ps→ax a' (.inl p)=ax a (.inl p)
 ln:a'.length≤a.length+ps.length
theorem l9 {a:Al} {q p:Int} {v:Kd} (h:q≠p):ax (bb a (.inl q) v) (.inl p)=ax a (.inl p):=by rw [dM,ZY fun e=>h (by cases e;rfl)]
theorem jG {a:Al} {q:Int} {v:Kd}:ax (bb a (.inl q) v) (.inl q)=some v:=by rw [dM,ZZ rfl]
theorem Gr.refl {a:Al}:Gr a a []:=⟨fun _ h=>h,fun p h=>(nomatch h),id,fun _ _=>rfl,by simp⟩
theorem Gr.trans {a b c:Al} {ps qs:List Int} (h:Gr a b ps) (h':Gr b c qs):Gr a c (ps ++ qs):=⟨fun x hx=>h'.kp x (h.kp x hx),fun p hp=>(ë.mp hp).elim (fun hp=>h'.kp _ (h.hp p hp)) (h'.hp p),fun d=>h'.d4 (h.d4 d),fun p hp=>by
 rw [ë,not_or] at hp
 rw [h'.u p hp.2,h.u p hp.1],by have:=h.ln;have:=h'.ln;rw [ω];omega⟩
theorem Gr.own {a b:Al} {ps:List Int} (h:Gr a b ps) (p:Int) {v:Kd} (hv:v.dep≤4):Gr a (bb b (.inl p) v) (p :: ps):=by
 refine ⟨fun x hx=>?_,fun q hq=>?_,fun d=>vo (P:=fun k=>k.dep≤4) (h.d4 d) hv,fun q hq=>?_,by have:=h.ln;have:=gm b (.inl p) v;rw [Η];omega⟩
 ·rw [dM];split
  ·rfl
  ·exact h.kp x hx
 ·rw [dM];split
  ·rfl
  ·rename_i c
   exact h.hp q ((π.mp hq).resolve_left fun e=>c (by rw [e]))
 ·rw [π,not_or] at hq
  rw [l9 (ϥ hq.1)];exact h.u q hq.2
def Un (a a1:Al) (ps:List Int):Prop:=∀ p,p ∉ ps→ax a1 (.inl p)=ax a (.inl p)
theorem eP {n:Nat} {t:T68} (h:1≤n):t.pl∈ai n t:=by
 obtain ⟨n,rfl⟩:∃ k,n=k+1:=⟨n - 1,by omega⟩
 exact κ
theorem Ok.pos {n:Nat} {t:T68} (h:Ok n t):1≤n:=by
 cases n with
 | zero=>exact h.elim
 | succ n=>omega
theorem RW.un {a b a1 b1:Al} {ps qs:List Int} (u:Un a a1 ps) (v:Un b b1 qs):∀ {q:Nat} {t:T68},Ok q t→RW q t a b→(∀ p∈ai q t,p ∉ ps∧p ∉ qs)→RW q t a1 b1
 | 0,_,o,_,_=>o.elim
 | q+1,t,o,h,hp=>fun i y hy=>by
   obtain ⟨g1,g2,g3⟩:=h i y hy
   have ym:=ο hy
   have m:∀ p∈ai q y,p∈ai (q+1) t:=fun p hp=>ι _ (ϻ.mpr ⟨y,ym,hp⟩)
   have yo:=(o.2.2 y ym).1
   have yp:=m y.pl (eP yo.pos)
   exact ⟨(u _ (hp _ yp).1).trans g1,(v _ (hp _ yp).2).trans g2,g3.un u v yo fun p h=>hp p (m p h)⟩
structure LkE (m:Nat) (t:T68) (q:Nat) (N a b a' b':Al):Prop where
 e:aa Γ m cN [.ref 0,t.toD,dA N] (ls a b) = .ok (kof t).toD (ls a' b')
 k:ax a' (.inl t.pl)=some (kof t)
 w:RW q t a' b'
 r:Gr a a' (ai q t)
 v:Un b b' (ai q t).tail
 lb:b'.length+2≤b.length+2 * (ai q t).length
def kst (t:T68) (N:Al) (e3:Option D) (fs:List Kd) (e5 e6:Option D) (kd wd:Al):Sta:=⟨[some (.ref 0),some t.toD,some (dA N),e3,some (.lst (dsK fs)),e5,e6,none],[4],ls kd wd⟩
section
variable {m q:Nat} {t y:T68} {N a b a' b':Al} {w k:Kd} {fs:List Kd}
abbrev kG (n:Nat):D→Sta→am:=cM Γ (aa Γ (n+10)) (aH Γ (n+10)) [5,6] false kB
theorem ut {i:Nat} {e3 e5 e6:Option D} {N' a1 b1 b2:Al} (hi:fs.length=i) (hb:aa Γ (m+10) dB [t.toD,.int i,.lst (dsK fs),dA N] (ls a b) = .ok (dA N') (ls a b)) (hy:aa Γ (m+10) cN [.ref 0,y.toD,dA N'] (ls a b) = .ok k.toD (ls a1 b1)) (hh:aa Γ (m+10) dW [.ref 0,t.toD,y.toD,.lst (dsK (fs ++ [k]))] (ls a1 b1) = .ok .non (ls a1 b2)) (hl:i<100000):kG m (.tup [.int i,y.toD]) (kst t N e3 fs e5 e6 a b) = .nx (kst t N e3 (fs ++ [k]) (some (.int i)) (some y.toD) a1 b2):=by
 have nl:=mz (dA N') (jU _) a b
 have l0:decide ((dsK fs).length<100000)=true:=ZW (by rw [Θ];omega)
 have ek:dsK fs ++ [k.toD]=dsK (fs ++ [k]):=by simp [dsK]
 rw [← ek] at hh
 have nl2:=mz .non rfl a1 b2
 unfold kst
 rw [← ek]
 refine aA rfl ?_
 exact (b9 false (aX 0 (hb) (aX 0 (nl) (aX 0 (hy) (aX 0 (l0) (aX 0 (hh) (aX 0 (nl2) aZ)))))) (by kernel_rfl))
theorem yi {a1 b1:Al} (hw:∀ k∈wks t,k.dep≤4) (lp:∀ e3,∃ e5 e6,aT (kG m) (bJ 0 (toDs (ay t))) (kst t N e3 [] none none a b) = .nx (kst t N e3 fs e5 e6 a1 b1)) (ho:∀ S,aa Γ (m+10) c6 [t.toD,.lst (dsK fs),dA N] S = .ok w.toD S) (hd:w.dep≤4) (hl:a1.length<90000):aa Γ (m+11) cN [.ref 0,t.toD,dA N] (ls a b) = .ok w.toD (ls (bb a1 (.inl t.pl) w) b1):=by
 have w0:=CK t (m+7) (ls a b)
 obtain ⟨e3,w1⟩:=oN t N (m+10) (ls a b) (wks t) none hw (by omega)
 have p0:=hU t (m+7) (ls a b)
 obtain ⟨e5,e6,lp⟩:=lp e3
 have ow:=ho (ls a1 b1)
 have n1:=nsh t w hd (m+10) (by omega) (ls a1 b1)
 have nl:=mz w.toD (gY _) a1 b1
 have e1:ev Γ (aa Γ (m+10)) (aH Γ (m+10)) true (.ix (.v 1) (.c (.int 1))) ⟨[some (.ref 0),some t.toD,some (dA N),e3,some (.lst (dsK fs)),e5,e6,some w.toD],[4],ls a1 b1⟩ = .ok (.int t.pl) ⟨[some (.ref 0),some t.toD,some (dA N),e3,some (.lst (dsK fs)),e5,e6,some w.toD],[4],ls a1 b1⟩:=(fQ false (aX 0 (c9 t (ls a1 b1)) aZ) (by kernel_rfl))
 have pt:=nZ (Γ:=Γ) (cal:=aa Γ (m+10)) (cal1:=aH Γ (m+10)) (x:=.v 0) (f:=0) (e:=.v 7) (s:=⟨[some (.ref 0),some t.toD,some (dA N),e3,some (.lst (dsK fs)),e5,e6,some w.toD],[4],ls a1 b1⟩) (o:=oA a1) (n:=1) rfl rfl e1 rfl (sE a1 t.pl w (by omega))
 exact (ac true (aX 0 (w0) (aX 0 (w1) (aX 0 (p0) (aX 0 (lp) (aX 0 (ow) (aX 0 (nl) (aX 0 (n1) (aX 0 (pt) aZ)))))))) (by kernel_rfl))
def Nv (N:Al):T68→Prop
 | .nam _ x k=>ax N (.inr x)=some k
 | _=>True
theorem Bb {t y:T68} {N:Al} (hy:y∈ay t) (h:y.isN=true→t.isF=true):Nv (inN t N) y:=by
 cases y with
 | nam p x k=>
   cases t with
   | fn p' x' k' q=>
     rw [show ay (.fn p' x' k' q) = [.nam q x' k'] from rfl] at hy
     cases η.mp hy
     show ax (bb N (.inr x) k) (.inr x)=some k
     rw [dM,ZZ rfl]
   | _=>cases h rfl
 | _=>trivial
def Kh (m q:Nat) (y:T68):Prop:=∀ N a b,Nv N y→N.length+q<1000→a.length+(ai q y).length≤40000→b.length+2 * (ai q y).length≤90000→∃ a' b',LkE m y q N a b a' b'
theorem sy {l r:List T68} {y:T68} (nd:((l ++ y :: r).flatMap (ai q)).Nodup):(ai q y).Nodup∧∀ z∈l,∀ p∈ai q z,p ∉ ai q y:=by
 rw [EL,Ó] at nd
 obtain ⟨_,nd3,dis⟩:=ń.mp nd
 exact ⟨(ń.mp nd3).1,fun z hz p hp hq=>dis p (ϻ.mpr ⟨z,hz,hp⟩) p (Ŵ _ hq) rfl⟩
theorem Bq (hn:1≤q):ai q y=y.pl :: (ai q y).tail:=by
 cases q with
 | zero=>omega
 | succ n=>rfl
structure Dn (q:Nat) (t:T68) (P:List T68) (a b:Al):Prop where
 h:∀ j z,P[j]? = some z→ax a (.inl z.pl)=some (kof z)∧ax b (.inl z.pl)=some (wnt t j)∧RW q z a b
theorem Dn.snoc {P:List T68} {N' a1 b1 b2:Al} (hd:Dn q t P a b) (oP:∀ z∈P,Ok q z) (oy:Ok q y) (out:∀ z∈P,∀ p∈ai q z,p ∉ ai q y) (nd:(ai q y).Nodup) (h:LkE m y q N' a b a1 b1) (e:ax b2 (.inl y.pl)=some (wnt t P.length)) (u:Un b1 b2 [y.pl]):Dn q t (P ++ [y]) a1 b2:=by
 have ym:=eP (t:=y) oy.pos
 have nt:∀ p∈(ai q y).tail,p≠y.pl:=fun p hp e=>by
  rw [Bq oy.pos] at nd
  exact (ϛ.mp nd).1 (e ▸ hp)
 refine ⟨fun j z hz=>?_⟩
 by_cases c:j<P.length
 ·rw [ό c] at hz
  obtain ⟨g1,g2,g3⟩:=hd.h j z hz
  have zm:=ο hz
  have o:=out z zm
  have zp:=eP (t:=z) (oP z zm).pos
  have ny:∀ p∈ai q z,p ∉ [y.pl]:=fun p hp h=>by rw [η.mp h] at hp;exact o _ hp ym
  refine ⟨(h.r.u _ (o _ zp)).trans g1,((u _ (ny _ zp)).trans (h.v _ fun m=>o _ zp (Ų m))).trans g2,?_⟩
  have g4:RW q z a1 b1:=g3.un h.r.u h.v (oP z zm) fun p hp=>⟨o p hp,fun m=>o p hp (Ų m)⟩
  exact g4.un (ps:=[]) (fun _ _=>rfl) u (oP z zm) fun p hp=>⟨fun h=>(nomatch h),ny p hp⟩
 ·rw [Ν (by omega)] at hz
  have z1:j - P.length=0:=by
   refine Dr fun z=>?_
   rw [Ũ (by simp;omega)] at hz;cases hz
  rw [z1] at hz
  cases hz
  have jl:j=P.length:=by omega
  subst jl
  refine ⟨h.k,e,?_⟩
  obtain ⟨n,rfl⟩:∃ n,q=n+1:=⟨q - 1,by have:=oy.pos;omega⟩
  intro i x hx
  obtain ⟨f1,f2,f3⟩:=h.w i x hx
  have xm:=ο hx
  have ox:=(oy.2.2 x xm).1
  have sub:∀ p∈ai n x,p∈(ai (n+1) y).tail:=fun p hp=>ϻ.mpr ⟨x,xm,hp⟩
  have ny:∀ p∈ai n x,p ∉ [y.pl]:=fun p hp h=>nt p (sub p hp) (η.mp h)
  exact ⟨f1,(u _ (ny _ (eP ox.pos))).trans f2,f3.un (ps:=[]) (fun _ _=>rfl) u ox fun p hp=>⟨fun h=>(nomatch h),ny p hp⟩⟩
theorem hW {p:Int}:Un a (bb a (.inl p) w) [p]:=fun x hx=>l9 fun e=>hx (by simp [e])
theorem wj (o:Ok (q+1) t) (hN:N.length+q<999) (nd:((ay t).flatMap (ai q)).Nodup) (hk:∀ y∈ay t,Kh (m+10) q y) (hc:∀ i y,(ay t)[i]? = some y→Cs (kof y) (wnt t i)∧(kof y).dep≤4) (wk:∀ i y,(ay t)[i]? = some y→∀ S,aa Γ (m+9) bR [t.toD,.lst (dsK (((ay t).map kof).take (i+1)))] S = .ok (wnt t i).toD S):∀ (r P:List T68) (a b:Al),ay t=P ++ r→Dn q t P a b→a.length+(r.flatMap (ai q)).length≤40000→b.length+2 * (r.flatMap (ai q)).length≤90000→∃ a' b',Dn q t (ay t) a' b'∧Gr a a' (r.flatMap (ai q))∧Un b b' (r.flatMap (ai q))∧b'.length≤b.length+2 * (r.flatMap (ai q)).length∧∀ e3 e5 e6,∃ e5' e6',aT (kG m) (bJ (P.length:Nat) (toDs r)) (kst t N e3 (P.map kof) e5 e6 a b) = .nx (kst t N e3 ((ay t).map kof) e5' e6' a' b')
 | [],P,a,b,e,d,_,_=>by
   rw [ϕ] at e
   exact ⟨a,b,e ▸ d,.refl,fun _ _=>rfl,by simp,fun e3 e5 e6=>⟨e5,e6,by rw [e];rfl⟩⟩
 | y :: r,P,a,b,e,d,ha,hb=>by
   rw [Ó,ω] at ha hb
   have ky:(ay t)[P.length]? = some y:=by rw [e,Ν (Ω _),ı];rfl
   have ym:y∈ay t:=ο ky
   have oy:=(o.2.2 y ym).1
   obtain ⟨ny,out⟩:=sy (e ▸ nd)
   have il:=xz (t:=t) (N:=N)
   obtain ⟨a1,b1,h1⟩:=hk y ym (inN t N) a b (Bb ym (o.2.2 y ym).2) (by omega) (by omega) (by omega)
   have l1:=h1.lb
   have r1:=h1.r.ln
   have pl:=gm b1 (.inl y.pl) (wnt t P.length)
   obtain ⟨c1,c2⟩:=hc _ _ ky
   have tk:((ay t).map kof).take (P.length+1)=P.map kof ++ [kof y]:=by
    rw [e,Õ,ì,List.take_append,Em (by simp),Θ,show P.length+1 - P.length=1 by omega];rfl
   have w0:=wk _ _ ky
   rw [tk] at w0
   have hh:=ue t y (P.map kof) (kof y) (wnt t P.length) c1 a1 b1 (m+1) w0 c2 (by omega)
   obtain ⟨a',b',d2,g2,v2,l2,h2⟩:=wj o hN nd hk hc wk r (P ++ [y]) a1 (bb b1 (.inl y.pl) (wnt t P.length)) (by rw [e];simp) (d.snoc (fun z hz=>(o.2.2 z (by rw [e];simp [hz])).1) oy out ny h1 jG hW) (by omega) (by omega)
   refine ⟨a',b',d2,by rw [Ó];exact h1.r.trans g2,fun p hp=>?_,by rw [Ó,ω];omega,fun e3 e5 e6=>?_⟩
   ·rw [Ó,ë,not_or] at hp
    rw [v2 p hp.2,l9 (fun e=>hp.1 (by rw [← e];exact eP oy.pos)),h1.v p fun m=>hp.1 (Ų m)]
   ·obtain ⟨e5',e6',h2⟩:=h2 e3 (some (.int P.length)) (some y.toD)
    refine ⟨e5',e6',aW (ut (by simp) (bw t P.length (P.map kof) N (by omega) (m+9) _) h1.e hh (by have:=gQ o.1;rw [e] at this;simp at this;omega)) ?_⟩
    rw [ω,Õ] at h2
    exact h2
theorem done {a1 b1:Al} (hw:∀ k∈wks t,k.dep≤4) (lp:∀ e3,∃ e5 e6,aT (kG m) (bJ 0 (toDs (ay t))) (kst t N e3 [] none none a b) = .nx (kst t N e3 ((ay t).map kof) e5 e6 a1 b1)) (ho:∀ S,aa Γ (m+10) c6 [t.toD,.lst (dsK ((ay t).map kof)),dA N] S = .ok (kof t).toD S) (hd:(kof t).dep≤4) (o:Ok (q+1) t) (nd:(ai (q+1) t).Nodup) (d:Dn q t (ay t) a1 b1) (r:Gr a a1 ((ay t).flatMap (ai q))) (v:Un b b1 ((ay t).flatMap (ai q))) (ha:a.length+(ai (q+1) t).length≤40000) (lb:b1.length≤b.length+2 * ((ay t).flatMap (ai q)).length):LkE (m+11) t (q+1) N a b (bb a1 (.inl t.pl) (kof t)) b1:=by
 have e:(ai (q+1) t).length=((ay t).flatMap (ai q)).length+1:=rfl
 have nt:=(ϛ.mp (show (t.pl :: (ay t).flatMap (ai q)).Nodup from nd)).1
 refine ⟨yi hw lp ho hd (by have:=r.ln;omega),jG,fun i y hy=>?_,r.own t.pl hd,v,by omega⟩
 obtain ⟨g1,g2,g3⟩:=d.h i y hy
 have ym:=ο hy
 have oy:=(o.2.2 y ym).1
 have ny:∀ p∈ai q y,p ∉ [t.pl]:=fun p hp h=>nt (ϻ.mpr ⟨y,ym,(η.mp h) ▸ hp⟩)
 exact ⟨(hW _ (ny _ (eP oy.pos))).trans g1,g2,g3.un (qs:=[]) hW (fun _ _=>rfl) oy fun p hp=>⟨ny p hp,fun h=>(nomatch h)⟩⟩
theorem BH (tk:Tk t):∀ i y,(ay t)[i]? = some y→∀ S,aa Γ (m+9) bR [t.toD,.lst (dsK (((ay t).map kof).take (i+1)))] S = .ok (wnt t i).toD S:=by
 intro i y hy S
 cases t with
 | whole=>cases hy
 | truth=>cases hy
 | nam=>cases hy
 | fn p x k q=>match i,hy with | 0,_=>kernel_rfl
 | pair p a b=>match i,hy with
   | 0,_=>kernel_rfl
   | 1,_=>kernel_rfl
 | as_ p k a=>match i,hy with | 0,_=>kernel_rfl
 | row p k ts=>
   show aa Γ (m+9) bR [(T68.row p k ts).toD,.lst (dsK ((ts.map kof).take (i+1)))] S = .ok k.toD S
   generalize dsK ((ts.map kof).take (i+1))=l
   kernel_rfl
theorem yQ (nv:Nv N t) (S:List O):aa Γ (m+10) c6 [t.toD,.lst (dsK ((ay t).map kof)),dA N] S = .ok (kof t).toD S:=by
 cases t with
 | nam p x k=>
   have g:ixD (dA N) (.str x)=some k.toD:=by
    show cg (ksA N) (dsA N) (.inr x)=_
    rw [qM,show ax N (.inr x)=some k from nv];rfl
   exact (ac false (aX 6 (g) aZ) (by kernel_rfl))
 | row p k ts=>
   show aa Γ (m+10) c6 [(T68.row p k ts).toD,.lst (dsK (ts.map kof)),dA N] S = .ok (Kd.row k).toD S
   generalize dsK (ts.map kof)=l
   kernel_rfl
 | _=>kernel_rfl
end
theorem yH {n:Nat} {t y:T68} (h:(ai (n+1) t).Nodup) (hy:y∈ay t):(ai n y).Nodup:=by
 have h:=(ϛ.mp (show (t.pl :: (ay t).flatMap (ai n)).Nodup from h)).2
 obtain ⟨P,r,e⟩:=List.append_of_mem hy
 exact (sy (e ▸ h)).1
theorem wJ:∀ {q:Nat} {t:T68},Tk t→Ok q t→∀ {m:Nat},q+10≤m→(ai q t).Nodup→Kh m q t
 | 0,_,_,o,_,_,_=>o.elim
 | q+1,t,h,o,m,hm,nd=>by
   obtain ⟨m,rfl⟩:∃ k,m=k+11:=⟨m - 11,by omega⟩
   have h':=h
   obtain ⟨hw,hd,hk,hc⟩:=h'
   have kd:∀ i y,(ay t)[i]? = some y→Kh (m+10) q y:=fun i y hy=>wJ (hk i y hy) (o.2.2 y (ο hy)).1 (by omega) (yH nd (ο hy))
   have nd1:=(ϛ.mp (show (t.pl :: (ay t).flatMap (ai q)).Nodup from nd)).2
   have e2:(ai (q+1) t).length=((ay t).flatMap (ai q)).length+1:=rfl
   intro N a b nv hN ha hb
   obtain ⟨a1,b1,d,r,v,l,lp⟩:=wj (m:=m) (q:=q) (N:=N) o (by omega) nd1 (fun y hy=>by obtain ⟨i,hi⟩:=þ.mp hy;exact kd i y hi) (fun i y hy=>⟨hc i y hy,(hk i y hy).d⟩) (BH h) (ay t) [] a b rfl ⟨fun j z hz=>by simp at hz⟩ (by omega) (by omega)
   exact ⟨_,_,done hw (fun e3=>lp e3 none none) (yQ nv) hd o nd d r v ha l⟩
abbrev nB:S:=cQ jC.body
theorem wW (bs l:List μ) (h:bs.length+l.length≤1000):opD .add (.tup (sts bs)) (.tup (sts l))=some (.tup (sts (bs ++ l))):=by
 show kC ((sts bs).length+(sts l).length) _=_
 unfold kC sts
 rw [ZZ (by simp;omega),Õ]
theorem tR (t:T68) (i:Nat):(bnd t i).length≤2:=by
 cases t <;> first | exact Ο rfl | (rename_i a b c d;match i with | 0=>exact Ο rfl | 1=>exact Ο rfl | i+2=>exact Ο rfl)
def Bd (bs:List μ):T68→Prop
 | .nam _ x _=>x∈bs
 | _=>True
theorem zF {t y:T68} {bs:List μ} {i:Nat} (hy:(ay t)[i]? = some y) (h:y.isN=true→t.isF=true):Bd (bs ++ bnd t i) y:=by
 cases y with
 | nam p x k=>
   cases t with
   | fn p' x' k' q=>
     cases η.mp (show T68.nam p x k∈[T68.nam q x' k'] from ο hy)
     exact ŧ _ (η.mpr rfl)
   | _=>cases h rfl
 | _=>trivial
theorem qX {x:μ}:∀ {bs:List μ},∃ b,inD (.str x) (sts bs)=some b∧(x∈bs→b=true)
 | []=>⟨false,rfl,fun h=>nomatch h⟩
 | y :: r=>by
   obtain ⟨b,e,h⟩:=qX (x:=x) (bs:=r)
   refine ⟨decide (y=x) || b,?_,fun m=>?_⟩
   ·show (match eqv 55 (.str y) (.str x) with | none=>none | some b=>(inD (.str x) (sts r)).map (b || ·))=_
    rw [oH,e];rfl
   ·rcases π.mp m with m | m
    ·rw [ZW m.symm];rfl
    ·rw [h m,Bool.or_true]
theorem nN {n m:Nat} (ih:∀ (y:T68) (bs:List μ) (S:List O),Ok n y→Bd bs y→bs.length+2 * n≤1000→aa Γ (m+4) eH [y.toD,.tup (sts bs)] S = .ok .non S) (t:T68) (bs:List μ) (o4:∀ y∈ay t,Ok n y∧(y.isN=true→t.isF=true)) (hb:bs.length+2 * (n+1)≤1000) (S:List O):∀ (r:List T68) (i:Nat) (e2 e3:Option D),(∀ j y,r[j]? = some y→(ay t)[i+j]? = some y)→∃ e2' e3':Option D,aT (cM Γ (aa Γ (m+4)) (aH Γ (m+4)) [2,3] false nB) (bJ (i:Nat) (toDs r)) ⟨[some t.toD,some (.tup (sts bs)),e2,e3],[],S⟩ = .nx ⟨[some t.toD,some (.tup (sts bs)),e2',e3'],[],S⟩
 | [],i,e2,e3,_=>⟨e2,e3,rfl⟩
 | y :: r,i,e2,e3,hr=>by
   have hy:(ay t)[i]? = some y:=hr 0 y rfl
   have n1:=yG t i y hy (m+3) S
   have l2:=tR t i
   have a1:=wW bs (bnd t i) (by omega)
   have o5:=o4 y (ο hy)
   have i1:=ih y (bs ++ bnd t i) S o5.1 (zF hy o5.2) (by rw [ω];omega)
   obtain ⟨e2',e3',h⟩:=nN ih t bs o4 hb S r (i+1) (some (.int i)) (some y.toD) (fun j z hz=>by rw [Nat.add_assoc,GY 1];exact hr (j+1) z hz)
   exact ⟨e2',e3',aW (aA rfl (b9 false (aX 0 (n1) (aX 0 (a1) (aX 0 (i1) aZ))) (by kernel_rfl))) h⟩
theorem eu:∀ (n m:Nat) (y:T68) (bs:List μ) (S:List O),n+4≤m→Ok n y→Bd bs y→bs.length+2 * n≤1000→aa Γ m eH [y.toD,.tup (sts bs)] S = .ok .non S
 | 0,m,y,bs,S,_,o,_,_=>o.elim
 | n+1,m,t,bs,S,hm,o,bd,hb=>by
   obtain ⟨m,rfl⟩:∃ k,m=k+5:=⟨m - 5,by omega⟩
   have p0:=hU t (m+1) S
   obtain ⟨e2,e3,lp⟩:=nN (m:=m) (fun y bs S o b h=>eu n (m+4) y bs S (by omega) o b h) t bs o.2.2 hb S (ay t) 0 none none (fun j y h=>by rw [ě];exact h)
   have h0:=oM t S
   cases t with
   | nam p x k=>
     obtain ⟨b,e,h⟩:=qX (x:=x) (bs:=bs)
     rw [h bd] at e
     have ni:opD .notin (.str x) (.tup (sts bs))=some (.bl false):=by show (inD _ _).map _=_;rw [e];rfl
     exact (ac true (aX 4 (ni) (aX 0 (p0) (aX 0 (lp) aZ))) (by kernel_rfl))
   | _=>exact (ac true (aX 0 (p0) (aX 0 (lp) aZ)) (by kernel_rfl))
def nb:Nat→Nat
 | 0=>0
 | n+1=>1+4 * nb n
theorem jZ:∀ (n:Nat) (t:T68),Ok n t→(ai n t).length≤nb n
 | 0,t,o=>o.elim
 | n+1,t,⟨o1,_,o4⟩=>by
   have kl:=gQ o1
   have f:∀ l:List T68,(∀ y∈l,(ai n y).length≤nb n)→(l.flatMap (ai n)).length≤l.length * nb n:=by
    intro l
    induction l with
    | nil=>intro _;simp
    | cons y r ih=>
      intro h
      rw [Ó,ω,Η,Ą]
      have:=h y (by simp);have:=ih (fun z hz=>h z (by simp [hz]));omega
   have h:=f (ay t) (fun y hy=>jZ n y (o4 y hy).1)
   have:(ay t).length * nb n≤4 * nb n:=ă _ kl
   show ((ay t).flatMap (ai n)).length+1≤1+4 * nb n;omega
def dsI (l:List Int):List D:=l.map D.int
abbrev pB:S:=cQ qD.body
theorem nX {n m:Nat} (ih:∀ (y:T68) (S:List O),Ok n y→aa Γ m kS [y.toD] S = .ok (.lst (dsI (ai n y))) S) (t:T68) (S:List O):∀ (r:List T68) (acc:List Int) (e2:Option D),(∀ y∈r,Ok n y)→acc.length+r.length * nb n≤100000→∃ e2':Option D,aT (cM Γ (aa Γ m) (aH Γ m) [2] true pB) (toDs r) ⟨[some t.toD,some (.lst (dsI acc)),e2],[1],S⟩ = .nx ⟨[some t.toD,some (.lst (dsI (acc ++ r.flatMap (ai n)))),e2'],[1],S⟩
 | [],acc,e2,_,_=>⟨e2,by simp [aT,toDs]⟩
 | y :: r,acc,e2,hr,hl=>by
   have oy:=hr y (by simp)
   have i1:=ih y S oy
   have pl:=jZ n y oy
   simp only [Η,Ą,Nat.one_mul] at hl
   obtain ⟨e2',h⟩:=nX ih t S r (acc ++ ai n y) (some y.toD) (fun z hz=>hr z (by simp [hz])) (by rw [ω];omega)
   have l0:decide ((dsI acc).length+(dsI (ai n y)).length≤100000)=true:=ZW (by unfold dsI;rw [Θ,Θ];omega)
   refine ⟨e2',aW (s1:=⟨[some t.toD,some (.lst (dsI (acc ++ ai n y))),some y.toD],[1],S⟩) (aA rfl ?_) ?_⟩
   ·have e:dsI (acc ++ ai n y)=dsI acc ++ dsI (ai n y):=by unfold dsI;exact Õ
    rw [e]
    exact (b9 false (aX 0 (i1) (aX 0 (l0) aZ)) (by kernel_rfl))
   ·rw [h,Ô,Ó]
theorem jk:∀ (n m:Nat) (t:T68) (S:List O),n+4≤m→n≤8→Ok n t→aa Γ m kS [t.toD] S = .ok (.lst (dsI (ai n t))) S
 | 0,m,t,S,_,_,o=>o.elim
 | n+1,m,t,S,hm,h8,o=>by
   obtain ⟨m,rfl⟩:∃ k,m=k+5:=⟨m - 5,by omega⟩
   obtain ⟨o1,o2,o4⟩:=o
   have p0:=hU t (m+1) S
   have kl:=gQ o1
   have nb8:nb n≤5461:=by
    have:∀ k,k≤7→nb k≤5461:=by decide
    exact this n (by omega)
   have kn:(ay t).length * nb n≤4 * nb n:=ă _ kl
   obtain ⟨e2,lp⟩:=nX (m:=m+4) (fun y S o=>jk n (m+4) y S (by omega) (by omega) o) t S (ay t) [t.pl] none (fun y hy=>(o4 y hy).1) (by simp only [ϊ];omega)
   exact (ac true (aX 0 (c9 t S) (aX 0 (p0) (aX 0 (lp) aZ))) (by kernel_rfl))
theorem qN {β:Type} {l:AlG β} {x:Key} {k:β} (h:ax l x=some k):∃ p∈l,p.2=k:=by
 induction l with
 | nil=>cases h
 | cons p r ih=>
   have h:(if p.1=x then some p.2 else ax r x)=some k:=h
   by_cases c:p.1=x
   ·rw [ZZ c] at h;exact ⟨p,by simp,by cases h;rfl⟩
   ·rw [ZY c] at h;obtain ⟨q,hq,e⟩:=ih h;exact ⟨q,by simp [hq],e⟩
def lbl (p:Int) (w:List μ):D:=.tup [.int p,.str "in",.tup (sts w)]
def gr:Kd→D
 | .row _=>.tup [.str "row",.tup [.str "?"]]
 | .pair _ _=>.tup [.str "pair",.tup [.str "?"],.tup [.str "?"]]
 | .to _ _=>.tup [.str "to",.tup [.str "?"],.tup [.str "?"]]
 | k=>k.toD
abbrev ie:D:=.tup [.str "same"]
def az (k:Kd) (l:D):D:=.tup [gr k,l]
def cf (k:Kd) (l:D):D:=.tup [.non,ie,az k l]
def cj (k:Kd) (l:D):D:=.tup [az k l,ie,.non]
inductive Flt:Kd→Prop
 | w:Flt .whole
 | t:Flt .truth
inductive Occ:Kd→Kd→Prop
 | w:Occ .whole .unt
 | t:Occ .truth .unt
 | r0:Occ (.row .unt) .unt
 | rF {f} (h:Flt f):Occ (.row f) .unt
 | p0:Occ (.pair .unt .unt) .unt
 | pF {f g} (h:Flt f) (h':Flt g):Occ (.pair f g) .unt
 | f0:Occ (.to .unt .unt) .unt
 | f1:Occ (.to .whole .whole) .unt
 | f2:Occ (.to (.row .truth) (.row .truth)) .unt
 | aR {f} (h:Flt f):Occ .unt (.row f)
 | aP {f g} (h:Flt f) (h':Flt g):Occ .unt (.pair f g)
def xp (k:Kd) (p:Int):D:=.tup [.str "row",cf k (lbl p ["item"])]
def jF (k:Kd) (p:Int):D:=.tup [.str "row",cj k (lbl p ["item"])]
def cF (f:Kd→D→D) (a b:Kd) (p:Int):D:=.tup [.str "pair",f a (lbl p ["one"]),f b (lbl p ["two"])]
def rA (p:Int) (w:List μ):D:=.tup [.int p,.str "out",.tup (sts w)]
def gFn:Kd→Int→List D
 | .row k,p=>[.tup [az (.row k) (rA p ["arg"]),.tup [.str "row",cj k (rA p ["arg","item"])],.non],.tup [.non,.tup [.str "row",cf k (lbl p ["res","item"])],az (.row k) (lbl p ["res"])]]
 | k,p=>[cj k (rA p ["arg"]),cf k (lbl p ["res"])]
def mkD:Kd→Kd→Int→D
 | .row k,.unt,p=>if k = .unt then cf (.row k) (lbl p []) else .tup [.non,xp k p,az (.row k) (lbl p [])]
 | .pair a b,.unt,p=>if a = .unt then cf (.pair a b) (lbl p []) else .tup [.non,cF cf a b p,az (.pair a b) (lbl p [])]
 | .to a b,.unt,p=>if a = .unt then cf (.to a b) (lbl p []) else .tup [.non,.tup (.str "to" :: gFn a p),az (.to a b) (lbl p [])]
 | k,.unt,p=>cf k (lbl p [])
 | .unt,.row k,p=>.tup [az (.row k) (lbl p []),jF k p,.non]
 | .unt,.pair a b,p=>.tup [az (.pair a b) (lbl p []),cF cj a b p,.non]
 | _,w,p=>cj w (lbl p [])
theorem u6 (k w:Kd) (p:Int) (h:Occ k w) (n:Nat) (S:List O):aa Γ (n+20) xE [k.toD,w.toD,.int p] S = .ok (mkD k w p) S:=by
 cases h with
 | rF h=>cases h <;> kernel_rfl
 | pF h h'=>cases h <;> cases h' <;> kernel_rfl
 | aR h=>cases h <;> kernel_rfl
 | aP h h'=>cases h <;> cases h' <;> kernel_rfl
 | _=>kernel_rfl
abbrev Rw:=Int×Kd×Kd
def sJ (r:Rw):D:=.tup [.int r.1,r.2.1.toD,r.2.2.toD]
def fAt (a b:Al) (p:Int):Option Rw:=match ax a (.inl p),ax b (.inl p) with
 | some k,some w=>if k=w then none else some (p,k,w)
 | _,_=>none
def jR (a b:Al) (ps:List Int):List Rw:=ps.filterMap (fAt a b)
theorem vZ {a b:Al} {p:Int} {r:Rw} (h:fAt a b p=some r):r.1=p:=by
 unfold fAt at h
 split at h
 ·split at h
  ·cases h
  ·cases h;rfl
 ·cases h
abbrev lE:E:=.tup (.cons (.v 0) (.cons (.ix (.v 3) (.v 0)) (.cons (.ix (.v 4) (.v 0)) .nil)))
abbrev lC:E:=.op .ne (.ix (.v 3) (.v 0)) (.ix (.v 4) (.v 0))
theorem jQ (m:Nat) (t:T68) (kd wd:Al) (h4:∀ p∈kd,p.2.dep≤4):∀ (ps:List Int) (acc:List D) (e:Option D),(∀ p∈ps,(ax kd (.inl p)).isSome=true∧(ax wd (.inl p)).isSome=true)→acc.length+ps.length<100000→∃ e':Option D,bZ (lcQ Γ (aa Γ m) (aH Γ m) [0] true lE lC) (dsI ps) acc ⟨[e,some t.toD,some (.tup [.ref 1,.ref 2]),some (.ref 1),some (.ref 2)],[],ls kd wd⟩ = .ok (.lst (acc ++ (jR kd wd ps).map sJ)) ⟨[e',some t.toD,some (.tup [.ref 1,.ref 2]),some (.ref 1),some (.ref 2)],[],ls kd wd⟩
 | [],acc,e,_,_=>⟨e,by simp [dsI,bZ,jR]⟩
 | p :: r,acc,e,hp,hl=>by
   simp only [Η] at hl
   obtain ⟨h1,h2⟩:=hp p (by simp)
   obtain ⟨k,hk⟩:=ĉ.mp h1
   obtain ⟨w,hw⟩:=ĉ.mp h2
   have g1:ixD (dA kd) (.int p)=some k.toD:=by show cg (ksA kd) (dsA kd) (.inl p)=_;rw [qM,hk];rfl
   have g2:ixD (dA wd) (.int p)=some w.toD:=by show cg (ksA wd) (dsA wd) (.inl p)=_;rw [qM,hw];rfl
   have k4:k.dep≤55:=by obtain ⟨q,hq,e⟩:=qN hk;have:=h4 q hq;rw [e] at this;omega
   have ne:=A3 k w k4 (ls kd wd)
   have cd:ev Γ (aa Γ m) (aH Γ m) true lC ⟨[some (.int p),some t.toD,some (.tup [.ref 1,.ref 2]),some (.ref 1),some (.ref 2)],[],ls kd wd⟩ = .ok (.bl (!decide (k=w))) ⟨[some (.int p),some t.toD,some (.tup [.ref 1,.ref 2]),some (.ref 1),some (.ref 2)],[],ls kd wd⟩:=(fQ false (aX 0 (g1) (aX 0 (g2) (aX 0 (ne) aZ))) (by kernel_rfl))
   have at0:fAt kd wd p=if k=w then none else some (p,k,w):=by unfold fAt;rw [hk,hw]
   unfold jR
   rw [Ϧ,at0]
   by_cases c:k=w
   ·obtain ⟨e',h⟩:=jQ m t kd wd h4 r acc (some (.int p)) (fun q hq=>hp q (by simp [hq])) (by omega)
    rw [ZZ c]
    rw [ZW c] at cd
    exact ⟨e',uw (xP rfl cd) h⟩
   ·have el:ev Γ (aa Γ m) (aH Γ m) false lE ⟨[some (.int p),some t.toD,some (.tup [.ref 1,.ref 2]),some (.ref 1),some (.ref 2)],[],ls kd wd⟩ = .ok (sJ (p,k,w)) ⟨[some (.int p),some t.toD,some (.tup [.ref 1,.ref 2]),some (.ref 1),some (.ref 2)],[],ls kd wd⟩:=(fQ false (aX 0 (g1) (aX 0 (g2) aZ)) (by kernel_rfl))
    obtain ⟨e',h⟩:=jQ m t kd wd h4 r (acc ++ [sJ (p,k,w)]) (some (.int p)) (fun q hq=>hp q (by simp [hq])) (by rw [ω,ϊ];omega)
    rw [ZY c]
    rw [ZV c] at cd
    rw [Ô] at h
    exact ⟨e',fZ (jO rfl cd el) (by omega) h⟩
def mkR (r:Rw):D:=mkD r.2.1 r.2.2 r.1
abbrev dL (l:AlG Rw):D:=.dic (ksA l) (dsF mkR l)
def iM (l:AlG Rw) (r:Rw):AlG Rw:=bb l (.inl r.1) r
abbrev mB:S:=cQ jB.body
theorem nH (t:T68) (m:Nat) (S:List O):∀ (rs:List Rw) (l:AlG Rw) (e2 e3 e4:Option D),(∀ r∈rs,Occ r.2.1 r.2.2)→l.length+rs.length<90000→∃ e2' e3' e4':Option D,aT (cM Γ (aa Γ (m+20)) (aH Γ (m+20)) [2,3,4] false mB) (rs.map sJ) ⟨[some t.toD,some (dL l),e2,e3,e4],[1],S⟩ = .nx ⟨[some t.toD,some (dL (rs.foldl iM l)),e2',e3',e4'],[1],S⟩
 | [],l,e2,e3,e4,_,_=>⟨e2,e3,e4,rfl⟩
 | r :: rs,l,e2,e3,e4,h,hl=>by
   simp only [Η] at hl
   have mk:=u6 r.2.1 r.2.2 r.1 (h r (by simp)) m S
   have pu:=sD mkR l (.int r.1) (.inl r.1) rfl r (by omega)
   have pl:=gm l (.inl r.1) r
   obtain ⟨f2,f3,f4,hf⟩:=nH t m S rs (iM l r) (some (.int r.1)) (some r.2.1.toD) (some r.2.2.toD) (fun x hx=>h x (by simp [hx])) (by show (bb l (.inl r.1) r).length+_<_;omega)
   exact ⟨f2,f3,f4,aW (s1:=⟨[some t.toD,some (dL (iM l r)),some (.int r.1),some r.2.1.toD,some r.2.2.toD],[1],S⟩) (aA rfl (b9 false (aX 0 (mk) (aX 0 (pu) aZ)) (by kernel_rfl))) hf⟩
theorem kK (F:Int→Option Rw) (p:Int):∀ (rs:List Rw) (l:AlG Rw),(∀ r∈rs,F r.1=some r)→ax (rs.foldl iM l) (.inl p)=if p∈rs.map (·.1) then F p else ax l (.inl p)
 | [],l,_=>by simp
 | r :: rs,l,h=>by
   show ax (rs.foldl iM (iM l r)) (.inl p)=_
   rw [kK F p rs (iM l r) (fun x hx=>h x (by simp [hx]))]
   by_cases c:p∈rs.map (·.1)
   ·rw [ZZ c,ZZ (by simp only [ì,π];exact .inr c)]
   ·rw [ZY c]
    unfold iM
    rw [dM]
    by_cases e:r.1=p
    ·subst e
     rw [ZZ rfl,ZZ (by simp),h r (by simp)]
    ·rw [ZY (fun z=>e (FQ z)),ZY (by simp only [ì,π,not_or];exact ⟨ϥ e,c⟩)]
theorem kU {a b:Al} {ps:List Int} {p:Int} (hp:p∈ps):ax ((jR a b ps).foldl iM []) (.inl p)=fAt a b p:=by
 rw [kK (fAt a b) p _ [] (fun r hr=>by
  obtain ⟨x,_,e⟩:=CP.mp hr
  rw [vZ e];exact e)]
 cases q:fAt a b p with
 | none=>
   split
   ·rfl
   ·rfl
 | some r=>rw [ZZ (show p∈(jR a b ps).map (·.1) from ϱ.mpr ⟨r,CP.mpr ⟨p,hp,q⟩,vZ q⟩)]
def Oc:Nat→T68→Prop
 | 0,_=>True
 | q+1,t=>∀ i y,(ay t)[i]? = some y→(kof y=wnt t i∨Occ (kof y) (wnt t i))∧Oc q y
def lkO (pl:Bool) (k w:Kd) (p:Int):Option Rw:=if pl=true∨k=w then none else some (p,k,w)
def Ft (L:AlG Rw) (pl:Bool):Nat→T68→Prop
 | 0,_=>True
 | q+1,t=>∀ i y,(ay t)[i]? = some y→ax L (.inl y.pl)=lkO pl (kof y) (wnt t i) y.pl∧Ft L pl q y
theorem qJ:∀ (q:Nat) (t:T68),Ft [] true q t
 | 0,_=>trivial
 | q+1,t=>fun i y _=>⟨by unfold lkO;rw [ZZ (.inl rfl)];rfl,qJ q y⟩
theorem wG {a b:Al}:∀ {q:Nat} {t:T68},RW q t a b→Oc q t→∀ p∈(ai q t).tail,∃ k w,ax a (.inl p)=some k∧ax b (.inl p)=some w∧(k=w∨Occ k w)
 | 0,_,_,_,p,hp=>by cases hp
 | q+1,t,h,c,p,hp=>by
   obtain ⟨y,hy,hp⟩:=ϻ.mp (show p∈(ay t).flatMap (ai q) from hp)
   obtain ⟨i,hi⟩:=þ.mp hy
   obtain ⟨g1,g2,g3⟩:=h i y hi
   obtain ⟨c1,c2⟩:=c i y hi
   cases q with
   | zero=>cases hp
   | succ q=>
     rcases π.mp (show p∈y.pl :: (ai (q+1) y).tail from hp) with rfl | hp
     ·exact ⟨_,_,g1,g2,c1⟩
     ·exact wG g3 c2 p hp
theorem v7 {a b:Al} {ps:List Int}:∀ {q:Nat} {t:T68},Ok q t→RW q t a b→(∀ p∈ai q t,p∈ps)→Ft ((jR a b ps).foldl iM []) false q t
 | 0,_,o,_,_=>o.elim
 | q+1,t,o,h,hp=>fun i y hy=>by
   obtain ⟨g1,g2,g3⟩:=h i y hy
   have ym:=ο hy
   have oy:=(o.2.2 y ym).1
   have sub:∀ p∈ai q y,p∈ps:=fun p h=>hp p (ι _ (ϻ.mpr ⟨y,ym,h⟩))
   refine ⟨?_,v7 oy g3 sub⟩
   rw [kU (sub _ (eP oy.pos))]
   unfold fAt lkO
   rw [g1,g2]
   by_cases c:kof y=wnt t i
   ·simp [c]
   ·simp [c]
theorem nb8:nb 8=21845:=by decide
theorem gV {t:T68} (nn':t.isN=false) (tk:Tk t) (oc:Oc 8 t) (o:Ok 8 t) (nd:(ai 8 t).Nodup) (n:Nat):∃ (L:AlG Rw) (st:List O),aa Γ (n+23) jK [t.toD] [] = .ok (dL L) st∧ax L (.inl t.pl)=none∧Ft L false 8 t:=by
 have pn:=jZ 8 t o
 rw [nb8] at pn
 obtain ⟨a,b,e⟩:=wJ tk o (m:=n+20) (by omega) nd [] [] [] (by cases t <;> first | trivial | cases nn') (by decide) (by simp only [Υ];omega) (by simp only [Υ];omega)
 have lb:=e.lb
 have ln:=e.r.ln
 simp only [Υ] at lb ln
 have nn:aa Γ (n+20) eJ [t.toD] [] = .ok .non []:=by
  have:=eu 8 (n+19) t [] [] (by omega) o (by cases t <;> first | trivial | cases nn') (by decide)
  exact (ac false (aX 0 (this) aZ) (by kernel_rfl))
 have h1:=e.e
 have w1:=oK t (kof t) a b (by omega) (n+19)
 have pl:=jk 8 (n+21) t (ls a (bb b (.inl t.pl) (kof t))) (by omega) (by decide) o
 have lk:aa Γ (n+21) ri [t.toD] [] = .ok (.tup [.ref 1,.ref 2]) (ls a (bb b (.inl t.pl) (kof t))):=(ac false (aX 0 (nn) (aC (aX 0 (h1) (aX 0 (w1) aZ)))) (by kernel_rfl))
 have nt:=(ϛ.mp (show (t.pl :: (ay t).flatMap (ai 7)).Nodup from nd)).1
 have rw_:RW 8 t a (bb b (.inl t.pl) (kof t)):=fun i y hy=>by
  obtain ⟨g1,g2,g3⟩:=e.w i y hy
  have ym:=ο hy
  have oy:=(o.2.2 y ym).1
  have ny:∀ p∈ai 7 y,p ∉ [t.pl]:=fun p hp h=>nt (ϻ.mpr ⟨y,ym,(η.mp h) ▸ hp⟩)
  exact ⟨g1,(hW _ (ny _ (eP oy.pos))).trans g2,g3.un (ps:=[]) (fun _ _=>rfl) hW oy fun p hp=>⟨fun h=>(nomatch h),ny p hp⟩⟩
 have at_:∀ p∈ai 8 t,∃ k w,ax a (.inl p)=some k∧ax (bb b (.inl t.pl) (kof t)) (.inl p)=some w∧(k=w∨Occ k w):=fun p hp=>by
  rcases π.mp (show p∈t.pl :: (ai 8 t).tail from hp) with rfl | hp
  ·exact ⟨_,_,e.k,jG,.inl rfl⟩
  ·exact wG rw_ oc p hp
 obtain ⟨e',lp⟩:=jQ (n+21) t a (bb b (.inl t.pl) (kof t)) (e.r.d4 fun p hp=>nomatch hp) (ai 8 t) [] none (fun p hp=>by obtain ⟨k,w,g1,g2,_⟩:=at_ p hp;rw [g1,g2];exact ⟨rfl,rfl⟩) (by simp only [Υ];omega)
 rw [û] at lp
 have lo:aa Γ (n+22) ml [t.toD] [] = .ok (.lst ((jR a (bb b (.inl t.pl) (kof t)) (ai 8 t)).map sJ)) (ls a (bb b (.inl t.pl) (kof t))):=(ac true (aX 0 (lk) (aX 0 (pl) (aX 0 (lp) aZ))) (by kernel_rfl))
 have ll:(jR a (bb b (.inl t.pl) (kof t)) (ai 8 t)).length≤(ai 8 t).length:=List.length_filterMap_le _ _
 obtain ⟨f2,f3,f4,mk⟩:=nH t (n+2) (ls a (bb b (.inl t.pl) (kof t))) (jR a (bb b (.inl t.pl) (kof t)) (ai 8 t)) [] none none none (fun r hr=>by
  obtain ⟨p,hp,e⟩:=CP.mp hr
  obtain ⟨k,w,g1,g2,g3⟩:=at_ p hp
  unfold fAt at e
  rw [g1,g2] at e
  by_cases c:k=w
  ·simp [c] at e
  ·simp [c] at e
   subst e
   exact g3.resolve_left c) (by simp only [Υ];omega)
 refine ⟨_,ls a (bb b (.inl t.pl) (kof t)),(ac true (aX 0 (lo) (aX 0 (mk) aZ)) (by kernel_rfl)),?_,v7 o rw_ fun _ h=>h⟩
 rw [kU (eP (by decide))]
 unfold fAt
 rw [e.k,jG]
 simp
abbrev vl (h:μ) (d:D) (g:List D) (t:D):D:=.ins 2 [.str h,d,.tup g,t]
def ws (L:AlG Rw) (tg:Bool) (c:Int) (nt:List D):List O:=[.ins 4 [dL L,.lst [],.ref 1],.ins 3 [.int c,.bl tg,.ref 2],.lst nt]
def bY (f:Kd) (l l':D):D:=.tup [az f l,ie,az f l']
inductive RG (f:Kd) (q:Int):List D→Prop
 | one:RG f q [jF f q]
 | two (p:Int):RG f q [jF f q,xp f p]
 | tog (p:Int):RG f q [.tup [.str "row",bY f (lbl q ["item"]) (lbl p ["item"])]]
inductive PG (f g:Kd) (q:Int):List D→Prop
 | one:PG f g q [cF cj f g q]
 | two (p:Int):PG f g q [cF cj f g q,cF cf f g p]
 | tog (p:Int):PG f g q [.tup [.str "pair",bY f (lbl q ["one"]) (lbl p ["one"]),bY g (lbl q ["two"]) (lbl p ["two"])]]
section
variable {L:AlG Rw} {tg:Bool} {c:Int} {n:Nat} {nt:List D}
def bl (wd:D) (wl:D) (fd fl:D):D:=.tup [.str "blame",wl,wd,fl,fd]
theorem few (h:nt.length<90000):decide (nt.length<100000)=true:=ZW (by omega)
theorem sr (hl:nt.length<90000) (h:μ) (d:D) (k:Kd) (l:D):aa Γ (n+9) cZ [.ref 1,vl h d [] (az k l)] (ws L tg c nt) = .ok .non (ws L tg c (nt ++ [.tup [.int 0,.non,az k l]])):=(ac false (aX 11 (few hl) aZ) (by kernel_rfl))
theorem jW (hl:nt.length<90000) (h:μ) (d:D) (x:D) (xs:List D) (t:D):aa Γ (n+9) cZ [.ref 1,vl h d [.tup (x :: xs)] t] (ws L tg c nt) = .ok .non (ws L tg c (nt ++ [.tup [.int 1,.tup (x :: xs),t]])):=(ac false (aX 12 (few hl) aZ) (by kernel_rfl))
theorem ji (hl:nt.length<90000) (h:μ) (d:D) (g x:D) (xs:List D) (t:D):aa Γ (n+9) cZ [.ref 1,vl h d [g,.tup (x :: xs)] t] (ws L tg c nt) = .ok .non (ws L tg c (nt ++ [.tup [.int 2,.tup (x :: xs),t]])):=(ac false (aX 12 (few hl) aZ) (by kernel_rfl))
theorem du (hl:nt.length<90000) (h:μ) (d:D) (k:Kd) (l:D):∃ x,aa Γ (n+10) ao [.ref 1,vl h d [] .non,cf k l] (ws L tg c nt) = .ok (vl h d [] (az k l)) (ws L tg c (nt ++ [x])):=
 ⟨.tup [.int 0,.non,az k l],(ac false (aC (aC (aX 0 (sr (n:=n) (L:=L) (tg:=tg) (c:=c) hl h d k l) aZ))) (by kernel_rfl))⟩
theorem mc (x:D) (xs:List D) (e:opD .eq (.tup (x :: xs)) ie=some (.bl false)):aa Γ (n+9) dP [.ref 1,.tup [],.tup (x :: xs)] (ws L tg c nt) = .ok (.tup [.tup (x :: xs)]) (ws L tg c nt):=by
 cases tg <;> exact (ac false (aX 0 (e) aZ) (by kernel_rfl))
theorem we (hl:nt.length<90000) (d A B:D) (k:Kd) (l:D):∃ x,aa Γ (n+10) ao [.ref 1,vl "to" d [] .non,.tup [.non,.tup [.str "to",A,B],az k l]] (ws L tg c nt) = .ok (vl "to" d [.tup [.str "to",A,B]] (az k l)) (ws L tg c (nt ++ [x])):=
 ⟨.tup [.int 1,.tup [.str "to",A,B],az k l],(ac false (aC (aX 0 (mc (n:=n) (L:=L) (tg:=tg) (c:=c) (nt:=nt) (.str "to") [A,B] rfl) (aX 0 (jW (n:=n) (L:=L) (tg:=tg) (c:=c) hl "to" d (.str "to") [A,B] (az k l)) aZ))) (by kernel_rfl))⟩
def hK:Kd→Nat
 | .whole=>0 | .truth=>1 | .unt=>2 | .to _ _=>3 | .row _=>4 | .pair _ _=>5
theorem v9 {k w:Kd} (h:hK k=hK w) (S:List O):opD .ne (look S (gr k)) (look S (gr w))=some (.bl false):=by
 cases k <;> cases w <;> first | (cases h;done) | kernel_rfl
theorem wc {k w:Kd} (h:hK k≠hK w) (S:List O):opD .ne (look S (gr k)) (look S (gr w))=some (.bl true):=by
 cases k <;> cases w <;> first | exact ZX rfl h | kernel_rfl
theorem nQ {k w:Kd} (e:hK k=hK w) (l l':D):aa Γ (n+9) dX [az k l,az w l'] (ws L tg c nt) = .ok .non (ws L tg c nt):=(ac false (aX 2 (v9 e (ws L tg c nt)) aZ) (by kernel_rfl))
theorem A4 {k w:Kd} (e:hK k≠hK w) (l l':D):aa Γ (n+9) dX [az k l,az w l'] (ws L tg c nt) = .exc 1 [bl (gr w) l' (gr k) l] (ws L tg c nt):=(ac false (aX 2 (wc e (ws L tg c nt)) (aC aZ)) (by kernel_rfl))
theorem qR (h:μ) (d:D) (g:List D) {k w:Kd} (e:hK k=hK w) (l l':D):aa Γ (n+10) ao [.ref 1,vl h d g (az k l),cj w l'] (ws L tg c nt) = .ok (vl h d g .non) (ws L tg c nt):=
 (ac false (aX 0 (nQ (n:=n) (L:=L) (tg:=tg) (c:=c) (nt:=nt) e l l') (aC (aC aZ))) (by kernel_rfl))
theorem qS (h:μ) (d:D) (g:List D) {k w:Kd} (e:hK k≠hK w) (l l' b t:D):aa Γ (n+10) ao [.ref 1,vl h d g (az k l),.tup [az w l',b,t]] (ws L tg c nt) = .exc 1 [bl (gr w) l' (gr k) l] (ws L tg c nt):=
 (ac false (aX 0 (A4 (n:=n) (L:=L) (tg:=tg) (c:=c) (nt:=nt) e l l') aZ) (by kernel_rfl))
theorem Ax (hl:nt.length<90000) (d:D) {k w:Kd} (e:hK k=hK w) (l l' A:D):∃ x,aa Γ (n+10) ao [.ref 1,vl "row" d [] (az k l),.tup [az w l',.tup [.str "row",A],.non]] (ws L tg c nt) = .ok (vl "row" d [.tup [.str "row",A]] .non) (ws L tg c (nt ++ [x])):=
 ⟨.tup [.int 1,.tup [.str "row",A],.non],(ac false (aX 0 (nQ (n:=n) (L:=L) (tg:=tg) (c:=c) (nt:=nt) e l l') (aC (aX 0 (mc (n:=n) (L:=L) (tg:=tg) (c:=c) (nt:=nt) (.str "row") [A] rfl) (aX 0 (jW (n:=n) (L:=L) (tg:=tg) (c:=c) hl "row" d (.str "row") [A] .non) aZ)))) (by kernel_rfl))⟩
theorem Aw (hl:nt.length<90000) (d:D) {k w:Kd} (e:hK k=hK w) (l l' A B:D):∃ x,aa Γ (n+10) ao [.ref 1,vl "pair" d [] (az k l),.tup [az w l',.tup [.str "pair",A,B],.non]] (ws L tg c nt) = .ok (vl "pair" d [.tup [.str "pair",A,B]] .non) (ws L tg c (nt ++ [x])):=
 ⟨.tup [.int 1,.tup [.str "pair",A,B],.non],(ac false (aX 0 (nQ (n:=n) (L:=L) (tg:=tg) (c:=c) (nt:=nt) e l l') (aC (aX 0 (mc (n:=n) (L:=L) (tg:=tg) (c:=c) (nt:=nt) (.str "pair") [A,B] rfl) (aX 0 (jW (n:=n) (L:=L) (tg:=tg) (c:=c) hl "pair" d (.str "pair") [A,B] .non) aZ)))) (by kernel_rfl))⟩
theorem Az (hl:nt.length<90000) (d:D) {f:Kd} (hf:Flt f) (q p:Int):∃ g x,RG f q g∧aa Γ (n+30) ao [.ref 1,vl "row" d [jF f q] .non,mkD (.row f) .unt p] (ws L tg c nt) = .ok (vl "row" d g (az (.row f) (lbl p []))) (ws L tg c (nt ++ [x])):=by
 cases tg with
 | false=>
   refine ⟨_,.tup [.int 2,xp f p,az (.row f) (lbl p [])],.two p,?_⟩
   cases hf with
   | w=>exact (ac false (aC (aC (aX 0 (ji (n:=n+20) (L:=L) (tg:=false) (c:=c) hl "row" d (jF .whole q) (.str "row") [cf .whole (lbl p ["item"])] (az (.row .whole) (lbl p []))) aZ))) (by kernel_rfl))
   | t=>exact (ac false (aC (aC (aX 0 (ji (n:=n+20) (L:=L) (tg:=false) (c:=c) hl "row" d (jF .truth q) (.str "row") [cf .truth (lbl p ["item"])] (az (.row .truth) (lbl p []))) aZ))) (by kernel_rfl))
 | true=>
   refine ⟨_,.tup [.int 1,.tup [.str "row",bY f (lbl q ["item"]) (lbl p ["item"])],az (.row f) (lbl p [])],.tog p,?_⟩
   cases hf with
   | w=>exact (ac false (aC (aC (aX 0 (jW (n:=n+20) (L:=L) (tg:=true) (c:=c) hl "row" d (.str "row") [bY .whole (lbl q ["item"]) (lbl p ["item"])] (az (.row .whole) (lbl p []))) aZ))) (by kernel_rfl))
   | t=>exact (ac false (aC (aC (aX 0 (jW (n:=n+20) (L:=L) (tg:=true) (c:=c) hl "row" d (.str "row") [bY .truth (lbl q ["item"]) (lbl p ["item"])] (az (.row .truth) (lbl p []))) aZ))) (by kernel_rfl))
theorem Ay (hl:nt.length<90000) (d:D) {f g:Kd} (hf:Flt f) (hg:Flt g) (q p:Int):∃ y x,PG f g q y∧aa Γ (n+30) ao [.ref 1,vl "pair" d [cF cj f g q] .non,mkD (.pair f g) .unt p] (ws L tg c nt) = .ok (vl "pair" d y (az (.pair f g) (lbl p []))) (ws L tg c (nt ++ [x])):=by
 cases tg with
 | false=>
   refine ⟨_,.tup [.int 2,cF cf f g p,az (.pair f g) (lbl p [])],.two p,?_⟩
   cases hf with
   | w=>cases hg with
     | w=>exact (ac false (aC (aC (aX 0 (ji (n:=n+20) (L:=L) (tg:=false) (c:=c) hl "pair" d (cF cj .whole .whole q) (.str "pair") [cf .whole (lbl p ["one"]),cf .whole (lbl p ["two"])] (az (.pair .whole .whole) (lbl p []))) aZ))) (by kernel_rfl))
     | t=>exact (ac false (aC (aC (aX 0 (ji (n:=n+20) (L:=L) (tg:=false) (c:=c) hl "pair" d (cF cj .whole .truth q) (.str "pair") [cf .whole (lbl p ["one"]),cf .truth (lbl p ["two"])] (az (.pair .whole .truth) (lbl p []))) aZ))) (by kernel_rfl))
   | t=>cases hg with
     | w=>exact (ac false (aC (aC (aX 0 (ji (n:=n+20) (L:=L) (tg:=false) (c:=c) hl "pair" d (cF cj .truth .whole q) (.str "pair") [cf .truth (lbl p ["one"]),cf .whole (lbl p ["two"])] (az (.pair .truth .whole) (lbl p []))) aZ))) (by kernel_rfl))
     | t=>exact (ac false (aC (aC (aX 0 (ji (n:=n+20) (L:=L) (tg:=false) (c:=c) hl "pair" d (cF cj .truth .truth q) (.str "pair") [cf .truth (lbl p ["one"]),cf .truth (lbl p ["two"])] (az (.pair .truth .truth) (lbl p []))) aZ))) (by kernel_rfl))
 | true=>
   refine ⟨_,.tup [.int 1,.tup [.str "pair",bY f (lbl q ["one"]) (lbl p ["one"]),bY g (lbl q ["two"]) (lbl p ["two"])],az (.pair f g) (lbl p [])],.tog p,?_⟩
   cases hf with
   | w=>cases hg with
     | w=>exact (ac false (aC (aC (aX 0 (jW (n:=n+20) (L:=L) (tg:=true) (c:=c) hl "pair" d (.str "pair") [bY .whole (lbl q ["one"]) (lbl p ["one"]),bY .whole (lbl q ["two"]) (lbl p ["two"])] (az (.pair .whole .whole) (lbl p []))) aZ))) (by kernel_rfl))
     | t=>exact (ac false (aC (aC (aX 0 (jW (n:=n+20) (L:=L) (tg:=true) (c:=c) hl "pair" d (.str "pair") [bY .whole (lbl q ["one"]) (lbl p ["one"]),bY .truth (lbl q ["two"]) (lbl p ["two"])] (az (.pair .whole .truth) (lbl p []))) aZ))) (by kernel_rfl))
   | t=>cases hg with
     | w=>exact (ac false (aC (aC (aX 0 (jW (n:=n+20) (L:=L) (tg:=true) (c:=c) hl "pair" d (.str "pair") [bY .truth (lbl q ["one"]) (lbl p ["one"]),bY .whole (lbl q ["two"]) (lbl p ["two"])] (az (.pair .truth .whole) (lbl p []))) aZ))) (by kernel_rfl))
     | t=>exact (ac false (aC (aC (aX 0 (jW (n:=n+20) (L:=L) (tg:=true) (c:=c) hl "pair" d (.str "pair") [bY .truth (lbl q ["one"]) (lbl p ["one"]),bY .truth (lbl q ["two"]) (lbl p ["two"])] (az (.pair .truth .truth) (lbl p []))) aZ))) (by kernel_rfl))
end
abbrev nm0:D:=.dic [] []
abbrev mO (y:T68) (acc:List D) (e6 e7 e8:Option D):List (Option D):=[some (.ref 0),some y.toD,some nm0,some (.str y.word),none,some (.lst acc),e6,e7,e8]
abbrev vG (m:Nat):D→Sta→am:=cM Γ (aa Γ (m+10)) (aH Γ (m+10)) [6,7] false (cQ bf.body)
inductive Rl where
 | ok (vs:List D) (c:Int) (nt:List D) | er (e:D) (st:List O)
def Rl.put (v:D):Rl→Rl
 | .ok vs c nt=>.ok (v :: vs) c nt
 | r=>r
section
variable {L:AlG Rw} {tg:Bool}
inductive Pr (L:AlG Rw) (tg:Bool) (m:Nat) (y:T68):Nat→List T68→Int→List D→Rl→Prop
 | nil {i c nt}:Pr L tg m y i [] c nt (.ok [] c nt)
 | go {i:Nat} {z zs c nt v c1 nt1 r r'} (h:aa Γ (m+10) aI [.ref 0,z.toD,nm0] (ws L tg c nt) = .ok v (ws L tg c1 nt1)) (hn:∀ S,aa Γ (m+10) fN [y.toD,.int i,v] S = .ok .non S) (hr:Pr L tg m y (i+1) zs c1 nt1 r) (e:r'=r.put v):Pr L tg m y i (z :: zs) c nt r'
 | er {i z zs c nt e st} (h:aa Γ (m+10) aI [.ref 0,z.toD,nm0] (ws L tg c nt) = .exc 1 [e] st):Pr L tg m y i (z :: zs) c nt (.er e st)
def LpO (L:AlG Rw) (tg:Bool) (y:T68) (acc:List D) (o:am):Rl→Prop
 | .ok vs c' nt'=>∃ e6 e7 e8,o = .nx ⟨mO y (acc ++ vs) e6 e7 e8,[5],ws L tg c' nt'⟩
 | .er e st=>∃ env ow,o = .exc 1 [e] ⟨env,ow,st⟩
theorem sV {m:Nat} {y:T68} {i:Nat} {zs:List T68} {c:Int} {nt:List D} {r:Rl} (h:Pr L tg m y i zs c nt r):∀ (acc:List D) (e6 e7 e8:Option D),acc.length=i→i+zs.length<1000→LpO L tg y acc (aT (vG m) (bJ i (toDs zs)) ⟨mO y acc e6 e7 e8,[5],ws L tg c nt⟩) r:=by
 induction h with
 | nil=>exact fun acc e6 e7 e8 _ _=>⟨e6,e7,e8,by rw [ϕ];rfl⟩
 | @er i z zs c nt e st h=>
   intro acc e6 e7 e8 _ _
   have q:vG m (.tup [.int i,z.toD]) ⟨mO y acc e6 e7 e8,[5],ws L tg c nt⟩ = .exc 1 [e] ⟨mO y acc (some (.int i)) (some z.toD) e8,[5],st⟩:=aA rfl (b9 false (aX 0 (h) aZ) (by kernel_rfl))
   exact ⟨_,_,gI q fun s z=>by cases z⟩
 | @go i z zs c nt v c1 nt1 r r' h hn hr e ih=>
   intro acc e6 e7 e8 ha hl
   rw [Η] at hl
   have h2:=hn (ws L tg c1 nt1)
   have l0:decide (acc.length<100000)=true:=ZW (by omega)
   have st:vG m (.tup [.int i,z.toD]) ⟨mO y acc e6 e7 e8,[5],ws L tg c nt⟩ = .nx ⟨mO y (acc ++ [v]) (some (.int i)) (some z.toD) (some v),[5],ws L tg c1 nt1⟩:=aA rfl (b9 false (aX 0 (h) (aX 0 (h2) (aX 0 (l0) aZ))) (by kernel_rfl))
   have ih:=ih (acc ++ [v]) (some (.int i)) (some z.toD) (some v) (by rw [ω,ϊ,ha]) (by omega)
   subst e
   cases r with
   | ok vs c2 nt2=>
     obtain ⟨a,b,d,q⟩:=ih
     rw [Ô] at q
     exact ⟨a,b,d,aW st q⟩
   | er e2 st2=>
     obtain ⟨a,b,q⟩:=ih
     exact ⟨a,b,aW st q⟩
def gone:T68→Prop
 | .as_ _ _ _=>True
 | .row _ _ _=>True
 | .pair _ _ _=>True
 | _=>False
theorem xw {y:T68} (h:gone y):(y.word == ("call":μ))=false:=by cases y <;> first | exact h.elim | rfl
theorem AA {y:T68} (hg:gone y) (n:Nat) (S:List O):exS Γ (aa Γ n) (aH Γ n) (hdS 4 bf.body) ⟨[some (.ref 0),some y.toD,some nm0,none,none,none,none,none,none],[],S⟩ = .nx ⟨mO y [] none none none,[5],S⟩:=by
 cases y <;> first | exact hg.elim | kernel_rfl
variable {m:Nat} {y:T68} {c c1:Int} {nt nt1:List D}
theorem vo_er (hg:gone y) (hl:(ay y).length<900) {e:D} {st:List O} (h:Pr L tg m y 0 (ay y) c nt (.er e st)):aa Γ (m+11) ah [.ref 0,y.toD,nm0] (ws L tg c nt) = .exc 1 [e] st:=by
 obtain ⟨env,ow,hf⟩:=sV h [] none none none rfl (by omega)
 have hp:=hU y (m+7) (ws L tg c nt)
 exact dJ 4 bf rfl rfl (AA hg _ _) (mU true (aX 0 (hp) (aX 0 (hf) aZ)) (by kernel_rfl))
theorem sZ (hg:gone y) (hl:(ay y).length<900) {vs:List D} (h:Pr L tg m y 0 (ay y) c nt (.ok vs c1 nt1)) {v:D} {S:List O} (hd:aa Γ (m+10) xD [y.toD,.lst vs,.ref 1] (ws L tg c1 nt1) = .ok v S):aa Γ (m+11) ah [.ref 0,y.toD,nm0] (ws L tg c nt) = .ok v S:=by
 obtain ⟨a,b,d,hf⟩:=sV h [] none none none rfl (by omega)
 have hp:=hU y (m+7) (ws L tg c nt)
 exact dJ 4 bf rfl rfl (AA hg _ _) (mU true (aX 0 (hp) (aX 0 (hf) (aX 1 (xw hg) (aX 0 (hd) aZ)))) (by kernel_rfl))
theorem AG (L:AlG Rw) (p:Int):opD .isin (.int p) (dL L)=some (.bl (ax L (.inl p)).isSome):=by
 show some (D.bl (cg (ksA L) (dsF mkR L) (.inl p)).isSome)=_
 rw [mY]
 cases ax L (.inl p) <;> rfl
theorem BL {p:Int} {r:Rw} (h:ax L (.inl p)=some r):ixD (dL L) (.int p)=some (mkR r):=by
 show cg (ksA L) (dsF mkR L) (.inl p)=_
 rw [mY,h];rfl
variable {N v:D}
theorem cD (hL:ax L (.inl y.pl)=none) (hv:aa Γ (m+11) ah [.ref 0,y.toD,N] (ws L tg c nt) = .ok v (ws L tg c1 nt1)):aa Γ (m+12) aI [.ref 0,y.toD,N] (ws L tg c nt) = .ok v (ws L tg c1 nt1):=by
 have hi:=AG L y.pl
 rw [hL] at hi
 exact (ac false (aX 0 (hv) (aX 0 (c9 y (ws L tg c1 nt1)) (aX 1 (hi) aZ))) (by kernel_rfl))
theorem eB {r:Rw} (hL:ax L (.inl y.pl)=some r) (hv:aa Γ (m+11) ah [.ref 0,y.toD,N] (ws L tg c nt) = .ok v (ws L tg c1 nt1)) {u:D} {S:List O} (hg:aa Γ (m+11) ao [.ref 1,v,mkR r] (ws L tg c1 nt1) = .ok u S):aa Γ (m+12) aI [.ref 0,y.toD,N] (ws L tg c nt) = .ok u S:=by
 have hi:=AG L y.pl
 rw [hL] at hi
 exact (ac false (aX 0 (hv) (aX 0 (c9 y (ws L tg c1 nt1)) (aX 1 (hi) (aX 4 (c9 y (ws L tg c1 nt1)) (aX 0 (BL hL) (aX 0 (hg) aZ)))))) (by kernel_rfl))
end
theorem iK (q:Nat):nb (q+1)=1+4 * nb q:=rfl
def Nh (y:T68) (i:Nat) (v:D):Prop:=∀ n S,aa Γ (n+10) fN [y.toD,.int i,v] S = .ok .non S
section
variable {L:AlG Rw} {tg pl:Bool} {q:Nat} {c c1 c' c2:Int} {y:T68} {o:Ou} {v u e:D} {vs:List D} {r:Rw}
theorem CA {k:Nat} (h:k≤4):k * (4 * nb q)+4≤4 * nb (q+1):=by
 have:=ă (4 * nb q) h
 rw [iK];omega
theorem A5 {p:Int} {k:Kd} {z:T68}:Nh (.as_ p k z) 0 v:=fun n S=>(ac false aZ (by kernel_rfl))
theorem yI {p:Int} {k:Kd} {zs:List T68} (i:Nat):Nh (.row p k zs) i v:=fun n S=>by
 have e0:decide ((i:Int)<0)=false:=ZV (by omega)
 exact (ac false aZ (by kernel_rfl))
end
inductive Sn where
 | num (p i:Int) | tru (p:Int) (b:Bool) | fn (p:Int) (x:μ) (k:Kd) (q:Int)
def Sn.node:Sn→T68
 | .num p i=>.whole p i | .tru p b=>.truth p b | .fn p x k q=>.fn p x k q
def Sn.kd:Sn→Kd
 | .num ..=>.whole | .tru ..=>.truth | .fn _ _ k _=>.to k k
def Sn.hd:Sn→μ
 | .num ..=>"whole" | .tru ..=>"truth" | .fn ..=>"to"
def Sn.held:Sn→D
 | .num _ i=>.int i | .tru _ b=>.bl b | .fn p x k q=>.tup [(T68.fn p x k q).toD,nm0]
def Sn.flat:Sn→Bool
 | .fn ..=>false | _=>true
inductive Th where
 | sg (s:Sn) | row (p:Int) (l:List Th) (tk:Option (Kd×Int×Int)) | pair (p pa pb:Int) (a b:Th) (tk:Option (Kd×Kd×Int×Int))
def CG (p:Int) (l:List T68):Option (Kd×Int×Int)→T68
 | none=>.row p .unt l
 | some (f,q,p1)=>.as_ p1 (.row f) (.as_ q .unt (.row p .unt l))
def Bm (p:Int) (a b:T68):Option (Kd×Kd×Int×Int)→T68
 | none=>.pair p a b
 | some (f,g,q,p1)=>.as_ p1 (.pair f g) (.as_ q .unt (.pair p a b))
mutual
noncomputable def Th.node:Th→T68
 | .sg s=>s.node
 | .row p l tk=>CG p (bF l) tk
 | .pair p pa pb a b tk=>Bm p (.as_ pa .unt a.node) (.as_ pb .unt b.node) tk
noncomputable def bF:List Th→List T68
 | []=>[]
 | x :: r=>x.node :: bF r
end
def By:Option (Kd×Int×Int)→Kd
 | none=>.row .unt | some (f,_,_)=>.row f
def wA:Option (Kd×Kd×Int×Int)→Kd
 | none=>.pair .unt .unt | some (f,g,_,_)=>.pair f g
def Th.kd:Th→Kd
 | .sg s=>s.kd | .row _ _ tk=>By tk | .pair _ _ _ _ _ tk=>wA tk
inductive Fnk:Kd→Prop
 | u:Fnk .unt | w:Fnk .whole | r:Fnk (.row .truth)
inductive Wt:Th→Prop
 | num {p i} (h:i.natAbs<10 ^ 40):Wt (.sg (.num p i))
 | tru {p b}:Wt (.sg (.tru p b))
 | fn {p x k q} (h:Fnk k):Wt (.sg (.fn p x k q))
 | row {p l tk} (h:∀ x∈l,Wt x) (ht:∀ f q p1,tk=some (f,q,p1)→Flt f) (hl:l.length≤4):Wt (.row p l tk)
 | pair {p pa pb a b tk} (ha:Wt a) (hb:Wt b) (ht:∀ f g q p1,tk=some (f,g,q,p1)→Flt f∧Flt g):Wt (.pair p pa pb a b tk)
def tgO (pl o:Bool) (k:Kd) (p:Int):D:=if pl=true∨o=false then .non else az k (lbl p [])
def GrR (pl o:Bool) (g:List D):Option (Kd×Int×Int)→Prop
 | none=>g = [] | some (f,q,_)=>match pl,o with | true,_=>g = [] | false,false=>g = [jF f q] | false,true=>RG f q g
def GrP (pl o:Bool) (y:List D):Option (Kd×Kd×Int×Int)→Prop
 | none=>y = [] | some (f,g,q,_)=>match pl,o with | true,_=>y = [] | false,false=>y = [cF cj f g q] | false,true=>PG f g q y
mutual
inductive Cm (pl:Bool):Bool→Th→D→Prop
 | sg {o s g} (hg:s.flat=true∨pl=true∨o=false→g = []):Cm pl o (.sg s) (vl s.hd s.held g (tgO pl o s.kd s.node.pl))
 | row {o p l tk vs g} (h:Cms pl l vs) (hg:GrR pl o g tk):Cm pl o (.row p l tk) (vl "row" (.tup vs) g (tgO pl o (By tk) (Th.row p l tk).node.pl))
 | pair {o p pa pb a b tk v w g} (h1:Cm pl true a v) (h2:Cm pl true b w) (hg:GrP pl o g tk):Cm pl o (.pair p pa pb a b tk) (vl "pair" (.tup [v,w]) g (tgO pl o (wA tk) (Th.pair p pa pb a b tk).node.pl))
inductive Cms (pl:Bool):List Th→List D→Prop
 | nil:Cms pl [] []
 | cons {x l v vs} (h:Cm pl true x v) (r:Cms pl l vs):Cms pl (x :: l) (v :: vs)
end
theorem jM:∀ x:Th,kof x.node=x.kd:=fun x=>by
 cases x with
 | sg s=>cases s <;> rfl
 | row p l tk=>cases tk <;> rfl
 | pair p pa pb a b tk=>cases tk <;> rfl
theorem Wt.occ {x:Th} (h:Wt x):Occ x.kd .unt:=by
 cases h with
 | num=>exact .w
 | tru=>exact .t
 | fn h=>cases h;exact .f0;exact .f1;exact .f2
 | @row p l tk h ht=>
   match tk,ht with
   | none,_=>exact .r0
   | some (f,q,p1),ht=>exact .rF (ht f q p1 rfl)
 | @pair p pa pb a b tk ha hb ht=>
   match tk,ht with
   | none,_=>exact .p0
   | some (f,g,q,p1),ht=>exact .pF (ht f g q p1 rfl).1 (ht f g q p1 rfl).2
theorem Wt.ne {x:Th} (h:Wt x):x.kd≠.unt:=fun e=>by have:=h.occ;rw [e] at this;cases this
section
variable {L:AlG Rw} {tg pl:Bool} {q:Nat} {c:Int} {x:Th} {v:D}
theorem nR {p:Int} {a b:T68} (i:Nat):Nh (.pair p a b) i v:=fun n S=>by
 have e0:decide ((i:Int)<0)=false:=ZV (by omega)
 exact (ac false aZ (by kernel_rfl))
theorem jq {o:Bool} {k:Kd} {p:Int}:tgO true o k p = .non:=ZZ (.inl rfl)
theorem d6 {pl:Bool} {k:Kd} {p:Int}:tgO pl false k p = .non:=ZZ (.inr rfl)
theorem Ag (w:Wt x) (h:Cm false false x v) (nt:List D) (n:Nat) (hl:nt.length<90000):∃ v' nt',Cm false true x v'∧nt'.length≤nt.length+1∧aa Γ (n+30) ao [.ref 1,v,mkD x.kd .unt x.node.pl] (ws L tg c nt) = .ok v' (ws L tg c nt'):=by
 cases h with
 | @sg _ s g hg=>
   rw [d6]
   cases hg (.inr (.inr rfl))
   cases s with
   | num p i=>
     obtain ⟨y,e⟩:=du (L:=L) (tg:=tg) (c:=c) (n:=n+20) hl "whole" (.int i) .whole (lbl p [])
     exact ⟨_,_,.sg fun _=>rfl,by simp,e⟩
   | tru p b=>
     obtain ⟨y,e⟩:=du (L:=L) (tg:=tg) (c:=c) (n:=n+20) hl "truth" (.bl b) .truth (lbl p [])
     exact ⟨_,_,.sg fun _=>rfl,by simp,e⟩
   | fn p y k q=>
     have nof:¬ ((Sn.fn p y k q).flat=true∨false=true∨true=false):=fun z=>by rcases z with z | z | z <;> cases z
     cases w with
     | fn hk=>
       cases hk with
       | u=>
         obtain ⟨z,e⟩:=du (L:=L) (tg:=tg) (c:=c) (n:=n+20) hl "to" (.tup [(T68.fn p y .unt q).toD,nm0]) (.to .unt .unt) (lbl p [])
         exact ⟨_,_,.sg (g:=[]) fun _=>rfl,by simp,e⟩
       | w=>
         obtain ⟨z,e⟩:=we (L:=L) (tg:=tg) (c:=c) (n:=n+20) hl (.tup [(T68.fn p y .whole q).toD,nm0]) (cj .whole (rA p ["arg"])) (cf .whole (lbl p ["res"])) (.to .whole .whole) (lbl p [])
         exact ⟨_,_,.sg (s:=.fn p y .whole q) fun z=>(nof z).elim,by simp,e⟩
       | r=>
         obtain ⟨z,e⟩:=we (L:=L) (tg:=tg) (c:=c) (n:=n+20) hl (.tup [(T68.fn p y (.row .truth) q).toD,nm0]) _ _ (.to (.row .truth) (.row .truth)) (lbl p [])
         exact ⟨_,_,.sg (s:=.fn p y (.row .truth) q) fun z=>(nof z).elim,by simp,e⟩
 | @row _ p l tk vs g h hg=>
   rw [d6]
   match tk,hg with
   | none,hg=>
     cases (show g = [] from hg)
     obtain ⟨y,e⟩:=du (L:=L) (tg:=tg) (c:=c) (n:=n+20) hl "row" (.tup vs) (.row .unt) (lbl p [])
     exact ⟨_,_,.row (tk:=none) h rfl,by simp,e⟩
   | some (f,q,p1),hg=>
     cases (show g = [jF f q] from hg)
     cases w with
     | row hw ht=>
       obtain ⟨y,z,e1,e⟩:=Az (L:=L) (tg:=tg) (c:=c) (n:=n) hl (.tup vs) (ht f q p1 rfl) q p1
       exact ⟨_,_,.row (tk:=some (f,q,p1)) h e1,by simp,e⟩
 | @pair _ p pa pb a b tk v w' g h1 h2 hg=>
   rw [d6]
   match tk,hg with
   | none,hg=>
     cases (show g = [] from hg)
     obtain ⟨y,e⟩:=du (L:=L) (tg:=tg) (c:=c) (n:=n+20) hl "pair" (.tup [v,w']) (.pair .unt .unt) (lbl p [])
     exact ⟨_,_,.pair (tk:=none) h1 h2 rfl,by simp,e⟩
   | some (f,f',q,p1),hg=>
     cases (show g = [cF cj f f' q] from hg)
     cases w with
     | pair ha hb ht=>
       obtain ⟨y,z,e1,e⟩:=Ay (L:=L) (tg:=tg) (c:=c) (n:=n) hl (.tup [v,w']) (ht f f' q p1 rfl).1 (ht f f' q p1 rfl).2 q p1
       exact ⟨_,_,.pair (tk:=some (f,f',q,p1)) h1 h2 e1,by simp,e⟩
theorem Af (h:Cm true false x v):Cm true true x v:=by
 cases h with
 | @sg _ s g hg=>
   have:=Cm.sg (pl:=true) (o:=true) (s:=s) (g:=g) fun _=>hg (.inr (.inl rfl))
   rw [jq] at this
   rw [jq];exact this
 | @row _ p l tk vs g h hg=>
   have:=Cm.row (pl:=true) (o:=true) (p:=p) (l:=l) (tk:=tk) (vs:=vs) (g:=g) h (by cases tk <;> exact hg)
   rw [jq] at this
   rw [jq];exact this
 | @pair _ p pa pb a b tk v w g h1 h2 hg=>
   have:=Cm.pair (pl:=true) (o:=true) (p:=p) (pa:=pa) (pb:=pb) (tk:=tk) (g:=g) h1 h2 (by cases tk <;> exact hg)
   rw [jq] at this
   rw [jq];exact this
def Co (L:AlG Rw) (tg pl:Bool) (q:Nat) (c:Int) (x:Th):Prop:=∀ nt m,nt.length+4 * nb q<90000→2 * q+60≤m→∃ v nt',Cm pl true x v∧nt'.length≤nt.length+4 * nb q∧aa Γ m aI [.ref 0,x.node.toD,nm0] (ws L tg c nt) = .ok v (ws L tg c nt')
def Va (L:AlG Rw) (tg pl:Bool) (q:Nat) (c:Int) (x:Th):Prop:=∀ nt m,nt.length+4 * nb (q+1)<90000→2 * q+61≤m→∃ v nt',Cm pl false x v∧nt'.length≤nt.length+(4 * nb (q+1) - 1)∧aa Γ m ah [.ref 0,x.node.toD,nm0] (ws L tg c nt) = .ok v (ws L tg c nt')
theorem Ah (w:Wt x) (hL:ax L (.inl x.node.pl)=lkO pl x.kd .unt x.node.pl) (h:Va L tg pl q c x):Co L tg pl (q+1) c x:=by
 intro nt m hn hm
 obtain ⟨m,rfl⟩:∃ k,m=k+42:=⟨m - 42,by omega⟩
 obtain ⟨v,nt1,cm,l1,e⟩:=h nt (m+41) hn (by omega)
 have:=iK q
 cases pl with
 | true=>
   exact ⟨v,nt1,Af cm,by omega,cD (hL.trans (ZZ (.inl rfl))) e⟩
 | false=>
   obtain ⟨v',nt2,cm',l2,g⟩:=Ag (L:=L) (tg:=tg) (c:=c) w cm nt1 (m+11) (by omega)
   exact ⟨v',nt2,cm',by omega,eB (hL.trans (ZY (by simp [w.ne]))) e g⟩
end
section
variable {L:AlG Rw} {tg pl:Bool} {q k:Nat} {c:Int} {x:Th} {v d:D} {nt nt1:List D} {m:Nat} {z:T68} {p:Int}
theorem dR {K:Kd} (h:aa Γ (m+10) aI [.ref 0,z.toD,nm0] (ws L tg c nt) = .ok v (ws L tg c nt1)):aa Γ (m+11) ah [.ref 0,(T68.as_ p K z).toD,nm0] (ws L tg c nt) = .ok v (ws L tg c nt1):=
 sZ (y:=.as_ p K z) trivial (Ο rfl) (.go h (fun S=>A5 m S) .nil rfl) (ac false aZ (by kernel_rfl))
theorem prs {y:T68} (hn:∀ i v,Nh y i v):∀ (l:List Th) (i:Nat) (nt:List D),(∀ x∈l,Co L tg pl k c x)→nt.length+l.length * (4 * nb k)<90000→2 * k+60≤m+10→∃ vs nt',Cms pl l vs∧nt'.length≤nt.length+l.length * (4 * nb k)∧Pr L tg m y i (bF l) c nt (.ok vs c nt')
 | [],i,nt,_,_,_=>⟨[],nt,.nil,by omega,.nil⟩
 | x :: l,i,nt,h,hl,hm=>by
   rw [Η,Ą] at hl
   obtain ⟨v,nt1,cm,l1,e⟩:=h x κ nt (m+10) (by omega) hm
   obtain ⟨vs,nt2,cms,l2,pr⟩:=prs hn l (i+1) nt1 (fun y hy=>h y (ι _ hy)) (by omega) hm
   exact ⟨v :: vs,nt2,.cons cm cms,by rw [Η,Ą];omega,.go e (fun S=>hn i v m S) pr rfl⟩
theorem cR:∀ l:List Th,(bF l).length=l.length
 | []=>rfl
 | x :: l=>ZS (· + 1) (cR l)
theorem Bz {l:List Th} (l4:l.length≤4) (h:∀ x∈l,Co L tg pl k c x) (hl:nt.length+4 * nb (k+1)<90000) (hm:2 * k+61≤m+11):∃ vs nt',Cms pl l vs∧nt'.length+4≤nt.length+4 * nb (k+1)∧aa Γ (m+11) ah [.ref 0,(T68.row p .unt (bF l)).toD,nm0] (ws L tg c nt) = .ok (vl "row" (.tup vs) [] .non) (ws L tg c nt'):=by
 have k4:=CA (q:=k) l4
 obtain ⟨vs,nt',cms,l1,pr⟩:=prs (y:=.row p .unt (bF l)) (m:=m) (fun i v=>yI i) l 0 nt h (by omega) (by omega)
 exact ⟨vs,nt',cms,by omega,sZ (y:=.row p .unt (bF l)) trivial (by show (bF l).length<900;rw [cR];omega) pr (ac false (aC aZ) (by kernel_rfl))⟩
theorem wC {pa pb:Int} {a b:Th} (ha:Co L tg pl k c a) (hb:Co L tg pl k c b) (La:ax L (.inl pa)=none) (Lb:ax L (.inl pb)=none) (hl:nt.length+4 * nb (k+1)<90000) (hm:2 * k+63≤m+11):∃ v w nt',Cm pl true a v∧Cm pl true b w∧nt'.length+4≤nt.length+4 * nb (k+1)∧aa Γ (m+11) ah [.ref 0,(T68.pair p (.as_ pa .unt a.node) (.as_ pb .unt b.node)).toD,nm0] (ws L tg c nt) = .ok (vl "pair" (.tup [v,w]) [] .non) (ws L tg c nt'):=by
 have:=iK k
 obtain ⟨m,rfl⟩:∃ j,m=j+2:=⟨m - 2,by omega⟩
 obtain ⟨v,nt1,cv,l1,e1⟩:=ha nt (m+10) (by omega) (by omega)
 obtain ⟨w,nt2,cw,l2,e2⟩:=hb nt1 (m+10) (by omega) (by omega)
 have f1:=cD (y:=.as_ pa .unt a.node) La (dR (p:=pa) (K:=.unt) e1)
 have f2:=cD (y:=.as_ pb .unt b.node) Lb (dR (p:=pb) (K:=.unt) e2)
 exact ⟨v,w,nt2,cv,cw,by omega,sZ (m:=m+2) (y:=.pair p (.as_ pa .unt a.node) (.as_ pb .unt b.node)) trivial (Ο rfl) (.go f1 (fun S=>nR 0 (m+2) S) (.go f2 (fun S=>nR 1 (m+2) S) .nil rfl) rfl) (ac false (aC aZ) (by kernel_rfl))⟩
theorem BE {f:Kd} {u p1:Int} (hz:z.pl=p) (L1:ax L (.inl p)=lkO pl (.row .unt) .unt p) (L2:ax L (.inl u)=lkO pl .unt (.row f) u) (hl:nt1.length+2<90000) (h:aa Γ (m+11) ah [.ref 0,z.toD,nm0] (ws L tg c nt) = .ok (vl "row" d [] .non) (ws L tg c nt1)):∃ g nt2,GrR pl false g (some (f,u,p1))∧nt2.length≤nt1.length+2∧aa Γ (m+15) ah [.ref 0,(T68.as_ p1 (.row f) (.as_ u .unt z)).toD,nm0] (ws L tg c nt) = .ok (vl "row" d g .non) (ws L tg c nt2):=by
 subst hz
 cases pl with
 | true=>
   have f1:=dR (p:=u) (K:=.unt) (m:=m+2) (cD (L1.trans (ZZ (.inl rfl))) h)
   exact ⟨[],nt1,rfl,by omega,dR (m:=m+4) (cD (y:=.as_ u .unt z) (L2.trans (ZZ (.inl rfl))) f1)⟩
 | false=>
   obtain ⟨y1,e1⟩:=du (L:=L) (tg:=tg) (c:=c) (n:=m+1) (nt:=nt1) (by omega) "row" d (.row .unt) (lbl z.pl [])
   have f1:=dR (p:=u) (K:=.unt) (m:=m+2) (eB (L1.trans (ZY (by simp))) h e1)
   obtain ⟨y2,e2⟩:=Ax (L:=L) (tg:=tg) (c:=c) (n:=m+3) (nt:=nt1 ++ [y1]) (by simp;omega) d (k:=.row .unt) (w:=.row f) rfl (lbl z.pl []) (lbl u []) (cj f (lbl u ["item"]))
   exact ⟨_,_,rfl,by simp,dR (m:=m+4) (eB (y:=.as_ u .unt z) (L2.trans (ZY (by simp))) f1 e2)⟩
theorem BD {f g':Kd} {u p1:Int} (hz:z.pl=p) (L1:ax L (.inl p)=lkO pl (.pair .unt .unt) .unt p) (L2:ax L (.inl u)=lkO pl .unt (.pair f g') u) (hl:nt1.length+2<90000) (h:aa Γ (m+11) ah [.ref 0,z.toD,nm0] (ws L tg c nt) = .ok (vl "pair" d [] .non) (ws L tg c nt1)):∃ g nt2,GrP pl false g (some (f,g',u,p1))∧nt2.length≤nt1.length+2∧aa Γ (m+15) ah [.ref 0,(T68.as_ p1 (.pair f g') (.as_ u .unt z)).toD,nm0] (ws L tg c nt) = .ok (vl "pair" d g .non) (ws L tg c nt2):=by
 subst hz
 cases pl with
 | true=>
   have f1:=dR (p:=u) (K:=.unt) (m:=m+2) (cD (L1.trans (ZZ (.inl rfl))) h)
   exact ⟨[],nt1,rfl,by omega,dR (m:=m+4) (cD (y:=.as_ u .unt z) (L2.trans (ZZ (.inl rfl))) f1)⟩
 | false=>
   obtain ⟨y1,e1⟩:=du (L:=L) (tg:=tg) (c:=c) (n:=m+1) (nt:=nt1) (by omega) "pair" d (.pair .unt .unt) (lbl z.pl [])
   have f1:=dR (p:=u) (K:=.unt) (m:=m+2) (eB (L1.trans (ZY (by simp))) h e1)
   obtain ⟨y2,e2⟩:=Aw (L:=L) (tg:=tg) (c:=c) (n:=m+3) (nt:=nt1 ++ [y1]) (by simp;omega) d (k:=.pair .unt .unt) (w:=.pair f g') rfl (lbl z.pl []) (lbl u []) (cj f (lbl u ["one"])) (cj g' (lbl u ["two"]))
   exact ⟨_,_,rfl,by simp,dR (m:=m+4) (eB (y:=.as_ u .unt z) (L2.trans (ZY (by simp))) f1 e2)⟩
theorem gZ:∀ {l:List Th} {x:Th},x∈l→∃ i:Nat,(bF l)[i]? = some x.node
 | y :: l,x,h=>by
   rcases π.mp h with rfl | h
   ·exact ⟨0,rfl⟩
   ·obtain ⟨i,e⟩:=gZ h
    exact ⟨i+1,e⟩
theorem nq {p:Int}:lkO pl .unt .unt p=none:=ZZ (.inr rfl)
theorem sW:∀ (q:Nat) (x:Th),Ok (q+1) x.node→Ft L pl (q+1) x.node→Wt x→Va L tg pl q c x:=fun q=>by
 induction q using FT with
 | _ q ih=>
   intro x o ft w nt m hn hm
   have kid:∀ (j:Nat) (y:Th),j<q+1→Ok j y.node→Ft L pl j y.node→Wt y→ax L (.inl y.node.pl)=lkO pl (kof y.node) .unt y.node.pl→Co L tg pl j c y:=fun j y hj oy fy wy hL=>by
    cases j with
    | zero=>exact oy.elim
    | succ j=>exact Ah wy (by rw [← jM];exact hL) (ih j (by omega) y oy fy wy)
   have:=iK q
   cases w with
   | num=>
     obtain ⟨m,rfl⟩:∃ j,m=j+10:=⟨m - 10,by omega⟩
     exact ⟨_,nt,.sg (g:=[]) fun _=>rfl,by omega,by rw [d6];exact (ac false (aC aZ) (by kernel_rfl))⟩
   | tru=>
     obtain ⟨m,rfl⟩:∃ j,m=j+10:=⟨m - 10,by omega⟩
     exact ⟨_,nt,.sg (g:=[]) fun _=>rfl,by omega,by rw [d6];exact (ac false (aC aZ) (by kernel_rfl))⟩
   | @fn p x k u hk=>
     obtain ⟨m,rfl⟩:∃ j,m=j+10:=⟨m - 10,by omega⟩
     exact ⟨_,nt,.sg (s:=.fn p x k u) (g:=[]) fun _=>rfl,by omega,by rw [d6];exact (ac false (aC aZ) (by kernel_rfl))⟩
   | @row p l tk hw ht=>
     match tk,ht,o,ft with
     | none,_,o,ft=>
       have l4:l.length≤4:=by have:=o.1;rw [← cR];exact this
       obtain ⟨m,rfl⟩:∃ j,m=j+11:=⟨m - 11,by omega⟩
       obtain ⟨vs,nt',cms,l1,e⟩:=Bz (k:=q) (p:=p) (m:=m) (nt:=nt) l4 (fun y hy=>by
        obtain ⟨i,hi⟩:=gZ hy
        exact kid q y (by omega) (o.2.2 y.node (ο hi)).1 (ft i y.node hi).2 (hw y hy) (ft i y.node hi).1) (by omega) (by omega)
       exact ⟨_,nt',.row (tk:=none) cms rfl,by omega,by rw [d6];exact e⟩
     | some (f,u,p1),ht,o,ft=>
       obtain ⟨o1,f1⟩:=Ĺ (o.2.2 _ (.head _)).1 (ft 0 _ rfl)
       cases q with
       | zero=>exact o1.elim
       | succ q=>
         obtain ⟨o2,f2⟩:=Ĺ (o1.2.2 _ (.head _)).1 (f1.2 0 _ rfl)
         cases q with
         | zero=>exact o2.elim
         | succ q=>
           have l4:l.length≤4:=by have:=o2.1;rw [← cR];exact this
           have:=iK (q+1)
           have:=iK q
           obtain ⟨m,rfl⟩:∃ j,m=j+15:=⟨m - 15,by omega⟩
           obtain ⟨vs,nt',cms,l1,e⟩:=Bz (k:=q) (p:=p) (m:=m) (nt:=nt) l4 (fun y hy=>by
            obtain ⟨i,hi⟩:=gZ hy
            exact kid q y (by omega) (o2.2.2 y.node (ο hi)).1 (f2.2 i y.node hi).2 (hw y hy) (f2.2 i y.node hi).1) (by omega) (by omega)
           obtain ⟨g,nt2,hg,l2,e2⟩:=BE (p1:=p1) rfl f2.1 f1.1 (by omega) e
           exact ⟨_,nt2,.row (tk:=some (f,u,p1)) cms hg,by omega,by rw [d6];exact e2⟩
   | @pair p pa pb a b tk wa wb ht=>
     match tk,ht,o,ft with
     | none,_,o,ft=>
       obtain ⟨oa,fa⟩:=Ĺ (o.2.2 _ (.head _)).1 (ft 0 _ rfl)
       obtain ⟨ob,fb⟩:=Ĺ (o.2.2 _ (.tail _ (.head _))).1 (ft 1 _ rfl)
       cases q with
       | zero=>exact oa.elim
       | succ q=>
         have:=iK q
         obtain ⟨m,rfl⟩:∃ j,m=j+11:=⟨m - 11,by omega⟩
         obtain ⟨v,w',nt',cv,cw,l1,e⟩:=wC (k:=q) (p:=p) (m:=m) (nt:=nt) (kid q a (by omega) (oa.2.2 _ (.head _)).1 (fa.2 0 _ rfl).2 wa (fa.2 0 _ rfl).1) (kid q b (by omega) (ob.2.2 _ (.head _)).1 (fb.2 0 _ rfl).2 wb (fb.2 0 _ rfl).1) (fa.1.trans nq) (fb.1.trans nq) (by omega) (by omega)
         exact ⟨_,nt',.pair (tk:=none) cv cw rfl,by omega,by rw [d6];exact e⟩
     | some (f,g',u,p1),ht,o,ft=>
       obtain ⟨o1,f1⟩:=Ĺ (o.2.2 _ (.head _)).1 (ft 0 _ rfl)
       cases q with
       | zero=>exact o1.elim
       | succ q=>
         obtain ⟨o2,f2⟩:=Ĺ (o1.2.2 _ (.head _)).1 (f1.2 0 _ rfl)
         cases q with
         | zero=>exact o2.elim
         | succ q=>
           obtain ⟨oa,fa⟩:=Ĺ (o2.2.2 _ (.head _)).1 (f2.2 0 _ rfl)
           obtain ⟨ob,fb⟩:=Ĺ (o2.2.2 _ (.tail _ (.head _))).1 (f2.2 1 _ rfl)
           cases q with
           | zero=>exact oa.elim
           | succ q=>
             have:=iK (q+1+1)
             have:=iK (q+1)
             have:=iK q
             obtain ⟨m,rfl⟩:∃ j,m=j+15:=⟨m - 15,by omega⟩
             obtain ⟨v,w',nt',cv,cw,l1,e⟩:=wC (k:=q) (p:=p) (m:=m) (nt:=nt) (kid q a (by omega) (oa.2.2 _ (.head _)).1 (fa.2 0 _ rfl).2 wa (fa.2 0 _ rfl).1) (kid q b (by omega) (ob.2.2 _ (.head _)).1 (fb.2 0 _ rfl).2 wb (fb.2 0 _ rfl).1) (fa.1.trans nq) (fb.1.trans nq) (by omega) (by omega)
             obtain ⟨g,nt2,hg,l2,e2⟩:=BD (p1:=p1) rfl f2.1 f1.1 (by omega) e
             exact ⟨_,nt2,.pair (tk:=some (f,g',u,p1)) cv cw hg,by omega,by rw [d6];exact e2⟩
end
section
variable {L:AlG Rw} {tg:Bool} {c:Int} {n:Nat} {nt:List D}
theorem uc (hl:nt.length<90000) (h:μ) (d:D) {k w:Kd} (e:hK k=hK w) (l l' l2:D):∃ x,aa Γ (n+10) ao [.ref 1,vl h d [] (az k l),bY w l' l2] (ws L tg c nt) = .ok (vl h d [] (az w l2)) (ws L tg c (nt ++ [x])):=
 ⟨.tup [.int 0,.non,az w l2],(ac false (aX 0 (nQ (n:=n) (L:=L) (tg:=tg) (c:=c) (nt:=nt) e l l') (aC (aC (aX 0 (sr (n:=n) (L:=L) (tg:=tg) (c:=c) hl h d w l2) aZ)))) (by kernel_rfl))⟩
theorem Cu (v:D):aa Γ (n+11) av [.ref 1,v,.lst []] (ws L tg c nt) = .ok v (ws L tg c nt):=by kernel_rfl
theorem qL {nt':List D} {v lk v':D} (g:aa Γ (n+10) ao [.ref 1,v,lk] (ws L tg c nt) = .ok v' (ws L tg c nt')):aa Γ (n+11) av [.ref 1,v,.lst [lk]] (ws L tg c nt) = .ok v' (ws L tg c nt'):=(ac false (aX 0 (g) aZ) (by kernel_rfl))
theorem xq {nt1 nt':List D} {v lk v1 lk2 v':D} (g:aa Γ (n+10) ao [.ref 1,v,lk] (ws L tg c nt) = .ok v1 (ws L tg c nt1)) (g2:aa Γ (n+10) ao [.ref 1,v1,lk2] (ws L tg c nt1) = .ok v' (ws L tg c nt')):aa Γ (n+11) av [.ref 1,v,.lst [lk,lk2]] (ws L tg c nt) = .ok v' (ws L tg c nt'):=(ac false (aX 0 (g) (aX 0 (g2) aZ)) (by kernel_rfl))
theorem xu {nt':List D} {v lk:D} {r:List D} {e:List D} (g:aa Γ (n+10) ao [.ref 1,v,lk] (ws L tg c nt) = .exc 1 e (ws L tg c nt')):aa Γ (n+11) av [.ref 1,v,.lst (lk :: r)] (ws L tg c nt) = .exc 1 e (ws L tg c nt'):=(ac false (aX 0 (g) aZ) (by kernel_rfl))
inductive Rd (f:Kd) (a:D):List D→Prop
 | one:Rd f a [cj f a]
 | two (b:D):Rd f a [cj f a,cf f b]
 | tog (b:D):Rd f a [bY f a b]
theorem Bu {f k:Kd} {a h' d l:D} {h:μ} {r:List D} (hr:Rd f a r) (e:hK k=hK f) (hl:nt.length+2<90000):∃ t' nt',nt'.length≤nt.length+2∧aa Γ (n+11) av [.ref 1,vl h d [] (az k l),.lst r] (ws L tg c nt) = .ok (vl h d [] t') (ws L tg c nt'):=by
 cases hr with
 | one=>exact ⟨_,nt,by omega,qL (qR h d [] e l a)⟩
 | two b=>
   obtain ⟨x,g⟩:=du (L:=L) (tg:=tg) (c:=c) (n:=n) (nt:=nt) (by omega) h d f b
   exact ⟨_,_,by simp,xq (qR h d [] e l a) g⟩
 | tog b=>
   obtain ⟨x,g⟩:=uc (L:=L) (tg:=tg) (c:=c) (n:=n) (nt:=nt) (by omega) h d e l a b
   exact ⟨_,_,by simp,qL g⟩
theorem Bt {f k:Kd} {a d l:D} {h:μ} {gg r:List D} (hr:Rd f a r) (e:hK k≠hK f):∃ st,aa Γ (n+11) av [.ref 1,vl h d gg (az k l),.lst r] (ws L tg c nt) = .exc 1 [bl (gr f) a (gr k) l] st:=by
 cases hr with
 | one=>exact ⟨_,xu (qS h d gg e l a ie .non)⟩
 | two b=>exact ⟨_,xu (qS h d gg e l a ie .non)⟩
 | tog b=>exact ⟨_,xu (qS h d gg e l a ie (az f b))⟩
def Bs (h:μ) (g:List D) (i:Nat) (r:List D):Prop:=∀ (d t:D) (n:Nat) (S:List O),aa Γ (n+11) gM [vl h d g t,.int (if (h == ("pair":μ))=true then (i:Int)+1 else 1)] S = .ok (.lst r) S
theorem zh {u:D} {xs:List D} {h:μ} {g r:List D} {i:Nat} {t:D} {o:Res} (hi:xs[i]? = some u) (b:Bs h g i r) (e:aa Γ (n+11) av [.ref 1,u,.lst r] (ws L tg c nt)=o):aa Γ (n+12) eg [vl h (.tup xs) g t,.int i,.ref 1] (ws L tg c nt)=o:=by
 have ix:ixD (.tup xs) (.int (i:Int))=some u:=cW hi
 have b:=b (.tup xs) t n (ws L tg c nt)
 subst e
 by_cases hp:(h == ("pair":μ))=true
 ·rw [ZZ hp] at b
  have h0:opD .eq (.str h) (.str "pair")=some (.bl true):=ZS (fun z=>some (D.bl z)) hp
  cases q:aa Γ (n+11) av [.ref 1,u,.lst r] (ws L tg c nt) with
  | ok d s=>exact (ac false (aX 1 (h0) (aX 4 (ix) (aX 0 (b) (aX 0 (q) aZ)))) (by kernel_rfl))
  | exc a l s=>exact (ac false (aX 1 (h0) (aX 4 (ix) (aX 0 (b) (aX 0 (q) aZ)))) (by kernel_rfl))
  | bad=>exact (ac false (aX 1 (h0) (aX 4 (ix) (aX 0 (b) (aX 0 (q) aZ)))) (by kernel_rfl))
 ·rw [ZY hp] at b
  have h0:opD .eq (.str h) (.str "pair")=some (.bl false):=ZS (fun z=>some (D.bl z)) (D8.mpr hp)
  cases q:aa Γ (n+11) av [.ref 1,u,.lst r] (ws L tg c nt) with
  | ok d s=>exact (ac false (aX 1 (h0) (aX 3 (ix) (aX 0 (b) (aX 0 (q) aZ)))) (by kernel_rfl))
  | exc a l s=>exact (ac false (aX 1 (h0) (aX 3 (ix) (aX 0 (b) (aX 0 (q) aZ)))) (by kernel_rfl))
  | bad=>exact (ac false (aX 1 (h0) (aX 3 (ix) (aX 0 (b) (aX 0 (q) aZ)))) (by kernel_rfl))
theorem oY (h:μ) (i:Nat):Bs h [] i []:=fun d t n S=>by kernel_rfl
theorem BT {f:Kd} {q:Int} {g:List D} (hg:RG f q g) (i:Nat):∃ r,Rd f (lbl q ["item"]) r∧Bs "row" g i r:=by
 cases hg with
 | one=>exact ⟨_,.one,fun d t n S=>by kernel_rfl⟩
 | two p=>exact ⟨_,.two (lbl p ["item"]),fun d t n S=>by kernel_rfl⟩
 | tog p=>exact ⟨_,.tog (lbl p ["item"]),fun d t n S=>by kernel_rfl⟩
theorem BR {f f':Kd} {q:Int} {g:List D} (hg:PG f f' q g):∃ r,Rd f (lbl q ["one"]) r∧Bs "pair" g 0 r:=by
 cases hg with
 | one=>exact ⟨_,.one,fun d t n S=>by kernel_rfl⟩
 | two p=>exact ⟨_,.two (lbl p ["one"]),fun d t n S=>by kernel_rfl⟩
 | tog p=>exact ⟨_,.tog (lbl p ["one"]),fun d t n S=>by kernel_rfl⟩
theorem BS {f f':Kd} {q:Int} {g:List D} (hg:PG f f' q g):∃ r,Rd f' (lbl q ["two"]) r∧Bs "pair" g 1 r:=by
 cases hg with
 | one=>exact ⟨_,.one,fun d t n S=>by kernel_rfl⟩
 | two p=>exact ⟨_,.two (lbl p ["two"]),fun d t n S=>by kernel_rfl⟩
 | tog p=>exact ⟨_,.tog (lbl p ["two"]),fun d t n S=>by kernel_rfl⟩
end
theorem eK (a b:μ):(a ++ b).length=a.length+b.length:=by
 rw [L2.Lx.ch_len,L2.Lx.ch_len,L2.Lx.ch_len,L2.Lx.ch_app,ω]
abbrev blS:μ:=" "
theorem lx:∀ l:List μ,cA (sts l)=some l
 | []=>rfl
 | x :: r=>by show (cA (sts r)).map (x :: ·)=_;rw [lx r];rfl
abbrev fU (l:List μ):Nat:=(l.map (·.length)).sum
theorem gO:∀ l:List μ,(Ù blS l).length≤fU l+l.length
 | []=>ϲ _
 | [x]=>by show x.length≤(x.length+0)+1;omega
 | x :: y :: r=>by
   have:=gO (y :: r)
   show ((x ++ blS) ++ Ù blS (y :: r)).length≤(x.length+fU (y :: r))+((y :: r).length+1)
   rw [eK,eK,show blS.length=1 from rfl];omega
theorem uq (l:List μ) (h1:fU l≤80000) (h2:l.length≤900):jc blS (.lst (sts l))=some (.str (Ù blS l)):=by
 rw [← StrLaws.glued_eq_join]
 show (cA (sts l)).bind _=_
 rw [lx]
 show (if _ then _ else _)=_
 rw [ZZ ⟨by decide +kernel,(by show fU l≤100000;omega),by omega⟩];rfl
abbrev uh (i:Int):μ:=Ϯ (toString i)
def Sn.txt:Sn→μ
 | .num _ i=>uh i | .tru _ b=>if b then "yes" else "no" | .fn ..=>"fn"
abbrev Ask:=Option (Kd×D)
def dQ (pl:Bool):Option (Kd×Int×Int)→Ask
 | none=>none | some (f,q,_)=>if pl=true then none else some (f,lbl q ["item"])
def bM (pl two:Bool):Option (Kd×Kd×Int×Int)→Ask
 | none=>none | some (f,g,q,_)=>if pl=true then none else if two=true then some (g,lbl q ["two"]) else some (f,lbl q ["one"])
def chk (a:Ask) (x:Th):Option D:=match a with
 | none=>none
 | some (f,l)=>if hK x.kd=hK f then none else some (bl (gr f) l (gr x.kd) (lbl x.node.pl []))
def one (n:Nat) (a:Ask) (x:Th) (t:Except D μ):Except D μ:=match n with
 | 0=>.ok ".."
 | _+1=>match chk a x with | some e=>.error e | none=>t
def stp (o:Except D μ) (r:Except D (List μ)):Except D (List μ):=match o with
 | .error e=>.error e
 | .ok w=>match r with | .error e=>.error e | .ok ws=>.ok (w :: ws)
def fW (a b:μ):Except D (List μ)→Except D μ
 | .error e=>.error e | .ok ws=>.ok ((a ++ Ù blS ws) ++ b)
mutual
noncomputable def Th.txt (pl:Bool):Nat→Th→Except D μ
 | _,.sg s=>.ok s.txt
 | n,.row p l tk=>fW "[" "]" (iQ pl n (dQ pl tk) l)
 | n,.pair p pa pb a b tk=>fW "<" ">" (stp (one n (bM pl false tk) a (Th.txt pl (n - 1) a)) (stp (one n (bM pl true tk) b (Th.txt pl (n - 1) b)) (.ok [])))
noncomputable def iQ (pl:Bool) (n:Nat) (a:Ask):List Th→Except D (List μ)
 | []=>.ok []
 | x :: r=>stp (one n a x (Th.txt pl (n - 1) x)) (iQ pl n a r)
end
def tB:Nat→Nat
 | 0=>50 | n+1=>5 * tB n
theorem zb:∀ n,50≤tB n
 | 0=>Ω _ | n+1=>by have:=zb n;show 50≤5 * tB n;omega
theorem ui {i:Int} (h:i.natAbs<10 ^ 40):(uh i).length≤41:=by
 have e:∀ k:Nat,k<10 ^ 40→(E1 k).length≤40:=fun k h=>(Nat.length_repr_le_iff (n:=k) (k:=40) (by decide)).mpr h
 cases i with
 | ofNat k=>have:=e k h;show (Ϯ (E1 k)).length≤41;rw [L2.Lx.ch_len];show (Ϯ (E1 k)).cps.toList.length≤41;rw [signs_ofString,Θ,Ek];omega
 | negSucc k=>
   have:=e (k+1) h
   show (Ϯ ("-" ++ E1 (k+1))).length≤41
   rw [L2.Lx.ch_len]
   show (Ϯ ("-" ++ E1 (k+1))).cps.toList.length≤41
   rw [signs_ofString,Θ,Ek,String.length_append,show ("-":String).length=1 from rfl];omega
theorem ik {s:Sn} (w:Wt (.sg s)):s.txt.length≤41:=by
 cases w with
 | num h=>exact ui h
 | @tru p b=>cases b <;> exact Ο rfl
 | fn=>exact Ο rfl
theorem gb {n:Nat} {a:Ask} {x:Th} {t:Except D μ} (h:∀ s,t = .ok s→s.length≤tB (n - 1)) {s:μ} (e:one n a x t = .ok s):s.length≤tB (n - 1):=by
 cases n with
 | zero=>cases e;exact ϫ (by decide +kernel) (zb _)
 | succ n=>
   have e:(match chk a x with | some e=>ő e | none=>t)=Except.ok s:=e
   split at e
   ·cases e
   ·exact h s e
theorem iz {a b:μ} (ha:a.length=1) (hb:b.length=1) {B:Nat} {ws:List μ} (h4:ws.length≤4) (h:fU ws≤4 * B):((a ++ Ù blS ws) ++ b).length≤4 * B+6:=by
 have:=gO ws
 rw [eK,eK];omega
theorem im {o:Except D μ} {r:Except D (List μ)} {l:List μ} (h:stp o r = .ok l):∃ w ws,o = .ok w∧r = .ok ws∧l=w :: ws:=by
 unfold stp at h
 split at h
 ·cases h
 ·split at h
  ·cases h
  ·cases h;exact ⟨_,_,rfl,rfl,rfl⟩
theorem gu {a b:μ} {r:Except D (List μ)} {s:μ} (h:fW a b r = .ok s):∃ ws,r = .ok ws∧s=(a ++ Ù blS ws) ++ b:=by
 cases r with
 | error e=>cases h
 | ok ws=>cases h;exact ⟨ws,rfl,rfl⟩
theorem lG {pl:Bool} {n:Nat} {a:Ask}:∀ {l:List Th} {ws:List μ},(∀ x∈l,∀ s,x.txt pl (n - 1) = .ok s→s.length≤tB (n - 1))→iQ pl n a l = .ok ws→ws.length=l.length∧fU ws≤l.length * tB (n - 1)
 | [],ws,_,e=>by cases e;exact ⟨rfl,ϲ _⟩
 | x :: l,ws,h,e=>by
   obtain ⟨w,ws,e1,e2,rfl⟩:=im e
   obtain ⟨i1,i2⟩:=lG (fun y hy=>h y (ι _ hy)) e2
   have:=gb (h x κ) e1
   refine ⟨by rw [Η,Η,i1],?_⟩
   rw [Η,Ą]
   show w.length+fU ws≤_
   omega
theorem vC {pl:Bool}:∀ (n:Nat) (x:Th),Wt x→∀ s,x.txt pl n = .ok s→s.length≤tB n:=fun n=>by
 induction n with
 | zero=>
   intro x w s e
   cases w with
   | num h=>cases e;exact ϫ (ik (.num h)) (by decide)
   | tru=>cases e;exact ϫ (ik .tru) (by decide)
   | fn h=>cases e;exact ϫ (ik (.fn h)) (by decide)
   | @row p l tk hw ht hl=>
     obtain ⟨ws,e',rfl⟩:=gu (show fW "[" "]" (iQ pl 0 (dQ pl tk) l) = .ok s from e)
     have z:∀ (l:List Th) (ws:List μ),iQ pl 0 (dQ pl tk) l = .ok ws→ws.length=l.length∧fU ws≤l.length * 2:=fun l=>by
      induction l with
      | nil=>intro ws e;cases e;exact ⟨rfl,ϲ _⟩
      | cons x l ih=>
        intro ws e
        obtain ⟨w,ws,e1,e2,rfl⟩:=im e
        cases e1
        obtain ⟨i1,i2⟩:=ih ws e2
        refine ⟨by rw [Η,Η,i1],?_⟩
        rw [Η,Ą]
        show 2+fU ws≤_
        omega
     obtain ⟨i1,i2⟩:=z l ws e'
     have:=iz (a:="[") (b:="]") rfl rfl (B:=2) (ws:=ws) (by omega) (by omega)
     exact ϫ this (by decide)
   | @pair p pa pb a b tk wa wb ht=>
     have e:fW "<" ">" (.ok ["..",".."]) = .ok s:=e
     obtain ⟨ws,e',rfl⟩:=gu e
     cases e'
     decide +kernel
 | succ n ih=>
   intro x w s e
   have:=zb n
   have t5:tB (n+1)=5 * tB n:=rfl
   cases w with
   | num h=>cases e;have:=ik (.num (p:=(0:Int)) h);show (Sn.num 0 _).txt.length≤_;omega
   | @tru p b=>cases e;have:=ik (Wt.tru (p:=p) (b:=b));omega
   | fn h=>cases e;have:("fn":μ).length=2:=rfl;show ("fn":μ).length≤_;omega
   | @row p l tk hw ht hl=>
     obtain ⟨ws,e',rfl⟩:=gu (show fW "[" "]" (iQ pl (n+1) (dQ pl tk) l) = .ok s from e)
     obtain ⟨i1,i2⟩:=lG (n:=n+1) (fun x hx=>ih x (hw x hx)) e'
     have:l.length * tB (n+1 - 1)≤4 * tB n:=ă _ hl
     have:=iz (a:="[") (b:="]") rfl rfl (B:=tB n) (ws:=ws) (by omega) (by omega)
     omega
   | @pair p pa pb a b tk wa wb ht=>
     obtain ⟨ws,e',rfl⟩:=gu (show fW "<" ">" (stp (one (n+1) (bM pl false tk) a (Th.txt pl n a)) (stp (one (n+1) (bM pl true tk) b (Th.txt pl n b)) (.ok []))) = .ok s from e)
     obtain ⟨u,ws,e1,e2,rfl⟩:=im e'
     obtain ⟨v,ws,e3,e4,rfl⟩:=im e2
     cases e4
     have l1:=gb (n:=n+1) (ih a wa) e1
     have l2:=gb (n:=n+1) (ih b wb) e3
     have l1:u.length≤tB n:=l1
     have l2:v.length≤tB n:=l2
     have:=iz (a:="<") (b:=">") rfl rfl (B:=tB n) (ws:=[u,v]) (Ο rfl) (by show u.length+(v.length+0)≤_;omega)
     omega
inductive Sh (pl:Bool) (x:Th):D→Prop
 | mk {o h d g t'} (t:D) (c:Cm pl o x (vl h d g t')):Sh pl x (vl h d g t)
abbrev ixs (a k:Nat):List D:=(Ű a k).map fun (i:Nat)=>.int (i:Int)
theorem fx {n:Nat} (h:n≤100000):Option.map D.lst (itD .range1 [.int (n:Nat)])=some (.lst (ixs 0 n)):=by
 have c:-(2 ^ 62)≤(n:Int)∧(n:Int)<2 ^ 62:=by omega
 have e:itD .range1 [.int (n:Nat)]=some (ia 0 (n:Int).toNat):=by
  show xC .range1 (.int (n:Nat))=_
  unfold xC
  exact ZZ c
 rw [e]
 show some (D.lst (ia 0 (n:Int).toNat))=_
 unfold ia ixs
 rw [Dh,List.range_eq_range']
 refine ZS (fun l=>some (D.lst l)) (C7 fun i _=>?_)
 rw [GZ]
def So (L:AlG Rw) (tg:Bool) (c:Int) (b m j:Nat) (args:List D) (nt:List D):Except D μ→Prop
 | .ok s=>∃ nt',nt'.length≤nt.length+b∧aa Γ m j args (ws L tg c nt) = .ok (.str s) (ws L tg c nt')
 | .error e=>∃ st,aa Γ m j args (ws L tg c nt) = .exc 1 [e] st
def rB:Nat→Nat
 | 0=>0 | n+1=>4 * (2+rB n)
def qB:Nat→Nat
 | 0=>0 | n+1=>2+rB n
theorem CF:∀ n,rB n=4 * qB n
 | 0=>rfl | _+1=>rfl
def Ak (pl:Bool) (h:μ) (g:List D) (i:Nat) (a:Ask):Prop:=match a with
 | none=>Bs h g i []
 | some (f,l)=>pl=false∧Flt f∧∃ r,Rd f l r∧Bs h g i r
section
variable {L:AlG Rw} {tg pl:Bool} {c:Int} {n m i:Nat} {h:μ} {xs g:List D} {t u:D} {a:Ask} {x:Th} {nt:List D}
theorem vq (hi:xs[i]? = some u) (ak:Ak pl h g i a) (w:Wt x) (cm:Cm pl true x u) (hl:nt.length+2<90000):match chk a x with
 | none=>∃ v nt',Sh pl x v∧nt'.length≤nt.length+2∧aa Γ (m+12) eg [vl h (.tup xs) g t,.int i,.ref 1] (ws L tg c nt) = .ok v (ws L tg c nt')
 | some e=>∃ st,aa Γ (m+12) eg [vl h (.tup xs) g t,.int i,.ref 1] (ws L tg c nt) = .exc 1 [e] st:=by
 have cu:=cm
 obtain ⟨h',d,g',t',rfl⟩:∃ h' d g' t',u=vl h' d g' t':=by cases cm <;> exact ⟨_,_,_,_,rfl⟩
 match a,ak with
 | none,ak=>exact ⟨_,nt,.mk t' cu,by omega,zh hi ak (Cu _)⟩
 | some (f,l),⟨hp,hf,r,hr,b⟩=>
   subst hp
   have tt:t'=az x.kd (lbl x.node.pl []):=by
    have f0:∀ (k:Kd) (p:Int),tgO false true k p=az k (lbl p []):=fun k p=>ZY (by simp)
    cases cm <;> exact f0 _ _
   subst tt
   by_cases e:hK x.kd=hK f
   ·have ec:chk (some (f,l)) x=none:=ZZ e
    rw [ec]
    have fl:∃ s,x = .sg s∧s.flat=true:=by
     cases w with
     | num=>exact ⟨_,rfl,rfl⟩
     | tru=>exact ⟨_,rfl,rfl⟩
     | fn=>cases hf <;> exact ZX e (by show ¬ 3=_;decide)
     | @row p l tk=>cases tk <;> (cases hf <;> exact ZX e (by show ¬ 4=_;decide))
     | @pair p pa pb a b tk=>cases tk <;> (cases hf <;> exact ZX e (by show ¬ 5=_;decide))
    obtain ⟨s,rfl,fs⟩:=fl
    have g0:g' = []:=by cases cm with | sg hg=>exact hg (.inl fs)
    subst g0
    obtain ⟨t2,nt',l2,ga⟩:=Bu (L:=L) (tg:=tg) (c:=c) (n:=m) (h':=.non) (d:=d) (h:=h') (l:=lbl (Th.sg s).node.pl []) hr e hl
    exact ⟨_,nt',.mk t2 cu,l2,zh hi b ga⟩
   ·have ec:chk (some (f,l)) x=some (bl (gr f) l (gr x.kd) (lbl x.node.pl [])):=ZY e
    rw [ec]
    obtain ⟨st,ga⟩:=Bt (L:=L) (tg:=tg) (c:=c) (n:=m) (nt:=nt) (d:=d) (h:=h') (gg:=g') (l:=lbl x.node.pl []) hr e
    exact ⟨st,zh hi b ga⟩
theorem vk (h2:n≤2) (hi:xs[i]? = some u) (ak:Ak pl h g i a) (w:Wt x) (cm:Cm pl true x u) (hl:nt.length+qB n<90000) (ih:n≠0→∀ v nt,Sh pl x v→nt.length+rB (n - 1)<90000→So L tg c (rB (n - 1)) (m+12) bQ [v,.int (3 - ((n - 1:Nat):Int)),.ref 1] nt (x.txt pl (n - 1))):So L tg c (qB n) (m+13) dY [vl h (.tup xs) g t,.int i,.int (4 - (n:Nat)),.ref 1] nt (one n a x (x.txt pl (n - 1))):=by
 cases n with
 | zero=>exact ⟨nt,by omega,by kernel_rfl⟩
 | succ n=>
   have hl:nt.length+(2+rB n)<90000:=hl
   have r:=vq (L:=L) (tg:=tg) (c:=c) (t:=t) (m:=m) (nt:=nt) hi ak w cm (by omega)
   have gt:opD .gt (.int (4 - ((n+1:Nat):Int))) (.int 3)=some (.bl false):=by show some (D.bl (decide (3<_)))=_;rw [ZV (by omega)]
   have e4:(4 - ((n+1:Nat):Int))=3 - ((n:Nat):Int):=by omega
   show So L tg c _ _ _ _ _ (match chk a x with | some e=>ő e | none=>x.txt pl n)
   cases q:chk a x with
   | some e=>
     rw [q] at r
     obtain ⟨st,r⟩:=r
     exact ⟨st,(ac false (aX 0 (gt) (aX 0 (r) aZ)) (by kernel_rfl))⟩
   | none=>
     rw [q] at r
     obtain ⟨v,nt1,sv,l1,r⟩:=r
     have ih:=ih (by omega) v nt1 sv (by show _+rB n<_;omega)
     have ih:So L tg c (rB n) (m+12) bQ [v,.int (3 - ((n:Nat):Int)),.ref 1] nt1 (x.txt pl n):=ih
     rw [← e4] at ih
     show So L tg c (2+rB n) _ _ _ _ (x.txt pl n)
     cases qt:x.txt pl n with
     | error e=>
       rw [qt] at ih
       obtain ⟨st,ih⟩:=ih
       exact ⟨st,(ac false (aX 0 (gt) (aX 0 (r) (aX 0 (ih) aZ))) (by kernel_rfl))⟩
     | ok s=>
       rw [qt] at ih
       obtain ⟨nt2,l2,ih⟩:=ih
       exact ⟨nt2,by omega,(ac false (aX 0 (gt) (aX 0 (r) (aX 0 (ih) aZ))) (by kernel_rfl))⟩
end
def dg (pl:Bool) (n:Nat):List (Ask×Th)→Except D (List μ)
 | []=>.ok []
 | (a,x) :: r=>stp (one n a x (x.txt pl (n - 1))) (dg pl n r)
theorem kg {pl:Bool} {n:Nat} {a:Ask}:∀ l:List Th,iQ pl n a l=dg pl n (l.map fun x=>(a,x))
 | []=>rfl
 | x :: l=>by
   show stp (one n a x (x.txt pl (n - 1))) (iQ pl n a l)=stp _ (dg pl n (l.map fun x=>(a,x)))
   rw [kg l]
abbrev tE:E:=.call dY (.cons (.v 1) (.cons (.v 0) (.cons (.op .add (.v 2) (.c (.int 1))) (.cons (.v 3) .nil))))
def Lo (L:AlG Rw) (tg:Bool) (c:Int) (acc:List D) (R:List (Option D)) (b:Nat) (nt:List D) (o:Out D):Except D (List μ)→Prop
 | .ok l=>∃ e nt',nt'.length≤nt.length+b∧o = .ok (.lst (acc ++ sts l)) ⟨e :: R,[],ws L tg c nt'⟩
 | .error e=>∃ s:Sta,o = .exc 1 [e] s
theorem jr {a b:μ} (ha:a.length=1) (hb:b.length=1) {ws:List μ} (h4:ws.length≤4) (h:fU ws≤5000):jc blS (.lst (sts ws))=some (.str (Ù blS ws))∧(Ù blS ws).length≤6000:=by
 have:=gO ws
 exact ⟨uq ws (by omega) (by omega),by omega⟩
section
variable {L:AlG Rw} {tg pl:Bool} {c:Int} {n m:Nat} {h:μ} {xs g:List D} {t:D}
abbrev cE (n:Nat) (h:μ) (xs g:List D) (t:D):List (Option D):=[some (vl h (.tup xs) g t),some (.int (3 - (n:Nat))),some (.ref 1),none,none]
theorem j7 (h2:n≤2) (ih:n≠0→∀ x v nt,Wt x→Sh pl x v→nt.length+rB (n - 1)<90000→So L tg c (rB (n - 1)) (m+12) bQ [v,.int (3 - ((n - 1:Nat):Int)),.ref 1] nt (x.txt pl (n - 1))):∀ (r:List (Ask×Th)) (i:Nat) (acc:List D) (e:Option D) (nt:List D),(∀ (j:Nat) (p:Ask×Th),r[j]? = some p→∃ u,xs[i+j]? = some u∧Ak pl h g (i+j) p.1∧Wt p.2∧Cm pl true p.2 u)→acc.length+r.length<1000→nt.length+r.length * qB n<90000→Lo L tg c acc (cE n h xs g t) (r.length * qB n) nt (bZ (lcQ Γ (aa Γ (m+13)) (aH Γ (m+13)) [0] true tE (.c (.bl true))) (ixs i r.length) acc ⟨e :: cE n h xs g t,[],ws L tg c nt⟩) (dg pl n r)
 | [],i,acc,e,nt,_,_,_=>⟨e,nt,by omega,by show Out.ok _ _=_;rw [show sts [] = [] from rfl,ϕ]⟩
 | (a,x) :: r,i,acc,e,nt,hp,ha,hl=>by
   rw [Η] at ha
   rw [Η,Ą] at hl
   obtain ⟨u,hi,ak,w,cm⟩:=hp 0 (a,x) rfl
   have pa:=vk (L:=L) (tg:=tg) (c:=c) (m:=m) (t:=t) (nt:=nt) h2 hi ak w cm (by omega) (fun z v nt s q=>ih z x v nt w s q)
   have e0:ixs i (r.length+1) = .int (i:Nat) :: ixs (i+1) r.length:=rfl
   have oA:opD .add (.int (3 - (n:Nat))) (.int 1)=some (.int (4 - (n:Nat))):=ZS (fun z=>some (D.int z)) (by omega)
   rw [Η,e0]
   show Lo L tg c acc _ _ nt _ (stp (one n a x (x.txt pl (n - 1))) (dg pl n r))
   cases q:one n a x (x.txt pl (n - 1)) with
   | error er=>
     rw [q] at pa
     obtain ⟨st,pa⟩:=pa
     have ev1:ev Γ (aa Γ (m+13)) (aH Γ (m+13)) false tE ⟨some (.int (i:Nat)) :: cE n h xs g t,[],ws L tg c nt⟩ = .exc 1 [er] ⟨some (.int (i:Nat)) :: cE n h xs g t,[],st⟩:=(fQ false (aX 0 (oA) (aX 0 (pa) aZ)) (by kernel_rfl))
     exact ⟨_,pA (xO rfl rfl ev1)⟩
   | ok s=>
     rw [q] at pa
     obtain ⟨nt1,l1,pa⟩:=pa
     have ev1:ev Γ (aa Γ (m+13)) (aH Γ (m+13)) false tE ⟨some (.int (i:Nat)) :: cE n h xs g t,[],ws L tg c nt⟩ = .ok (.str s) ⟨some (.int (i:Nat)) :: cE n h xs g t,[],ws L tg c nt1⟩:=(fQ false (aX 0 (oA) (aX 0 (pa) aZ)) (by kernel_rfl))
     have rc:=j7 h2 ih r (i+1) (acc ++ [.str s]) (some (.int (i:Nat))) nt1 (fun j p hj=>by
      have:=hp (j+1) p hj
      rw [show i+(j+1)=i+1+j by omega] at this;exact this) (by rw [ω,ϊ];omega) (by omega)
     cases qr:dg pl n r with
     | error er=>
       rw [qr] at rc
       obtain ⟨st,rc⟩:=rc
       exact ⟨st,fZ (jO rfl rfl ev1) (by omega) rc⟩
     | ok l=>
       rw [qr] at rc
       obtain ⟨e',nt2,l2,rc⟩:=rc
       rw [Ô] at rc
       exact ⟨e',nt2,by rw [Ą];omega,fZ (jO rfl rfl ev1) (by omega) rc⟩
theorem qm:∀ {l:List Th} {vs:List D},Cms pl l vs→∀ (j:Nat) (x:Th),l[j]? = some x→∃ u,vs[j]? = some u∧Cm pl true x u
 | _,_,.nil,j,x,e=>by cases j <;> cases e
 | _,_,.cons h r,0,x,e=>by cases e;exact ⟨_,rfl,h⟩
 | _,_,.cons h r,j+1,x,e=>qm r j x e
theorem mR:∀ {l:List Th} {vs:List D},Cms pl l vs→vs.length=l.length
 | _,_,.nil=>rfl
 | _,_,.cons h r=>ZS (· + 1) (mR r)
theorem BJ {o:Bool} {tk:Option (Kd×Int×Int)} {g:List D} (hg:GrR pl o g tk) (ht:∀ f q p1,tk=some (f,q,p1)→Flt f) (i:Nat):Ak pl "row" g i (dQ pl tk):=by
 match tk,hg with
 | none,hg=>cases (show g = [] from hg);exact oY _ i
 | some (f,q,p1),hg=>
   have hf:=ht f q p1 rfl
   cases pl with
   | true=>cases (show g = [] from hg);exact oY _ i
   | false=>
     have rg:RG f q g:=by
      cases o with
      | true=>exact hg
      | false=>cases (show g = [jF f q] from hg);exact .one
     exact ⟨rfl,hf,BT rg i⟩
theorem BI {o:Bool} {tk:Option (Kd×Kd×Int×Int)} {g:List D} (hg:GrP pl o g tk) (ht:∀ f f' q p1,tk=some (f,f',q,p1)→Flt f∧Flt f'):Ak pl "pair" g 0 (bM pl false tk)∧Ak pl "pair" g 1 (bM pl true tk):=by
 match tk,hg with
 | none,hg=>cases (show g = [] from hg);exact ⟨oY _ 0,oY _ 1⟩
 | some (f,f',q,p1),hg=>
   have hf:=ht f f' q p1 rfl
   cases pl with
   | true=>cases (show g = [] from hg);exact ⟨oY _ 0,oY _ 1⟩
   | false=>
     have rg:PG f f' q g:=by
      cases o with
      | true=>exact hg
      | false=>cases (show g = [cF cj f f' q] from hg);exact .one
     exact ⟨⟨rfl,hf.1,BR rg⟩,rfl,hf.2,BS rg⟩
theorem tB2 (h2:n≤2):tB (n - 1)≤250:=by
 have:n=0∨n=1∨n=2:=by omega
 rcases this with rfl | rfl | rfl <;> decide
theorem iw (h2:n≤2):∀ {r:List (Ask×Th)} {l:List μ},(∀ p∈r,Wt p.2)→dg pl n r = .ok l→l.length=r.length∧fU l≤r.length * 250
 | [],l,_,e=>by cases e;exact ⟨rfl,ϲ _⟩
 | (a,x) :: r,l,w,e=>by
   obtain ⟨s,l,e1,e2,rfl⟩:=im e
   obtain ⟨i1,i2⟩:=iw h2 (fun p hp=>w p (ι _ hp)) e2
   have l1:=gb (fun s e=>vC (n - 1) x (w (a,x) κ) s e) e1
   have:=tB2 h2
   refine ⟨by rw [Η,Η,i1],?_⟩
   rw [Η,Ą]
   show s.length+fU l≤_
   omega
theorem Aq {a b:μ} (ha:a.length=1) (hb:b.length=1) (e:ñ ++ a=a) {s:μ} (h:s.length≤6000):qG a (.str s) b=some (.str ((a ++ s) ++ b)):=by
 show (if _ then _ else _)=_
 rw [ZZ ⟨by omega,by omega,by omega⟩,e]
theorem oF {b M j:Nat} {args:List D} {A B:μ} (ha:A.length=1) (hb:B.length=1) (ea:ñ ++ A=A) {r:List (Ask×Th)} (h2:n≤2) (r4:r.length≤4) (w:∀ p∈r,Wt p.2) {R:List (Option D)} {nt:List D} {o:Out D} (lo:Lo L tg c [] R b nt o (dg pl n r)) (hE:∀ e s,o = .exc 1 [e] s→∃ st,aa Γ M j args (ws L tg c nt) = .exc 1 [e] st) (hO:∀ l e nt',o = .ok (.lst (sts l)) ⟨e :: R,[],ws L tg c nt'⟩→jc blS (.lst (sts l))=some (.str (Ù blS l))→qG A (.str (Ù blS l)) B=some (.str ((A ++ Ù blS l) ++ B))→aa Γ M j args (ws L tg c nt) = .ok (.str ((A ++ Ù blS l) ++ B)) (ws L tg c nt')):So L tg c b M j args nt (fW A B (dg pl n r)):=by
 cases q:dg pl n r with
 | error e=>
   rw [q] at lo
   obtain ⟨s,lo⟩:=lo
   exact hE e s lo
 | ok l=>
   rw [q] at lo
   obtain ⟨e,nt',l1,lo⟩:=lo
   obtain ⟨z1,z2⟩:=iw h2 w q
   obtain ⟨j1,j2⟩:=jr ha hb (ws:=l) (by omega) (by omega)
   exact ⟨nt',l1,hO l e nt' lo j1 (Aq ha hb ea j2)⟩
theorem So.mono {b b' M j:Nat} {args:List D} {nt:List D} {r:Except D μ} (h:So L tg c b M j args nt r) (hb:b≤b'):So L tg c b' M j args nt r:=by
 cases r with
 | error e=>exact h
 | ok s=>obtain ⟨nt',l,e⟩:=h;exact ⟨nt',by omega,e⟩
theorem A9 {i:Int} (h:i.natAbs<10 ^ 40):fP .str (.int i)=some (.str (uh i)):=by
 show (if i.natAbs.log2<1920 then _ else none)=_
 rw [ZZ]
 rcases Nat.eq_zero_or_pos i.natAbs with z | z
 ·rw [z];decide
 ·exact ä ((EJ (by omega)).mpr (ä h (by decide +kernel:10 ^ 40≤2 ^ 400))) (by decide)
theorem emB:ñ ++ ("[":μ) = "["∧ñ ++ ("<":μ) = "<":=by decide +kernel
theorem wH (n:Nat) (h2:n≤2) (m:Nat) (ih:n≠0→∀ x v nt,Wt x→Sh pl x v→nt.length+rB (n - 1)<90000→So L tg c (rB (n - 1)) (m+12) bQ [v,.int (3 - ((n - 1:Nat):Int)),.ref 1] nt (x.txt pl (n - 1))) (x:Th) (v:D) (nt:List D) (w:Wt x) (sh:Sh pl x v) (hl:nt.length+rB n<90000):So L tg c (rB n) (m+14) bQ [v,.int (3 - (n:Nat)),.ref 1] nt (x.txt pl n):=by
 have rp:=CF n
 cases sh with
 | @mk o h d g t' t cm=>
   generalize hv:vl h d g t'=v' at cm
   cases cm with
   | @sg _ s g' hg=>
     cases hv
     cases w with
     | num hi=>exact ⟨nt,by omega,(ac false (aX 4 (A9 hi) aZ) (by kernel_rfl))⟩
     | @tru p b=>cases b <;> exact ⟨nt,by omega,(ac false aZ (by kernel_rfl))⟩
     | fn hk=>exact ⟨nt,by omega,(ac false aZ (by kernel_rfl))⟩
   | @row _ p l tk vs g' cms hg=>
     cases hv
     cases w with
     | row hw ht l4=>
       have cl:=mR cms
       have ll:(l.map fun x=>(dQ pl tk,x)).length=l.length:=Θ _
       have lm:l.length * qB n≤4 * qB n:=ă _ l4
       have lo:=j7 (L:=L) (tg:=tg) (c:=c) (m:=m) (h:="row") (xs:=vs) (g:=g) (t:=t) h2 ih (l.map fun x=>(dQ pl tk,x)) 0 [] none nt (fun j q hj=>by
        rw [Ψ] at hj
        obtain ⟨x,hx,rfl⟩:=φ.mp hj
        obtain ⟨u,hu,cu⟩:=qm cms j x hx
        exact ⟨u,by rw [ě];exact hu,BJ hg ht _,hw x (ο hx),cu⟩) (by rw [ll];simp only [Υ];omega) (by rw [ll];omega)
       rw [ll] at lo
       have rg:=fx (n:=vs.length) (by omega)
       rw [← cl] at lo
       have sw:=oF (L:=L) (tg:=tg) (c:=c) (M:=m+14) (j:=bQ) (args:=[vl "row" (.tup vs) g t,.int (3 - (n:Nat)),.ref 1]) (A:="[") (B:="]") rfl rfl emB.1 h2 (by rw [ll];exact l4) (fun q hq=>by
        obtain ⟨x,hx,rfl⟩:=ϱ.mp hq
        exact hw x hx) lo (fun e s lo=>⟨s.st,(ac true (aX 11 (rg) (aX 0 (lo) aZ)) (by kernel_rfl))⟩) (fun ws e nt' lo jn fm=>by
         exact (ac true (aX 11 (rg) (aX 0 (lo) (aX 0 (jn) (aX 3 (fm) aZ)))) (by kernel_rfl)))
       rw [← kg] at sw
       exact sw.mono (by rw [cl];omega)
   | @pair _ p pa pb a b tk v w' g' cv cw hg=>
     cases hv
     cases w with
     | pair wa wb ht=>
       obtain ⟨k1,k2⟩:=BI hg ht
       have lo:=j7 (L:=L) (tg:=tg) (c:=c) (m:=m) (h:="pair") (xs:=[v,w']) (g:=g) (t:=t) h2 ih [(bM pl false tk,a),(bM pl true tk,b)] 0 [] none nt (fun j q hj=>by
        match j,hj with
        | 0,hj=>cases hj;exact ⟨v,rfl,k1,wa,cv⟩
        | 1,hj=>cases hj;exact ⟨w',rfl,k2,wb,cw⟩) (Ο rfl) (by show nt.length+2 * qB n<_;omega)
       have rg:=fx (n:=2) (by decide)
       have sw:=oF (L:=L) (tg:=tg) (c:=c) (M:=m+14) (j:=bQ) (args:=[vl "pair" (.tup [v,w']) g t,.int (3 - (n:Nat)),.ref 1]) (A:="<") (B:=">") rfl rfl emB.2 h2 (Ο rfl) (fun q hq=>by
        rcases π.mp hq with rfl | hq
        ·exact wa
        ·rw [η.mp hq];exact wb) lo (fun e s lo=>⟨s.st,(ac true (aX 11 (rg) (aX 0 (lo) aZ)) (by kernel_rfl))⟩) (fun ws e nt' lo jn fm=>by
         exact (ac true (aX 11 (rg) (aX 0 (lo) (aX 0 (jn) (aX 3 (fm) aZ)))) (by kernel_rfl)))
       exact sw.mono (by show 2 * qB n≤_;omega)
theorem sN:∀ n≤2,∀ (m:Nat) (x:Th) (v:D) (nt:List D),2 * n+14≤m→Wt x→Sh pl x v→nt.length+rB n<90000→So L tg c (rB n) m bQ [v,.int (3 - (n:Nat)),.ref 1] nt (x.txt pl n):=fun n=>by
 induction n with
 | zero=>
   intro h2 m x v nt hm w sh hl
   obtain ⟨m,rfl⟩:∃ k,m=k+14:=⟨m - 14,by omega⟩
   exact wH 0 h2 m (fun z=>ZX rfl z) x v nt w sh hl
 | succ n ih=>
   intro h2 m x v nt hm w sh hl
   obtain ⟨m,rfl⟩:∃ k,m=k+14:=⟨m - 14,by omega⟩
   exact wH (n+1) h2 m (fun _ x v nt w s q=>ih (by omega) (m+12) x v nt (by omega) w s q) x v nt w sh hl
end
def bdF (n:Nat):List (Ask×Th)→D
 | []=>.non
 | (a,x) :: r=>match chk a x with | some e=>.tup [.int n,e] | none=>bdF (n+1) r
def fE (a:Ask) (l:List Th):List (Ask×Th):=l.map fun x=>(a,x)
mutual
noncomputable def Th.td:Th→D
 | .sg s=>.tup [.str "flat",.str s.txt,gr s.kd]
 | .row p l tk=>.tup [.str "row",.lst (tds l),gr (.row .unt),bdF 0 (fE (dQ false tk) l)]
 | .pair p pa pb a b tk=>.tup [.str "pair",.lst [a.td,b.td],gr (.pair .unt .unt),bdF 0 [(bM false false tk,a),(bM false true tk,b)]]
noncomputable def tds:List Th→List D
 | []=>[]
 | x :: r=>x.td :: tds r
end
theorem eV:∀ l:List Th,tds l=l.map Th.td
 | []=>rfl
 | x :: r=>by show x.td :: tds r=_;rw [eV r];rfl
theorem vK:∀ (n:Nat) (r:List (Ask×Th)),bdF n r = .non∨∃ (j:Nat) (e:D),n≤j∧bdF n r = .tup [.int j,e]
 | n,[]=>.inl rfl
 | n,(a,x) :: r=>by
   show (match chk a x with | some e=>D.tup [.int n,e] | none=>bdF (n+1) r)=_∨∃ j e,n≤j∧(match chk a x with | some e=>D.tup [.int n,e] | none=>bdF (n+1) r)=_
   cases q:chk a x with
   | some e=>exact .inr ⟨n,e,Ω _,rfl⟩
   | none=>
     rcases vK (n+1) r with h | ⟨j,e,h1,h2⟩
     ·exact .inl h
     ·exact .inr ⟨j,e,by omega,h2⟩
def exD:Except D μ→D
 | .ok s=>.str s | .error e=>.lst [e]
def yv (env:List (Option D)) (acc:List D) (S:List O) (o:am):Except D (List μ)→Prop
 | .ok l=>∃ e4 e5,o = .nx ⟨env ++ [some (.lst (acc ++ sts l)),e4,e5],[3],S⟩
 | .error e=>∃ s:Sta,o = .rt (.lst [e]) s∧s.st=S
abbrev ltB:S:=cQ (tlS 1 kI.body)
section
variable {pl:Bool} {n m:Nat} {S:List O}
theorem jS (h2:n≤2) (w:μ) (ds:List D) (g b:D) (ih:n≠0→∀ x:Th,Wt x→aa Γ m aQ [x.td,.int (3 - ((n - 1:Nat):Int)),.bl (!pl)] S = .ok (exD (x.txt pl (n - 1))) S):∀ (r:List (Ask×Th)) (i:Nat) (acc:List D) (e4 e5:Option D),(∀ (j:Nat) (p:Ask×Th),r[j]? = some p→ds[i+j]? = some p.2.td)→(pl=true→∀ p∈r,p.1=none)→(∀ p∈r,Wt p.2)→(pl=false→n≠0→b=bdF i r)→acc.length+r.length<1000→yv [some (.tup [.str w,.lst ds,g,b]),some (.int (3 - (n:Nat))),some (.bl (!pl))] acc S (aT (cM Γ (aa Γ m) (aH Γ m) [4] true ltB) (ixs i r.length) ⟨[some (.tup [.str w,.lst ds,g,b]),some (.int (3 - (n:Nat))),some (.bl (!pl)),some (.lst acc),e4,e5],[3],S⟩) (dg pl n r)
 | [],i,acc,e4,e5,_,_,_,_,_=>⟨e4,e5,by show am.nx _=_;rw [show sts [] = [] from rfl,ϕ];rfl⟩
 | (a,x) :: r,i,acc,e4,e5,hd,hp,wt,hb,ha=>by
   rw [Η] at ha
   have e0:ixs i (r.length+1) = .int (i:Nat) :: ixs (i+1) r.length:=rfl
   rw [Η,e0]
   show yv _ acc S _ (stp (one n a x (x.txt pl (n - 1))) (dg pl n r))
   have ix:ixD (.lst ds) (.int (i:Nat))=some x.td:=cW (by have:=hd 0 (a,x) rfl;exact this)
   have lb:decide (acc.length+1≤100000)=true:=ZW (by omega)
   have lb2:decide (acc.length<100000)=true:=ZW (by omega)
   have st:match one n a x (x.txt pl (n - 1)) with
    | .ok s=>cM Γ (aa Γ m) (aH Γ m) [4] true ltB (.int (i:Nat)) ⟨[some (.tup [.str w,.lst ds,g,b]),some (.int (3 - (n:Nat))),some (.bl (!pl)),some (.lst acc),e4,e5],[3],S⟩ = .nx ⟨[some (.tup [.str w,.lst ds,g,b]),some (.int (3 - (n:Nat))),some (.bl (!pl)),some (.lst (acc ++ [.str s])),some (.int (i:Nat)),some (.str s)],[3],S⟩
    | .error e=>∃ s:Sta,cM Γ (aa Γ m) (aH Γ m) [4] true ltB (.int (i:Nat)) ⟨[some (.tup [.str w,.lst ds,g,b]),some (.int (3 - (n:Nat))),some (.bl (!pl)),some (.lst acc),e4,e5],[3],S⟩ = .rt (.lst [e]) s∧s.st=S:=by
    cases n with
    | zero=>exact aA rfl (b9 false (aX 2 (lb2) aZ) (by kernel_rfl))
    | succ k=>
      have l3:decide ((3 - ((k+1:Nat):Int))<3)=true:=ZW (by omega)
      have oA:opD .add (.int (3 - ((k+1:Nat):Int))) (.int 1)=some (.int (3 - (k:Nat))):=ZS (fun z=>some (D.int z)) (by omega)
      have tx:aa Γ m aQ [x.td,.int (3 - ((k:Nat):Int)),.bl (!pl)] S = .ok (exD (x.txt pl k)) S:=ih (by omega) x (wt (a,x) κ)
      cases pl with
      | true=>
        have an:a=none:=hp rfl (a,x) κ
        subst an
        show match x.txt true k with | .ok s=>_ | .error e=>_
        cases q:x.txt true k with
        | ok s=>rw [q] at tx;exact aA rfl (b9 false (aX 1 (l3) (aX 4 (ix) (aX 0 (oA) (aX 0 (tx) (aX 3 (lb2) aZ))))) (by kernel_rfl))
        | error e=>rw [q] at tx;exact ⟨⟨[some (.tup [.str w,.lst ds,g,b]),some (.int (3 - ((k+1:Nat):Int))),some (.bl (!true)),some (.lst acc),some (.int (i:Nat)),some (.lst [e])],[3],S⟩,aA rfl (b9 false (aX 1 (l3) (aX 4 (ix) (aX 0 (oA) (aX 0 (tx) aZ)))) (by kernel_rfl)),rfl⟩
      | false=>
        have hb:b=(match chk a x with | some e=>D.tup [.int i,e] | none=>bdF (i+1) r):=hb rfl (by omega)
        show match (match chk a x with | some e=>ő e | none=>x.txt false k) with | .ok s=>_ | .error e=>_
        cases qc:chk a x with
        | some e=>
          rw [qc] at hb
          have hb:b=D.tup [.int i,e]:=hb
          subst hb
          have eqi:opD .eq (.int (i:Nat)) (.int (i:Nat))=some (.bl true):=by show some (D.bl ((i:Int) == i))=_;rw [ZT]
          exact ⟨⟨[some (.tup [.str w,.lst ds,g,.tup [.int (i:Nat),e]]),some (.int (3 - ((k+1:Nat):Int))),some (.bl (!false)),some (.lst acc),some (.int (i:Nat)),some (.str "..")],[3],S⟩,aA rfl (b9 false (aX 1 (l3) (aX 6 (eqi) aZ)) (by kernel_rfl)),rfl⟩
        | none=>
          rw [qc] at hb
          have hb:b=bdF (i+1) r:=hb
          show match x.txt false k with | .ok s=>_ | .error e=>_
          rcases vK (i+1) r with h | ⟨j,e,h1,h⟩
          ·rw [h] at hb;subst hb
           cases q:x.txt false k with
           | ok s=>rw [q] at tx;exact aA rfl (b9 false (aX 1 (l3) (aX 6 (ix) (aX 0 (oA) (aX 0 (tx) (aX 3 (lb2) aZ))))) (by kernel_rfl))
           | error e=>rw [q] at tx;exact ⟨⟨[some (.tup [.str w,.lst ds,g,.non]),some (.int (3 - ((k+1:Nat):Int))),some (.bl (!false)),some (.lst acc),some (.int (i:Nat)),some (.lst [e])],[3],S⟩,aA rfl (b9 false (aX 1 (l3) (aX 6 (ix) (aX 0 (oA) (aX 0 (tx) aZ)))) (by kernel_rfl)),rfl⟩
          ·rw [h] at hb;subst hb
           have eqj:opD .eq (.int (j:Nat)) (.int (i:Nat))=some (.bl false):=by show some (D.bl ((j:Int) == i))=_;rw [ZU.mpr (by omega)]
           cases q:x.txt false k with
           | ok s=>rw [q] at tx;exact aA rfl (b9 false (aX 1 (l3) (aX 6 (eqj) (aX 2 (ix) (aX 0 (oA) (aX 0 (tx) (aX 3 (lb2) aZ)))))) (by kernel_rfl))
           | error e2=>rw [q] at tx;exact ⟨⟨[some (.tup [.str w,.lst ds,g,.tup [.int (j:Nat),e]]),some (.int (3 - ((k+1:Nat):Int))),some (.bl (!false)),some (.lst acc),some (.int (i:Nat)),some (.lst [e2])],[3],S⟩,aA rfl (b9 false (aX 1 (l3) (aX 6 (eqj) (aX 2 (ix) (aX 0 (oA) (aX 0 (tx) aZ))))) (by kernel_rfl)),rfl⟩
   cases q:one n a x (x.txt pl (n - 1)) with
   | error e=>
     rw [q] at st
     obtain ⟨s,st,ss⟩:=st
     exact ⟨s,gI st (fun s z=>by cases z),ss⟩
   | ok s=>
     rw [q] at st
     have hb2:pl=false→n≠0→b=bdF (i+1) r:=fun hpl h0=>by
      have:b=(match chk a x with | some e=>D.tup [.int i,e] | none=>bdF (i+1) r):=hb hpl h0
      cases qc:chk a x with
      | none=>rw [qc] at this;exact this
      | some e=>
        cases n with
        | zero=>exact ZX rfl h0
        | succ k=>
          have:one (k+1) a x (x.txt pl (k+1 - 1)) = .error e:=by show (match chk a x with | some e=>ő e | none=>_)=_;rw [qc]
          rw [this] at q;cases q
     have rc:=jS h2 w ds g b ih r (i+1) (acc ++ [.str s]) (some (.int (i:Nat))) (some (.str s)) (fun j p hj=>by
      have:=hd (j+1) p hj
      rw [show i+(j+1)=i+1+j by omega] at this;exact this) (fun h p m=>hp h p (ι _ m)) (fun p m=>wt p (ι _ m)) hb2 (by rw [ω,ϊ];omega)
     cases qr:dg pl n r with
     | error e=>
       rw [qr] at rc
       obtain ⟨s',rc,ss⟩:=rc
       exact ⟨s',aW st rc,ss⟩
     | ok l=>
       rw [qr] at rc
       obtain ⟨a4,a5,rc⟩:=rc
       rw [Ô] at rc
       exact ⟨a4,a5,aW st rc⟩
end
theorem zE {a b:μ} (h:a.length+b.length≤100000):opD .add (.str a) (.str b)=some (.str (a ++ b)):=by
 show kC _ _=_;unfold kC;rw [ZZ h]
theorem yV:∀ tk,dQ true tk=none:=fun tk=>by cases tk <;> rfl
theorem nV:∀ o tk,bM true o tk=none:=fun o tk=>by cases tk <;> rfl
theorem ze {l:List Th} {j:Nat} {p:Ask×Th} {a:Ask} (h:(fE a l)[j]? = some p):(tds l)[j]? = some p.2.td:=by
 unfold fE at h
 rw [Ψ] at h
 obtain ⟨x,hx,rfl⟩:=φ.mp h
 rw [eV,Ψ,hx];rfl
theorem oJ (l:List Th):(tds l).length=l.length:=by rw [eV,Θ]
section
variable {pl:Bool} {m:Nat} {S:List O}
theorem rZ {n:Nat} (h2:n≤2) {w:μ} {A B:μ} (ha:A.length=1) (hb:B.length=1) {r:List (Ask×Th)} (r4:r.length≤4) (wt:∀ p∈r,Wt p.2) {T:D} {args:List D} {o:am} {R:List (Option D)} (lo:yv R [] S o (dg pl n r)) (hE:∀ e s,o = .rt (.lst [e]) s→s.st=S→aa Γ (m+1) aQ args S = .ok (.lst [e]) S) (hO:∀ l e4 e5,o = .nx ⟨R ++ [some (.lst (sts l)),e4,e5],[3],S⟩→jc blS (.lst (sts l))=some (.str (Ù blS l))→opD .add (.str A) (.str (Ù blS l))=some (.str (A ++ Ù blS l))→opD .add (.str (A ++ Ù blS l)) (.str B)=some (.str ((A ++ Ù blS l) ++ B))→aa Γ (m+1) aQ args S = .ok (.str ((A ++ Ù blS l) ++ B)) S):aa Γ (m+1) aQ args S = .ok (exD (fW A B (dg pl n r))) S:=by
 cases q:dg pl n r with
 | error e=>
   rw [q] at lo
   obtain ⟨s,lo,ss⟩:=lo
   exact hE e s lo ss
 | ok l=>
   rw [q] at lo
   obtain ⟨e4,e5,lo⟩:=lo
   obtain ⟨z1,z2⟩:=iw h2 wt q
   obtain ⟨j1,j2⟩:=jr ha hb (ws:=l) (by omega) (by omega)
   exact hO l e4 e5 lo j1 (zE (by omega)) (zE (by rw [eK];omega))
theorem wn (n:Nat) (h2:n≤2) (ih:n≠0→∀ x:Th,Wt x→aa Γ m aQ [x.td,.int (3 - ((n - 1:Nat):Int)),.bl (!pl)] S = .ok (exD (x.txt pl (n - 1))) S) (x:Th) (w:Wt x):aa Γ (m+1) aQ [x.td,.int (3 - (n:Nat)),.bl (!pl)] S = .ok (exD (x.txt pl n)) S:=by
 cases w with
 | num=>exact (ac false aZ (by kernel_rfl))
 | tru=>exact (ac false aZ (by kernel_rfl))
 | fn=>exact (ac false aZ (by kernel_rfl))
 | @row p l tk hw ht l4=>
   have zl:(fE (dQ pl tk) l).length=l.length:=Θ _
   have wz:∀ q∈fE (dQ pl tk) l,Wt q.2:=fun q hq=>by
    obtain ⟨x,hx,rfl⟩:=ϱ.mp hq
    exact hw x hx
   have lo:=jS (pl:=pl) (S:=S) (m:=m) h2 "row" (tds l) (gr (.row .unt)) (bdF 0 (fE (dQ false tk) l)) ih (fE (dQ pl tk) l) 0 [] none none (fun j q hj=>by rw [ě];exact ze hj) (fun e q hq=>by
    obtain ⟨x,hx,rfl⟩:=ϱ.mp hq
    rw [e];exact yV tk) wz (fun e _=>by rw [e]) (by rw [zl];simp only [Υ];omega)
   rw [zl,← oJ l] at lo
   have rg:=fx (n:=(tds l).length) (by rw [oJ];omega)
   have sw:=rZ (m:=m) h2 (A:="[") (B:="]") rfl rfl (by rw [zl];exact l4) wz (T:=.non) (w:="") (args:=[(Th.row p l tk).td,.int (3 - (n:Nat)),.bl (!pl)]) lo (fun e s lo ss=>by subst ss;exact (ac true (aX 5 (rg) (aX 0 (lo) aZ)) (by kernel_rfl))) (fun ws e4 e5 lo jn a1 a2=>(ac true (aX 5 (rg) (aX 0 (lo) (aX 3 (jn) (aX 0 (a1) (aX 0 (a2) aZ))))) (by kernel_rfl)))
   show _=Res.ok (exD (fW "[" "]" (iQ pl n (dQ pl tk) l))) S
   rw [kg]
   exact sw
 | @pair p pa pb a b tk wa wb ht=>
   have lo:=jS (pl:=pl) (S:=S) (m:=m) h2 "pair" [a.td,b.td] (gr (.pair .unt .unt)) (bdF 0 [(bM false false tk,a),(bM false true tk,b)]) ih [(bM pl false tk,a),(bM pl true tk,b)] 0 [] none none (fun j q hj=>by
    match j,hj with
    | 0,hj=>cases hj;rfl
    | 1,hj=>cases hj;rfl) (fun e q hq=>by
    subst e
    rcases π.mp hq with rfl | hq
    ·exact nV false tk
    ·rw [η.mp hq];exact nV true tk) (fun q hq=>by
    rcases π.mp hq with rfl | hq
    ·exact wa
    ·rw [η.mp hq];exact wb) (fun e _=>by rw [e]) (Ο rfl)
   have rg:=fx (n:=2) (by decide)
   exact rZ (m:=m) h2 (A:="<") (B:=">") rfl rfl (Ο rfl) (fun q hq=>by
    rcases π.mp hq with rfl | hq
    ·exact wa
    ·rw [η.mp hq];exact wb) (T:=.non) (w:="") (args:=[(Th.pair p pa pb a b tk).td,.int (3 - (n:Nat)),.bl (!pl)]) lo (fun e s lo ss=>by subst ss;exact (ac true (aX 5 (rg) (aX 0 (lo) aZ)) (by kernel_rfl))) (fun ws e4 e5 lo jn a1 a2=>(ac true (aX 5 (rg) (aX 0 (lo) (aX 3 (jn) (aX 0 (a1) (aX 0 (a2) aZ))))) (by kernel_rfl)))
theorem AT:∀ n≤2,∀ (m:Nat) (x:Th),n+1≤m→Wt x→aa Γ m aQ [x.td,.int (3 - (n:Nat)),.bl (!pl)] S = .ok (exD (x.txt pl n)) S:=fun n=>by
 induction n with
 | zero=>
   intro h2 m x hm w
   obtain ⟨m,rfl⟩:∃ k,m=k+1:=⟨m - 1,by omega⟩
   exact wn 0 h2 (fun z=>ZX rfl z) x w
 | succ n ih=>
   intro h2 m x hm w
   obtain ⟨m,rfl⟩:∃ k,m=k+1:=⟨m - 1,by omega⟩
   exact wn (n+1) h2 (fun _ x w=>ih (by omega) m x (by omega) w) x w
def duD:Except D μ→D
 | .ok s=>.tup [.str "done",.str s] | .error e=>e
theorem qp (x:Th) (w:Wt x) (m:Nat) (hm:4≤m):aa Γ m ed [x.td,.bl (!pl)] S = .ok (duD (x.txt pl 2)) S:=by
 obtain ⟨m,rfl⟩:∃ k,m=k+1:=⟨m - 1,by omega⟩
 have h:=AT (pl:=pl) (S:=S) 2 (Ω _) m x (by omega) w
 have h:aa Γ m aQ [x.td,.int 1,.bl (!pl)] S = .ok (exD (x.txt pl 2)) S:=h
 cases q:x.txt pl 2 with
 | ok s=>rw [q] at h;exact (ac false (aX 0 (h) aZ) (by kernel_rfl))
 | error e=>rw [q] at h;exact (ac false (aX 0 (h) aZ) (by kernel_rfl))
inductive Er:D→Prop
 | mk (f k:Kd) (q p:Int) (w:List μ):Er (bl (gr f) (lbl q w) (gr k) (lbl p []))
theorem xd {a:Ask} {x:Th} {e:D} (h:chk a x=some e) (ha:∀ f l,a=some (f,l)→∃ q w,l=lbl q w):Er e:=by
 match a,h,ha with
 | some (f,l),h,ha=>
   obtain ⟨q,w,rfl⟩:=ha f l rfl
   have h:(if hK x.kd=hK f then none else some (bl (gr f) (lbl q w) (gr x.kd) (lbl x.node.pl [])))=some e:=h
   split at h
   ·cases h
   ·cases h;exact .mk f x.kd q _ w
theorem kh {n:Nat} (ih:n≠0→∀ (x:Th) e,x.txt pl (n - 1) = .error e→Er e):∀ (r:List (Ask×Th)) (e:D),(∀ p∈r,∀ f l,p.1=some (f,l)→∃ q w,l=lbl q w)→dg pl n r = .error e→Er e
 | [],e,_,h=>by cases h
 | (a,x) :: r,e,hl,h=>by
   have h:stp (one n a x (x.txt pl (n - 1))) (dg pl n r) = .error e:=h
   cases q:one n a x (x.txt pl (n - 1)) with
   | error e'=>
     rw [q] at h
     cases h
     cases n with
     | zero=>cases q
     | succ k=>
       have q:(match chk a x with | some e=>ő e | none=>x.txt pl k) = .error e:=q
       cases qc:chk a x with
       | some e2=>rw [qc] at q;cases q;exact xd qc (hl (a,x) κ)
       | none=>rw [qc] at q;exact ih (by omega) x e q
   | ok s=>
     rw [q] at h
     cases qr:dg pl n r with
     | error e'=>
       rw [qr] at h
       cases h
       exact kh ih r e (fun p m=>hl p (ι _ m)) qr
     | ok l=>rw [qr] at h;cases h
theorem oO {A B:μ} {r:Except D (List μ)} {e:D} (h:fW A B r = .error e):r = .error e:=by
 cases r with
 | error e'=>cases h;rfl
 | ok l=>cases h
theorem vX (n:Nat) (ih:n≠0→∀ (x:Th) e,x.txt pl (n - 1) = .error e→Er e) (x:Th) (e:D) (h:x.txt pl n = .error e):Er e:=by
 cases x with
 | sg s=>cases h
 | row p l tk=>
   have h:fW "[" "]" (iQ pl n (dQ pl tk) l) = .error e:=h
   rw [kg] at h
   refine kh ih _ e (fun q hq f l e=>?_) (oO h)
   obtain ⟨x,hx,rfl⟩:=ϱ.mp hq
   have e:dQ pl tk=some (f,l):=e
   match tk,e with
   | some (f',q,p1),e=>
     cases pl with
     | true=>cases e
     | false=>cases e;exact ⟨_,_,rfl⟩
 | pair p pa pb a b tk=>
   refine kh ih [(bM pl false tk,a),(bM pl true tk,b)] e (fun q hq f l e=>?_) (oO (A:="<") (B:=">") h)
   have g:∀ o,bM pl o tk=some (f,l)→∃ q w,l=lbl q w:=fun o e=>by
    match tk,e with
    | some (f',g',q,p1),e=>
      cases pl with
      | true=>cases e
      | false=>cases o <;> (cases e;exact ⟨_,_,rfl⟩)
   rcases π.mp hq with rfl | hq
   ·exact g _ e
   ·rw [η.mp hq] at e;exact g _ e
theorem kf:∀ (n:Nat) (x:Th) (e:D),x.txt pl n = .error e→Er e:=fun n=>by
 induction n with
 | zero=>exact fun x e h=>vX 0 (fun z=>ZX rfl z) x e h
 | succ n ih=>exact fun x e h=>vX (n+1) (fun _=>ih) x e h
end
theorem Kd.nr:∀ k:Kd,noR k.toD=true
 | .unt=>rfl
 | .whole=>rfl
 | .truth=>rfl
 | .to a b=>by show (true && (noR a.toD && (noR b.toD && true)))=true;rw [nr a,nr b];rfl
 | .pair a b=>by show (true && (noR a.toD && (noR b.toD && true)))=true;rw [nr a,nr b];rfl
 | .row a=>by show (true && (noR a.toD && true))=true;rw [nr a];rfl
mutual
theorem T68.nr:∀ t:T68,noR t.toD=true
 | .whole p v=>rfl
 | .truth p b=>rfl
 | .nam p x k=>rfl
 | .fn p x k q=>by show (true && (true && (true && (noR k.toD && (true && true)))))=true;rw [k.nr];rfl
 | .as_ p k a=>by show (true && (true && (noR k.toD && (noR a.toD && true))))=true;rw [k.nr,T68.nr a];rfl
 | .row p k ts=>by show (true && (true && (noR k.toD && (aS (toDs ts) && true))))=true;rw [k.nr,nrs ts];rfl
 | .pair p a b=>by show (true && (true && (noR a.toD && (noR b.toD && true))))=true;rw [T68.nr a,T68.nr b];rfl
theorem nrs:∀ ts:List T68,aS (toDs ts)=true
 | []=>rfl
 | t :: r=>by show (noR t.toD && aS (toDs r))=true;rw [T68.nr t,nrs r];rfl
end
theorem qQ (k:Kd):noR (gr k)=true:=by cases k <;> rfl
theorem mE:∀ w:List μ,aS (sts w)=true
 | []=>rfl
 | x :: r=>by show (true && aS (sts r))=true;rw [mE r];rfl
theorem b5 (p:Int) (w:List μ):noR (lbl p w)=true:=by show (true && (true && (aS (sts w) && true)))=true;rw [mE w];rfl
theorem mD (p:Int) (w:List μ):noR (rA p w)=true:=by show (true && (true && (aS (sts w) && true)))=true;rw [mE w];rfl
theorem c8 (k:Kd) {l:D} (h:noR l=true):noR (az k l)=true:=by show (noR (gr k) && (noR l && true))=true;rw [qQ,h];rfl
theorem vg {a b:D} (ha:noR a=true) (hb:noR b=true):noR (.tup [a,b])=true:=by show (noR a && (noR b && true))=true;rw [ha,hb];rfl
theorem fq {a b c:D} (ha:noR a=true) (hb:noR b=true) (hc:noR c=true):noR (.tup [a,b,c])=true:=by show (noR a && (noR b && (noR c && true)))=true;rw [ha,hb,hc];rfl
theorem eO (k:Kd) {l:D} (h:noR l=true):noR (cf k l)=true:=fq rfl rfl (c8 k h)
theorem jh (k:Kd) {l:D} (h:noR l=true):noR (cj k l)=true:=fq (c8 k h) rfl rfl
theorem A7 (k:Kd) (p:Int):noR (.tup (.str "to" :: gFn k p))=true:=by
 cases k with
 | row k=>exact fq rfl (fq (c8 _ (mD _ _)) (vg rfl (jh _ (mD _ _))) rfl) (fq rfl (vg rfl (eO _ (b5 _ _))) (c8 _ (b5 _ _)))
 | _=>exact fq rfl (jh _ (mD _ _)) (eO _ (b5 _ _))
theorem A8 (k w:Kd) (p:Int):noR (mkD k w p)=true:=by
 have l0:=b5 p []
 unfold mkD
 split
 ·split
  ·exact eO _ l0
  ·exact fq rfl (vg rfl (eO _ (b5 _ _))) (c8 _ l0)
 ·split
  ·exact eO _ l0
  ·exact fq rfl (fq rfl (eO _ (b5 _ _)) (eO _ (b5 _ _))) (c8 _ l0)
 ·split
  ·exact eO _ l0
  ·exact fq rfl (A7 _ _) (c8 _ l0)
 ·exact eO _ l0
 ·exact fq (c8 _ l0) (vg rfl (jh _ (b5 _ _))) rfl
 ·exact fq (c8 _ l0) (fq rfl (jh _ (b5 _ _)) (jh _ (b5 _ _))) rfl
 ·exact jh _ l0
theorem so:∀ L:AlG Rw,aS (dsF mkR L)=true
 | []=>rfl
 | r :: L=>by show (noR (mkR r.2) && aS (dsF mkR L))=true;rw [so L,show noR (mkR r.2)=true from A8 _ _ _];rfl
theorem kF (n:Nat):∀ l:List D,(∀ d∈l,eqv n d d=some true)→dk (eqv n) l l=some true
 | [],_=>rfl
 | d :: r,h=>by
   show (match eqv n d d with | none=>none | some x=>(dk (eqv n) r r).map (x && ·))=_
   rw [h d (κ ..),kF n r fun e he=>h e (ι _ he)];rfl
theorem lF {n:Nat} {l:List D} (h:∀ d∈l,eqv n d d=some true):eqv (n+1) (.tup l) (.tup l)=some true:=by
 show (dk (eqv n) l l).map (· && l.length == l.length)=_
 rw [kF n l h,ZT];rfl
inductive Pl:Nat→D→Prop
 | i {n x}:Pl n (.int x)
 | s {n x}:Pl n (.str x)
 | t {n l} (h:∀ d∈l,Pl n d):Pl (n+1) (.tup l)
theorem Pl.refl {n:Nat} {d:D} (h:Pl n d):eqv (n+1) d d=some true:=by
 induction h with
 | @i n x=>show some (x == x)=_;rw [ZT]
 | @s n x=>show some (x == x)=_;rw [ZT]
 | t h ih=>exact lF ih
theorem dD {n:Nat}:∀ d∈([]:List D),Pl n d:=fun d h=>by cases h
theorem aE {n:Nat} {d:D} {l:List D} (h:Pl n d) (t:∀ x∈l,Pl n x):∀ x∈d :: l,Pl n x:=fun x m=>by
 rcases π.mp m with rfl | m
 ·exact h
 ·exact t x m
theorem sB {n:Nat} (p:Int) (w:List μ):Pl (n+2) (lbl p w):=.t (aE .i (aE .s (aE (.t fun d hd=>by obtain ⟨x,_,rfl⟩:=ϱ.mp hd;exact .s) dD)))
theorem wD {n:Nat} (k:Kd):Pl (n+2) (gr k):=by
 have u:Pl (n+1) (.tup [.str "?"]):=.t (aE .s dD)
 cases k with
 | row=>exact .t (aE .s (aE u dD))
 | to=>exact .t (aE .s (aE u (aE u dD)))
 | pair=>exact .t (aE .s (aE u (aE u dD)))
 | _=>exact .t (aE .s dD)
theorem nU {l:List D} (h:∀ d∈l,Pl 53 d):opD .eq (.tup l) (.tup l)=some (.bl true):=by
 have e:eqv 55 (.tup l) (.tup l)=some true:=lF fun d hd=>(h d hd).refl
 have e2:eqT (.tup l) (.tup l)=some true:=(qw rfl).trans e
 show (eqT (.tup l) (.tup l)).map _=_
 rw [e2];rfl
theorem vH {r:Except D μ} (h:∀ e,r = .error e→Er e) (n:Nat) (S:List O):aa Γ (n+1) cb [duD r,duD r] S = .ok (.bl true) S:=by
 cases r with
 | ok s=>have e:=nU (l:=[.str "done",.str s]) (aE .s (aE .s dD));exact (ac false (aX 22 (e) aZ) (by kernel_rfl))
 | error e=>
   cases h e rfl with
   | mk f k q p w=>
     have e:=nU (l:=[.str "blame",lbl q w,gr f,lbl p [],gr k]) (aE .s (aE (sB q w) (aE (wD f) (aE (sB p []) (aE (wD k) dD)))))
     obtain ⟨l1,e1⟩:∃ l,gr f = .tup l:=by cases f <;> exact ⟨_,rfl⟩
     obtain ⟨l2,e2⟩:∃ l,gr k = .tup l:=by cases k <;> exact ⟨_,rfl⟩
     show aa Γ (n+1) cb [.tup [.str "blame",lbl q w,gr f,lbl p [],gr k],.tup [.str "blame",lbl q w,gr f,lbl p [],gr k]] S=_
     rw [e1,e2] at e ⊢
     exact (ac false (aX 43 (e) aZ) (by kernel_rfl))
theorem wv {r:Except D μ} (h:∀ e,r = .error e→Er e):noR (duD r)=true:=by
 cases r with
 | ok s=>rfl
 | error e=>
   cases h e rfl with
   | mk f k q p w=>
     show (true && (noR (lbl q w) && (noR (gr f) && (noR (lbl p []) && (noR (gr k) && true)))))=true
     rw [b5,b5,qQ,qQ];rfl
section
variable {L:AlG Rw} {tg pl:Bool} {c:Int} {n:Nat} {x:Th}
theorem zj (n:Nat):aa Γ (n+3) cH [.ref 0,dL L,.lst [],.int c,.bl tg] [.ins 4 []] = .ok .non (ws L tg c []):=by kernel_rfl
theorem fB (w:Wt x) (hL:ax L (.inl x.node.pl)=none) (hv:Va L tg pl 7 c x):∃ st,aa Γ (n+100) rm [x.node.toD,dL L,.lst [],.int c,.bl tg] [] = .ok (duD (x.txt pl 2)) st:=by
 have n8:nb (7+1)=21845:=by decide
 have r2:rB 2=40:=by decide
 obtain ⟨v,nt,cm,l1,e⟩:=hv [] (n+98) (by simp only [Υ];omega) (by omega)
 simp only [Υ] at l1
 have ct:=cD (m:=n+87) hL e
 have sv:Sh pl x v:=by
  have cu:=cm
  cases cm <;> exact .mk _ cu
 have sh:=sN (L:=L) (tg:=tg) (pl:=pl) (c:=c) 2 (Ω _) (n+98) x v nt (by omega) w sv (by omega)
 have hi:aH Γ (n+99) cH [.ref 0,dL L,.lst [],.int c,.bl tg] [.ins 4 []] = .ok .non (ws L tg c []):=zj (n+95)
 cases q:x.txt pl 2 with
 | ok s=>
   rw [q] at sh
   obtain ⟨nt',l2,sh⟩:=sh
   have sh:aa Γ (n+98) bQ [v,.int 1,.ref 1] (ws L tg c nt) = .ok (.str s) (ws L tg c nt'):=sh
   have tx:aa Γ (n+99) jb [v,.ref 1] (ws L tg c nt) = .ok (.str s) (ws L tg c nt'):=(ac false (aX 0 (sh) aZ) (by kernel_rfl))
   exact ⟨ws L tg c nt',(ac false (aX 0 (hi) (aX 0 (ct) (aX 0 (tx) aZ))) (by kernel_rfl))⟩
 | error e=>
   rw [q] at sh
   obtain ⟨st,sh⟩:=sh
   have sh:aa Γ (n+98) bQ [v,.int 1,.ref 1] (ws L tg c nt) = .exc 1 [e] st:=sh
   have tx:aa Γ (n+99) jb [v,.ref 1] (ws L tg c nt) = .exc 1 [e] st:=(ac false (aX 0 (sh) aZ) (by kernel_rfl))
   exact ⟨st,(ac false (aX 0 (hi) (aX 0 (ct) (aX 0 (tx) aZ))) (by kernel_rfl))⟩
structure Pg (x:Th):Prop where
 w:Wt x
 o:Ok 8 x.node
 n:x.node.isN=false
 t:Tk x.node
 c:Oc 8 x.node
 d:(ai 8 x.node).Nodup
theorem sC (g:Pg x):∃ st,aa Γ (n+101) ng [x.node.toD,.lst [],.int c] [] = .ok (duD (x.txt true 2)) st:=by
 have nb:=eu 8 (n+99) x.node [] [] (by omega) g.o (by have:=g.n;cases h:x.node <;> first | trivial | (rw [h] at this;cases this)) (by decide)
 have h1:aa Γ (n+100) eJ [x.node.toD] [] = .ok .non []:=(ac false (aX 0 (nb) aZ) (by kernel_rfl))
 obtain ⟨st,h2⟩:=fB (L:=[]) (tg:=false) (pl:=true) (c:=c) (n:=n) g.w rfl (sW 7 x g.o (qJ 8 _) g.w)
 exact ⟨st,(ac false (aX 0 (h1) (aX 0 (h2) aZ)) (by kernel_rfl))⟩
theorem yY (g:Pg x):∃ st,aa Γ (n+101) wi [x.node.toD,.lst [],.int c,.bl tg] [] = .ok (duD (x.txt false 2)) st:=by
 have nt:aS [x.node.toD]=true:=by show (noR x.node.toD && true)=true;rw [T68.nr];rfl
 obtain ⟨L,sl,h1,hL,f⟩:=gV g.n g.t g.c g.o g.d (n+77)
 have nl:noR (dL L)=true:=so L
 obtain ⟨st,h2⟩:=fB (L:=L) (tg:=tg) (pl:=false) (c:=c) (n:=n) g.w hL (sW 7 x g.o f g.w)
 exact ⟨st,(ac false (aX 0 (nt) (aX 0 (h1) (aX 0 (nl) (aX 0 (h2) aZ)))) (by kernel_rfl))⟩
theorem yX (g:Pg x):∃ st,aa Γ (n+101) rj [x.node.toD,.lst [],.int c] [] = .ok (duD (x.txt false 2)) st:=by
 have nt:aS [x.node.toD]=true:=by show (noR x.node.toD && true)=true;rw [T68.nr];rfl
 obtain ⟨L,sl,h1,hL,f⟩:=gV g.n g.t g.c g.o g.d (n+77)
 have nl:noR (dL L)=true:=so L
 obtain ⟨st,h2⟩:=fB (L:=L) (tg:=false) (pl:=false) (c:=c) (n:=n) g.w hL (sW 7 x g.o f g.w)
 exact ⟨st,(ac false (aX 0 (nt) (aX 0 (h1) (aX 0 (nl) (aX 0 (h2) aZ)))) (by kernel_rfl))⟩
end
theorem kZ {i j:Int} (h:-(2 ^ 64)<j∧j<2 ^ 64):opD .mul (.int i) (.int j)=some (.int (i * j)):=by
 show (if _ then _ else _)=_
 rw [ZZ (.inl (.inr h))]
theorem AZ {i j:Int} (h:-(2 ^ 64)<i∧i<2 ^ 64):opD .mul (.int i) (.int j)=some (.int (i * j)):=by
 show (if _ then _ else _)=_
 rw [ZZ (.inl (.inl h))]
theorem BN {a b:Int} (h:a=b):(a == b)=true:=by rw [h];exact ZT b
theorem zG {a b:Int} (h:a≠b):(a == b)=false:=by simpa using h
theorem AX (c:Int):c % 2=0∨c % 2=1:=by omega
theorem AY (c:Int):c % 3=0∨c % 3=1∨c % 3=2:=by omega
theorem cq {a b k:Int} (h:a % b=k) (hb:0<b):opD .mod (.int a) (.int b)=some (.int k):=by
 show (if 0<b then some (D.int (a % b)) else none)=_;rw [ZZ hb,h]
theorem wV (x:Int):0≤x % 999999999989∧x % 999999999989<999999999989:=⟨Int.emod_nonneg _ (by decide),Int.emod_lt_of_pos _ (by decide)⟩
theorem tU (ns:List Int) (k:Nat) (n:Nat) (st:List O):∃ c:Int,(0≤c∧c<999999999989)∧aa Γ (n+1) gL [.lst (ns.map .int),.int k] st = .ok (.int c) st:=by
 by_cases c:k<ns.length
 ·have e1:decide ((k:Int)<((ns.map D.int).length:Nat))=true:=by rw [Θ];exact ZW (by omega)
  have e2:ixD (.lst (ns.map D.int)) (.int (k:Int))=some (.int ns[k]):=by
   refine cW ?_
   rw [Ψ,Ζ c]
   rfl
  refine ⟨_,wV (ns[k] * 982451653+((k:Int)+1) * 104395303),?_⟩
  exact gB false [.t 2 true,.o 0 (.int ns[k]),.o 0 (.int (ns[k] * 982451653)),.o 1 (.int (((k:Int)+1) * 104395303))] (e1<|>e2<|>kZ (i:=ns[k]) (j:=982451653) (by decide)<|>kZ (i:=(k:Int)+1) (j:=104395303) (by decide)<|>Z) (by kernel_rfl)
 ·have e1:decide ((k:Int)<((ns.map D.int).length:Nat))=false:=by rw [Θ];exact ZV (by omega)
  refine ⟨_,wV (0 * 982451653+((k:Int)+1) * 104395303),?_⟩
  exact gB false [.t 2 false,.o 2 (.int (((k:Int)+1) * 104395303))] (e1<|>kZ (i:=(k:Int)+1) (j:=104395303) (by decide)<|>Z) (by kernel_rfl)
abbrev aj (ns:List Int) (i b c:Int):List O:=[.lst [.lst (ns.map .int),.int i,.int b,.int c]]
abbrev pl0 (b0 c:Int):Int:=(b0+7919 * (c+1)) % 9973
theorem sm0 (b0 c:Int):Sm (pl0 b0 c):=by unfold Sm pl0;omega
section
variable {ns:List Int} {i b c:Int} {n:Nat}
theorem b7:aa Γ (n+1) jJ [.ref 0] (aj ns i b c) = .ok (.int (pl0 b c)) (aj ns i b (c+1)):=by kernel_rfl
theorem next (hi:0≤i):∃ x:Int,(0≤x∧x<999999999989)∧(30<c→x=0)∧aa Γ (n+1) kQ [.ref 0] (aj ns i b c) = .ok (.int x) (aj ns (i+1) b c):=by
 by_cases c1:30<c
 ·have e1:decide ((30:Int)<c)=true:=ZW c1
  exact ⟨0,⟨by decide,by decide⟩,fun _=>rfl,(ac false (aX 4 (e1) aZ) (by kernel_rfl))⟩
 ·have e1:decide ((30:Int)<c)=false:=ZV c1
  by_cases c2:(ns.length:Int)≤i+1
  ·have e2:decide (((ns.map D.int).length:Int)≤i+1)=true:=by rw [Θ];exact ZW c2
   exact ⟨0,⟨by decide,by decide⟩,fun _=>rfl,(ac false (aX 4 (e1) (aX 4 (e2) aZ)) (by kernel_rfl))⟩
  ·have e2:decide (((ns.map D.int).length:Int)≤i+1)=false:=by rw [Θ];exact ZV c2
   obtain ⟨k,hk⟩:∃ k:Nat,i+1=k:=⟨(i+1).toNat,by omega⟩
   have kl:k<ns.length:=by omega
   have e3:ixD (.lst (ns.map .int)) (.int (i+1))=some (.int ns[k]):=by
    rw [hk]
    refine cW ?_
    rw [Ψ,Ζ kl]
    rfl
   exact ⟨_,wV (ns[k] * 982451653+(i+1) * 104395303),fun z=>ZX z c1,(ac false (aX 4 (e1) (aX 4 (e2) (aX 2 (e3) (aX 0 (kZ (i:=ns[k]) (j:=982451653) (by decide)) (aX 1 (kZ (i:=i+1) (j:=104395303) (by decide)) aZ))))) (by kernel_rfl))⟩
end
def ind (b0 x c:Int):Int:=if pl0 b0 c=x then 1 else 0
def Gn (b0 x:Int):Nat→Int
 | 0=>0
 | n+1=>Gn b0 x n+ind b0 x n
def Gm (b0 x:Int):Nat→Int
 | 0=>0
 | n+1=>Gm b0 x n - ind b0 x (-((n:Int)+1))
def Gc (b0 x:Int):Int→Int
 | .ofNat n=>Gn b0 x n
 | .negSucc n=>Gm b0 x (n+1)
theorem wN (b0 x:Int):∀ c:Int,Gc b0 x (c+1)=Gc b0 x c+ind b0 x c
 | .ofNat n=>rfl
 | .negSucc 0=>by show (0:Int)=(0 - ind b0 x (-((0:Nat)+1)))+ind b0 x (ź 0);show (0:Int)=(0 - ind b0 x (-1))+ind b0 x (-1);omega
 | .negSucc (n+1)=>by
   have e:(ź (n+1))+1=ź n:=by omega
   have e2:ź (n+1) = -(((n+1:Nat):Int)+1):=by omega
   rw [e]
   show Gm b0 x (n+1)=(Gm b0 x (n+1) - ind b0 x (-(((n+1:Nat):Int)+1)))+ind b0 x (ź (n+1))
   rw [← e2];omega
theorem vm {b0 i j:Int} (h0:0≤i) (h1:i<j) (h2:j<9973) (e:pl0 b0 i=pl0 b0 j):False:=by
 unfold pl0 at e
 omega
theorem vF (b0 x:Int):∀ n:Nat,n≤9973→Gn b0 x n≤1∧(Gn b0 x n=1→∃ i:Nat,i<n∧pl0 b0 i=x)∧0≤Gn b0 x n
 | 0,_=>⟨by show (0:Int)≤1;decide,fun h=>ZX (show (0:Int)=1 from h) (by decide),Ż _⟩
 | n+1,h=>by
   obtain ⟨h1,h2,h3⟩:=vF b0 x n (by omega)
   show Gn b0 x n+ind b0 x n≤1∧(Gn b0 x n+ind b0 x n=1→_)∧0≤Gn b0 x n+ind b0 x n
   unfold ind
   by_cases k:pl0 b0 n=x
   ·rw [ZZ k]
    have z:Gn b0 x n=0:=by
     refine Dr fun q=>?_
     obtain ⟨i,hi,e⟩:=h2 (by omega)
     exact vm (b0:=b0) (i:=i) (j:=n) (by omega) (by omega) (by omega) (e.trans k.symm)
    exact ⟨by omega,fun _=>⟨n,by omega,k⟩,by omega⟩
   ·rw [ZY k]
    exact ⟨by omega,fun q=>by obtain ⟨i,hi,e⟩:=h2 (by omega);exact ⟨i,by omega,e⟩,by omega⟩
def Pq (b0 c c':Int) (l:List Int):Prop:=(∀ x,(l.count x:Int)+Gc b0 x c≤Gc b0 x c')∧c≤c'
section
variable {b0 c c1 c':Int} {l l':List Int}
theorem Pq.nil:Pq b0 c c []:=⟨fun x=>by simp,Ż _⟩
theorem Pq.one:Pq b0 c (c+1) [pl0 b0 c]:=⟨fun x=>by
 rw [wN]
 unfold ind
 rw [ď,ķ]
 by_cases k:pl0 b0 c=x
 ·rw [ZZ k,ZZ (by simpa using k)];omega
 ·rw [ZY k,ZY (by simpa using k)];omega,by omega⟩
theorem Pq.app (h:Pq b0 c c1 l) (h':Pq b0 c1 c' l'):Pq b0 c c' (l ++ l'):=⟨fun x=>by
 have:=h.1 x;have:=h'.1 x
 rw [ė];omega,by have:=h.2;have:=h'.2;omega⟩
theorem Pq.of (h:Pq b0 c c' l) (e:∀ x,l'.count x≤l.count x):Pq b0 c c' l':=⟨fun x=>by have:=h.1 x;have:=e x;omega,h.2⟩
theorem Pq.apart {n:Nat} (h:Pq b0 0 c' l) (hz:c'≤9973):l.Nodup:=by
 rw [List.nodup_iff_count]
 intro x
 obtain ⟨h1,h2⟩:=h
 obtain ⟨n,rfl⟩:∃ n:Nat,c'=n:=⟨c'.toNat,by omega⟩
 have:=h1 x
 have g:=(vF b0 x n (by omega)).1
 have e0:Gc b0 x 0=0:=rfl
 have e1:Gc b0 x n=Gn b0 x n:=rfl
 rw [e0,e1] at this
 omega
end
structure Kt (q:Nat) (t:T68):Prop where
 o:Ok q t
 tk:Tk t
 oc:Oc q t
 nn:t.isN=false
theorem Occ.cs {k w:Kd} (h:Occ k w):Cs k w:=by cases h <;> first | exact .inr (.inr rfl) | exact .inr (.inl rfl)
section
variable {q:Nat} {p:Int}
theorem je (sp:Sm p) {k:Kd} (hk:k.dep≤4) {z:T68} (h:Kt q z) (oc:kof z=k∨Occ (kof z) k):Kt (q+1) (.as_ p k z):=by
 refine ⟨⟨trivial,sp,fun y hy=>?_⟩,⟨fun w hw=>?_,hk,fun i y hy=>?_,fun i y hy=>?_⟩,fun i y hy=>?_,rfl⟩
 ·rw [η.mp hy];exact ⟨h.o,fun e=>by rw [h.nn] at e;cases e⟩
 ·rw [η.mp hw];exact hk
 ·match i,hy with | 0,hy=>cases hy;exact h.tk
 ·match i,hy with | 0,hy=>cases hy;exact oc.elim .inl Occ.cs
 ·match i,hy with | 0,hy=>cases hy;exact ⟨oc,h.oc⟩
theorem xM (sp:Sm p) {zs:List T68} (l4:zs.length≤4) (h:∀ z∈zs,Kt q z∧Occ (kof z) .unt):Kt (q+1) (.row p .unt zs):=by
 refine ⟨⟨l4,sp,fun y hy=>?_⟩,⟨fun w hw=>?_,(by decide:2≤4),fun i y hy=>?_,fun i y hy=>?_⟩,fun i y hy=>?_,rfl⟩
 ·exact ⟨(h y hy).1.o,fun e=>by rw [(h y hy).1.nn] at e;cases e⟩
 ·rw [η.mp hw];decide
 ·exact (h y (ο hy)).1.tk
 ·exact (h y (ο hy)).2.cs
 ·exact ⟨.inr (h y (ο hy)).2,(h y (ο hy)).1.oc⟩
theorem uu (sp:Sm p) {a b:T68} (ha:Kt q a) (hb:Kt q b) (ka:kof a = .unt) (kb:kof b = .unt):Kt (q+1) (.pair p a b):=by
 refine ⟨⟨trivial,sp,fun y hy=>?_⟩,⟨fun w hw=>(nomatch hw),by show (Kd.pair (kof a) (kof b)).dep≤4;rw [ka,kb];decide,fun i y hy=>?_,fun i y hy=>?_⟩,fun i y hy=>?_,rfl⟩
 ·rcases π.mp hy with rfl | hy
  ·exact ⟨ha.o,fun e=>by rw [ha.nn] at e;cases e⟩
  ·rw [η.mp hy];exact ⟨hb.o,fun e=>by rw [hb.nn] at e;cases e⟩
 ·match i,hy with
  | 0,hy=>cases hy;exact ha.tk
  | 1,hy=>cases hy;exact hb.tk
 ·match i,hy with
  | 0,hy=>cases hy;exact .inl rfl
  | 1,hy=>cases hy;exact .inl rfl
 ·match i,hy with
  | 0,hy=>cases hy;exact ⟨.inl rfl,ha.oc⟩
  | 1,hy=>cases hy;exact ⟨.inl rfl,hb.oc⟩
theorem jN {t:T68} (h:(∃ i,t = .whole p i)∨(∃ b,t = .truth p b)) (sp:Sm p):Kt (q+1) t:=by
 rcases h with ⟨i,rfl⟩ | ⟨b,rfl⟩
 ·exact ⟨⟨trivial,sp,fun y hy=>(nomatch hy)⟩,⟨fun w hw=>(nomatch hw),(by decide:1≤4),fun i y hy=>(by cases hy),fun i y hy=>(by cases hy)⟩,fun i y hy=>(by cases hy),rfl⟩
 ·exact ⟨⟨trivial,sp,fun y hy=>(nomatch hy)⟩,⟨fun w hw=>(nomatch hw),(by decide:1≤4),fun i y hy=>(by cases hy),fun i y hy=>(by cases hy)⟩,fun i y hy=>(by cases hy),rfl⟩
theorem rr {x:μ} {k:Kd} {u:Int} (hk:Fnk k) (sp:Sm p) (su:Sm u):Kt (q+2) (.fn p x k u):=by
 have d3:k.dep≤3:=by cases hk <;> decide
 have td:(Kd.to k k).dep=1+max k.dep k.dep:=rfl
 refine ⟨⟨trivial,sp,fun y hy=>?_⟩,⟨fun w hw=>?_,by show (Kd.to k k).dep≤4;rw [td,Nat.max_self];omega,fun i y hy=>?_,fun i y hy=>?_⟩,fun i y hy=>?_,rfl⟩
 ·rw [η.mp hy]
  exact ⟨⟨trivial,su,fun z hz=>(nomatch hz)⟩,fun _=>rfl⟩
 ·rw [η.mp hw];omega
 ·match i,hy with
  | 0,hy=>cases hy;exact ⟨fun w hw=>(nomatch hw),by show k.dep≤4;omega,fun i y hy=>(by cases hy),fun i y hy=>(by cases hy)⟩
 ·match i,hy with | 0,hy=>cases hy;exact .inl rfl
 ·match i,hy with | 0,hy=>cases hy;exact ⟨.inl rfl,fun i y hy=>(by cases hy)⟩
end
theorem dU (a:Int) {b:Int} (hb:0<b∧b<2 ^ 200):opD .fdiv (.int a) (.int b)=some (.int (a / b)):=by show (if 0<b∧b<2 ^ 200 then some (D.int (a / b)) else none)=_;rw [ZZ hb]
structure Mt (r:Nat) (b c c':Int) (x:Th):Prop extends Kt r x.node where
 w:Wt x
 p:Pq b c c' (ai r x.node)
abbrev thR (x:Th) (S:List O):Res:=.ok (.lst [x.node.toD,x.td]) S
theorem fw {b c:Int} {r:Nat} {t:T68} (h:ay t = []) (hp:t.pl=pl0 b c):Pq b c (c+1) (ai (r+1) t):=by
 show Pq b c (c+1) (t.pl :: (ay t).flatMap (ai r))
 rw [h,hp]
 exact .one
section
variable {ns:List Int} {i b c x:Int} {n r:Nat}
theorem oB (hx:0≤x∧x<999999999989):∃ s:Sn,Mt (r+1) b c (c+1) (.sg s)∧aa Γ (n+2) bc [.ref 0,.int x,.int 0] (aj ns i b c)=thR (.sg s) (aj ns i b (c+1)):=by
 have p0:=b7 (ns:=ns) (i:=i) (b:=b) (c:=c) (n:=n)
 obtain ⟨y,hy⟩:∃ y,x % 2001=y:=⟨_,rfl⟩
 have m1:=cq hy (b:=2001) (by decide)
 have z1:=dU x (b:=2001) (by decide)
 obtain ⟨w,hw⟩:∃ w,x / 2001 % 4=w:=⟨_,rfl⟩
 have m2:=cq hw (b:=4) (by decide)
 have go:∀ v:Int,v.natAbs<10 ^ 40→(fP .str (.int v)=some (.str (uh v))→aa Γ (n+2) bc [.ref 0,.int x,.int 0] (aj ns i b c)=thR (.sg (.num (pl0 b c) v)) (aj ns i b (c+1)))→∃ s:Sn,Mt (r+1) b c (c+1) (.sg s)∧aa Γ (n+2) bc [.ref 0,.int x,.int 0] (aj ns i b c)=thR (.sg s) (aj ns i b (c+1)):=fun v hv k=>⟨.num (pl0 b c) v,⟨jN (.inl ⟨v,rfl⟩) (sm0 b c),.num hv,fw rfl rfl⟩,k (A9 hv)⟩
 have eq0:opD .eq (.int w) (.int 0)=some (.bl (w == 0)):=rfl
 cases q:(w == 0) with
 | true=>
   rw [q] at eq0
   obtain ⟨u,hu⟩:∃ u,(y - 1000) * (10:Int) ^ 36=u:=⟨_,rfl⟩
   have mu:=AZ (i:=y - 1000) (j:=(10:Int) ^ 36) (by omega)
   rw [hu] at mu
   have ub:u.natAbs≤1000 * 10 ^ 36:=by
    rw [← hu,Int.natAbs_mul]
    exact Gj (by omega) (by decide)
   exact go (u+x) (by omega) fun sv=>(ac false (aX 0 (p0) (aX 2 (m1) (aX 1 (z1) (aX 0 (m2) (aX 0 (eq0) (aX 2 (mu) (aX 1 (sv) aZ))))))) (by kernel_rfl))
 | false=>
   rw [q] at eq0
   exact go (y - 1000) (by omega) fun sv=>(ac false (aX 0 (p0) (aX 2 (m1) (aX 1 (z1) (aX 0 (m2) (aX 0 (eq0) (aX 1 (sv) aZ)))))) (by kernel_rfl))
theorem oE:∃ s:Sn,Mt (r+1) b c (c+1) (.sg s)∧aa Γ (n+2) bc [.ref 0,.int x,.int 1] (aj ns i b c)=thR (.sg s) (aj ns i b (c+1)):=by
 have p0:=b7 (ns:=ns) (i:=i) (b:=b) (c:=c) (n:=n)
 rcases AX x with h | h
 ·have m:=cq h (b:=2) (by decide)
  exact ⟨.tru (pl0 b c) false,⟨jN (.inr ⟨false,rfl⟩) (sm0 b c),.tru,fw rfl rfl⟩,(ac false (aX 0 (p0) (aX 4 (m) (aX 1 (m) aZ))) (by kernel_rfl))⟩
 ·have m:=cq h (b:=2) (by decide)
  exact ⟨.tru (pl0 b c) true,⟨jN (.inr ⟨true,rfl⟩) (sm0 b c),.tru,fw rfl rfl⟩,(ac false (aX 0 (p0) (aX 4 (m) (aX 1 (m) aZ))) (by kernel_rfl))⟩
theorem vw:∃ s:Sn,Mt (r+2) b c (c+2) (.sg s)∧aa Γ (n+2) bc [.ref 0,.int x,.int 2] (aj ns i b c)=thR (.sg s) (aj ns i b (c+2)):=by
 have p0:=b7 (ns:=ns) (i:=i) (b:=b) (c:=c) (n:=n)
 have p1:=b7 (ns:=ns) (i:=i) (b:=b) (c:=c+1) (n:=n)
 rw [show c+1+1=c+2 by omega] at p1
 have pq:Pq b c (c+2) [pl0 b c,pl0 b (c+1)]:=by
  have:=Pq.one (b0:=b) (c:=c)
  have h:=this.app (Pq.one (b0:=b) (c:=c+1))
  rw [show c+1+1=c+2 by omega] at h;exact h
 rcases AY x with h | h | h
 ·have m:=cq h (b:=3) (by decide)
  exact ⟨.fn (pl0 b c) "a" .unt (pl0 b (c+1)),⟨rr .u (sm0 b c) (sm0 b (c+1)),.fn .u,pq⟩,(ac false (aX 0 (p0) (aX 4 (m) (aX 1 (m) (aX 0 (p1) (aX 0 (m) aZ))))) (by kernel_rfl))⟩
 ·have m:=cq h (b:=3) (by decide)
  exact ⟨.fn (pl0 b c) "ab" .whole (pl0 b (c+1)),⟨rr .w (sm0 b c) (sm0 b (c+1)),.fn .w,pq⟩,(ac false (aX 0 (p0) (aX 4 (m) (aX 1 (m) (aX 0 (p1) (aX 0 (m) aZ))))) (by kernel_rfl))⟩
 ·have m:=cq h (b:=3) (by decide)
  exact ⟨.fn (pl0 b c) "abc" (.row .truth) (pl0 b (c+1)),⟨rr .r (sm0 b c) (sm0 b (c+1)),.fn .r,pq⟩,(ac false (aX 0 (p0) (aX 4 (m) (aX 1 (m) (aX 0 (p1) (aX 0 (m) aZ))))) (by kernel_rfl))⟩
end
abbrev thL (x:Th):D:=.lst [x.node.toD,x.td]
theorem eh {cal cal1:Nat→List D→List O→Res} {elt:E} {F:Th→D} {R:List (Option D)} {S:List O} (hE:∀ x:Th,ev Γ cal cal1 false elt ⟨some (thL x) :: R,[],S⟩ = .ok (F x) ⟨some (thL x) :: R,[],S⟩):∀ (l:List Th) (acc:List D) (e:Option D),acc.length+l.length<1000→∃ e':Option D,bZ (lcQ Γ cal cal1 [0] true elt (.c (.bl true))) (l.map thL) acc ⟨e :: R,[],S⟩ = .ok (.lst (acc ++ l.map F)) ⟨e' :: R,[],S⟩
 | [],acc,e,_=>⟨e,by rw [En,En,ϕ];rfl⟩
 | x :: l,acc,e,h=>by
   rw [Η] at h
   obtain ⟨e',g⟩:=eh hE l (acc ++ [F x]) (some (thL x)) (by rw [ω,ϊ];omega)
   rw [Ô] at g
   exact ⟨e',fZ (jO rfl rfl (hE x)) (by omega) g⟩
theorem vA (x:Th) (S:List O):ixD (look S x.td) (.int 2)=some (gr x.kd):=by
 cases x with
 | sg s=>rfl
 | row p l tk=>cases tk <;> rfl
 | pair p pa pb a b tk=>cases tk <;> rfl
theorem qP {f:Kd} (h:Flt f):gr f=f.toD:=by cases h <;> rfl
theorem A1 {f:Kd} (hf:Flt f) (k:Kd) (S:List O):opD .ne (look S (gr k)) (look S f.toD)=some (.bl (decide (hK k≠hK f))):=by
 rw [← qP hf]
 by_cases e:hK k=hK f
 ·rw [v9 e,ZV (by simpa using e)]
 ·rw [wc e,ZW e]
abbrev Ks:=(Kd×μ)×Th
def asK (q:Int) (p:Ks):Ask×Th:=(some (p.1.1,lbl q [p.1.2]),p.2)
abbrev baB:S:=cQ lY.body
section
variable {m:Nat} {S:List O} {q:Int}
theorem ko (T K W:List D):∀ (r:List Ks) (i:Nat) (e4 e5 e6 e7:Option D),(∀ (j:Nat) (p:Ks),r[j]? = some p→Flt p.1.1∧T[i+j]? = some (thL p.2)∧K[i+j]? = some p.1.1.toD∧W[i+j]? = some (.str p.1.2))→(bdF i (r.map (asK q)) = .non∧∃ e4' e5' e6' e7',aT (cM Γ (aa Γ m) (aH Γ m) [4] true baB) (ixs i r.length) ⟨[some (.lst T),some (.lst K),some (.int q),some (.lst W),e4,e5,e6,e7],[],S⟩ = .nx ⟨[some (.lst T),some (.lst K),some (.int q),some (.lst W),e4',e5',e6',e7'],[],S⟩)∨∃ s:Sta,aT (cM Γ (aa Γ m) (aH Γ m) [4] true baB) (ixs i r.length) ⟨[some (.lst T),some (.lst K),some (.int q),some (.lst W),e4,e5,e6,e7],[],S⟩ = .rt (bdF i (r.map (asK q))) s∧s.st=S
 | [],i,e4,e5,e6,e7,_=>.inl ⟨rfl,e4,e5,e6,e7,rfl⟩
 | ((f,st),x) :: r,i,e4,e5,e6,e7,h=>by
   obtain ⟨hf,i0,i1,i2⟩:=h 0 _ rfl
   have i0:ixD (.lst T) (.int (i:Nat))=some (thL x):=cW i0
   have i1:ixD (.lst K) (.int (i:Nat))=some f.toD:=cW i1
   have i2:ixD (.lst W) (.int (i:Nat))=some (.str st):=cW i2
   have t2:=vA x S
   have ne:=A1 hf x.kd S
   have p1:=c9 x.node S
   have e0:ixs i (r.length+1) = .int (i:Nat) :: ixs (i+1) r.length:=rfl
   rw [Η,e0]
   have eb:bdF i ((((f,st),x) :: r).map (asK q))=match (if hK x.kd=hK f then none else some (bl (gr f) (lbl q [st]) (gr x.kd) (lbl x.node.pl []))) with | some e=>.tup [.int i,e] | none=>bdF (i+1) (r.map (asK q)):=rfl
   rw [eb]
   by_cases e:hK x.kd=hK f
   ·rw [ZZ e]
    rw [ZV (by simpa using e)] at ne
    have step:cM Γ (aa Γ m) (aH Γ m) [4] true baB (.int (i:Nat)) ⟨[some (.lst T),some (.lst K),some (.int q),some (.lst W),e4,e5,e6,e7],[],S⟩ = .nx ⟨[some (.lst T),some (.lst K),some (.int q),some (.lst W),some (.int (i:Nat)),some x.node.toD,some x.td,e7],[],S⟩:=aA rfl (b9 false (aX 0 (i0) (aX 0 (t2) (aX 0 (i1) (aX 0 (ne) aZ)))) (by kernel_rfl))
    rcases ko T K W r (i+1) (some (.int (i:Nat))) (some x.node.toD) (some x.td) e7 (fun j p hj=>by
     have:=h (j+1) p hj
     rw [show i+(j+1)=i+1+j by omega] at this;exact this) with ⟨h1,a,b,c,d,g⟩ | ⟨s,g,ss⟩
    ·exact .inl ⟨h1,a,b,c,d,aW step g⟩
    ·exact .inr ⟨s,aW step g,ss⟩
   ·rw [ZY e]
    rw [ZW e] at ne
    have fg:=qP hf
    have step:cM Γ (aa Γ m) (aH Γ m) [4] true baB (.int (i:Nat)) ⟨[some (.lst T),some (.lst K),some (.int q),some (.lst W),e4,e5,e6,e7],[],S⟩ = .rt (.tup [.int (i:Nat),bl (gr f) (lbl q [st]) (gr x.kd) (lbl x.node.pl [])]) ⟨[some (.lst T),some (.lst K),some (.int q),some (.lst W),some (.int (i:Nat)),some x.node.toD,some x.td,some (lbl q [st])],[],S⟩:=by
     rw [fg]
     exact aA rfl (b9 false (aX 0 (i0) (aX 0 (t2) (aX 0 (i1) (aX 0 (ne) (aX 1 (i2) (aX 0 (i1) (aX 0 (p1) (aX 0 (t2) aZ)))))))) (by kernel_rfl))
    exact .inr ⟨_,gI step (fun s z=>by cases z),rfl⟩
theorem p8 (r:List Ks) (hf:∀ p∈r,Flt p.1.1) (hl:r.length<1000):aa Γ (m+1) gK [.lst (r.map fun p=>thL p.2),.lst (r.map fun p=>p.1.1.toD),.int q,.lst (r.map fun p=>.str p.1.2)] S = .ok (bdF 0 (r.map (asK q))) S:=by
 have rg:=fx (n:=(r.map fun p=>thL p.2).length) (by rw [Θ];omega)
 have lo:=ko (m:=m) (S:=S) (q:=q) (r.map fun p=>thL p.2) (r.map fun p=>p.1.1.toD) (r.map fun p=>.str p.1.2) r 0 none none none none (fun j p hj=>⟨hf p (ο hj),by rw [ě,Ψ,hj];rfl,by rw [ě,Ψ,hj];rfl,by rw [ě,Ψ,hj];rfl⟩)
 have ll:r.length=(r.map fun p=>thL p.2).length:=(Θ _).symm
 rw [ll] at lo
 rcases lo with ⟨h1,a,b,c,d,g⟩ | ⟨s,g,ss⟩
 ·rw [h1];exact (ac true (aX 1 (rg) (aX 0 (g) aZ)) (by kernel_rfl))
 ·subst ss;exact (ac true (aX 1 (rg) (aX 0 (g) aZ)) (by kernel_rfl))
end
section
variable {ns:List Int} {i b c:Int} {n:Nat} {z:T68}
theorem sS {l:List Th} (hl:l.length<900) {f:Kd} (hf:Flt f):aa Γ (n+3) eF [.ref 0,z.toD,.lst (l.map thL),(Kd.row f).toD,.lst (l.map fun _=>.str "item")] (aj ns i b c) = .ok (.lst [(T68.as_ (pl0 b (c+1)) (.row f) (.as_ (pl0 b c) .unt z)).toD,bdF 0 (fE (some (f,lbl (pl0 b c) ["item"])) l)]) (aj ns i b (c+1+1)):=by
 have p0:=b7 (ns:=ns) (i:=i) (b:=b) (c:=c) (n:=n+1)
 have p1:=b7 (ns:=ns) (i:=i) (b:=b) (c:=c+1) (n:=n+1)
 obtain ⟨e,lm⟩:=eh (cal:=aa Γ (n+2)) (cal1:=aH Γ (n+2)) (elt:=.ix (.v 4) (.c (.int 1))) (F:=fun _=>f.toD) (R:=[some (.ref 0),some z.toD,some (.lst (l.map thL)),some (Kd.row f).toD,some (.lst (l.map fun _=>.str "item")),some (T68.as_ (pl0 b c) .unt z).toD,some (.lst [f.toD])]) (S:=aj ns i b (c+1)) (fun x=>(fQ false aZ (by kernel_rfl))) l [] none (by simp only [Υ];omega)
 have bo:=p8 (m:=n+1) (S:=aj ns i b (c+1+1)) (q:=pl0 b c) (l.map fun x=>((f,"item"),x)) (fun p hp=>by obtain ⟨x,_,rfl⟩:=ϱ.mp hp;exact hf) (by rw [Θ];omega)
 rw [Į,Į,Į,Į] at bo
 have bo:aa Γ (n+2) gK [.lst (l.map thL),.lst (l.map fun _=>f.toD),.int (pl0 b c),.lst (l.map fun _=>.str "item")] (aj ns i b (c+1+1)) = .ok (bdF 0 (fE (some (f,lbl (pl0 b c) ["item"])) l)) (aj ns i b (c+1+1)):=bo
 exact (ac true (aX 0 (p0) (aX 0 (lm) (aX 0 (p1) (aX 0 (bo) aZ)))) (by kernel_rfl))
theorem pR {x y:Th} {f g:Kd} (hf:Flt f) (hg:Flt g):aa Γ (n+3) eF [.ref 0,z.toD,.lst [thL x,thL y],(Kd.pair f g).toD,.lst [.str "one",.str "two"]] (aj ns i b c) = .ok (.lst [(T68.as_ (pl0 b (c+1)) (.pair f g) (.as_ (pl0 b c) .unt z)).toD,bdF 0 [(some (f,lbl (pl0 b c) ["one"]),x),(some (g,lbl (pl0 b c) ["two"]),y)]]) (aj ns i b (c+1+1)):=by
 have p0:=b7 (ns:=ns) (i:=i) (b:=b) (c:=c) (n:=n+1)
 have p1:=b7 (ns:=ns) (i:=i) (b:=b) (c:=c+1) (n:=n+1)
 have bo:=p8 (m:=n+1) (S:=aj ns i b (c+1+1)) (q:=pl0 b c) [((f,"one"),x),((g,"two"),y)] (fun p hp=>by
  rcases π.mp hp with rfl | hp
  ·exact hf
  ·rw [η.mp hp];exact hg) (Ο rfl)
 exact (ac false (aX 0 (p0) (aX 0 (p1) (aX 0 (bo) aZ))) (by kernel_rfl))
end
def ThO (r:Nat):Prop:=∀ (ns:List Int) (i b c:Int) (M:Nat),0≤i→0≤c→4 * r+20≤M→∃ (x:Th) (i' c':Int),0≤i'∧Mt r b c c' x∧(30<c→c'≤c+1)∧(c≤30→c'≤30+7 * r)∧aa Γ M aB [.ref 0,.int r] (aj ns i b c)=thR x (aj ns i' b c')
structure Rv (r:Nat) (b c0 c:Int) (xs:List Th):Prop where
 w:∀ x∈xs,Kt r x.node∧Wt x
 p:Pq b c0 c (xs.flatMap fun x=>ai r x.node)
 z:c≤30+7 * r+xs.length
theorem Rv.put {r:Nat} {b c0 c c':Int} {xs:List Th} {x:Th} (h:Rv r b c0 c xs) (m:Mt r b c c' x) (z1:30<c→c'≤c+1) (z2:c≤30→c'≤30+7 * r):Rv r b c0 c' (xs ++ [x]):=by
 refine ⟨fun y hy=>?_,?_,?_⟩
 ·rcases ë.mp hy with hy | hy
  ·exact h.w y hy
  ·rw [η.mp hy];exact ⟨m.toKt,m.w⟩
 ·rw [EL,Ó,List.flatMap_nil,ϕ]
  exact h.p.app m.p
 ·have:=h.z
  rw [ω,ϊ]
  by_cases q:30<c
  ·have:=z1 q;omega
  ·have:=z2 (by omega);omega
theorem dN:∀ l:List Th,bF l=l.map Th.node
 | []=>rfl
 | x :: l=>by show x.node :: bF l=_;rw [dN l];rfl
theorem k8 (l:List Th):toDs (bF l)=l.map fun x=>x.node.toD:=by rw [lD,dN,Į];rfl
abbrev roB:S:=cQ (tlS 3 bB.body)
section
variable {ns:List Int} {b c0:Int} {r M:Nat}
abbrev rE (r:Nat) (x:Int) (t:Bool) (dp:Nat) (al:Int) (xs:List Th) (e7:Option D):List (Option D):=[some (.ref 0),some (.int r),some (.int x),some (.bl t),some (.int dp),some (.int al),some (.lst (xs.map thL)),e7,none,none,none]
theorem j4 (dp:Nat) (hdp:1≤dp) (T:ThO dp) (hM:4 * dp+20≤M+2) {x al:Int} (hx:0≤x) (ha:al=0∨al=1∨al=2) (t:Bool):∀ (j k:Nat) (xs:List Th) (i c:Int) (e7:Option D),0≤i→0≤c→xs.length+j≤4→Rv dp b c0 c xs→∃ (xs':List Th) (i' c':Int) (e7':Option D),0≤i'∧0≤c'∧xs'.length=xs.length+j∧Rv dp b c0 c' xs'∧aT (cM Γ (aa Γ (M+2)) (aH Γ (M+2)) [7] true roB) (ixs k j) ⟨rE r x t dp al xs e7,[6],aj ns i b c⟩ = .nx ⟨rE r x t dp al xs' e7',[6],aj ns i' b c'⟩
 | 0,k,xs,i,c,e7,hi,hc,_,rv=>⟨xs,i,c,e7,hi,hc,rfl,rv,rfl⟩
 | j+1,k,xs,i,c,e7,hi,hc,hl,rv=>by
   have e0:ixs k (j+1) = .int (k:Nat) :: ixs (k+1) j:=rfl
   rw [e0]
   have lb:decide ((xs.map thL).length+1≤100000)=true:=ZW (by rw [Θ];omega)
   have lb2:decide ((xs.map thL).length<100000)=true:=ZW (by rw [Θ];omega)
   have fin:∀ (y:Th) (i1 c1:Int),0≤i1→Mt dp b c c1 y→(30<c→c1≤c+1)→(c≤30→c1≤30+7 * dp)→cM Γ (aa Γ (M+2)) (aH Γ (M+2)) [7] true roB (.int (k:Nat)) ⟨rE r x t dp al xs e7,[6],aj ns i b c⟩ = .nx ⟨rE r x t dp al (xs ++ [y]) (some (.int (k:Nat))),[6],aj ns i1 b c1⟩→∃ (xs':List Th) (i' c':Int) (e7':Option D),0≤i'∧0≤c'∧xs'.length=xs.length+(j+1)∧Rv dp b c0 c' xs'∧aT (cM Γ (aa Γ (M+2)) (aH Γ (M+2)) [7] true roB) (.int (k:Nat) :: ixs (k+1) j) ⟨rE r x t dp al xs e7,[6],aj ns i b c⟩ = .nx ⟨rE r x t dp al xs' e7',[6],aj ns i' b c'⟩:=fun y i1 c1 h1 m z1 z2 st=>by
    have cc:=m.p.2
    obtain ⟨xs',i',c',e7',g1,g2,g3,g4,g⟩:=j4 dp hdp T hM hx ha t j (k+1) (xs ++ [y]) i1 c1 (some (.int (k:Nat))) h1 (by omega) (by rw [ω,ϊ];omega) (rv.put m z1 z2)
    rw [ω,ϊ] at g3
    exact ⟨xs',i',c',e7',g1,g2,by omega,g4,aW st g⟩
   have ap:∀ y:Th,(xs ++ [y]).map thL=xs.map thL ++ [thL y]:=fun y=>by rw [Õ];rfl
   have thg:(∀ d S',aa Γ (M+2) aB [.ref 0,.int dp] (aj ns i b c) = .ok d S'→cM Γ (aa Γ (M+2)) (aH Γ (M+2)) [7] true roB (.int (k:Nat)) ⟨rE r x t dp al xs e7,[6],aj ns i b c⟩ = .nx ⟨[some (.ref 0),some (.int r),some (.int x),some (.bl t),some (.int dp),some (.int al),some (.lst (xs.map thL ++ [d])),some (.int (k:Nat)),none,none,none],[6],S'⟩)→∃ (xs':List Th) (i' c':Int) (e7':Option D),0≤i'∧0≤c'∧xs'.length=xs.length+(j+1)∧Rv dp b c0 c' xs'∧aT (cM Γ (aa Γ (M+2)) (aH Γ (M+2)) [7] true roB) (.int (k:Nat) :: ixs (k+1) j) ⟨rE r x t dp al xs e7,[6],aj ns i b c⟩ = .nx ⟨rE r x t dp al xs' e7',[6],aj ns i' b c'⟩:=fun st=>by
    obtain ⟨y,i1,c1,h1,m,z1,z2,e⟩:=T ns i b c (M+2) hi hc hM
    exact fin y i1 c1 h1 m z1 z2 (by unfold rE;rw [ap y];exact st _ _ e)
   by_cases a2:al=2
   ·subst a2
    exact thg fun d S' e=>aA rfl (b9 false (aX 0 (e) (aX 0 (lb2) aZ)) (by kernel_rfl))
   ·have lt:opD .lt (.int al) (.int 2)=some (.bl true):=by show some (D.bl (decide (al<2)))=_;rw [ZW (by omega)]
    have z30:=dU x (b:=30) (by decide)
    obtain ⟨w,hw⟩:∃ w,(x / 30+(k:Int)) % 7=w:=⟨_,rfl⟩
    have m7:=cq hw (b:=7) (by decide)
    by_cases w0:0<w
    ·have gt:opD .gt (.int w) (.int 0)=some (.bl true):=by show some (D.bl (decide (0<w)))=_;rw [ZW w0]
     obtain ⟨y,hy,hz,nx⟩:=next (ns:=ns) (b:=b) (c:=c) (n:=M+1) hi
     obtain ⟨dp',rfl⟩:∃ d,dp=d+1:=⟨dp - 1,by omega⟩
     rcases ha with rfl | rfl | rfl
     ·obtain ⟨s,m,e⟩:=oB (ns:=ns) (i:=i+1) (b:=b) (c:=c) (n:=M) (r:=dp') hy
      exact fin (.sg s) (i+1) (c+1) (by omega) m (fun _=>by omega) (fun _=>by omega) (by unfold rE;rw [ap (.sg s)];exact aA rfl (b9 false (aX 2 (z30) (aX 1 (m7) (aX 0 (gt) (aX 0 (nx) (aX 0 (e) (aX 0 (lb2) aZ)))))) (by kernel_rfl)))
     ·obtain ⟨s,m,e⟩:=oE (ns:=ns) (i:=i+1) (b:=b) (c:=c) (n:=M) (r:=dp') (x:=y)
      exact fin (.sg s) (i+1) (c+1) (by omega) m (fun _=>by omega) (fun _=>by omega) (by unfold rE;rw [ap (.sg s)];exact aA rfl (b9 false (aX 2 (z30) (aX 1 (m7) (aX 0 (gt) (aX 0 (nx) (aX 0 (e) (aX 0 (lb2) aZ)))))) (by kernel_rfl)))
     ·exact ZX rfl a2
    ·have gt:opD .gt (.int w) (.int 0)=some (.bl false):=by show some (D.bl (decide (0<w)))=_;rw [ZV w0]
     exact thg fun d S' e=>aA rfl (b9 false (aX 0 (lt) (aX 1 (z30) (aX 1 (m7) (aX 0 (gt) (aX 0 (e) (aX 0 (lb2) aZ)))))) (by kernel_rfl))
end
def RoO (r:Nat):Prop:=∀ (ns:List Int) (i b c x:Int) (M:Nat),0≤i→0≤c→c≤30→0≤x→4 * r+19≤M→∃ (y:Th) (i' c':Int),0≤i'∧Mt r b c c' y∧c'≤30+7 * r∧aa Γ M ef [.ref 0,.int r,.int x] (aj ns i b c)=thR y (aj ns i' b c')
def PaO (r:Nat):Prop:=∀ (ns:List Int) (i b c x:Int) (M:Nat),0≤i→0≤c→c≤30→0≤x→4 * r+19≤M→∃ (y:Th) (i' c':Int),0≤i'∧Mt r b c c' y∧c'≤30+7 * r∧aa Γ M fM [.ref 0,.int r,.int x] (aj ns i b c)=thR y (aj ns i' b c')
theorem t9 (al:Int) (ha:al=0∨al=1∨al=2):∃ f,Flt f∧∀ (n:Nat) (S:List O),aa Γ (n+1) fL [.int al] S = .ok f.toD S:=by
 rcases ha with rfl | rfl | rfl
 ·exact ⟨.whole,.w,fun n S=>(ac false aZ (by kernel_rfl))⟩
 ·exact ⟨.truth,.t,fun n S=>(ac false aZ (by kernel_rfl))⟩
 ·exact ⟨.whole,.w,fun n S=>(ac false aZ (by kernel_rfl))⟩
section
variable {ns:List Int} {b c c0:Int} {r:Nat}
theorem Rv.mt {xs:List Th} {dp:Nat} (h:Rv dp b c0 c xs) (l4:xs.length≤4):Mt (dp+1) b c0 (c+1) (.row (pl0 b c) xs none):=by
 refine ⟨xM (sm0 b c) (by rw [cR];exact l4) fun z hz=>?_,.row (fun x hx=>(h.w x hx).2) (fun _ _ _ e=>nomatch e) l4,?_⟩
 ·rw [dN] at hz
  obtain ⟨x,hx,rfl⟩:=ϱ.mp hz
  exact ⟨(h.w x hx).1,by rw [jM];exact (h.w x hx).2.occ⟩
 ·refine (h.p.app .one).of fun w=>?_
  show (pl0 b c :: (bF xs).flatMap (ai dp)).count w≤_
  have e:(bF xs).flatMap (ai dp)=xs.flatMap fun x=>ai dp x.node:=by rw [dN,List.flatMap_map]
  rw [e,ď,ė,ď,ķ];omega
theorem Rv.mt2 {xs:List Th} {dp:Nat} (h:Rv dp b c0 c xs) (l4:xs.length≤4) {f:Kd} (hf:Flt f):Mt (dp+3) b c0 (c+1+1+1) (.row (pl0 b c) xs (some (f,pl0 b (c+1),pl0 b (c+1+1)))):=by
 have m:=h.mt l4
 have fd:(Kd.row f).dep≤4:=by cases hf <;> decide
 have k1:=je (sm0 b (c+1)) (k:=.unt) (by decide) m.toKt (.inr .r0)
 have k2:=je (sm0 b (c+1+1)) (k:=.row f) fd k1 (.inr (.aR hf))
 refine ⟨k2,.row (fun x hx=>(h.w x hx).2) (fun f' q p1 e=>by cases e;exact hf) l4,((m.p.app .one).app .one).of fun w=>?_⟩
 show (pl0 b (c+1+1) :: ((pl0 b (c+1) :: (ai (dp+1) (Th.row (pl0 b c) xs none).node ++ [])) ++ [])).count w≤_
 simp only [ď,ė,ķ];omega
theorem sK (r:Nat) (hr:3≤r) (T:∀ d,2≤d→d<r→ThO d):RoO r:=fun ns i b c x M hi hc h30 hx hM=>by
 obtain ⟨M,rfl⟩:∃ k,M=k+4:=⟨M - 4,by omega⟩
 obtain ⟨j,hj,mj⟩:∃ j:Nat,j≤4∧opD .mod (.int (x / 6)) (.int 5)=some (.int (j:Nat)):=⟨(x / 6 % 5).toNat,by omega,cq (by omega) (by decide)⟩
 obtain ⟨al,hal⟩:∃ al,x / 2 % 3=al:=⟨_,rfl⟩
 have ma:=cq hal (b:=3) (by decide)
 have ha:al=0∨al=1∨al=2:=by omega
 have z2:=dU x (b:=2) (by decide)
 have z6:=dU x (b:=6) (by decide)
 have rg:=fx (n:=j) (by omega)
 obtain ⟨f,hf,fl⟩:=t9 al ha
 by_cases t4:4<r∧x % 2=0
 ·have g4:opD .gt (.int (r:Nat)) (.int 4)=some (.bl true):=by show some (D.bl (decide (4<(r:Int))))=_;rw [ZW (by omega)]
  have m2:=cq t4.2 (b:=2) (by decide)
  obtain ⟨dp,rfl⟩:∃ d,r=d+3:=⟨r - 3,by omega⟩
  have o1:opD .sub (.int ((dp+3:Nat):Int)) (.int 1)=some (.int ((dp:Int)+2)):=ZS (fun z=>some (D.int z)) (by omega)
  have o2:opD .sub (.int ((dp:Int)+2)) (.int 2)=some (.int (dp:Nat)):=ZS (fun z=>some (D.int z)) (by omega)
  obtain ⟨xs,i',c',e7,h1,h2,h3,rv,lo⟩:=j4 (ns:=ns) (b:=b) (c0:=c) (r:=dp+3) (M:=M+1) dp (by omega) (T dp (by omega) (by omega)) (by omega) hx ha true j 0 [] i c none hi hc (by simp only [Υ];omega) ⟨fun x h=>(nomatch h),.nil,by simp only [Υ];omega⟩
  have l4:xs.length≤4:=by rw [h3];simp only [Υ];omega
  have pl:=b7 (ns:=ns) (i:=i') (b:=b) (c:=c') (n:=M+2)
  have hd:exS Γ (aa Γ (M+3)) (aH Γ (M+3)) (hdS 4 bB.body) ⟨[some (.ref 0),some (.int ((dp+3:Nat):Int)),some (.int x),none,none,none,none,none,none,none,none],[],aj ns i b c⟩ = .nx ⟨rE (dp+3) x true dp al xs e7,[6],aj ns i' b c'⟩:=(b9 true (aX 0 (g4) (aX 1 (m2) (aX 1 (o1) (aX 2 (o2) (aX 0 (z2) (aX 0 (ma) (aX 0 (z6) (aX 0 (mj) (aX 0 (rg) (aX 0 (lo) aZ)))))))))) (by kernel_rfl))
  obtain ⟨e1,lm1⟩:=eh (cal:=aa Γ (M+3)) (cal1:=aH Γ (M+3)) (elt:=.ix (.v 0) (.c (.int 0))) (F:=fun x=>x.node.toD) (R:=rE (dp+3) x true dp al xs e7) (S:=aj ns i' b (c'+1)) (fun x=>(fQ false aZ (by kernel_rfl))) xs [] none (by simp only [Υ];omega)
  have tn:T68.toD (.row (pl0 b c') .unt (bF xs)) = .tup [.str "row",.int (pl0 b c'),.tup [.str "?"],.tup ([] ++ xs.map fun x=>x.node.toD)]:=by rw [û,← k8];rfl
  have tk:=sS (ns:=ns) (i:=i') (b:=b) (c:=c'+1) (n:=M) (z:=.row (pl0 b c') .unt (bF xs)) (l:=xs) (by omega) hf
  rw [tn] at tk
  obtain ⟨e2,lm2⟩:=eh (cal:=aa Γ (M+3)) (cal1:=aH Γ (M+3)) (elt:=.c (.str "item")) (F:=fun _=>.str "item") (R:=[some (.ref 0),some (.int ((dp+3:Nat):Int)),some (.int x),some (.bl true),some (.int (dp:Nat)),some (.int al),some (.lst (xs.map thL)),e7,some (.tup [.str "row",.int (pl0 b c'),.tup [.str "?"],.tup ([] ++ xs.map fun x=>x.node.toD)]),some .non,some (Kd.row f).toD]) (S:=aj ns i' b (c'+1)) (fun x=>(fQ false aZ (by kernel_rfl))) xs [] none (by simp only [Υ];omega)
  obtain ⟨e3,lm3⟩:=eh (cal:=aa Γ (M+3)) (cal1:=aH Γ (M+3)) (elt:=.ix (.v 0) (.c (.int 1))) (F:=Th.td) (R:=[some (.ref 0),some (.int ((dp+3:Nat):Int)),some (.int x),some (.bl true),some (.int (dp:Nat)),some (.int al),some (.lst (xs.map thL)),e7,some (T68.as_ (pl0 b (c'+1+1)) (.row f) (.as_ (pl0 b (c'+1)) .unt (.row (pl0 b c') .unt (bF xs)))).toD,some (bdF 0 (fE (some (f,lbl (pl0 b (c'+1)) ["item"])) xs)),some (Kd.row f).toD]) (S:=aj ns i' b (c'+1+1+1)) (fun x=>(fQ false aZ (by kernel_rfl))) xs [] none (by simp only [Υ];omega)
  have tl:toR (exS Γ (aa Γ (M+3)) (aH Γ (M+3)) (tlS 4 bB.body) ⟨rE (dp+3) x true dp al xs e7,[6],aj ns i' b c'⟩) = .ok (.lst [(T68.as_ (pl0 b (c'+1+1)) (.row f) (.as_ (pl0 b (c'+1)) .unt (.row (pl0 b c') .unt (bF xs)))).toD,.tup [.str "row",.lst ([] ++ xs.map Th.td),gr (.row .unt),bdF 0 (fE (some (f,lbl (pl0 b (c'+1)) ["item"])) xs)]]) (aj ns i' b (c'+1+1+1)):=(mU true (aX 0 (pl) (aX 0 (lm1) (aX 0 (fl (M+2) (aj ns i' b (c'+1))) (aX 0 (lm2) (aX 0 (tk) (aX 0 (lm3) aZ)))))) (by kernel_rfl))
  rw [û,← eV] at tl
  have z:=rv.z
  exact ⟨.row (pl0 b c') xs (some (f,pl0 b (c'+1),pl0 b (c'+1+1))),i',c'+1+1+1,h1,rv.mt2 l4 hf,by rw [h3] at z;simp only [Υ] at z;omega,dJ 4 bB rfl rfl hd tl⟩
 ·have hdx:∃ dp:Nat,dp+1=r∧∀ (L:Sta),(aT (cM Γ (aa Γ (M+3)) (aH Γ (M+3)) [7] true roB) (ixs 0 j) ⟨rE r x false dp al [] none,[6],aj ns i b c⟩ = .nx L→exS Γ (aa Γ (M+3)) (aH Γ (M+3)) (hdS 4 bB.body) ⟨[some (.ref 0),some (.int r),some (.int x),none,none,none,none,none,none,none,none],[],aj ns i b c⟩ = .nx L):=by
   obtain ⟨dp,rfl⟩:∃ d,r=d+1:=⟨r - 1,by omega⟩
   refine ⟨dp,rfl,fun L lo=>?_⟩
   have o1:opD .sub (.int ((dp+1:Nat):Int)) (.int 1)=some (.int (dp:Nat)):=ZS (fun z=>some (D.int z)) (by omega)
   have o2:opD .sub (.int (dp:Nat)) (.int 0)=some (.int (dp:Nat)):=ZS (fun z=>some (D.int z)) (by omega)
   by_cases g:4<dp+1
   ·have g4:opD .gt (.int ((dp+1:Nat):Int)) (.int 4)=some (.bl true):=by show some (D.bl (decide (4<((dp+1:Nat):Int))))=_;rw [ZW (by omega)]
    have m2:=cq (a:=x) (b:=2) (k:=1) (by omega) (by decide)
    exact (b9 true (aX 0 (g4) (aX 1 (m2) (aX 1 (o1) (aX 2 (o2) (aX 0 (z2) (aX 0 (ma) (aX 0 (z6) (aX 0 (mj) (aX 0 (rg) (aX 0 (lo) aZ)))))))))) (by kernel_rfl))
   ·have g4:opD .gt (.int ((dp+1:Nat):Int)) (.int 4)=some (.bl false):=by show some (D.bl (decide (4<((dp+1:Nat):Int))))=_;rw [ZV (by omega)]
    exact (b9 true (aX 0 (g4) (aX 1 (o1) (aX 2 (o2) (aX 0 (z2) (aX 0 (ma) (aX 0 (z6) (aX 0 (mj) (aX 0 (rg) (aX 0 (lo) aZ))))))))) (by kernel_rfl))
  obtain ⟨dp,rfl,hd⟩:=hdx
  obtain ⟨xs,i',c',e7,h1,h2,h3,rv,lo⟩:=j4 (ns:=ns) (b:=b) (c0:=c) (r:=dp+1) (M:=M+1) dp (by omega) (T dp (by omega) (by omega)) (by omega) hx ha false j 0 [] i c none hi hc (by simp only [Υ];omega) ⟨fun x h=>(nomatch h),.nil,by simp only [Υ];omega⟩
  have hd:=hd _ lo
  have l4:xs.length≤4:=by rw [h3];simp only [Υ];omega
  have pl:=b7 (ns:=ns) (i:=i') (b:=b) (c:=c') (n:=M+2)
  obtain ⟨e1,lm1⟩:=eh (cal:=aa Γ (M+3)) (cal1:=aH Γ (M+3)) (elt:=.ix (.v 0) (.c (.int 0))) (F:=fun x=>x.node.toD) (R:=rE (dp+1) x false dp al xs e7) (S:=aj ns i' b (c'+1)) (fun x=>(fQ false aZ (by kernel_rfl))) xs [] none (by simp only [Υ];omega)
  obtain ⟨e3,lm3⟩:=eh (cal:=aa Γ (M+3)) (cal1:=aH Γ (M+3)) (elt:=.ix (.v 0) (.c (.int 1))) (F:=Th.td) (R:=[some (.ref 0),some (.int ((dp+1:Nat):Int)),some (.int x),some (.bl false),some (.int (dp:Nat)),some (.int al),some (.lst (xs.map thL)),e7,some (.tup [.str "row",.int (pl0 b c'),.tup [.str "?"],.tup ([] ++ xs.map fun x=>x.node.toD)]),some .non,none]) (S:=aj ns i' b (c'+1)) (fun x=>(fQ false aZ (by kernel_rfl))) xs [] none (by simp only [Υ];omega)
  have tl:toR (exS Γ (aa Γ (M+3)) (aH Γ (M+3)) (tlS 4 bB.body) ⟨rE (dp+1) x false dp al xs e7,[6],aj ns i' b c'⟩) = .ok (.lst [.tup [.str "row",.int (pl0 b c'),.tup [.str "?"],.tup ([] ++ xs.map fun x=>x.node.toD)],.tup [.str "row",.lst ([] ++ xs.map Th.td),gr (.row .unt),.non]]) (aj ns i' b (c'+1)):=(mU true (aX 0 (pl) (aX 0 (lm1) (aX 0 (lm3) aZ))) (by kernel_rfl))
  have bn:bdF 0 (fE none xs) = .non:=by
   have:∀ (l:List Th) (n:Nat),bdF n (fE none l) = .non:=fun l=>by
    induction l with
    | nil=>exact fun n=>rfl
    | cons x l ih=>exact fun n=>ih (n+1)
   exact this xs 0
  have tn:T68.toD (.row (pl0 b c') .unt (bF xs)) = .tup [.str "row",.int (pl0 b c'),.tup [.str "?"],.tup ([] ++ xs.map fun x=>x.node.toD)]:=by rw [û,← k8];rfl
  have ty:(Th.row (pl0 b c') xs none).td = .tup [.str "row",.lst ([] ++ xs.map Th.td),gr (.row .unt),.non]:=by
   rw [û,← eV,← bn];rfl
  have ry:aa Γ (M+4) ef [.ref 0,.int ((dp+1:Nat):Int),.int x] (aj ns i b c)=thR (.row (pl0 b c') xs none) (aj ns i' b (c'+1)):=by
   show _=Res.ok (.lst [T68.toD (.row (pl0 b c') .unt (bF xs)),(Th.row (pl0 b c') xs none).td]) _
   rw [tn,ty]
   exact dJ 4 bB rfl rfl hd tl
  have z:=rv.z
  exact ⟨.row (pl0 b c') xs none,i',c'+1,h1,rv.mt l4,by rw [h3] at z;simp only [Υ] at z;omega,ry⟩
end
theorem v6 (z:Int):∃ f,Flt f∧∀ (n:Nat) (S:List O),aa Γ (n+1) fL [.int z] S = .ok f.toD S:=by
 rcases AX z with h | h
 ·exact ⟨.whole,.w,fun n S=>(ac false (aX 0 (cq h (b:=2) (by decide)) aZ) (by kernel_rfl))⟩
 ·exact ⟨.truth,.t,fun n S=>(ac false (aX 0 (cq h (b:=2) (by decide)) aZ) (by kernel_rfl))⟩
section
variable {ns:List Int} {b c c1 c2:Int} {dp:Nat} {x y:Th}
abbrev asN (p:Int) (x:Th):T68:=.as_ p .unt x.node
theorem nI (hx:Mt dp b c c1 x) (hy:Mt dp b c1 c2 y):Mt (dp+2) b c (c2+1+1+1) (.pair (pl0 b (c2+1+1)) (pl0 b c2) (pl0 b (c2+1)) x y none):=by
 have kx:=je (sm0 b c2) (k:=.unt) (by decide) hx.toKt (.inr (by rw [jM];exact hx.w.occ))
 have ky:=je (sm0 b (c2+1)) (k:=.unt) (by decide) hy.toKt (.inr (by rw [jM];exact hy.w.occ))
 refine ⟨uu (sm0 b (c2+1+1)) kx ky rfl rfl,.pair hx.w hy.w (fun _ _ _ _ e=>nomatch e),((((hx.p.app hy.p).app .one).app .one).app .one).of fun w=>?_⟩
 show (pl0 b (c2+1+1) :: ((pl0 b c2 :: (ai dp x.node ++ [])) ++ ((pl0 b (c2+1) :: (ai dp y.node ++ [])) ++ []))).count w≤_
 simp only [ď,ė,ķ];omega
theorem r9 (hx:Mt dp b c c1 x) (hy:Mt dp b c1 c2 y) {f g:Kd} (hf:Flt f) (hg:Flt g):Mt (dp+4) b c (c2+1+1+1+1+1) (.pair (pl0 b (c2+1+1)) (pl0 b c2) (pl0 b (c2+1)) x y (some (f,g,pl0 b (c2+1+1+1),pl0 b (c2+1+1+1+1)))):=by
 have m:=nI hx hy
 have fd:(Kd.pair f g).dep≤4:=by cases hf <;> cases hg <;> decide
 have k1:=je (sm0 b (c2+1+1+1)) (k:=.unt) (by decide) m.toKt (.inr .p0)
 have k2:=je (sm0 b (c2+1+1+1+1)) (k:=.pair f g) fd k1 (.inr (.aP hf hg))
 refine ⟨k2,.pair hx.w hy.w (fun f' g' q p1 e=>by cases e;exact ⟨hf,hg⟩),((m.p.app .one).app .one).of fun w=>?_⟩
 show (pl0 b (c2+1+1+1+1) :: ((pl0 b (c2+1+1+1) :: (ai (dp+2) (Th.pair (pl0 b (c2+1+1)) (pl0 b c2) (pl0 b (c2+1)) x y none).node ++ [])) ++ [])).count w≤_
 simp only [ď,ė,ķ];omega
end
theorem nW (r:Nat) (hr:4≤r) (T:∀ d,2≤d→d<r→ThO d):PaO r:=fun ns i b c x M hi hc h30 hx hM=>by
 obtain ⟨M,rfl⟩:∃ k,M=k+4:=⟨M - 4,by omega⟩
 have z2:=dU x (b:=2) (by decide)
 have z4:=dU x (b:=4) (by decide)
 have ay:∀ dp:Nat,2≤dp→dp<r→4 * dp+20≤M+3→∃ (u v:Th) (i1 i2 c1 c2:Int),0≤i2∧Mt dp b c c1 u∧Mt dp b c1 c2 v∧c2≤31+7 * dp∧aa Γ (M+3) aB [.ref 0,.int dp] (aj ns i b c)=thR u (aj ns i1 b c1)∧aa Γ (M+3) aB [.ref 0,.int dp] (aj ns i1 b c1)=thR v (aj ns i2 b c2):=fun dp d2 dr dm=>by
  obtain ⟨u,i1,c1,h1,m1,y1,z1,e1⟩:=T dp d2 dr ns i b c (M+3) hi hc dm
  have:=m1.p.2
  obtain ⟨v,i2,c2,h2,m2,y2,z2,e2⟩:=T dp d2 dr ns i1 b c1 (M+3) h1 (by omega) dm
  refine ⟨u,v,i1,i2,c1,c2,h2,m1,m2,?_,e1,e2⟩
  have:=z1 h30
  by_cases q:30<c1
  ·have:=y2 q;omega
  ·have:=z2 (by omega);omega
 by_cases t5:5<r∧x % 2=0
 ·have g5:opD .gt (.int (r:Nat)) (.int 5)=some (.bl true):=by show some (D.bl (decide (5<(r:Int))))=_;rw [ZW (by omega)]
  have m2:=cq t5.2 (b:=2) (by decide)
  obtain ⟨dp,rfl⟩:∃ d,r=d+4:=⟨r - 4,by omega⟩
  have o1:opD .sub (.int ((dp+4:Nat):Int)) (.int 2)=some (.int ((dp:Int)+2)):=ZS (fun z=>some (D.int z)) (by omega)
  have o2:opD .sub (.int ((dp:Int)+2)) (.int 2)=some (.int (dp:Nat)):=ZS (fun z=>some (D.int z)) (by omega)
  obtain ⟨u,v,i1,i2,c1,c2,h2,mu,mv,zc,e1,e2⟩:=ay dp (by omega) (by omega) (by omega)
  obtain ⟨f,hf,ff⟩:=v6 (x / 2)
  obtain ⟨g,hg,fg⟩:=v6 (x / 4)
  have p0:=b7 (ns:=ns) (i:=i2) (b:=b) (c:=c2) (n:=M+2)
  have p1:=b7 (ns:=ns) (i:=i2) (b:=b) (c:=c2+1) (n:=M+2)
  have p2:=b7 (ns:=ns) (i:=i2) (b:=b) (c:=c2+1+1) (n:=M+2)
  have tk:=pR (ns:=ns) (i:=i2) (b:=b) (c:=c2+1+1+1) (n:=M) (z:=.pair (pl0 b (c2+1+1)) (asN (pl0 b c2) u) (asN (pl0 b (c2+1)) v)) (x:=u) (y:=v) hf hg
  exact ⟨_,i2,_,h2,r9 mu mv hf hg,by omega,(ac false (aX 0 (g5) (aX 1 (m2) (aX 1 (o1) (aX 2 (o2) (aX 0 (e1) (aX 0 (e2) (aX 0 (p0) (aX 0 (p1) (aX 0 (p2) (aX 4 (z2) (aX 0 (ff (M+2) (aj ns i2 b (c2+1+1+1))) (aX 0 (z4) (aX 0 (fg (M+2) (aj ns i2 b (c2+1+1+1))) (aX 0 (tk) aZ)))))))))))))) (by kernel_rfl))⟩
 ·obtain ⟨dp,rfl⟩:∃ d,r=d+2:=⟨r - 2,by omega⟩
  obtain ⟨u,v,i1,i2,c1,c2,h2,mu,mv,zc,e1,e2⟩:=ay dp (by omega) (by omega) (by omega)
  have o1:opD .sub (.int ((dp+2:Nat):Int)) (.int 2)=some (.int (dp:Nat)):=ZS (fun z=>some (D.int z)) (by omega)
  have o2:opD .sub (.int (dp:Nat)) (.int 0)=some (.int (dp:Nat)):=ZS (fun z=>some (D.int z)) (by omega)
  have p0:=b7 (ns:=ns) (i:=i2) (b:=b) (c:=c2) (n:=M+2)
  have p1:=b7 (ns:=ns) (i:=i2) (b:=b) (c:=c2+1) (n:=M+2)
  have p2:=b7 (ns:=ns) (i:=i2) (b:=b) (c:=c2+1+1) (n:=M+2)
  refine ⟨_,i2,_,h2,nI mu mv,by omega,?_⟩
  by_cases g:5<dp+2
  ·have g5:opD .gt (.int ((dp+2:Nat):Int)) (.int 5)=some (.bl true):=by show some (D.bl (decide (5<((dp+2:Nat):Int))))=_;rw [ZW (by omega)]
   have m2:=cq (a:=x) (b:=2) (k:=1) (by omega) (by decide)
   exact (ac false (aX 0 (g5) (aX 1 (m2) (aX 1 (o1) (aX 2 (o2) (aX 0 (e1) (aX 0 (e2) (aX 0 (p0) (aX 0 (p1) (aX 0 (p2) aZ))))))))) (by kernel_rfl))
  ·have g5:opD .gt (.int ((dp+2:Nat):Int)) (.int 5)=some (.bl false):=by show some (D.bl (decide (5<((dp+2:Nat):Int))))=_;rw [ZV (by omega)]
   exact (ac false (aX 0 (g5) (aX 1 (o1) (aX 2 (o2) (aX 0 (e1) (aX 0 (e2) (aX 0 (p0) (aX 0 (p1) (aX 0 (p2) aZ)))))))) (by kernel_rfl))
theorem lB:∀ r:Nat,2≤r→ThO r:=fun r=>by
 induction r using FT with
 | _ r ih=>
   intro hr ns i b c M hi hc hM
   obtain ⟨M,rfl⟩:∃ k,M=k+4:=⟨M - 4,by omega⟩
   obtain ⟨x,hx,h0,nx⟩:=next (ns:=ns) (b:=b) (c:=c) (n:=M+2) hi
   obtain ⟨w,hw⟩:∃ w,x % 6=w:=⟨_,rfl⟩
   have m6:=cq hw (b:=6) (by decide)
   have z6:=dU x (b:=6) (by decide)
   obtain ⟨y,hy⟩:∃ y,x / 6=y:=⟨_,rfl⟩
   rw [hy] at z6
   have z3:=dU y (b:=3) (by decide)
   obtain ⟨r',rfl⟩:∃ k,r=k+2:=⟨r - 2,by omega⟩
   have sing:(∀ (k:Int) (d:D) (S:List O),opD .mod (.int y) (.int 3)=some (.int k)→aa Γ (M+3) bc [.ref 0,.int (y / 3),.int k] (aj ns (i+1) b c) = .ok d S→aa Γ (M+4) aB [.ref 0,.int ((r'+2:Nat):Int)] (aj ns i b c) = .ok d S)→∃ (x:Th) (i' c':Int),0≤i'∧Mt (r'+2) b c c' x∧(30<c→c'≤c+1)∧(c≤30→c'≤30+7 * ((r'+2:Nat):Int))∧aa Γ (M+4) aB [.ref 0,.int ((r'+2:Nat):Int)] (aj ns i b c)=thR x (aj ns i' b c'):=fun k=>by
    rcases AY y with h | h | h
    ·obtain ⟨s,m,e⟩:=oB (ns:=ns) (i:=i+1) (b:=b) (c:=c) (n:=M+1) (r:=r'+1) (x:=y / 3) (by omega)
     exact ⟨.sg s,i+1,c+1,by omega,m,fun _=>by omega,fun _=>by omega,k 0 _ _ (cq h (by decide)) e⟩
    ·obtain ⟨s,m,e⟩:=oE (ns:=ns) (i:=i+1) (b:=b) (c:=c) (n:=M+1) (r:=r'+1) (x:=y / 3)
     exact ⟨.sg s,i+1,c+1,by omega,m,fun _=>by omega,fun _=>by omega,k 1 _ _ (cq h (by decide)) e⟩
    ·obtain ⟨s,m,e⟩:=vw (ns:=ns) (i:=i+1) (b:=b) (c:=c) (n:=M+1) (r:=r') (x:=y / 3)
     exact ⟨.sg s,i+1,c+2,by omega,m,fun q=>by have:=h0 q;omega,fun _=>by omega,k 2 _ _ (cq h (by decide)) e⟩
   by_cases c30:30<c
   ·have x0:=h0 c30
    have w0:w=0:=by omega
    subst w0
    by_cases l4:r'+2<4
    ·have e4:decide (((r'+2:Nat):Int)<4)=true:=ZW (by omega)
     by_cases l3:r'+2<3
     ·have e3:decide (((r'+2:Nat):Int)<3)=true:=ZW (by omega)
      exact sing fun k d S mk e=>(ac false (aX 0 (nx) (aX 0 (m6) (aX 0 (z6) (aX 1 (e4) (aX 3 (e3) (aX 1 (z3) (aX 0 (mk) (aX 0 (e) aZ)))))))) (by kernel_rfl))
     ·have e3:decide (((r'+2:Nat):Int)<3)=false:=ZV (by omega)
      exact sing fun k d S mk e=>(ac false (aX 0 (nx) (aX 0 (m6) (aX 0 (z6) (aX 1 (e4) (aX 3 (e3) (aX 2 (z3) (aX 0 (mk) (aX 0 (e) aZ)))))))) (by kernel_rfl))
    ·have e4:decide (((r'+2:Nat):Int)<4)=false:=ZV (by omega)
     have e3:decide (((r'+2:Nat):Int)<3)=false:=ZV (by omega)
     exact sing fun k d S mk e=>(ac false (aX 0 (nx) (aX 0 (m6) (aX 0 (z6) (aX 1 (e4) (aX 2 (e3) (aX 2 (z3) (aX 0 (mk) (aX 0 (e) aZ)))))))) (by kernel_rfl))
   ·have T:∀ d,2≤d→d<r'+2→ThO d:=fun d d2 dr=>ih d dr d2
    have y0:0≤y:=by omega
    have ro:3≤r'+2→(∀ d S,aa Γ (M+3) ef [.ref 0,.int ((r'+2:Nat):Int),.int y] (aj ns (i+1) b c) = .ok d S→aa Γ (M+4) aB [.ref 0,.int ((r'+2:Nat):Int)] (aj ns i b c) = .ok d S)→∃ (x:Th) (i' c':Int),0≤i'∧Mt (r'+2) b c c' x∧(30<c→c'≤c+1)∧(c≤30→c'≤30+7 * ((r'+2:Nat):Int))∧aa Γ (M+4) aB [.ref 0,.int ((r'+2:Nat):Int)] (aj ns i b c)=thR x (aj ns i' b c'):=fun h3 k=>by
     obtain ⟨u,i',c',h1,m,z,e⟩:=sK (r'+2) h3 T ns (i+1) b c y (M+3) (by omega) hc (by omega) y0 (by omega)
     exact ⟨u,i',c',h1,m,fun q=>ZX q c30,fun _=>z,k _ _ e⟩
    have pa:4≤r'+2→(∀ d S,aa Γ (M+3) fM [.ref 0,.int ((r'+2:Nat):Int),.int y] (aj ns (i+1) b c) = .ok d S→aa Γ (M+4) aB [.ref 0,.int ((r'+2:Nat):Int)] (aj ns i b c) = .ok d S)→∃ (x:Th) (i' c':Int),0≤i'∧Mt (r'+2) b c c' x∧(30<c→c'≤c+1)∧(c≤30→c'≤30+7 * ((r'+2:Nat):Int))∧aa Γ (M+4) aB [.ref 0,.int ((r'+2:Nat):Int)] (aj ns i b c)=thR x (aj ns i' b c'):=fun h4 k=>by
     obtain ⟨u,i',c',h1,m,z,e⟩:=nW (r'+2) h4 T ns (i+1) b c y (M+3) (by omega) hc (by omega) y0 (by omega)
     exact ⟨u,i',c',h1,m,fun q=>ZX q c30,fun _=>z,k _ _ e⟩
    have e0T:w=0→(w == 0)=true:=fun h=>BN h
    have e0F:w≠0→(w == 0)=false:=fun h=>zG h
    by_cases l4:r'+2<4
    ·have e4:decide (((r'+2:Nat):Int)<4)=true:=ZW (by omega)
     by_cases w2:2<w
     ·have gw:decide (2<w)=true:=ZW w2
      exact sing fun k d S mk e=>(ac false (aX 0 (nx) (aX 0 (m6) (aX 0 (z6) (aX 1 (e4) (aX 1 (gw) (aX 1 (z3) (aX 0 (mk) (aX 0 (e) aZ)))))))) (by kernel_rfl))
     ·have gw:decide (2<w)=false:=ZV w2
      by_cases l3:r'+2<3
      ·have e3:decide (((r'+2:Nat):Int)<3)=true:=ZW (by omega)
       exact sing fun k d S mk e=>(ac false (aX 0 (nx) (aX 0 (m6) (aX 0 (z6) (aX 1 (e4) (aX 1 (gw) (aX 1 (e3) (aX 1 (z3) (aX 0 (mk) (aX 0 (e) aZ))))))))) (by kernel_rfl))
      ·have e3:decide (((r'+2:Nat):Int)<3)=false:=ZV (by omega)
       by_cases w0:w=0
       ·have q0:=e0T w0
        exact sing fun k d S mk e=>(ac false (aX 0 (nx) (aX 0 (m6) (aX 0 (z6) (aX 1 (e4) (aX 1 (gw) (aX 1 (e3) (aX 1 (q0) (aX 0 (z3) (aX 0 (mk) (aX 0 (e) aZ)))))))))) (by kernel_rfl))
       ·have q0:=e0F w0
        have w4:decide (w<4)=true:=ZW (by omega)
        exact ro (by omega) fun d S e=>(ac false (aX 0 (nx) (aX 0 (m6) (aX 0 (z6) (aX 1 (e4) (aX 1 (gw) (aX 1 (e3) (aX 1 (q0) (aX 1 (w4) (aX 0 (e) aZ))))))))) (by kernel_rfl))
    ·have e4:decide (((r'+2:Nat):Int)<4)=false:=ZV (by omega)
     have e3:decide (((r'+2:Nat):Int)<3)=false:=ZV (by omega)
     by_cases w0:w=0
     ·have q0:=e0T w0
      exact sing fun k d S mk e=>(ac false (aX 0 (nx) (aX 0 (m6) (aX 0 (z6) (aX 1 (e4) (aX 2 (e3) (aX 1 (q0) (aX 0 (z3) (aX 0 (mk) (aX 0 (e) aZ))))))))) (by kernel_rfl))
     ·have q0:=e0F w0
      by_cases w4:w<4
      ·have w4:decide (w<4)=true:=ZW w4
       exact ro (by omega) fun d S e=>(ac false (aX 0 (nx) (aX 0 (m6) (aX 0 (z6) (aX 1 (e4) (aX 2 (e3) (aX 1 (q0) (aX 1 (w4) (aX 0 (e) aZ)))))))) (by kernel_rfl))
      ·have w4:decide (w<4)=false:=ZV w4
       exact pa (by omega) fun d S e=>(ac false (aX 0 (nx) (aX 0 (m6) (aX 0 (z6) (aX 1 (e4) (aX 2 (e3) (aX 1 (q0) (aX 1 (w4) (aX 0 (e) aZ)))))))) (by kernel_rfl))
theorem Mt.pg {b c:Int} {x:Th} (m:Mt 8 b 0 c x) (hc:c≤9973):Pg x:=⟨m.w,m.o,m.nn,m.tk,m.oc,m.p.apart (n:=0) hc⟩
theorem xN (ns:List Int):∃ st':List O,aa Γ 250 re [.lst (ns.map .int)] [] = .ok (.bl true) st':=by
 obtain ⟨c,hc0,hc⟩:=tU ns 0 248 []
 obtain ⟨k,hk⟩:∃ k,c % 13=k:=⟨_,rfl⟩
 have m13:=cq hk (b:=13) (by decide)
 obtain ⟨b,hb⟩:∃ b,c % 9973=b:=⟨_,rfl⟩
 have mb:=cq hb (b:=9973) (by decide)
 have z9:=dU c (b:=9) (by decide)
 obtain ⟨w,hw⟩:∃ w,c / 9 % 3=w:=⟨_,rfl⟩
 have m3:=cq hw (b:=3) (by decide)
 have z3:=dU c (b:=3) (by decide)
 have go:∀ (x:Th) (i' c':Int),Mt 8 b 0 c' x→c'≤30+7 * ((8:Nat):Int)→(∀ (d1 d2 d3 d4 d5:D),aS [x.node.toD,.lst [],.int k]=true→aS [x.node.toD,.lst [],.int k,.bl true]=true→(∃ s,aa Γ 249 ng [x.node.toD,.lst [],.int k] [] = .ok d1 s)→noR d1=true→aa Γ 249 ed [x.td,.bl false] (aj ns i' b c') = .ok d1 (aj ns i' b c')→aa Γ 249 cb [d1,d1] (aj ns i' b c') = .ok (.bl true) (aj ns i' b c')→aa Γ 249 ed [x.td,.bl true] (aj ns i' b c') = .ok d2 (aj ns i' b c')→(∃ s,aa Γ 249 rj [x.node.toD,.lst [],.int k] [] = .ok d2 s)→noR d2=true→aa Γ 249 cb [d2,d2] (aj ns i' b c') = .ok (.bl true) (aj ns i' b c')→(∃ s,aa Γ 249 wi [x.node.toD,.lst [],.int k,.bl true] [] = .ok d2 s)→aa Γ 250 re [.lst (ns.map .int)] [] = .ok (.bl true) (aj ns i' b c'))→∃ st':List O,aa Γ 250 re [.lst (ns.map .int)] [] = .ok (.bl true) st':=fun x i' c' m hz K=>by
  have pg:=m.pg (by omega)
  have n3:aS [x.node.toD,.lst [],.int k]=true:=by show (noR x.node.toD && true)=true;rw [T68.nr];rfl
  have n4:aS [x.node.toD,.lst [],.int k,.bl true]=true:=by show (noR x.node.toD && true)=true;rw [T68.nr];rfl
  exact ⟨_,K _ _ .non .non .non n3 n4 (sC (c:=k) (n:=148) pg) (wv fun e=>kf 2 x e) (qp (pl:=true) (S:=aj ns i' b c') x m.w 249 (by decide)) (vH (fun e=>kf 2 x e) 248 _) (qp (pl:=false) (S:=aj ns i' b c') x m.w 249 (by decide)) (yX (c:=k) (n:=148) pg) (wv fun e=>kf 2 x e) (vH (fun e=>kf 2 x e) 248 _) (yY (c:=k) (n:=148) (tg:=true) pg)⟩
 by_cases w2:w=2
 ·subst w2
  obtain ⟨x,i',c',h1,m,hz,e⟩:=nW 8 (by decide) (fun d d2 _=>lB d d2) ns 0 b 0 (c / 3) 249 (by decide) (by decide) (by decide) (by omega) (by decide)
  refine go x i' c' m hz fun d1 d2 d3 d4 d5 n3 n4 ⟨s1,p1⟩ r1 u1 a1 u2 ⟨s2,p2⟩ r2 a2 ⟨s3,p3⟩=>?_
  exact (ac false (aX 0 (hc) (aX 0 (mb) (aX 0 (z9) (aX 0 (m3) (aX 2 (z3) (aX 0 (e) (aX 0 (m13) (aX 0 (n3) (aX 0 (p1) (aX 0 (r1) (aX 0 (u1) (aX 0 (a1) (aX 0 (u2) (aX 0 (n3) (aX 0 (p2) (aX 0 (r2) (aX 0 (a2) (aX 2 (n4) (aX 0 (p3) (aX 0 (r2) (aX 0 (a2) aZ))))))))))))))))))))) (by kernel_rfl))
 ·have w2:(w == 2)=false:=zG w2
  obtain ⟨x,i',c',h1,m,hz,e⟩:=sK 8 (by decide) (fun d d2 _=>lB d d2) ns 0 b 0 (c / 3) 249 (by decide) (by decide) (by decide) (by omega) (by decide)
  refine go x i' c' m hz fun d1 d2 d3 d4 d5 n3 n4 ⟨s1,p1⟩ r1 u1 a1 u2 ⟨s2,p2⟩ r2 a2 ⟨s3,p3⟩=>?_
  exact (ac false (aX 0 (hc) (aX 0 (mb) (aX 0 (z9) (aX 0 (m3) (aX 1 (w2) (aX 0 (z3) (aX 0 (e) (aX 0 (m13) (aX 0 (n3) (aX 0 (p1) (aX 0 (r1) (aX 0 (u1) (aX 0 (a1) (aX 0 (u2) (aX 0 (n3) (aX 0 (p2) (aX 0 (r2) (aX 0 (a2) (aX 2 (n4) (aX 0 (p3) (aX 0 (r2) (aX 0 (a2) aZ)))))))))))))))))))))) (by kernel_rfl))
def X0 (K:υ):Prop:=∃ C:Α,pW K "Looker" C∧NaL K C ["kinds","wanted"]∧(∃ f,dh K C "__init__" "Looker.__init__" (aD (top 38) 0) f)∧(∃ f,dh K C "look" "Looker.look" (aD (top 38) 1) f)∧(∃ f,dh K C "hold" "Looker.hold" (aD (top 38) 2) f)∧(∃ f,dh K C "hold_choice" "Looker.hold_choice" (aD (top 38) 3) f)∧(∃ f,dh K C "want" "Looker.want" (aD (top 38) 4) f)∧True
def X1 (K:υ):Prop:=∃ C fI:Α,zB K "Ended" "Ended.__init__" (aD (top 66) 0) exB "Exception.__new__" C fI∧NaL K C ["outcome"]
def X2 (K:υ):Prop:=∃ C:Α,pW K "Value" C∧NaL K C ["head","held","guards","tag"]∧(∃ f,dh K C "__init__" "Value.__init__" (aD (top 67) 0) f)∧True
def X3 (K:υ):Prop:=∃ C:Α,pW K "Giver" C∧NaL K C ["left","together","notes"]∧(∃ f,dh K C "__init__" "Giver.__init__" (aD (top 68) 0) f)∧(∃ f,dh K C "give" "Giver.give" (aD (top 68) 1) f)∧(∃ f,dh K C "give_all" "Giver.give_all" (aD (top 68) 2) f)∧(∃ f,dh K C "give_in_call" "Giver.give_in_call" (aD (top 68) 3) f)∧(∃ f,dh K C "guards_with" "Giver.guards_with" (aD (top 68) 4) f)∧(∃ f,dh K C "note" "Giver.note" (aD (top 68) 5) f)∧True
def X4 (K:υ):Prop:=∃ C:Α,pW K "Walker" C∧NaL K C ["looks","numbers","giver"]∧(∃ f,dh K C "__init__" "Walker.__init__" (aD (top 94) 0) f)∧(∃ f,dh K C "come_to" "Walker.come_to" (aD (top 94) 1) f)∧(∃ f,dh K C "value_of" "Walker.value_of" (aD (top 94) 2) f)∧(∃ f,dh K C "called" "Walker.called" (aD (top 94) 3) f)∧True
def mrl:List (μ×μ×Bool):=[("Ended","Ended",true)]
def cnl:List μ:=["Looker","Ended","Value","Giver","Walker"]
def whl:List Nat:=[0,2,1,0,0]
def vxl:List (μ×Bool):=[]
structure Txt (K:υ):Prop where
 fn:ey K fnl
 gl:GlL K gll
 tl:lT K tbl
 bl:NoL K T.bl
 mr:MrL K mrl
 vx:VxL K vxl
 x0':X0 K
 x1':X1 K
 x2':X2 K
 x3':X3 K
 x4':X4 K
theorem tx:((((fnl.map fun p=>(p.1,p.1,p.2)) ++ mel).zip vrl).all fun p=>fnC p.1.2.2 && (gE { T with mu:=p.2.1,alt:=p.2.2.1,fc:=p.2.2.2.1,oc:=p.2.2.2.2 } p.1.2.2).isSome)=true:=by kernel_rfl
theorem wO {P:ϴ} {w:Û} {K:υ} {h:ϳ} {mg:μ→Option ζ} {fa:Α} {os:Fj} (Y:K.In h) (G:h.Ns ύ mg) (hfa:mg "law" = some (.ref fa)) (T':Txt K) :
 ∃ X:Cx,X.W.P=P∧X.W.w=w∧X.K=K∧X.mg=mg∧X.base=h∧X.os=os∧X.calm=true∧X.tz=0∧bX X (aa Γ 250) 252 69 fa:=by
 obtain ⟨ad,hF,hG⟩:=T'.fn.ad Y G
 obtain ⟨C0,c0,n0',⟨a0,⟨d0',F0⟩,M0⟩,⟨a1,⟨d1',F1⟩,M1⟩,⟨a2,⟨d2',F2⟩,M2⟩,⟨a3,⟨d3',F3⟩,M3⟩,⟨a4,⟨d4',F4⟩,M4⟩,_⟩:=T'.x0'
 obtain ⟨C1,e0',c1,n1'⟩:=T'.x1'
 obtain ⟨d5',I0⟩:=c1.ini
 obtain ⟨C2,c2,n2',⟨a5,⟨d6',F5⟩,M5⟩,_⟩:=T'.x2'
 obtain ⟨C3,c3,n3',⟨a6,⟨d7',F6⟩,M6⟩,⟨a7,⟨d8',F7⟩,M7⟩,⟨a8,⟨d9',F8⟩,M8⟩,⟨a9,⟨d10',F9⟩,M9⟩,⟨a10,⟨d11',F10⟩,M10⟩,⟨a11,⟨d12',F11⟩,M11⟩,_⟩:=T'.x3'
 obtain ⟨C4,c4,n4',⟨a12,⟨d13',F12⟩,M12⟩,⟨a13,⟨d14',F13⟩,M13⟩,⟨a14,⟨d15',F14⟩,M14⟩,⟨a15,⟨d16',F15⟩,M15⟩,_⟩:=T'.x4'
 let X:Cx:=⟨⟨P,w,[⟨C0,["kinds","wanted"]⟩,⟨C1,["outcome"]⟩,⟨C2,["head","held","guards","tag"]⟩,⟨C3,["left","together","notes"]⟩,⟨C4,["looks","numbers","giver"]⟩],[0,2,1,0,0]⟩,K,mg,h,os,Γ,fun _ _ _=>.bad,fun _ _ _=>.bad,ś,[],[],Ÿ "" (au (top 0)) 0 0 .none,true,0⟩
 have hM:FsL K mel [a0,a1,a2,a3,a4,a6,a7,a8,a9,a10,a11,a12,a13,a14,a15]:=⟨⟨_,F0.d (by kernel_rfl)⟩,⟨_,F1.d (by kernel_rfl)⟩,⟨_,F2.d (by kernel_rfl)⟩,⟨_,F3.d (by kernel_rfl)⟩,⟨_,F4.d (by kernel_rfl)⟩,⟨_,F6.d (by kernel_rfl)⟩,⟨_,F7.d (by kernel_rfl)⟩,⟨_,F8.d (by kernel_rfl)⟩,⟨_,F9.d (by kernel_rfl)⟩,⟨_,F10.d (by kernel_rfl)⟩,⟨_,F11.d (by kernel_rfl)⟩,⟨_,F12.d (by kernel_rfl)⟩,⟨_,F13.d (by kernel_rfl)⟩,⟨_,F14.d (by kernel_rfl)⟩,⟨_,F15.d (by kernel_rfl)⟩,trivial⟩
 have k0':d8 X T.an 0 ⟨0,[0,1],70,[],[],[]⟩ ⟨C0,["kinds","wanted"]⟩:=⟨rfl,fun _=>c0.cls,n0'.at,rfl,(by kernel_rfl),se (by kernel_rfl),fun z=>ZX z (by decide)⟩
 have k1':d8 X T.an 1 ⟨2,[2],0,[],[],[]⟩ ⟨C1,["outcome"]⟩:=⟨rfl,ab0,n1'.at,rfl,(by kernel_rfl),se (by kernel_rfl),fun _=>⟨c1.fd,c1.hh⟩⟩
 have k2':d8 X T.an 2 ⟨1,[3,4,5,6],0,[],[],[]⟩ ⟨C2,["head","held","guards","tag"]⟩:=⟨rfl,fun _=>c2.cls,n2'.at,rfl,(by kernel_rfl),se (by kernel_rfl),fun z=>ZX z (by decide)⟩
 have k3':d8 X T.an 3 ⟨0,[7,8,9],75,[],[],[]⟩ ⟨C3,["left","together","notes"]⟩:=⟨rfl,fun _=>c3.cls,n3'.at,rfl,(by kernel_rfl),se (by kernel_rfl),fun z=>ZX z (by decide)⟩
 have k4':d8 X T.an 4 ⟨0,[10,11,12],81,[],[],[]⟩ ⟨C4,["looks","numbers","giver"]⟩:=⟨rfl,fun _=>c4.cls,n4'.at,rfl,(by kernel_rfl),se (by kernel_rfl),fun z=>ZX z (by decide)⟩
 have hN:∀ (c:Nat) (ic:CI),X.W.ci[c]? = some ic→whl[c]? = some 2→∃ m,cnl[c]? = some m∧ώ K ύ m=some (some (.ref ic.ad)):=fun c ic e=>fH (P:=fun (c:Nat) (ic:CI)=>whl[c]? = some 2→∃ m,cnl[c]? = some m∧ώ K ύ m=some (some (.ref ic.ad))) (show gv _ 0 X.W.ci from ⟨(fun z=>ZX z (by decide)),fun _=>⟨_,rfl,c1.a⟩,(fun z=>ZX z (by decide)),(fun z=>ZX z (by decide)),(fun z=>ZX z (by decide)),trivial⟩) e
 have Pg:tF T X (ad ++ [a0,a1,a2,a3,a4,a6,a7,a8,a9,a10,a11,a12,a13,a14,a15]) 1:=by
  refine ⟨rfl,fun j f e=>xn rfl rfl tx (hF.app hM) e,fun j x e=>?_,fun j x e=>?_,fun j x e=>?_,fun x e=>PySem.W.mg_none_of Y G (T'.bl.at x e),fun c k e=>?_,fun q e=>?_,fun j x e hz=>?_,fun j x e hz=>?_,fun j x e hz=>?_,fun j x e hz=>?_,fun j x e hz=>?_,fun e=>?_⟩
  ·obtain ⟨f,h1,h2⟩:=pZ hG e
   exact ⟨f,ό (ς.mp h1).1 ▸ h1,h2⟩
  ·obtain ⟨d,u,h1,h2,h3⟩:=T'.gl.at e
   exact ⟨d,u,h1,é Y G h2,h3⟩
  ·obtain ⟨t,a,h1,h2,h3⟩:=T'.tl.at e
   exact ⟨t,a,h1,é Y G h2,h3⟩
  ·exact fH (P:=fun (c:Nat) (k:Cl)=>∃ i,d8 X T.an c k i) (show gv _ 0 Γ.cl from ⟨⟨_,k0'⟩,⟨_,k1'⟩,⟨_,k2'⟩,⟨_,k3'⟩,⟨_,k4'⟩,trivial⟩) e
  ·obtain ⟨i,e⟩:=þ.mp e
   exact fH (P:=fun (_:Nat) (q:μ×Nat×Nat)=>∃ f,(ad ++ [a0,a1,a2,a3,a4,a6,a7,a8,a9,a10,a11,a12,a13,a14,a15])[q.2.2]? = some f∧oU X T.an q.1 q.2.1 f) (show gv _ 0 T.me from ⟨⟨a1,bA (n:=70) (k:=1) hF.len,⟨_,_,rfl,k0',rfl,M1,fS (by kernel_rfl)⟩⟩,⟨a2,bA (n:=70) (k:=2) hF.len,⟨_,_,rfl,k0',rfl,M2,fS (by kernel_rfl)⟩⟩,⟨a3,bA (n:=70) (k:=3) hF.len,⟨_,_,rfl,k0',rfl,M3,fS (by kernel_rfl)⟩⟩,⟨a4,bA (n:=70) (k:=4) hF.len,⟨_,_,rfl,k0',rfl,M4,fS (by kernel_rfl)⟩⟩,⟨a7,bA (n:=70) (k:=6) hF.len,⟨_,_,rfl,k3',rfl,M7,fS (by kernel_rfl)⟩⟩,⟨a8,bA (n:=70) (k:=7) hF.len,⟨_,_,rfl,k3',rfl,M8,fS (by kernel_rfl)⟩⟩,⟨a9,bA (n:=70) (k:=8) hF.len,⟨_,_,rfl,k3',rfl,M9,fS (by kernel_rfl)⟩⟩,⟨a10,bA (n:=70) (k:=9) hF.len,⟨_,_,rfl,k3',rfl,M10,fS (by kernel_rfl)⟩⟩,⟨a11,bA (n:=70) (k:=10) hF.len,⟨_,_,rfl,k3',rfl,M11,fS (by kernel_rfl)⟩⟩,⟨a13,bA (n:=70) (k:=12) hF.len,⟨_,_,rfl,k4',rfl,M13,fS (by kernel_rfl)⟩⟩,⟨a14,bA (n:=70) (k:=13) hF.len,⟨_,_,rfl,k4',rfl,M14,fS (by kernel_rfl)⟩⟩,⟨a15,bA (n:=70) (k:=14) hF.len,⟨_,_,rfl,k4',rfl,M15,fS (by kernel_rfl)⟩⟩,trivial⟩) e
  ·exact fH (P:=fun (j:Nat) (x:μ)=>x≠("":μ)→∃ f i cl,(ad ++ [a0,a1,a2,a3,a4,a6,a7,a8,a9,a10,a11,a12,a13,a14,a15])[cl.init]? = some f∧Mk K i.ad f∧Γ.cl[j]? = some cl∧cl.what=0∧X.W.ci[j]? = some i∧X.W.what[j]? = some 0∧mg x=some (.ref i.ad)) (show gv _ 0 T.nw from ⟨(fun _=>⟨a0,⟨C0,_⟩,_,bA (n:=70) (k:=0) hF.len,⟨c0.mks,(M0).at_,(M0).fn,c0.kp⟩,rfl,rfl,rfl,rfl,é Y G c0.a⟩),ab0,ab0,(fun _=>⟨a6,⟨C3,_⟩,_,bA (n:=70) (k:=5) hF.len,⟨c3.mks,(M6).at_,(M6).fn,c3.kp⟩,rfl,rfl,rfl,rfl,é Y G c3.a⟩),(fun _=>⟨a12,⟨C4,_⟩,_,bA (n:=70) (k:=11) hF.len,⟨c4.mks,(M12).at_,(M12).fn,c4.kp⟩,rfl,rfl,rfl,rfl,é Y G c4.a⟩),trivial⟩) e hz
  ·exact fH (P:=fun (j:Nat) (x:μ)=>x≠("":μ)→∃ f fd ps i cl,FnI X 1 f fd ps i.nm none∧bU K fd ps []∧Mk K i.ad f∧Cls K i.ad∧(∀ f∈i.nm,cL K i.ad f)∧Γ.cl[j]? = some cl∧X.W.ci[j]? = some i∧X.W.what[j]? = some 1∧i.nm.length=cl.at_.length∧mg x=some (.ref i.ad)) (show gv _ 0 T.nd from ⟨ab0,ab0,(fun _=>⟨a5,d6',_,⟨C2,_⟩,_,(jD (X:=X) (nm:=["head","held","guards","tag"]) none F5 (by kernel_rfl)).1,(jD (X:=X) (nm:=["head","held","guards","tag"]) none F5 (by kernel_rfl)).2,⟨c2.mks,(M5).at_,(M5).fn,c2.kp⟩,c2.cls,n2'.at,rfl,rfl,rfl,rfl,é Y G c2.a⟩),ab0,ab0,trivial⟩) e hz
  ·exact fH (P:=fun (j:Nat) (x:μ)=>x≠("":μ)→∃ (k:Cl) (i:CI) (fI:Α) (fd:Ý) (ps:List μ) (Bx nwI iniI:String) (bmB:List ζ),Ģ Bx nwI iniI bmB∧iA K i.ad fI bmB nwI∧FnJ X 1 fI fd ps i.nm k i.ad∧bU K fd ps []∧gx K i.ad∧(∀ f∈i.nm,Ρ K (.ref i.ad) f=some none)∧Γ.cl[j]? = some k∧X.W.ci[j]? = some i∧X.W.what[j]? = some 2∧i.nm.length=k.at_.length∧Ϩ K i.ad (.type "BaseException")=some true∧đ K (.ref i.ad)=some (.type "type")∧Ϙ K (.ref i.ad)=true∧mg x=some (.ref i.ad)∧k.at_.isEmpty=false) (show gv _ 0 T.ex from ⟨ab0,(fun _=>⟨_,⟨C1,_⟩,e0',d5',_,_,_,_,_,PySem.F.excBase_Exception,c1.own,⟨_,(jD (X:=X) (nm:=["outcome"]) none I0 (by kernel_rfl)).1,.inl rfl⟩,(jD (X:=X) (nm:=["outcome"]) none I0 (by kernel_rfl)).2,c1.st,n1'.at,rfl,rfl,rfl,rfl,c1.fd.be,c1.ec.ty,c1.kp,é Y G c1.a,rfl⟩),ab0,ab0,ab0,trivial⟩) e hz
  ·exact fH (P:=fun (j:Nat) (x:μ)=>x≠("":μ)→pY X j x) (show gv _ 0 T.hx from ⟨ab0,(fun _=>⟨⟨C1,_⟩,rfl,é Y G c1.a,c1.ec,yF T'.mr hN c1.a (by kernel_rfl)⟩),ab0,ab0,ab0,trivial⟩) e hz
  ·exact fH (P:=fun (j:Nat) (x:μ)=>x≠("":μ)→RtP X j x) (show gv _ 0 T.xt from ⟨ab0,ab0,ab0,ab0,ab0,trivial⟩) e hz
  ·exact ZX e (by decide)
 obtain ⟨f,h1,h2⟩:=pZ hG (j:=69) (x:="law") rfl
 rw [hfa] at h2
 cases h2
 exact ⟨X,rfl,rfl,rfl,rfl,rfl,rfl,rfl,rfl,j0 Pg 250 69 fa (ό (ς.mp h1).1 ▸ h1)⟩
theorem walk {l:EX} {q:ϴ} {loose:List μ} {XP:(μ→Option ζ)→ϳ→Prop} {YP:Û→ϳ→Prop} {d:DefRec} {K:Params→υ} (hn:l.most=some 63) (hdf:d.params.defaults = []) (hd:d.name = "law")
 (hY:∀ (w:Û) (h:ϳ),YP w h→(K w.params).In h) (F:∀ (w:Û) (h:ϳ) (Y:(K w.params).In h),Txt (KOf Y)):Fx q loose XP YP l.row.toRowW d [] (fun f vs=>EI f vs):=
 vD (n:=63) hn (by decide) hdf ⟨rfl,by decide,by decide⟩ hY (fun w mg fa h os Y G e md=>wO Y G (hd ▸ e) (F w h Y)) (fun ns _=>xN ns)
end L2.K67
end
section
open PySem PySem.W PyProof.Rows
namespace PySem.W.Fast
def tw60564250014189909:Nat:=0
def tw681804859126856866:Nat:=0
def tw14212478987306759432:Nat:=0
def tw16913191650575356956:Nat:=0
def tw16032074619908026440:Nat:=0
def tw11936436014126004216:Nat:=0
def tw5438300093786083916:Nat:=0
def tw6115460426371026135:Nat:=0
def tw11840555771333740971:Nat:=0
def tw10345970508360008778:Nat:=0
def tw10373445328633642061:Nat:=0
def tw3938191780345520052:Nat:=0
def tw3879486496319713959:Nat:=0
def tw260815676261448059:Nat:=0
def tw7643387757355466457:Nat:=0
def tw1159278719174395004:Nat:=0
def tw9125737605907126048:Nat:=0
def tw10250532680043653684:Nat:=0
def tw8645971584460834663:Nat:=0
def tw40650754204631435:Nat:=0
def tw2366835071817015433:Nat:=0
def tw12038535502826995051:Nat:=0
def tw9273748832082391074:Nat:=0
def tw16065206394183807215:Nat:=0
def tw13199449779396785613:Nat:=0
def tw1974684027655582890:Nat:=0
def tw14068594718985288275:Nat:=0
def tw8456483320602416841:Nat:=0
def tw10406108686343341415:Nat:=0
def tw17110195399946372726:Nat:=0
def tw6746819207479544249:Nat:=0
def tw120152517884502093:Nat:=0
def tw361690436705684522:Nat:=0
def tw6731599827042341030:Nat:=0
def tw550415294185968923:Nat:=0
def tw17932980970803078356:Nat:=0
def tw14913900845063824173:Nat:=0
def tw7131978070767571905:Nat:=0
def tw5230848844220399653:Nat:=0
def tw15322925248767177365:Nat:=0
def tw12051415922355698462:Nat:=0
def tw1938017472923652817:Nat:=0
def tw15628334793253314788:Nat:=0
def tw5779405893062450712:Nat:=0
def tw3262846806707650594:Nat:=0
def tw10889540744301179581:Nat:=0
def tw14493244881498475163:Nat:=0
def tw15597659609630102868:Nat:=0
def tw16310719684499950094:Nat:=0
def tw12807877877798680140:Nat:=0
def tw8078695650810631713:Nat:=0
def tw13790374477752237493:Nat:=0
def tw16599349536969543212:Nat:=0
def tw13275026022652971965:Nat:=0
def tw2979612189424911513:Nat:=0
def tw15395545046731059334:Nat:=0
def tw1487595433625722434:Nat:=0
def tw5165230878177620933:Nat:=0
def tw16794532161495788627:Nat:=0
def tw6130812649301685987:Nat:=0
def tw4786564562555070632:Nat:=0
def tw12538197062658574350:Nat:=0
def tw5178575167015863861:Nat:=0
def tw12339731209712530049:Nat:=0
def tw1127324670444502999:Nat:=0
def tw6256917177768627546:Nat:=0
def tw4887765698568385726:Nat:=0
def tw13639313512513470749:Nat:=0
def tw8673557152126821194:Nat:=0
def tw13004432095458237484:Nat:=0
def tw16809425634810354157:Nat:=0
def tw6737574553040220325:Nat:=0
def tw14234196282767532825:Nat:=0
def tw15922654700700223912:Nat:=0
def tw12885219537823870464:Nat:=0
def tw7249315486392192282:Nat:=0
def tw3933749144154136874:Nat:=0
def tw12362789327734040425:Nat:=0
def tw18218799526790471682:Nat:=0
def tw16184801359480009192:Nat:=0
def tw14288533334001086254:Nat:=0
def tw6335110489442214917:Nat:=0
def tw2976868664505105509:Nat:=0
def tw728318533521789853:Nat:=0
def tw14300599784104394018:Nat:=0
def tw14680289886542399143:Nat:=0
def tw6755645949583524737:Nat:=0
def tw4951625631888385134:Nat:=0
def tw16411238575728113721:Nat:=0
def tw8608112938558936209:Nat:=0
def tw5393130259815991729:Nat:=0
def tw4585322671974142607:Nat:=0
def tw17353090244789096686:Nat:=0
def tw4661328994501036993:Nat:=0
def tw9195541655176084843:Nat:=0
def tw16299443292797288337:Nat:=0
def tw11794368289725878316:Nat:=0
def tw10799726623107474478:Nat:=0
def tw18321143346694599284:Nat:=0
def tw12390572910061302105:Nat:=0
def tw3400999976297916234:Nat:=0
def tw15730555455558804394:Nat:=0
def tw13731966646301206859:Nat:=0
def tw15785150668272860890:Nat:=0
def tw4865978254611198994:Nat:=0
def tw6478411797281326694:Nat:=0
def tw11418640282236846031:Nat:=0
def tw3245547280602206779:Nat:=0
def tw6048347243122523963:Nat:=0
def tw14618378429906091334:Nat:=0
def tw1590590743291355783:Nat:=0
def tw1530326544036473791:Nat:=0
def tw12730694776170875673:Nat:=0
def tw5432692493560781338:Nat:=0
def tw15309142009071459490:Nat:=0
def tw5606922322090151019:Nat:=0
def tw11150093467262944238:Nat:=0
def tw7586954110019349570:Nat:=0
def tw4953986943287723906:Nat:=0
def tw4704438533927438823:Nat:=0
def tw5726567200861461696:Nat:=0
def tw12171834855206960863:Nat:=0
def tw17125943674189596760:Nat:=0
def tw3009855494774312920:Nat:=0
def tw13966377210965780851:Nat:=0
def tw11717336986553667421:Nat:=0
def tw16539323939183146904:Nat:=0
def tw16683411359408860384:Nat:=0
def tw13872777423837503495:Nat:=0
def tw9214362506684116776:Nat:=0
def tw2908818584378089114:Nat:=0
def tw9758372156764195890:Nat:=0
def tw14026491183820993448:Nat:=0
def tw18383084648814068526:Nat:=0
def tw5948559478949123951:Nat:=0
def tw15197847317698967590:Nat:=0
def tw7267377119396288885:Nat:=0
def tw6113093200016219842:Nat:=0
def tw6531569977470652277:Nat:=0
def tw12786301690042930574:Nat:=0
def tw5540596586792145947:Nat:=0
def tw13014266547460438205:Nat:=0
def tw8772930808125862366:Nat:=0
def tw9482503586462706003:Nat:=0
def tw10610026997703775350:Nat:=0
def tw16511283490722226846:Nat:=0
def tw15063951087724371944:Nat:=0
def tw10103656118513123896:Nat:=0
def tw138510129778946816:Nat:=0
def tw2689116865908769758:Nat:=0
def tw390382030405922129:Nat:=0
def tw9858283807800145210:Nat:=0
def tw17611040538865563900:Nat:=0
def tw14584000946587302443:Nat:=0
def tw17495651826896713501:Nat:=0
def tw9571828980427795932:Nat:=0
def tw10787687349007738273:Nat:=0
def tw16940776104657191847:Nat:=0
def tw12123521767685841405:Nat:=0
def tw18336646249874639930:Nat:=0
def tw16884297482497655908:Nat:=0
def tw16909553761786762772:Nat:=0
def tw18149646933655404203:Nat:=0
def tw14350107388613779855:Nat:=0
def tw15941382572687686046:Nat:=0
def tw17201976547486514742:Nat:=0
def tw8983476807958960566:Nat:=0
def tw5730306334287897198:Nat:=0
def tw2803030106110147239:Nat:=0
def tw7223417009656635022:Nat:=0
def tw5060644581970598190:Nat:=0
def tw16773843890918812833:Nat:=0
def tw8761222173985642789:Nat:=0
def tw56907223297453959:Nat:=0
def tw1078421900612287276:Nat:=0
def tw10566697802717793650:Nat:=0
def tw2579308385383372636:Nat:=0
def tw13820393704894196862:Nat:=0
def tw639706025263773379:Nat:=0
def tw13133058599905674218:Nat:=0
def tw6462731555285519684:Nat:=0
def tw11652293895897479420:Nat:=0
def tw12725324704053346823:Nat:=0
def tw9409299086734602661:Nat:=0
def tw7753101666225115188:Nat:=0
def tw17441729258731713922:Nat:=0
def tw15739482400488288859:Nat:=0
def tw11526850823591705316:Nat:=0
def tw9305671033551299150:Nat:=0
def tw3661628074368652552:Nat:=0
def tw7120025853291444886:Nat:=0
def tw15242935863782006072:Nat:=0
def tw16684171707312893817:Nat:=0
def tw13175479830538142455:Nat:=0
def tw9259488006027970191:Nat:=0
def tw8351628903669873216:Nat:=0
def tw12995259054611070003:Nat:=0
def tw8474223472830248188:Nat:=0
def tw15015248051243549979:Nat:=0
def tw2824272843225162412:Nat:=0
def tw1766256476264374535:Nat:=0
def tw10402947599047666547:Nat:=0
def tw11859797421640651876:Nat:=0
def tw3335681316613783915:Nat:=0
def tw8886975389049327430:Nat:=0
def tw1647749031129766534:Nat:=0
def tw13471582835375844275:Nat:=0
def tw9766183508627944258:Nat:=0
def tw7963490444766119987:Nat:=0
def tw10192475818754232141:Nat:=0
def tw6846130043453785806:Nat:=0
def tw5966102778253742869:Nat:=0
def tw4329726210744105124:Nat:=0
def tw4817159629461424080:Nat:=0
def tw10013506628814139772:Nat:=0
def tw6814379785924010119:Nat:=0
def tw2101441372854776773:Nat:=0
def tw4029966410653436904:Nat:=0
def tw10304380206942391856:Nat:=0
def tw7336242530086384930:Nat:=0
def tw2020222711953191320:Nat:=0
def tw14537879456829516412:Nat:=0
def tw14681217103678036404:Nat:=0
def tw205362005747063957:Nat:=0
def tw6271712368858767779:Nat:=0
def tw16632678058174767099:Nat:=0
def tw12592301086019706804:Nat:=0
def tw5947856749243840238:Nat:=0
def tw15537140041331762991:Nat:=0
def tw14254167099361121050:Nat:=0
def tw7999669630386511047:Nat:=0
def tw5471245031344431402:Nat:=0
def tw3499605235371274067:Nat:=0
def tw18092000246753082889:Nat:=0
def tw1445772449416437725:Nat:=0
def tw6399317018091355579:Nat:=0
def tw10695345168095806207:Nat:=0
def tw9375659765674894552:Nat:=0
def tw13568186038979210037:Nat:=0
def tw9195261331450354250:Nat:=0
def tw11383864625903920534:Nat:=0
def tw161474630685152943:Nat:=0
def tw13368751142974921729:Nat:=0
def tw5163478933618395159:Nat:=0
def tw15954048229561833724:Nat:=0
def tw12177388762262323385:Nat:=0
def tw627017929979844204:Nat:=0
def tw17199593763844688879:Nat:=0
def tw11248044385407690543:Nat:=0
def tw3946857800945484970:Nat:=0
def tw10462351044441212320:Nat:=0
def tw7551341341414021181:Nat:=0
def tw17246148635200149065:Nat:=0
def tw9535293633312645394:Nat:=0
def tw3293504973597815853:Nat:=0
def tw18162554473111259843:Nat:=0
def tw626976001170335041:Nat:=0
def tw5523751584493114208:Nat:=0
def tw3189741821649562356:Nat:=0
def tw9131041085934042885:Nat:=0
def tw9675828998838910042:Nat:=0
def tw8840244279096728000:Nat:=0
def tw9925933487628136757:Nat:=0
def tw2376617312754463255:Nat:=0
def tw16257266921139853397:Nat:=0
def tw15103244685337641290:Nat:=0
def tw11526732437783579653:Nat:=0
def tw7610222317547348764:Nat:=0
def tw7001139675931975078:Nat:=0
def tw6074458093148376991:Nat:=0
def tw16992080640236110473:Nat:=0
def tw12501585918770815160:Nat:=0
def tw8758621549557239359:Nat:=0
def tw2514054856629798638:Nat:=0
def tw9166530473870241658:Nat:=0
def tw6331840440783679452:Nat:=0
def tw1574591064922804635:Nat:=0
def tw2614532341806457771:Nat:=0
def tw4028776055540514040:Nat:=0
def tw13548647435014903641:Nat:=0
def tw8818818693471930843:Nat:=0
def tw4693544976811284880:Nat:=0
def tw258080840012697211:Nat:=0
def tw14463831094972827629:Nat:=0
def tw17600729063641685291:Nat:=0
def tw124064770538344924:Nat:=0
def tw9163052748683124469:Nat:=0
def tw6262237765574656076:Nat:=0
def tw6048846998506287824:Nat:=0
def tw5443218152448715801:Nat:=0
def tw17189799086846089587:Nat:=0
def tw16988113956569445673:Nat:=0
def tw1671738638360473875:Nat:=0
def tw12792489544013538838:Nat:=0
def tw12472375810539576725:Nat:=0
def tw11314976749403548357:Nat:=0
def tw1021712433547305269:Nat:=0
def tw2088065615344800891:Nat:=0
def tw14745230429198462383:Nat:=0
def tw839862314585465572:Nat:=0
def tw877539355472188911:Nat:=0
def tw17668771128702044340:Nat:=0
def tw9454813524317891731:Nat:=0
def tw18081335131751126823:Nat:=0
def tw15304479039828383146:Nat:=0
def tw5626427815094504522:Nat:=0
def tw10953653146078180976:Nat:=0
def tw11186204082640593504:Nat:=0
def tw9566964246709602617:Nat:=0
def tw8442475287300996849:Nat:=0
def tw6321720794170050751:Nat:=0
def tw4327852218980391107:Nat:=0
def tw3513677667821767473:Nat:=0
def tw2759606568439008406:Nat:=0
def tw18324052836730996611:Nat:=0
def tw17658716504805839875:Nat:=0
def tw17401180299788280714:Nat:=0
def tw17205865706885500814:Nat:=0
def tw16064052507218179898:Nat:=0
def tw16034004400070996086:Nat:=0
def tw15866858463002839179:Nat:=0
def tw15482786891388981830:Nat:=0
def tw1396892299100613057:Nat:=0
def tw13695202145773979821:Nat:=0
def tw11855315550788944643:Nat:=0
def tw11748908592925829820:Nat:=0
def tw11092530331123678704:Nat:=0
def tw10381068718680795963:Nat:=0
def tw11337634403437876233:Nat:=0
def tw7580156571969818961:Nat:=0
def tw33408296181124428:Nat:=0
def tw17215431381321314114:Nat:=0
def tw6771723726582438269:Nat:=0
def tw8794914645129507264:Nat:=0
def tw8678120057811712132:Nat:=0
def tw8288621775582974363:Nat:=0
def tw7708953248960563704:Nat:=0
def tw7025236969211162908:Nat:=0
def tw357547533240661929:Nat:=0
def tw2964167687851729013:Nat:=0
def tw242207156110106219:Nat:=0
def tw2225735600490113807:Nat:=0
def tw18176059160041851773:Nat:=0
def tw16250829608930306532:Nat:=0
def tw1580473953535633437:Nat:=0
def tw15714678670260890454:Nat:=0
def tw14105808785270075342:Nat:=0
def tw1375423513835003377:Nat:=0
def tw1362682204527960291:Nat:=0
def tw13530156960442614848:Nat:=0
def tw128986294531623610:Nat:=0
def tw12547390466875768806:Nat:=0
def tw11540614686462495067:Nat:=0
def tw9406130955665724290:Nat:=0
def tw17120752059340993346:Nat:=0
def tw9463495753771533647:Nat:=0
def tw9069915125474019601:Nat:=0
def tw8790925941447908381:Nat:=0
def tw8381754222528956389:Nat:=0
def tw5622183877584286042:Nat:=0
def tw2839685338986585059:Nat:=0
def tw17982992053171858975:Nat:=0
def tw17573405564914655884:Nat:=0
def tw1667574630853568122:Nat:=0
def tw15881836774332392602:Nat:=0
def tw15046469734406104109:Nat:=0
def tw14238030238109252610:Nat:=0
def tw13890246044267539979:Nat:=0
def tw13038612975160040085:Nat:=0
def tw10608510389642766259:Nat:=0
def tw10267208529842962499:Nat:=0
def tw6778114737844234069:Nat:=0
def tw6775611264211387385:Nat:=0
def tw2914919197643322559:Nat:=0
def tw2001307971825156159:Nat:=0
def tw15299275382151211801:Nat:=0
def tw11133556869317693733:Nat:=0
def tw11068380892239796240:Nat:=0
def tw5618187537701394703:Nat:=0
def tw2492796688213533339:Nat:=0
def tw12952945752606252111:Nat:=0
def tw9905311333911885793:Nat:=0
def tw8830589175162839650:Nat:=0
def tw8638499230513804418:Nat:=0
def tw8149552099826034858:Nat:=0
def tw7801823286550768953:Nat:=0
def tw7548266799039355670:Nat:=0
def tw7364321130026791295:Nat:=0
def tw7131829464979313053:Nat:=0
def tw7061984309324427370:Nat:=0
def tw7033579369475924723:Nat:=0
def tw6746411565061631234:Nat:=0
def tw6498926040993682451:Nat:=0
def tw6417520955230594936:Nat:=0
def tw6312639583534642218:Nat:=0
def tw6052876208658652218:Nat:=0
def tw6003607014840009509:Nat:=0
def tw5875450144212893344:Nat:=0
def tw5549568550367887409:Nat:=0
def tw5348154183958839096:Nat:=0
def tw5142655388137513255:Nat:=0
def tw5041552420232232188:Nat:=0
def tw4609817128622239845:Nat:=0
def tw4565423019493274991:Nat:=0
def tw4466873803799856177:Nat:=0
def tw3931634543814371789:Nat:=0
def tw3629961377928284564:Nat:=0
def tw3558716474794078573:Nat:=0
def tw3433169232004728372:Nat:=0
def tw3229966709135454868:Nat:=0
def tw3196638908555578031:Nat:=0
def tw2810808315794202066:Nat:=0
def tw217186793852233384:Nat:=0
def tw18349068753875207528:Nat:=0
def tw17749097247260207371:Nat:=0
def tw17620981374943431427:Nat:=0
def tw17577092785716675962:Nat:=0
def tw17379355506587932606:Nat:=0
def tw17213987715989111672:Nat:=0
def tw16794368558699989703:Nat:=0
def tw16274144846322082776:Nat:=0
def tw16189003838371682429:Nat:=0
def tw16121749431423541937:Nat:=0
def tw15447999866547666817:Nat:=0
def tw15280375335338072504:Nat:=0
def tw15223751396928487013:Nat:=0
def tw14780185834480343104:Nat:=0
def tw14778226231745492531:Nat:=0
def tw14729439948856436805:Nat:=0
def tw14469510500213030725:Nat:=0
def tw14332165928461775519:Nat:=0
def tw1415749621382905623:Nat:=0
def tw13952632237481619866:Nat:=0
def tw13731145092191720413:Nat:=0
def tw13549075067052859348:Nat:=0
def tw12939843440287596879:Nat:=0
def tw12820419937190245341:Nat:=0
def tw12799770307578835316:Nat:=0
def tw12751625073539143113:Nat:=0
def tw1269220829397679208:Nat:=0
def tw12463765848215011044:Nat:=0
def tw12433693929358371032:Nat:=0
def tw12066447402011460303:Nat:=0
def tw11727423958098538534:Nat:=0
def tw11373608364437707724:Nat:=0
def tw11366174739720506589:Nat:=0
def tw11252751062550925043:Nat:=0
def tw10729512806828005304:Nat:=0
def tw10685136581216023394:Nat:=0
def tw10367197285675367626:Nat:=0
def tw15373019292364116509:Nat:=0
def tw2606628517183114202:Nat:=0
def tw12140000387499740525:Nat:=0
def tw16006524450035564798:Nat:=0
def tw680208666898152582:Nat:=0
def tw8935322296183443218:Nat:=0
def tw6815274911691099735:Nat:=0
def tw5006559994116171897:Nat:=0
def tw9522526559829424317:Nat:=0
def tw9391724644446559132:Nat:=0
def tw5452865419902904560:Nat:=0
def tw4788303834728143196:Nat:=0
def tw4491302467998921944:Nat:=0
def tw4042914163397520539:Nat:=0
def tw3467426494670414798:Nat:=0
def tw3455810134096810563:Nat:=0
def tw2804282189396987124:Nat:=0
def tw18221685841755678604:Nat:=0
def tw17825706473310819330:Nat:=0
def tw16202783297116232096:Nat:=0
def tw14137201970634421596:Nat:=0
def tw13609159352527139927:Nat:=0
def tw13339286901682411753:Nat:=0
def tw12501025239613172956:Nat:=0
def tw12247118757694343727:Nat:=0
def tw14473257383114220792:Nat:=0
def tw11927207974965049918:Nat:=0
def tw10989923399096762834:Nat:=0
def tw6643067529056054114:Nat:=0
def tw6035536117404049985:Nat:=0
def tw358010345478985288:Nat:=0
def tw12161605182232923734:Nat:=0
def tw10965286420562910307:Nat:=0
def tw5793518347597978038:Nat:=0
def tw1932750313916215048:Nat:=0
def tw5052807323668104854:Nat:=0
def tw16972855682696769201:Nat:=0
def tw4038727130061556113:Nat:=0
def tw3626274135499240375:Nat:=0
def tw1340570560208259300:Nat:=0
def tw9354767173322630194:Nat:=0
def tw7953075952063283844:Nat:=0
def tw7456414266795117478:Nat:=0
def tw15717619839846818584:Nat:=0
def tw12635641684891694844:Nat:=0
def tw10507752735461269024:Nat:=0
def tw9828568146350637178:Nat:=0
def tw9549453768010153280:Nat:=0
def tw9178707265477457192:Nat:=0
def tw9118858195110830442:Nat:=0
def tw8675833019992145906:Nat:=0
def tw8485896860273788519:Nat:=0
def tw842474509143324061:Nat:=0
def tw8251038275590426301:Nat:=0
def tw7616278343642251185:Nat:=0
def tw7028419075132421213:Nat:=0
def tw6873241927023093123:Nat:=0
def tw6650520271341772877:Nat:=0
def tw6634469720856796323:Nat:=0
def tw579064524354954455:Nat:=0
def tw5506277048007157552:Nat:=0
def tw5469629075188030937:Nat:=0
def tw4655190947708853901:Nat:=0
def tw4458960467902849213:Nat:=0
def tw4077398515682413623:Nat:=0
def tw4020493692367553623:Nat:=0
def tw38285097453929543:Nat:=0
def tw3599370581887808918:Nat:=0
def tw3584683697890908719:Nat:=0
def tw2614816700539364500:Nat:=0
def tw2069066714243813683:Nat:=0
def tw17863335409357375678:Nat:=0
def tw17815619947171595592:Nat:=0
def tw17619227737483146649:Nat:=0
def tw17260627109825449060:Nat:=0
def tw1683658746639773851:Nat:=0
def tw16117330358917434668:Nat:=0
def tw15999745719538439910:Nat:=0
def tw15938339741074455394:Nat:=0
def tw15846502215976700229:Nat:=0
def tw15293400803512637752:Nat:=0
def tw15248289879378714549:Nat:=0
def tw14290427132503759005:Nat:=0
def tw13226820583596947648:Nat:=0
def tw12778635258574069348:Nat:=0
def tw12383792857026955267:Nat:=0
def tw121430806751867820:Nat:=0
def tw12081418518353085718:Nat:=0
def tw12027244928385873085:Nat:=0
def tw11940867073188956739:Nat:=0
def tw11268419802564203836:Nat:=0
def tw11026278727963127096:Nat:=0
def tw10536176991571317193:Nat:=0
def tw10460043831791691843:Nat:=0
def tw10304624392290295854:Nat:=0
def tw10197335011092349512:Nat:=0
def tw9056002382380274376:Nat:=0
def tw8225607398823004839:Nat:=0
def tw3463249621292077253:Nat:=0
def tw10693979619307676549:Nat:=0
def tw7377351280784006613:Nat:=0
def tw4739044391749626233:Nat:=0
def tw3034115074506099266:Nat:=0
def tw17768308903775572453:Nat:=0
def tw15302662377475309145:Nat:=0
def tw15173184469902377922:Nat:=0
def tw13633460642684915848:Nat:=0
def tw13555491202178915210:Nat:=0
def tw13468495691690632335:Nat:=0
def tw9557609071623722653:Nat:=0
def tw8290866133786567498:Nat:=0
def tw7433949141134608836:Nat:=0
def tw14936880534108578136:Nat:=0
def tw11057433498274222705:Nat:=0
def tw10818465284904309384:Nat:=0
def tw9041286995569648876:Nat:=0
def tw8864808198074420086:Nat:=0
def tw9597357180370322296:Nat:=0
def tw7217094174774611766:Nat:=0
def tw6695500296792600224:Nat:=0
def tw6402545088306323639:Nat:=0
def tw5790932675637687377:Nat:=0
def tw4639177986533019925:Nat:=0
def tw3129890069579455268:Nat:=0
def tw2132046469476867972:Nat:=0
def tw17638767906681724971:Nat:=0
def tw14448061922644509181:Nat:=0
def tw11369486792255873962:Nat:=0
def tw9798027720950384737:Nat:=0
def tw8386535269362506688:Nat:=0
def tw747892270575656207:Nat:=0
def tw4273841519364984640:Nat:=0
def tw13393936960945386120:Nat:=0
def tw8285063894158117819:Nat:=0
def tw662253747734993949:Nat:=0
def tw643277500258323601:Nat:=0
def tw5274901899332177896:Nat:=0
def tw3891337640010851958:Nat:=0
def tw2594014140346068043:Nat:=0
def tw201579385114962376:Nat:=0
def tw17599766547221225520:Nat:=0
def tw16502148013521307654:Nat:=0
def tw14273379730764953013:Nat:=0
def tw13082762676155245001:Nat:=0
def tw11460876519872436438:Nat:=0
def tw10198915047645142711:Nat:=0
def tw9980096004002635268:Nat:=0
def tw9752948809512784563:Nat:=0
def tw9714407785006663297:Nat:=0
def tw9576238224647347080:Nat:=0
def tw9429618522088510253:Nat:=0
def tw9336711321337695468:Nat:=0
def tw9301668459168472597:Nat:=0
def tw9123483894529480692:Nat:=0
def tw8888577936193575761:Nat:=0
def tw8807680510199802718:Nat:=0
def tw8803410737964010882:Nat:=0
def tw8546878744852756351:Nat:=0
def tw8451958573318712179:Nat:=0
def tw8346057852383766832:Nat:=0
def tw7980835855748946091:Nat:=0
def tw7886738857456291686:Nat:=0
def tw7884394831966466571:Nat:=0
def tw7789878010199442905:Nat:=0
def tw7759337128620016270:Nat:=0
def tw770923064210514633:Nat:=0
def tw7563138933423006457:Nat:=0
def tw7525473486446581883:Nat:=0
def tw7488459413630646380:Nat:=0
def tw7431492201636161304:Nat:=0
def tw7424790792485880282:Nat:=0
def tw7407332067901014899:Nat:=0
def tw7365400262820648980:Nat:=0
def tw7337295572541006150:Nat:=0
def tw7304101098993510486:Nat:=0
def tw7209787317979208620:Nat:=0
def tw7195060503251011063:Nat:=0
def tw718737700004114630:Nat:=0
def tw7179963480965706309:Nat:=0
def tw7025322930593532169:Nat:=0
def tw6881631198401230961:Nat:=0
def tw6881033349600307486:Nat:=0
def tw6661519481826273575:Nat:=0
def tw6366436777562872891:Nat:=0
def tw6277556918982758140:Nat:=0
def tw6045604051277425054:Nat:=0
def tw5834278153742183998:Nat:=0
def tw5797588950995024357:Nat:=0
def tw5776211978028978560:Nat:=0
def tw5748358491419409918:Nat:=0
def tw5516168739316166189:Nat:=0
def tw5426810985640058320:Nat:=0
def tw5415163845847923268:Nat:=0
def tw5293903763754657259:Nat:=0
def tw5264566032097652603:Nat:=0
def tw5233810315611584569:Nat:=0
def tw5167006854734089128:Nat:=0
def tw5046256471744367579:Nat:=0
def tw4939112862435073195:Nat:=0
def tw4624676837764232740:Nat:=0
def tw449072113724505330:Nat:=0
def tw4427564750060228805:Nat:=0
def tw4362936360489930980:Nat:=0
def tw435018838947904067:Nat:=0
def tw4332245068527356885:Nat:=0
def tw4167812149990909425:Nat:=0
def tw3980496313269251087:Nat:=0
def tw3864902879481967375:Nat:=0
def tw3697370429781026502:Nat:=0
def tw3674696947485292187:Nat:=0
def tw3363074775909636026:Nat:=0
def tw3316765955531180858:Nat:=0
def tw306581575406056027:Nat:=0
def tw3021463732146190556:Nat:=0
def tw2786167597162058243:Nat:=0
def tw277353374648936646:Nat:=0
def tw2730413285717877937:Nat:=0
def tw2722525436154401412:Nat:=0
def tw2630622248272726092:Nat:=0
def tw2594410397613317688:Nat:=0
def tw2570325387758734420:Nat:=0
def tw2567988012090746658:Nat:=0
def tw2561525486810518435:Nat:=0
def tw2304391329118624573:Nat:=0
def tw2239980976340541312:Nat:=0
def tw2203052895370285191:Nat:=0
def tw2150549451121614949:Nat:=0
def tw2001574775650971974:Nat:=0
def tw18433642520261455613:Nat:=0
def tw18396221649076214205:Nat:=0
def tw18187706986379494119:Nat:=0
def tw1787895306547386:Nat:=0
def tw17877038777945892044:Nat:=0
def tw17869839259938208910:Nat:=0
def tw17774062370558798198:Nat:=0
def tw17657416269623991531:Nat:=0
def tw17620683291733166736:Nat:=0
def tw17547187406481455429:Nat:=0
def tw17426501652972795158:Nat:=0
def tw17413966506714054689:Nat:=0
def tw17215180142156397734:Nat:=0
def tw17198427172388441567:Nat:=0
def tw17091833128274334239:Nat:=0
def tw17064385011371114245:Nat:=0
def tw17036543240315700959:Nat:=0
def tw1703387141772694463:Nat:=0
def tw16880901947843808061:Nat:=0
def tw16874757682011844334:Nat:=0
def tw16843607136003633720:Nat:=0
def tw16742825129391594292:Nat:=0
end PySem.W.Fast
set_option maxRecDepth 100000 in
set_option maxHeartbeats 0 in
theorem PySem.Challenge.cw_blamewise_k67_shown_holds : PySem.Challenge.rw_blamewise_k67_shown.Holds := by
 w_on;o_law;k_head;(case hw=>w_witness2)
 k_fill
 refine L2.K67.walk (l:=PySem.Challenge.rw_blamewise_k67_shown) rfl rfl rfl (fun w h Y=>PySem.W.kIn_of Y) ?F
 case F=>
  intro w h KX
  dsimp only [L2.Ev.KOf]
  refine' L2.K67.Txt.mk ?fn ?gl ?tl ?bl ?mr ?vx ?x0' ?x1' ?x2' ?x3' ?x4'
  (case fn=>(repeat (first | (apply L2.Ev.hl_cons;(case a | l | c | k=>k_is);(case d=>kernel_rfl)) | (apply L2.Ev.hl_consD;(case a | l | c | k | g=>k_is);(case d=>kernel_rfl))));exact trivial)
  (case gl=>(repeat (apply L2.Ev.gl_cons;(case a=>k_is);(case b=>kernel_rfl)));exact trivial)
  (case tl=>(repeat (apply L2.Ev.tb_cons;(case a=>k_is);(case b=>kernel_rfl)));exact trivial)
  (case bl=>(repeat (apply L2.Ev.nl_cons;(case a=>k_is)));exact trivial)
  (case mr=>(repeat (apply L2.Ev.mr_cons;(case a | b | c=>k_is)));exact trivial)
  (case vx=>(repeat (apply L2.Ev.vx_cons;(case a | b=>k_is)));exact trivial)
  (case x0'=>(refine' ⟨_,L2.Ev.cc_mk ?a ?pg ?hd ?po ?sa ?mk ?kp,⟨?n0,?n1,trivial⟩,?zme⟩;(case a | pg | hd | po | sa | mk | kp | n0 | n1=>k_is);(case zme=>(repeat (apply L2.Ev.me_cons;(case a | b | c | d | e=>k_is)));exact trivial)))
  (case x1'=>(refine' ⟨_,_,L2.Ev.xc_mk ?a ?l ?tq ?ini ?fl ?fn ?fc ?fk ?ga ?gn ?cl ?sg ?tk ?ob ?be ?is ?kp ?tyC ?sa ?ov ?hdc ?hh ?me,?n0,trivial⟩;(case a | l | ini | fl | fn | fc | fk | ga | gn | cl | sg | tk | ob | be | kp | tyC | sa | hh | me | n0=>k_is);(case tq | is | ov | hdc=>kernel_rfl)))
  (case x2'=>(refine' ⟨_,L2.Ev.cc_mk ?a ?pg ?hd ?po ?sa ?mk ?kp,⟨?n0,?n1,?n2,?n3,trivial⟩,?zme⟩;(case a | pg | hd | po | sa | mk | kp | n0 | n1 | n2 | n3=>k_is);(case zme=>(repeat (apply L2.Ev.me_cons;(case a | b | c | d | e=>k_is)));exact trivial)))
  (case x3' | x4'=>(refine' ⟨_,L2.Ev.cc_mk ?a ?pg ?hd ?po ?sa ?mk ?kp,⟨?n0,?n1,?n2,trivial⟩,?zme⟩;(case a | pg | hd | po | sa | mk | kp | n0 | n1 | n2=>k_is);(case zme=>(repeat (apply L2.Ev.me_cons;(case a | b | c | d | e=>k_is)));exact trivial)))
end
