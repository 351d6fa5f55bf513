import PyProof.Rows.All
import Wide.All
import OpenK.AllK
import Wide.FinOn
import Lean
import PyProof.EqAt
import PyProof.EqKinds
import PyProof.TupleCall
import PyProof.ListMulRoad
import KE.KDictOf
import KE.KEqDict
import PyProof.DictTruth
import KE.LcSums
import PyProof.StrWalks
import PyProof.FString4
import KE.KTabLook
import PyProof.Rows.ZipGen
import PyProof.MaxThree
import PyProof.ConsumeWalk
import PySem.Challenge.RW_blamewise_k63_told_is_plain
open PySem renaming wpAny_bind→ε,Value→ζ,wpAny_pure→θ,Str→ι,Shared→π,wpAny→Β,Addr→Δ,NameKind→Ζ,starEach→Η,Expr→Μ,wpAny_mono→Υ,wpAny_holding→ό,mainGlobals→ώ,Around→ϒ,wpAny_field→Ϛ,sizeLine→ϛ,keywordEach→ϩ,Pos→ϭ,strLen_append→ϲ,Heap→Ϸ,Program→ϸ,backTo→ϻ,wpAny_callSpecial?_slot→Ã,sliceBounds→Ä,mem_of_lookup→Å,wpAny_truthy_bool→Ë,wpAny_newObj_type→Ì,backToKw→Ð,wpAny_call_entry→Ò,Stmt→Ô,wpAny_seqItems→Õ,rawInt→Ö,compareOp→Û,World→Ü,FuncData→Þ,wpAny_standAt→ã,wpAny_Call_Name_kw→æ,codeAny_mono→ì,codeAny_call_builtin→í,behindInMarks→ñ,plainObj_wpAny_Assign_Attribute→ó,argBest→ă,wpAny_call→ĉ,sizeLine_eq→Ċ,attributeBase→ď,ExceptHandler→Đ,wpAny_setField_rec→ē,wpAny_pyIter_tuple→Ĕ,wpAny_getItem_str_slice→ě,Scope→Ĝ,wpAny_setField→ğ,wpAny_pyIter_list→Ġ,wpAny_Call_method→ġ,bootBuiltins→Ģ,ExcBaseFacts→Ĥ,wpAny_isTrue_Compare1→ĩ,wpAny_letGo→Į,wpAny_updateSeq→ĵ,wpAny_passesOwn→Ķ,wpAny_execs_nil→ķ,codeAny→Ŀ,noteFrame→Ń,wpAny_tryCatch→ň,binaryOp→ŉ,assignEach→Ŋ,wpAny_loadPart_at→ŗ,standAt→Ř,callerA→ř,Builtin→ś,plainId_quiet→ŝ,methodCallPos→Ş,ofString_length→ş,wpAny_execs_cons→ŧ,checkBuiltinCall→Ũ,callWith→ũ,cLine→Ū,pyIter→Ů,Keyword→ű,wpAny_specialOf→ų,wpAny_ite_split→Ŵ,post_val_or_str→ŵ,letOwnedTupleGo→Ŷ,codeAny_builtin→ŷ,wpAny_Expr_any→ſ,wpAny_Compare1→C0,unbindBehindTheSuite→C1,IsZip→C4,IsPart→C5,valueAt→C6,swapsWith→C7,seqItems?→C8,Env→CT,wpAny_rule→D1,wpAny_List_spliced→D2,slot_dict_contains→D3,isInstance→D4,wpAny_typeOf→Dh,wpAny_sequenceKey→Di,wpAny_assign_Name→Dj,slot_list_getitem→Dl,slot_dict_getitem→Dm,getItem→Dp,getAttr→Dq,foldedSetIterable→Dr,dictGet→Ds,wpAny_pyHash_str→DF,pyNext→DG,noFill_tuple_add→DH,getMethod→DI,Arguments→DM,wpAny_point→DN,wpAny_of_eq→DO,Obj→DQ,setAttr→E0,wpAny_newFunctionEnv_cells→E8,wpAny_loadPart→E9,typeLookup→Ea,findBy→Eb,call_meets→Ec,WalksT→Ed,Model→Ej,wpAny_onRaise→Er,wpAny_getItem_list_slice→Es,wpAny_attempt→Eu,seq_tuple_add→Ey,evalPart_none→Ez,Sem→EB,call→EC,slicePick→EM,setFlight→EN,cellsFrom→EO,bindL→EP,bindC→ER,list_append→ES,Draws→EX,setItem→EY,seqIndex_neg→EZ,concat_meets→F0,argsOk→F1,OsState→F5,wpAny_storeName_local→Fe,codeAny_handlers_test→Ff,codeAny_call_function→Fg,builtinLookup_eq_fast→Fh,unpackItems→Fo,seqIndex_of→Fq,excClassObj→Fs,intText?→Fv,Operator→Fw,wpAny_handleBy_cons→FE,wpAny_evalAll_cons→FQ,wpAny_Name→FR,wpAny_Constant_int→FT,typeIs_str→FU,sysModules→FW,refuseLoop→FY,isTrue→FZ,findBy_of_findIdx?→G0,Within→G5,wpAny_pyIter_enum→Gb,wpAny_evalAll_nil→Ge,wpAny_dictEntries→Gf,wpAny_Assign_Name→Gg,evalAll→Gh,Meets→Gk,BindsTo→Gs,wpAny_pyIter_zip→Gu,wpAny_lookBehind→Gv,wpAny_isInstance→Gw,wpAny_Dict_empty→Gx,updateSeq→Gy,pastItsLine_dict→Gz,lastMarks→GB,wpAny_JoinedStr→GQ,typeLookup_type→GR,getAttrByItsOwn→GU,codeAny_of_tree→GV,Fin→GX
open List renaming mem_singleton→η,mem_cons_of_mem→μ,mem_cons_self→ν,mem_cons→ξ,prefix_refl→ο,getElem?_eq_some_iff→τ,length_append→φ,getElem?_eq_getElem→Α,mem_of_getElem?→Ε,replicate→Θ,length_map→Ι,length_cons→Κ,size_toArray→Ο,getElem?_append_right→Ρ,getElem?_map→Φ,getElem?_set_ne→Ψ,getElem?_append_left→ϊ,length_singleton→ϋ,filterMap_cons→ύ,mem_filter→ϔ,nodup_cons→Ϟ,all_eq_true→ϣ,append_nil→ϧ,mem_map→Ϩ,getElem?_set_self→Ϭ,mem_append→Ϯ,length_nil→ϯ,mem_iff_getElem?→ϱ,mem_filterMap→ϳ,map_cons→Ϲ,mem_append_left→À,getElem?_cons_succ→Á,flatMap_cons→Æ,append_assoc→Ç,length_zip→É,length_set→Ê,mem_append_right→Í,zip_cons_cons→ß,length_replicate→â,getElem?_zip_eq_some→å,map_append→ç,nodup_append→é,range→ë,not_mem_nil→î,getElem_mem→ï,getElem?_replicate→ð,range'→õ,prefix_append→ù,length_range→Ā,any_eq_true→Ą,getElem?_eq_none_iff→Ć,filter_eq_nil_iff→Ē,lookup_cons→Ğ,append→Ĩ,of_mem_zip→Ī,forIn_cons→ī,dropLast_concat_getLast→Ĭ,zip_nil_right→ı,getD_eq_getElem?_getD→Ĳ,drop_zero→ĳ,drop_eq_getElem_cons→ľ,take_length→ŏ,drop_length→Ő,getElem?_eq_none→ť,length_pos_iff→Ÿ,getElem?_drop→Ž,mem_flatMap→CV,length_take→CW,length_drop→CY,cons_append→CZ,nodup_nil→DA,mem_range→DB,sum_cons→DR,length_filterMap_le→DS,length_erase_of_mem→DT,lookup_eq_some_iff→DX,length_eq_zero_iff→DY,getElem?_cons_zero→DZ,map_nil→E2,length_pos_of_mem→E4,mem_erase_of_ne→El,lookup→Em,length→Eo,map_congr_left→EG,getElem_of_mem→EH,lookup_append→EW,take_sublist→F6,reverse_cons→F7,filter_congr→F8,zipIdx_cons→Fj,range'_succ→Fk,getElem_inj→Fl,nil_append→Fy,find?_cons→Fz,count_cons→FA,filterMap→FK,drop_nil→G6,map_map→Gp
open PySem.Heap renaming get?_push_of_some→ς,get?_push_size→χ,lt_size→Τ,get?_update_other→ϑ,get?_none_of_le→Ϙ,get?_update_self→Ϧ,size_push→ϴ,SameBut→ú,MadeExcOf→DC,get?_update_ne→EJ,get?_push_at→Fc,ExtBut→GH
open PySem.W renaming Frag→υ,findIn→Ν,nsIn→Ϗ,keepIn→ϕ,emptyDict→ϙ,instObj→Ϣ,mroIn→ϥ,hasDictIn→ϰ,fnOf→ϵ,mg_of→Ù,codeIn→Ý,kia_one→ô,typeIn→þ,plainGet→Ė,callWith_K→ĭ,specialIn→İ,clsIn→Ĺ,handedIn→ŀ,cellsFrom_some→ŋ,makesIn→ō,methodCall_KW→Œ,lookIn→Š,plainGet_of→ū,plainOver→Ź,takesIn→CM,takerIn→CN,callWith_K0→E1,codeRec_of→Eg,OpenLaw→ET,tailIn→F3,kitOne→F4,WalkO→Fi
open Option renaming map_eq_some_iff→ψ,bind_eq_some_iff→ϓ,isSome_iff_exists→Ľ,getD_some→ń,getD_none→EU
open Nat renaming le_refl→ω,le_of_ble_eq_true→Ξ,le_trans→ϖ,ne_of_lt→ϝ,zero_le→Â,ne_of_gt→Ñ,lt_of_lt_of_le→á,le_succ→ê,le_of_lt→ą,sub_self→ė,length_repr_le_iff→Ę,le_succ_of_le→ę,lt_irrefl→ħ,min_self→į,succ_ne_self→œ,lt_succ_self→Ŕ,add_sub_cancel_left→ŕ,lt_of_succ_lt_succ→š,not_lt_zero→Ť,mul_le_mul_right→Ű,not_lt→C3,lt_trans→CQ,lt_succ_of_lt→CS,le_add_right→D9,add_mul→De,mul_le_mul→DJ,zero_add→Eh,add_comm→Ei,repr→ED,one_mul→EE,log2_lt→EF,le_of_not_lt→Fx,add_assoc→Gj,sub_zero→GG
open PySem.Calls renaming spliced_cons→Λ,spliced_nil→Ω,callWith_builtin→Ú,evalArgs_plain→è,Constant_str→ø,Name_function_global→Dx
open Bool renaming and_eq_true→Χ,false_ne_true→ϟ,false_eq_true→Ï,not_eq_true'→ł,or_false→Ň,or_eq_false_iff→ŭ,and_false→DD,true_and→DV,or_eq_true_iff→EL,eq_false_iff→Fd,false_and→FP,false_or→G9
open PySem.Value renaming none→ϗ,ref→Ϥ,bool→Ϫ,type→ċ,isStrOf→FG,builtin→FH,isInt→Gi
open PySem.Str renaming ofString→Ϝ,empty→ģ,length_append→CL,length→F2,cps_append→G4
open Ne renaming symm→Ϡ
open Option.some renaming inj→ϡ
open ForInStep renaming yield→ϫ
open PySem.Builtin.SmallTypes renaming nextOf→Ϻ,fitsIndex→È,ownedTupleIsFree→Î,ownedTupleHandOut→Ĵ
open PyProof.Rows.KTD renaming datumAt→Ó,tabLook→Df,kt_dictFind_strs→EI,TabOf→FC
open PySem.NameKind renaming free→Ø
open PyProof.Rows renaming slot_tuple_getitem→à,kindOf→ĸ,AllBare→Ŝ,Constant_none→Ţ,envOfC→ů,IntsAre→C9,boot_tuple→CO,boot_list→CU,boot_str→D7,boot_int→D8,Subscript_→Ef,tupleItemsOf_→Ew,FormattedValue_plain→FD,entry_tuple_getitem→FF,slot_tuple_getitem→FX,args_tuple_getitem→G3,firstMet→GY,boot_isinstance→GZ,boot_dict→H0,boot_bool→H3
open PySem.Heap.SameBut renaming update→ä
open PySem.Builtin.List renaming listExtendWith→ò,listSameRef→CJ,listItems→D0,listUpdate→H4,listTooLong→H5,listLengthHint→H6
open PySem.F renaming plain_max_loop→ö,slot_tuple_iterator_next→ć,slot_list_append→ĺ,args_tuple_add_2→Ļ,entry_tuple_add→Ł,slot_tuple_add→Ō,slot_zip_next→Ŭ,args_list_append_2→D6,entry_list_append→Dd,slot_tuple_index→Dt,slot_list_extend→Du,entry_max_loop→Dv,plainAttrs_list→Dy,args_tuple_iterator_next_1→DK,slot_dict_get→DP,entry_tuple_iterator_next→DU,args_zip_next_1→FN,entry_zip_next→G7,entry_zip_new→Gq
open PySem.Obj renaming mapSeq→û,data_mapFields→ü,isFreed_of_fields→ÿ,mapFields→Ħ,cls_mapFields→CP
open PySem.Builtin.Slice renaming slicePlaces→ý,sliceAdjust→ĥ,sliceApplied→ż,slicePartIndex→GL,sliceFields→GN
open PySem.Builtin.Tuple renaming tupleExact→ā,tupleItemsOf→ź,tupleIsExact→Ż
open Array renaming getElem?_eq_some_iff→Ă,length_toList→Ĉ,getElem?_eq_getElem→ļ,toList_append→Ep,toList→Ga
open Sum renaming inr→Č,inl→CK
open Int renaming emod_nonneg→č,emod_lt_of_pos→Ď,toNat_natCast→Ě,negSucc→ņ,le_refl→Ų,eq_ofNat_of_zero_le→E5,zero_add→Ek,natAbs_natCast→F9,natCast_add→FL
open PySem.Value.ref renaming inj→đ
open PySem.Txt renaming join→ĕ,slice→D5
open Sum.inr renaming inj→ĝ
open Nat.succ renaming inj→Ņ
open Prod renaming fst→Ŏ,snd→Dz
open PySem.Builtin.ObjectAttr renaming storeInDict→ő,newKeyGuard→Fm
open False renaming elim→Ŗ
open True renaming intro→Ś
open PySem.Shared renaming heap→ţ,TypeIs→Ft
open PySem.Around renaming under_plainId→Ŧ,under→DW
open PySem.Code renaming quiet_builtin→ž,isFrame→E7,frames→GK
open Std.Legacy.Range renaming size→C2,forIn_eq_forIn_range'→FJ
open And renaming right→Dc
open PySem.Heap.IsSliceOf renaming new→Dg
open PySem.Arg renaming arg→DE
open PySem.EntryCells renaming newEntry→DL
open PySem.Heap.DictOf renaming new→E6
open PySem.Walks renaming list→EA
open PySem.Builtin.BaseException renaming bexcPut→EK
open PySem.Builtin.Builtins renaming bindParams→FO
open PySem.W.Looks renaming here→GF
open PySem.Draws renaming list→GJ
open PySem.Builtin.Range renaming rangeSize→GP
open PySem.Builtin.Dict renaming pendingKey?→H7,missed→H8
open PySem PySem.Spec PyProof.Rows
set_option compiler.extract_closed false
noncomputable section
local macro_rules|`($d:declaration)=>do let r:=d.raw;let k:=r[1].getKind;if (k==`Lean.Parser.Command.definition||k==`Lean.Parser.Command.abbrev)&&r[0][4].getNumArgs==0 then return r.setArg 0 (r[0].setArg 4 (Lean.mkNullNode #[Lean.mkNode `Lean.Parser.Command.noncomputable #[Lean.mkAtom "noncomputable"]])) else Lean.Macro.throwUnsupported
set_option hygiene false
local macro_rules|`($a<|>$b)=>`(A $a $b)
abbrev Fg:=PySem.W.Frag
abbrev NK:=List (Str×NameKind)
abbrev ZZ:=@if_pos
abbrev ZY:=@if_neg
abbrev ZX:=@absurd
abbrev ZW:=@decide_eq_true
abbrev ZV:=@decide_eq_false
abbrev ZU:=@beq_eq_false_iff_ne
abbrev ZT:=@beq_self_eq_true
abbrev ZS:=@congrArg
set_option Elab.async false
set_option linter.all false
set_option maxRecDepth 100000
set_option maxHeartbeats 8000000
set_option Elab.async false
set_option linter.all false
set_option maxRecDepth 100000
namespace L2
abbrev Key:=Sum Int ι
def iJ:Key→ζ→Bool
 | .inl k,v=>Gi k v
 | .inr x,v=>FG x v
def Cg (w:Ü):Key→Int
 | .inl k=>hashInt k
 | .inr x=>hashStr w x
theorem aE:∀ {k} {v},iJ k v=true→(∃ i t,k=CK i∧v=Value.int i t)∨(∃ x t,k=Č x∧v=Value.str x t)
 | .inl i,v,h=>by
   obtain ⟨t,e⟩:=Value.isInt_shape (k:=i) (v:=v) h
   exact .inl ⟨i,t,rfl,e⟩
 | .inr x,v,h=>by
   obtain ⟨t,e⟩:=Value.isStrOf_shape (x:=x) (v:=v) h
   exact .inr ⟨x,t,rfl,e⟩
theorem pN (i) (t):iJ (.inl i) (.int i t)=true:=by simp [iJ,Gi]
theorem pO (x) (t):iJ (.inr x) (.str x t)=true:=by simp [iJ,FG]
theorem xI (a b):decide ((CK a:Key)=CK b)=(a == b):=by
 by_cases e:a=b
 ·subst e;simp
 ·have h:¬ (CK a:Key)=CK b:=fun q=>e (Sum.inl.inj q)
  rw [ZV h]
  exact (ZU.mpr e).symm
theorem xL (a b):decide ((Č a:Key)=Č b)=decide (a=b):=by
 by_cases e:a=b
 ·subst e;simp
 ·have h:¬ (Č a:Key)=Č b:=fun q=>e (ĝ q)
  rw [ZV h,ZV e]
theorem xJ (a) (b):decide ((CK a:Key)=Č b)=false:=ZV (fun q=>nomatch q)
theorem xK (a) (b):decide ((Č a:Key)=CK b)=false:=ZV (fun q=>nomatch q)
def bH (prog:ϸ) (w:Ü):PySem.KeyKind prog w Key where
 is:=iJ
 hash:=Cg w
 inj:=fun v a b ha hb=>by
  rcases aE ha with ⟨i,t,rfl,rfl⟩ | ⟨x,t,rfl,rfl⟩
  ·rcases aE hb with ⟨j,u,rfl,e⟩ | ⟨y,u,rfl,e⟩
   ·injection e with e1 _;rw [e1]
   ·exact nomatch e
  ·rcases aE hb with ⟨j,u,rfl,e⟩ | ⟨y,u,rfl,e⟩
   ·exact nomatch e
   ·injection e with e1 _;rw [e1]
 byValue:=fun k v h=>by
  rcases aE h with ⟨i,t,rfl,rfl⟩ | ⟨x,t,rfl,rfl⟩ <;> rfl
 pyHash:=fun hv h=>by
  rcases aE hv with ⟨i,t,rfl,rfl⟩ | ⟨x,t,rfl,rfl⟩
  ·exact wpAny_pyHash_int h
  ·exact DF h
 eqBool:=fun hu hv h=>by
  rcases aE hu with ⟨i,t,rfl,rfl⟩ | ⟨x,t,rfl,rfl⟩
  ·rcases aE hv with ⟨j,u,rfl,rfl⟩ | ⟨y,u,rfl,rfl⟩
   ·rw [xI] at h;exact wpAny_eqBool_int h
   ·rw [xJ] at h;exact SeqAt.EqAt.int_str i t y u _ _ _ _ h
  ·rcases aE hv with ⟨j,u,rfl,rfl⟩ | ⟨y,u,rfl,rfl⟩
   ·rw [xK] at h;exact SeqAt.EqAt.str_int x t j u _ _ _ _ h
   ·rw [xL] at h;exact wpAny_eqBool_str h
 «strs»:=fun k x t v h=>by
  rcases aE h with ⟨i,u,rfl,e⟩ | ⟨y,u,rfl,e⟩
  ·exact nomatch e
  ·injection e with e1 _
   subst e1
   cases v <;> rfl
theorem kR (prog) (w) (i) (t):(bH prog w).is (.inl i) (.int i t)=true:=pN i t
theorem kS (prog) (w) (x) (t):(bH prog w).is (.inr x) (.str x t)=true:=pO x t
end L2
namespace L2
structure Mod (K:υ) (mg:ι→Option ζ) (base:Ϸ):Prop where
 kin:K.In base
 glob:base.Ns ώ mg
 blt:∃ mb,base.Ns builtinsNs mb∧∀ x:ι,x≠"__name__"→mb x=Ģ x
 nolimit:base.NoLimit
def frs (l:List CT):List Δ:=l.filterMap (·.frame)
def Vis (sc:Ĝ) (x:ι):Prop:=sc.names.lookup x=some .local∨sc.names.lookup x=some .cell∨sc.names.lookup x=some .free
def Loc (sc:Ĝ) (x:ι):Prop:=sc.names.lookup x=some .local∨sc.names.lookup x=some .cell
def lS (env:CT) (h:Ϸ) (m:ι→Option ζ) (x:ι) (u:ζ):Prop:=
 (env.kindOf x=some .local∧m x=some u)∨((env.kindOf x=some .cell∨env.kindOf x=some .free)∧∃ c,env.cells.lookup x=some c∧h.IsCell c (some u))
section
variable {X:Cx} {pins:List (Δ×DQ)} {σ:List (Option V)} {H H':Hp} {s:π} {h':Ϸ}
theorem gH {N:List ι} (hN:N.Nodup) {i j:Nat} {x:ι} (a:N[i]? = some x) (b:N[j]? = some x):i=j:=by
 obtain ⟨h1,e1⟩:=τ.mp a
 obtain ⟨h2,e2⟩:=τ.mp b
 exact (Fl hN).mp (e1.trans e2.symm)
end
theorem thn (h:Β M A t Q E s) (hQ:∀ a s,Q a s→Q' a s):Β M A t Q' E s:=Υ h hQ fun _ _ x=>x
end L2
namespace L2
theorem ku (ho:s.heap.get? it=some o) (hc:o.cls = .type n) (hd:o.data = .fields vs)
 (hn:["enumerate","zip","dict_itemiterator","dict_reverseitemiterator","odict_iterator","itertools.zip_longest","itertools.pairwise"].contains n=false) (hQ:Q () s):Β M A (Ŷ tg (.ref it) u) Q E s:=by
 unfold Ŷ
 cases tg <;> first
  | exact θ hQ
  | (cases u <;> first
   | exact θ hQ
   | (refine ε (wpAny_load ho ?_)
      rw [hc,hd]
      show Β M A (if (["enumerate","zip","dict_itemiterator","dict_reverseitemiterator","odict_iterator","itertools.zip_longest","itertools.pairwise"].contains n && vs[0]? == some (Ö _))=true then _ else _) Q E s
      rw [ZY (by intro h;rw [hn,FP] at h;cases h)]
      exact θ hQ))
end L2
namespace L2
section
variable {X:Cx} {a b c:Μ} {ta tb tc:TE} {pos:ϭ}
def wI (i j:Int):Prop:=(-(2 ^ 64)<i∧i<2 ^ 64)∨(-(2 ^ 64)<j∧j<2 ^ 64)
theorem wI.ok (h:wI i j):IntMulOk i j:=by
 rcases h with ⟨h1,h2⟩ | ⟨h1,h2⟩
 ·exact .of_left (intBits_le_64 h1 h2)
 ·exact .of_right (intBits_le_64 h1 h2)
end
section
variable {X:Cx} {a b c:Μ} {ta tb tc:TE} {pos:ϭ}
theorem jA:(ϛ:Nat)<2 ^ 63:=by rw [Ċ];decide
end
end L2
namespace L2
structure lT (h:Ϸ) (x dx C:Δ) (mA:ι→Option ζ):Prop where
 obj:h.get? x=some (Ϣ C dx)
 ns:h.Ns1 dx mA
 ne:dx≠x
theorem iK {h:Ϸ} {dx:Δ} {mA:ι→Option ζ} (n:h.Ns1 dx mA):∃ od,h.get? dx=some od∧∀ name,Š name od=some (mA name):=by
 obtain ⟨o,es,ep,ho,hd,hk,_,hm⟩:=n
 refine ⟨o,ho,fun name=>?_⟩
 have e:=hm name
 unfold nsFind Eb at e
 rw [← Array.find?_toList] at e
 unfold Š
 rw [hd]
 dsimp only
 split
 ·rename_i y q
  rw [q] at e
  exact ZS some e
 ·rename_i q
  rw [q] at e
  have a:es.toList.any (·.refKey)=false:=by
   rw [List.any_eq_false]
   intro y hy
   obtain ⟨z,t,hkey⟩:=hk y (Array.mem_toList_iff.mp hy)
   simp [DictEntry.refKey,hkey]
  have a':¬ es.toList.any (·.refKey)=true:=by rw [a];exact ϟ
  rw [ZY a']
  exact ZS some e
theorem lT.look (I:lT h x dx C mA):∃ od,PySem.W.InstAt h x (Ϣ C dx) C (some od)∧∀ name,Š name od=some (mA name):=
 let ⟨od,ho,hl⟩:=iK I.ns
 ⟨od,⟨I.obj,rfl,rfl,ho⟩,hl⟩
section
variable {prog:ϸ} {w:Ü} {A:ϒ} {E:ζ→π→Prop} {s:π} {K:υ} {x dx C f:Δ} {mA:ι→Option ζ} {name:ι} {v:ζ}
theorem fz (X:K.In s.heap) (I:lT s.heap x dx C mA) (hg:Ė K C name=true) (hh:ϰ K C=true)
 (ha:Ν K (.ref C) name=some none) (hv:mA name=some v) (hv':ŀ v=true) (h:Q v { s with toks:=s.toks+1 }) :
 Β (model prog w) A (Dq (.ref x) name expr) Q E s:=by
 obtain ⟨od,J,hl⟩:=I.look
 exact PySem.W.get_value X J (ū hg).1 (PySem.W.findObj_own hh ha rfl (by rw [hl,hv])) hv' h
theorem qZ (X:K.In s.heap) (I:lT s.heap x dx C mA) (hg:Ė K C name=true)
 (hf:Ν K (.ref C) name=some (some (.ref f))) (ht:PySem.W.isFn K (.ref f)=true) (hv:mA name=none) (h:Q (.ref f,[.ref x]) s) :
 Β (model prog w) A (DI (.ref x) name pl) Q E s:=by
 obtain ⟨od,J,hl⟩:=I.look
 exact PySem.W.method_fn X J (ū hg).1 (ū hg).2 hf (beq_iff_eq.mp ht) (by show (Š name od).map (·.isSome)=some false;rw [hl,hv];rfl) h
theorem oR (X:K.In s.heap) (I:lT s.heap x dx C mA)
 (hs:Ν K (.ref C) "__setattr__" = some (some (.builtin "object.__setattr__"))) (hp:Ź K C=true) (ht:CN K C name=some none) (hh:ϰ K C=true)
 (hw:G5 mA ns) (hsz:ns.length≤ϛ)
 (h:∀ h',lT h' x dx C (fun y=>if y=name then some v else mA y)→ú dx s.heap h'→Q () { s with heap:=h',toks:=s.toks+2 }) :
 Β (model prog w) A (E0 (.ref x) name v) Q E s:=by
 obtain ⟨od,J,hl⟩:=I.look
 refine PySem.W.set_plain X J hs (PySem.W.osa_open (s:={ s with toks:=s.toks+1 }) (r:=none) X J hp ht fun b=>?_)
 obtain ⟨cd,hc,hd'⟩:=PySem.W.any_some hh
 have hx:s.heap.get? x=some ⟨.ref C,some dx,.plain,#[]⟩:=I.obj
 refine ε (θ (ε (ε (E9 hx (ε (GF (s:={ s with toks:=s.toks+1 }) (PySem.W.looks_clsIn X hc) ?_))))))
 rw [hd']
 refine θ (a:=some dx) (ε (θ (ε ?_)))
 refine wpAny_nsSet1 (s:={ s with toks:=s.toks+1 }) I.ns fun h' hn2 hs2=>?_
 obtain ⟨oD,esD,epD,hoD,hdD,hcD⟩:=hn2.count (PySem.Within.cons name v hw)
 refine ε (Gv hoD (by rw [hdD];exact Gz (ϖ hcD (by rw [Κ];omega))) ?_)
 exact θ (h _ ⟨(hs2.2 _ (Ϡ I.ne)).trans I.obj,hn2,I.ne⟩ hs2)
theorem kQ (X:K.In s.heap) (hm:ō K C=true)
 (hi:Ν K (.ref C) "__init__" = some (some (.ref f))) (hf:þ K (.ref f)=some (.type "function"))
 (h:Ŀ (model prog w) (A.under (.builtin "type.__call__" ⟨.ref C :: vs,kw⟩)) (.call (.ref f) ⟨.ref (s.heap.objs.size+1) :: vs,kw⟩) (PySem.W.InitBack (s.heap.objs.size+1) R)
  { s with heap:=(s.heap.push ϙ).push (Ϣ C s.heap.objs.size) }) :
 Ŀ (model prog w) A (.call (.ref C) ⟨vs,kw⟩) R s:=by
 obtain ⟨hh,g,d,t,os⟩:=s
 exact PySem.W.make_core (PySem.W.makes_of X hm) (PySem.W.looks_findIn X hi) (fun self=>PySem.W.bind_fn X self hf) (.inl rfl) h
end
structure Cls (K:υ) (C:Δ):Prop where
 pg:Ė K C ģ=true
 hd:ϰ K C=true
 po:Ź K C=true
 sa:Ν K (.ref C) "__setattr__" = some (some (.builtin "object.__setattr__"))
theorem Cls.get {K:υ} {C:Δ} (c:Cls K C) (f:ι):Ė K C f=true:=c.pg
def cy (K:υ) (C:Δ) (f:ι):Prop:=Ν K (.ref C) f=some none
theorem cy.taker {K:υ} {C:Δ} {f:ι} (n:cy K C f):CN K C f=some none:=by
 unfold CN
 rw [show Ν K (.ref C) f=some none from n]
 rfl
structure zA (K:υ) (C:Δ) (m:ι) (f:Δ):Prop where
 at_:Ν K (.ref C) m=some (some (.ref f))
 fn:PySem.W.isFn K (.ref f)=true
 kp:ϕ K (.ref f)=true
section
variable {X:Cx} {pins:List (Δ×DQ)} {σ:St} {H:Hp} {s:π} {a C dx:Δ} {fs:List (ι×V)} {f:ι} {v:V} {A:ϒ} {E:ζ→π→Prop}
theorem tO (hb:ď e f env (eval e env)=eval e env)
 (h:Β (model prog w) A (eval e env) (fun o s₁=>Β (model prog w) A (Dq o f true) Q E s₁) E s):Β (model prog w) A (eval (.Attribute e f pos) env) Q E s:=
 Attribute_any_ h (by rw [arm_eval_Attribute,hb])
end
end L2
namespace L2
structure ba (k:Nat) (A:ϒ):Prop where
 hd:A.handled=none
 dp:A.depth+k+5<recursionLimit
 un:A.units+16 * k+200<Ū
theorem ba.mono (r:ba k A) (h:j≤k):ba j A:=⟨r.hd,by have:=r.dp;omega,by have:=r.un;omega⟩
theorem ba.deeper (r:ba (k+1) A) (env):ba k (A.deeper env):=
 ⟨r.hd,by have:=r.dp;show A.depth+1+k+5<_;omega,by have:=r.un;show A.units+3+16 * k+200<_;omega⟩
theorem mD {A:ϒ} {C:Δ} {us:List ζ} {kw:List (ι×ζ)}:(A.under (.builtin "type.__call__" ⟨.ref C :: us,kw⟩)).depth=A.depth+1:=by
 first | rfl | simp [DW,Code.weight,Code.isCreation,Code.isGuard,Code.isCaller,GK,E7,guardIds]
theorem mE {A:ϒ} {C:Δ} {us:List ζ} {kw:List (ι×ζ)}:(A.under (.builtin "type.__call__" ⟨.ref C :: us,kw⟩)).units=A.units+1:=by
 first | rfl | simp [DW,Code.cUnits,GK,E7]
theorem ba.make (r:ba (k+1) A) (C) (us) (kw):ba k (A.under (.builtin "type.__call__" ⟨.ref C :: us,kw⟩)):=
 ⟨r.hd,by have:=r.dp;rw [mD];omega,by have:=r.un;rw [mE];omega⟩
theorem ba.depth (r:ba k A):A.depth<recursionLimit:=by have:=r.dp;omega
def bS (K:υ) (fd:Þ) (ps:List ι) (ds:List ζ):Prop:=
 ∀ (s:π) (us:List ζ),K.In s.heap→(us ++ ds).length=ps.length→Gs s fd ⟨us,[]⟩ (ps.zip (us ++ ds))
theorem bS.all {K:υ} {fd:Þ} {ps:List ι} (h:∀ us:List ζ,us.length=ps.length→bindArgs fd ⟨us,[]⟩=pure (ps.zip us)):bS K fd ps []:=fun s us _ hl=>by
 rw [ϧ] at hl ⊢
 exact .of_eq (h us hl)
section
variable {X:Cx} {CX:CXT} {k:Nat} {f C:Δ} {fd:Þ} {ps:List ι} {sp:Sp} {dvs:List V} {ds:List ζ} {E:XK} {x m:ι} {p pos apos:ϭ} {e o:Μ} {es:List Μ} {ta:TE} {t:TA}
structure Mk (K:υ) (C f:Δ):Prop where
 makes:ō K C=true
 init:Ν K (.ref C) "__init__" = some (some (.ref f))
 fn:PySem.W.isFn K (.ref f)=true
 kp:ϕ K (.ref C)=true
end
structure dg (N P:List ι) (sc:Ĝ):Prop where
 kind:sc.kind = .function
 co:sc.isCoroutine=false
 gen:sc.isGenerator=false
 nd:N.Nodup
 pre:N.take P.length=P
 par:∀ x∈P,sc.names.lookup x=some .local∨sc.names.lookup x=some .cell
 nofree:∀ y∈sc.names,y.2≠.free
theorem iB {ĸ:ι→Option Ζ} {x:ι}:∀ {binds:List (ι×ζ)} {m:ι→Option ζ},(∀ v,(x,v) ∉ binds)→EP ĸ binds m x=m x
 | [],_,_=>rfl
 | (n,v) :: r,m,h=>by
   unfold EP
   rw [iB fun w hw=>h w (μ _ hw)]
   split
   ·have:x≠n:=by rintro rfl;exact h v ν
    simp [this]
   ·rfl
theorem iz {ĸ:ι→Option Ζ} {x:ι}:∀ {binds:List (ι×ζ)} {m:ι→Option ζ},(∀ v,(x,v) ∉ binds)→ER ĸ binds m x=m x
 | [],_,_=>rfl
 | (n,v) :: r,m,h=>by
   unfold ER
   rw [iz fun w hw=>h w (μ _ hw)]
   split
   ·rfl
   ·have:x≠n:=by rintro rfl;exact h v ν
    simp [this]
theorem iA {ĸ:ι→Option Ζ} {x:ι} {v:ζ}:∀ {P:List ι} {vs:List ζ} {i:Nat} {m:ι→Option ζ},P.Nodup→P[i]? = some x→vs[i]? = some v→ĸ x=some .local →
 EP ĸ (P.zip vs) m x=some v
 | [],_,_,_,_,h,_,_=>by simp at h
 | _ :: _,[],_,_,_,_,h,_=>by simp at h
 | p :: P,w :: vs,0,m,nd,h1,h2,hk=>by
   simp at h1 h2;subst h1;subst h2
   show EP ĸ ((p,w) :: P.zip vs) m p=_
   unfold EP
   rw [iB fun v hv=>(Ϟ.mp nd).1 (Ī hv).1,ZZ hk]
   simp
 | p :: P,w :: vs,i+1,m,nd,h1,h2,hk=>by
   show EP ĸ ((p,w) :: P.zip vs) m x=_
   unfold EP
   exact iA (i:=i) (Ϟ.mp nd).2 (by simpa using h1) (by simpa using h2) hk
theorem iw {ĸ:ι→Option Ζ} {x:ι} {v:ζ}:∀ {P:List ι} {vs:List ζ} {i:Nat} {m:ι→Option ζ},P.Nodup→P[i]? = some x→vs[i]? = some v→ĸ x≠some .local →
 ER ĸ (P.zip vs) m x=some v
 | [],_,_,_,_,h,_,_=>by simp at h
 | _ :: _,[],_,_,_,_,h,_=>by simp at h
 | p :: P,w :: vs,0,m,nd,h1,h2,hk=>by
   simp at h1 h2;subst h1;subst h2
   show ER ĸ ((p,w) :: P.zip vs) m p=_
   unfold ER
   rw [iz fun v hv=>(Ϟ.mp nd).1 (Ī hv).1,ZY hk]
   simp
 | p :: P,w :: vs,i+1,m,nd,h1,h2,hk=>by
   show ER ĸ ((p,w) :: P.zip vs) m x=_
   unfold ER
   exact iw (i:=i) (Ϟ.mp nd).2 (by simpa using h1) (by simpa using h2) hk
theorem j9 {sc:Ĝ} {n:Nat} {x:ι} (h:sc.names.lookup x=some .cell):∃ c,(EO n sc.names []).lookup x=some c:=by
 have q:=ŋ sc.names n [] (.inl h)
 exact Ľ.mp q
end L2
namespace HT
open PySem PyProof.Rows
section
variable {prog:ϸ} {w:Ü} {A:ϒ} {E:ζ→π→Prop} {s:π}
theorem cat_tup (ht:IsTup s.heap t vs.toArray) (hb:IsTup s.heap b ws.toArray) (hv:vs≠[])
 (h1:ws = []→Q (.ref t) s) (h2:ws≠[]→Q (.ref s.heap.objs.size) { s with heap:=s.heap.push { cls:=.type "tuple",data:=.seq (vs ++ ws).toArray } })
 (hsz:vs.length+ws.length≤ϛ):Β (model prog w) A (ŉ .Add (.ref t) (.ref b)) Q E s:=by
 obtain ⟨⟨cls,dd,data,sl⟩,ho,hc,n,hd⟩:=id ht
 obtain ⟨⟨cls2,dd2,data2,sl2⟩,ho2,hc2,n2,hd2⟩:=id hb
 simp only at hc hd hc2 hd2
 subst hc hd hc2 hd2
 have e:vs.toArray ++ ws.toArray=(vs ++ ws).toArray:=by simp
 by_cases hw:ws = []
 ·exact F0 ⟨_,ho,rfl⟩ ⟨_,ho2,rfl⟩ DH Ey Ō Ł (Ļ _ _)
   (tuple_addW1 t b vs.toArray ws.toArray n n2 dd dd2 sl sl2 (by simpa using hv) (by simp [hw])) ⟨ho,ho2,h1 hw⟩
 ·refine F0 ⟨_,ho,rfl⟩ ⟨_,ho2,rfl⟩ DH Ey Ō Ł (Ļ _ _)
   (tuple_addW2 t b vs.toArray ws.toArray n n2 dd dd2 sl sl2 (by simpa using hv) (by simpa using hw) (by rw [Ο,Ο];exact hsz)) ⟨ho,ho2,?_⟩
  rw [e]
  exact h2 hw
def sIx (n d:Nat):Option Int→Nat
 | none=>d
 | some v=>if v<0 then (v+(n:Int)).toNat else min v.toNat n
theorem zj (n d) (hd:d≤n) (o):sIx n d o≤n:=by
 cases o with
 | none=>exact hd
 | some v=>
   show (if v<0 then (v+(n:Int)).toNat else min v.toNat n)≤n
   by_cases hv:v<0
   ·rw [ZZ hv];omega
   ·rw [ZY hv];exact Nat.min_le_right _ _
theorem nq (v:Int) (n d:Nat):(if v<0 then max (v+(n:Int)) 0 else min v (n:Int))=((sIx n d (some v):Nat):Int):=by
 show (if v<0 then max (v+(n:Int)) 0 else min v (n:Int))=(((if v<0 then (v+(n:Int)).toNat else min v.toNat n):Nat):Int)
 by_cases hv:v<0
 ·simp only [ZZ hv];omega
 ·simp only [ZY hv];omega
theorem lW (lo hi:Option Int) (n:Nat):ĥ lo hi 1 (n:Int)=(((sIx n 0 lo:Nat):Int),((sIx n n hi:Nat):Int)):=by
 have h1:¬ ((1:Int)<0):=by omega
 unfold ĥ
 simp only [h1,if_false]
 refine Prod.ext ?_ ?_
 ·cases lo with
  | none=>rfl
  | some v=>exact nq v n 0
 ·cases hi with
  | none=>rfl
  | some v=>exact nq v n n
theorem mK (i j:Nat):ý (i:Int) (j:Int) 1=j - i:=by
 unfold ý
 have h1:(1:Int)>0:=by omega
 simp only [h1,if_true,Int.ediv_one]
 split <;> omega
theorem gO (p:C5 v o) (h:Q o s):Β (model prog w) A (GL v) Q E s:=by
 cases p with
 | none=>exact slicePart_none h
 | int i t=>exact slicePart_int h
theorem cJ {sl:Δ} {vl vu:ζ} {lo hi:Option Int} {n:Nat} {Q:Int×Int×Nat→π→Prop} (hs:s.heap.IsSliceOf sl vl vu .none) (pl:C5 vl lo) (pu:C5 vu hi)
 (h:Q (((sIx n 0 lo:Nat):Int),1,sIx n n hi - sIx n 0 lo) s):Β (model prog w) A (ż (.ref sl) (pure (n:Int))) Q E s:=by
 obtain ⟨os,hos,hcs,hds⟩:=id hs
 unfold ż GN
 refine ε (ε (Ϛ hos hds (x:=vl) rfl (ε (Ϛ hos hds (x:=vu) rfl (ε (Ϛ hos hds (x:=.none) rfl (θ ?_)))))))
 refine ε (slicePart_none ?_)
 show Β _ _ (if ((1:Int) == 0)=true then _ else _) _ _ s
 rw [ZY (by decide)]
 refine ε (gO pl (ε (gO pu (ε (θ ?_)))))
 show Β _ _ (match ĥ lo hi 1 (n:Int) with | (lo,hi)=>pure (lo,(1:Int),ý lo hi 1)) _ _ s
 rw [lW lo hi n]
 show Β _ _ (pure (((sIx n 0 lo:Nat):Int),(1:Int),ý ((sIx n 0 lo:Nat):Int) ((sIx n n hi:Nat):Int) 1)) _ _ s
 rw [mK]
 exact θ h
theorem sE (xs:Array ζ) (i k:Nat):((ë k).filterMap fun (m:Nat)=>xs[((i:Int)+(m:Int) * 1).toNat]?).toArray=((xs.toList.drop i).take k).toArray:=by
 have e:(fun (m:Nat)=>xs[((i:Int)+(m:Int) * 1).toNat]?)=fun m=>xs[i+m]?:=by
  funext m
  have:((i:Int)+(m:Int) * 1).toNat=i+m:=by omega
  rw [this]
 rw [e]
 have:=pick_run xs i k
 rw [List.filterMap_map] at this
 have e2:((fun x=>xs[x]?) ∘ fun x=>i+x)=fun m=>xs[i+m]?:=rfl
 rw [e2] at this
 rw [this]
theorem getItem_tuple_cut {t sl:Δ} {items:Array ζ} {vl vu:ζ} {lo hi:Option Int} {Q:ζ→π→Prop} (ht:IsTup s.heap t items) (hs:s.heap.IsSliceOf sl vl vu .none) (pl:C5 vl lo) (pu:C5 vu hi)
 (hw:¬ (sIx items.size 0 lo=0∧sIx items.size items.size hi=items.size))
 (h:Q (.ref s.heap.objs.size) { s with heap:=s.heap.push { cls:=.type "tuple",data:=.seq ((items.toList.drop (sIx items.size 0 lo)).take (sIx items.size items.size hi - sIx items.size 0 lo)).toArray } })
 (hsz:items.size≤ϛ):Β (model prog w) A (Dp (.ref t) (.ref sl)) Q E s:=by
 have htake:sizeOk (.seq ((items.toList.drop (sIx items.size 0 lo)).take (sIx items.size items.size hi - sIx items.size 0 lo)).toArray):=by
  show ((items.toList.drop (sIx items.size 0 lo)).take (sIx items.size items.size hi - sIx items.size 0 lo)).toArray.size≤ϛ
  rw [Ο,CW,CY,Ĉ]
  omega
 have hj:sIx items.size items.size hi≤items.size:=zj _ _ (ω _) hi
 obtain ⟨os,hos,hcs,hds⟩:=id hs
 have hTs:s.TypeIs (.ref sl) "slice":=⟨os,hos,hcs⟩
 unfold Dp
 try with_reducible refine ό ?_
 first | refine ε (θ ?_) | skip
 refine ε (Di ht.typeIs (by decide) ?_)
 refine ε (Ã (name:=Ϝ "__getitem__") ht.typeIs à
  (Ò à ht.typeIs FF ?_ (G3 _ _)))
 show Β _ _ (ź (.ref t) >>= _) _ _ s
 refine ε (Ew ht ?_)
 refine ε (Dh hTs ?_)
 rw [ZZ (by decide)]
 refine ε (cJ hs pl pu ?_)
 have hno:¬ ((((sIx items.size 0 lo:Nat):Int) == 0 && (1:Int) == 1 && (sIx items.size items.size hi - sIx items.size 0 lo) == items.size)=true):=by
  intro q
  rw [Χ,Χ] at q
  have q1:((sIx items.size 0 lo:Nat):Int)=0:=eq_of_beq q.1.1
  have q2:sIx items.size items.size hi - sIx items.size 0 lo=items.size:=eq_of_beq q.2
  exact hw ⟨by omega,by omega⟩
 show Β _ _ (if (((sIx items.size 0 lo:Nat):Int) == 0 && (1:Int) == 1 && (sIx items.size items.size hi - sIx items.size 0 lo) == items.size)=true then _ else _) _ _ s
 rw [ZY hno,sE]
 first
  | exact ε (m:=ā _) (Ì (θ ⟨_,rfl,θ h⟩) htake)
  | exact ε (m:=ā _) (Ì (ε (θ (θ ⟨_,rfl,θ h⟩))) htake)
  | exact ε (ε (m:=ā _) (Ì (θ (θ ⟨_,rfl,θ h⟩)) htake))
  | exact ε (ε (m:=ā _) (Ì (θ ⟨_,rfl,θ h⟩) htake))
end
end HT
namespace L2
def ixN (n:Nat) (i:Int):Option Nat:=if 0≤i then (if i<n then some i.toNat else none) else if -(n:Int)≤i then some (i+n).toNat else none
def atI {α:Type} (xs:List α) (i:Int):Option α:=(ixN xs.length i).bind fun j=>xs[j]?
theorem nP (h:ixN n i=some j):seqIndex? i n=some j∧j<n∧-(n:Int)≤i∧i<n:=by
 unfold ixN at h
 by_cases h0:0≤i
 ·rw [ZZ h0] at h
  by_cases h1:i<n
  ·rw [ZZ h1] at h
   have e:i.toNat=j:=ϡ h
   exact ⟨by rw [Fq h0 h1,e],by omega,by omega,h1⟩
  ·rw [ZY h1] at h;cases h
 ·rw [ZY h0] at h
  by_cases h1:-(n:Int)≤i
  ·rw [ZZ h1] at h
   have e:(i+n).toNat=j:=ϡ h
   exact ⟨by rw [EZ (by omega) h1,e],by omega,h1,by omega⟩
  ·rw [ZY h1] at h;cases h
theorem iX (h:atI xs i=some v):∃ j,seqIndex? i xs.length=some j∧xs[j]? = some v∧j<xs.length∧-(xs.length:Int)≤i∧i<xs.length:=by
 unfold atI at h
 cases e:ixN xs.length i with
 | none=>rw [e] at h;cases h
 | some j=>
   rw [e] at h
   obtain ⟨h1,h2,h3,h4⟩:=nP e
   exact ⟨j,h1,h,h2,h3,h4⟩
theorem cn {α:Type} {xs:List α} {j:Nat} {v:α} (h:xs[j]? = some v):atI xs (j:Int)=some v:=by
 have hj:j<xs.length:=(τ.mp h).1
 have e:ixN xs.length (j:Int)=some j:=by
  unfold ixN
  rw [ZZ (by omega),ZZ (by omega)];simp
 unfold atI;rw [e];exact h
section
variable {X:Cx} {a b:Μ} {ta tb:TE} {pos:ϭ}
theorem jV (lo hi) (n):(Ä lo hi none n).1=((HT.sIx n 0 lo:Nat):Int)∧(Ä lo hi none n).2.1=((HT.sIx n n hi:Nat):Int)∧(Ä lo hi none n).2.2=1:=by
 refine ⟨?_,?_,rfl⟩
 ·cases lo with
  | none=>simp [Ä,HT.sIx]
  | some i=>
    simp only [Ä,HT.sIx,EU,show (1:Int)>0 by decide,if_true]
    by_cases h:i<0
    ·simp only [h,if_true] <;> omega
    ·simp only [h,if_false] <;> omega
 ·cases hi with
  | none=>simp [Ä,HT.sIx]
  | some i=>
    simp only [Ä,HT.sIx,EU,show (1:Int)>0 by decide,if_true]
    by_cases h:i<0
    ·simp only [h,if_true] <;> omega
    ·simp only [h,if_false] <;> omega
theorem ip (its:List ζ) (lo hi:Option Int):EM its.toArray lo hi none=((its.drop (HT.sIx its.length 0 lo)).take (HT.sIx its.length its.length hi - HT.sIx its.length 0 lo)).toArray:=by
 obtain ⟨h1,h2,h3⟩:=jV lo hi its.toArray.size
 unfold EM
 rw [h1,h2,h3]
 simp only [sliceRange_one,pick_run,Ο] <;> rfl
variable {o e:Μ} {es:List Μ} {to:TE} {t:TA} {name:ι} {apos cpos:ϭ} {T id:String} {r:V→List V→Hp→VK→Prop}
end
end L2
namespace Att
open PySem PySem.W PySem.Calls PyProof.Rows
theorem fe :∀ (ns) (vs),WellAll P h vs (ns.map WData.int)→C9 vs ns:=by
 intro ns
 induction ns with
 | nil=>
   intro vs w
   rw [E2] at w
   cases w
   exact .nil
 | cons n ns ih=>
   intro vs w
   rw [Ϲ] at w
   cases w with
   | cons a b=>
     cases a
     exact .cons _ _ (ih _ b)
theorem p8 {l:OpenLaw} {n:Nat} (hn:l.most=some n) {P:Params} {h:Ϸ} {args:List WData} {vals:List ζ}
 (hpre:l.row.toRowW.claim.pre args=true) (hwl:WellAll P h vals args) :
 ∃ a vs ns,vals = [Ϥ a]∧args = [WData.list (ns.map WData.int)]∧h.get? a=some { cls:=.type "list",data:=.seq vs.toArray }∧C9 vs ns∧ns.length≤n:=by
 have hsh:WShape.hasAll [] args [.list .int]=true:=(pre_splitW hpre).1
 have hc:l.pre.holds [] { args:=args }=true:=(pre_splitW hpre).2
 obtain ⟨d,r,rfl,h1,h2⟩:=hasAllW_cons hsh
 obtain rfl:=hasAllW_nil h2
 obtain ⟨xs,rfl,h3⟩:=hasW_list h1
 obtain ⟨ns,rfl⟩:=items_int h3
 have hlen:ns.length≤n:=by
  unfold OpenLaw.pre at hc
  have h4:(WTm.not (.lt (.lit (.int (n:Int))) (.len (.arg 0)))).holds [] { args:=[.list (ns.map .int)] }=true:=by
   have h4:=(holds_andW hc).1
   rw [hn] at h4
   exact h4
  have h5:=condW_of h4 (w_not (w_lt w_lit (w_len_list (w_arg rfl))))
  rw [Ι] at h5
  refine Fx fun q=>?_
  have q':(n:Int)<((ns.length:Nat):Int):=by omega
  first
   | (rw [ZW q'] at h5;exact ZX h5 (by decide))
   | (simp at h5;omega)
 cases hwl with
 | cons w1 w2=>
   cases w2
   cases w1 with
   | list ho hall=>exact ⟨_,_,ns,rfl,rfl,ho,fe ns _ hall,hlen⟩
theorem pV (l:OpenLaw) (args:List WData):l.row.toRowW.claim.post args (.bool true) args=true:=
 postW_of (r:=l.row.toRowW) (X:=(true == true))
  (show WShape.has [] (.bool true) .bool=true by first | rfl | decide | simp [WShape.has,WShape.arms,WShape.armsAll])
  (show (WTm.eq .res (.lit (.bool true))).value [] { args:=args,res:=some (.bool true),after:=args }=some (.bool (true == true)) from w_eq_bool (w_res rfl) w_lit) rfl
theorem attach_call {l:OpenLaw} {n:Nat} {q:ϸ} {loose:List ι} {XP:(ι→Option ζ)→Ϸ→Prop} {YP:Ü→Ϸ→Prop} {d:DefRec}
 (hn:l.most=some n) (hdf:d.params.defaults = [])
 (call:∀ (w:Ü) (s₀ s₁:π) (mg mb:ι→Option ζ) (fa:Δ) (o:DQ) (pm cd doc:ζ) (a:Δ) (vs:List ζ) (ns:List Int),
  Ground q loose [] XP w s₀ mg mb s₁.heap→YP w s₁.heap →
  s₁.heap.get? fa=some o→o.data = .func (docDef d.name d.params d.body d.scope pm cd doc)→s₁.heap.CodeRec cd d.name→mg d.name=some (.ref fa) →
  s₁.heap.get? a=some { cls:=.type "list",data:=.seq vs.toArray }→C9 vs ns→ns.length≤n→s₁.gens = #[] →
  Ŀ (model l.prog w) ř (.call (.ref fa) ⟨[.ref a],[]⟩) (fun r s'=>r = .ok (.ret (.bool true))∧OldK s₁.heap s'.heap∧s'.os=s₁.os∧Ŝ s'.gens) s₁) :
 WalkO q loose XP YP l.row.toRowW d [] (fun f vs=>EC f vs):=by
 intro w s₀ s₁ mg mb G Y fa o pm cd doc dV kV ho hd hcd hD hmg hg args vals as hpre hlay hrd hwl hlo
 obtain rfl:dV = .none:=Dflts.none hD hdf
 obtain rfl:kV = .none:=Dflts.noKw hD
 obtain ⟨a,vs,ns,rfl,rfl,hobj,hints,hlen⟩:=p8 hn hpre hwl
 refine enter_call (ì (call w s₀ s₁ mg mb fa o pm cd doc a vs ns G Y ho (fd_plain hd) hcd hmg hobj hints hlen hg) fun r s' hq=>?_)
 obtain ⟨rfl,h2,h3,h4⟩:=hq
 exact ⟨.inl ⟨.bool true,.bool true,[],rfl,fun _=>rfl,.bool true,pV l _,fun _=>⟨List.Pairwise.nil,fun _ hm=>(nomatch hm)⟩⟩,h2,h3,h4⟩
end Att
namespace L2
def aJ (s:Ô):DM:=match s with
 | .FunctionDef _ a _ _ _ _ _ _ _ _=>a
 | _=>{ posonlyargs:=[],args:=[],vararg:=none,kwonlyargs:=[],kw_defaults:=[],kwarg:=none,defaults:=[] }
def bF (s:Ô):List Ô:=match s with
 | .FunctionDef _ _ b _ _ _ _ _ _ _=>b
 | _=>[]
def aw (s:Ô):Ĝ:=match s with
 | .FunctionDef _ _ _ _ _ _ sc _ _ _=>sc
 | _=>{ kind:=.function,names:=[],isGenerator:=false,isCoroutine:=false }
structure Fun (K:υ) (x qual:ι) (st:Ô) (f:Δ) (fd:Þ):Prop where
 ex:∃ (oc:ζ) (od:Option Δ) (kV doc pm:ζ) (an:Option Δ) (cdv ct:ζ) (osl:Array (Option ζ)),
  fd=ϵ x qual (aJ st) (bF st) (aw st) .none kV doc pm an cdv ct∧K.lookup f=some ⟨oc,od,.func fd,osl⟩∧Ý K cdv qual=true
 kp:ϕ K (.ref f)=true
section
variable {P:ϸ} {w:Ü} {K:υ} {mg:ι→Option ζ} {base:Ϸ}
theorem Fun.binds {x qual:ι} {st:Ô} {f:Δ} {fd:Þ} {ps:List ι} (F:Fun K x qual st f fd)
 (h:∀ (kV doc pm:ζ) (an:Option Δ) (cdv ct:ζ) (us:List ζ),us.length=ps.length→bindArgs (ϵ x qual (aJ st) (bF st) (aw st) .none kV doc pm an cdv ct) ⟨us,[]⟩=pure (ps.zip us)):bS K fd ps []:=by
 obtain ⟨oc,od,kV,doc,pm,an,cdv,ct,osl,rfl,lk,hcd⟩:=F.ex
 exact .all (h kV doc pm an cdv ct)
theorem mh {x qual:ι} {st:Ô} {f:Δ} {oc:ζ} {od an:Option Δ} {osl:Array (Option ζ)} {kV doc pm cdv ct:ζ} (l:K.lookup f=some ⟨oc,od,.func (ϵ x qual (aJ st) (bF st) (aw st) .none kV doc pm an cdv ct),osl⟩)
 (c:Ý K cdv qual=true) (k:ϕ K (.ref f)=true):Fun K x qual st f (ϵ x qual (aJ st) (bF st) (aw st) .none kV doc pm an cdv ct):=⟨⟨oc,od,kV,doc,pm,an,cdv,ct,osl,rfl,l,c⟩,k⟩
end
end L2
section
namespace L2.Bk
open PySem
inductive Dk where
 | non
 | int (i:Int)
 | bl (b:Bool)
 | str (x:ι)
 | tup (xs:List Dk)
def sumI:List Int→Int
 | []=>0
 | x :: r=>x+sumI r
end L2.Bk
namespace L2.Bw
def maxD (d:Int):List Int→Int
 | []=>d
 | x :: r=>r.foldl (fun a b=>if b>a then b else a) x
end L2.Bw
namespace L2.Ev
inductive D where
 | non | bl (b:Bool) | int (i:Int) | str (x:ι) | tup (l:List D) | lst (l:List D) | dic (k:List Key) (l:List D) | ins (c:Nat) (l:List D) | ref (n:Nat)
inductive O where
 | lst (l:List D) | dic (k:List Key) (l:List D) | ins (c:Nat) (l:List D)
inductive Op where
 | add | sub | mul | fdiv | mod | pow | shl | shr | band | bxor | eq | ne | lt | le | gt | ge | isin | notin | eq2
 deriving DecidableEq
inductive Bi where
 | len | tuple | list | all | max0 | sum | abs | str | int | range1 | range2 | zip2 | zip3 | enum | enum2 | rev | dict | max2 | min2 | isTup | isStr | isInt | isBool | isLst | isDic | isVal | setl
 deriving DecidableEq
inductive E where
 | v (i:Nat) | c (d:D) | g (j:Nat) | op (o:Op) (a b:E) | isN (a:E) | isNN (a:E) | neg (a:E) | not (a:E) | and (a b:E) | or (a b:E) | ite (c a b:E)
 | chain (o p:Op) (a b c:E)
 | ix (a b:E) | sl (a lo hi:E) | fld (a:E) (f:Nat) | tup (es:E) | lst (es:E) | dic (es:E) | nil | cons (a es:E)
 | call (j:Nat) (es:E) | hcall (j:Nat) (es:E) | mth (c j:Nat) (a es:E) | new (j:Nat) (es:E) | bi (b:Bi) (es:E) | join (x:ι) (a:E) | get (a b c:E) | index (a b:E) | isX (a:E) (js:List Nat)
 | lc (t:List Nat) (one:Bool) (it elt cond:E)
 | tab (j:Nat) (e:E) | tabin (j:Nat) (e:E)
 | newl (es:E) | keep (kp:List Nat) (a:E) | sto (a:E) | fcall (own:Bool) (j:Nat) (es:E)
 | sl3 (a lo st:E) | tget (j:Nat) (e d:E) | newd (j:Nat) (es:E) | fmt (x:ι) (a:E) (y:ι) | dicc (ks:List ι) (es:E)
 | tand (a b:E) | tor (a b:E) | tnot (a:E) | tv (a:E) | it (b:Bi) (es:E) | itv (a:E)
inductive S where
 | skip | seq (a b:S) | set (i:Nat) (e:E) | setT (l:List Nat) (e:E) | setR (i:Nat) (es:E) | ret (e:E) | ifs (c:E) (a b:S) | drop (e:E)
 | app (i:Nat) (e:E) | ext (i:Nat) (e:E) | put (a b e:E) | fld (a:E) (f:Nat) (e:E) | aug (a:E) (f:Nat) (o:Op) (e:E) | fapp (a:E) (f:Nat) (e:E)
 | for_ (t:List Nat) (one:Bool) (it:E) (b:S) | whl (c:E) (b:S) | rais (j:Nat) (es:E) | try_ (a:S) (hs:S) | hand (j:Nat) (i:Option Nat) (b rest:S)
def fl:D→Bool
 | .non=>true | .bl _=>true | .int _=>true | .str _=>true | _=>false
def eqf:D→D→Bool
 | .non,.non=>true
 | .bl a,.bl b=>a == b
 | .bl a,.int b=>(if a then 1 else 0) == b
 | .int a,.int b=>a == b
 | .int a,.bl b=>a == (if b then 1 else 0)
 | .str a,.str b=>a == b
 | _,_=>false
def sh:D→Nat
 | .non=>0 | .bl _=>0 | .int _=>0 | .str _=>0 | .tup _=>1 | .lst _=>2 | _=>3
def eq0 (d e:D):Option Bool:=
 if sh d=3∨sh e=3 then none else if sh d=0∧sh e=0 then some (eqf d e) else if sh d=sh e then none else some false
def cP (f:D→D→Option Bool):List D→List D→Option Bool
 | d :: a,e :: b=>(match f d e with | none=>none | some x=>(cP f a b).map (x && ·))
 | _,_=>some true
def eqv:Nat→D→D→Option Bool
 | 0,d,e=>eq0 d e
 | n+1,.tup a,.tup b=>(cP (eqv n) a b).map (· && a.length == b.length)
 | n+1,.lst a,.lst b=>if a.length=b.length then cP (eqv n) a b else some false
 | _+1,d,e=>eq0 d e
end L2.Ev
namespace L2.Ev
structure Fn where
 np:Nat
 ns:Nat
 body:S
 df:List D
structure Cl where
 what:Nat
 at_:List Nat
 init:Nat
 me:List (Nat×Nat)
 sup:List Nat
 chk:List Nat:=[]
def toD:L2.Bk.Dk→D
 | .non=>.non
 | .int i=>.int i
 | .bl b=>.bl b
 | .str x=>.str x
 | .tup l=>.tup (toDs l)
where toDs:List L2.Bk.Dk→List D
 | []=>[]
 | d :: r=>toD d :: toDs r
structure Gm where
 gl:List L2.Bk.Dk
 tb:List (List (ι×L2.Bk.Dk))
 fn:List Fn
 cl:List Cl
structure Sta where
 env:List (Option D)
 ow:List Nat
 st:List O
inductive Out (α:Type) where
 | ok (a:α) (s:Sta) | exc (c:Nat) (l:List D) (s:Sta) | bad
inductive Res where
 | ok (d:D) (st:List O) | exc (c:Nat) (l:List D) (st:List O) | bad
inductive av where
 | nx (s:Sta) | rt (d:D) (s:Sta) | exc (c:Nat) (l:List D) (s:Sta) | bad
def Out.bind {α β:Type} (x:Out α) (f:α→Sta→Out β):Out β:=match x with
 | .ok a s=>f a s
 | .exc c l s=>.exc c l s
 | .bad=>.bad
def Out.of {α:Type} (s:Sta):Option α→Out α
 | some a=>.ok a s
 | none=>.bad
def Out.go {α:Type} (x:Out α) (f:α→Sta→av):av:=match x with
 | .ok a s=>f a s
 | .exc c l s=>.exc c l s
 | .bad=>.bad
def av.go (x:av) (f:Sta→av):av:=match x with
 | .nx s=>f s
 | y=>y
def kE:D→Bool
 | .non=>true | _=>false
def un (s:Sta) (i:Nat):Sta:=⟨s.env,s.ow.filter (· != i),s.st⟩
def look (st:List O):D→D
 | .ref n=>(match st[n]? with | some (.lst l)=>.lst l | some (.dic k l)=>.dic k l | _=>.ref n)
 | d=>d
def bM:D→Option Key
 | .int i=>some (.inl i)
 | .str x=>some (.inr x)
 | _=>none
def bW:List Key→List D→Key→Option D
 | k :: ks,d :: ds,x=>if k=x then some d else bW ks ds x
 | _,_,_=>none
def fj:List Key→List D→Key→D→List D
 | k :: ks,d :: ds,x,e=>(if k=x then e else d) :: fj ks ds x e
 | _,ds,_,_=>ds
def bE (ks:List Key) (ds:List D) (x:Key) (e:D):List Key×List D:=if ks.any (fun k=>decide (k=x))=true then (ks,fj ks ds x e) else (ks ++ [x],ds ++ [e])
def inD (d:D):List D→Option Bool
 | []=>some false
 | e :: r=>match eqv 55 e d with | none=>none | some b=>(inD d r).map (b || ·)
def fb (n:Nat) (d:D):Option D:=if n≤100000 then some d else none
def opI (o:Op) (i j:Int):Option D:=match o with
 | .add=>some (.int (i+j))
 | .sub=>some (.int (i - j))
 | .mul=>if ((-(2 ^ 64)<i∧i<2 ^ 64)∨(-(2 ^ 64)<j∧j<2 ^ 64))∨(i.natAbs<2 ^ 400∧j.natAbs<2 ^ 400) then some (.int (i * j)) else none
 | .fdiv=>if 0<j∧j<2 ^ 200 then some (.int (i / j)) else none
 | .mod=>if 0<j then some (.int (i % j)) else none
 | .pow=>if 0≤j∧j≤1000000∧i.natAbs<2 ^ 64 then some (.int (i ^ j.toNat)) else none
 | .shl=>if 0≤j∧j≤1000000∧i.natAbs<2 ^ 64 then some (.int (i * 2 ^ j.toNat)) else none
 | .shr=>if 0≤j then some (.int (i / 2 ^ j.toNat)) else none
 | .band=>some (.int (Builtin.bitAnd i j))
 | .bxor=>some (.int (Builtin.bitXor i j))
 | .lt=>some (.bl (decide (i<j)))
 | .le=>some (.bl (decide (i≤j)))
 | .gt=>some (.bl (decide (j<i)))
 | .ge=>some (.bl (decide (j≤i)))
 | _=>none
def re (ls:List Key) (es:List D):List Key→List D→Option Bool
 | k :: ks,d :: ds=>(match bW ls es k with | none=>some false | some e=>(match eqv 55 d e with | none=>none | some x=>(re ls es ks ds).map (x && ·)))
 | _,_=>some true
def eqT (a b:D):Option Bool:=match a,b with
 | .dic ks ds,.dic ls es=>if ks.length=ls.length then re ls es ks ds else some false
 | a,b=>eqv 55 a b
def Ah:List D→List D→Bool
 | [],[]=>true
 | d :: l,e :: m=>eqT d e == some true && Ah l m
 | _,_=>false
def B8 (a b:D):Option D:=match a,b with
 | .tup l,.tup m=>if Ah l m then some (.bl true) else none
 | _,_=>none
def opD (o:Op) (a b:D):Option D:=match o with
 | .eq2=>B8 a b
 | .eq=>(eqT a b).map .bl
 | .ne=>(eqT a b).map fun x=>.bl (!x)
 | .isin=>(match b with | .str y=>(match a with | .str x=>some (.bl (Txt.contains y x)) | _=>none) | .lst l=>(inD a l).map .bl | .tup l=>(inD a l).map .bl | .dic ks ds=>(bM a).map fun k=>.bl (bW ks ds k).isSome | _=>none)
 | .notin=>(match b with | .lst l=>(inD a l).map fun x=>.bl (!x) | .tup l=>(inD a l).map fun x=>.bl (!x) | .dic ks ds=>(bM a).map fun k=>.bl (!(bW ks ds k).isSome) | _=>none)
 | _=>match a,b with
   | .int i,.int j=>opI o i j
   | .str x,.str y=>if o = .add then fb (x.length+y.length) (.str (x ++ y)) else none
   | .tup x,.tup y=>if o = .add then fb (x.length+y.length) (.tup (x ++ y)) else none
   | .lst x,.lst y=>if o = .add then fb (x.length+y.length) (.lst (x ++ y)) else none
   | _,_=>none
def vG:D→Option Bool
 | .bl b=>some b
 | .tup l=>some (!l.isEmpty)
 | .lst l=>some (!l.isEmpty)
 | .int i=>some (i != 0)
 | .non=>some false
 | _=>none
def ixD (a b:D):Option D:=match a,b with
 | .tup l,.int i=>atI l i
 | .lst l,.int i=>atI l i
 | .str x,.int i=>if x.length≤100000 then (atI x.cps.toList i).map fun c=>.str ⟨#[c]⟩ else none
 | .dic ks ds,k=>(bM k).bind fun k=>bW ks ds k
 | _,_=>none
def py (xs:List D) (lo hi:Option Int):List D:=(xs.drop (HT.sIx xs.length 0 lo)).take (HT.sIx xs.length xs.length hi - HT.sIx xs.length 0 lo)
def slO (a:D) (l h:Option Int):Option D:=match a with
 | .tup x=>some (.tup (py x l h))
 | .lst x=>some (.lst (py x l h))
 | .str x=>if x.length≤100000 then some (.str (D5 x l h)) else none
 | _=>none
def cH {α:Type} (xs:List α) (lo:Option Int) (st:Int):List α:=(sliceRange (Ä lo none (some st) xs.length).1 (Ä lo none (some st) xs.length).2.1 (Ä lo none (some st) xs.length).2.2).filterMap (xs[·]?)
def mP (a:D) (l st:Option Int):Option D:=match a,st with
 | .lst x,some k=>if k=0 then none else some (.lst (cH x l k))
 | _,_=>none
def isDic:D→Bool
 | .dic _ _=>true
 | _=>false
def bC:E→Bool
 | .nil=>true
 | _=>false
def toI (d:D) (s:Sta):Out (Option Int):=match d with | .int i=>.ok (some i) s | _=>.bad
def bq:List D→Option (List Int)
 | []=>some []
 | .int i :: r=>(bq r).map (i :: ·)
 | _=>none
def vO:List D→Option (List Bool)
 | []=>some []
 | .bl i :: r=>(vO r).map (i :: ·)
 | _=>none
def cE:List D→Option (List ι)
 | []=>some []
 | .str i :: r=>(cE r).map (i :: ·)
 | _=>none
def hH (b:Bi) (x:D):Option D:=match b,x with
 | .len,.tup l=>some (.int l.length)
 | .len,.lst l=>some (.int l.length)
 | .len,.str x=>if x.length≤100000 then some (.int x.length) else none
 | .len,.dic k _=>if k.length≤100000 then some (.int k.length) else none
 | .tuple,.lst l=>some (.tup l)
 | .tuple,.tup l=>some (.tup l)
 | .list,.tup l=>some (.lst l)
 | .list,.lst l=>some (.lst l)
 | .rev,.lst l=>some (.lst l.reverse)
 | .all,.lst l=>(vO l).map fun bs=>.bl (bs.all id)
 | .sum,.lst l=>(bq l).map fun ns=>.int (L2.Bk.sumI ns)
 | .max2,.lst l=>(match bq l with | some (n :: r)=>some (.int (L2.Bw.maxD 0 (n :: r))) | _=>none)
 | .abs,.int i=>some (.int (if i<0 then -i else i))
 | .str,.int i=>if i.natAbs.log2<1920 then some (.str (Ϝ (toString i))) else none
 | .int,.int i=>some (.int i)
 | .int,.bl k=>some (.int (if k then 1 else 0))
 | .int,.str x=>if x.length≤640 then (Fv x).map .int else none
 | .dict,.dic k l=>some (.dic k l)
 | .setl,.lst l=>(bq l).bind fun ns=>if ns.length+1<4096 then some (.int ((GY (fun i=>ns.getD i 0) ns.length).length:Nat)) else none
 | .isTup,d=>(match d with | .tup _=>some (.bl true) | .ref _=>none | .ins _ _=>none | _=>some (.bl false))
 | .isStr,d=>(match d with | .str _=>some (.bl true) | .ref _=>none | .ins _ _=>none | _=>some (.bl false))
 | .isBool,d=>(match d with | .bl _=>some (.bl true) | .ref _=>none | .ins _ _=>none | _=>some (.bl false))
 | .isInt,d=>(match d with | .bl _=>some (.bl true) | .int _=>some (.bl true) | .ref _=>none | .ins _ _=>none | _=>some (.bl false))
 | .isLst,d=>(match d with | .lst _=>some (.bl true) | .ref _=>none | .ins _ _=>none | _=>some (.bl false))
 | .isDic,d=>(match d with | .dic _ _=>some (.bl true) | .ref _=>none | .ins _ _=>none | _=>some (.bl false))
 | .isVal,d=>(match d with | .lst _=>some (.bl true) | .int _=>some (.bl true) | .bl _=>some (.bl true) | .str _=>some (.bl true) | .ref _=>none | .ins _ _=>none | _=>some (.bl false))
 | _,_=>none
def wM (b:Bi) (x y:D):Option D:=match b,x,y with
 | .max0,.lst l,.int d=>(bq l).map fun ns=>.int (L2.Bw.maxD d ns)
 | .max2,.int i,.int j=>some (.int (if j>i then j else i))
 | .min2,.int i,.int j=>some (.int (if j<i then j else i))
 | _,_,_=>none
def BE (b:Bi) (x y z:D):Option D:=match b,x,y,z with
 | .max2,.int i,.int j,.int k=>some (.int (if j>i then (if k>j then k else j) else if k>i then k else i))
 | _,_,_,_=>none
def biD (b:Bi) (ds:List D):Option D:=match ds with
 | [x]=>hH b x
 | [x,y]=>wM b x y
 | [x,y,z]=>BE b x y z
 | _=>none
def ry:Key→D
 | .inl i=>.int i
 | .inr x=>.str x
def tA:D→Option (List D)
 | .lst l=>some l
 | .tup l=>some l
 | .dic ks _=>some (ks.map ry)
 | .str x=>if x.cps.all (· < 128)=true then some (x.cps.toList.map fun c=>.str ⟨#[c]⟩) else none
 | _=>none
def lj (lo:Int) (n:Nat):List D:=(ë n).map fun (i:Nat)=>.int (lo+i)
def eR:List D→List D→List D
 | a :: r,b :: q=>.tup [a,b] :: eR r q
 | _,_=>[]
def cw:List D→List D→List D→List D
 | a :: r,b :: q,c :: p=>.tup [a,b,c] :: cw r q p
 | _,_,_=>[]
def bA:Int→List D→List D
 | i,a :: r=>.tup [.int i,a] :: bA (i+1) r
 | _,[]=>[]
def sqL:D→Option (List D)
 | .lst l=>some l
 | .tup l=>some l
 | _=>none
def xD (b:Bi) (x:D):Option (List D):=match b,x with
 | .range1,.int j=>if -(2 ^ 62)≤j∧j<2 ^ 62 then some (lj 0 j.toNat) else none
 | .enum,.lst x=>some (bA 0 x)
 | _,_=>none
def Cd (b:Bi) (x y:D):Option (List D):=match b,x,y with
 | .range2,.int i,.int j=>if (-(2 ^ 62)≤i∧i<2 ^ 62∧-(2 ^ 62)≤j∧j<2 ^ 62) then some (lj i (j - i).toNat) else none
 | .zip2,x,y=>(match sqL x,sqL y with | some l,some m=>if l.length≤m.length then some (eR l m) else none | _,_=>none)
 | .enum2,.tup x,.int n=>if È n=true∧0≤n then some (bA n x) else none
 | _,_,_=>none
def Ce (b:Bi) (x y z:D):Option (List D):=match b,x,y,z with
 | .zip3,x,y,z=>(match sqL x,sqL y,sqL z with | some l,some m,some n=>if l.length≤m.length∧l.length≤n.length then some (cw l m n) else none | _,_,_=>none)
 | _,_,_,_=>none
def itD (b:Bi) (ds:List D):Option (List D):=match ds with
 | [x]=>xD b x
 | [x,y]=>Cd b x y
 | [x,y,z]=>Ce b x y z
 | _=>none
def l9 (Γ:Gm) (st:List O) (d:D) (f:Nat):Option D:=match d with
 | .ins c l=>(Γ.cl[c]?).bind fun k=>l[k.at_.idxOf f]?
 | .ref n=>(match st[n]? with | some (.ins c l)=>(Γ.cl[c]?).bind fun k=>l[k.at_.idxOf f]? | _=>none)
 | _=>none
def aH (t:List Nat) (one:Bool) (d:D) (env:List (Option D)):Option (List (Option D)):=
 if one then (match t with | [i]=>some (env.set i (some d)) | _=>none)
 else (match d with
  | .tup l=>if l.length=t.length then some ((t.zip l).foldl (fun e p=>e.set p.1 (some p.2)) env) else none
  | .lst l=>if l.length=t.length then some ((t.zip l).foldl (fun e p=>e.set p.1 (some p.2)) env) else none
  | _=>none)
def noX {α:Type}:Out α→Out α
 | .exc _ _ _=>.bad
 | o=>o
def bt (f:D→Sta→Out (Option D)):List D→List D→Sta→Out D
 | [],acc,s=>.ok (.lst acc) s
 | d :: r,acc,s=>(f d s).bind fun o s'=>match o with
   | some e=>if acc.length<100000 then bt f r (acc ++ [e]) s' else .bad
   | none=>bt f r acc s'
mutual
noncomputable def noL:D→Bool
 | .lst _=>false
 | .tup l=>fi l
 | .dic _ l=>fi l
 | .ins _ l=>fi l
 | _=>true
noncomputable def fi:List D→Bool
 | []=>true
 | d :: r=>noL d && fi r
end
mutual
noncomputable def noR:D→Bool
 | .ref _=>false
 | .tup l=>aV l
 | .lst l=>aV l
 | .dic _ l=>aV l
 | .ins _ l=>aV l
 | _=>true
noncomputable def aV:List D→Bool
 | []=>true
 | d :: r=>noR d && aV r
end
def kW:O→Bool
 | .lst _=>false
 | .dic _ l=>fi l
 | .ins _ l=>fi l
def bK:E→List Nat
 | .cons (.v i) r=>i :: bK r
 | .cons _ r=>bK r
 | _=>[]
def isLst:Option (Option D)→Bool
 | some (some (.lst _))=>true
 | _=>false
def aft (es:E) (s:Sta) (d:D) (st:List O):Sta:=⟨s.env,s.ow.filter fun i=>!(bK es).contains i || (isLst s.env[i]? && (noL d && st.all kW)),st⟩
def drp (es:E) (s:Sta) (st:List O):Sta:=⟨s.env,s.ow.filter fun i=>!(bK es).contains i,st⟩
def qH:List D→Option (List Key×List D)
 | []=>some ([],[])
 | [_]=>none
 | k :: d :: r=>(bM k).bind fun k=>(qH r).bind fun p=>if p.1.contains k then none else some (k :: p.1,d :: p.2)
def ui:D→Bool
 | .tup _=>true
 | _=>false
def xw (x y:D):Option D:=match x,y with
 | .tup l,.str k=>(cE l).bind fun ss=>(ss.findIdx? (· == k)).map fun (j:Nat)=>.int j
 | _,_=>none
def rx (x:ι) (y:D):Option D:=match y with
 | .lst l=>(cE l).bind fun ss=>if x.length≤64∧(ss.map (·.length)).sum≤100000∧ss.length≤1000 then some (.str (ĕ x ss)) else none
 | _=>none
def qU (x:ι) (v:D) (y:ι):Option D:=match v with
 | .str z=>if x.length≤1000∧z.length≤100000∧y.length≤1000 then some (.str (((ģ ++ x) ++ z) ++ y)) else none
 | _=>none
mutual
noncomputable def shD (k:Nat):D→D
 | .tup l=>.tup (im k l)
 | .lst l=>.lst (im k l)
 | .dic ks l=>.dic ks (im k l)
 | .ins c l=>.ins c (im k l)
 | .ref n=>.ref (k+n)
 | d=>d
noncomputable def im (k:Nat):List D→List D
 | []=>[]
 | d :: r=>shD k d :: im k r
end
def shO (k:Nat):O→O
 | .lst l=>.lst (im k l)
 | .dic ks l=>.dic ks (im k l)
 | .ins c l=>.ins c (im k l)
def wE (Γ:Gm) (c:Nat):Bool:=match Γ.cl[c]? with | some k=>k.what == 2 | none=>false
def AA (Γ:Gm) (x:D) (js:List Nat):Option D:=match x with
 | .ins c _=>if (wE Γ c && js.all (wE Γ))=true then (Γ.cl[c]?).map fun k=>.bl (js.any fun j=>c == j || k.sup.contains j) else none
 | _=>none
def wa (ks:List ι) (l:List D):Option D:=if ks.length=l.length∧ks.Nodup∧ks.length≤15∧ks≠[] then some (.dic (ks.map .inr) l) else none
def ra (kp:List Nat) (env:List (Option D)):List (Option D):=env.mapIdx fun i d=>if kp.contains i then none else d
def hid (kp:List Nat) (s:Sta):Sta:=⟨ra kp s.env,s.ow.filter (fun i=>!kp.contains i),s.st⟩
def Cs (x:D) (s:Sta):Out D:=match x with | .lst l=>.ok (.ref s.st.length) ⟨s.env,s.ow,s.st ++ [.lst l]⟩ | _=>.bad
section
variable (Γ:Gm) (cal cal1:Nat→List D→List O→Res)
def hO (es:E) (j:Nat) (ds:List D) (s:Sta):Out D:=match cal j ds s.st with
 | .ok d st=>.ok d (aft es s d st)
 | .exc c l st=>.exc c l (drp es s st)
 | .bad=>.bad
def uf (j:Nat) (ds:List D) (s:Sta):Out D:=if aV ds then (match cal j ds [] with
 | .ok d st=>if noR d then .ok d s else .ok (shD s.st.length d) ⟨s.env,s.ow,s.st ++ st.map (shO s.st.length)⟩
 | .exc c l _=>if aV l then .exc c l s else .bad
 | .bad=>.bad) else .bad
def ro:D→Bool
 | .ref _=>true | _=>false
def Am (st:List O):D→Option D
 | .ref n=>(match st[n]? with | some (.lst l)=>if aV l then some (.lst l) else none | some (.dic k l)=>if aV l then some (.dic k l) else none | _=>none)
 | d=>if noR d then some d else none
def Ap (st:List O):List D→Option (List D)
 | []=>some []
 | d :: r=>(Am st d).bind fun e=>(Ap st r).map (e :: ·)
def Ao (st:List O):D→Option D
 | .tup l=>(Ap st l).map .tup
 | d=>Am st d
def xl (own:Bool) (j:Nat) (ds:List D) (s:Sta):Out D:=if aV ds then (match cal j ds [] with
 | .ok d st=>if own && !ro d then .bad else .of s (Ao st d)
 | .exc c l _=>if aV l then .exc c l s else .bad
 | .bad=>.bad) else .bad
mutual
noncomputable def ev (br:Bool):E→Sta→Out D
 | .v i,s=>(match s.env[i]? with | some (some d)=>.ok d (if br then s else un s i) | _=>.bad)
 | .c d,s=>.ok d s
 | .g j,s=>.of s (Γ.gl[j]?.map toD)
 | .op o a b,s=>(ev true a s).bind fun x s=>(ev true b s).bind fun y s=>.of s (opD o (look s.st x) (look s.st y))
 | .isN a,s=>(ev true a s).bind fun x s=>.ok (.bl (kE x)) s
 | .isNN a,s=>(ev true a s).bind fun x s=>.ok (.bl (!kE x)) s
 | .neg a,s=>(ev true a s).bind fun x s=>(match x with | .int i=>.ok (.int (-i)) s | _=>.bad)
 | .not a,s=>(ev true a s).bind fun x s=>(match x with | .bl b=>.ok (.bl (!b)) s | _=>.bad)
 | .and a b,s=>(ev false a s).bind fun x s=>(match x with | .bl true=>ev false b s | .bl false=>.ok (.bl false) s | _=>.bad)
 | .or a b,s=>(ev false a s).bind fun x s=>(match x with | .bl false=>ev false b s | .bl true=>.ok (.bl true) s | _=>.bad)
 | .ite c a b,s=>(ev true c s).bind fun x s=>(match x with | .bl true=>ev false a s | .bl false=>ev false b s | _=>.bad)
 | .chain o p a b c,s=>(ev true a s).bind fun x s=>(ev true b s).bind fun y s=>(match opD o (look s.st x) (look s.st y) with
   | some (.bl true)=>(ev true c s).bind fun z s=>.of s (opD p (look s.st y) (look s.st z))
   | some (.bl false)=>.ok (.bl false) s
   | _=>.bad)
 | .ix a b,s=>(ev true a s).bind fun x s=>(ev true b s).bind fun y s=>.of s (ixD (look s.st x) y)
 | .sl a lo hi,s=>(ev true a s).bind fun x s=>(if bC lo then .ok none s else (ev true lo s).bind toI).bind fun l s=>(if bC hi then .ok none s else (ev true hi s).bind toI).bind fun h s=>.of s (slO (look s.st x) l h)
 | .sl3 a lo st,s=>(ev true a s).bind fun x s=>(if bC lo then .ok none s else (ev true lo s).bind toI).bind fun l s=>(if bC st then .ok none s else (ev true st s).bind toI).bind fun z s=>.of s (mP (look s.st x) l z)
 | .tget j e d,s=>(ev true e s).bind fun x s=>(ev false d s).bind fun z s=>(match Γ.tb[j]?,x with | some t,.str k=>.ok (((Ó k t).map toD).getD z) s | _,_=>.bad)
 | .newd j es,s=>(evs false es s).bind fun l s=>.of s ((Γ.cl[j]?).bind fun k=>if k.what=1∧l.length=k.at_.length then some (D.ins j l) else none)
 | .fld a f,s=>(ev true a s).bind fun x s=>.of s (l9 Γ s.st x f)
 | .tup es,s=>(evs false es s).bind fun l s=>if l.length≤100000 then .ok (.tup l) s else .bad
 | .lst es,s=>(evs false es s).bind fun l s=>if l.length≤100000 then .ok (.lst l) s else .bad
 | .newl es,s=>(evs false es s).bind fun l s=>if l.length≤100000 then .ok (.ref s.st.length) ⟨s.env,s.ow,s.st ++ [.lst l]⟩ else .bad
 | .keep kp a,s=>(noX (ev false a (hid (kp.filter s.ow.contains) s))).bind fun d s'=>.ok d ⟨s.env,s'.ow ++ kp.filter s.ow.contains,s'.st⟩
 | .sto a,s=>(ev false a s).bind Cs
 | .fcall own j es,s=>(evs false es s).bind fun l s=>xl cal own j l s
 | .call j es,s=>(evs true es s).bind fun l s=>hO cal es j l s
 | .hcall j es,s=>(evs false es s).bind fun l s=>uf cal j l s
 | .mth c j a es,s=>(ev true a s).bind fun x s=>(match x with
   | .ref p=>(match s.st[p]? with
     | some (.ins c' _)=>if c'=c then (evs true es s).bind fun l s=>hO cal es j (x :: l) s else .bad
     | _=>.bad)
   | _=>.bad)
 | .bi b es,s=>(evs true es s).bind fun l s=>.of s (biD b (l.map (look s.st)))
 | .tab j e,s=>(ev true e s).bind fun x s=>(match Γ.tb[j]?,x with | some t,.str k=>.of s ((Ó k t).map toD) | _,_=>.bad)
 | .tabin j e,s=>(ev true e s).bind fun x s=>(match Γ.tb[j]?,x with | some t,.str k=>.ok (.bl (Ó k t).isSome) s | _,_=>.bad)
 | .lc t one it elt cond,s=>(ev false it s).bind fun x s=>(match x with
   | .lst ds=>(bt (fun d s'=>(match aH t one d s'.env with
     | some env=>(noX (ev true cond ⟨env,[],s'.st⟩)).bind fun b s2=>(match b with
       | .bl true=>(noX (ev false elt s2)).bind fun e s3=>.ok (some e) ⟨s3.env,[],s3.st⟩
       | .bl false=>.ok none ⟨s2.env,[],s2.st⟩
       | _=>.bad)
     | none=>.bad)) ds [] ⟨Θ t.length none ++ s.env,[],s.st⟩).bind fun d s'=>.ok d ⟨s.env,[],s'.st⟩
   | _=>.bad)
 | .tand a b,s=>(ev true a s).bind fun x s=>(match x with | .bl true=>ev true b s | .bl false=>.ok (.bl false) s | _=>.bad)
 | .tor a b,s=>(ev true a s).bind fun x s=>(match x with | .bl true=>.ok (.bl true) s | .bl false=>ev true b s | _=>.bad)
 | .tnot a,s=>(ev true a s).bind fun x s=>(match x with | .bl b=>.ok (.bl (!b)) s | _=>.bad)
 | .tv a,s=>(ev true a s).bind fun x s=>.of s ((vG (look s.st x)).map .bl)
 | .it b es,s=>(evs false es s).bind fun l s=>.of s ((itD b l).map .lst)
 | .itv a,s=>(ev false a s).bind fun x s=>.of s ((tA x).map .lst)
 | .dic es,s=>(evs false es s).bind fun l s=>.of s ((qH l).map fun p=>.dic p.1 p.2)
 | .get a b c,s=>(ev true a s).bind fun x s=>if isDic (look s.st x)=true then (ev true b s).bind fun y s=>(ev false c s).bind fun z s=>(match look s.st x,bM y with
   | .dic ks ds,some k=>.ok ((bW ks ds k).getD z) s
   | _,_=>.bad) else .bad
 | .index a b,s=>(ev true a s).bind fun x s=>if ui x=true then (ev true b s).bind fun y s=>.of s (xw x y) else .bad
 | .join x a,s=>(ev true a s).bind fun y s=>.of s (rx x (look s.st y))
 | .fmt x a y,s=>(ev true a s).bind fun v s=>.of s (qU x v y)
 | .dicc ks es,s=>(evs false es s).bind fun l s=>.of s (wa ks l)
 | .isX a js,s=>(ev true a s).bind fun x s=>.of s (AA Γ x js)
 | .new j es,s=>(evs true es s).bind fun l s=>(match Γ.cl[j]? with
   | some k=>if k.what=1 then (if l.length=k.at_.length then .ok (.ins j l) (drp es s s.st) else .bad)
     else if k.what=0 then (match cal1 k.init (.ref s.st.length :: l) (s.st ++ [.ins j []]) with
      | .ok .non st=>.ok (.ref s.st.length) (aft es s .non st)
      | _=>.bad)
     else .bad
   | none=>.bad)
 | _,_=>.bad
noncomputable def evs (br:Bool):E→Sta→Out (List D)
 | .nil,s=>.ok [] s
 | .cons a r,s=>(ev br a s).bind fun x s=>(evs br r s).bind fun l s=>.ok (x :: l) s
 | _,_=>.bad
end
end
end L2.Ev
namespace L2.Ev
def a9:E→Bool
 | .lst _=>true | .lc ..=>true | .bi .list _=>true | .bi .rev _=>true | .bi .dict _=>true | .dic _=>true | .keep _ a=>a9 a | .fcall own _ _=>own | _=>false
def xB:D→Bool
 | .lst _=>true | .dic _ _=>true | _=>false
def mN (s:Sta) (i:Nat) (d:D) (f:Bool):Sta:=⟨s.env.set i (some d),if f && xB d then i :: s.ow.filter (· != i) else s.ow.filter (· != i),s.st⟩
def sV (l:List D) (i:Int) (d:D):Option (List D):=(ixN l.length i).map fun j=>l.set j d
def ed (o:O) (k d:D):Option O:=match o with
 | .lst l=>(match k with | .int i=>(sV l i d).map .lst | _=>none)
 | .dic ks ds=>(bM k).bind fun k=>if ks.length<100000 then some (.dic (bE ks ds k d).1 (bE ks ds k d).2) else none
 | _=>none
def jP (o:D) (k d:D):Option D:=match o with
 | .lst l=>(match k with | .int i=>(sV l i d).map .lst | _=>none)
 | .dic ks ds=>(bM k).bind fun k=>if ks.length<100000 then some (.dic (bE ks ds k d).1 (bE ks ds k d).2) else none
 | _=>none
def eg (Γ:Gm) (o:O) (f:Nat) (d:D):Option O:=match o with
 | .ins c l=>(Γ.cl[c]?).bind fun k=>if k.at_.length<1000 then (if k.at_.idxOf f<l.length then some (.ins c (l.set (k.at_.idxOf f) d)) else if k.at_.idxOf f=l.length∧k.at_.idxOf f<k.at_.length then some (.ins c (l ++ [d])) else none) else none
 | _=>none
def sY:Option D→Bool
 | some (.int n)=>decide (0≤n) && decide (n<100000)
 | _=>false
def Bt:D→Bool
 | .str x=>decide ((reprText x).length≤10000)
 | .int n=>decide (0≤n) && decide (n<100000)
 | _=>false
def iP (Γ:Gm) (j:Nat) (l:List D):Bool:=match Γ.cl[j]? with
 | some k=>if k.at_.isEmpty then l.all Bt else l.length == k.at_.length && k.chk.all (fun i=>sY l[i]?) && decide (l.length≤1000) && !l.isEmpty
 | none=>false
def pH (Γ:Gm) (j:Nat) (l:List D):List D:=match Γ.cl[j]? with
 | some k=>if k.at_.isEmpty then [] else l
 | none=>l
def aR (f:D→Sta→av):List D→Sta→av
 | [],s=>.nx s
 | d :: r,s=>(f d s).go fun s=>aR f r s
def wF (c:Sta→Out D) (f:Sta→av):Nat→Sta→av
 | 0,_=>.bad
 | m+1,s=>(c s).go fun x s=>match x with | .bl true=>(f s).go fun s=>wF c f m s | .bl false=>.nx s | _=>.bad
def xC (st:List O):D→Bool
 | .ref n=>(match st[n]? with | some (.lst _)=>true | _=>false)
 | _=>false
def apO (x d:D) (s:Sta):av:=match x with
 | .ref n=>(match s.st[n]? with | some (.lst l)=>if l.length<100000 then .nx ⟨s.env,s.ow,s.st.set n (.lst (l ++ [d]))⟩ else .bad | _=>.bad)
 | _=>.bad
def cQ (Γ:Gm) (j c:Nat):Option Bool:=(Γ.cl[c]?).map fun k=>c == j || k.sup.contains j
section
variable (Γ:Gm) (cal cal1:Nat→List D→List O→Res)
def exS:S→Sta→av
 | .skip,s=>.nx s
 | .seq a b,s=>(exS a s).go fun s=>exS b s
 | .set i e,s=>(ev Γ cal cal1 false e s).go fun d s=>.nx (mN s i d (a9 e))
 | .setT l e,s=>(ev Γ cal cal1 false e s).go fun d s=>(match aH l false d s.env with | some env=>.nx ⟨env,s.ow.filter fun i=>!l.contains i,s.st⟩ | none=>.bad)
 | .setR i es,s=>(evs Γ cal cal1 false es s).go fun l s=>if l.length≤100000 then .nx ⟨s.env.set i (some (.ref s.st.length)),s.ow.filter (· != i),s.st ++ [.lst l]⟩ else .bad
 | .ret e,s=>(ev Γ cal cal1 false e s).go fun d s=>.rt d s
 | .ifs c a b,s=>(ev Γ cal cal1 true c s).go fun x s=>(match x with | .bl true=>exS a s | .bl false=>exS b s | _=>.bad)
 | .drop e,s=>(ev Γ cal cal1 false e s).go fun _ s=>.nx s
 | .app i e,s=>if s.ow.contains i && isLst s.env[i]? then (ev Γ cal cal1 false e s).go fun d s=>if s.ow.contains i then (match s.env[i]? with
  | some (some (.lst l))=>if l.length<100000 then .nx ⟨s.env.set i (some (.lst (l ++ [d]))),s.ow,s.st⟩ else .bad
  | _=>.bad) else .bad else .bad
 | .ext i e,s=>if s.ow.contains i && isLst s.env[i]? then (ev Γ cal cal1 false e s).go fun d s=>if s.ow.contains i then (match s.env[i]?,d with
  | some (some (.lst l)),.lst x=>if l.length+x.length≤100000 then .nx ⟨s.env.set i (some (.lst (l ++ x))),s.ow,s.st⟩ else .bad
  | _,_=>.bad) else .bad else .bad
 | .put (.v i) b e,s=>(ev Γ cal cal1 false e s).go fun d s=>(match s.env[i]? with
  | some (some x)=>(ev Γ cal cal1 true b s).go fun k s=>(match x with
    | .ref n=>(match (s.st[n]?).bind fun o=>ed o k d with | some o=>.nx ⟨s.env,s.ow,s.st.set n o⟩ | none=>.bad)
    | x=>if s.ow.contains i then (match jP x k d with | some y=>.nx ⟨s.env.set i (some y),s.ow,s.st⟩ | none=>.bad) else .bad)
  | _=>.bad)
 | .put a b e,s=>(ev Γ cal cal1 false e s).go fun d s=>(ev Γ cal cal1 true a s).go fun x s=>(ev Γ cal cal1 true b s).go fun k s=>(match x with
  | .ref n=>(match (s.st[n]?).bind fun o=>ed o k d with | some o=>.nx ⟨s.env,s.ow,s.st.set n o⟩ | none=>.bad)
  | _=>.bad)
 | .fld a f e,s=>(match e with
  | .lst .nil=>(ev Γ cal cal1 true a s).go fun x s=>(match x with
    | .ref n=>(match (s.st[n]?).bind fun o=>eg Γ o f (.ref s.st.length) with | some o=>.nx ⟨s.env,s.ow,(s.st ++ [O.lst []]).set n o⟩ | none=>.bad)
    | _=>.bad)
  | .dic .nil=>(ev Γ cal cal1 true a s).go fun x s=>(match x with
    | .ref n=>(match (s.st[n]?).bind fun o=>eg Γ o f (.ref s.st.length) with | some o=>.nx ⟨s.env,s.ow,(s.st ++ [O.dic [] []]).set n o⟩ | none=>.bad)
    | _=>.bad)
  | e=>(ev Γ cal cal1 false e s).go fun d s=>(ev Γ cal cal1 true a s).go fun x s=>(match x with
    | .ref n=>(match (s.st[n]?).bind fun o=>eg Γ o f d with | some o=>.nx ⟨s.env,s.ow,s.st.set n o⟩ | none=>.bad)
    | _=>.bad))
 | .aug a f o e,s=>(ev Γ cal cal1 true a s).go fun x s=>(match x with
  | .ref n=>(match l9 Γ s.st x f with
    | some (.int i)=>(ev Γ cal cal1 false e s).go fun d s=>(match d with
      | .int j=>(match opI o i j,s.st[n]? with
        | some y,some ob=>(match eg Γ ob f y with | some ob=>.nx ⟨s.env,s.ow,s.st.set n ob⟩ | none=>.bad)
        | _,_=>.bad)
      | _=>.bad)
    | _=>.bad)
  | _=>.bad)
 | .fapp a f e,s=>(ev Γ cal cal1 true a s).go fun x s=>if xC s.st x=true then (ev Γ cal cal1 false e s).go fun d s=>apO x d s else .bad
 | .for_ t one it b,s=>(ev Γ cal cal1 false it s).go fun x s=>(match x with
  | .lst ds=>aR (fun d s=>match aH t one d s.env with | some env=>exS b ⟨env,s.ow.filter fun i=>!t.contains i,s.st⟩ | none=>.bad) ds s
  | _=>.bad)
 | .whl c b,s=>wF (ev Γ cal cal1 true c) (exS b) 100000 s
 | .rais j es,s=>(evs Γ cal cal1 false es s).go fun l s=>if iP Γ j l then .exc j (pH Γ j l) s else .bad
 | .try_ a hs,s=>(match exS a s with
  | .exc c l s'=>hnd hs c l s'
  | r=>r)
 | _,_=>.bad
where hnd:S→Nat→List D→Sta→av
 | .hand j (some i) b r,c,l,s=>(match cQ Γ j c with
  | some true=>(match exS b ⟨s.env.set i (some (.ins c l)),s.ow.filter (· != i),s.st⟩ with
    | .nx s=>.nx ⟨s.env.set i none,s.ow.filter (· != i),s.st⟩
    | .rt d s=>.rt d s
    | _=>.bad)
  | some false=>hnd r c l s
  | none=>.bad)
 | .hand j none b r,c,l,s=>(match cQ Γ j c with
  | some true=>(match exS b s with | .nx s=>.nx s | .rt d s=>.rt d s | _=>.bad)
  | some false=>hnd r c l s
  | none=>.bad)
 | .skip,c,l,s=>.exc c l s
 | _,_,_,_=>.bad
end
def ll (Γ:Gm) (cal cal1:Nat→List D→List O→Res) (j:Nat) (ds:List D) (st:List O):Res:=match Γ.fn[j]? with
 | some f=>if (ds ++ f.df).length=f.np then (match exS Γ cal cal1 f.body ⟨(ds ++ f.df).map some ++ Θ (f.ns - f.np) none,[],st⟩ with
   | .nx s=>.ok .non s.st
   | .rt d s=>.ok d s.st
   | .exc c l s=>.exc c l s.st
   | .bad=>.bad) else .bad
 | none=>.bad
def qE (Γ:Gm):Nat→(Nat→List D→List O→Res)×(Nat→List D→List O→Res)
 | 0=>(fun _ _ _=>.bad,fun _ _ _=>.bad)
 | n+1=>(ll Γ (qE Γ n).1 (qE Γ n).2,(qE Γ n).1)
def ae (Γ:Gm) (n:Nat):Nat→List D→List O→Res:=(qE Γ n).1
def aQ (Γ:Gm) (n:Nat):Nat→List D→List O→Res:=(qE Γ n).2
structure CI where
 ad:Δ
 nm:List ι
structure Wd where
 P:ϸ
 w:Ü
 ci:List CI
 what:List Nat
abbrev Hp:=Δ→Option DQ
abbrev Rs:=List (Δ×Δ)
def TpO (o:DQ) (l:List ζ):Prop:=o.cls = .type "tuple"∧(∃ n,o.data = .seq l.toArray n)∧l.length≤ϛ∧o.dict=none
def LsO (o:DQ) (l:List ζ):Prop:=(∃ n,o={ cls:=.type "list",data:=.seq l.toArray n })∧l.length≤ϛ
def DcO (W:Wd) (o:DQ) (l:List (Key×ζ)):Prop:=∃ es ep,o.ExactDict∧o.data = .dict es ep∧KeysOf (bH W.P W.w) es∧Pairs (bH W.P W.w) es.toList l∧(l.map (·.1)).Nodup∧l.length≤ϛ
def NsO (o:DQ) (l:List (ι×ζ)):Prop:=∃ es ep,o.data = .dict es ep∧StrKeys es∧UniqKeys es∧∀ n,nsFind es n=l.lookup n
def InO (h:Hp) (a dx C:Δ) (l:List (ι×ζ)):Prop:=h a=some (Ϣ C dx)∧dx≠a∧l.length≤1000∧∃ o,h dx=some o∧NsO o l
def ExO (h:Hp) (a C:Δ) (l:List (ι×ζ)):Prop:=∃ o vs,h a=some o∧o.cls = .ref C∧o.data = .fields vs∧((l = []∧o.dict=none)∨∃ d od,o.dict=some d∧h d=some od∧NsO od l)
inductive Ra (G:Hp) (T:DQ→List ζ→Prop) (Q:List ζ→Prop) (v:ζ):Prop
 | mk (a:Δ) (o:DQ) (vs:List ζ) (_:v = .ref a) (_:G a=some o) (_:T o vs) (_:Q vs)
inductive Rb (W:Wd) (G:Hp) (ks:List Key) (n:Nat) (Q:List ζ→Prop) (v:ζ):Prop
 | mk (a:Δ) (o:DQ) (vs:List ζ) (_:v = .ref a) (_:(a == FW)=false) (_:G a=some o) (_:DcO W o (ks.zip vs)) (_:ks.length=n) (_:Q vs)
inductive Ri (W:Wd) (G:Hp) (c n:Nat) (Q:List ζ→Prop) (v:ζ):Prop
 | mk (a:Δ) (i:CI) (vs:List ζ) (_:v = .ref a) (_:W.ci[c]? = some i) (_:n≤i.nm.length) (_:(W.what[c]? = some 1∧∃ dx,InO G a dx i.ad (i.nm.zip vs))∨(W.what[c]? = some 2∧ExO G a i.ad (i.nm.zip vs))) (_:Q vs)
inductive Rc (P:ζ→Prop) (Q:List ζ→Prop) (vs:List ζ):Prop
 | mk (v:ζ) (r:List ζ) (_:vs=v :: r) (_:P v) (_:Q r)
mutual
noncomputable def RD (W:Wd) (ρ:Rs) (G:Hp):D→ζ→Prop
 | .non,v=>v = .none
 | .bl b,v=>v = .bool b
 | .int i,v=>∃ t,v = .int i t
 | .str x,v=>∃ t,v = .str x t
 | .tup ds,v=>Ra G TpO (RDs W ρ G ds) v
 | .lst ds,v=>Ra G LsO (RDs W ρ G ds) v
 | .dic ks ds,v=>Rb W G ks ds.length (RDs W ρ G ds) v
 | .ins c ds,v=>Ri W G c ds.length (RDs W ρ G ds) v
 | .ref n,v=>∃ p,ρ[n]? = some p∧v = .ref p.1
noncomputable def RDs (W:Wd) (ρ:Rs) (G:Hp):List D→List ζ→Prop
 | [],vs=>vs = []
 | d :: ds,vs=>Rc (RD W ρ G d) (RDs W ρ G ds) vs
end
def Sub (G H:Hp):Prop:=∀ a o,G a=some o→H a=some o
theorem Sub.refl (G):Sub G G:=fun _ _ e=>e
theorem Sub.trans (h:Sub G H) (i:Sub H I):Sub G I:=fun a o e=>i a o (h a o e)
section
variable {W:Wd} {ρ ρ':Rs} {G G' H H':Hp}
theorem jN (h:ρ <+: ρ') {n:Nat} (e:ρ[n]? = some a):ρ'[n]? = some a:=by
 obtain ⟨t,rfl⟩:=h
 rw [ϊ (τ.mp e).1];exact e
theorem InO.sub (h:Sub G G'):InO G a dx C l→InO G' a dx C l:=fun ⟨x,n,z,o,e,r⟩=>⟨h _ _ x,n,z,o,h _ _ e,r⟩
theorem ExO.sub (h:Sub G G'):ExO G a C l→ExO G' a C l:=fun ⟨o,vs,e,c,d,r⟩=>⟨o,vs,h _ _ e,c,d,r.elim .inl fun ⟨d,od,q,e,r⟩=>.inr ⟨d,od,q,h _ _ e,r⟩⟩
mutual
theorem RD.mono (hp:ρ <+: ρ') (h:Sub G G'):∀ {d:D} {v},RD W ρ G d v→RD W ρ' G' d v
 | .non,_,e=>e
 | .bl _,_,e=>e
 | .int _,_,e=>e
 | .str _,_,e=>e
 | .tup _,_,⟨a,o,vs,e,t,q,r⟩=>⟨a,o,vs,e,h _ _ t,q,RDs.mono hp h r⟩
 | .lst _,_,⟨a,o,vs,e,t,q,r⟩=>⟨a,o,vs,e,h _ _ t,q,RDs.mono hp h r⟩
 | .dic _ _,_,⟨a,o,vs,e,m,t,q,l,r⟩=>⟨a,o,vs,e,m,h _ _ t,q,l,RDs.mono hp h r⟩
 | .ins _ _,_,⟨a,i,vs,e,hc,l,t,r⟩=>⟨a,i,vs,e,hc,l,t.elim (fun ⟨w,dx,q⟩=>.inl ⟨w,dx,q.sub h⟩) (fun ⟨w,q⟩=>.inr ⟨w,q.sub h⟩),RDs.mono hp h r⟩
 | .ref _,_,⟨a,e,q⟩=>⟨a,jN hp e,q⟩
theorem RDs.mono (hp:ρ <+: ρ') (h:Sub G G'):∀ {ds} {vs},RDs W ρ G ds vs→RDs W ρ' G' ds vs
 | [],_,e=>e
 | _ :: _,_,⟨v,r,e,t,q⟩=>⟨v,r,e,RD.mono hp h t,RDs.mono hp h q⟩
end
theorem RDs.cons (h:RD W ρ G d v) (t:RDs W ρ G ds vs):RDs W ρ G (d :: ds) (v :: vs):=⟨v,vs,rfl,h,t⟩
theorem jR:∀ {ds vs},RDs W ρ G ds vs↔Paired (RD W ρ G) ds vs
 | [],vs=>⟨fun h=>by cases (show vs = [] from h);exact .nil,fun h=>by cases h;exact rfl⟩
 | d :: ds,vs=>⟨fun ⟨v,r,e,h,t⟩=>e ▸ .cons h (jR.mp t),fun h=>by cases h with | cons h t=>exact .cons h (jR.mpr t)⟩
theorem RDs.len (h:RDs W ρ G ds vs):ds.length=vs.length:=(jR.mp h).length
theorem RDs.get:∀ {ds} {vs} {i:Nat} {d:D},RDs W ρ G ds vs→ds[i]? = some d→∃ v,vs[i]? = some v∧RD W ρ G d v
 | [],_,_,_,_,e=>by simp at e
 | d :: ds,vs,0,d',⟨v,r,e,h,_⟩,e'=>by subst e;simp at e';subst e';exact ⟨v,rfl,h⟩
 | d :: ds,vs,i+1,d',⟨v,r,e,_,t⟩,e'=>by
   subst e
   obtain ⟨u,h1,h2⟩:=RDs.get (i:=i) t (by simpa using e')
   exact ⟨u,by simpa using h1,h2⟩
theorem RDs.app:∀ {ds es} {vs us},RDs W ρ G ds vs→RDs W ρ G es us→RDs W ρ G (ds ++ es) (vs ++ us)
 | [],_,vs,_,h,t=>by cases (show vs = [] from h);exact t
 | d :: ds,es,vs,us,⟨v,r,e,h,t'⟩,t=>by subst e;exact .cons h (RDs.app t' t)
theorem RDs.drop:∀ {ds} {vs} (n),RDs W ρ G ds vs→RDs W ρ G (ds.drop n) (vs.drop n)
 | _,_,0,h=>h
 | [],vs,n+1,h=>by cases (show vs = [] from h);exact rfl
 | d :: ds,vs,n+1,⟨v,r,e,h,t⟩=>by subst e;exact RDs.drop n t
theorem RDs.take:∀ {ds} {vs} (n),RDs W ρ G ds vs→RDs W ρ G (ds.take n) (vs.take n)
 | _,_,0,_=>rfl
 | [],vs,n+1,h=>by cases (show vs = [] from h);exact rfl
 | d :: ds,vs,n+1,⟨v,r,e,h,t⟩=>by subst e;exact .cons h (RDs.take n t)
theorem RDs.set:∀ {ds} {vs} (n) {d} {v},RDs W ρ G ds vs→RD W ρ G d v→RDs W ρ G (ds.set n d) (vs.set n v)
 | [],vs,_,_,_,h,_=>by cases (show vs = [] from h);exact rfl
 | d :: ds,vs,0,_,_,⟨v,r,e,h,t⟩,q=>by subst e;exact .cons q t
 | d :: ds,vs,n+1,_,_,⟨v,r,e,h,t⟩,q=>by subst e;exact .cons h (RDs.set n t q)
theorem RDs.rev:∀ {ds} {vs},RDs W ρ G ds vs→RDs W ρ G ds.reverse vs.reverse
 | [],vs,h=>by cases (show vs = [] from h);exact rfl
 | d :: ds,vs,⟨v,r,e,h,t⟩=>by subst e;rw [F7,F7];exact (RDs.rev t).app (.cons h rfl)
end
inductive Oa (h:Hp) (p:Δ×Δ) (Q:List ζ→Prop):Prop
 | mk (o:DQ) (vs:List ζ) (_:p.2=p.1) (_:h p.1=some o) (_:LsO o vs) (_:Q vs)
inductive Ob (W:Wd) (h:Hp) (p:Δ×Δ) (ks:List Key) (n:Nat) (Q:List ζ→Prop):Prop
 | mk (o:DQ) (vs:List ζ) (_:p.2=p.1) (_:(p.1 == FW)=false) (_:h p.1=some o) (_:DcO W o (ks.zip vs)) (_:ks.length=n) (_:Q vs)
inductive Oi (W:Wd) (h:Hp) (p:Δ×Δ) (c n:Nat) (Q:List ζ→Prop):Prop
 | mk (i:CI) (vs:List ζ) (_:W.ci[c]? = some i) (_:W.what[c]? = some 0) (_:n≤i.nm.length) (_:InO h p.1 p.2 i.ad (i.nm.zip vs)) (_:Q vs)
def ObR (W:Wd) (ρ:Rs) (G h:Hp) (p:Δ×Δ):O→Prop
 | .lst ds=>Oa h p (RDs W ρ G ds)
 | .dic ks ds=>Ob W h p ks ds.length (RDs W ρ G ds)
 | .ins c ds=>Oi W h p c ds.length (RDs W ρ G ds)
theorem ObR.mono (hp:ρ <+: ρ') (g:Sub G G') (k:∀ a,a=p.1∨a=p.2→∀ o,h a=some o→h' a=some o):∀ {o},ObR W ρ G h p o→ObR W ρ' G' h' p o
 | .lst _,⟨o,vs,z,e,q,r⟩=>⟨o,vs,z,k _ (.inl rfl) _ e,q,r.mono hp g⟩
 | .dic _ _,⟨o,vs,z,m,e,q,l,r⟩=>⟨o,vs,z,m,k _ (.inl rfl) _ e,q,l,r.mono hp g⟩
 | .ins _ _,⟨i,vs,c,w,l,⟨e,n,z,o,e2,q⟩,r⟩=>⟨i,vs,c,w,l,⟨k _ (.inl rfl) _ e,n,z,o,k _ (.inr rfl) _ e2,q⟩,r.mono hp g⟩
theorem ObR.th:∀ {o},ObR W ρ G h p o→(∃ o,h p.1=some o)∧∃ o,h p.2=some o
 | .lst _,⟨o,vs,z,e,_,_⟩=>⟨⟨o,e⟩,z ▸ ⟨o,e⟩⟩
 | .dic _ _,⟨o,vs,z,m,e,_,_,_⟩=>⟨⟨o,e⟩,z ▸ ⟨o,e⟩⟩
 | .ins _ _,⟨i,vs,c,w,l,⟨e,n,z,o,e2,q⟩,r⟩=>⟨⟨_,e⟩,⟨_,e2⟩⟩
def toO:D→Option O
 | .lst l=>some (.lst l)
 | .dic k l=>some (.dic k l)
 | _=>none
structure Cx where
 W:Wd
 K:υ
 mg:ι→Option ζ
 base:Ϸ
 os:F5
 Γ:Gm
 cal:Nat→List D→List O→Res
 cal1:Nat→List D→List O→Res
 A:ϒ
 fr:List CT
 N:List ι
 env:CT
 calm:Bool
abbrev Cx.ev (X:Cx) (br:Bool) (e:E):Sta→Out D:=Ev.ev X.Γ X.cal X.cal1 br e
abbrev Cx.evs (X:Cx) (br:Bool) (e:E):Sta→Out (List D):=Ev.evs X.Γ X.cal X.cal1 br e
abbrev Cx.ex (X:Cx) (c:S):Sta→av:=Ev.exS X.Γ X.cal X.cal1 c
abbrev Cx.M (X:Cx):Ej:=model X.W.P X.W.w
structure Z where
 ρ:Rs
 G:Hp
 t:Sta
 σ:List (Option ζ)
 s:π
abbrev Z.h (z:Z):Hp:=z.s.heap.get?
def Mu (ρ:Rs) (a:Δ):Prop:=∃ p∈ρ,a=p.1∨a=p.2
def Own (z:Z) (a:Δ):Prop:=∃ i∈z.t.ow,z.σ[i]? = some (some (.ref a))
def Lc (X:Cx) (a:Δ):Prop:=a=X.env.locals∨∃ x,X.env.cells.lookup x=some a
structure HR (X:Cx) (z:Z):Prop where
 md:Mod X.K X.mg X.base
 fm:X.A.frames=some X.fr
 hd:X.calm=true→X.A.handled=none
 bs:∀ b o,X.base.get? b=some o→z.G b=some o
 gh:Sub z.G z.h
 rl:z.ρ.length=z.t.st.length
 rn:∀ (i j:Nat) (p q:Δ×Δ) (a:Δ),z.ρ[i]? = some p→z.ρ[j]? = some q→(a=p.1∨a=p.2)→(a=q.1∨a=q.2)→i=j
 rg:∀ a,Mu z.ρ a→z.G a=none
 ob:∀ (n:Nat) (o:O) (p:Δ×Δ),z.t.st[n]? = some o→z.ρ[n]? = some p→ObR X.W z.ρ z.G z.h p o
 fu:z.s.heap.FunFrames X.base X.fr
 ff:∀ b∈frs X.fr,z.G b=none∧¬ Mu z.ρ b
 br:Ŝ z.s.gens
 os:z.s.os=X.os
structure COk (X:Cx):Prop where
 un:X.A.units+200<Ū
 kd:X.env.scope.kind = .function
 gl:X.env.globals=ώ
 bl:X.env.builtins=builtinsNs
 ci:∀ x y c,X.env.cells.lookup x=some c→X.env.cells.lookup y=some c→x=y
 ch:∀ x,(X.env.kindOf x=some .cell∨X.env.kindOf x=some .free)→∃ c,X.env.cells.lookup x=some c
def Fre (X:Cx) (z:Z) (a:Δ):Prop:=z.G a=none∧¬ Mu z.ρ a∧a ∉ frs X.fr∧¬ Lc X a
structure Rep (X:Cx) (z:Z):Prop extends HR X z where
 ok:COk X
 lo:∃ m,z.s.heap.Ns X.env.locals m∧∀ (i:Nat) (x:ι) (u:ζ),X.N[i]? = some x→z.σ[i]? = some (some u)→Vis X.env.scope x→lS X.env z.s.heap m x u
 ce:∀ x c,X.env.cells.lookup x=some c→∃ v,z.s.heap.IsCell c v
 fl:∀ a,Lc X a→z.G a=none∧¬ Mu z.ρ a
 el:z.t.env.length=z.σ.length
 sl:z.σ.length=X.N.length
 en:∀ (i:Nat) (d:D),i ∉ z.t.ow→z.t.env[i]? = some (some d)→∃ u,z.σ[i]? = some (some u)∧RD X.W z.ρ z.G d u
 eo:∀ (i:Nat),i∈z.t.ow→∃ d a o,z.t.env[i]? = some (some d)∧z.σ[i]? = some (some (.ref a))∧toO d=some o∧ObR X.W z.ρ z.G z.h (a,a) o∧Fre X z a
 od:∀ (i j:Nat) (a:Δ),i∈z.t.ow→j∈z.t.ow→z.σ[i]? = some (some (.ref a))→z.σ[j]? = some (some (.ref a))→i=j
structure Stp (fr:List CT) (w:Δ→Prop) (z z':Z):Prop where
 pr:z.ρ <+: z'.ρ
 gg:Sub z.G z'.G
 gn:∀ a o,z'.G a=some o→z.G a=some o∨z.h a=none∨w a
 rn:∀ a,Mu z'.ρ a→Mu z.ρ a∨z.h a=none
 th:∀ a o,z.h a=some o→∃ o',z'.h a=some o'
 sm:∀ a o,z.h a=some o→¬ Mu z.ρ a→¬ w a→a ∉ frs fr→z'.h a=some o
 sl:∀ a o,z.h a=some o→¬ Mu z.ρ a→¬ w a→a∈frs fr→∃ sl,z'.h a=some { o with slots:=sl }
theorem Stp.no (x:Stp fr w z z') (e:z'.h a=none):z.h a=none:=by
 cases q:z.h a with
 | none=>rfl
 | some o=>obtain ⟨o',e'⟩:=x.th a o q;rw [e] at e';cases e'
theorem Stp.refl:Stp fr w z z:=⟨ο _,.refl _,fun _ _ e=>.inl e,fun _ h=>.inl h,fun _ o e=>⟨o,e⟩,fun _ _ e _ _ _=>e,fun _ o e _ _ _=>⟨o.slots,e⟩⟩
theorem Stp.trans (x:Stp fr w z z1) (y:Stp fr w1 z1 z2) (k:∀ a,w1 a→w a∨z.h a=none):Stp fr w z z2:=by
 have nm:∀ a o,z.h a=some o→¬ Mu z.ρ a→¬ Mu z1.ρ a:=fun a o e n m=>(x.rn a m).elim n fun q=>by rw [q] at e;cases e
 have nw:∀ a o,z.h a=some o→¬ w a→¬ w1 a:=fun a o e n m=>(k a m).elim n fun q=>by rw [q] at e;cases e
 refine ⟨x.pr.trans y.pr,x.gg.trans y.gg,fun a o e=>?_,fun a m=>?_,fun a o e=>?_,fun a o e n m f=>y.sm a o (x.sm a o e n m f) (nm a o e n) (nw a o e m) f,fun a o e n m f=>?_⟩
 ·rcases y.gn a o e with q | q | q
  ·exact x.gn a o q
  ·exact .inr (.inl (x.no q))
  ·exact .inr ((k a q).symm)
 ·rcases y.rn a m with q | q
  ·exact x.rn a q
  ·exact .inr (x.no q)
 ·obtain ⟨o1,e1⟩:=x.th a o e;exact y.th a o1 e1
 ·obtain ⟨sl,e1⟩:=x.sl a o e n m f
  obtain ⟨sl2,e2⟩:=y.sl a _ e1 (nm a o e n) (nw a o e m) f
  exact ⟨sl2,e2⟩
theorem Stp.mono (x:Stp fr w z z') (k:∀ a,w a→w' a):Stp fr w' z z':=⟨x.pr,x.gg,fun a o e=>(x.gn a o e).imp_right (·.imp_right (k a)),x.rn,x.th,fun a o e n m=>x.sm a o e n fun q=>m (k a q),fun a o e n m=>x.sl a o e n fun q=>m (k a q)⟩
structure Ee (X:Cx) (z z':Z):Prop where
 st:Stp X.fr (Own z) z z'
 sg:z'.σ=z.σ
 en:z'.t.env=z.t.env
 ow:∀ i∈z'.t.ow,i∈z.t.ow
theorem Ee.refl:Ee X z z:=⟨.refl,rfl,rfl,fun _ h=>h⟩
theorem Ee.own (x:Ee X z z'):Own z' a→Own z a:=fun ⟨i,m,e⟩=>⟨i,x.ow i m,x.sg ▸ e⟩
theorem Ee.trans (x:Ee X z z1) (y:Ee X z1 z2):Ee X z z2:=⟨x.st.trans y.st fun _ o=>.inl (x.own o),y.sg.trans x.sg,y.en.trans x.en,fun i m=>x.ow i (y.ow i m)⟩
def Pv (X:Cx) (z:Z) (a:Δ):Prop:=Own z a∨Lc X a
structure Go (X:Cx) (z z':Z):Prop where
 st:Stp X.fr (Pv X z) z z'
 ow:∀ a,Own z' a→Own z a∨z.h a=none
theorem Go.refl:Go X z z:=⟨.refl,fun _ o=>.inl o⟩
theorem Go.trans (x:Go X z z1) (y:Go X z1 z2):Go X z z2:=by
 refine ⟨x.st.trans y.st fun a o=>o.elim (fun q=>(x.ow a q).imp_left .inl) fun q=>.inl (.inr q),fun a o=>?_⟩
 rcases y.ow a o with q | q
 ·exact x.ow a q
 ·exact .inr (x.st.no q)
theorem Ee.go (x:Ee X z z'):Go X z z':=⟨x.st.mono fun _=>.inl,fun _ o=>.inl (x.own o)⟩
def RB (W:Wd) (z:Z) (d:D) (u:ζ):Prop:=RD W z.ρ z.G d u∨∃ i∈z.t.ow,z.σ[i]? = some (some u)∧z.t.env[i]? = some (some d)
def RV (W:Wd) (br:Bool) (c:E) (z:Z) (d:D) (u:ζ):Prop:=RD W z.ρ z.G d u∨(br=true∧∃ i,c = .v i∧i∈z.t.ow∧z.σ[i]? = some (some u)∧z.t.env[i]? = some (some d))
theorem RV.of (h:RD W z.ρ z.G d u):RV W br c z d u:=.inl h
theorem RV.rd (h:RV W false c z d u):RD W z.ρ z.G d u:=h.elim id fun ⟨z,_⟩=>nomatch z
theorem RV.rb (h:RV W br c z d u):RB W z d u:=h.elim .inl fun ⟨_,i,_,m,e⟩=>.inr ⟨i,m,e⟩
theorem RD.st (h:RD W z.ρ z.G d u) (x:Stp fr w z z'):RD W z'.ρ z'.G d u:=h.mono x.pr x.gg
theorem RV.st (h:RV X.W br c z d u) (x:Ee X z z') (I:Rep X z'):RV X.W br c z' d u:=by
 rcases h with h | ⟨b,i,hc,m,e1,e2⟩
 ·exact .inl (h.st x.st)
 ·by_cases q:i∈z'.t.ow
  ·exact .inr ⟨b,i,hc,q,x.sg ▸ e1,x.en ▸ e2⟩
  ·obtain ⟨u',e3,r⟩:=I.en i d q (x.en ▸ e2)
   rw [x.sg,e1] at e3;cases e3
   exact .inl r
theorem RB.st (h:RB X.W z d u) (x:Ee X z z') (I:Rep X z'):RB X.W z' d u:=by
 rcases h with h | ⟨i,m,e1,e2⟩
 ·exact .inl (h.st x.st)
 ·by_cases q:i∈z'.t.ow
  ·exact .inr ⟨i,q,x.sg ▸ e1,x.en ▸ e2⟩
  ·obtain ⟨u',e3,r⟩:=I.en i d q (x.en ▸ e2)
   rw [x.sg,e1] at e3;cases e3
   exact .inl r
def CR (W:Wd) (z:Z):D→ζ→Prop
 | .lst ds,v=>Ra z.h LsO (RDs W z.ρ z.G ds) v
 | .dic ks ds,v=>Rb W z.h ks ds.length (RDs W z.ρ z.G ds) v
 | d,v=>RD W z.ρ z.G d v
theorem CR.of (I:HR X z):∀ {d},RD X.W z.ρ z.G d u→CR X.W z d u
 | .non,h=>h
 | .bl _,h=>h
 | .int _,h=>h
 | .str _,h=>h
 | .ref _,h=>h
 | .ins _ _,h=>h
 | .tup _,h=>h
 | .lst _,⟨a,o,vs,e,g,q,r⟩=>⟨a,o,vs,e,I.gh _ _ g,q,r⟩
 | .dic _ _,⟨a,o,vs,e,m,g,q,l,r⟩=>⟨a,o,vs,e,m,I.gh _ _ g,q,l,r⟩
theorem CR.ob {d:D} (e:toO d=some o) (h:ObR W z.ρ z.G z.h (a,b) o):CR W z d (.ref a):=by
 cases d <;> cases e
 ·obtain ⟨o,vs,_,e,l,r⟩:=h;exact ⟨a,o,vs,rfl,e,l,r⟩
 ·obtain ⟨o,vs,_,m,e,l,n,r⟩:=h;exact ⟨a,o,vs,rfl,m,e,l,n,r⟩
theorem RB.cr0 (I:Rep X z) (h:RB X.W z d u):CR X.W z d u:=by
 rcases h with h | ⟨i,m,e1,e2⟩
 ·exact .of I.toHR h
 ·obtain ⟨d',a,o,e3,e4,e5,r,_⟩:=I.eo i m
  rw [e1] at e4;cases e4
  rw [e2] at e3;cases e3
  exact .ob e5 r
theorem RB.cr (I:Rep X z) (h:RB X.W z d u):CR X.W z (look z.t.st d) u:=by
 have c:=h.cr0 I
 cases d with
 | ref n=>
   obtain ⟨p,e,rfl⟩:=(show RD X.W z.ρ z.G (.ref n) u from c)
   show CR X.W z (match z.t.st[n]? with | some (.lst l)=>.lst l | some (.dic k l)=>.dic k l | _=>.ref n) _
   cases q:z.t.st[n]? with
   | none=>exact c
   | some o=>
     have r:=I.ob n o p q e
     cases o with
     | lst l=>exact .ob (d:=.lst l) rfl r
     | dic k l=>exact .ob (d:=.dic k l) rfl r
     | ins _ _=>exact c
 | _=>exact c
structure Gr (s s':π):Prop where
 os:s'.os=s.os
 gs:s'.gens=s.gens
 k:∀ b o,s.heap.get? b=some o→s'.heap.get? b=some o
theorem Gr.refl:Gr s s:=⟨rfl,rfl,fun _ _ e=>e⟩
theorem Gr.tok {s:π} {t:Nat}:Gr s { s with toks:=t }:=⟨rfl,rfl,fun _ _ e=>e⟩
theorem Gr.hp {s:π} {h:Ϸ} {t:Nat} (k:∀ b o,s.heap.get? b=some o→h.get? b=some o):Gr s { s with heap:=h,toks:=t }:=⟨rfl,rfl,k⟩
theorem Gr.push {s:π} {o:DQ} {t:Nat}:Gr s { s with heap:=s.heap.push o,toks:=t }:=.hp fun _ _ e=>ς _ e
structure Grw (z:Z) (G':Hp) (s':π):Prop where
 gr:Gr z.s s'
 gg:Sub z.G G'
 gh:Sub G' s'.heap.get?
 gn:∀ a o,G' a=some o→z.G a=some o∨z.h a=none
theorem nfu {h h':Ϸ} (x:h.FunFrames base l) (k:∀ b o,h.get? b=some o→h'.get? b=some o):h'.FunFrames base l:=x.of_keeps fun b o e _=>⟨o,k b o e,rfl⟩
theorem HR.th (I:HR X z) (m:Mu z.ρ a):∃ o,z.h a=some o:=by
 obtain ⟨p,hp,e⟩:=m
 obtain ⟨n,hn⟩:=ϱ.mp hp
 have lt:n<z.t.st.length:=by rw [← I.rl];exact (τ.mp hn).1
 obtain ⟨h1,h2⟩:=(I.ob n _ p (Α lt) hn).th
 rcases e with rfl | rfl
 ·exact h1
 ·exact h2
theorem HR.fth (I:HR X z) (m:b∈frs X.fr):∃ o,z.h b=some o:=let ⟨_,o,e,_⟩:=I.fu.mem m;⟨o,e⟩
section
variable {X:Cx} {z:Z} {G':Hp} {s':π}
theorem HR.grow (I:HR X z) (g:Grw z G' s'):HR X { z with G:=G',s:=s' }:=by
 have nn:∀ {a:Δ},(∃ o,z.h a=some o)→z.G a=none→G' a=none:=fun {a} ⟨o,e⟩ n=>by
  cases q:G' a with
  | none=>rfl
  | some o'=>rcases g.gn a o' q with z | z;rw [n] at z;cases z;rw [z] at e;cases e
 exact ⟨I.md,I.fm,I.hd,fun b o e=>g.gg _ _ (I.bs b o e),g.gh,I.rl,I.rn,fun a m=>nn (I.th m) (I.rg a m),fun n o p h1 h2=>(I.ob n o p h1 h2).mono (ο _) g.gg fun a _ o e=>g.gr.k a o e,nfu I.fu g.gr.k,fun b m=>⟨nn (I.fth m) (I.ff b m).1,(I.ff b m).2⟩,by rw [g.gr.gs];exact I.br,g.gr.os.trans I.os⟩
theorem Rep.lth (I:Rep X z) (l:Lc X a):∃ o,z.h a=some o:=by
 rcases l with rfl | ⟨x,e⟩
 ·obtain ⟨m,⟨o,_,_,e,_⟩,_⟩:=I.lo;exact ⟨o,e⟩
 ·obtain ⟨v,o,e,_⟩:=I.ce x a e;exact ⟨o,e⟩
theorem Rep.oth (I:Rep X z) (o:Own z a):Fre X z a∧∃ o,z.h a=some o:=by
 obtain ⟨i,m,e⟩:=o
 obtain ⟨d,b,o,_,e2,_,r,f⟩:=I.eo i m
 rw [e] at e2;cases e2
 exact ⟨f,r.th.1⟩
theorem cX {h h':Ϸ} (k:∀ c v,env.cells.lookup x=some c→h.IsCell c v→h'.IsCell c v) (l:lS env h m x u):lS env h' m x u:=l.imp_right fun ⟨a,c,e,q⟩=>⟨a,c,e,k c _ e q⟩
theorem Rep.fre (I:Rep X z) (n:z.h a=none):Fre X z a∧¬ Own z a:=by
 have no:∀ {P:Prop},(P→∃ o,z.h a=some o)→¬ P:=fun k p=>by obtain ⟨o,e⟩:=k p;rw [n] at e;cases e
 refine ⟨⟨?_,no I.th,no I.fth,no I.lth⟩,no fun o=>(I.oth o).2⟩
 cases q:z.G a with
 | none=>rfl
 | some o=>have:=I.gh a o q;rw [n] at this;cases this
theorem wt {h h':Ϸ} (sl:∀ b o,h.get? b=some o→∃ sl,h'.get? b=some { o with slots:=sl }) (n:h.Ns a m):h'.Ns a m:=let ⟨o,es,ep,e,r⟩:=n;let ⟨_,q⟩:=sl a o e;⟨_,es,ep,q,r⟩
theorem fw {h h':Ϸ} (sl:∀ b o,h.get? b=some o→∃ sl,h'.get? b=some { o with slots:=sl }) (n:h.IsCell c v):h'.IsCell c v:=let ⟨o,e,d⟩:=n;let ⟨_,q⟩:=sl c o e;⟨_,q,d⟩
theorem Rep.grw (I:Rep X z) (os:s'.os=z.s.os) (br:Ŝ s'.gens) (k:∀ b o,z.h b=some o→b ∉ frs X.fr→s'.heap.get? b=some o) (sl:∀ b o,z.h b=some o→∃ sl,s'.heap.get? b=some { o with slots:=sl })
 (gg:Sub z.G G') (gh:Sub G' s'.heap.get?) (gn:∀ a o,G' a=some o→z.G a=some o∨(Fre X z a∧¬ Own z a)):Rep X { z with G:=G',s:=s' }:=by
 have nn:∀ {a:Δ},¬ (Fre X z a∧¬ Own z a)→z.G a=none→G' a=none:=fun {a} f n=>by
  cases q:G' a with
  | none=>rfl
  | some o'=>rcases gn a o' q with z | z;rw [n] at z;cases z;exact (f z).elim
 refine ⟨⟨I.md,I.fm,I.hd,fun b o e=>gg _ _ (I.bs b o e),gh,I.rl,I.rn,fun a m=>nn (fun f=>f.1.2.1 m) (I.rg a m),fun n o p h1 h2=>(I.ob n o p h1 h2).mono (ο _) gg fun a ha o e=>k a o e fun m=>(I.ff a m).2 ⟨p,Ε h2,ha⟩,I.fu.of_keeps fun b o e _=>let ⟨_,q⟩:=sl b o e;⟨_,q,rfl⟩,fun b m=>⟨nn (fun f=>f.1.2.2.1 m) (I.ff b m).1,(I.ff b m).2⟩,br,os.trans I.os⟩,I.ok,?_,fun x c e=>let ⟨v,q⟩:=I.ce x c e;⟨v,fw sl q⟩,fun a l=>⟨nn (fun f=>f.1.2.2.2 l) (I.fl a l).1,(I.fl a l).2⟩,I.el,I.sl,fun i d n e=>let ⟨u,q,r⟩:=I.en i d n e;⟨u,q,r.mono (ο _) gg⟩,fun i m=>?_,I.od⟩
 ·obtain ⟨m,hn,hl⟩:=I.lo
  exact ⟨m,wt sl hn,fun i x u h1 h2 h3=>cX (fun c v _ q=>fw sl q) (hl i x u h1 h2 h3)⟩
 ·obtain ⟨d,a,o,h1,h2,h3,r,f⟩:=I.eo i m
  exact ⟨d,a,o,h1,h2,h3,r.mono (ο _) gg fun b hb o e=>k b o e (by rcases hb with rfl | rfl <;> exact f.2.2.1),nn (fun f=>f.2 ⟨i,m,h2⟩) f.1,f.2⟩
theorem Rep.grow (I:Rep X z) (g:Grw z G' s'):Rep X { z with G:=G',s:=s' }:=I.grw g.gr.os (by rw [g.gr.gs];exact I.br) (fun b o e _=>g.gr.k b o e) (fun b o e=>⟨o.slots,g.gr.k b o e⟩) g.gg g.gh fun a o e=>(g.gn a o e).imp_right I.fre
theorem Grw.stp (g:Grw z G' s'):Stp fr w z { z with G:=G',s:=s' }:=⟨ο _,g.gg,fun a o e=>(g.gn a o e).imp_right .inl,fun _ m=>.inl m,fun a o e=>⟨o,g.gr.k a o e⟩,fun a o e _ _ _=>g.gr.k a o e,fun a o e _ _ _=>⟨o.slots,g.gr.k a o e⟩⟩
theorem Grw.ee (g:Grw z G' s'):Ee X z { z with G:=G',s:=s' }:=⟨g.stp,rfl,rfl,fun _ h=>h⟩
end
def Z.up (z:Z) (s':π):Z:={ z with G:=fun a=>match z.h a with | none=>s'.heap.get? a | some _=>z.G a,s:=s' }
theorem eQ {z:Z} {s':π} (n:z.h a=none):(z.up s').G a=s'.heap.get? a:=by show (match z.h a with | none=>s'.heap.get? a | some _=>z.G a)=_;rw [n]
theorem bZ {z:Z} {s':π} (I:Sub z.G z.h) (g:Gr z.s s'):Grw z (z.up s').G s':=by
 refine ⟨g,fun a o e=>?_,fun a o e=>?_,fun a o e=>?_⟩
 ·show (match z.h a with | none=>s'.heap.get? a | some _=>z.G a)=_
  rw [I a o e];exact e
 ·revert e
  show (match z.h a with | none=>s'.heap.get? a | some _=>z.G a)=_→_
  cases q:z.h a with
  | none=>exact fun e=>e
  | some u=>exact fun e=>g.k a o (I a o e)
 ·cases q:z.h a with
  | none=>exact .inr rfl
  | some u=>
    revert e
    show (match z.h a with | none=>s'.heap.get? a | some _=>z.G a)=_→_
    rw [q];exact .inl
theorem aq {z:Z} {s':π} (I:Sub z.G z.h) (g:Gr z.s s'):Grw z z.G s':=⟨g,.refl _,fun a o e=>g.k a o (I a o e),fun _ _ e=>.inl e⟩
def j6 (z:Z) (p:Nat→Bool) (a:Δ):Prop:=∃ i∈z.t.ow,p i=false∧z.σ[i]? = some (some (.ref a))
open Classical in
noncomputable def Z.rel (z:Z) (p:Nat→Bool):Z:={ z with t:=⟨z.t.env,z.t.ow.filter p,z.t.st⟩,G:=fun a=>if j6 z p a then z.h a else z.G a }
theorem fF {z:Z} (h:j6 z p a):(z.rel p).G a=z.h a:=ZZ h
theorem c6 {z:Z} (h:¬ j6 z p a):(z.rel p).G a=z.G a:=ZY h
theorem jL {d:D} (e:toO d=some o) (r:ObR W ρ G h (a,b) o) (g:Sub G G') (q:G' a=h a):RD W ρ G' d (.ref a):=by
 cases d <;> cases e
 ·obtain ⟨o,vs,_,e,l,t⟩:=r;exact ⟨a,o,vs,rfl,q.trans e,l,t.mono (ο _) g⟩
 ·obtain ⟨o,vs,_,m,e,l,n,t⟩:=r;exact ⟨a,o,vs,rfl,m,q.trans e,l,n,t.mono (ο _) g⟩
theorem Rep.rel (I:Rep X z) (p:Nat→Bool):Rep X (z.rel p)∧Ee X z (z.rel p):=by
 have own:∀ {a},j6 z p a→Own z a:=fun ⟨i,m,_,e⟩=>⟨i,m,e⟩
 have gg:Sub z.G (z.rel p).G:=fun a o e=>by
  by_cases q:j6 z p a
  ·rw [(I.oth (own q)).1.1] at e;cases e
  ·rw [c6 q];exact e
 have nn:∀ {a},¬ Own z a→z.G a=none→(z.rel p).G a=none:=fun n g=>by rw [c6 fun q=>n (own q)];exact g
 refine ⟨⟨⟨I.md,I.fm,I.hd,fun b o e=>gg _ _ (I.bs b o e),fun a o e=>?_,I.rl,I.rn,fun a m=>nn (fun q=>(I.oth q).1.2.1 m) (I.rg a m),fun n o p h1 h2=>(I.ob n o p h1 h2).mono (ο _) gg fun _ _ _ e=>e,I.fu,fun b m=>⟨nn (fun q=>(I.oth q).1.2.2.1 m) (I.ff b m).1,(I.ff b m).2⟩,I.br,I.os⟩,I.ok,I.lo,I.ce,fun a l=>⟨nn (fun q=>(I.oth q).1.2.2.2 l) (I.fl a l).1,(I.fl a l).2⟩,I.el,I.sl,fun i d n e=>?_,fun i m=>?_,fun i j a m1 m2=>I.od i j a (ϔ.mp m1).1 (ϔ.mp m2).1⟩,⟨⟨ο _,gg,fun a o e=>?_,fun _ m=>.inl m,fun a o e=>⟨o,e⟩,fun _ _ e _ _ _=>e,fun _ o e _ _ _=>⟨o.slots,e⟩⟩,rfl,rfl,fun i m=>(ϔ.mp m).1⟩⟩
 ·by_cases q:j6 z p a
  ·rw [fF q] at e;exact e
  ·rw [c6 q] at e;exact I.gh a o e
 ·by_cases m:i∈z.t.ow
  ·have pf:p i=false:=by
    cases q:p i with
    | false=>rfl
    | true=>exact ZX (ϔ.mpr ⟨m,q⟩) n
   obtain ⟨d',a,o,h1,h2,h3,r,f⟩:=I.eo i m
   rw [show z.t.env[i]? = some (some d) from e] at h1;cases h1
   exact ⟨_,h2,jL h3 r gg (fF ⟨i,m,pf,h2⟩)⟩
  ·obtain ⟨u,q,r⟩:=I.en i d m e
   exact ⟨u,q,r.mono (ο _) gg⟩
 ·obtain ⟨m1,m2⟩:=ϔ.mp m
  obtain ⟨d',a,o,h1,h2,h3,r,f⟩:=I.eo i m1
  refine ⟨d',a,o,h1,h2,h3,r.mono (ο _) gg fun _ _ _ e=>e,?_,f.2⟩
  refine (c6 fun ⟨j,mj,pj,ej⟩=>?_).trans f.1
  rw [I.od j i a mj m1 ej h2,m2] at pj;cases pj
 ·by_cases q:j6 z p a
  ·exact .inr (.inr (own q))
  ·rw [c6 q] at e;exact .inl e
inductive Tr (h:Ϸ) (a:Δ) (cls:ζ) (dx:Option Δ) (T:Δ) (fl:ζ):Prop
 | mk (oe:_) (vs:_) (oT:_) (ts:_) (_:h.get? a=some oe) (_:(oe.cls=cls∧oe.dict=dx)) (_:oe.data = .fields vs) (_:vs[1]? = some (.ref T)) (_:T≠a) (_:h.get? T=some oT) (_:oT.data = .fields ts) (_:ts[3]? = some fl)
inductive Rw (h:Ϸ) (a:Δ) (cls:ζ) (dx:Option Δ):Prop
 | mk (oe:_) (vs:_) (_:h.get? a=some oe) (_:(oe.cls=cls∧oe.dict=dx)) (_:oe.data = .fields vs) (_:vs[1]? = some .none)
inductive XI (W:Wd) (ρ:Rs) (G:Hp) (c:Nat) (l:List D) (cls:ζ) (dx:Option Δ):Prop
 | mk (i:CI) (_:W.ci[c]? = some i) (_:W.what[c]? = some 2) (_:cls = .ref i.ad) (_:l.length≤i.nm.length) (_:(l = []∧dx=none)∨∃ d od vs,dx=some d∧G d=some od∧NsO od (i.nm.zip vs)∧RDs W ρ G l vs)
def XR (W:Wd) (z:Z) (c:Nat) (l:List D) (cls:ζ) (dx:Option Δ):Prop:=XI W z.ρ z.G c l cls dx
def Nob (X:Cx) (z z':Z) (a:Δ):Prop:=z.h a=none∧Fre X z' a∧¬ Own z' a
inductive XO (X:Cx) (z z':Z) (c:Nat) (l:List D) (e:ζ):Prop
 | mk (a:_) (cls:_) (dx:_) (_:e = .ref a) (_:XR X.W z' c l cls dx) (_:Nob X z z' a) (_:(Rw z'.s.heap a cls dx∨∃ T fl,Tr z'.s.heap a cls dx T fl∧(fl = .none∨fl=Ö X.env.locals)∧Nob X z z' T))
theorem XO.less (h:XO X z1 z' c l e) (k:∀ a,z1.h a=none→z.h a=none):XO X z z' c l e:=by
 obtain ⟨a,cls,dx,e,r,n,h⟩:=h
 exact ⟨a,cls,dx,e,r,⟨k a n.1,n.2⟩,h.imp_right fun ⟨T,fl,t,q,n⟩=>⟨T,fl,t,q,k T n.1,n.2⟩⟩
section
variable {α β γ δ:Type} {X:Cx}
inductive Pe (X:Cx) (z:Z) (o:Out α) (R:Z→α→β→Prop) (u:β) (s':π):Prop
 | mk (z':_) (d:_) (_:z'.s=s') (_:o = .ok d z'.t) (_:Ee X z z') (_:Rep X z') (_:R z' d u)
inductive Px (X:Cx) (z:Z) (o:Out α) (x:ζ) (s':π):Prop
 | mk (z':_) (c:_) (l:_) (_:z'.s=s') (_:o = .exc c l z'.t) (_:Ee X z z') (_:Rep X z') (_:XO X z z' c l x)
abbrev Wp (X:Cx) (t:EB β) (z:Z) (o:Out α) (R:Z→α→β→Prop):Prop:=Β X.M X.A t (Pe X z o R) (Px X z o) z.s
def Jg (X:Cx) (t:EB β) (m:Sta→Out α) (R:Z→α→β→Prop):Prop:=∀ z,Rep X z→m z.t≠.bad→Wp X t z (m z.t) R
theorem Pe.less {z1:Z} {o:Out α} {R:Z→α→β→Prop} (x:Ee X z z1) (h:Pe X z1 o R u s'):Pe X z o R u s':=let ⟨z',d,e,q,y,J,r⟩:=h;⟨z',d,e,q,x.trans y,J,r⟩
theorem Px.less {z1:Z} {o:Out α} (x:Ee X z z1) (h:Px X z1 o u s'):Px X z o u s':=let ⟨z',c,l,e,q,y,r,n⟩:=h;⟨z',c,l,e,q,x.trans y,r,n.less fun _=>x.st.no⟩
theorem Px.map {o:Out α} {f:α→Sta→Out γ} (h:Px X z o u s'):Px X z (o.bind f) u s':=let ⟨z',c,l,e,q,y,J,r⟩:=h;⟨z',c,l,e,by rw [q];rfl,y,J,r⟩
theorem Wp.less {t:EB β} {z1:Z} {o:Out α} {R:Z→α→β→Prop} (x:Ee X z z1) (h:Wp X t z1 o R):Β X.M X.A t (Pe X z o R) (Px X z o) z1.s:=Υ h (fun _ _ h=>h.less x) fun _ _ h=>h.less x
theorem Jg.go {t:EB β} {m:Sta→Out α} {R:Z→α→β→Prop} {f:α→Sta→Out γ} {o:Out γ} {K:β→π→Prop} (h:Jg X t m R) (x:Ee X z z1) (I:Rep X z1) (e:o=(m z1.t).bind f) (nb:o≠.bad)
 (k:∀ z2 d u,Ee X z1 z2→Ee X z z2→Rep X z2→R z2 d u→o=f d z2.t→K u z2.s):Β X.M X.A t K (Px X z o) z1.s:=by
 subst e
 refine Υ (h z1 I fun q=>nb (by rw [q];rfl)) (fun u s' ⟨z2,d,e,q,y,I1,r⟩=>?_) fun u s' h=>(h.less x).map
 subst e;exact k z2 d u y (x.trans y) I1 r (by rw [q];rfl)
theorem Jg.at {t:EB β} {m:Sta→Out α} {R:Z→α→β→Prop} {o:Out α} (h:Jg X t m R) (x:Ee X z z1) (I:Rep X z1) (e:o=m z1.t) (nb:o≠.bad):Β X.M X.A t (Pe X z o R) (Px X z o) z1.s:=by subst e;exact (h z1 I nb).less x
def Dn (X:Cx) (z:Z) (d:D) (u:ζ) (s':π):Prop:=Gr z.s s'∧RD X.W z.ρ (z.up s').G d u
theorem Dn.pe (I:Rep X z) (h:Dn X z d u s'):Pe X z (.ok d z.t) (RV X.W br c) u s':=⟨z.up s',d,rfl,rfl,(bZ I.gh h.1).ee,I.grow (bZ I.gh h.1),.of h.2⟩
theorem Dn.flat {s':π} (g:Gr z.s s') (h:∀ G,RD X.W z.ρ G d u):Dn X z d u s':=⟨g,h _⟩
theorem Dn.old (I:Rep X z) {s':π} (g:Gr z.s s') (h:RD X.W z.ρ z.G d u):Dn X z d u s':=⟨g,h.mono (ο _) (bZ I.gh g).gg⟩
theorem Dn.at (x:Ee X z0 z) (I:Rep X z) (e:o = .ok d z.t) (h:Dn X z d u s'):Pe X z0 o (RV X.W br c) u s':=e ▸ (h.pe I).less x
theorem cg {t:EB ζ} {o:Out D} (x:Ee X z0 z) (I:Rep X z) (e:o=Out.of z.t od) (nb:o≠.bad) (h:∀ d,od=some d→Β X.M X.A t (Dn X z d) (fun _ _=>False) z.s):Β X.M X.A t (Pe X z0 o (RV X.W br c)) (Px X z0 o) z.s:=by
 cases od with
 | none=>exact ZX e nb
 | some d=>exact Υ (h d rfl) (fun _ _ h=>h.at x I e) fun _ _ z=>z.elim
end
theorem big (h:n≤100000):n≤ϛ:=ϖ h (by rw [Ċ];decide)
theorem ke:∀ {ds es} {b},cP f ds es=some b→(∀ j (h1:j<ds.length) (h2:j<es.length),∃ c,f ds[j] es[j]=some c)∧b=(ë (min ds.length es.length)).all fun j=>(f (ds[j]?.getD .non) (es[j]?.getD .non)).getD false
 | [],es,b,h=>by cases h;exact ⟨fun j h=>ZX h (Ť _),by simp⟩
 | d :: ds,[],b,h=>by cases h;exact ⟨fun j _ h=>ZX h (Ť _),by simp⟩
 | d :: ds,e :: es,b,h=>by
   unfold cP at h
   cases q:f d e with
   | none=>rw [q] at h;cases h
   | some x=>
     rw [q] at h
     cases q2:cP f ds es with
     | none=>rw [q2] at h;cases h
     | some y=>
       rw [q2] at h
       cases h
       obtain ⟨i1,i2⟩:=ke q2
       refine ⟨fun j h1 h2=>?_,?_⟩
       ·cases j with
        | zero=>exact ⟨x,q⟩
        | succ j=>exact i1 j (š h1) (š h2)
       ·have m:min (d :: ds).length (e :: es).length=min ds.length es.length+1:=by simp only [Κ];omega
        rw [m,List.range_succ_eq_map,List.all_cons,List.all_map,i2]
        simp only [DZ,ń,q]
        rfl
theorem zo (f:sh d=1):∃ l,d = .tup l:=by cases d <;> first | exact ⟨_,rfl⟩ | cases f
theorem zm (f:sh d=2):∃ l,d = .lst l:=by cases d <;> first | exact ⟨_,rfl⟩ | cases f
theorem wx (d:D):sh d<4:=by cases d <;> exact Ξ rfl
theorem zp:∀ x y:Fin 4,¬ (x.1=3∨y.1=3)→¬ (x.1=0∧y.1=0)→¬ x.1=y.1→(x.1=0∧(y.1=1∨y.1=2))∨((x.1=1∨x.1=2)∧y.1=0)∨(x.1=1∧y.1=2)∨(x.1=2∧y.1=1):=by decide +kernel
theorem qJ (h:eq0 d e=some b):(sh d=0∧sh e=0∧b=eqf d e)∨(b=false∧((sh d=0∧(sh e=1∨sh e=2))∨((sh d=1∨sh d=2)∧sh e=0)∨(sh d=1∧sh e=2)∨(sh d=2∧sh e=1))):=by
 unfold eq0 at h
 split at h
 ·cases h
 ·rename_i h3
  split at h
  ·rename_i h0;cases h;exact .inl ⟨h0.1,h0.2,rfl⟩
  ·split at h
   ·cases h
   ·cases h
    refine .inr ⟨rfl,?_⟩
    rename_i h0 h1
    exact zp ⟨sh d,wx d⟩ ⟨sh e,wx e⟩ h3 h0 h1
theorem pD (h:eqv (n+1) d e=some b):(∃ da db y,d = .tup da∧e = .tup db∧cP (eqv n) da db=some y∧b=(y && da.length == db.length)) ∨
 (∃ da db,d = .lst da∧e = .lst db∧((da.length=db.length∧cP (eqv n) da db=some b)∨(da.length≠db.length∧b=false)))∨eq0 d e=some b:=by
 cases d with
 | tup da=>cases e with
   | tup db=>
     obtain ⟨y,a,c⟩:=ψ.mp (show (cP (eqv n) da db).map (· && da.length == db.length)=some b from h)
     exact .inl ⟨da,db,y,rfl,rfl,a,c.symm⟩
   | _=>exact .inr (.inr h)
 | lst da=>cases e with
   | lst db=>
     have h':(if da.length=db.length then cP (eqv n) da db else some false)=some b:=h
     split at h'
     ·rename_i z;exact .inr (.inl ⟨da,db,rfl,rfl,.inl ⟨z,h'⟩⟩)
     ·rename_i z;cases h';exact .inr (.inl ⟨da,db,rfl,rfl,.inr ⟨z,rfl⟩⟩)
   | _=>exact .inr (.inr h)
 | _=>exact .inr (.inr h)
open SeqAt
def E3 (A:ϒ) (s:π) (u v:ζ) (b:Bool):Prop:=EqAt A s u v b∧RcAt A s u v b∧RcNeAt A s u v (!b)
theorem t8 (f1:sh d=0) (f2:sh e=0) (h1:RD W ρ G d u) (h2:RD W ρ G e v):(u=v→eqf d e=true)∧∀ A s,E3 A s u v (eqf d e):=by
 cases d with
 | non=>
   cases (show u=ϗ from h1)
   cases e with
   | non=>cases (show v=ϗ from h2);exact ⟨fun _=>rfl,fun A s=>⟨.same _,.none_none,.none_none⟩⟩
   | bl b=>cases (show v=Ϫ b from h2);exact ⟨nofun,fun A s=>⟨.none_bool _,.none_bool _,.none_bool _⟩⟩
   | int b=>obtain ⟨t,rfl⟩:=(show ∃ t,v=Value.int b t from h2);exact ⟨nofun,fun A s=>⟨.none_int _ _,.none_int _ _,.none_int _ _⟩⟩
   | str b=>obtain ⟨t,rfl⟩:=(show ∃ t,v=Value.str b t from h2);exact ⟨nofun,fun A s=>⟨.none_str _ _,.none_str _ _,.none_str _ _⟩⟩
   | _=>cases f2
 | bl a=>
   cases (show u=Ϫ a from h1)
   cases e with
   | non=>cases (show v=ϗ from h2);exact ⟨nofun,fun A s=>⟨.bool_none _,.bool_none _,.bool_none _⟩⟩
   | bl b=>cases (show v=Ϫ b from h2);exact ⟨fun z=>by cases z;exact ZT a,fun A s=>⟨.bool_bool _ _,.bool_bool _ _,.bool_bool _ _⟩⟩
   | int b=>obtain ⟨t,rfl⟩:=(show ∃ t,v=Value.int b t from h2);exact ⟨nofun,fun A s=>⟨.bool_int _ _ _,.bool_int _ _ _,.bool_int _ _ _⟩⟩
   | str b=>obtain ⟨t,rfl⟩:=(show ∃ t,v=Value.str b t from h2);exact ⟨nofun,fun A s=>⟨.bool_str _ _ _,.bool_str _ _ _,.bool_str _ _ _⟩⟩
   | _=>cases f2
 | int a=>
   obtain ⟨t,rfl⟩:=(show ∃ t,u=Value.int a t from h1)
   cases e with
   | non=>cases (show v=ϗ from h2);exact ⟨nofun,fun A s=>⟨.int_none _ _,.int_none _ _,.int_none _ _⟩⟩
   | bl b=>cases (show v=Ϫ b from h2);exact ⟨nofun,fun A s=>⟨.int_bool _ _ _,.int_bool _ _ _,.int_bool _ _ _⟩⟩
   | int b=>obtain ⟨t,rfl⟩:=(show ∃ t,v=Value.int b t from h2);exact ⟨fun z=>by cases z;exact ZT a,fun A s=>⟨.int_int _ _ _ _,.int_int _ _ _ _,.int_int _ _ _ _⟩⟩
   | str b=>obtain ⟨t,rfl⟩:=(show ∃ t,v=Value.str b t from h2);exact ⟨nofun,fun A s=>⟨.int_str _ _ _ _,.int_str _ _ _ _,.int_str _ _ _ _⟩⟩
   | _=>cases f2
 | str a=>
   obtain ⟨t,rfl⟩:=(show ∃ t,u=Value.str a t from h1)
   cases e with
   | non=>cases (show v=ϗ from h2);exact ⟨nofun,fun A s=>⟨.str_none _ _,.str_none _ _,.str_none _ _⟩⟩
   | bl b=>cases (show v=Ϫ b from h2);exact ⟨nofun,fun A s=>⟨.str_bool _ _ _,.str_bool _ _ _,.str_bool _ _ _⟩⟩
   | int b=>obtain ⟨t,rfl⟩:=(show ∃ t,v=Value.int b t from h2);exact ⟨nofun,fun A s=>⟨.str_int _ _ _ _,.str_int _ _ _ _,.str_int _ _ _ _⟩⟩
   | str b=>obtain ⟨t,rfl⟩:=(show ∃ t,v=Value.str b t from h2);exact ⟨fun z=>by cases z;exact ZT a,fun A s=>⟨.str_str _ _ _ _,.str_str _ _ _ _,.str_str _ _ _ _⟩⟩
   | _=>cases f2
 | _=>cases f1
theorem jb {s:π} (f:sh d=0) (h:RD W ρ G d u) (hu:A.units<Ū):(∀ b,u≠.ref b)∧∀ b its,(s.heap.IsTuple b its∨s.heap.IsList b its)→E3 A s u (.ref b) false∧E3 A s (.ref b) u false:=by
 cases d with
 | non=>cases (show u=ϗ from h);exact ⟨nofun,fun b its p=>p.elim (fun p=>⟨⟨.none_tuple p hu,.none_tuple p hu,.none_tuple p hu⟩,.tuple_none p hu,.tuple_none p hu,.tuple_none p hu⟩) fun p=>⟨⟨.none_list p hu,.none_list p hu,.none_list p hu⟩,.list_none p hu,.list_none p hu,.list_none p hu⟩⟩
 | bl k=>cases (show u=Ϫ k from h);exact ⟨nofun,fun b its p=>p.elim (fun p=>⟨⟨.bool_tuple k p hu,.bool_tuple k p hu,.bool_tuple k p hu⟩,.tuple_bool k p hu,.tuple_bool k p hu,.tuple_bool k p hu⟩) fun p=>⟨⟨.bool_list k p hu,.bool_list k p hu,.bool_list k p hu⟩,.list_bool k p hu,.list_bool k p hu,.list_bool k p hu⟩⟩
 | int k=>obtain ⟨t,rfl⟩:=(show ∃ t,u=Value.int k t from h);exact ⟨nofun,fun b its p=>p.elim (fun p=>⟨⟨.int_tuple k t p hu,.int_tuple k t p hu,.int_tuple k t p hu⟩,.tuple_int k t p hu,.tuple_int k t p hu,.tuple_int k t p hu⟩) fun p=>⟨⟨.int_list k t p hu,.int_list k t p hu,.int_list k t p hu⟩,.list_int k t p hu,.list_int k t p hu,.list_int k t p hu⟩⟩
 | str k=>obtain ⟨t,rfl⟩:=(show ∃ t,u=Value.str k t from h);exact ⟨nofun,fun b its p=>p.elim (fun p=>⟨⟨.str_tuple k t p hu,.str_tuple k t p hu,.str_tuple k t p hu⟩,.tuple_str k t p hu,.tuple_str k t p hu,.tuple_str k t p hu⟩) fun p=>⟨⟨.str_list k t p hu,.str_list k t p hu,.str_list k t p hu⟩,.list_str k t p hu,.list_str k t p hu,.list_str k t p hu⟩⟩
 | _=>cases f
theorem CR.fl (f:sh d=0) (h:CR W z d u):RD W z.ρ z.G d u:=by cases d <;> first | exact h | cases f
theorem tpt {h:Ϸ} (e:h.get? a=some o) (t:TpO o l):h.IsTuple a l.toArray:=⟨o,e,t.1,t.2.1⟩
theorem lsl {h:Ϸ} (e:h.get? a=some o) (t:LsO o l):h.IsList a l.toArray:=by obtain ⟨⟨n,rfl⟩,_⟩:=t;exact ⟨_,e,rfl,n,rfl⟩
theorem E3.refs (ne:l=b→k=true) (h:RcAt A s (.ref l) (.ref b) k) (h2:RcNeAt A s (.ref l) (.ref b) (!k)):E3 A s (.ref l) (.ref b) k:=by
 refine ⟨?_,h,h2⟩
 by_cases q:l=b
 ·subst q;rw [ne rfl];exact .same _
 ·exact .of_refs q h
theorem e3 (I:HR X z):∀ (n:Nat) {d e u v b},eqv n d e=some b→CR X.W z d u→CR X.W z e v→(u=v→b=true)∧∀ A,A.units+n+1<Ū→E3 A z.s u v b:=by
 have low:∀ {d e u v b},eq0 d e=some b→CR X.W z d u→CR X.W z e v→(u=v→b=true)∧∀ A,A.units<Ū→E3 A z.s u v b:=by
  intro d e u v b h h1 h2
  have it:∀ {d:D} {u:ζ},(sh d=1∨sh d=2)→CR X.W z d u→∃ a its,u = .ref a∧((sh d=1∧z.s.heap.IsTuple a its)∨(sh d=2∧z.s.heap.IsList a its)):=fun {d u} f h=>by
   rcases f with f | f
   ·obtain ⟨l,rfl⟩:=zo f;obtain ⟨a,o,vs,rfl,e,t,_⟩:=h;exact ⟨a,_,rfl,.inl ⟨rfl,tpt (I.gh _ _ e) t⟩⟩
   ·obtain ⟨l,rfl⟩:=zm f;obtain ⟨a,o,vs,rfl,e,t,_⟩:=h;exact ⟨a,_,rfl,.inr ⟨rfl,lsl e t⟩⟩
  rcases qJ h with ⟨f1,f2,rfl⟩ | ⟨rfl,c⟩
  ·obtain ⟨p,q⟩:=t8 f1 f2 (h1.fl f1) (h2.fl f2);exact ⟨p,fun A _=>q A _⟩
  ·rcases c with ⟨c1,c2⟩ | ⟨c1,c2⟩ | ⟨c1,c2⟩ | ⟨c1,c2⟩
   ·obtain ⟨a,its,rfl,w⟩:=it c2 h2
    have w:=w.imp Dc Dc
    exact ⟨fun q=>ZX q ((jb (s:=z.s) (A:={ }) c1 (h1.fl c1) (by decide)).1 a),fun A hu=>((jb c1 (h1.fl c1) hu).2 a its w).1⟩
   ·obtain ⟨a,its,rfl,w⟩:=it c1 h1
    have w:=w.imp Dc Dc
    exact ⟨fun q=>ZX q.symm ((jb (s:=z.s) (A:={ }) c2 (h2.fl c2) (by decide)).1 a),fun A hu=>((jb c2 (h2.fl c2) hu).2 a its w).2⟩
   ·obtain ⟨a,i1,rfl,w1⟩:=it (.inl c1) h1
    obtain ⟨b,i2,rfl,w2⟩:=it (.inr c2) h2
    have w1:=w1.resolve_right fun z=>by omega
    have w2:=w2.resolve_left fun z=>by omega
    exact ⟨fun q=>ZX (đ q).symm (ne_of_list_tuple w2.2 w1.2),fun A hu=>⟨.tuple_list w1.2 w2.2 hu,.tuple_list w1.2 w2.2 hu,.tuple_list w1.2 w2.2 hu⟩⟩
   ·obtain ⟨a,i1,rfl,w1⟩:=it (.inr c1) h1
    obtain ⟨b,i2,rfl,w2⟩:=it (.inl c2) h2
    have w1:=w1.resolve_left fun z=>by omega
    have w2:=w2.resolve_right fun z=>by omega
    exact ⟨fun q=>ZX (đ q) (ne_of_list_tuple w1.2 w2.2),fun A hu=>⟨.list_tuple w1.2 w2.2 hu,.list_tuple w1.2 w2.2 hu,.list_tuple w1.2 w2.2 hu⟩⟩
 intro n
 induction n with
 | zero=>intro d e u v b h h1 h2;obtain ⟨p,q⟩:=low h h1 h2;exact ⟨p,fun A hu=>q A (by omega)⟩
 | succ n ih=>
   intro d e u v b h h1 h2
   have items:∀ {da db:List D} {vs ws:List ζ} {y:Bool},cP (eqv n) da db=some y→RDs X.W z.ρ z.G da vs→RDs X.W z.ρ z.G db ws→(vs=ws→y=true)∧∃ f:Nat→Bool,(ë (min vs.toArray.size ws.toArray.size)).all f=y∧∀ A,A.units+n+1<Ū→∀ j (h1:j<vs.toArray.size) (h2:j<ws.toArray.size),EqAt A z.s vs.toArray[j] ws.toArray[j] (f j):=by
    intro da db vs ws y q r1 r2
    obtain ⟨q1,q2⟩:=ke q
    have l3:=r1.len
    have l4:=r2.len
    have one:∀ j (h1:j<vs.length) (h2:j<ws.length),∃ c,(eqv n (da[j]?.getD .non) (db[j]?.getD .non)).getD false=c∧(vs[j]=ws[j]→c=true)∧∀ A,A.units+n+1<Ū→EqAt A z.s vs[j] ws[j] c:=fun j h1 h2=>by
     have e1:=Α (l:=da) (i:=j) (by omega)
     have e2:=Α (l:=db) (i:=j) (by omega)
     obtain ⟨x1,f1,w1⟩:=r1.get e1
     obtain ⟨y1,f2,w2⟩:=r2.get e2
     rw [Α h1] at f1;rw [Α h2] at f2;cases f1;cases f2
     obtain ⟨c,hc⟩:=q1 j (by omega) (by omega)
     obtain ⟨p,q⟩:=ih hc (.of I w1) (.of I w2)
     exact ⟨c,by rw [e1,e2];simp only [ń,hc],p,fun A hu=>(q A hu).1⟩
    refine ⟨fun q=>?_,fun j=>(eqv n (da[j]?.getD .non) (db[j]?.getD .non)).getD false,?_,fun A hu j h1 h2=>?_⟩
    ·subst q
     rw [q2,ϣ]
     intro j hj
     have hj:=DB.mp hj
     obtain ⟨c,e,p,_⟩:=one j (by omega) (by omega)
     rw [e];exact p rfl
    ·rw [q2,Ο,Ο,← l3,← l4]
    ·rw [Ο] at h1 h2
     obtain ⟨c,e,_,p⟩:=one j h1 h2
     show EqAt A z.s vs[j] ws[j] ((eqv n (da[j]?.getD .non) (db[j]?.getD .non)).getD false)
     rw [e];exact p A hu
   rcases pD h with ⟨da,db,y,rfl,rfl,q,rfl⟩ | ⟨da,db,rfl,rfl,q⟩ | h
   ·obtain ⟨a,o,vs,rfl,t,to,r1⟩:=h1
    obtain ⟨a',o',ws,rfl,t',to',r2⟩:=h2
    obtain ⟨sm,f,val,its⟩:=items q r1 r2
    have l3:=r1.len
    have l4:=r2.len
    have same:a=a'→(y && da.length == db.length)=true:=fun z=>by
     subst z
     rw [t] at t';cases t'
     obtain ⟨n1,e1⟩:=to.2.1
     obtain ⟨n2,e2⟩:=to'.2.1
     rw [e1] at e2
     injection e2 with e2
     have e:vs=ws:=by simpa using ZS Ga e2
     rw [sm e,l3,l4,e];simp
    have lz:(vs.toArray.size == ws.toArray.size)=(da.length == db.length):=by rw [l3,l4];rfl
    refine ⟨fun z=>same (đ z),fun A hu=>.refs same ?_ ?_⟩
    ·rw [← val,← lz];exact .tuples (tpt (I.gh _ _ t) to) (tpt (I.gh _ _ t') to') (by omega) (its _ (show A.units+1+n+1<Ū by omega))
    ·rw [← val,← lz];exact .tuples (tpt (I.gh _ _ t) to) (tpt (I.gh _ _ t') to') (by omega) (its _ (show A.units+1+n+1<Ū by omega))
   ·obtain ⟨a,o,vs,rfl,t,to,r1⟩:=h1
    obtain ⟨a',o',ws,rfl,t',to',r2⟩:=h2
    have l3:=r1.len
    have l4:=r2.len
    have sv:a=a'→vs=ws:=fun z=>by
     subst z
     rw [t] at t';cases t'
     obtain ⟨⟨n1,rfl⟩,_⟩:=to
     obtain ⟨⟨n2,e2⟩,_⟩:=to'
     injection e2 with _ _ e2
     injection e2 with e2
     simpa using ZS Ga e2
    rcases q with ⟨hl,q⟩ | ⟨hl,rfl⟩
    ·obtain ⟨sm,f,val,its⟩:=items q r1 r2
     have m:min vs.toArray.size ws.toArray.size=vs.toArray.size:=by simp;omega
     rw [m] at val
     refine ⟨fun z=>sm (sv (đ z)),fun A hu=>.refs (fun z=>sm (sv z)) ?_ ?_⟩
     ·rw [← val];exact .lists (lsl t to) (lsl t' to') (by simp;omega) (by omega) (its _ (show A.units+1+n+1<Ū by omega))
     ·rw [← val];exact .lists (lsl t to) (lsl t' to') (by simp;omega) (by omega) (its _ (show A.units+1+n+1<Ū by omega))
    ·have ne:a=a'→false=true:=fun z=>by rw [sv z] at l3;omega
     exact ⟨fun z=>ne (đ z),fun A hu=>.refs ne (.lists_lengths (lsl t to) (lsl t' to') (by simp;omega) (by omega)) (.lists_lengths (lsl t to) (lsl t' to') (by simp;omega) (by omega))⟩
   ·obtain ⟨p,q⟩:=low h h1 h2;exact ⟨p,fun A hu=>q A (by omega)⟩
theorem nJ:∀ {l} {b},inD d l=some b→(∀ j (h:j<l.length),∃ c,eqv 55 l[j] d=some c)∧b=l.any fun e=>(eqv 55 e d).getD false
 | [],b,h=>by cases h;exact ⟨fun j h=>ZX h (Ť _),rfl⟩
 | e :: r,b,h=>by
   unfold inD at h
   cases q:eqv 55 e d with
   | none=>rw [q] at h;cases h
   | some x=>
     rw [q] at h
     obtain ⟨y,q2,rfl⟩:=ψ.mp h
     obtain ⟨i1,i2⟩:=nJ q2
     refine ⟨fun j h=>?_,by rw [List.any_cons,q,i2];rfl⟩
     cases j with
     | zero=>exact ⟨x,q⟩
     | succ j=>exact i1 j (š h)
theorem dN (I:HR X z) (hu:A.units+57<Ū) (q:inD d l=some b) (r:RDs X.W z.ρ z.G l vs) (hd:CR X.W z d v):∃ e:ζ→Bool,(∀ y,y∈vs.toArray→EqAt A z.s y v (e y))∧vs.toArray.any e=b:=by
 obtain ⟨q1,q2⟩:=nJ q
 have l3:=r.len
 have eqs:∀ j (h1:j<vs.length) (h2:j<l.length),EqAt A z.s vs[j] v ((eqv 55 l[j] d).getD false):=fun j h1 h2=>by
  obtain ⟨x1,e1,w1⟩:=r.get (Α h2)
  rw [Α h1] at e1;cases e1
  obtain ⟨c,hc⟩:=q1 j h2
  rw [hc]
  exact ((e3 I 55 hc (.of I w1) hd).2 A (by omega)).1
 have cl:∀ y,Decidable (∃ j,∃ (h1:j<vs.length) (h2:j<l.length),vs[j]=y∧(eqv 55 l[j] d).getD false=true):=fun y=>Classical.propDecidable _
 refine ⟨fun y=>@decide _ (cl y),fun y hy=>?_,?_⟩
 ·rcases Classical.em (∃ j,∃ (h1:j<vs.length) (h2:j<l.length),vs[j]=y∧(eqv 55 l[j] d).getD false=true) with c | c
  ·obtain ⟨j,h1,h2,e,t⟩:=id c
   have w:=eqs j h1 h2
   rw [e,t] at w
   dsimp only
   rw [show @decide _ (cl y)=true from @ZW _ (cl y) c]
   exact w
  ·obtain ⟨j,h1,e⟩:=EH (by simpa using hy)
   have w:=eqs j h1 (by omega)
   have t:(eqv 55 l[j] d).getD false=false:=Fd.mpr fun t=>c ⟨j,h1,by omega,e,t⟩
   rw [t,e] at w
   dsimp only
   rw [show @decide _ (cl y)=false from @ZV _ (cl y) c]
   exact w
 ·rw [q2,List.any_toArray,Bool.eq_iff_iff,Ą,Ą]
  constructor
  ·rintro ⟨y,hy,t⟩
   obtain ⟨j,h1,h2,e,t⟩:=@of_decide_eq_true _ (cl _) t
   exact ⟨l[j],ï h2,t⟩
  ·rintro ⟨e,he,t⟩
   obtain ⟨j,h2,rfl⟩:=EH he
   exact ⟨vs[j]'(by omega),ï _,@ZW _ (cl _) ⟨j,by omega,h2,rfl,t⟩⟩
end L2.Ev
end
section
namespace HT
section
variable {prog:ϸ} {w:Ü} {A:ϒ} {E:ζ→π→Prop} {s:π}
theorem getItem_tuple_all {lo hi:Option Int} {Q:ζ→π→Prop} (ht:IsTup s.heap t items) (hs:s.heap.IsSliceOf sl vl vu .none) (pl:C5 vl lo) (pu:C5 vu hi)
 (hw:sIx items.size 0 lo=0∧sIx items.size items.size hi=items.size) (h:Q (.ref t) s):Β (model prog w) A (Dp (.ref t) (.ref sl)) Q E s:=by
 obtain ⟨os,hos,hcs,hds⟩:=id hs
 have hTs:s.TypeIs (.ref sl) "slice":=⟨os,hos,hcs⟩
 unfold Dp
 try with_reducible refine ό ?_
 first | refine ε (θ ?_) | skip
 refine ε (Di ht.typeIs (by decide) ?_)
 refine ε (Ã (name:=Ϝ "__getitem__") ht.typeIs à
  (Ò à ht.typeIs FF ?_ (G3 _ _)))
 show Β _ _ (ź (.ref t) >>= _) _ _ s
 refine ε (Ew ht ?_)
 refine ε (Dh hTs ?_)
 rw [ZZ (by decide)]
 refine ε (cJ hs pl pu ?_)
 have hyes:(((sIx items.size 0 lo:Nat):Int) == 0 && (1:Int) == 1 && (sIx items.size items.size hi - sIx items.size 0 lo) == items.size)=true:=by
  rw [hw.1,hw.2]
  simp
 show Β _ _ (if (((sIx items.size 0 lo:Nat):Int) == 0 && (1:Int) == 1 && (sIx items.size items.size hi - sIx items.size 0 lo) == items.size)=true then _ else _) _ _ s
 rw [ZZ hyes]
 show Β _ _ (Ż (.ref t) >>= _) _ _ s
 refine ε ?_
 unfold Ż
 refine ε (Dh ht.typeIs (θ ?_))
 rw [ZZ (by decide)]
 refine ε (D1 ?_)
 first
  | exact θ ⟨_,rfl,θ h⟩
  | exact ε (θ (θ ⟨_,rfl,θ h⟩))
  | exact ε (ε (θ (θ ⟨_,rfl,θ h⟩)))
end
end HT
namespace L2.Ev
abbrev NoE:ζ→π→Prop:=fun _ _=>False
theorem aN {c:Prop} [Decidable c] {a d:α} (e:(if c then some a else none)=some d):c∧a=d:=by
 by_cases h:c
 ·rw [ZZ h] at e;exact ⟨h,ϡ e⟩
 ·rw [ZY h] at e;cases e
section
variable {X:Cx} {z:Z}
theorem aD (z:Z):z.h z.s.heap.objs.size=none:=Ϙ (ω _)
theorem Dn.tok {n:Nat} (h:∀ W ρ G,RD W ρ G d u):Dn X z d u { z.s with toks:=n }:=⟨.tok,h ..⟩
theorem Dn.tup (I:Rep X z) (r:RDs X.W z.ρ z.G l vs) (g:Gr z.s s') (n:z.h a=none) (e:s'.heap.get? a=some o) (t:TpO o vs):Dn X z (.tup l) (.ref a) s':=
 ⟨g,a,o,vs,rfl,(eQ n).trans e,t,r.mono (ο _) (bZ I.gh g).gg⟩
theorem ti (hz:vs.length≤ϛ):TpO { cls:=.type "tuple",data:=.seq vs.toArray n } vs:=⟨rfl,⟨n,rfl⟩,hz,rfl⟩
theorem Dn.tupn (I:Rep X z) (r:RDs X.W z.ρ z.G l vs) (hz:vs.length≤ϛ) {n t:Nat}:Dn X z (.tup l) (.ref z.s.heap.objs.size) { z.s with heap:=z.s.heap.push { cls:=.type "tuple",data:=.seq vs.toArray n },toks:=t }:=
 .tup I r .push (aD z) (χ _ rfl) (ti hz)
def Dw (X:Cx) (z:Z) (d:D) (u:ζ) (s':π):Prop:=Gr z.s s'∧∃ a o,u = .ref a∧z.h a=none∧toO d=some o∧ObR X.W z.ρ z.G s'.heap.get? (a,a) o
theorem Dw.dn (I:Rep X z) (h:Dw X z d u s'):Dn X z d u s':=by
 obtain ⟨g,a,o,rfl,n,e,r⟩:=h
 exact ⟨g,jL e r (bZ I.gh g).gg (eQ n)⟩
def FV (X:Cx) (z0 z:Z) (d:D) (u:ζ):Prop:=∃ a o,u = .ref a∧z0.h a=none∧toO d=some o∧ObR X.W z.ρ z.G z.h (a,a) o∧Fre X z a∧¬ Own z a
theorem Dw.pe (I:Rep X z) (h:Dw X z d u s'):Pe X z (.ok d z.t) (FV X z) u s':=by
 obtain ⟨g,a,o,rfl,n,e,r⟩:=h
 have f:=I.fre n
 exact ⟨{ z with s:=s' },d,rfl,rfl,(aq I.gh g).ee,I.grow (aq I.gh g),a,o,rfl,n,e,r,f⟩
theorem Dw.lst (r:RDs X.W z.ρ z.G l vs) (g:Gr z.s s') (n:z.h a=none) (e:s'.heap.get? a=some { cls:=.type "list",data:=.seq vs.toArray k }) (hz:vs.length≤ϛ):Dw X z (.lst l) (.ref a) s':=⟨g,a,.lst l,rfl,n,rfl,_,vs,rfl,e,⟨⟨k,rfl⟩,hz⟩,r⟩
theorem Dw.lstn (r:RDs X.W z.ρ z.G l vs) (hz:vs.length≤ϛ) {n t:Nat}:Dw X z (.lst l) (.ref z.s.heap.objs.size) { z.s with heap:=z.s.heap.push { cls:=.type "list",data:=.seq vs.toArray n },toks:=t }:=.lst r .push (aD z) (χ _ rfl) hz
def Op2 (X:Cx) (f:ζ→ζ→EB ζ) (g:D→D→Option D):Prop:=∀ z u v d1 d2 d,Rep X z→CR X.W z d1 u→CR X.W z d2 v→g d1 d2=some d→Β X.M X.A (f u v) (Dn X z d) NoE z.s
theorem Az (ho:o≠.add∧o≠.eq∧o≠.ne∧o≠.isin∧o≠.notin∧o≠.eq2) (e:opD o d1 d2=some d):∃ i j,d1 = .int i∧d2 = .int j∧opI o i j=some d:=by
 obtain ⟨n1,n2,n3,n4,n5,n6⟩:=ho
 unfold opD at e
 split at e
 ·exact ZX rfl n6
 ·exact ZX rfl n2
 ·exact ZX rfl n3
 ·exact ZX rfl n4
 ·exact ZX rfl n5
 ·split at e
  ·exact ⟨_,_,rfl,rfl,e⟩
  all_goals first | (cases e;done) | (rw [ZY n1] at e;cases e)
theorem jK {f:ζ→ζ→EB ζ} (ho:o≠.add∧o≠.eq∧o≠.ne∧o≠.isin∧o≠.notin∧o≠.eq2)
 (rule:∀ (i j:Int) (t u:Tok) (d:D) (s:π) (Q:ζ→π→Prop),opI o i j=some d→(∀ (v:ζ) (n:Nat),(∀ W ρ G,RD W ρ G d v)→Q v { s with toks:=n })→Β X.M X.A (f (.int i t) (.int j u)) Q NoE s):Op2 X f (opD o):=fun z u v d1 d2 d I h1 h2 e=>by
 obtain ⟨i,j,rfl,rfl,e2⟩:=Az ho e
 obtain ⟨t,rfl⟩:=h1
 obtain ⟨t',rfl⟩:=h2
 exact rule i j t t' d z.s _ e2 fun v n h=>.tok h
theorem zb:Op2 X (ŉ .Sub) (opD .sub):=jK (by decide) fun _ _ _ _ _ _ _ e k=>by cases e;exact sub_int (k _ _ fun _ _ _=>⟨_,rfl⟩)
theorem y9:Op2 X (ŉ .Mult) (opD .mul):=jK (by decide) fun _ _ _ _ _ _ _ e k=>by
 obtain ⟨c,rfl⟩:=aN e
 refine mul_int (k _ _ fun _ _ _=>⟨_,rfl⟩) ?_
 rcases c with h | ⟨h1,h2⟩
 ·exact wI.ok h
 ·exact mulOk_of_bits (m:=400) (n:=400) (intBits_le_iff.mpr h1) (intBits_le_iff.mpr h2) (by decide)
theorem vn:Op2 X (ŉ .FloorDiv) (opD .fdiv):=jK (by decide) fun i j _ _ _ _ _ e k=>by
 obtain ⟨⟨h1,h2⟩,rfl⟩:=aN e
 refine floordiv_int (by omega) (by rw [Int.fdiv_eq_ediv_of_nonneg i (by omega)];exact k _ _ fun _ _ _=>⟨_,rfl⟩) (.inl (PyProof.noPylong_of_log2 ?_))
 have h:j.natAbs.log2<200:=(EF (by omega)).2 (by omega)
 omega
theorem y8:Op2 X (ŉ .Mod) (opD .mod):=jK (by decide) fun i j _ _ _ _ _ e k=>by
 obtain ⟨c,rfl⟩:=aN e
 exact mod_int' (by omega) (by rw [Int.fmod_eq_emod_of_nonneg i (by omega)];exact k _ _ fun _ _ _=>⟨_,rfl⟩)
theorem za:Op2 X (ŉ .Pow) (opD .pow):=jK (by decide) fun _ _ _ _ _ _ _ e k=>by
 obtain ⟨c,rfl⟩:=aN e;exact pow_int_small c.1 c.2.1 c.2.2 (k _ _ fun _ _ _=>⟨_,rfl⟩)
theorem A9:Op2 X (Û .Lt) (opD .lt):=jK (by decide) fun _ _ _ _ _ s _ e k=>by cases e;exact lt_int (k _ s.toks fun _ _ _=>rfl)
theorem A8:Op2 X (Û .LtE) (opD .le):=jK (by decide) fun _ _ _ _ _ s _ e k=>by cases e;exact le_int (k _ s.toks fun _ _ _=>rfl)
theorem A6:Op2 X (Û .Gt) (opD .gt):=jK (by decide) fun _ _ _ _ _ s _ e k=>by cases e;exact gt_int (k _ s.toks fun _ _ _=>rfl)
theorem A5:Op2 X (Û .GtE) (opD .ge):=jK (by decide) fun _ _ _ _ _ s _ e k=>by cases e;exact ge_int (k _ s.toks fun _ _ _=>rfl)
theorem y5:Op2 X (ŉ .Add) (opD .add):=fun z u v d1 d2 d I h1 h2 e=>by
 have chk:∀ {n:Nat} {a:D},fb n a=some d→n≤ϛ∧a=d:=fun e=>let ⟨c,q⟩:=aN e;⟨big c,q⟩
 cases d1 with
 | int i=>cases d2 with
   | int j=>cases e;obtain ⟨t,rfl⟩:=h1;obtain ⟨t',rfl⟩:=h2;exact add_int (.tok fun _ _ _=>⟨_,rfl⟩)
   | _=>cases e
 | str i=>cases d2 with
   | str j=>obtain ⟨hz,rfl⟩:=chk e;obtain ⟨t,rfl⟩:=h1;obtain ⟨t',rfl⟩:=h2;exact add_str (fun t' tk=>.tok fun _ _ _=>⟨_,rfl⟩) hz
   | _=>cases e
 | tup a=>cases d2 with
   | tup b=>
     obtain ⟨hz,rfl⟩:=chk e
     obtain ⟨p,o1,vs,rfl,e1,t1,r1⟩:=id h1
     obtain ⟨q,o2,ws,rfl,e2,t2,r2⟩:=id h2
     have l1:=r1.len
     have l2:=r2.len
     have k1:=tpt (I.gh _ _ e1) t1
     have k2:=tpt (I.gh _ _ e2) t2
     cases vs with
     | nil=>
       cases (show a = [] from DY.mp l1)
       obtain ⟨⟨cls,dd,data,sl⟩,ho,hc,n,hd⟩:=id k1
       obtain ⟨⟨cls2,dd2,data2,sl2⟩,ho2,hc2,n2,hd2⟩:=id k2
       simp only at hc hd hc2 hd2
       subst hc hd hc2 hd2
       exact F0 ⟨_,ho,rfl⟩ ⟨_,ho2,rfl⟩ DH Ey Ō Ł (Ļ _ _) (tuple_addW0 p q #[] ws.toArray n n2 dd dd2 sl sl2 rfl) ⟨ho,ho2,.old I .refl h2⟩
     | cons v0 vs=>
       refine HT.cat_tup k1 k2 (by simp) (fun w=>?_) (fun _=>.tupn I (r1.app r2) (by rw [φ];omega)) (by omega)
       subst w
       cases (show b = [] from DY.mp l2)
       rw [ϧ]
       exact .old I .refl h1
   | _=>cases e
 | lst a=>cases d2 with
   | lst b=>
     obtain ⟨hz,rfl⟩:=chk e
     obtain ⟨p,o1,vs,rfl,e1,⟨⟨n1,rfl⟩,_⟩,r1⟩:=h1
     obtain ⟨q,o2,ws,rfl,e2,⟨⟨n2,rfl⟩,_⟩,r2⟩:=h2
     have l1:=r1.len
     have l2:=r2.len
     refine PySem.P.add_list e1 e2 ?_ (by rw [Ο,Ο];omega)
     rw [show vs.toArray ++ ws.toArray=(vs ++ ws).toArray by simp]
     exact (Dw.lstn (r1.app r2) (by rw [φ];omega)).dn I
   | _=>cases e
 | _=>cases e
end
end L2.Ev
end
section
namespace L2.Ev
open PyProof.Rows.LSm
section
variable {X:Cx} {z:Z}
theorem jz (e:bM d=some k) (h:CR W z d u):(bH P w).is k u=true:=by
 cases d with
 | int i=>cases e;obtain ⟨t,rfl⟩:=h;exact kR P w i t
 | str i=>cases e;obtain ⟨t,rfl⟩:=h;exact kS P w i t
 | _=>cases e
theorem DcO.of {h:Ϸ} (e:h.get? a=some o) (d:DcO W o l):h.DictOf (bH W.P W.w) a l:=let ⟨es,ep,x,y,a,b,c,_⟩:=d;⟨o,es,ep,e,x,y,a,b,c⟩
theorem eB:∀ {ks} {ds} {vs} {k:Key},ks.length=ds.length→RDs W ρ G ds vs→match bW ks ds k with | some d=>∃ v,C6 (ks.zip vs) k=some v∧RD W ρ G d v | none=>C6 (ks.zip vs) k=none
 | [],[],vs,k,_,_=>rfl
 | [],_ :: _,_,_,h,_=>by cases h
 | _ :: _,[],_,_,h,_=>by cases h
 | q :: ks,e :: ds,vs,k,h,r=>by
   obtain ⟨v,ws,rfl,r1,r2⟩:=r
   have ih:=eB (k:=k) (Ņ h) r2
   unfold bW
   by_cases c:q=k
   ·rw [ZZ c];exact ⟨v,by simp [C6,Fz,c],r1⟩
   ·rw [ZY c]
    have n:C6 ((q :: ks).zip (v :: ws)) k=C6 (ks.zip ws) k:=by simp [C6,Fz,c]
    rw [n];exact ih
theorem tw (hl:ks.length=ds.length) (r:RDs W ρ G ds vs) (e:bW ks ds k=some d):∃ v,C6 (ks.zip vs) k=some v∧RD W ρ G d v:=by have:=eB (k:=k) hl r;rw [e] at this;exact this
theorem tq (hl:ks.length=ds.length) (r:RDs W ρ G ds vs):(C6 (ks.zip vs) k).isSome=(bW ks ds k).isSome:=by
 have:=eB (k:=k) hl r
 cases q:bW ks ds k with
 | none=>rw [q] at this;rw [this];rfl
 | some d=>rw [q] at this;obtain ⟨v,e,_⟩:=this;rw [e];rfl
theorem iF (h:eqT a b=some r):(∃ ks ds ls es,a = .dic ks ds∧b = .dic ls es∧∃ x,(ks.length=ls.length→re ls es ks ds=some x)∧r=(ks.length == ls.length && x))∨eqv 55 a b=some r:=by
 unfold eqT at h
 split at h
 ·rename_i ks ds ls es
  refine .inl ⟨ks,ds,ls,es,rfl,rfl,?_⟩
  split at h
  ·rename_i c;exact ⟨r,fun _=>h,by simp [c]⟩
  ·rename_i c;cases h;exact ⟨false,fun z=>ZX z c,by simp⟩
 ·exact .inr h
theorem jo {A:ϒ} (I:HR X z) (un:A.units+56<Ū) (hl2:ls.length=es.length) (r2:RDs X.W z.ρ z.G es ws):∀ {ks ds vs r},ks.length=ds.length→RDs X.W z.ρ z.G ds vs→re ls es ks ds=some r→PySem.W.KeqHits A z.s (ls.zip ws) (ks.zip vs) r
 | [],ds,vs,r,_,_,h=>by cases h;exact .nil
 | k :: ks,[],vs,r,hl,_,h=>by cases hl
 | k :: ks,d :: ds,vs,r,hl,r1,h=>by
   obtain ⟨v,vs,rfl,h1,h2⟩:=r1
   unfold re at h
   have q:=eB (k:=k) hl2 r2
   cases e:bW ls es k with
   | none=>rw [e] at h q;cases h;exact .miss q
   | some y=>
     rw [e] at h q
     obtain ⟨w,e1,e2⟩:=q
     dsimp only at h
     cases e3':eqv 55 d y with
     | none=>rw [e3'] at h;cases h
     | some x=>
       rw [e3'] at h
       obtain ⟨b,hb,rfl⟩:=ψ.mp h
       exact .hit e1 (((e3 I 55 e3' (.of I h1) (.of I e2)).2 A (by omega)).1) (jo I un hl2 r2 (Ņ hl) h2 hb)
theorem A4:Op2 X (Û .Eq) (opD .eq):=fun z u v d1 d2 d I h1 h2 e=>by
 obtain ⟨b,q,rfl⟩:=ψ.mp (show (eqT d1 d2).map D.bl=some d from e)
 rcases iF q with ⟨ks,ds,ls,es,rfl,rfl,x,q',rfl⟩ | q
 ·obtain ⟨a,o,vs,rfl,m,e1,c1,l1,r1⟩:=h1
  obtain ⟨a',o',ws,rfl,m',e2,c2,l2,r2⟩:=h2
  have n1:(ks.zip vs).length=ks.length:=by rw [É,← r1.len,l1,į]
  have n2:(ls.zip ws).length=ls.length:=by rw [É,← r2.len,l2,į]
  refine PySem.W.keq_eq m m' (c1.of e1) (c2.of e2) (by have:=I.ok.un;omega) (fun h=>jo I.toHR (by have:=I.ok.un;show X.A.units+1+56<_;omega) l2 r2 l1 r1 (q' (by rw [← n1,← n2];exact h))) (.tok fun _ _ _=>?_)
  rw [n1,n2];rfl
 ·exact ((e3 I.toHR 55 q h1 h2).2 X.A (by have:=I.ok.un;omega)).2.1 _ _ _ _ (.tok fun _ _ _=>rfl)
theorem Bb:Op2 X (Û .NotEq) (opD .ne):=fun z u v d1 d2 d I h1 h2 e=>by
 obtain ⟨b,q,rfl⟩:=ψ.mp (show (eqT d1 d2).map (fun x=>D.bl (!x))=some d from e)
 rcases iF q with ⟨ks,ds,ls,es,rfl,rfl,x,q',rfl⟩ | q
 ·obtain ⟨a,o,vs,rfl,m,e1,c1,l1,r1⟩:=h1
  obtain ⟨a',o',ws,rfl,m',e2,c2,l2,r2⟩:=h2
  have n1:(ks.zip vs).length=ks.length:=by rw [É,← r1.len,l1,į]
  have n2:(ls.zip ws).length=ls.length:=by rw [É,← r2.len,l2,į]
  refine PySem.W.keq_ne m m' (c1.of e1) (c2.of e2) (by have:=I.ok.un;omega) (fun h=>jo I.toHR (by have:=I.ok.un;show X.A.units+1+56<_;omega) l2 r2 l1 r1 (q' (by rw [← n1,← n2];exact h))) (.tok fun _ _ _=>?_)
  rw [n1,n2];rfl
 ·exact ((e3 I.toHR 55 q h1 h2).2 X.A (by have:=I.ok.un;omega)).2.2 _ _ _ _ (.tok fun _ _ _=>rfl)
theorem A7:Op2 X (Û .In) (opD .isin):=fun z u v d1 d2 d I h1 h2 e=>by
 have un:X.A.in1.units+57<Ū:=by have:=I.ok.un;show X.A.units+1+57<_;omega
 cases d2 with
 | str y=>cases d1 with
   | str x=>cases e;obtain ⟨t,rfl⟩:=h1;obtain ⟨t',rfl⟩:=h2;exact SB.contains (.tok fun _ _ _=>rfl)
   | _=>cases e
 | lst l=>
   obtain ⟨b,q,rfl⟩:=ψ.mp (show (inD d1 l).map D.bl=some d from e)
   obtain ⟨a,o,vs,rfl,e1,t,r⟩:=h2
   obtain ⟨f,hf,rfl⟩:=dN I.toHR un q r h1
   exact SeqAt.in_listAt f (lsl e1 t) hf (.tok fun _ _ _=>rfl)
 | tup l=>
   obtain ⟨b,q,rfl⟩:=ψ.mp (show (inD d1 l).map D.bl=some d from e)
   obtain ⟨a,o,vs,rfl,e1,t,r⟩:=h2
   obtain ⟨f,hf,rfl⟩:=dN I.toHR un q r h1
   exact SeqAt.in_tupleAt f (tpt (I.gh _ _ e1) t) hf (.tok fun _ _ _=>rfl)
 | dic ks l=>
   obtain ⟨k,q,rfl⟩:=ψ.mp (show ((bM d1).map fun k=>D.bl (bW ks l k).isSome)=some d from e)
   obtain ⟨a,o,vs,rfl,m,e1,t,hl,r⟩:=h2
   exact wpAny_in_of (jz q h1) m (t.of e1).mapOf (by rw [tq hl r];exact .tok fun _ _ _=>rfl)
 | _=>cases e
theorem sB:Op2 X (Û .NotIn) (opD .notin):=fun z u v d1 d2 d I h1 h2 e=>by
 have un:X.A.in1.units+57<Ū:=by have:=I.ok.un;show X.A.units+1+57<_;omega
 cases d2 with
 | lst l=>
   obtain ⟨b,q,rfl⟩:=ψ.mp (show (inD d1 l).map (fun x=>D.bl (!x))=some d from e)
   obtain ⟨a,o,vs,rfl,e1,t,r⟩:=h2
   obtain ⟨f,hf,rfl⟩:=dN I.toHR un q r h1
   exact SeqAt.notIn_listAt f (lsl e1 t) hf (.tok fun _ _ _=>rfl)
 | tup l=>
   obtain ⟨b,q,rfl⟩:=ψ.mp (show (inD d1 l).map (fun x=>D.bl (!x))=some d from e)
   obtain ⟨a,o,vs,rfl,e1,t,r⟩:=h2
   obtain ⟨f,hf,rfl⟩:=dN I.toHR un q r h1
   exact SeqAt.notIn_tupleAt f (tpt (I.gh _ _ e1) t) hf (.tok fun _ _ _=>rfl)
 | dic ks l=>
   obtain ⟨k,q,rfl⟩:=ψ.mp (show ((bM d1).map fun k=>D.bl (!(bW ks l k).isSome))=some d from e)
   obtain ⟨a,o,vs,rfl,m,e1,t,hl,r⟩:=h2
   exact wpAny_notIn_of (jz q h1) m (t.of e1).mapOf (by rw [tq hl r];exact .tok fun _ _ _=>rfl)
 | _=>cases e
def zy (X:Cx) (z:Z) (u i:ζ) (d:D):Prop:=∃ T id,Ea (.type T) "__getitem__" = pure (some (.builtin id))∧z.s.TypeIs u T∧Β X.M X.A (Dp u i) (Dn X z d) NoE z.s
theorem RDs.at (r:RDs W ρ G ds vs) (e:atI ds i=some d):∃ v,atI vs i=some v∧RD W ρ G d v:=by
 unfold atI at e ⊢
 rw [← r.len]
 cases q:ixN ds.length i with
 | none=>rw [q] at e;cases e
 | some j=>rw [q] at e;exact r.get e
theorem Cf {d1 d2:D} {u v:ζ} (I:Rep X z) (h1:CR X.W z d1 u) (h2:CR X.W z d2 v) (e:ixD d1 d2=some d):zy X z u v d:=by
 have hn:=jA
 cases d1 with
 | tup l=>cases d2 with
   | int i=>
     obtain ⟨a,o,vs,rfl,e1,t,r⟩:=h1
     obtain ⟨tk,rfl⟩:=h2
     obtain ⟨w,ew,rw'⟩:=r.at (show atI l i=some d from e)
     obtain ⟨j,g1,g2,g3,g4,g5⟩:=iX ew
     have p:=tpt (I.gh _ _ e1) t
     have hz:=t.2.2
     exact ⟨_,_,FX.lookup,⟨_,I.gh _ _ e1,t.1⟩,getItem_tuple (j:=j) p (by omega) (by omega) g1 (by simpa using g2) (.old I .refl rw')⟩
   | _=>cases e
 | lst l=>cases d2 with
   | int i=>
     obtain ⟨a,o,vs,rfl,e1,t,r⟩:=h1
     obtain ⟨tk,rfl⟩:=h2
     obtain ⟨w,ew,rw'⟩:=r.at (show atI l i=some d from e)
     obtain ⟨j,g1,g2,g3,g4,g5⟩:=iX ew
     have p:=lsl e1 t
     have hz:=t.2
     refine ⟨_,_,Dl.lookup,p.typeIs,?_⟩
     by_cases h0:0≤i
     ·have hj:i.toNat=j:=by rw [Fq h0 g5] at g1;exact ϡ g1
      exact wpAny_getItem_list p h0 (by omega) (by rw [hj];simpa using g2) (.old I .refl rw')
     ·have hj:(i+(vs.toArray.size:Int)).toNat=j:=by rw [EZ (by omega) g4] at g1;exact ϡ g1
      exact wpAny_getItem_list_neg p (by omega) g4 (by omega) (by rw [hj];simpa using g2) (.old I .refl rw')
   | _=>cases e
 | str y=>cases d2 with
   | int i=>
     obtain ⟨hz,e⟩:y.length≤100000∧(atI y.cps.toList i).map (fun c=>D.str ⟨#[c]⟩)=some d:=by
      unfold ixD at e;dsimp only at e;split at e
      ·rename_i c;exact ⟨c,e⟩
      ·cases e
     obtain ⟨c,q,rfl⟩:=ψ.mp e
     obtain ⟨t,rfl⟩:=h1
     obtain ⟨t',rfl⟩:=h2
     obtain ⟨j,g1,g2,g3,g4,g5⟩:=iX q
     have hl:y.cps.toList.length=y.length:=by simp [F2]
     rw [hl] at g1 g4 g5
     exact ⟨_,_,slot_str_getitem.lookup,FU _ y t,getItem_str (c:=c) (by
      have e1:decide (i < -(2 ^ 63:Int))=false:=ZV (by omega)
      have e2:decide (i≥2 ^ 63)=false:=ZV (by omega)
      rw [e1,e2,Ň]) (by rw [g1];simpa using g2) (.tok fun _ _ _=>⟨_,rfl⟩)⟩
   | _=>cases e
 | dic ks l=>
   have e':((bM d2).bind fun k=>bW ks l k)=some d:=by cases d2 <;> exact e
   obtain ⟨k,q,e'⟩:=ϓ.mp e'
   obtain ⟨a,o,vs,rfl,m,e1,t,hl,r⟩:=h1
   obtain ⟨w,ew,rw'⟩:=tw hl r e'
   exact ⟨_,_,PySem.F.slot_dict_getitem.lookup,(t.of e1).typeIs,wpAny_getItem_of (jz q h2) (t.of e1).mapOf ew (.old I .tok rw')⟩
 | _=>cases e
theorem RDs.cut (r:RDs W ρ G ds vs) (lo hi):RDs W ρ G (py ds lo hi) ((vs.drop (HT.sIx vs.length 0 lo)).take (HT.sIx vs.length vs.length hi - HT.sIx vs.length 0 lo)):=by
 unfold py
 rw [r.len]
 exact (r.drop _).take _
theorem Cr {d1:D} {u vl vu:ζ} {lo hi:Option Int} (I:Rep X z) (h1:CR X.W z d1 u) (hs:z.s.heap.IsSliceOf sl vl vu .none) (pl:C5 vl lo) (pu:C5 vu hi) (e:slO d1 lo hi=some d):zy X z u (.ref sl) d:=by
 have cl:∀ (vs:List ζ),((vs.drop (HT.sIx vs.length 0 lo)).take (HT.sIx vs.length vs.length hi - HT.sIx vs.length 0 lo)).length≤vs.length:=fun vs=>by rw [CW,CY];omega
 cases d1 with
 | tup l=>
   cases e
   obtain ⟨a,o,vs,rfl,e1,t,r⟩:=id h1
   have p:=tpt (I.gh _ _ e1) t
   refine ⟨"tuple",_,FX.lookup,⟨_,I.gh _ _ e1,t.1⟩,?_⟩
   by_cases w:HT.sIx vs.length 0 lo=0∧HT.sIx vs.length vs.length hi=vs.length
   ·refine HT.getItem_tuple_all p hs pl pu w ?_
    have e:py l lo hi=l:=by
     unfold py
     rw [r.len,w.1,w.2,GG,ĳ,← r.len,ŏ]
    rw [e]
    exact .old I .refl h1
   ·exact HT.getItem_tuple_cut p hs pl pu w (.tupn I (r.cut lo hi) (ϖ (cl vs) t.2.2.1)) t.2.2.1
 | lst l=>
   cases e
   obtain ⟨a,o,vs,rfl,e1,t,r⟩:=h1
   refine ⟨"list",_,Dl.lookup,(lsl e1 t).typeIs,Es (lsl e1 t) hs pl pu .none (by simp) ?_ (by rw [Ο];exact t.2)⟩
   rw [ip]
   exact (Dw.lstn (r.cut lo hi) (ϖ (cl vs) t.2)).dn I
 | str y=>
   obtain ⟨hz,rfl⟩:=aN (show (if y.length≤100000 then some (D.str (D5 y lo hi)) else none)=some d from e)
   obtain ⟨t,rfl⟩:=h1
   have fin:Nat.le (D5 y lo hi).length ϛ∧∀ t' k,Dn X z (.str (D5 y lo hi)) (.str (D5 y lo hi) t') { z.s with toks:=k }:=⟨ϖ (Txt.slice_le y _ _) (big hz),fun t' k=>.tok fun _ _ _=>⟨t',rfl⟩⟩
   refine ⟨"str",_,PySem.F.slot_str_getitem.lookup,FU _ _ _,?_⟩
   cases pl <;> cases pu
   ·exact ě (l:=none) (u:=none) (st:=none) hs rfl (ŵ fin)
   ·exact ě (l:=none) (u:=some (_,_)) (st:=none) hs rfl (ŵ fin)
   ·exact ě (l:=some (_,_)) (u:=none) (st:=none) hs rfl (ŵ fin)
   ·exact ě (l:=some (_,_)) (u:=some (_,_)) (st:=none) hs rfl (ŵ fin)
 | _=>cases e
def Bi1 (X:Cx) (f:ζ) (b:Bi):Prop:=∀ z u x d,Rep X z→CR X.W z x u→hH b x=some d→Β X.M X.A (call f [u]) (Dn X z d) NoE z.s
def tJ (X:Cx) (f:ζ) (b:Bi):Prop:=∀ z u x d,Rep X z→CR X.W z x u→hH b x=some d→Β X.M X.A (call f [u]) (Dw X z d) NoE z.s
theorem wP:Bi1 X (.builtin "len") .len:=fun z u x d I h e=>by
 have hn:=jA
 cases x with
 | tup l=>cases e;obtain ⟨a,o,vs,rfl,e1,t,r⟩:=h;have:=t.2.2;rw [r.len];exact len_tuple (tpt (I.gh _ _ e1) t) (by rw [Ο];omega) (.tok fun _ _ _=>⟨_,rfl⟩)
 | lst l=>cases e;obtain ⟨a,o,vs,rfl,e1,t,r⟩:=h;have:=t.2;rw [r.len];exact Calls.call_len_list (lsl e1 t) (by rw [Ο];omega) (.tok fun _ _ _=>⟨_,rfl⟩)
 | str y=>
   obtain ⟨hz,rfl⟩:=aN (show (if y.length≤100000 then some (D.int y.length) else none)=some d from e)
   obtain ⟨t,rfl⟩:=h;have:=big hz
   exact len_str (by omega) (.tok fun _ _ _=>⟨_,rfl⟩)
 | dic ks ds=>
   obtain ⟨hz,rfl⟩:=aN (show (if ks.length≤100000 then some (D.int ks.length) else none)=some d from e)
   obtain ⟨a,o,vs,rfl,m,e1,c1,l1,r1⟩:=h
   have n1:(ks.zip vs).length=ks.length:=by rw [É,← r1.len,l1,į]
   have:=big hz
   refine call_len_dict m (c1.of e1) (by rw [n1];omega) ?_
   rw [n1]
   exact .tok fun _ _ _=>⟨_,rfl⟩
 | _=>cases e
theorem qy:Bi1 X (.type "tuple") .tuple:=fun z u x d I h e=>by
 cases x with
 | tup l=>cases e;obtain ⟨a,o,vs,rfl,e1,t,r⟩:=id h;exact call_tuple_same (tpt (I.gh _ _ e1) t) (.old I .refl h)
 | lst l=>
   cases e
   obtain ⟨a,o,vs,rfl,e1,t,r⟩:=h
   refine call_tuple_list (lsl e1 t) (fun h' kp=>?_) (by rw [Ο];exact t.2)
   have nn:z.h h'.objs.size=none:=by
    cases q:z.h h'.objs.size with
    | none=>rfl
    | some o=>exact ZX (Τ (kp _ o q)) (ħ _)
   exact .tup I r (.hp (t:=z.s.toks) fun b o e=>ς _ (kp b o e)) nn (χ _ rfl) (ti t.2)
 | _=>cases e
theorem tU:tJ X (.type "list") .list:=fun z u x d I h e=>by
 cases x with
 | tup l=>
   cases e
   obtain ⟨a,o,vs,rfl,e1,t,r⟩:=h
   obtain ⟨n,hd⟩:=t.2.1
   exact call_list_seq a (.inr rfl) (I.gh _ _ e1) t.1 hd (fun h' c' kp e=>.lst r (.hp (t:=z.s.toks) kp) (aD z) e t.2.2.1) (by rw [Ο];exact t.2.2.1)
 | lst l=>
   cases e
   obtain ⟨a,o,vs,rfl,e1,⟨⟨n,rfl⟩,hz⟩,r⟩:=h
   exact call_list_seq a (.inl rfl) e1 rfl rfl (fun h' c' kp e=>.lst r (.hp (t:=z.s.toks) kp) (aD z) e hz) (by rw [Ο];exact hz)
 | _=>cases e
theorem HR.sysm (I:HR X z):FW<z.s.heap.objs.size:=CQ (by decide) (I.md.glob.keeps fun b o e=>I.gh _ _ (I.bs b o e)).lt
theorem tT:tJ X (.type "dict") .dict:=fun z u x d I h e=>by
 cases x with
 | dic ks l=>
   cases e
   obtain ⟨a,o,vs,rfl,m,e1,t,hl,r⟩:=h
   have hz:(ks.zip vs).length≤ϛ:=by obtain ⟨_,_,_,_,_,_,_,q⟩:=t;exact q
   refine kt_call_dict (knd:=bH X.W.P X.W.w) m (t.of e1) hz fun h' hd' sb=>?_
   obtain ⟨o',es,ep,e2,x,y,a1,a2,a3⟩:=hd'
   exact ⟨.hp (t:=z.s.toks) fun b o e=>(sb.2 b (ϝ (Τ e))).trans (ς _ e),_,.dic ks l,rfl,aD z,rfl,o',vs,rfl,ZU.mpr (Ñ I.sysm),e2,⟨es,ep,x,y,a1,a2,a3,hz⟩,hl,r⟩
 | _=>cases e
theorem wN:Bi1 X (.builtin "abs") .abs:=fun z u x d I h e=>by
 cases x with
 | int i=>cases e;obtain ⟨t,rfl⟩:=h;exact call_abs_int fun u tk=>.tok fun _ _ _=>⟨_,rfl⟩
 | _=>cases e
theorem wQ:Bi1 X (.type "str") .str:=fun z u x d I h e=>by
 cases x with
 | int i=>obtain ⟨hz,rfl⟩:=aN (show (if i.natAbs.log2<1920 then some (D.str (Ϝ (toString i))) else none)=some d from e);obtain ⟨t,rfl⟩:=h;exact PySem.P.str_of_int hz (.tok fun _ _ _=>⟨_,rfl⟩)
 | _=>cases e
theorem wO:Bi1 X (.type "int") .int:=fun z u x d I h e=>by
 cases x with
 | int i=>cases e;obtain ⟨t,rfl⟩:=h;exact call_int_int (.tok fun _ _ _=>⟨_,rfl⟩)
 | bl i=>cases e;cases (show u=Ϫ i from h);exact call_int_bool (.tok fun _ _ _=>⟨_,rfl⟩)
 | str y=>
   obtain ⟨hz,e⟩:y.length≤640∧(Fv y).map D.int=some d:=by
    unfold hH at e;dsimp only at e;split at e
    ·rename_i c;exact ⟨c,e⟩
    ·cases e
   obtain ⟨n,q,rfl⟩:=ψ.mp e
   obtain ⟨t,rfl⟩:=h
   exact PySem.W.KIN.call_text q hz (.tok fun _ _ _=>⟨_,rfl⟩)
 | _=>cases e
theorem kZ:∀ {l ns vs},bq l=some ns→RDs W ρ G l vs→C9 vs ns
 | [],ns,vs,e,r=>by cases e;cases (show vs = [] from r);exact .nil
 | d :: l,ns,vs,e,r=>by
   cases d with
   | int b=>
     obtain ⟨cs,q,rfl⟩:=ψ.mp (show (bq l).map (b :: ·)=some ns from e)
     obtain ⟨v,r',rfl,⟨t,rfl⟩,tl⟩:=r
     exact .cons b t (kZ q tl)
   | _=>cases e
def Bi2 (X:Cx) (f:ζ) (b:Bi):Prop:=∀ z u v x y d,Rep X z→CR X.W z x u→CR X.W z y v→wM b x y=some d→Β X.M X.A (call f [u,v]) (Dn X z d) NoE z.s
def tyN:Bi→String
 | .isTup=>"tuple" | .isStr=>"str" | .isBool=>"bool" | .isInt=>"int" | .isDic=>"dict" | _=>"list"
theorem zJ (hb:b = .isTup∨b = .isStr∨b = .isBool∨b = .isInt∨b = .isLst∨b = .isDic) {u:ζ} (I:Rep X z) (h:CR X.W z x u) (e:hH b x=some d):Β X.M X.A (call (.builtin "isinstance") [u,.type (tyN b)]) (Dn X z d) NoE z.s:=by
 have kin:X.K.In z.s.heap:=I.md.kin.keeps fun b o e=>I.gh _ _ (I.bs b o e)
 have go:∀ {tn:String},hH b x=(F4 [] (.type tn) (.type (tyN b))).map D.bl→(∀ v,F4 [] (.type tn) (.type (tyN b))=some v→(∀ n,Dn X z (.bl v) (.bool v) { z.s with toks:=n })→Β X.M X.A (call (.builtin "isinstance") [u,.type (tyN b)]) (Dn X z (.bl v)) NoE z.s)→Β X.M X.A (call (.builtin "isinstance") [u,.type (tyN b)]) (Dn X z d) NoE z.s:=fun q k=>by
  rw [q] at e
  obtain ⟨v,e1,rfl⟩:=ψ.mp e
  exact k v e1 fun n=>.tok fun _ _ _=>rfl
 cases x with
 | non=>cases (show u=ϗ from h);exact go (tn:="NoneType") (by rcases hb with rfl | rfl | rfl | rfl | rfl | rfl <;> kernel_rfl) fun v q k=>ô PySem.W.kitx_none kin Ś q (fun z=>nomatch z) k
 | bl y=>cases (show u=Ϫ y from h);exact go (tn:="bool") (by rcases hb with rfl | rfl | rfl | rfl | rfl | rfl <;> kernel_rfl) fun v q k=>ô PySem.W.kitx_bool kin Ś q (fun z=>nomatch z) k
 | int y=>obtain ⟨t,rfl⟩:=(show ∃ t,u=Value.int y t from h);exact go (tn:="int") (by rcases hb with rfl | rfl | rfl | rfl | rfl | rfl <;> kernel_rfl) fun v q k=>ô PySem.W.kitx_int kin Ś q (fun z=>nomatch z) k
 | str y=>obtain ⟨t,rfl⟩:=(show ∃ t,u=Value.str y t from h);exact go (tn:="str") (by rcases hb with rfl | rfl | rfl | rfl | rfl | rfl <;> kernel_rfl) fun v q k=>ô PySem.W.kitx_str kin Ś q (fun z=>nomatch z) k
 | tup l=>obtain ⟨a,o,vs,rfl,e1,t,r⟩:=h;exact go (tn:="tuple") (by rcases hb with rfl | rfl | rfl | rfl | rfl | rfl <;> kernel_rfl) fun v q k=>ô PySem.W.kitx_tuple kin ⟨o,I.gh _ _ e1,t.1⟩ q (fun z=>nomatch z) k
 | lst l=>obtain ⟨a,o,vs,rfl,e1,⟨⟨n,rfl⟩,_⟩,r⟩:=h;exact go (tn:="list") (by rcases hb with rfl | rfl | rfl | rfl | rfl | rfl <;> kernel_rfl) fun v q k=>ô PySem.W.kitx_list kin ⟨_,e1,rfl⟩ q (fun z=>nomatch z) k
 | dic ks l=>obtain ⟨a,o,vs,rfl,m,e1,⟨_,_,c,_⟩,hl,r⟩:=h;exact go (tn:="dict") (by rcases hb with rfl | rfl | rfl | rfl | rfl | rfl <;> kernel_rfl) fun v q k=>ô PySem.W.kitx_dict kin ⟨o,e1,c.1⟩ q (fun z=>nomatch z) k
 | _=>rcases hb with rfl | rfl | rfl | rfl | rfl | rfl <;> cases e
end
end L2.Ev
end
section
namespace L2.Ev
def toB (d:D) (s:Sta):Out Bool:=match d with | .bl b=>.ok b s | _=>.bad
def RT (_:Z) (b c:Bool):Prop:=c=b
def RVs (W:Wd) (br:Bool):E→Z→List D→List ζ→Prop
 | .cons a r,z,d :: ds,u :: us=>RV W br a z d u∧RVs W br r z ds us
 | .nil,_,[],[]=>True
 | _,_,_,_=>False
def LE (X:Cx) (e:Μ) (c:E):Prop:=∀ br,Jg X (eval e X.env) (X.ev br c) (RV X.W br c)
def LF (X:Cx) (e:Μ) (c:E):Prop:=∀ z,Rep X z→X.ev false c z.t≠.bad→Wp X (eval e X.env) z (X.ev false c z.t) (FV X z)
def LT (X:Cx) (e:Μ) (c:E):Prop:=Jg X (FZ e X.env (eval e X.env)) (fun t=>(X.ev true c t).bind toB) RT
def LW (X:Cx) (e:Μ) (c:E):Prop:=∀ wh,Jg X (FZ e X.env wh) (fun t=>(X.ev true c t).bind toB) RT
def LA (X:Cx) (es:List Μ) (c:E):Prop:=∀ br pos,Jg X (spliced (ϻ pos (Η es X.env))) (X.evs br c) (RVs X.W br c)
theorem au (x:Out α) (f:α→Sta→Out β) (g:β→Sta→Out γ):(x.bind f).bind g=x.bind fun a s=>(f a s).bind g:=by cases x <;> rfl
theorem Bf (h:RB X.W z (.bl b) u) (I:Rep X z):u = .bool b:=(h.cr0 I:RD X.W z.ρ z.G (.bl b) u)
section
variable {X:Cx} {z z0 z1:Z} {br:Bool}
theorem Rep.bk (I:HR X z):∀ b o,X.base.get? b=some o→z.s.heap.get? b=some o:=fun b o e=>I.gh _ _ (I.bs b o e)
theorem HR.kin (I:HR X z):X.K.In z.s.heap:=I.md.kin.keeps (Rep.bk I)
theorem bR {i:Nat} {x:ι} {Q:ζ→π→Prop} {E:ζ→π→Prop} (I:Rep X z) (hN:X.N[i]? = some x) (hv:Vis X.env.scope x) (e:z.σ[i]? = some (some u)) (q:Q u z.s) (hd:(x == ("__debug__":ι))=false) (hc:(x == ("__classdict__":ι))=false):Β X.M X.A (eval (.Name x pos) X.env) Q E z.s:=by
 obtain ⟨m,hn,hl⟩:=I.lo
 rcases hl i x u hN e hv with ⟨hk,hm⟩ | ⟨hk,c,hc',hcell⟩
 ·exact FR (wpAny_loadName_local I.ok.kd hk hn hm q) hd
 ·rcases hk with hk | hk
  ·exact FR (wpAny_loadName_cell I.ok.kd hk hc' hcell q) hd
  ·exact FR (wpAny_loadName_free I.ok.kd hk hc' hcell q hc) hd
theorem Rep.slot {i:Nat} {d:D} (I:Rep X z) (e:z.t.env[i]? = some (some d)):∃ u,z.σ[i]? = some (some u)∧RB X.W z d u:=by
 by_cases m:i∈z.t.ow
 ·obtain ⟨d',a,o,h1,h2,_⟩:=I.eo i m
  exact ⟨_,h2,.inr ⟨i,m,h2,e⟩⟩
 ·obtain ⟨u,q,r⟩:=I.en i d m e
  exact ⟨u,q,.inl r⟩
theorem ye {i:Nat} {x:ι} (hN:X.N[i]? = some x) (hv:Vis X.env.scope x) (hd:(x == ("__debug__":ι))=false) (hc:(x == ("__classdict__":ι))=false):LE X (.Name x pos) (.v i):=fun br z I nb=>by
 have en:∃ d,z.t.env[i]? = some (some d):=by
  cases q:z.t.env[i]? with
  | none=>exact ZX (show X.ev br (.v i) z.t = .bad by show (match z.t.env[i]? with | some (some d)=>Out.ok d (if br then z.t else un z.t i) | _=>.bad)=_;rw [q]) nb
  | some o=>cases o with
    | none=>exact ZX (show X.ev br (.v i) z.t = .bad by show (match z.t.env[i]? with | some (some d)=>Out.ok d (if br then z.t else un z.t i) | _=>.bad)=_;rw [q]) nb
    | some d=>exact ⟨d,rfl⟩
 obtain ⟨d,q⟩:=en
 have e:X.ev br (.v i) z.t = .ok d (if br then z.t else un z.t i):=by show (match z.t.env[i]? with | some (some d)=>Out.ok d (if br then z.t else un z.t i) | _=>.bad)=_;rw [q]
 obtain ⟨u,q1,r⟩:=I.slot q
 rw [e]
 refine bR I hN hv q1 ?_ hd hc
 cases br with
 | true=>
   refine ⟨z,d,rfl,rfl,.refl,I,?_⟩
   by_cases m:i∈z.t.ow
   ·exact .inr ⟨rfl,i,rfl,m,q1,q⟩
   ·obtain ⟨u',q2,r2⟩:=I.en i d m q
    rw [q1] at q2;cases q2;exact .inl r2
 | false=>
   obtain ⟨I2,x2⟩:=I.rel (fun j=>j != i)
   refine ⟨z.rel fun j=>j != i,d,rfl,rfl,x2,I2,?_⟩
   obtain ⟨u',q2,r2⟩:=I2.en i d (fun m=>by simp [Z.rel] at m) q
   rw [show z.σ[i]? = some (some u') from q2] at q1;cases q1;exact .inl r2
theorem ux (h:∀ z,Β X.M X.A (eval e X.env) (Dn X z d) NoE z.s):LE X e (.c d):=fun br z I nb=>Υ (h z) (fun _ _ k=>k.pe I) fun _ _ z=>z.elim
theorem v7:LE X (.Constant .none j pos) (.c .non):=ux fun _=>Ţ (.tok fun _ _ _=>rfl)
theorem Ae:LE X (.Constant (.bool b) j pos) (.c (.bl b)):=ux fun _=>Constant_bool (.tok fun _ _ _=>rfl)
theorem v6:LE X (.Constant (.int i) j pos) (.c (.int i)):=ux fun _=>FT (.tok fun _ _ _=>⟨_,rfl⟩)
theorem v9:LE X (.Constant (.str x) j pos) (.c (.str x)):=ux fun _=>ø (.tok fun _ _ _=>⟨_,rfl⟩)
def Gl (X:Cx) (x:ι):Prop:=X.env.kindOf x=some .globalImplicit
theorem bg {Q:ζ→π→Prop} {E:ζ→π→Prop} (I:Rep X z) (hg:Gl X x) (hm:X.mg x=some u) (h:Q u z.s) (hd:(x == ("__debug__":ι))=false):Β X.M X.A (eval (.Name x pos) X.env) Q E z.s:=
 Dx I.ok.kd hg (Calls.loadGlobal_global (by rw [I.ok.gl];exact I.md.glob.keeps (Rep.bk I.toHR)) hm h) hd
theorem xP {Q:ζ→π→Prop} {E:ζ→π→Prop} (I:Rep X z) (hg:Gl X x) (hm:X.mg x=none) (hv:Ģ x=some u) (h:Q u z.s) (hn:x≠"__name__") (hd:(x == ("__debug__":ι))=false):Β X.M X.A (eval (.Name x pos) X.env) Q E z.s:=by
 obtain ⟨mb,h1,h2⟩:=I.md.blt
 exact Dx I.ok.kd hg (Calls.loadGlobal_builtin (by rw [I.ok.gl];exact I.md.glob.keeps (Rep.bk I.toHR)) hm (by rw [I.ok.bl];exact h1.keeps (Rep.bk I.toHR)) ((h2 x hn).trans hv) h) hd
def aT (K:υ):L2.Bk.Dk→ζ→Bool
 | .str x,v=>(match v with | .str y _=>decide (y=x) | _=>false)
 | .int i,v=>(match v with | .int j _=>decide (j=i) | _=>false)
 | .bl b,v=>(match v with | .bool c=>decide (c=b) | _=>false)
 | .non,v=>(match v with | .none=>true | _=>false)
 | .tup ds,v=>(match v with
   | .ref a=>(match K.lookup a with
     | some o=>o.cls == .type "tuple" && o.dict.isNone && (match o.data with | .seq its _=>decide (its.size≤1000) && lookDs K ds its.toList | _=>false)
     | none=>false)
   | _=>false)
where lookDs (K:υ):List L2.Bk.Dk→List ζ→Bool
 | [],vs=>vs.isEmpty
 | d :: ds,vs=>(match vs with | v :: r=>aT K d v && lookDs K ds r | []=>false)
mutual
theorem sQ {K:υ} {G:Hp} (k:∀ a o,K.lookup a=some o→G a=some o):∀ d v,aT K d v=true→RD W ρ G (toD d) v
 | .str x,v,h=>by cases v <;> simp only [aT] at h <;> first | cases h | exact ⟨_,by rw [of_decide_eq_true h]⟩
 | .int x,v,h=>by cases v <;> simp only [aT] at h <;> first | cases h | exact ⟨_,by rw [of_decide_eq_true h]⟩
 | .bl x,v,h=>by cases v <;> simp only [aT] at h <;> first | cases h | exact (by rw [of_decide_eq_true h];rfl)
 | .non,v,h=>by cases v <;> simp only [aT] at h <;> first | exact (rfl:RD W ρ G .non .none) | cases h
 | .tup ds,v,h=>by
   cases v with
   | ref a=>
     simp only [aT] at h
     cases q:K.lookup a with
     | none=>rw [q] at h;cases h
     | some o=>
       rw [q] at h
       dsimp only at h
       rw [Χ] at h
       rw [Χ] at h
       obtain ⟨⟨h1,h3⟩,h2⟩:=h
       cases qd:o.data with
       | seq its n=>
         rw [qd] at h2
         dsimp only at h2
         rw [Χ] at h2
         have hz:its.size≤1000:=of_decide_eq_true h2.1
         exact ⟨a,o,its.toList,rfl,k a o q,⟨by simpa using h1,⟨n,by simpa using qd⟩,(by rw [Ĉ,Ċ];omega),by simpa using h3⟩,oN k ds _ h2.2⟩
       | _=>rw [qd] at h2;cases h2
   | _=>simp [aT] at h
theorem oN {K:υ} {G:Hp} (k:∀ a o,K.lookup a=some o→G a=some o):∀ ds vs,aT.lookDs K ds vs=true→RDs W ρ G (toD.toDs ds) vs
 | [],vs,h=>by cases vs with
   | nil=>exact rfl
   | cons _ _=>simp [aT.lookDs] at h
 | d :: ds,vs,h=>by cases vs with
   | nil=>simp [aT.lookDs] at h
   | cons v r=>
     simp only [aT.lookDs,Χ] at h
     exact .cons (sQ k d v h.1) (oN k ds r h.2)
end
theorem HR.top (I:HR X z) (h:aT X.K d u=true):RD X.W z.ρ z.G (toD d) u:=sQ (fun a o e=>I.bs a o (I.md.kin a o e)) d u h
theorem Ci {j:Nat} (hg:Gl X x) (hm:X.mg x=some u) (hd:(x == ("__debug__":ι))=false) (e:X.Γ.gl[j]? = some d) (h:aT X.K d u=true):LE X (.Name x pos) (.g j):=fun br z I nb=>by
 have q:X.ev br (.g j) z.t = .ok (toD d) z.t:=by show Out.of z.t (X.Γ.gl[j]?.map toD)=_;rw [e];rfl
 rw [q]
 exact bg I hg hm ⟨z,toD d,rfl,rfl,.refl,I,.of (I.toHR.top h)⟩ hd
theorem AK {o:Op} (ho:Op2 X (ŉ op) (opD o)) (ha:LE X ea a) (hb:LE X eb b):LE X (.BinOp ea op eb pos) (.op o a b):=fun br z I nb=>
 wpAny_BinOp ((ha true).go .refl I rfl nb fun z1 x u y1 x1 I1 r1 e1=>(hb true).go x1 I1 e1 nb fun z2 y v y2 x2 I2 r2 e2=>cg x2 I2 e2 nb fun d q=>ho z2 u v _ _ d I2 ((r1.rb.st y2 I2).cr I2) (r2.rb.cr I2) q)
theorem xU {o:Op} (ho:Op2 X (Û op) (opD o)) (ha:LE X ea a) (hb:LE X eb b) (hm:ñ op eb=false):LE X (.Compare ea [op] [eb] pos) (.op o a b):=fun br z I nb=>
 C0 ((ha true).go .refl I rfl nb fun z1 x u y1 x1 I1 r1 e1=>(hb true).go x1 I1 e1 nb fun z2 y v y2 x2 I2 r2 e2=>cg x2 I2 e2 nb fun d q=>ho z2 u v _ _ d I2 ((r1.rb.st y2 I2).cr I2) (r2.rb.cr I2) q) hm
theorem Dn.tru {o:Out Bool} {s':π} (x:Ee X z0 z) (I:Rep X z) (e:o=(Out.ok d z.t).bind toB) (nb:o≠.bad) (h:Dn X z d u s'):Β X.M X.A (truthy u) (Pe X z0 o RT) (Px X z0 o) s':=by
 cases d with
 | bl b=>
   cases (show u=Ϫ b from h.2)
   exact Ë ⟨z.up s',b,rfl,e,x.trans (bZ I.gh h.1).ee,I.grow (bZ I.gh h.1),rfl⟩
 | _=>exact ZX e nb
theorem yx {o:Op} (ho:Op2 X (Û op) (opD o)) (ha:LE X ea a) (hb:LE X eb b) (hm:ñ op eb=false):LT X (.Compare ea [op] [eb] pos) (.op o a b):=fun z I nb=>
 ĩ ((ha true).go .refl I (au ..) nb fun z1 x u y1 x1 I1 r1 e1=>(hb true).go x1 I1 (e1.trans (au ..)) nb fun z2 y v y2 x2 I2 r2 e2=>by
  cases q:opD o (look z2.t.st x) (look z2.t.st y) with
  | none=>rw [q] at e2;exact ZX e2 nb
  | some d=>rw [q] at e2;exact Υ (ho z2 u v _ _ d I2 ((r1.rb.st y2 I2).cr I2) (r2.rb.cr I2) q) (fun c s' k=>k.tru x2 I2 e2 nb) fun _ _ z=>z.elim) hm
theorem jJ (I:Rep X z) (h:RB X.W z d u):(u == ϗ)=kE d:=by
 rcases h with h | ⟨i,m,e1,e2⟩
 ·cases d with
  | non=>cases (show u=_ from h);rfl
  | bl b=>cases (show u=_ from h);rfl
  | int b=>obtain ⟨t,rfl⟩:=h;rfl
  | str b=>obtain ⟨t,rfl⟩:=h;rfl
  | tup l=>obtain ⟨a,_,_,rfl,_⟩:=h;rfl
  | lst l=>obtain ⟨a,_,_,rfl,_⟩:=h;rfl
  | dic k l=>obtain ⟨a,_,_,rfl,_⟩:=h;rfl
  | ins c l=>obtain ⟨a,_,_,rfl,_⟩:=h;rfl
  | ref n=>obtain ⟨a,_,rfl⟩:=h;rfl
 ·obtain ⟨d',a,o,h1,h2,h3,_⟩:=I.eo i m
  rw [e1] at h2;cases h2
  rw [e2] at h1;cases h1
  cases d <;> first | rfl | cases h3
theorem dh (b:Bool) {z:Z}:Dn X z (.bl b) (.bool b) z.s:=.tok (n:=z.s.toks) fun _ _ _=>rfl
theorem xX (ha:LE X ea a) (h1:ñ .Is (.Constant .none j pos')=false):LE X (.Compare ea [.Is] [.Constant .none j pos'] pos) (.isN a):=fun br z I nb=>
 C0 ((ha true).go .refl I rfl nb fun z1 x u y1 x1 I1 r1 e1=>Ţ (is_none_gen (by rw [jJ I1 r1.rb];exact (dh _).at x1 I1 e1))) h1
theorem uz (ha:LE X ea a) (h1:ñ .IsNot (.Constant .none j pos')=false):LE X (.Compare ea [.IsNot] [.Constant .none j pos'] pos) (.isNN a):=fun br z I nb=>
 C0 ((ha true).go .refl I rfl nb fun z1 x u y1 x1 I1 r1 e1=>Ţ (isnot_none_gen (by rw [jJ I1 r1.rb];exact (dh _).at x1 I1 e1))) h1
theorem yy (ha:LE X ea a) (h1:ñ .Is (.Constant .none j pos')=false):LT X (.Compare ea [.Is] [.Constant .none j pos'] pos) (.isN a):=fun z I nb=>
 ĩ ((ha true).go .refl I (au ..) nb fun z1 x u y1 x1 I1 r1 e1=>Ţ (is_none_gen (by rw [jJ I1 r1.rb];exact (dh _).tru x1 I1 e1 nb))) h1
theorem uX (ha:LE X ea a) (h1:ñ .IsNot (.Constant .none j pos')=false):LT X (.Compare ea [.IsNot] [.Constant .none j pos'] pos) (.isNN a):=fun z I nb=>
 ĩ ((ha true).go .refl I (au ..) nb fun z1 x u y1 x1 I1 r1 e1=>Ţ (isnot_none_gen (by rw [jJ I1 r1.rb];exact (dh _).tru x1 I1 e1 nb))) h1
theorem x9 (ha:LE X ea a):LE X (.UnaryOp .USub ea pos) (.neg a):=fun br z I nb=>
 UnaryOp_ ((ha true).go .refl I rfl nb fun z1 x u y1 x1 I1 r1 e1=>by
  cases x with
  | int i=>obtain ⟨t,rfl⟩:=(r1.rb.cr0 I1:CR X.W z1 (.int i) u);exact neg_int ((Dn.tok fun _ _ _=>⟨_,rfl⟩:Dn X z1 (.int (-i)) _ _).at x1 I1 e1)
  | _=>exact ZX e1 nb)
theorem yb (ha:LE X ea a):LE X (.UnaryOp .Not ea pos) (.not a):=fun br z I nb=>
 UnaryOp_ ((ha true).go .refl I rfl nb fun z1 x u y1 x1 I1 r1 e1=>by
  cases x with
  | bl b=>cases Bf r1.rb I1;exact not_of (Ë ((dh _).at x1 I1 e1))
  | _=>exact ZX e1 nb)
theorem xQ (ha:LE X ea a) (hb:LE X (.BoolOp .And (eb :: r) pos) b):LE X (.BoolOp .And (ea :: eb :: r) pos) (.and a b):=fun br z I nb=>
 BoolOp_and ((ha false).go .refl I rfl nb fun z1 x u y1 x1 I1 r1 e1=>by
  cases x with
  | bl c=>
    cases (show u=Ϫ c from r1.rd)
    refine Ë ?_
    cases c with
    | true=>exact Υ ((hb false).at x1 I1 e1 nb) (fun u s' ⟨z',d,e,q,y,I',r⟩=>⟨z',d,e,q,y,I',.of r.rd⟩) fun _ _ h=>h
    | false=>exact (dh _).at x1 I1 e1
  | _=>exact ZX e1 nb)
theorem wl (h:LW X e c):LT X e c:=h _
theorem u4 (ha:LT X ea a):LW X (.BoolOp .And [ea] pos) a:=fun wh z I nb=>isTrue_and (thn (ha z I nb) fun c s1 e=>by
 cases c with
 | true=>exact isTrue_and_nil e
 | false=>exact e)
theorem yB (ha:LT X ea a):LW X (.BoolOp .Or [ea] pos) a:=fun wh z I nb=>isTrue_or (thn (ha z I nb) fun c s1 e=>by
 cases c with
 | false=>exact isTrue_or_nil e
 | true=>exact e)
theorem RT.pe (x:Ee X z0 z) (I:Rep X z) (e:o = .ok b z.t):Pe X z0 o RT b z.s:=⟨z,b,rfl,e,x,I,rfl⟩
theorem tB (x:Out D) (f:Bool→Sta→Out β):(x.bind toB).bind f=x.bind fun d s=>match d with | .bl b=>f b s | _=>.bad:=by
 cases x with
 | ok d s=>cases d <;> rfl
 | _=>rfl
theorem yA (ha:LT X ea a) (hb:LW X (.BoolOp .And (eb :: r) pos) b):LW X (.BoolOp .And (ea :: eb :: r) pos) (.tand a b):=fun wh z I nb=>by
 have e:(X.ev true (.tand a b) z.t).bind toB=((X.ev true a z.t).bind toB).bind fun c s=>if c then (X.ev true b s).bind toB else .ok false s:=by
  rw [tB];show Out.bind (Out.bind _ _) _=_;rw [au];congr 1;funext d s
  cases d <;> first | rfl | (rename_i c;cases c <;> rfl)
 refine isTrue_and (ha.go .refl I e nb fun z1 c u y1 x1 I1 r1 e1=>?_)
 cases (show u=c from r1)
 cases c with
 | true=>exact (hb wh).at x1 I1 e1 nb
 | false=>exact RT.pe x1 I1 e1
theorem AT (ha:LT X ea a) (hb:LW X (.BoolOp .Or (eb :: r) pos) b):LW X (.BoolOp .Or (ea :: eb :: r) pos) (.tor a b):=fun wh z I nb=>by
 have e:(X.ev true (.tor a b) z.t).bind toB=((X.ev true a z.t).bind toB).bind fun c s=>if c then .ok true s else (X.ev true b s).bind toB:=by
  rw [tB];show Out.bind (Out.bind _ _) _=_;rw [au];congr 1;funext d s
  cases d <;> first | rfl | (rename_i c;cases c <;> rfl)
 refine isTrue_or (ha.go .refl I e nb fun z1 c u y1 x1 I1 r1 e1=>?_)
 cases (show u=c from r1)
 cases c with
 | false=>exact (hb wh).at x1 I1 e1 nb
 | true=>exact RT.pe x1 I1 e1
theorem yz (ha:LT X ea a):LT X (.UnaryOp .Not ea pos) (.tnot a):=fun z I nb=>by
 have e:(X.ev true (.tnot a) z.t).bind toB=((X.ev true a z.t).bind toB).bind fun c s=>.ok (!c) s:=by
  rw [tB];show Out.bind (Out.bind _ _) _=_;rw [au];congr 1;funext d s
  cases d <;> rfl
 exact isTrue_not (ha.go .refl I e nb fun z1 c u y1 x1 I1 r1 e1=>by
  cases (show u=c from r1)
  exact RT.pe x1 I1 e1)
theorem xY (hc:LT X ec c) (ha:LE X ea a) (hb:LE X eb b):LE X (.IfExp ec ea eb pos) (.ite c a b):=fun br z I nb=>by
 have e:X.ev br (.ite c a b) z.t=((X.ev true c z.t).bind toB).bind fun c s=>if c then X.ev false a s else X.ev false b s:=by
  rw [tB];show Out.bind _ _=_;congr 1;funext d s
  cases d <;> first | rfl | (rename_i c;cases c <;> rfl)
 refine wpAny_IfExp (hc.go .refl I e nb fun z1 c u y1 x1 I1 r1 e1=>?_)
 cases (show u=c from r1)
 cases c with
 | true=>exact Υ ((ha false).at x1 I1 e1 nb) (fun u s' ⟨z',d,e,q,y,I',r⟩=>⟨z',d,e,q,y,I',.of r.rd⟩) fun _ _ h=>h
 | false=>exact Υ ((hb false).at x1 I1 e1 nb) (fun u s' ⟨z',d,e,q,y,I',r⟩=>⟨z',d,e,q,y,I',.of r.rd⟩) fun _ _ h=>h
theorem Bs {d:D} {u:ζ} (I:Rep X z) (h:CR X.W z d u) (e:vG d=some b):Β X.M X.A (truthy u) (fun c s'=>c=b∧Gr z.s s') NoE z.s:=by
 have hl:=jA
 cases d with
 | non=>cases e;cases (show u=_ from h);exact truthy_none ⟨rfl,.refl⟩
 | bl c=>cases e;cases (show u=_ from h);exact Ë ⟨rfl,.refl⟩
 | int i=>cases e;obtain ⟨t,rfl⟩:=h;exact PySem.P.truthy_int ⟨rfl,.refl⟩
 | tup l=>
   cases e;obtain ⟨a,o,vs,rfl,e1,t,r⟩:=h;have:=t.2.2
   refine truthy_tuple (tpt (I.gh _ _ e1) t) (by rw [Ο];omega) ⟨?_,.tok⟩
   have:=r.len;cases l <;> cases vs <;> first | rfl | cases this
 | lst l=>
   cases e;obtain ⟨a,o,vs,rfl,e1,t,r⟩:=h;have:=t.2
   refine wpAny_truthy_list (lsl e1 t) (by rw [Ο];omega) ⟨?_,.tok⟩
   have:=r.len;cases l <;> cases vs <;> first | rfl | cases this
 | _=>cases e
theorem AS (ha:LE X ea a) (he:∀ whole,FZ ea X.env whole=(do let v ← whole;Ř ea.pos;holding [v] (truthy v))):LT X ea (.tv a):=fun z I nb=>
 isTrue_plain ((ha true).go .refl I (au ..) nb fun z1 x u y1 x1 I1 r1 e1=>by
  cases q:vG (look z1.t.st x) with
  | none=>rw [q] at e1;exact ZX e1 nb
  | some b=>
    rw [q] at e1
    refine Υ (Bs I1 (r1.rb.cr I1) q) (fun c s' ⟨h,g⟩=>?_) fun _ _ z=>z.elim
    subst h
    exact ⟨z1.up s',c,rfl,e1,x1.trans (bZ I1.gh g).ee,I1.grow (bZ I1.gh g),rfl⟩) (he _)
theorem rI {o p:Op} (ho:Op2 X (Û op) (opD o)) (hp:Op2 X (Û op') (opD p)) (ha:LE X ea a) (hb:LE X eb b) (hc:LE X ec c) (hm:GB [op,op'] [eb,ec]=false):LE X (.Compare ea [op,op'] [eb,ec] pos) (.chain o p a b c):=fun br z I nb=>
 Compare_chain ((ha true).go .refl I rfl nb fun z1 x u y1 x1 I1 r1 e1=>chain_link ((hb true).go x1 I1 e1 nb fun z2 y v y2 x2 I2 r2 e2=>by
  cases q:opD o (look z2.t.st x) (look z2.t.st y) with
  | none=>rw [q] at e2;exact ZX e2 nb
  | some d=>
    rw [q] at e2
    refine Υ (ho z2 u v _ _ d I2 ((r1.rb.st y2 I2).cr I2) (r2.rb.cr I2) q) (fun w s' k=>?_) fun _ _ z=>z.elim
    cases d with
    | bl t=>
      cases (show w=Ϫ t from k.2)
      have g:=bZ I2.gh k.1
      refine Ë ?_
      cases t with
      | false=>exact ite_ff (k.at x2 I2 e2)
      | true=>exact ite_tt (chain_last ((hc true).go (x2.trans g.ee) (I2.grow g) e2 nb fun z4 w' v' y4 x4 I4 r4 e4=>cg x4 I4 e4 nb fun d q=>hp z4 v v' _ _ d I4 (((r2.rb.st g.ee (I2.grow g)).st y4 I4).cr I4) (r4.rb.cr I4) q))
    | _=>exact ZX e2 nb)) hm
end
section
variable {X:Cx} {z z0 z1:Z} {br:Bool}
def iU (b:Μ):Prop:=∀ o i,subscripted b false o i=operate [o,i] (Dp o i)
theorem AI (ha:LE X ea a) (hb:LE X eb b) (hs:iU eb):LE X (.Subscript ea eb pos) (.ix a b):=fun br z I nb=>
 Ef ((ha true).go .refl I rfl nb fun z1 x u y1 x1 I1 r1 e1=>(hb true).go x1 I1 e1 nb fun z2 y v y2 x2 I2 r2 e2=>cg x2 I2 e2 nb fun d q=>by
  obtain ⟨T,id,h1,h2,h3⟩:=Cf I2 ((r1.rb.st y2 I2).cr I2) (r2.rb.cr0 I2) q
  exact tail_any h2 h1 h3 (hs _ _))
def Cx.prt (X:Cx) (c:E) (s:Sta):Out (Option Int):=if bC c then .ok none s else (X.ev true c s).bind toI
def LO (X:Cx) (e:Option Μ) (c:E):Prop:=Jg X (evalPart e X.env) (X.prt c) fun _ o u=>C5 u o
theorem uN:LO X none .nil:=fun z I nb=>by rw [Ez];exact θ ⟨z,none,rfl,rfl,.refl,I,.none⟩
theorem nY (n:bC a=false) (ha:LE X ea a):LO X (some ea) a:=fun z I nb=>by
 rw [evalPart_some]
 have e:X.prt a z.t=(X.ev true a z.t).bind toI:=by unfold Cx.prt;rw [n];rfl
 refine (ha true).go .refl I e nb fun z1 x u y1 x1 I1 r1 e1=>?_
 cases x with
 | int i=>obtain ⟨t,rfl⟩:=(r1.rb.cr0 I1:CR X.W z1 (.int i) u);exact ⟨z1,some i,rfl,e1,x1,I1,.int i t⟩
 | _=>exact ZX e1 nb
theorem CR.grow {s':π} (g:Grw z G' s'):∀ {d},CR W z d u→CR W { z with G:=G',s:=s' } d u
 | .lst _,⟨a,o,vs,e,q,t,r⟩=>⟨a,o,vs,e,g.gr.k _ _ q,t,r.mono (ο _) g.gg⟩
 | .dic _ _,⟨a,o,vs,e,m,q,t,l,r⟩=>⟨a,o,vs,e,m,g.gr.k _ _ q,t,l,r.mono (ο _) g.gg⟩
 | .non,h=>h
 | .bl _,h=>h
 | .int _,h=>h
 | .str _,h=>h
 | .tup _,h=>RD.mono (ο _) g.gg h
 | .ins _ _,h=>RD.mono (ο _) g.gg h
 | .ref _,h=>RD.mono (ο _) g.gg h
theorem AM {lo hi:Option Μ} {pos p2:ϭ} (ha:LE X ea a) (hl:LO X lo l) (hh:LO X hi h):LE X (.Subscript ea (.Slice lo hi none p2) pos) (.sl a l h):=fun br z I nb=>
 Ef ((ha true).go (f:=fun x s=>(X.prt l s).bind fun l s=>(X.prt h s).bind fun h s=>.of s (slO (look s.st x) l h)) .refl I rfl nb fun z1 x u y1 x1 I1 r1 e1=>wpAny_Slice (hl.go x1 I1 e1 nb fun z2 lo' vl y2 x2 I2 r2 e2=>hh.go x2 I2 e2 nb fun z3 hi' vu y3 x3 I3 r3 e3=>by
  rw [Ez]
  refine θ ?_
  have g:=aq (s':={ z3.s with heap:=z3.s.heap.push { cls:=.type "slice",data:=.fields #[vl,vu,.none] } }) I3.gh (.push (t:=z3.s.toks))
  have I4:=I3.grow g
  show Β X.M X.A (subscriptTail ea (.Slice lo hi none p2) u (.ref z3.s.heap.objs.size)) _ _ { z3.s with heap:=z3.s.heap.push { cls:=.type "slice",data:=.fields #[vl,vu,.none] } }
  refine cg (z:={ z3 with s:=_ }) (x3.trans g.ee) I4 e3 nb fun d q=>?_
  obtain ⟨T,id,h1,h2,h3⟩:=Cr I4 ((((r1.rb.st y2 I2).st y3 I3).cr I3).grow g) (Dg ..) r2 r3 q
  exact tail_any (ops:=[.ref z3.s.heap.objs.size,u]) h2 h1 h3 (by with_unfolding_all rfl)))
theorem RVs.ind {W:Wd} {br:Bool} {z:Z} {P:E→List D→List ζ→Prop} (hn:P .nil [] []) (hc:∀ a r d ds u us,RV W br a z d u→RVs W br r z ds us→P r ds us→P (.cons a r) (d :: ds) (u :: us)) (c:E):∀ ds us,RVs W br c z ds us→P c ds us:=by
 induction c with
 | nil=>
   intro ds us h
   cases ds with
   | nil=>cases us with
     | nil=>exact hn
     | cons _ _=>exact Ŗ h
   | cons _ _=>exact Ŗ h
 | cons a r _ ih=>
   intro ds us h
   cases ds with
   | nil=>exact Ŗ h
   | cons d ds=>cases us with
     | nil=>exact Ŗ h
     | cons u us=>exact hc a r d ds u us h.1 h.2 (ih ds us h.2)
 | _=>exact fun _ _ h=>Ŗ h
theorem RVs.rds {c ds us} (h:RVs W false c z ds us):RDs W z.ρ z.G ds us:=RVs.ind (P:=fun _ ds us=>RDs W z.ρ z.G ds us) rfl (fun _ _ _ _ _ _ h _ ih=>.cons h.rd ih) c ds us h
theorem rC:LA X [] .nil:=fun br pos z I nb=>Ω ⟨z,[],rfl,rfl,.refl,I,trivial⟩
theorem nU (ha:LE X ea a) (hr:LA X er r) (hs:Η (ea :: er) X.env=(false,eval ea X.env) :: Η er X.env):LA X (ea :: er) (.cons a r):=fun br pos z I nb=>by
 rw [hs]
 show Β _ _ (spliced ((false,eval ea X.env) :: ϻ pos (Η er X.env))) _ _ _
 exact Λ ((ha br).go .refl I rfl nb fun z1 x u y1 x1 I1 r1 e1=>(hr br pos).go x1 I1 e1 nb fun z2 l us y2 x2 I2 r2 e2=>⟨z2,x :: l,rfl,e2,x2,I2,r1.st y2 I2,r2⟩)
theorem rM (h:LA X es c):LE X (.Tuple es x1 pos) (.tup c):=fun br z I nb=>
 wpAny_Tuple_spliced ((h false pos).go (f:=fun l s=>if l.length≤100000 then Out.ok (D.tup l) s else .bad) .refl I rfl nb fun z1 l us y1 x1 I1 r1 e1=>by
  by_cases c:l.length≤100000
  ·rw [ZZ c] at e1
   have hz:us.length≤ϛ:=by rw [← r1.rds.len];exact big c
   exact ⟨hz,Dn.at x1 I1 e1 (.tupn (t:=z1.s.toks) I1 r1.rds hz)⟩
  ·rw [ZY c] at e1;exact ZX e1 nb)
theorem FV.less (x:Ee X z0 z1) (h:FV X z1 z d u):FV X z0 z d u:=let ⟨a,o,e,n,r⟩:=h;⟨a,o,e,x.st.no n,r⟩
theorem yi (h:LA X es c):LF X (.List es pos) (.lst c):=fun z I nb=>
 D2 ((h false pos).go (f:=fun l s=>if l.length≤100000 then Out.ok (D.lst l) s else .bad) .refl I rfl nb fun z1 l us y1 x1 I1 r1 e1=>by
  by_cases c:l.length≤100000
  ·rw [ZZ c] at e1
   have hz:us.length≤ϛ:=by rw [← r1.rds.len];exact big c
   obtain ⟨z2,d,q,q2,y,I2,fv⟩:=(Dw.lstn (X:=X) (t:=z1.s.toks) (n:=0) r1.rds hz).pe I1
   exact ⟨hz,z2,d,q,e1.trans q2,x1.trans y,I2,fv.less x1⟩
  ·rw [ZY c] at e1;exact ZX e1 nb)
theorem FV.rd (x:Ee X z0 z) (I:Rep X z) (h:FV X z0 z d u) (e:o = .ok d z.t):Pe X z0 o (RV X.W br c) u z.s:=by
 obtain ⟨a,ob,rfl,n,t,r,f,no⟩:=h
 obtain ⟨oa,ha⟩:=r.th.1
 have gg:Sub z.G fun b=>if b=a then some oa else z.G b:=fun b o q=>by
  dsimp only
  by_cases c:b=a
  ·subst c;rw [f.1] at q;cases q
  ·rw [ZY c];exact q
 refine ⟨{ z with G:=fun b=>if b=a then some oa else z.G b },d,rfl,e,⟨⟨x.st.pr,x.st.gg.trans gg,fun b o q=>?_,x.st.rn,x.st.th,x.st.sm,x.st.sl⟩,x.sg,x.en,x.ow⟩,I.grw rfl I.br (fun _ _ e _=>e) (fun _ o e=>⟨o.slots,e⟩) gg (fun b o q=>?_) fun b o q=>?_,.of (jL t r gg (by dsimp only;rw [ZZ rfl];exact ha.symm))⟩
 ·by_cases c:b=a
  ·subst c;exact .inr (.inl n)
  ·have q:(if b=a then some oa else z.G b)=some o:=q
   rw [ZY c] at q;exact x.st.gn b o q
 ·have q:(if b=a then some oa else z.G b)=some o:=q
  by_cases c:b=a
  ·subst c;rw [ZZ rfl] at q;cases q;exact ha
  ·rw [ZY c] at q;exact I.gh b o q
 ·have q:(if b=a then some oa else z.G b)=some o:=q
  by_cases c:b=a
  ·subst c;exact .inr ⟨f,no⟩
  ·rw [ZY c] at q;exact .inl q
theorem LF.le (h:LF X e c) (hb:∀ br,X.ev br c=X.ev false c):LE X e c:=fun br z I nb=>by
 rw [hb] at nb ⊢
 exact Υ (h z I nb) (fun u s' ⟨z',d,q,e,x,I',f⟩=>by subst q;exact f.rd x I' e) fun _ _ h=>h
theorem uI:LF X (.Dict [] [] pos) (.dic .nil):=fun z I nb=>Gx (Dw.pe I ⟨.push (t:=z.s.toks),_,.dic [] [],rfl,aD z,rfl,_,[],rfl,ZU.mpr (Ñ I.sysm),χ _ rfl,by
 obtain ⟨o,es,ep,h1,h2,h3,h4,h5,h6⟩:=E6 (knd:=bH X.W.P X.W.w) z.s.heap
 rw [χ _ rfl] at h1
 cases h1
 exact ⟨es,ep,h2,h3,h4,h5,h6,Â _⟩,rfl,rfl⟩)
theorem ev1 (f:List D→Sta→Out β):(X.evs br (.cons a .nil) t).bind f=(X.ev br a t).bind fun x s=>f [x] s:=by
 show ((X.ev br a t).bind fun x s=>Out.ok [x] s).bind f=_
 rw [au];rfl
theorem ev2 (f:List D→Sta→Out β):(X.evs br (.cons a (.cons b .nil)) t).bind f=(X.ev br a t).bind fun x s=>(X.ev br b s).bind fun y s=>f [x,y] s:=by
 show ((X.ev br a t).bind fun x s=>((X.ev br b s).bind fun y s=>Out.ok [y] s).bind fun l s=>Out.ok (x :: l) s).bind f=_
 rw [au];congr 1;funext x s;rw [au,au];rfl
def Blt (X:Cx) (x:ι) (u:ζ):Prop:=Gl X x∧X.mg x=none∧Ģ x=some u∧x≠"__name__"∧(x == ("__debug__":ι))=false
theorem Blt.ld {Q:ζ→π→Prop} {E:ζ→π→Prop} (h:Blt X x u) (I:Rep X z) (q:Q u z.s):Β X.M X.A (eval (.Name x pos) X.env) Q E z.s:=xP I h.1 h.2.1 h.2.2.1 q h.2.2.2.1 h.2.2.2.2
theorem bb {f:ζ} {Q:ζ→π→Prop} {E:ζ→π→Prop} (hf:(∃ id,f = .builtin id)∨∃ T,f = .type T) (hx:Blt X x f) (he:Η (e :: er) X.env=(false,eval e X.env) :: Η er X.env) (hpl:(ϻ pos (Η er X.env)).any (·.1)=false) (I:Rep X z)
 (h:Β X.M X.A (spliced ((false,eval e X.env) :: ϻ pos (Η er X.env))) (fun us s'=>Β X.M X.A (call f us) Q E s') E z.s):Β X.M X.A (eval (.Call (.Name x p) (e :: er) [] pos) X.env) Q E z.s:=by
 refine æ (hx.ld I ?_)
 have h:Β X.M X.A (spliced (ϻ pos (Η (e :: er) X.env))) (fun us s'=>Β X.M X.A (call f us) Q E s') E z.s:=by rw [he];exact h
 rcases hf with ⟨id,rfl⟩ | ⟨T,rfl⟩
 ·exact callWith_builtin1 h he hpl
 ·exact callWith_type1 h he hpl
abbrev FB (f:ζ):Prop:=(∃ id,f = .builtin id)∨∃ T,f = .type T
theorem xS {f:ζ} (hb:Bi1 X f b) (hf:FB f) (hx:Blt X x f) (ha:LE X ea a) (he:Η [ea] X.env=(false,eval ea X.env) :: Η [] X.env):LE X (.Call (.Name x p) [ea] [] pos) (.bi b (.cons a .nil)):=fun br z I nb=>
 bb hf hx he rfl I (Λ ((ha true).go .refl I (ev1 fun l s=>Out.of s (biD b (l.map (look s.st)))) nb fun z1 x u y1 x1 I1 r1 e1=>Ω (cg x1 I1 e1 nb fun d q=>hb z1 _ _ d I1 (r1.rb.cr I1) q)))
theorem yh {f:ζ} (hb:tJ X f b) (hf:FB f) (hx:Blt X x f) (ha:LE X ea a) (he:Η [ea] X.env=(false,eval ea X.env) :: Η [] X.env):LF X (.Call (.Name x p) [ea] [] pos) (.bi b (.cons a .nil)):=fun z I nb=>
 bb hf hx he rfl I (Λ ((ha true).go .refl I (ev1 fun l s=>Out.of s (biD b (l.map (look s.st)))) nb fun z1 x u y1 x1 I1 r1 e1=>Ω (by
  cases q:hH b (look z1.t.st x) with
  | none=>exact ZX (e1.trans (show Out.of z1.t (hH b (look z1.t.st x)) = .bad by rw [q];rfl)) nb
  | some d=>
    refine Υ (hb z1 _ _ d I1 (r1.rb.cr I1) q) (fun v s' k=>?_) fun _ _ z=>z.elim
    obtain ⟨z2,d,q1,q2,y,I2,fv⟩:=k.pe I1
    exact ⟨z2,d,q1,(e1.trans (show Out.of z1.t (hH b (look z1.t.st x))=_ by rw [q];rfl)).trans q2,x1.trans y,I2,fv.less x1⟩)))
theorem xT {f:ζ} (hb:Bi2 X f b) (hf:FB f) (hx:Blt X x f) (ha:LE X ea a) (hc:LE X ec c) (he:Η [ea,ec] X.env=(false,eval ea X.env) :: Η [ec] X.env) (he2:Η [ec] X.env=(false,eval ec X.env) :: Η [] X.env):LE X (.Call (.Name x p) [ea,ec] [] pos) (.bi b (.cons a (.cons c .nil))):=fun br z I nb=>
 bb hf hx he (by rw [he2];rfl) I (by
  rw [he2]
  exact Λ ((ha true).go .refl I (ev2 fun l s=>Out.of s (biD b (l.map (look s.st)))) nb fun z1 x u y1 x1 I1 r1 e1=>Λ ((hc true).go x1 I1 e1 nb fun z2 y v y2 x2 I2 r2 e2=>Ω (cg x2 I2 e2 nb fun d q=>hb z2 _ _ _ _ d I2 ((r1.rb.st y2 I2).cr I2) (r2.rb.cr I2) q))))
theorem AH (hb:b = .isTup∨b = .isStr∨b = .isBool∨b = .isInt∨b = .isLst∨b = .isDic) (hx:Blt X "isinstance" (.builtin "isinstance")) (ht:Blt X x (.type (tyN b))) (ha:LE X ea a) (he:Η [ea,.Name x q] X.env=(false,eval ea X.env) :: Η [.Name x q] X.env):LE X (.Call (.Name "isinstance" p) [ea,.Name x q] [] pos) (.bi b (.cons a .nil)):=fun br z I nb=>
 bb (.inl ⟨_,rfl⟩) hx he rfl I (Λ ((ha true).go .refl I (ev1 fun l s=>Out.of s (biD b (l.map (look s.st)))) nb fun z1 x u y1 x1 I1 r1 e1=>Λ (ht.ld I1 (Ω (cg x1 I1 e1 nb fun d q=>zJ hb I1 (r1.rb.cr I1) q)))))
structure dF (K:υ) (C:Δ):Prop where
 ga:Ν K (.ref C) "__getattribute__" = some (some (.builtin "BaseException.__getattribute__"))
 gn:Ν K (.ref C) "__getattr__" = some none
 cl:Ν K (.ref C) "__class__" = some (some (.builtin "object.__class__"))
 sg:İ K (.builtin "object.__class__") "__get__" = some (some (.builtin "getset_descriptor.__get__"))
 tk:CM K (.builtin "object.__class__")=some true
 ob:ϥ K C (.type "object")=some true
 be:ϥ K C (.type "BaseException")=some true
 is:(Ĺ K C).isSome=true
structure dy (X:Cx) (an:Nat→ι) (c:Nat) (k:Cl) (i:CI):Prop where
 ci:X.W.ci[c]? = some i
 cls:k.what≠2→Cls X.K i.ad
 na:∀ f∈i.nm,cy X.K i.ad f
 wh:X.W.what[c]? = some k.what
 nm:i.nm=k.at_.map an
 nd:i.nm.Nodup
 xc:k.what=2→dF X.K i.ad∧ϰ X.K i.ad=true
theorem tD {names:List ι} {vs:List ζ} {f:ι} {v:ζ} (hn:names.Nodup) {j:Nat} (h1:names[j]? = some f) (h2:vs[j]? = some v):(names.zip vs).lookup f=some v:=by
 induction names generalizing vs j with
 | nil=>simp at h1
 | cons n r ih=>
   cases vs with
   | nil=>simp at h2
   | cons w vs=>
     show (match f == n with | true=>some w | false=>(r.zip vs).lookup f)=some v
     cases j with
     | zero=>simp at h1 h2;subst h1 h2;simp
     | succ j=>
       have h3:r[j]? = some f:=by simpa using h1
       have ne:f≠n:=fun z=>by subst z;exact (Ϟ.mp hn).1 (Ε h3)
       rw [show (f == n)=false by simpa using ne]
       exact ih (Ϟ.mp hn).2 h3 (by simpa using h2)
theorem InO.objm {s:π} (h:InO s.heap.get? a dx C l):lT s.heap a dx C fun n=>l.lookup n:=let ⟨e,n,_,o,e2,es,ep,r⟩:=h;⟨e,⟨o,es,ep,e2,r⟩,n⟩
theorem iQ:∀ {d v},RD W ρ G d v→ŀ v=true
 | .non,_,h=>by cases (show _=_ from h);rfl
 | .bl _,_,h=>by cases (show _=_ from h);rfl
 | .int _,_,⟨_,h⟩=>h ▸ rfl
 | .str _,_,⟨_,h⟩=>h ▸ rfl
 | .tup _,_,⟨_,_,_,h,_,_,_⟩=>h ▸ rfl
 | .lst _,_,⟨_,_,_,h,_,_,_⟩=>h ▸ rfl
 | .dic _ _,_,⟨_,_,_,h,_,_,_,_,_⟩=>h ▸ rfl
 | .ins _ _,_,⟨_,_,_,h,_,_,_,_⟩=>h ▸ rfl
 | .ref _,_,⟨_,_,h⟩=>h ▸ rfl
abbrev cm (X:Cx) (an:Nat→ι):Prop:=∀ (c:Nat) (k:Cl),X.Γ.cl[c]? = some k→∃ i,dy X an c k i
theorem kg (T:cm X an) {c f:Nat} {l:List D} {d2:D} (e:((X.Γ.cl[c]?).bind fun k=>l[k.at_.idxOf f]?)=some d2):∃ k i,∃ j:Nat,X.Γ.cl[c]? = some k∧dy X an c k i∧l[j]? = some d2∧(l.length≤i.nm.length→i.nm[j]? = some (an f)):=by
 obtain ⟨k,q,e⟩:=ϓ.mp e
 obtain ⟨i,ok⟩:=T c k q
 refine ⟨k,i,k.at_.idxOf f,q,ok,e,fun hl=>?_⟩
 have h1:k.at_.idxOf f<l.length:=(τ.mp e).1
 have h2:k.at_.idxOf f<k.at_.length:=by rw [ok.nm,Ι] at hl;omega
 rw [ok.nm,Φ,Α h2]
 simp
theorem qS (T:cm X an) (I:Rep X z) {n f:Nat} {d:D} {p:Δ×Δ} (ea:z.ρ[n]? = some p) (e:l9 X.Γ z.t.st (.ref n) f=some d):∃ C fs v,InO z.h p.1 p.2 C fs∧Cls X.K C∧cy X.K C (an f)∧fs.lookup (an f)=some v∧RD X.W z.ρ z.G d v:=by
 unfold l9 at e
 dsimp only at e
 cases q:z.t.st[n]? with
 | none=>rw [q] at e;cases e
 | some o=>
   rw [q] at e
   cases o with
   | ins c l=>
     dsimp only at e
     obtain ⟨k,i',j,e1,ok,e2,e3⟩:=kg T e
     obtain ⟨i,vs,w1,w2,w3,w4,w5⟩:=I.ob n _ p q ea
     have e4:=ok.ci
     rw [w1] at e4;cases e4
     obtain ⟨v,ev,rv⟩:=w5.get e2
     have wz:k.what≠2:=by have:=ok.wh;rw [w2] at this;have e:=ϡ this;omega
     exact ⟨i'.ad,_,v,w4,ok.cls wz,ok.na _ (Ε (e3 w3)),tD ok.nd (e3 w3) ev,rv⟩
   | _=>cases e
theorem mn {Q:ζ→π→Prop} {E:ζ→π→Prop} {A:ϒ} (I:Rep X z) (h:InO z.h a dx C fs) (c:Cls X.K C) (n:cy X.K C f) (l:fs.lookup f=some v) (r:RD X.W z.ρ z.G d v) (q:Q v { z.s with toks:=z.s.toks+1 }):Β X.M A (Dq (.ref a) f b) Q E z.s:=
 fz I.toHR.kin (InO.objm h) (c.get f) c.hd n l (iQ r) q
theorem xV (T:cm X an) (xr:∀ {z:Z} {a C:Δ} {l:List (ι×ζ)} {f:ι} {v:ζ} {Q:ζ→π→Prop} {b:Bool},Rep X z→ExO z.h a C l→l≠[]→dF X.K C→ϰ X.K C=true→Ν X.K (.ref C) f=some none→l.lookup f=some v→ŀ v=true→Q v { z.s with toks:=z.s.toks+1 }→Β X.M X.A (Dq (.ref a) f b) Q NoE z.s)
 (ha:LE X ea a) (hb:ď ea (an f) X.env (eval ea X.env)=eval ea X.env):LE X (.Attribute ea (an f) pos) (.fld a f):=fun br z I nb=>
 tO hb ((ha true).go .refl I rfl nb fun z1 x u y1 x1 I1 r1 e1=>cg x1 I1 e1 nb fun d q=>by
  have cr:=r1.rb.cr0 I1
  cases x with
  | ins c l=>
    obtain ⟨a,i,vs,rfl,hc,hl,w,rs⟩:=(cr:RD X.W z1.ρ z1.G (.ins c l) u)
    obtain ⟨k,i',j,e1,ok,e2,e3⟩:=kg T (show ((X.Γ.cl[c]?).bind fun k=>l[k.at_.idxOf f]?)=some d from q)
    have e4:=ok.ci
    rw [hc] at e4;cases e4
    obtain ⟨v,ev,rv⟩:=rs.get e2
    have lk:=tD ok.nd (e3 hl) ev
    have mem:an f∈i.nm:=Ε (e3 hl)
    rcases w with ⟨w1,dx,ga⟩ | ⟨w2,w⟩
    ·have w3:k.what≠2:=by have:=ok.wh;rw [w1] at this;have e:=ϡ this;omega
     exact mn I1 (ga.sub I1.gh) (ok.cls w3) (ok.na _ mem) lk rv (.old I1 .tok rv)
    ·have w3:k.what=2:=by have:=ok.wh;rw [w2] at this;exact (ϡ this).symm
     exact xr I1 (w.sub I1.gh) (fun z=>by rw [z] at lk;cases lk) (ok.xc w3).1 (ok.xc w3).2 (ok.na _ mem) lk (iQ rv) (.old I1 .tok rv)
  | ref n=>
    obtain ⟨p,ep,rfl⟩:=(cr:RD X.W z1.ρ z1.G (.ref n) u)
    obtain ⟨C,fs,v,h1,h2,h3,h4,h5⟩:=qS T I1 ep q
    exact mn I1 h1 h2 h3 h4 h5 (.old I1 .tok h5)
  | _=>cases q)
end
abbrev NoW:Δ→Prop:=fun _=>False
def XC (X:Cx) (z z':Z) (c:Nat) (l:List D) (e:ζ):Prop:=∃ a T cls dx,e = .ref a∧XR X.W z' c l cls dx∧Tr z'.s.heap a cls dx T .none∧(z.h a=none∧z'.G a=none∧¬ Mu z'.ρ a)∧z.h T=none∧z'.G T=none∧¬ Mu z'.ρ T
def CRs (X:Cx) (z:Z) (r:Res) (q:Result) (s':π):Prop:=match q with
 | .ok (.ret u)=>∃ z' d,z'.s=s'∧r = .ok d z'.t.st∧Stp X.fr NoW z z'∧HR X z'∧RD X.W z'.ρ z'.G d u
 | .error e=>∃ z' c l,z'.s=s'∧r = .exc c l z'.t.st∧Stp X.fr NoW z z'∧HR X z'∧XC X z z' c l e
 | _=>False
structure FnC (X:Cx) (cal:Nat→List D→List O→Res) (lv j:Nat) (f:Δ) (fd:Þ) (ps:List ι) (dvs:List ζ):Prop where
 len:∀ ds st,cal j ds st≠.bad→ds.length+dvs.length=ps.length
 run:∀ (A:ϒ) (fr:List CT) (z:Z) (args:Args) (us:List ζ) (ds:List D),ba lv A→HR { X with A:=A,fr:=fr } z→Gs z.s fd args (ps.zip (us ++ dvs))→RDs X.W z.ρ z.G ds us→cal j ds z.t.st≠.bad →
  Ŀ X.M A (.call (.ref f) args) (CRs { X with A:=A,fr:=fr } z (cal j ds z.t.st)) z.s
def bX (X:Cx) (cal:Nat→List D→List O→Res) (lv j:Nat) (f:Δ):Prop:=∃ fd ps dvs,FnC X cal lv j f fd ps dvs∧bS X.K fd ps dvs∧ϕ X.K (.ref f)=true
mutual
theorem oK {G G':Hp} (k:∀ a o,G a=some o→(∀ l,¬ LsO o l)→G' a=some o):∀ {d:D} {v},noL d=true→RD W ρ G d v→RD W ρ G' d v
 | .non,_,_,e=>e
 | .bl _,_,_,e=>e
 | .int _,_,_,e=>e
 | .str _,_,_,e=>e
 | .ref _,_,_,e=>e
 | .tup _,_,n,⟨a,o,vs,e,t,q,r⟩=>⟨a,o,vs,e,k _ _ t fun l ⟨⟨_,z⟩,_⟩=>by have:=q.1;rw [z] at this;exact ZX this (show ċ "list"≠.type "tuple" by decide),q,cI k n r⟩
 | .dic _ _,_,n,⟨a,o,vs,e,m,t,q,l,r⟩=>⟨a,o,vs,e,m,k _ _ t fun l ⟨⟨_,z⟩,_⟩=>by obtain ⟨_,_,x,_⟩:=q;have:=x.1;rw [z] at this;exact ZX this (show ċ "list"≠.type "dict" by decide),q,l,cI k n r⟩
 | .ins _ _,_,n,⟨a,i,vs,e,hc,l,t,r⟩=>⟨a,i,vs,e,hc,l,t.elim (fun ⟨w,dx,q1,q2,q3,o,q4,q5⟩=>.inl ⟨w,dx,k _ _ q1 (fun l ⟨⟨_,z⟩,_⟩=>by injection z with z;cases z),q2,q3,o,k _ _ q4 (sA q5),q5⟩) (fun ⟨w,o,vs,q1,q2,q3,q4⟩=>.inr ⟨w,o,vs,k _ _ q1 (fun l ⟨⟨_,z⟩,_⟩=>by rw [z] at q3;cases q3),q2,q3,q4.elim .inl fun ⟨d,od,p1,p2,p3⟩=>.inr ⟨d,od,p1,k _ _ p2 (sA p3),p3⟩⟩),cI k n r⟩
 | .lst _,_,n,_=>by cases n
theorem cI {G G':Hp} (k:∀ a o,G a=some o→(∀ l,¬ LsO o l)→G' a=some o):∀ {ds:List D} {vs},fi ds=true→RDs W ρ G ds vs→RDs W ρ G' ds vs
 | [],_,_,e=>e
 | _ :: _,_,n,⟨v,r,e,t,q⟩=>by
   have n:(noL _ && fi _)=true:=n
   rw [Χ] at n
   exact ⟨v,r,e,oK k n.1 t,cI k n.2 q⟩
theorem sA (h:NsO o m):∀ l,¬ LsO o l:=fun l ⟨⟨_,z⟩,_⟩=>by obtain ⟨_,_,q,_⟩:=h;rw [z] at q;cases q
end
section
variable {X:Cx} {z z':Z} {br:Bool}
theorem Stp.slots (S:Stp fr NoW z z') (n:¬ Mu z.ρ a) (e:z.h a=some o):∃ sl,z'.h a=some { o with slots:=sl }:=by
 by_cases f:a∈frs fr
 ·exact S.sl a o e n id f
 ·exact ⟨o.slots,S.sm a o e n id f⟩
open Classical in
theorem Rep.back (I:Rep X z) (p q:Nat→Bool) (S:Stp X.fr NoW (z.rel p) z') (H:HR X z') (pq:∀ i,p i=true→q i=true) (hq:∀ i∈z.t.ow,q i=true→p i=true∨(isLst z.t.env[i]? = true∧z'.t.st.all kW=true)) :
 ∃ zf,zf.s=z'.s∧zf.t=⟨z.t.env,z.t.ow.filter q,z'.t.st⟩∧zf.ρ=z'.ρ∧Rep X zf∧Ee X z zf∧(∀ a,z.h a=none→zf.G a=z'.G a)∧(∀ a o,z'.G a=some o→(∀ l,¬ LsO o l)→zf.G a=some o)∧((∀ i∈z.t.ow,q i=true→p i=true)→Sub z'.G zf.G):=by
 obtain ⟨Ir,xr⟩:=I.rel p
 let Rm:Δ→Prop:=fun a=>∃ i∈z.t.ow,q i=true∧z.σ[i]? = some (some (.ref a))
 have own:∀ {a},Rm a→Own z a:=fun ⟨i,m,_,e⟩=>⟨i,m,e⟩
 let G2:Hp:=fun a=>if Rm a then none else z'.G a
 have yes:∀ {a},Rm a→G2 a=none:=fun h=>ZZ h
 have no:∀ {a},¬ Rm a→G2 a=z'.G a:=fun h=>ZY h
 have g2s:Sub G2 z'.G:=fun a o e=>by
  by_cases c:Rm a
  ·rw [yes c] at e;cases e
  ·rw [no c] at e;exact e
 have gz:Sub z.G G2:=fun a o e=>by
  by_cases c:Rm a
  ·rw [(I.oth (own c)).1.1] at e;cases e
  ·rw [no c];exact S.gg _ _ (xr.st.gg _ _ e)
 have hold:∀ {i:Nat} {a:Δ},i∈z.t.ow→p i=true→z.σ[i]? = some (some (.ref a))→z'.G a=none:=fun {i a} m pi es=>by
  obtain ⟨f,o',e'⟩:=I.oth ⟨i,m,es⟩
  have n:(z.rel p).G a=none:=(c6 fun ⟨j,mj,pj,ej⟩=>by rw [I.od j i a mj m ej es,pi] at pj;cases pj).trans f.1
  cases w:z'.G a with
  | none=>rfl
  | some o=>
    rcases S.gn a o w with w | w | w
    ·rw [n] at w;cases w
    ·rw [show (z.rel p).h a=z.h a from rfl,e'] at w;cases w
    ·exact w.elim
 have gp:∀ {a o},Rm a→z'.G a=some o→(∃ l,LsO o l)∧z'.t.st.all kW=true∧¬ ∀ i∈z.t.ow,q i=true→p i=true:=fun {a o} ⟨i,m,qi,es⟩ e=>by
  by_cases pi:p i=true
  ·rw [hold m pi es] at e;cases e
  ·obtain ⟨li,al⟩:=(hq i m qi).resolve_left pi
   obtain ⟨d,b,ob,h1,h2,h3,r,f⟩:=I.eo i m
   rw [es] at h2;cases h2
   refine ⟨?_,al,fun w=>pi (w i m qi)⟩
   rw [h1] at li
   cases d with
   | lst ds=>
     cases h3
     obtain ⟨oo,vs,_,e1,l1,_⟩:=r
     have:=S.gg a oo ((fF ⟨i,m,by simpa using pi,es⟩).trans e1)
     rw [e] at this;cases this
     exact ⟨vs,l1⟩
   | _=>cases li
 have kp:∀ a o,z'.G a=some o→(∀ l,¬ LsO o l)→G2 a=some o:=fun a o e n=>by
  by_cases c:Rm a
  ·obtain ⟨⟨l,h⟩,_⟩:=gp c e;exact ZX h (n l)
  ·rw [no c];exact e
 have kq:(∀ i∈z.t.ow,q i=true→p i=true)→Sub z'.G G2:=fun w a o e=>by
  by_cases c:Rm a
  ·exact ZX w (gp c e).2.2
  ·rw [no c];exact e
 have nn:∀ {a},z'.G a=none→G2 a=none:=fun {a} e=>by
  by_cases c:Rm a
  ·exact yes c
  ·rw [no c];exact e
 have rh:∀ {a},(z.rel p).h a=z.h a:=rfl
 have same:∀ a,¬ Mu z.ρ a→∀ o,z.h a=some o→∃ sl,z'.h a=some { o with slots:=sl }:=fun a n o e=>S.slots n e
 have nmu:∀ {a o},z.h a=some o→¬ Mu z.ρ a→¬ Mu z'.ρ a:=fun {a o} e n m=>(S.rn a m).elim n fun w=>by rw [rh,e] at w;cases w
 have nG:∀ {a o},z.h a=some o→(z.rel p).G a=none→z'.G a=none:=fun {a o} e n=>by
  cases w:z'.G a with
  | none=>rfl
  | some o'=>
    rcases S.gn a o' w with w | w | w
    ·rw [n] at w;cases w
    ·rw [rh,e] at w;cases w
    ·exact w.elim
 have ob2:∀ (n:Nat) (o:O) (pp:Δ×Δ),z'.t.st[n]? = some o→z'.ρ[n]? = some pp→ObR X.W z'.ρ G2 z'.h pp o:=fun n o pp h1 h2=>by
  by_cases w:∀ i∈z.t.ow,q i=true→p i=true
  ·exact (H.ob n o pp h1 h2).mono (ο _) (kq w) fun _ _ _ e=>e
  ·by_cases al:z'.t.st.all kW=true
   ·have nl:=ϣ.mp al o (Ε h1)
    cases o with
    | lst l=>cases nl
    | dic ks l=>obtain ⟨o,vs,a1,a2,a3,a4,a5,a6⟩:=H.ob n _ pp h1 h2;exact ⟨o,vs,a1,a2,a3,a4,a5,cI kp nl a6⟩
    | ins c l=>obtain ⟨i,vs,a1,a2,a3,a4,a5⟩:=H.ob n _ pp h1 h2;exact ⟨i,vs,a1,a2,a3,a4,cI kp nl a5⟩
   ·exact ZX (fun i m qi=>(hq i m qi).resolve_right fun v=>al v.2) w
 refine ⟨⟨z'.ρ,G2,⟨z.t.env,z.t.ow.filter q,z'.t.st⟩,z.σ,z'.s⟩,rfl,rfl,rfl,⟨⟨H.md,H.fm,H.hd,fun b o e=>gz _ _ (I.bs b o e),g2s.trans H.gh,H.rl,H.rn,fun a m=>nn (H.rg a m),ob2,H.fu,fun b m=>⟨nn (H.ff b m).1,(H.ff b m).2⟩,H.br,H.os⟩,I.ok,?_,fun x c e=>?_,fun a l=>?_,I.el,I.sl,fun i d n e=>?_,fun i m=>?_,fun i j a m1 m2=>I.od i j a (ϔ.mp m1).1 (ϔ.mp m2).1⟩,⟨⟨S.pr,gz,fun a o e=>?_,S.rn,S.th,fun a o e n w f=>S.sm a o e n id f,fun a o e n w f=>S.sl a o e n id f⟩,rfl,rfl,fun i m=>(ϔ.mp m).1⟩,fun a e=>?_,kp,kq⟩
 ·obtain ⟨m,hn,hl⟩:=I.lo
  have cl:∀ c v,(∃ x,X.env.cells.lookup x=some c)→z.s.heap.IsCell c v→z'.s.heap.IsCell c v:=fun c v ⟨x,ex⟩ ⟨o,e,d⟩=>let ⟨_,w⟩:=same c (I.fl c (.inr ⟨x,ex⟩)).2 o e;⟨_,w,d⟩
  obtain ⟨oL,es,ep,eL,r⟩:=hn
  obtain ⟨sl,w⟩:=same _ (I.fl _ (.inl rfl)).2 oL eL
  exact ⟨m,⟨_,es,ep,w,r⟩,fun i x u h1 h2 h3=>cX (fun c v e q=>cl c v ⟨x,e⟩ q) (hl i x u h1 h2 h3)⟩
 ·obtain ⟨v,o,e1,d⟩:=I.ce x c e
  obtain ⟨sl,w⟩:=same c (I.fl c (.inr ⟨x,e⟩)).2 o e1
  exact ⟨v,_,w,d⟩
 ·obtain ⟨o,e⟩:=I.lth l
  exact ⟨nn (nG e (Ir.fl a l).1),nmu e (I.fl a l).2⟩
 ·by_cases m:i∈z.t.ow
  ·obtain ⟨d',a,o,h1,h2,h3,r,f⟩:=I.eo i m
   rw [show z.t.env[i]? = some (some d) from e] at h1;cases h1
   have qf:¬ q i=true:=fun w=>n (ϔ.mpr ⟨m,w⟩)
   have pf:p i=false:=by cases w:p i with
    | false=>rfl
    | true=>exact ZX (pq i w) qf
   obtain ⟨oa,ea⟩:=r.th.1
   refine ⟨_,h2,jL h3 (r.mono (h':=z.h) S.pr (Sub.refl _) fun _ _ _ e=>e) gz ?_⟩
   have nr:¬ Rm a:=fun ⟨j,mj,qj,ej⟩=>by rw [I.od j i a mj m ej h2] at qj;exact qf qj
   exact (no nr).trans ((S.gg a oa ((fF ⟨i,m,pf,h2⟩).trans ea)).trans ea.symm)
  ·obtain ⟨u,w,r⟩:=I.en i d m e
   exact ⟨u,w,r.mono S.pr gz⟩
 ·obtain ⟨m1,m2⟩:=ϔ.mp m
  obtain ⟨d',a,o,h1,h2,h3,r,f⟩:=I.eo i m1
  obtain ⟨oa,ea⟩:=r.th.1
  refine ⟨d',a,o,h1,h2,h3,r.mono S.pr gz fun b hb o e=>?_,yes ⟨i,m1,m2,h2⟩,nmu ea f.2.1,f.2.2⟩
  have hb:b=a:=hb.elim id id
  subst hb
  exact S.sm b o e f.2.1 id f.2.2.1
 ·rcases S.gn a o (g2s a o e) with w | w | w
  ·by_cases c:j6 z p a
   ·obtain ⟨i,m,_,e⟩:=c;exact .inr (.inr ⟨i,m,e⟩)
   ·rw [c6 c] at w;exact .inl w
  ·exact .inr (.inl w)
  ·exact w.elim
 ·exact no fun c=>by obtain ⟨o,w⟩:=(I.oth (own c)).2;rw [e] at w;cases w
theorem t0 {a r:E} (m:i∈bK r):i∈bK (.cons a r):=by cases a <;> first | exact μ _ m | exact m
theorem jS (I:Rep X (z.rel p)) (gg:Sub z.G (z.rel p).G) (k:∀ i∈bK c,p i=false) {c' ds us} (hs:∀ i∈bK c',i∈bK c) (h:RVs X.W true c' z ds us):RDs X.W z.ρ (z.rel p).G ds us:=
 RVs.ind (P:=fun c' ds us=>(∀ i∈bK c',i∈bK c)→RDs X.W z.ρ (z.rel p).G ds us) (fun _=>rfl) (fun a r d ds u us h _ ih hs=>by
  refine .cons ?_ (ih fun i m=>hs i (t0 m))
  rcases h with h | ⟨_,i,rfl,m,e1,e2⟩
  ·exact h.mono (ο _) gg
  ·obtain ⟨u',q,r⟩:=I.en i d (fun w=>by have:=(ϔ.mp w).2;rw [k i (hs i ν)] at this;cases this) e2
   rw [show z.σ[i]? = some (some u') from q] at e1;cases e1;exact r) c' ds us h hs
theorem gM {o:Out D} (F:bX X X.cal lv j f) (hr:ba lv X.A) (x:Ee X z0 z) (I:Rep X z) (rd:RDs X.W z.ρ (z.rel fun i=>!(bK es).contains i).G ds us) (e:o=hO X.cal es j ds z.t) (nb:o≠.bad):Β X.M X.A (call (.ref f) us) (Pe X z0 o (RV X.W br c)) (Px X z0 o) z.s:=by
 obtain ⟨Ir,xr⟩:=I.rel fun i=>!(bK es).contains i
 obtain ⟨fd,ps,dvs,F,hb,kp⟩:=F
 subst e
 have nbc:X.cal j ds z.t.st≠.bad:=fun q=>nb (by unfold hO;rw [q])
 have bd:=hb z.s us I.toHR.kin (by rw [φ,← rd.len];exact F.len _ _ nbc)
 refine ĉ (ì (F.run X.A X.fr (z.rel fun i=>!(bK es).contains i) ⟨us,[]⟩ us ds hr Ir.toHR bd rd nbc) fun q s' hq=>?_)
 cases q with
 | error e=>
   obtain ⟨z',c,l,rfl,er,S,H,a,T,cls,dx,rfl,xr',tr,⟨na,ga,ma⟩,nT,gT,mT⟩:=hq
   obtain ⟨zf,e1,e2,e3,If,xf,k1,k2,k3⟩:=I.back (fun i=>!(bK es).contains i) _ S H (fun _ h=>h) fun _ _ h=>.inl h
   have nob:∀ {b:Δ},z.h b=none→z'.G b=none→¬ Mu z'.ρ b→Nob X z zf b:=fun {b} n g m=>by
    have ⟨f,no⟩:=I.fre n
    exact ⟨n,⟨(k1 b n).trans g,e3 ▸ m,f.2.2⟩,fun w=>no (xf.own w)⟩
   refine Px.less x ⟨zf,c,l,e1,by unfold hO;rw [show X.cal j ds z.t.st=_ from er,e2];rfl,xf,If,a,cls,dx,rfl,?_,nob na ga ma,.inr ⟨T,.none,e1 ▸ tr,.inl rfl,nob nT gT mT⟩⟩
   obtain ⟨i,a1,a2,a3,a4,a5⟩:=xr'
   refine ⟨i,a1,a2,a3,a4,a5.imp_right fun ⟨d,od,vs,b1,b2,b3,b4⟩=>⟨d,od,vs,b1,k2 _ _ b2 (sA b3),b3,?_⟩⟩
   rw [e3];exact b4.mono (ο _) (k3 fun _ _ h=>h)
 | ok fl=>
   cases fl with
   | ret u=>
     obtain ⟨z',d,rfl,er,S,H,r⟩:=hq
     obtain ⟨zf,e1,e2,e3,If,xf,k1,k2,k3⟩:=I.back (fun i=>!(bK es).contains i) (fun i=>!(bK es).contains i || (isLst z.t.env[i]? && (noL d && z'.t.st.all kW))) S H (fun i h=>by rw [h];rfl) fun i _ h=>by
      cases w:(!(bK es).contains i) with
      | true=>exact .inl rfl
      | false=>rw [w,G9,Χ,Χ] at h;exact .inr ⟨h.1,h.2.2⟩
     refine Pe.less x ⟨zf,d,e1,by unfold hO;rw [show X.cal j ds z.t.st=_ from er,e2];rfl,xf,If,.of ?_⟩
     rw [e3]
     cases w:noL d with
     | true=>exact oK k2 w r
     | false=>exact r.mono (ο _) (k3 fun i _ h=>by rw [w,FP,DD,Ň] at h;exact h)
   | next=>exact hq.elim
   | brk=>exact hq.elim
   | cont=>exact hq.elim
theorem fQ {es:E}:∀ i∈bK es,(!(bK es).contains i)=false:=fun i m=>by simpa using m
theorem uy {x:ι} (F:bX X X.cal lv j f) (hr:ba lv X.A) (hg:Gl X x) (hm:X.mg x=some (.ref f)) (ha:LA X (ea :: er) es) (hd:(x == ("__debug__":ι))=false) (he:Η (ea :: er) X.env=(false,eval ea X.env) :: Η er X.env) (hpl:(ϻ pos (Η er X.env)).any (·.1)=false):LE X (.Call (.Name x p) (ea :: er) [] pos) (.call j es):=fun br z I nb=>
 æ (bg I hg hm (ĭ (h₀:=X.base) I.md.kin (let ⟨_,_,_,_,_,k⟩:=F;k) ((ha true pos).go .refl I rfl nb fun z1 l us y1 x1 I1 r1 e1=>⟨I1.toHR.kin,gM F hr x1 I1 (jS (I1.rel _).1 (I1.rel _).2.st.gg fQ (fun _ h=>h) r1) e1 nb⟩) he hpl) hd)
end
mutual
theorem sP:∀ {d:D} {v},noR d=true→RD W ρ G d v→RD W ρ' G d v
 | .non,_,_,e=>e
 | .bl _,_,_,e=>e
 | .int _,_,_,e=>e
 | .str _,_,_,e=>e
 | .ref _,_,n,_=>by cases n
 | .tup _,_,n,⟨a,o,vs,e,t,q,r⟩=>⟨a,o,vs,e,t,q,cO n r⟩
 | .lst _,_,n,⟨a,o,vs,e,t,q,r⟩=>⟨a,o,vs,e,t,q,cO n r⟩
 | .dic _ _,_,n,⟨a,o,vs,e,m,t,q,l,r⟩=>⟨a,o,vs,e,m,t,q,l,cO n r⟩
 | .ins _ _,_,n,⟨a,i,vs,e,hc,l,t,r⟩=>⟨a,i,vs,e,hc,l,t,cO n r⟩
theorem cO:∀ {ds:List D} {vs},aV ds=true→RDs W ρ G ds vs→RDs W ρ' G ds vs
 | [],_,_,e=>e
 | _ :: _,_,n,⟨v,r,e,t,q⟩=>by
   have n:(noR _ && aV _)=true:=n
   rw [Χ] at n
   exact ⟨v,r,e,sP n.1 t,cO n.2 q⟩
end
theorem gN (k:Nat):∀ l:List D,(im k l).length=l.length
 | []=>rfl
 | _ :: r=>ZS (· + 1) (gN k r)
section
variable {X:Cx} {z z' z0:Z} {br:Bool}
abbrev Z.bare (z:Z):Z:={ z with ρ:=[],t:=⟨z.t.env,z.t.ow,[]⟩ }
theorem gG:¬ Mu [] a:=fun ⟨_,h,_⟩=>nomatch h
theorem HR.bare (I:HR X z):HR X z.bare:=⟨I.md,I.fm,I.hd,I.bs,I.gh,rfl,fun _ _ _ _ _ h=>by simp at h,fun _ m=>(gG m).elim,fun _ _ _ h=>by simp at h,I.fu,fun b m=>⟨(I.ff b m).1,gG⟩,I.br,I.os⟩
theorem Rep.hout (I:Rep X z) (S:Stp X.fr NoW z.bare z') (H:HR X z'):Rep X { z with G:=z'.G,s:=z'.s }∧Ee X z { z with G:=z'.G,s:=z'.s }:=by
 have gn:∀ a o,z'.G a=some o→z.G a=some o∨z.h a=none:=fun a o e=>(S.gn a o e).imp_right fun w=>w.elim id Ŗ
 exact ⟨I.grw (H.os.trans I.os.symm) H.br (fun b o e f=>S.sm b o e gG id f) (fun b o e=>S.slots gG e) S.gg H.gh fun a o e=>(gn a o e).imp_right I.fre,⟨ο _,S.gg,fun a o e=>(gn a o e).imp_right .inl,fun _ m=>.inl m,S.th,fun a o e _ _ f=>S.sm a o e gG id f,fun a o e _ _ f=>S.sl a o e gG id f⟩,rfl,rfl,fun _ h=>h⟩
mutual
theorem RD.sh:∀ {d:D} {v},RD W ρ' G d v→RD W (ρ ++ ρ') G (shD ρ.length d) v
 | .non,_,e=>e
 | .bl _,_,e=>e
 | .int _,_,e=>e
 | .str _,_,e=>e
 | .ref n,_,⟨p,e,q⟩=>⟨p,by rw [Ρ (D9 ..),ŕ];exact e,q⟩
 | .tup _,_,⟨a,o,vs,e,t,q,r⟩=>⟨a,o,vs,e,t,q,r.sh⟩
 | .lst _,_,⟨a,o,vs,e,t,q,r⟩=>⟨a,o,vs,e,t,q,r.sh⟩
 | .dic _ _,_,⟨a,o,vs,e,m,t,q,l,r⟩=>⟨a,o,vs,e,m,t,q,l.trans (gN _ _).symm,r.sh⟩
 | .ins _ _,_,⟨a,i,vs,e,hc,l,t,r⟩=>⟨a,i,vs,e,hc,by rw [gN];exact l,t,r.sh⟩
theorem RDs.sh:∀ {ds:List D} {vs},RDs W ρ' G ds vs→RDs W (ρ ++ ρ') G (im ρ.length ds) vs
 | [],_,e=>e
 | _ :: _,_,⟨v,r,e,t,q⟩=>⟨v,r,e,t.sh,q.sh⟩
end
theorem ObR.sh:∀ {o:O},ObR W ρ' G h p o→ObR W (ρ ++ ρ') G h p (shO ρ.length o)
 | .lst _,⟨o,vs,z,e,q,r⟩=>⟨o,vs,z,e,q,r.sh⟩
 | .dic _ _,⟨o,vs,z,m,e,q,l,r⟩=>⟨o,vs,z,m,e,q,l.trans (gN _ _).symm,r.sh⟩
 | .ins _ _,⟨i,vs,c,w,l,e,r⟩=>⟨i,vs,c,w,by rw [gN];exact l,e,r.sh⟩
theorem dY:Mu (ρ ++ ρ') a↔Mu ρ a∨Mu ρ' a:=⟨fun ⟨p,h,e⟩=>(Ϯ.mp h).imp (fun h=>⟨p,h,e⟩) fun h=>⟨p,h,e⟩,fun h=>h.elim (fun ⟨p,h,e⟩=>⟨p,À _ h,e⟩) fun ⟨p,h,e⟩=>⟨p,Í _ h,e⟩⟩
theorem Rep.more {os:List O} {ρ':Rs} (I:Rep X z) (hl:ρ'.length=os.length) (nw:∀ a,Mu ρ' a→Fre X z a∧¬ Own z a) (rn:∀ (i j:Nat) (p q:Δ×Δ) (a:Δ),ρ'[i]? = some p→ρ'[j]? = some q→(a=p.1∨a=p.2)→(a=q.1∨a=q.2)→i=j)
 (ob:∀ (n:Nat) (o:O) (p:Δ×Δ),os[n]? = some o→ρ'[n]? = some p→ObR X.W (z.ρ ++ ρ') z.G z.h p o):Rep X { z with ρ:=z.ρ ++ ρ',t:=⟨z.t.env,z.t.ow,z.t.st ++ os⟩ }:=by
 have rl:=I.rl
 have pre:z.ρ <+: z.ρ ++ ρ':=ù _ _
 have at_:∀ {i:Nat} {p:Δ×Δ},(z.ρ ++ ρ')[i]? = some p→(i<z.ρ.length∧z.ρ[i]? = some p)∨(z.ρ.length≤i∧ρ'[i - z.ρ.length]? = some p):=fun {i p} h=>by
  by_cases c:i<z.ρ.length
  ·rw [ϊ c] at h;exact .inl ⟨c,h⟩
  ·rw [Ρ (by omega)] at h;exact .inr ⟨by omega,h⟩
 have mem:∀ {i:Nat} {p:Δ×Δ} {l:Rs} {a:Δ},l[i]? = some p→(a=p.1∨a=p.2)→Mu l a:=fun h e=>⟨_,Ε h,e⟩
 refine ⟨⟨I.md,I.fm,I.hd,I.bs,I.gh,by show (z.ρ ++ ρ').length=(z.t.st ++ os).length;simp only [φ];omega,fun i j p q a h1 h2 h3 h4=>?_,fun a m=>(dY.mp m).elim (I.rg a) fun m=>(nw a m).1.1,fun n o p h1 h2=>?_,I.fu,fun b m=>⟨(I.ff b m).1,fun h=>(dY.mp h).elim (I.ff b m).2 fun h=>(nw b h).1.2.2.1 m⟩,I.br,I.os⟩,I.ok,I.lo,I.ce,fun a l=>⟨(I.fl a l).1,fun h=>(dY.mp h).elim (I.fl a l).2 fun h=>(nw a h).1.2.2.2 l⟩,I.el,I.sl,fun i d n e=>let ⟨u,q,r⟩:=I.en i d n e;⟨u,q,r.mono pre (.refl _)⟩,fun i m=>?_,I.od⟩
 ·rcases at_ h1 with ⟨c1,w1⟩ | ⟨c1,w1⟩ <;> rcases at_ h2 with ⟨c2,w2⟩ | ⟨c2,w2⟩
  ·exact I.rn i j p q a w1 w2 h3 h4
  ·exact ZX (mem w1 h3) (nw a (mem w2 h4)).1.2.1
  ·exact ZX (mem w2 h4) (nw a (mem w1 h3)).1.2.1
  ·have:=rn _ _ p q a w1 w2 h3 h4;omega
 ·have h1:(z.t.st ++ os)[n]? = some o:=h1
  rcases at_ h2 with ⟨c1,w1⟩ | ⟨c1,w1⟩
  ·rw [ϊ (by omega)] at h1
   exact (I.ob n o p h1 w1).mono pre (.refl _) fun _ _ _ e=>e
  ·rw [Ρ (by omega),← rl] at h1
   exact ob _ o p h1 w1
 ·obtain ⟨d,a,o,h1,h2,h3,r,f⟩:=I.eo i m
  exact ⟨d,a,o,h1,h2,h3,r.mono pre (.refl _) fun _ _ _ e=>e,f.1,fun h=>(dY.mp h).elim f.2.1 fun h=>(nw a h).2 ⟨i,m,h2⟩,f.2.2⟩
theorem rJ {x:ι} (F:bX X X.cal lv j f) (hr:ba lv X.A) (hg:Gl X x) (hm:X.mg x=some (.ref f)) (ha:LA X (ea :: er) es) (hd:(x == ("__debug__":ι))=false) (he:Η (ea :: er) X.env=(false,eval ea X.env) :: Η er X.env) (hpl:(ϻ pos (Η er X.env)).any (·.1)=false):LE X (.Call (.Name x p) (ea :: er) [] pos) (.hcall j es):=fun br z I nb=>
 æ (bg I hg hm (ĭ (h₀:=X.base) I.md.kin (let ⟨_,_,_,_,_,k⟩:=F;k) ((ha false pos).go .refl I rfl nb fun z1 l us y1 x1 I1 r1 e1=>⟨I1.toHR.kin,by
  obtain ⟨fd,ps,dvs,F,hb,kp⟩:=F
  unfold uf at e1
  by_cases nr:aV l=true
  ·rw [ZZ nr] at e1
   have nbc:X.cal j l []≠.bad:=fun q=>by rw [q] at e1;exact nb e1
   have rd:RDs X.W z1.bare.ρ z1.bare.G l us:=cO nr r1.rds
   have bd:=hb z1.s us I1.toHR.kin (by rw [φ,← rd.len];exact F.len _ _ nbc)
   refine ĉ (ì (F.run X.A X.fr z1.bare ⟨us,[]⟩ us l hr I1.toHR.bare bd rd nbc) fun q s' hq=>?_)
   cases q with
   | error e=>
     obtain ⟨z',c,l',rfl,er,S,H,a,T,cls,dx,rfl,xr',tr,⟨na,ga,ma⟩,nT,gT,mT⟩:=hq
     rw [show X.cal j l []=_ from er] at e1
     obtain ⟨If,xf⟩:=I1.hout S H
     by_cases n2:aV l'=true
     ·have e1:=e1.trans (ZZ n2)
      have nob:∀ {b:Δ},z1.h b=none→z'.G b=none→Nob X z1 { z1 with G:=z'.G,s:=z'.s } b:=fun {b} n g=>by
       have ⟨f,no⟩:=I1.fre n
       exact ⟨n,⟨g,f.2⟩,no⟩
      refine Px.less x1 ⟨{ z1 with G:=z'.G,s:=z'.s },c,l',rfl,e1,xf,If,a,cls,dx,rfl,?_,nob na ga,.inr ⟨T,.none,tr,.inl rfl,nob nT gT⟩⟩
      obtain ⟨i,a1,a2,a3,a4,a5⟩:=xr'
      exact ⟨i,a1,a2,a3,a4,a5.imp_right fun ⟨d,od,vs,b1,b2,b3,b4⟩=>⟨d,od,vs,b1,b2,b3,cO n2 b4⟩⟩
     ·exact ZX (e1.trans (ZY n2)) nb
   | ok fl=>
     cases fl with
     | ret u=>
       obtain ⟨z',d,rfl,er,S,H,r⟩:=hq
       rw [show X.cal j l []=_ from er] at e1
       obtain ⟨If,xf⟩:=I1.hout S H
       by_cases n2:noR d=true
       ·have e1:=e1.trans (show (if noR d=true then Out.ok d z1.t else _)=_ from ZZ n2)
        exact Pe.less x1 ⟨{ z1 with G:=z'.G,s:=z'.s },d,rfl,e1,xf,If,.of (sP n2 r)⟩
       ·have e1:=e1.trans (show (if noR d=true then Out.ok d z1.t else _)=_ from ZY n2)
        have new:∀ a,Mu z'.ρ a→z1.h a=none:=fun a m=>(S.rn a m).elim (fun m=>(gG m).elim) id
        have I2:=If.more (ρ':=z'.ρ) (os:=z'.t.st.map (shO z1.t.st.length)) (by rw [Ι];exact H.rl) (fun a m=>let ⟨f,no⟩:=I1.fre (new a m);⟨⟨H.rg a m,f.2⟩,no⟩) H.rn (fun n o p h1 h2=>by
         rw [Φ,ψ] at h1
         obtain ⟨o',h1,rfl⟩:=h1
         rw [← I1.rl];exact (H.ob n o' p h1 h2).sh)
        refine Pe.less x1 ⟨{ z1 with ρ:=z1.ρ ++ z'.ρ,G:=z'.G,t:=⟨z1.t.env,z1.t.ow,z1.t.st ++ z'.t.st.map (shO z1.t.st.length)⟩,s:=z'.s },shD z1.t.st.length d,rfl,e1,⟨⟨ù _ _,xf.st.gg,xf.st.gn,fun a m=>(dY.mp m).imp_right (new a),xf.st.th,xf.st.sm,xf.st.sl⟩,rfl,rfl,fun _ h=>h⟩,I2,.of ?_⟩
        rw [← I1.rl];exact r.sh
     | next=>exact hq.elim
     | brk=>exact hq.elim
     | cont=>exact hq.elim
  ·rw [ZY nr] at e1;exact ZX e1 nb⟩) he hpl) hd)
structure o6 (X:Cx) (an:Nat→ι) (m:ι) (c:Nat) (f:Δ):Prop where
 ex:∃ i k,X.Γ.cl[c]? = some k∧dy X an c k i∧k.what=0∧zA X.K i.ad m f∧m ∉ i.nm
theorem tH {l:List ι} {vs:List ζ} (h:m ∉ l):(l.zip vs).lookup m=none:=by
 induction l generalizing vs with
 | nil=>rfl
 | cons n r ih=>
   cases vs with
   | nil=>rfl
   | cons w vs=>
     show (match m == n with | true=>some w | false=>(r.zip vs).lookup m)=none
     rw [show (m == n)=false from ZU.mpr fun z=>h (by rw [z];exact ν)]
     exact ih fun z=>h (μ _ z)
theorem oq {n:Nat} {l:List D} {p:Δ×Δ} {Q:ζ×List ζ→π→Prop} {E:ζ→π→Prop} {pl:EB Bool} (M:o6 X an m c f) (I:Rep X z) (e:z.t.st[n]? = some (.ins c l)) (ep:z.ρ[n]? = some p) (q:Q (.ref f,[.ref p.1]) z.s):Β X.M X.A (DI (.ref p.1) m pl) Q E z.s:=by
 obtain ⟨i,k,hc,ok,w,hm,nm⟩:=M.ex
 obtain ⟨i',vs,w1,w2,w3,w4,w5⟩:=I.ob n _ p e ep
 have e4:=ok.ci
 rw [w1] at e4;cases e4
 exact qZ I.toHR.kin (InO.objm w4) ((ok.cls (by omega)).get m) hm.at_ hm.fn (tH nm) q
theorem ox {o:Out D} {f:List D→Sta→Out D} {x:D} (e:o=(match x with
 | .ref p=>(match z.t.st[p]? with
   | some (.ins c' _)=>if c'=c then (X.evs true es z.t).bind fun l s=>hO X.cal es j (x :: l) s else .bad
   | _=>.bad)
 | _=>.bad)) (nb:o≠.bad):∃ n l,x = .ref n∧z.t.st[n]? = some (.ins c l)∧o=(X.evs true es z.t).bind fun l s=>hO X.cal es j (.ref n :: l) s:=by
 cases x with
 | ref n=>
   dsimp only at e
   cases q:z.t.st[n]? with
   | none=>rw [q] at e;exact ZX e nb
   | some ob=>
     rw [q] at e
     cases ob with
     | ins c' l=>
       dsimp only at e
       by_cases h:c'=c
       ·subst h;rw [ZZ rfl] at e;exact ⟨n,l,rfl,q,e⟩
       ·rw [ZY h] at e;exact ZX e nb
     | _=>exact ZX e nb
 | _=>exact ZX e nb
theorem xZ (F:bX X X.cal lv j f) (hr:ba lv X.A) (M:o6 X an m c f) (ho:LE X eo a) (ha:LA X (ea :: er) es) (he:Η (ea :: er) X.env=(false,eval ea X.env) :: Η er X.env) (hpl:(ϻ pos (Η er X.env)).any (·.1)=false)
 (ht:eval (.Call (.Attribute eo m apos) (ea :: er) [] pos) X.env=(do
  let ov ← eval eo X.env
  Ř apos.atName
  let (f,first) ← holding [ov] (DI ov m pl)
  ũ pos f first (ϻ pos (Η (ea :: er) X.env)) (Ð pos (ϩ [] X.env)))):LE X (.Call (.Attribute eo m apos) (ea :: er) [] pos) (.mth c j a es):=fun br z I nb=>
 Œ (pl:=pl) ((ho true).go .refl I rfl nb fun z1 x u y1 x1 I1 r1 e1=>by
  obtain ⟨n,l,rfl,q,e1⟩:=ox (f:=fun _ _=>.bad) e1 nb
  obtain ⟨p,ep,rfl⟩:=(r1.rb.cr0 I1:RD X.W z1.ρ z1.G (.ref n) u)
  exact oq M I1 q ep (ĭ (first:=[.ref p.1]) (h₀:=X.base) I.md.kin (let ⟨_,_,_,_,_,k⟩:=F;k) ((ha true pos).go x1 I1 e1 nb fun z2 l us y2 x2 I2 r2 e2=>⟨I2.toHR.kin,gM (us:=.ref p.1 :: us) F hr x2 I2 (.cons (d:=.ref n) ⟨p,jN y2.st.pr ep,rfl⟩ (jS (I2.rel _).1 (I2.rel _).2.st.gg fQ (fun _ h=>h) r2)) e2 nb⟩) he hpl)) ht
theorem uC (F:bX X X.cal lv j f) (hr:ba lv X.A) (M:o6 X an m c f) (ho:LE X eo a)
 (ht:eval (.Call (.Attribute eo m apos) [] [] pos) X.env=(do
  let ov ← eval eo X.env
  Ř apos.atName
  let (f,first) ← holding [ov] (DI ov m pl)
  ũ pos f first (ϻ pos (Η [] X.env)) (Ð pos (ϩ [] X.env)))):LE X (.Call (.Attribute eo m apos) [] [] pos) (.mth c j a .nil):=fun br z I nb=>
 Œ (pl:=pl) ((ho true).go .refl I rfl nb fun z1 x u y1 x1 I1 r1 e1=>by
  obtain ⟨n,l,rfl,q,e1⟩:=ox (f:=fun _ _=>.bad) e1 nb
  obtain ⟨p,ep,rfl⟩:=(r1.rb.cr0 I1:RD X.W z1.ρ z1.G (.ref n) u)
  exact oq M I1 q ep (E1 (first:=[.ref p.1]) I1.toHR.kin (let ⟨_,_,_,_,_,k⟩:=F;k) (gM (us:=[.ref p.1]) (es:=.nil) F hr x1 I1 (.cons (d:=.ref n) (ds:=[]) ⟨p,ep,rfl⟩ rfl) e1 nb))) ht
theorem eA (C:Δ) (us:List ζ) (kw:List (ι×ζ)):(X.A.under (.builtin "type.__call__" ⟨.ref C :: us,kw⟩)).frames=X.A.frames:=by simp [DW,Code.envs,E7,pushEnvs]
theorem jE:Mu (ρ ++ [p]) a↔Mu ρ a∨a=p.1∨a=p.2:=by
 constructor
 ·rintro ⟨q,h,e⟩
  rcases Ϯ.mp h with h | h
  ·exact .inl ⟨q,h,e⟩
  ·cases η.mp h;exact .inr e
 ·rintro (⟨q,h,e⟩ | e)
  ·exact ⟨q,À _ h,e⟩
  ·exact ⟨p,Í _ ν,e⟩
theorem cF {l:List α} (e:(l ++ [a])[n]? = some b):l[n]? = some b∨(n=l.length∧b=a):=by
 rcases Nat.lt_trichotomy n l.length with h | h | h
 ·rw [ϊ h] at e;exact .inl e
 ·subst h;rw [Ρ (ω _),ė] at e;cases e;exact .inr ⟨rfl,rfl⟩
 ·rw [Ρ (ą h),ť (by simp;omega)] at e;cases e
theorem HR.snoc (I:HR X z) (g:Gr z.s s') (hp:z.h p.1=none∧z.h p.2=none) (r:ObR X.W (z.ρ ++ [p]) z.G s'.heap.get? p o):HR X { z with ρ:=z.ρ ++ [p],t:=⟨z.t.env,z.t.ow,z.t.st ++ [o]⟩,s:=s' }∧Stp X.fr w z { z with ρ:=z.ρ ++ [p],t:=⟨z.t.env,z.t.ow,z.t.st ++ [o]⟩,s:=s' }:=by
 have nn:∀ {a:Δ},(a=p.1∨a=p.2)→z.h a=none:=fun h=>h.elim (fun e=>e ▸ hp.1) fun e=>e ▸ hp.2
 have pre:z.ρ <+: z.ρ ++ [p]:=ù _ _
 have no:∀ {a:Δ} {P:Prop},(a=p.1∨a=p.2)→(∃ o,z.h a=some o)→P:=fun h ⟨o,e⟩=>by rw [nn h] at e;cases e
 have old:∀ {i:Nat} {q:Δ×Δ} {a:Δ},z.ρ[i]? = some q→(a=q.1∨a=q.2)→∃ o,z.h a=some o:=fun h1 h2=>I.th ⟨_,Ε h1,h2⟩
 refine ⟨⟨I.md,I.fm,I.hd,I.bs,fun a o e=>g.k a o (I.gh a o e),by simp [I.rl],fun i j q1 q2 a h1 h2 h3 h4=>?_,fun a m=>?_,fun n o' q h1 h2=>?_,nfu I.fu g.k,fun b m=>⟨(I.ff b m).1,fun w=>(jE.mp w).elim (I.ff b m).2 fun w=>no w (I.fth m)⟩,by show Ŝ s'.gens;rw [g.gs];exact I.br,g.os.trans I.os⟩,⟨pre,.refl _,fun _ _ e=>.inl e,fun a m=>(jE.mp m).imp_right nn,fun a o e=>⟨o,g.k a o e⟩,fun a o e _ _ _=>g.k a o e,fun a o e _ _ _=>⟨o.slots,g.k a o e⟩⟩⟩
 ·rcases cF h1 with a1 | ⟨a1,b1⟩
  ·rcases cF h2 with a2 | ⟨a2,b2⟩
   ·exact I.rn i j q1 q2 a a1 a2 h3 h4
   ·subst b2;exact no h4 (old a1 h3)
  ·subst b1
   rcases cF h2 with a2 | ⟨a2,b2⟩
   ·exact no h3 (old a2 h4)
   ·rw [a1,a2]
 ·rcases jE.mp m with m | m
  ·exact I.rg a m
  ·cases q:z.G a with
   | none=>rfl
   | some o=>exact no m ⟨o,I.gh a o q⟩
 ·rcases cF h2 with a2 | ⟨a2,b2⟩
  ·rcases cF h1 with a1 | ⟨a1,_⟩
   ·exact (I.ob n o' q a1 a2).mono pre (.refl _) fun a _ o e=>g.k a o e
   ·have:=(τ.mp a2).1;rw [I.rl] at this;omega
  ·subst b2
   rcases cF h1 with a1 | ⟨_,b1⟩
   ·have:=(τ.mp a1).1;rw [← I.rl] at this;omega
   ·subst b1;exact r
theorem HR.at {A:ϒ} (I:HR X z) (f:A.frames=X.A.frames) (h:A.handled=X.A.handled):HR { X with A:=A } z:=⟨I.md,f.trans I.fm,fun c=>h.trans (I.hd c),I.bs,I.gh,I.rl,I.rn,I.rg,I.ob,I.fu,I.ff,I.br,I.os⟩
theorem oQ {o:Out D} {j:Nat} {cl:Cl} {i:CI} (F:bX X X.cal1 lv cl.init f) (hr:ba (lv+1) X.A) (M:Mk X.K i.ad f) (hcl:X.Γ.cl[j]? = some cl) (hw:cl.what=0) (hci:X.W.ci[j]? = some i) (hwh:X.W.what[j]? = some 0) (x:Ee X z0 z) (I:Rep X z) (r:RVs X.W true es z l us)
 (e:o=(match X.Γ.cl[j]? with
 | some k=>if k.what=1 then (if l.length=k.at_.length then .ok (.ins j l) (drp es z.t z.t.st) else .bad)
   else if k.what=0 then (match X.cal1 k.init (.ref z.t.st.length :: l) (z.t.st ++ [.ins j []]) with
    | .ok .non st=>.ok (.ref z.t.st.length) (aft es z.t .non st)
    | _=>.bad)
   else .bad
 | none=>.bad)) (nb:o≠.bad):Β X.M X.A (call (.ref i.ad) us) (Pe X z0 o (RV X.W br c)) (Px X z0 o) z.s:=by
 rw [hcl] at e
 dsimp only at e
 rw [ZY (by omega),ZZ hw] at e
 obtain ⟨Ir,xr⟩:=I.rel fun i=>!(bK es).contains i
 obtain ⟨fd,ps,dvs,F,hb,kp⟩:=F
 have nbc:X.cal1 cl.init (.ref z.t.st.length :: l) (z.t.st ++ [.ins j []])≠.bad:=fun q=>by rw [q] at e;exact nb e
 have g:Gr z.s { z.s with heap:=(z.s.heap.push ϙ).push (Ϣ i.ad z.s.heap.objs.size) }:=⟨rfl,rfl,fun b o e=>ς _ (ς _ e)⟩
 have e1:(z.s.heap.push ϙ).get? z.s.heap.objs.size=some ϙ:=χ z.s.heap rfl
 have e2:((z.s.heap.push ϙ).push (Ϣ i.ad z.s.heap.objs.size)).get? (z.s.heap.objs.size+1)=some (Ϣ i.ad z.s.heap.objs.size):=by
  have:=χ (z.s.heap.push ϙ) (o:=Ϣ i.ad z.s.heap.objs.size) rfl
  rwa [ϴ] at this
 have hn:z.h (z.s.heap.objs.size+1)=none∧z.h z.s.heap.objs.size=none:=⟨Ϙ (ê _),Ϙ (ω _)⟩
 have ne:z.s.heap.objs.size≠z.s.heap.objs.size+1:=ϝ (Ŕ _)
 obtain ⟨H1,S1⟩:=HR.snoc (w:=NoW) (p:=(z.s.heap.objs.size+1,z.s.heap.objs.size)) (o:=.ins j []) Ir.toHR g hn ⟨i,[],hci,hwh,Â _,⟨e2,ne,by simp,_,ς _ e1,#[],_,rfl,(fun e he=>ZX he (by simp)),.nil,fun n=>by cases i.nm <;> rfl⟩,rfl⟩
 have at0:(z.ρ ++ [(z.s.heap.objs.size+1,z.s.heap.objs.size)])[z.t.st.length]? = some (z.s.heap.objs.size+1,z.s.heap.objs.size):=by rw [Ρ (by rw [I.rl];exact ω _),I.rl,ė];rfl
 have rd0:=jS Ir xr.st.gg fQ (fun _ h=>h) r
 have rd:RDs X.W (z.ρ ++ [(z.s.heap.objs.size+1,z.s.heap.objs.size)]) (z.rel fun i=>!(bK es).contains i).G (.ref z.t.st.length :: l) (.ref (z.s.heap.objs.size+1) :: us):=.cons ⟨_,at0,rfl⟩ (rd0.mono (ù _ _) (.refl _))
 have bd:=hb { z.s with heap:=(z.s.heap.push ϙ).push (Ϣ i.ad z.s.heap.objs.size) } (.ref (z.s.heap.objs.size+1) :: us) (I.toHR.kin.keeps g.k) (by rw [φ,← rd.len];exact F.len _ _ nbc)
 refine ĉ (kQ (f:=f) I.toHR.kin M.makes M.init (beq_iff_eq.mp M.fn) (ì (F.run _ X.fr _ ⟨.ref (z.s.heap.objs.size+1) :: us,[]⟩ _ _ (hr.make i.ad us []) (H1.at (eA i.ad us []) rfl) bd rd nbc) fun q s' hq=>?_))
 cases q with
 | error e'=>obtain ⟨z',c,l',_,er,_,_,_⟩:=hq;rw [show X.cal1 cl.init (.ref z.t.st.length :: l) (z.t.st ++ [.ins j []])=_ from er] at e;exact ZX e nb
 | ok fl=>
   cases fl with
   | ret u=>
     obtain ⟨z',d,rfl,er,S,H,r⟩:=hq
     rw [show X.cal1 cl.init (.ref z.t.st.length :: l) (z.t.st ++ [.ins j []])=_ from er] at e
     cases d with
     | non=>
       refine ⟨(show u = .none from r),?_⟩
       have S2:Stp X.fr NoW (z.rel fun i=>!(bK es).contains i) z':=S1.trans S fun _ h=>h.elim
       have H2:HR X z':=H.at (X:={ X with A:=_,fr:=X.fr }) (A:=X.A) (eA i.ad us []).symm rfl
       obtain ⟨zf,f1,f2,f3,If,xf,k1,k2,k3⟩:=I.back (fun i=>!(bK es).contains i) (fun i=>!(bK es).contains i || (isLst z.t.env[i]? && (noL .non && z'.t.st.all kW))) S2 H2 (fun i h=>by rw [h];rfl) fun i _ h=>by
        cases w:(!(bK es).contains i) with
        | true=>exact .inl rfl
        | false=>rw [w,G9,Χ,Χ] at h;exact .inr ⟨h.1,h.2.2⟩
       refine Pe.less x ⟨zf,.ref z.t.st.length,f1,by rw [e,f2];rfl,xf,If,.of ⟨(z.s.heap.objs.size+1,z.s.heap.objs.size),?_,rfl⟩⟩
       rw [f3]
       exact jN S.pr at0
     | _=>exact ZX e nb
   | next=>exact hq.elim
   | brk=>exact hq.elim
   | cont=>exact hq.elim
end
def Ps (X:Cx) (z:Z) (o:av) (f:Flow) (s':π):Prop:=match o with
 | .nx t=>f = .next∧∃ z',z'.s=s'∧z'.t=t∧Go X z z'∧Rep X z'
 | .rt d t=>∃ u z',f = .ret u∧z'.s=s'∧z'.t.st=t.st∧Go X z z'∧Rep X z'∧RD X.W z'.ρ z'.G d u
 | _=>False
inductive PxS (X:Cx) (z:Z) (o:av) (x:ζ) (s':π):Prop
 | mk (z':_) (c:_) (l:_) (_:z'.s=s') (_:o = .exc c l z'.t) (_:Go X z z') (_:Rep X z') (_:XO X z z' c l x)
abbrev Ws (X:Cx) (t:EB Flow) (z:Z) (o:av):Prop:=Β X.M X.A t (Ps X z o) (PxS X z o) z.s
def LS (X:Cx) (st:Ô) (c:S):Prop:=∀ z,Rep X z→X.ex c z.t≠.bad→Ws X (exec st X.env) z (X.ex c z.t)
def LSs (X:Cx) (st:List Ô) (c:S):Prop:=∀ z,Rep X z→X.ex c z.t≠.bad→Ws X (execs st X.env) z (X.ex c z.t)
section
variable {X:Cx} {z z' z0 z1:Z}
theorem Ps.less (x:Go X z z1) (h:Ps X z1 o f s'):Ps X z o f s':=by
 cases o with
 | nx t=>obtain ⟨e,z',a,b,y,I⟩:=h;exact ⟨e,z',a,b,x.trans y,I⟩
 | rt d t=>obtain ⟨u,z',e,a,b,y,I⟩:=h;exact ⟨u,z',e,a,b,x.trans y,I⟩
 | _=>exact h
theorem PxS.less (x:Go X z z1) (h:PxS X z1 o u s'):PxS X z o u s':=let ⟨z',c,l,e,q,y,I,n⟩:=h;⟨z',c,l,e,q,x.trans y,I,n.less fun _=>x.st.no⟩
theorem PxS.of {m:Out α} (x:Go X z z1) (h:Px X z1 m u s') {f:α→Sta→av}:PxS X z (m.go f) u s':=let ⟨z',c,l,e,q,y,I,n⟩:=h;⟨z',c,l,e,by rw [q];rfl,x.trans y.go,I,n.less fun _=>x.st.no⟩
theorem Jg.gos {t:EB β} {m:Sta→Out α} {R:Z→α→β→Prop} {f:α→Sta→av} {o:av} {K:β→π→Prop} (h:Jg X t m R) (x:Go X z z1) (I:Rep X z1) (e:o=(m z1.t).go f) (nb:o≠.bad)
 (k:∀ z2 d u,Ee X z1 z2→Go X z z2→Rep X z2→R z2 d u→o=f d z2.t→K u z2.s):Β X.M X.A t K (PxS X z o) z1.s:=by
 subst e
 refine Υ (h z1 I fun q=>nb (by rw [q];rfl)) (fun u s' ⟨z2,d,e,q,y,I1,r⟩=>?_) fun u s' h=>.of x h
 subst e;exact k z2 d u y (x.trans y.go) I1 r (by rw [q];rfl)
theorem nxt (x:Go X z z1) (I:Rep X z1) (e:o = .nx z1.t):Ps X z o .next z1.s:=by subst e;exact ⟨rfl,z1,rfl,rfl,x,I⟩
theorem LSs.at (h:LSs X sts c) (x:Go X z z1) (I:Rep X z1) (e:o=X.ex c z1.t) (nb:o≠.bad):Β X.M X.A (execs sts X.env) (Ps X z o) (PxS X z o) z1.s:=by subst e;exact Υ (h z1 I nb) (fun _ _ h=>h.less x) fun _ _ h=>h.less x
theorem rS:LSs X [] .skip:=fun z I _=>ķ (nxt .refl I rfl)
theorem rT (h:LS X tm c):LSs X [tm] c:=fun z I nb=>ŧ (thn (h z I nb) fun f s1 q=>by
 cases f with
 | next=>exact ķ q
 | ret v=>exact q
 | brk=>exact q
 | cont=>exact q)
theorem nZ (h1:LS X tm a) (h2:LSs X rest b):LSs X (tm :: rest) (.seq a b):=fun z I nb=>by
 have nb1:X.ex a z.t≠.bad:=fun q=>nb (show av.go (X.ex a z.t) _=_ by rw [q];rfl)
 refine ŧ (Υ (h1 z I nb1) (fun f s1 q=>?_) fun u s' ⟨z',c,l,e,q,y,J,r⟩=>⟨z',c,l,e,show av.go (X.ex a z.t) _=_ by rw [q];rfl,y,J,r⟩)
 cases qa:X.ex a z.t with
 | nx t=>
   rw [qa] at q
   obtain ⟨rfl,z1,rfl,rfl,x1,I1⟩:=q
   exact h2.at x1 I1 (show av.go (X.ex a z.t) _=_ by rw [qa];rfl) nb
 | rt d t=>
   have e:X.ex (.seq a b) z.t = .rt d t:=show av.go (X.ex a z.t) _=_ by rw [qa];rfl
   rw [qa] at q
   obtain ⟨u,z1,rfl,r⟩:=q
   show Ps X z (X.ex (.seq a b) z.t) (.ret u) s1
   rw [e];exact ⟨u,z1,rfl,r⟩
 | exc c l t=>rw [qa] at q;exact q.elim
 | bad=>exact ZX qa nb1
theorem n9 (h:∀ z,Rep X z→Β X.M X.A (exec tm X.env) (fun f s'=>f = .next∧Gr z.s s') NoE z.s):LS X tm .skip:=fun z I _=>Υ (h z I) (fun f s' ⟨e,g⟩=>by subst e;exact nxt (z1:={ z with s:=s' }) (aq I.gh g).ee.go (I.grow (aq I.gh g)) rfl) fun _ _ z=>z.elim
theorem uS:LS X (.Pass pos) .skip:=n9 fun _ _=>wpAny_Pass ⟨rfl,.refl⟩
theorem Rep.quiet (I:Rep X z):interactive X.env=false:=by simp [interactive,I.ok.kd]
theorem yp:LS X (.Expr (.Constant (.str x) j pos) pos') .skip:=n9 fun z I=>wpAny_Expr (ø (show _∧_ from ⟨rfl,.tok⟩)) I.quiet
theorem uP (he:LE X e c) (hs:C7 e none pos.line X.env=pure false):LS X (.Expr e pos) (.drop c):=fun z I nb=>ſ ((he false).gos .refl I rfl nb fun z1 d u y x I1 r e1=>nxt x I1 e1) I.quiet hs
theorem mB (he:LE X e c):LS X (.Return (some e) pos) (.ret c):=fun z I nb=>wpAny_Return_some ((he false).gos .refl I rfl nb fun z1 d u y x I1 r e1=>by
 show Ps X z (X.ex (.ret c) z.t) _ _
 rw [e1];exact ⟨u,z1,rfl,rfl,rfl,x,I1,r.rd⟩)
theorem uV:LS X (.Return none pos) (.ret (.c .non)):=fun z I nb=>wpAny_Return_none ⟨.none,z,rfl,rfl,rfl,.refl,I,rfl⟩
theorem AR (hc:LT X ec c) (ha:LSs X sa a) (hb:LSs X sb b):LS X (.If ec sa sb pos) (.ifs c a b):=fun z I nb=>by
 have e:X.ex (.ifs c a b) z.t=((X.ev true c z.t).bind toB).go fun t s=>if t then X.ex a s else X.ex b s:=by
  show Out.go (X.ev true c z.t) _=_
  cases X.ev true c z.t with
  | ok d s=>cases d <;> first | rfl | (rename_i t;cases t <;> rfl)
  | _=>rfl
 refine wpAny_If (hc.gos .refl I e nb fun z1 t u y x I1 r e1=>?_)
 cases (show u=t from r)
 cases t with
 | true=>exact ha.at x I1 e1 nb
 | false=>exact hb.at x I1 e1 nb
def Vl (X:Cx) (z0 z:Z) (own:Bool) (d:D) (u:ζ):Prop:=match own with
 | false=>RD X.W z.ρ z.G d u
 | true=>FV X z0 z d u
def stV (t:Sta) (i:Nat) (d:D) (own:Bool):Sta:=⟨t.env.set i (some d),if own then i :: t.ow.filter (· != i) else t.ow.filter (· != i),t.st⟩
theorem jk {h h' base:Ϸ} (k:∀ b o,h.get? b=some o→(∀ vs,o.data≠.fields vs)→∃ o',h'.get? b=some o'∧∀ vs,o'.data≠.fields vs):∀ {l:List CT},h.FunFrames base l→h'.FunFrames base l
 | [],_=>trivial
 | _ :: _,⟨a,⟨L,o,e1,e2,e3,e4⟩,r⟩=>let ⟨o',q1,q2⟩:=k L o e3 e4;⟨a,⟨L,o',e1,e2,q1,q2⟩,jk k r⟩
theorem Rep.put {s':π} {i:Nat} {own:Bool} {d:D} {u:ζ} (x0:Go X z0 z) (I:Rep X z) (sb:ú a z.s.heap s'.heap) (la:Lc X a) (th:∃ o,s'.heap.get? a=some o∧∀ vs,o.data≠.fields vs) (os:s'.os=z.s.os) (gs:s'.gens=z.s.gens) (vl:Vl X z0 z own d u) (hi:i<X.N.length)
 (lo:∃ m,s'.heap.Ns X.env.locals m∧∀ (j:Nat) (x:ι) (w:ζ),X.N[j]? = some x→(z.σ.set i (some u))[j]? = some (some w)→Vis X.env.scope x→lS X.env s'.heap m x w)
 (ce:∀ x c,X.env.cells.lookup x=some c→∃ v,s'.heap.IsCell c v):Rep X { z with t:=stV z.t i d own,σ:=z.σ.set i (some u),s:=s' }∧Go X z0 { z with t:=stV z.t i d own,σ:=z.σ.set i (some u),s:=s' }:=by
 have ne:∀ {b:Δ},¬ Lc X b→s'.heap.get? b=z.h b:=fun n=>sb.2 _ fun e=>n (e ▸ la)
 have nG:∀ {b o},z.G b=some o→¬ Lc X b:=fun e l=>by rw [(I.fl _ l).1] at e;cases e
 have nM:∀ {b},Mu z.ρ b→¬ Lc X b:=fun m l=>(I.fl _ l).2 m
 have hiσ:i<z.σ.length:=by rw [I.sl];exact hi
 have ow:∀ {j},j∈(stV z.t i d own).ow→(j=i∧own=true)∨(j≠i∧j∈z.t.ow):=fun {j} m=>by
  cases own with
  | true=>
    rcases ξ.mp (show j∈i :: z.t.ow.filter (· != i) from m) with w | w
    ·exact .inl ⟨w,rfl⟩
    ·have:=ϔ.mp w;exact .inr ⟨by simpa using this.2,this.1⟩
  | false=>have:=ϔ.mp (show j∈z.t.ow.filter (· != i) from m);exact .inr ⟨by simpa using this.2,this.1⟩
 have wo:∀ {j},j≠i→j∈z.t.ow→j∈(stV z.t i d own).ow:=fun {j} n m=>by
  have w:j∈z.t.ow.filter (· != i):=ϔ.mpr ⟨m,by simpa using n⟩
  cases own with
  | true=>exact μ _ w
  | false=>exact w
 have get:∀ {j},j≠i→(z.σ.set i (some u))[j]? = z.σ[j]?:=fun h=>Ψ (Ϡ h)
 have gete:∀ {j},j≠i→(z.t.env.set i (some d))[j]? = z.t.env[j]?:=fun h=>Ψ (Ϡ h)
 have gi:(z.σ.set i (some u))[i]? = some (some u):=Ϭ hiσ
 have gie:(z.t.env.set i (some d))[i]? = some (some d):=Ϭ (by rw [I.el];exact hiσ)
 have fu:s'.heap.FunFrames X.base X.fr:=jk (fun b o e nf=>by
  by_cases q:b=a
  ·subst q;exact th
  ·exact ⟨o,(sb.2 b q).trans e,nf⟩) I.fu
 have th':∀ b o,z.h b=some o→∃ o',s'.heap.get? b=some o':=fun b o e=>by
  by_cases q:b=a
  ·subst q;exact th.imp fun _ h=>h.1
  ·exact ⟨o,(sb.2 b q).trans e⟩
 have S:Stp X.fr (Pv X z) z { z with t:=stV z.t i d own,σ:=z.σ.set i (some u),s:=s' }:=⟨ο _,.refl _,fun _ _ e=>.inl e,fun _ m=>.inl m,th',fun b o e _ w _=>(ne fun l=>w (.inr l)).trans e,fun b o e _ w _=>⟨o.slots,(ne fun l=>w (.inr l)).trans e⟩⟩
 refine ⟨⟨⟨I.md,I.fm,I.hd,I.bs,fun b o e=>(ne (nG e)).trans (I.gh b o e),I.rl,I.rn,I.rg,fun n o p h1 h2=>(I.ob n o p h1 h2).mono (ο _) (.refl _) fun b hb o e=>(ne (nM ⟨p,Ε h2,hb⟩)).trans e,fu,I.ff,by show Ŝ s'.gens;rw [gs];exact I.br,os.trans I.os⟩,I.ok,lo,ce,I.fl,by show (z.t.env.set i (some d)).length=(z.σ.set i (some u)).length;rw [Ê,Ê];exact I.el,by show (z.σ.set i (some u)).length=_;rw [Ê];exact I.sl,fun j d' n e=>?_,fun j m=>?_,fun j k b m1 m2 e1 e2=>?_⟩,x0.st.trans S fun b w=>w.elim (fun w=>(x0.ow b w).imp_left .inl) fun w=>.inl (.inr w),fun b ⟨j,m,e⟩=>?_⟩
 ·by_cases q:j=i
  ·subst q
   rw [show (z.t.env.set j (some d))[j]? = some (some d') from e] at gie;cases gie
   cases own with
   | true=>exact ZX ν n
   | false=>exact ⟨u,gi,vl⟩
  ·obtain ⟨w,e1,r⟩:=I.en j d' (fun m=>n (wo q m)) ((gete q).symm.trans e)
   exact ⟨w,(get q).trans e1,r⟩
 ·rcases ow m with ⟨rfl,rfl⟩ | ⟨q,m⟩
  ·obtain ⟨b,o,rfl,_,t,r,f,no⟩:=vl
   exact ⟨d,b,o,gie,gi,t,r.mono (ο _) (.refl _) fun c hc o e=>(ne (by rcases hc with rfl | rfl <;> exact f.2.2.2)).trans e,f⟩
  ·obtain ⟨d',b,o,h1,h2,h3,r,f⟩:=I.eo j m
   exact ⟨d',b,o,(gete q).trans h1,(get q).trans h2,h3,r.mono (ο _) (.refl _) fun c hc o e=>(ne (by rcases hc with rfl | rfl <;> exact f.2.2.2)).trans e,f⟩
 ·have new:∀ {k:Nat} {b:Δ},own=true→k∈z.t.ow→(z.σ.set i (some u))[i]? = some (some (.ref b))→z.σ[k]? = some (some (.ref b))→False:=fun {k b} ho mk w1 w2=>by
   subst ho
   obtain ⟨b',o,rfl,_,t,r,f,no⟩:=vl
   rw [gi] at w1;cases w1
   exact no ⟨k,mk,w2⟩
  rcases ow m1 with ⟨h1,ho⟩ | ⟨q1,n1⟩ <;> rcases ow m2 with ⟨h2,ho2⟩ | ⟨q2,n2⟩
  ·exact h1.trans h2.symm
  ·exact (new ho n2 (h1 ▸ e1) ((get q2).symm.trans e2)).elim
  ·exact (new ho2 n1 (h2 ▸ e2) ((get q1).symm.trans e1)).elim
  ·exact I.od j k b n1 n2 ((get q1).symm.trans e1) ((get q2).symm.trans e2)
 ·rcases ow m with ⟨rfl,rfl⟩ | ⟨q,m⟩
  ·obtain ⟨b',o,rfl,n,_⟩:=vl
   rw [show (z.σ.set j (some (.ref b')))[j]? = some (some (.ref b)) from e] at gi;cases gi
   exact .inr n
  ·exact x0.ow b ⟨j,m,(get q).symm.trans e⟩
theorem Rep.cne (I:Rep X z):∀ x c,X.env.cells.lookup x=some c→c≠X.env.locals:=fun x c e q=>by
 obtain ⟨v,o,ho,hd⟩:=I.ce x c e
 obtain ⟨m,⟨o',es,ep,ho',hd',_⟩,_⟩:=I.lo
 rw [q,ho'] at ho;cases ho;rw [hd'] at hd;cases hd
theorem cj {i:Nat} {x:ι} {own:Bool} {d:D} {u:ζ} {Q:Unit→π→Prop} {E:ζ→π→Prop} (x0:Go X z0 z) (I:Rep X z) (hN:X.N.Nodup) (hi:X.N[i]? = some x) (hx:Loc X.env.scope x) (vl:Vl X z0 z own d u)
 (h:∀ s' a,ú a z.s.heap s'.heap→Lc X a∧(X.env.scope.names.lookup x=some .local→a=X.env.locals)→Rep X { z with t:=stV z.t i d own,σ:=z.σ.set i (some u),s:=s' }→Go X z0 { z with t:=stV z.t i d own,σ:=z.σ.set i (some u),s:=s' }→Q () s'):Β X.M X.A (storeName X.env x u) Q E z.s:=by
 obtain ⟨m,hn,hl⟩:=id I.lo
 have hcls:(X.env.scope.kind == .class || (X.env.scope.kind == .module && X.env.locals != X.env.globals))=false:=by rw [I.ok.kd];rfl
 have il:i<X.N.length:=(τ.mp hi).1
 have hiσ:i<z.σ.length:=by rw [I.sl];exact il
 rcases hx with hk | hk
 ·refine Fe hk hn (fun h' hn' hs=>?_) hcls
  have ⟨oL,es,ep,hoL,hdL,_⟩:=hn'
  have lo:∀ (j:Nat) (y:ι) (w:ζ),X.N[j]? = some y→(z.σ.set i (some u))[j]? = some (some w)→Vis X.env.scope y→lS X.env h' (fun y=>if y=x then some u else m y) y w:=fun j y w e1 e2 e3=>by
   by_cases hj:j=i
   ·subst hj
    rw [hi] at e1;cases e1
    rw [Ϭ hiσ] at e2;cases e2
    exact .inl ⟨hk,by simp⟩
   ·rw [Ψ (Ϡ hj)] at e2
    rcases hl j y w e1 e2 e3 with ⟨k,e⟩ | ⟨k,c,e,q⟩
    ·have:y≠x:=fun e=>hj (gH hN e1 (e ▸ hi))
     exact .inl ⟨k,by simp [this,e]⟩
    ·exact .inr ⟨k,c,e,q.sameBut hs (I.cne y c e)⟩
  obtain ⟨I',g'⟩:=Rep.put (s':={ z.s with heap:=h',toks:=z.s.toks+1 }) x0 I hs (.inl rfl) ⟨oL,hoL,fun vs e=>by rw [hdL] at e;cases e⟩ rfl rfl vl il ⟨_,hn',lo⟩ fun y c e=>let ⟨v,q⟩:=I.ce y c e;⟨v,q.sameBut hs (I.cne y c e)⟩
  exact h _ _ hs ⟨.inl rfl,fun _=>rfl⟩ I' g'
 ·obtain ⟨c,hc⟩:=I.ok.ch x (.inl hk)
  obtain ⟨w',q0⟩:=I.ce x c hc
  refine wpAny_storeName_cell I.ok.kd hk hc q0 (fun h' hc' hs=>?_)
  have ⟨oc,hoc,hdc⟩:=hc'
  have lo:∀ (j:Nat) (y:ι) (w:ζ),X.N[j]? = some y→(z.σ.set i (some u))[j]? = some (some w)→Vis X.env.scope y→lS X.env h' m y w:=fun j y w e1 e2 e3=>by
   by_cases hj:j=i
   ·subst hj
    rw [hi] at e1;cases e1
    rw [Ϭ hiσ] at e2;cases e2
    exact .inr ⟨.inl hk,c,hc,hc'⟩
   ·rw [Ψ (Ϡ hj)] at e2
    rcases hl j y w e1 e2 e3 with q | ⟨k,c',e,q⟩
    ·exact .inl q
    ·refine .inr ⟨k,c',e,q.sameBut hs ?_⟩
     rintro rfl
     exact hj (gH hN e1 (I.ok.ci _ _ _ e hc ▸ hi))
  have ce:∀ y c',X.env.cells.lookup y=some c'→∃ v,h'.IsCell c' v:=fun y c' e=>by
   by_cases hcc:c'=c
   ·subst hcc;exact ⟨_,hc'⟩
   ·obtain ⟨w2,q2⟩:=I.ce y c' e
    exact ⟨w2,q2.sameBut hs hcc⟩
  obtain ⟨I',g'⟩:=Rep.put (s':={ z.s with heap:=h' }) x0 I hs (.inr ⟨x,hc⟩) ⟨oc,hoc,fun vs e=>by rw [hdc] at e;cases e⟩ rfl rfl vl il ⟨m,hn.sameBut hs (Ϡ (I.cne x c hc)),lo⟩ ce
  exact h _ _ hs ⟨.inr ⟨x,hc⟩,fun e=>by rw [show X.env.scope.names.lookup x=some .cell from hk] at e;cases e⟩ I' g'
theorem mC (hN:X.N.Nodup) (hi:X.N[i]? = some x) (hx:Loc X.env.scope x) (he:LE X e c) (hf:a9 c=true→LF X e c) (hs:C7 e (some (.Name x pos')) pos.line X.env=pure false):LS X (.Assign [.Name x pos'] e pos) (.set i c):=fun z I nb=>by
 refine Gg ?_ hs
 cases f:a9 c with
 | false=>
   refine (he false).gos .refl I rfl nb fun z1 d u y x0 I1 r e1=>cj (own:=false) x0 I1 hN hi hx r.rd fun s' a _ _ I' g'=>nxt (z1:={ z1 with t:=stV z1.t i d false,σ:=z1.σ.set i (some u),s:=s' }) g' I' ?_
   rw [e1];unfold mN;rw [f];rfl
 | true=>
   have nb1:X.ev false c z.t≠.bad:=fun q=>nb (show Out.go (X.ev false c z.t) _=_ by rw [q];rfl)
   refine Υ (hf f z I nb1) (fun u s' ⟨z1,d,q1,q2,y,I1,fv⟩=>?_) fun u s' h=>.of .refl h
   subst q1
   refine cj (own:=true) y.go I1 hN hi hx fv fun s' a _ _ I' g'=>nxt (z1:={ z1 with t:=stV z1.t i d true,σ:=z1.σ.set i (some u),s:=s' }) g' I' ?_
   show Out.go (X.ev false c z.t) _=_
   rw [q2]
   show av.nx (mN z1.t i d (a9 c))=_
   unfold mN
   have ld:xB d=true:=by
    obtain ⟨_,_,_,_,t,_⟩:=fv
    cases d <;> first | rfl | cases t
   rw [f,ld];rfl
end
def aG:Μ→Bool
 | .Starred ..=>false
 | .Set ..=>false
 | .Slice ..=>false
 | _=>true
section
variable {X:Cx} {z z' z0 z1:Z}
theorem yX {o:O} {hp:Hp} (q:ObR W ρ G hp (a,b) o) (e:∃ d:D,toO d=some o):∃ ob,hp a=some ob∧∀ vs,ob.data≠.fields vs:=by
 obtain ⟨d,e⟩:=e
 cases d <;> cases e
 ·obtain ⟨o,vs,_,q,⟨⟨n,rfl⟩,_⟩,_⟩:=q;exact ⟨_,q,nofun⟩
 ·obtain ⟨o,vs,_,_,q,⟨es,ep,_,w,_⟩,_⟩:=q;exact ⟨_,q,fun v z=>by rw [w] at z;cases z⟩
theorem Rep.ownw {s':π} {i:Nat} {d':D} {o':O} (I:Rep X z) (m:i∈z.t.ow) (ea:z.σ[i]? = some (some (.ref a))) (t:toO d'=some o') (sb:∀ b,b≠a→s'.heap.get? b=z.h b) (r:ObR X.W z.ρ z.G s'.heap.get? (a,a) o') (os:s'.os=z.s.os) (gs:s'.gens=z.s.gens) :
 Rep X { z with t:=⟨z.t.env.set i (some d'),z.t.ow,z.t.st⟩,s:=s' }∧Go X z { z with t:=⟨z.t.env.set i (some d'),z.t.ow,z.t.st⟩,s:=s' }:=by
 obtain ⟨f,oa,ha⟩:=I.oth ⟨i,m,ea⟩
 have nM:∀ {b},Mu z.ρ b→b≠a:=fun h e=>f.2.1 (e ▸ h)
 have nG:∀ {b o},z.G b=some o→b≠a:=fun h e=>by rw [e,f.1] at h;cases h
 have nL:∀ {b},Lc X b→b≠a:=fun h e=>f.2.2.2 (e ▸ h)
 have nf:∀ {b},b∈frs X.fr→b≠a:=fun h e=>f.2.2.1 (e ▸ h)
 obtain ⟨on,hn,_⟩:=yX r ⟨d',t⟩
 have hie:i<z.t.env.length:=by obtain ⟨d,_,_,e,_⟩:=I.eo i m;exact (τ.mp e).1
 have ck:∀ x c v,X.env.cells.lookup x=some c→z.s.heap.IsCell c v→s'.heap.IsCell c v:=fun x c v e ⟨o,q,d⟩=>⟨o,(sb c (nL (.inr ⟨x,e⟩))).trans q,d⟩
 have fu:s'.heap.FunFrames X.base X.fr:=by
  have:∀ {l:List CT},(∀ b∈frs l,b≠a)→z.s.heap.FunFrames X.base l→s'.heap.FunFrames X.base l:=fun {l}=>by
   induction l with
   | nil=>exact fun _ _=>trivial
   | cons v r ih=>
     intro hs ⟨k,⟨L,o,e1,e2,e3,e4⟩,q⟩
     have hm:L∈frs (v :: r):=by unfold frs;rw [ύ,e1];exact ν
     exact ⟨k,⟨L,o,e1,e2,(sb L (hs L hm)).trans e3,e4⟩,ih (fun b hb=>hs b (by unfold frs;rw [ύ,e1];exact μ _ hb)) q⟩
  exact this (fun b h=>nf h) I.fu
 refine ⟨⟨⟨I.md,I.fm,I.hd,I.bs,fun b o e=>(sb b (nG e)).trans (I.gh b o e),I.rl,I.rn,I.rg,fun n o p h1 h2=>(I.ob n o p h1 h2).mono (ο _) (.refl _) fun b hb o e=>(sb b (nM ⟨p,Ε h2,hb⟩)).trans e,fu,I.ff,by show Ŝ s'.gens;rw [gs];exact I.br,os.trans I.os⟩,I.ok,?_,fun x c e=>let ⟨v,q⟩:=I.ce x c e;⟨v,ck x c v e q⟩,I.fl,by show (z.t.env.set i (some d')).length=_;rw [Ê];exact I.el,I.sl,fun j d n e=>?_,fun j mj=>?_,I.od⟩,⟨ο _,.refl _,fun _ _ e=>.inl e,fun _ m=>.inl m,fun b o e=>?_,fun b o e _ w _=>(sb b fun q=>w (.inl (q ▸ ⟨i,m,ea⟩))).trans e,fun b o e _ w _=>⟨o.slots,(sb b fun q=>w (.inl (q ▸ ⟨i,m,ea⟩))).trans e⟩⟩,fun b ⟨j,mj,e⟩=>.inl ⟨j,mj,e⟩⟩
 ·obtain ⟨mm,⟨oL,es,ep,q,r⟩,hl⟩:=I.lo
  exact ⟨mm,⟨oL,es,ep,(sb _ (nL (.inl rfl))).trans q,r⟩,fun j x w e1 e2 e3=>cX (fun c v e q=>ck x c v e q) (hl j x w e1 e2 e3)⟩
 ·have q:j≠i:=fun q=>n (q ▸ m)
  exact I.en j d n ((Ψ (Ϡ q)).symm.trans e)
 ·by_cases q:j=i
  ·subst q;exact ⟨d',a,o',Ϭ hie,ea,t,r,f⟩
  ·obtain ⟨d,b,o,h1,h2,h3,r,f⟩:=I.eo j mj
   have nb:b≠a:=fun w=>q (I.od j i b mj m h2 (w ▸ ea))
   exact ⟨d,b,o,(Ψ (Ϡ q)).trans h1,h2,h3,r.mono (ο _) (.refl _) fun c hc o e=>(sb c (by rcases hc with rfl | rfl <;> exact nb)).trans e,f⟩
 ·by_cases q:b=a
  ·subst q;exact ⟨on,hn⟩
  ·exact ⟨o,(sb b q).trans e⟩
theorem Rep.stw {s':π} {n:Nat} {o':O} {p:Δ×Δ} {e:Δ} (I:Rep X z) (ep:z.ρ[n]? = some p) (he:e=p.1∨e=p.2) (sb:∀ b,b≠e→s'.heap.get? b=z.h b) (r:ObR X.W z.ρ z.G s'.heap.get? p o') (os:s'.os=z.s.os) (gs:s'.gens=z.s.gens) :
 Rep X { z with t:=⟨z.t.env,z.t.ow,z.t.st.set n o'⟩,s:=s' }∧Go X z { z with t:=⟨z.t.env,z.t.ow,z.t.st.set n o'⟩,s:=s' }:=by
 have mu:Mu z.ρ e:=⟨p,Ε ep,he⟩
 have nG:∀ {b o},z.G b=some o→b≠e:=fun h q=>by rw [q,I.rg e mu] at h;cases h
 have nL:∀ {b},Lc X b→b≠e:=fun h q=>(I.fl _ h).2 (q ▸ mu)
 have nf:∀ {b},b∈frs X.fr→b≠e:=fun h q=>(I.ff _ h).2 (q ▸ mu)
 have nO:∀ {b},Own z b→b≠e:=fun h q=>(I.oth h).1.2.1 (q ▸ mu)
 have ck:∀ x c v,X.env.cells.lookup x=some c→z.s.heap.IsCell c v→s'.heap.IsCell c v:=fun x c v e ⟨o,q,d⟩=>⟨o,(sb c (nL (.inr ⟨x,e⟩))).trans q,d⟩
 have fu:s'.heap.FunFrames X.base X.fr:=by
  have:∀ {l:List CT},(∀ b∈frs l,b≠e)→z.s.heap.FunFrames X.base l→s'.heap.FunFrames X.base l:=fun {l}=>by
   induction l with
   | nil=>exact fun _ _=>trivial
   | cons v r ih=>
     intro hs ⟨k,⟨L,o,e1,e2,e3,e4⟩,q⟩
     have hm:L∈frs (v :: r):=by unfold frs;rw [ύ,e1];exact ν
     exact ⟨k,⟨L,o,e1,e2,(sb L (hs L hm)).trans e3,e4⟩,ih (fun b hb=>hs b (by unfold frs;rw [ύ,e1];exact μ _ hb)) q⟩
  exact this (fun b h=>nf h) I.fu
 obtain ⟨⟨o1,h1⟩,⟨o2,h2⟩⟩:=r.th
 have hn:n<z.t.st.length:=by rw [← I.rl];exact (τ.mp ep).1
 refine ⟨⟨⟨I.md,I.fm,I.hd,I.bs,fun b o w=>(sb b (nG w)).trans (I.gh b o w),by show _=(z.t.st.set n o').length;rw [Ê];exact I.rl,I.rn,I.rg,fun k o q h1 h2=>?_,fu,I.ff,by show Ŝ s'.gens;rw [gs];exact I.br,os.trans I.os⟩,I.ok,?_,fun x c w=>let ⟨v,q⟩:=I.ce x c w;⟨v,ck x c v w q⟩,I.fl,I.el,I.sl,I.en,fun j mj=>?_,I.od⟩,⟨ο _,.refl _,fun _ _ w=>.inl w,fun _ m=>.inl m,fun b o w=>?_,fun b o w q _ _=>(sb b fun z=>q (z ▸ mu)).trans w,fun b o w q _ _=>⟨o.slots,(sb b fun z=>q (z ▸ mu)).trans w⟩⟩,fun b w=>.inl w⟩
 ·by_cases c:k=n
  ·subst c
   have h1:(z.t.st.set k o')[k]? = some o:=h1
   rw [Ϭ hn] at h1;cases h1
   rw [show z.ρ[k]? = some q from h2] at ep;cases ep
   exact r
  ·exact (I.ob k o q ((Ψ (Ϡ c)).symm.trans h1) h2).mono (ο _) (.refl _) fun b hb o w=>(sb b fun w'=>c (I.rn k n q p b h2 ep hb (w' ▸ he))).trans w
 ·obtain ⟨mm,⟨oL,es,ep,q,r⟩,hl⟩:=I.lo
  exact ⟨mm,⟨oL,es,ep,(sb _ (nL (.inl rfl))).trans q,r⟩,fun j x w e1 e2 e3=>cX (fun c v e q=>ck x c v e q) (hl j x w e1 e2 e3)⟩
 ·obtain ⟨d,b,o,h1,h2,h3,r,f⟩:=I.eo j mj
  exact ⟨d,b,o,h1,h2,h3,r.mono (ο _) (.refl _) fun c hc o w=>(sb c (by rcases hc with rfl | rfl <;> exact nO ⟨j,mj,h2⟩)).trans w,f⟩
 ·by_cases q:b=e
  ·rcases he with w | w
   ·exact ⟨o1,by rw [q,w];exact h1⟩
   ·exact ⟨o2,by rw [q,w];exact h2⟩
  ·exact ⟨o,(sb b q).trans w⟩
structure M1 (X:Cx) (o:Μ) (m:ι) (apos:ϭ) (e:Μ) (cpos:ϭ):Prop where
 base:ď o m X.env (eval o X.env)=eval o X.env
 few:((ϻ cpos (Η [e] X.env)).all (fun x=>!x.1) && (Ð cpos (ϩ [] X.env)).all (fun x=>x.1.isSome) && decide (([e]:List Μ).length+([]:List ű).length+(if ([]:List ű).isEmpty then 0 else 1)<30))=true
 line:(apos.endLine == cpos.line)=true
 trees:ϻ cpos (Η [e] X.env) = [(false,eval e X.env)]
theorem fE {i:Nat} (I:Rep X z) (m:i∈z.t.ow) (e:z.t.env[i]? = some (some (.lst l))):∃ a vs n,z.σ[i]? = some (some (.ref a))∧z.h a=some { cls:=.type "list",data:=.seq vs.toArray n }∧RDs X.W z.ρ z.G l vs:=by
 obtain ⟨d,a,o,h1,h2,h3,r,f⟩:=I.eo i m
 rw [e] at h1;cases h1;cases h3
 obtain ⟨o,vs,_,q,⟨⟨n,rfl⟩,_⟩,r⟩:=r
 exact ⟨a,vs,n,h2,q,r⟩
theorem fG {z:Z} {vs ws:List ζ} {f:Array ζ→Array ζ} (e:z.h a=some { cls:=.type "list",data:=.seq vs.toArray n }) (hf:f vs.toArray=ws.toArray) (hz:ws.length≤ϛ):(∃ o,(z.s.heap.update a (û f)).get? a=some o∧LsO o ws)∧∀ b,b≠a→(z.s.heap.update a (û f)).get? b=z.h b:=
 ⟨⟨_,Ϧ _ e rfl,⟨_,by simp only [û,hf];rfl⟩,hz⟩,fun b n=>ϑ _ _ (Ϡ n)⟩
theorem yn {i:Nat} {x:ι} (hN:X.N[i]? = some x) (hv:Vis X.env.scope x) (hd:(x == ("__debug__":ι))=false) (hcd:(x == ("__classdict__":ι))=false) (he:LE X e c) (m:M1 X (.Name x p) "append" apos e cpos):LS X (.Expr (.Call (.Attribute (.Name x p) "append" apos) [e] [] cpos) pos) (.app i c):=fun z I nb=>by
 have e0:X.ex (.app i c) z.t=(if z.t.ow.contains i && isLst z.t.env[i]? then (X.ev false c z.t).go fun d s=>if s.ow.contains i then (match s.env[i]? with
  | some (some (.lst l))=>if l.length<100000 then .nx ⟨s.env.set i (some (.lst (l ++ [d]))),s.ow,s.st⟩ else .bad
  | _=>.bad) else .bad else .bad):=rfl
 by_cases c0:(z.t.ow.contains i && isLst z.t.env[i]?)=true
 ·rw [ZZ c0] at e0
  rw [Χ] at c0
  have mi:i∈z.t.ow:=by simpa using c0.1
  obtain ⟨l,el⟩:∃ l,z.t.env[i]? = some (some (.lst l)):=by
   have:=c0.2
   unfold isLst at this
   split at this
   ·rename_i l q;exact ⟨l,q⟩
   ·cases this
  obtain ⟨a,vs,n,es,ha,r⟩:=fE I mi el
  refine ſ (ġ m.base m.few m.line Dy ĺ PySem.F.type_list_append (bR I hN hv es ⟨⟨_,ha,rfl⟩,fun b q=>(by cases q;exact ⟨_,ha,rfl⟩),?_⟩ hd hcd)) I.quiet rfl
  rw [m.trees]
  refine Ú rfl (è (Λ ((he false).gos .refl I e0 nb fun z1 d u y x1 I1 r1 e1=>Ω ?_)))
  by_cases c1:z1.t.ow.contains i=true
  ·rw [ZZ c1] at e1
   have m1:i∈z1.t.ow:=by simpa using c1
   have el1:z1.t.env[i]? = some (some (.lst l)):=by rw [y.en];exact el
   rw [el1] at e1
   dsimp only at e1
   obtain ⟨a',vs,n,es',ha,r⟩:=fE I1 m1 el1
   rw [y.sg,es] at es';cases es'
   by_cases c2:l.length<100000
   ·rw [ZZ c2] at e1
    have hz:vs.length<100000:=by rw [← r.len];exact c2
    refine Ec ĺ ⟨_,ha,rfl⟩ Dd (D6 _ _) (ES a vs.toArray n u (by rw [Ο];exact ą (á hz (big (ω _))))) ⟨ha,?_⟩
    obtain ⟨⟨o1,u1,u3⟩,u2⟩:=fG (f:=(·.push u)) (ws:=vs ++ [u]) ha (by simp) (by rw [φ];exact big (by simp;omega))
    obtain ⟨I2,g2⟩:=I1.ownw (s':={ z1.s with heap:=z1.s.heap.update a (û (·.push u)) }) (d':=.lst (l ++ [d])) m1 (by rw [y.sg];exact es) rfl u2 ⟨o1,vs ++ [u],rfl,u1,u3,r.app (.cons r1.rd rfl)⟩ rfl rfl
    exact nxt (x1.trans g2) I2 e1
   ·rw [ZY c2] at e1;exact ZX e1 nb
  ·rw [ZY c1] at e1;exact ZX e1 nb
 ·rw [ZY c0] at e0;exact ZX e0 nb
theorem oM:∀ {ks} {ds} {vs} {k} {d} {v},ks.length=ds.length→RDs W ρ G ds vs→RD W ρ G d v→∃ us,RDs W ρ G (fj ks ds k d) us∧(ks.zip vs).map (fun kv=>if kv.1=k then (kv.1,v) else kv)=ks.zip us
 | [],[],vs,k,d,v,_,h,_=>⟨vs,h,rfl⟩
 | [],_ :: _,_,_,_,_,l,_,_=>by cases l
 | _ :: _,[],_,_,_,_,l,_,_=>by cases l
 | q :: ks,e :: ds,vs,k,d,v,l,⟨u,r,ev,h1,h2⟩,rd=>by
   subst ev
   obtain ⟨us,h3,h4⟩:=oM (k:=k) (Ņ l) h2 rd
   by_cases c:q=k
   ·refine ⟨v :: us,⟨v,us,rfl,by rw [ZZ c];exact rd,h3⟩,?_⟩
    show (if q=k then (q,v) else (q,u)) :: (ks.zip r).map _=(q,v) :: ks.zip us
    rw [ZZ c,h4]
   ·refine ⟨u :: us,⟨u,us,rfl,by rw [ZY c];exact h1,h3⟩,?_⟩
    show (if q=k then (q,v) else (q,u)) :: (ks.zip r).map _=(q,u) :: ks.zip us
    rw [ZY c,h4]
theorem du:∀ {ks} {ds} {k} {d},(fj ks ds k d).length=ds.length
 | [],_,_,_=>by unfold fj;rfl
 | _ :: _,[],_,_=>by unfold fj;rfl
 | _ :: ks,_ :: ds,k,d=>by show (fj ks ds k d).length+1=ds.length+1;rw [du]
theorem iu:∀ {ks:List Key} {vs:List ζ} {k:Key},ks.length=vs.length→((ks.zip vs).any fun kv=>decide (kv.1=k))=ks.any fun q=>decide (q=k)
 | [],_,_,_=>rfl
 | _ :: _,[],_,l=>by cases l
 | q :: ks,v :: vs,k,l=>by
   show (decide (q=k) || (ks.zip vs).any _)=(decide (q=k) || ks.any _)
   rw [iu (Ņ l)]
theorem pX (l:ks.length=ds.length) (r:RDs W ρ G ds vs) (rd:RD W ρ G d v):∃ us,stored (ks.zip vs) k v=(bE ks ds k d).1.zip us∧(bE ks ds k d).1.length=(bE ks ds k d).2.length∧RDs W ρ G (bE ks ds k d).2 us∧(bE ks ds k d).1.length≤ks.length+1:=by
 have lv:ks.length=vs.length:=l.trans r.len
 unfold stored bE
 rw [iu lv]
 split
 ·obtain ⟨us,h1,h2⟩:=oM (k:=k) l r rd
  exact ⟨us,h2,by show ks.length=(fj ks ds k d).length;rw [du,l],h1,ê _⟩
 ·exact ⟨vs ++ [v],by rw [List.zip_append lv];rfl,by simp [l],r.app (.cons rd rfl),by simp⟩
theorem sM {A:ϒ} {E:ζ→π→Prop} {Q:Unit→π→Prop} {x y k d:D} {o:O} {kv v:ζ} (t:toO x=some o) (r:ObR X.W z.ρ z.G z.h (a,b) o) (rk:CR X.W z k kv) (rd:RD X.W z.ρ z.G d v) (e:jP x k d=some y)
 (h:∀ s' o',toO y=some o'→(∀ b,b≠a→s'.heap.get? b=z.h b)→ObR X.W z.ρ z.G s'.heap.get? (a,b) o'→s'.os=z.s.os→s'.gens=z.s.gens→Q () s'):Β X.M A (EY (.ref a) kv v) Q E z.s:=by
 cases x <;> cases t
 ·rename_i l
  obtain ⟨o,vs,hb,ho,⟨⟨n,rfl⟩,hz⟩,r⟩:=r
  cases k with
  | int i=>
    obtain ⟨tk,rfl⟩:=(rk:RD X.W z.ρ z.G (.int i) kv)
    obtain ⟨l',e1,rfl⟩:=ψ.mp (show (sV l i d).map D.lst=some y from e)
    obtain ⟨j,e2,rfl⟩:=ψ.mp (show (ixN l.length i).map (fun j=>l.set j d)=some l' from e1)
    obtain ⟨h1,h2,h3,h4⟩:=nP e2
    have hl:=r.len
    have hn:=jA
    obtain ⟨⟨o1,u1,u3⟩,u2⟩:=fG (z:=z) (f:=(·.setIfInBounds j v)) (ws:=vs.set j v) ho (by simp) (by rw [Ê];exact hz)
    have q:Q () { z.s with heap:=z.s.heap.update a (û (·.setIfInBounds j v)) }:=h _ _ rfl u2 ⟨o1,_,hb,u1,u3,r.set j rd⟩ rfl rfl
    by_cases h0:0≤i
    ·have hk:i.toNat=j:=by rw [Fq h0 h4] at h1;exact ϡ h1
     exact PySem.W.ki_setAt ho h0 (by omega) (by rw [Ο,← hl];exact h4) (by rw [hk];exact q)
    ·have hk:(i+(vs.toArray.size:Int)).toNat=j:=by
      rw [EZ (by omega) h3] at h1
      rw [Ο,← hl]
      exact ϡ h1
     exact PySem.W.ki_setBack ho (by omega) (by rw [Ο,← hl];exact h3) (by omega) (by rw [hk];exact q)
  | _=>cases e
 ·rename_i ks ds
  obtain ⟨o,vs,hb,hs,ho,dc,hl,r⟩:=r
  obtain ⟨kk,e1,e2⟩:=ϓ.mp (show ((bM k).bind fun k=>if ks.length<100000 then some (D.dic (bE ks ds k d).1 (bE ks ds k d).2) else none)=some y from e)
  by_cases c:ks.length<100000
  ·rw [ZZ c] at e2
   cases e2
   obtain ⟨us,h3,h4,h5,h6⟩:=pX (k:=kk) hl r rd
   refine wpAny_setItem_pairs (hsz:=by obtain ⟨_,_,_,_,_,_,_,w⟩:=dc;exact w) (jz e1 rk) (dc.of ho) fun h' dd hs'=>?_
   rw [h3] at dd
   obtain ⟨o1,es,ep,w1,w2,w3,w4,w5,w6⟩:=dd
   exact h _ _ rfl hs'.2 ⟨o1,us,hb,hs,w1,⟨es,ep,w2,w3,w4,w5,w6,by rw [É];exact big (by omega)⟩,h4,h5⟩ rfl rfl
  ·rw [ZY c] at e2;cases e2
theorem ze {o o':O} (e:ed o k d=some o'):∃ x y,toO x=some o∧jP x k d=some y∧toO y=some o':=by
 cases o with
 | lst l=>
   cases k with
   | int i=>obtain ⟨l',e1,rfl⟩:=ψ.mp (show (sV l i d).map O.lst=some o' from e);exact ⟨.lst l,.lst l',rfl,by show (sV l i d).map D.lst=_;rw [e1];rfl,rfl⟩
   | _=>cases e
 | dic ks ds=>
   obtain ⟨kk,e1,e2⟩:=ϓ.mp (show ((bM k).bind fun k=>if ks.length<100000 then some (O.dic (bE ks ds k d).1 (bE ks ds k d).2) else none)=some o' from e)
   by_cases c:ks.length<100000
   ·rw [ZZ c] at e2;cases e2
    exact ⟨.dic ks ds,.dic (bE ks ds kk d).1 (bE ks ds kk d).2,rfl,by show ((bM k).bind fun k=>if ks.length<100000 then some (D.dic (bE ks ds k d).1 (bE ks ds k d).2) else none)=_;rw [e1];exact ZZ c,rfl⟩
   ·rw [ZY c] at e2;cases e2
 | ins _ _=>cases e
theorem o9 (h:aG i=true):∀ v,assign (o.Subscript i pos) env v=(do
 let ov ← holding [v] (eval o env)
 let iv ← holding [v,ov] (eval i env)
 Ř pos
 holding [v,ov,iv] (EY ov iv v)
 release [v,ov,iv] []):=by
 cases i <;> first | (intro v;rfl) | cases h
theorem sx :swapsWithSole [.Subscript o i p] e l env=pure false:=by
 cases e <;> rfl
theorem mI :swappedStores [.Subscript o i p] e env=pure none:=by
 cases e <;> rfl
theorem mY {K:ζ→π→Prop} {E:ζ→π→Prop} {Q:Flow→π→Prop} {s:π} (hn:aG eb=true) (h:Β X.M X.A (eval ee X.env) K E s) (k:∀ v s',K v s'→Β X.M X.A (eval eo X.env) (fun ov s2=>Β X.M X.A (eval eb X.env) (fun iv s3=>Β X.M X.A (EY ov iv v) (fun _ s4=>Q .next s4) E s3) E s2) E s'):Β X.M X.A (exec (.Assign [.Subscript eo eb p2] ee pos) X.env) Q E s:=by
 refine wpAny_Assign_stores (thn h fun v s1 q=>?_) sx mI
 show Β _ _ (assign (eo.Subscript eb p2) X.env v) _ _ _
 rw [o9 hn]
 exact ε (ό (thn (k v s1 q) fun ov s2 q=>ε (ό (thn q fun iv s3 q=>ε (ã (ε (ό (thn q fun _ s4 q=>wpAny_release q))))))))
theorem sN {n:Nat} {kv v:ζ} {p:Δ×Δ} {E:ζ→π→Prop} {o:av} (x:Go X z0 z) (I:Rep X z) (ep:z.ρ[n]? = some p) (rk:CR X.W z k kv) (rd:RD X.W z.ρ z.G d v) (e:o=(match (z.t.st[n]?).bind fun o=>ed o k d with | some o=>.nx ⟨z.t.env,z.t.ow,z.t.st.set n o⟩ | none=>.bad)) (nb:o≠.bad):Β X.M X.A (EY (.ref p.1) kv v) (fun _ s4=>Ps X z0 o .next s4) E z.s:=by
 cases q:(z.t.st[n]?).bind fun o=>ed o k d with
 | none=>rw [q] at e;exact ZX e nb
 | some o'=>
   rw [q] at e
   obtain ⟨ob,q1,q2⟩:=ϓ.mp q
   obtain ⟨x1,y1,t1,t2,t3⟩:=ze q2
   have r:=I.ob n ob p q1 ep
   have hp:p=(p.1,p.2):=rfl
   refine sM t1 (hp ▸ r) rk rd t2 fun s' o1 t4 sb r' os gs=>?_
   rw [t3] at t4;cases t4
   obtain ⟨I2,g2⟩:=I.stw ep (.inl rfl) sb r' os gs
   exact nxt (z1:={ z with t:=⟨z.t.env,z.t.ow,z.t.st.set n o'⟩,s:=s' }) (x.trans g2) I2 e
theorem uU {i:Nat} {x:ι} (hN:X.N[i]? = some x) (hv:Vis X.env.scope x) (hd:(x == ("__debug__":ι))=false) (hcd:(x == ("__classdict__":ι))=false) (hn:aG eb=true) (hb:LE X eb b) (he:LE X ee e):LS X (.Assign [.Subscript (.Name x p) eb p2] ee pos) (.put (.v i) b e):=fun z I nb=>by
 refine mY hn ((he false).gos (K:=fun v s'=>∃ z1 d,z1.s=s'∧Go X z z1∧Rep X z1∧RD X.W z1.ρ z1.G d v∧X.ex (.put (.v i) b e) z.t=(match z1.t.env[i]? with
  | some (some x)=>(X.ev true b z1.t).go fun k s=>(match x with
    | .ref n=>(match (s.st[n]?).bind fun o=>ed o k d with | some o=>.nx ⟨s.env,s.ow,s.st.set n o⟩ | none=>.bad)
    | x=>if s.ow.contains i then (match jP x k d with | some y=>.nx ⟨s.env.set i (some y),s.ow,s.st⟩ | none=>.bad) else .bad)
  | _=>.bad)) .refl I rfl nb fun z1 d u y x1 I1 r1 e1=>⟨z1,d,rfl,x1,I1,r1.rd,e1⟩) fun v s' ⟨z1,d,q,x1,I1,r1,e1⟩=>?_
 subst q
 cases q:z1.t.env[i]? with
 | none=>rw [q] at e1;exact ZX e1 nb
 | some o0=>
   cases o0 with
   | none=>rw [q] at e1;exact ZX e1 nb
   | some x0=>
     rw [q] at e1
     obtain ⟨u,hu,_⟩:=I1.slot q
     refine bR I1 hN hv hu ((hb true).gos x1 I1 e1 nb fun z2 kd kv y2 x2 I2 r2 e2=>?_) hd hcd
     have q2:z2.t.env[i]? = some (some x0):=by rw [y2.en];exact q
     have hu2:z2.σ[i]? = some (some u):=by rw [y2.sg];exact hu
     have own:∀ x1:D,x0=x1→X.ex (.put (.v i) b e) z.t=(if z2.t.ow.contains i then (match jP x1 kd d with | some y=>.nx ⟨z2.t.env.set i (some y),z2.t.ow,z2.t.st⟩ | none=>.bad) else .bad)→Β X.M X.A (EY u kv v) (fun _ s4=>Ps X z (X.ex (.put (.v i) b e) z.t) .next s4) (PxS X z (X.ex (.put (.v i) b e) z.t)) z2.s:=fun x1 ex e3=>by
      subst ex
      by_cases c:z2.t.ow.contains i=true
      ·rw [ZZ c] at e3
       have m2:i∈z2.t.ow:=by simpa using c
       obtain ⟨d0,a,o,h1,h2,h3,r,f⟩:=I2.eo i m2
       rw [q2] at h1;cases h1
       rw [hu2] at h2;cases h2
       cases q3:jP x0 kd d with
       | none=>rw [q3] at e3;exact ZX e3 nb
       | some y=>
         rw [q3] at e3
         refine sM h3 r (r2.rb.cr0 I2) (r1.st y2.st) q3 fun s' o' t sb r' os gs=>?_
         obtain ⟨I3,g3⟩:=I2.ownw (s':=s') m2 hu2 t sb r' os gs
         exact nxt (z1:={ z2 with t:=⟨z2.t.env.set i (some y),z2.t.ow,z2.t.st⟩,s:=s' }) (x2.trans g3) I3 e3
      ·rw [ZY c] at e3;exact ZX e3 nb
     cases x0 with
     | ref n=>
       have nm:i ∉ z2.t.ow:=fun m=>by
        obtain ⟨d0,a,o,h1,h2,h3,_⟩:=I2.eo i m
        rw [q2] at h1;cases h1;cases h3
       obtain ⟨u',hu',p,ep,rfl⟩:=I2.en i _ nm q2
       rw [hu2] at hu';cases hu'
       exact sN x2 I2 ep (r2.rb.cr0 I2) (r1.st y2.st) e2 nb
     | _=>exact own _ rfl e2
end
section
variable {X:Cx} {z z' z0 z1:Z} {an:Nat→ι}
theorem Rep.snoc {s':π} {p:Δ×Δ} {o:O} (I:Rep X z) (g:Gr z.s s') (hp:z.h p.1=none∧z.h p.2=none) (r:ObR X.W (z.ρ ++ [p]) z.G s'.heap.get? p o):Rep X { z with ρ:=z.ρ ++ [p],t:=⟨z.t.env,z.t.ow,z.t.st ++ [o]⟩,s:=s' }∧Ee X z { z with ρ:=z.ρ ++ [p],t:=⟨z.t.env,z.t.ow,z.t.st ++ [o]⟩,s:=s' }:=by
 obtain ⟨H,S⟩:=HR.snoc (w:=Own z) I.toHR g hp r
 have pre:z.ρ <+: z.ρ ++ [p]:=ù _ _
 have nm:∀ {a},(∃ o,z.h a=some o)→¬ Mu z.ρ a→¬ Mu (z.ρ ++ [p]) a:=fun ⟨o,e⟩ n w=>(jE.mp w).elim n fun w=>by
  rcases w with w | w
  ·rw [w,hp.1] at e;cases e
  ·rw [w,hp.2] at e;cases e
 have sl:∀ b o,z.s.heap.get? b=some o→∃ sl,s'.heap.get? b=some { o with slots:=sl }:=fun b o e=>⟨o.slots,g.k b o e⟩
 refine ⟨⟨H,I.ok,?_,fun x c e=>let ⟨v,q⟩:=I.ce x c e;⟨v,fw sl q⟩,fun a l=>⟨(I.fl a l).1,nm (I.lth l) (I.fl a l).2⟩,I.el,I.sl,fun i d n e=>let ⟨u,q,r⟩:=I.en i d n e;⟨u,q,r.mono pre (.refl _)⟩,fun i m=>?_,I.od⟩,S,rfl,rfl,fun _ h=>h⟩
 ·obtain ⟨m,hn,hl⟩:=I.lo
  exact ⟨m,wt sl hn,fun i x u h1 h2 h3=>cX (fun c v _ q=>fw sl q) (hl i x u h1 h2 h3)⟩
 ·obtain ⟨d,a,o,h1,h2,h3,r,f⟩:=I.eo i m
  exact ⟨d,a,o,h1,h2,h3,r.mono pre (.refl _) fun b _ o e=>g.k b o e,f.1,nm r.th.1 f.2.1,f.2.2⟩
theorem so (I:HR X z):(z.ρ ++ [p])[z.t.st.length]? = some p:=by rw [Ρ (by rw [I.rl];exact ω _),I.rl,ė];rfl
theorem oZ {y:ζ}:∀ {nm:List ι} {vs:List ζ} {j:Nat},nm.Nodup→nm[j]? = some f→j<vs.length→∀ g,(nm.zip (vs.set j y)).lookup g=if g=f then some y else (nm.zip vs).lookup g
 | [],_,_,_,h,_,_=>by simp at h
 | _ :: _,[],_,_,_,h,_=>by simp at h
 | n :: nm,v :: vs,0,nd,h,_,g=>by
   have e:n=f:=by simpa using h
   subst e
   show (match g == n with | true=>some y | false=>(nm.zip vs).lookup g)=if g=n then some y else (match g == n with | true=>some v | false=>(nm.zip vs).lookup g)
   by_cases c:g=n
   ·rw [ZZ c,beq_iff_eq.mpr c]
   ·rw [ZY c,ZU.mpr c]
 | n :: nm,v :: vs,j+1,nd,h,hl,g=>by
   have h':nm[j]? = some f:=by simpa using h
   have ne:n≠f:=fun z=>by subst z;exact (Ϟ.mp nd).1 (Ε h')
   have ih:=oZ (y:=y) (Ϟ.mp nd).2 h' (by simpa using hl) g
   show (match g == n with | true=>some v | false=>(nm.zip (vs.set j y)).lookup g)=if g=f then some y else (match g == n with | true=>some v | false=>(nm.zip vs).lookup g)
   by_cases c:g=n
   ·rw [ZY fun w=>ne (c ▸ w),beq_iff_eq.mpr c]
   ·rw [ZU.mpr c];exact ih
theorem lP {y:ζ}:∀ {nm:List ι} {vs:List ζ},nm.Nodup→nm[vs.length]? = some f→∀ g,(nm.zip (vs ++ [y])).lookup g=if g=f then some y else (nm.zip vs).lookup g
 | [],_,_,h,_=>by simp at h
 | n :: nm,[],nd,h,g=>by
   have e:n=f:=by simpa using h
   subst e
   rw [Fy,ß,ı,ı]
   show (match g == n with | true=>some y | false=>none)=if g=n then some y else none
   by_cases c:g=n
   ·rw [ZZ c,beq_iff_eq.mpr c]
   ·rw [ZY c,ZU.mpr c]
 | n :: nm,v :: vs,nd,h,g=>by
   have h':nm[vs.length]? = some f:=by simpa using h
   have ne:n≠f:=fun z=>by subst z;exact (Ϟ.mp nd).1 (Ε h')
   have ih:=lP (y:=y) (Ϟ.mp nd).2 h' g
   show (match g == n with | true=>some v | false=>(nm.zip (vs ++ [y])).lookup g)=if g=f then some y else (match g == n with | true=>some v | false=>(nm.zip vs).lookup g)
   by_cases c:g=n
   ·rw [ZY fun w=>ne (c ▸ w),beq_iff_eq.mpr c]
   ·rw [ZU.mpr c];exact ih
theorem vy (h:eg Γ (.ins c l) f d=some o):∃ k,Γ.cl[c]? = some k∧k.at_.length<1000∧((k.at_.idxOf f<l.length∧o = .ins c (l.set (k.at_.idxOf f) d))∨(k.at_.idxOf f=l.length∧k.at_.idxOf f<k.at_.length∧o = .ins c (l ++ [d]))):=by
 have h:((Γ.cl[c]?).bind fun k=>if k.at_.length<1000 then (if k.at_.idxOf f<l.length then some (O.ins c (l.set (k.at_.idxOf f) d)) else if k.at_.idxOf f=l.length∧k.at_.idxOf f<k.at_.length then some (.ins c (l ++ [d])) else none) else none)=some o:=h
 obtain ⟨k,hk,h⟩:=ϓ.mp h
 refine ⟨k,hk,?_⟩
 by_cases z0:k.at_.length<1000
 ·rw [ZZ z0] at h
  refine ⟨z0,?_⟩
  by_cases z:k.at_.idxOf f<l.length
  ·rw [ZZ z] at h;cases h;exact .inl ⟨z,rfl⟩
  ·rw [ZY z] at h
   by_cases z2:k.at_.idxOf f=l.length∧k.at_.idxOf f<k.at_.length
   ·rw [ZZ z2] at h;cases h;exact .inr ⟨z2.1,z2.2,rfl⟩
   ·rw [ZY z2] at h;cases h
 ·rw [ZY z0] at h;cases h
theorem zk (T:cm X an) (I:Rep X z) {n f:Nat} {p:Δ×Δ} {d:D} {v:ζ} {o o':O} {A:ϒ} {Q:Unit→π→Prop} {E:ζ→π→Prop} (ep:z.ρ[n]? = some p) (rd:RD X.W z.ρ z.G d v) (q:z.t.st[n]? = some o) (e:eg X.Γ o f d=some o')
 (h:∀ s',Rep X { z with t:=⟨z.t.env,z.t.ow,z.t.st.set n o'⟩,s:=s' }→Go X z { z with t:=⟨z.t.env,z.t.ow,z.t.st.set n o'⟩,s:=s' }→Q () s'):Β X.M A (E0 (.ref p.1) (an f) v) Q E z.s:=by
 have ob:=I.ob n o p q ep
 cases o with
 | ins c l=>
   obtain ⟨k,hk,h1000,alt⟩:=vy e
   obtain ⟨i',vs,w1,w2,w3,w4,w5⟩:=ob
   obtain ⟨i,C⟩:=T c k hk
   rw [C.ci] at w1
   have ii:i=i':=ϡ w1
   subst ii
   have lnm:i.nm.length=k.at_.length:=by rw [C.nm,Ι]
   have wz:k.what≠2:=by have:=C.wh;rw [w2] at this;have e:=ϡ this;omega
   have lv:=w5.len
   have hj:k.at_.idxOf f<k.at_.length:=by
    rcases alt with ⟨z,_⟩ | ⟨_,z,_⟩
    ·omega
    ·exact z
   have hn:i.nm[k.at_.idxOf f]? = some (an f):=by rw [C.nm,Φ,Α hj];simp
   have cl:=C.cls wz
   have na:=C.na _ (Ε hn)
   refine oR (ns:=i.nm) I.toHR.kin (InO.objm w4) cl.sa cl.po na.taker cl.hd (fun y hy=>?_) (by rw [lnm];exact ϖ (ą h1000) (big (by omega))) fun h' om sb=>?_
   ·cases qq:(i.nm.zip vs).lookup y with
    | none=>exact ZX qq hy
    | some u=>
      obtain ⟨l1,l2,e1,_⟩:=DX.mp qq
      exact (Ī (show (y,u)∈i.nm.zip vs by rw [e1];simp)).1
   ·have done:∀ vs' l',o' = .ins c l'→RDs X.W z.ρ z.G l' vs'→l'.length≤i.nm.length→(∀ g,(i.nm.zip vs').lookup g=if g=an f then some v else (i.nm.zip vs).lookup g)→Q () { z.s with heap:=h',toks:=z.s.toks+2 }:=fun vs' l' eo r hl lk=>by
     subst eo
     obtain ⟨od,es,ep',e1,e2,e3,e4,e5⟩:=om.ns
     obtain ⟨I2,g2⟩:=I.stw (s':={ z.s with heap:=h',toks:=z.s.toks+2 }) (o':=.ins c l') ep (.inr rfl) (fun b hb=>sb.2 b hb) ⟨i,vs',C.ci,w2,hl,⟨om.obj,om.ne,by rw [É];omega,od,e1,es,ep',e2,e3,e4,fun nn=>(e5 nn).trans (lk nn).symm⟩,r⟩ rfl rfl
     exact h _ I2 g2
    rcases alt with ⟨z,eo⟩ | ⟨z,_,eo⟩
    ·exact done _ _ eo (w5.set _ rd) (by rw [Ê];exact w3) (oZ C.nd hn (by omega))
    ·exact done _ _ eo (w5.app (.cons rd rfl)) (by rw [φ];simp;omega) (lP C.nd (by rw [← lv,← z];exact hn))
 | _=>cases e
theorem jT (T:cm X an) (x:Go X z0 z) (I:Rep X z) {n f:Nat} {p:Δ×Δ} {d:D} {v:ζ} {A:ϒ} {E:ζ→π→Prop} {o:av} (ep:z.ρ[n]? = some p) (rd:RD X.W z.ρ z.G d v) (e:o=(match (z.t.st[n]?).bind fun o=>eg X.Γ o f d with | some o=>.nx ⟨z.t.env,z.t.ow,z.t.st.set n o⟩ | none=>.bad)) (nb:o≠.bad):Β X.M A (E0 (.ref p.1) (an f) v) (fun _ s'=>Ps X z0 o .next s') E z.s:=by
 cases q:(z.t.st[n]?).bind fun o=>eg X.Γ o f d with
 | none=>rw [q] at e;exact ZX e nb
 | some o'=>
   rw [q] at e
   obtain ⟨ob,q1,q2⟩:=ϓ.mp q
   exact zk T I ep rd q1 q2 fun s' I2 g2=>nxt (z1:={ z with t:=⟨z.t.env,z.t.ow,z.t.st.set n o'⟩,s:=s' }) (x.trans g2) I2 e
def mL:E→Bool
 | .lst .nil=>false
 | .dic .nil=>false
 | _=>true
theorem iG (h:mL e=true):X.ex (.fld a f e) s=(X.ev false e s).go fun d s=>(X.ev true a s).go fun x s=>(match x with
        | .ref n=>(match (s.st[n]?).bind fun o=>eg X.Γ o f d with | some o=>.nx ⟨s.env,s.ow,s.st.set n o⟩ | none=>.bad)
        | _=>.bad):=by
 cases e with
 | lst es=>cases es <;> first | rfl | cases h
 | dic es=>cases es <;> first | rfl | cases h
 | _=>rfl
theorem d5 :C7 e (some (.Attribute o x p)) l env=pure false:=by
 cases e <;> rfl
theorem jQ (I:Rep X z) (h:RB X.W z (.ref n) u):∃ p,z.ρ[n]? = some p∧u = .ref p.1:=h.cr0 I
theorem yt (T:cm X an) (hp:mL e=true) (ho:LE X eo a) (he:LE X ee e):LS X (.Assign [.Attribute eo (an f) p] ee pos) (.fld a f e):=fun z I nb=>ó ((he false).gos .refl I (iG hp) nb fun z1 d v y1 x1 I1 r1 e1=>(ho true).gos x1 I1 e1 nb fun z2 x u y2 x2 I2 r2 e2=>by
 cases x with
 | ref n=>
   obtain ⟨p,ep,rfl⟩:=jQ I2 r2.rb
   exact jT T x2 I2 ep (r1.rd.st y2.st) e2 nb
 | _=>exact ZX e2 nb) d5
theorem oE (T:cm X an) {o:av} {o0:O} {s':π} {a:Δ} {i:Nat} {x:ι} (I:Rep X z) (g:Gr z.s s') (ha:z.h a=none) (r:∀ ρ,ObR X.W ρ z.G s'.heap.get? (a,a) o0) (hN:X.N[i]? = some x) (hv:Vis X.env.scope x) (hd:(x == ("__debug__":ι))=false) (hcd:(x == ("__classdict__":ι))=false)
 (e:o=((X.ev true (.v i) z.t).go fun x s=>(match x with
  | .ref n=>(match (s.st[n]?).bind fun o=>eg X.Γ o f (.ref s.st.length) with | some o=>.nx ⟨s.env,s.ow,(s.st ++ [o0]).set n o⟩ | none=>.bad)
  | _=>.bad))) (nb:o≠.bad):Β X.M X.A (eval (.Name x p1) X.env) (fun ov s2=>Β X.M X.A (E0 ov (an f) (.ref a)) (fun _ s3=>Ps X z o .next s3) (PxS X z o) s2) (PxS X z o) s':=by
 obtain ⟨I1,x1⟩:=I.snoc (p:=(a,a)) g ⟨ha,ha⟩ (r _)
 have ev:X.ev true (.v i) z.t=(match z.t.env[i]? with | some (some d)=>.ok d z.t | _=>.bad):=rfl
 rw [ev] at e
 cases q:z.t.env[i]? with
 | none=>rw [q] at e;exact ZX e nb
 | some oo=>cases oo with
   | none=>rw [q] at e;exact ZX e nb
   | some d=>
     rw [q] at e
     obtain ⟨u,hu,ru⟩:=I1.slot (i:=i) (d:=d) q
     refine bR I1 hN hv hu ?_ hd hcd
     cases d with
     | ref n=>
       obtain ⟨p,ep,rfl⟩:=jQ I1 ru
       have e:o=(match (z.t.st[n]?).bind fun o=>eg X.Γ o f (.ref z.t.st.length) with | some o=>.nx ⟨z.t.env,z.t.ow,(z.t.st ++ [o0]).set n o⟩ | none=>.bad):=e
       refine jT T x1.go I1 ep (show RD X.W (z.ρ ++ [(a,a)]) z.G (.ref z.t.st.length) (.ref a) from ⟨_,so I.toHR,rfl⟩) (e.trans ?_) nb
       show _=(match ((z.t.st ++ [o0])[n]?).bind fun o=>eg X.Γ o f (.ref z.t.st.length) with | some o=>av.nx ⟨z.t.env,z.t.ow,(z.t.st ++ [o0]).set n o⟩ | none=>av.bad)
       cases q1:z.t.st[n]? with
       | none=>rw [q1] at e;exact ZX e nb
       | some w=>rw [ϊ (τ.mp q1).1,q1]
     | _=>exact ZX e nb
theorem uQ (T:cm X an) (hN:X.N[i]? = some x) (hv:Vis X.env.scope x) (hd:(x == ("__debug__":ι))=false) (hcd:(x == ("__classdict__":ι))=false):LS X (.Assign [.Attribute (.Name x p1) (an f) p] (.Dict [] [] p2) pos) (.fld (.v i) f (.dic .nil)):=fun z I nb=>ó (Gx (oE (o0:=.dic [] []) T I (.push (t:=z.s.toks)) (aD z) (fun ρ=>⟨_,[],rfl,ZU.mpr (Ñ I.sysm),χ _ rfl,by
 obtain ⟨o,es,ep,h1,h2,h3,h4,h5,h6⟩:=E6 (knd:=bH X.W.P X.W.w) z.s.heap
 rw [χ _ rfl] at h1
 cases h1
 exact ⟨es,ep,h2,h3,h4,h5,h6,Â _⟩,rfl,rfl⟩) hN hv hd hcd rfl nb)) d5
theorem uR (T:cm X an) (hN:X.N[i]? = some x) (hv:Vis X.env.scope x) (hd:(x == ("__debug__":ι))=false) (hcd:(x == ("__classdict__":ι))=false):LS X (.Assign [.Attribute (.Name x p1) (an f) p] (.List [] p2) pos) (.fld (.v i) f (.lst .nil)):=fun z I nb=>ó (D2 (Ω ⟨Â _,oE (o0:=.lst []) T I (.push (t:=z.s.toks)) (aD z) (fun ρ=>⟨_,[],rfl,χ _ rfl,⟨⟨_,rfl⟩,Â _⟩,rfl⟩) hN hv hd hcd rfl nb⟩)) d5
theorem vj {es:List D} {us:List ζ} {o:Out D} (x:Ee X z0 z) (I:Rep X z) (r:RDs X.W z.ρ z.G es us) (hz:es.length≤100000) (e:o = .ok (.ref z.t.st.length) ⟨z.t.env,z.t.ow,z.t.st ++ [.lst es]⟩):Pe X z0 o (RV X.W br c) (.ref z.s.heap.objs.size) { z.s with heap:=z.s.heap.push { cls:=.type "list",data:=.seq us.toArray } }:=by
 obtain ⟨I1,x1⟩:=I.snoc (p:=(z.s.heap.objs.size,z.s.heap.objs.size)) (o:=.lst es) (.push (t:=z.s.toks)) ⟨aD z,aD z⟩ ⟨_,us,rfl,χ _ rfl,⟨⟨_,rfl⟩,by rw [← r.len];exact big hz⟩,r.mono (ù _ _) (.refl _)⟩
 exact ⟨_,.ref z.t.st.length,rfl,e,x.trans x1,I1,.of (show RD X.W (z.ρ ++ [_]) z.G (.ref z.t.st.length) _ from ⟨_,so I.toHR,rfl⟩)⟩
theorem nW (h:LA X er es):LE X (.List er pos) (.newl es):=fun br z I nb=>D2 ((h false pos).go (f:=fun l s=>if l.length≤100000 then Out.ok (D.ref s.st.length) ⟨s.env,s.ow,s.st ++ [.lst l]⟩ else .bad) .refl I rfl nb fun z1 l us y1 x1 I1 r1 e1=>by
 by_cases c:l.length≤100000
 ·rw [ZZ c] at e1
  exact ⟨by rw [← r1.rds.len];exact big c,vj x1 I1 r1.rds c e1⟩
 ·rw [ZY c] at e1;exact ZX e1 nb)
theorem uW (hN:X.N.Nodup) (hi:X.N[i]? = some x) (hx:Loc X.env.scope x) (h:LA X er es) (hs:C7 (.List er lp) (some (.Name x pos')) pos.line X.env=pure false):LS X (.Assign [.Name x pos'] (.List er lp) pos) (.setR i es):=fun z I nb=>Gg (by
 have e:X.ex (.setR i es) z.t=(X.ev false (.newl es) z.t).go fun d s=>.nx (stV s i d false):=by
  show Out.go (X.evs false es z.t) _=Out.go (Out.bind (X.evs false es z.t) _) _
  cases X.evs false es z.t with
  | ok l s=>show (if l.length≤100000 then _ else _)=Out.go (if l.length≤100000 then _ else _) _;by_cases c:l.length≤100000 <;> simp only [c,if_true,if_false] <;> rfl
  | _=>rfl
 exact (nW h false).gos .refl I e nb fun z1 d u y x0 I1 r e1=>cj (own:=false) x0 I1 hN hi hx r.rd fun s' a _ _ I' g'=>nxt (z1:={ z1 with t:=stV z1.t i d false,σ:=z1.σ.set i (some u),s:=s' }) g' I' e1) hs
theorem rP {st:List O} {x:D} {w:Int} (h:look st x = .int w):x = .int w:=by
 cases x with
 | ref n=>unfold look at h;dsimp only at h;split at h <;> cases h
 | _=>exact h
structure tI (X:Cx) (op:Fw) (o:Op) (g:Int→Int→Int):Prop where
 op:∀ {A:ϒ} {s:π} {i j:Int} {t u:Tok} {Q:ζ→π→Prop} {E:ζ→π→Prop},Q (.int (g i j) s.toks) { s with toks:=s.toks+1 }→Β X.M A (inplaceOp op (.int i t) (.int j u)) Q E s
 od:∀ i j,opD o (.int i) (.int j)=some (.int (g i j))
 oi:∀ x c d,opD o x (.int c)=some d→∃ w,x = .int w
theorem tQ:tI X .Sub .sub (· - ·):=⟨isub_int,fun _ _=>rfl,fun x c d h=>by cases x <;> first | exact ⟨_,rfl⟩ | cases h⟩
theorem tP:tI X .Add .add (· + ·):=⟨iadd_int,fun _ _=>rfl,fun x c d h=>by cases x <;> first | exact ⟨_,rfl⟩ | cases h⟩
theorem yo (T:cm X an) {o:Op} (ar:tI X op o g) (hN:X.N[i]? = some x) (hv:Vis X.env.scope x) (hd:(x == ("__debug__":ι))=false) (hcd:(x == ("__classdict__":ι))=false):LS X (.AugAssign (.Attribute (.Name x p1) (an f) p) op (.Constant (.int c) j p2) pos) (.fld (.v i) f (.op o (.fld (.v i) f) (.c (.int c)))):=fun z I nb=>by
 have e:=iG (X:=X) (a:=.v i) (f:=f) (s:=z.t) (e:=.op o (.fld (.v i) f) (.c (.int c))) rfl
 have e:X.ex (.fld (.v i) f (.op o (.fld (.v i) f) (.c (.int c)))) z.t=((((X.ev true (.v i) z.t).bind fun x s=>Out.of s (l9 X.Γ s.st x f)).bind fun x s=>Out.of s (opD o (look s.st x) (.int c))).go fun d s=>(X.ev true (.v i) s).go fun x s=>(match x with
  | .ref n=>(match (s.st[n]?).bind fun o=>eg X.Γ o f d with | some o=>.nx ⟨s.env,s.ow,s.st.set n o⟩ | none=>.bad)
  | _=>.bad)):=e
 have ev:X.ev true (.v i) z.t=(match z.t.env[i]? with | some (some d)=>.ok d z.t | _=>.bad):=rfl
 revert nb
 generalize X.ex (.fld (.v i) f (.op o (.fld (.v i) f) (.c (.int c)))) z.t=oo at e
 intro nb
 refine wpAny_AugAssign_AttributeAny ?_
 cases q:z.t.env[i]? with
 | none=>rw [ev,q] at e;exact ZX e nb
 | some ow=>cases ow with
   | none=>rw [ev,q] at e;exact ZX e nb
   | some d=>
     rw [q] at ev
     rw [ev] at e
     obtain ⟨u,hu,ru⟩:=I.slot q
     refine bR I hN hv hu ?_ hd hcd
     cases q1:l9 X.Γ z.t.st d f with
     | none=>simp only [Out.bind,q1,Out.of] at e;exact ZX e nb
     | some x=>
       simp only [Out.bind,q1,Out.of] at e
       cases q2:opD o (look z.t.st x) (.int c) with
       | none=>simp only [q2] at e;exact ZX e nb
       | some d2=>
         simp only [q2] at e
         obtain ⟨w,hw⟩:=ar.oi _ _ _ q2
         rw [hw] at q2
         obtain rfl:=rP hw
         obtain rfl:=ϡ ((ar.od w c).symm.trans q2)
         have e:oo=((X.ev true (.v i) z.t).go fun x s=>(match x with
          | .ref n=>(match (s.st[n]?).bind fun o=>eg X.Γ o f (.int (g w c)) with | some o=>.nx ⟨s.env,s.ow,s.st.set n o⟩ | none=>.bad)
          | _=>.bad)):=e
         rw [ev] at e
         cases d with
         | ref n=>
           obtain ⟨p,ep,rfl⟩:=jQ I ru
           obtain ⟨C,fs,v,h1,h2,h3,h4,h5⟩:=qS T I ep q1
           have h6:=h5
           obtain ⟨t,ht⟩:∃ t,v = .int w t:=h6
           subst ht
           refine mn I h1 h2 h3 h4 h5 (FT (ar.op ?_))
           have gr:Gr z.s { z.s with toks:=z.s.toks+1+1+1 }:=.tok
           exact jT (z:={ z with s:={ z.s with toks:=z.s.toks+1+1+1 } }) T (aq I.gh gr).ee.go (I.grow (aq I.gh gr)) ep (show RD X.W z.ρ z.G (.int (g w c)) _ from ⟨_,rfl⟩) e nb
         | _=>exact ZX e nb
end
section
variable {prog:ϸ} {w:Ü} {A:ϒ} {E:ζ→π→Prop} {s:π}
theorem iE {it l:Δ} {items:Array ζ} (hne:l≠it):∀ (n i:Nat) (s:π) (Q:List ζ→π→Prop),s.heap.IsListIter it l i→s.heap.IsList l items→i+n≤items.size →
 (∀ h',h'.IsListIter it l (i+n)→ú it s.heap h'→Q ((items.toList.drop i).take n) { s with heap:=h' })→Β (model prog w) A (draw (.ref it) n) Q E s
 | 0,i,s,Q,hit,_,_,hQ=>by
   show Β _ _ (pure []) Q E s
   exact θ (by simpa using hQ s.heap hit (Heap.SameBut.refl ..))
 | n+1,i,s,Q,hit,ht,hle,hQ=>by
   have hlt:i<items.size:=by omega
   show Β _ _ (DG (.ref it) >>= _) Q E s
   refine ε (wpAny_pyNext_list_item hit ht (x:=items[i]) (by simp [hlt]) fun h₁ hit₁ hs₁=>?_)
   refine ε (ό (iE hne n (i+1) _ _ hit₁ (ht.extBut hs₁.extBut hne) (by omega) fun h₂ hit₂ hs₂=>θ ?_))
   have hd:items.toList.drop i=items[i] :: items.toList.drop (i+1):=by simp [ľ,hlt]
   have:=hQ h₂ (by rw [show i+(n+1)=i+1+n by omega];exact hit₂) (hs₁.trans hs₂)
   rw [hd,List.take_succ_cons] at this
   exact this
theorem eO {l:Δ} {items:Array ζ} {Q:List ζ→π→Prop} (hh:A.handled=none) (ht:s.heap.IsList l items)
 (hQ:∀ h',GH s.heap.objs.size s.heap h'→Q items.toList { s with heap:=h' }):Β (model prog w) A (Fo (.ref l) items.size none) Q E s:=by
 have hlt:l≠s.heap.objs.size:=by obtain ⟨o,ho,_⟩:=ht;exact ϝ (Τ ho)
 unfold Fo
 refine ε ?_
 unfold notIterableAtAll
 refine ε (ų ht.typeIs slot_list_iter.lookup ?_)
 refine θ ?_
 simp only [Ï,if_false]
 refine ε (ό (Ġ ht ?_))
 refine ε (ό (iE hlt items.size 0 _ _ ⟨_,χ _ rfl,rfl,rfl⟩ (ht.push _) (by omega) fun h₁ hit₁ hs₁=>?_))
 have hall:List.take items.size (List.drop 0 items.toList)=items.toList:=by
  rw [ĳ];exact List.take_of_length_le (by simp)
 rw [hall]
 rw [ZY (by simp)]
 have ht₁:h₁.IsList l items:=(ht.push _).extBut hs₁.extBut hlt
 refine ε (ό (wpAny_pyNext_list_end hh hit₁ ht₁ (by simp) fun h₂ he₂=>?_))
 simp only [Option.isSome_none,Ï,if_false]
 exact θ (hQ h₂ fun b o hb e=>he₂ b o hb (hs₁.extBut b o hb (ς _ e)))
end
section
variable {X:Cx} {z z' z0 z1:Z}
def binds (env:List (Option D)) (l:List (Nat×D)):List (Option D):=l.foldl (fun e p=>e.set p.1 (some p.2)) env
def zK (t:Sta) (ts:List Nat) (ds:List D):Sta:=⟨binds t.env (ts.zip ds),t.ow.filter fun i=>!ts.contains i,t.st⟩
def As (X:Cx):List (ζ→EB Unit)→List Nat→Prop
 | f :: fs,i :: t=>(∃ x,X.N[i]? = some x∧Loc X.env.scope x∧∀ {v Q E s},Β X.M X.A (storeName X.env x v) Q E s→Β X.M X.A (f v) Q E s)∧As X fs t
 | [],[]=>True
 | _,_=>False
theorem vN {Q:Unit→π→Prop} {E:ζ→π→Prop} (hN:X.N.Nodup):∀ {fs t ds us z},As X fs t→Go X z0 z→Rep X z→RDs X.W z.ρ z.G ds us→ds.length=t.length→(∀ z',Go X z0 z'→Rep X z'→z'.ρ=z.ρ→z'.G=z.G→z'.t=zK z.t t ds→(∀ j,j ∉ t→z'.σ[j]? = z.σ[j]?)→((∀ i∈t,∀ x,X.N[i]? = some x→X.env.scope.names.lookup x=some .local)→∀ b o,z.h b=some o→b≠X.env.locals→z'.h b=some o)→Q () z'.s)→Β X.M X.A (assignInOrder fs us) Q E z.s
 | [],[],[],us,z,_,x,I,r,_,h=>assignInOrder_nil (h z x I rfl rfl (by
   have:z.t.ow.filter (fun i=>!([]:List Nat).contains i)=z.t.ow:=List.filter_eq_self.mpr fun _ _=>rfl
   show z.t=⟨z.t.env,_,z.t.st⟩
   rw [this]) (fun _ _=>rfl) fun _ _ _ e _=>e)
 | f :: fs,i :: t,d :: ds,us,z,⟨⟨x',h1,h2,h3⟩,ha⟩,x,I,r,hl,h=>by
   obtain ⟨u,vs,rfl,r1,r2⟩:=r
   refine assignInOrder_cons (h3 (cj (own:=false) x I hN h1 h2 r1 fun s' a sb la I' g'=>?_))
   refine vN hN (z:={ z with t:=stV z.t i d false,σ:=z.σ.set i (some u),s:=s' }) ha g' I' r2 (Ņ hl) fun z' gz Iz eρ eG et eσ ek=>h z' gz Iz eρ eG (et.trans ?_) (fun j nj=>?_) fun lc b o e nb=>ek (fun i' m=>lc i' (μ _ m)) b o ((sb.2 b fun q=>nb (q.trans (la.2 (lc i ν x' h1)))).trans e) nb
   ·show (⟨binds (z.t.env.set i (some d)) (t.zip ds),(z.t.ow.filter (· != i)).filter (fun j=>!t.contains j),z.t.st⟩:Sta)=⟨binds (z.t.env.set i (some d)) (t.zip ds),z.t.ow.filter (fun j=>!(i :: t).contains j),z.t.st⟩
    rw [List.filter_filter]
    congr 1
    refine F8 fun j _=>?_
    rw [List.contains_cons,Bool.not_or,Bool.and_comm];rfl
   ·rw [ξ,not_or] at nj
    exact (eσ j nj.2).trans (Ψ (Ϡ nj.1))
 | [],_ :: _,_,_,_,h,_,_,_,_,_=>h.elim
 | _ :: _,[],_,_,_,h,_,_,_,_,_=>h.elim
 | [],[],_ :: _,_,_,_,_,_,_,hl,_=>by cases hl
 | _ :: _,_ :: _,[],_,_,_,_,_,_,hl,_=>by cases hl
def LG (X:Cx) (tg:Μ) (t:List Nat) (one:Bool):Prop:=∀ (z0 z:Z) (d:D) (u:ζ) (env:List (Option D)) (Q:Unit→π→Prop) (E:ζ→π→Prop),Go X z0 z→Rep X z→RD X.W z.ρ z.G d u→aH t one d z.t.env=some env →
 (∀ z',Go X z0 z'→Rep X z'→z'.ρ=z.ρ→Go X z z'→z'.t=⟨env,z.t.ow.filter fun i=>!t.contains i,z.t.st⟩→(∀ j,j ∉ t→z'.σ[j]? = z.σ[j]?)→((∀ i∈t,∀ x,X.N[i]? = some x→X.env.scope.names.lookup x=some .local)→∀ b o,z.h b=some o→b≠X.env.locals→z'.h b=some o)→Q () z'.s)→Β X.M X.A (assign tg X.env u) Q E z.s
theorem uJ (hN:X.N.Nodup) (hi:X.N[i]? = some x) (hx:Loc X.env.scope x):LG X (.Name x pos) [i] true:=fun z0 z d u env Q E x0 I r e h=>by
 cases (show some (z.t.env.set i (some d))=some env from e)
 refine Dj (cj (own:=false) .refl I hN hi hx r fun s' a sb la I' g'=>h { z with t:=stV z.t i d false,σ:=z.σ.set i (some u),s:=s' } (x0.trans g') I' rfl g' ?_ (fun j nj=>?_) fun lc b o e nb=>(sb.2 b fun q=>nb (q.trans (la.2 (lc i (η.mpr rfl) x hi)))).trans e)
 ·show (⟨_,z.t.ow.filter (· != i),z.t.st⟩:Sta)=⟨_,z.t.ow.filter (fun j=>![i].contains j),z.t.st⟩
  congr 1
  refine F8 fun j _=>?_
  by_cases c:j=i <;> simp [c]
 ·exact Ψ fun w=>nj (by rw [w];exact η.mpr rfl)
theorem tj {n:Nat} {Q:List ζ→π→Prop} {E:ζ→π→Prop} {d:D} {l:List D} (hc:X.calm=true) (I:Rep X z) (r:RD X.W z.ρ z.G d u) (e:d = .tup l∨d = .lst l) (hn:l.length=n) (q:∀ s' us,Gr z.s s'→RDs X.W z.ρ z.G l us→Q us s'):Β X.M X.A (Fo u n none) Q E z.s:=by
 subst hn
 rcases e with rfl | rfl
 ·obtain ⟨a,o,vs,rfl,g,⟨tc,⟨k,td⟩,tl⟩,r⟩:=r
  rw [show l.length=vs.toArray.size by simp [r.len]]
  exact wpAny_unpackItems_tuple (I.hd hc) (show z.s.heap.IsTuple a vs.toArray from ⟨o,I.gh _ _ g,tc,⟨k,td⟩⟩) fun h' hx=>q _ _ (.hp (t:=z.s.toks) fun b o e=>hx b o (ϝ (Τ e)) e) (by simpa using r)
 ·obtain ⟨a,o,vs,rfl,g,⟨⟨k,rfl⟩,tl⟩,r⟩:=r
  rw [show l.length=vs.toArray.size by simp [r.len]]
  exact eO (I.hd hc) (show z.s.heap.IsList a vs.toArray from ⟨_,I.gh _ _ g,rfl,⟨k,rfl⟩⟩) fun h' hx=>q _ _ (.hp (t:=z.s.toks) fun b o e=>hx b o (ϝ (Τ e)) e) (by simpa using r)
theorem qz (e:aH t false d env=some env'):∃ l,(d = .tup l∨d = .lst l)∧l.length=t.length∧env'=binds env (t.zip l):=by
 cases d with
 | tup l=>obtain ⟨c,e⟩:=aN (show (if l.length=t.length then some (binds env (t.zip l)) else none)=some env' from e);cases e;exact ⟨l,.inl rfl,c,rfl⟩
 | lst l=>obtain ⟨c,e⟩:=aN (show (if l.length=t.length then some (binds env (t.zip l)) else none)=some env' from e);cases e;exact ⟨l,.inr rfl,c,rfl⟩
 | _=>cases e
theorem yk {es:List Μ} {k:Nat} {pos:ϭ} (hc:X.calm=true) (hN:X.N.Nodup) (ha:As X ((Ŋ es X.env).map (·.2)) t) (hn:(Ŋ es X.env).length=t.length) (hst:(Ŋ es X.env).findIdx? (·.1)=none):LG X (.Tuple es k pos) t false:=fun z0 z d u env Q E x0 I r e h=>by
 obtain ⟨l,dl,hl,rfl⟩:=qz e
 rw [assign_Tuple]
 refine ε (ã ?_)
 unfold unpack
 rw [hn,hst]
 refine ε (ό (tj hc I r dl hl fun s' us g rs=>?_))
 exact vN (z:={ z with s:=s' }) hN ha (aq I.gh g).ee.go (I.grow (aq I.gh g)) rs hl fun z' gz Iz eρ eG et eσ ek=>h z' (x0.trans gz) Iz eρ gz et eσ fun lc b o e nb=>ek lc b o (g.k b o e) nb
end
section
variable {X:Cx} {z:Z}
def isV:E→Bool
 | .v _=>true
 | _=>false
theorem uT (hn:aG eb=true) (hv:isV a=false) (ho:LE X eo a) (hb:LE X eb b) (he:LE X ee e):LS X (.Assign [.Subscript eo eb p2] ee pos) (.put a b e):=fun z I nb=>by
 have e0:X.ex (.put a b e) z.t=(X.ev false e z.t).go fun d s=>(X.ev true a s).go fun x s=>(X.ev true b s).go fun k s=>(match x with
  | .ref n=>(match (s.st[n]?).bind fun o=>ed o k d with | some o=>.nx ⟨s.env,s.ow,s.st.set n o⟩ | none=>.bad)
  | _=>.bad):=by cases a <;> first | rfl | cases hv
 refine mY hn ((he false).gos (K:=fun v s'=>∃ z1 d,z1.s=s'∧Go X z z1∧Rep X z1∧RD X.W z1.ρ z1.G d v∧X.ex (.put a b e) z.t=((X.ev true a z1.t).go fun x s=>(X.ev true b s).go fun k s=>(match x with
  | .ref n=>(match (s.st[n]?).bind fun o=>ed o k d with | some o=>.nx ⟨s.env,s.ow,s.st.set n o⟩ | none=>.bad)
  | _=>.bad))) .refl I e0 nb fun z1 d u y x1 I1 r1 e1=>⟨z1,d,rfl,x1,I1,r1.rd,e1⟩) fun v s' ⟨z1,d,q,x1,I1,r1,e1⟩=>?_
 subst q
 exact (ho true).gos x1 I1 e1 nb fun z2 x u y2 x2 I2 r2 e2=>(hb true).gos x2 I2 e2 nb fun z3 k kv y3 x3 I3 r3 e3=>by
  cases x with
  | ref n=>
    obtain ⟨p,ep,rfl⟩:=jQ I3 (r2.rb.st y3 I3)
    exact sN x3 I3 ep (r3.rb.cr0 I3) ((r1.st y2.st).st y3.st) e3 nb
  | _=>exact ZX e3 nb
theorem yr {i:Nat} {x:ι} (hN:X.N[i]? = some x) (hv:Vis X.env.scope x) (hd:(x == ("__debug__":ι))=false) (hcd:(x == ("__classdict__":ι))=false) (he:LE X e c) (m:M1 X (.Name x p) "extend" apos e cpos):LS X (.Expr (.Call (.Attribute (.Name x p) "extend" apos) [e] [] cpos) pos) (.ext i c):=fun z I nb=>by
 have e0:X.ex (.ext i c) z.t=(if z.t.ow.contains i && isLst z.t.env[i]? then (X.ev false c z.t).go fun d s=>if s.ow.contains i then (match s.env[i]?,d with
  | some (some (.lst l)),.lst x=>if l.length+x.length≤100000 then .nx ⟨s.env.set i (some (.lst (l ++ x))),s.ow,s.st⟩ else .bad
  | _,_=>.bad) else .bad else .bad):=rfl
 by_cases c0:(z.t.ow.contains i && isLst z.t.env[i]?)=true
 ·rw [ZZ c0] at e0
  rw [Χ] at c0
  have mi:i∈z.t.ow:=by simpa using c0.1
  obtain ⟨l,el⟩:∃ l,z.t.env[i]? = some (some (.lst l)):=by
   have:=c0.2
   unfold isLst at this
   split at this
   ·rename_i l q;exact ⟨l,q⟩
   ·cases this
  obtain ⟨a,vs,n,es,ha,r⟩:=fE I mi el
  refine ſ (ġ m.base m.few m.line Dy Du PySem.F.type_list_extend (bR I hN hv es ⟨⟨_,ha,rfl⟩,fun b q=>(by cases q;exact ⟨_,ha,rfl⟩),?_⟩ hd hcd)) I.quiet rfl
  rw [m.trees]
  refine Ú rfl (è (Λ ((he false).gos .refl I e0 nb fun z1 d u y x1 I1 r1 e1=>Ω ?_)))
  by_cases c1:z1.t.ow.contains i=true
  ·rw [ZZ c1] at e1
   have m1:i∈z1.t.ow:=by simpa using c1
   have el1:z1.t.env[i]? = some (some (.lst l)):=by rw [y.en];exact el
   rw [el1] at e1
   cases d with
   | lst x=>
     dsimp only at e1
     obtain ⟨a',vs,n,es',ha,r⟩:=fE I1 m1 el1
     rw [y.sg,es] at es';cases es'
     obtain ⟨b,o,us,rfl,g,⟨⟨n2,rfl⟩,hz2⟩,r2⟩:=r1.rd
     by_cases c2:l.length+x.length≤100000
     ·rw [ZZ c2] at e1
      have l1:=r.len
      have l2:=r2.len
      have hz:vs.toArray.size+us.toArray.size≤ϛ:=by simp only [Ο];exact big (by omega)
      refine Ec Du ⟨_,ha,rfl⟩ PySem.F.entry_list_extend (PySem.F.args_list_extend_2 _ _) (AutoSeq1.list_extend_list_list_0 a vs.toArray n b us.toArray n2 ?_ (by omega) (by omega)) ⟨ha,I1.gh _ _ g,?_⟩
      ·rw [show H5 (vs.toArray.size+us.toArray.size)=false from ZV (C3.mpr hz),DD];exact fun h=>nomatch h
      obtain ⟨⟨o1,u1,u3⟩,u2⟩:=fG (f:=(· ++ us.toArray)) (ws:=vs ++ us) ha (by simp) (by rw [φ];simpa using hz)
      obtain ⟨I2,g2⟩:=I1.ownw (s':={ z1.s with heap:=z1.s.heap.update a (û (· ++ us.toArray)) }) (d':=.lst (l ++ x)) m1 (by rw [y.sg];exact es) rfl u2 ⟨o1,vs ++ us,rfl,u1,u3,r.app r2⟩ rfl rfl
      exact nxt (x1.trans g2) I2 e1
     ·rw [ZY c2] at e1;exact ZX e1 nb
   | _=>exact ZX e1 nb
  ·rw [ZY c1] at e1;exact ZX e1 nb
 ·rw [ZY c0] at e0;exact ZX e0 nb
end
structure Itr (W:Wd) (tg:Μ) (it:Δ) (fp wr:List Δ) (ds:List D) (ρ:Rs) (G:Hp) (St:Nat→Ϸ→Prop):Prop where
 sub:∀ b∈wr,b∈fp
 keep:∀ i h h',St i h→(∀ b∈fp,∀ o,h.get? b=some o→h'.get? b=some o)→St i h'
 ex:∀ i h,St i h→∀ b∈wr,∃ o,h.get? b=some o
 item:∀ {A:ϒ} {i:Nat} {d:D} {s:π},A.handled=none→ds[i]? = some d→St i s.heap→Β (model W.P W.w) A (DG (.ref it)) (fun r s1=>∃ u,r=some u∧Β (model W.P W.w) A (Ŷ tg (.ref it) u) (fun _ s2=>St (i+1) s2.heap∧(s2.os=s.os∧s2.gens=s.gens)∧(∀ b o,b ∉ wr→s.heap.get? b=some o→s2.heap.get? b=some o) ∧
  ∀ ρ' G',ρ <+: ρ'→Sub G G'→(∀ a o,s.heap.get? a=none→s2.heap.get? a=some o→G' a=some o)→RD W ρ' G' d u) NoE s1) NoE s
 done:∀ {A:ϒ} {s:π},A.handled=none→St ds.length s.heap→Β (model W.P W.w) A (DG (.ref it)) (fun r s2=>r=none∧(s2.os=s.os∧s2.gens=s.gens)∧∀ b o,b ∉ wr→s.heap.get? b=some o→s2.heap.get? b=some o) NoE s
 self:∀ {A:ϒ} {i:Nat} {s:π} {Q:ζ→π→Prop} {E:ζ→π→Prop},A.handled=none→St i s.heap→Q (.ref it) s→Β (model W.P W.w) A (Ů (.ref it)) Q E s
def Fp (X:Cx) (z0 z:Z) (fp wr:List Δ):Prop:=∀ b∈fp,(Nob X z0 z b∧∃ o,z.h b=some o)∨(b ∉ wr∧∃ o,z.G b=some o)
section
variable {X:Cx} {z z' z0 z1:Z}
theorem Nob.go (x:Go X z z') (n:Nob X z0 z b) (e:z.h b=some o):Nob X z0 z' b∧z'.h b=some o:=by
 obtain ⟨n0,⟨f1,f2,f3,f4⟩,f5⟩:=n
 have no:∀ {P:Prop},z.h b=none→P:=fun w=>by rw [w] at e;cases e
 refine ⟨⟨n0,⟨?_,fun m=>(x.st.rn b m).elim f2 no,f3,f4⟩,fun w=>(x.ow b w).elim f5 no⟩,x.st.sm b o e f2 (fun w=>w.elim f5 f4) f3⟩
 cases q:z'.G b with
 | none=>rfl
 | some o'=>
   rcases x.st.gn b o' q with w | w | w
   ·rw [f1] at w;cases w
   ·exact no w
   ·exact (w.elim f5 f4).elim
theorem Fp.go (x:Go X z z') (f:Fp X z0 z fp wr):Fp X z0 z' fp wr:=fun b hb=>(f b hb).imp (fun ⟨n,o,e⟩=>let ⟨a,b⟩:=n.go x e;⟨a,o,b⟩) fun ⟨n,o,e⟩=>⟨n,o,x.st.gg b o e⟩
theorem Fp.keep (x:Go X z z') (I:Rep X z) (I':Rep X z') (f:Fp X z0 z fp wr):∀ b∈fp,∀ o,z.h b=some o→z'.h b=some o:=fun b hb o e=>by
 rcases f b hb with ⟨n,o',e'⟩ | ⟨_,o',e'⟩
 ·exact (n.go x e).2
 ·rw [I.gh b o' e'] at e;cases e;exact I'.gh b _ (x.st.gg b _ e')
theorem Rep.turn {s':π} {wr:List Δ} {w:Δ→Prop} (x:Stp X.fr w z0 z) (I:Rep X z) (hw:∀ b∈wr,Nob X z0 z b∧∃ o,z.h b=some o) (k:∀ b o,b ∉ wr→z.h b=some o→s'.heap.get? b=some o) (os:s'.os=z.s.os∧s'.gens=z.s.gens):Rep X (z.up s')∧Stp X.fr w z0 (z.up s')∧Sub z.G (z.up s').G∧∀ b∈wr,Nob X z0 (z.up s') b:=by
 have gd:∀ a,(z.up s').G a=match z.h a with | none=>s'.heap.get? a | some _=>z.G a:=fun _=>rfl
 have nG:∀ {b o},z.G b=some o→b ∉ wr:=fun e m=>by rw [(hw _ m).1.2.1.1] at e;cases e
 have nM:∀ {b},Mu z.ρ b→b ∉ wr:=fun h m=>(hw _ m).1.2.1.2.1 h
 have nf:∀ {b},b∈frs X.fr→b ∉ wr:=fun h m=>(hw _ m).1.2.1.2.2.1 h
 have nL:∀ {b},Lc X b→b ∉ wr:=fun h m=>(hw _ m).1.2.1.2.2.2 h
 have nO:∀ {b},Own z b→b ∉ wr:=fun h m=>(hw _ m).1.2.2 h
 have gg:Sub z.G (z.up s').G:=fun a o e=>by rw [gd,I.gh a o e];exact e
 have nn:∀ {a:Δ},(∃ o,z.h a=some o)→z.G a=none→(z.up s').G a=none:=fun {a} ⟨o,e⟩ n=>by rw [gd,e];exact n
 have gh:Sub (z.up s').G s'.heap.get?:=fun a o e=>by
  rw [gd] at e
  cases q:z.h a with
  | none=>rw [q] at e;exact e
  | some u=>rw [q] at e;exact k a o (nG e) (I.gh a o e)
 have ck:∀ x c v,X.env.cells.lookup x=some c→z.s.heap.IsCell c v→s'.heap.IsCell c v:=fun x c v e ⟨o,q,d⟩=>⟨o,k c o (nL (.inr ⟨x,e⟩)) q,d⟩
 have fu:s'.heap.FunFrames X.base X.fr:=by
  have:∀ {l:List CT},(∀ b∈frs l,b ∉ wr)→z.s.heap.FunFrames X.base l→s'.heap.FunFrames X.base l:=fun {l}=>by
   induction l with
   | nil=>exact fun _ _=>trivial
   | cons v r ih=>
     intro hs ⟨a,⟨L,o,e1,e2,e3,e4⟩,q⟩
     have hm:L∈frs (v :: r):=by unfold frs;rw [ύ,e1];exact ν
     exact ⟨a,⟨L,o,e1,e2,k L o (hs L hm) e3,e4⟩,ih (fun b hb=>hs b (by unfold frs;rw [ύ,e1];exact μ _ hb)) q⟩
  exact this (fun b h=>nf h) I.fu
 have gn:∀ a o,(z.up s').G a=some o→z.G a=some o∨z.h a=none:=fun a o e=>by
  rw [gd] at e
  cases q:z.h a with
  | none=>exact .inr rfl
  | some u=>rw [q] at e;exact .inl e
 refine ⟨⟨⟨I.md,I.fm,I.hd,fun b o e=>gg _ _ (I.bs b o e),gh,I.rl,I.rn,fun a m=>nn (I.th m) (I.rg a m),fun n o p h1 h2=>(I.ob n o p h1 h2).mono (ο _) gg fun a ha o e=>k a o (nM ⟨p,Ε h2,ha⟩) e,fu,fun b m=>⟨nn (I.fth m) (I.ff b m).1,(I.ff b m).2⟩,by show Ŝ s'.gens;rw [os.2];exact I.br,os.1.trans I.os⟩,I.ok,?_,fun x c e=>let ⟨v,q⟩:=I.ce x c e;⟨v,ck x c v e q⟩,fun a l=>⟨nn (I.lth l) (I.fl a l).1,(I.fl a l).2⟩,I.el,I.sl,fun i d n e=>let ⟨u,q,r⟩:=I.en i d n e;⟨u,q,r.mono (ο _) gg⟩,fun i m=>?_,I.od⟩,⟨x.pr,x.gg.trans gg,fun a o e=>?_,x.rn,fun a o e=>?_,fun a o e n w f=>?_,fun a o e n w f=>?_⟩,gg,fun b hb=>let ⟨⟨n0,f,no⟩,ex⟩:=hw b hb;⟨n0,⟨nn ex f.1,f.2⟩,no⟩⟩
 ·obtain ⟨m,⟨oL,es,ep,q,r⟩,hl⟩:=I.lo
  exact ⟨m,⟨oL,es,ep,k _ _ (nL (.inl rfl)) q,r⟩,fun j x w e1 e2 e3=>cX (fun c v e q=>ck x c v e q) (hl j x w e1 e2 e3)⟩
 ·obtain ⟨d,a,o,h1,h2,h3,r,f⟩:=I.eo i m
  exact ⟨d,a,o,h1,h2,h3,r.mono (ο _) gg fun c hc o e=>k c o (by rcases hc with rfl | rfl <;> exact nO ⟨i,m,h2⟩) e,nn r.th.1 f.1,f.2⟩
 ·rcases gn a o e with w | w
  ·exact x.gn a o w
  ·exact .inr (.inl (x.no w))
 ·obtain ⟨o1,e1⟩:=x.th a o e
  by_cases m:a∈wr
  ·rw [(hw a m).1.1] at e;cases e
  ·exact ⟨o1,k a o1 m e1⟩
 ·exact k a o (fun m=>by rw [(hw a m).1.1] at e;cases e) (x.sm a o e n w f)
 ·obtain ⟨sl,q⟩:=x.sl a o e n w f
  exact ⟨sl,k a _ (fun m=>by rw [(hw a m).1.1] at e;cases e) q⟩
theorem Fp.up {s':π} {wr wr':List Δ} (I:Rep X z) (f:Fp X z0 z fp wr) (g:Sub z.G (z.up s').G) (k:∀ b o,b ∉ wr'→z.h b=some o→s'.heap.get? b=some o) (ex:∀ b∈wr',b∈fp→∃ o,s'.heap.get? b=some o):Fp X z0 (z.up s') fp wr:=fun b hb=>(f b hb).imp (fun ⟨⟨n0,ff,no⟩,o',e'⟩=>⟨⟨n0,⟨by show (match z.h b with | none=>s'.heap.get? b | some _=>z.G b)=none;rw [e'];exact ff.1,ff.2⟩,no⟩,by
 by_cases m:b∈wr'
 ·exact ex b m hb
 ·exact ⟨o',k b o' m e'⟩⟩) fun ⟨m,o',e'⟩=>⟨m,o',g b o' e'⟩
theorem Fp.wr {wr:List Δ} {St:Nat→Ϸ→Prop} (T:Itr W tg it fp wr ds ρ G St) (st:St i z.s.heap) (f:Fp X z0 z fp wr):∀ b∈wr,Nob X z0 z b∧∃ o,z.h b=some o:=fun b hb=>(f b (T.sub b hb)).elim id fun ⟨n,_⟩=>ZX hb n
inductive FI (X:Cx) (z:Z) (tg:Μ) (o:Out D) (itv:ζ) (s2:π):Prop
 | mk (z1:Z) (ds:List D) (it:Δ) (fp wr:List Δ) (St:Nat→Ϸ→Prop) (_:z1.s=s2) (_:o = .ok (.lst ds) z1.t) (_:Ee X z z1) (_:Rep X z1) (_:itv = .ref it) (_:Itr X.W tg it fp wr ds z1.ρ z1.G St) (_:St 0 s2.heap) (_:Fp X z z1 fp wr)
def LI (X:Cx) (tg e:Μ) (c:E):Prop:=∀ z,Rep X z→X.ev false c z.t≠.bad→Β X.M X.A (eval e X.env) (fun v s1=>Β X.M X.A (Ů v) (FI X z tg (X.ev false c z.t)) NoE s1) (Px X z (X.ev false c z.t)) z.s
theorem ny {ds:List α} {i:Nat} (h:ds[i]? = some d):ds.drop i=d :: ds.drop (i+1):=by
 obtain ⟨hi,rfl⟩:=τ.mp h
 exact ľ hi
inductive FoJ (X:Cx) (z z1:Z) (ds:List D) (St:Nat→Ϸ→Prop) (fp wr:List Nat) (o:av) (f:D→Sta→av) (n:Nat) (s:π):Prop
 | mk (i:Nat) (z':Z) (_:z'.s=s) (_:n=ds.length - i) (_:i≤ds.length) (_:Go X z z') (_:Rep X z') (_:St i s.heap) (_:Fp X z z' fp wr) (_:z1.ρ <+: z'.ρ) (_:Sub z1.G z'.G) (_:o=aR f (ds.drop i) z'.t)
theorem yu {t:List Nat} {one:Bool} (hc:X.calm=true) (hp:∀ z o,PassesOwn X.M X.A X.env (PxS X z o)) (hi:LI X tg iter it) (hg:LG X tg t one) (hb:LSs X body b) (hs:∀ x,Dr iter X.env x=pure x):LS X (.For tg iter body [] pos) (.for_ t one it b):=fun z I nb=>by
 let f:D→Sta→av:=fun d s=>match aH t one d s.env with | some env=>X.ex b ⟨env,s.ow.filter fun i=>!t.contains i,s.st⟩ | none=>.bad
 have e0:X.ex (.for_ t one it b) z.t=(X.ev false it z.t).go fun x s=>(match x with | .lst ds=>aR f ds s | _=>.bad):=rfl
 generalize X.ex (.for_ t one it b) z.t=o at e0 nb
 have nb0:X.ev false it z.t≠.bad:=fun q=>nb (by rw [e0,q];rfl)
 refine wpAny_For (Υ (hi z I nb0) (fun v s1 h1=>Υ h1 (fun itv s2 h2=>?_) fun _ _ w=>w.elim) fun u s' h=>?_) hs
 rotate_left
 ·rw [e0];exact .of .refl h
 obtain ⟨z1,ds,a,fp,wr,St,q1,q2,x1,I1,q3,T,st1,f1⟩:=h2
 subst q1 q3
 rw [q2] at e0
 have e0:o=aR f ds z1.t:=e0
 refine codeAny_forLoop_any (FoJ X z z1 ds St fp wr o f) ?_ (ds.length - 0) ⟨0,z1,rfl,rfl,Â _,x1.go,I1,st1,f1,ο _,.refl _,by rw [ĳ];exact e0⟩
 rintro n s3 ⟨i,z3,e3,en,hi,x3,I3,st3,f3,p3,g3,q⟩
 subst e3
 cases qd:ds[i]? with
 | none=>
   have hl:i=ds.length:=by rw [Ć] at qd;omega
   subst hl
   refine Ķ (hp z o) (Υ (T.done (I3.hd hc) st3) (fun r s4 ⟨er,os,k⟩=>?_) fun _ _ w=>w.elim)
   subst er
   obtain ⟨I4,x4,_⟩:=I3.turn x3.st (f3.wr T st3) k os
   rw [Ő] at q
   exact ķ (nxt (z1:=z3.up s4) ⟨x4,x3.ow⟩ I4 q)
 | some d=>
   have hil:i<ds.length:=(τ.mp qd).1
   rw [ny qd] at q
   have q:o=(f d z3.t).go fun s=>aR f (ds.drop (i+1)) s:=q
   refine Ķ (hp z o) (Υ (T.item (I3.hd hc) qd st3) (fun r s4 ⟨u,er,h4⟩=>?_) fun _ _ w=>w.elim)
   subst er
   refine Ķ (hp z o) (Υ h4 (fun _ s5 ⟨st5,os5,k5,rd5⟩=>?_) fun _ _ w=>w.elim)
   have hw:=f3.wr T st3
   obtain ⟨I5,x5',g5,n5⟩:=I3.turn x3.st hw k5 os5
   have x5:Go X z (z3.up s5):=⟨x5',x3.ow⟩
   have rd:=rd5 z3.ρ (z3.up s5).G p3 (g3.trans g5) fun a o e1 e2=>by rw [eQ e1];exact e2
   have f5:Fp X z (z3.up s5) fp wr:=f3.up I3 g5 k5 fun b m _=>T.ex _ _ st5 b m
   cases qb:aH t one d z3.t.env with
   | none=>exact ZX (show o = .bad by rw [q];show av.go (match aH t one d z3.t.env with | some env=>X.ex b ⟨env,z3.t.ow.filter fun i=>!t.contains i,z3.t.st⟩ | none=>.bad) _=_;rw [qb];rfl) nb
   | some env=>
     have q:o=(X.ex b ⟨env,z3.t.ow.filter fun i=>!t.contains i,z3.t.st⟩).go fun s=>aR f (ds.drop (i+1)) s:=by rw [q];show av.go (match aH t one d z3.t.env with | some env=>X.ex b ⟨env,z3.t.ow.filter fun i=>!t.contains i,z3.t.st⟩ | none=>.bad) _=_;rw [qb]
     refine Ķ (hp z o) (hg z (z3.up s5) d u env _ _ x5 I5 rd qb fun z6 x6 I6 eρ y6 et eσ _=>?_)
     rw [← show z6.t=(⟨env,z3.t.ow.filter fun i=>!t.contains i,z3.t.st⟩:Sta) from et] at q
     have nb6:X.ex b z6.t≠.bad:=fun w=>nb (by rw [q,w];rfl)
     refine Ķ (hp z o) (Υ (hb z6 I6 nb6) (fun fl s7 h7=>?_) fun u s' h=>?_)
     ·cases qx:X.ex b z6.t with
      | nx t7=>
        rw [qx] at h7 q
        obtain ⟨rfl,z7,e7,et7,x7,I7⟩:=h7
        subst e7 et7
        exact ⟨ds.length - (i+1),by omega,i+1,z7,rfl,rfl,hil,x6.trans x7,I7,T.keep _ _ _ st5 ((f5.keep (y6.trans x7) I5 I7)),f5.go (y6.trans x7),(p3.trans (eρ ▸ ο _:z3.ρ <+: z6.ρ)).trans x7.st.pr,(g3.trans g5).trans (y6.st.gg.trans x7.st.gg),q⟩
      | rt d7 t7=>
        rw [qx] at h7 q
        obtain ⟨u7,z7,rfl,r7⟩:=h7
        have:=Ps.less x6 (show Ps X z6 (.rt d7 t7) (.ret u7) s7 from ⟨u7,z7,rfl,r7⟩)
        show Ps X z o (.ret u7) s7
        rw [q];exact this
      | exc c l t7=>rw [qx] at h7;exact h7.elim
      | bad=>exact ZX qx nb6
     ·obtain ⟨z7,c,l,e7,qx,y7,J7,r7⟩:=h.less x6
      exact ⟨z7,c,l,e7,by rw [q,qx];rfl,y7,J7,r7⟩
end
theorem nin (n j k a:Nat) (h:j≠k) (ha:a<n):n+j ∉ [n+k,a]:=by simp;omega
theorem fV {h:Ϸ} (n:h.objs.size≤a):h.get? a=none:=Ϙ n
section
variable {W:Wd} {tg:Μ} {it:Δ} {fp wr:List Δ} {ds:List D} {ρ:Rs} {G:Hp} {St:Nat→Ϸ→Prop}
theorem Itr.walks {P:Nat→ζ→Prop} {A0:ϒ} (h0:A0.handled=none) {n:Nat} (hn:ds.length=n) (w:∀ A,A.handled=none→Walks W.P W.w A it fp wr n P St) (ex:∀ i h,St i h→∀ b∈wr,∃ o,h.get? b=some o) (go:∀ {A:ϒ} {s:π} {u:ζ} {Q:Unit→π→Prop} {E:ζ→π→Prop} {i:Nat},St i s.heap→Q () s→Β (model W.P W.w) A (Ŷ tg (.ref it) u) Q E s)
 (hP:∀ i v d,P i v→ds[i]? = some d→∀ ρ' G',ρ <+: ρ'→Sub G G'→RD W ρ' G' d v):Itr W tg it fp wr ds ρ G St where
 sub:=(w A0 h0).sub
 keep:=(w A0 h0).frame
 ex:=ex
 item:=fun {A i d s} h e st=>(w A h).item i s _ _ (hn ▸ (τ.mp e).1) st fun v h' tk p st' k=>⟨v,rfl,go (s:={ s with heap:=h',toks:=tk }) st' ⟨st',⟨rfl,rfl⟩,fun b o n q=>k b o n q,fun ρ' G' h1 h2 _=>hP i v d p e ρ' G' h1 h2⟩⟩
 done:=fun {A s} h st=>(w A h).done s _ _ (hn ▸ st) fun h' tk k=>⟨rfl,⟨rfl,rfl⟩,k⟩
 self:=fun {A i s Q E} h st q=>(w A h).self i s Q E st q
abbrev Exa (h:Ϸ) (T:Δ):Prop:=∀ o,h.get? T=some o→o.dict=none
theorem Itr.walksT {Pt:Nat→Array ζ→Prop} {Mid:Nat→Δ→Ϸ→Prop} {A0:ϒ} {elts:List Μ} {k:Nat} {pos:ϭ} (h0:A0.handled=none) {n:Nat} (hn:ds.length=n) (w:∀ A,A.handled=none→Ed W.P W.w A it fp wr n Pt St Mid) (ex:∀ i h,St i h→∀ b∈wr,∃ o,h.get? b=some o) (hm:∀ i T h,Mid i T h→Exa h T)
 (hP:∀ i vals d,Pt i vals→ds[i]? = some d→vals.size≤ϛ∧∃ l,d = .tup l∧∀ ρ' G',ρ <+: ρ'→Sub G G'→RDs W ρ' G' l vals.toList):Itr W (.Tuple elts k pos) it fp wr ds ρ G St where
 sub:=(w A0 h0).sub
 keep:=(w A0 h0).frame
 ex:=ex
 item:=fun {A i d s} h e st=>(w A h).item i s _ _ (hn ▸ (τ.mp e).1) st fun T vals h' tk p hT tup mid kk=>⟨.ref T,rfl,(w A h).go elts k pos i T { s with heap:=h',toks:=tk } _ _ mid fun h2 st2 k2=>⟨st2,⟨rfl,rfl⟩,fun b o n q=>k2 b o n (kk b o n q),fun ρ' G' h1 h3 h4=>by
  obtain ⟨hz,l,rfl,r⟩:=hP i vals d p e
  obtain ⟨o,e1,e2,n,e3⟩:=tup
  exact ⟨T,o,vals.toList,rfl,h4 T o (fV hT) (k2 T o ((w A h).apart i T h' mid) e1),⟨e2,⟨n,by simpa using e3⟩,(by simpa using hz),hm i T h' mid o e1⟩,r ρ' G' h1 h3⟩⟩⟩
 done:=fun {A s} h st=>(w A h).done s _ _ (hn ▸ st) fun h' tk k=>⟨rfl,⟨rfl,rfl⟩,k⟩
 self:=fun {A i s Q E} h st q=>(w A h).self i s Q E st q
theorem gX {prog:ϸ} {w:Ü} {A:ϒ} {it:Δ} {fp:List Δ} {n:Nat} {P:Nat→ζ→Prop} {St:Nat→Ϸ→Prop} (D:EX prog w A.in1 it fp n P St) (e:Δ) (hei:e≠it) (hef:e ∉ fp) (hif:it∈fp):Ed prog w A e (e :: fp) [e,it] n (fun i vals=>∃ t x,P i x∧vals = #[.int i t,x]) (fun i h=>(∃ old,IsEnum h e it i old)∧St i h) (fun i T h=>((∃ x,IsEnumOut h e it ((i:Int)+1) x T)∧St (i+1) h∧T≠e∧T≠it)∧Exa h T):=
 have V:=WalksT.enumerateD D e hei hef hif
 { sub:=V.sub,frame:=V.frame,done:=V.done,self:=V.self,go:=fun elts k pos i T s Q E m q=>V.go elts k pos i T s Q E m.1 q,apart:=fun i T h m=>V.apart i T h m.1,
   item:=fun i s Q E hi ⟨⟨old,he⟩,hs⟩ hQ=>wpAny_pyNext_enum_itemD D he hs hi hei hef fun x h' tk hP ho hs' hT hsz hk=>hQ s.heap.objs.size #[.int i tk,x] h' (tk+1) ⟨_,_,hP,rfl⟩ (ω _) ⟨_,hT,rfl,_,rfl⟩ ⟨⟨⟨_,ho⟩,hs',Ñ (Τ he),Ñ (let ⟨_,y⟩:=D.live _ _ hs;Τ y)⟩,fun o q=>(by rw [hT] at q;cases q;rfl)⟩ fun b o hb y=>hk b o (fun z=>hb (z ▸ ν)) (fun z=>hb (z ▸ μ _ ν)) y }
end
section
variable {X:Cx} {z z' z0 z1:Z} {tg:Μ}
theorem eV {s2:π} {o:Out D} {ds:List D} {it:Δ} {fp wr:List Δ} {St:Nat→Ϸ→Prop} (x:Ee X z z1) (I:Rep X z1) (g:Gr z1.s s2) (T:Itr X.W tg it fp wr ds z1.ρ z1.G St) (st:St 0 s2.heap) (hf:∀ b∈fp,(z1.h b=none∧∃ o,s2.heap.get? b=some o)∨(b ∉ wr∧∃ o,z1.G b=some o)) (e:o = .ok (.lst ds) z1.t):FI X z tg o (.ref it) s2:=
 ⟨{ z1 with s:=s2 },ds,it,fp,wr,St,rfl,e,x.trans (aq I.gh g).ee,I.grow (aq I.gh g),rfl,T,st,fun b hb=>(hf b hb).imp_left fun ⟨n,ex⟩=>⟨⟨x.st.no n,I.fre n⟩,ex⟩⟩
theorem rp (I:Rep X z) (e:z.G a=some o):a≠z.s.heap.objs.size:=ϝ (Τ (I.gh a o e))
theorem Cm (hc:X.calm=true) (ha:LE X e a):LI X tg e (.itv a):=fun z I nb=>(ha false).go (K:=fun v s1=>Β X.M X.A (Ů v) (FI X z tg (X.ev false (.itv a) z.t)) NoE s1) .refl I rfl nb fun z1 d u y x1 I1 r1 e1=>by
 have r:=r1.rd
 cases d with
 | lst l=>
   obtain ⟨p,o,vs,rfl,g,⟨⟨n,rfl⟩,hz⟩,r⟩:=r
   have ne:=rp I1 g
   refine Ġ (show z1.s.heap.IsList p vs.toArray from ⟨_,I1.gh _ _ g,rfl,n,rfl⟩) (eV (wr:=[z1.s.heap.objs.size]) x1 I1 (.push (t:=z1.s.toks)) (Itr.walks (I1.hd hc) (by simp [r.len]) (fun A hA=>EA hA _ p ne vs.toArray) (fun i h st b hb=>by rw [η.mp hb];obtain ⟨⟨o,e,_⟩,_⟩:=st;exact ⟨o,e⟩) (fun st q=>let ⟨⟨o,e,c,d⟩,_⟩:=st;ku e c d (by decide) q) fun i v d p1 p2 ρ' G' h1 h2=>?_) ⟨⟨_,χ _ rfl,rfl,rfl⟩,⟨_,ς _ (I1.gh _ _ g),rfl,n,rfl⟩⟩ (fun b hb=>?_) e1)
   ·obtain ⟨v',w1,w2⟩:=(r.mono h1 h2).get p2
    rw [show vs[i]? = some v by simpa using p1] at w1;cases w1;exact w2
   ·rcases ξ.mp hb with w | w
    ·rw [w];exact .inl ⟨aD z1,_,χ _ rfl⟩
    ·rw [η.mp w];exact .inr ⟨fun m=>ne (η.mp m),_,g⟩
 | tup l=>
   obtain ⟨p,o,vs,rfl,g,⟨tc,⟨n,td⟩,hz⟩,r⟩:=r
   have ne:=rp I1 g
   refine Ĕ (show z1.s.heap.IsTuple p vs.toArray from ⟨_,I1.gh _ _ g,tc,n,td⟩) (eV (wr:=[z1.s.heap.objs.size]) x1 I1 (.push (t:=z1.s.toks)) (Itr.walks (I1.hd hc) (by simp [r.len]) (fun A hA=>Walks.tuple hA _ p ne vs.toArray) (fun i h st b hb=>by rw [η.mp hb];obtain ⟨⟨o,e,_⟩,_⟩:=st;exact ⟨o,e⟩) (fun st q=>let ⟨⟨o,e,c,d⟩,_⟩:=st;ku e c d (by decide) q) fun i v d p1 p2 ρ' G' h1 h2=>?_) ⟨⟨_,χ _ rfl,rfl,rfl⟩,⟨_,ς _ (I1.gh _ _ g),tc,n,td⟩⟩ (fun b hb=>?_) e1)
   ·obtain ⟨v',w1,w2⟩:=(r.mono h1 h2).get p2
    rw [show vs[i]? = some v by simpa using p1] at w1;cases w1;exact w2
   ·rcases ξ.mp hb with w | w
    ·rw [w];exact .inl ⟨aD z1,_,χ _ rfl⟩
    ·rw [η.mp w];exact .inr ⟨fun m=>ne (η.mp m),_,g⟩
 | dic ks l=>
   obtain ⟨p,o,vs,rfl,hs,g,⟨es,ep,c1,c2,c3,c4,c5,hz⟩,hl,r⟩:=r
   have ne:=rp I1 g
   have dm:Heap.DictAt (bH X.W.P X.W.w) z1.s.heap p (ks.zip vs) ep:=⟨o,es,I1.gh _ _ g,c1,c2,c3,c4,c5⟩
   have lk:ks.length=vs.length:=hl.trans r.len
   have lz:(ks.zip vs).length=(ks.map ry).length:=by rw [É,Ι];omega
   refine wpAny_pyIter_dict hs dm (eV (ds:=ks.map ry) (wr:=[z1.s.heap.objs.size]) x1 I1 (.push (t:=z1.s.toks)) (Itr.walks (I1.hd hc) lz.symm (fun A hA=>Walks.dictKeys (knd:=bH X.W.P X.W.w) hA _ p ne (ks.zip vs) ep) (fun i h st b hb=>by rw [η.mp hb];obtain ⟨⟨o,e,_⟩,_⟩:=st;exact ⟨o,e⟩) (fun st q=>let ⟨⟨o,e,c,d⟩,_⟩:=st;ku e c d (by decide) q) fun i v d p1 p2 ρ' G' h1 h2=>?_) ⟨⟨_,χ _ rfl,rfl,rfl⟩,⟨o,es,ς _ (I1.gh _ _ g),c1,c2,c3,c4,c5⟩⟩ (fun b hb=>?_) e1)
   ·obtain ⟨k,u,w1,w2⟩:=p1
    have kk:ks[i]? = some k:=by
     have:=å.mp w1;exact this.1
    rw [Φ,kk] at p2
    cases p2
    rcases aE w2 with ⟨j,t,rfl,rfl⟩ | ⟨x,t,rfl,rfl⟩
    ·exact ⟨t,rfl⟩
    ·exact ⟨t,rfl⟩
   ·rcases ξ.mp hb with w | w
    ·rw [w];exact .inl ⟨aD z1,_,χ _ rfl⟩
    ·rw [η.mp w];exact .inr ⟨fun m=>ne (η.mp m),_,g⟩
 | str y=>
   obtain ⟨t,rfl⟩:=r
   have e1:X.ev false (.itv a) z.t=Out.of z1.t ((if y.cps.all (· < 128)=true then some (y.cps.toList.map fun c=>D.str ⟨#[c]⟩) else none).map D.lst):=e1
   by_cases hy:y.cps.all (· < 128)=true
   ·rw [ZZ hy] at e1
    refine wpAny_pyIter_ascii hy (eV (ds:=y.cps.toList.map fun c=>.str ⟨#[c]⟩) (wr:=[z1.s.heap.objs.size]) x1 I1 (.push (t:=z1.s.toks)) (Itr.walks (I1.hd hc) (by simp) (fun A hA=>Walks.strAscii hA _ y t) (fun i h st b hb=>by rw [η.mp hb];obtain ⟨o,e,_⟩:=st;exact ⟨o,e⟩) (fun st q=>let ⟨o,e,c,d⟩:=st;ku e c d (by decide) q) fun i v d p1 p2 ρ' G' h1 h2=>?_) ⟨_,χ _ rfl,rfl,rfl⟩ (fun b hb=>?_) e1)
    ·obtain ⟨c,u,w1,rfl⟩:=p1
     rw [Φ,Array.getElem?_toList,w1] at p2
     cases p2;exact ⟨u,rfl⟩
    ·rw [η.mp hb];exact .inl ⟨aD z1,_,χ _ rfl⟩
   ·rw [ZY hy] at e1;exact ZX e1 nb
 | _=>exact ZX e1 nb
theorem vv {a:Int}:(lj a n).length=n:=by simp [lj]
theorem sO {lo hi:Int} {t u v:Tok} {tk:Nat} {o:Out D} (hc:X.calm=true) (x:Ee X z z1) (I:Rep X z1) (h1:-(2 ^ 62)≤lo) (h2:lo<2 ^ 62) (h3:-(2 ^ 62)≤hi) (h4:hi<2 ^ 62) (e:o = .ok (.lst (lj lo (hi - lo).toNat)) z1.t):Β X.M X.A (Ů (.ref z1.s.heap.objs.size)) (FI X z tg o) NoE { z1.s with heap:=z1.s.heap.push { cls:=.type "range",data:=.fields #[.int lo t,.int hi u,.int 1 v] },toks:=tk }:=by
 refine wpAny_pyIter_range (IsRange.new ..) (small_one h1 h2 h3 h4) ?_
 have e2:(((hi - lo).toNat:Nat):Int) - ((0:Nat):Int)=GP lo hi 1:=by rw [rangeSize_one];split <;> omega
 have g0:Gr z1.s { z1.s with heap:=z1.s.heap.push { cls:=.type "range",data:=.fields #[.int lo t,.int hi u,.int 1 v] },toks:=tk }:=.push
 have I2:=I.grow (aq I.gh g0)
 refine eV (z1:={ z1 with s:={ z1.s with heap:=z1.s.heap.push { cls:=.type "range",data:=.fields #[.int lo t,.int hi u,.int 1 v] },toks:=tk } }) (ds:=lj lo (hi - lo).toNat) (x.trans (aq I.gh g0).ee) I2 (.push (t:=tk)) (Itr.walks (I.hd hc) vv (fun A hA=>Walks.range hA _ lo 1 (hi - lo).toNat) (fun i h st b hb=>by rw [η.mp hb];exact ⟨_,st⟩) (fun st q=>ku st rfl rfl (by decide) q) fun i v d p1 p2 ρ' G' _ _=>?_) ?_ (fun b hb=>?_) e
 ·obtain ⟨t,rfl⟩:=p1
  unfold lj at p2
  rw [Φ,ψ] at p2
  obtain ⟨j,p3,rfl⟩:=p2
  obtain ⟨hj,hj2⟩:=τ.mp p3
  rw [List.getElem_range] at hj2
  subst hj2
  exact ⟨t,by rw [Int.mul_one]⟩
 ·show IsRangeIter _ _ (lo+((0:Nat):Int) * 1) ((((hi - lo).toNat:Nat):Int) - ((0:Nat):Int)) 1
  rw [e2,show lo+((0:Nat):Int) * 1=lo by simp]
  exact χ _ rfl
 ·rw [η.mp hb];exact .inl ⟨aD { z1 with s:=_ },_,χ _ rfl⟩
theorem pQ (hc:X.calm=true) (hx:Blt X "range" (.type "range")) (ha:LE X ea a) (he:Η [ea] X.env=(false,eval ea X.env) :: Η [] X.env):LI X tg (.Call (.Name "range" p) [ea] [] pos) (.it .range1 (.cons a .nil)):=fun z I nb=>
 bb (Q:=fun v s1=>Β X.M X.A (Ů v) (FI X z tg (X.ev false (.it .range1 (.cons a .nil)) z.t)) NoE s1) (.inr ⟨_,rfl⟩) hx he rfl I (Λ ((ha false).go .refl I (ev1 fun l s=>Out.of s ((itD .range1 l).map D.lst)) nb fun z1 x u y1 x1 I1 r1 e1=>Ω (by
  cases x with
  | int j=>
    obtain ⟨t,rfl⟩:=r1.rd
    have e1:X.ev false (.it .range1 (.cons a .nil)) z.t=Out.of z1.t ((if -(2 ^ 62)≤j∧j<2 ^ 62 then some (lj 0 j.toNat) else none).map D.lst):=e1
    by_cases c:-(2 ^ 62)≤j∧j<2 ^ 62
    ·rw [ZZ c] at e1
     exact call_range_1 (sO hc x1 I1 (by omega) (by omega) c.1 c.2 (by rw [Int.sub_zero];exact e1))
    ·rw [ZY c] at e1;exact ZX e1 nb
  | _=>exact ZX e1 nb)))
theorem jc:∀ {l:List D} {i:Nat} {j:Int},(bA j l)[i]? = (l[i]?).map fun d=>.tup [.int (j+i),d]
 | [],_,_=>by unfold bA;simp
 | a :: r,0,j=>by unfold bA;simp
 | a :: r,i+1,j=>by
   unfold bA
   rw [Á,Á,jc]
   congr 1;funext d;congr 3;omega
theorem fR:∀ {l:List D} {j:Int},(bA j l).length=l.length
 | [],_=>by unfold bA;rfl
 | a :: r,j=>by unfold bA;rw [Κ,Κ,fR]
theorem uK {es:List Μ} {k:Nat} {tp:ϭ} (hc:X.calm=true) (hx:Blt X "enumerate" (.type "enumerate")) (ha:LE X ea a) (he:Η [ea] X.env=(false,eval ea X.env) :: Η [] X.env):LI X (.Tuple es k tp) (.Call (.Name "enumerate" p) [ea] [] pos) (.it .enum (.cons a .nil)):=fun z I nb=>
 bb (Q:=fun v s1=>Β X.M X.A (Ů v) (FI X z (.Tuple es k tp) (X.ev false (.it .enum (.cons a .nil)) z.t)) NoE s1) (.inr ⟨_,rfl⟩) hx he rfl I (Λ ((ha false).go .refl I (ev1 fun l s=>Out.of s ((itD .enum l).map D.lst)) nb fun z1 x u y1 x1 I1 r1 e1=>Ω (by
  cases x with
  | lst l=>
    obtain ⟨a0,o,vs,rfl,g,⟨⟨n,rfl⟩,hz⟩,r⟩:=r1.rd
    have hlt:=Τ (I1.gh _ _ g)
    refine call_enumerate_1 (I1.gh _ _ g) fun h' g1 g2 hsz kp=>Gb g1 (eV (ds:=bA 0 l) x1 I1 (s2:={ z1.s with heap:=h' }) (.hp (t:=z1.s.toks) kp) (Itr.walksT (I1.hd hc) (by rw [fR];simp [r.len]) (fun A hA=>gX (GJ (A:=A.in1) hA z1.s.heap.objs.size a0 (ϝ hlt) vs.toArray) (z1.s.heap.objs.size+1) (œ _) (nin _ 1 0 _ (by decide) hlt) ν) (fun i h st b hb=>?_) (fun _ _ _ m=>m.2) fun i vals d p1 p2=>?_) ⟨⟨_,g1⟩,g2,⟨_,kp _ _ (I1.gh _ _ g),rfl,n,rfl⟩⟩ (fun b hb=>?_) e1)
    ·obtain ⟨⟨old,e1⟩,⟨o2,e2,_⟩,_⟩:=st
     rcases ξ.mp hb with w | w
     ·rw [w];exact ⟨_,e1⟩
     ·rw [η.mp w];exact ⟨o2,e2⟩
    ·obtain ⟨t,v,p3,rfl⟩:=p1
     rw [jc,ψ] at p2
     obtain ⟨d',p4,rfl⟩:=p2
     refine ⟨by simp [Ċ],_,rfl,fun ρ' G' h1 h2=>?_⟩
     obtain ⟨v',w1,w2⟩:=(r.mono h1 h2).get p4
     rw [show vs[i]? = some v by simpa using p3] at w1;cases w1
     exact .cons ⟨t,by rw [Ek]⟩ (.cons w2 rfl)
    ·rcases ξ.mp hb with w | w
     ·rw [w];exact .inl ⟨fV (ê _),_,g1⟩
     ·rcases ξ.mp w with w | w
      ·obtain ⟨o2,e2,_⟩:=g2
       rw [w];exact .inl ⟨aD z1,_,e2⟩
      ·rw [η.mp w]
       refine .inr ⟨fun m=>?_,_,g⟩
       rcases ξ.mp m with q | q
       ·exact ϝ (CS hlt) q
       ·exact ϝ hlt (η.mp q)
  | _=>exact ZX e1 nb)))
end
def hU (env:CT):List (ι×Ζ)→List (ι×Δ)→List (ι×Δ)
 | [],cs=>cs
 | y :: r,cs=>hU env r (if (y.2 == Ø)=true then (match env.cells.lookup y.1 with | some a=>(y.1,a) :: cs | none=>cs) else cs)
theorem cD :∀ {l:List (ι×β)} {p:ι×β},p∈l→∃ c,l.lookup p.1=some c
 | [],_,h=>nomatch h
 | (a,b) :: r,p,h=>by
   cases e:p.1 == a with
   | true=>exact ⟨b,by simp only [Ğ,e]⟩
   | false=>
     rcases ξ.mp h with q | q
     ·subst q;simp at e
     ·obtain ⟨c,hc⟩:=cD q
      exact ⟨c,by simp only [Ğ,e];exact hc⟩
theorem kb :∀ {ns} {cs} {p:ι×Δ},p∈hU env ns cs→p∈cs∨env.cells.lookup p.1=some p.2
 | [],_,_,h=>.inl h
 | y :: r,cs,p,h=>by
   rcases kb (ns:=r) h with q | q
   ·by_cases hk:(y.2 == Ø)=true
    ·rw [ZZ hk] at q
     cases e:env.cells.lookup y.1 with
     | none=>rw [e] at q;exact .inl q
     | some a=>
       rw [e] at q
       rcases ξ.mp q with rfl | q
       ·exact .inr e
       ·exact .inl q
    ·rw [ZY hk] at q;exact .inl q
   ·exact .inr q
theorem iD :∀ {ns} {cs} {p:ι×Δ},p∈cs→p∈hU env ns cs
 | [],_,_,h=>h
 | y :: r,cs,p,h=>by
   refine iD (ns:=r) ?_
   by_cases hk:(y.2 == Ø)=true
   ·rw [ZZ hk]
    cases e:env.cells.lookup y.1 with
    | none=>exact h
    | some a=>exact μ _ h
   ·rw [ZY hk];exact h
theorem fN :∀ {ns} {cs} {y:ι×Ζ} {c},y∈ns→y.2 = .free→env.cells.lookup y.1=some c→(y.1,c)∈hU env ns cs
 | z :: r,cs,y,c,h,hf,hc=>by
   rcases ξ.mp h with rfl | h
   ·refine iD (ns:=r) ?_
    rw [ZZ (by rw [hf];rfl),hc]
    exact ν
   ·exact fN (ns:=r) h hf hc
theorem dG
 (hf:∀ y cs,f y cs=if (y.2 == Ø)=true then (do let a ← cellOf env y.1;pure (ϫ ((y.1,a) :: cs))) else pure (ϫ cs)) :
 ∀ (ns) (cs),(∀ y∈ns,y.2 = .free→∃ c,env.cells.lookup y.1=some c)→(forIn ns cs f:EB _)=pure (hU env ns cs)
 | [],cs,_=>rfl
 | y :: r,cs,h=>by
   rw [ī,hf]
   by_cases hk:(y.2 == Ø)=true
   ·obtain ⟨c,hc⟩:=h y ν (by simpa using hk)
    have e1:cellOf env y.1=pure c:=by unfold cellOf;rw [hc]
    rw [ZZ hk,e1]
    have ih:=dG hf r ((y.1,c) :: cs) fun z hz=>h z (μ _ hz)
    show (forIn r ((y.1,c) :: cs) f:EB _)=pure (hU env r _)
    rw [ih,ZZ hk,hc]
   ·have ih:=dG hf r cs fun z hz=>h z (μ _ hz)
    rw [ZY hk]
    show (forIn r cs f:EB _)=pure (hU env r _)
    rw [ih,ZY hk]
theorem lZ (h:∀ y∈sc.names,y.2 = .free→∃ c,env.cells.lookup y.1=some c):closureFor sc env=pure (hU env sc.names []):=by
 simp only [closureFor]
 rw [dG (env:=env) (fun y cs=>by obtain ⟨n,kd⟩:=y;by_cases hk:(kd == Ø)=true <;> simp [hk]) sc.names [] h]
 rfl
def cxC (X:Cx) (N:List ι) (sc:Ĝ) (C:Δ):Cx:={ X with N:=N,env:=compEnvC sc (hU X.env sc.names []) C X.env }
def iN (sc:Ĝ) (env:CT) (p:ι×ι):Bool:=match (relabel sc env).names.lookup p.1 with
 | some .local=>false
 | some .cell=>p.1 == p.2
 | some .free=>p.1 == p.2
 | _=>true
structure Lcn (X:Cx) (sc:Ĝ) (k:Nat) (N:List ι):Prop where
 nocell:∀ y∈sc.names,y.2≠.cell
 kind:sc.kind = .function
 names:∀ y∈sc.names,y.2 = .local→sc.names.lookup y.1=some .local
 fr:∀ y∈sc.names,y.2 = .free→X.env.kindOf y.1=some .cell∨X.env.kindOf y.1=some .free
 len:N.length=k+X.N.length
 old:((N.drop k).zip X.N).all (iN sc X.env)=true
theorem AF (h1:(sc.names.all fun y=>y.2 != .cell)=true) (h2:sc.kind = .function) (h3:(sc.names.all fun y=>y.2 != .local || sc.names.lookup y.1 == some .local)=true)
 (h4:(sc.names.all fun y=>y.2 != .free || (X.env.kindOf y.1 == some .cell || X.env.kindOf y.1 == some .free))=true) (h5:N.length=k+X.N.length) (h6:((N.drop k).zip X.N).all (iN sc X.env)=true):Lcn X sc k N where
 nocell:=fun y hy=>by have:=ϣ.mp h1 y hy;simpa using this
 kind:=h2
 names:=fun y hy hl=>by have:=ϣ.mp h3 y hy;simpa [hl] using this
 fr:=fun y hy hl=>by have:=ϣ.mp h4 y hy;simpa [hl] using this
 len:=h5
 old:=h6
section
variable {X:Cx} {sc:Ĝ} {k:Nat} {N:List ι} {z z' z0 z1:Z} {C:Δ}
theorem Lcn.cells (L:Lcn X sc k N) (ok:COk X):∀ y∈sc.names,y.2 = .free→∃ c,X.env.cells.lookup y.1=some c:=fun y hy hf=>ok.ch y.1 (L.fr y hy hf)
theorem kc (e:(hU X.env sc.names []).lookup x=some c):X.env.cells.lookup x=some c:=by
 rcases kb (Å e) with q | q
 ·exact nomatch q
 ·exact q
theorem cq (L:Lcn X sc k N) (e:(relabel sc X.env).names.lookup x=some kd) (hk:kd = .cell∨kd = .free):(x,Ø)∈sc.names:=by
 have hm:=Å e
 obtain ⟨⟨n,k'⟩,hy,q⟩:=Ϩ.mp hm
 dsimp only at q
 by_cases hc:(k' == Ø && X.env.scope.kind == .function && X.env.kindOf n == some .cell)=true
 ·rw [ZZ hc] at q
  have e1:n=x:=ZS Ŏ q
  have e2:k' = .free:=by simp at hc;exact hc.1.1
  subst e1 e2
  exact hy
 ·rw [ZY hc] at q
  have e1:n=x:=ZS Ŏ q
  have e2:k'=kd:=ZS Dz q
  subst e1 e2
  rcases hk with rfl | rfl
  ·exact ZX rfl (L.nocell _ hy)
  ·exact hy
theorem px (L:Lcn X sc k N) (hi:N[i]? = some x) (hk:k≤i) (v:Vis (relabel sc X.env) x):X.N[i - k]? = some x∧(x,Ø)∈sc.names:=by
 have hlt:i<N.length:=(τ.mp hi).1
 have hl:=L.len
 have h2:i - k<X.N.length:=by omega
 have e1:(N.drop k)[i - k]? = some x:=by rw [Ž];rw [show k+(i - k)=i by omega];exact hi
 have e2:X.N[i - k]? = some X.N[i - k]:=Α h2
 have hz:((N.drop k).zip X.N)[i - k]? = some (x,X.N[i - k]):=by rw [å];exact ⟨e1,e2⟩
 have ho:=ϣ.mp L.old _ (Ε hz)
 have v':(relabel sc X.env).names.lookup x=some .local∨(relabel sc X.env).names.lookup x=some .cell∨(relabel sc X.env).names.lookup x=some .free:=v
 unfold iN at ho
 rcases v' with q | q | q
 ·simp only [q] at ho;cases ho
 ·simp only [q] at ho
  have e3:x=X.N[i - k]:=by simpa using ho
  exact ⟨by rw [e2,← e3],cq L q (.inl rfl)⟩
 ·simp only [q] at ho
  have e3:x=X.N[i - k]:=by simpa using ho
  exact ⟨by rw [e2,← e3],cq L q (.inr rfl)⟩
theorem HR.cx (I:HR X z):HR (cxC X N sc C) z:=⟨I.md,I.fm,I.hd,I.bs,I.gh,I.rl,I.rn,I.rg,I.ob,I.fu,I.ff,I.br,I.os⟩
theorem HR.out (I:HR (cxC X N sc C) z):HR X z:=⟨I.md,I.fm,I.hd,I.bs,I.gh,I.rl,I.rn,I.rg,I.ob,I.fu,I.ff,I.br,I.os⟩
theorem wj (h:Lc (cxC X N sc C) a):a=C∨Lc X a:=h.imp_right fun ⟨x,e⟩=>.inr ⟨x,kc e⟩
theorem rH {s':π} {m:ι→Option ζ} (L:Lcn X sc k N) (I:Rep X z) (ow:z.t.ow = []) (g:Gr z.s s') (hC:z.h C=none) (hn:s'.heap.Ns C m):Rep (cxC X N sc C) ⟨z.ρ,z.G,⟨Θ k none ++ z.t.env,[],z.t.st⟩,Θ k none ++ z.σ,s'⟩:=by
 have H:=(I.toHR.grow (aq I.gh g)).cx (N:=N) (sc:=sc) (C:=C)
 have ck:∀ {c:Δ} {v:Option ζ},z.s.heap.IsCell c v→s'.heap.IsCell c v:=fun ⟨o,e,d⟩=>⟨o,g.k _ o e,d⟩
 have fC:=I.fre hC
 refine ⟨⟨H.md,H.fm,H.hd,H.bs,H.gh,H.rl,H.rn,H.rg,H.ob,H.fu,H.ff,H.br,H.os⟩,⟨I.ok.un,L.kind,I.ok.gl,I.ok.bl,fun x y c h1 h2=>I.ok.ci x y c (kc h1) (kc h2),fun x hx=>?_⟩,⟨m,hn,fun i x v h1 h2 h3=>?_⟩,fun x c e=>let ⟨v,q⟩:=I.ce x c (kc e);⟨v,ck q⟩,fun a l=>?_,by show (Θ k none ++ z.t.env).length=(Θ k none ++ z.σ).length;rw [φ,φ,I.el];simp,by show (Θ k none ++ z.σ).length=N.length;rw [φ,â,L.len,I.sl],fun i d _ e=>?_,(fun i m=>nomatch m),(fun i j a m=>nomatch m)⟩
 ·have hx':(relabel sc X.env).names.lookup x=some .cell∨(relabel sc X.env).names.lookup x=some .free:=hx
  have hm:(x,Ø)∈sc.names:=by
   rcases hx' with q | q
   ·exact cq L q (.inl rfl)
   ·exact cq L q (.inr rfl)
  obtain ⟨c,hc⟩:=L.cells I.ok _ hm rfl
  exact cD (fN hm rfl hc)
 ·have hki:k≤i:=by
   by_cases q:i<k
   ·rw [ϊ (by simpa using q),ð,ZZ q] at h2
    cases h2
   ·omega
  rw [Ρ (by simpa using hki),â] at h2
  obtain ⟨hx,hm⟩:=px L h1 hki h3
  have hkx:=L.fr _ hm rfl
  have hvis:Vis X.env.scope x:=by
   rcases hkx with q | q
   ·exact .inr (.inl q)
   ·exact .inr (.inr q)
  obtain ⟨m0,_,hl⟩:=I.lo
  rcases hl (i - k) x v hx h2 hvis with ⟨q,_⟩ | ⟨_,c,hc,hcell⟩
  ·rcases hkx with z | z
   ·rw [show X.env.kindOf x=some .cell from z] at q;cases q
   ·rw [show X.env.kindOf x=some .free from z] at q;cases q
  ·obtain ⟨c',hc'⟩:=cD (fN hm rfl hc)
   have e:=kc hc'
   rw [hc] at e;cases e
   refine .inr ⟨?_,c,hc',ck hcell⟩
   have v':(relabel sc X.env).names.lookup x=some .local∨(relabel sc X.env).names.lookup x=some .cell∨(relabel sc X.env).names.lookup x=some .free:=h3
   rcases v' with z | z | z
   ·exfalso
    have hlt:i<N.length:=(τ.mp h1).1
    have hl':=L.len
    have h2':i - k<X.N.length:=by omega
    have hz:((N.drop k).zip X.N)[i - k]? = some (x,X.N[i - k]):=by
     rw [å]
     exact ⟨by rw [Ž,show k+(i - k)=i by omega];exact h1,Α h2'⟩
    have ho:=ϣ.mp L.old _ (Ε hz)
    unfold iN at ho
    simp only [z] at ho
    cases ho
   ·exact .inl z
   ·exact .inr z
 ·rcases wj l with rfl | l
  ·exact ⟨fC.1.1,fC.1.2.1⟩
  ·exact I.fl a l
 ·have hki:k≤i:=by
   by_cases q:i<k
   ·have e:(Θ k none ++ z.t.env)[i]? = some (some d):=e
    rw [ϊ (by simpa using q),ð,ZZ q] at e
    cases e
   ·omega
  have e:(Θ k none ++ z.t.env)[i]? = some (some d):=e
  rw [Ρ (by simpa using hki),â] at e
  obtain ⟨u,e1,r⟩:=I.en (i - k) d (by rw [ow];exact nofun) e
  exact ⟨u,by show (Θ k none ++ z.σ)[i]? = _;rw [Ρ (by simpa using hki),â];exact e1,r⟩
theorem xO {zr:Z} (I:Rep X z) (Ir:Rep X zr) (er:zr.t.env=z.t.env∧zr.σ=z.σ∧zr.t.ow = []) (S:Stp X.fr (Own z) z z') (H:HR X z') (pr:zr.ρ <+: z'.ρ) (gg:Sub zr.G z'.G):Rep X { z' with t:=⟨z.t.env,[],z'.t.st⟩,σ:=z.σ }:=by
 have sl:∀ b o,z.h b=some o→¬ Mu z.ρ b→¬ Own z b→∃ sl,z'.s.heap.get? b=some { o with slots:=sl }:=fun b o e n w=>by
  by_cases f:b∈frs X.fr
  ·exact S.sl b o e n w f
  ·exact ⟨o.slots,S.sm b o e n w f⟩
 have nO:∀ {a},Lc X a→¬ Own z a:=fun l w=>(I.oth w).1.2.2.2 l
 have ck:∀ x c v,X.env.cells.lookup x=some c→z.s.heap.IsCell c v→z'.s.heap.IsCell c v:=fun x c v e ⟨o,q,d⟩=>by
  have l:Lc X c:=.inr ⟨x,e⟩
  obtain ⟨s,q2⟩:=sl c o q (I.fl c l).2 (nO l)
  exact ⟨_,q2,d⟩
 refine ⟨⟨H.md,H.fm,H.hd,H.bs,H.gh,H.rl,H.rn,H.rg,H.ob,H.fu,H.ff,H.br,H.os⟩,I.ok,?_,fun x c e=>let ⟨v,q⟩:=I.ce x c e;⟨v,ck x c v e q⟩,fun a l=>⟨?_,fun m=>(S.rn a m).elim (I.fl a l).2 fun w=>?_⟩,I.el,I.sl,fun i d _ e=>?_,(fun i m=>nomatch m),(fun i j a m=>nomatch m)⟩
 ·obtain ⟨m,⟨oL,es,ep,q,r⟩,hl⟩:=I.lo
  have l:Lc X X.env.locals:=.inl rfl
  obtain ⟨s,q2⟩:=sl _ _ q (I.fl _ l).2 (nO l)
  exact ⟨m,⟨_,es,ep,q2,r⟩,fun j x w e1 e2 e3=>cX (fun c v e q=>ck x c v e q) (hl j x w e1 e2 e3)⟩
 ·cases q:z'.G a with
  | none=>rfl
  | some o=>
    obtain ⟨o1,e1⟩:=I.lth l
    rcases S.gn a o q with w | w | w
    ·rw [(I.fl a l).1] at w;cases w
    ·rw [w] at e1;cases e1
    ·exact ZX w (nO l)
 ·obtain ⟨o1,e1⟩:=I.lth l
  rw [w] at e1;cases e1
 ·obtain ⟨u,e1,r⟩:=Ir.en i d (by rw [er.2.2];exact nofun) (by rw [er.1];exact e)
  exact ⟨u,er.2.1 ▸ e1,r.mono pr gg⟩
def LTs (Y:Cx) (ifs:List Μ) (c:E):Prop:=Jg Y (forIn ifs true fun c r=>if r=true then do let ok ← FZ c Y.env (eval c Y.env);pure (ϫ ok) else pure (ϫ r)) (fun t=>(Y.ev true c t).bind toB) RT
theorem uY:LTs X [] (.c (.bl true)):=fun z I nb=>wpAny_tests_nil ⟨z,true,rfl,rfl,.refl,I,rfl⟩
theorem uZ (h:LT X e c):LTs X [e] c:=fun z I nb=>wpAny_tests_one (h z I nb)
def lcF (X:Cx) (t:List Nat) (one:Bool) (elt cond:E) (d:D) (s':Sta):Out (Option D):=match aH t one d s'.env with
 | some env=>(noX (X.ev true cond ⟨env,[],s'.st⟩)).bind fun b s2=>(match b with
   | .bl true=>(noX (X.ev false elt s2)).bind fun e s3=>.ok (some e) ⟨s3.env,[],s3.st⟩
   | .bl false=>.ok none ⟨s2.env,[],s2.st⟩
   | _=>.bad)
 | none=>.bad
theorem Ee.nil (x:Ee X z z') (h:z.t.ow = []):z'.t.ow = []∧Stp X.fr (fun _=>False) z z':=⟨List.eq_nil_iff_forall_not_mem.mpr (fun i m=>by have:=x.ow i m;rw [h] at this;exact nomatch this),x.st.mono fun a ⟨i,m,_⟩=>by rw [h] at m;exact nomatch m⟩
theorem oS {t:Sta} (h:t.ow = []):(⟨t.env,[],t.st⟩:Sta)=t:=by cases t;cases h;rfl
end
section
variable {X:Cx} {sc:Ĝ} {N:List ι} {z z' z0 z1:Z}
structure LcP (X:Cx) (N:List ι) (ee tg iter:Μ) (ifs:List Μ) (sc:Ĝ) (t:List Nat) (one:Bool) (it elt cond:E):Prop where
 hc:X.calm=true
 L:Lcn X sc t.length N
 hi:LI X tg iter it
 hg:∀ C,LG (cxC X N sc C) tg t one
 hl:∀ i∈t,∀ x,N[i]? = some x→(relabel sc X.env).names.lookup x=some .local
 ht:∀ C,LTs (cxC X N sc C) ifs cond
 he:∀ C,LE (cxC X N sc C) ee elt
 hs:∀ x,Dr iter X.env x=pure x
inductive LcJ (X Y:Cx) (z zr:Z) (env:List (Option D)) (ds:List D) (St:Nat→Ϸ→Prop) (fp wr:List Nat) (a:Nat) (o:Out D) (f:D→Sta→Out (Option D)) (n:Nat) (s:π):Prop
 | mk (i:Nat) (z':Z) (acc:List D) (vs:List ζ) (ob:DQ) (_:z'.s=s) (_:n=ds.length - i) (_:i≤ds.length) (_:Stp X.fr (Own z) z z') (_:Rep Y z') (_:z'.t.ow = []) (_:St i z'.s.heap) (_:Fp Y z z' fp wr) (_:zr.ρ <+: z'.ρ) (_:Sub zr.G z'.G) (_:Nob Y z z' a) (_:z'.h a=some ob) (_:LsO ob vs) (_:RDs X.W z'.ρ z'.G acc vs) (_:o=(bt f (ds.drop i) acc z'.t).bind fun d s'=>.ok d ⟨env,[],s'.st⟩)
theorem rG {ee tg iter:Μ} {ifs:List Μ} {t:List Nat} {one:Bool} {it elt cond:E} {pos p:ϭ} {use:Option (ζ→EB Unit)} {Q:ζ→π→Prop} {E:ζ→π→Prop} {o:Out D} (P:LcP X N ee tg iter ifs sc t one it elt cond) (I:Rep X z) (e0:o=X.ev false (.lc t one it elt cond) z.t) (nb:o≠.bad) (hE:∀ u s',Px X z o u s'→E u s')
 (fin:∀ zf d D C m,Ee X z zf→Rep X zf→o = .ok d zf.t→FV X z zf d (.ref D)→Nob X z zf C→(∃ oC,zf.h C=some oC)→zf.s.heap.Ns C m→C≠D→compPost X.M X.A E use Q (.ref D) C (.ok .next) zf.s) :
 Β X.M X.A (comprehension (.ListComp ee [⟨tg,iter,ifs,0⟩] sc pos) sc X.env p (newList []) false (eval iter X.env) use) Q E z.s:=by
 have e0:o=(X.ev false it z.t).bind fun x s=>(match x with
  | .lst ds=>(bt (lcF X t one elt cond) ds [] ⟨Θ t.length none ++ s.env,[],s.st⟩).bind fun d s'=>.ok d ⟨s.env,[],s'.st⟩
  | _=>.bad):=e0
 have nb0:X.ev false it z.t≠.bad:=fun q=>nb (by rw [e0,q];rfl)
 refine wpAny_comprehension_free rfl P.hs (lZ (P.L.cells I.ok)) P.L.kind P.L.names (Υ (P.hi z I nb0) (fun v s1 h1=>Υ h1 (fun itv s2 h2=>?_) fun _ _ w=>w.elim) fun u s' h=>hE u s' (by rw [e0];exact h.map))
 obtain ⟨z1,ds,a,fp,wr,St,q1,q2,x1,I1,q3,T,st1,f1⟩:=h2
 subst q1 q3
 rw [q2] at e0
 have e0:o=(bt (lcF X t one elt cond) ds [] ⟨Θ t.length none ++ z1.t.env,[],z1.t.st⟩).bind fun d s'=>.ok d ⟨z1.t.env,[],s'.st⟩:=e0
 refine Ì (wpAny_newFunctionEnv P.L.nocell (by intro y hy;simp at hy) (fun h1 hns hsb=>?_) P.L.kind)
 dsimp only at hns hsb ⊢
 generalize hD:z1.s.heap.objs.size=D at hns hsb ⊢
 have nD:z1.h D=none:=hD ▸ aD z1
 generalize hG:z1.s.heap.push { cls:=.type "list",dict:=none,data:=.seq ([]:List ζ).toArray }=G1 at hns hsb ⊢
 have hC0:G1.objs.size=D+1:=by rw [← hG,ϴ,hD]
 generalize hC:G1.objs.size=C at hns hsb ⊢ hC0
 have CD:C≠D:=by rw [hC0];exact œ _
 have nC:z1.h C=none:=Ϙ (by rw [hC0,hD];exact ê _)
 have up:∀ b o,G1.get? b=some o→h1.get? b=some o:=fun b o e=>hsb.extBut b o (hC ▸ ϝ (Τ e)) (ς _ e)
 have kp:∀ b o,z1.s.heap.get? b=some o→h1.get? b=some o:=fun b o e=>up b o (hG ▸ ς _ e)
 have gr:Gr z1.s { z1.s with heap:=h1,toks:=z1.s.toks+([]:List (ι×ζ)).length }:=.hp kp
 have hDo:h1.get? D=some { cls:=.type "list",data:=.seq ([]:List ζ).toArray }:=up _ _ (hG ▸ hD ▸ χ _ rfl)
 obtain ⟨Ir,xr⟩:=I1.rel fun _=>false
 have owr:(z1.rel fun _=>false).t.ow = []:=Ē.mpr fun _ _=>by simp
 have I2:=rH (k:=t.length) P.L Ir owr (s':={ z1.s with heap:=h1,toks:=z1.s.toks+([]:List (ι×ζ)).length }) gr nC hns
 generalize hz2:(⟨(z1.rel fun _=>false).ρ,(z1.rel fun _=>false).G,⟨Θ t.length none ++ (z1.rel fun _=>false).t.env,[],(z1.rel fun _=>false).t.st⟩,Θ t.length none ++ (z1.rel fun _=>false).σ,{ z1.s with heap:=h1,toks:=z1.s.toks+([]:List (ι×ζ)).length }⟩:Z)=z2 at I2
 have xa:=x1.trans xr
 have fD:=Ir.fre (a:=D) nD
 have fC:=Ir.fre (a:=C) nC
 have zD:z.h D=none:=x1.st.no nD
 have zC:z.h C=none:=x1.st.no nC
 have S2:Stp X.fr (Own z) z z2:=by
  subst hz2
  exact ⟨xa.st.pr,xa.st.gg,xa.st.gn,xa.st.rn,fun b o e=>let ⟨o',e'⟩:=xa.st.th b o e;⟨o',kp b o' e'⟩,fun b o e n w f=>kp b o (xa.st.sm b o e n w f),fun b o e n w f=>let ⟨sl,e'⟩:=xa.st.sl b o e n w f;⟨sl,kp b _ e'⟩⟩
 have nLD:¬ Lc X D:=fD.1.2.2.2
 have nLC:¬ Lc X C:=fC.1.2.2.2
 have nob2:∀ {b},z.h b=none→(z1.rel fun _=>false).G b=none→¬ Mu z1.ρ b→b ∉ frs X.fr→¬ Lc X b→b≠C→Nob (cxC X N sc C) z z2 b:=fun h0 h1 h2 h3 h4 h5=>by
  subst hz2
  exact ⟨h0,⟨h1,h2,h3,fun l=>(wj l).elim h5 h4⟩,fun ⟨i,m,_⟩=>nomatch m⟩
 have nobD:Nob (cxC X N sc C) z z2 D:=nob2 zD fD.1.1 fD.1.2.1 fD.1.2.2.1 nLD (Ϡ CD)
 have fp1:∀ b∈fp,∃ o,z1.h b=some o:=fun b hb=>(f1 b hb).elim (·.2) fun ⟨_,o,e⟩=>⟨o,I1.gh b o e⟩
 have fpn:∀ b∈fp,b≠D∧b≠C:=fun b hb=>by
  obtain ⟨o,e⟩:=fp1 b hb
  exact ⟨fun w=>(by rw [w,nD] at e;cases e),fun w=>(by rw [w,nC] at e;cases e)⟩
 have f2:Fp (cxC X N sc C) z z2 fp wr:=fun b hb=>by
  obtain ⟨o1,e1⟩:=fp1 b hb
  rcases f1 b hb with ⟨⟨n0,ff,no⟩,_⟩ | ⟨m,o,e⟩
  ·exact .inl ⟨nob2 n0 ((c6 fun ⟨i,m,_,e⟩=>no ⟨i,m,e⟩).trans ff.1) ff.2.1 ff.2.2.1 ff.2.2.2 (fpn b hb).2,o1,by subst hz2;exact kp b o1 e1⟩
  ·exact .inr ⟨m,o,by subst hz2;exact xr.st.gg b o e⟩
 have pr2:(z1.rel fun _=>false).ρ <+: z2.ρ:=by subst hz2;exact ο _
 have gg2:Sub (z1.rel fun _=>false).G z2.G:=by subst hz2;exact .refl _
 have ow2:z2.t.ow = []:=by subst hz2;rfl
 have s2e:z2.s={ z1.s with heap:=h1,toks:=z1.s.toks+([]:List (ι×ζ)).length }:=by subst hz2;rfl
 have hD2:z2.h D=some { cls:=.type "list",data:=.seq ([]:List ζ).toArray }:=by show z2.s.heap.get? D=_;rw [s2e];exact hDo
 have st2:St 0 z2.s.heap:=by rw [s2e];exact T.keep _ _ _ st1 fun b _ o e=>kp b o e
 have e2:o=(bt (lcF X t one elt cond) ds [] z2.t).bind fun d s'=>.ok d ⟨z1.t.env,[],s'.st⟩:=by subst hz2;exact e0
 have uO:Ŀ X.M X.A (.compLoop (.ListComp ee [⟨tg,iter,ifs,0⟩] sc pos) 0 (.ref a) (.ref D) (cxC X N sc C).env) (compPost X.M X.A E use Q (.ref D) C) z2.s:=by
  refine codeAny_loop rfl (LcJ X (cxC X N sc C) z (z1.rel fun _=>false) z1.t.env ds St fp wr D o (lcF X t one elt cond)) (fun n s3 hI=>?_) (ds.length - 0) ⟨0,z2,[],[],_,rfl,rfl,Â _,S2,I2,ow2,st2,f2,pr2,gg2,nobD,hD2,⟨⟨_,rfl⟩,Â _⟩,rfl,by rw [ĳ];exact e2⟩
  obtain ⟨i,z3,acc,vs,ob,e3,en,hi,S3,I3,ow3,st3,f3,p3,g3,nD3,hD3,lo3,ra3,q⟩:=hI
  subst e3
  show Β X.M X.A ((compTurn (.ListComp ee [⟨tg,iter,ifs,0⟩] sc pos) 0 (.ref a) (.ref D) (cxC X N sc C).env).onRaise (fun x=>do Ń x (cxC X N sc C).env;theTreesLotGoes x)) _ _ z3.s
  refine wpAny_noted ?_
  rw [compTurn_list]
  refine ε (ã (ε ?_))
  cases qd:ds[i]? with
  | none=>
    have hl:i=ds.length:=by rw [Ć] at qd;omega
    subst hl
    refine Υ (T.done (I3.hd P.hc) st3) (fun r s4 ⟨er,os,k⟩=>?_) fun _ _ w=>w.elim
    subst er
    obtain ⟨I4,S4,g4,_⟩:=Rep.turn (X:=cxC X N sc C) S3 I3 (f3.wr T st3) k os
    rw [Ő] at q
    have nDw:D ∉ wr:=fun m=>(fpn D (T.sub D m)).1 rfl
    have If:=xO I Ir ⟨x1.en,x1.sg,owr⟩ S4 I4.toHR.out p3 (g3.trans g4)
    obtain ⟨m,hn,_⟩:=I4.lo
    obtain ⟨n0,ff,no⟩:=nD3
    have GD:(z3.up s4).G D=none:=by show (match z3.h D with | none=>s4.heap.get? D | some _=>z3.G D)=none;rw [hD3];exact ff.1
    refine θ (fin { z3.up s4 with t:=⟨z.t.env,[],z3.t.st⟩,σ:=z.σ } (.lst acc) D C m ⟨⟨S4.pr,S4.gg,S4.gn,S4.rn,S4.th,S4.sm,S4.sl⟩,rfl,rfl,fun i m=>nomatch m⟩ If (q.trans (by rw [x1.en];rfl)) ⟨D,.lst acc,rfl,zD,rfl,⟨ob,vs,rfl,k D ob nDw hD3,lo3,ra3.mono (ο _) g4⟩,⟨GD,ff.2.1,ff.2.2.1,nLD⟩,fun ⟨i,m,_⟩=>nomatch m⟩ ⟨zC,⟨(I4.fl C (.inl rfl)).1,(I4.fl C (.inl rfl)).2,fC.1.2.2.1,nLC⟩,fun ⟨i,m,_⟩=>nomatch m⟩ ?_ hn CD)
    obtain ⟨oC,_,_,eC,_⟩:=hn
    exact ⟨oC,eC⟩
  | some d=>
    have hil:i<ds.length:=(τ.mp qd).1
    rw [ny qd] at q
    have q:o=((lcF X t one elt cond d z3.t).bind fun o s'=>match o with
     | some e=>if acc.length<100000 then bt (lcF X t one elt cond) (ds.drop (i+1)) (acc ++ [e]) s' else .bad
     | none=>bt (lcF X t one elt cond) (ds.drop (i+1)) acc s').bind fun d s'=>.ok d ⟨z1.t.env,[],s'.st⟩:=q
    refine Υ (T.item (I3.hd P.hc) qd st3) (fun r s4 ⟨u,er,h4⟩=>?_) fun _ _ w=>w.elim
    subst er
    refine ε (Υ h4 (fun _ s5 ⟨st5,os5,k5,rd5⟩=>?_) fun _ _ w=>w.elim)
    obtain ⟨I5,S5,g5,n5⟩:=Rep.turn (X:=cxC X N sc C) S3 I3 (f3.wr T st3) k5 os5
    have rd:=rd5 z3.ρ (z3.up s5).G (xr.st.pr.trans p3) ((xr.st.gg.trans g3).trans g5) fun a o e1 e2=>by rw [eQ e1];exact e2
    have f5:=f3.up I3 g5 k5 fun b m _=>T.ex _ _ st5 b m
    have nDw:D ∉ wr:=fun m=>(fpn D (T.sub D m)).1 rfl
    have nD5:Nob (cxC X N sc C) z (z3.up s5) D:=⟨nD3.1,⟨by show (match z3.h D with | none=>s5.heap.get? D | some _=>z3.G D)=none;rw [hD3];exact nD3.2.1.1,nD3.2.1.2⟩,nD3.2.2⟩
    have hD5:(z3.up s5).h D=some ob:=k5 D ob nDw hD3
    cases qb:aH t one d z3.t.env with
    | none=>rw [show lcF X t one elt cond d z3.t = .bad by unfold lcF;rw [qb]] at q;exact ZX q nb
    | some env=>
      rw [show lcF X t one elt cond d z3.t=(noX (X.ev true cond ⟨env,[],z3.t.st⟩)).bind fun b s2=>(match b with
       | .bl true=>(noX (X.ev false elt s2)).bind fun e s3=>.ok (some e) ⟨s3.env,[],s3.st⟩
       | .bl false=>.ok none ⟨s2.env,[],s2.st⟩
       | _=>.bad) by unfold lcF;rw [qb];all_goals rfl] at q
      refine ε (P.hg C (z3.up s5) (z3.up s5) d u env _ _ .refl I5 rd qb fun z6 _ I6 eρ y6 et eσ ek=>?_)
      have k6:=ek P.hl
      have ow6:z6.t.ow = []:=by rw [et];show z3.t.ow.filter _ = [];rw [ow3];rfl
      have t6:z6.t=⟨env,[],z3.t.st⟩:=by rw [et];show (⟨env,z3.t.ow.filter _,z3.t.st⟩:Sta)=_;rw [ow3];rfl
      have S56:Stp X.fr (fun b=>b=C) (z3.up s5) z6:=⟨y6.st.pr,y6.st.gg,fun b o e=>(by
       rcases y6.st.gn b o e with w | w | w
       ·exact .inl w
       ·exact .inr (.inl w)
       ·rcases w with ⟨j,m,_⟩ | l
        ·have:j∈z3.t.ow:=m
         rw [ow3] at this;exact nomatch this
        ·rw [(I6.fl b l).1] at e;cases e),y6.st.rn,y6.st.th,fun b o e _ w _=>k6 b o e w,fun b o e _ w _=>⟨o.slots,k6 b o e w⟩⟩
      have S6:Stp X.fr (Own z) z z6:=S5.trans S56 fun b w=>.inr (by rw [w];exact zC)
      obtain ⟨nD6,hD6⟩:=nD5.go y6 hD5
      have f6:=f5.go y6
      have st6:St (i+1) z6.s.heap:=T.keep _ _ _ st5 (f5.keep y6 I5 I6)
      rw [← t6] at q
      have nb6:(X.ev true cond z6.t).bind toB≠.bad:=fun w=>nb (by
       rw [q]
       cases qc:X.ev true cond z6.t with
       | ok b s2=>
         rw [qc] at w
         cases b with
         | bl b=>cases w
         | _=>rfl
       | exc c l s2=>rfl
       | bad=>rfl)
      refine ε (Υ (P.ht C z6 I6 nb6) (fun b s7 ⟨z7,tb,e7,q7,x7,I7,r7⟩=>?_) fun u s' ⟨z7,c,l,e7,q7,_,_,_⟩=>?_)
      rotate_left
      ·refine ZX ?_ nb
       rw [q]
       have q7:(X.ev true cond z6.t).bind toB = .exc c l z7.t:=q7
       cases qc:X.ev true cond z6.t with
       | ok b s2=>rw [qc] at q7;cases b <;> cases q7
       | exc c l s2=>rfl
       | bad=>rw [qc] at q7;cases q7
      subst e7
      obtain ⟨ow7,S67⟩:=x7.nil ow6
      have S7:Stp X.fr (Own z) z z7:=S6.trans S67 fun _ w=>w.elim
      obtain ⟨nD7,hD7⟩:=nD6.go x7.go hD6
      have f7:=f6.go x7.go
      have st7:St (i+1) z7.s.heap:=T.keep _ _ _ st6 (f6.keep x7.go I6 I7)
      have qc:X.ev true cond z6.t = .ok (.bl tb) z7.t:=by
       have q7:(X.ev true cond z6.t).bind toB = .ok tb z7.t:=q7
       cases qc:X.ev true cond z6.t with
       | ok b s2=>rw [qc] at q7;cases b <;> first | (cases q7;rfl) | cases q7
       | exc c l s2=>rw [qc] at q7;cases q7
       | bad=>rw [qc] at q7;cases q7
      rw [qc] at q
      have p7:(z1.rel fun _=>false).ρ <+: z7.ρ:=p3.trans ((eρ ▸ ο _:z3.ρ <+: z6.ρ).trans x7.st.pr)
      have g37:Sub z3.G z7.G:=(g5.trans y6.st.gg).trans x7.st.gg
      cases (show b=tb from r7)
      cases b with
      | false=>
        have q:o=(bt (lcF X t one elt cond) (ds.drop (i+1)) acc ⟨z7.t.env,[],z7.t.st⟩).bind fun d s'=>.ok d ⟨z1.t.env,[],s'.st⟩:=q
        rw [oS ow7] at q
        exact θ ⟨rfl,ds.length - (i+1),by omega,i+1,z7,acc,vs,ob,rfl,rfl,hil,S7,I7,ow7,st7,f7,p7,g3.trans g37,nD7,hD7,lo3,ra3.mono ((eρ ▸ ο _:z3.ρ <+: z6.ρ).trans x7.st.pr) g37,q⟩
      | true=>
        have q:o=(((noX (X.ev false elt z7.t)).bind fun e s3=>Out.ok (some e) ⟨s3.env,[],s3.st⟩).bind fun o s'=>match o with
         | some e=>if acc.length<100000 then bt (lcF X t one elt cond) (ds.drop (i+1)) (acc ++ [e]) s' else .bad
         | none=>bt (lcF X t one elt cond) (ds.drop (i+1)) acc s').bind fun d s'=>.ok d ⟨z1.t.env,[],s'.st⟩:=q
        have nb7:X.ev false elt z7.t≠.bad:=fun w=>nb (by rw [q,w];rfl)
        refine ε (ε (Υ (P.he C false z7 I7 nb7) (fun v s8 ⟨z8,de,e8,q8,x8,I8,r8⟩=>?_) fun u s' ⟨z8,c,l,e8,q8,_,_,_⟩=>ZX (by rw [q,show X.ev false elt z7.t=_ from q8];rfl) nb))
        subst e8
        rw [show X.ev false elt z7.t=_ from q8] at q
        have q:o=(if acc.length<100000 then bt (lcF X t one elt cond) (ds.drop (i+1)) (acc ++ [de]) ⟨z8.t.env,[],z8.t.st⟩ else .bad).bind fun d s'=>.ok d ⟨z1.t.env,[],s'.st⟩:=q
        by_cases ca:acc.length<100000
        ·rw [ZZ ca] at q
         obtain ⟨ow8,S78⟩:=x8.nil ow7
         rw [oS ow8] at q
         have S8:Stp X.fr (Own z) z z8:=S7.trans S78 fun _ w=>w.elim
         obtain ⟨nD8,hD8⟩:=nD7.go x8.go hD7
         have f8:=f7.go x8.go
         have st8:St (i+1) z8.s.heap:=T.keep _ _ _ st7 (f7.keep x8.go I7 I8)
         obtain ⟨⟨n,rfl⟩,hz⟩:=lo3
         have ra8:=ra3.mono ((eρ ▸ ο _:z3.ρ <+: z6.ρ).trans (x7.st.pr.trans x8.st.pr)) (g37.trans x8.st.gg)
         have hl:vs.length<100000:=by rw [← ra8.len];exact ca
         refine ε (Ec ĺ ⟨_,hD8,rfl⟩ Dd (D6 _ _) (ES D vs.toArray n v (by rw [Ο];exact ą (á hl (big (ω _))))) ⟨hD8,?_⟩)
         obtain ⟨⟨o1,u1,u3⟩,u2⟩:=fG (f:=(·.push v)) (ws:=vs ++ [v]) hD8 (by simp) (by rw [φ];exact big (by simp;omega))
         have k9:∀ b o,b ∉ [D]→z8.h b=some o→(z8.s.heap.update D (û (·.push v))).get? b=some o:=fun b o m e=>(u2 b fun w=>m (by rw [w];exact η.mpr rfl)).trans e
         obtain ⟨I9,S9,g9,_⟩:=Rep.turn (X:=cxC X N sc C) (s':={ z8.s with heap:=z8.s.heap.update D (û (·.push v)) }) S8 I8 (fun b hb=>by rw [η.mp hb];exact ⟨nD8,_,hD8⟩) k9 ⟨rfl,rfl⟩
         refine θ (θ ⟨rfl,ds.length - (i+1),by omega,i+1,_,acc ++ [de],vs ++ [v],o1,rfl,rfl,hil,S9,I9,ow8,T.keep _ _ _ st8 fun b hb o e=>k9 b o (fun m=>(fpn b hb).1 (η.mp m)) e,f8.up I8 g9 k9 fun b m hb=>ZX (η.mp m) (fpn b hb).1,p7.trans x8.st.pr,((g3.trans g37).trans x8.st.gg).trans g9,⟨nD8.1,⟨?_,nD8.2.1.2⟩,nD8.2.2⟩,u1,u3,(ra8.mono (ο _) g9).app (.cons (r8.rd.mono (ο _) g9) rfl),q⟩)
         show (match z8.h D with | none=>_ | some _=>z8.G D)=none
         rw [hD8];exact nD8.2.1.1
        ·rw [ZY ca] at q;exact ZX q nb
 rw [← s2e]
 exact codeAny_compStart_list uO (T.self (I1.hd P.hc) st2 uO)
theorem rN {ee tg iter:Μ} {ifs:List Μ} {t:List Nat} {one:Bool} {it elt cond:E} {pos:ϭ} (P:LcP X N ee tg iter ifs sc t one it elt cond):LF X (.ListComp ee [⟨tg,iter,ifs,0⟩] sc pos) (.lc t one it elt cond):=fun z I nb=>by
 rw [eval_ListComp]
 refine rG P I rfl nb (fun _ _ h=>h) fun zf d D C m x If e fv nC exC hn CD=>⟨m,hn,fun h' sb=>?_⟩
 have k:∀ b o,b ∉ [C]→zf.h b=some o→h'.get? b=some o:=fun b o m e=>(sb.2 b fun w=>m (by rw [w];exact η.mpr rfl)).trans e
 obtain ⟨I4,S4,g4,_⟩:=Rep.turn (s':={ zf.s with heap:=h' }) x.st If (fun b hb=>by rw [η.mp hb];exact ⟨nC,exC⟩) k ⟨rfl,rfl⟩
 obtain ⟨a,ob,ea,n,t1,r,f,no⟩:=fv
 have ea:a=D:=(đ ea).symm
 subst ea
 obtain ⟨oa,ha⟩:=r.th.1
 refine ⟨zf.up { zf.s with heap:=h' },d,rfl,e,⟨S4,x.sg,x.en,x.ow⟩,I4,a,ob,rfl,n,t1,r.mono (ο _) g4 fun b hb o e=>k b o (fun m=>?_) e,⟨?_,f.2⟩,no⟩
 ·have:b=a:=by rcases hb with w | w <;> exact w
  exact CD ((η.mp m).symm.trans this)
 ·show (match zf.h a with | none=>h'.get? a | some _=>zf.G a)=none
  rw [ha];exact f.1
theorem AJ {ee tg iter:Μ} {ifs:List Μ} {t:List Nat} {one:Bool} {it elt cond:E} {pos:ϭ} (P:LcP X N ee tg iter ifs sc t one it elt cond):LE X (.ListComp ee [⟨tg,iter,ifs,0⟩] sc pos) (.lc t one it elt cond):=(rN P).le fun _=>rfl
theorem rV {ee tg iter:Μ} {ifs:List Μ} {t:List Nat} {one:Bool} {it elt cond:E} {pos pos' spos:ϭ} {i:Nat} {x:ι} (hN:X.N.Nodup) (hi:X.N[i]? = some x) (hx:Loc X.env.scope x) (P:LcP X N ee tg iter ifs sc t one it elt cond):LS X (.Assign [.Name x pos'] (.ListComp ee [⟨tg,iter,ifs,0⟩] sc pos) spos) (.set i (.lc t one it elt cond)):=fun z I nb=>by
 obtain ⟨b,sw⟩:∃ b,C7 (.ListComp ee [⟨tg,iter,ifs,0⟩] sc pos) (some (.Name x pos')) spos.line X.env=pure b:=⟨_,rfl⟩
 cases b with
 | false=>exact mC hN hi hx (AJ P) (fun _=>rN P) sw z I nb
 | true=>
   have nb1:X.ev false (.lc t one it elt cond) z.t≠.bad:=fun q=>nb (show Out.go (X.ev false (.lc t one it elt cond) z.t) _=_ by rw [q];rfl)
   rw [exec_Assign_Name_used _ _ _ _ sw]
   refine ε (ã (ε ?_))
   show Β _ X.A (do let _ ← comprehension (.ListComp ee [⟨tg,iter,ifs,0⟩] sc pos) sc X.env _ (newList []) false (eval iter X.env) (some (assign (.Name x pos') X.env))) _ _ z.s
   refine ε (thn (rG (use:=some (assign (.Name x pos') X.env)) (Q:=fun _ s'=>Ps X z (X.ex (.set i (.lc t one it elt cond)) z.t) .next s') P I rfl nb1 (fun u s' h=>PxS.of .refl h) fun zf d D C m x0 If e fv nC exC hn CD=>?_) fun _ s' hq=>θ (θ hq))
   show Β _ X.A (assign (.Name x pos') X.env (.ref D)) _ _ _
   refine Dj (cj (own:=true) x0.go If hN hi hx fv fun s' a sb la I' g'=>?_)
   have Ca:C≠a:=fun w=>nC.2.1.2.2.2 (w ▸ la.1)
   refine ⟨m,hn.sameBut sb Ca,fun h' sb'=>?_⟩
   have k:∀ b o,b ∉ [C]→s'.heap.get? b=some o→h'.get? b=some o:=fun b o m e=>(sb'.2 b fun w=>m (by rw [w];exact η.mpr rfl)).trans e
   obtain ⟨oC,eC⟩:=exC
   obtain ⟨I4,S4,g4,_⟩:=Rep.turn (z:={ zf with t:=stV zf.t i d true,σ:=zf.σ.set i (some (.ref D)),s:=s' }) (s':={ s' with heap:=h' }) g'.st I' (fun b hb=>by
    rw [η.mp hb]
    refine ⟨⟨nC.1,nC.2.1,fun ⟨j,mj,ej⟩=>?_⟩,oC,(sb.2 C Ca).trans eC⟩
    by_cases q:j=i
    ·subst q
     have hl:j<zf.σ.length:=by rw [If.sl];exact (τ.mp hi).1
     have ej:(zf.σ.set j (some (.ref D)))[j]? = some (some (.ref C)):=ej
     rw [Ϭ hl] at ej
     cases ej;exact CD rfl
    ·have ej:(zf.σ.set i (some (.ref D)))[j]? = some (some (.ref C)):=ej
     rw [Ψ (Ϡ q)] at ej
     have mj:j∈i :: zf.t.ow.filter (· != i):=mj
     rcases ξ.mp mj with w | w
     ·exact q w
     ·exact nC.2.2 ⟨j,(ϔ.mp w).1,ej⟩) k ⟨rfl,rfl⟩
   refine nxt (z1:=Z.up { zf with t:=stV zf.t i d true,σ:=zf.σ.set i (some (.ref D)),s:=s' } { s' with heap:=h' }) ⟨S4,g'.ow⟩ I4 ?_
   show Out.go (X.ev false (.lc t one it elt cond) z.t) _=_
   rw [e]
   show av.nx (mN zf.t i d true)=_
   have ld:xB d=true:=by
    obtain ⟨_,_,_,_,t,_⟩:=fv
    cases d <;> first | rfl | cases t
   unfold mN
   rw [ld];rfl
end
theorem rc {kp:List Nat} {env:List (Option D)} {i:Nat} {d:D}:(ra kp env)[i]? = some (some d)↔i ∉ kp∧env[i]? = some (some d):=by
 unfold ra
 rw [List.getElem?_mapIdx]
 by_cases c:i∈kp
 ·simp [c]
 ·simp [c]
theorem jn {kp:List Nat} {s:Sta} {i:Nat}:i∈(hid kp s).ow↔i∈s.ow∧i ∉ kp:=by
 unfold hid
 simp
section
variable {X:Cx} {z z':Z} {kp:List Nat}
theorem Rep.hid (I:Rep X z):Rep X { z with t:=L2.Ev.hid kp z.t }:=by
 refine ⟨⟨I.md,I.fm,I.hd,I.bs,I.gh,I.rl,I.rn,I.rg,I.ob,I.fu,I.ff,I.br,I.os⟩,I.ok,I.lo,I.ce,I.fl,?_,I.sl,fun i d n e=>?_,fun i m=>?_,fun i j a m1 m2 e1 e2=>I.od i j a (jn.mp m1).1 (jn.mp m2).1 e1 e2⟩
 ·show (ra kp z.t.env).length=_
  unfold ra
  rw [List.length_mapIdx];exact I.el
 ·obtain ⟨h1,h2⟩:=rc.mp e
  exact I.en i d (fun m=>n (jn.mpr ⟨m,h1⟩)) h2
 ·obtain ⟨m1,m2⟩:=jn.mp m
  obtain ⟨d,a,o,h1,h2,h3,h4,h5⟩:=I.eo i m1
  exact ⟨d,a,o,rc.mpr ⟨m2,h1⟩,h2,h3,h4,h5⟩
end
structure Wr (S ch:List Δ) (h h':Ϸ):Prop where
 keep:∀ b o,h.get? b=some o→b ∉ S→b ∉ ch→h'.get? b=some o
 slot:∀ b o,h.get? b=some o→b ∉ ch→∃ sl,h'.get? b=some { o with slots:=sl }
 there:∀ b o,h.get? b=some o→∃ o',h'.get? b=some o'
section
variable {S ch ch':List Δ} {h h1 h2 h':Ϸ}
theorem Wr.trans (x:Wr S ch h h1) (y:Wr S ch h1 h2):Wr S ch h h2:=
 ⟨fun b o e n m=>y.keep b o (x.keep b o e n m) n m,fun b o e m=>let ⟨_,e1⟩:=x.slot b o e m;let ⟨sl,e2⟩:=y.slot b _ e1 m;⟨sl,e2⟩,fun b o e=>let ⟨_,e1⟩:=x.there b o e;y.there b _ e1⟩
theorem Wr.mono (x:Wr S ch h h') (k:∀ b∈ch,b∈ch'):Wr S ch' h h':=⟨fun b o e n m=>x.keep b o e n fun z=>m (k b z),fun b o e m=>x.slot b o e fun z=>m (k b z),x.there⟩
theorem Wr.kept (k:∀ b o,h.get? b=some o→h'.get? b=some o):Wr S ch h h':=⟨fun b o e _ _=>k b o e,fun b o e _=>⟨o.slots,k b o e⟩,fun b o e=>⟨o,k b o e⟩⟩
theorem Wr.set (ho:h.get? a=some o) (hd:o.data = .fields vs) (g:Array ζ→Array ζ):Wr S [a] h (h.update a (Ħ g)):=by
 have ot:∀ b,b≠a→(h.update a (Ħ g)).get? b=h.get? b:=fun b n=>ϑ h _ fun z=>n z.symm
 have nm:∀ b,b ∉ [a]→b≠a:=fun b m z=>m (by rw [z];exact ν)
 refine ⟨fun b u e _ m=>by rw [ot b (nm b m)];exact e,fun b u e m=>⟨u.slots,by rw [ot b (nm b m)];exact e⟩,fun b u e=>?_⟩
 by_cases z:b=a
 ·subst z
  exact ⟨_,Ϧ _ ho (ÿ (ü hd g))⟩
 ·exact ⟨u,by rw [ot b z];exact e⟩
theorem Wr.slots (x:Heap.SlotsOnly S h h'):Wr S ch h h':=⟨fun b o e n _=>(x.2.1 b n).trans e,fun b o e _=>x.2.2 b o e,fun b o e=>let ⟨_,q⟩:=x.2.2 b o e;⟨_,q⟩⟩
end
theorem fP (g:Array ζ→Array ζ) (o):(Ħ g o).dict=o.dict:=by
 obtain ⟨c,d,dt,sl⟩:=o
 cases dt <;> rfl
section
variable {M:Ej} {A:ϒ} {E:ζ→π→Prop} {s:π} {a T L:Δ} {cls fl:ζ} {dx:Option Δ} {Q:Unit→π→Prop} {base:Ϸ} {env:CT} {outer:List CT} {S:List Δ}
theorem mO (t:Tr s.heap a cls dx T fl) (hQ:∀ h',Tr h' a cls dx T (fr.elim .none fun f=>Ö f)→Wr S [T] s.heap h'→Q () { s with heap:=h' }):Β M A (EN (.ref a) fr) Q E s:=by
 obtain ⟨oe,vs,oT,ts,he,hc,hd,h1,ne,hT,hdT,h3⟩:=t
 have z3:=(Ă.mp h3).1
 unfold EN
 refine ε (Ϛ he hd h1 ?_)
 rw [ZZ (show (Ϥ T != ϗ)=true by simp)]
 refine ğ hT hdT z3 (hQ _ ?_ (Wr.set hT hdT _))
 have dT:=ü hdT (·.setIfInBounds 3 (fr.elim ϗ fun f=>Ö f))
 exact ⟨oe,vs,_,_,(ϑ _ _ ne).trans he,hc,hd,h1,ne,Ϧ _ hT (ÿ dT),dT,by simp [z3]⟩
theorem entry (hfr:A.frames=some (env :: outer)) (hl:s.heap.FunFrames base (env :: outer)) (hf:env.frame=some L) (he:s.heap.get? a=some oe) (hd:oe.data = .fields vs) (hz:1<vs.size)
 (hQ:∀ h' T,s.heap.get? T=none→Tr h' a oe.cls oe.dict T (Ö L)→Wr (frs (env :: outer)) [a] s.heap h'→Q () { s with heap:=h' }) :
 Β M A (do let x ← frameOf env;let pl ← entryPlaceOf L hn;let b ← DL head x .none (Ö L) .none pl;setField (.ref a) 1 b) Q E s:=by
 have na:a ∉ (env :: outer).filterMap (·.frame):=fun m=>by
  obtain ⟨_,o,ho,nf⟩:=hl.mem m
  rw [he] at ho
  cases ho
  exact nf vs hd
 refine ε (wpAny_frameOf_fun hfr hl hf fun g hg=>ε (wpAny_entryPlaceOf fun pl hp=>?_))
 unfold DL newFields;refine ε (Ì ?_ (IsPlace.sizeOk5 hp _ _ _ _ _))
 have ea:g.get? a=some oe:=(hg.2.1 a na).trans he
 generalize hu:([head,Ϥ L,ϗ,Ö L,ϗ] ++ (if pl.isEmpty then Θ 6 ϗ else pl)).toArray=us
 have u3:us[3]? = some (Ö L):=by rw [← hu];rfl
 have ea2:=ς (h:=g) { cls:=.type "traceback",dict:=none,data:=.fields us } ea
 have nT:g.objs.size≠a:=Ñ (Τ ea)
 refine ğ ea2 hd hz (hQ _ g.objs.size ?_ ?_ ?_)
 ·rw [hg.1];exact Ϙ (ω _)
 ·have da:=ü hd (·.setIfInBounds 1 (Ϥ g.objs.size))
  exact ⟨_,_,_,us,Ϧ _ ea2 (ÿ da),⟨CP _ _,fP _ _⟩,da,by simp [hz],nT,(ϑ _ _ (Ϡ nT)).trans (χ g rfl),rfl,u3⟩
 ·exact (Wr.slots (ch:=[a]) hg).trans ((Wr.kept fun b o e=>ς _ e).trans (Wr.set ea2 hd _))
theorem sy (hfr:A.frames=some (env :: outer)) (hl:s.heap.FunFrames base (env :: outer)) (hf:env.frame=some L) (x:Rw s.heap a cls dx)
 (hQ:∀ h' T,s.heap.get? T=none→Tr h' a cls dx T (Ö L)→Wr (frs (env :: outer)) [a] s.heap h'→Q () { s with heap:=h' }):Β M A (Ń (.ref a) env) Q E s:=by
 obtain ⟨oe,vs,he,⟨rfl,rfl⟩,hd,h1⟩:=x
 unfold Ń
 simp only [hf]
 refine ε (Ϛ he hd h1 ?_)
 rw [ZY (by decide)]
 exact entry hfr hl hf he hd (Ă.mp h1).1 hQ
theorem pU (hfr:A.frames=some (env :: outer)) (hl:s.heap.FunFrames base (env :: outer)) (hf:env.frame=some L) (x:Tr s.heap a cls dx T .none)
 (hQ:∀ h' T',s.heap.get? T'=none→Tr h' a cls dx T' (Ö L)→Wr (frs (env :: outer)) [a,T] s.heap h'→Q () { s with heap:=h' }):Β M A (Ń (.ref a) env) Q E s:=by
 obtain ⟨oe,vs,oT,ts,he,⟨rfl,rfl⟩,hd,h1,ne,hT,hdT,h3⟩:=x
 unfold Ń
 simp only [hf]
 refine ε (Ϛ he hd h1 ?_)
 rw [ZZ (show (Ϥ T != ϗ)=true by simp)]
 refine ε (Ϛ hT hdT h3 ?_)
 rw [ZY (show ¬ ((ϗ == Ö L)=true) by simp [Ö])]
 refine ε (ğ hT hdT (Ă.mp h3).1 ?_)
 have w1:Wr (frs (env :: outer)) [T] s.heap _:=Wr.set hT hdT (·.setIfInBounds 3 ϗ)
 refine entry hfr (hl.of_keeps fun b o e nf=>⟨o,?_,rfl⟩) hf ((ϑ _ _ ne).trans he) hd (Ă.mp h1).1 fun h' T' n t w=>hQ h' T' ?_ t ((w1.mono (by simp)).trans (w.mono (by simp)))
 ·refine (ϑ _ _ fun z=>?_).trans e
  subst z
  rw [hT] at e
  cases e
  exact nf ts hdT
 ·cases q:s.heap.get? T' with
  | none=>rfl
  | some o=>
    obtain ⟨o',e'⟩:=w1.there T' o q
    rw [n] at e'
    cases e'
theorem pT (hf:env.frame=some L) (x:Tr s.heap a cls dx T (Ö L)) (hQ:Q () s):Β M A (Ń (.ref a) env) Q E s:=by
 obtain ⟨oe,vs,oT,ts,he,⟨rfl,rfl⟩,hd,h1,ne,hT,hdT,h3⟩:=x
 unfold Ń
 simp only [hf]
 refine ε (Ϛ he hd h1 ?_)
 rw [ZZ (show (Ϥ T != ϗ)=true by simp)]
 refine ε (Ϛ hT hdT h3 ?_)
 rw [ZZ (show (Ö L == Ö L)=true by simp)]
 exact θ hQ
end
section
variable {X:Cx} {z z' z0 z1:Z} {M:Ej} {w:Δ→Prop}
theorem qX {h h':Ϸ}:∀ {l:List CT},h.FunFrames base l→(∀ b∈frs l,∀ o,h.get? b=some o→∃ sl,h'.get? b=some { o with slots:=sl })→h'.FunFrames base l
 | [],_,_=>trivial
 | v :: r,⟨a,⟨L,o,e1,e2,e3,e4⟩,q⟩,k=>by
   have hm:L∈frs (v :: r):=by unfold frs;rw [ύ,e1];exact ν
   obtain ⟨sl,e5⟩:=k L hm o e3
   exact ⟨a,⟨L,_,e1,e2,e5,e4⟩,qX q fun b hb=>k b (by unfold frs;rw [ύ,e1];exact μ _ hb)⟩
theorem Rep.wr {h':Ϸ} {ch:List Δ} {t:Nat} (I:Rep X z) (y:Wr (frs X.fr) ch z.s.heap h') (hc:∀ b∈ch,Fre X z b∧¬ Own z b):Rep X { z with s:={ z.s with heap:=h',toks:=t } }:=by
 have nG:∀ {b o},z.G b=some o→z.h b=some o→h'.get? b=some o:=fun e e'=>y.keep _ _ e' (fun m=>by rw [(I.ff _ m).1] at e;cases e) fun m=>by rw [(hc _ m).1.1] at e;cases e
 have sl:∀ b,Lc X b→∀ o,z.s.heap.get? b=some o→∃ sl,h'.get? b=some { o with slots:=sl }:=fun b l o e=>y.slot b o e fun m=>(hc b m).1.2.2.2 l
 have ck:∀ x c v,X.env.cells.lookup x=some c→z.s.heap.IsCell c v→h'.IsCell c v:=fun x c v e ⟨o,q,d⟩=>let ⟨_,q2⟩:=sl c (.inr ⟨x,e⟩) o q;⟨_,q2,d⟩
 refine ⟨⟨I.md,I.fm,I.hd,I.bs,fun b o e=>nG e (I.gh b o e),I.rl,I.rn,I.rg,fun n o p h1 h2=>(I.ob n o p h1 h2).mono (ο _) (.refl _) fun b hb o e=>?_,qX I.fu fun b hb o e=>y.slot b o e fun m=>(hc b m).1.2.2.1 hb,I.ff,I.br,I.os⟩,I.ok,?_,fun x c e=>let ⟨v,q⟩:=I.ce x c e;⟨v,ck x c v e q⟩,I.fl,I.el,I.sl,I.en,fun i m=>?_,I.od⟩
 ·have mu:Mu z.ρ b:=⟨p,Ε h2,hb⟩
  exact y.keep b o e (fun m=>(I.ff b m).2 mu) fun m=>(hc b m).1.2.1 mu
 ·obtain ⟨m,⟨oL,es,ep,q,r⟩,hl⟩:=I.lo
  obtain ⟨_,q2⟩:=sl _ (.inl rfl) _ q
  exact ⟨m,⟨_,es,ep,q2,r⟩,fun j x w e1 e2 e3=>cX (fun c v e q=>ck x c v e q) (hl j x w e1 e2 e3)⟩
 ·obtain ⟨d,a,o,h1,h2,h3,r,f⟩:=I.eo i m
  exact ⟨d,a,o,h1,h2,h3,r.mono (ο _) (.refl _) fun b hb o e=>y.keep b o e (by rcases hb with rfl | rfl <;> exact f.2.2.1) fun mm=>(hc b mm).2 (by rcases hb with rfl | rfl <;> exact ⟨i,m,h2⟩),f⟩
theorem Stp.wr {h':Ϸ} {ch:List Δ} {t:Nat} (x:Stp fr w z0 z) (y:Wr (frs fr) ch z.s.heap h') (hc:∀ b∈ch,z0.h b=none):Stp fr w z0 { z with s:={ z.s with heap:=h',toks:=t } }:=by
 have nc:∀ {b o},z0.h b=some o→b ∉ ch:=fun e m=>by rw [hc _ m] at e;cases e
 refine ⟨x.pr,x.gg,x.gn,x.rn,fun a o e=>let ⟨o',e'⟩:=x.th a o e;y.there a o' e',fun a o e n m f=>y.keep a o (x.sm a o e n m f) f (nc e),fun a o e n m f=>?_⟩
 obtain ⟨sl,e1⟩:=x.sl a o e n m f
 obtain ⟨sl2,e2⟩:=y.slot a _ e1 (nc e)
 exact ⟨sl2,e2⟩
structure lQ (X:Cx):Prop where
 fr:∃ outer,X.fr=X.env :: outer
 frame:X.env.frame=some X.env.locals
inductive XN (X:Cx) (w:Δ→Prop) (z z':Z) (c:Nat) (l:List D) (e:ζ) (fl:ζ):Prop
 | mk (a:_) (T:_) (cls:_) (dx:_) (_:e = .ref a) (_:Stp X.fr w z z') (_:Rep X z') (_:XR X.W z' c l cls dx) (_:Nob X z z' a) (_:Tr z'.s.heap a cls dx T fl) (_:Nob X z z' T)
theorem XN.wr {h':Ϸ} {ch:List Δ} {a T:Δ} {fl:ζ} (x:Stp X.fr w z z') (I:Rep X z') (r:XR X.W z' c l cls dx) (na:Nob X z z' a) (nT:Nob X z z' T) (y:Wr (frs X.fr) ch z'.s.heap h') (hc:∀ b∈ch,Nob X z z' b) (t:Tr h' a cls dx T fl):XN X w z { z' with s:={ z'.s with heap:=h' } } c l (.ref a) fl:=
 ⟨a,T,cls,dx,rfl,x.wr (t:=z'.s.toks) y fun b hb=>(hc b hb).1,I.wr (t:=z'.s.toks) y fun b hb=>(hc b hb).2,r,na,t,nT⟩
theorem j0 {Q:Unit→π→Prop} {E:ζ→π→Prop} (F:lQ X) (x:Stp X.fr w z z') (I:Rep X z') (h:XO X z z' c l e) (hQ:∀ h',XN X w z { z' with s:={ z'.s with heap:=h' } } c l e (Ö X.env.locals)→Q () { z'.s with heap:=h' }):Β M X.A (Ń e X.env) Q E z'.s:=by
 obtain ⟨outer,hfr⟩:=F.fr
 have fm:=I.fm
 have fu:=I.fu
 rw [hfr] at fm fu
 obtain ⟨a,cls,dx,rfl,r,na,t⟩:=h
 have new:∀ T,z'.h T=none→Nob X z z' T:=fun T n=>⟨x.no n,I.fre n⟩
 rcases t with t | ⟨T,fl,t,hfl,nT⟩
 ·refine sy fm fu F.frame t fun h' T n t' y=>hQ h' (.wr x I r na (new T n) (by rw [hfr];exact y) (fun b hb=>?_) t')
  rw [η.mp hb];exact na
 ·rcases hfl with rfl | rfl
  ·refine pU fm fu F.frame t fun h' T' n t' y=>hQ h' (.wr x I r na (new T' n) (by rw [hfr];exact y) (fun b hb=>?_) t')
   rcases ξ.mp hb with q | q
   ·rw [q];exact na
   ·rw [η.mp q];exact nT
  ·exact pT F.frame t (hQ z'.s.heap ⟨a,T,cls,dx,rfl,x,I,r,na,t,nT⟩)
theorem b8 {fl:ζ} {fr:Option Δ} {Q:Unit→π→Prop} {E:ζ→π→Prop} {A:ϒ} (h:XN X w z z' c l e fl) (hQ:∀ h',XN X w z { z' with s:={ z'.s with heap:=h' } } c l e (fr.elim .none fun f=>Ö f)→Q () { z'.s with heap:=h' }):Β M A (EN e fr) Q E z'.s:=by
 obtain ⟨a,T,cls,dx,rfl,x,I,r,na,t,nT⟩:=h
 exact mO (S:=frs X.fr) t fun h' t' y=>hQ h' (.wr x I r na nT y (fun b hb=>by rw [η.mp hb];exact nT) t')
theorem vt (F:lQ X):PassesOwn M X.A X.env (PxS X z o):=fun e s' ⟨z',c,l,q,q2,x,I,h⟩=>by
 subst q
 unfold notedBy
 refine j0 F x.st I h fun h' hn=>?_
 obtain ⟨a,T,cls,dx,e1,_,_,_,_,t,_⟩:=id hn
 subst e1
 unfold cameBackBy
 obtain ⟨oe,vs,oT,ts,he,hc,hd,h1,r⟩:=id t
 refine ε (Ϛ he hd h1 ?_)
 rw [ZY (show ¬ ((Ϥ T == ϗ)=true) by simp),F.frame]
 refine b8 (z':={ z' with s:={ z'.s with heap:=h' } }) (fr:=some X.env.locals) hn fun h2 hn2=>?_
 obtain ⟨a',T',cls',dx',e1,x2,I2,r2,na2,t2,nT2⟩:=hn2
 exact ⟨{ z' with s:={ z'.s with heap:=h2 } },c,l,rfl,q2,⟨x2,x.ow⟩,I2,a',cls',dx',e1,r2,na2,.inr ⟨T',_,t2,.inr rfl,nT2⟩⟩
theorem pY {E:ζ→π→Prop} {Q:ζ→π→Prop} (F:lQ X) (h:PxS X z o e s') (q:∀ z' c l a T cls dx,o = .exc c l z'.t→e = .ref a→Stp X.fr (Pv X z) z z'→Rep X z'→XR X.W z' c l cls dx→Nob X z z' a→Tr z'.s.heap a cls dx T .none→Nob X z z' T→Q e z'.s):Β M X.A (leaving X.env e) (fun _ s''=>Q e s'') E s':=by
 obtain ⟨z',c,l,e1,q2,x,I,h⟩:=h
 subst e1
 unfold leaving
 refine ε (j0 F x.st I h fun h' hn=>b8 (z':={ z' with s:={ z'.s with heap:=h' } }) (fr:=none) hn fun h2 hn2=>?_)
 obtain ⟨a,T,cls,dx,e1,x2,I2,r2,na2,t2,nT2⟩:=hn2
 exact q { z' with s:={ z'.s with heap:=h2 } } c l a T cls dx q2 e1 x2 I2 r2 na2 t2 nT2
end
def cxF (X:Cx) (cal cal1:Nat→List D→List O→Res) (N:List ι) (qual:ι) (scope:Ĝ) (f:Δ) (cd:ζ) (A:ϒ) (fr:List CT) (L:Δ):Cx:=
 { X with A:=A.deeper (ů qual scope L f cd),fr:=ů qual scope L f cd :: fr,N:=N,env:=ů qual scope L f cd,cal:=cal,cal1:=cal1 }
section
variable {X:Cx} {cal cal1:Nat→List D→List O→Res} {N ps:List ι} {qual:ι} {scope:Ĝ} {f:Δ} {cd:ζ} {A:ϒ} {fr:List CT} {z z':Z} {k:Nat}
theorem p9 {α β:Type} {ds:List α} {n i:Nat} {d:α} (h:(ds.map some ++ Θ n none)[i]? = some (some d)):ds[i]? = some d:=by
 by_cases hi:i<ds.length
 ·rw [ϊ (by simpa using hi),Φ] at h
  cases e:ds[i]? with
  | none=>rw [e] at h;cases h
  | some a=>rw [e] at h;cases h;rfl
 ·rw [Ρ (by simpa using hi),ð] at h
  split at h <;> cases h
theorem eh {α:Type} {ds:List α} {n i:Nat} {d:α} (h:ds[i]? = some d):(ds.map some ++ Θ n none)[i]? = some (some d):=by
 have hi:=(τ.mp h).1
 rw [ϊ (by simpa using hi),Φ,h];rfl
theorem mQ {es:List (Option D)} {n i:Nat} {d:D} (h:(es ++ Θ n none)[i]? = some (some d)):es[i]? = some (some d):=by
 by_cases hi:i<es.length
 ·rwa [ϊ hi] at h
 ·rw [Ρ (by omega),ð] at h
  split at h <;> cases h
theorem iR {s1:π} {es:List (Option D)} {us:List ζ} (S:dg N ps scope) (I:HR { X with A:=A,fr:=fr } z) (hr:ba (k+1) A) (hl:us.length=ps.length) (le:es.length=us.length) (r:∀ (i:Nat) (d:D),es[i]? = some (some d)→∃ v,us[i]? = some v∧RD X.W z.ρ z.G d v)
 (x:InCallC z.s z.s.heap.objs.size (EP (ů qual scope z.s.heap.objs.size f cd).kindOf (ps.zip us) fun _=>none) (EO (z.s.heap.objs.size+1) scope.names []) (ER (ů qual scope z.s.heap.objs.size f cd).kindOf (ps.zip us) fun _=>none) s1) :
 Rep (cxF X cal cal1 N qual scope f cd A fr z.s.heap.objs.size) ⟨z.ρ,z.G,⟨es ++ Θ (N.length - ps.length) none,[],z.t.st⟩,us.map some ++ Θ (N.length - ps.length) none,s1⟩:=by
 have hpl:ps.length≤N.length:=by have:=ZS Eo S.pre;rw [CW] at this;omega
 obtain ⟨h1,tk,rfl,hk⟩:=x.done
 have a9:∀ {c:Δ},z.s.heap.objs.size≤c→z.G c=none∧¬ Mu z.ρ c:=fun {c} h=>by
  have n:z.h c=none:=Ϙ h
  refine ⟨?_,fun m=>by obtain ⟨o,e⟩:=I.th m;rw [n] at e;cases e⟩
  cases q:z.G c with
  | none=>rfl
  | some o=>have:=I.gh c o q;rw [n] at this;cases this
 have lcf:∀ {a},Lc (cxF X cal cal1 N qual scope f cd A fr z.s.heap.objs.size) a→z.s.heap.objs.size≤a:=fun h=>by
  rcases h with rfl | ⟨y,e⟩
  ·exact ω _
  ·exact ą (x.above y _ (Å e))
 have bn:X.base.get? z.s.heap.objs.size=none:=by
  cases q:X.base.get? z.s.heap.objs.size with
  | none=>rfl
  | some o=>have:=I.gh _ o (I.bs _ o q);rw [show z.h z.s.heap.objs.size=none from Ϙ (ω _)] at this;cases this
 obtain ⟨oL,esL,epL,hoL,hdL,_⟩:=id x.toInCall.ns
 have gr:Gr z.s { z.s with heap:=h1,toks:=tk }:=.hp hk
 have G:=I.grow (aq I.gh gr)
 refine ⟨⟨I.md,Around.frames_deeper I.fm,I.hd,I.bs,G.gh,I.rl,I.rn,I.rg,G.ob,?_,fun b hb=>?_,I.br,I.os⟩,⟨by have:=(hr.deeper (ů qual scope z.s.heap.objs.size f cd)).un;show (A.deeper _).units+200<_;omega,S.kind,rfl,rfl,fun y w c e1 e2=>name_of_addr x.apart (Å e1) (Å e2),fun y hy=>?_⟩,⟨_,x.toInCall.ns,fun i y v e1 e2 e3=>?_⟩,fun y c h=>⟨_,x.cell y c h⟩,fun a l=>a9 (lcf l),by show (es ++ _).length=(us.map some ++ _).length;simp [le],by show (us.map some ++ _).length=N.length;rw [φ,Ι,â];omega,fun i d _ e=>?_,(fun i m=>nomatch m),(fun i j a m=>nomatch m)⟩
 ·have kd:(ů qual scope z.s.heap.objs.size f cd).scope.kind≠ScopeKind.module:=by show scope.kind≠_;rw [S.kind];decide
  exact ⟨kd,⟨_,oL,rfl,bn,hoL,fun vs e=>by rw [hdL] at e;cases e⟩,G.fu⟩
 ·rcases ξ.mp (show b∈z.s.heap.objs.size :: frs fr from hb) with q | q
  ·rw [q];exact a9 (ω _)
  ·exact I.ff b q
 ·have hy:scope.names.lookup y=some .cell∨scope.names.lookup y=some .free:=hy
  rcases hy with hy | hy
  ·exact j9 hy
  ·exact ZX rfl (S.nofree _ (Å hy))
 ·have hu:us[i]? = some v:=p9 (β:=Unit) e2
  have hi:i<ps.length:=by rw [← hl];exact (τ.mp hu).1
  have hp:ps[i]? = some y:=by
   rw [← S.pre,List.getElem?_take_of_lt (by omega)];exact e1
  have ndP:ps.Nodup:=by rw [← S.pre];exact S.nd.sublist (F6 _ _)
  rcases S.par y (Ε hp) with k | k
  ·exact .inl ⟨k,iA ndP hp hu k⟩
  ·obtain ⟨c,e⟩:=j9 (n:=z.s.heap.objs.size+1) k
   refine .inr ⟨.inl k,c,e,?_⟩
   have q:=x.cell y c e
   rw [iw ndP hp hu (by show scope.names.lookup y≠_;rw [k];decide)] at q
   exact q
 ·obtain ⟨v,e1,r1⟩:=r i d (mQ e)
  exact ⟨v,eh e1,r1⟩
theorem Ak {name:ι} {params:DM} {body:List Ô} {dV kV doc pm ct oc:ζ} {an od:Option Δ} {osl:Array (Option ζ)} {j:Nat} {c:S} (lk:X.K.lookup f=some ⟨oc,od,.func (ϵ name qual params body scope dV kV doc pm an cd ct),osl⟩) (hcd:Ý X.K cd qual=true) (S:dg N ps scope) {df:List D} {dvs:List ζ} (hj:X.Γ.fn[j]? = some ⟨ps.length,N.length,c,df⟩) (hdv:∀ ρ G,RDs X.W ρ G df dvs)
 (hb:∀ A fr L,ba k (A.deeper (ů qual scope L f cd))→LSs (cxF X cal cal1 N qual scope f cd A fr L) body c):FnC X (ll X.Γ cal cal1) (k+1) j f (ϵ name qual params body scope dV kV doc pm an cd ct) ps dvs:=by
 have run:∀ ds st,ll X.Γ cal cal1 j ds st=if (ds ++ df).length=ps.length then (match exS X.Γ cal cal1 c ⟨(ds ++ df).map some ++ Θ (N.length - ps.length) none,[],st⟩ with
  | .nx s=>.ok .non s.st
  | .rt d s=>.ok d s.st
  | .exc c l s=>.exc c l s.st
  | .bad=>.bad) else .bad:=fun ds st=>by unfold ll;rw [hj];all_goals rfl
 refine ⟨fun ds st nb=>?_,fun A fr z args us ds hr I hbd r nb=>?_⟩
 ·by_cases q:(ds ++ df).length=ps.length
  ·rw [← (hdv [] fun _=>none).len,← φ];exact q
  ·rw [run,ZY q] at nb;exact ZX rfl nb
 by_cases hl:(ds ++ df).length=ps.length
 rotate_left
 ·rw [run,ZY hl] at nb;exact ZX rfl nb
 rw [run,ZZ hl] at nb ⊢
 have r:=r.app (hdv z.ρ z.G)
 generalize ds ++ df=ds at r hl nb ⊢
 generalize us ++ dvs=us at r hbd
 have KX:X.K.In z.s.heap:=I.kin
 have lim:z.s.heap.NoLimit:=I.md.nolimit.keeps (Rep.bk I)
 have hkind:∀ y∈ps.zip us,scope.names.lookup y.1=some .local∨(scope.names.lookup y.1=some .cell∧((EO (z.s.heap.objs.size+1) scope.names []).lookup y.1).isSome=true):=fun ⟨n,v⟩ hy=>by
  rcases S.par n (Ī hy).1 with q | q
  ·exact .inl q
  ·exact .inr ⟨q,ŋ _ _ _ (.inl q)⟩
 refine Fg hr.depth (KX _ _ lk) rfl S.co S.gen rfl (Eg KX hcd) (hbd _ _ _ _ ?_)
 refine E8 S.kind hkind fun env he s1 x=>?_
 subst he
 refine ⟨lim.keeps x.toInCall.keep,codeAny_func ?_⟩
 have J:=iR (es:=ds.map some) (cal:=cal) (cal1:=cal1) S I hr (r.len ▸ hl) (by rw [Ι];exact r.len) (fun i d e=>r.get (by rw [Φ,ψ] at e;obtain ⟨_,e1,e2⟩:=e;cases e2;exact e1)) x
 have hk:∀ b o,z.h b=some o→s1.heap.get? b=some o:=x.toInCall.keep
 have F:lQ (cxF X cal cal1 N qual scope f cd A fr z.s.heap.objs.size):=⟨⟨fr,rfl⟩,rfl⟩
 have lcf:∀ {a o},z.h a=some o→¬ Lc (cxF X cal cal1 N qual scope f cd A fr z.s.heap.objs.size) a:=fun {a o} e h=>by
  have:z.s.heap.objs.size≤a:=by
   rcases h with rfl | ⟨y,e⟩
   ·exact ω _
   ·exact ą (x.above y _ (Å e))
  exact ZX (Τ e) (C3.mpr this)
 have nofr:∀ {a o},z.h a=some o→a ∉ frs fr→a ∉ frs (ů qual scope z.s.heap.objs.size f cd :: fr):=fun {a o} e n m=>by
  rcases ξ.mp (show a∈z.s.heap.objs.size :: frs fr from m) with q | q
  ·exact ZX (Τ e) (by rw [q];exact ħ _)
  ·exact n q
 have none1:∀ {a},s1.heap.get? a=none→z.h a=none:=fun {a} n=>by
  cases q:z.h a with
  | none=>rfl
  | some o=>rw [hk a o q] at n;cases n
 have back:∀ {z'},Stp (ů qual scope z.s.heap.objs.size f cd :: fr) (Pv (cxF X cal cal1 N qual scope f cd A fr z.s.heap.objs.size) ⟨z.ρ,z.G,⟨ds.map some ++ Θ (N.length - ps.length) none,[],z.t.st⟩,us.map some ++ Θ (N.length - ps.length) none,s1⟩) ⟨z.ρ,z.G,⟨ds.map some ++ Θ (N.length - ps.length) none,[],z.t.st⟩,us.map some ++ Θ (N.length - ps.length) none,s1⟩ z'→Rep (cxF X cal cal1 N qual scope f cd A fr z.s.heap.objs.size) z'→Stp fr NoW z z'∧HR { X with A:=A,fr:=fr } z':=fun {z'} y K=>by
  have nw:∀ {a o},z.h a=some o→¬ Pv (cxF X cal cal1 N qual scope f cd A fr z.s.heap.objs.size) ⟨z.ρ,z.G,⟨ds.map some ++ Θ (N.length - ps.length) none,[],z.t.st⟩,us.map some ++ Θ (N.length - ps.length) none,s1⟩ a:=fun e w=>w.elim (fun ⟨i,m,_⟩=>nomatch m) (lcf e)
  refine ⟨⟨y.pr,y.gg,fun a o e=>?_,fun a m=>(y.rn a m).imp_right none1,fun a o e=>y.th a o (hk a o e),fun a o e n _ m=>y.sm a o (hk a o e) n (nw e) (nofr e m),fun a o e n _ m=>y.sl a o (hk a o e) n (nw e) (μ _ m)⟩,⟨K.md,I.fm,I.hd,K.bs,K.gh,K.rl,K.rn,K.rg,K.ob,K.fu.2.2,fun b m=>K.ff b (μ _ m),K.br,K.os⟩⟩
  rcases y.gn a o e with q | q | q
  ·exact .inl q
  ·exact .inr (.inl (none1 q))
  ·rcases q with ⟨i,m,_⟩ | l
   ·exact nomatch m
   ·rw [(K.fl a l).1] at e;cases e
 have nb2:(cxF X cal cal1 N qual scope f cd A fr z.s.heap.objs.size).ex c ⟨ds.map some ++ Θ (N.length - ps.length) none,[],z.t.st⟩≠.bad:=fun q=>nb (by rw [show exS X.Γ cal cal1 c ⟨ds.map some ++ Θ (N.length - ps.length) none,[],z.t.st⟩ = .bad from q])
 refine Υ (hb A fr z.s.heap.objs.size (hr.deeper _) _ J nb2) (fun fl s' hs=>?_) fun e s' hs=>pY (Q:=fun e s''=>CRs { X with A:=A,fr:=fr } z _ (.error e) s'') F hs fun z' c' l a T cls dx q e1 y K xr na t nT=>?_
 ·cases q:exS X.Γ cal cal1 c ⟨ds.map some ++ Θ (N.length - ps.length) none,[],z.t.st⟩ with
  | nx t=>
    rw [show (cxF X cal cal1 N qual scope f cd A fr z.s.heap.objs.size).ex c _ = .nx t from q] at hs
    obtain ⟨rfl,z',e1,e2,y,K⟩:=hs
    subst e1 e2
    obtain ⟨b1,b2⟩:=back y.st K
    exact ⟨z',.non,rfl,rfl,b1,b2,rfl⟩
  | rt d t=>
    rw [show (cxF X cal cal1 N qual scope f cd A fr z.s.heap.objs.size).ex c _ = .rt d t from q] at hs
    obtain ⟨u,z',rfl,e1,e2,y,K,rd⟩:=hs
    subst e1
    obtain ⟨b1,b2⟩:=back y.st K
    exact ⟨z',d,rfl,by rw [e2],b1,b2,rd⟩
  | exc c' l t=>rw [show (cxF X cal cal1 N qual scope f cd A fr z.s.heap.objs.size).ex c _ = .exc c' l t from q] at hs;exact hs.elim
  | bad=>exact ZX q nb2
 ·obtain ⟨b1,b2⟩:=back y K
  have q:exS X.Γ cal cal1 c ⟨ds.map some ++ Θ (N.length - ps.length) none,[],z.t.st⟩ = .exc c' l z'.t:=q
  rw [q]
  exact ⟨z',c',l,rfl,rfl,b1,b2,a,T,cls,dx,e1,xr,t,⟨none1 na.1,na.2.1.1,na.2.1.2.1⟩,none1 nT.1,nT.2.1.1,nT.2.1.2.1⟩
end
end L2.Ev
end
section
namespace L2.Ev
open PySem.W
section
variable {prog:ϸ} {w:Ü} {A:ϒ} {E:ζ→π→Prop} {K:Frag} {C a:Δ} {o:DQ} {od:Option DQ} {h:Ϸ} {g:Array GenState} {d:Drawn} {t:Nat} {os:F5}
theorem qG (Y:dF K C) (X:K.In h) (I:InstAt h a o C od) (hq:Q () ⟨h,g,d,t,os⟩):Β M A (Ũ "BaseException.__getattribute__" ⟨[.ref a,nameV],[]⟩) Q E ⟨h,g,d,t,os⟩:=by
 have k1:builtinKind "BaseException.__getattribute__" = some .slot:=by decide +kernel
 have k2:splitId "BaseException.__getattribute__" = some ("BaseException","__getattribute__"):=by decide +kernel
 have L:Looks M h (D4 (.ref a) (.type "BaseException")) true:=(I.type (M:=M)).andThen (looks_mroIn X Y.be)
 have ha:=F.args_bexc_ga (.ref a) nameV
 simp only [Ũ,k1,k2]
 refine ε (L.at ?_)
 repeat (any_goals (first | assumption | wp_step))
end
theorem xe {K:Frag} (e:(clsIn K C).isSome=true):∃ c' d' cd' sl',K.lookup C=some ⟨c',d',.cls cd',sl'⟩:=by
 unfold clsIn at e
 split at e
 ·rename_i q;exact ⟨_,_,_,_,q⟩
 ·cases e
structure mX (K:Frag) (B:Δ):Prop where
 ty:typeIn K (.ref B)=some (.type "type")
 is:(clsIn K B).isSome=true
 be:mroIn K B (.type "BaseException")=some true
theorem uj {K:Frag} {M:Ej} (X:K.In h) (e:(clsIn K C).isSome=true):Looks M h (isType (.ref C)) true:=by
 obtain ⟨c',d',cd',sl',hk⟩:=xe e
 intro A' Q' E' s' k q
 unfold isType;unfold loadHead
 exact ε (E9 (k _ _ (X _ _ hk)) (θ q))
theorem gC {K:Frag} {M:Ej} {A:ϒ} {E:ζ→π→Prop} {s:π} {a B C:Δ} {o:DQ} {Q:Bool→π→Prop} (X:K.In s.heap) (Y:mX K B) (he:s.heap.get? a=some o) (hc:o.cls = .ref C) {b:Bool} (hm:mroIn K C (.ref B)=some b) (hq:Q b s):Β M A (excMatches (.ref a) (.ref B)) Q E s:=by
 have L1:Looks M s.heap (D4 (.ref B) (.type "tuple")) false:=(looks_typeIn X Y.ty).andThen (Looks.of_pure tc_notTuple)
 have L2:=uj (M:=M) X Y.is
 have L3:=looks_mroIn (M:=M) X Y.be
 have L4:=looks_mroIn (M:=M) X hm
 obtain ⟨h,g,d,t,os⟩:=s
 unfold excMatches isExcClass
 refine ε (L1.at ?_)
 dsimp only
 rw [ZY ϟ]
 refine ε (θ ?_)
 rw [ī]
 refine ε (ε (ε (ε (L2.at ?_))))
 rw [ZZ rfl]
 refine L3.at ?_
 rw [ZY (show ¬ ((!true)=true) by decide)]
 refine θ ?_
 dsimp only
 rw [List.forIn_nil]
 refine θ ?_
 have T0:∀ {Q':ζ→π→Prop},Q' (.ref C) ⟨h,g,d,t,os⟩→Β M A (typeOf (.ref a)) Q' E ⟨h,g,d,t,os⟩:=fun {Q'} q'=>by
  repeat (first | (with_reducible refine ŗ he ?_;rw [hc]) | wp_step)
  exact q'
 refine ε (T0 ?_)
 rw [ī]
 refine ε (ε (ε (L4.at ?_)))
 cases b with
 | true=>rw [ZZ rfl];exact θ (θ (θ hq))
 | false=>
   rw [ZY ϟ]
   exact θ (θ (show Β M A (pure false) Q E _ from θ hq))
def gI (bmB:List ζ):List ζ→Bool
 | []=>false
 | v :: r=>(v :: r) == bmB || match v with | .ref _=>gI bmB r | _=>false
theorem cZ (hp:FY self "__setattr__" bmB=pure ()):∀ {l},gI bmB l=true→FY self "__setattr__" l=pure ()
 | [],e=>by cases e
 | v :: r,e=>by
   unfold gI at e
   rcases EL.mp e with z | z
   ·rw [beq_iff_eq.mp z];exact hp
   ·split at z
    ·rw [refuseLoop_ref];exact cZ hp z
    ·cases z
abbrev veB:List ζ:=[.type "ValueError",.type "Exception",.type "BaseException",.type "object"]
abbrev exB:List ζ:=[.type "Exception",.type "BaseException",.type "object"]
structure fJ (K:Frag) (C:Δ):Prop where
 sa:findIn K (.ref C) "__setattr__" = some (some (.builtin "object.__setattr__"))
 over:((clsIn K C).any fun cd=>gI veB cd.mro || gI exB cd.mro)=true
 hd:((clsIn K C).any fun cd=>cd.hasDict)=true
 ob:mroIn K C (.type "object")=some true
section
variable {prog:ϸ} {w:Ü} {A:ϒ} {E:ζ→π→Prop} {s:π} {K:Frag} {x C:Δ} {o:DQ} {vs:Array ζ} {mA:ι→Option ζ} {name:ι} {v:ζ} {ns:List ι}
theorem iI (hn:s.heap.Ns1 d mA) (hw:Within mA ns) (hz:ns.length<1000)
 (hq:∀ h',h'.Ns1 d (fun y=>if y=name then some v else mA y)→ú d s.heap h'→Q (.done (.ret .none)) { s with heap:=h',toks:=s.toks+1 }):Β M A (ő d (.str name tk) name v) Q E s:=by
 unfold ő Fm
 refine ε (θ (ε (wpAny_nsSet1 hn fun h' n' sb=>?_)))
 obtain ⟨od,es,ep,e1,e2,e3⟩:=n'.count (Within.cons name v hw)
 have few:es.size≤ϛ:=ϖ e3 (by rw [Κ,Ċ];omega)
 refine ε (Gv e1 (by rw [e2];exact Gz (ę few)) ?_)
 exact θ (hq h' n' sb)
theorem pI (X:K.In s.heap) (Z:fJ K C) (hf:findIn K (.ref C) name=some none) (hx:s.heap.get? x=some o) (hc:o.cls = .ref C) (hd:o.data = .fields vs)
 (hm:(o.dict=none∧∀ n,mA n=none)∨∃ d,o.dict=some d∧d≠x∧s.heap.Ns1 d mA) (hw:Within mA ns) (hz:ns.length<1000)
 (hq:∀ h' d t',h'.get? x=some { o with dict:=some d }→d≠x→h'.Ns1 d (fun y=>if y=name then some v else mA y)→(∀ b u,b≠x→b≠d→s.heap.get? b=some u→h'.get? b=some u) →
  (o.dict=some d∨(o.dict=none∧s.heap.get? d=none))→Q () { s with heap:=h',toks:=t' }):Β (model prog w) A (E0 (.ref x) name v) Q E s:=by
 obtain ⟨od,I⟩:∃ od,InstAt s.heap x o C od:=by
  rcases hm with ⟨z,_⟩ | ⟨d,z,_,od,_,_,e,_⟩
  ·exact ⟨none,hx,hc,by unfold notCls;rw [hd],by rw [z];trivial⟩
  ·exact ⟨some od,hx,hc,by unfold notCls;rw [hd],by rw [z];exact e⟩
 have SF:=PySem.F.store_ValueError
 obtain ⟨cd,hcd,hov⟩:=any_some Z.over
 obtain ⟨cd',hcd',hhd⟩:=any_some Z.hd
 rw [hcd] at hcd'
 cases hcd'
 refine set_plain X I Z.sa ?_
 obtain ⟨h,g,d,t,os⟩:=s
 have sub:Looks (model prog w) h (D4 (.ref x) (.type "object")) true:=I.type.andThen (looks_mroIn X Z.ob)
 refine í SF.slot.plain SF.entry (@check_slot (model prog w) _ _ ⟨h,g,d,t+1,os⟩ "object.__setattr__" "object" "__setattr__" (.ref x) [.str name t,v] [] _ SF.kind SF.split sub (SF.args (.ref x) (.str name t) v) ?_)
 have lm:Looks (model prog w) h (mroOf (.ref C)) cd.mro:=(looks_clsIn X hcd).andThen .now
 rw [osa_eq,refuse_eq]
 have l0:=I.type (M:=model prog w)
 have lf:=looks_findIn (M:=model prog w) X hf
 refine ε (ε (l0.at (ε (lm.at ?_))))
 rw [show FY (.ref x) "__setattr__" cd.mro=pure () from (EL.mp hov).elim (cZ (SF.passes _)) (cZ (PySem.F.store_Exception.passes _))]
 refine θ (ε (l0.at (ε (lf.at ?_))))
 refine ε (θ ?_)
 refine ε (θ ?_)
 have lc:=looks_clsIn (M:=model prog w) X hcd
 obtain ⟨oc,odi,oda,osl⟩:=o
 dsimp only at hc hd hm hx
 subst hc hd
 refine ε (ε (E9 hx (ε (lc.at ?_))))
 rw [hhd]
 rcases hm with ⟨rfl,hmA⟩ | ⟨dx,rfl,hne,hns⟩
 ·obtain rfl:mA=fun _=>none:=funext hmA
  have hxs:x≠h.objs.size:=ϝ (Τ hx)
  have hx1:=ς { cls:=.type "dict",data:=.dict #[] } hx
  refine ε (wpAny_alloc' (ε (wpAny_update' hx1 ?_)))
  have hg:((h.push { cls:=.type "dict",data:=.dict #[] }).update x fun o=>{ cls:=o.cls,dict:=some h.objs.size,data:=o.data,slots:=o.slots }).get? h.objs.size=some { cls:=.type "dict",data:=.dict #[] }:=
   (EJ _ _ _ _ (Ϡ hxs)).trans (Fc rfl rfl)
  have hn0:((h.push { cls:=.type "dict",data:=.dict #[] }).update x fun o=>{ cls:=o.cls,dict:=some h.objs.size,data:=o.data,slots:=o.slots }).Ns h.objs.size (fun _=>none):=
   ⟨_,#[],_,hg,rfl,fun e he=>ZX he (by simp),fun _=>rfl⟩
  refine θ (a:=some h.objs.size) ?_
  refine iI (Heap.Ns1.of_empty hn0) Within.nil (by decide) fun h' n' sb=>?_
  refine hq h' h.objs.size _ ?_ (Ϡ hxs) n' (fun b u h1 h2 e=>?_) (.inr ⟨rfl,Ϙ (ω _)⟩)
  ·refine (sb.2 x hxs).trans (Ϧ _ hx1 rfl)
  ·exact (sb.2 b h2).trans ((EJ _ _ _ _ h1).trans (ς _ e))
 ·refine θ (a:=some dx) ?_
  refine iI hns hw hz fun h' n' sb=>?_
  exact hq h' dx _ ((sb.2 x (Ϡ hne)).trans hx) hne n' (fun b u _ h2 e=>(sb.2 b h2).trans e) (.inl rfl)
theorem qP (Y:dF K C) (hh:hasDictIn K C=true) (X:K.In s.heap) (hf:findIn K (.ref C) name=some none) (hx:s.heap.get? x=some o) (hc:o.cls = .ref C) (hd:o.data = .fields vs) (hdi:o.dict=some d) (hn:s.heap.Ns1 d mA) (hv:mA name=some v) (hv':handedIn v=true)
 (hq:Q v { s with toks:=s.toks+1 }):Β (model prog w) A (Dq (.ref x) name expr) Q E s:=by
 obtain ⟨od,ho,hl⟩:=iK hn
 have I:InstAt s.heap x o C (some od):=⟨hx,hc,by unfold notCls;rw [hd],by rw [hdi];exact ho⟩
 have fo:findObj K C (some od) name=some (.value v):=findObj_own hh hf rfl (by rw [hl,hv])
 obtain ⟨h,g,dr,t,os⟩:=s
 have l0:=I.type (M:=model prog w)
 have l1:=looks_findIn (M:=model prog w) X Y.ga
 have l2:=looks_findIn (M:=model prog w) X Y.gn
 have l3:=looks_find (M:=model prog w) X I fo
 have G:=PySem.F.attrBase_ValueError.ga
 have b1:=G.bind (.ref x)
 unfold Dq getAttrBy
 refine ε (wpAny_mkText (ό (ε (l0.at (ε (l1.at ?_))))))
 show Β _ _ (GU _ _ _ _ _ _) _ _ _
 unfold GU
 refine ε (l2.at (ε (Eu (ό ?_))))
 unfold callGetattribute
 rw [show (expr && onTheHeap (FH "BaseException.__getattribute__"))=false from DD _,ZY ϟ]
 unfold boundAndCalled
 rw [b1]
 refine ε (θ ?_)
 refine ĉ (í G.plain F.entry_bexc_ga (qG Y X I ?_))
 refine ε (θ (ε (θ (ε (l0.at (ε (l3.at ?_)))))))
 exact θ (handed_on hv' hq)
end
structure gY (K:Frag) (C fI:Δ) (bmB:List ζ) (newId:String):Prop where
 at_:∃ (nm q:ι) (N:Δ) (bs bm:List ζ) (hdct:Bool) (sn:List ι) (sub:List ζ) (ab:Bool) (col:Option Bool) (dd:Option Δ) (k0 k1 k2 k3 k5:Option ζ),
  K.lookup C=some (Fs nm q C N bs bm hdct sn sub ab col dd k0 k1 k2 k3 k5 newId)∧tailIn K bmB bm=true
 init:findIn K (.ref C) "__init__" = some (some (.ref fI))
 fn:isFn K (.ref fI)=true
section
variable {prog:ϸ} {w:Ü} {A:ϒ} {E:ζ→π→Prop} {K:Frag} {C fI:Δ} {rest bmB:List ζ} {B newId initId:String} {h:Ϸ} {g:Array GenState} {d:Drawn} {t:Nat} {os:F5}
abbrev iY (h:Ϸ) (C:Δ) (rest:List ζ):Ϸ:=(h.push { cls:=.type "tuple",data:=.seq rest.toArray }).push { cls:=.ref C,data:=.fields #[.ref h.objs.size,.none,.none,.none,.bool false,.none] }
theorem fK (b) (u) (z:h.get? b=some u):(iY h C rest).get? b=some u:=ς _ (ς _ z)
theorem pa:DC h (iY h C rest) (h.objs.size+1) (.ref C) rest where
 keeps:=fK
 new:=Ϙ (ê _)
 there:=⟨h.objs.size,by heap_get,Ϙ (ω _),ς _ (Fc rfl rfl)⟩
theorem hV (F:Ĥ B newId initId bmB) (X:K.In h) (O:gY K C fI bmB newId) (hz:rest.length≤ϛ)
 (hq:∀ h' e,DC h h' e (.ref C) rest→Β (model prog w) A (call (.ref fI) (.ref e :: rest)) (fun r s'=>r = .none∧Q (.done (.ret (.ref e))) s') E ⟨h',g,d,t,os⟩) :
 Β (model prog w) A (ś.«type.__call__» ⟨.ref C :: rest,[]⟩) Q E ⟨h,g,d,t,os⟩:=by
 obtain ⟨nm,q,N,bs,bm,hdct,sn,sub,ab,col,dd,k0,k1,k2,k3,k5,l,tl⟩:=O.at_
 have c0:=X _ _ l
 have T:=tail_of_in X tl
 have X1:K.In (iY h C rest):=fun b u z=>fK b u (X b u z)
 have c1:=X1 _ _ l
 have m1:=(pa (h:=h) (C:=C) (rest:=rest))
 obtain ⟨tt,e1,_,_⟩:=id m1.there
 have self:(Ϥ C :: bm).contains (.ref C)=true:=by simp
 have l1:=looks_findIn (M:=model prog w) X1 O.init
 have l2:=fun self=>bind_fn (M:=model prog w) X1 self (beq_iff_eq.mp O.fn)
 repeat (first | with_reducible refine ŗ c0 ?_ | with_reducible refine wpAny_madeBy_exc c0 ?_ | wp_step)
 refine codeAny_call_builtin_code (ž _ F.quiet) (wpAny_check_new_subT F T c0 (codeAny_exc_new_subT F T c0 ?_ hz))
 show Β _ _ _ _ _ _
 unfold D4
 repeat (first | with_reducible refine ŗ e1 ?_ | (with_reducible refine wpAny_isSubtype_exc c1 ?_;rw [self]) | wp_step)
 refine l1.at (ό (ε ((l2 _).at ?_)))
 refine ε (Υ (hq _ _ m1) (fun r s' z=>?_) fun _ _ z=>z)
 obtain ⟨rfl,z⟩:=z
 wp_walk
 exact z
theorem qO (F:Ĥ B newId initId bmB) (X:K.In h) (O:gY K C fI bmB newId) (hz:rest.length≤ϛ)
 (hq:∀ h' e,DC h h' e (.ref C) rest→Β (model prog w) (A.under (.builtin "type.__call__" ⟨.ref C :: rest,[]⟩)) (call (.ref fI) (.ref e :: rest)) (fun r s'=>r = .none∧Q (.ref e) s') E ⟨h',g,d,t,os⟩) :
 Β (model prog w) A (call (.ref C) rest) Q E ⟨h,g,d,t,os⟩:=by
 obtain ⟨nm,q,N,bs,bm,hdct,sn,sub,ab,col,dd,k0,k1,k2,k3,k5,l,tl⟩:=O.at_
 have c0:=X _ _ l
 have y1:=tc_lookup
 have y2:=tc_bind (.ref C)
 have y3:Ft ⟨h,g,d,t,os⟩ (.ref C) "type":=⟨_,c0,rfl⟩
 refine ĉ (GV ?_)
 show Β _ _ (callAny (.ref C) _) _ _ _
 repeat (any_goals (first | assumption | with_reducible refine ŗ c0 ?_ | wp_step))
 refine ⟨rfl,codeAny_call_builtin_at (ž _ (by decide +kernel)) entry_typeCall (wpAny_check_type_call_sub c0 ?_)⟩
 exact hV F X O hz fun h' e m=>hq h' e m
end
section
variable {M:Ej} {A:ϒ} {E:ζ→π→Prop} {s:π}
theorem pZ {K:Frag} {env:CT} {C:Δ} {x:EB ζ} {Q:Flow→π→Prop} (be:mroIn K C (.type "BaseException")=some true) (ty:typeIn K (.ref C)=some (.type "type")) (hh:A.handled=none)
 (h:Β M A x (fun v s1=>∃ p ob vs,v = .ref p∧K.In s1.heap∧s1.heap.get? p=some ob∧ob.cls = .ref C∧ob.data = .fields vs∧vs[1]? = some .none∧E (.ref p) s1) E s):Β M A (raiseStmt env (some x) none) Q E s:=by
 unfold raiseStmt
 refine ε (Υ h (fun v s1 z=>?_) fun _ _ z=>z)
 obtain ⟨p,⟨oc,od,oda,osl⟩,vs,rfl,Xk,e1,e2,e3,e4,q⟩:=z
 simp only at e2 e3
 subst e2 e3
 obtain ⟨h1,g1,d1,t1,o1⟩:=s1
 have l0:Looks M h1 (typeOf (.ref p)) (.ref C):=(Looks.ld e1).andThen .now
 have l1:Looks M h1 (D4 (.ref p) (.type "BaseException")) true:=l0.andThen (looks_mroIn Xk be)
 have l2:=looks_typeIn (M:=M) Xk ty
 have l3:Looks M h1 (isType (.ref p)) false:=(Looks.ld e1).andThen .now
 have l4:Looks M h1 (isExcClass (.ref p)) false:=l3.andThen .now
 refine ε (θ (ε (ό ?_)))
 unfold excFromValue raisedInstance EN
 refine ε (l4.at ?_)
 rw [ZY ϟ]
 refine ε (l1.at ?_)
 rw [ZZ rfl]
 refine θ (ε (l3.at ?_))
 rw [ZY ϟ]
 refine ε (ε (l0.at (ε (l2.at ?_))))
 rw [ZZ (show (ċ "type" == ċ "type")=true by decide)]
 refine θ (ε (ε (Ϛ e1 rfl e4 ?_)))
 rw [ZY (show ¬ ((ϗ != ϗ)=true) by decide)]
 exact θ (wpAny_raiseNew_none hh q)
end
end L2.Ev
end
section
namespace L2.Ev
theorem pR {M:Ej} {A:ϒ} {E:ζ→π→Prop} {Q:Unit→π→Prop} {s:π} {env:CT} {n:ι} {m:ι→Option ζ} {pos:ϭ} (hl:env.kindOf n=some .local) (hn:s.heap.Ns env.locals m) (hp:(env.scope.kind == .class || (env.scope.kind == .module && env.locals != env.globals))=false)
 (h:∀ h' v,h'.Ns env.locals (fun y=>if y=n then v else m y)→ú env.locals s.heap h'→Q () { s with heap:=h',toks:=s.toks+1 }):Β M A (do bindName env n .none;C1 env n pos) Q E s:=by
 refine ε (wpAny_bindName (Fe hl hn (fun h1 n1 s1=>?_) hp))
 unfold C1 unbindName;refine Er (ε (DN (ε ?_)))
 unfold deleteName;simp only [hl,hp];rw [ZY (by decide)]
 refine ε (wpAny_nsDel_keeps n1 fun h2 v n2 s2=>?_)
 simp only [if_true,Option.isSome_some,Bool.not_true,Ï,if_false]
 refine θ (DN (h h2 v ?_ (s1.trans s2)))
 have e:(fun y=>if y=n then v else if y=n then some ϗ else m y)=fun y=>if y=n then v else m y:=by
  funext y
  by_cases z:y=n <;> simp [z]
 rw [e] at n2
 exact n2
section
variable {X:Cx} {z z' z0 z1:Z} {w:Δ→Prop}
theorem zu {a C:Δ} {l:List (ι×ζ)} {f:ι} {v:ζ} {Q:ζ→π→Prop} {b:Bool} (I:Rep X z) (h:ExO z.h a C l) (nl:l≠[]) (Y:dF X.K C) (hh:ϰ X.K C=true) (hf:Ν X.K (.ref C) f=some none) (lk:l.lookup f=some v) (hv:ŀ v=true) (q:Q v { z.s with toks:=z.s.toks+1 }):Β X.M X.A (Dq (.ref a) f b) Q NoE z.s:=by
 obtain ⟨o,vs,e1,e2,e3,e4⟩:=h
 rcases e4 with ⟨w,_⟩ | ⟨d,od,e5,e6,es,ep,e7⟩
 ·exact ZX w nl
 ·exact qP Y hh I.toHR.kin hf e1 e2 e3 e5 (mA:=fun n=>l.lookup n) ⟨od,es,ep,e6,e7⟩ lk hv q
abbrev aM (X:Cx) (e:ζ):Cx:={ X with A:=X.A.mark (some e),calm:=false }
theorem Rep.suite (I:Rep X z):Rep (aM X e) z:=⟨⟨I.md,I.fm,(fun c=>nomatch c),I.bs,I.gh,I.rl,I.rn,I.rg,I.ob,I.fu,I.ff,I.br,I.os⟩,⟨I.ok.un,I.ok.kd,I.ok.gl,I.ok.bl,I.ok.ci,I.ok.ch⟩,I.lo,I.ce,I.fl,I.el,I.sl,I.en,I.eo,I.od⟩
theorem Rep.unsuite (h:X.calm=true→X.A.handled=none) (I:Rep (aM X e) z):Rep X z:=⟨⟨I.md,I.fm,h,I.bs,I.gh,I.rl,I.rn,I.rg,I.ob,I.fu,I.ff,I.br,I.os⟩,⟨I.ok.un,I.ok.kd,I.ok.gl,I.ok.bl,I.ok.ci,I.ok.ch⟩,I.lo,I.ce,I.fl,I.el,I.sl,I.en,I.eo,I.od⟩
theorem Go.unsuite (g:Go (aM X e) z z'):Go X z z':=⟨g.st,g.ow⟩
theorem Rep.gone {h':Ϸ} {t:Nat} {i:Nat} {x:ι} {m:ι→Option ζ} {v:Option ζ} (I:Rep X z) (hN:X.N.Nodup) (hi:X.N[i]? = some x) (hk:X.env.scope.names.lookup x=some .local) (lk:∀ (i:Nat) (x:ι) (u:ζ),X.N[i]? = some x→z.σ[i]? = some (some u)→Vis X.env.scope x→lS X.env z.s.heap m x u)
 (hn:h'.Ns X.env.locals (fun y=>if y=x then v else m y)) (sb:ú X.env.locals z.s.heap h'):Rep X { z with t:=⟨z.t.env.set i none,z.t.ow.filter (· != i),z.t.st⟩,σ:=z.σ.set i none,s:={ z.s with heap:=h',toks:=t } }∧Go X z { z with t:=⟨z.t.env.set i none,z.t.ow.filter (· != i),z.t.st⟩,σ:=z.σ.set i none,s:={ z.s with heap:=h',toks:=t } }:=by
 have ne:∀ {b:Δ},b≠X.env.locals→h'.get? b=z.h b:=fun n=>sb.2 _ n
 have lL:Lc X X.env.locals:=.inl rfl
 have nG:∀ {b o},z.G b=some o→b≠X.env.locals:=fun e q=>by rw [q,(I.fl _ lL).1] at e;cases e
 have nM:∀ {b},Mu z.ρ b→b≠X.env.locals:=fun m q=>(I.fl _ lL).2 (q ▸ m)
 obtain ⟨oL,es,ep,hoL,hdL,_⟩:=id hn
 have ck:∀ y c u,X.env.cells.lookup y=some c→z.s.heap.IsCell c u→h'.IsCell c u:=fun y c u e q=>q.sameBut sb (I.cne y c e)
 have hiσ:i<z.σ.length:=by rw [I.sl];exact (τ.mp hi).1
 have mf:∀ {j},j∈z.t.ow.filter (· != i)→j∈z.t.ow∧j≠i:=fun m=>⟨(ϔ.mp m).1,by simpa using (ϔ.mp m).2⟩
 have fu:h'.FunFrames X.base X.fr:=jk (fun b o e nf=>by
  by_cases q:b=X.env.locals
  ·subst q;exact ⟨oL,hoL,fun vs e=>by rw [hdL] at e;cases e⟩
  ·exact ⟨o,(ne q).trans e,nf⟩) I.fu
 refine ⟨⟨⟨I.md,I.fm,I.hd,I.bs,fun b o e=>(ne (nG e)).trans (I.gh b o e),I.rl,I.rn,I.rg,fun n o p h1 h2=>(I.ob n o p h1 h2).mono (ο _) (.refl _) fun b hb o e=>(ne (nM ⟨p,Ε h2,hb⟩)).trans e,fu,I.ff,I.br,I.os⟩,I.ok,⟨_,hn,fun j y u e1 e2 e3=>?_⟩,fun y c e=>let ⟨u,q⟩:=I.ce y c e;⟨u,ck y c u e q⟩,I.fl,by show (z.t.env.set i none).length=(z.σ.set i none).length;rw [Ê,Ê];exact I.el,by show (z.σ.set i none).length=_;rw [Ê];exact I.sl,fun j d n e=>?_,fun j mj=>?_,fun j k a m1 m2 e1 e2=>?_⟩,⟨⟨ο _,.refl _,fun _ _ e=>.inl e,fun _ m=>.inl m,fun b o e=>?_,fun b o e _ w _=>(ne fun q=>w (.inr (.inl q))).trans e,fun b o e _ w _=>⟨o.slots,(ne fun q=>w (.inr (.inl q))).trans e⟩⟩,fun b ⟨j,mj,e⟩=>?_⟩⟩
 ·by_cases q:j=i
  ·subst q
   rw [Ϭ hiσ] at e2;cases e2
  ·rw [Ψ (Ϡ q)] at e2
   rcases lk j y u e1 e2 e3 with ⟨k,e⟩ | ⟨k,c,e,w⟩
   ·have:y≠x:=fun e=>q (gH hN e1 (e ▸ hi))
    exact .inl ⟨k,by simp [this,e]⟩
   ·exact .inr ⟨k,c,e,ck y c _ e w⟩
 ·have e:(z.t.env.set i none)[j]? = some (some d):=e
  by_cases q:j=i
  ·subst q
   rw [Ϭ (by rw [I.el];exact hiσ)] at e;cases e
  ·rw [Ψ (Ϡ q)] at e
   obtain ⟨u,e1,r⟩:=I.en j d (fun m=>n (ϔ.mpr ⟨m,by simpa using q⟩)) e
   exact ⟨u,(Ψ (Ϡ q)).trans e1,r⟩
 ·obtain ⟨m1,q⟩:=mf mj
  obtain ⟨d,a,o,h1,h2,h3,r,f⟩:=I.eo j m1
  exact ⟨d,a,o,(Ψ (Ϡ q)).trans h1,(Ψ (Ϡ q)).trans h2,h3,r.mono (ο _) (.refl _) fun b hb o e=>(ne fun w=>f.2.2.2 (by rcases hb with rfl | rfl <;> exact .inl w)).trans e,f⟩
 ·obtain ⟨a1,q1⟩:=mf m1
  obtain ⟨a2,q2⟩:=mf m2
  exact I.od j k a a1 a2 ((Ψ (Ϡ q1)).symm.trans e1) ((Ψ (Ϡ q2)).symm.trans e2)
 ·by_cases q:b=X.env.locals
  ·subst q;exact ⟨oL,hoL⟩
  ·exact ⟨o,(ne q).trans e⟩
 ·obtain ⟨m1,q⟩:=mf mj
  exact .inl ⟨j,m1,(Ψ (Ϡ q)).symm.trans e⟩
theorem tC {a T:Δ} {fl cls:ζ} {dx:Option Δ} (x:Stp X.fr w z z') (I:Rep X z') (r:XR X.W z' c l cls dx) (na:Nob X z z' a) (t:Tr z'.s.heap a cls dx T fl):∃ z2,z2.s=z'.s∧z2.t=z'.t∧Stp X.fr w z z2∧(∀ b,Own z2 b↔Own z' b)∧Rep X z2∧RD X.W z2.ρ z2.G (.ins c l) (.ref a)∧(z2.σ=z'.σ):=by
 obtain ⟨oe,vs,_,_,he,⟨hc,hd⟩,hda,_⟩:=t
 have gg:Sub z'.G fun b=>if b=a then some oe else z'.G b:=fun b o q=>by
  dsimp only
  by_cases c:b=a
  ·subst c;rw [na.2.1.1] at q;cases q
  ·rw [ZY c];exact q
 have rd:RD X.W z'.ρ (fun b=>if b=a then some oe else z'.G b) (.ins c l) (.ref a):=by
  obtain ⟨i,h1,h2,h3,h4,h5⟩:=r
  subst h3
  rcases h5 with ⟨rfl,rfl⟩ | ⟨d,od,us,rfl,h6,h7,h8⟩
  ·exact ⟨a,i,[],rfl,h1,h4,.inr ⟨h2,oe,vs,ZZ rfl,hc,hda,.inl ⟨by simp,hd⟩⟩,rfl⟩
  ·exact ⟨a,i,us,rfl,h1,h4,.inr ⟨h2,oe,vs,ZZ rfl,hc,hda,.inr ⟨d,od,hd,gg _ _ h6,h7⟩⟩,h8.mono (ο _) gg⟩
 refine ⟨{ z' with G:=fun b=>if b=a then some oe else z'.G b },rfl,rfl,⟨x.pr,x.gg.trans gg,fun b o q=>?_,x.rn,x.th,x.sm,x.sl⟩,fun _=>.rfl,I.grw rfl I.br (fun _ _ e _=>e) (fun _ o e=>⟨o.slots,e⟩) gg (fun b o q=>?_) fun b o q=>?_,rd,rfl⟩
 all_goals
  have q:(if b=a then some oe else z'.G b)=some o:=q
  by_cases c:b=a
 ·subst c;exact .inr (.inl na.1)
 ·rw [ZY c] at q;exact x.gn b o q
 ·subst c;rw [ZZ rfl] at q;cases q;exact he
 ·rw [ZY c] at q;exact I.gh b o q
 ·subst c;exact .inr na.2
 ·rw [ZY c] at q;exact .inl q
def qp (X:Cx) (j:Nat) (x:ι):Prop:=∃ i,X.W.ci[j]? = some i∧X.mg x=some (.ref i.ad)∧mX X.K i.ad∧∀ c k ic,X.Γ.cl[c]? = some k→X.W.ci[c]? = some ic→X.W.what[c]? = some 2→ϥ X.K ic.ad (.ref i.ad)=some (c == j || k.sup.contains j)
def HL (X:Cx) (hs:List Đ) (r:S):Prop:=∀ (z z1:Z) (c:Nat) (l:List D) (e:ζ) (o:av),XN X (Pv X z) z z1 c l e .none→(∀ a,Own z1 a→Own z a∨z.h a=none)→o=exS.hnd X.Γ X.cal X.cal1 r c l z1.t→o≠.bad→Β X.M X.A (handleBy e X.env hs) (Ps X z o) (PxS X z o) z1.s
theorem xv (F:lQ X):HL X [] .skip:=fun z z1 c l e o hn ow e0 nb=>by
 have e0:o = .exc c l z1.t:=e0
 refine wpAny_handleBy_nil ?_
 obtain ⟨a,T,cls,dx,e1,_,_,_,_,t,_⟩:=id hn
 subst e1
 unfold PySem.passOn
 obtain ⟨oe,vs,oT,ts,he,hc,hd,h1,r⟩:=id t
 refine ε (Ϛ he hd h1 ?_)
 rw [ZY (show ¬ ((Ϥ T == ϗ)=true) by simp),F.frame]
 refine ε (b8 (z':=z1) (fr:=some X.env.locals) hn fun h2 hn2=>wpAny_throw ?_)
 obtain ⟨a',T',cls',dx',e1,x2,I2,r2,na2,t2,nT2⟩:=hn2
 exact ⟨{ z1 with s:={ z1.s with heap:=h2 } },c,l,rfl,e0,⟨x2,ow⟩,I2,a',cls',dx',e1,r2,na2,.inr ⟨T',_,t2,.inr rfl,nT2⟩⟩
theorem At {j i:Nat} {Bn n:ι} {np hpos:ϭ} {hs:List Đ} {suite:List Ô} {b₀:Ô} {b r:S} (hS:∀ e,LSs (aM X e) (b₀ :: suite) b) (hx:qp X j Bn) (hg:Gl X Bn) (hdb:(Bn == ("__debug__":ι))=false) (hN:X.N.Nodup) (hi:X.N[i]? = some n) (hl:X.env.scope.names.lookup n=some .local) (hr:HL X hs r):HL X (.ExceptHandler (some (.Name Bn np)) (some n) (b₀ :: suite) hpos :: hs) (.hand j (some i) b r):=fun z z1 c l e o hn3 ow1 e0 nb=>by
 have e0:o=(match cQ X.Γ j c with
  | some true=>(match X.ex b ⟨z1.t.env.set i (some (.ins c l)),z1.t.ow.filter (· != i),z1.t.st⟩ with
    | .nx s=>.nx ⟨s.env.set i none,s.ow.filter (· != i),s.st⟩
    | .rt d s=>.rt d s
    | _=>.bad)
  | some false=>exS.hnd X.Γ X.cal X.cal1 r c l z1.t
  | none=>.bad):=e0
 obtain ⟨p,T,cls,dx,rfl,x3,I3,r3,na3,t3,nT3⟩:=id hn3
 refine FE (Ff ?_) (fun z=>nomatch z)
 obtain ⟨ic,w1,w2,w3,w4⟩:=hx
 obtain ⟨i2,v1,v2,v3,v4,v5⟩:=id r3
 cases ek:X.Γ.cl[c]? with
 | none=>exact ZX (by rw [e0];unfold cQ;rw [ek];rfl) nb
 | some k=>
   have hsub:=w4 c k i2 ek v1 v2
   rw [show cQ X.Γ j c=some (c == j || k.sup.contains j) by unfold cQ;rw [ek];rfl] at e0
   generalize (c == j || k.sup.contains j)=kk at e0 hsub
   refine bg (X:=aM X (.ref p)) (z:=z1) I3.suite hg w2 ?_ hdb
   obtain ⟨oe,vs,oT,tt,he,⟨hcl,hdi⟩,hda,_⟩:=id t3
   refine gC I3.toHR.kin w3 he (hcl.trans v3) hsub ?_
   cases kk with
   | false=>exact hr z z1 c l _ o hn3 ow1 e0 nb
   | true=>
     have e0:o=(match X.ex b ⟨z1.t.env.set i (some (.ins c l)),z1.t.ow.filter (· != i),z1.t.st⟩ with
      | .nx s=>.nx ⟨s.env.set i none,s.ow.filter (· != i),s.st⟩
      | .rt d s=>.rt d s
      | _=>.bad):=e0
     show Ŀ _ _ _ _ _
     refine codeAny_handlers_suite_as (b8 (z':=z1) (fr:=none) hn3 fun h4 hn4=>?_)
     obtain ⟨p',T',cls',dx',ep,x4,I4,r4,na4,t4,nT4⟩:=hn4
     cases ep
     obtain ⟨z5,e5,t5,x5,o5,I5,rd5,s5⟩:=tC x4 I4 r4 na4 t4
     rw [show ({ z1.s with heap:=h4 }:π)=z5.s from e5.symm]
     have g5:Go X z z5:=⟨x5,fun b ob=>ow1 b ((o5 b).mp ob)⟩
     refine cj (X:=aM X (.ref p)) (own:=false) (d:=.ins c l) (z:=z5) (z0:=z5) .refl I5.suite hN hi (.inl hl) rd5 fun s6 a6 _ _ I6 g6=>?_
     have t6:stV z5.t i (.ins c l) false=⟨z1.t.env.set i (some (.ins c l)),z1.t.ow.filter (· != i),z1.t.st⟩:=by rw [show z5.t=z1.t from t5];rfl
     rw [← t6] at e0
     have nb6:(aM X (.ref p)).ex b (stV z5.t i (.ins c l) false)≠.bad:=fun q=>nb (by rw [e0,show X.ex b (stV z5.t i (.ins c l) false) = .bad from q])
     refine Υ (hS (.ref p) { z5 with t:=stV z5.t i (.ins c l) false,σ:=z5.σ.set i (some (.ref p)),s:=s6 } I6 nb6) (fun f s7 h7=>?_) fun e s7 ⟨z7,c7,l7,_,q7,_,_,_⟩=>ZX (by rw [e0,show X.ex b (stV z5.t i (.ins c l) false)=_ from q7]) nb
     have fin:∀ z7,z7.s=s7→Go (aM X (.ref p)) { z5 with t:=stV z5.t i (.ins c l) false,σ:=z5.σ.set i (some (.ref p)),s:=s6 } z7→Rep (aM X (.ref p)) z7→(∀ z8,z8.t=⟨z7.t.env.set i none,z7.t.ow.filter (· != i),z7.t.st⟩→z8.ρ=z7.ρ→z8.G=z7.G→Go X z z8→Rep X z8→Ps X z o f z8.s)→Β X.M X.A (do bindName X.env n .none;C1 X.env n hpos) (fun _ s3=>Ps X z o f s3) (PxS X z o) s7:=fun z7 e7 g7 I7 hh=>by
      subst e7
      have J7:=I7.unsuite I3.hd
      obtain ⟨m,hn,lk⟩:=id J7.lo
      refine pR hl hn (by rw [I3.ok.kd];rfl) fun h8 v n8 s8=>?_
      obtain ⟨I8,g8⟩:=J7.gone (t:=z7.s.toks+1) hN hi hl lk n8 s8
      exact hh { z7 with t:=⟨z7.t.env.set i none,z7.t.ow.filter (· != i),z7.t.st⟩,σ:=z7.σ.set i none,s:={ z7.s with heap:=h8,toks:=z7.s.toks+1 } } rfl rfl rfl (((g5.trans g6.unsuite).trans g7.unsuite).trans g8) I8
     cases q7:X.ex b (stV z5.t i (.ins c l) false) with
     | nx t7=>
       rw [show (aM X (.ref p)).ex b (stV z5.t i (.ins c l) false) = .nx t7 from q7] at h7
       rw [q7] at e0
       obtain ⟨rfl,z7,e7,et7,g7,I7⟩:=h7
       refine fin z7 e7 g7 I7 fun z8 e8 _ _ g8 I8=>nxt g8 I8 ?_
       rw [e0,e8,et7]
     | rt d t7=>
       rw [show (aM X (.ref p)).ex b (stV z5.t i (.ins c l) false) = .rt d t7 from q7] at h7
       rw [q7] at e0
       obtain ⟨u,z7,rfl,e7,et7,g7,I7,rd7⟩:=h7
       refine fin z7 e7 g7 I7 fun z8 e8 r8 G8 g8 I8=>?_
       rw [e0]
       exact ⟨u,z8,rfl,rfl,by rw [e8];exact et7,g8,I8,by rw [r8,G8];exact rd7⟩
     | exc c7 l7 t7=>rw [q7] at e0;exact ZX e0 nb
     | bad=>exact ZX q7 nb6
theorem Au {j:Nat} {Bn:ι} {np hpos:ϭ} {hs:List Đ} {suite:List Ô} {b₀:Ô} {b r:S} (hS:∀ e,LSs (aM X e) (b₀ :: suite) b) (hx:qp X j Bn) (hg:Gl X Bn) (hdb:(Bn == ("__debug__":ι))=false) (hr:HL X hs r):HL X (.ExceptHandler (some (.Name Bn np)) none (b₀ :: suite) hpos :: hs) (.hand j none b r):=fun z z1 c l e o hn3 ow1 e0 nb=>by
 have e0:o=(match cQ X.Γ j c with
  | some true=>(match X.ex b z1.t with | .nx s=>.nx s | .rt d s=>.rt d s | _=>.bad)
  | some false=>exS.hnd X.Γ X.cal X.cal1 r c l z1.t
  | none=>.bad):=e0
 obtain ⟨p,T,cls,dx,rfl,x3,I3,r3,na3,t3,nT3⟩:=id hn3
 refine FE (Ff ?_) (fun z=>nomatch z)
 obtain ⟨ic,w1,w2,w3,w4⟩:=hx
 obtain ⟨i2,v1,v2,v3,v4,v5⟩:=id r3
 cases ek:X.Γ.cl[c]? with
 | none=>exact ZX (by rw [e0];unfold cQ;rw [ek];rfl) nb
 | some k=>
   have hsub:=w4 c k i2 ek v1 v2
   rw [show cQ X.Γ j c=some (c == j || k.sup.contains j) by unfold cQ;rw [ek];rfl] at e0
   generalize (c == j || k.sup.contains j)=kk at e0 hsub
   refine bg (X:=aM X (.ref p)) (z:=z1) I3.suite hg w2 ?_ hdb
   obtain ⟨oe,vs,oT,tt,he,⟨hcl,hdi⟩,hda,_⟩:=id t3
   refine gC I3.toHR.kin w3 he (hcl.trans v3) hsub ?_
   cases kk with
   | false=>exact hr z z1 c l _ o hn3 ow1 e0 nb
   | true=>
     have e0:o=(match X.ex b z1.t with | .nx s=>.nx s | .rt d s=>.rt d s | _=>.bad):=e0
     show Ŀ _ _ _ _ _
     refine codeAny_handlers_suite (b8 (z':=z1) (fr:=none) hn3 fun h4 hn4=>?_)
     obtain ⟨p',T',cls',dx',ep,x4,I4,r4,na4,t4,nT4⟩:=hn4
     cases ep
     have g4:Go X z { z1 with s:={ z1.s with heap:=h4 } }:=⟨x4,ow1⟩
     have nb6:(aM X (.ref p)).ex b z1.t≠.bad:=fun q=>nb (by rw [e0,show X.ex b z1.t = .bad from q])
     refine Υ (hS (.ref p) { z1 with s:={ z1.s with heap:=h4 } } I4.suite nb6) (fun f s7 h7=>?_) fun e s7 ⟨z7,c7,l7,_,q7,_,_,_⟩=>ZX (by rw [e0,show X.ex b z1.t=_ from q7]) nb
     cases q7:X.ex b z1.t with
     | nx t7=>
       rw [show (aM X (.ref p)).ex b z1.t = .nx t7 from q7] at h7
       rw [q7] at e0
       obtain ⟨rfl,z7,e7,et7,g7,I7⟩:=h7
       subst e7
       exact nxt (g4.trans g7.unsuite) (I7.unsuite I3.hd) (by rw [e0,et7])
     | rt d t7=>
       rw [show (aM X (.ref p)).ex b z1.t = .rt d t7 from q7] at h7
       rw [q7] at e0
       obtain ⟨u,z7,rfl,e7,et7,g7,I7,rd7⟩:=h7
       subst e7
       show Ps X z o (.ret u) z7.s
       rw [e0]
       exact ⟨u,z7,rfl,rfl,et7,g4.trans g7.unsuite,I7.unsuite I3.hd,rd7⟩
     | exc c7 l7 t7=>rw [q7] at e0;exact ZX e0 nb
     | bad=>exact ZX q7 nb6
theorem yv {h0:Đ} {hs:List Đ} {pos:ϭ} {body:List Ô} {a r:S} (F:lQ X) (hb:LSs X body a) (hh:HL X (h0 :: hs) r):LS X (.Try body (h0 :: hs) [] [] pos) (.try_ a r):=fun z I nb=>by
 have e0:X.ex (.try_ a r) z.t=(match X.ex a z.t with
  | .exc c l s=>exS.hnd X.Γ X.cal X.cal1 r c l s
  | r=>r):=rfl
 generalize X.ex (.try_ a r) z.t=o at e0 nb
 have nb1:X.ex a z.t≠.bad:=fun q=>nb (by rw [e0,q])
 refine wpAny_Try_except (Υ (hb z I nb1) (fun f s1 h=>?_) fun e s1 h=>?_)
 ·cases q:X.ex a z.t with
  | nx t=>rw [q] at h e0;obtain ⟨rfl,h⟩:=h;exact ķ (show Ps X z o .next s1 by rw [e0];exact ⟨rfl,h⟩)
  | rt d t=>rw [q] at h e0;obtain ⟨u,z',rfl,h⟩:=h;exact show Ps X z o (.ret u) s1 by rw [e0];exact ⟨u,z',rfl,h⟩
  | exc c l t=>rw [q] at h;exact h.elim
  | bad=>exact ZX q nb1
 ·obtain ⟨z1,c,l,e1,q1,x1,I1,xo⟩:=h
  subst e1
  rw [q1] at e0
  exact j0 F x1.st I1 xo fun h2 hn2=>b8 (z':={ z1 with s:={ z1.s with heap:=h2 } }) (fr:=none) hn2 fun h3 hn3=>hh z { z1 with s:={ z1.s with heap:=h3 } } c l e o hn3 x1.ow e0 nb
end
end L2.Ev
end
section
namespace L2.Ev
structure Pri (X:Cx) (p:Δ) (nm:List ι) (P:List Δ→List (ι×ζ)→Ϸ→Prop):Prop where
 ex:∀ {ch l h},P ch l h→∀ b∈ch,∃ o,h.get? b=some o
 keep:∀ {ch l h h'},P ch l h→(∀ b∈ch,∀ o,h.get? b=some o→h'.get? b=some o)→P ch l h'
 set:∀ {A:ϒ} {s:π} {ch:List Δ} {l:List (ι×ζ)} {f:ι} {v:ζ} {Q:Unit→π→Prop} {E:ζ→π→Prop},X.K.In s.heap→P ch l s.heap→f∈nm→f ∉ l.map (·.1)→l.length<900 →
  (∀ h' ch' t,P ch' (l ++ [(f,v)]) h'→(∀ b∈ch',b∈ch∨s.heap.get? b=none)→(∀ b∈ch,b∈ch')→(∀ b o,b ∉ ch→s.heap.get? b=some o→h'.get? b=some o)→Q () { s with heap:=h',toks:=t })→Β X.M A (E0 (.ref p) f v) Q E s
theorem eM {f:ι} {v:ζ}:∀ {l:List (ι×ζ)},f ∉ l.map (·.1)→∀ g,(l ++ [(f,v)]).lookup g=if g=f then some v else l.lookup g
 | [],_,g=>by
   show (match g == f with | true=>some v | false=>none)=if g=f then some v else none
   by_cases c:g=f
   ·rw [ZZ c,beq_iff_eq.mpr c]
   ·rw [ZY c,ZU.mpr c]
 | (a,b) :: r,h,g=>by
   have h':f≠a∧f ∉ r.map (·.1):=by simpa using h
   have ih:=eM (v:=v) h'.2 g
   show (match g == a with | true=>some b | false=>(r ++ [(f,v)]).lookup g)=if g=f then some v else (match g == a with | true=>some b | false=>r.lookup g)
   by_cases c:g=a
   ·have gf:g≠f:=fun w=>h'.1 (w.symm.trans c)
    rw [beq_iff_eq.mpr c,ZY gf]
   ·rw [ZU.mpr c];exact ih
theorem lF (l:List (ι×ζ)):G5 (fun n=>l.lookup n) (l.map (·.1)):=fun y hy=>by
 cases q:l.lookup y with
 | none=>exact ZX q hy
 | some u=>
   obtain ⟨l1,l2,e1,_⟩:=DX.mp q
   rw [e1];simp
section
variable {X:Cx} {z z' z0 z1:Z} {p C:Δ} {nm:List ι}
theorem vp (cl:Cls X.K C) (na:∀ f∈nm,cy X.K C f):Pri X p nm (fun ch l h=>∃ dx,ch = [p,dx]∧InO h.get? p dx C l) where
 ex:=fun ⟨dx,e,h1,h2,h3,o,h4,h5⟩ b hb=>by
  subst e
  rcases ξ.mp hb with w | w
  ·rw [w];exact ⟨_,h1⟩
  ·rw [η.mp w];exact ⟨o,h4⟩
 keep:=fun ⟨dx,e,h1,h2,h3,o,h4,h5⟩ k=>⟨dx,e,k p (by rw [e];simp) _ h1,h2,h3,o,k dx (by rw [e];simp) _ h4,h5⟩
 set:=fun {A s ch l f v Q E} hK ⟨dx,e,io⟩ hf hn hz hq=>by
  subst e
  refine oR (ns:=l.map (·.1)) hK (InO.objm io) cl.sa cl.po (na f hf).taker cl.hd (lF l) (by rw [Ι];exact ϖ (ą hz) (big (by omega))) fun h' om sb=>?_
  obtain ⟨od,es,ep,e1,e2,e3,e4,e5⟩:=om.ns
  exact hq h' [p,dx] _ ⟨dx,rfl,om.obj,om.ne,by rw [φ];simp;omega,od,e1,es,ep,e2,e3,e4,fun n=>(e5 n).trans (eM hn n).symm⟩ (fun b hb=>.inl hb) (fun b hb=>hb) fun b o nb e=>(sb.2 b fun w=>nb (by rw [w];simp)).trans e
theorem oH (Z:fJ X.K C) (na:∀ f∈nm,Ν X.K (.ref C) f=some none):Pri X p nm (fun ch l h=>∃ o vs,h.get? p=some o∧o.cls = .ref C∧o.data = .fields vs∧vs[1]? = some .none∧((l = []∧o.dict=none∧ch = [p])∨∃ d od,o.dict=some d∧d≠p∧ch = [p,d]∧h.get? d=some od∧NsO od l)) where
 ex:=fun ⟨o,vs,h1,_,_,_,h5⟩ b hb=>by
  rcases h5 with ⟨_,_,e⟩ | ⟨d,od,_,_,e,h6,_⟩
  ·rw [e] at hb;rw [η.mp hb];exact ⟨o,h1⟩
  ·rw [e] at hb
   rcases ξ.mp hb with w | w
   ·rw [w];exact ⟨_,h1⟩
   ·rw [η.mp w];exact ⟨od,h6⟩
 keep:=fun ⟨o,vs,h1,h2,h3,h4,h5⟩ k=>by
  rcases h5 with ⟨a,b,e⟩ | ⟨d,od,a,b,e,h6,h7⟩
  ·exact ⟨o,vs,k p (by rw [e];simp) _ h1,h2,h3,h4,.inl ⟨a,b,e⟩⟩
  ·exact ⟨o,vs,k p (by rw [e];simp) _ h1,h2,h3,h4,.inr ⟨d,od,a,b,e,k d (by rw [e];simp) _ h6,h7⟩⟩
 set:=fun {A s ch l f v Q E} hK ⟨o,vs,h1,h2,h3,h4,h5⟩ hf hn hz hq=>by
  refine pI (mA:=fun n=>l.lookup n) (ns:=l.map (·.1)) hK Z (na f hf) h1 h2 h3 ?_ (lF l) (by rw [Ι];omega) fun h' d t g1 ne n k ds=>?_
  ·rcases h5 with ⟨rfl,b,_⟩ | ⟨d,od,a,b,_,h6,es,ep,h7⟩
   ·exact .inl ⟨b,fun _=>rfl⟩
   ·exact .inr ⟨d,a,b,od,es,ep,h6,h7⟩
  ·obtain ⟨od2,es,ep,e1,e2,e3,e4,e5⟩:=n
   refine hq h' [p,d] t ⟨_,vs,g1,h2,h3,h4,.inr ⟨d,od2,rfl,ne,rfl,e1,es,ep,e2,e3,e4,fun n=>(e5 n).trans (eM hn n).symm⟩⟩ (fun b hb=>?_) (fun b hb=>?_) fun b u nb e=>?_
   ·rcases h5 with ⟨_,b1,e⟩ | ⟨d',od,a,_,e,_⟩
    ·rcases ξ.mp hb with w | w
     ·left;rw [e,w];simp
     ·rw [η.mp w]
      rcases ds with q | ⟨_,q⟩
      ·rw [b1] at q;cases q
      ·exact .inr q
    ·rcases ds with q | ⟨q,_⟩
     ·rw [a] at q;cases q;rw [e];exact .inl hb
     ·rw [a] at q;cases q
   ·rcases h5 with ⟨_,b1,e⟩ | ⟨d',od,a,_,e,_⟩
    ·rw [e] at hb;rw [η.mp hb];simp
    ·rcases ds with q | ⟨q,_⟩
     ·rw [a] at q;cases q;rw [e] at hb;exact hb
     ·rw [a] at q;cases q
   ·have np:b≠p:=fun w=>by
     rcases h5 with ⟨_,_,e'⟩ | ⟨_,_,_,_,e',_⟩ <;> exact nb (by rw [e',w];simp)
    refine k b u np (fun w=>?_) e
    rcases ds with q | ⟨_,q⟩
    ·rcases h5 with ⟨_,b1,_⟩ | ⟨d',od,a,_,e',_⟩
     ·rw [b1] at q;cases q
     ·rw [a] at q;cases q;exact nb (by rw [e',w];simp)
    ·rw [w,q] at e;cases e
def Bas (X:Cx) (p:Δ) (P:List Δ→List (ι×ζ)→Ϸ→Prop):Prop:=∀ {A:ϒ} {s:π} {ch:List Δ} {l:List (ι×ζ)} {ur:List ζ} {Q:ζ→π→Prop} {E:ζ→π→Prop},X.K.In s.heap→P ch l s.heap→ur.length≤ϛ →
 (∀ h',P ch l h'→(∀ b∈ch,∃ o,h'.get? b=some o)→(∀ b o,b ∉ ch→s.heap.get? b=some o→h'.get? b=some o)→Q .none { s with heap:=h' })→Β X.M A (call (.builtin "ValueError.__init__") (.ref p :: ur)) Q E s
theorem tR {fI:Δ} (O:gY X.K C fI veB "ValueError.__new__") (Pr:Pri X p nm fun ch l h=>∃ o vs,h.get? p=some o∧o.cls = .ref C∧o.data = .fields vs∧vs[1]? = some .none∧((l = []∧o.dict=none∧ch = [p])∨∃ d od,o.dict=some d∧d≠p∧ch = [p,d]∧h.get? d=some od∧NsO od l)):Bas X p (fun ch l h=>∃ o vs,h.get? p=some o∧o.cls = .ref C∧o.data = .fields vs∧vs[1]? = some .none∧((l = []∧o.dict=none∧ch = [p])∨∃ d od,o.dict=some d∧d≠p∧ch = [p,d]∧h.get? d=some od∧NsO od l)):=fun {A s ch l ur Q E} K2 hP lz hq=>by
 have F:=PySem.F.excBase_ValueError
 obtain ⟨ob,fv,e1,e2,e3,e4,e5⟩:=id hP
 obtain ⟨nm',q',N,bs,bm,hdct,sn,sub,ab,col,dd,k0,k1,k2,k3,k5,l',tl⟩:=O.at_
 have sz:1<fv.size:=by
  cases Nat.lt_or_ge 1 fv.size with
  | inl h=>exact h
  | inr h=>rw [Array.getElem?_eq_none h] at e4;cases e4
 have z0:0<fv.size:=Nat.lt_of_succ_lt sz
 obtain ⟨h2,g2,d2,t2,o2⟩:=s
 refine ĉ (í F.init.plain F.initEntry (wpAny_check_init_subT F (PySem.W.tail_of_in K2 tl) (K2 _ _ l') e1 e2 ?_))
 have e1':=ς (h:=h2) { cls:=.type "tuple",data:=.seq ur.toArray } e1
 obtain ⟨f0,e0⟩:∃ f0,fv[0]? = some f0:=⟨_,ļ z0⟩
 unfold ś.«BaseException.__init__» EK
 refine ε (wpAny_newTuple ?_ lz)
 refine ε (ε (Ϛ e1' e3 e0 (ε (ğ e1' e3 z0 ?_))))
 have dT:=ü e3 (·.setIfInBounds 0 (Ϥ h2.objs.size))
 have gs:=Ϧ (h:=h2.push { cls:=.type "tuple",data:=.seq ur.toArray }) (Ħ (·.setIfInBounds 0 (Ϥ h2.objs.size))) e1' (ÿ dT)
 have ot:∀ b o,b≠p→h2.get? b=some o→((h2.push { cls:=.type "tuple",data:=.seq ur.toArray }).update p (Ħ (·.setIfInBounds 0 (Ϥ h2.objs.size)))).get? b=some o:=fun b o n e=>(ϑ _ _ (Ϡ n)).trans (ς _ e)
 have fin:=hq ((h2.push { cls:=.type "tuple",data:=.seq ur.toArray }).update p (Ħ (·.setIfInBounds 0 (Ϥ h2.objs.size)))) ⟨_,_,gs,by rw [CP];exact e2,dT,by rw [Array.getElem?_setIfInBounds_ne (by decide)];exact e4,e5.imp (fun ⟨a,b,c⟩=>⟨a,by rw [fP];exact b,c⟩) fun ⟨d,od,a,b,c,e,f⟩=>⟨d,od,by rw [fP];exact a,b,c,ot d od b e,f⟩⟩ (fun b hb=>by
  by_cases q:b=p
  ·rw [q];exact ⟨_,gs⟩
  ·obtain ⟨o,e⟩:=Pr.ex hP b hb
   exact ⟨o,ot b o q e⟩) (fun b o n e=>ot b o (fun q=>n (by rcases e5 with ⟨_,_,c⟩ | ⟨_,_,_,_,c,_⟩ <;> (rw [c,q];simp))) e)
 cases f0 <;> first | exact θ (θ fin) | exact Į (θ fin)
structure ql (K:υ) (B:Δ):Prop where
 ga:İ K (.ref B) "__getattribute__" = some (some (.builtin "type.__getattribute__"))
 rd:PySem.W.readsIn K B (.type "type")=true
 at_:PySem.W.findCls K (.ref B) (.type "type") "__init__" = some (.val (.builtin "ValueError.__init__"))
inductive JsP (X:Cx) (ck:List Nat):List Μ→Prop
 | nil:JsP X ck []
 | c {x:ι} {j:Nat} {p:ϭ} {r}:x.length≤1000→JsP X ck r→JsP X ck (.Constant (.str x) j p :: r)
 | f {x:ι} {i:Nat} {p q:ϭ} {r}:i∈ck→X.N[i+1]? = some x→Vis X.env.scope x→((x == ("__debug__":ι)) || (x == ("__classdict__":ι)))=false→JsP X ck r→JsP X ck (.FormattedValue (.Name x p) (-1) none q :: r)
def SmV (σ:List (Option ζ)) (ck:List Nat):Prop:=∀ i∈ck,∃ (n:Nat) (t:Tok),σ[i+1]? = some (some (.int n t))∧n<100000
theorem xH {E:ζ→π→Prop} {ck:List Nat} {es:List Μ} (h:JsP X ck es):∀ {z:Z} {acc:ι} {Q:ι→π→Prop},Rep X z→SmV z.σ ck→acc.length+1000 * es.length≤100000→(∀ out t,out.length≤100000→Q out { z.s with toks:=t })→Joins X.M X.A E (evalEach es X.env) acc Q z.s:=by
 have sz:∀ {n},n≤100000→n≤ϛ:=fun h=>ϖ h (by decide)
 induction h with
 | nil=>exact fun I hs hl q=>q _ _ (by simpa using hl)
 | @c x j p r hx _ ih=>
   intro z acc Q I hs hl q
   rw [Κ] at hl
   show Β _ _ (eval (.Constant (.str x) j p) X.env) _ _ _
   refine ø ⟨x,_,rfl,sz (by rw [ϲ];omega),?_⟩
   exact ih (z:={ z with s:={ z.s with toks:=z.s.toks+1 } }) (I.grow (aq I.gh .tok)) hs (by rw [ϲ];omega) q
 | @f x i p p2 r hi hN hv hd _ ih=>
   intro z acc Q I hs hl q
   rw [Κ] at hl
   simp only [ŭ] at hd
   obtain ⟨n,t,e,hn⟩:=hs i hi
   have lt:=int_text_length_le10 (a:=(n:Int)) (k:=5) (by decide) hn
   have lg:(n:Int).natAbs.log2<1920:=by
    show n.log2<1920
    by_cases c:n=0
    ·subst c;decide
    ·exact á ((EF (k:=17) c).mpr (by omega)) (by decide)
   have le:(Ϝ (toString (n:Int))).length≤6:=by rw [ş];exact lt
   refine FD (bR I hN hv e (wpAny_formatField_int lg ⟨_,_,rfl,sz (by rw [ϲ];omega),?_⟩) hd.1 hd.2)
   exact ih (z:={ z with s:={ z.s with toks:=z.s.toks+1+1 } }) (I.grow (aq I.gh .tok)) hs (by rw [ϲ];omega) q
inductive j4 (X:Cx) (ck:Option (List Nat)):List Ô→List (ι×Nat)→Prop
 | nil:j4 X ck [] []
 | base {c:List Nat} {s0 Bn:ι} {B:Δ} {np ap p1 p2 cp ep:ϭ} {e1 e2:Μ} {es r l}:ck=some c→X.N[0]? = some s0→Vis X.env.scope s0→((s0 == ("__debug__":ι)) || (s0 == ("__classdict__":ι)) || (Bn == ("__debug__":ι)))=false→Gl X Bn→X.mg Bn=some (.ref B)→ql X.K B→JsP X c (e1 :: e2 :: es)→es.length≤50→(ap.endLine == cp.line)=true→j4 X ck r l→j4 X ck (.Expr (.Call (.Attribute (.Name Bn np) "__init__" ap) [.Name s0 p1,.JoinedStr (e1 :: e2 :: es) p2] [] cp) ep :: r) l
 | cons {s0 x:ι} {f:ι} {i:Nat} {p1 p2 p3 pos:ϭ} {r l}:X.N[0]? = some s0→X.N[i]? = some x→Vis X.env.scope s0→Vis X.env.scope x→((s0 == ("__debug__":ι)) || (s0 == ("__classdict__":ι)) || (x == ("__debug__":ι)) || (x == ("__classdict__":ι)))=false→j4 X ck r l→j4 X ck (.Assign [.Attribute (.Name s0 p1) f p2] (.Name x p3) pos :: r) ((f,i) :: l)
theorem ug {P:List Δ→List (ι×ζ)→Ϸ→Prop} {ck:Option (List Nat)} (H:Pri X p nm P) (hB:∀ c,ck=some c→Bas X p P) {body:List Ô} {l:List (ι×Nat)} (B:j4 X ck body l):∀ (z:Z) (ch:List Δ) (l0:List (ι×ζ)) (vs:List ζ),Rep X z→z.σ[0]? = some (some (.ref p))→P ch l0 z.s.heap→(∀ b∈ch,Fre X z b∧¬ Own z b)→(∀ q∈l,q.1∈nm)→(l0.map (·.1) ++ l.map (·.1)).Nodup→l0.length+l.length<900→l.map (fun q=>z.σ[q.2]?)=vs.map (fun v=>some (some v))→(∀ c,ck=some c→SmV z.σ c) →
 Β X.M X.A (execs body X.env) (fun fl s'=>fl = .next∧∃ ch',P ch' (l0 ++ (l.map (·.1)).zip vs) s'.heap∧(∀ b∈ch',b∈ch∨z.h b=none)∧(s'.os=z.s.os∧s'.gens=z.s.gens)∧(∀ b o,b ∉ ch→z.h b=some o→s'.heap.get? b=some o)) NoE z.s:=by
 induction B with
 | nil=>exact fun z ch l0 vs I _ hP hf _ _ _ _ _=>ķ ⟨rfl,ch,by simpa using hP,fun b hb=>.inl hb,⟨rfl,rfl⟩,fun _ _ _ e=>e⟩
 | @base c s0 Bn Ba np ap p1 p2 cp ep e1 e2 es r l hc n0 v0 hd hg hm2 Z J hes hln B ih=>
   intro z ch l0 vs I h0 hP hf hm nd hz hv hs
   simp only [ŭ] at hd
   have mp:Ş true (.Name Bn np) X.env ap cp=pure cp:=by unfold Ş;rw [hln];rfl
   refine ŧ (ſ (Œ (pl:=do return (← importBound (.Name Bn np) X.env).getD true) (he:=by
    show (eval (.Name Bn np) X.env >>= fun ov=>Ř ap.atName >>= fun _=>holding [ov] (calleeOf true (.Name Bn np) X.env ov "__init__") >>= fun x=>Ş true (.Name Bn np) X.env ap cp >>= fun callPos=>ũ callPos x.1 x.2 (ϻ cp (Η [.Name s0 p1,.JoinedStr (e1 :: e2 :: es) p2] X.env)) (Ð cp (ϩ [] X.env)))=_
    rw [mp];rfl) (bg I hg hm2 (PySem.W.method_cls I.toHR.kin Z.ga (PySem.W.cls_value I.toHR.kin Z.rd Z.at_ rfl ?_)) hd.2)) I.quiet rfl)
   have I1:Rep X { z with s:={ z.s with toks:=z.s.toks+1 } }:=I.grow (aq I.gh .tok)
   refine Ú rfl (è (Λ (bR I1 n0 v0 h0 (Λ (GQ (pos:=p2) (xH J I1 (hs c hc) (by show ģ.length+1000 * (es.length+1+1)≤100000;have:ģ.length=0:=rfl;omega) fun out t ho=>⟨ϖ ho (by decide),Ω ?_⟩))) hd.1.1 hd.1.2)))
   refine hB c hc (I.toHR.kin) hP (by rw [Ċ];exact Ξ rfl) fun h' hP' c2 k=>?_
   have W:Wr (frs X.fr) ch z.s.heap h':=⟨fun b o e _ n=>k b o n e,fun b o e n=>⟨o.slots,k b o n e⟩,fun b o e=>by
    by_cases m:b∈ch
    ·exact c2 b m
    ·exact ⟨o,k b o m e⟩⟩
   have I2:Rep X { z with s:={ z.s with heap:=h',toks:=t+1 } }:=I.wr W hf
   refine Υ (ih { z with s:={ z.s with heap:=h',toks:=t+1 } } ch l0 vs I2 h0 hP' hf hm nd hz hv hs) (fun fl s' ⟨e,ch2,q1,q2,q3,q5⟩=>⟨e,ch2,q1,fun b hb=>(q2 b hb).imp_right fun w=>?_,q3,fun b o n e=>q5 b o n (k b o n e)⟩) fun _ _ w=>w
   cases q:z.h b with
   | none=>rfl
   | some o=>obtain ⟨o',e'⟩:=W.there b o q;rw [show h'.get? b=none from w] at e';cases e'
 | @cons s0 x f i p1 p2 p3 pos r l n0 ni v0 vi hd B ih=>
   intro z ch l0 vs I h0 hP hf hm nd hz hv hs
   simp only [ŭ] at hd
   obtain ⟨⟨⟨d1,d2⟩,d3⟩,d4⟩:=hd
   match vs,hv with
   | [],hv=>cases hv
   | v :: vs,hv=>
     rw [Ϲ,Ϲ] at hv
     injection hv with hv1 hv2
     have nf:f ∉ l0.map (·.1)∧(l0.map (·.1) ++ [f] ++ l.map (·.1)).Nodup:=by
      rw [Ϲ] at nd
      refine ⟨fun m=>?_,by simpa using nd⟩
      exact (é.mp nd).2.2 f m f ν rfl
     refine ŧ (ó (bR I ni vi hv1 (bR I n0 v0 h0 (H.set I.toHR.kin hP (hm _ ν) nf.1 (by simp at hz;omega) fun h' ch' t hP' c1 c2 k=>?_) d1 d2) d3 d4) d5)
     have W:Wr (frs X.fr) ch z.s.heap h':=⟨fun b o e _ n=>k b o n e,fun b o e n=>⟨o.slots,k b o n e⟩,fun b o e=>by
      by_cases m:b∈ch
      ·exact H.ex hP' b (c2 b m)
      ·exact ⟨o,k b o m e⟩⟩
     have I1:Rep X { z with s:={ z.s with heap:=h',toks:=t } }:=I.wr W hf
     have f1:∀ b∈ch',Fre X z b∧¬ Own z b:=fun b hb=>(c1 b hb).elim (hf b) fun n=>I.fre n
     refine Υ (ih { z with s:={ z.s with heap:=h',toks:=t } } ch' (l0 ++ [(f,v)]) vs I1 h0 hP' f1 (fun q m=>hm q (μ _ m)) (by rw [ç];exact nf.2) (by simp at hz ⊢;omega) hv2 hs) (fun fl s' ⟨e,ch2,q1,q2,q3,q5⟩=>⟨e,ch2,by rw [Ç] at q1;exact q1,fun b hb=>?_,q3,fun b o n e=>?_⟩) fun _ _ w=>w
     ·rcases q2 b hb with w | w
      ·exact c1 b w
      ·refine .inr ?_
       cases q:z.h b with
       | none=>rfl
       | some o=>obtain ⟨o',e'⟩:=W.there b o q;rw [show h'.get? b=none from w] at e';cases e'
     ·by_cases m:b∈ch'
      ·rcases c1 b m with w | w
       ·exact ZX w n
       ·rw [show z.h b=none from w] at e;cases e
      ·exact q5 b o m (k b o n e)
structure FnI (X:Cx) (lv:Nat) (f:Δ) (fd:Þ) (ps nm:List ι) (ck:Option (List Nat)):Prop where
 len:ps.length=nm.length+1
 run:∀ (A:ϒ) (fr:List CT) (z:Z) (args:Args) (us:List ζ) (p:Δ) (P:List Δ→List (ι×ζ)→Ϸ→Prop) (ch:List Δ),ba lv A→HR { X with A:=A,fr:=fr } z→Gs z.s fd args (ps.zip (.ref p :: us))→us.length=nm.length→Pri X p nm P→(∀ c,ck=some c→Bas X p P∧∀ i∈c,∃ (n:Nat) (t:Tok),us[i]? = some (.int n t)∧n<100000)→P ch [] z.s.heap→(∀ b∈ch,z.G b=none∧¬ Mu z.ρ b∧b ∉ frs fr) →
  Ŀ X.M A (.call (.ref f) args) (fun r s'=>r = .ok (.ret .none)∧∃ ch',P ch' (nm.zip us) s'.heap∧(∀ b∈ch',b∈ch∨z.h b=none)∧(s'.os=z.s.os∧s'.gens=z.s.gens)∧(∀ b o,b ∉ ch→z.h b=some o→s'.heap.get? b=some o)) z.s
theorem xn {name qual:ι} {params:DM} {body:List Ô} {scope:Ĝ} {dV kV doc pm ct oc cd:ζ} {an od:Option Δ} {osl:Array (Option ζ)} {ps:List ι} {f:Δ} {k:Nat} {l:List (ι×Nat)} (lk:X.K.lookup f=some ⟨oc,od,.func (ϵ name qual params body scope dV kV doc pm an cd ct),osl⟩) (hcd:Ý X.K cd qual=true) (S:dg ps ps scope) (hn:ps.length=nm.length+1) (nd:nm.Nodup) (h9:nm.length<900) (hl:l=nm.zip (õ 1 nm.length))
 {ck:Option (List Nat)} (hb:∀ A fr L,j4 (cxF X X.cal X.cal1 ps qual scope f cd A fr L) ck body l):FnI X (k+1) f (ϵ name qual params body scope dV kV doc pm an cd ct) ps nm ck:=by
 refine ⟨hn,fun A fr z args us p P ch hr I hbd hlu H hB hP hc=>?_⟩
 have hl2:(Ϥ p :: us).length=ps.length:=by rw [Κ];omega
 have KX:X.K.In z.s.heap:=I.kin
 have lim:z.s.heap.NoLimit:=I.md.nolimit.keeps (Rep.bk I)
 have hkind:∀ y∈ps.zip (.ref p :: us),scope.names.lookup y.1=some .local∨(scope.names.lookup y.1=some .cell∧((EO (z.s.heap.objs.size+1) scope.names []).lookup y.1).isSome=true):=fun ⟨n,v⟩ hy=>by
  rcases S.par n (Ī hy).1 with q | q
  ·exact .inl q
  ·exact .inr ⟨q,ŋ _ _ _ (.inl q)⟩
 refine Fg hr.depth (KX _ _ lk) rfl S.co S.gen rfl (Eg KX hcd) (hbd _ _ _ _ ?_)
 refine E8 S.kind hkind fun env he s1 x=>?_
 subst he
 refine ⟨lim.keeps x.toInCall.keep,codeAny_func ?_⟩
 have hk:∀ b o,z.h b=some o→s1.heap.get? b=some o:=x.toInCall.keep
 have J:=iR (es:=Θ (Ϥ p :: us).length none) (cal:=X.cal) (cal1:=X.cal1) S I hr hl2 (â ..) (fun i d e=>by rw [ð] at e;split at e <;> cases e) x
 have lcf:∀ {a o},z.h a=some o→¬ Lc (cxF X X.cal X.cal1 ps qual scope f cd A fr z.s.heap.objs.size) a:=fun {a o} e h=>by
  have:z.s.heap.objs.size≤a:=by
   rcases h with rfl | ⟨y,e⟩
   ·exact ω _
   ·exact ą (x.above y _ (Å e))
  exact ZX (Τ e) (C3.mpr this)
 have noz:∀ {b},b∈ch→∃ o,z.h b=some o:=fun hb=>H.ex hP _ hb
 have hP1:P ch [] s1.heap:=H.keep hP fun b _ o e=>hk b o e
 have fc:∀ b∈ch,Fre (cxF X X.cal X.cal1 ps qual scope f cd A fr z.s.heap.objs.size) ⟨z.ρ,z.G,⟨Θ (Ϥ p :: us).length none ++ Θ (ps.length - ps.length) none,[],z.t.st⟩,(Ϥ p :: us).map some ++ Θ (ps.length - ps.length) none,s1⟩ b∧¬ Own ⟨z.ρ,z.G,⟨Θ (Ϥ p :: us).length none ++ Θ (ps.length - ps.length) none,[],z.t.st⟩,(Ϥ p :: us).map some ++ Θ (ps.length - ps.length) none,s1⟩ b:=fun b hb=>by
  obtain ⟨o,e⟩:=noz hb
  obtain ⟨c1,c2,c3⟩:=hc b hb
  refine ⟨⟨c1,c2,fun m=>?_,lcf e⟩,fun ⟨i,m,_⟩=>nomatch m⟩
  rcases ξ.mp (show b∈z.s.heap.objs.size :: frs fr from m) with q | q
  ·exact ZX (Τ e) (by rw [q];exact ħ _)
  ·exact c3 q
 have lm:l.map (·.1)=nm:=by rw [hl,List.map_fst_zip (by simp)]
 have H':Pri (cxF X X.cal X.cal1 ps qual scope f cd A fr z.s.heap.objs.size) p nm P:=⟨H.ex,H.keep,H.set⟩
 refine Υ (ug H' (fun c e=>(hB c e).1) (hb A fr z.s.heap.objs.size) _ ch [] us J (eh (n:=ps.length - ps.length) (i:=0) rfl) hP1 fc (fun q m=>by rw [← lm];exact List.mem_map_of_mem m) (by rw [lm];simpa using nd) (by have:=ZS Eo lm;rw [Ι] at this;simp;omega) ?_ fun c e i hi=>?_) (fun fl s' ⟨e,ch',q1,q2,q3,q5⟩=>?_) fun _ _ w=>w.elim
 ·rw [hl]
  refine List.ext_getElem? fun i=>?_
  rw [Φ,Φ]
  cases q:us[i]? with
  | none=>
    have:¬ i<us.length:=fun h=>by rw [Α h] at q;cases q
    rw [ť (by rw [É,List.length_range'];omega)];rfl
  | some v=>
    have hi:i<us.length:=(τ.mp q).1
    have e1:(nm.zip (õ 1 nm.length))[i]? = some (nm[i]'(by omega),1+i):=by rw [å];exact ⟨Α _,by rw [List.getElem?_range' (by omega)];simp⟩
    rw [e1]
    show some (((Ϥ p :: us).map some ++ Θ (ps.length - ps.length) none)[1+i]?)=some (some (some v))
    rw [eh (d:=v) (by rw [Ei,Á];exact q)]
 ·obtain ⟨n,t,e1,e2⟩:=(hB c e).2 i hi
  exact ⟨n,t,eh (d:=Value.int n t) (by rw [Á];exact e1),e2⟩
 ·subst e
  rw [lm] at q1
  have none1:∀ {a},s1.heap.get? a=none→z.h a=none:=fun {a} n=>by
   cases q:z.h a with
   | none=>rfl
   | some o=>rw [hk a o q] at n;cases n
  obtain ⟨h1,tk,e1,_⟩:=x.done
  exact ⟨rfl,ch',q1,fun b hb=>(q2 b hb).imp_right none1,⟨q3.1.trans (by rw [e1]),q3.2.trans (by rw [e1])⟩,fun b o n e=>q5 b o n (hk b o e)⟩
end
section
variable {X:Cx} {z z' z0 z1:Z}
theorem fM {C:Δ} {x:ι} {Q:ζ→π→Prop} {E:ζ→π→Prop} (I:Rep X z) (kp:ϕ X.K (.ref C)=true) (hg:Gl X x) (hm:X.mg x=some (.ref C)) (hd:(x == ("__debug__":ι))=false) (he:Η (ea :: er) X.env=(false,eval ea X.env) :: Η er X.env) (hpl:(ϻ pos (Η er X.env)).any (·.1)=false)
 (h:Β X.M X.A (spliced (ϻ pos (Η (ea :: er) X.env))) (fun us s'=>X.K.In s'.heap∧Β X.M X.A (call (.ref C) us) Q E s') E z.s):Β X.M X.A (eval (.Call (.Name x p) (ea :: er) [] pos) X.env) Q E z.s:=
 æ (bg I hg hm (ĭ (h₀:=X.base) I.md.kin kp h he hpl) hd)
theorem ya {x:ι} {j:Nat} {cl:Cl} {i:CI} (F:bX X X.cal1 lv cl.init f) (hr:ba (lv+1) X.A) (M:Mk X.K i.ad f) (hcl:X.Γ.cl[j]? = some cl) (hw:cl.what=0) (hci:X.W.ci[j]? = some i) (hwh:X.W.what[j]? = some 0) (hg:Gl X x) (hm:X.mg x=some (.ref i.ad)) (ha:LA X (ea :: er) es) (hd:(x == ("__debug__":ι))=false) (he:Η (ea :: er) X.env=(false,eval ea X.env) :: Η er X.env) (hpl:(ϻ pos (Η er X.env)).any (·.1)=false):LE X (.Call (.Name x p) (ea :: er) [] pos) (.new j es):=fun br z I nb=>
 fM I M.kp hg hm hd he hpl ((ha true pos).go .refl I rfl nb fun z1 l us y1 x1 I1 r1 e1=>⟨I1.toHR.kin,oQ F hr M hcl hw hci hwh x1 I1 r1 e1 nb⟩)
theorem uE {x:ι} {j:Nat} {cl:Cl} {i:CI} {fd:Þ} {ps:List ι} (F:FnI X lv f fd ps i.nm none) (hb:bS X.K fd ps []) (hr:ba (lv+1) X.A) (M:Mk X.K i.ad f) (C:Cls X.K i.ad) (na:∀ f∈i.nm,cy X.K i.ad f) (hcl:X.Γ.cl[j]? = some cl) (hci:X.W.ci[j]? = some i) (hwh:X.W.what[j]? = some 1) (hn:i.nm.length=cl.at_.length) (hg:Gl X x) (hm:X.mg x=some (.ref i.ad)) (ha:LA X (ea :: er) es) (hd:(x == ("__debug__":ι))=false) (he:Η (ea :: er) X.env=(false,eval ea X.env) :: Η er X.env) (hpl:(ϻ pos (Η er X.env)).any (·.1)=false):LE X (.Call (.Name x p) (ea :: er) [] pos) (.newd j es):=fun br z I nb=>
 fM I M.kp hg hm hd he hpl ((ha false pos).go .refl I rfl nb fun z1 l us y1 x1 I1 r1 e1=>⟨I1.toHR.kin,cg x1 I1 e1 nb fun d q=>by
  rw [hcl] at q
  obtain ⟨⟨_,hl⟩,rfl⟩:=aN (show (if cl.what=1∧l.length=cl.at_.length then some (D.ins j l) else none)=some d from q)
  have rs:=r1.rds
  have lu:us.length=i.nm.length:=by rw [← rs.len,hl,hn]
  have g:Gr z1.s { z1.s with heap:=(z1.s.heap.push ϙ).push (Ϣ i.ad z1.s.heap.objs.size) }:=⟨rfl,rfl,fun b o e=>ς _ (ς _ e)⟩
  have e1:(z1.s.heap.push ϙ).get? z1.s.heap.objs.size=some ϙ:=χ z1.s.heap rfl
  have e2:((z1.s.heap.push ϙ).push (Ϣ i.ad z1.s.heap.objs.size)).get? (z1.s.heap.objs.size+1)=some (Ϣ i.ad z1.s.heap.objs.size):=by
   have:=χ (z1.s.heap.push ϙ) (o:=Ϣ i.ad z1.s.heap.objs.size) rfl
   rwa [ϴ] at this
  have n1:z1.h (z1.s.heap.objs.size+1)=none:=Ϙ (ê _)
  have n0:=aD z1
  have ne:z1.s.heap.objs.size≠z1.s.heap.objs.size+1:=ϝ (Ŕ _)
  have bd:=hb { z1.s with heap:=(z1.s.heap.push ϙ).push (Ϣ i.ad z1.s.heap.objs.size) } (.ref (z1.s.heap.objs.size+1) :: us) (I1.toHR.kin.keeps g.k) (by rw [ϧ,Κ,F.len,lu])
  rw [ϧ] at bd
  have H1:=(I1.toHR.grow (aq I1.gh g)).at (A:=X.A.under (.builtin "type.__call__" ⟨.ref i.ad :: us,[]⟩)) (eA i.ad us []) rfl
  refine ĉ (kQ (f:=f) I1.toHR.kin M.makes M.init (beq_iff_eq.mp M.fn) (ì (F.run _ X.fr { z1 with s:={ z1.s with heap:=(z1.s.heap.push ϙ).push (Ϣ i.ad z1.s.heap.objs.size) } } ⟨.ref (z1.s.heap.objs.size+1) :: us,[]⟩ us _ _ [z1.s.heap.objs.size+1,z1.s.heap.objs.size] (hr.make i.ad us []) H1 bd lu (vp C na) (fun _ e=>nomatch e) ⟨_,rfl,e2,ne,Â _,_,ς _ e1,#[],_,rfl,(fun e he=>ZX he (by simp)),.nil,fun _=>rfl⟩ fun b hb=>?_) fun r s' hq=>?_))
  ·rcases ξ.mp hb with w | w
   ·rw [w];exact ⟨(I1.fre n1).1.1,(I1.fre n1).1.2.1,(I1.fre n1).1.2.2.1⟩
   ·rw [η.mp w];exact ⟨(I1.fre n0).1.1,(I1.fre n0).1.2.1,(I1.fre n0).1.2.2.1⟩
  ·obtain ⟨rfl,ch',⟨dx,ec,io⟩,c1,os,k⟩:=hq
   have gr:Gr z1.s s':=⟨os.1,os.2,fun b o e=>k b o (fun m=>by
    have e:z1.h b=some o:=e
    rcases ξ.mp m with w | w
    ·rw [w,n1] at e;cases e
    ·rw [η.mp w,n0] at e;cases e) (g.k b o e)⟩
   have nd:z1.h dx=none:=by
    rcases c1 dx (by rw [ec];simp) with w | w
    ·rcases ξ.mp w with w | w
     ·rw [w];exact n1
     ·rw [η.mp w];exact n0
    ·cases q:z1.h dx with
     | none=>rfl
     | some o=>exact ZX (g.k dx o q) (by rw [show ((z1.s.heap.push ϙ).push (Ϣ i.ad z1.s.heap.objs.size)).get? dx=none from w];exact fun z=>nomatch z)
   obtain ⟨i1,i2,i3,oo,i4,i5⟩:=io
   exact ⟨rfl,gr,_,i,us,rfl,hci,by rw [hl,hn];exact ω _,.inl ⟨hwh,dx,(eQ n1).trans i1,i2,i3,oo,(eQ nd).trans i4,i5⟩,rs.mono (ο _) (bZ I1.gh gr).gg⟩⟩)
theorem rU {x:ι} {j:Nat} {k:Cl} {i:CI} {fd:Þ} {ps:List ι} {fI:Δ} {Bx nwI iniI:String} {bmB:List ζ} {np cp pos:ϭ} (Fb:Ĥ Bx nwI iniI bmB) (O:gY X.K i.ad fI bmB nwI) {ck:Option (List Nat)} (F:FnI X lv fI fd ps i.nm ck) (hk:ck=none∨(ck=some k.chk∧gY X.K i.ad fI veB "ValueError.__new__")) (hb:bS X.K fd ps []) (hr:ba (lv+1) X.A) (Z:fJ X.K i.ad) (na:∀ f∈i.nm,Ν X.K (.ref i.ad) f=some none) (hcl:X.Γ.cl[j]? = some k) (hci:X.W.ci[j]? = some i) (hwh:X.W.what[j]? = some 2) (hn:i.nm.length=k.at_.length) (h0:k.at_.isEmpty=false)
 (be:ϥ X.K i.ad (.type "BaseException")=some true) (ty:þ X.K (.ref i.ad)=some (.type "type")) (kp:ϕ X.K (.ref i.ad)=true) (hc:X.calm=true) (hg:Gl X x) (hm:X.mg x=some (.ref i.ad)) (ha:LA X (ea :: er) es) (hd:(x == ("__debug__":ι))=false) (he:Η (ea :: er) X.env=(false,eval ea X.env) :: Η er X.env) (hpl:(ϻ cp (Η er X.env)).any (·.1)=false):LS X (.Raise (some (.Call (.Name x np) (ea :: er) [] cp)) none pos) (.rais j es):=fun z I nb=>by
 rw [arm_exec_Raise]
 refine ε (ã (pZ (K:=X.K) (C:=i.ad) be ty (I.hd hc) (ε ?_)))
 refine fM I kp hg hm hd he hpl ((ha false cp).gos (f:=fun l s=>if iP X.Γ j l then .exc j (pH X.Γ j l) s else .bad) .refl I rfl nb fun z1 l us y1 x1 I1 r1 e1=>⟨I1.toHR.kin,?_⟩)
 have rs:=r1.rds
 by_cases c:iP X.Γ j l=true
 rotate_left
 ·rw [ZY c] at e1;exact ZX e1 nb
 rw [ZZ c] at e1
 have ea:pH X.Γ j l=l:=by unfold pH;rw [hcl];exact ZY (by rw [h0];exact ϟ)
 rw [ea] at e1
 unfold iP at c
 rw [hcl] at c
 dsimp only at c
 rw [ZY (by rw [h0];exact ϟ)] at c
 simp only [Χ,decide_eq_true_eq] at c
 obtain ⟨⟨⟨c1,c2⟩,c3⟩,c4⟩:=c
 have c1:l.length=k.at_.length:=by simpa using c1
 have lu:us.length=i.nm.length:=by rw [← rs.len,c1,hn]
 have l0:l≠[]:=by intro w;rw [w] at c4;simp at c4
 refine qO (h:=z1.s.heap) (g:=z1.s.gens) (d:=z1.s.drawn) (t:=z1.s.toks) (os:=z1.s.os) Fb I1.toHR.kin O (by rw [← rs.len];exact big (by omega)) fun h' p m=>?_
 have kz:∀ b o,z1.h b=some o→h'.get? b=some o:=fun b o e=>m.keeps b o e
 have np:z1.h p=none:=m.new
 obtain ⟨tt,ht,_,_⟩:=m.there
 have g:Gr z1.s { z1.s with heap:=h' }:=⟨rfl,rfl,kz⟩
 have bd:=hb { z1.s with heap:=h' } (.ref p :: us) (I1.toHR.kin.keeps kz) (by rw [ϧ,Κ,F.len,lu])
 rw [ϧ] at bd
 have H1:=(I1.toHR.grow (aq I1.gh g)).at (A:=X.A.under (.builtin "type.__call__" ⟨.ref i.ad :: us,[]⟩)) (eA i.ad us []) rfl
 have fp:=I1.fre np
 refine ĉ (ì (F.run _ X.fr { z1 with s:={ z1.s with heap:=h' } } ⟨.ref p :: us,[]⟩ us p _ [p] (hr.make i.ad us []) H1 bd lu (oH Z na) (fun c e=>?_) ⟨_,_,ht,rfl,rfl,rfl,.inl ⟨rfl,rfl,rfl⟩⟩ fun b hb=>?_) fun r s' hq=>?_)
 ·rcases hk with w | ⟨w,O'⟩
  ·rw [w] at e;cases e
  ·rw [w] at e;cases e
   refine ⟨tR O' (oH Z na),fun j hj=>?_⟩
   have sm:=ϣ.mp c2 j hj
   cases q:l[j]? with
   | none=>rw [q] at sm;cases sm
   | some d=>
     obtain ⟨u,hu,ru⟩:=rs.get q
     rw [q] at sm
     cases d with
     | int n=>
       obtain ⟨t,rfl⟩:=ru
       unfold sY at sm
       simp only [Χ,decide_eq_true_eq] at sm
       obtain ⟨m,rfl⟩:=E5 sm.1
       exact ⟨m,t,hu,by omega⟩
     | _=>cases sm
 ·rw [η.mp hb];exact ⟨fp.1.1,fp.1.2.1,fp.1.2.2.1⟩
 obtain ⟨rfl,ch',⟨o,vs,q1,q2,q3,q4,q5⟩,cc,os,kk⟩:=hq
 have gr:Gr z1.s s':=⟨os.1.trans g.os,os.2.trans g.gs,fun b o e=>kk b o (fun w=>by have e:z1.h b=some o:=e;rw [η.mp w,np] at e;cases e) (kz b o e)⟩
 rcases q5 with ⟨w,_,_⟩ | ⟨d,od,q6,q7,q8,q9,q10⟩
 ·have:i.nm.zip us≠[]:=fun w=>by
   have hl:=rs.len
   have:0<l.length:=Ÿ.mpr l0
   have w0:(i.nm.zip us).length=0:=by rw [w];rfl
   rw [É] at w0
   omega
  exact ZX w this
 have nd:z1.h d=none:=by
  rcases cc d (by rw [q8];simp) with w | w
  ·exact ZX (η.mp w) q7
  ·cases q:z1.h d with
   | none=>rfl
   | some o=>have:=kz d o q;rw [show h'.get? d=none from w] at this;cases this
 have fd:=I1.fre nd
 have gw:Grw z1 (fun b=>if b=d then some od else z1.G b) s':=⟨gr,fun b o e=>by
  by_cases c:b=d
  ·subst c;rw [fd.1.1] at e;cases e
  ·rw [ZY c];exact e,fun b o e=>by
  by_cases c:b=d
  ·subst c;rw [ZZ rfl] at e;cases e;exact q9
  ·rw [ZY c] at e;exact gr.k b o (I1.gh b o e),fun b o e=>by
  by_cases c:b=d
  ·subst c;exact .inr nd
  ·rw [ZY c] at e;exact .inl e⟩
 have I3:=I1.grow gw
 have pG:(if p=d then some od else z1.G p)=none:=by rw [ZY (Ϡ q7)];exact fp.1.1
 refine ⟨rfl,ε (ã (θ ⟨p,o,vs,rfl,I3.toHR.kin,q1,q2,q3,q4,{ z1 with G:=fun b=>if b=d then some od else z1.G b,s:=s' },j,l,rfl,e1,x1.trans gw.ee.go,I3,p,.ref i.ad,some d,rfl,⟨i,hci,hwh,rfl,by rw [c1,hn];exact ω _,.inr ⟨d,od,us,rfl,ZZ rfl,q10,rs.mono (ο _) gw.gg⟩⟩,⟨x1.st.no np,⟨pG,fp.1.2⟩,fp.2⟩,.inl ⟨o,vs,q1,⟨q2,q6⟩,q3,q4⟩⟩))⟩
def FnJ (X:Cx) (lv:Nat) (f:Δ) (fd:Þ) (ps nm:List ι) (k:Cl) (C:Δ):Prop:=∃ ck,FnI X lv f fd ps nm ck∧(ck=none∨(ck=some k.chk∧gY X.K C f veB "ValueError.__new__"))
end
def zB (K:υ) (C:Δ) (bmB:List ζ) (newId:String):Prop:=∃ (nm q:ι) (N:Δ) (bs bm:List ζ) (hdct:Bool) (sn:List ι) (sub:List ζ) (ab:Bool) (col:Option Bool) (dd:Option Δ) (k0 k1 k2 k3 k5:Option ζ),
 K.lookup C=some (Fs nm q C N bs bm hdct sn sub ab col dd k0 k1 k2 k3 k5 newId)∧PySem.W.nsOkIn K N=true∧Ϗ K N "__init__" = some none∧F3 K bmB bm=true
inductive TxP (X:Cx):List Μ→E→Prop
 | nil:TxP X [] .nil
 | c {x:ι} {j:Nat} {p:ϭ} {r es}:x.length≤1000→TxP X r es→TxP X (.Constant (.str x) j p :: r) es
 | f {x:ι} {i:Nat} {p q:ϭ} {r es}:X.N[i]? = some x→Vis X.env.scope x→((x == ("__debug__":ι)) || (x == ("__classdict__":ι)))=false→TxP X r es→TxP X (.FormattedValue (.Name x p) (-1) none q :: r) (.cons (.op .add (.v i) (.c (.int 0))) es)
 | r {x:ι} {i:Nat} {p q:ϭ} {r es}:X.N[i]? = some x→Vis X.env.scope x→((x == ("__debug__":ι)) || (x == ("__classdict__":ι)))=false→TxP X r es→TxP X (.FormattedValue (.Name x p) 114 none q :: r) (.cons (.op .add (.v i) (.c (.str ""))) es)
section
variable {X:Cx} {z:Z}
inductive TxA (X:Cx):Μ→E→Prop
 | c {x:ι} {j:Nat} {p:ϭ}:x.length≤1000→TxA X (.Constant (.str x) j p) .nil
 | j {e1 e2:Μ} {r:List Μ} {p:ϭ} {es:E}:TxP X (e1 :: e2 :: r) es→r.length≤8→TxA X (.JoinedStr (e1 :: e2 :: r) p) es
end
end L2.Ev
namespace L2.Ev
theorem ml {prog:ϸ} {w:Ü} {A:ϒ} {E:ζ→π→Prop} {s:π} {Q:Option ζ→π→Prop} {δ:Type} {R:δ→ζ→Prop} {a:Δ} {D:List (ι×δ)} {z:ι} {tz:Tok} {d:δ}
 (T:FC R s.heap a D) (hat:Ó z D=some d) (h:∀ v,R d v→Q (some v) { s with toks:=s.toks+1 }):Β (model prog w) A (Ds a (.str z tz)) Q E s:=by
 obtain ⟨_,o,es,ep,ho,_,hd,hr⟩:=T
 obtain ⟨v,hv,hfl⟩:=hr.find_some hat
 have all:(es.all fun e=>isExactStrKey e.key)=true:=by
  obtain ⟨l⟩:=es
  simpa using hr.exact
 have hq:Q (Eb (fun k v=>v.isStr k) es z) { s with toks:=s.toks+1 }:=by
  rw [show Eb (fun k v=>v.isStr k) es z=some v by obtain ⟨l⟩:=es;simpa [Eb] using hv]
  exact h v hfl
 rw [G0] at hq
 unfold Ds
 refine ό ?_
 refine ε (DF (ε (EI (s:={ s with toks:=s.toks+1 }) ho hd all ?_)))
 cases hi:es.findIdx? fun e=>e.key.isStr z with
 | none=>
   rw [hi] at hq
   exact θ hq
 | some i=>
   rw [hi] at hq
   exact ε (Gf (s:={ s with toks:=s.toks+1 }) ho hd (θ hq))
theorem nH {prog:ϸ} {w:Ü} {A:ϒ} {E:ζ→π→Prop} {s:π} {Q:Option ζ→π→Prop} {δ:Type} {R:δ→ζ→Prop} {a:Δ} {D:List (ι×δ)} {z:ι} {tz:Tok}
 (T:FC R s.heap a D) (hat:Ó z D=none) (h:Q none { s with toks:=s.toks+1 }):Β (model prog w) A (Ds a (.str z tz)) Q E s:=by
 obtain ⟨_,o,es,ep,ho,_,hd,hr⟩:=T
 have hv:=hr.find_none hat
 have all:(es.all fun e=>isExactStrKey e.key)=true:=by
  obtain ⟨l⟩:=es
  simpa using hr.exact
 have hq:Q (Eb (fun k v=>v.isStr k) es z) { s with toks:=s.toks+1 }:=by
  rw [show Eb (fun k v=>v.isStr k) es z=none by obtain ⟨l⟩:=es;simpa [Eb] using hv]
  exact h
 rw [G0] at hq
 unfold Ds
 refine ό (ε (DF (ε (EI (s:={ s with toks:=s.toks+1 }) ho hd all ?_))))
 cases hi:es.findIdx? fun e=>e.key.isStr z with
 | none=>
   rw [hi] at hq
   exact θ hq
 | some i=>
   rw [hi] at hq
   exact ε (Gf (s:={ s with toks:=s.toks+1 }) ho hd (θ hq))
section
variable {X:Cx} {z z1:Z} {a:Δ} {t:List (ι×L2.Bk.Dk)} {j:Nat} {x:ι}
abbrev TbL (X:Cx) (a:Δ) (t:List (ι×L2.Bk.Dk)):Prop:=Df (aT X.K) (fun b=>X.K.lookup b) a t=true
theorem jY (I:HR X z) (hK:TbL X a t):FC (fun d v=>aT X.K d v=true) z.s.heap a t:=KTD.tab_of_look (fun _ _ h=>h) (fun b o e=>I.kin b o e) hK
theorem yd (hg:Gl X x) (hm:X.mg x=some (.ref a)) (ht:X.Γ.tb[j]? = some t) (hK:TbL X a t) (hb:LE X eb b) (hs:iU eb) (hd:(x == ("__debug__":ι))=false) (hl:∀ r,letTemporaryGo (.Name x p) (.ref a) r=pure ()):LE X (.Subscript (.Name x p) eb pos) (.tab j b):=fun br z I nb=>
 Ef (bg I hg hm ((hb true).go .refl I rfl nb fun z1 d u y1 x1 I1 r1 e1=>by
  rw [ht] at e1
  cases d with
  | str k=>
    obtain ⟨tz,rfl⟩:=(r1.rb.cr0 I1:RD X.W z1.ρ z1.G (.str k) u)
    have T:=jY I1.toHR hK
    have ty:z1.s.TypeIs (.ref a) "dict":=by obtain ⟨_,o,_,_,ho,hc,_⟩:=T;exact ⟨o,ho,hc.1⟩
    refine cg x1 I1 e1 nb fun d q=>?_
    obtain ⟨d0,hat,rfl⟩:=ψ.mp q
    refine subscriptTail_builtin ty Dm.lookup ?_ (hs _ _) hl
    unfold Dp
    refine ό (ε (Di ty (by decide) (ε (Ã (name:=Ϝ "__getitem__") ty Dm (Ò Dm ty entry_dict_getitem ?_ (args_dict_getitem _ _))))))
    show Β _ _ (Ds a (.str k tz) >>= _) _ _ z1.s
    exact ε (ml T hat fun v hv=>θ ⟨v,rfl,θ (.old I1 .tok (I1.toHR.top hv))⟩)
  | _=>exact ZX e1 nb) hd)
theorem lA {k:ι} {tz:Tok} {Q:ζ→π→Prop} {E:ζ→π→Prop} (I:HR X z) (hK:TbL X a t) (q:∀ n,Q (.bool (Ó k t).isSome) { z.s with toks:=n }):Β X.M X.A (Û .In (.str k tz) (.ref a)) Q E z.s:=by
 have T:=jY I hK
 have ty:z.s.TypeIs (.ref a) "dict":=by obtain ⟨_,o,_,_,ho,hc,_⟩:=T;exact ⟨o,ho,hc.1⟩
 have nsm:=T.1
 show Β _ _ (do return Ϫ (← contains (.ref a) (.str k tz))) _ _ z.s
 refine ε ?_
 unfold contains
 refine ό ?_
 refine ε (ų ty D3.lookup ?_)
 show Β _ _ (if (some (FH "dict.__contains__") == some ϗ)=true then _ else _) _ _ z.s
 rw [ZY (by rw [beq_builtin_none];exact ϟ)]
 refine ε (wpAny_callSpecialUnlessNone?_slot (name:=Ϝ "__contains__") ty D3 (Ò D3 ty entry_dict_contains ?_ (args_dict_contains _ _)))
 show Β _ _ (Ds a (.str k tz) >>= _) _ _ z.s
 cases hat:Ó k t with
 | some d=>
   rw [hat] at q
   refine ε (ml T hat fun v _=>?_)
   show Β _ _ (ret (.bool true)) _ _ _
   exact θ ⟨_,rfl,Ë (θ (q _))⟩
 | none=>
   rw [hat] at q
   refine ε (nH T hat ?_)
   show Β _ _ (H7 a (.str k tz) >>= _) _ _ _
   exact ε (wpAny_pendingKey_other nsm (θ ⟨_,rfl,Ë (θ (q _))⟩))
theorem rL (hg:Gl X x) (hm:X.mg x=some (.ref a)) (ht:X.Γ.tb[j]? = some t) (hK:TbL X a t) (hb:LE X eb b) (hd:(x == ("__debug__":ι))=false) (h1:ñ .In (.Name x p)=false):LE X (.Compare eb [.In] [.Name x p] pos) (.tabin j b):=fun br z I nb=>
 C0 ((hb true).go .refl I rfl nb fun z1 d u y1 x1 I1 r1 e1=>by
  rw [ht] at e1
  cases d with
  | str k=>
    obtain ⟨tz,rfl⟩:=(r1.rb.cr0 I1:RD X.W z1.ρ z1.G (.str k) u)
    exact bg I1 hg hm (lA I1.toHR hK fun n=>Dn.at x1 I1 e1 (.tok fun _ _ _=>rfl)) hd
  | _=>exact ZX e1 nb) h1
theorem rX (hg:Gl X x) (hm:X.mg x=some (.ref a)) (ht:X.Γ.tb[j]? = some t) (hK:TbL X a t) (hb:LE X eb b) (hd:(x == ("__debug__":ι))=false) (h1:ñ .In (.Name x p)=false):LT X (.Compare eb [.In] [.Name x p] pos) (.tabin j b):=fun z I nb=>
 ĩ ((hb true).go .refl I (au ..) nb fun z1 d u y1 x1 I1 r1 e1=>by
  rw [ht] at e1
  cases d with
  | str k=>
    obtain ⟨tz,rfl⟩:=(r1.rb.cr0 I1:RD X.W z1.ρ z1.G (.str k) u)
    exact bg I1 hg hm (lA I1.toHR hK fun n=>(Dn.tok (X:=X) (z:=z1) (d:=.bl (Ó k t).isSome) (n:=n) fun _ _ _=>rfl).tru x1 I1 e1 nb) hd
  | _=>exact ZX e1 nb) h1
end
section
variable {X:Cx} {z z1:Z}
structure M2 (X:Cx) (o:Μ) (m:ι) (apos:ϭ) (e f:Μ) (cpos:ϭ):Prop where
 base:ď o m X.env (eval o X.env)=eval o X.env
 few:((ϻ cpos (Η [e,f] X.env)).all (fun x=>!x.1) && (Ð cpos (ϩ [] X.env)).all (fun x=>x.1.isSome) && decide (([e,f]:List Μ).length+([]:List ű).length+(if ([]:List ű).isEmpty then 0 else 1)<30))=true
 line:(apos.endLine == cpos.line)=true
 trees:ϻ cpos (Η [e,f] X.env) = [(false,eval e X.env),(false,eval f X.env)]
theorem uF {ad:Δ} {t:List (ι×L2.Bk.Dk)} {j:Nat} {x:ι} (hg:Gl X x) (hm:X.mg x=some (.ref ad)) (ht:X.Γ.tb[j]? = some t) (hK:TbL X ad t) (hd:(x == ("__debug__":ι))=false) (hb:LE X eb b) (hc:LE X ec c) (m:M2 X (.Name x p) "get" apos eb ec cpos):LE X (.Call (.Attribute (.Name x p) "get" apos) [eb,ec] [] cpos) (.tget j b c):=fun br z I nb=>
 ġ m.base m.few m.line PySem.F.plainAttrs_dict DP PySem.F.type_dict_get (bg I hg hm (by
  obtain ⟨_,o1,_,_,ho1,hc1,_⟩:=id (jY I.toHR hK)
  refine ⟨⟨o1,ho1,hc1.1⟩,fun b q=>(by cases q;exact ⟨o1,ho1,hc1.2.1⟩),?_⟩
  rw [m.trees]
  refine Ú rfl (è (Λ ((hb true).go .refl I rfl nb fun z2 y iv y2 x2 I2 r2 e2=>Λ ((hc false).go x2 I2 e2 nb fun z3 w fv y3 x3 I3 r3 e3=>Ω ?_))))
  rw [ht] at e3
  cases y with
  | str k=>
    obtain ⟨tz,rfl⟩:=(r2.rb.cr0 I2:RD X.W z2.ρ z2.G (.str k) iv)
    have T:=jY I3.toHR hK
    have ty':z3.s.TypeIs (.ref ad) "dict":=by obtain ⟨_,o,_,_,ho,hc,_⟩:=T;exact ⟨o,ho,hc.1⟩
    have nsm:=T.1
    have e3:X.ev br (.tget j b c) z.t = .ok (((Ó k t).map toD).getD w) z3.t:=e3
    refine Ò DP ty' PySem.F.entry_dict_get ?_ (PySem.F.args_dict_get_3 _ _ _)
    show Β _ _ (Ds ad (.str k tz) >>= _) _ _ z3.s
    cases hat:Ó k t with
    | some d=>
      rw [hat] at e3
      exact ε (ml T hat fun v hv=>θ ⟨v,rfl,Dn.at x3 I3 e3 (.old I3 .tok (I3.toHR.top hv))⟩)
    | none=>
      rw [hat] at e3
      refine ε (nH T hat ?_)
      show Β _ _ (H8 ad (.str k tz) >>= _) _ _ _
      exact ε (wpAny_missed_other nsm (θ ⟨fv,rfl,Dn.at x3 I3 e3 (.old I3 .tok r3.rd)⟩))
  | _=>exact ZX e3 nb) hd)
theorem gQ:∀ {l ss vs},cE l=some ss→RDs W ρ G l vs→StrsAre vs ss
 | [],ss,vs,e,r=>by cases e;cases (show vs = [] from r);exact .nil
 | d :: l,ss,vs,e,r=>by
   cases d with
   | str b=>
     obtain ⟨cs,q,rfl⟩:=ψ.mp (show (cE l).map (b :: ·)=some ss from e)
     obtain ⟨v,r',rfl,⟨t,rfl⟩,tl⟩:=r
     exact .cons b t (gQ q tl)
   | _=>cases e
theorem uA {x:ι} (ha:LE X ea a) (m:M1 X (.Constant (.str x) j p) "join" apos ea cpos):LE X (.Call (.Attribute (.Constant (.str x) j p) "join" apos) [ea] [] cpos) (.join x a):=fun br z I nb=>
 ġ m.base m.few m.line PySem.F.plainAttrs_str PySem.F.slot_str_join PySem.F.type_str_join (ø (by
  refine ⟨FU _ _ _,(fun b q=>by cases q),?_⟩
  rw [m.trees]
  have g:Gr z.s { z.s with toks:=z.s.toks+1 }:=.tok
  refine Ú rfl (è (Λ ((ha true).go (z:=z) (z1:={ z with s:={ z.s with toks:=z.s.toks+1 } }) (aq I.gh g).ee (I.grow (aq I.gh g)) rfl nb fun z1 d u y1 x1 I1 r1 e1=>Ω (cg x1 I1 e1 nb fun d2 e=>?_))))
  have cr:=r1.rb.cr I1
  revert e cr
  generalize look z1.t.st d=cc
  intro e cr
  cases cc with
  | lst l=>
    obtain ⟨ss,h1,h2⟩:=ϓ.mp (show ((cE l).bind fun ss=>if x.length≤64∧(ss.map (·.length)).sum≤100000∧ss.length≤1000 then some (D.str (ĕ x ss)) else none)=some d2 from e)
    obtain ⟨c,rfl⟩:=aN h2
    obtain ⟨ad,o,vs,rfl,ho,⟨⟨n,rfl⟩,hz⟩,w⟩:=cr
    refine join_list (ys:=ss) (show z1.s.heap.IsList ad vs.toArray from ⟨_,ho,rfl,n,rfl⟩) (by simpa using gQ h1 w) ?_ fun t' k=>.tok fun _ _ _=>⟨_,rfl⟩
    have:=DJ c.2.2 c.1
    omega
  | _=>cases e))
theorem xW {x y:ι} (hx:x.length≤1000) (hy:y.length≤1000) (ha:LE X ea a):LE X (.JoinedStr [.Constant (.str x) j1 p1,.FormattedValue ea (-1) none p2,.Constant (.str y) j2 p3] pos) (.fmt x a y):=fun br z I nb=>by
 have l0:ģ.length=0:=rfl
 have sz:∀ n,n≤200000→n≤ϛ:=fun n h=>ϖ h (by decide)
 have g:Gr z.s { z.s with toks:=z.s.toks+1 }:=.tok
 refine GQ ?_
 show Β _ _ (eval (.Constant (.str x) j1 p1) X.env) _ _ _
 refine ø ⟨x,_,rfl,sz _ (by rw [ϲ,l0];omega),?_⟩
 show Β _ _ (eval (.FormattedValue ea (-1) none p2) X.env) _ _ _
 refine FD ((ha true).go (z:=z) (z1:={ z with s:={ z.s with toks:=z.s.toks+1 } }) (aq I.gh g).ee (I.grow (aq I.gh g)) rfl nb fun z1 d u y1 x1 I1 r1 e1=>?_)
 cases d with
 | str k=>
   obtain ⟨tk,rfl⟩:=(r1.rb.cr0 I1:RD X.W z1.ρ z1.G (.str k) u)
   cases q:qU x (.str k) y with
   | none=>rw [q] at e1;exact ZX e1 nb
   | some d2=>
     rw [q] at e1
     obtain ⟨c,rfl⟩:=aN (show (if x.length≤1000∧k.length≤100000∧y.length≤1000 then some (D.str (((ģ ++ x) ++ k) ++ y)) else none)=some d2 from q)
     have fin:∀ n tt,∃ k' t',Value.str k tt = .str k' t'∧((ģ ++ x) ++ k').length≤ϛ∧Joins X.M X.A (Px X z (X.ev br (.fmt x a y) z.t)) (evalEach [.Constant (.str y) j2 p3] X.env) ((ģ ++ x) ++ k') (fun out s₁=>out.length≤ϛ∧Pe X z (X.ev br (.fmt x a y) z.t) (RV X.W br (.fmt x a y)) (.str out s₁.toks) { s₁ with toks:=s₁.toks+1 }) { z1.s with toks:=n }:=fun n tt=>⟨k,tt,rfl,sz _ (by rw [ϲ,ϲ,l0];omega),by
      show Β _ _ (eval (.Constant (.str y) j2 p3) X.env) _ _ _
      exact ø ⟨y,_,rfl,sz _ (by rw [ϲ,ϲ,ϲ,l0];omega),sz _ (by rw [ϲ,ϲ,ϲ,l0];omega),Dn.at x1 I1 e1 (.tok fun _ _ _=>⟨_,rfl⟩)⟩⟩
     exact wpAny_formatField_str (fin z1.s.toks tk) (fin _ _) (sz _ (by omega))
 | _=>exact ZX e1 nb
end
theorem mM:Ea (.type "list_reverseiterator") "__len__" = pure none:=by rw [GR,Fh];kernel_rfl
theorem sR:Ea (.type "list_reverseiterator") "__length_hint__" = pure (some (.builtin "list_reverseiterator.__length_hint__")):=by rw [GR,Fh];kernel_rfl
section
variable {prog:ϸ} {w:Ü} {A:ϒ} {E:ζ→π→Prop} {s:π}
theorem ue {R:Result→π→Prop} {r l S:Δ} {xs:Array ζ} {c0:Nat} {res:ζ} (hh:A.handled=none) (hn:xs.size≤ϛ) (g:s.heap.IsRevIter r l ((xs.size:Int) - 1)) (gl:s.heap.IsList l xs) (ne:l≠r)
 (hS:s.heap.get? S=some { cls:=.type "list",data:=.seq #[] c0 }) (n1:S≠r) (n2:S≠l)
 (q:∀ h1 tk acc c1,(∀ b o,b≠S→b≠r→s.heap.get? b=some o→h1.get? b=some o)→h1.get? S=some { cls:=.type "list",dict:=none,data:=.seq acc c1,slots:=#[] }→ItemsOf (fun i v=>xs[xs.size - 1 - i]? = some v) acc xs.size→R (.ok (.ret res)) { s with heap:=h1,toks:=tk }) :
 Β (model prog w) A.in1 (ò (.ref S) (.ref r) res)
  (fun fin s1=>match fin with | .done f=>R (.ok f) s1 | .again c1=>c1.quiet=true∧Ŀ (model prog w) A c1 R s1) (fun e s1=>R (.error e) s1) s:=by
 have ty:=g.typeIs
 unfold ò
 refine ε (Dh ty ?_)
 have a1:CJ (.ref S) (.ref r)=false:=by simp [CJ,n1]
 have a2:(ċ "list_reverseiterator" == ċ "list")=false:=by decide
 have a3:(ċ "list_reverseiterator" == ċ "tuple")=false:=by decide
 simp only [a1,a2,a3,Ň,Ï,if_false]
 refine ε (wpAny_pyIter_revIter g (ε (ό ?_)))
 unfold H6
 refine ε (ų ty mM ?_)
 show Β _ A.in1 (specialOf (Ϥ r) (Ϝ "__length_hint__") >>= fun _=>_) _ _ _
 refine ε (ų ty sR ?_)
 have W:=(Walks.listRev (prog:=prog) (w:=w) (A:=A.in1) hh r l ne xs).toS
 have nS:S ∉ [r,l]:=by simp [n1,n2]
 have sp:splitId "list_reverseiterator.__length_hint__" = some ("list_reverseiterator","__length_hint__"):=by decide +kernel
 dsimp only
 simp only [sp]
 refine ε (Gw (T:="list_reverseiterator") (b:=true) ty (by rw [isSubtype_type];kernel_rfl) ?_)
 refine Ŵ (fun z=>ZX z (by decide)) fun _=>?_
 refine Ŵ (fun _=>?_) (fun z=>ZX (by decide +kernel) z)
 refine Ŵ (fun z=>ZX z (by decide +kernel)) fun _=>θ ?_
 refine Ŵ (fun z=>ZX z (by decide +kernel)) fun _=>?_
 refine θ ⟨ŝ F.plain_extend_loop _,codeAny_extend_loopS W hn S nS res xs.size 0 _ _ _ rfl (Â _) ⟨Â _,by simpa using g,gl⟩ hS (ItemsOf.nil _) fun s1 acc c1 hm hS1 hacc=>?_⟩
 rw [Moved.eq_with hm]
 refine q s1.heap s1.toks acc c1 (fun b o z1 z2 e=>hm.heap b o (fun z=>?_) e) hS1 hacc
 rcases ξ.mp z with z | z
 ·exact z1 z
 ·exact z2 (η.mp z)
theorem i8 {r l:Δ} {xs:Array ζ} {Q:ζ→π→Prop} (hh:A.handled=none) (hn:xs.size≤ϛ) (g:s.heap.IsRevIter r l ((xs.size:Int) - 1)) (gl:s.heap.IsList l xs) (ne:l≠r)
 (q:∀ h1 tk acc c1,(∀ b o,b≠r→s.heap.get? b=some o→h1.get? b=some o)→h1.get? s.heap.objs.size=some { cls:=.type "list",dict:=none,data:=.seq acc c1,slots:=#[] }→ItemsOf (fun i v=>xs[xs.size - 1 - i]? = some v) acc xs.size →
  Q (.ref s.heap.objs.size) { s with heap:=h1,toks:=tk }):Β (model prog w) A (call (.type "list") [.ref r]) Q E s:=by
 refine callType_codes (Q₁:=fun obj s1=>obj = .ref s.heap.objs.size∧s1={ s with heap:=s.heap.push { cls:=.type "list",data:=.seq #[] } }) F.called_list (F.typeCall_list_1 _) F.entry_list_init (code_list_new _ ⟨rfl,rfl⟩) fun obj s1 z=>?_
 obtain ⟨e,e'⟩:=z
 subst e e'
 have hS:(s.heap.push { cls:=.type "list",data:=.seq #[] }).get? s.heap.objs.size=some { cls:=.type "list",data:=.seq #[] }:=χ _ rfl
 have rlt:r<s.heap.objs.size:=by obtain ⟨_,e,_⟩:=g;exact Τ e
 have llt:l<s.heap.objs.size:=by obtain ⟨_,e,_⟩:=gl;exact Τ e
 refine ⟨⟨_,hS,rfl⟩,F.args_list_init_2 _ _,?_⟩
 show Β _ _ (do let old ← D0 (.ref s.heap.objs.size);H4 (.ref s.heap.objs.size) (fun _=>#[]);letGo old.toList.reverse;ò (.ref s.heap.objs.size) (.ref r) .none) _ _ _
 refine ε ?_
 unfold D0
 refine ε (Õ hS rfl (θ ?_))
 show Β _ _ (Gy s.heap.objs.size (fun _=>#[]) >>= fun _=>letGo (#[]:Array ζ).toList.reverse >>= fun _=>ò (.ref s.heap.objs.size) (.ref r) .none) _ _ _
 refine ε (ĵ hS rfl (ε (Į ?_)))
 have oth:∀ b o,s.heap.get? b=some o→((s.heap.push { cls:=.type "list",data:=.seq #[] }).update s.heap.objs.size (û (fun _=>(#[]:Array ζ)))).get? b=some o:=fun b o e=>
  (ϑ _ _ (Ñ (Τ e))).trans (ς _ e)
 refine ue (A:=A.in1) hh hn (g.at fun o e=>oth r o e) (gl.at fun o e=>oth l o e) ne (Ϧ (û (fun _=>(#[]:Array ζ))) hS rfl) (Ñ rlt) (Ñ llt) fun h1 tk acc c1 k1 k2 k3=>⟨rfl,?_⟩
 exact q h1 tk acc c1 (fun b o n1 e=>k1 b o (ϝ (Τ e)) n1 (oth b o e)) k2 k3
end
section
variable {X:Cx} {z z1:Z}
theorem pJ {us:List ζ} {acc:Array ζ} (h:ItemsOf (fun i v=>us.toArray[us.toArray.size - 1 - i]? = some v) acc us.toArray.size):acc.toList=us.reverse:=by
 obtain ⟨h1,h2⟩:=h
 refine List.ext_getElem (by simpa using h1) fun i l1 l2=>?_
 have k:=h2 i acc[i] (ļ (by simpa using l1))
 have l3:i<us.length:=by simpa using l2
 rw [List.getElem_reverse]
 have k':us[us.length - 1 - i]? = some acc[i]:=by simpa using k
 rw [Α (by omega)] at k'
 simpa using (ϡ k').symm
theorem yj {p1 p2 pos pos2:ϭ} (hc:X.calm=true) (g1:Blt X "list" (.type "list")) (g2:Blt X "reversed" (.type "reversed")) (ha:LE X ea a) (hs:Η [ea] X.env=(false,eval ea X.env) :: Η [] X.env) (hs2:Η [.Call (.Name "reversed" p2) [ea] [] pos2] X.env=(false,eval (.Call (.Name "reversed" p2) [ea] [] pos2) X.env) :: Η [] X.env):LF X (.Call (.Name "list" p1) [.Call (.Name "reversed" p2) [ea] [] pos2] [] pos) (.bi .rev (.cons a .nil)):=fun z I nb=>
 bb (.inr ⟨_,rfl⟩) g1 hs2 rfl I (Λ (bb (.inr ⟨_,rfl⟩) g2 hs rfl I (Λ ((ha true).go .refl I (ev1 fun l s=>Out.of s (biD .rev (l.map (look s.st)))) nb fun z1 x u y1 x1 I1 r1 e1=>Ω (by
  have cr:=r1.rb.cr I1
  have e1:X.ev false (.bi .rev (.cons a .nil)) z.t=Out.of z1.t (hH .rev (look z1.t.st x)):=e1
  revert e1 cr
  generalize look z1.t.st x=cc
  intro cr e1
  cases cc with
  | lst l=>
    obtain ⟨ad,o,vs,rfl,ho,⟨⟨n,rfl⟩,hz⟩,r⟩:=cr
    have pl:z1.s.heap.IsList ad vs.toArray:=⟨_,ho,rfl,n,rfl⟩
    refine call_reversed_list pl (Ω ?_)
    refine i8 (I1.hd hc) (by simp;omega) ⟨_,χ _ rfl,rfl,rfl⟩ (pl.at fun o e=>ς _ e) (ϝ (Τ ho)) fun h1 tk acc c1 k1 k2 k3=>?_
    have w:=pJ k3
    have nn:z1.h (z1.s.heap.push (revObj ad ((vs.toArray.size:Int) - 1))).objs.size=none:=Ϙ (by rw [ϴ];exact ê _)
    obtain ⟨z2,d,q1,q2,y,I2,fv⟩:=(Dw.lst (X:=X) (z:=z1) (s':={ z1.s with heap:=h1,toks:=tk }) (k:=c1) r.rev (.hp fun b o e=>k1 b o (ϝ (Τ e)) (ς _ e)) nn (by show h1.get? _=_;rw [k2,← w]) (by rw [List.length_reverse];exact hz)).pe I1
    exact ⟨z2,d,q1,e1.trans q2,x1.trans y,I2,fv.less x1⟩
  | _=>exact ZX e1 nb)))))
end
theorem qg {ps:List α} {i:Nat} (h:i<ps.length):ps.take (i+1)=ps.take i ++ [ps[i]]:=by
 rw [List.take_add_one,Α h];rfl
theorem iT:∀ (xs:List Int) (y:Int),L2.Bk.sumI (xs ++ [y])=L2.Bk.sumI xs+y
 | [],y=>by show y+0=0+y;omega
 | x :: r,y=>by show x+L2.Bk.sumI (r ++ [y])=x+L2.Bk.sumI r+y;rw [iT r y];omega
theorem eY (ns:List Int):∀ k,k≤ns.length→preSum (fun i=>(ns[i]?).getD 0) k=L2.Bk.sumI (ns.take k)
 | 0,_=>rfl
 | k+1,h=>by
   have hk:k<ns.length:=h
   have e:preSum (fun i=>(ns[i]?).getD 0) (k+1)=preSum (fun i=>(ns[i]?).getD 0) k+(ns[k]?).getD 0:=rfl
   rw [e,eY ns k (by omega),qg hk,iT,Α hk]
   rfl
theorem lh (r:RDs W ρ G ds vs):∀ js:List Nat,RDs W ρ G (js.filterMap (ds[·]?)) (js.filterMap (vs[·]?))
 | []=>rfl
 | j :: js=>by
   have ih:=lh r js
   rw [ύ,ύ]
   cases q:ds[j]? with
   | none=>
     have:vs[j]? = none:=by
      rw [Ć] at q ⊢
      rw [← r.len];exact q
     rw [this];exact ih
   | some x=>
     obtain ⟨u,hu,ru⟩:=r.get q
     rw [hu];exact .cons ru ih
theorem sF (xs:List α) (lo) (k) (h0:k≠0):(cH xs lo k).length≤xs.length:=by
 unfold cH
 refine ϖ (DS _ _) (ϖ (sliceRange_len_le _ _ _ (by simpa [Ä] using h0)) ?_)
 simp only [Ä,ń]
 by_cases hp:k>0
 ·simp only [hp,if_true]
  cases lo with
  | none=>simp
  | some i=>dsimp only;omega
 ·simp only [hp,if_false]
  cases lo with
  | none=>dsimp only;omega
  | some i=>dsimp only;omega
section
variable {X:Cx} {z z1:Z}
theorem nN:∀ {l ns vs} {i:Nat} {v:ζ},bq l=some ns→RDs W ρ G l vs→vs[i]? = some v→∃ t,v = .int ((ns[i]?).getD 0) t
 | [],ns,vs,i,v,e,r,h=>by cases (show vs = [] from r);simp at h
 | d :: l,ns,vs,i,v,e,r,h=>by
   cases d with
   | int b=>
     obtain ⟨cs,q,rfl⟩:=ψ.mp (show (bq l).map (b :: ·)=some ns from e)
     obtain ⟨w,r',rfl,⟨t,rfl⟩,tl⟩:=r
     cases i with
     | zero=>simp at h;exact ⟨t,by rw [← h];rfl⟩
     | succ i=>exact nN (i:=i) q tl (by simpa using h)
   | _=>cases e
theorem kC:∀ {l ns},bq l=some ns→ns.length=l.length
 | [],ns,e=>by cases e;rfl
 | d :: l,ns,e=>by
   cases d with
   | int b=>obtain ⟨cs,q,rfl⟩:=ψ.mp (show (bq l).map (b :: ·)=some ns from e);rw [Κ,Κ,kC q]
   | _=>cases e
theorem wR (hc:X.calm=true):Bi1 X (.builtin "sum") .sum:=fun z u x d I h e=>by
 cases x with
 | lst l=>
   obtain ⟨ns,q,rfl⟩:=ψ.mp (show (bq l).map (fun ns=>D.int (L2.Bk.sumI ns))=some d from e)
   obtain ⟨a,o,vs,rfl,ho,⟨⟨n,rfl⟩,hz⟩,r⟩:=h
   have hi:z.s.heap.IsList a vs.toArray:=⟨_,ho,rfl,n,rfl⟩
   have hlt:=Τ ho
   refine call_sum_walkG (Ġ hi ⟨z.s.heap.objs.size,[z.s.heap.objs.size,a],[z.s.heap.objs.size],vs.toArray.size,_,_,fun i=>(ns[i]?).getD 0,rfl,EA (A:=X.A.in1) (I.hd hc) _ a (ϝ hlt) vs.toArray,
    ⟨⟨_,χ _ rfl,rfl,rfl⟩,hi.push _⟩,fun b hb=>?_,fun i v hP=>nN q r (by simpa using hP),fun h' tk t' hk=>⟨.hp fun b o e=>hk b o (fun hm=>?_) (ς _ e),?_⟩⟩)
   ·show b<(z.s.heap.push _).objs.size
    rw [ϴ]
    rcases ξ.mp hb with rfl | hb
    ·exact Ŕ _
    ·rw [η.mp hb];exact CS hlt
   ·rw [η.mp hm] at e;exact ħ _ (Τ e)
   ·exact ⟨t',by rw [Ο,← r.len,← kC q,eY ns _ (ω _),ŏ]⟩
 | _=>cases e
theorem yc {lo:Option Μ} {est:Μ} {pos p2:ϭ} (ha:LE X ea a) (hl:LO X lo l) (hh:LO X (some est) h):LE X (.Subscript ea (.Slice lo none (some est) p2) pos) (.sl3 a l h):=fun br z I nb=>
 Ef ((ha true).go (f:=fun x s=>(X.prt l s).bind fun l s=>(X.prt h s).bind fun w s=>.of s (mP (look s.st x) l w)) .refl I rfl nb fun z1 x u y1 x1 I1 r1 e1=>wpAny_Slice (hl.go x1 I1 e1 nb fun z2 lo' vl y2 x2 I2 r2 e2=>by
  rw [Ez]
  refine θ (hh.go x2 I2 e2 nb fun z3 st' vu y3 x3 I3 r3 e3=>?_)
  have g:=aq (s':={ z3.s with heap:=z3.s.heap.push { cls:=.type "slice",data:=.fields #[vl,.none,vu] } }) I3.gh (.push (t:=z3.s.toks))
  have I4:=I3.grow g
  show Β X.M X.A (subscriptTail ea (.Slice lo none (some est) p2) u (.ref z3.s.heap.objs.size)) _ _ { z3.s with heap:=z3.s.heap.push { cls:=.type "slice",data:=.fields #[vl,.none,vu] } }
  refine cg (z:={ z3 with s:=_ }) (x3.trans g.ee) I4 e3 nb fun d q=>?_
  have cr:=(((r1.rb.st y2 I2).st y3 I3).cr I3).grow g
  revert q cr
  generalize look z3.t.st x=cc
  intro q cr
  cases cc with
  | lst xs=>
    cases st' with
    | none=>cases q
    | some k=>
      have q:(if k=0 then none else some (D.lst (cH xs lo' k)))=some d:=q
      by_cases k0:k=0
      ·rw [ZZ k0] at q;cases q
      ·rw [ZY k0] at q
       cases q
       obtain ⟨ad,o,vs,rfl,ho,⟨⟨n,rfl⟩,hz⟩,r⟩:=cr
       have hi:Heap.IsList (z3.s.heap.push { cls:=.type "slice",data:=.fields #[vl,.none,vu] }) ad vs.toArray:=⟨_,ho,rfl,n,rfl⟩
       refine tail_any (ops:=[.ref ad,.ref z3.s.heap.objs.size]) (show Ft _ (.ref ad) "list" from ⟨_,ho,rfl⟩) Dl.lookup ?_ (by with_unfolding_all rfl)
       refine Es hi (Dg ..) r2 .none r3 (by simpa using k0) ?_ (by rw [Ο] <;> omega)
       have e1:EM vs.toArray lo' none (some k)=(cH vs lo' k).toArray:=by
        unfold EM cH
        simp
       rw [e1]
       have e2:cH vs lo' k=(sliceRange (Ä lo' none (some k) xs.length).1 (Ä lo' none (some k) xs.length).2.1 (Ä lo' none (some k) xs.length).2.2).filterMap (vs[·]?):=by
        unfold cH
        rw [← r.len]
       exact (Dw.lstn (X:=X) (z:={ z3 with s:={ z3.s with heap:=z3.s.heap.push { cls:=.type "slice",data:=.fields #[vl,.none,vu] } } }) (t:=z3.s.toks) (n:=0) (by rw [e2];exact lh r _) (ϖ (sF vs lo' k k0) hz)).dn I4
  | _=>cases q))
end
structure Zd where
 it:Δ
 fp:List Δ
 n:Nat
 P:Nat→ζ→Prop
 St:Nat→Ϸ→Prop
abbrev IsT (h:Ϸ) (T:Δ) (l:List ζ):Prop:=h.get? T=some { cls:=.type "tuple",data:=.seq l.toArray }
structure ZOk (prog:ϸ) (w:Ü) (A:ϒ) (n:Nat) (l:List Zd) (z TI TO:Δ):Prop where
 dr:∀ d∈l,EX prog w A d.it d.fp d.n d.P d.St∧n≤d.n∧d.it∈d.fp∧z ∉ d.fp∧TO ∉ d.fp∧TI≠d.it
 ap:∀ (i j:Nat) (d e:Zd),l[i]? = some d→l[j]? = some e→i≠j→d.it ∉ e.fp
 hd:∃ d r,l=d :: r∧d.n=n
 zT:z≠TI∧z≠TO∧TI≠TO
 sz:l.length≤ϛ
section
variable {prog:ϸ} {w:Ü} {A:ϒ} {E:ζ→π→Prop} {s:π} {n i:Nat} {l:List Zd} {z TI TO:Δ} {old:List ζ}
theorem vJ {Q:ζ→π→Prop} (D:ZOk prog w A n l z TI TO) (hz:C4 s.heap z TI TO .none) (hTI:IsT s.heap TI (l.map fun d=>.ref d.it)) (hTO:IsT s.heap TO old) (hl:old.length=l.length) (hi:i<n) (st:∀ d∈l,d.St i s.heap)
 (hQ:∀ h' tk vals,C4 h' z TI TO (Ö s.heap.objs.size)→IsT h' TO vals→vals.length=l.length→(∀ d∈l,d.St (i+1) h')→(∀ (j:Nat) (d:Zd) v,l[j]? = some d→vals[j]? = some v→d.P i v)→IsT h' s.heap.objs.size vals→h'.objs.size=s.heap.objs.size+1 →
  (∀ b o,b≠z→b≠TO→(∀ d∈l,b≠d.it)→s.heap.get? b=some o→h'.get? b=some o)→Q (.ref s.heap.objs.size) { s with heap:=h',toks:=tk }) :
 Β (model prog w) A (ś.«zip.__next__» ⟨[.ref z],[]⟩) (fun fin s'=>∃ v,fin = .done (.ret v)∧Q v s') E s:=by
 have ne:((l.map fun d=>Ϥ d.it).toArray.isEmpty)=false:=by obtain ⟨d,r,rfl,_⟩:=D.hd;simp
 show Β _ _ (field (.ref z) 2 >>= _) _ _ _;refine ε (Ϛ hz rfl (x:=.bool false) rfl ?_)
 show Β _ _ (field (.ref z) 3 >>= _) _ _ _;refine ε (Ϛ hz rfl (x:=.ref TI) rfl ?_)
 refine ε (Õ hTI rfl ?_)
 simp only [ne]
 show Β _ _ (Î (.ref z) >>= _) _ _ _
 refine ε ?_;unfold Î;refine ε (Ϛ hz rfl (x:=.none) rfl (θ ?_));simp only [if_true]
 refine ε (D1 ?_);refine ε (Ϛ hz rfl (x:=.ref TO) rfl ?_);refine ε (ē hz (by simp) fun h₁ hz₁ hs₁=>?_)
 replace hz₁:C4 h₁ z TI TO .ellipsis:=hz₁
 refine ε ?_
 refine wpAny_forIn_list _ (fun rem r s'=>r=⟨none,()⟩∧∃ h tk vals,s'={ s with heap:=h,toks:=tk }∧rem=((l.drop vals.length).map fun d=>Ϥ d.it).zipIdx vals.length∧vals.length≤l.length∧C4 h z TI TO .ellipsis∧IsT h TO (vals ++ old.drop vals.length)∧(∀ (j:Nat) (d:Zd),l[j]? = some d→d.St (if j<vals.length then i+1 else i) h)∧(∀ (j:Nat) (d:Zd) v,l[j]? = some d→vals[j]? = some v→d.P i v)∧h.objs.size=s.heap.objs.size∧(∀ b o,b≠z→b≠TO→(∀ d∈l,b≠d.it)→s.heap.get? b=some o→h.get? b=some o)) _ (fun x rem r s' hI=>?_) (fun r s' hI=>?_) _ _ ⟨rfl,h₁,s.toks,[],rfl,?_,Â _,hz₁,?_,fun j d e=>?_,fun j d v _ e=>by simp at e,hs₁.1,fun b o h _ _ e=>hs₁.extBut _ _ h e⟩
 ·obtain ⟨rfl,h,tk,vals,rfl,er,hv,gz,gT,gS,gP,gs,gk⟩:=hI
  cases q:l.drop vals.length with
  | nil=>rw [q] at er;cases er
  | cons d r=>
    rw [q,Ϲ,Fj] at er
    cases er
    have hd:l[vals.length]? = some d:=by have:=Ž (xs:=l) (i:=vals.length) (j:=0);rw [q] at this;simpa using this.symm
    have hlt:=(τ.mp hd).1
    obtain ⟨dw,dn,di,dz,dT,dI⟩:=D.dr d (Ε hd)
    refine ε (Er ?_);show Β _ _ (Ϻ (.ref d.it) >>= _) _ _ _
    have g0:=gS _ d hd
    rw [ZY (ħ _)] at g0
    refine ε (dw.item i _ _ _ (á hi dn) g0 fun x h2 tk2 hP hst hs2=>θ ?_)
    replace hs2:ú d.it h h2:=hs2
    have zi:z≠d.it:=fun e=>dz (e ▸ di)
    have Ti:TO≠d.it:=fun e=>dT (e ▸ di)
    have gT2:IsT h2 TO (vals ++ old.drop vals.length):=hs2.extBut _ _ Ti gT
    refine ε (Õ gT2 rfl ?_);have hsz:(vals ++ old.drop vals.length).length≤ϛ:=by have:=D.sz;rw [φ,CY];omega
    refine ε (ĵ gT2 rfl ?_ (by simpa using hsz) (by simpa using ę hsz))
    refine ε (Į (θ ⟨rfl,h2.update TO _,tk2,vals ++ [x],rfl,?_,?_,?_,?_,fun j e he=>?_,fun j e v he hv'=>?_,?_,fun b o b1 b2 b3 e=>?_⟩))
    ·rw [φ,ϋ,← List.drop_drop,q];rfl
    ·rw [φ,ϋ];exact hlt
    ·exact (ä ..).extBut _ _ D.zT.2.1 (hs2.extBut _ _ zi gz)
    ·show (h2.update TO _).get? TO=_
     rw [Ϧ _ gT2 rfl]
     have ho:vals.length<old.length:=by omega
     have e4:(vals ++ old.drop vals.length).set vals.length x=vals ++ [x] ++ old.drop (vals ++ [x]).length:=by
      rw [List.set_append_right _ _ (ω _),ė,φ,ϋ,ľ ho,List.set_cons_zero,Ç];rfl
     rw [← e4]
     simp [û]
    ·obtain ⟨ew,en,ei,ez,eT,eI⟩:=D.dr e (Ε he)
     have fr:∀ {f:DQ→DQ},∀ b∈e.fp,∀ o,h2.get? b=some o→(h2.update TO f).get? b=some o:=fun b hb o q=>(ä ..).extBut _ _ (fun w=>eT (w ▸ hb)) q
     rw [φ,ϋ]
     by_cases c:j=vals.length
     ·subst c
      rw [hd] at he;cases he
      rw [ZZ (Ŕ _)]
      exact dw.frame _ _ _ hst fr
     ·have g1:=gS j e he
      have hne:=D.ap _ _ _ _ hd he (Ϡ c)
      have:(if j<vals.length+1 then i+1 else i)=(if j<vals.length then i+1 else i):=by
       by_cases c2:j<vals.length
       ·rw [ZZ c2,ZZ (by omega)]
       ·rw [ZY c2,ZY (by omega)]
      rw [this]
      exact ew.frame _ _ _ (ew.frame _ _ _ g1 fun b hb o q=>hs2.extBut _ _ (fun w=>hne (w ▸ hb)) q) fr
    ·by_cases c:j<vals.length
     ·rw [ϊ c] at hv'
      exact gP j e v he hv'
     ·rw [Ρ (by omega)] at hv'
      have:j - vals.length=0:=by
       have:=(τ.mp hv').1
       simp at this;omega
      rw [this] at hv'
      cases hv'
      have:j=vals.length:=by omega
      subst this
      rw [hd] at he;cases he;exact hP
    ·exact (ä h2 TO _).1.trans (hs2.1.trans gs)
    ·exact (ä ..).extBut _ _ b2 (hs2.extBut _ _ (b3 d (Ε hd)) (gk b o b1 b2 b3 e))
 ·obtain ⟨rfl,h,tk,vals,rfl,er,hv,gz,gT,gS,gP,gs,gk⟩:=hI
  have el:vals.length=l.length:=by
   have:=ZS Eo er
   simp at this;omega
  rw [el,← hl,Ő,ϧ] at gT
  show Β _ _ (C8 (.ref TO) >>= _) _ _ _
  refine ε (Õ gT rfl ?_);refine ε (wpAny_newTuple ?_ (by have:=D.sz;simpa using (show vals.length≤ϛ by omega)))
  have hzlt:z<h.objs.size:=Τ gz
  show Β _ _ (Ĵ (.ref z) (.ref h.objs.size) >>= _) _ _ _
  refine ε ?_;unfold Ĵ
  have hz₈:C4 (h.push { cls:=.type "tuple",data:=.seq vals.toArray }) z TI TO .ellipsis:=ς _ gz
  refine ε (ē hz₈ (by simp) fun h₉ hz₉ hs₉=>?_)
  replace hz₉:C4 h₉ z TI TO (Ö h.objs.size):=hz₉
  refine ē hz₉ (by simp) fun hA hzA hsA=>?_
  replace hzA:C4 hA z TI TO (Ö h.objs.size):=hzA
  have up:∀ d o,d≠z→h.get? d=some o→hA.get? d=some o:=fun d o c1 e=>hsA.extBut _ _ c1 (hs₉.extBut _ _ c1 (ς _ e))
  have hTA:IsT hA h.objs.size vals:=hsA.extBut _ _ (Ñ hzlt) (hs₉.extBut _ _ (Ñ hzlt) (χ _ rfl))
  have hzA8:hA.objs.size=h.objs.size+1:=by rw [hsA.1,hs₉.1,ϴ]
  refine θ ⟨_,rfl,?_⟩
  show Q (.ref h.objs.size) _
  rw [gs] at hzA hTA hzA8 ⊢
  refine hQ hA tk vals hzA (up _ _ (Ϡ D.zT.2.1) gT) el (fun d hd=>?_) gP hTA hzA8 fun b o b1 b2 b3 e=>up b o b1 (gk b o b1 b2 b3 e)
  obtain ⟨j,hj⟩:=ϱ.mp hd
  have g1:=gS j d hj
  rw [ZZ (by rw [el];exact (τ.mp hj).1)] at g1
  obtain ⟨dw,_,_,dz,_⟩:=D.dr d hd
  exact dw.frame _ _ _ g1 fun b hb o q=>up b o (fun w=>dz (w ▸ hb)) q
 ·simp
 ·rw [Fy,ϯ,ĳ];exact hs₁.extBut _ _ (Ϡ D.zT.2.1) hTO
 ·obtain ⟨dw,_,_,dz,_⟩:=D.dr d (Ε e)
  rw [ϯ,ZY (Ť _)]
  exact dw.frame _ _ _ (st d (Ε e)) fun b hb o q=>hs₁.extBut _ _ (fun w=>dz (w ▸ hb)) q
theorem zv {Q:Fin→π→Prop} (D:ZOk prog w A n l z TI TO) (hz:C4 s.heap z TI TO .none) (hTI:IsT s.heap TI (l.map fun d=>.ref d.it)) (st:∀ d∈l,d.St n s.heap)
 (hE:∀ h' e,(∀ b o,b≠z→(∀ d∈l,b≠d.it)→s.heap.get? b=some o→h'.get? b=some o)→(∃ o,h'.get? e=some o∧o.cls = .type "StopIteration")→E (.ref e) { s with heap:=h' }) :
 Β (model prog w) A (ś.«zip.__next__» ⟨[.ref z],[]⟩) Q E s:=by
 obtain ⟨d,r,rfl,hn⟩:=D.hd
 obtain ⟨dw,dn,di,dz,dT,dI⟩:=D.dr d ν
 show Β _ _ (field (.ref z) 2 >>= _) _ _ _;refine ε (Ϛ hz rfl (x:=.bool false) rfl ?_)
 show Β _ _ (field (.ref z) 3 >>= _) _ _ _;refine ε (Ϛ hz rfl (x:=.ref TI) rfl ?_)
 refine ε (Õ hTI rfl ?_)
 simp only [show (((d :: r).map fun d=>Ϥ d.it).toArray.isEmpty)=false by simp]
 show Β _ _ (Î (.ref z) >>= _) _ _ _
 refine ε ?_;unfold Î;refine ε (Ϛ hz rfl (x:=.none) rfl (θ ?_));simp only [if_true]
 refine ε (D1 ?_);refine ε (Ϛ hz rfl (x:=.ref TO) rfl ?_);refine ε (ē hz (by simp) fun h₁ hz₁ hs₁=>?_)
 replace hz₁:C4 h₁ z TI TO .ellipsis:=hz₁
 refine ε ?_;simp only [Ϲ,Fj,ī]
 refine ε (ε (Er ?_));show Β _ _ (Ϻ (.ref d.it) >>= _) _ _ _
 have s1:d.St d.n h₁:=by rw [hn];exact dw.frame _ _ _ (st d ν) fun b hb o q=>hs₁.extBut _ _ (fun w=>dz (w ▸ hb)) q
 refine ε (dw.done _ _ _ s1 fun h₂ e hs₂ he=>?_)
 obtain ⟨oe,hoe,hce⟩:=he
 have zi:z≠d.it:=fun e=>dz (e ▸ di)
 have hz₂:C4 h₂ z TI TO .ellipsis:=hs₂ _ _ zi hz₁
 have hez:e≠z:=fun x=>by subst x;rw [hz₂] at hoe;cases hoe;simp at hce
 exact ē hz₂ (by simp) fun h₃ _ hs₃=>hE h₃ e (fun b o c1 c3 x=>hs₃.extBut _ _ c1 (hs₂ _ _ (c3 d ν) (hs₁.extBut _ _ c1 x))) ⟨oe,hs₃.extBut _ _ hez hoe,hce⟩
theorem qk (D:ZOk prog w A.in1 n l z TI TO):Ed prog w A z (z :: TI :: TO :: l.flatMap (·.fp)) (z :: TO :: l.map (·.it)) n
 (fun i vals=>∃ vs:List ζ,vals=vs.toArray∧vs.length=l.length∧∀ (j:Nat) (d:Zd) v,l[j]? = some d→vs[j]? = some v→d.P i v)
 (fun i h=>C4 h z TI TO .none∧IsT h TI (l.map fun d=>.ref d.it)∧(∃ vs,IsT h TO vs∧vs.length=l.length)∧∀ d∈l,d.St i h)
 (fun i T h=>(C4 h z TI TO (Ö T)∧IsT h TI (l.map fun d=>.ref d.it)∧(∃ vs,IsT h TO vs∧vs.length=l.length)∧(∀ d∈l,d.St (i+1) h)∧T≠z∧T≠TO∧∀ d∈l,T≠d.it)∧Exa h T) where
 sub:=fun b hb=>by
  rcases ξ.mp hb with rfl | hb
  ·exact ν
  rcases ξ.mp hb with rfl | hb
  ·exact μ _ (μ _ ν)
  obtain ⟨d,hd,rfl⟩:=Ϩ.mp hb
  exact μ _ (μ _ (μ _ (CV.mpr ⟨d,hd,(D.dr d hd).2.2.1⟩)))
 frame:=fun i h h' ⟨h1,h2,⟨vs,h3,h4⟩,h5⟩ hk=>⟨hk z (by simp) _ h1,hk TI (by simp) _ h2,⟨vs,hk TO (by simp) _ h3,h4⟩,fun d hd=>(D.dr d hd).1.frame _ _ _ (h5 d hd) fun b hb o e=>hk b (μ _ (μ _ (μ _ (CV.mpr ⟨d,hd,hb⟩)))) o e⟩
 item:=fun i s Q E hi ⟨h1,h2,⟨vs,h3,h4⟩,h5⟩ hQ=>by
  have hT:s.TypeIs (.ref z) "zip":=⟨_,h1,rfl⟩
  unfold DG
  refine ε (Eu (Ã (name:=Ϝ "__next__") hT Ŭ (Ò Ŭ hT G7 (vJ D h1 h2 h3 h4 hi h5 fun h' tk vals a1 a2 a3 a4 a5 a6 a7 a8=>θ ?_) (FN _))))
  have lt:∀ {c o},s.heap.get? c=some o→s.heap.objs.size≠c:=fun e=>Ñ (Τ e)
  refine hQ s.heap.objs.size vals.toArray h' tk ⟨vals,rfl,a3,a5⟩ (ω _) ⟨_,a6,rfl,_,rfl⟩ ⟨⟨a1,a8 _ _ (Ϡ D.zT.1) D.zT.2.2 (fun d hd=>(D.dr d hd).2.2.2.2.2) h2,⟨vals,a2,a3⟩,a4,lt h1,lt h3,fun d hd=>?_⟩,fun o q=>(by rw [a6] at q;cases q;rfl)⟩ fun b o hb e=>a8 b o (fun w=>hb (w ▸ ν)) (fun w=>hb (w ▸ μ _ ν)) (fun d hd w=>hb (w ▸ μ _ (μ _ (Ϩ.mpr ⟨d,hd,rfl⟩)))) e
  obtain ⟨o,e⟩:=(D.dr d hd).1.live i _ (h5 d hd)
  exact lt e
 go:=fun elts k pos i T s Q E ⟨⟨h1,h2,⟨vs,h3,h4⟩,h5,t1,t2,t3⟩,_⟩ hQ=>wpAny_letOwnedTupleGo_zip h1 fun h' hz' hs'=>hQ h' ⟨hz',hs'.extBut _ _ (Ϡ D.zT.1) h2,⟨vs,hs'.extBut _ _ (Ϡ D.zT.2.1) h3,h4⟩,fun d hd=>(D.dr d hd).1.frame _ _ _ (h5 d hd) fun b hb o e=>hs'.extBut _ _ (fun w=>(D.dr d hd).2.2.2.1 (w ▸ hb)) e⟩ fun b o hb e=>hs'.extBut _ _ (fun w=>hb (w ▸ ν)) e
 apart:=fun i T h ⟨⟨_,_,_,_,t1,t2,t3⟩,_⟩ hT=>by
  rcases ξ.mp hT with w | hT
  ·exact t1 w
  rcases ξ.mp hT with w | hT
  ·exact t2 w
  obtain ⟨d,hd,w⟩:=Ϩ.mp hT
  exact t3 d hd w.symm
 done:=fun s Q E ⟨h1,h2,_,h5⟩ hQ=>by
  have hT:s.TypeIs (.ref z) "zip":=⟨_,h1,rfl⟩
  unfold DG
  refine ε (Eu (Ã (name:=Ϝ "__next__") hT Ŭ (Ò Ŭ hT G7 (zv D h1 h2 h5 fun h' e hk he=>?_) (FN _))))
  obtain ⟨o,ho,hc⟩:=he
  refine ε (Gw (T:="StopIteration") (b:=true) ⟨o,ho,hc⟩ isSubtype_stop ?_)
  exact θ (hQ h' s.toks fun b o hb e=>hk b o (fun w=>hb (w ▸ ν)) (fun d hd w=>hb (w ▸ μ _ (μ _ (Ϩ.mpr ⟨d,hd,rfl⟩)))) e)
 self:=fun i s Q E hst hQ=>Gu hst.1 hQ
end
end L2.Ev
end
section
namespace PySem
namespace F
theorem z3_typeCall (a b c):checkTypeCall "zip" ⟨[a,b,c],[]⟩=pure ():=by kernel_rfl
theorem z3_newCall (a b c):Ũ "zip.__new__" ⟨[.type "zip",a,b,c],[]⟩=pure ():=by kernel_rfl
theorem z3_args_init (a b c d):F1 "object.__init__" ⟨[a,b,c,d],[]⟩:=by
 unfold F1;rw [signature?_of (id:="object.__init__") (n:=['_','_','t','i','n','i','_','_']) (o:=['t','c','e','j','b','o']) (by kernel_rfl) owner_object];kernel_rfl
end F
section
variable {prog:ϸ} {w:Ü} {A:ϒ} {E:ζ→π→Prop} {s:π}
theorem fq (hit:s.heap.IsTupleIter it t i) (ht:s.heap.IsTuple t items) (hx:items[i]? = some x)
 (hQ:∀ h',h'.IsTupleIter it t (i+1)→ú it s.heap h'→Q x { s with heap:=h' }):Β (model prog w) A (Ϻ (.ref it)) Q E s:=by
 obtain ⟨o,ho,hc,hd⟩:=id hit
 obtain ⟨ol,hol,_,nl,hdl⟩:=ht
 unfold Ϻ
 refine ε (Ã (name:=Ϝ "__next__") hit.typeIs ć (Ò ć hit.typeIs DU ?_ (DK _)))
 show Β _ _ (field (.ref it) 0 >>= _) _ _ s;refine ε (Ϛ ho hd (x:=.ref t) rfl ?_)
 show Β _ _ (if (Ϥ t == ϗ)=true then _ else _) _ _ s;rw [ZY (show ¬ ((Ϥ t == ϗ)=true) from ϟ)]
 show Β _ _ (field (.ref it) 1 >>= _) _ _ s;refine ε (Ϛ ho hd (x:=.int i 0) rfl ?_)
 show Β _ _ (C8 (.ref t) >>= _) _ _ s;refine ε (Õ hol hdl ?_);simp only [Ě,hx]
 refine ε (ğ ho hd (by simp) (θ ⟨x,rfl,θ (hQ _ ?_ (ä ..))⟩))
 exact ⟨_,Ϧ _ ho (ÿ (ü hd _)),(CP ..).trans hc,by rw [ü hd];simp [Ö]⟩
theorem gV (hh:A.handled=none) (hit:s.heap.IsTupleIter it t i) (ht:s.heap.IsTuple t items) (hx:items[i]? = none)
 (hE:∀ h' e,GH it s.heap h'→(∃ o,h'.get? e=some o∧o.cls = .type "StopIteration")→E (.ref e) { s with heap:=h' }):Β (model prog w) A (Ϻ (.ref it)) Q E s:=by
 obtain ⟨o,ho,hc,hd⟩:=id hit
 obtain ⟨ol,hol,_,nl,hdl⟩:=ht
 unfold Ϻ
 refine ε (Ã (name:=Ϝ "__next__") hit.typeIs ć (Ò ć hit.typeIs DU ?_ (DK _)))
 show Β _ _ (field (.ref it) 0 >>= _) _ _ s;refine ε (Ϛ ho hd (x:=.ref t) rfl ?_)
 show Β _ _ (if (Ϥ t == ϗ)=true then _ else _) _ _ s;rw [ZY (show ¬ ((Ϥ t == ϗ)=true) from ϟ)]
 show Β _ _ (field (.ref it) 1 >>= _) _ _ s;refine ε (Ϛ ho hd (x:=.int i 0) rfl ?_)
 show Β _ _ (C8 (.ref t) >>= _) _ _ s;refine ε (Õ hol hdl ?_);simp only [Ě,hx]
 refine ε (D1 (ε (ğ ho hd (by simp) ?_)));show Β _ _ (newExc (.type "StopIteration") [] >>= _) _ _ _
 refine ε ?_;simp only [newExc,newTuple];refine ε (Ì ?_ (by size_fits))
 refine ε (m:=firstArgMember _ _) (DO (a:=ϗ) (by first | rfl | (simp only [firstArgMember];rfl)) ?_);refine Ì ?_ (by size_fits)
 simp only [raiseNew];refine ε (wpAny_handled ?_);first | rw [show A.in1.handled=none from hh] | rw [hh]
 refine ε (θ (wpAny_throw ?_));exact hE _ _ (((ä ..).extBut.push _).push _) ⟨_,χ _ rfl,rfl⟩
end
end PySem
namespace L2.Ev
theorem eS {prog:ϸ} {w:Ü} {A:ϒ} (hh:A.handled=none) (it l:Δ) (hne:l≠it) (items:Array ζ) :
 EX prog w A it [it,l] items.size (fun i v=>items[i]? = some v) (fun i h=>h.IsTupleIter it l i∧h.IsTuple l items) where
 live:=fun _ _ st=>let ⟨o,ho,_⟩:=st.1;⟨o,ho⟩
 frame:=fun _ _ _ st hk=>⟨st.1.at fun o e=>hk it (by simp) o e,st.2.at fun o e=>hk l (by simp) o e⟩
 item:=fun i s Q E hi st hQ=>fq st.1 st.2 (x:=items[i]) (by simp [hi]) fun h' hit' hs'=>hQ _ h' s.toks (by simp [hi]) ⟨hit',st.2.extBut hs'.extBut hne⟩ hs'
 done:=fun s Q E st hE=>gV hh st.1 st.2 (by simp) hE
def b5 (h:Ϸ) (k:Bool) (a:Δ) (xs:Array ζ):Prop:=(k=true∧h.IsTuple a xs)∨(k=false∧h.IsList a xs)
def itN:Bool→String
 | true=>"tuple_iterator"
 | false=>"list_iterator"
abbrev itO (k:Bool) (a:Δ):DQ:={ cls:=.type (itN k),data:=.fields #[.ref a,.int 0 0] }
section
variable {prog:ϸ} {w:Ü} {A:ϒ} {E:ζ→π→Prop} {s:π} {k k1 k2 k3:Bool} {a a1 a2 a3:Δ} {xs ys zs:Array ζ}
theorem b5.push (h:b5 h0 k a xs) (o:DQ):b5 (h0.push o) k a xs:=h.imp (fun ⟨e,q⟩=>⟨e,Heap.IsTuple.push q o⟩) fun ⟨e,q⟩=>⟨e,Heap.IsList.push q o⟩
theorem dO {Q:ζ→π→Prop} (h:b5 s.heap k a xs) (q:Q (.ref s.heap.objs.size) { s with heap:=s.heap.push (itO k a) }):Β (model prog w) A (Ů (.ref a)) Q E s:=by
 rcases h with ⟨rfl,h⟩ | ⟨rfl,h⟩
 ·exact Ĕ h q
 ·exact Ġ h q
theorem tF (k1 k2:Bool) (a1 a2:Δ) (xs ys:Array ζ) :
 Gk (ś.«zip.__new__» ⟨[.type "zip",.ref a1,.ref a2],[]⟩) (fun _ R s=>b5 s.heap k1 a1 xs∧b5 s.heap k2 a2 ys ∧
  R (.ok (.ret (.ref (((((s.heap.push (itO k1 a1)).push (itO k2 a2)).push { cls:=.type "tuple",data:=.seq #[.ref s.heap.objs.size,.ref (s.heap.push (itO k1 a1)).objs.size] }).push { cls:=.type "tuple",data:=.seq #[.none,.none] })).objs.size)))
    { s with heap:=(((((s.heap.push (itO k1 a1)).push (itO k2 a2)).push { cls:=.type "tuple",data:=.seq #[.ref s.heap.objs.size,.ref (s.heap.push (itO k1 a1)).objs.size] }).push { cls:=.type "tuple",data:=.seq #[.none,.none] }).push { cls:=.type "zip",data:=.fields #[.none,.bool false,.bool false,.ref ((s.heap.push (itO k1 a1)).push (itO k2 a2)).objs.size,.ref (((s.heap.push (itO k1 a1)).push (itO k2 a2)).push { cls:=.type "tuple",data:=.seq #[.ref s.heap.objs.size,.ref (s.heap.push (itO k1 a1)).objs.size] }).objs.size] }) }):=
 .of_wp fun prog w A R s h=>by
  obtain ⟨hp,g,d,tk,os⟩:=s;obtain ⟨h1,h2,h⟩:=h
  have hsub:=sub_zip
  have L1:b5 (ţ ⟨hp,g,d,tk,os⟩) k1 a1 xs:=h1
  have L2:b5 (ţ ⟨hp.push (itO k1 a1),g,d,tk,os⟩) k2 a2 ys:=h2.push _
  wp_walk using dO L1,dO L2
  exact ⟨_,rfl,h⟩
abbrev zH2 (h:Ϸ) (k1 k2:Bool) (a1 a2:Δ):Ϸ:=((h.push (itO k1 a1)).push (itO k2 a2))
theorem tG (k1 k2 k3:Bool) (a1 a2 a3:Δ) (xs ys zs:Array ζ) :
 Gk (ś.«zip.__new__» ⟨[.type "zip",.ref a1,.ref a2,.ref a3],[]⟩) (fun _ R s=>b5 s.heap k1 a1 xs∧b5 s.heap k2 a2 ys∧b5 s.heap k3 a3 zs ∧
  R (.ok (.ret (.ref (((((zH2 s.heap k1 k2 a1 a2).push (itO k3 a3)).push { cls:=.type "tuple",data:=.seq #[.ref s.heap.objs.size,.ref (s.heap.push (itO k1 a1)).objs.size,.ref (zH2 s.heap k1 k2 a1 a2).objs.size] }).push { cls:=.type "tuple",data:=.seq #[.none,.none,.none] })).objs.size)))
    { s with heap:=(((((zH2 s.heap k1 k2 a1 a2).push (itO k3 a3)).push { cls:=.type "tuple",data:=.seq #[.ref s.heap.objs.size,.ref (s.heap.push (itO k1 a1)).objs.size,.ref (zH2 s.heap k1 k2 a1 a2).objs.size] }).push { cls:=.type "tuple",data:=.seq #[.none,.none,.none] }).push { cls:=.type "zip",data:=.fields #[.none,.bool false,.bool false,.ref ((zH2 s.heap k1 k2 a1 a2).push (itO k3 a3)).objs.size,.ref (((zH2 s.heap k1 k2 a1 a2).push (itO k3 a3)).push { cls:=.type "tuple",data:=.seq #[.ref s.heap.objs.size,.ref (s.heap.push (itO k1 a1)).objs.size,.ref (zH2 s.heap k1 k2 a1 a2).objs.size] }).objs.size] }) }):=
 .of_wp fun prog w A R s h=>by
  obtain ⟨hp,g,d,tk,os⟩:=s;obtain ⟨h1,h2,h3,h⟩:=h
  have hsub:=sub_zip
  have L1:b5 (ţ ⟨hp,g,d,tk,os⟩) k1 a1 xs:=h1
  have L2:b5 (ţ ⟨hp.push (itO k1 a1),g,d,tk,os⟩) k2 a2 ys:=h2.push _
  have L3:b5 (ţ ⟨(hp.push (itO k1 a1)).push (itO k2 a2),g,d,tk,os⟩) k3 a3 zs:=(h3.push _).push _
  wp_walk using dO L1,dO L2,dO L3
  exact ⟨_,rfl,h⟩
def psh (h:Ϸ):List DQ→Ϸ
 | []=>h
 | o :: r=>psh (h.push o) r
theorem dq:∀ {l:List DQ} {h:Ϸ} {b o},h.get? b=some o→(psh h l).get? b=some o
 | [],_,_,_,e=>e
 | a :: r,h,_,_,e=>dq (l:=r) (h:=h.push a) (ς _ e)
theorem bP:∀ {l:List DQ} {h:Ϸ} {j:Nat} {o:DQ},l[j]? = some o→o.isFreed=false→(psh h l).get? (h.objs.size+j)=some o
 | [],_,_,_,e,_=>by simp at e
 | a :: r,h,0,o,e,q=>by simp at e;subst e;exact dq (l:=r) (h:=h.push a) (χ _ q)
 | a :: r,h,j+1,o,e,q=>by
   have:=bP (h:=h.push a) (j:=j) (l:=r) (by simpa using e) q
   rw [ϴ] at this
   rw [show h.objs.size+(j+1)=h.objs.size+1+j by omega];exact this
theorem pv {Q:ζ→π→Prop} (h1:b5 s.heap k1 a1 xs) (h2:b5 s.heap k2 a2 ys)
 (h:∀ h',h'=psh s.heap [itO k1 a1,itO k2 a2,{ cls:=.type "tuple",data:=.seq #[.ref s.heap.objs.size,.ref (s.heap.objs.size+1)] },{ cls:=.type "tuple",data:=.seq #[.none,.none] },{ cls:=.type "zip",data:=.fields #[.none,.bool false,.bool false,.ref (s.heap.objs.size+2),.ref (s.heap.objs.size+3)] }]→Q (.ref (s.heap.objs.size+4)) { s with heap:=h' }) :
 Β (model prog w) A (call (.type "zip") [.ref a1,.ref a2]) Q E s:=by
 refine callType_new F.called_zip (by decide) (F.typeCall_zip_2 _ _) (F.newCall_zip_2 _ _) (fun obj=>F.args_object_init_3 obj _ _) Gq (tF k1 k2 a1 a2 xs ys) ⟨h1,h2,?_⟩
 have z1:=@ϴ
 show _∧_
 simp only [ϴ]
 exact ⟨⟨_,by rw [show s.heap.objs.size+4=(((((s.heap.push (itO k1 a1)).push (itO k2 a2)).push { cls:=.type "tuple",data:=.seq #[.ref s.heap.objs.size,.ref (s.heap.objs.size+1)] }).push { cls:=.type "tuple",data:=.seq #[.none,.none] })).objs.size by simp only [ϴ]];exact χ _ rfl,rfl⟩,h _ rfl⟩
end
section
variable {prog:ϸ} {w:Ü} {A:ϒ} {E:ζ→π→Prop} {s:π} {k k1 k2 k3:Bool} {a a1 a2 a3:Δ} {xs ys zs:Array ζ}
theorem pw {Q:ζ→π→Prop} (h1:b5 s.heap k1 a1 xs) (h2:b5 s.heap k2 a2 ys) (h3:b5 s.heap k3 a3 zs)
 (h:∀ h',h'=psh s.heap [itO k1 a1,itO k2 a2,itO k3 a3,{ cls:=.type "tuple",data:=.seq #[.ref s.heap.objs.size,.ref (s.heap.objs.size+1),.ref (s.heap.objs.size+2)] },{ cls:=.type "tuple",data:=.seq #[.none,.none,.none] },{ cls:=.type "zip",data:=.fields #[.none,.bool false,.bool false,.ref (s.heap.objs.size+3),.ref (s.heap.objs.size+4)] }]→Q (.ref (s.heap.objs.size+5)) { s with heap:=h' }) :
 Β (model prog w) A (call (.type "zip") [.ref a1,.ref a2,.ref a3]) Q E s:=by
 refine callType_new F.called_zip (by decide) (F.z3_typeCall _ _ _) (F.z3_newCall _ _ _) (fun obj=>F.z3_args_init obj _ _ _) Gq (tG k1 k2 k3 a1 a2 a3 xs ys zs) ⟨h1,h2,h3,?_⟩
 show _∧_
 simp only [ϴ]
 exact ⟨⟨_,bP (j:=5) (h:=s.heap) (l:=[itO k1 a1,itO k2 a2,itO k3 a3,{ cls:=.type "tuple",data:=.seq #[.ref s.heap.objs.size,.ref (s.heap.objs.size+1),.ref (s.heap.objs.size+2)] },{ cls:=.type "tuple",data:=.seq #[.none,.none,.none] },{ cls:=.type "zip",data:=.fields #[.none,.bool false,.bool false,.ref (s.heap.objs.size+3),.ref (s.heap.objs.size+4)] }]) rfl rfl,rfl⟩,h _ rfl⟩
def zd (k:Bool) (it a:Δ) (xs:Array ζ):Zd:=⟨it,[it,a],xs.size,fun i v=>xs[i]? = some v,fun i h=>(if k then h.IsTupleIter it a i else h.IsListIter it a i)∧if k then h.IsTuple a xs else h.IsList a xs⟩
theorem lI (hh:A.handled=none) (k:Bool) (it a:Δ) (hne:a≠it) (xs:Array ζ):EX prog w A it [it,a] xs.size (zd k it a xs).P (zd k it a xs).St:=by
 cases k
 ·exact GJ hh it a hne xs
 ·exact eS hh it a hne xs
theorem lJ {h:Ϸ} (e:h.get? it=some (itO k a)) (q:b5 h k a xs):(zd k it a xs).St 0 h:=by
 rcases q with ⟨rfl,q⟩ | ⟨rfl,q⟩
 ·exact ⟨⟨_,e,rfl,rfl⟩,q⟩
 ·exact ⟨⟨_,e,rfl,rfl⟩,q⟩
end
theorem lne (n j a:Nat) (ha:a<n):a≠n+j:=by omega
theorem oX:∀ {l m:List D} {i:Nat},(eR l m)[i]? = (l[i]?).bind fun a=>(m[i]?).map fun b=>.tup [a,b]
 | [],_,_=>by simp [eR]
 | a :: r,[],i=>by simp [eR]
 | a :: r,b :: q,0=>by simp [eR]
 | a :: r,b :: q,i+1=>by rw [eR,Á,oX];rfl
theorem lK:∀ {l m:List D},l.length≤m.length→(eR l m).length=l.length
 | [],_,_=>by simp [eR]
 | a :: r,[],h=>by simp at h
 | a :: r,b :: q,h=>by rw [eR,Κ,lK (by simpa using h),Κ]
theorem oY:∀ {l m n:List D} {i:Nat},(cw l m n)[i]? = (l[i]?).bind fun a=>(m[i]?).bind fun b=>(n[i]?).map fun c=>.tup [a,b,c]
 | [],_,_,_=>by simp [cw]
 | a :: r,[],_,i=>by simp [cw]
 | a :: r,b :: q,[],i=>by simp [cw]
 | a :: r,b :: q,c :: p,0=>by simp [cw]
 | a :: r,b :: q,c :: p,i+1=>by rw [cw,Á,oY];rfl
theorem lM:∀ {l m n:List D},l.length≤m.length→l.length≤n.length→(cw l m n).length=l.length
 | [],_,_,_,_=>by simp [cw]
 | a :: r,[],_,h,_=>by simp at h
 | a :: r,b :: q,[],_,h=>by simp at h
 | a :: r,b :: q,c :: p,h,h'=>by rw [cw,Κ,lM (by simpa using h) (by simpa using h'),Κ]
section
variable {X:Cx} {z z' z0 z1:Z} {tg:Μ}
theorem RDs.v {i:Nat} {d:D} {v:ζ} (r:RDs W ρ G l vs) (e:l[i]? = some d) (q:vs.toArray[i]? = some v):RD W ρ G d v:=by
 obtain ⟨v',w1,w2⟩:=r.get e
 rw [show vs[i]? = some v by simpa using q] at w1;cases w1;exact w2
theorem lw {x:D} (I:Rep X z) (h:RD X.W z.ρ z.G x u) (e:sqL x=some l):∃ k a vs,u = .ref a∧(∃ o,z.G a=some o)∧b5 z.s.heap k a vs.toArray∧RDs X.W z.ρ z.G l vs:=by
 cases x with
 | lst m=>cases e;obtain ⟨a,o,vs,rfl,g,⟨⟨n,rfl⟩,_⟩,r⟩:=h;exact ⟨false,a,vs,rfl,⟨_,g⟩,.inr ⟨rfl,_,I.gh _ _ g,rfl,n,rfl⟩,r⟩
 | tup m=>cases e;obtain ⟨a,o,vs,rfl,g,⟨tc,⟨n,td⟩,_⟩,r⟩:=h;exact ⟨true,a,vs,rfl,⟨_,g⟩,.inl ⟨rfl,_,I.gh _ _ g,tc,n,td⟩,r⟩
 | _=>cases e
theorem b5.psh (q:b5 h k a xs):b5 (psh h l) k a xs:=q.imp (fun ⟨e,q⟩=>⟨e,q.at fun o e=>dq e⟩) fun ⟨e,q⟩=>⟨e,q.at fun o e=>dq e⟩
theorem tE {es:List Μ} {k:Nat} {tp:ϭ} {ds:List D} {n:Nat} {l:List Zd} {zz TI TO:Δ} {h':Ϸ} {o:Out D} (hc:X.calm=true) (x:Ee X z z1) (I:Rep X z1) (kp:∀ b o,z1.s.heap.get? b=some o→h'.get? b=some o)
 (D:∀ A,A.handled=none→ZOk X.W.P X.W.w A n l zz TI TO) (hz:C4 h' zz TI TO .none) (hTI:IsT h' TI (l.map fun d=>.ref d.it)) (hTO:∃ vs,IsT h' TO vs∧vs.length=l.length) (st:∀ d∈l,d.St 0 h') (hn:ds.length=n) (nw:∀ b,b=zz∨b=TI∨b=TO→z1.h b=none)
 (fp:∀ d∈l,∃ a,d.fp = [d.it,a]∧z1.h d.it=none∧∃ o,z1.G a=some o)
 (hP:∀ i d (vs:List ζ),vs.length=l.length→(∀ (j:Nat) (d:Zd) v,l[j]? = some d→vs[j]? = some v→d.P i v)→ds[i]? = some d→∃ l,d = .tup l∧∀ ρ' G',z1.ρ <+: ρ'→Sub z1.G G'→RDs X.W ρ' G' l vs) (e:o = .ok (.lst ds) z1.t) :
 Β X.M X.A (Ů (.ref zz)) (FI X z (.Tuple es k tp) o) NoE { z1.s with heap:=h' }:=by
 refine Gu hz (eV (ds:=ds) x I (s2:={ z1.s with heap:=h' }) (.hp (t:=z1.s.toks) kp) (Itr.walksT (I.hd hc) hn (fun A hA=>qk (D A.in1 hA)) (fun i h st b hb=>?_) (fun _ _ _ m=>m.2) fun i vals d p1 p2=>?_) ⟨hz,hTI,hTO,st⟩ (fun b hb=>?_) e)
 ·obtain ⟨w1,w2,⟨_,w3,_⟩,w4⟩:=st
  rcases ξ.mp hb with rfl | hb
  ·exact ⟨_,w1⟩
  rcases ξ.mp hb with rfl | hb
  ·exact ⟨_,w3⟩
  obtain ⟨d,hd,rfl⟩:=Ϩ.mp hb
  exact ((D ř rfl).dr d hd).1.live _ _ (w4 d hd)
 ·obtain ⟨vs,rfl,hl,hv⟩:=p1
  obtain ⟨l',q1,q2⟩:=hP i d vs hl hv p2
  refine ⟨by have:=(D ř rfl).sz;simpa using (show vs.length≤ϛ by omega),l',q1,fun ρ' G' h1 h2=>q2 ρ' G' h1 h2⟩
 ·have old:∀ {c},z1.h c=none→∀ {o},z1.G c=some o→False:=fun n o q=>by rw [I.gh _ _ q] at n;cases n
  rcases ξ.mp hb with rfl | hb
  ·exact .inl ⟨nw _ (.inl rfl),_,hz⟩
  rcases ξ.mp hb with rfl | hb
  ·exact .inl ⟨nw _ (.inr (.inl rfl)),_,hTI⟩
  rcases ξ.mp hb with rfl | hb
  ·obtain ⟨_,w,_⟩:=hTO;exact .inl ⟨nw _ (.inr (.inr rfl)),_,w⟩
  obtain ⟨d,hd,hb⟩:=CV.mp hb
  obtain ⟨a,f1,f2,o,f3⟩:=fp d hd
  rw [f1] at hb
  rcases ξ.mp hb with rfl | hb
  ·exact .inl ⟨f2,((D ř rfl).dr d hd).1.live _ _ (st d hd)⟩
  ·cases η.mp hb
   refine .inr ⟨fun m=>?_,o,f3⟩
   rcases ξ.mp m with rfl | m
   ·exact old (nw _ (.inl rfl)) f3
   rcases ξ.mp m with rfl | m
   ·exact old (nw _ (.inr (.inr rfl))) f3
   obtain ⟨d',hd',rfl⟩:=Ϩ.mp m
   obtain ⟨_,_,f5,_⟩:=fp d' hd'
   exact old f5 f3
theorem ev3 (f:List D→Sta→Out β):(X.evs br (.cons a (.cons b (.cons c .nil))) t).bind f=(X.ev br a t).bind fun x s=>(X.ev br b s).bind fun y s=>(X.ev br c s).bind fun w s=>f [x,y,w] s:=by
 show ((X.ev br a t).bind fun x s=>(X.evs br (.cons b (.cons c .nil)) s).bind fun l s=>Out.ok (x :: l) s).bind f=_
 rw [au];congr 1;funext x s;rw [au,ev2];rfl
theorem uL {es:List Μ} {k:Nat} {tp:ϭ} (hc:X.calm=true) (hx:Blt X "zip" (.type "zip")) (ha:LE X ea a) (hb:LE X eb b) (he:Η [ea,eb] X.env=(false,eval ea X.env) :: Η [eb] X.env) (he2:Η [eb] X.env=(false,eval eb X.env) :: Η [] X.env):LI X (.Tuple es k tp) (.Call (.Name "zip" p) [ea,eb] [] pos) (.it .zip2 (.cons a (.cons b .nil))):=fun z I nb=>
 bb (Q:=fun v s1=>Β X.M X.A (Ů v) (FI X z (.Tuple es k tp) (X.ev false (.it .zip2 (.cons a (.cons b .nil))) z.t)) NoE s1) (.inr ⟨_,rfl⟩) hx he (by rw [he2];rfl) I (by
  rw [he2]
  exact Λ ((ha false).go .refl I (ev2 fun l s=>Out.of s ((itD .zip2 l).map D.lst)) nb fun z1 x u y1 x1 I1 r1 e1=>Λ ((hb false).go x1 I1 e1 nb fun z2 y v y2 x2 I2 r2 e2=>Ω (by
   have e2:X.ev false (.it .zip2 (.cons a (.cons b .nil))) z.t=Out.of z2.t ((match sqL x,sqL y with | some l,some m=>if l.length≤m.length then some (eR l m) else none | _,_=>none).map D.lst):=e2
   cases q1:sqL x with
   | none=>rw [q1] at e2;exact ZX e2 nb
   | some l=>
     cases q2:sqL y with
     | none=>rw [q1,q2] at e2;exact ZX e2 nb
     | some m=>
       rw [q1,q2] at e2
       by_cases c:l.length≤m.length
       ·have e2:X.ev false (.it .zip2 (.cons a (.cons b .nil))) z.t = .ok (.lst (eR l m)) z2.t:=by rw [e2];simp only [ZZ c];rfl
        obtain ⟨k1,a1,vs,rfl,⟨o1,g1⟩,s1,w1⟩:=lw I2 (r1.rd.st y2.st) q1
        obtain ⟨k2,a2,us,rfl,⟨o2,g2⟩,s2,w2⟩:=lw I2 r2.rd q2
        have l1:=Τ (I2.gh _ _ g1)
        have l2:=Τ (I2.gh _ _ g2)
        refine pv s1 s2 fun h' hh=>?_
        have N:∀ j,z2.h (z2.s.heap.objs.size+j)=none:=fun j=>fV (D9 ..)
        have e1:=w1.len
        have e3:=w2.len
        refine tE (ds:=eR l m) (n:=vs.toArray.size) (l:=[zd k1 z2.s.heap.objs.size a1 vs.toArray,zd k2 (z2.s.heap.objs.size+1) a2 us.toArray]) hc x2 I2 (fun b o e=>hh ▸ dq e) (fun A hA=>⟨fun d hd=>?_,fun i j d e hi hj ne=>?_,⟨_,_,rfl,rfl⟩,⟨?_,?_,?_⟩,by rw [Ċ];exact Ξ rfl⟩) (hh ▸ bP (j:=4) rfl rfl) (hh ▸ bP (j:=2) rfl rfl) ⟨[.none,.none],hh ▸ bP (j:=3) rfl rfl,rfl⟩ (fun d hd=>?_) (by rw [lK c,e1];simp) (fun b hb=>by rcases hb with rfl | rfl | rfl <;> exact N _) (fun d hd=>?_) (fun i d ws hl hv hd=>?_) e2
        ·simp only [ξ,î,or_false] at hd
         rcases hd with rfl | rfl
         ·exact ⟨lI hA _ _ _ (ϝ l1) _,ω _,ν,nin _ 4 0 _ (by decide) l1,nin _ 3 0 _ (by decide) l1,by simp [zd]⟩
         ·exact ⟨lI hA _ _ _ (lne _ 1 _ l2) _,by simp [zd];omega,ν,nin _ 4 1 _ (by decide) l2,nin _ 3 1 _ (by decide) l2,by simp [zd]⟩
        ·match i,j,hi,hj,ne with
         | 0,0,_,_,ne=>exact ZX rfl ne
         | 0,1,hi,hj,_=>cases hi;cases hj;exact nin _ 0 1 _ (by decide) l2
         | 1,0,hi,hj,_=>cases hi;cases hj;exact nin _ 1 0 _ (by decide) l1
         | 1,1,_,_,ne=>exact ZX rfl ne
         | i+2,_,hi,_,_=>simp at hi
         | _,j+2,_,hj,_=>simp at hj
        ·simp
        ·simp
        ·simp
        ·simp only [ξ,î,or_false] at hd
         rcases hd with rfl | rfl
         ·exact lJ (hh ▸ bP (j:=0) rfl rfl) (hh ▸ s1.psh)
         ·exact lJ (hh ▸ bP (j:=1) rfl rfl) (hh ▸ s2.psh)
        ·simp only [ξ,î,or_false] at hd
         rcases hd with rfl | rfl
         ·exact ⟨a1,rfl,N 0,_,g1⟩
         ·exact ⟨a2,rfl,N 1,_,g2⟩
        ·rw [oX] at hd
         obtain ⟨da,w3,hd⟩:=ϓ.mp hd
         obtain ⟨db,w4,rfl⟩:=ψ.mp hd
         match ws,hl,hv with
         | [va,vb],_,hv=>exact ⟨_,rfl,fun ρ' G' h1 h2=>.cons ((w1.mono h1 h2).v w3 (hv 0 _ va rfl rfl)) (.cons ((w2.mono h1 h2).v w4 (hv 1 _ vb rfl rfl)) rfl)⟩
       ·simp only [ZY c] at e2;exact ZX e2 nb))))
theorem uM {es:List Μ} {k:Nat} {tp:ϭ} (hc:X.calm=true) (hx:Blt X "zip" (.type "zip")) (ha:LE X ea a) (hb:LE X eb b) (hd:LE X ec c) (he:Η [ea,eb,ec] X.env=(false,eval ea X.env) :: Η [eb,ec] X.env) (he2:Η [eb,ec] X.env=(false,eval eb X.env) :: Η [ec] X.env) (he3:Η [ec] X.env=(false,eval ec X.env) :: Η [] X.env):LI X (.Tuple es k tp) (.Call (.Name "zip" p) [ea,eb,ec] [] pos) (.it .zip3 (.cons a (.cons b (.cons c .nil)))):=fun z I nb=>
 bb (Q:=fun v s1=>Β X.M X.A (Ů v) (FI X z (.Tuple es k tp) (X.ev false (.it .zip3 (.cons a (.cons b (.cons c .nil)))) z.t)) NoE s1) (.inr ⟨_,rfl⟩) hx he (by rw [he2,he3];rfl) I (by
  rw [he2,he3]
  exact Λ ((ha false).go .refl I (ev3 fun l s=>Out.of s ((itD .zip3 l).map D.lst)) nb fun z0 x0 u0 y0 x0' I0 r0 e0=>Λ ((hb false).go x0' I0 e0 nb fun z1 x u y1 x1 I1 r1 e1=>Λ ((hd false).go x1 I1 e1 nb fun z2 y v y2 x2 I2 r2 e2=>Ω (by
   have e2:X.ev false (.it .zip3 (.cons a (.cons b (.cons c .nil)))) z.t=Out.of z2.t ((match sqL x0,sqL x,sqL y with | some l,some m,some n=>if l.length≤m.length∧l.length≤n.length then some (cw l m n) else none | _,_,_=>none).map D.lst):=e2
   cases q1:sqL x0 with
   | none=>rw [q1] at e2;exact ZX e2 nb
   | some l=>
     cases q2:sqL x with
     | none=>rw [q1,q2] at e2;exact ZX e2 nb
     | some m=>
       cases q3:sqL y with
       | none=>rw [q1,q2,q3] at e2;exact ZX e2 nb
       | some n=>
         rw [q1,q2,q3] at e2
         by_cases cc:l.length≤m.length∧l.length≤n.length
         ·have e2:X.ev false (.it .zip3 (.cons a (.cons b (.cons c .nil)))) z.t = .ok (.lst (cw l m n)) z2.t:=by rw [e2];simp only [ZZ cc];rfl
          obtain ⟨k1,a1,vs,rfl,⟨o1,g1⟩,s1,w1⟩:=lw I2 ((r0.rd.st y1.st).st y2.st) q1
          obtain ⟨k2,a2,us,rfl,⟨o2,g2⟩,s2,w2⟩:=lw I2 (r1.rd.st y2.st) q2
          obtain ⟨k3,a3,ts,rfl,⟨o3,g3⟩,s3,w3⟩:=lw I2 r2.rd q3
          have l1:=Τ (I2.gh _ _ g1)
          have l2:=Τ (I2.gh _ _ g2)
          have l3:=Τ (I2.gh _ _ g3)
          refine pw s1 s2 s3 fun h' hh=>?_
          have N:∀ j,z2.h (z2.s.heap.objs.size+j)=none:=fun j=>fV (D9 ..)
          have e1:=w1.len
          have e3:=w2.len
          have e4:=w3.len
          refine tE (ds:=cw l m n) (n:=vs.toArray.size) (l:=[zd k1 z2.s.heap.objs.size a1 vs.toArray,zd k2 (z2.s.heap.objs.size+1) a2 us.toArray,zd k3 (z2.s.heap.objs.size+2) a3 ts.toArray]) hc x2 I2 (fun b o e=>hh ▸ dq e) (fun A hA=>⟨fun d hd=>?_,fun i j d e hi hj ne=>?_,⟨_,_,rfl,rfl⟩,⟨?_,?_,?_⟩,by rw [Ċ];exact Ξ rfl⟩) (hh ▸ bP (j:=5) rfl rfl) (hh ▸ bP (j:=3) rfl rfl) ⟨[.none,.none,.none],hh ▸ bP (j:=4) rfl rfl,rfl⟩ (fun d hd=>?_) (by rw [lM cc.1 cc.2,e1];simp) (fun b hb=>by rcases hb with rfl | rfl | rfl <;> exact N _) (fun d hd=>?_) (fun i d ws hl hv hd=>?_) e2
          ·simp only [ξ,î,or_false] at hd
           rcases hd with rfl | rfl | rfl
           ·exact ⟨lI hA _ _ _ (ϝ l1) _,ω _,ν,nin _ 5 0 _ (by decide) l1,nin _ 4 0 _ (by decide) l1,by simp [zd]⟩
           ·exact ⟨lI hA _ _ _ (lne _ 1 _ l2) _,by simp [zd];omega,ν,nin _ 5 1 _ (by decide) l2,nin _ 4 1 _ (by decide) l2,by simp [zd]⟩
           ·exact ⟨lI hA _ _ _ (lne _ 2 _ l3) _,by simp [zd];omega,ν,nin _ 5 2 _ (by decide) l3,nin _ 4 2 _ (by decide) l3,by simp [zd]⟩
          ·have hl:∀ (i:Nat) (d:Zd),[zd k1 z2.s.heap.objs.size a1 vs.toArray,zd k2 (z2.s.heap.objs.size+1) a2 us.toArray,zd k3 (z2.s.heap.objs.size+2) a3 ts.toArray][i]? = some d→i<3∧d.it=z2.s.heap.objs.size+i∧∃ b:Nat,d.fp = [z2.s.heap.objs.size+i,b]∧b<z2.s.heap.objs.size:=fun i d h=>by
            match i,h with
            | 0,h=>cases h;exact ⟨by decide,rfl,a1,rfl,l1⟩
            | 1,h=>cases h;exact ⟨by decide,rfl,a2,rfl,l2⟩
            | 2,h=>cases h;exact ⟨by decide,rfl,a3,rfl,l3⟩
            | i+3,h=>simp at h
           obtain ⟨_,h1,_⟩:=hl i d hi
           obtain ⟨_,_,b,h2,h3⟩:=hl j e hj
           rw [h1,h2]
           exact nin _ i j b ne h3
          ·simp
          ·simp
          ·simp
          ·simp only [ξ,î,or_false] at hd
           rcases hd with rfl | rfl | rfl
           ·exact lJ (hh ▸ bP (j:=0) rfl rfl) (hh ▸ s1.psh)
           ·exact lJ (hh ▸ bP (j:=1) rfl rfl) (hh ▸ s2.psh)
           ·exact lJ (hh ▸ bP (j:=2) rfl rfl) (hh ▸ s3.psh)
          ·simp only [ξ,î,or_false] at hd
           rcases hd with rfl | rfl | rfl
           ·exact ⟨a1,rfl,N 0,_,g1⟩
           ·exact ⟨a2,rfl,N 1,_,g2⟩
           ·exact ⟨a3,rfl,N 2,_,g3⟩
          ·rw [oY] at hd
           obtain ⟨da,p3,hd⟩:=ϓ.mp hd
           obtain ⟨db,p4,hd⟩:=ϓ.mp hd
           obtain ⟨dc,p5,rfl⟩:=ψ.mp hd
           match ws,hl,hv with
           | [va,vb,vc],_,hv=>exact ⟨_,rfl,fun ρ' G' h1 h2=>.cons ((w1.mono h1 h2).v p3 (hv 0 _ va rfl rfl)) (.cons ((w2.mono h1 h2).v p4 (hv 1 _ vb rfl rfl)) (.cons ((w3.mono h1 h2).v p5 (hv 2 _ vc rfl rfl)) rfl))⟩
         ·simp only [ZY cc] at e2;exact ZX e2 nb)))))
end
theorem kA {M:Ej} {A:ϒ} {E:ζ→π→Prop} {s:π} {items:Array ζ} {x:ζ} {e:ζ→Bool} {Q:Option GX×Unit→π→Prop} (he:∀ y∈items,∀ (E':ζ→π→Prop) (Q':Bool→π→Prop),Q' (e y) s→Β M A (eqBool y x) Q' E' s) {j:Nat} (hj:j<items.size) (hit:e items[j]=true)
 (hq:Q (some (.done (.ret (.int j s.toks))),()) { s with toks:=s.toks+1 }):∀ (k i:Nat),i+k=items.size→i≤j→(∀ m (hm:m<items.size),i≤m→m<j→e items[m]=false) →
 Β M A (forIn (õ i k) ((none:Option GX),()) fun (i:Nat) _=>match items[i]? with
  | some y=>do
    if ← eqBool y x then
     let r ← retInt (i:Nat)
     pure (ForInStep.done (some r,()))
    else pure (ϫ (none,()))
  | _=>pure (ϫ (none,()))) Q E s
 | 0,i,h1,h2,_=>by omega
 | k+1,i,h1,h2,hn=>by
   have hi:i<items.size:=by omega
   rw [Fk,ī,ļ hi]
   refine ε (ε (he _ (Array.getElem_mem hi) _ _ ?_))
   by_cases z:i=j
   ·subst z
    rw [hit,ZZ rfl]
    refine ε ?_
    unfold retInt
    exact ε (wpAny_mkInt (θ (θ (θ hq))))
   ·rw [hn i hi (ω _) (by omega),ZY ϟ]
    exact θ (kA he hj hit hq k (i+1) (by omega) (by omega) fun m hm h3 h4=>hn m hm (by omega) h4)
theorem qh (l:Δ) (items:Array ζ) (x:ζ) (e:ζ→Bool) (j:Nat) (hj:j<items.size) (hit:e items[j]=true) (hno:∀ m (hm:m<items.size),m<j→e items[m]=false) :
 Gk (ś.«tuple.index» ⟨[.ref l,x],[]⟩) (fun A R s=>s.heap.IsTuple l items∧(∀ y,y∈items→SeqAt.EqAt A.in1 s y x (e y))∧R (.ok (.ret (.int j s.toks))) { s with toks:=s.toks+1 }):=by
 intro prog w A R s h
 obtain ⟨ht,he,hq⟩:=h
 unfold ś.«tuple.index»
 refine ε (θ ?_)
 refine ε (Ew ht ?_)
 refine ε (θ ?_)
 refine ε (θ ?_)
 dsimp only
 rw [į,FJ]
 have ez:C2 [:items.size]=items.size:=by simp [C2]
 rw [ez]
 refine ε (kA (e:=e) (fun y hy E' Q' q'=>he y hy prog w E' Q' q') hj hit ?_ items.size 0 (by omega) (by omega) fun m hm _ h4=>hno m hm h4)
 exact θ hq
section
variable {X:Cx} {z:Z}
theorem oU:∀ {us:List ζ} {ss:List ι} {i:Nat} {v:ζ},StrsAre us ss→us[i]? = some v→∃ y t,ss[i]? = some y∧v = .str y t
 | _,_,_,_,.nil,e=>by simp at e
 | _,_,0,v,.cons y t _,e=>by simp at e;subst e;exact ⟨y,t,rfl,rfl⟩
 | _,_,i+1,v,.cons _ _ r,e=>by
   obtain ⟨y,t,h1,h2⟩:=oU (i:=i) r (by simpa using e)
   exact ⟨y,t,by simpa using h1,h2⟩
def ixT (k:ι):ζ→Bool
 | .str y _=>y == k
 | _=>false
theorem rK (ha:LE X eo a) (hb:LE X eb b) (m:M1 X eo "index" apos eb cpos):LE X (.Call (.Attribute eo "index" apos) [eb] [] cpos) (.index a b):=fun br z I nb=>
 ġ m.base m.few m.line PySem.F.plainAttrs_tuple Dt PySem.F.type_tuple_index ((ha true).go .refl I rfl nb fun z1 x u y1 x1 I1 r1 e1=>by
  cases x with
  | tup l=>
    have e1:X.ev br (.index a b) z.t=(X.ev true b z1.t).bind fun y s=>.of s (xw (.tup l) y):=e1
    obtain ⟨p,o,vs,rfl,g,⟨tc,⟨n,td⟩,hz,tdi⟩,r⟩:=(r1.rb.cr0 I1:RD X.W z1.ρ z1.G (.tup l) u)
    refine ⟨⟨o,I1.gh _ _ g,tc⟩,fun b q=>(by cases q;exact ⟨o,I1.gh _ _ g,tdi⟩),?_⟩
    rw [m.trees]
    refine Ú rfl (è (Λ ((hb true).go x1 I1 e1 nb fun z2 y v y2 x2 I2 r2 e2=>Ω (cg x2 I2 e2 nb fun d q=>?_))))
    cases y with
    | str k=>
      obtain ⟨t,rfl⟩:=(r2.rb.cr0 I2:RD X.W z2.ρ z2.G (.str k) v)
      obtain ⟨ss,q1,q2⟩:=ϓ.mp (show ((cE l).bind fun ss=>(ss.findIdx? (· == k)).map fun (j:Nat)=>D.int j)=some d from q)
      obtain ⟨j,q3,rfl⟩:=ψ.mp q2
      have sa:=gQ q1 (r.mono y2.st.pr y2.st.gg)
      obtain ⟨hj,hp,hn⟩:=List.findIdx?_eq_some_iff_getElem.mp q3
      have hl:vs.length=ss.length:=sa.length
      have at_:∀ m (hm:m<vs.toArray.size),∃ t,vs.toArray[m] = .str (ss[m]'(by simp at hm;omega)) t:=fun m hm=>by
       have hm':m<vs.length:=by simpa using hm
       obtain ⟨y,t,w1,w2⟩:=oU sa (Α hm')
       rw [Α (by omega)] at w1;cases w1
       exact ⟨t,by simpa using w2⟩
      refine Ec Dt ⟨o,I2.gh _ _ (y2.st.gg _ _ g),tc⟩ PySem.F.entry_tuple_index (PySem.F.args_tuple_index_2 _ _) (qh p vs.toArray (.str k t) (ixT k) j (by simp;omega) ?_ fun m hm lt=>?_) ⟨⟨o,I2.gh _ _ (y2.st.gg _ _ g),tc,n,td⟩,fun y hy=>?_,.tok fun _ _ _=>⟨_,rfl⟩⟩
      ·obtain ⟨t',e'⟩:=at_ j (by simp;omega)
       rw [e'];exact hp
      ·obtain ⟨t',e'⟩:=at_ m hm
       rw [e'];exact ZU.mpr (by simpa using hn m lt)
      ·obtain ⟨m,hm,rfl⟩:=Array.mem_iff_getElem.mp hy
       obtain ⟨t',e'⟩:=at_ m hm
       rw [e']
       exact ((e3 I2.toHR 1 (d:=.str (ss[m]'(by simp at hm;omega))) (e:=.str k) (by rfl) (show CR X.W z2 (.str _) _ from ⟨_,rfl⟩) (show CR X.W z2 (.str k) _ from ⟨_,rfl⟩)).2 _ (by have:=I2.ok.un;show _+1+1+1<_;omega)).1
    | _=>cases q
  | _=>exact ZX e1 nb)
theorem uD {x:ι} {j:Nat} {cl:Cl} {i:CI} (F:bX X X.cal1 lv cl.init f) (hr:ba (lv+1) X.A) (M:Mk X.K i.ad f) (hcl:X.Γ.cl[j]? = some cl) (hw:cl.what=0) (hci:X.W.ci[j]? = some i) (hwh:X.W.what[j]? = some 0) (hg:Gl X x) (hm:X.mg x=some (.ref i.ad)) (hd:(x == ("__debug__":ι))=false):LE X (.Call (.Name x p) [] [] pos) (.new j .nil):=fun br z I nb=>
 æ (bg I hg hm (E1 I.toHR.kin M.kp (oQ F hr M hcl hw hci hwh .refl I (l:=[]) (us:=[]) (es:=.nil) trivial rfl nb)) hd)
end
def cu (nm:List (ι×Ζ)) (x:ι):Bool:=match nm.lookup x with
 | some .local=>true
 | some .cell=>true
 | some .free=>true
 | _=>false
def bL (nm:List (ι×Ζ)) (x:ι):Bool:=nm.lookup x == some .globalImplicit
def bI:Μ→Bool
 | .Call (.Name id _) [] [] _=>id != "super"
 | _=>true
theorem ag (h:aG e=true):Η (e :: es) env=(false,eval e env) :: Η es env:=by
 cases e <;> first | rfl | cases h
theorem gJ (h:aG e=true):iU e:=by
 cases e <;> first | (intro o i;rfl) | cases h
theorem gB (h:aG e=true):ñ op e=false:=by
 cases e <;> first | rfl | cases h
theorem iH (h:aG e=true):∀ x,Dr e env x=pure x:=by
 cases e <;> first | (intro x;rfl) | cases h
theorem bv (h:∀ e∈es,aG e=true):(ϻ pos (Η es env)).any (·.1)=false:=by
 induction es with
 | nil=>rfl
 | cons e r ih=>
   rw [ag (h e ν)]
   have:=ih fun x hx=>h x (μ _ hx)
   show (false || (ϻ pos (Η r env)).any (·.1))=false
   rw [this];rfl
theorem aY {X:Cx} (hs:X.env.scope.names=nm) (h:cu nm x=true):Vis X.env.scope x:=by
 unfold cu at h
 unfold Vis
 rw [hs]
 split at h <;> first | (rename_i q;exact .inl q) | (rename_i q;exact .inr (.inl q)) | (rename_i q;exact .inr (.inr q)) | cases h
theorem bp (hs:X.env.scope.names=nm) (h:bL nm x=true):Gl X x:=by
 unfold bL at h
 show X.env.scope.names.lookup x=_
 rw [hs]
 simpa using h
structure Ns where
 gl:List ι
 tb:List ι
 fn:List ι
 at_:List ι
 bl:List ι
 rf:List ι:=[]
 me:List (ι×Nat×Nat):=[]
 ex:List ι:=[]
 nw:List ι:=[]
 mu:List ι:=[]
 nd:List ι:=[]
 hx:List ι:=[]
 hc:List ι:=[]
 xt:List ι:=[]
 kp:List ι:=[]
 alt:List (ι×Nat):=[]
 dn:List (ι×Nat×Nat):=[]
 fc:List ι:=[]
 oc:List ι:=[]
 e2:Bool:=false
def Ns.an (T:Ns) (f:Nat):ι:=T.at_.getD f ""
abbrev Cx.to (X:Cx) (A:ϒ) (fr:List CT) (N:List ι) (e:CT) (cal cal1:Nat→List D→List O→Res):Cx:={ X with A:=A,fr:=fr,N:=N,env:=e,cal:=cal,cal1:=cal1 }
theorem HR.to {X:Cx} {A:ϒ} {fr:List CT} {N1 N2:List ι} {e1 e2:CT} {c1 c2 d1 d2:Nat→List D→List O→Res} (I:HR (X.to A fr N1 e1 c1 d1) z):HR (X.to A fr N2 e2 c2 d2) z:=⟨I.md,I.fm,I.hd,I.bs,I.gh,I.rl,I.rn,I.rg,I.ob,I.fu,I.ff,I.br,I.os⟩
theorem FnC.to {X:Cx} {A:ϒ} {fr:List CT} {N:List ι} {e:CT} {c1 d1:Nat→List D→List O→Res} (h:FnC X cal lv j f fd ps dvs):FnC (X.to A fr N e c1 d1) cal lv j f fd ps dvs:=⟨h.len,fun A2 fr2 z args us ds r I b rd nb=>ì (h.run A2 fr2 z args us ds r (HR.to (X:=X) (N1:=N) (e1:=e) (c1:=c1) (d1:=d1) I) b rd nb) fun q s' hq=>by
 cases q with
 | error x=>obtain ⟨z',c,l,a1,a2,a3,a4,a5⟩:=hq;exact ⟨z',c,l,a1,a2,a3,HR.to (X:=X) a4,a5⟩
 | ok fl=>cases fl with
   | ret u=>obtain ⟨z',d,a1,a2,a3,a4,a5⟩:=hq;exact ⟨z',d,a1,a2,a3,HR.to (X:=X) a4,a5⟩
   | _=>exact hq.elim⟩
theorem bX.to {X:Cx} {A:ϒ} {fr:List CT} {N:List ι} {e:CT} {c1 d1:Nat→List D→List O→Res} (h:bX X cal lv j f):bX (X.to A fr N e c1 d1) cal lv j f:=let ⟨fd,ps,dvs,a,b,c⟩:=h;⟨fd,ps,dvs,a.to,b,c⟩
theorem FnI.to {X:Cx} {A:ϒ} {fr:List CT} {N:List ι} {e:CT} {c1 d1:Nat→List D→List O→Res} (h:FnI X lv f fd ps nm ck):FnI (X.to A fr N e c1 d1) lv f fd ps nm ck:=⟨h.len,fun A2 fr2 z args us p P ch r I b lu H hB hP hc=>h.run A2 fr2 z args us p P ch r (HR.to (X:=X) (N1:=N) (e1:=e) (c1:=c1) (d1:=d1) I) b lu ⟨H.ex,H.keep,H.set⟩ hB hP hc⟩
theorem FnJ.to {X:Cx} {A:ϒ} {fr:List CT} {N:List ι} {e:CT} {c1 d1:Nat→List D→List O→Res} (h:FnJ X lv f fd ps nm k C):FnJ (X.to A fr N e c1 d1) lv f fd ps nm k C:=let ⟨ck,a,b⟩:=h;⟨ck,a.to,b⟩
structure CxOk (T:Ns) (X:Cx) (nm:List (ι×Ζ)) (N:List ι):Prop where
 hN:X.N=N
 nd:N.Nodup
 sc:X.env.scope.names=nm
 kd:X.env.scope.kind = .function
 calm:X.calm=true
 fns:∀ (j:Nat) (x:ι),T.fn[j]? = some x→∃ k f,bX X X.cal k j f∧ba k X.A∧X.mg x=some (.ref f)
 gls:∀ (j:Nat) (x:ι),T.gl[j]? = some x→∃ d u,X.Γ.gl[j]? = some d∧X.mg x=some u∧aT X.K d u=true
 tbs:∀ (j:Nat) (x:ι),T.tb[j]? = some x→∃ t a,X.Γ.tb[j]? = some t∧X.mg x=some (.ref a)∧TbL X a t
 blt:∀ x∈T.bl,X.mg x=none
 cls:cm X T.an
 mts:∀ q∈T.me,∃ k f,bX X X.cal k q.2.2 f∧ba k X.A∧o6 X T.an q.1 q.2.1 f
 nws:∀ (j:Nat) (x:ι),T.nw[j]? = some x→x≠""→∃ n f i cl,bX X X.cal1 n cl.init f∧ba (n+1) X.A∧Mk X.K i.ad f∧X.Γ.cl[j]? = some cl∧cl.what=0∧X.W.ci[j]? = some i∧X.W.what[j]? = some 0∧X.mg x=some (.ref i.ad)
 nds:∀ (j:Nat) (x:ι),T.nd[j]? = some x→x≠""→∃ n f fd ps i cl,FnI X n f fd ps i.nm none∧bS X.K fd ps []∧ba (n+1) X.A∧Mk X.K i.ad f∧Cls X.K i.ad∧(∀ f∈i.nm,cy X.K i.ad f)∧X.Γ.cl[j]? = some cl∧X.W.ci[j]? = some i∧X.W.what[j]? = some 1∧i.nm.length=cl.at_.length∧X.mg x=some (.ref i.ad)
 hxs:∀ (j:Nat) (x:ι),T.hx[j]? = some x→x≠""→qp X j x
abbrev GE (T:Ns) (nm:List (ι×Ζ)) (N:List ι) (e:Μ):={c:E // ∀ X,CxOk T X nm N→LE X e c∧(a9 c=true→LF X e c)}
abbrev GT (T:Ns) (nm:List (ι×Ζ)) (N:List ι) (e:Μ):={c:E // ∀ X,CxOk T X nm N→LT X e c}
abbrev GW (T:Ns) (nm:List (ι×Ζ)) (N:List ι) (e:Μ):={c:E // ∀ X,CxOk T X nm N→LW X e c}
abbrev GA (T:Ns) (nm:List (ι×Ζ)) (N:List ι) (es:List Μ):={c:E // ∀ X,CxOk T X nm N→LA X es c}
abbrev GO (T:Ns) (nm:List (ι×Ζ)) (N:List ι) (e:Option Μ):={c:E // ∀ X,CxOk T X nm N→LO X e c}
abbrev GI (T:Ns) (nm:List (ι×Ζ)) (N:List ι) (tg e:Μ):={c:E // ∀ X,CxOk T X nm N→LI X tg e c}
abbrev aI (T:Ns):=∀ nm N e,Option (GE T nm N e)
abbrev gZ (T:Ns):=∀ nm N e,Option (GT T nm N e)
theorem mk (h:LE X e c) (n:a9 c=false:=by rfl):LE X e c∧(a9 c=true→LF X e c):=⟨h,fun q=>by rw [n] at q;cases q⟩
theorem mkf (h:LF X e c) (hb:∀ br,X.ev br c=X.ev false c:=by intro _;rfl):LE X e c∧(a9 c=true→LF X e c):=⟨h.le hb,fun _=>h⟩
def yes (b:Bool):Option (PLift (b=true)):=match b with | true=>some ⟨rfl⟩ | false=>none
def no (b:Bool):Option (PLift (b=false)):=match b with | false=>some ⟨rfl⟩ | true=>none
def bc (x:ι):(l:List ι)→Option {i:Nat // l[i]? = some x}
 | []=>none
 | y :: r=>match h:y == x with
   | true=>some ⟨0,by rw [DZ];congr;simpa using h⟩
   | false=>(bc x r).map fun i=>⟨i.1+1,by rw [Á];exact i.2⟩
def dnA (x:ι) (n:Nat) (l:List (ι×Nat×Nat)):List (ι×Nat):=match l.lookup x with
 | some q=>if n=q.1 then [(x,q.2)] else []
 | none=>[]
def BC (x:ι) (al:List (ι×Nat)) (l:List ι):Option {i:Nat // l[i]? = some x}:=match al.lookup x with
 | some j=>(match h:l[j]? with
   | some y=>(match h2:y == x with
     | true=>some ⟨j,by rw [h];congr;simpa using h2⟩
     | false=>none)
   | none=>none)
 | none=>bc x l
def dX (x:ι):(l:List ι)→Option (PLift (x∈l))
 | []=>none
 | y :: r=>match h:y == x with
   | true=>some ⟨by have:y=x:=by simpa using h
                    rw [this];exact ν⟩
   | false=>(dX x r).map fun i=>⟨μ _ i.down⟩
section
variable {T:Ns} {nm:List (ι×Ζ)} {N:List ι}
def zR (T:Ns) (nm:List (ι×Ζ)) (N:List ι) (x:ι) (pos:ϭ):Option (GE T nm N (.Name x pos)):=do
 let hd ← no (x == ("__debug__":ι))
 let hc ← no (x == ("__classdict__":ι))
 match hl:cu nm x with
 | true=>
   let i ← bc x N
   some ⟨.v i.1,fun X k=>mk (ye (by rw [k.hN];exact i.2) (aY k.sc hl) hd.down hc.down)⟩
 | false=>
   let hg ← yes (bL nm x)
   let j ← bc x T.gl
   some ⟨.g j.1,fun X k=>by
    obtain ⟨d,u,h1,h2,h3⟩:=k.gls j.1 x j.2
    exact mk (Ci (bp k.sc hg.down) h2 hd.down h1 h3)⟩
def wW (T:Ns) (nm:List (ι×Ζ)) (N:List ι) (c:Const) (j:Nat) (pos:ϭ):Option (GE T nm N (.Constant c j pos)):=match c with
 | .none=>some ⟨.c .non,fun X k=>mk v7⟩
 | .bool b=>some ⟨.c (.bl b),fun X k=>mk Ae⟩
 | .int i=>some ⟨.c (.int i),fun X k=>mk v6⟩
 | .str x=>some ⟨.c (.str x),fun X k=>mk v9⟩
 | _=>none
def opP (op:Fw):Option {o:Op // ∀ X:Cx,Op2 X (ŉ op) (opD o)}:=match op with
 | .Add=>some ⟨.add,fun X=>y5⟩
 | .Sub=>some ⟨.sub,fun X=>zb⟩
 | .Mult=>some ⟨.mul,fun X=>y9⟩
 | .FloorDiv=>some ⟨.fdiv,fun X=>vn⟩
 | .Mod=>some ⟨.mod,fun X=>y8⟩
 | .Pow=>some ⟨.pow,fun X=>za⟩
 | _=>none
def xg (op:CmpOp):Option {o:Op // ∀ X:Cx,Op2 X (Û op) (opD o)}:=match op with
 | .Eq=>some ⟨.eq,fun X=>A4⟩
 | .NotEq=>some ⟨.ne,fun X=>Bb⟩
 | .Lt=>some ⟨.lt,fun X=>A9⟩
 | .LtE=>some ⟨.le,fun X=>A8⟩
 | .Gt=>some ⟨.gt,fun X=>A6⟩
 | .GtE=>some ⟨.ge,fun X=>A5⟩
 | .In=>some ⟨.isin,fun X=>A7⟩
 | .NotIn=>some ⟨.notin,fun X=>sB⟩
 | _=>none
def dC (f:∀ e,Option (GE T nm N e)):(es:List Μ)→Option (GA T nm N es)
 | []=>some ⟨.nil,fun _ _=>rC⟩
 | e :: r=>do
   let h ← yes (aG e)
   let a ← f e
   let b ← dC f r
   some ⟨.cons a.1 b.1,fun X k=>nU (a.2 X k).1 (b.2 X k) (ag h.down)⟩
def vR (f:∀ e,Option (GE T nm N e)) (pos:ϭ):(es:List Μ)→Option {c:E // ∀ X,CxOk T X nm N→LE X (.BoolOp .And es pos) c}
 | []=>none
 | [a]=>(f a).map fun x=>⟨x.1,fun X k=>(x.2 X k).1⟩
 | a :: b :: r=>do
   let x ← f a
   let y ← vR f pos (b :: r)
   some ⟨.and x.1 y.1,fun X k=>xQ (x.2 X k).1 (y.2 X k)⟩
def BX (f:∀ e,Option (GE T nm N e)) (pos:ϭ):(es:List Μ)→Option {c:E // ∀ X,CxOk T X nm N→LE X (.BoolOp .Or es pos) c}:=fun _=>none
def vQ (g:∀ e,Option (GT T nm N e)) (pos:ϭ):(es:List Μ)→Option (GW T nm N (.BoolOp .And es pos))
 | []=>none
 | [a]=>(g a).map fun x=>⟨x.1,fun X k=>u4 (x.2 X k)⟩
 | a :: b :: r=>do
   let x ← g a
   let y ← vQ g pos (b :: r)
   some ⟨.tand x.1 y.1,fun X k=>yA (x.2 X k) (y.2 X k)⟩
def zV (g:∀ e,Option (GT T nm N e)) (pos:ϭ):(es:List Μ)→Option (GW T nm N (.BoolOp .Or es pos))
 | []=>none
 | [a]=>(g a).map fun x=>⟨x.1,fun X k=>yB (x.2 X k)⟩
 | a :: b :: r=>do
   let x ← g a
   let y ← zV g pos (b :: r)
   some ⟨.tor x.1 y.1,fun X k=>AT (x.2 X k) (y.2 X k)⟩
def wX (f:∀ e,Option (GE T nm N e)):(o:Option Μ)→Option (GO T nm N o)
 | none=>some ⟨.nil,fun X k=>uN⟩
 | some e=>do
   let a ← f e
   let h ← no (bC a.1)
   some ⟨a.1,fun X k=>nY h.down (a.2 X k).1⟩
end
end L2.Ev
end
section
namespace L2.Bw
theorem uh (a1:Ea (.type T) "__init__" = pure (some (.builtin "object.__init__"))) (a2:Bind.madeBy (.type T)=pure (some newId))
 (a3:(some newId != some "object.__new__")=true) (a4:more≠[]):Gk (ś.«object.__init__» ⟨me :: more,kws⟩) (fun _ R s=>s.TypeIs me T∧R (.ok (.ret .none)) s):=by
 refine Meets.of_wp fun prog w A R s q=>?_
 obtain ⟨ty,q⟩:=q
 cases more with
 | nil=>exact ZX rfl a4
 | cons b more=>
   repeat (any_goals (first | assumption | wp_step))
   exact ⟨_,rfl,q⟩
section
variable {prog:ϸ} {w:Ü} {A:ϒ} {E:ζ→π→Prop} {s:π}
theorem j8 (ft:TypeCalled T newId "object.__init__") (ne:(some newId != some "object.__new__")=true) (na:args≠[])
 (c1:checkTypeCall T ⟨args,kws⟩=pure ()) (c2:Ũ newId ⟨.type T :: args,kws⟩=pure ()) (e1:entryFor table newId=some Bn) (g:Gk (Bn ⟨.type T :: args,kws⟩) S) (h:S A.in1 (wants Q1 E) s)
 (hn:∀ obj s1,Q1 obj s1→s1.TypeIs obj T∧F1 "object.__init__" ⟨obj :: args,kws⟩∧Q obj s1):Β (model prog w) A (call (.type T) args kws) Q E s:=by
 obtain ⟨c,tl,m1⟩:=ft.mro
 have m2:=ft.made
 have m3:=ft.sub
 refine ĉ (GV ?_)
 show Β _ _ (callAny (.type T) _) _ _ _
 refine θ ⟨ž _ (by decide +kernel),ŷ F.entry_type_call ?_⟩
 rw [Around.under_plain (weight_type_call_type T args kws) (units_type_call_type T args kws)]
 have m4:=ft.notType
 have m5:=ft.canCreate
 repeat (any_goals (first | assumption | wp_step))
 refine ì (í ft.plain e1 (DO c2 (g prog w A.in1 _ s h))) fun r s1 q1=>?_
 cases r with
 | error e=>exact q1
 | ok fl=>
   cases fl with
   | ret obj=>
     obtain ⟨ty,ok,qq⟩:=hn _ _ q1
     have m6:=ft.init.lookup
     have m7:=ft.init.bind obj
     repeat (any_goals (first | assumption | wp_step))
     refine ì (í ft.init.plain F.entry_object_init (ft.init.check _ _ _ _ _ _ _ _ ty ok (uh m6 m2 ne na prog w A.in1 (wants (fun r s2=>r = .none∧Q obj s2) E) s1 ⟨ty,rfl,qq⟩))) fun r2 s2 q2=>?_
     cases r2 with
     | error e=>exact q2
     | ok f2=>
       cases f2 with
       | ret r=>
         obtain ⟨e,q3⟩:=q2
         subst e
         repeat (any_goals (first | assumption | wp_step))
       | _=>exact q2.elim
   | _=>exact q1.elim
theorem qI (t) (n) (tk) (hn:È n=true) (items) :
 Gk (ś.«enumerate.__new__» ⟨[.type "enumerate",.ref t],[("start",.int n tk)]⟩) (fun _ R s=>s.heap.IsTuple t items ∧
  R (.ok (.ret (.ref (s.heap.push { cls:=.type "tuple_iterator",data:=.fields #[.ref t,.int 0 0] }).objs.size)))
    { s with heap:=(s.heap.push { cls:=.type "tuple_iterator",data:=.fields #[.ref t,.int 0 0] }).push { cls:=.type "enumerate",data:=.fields #[.none,.bool false,.ref s.heap.objs.size,Ö n,.none,.none] } }):=
 .of_wp fun prog w A R s h=>by
  obtain ⟨hp,g,d,tk',os⟩:=s
  obtain ⟨ht,h⟩:=h
  have sub:=sub_enumerate
  wp_walk
  refine wpAny_stack_any fun st=>θ ?_
  split
  ·rename_i c _ _ _ _ _
   cases (c == ċ "enumerate")
   ·wp_walk using Ĕ ht
    exact ⟨_,rfl,h⟩
   ·wp_walk using Ĕ ht
    exact ⟨_,rfl,h⟩
  ·wp_walk using Ĕ ht
   exact ⟨_,rfl,h⟩
end
section
variable {prog:ϸ} {w:Ü} {A:ϒ} {E:ζ→π→Prop} {s:π}
theorem ph {rest:List Μ} {kws:List ű} {Q:ζ→π→Prop}
 (h:Β M A (spliced (ϻ pos (Η (e :: rest) env))) (fun vs s1=>Β M A (Gh ((Ð pos (ϩ kws env)).map (·.2))) (fun ks s2=>Β M A (call (.type T) vs (((Ð pos (ϩ kws env)).filterMap (·.1)).zip ks)) Q E s2) E s1) E s)
 (he:Η (e :: rest) env=(false,eval e env) :: Η rest env) (h1:(ϻ pos (Η (e :: rest) env)).any (·.1)=false) (h2:(Ð pos (ϩ kws env)).all (·.1.isSome)=true) (h3:(Ð pos (ϩ kws env)).any (·.1.isNone)=false) :
 Β M A (ũ pos (.type T) [] (ϻ pos (Η (e :: rest) env)) (Ð pos (ϩ kws env))) Q E s:=by
 have k:Β M A (evalArgs (.type T) true (ϻ pos (Η (e :: rest) env)) (Ð pos (ϩ kws env))) (fun a s1=>Β M A (call (.type T) ([] ++ a.pos) a.kw) Q E s1) E s:=by
  rw [he] at h ⊢
  exact evalArgs_kwB h2 h
 unfold ũ
 refine ε (ό (thn k fun a s1 q=>ε (ã ?_)))
 simp only [h1,h3,Ň]
 exact ε (θ (ε (thn q fun r s2 q2=>ε (ό (DN (θ q2))))))
theorem pC (hn:È n=true) (ht:s.heap.IsTuple t xs)
 (h:Q (.ref (s.heap.push { cls:=.type "tuple_iterator",data:=.fields #[.ref t,.int 0 0] }).objs.size)
  { s with heap:=(s.heap.push { cls:=.type "tuple_iterator",data:=.fields #[.ref t,.int 0 0] }).push { cls:=.type "enumerate",data:=.fields #[.none,.bool false,.ref s.heap.objs.size,Ö n,.none,.none] } }) :
 Β (model prog w) A (call (.type "enumerate") [.ref t] [("start",.int n tk)]) Q E s:=by
 refine j8 (Q1:=fun obj s1=>obj = .ref (s.heap.push { cls:=.type "tuple_iterator",data:=.fields #[.ref t,.int 0 0] }).objs.size∧s1={ s with heap:=(s.heap.push { cls:=.type "tuple_iterator",data:=.fields #[.ref t,.int 0 0] }).push { cls:=.type "enumerate",data:=.fields #[.none,.bool false,.ref s.heap.objs.size,Ö n,.none,.none] } })
  F.called_enumerate (by decide) (by simp) (by kernel_rfl) (by kernel_rfl) F.entry_enumerate_new (qI t n tk hn xs) ⟨ht,rfl,rfl⟩ fun obj s1 q=>?_
 obtain ⟨e,e'⟩:=q
 subst e e'
 exact ⟨⟨_,χ _ rfl,rfl⟩,by first | (simp [F1];done) | (unfold F1;kernel_rfl) | (unfold F1;decide +kernel) | kernel_rfl,h⟩
end
end L2.Bw
namespace L2.Ev
open L2.Bw
theorem EX.sh {prog:ϸ} {w:Ü} {A:ϒ} {it:Δ} {fp:List Δ} {n:Nat} {P:Nat→ζ→Prop} {St:Nat→Ϸ→Prop} (D:EX prog w A it fp n P St) (m:Nat):EX prog w A it fp (m+n) (fun i v=>P (i - m) v) (fun i h=>m≤i∧St (i - m) h) where
 live:=fun i h st=>D.live _ h st.2
 frame:=fun i h h' st k=>⟨st.1,D.frame _ _ _ st.2 k⟩
 item:=fun i s Q E hi st hQ=>D.item (i - m) s Q E (by have:=st.1;omega) st.2 fun x h' tk p q sb=>hQ x h' tk p ⟨ę st.1,by rw [Nat.succ_sub st.1];exact q⟩ sb
 done:=fun s Q E st hE=>D.done s Q E (by have:=st.2;rwa [ŕ] at this) hE
theorem Ed.sh {prog:ϸ} {w:Ü} {A:ϒ} {it:Δ} {fp wr:List Δ} {n:Nat} {Pt:Nat→Array ζ→Prop} {St:Nat→Ϸ→Prop} {Mid:Nat→Δ→Ϸ→Prop} (m:Nat) (V:Ed prog w A it fp wr (m+n) Pt St Mid):Ed prog w A it fp wr n (fun i=>Pt (m+i)) (fun i=>St (m+i)) (fun i=>Mid (m+i)) where
 sub:=V.sub
 frame:=fun i=>V.frame (m+i)
 item:=fun i s Q E hi=>V.item (m+i) s Q E (Nat.add_lt_add_left hi m)
 go:=fun elts k pos i=>V.go elts k pos (m+i)
 apart:=fun i=>V.apart (m+i)
 done:=V.done
 self:=fun i=>V.self (m+i)
section
variable {X:Cx} {z z1:Z}
theorem rO {es:List Μ} {k:Nat} {tp kp:ϭ} (hc:X.calm=true) (hx:Blt X "enumerate" (.type "enumerate")) (ha:LE X ea a) (hb:LE X eb b) (he:Η [ea] X.env=(false,eval ea X.env) :: Η [] X.env):LI X (.Tuple es k tp) (.Call (.Name "enumerate" p) [ea] [⟨some "start",eb,kp⟩] pos) (.it .enum2 (.cons a (.cons b .nil))):=fun z I nb=>by
 refine æ (hx.ld I ?_)
 refine ph (Q:=fun v s1=>Β X.M X.A (Ů v) (FI X z (.Tuple es k tp) (X.ev false (.it .enum2 (.cons a (.cons b .nil))) z.t)) NoE s1) ?_ he (by rw [he];rfl) rfl rfl
 rw [he]
 refine Λ ((ha false).go .refl I (ev2 fun l s=>Out.of s ((itD .enum2 l).map D.lst)) nb fun z1 x u y1 x1 I1 r1 e1=>Ω ?_)
 show Β _ _ (Gh ((do let v ← eval eb X.env;Ř pos;pure v) :: [])) _ _ _
 refine FQ (ε ((hb false).go x1 I1 e1 nb fun z2 y v y2 x2 I2 r2 e2=>ε (ã (θ (Ge ?_)))))
 cases x with
 | tup l=>
   cases y with
   | int n=>
     obtain ⟨ad,o,vs,rfl,g,⟨tc,⟨m,td⟩,hz⟩,r⟩:=r1.rd.st y2.st
     obtain ⟨tz,rfl⟩:=r2.rd
     have e2:X.ev false (.it .enum2 (.cons a (.cons b .nil))) z.t=Out.of z2.t ((if È n=true∧0≤n then some (bA n l) else none).map D.lst):=e2
     by_cases hn:È n=true∧0≤n
     ·rw [ZZ hn] at e2
      obtain ⟨hn,h0⟩:=hn
      obtain ⟨j,rfl⟩:=E5 h0
      have ht:z2.s.heap.IsTuple ad vs.toArray:=⟨o,I2.gh _ _ g,tc,m,td⟩
      have hlt:=Τ (I2.gh _ _ g)
      have hsz:(z2.s.heap.push { cls:=.type "tuple_iterator",data:=.fields #[.ref ad,.int 0 0] }).objs.size=z2.s.heap.objs.size+1:=ϴ ..
      refine pC hn ht (Gb (χ _ rfl) ?_)
      rw [hsz]
      have kk:∀ b o,z2.s.heap.get? b=some o→((z2.s.heap.push { cls:=.type "tuple_iterator",data:=.fields #[.ref ad,.int 0 0] }).push { cls:=.type "enumerate",data:=.fields #[.none,.bool false,.ref z2.s.heap.objs.size,Ö (j:Int),.none,.none] }).get? b=some o:=fun b o e=>ς _ (ς _ e)
      have ge:IsEnum ((z2.s.heap.push { cls:=.type "tuple_iterator",data:=.fields #[.ref ad,.int 0 0] }).push { cls:=.type "enumerate",data:=.fields #[.none,.bool false,.ref z2.s.heap.objs.size,Ö (j:Int),.none,.none] }) (z2.s.heap.objs.size+1) z2.s.heap.objs.size (j:Int) .none:=by rw [← hsz];exact χ _ rfl
      have gi:((z2.s.heap.push { cls:=.type "tuple_iterator",data:=.fields #[.ref ad,.int 0 0] }).push { cls:=.type "enumerate",data:=.fields #[.none,.bool false,.ref z2.s.heap.objs.size,Ö (j:Int),.none,.none] }).get? z2.s.heap.objs.size=some { cls:=.type "tuple_iterator",data:=.fields #[.ref ad,.int 0 0] }:=ς _ (χ _ rfl)
      have rl:=r.len
      refine eV (ds:=bA (j:Int) l) x2 I2 (.hp (t:=z2.s.toks) kk) (Itr.walksT (I2.hd hc) (n:=vs.toArray.size) (by rw [fR];simpa using rl) (fun A hA=>Ed.sh j (gX (EX.sh (eS (A:=A.in1) hA z2.s.heap.objs.size ad (ϝ hlt) vs.toArray) j) (z2.s.heap.objs.size+1) (œ _) (nin _ 1 0 _ (by decide) hlt) ν)) (fun i h st b hb=>?_) (fun _ _ _ m=>m.2) fun i vals d p1 p2=>?_) ⟨⟨.none,ge⟩,ω _,by rw [Nat.add_zero,ė];exact ⟨⟨_,gi,rfl,rfl⟩,⟨o,kk _ _ (I2.gh _ _ g),tc,m,td⟩⟩⟩ (fun b hb=>?_) e2
      ·obtain ⟨⟨old,e1⟩,_,⟨o2,e2,_⟩,_⟩:=st
       rcases ξ.mp hb with w | w
       ·rw [w];exact ⟨_,e1⟩
       ·rw [η.mp w];exact ⟨o2,e2⟩
      ·obtain ⟨t,v,p3,rfl⟩:=p1
       rw [jc,ψ] at p2
       obtain ⟨d',p4,rfl⟩:=p2
       rw [ŕ] at p3
       refine ⟨by simp [Ċ],_,rfl,fun ρ' G' h1 h2=>?_⟩
       exact .cons ⟨t,by rw [FL]⟩ (.cons ((r.mono h1 h2).v p4 p3) rfl)
      rcases ξ.mp hb with w | w
      ·rw [w];exact .inl ⟨fV (ê _),_,ge⟩
      ·rcases ξ.mp w with w | w
       ·rw [w];exact .inl ⟨aD z2,_,gi⟩
       ·rw [η.mp w]
        refine .inr ⟨fun q=>?_,_,g⟩
        rcases ξ.mp q with q | q
        ·exact ϝ (CS hlt) q
        ·exact ϝ hlt (η.mp q)
     ·rw [ZY hn] at e2;exact ZX e2 nb
   | _=>exact ZX e2 nb
 | _=>exact ZX (e2.trans (by cases y <;> rfl)) nb
end
end L2.Ev
end
section
namespace L2.Bw
section
variable {prog:ϸ} {w:Ü} {A:ϒ} {R:Result→π→Prop} {it:Δ} {fp wr:List Δ} {n:Nat} {f:Nat→Int} {Z:Nat→Ϸ→Prop}
abbrev iq (f:Nat→Int):Nat→ζ→Prop:=fun i v=>∃ t,v = .int (f i) t
abbrev dB (f:Nat→Int):Nat→Nat→Bool:=fun i j=>decide (f i>f j)
theorem yC (W:Walks prog w A.in1 it fp wr n (iq f) Z) (kws:List (ι×ζ)) (B:Δ) (nB:B ∉ fp) :
 ∀ (k j:Nat) (s:π) (u:ζ) (c:Nat),n - (j+1)=k→j+1≤n→Z (j+1) s.heap→iq f (ă (dB f) j) u→s.heap.get? B=some { cls:=.type "list",dict:=none,data:=.seq #[u,u] c,slots:=#[] } →
 (∀ v h1 tk,iq f (ă (dB f) (n - 1)) v→(∀ b o,b ∉ wr→b≠B→s.heap.get? b=some o→h1.get? b=some o)→R (.ok (.ret v)) { s with heap:=h1,toks:=tk }) →
 Ŀ (model prog w) A (.builtin "max.loop" ⟨[.ref it,.none,.ref B],kws⟩) R s:=by
 have nw:B ∉ wr:=fun h=>nB (W.sub _ h)
 have nm:(toString "max" ++ toString ".loop":String) = "max.loop":=by decide
 have cmp:CmpOf prog w A.in1 .Gt (iq f) (dB f):=CmpOf.ints_gt f fun _ _ h=>h
 intro k
 induction k with
 | zero=>
   intro j s u c hk hj hz hu hB hR
   have e:j+1=n:=by omega
   refine ŷ Dv ?_
   rw [Ŧ ö _]
   show Β _ A.in1 (C8 (.ref B) >>= fun _=>_) _ _ s
   refine ε (Õ hB rfl ?_)
   show Β _ A.in1 (tryCatch (DG (.ref it)) _ >>= fun _=>_) _ _ s
   refine ε (ň (W.done s _ _ (e ▸ hz) fun h1 tk k1=>?_))
   show Β _ A.in1 (Gy B (fun _=>#[]) >>= fun _=>_) _ _ _
   refine ε (ĵ (k1 B _ nw hB) rfl (ε (Į (θ ?_))))
   exact hR u _ tk (by rw [← e];exact hu) fun b o n1 n2 q=>(ϑ _ _ (Ϡ n2)).trans (k1 b o n1 q)
 | succ k ih=>
   intro j s u c hk hj hz hu hB hR
   have lt:j+1<n:=by omega
   refine ŷ Dv ?_
   rw [Ŧ ö _]
   show Β _ A.in1 (C8 (.ref B) >>= fun _=>_) _ _ s
   refine ε (Õ hB rfl ?_)
   show Β _ A.in1 (tryCatch (DG (.ref it)) _ >>= fun _=>_) _ _ s
   refine ε (ň (W.item (j+1) s _ _ lt hz fun v h1 tk hv hz1 k1=>?_))
   have hB1:=k1 B _ nw hB
   show Β _ A.in1 (tryCatch (holding [v,v] (richCompare .Gt v u >>= _)) _ >>= fun _=>_) _ _ _
   refine ε (ň (ό (ε (cmp (j+1) (ă (dB f) j) v u _ _ _ hv hu ?_))))
   refine ε (ό (Ë (ε (Į (θ ?_)))))
   cases hb:dB f (j+1) (ă (dB f) j) with
   | true=>
     simp only [if_true]
     refine ε (ĵ hB1 rfl (ε (Į ?_)))
     rw [nm]
     refine θ ⟨ŝ ö _,ih (j+1) _ v _ (by omega) lt (W.frame _ _ _ hz1 fun b hbf o q=>(ϑ _ _ (fun z:B=b=>nB (by rw [z];exact hbf))).trans q) ?_ (Ϧ _ hB1 rfl) fun v' h2 tk2 hv' k2=>?_⟩
     ·simp only [ă,hb,if_true];exact hv
     ·exact hR v' h2 tk2 hv' fun b o n1 n2 q=>k2 b o n1 n2 ((ϑ _ _ (Ϡ n2)).trans (k1 b o n1 q))
   | false=>
     simp only [Ï,if_false]
     refine ε (Į ?_)
     rw [nm]
     refine θ ⟨ŝ ö _,ih (j+1) _ u c (by omega) lt hz1 ?_ hB1 fun v' h2 tk2 hv' k2=>hR v' h2 tk2 hv' fun b o n1 n2 q=>k2 b o n1 n2 (k1 b o n1 q)⟩
     simp only [ă,hb,Ï,if_false];exact hu
theorem i6 (f:Nat→Int):∀ k i,i≤k→f i≤f (ă (dB f) k)
 | 0,i,h=>by cases (show i=0 by omega);exact Ų _
 | k+1,i,h=>by
   unfold ă
   cases hb:dB f (k+1) (ă (dB f) k) with
   | true=>
     have hb':f (k+1)>f (ă (dB f) k):=of_decide_eq_true hb
     simp only [if_true]
     by_cases e:i=k+1
     ·rw [e];exact Ų _
     ·have:=i6 f k i (by omega);omega
   | false=>
     have hb':¬ f (k+1)>f (ă (dB f) k):=of_decide_eq_false hb
     simp only [Ï,if_false]
     by_cases e:i=k+1
     ·rw [e];omega
     ·exact i6 f k i (by omega)
theorem mZ (f:Nat→Int):∀ k,ă (dB f) k≤k
 | 0=>ω _
 | k+1=>by
   unfold ă
   cases dB f (k+1) (ă (dB f) k) with
   | true=>exact ω _
   | false=>exact ϖ (mZ f k) (ê _)
end
theorem qW (r:List Int):∀ x:Int,x≤r.foldl (fun a b=>if b>a then b else a) x∧(∀ y∈r,y≤r.foldl (fun a b=>if b>a then b else a) x)∧(r.foldl (fun a b=>if b>a then b else a) x=x∨r.foldl (fun a b=>if b>a then b else a) x∈r):=by
 induction r with
 | nil=>intro x;exact ⟨Ų _,fun y h=>(nomatch h),.inl rfl⟩
 | cons b r ih=>
   intro x
   have h:=ih (if b>x then b else x)
   rw [List.foldl_cons]
   obtain ⟨h1,h2,h3⟩:=h
   by_cases c:b>x
   ·rw [ZZ c] at h1 h2 h3 ⊢
    refine ⟨by omega,fun y hy=>?_,?_⟩
    ·rcases ξ.mp hy with rfl | hy
     ·exact h1
     ·exact h2 y hy
    ·rcases h3 with h3 | h3
     ·exact .inr (by rw [h3];exact ν)
     ·exact .inr (μ _ h3)
   ·rw [ZY c] at h1 h2 h3 ⊢
    refine ⟨h1,fun y hy=>?_,?_⟩
    ·rcases ξ.mp hy with rfl | hy
     ·omega
     ·exact h2 y hy
    ·rcases h3 with h3 | h3
     ·exact .inl h3
     ·exact .inr (μ _ h3)
theorem u5 {d m:Int} {ns:List Int} (ne:ns≠[]) (hm:m∈ns) (hg:∀ y∈ns,y≤m):maxD d ns=m:=by
 cases ns with
 | nil=>exact ZX rfl ne
 | cons x r=>
   obtain ⟨h1,h2,h3⟩:=qW r x
   have k1:maxD d (x :: r)=r.foldl (fun a b=>if b>a then b else a) x:=rfl
   rw [k1]
   have a1:r.foldl (fun a b=>if b>a then b else a) x≤m:=by
    rcases h3 with h3 | h3
    ·rw [h3];exact hg x ν
    ·exact hg _ (μ _ h3)
   have a2:m≤r.foldl (fun a b=>if b>a then b else a) x:=by
    rcases ξ.mp hm with rfl | hm
    ·exact h1
    ·exact h2 m hm
   omega
theorem eW:∀ {us:List ζ} {ns:List Int} {i:Nat} {v:ζ},C9 us ns→us[i]? = some v→∃ t,v = .int (ns.getD i 0) t
 | _,_,_,_,.nil,e=>by simp at e
 | _,_,0,v,.cons _ t _,e=>by simp at e;subst e;exact ⟨t,by simp⟩
 | _,_,i+1,v,.cons _ _ r,e=>by
   obtain ⟨t,h⟩:=eW (i:=i) r (by simpa using e)
   exact ⟨t,by simpa using h⟩
theorem yD {prog:ϸ} {w:Ü} {A:ϒ} {E:ζ→π→Prop} {s:π} {l:Δ} {us:List ζ} {ns:List Int} {d:Int} {td:Tok} {Q:ζ→π→Prop} (hh:A.handled=none) (hl:s.heap.IsList l us.toArray) (hi:C9 us ns)
 (q:∀ t h1 tk,(∀ b o,s.heap.get? b=some o→h1.get? b=some o)→Q (.int (maxD d ns) t) { s with heap:=h1,toks:=tk }):Β (model prog w) A (call (.builtin "max") [.ref l] [("default",.int d td)]) Q E s:=by
 have nm:(toString "max" ++ toString ".loop":String) = "max.loop":=by decide
 have hlt:l<s.heap.objs.size:=by obtain ⟨_,e,_⟩:=hl;exact Τ e
 refine ĉ (í F.plain_max F.entry_max (DO (a:=()) (by kernel_rfl) ?_))
 show Β _ A.in1 (FO "max" ["key","default"] 0 ⟨[],[("default",.int d td)]⟩ >>= fun _=>_) _ _ s
 refine ε (DO (a:=[none,some (.int d td)]) (by rfl) (ε (θ ?_)))
 refine ε (Ġ hl (ε (Ì ?_)))
 rw [nm]
 let it:Δ:=s.heap.objs.size
 generalize hh1:s.heap.push { cls:=.type "list_iterator",data:=.fields #[.ref l,.int 0 0] }=h1
 have sz1:h1.objs.size=s.heap.objs.size+1:=by rw [← hh1];exact ϴ ..
 have kp1:∀ b o,s.heap.get? b=some o→h1.get? b=some o:=fun b o e=>by rw [← hh1];exact ς _ e
 have it1:h1.IsListIter s.heap.objs.size l 0:=by rw [← hh1];exact ⟨_,χ _ rfl,rfl,rfl⟩
 have W:=EA (prog:=prog) (w:=w) (A:=A.in1) hh s.heap.objs.size l (ϝ hlt) us.toArray
 have nB:h1.objs.size ∉ [s.heap.objs.size,l]:=fun hm=>by
  rw [sz1] at hm
  rcases ξ.mp hm with z | z
  ·exact ZX z (œ _)
  ·rw [η] at z;exact ZX hlt (by rw [← z];exact C3.mpr (ê _))
 have hlen:us.length=ns.length:=hi.length
 have hB:(h1.push { cls:=.type "list",dict:=none,data:=.seq ([]:List ζ).toArray }).get? h1.objs.size=some { cls:=.type "list",dict:=none,data:=.seq #[] 0,slots:=#[] }:=χ _ rfl
 have st0:(h1.push { cls:=.type "list",dict:=none,data:=.seq ([]:List ζ).toArray }).IsListIter s.heap.objs.size l 0∧(h1.push { cls:=.type "list",dict:=none,data:=.seq ([]:List ζ).toArray }).IsList l us.toArray:=
  ⟨it1.at fun o e=>ς _ e,(hl.at fun o e=>kp1 l o e).at fun o e=>ς _ e⟩
 have back:∀ (h2:Ϸ),(∀ b o,b ∉ [s.heap.objs.size]→b≠h1.objs.size→(h1.push { cls:=.type "list",dict:=none,data:=.seq ([]:List ζ).toArray }).get? b=some o→h2.get? b=some o)→∀ b o,s.heap.get? b=some o→h2.get? b=some o:=fun h2 k b o e=>by
  have lt:=Τ e
  refine k b o (fun z=>?_) (fun z=>?_) (ς _ (kp1 b o e))
  ·rw [η.mp z] at lt;exact ħ _ lt
  ·rw [z,sz1] at lt;exact ZX lt (C3.mpr (ê _))
 refine θ ⟨ŝ ö _,?_⟩
 refine ŷ Dv ?_
 rw [Ŧ ö _]
 show Β _ A.in1 (C8 (.ref h1.objs.size) >>= fun _=>_) _ _ _
 refine ε (Õ hB rfl ?_)
 show Β _ A.in1 (tryCatch (DG (.ref s.heap.objs.size)) _ >>= fun _=>_) _ _ _
 cases hns:ns with
 | nil=>
   have hz:us.toArray.size=0:=by rw [hns] at hlen;simpa using hlen
   refine ε (ň (W.done _ _ _ (by rw [hz];exact st0) fun h2 tk k2=>?_))
   refine ε (D1 (θ ?_))
   have:=q td h2 tk (back h2 fun b o n1 n2 e=>k2 b o n1 e)
   rw [hns] at this
   exact this
 | cons x r=>
   have hz:0<us.toArray.size:=by rw [hns] at hlen;simp;rw [hlen];simp
   let f:Nat→Int:=fun i=>ns.getD i 0
   have P:∀ i v,us.toArray[i]? = some v→iq f i v:=fun i v e=>by
    have e':us[i]? = some v:=by simpa using e
    obtain ⟨t,ht⟩:=eW hi e'
    exact ⟨t,ht⟩
   have W':Walks prog w A.in1 s.heap.objs.size [s.heap.objs.size,l] [s.heap.objs.size] us.toArray.size (iq f) (fun i h=>h.IsListIter s.heap.objs.size l i∧h.IsList l us.toArray):=
    { sub:=W.sub,frame:=W.frame,done:=W.done,self:=W.self,item:=fun i s Q E hi st hQ=>W.item i s Q E hi st fun v h' tk hP=>hQ v h' tk (P i v hP) }
   refine ε (ň (W'.item 0 _ _ _ hz st0 fun v h2 tk hv st2 k2=>?_))
   have nBw:h1.objs.size ∉ [s.heap.objs.size]:=fun z=>nB (by rw [η.mp z];exact ν)
   have hB2:=k2 _ _ nBw hB
   show Β _ A.in1 (Gy h1.objs.size (fun _=>#[v,v]) >>= fun _=>_) _ _ _
   refine ε (ĵ hB2 rfl ?_)
   rw [nm]
   refine θ ⟨ŝ ö _,yC W' _ h1.objs.size nB _ 0 _ v _ rfl hz (W'.frame _ _ _ st2 fun b hb o e=>(ϑ _ _ (fun z:h1.objs.size=b=>nB (by rw [z];exact hb))).trans e) hv (Ϧ _ hB2 rfl) fun v' h3 tk3 hv' k3=>?_⟩
   obtain ⟨t',e'⟩:=hv'
   have lt:=mZ f (us.toArray.size - 1)
   have hmem:f (ă (dB f) (us.toArray.size - 1))=maxD d ns:=by
    have hl2:ă (dB f) (us.toArray.size - 1)<ns.length:=by simp at lt hz ⊢;omega
    refine (u5 (by rw [hns];simp) ?_ fun y hy=>?_).symm
    ·show ns.getD _ 0∈ns
     rw [Ĳ,Α hl2]
     exact ï _
    ·obtain ⟨i,hi',rfl⟩:=List.mem_iff_getElem.mp hy
     have:=i6 f (us.toArray.size - 1) i (by simp;omega)
     have e2:f i=ns[i]:=by show ns.getD i 0=_;rw [Ĳ,Α hi'];rfl
     rw [← e2];exact this
   have q':=q t' h3 tk3 (back h3 fun b o n1 n2 e=>k3 b o n1 n2 ((ϑ _ _ (Ϡ n2)).trans (k2 b o n1 e)))
   subst e'
   rw [hmem]
   exact q'
section
variable {M:Ej} {A:ϒ} {E:ζ→π→Prop} {s:π} {env:CT} {pos:ϭ} {e:Μ}
theorem qF {id:String} {rest:List Μ} {kws:List ű} {Q:ζ→π→Prop}
 (h:Β M A (spliced (ϻ pos (Η (e :: rest) env))) (fun vs s1=>Β M A (Gh ((Ð pos (ϩ kws env)).map (·.2))) (fun ks s2=>Β M A (call (.builtin id) vs (((Ð pos (ϩ kws env)).filterMap (·.1)).zip ks)) Q E s2) E s1) E s)
 (he:Η (e :: rest) env=(false,eval e env) :: Η rest env) (h1:(ϻ pos (Η (e :: rest) env)).any (·.1)=false) (h2:(Ð pos (ϩ kws env)).all (·.1.isSome)=true) (h3:(Ð pos (ϩ kws env)).any (·.1.isNone)=false) :
 Β M A (ũ pos (.builtin id) [] (ϻ pos (Η (e :: rest) env)) (Ð pos (ϩ kws env))) Q E s:=by
 have k:Β M A (evalArgs (.builtin id) true (ϻ pos (Η (e :: rest) env)) (Ð pos (ϩ kws env))) (fun a s1=>Β M A (call (.builtin id) ([] ++ a.pos) a.kw) Q E s1) E s:=by
  rw [he] at h ⊢
  exact evalArgs_kwB h2 h
 unfold ũ
 refine ε (ό (thn k fun a s1 q=>ε (ã ?_)))
 simp only [h1,h3,Ň]
 exact ε (θ (ε (thn q fun r s2 q2=>ε (ό (DN (θ q2))))))
end
end L2.Bw
namespace L2.Ev
open L2.Bw
section
variable {X:Cx}
theorem uB {kp:ϭ} (hc:X.calm=true) (hx:Blt X "max" (.builtin "max")) (ha:LE X ea a) (hb:LE X eb b) (he:Η [ea] X.env=(false,eval ea X.env) :: Η [] X.env):LE X (.Call (.Name "max" p) [ea] [⟨some "default",eb,kp⟩] pos) (.bi .max0 (.cons a (.cons b .nil))):=fun br z I nb=>by
 refine æ (hx.ld I ?_)
 refine qF ?_ he (by rw [he];rfl) rfl rfl
 rw [he]
 refine Λ ((ha true).go .refl I (ev2 fun l s=>Out.of s (biD .max0 (l.map (look s.st)))) nb fun z1 x u y1 x1 I1 r1 e1=>Ω ?_)
 show Β _ _ (Gh ((do let v ← eval eb X.env;Ř pos;pure v) :: [])) _ _ _
 refine FQ (ε ((hb true).go x1 I1 e1 nb fun z2 y v y2 x2 I2 r2 e2=>ε (ã (θ (Ge ?_)))))
 refine cg x2 I2 e2 nb fun d q=>?_
 have c1:=(r1.rb.st y2 I2).cr I2
 have c2:=r2.rb.cr I2
 have q:wM .max0 (look z2.t.st x) (look z2.t.st y)=some d:=q
 revert q c1 c2
 generalize look z2.t.st x=x'
 generalize look z2.t.st y=y'
 intro c1 c2 q
 cases x' with
 | lst l=>
   cases y' with
   | int d0=>
     obtain ⟨ns,q1,rfl⟩:=ψ.mp q
     obtain ⟨a0,o,vs,rfl,g,⟨⟨n,rfl⟩,hz⟩,r⟩:=c1
     obtain ⟨t,rfl⟩:=(show ∃ t,v=Value.int d0 t from c2)
     exact yD (I2.hd hc) (show z2.s.heap.IsList a0 vs.toArray from ⟨_,g,rfl,n,rfl⟩) (kZ q1 r) fun t h1 tk kp=>.flat (.hp kp) fun G=>⟨t,rfl⟩
   | _=>cases q
 | _=>cases q
end
end L2.Ev
end
section
namespace L2.Ev
def isP (x y:ι):Option (PLift (x=y)):=match h:x == y with
 | true=>some ⟨by simpa using h⟩
 | false=>none
theorem kj:a9 (.bi b es)=a9 (.bi b .nil):=by cases b <;> rfl
abbrev zw (x:ι) (b:Bi):Prop:=∀ X:Cx,X.calm=true→∃ f,FB f∧Ģ x=some f∧((Bi1 X f b∧a9 (.bi b .nil)=false)∨tJ X f b)
def BF:List {q:ι×Bi // zw q.1 q.2}:=[
 ⟨("len",.len),fun X c=>⟨_,.inl ⟨_,rfl⟩,boot_len,.inl ⟨wP,rfl⟩⟩⟩,
 ⟨("tuple",.tuple),fun X c=>⟨_,.inr ⟨_,rfl⟩,CO,.inl ⟨qy,rfl⟩⟩⟩,
 ⟨("list",.list),fun X c=>⟨_,.inr ⟨_,rfl⟩,CU,.inr tU⟩⟩,
 ⟨("dict",.dict),fun X c=>⟨_,.inr ⟨_,rfl⟩,H0,.inr tT⟩⟩,
 ⟨("sum",.sum),fun X c=>⟨_,.inl ⟨_,rfl⟩,boot_sum,.inl ⟨wR c,rfl⟩⟩⟩,
 ⟨("abs",.abs),fun X c=>⟨_,.inl ⟨_,rfl⟩,boot_abs,.inl ⟨wN,rfl⟩⟩⟩,
 ⟨("str",.str),fun X c=>⟨_,.inr ⟨_,rfl⟩,D7,.inl ⟨wQ,rfl⟩⟩⟩,
 ⟨("int",.int),fun X c=>⟨_,.inr ⟨_,rfl⟩,D8,.inl ⟨wO,rfl⟩⟩⟩]
abbrev zx (x:ι) (b:Bi):Prop:=a9 (.bi b .nil)=false∧∀ X:Cx,X.calm=true→∃ f,FB f∧Ģ x=some f∧Bi2 X f b
def BG:List {q:ι×Bi // zx q.1 q.2}:=[]
def tS {P:ι→Bi→Prop} (x:ι):List {q:ι×Bi // P q.1 q.2}→Option {b:Bi // P x b}
 | []=>none
 | q :: r=>match isP q.1.1 x with
   | some h=>some ⟨q.1.2,by rw [← h.down];exact q.2⟩
   | none=>tS x r
abbrev zF (x:ι) (b:Bi):Prop:=(b = .isTup∨b = .isStr∨b = .isBool∨b = .isInt∨b = .isLst∨b = .isDic)∧Ģ x=some (.type (tyN b))
def tys:List {q:ι×Bi // zF q.1 q.2}:=[⟨("tuple",.isTup),.inl rfl,CO⟩,⟨("str",.isStr),.inr (.inl rfl),D7⟩,⟨("bool",.isBool),.inr (.inr (.inl rfl)),H3⟩,⟨("int",.isInt),.inr (.inr (.inr (.inl rfl))),D8⟩]
section
variable {T:Ns} {nm:List (ι×Ζ)} {N:List ι}
def hJ (T:Ns) (nm:List (ι×Ζ)) (x:ι):Option (PLift (x∈T.bl∧bL nm x=true)):=do
 let m ← dX x T.bl
 let g ← yes (bL nm x)
 some ⟨m.down,g.down⟩
theorem bN (k:CxOk T X nm N) (h:x∈T.bl∧bL nm x=true) (hv:Ģ x=some u) (hn:x≠"__name__":=by decide) (hd:(x == ("__debug__":ι))=false:=by decide):Blt X x u:=⟨bp k.sc h.2,k.blt x h.1,hv,hn,hd⟩
def BJ (f:∀ e,Option (GE T nm N e)) (x:ι) (p:ϭ) (hx:x≠"__name__") (hd:(x == ("__debug__":ι))=false) (m:x∈T.bl∧bL nm x=true):(es:List Μ)→(pos:ϭ)→Option (GE T nm N (.Call (.Name x p) es [] pos))
 | [e],pos=>do
   let he ← yes (aG e)
   let a ← f e
   let b ← tS x BF
   some ⟨.bi b.1 (.cons a.1 .nil),fun X k=>by
    obtain ⟨fv,h1,h2,h3⟩:=b.2 X k.calm
    rcases h3 with ⟨h3,h4⟩ | h3
    ·exact mk (xS h3 h1 (bN k m h2 hx hd) (a.2 X k).1 (ag he.down)) (kj.trans h4)
    ·exact mkf (yh h3 h1 (bN k m h2 hx hd) (a.2 X k).1 (ag he.down))⟩
 | [e,g],pos=>do
   let he ← yes (aG e)
   let hg ← yes (aG g)
   let a ← f e
   let c ← f g
   let b ← tS x BG
   some ⟨.bi b.1 (.cons a.1 (.cons c.1 .nil)),fun X k=>by
    obtain ⟨fv,h1,h2,h3⟩:=b.2.2 X k.calm
    exact mk (xT h3 h1 (bN k m h2 hx hd) (a.2 X k).1 (c.2 X k).1 (ag he.down) (ag hg.down)) (kj.trans b.2.1)⟩
 | _,_=>none
def vS (f:∀ e,Option (GE T nm N e)) (x:ι) (p:ϭ) (e:Μ) (er:List Μ) (pos:ϭ):Option (GE T nm N (.Call (.Name x p) (e :: er) [] pos)):=do
 let hd ← no (x == ("__debug__":ι))
 let hnm ← no (x == ("__name__":ι))
 let hg ← yes (bL nm x)
 match BC x (dnA x (er.length+1) T.dn ++ T.alt) T.fn with
 | some j=>
   let hn ← yes (er.all aG)
   let he ← yes (aG e)
   let a ← dC f (e :: er)
   some (if T.hc.contains x then ⟨.hcall j.1 a.1,fun X k=>by
    obtain ⟨n,fa,h1,h2,h3⟩:=k.fns j.1 x j.2
    exact mk (rJ h1 h2 (bp k.sc hg.down) h3 (a.2 X k) hd.down (ag he.down) (bv (ϣ.mp hn.down)))⟩ else ⟨.call j.1 a.1,fun X k=>by
    obtain ⟨n,fa,h1,h2,h3⟩:=k.fns j.1 x j.2
    exact mk (uy h1 h2 (bp k.sc hg.down) h3 (a.2 X k) hd.down (ag he.down) (bv (ϣ.mp hn.down)))⟩)
 | none=>
   let m ← dX x T.bl
   BJ f x p (by simpa using hnm.down) hd.down ⟨m.down,hg.down⟩ (e :: er) pos
def cIs (f:∀ e,Option (GE T nm N e)) (y:ι) (p:ϭ) (ea:Μ) (x:ι) (q pos:ϭ):Option (GE T nm N (.Call (.Name y p) [ea,.Name x q] [] pos)):=do
 let hy ← isP "isinstance" y
 let g1 ← hJ T nm "isinstance"
 let g2 ← hJ T nm x
 let b ← tS (P:=zF) x tys
 let hd ← no (x == ("__debug__":ι))
 let hnm ← no (x == ("__name__":ι))
 let he ← yes (aG ea)
 let a ← f ea
 some ⟨.bi b.1 (.cons a.1 .nil),fun X k=>by
  obtain rfl:=hy.down
  exact mk (AH b.2.1 (bN k g1.down GZ) (bN k g2.down b.2.2 (by simpa using hnm.down) hd.down) (a.2 X k).1 (ag he.down)) (by rcases b.2.1 with w | w | w | w | w | w <;> rw [w] <;> rfl)⟩
def BU (f:∀ e,Option (GE T nm N e)) (y:ι) (p:ϭ) (ea:Μ) (x:ι) (q pos:ϭ):Option (GE T nm N (.Call (.Name y p) [ea,.Name x q] [] pos)):=none
def BT (f:∀ e,Option (GE T nm N e)) (y:ι) (p:ϭ) (ea:Μ) (x1 x2 x3:ι) (q1 q2 q3:ϭ) (k:Nat) (q pos:ϭ):Option (GE T nm N (.Call (.Name y p) [ea,.Tuple [.Name x1 q1,.Name x2 q2,.Name x3 q3] k q] [] pos)):=none
def BZ (f:∀ e,Option (GE T nm N e)) (x y:ι) (p1 p2:ϭ) (ea:Μ) (pos2 pos:ϭ):Option (GE T nm N (.Call (.Name x p1) [.Call (.Name y p2) [ea] [] pos2] [] pos)):=do
 let hx ← isP "list" x
 let hy ← isP "reversed" y
 let g1 ← hJ T nm "list"
 let g2 ← hJ T nm "reversed"
 let he ← yes (aG ea)
 let a ← f ea
 some ⟨.bi .rev (.cons a.1 .nil),fun X k=>by
  obtain rfl:=hx.down
  obtain rfl:=hy.down
  exact mkf (yj k.calm (bN k g1.down CU) (bN k g2.down boot_reversed) (a.2 X k).1 (ag he.down) rfl)⟩
def iC (f:∀ e,Option (GE T nm N e)) (tg e:Μ):Option (GI T nm N tg e):=(f e).map fun a=>⟨.itv a.1,fun X k=>Cm k.calm (a.2 X k).1⟩
def cR1 (f:∀ e,Option (GE T nm N e)) (tg:Μ) (x:ι) (p:ϭ) (a:Μ) (pos:ϭ):Option (GI T nm N tg (.Call (.Name x p) [a] [] pos)):=do
 let hx ← isP "range" x
 let g ← hJ T nm "range"
 let he ← yes (aG a)
 let u ← f a
 some ⟨.it .range1 (.cons u.1 .nil),fun X k=>by
  obtain rfl:=hx.down
  exact pQ k.calm (bN k g.down boot_range) (u.2 X k).1 (ag he.down)⟩
def cR2 (f:∀ e,Option (GE T nm N e)) (tg:Μ) (x:ι) (p:ϭ) (a b:Μ) (pos:ϭ):Option (GI T nm N tg (.Call (.Name x p) [a,b] [] pos)):=none
def cE1 (f:∀ e,Option (GE T nm N e)) (ts:List Μ) (n:Nat) (tp:ϭ) (x:ι) (p:ϭ) (a:Μ) (pos:ϭ):Option (GI T nm N (.Tuple ts n tp) (.Call (.Name x p) [a] [] pos)):=do
 let hx ← isP "enumerate" x
 let g ← hJ T nm "enumerate"
 let he ← yes (aG a)
 let u ← f a
 some ⟨.it .enum (.cons u.1 .nil),fun X k=>by
  obtain rfl:=hx.down
  exact uK k.calm (bN k g.down boot_enumerate) (u.2 X k).1 (ag he.down)⟩
def cE2 (f:∀ e,Option (GE T nm N e)) (ts:List Μ) (n:Nat) (tp:ϭ) (x y:ι) (p:ϭ) (a b:Μ) (kp pos:ϭ):Option (GI T nm N (.Tuple ts n tp) (.Call (.Name x p) [a] [⟨some y,b,kp⟩] pos)):=do
 let hx ← isP "enumerate" x
 let hy ← isP "start" y
 let g ← hJ T nm "enumerate"
 let he ← yes (aG a)
 let u ← f a
 let w ← f b
 some ⟨.it .enum2 (.cons u.1 (.cons w.1 .nil)),fun X k=>by
  obtain rfl:=hx.down
  obtain rfl:=hy.down
  exact rO k.calm (bN k g.down boot_enumerate) (u.2 X k).1 (w.2 X k).1 (ag he.down)⟩
def cZ2 (f:∀ e,Option (GE T nm N e)) (ts:List Μ) (n:Nat) (tp:ϭ) (x:ι) (p:ϭ) (a b:Μ) (pos:ϭ):Option (GI T nm N (.Tuple ts n tp) (.Call (.Name x p) [a,b] [] pos)):=do
 let hx ← isP "zip" x
 let g ← hJ T nm "zip"
 let ha ← yes (aG a)
 let hb ← yes (aG b)
 let u ← f a
 let v ← f b
 some ⟨.it .zip2 (.cons u.1 (.cons v.1 .nil)),fun X k=>by
  obtain rfl:=hx.down
  exact uL k.calm (bN k g.down boot_zip) (u.2 X k).1 (v.2 X k).1 (ag ha.down) (ag hb.down)⟩
def cZ3 (f:∀ e,Option (GE T nm N e)) (ts:List Μ) (n:Nat) (tp:ϭ) (x:ι) (p:ϭ) (a b c:Μ) (pos:ϭ):Option (GI T nm N (.Tuple ts n tp) (.Call (.Name x p) [a,b,c] [] pos)):=do
 let hx ← isP "zip" x
 let g ← hJ T nm "zip"
 let ha ← yes (aG a)
 let hb ← yes (aG b)
 let hc ← yes (aG c)
 let u ← f a
 let v ← f b
 let w ← f c
 some ⟨.it .zip3 (.cons u.1 (.cons v.1 (.cons w.1 .nil))),fun X k=>by
  obtain rfl:=hx.down
  exact uM k.calm (bN k g.down boot_zip) (u.2 X k).1 (v.2 X k).1 (w.2 X k).1 (ag ha.down) (ag hb.down) (ag hc.down)⟩
def vV (f:∀ e,Option (GE T nm N e)):(tg e:Μ)→Option (GI T nm N tg e)
 | .Tuple ts n tp,.Call (.Name x p) [a] [] pos=>(cE1 f ts n tp x p a pos).orElse fun _=>iC f _ _
 | .Tuple ts n tp,.Call (.Name x p) [a] [⟨some y,b,kp⟩] pos=>cE2 f ts n tp x y p a b kp pos
 | .Tuple ts n tp,.Call (.Name x p) [a,b] [] pos=>(cZ2 f ts n tp x p a b pos).orElse fun _=>iC f _ _
 | .Tuple ts n tp,.Call (.Name x p) [a,b,c] [] pos=>(cZ3 f ts n tp x p a b c pos).orElse fun _=>iC f _ _
 | tg,.Call (.Name x p) [a] [] pos=>(cR1 f tg x p a pos).orElse fun _=>iC f _ _
 | tg,.Call (.Name x p) [a,b] [] pos=>(cR2 f tg x p a b pos).orElse fun _=>iC f _ _
 | tg,e=>iC f tg e
theorem bj (h:bI e=true):ď e x env m=m:=by
 unfold ď
 split
 ·have h':(_ != ("super":ι))=true:=h
  rw [ZZ (by rw [h'];rfl)]
 ·rfl
theorem sZ (h:∀ e∈es,aG e=true):((ϻ pos (Η es env)).all fun x=>!x.1)=true:=by
 have:=bv (env:=env) (pos:=pos) h
 rw [List.all_eq_not_any_not]
 simpa using this
theorem sj (h1:bI o=true) (h2:∀ x∈es,aG x=true) (h3:es.length<30) (h4:(apos.endLine == pos.line)=true):eval (.Call (.Attribute o m apos) es [] pos) env=(do
 let ov ← eval o env
 Ř apos.atName
 let (f,first) ← holding [ov] (DI ov m (do return (← importBound o env).getD true))
 ũ pos f first (ϻ pos (Η es env)) (Ð pos (ϩ [] env))):=by
 have e0:eval (.Call (.Attribute o m apos) es [] pos) env=(do
  let ov ← ď o m env (eval o env)
  Ř apos.atName
  methodCall o m apos pos env ov (es.length+([]:List ű).length) (ϻ pos (Η es env)) (Ð pos (ϩ [] env))):=rfl
 rw [e0,bj h1]
 have few:methodCallForm (es.length+([]:List ű).length) (ϻ pos (Η es env)) (Ð pos (ϩ [] env))=true:=by
  unfold methodCallForm
  rw [sZ h2]
  simp only [DV]
  show (true && decide (_<30))=true
  simp only [DV]
  apply ZW
  exact h3
 congr 1
 funext ov
 congr 1
 funext _
 unfold methodCall
 simp only [few]
 have e1:Ş true o env apos pos=pure pos:=by unfold Ş;rw [h4];rfl
 simp only [e1]
 rfl
def yE (m:ι):(l:List (ι×Nat×Nat))→Option {q:Nat×Nat // (m,q.1,q.2)∈l}
 | []=>none
 | (y,c,j) :: r=>match isP y m with
   | some h=>some ⟨(c,j),by obtain rfl:=h.down;exact ν⟩
   | none=>(yE m r).map fun i=>⟨i.1,μ _ i.2⟩
def BW (f:∀ e,Option (GE T nm N e)) (o:Μ) (m:ι) (ap:ϭ):(args:List Μ)→(pos:ϭ)→Option (GE T nm N (.Call (.Attribute o m ap) args [] pos))
 | [],pos=>do
   let q ← yE m T.me
   let hs ← yes (bI o)
   let hp ← yes (ap.endLine == pos.line)
   let a ← f o
   some ⟨.mth q.1.1 q.1.2 a.1 .nil,fun X k=>by
    obtain ⟨n,fa,h1,h2,h3⟩:=k.mts _ q.2
    exact mk (uC h1 h2 h3 (a.2 X k).1 (sj hs.down (fun x hx=>nomatch hx) (by decide) hp.down))⟩
 | e :: er,pos=>do
   let q ← yE m T.me
   let hs ← yes (bI o)
   let hp ← yes (ap.endLine == pos.line)
   let hn ← yes ((e :: er).all aG)
   let hl ← yes (decide ((e :: er).length<30))
   let a ← f o
   let b ← dC f (e :: er)
   some ⟨.mth q.1.1 q.1.2 a.1 b.1,fun X k=>by
    obtain ⟨n,fa,h1,h2,h3⟩:=k.mts _ q.2
    have hn':=ϣ.mp hn.down
    exact mk (xZ h1 h2 h3 (a.2 X k).1 (b.2 X k) (ag (hn' e ν)) (bv fun x hx=>hn' x (μ _ hx)) (sj hs.down hn' (by simpa using hl.down) hp.down))⟩
def BQ (f:∀ e,Option (GE T nm N e)) (o:Μ) (m:ι) (ap:ϭ):(args:List Μ)→(pos:ϭ)→Option (GE T nm N (.Call (.Attribute o m ap) args [] pos)):=fun _ _=>none
def Ac (f:∀ e,Option (GE T nm N e)) (m:ι) (ap:ϭ):(o:Μ)→(args:List Μ)→(pos:ϭ)→Option (GE T nm N (.Call (.Attribute o m ap) args [] pos))
 | .Name x p,[e,g],pos=>do
   let hm ← isP "get" m
   let hd ← no (x == ("__debug__":ι))
   let hg ← yes (bL nm x)
   let j ← bc x T.tb
   let hs ← yes (bI (.Name x p))
   let hp ← yes (ap.endLine == pos.line)
   let hn ← yes (aG e)
   let hg2 ← yes (aG g)
   let b ← f e
   let c ← f g
   some ⟨.tget j.1 b.1 c.1,fun X k=>by
    obtain rfl:=hm.down
    obtain ⟨t,ad,h1,h2,h3⟩:=k.tbs j.1 x j.2
    exact mk (uF (bp k.sc hg.down) h2 h1 h3 hd.down (b.2 X k).1 (c.2 X k).1 ⟨bj hs.down,by rw [ag hn.down,ag hg2.down];rfl,hp.down,by rw [ag hn.down,ag hg2.down];rfl⟩)⟩
 | _,_,_=>none
def wZ (f:∀ e,Option (GE T nm N e)) (x:ι) (j:Nat) (p:ϭ) (m:ι) (ap:ϭ):(args:List Μ)→(pos:ϭ)→Option (GE T nm N (.Call (.Attribute (.Constant (.str x) j p) m ap) args [] pos))
 | [e],pos=>do
   let hm ← isP "join" m
   let hp ← yes (ap.endLine == pos.line)
   let hn ← yes (aG e)
   let a ← f e
   some ⟨.join x a.1,fun X k=>by
    obtain rfl:=hm.down
    exact mk (uA (a.2 X k).1 ⟨bj rfl,by rw [ag hn.down];rfl,hp.down,by rw [ag hn.down];rfl⟩)⟩
 | _,_=>none
def BP (f:∀ e,Option (GE T nm N e)) (x:ι) (j1:Nat) (p1:ϭ) (e:Μ) (p2:ϭ) (y:ι) (j2:Nat) (p3 pos:ϭ):Option (GE T nm N (.JoinedStr [.Constant (.str x) j1 p1,.FormattedValue e (-1) none p2,.Constant (.str y) j2 p3] pos)):=do
 let hx ← yes (decide (x.length≤1000))
 let hy ← yes (decide (y.length≤1000))
 let a ← f e
 some ⟨.fmt x a.1 y,fun X k=>mk (xW (by simpa using hx.down) (by simpa using hy.down) (a.2 X k).1)⟩
def B1 (f:∀ e,Option (GE T nm N e)) (a:Μ) (lo:Option Μ) (st:Μ) (p2 pos:ϭ):Option (GE T nm N (.Subscript a (.Slice lo none (some st) p2) pos)):=do
 let x ← f a
 let l ← wX f lo
 let h ← f st
 let hn ← no (bC h.1)
 some ⟨.sl3 x.1 l.1 h.1,fun X k=>mk (yc (x.2 X k).1 (l.2 X k) (nY hn.down (h.2 X k).1))⟩
def zS (f:∀ e,Option (GE T nm N e)) (x:ι) (p:ϭ):(args:List Μ)→(pos:ϭ)→Option (GE T nm N (.Call (.Name x p) args [] pos))
 | [],pos=>do
   let j ← bc x T.nw
   let hz ← no (x == ("":ι))
   let hd ← no (x == ("__debug__":ι))
   let hg ← yes (bL nm x)
   some ⟨.new j.1 .nil,fun X k=>by
    obtain ⟨n,fa,i,cl,h1,h4,h5,h6,h7,h8,h9,h10⟩:=k.nws j.1 x j.2 (by simpa using hz.down)
    exact mk (uD h1 h4 h5 h6 h7 h8 h9 (bp k.sc hg.down) h10 hd.down)⟩
 | e :: er,pos=>do
   let j ← bc x T.nw
   let hz ← no (x == ("":ι))
   let hd ← no (x == ("__debug__":ι))
   let hg ← yes (bL nm x)
   let hn ← yes ((e :: er).all aG)
   let a ← dC f (e :: er)
   some ⟨.new j.1 a.1,fun X k=>by
    obtain ⟨n,fa,i,cl,h1,h4,h5,h6,h7,h8,h9,h10⟩:=k.nws j.1 x j.2 (by simpa using hz.down)
    have hn':=ϣ.mp hn.down
    exact mk (ya h1 h4 h5 h6 h7 h8 h9 (bp k.sc hg.down) h10 (a.2 X k) hd.down (ag (hn' e ν)) (bv fun y hy=>hn' y (μ _ hy)))⟩
def zU (f:∀ e,Option (GE T nm N e)) (x:ι) (p:ϭ):(args:List Μ)→(pos:ϭ)→Option (GE T nm N (.Call (.Name x p) args [] pos))
 | [],pos=>none
 | e :: er,pos=>do
   let j ← bc x T.nd
   let hz ← no (x == ("":ι))
   let hd ← no (x == ("__debug__":ι))
   let hg ← yes (bL nm x)
   let hn ← yes ((e :: er).all aG)
   let a ← dC f (e :: er)
   some ⟨.newd j.1 a.1,fun X k=>by
    obtain ⟨n,fa,fd,ps,i,cl,h1,h2,h3,h4,h5,h6,h7,h8,h9,h10,h11⟩:=k.nds j.1 x j.2 (by simpa using hz.down)
    have hn':=ϣ.mp hn.down
    exact mk (uE h1 h2 h3 h4 h5 h6 h7 h8 h9 h10 (bp k.sc hg.down) h11 (a.2 X k) hd.down (ag (hn' e ν)) (bv fun y hy=>hn' y (μ _ hy)))⟩
def zM (f:∀ e,Option (GE T nm N e)):(e:Μ)→Option (GE T nm N e)
 | .List er pos=>(dC f er).map fun a=>⟨.newl a.1,fun X k=>mk (nW (a.2 X k))⟩
 | e=>f e
def wU (f:∀ e,Option (GE T nm N e)) (x:ι) (p:ϭ) (e:Μ) (er:List Μ) (pos:ϭ):Option (GE T nm N (.Call (.Name x p) (e :: er) [] pos)):=
 match dX x T.mu with
 | some _=>vS (zM f) x p e er pos
 | none=>vS f x p e er pos
end
section
variable {T:Ns} {nm:List (ι×Ζ)} {N:List ι}
def zN (f:∀ e,Option (GE T nm N e)) (cC:List (Option Μ)) (vals:List Μ) (pos:ϭ):Option (GE T nm N (.Dict cC vals pos)):=none
end
def gy (fn:Bool) (nm:List (ι×Ζ)) (x:ι):Bool:=nm.lookup x == some .local || (fn && nm.lookup x == some .cell)
structure TgH (nm:List (ι×Ζ)) (N:List ι) (X:Cx):Prop where
 calm:X.calm=true
 hN:X.N=N
 nd:N.Nodup
 sc:X.env.scope.names=nm
theorem gU {fn:Bool} (h:TgH nm N X) (hl:gy fn nm x=true):Loc X.env.scope x:=by
 have l1:nm.lookup x=some .local∨(fn=true∧nm.lookup x=some .cell):=by
  unfold gy at hl
  simpa using hl
 show X.env.scope.names.lookup x=_∨X.env.scope.names.lookup x=_
 rw [h.sc]
 exact l1.imp id Dc
def Pl (nm:List (ι×Ζ)) (N:List ι) (t:List Nat):Prop:=∀ i∈t,∀ x,N[i]? = some x→nm.lookup x=some .local
theorem sG {nm:List (ι×Ζ)} {N:List ι} {i:Nat} {x:ι} (hi:N[i]? = some x) (hl:gy false nm x=true):∀ y,N[i]? = some y→nm.lookup y=some .local:=fun y e=>by
 rw [hi] at e;cases e
 unfold gy at hl
 simpa using hl
structure zE (fn:Bool) (nm:List (ι×Ζ)) (N:List ι) (es:List Μ) (t:List Nat):Prop where
 len:∀ env,(Ŋ es env).length=t.length
 fst:∀ env,(Ŋ es env).findIdx? (·.1)=none
 as_:∀ X,TgH nm N X→As X ((Ŋ es X.env).map (·.2)) t
 pl:fn=false→Pl nm N t
def Br (fn:Bool) (nm:List (ι×Ζ)) (N:List ι):(es:List Μ)→Option {t:List Nat // zE fn nm N es t}
 | []=>some ⟨[],fun _=>rfl,fun _=>rfl,fun X h=>trivial,fun _ i m=>nomatch m⟩
 | .Name x p :: r=>do
   let i ← bc x N
   let hl ← yes (gy fn nm x)
   let t ← Br fn nm N r
   some ⟨i.1 :: t.1,fun env=>ZS (· + 1) (t.2.len env),fun env=>by
    show List.findIdx? _ ((false,assign (.Name x p) env) :: Ŋ r env)=none
    rw [List.findIdx?_cons,t.2.fst env];rfl,fun X h=>⟨⟨x,by rw [h.hN];exact i.2,gU h hl.down,fun q=>Dj q⟩,t.2.as_ X h⟩,fun hf j m y e=>by
    rcases ξ.mp m with w | w
    ·rw [w] at e;exact sG i.2 (hf ▸ hl.down) y e
    ·exact t.2.pl hf j w y e⟩
 | _=>none
def tgP (fn:Bool) (nm:List (ι×Ζ)) (N:List ι):(tg:Μ)→Option {q:List Nat×Bool // (∀ X,TgH nm N X→LG X tg q.1 q.2)∧(fn=false→Pl nm N q.1)}
 | .Name x p=>do
   let i ← bc x N
   let hl ← yes (gy fn nm x)
   some ⟨([i.1],true),fun X h=>uJ (by rw [h.hN];exact h.nd) (by rw [h.hN];exact i.2) (gU h hl.down),fun hf j m y e=>by rw [η.mp m] at e;exact sG i.2 (hf ▸ hl.down) y e⟩
 | .Tuple es k p=>do
   let t ← Br fn nm N es
   some ⟨(t.1,false),fun X h=>yk h.calm (by rw [h.hN];exact h.nd) (t.2.as_ X h) (t.2.len _) (t.2.fst _),t.2.pl⟩
 | _=>none
def eu:Μ→List ι
 | .Name x _=>[x]
 | .Tuple es _ _=>es.filterMap fun e=>match e with | .Name x _=>some x | _=>none
 | _=>[]
def eZ (nm:List (ι×Ζ)) (sc:Ĝ):List (ι×Ζ):=sc.names.map fun y=>if (y.2 == .free && nm.lookup y.1 == some .cell)=true then (y.1,.cell) else (y.1,y.2)
def yY (nm:List (ι×Ζ)) (p:ι×ι):Bool:=match nm.lookup p.1 with
 | some .local=>false
 | some .cell=>p.1 == p.2
 | some .free=>p.1 == p.2
 | _=>true
def ndB:List ι→Bool
 | []=>true
 | x :: r=>!r.contains x && ndB r
theorem wp:∀ {l},ndB l=true→l.Nodup
 | [],_=>DA
 | x :: r,h=>by
   have h':r.contains x=false∧ndB r=true:=by simpa [ndB] using h
   refine Ϟ.mpr ⟨fun m=>?_,wp h'.2⟩
   have:r.contains x=true:=by simpa using m
   rw [h'.1] at this
   cases this
def ky (own:List ι) (N:List ι):List ι:=own ++ N.map fun y=>if own.contains y then ⟨y.cps.push (1200000+N.length)⟩ else y
def lcB (nm:List (ι×Ζ)) (N N':List ι) (sc:Ĝ) (k:Nat):Bool:=
 (sc.names.all fun y=>y.2 != .cell) && sc.kind == .function && (sc.names.all fun y=>y.2 != .local || sc.names.lookup y.1 == some .local) &&
 (sc.names.all fun y=>y.2 != .free || (nm.lookup y.1 == some .cell || nm.lookup y.1 == some .free)) && N'.length == k+N.length && ((N'.drop k).zip N).all (yY (eZ nm sc)) && ndB N'
section
variable {T:Ns} {nm:List (ι×Ζ)} {N N':List ι} {X:Cx} {sc:Ĝ}
theorem ef (k:CxOk T X nm N):(relabel sc X.env).names=eZ nm sc:=by
 unfold relabel eZ
 dsimp only
 congr 1
 funext y
 rw [k.kd,show X.env.kindOf y.1=nm.lookup y.1 by rw [← k.sc];rfl]
 simp
theorem AG (k:CxOk T X nm N) (h:lcB nm N N' sc n=true):Lcn X sc n N'∧N'.Nodup:=by
 unfold lcB at h
 simp only [Χ] at h
 obtain ⟨⟨⟨⟨⟨⟨h1,h2⟩,h3⟩,h4⟩,h5⟩,h6⟩,h7⟩:=h
 have kk:∀ x,X.env.kindOf x=nm.lookup x:=fun x=>by rw [← k.sc];rfl
 refine ⟨AF h1 (by simpa using h2) h3 (by simp only [kk];exact h4) (by rw [k.hN];simpa using h5) ?_,wp h7⟩
 rw [k.hN]
 have e:iN sc X.env=yY (eZ nm sc):=by
  funext p
  unfold iN yY
  rw [ef k]
  all_goals rfl
 rw [e]
 exact h6
theorem dy.cx (h:dy X an c k i):dy (cxC X N' sc C) an c k i:=⟨h.ci,h.cls,h.na,h.wh,h.nm,h.nd,h.xc⟩
theorem CxOk.inner (k:CxOk T X nm N) (L:Lcn X sc n N') (nd:N'.Nodup) :CxOk T (cxC X N' sc C) (eZ nm sc) N' where
 hN:=rfl
 nd:=nd
 sc:=ef k
 kd:=L.kind
 calm:=k.calm
 fns:=fun j x h=>let ⟨n,f,h1,h2,h3⟩:=k.fns j x h;⟨n,f,bX.to (X:=X) h1,h2,h3⟩
 gls:=k.gls
 tbs:=k.tbs
 blt:=k.blt
 cls:=fun c cl h=>let ⟨i,h1⟩:=k.cls c cl h;⟨i,h1.cx⟩
 mts:=fun q h=>let ⟨n,f,h1,h2,⟨i,cl,a,b,c⟩⟩:=k.mts q h;⟨n,f,bX.to (X:=X) h1,h2,⟨i,cl,a,b.cx,c⟩⟩
 nws:=fun j x h hz=>let ⟨n,f,i,cl,h1,h2⟩:=k.nws j x h hz;⟨n,f,i,cl,bX.to (X:=X) h1,h2⟩
 nds:=fun j x h hz=>let ⟨n,f,fd,ps,i,cl,h1,h2⟩:=k.nds j x h hz;⟨n,f,fd,ps,i,cl,FnI.to (X:=X) h1,h2⟩
 hxs:=k.hxs
def BS (g:∀ e,Option (GT T nm N e)):(ifs:List Μ)→Option {c:E // ∀ X,CxOk T X nm N→LTs X ifs c}
 | []=>some ⟨.c (.bl true),fun X k=>uY⟩
 | [c]=>(g c).map fun x=>⟨x.1,fun X k=>uZ (x.2 X k)⟩
 | _=>none
def zQ (f:aI T) (g:gZ T) (nm:List (ι×Ζ)) (N:List ι) (ee tg iter:Μ) (ifs:List Μ) (sc:Ĝ):Option {q:(List Nat×Bool)×E×E×E // ∀ X,CxOk T X nm N→LcP X (ky (eu tg) N) ee tg iter ifs sc q.1.1 q.1.2 q.2.1 q.2.2.1 q.2.2.2}:=do
 let it ← vV (f nm N) tg iter
 let q ← tgP false (eZ nm sc) (ky (eu tg) N) tg
 let h0 ← yes (q.1.1.all fun i=>decide (i<q.1.1.length))
 let hl ← yes (lcB nm N (ky (eu tg) N) sc q.1.1.length)
 let c ← BS (g (eZ nm sc) (ky (eu tg) N)) ifs
 let e ← f (eZ nm sc) (ky (eu tg) N) ee
 let hn ← yes (aG iter)
 some ⟨(q.1,it.1,e.1,c.1),fun X k=>by
  obtain ⟨L,nd⟩:=AG k hl.down
  exact ⟨k.calm,L,it.2 X k,fun C=>q.2.1 (cxC X _ sc C) ⟨k.calm,rfl,nd,ef k⟩,fun i m x e=>by rw [ef k];exact q.2.2 rfl i m x e,fun C=>c.2 _ (k.inner L nd),fun C=>(e.2 _ (k.inner L nd)).1,iH hn.down⟩⟩
def cLC (f:aI T) (g:gZ T) (nm:List (ι×Ζ)) (N:List ι) (ee tg iter:Μ) (ifs:List Μ) (sc:Ĝ) (pos:ϭ):Option (GE T nm N (.ListComp ee [⟨tg,iter,ifs,0⟩] sc pos)):=
 (zQ f g nm N ee tg iter ifs sc).map fun q=>⟨.lc q.1.1.1 q.1.1.2 q.1.2.1 q.1.2.2.1 q.1.2.2.2,fun X k=>mkf (rN (q.2 X k))⟩
end
theorem mU (h:(match e with | .Compare ..=>false | .BoolOp ..=>false | .UnaryOp ..=>false | .IfExp ..=>false | .NamedExpr ..=>false | _=>true)=true):FZ e env whole=(do let v ← whole;Ř e.pos;holding [v] (truthy v)):=by
 cases e <;> first | rfl | cases h
section
variable {T:Ns}
theorem rW {X:Cx} {o p:Op} (ho:Op2 X (Û op) (opD o)) (hp:Op2 X (Û op') (opD p)) (ha:LE X ea a) (hb:LE X eb b) (hc:LE X ec c) (hm:GB [op,op'] [eb,ec]=false):LT X (.Compare ea [op,op'] [eb,ec] pos) (.chain o p a b c):=fun z I nb=>
 isTrue_chain ((ha true).go .refl I (au ..) nb fun z1 x u y1 x1 I1 r1 e1=>test_link ((hb true).go x1 I1 (e1.trans (au ..)) nb fun z2 y v y2 x2 I2 r2 e2=>by
  cases q:opD o (look z2.t.st x) (look z2.t.st y) with
  | none=>rw [q] at e2;exact ZX e2 nb
  | some d=>
    rw [q] at e2
    refine Υ (ho z2 u v _ _ d I2 ((r1.rb.st y2 I2).cr I2) (r2.rb.cr I2) q) (fun w s' k=>?_) fun _ _ z=>z.elim
    cases d with
    | bl t=>
      cases (show w=Ϫ t from k.2)
      have g:=bZ I2.gh k.1
      refine Ë ?_
      cases t with
      | false=>exact ite_ff ⟨z2.up s',false,rfl,e2,x2.trans g.ee,I2.grow g,rfl⟩
      | true=>exact ite_tt (test_last ((hc true).go (x2.trans g.ee) (I2.grow g) (e2.trans (au ..)) nb fun z4 w' v' y4 x4 I4 r4 e4=>by
        cases q4:opD p (look z4.t.st y) (look z4.t.st w') with
        | none=>rw [q4] at e4;exact ZX e4 nb
        | some d4=>rw [q4] at e4;exact Υ (hp z4 v v' _ _ d4 I4 (((r2.rb.st g.ee (I2.grow g)).st y4 I4).cr I4) (r4.rb.cr I4) q4) (fun c s' k=>k.tru x4 I4 e4 nb) fun _ _ z=>z.elim))
    | _=>exact ZX e2 nb)) hm
abbrev GC (T:Ns) (nm:List (ι×Ζ)) (N:List ι) (e:Μ):={c:E // ∀ X,CxOk T X nm N→(LE X e c∧a9 c=false)∧LT X e c}
def wV (f:aI T) (nm:List (ι×Ζ)) (N:List ι) (a:Μ) (op:CmpOp) (b:Μ) (pos:ϭ):Option (GC T nm N (.Compare a [op] [b] pos)):=do
 let o ← xg op
 let hb ← yes (aG b)
 let x ← f nm N a
 let y ← f nm N b
 some ⟨.op o.1 x.1 y.1,fun X k=>⟨⟨xU (o.2 X) (x.2 X k).1 (y.2 X k).1 (gB hb.down),rfl⟩,yx (o.2 X) (x.2 X k).1 (y.2 X k).1 (gB hb.down)⟩⟩
def w9 (f:aI T) (nm:List (ι×Ζ)) (N:List ι) (a:Μ) (x:ι) (p pos:ϭ):Option (GC T nm N (.Compare a [.In] [.Name x p] pos)):=do
 let hd ← no (x == ("__debug__":ι))
 let hg ← yes (bL nm x)
 let j ← bc x T.tb
 let y ← f nm N a
 some ⟨.tabin j.1 y.1,fun X k=>by
  obtain ⟨t,ad,h1,h2,h3⟩:=k.tbs j.1 x j.2
  exact ⟨⟨rL (bp k.sc hg.down) h2 h1 h3 (y.2 X k).1 hd.down rfl,rfl⟩,rX (bp k.sc hg.down) h2 h1 h3 (y.2 X k).1 hd.down rfl⟩⟩
def BM (f:aI T) (nm:List (ι×Ζ)) (N:List ι) (a:Μ) (b:Μ) (pos:ϭ):Option (GC T nm N (.Compare a [.Eq] [b] pos)):=none
def vT (f:aI T) (nm:List (ι×Ζ)) (N:List ι):(a:Μ)→(ops:List CmpOp)→(bs:List Μ)→(pos:ϭ)→Option (GC T nm N (.Compare a ops bs pos))
 | a,[.Is],[.Constant .none j p],pos=>(f nm N a).map fun x=>⟨.isN x.1,fun X k=>⟨⟨xX (x.2 X k).1 rfl,rfl⟩,yy (x.2 X k).1 rfl⟩⟩
 | a,[.IsNot],[.Constant .none j p],pos=>(f nm N a).map fun x=>⟨.isNN x.1,fun X k=>⟨⟨uz (x.2 X k).1 rfl,rfl⟩,uX (x.2 X k).1 rfl⟩⟩
 | a,[.In],[.Name x p],pos=>(w9 f nm N a x p pos).orElse fun _=>wV f nm N a .In (.Name x p) pos
 | a,[.Eq],[.Tuple es k p],pos=>(BM f nm N a (.Tuple es k p) pos).orElse fun _=>wV f nm N a .Eq (.Tuple es k p) pos
 | a,[op],[b],pos=>wV f nm N a op b pos
 | a,[op,op'],[b,c],pos=>do
   let o ← xg op
   let o' ← xg op'
   let h ← no (GB [op,op'] [b,c])
   let x ← f nm N a
   let y ← f nm N b
   let z ← f nm N c
   some ⟨.chain o.1 o'.1 x.1 y.1 z.1,fun X k=>⟨⟨rI (o.2 X) (o'.2 X) (x.2 X k).1 (y.2 X k).1 (z.2 X k).1 h.down,rfl⟩,rW (o.2 X) (o'.2 X) (x.2 X k).1 (y.2 X k).1 (z.2 X k).1 h.down⟩⟩
 | _,_,_,_=>none
def B5 (f:aI T) (nm:List (ι×Ζ)) (N:List ι) (x:ι) (p:ϭ) (b:Μ) (pos:ϭ):Option (GE T nm N (.Subscript (.Name x p) b pos)):=do
 let hd ← no (x == ("__debug__":ι))
 let hg ← yes (bL nm x)
 let j ← bc x T.tb
 let hb ← yes (aG b)
 let y ← f nm N b
 some ⟨.tab j.1 y.1,fun X k=>by
  obtain ⟨t,ad,h1,h2,h3⟩:=k.tbs j.1 x j.2
  exact mk (yd (bp k.sc hg.down) h2 h1 h3 (y.2 X k).1 (gJ hb.down) hd.down fun _=>rfl)⟩
def cIx (f:aI T) (nm:List (ι×Ζ)) (N:List ι) (a b:Μ) (pos:ϭ):Option (GE T nm N (.Subscript a b pos)):=do
 let hb ← yes (aG b)
 let x ← f nm N a
 let y ← f nm N b
 some ⟨.ix x.1 y.1,fun X k=>mk (AI (x.2 X k).1 (y.2 X k).1 (gJ hb.down))⟩
theorem qR (e:T.an i=x) (T':cm X T.an) (hy:LE X a y) (hs:bI a=true):LE X (.Attribute a x pos) (.fld y i):=by
 subst e
 exact xV T' zu hy (bj hs)
theorem ir (h:T.at_[i]? = some x):T.an i=x:=by unfold Ns.an;rw [Ĳ,h];rfl
def lY {nm:List (ι×Ζ)} {N:List ι} (f:∀ e,Option (GE T nm N e)) (x:ι) (p:ϭ) (e:Μ) (er:List Μ) (pos:ϭ):Option (GE T nm N (.Call (.Name x p) (e :: er) [] pos)):=((wU f x p e er pos).orElse fun _=>zS f x p (e :: er) pos).orElse fun _=>zU f x p (e :: er) pos
def cUn (f:aI T) (nm:List (ι×Ζ)) (N:List ι) (a:Μ) (pos:ϭ):(op:UnaryOp)→Option (GE T nm N (.UnaryOp op a pos))
 | .USub=>(f nm N a).map fun x=>⟨.neg x.1,fun X k=>mk (x9 (x.2 X k).1)⟩
 | .Not=>(f nm N a).map fun x=>⟨.not x.1,fun X k=>mk (yb (x.2 X k).1)⟩
 | _=>none
def B2 (f:aI T) (nm:List (ι×Ζ)) (N:List ι) (a:Μ) (lo:Option Μ) (p2 pos:ϭ):(hi st:Option Μ)→Option (GE T nm N (.Subscript a (.Slice lo hi st p2) pos))
 | hi,none=>do
   let x ← f nm N a
   let l ← wX (f nm N) lo
   let h ← wX (f nm N) hi
   some ⟨.sl x.1 l.1 h.1,fun X k=>mk (AM (x.2 X k).1 (l.2 X k) (h.2 X k))⟩
 | none,some st=>B1 (f nm N) a lo st p2 pos
 | _,_=>none
def cTa (f:aI T) (nm:List (ι×Ζ)) (N:List ι) (b:Μ) (pos:ϭ):(a:Μ)→Option (GE T nm N (.Subscript a b pos))
 | .Name x p=>B5 f nm N x p b pos
 | _=>none
def B4 (f:aI T) (nm:List (ι×Ζ)) (N:List ι) (a:Μ) (pos:ϭ):(b:Μ)→Option (GE T nm N (.Subscript a b pos))
 | .Slice lo hi st p2=>B2 f nm N a lo p2 pos hi st
 | b=>(cTa f nm N b pos a).orElse fun _=>cIx f nm N a b pos
def zY (f:aI T) (nm:List (ι×Ζ)) (N:List ι) (x y:ι) (p p2:ϭ) (a:Μ) (pos2 pos:ϭ):Option (GE T nm N (.Call (.Name x p) [.Call (.Name y p2) [a] [] pos2] [] pos)):=none
def cRv (f:aI T) (nm:List (ι×Ζ)) (N:List ι) (x:ι) (p:ϭ) (pos:ϭ):(a:Μ)→Option (GE T nm N (.Call (.Name x p) [a] [] pos))
 | .Call (.Name y p2) [a] [] pos2=>(BZ (f nm N) x y p p2 a pos2 pos).orElse fun _=>zY f nm N x y p p2 a pos2 pos
 | _=>none
def cIz (f:aI T) (nm:List (ι×Ζ)) (N:List ι) (x:ι) (p:ϭ) (a:Μ) (pos:ϭ):(b:Μ)→Option (GE T nm N (.Call (.Name x p) [a,b] [] pos))
 | .Name y q=>(cIs (f nm N) x p a y q pos).orElse fun _=>BU (f nm N) x p a y q pos
 | .Tuple [.Name x1 q1,.Name x2 q2,.Name x3 q3] k q=>BT (f nm N) x p a x1 x2 x3 q1 q2 q3 k q pos
 | _=>none
def BL (f:aI T) (nm:List (ι×Ζ)) (N:List ι) (x:ι) (p:ϭ) (pos:ϭ):(args:List Μ)→Option (GE T nm N (.Call (.Name x p) args [] pos))
 | []=>zS (f nm N) x p [] pos
 | [a]=>(cRv f nm N x p pos a).orElse fun _=>lY (f nm N) x p a [] pos
 | [a,b]=>(cIz f nm N x p a pos b).orElse fun _=>lY (f nm N) x p a [b] pos
 | e :: er=>lY (f nm N) x p e er pos
def cSJ (f:aI T) (nm:List (ι×Ζ)) (N:List ι) (m:ι) (ap:ϭ) (args:List Μ) (pos:ϭ):(o:Μ)→Option (GE T nm N (.Call (.Attribute o m ap) args [] pos))
 | .Constant (.str x) j p=>wZ (f nm N) x j p m ap args pos
 | _=>none
def BK (f:aI T) (nm:List (ι×Ζ)) (N:List ι) (o:Μ) (m:ι) (ap:ϭ) (args:List Μ) (pos:ϭ):Option (GE T nm N (.Call (.Attribute o m ap) args [] pos)):=
 (((cSJ f nm N m ap args pos o).orElse fun _=>Ac (f nm N) m ap o args pos).orElse fun _=>BQ (f nm N) o m ap args pos).orElse fun _=>BW (f nm N) o m ap args pos
def cMx (f:aI T) (nm:List (ι×Ζ)) (N:List ι) (x y:ι) (p:ϭ) (a b:Μ) (kp pos:ϭ):Option (GE T nm N (.Call (.Name x p) [a] [⟨some y,b,kp⟩] pos)):=do
 let hx ← isP "max" x
 let hy ← isP "default" y
 let g ← hJ T nm "max"
 let he ← yes (aG a)
 let u ← f nm N a
 let w ← f nm N b
 some ⟨.bi .max0 (.cons u.1 (.cons w.1 .nil)),fun X k=>by
  obtain rfl:=hx.down
  obtain rfl:=hy.down
  exact mk (uB k.calm (bN k g.down boot_max) (u.2 X k).1 (w.2 X k).1 (ag he.down))⟩
def BR (f:aI T) (nm:List (ι×Ζ)) (N:List ι) (o:Μ) (m:ι) (ap:ϭ):(args:List Μ)→(pos:ϭ)→Option (GE T nm N (.Call (.Attribute o m ap) args [] pos))
 | [e],pos=>do
   let hm ← isP "index" m
   let hp ← yes (ap.endLine == pos.line)
   let hn ← yes (aG e)
   let hs ← yes (bI o)
   let a ← f nm N o
   let b ← f nm N e
   some ⟨.index a.1 b.1,fun X k=>by
    obtain rfl:=hm.down
    exact mk (rK (a.2 X k).1 (b.2 X k).1 ⟨bj hs.down,by rw [ag hn.down];rfl,hp.down,by rw [ag hn.down];rfl⟩)⟩
 | _,_=>none
def cCl (f:aI T) (nm:List (ι×Ζ)) (N:List ι) (pos:ϭ) (args:List Μ):(fn:Μ)→(kw:List ű)→Option (GE T nm N (.Call fn args kw pos))
 | .Name x p,[]=>BL f nm N x p pos args
 | .Attribute o m ap,[]=>(BR f nm N o m ap args pos).orElse fun _=>BK f nm N o m ap args pos
 | .Name x p,[⟨some y,b,kp⟩]=>(match args with | [a]=>cMx f nm N x y p a b kp pos | _=>none)
 | _,_=>none
def cF2 (f:aI T) (nm:List (ι×Ζ)) (N:List ι) (x:ι) (j1:Nat) (p1 pos:ϭ):(b c:Μ)→Option (GE T nm N (.JoinedStr [.Constant (.str x) j1 p1,b,c] pos))
 | .FormattedValue e (.negSucc 0) none p2,.Constant (.str y) j2 p3=>BP (f nm N) x j1 p1 e p2 y j2 p3 pos
 | _,_=>none
def cJs (f:aI T) (nm:List (ι×Ζ)) (N:List ι) (pos:ϭ):(es:List Μ)→Option (GE T nm N (.JoinedStr es pos))
 | [.Constant (.str x) j1 p1,b,c]=>cF2 f nm N x j1 p1 pos b c
 | _=>none
def cDi (f:aI T) (nm:List (ι×Ζ)) (N:List ι) (pos:ϭ):(ks:List (Option Μ))→(vs:List Μ)→Option (GE T nm N (.Dict ks vs pos))
 | [],[]=>some ⟨.dic .nil,fun X k=>mkf uI⟩
 | ks,vs=>zN (f nm N) ks vs pos
def BV (f:aI T) (g:gZ T) (nm:List (ι×Ζ)) (N:List ι) (ee:Μ) (sc:Ĝ) (pos:ϭ):(gs:List Comprehension)→Option (GE T nm N (.ListComp ee gs sc pos))
 | [⟨tg,iter,ifs,0⟩]=>cLC f g nm N ee tg iter ifs sc pos
 | _=>none
def Bp (f:aI T) (g:gZ T) (nm:List (ι×Ζ)) (N:List ι):(e:Μ)→Option (GE T nm N e)
 | .Name x pos=>zR T nm N x pos
 | .Constant c j pos=>wW T nm N c j pos
 | .BinOp a op b pos=>do
   let o ← opP op
   let x ← f nm N a
   let y ← f nm N b
   some ⟨.op o.1 x.1 y.1,fun X k=>mk (AK (o.2 X) (x.2 X k).1 (y.2 X k).1)⟩
 | .UnaryOp op a pos=>cUn f nm N a pos op
 | .BoolOp .And es pos=>do
   let x ← vR (f nm N) pos es
   let h ← no (a9 x.1)
   some ⟨x.1,fun X k=>mk (x.2 X k) h.down⟩
 | .BoolOp .Or es pos=>do
   let x ← BX (f nm N) pos es
   let h ← no (a9 x.1)
   some ⟨x.1,fun X k=>mk (x.2 X k) h.down⟩
 | .IfExp c a b pos=>do
   let t ← g nm N c
   let x ← f nm N a
   let y ← f nm N b
   some ⟨.ite t.1 x.1 y.1,fun X k=>mk (xY (t.2 X k) (x.2 X k).1 (y.2 X k).1)⟩
 | .Compare a ops bs pos=>(vT f nm N a ops bs pos).map fun x=>⟨x.1,fun X k=>mk (x.2 X k).1.1 (x.2 X k).1.2⟩
 | .Tuple es n pos=>(dC (f nm N) es).map fun x=>⟨.tup x.1,fun X k=>mk (rM (x.2 X k))⟩
 | .List es pos=>(dC (f nm N) es).map fun x=>⟨.lst x.1,fun X k=>mkf (yi (x.2 X k))⟩
 | .Subscript a b pos=>B4 f nm N a pos b
 | .Attribute a x pos=>do
   let i ← bc x T.at_
   let hs ← yes (bI a)
   let y ← f nm N a
   some ⟨.fld y.1 i.1,fun X k=>mk (qR (ir i.2) k.cls (y.2 X k).1 hs.down)⟩
 | .Call fn args kw pos=>cCl f nm N pos args fn kw
 | .JoinedStr es pos=>cJs f nm N pos es
 | .Dict cC vals pos=>cDi f nm N pos cC vals
 | .ListComp ee gs sc pos=>BV f g nm N ee sc pos gs
 | _=>none
def Bq (f:aI T) (g:gZ T) (nm:List (ι×Ζ)) (N:List ι):(e:Μ)→Option (GT T nm N e)
 | .UnaryOp .Not a pos=>(g nm N a).map fun x=>⟨.tnot x.1,fun X k=>yz (x.2 X k)⟩
 | .BoolOp .And es pos=>(vQ (g nm N) pos es).map fun x=>⟨x.1,fun X k=>wl (x.2 X k)⟩
 | .BoolOp .Or es pos=>(zV (g nm N) pos es).map fun x=>⟨x.1,fun X k=>wl (x.2 X k)⟩
 | .Compare a ops bs pos=>(vT f nm N a ops bs pos).map fun x=>⟨x.1,fun X k=>(x.2 X k).2⟩
 | e=>do
   let h ← yes (match e with | .Compare ..=>false | .BoolOp ..=>false | .UnaryOp ..=>false | .IfExp ..=>false | .NamedExpr ..=>false | _=>true)
   let x ← f nm N e
   some ⟨.tv x.1,fun X k=>AS (x.2 X k).1 fun w=>mU h.down⟩
theorem xR:LE X e .nil:=fun br z I nb=>ZX rfl nb
theorem yw:LT X e .nil:=fun z I nb=>ZX rfl nb
def pc (T:Ns):Nat→aI T×gZ T
 | 0=>(fun _ _ _=>none,fun _ _ _=>none)
 | k+1=>(fun nm N e=>some ((Bp (pc T k).1 (pc T k).2 nm N e).getD ⟨.nil,fun X _=>mk xR⟩),fun nm N e=>some ((Bq (pc T k).1 (pc T k).2 nm N e).getD ⟨.nil,fun X _=>yw⟩))
end
def RaP (X:Cx) (j:Nat) (x:ι):Prop:=∃ (lv:Nat) (k:Cl) (i:CI) (fI:Δ) (fd:Þ) (ps:List ι) (Bx nwI iniI:String) (bmB:List ζ),Ĥ Bx nwI iniI bmB∧gY X.K i.ad fI bmB nwI∧FnJ X lv fI fd ps i.nm k i.ad∧bS X.K fd ps []∧ba (lv+1) X.A∧fJ X.K i.ad∧(∀ f∈i.nm,Ν X.K (.ref i.ad) f=some none)∧X.Γ.cl[j]? = some k∧X.W.ci[j]? = some i∧X.W.what[j]? = some 2∧i.nm.length=k.at_.length∧ϥ X.K i.ad (.type "BaseException")=some true∧þ X.K (.ref i.ad)=some (.type "type")∧ϕ X.K (.ref i.ad)=true∧X.mg x=some (.ref i.ad)∧k.at_.isEmpty=false
def RtP (X:Cx) (j:Nat) (x:ι):Prop:=∃ (k:Cl) (i:CI) (Bx nwI iniI:String) (bmB:List ζ),Ĥ Bx nwI iniI bmB∧zB X.K i.ad bmB nwI∧X.Γ.cl[j]? = some k∧k.at_.isEmpty=true∧X.W.ci[j]? = some i∧X.W.what[j]? = some 2∧X.mg x=some (.ref i.ad)
structure CxS (T:Ns) (X:Cx) (nm:List (ι×Ζ)) (N:List ι):Prop extends CxOk T X nm N where
 fr:lQ X
 rs:∀ (j:Nat) (x:ι),T.ex[j]? = some x→x≠""→RaP X j x
 rt:∀ (j:Nat) (x:ι),T.xt[j]? = some x→x≠""→RtP X j x
abbrev GS (T:Ns) (nm:List (ι×Ζ)) (N:List ι) (st:Ô):={c:S // ∀ X,CxS T X nm N→LS X st c}
abbrev GSs (T:Ns) (nm:List (ι×Ζ)) (N:List ι) (st:List Ô):={c:S // ∀ X,CxS T X nm N→LSs X st c}
def jH:Μ→Bool
 | .ListComp ..=>false
 | .SetComp ..=>false
 | .DictComp ..=>false
 | _=>true
theorem fB (h:jH e=true):C7 e t l env=pure false:=by
 cases e <;> first | rfl | cases h
section
variable {T:Ns} {nm:List (ι×Ζ)} {N:List ι}
theorem CxOk.tg (k:CxOk T X nm N):TgH nm N X:=⟨k.calm,k.hN,k.nd,k.sc⟩
theorem CxOk.at {i:Nat} {x:ι} (k:CxOk T X nm N) (h:N[i]? = some x):X.N[i]? = some x:=by rw [k.hN];exact h
theorem CxOk.ndx (k:CxOk T X nm N):X.N.Nodup:=by rw [k.hN];exact k.nd
def vW (f:aI T) (nm:List (ι×Ζ)) (N:List ι) (x:ι) (p:ϭ) (pos:ϭ) (e:Μ):Option (GS T nm N (.Assign [.Name x p] e pos)):=do
 let i ← bc x N
 let hl ← yes (gy true nm x)
 let hn ← yes (jH e)
 let a ← f nm N e
 some ⟨.set i.1 a.1,fun X k=>mC k.ndx (k.at i.2) (gU k.tg hl.down) (a.2 X k.toCxOk).1 (a.2 X k.toCxOk).2 (fB hn.down)⟩
def B0 (f:aI T) (g:gZ T) (nm:List (ι×Ζ)) (N:List ι) (x:ι) (p:ϭ) (pos:ϭ):(e:Μ)→Option (GS T nm N (.Assign [.Name x p] e pos))
 | .ListComp ee [⟨tg,iter,ifs,0⟩] sc pos2=>do
   let i ← bc x N
   let hl ← yes (gy true nm x)
   let q ← zQ f g nm N ee tg iter ifs sc
   some ⟨.set i.1 (.lc q.1.1.1 q.1.1.2 q.1.2.1 q.1.2.2.1 q.1.2.2.2),fun X k=>rV k.ndx (k.at i.2) (gU k.tg hl.down) (q.2 X k.toCxOk)⟩
 | .List es lp=>(match dX x T.rf with
   | some _=>do
     let i ← bc x N
     let hl ← yes (gy true nm x)
     let a ← dC (f nm N) es
     some ⟨.setR i.1 a.1,fun X k=>uW k.ndx (k.at i.2) (gU k.tg hl.down) (a.2 X k.toCxOk) (fB rfl)⟩
   | none=>vW f nm N x p pos (.List es lp))
 | e=>vW f nm N x p pos e
def BH (f:aI T) (nm:List (ι×Ζ)) (N:List ι) (x:ι) (p:ϭ) (m:ι) (ap:ϭ) (e:Μ) (cp pos:ϭ):Option (GS T nm N (.Expr (.Call (.Attribute (.Name x p) m ap) [e] [] cp) pos)):=do
 let hm ← isP "append" m
 let i ← bc x N
 let hl ← yes (cu nm x)
 let hd ← no (x == ("__debug__":ι))
 let hc ← no (x == ("__classdict__":ι))
 let he ← yes (aG e)
 let hp ← yes (ap.endLine == cp.line)
 let a ← f nm N e
 some ⟨.app i.1 a.1,fun X k=>by
  obtain rfl:=hm.down
  exact yn (k.at i.2) (aY k.sc hl.down) hd.down hc.down (a.2 X k.toCxOk).1 ⟨bj rfl,by rw [ag he.down];rfl,hp.down,by rw [ag he.down];rfl⟩⟩
def zO (f:aI T) (nm:List (ι×Ζ)) (N:List ι) (o:Μ) (m:ι) (ap:ϭ) (e:Μ) (cp pos:ϭ):Option (GS T nm N (.Expr (.Call (.Attribute o m ap) [e] [] cp) pos)):=none
def BN (f:aI T) (nm:List (ι×Ζ)) (N:List ι) (x:ι) (p:ϭ) (m:ι) (ap:ϭ) (e:Μ) (cp pos:ϭ):Option (GS T nm N (.Expr (.Call (.Attribute (.Name x p) m ap) [e] [] cp) pos)):=do
 let hm ← isP "extend" m
 let i ← bc x N
 let hl ← yes (cu nm x)
 let hd ← no (x == ("__debug__":ι))
 let hc ← no (x == ("__classdict__":ι))
 let he ← yes (aG e)
 let hp ← yes (ap.endLine == cp.line)
 let a ← f nm N e
 some ⟨.ext i.1 a.1,fun X k=>by
  obtain rfl:=hm.down
  exact yr (k.at i.2) (aY k.sc hl.down) hd.down hc.down (a.2 X k.toCxOk).1 ⟨bj rfl,by rw [ag he.down];rfl,hp.down,by rw [ag he.down];rfl⟩⟩
def qB (f:aI T) (nm:List (ι×Ζ)) (N:List ι) (e:Μ) (pos:ϭ):Option (GS T nm N (.Expr e pos)):=do
 let hn ← yes (jH e)
 let a ← f nm N e
 some ⟨.drop a.1,fun X k=>uP (a.2 X k.toCxOk).1 (fB hn.down)⟩
def Ab (f:aI T) (nm:List (ι×Ζ)) (N:List ι) (j:Nat) (p:ϭ) (k:Nat) (q pos:ϭ):(ts vs:List Μ)→Option (GS T nm N (.Assign [.Tuple ts j p] (.Tuple vs k q) pos)):=fun _ _=>none
def BY (f:aI T) (nm:List (ι×Ζ)) (N:List ι) (x:ι) (p:ϭ) (eb:Μ) (p2:ϭ) (ee:Μ) (pos:ϭ):Option (GS T nm N (.Assign [.Subscript (.Name x p) eb p2] ee pos)):=do
 let i ← bc x N
 let hl ← yes (cu nm x)
 let hd ← no (x == ("__debug__":ι))
 let hc ← no (x == ("__classdict__":ι))
 let hn ← yes (aG eb)
 let b ← f nm N eb
 let e ← f nm N ee
 some ⟨.put (.v i.1) b.1 e.1,fun X k=>uU (k.at i.2) (aY k.sc hl.down) hd.down hc.down hn.down (b.2 X k.toCxOk).1 (e.2 X k.toCxOk).1⟩
def zW (f:aI T) (nm:List (ι×Ζ)) (N:List ι) (eo eb:Μ) (p2:ϭ) (ee:Μ) (pos:ϭ):Option (GS T nm N (.Assign [.Subscript eo eb p2] ee pos)):=do
 let hn ← yes (aG eb)
 let o ← f nm N eo
 let hv ← no (isV o.1)
 let b ← f nm N eb
 let e ← f nm N ee
 some ⟨.put o.1 b.1 e.1,fun X k=>uT hn.down hv.down (o.2 X k.toCxOk).1 (b.2 X k.toCxOk).1 (e.2 X k.toCxOk).1⟩
def wY (f:aI T) (nm:List (ι×Ζ)) (N:List ι) (x:ι) (np:ϭ):(args:List Μ)→(cp pos:ϭ)→Option (GS T nm N (.Raise (some (.Call (.Name x np) args [] cp)) none pos))
 | [],_,_=>none
 | e :: er,cp,pos=>do
   let j ← bc x T.ex
   let hz ← no (x == ("":ι))
   let hn ← yes ((e :: er).all aG)
   let hg ← yes (bL nm x)
   let hd ← no (x == ("__debug__":ι))
   let a ← dC (f nm N) (e :: er)
   some ⟨.rais j.1 a.1,fun X k=>by
    obtain ⟨lv,cl,i,fI,fd,ps,Bx,nwI,iniI,bmB,h1,h2,h3,h4,h5,h6,h7,h8,h9,h10,h11,h12,h13,h14,h15,h16⟩:=k.rs j.1 x j.2 (by simpa using hz.down)
    have hn':=ϣ.mp hn.down
    obtain ⟨ck,h3,hk⟩:=h3
    exact rU h1 h2 h3 hk h4 h5 h6 h7 h8 h9 h10 h11 h16 h12 h13 h14 k.calm (bp k.sc hg.down) h15 (a.2 X k.toCxOk) hd.down (ag (hn' e ν)) (bv fun y hy=>hn' y (μ _ hy))⟩
def tY (nm:List (ι×Ζ)) (N:List ι) (x:ι) (np:ϭ):(args:List Μ)→(cp pos:ϭ)→Option (GS T nm N (.Raise (some (.Call (.Name x np) args [] cp)) none pos)):=fun _ _ _=>none
def vU (nm:List (ι×Ζ)) (N:List ι) (y:ι) (p1:ϭ) (x:ι) (p pos p2:ϭ):Option (GS T nm N (.Assign [.Attribute (.Name y p1) x p] (.Dict [] [] p2) pos)×GS T nm N (.Assign [.Attribute (.Name y p1) x p] (.List [] p2) pos)):=do
 let j ← bc x T.at_
 let i ← bc y N
 let hl ← yes (cu nm y)
 let hd ← no (y == ("__debug__":ι))
 let hc ← no (y == ("__classdict__":ι))
 some (⟨.fld (.v i.1) j.1 (.dic .nil),fun X k=>by
  have h:=uQ (X:=X) (p:=p) (pos:=pos) (p1:=p1) (p2:=p2) (f:=j.1) k.cls (k.at i.2) (aY k.sc hl.down) hd.down hc.down
  rw [ir j.2] at h
  exact h⟩,⟨.fld (.v i.1) j.1 (.lst .nil),fun X k=>by
  have h:=uR (X:=X) (p:=p) (pos:=pos) (p1:=p1) (p2:=p2) (f:=j.1) k.cls (k.at i.2) (aY k.sc hl.down) hd.down hc.down
  rw [ir j.2] at h
  exact h⟩)
def BO (f:aI T) (nm:List (ι×Ζ)) (N:List ι) (eo:Μ) (x:ι) (p:ϭ) (ee:Μ) (pos:ϭ):Option (GS T nm N (.Assign [.Attribute eo x p] ee pos)):=do
 let j ← bc x T.at_
 let o ← f nm N eo
 let e ← f nm N ee
 let hp ← yes (mL e.1)
 some ⟨.fld o.1 j.1 e.1,fun X k=>by
  have h:=yt (X:=X) (p:=p) (pos:=pos) (f:=j.1) k.cls hp.down (o.2 X k.toCxOk).1 (e.2 X k.toCxOk).1
  rw [ir j.2] at h
  exact h⟩
def zP (f:aI T) (nm:List (ι×Ζ)) (N:List ι):(eo:Μ)→(x:ι)→(p:ϭ)→(ee:Μ)→(pos:ϭ)→Option (GS T nm N (.Assign [.Attribute eo x p] ee pos))
 | .Name y p1,x,p,.Dict [] [] p2,pos=>(vU nm N y p1 x p pos p2).map (·.1)
 | .Name y p1,x,p,.List [] p2,pos=>(vU nm N y p1 x p pos p2).map (·.2)
 | eo,x,p,ee,pos=>BO f nm N eo x p ee pos
def BD:(op:Fw)→Option {o:Op // ∀ X:Cx,∃ g,tI X op o g}
 | .Sub=>some ⟨.sub,fun X=>⟨_,tQ⟩⟩
 | .Add=>some ⟨.add,fun X=>⟨_,tP⟩⟩
 | _=>none
def BI (nm:List (ι×Ζ)) (N:List ι) (op:Fw) (pos:ϭ):(tg e:Μ)→Option (GS T nm N (.AugAssign tg op e pos))
 | .Attribute (.Name y p1) x p,.Constant (.int c) j p2=>do
   let o ← BD op
   let a ← bc x T.at_
   let i ← bc y N
   let hl ← yes (cu nm y)
   let hd ← no (y == ("__debug__":ι))
   let hc ← no (y == ("__classdict__":ι))
   some ⟨.fld (.v i.1) a.1 (.op o.1 (.fld (.v i.1) a.1) (.c (.int c))),fun X k=>by
    obtain ⟨g,ar⟩:=o.2 X
    have h:=yo (X:=X) (p:=p) (pos:=pos) (p1:=p1) (p2:=p2) (j:=j) (c:=c) (f:=a.1) k.cls ar (k.at i.2) (aY k.sc hl.down) hd.down hc.down
    rw [ir a.2] at h
    exact h⟩
 | _,_=>none
structure lU (T:Ns) (X:Cx) (nm:List (ι×Ζ)) (N:List ι):Prop where
 hN:X.N=N
 nd:N.Nodup
 sc:X.env.scope.names=nm
 cls:cm X T.an
theorem CxOk.su (k:CxOk T X nm N) (e:ζ):lU T (aM X e) nm N:=⟨k.hN,k.nd,k.sc,fun c cl h=>let ⟨i,h⟩:=k.cls c cl h;⟨i,h.ci,h.cls,h.na,h.wh,h.nm,h.nd,h.xc⟩⟩
def vX (nm:List (ι×Ζ)) (N:List ι):(e:Μ)→Option {c:E // a9 c=false∧∀ X,lU T X nm N→LE X e c}
 | .Name x pos=>do
   let hd ← no (x == ("__debug__":ι))
   let hc ← no (x == ("__classdict__":ι))
   let hl ← yes (cu nm x)
   let i ← bc x N
   some ⟨.v i.1,rfl,fun X k=>ye (by rw [k.hN];exact i.2) (aY k.sc hl.down) hd.down hc.down⟩
 | .Constant c j pos=>match c with
   | .none=>some ⟨.c .non,rfl,fun X k=>v7⟩
   | .bool b=>some ⟨.c (.bl b),rfl,fun X k=>Ae⟩
   | .int i=>some ⟨.c (.int i),rfl,fun X k=>v6⟩
   | .str x=>some ⟨.c (.str x),rfl,fun X k=>v9⟩
   | _=>none
 | .Attribute (.Name y p) x pos=>do
   let hd ← no (y == ("__debug__":ι))
   let hc ← no (y == ("__classdict__":ι))
   let hl ← yes (cu nm y)
   let i ← bc y N
   let j ← bc x T.at_
   let hs ← yes (bI (.Name y p))
   some ⟨.fld (.v i.1) j.1,rfl,fun X k=>qR (ir j.2) k.cls (ye (by rw [k.hN];exact i.2) (aY k.sc hl.down) hd.down hc.down) hs.down⟩
 | _=>none
def zZ (nm:List (ι×Ζ)) (N:List ι):(es:List Μ)→Option {c:E // ∀ X,lU T X nm N→LA X es c}
 | []=>some ⟨.nil,fun X k=>rC⟩
 | e :: r=>do
   let h ← yes (aG e)
   let a ← vX (T:=T) nm N e
   let b ← zZ nm N r
   some ⟨.cons a.1 b.1,fun X k=>nU (a.2.2 X k) (b.2 X k) (ag h.down)⟩
def Aa (nm:List (ι×Ζ)) (N:List ι):(e:Μ)→Option {c:E // a9 c=false∧∀ X,lU T X nm N→LE X e c}
 | .Tuple es n pos=>(zZ (T:=T) nm N es).map fun a=>⟨.tup a.1,rfl,fun X k=>rM (a.2 X k)⟩
 | e=>vX nm N e
def cSu (nm:List (ι×Ζ)) (N:List ι):(st:Ô)→Option {c:S // ∀ X,lU T X nm N→LS X st c}
 | .Return (some e) pos=>(Aa (T:=T) nm N e).map fun a=>⟨.ret a.1,fun X k=>mB (a.2.2 X k)⟩
 | .Assign [.Name x p] e pos=>do
   let i ← bc x N
   let hl ← yes (gy true nm x)
   let hn ← yes (jH e)
   let a ← Aa (T:=T) nm N e
   some ⟨.set i.1 a.1,fun X k=>mC (by rw [k.hN];exact k.nd) (by rw [k.hN];exact i.2) (by
    have l1:nm.lookup x=some .local∨nm.lookup x=some .cell:=by have:=hl.down;unfold gy at this;simpa using this
    show X.env.scope.names.lookup x=_∨X.env.scope.names.lookup x=_
    rw [k.sc];exact l1) (a.2.2 X k) (fun q=>by rw [a.2.1] at q;cases q) (fB hn.down)⟩
 | _=>none
theorem mz {st:Ô}:LS X st (.hand 0 none .skip .skip):=fun z I nb=>ZX rfl nb
def z9 (nm:List (ι×Ζ)) (N:List ι) (st:Ô):{c:S // ∀ X,lU T X nm N→LS X st c}:=(cSu (T:=T) nm N st).getD ⟨.hand 0 none .skip .skip,fun X k=>mz⟩
def w8 (nm:List (ι×Ζ)) (N:List ι):(st:List Ô)→Option {c:S // ∀ X,lU T X nm N→LSs X st c}
 | []=>some ⟨.skip,fun X k=>rS⟩
 | [a]=>let x:=z9 (T:=T) nm N a;some ⟨x.1,fun X k=>rT (x.2 X k)⟩
 | a :: b :: r=>do
   let x:=z9 (T:=T) nm N a
   let y ← w8 nm N (b :: r)
   some ⟨.seq x.1 y.1,fun X k=>nZ (x.2 X k) (y.2 X k)⟩
def cHs (nm:List (ι×Ζ)) (N:List ι):(hs:List Đ)→Option {r:S // ∀ X,CxS T X nm N→HL X hs r}
 | []=>some ⟨.skip,fun X k=>xv k.fr⟩
 | .ExceptHandler (some (.Name Bn np)) (some x) (b₀ :: suite) hpos :: hs=>do
   let j ← bc Bn T.hx
   let hz ← no (Bn == ("":ι))
   let hg ← yes (bL nm Bn)
   let hd ← no (Bn == ("__debug__":ι))
   let i ← bc x N
   let hl ← yes (nm.lookup x == some .local)
   let b ← w8 (T:=T) nm N (b₀ :: suite)
   let r ← cHs nm N hs
   some ⟨.hand j.1 (some i.1) b.1 r.1,fun X k=>At (fun e=>b.2 _ (k.toCxOk.su e)) (k.hxs j.1 Bn j.2 (by simpa using hz.down)) (bp k.sc hg.down) hd.down k.ndx (k.at i.2) (by rw [k.sc];simpa using hl.down) (r.2 X k)⟩
 | .ExceptHandler (some (.Name Bn np)) none (b₀ :: suite) hpos :: hs=>do
   let j ← bc Bn T.hx
   let hz ← no (Bn == ("":ι))
   let hg ← yes (bL nm Bn)
   let hd ← no (Bn == ("__debug__":ι))
   let b ← w8 (T:=T) nm N (b₀ :: suite)
   let r ← cHs nm N hs
   some ⟨.hand j.1 none b.1 r.1,fun X k=>Au (fun e=>b.2 _ (k.toCxOk.su e)) (k.hxs j.1 Bn j.2 (by simpa using hz.down)) (bp k.sc hg.down) hd.down (r.2 X k)⟩
 | _=>none
def B6 (a:GSs T nm N body):(hs:List Đ)→(pos:ϭ)→Option (GS T nm N (.Try body hs [] [] pos))
 | h0 :: hs,pos=>(cHs nm N (h0 :: hs)).map fun r=>⟨.try_ a.1 r.1,fun X k=>yv k.fr (a.2 X k) (r.2 X k)⟩
 | _,_=>none
def zX (f:aI T) (nm:List (ι×Ζ)) (N:List ι) (er:List Μ) (p2 pos:ϭ):Option (GS T nm N (.Return (some (.List er p2)) pos)):=none
mutual
noncomputable def B3 (f:aI T) (g:gZ T) (nm:List (ι×Ζ)) (N:List ι):(n:Nat)→(st:Ô)→Option (GS T nm N st)
 | 0,_=>none
 | _+1,.Pass pos=>some ⟨.skip,fun X k=>uS⟩
 | _+1,.Return none pos=>some ⟨.ret (.c .non),fun X k=>uV⟩
 | _+1,.Return (some (.List er p2)) pos=>(zX f nm N er p2 pos).orElse fun _=>(f nm N (.List er p2)).map fun a=>⟨.ret a.1,fun X k=>mB (a.2 X k.toCxOk).1⟩
 | _+1,.Return (some e) pos=>(f nm N e).map fun a=>⟨.ret a.1,fun X k=>mB (a.2 X k.toCxOk).1⟩
 | _+1,.Expr (.Constant (.str x) j p) pos=>some ⟨.skip,fun X k=>yp⟩
 | _+1,.Expr (.Call (.Attribute (.Attribute o2 f2 ap2) m ap) [e] [] cp) pos=>(zO f nm N (.Attribute o2 f2 ap2) m ap e cp pos).orElse fun _=>qB f nm N _ pos
 | _+1,.Expr (.Call (.Attribute (.Name x p) m ap) [e] [] cp) pos=>((BH f nm N x p m ap e cp pos).orElse fun _=>BN f nm N x p m ap e cp pos).orElse fun _=>qB f nm N _ pos
 | _+1,.Expr e pos=>qB f nm N e pos
 | _+1,.Assign [.Name x p] e pos=>B0 f g nm N x p pos e
 | _+1,.Assign [.Subscript (.Name x p) eb p2] ee pos=>BY f nm N x p eb p2 ee pos
 | _+1,.Assign [.Subscript eo eb p2] ee pos=>zW f nm N eo eb p2 ee pos
 | _+1,.Raise (some (.Call (.Name x np) args [] cp)) none pos=>(wY f nm N x np args cp pos).orElse fun _=>tY nm N x np args cp pos
 | _+1,.Assign [.Attribute eo x p] ee pos=>zP f nm N eo x p ee pos
 | _+1,.AugAssign tg op e pos=>BI nm N op pos tg e
 | _+1,.Assign [.Tuple ts j p] (.Tuple vs k q) pos=>Ab f nm N j p k q pos ts vs
 | n+1,.If e sa sb pos=>do
   let c ← g nm N e
   let a ← pd f g nm N n sa
   let b ← pd f g nm N n sb
   some ⟨.ifs c.1 a.1 b.1,fun X k=>AR (c.2 X k.toCxOk) (a.2 X k) (b.2 X k)⟩
 | n+1,.For tg iter body [] pos=>do
   let it ← vV (f nm N) tg iter
   let q ← tgP true nm N tg
   let hn ← yes (aG iter)
   let b ← pd f g nm N n body
   some ⟨.for_ q.1.1 q.1.2 it.1 b.1,fun X k=>yu k.calm (fun z o=>vt k.fr) (it.2 X k.toCxOk) (q.2.1 X k.tg) (b.2 X k) (iH hn.down)⟩
 | n+1,.Try body hs [] [] pos=>do
   let a ← pd f g nm N n body
   B6 a hs pos
 | _,_=>none
noncomputable def cSt (f:aI T) (g:gZ T) (nm:List (ι×Ζ)) (N:List ι):(n:Nat)→(st:Ô)→Option (GS T nm N st)
 | 0,st=>some ⟨.hand 0 none .skip .skip,fun X k=>mz⟩
 | n+1,st=>some ((B3 f g nm N n st).getD ⟨.hand 0 none .skip .skip,fun X k=>mz⟩)
noncomputable def pd (f:aI T) (g:gZ T) (nm:List (ι×Ζ)) (N:List ι):(n:Nat)→(st:List Ô)→Option (GSs T nm N st)
 | 0,_=>none
 | _+1,[]=>some ⟨.skip,fun X k=>rS⟩
 | n+1,[a]=>(cSt f g nm N n a).map fun x=>⟨x.1,fun X k=>rT (x.2 X k)⟩
 | n+1,a :: b :: r=>do
   let x ← cSt f g nm N n a
   let y ← pd f g nm N n (b :: r)
   some ⟨.seq x.1 y.1,fun X k=>nZ (x.2 X k) (y.2 X k)⟩
end
end
def bz (st:Ô):List ι:=(aJ st).args.map (·.arg)
def kP (st:Ô):List ι:=bz st ++ ((aw st).names.filter fun y=>(y.2 == .local || y.2 == .cell) && !(bz st).contains y.1).map (·.1)
def dfB (st:Ô):Option Bool:=match (aJ st).defaults with
 | [.Constant (.bool b) _ _]=>some b
 | _=>none
def DfV (K:υ) (dV:ζ):Option Bool→Prop
 | none=>dV = .none
 | some b=>∃ T o n,dV = .ref T∧K.lookup T=some o∧o.data = .seq #[.bool b] n
structure lR (K:υ) (x qual:ι) (st:Ô) (f:Δ) (fd:Þ):Prop where
 ex:∃ (oc:ζ) (od:Option Δ) (dV kV doc pm:ζ) (an:Option Δ) (cdv ct:ζ) (osl:Array (Option ζ)),
  fd=ϵ x qual (aJ st) (bF st) (aw st) dV kV doc pm an cdv ct∧K.lookup f=some ⟨oc,od,.func fd,osl⟩∧Ý K cdv qual=true∧DfV K dV (dfB st)
 kp:ϕ K (.ref f)=true
def dfT (T:Ns) (st:Ô):Option Bool:=if T.mu.contains "#d" then dfB st else none
def dfD:Option Bool→List D
 | some b=>[.bl b]
 | none=>[]
def dfU:Option Bool→List ζ
 | some b=>[.bool b]
 | none=>[]
theorem Af:∀ (o:Option Bool) (ρ:Rs) (G:Hp),RDs W ρ G (dfD o) (dfU o)
 | none,_,_=>rfl
 | some b,_,_=>.cons rfl rfl
def fO (T:Ns) (st:Ô):Option Fn:=(pd (pc T 200).1 (pc T 200).2 (aw st).names (kP st) 200 (bF st)).map fun c=>⟨(bz st).length,(kP st).length,c.1,dfD (dfT T st)⟩
structure tK (T:Ns) (X:Cx) (ad:List Δ) (lv:Nat):Prop where
 calm:X.calm=true
 fns:∀ (j:Nat) (f:Δ),ad[j]? = some f→∃ x qual st fd fn mu al fc oc,lR X.K x qual st f fd∧bS X.K fd (bz st) (dfU (dfT { T with mu:=mu,alt:=al,fc:=fc,oc:=oc } st))∧dg (kP st) (bz st) (aw st)∧X.Γ.fn[j]? = some fn∧fO { T with mu:=mu,alt:=al,fc:=fc,oc:=oc } st=some fn
 glb:∀ (j:Nat) (x:ι),T.fn[j]? = some x→∃ f,ad[j]? = some f∧X.mg x=some (.ref f)
 gls:∀ (j:Nat) (x:ι),T.gl[j]? = some x→∃ d u,X.Γ.gl[j]? = some d∧X.mg x=some u∧aT X.K d u=true
 tbs:∀ (j:Nat) (x:ι),T.tb[j]? = some x→∃ t a,X.Γ.tb[j]? = some t∧X.mg x=some (.ref a)∧TbL X a t
 blt:∀ x∈T.bl,X.mg x=none
 cls:cm X T.an
 mts:∀ q∈T.me,∃ f,ad[q.2.2]? = some f∧o6 X T.an q.1 q.2.1 f
 nws:∀ (j:Nat) (x:ι),T.nw[j]? = some x→x≠""→∃ f i cl,ad[cl.init]? = some f∧Mk X.K i.ad f∧X.Γ.cl[j]? = some cl∧cl.what=0∧X.W.ci[j]? = some i∧X.W.what[j]? = some 0∧X.mg x=some (.ref i.ad)
 nds:∀ (j:Nat) (x:ι),T.nd[j]? = some x→x≠""→∃ f fd ps i cl,FnI X lv f fd ps i.nm none∧bS X.K fd ps []∧Mk X.K i.ad f∧Cls X.K i.ad∧(∀ f∈i.nm,cy X.K i.ad f)∧X.Γ.cl[j]? = some cl∧X.W.ci[j]? = some i∧X.W.what[j]? = some 1∧i.nm.length=cl.at_.length∧X.mg x=some (.ref i.ad)
 rs:∀ (j:Nat) (x:ι),T.ex[j]? = some x→x≠""→∃ (k:Cl) (i:CI) (fI:Δ) (fd:Þ) (ps:List ι) (Bx nwI iniI:String) (bmB:List ζ),Ĥ Bx nwI iniI bmB∧gY X.K i.ad fI bmB nwI∧FnJ X lv fI fd ps i.nm k i.ad∧bS X.K fd ps []∧fJ X.K i.ad∧(∀ f∈i.nm,Ν X.K (.ref i.ad) f=some none)∧X.Γ.cl[j]? = some k∧X.W.ci[j]? = some i∧X.W.what[j]? = some 2∧i.nm.length=k.at_.length∧ϥ X.K i.ad (.type "BaseException")=some true∧þ X.K (.ref i.ad)=some (.type "type")∧ϕ X.K (.ref i.ad)=true∧X.mg x=some (.ref i.ad)∧k.at_.isEmpty=false
 hxs:∀ (j:Nat) (x:ι),T.hx[j]? = some x→x≠""→qp X j x
 rt:∀ (j:Nat) (x:ι),T.xt[j]? = some x→x≠""→RtP X j x
section
variable {X:Cx} {T:Ns} {ad:List Δ} {lv:Nat}
theorem dy.to {A:ϒ} {fr:List CT} {N:List ι} {e:CT} {c1 d1:Nat→List D→List O→Res} (h:dy X an c k i):dy (X.to A fr N e c1 d1) an c k i:=⟨h.ci,h.cls,h.na,h.wh,h.nm,h.nd,h.xc⟩
theorem pW (Pg:tK T X ad lv) (n:Nat) (ih:∀ (j:Nat) (f:Δ),ad[j]? = some f→bX X (ae X.Γ n) (lv+1+n) j f) (ih1:∀ (j:Nat) (f:Δ),ad[j]? = some f→∃ m,m+1≤lv+1+n∧bX X (aQ X.Γ n) m j f) {j:Nat} {f:Δ} (h:ad[j]? = some f):bX X (ae X.Γ (n+1)) (lv+1+(n+1)) j f:=by
 obtain ⟨x,qual,st,fd,fn,mu,al,fc,oc,Fu,b,Sc,hj,hc⟩:=Pg.fns j f h
 obtain ⟨oc',od,dV,kV,doc,pm,an,cd,ct,osl,rfl,lk,hcd,_⟩:=Fu.ex
 unfold fO at hc
 obtain ⟨c,_,rfl⟩:=ψ.mp hc
 refine ⟨_,_,_,Ak (cal:=ae X.Γ n) (cal1:=aQ X.Γ n) (k:=lv+1+n) lk hcd Sc hj (Af _) fun A fr L hr=>c.2 _ ⟨⟨rfl,Sc.nd,rfl,Sc.kind,Pg.calm,fun i y hy=>?_,Pg.gls,Pg.tbs,Pg.blt,fun c cl h=>let ⟨i,h⟩:=Pg.cls c cl h;⟨i,h.to⟩,fun q hq=>?_,fun i y hy hz=>?_,fun i y hy hz=>?_,Pg.hxs⟩,⟨⟨fr,rfl⟩,rfl⟩,fun i y hy hz=>?_,Pg.rt⟩,b,Fu.kp⟩
 ·obtain ⟨g,h1,h2⟩:=Pg.glb i y hy
  exact ⟨_,g,(ih i g h1).to,hr,h2⟩
 ·obtain ⟨g,h1,⟨i,k,a1,a2,a3⟩⟩:=Pg.mts q hq
  exact ⟨_,g,(ih _ g h1).to,hr,⟨i,k,a1,a2.to,a3⟩⟩
 ·obtain ⟨g,ci,cl,h1,h2⟩:=Pg.nws i y hy hz
  obtain ⟨m,hm,h3⟩:=ih1 _ g h1
  exact ⟨m,g,ci,cl,h3.to,hr.mono hm,h2⟩
 ·obtain ⟨g,fd,ps,ci,cl,h1,h2,h3⟩:=Pg.nds i y hy hz
  exact ⟨lv,g,fd,ps,ci,cl,h1.to,h2,hr.mono (by omega),h3⟩
 ·obtain ⟨k,ci,fI,fd,ps,Bx,nwI,iniI,bmB,h1,h2,h3,h4,h5⟩:=Pg.rs i y hy hz
  exact ⟨lv,k,ci,fI,fd,ps,Bx,nwI,iniI,bmB,h1,h2,h3.to,h4,hr.mono (by omega),h5⟩
theorem nA (Pg:tK T X ad lv) {j:Nat} {f:Δ} (h:ad[j]? = some f) {cal:Nat→List D→List O→Res} (no:∀ ds st,cal j ds st = .bad) (m:Nat):bX X cal m j f:=by
 obtain ⟨x,qual,st,fd,fn,mu,al,fc,oc,Fu,b,_⟩:=Pg.fns j f h
 exact ⟨fd,_,_,⟨fun ds st nb=>ZX (no ds st) nb,fun A fr z args us ds _ _ _ _ nb=>ZX (no ds _) nb⟩,b,Fu.kp⟩
theorem jO (Pg:tK T X ad lv):∀ (n j:Nat) (f:Δ),ad[j]? = some f→bX X (ae X.Γ n) (lv+1+n) j f
 | 0,j,f,h=>nA Pg h (fun _ _=>rfl) _
 | n+1,j,f,h=>pW Pg n (jO Pg n) (fun i g hg=>by
   match n with
   | 0=>exact ⟨0,by omega,nA Pg hg (fun _ _=>rfl) _⟩
   | n'+1=>exact ⟨lv+1+n',by omega,jO Pg n' i g hg⟩) h
end
theorem k7 {vs:List ζ} {ns:List Int} (h:C9 vs ns):RDs W ρ G (ns.map D.int) vs:=by
 induction h with
 | nil=>exact rfl
 | cons n t h ih=>exact .cons ⟨t,rfl⟩ ih
theorem rD {X:Cx} {Γ:Gm} {n j k:Nat} {fa a:Δ} {s₁:π} {vs:List ζ} {ns:List Int} (md:Mod X.K X.mg X.base) (hb:X.base=s₁.heap) (os:X.os=s₁.os) (hc:X.calm=true) (hg:s₁.gens = #[])
 (ha:s₁.heap.get? a=some { cls:=.type "list",data:=.seq vs.toArray }) (hi:C9 vs ns) (hl:ns.length≤ϛ) (hr:ba k ř)
 (F:bX X (ae Γ n) k j fa) (hlaw:∃ st',ae Γ n j [.lst (ns.map .int)] [] = .ok (.bl true) st') :
 Ŀ X.M ř (.call (.ref fa) ⟨[.ref a],[]⟩) (fun r s'=>r = .ok (.ret (.bool true))∧OldK s₁.heap s'.heap∧s'.os=s₁.os∧Ŝ s'.gens) s₁:=by
 obtain ⟨st',e⟩:=hlaw
 obtain ⟨fd,ps,dvs,F,hbd,_⟩:=F
 have hp:=F.len [.lst (ns.map .int)] [] (by rw [e];exact fun z=>nomatch z)
 have nm:∀ {b},¬ Mu ([]:Rs) b:=fun ⟨p,m,_⟩=>nomatch m
 have I:HR { X with A:=ř,fr:=[] } ⟨[],s₁.heap.get?,⟨[],[],[]⟩,[],s₁⟩:=⟨md,rfl,fun _=>hr.hd,(fun b o e=>by rw [hb] at e;exact e),.refl _,rfl,(fun i j p q b h=>by simp at h),fun b m=>(nm m).elim,(fun n o p h=>by simp at h),trivial,(fun b m=>nomatch m),(by show Ŝ s₁.gens;rw [hg];exact fun g h=>by simp at h),os.symm⟩
 refine ì (F.run ř [] ⟨[],s₁.heap.get?,⟨[],[],[]⟩,[],s₁⟩ ⟨[.ref a],[]⟩ [.ref a] [.lst (ns.map .int)] hr I (hbd s₁ [.ref a] (hb ▸ md.kin) (by rw [φ];exact hp)) (.cons ⟨a,_,vs,rfl,ha,⟨⟨_,rfl⟩,by rw [hi.length];exact hl⟩,k7 hi⟩ rfl) (by rw [e];exact fun z=>nomatch z)) fun r s' hq=>?_
 rw [e] at hq
 cases r with
 | error u=>obtain ⟨_,_,_,_,z,_⟩:=hq;cases z
 | ok fl=>cases fl with
   | ret u=>
     obtain ⟨z',d,q1,q2,S,H,rd⟩:=hq
     subst q1
     cases q2
     cases (show u=Ϫ true from rd)
     have keep:∀ b o,s₁.heap.get? b=some o→z'.s.heap.get? b=some o:=fun b o e=>S.sm b o e nm (fun z=>z) (fun m=>nomatch m)
     exact ⟨rfl,OldK.of_keep keep,H.os.trans os,H.br⟩
   | _=>exact hq.elim
theorem vH {l:ET} {n k lv:Nat} {q:ϸ} {loose:List ι} {XP:(ι→Option ζ)→Ϸ→Prop} {YP:Ü→Ϸ→Prop} {d:DefRec} {K:Params→υ} {j:Nat} {Γ:Gm}
 (hn:l.most=some n) (hn2:n≤ϛ) (hdf:d.params.defaults = []) (hr:ba lv ř) (hY:∀ (w:Ü) (h:Ϸ),YP w h→(K w.params).In h)
 (F:∀ (w:Ü) (mg:ι→Option ζ) (fa:Δ) (h:Ϸ) (os:F5),(K w.params).In h→h.Ns ώ mg→mg d.name=some (.ref fa)→Mod (K w.params) mg h →
  ∃ X:Cx,X.W.P=l.prog∧X.W.w=w∧X.K=K w.params∧X.mg=mg∧X.base=h∧X.os=os∧X.calm=true∧bX X (ae Γ k) lv j fa)
 (hlaw:∀ ns:List Int,ns.length≤n→∃ st',ae Γ k j [.lst (ns.map .int)] [] = .ok (.bl true) st'):Fi q loose XP YP l.row.toRowW d [] (fun f vs=>EC f vs):=by
 refine Att.attach_call hn hdf fun w s₀ s₁ mg mb fa o pm cd doc a vs ns G Y ho hd hcd hmg hobj hints hlen hg=>?_
 have KX:=hY w _ Y
 have md:Mod (K w.params) mg s₁.heap:=⟨KX,G.T.g,⟨mb,G.T.b,G.T.builtins⟩,G.T.nolimit⟩
 obtain ⟨X,e1,e2,e3,e4,e5,e6,e7,hF⟩:=F w mg fa s₁.heap s₁.os KX G.T.g hmg md
 have:=rD (X:=X) (by rw [e3,e4,e5];exact md) e5 e6 e7 hg hobj hints (ϖ hlen hn2) hr hF (hlaw ns hlen)
 rw [show X.M=model l.prog w by show model X.W.P X.W.w=_;rw [e1,e2]] at this
 exact this
def FnF (T:Ns) (K:υ) (Γ:Gm) (j:Nat) (f:Δ):Prop:=∃ x qual st fd fn mu al fc oc,lR K x qual st f fd∧bS K fd (bz st) (dfU (dfT { T with mu:=mu,alt:=al,fc:=fc,oc:=oc } st))∧dg (kP st) (bz st) (aw st)∧Γ.fn[j]? = some fn∧fO { T with mu:=mu,alt:=al,fc:=fc,oc:=oc } st=some fn
theorem gA:∀ {ps:List ι} {us:List ζ},ps.Nodup→us.length=ps.length→ps.filterMap (fun n=>((ps.zip us).lookup n).map (n,·))=ps.zip us
 | [],[],_,_=>rfl
 | p :: ps,u :: us,nd,hl=>by
   have ih:=gA (Ϟ.mp nd).2 (by simpa using hl)
   rw [ύ]
   simp only [ß,Ğ,ZT,Option.map_some]
   congr 1
   have:∀ l:List ι,(∀ n∈l,n∈ps)→l.filterMap (fun n=>((match n == p with | true=>some u | false=>(ps.zip us).lookup n).map fun x=>(n,x)))=l.filterMap fun n=>((ps.zip us).lookup n).map fun x=>(n,x):=fun l=>by
    induction l with
    | nil=>intro _;rfl
    | cons n l ih=>
      intro h
      have q:(n == p)=false:=ZU.mpr fun e=>(Ϟ.mp nd).1 (e ▸ h n ν)
      rw [ύ,ύ,ih fun m hm=>h m (μ _ hm),q]
   exact (this ps fun _ h=>h).trans ih
 | [],_ :: _,_,hl=>by simp at hl
 | _ :: _,[],_,hl=>by simp at hl
theorem iL:∀ {ps:List ι} {us:List ζ},us.length=ps.length→(ps.filter fun n=>((ps.zip us).lookup n).isNone) = []:=by
 intro ps us hl
 rw [Ē]
 intro n hn
 have:((ps.zip us).lookup n).isSome=true:=by
  induction ps generalizing us with
  | nil=>cases hn
  | cons p ps ih=>
    cases us with
    | nil=>simp at hl
    | cons u us=>
      rw [ß,Ğ]
      cases e:n == p with
      | true=>rfl
      | false=>
        rcases ξ.mp hn with q | q
        ·subst q;simp at e
        ·exact ih (by simpa using hl) q
 cases e:(ps.zip us).lookup n with
 | none=>rw [e] at this;cases this
 | some v=>simp
theorem fL {p:DM} {x q:ι} {body:List Ô} {sc:Ĝ} {kV doc pm cd ct:ζ} {an:Option Δ} {us:List ζ} (h1:p.posonlyargs = []) (h2:p.kwonlyargs = []) (h3:p.vararg=none) (h4:p.kwarg=none) (nd:(p.args.map (·.arg)).Nodup) (hl:us.length=(p.args.map (·.arg)).length) :
 bindArgs (ϵ x q p body sc .none kV doc pm an cd ct) ⟨us,[]⟩=pure ((p.args.map (·.arg)).zip us):=by
 have e1:=iL hl
 have e2:=gA nd hl
 obtain ⟨a1,a2,a3,a4,a5,a6,a7⟩:=p
 cases h1;cases h2;cases h3;cases h4
 refine Eq.trans (ZY (c:=((decide (us.length>(a2.map (·.arg)).length)) && true)=true) ?_) ?_
 ·rw [hl];simp
 refine Eq.trans (ZY ?_) ?_
 ·show ¬ (!((a2.map (·.arg)).take ((a2.map (·.arg)).length - (List.drop (0 - (a2.map (·.arg)).length) ([]:List ζ)).length) |>.filter fun n=>(((a2.map (·.arg)).zip us).lookup n).isNone).isEmpty)=true
  rw [G6,ϯ,GG,ŏ,e1];exact fun h=>nomatch h
 have e3:∀ n:Nat,List.drop n ([]:List ζ) = []:=fun _=>G6
 show (forIn ((List.drop ((List.map DE a2).length - (List.drop (0 - (List.map DE a2).length) ([]:List ζ)).length) (List.map DE a2)).zip (List.drop (0 - (List.map DE a2).length) ([]:List ζ))) _ _ >>= _)=_
 rw [e3,ı]
 show (pure ((List.map DE a2 ++ []).filterMap fun n=>(((List.map DE a2).zip us).lookup n).map (n,·)):EB _)=_
 rw [ϧ]
 exact ZS pure e2
theorem c9 {α β:Type}:∀ {qs:List α} {us:List β} {x:α} {v:β},us.length=qs.length→(qs ++ [x]).zip (us ++ [v])=qs.zip us ++ [(x,v)]
 | [],[],_,_,_=>rfl
 | _ :: _,_ :: _,_,_,h=>by rw [CZ,CZ,ß,c9 (by simpa using h)];rfl
 | [],_ :: _,_,_,h=>by simp at h
 | _ :: _,[],_,_,h=>by simp at h
theorem lO {α β:Type}:∀ {qs:List α} {us:List β} {x:α},us.length=qs.length→(qs ++ [x]).zip us=qs.zip us
 | [],[],_,_=>rfl
 | _ :: _,_ :: _,_,h=>by rw [CZ,ß,lO (by simpa using h)];rfl
 | [],_ :: _,_,h=>by simp at h
 | _ :: _,[],_,h=>by simp at h
theorem rQ {qs:List ι} {us:List ζ} {x:ι} (h:x ∉ qs):((qs.zip us).lookup x)=none:=by
 induction qs generalizing us with
 | nil=>rfl
 | cons q r ih=>
   cases us with
   | nil=>rfl
   | cons u us=>
     rw [ß,Ğ]
     have:(x == q)=false:=ZU.mpr fun e=>h (e ▸ ν)
     rw [this];exact ih fun m=>h (μ _ m)
theorem tW {s:π} {p:DM} {x q:ι} {body:List Ô} {sc:Ĝ} {kV doc pm cd ct:ζ} {an:Option Δ} {us:List ζ} {T:Δ} {o:DQ} {b:Bool} {n:Nat} (h1:p.posonlyargs = []) (h2:p.kwonlyargs = []) (h3:p.vararg=none) (h4:p.kwarg=none) (nd:(p.args.map (·.arg)).Nodup) (ho:s.heap.get? T=some o) (hd:o.data = .seq #[.bool b] n) (hn:p.args≠[]) (ds:List ζ) (hds:ds = []∨ds = [.bool b]) (hl:(us ++ ds).length=(p.args.map (·.arg)).length) :
 Gs s (ϵ x q p body sc (.ref T) kV doc pm an cd ct) ⟨us,[]⟩ ((p.args.map (·.arg)).zip (us ++ ds)):=by
 obtain ⟨a1,a2,a3,a4,a5,a6,a7⟩:=p
 cases h1;cases h2;cases h3;cases h4
 dsimp only at nd hl hn
 obtain ⟨qa,y,rfl⟩:∃ qa y,a2=qa ++ [y]:=⟨_,_,(Ĭ hn).symm⟩
 rw [ç] at nd hl
 have nd2:=é.mp nd
 have yq:y.arg ∉ qa.map (·.arg):=fun m=>nd2.2.2 _ m _ (by simp) rfl
 refine BindsTo.of_defaults (T:=T) (items:=#[.bool b]) (n:=n) (o:=o) rfl ho hd rfl ?_
 obtain ⟨Q,hQ⟩:∃ Q,List.map (fun x:Arg=>x.arg) qa=Q:=⟨_,rfl⟩
 rw [hQ] at hl yq
 have lq:(List.map (fun x:Arg=>x.arg) (qa ++ [y]))=Q ++ [y.arg]:=by rw [ç,hQ];rfl
 have hl:us.length+ds.length=Q.length+1:=by simpa using hl
 dsimp only
 rw [lq]
 have d1:ds.length≤1:=by rcases hds with rfl | rfl <;> simp
 obtain ⟨vs,r,lv,sl,tg⟩:∃ (vs:List ζ) (r:List (ι×ζ)),vs.length=Q.length∧(Q ++ [y.arg]).zip us=Q.zip vs ++ r∧((r = []∧(Q ++ [y.arg]).zip (us ++ ds)=Q.zip vs ++ [(y.arg,.bool b)])∨∃ v,r = [(y.arg,v)]∧(Q ++ [y.arg]).zip (us ++ ds)=Q.zip vs ++ [(y.arg,v)]):=by
  rcases hds with rfl | rfl
  ·have hne:us≠[]:=by rintro rfl;simp at hl
   obtain ⟨vs,v,rfl⟩:∃ vs v,us=vs ++ [v]:=⟨_,_,(Ĭ hne).symm⟩
   have lv:vs.length=Q.length:=by simpa using hl
   exact ⟨vs,[(y.arg,v)],lv,c9 lv,.inr ⟨v,rfl,by rw [ϧ];exact c9 lv⟩⟩
  ·have lv:us.length=Q.length:=by simpa using hl
   exact ⟨us,[],lv,by rw [ϧ];exact lO lv,.inl ⟨rfl,c9 lv⟩⟩
 have tk:(Q ++ [y.arg]).take Q.length=Q:=by rw [List.take_append_of_le_length (ω _),ŏ]
 have dr:(Q ++ [y.arg]).drop Q.length = [y.arg]:=by rw [List.drop_append_of_le_length (ω _),Ő];rfl
 have full:∀ (z:List ζ) ,z.length=Q.length→∀ r,((Q.filter fun n=>((Q.zip z ++ r).lookup n).isNone)) = []:=fun z hz r=>by
  rw [Ē]
  intro n hn
  have e:=iL (ps:=Q) (us:=z) hz
  rw [Ē] at e
  have e:=e n hn
  cases q:(Q.zip z).lookup n with
  | none=>rw [q] at e;exact ZX rfl e
  | some v=>rw [EW,q];simp
 have e0:List.drop (1 - (Q.length+1)) [Ϫ b] = [Ϫ b]:=by rw [show 1 - (Q.length+1)=0 by omega];rfl
 refine Eq.trans (ZY ?_) ?_
 ·simp;omega
 have em:((some #[Ϫ b]).getD #[]).toList = [Ϫ b]:=rfl
 have ln:(List.map (fun x:Arg=>x.arg) ([]:List Arg) ++ (Q ++ [y.arg]))=Q ++ [y.arg]:=rfl
 rw [em,ln,φ,ϋ,ϋ,e0,ϋ,Nat.add_sub_cancel,tk,dr,sl]
 refine Eq.trans (ZY ?_) ?_
 ·rw [full vs lv r];exact fun h=>nomatch h
 rw [ß,ı]
 have lk:∀ w:ζ,(Q ++ [y.arg]).filterMap (fun n=>((Q.zip vs ++ [(y.arg,w)]).lookup n).map (n,·))=Q.zip vs ++ [(y.arg,w)]:=fun w=>by
  have e:=gA (ps:=Q ++ [y.arg]) (us:=vs ++ [w]) (by rw [← hQ];exact nd) (by simp [lv])
  rwa [c9 lv] at e
 have out:=rQ (us:=vs) yq
 have fin:∀ w r,(if (Em y.arg (Q.zip vs ++ r)).isNone=true then pure (ϫ (Q.zip vs ++ r ++ [(y.arg,Ϫ b)])) else pure (ϫ (Q.zip vs ++ r)):EB (ForInStep (List (ι×ζ))))=pure (ϫ (Q.zip vs ++ [(y.arg,w)]))→(forIn [(y.arg,Ϫ b)] (Q.zip vs ++ r) (fun x s=>if (Em x.fst s).isNone=true then pure (ϫ (s ++ [(x.fst,x.snd)])) else pure (ϫ s)):EB _)=pure (Q.zip vs ++ [(y.arg,w)]):=fun w r h=>by
  show ((if (Em y.arg (Q.zip vs ++ r)).isNone=true then pure (ϫ (Q.zip vs ++ r ++ [(y.arg,Ϫ b)])) else pure (ϫ (Q.zip vs ++ r)):EB (ForInStep (List (ι×ζ)))) >>= _)=_
  rw [h];rfl
 rcases tg with ⟨rfl,e⟩ | ⟨v,rfl,e⟩
 ·rw [e,fin (.bool b) [] (by rw [ϧ,out];rfl)]
  show (pure (FK _ (Q ++ [y.arg] ++ [])):EB _)=_
  rw [ϧ];exact ZS pure (lk _)
 ·rw [e,fin v [(y.arg,v)] (by rw [EW,out];simp)]
  show (pure (FK _ (Q ++ [y.arg] ++ [])):EB _)=_
  rw [ϧ];exact ZS pure (lk _)
def fnC (st:Ô):Bool:=(aJ st).posonlyargs.isEmpty && (aJ st).kwonlyargs.isEmpty && (aJ st).vararg.isNone && (aJ st).kwarg.isNone && (match (aw st).kind with | .function=>true | _=>false) && !(aw st).isCoroutine && !(aw st).isGenerator && ((dfB st).isNone || !(aJ st).args.isEmpty) &&
 decide ((kP st).Nodup∧(kP st).take (bz st).length=bz st∧(∀ x∈bz st,(aw st).names.lookup x=some .local∨(aw st).names.lookup x=some .cell)∧∀ y∈(aw st).names,y.2≠.free)
theorem qV {st:Ô} (h:fnC st=true):dg (kP st) (bz st) (aw st)∧(∀ {K:υ} {x q:ι} {f:Δ} {fd:Þ},Fun K x q st f fd→bS K fd (bz st) [])∧∀ {K:υ} {x q:ι} {f:Δ} {fd:Þ} (T:Ns),lR K x q st f fd→bS K fd (bz st) (dfU (dfT T st)):=by
 unfold fnC at h
 simp only [Χ,decide_eq_true_eq,ł,List.isEmpty_iff,Option.isNone_iff_eq_none] at h
 obtain ⟨⟨⟨⟨⟨⟨⟨⟨h1,h2⟩,h3⟩,h4⟩,h5⟩,h6⟩,h7⟩,hna⟩,h8,h9,h10,h11⟩:=h
 have nd:(bz st).Nodup:=h9 ▸ h8.sublist (F6 _ _)
 refine ⟨⟨(by split at h5 <;> first | assumption | cases h5),h6,h7,h8,h9,h10,h11⟩,fun F=>F.binds fun _ _ _ _ _ _ us hl=>fL h1 h2 h3 h4 nd hl,fun T F=>?_⟩
 obtain ⟨oc,od,dV,kV,doc,pm,an,cdv,ct,osl,rfl,lk,hcd,dv⟩:=F.ex
 unfold dfT
 cases q:dfB st with
 | none=>
   rw [q] at dv
   cases (show dV = .none from dv)
   rw [show (if T.mu.contains "#d" = true then (none:Option Bool) else none)=none by split <;> rfl]
   exact .all fun us hl=>fL h1 h2 h3 h4 nd hl
 | some b=>
   rw [q] at dv
   obtain ⟨t,o,n,rfl,d1,d2⟩:=dv
   have na:(aJ st).args≠[]:=fun e=>by rw [q,e] at hna;exact nomatch hna
   intro s us hK hl
   exact tW h1 h2 h3 h4 nd (hK _ _ d1) d2 na _ (by split <;> first | exact .inl rfl | exact .inr rfl) hl
def cT (T:Ns) (st:Ô):Fn:=(fO T st).getD ⟨0,0,.skip,[]⟩
def FsL (K:υ):List (ι×ι×Ô)→List Δ→Prop
 | [],[]=>True
 | p :: r,f :: fs=>(∃ fd,lR K p.1 p.2.1 p.2.2 f fd)∧FsL K r fs
 | _,_=>False
theorem FsL.app {K:υ}:∀ {l l' fs fs'},FsL K l fs→FsL K l' fs'→FsL K (l ++ l') (fs ++ fs')
 | [],_,[],_,_,h=>h
 | _ :: _,_,_ :: _,_,h,t=>⟨h.1,FsL.app h.2 t⟩
 | [],_,_ :: _,_,h,_=>h.elim
 | _ :: _,_,[],_,h,_=>h.elim
theorem FsL.len {K:υ}:∀ {l fs},FsL K l fs→fs.length=l.length
 | [],[],_=>rfl
 | _ :: _,_ :: _,h=>ZS (· + 1) h.2.len
 | [],_ :: _,h=>h.elim
 | _ :: _,[],h=>h.elim
theorem FsL.at {K:υ}:∀ {l fs} {j:Nat} {f:Δ},FsL K l fs→fs[j]? = some f→∃ p fd,l[j]? = some p∧lR K p.1 p.2.1 p.2.2 f fd
 | [],[],j,f,_,e=>by simp at e
 | p :: l,g :: fs,0,f,h,e=>by simp at e;subst e;obtain ⟨fd,F⟩:=h.1;exact ⟨p,fd,rfl,F⟩
 | p :: l,g :: fs,j+1,f,h,e=>FsL.at (j:=j) h.2 (by simpa using e)
 | [],_ :: _,_,_,h,_=>h.elim
 | _ :: _,[],_,_,h,_=>h.elim
theorem xq {T:Ns} {ad:List Δ} {K:υ} {Γ:Gm} {l:List (ι×ι×Ô)} {vs:List (List ι×List (ι×Nat)×List ι×List ι)} (hl:l.length=vs.length) (hΓ:Γ.fn=(l.zip vs).map fun p=>cT { T with mu:=p.2.1,alt:=p.2.2.1,fc:=p.2.2.2.1,oc:=p.2.2.2.2 } p.1.2.2) (hc:((l.zip vs).all fun p=>fnC p.1.2.2 && (fO { T with mu:=p.2.1,alt:=p.2.2.1,fc:=p.2.2.2.1,oc:=p.2.2.2.2 } p.1.2.2).isSome)=true) (h:FsL K l ad) {j:Nat} {f:Δ} (e:ad[j]? = some f):FnF T K Γ j f:=by
 obtain ⟨p,fd,e1,F⟩:=h.at e
 have hj:j<vs.length:=hl ▸ (τ.mp e1).1
 have e2:(l.zip vs)[j]? = some (p,vs[j]):=å.mpr ⟨e1,Α hj⟩
 have c:=ϣ.mp hc _ (Ε e2)
 rw [Χ] at c
 obtain ⟨S,_,B⟩:=qV c.1
 refine ⟨_,_,_,fd,cT { T with mu:=vs[j].1,alt:=vs[j].2.1,fc:=vs[j].2.2.1,oc:=vs[j].2.2.2 } p.2.2,vs[j].1,vs[j].2.1,vs[j].2.2.1,vs[j].2.2.2,F,B _ F,S,by rw [hΓ,Φ,e2];rfl,?_⟩
 cases q:fO { T with mu:=vs[j].1,alt:=vs[j].2.1,fc:=vs[j].2.2.1,oc:=vs[j].2.2.2 } p.2.2 with
 | none=>have:=c.2;dsimp only at this;rw [q] at this;exact nomatch this
 | some g=>unfold cT;rw [q];rfl
theorem _root_.L2.Fun.d {K:υ} {x q:ι} {st:Ô} {f:Δ} {fd:Þ} (F:Fun K x q st f fd) (h:dfB st=none):lR K x q st f fd:=by
 obtain ⟨oc,od,kV,doc,pm,an,cdv,ct,osl,e,lk,hcd⟩:=F.ex
 exact ⟨⟨oc,od,.none,kV,doc,pm,an,cdv,ct,osl,e,lk,hcd,by rw [h];rfl⟩,F.kp⟩
def dJ (K:υ):List (ι×Ô)→Prop
 | []=>True
 | p :: r=>(∃ f fd,lR K p.1 p.1 p.2 f fd∧Ϗ K ώ p.1=some (some (.ref f)))∧dJ K r
theorem hl_cons {K:υ} {x:ι} {st:Ô} {f:Δ} {od an:Option Δ} {sl:Array (Option ζ)} {oc kV dc pm cd ct:ζ} (a:Ϗ K ώ x=some (some (.ref f)))
 (l:K.lookup f=some ⟨oc,od,.func (ϵ x x (aJ st) (bF st) (aw st) .none kV dc pm an cd ct),sl⟩) (c:Ý K cd x=true) (k:ϕ K (.ref f)=true) (d:dfB st=none) (t:dJ K r):dJ K ((x,st) :: r):=⟨⟨f,_,(mh l c k).d d,a⟩,t⟩
theorem hl_consD {K:υ} {x:ι} {st:Ô} {f dt:Δ} {od an od2:Option Δ} {sl sl2:Array (Option ζ)} {oc kV dc pm cd ct oc2:ζ} {b:Bool} {n:Nat} (a:Ϗ K ώ x=some (some (.ref f)))
 (l:K.lookup f=some ⟨oc,od,.func (ϵ x x (aJ st) (bF st) (aw st) (.ref dt) kV dc pm an cd ct),sl⟩) (c:Ý K cd x=true) (k:ϕ K (.ref f)=true) (g:K.lookup dt=some ⟨oc2,od2,.seq #[.bool b] n,sl2⟩) (d:dfB st=some b) (t:dJ K r):dJ K ((x,st) :: r):=⟨⟨f,_,⟨⟨oc,od,.ref dt,kV,dc,pm,an,cd,ct,sl,rfl,l,c,by rw [d];exact ⟨dt,_,n,rfl,g,rfl⟩⟩,k⟩,a⟩,t⟩
def wH (mg:ι→Option ζ):List ι→List Δ→Prop
 | [],_=>True
 | x :: xs,f :: fs=>mg x=some (.ref f)∧wH mg xs fs
 | _ :: _,[]=>False
theorem dJ.ad {K:υ} {h:Ϸ} {mg:ι→Option ζ} (Y:K.In h) (G:h.Ns ώ mg):∀ {l},dJ K l→∃ ad,FsL K (l.map fun p=>(p.1,p.1,p.2)) ad∧wH mg (l.map (·.1)) ad
 | [],_=>⟨[],trivial,trivial⟩
 | _ :: _,⟨⟨f,fd,F,n⟩,t⟩=>let ⟨ad,h1,h2⟩:=dJ.ad Y G t;⟨f :: ad,⟨⟨fd,F⟩,h1⟩,Ù Y G n,h2⟩
theorem bY {ad ms:List Δ} (h:ad.length=n):(ad ++ ms)[n+k]? = ms[k]?:=by rw [Ρ (by omega)];congr 1;omega
theorem qu :∀ {xs} {fs} {j:Nat} {x:ι},wH mg xs fs→xs[j]? = some x→∃ f,fs[j]? = some f∧mg x=some (.ref f)
 | [],_,_,_,_,e=>by simp at e
 | y :: xs,f :: fs,0,x,h,e=>by simp at e;subst e;exact ⟨f,rfl,h.1⟩
 | y :: xs,f :: fs,j+1,x,h,e=>by
   obtain ⟨g,h1,h2⟩:=qu (j:=j) h.2 (by simpa using e)
   exact ⟨g,by simpa using h1,h2⟩
 | _ :: _,[],_,_,h,_=>h.elim
def e9 {α:Type} (P:Nat→α→Prop):Nat→List α→Prop
 | _,[]=>True
 | j,x :: r=>P j x∧e9 P (j+1) r
theorem vM :∀ {l:List α} {j i} {x:α},e9 P j l→l[i]? = some x→P (j+i) x
 | [],_,i,_,_,e=>by simp at e
 | g :: r,j,0,f,h,e=>by simp at e;subst e;exact h.1
 | g :: r,j,i+1,f,h,e=>by
   have:=vM (i:=i) h.2 (by simpa using e)
   rw [show j+(i+1)=j+1+i by omega];exact this
theorem dL (h:e9 P 0 l) (e:l[i]? = some x):P i x:=by
 have:=vM h e
 rwa [Eh] at this
def dK (K:υ) (C:Δ) (m qn:ι) (st:Ô) (f:Δ):Prop:=(∃ fd,Fun K m qn st f fd)∧zA K C m f
theorem me_mk {K:υ} {C f:Δ} {m qn:ι} {st:Ô} {od an:Option Δ} {sl:Array (Option ζ)} {oc kV dc pm cd ct:ζ} (at_:Ν K (.ref C) m=some (some (.ref f))) (l:K.lookup f=some ⟨oc,od,.func (ϵ m qn (aJ st) (bF st) (aw st) .none kV dc pm an cd ct),sl⟩) (fn:PySem.W.isFn K (.ref f)=true) (c:Ý K cd qn=true) (k:ϕ K (.ref f)=true):dK K C m qn st f:=⟨⟨_,mh l c k⟩,at_,fn,k⟩
structure qm (K:υ) (x:ι) (C:Δ):Prop where
 a:Ϗ K ώ x=some (some (.ref C))
 cls:Cls K C
 mks:ō K C=true
 kp:ϕ K (.ref C)=true
theorem cc_mk {K:υ} (a:Ϗ K ώ x=some (some (.ref C))) (pg:Ė K C ģ=true) (hd:ϰ K C=true) (po:Ź K C=true) (sa:Ν K (.ref C) "__setattr__" = some (some (.builtin "object.__setattr__"))) (mk:ō K C=true) (kp:ϕ K (.ref C)=true):qm K x C:=⟨a,⟨pg,hd,po,sa⟩,mk,kp⟩
structure zH (K:υ) (x qn:ι) (st:Ô) (bmB:List ζ) (nw:String) (C fI:Δ):Prop where
 a:Ϗ K ώ x=some (some (.ref C))
 own:gY K C fI bmB nw
 ini:∃ fd,Fun K "__init__" qn st fI fd
 st:fJ K C
 fd:dF K C
 hh:ϰ K C=true
 ec:mX K C
 kp:ϕ K (.ref C)=true
 me:ϥ K C (.ref C)=some true
theorem xc_mk {K:υ} {x qn:ι} {st:Ô} {bmB:List ζ} {nw:String} {C fI:Δ} {nm q:ι} {N:Δ} {bs bm:List ζ} {hdct:Bool} {sn:List ι} {sub:List ζ} {ab:Bool} {col:Option Bool} {dd:Option Δ} {k0 k1 k2 k3 k5:Option ζ} {od an:Option Δ} {sl:Array (Option ζ)} {oc kV dc pm cd ct:ζ}
 (a:Ϗ K ώ x=some (some (.ref C))) (l:K.lookup C=some (Fs nm q C N bs bm hdct sn sub ab col dd k0 k1 k2 k3 k5 nw)) (t:F3 K bmB bm=true) (ini:Ν K (.ref C) "__init__" = some (some (.ref fI))) (fl:K.lookup fI=some ⟨oc,od,.func (ϵ "__init__" qn (aJ st) (bF st) (aw st) .none kV dc pm an cd ct),sl⟩) (fn:PySem.W.isFn K (.ref fI)=true) (fc:Ý K cd qn=true) (fk:ϕ K (.ref fI)=true)
 (ga:Ν K (.ref C) "__getattribute__" = some (some (.builtin "BaseException.__getattribute__"))) (gn:Ν K (.ref C) "__getattr__" = some none) (cl:Ν K (.ref C) "__class__" = some (some (.builtin "object.__class__"))) (sg:İ K (.builtin "object.__class__") "__get__" = some (some (.builtin "getset_descriptor.__get__"))) (tk:CM K (.builtin "object.__class__")=some true) (ob:ϥ K C (.type "object")=some true) (be:ϥ K C (.type "BaseException")=some true)
 (is:(Ĺ K C).isSome=true) (kp:ϕ K (.ref C)=true) (tyC:þ K (.ref C)=some (.type "type")) (sa:Ν K (.ref C) "__setattr__" = some (some (.builtin "object.__setattr__"))) (ov:((Ĺ K C).any fun cd=>gI veB cd.mro || gI exB cd.mro)=true) (hdc:((Ĺ K C).any fun cd=>cd.hasDict)=true) (hh:ϰ K C=true) (me:ϥ K C (.ref C)=some true):zH K x qn st bmB nw C fI:=
 ⟨a,⟨⟨nm,q,N,bs,bm,hdct,sn,sub,ab,col,dd,k0,k1,k2,k3,k5,l,t⟩,ini,fn⟩,⟨_,mh fl fc fk⟩,⟨sa,ov,hdc,ob⟩,⟨ga,gn,cl,sg,tk,ob,be,is⟩,hh,⟨tyC,is,be⟩,kp,me⟩
def jsC (N:List ι) (nm:List (ι×Ζ)) (ck:List Nat):(es:List Μ)→Option (PLift (∀ X:Cx,X.N=N→X.env.scope.names=nm→JsP X ck es))
 | []=>some ⟨fun _ _ _=>.nil⟩
 | .Constant (.str x) _ _ :: r=>match h:decide (x.length≤1000) with
   | true=>(jsC N nm ck r).map fun ih=>⟨fun X hN hs=>.c (of_decide_eq_true h) (ih.down X hN hs)⟩
   | false=>none
 | .FormattedValue (.Name x _) (.negSucc 0) none _ :: r=>match h:(ck.any fun i=>decide (N[i+1]? = some x)) && cu nm x && !((x == ("__debug__":ι)) || (x == ("__classdict__":ι))) with
   | true=>(jsC N nm ck r).map fun ih=>⟨fun X hN hs=>by
     simp only [Χ,Ą,decide_eq_true_eq,ł] at h
     obtain ⟨⟨⟨i,h1,h2⟩,h3⟩,h4⟩:=h
     exact .f h1 (hN ▸ h2) (aY hs h3) h4 (ih.down X hN hs)⟩
   | false=>none
 | _=>none
def bsP (bs:Option (ι×List Nat)):Option {q:ι×List Nat // bs=some q}:=match bs with
 | some q=>some ⟨q,rfl⟩
 | none=>none
def xA (N:List ι) (nm:List (ι×Ζ)) (bs:Option (ι×List Nat)):(b:List Ô)→(l:List (ι×Nat))→Option (PLift (∀ X:Cx,X.N=N→X.env.scope.names=nm→(∀ b c,bs=some (b,c)→∃ B,X.mg b=some (.ref B)∧ql X.K B)→j4 X (bs.map (·.2)) b l))
 | [],[]=>some ⟨fun _ _ _ _=>.nil⟩
 | .Assign [.Attribute (.Name s0 _) f _] (.Name x _) _ :: r,(g,i) :: l=>match h:decide (f=g∧N[0]? = some s0∧N[i]? = some x) && cu nm s0 && cu nm x && !((s0 == ("__debug__":ι)) || (s0 == ("__classdict__":ι)) || (x == ("__debug__":ι)) || (x == ("__classdict__":ι))) with
   | true=>(xA N nm bs r l).map fun ih=>⟨fun X hN hs hB=>by
     simp only [Χ,decide_eq_true_eq,ł] at h
     obtain ⟨⟨⟨⟨rfl,h1,h2⟩,h3⟩,h4⟩,h5⟩:=h
     exact .cons (hN ▸ h1) (hN ▸ h2) (aY hs h3) (aY hs h4) h5 (ih.down X hN hs hB)⟩
   | false=>none
 | .Expr (.Call (.Attribute (.Name Bn _) m ap) [.Name s0 _,.JoinedStr (e1 :: e2 :: es) _] [] cp) _ :: r,l=>(bsP bs).bind fun q=>match h:decide (Bn=q.1.1∧m = "__init__"∧N[0]? = some s0∧es.length≤50) && cu nm s0 && bL nm Bn && !((s0 == ("__debug__":ι)) || (s0 == ("__classdict__":ι)) || (Bn == ("__debug__":ι))) && (ap.endLine == cp.line) with
   | true=>(jsC N nm q.1.2 (e1 :: e2 :: es)).bind fun js=>(xA N nm bs r l).map fun ih=>⟨fun X hN hs hB=>by
     obtain ⟨⟨b,ck⟩,hb⟩:=q
     subst hb
     simp only [Χ,decide_eq_true_eq,ł] at h
     obtain ⟨⟨⟨⟨⟨rfl,rfl,h1,h2⟩,h3⟩,h4⟩,h5⟩,h6⟩:=h
     obtain ⟨B,h9,h10⟩:=hB _ _ rfl
     exact .base rfl (hN ▸ h1) (aY hs h3) h5 (bp hs h4) h9 h10 (js.down X hN hs) h2 h6 (ih.down X hN hs hB)⟩
   | false=>none
 | _,_=>none
def dtC (st:Ô) (nm:List ι) (bs:Option (ι×List Nat)):Bool:=fnC st && decide (kP st=bz st∧(bz st).length=nm.length+1∧nm.Nodup∧nm.length<900) && (xA (bz st) (aw st).names bs (bF st) (nm.zip (õ 1 nm.length))).isSome
theorem ji {X:Cx} {x qual:ι} {st:Ô} {f:Δ} {fd:Þ} {nm:List ι} (bs:Option (ι×List Nat)) (F:Fun X.K x qual st f fd) (h:dtC st nm bs=true) (hB:∀ b c,bs=some (b,c)→∃ B,X.mg b=some (.ref B)∧ql X.K B:=by nofun):FnI X 1 f fd (bz st) nm (bs.map (·.2))∧bS X.K fd (bz st) []:=by
 unfold dtC at h
 simp only [Χ,decide_eq_true_eq] at h
 obtain ⟨⟨h1,h2,h3,h4,h5⟩,h6⟩:=h
 obtain ⟨h6,_⟩:=Ľ.mp h6
 obtain ⟨S,B,_⟩:=qV h1
 rw [h2] at S
 refine ⟨?_,B F⟩
 obtain ⟨oc,od,kV,doc,pm,an,cd,ct,osl,rfl,lk,hcd⟩:=F.ex
 exact xn (k:=0) lk hcd S h3 h4 h5 rfl fun A fr L=>h6.down (cxF X X.cal X.cal1 (bz st) qual (aw st) f cd A fr L) rfl rfl hB
structure zG (K:υ) (x:ι) (C:Δ):Prop where
 a:Ϗ K ώ x=some (some (.ref C))
 fd:dF K C
 hh:ϰ K C=true
 ec:mX K C
theorem xb_mk {K:υ} {x:ι} {C:Δ} (a:Ϗ K ώ x=some (some (.ref C))) (ga:Ν K (.ref C) "__getattribute__" = some (some (.builtin "BaseException.__getattribute__"))) (gn:Ν K (.ref C) "__getattr__" = some none) (cl:Ν K (.ref C) "__class__" = some (some (.builtin "object.__class__"))) (sg:İ K (.builtin "object.__class__") "__get__" = some (some (.builtin "getset_descriptor.__get__"))) (tk:CM K (.builtin "object.__class__")=some true) (ob:ϥ K C (.type "object")=some true) (be:ϥ K C (.type "BaseException")=some true)
 (is:(Ĺ K C).isSome=true) (tyC:þ K (.ref C)=some (.type "type")) (hh:ϰ K C=true):zG K x C:=⟨a,⟨ga,gn,cl,sg,tk,ob,be,is⟩,hh,⟨tyC,is,be⟩⟩
def GlL (K:υ):List (ι×L2.Bk.Dk)→Prop
 | []=>True
 | p :: r=>(∃ u,Ϗ K ώ p.1=some (some u)∧aT K p.2 u=true)∧GlL K r
theorem gl_cons {K:υ} (a:Ϗ K ώ x=some (some u)) (b:aT K d u=true) (t:GlL K r):GlL K ((x,d) :: r):=⟨⟨u,a,b⟩,t⟩
theorem GlL.at {K:υ}:∀ {l} {j:Nat} {x:ι},GlL K l→(l.map (·.1))[j]? = some x→∃ d u,(l.map (·.2))[j]? = some d∧Ϗ K ώ x=some (some u)∧aT K d u=true
 | [],_,_,_,e=>by simp at e
 | p :: _,0,_,⟨⟨u,h⟩,_⟩,e=>by simp at e;subst e;exact ⟨_,u,rfl,h⟩
 | _ :: _,j+1,_,h,e=>GlL.at (j:=j) h.2 (by simpa using e)
def lV (K:υ):List (ι×List (ι×L2.Bk.Dk))→Prop
 | []=>True
 | p :: r=>(∃ a,Ϗ K ώ p.1=some (some (.ref a))∧Df (aT K) (fun b=>K.lookup b) a p.2=true)∧lV K r
theorem tb_cons {K:υ} {u:Δ} {d:List (ι×L2.Bk.Dk)} (a:Ϗ K ώ x=some (some (.ref u))) (b:Df (aT K) (fun b=>K.lookup b) u d=true) (t:lV K r):lV K ((x,d) :: r):=⟨⟨u,a,b⟩,t⟩
theorem lV.at {K:υ}:∀ {l} {j:Nat} {x:ι},lV K l→(l.map (·.1))[j]? = some x→∃ t a,(l.map (·.2))[j]? = some t∧Ϗ K ώ x=some (some (.ref a))∧Df (aT K) (fun b=>K.lookup b) a t=true
 | [],_,_,_,e=>by simp at e
 | p :: _,0,_,⟨⟨u,h⟩,_⟩,e=>by simp at e;subst e;exact ⟨_,u,rfl,h⟩
 | _ :: _,j+1,_,h,e=>lV.at (j:=j) h.2 (by simpa using e)
def NoL (K:υ):List ι→Prop
 | []=>True
 | x :: r=>Ϗ K ώ x=some none∧NoL K r
theorem nl_cons {K:υ} (a:Ϗ K ώ x=some none) (t:NoL K r):NoL K (x :: r):=⟨a,t⟩
theorem NoL.at {K:υ}:∀ {l},NoL K l→∀ x∈l,Ϗ K ώ x=some none
 | _ :: _,h,_,m=>(ξ.mp m).elim (fun e=>e ▸ h.1) (h.2.at _)
def NaL (K:υ) (C:Δ):List ι→Prop
 | []=>True
 | x :: r=>Ν K (.ref C) x=some none∧NaL K C r
theorem NaL.at {K:υ}:∀ {l},NaL K C l→∀ x∈l,Ν K (.ref C) x=some none
 | _ :: _,h,_,m=>(ξ.mp m).elim (fun e=>e ▸ h.1) (h.2.at _)
def MrL (K:υ):List (ι×ι×Bool)→Prop
 | []=>True
 | p :: r=>(∃ C D:Δ,Ϗ K ώ p.1=some (some (.ref C))∧Ϗ K ώ p.2.1=some (some (.ref D))∧ϥ K C (.ref D)=some p.2.2)∧MrL K r
theorem mr_cons {K:υ} {C D:Δ} {m n:ι} {o:Bool} (a:Ϗ K ώ m=some (some (.ref C))) (b:Ϗ K ώ n=some (some (.ref D))) (c:ϥ K C (.ref D)=some o) (t:MrL K r):MrL K ((m,n,o) :: r):=⟨⟨C,D,a,b,c⟩,t⟩
theorem MrL.at {K:υ} {C D:Δ} {m n:ι} {o:Bool}:∀ {l},MrL K l→(m,n,o)∈l→Ϗ K ώ m=some (some (.ref C))→Ϗ K ώ n=some (some (.ref D))→ϥ K C (.ref D)=some o
 | p :: r,⟨⟨C',D',a,b,c⟩,t⟩,h,e1,e2=>by
   rcases ξ.mp h with q | q
   ·subst q
    rw [e1] at a;cases a
    rw [e2] at b;cases b
    exact c
   ·exact MrL.at t q e1 e2
def KOf {K:υ} {h:Ϸ} (_:K.In h):υ:=K
theorem Cc {Γ:Gm} {cal cal1:Nat→List D→List O→Res}:ev Γ cal cal1 br (.v i) s=(match s.env[i]? with | some (some d)=>.ok d (if br then s else un s i) | _=>.bad):=rfl
inductive IT where
 | fin (o:av)
 | call (j:Nat) (ds:List D) (st:List O) (k:Res→IT)
 | call1 (j:Nat) (ds:List D) (st:List O) (k:Res→IT)
 | test (b:Bool) (k:Bool→IT)
 | opt (o:Option D) (k:D→IT)
 | sub (o:Out D) (k:D→Sta→IT)
 | subS (o:av) (k:av→IT)
def IT.bad:IT:=.fin .bad
def lcT (g:D→Sta→(Option D→Sta→IT)→IT):List D→List D→Sta→(D→Sta→IT)→IT
 | [],acc,s,k=>k (.lst acc) s
 | d :: r,acc,s,k=>g d s fun o s'=>match o with
   | some e=>.test (decide (acc.length<100000)) fun t=>if t then lcT g r (acc ++ [e]) s' k else .bad
   | none=>lcT g r acc s' k
def xp (g:D→Sta→(Sta→IT)→IT):List D→Sta→(Sta→IT)→IT
 | [],s,k=>k s
 | d :: r,s,k=>g d s fun s=>xp g r s k
def rm (st:List O) (p c:Nat):Bool:=match st[p]? with | some (.ins c' _)=>c' == c | _=>false
def xu (x y:D) (z:D):Option D:=match x,bM y with | .dic ks ds,some k=>some ((bW ks ds k).getD z) | _,_=>none
def o7 (es:E) (s:Sta) (d:D) (st:List O) (k:D→Sta→IT):IT:=if s.ow.any fun i=>(bK es).contains i then .test (noL d && st.all kW) fun t=>k d ⟨s.env,s.ow.filter fun i=>!(bK es).contains i || (isLst s.env[i]? && t),st⟩ else k d (aft es s d st)
section
variable (Γ:Gm) (cal cal1:Nat→List D→List O→Res) (lp:Bool)
mutual
noncomputable def evT (br:Bool):E→Sta→(D→Sta→IT)→(Nat→List D→Sta→IT)→IT
 | .v i,s,k,kx=>(match s.env[i]? with | some (some d)=>k d (if br then s else un s i) | _=>.bad)
 | .c d,s,k,kx=>k d s
 | .g j,s,k,kx=>(match Γ.gl[j]?.map toD with | some d=>k d s | none=>.bad)
 | .op o a b,s,k,kx=>evT true a s (fun x s=>evT true b s (fun y s=>.opt (opD o (look s.st x) (look s.st y)) fun d=>k d s) kx) kx
 | .isN a,s,k,kx=>evT true a s (fun x s=>k (.bl (kE x)) s) kx
 | .isNN a,s,k,kx=>evT true a s (fun x s=>k (.bl (!kE x)) s) kx
 | .neg a,s,k,kx=>evT true a s (fun x s=>match x with | .int i=>k (.int (-i)) s | _=>.bad) kx
 | .not a,s,k,kx=>evT true a s (fun x s=>match x with | .bl b=>k (.bl (!b)) s | _=>.bad) kx
 | .and a b,s,k,kx=>evT false a s (fun x s=>match x with | .bl t=>.test t fun t=>if t then evT false b s k kx else k (.bl false) s | _=>.bad) kx
 | .or a b,s,k,kx=>evT false a s (fun x s=>match x with | .bl t=>.test t fun t=>if t then k (.bl true) s else evT false b s k kx | _=>.bad) kx
 | .ite c a b,s,k,kx=>evT true c s (fun x s=>match x with | .bl t=>.test t fun t=>if t then evT false a s k kx else evT false b s k kx | _=>.bad) kx
 | .chain o p a b c,s,k,kx=>evT true a s (fun x s=>evT true b s (fun y s=>.opt (opD o (look s.st x) (look s.st y)) fun d=>match d with
   | .bl t=>.test t fun t=>if t then evT true c s (fun z s=>.opt (opD p (look s.st y) (look s.st z)) fun d=>k d s) kx else k (.bl false) s
   | _=>.bad) kx) kx
 | .ix a b,s,k,kx=>evT true a s (fun x s=>evT true b s (fun y s=>.opt (ixD (look s.st x) y) fun d=>k d s) kx) kx
 | .sl a lo hi,s,k,kx=>evT true a s (fun x s=>
  let k3:=fun l s=>(if bC hi then .opt (slO (look s.st x) l none) fun d=>k d s else evT true hi s (fun z s=>match z with | .int h=>.opt (slO (look s.st x) l (some h)) fun d=>k d s | _=>.bad) kx)
  if bC lo then k3 none s else evT true lo s (fun z s=>match z with | .int l=>k3 (some l) s | _=>.bad) kx) kx
 | .sl3 a lo hi,s,k,kx=>evT true a s (fun x s=>
  let k3:=fun l s=>(if bC hi then .opt (mP (look s.st x) l none) fun d=>k d s else evT true hi s (fun z s=>match z with | .int h=>.opt (mP (look s.st x) l (some h)) fun d=>k d s | _=>.bad) kx)
  if bC lo then k3 none s else evT true lo s (fun z s=>match z with | .int l=>k3 (some l) s | _=>.bad) kx) kx
 | .tget j e d,s,k,kx=>evT true e s (fun x s=>evT false d s (fun z s=>match Γ.tb[j]?,x with | some t,.str y=>k (((Ó y t).map toD).getD z) s | _,_=>.bad) kx) kx
 | .newd j es,s,k,kx=>cU false es s (fun l s=>.opt ((Γ.cl[j]?).bind fun k=>if k.what=1∧l.length=k.at_.length then some (D.ins j l) else none) fun d=>k d s) kx
 | .fld a f,s,k,kx=>evT true a s (fun x s=>.opt (l9 Γ s.st x f) fun d=>k d s) kx
 | .tup es,s,k,kx=>cU false es s (fun l s=>if l.length≤100000 then k (.tup l) s else .bad) kx
 | .lst es,s,k,kx=>cU false es s (fun l s=>if l.length≤100000 then k (.lst l) s else .bad) kx
 | .newl es,s,k,kx=>cU false es s (fun l s=>if l.length≤100000 then k (.ref s.st.length) ⟨s.env,s.ow,s.st ++ [.lst l]⟩ else .bad) kx
 | .keep kp a,s,k,kx=>evT false a (hid (kp.filter s.ow.contains) s) (fun d s'=>k d ⟨s.env,s'.ow ++ kp.filter s.ow.contains,s'.st⟩) (fun _ _ _=>.bad)
 | .sto a,s,k,kx=>evT false a s (fun x s=>match x with | .lst l=>k (.ref s.st.length) ⟨s.env,s.ow,s.st ++ [.lst l]⟩ | _=>.bad) kx
 | .call j es,s,k,kx=>cU true es s (fun l s=>.call j l s.st fun r=>match r with | .ok d st=>o7 es s d st k | .exc c l st=>kx c l (drp es s st) | .bad=>.bad) kx
 | .hcall j es,s,k,kx=>cU false es s (fun l s=>.test (aV l) fun t=>if t then .call j l [] fun r=>(match r with
  | .ok d st=>.test (noR d) fun t=>if t then k d s else k (shD s.st.length d) ⟨s.env,s.ow,s.st ++ st.map (shO s.st.length)⟩
  | .exc c l _=>.test (aV l) fun t=>if t then kx c l s else .bad
  | .bad=>.bad) else .bad) kx
 | .fcall own j es,s,k,kx=>cU false es s (fun l s=>.test (aV l) fun t=>if t then .call j l [] fun r=>(match r with
  | .ok d st=>.test (own && !ro d) fun t=>if t then .bad else .opt (Ao st d) fun d=>k d s
  | .exc c l _=>.test (aV l) fun t=>if t then kx c l s else .bad
  | .bad=>.bad) else .bad) kx
 | .mth c j a es,s,k,kx=>evT true a s (fun x s=>match x with
   | .ref p=>.test (rm s.st p c) fun t=>if t then cU true es s (fun l s=>.call j (.ref p :: l) s.st fun r=>match r with | .ok d st=>o7 es s d st k | .exc c l st=>kx c l (drp es s st) | .bad=>.bad) kx else .bad
   | _=>.bad) kx
 | .bi b es,s,k,kx=>cU true es s (fun l s=>.opt (biD b (l.map (look s.st))) fun d=>k d s) kx
 | .tab j e,s,k,kx=>evT true e s (fun x s=>match Γ.tb[j]?,x with | some t,.str y=>.opt ((Ó y t).map toD) fun d=>k d s | _,_=>.bad) kx
 | .tabin j e,s,k,kx=>evT true e s (fun x s=>match Γ.tb[j]?,x with | some t,.str y=>k (.bl (Ó y t).isSome) s | _,_=>.bad) kx
 | .lc t one it elt cond,s,k,kx=>evT false it s (fun x s=>match x with
   | .lst ds=>if lp then .sub ((bt (fun d s'=>(match aH t one d s'.env with
    | some env=>(noX (ev Γ cal cal1 true cond ⟨env,[],s'.st⟩)).bind fun b s2=>(match b with
      | .bl true=>(noX (ev Γ cal cal1 false elt s2)).bind fun e s3=>.ok (some e) ⟨s3.env,[],s3.st⟩
      | .bl false=>.ok none ⟨s2.env,[],s2.st⟩
      | _=>.bad)
    | none=>.bad)) ds [] ⟨Θ t.length none ++ s.env,[],s.st⟩)) (fun d s'=>k d ⟨s.env,[],s'.st⟩)
     else lcT (fun d s' k'=>match aH t one d s'.env with
      | some env=>evT true cond ⟨env,[],s'.st⟩ (fun b s2=>match b with
        | .bl t=>.test t fun t=>if t then evT false elt s2 (fun e s3=>k' (some e) ⟨s3.env,[],s3.st⟩) (fun _ _ _=>.bad) else k' none ⟨s2.env,[],s2.st⟩
        | _=>.bad) (fun _ _ _=>.bad)
      | none=>.bad) ds [] ⟨Θ t.length none ++ s.env,[],s.st⟩ (fun d s'=>k d ⟨s.env,[],s'.st⟩)
   | _=>.bad) kx
 | .tand a b,s,k,kx=>evT true a s (fun x s=>match x with | .bl t=>.test t fun t=>if t then evT true b s k kx else k (.bl false) s | _=>.bad) kx
 | .tor a b,s,k,kx=>evT true a s (fun x s=>match x with | .bl t=>.test t fun t=>if t then k (.bl true) s else evT true b s k kx | _=>.bad) kx
 | .tnot a,s,k,kx=>evT true a s (fun x s=>match x with | .bl b=>k (.bl (!b)) s | _=>.bad) kx
 | .tv a,s,k,kx=>evT true a s (fun x s=>.opt ((vG (look s.st x)).map .bl) fun d=>k d s) kx
 | .it b es,s,k,kx=>cU false es s (fun l s=>.opt ((itD b l).map .lst) fun d=>k d s) kx
 | .itv a,s,k,kx=>evT false a s (fun x s=>match tA x with | some l=>k (.lst l) s | none=>.bad) kx
 | .dic es,s,k,kx=>cU false es s (fun l s=>.opt ((qH l).map fun p=>.dic p.1 p.2) fun d=>k d s) kx
 | .get a b c,s,k,kx=>evT true a s (fun x s=>.test (isDic (look s.st x)) fun t=>if t then evT true b s (fun y s=>evT false c s (fun z s=>.opt (xu (look s.st x) y z) fun d=>k d s) kx) kx else .bad) kx
 | .index a b,s,k,kx=>evT true a s (fun x s=>.test (ui x) fun t=>if t then evT true b s (fun y s=>.opt (xw x y) fun d=>k d s) kx else .bad) kx
 | .join x a,s,k,kx=>evT true a s (fun y s=>.opt (rx x (look s.st y)) fun d=>k d s) kx
 | .fmt x a y,s,k,kx=>evT true a s (fun v s=>.opt (qU x v y) fun d=>k d s) kx
 | .dicc ks es,s,k,kx=>cU false es s (fun l s=>.opt (wa ks l) fun d=>k d s) kx
 | .isX a js,s,k,kx=>evT true a s (fun x s=>.opt (AA Γ x js) fun d=>k d s) kx
 | .new j es,s,k,kx=>cU true es s (fun l s=>(match Γ.cl[j]? with
   | some q=>if q.what=1 then (if l.length=q.at_.length then k (.ins j l) (drp es s s.st) else .bad) else if q.what=0 then .call1 q.init (.ref s.st.length :: l) (s.st ++ [.ins j []]) fun r=>(match r with
    | .ok .non st=>k (.ref s.st.length) (aft es s .non st)
    | _=>.bad)
     else .bad
   | none=>.bad)) kx
 | _,_,_,_=>.bad
noncomputable def cU (br:Bool):E→Sta→(List D→Sta→IT)→(Nat→List D→Sta→IT)→IT
 | .nil,s,k,kx=>k [] s
 | .cons a r,s,k,kx=>evT br a s (fun x s=>cU br r s (fun l s=>k (x :: l) s) kx) kx
 | _,_,_,_=>.bad
end
def exT:S→Sta→(Sta→IT)→(D→Sta→IT)→(Nat→List D→Sta→IT)→IT
 | .skip,s,kn,kr,kx=>kn s
 | .seq a b,s,kn,kr,kx=>exT a s (fun s=>exT b s kn kr kx) kr kx
 | .set i e,s,kn,kr,kx=>evT Γ cal cal1 lp false e s (fun d s=>kn (mN s i d (a9 e))) kx
 | .setT l e,s,kn,kr,kx=>evT Γ cal cal1 lp false e s (fun d s=>match aH l false d s.env with | some env=>kn ⟨env,s.ow.filter fun i=>!l.contains i,s.st⟩ | none=>.bad) kx
 | .setR i es,s,kn,kr,kx=>cU Γ cal cal1 lp false es s (fun l s=>if l.length≤100000 then kn ⟨s.env.set i (some (.ref s.st.length)),s.ow.filter (· != i),s.st ++ [.lst l]⟩ else .bad) kx
 | .ret e,s,kn,kr,kx=>evT Γ cal cal1 lp false e s kr kx
 | .ifs c a b,s,kn,kr,kx=>evT Γ cal cal1 lp true c s (fun x s=>match x with | .bl t=>.test t fun t=>if t then exT a s kn kr kx else exT b s kn kr kx | _=>.bad) kx
 | .drop e,s,kn,kr,kx=>evT Γ cal cal1 lp false e s (fun _ s=>kn s) kx
 | .app i e,s,kn,kr,kx=>if s.ow.contains i && isLst s.env[i]? then evT Γ cal cal1 lp false e s (fun d s=>if s.ow.contains i then (match s.env[i]? with
  | some (some (.lst l))=>.test (decide (l.length<100000)) fun t=>if t then kn ⟨s.env.set i (some (.lst (l ++ [d]))),s.ow,s.st⟩ else .bad
  | _=>.bad) else .bad) kx else .bad
 | .ext i e,s,kn,kr,kx=>if s.ow.contains i && isLst s.env[i]? then evT Γ cal cal1 lp false e s (fun d s=>if s.ow.contains i then (match s.env[i]?,d with
  | some (some (.lst l)),.lst x=>.test (decide (l.length+x.length≤100000)) fun t=>if t then kn ⟨s.env.set i (some (.lst (l ++ x))),s.ow,s.st⟩ else .bad
  | _,_=>.bad) else .bad) kx else .bad
 | .put (.v i) b e,s,kn,kr,kx=>evT Γ cal cal1 lp false e s (fun d s=>(match s.env[i]? with
  | some (some x)=>evT Γ cal cal1 lp true b s (fun y s=>(match x with
    | .ref n=>(match (s.st[n]?).bind fun o=>ed o y d with | some o=>kn ⟨s.env,s.ow,s.st.set n o⟩ | none=>.bad)
    | x=>if s.ow.contains i then .opt (jP x y d) fun y=>kn ⟨s.env.set i (some y),s.ow,s.st⟩ else .bad)) kx
  | _=>.bad)) kx
 | .fapp a f e,s,kn,kr,kx=>evT Γ cal cal1 lp true a s (fun x s=>.test (xC s.st x) fun t=>if t then evT Γ cal cal1 lp false e s (fun d s=>(match x with
  | .ref n=>(match s.st[n]? with | some (.lst l)=>.test (decide (l.length<100000)) fun t=>if t then kn ⟨s.env,s.ow,s.st.set n (.lst (l ++ [d]))⟩ else .bad | _=>.bad)
  | _=>.bad)) kx else .bad) kx
 | .rais j es,s,kn,kr,kx=>cU Γ cal cal1 lp false es s (fun l s=>.test (iP Γ j l) fun t=>if t then kx j (pH Γ j l) s else .bad) kx
 | .try_ a hs,s,kn,kr,kx=>exT a s kn kr (fun c l s'=>hndT hs c l s' kn kr kx)
 | .for_ t one it b,s,kn,kr,kx=>evT Γ cal cal1 lp false it s (fun x s=>(match x with
  | .lst ds=>if lp then .subS (aR (fun d s=>match aH t one d s.env with | some env=>exS Γ cal cal1 b ⟨env,s.ow.filter fun i=>!t.contains i,s.st⟩ | none=>.bad) ds s) (fun o=>match o with | .nx s=>kn s | .rt d s=>kr d s | .exc c l s=>kx c l s | .bad=>.bad)
    else xp (fun d s k=>match aH t one d s.env with | some env=>exT b ⟨env,s.ow.filter fun i=>!t.contains i,s.st⟩ k kr kx | none=>.bad) ds s kn
  | _=>.bad)) kx
 | c,s,kn,kr,kx=>.subS (exS Γ cal cal1 c s) (fun o=>match o with | .nx s=>kn s | .rt d s=>kr d s | .exc c l s=>kx c l s | .bad=>.bad)
where hndT:S→Nat→List D→Sta→(Sta→IT)→(D→Sta→IT)→(Nat→List D→Sta→IT)→IT
 | .hand j (some i) b r,c,l,s,kn,kr,kx=>(match cQ Γ j c with
  | some true=>exT b ⟨s.env.set i (some (.ins c l)),s.ow.filter (· != i),s.st⟩ (fun s=>kn ⟨s.env.set i none,s.ow.filter (· != i),s.st⟩) kr (fun _ _ _=>.bad)
  | some false=>hndT r c l s kn kr kx
  | none=>.bad)
 | .hand j none b r,c,l,s,kn,kr,kx=>(match cQ Γ j c with
  | some true=>exT b s kn kr (fun _ _ _=>.bad)
  | some false=>hndT r c l s kn kr kx
  | none=>.bad)
 | .skip,c,l,s,kn,kr,kx=>kx c l s
 | _,_,_,_,_,_,_=>.bad
def ac:IT→av
 | .fin o=>o
 | .call j ds st k=>ac (k (cal j ds st))
 | .call1 j ds st k=>ac (k (cal1 j ds st))
 | .test b k=>ac (k b)
 | .opt o k=>(match o with | some d=>ac (k d) | none=>.bad)
 | .sub o k=>(match o with | .ok d s=>ac (k d s) | _=>.bad)
 | .subS o k=>ac (k o)
end
def oc {α:Type} (x:Out α) (k:α→Sta→av) (kx:Nat→List D→Sta→av):av:=match x with
 | .ok a s=>k a s
 | .exc c l s=>kx c l s
 | .bad=>.bad
theorem bh :oc (x.bind f) k kx=oc x (fun a s=>oc (f a s) k kx) kx:=by cases x <;> rfl
theorem cf (h:∀ a s,k a s=k' a s):oc x k kx=oc x k' kx:=by cases x <;> first | exact h _ _ | rfl
theorem af (h:∀ a s,g a s=oc (f a s) k kx):oc x g kx=oc (x.bind f) k kx:=by
 rw [bh];exact cf h
section
variable {Γ:Gm} {cal cal1:Nat→List D→List O→Res} {lp:Bool}
theorem bB {k:D→Sta→IT} :ac cal cal1 (.opt o fun d=>k d s)=oc (.of s o) (fun d s=>ac cal cal1 (k d s)) kx:=by cases o <;> rfl
theorem ri [Decidable p] {k:D→Sta→IT} {kx:Nat→List D→Sta→av}:ac cal cal1 (if p then k d s else .bad)=oc (if p then .ok d s else .bad) (fun d s=>ac cal cal1 (k d s)) kx:=by split <;> rfl
theorem Aw {st:List O} {k:D→Sta→IT}:ac cal cal1 (o7 es s d st k)=ac cal cal1 (k d (aft es s d st)):=by unfold o7;split <;> rfl
theorem wi {k:D→Sta→IT} {kx:Nat→List D→Sta→IT}:ac cal cal1 (.call j l s.st fun r=>match r with | .ok d st=>o7 es s d st k | .exc c l st=>kx c l (drp es s st) | .bad=>.bad)=oc (hO cal es j l s) (fun d s=>ac cal cal1 (k d s)) (fun c l s=>ac cal cal1 (kx c l s)):=by
 show ac cal cal1 (match cal j l s.st with | .ok d st=>o7 es s d st k | .exc c l st=>kx c l (drp es s st) | .bad=>.bad)=_
 unfold hO
 cases cal j l s.st <;> first | exact Aw | rfl
theorem my (h:∀ d s k,ac cal cal1 (g d s k)=oc (f d s) (fun o s=>ac cal cal1 (k o s)) (fun _ _ _=>.bad)):∀ (ds acc) (s) (k:D→Sta→IT),ac cal cal1 (lcT g ds acc s k)=oc (bt f ds acc s) (fun d s=>ac cal cal1 (k d s)) (fun _ _ _=>.bad)
 | [],acc,s,k=>rfl
 | d :: r,acc,s,k=>by
   show ac cal cal1 (g d s _)=oc ((f d s).bind _) _ _
   rw [h,bh]
   refine cf fun o s'=>?_
   cases o with
   | none=>exact my h r acc s' k
   | some e=>
     dsimp only
     show ac cal cal1 (if decide (acc.length<100000)=true then lcT g r (acc ++ [e]) s' k else .bad)=_
     by_cases c:acc.length<100000
     ·rw [ZZ (ZW c),ZZ c];exact my h r (acc ++ [e]) s' k
     ·rw [ZY (by simpa using c),ZY c];rfl
def nox:Out α→Prop
 | .exc _ _ _=>False
 | _=>True
theorem dW (h:∀ d s,nox (f d s)):∀ (ds acc) (s),nox (bt f ds acc s)
 | [],_,_=>trivial
 | d :: r,acc,s=>by
   have:=h d s
   show nox ((f d s).bind _)
   cases q:f d s with
   | bad=>trivial
   | exc c l s'=>rw [q] at this;exact this.elim
   | ok o s'=>
     cases o with
     | none=>exact dW h r acc s'
     | some e=>
       show nox (if acc.length<100000 then bt f r (acc ++ [e]) s' else .bad)
       split
       ·exact dW h r _ s'
       ·trivial
theorem yV (h:nox x):oc x k kx=oc x k kx':=by
 cases x with
 | exc c l s=>exact h.elim
 | _=>rfl
theorem sr :oc x k (fun _ _ _=>.bad)=oc (noX x) k (fun _ _ _=>.bad):=by cases x <;> rfl
theorem Ay (n:nox x):ac cal cal1 (.sub x k)=oc x (fun d s=>ac cal cal1 (k d s)) kx:=by
 cases x with
 | exc c l s=>exact n.elim
 | _=>rfl
theorem Aj :evT Γ cal cal1 lp br (.v i) s k kx=(match s.env[i]? with | some (some d)=>k d (if br then s else un s i) | _=>.bad):=rfl
theorem Ai :evT Γ cal cal1 lp br (.g j) s k kx=(match Γ.gl[j]?.map toD with | some d=>k d s | none=>.bad):=rfl
theorem Cb :ev Γ cal cal1 br (.g j) s = .of s (Γ.gl[j]?.map toD):=rfl
theorem bo:∀ e:E,(∀ br s k kx,ac cal cal1 (evT Γ cal cal1 lp br e s k kx)=oc (ev Γ cal cal1 br e s) (fun d s=>ac cal cal1 (k d s)) (fun c l s=>ac cal cal1 (kx c l s))) ∧
 (∀ br s k kx,ac cal cal1 (cU Γ cal cal1 lp br e s k kx)=oc (evs Γ cal cal1 br e s) (fun d s=>ac cal cal1 (k d s)) (fun c l s=>ac cal cal1 (kx c l s))):=by
 intro e
 induction e with
 | v i=>
   refine ⟨fun br s k kx=>?_,fun br s k kx=>rfl⟩
   rw [Aj,Cc]
   cases s.env[i]? with
   | none=>rfl
   | some o=>cases o <;> rfl
 | c d=>exact ⟨fun br s k kx=>rfl,fun br s k kx=>rfl⟩
 | g j=>
   refine ⟨fun br s k kx=>?_,fun br s k kx=>rfl⟩
   rw [Ai,Cb]
   cases Γ.gl[j]?.map toD <;> rfl
 | op o a b iha ihb=>exact ⟨fun br s k kx=>(iha.1 _ _ _ _).trans (af fun x s=>(ihb.1 _ _ _ _).trans (af fun y s=>bB)),fun br s k kx=>rfl⟩
 | isN a ih=>exact ⟨fun br s k kx=>(ih.1 _ _ _ _).trans (af fun x s=>rfl),fun br s k kx=>rfl⟩
 | isNN a ih=>exact ⟨fun br s k kx=>(ih.1 _ _ _ _).trans (af fun x s=>rfl),fun br s k kx=>rfl⟩
 | neg a ih=>exact ⟨fun br s k kx=>(ih.1 _ _ _ _).trans (af fun x s=>by cases x <;> rfl),fun br s k kx=>rfl⟩
 | not a ih=>exact ⟨fun br s k kx=>(ih.1 _ _ _ _).trans (af fun x s=>by cases x <;> rfl),fun br s k kx=>rfl⟩
 | and a b iha ihb=>exact ⟨fun br s k kx=>(iha.1 _ _ _ _).trans (af fun x s=>by
  cases x with
  | bl t=>cases t with
    | true=>exact ihb.1 _ _ _ _
    | false=>rfl
  | _=>rfl),fun br s k kx=>rfl⟩
 | or a b iha ihb=>exact ⟨fun br s k kx=>(iha.1 _ _ _ _).trans (af fun x s=>by
  cases x with
  | bl t=>cases t with
    | false=>exact ihb.1 _ _ _ _
    | true=>rfl
  | _=>rfl),fun br s k kx=>rfl⟩
 | ite c a b ihc iha ihb=>exact ⟨fun br s k kx=>(ihc.1 _ _ _ _).trans (af fun x s=>by
  cases x with
  | bl t=>cases t with
    | true=>exact iha.1 _ _ _ _
    | false=>exact ihb.1 _ _ _ _
  | _=>rfl),fun br s k kx=>rfl⟩
 | chain o p a b c iha ihb ihc=>exact ⟨fun br s k kx=>(iha.1 _ _ _ _).trans (af fun x s=>(ihb.1 _ _ _ _).trans (af fun y s=>by
  show ac cal cal1 (.opt (opD o (look s.st x) (look s.st y)) _)=_
  cases opD o (look s.st x) (look s.st y) with
  | none=>rfl
  | some d=>cases d with
    | bl t=>cases t with
      | true=>exact (ihc.1 _ _ _ _).trans (af fun z s=>bB)
      | false=>rfl
    | _=>rfl)),fun br s k kx=>rfl⟩
 | ix a b iha ihb=>exact ⟨fun br s k kx=>(iha.1 _ _ _ _).trans (af fun x s=>(ihb.1 _ _ _ _).trans (af fun y s=>bB)),fun br s k kx=>rfl⟩
 | sl a lo hi iha ihl ihh=>
   refine ⟨fun br s k kx=>(iha.1 _ _ _ _).trans (af fun x s=>?_),fun br s k kx=>rfl⟩
   have k3:∀ l s,ac cal cal1 (if bC hi then .opt (slO (look s.st x) l none) fun d=>k d s else evT Γ cal cal1 lp true hi s (fun z s=>match z with | .int h=>.opt (slO (look s.st x) l (some h)) fun d=>k d s | _=>.bad) kx)=oc ((if bC hi then .ok none s else (ev Γ cal cal1 true hi s).bind toI).bind fun h s=>.of s (slO (look s.st x) l h)) (fun d s=>ac cal cal1 (k d s)) (fun c l s=>ac cal cal1 (kx c l s)):=fun l s=>by
    by_cases c:bC hi=true
    ·rw [ZZ c,ZZ c];exact bB
    ·rw [ZY c,ZY c,ihh.1,bh,bh]
     exact cf fun z s=>by cases z <;> first | exact bB | rfl
   by_cases c:bC lo=true
   ·dsimp only
    rw [ZZ c,ZZ c];exact k3 none s
   ·dsimp only
    rw [ZY c,ZY c,ihl.1,bh,bh]
    exact cf fun z s=>by cases z <;> first | exact k3 _ s | rfl
 | sl3 a lo hi iha ihl ihh=>
   refine ⟨fun br s k kx=>(iha.1 _ _ _ _).trans (af fun x s=>?_),fun br s k kx=>rfl⟩
   have k3:∀ l s,ac cal cal1 (if bC hi then .opt (mP (look s.st x) l none) fun d=>k d s else evT Γ cal cal1 lp true hi s (fun z s=>match z with | .int h=>.opt (mP (look s.st x) l (some h)) fun d=>k d s | _=>.bad) kx)=oc ((if bC hi then .ok none s else (ev Γ cal cal1 true hi s).bind toI).bind fun h s=>.of s (mP (look s.st x) l h)) (fun d s=>ac cal cal1 (k d s)) (fun c l s=>ac cal cal1 (kx c l s)):=fun l s=>by
    by_cases c:bC hi=true
    ·rw [ZZ c,ZZ c];exact bB
    ·rw [ZY c,ZY c,ihh.1,bh,bh]
     exact cf fun z s=>by cases z <;> first | exact bB | rfl
   by_cases c:bC lo=true
   ·dsimp only
    rw [ZZ c,ZZ c];exact k3 none s
   ·dsimp only
    rw [ZY c,ZY c,ihl.1,bh,bh]
    exact cf fun z s=>by cases z <;> first | exact k3 _ s | rfl
 | tget j a b iha ihb=>exact ⟨fun br s k kx=>(iha.1 _ _ _ _).trans (af fun x s=>(ihb.1 _ _ _ _).trans (af fun y s=>by cases Γ.tb[j]? <;> cases x <;> rfl)),fun br s k kx=>rfl⟩
 | newd j es ih=>exact ⟨fun br s k kx=>(ih.2 _ _ _ _).trans (af fun l s=>bB),fun br s k kx=>rfl⟩
 | fld a f ih=>exact ⟨fun br s k kx=>(ih.1 _ _ _ _).trans (af fun x s=>bB),fun br s k kx=>rfl⟩
 | tup es ih=>exact ⟨fun br s k kx=>(ih.2 _ _ _ _).trans (af fun l s=>ri),fun br s k kx=>rfl⟩
 | lst es ih=>exact ⟨fun br s k kx=>(ih.2 _ _ _ _).trans (af fun l s=>ri),fun br s k kx=>rfl⟩
 | newl es ih=>exact ⟨fun br s k kx=>(ih.2 _ _ _ _).trans (af fun l s=>by by_cases c:l.length≤100000 <;> simp only [c,if_true,if_false] <;> rfl),fun br s k kx=>rfl⟩
 | nil=>exact ⟨fun br s k kx=>rfl,fun br s k kx=>rfl⟩
 | cons a r iha ihr=>exact ⟨fun br s k kx=>rfl,fun br s k kx=>(iha.1 _ _ _ _).trans (af fun x s=>(ihr.2 _ _ _ _).trans (af fun l s=>rfl))⟩
 | call j es ih=>exact ⟨fun br s k kx=>(ih.2 _ _ _ _).trans (af fun l s=>wi),fun br s k kx=>rfl⟩
 | hcall j es ih=>exact ⟨fun br s k kx=>(ih.2 _ _ _ _).trans (af fun l s=>by
  show ac cal cal1 (if aV l=true then _ else .bad)=oc (uf cal j l s) _ _
  unfold uf
  split
  ·show ac cal cal1 (match cal j l [] with | .ok d _=>_ | .exc c l _=>_ | .bad=>_)=_
   cases cal j l [] with
   | ok d st=>show ac cal cal1 (if noR d=true then _ else _)=_;dsimp only;split <;> rfl
   | exc c l st=>show ac cal cal1 (if aV l=true then _ else .bad)=_;dsimp only;split <;> rfl
   | bad=>rfl
  ·rfl),fun br s k kx=>rfl⟩
 | fcall own j es ih=>exact ⟨fun br s k kx=>(ih.2 _ _ _ _).trans (af fun l s=>by
  show ac cal cal1 (if aV l=true then _ else .bad)=oc (xl cal own j l s) _ _
  unfold xl
  split
  ·show ac cal cal1 (match cal j l [] with | .ok d _=>_ | .exc c l _=>_ | .bad=>_)=_
   cases cal j l [] with
   | ok d st=>
     show ac cal cal1 (if (own && !ro d)=true then _ else _)=_;dsimp only;split
     ·rfl
     ·exact bB
   | exc c l st=>show ac cal cal1 (if aV l=true then _ else .bad)=_;dsimp only;split <;> rfl
   | bad=>rfl
  ·rfl),fun br s k kx=>rfl⟩
 | mth c j a es iha ih=>exact ⟨fun br s k kx=>(iha.1 _ _ _ _).trans (af fun x s=>by
  cases x with
  | ref p=>
    show ac cal cal1 (if rm s.st p c=true then _ else .bad)=_
    unfold rm
    dsimp only
    cases s.st[p]? with
    | none=>rfl
    | some o=>cases o with
      | ins c' l'=>
        dsimp only
        by_cases e:c'=c
        ·rw [ZZ (by simpa using e),ZZ e]
         exact (ih.2 _ _ _ _).trans (af fun l s=>wi)
        ·rw [ZY (by simpa using e),ZY e];rfl
      | _=>rfl
  | _=>rfl),fun br s k kx=>rfl⟩
 | bi b es ih=>exact ⟨fun br s k kx=>(ih.2 _ _ _ _).trans (af fun l s=>bB),fun br s k kx=>rfl⟩
 | tab j a ih=>exact ⟨fun br s k kx=>(ih.1 _ _ _ _).trans (af fun x s=>by cases Γ.tb[j]? <;> cases x <;> first | exact bB | rfl),fun br s k kx=>rfl⟩
 | tabin j a ih=>exact ⟨fun br s k kx=>(ih.1 _ _ _ _).trans (af fun x s=>by cases Γ.tb[j]? <;> cases x <;> rfl),fun br s k kx=>rfl⟩
 | tand a b iha ihb=>exact ⟨fun br s k kx=>(iha.1 _ _ _ _).trans (af fun x s=>by
  cases x with
  | bl t=>cases t with
    | true=>exact ihb.1 _ _ _ _
    | false=>rfl
  | _=>rfl),fun br s k kx=>rfl⟩
 | tor a b iha ihb=>exact ⟨fun br s k kx=>(iha.1 _ _ _ _).trans (af fun x s=>by
  cases x with
  | bl t=>cases t with
    | false=>exact ihb.1 _ _ _ _
    | true=>rfl
  | _=>rfl),fun br s k kx=>rfl⟩
 | tnot a ih=>exact ⟨fun br s k kx=>(ih.1 _ _ _ _).trans (af fun x s=>by cases x <;> rfl),fun br s k kx=>rfl⟩
 | tv a ih=>exact ⟨fun br s k kx=>(ih.1 _ _ _ _).trans (af fun x s=>bB),fun br s k kx=>rfl⟩
 | it b es ih=>exact ⟨fun br s k kx=>(ih.2 _ _ _ _).trans (af fun l s=>bB),fun br s k kx=>rfl⟩
 | itv a ih=>exact ⟨fun br s k kx=>(ih.1 _ _ _ _).trans (af fun x s=>by cases tA x <;> rfl),fun br s k kx=>rfl⟩
 | dic es ih=>exact ⟨fun br s k kx=>(ih.2 _ _ _ _).trans (af fun l s=>bB),fun br s k kx=>rfl⟩
 | get a b c iha ihb ihc=>exact ⟨fun br s k kx=>(iha.1 _ _ _ _).trans (af fun x s=>by
  show ac cal cal1 (if isDic (look s.st x)=true then _ else .bad)=_
  split
  ·refine (ihb.1 _ _ _ _).trans (af fun y s=>(ihc.1 _ _ _ _).trans (af fun z s=>?_))
   show ac cal cal1 (.opt (xu (look s.st x) y z) _)=_
   unfold xu
   cases look s.st x <;> cases bM y <;> rfl
  ·rfl),fun br s k kx=>rfl⟩
 | index a b iha ihb=>exact ⟨fun br s k kx=>(iha.1 _ _ _ _).trans (af fun x s=>by
  show ac cal cal1 (if ui x=true then _ else _)=oc (if ui x=true then _ else _) _ _
  split
  ·exact (ihb.1 _ _ _ _).trans (af fun y s=>bB)
  ·rfl),fun br s k kx=>rfl⟩
 | join x a ih=>exact ⟨fun br s k kx=>(ih.1 _ _ _ _).trans (af fun y s=>bB),fun br s k kx=>rfl⟩
 | fmt x a y ih=>exact ⟨fun br s k kx=>(ih.1 _ _ _ _).trans (af fun v s=>bB),fun br s k kx=>rfl⟩
 | dicc ks es ih=>exact ⟨fun br s k kx=>(ih.2 _ _ _ _).trans (af fun l s=>bB),fun br s k kx=>rfl⟩
 | keep kp a ih=>exact ⟨fun br s k kx=>(ih.1 _ _ _ _).trans (by show oc (ev Γ cal cal1 false a _) _ _=oc ((noX (ev Γ cal cal1 false a _)).bind _) _ _;cases ev Γ cal cal1 false a (hid (kp.filter s.ow.contains) s) <;> rfl),fun br s k kx=>rfl⟩
 | sto a ih=>exact ⟨fun br s k kx=>(ih.1 _ _ _ _).trans (af fun x s=>by cases x <;> rfl),fun br s k kx=>rfl⟩
 | isX a js ih=>exact ⟨fun br s k kx=>(ih.1 _ _ _ _).trans (af fun x s=>bB),fun br s k kx=>rfl⟩
 | lc t one it elt cond ihi ihe ihc=>
   refine ⟨fun br s k kx=>(ihi.1 _ _ _ _).trans (af fun x s=>?_),fun br s k kx=>rfl⟩
   cases x with
   | lst ds=>
     dsimp only
     have nx:∀ (d:D) (s':Sta),nox (match aH t one d s'.env with
      | some env=>(noX (ev Γ cal cal1 true cond ⟨env,[],s'.st⟩)).bind fun b s2=>(match b with
        | .bl true=>(noX (ev Γ cal cal1 false elt s2)).bind fun e s3=>.ok (some e) ⟨s3.env,[],s3.st⟩
        | .bl false=>.ok none ⟨s2.env,[],s2.st⟩
        | _=>.bad)
      | none=>Out.bad):=fun d s'=>by
      cases aH t one d s'.env with
      | none=>trivial
      | some env=>
        dsimp only
        cases ev Γ cal cal1 true cond ⟨env,[],s'.st⟩ with
        | ok b s2=>cases b with
          | bl b=>cases b with
            | true=>
              show nox ((noX (ev Γ cal cal1 false elt s2)).bind _)
              cases ev Γ cal cal1 false elt s2 <;> trivial
            | false=>trivial
          | _=>trivial
        | _=>trivial
     cases lp with
     | true=>
       rw [ZZ rfl,bh]
       have n2:=dW nx ds [] ⟨Θ t.length none ++ s.env,[],s.st⟩
       exact Ay n2
     | false=>
       rw [ZY ϟ,bh]
       refine (my (f:=fun d s'=>(match aH t one d s'.env with
        | some env=>(noX (ev Γ cal cal1 true cond ⟨env,[],s'.st⟩)).bind fun b s2=>(match b with
          | .bl true=>(noX (ev Γ cal cal1 false elt s2)).bind fun e s3=>.ok (some e) ⟨s3.env,[],s3.st⟩
          | .bl false=>.ok none ⟨s2.env,[],s2.st⟩
          | _=>.bad)
        | none=>.bad)) (fun d s' k'=>?_) ds [] _ _).trans ?_
       ·cases aH t one d s'.env with
        | none=>rfl
        | some env=>
          dsimp only
          refine (ihc.1 _ _ _ _).trans ?_
          show oc (ev Γ cal cal1 true cond ⟨env,[],s'.st⟩) _ (fun _ _ _=>.bad)=_
          rw [sr]
          refine af fun b s2=>?_
          cases b with
          | bl b=>cases b with
            | true=>
              refine (ihe.1 _ _ _ _).trans ?_
              show oc (ev Γ cal cal1 false elt s2) _ (fun _ _ _=>.bad)=_
              rw [sr]
              exact af fun e s3=>rfl
            | false=>rfl
          | _=>rfl
       ·exact yV (dW nx ds [] _)
   | _=>rfl
 | new j es ih=>exact ⟨fun br s k kx=>(ih.2 _ _ _ _).trans (af fun l s=>by
  cases Γ.cl[j]? with
  | none=>rfl
  | some q=>
    dsimp only
    by_cases c1:q.what=1
    ·rw [ZZ c1,ZZ c1];exact ri
    ·rw [ZY c1,ZY c1]
     by_cases c0:q.what=0
     ·rw [ZZ c0,ZZ c0]
      show ac cal cal1 (match cal1 q.init (.ref s.st.length :: l) (s.st ++ [.ins j []]) with | .ok .non st=>k (.ref s.st.length) (aft es s .non st) | _=>.bad)=_
      cases cal1 q.init (.ref s.st.length :: l) (s.st ++ [.ins j []]) with
      | ok d st=>cases d <;> rfl
      | _=>rfl
     ·rw [ZY c0,ZY c0];rfl),fun br s k kx=>rfl⟩
end
def sc (x:av) (kn:Sta→av) (kr:D→Sta→av) (kx:Nat→List D→Sta→av):av:=match x with
 | .nx s=>kn s
 | .rt d s=>kr d s
 | .exc c l s=>kx c l s
 | .bad=>.bad
theorem Bj :sc (x.go f) kn kr kx=oc x (fun a s=>sc (f a s) kn kr kx) kx:=by cases x <;> rfl
theorem aU (h:∀ a s,g a s=sc (f a s) kn kr kx):oc x g kx=sc (x.go f) kn kr kx:=by
 rw [Bj];exact cf h
theorem sU :sc (x.go f) kn kr kx=sc x (fun s=>sc (f s) kn kr kx) kr kx:=by cases x <;> rfl
theorem lr (h:∀ s,kn s=kn' s) (h2:∀ c l s,kx c l s=kx' c l s):sc x kn kr kx=sc x kn' kr kx':=by cases x <;> first | exact h _ | exact h2 _ _ _ | rfl
section
variable {Γ:Gm} {cal cal1:Nat→List D→List O→Res} {lp:Bool}
theorem nF (h:∀ d s k,ac cal cal1 (g d s k)=sc (f d s) (fun s=>ac cal cal1 (k s)) kr kx):∀ (ds) (s) (k:Sta→IT),ac cal cal1 (xp g ds s k)=sc (aR f ds s) (fun s=>ac cal cal1 (k s)) kr kx
 | [],s,k=>rfl
 | d :: r,s,k=>by
   show ac cal cal1 (g d s _)=sc ((f d s).go _) _ _ _
   rw [h,sU]
   exact lr (fun s=>nF h r s k) fun _ _ _=>rfl
theorem eH {kn:Sta→IT} {kr:D→Sta→IT} {kx:Nat→List D→Sta→IT}:ac cal cal1 (.subS x (fun o=>match o with | .nx s=>kn s | .rt d s=>kr d s | .exc c l s=>kx c l s | .bad=>.bad))=sc x (fun s=>ac cal cal1 (kn s)) (fun d s=>ac cal cal1 (kr d s)) (fun c l s=>ac cal cal1 (kx c l s)):=by cases x <;> rfl
theorem Ax {g:D→Sta} {kn:Sta→IT} {kr:D→Sta→av} {kx:Nat→List D→Sta→av}:ac cal cal1 (.opt o fun y=>kn (g y))=sc (match o with | some y=>.nx (g y) | none=>.bad) (fun s=>ac cal cal1 (kn s)) kr kx:=by cases o <;> rfl
theorem uc :exT Γ cal cal1 lp (.app i e) s kn kr kx=(if s.ow.contains i && isLst s.env[i]? then evT Γ cal cal1 lp false e s (fun d s=>if s.ow.contains i then (match s.env[i]? with
 | some (some (.lst l))=>.test (decide (l.length<100000)) fun t=>if t then kn ⟨s.env.set i (some (.lst (l ++ [d]))),s.ow,s.st⟩ else .bad
 | _=>.bad) else .bad) kx else .bad):=rfl
theorem ua :exS Γ cal cal1 (.app i e) s=(if s.ow.contains i && isLst s.env[i]? then (ev Γ cal cal1 false e s).go fun d s=>if s.ow.contains i then (match s.env[i]? with
 | some (some (.lst l))=>if l.length<100000 then .nx ⟨s.env.set i (some (.lst (l ++ [d]))),s.ow,s.st⟩ else .bad
 | _=>.bad) else .bad else .bad):=rfl
theorem ud :exT Γ cal cal1 lp (.ext i e) s kn kr kx=(if s.ow.contains i && isLst s.env[i]? then evT Γ cal cal1 lp false e s (fun d s=>if s.ow.contains i then (match s.env[i]?,d with
 | some (some (.lst l)),.lst x=>.test (decide (l.length+x.length≤100000)) fun t=>if t then kn ⟨s.env.set i (some (.lst (l ++ x))),s.ow,s.st⟩ else .bad
 | _,_=>.bad) else .bad) kx else .bad):=rfl
theorem ub :exS Γ cal cal1 (.ext i e) s=(if s.ow.contains i && isLst s.env[i]? then (ev Γ cal cal1 false e s).go fun d s=>if s.ow.contains i then (match s.env[i]?,d with
 | some (some (.lst l)),.lst x=>if l.length+x.length≤100000 then .nx ⟨s.env.set i (some (.lst (l ++ x))),s.ow,s.st⟩ else .bad
 | _,_=>.bad) else .bad else .bad):=rfl
theorem rj {kn:Sta→IT} {kr:D→Sta→av} {kx:Nat→List D→Sta→av} {c:Prop} [Decidable c] {z:Sta}:ac cal cal1 (.test (decide c) fun t=>if t then kn z else .bad)=sc (if c then .nx z else .bad) (fun s=>ac cal cal1 (kn s)) kr kx:=by
 show ac cal cal1 (if decide c=true then _ else .bad)=_
 by_cases h:c
 ·rw [ZZ (ZW h),ZZ h];rfl
 ·rw [ZY (by simpa using h),ZY h];rfl
theorem qN:∀ c:S,(∀ s kn kr kx,ac cal cal1 (exT Γ cal cal1 lp c s kn kr kx)=sc (exS Γ cal cal1 c s) (fun s=>ac cal cal1 (kn s)) (fun d s=>ac cal cal1 (kr d s)) (fun c l s=>ac cal cal1 (kx c l s))) ∧
 (∀ c' l s kn kr kx,ac cal cal1 (exT.hndT Γ cal cal1 lp c c' l s kn kr kx)=sc (exS.hnd Γ cal cal1 c c' l s) (fun s=>ac cal cal1 (kn s)) (fun d s=>ac cal cal1 (kr d s)) (fun c l s=>ac cal cal1 (kx c l s))):=by
 intro c
 have hb:∀ {c:S},(∀ c' l s kn kr kx,exT.hndT Γ cal cal1 lp c c' l s kn kr kx = .bad)→(∀ c' l s,exS.hnd Γ cal cal1 c c' l s = .bad)→(∀ c' l s kn kr kx,ac cal cal1 (exT.hndT Γ cal cal1 lp c c' l s kn kr kx)=sc (exS.hnd Γ cal cal1 c c' l s) (fun s=>ac cal cal1 (kn s)) (fun d s=>ac cal cal1 (kr d s)) (fun c l s=>ac cal cal1 (kx c l s))):=fun h1 h2 c' l s kn kr kx=>by rw [h1,h2];rfl
 induction c with
 | skip=>exact ⟨fun s kn kr kx=>rfl,fun _ _ _ _ _ _=>rfl⟩
 | seq a b iha ihb=>
   refine ⟨fun s kn kr kx=>(iha.1 _ _ _ _).trans ?_,hb (fun _ _ _ _ _ _=>rfl) fun _ _ _=>rfl⟩
   show _=sc ((exS Γ cal cal1 a s).go fun s=>exS Γ cal cal1 b s) _ _ _
   rw [sU]
   exact lr (fun s=>ihb.1 _ _ _ _) fun _ _ _=>rfl
 | set i e=>exact ⟨fun s kn kr kx=>((bo e).1 _ _ _ _).trans (aU fun d s=>rfl),hb (fun _ _ _ _ _ _=>rfl) fun _ _ _=>rfl⟩
 | setT l e=>exact ⟨fun s kn kr kx=>((bo e).1 _ _ _ _).trans (aU fun d s=>by cases aH l false d s.env <;> rfl),hb (fun _ _ _ _ _ _=>rfl) fun _ _ _=>rfl⟩
 | setR i es=>exact ⟨fun s kn kr kx=>((bo es).2 _ _ _ _).trans (aU fun l s=>by by_cases c:l.length≤100000 <;> simp only [c,if_true,if_false] <;> rfl),hb (fun _ _ _ _ _ _=>rfl) fun _ _ _=>rfl⟩
 | ret e=>exact ⟨fun s kn kr kx=>((bo e).1 _ _ _ _).trans (aU fun d s=>rfl),hb (fun _ _ _ _ _ _=>rfl) fun _ _ _=>rfl⟩
 | ifs c a b iha ihb=>exact ⟨fun s kn kr kx=>((bo c).1 _ _ _ _).trans (aU fun x s=>by
  cases x with
  | bl t=>cases t with
    | true=>exact iha.1 _ _ _ _
    | false=>exact ihb.1 _ _ _ _
  | _=>rfl),hb (fun _ _ _ _ _ _=>rfl) fun _ _ _=>rfl⟩
 | drop e=>exact ⟨fun s kn kr kx=>((bo e).1 _ _ _ _).trans (aU fun d s=>rfl),hb (fun _ _ _ _ _ _=>rfl) fun _ _ _=>rfl⟩
 | app i e=>
   refine ⟨fun s kn kr kx=>?_,hb (fun _ _ _ _ _ _=>rfl) fun _ _ _=>rfl⟩
   rw [uc,ua]
   split
   ·refine ((bo e).1 _ _ _ _).trans (aU fun d s=>?_)
    split
    ·split <;> first | exact rj | rfl
    ·rfl
   ·rfl
 | ext i e=>
   refine ⟨fun s kn kr kx=>?_,hb (fun _ _ _ _ _ _=>rfl) fun _ _ _=>rfl⟩
   rw [ud,ub]
   split
   ·refine ((bo e).1 _ _ _ _).trans (aU fun d s=>?_)
    split
    ·split <;> first | exact rj | rfl
    ·rfl
   ·rfl
 | put a b e=>
   refine ⟨fun s kn kr kx=>?_,hb (fun _ _ _ _ _ _=>rfl) fun _ _ _=>rfl⟩
   cases a with
   | v i=>
     refine ((bo e).1 _ _ _ _).trans (aU fun d s=>?_)
     cases s.env[i]? with
     | none=>rfl
     | some o=>cases o with
       | none=>rfl
       | some x=>
         refine ((bo b).1 _ _ _ _).trans (aU fun y s=>?_)
         cases x with
         | ref n=>
           dsimp only
           cases (s.st[n]?).bind fun o=>ed o y d <;> rfl
         | _=>
           dsimp only
           split
           ·exact Ax
           ·rfl
   | _=>exact eH
 | fld a f e=>exact ⟨fun s kn kr kx=>eH,hb (fun _ _ _ _ _ _=>rfl) fun _ _ _=>rfl⟩
 | aug a f o e=>exact ⟨fun s kn kr kx=>eH,hb (fun _ _ _ _ _ _=>rfl) fun _ _ _=>rfl⟩
 | fapp a f e=>
   refine ⟨fun s kn kr kx=>((bo a).1 _ _ _ _).trans (aU fun x s=>?_),hb (fun _ _ _ _ _ _=>rfl) fun _ _ _=>rfl⟩
   show ac cal cal1 (if xC s.st x=true then _ else .bad)=_
   split
   ·refine ((bo e).1 _ _ _ _).trans (aU fun d s=>?_)
    cases x with
    | ref n=>
      show ac cal cal1 (match s.st[n]? with | some (.lst l)=>.test (decide (l.length<100000)) fun t=>if t then kn ⟨s.env,s.ow,s.st.set n (.lst (l ++ [d]))⟩ else .bad | _=>.bad)=sc (match s.st[n]? with | some (.lst l)=>if l.length<100000 then .nx ⟨s.env,s.ow,s.st.set n (.lst (l ++ [d]))⟩ else .bad | _=>.bad) _ _ _
      cases s.st[n]? with
      | none=>rfl
      | some o=>cases o with
        | lst l=>exact rj
        | _=>rfl
    | _=>rfl
   ·rfl
 | for_ t one it b ih=>
   refine ⟨fun s kn kr kx=>((bo it).1 _ _ _ _).trans (aU fun x s=>?_),hb (fun _ _ _ _ _ _=>rfl) fun _ _ _=>rfl⟩
   cases x with
   | lst ds=>
     dsimp only
     cases lp with
     | true=>rw [ZZ rfl];exact eH
     | false=>
       rw [ZY ϟ]
       refine nF (fun d s k=>?_) ds s kn
       cases aH t one d s.env with
       | none=>rfl
       | some env=>exact ih.1 _ _ _ _
   | _=>rfl
 | whl c b ih=>exact ⟨fun s kn kr kx=>eH,hb (fun _ _ _ _ _ _=>rfl) fun _ _ _=>rfl⟩
 | rais j es=>
   refine ⟨fun s kn kr kx=>((bo es).2 _ _ _ _).trans (aU fun l s=>?_),hb (fun _ _ _ _ _ _=>rfl) fun _ _ _=>rfl⟩
   show ac cal cal1 (if iP Γ j l=true then kx j (pH Γ j l) s else .bad)=_
   split <;> rfl
 | try_ a h iha ihh=>
   refine ⟨fun s kn kr kx=>(iha.1 _ _ _ _).trans ?_,hb (fun _ _ _ _ _ _=>rfl) fun _ _ _=>rfl⟩
   show _=sc (match exS Γ cal cal1 a s with | .exc c l s'=>exS.hnd Γ cal cal1 h c l s' | r=>r) _ _ _
   cases exS Γ cal cal1 a s with
   | exc c l s'=>exact ihh.2 _ _ _ _ _ _
   | _=>rfl
 | hand j i b r ihb ihr=>
   refine ⟨fun s kn kr kx=>eH,fun c' l s kn kr kx=>?_⟩
   cases i with
   | none=>
     show ac cal cal1 (match cQ Γ j c' with | some true=>_ | some false=>exT.hndT Γ cal cal1 lp r c' l s kn kr kx | none=>.bad)=sc (match cQ Γ j c' with | some true=>_ | some false=>exS.hnd Γ cal cal1 r c' l s | none=>.bad) _ _ _
     rcases cQ Γ j c' with _ | (_ | _)
     ·rfl
     ·exact ihr.2 _ _ _ _ _ _
     ·refine (ihb.1 _ _ _ _).trans ?_
      cases exS Γ cal cal1 b s <;> rfl
   | some i=>
     show ac cal cal1 (match cQ Γ j c' with | some true=>_ | some false=>exT.hndT Γ cal cal1 lp r c' l s kn kr kx | none=>.bad)=sc (match cQ Γ j c' with | some true=>_ | some false=>exS.hnd Γ cal cal1 r c' l s | none=>.bad) _ _ _
     rcases cQ Γ j c' with _ | (_ | _)
     ·rfl
     ·exact ihr.2 _ _ _ _ _ _
     ·refine (ihb.1 _ _ _ _).trans ?_
      cases exS Γ cal cal1 b ⟨s.env.set i (some (.ins c' l)),s.ow.filter (· != i),s.st⟩ <;> rfl
inductive An where
 | r (r:Res) | t (n:Nat) (b:Bool) | o (n:Nat) (d:D) | e (d:D) (s:Sta) | x (o:av) | c
end
section
variable (cal cal1:Nat→List D→List O→Res)
def trc:IT→List An→Prop×av
 | .fin o,[]=>(True,o)
 | .fin o,_=>(False,o)
 | .call j ds st k,.r a :: l=>((cal j ds st=a)∧(trc (k a) l).1,(trc (k a) l).2)
 | .call1 j ds st k,.r a :: l=>((cal1 j ds st=a)∧(trc (k a) l).1,(trc (k a) l).2)
 | .call j ds st k,.c :: l=>trc (k (cal j ds st)) l
 | .call1 j ds st k,.c :: l=>trc (k (cal1 j ds st)) l
 | .test b k,.t 0 a :: l=>((b=a)∧(trc (k a) l).1,(trc (k a) l).2)
 | .test b k,.t (n+1) a :: l=>trc (k b) (.t n a :: l)
 | .test b k,.o (n+1) a :: l=>trc (k b) (.o n a :: l)
 | .test b k,l=>trc (k b) l
 | .opt o k,.o 0 a :: l=>((o=some a)∧(trc (k a) l).1,(trc (k a) l).2)
 | .opt (some d) k,.o (n+1) a :: l=>trc (k d) (.o n a :: l)
 | .opt (some d) k,.t (n+1) a :: l=>trc (k d) (.t n a :: l)
 | .opt (some d) k,l=>trc (k d) l
 | .sub o k,.e d s :: l=>((o = .ok d s)∧(trc (k d s) l).1,(trc (k d s) l).2)
 | .subS o k,.x a :: l=>((o=a)∧(trc (k a) l).1,(trc (k a) l).2)
 | _,_=>(False,.bad)
theorem mS:∀ (t) (l),(trc cal cal1 t l).1→ac cal cal1 t=(trc cal cal1 t l).2:=by
 intro t
 induction t with
 | fin o=>intro l h;cases l <;> first | rfl | exact h.elim
 | call j ds st k ih=>
   intro l h
   cases l with
   | nil=>exact h.elim
   | cons a l=>cases a with
     | r a=>obtain ⟨h1,h2⟩:=h;have:=ih a l h2;rw [← h1] at this ⊢;show ac cal cal1 (k (cal j ds st))=_;rw [h1] at this ⊢;exact this
     | c=>exact ih _ l h
     | _=>exact h.elim
 | call1 j ds st k ih=>
   intro l h
   cases l with
   | nil=>exact h.elim
   | cons a l=>cases a with
     | r a=>obtain ⟨h1,h2⟩:=h;show ac cal cal1 (k (cal1 j ds st))=_;rw [h1];exact ih a l h2
     | c=>exact ih _ l h
     | _=>exact h.elim
 | test b k ih=>
   intro l h
   show ac cal cal1 (k b)=_
   cases l with
   | nil=>exact ih b _ h
   | cons a l=>cases a with
     | t n a=>cases n with
       | zero=>obtain ⟨h1,h2⟩:=h;rw [h1];exact ih a l h2
       | succ n=>exact ih b _ h
     | o n a=>cases n with
       | zero=>exact ih b _ h
       | succ n=>exact ih b _ h
     | _=>exact ih b _ h
 | opt o k ih=>
   intro l h
   cases l with
   | nil=>cases o with
     | none=>exact h.elim
     | some d=>exact ih d _ h
   | cons a l=>cases a with
     | o n a=>cases n with
       | zero=>obtain ⟨rfl,h2⟩:=h;exact ih a l h2
       | succ n=>cases o with
         | none=>exact h.elim
         | some d=>exact ih d _ h
     | t n a=>cases n with
       | zero=>cases o with
         | none=>exact h.elim
         | some d=>exact ih d _ h
       | succ n=>cases o with
         | none=>exact h.elim
         | some d=>exact ih d _ h
     | _=>cases o with
        | none=>exact h.elim
        | some d=>exact ih d _ h
 | sub o k ih=>
   intro l h
   cases l with
   | nil=>exact h.elim
   | cons a l=>cases a with
     | e d s=>obtain ⟨rfl,h2⟩:=h;exact ih d s l h2
     | _=>exact h.elim
 | subS o k ih=>
   intro l h
   cases l with
   | nil=>exact h.elim
   | cons a l=>cases a with
     | x a=>obtain ⟨h1,h2⟩:=h;show ac cal cal1 (k o)=_;rw [h1];exact ih a l h2
     | _=>exact h.elim
end
def Bg:av→Res
 | .nx s=>.ok .non s.st
 | .rt d s=>.ok d s.st
 | .exc c l s=>.exc c l s.st
 | .bad=>.bad
def vw (Γ:Gm) (cal cal1:Nat→List D→List O→Res) (lp:Bool) (j:Nat) (ds:List D) (st:List O) (l:List An):Prop×Res:=match Γ.fn[j]? with
 | some f=>if (ds ++ f.df).length=f.np then
  (fun p=>(p.1,Bg p.2)) (trc cal cal1 (exT Γ cal cal1 lp f.body ⟨(ds ++ f.df).map some ++ Θ (f.ns - f.np) none,[],st⟩ (fun s=>.fin (.nx s)) (fun d s=>.fin (.rt d s)) (fun c l s=>.fin (.exc c l s))) l)
   else (False,.bad)
 | none=>(False,.bad)
theorem zh {st:List O} (l:List An) {P:Prop} {r:Res} (hp:P) (h:vw Γ cal cal1 lp j ds st l=(P,r)):ll Γ cal cal1 j ds st=r:=by
 unfold vw at h
 unfold ll
 cases q:Γ.fn[j]? with
 | none=>rw [q] at h;have t:False=P:=ZS Ŏ h;exact (Eq.mpr t hp:False).elim
 | some f=>
   rw [q] at h
   dsimp only at h ⊢
   by_cases c:(ds ++ f.df).length=f.np
   ·rw [ZZ c] at h ⊢
    have h1:=ZS Ŏ h
    have h2:=ZS Dz h
    dsimp only at h1 h2
    have t:=mS cal cal1 _ l (h1 ▸ hp)
    rw [(qN f.body).1] at t
    rw [← h2,← t]
    cases exS Γ cal cal1 f.body ⟨(ds ++ f.df).map some ++ Θ (f.ns - f.np) none,[],st⟩ <;> rfl
   ·rw [ZY c] at h;have t:False=P:=ZS Ŏ h;exact (Eq.mpr t hp:False).elim
theorem aa (lp) {st:List O} (l:List An) {P:Prop} {r:Res} (hp:P) (h:vw Γ (ae Γ n) (aQ Γ n) lp j ds st l=(P,r)):ae Γ (n+1) j ds st=r:=zh l hp h
theorem kf (lp) (l) {P:Prop} {o:av} (hp:P) (h:trc cal cal1 (exT Γ cal cal1 lp c s (fun s=>.fin (.nx s)) (fun d s=>.fin (.rt d s)) (fun c l s=>.fin (.exc c l s))) l=(P,o)):exS Γ cal cal1 c s=o:=by
 have h1:=ZS Ŏ h
 have h2:=ZS Dz h
 dsimp only at h1 h2
 have t:=mS cal cal1 _ l (h1 ▸ hp)
 rw [(qN c).1,h2] at t
 rw [← t]
 cases exS Γ cal cal1 c s <;> rfl
def wu:av→Out D
 | .rt d s=>.ok d s
 | .exc c l s=>.exc c l s
 | _=>.bad
theorem wb (lp) (l) {P:Prop} {o:Out D} (hp:P) (h:(fun p:Prop×av=>(p.1,wu p.2)) (trc cal cal1 (evT Γ cal cal1 lp br e s (fun d s=>.fin (.rt d s)) (fun c l s=>.fin (.exc c l s))) l)=(P,o)):ev Γ cal cal1 br e s=o:=by
 have h1:=ZS Ŏ h
 have h2:=ZS Dz h
 dsimp only at h1 h2
 have t:=mS cal cal1 _ l (h1 ▸ hp)
 rw [(bo e).1] at t
 rw [← h2,← t]
 cases ev Γ cal cal1 br e s <;> rfl
theorem ao (h:f d s = .nx s1) (h2:aR f r s1=o):aR f (d :: r) s=o:=by
 show (f d s).go _=o
 rw [h];exact h2
theorem ki (h:f d s=o) (n:∀ s,o≠.nx s):aR f (d :: r) s=o:=by
 show (f d s).go _=o
 rw [h]
 cases o with
 | nx s=>exact ZX rfl (n s)
 | _=>rfl
theorem fA (h:f d s = .ok (some e) s1) (ha:acc.length<100000) (h2:bt f r (acc ++ [e]) s1=o):bt f (d :: r) acc s=o:=by
 show (f d s).bind _=o
 rw [h]
 show (if acc.length<100000 then bt f r (acc ++ [e]) s1 else .bad)=o
 rw [ZZ ha];exact h2
theorem nV (h:f d s = .ok none s1) (h2:bt f r acc s1=o):bt f (d :: r) acc s=o:=by
 show (f d s).bind _=o
 rw [h];exact h2
def cY:S→S
 | .seq a b=>(match cY a with | .skip=>cY b | x=>x)
 | .ifs _ a b=>(match cY a with | .skip=>cY b | x=>x)
 | .for_ _ _ _ b=>b
 | _=>.skip
def toR:av→Res
 | .nx s=>.ok .non s.st
 | .rt d s=>.ok d s.st
 | .exc c l s=>.exc c l s.st
 | .bad=>.bad
def hdS:Nat→S→S
 | 0,.seq a _=>a
 | n+1,.seq a b=>.seq a (hdS n b)
 | _,s=>s
def tlS:Nat→S→S
 | 0,.seq _ b=>b
 | n+1,.seq _ b=>tlS n b
 | _,_=>.skip
theorem wg (x:av):(x.go fun s=>.nx s)=x:=by cases x <;> rfl
theorem pF (n:Nat) (c:S) (s:Sta):exS Γ cal cal1 c s=(exS Γ cal cal1 (hdS n c) s).go fun s=>exS Γ cal cal1 (tlS n c) s:=by
 induction n generalizing c s with
 | zero=>cases c <;> first | rfl | exact (wg _).symm
 | succ n ih=>
   cases c with
   | seq a b=>
     show (exS Γ cal cal1 a s).go _=((exS Γ cal cal1 a s).go fun s=>exS Γ cal cal1 (hdS n b) s).go _
     cases exS Γ cal cal1 a s with
     | nx s=>exact ih b s
     | _=>rfl
   | _=>exact (wg _).symm
theorem jd (lp) (l) {P:Prop} {r:Res} (hp:P) (h:(fun p:Prop×av=>(p.1,toR p.2)) (trc cal cal1 (exT Γ cal cal1 lp c s (fun s=>.fin (.nx s)) (fun d s=>.fin (.rt d s)) (fun c l s=>.fin (.exc c l s))) l)=(P,r)):toR (exS Γ cal cal1 c s)=r:=by
 have h1:=ZS Ŏ h
 have h2:=ZS Dz h
 dsimp only at h1 h2
 rw [← h2]
 exact ZS toR (kf lp l (h1 ▸ hp) rfl)
theorem b7 {n:Nat} {ds:List D} {st:List O} {r:Res} (k:Nat) (f:Fn) {s':Sta} (hf:Γ.fn[j]? = some f) (hl:(ds ++ f.df).length=f.np) (h1:exS Γ (ae Γ n) (aQ Γ n) (hdS k f.body) ⟨(ds ++ f.df).map some ++ Θ (f.ns - f.np) none,[],st⟩ = .nx s') (h2:toR (exS Γ (ae Γ n) (aQ Γ n) (tlS k f.body) s')=r):ae Γ (n+1) j ds st=r:=by
 show ll Γ (ae Γ n) (aQ Γ n) j ds st=r
 unfold ll
 rw [hf]
 dsimp only
 rw [ZZ hl,pF k,h1,← h2]
 rfl
class ToAn (α:Type) where
 an:Nat→α→An
instance:ToAn Res:=⟨fun _ a=>.r a⟩
instance:ToAn Bool:=⟨fun n b=>.t n b⟩
instance:ToAn (Option D):=⟨fun n o=>match o with | some d=>.o n d | none=>.c⟩
instance:ToAn (Out D):=⟨fun _ o=>match o with | .ok d s=>.e d s | _=>.c⟩
instance:ToAn av:=⟨fun _ o=>.x o⟩
theorem qK {a b:D} (h:isDic a=false):eqT a b=eqv 55 a b:=by cases a <;> first | rfl | cases h
def AL (_:List An) (P:Prop):Prop:=P
theorem aX (n:Nat) {α:Type} [ToAn α] {x a:α} (h:x=a) {l:List An} {P:Prop} (t:AL l P):AL (ToAn.an n a :: l) (x=a∧P):=⟨h,t⟩
theorem aC {l:List An} {P:Prop} (t:AL l P):AL (.c :: l) P:=t
theorem aZ:AL [] True:=Ś
theorem aj (lp) {st:List O} {l:List An} {P:Prop} {r:Res} (hp:AL l P) (h:vw Γ (ae Γ n) (aQ Γ n) lp j ds st l=(P,r)):ae Γ (n+1) j ds st=r:=aa lp l hp h
theorem eE (lp) {l:List An} {P:Prop} {o:av} (hp:AL l P) (h:trc cal cal1 (exT Γ cal cal1 lp c s (fun s=>.fin (.nx s)) (fun d s=>.fin (.rt d s)) (fun c l s=>.fin (.exc c l s))) l=(P,o)):exS Γ cal cal1 c s=o:=kf lp l hp h
theorem pE (lp) {l:List An} {P:Prop} {o:Out D} (hp:AL l P) (h:(fun p:Prop×av=>(p.1,wu p.2)) (trc cal cal1 (evT Γ cal cal1 lp br e s (fun d s=>.fin (.rt d s)) (fun c l s=>.fin (.exc c l s))) l)=(P,o)):ev Γ cal cal1 br e s=o:=wb lp l hp h
theorem aS (lp) {l:List An} {P:Prop} {r:Res} (hp:AL l P) (h:(fun p:Prop×av=>(p.1,toR p.2)) (trc cal cal1 (exT Γ cal cal1 lp c s (fun s=>.fin (.nx s)) (fun d s=>.fin (.rt d s)) (fun c l s=>.fin (.exc c l s))) l)=(P,r)):toR (exS Γ cal cal1 c s)=r:=jd lp l hp h
def jj (Γ:Gm) (cal cal1:Nat→List D→List O→Res) (t:List Nat) (one:Bool) (b:S):D→Sta→av:=fun d s=>match aH t one d s.env with | some env=>exS Γ cal cal1 b ⟨env,s.ow.filter fun i=>!t.contains i,s.st⟩ | none=>.bad
def lcQ (Γ:Gm) (cal cal1:Nat→List D→List O→Res) (t:List Nat) (one:Bool) (elt cond:E):D→Sta→Out (Option D):=fun d s'=>(match aH t one d s'.env with
 | some env=>(noX (ev Γ cal cal1 true cond ⟨env,[],s'.st⟩)).bind fun b s2=>(match b with
   | .bl true=>(noX (ev Γ cal cal1 false elt s2)).bind fun e s3=>.ok (some e) ⟨s3.env,[],s3.st⟩
   | .bl false=>.ok none ⟨s2.env,[],s2.st⟩
   | _=>.bad)
 | none=>.bad)
theorem aF {s:Sta} (hb:aH t one d s.env=some env) (h:exS Γ cal cal1 b ⟨env,s.ow.filter fun i=>!t.contains i,s.st⟩=o):jj Γ cal cal1 t one b d s=o:=by unfold jj;rw [hb];exact h
theorem mx {s:Sta} {cond elt:E} (hb:aH t one d s.env=some env) (hc:ev Γ cal cal1 true cond ⟨env,[],s.st⟩ = .ok (.bl true) s2) (h:ev Γ cal cal1 false elt s2 = .ok e s3):lcQ Γ cal cal1 t one elt cond d s = .ok (some e) ⟨s3.env,[],s3.st⟩:=by
 unfold lcQ
 rw [hb]
 dsimp only
 rw [hc]
 show (noX (ev Γ cal cal1 false elt s2)).bind _=_
 rw [h];rfl
theorem rF {s:Sta} {cond elt:E} (hb:aH t one d s.env=some env) (hc:ev Γ cal cal1 true cond ⟨env,[],s.st⟩ = .ok (.bl false) s2):lcQ Γ cal cal1 t one elt cond d s = .ok none ⟨s2.env,[],s2.st⟩:=by
 unfold lcQ
 rw [hb]
 dsimp only
 rw [hc];rfl
theorem oI {x:E} {f:Nat} {b e:E} (h1:ev Γ cal cal1 false e s = .ok d s1) (h2:ev Γ cal cal1 true (.fld x f) s1 = .ok (.ref n) s2) (h3:ev Γ cal cal1 true b s2 = .ok k s3) (h4:s3.st[n]? = some o) (h5:ed o k d=some o'):exS Γ cal cal1 (.put (.fld x f) b e) s = .nx ⟨s3.env,s3.ow,s3.st.set n o'⟩:=by
 show (ev Γ cal cal1 false e s).go _=_
 rw [h1]
 show (ev Γ cal cal1 true (.fld x f) s1).go _=_
 rw [h2]
 show (ev Γ cal cal1 true b s2).go _=_
 rw [h3]
 show (match (s3.st[n]?).bind fun o=>ed o k d with | some o=>av.nx ⟨s3.env,s3.ow,s3.st.set n o⟩ | none=>.bad)=_
 rw [h4]
 show (match ed o k d with | some o=>av.nx ⟨s3.env,s3.ow,s3.st.set n o⟩ | none=>.bad)=_
 rw [h5]
end L2.Ev
end
section
namespace L2.K63
open L2.Bk L2.Ev
def top (i:Nat):Ô:=PySem.Challenge.pw_blamewise_k63_told_is_plain.main.body.getD i (.Pass ⟨0,0,0,0⟩)
def aL (s:Ô) (j:Nat):Ô:=match s with
 | .ClassDef _ _ _ body _ _ _ _ _ _ _=>body.getD j (.Pass ⟨0,0,0,0⟩)
 | _=>.Pass ⟨0,0,0,0⟩
def fnl:List (ι×Ô):=(Ĩ [("steps",top 10),("kinds_in",top 11),("with_kinds",top 12),("depth",top 13),("part",top 15),("stepped",top 16),("parting",top 18),("join",top 19),("form",top 22),("indexes",top 23),("parts",top 24),("written",top 25),("places",top 26),("need_names",top 27),("need_bound",top 28),("names_bound",top 29)] (Ĩ [("looked",top 37),("need_shallow",top 39),("need_same",top 40),("bound_within",top 41),("wanted_kind",top 42),("own_kind",top 43),("looks_of",top 58),("made_looks",top 59),("alone",top 69),("looks_beside",top 72),("thing_of",top 75),("text_of",top 76),("shown",top 77),("thing_shown",top 78),("leaf_value",top 83),("need_head",top 84)] (Ĩ [("deed",top 85),("reckoned",top 86),("reckoned_number",top 87),("thing_at",top 88),("names_with",top 89),("names_in_call",top 90),("node_called",top 91),("walked",top 93),("run",top 96),("run",top 96),("plain",top 98),("_law_words",top 100),("_law_next",top 101),("_law_place",top 102),("_law_number",top 103),("_law_kind",top 104)] [("_law_more",top 105),("_law_leaf",top 106),("_law_built",top 107),("_law_flat",top 108),("_law_loop",top 109),("_law_node",top 110),("_law_cell_at",top 111),("_law_numbers",top 112),("_law_program",top 113),("_law_alike",top 114),("law",top 115)])))
def mel:List (ι×ι×Ô):=[("__init__","Looker.__init__",aL (top 38) 0),("look","Looker.look",aL (top 38) 1),("hold","Looker.hold",aL (top 38) 2),("hold_choice","Looker.hold_choice",aL (top 38) 3),("want","Looker.want",aL (top 38) 4),("__init__","Giver.__init__",aL (top 68) 0),("give_all","Giver.give_all",aL (top 68) 2),("give_in_call","Giver.give_in_call",aL (top 68) 3),("__init__","Walker.__init__",aL (top 94) 0),("come_to","Walker.come_to",aL (top 94) 1),("value_of","Walker.value_of",aL (top 94) 2),("called","Walker.called",aL (top 94) 3)]
def gll:List (ι×Dk):=[("UNTOLD",(.tup [(.str "?")])),("ALL_STEPS",(.tup [(.str "arg"),(.str "res"),(.str "item"),(.str "one"),(.str "two")])),("LEAVES",(.tup [(.str "whole"),(.str "truth"),(.str "given"),(.str "name"),(.str "fn"),(.str "self")])),("MOST_FIGURES",(.int 40)),("MOST_LEVEL",(.int 3)),("TRUTH",(.tup [(.str "truth")])),("WHOLE",(.tup [(.str "whole")])),("MOST_DEPTH",(.int 4))]
def vC:List (ι×Dk):=[("whole",(.tup [(.str "number")])),("truth",(.tup [(.str "truth")])),("given",(.tup [(.str "given")])),("name",(.tup [(.str "name")])),("fn",(.tup [(.str "name"),(.str "kind"),(.str "node")])),("self",(.tup [(.str "name"),(.str "name"),(.str "kind"),(.str "kind"),(.str "node")])),("call",(.tup [(.str "node"),(.str "node")])),("let",(.tup [(.str "name"),(.str "node"),(.str "node")])),("if",(.tup [(.str "node"),(.str "node"),(.str "node")])),("do",(.tup [(.str "sign"),(.str "node"),(.str "node")])),("row",(.tup [(.str "kind"),(.str "nodes")])),("at",(.tup [(.str "node"),(.str "node")])),("size",(.tup [(.str "node")])),("pair",(.tup [(.str "node"),(.str "node")])),("one",(.tup [(.str "node")])),("two",(.tup [(.str "node")])),("as",(.tup [(.str "kind"),(.str "node")])),("look",(.tup [(.str "put in"),(.str "put in"),(.str "node")]))]
def vD:List (ι×Dk):=[("whole",(.tup [])),("truth",(.tup [])),("?",(.tup [])),("to",(.tup [(.str "arg"),(.str "res")])),("row",(.tup [(.str "item")])),("pair",(.tup [(.str "one"),(.str "two")]))]
def gR:List (ι×Dk):=[("call",(.tup [(.str "to")])),("if",(.tup [(.str "truth")])),("do",(.tup [(.str "whole"),(.str "whole")])),("at",(.tup [(.str "row"),(.str "whole")])),("size",(.tup [(.str "row")])),("one",(.tup [(.str "pair")])),("two",(.tup [(.str "pair")]))]
def jX:List (ι×Dk):=[("whole",(.tup [(.str "whole")])),("given",(.tup [(.str "whole")])),("size",(.tup [(.str "whole")])),("truth",(.tup [(.str "truth")]))]
def ly:List (ι×Dk):=[("call",(.tup [(.str "res")])),("at",(.tup [(.str "item")])),("one",(.tup [(.str "one")])),("two",(.tup [(.str "two")]))]
def s9:List (ι×Dk):=[("call",(.tup [(.str "to"),(.tup [(.str "?")]),(.tup [(.str "?")])])),("at",(.tup [(.str "row"),(.tup [(.str "?")])])),("size",(.tup [(.str "row"),(.tup [(.str "?")])])),("one",(.tup [(.str "pair"),(.tup [(.str "?")]),(.tup [(.str "?")])])),("two",(.tup [(.str "pair"),(.tup [(.str "?")]),(.tup [(.str "?")])]))]
def tbl:List (ι×List (ι×Dk)):=[("FORMS",vC),("STEPS",vD),("NEEDED_HEADS",gR),("SURE_KINDS",jX),("TAKEN_OUT",ly),("NEEDED",s9)]
def T:Ns where
 gl:=gll.map (·.1)
 tb:=tbl.map (·.1)
 fn:=fnl.map (·.1)
 at_:=["kinds","wanted","outcome","head","held","guards","tag","left","together","notes","looks","numbers","giver"]
 bl:=["len","dict","tuple","range","int","list","enumerate","reversed","zip","str","abs","sum","isinstance","max","bool"]
 rf:=["_law_deal"]
 me:=[("look",1,60),("hold",1,61),("hold_choice",1,62),("want",1,63),("give_all",4,65),("give_in_call",4,66),("come_to",5,68),("value_of",5,69),("called",5,70)]
 ex:=["","","Ended","","",""]
 nd:=["","","","Value","",""]
 nw:=["","Looker","","","Giver","Walker"]
 hx:=["BlameError","","Ended","","",""]
 hc:=["plain","run","made_looks"]
 xt:=["","","","","",""]
 dn:=[("run",3,41)]
def vrl:List (List ι×List (ι×Nat)×List ι×List ι):=(Ĩ [(T.mu,T.alt,T.fc,T.oc),(T.mu,T.alt,T.fc,T.oc),(T.mu,T.alt,T.fc,T.oc),(T.mu,T.alt,T.fc,T.oc),(T.mu,T.alt,T.fc,T.oc),(T.mu,T.alt,T.fc,T.oc),(T.mu,T.alt,T.fc,T.oc),(T.mu,T.alt,T.fc,T.oc),(T.mu,T.alt,T.fc,T.oc),(T.mu,T.alt,T.fc,T.oc),(T.mu,T.alt,T.fc,T.oc),(T.mu,T.alt,T.fc,T.oc),(T.mu,T.alt,T.fc,T.oc),(T.mu,T.alt,T.fc,T.oc),(T.mu,T.alt,T.fc,T.oc),(T.mu,T.alt,T.fc,T.oc)] (Ĩ [(T.mu,T.alt,T.fc,T.oc),(T.mu,T.alt,T.fc,T.oc),(T.mu,T.alt,T.fc,T.oc),(T.mu,T.alt,T.fc,T.oc),(T.mu,T.alt,T.fc,T.oc),(T.mu,T.alt,T.fc,T.oc),(T.mu,T.alt,T.fc,T.oc),(T.mu,T.alt,T.fc,T.oc),(T.mu,T.alt,T.fc,T.oc),(T.mu,T.alt,T.fc,T.oc),(T.mu,T.alt,T.fc,T.oc),(T.mu,T.alt,T.fc,T.oc),(T.mu,T.alt,T.fc,T.oc),(T.mu,T.alt,T.fc,T.oc),(T.mu,T.alt,T.fc,T.oc),(T.mu,T.alt,T.fc,T.oc)] (Ĩ [(T.mu,T.alt,T.fc,T.oc),(T.mu,T.alt,T.fc,T.oc),(T.mu,T.alt,T.fc,T.oc),(T.mu,T.alt,T.fc,T.oc),(T.mu,T.alt,T.fc,T.oc),(T.mu,T.alt,T.fc,T.oc),(T.mu,T.alt,T.fc,T.oc),(T.mu,T.alt,T.fc,T.oc),(T.mu,T.alt,T.fc,T.oc),(["#d"],T.alt,T.fc,T.oc),(T.mu,T.alt,T.fc,T.oc),(T.mu,T.alt,T.fc,T.oc),(T.mu,T.alt,T.fc,T.oc),(T.mu,T.alt,T.fc,T.oc),(T.mu,T.alt,T.fc,T.oc),(T.mu,T.alt,T.fc,T.oc)] (Ĩ [(T.mu,T.alt,T.fc,T.oc),(T.mu,T.alt,T.fc,T.oc),(T.mu,T.alt,T.fc,T.oc),(T.mu,T.alt,T.fc,T.oc),(T.mu,T.alt,T.fc,T.oc),(T.mu,T.alt,T.fc,T.oc),(T.mu,T.alt,T.fc,T.oc),(T.mu,T.alt,T.fc,T.oc),(T.mu,T.alt,T.fc,T.oc),(T.mu,T.alt,T.fc,T.oc),(T.mu,T.alt,T.fc,T.oc),(T.mu,T.alt,T.fc,T.oc),(T.mu,T.alt,T.fc,T.oc),(T.mu,T.alt,T.fc,T.oc),(T.mu,T.alt,T.fc,T.oc),(T.mu,T.alt,T.fc,T.oc)] [(T.mu,T.alt,T.fc,T.oc),(T.mu,T.alt,T.fc,T.oc),(T.mu,T.alt,T.fc,T.oc),(T.mu,T.alt,T.fc,T.oc),(T.mu,T.alt,T.fc,T.oc),(T.mu,T.alt,T.fc,T.oc),(T.mu,T.alt,T.fc,T.oc)]))))
def Γ:Gm:=⟨gll.map (·.2),tbl.map (·.2),(((fnl.map fun p=>(p.1,p.1,p.2)) ++ mel).zip vrl).map fun p=>cT { T with mu:=p.2.1,alt:=p.2.2.1,fc:=p.2.2.2.1,oc:=p.2.2.2.2 } p.1.2.2,[⟨2,[],0,[],[],[]⟩,⟨0,[0,1],59,[],[],[]⟩,⟨2,[2],0,[],[],[]⟩,⟨1,[3,4,5,6],0,[],[],[]⟩,⟨0,[7,8,9],64,[],[],[]⟩,⟨0,[10,11,12],67,[],[],[]⟩]⟩
abbrev mq:Nat:=1
abbrev um:Nat:=3
abbrev pK:Nat:=6
abbrev xF:Nat:=7
abbrev uo:Nat:=10
abbrev pM:Nat:=11
def qQ:Fn:=cT T (top 26)
abbrev kO:Nat:=12
abbrev jw:Nat:=13
def jg:Fn:=cT T (top 28)
abbrev dQ:Nat:=14
abbrev ib:Nat:=15
abbrev rq:Nat:=16
abbrev gb:Nat:=17
abbrev kN:Nat:=18
abbrev cW:Nat:=19
abbrev bQ:Nat:=20
abbrev cb:Nat:=21
abbrev mt:Nat:=22
abbrev ju:Nat:=23
abbrev uk:Nat:=24
abbrev f9:Nat:=25
abbrev mw:Nat:=26
abbrev pL:Nat:=27
abbrev nQ:Nat:=28
abbrev bf:Nat:=29
abbrev dP:Nat:=30
abbrev kM:Nat:=31
abbrev xE:Nat:=32
abbrev gc:Nat:=33
abbrev dR:Nat:=34
abbrev mv:Nat:=35
abbrev jv:Nat:=36
abbrev fh:Nat:=37
abbrev ie:Nat:=38
abbrev rr:Nat:=39
abbrev AC:Nat:=40
abbrev xG:Nat:=41
abbrev uq:Nat:=42
def je:Fn:=cT T (top 100)
abbrev jt:Nat:=43
abbrev kK:Nat:=44
abbrev jr:Nat:=45
abbrev ia:Nat:=46
abbrev kH:Nat:=47
abbrev kJ:Nat:=48
def eU:Fn:=cT T (top 106)
abbrev eX:Nat:=49
abbrev jq:Nat:=50
abbrev kF:Nat:=51
abbrev kI:Nat:=52
def bU:Fn:=cT T (top 110)
abbrev kL:Nat:=53
abbrev fX:Nat:=54
def fT:Fn:=cT T (top 112)
abbrev fY:Nat:=55
abbrev fZ:Nat:=56
abbrev jp:Nat:=57
abbrev AB:Nat:=58
def dD:Fn:=cT T (aL (top 38) 1)
abbrev cB:Nat:=60
abbrev cA:Nat:=61
abbrev cV:Nat:=62
def hX:Fn:=cT T (aL (top 38) 4)
abbrev hZ:Nat:=63
abbrev eJ:Nat:=65
abbrev bV:Nat:=66
abbrev cv:Nat:=67
abbrev aA:Nat:=68
def aK:Fn:=cT T (aL (top 94) 2)
abbrev bG:Nat:=69
abbrev fg:Nat:=70
end L2.K63
end
section
namespace L2.K63
open L2.Bw L2.Bk L2.Ev
theorem A {a b:Prop} (x:a) (y:b):a∧b:=⟨x,y⟩
theorem Z:True:=Ś
inductive Sg where
 | add | sub | mul | lt | eq
 deriving DecidableEq
def Sg.str:Sg→ι
 | .add=>"+" | .sub=>"-" | .mul=>"*" | .lt=>"<" | .eq=>"="
inductive Kd where
 | whole | truth | to (a b:Kd) | row (a:Kd) | pair (a b:Kd)
 deriving DecidableEq
def Kd.dep:Kd→Nat
 | .to a b=>1+max a.dep b.dep
 | .row a=>1+a.dep
 | .pair a b=>1+max a.dep b.dep
 | _=>1
def Sm (p:Int):Prop:=0≤p∧p<100000
def Kd.toD:Kd→D
 | .whole=>.tup [.str "whole"]
 | .truth=>.tup [.str "truth"]
 | .to a b=>.tup [.str "to",a.toD,b.toD]
 | .row a=>.tup [.str "row",a.toD]
 | .pair a b=>.tup [.str "pair",a.toD,b.toD]
inductive T68 where
 | whole (p v:Int) | truth (p:Int) (b:Bool) | given (p:Int) (i:Nat) | name (p:Int) (x:ι) | fn (p:Int) (x:ι) (k:Kd) (b:T68) | slf (p:Int) (f x:ι) (k g:Kd) (b:T68)
 | lt (p:Int) (x:ι) (a b:T68) | iff (p:Int) (c a b:T68) | call (p:Int) (a b:T68) | bin (p:Int) (o:Sg) (a b:T68) | as_ (p:Int) (k:Kd) (a:T68)
 | row (p:Int) (k:Kd) (ts:List T68) | pair (p:Int) (a b:T68) | att (p:Int) (a b:T68) | size (p:Int) (a:T68) | one (p:Int) (a:T68) | two (p:Int) (a:T68)
mutual
noncomputable def T68.toD:T68→D
 | .whole p v=>.tup [.str "whole",.int p,.int v]
 | .truth p b=>.tup [.str "truth",.int p,.bl b]
 | .given p i=>.tup [.str "given",.int p,.int i]
 | .name p x=>.tup [.str "name",.int p,.str x]
 | .fn p x k b=>.tup [.str "fn",.int p,.str x,k.toD,b.toD]
 | .slf p f x k g b=>.tup [.str "self",.int p,.str f,.str x,k.toD,g.toD,b.toD]
 | .lt p x a b=>.tup [.str "let",.int p,.str x,a.toD,b.toD]
 | .iff p c a b=>.tup [.str "if",.int p,c.toD,a.toD,b.toD]
 | .call p a b=>.tup [.str "call",.int p,a.toD,b.toD]
 | .bin p o a b=>.tup [.str "do",.int p,.str o.str,a.toD,b.toD]
 | .as_ p k a=>.tup [.str "as",.int p,k.toD,a.toD]
 | .row p k ts=>.tup [.str "row",.int p,k.toD,.tup (toDs ts)]
 | .pair p a b=>.tup [.str "pair",.int p,a.toD,b.toD]
 | .att p a b=>.tup [.str "at",.int p,a.toD,b.toD]
 | .size p a=>.tup [.str "size",.int p,a.toD]
 | .one p a=>.tup [.str "one",.int p,a.toD]
 | .two p a=>.tup [.str "two",.int p,a.toD]
noncomputable def toDs:List T68→List D
 | []=>[]
 | t :: r=>t.toD :: toDs r
end
def T68.pl:T68→Int
 | .whole p _=>p | .truth p _=>p | .given p _=>p | .name p _=>p | .fn p _ _ _=>p | .slf p _ _ _ _ _=>p | .lt p _ _ _=>p | .iff p _ _ _=>p | .call p _ _=>p | .bin p _ _ _=>p | .as_ p _ _=>p
 | .row p _ _=>p | .pair p _ _=>p | .att p _ _=>p | .size p _=>p | .one p _=>p | .two p _=>p
def ak:T68→List T68
 | .fn _ _ _ b=>[b]
 | .slf _ _ _ _ _ b=>[b]
 | .lt _ _ a b=>[a,b]
 | .iff _ c a b=>[c,a,b]
 | .call _ a b=>[a,b]
 | .bin _ _ a b=>[a,b]
 | .as_ _ _ a=>[a]
 | .row _ _ ts=>ts
 | .pair _ a b=>[a,b]
 | .att _ a b=>[a,b]
 | .size _ a=>[a]
 | .one _ a=>[a]
 | .two _ a=>[a]
 | _=>[]
def bnd:T68→Nat→List ι
 | .fn _ x _ _,_=>[x]
 | .slf _ f x _ _ _,_=>[f,x]
 | .lt _ x _ _,1=>[x]
 | _,_=>[]
def wks:T68→List Kd
 | .fn _ _ k _=>[k]
 | .slf _ _ _ k g _=>[k,g]
 | .as_ _ k _=>[k]
 | .row _ k _=>[k]
 | _=>[]
def own (W bs:List ι):T68→Prop
 | .whole _ v=>v.natAbs<10 ^ 40
 | .given _ i=>i<8
 | .name _ x=>x∈bs
 | .fn _ x _ _=>x∈W
 | .slf _ f x _ _ _=>f∈W∧x∈W
 | .lt _ x _ _=>x∈W
 | .row _ _ ts=>ts.length≤4
 | _=>True
def Ok (W:List ι):Nat→List ι→T68→Prop
 | 0,_,_=>False
 | n+1,bs,t=>own W bs t∧Sm t.pl∧(∀ k∈wks t,k.dep≤8)∧∀ i k,(ak t)[i]? = some k→Ok W n (bs ++ bnd t i) k
theorem Bc (t:T68):ixD t.toD (.int 1)=some (.int t.pl):=by cases t <;> rfl
theorem rR (t:T68) (st:List O):look st t.toD=t.toD:=by cases t <;> rfl
theorem d9 (t:T68) (st:List O):ixD (look st t.toD) (.int 1)=some (.int t.pl):=by rw [rR];exact Bc t
theorem gm {W:List ι} {bs:List ι} {t:T68} (h:own W bs t):(ak t).length≤4:=by
 cases t with
 | row p kd ts=>exact h
 | _=>exact Ξ rfl
theorem eN (t:T68) (n:Nat) (st:List O):ae Γ (n+3) uo [t.toD] st = .ok (.lst (toDs (ak t))) st:=by
 cases t <;> kernel_rfl
def sts (l:List ι):List D:=l.map D.str
theorem yR (t:T68) (i:Nat) (k:T68) (h:(ak t)[i]? = some k) (n:Nat) (st:List O):ae Γ (n+1) ib [t.toD,.int i] st = .ok (.tup (sts (bnd t i))) st:=by
 cases t with
 | lt p x a b=>
   match i,h with
   | 0,h=>kernel_rfl
   | 1,h=>kernel_rfl
   | i+2,h=>cases h
 | _=>kernel_rfl
theorem xk (x y:ι):eqv 55 (.str x) (.str y)=some (decide (x=y)):=by
 show some (x == y)=_
 by_cases h:x=y
 ·subst h;simp
 ·simp [h]
theorem nK (x:ι):∀ l:List ι,inD (.str x) (sts l)=some (decide (x∈l))
 | []=>by simp [sts,inD]
 | y :: r=>by
   show (match eqv 55 (.str y) (.str x) with | none=>none | some b=>(inD (.str x) (sts r)).map (b || ·))=_
   rw [xk,nK x r]
   by_cases h:y=x
   ·simp [h]
   ·have h2:¬ x=y:=fun e=>h e.symm
    simp [h,h2]
theorem notin {x:ι} {l:List ι} (h:x∈l):opD .notin (.str x) (.tup (sts l))=some (.bl false):=by
 show (inD (.str x) (sts l)).map (fun b=>D.bl (!b))=_
 rw [nK];simp [h]
theorem Cu (t:T68) (n:Nat) (st:List O):ae Γ (n+3) pM [t.toD] st = .ok (.lst ((wks t).map Kd.toD)) st:=by
 cases t <;> kernel_rfl
theorem cS (n:Nat) (st:List O) (h x:D):ae Γ (n+1) uk [h,x] st = .ok (.ins 3 [h,x,.tup [],.non]) st:=by kernel_rfl
end L2.K63
end
section
namespace L2.K63
open L2.Bk L2.Ev
theorem jy (k:Kd) (st:List O):look st k.toD=k.toD:=by cases k <;> rfl
theorem u6 (a b:Nat):L2.Bw.maxD 0 [(a:Int),(b:Int)]=((max a b:Nat):Int):=by
 show (if (b:Int)>(a:Int) then (b:Int) else (a:Int))=_
 by_cases h:(b:Int)>(a:Int)
 ·rw [ZZ h];have:max a b=b:=Nat.max_eq_right (by omega);rw [this]
 ·rw [ZY h];have:max a b=a:=Nat.max_eq_left (by omega);rw [this]
theorem kin (k:Kd) (l:List D) (h:k.toD = .tup (D.str h0 :: l)) (n:Nat) (st:List O):ae Γ (n+1) mq [k.toD] st = .ok (.lst l) st:=by
 cases k <;> (cases h;kernel_rfl)
theorem iW (m:Nat):opD .add (.int 1) (.int (m:Nat))=some (.int ((1+m:Nat):Int)):=by
 show some (D.int (1+(m:Int)))=_;congr 2
theorem u8 (a:Nat):biD .max0 [.lst [.int (a:Nat)],.int 0]=some (.int (a:Nat)):=rfl
theorem og (a b:Nat):biD .max0 [.lst [.int (a:Nat),.int (b:Nat)],.int 0]=some (.int ((max a b:Nat):Int)):=by
 show some (D.int (L2.Bw.maxD 0 [(a:Int),(b:Int)]))=_;rw [u6]
theorem depth:∀ (k:Kd) (N:Nat),k.dep+1≤N→∀ st,ae Γ N um [k.toD] st = .ok (.int (k.dep:Nat)) st
 | .whole,N,h,st=>by obtain ⟨n,rfl⟩:∃ n,N=n+2:=⟨N - 2,by unfold Kd.dep at h;omega⟩;kernel_rfl
 | .truth,N,h,st=>by obtain ⟨n,rfl⟩:∃ n,N=n+2:=⟨N - 2,by unfold Kd.dep at h;omega⟩;kernel_rfl
 | .row a,N,h,st=>by
   unfold Kd.dep at h
   obtain ⟨n,rfl⟩:∃ n,N=n+2:=⟨N - 2,by omega⟩
   have i1:=depth a (n+1) (by omega) st
   exact aa false [.r (.ok (.lst [a.toD]) st),.r (.ok (.int (a.dep:Nat)) st),.o 0 (.int (a.dep:Nat)),.o 0 (.int ((1+a.dep:Nat):Int))] (kin (.row a) [a.toD] rfl n st<|>i1<|>u8 a.dep<|>iW a.dep<|>Z) (by kernel_rfl)
 | .to a b,N,h,st=>by
   unfold Kd.dep at h
   obtain ⟨n,rfl⟩:∃ n,N=n+2:=⟨N - 2,by omega⟩
   have i1:=depth a (n+1) (by omega) st
   have i2:=depth b (n+1) (by omega) st
   exact aa false [.r (.ok (.lst [a.toD,b.toD]) st),.r (.ok (.int (a.dep:Nat)) st),.r (.ok (.int (b.dep:Nat)) st),.o 0 (.int ((max a.dep b.dep:Nat):Int)),.o 0 (.int ((1+max a.dep b.dep:Nat):Int))] (kin (.to a b) [a.toD,b.toD] rfl n st<|>i1<|>i2<|>og a.dep b.dep<|>iW (max a.dep b.dep)<|>Z) (by kernel_rfl)
 | .pair a b,N,h,st=>by
   unfold Kd.dep at h
   obtain ⟨n,rfl⟩:∃ n,N=n+2:=⟨N - 2,by omega⟩
   have i1:=depth a (n+1) (by omega) st
   have i2:=depth b (n+1) (by omega) st
   exact aa false [.r (.ok (.lst [a.toD,b.toD]) st),.r (.ok (.int (a.dep:Nat)) st),.r (.ok (.int (b.dep:Nat)) st),.o 0 (.int ((max a.dep b.dep:Nat):Int)),.o 0 (.int ((1+max a.dep b.dep:Nat):Int))] (kin (.pair a b) [a.toD,b.toD] rfl n st<|>i1<|>i2<|>og a.dep b.dep<|>iW (max a.dep b.dep)<|>Z) (by kernel_rfl)
theorem bD:∀ (k:Kd) (N:Nat),k.dep+2≤N→∀ st,ae Γ N xF [k.toD,k.toD] st = .ok k.toD st
 | k,N,h,st=>by
   obtain ⟨n,rfl⟩:∃ n,N=n+3:=⟨N - 3,by cases k <;> (unfold Kd.dep at h;omega)⟩
   cases k with
   | whole=>kernel_rfl
   | truth=>kernel_rfl
   | row a=>
     unfold Kd.dep at h
     exact (aj false (aC (aC (aX 0 (bD a (n+2) (by omega) st) (aC aZ)))) (by kernel_rfl))
   | to a b=>
     unfold Kd.dep at h
     exact (aj false (aC (aC (aX 0 (bD a (n+2) (by omega) st) (aX 0 (bD b (n+2) (by omega) st) (aC aZ))))) (by kernel_rfl))
   | pair a b=>
     unfold Kd.dep at h
     exact (aj false (aC (aC (aX 0 (bD a (n+2) (by omega) st) (aX 0 (bD b (n+2) (by omega) st) (aC aZ))))) (by kernel_rfl))
theorem cG:∀ (k:Kd) (N:Nat),k.dep+2≤N→∀ st,ae Γ N pK [k.toD,k.toD] st = .ok .non st
 | k,N,h,st=>by
   obtain ⟨n,rfl⟩:∃ n,N=n+3:=⟨N - 3,by cases k <;> (unfold Kd.dep at h;omega)⟩
   cases k with
   | whole=>kernel_rfl
   | truth=>kernel_rfl
   | row a=>
     unfold Kd.dep at h
     exact (aj false (aC (aC (aC (aX 0 (cG a (n+2) (by omega) st) aZ)))) (by kernel_rfl))
   | to a b=>
     unfold Kd.dep at h
     exact (aj false (aC (aC (aC (aX 0 (cG a (n+2) (by omega) st) (aX 0 (cG b (n+2) (by omega) st) aZ))))) (by kernel_rfl))
   | pair a b=>
     unfold Kd.dep at h
     exact (aj false (aC (aC (aC (aX 0 (cG a (n+2) (by omega) st) (aX 0 (cG b (n+2) (by omega) st) aZ))))) (by kernel_rfl))
theorem eK:∀ (n:Nat) (a:Kd),a.dep≤n→eqv n a.toD a.toD=some true
 | 0,a,h=>by cases a <;> (unfold Kd.dep at h;omega)
 | n+1,a,h=>by
   have s:∀ x:ι,eqv n (.str x) (.str x)=some true:=fun x=>by
    have:eqv n (.str x) (.str x)=some (x == x):=by cases n <;> rfl
    rw [this,ZT]
   cases a with
   | whole=>show (match eqv n (.str "whole") (.str "whole") with | none=>none | some x=>some (x && true)).map (· && true)=_;rw [s];rfl
   | truth=>show (match eqv n (.str "truth") (.str "truth") with | none=>none | some x=>some (x && true)).map (· && true)=_;rw [s];rfl
   | row a=>
     unfold Kd.dep at h
     show (match eqv n (.str "row") (.str "row") with | none=>none | some x=>(match eqv n a.toD a.toD with | none=>none | some x=>some (x && true)).map (x && ·)).map (· && true)=_
     rw [s,eK n a (by omega)];rfl
   | to a b=>
     unfold Kd.dep at h
     show (match eqv n (.str "to") (.str "to") with | none=>none | some x=>(match eqv n a.toD a.toD with | none=>none | some x=>(match eqv n b.toD b.toD with | none=>none | some x=>some (x && true)).map (x && ·)).map (x && ·)).map (· && true)=_
     rw [s,eK n a (by omega),eK n b (by omega)];rfl
   | pair a b=>
     unfold Kd.dep at h
     show (match eqv n (.str "pair") (.str "pair") with | none=>none | some x=>(match eqv n a.toD a.toD with | none=>none | some x=>(match eqv n b.toD b.toD with | none=>none | some x=>some (x && true)).map (x && ·)).map (x && ·)).map (· && true)=_
     rw [s,eK n a (by omega),eK n b (by omega)];rfl
theorem AZ (k:Kd) (h:k.dep≤55) (st:List O):opD .ne (look st k.toD) (look st k.toD)=some (.bl false):=by
 rw [jy]
 show (eqT k.toD k.toD).map (fun x=>D.bl (!x))=_
 rw [qK (by cases k <;> rfl),eK 55 k h];rfl
abbrev AlG (β:Type):=List (Key×β)
abbrev Al:=AlG Kd
def ai {β:Type} (l:AlG β) (k:Key) (v:β):AlG β:=if (l.any fun p=>decide (p.1=k))=true then l.map (fun p=>if p.1=k then (p.1,v) else p) else l ++ [(k,v)]
def aP {β:Type}:AlG β→Key→Option β
 | [],_=>none
 | p :: r,k=>if p.1=k then some p.2 else aP r k
def ksA {β:Type} (l:AlG β):List Key:=l.map (·.1)
def dsF {β:Type} (f:β→D) (l:AlG β):List D:=l.map fun p=>f p.2
abbrev dsA (l:Al):List D:=dsF Kd.toD l
abbrev dA (l:Al):D:=.dic (ksA l) (dsA l)
abbrev oA (l:Al):O:=.dic (ksA l) (dsA l)
theorem ww {β:Type} (f:β→D) (k:Key) (v:β):∀ l:AlG β,fj (ksA l) (dsF f l) k (f v)=dsF f (l.map fun p=>if p.1=k then (p.1,v) else p)
 | []=>rfl
 | p :: r=>by
   show (if p.1=k then f v else f p.2) :: fj (ksA r) (dsF f r) k (f v)=f (if p.1=k then (p.1,v) else p).2 :: dsF f _
   rw [ww f k v r]
   by_cases h:p.1=k <;> simp [h]
theorem rB {β:Type} (k:Key) (v:β) (l:AlG β):ksA (l.map fun p=>if p.1=k then (p.1,v) else p)=ksA l:=by
 unfold ksA
 rw [Gp]
 refine EG fun p _=>?_
 show (if p.1=k then (p.1,v) else p).1=p.1
 by_cases h:p.1=k <;> simp [h]
theorem wv {β:Type} (f:β→D) (l:AlG β) (k:Key) (v:β):bE (ksA l) (dsF f l) k (f v)=(ksA (ai l k v),dsF f (ai l k v)):=by
 unfold bE ai
 have e:((ksA l).any fun q=>decide (q=k))=l.any fun p=>decide (p.1=k):=by unfold ksA;rw [List.any_map];rfl
 rw [e]
 by_cases h:(l.any fun p=>decide (p.1=k))=true
 ·rw [ZZ h,ZZ h,ww,rB]
 ·rw [ZY h,ZY h];simp [ksA,dsF]
theorem wf {β:Type} (f:β→D) (k:Key):∀ l:AlG β,bW (ksA l) (dsF f l) k=(aP l k).map f
 | []=>rfl
 | p :: r=>by
   show (if p.1=k then some (f p.2) else bW (ksA r) (dsF f r) k)=(if p.1=k then some p.2 else aP r k).map f
   rw [wf f k r]
   by_cases h:p.1=k <;> simp [h]
theorem nI (k:Key) (l:Al):bW (ksA l) (dsA l) k=(aP l k).map Kd.toD:=wf _ k l
theorem aO {β:Type} (l:AlG β) (k:Key) (v:β):(ai l k v).length≤l.length+1:=by
 unfold ai
 split
 ·rw [Ι];omega
 ·simp
theorem zc {β:Type} (f:β→D) (l:AlG β) (d:D) (k:Key) (hk:bM d=some k) (v:β) (h:l.length<100000):jP (.dic (ksA l) (dsF f l)) d (f v)=some (.dic (ksA (ai l k v)) (dsF f (ai l k v))):=by
 show (bM d).bind (fun k=>if (ksA l).length<100000 then some (D.dic (bE (ksA l) (dsF f l) k (f v)).1 (bE (ksA l) (dsF f l) k (f v)).2) else none)=_
 rw [hk]
 show (if (ksA l).length<100000 then some (D.dic (bE (ksA l) (dsF f l) k (f v)).1 (bE (ksA l) (dsF f l) k (f v)).2) else none)=_
 rw [ZZ (by unfold ksA;rw [Ι];exact h),wv]
theorem gK (l:Al) (x:ι) (v:Kd) (h:l.length<100000):jP (dA l) (.str x) v.toD=some (dA (ai l (.inr x) v)):=zc Kd.toD l (.str x) _ rfl v h
theorem sJ (l:Al) (p:Int) (v:Kd) (h:l.length<100000):ed (oA l) (.int p) v.toD=some (oA (ai l (.inl p) v)):=by
 show (if (ksA l).length<100000 then some (O.dic (bE (ksA l) (dsA l) (.inl p) v.toD).1 (bE (ksA l) (dsA l) (.inl p) v.toD).2) else none)=_
 rw [ZZ (by unfold ksA;rw [Ι];exact h),wv Kd.toD]
theorem nsh (t:T68) (k:Kd) (h:k.dep≤4) (N:Nat) (hN:k.dep+2≤N) (st:List O):ae Γ N gb [t.toD,k.toD] st = .ok .non st:=by
 obtain ⟨n,rfl⟩:∃ n,N=n+1:=⟨N - 1,by omega⟩
 have d:=depth k n (by omega) st
 have e:decide (((k.dep:Nat):Int)>4)=false:=ZV (by omega)
 exact (aj false (aX 0 (d) (aX 1 (e) aZ)) (by kernel_rfl))
theorem nsm (x t:T68) (k:Kd) (N:Nat) (hN:k.dep+3≤N) (st:List O):ae Γ N kN [x.toD,k.toD,t.toD,k.toD] st = .ok .non st:=by
 obtain ⟨n,rfl⟩:∃ n,N=n+1:=⟨N - 1,by omega⟩
 have d:=cG k n (by omega) st
 exact (aj false (aX 0 (d) aZ) (by kernel_rfl))
theorem b6 {β:Type} (l:AlG β) (k:Key) (v:β) (x:Key):aP (ai l k v) x=if k=x then some v else aP l x:=by
 have rep:∀ l:AlG β,(l.any fun p=>decide (p.1=k))=true→aP (l.map (fun p=>if p.1=k then (p.1,v) else p)) x=if k=x then some v else aP l x:=by
  intro l
  induction l with
  | nil=>intro h;cases h
  | cons p r ih=>
    intro h
    show (if (if p.1=k then (p.1,v) else p).1=x then some (if p.1=k then (p.1,v) else p).2 else aP (r.map _) x)=if k=x then some v else if p.1=x then some p.2 else aP r x
    by_cases hk:p.1=k
    ·simp only [hk,if_true]
     by_cases hx:k=x
     ·simp [hx]
     ·simp only [hx,if_false]
      by_cases hr:(r.any fun p=>decide (p.1=k))=true
      ·rw [ih hr,ZY hx]
      ·have:∀ q∈r,q.1≠k:=fun q hq e=>hr (Ą.mpr ⟨q,hq,by simpa using e⟩)
       have e:r.map (fun p=>if p.1=k then (p.1,v) else p)=r:=by
        conv=>rhs;rw [← List.map_id r]
        refine EG fun q hq=>?_
        rw [ZY (this q hq)];rfl
       rw [e]
    ·simp only [hk,if_false]
     have hr:(r.any fun p=>decide (p.1=k))=true:=by simpa [hk] using h
     rw [ih hr]
     by_cases hx:k=x
     ·subst hx;simp [hk]
     ·simp [hx]
 have app:∀ l:AlG β,(l.any fun p=>decide (p.1=k))=false→aP (l ++ [(k,v)]) x=if k=x then some v else aP l x:=by
  intro l
  induction l with
  | nil=>intro h;show (if k=x then some v else none)=_;rfl
  | cons p r ih=>
    intro h
    have h2:p.1≠k∧(r.any fun p=>decide (p.1=k))=false:=by simpa using h
    show (if p.1=x then some p.2 else aP (r ++ [(k,v)]) x)=if k=x then some v else if p.1=x then some p.2 else aP r x
    rw [ih h2.2]
    by_cases hx:k=x
    ·subst hx;simp [h2.1]
    ·simp [hx]
 unfold ai
 by_cases h:(l.any fun p=>decide (p.1=k))=true
 ·rw [ZZ h];exact rep l h
 ·rw [ZY h];exact app l (Fd.mpr h)
theorem oJ {P:Kd→Prop} {l:Al} {k:Key} {v:Kd} (h:∀ p∈l,P p.2) (hv:P v):∀ p∈ai l k v,P p.2:=by
 unfold ai
 split
 ·intro p hp
  obtain ⟨q,hq,rfl⟩:=Ϩ.mp hp
  by_cases c:q.1=k
  ·rw [ZZ c];exact hv
  ·rw [ZY c];exact h q hq
 ·intro p hp
  rcases Ϯ.mp hp with hp | hp
  ·exact h p hp
  ·rw [η.mp hp];exact hv
abbrev dsK (fs:List Kd):List D:=fs.map Kd.toD
def inN (t:T68) (i:Nat) (fs:List Kd) (N:Al):Al:=match t,i with
 | .fn _ x k _,_=>ai N (.inr x) k
 | .slf _ f x k g _,_=>ai (ai N (.inr f) (.to k g)) (.inr x) k
 | .lt _ x _ _,1=>ai N (.inr x) (fs.headD .whole)
 | _,_=>N
theorem bw (t:T68) (i:Nat) (y:T68) (hi:(ak t)[i]? = some y) (fs:List Kd) (hf:fs.length=i) (N:Al) (hN:N.length+1<100000) (n:Nat) (st:List O):ae Γ (n+1) cW [t.toD,.int i,.lst (dsK fs),dA N] st = .ok (dA (inN t i fs N)) st:=by
 cases t with
 | fn p x k b=>exact aa false [.o 6 (dA (ai N (.inr x) k))] (gK N x k (by omega)<|>Z) (by kernel_rfl)
 | slf p f x k g b=>
   have:=aO N (.inr f) (.to k g)
   exact aa false [.o 10 (dA (ai N (.inr f) (.to k g))),.o 2 (dA (ai (ai N (.inr f) (.to k g)) (.inr x) k))] (gK N f (.to k g) (by omega)<|>gK (ai N (.inr f) (.to k g)) x k (by omega)<|>Z) (by kernel_rfl)
 | lt p x a b=>
   match i,hi,fs,hf with
   | 0,_,[],_=>kernel_rfl
   | 1,_,[c],_=>exact aa false [.o 14 (dA (ai N (.inr x) c))] (gK N x c (by omega)<|>Z) (by kernel_rfl)
   | i+2,hi,_,_=>cases hi
 | _=>kernel_rfl
abbrev ls (kd wd:Al):List O:=[.ins 1 [.ref 1,.ref 2],oA kd,oA wd]
theorem fH (t:T68) (k:Kd) (kd wd:Al) (h:wd.length<100000) (n:Nat):ae Γ (n+1) hZ [.ref 0,t.toD,k.toD] (ls kd wd) = .ok .non (ls kd (ai wd (.inl t.pl) k)):=by
 have e:exS Γ (ae Γ n) (aQ Γ n) hX.body ⟨[some (.ref 0),some t.toD,some k.toD],[],ls kd wd⟩ = .nx ⟨[some (.ref 0),some t.toD,some k.toD],[],ls kd (ai wd (.inl t.pl) k)⟩:=by
  have e1:ev Γ (ae Γ n) (aQ Γ n) true (.ix (.v 1) (.c (.int 1))) ⟨[some (.ref 0),some t.toD,some k.toD],[],ls kd wd⟩ = .ok (.int t.pl) ⟨[some (.ref 0),some t.toD,some k.toD],[],ls kd wd⟩:=(pE false (aX 0 (d9 t (ls kd wd)) aZ) (by kernel_rfl))
  exact oI (o:=oA wd) (n:=2) rfl rfl e1 rfl (sJ wd t.pl k h)
 exact (aj false (aX 0 (e) aZ) (by kernel_rfl))
theorem uu {α:Type} (l:List α) (x:α):atI (l ++ [x]) (-1)=some x:=by
 show (ixN (l ++ [x]).length (-1)).bind _=_
 have e:ixN (l ++ [x]).length (-1)=some l.length:=by
  unfold ixN
  rw [φ,ϋ]
  rw [ZY (by decide),ZZ (by omega)]
  congr 1;omega
 rw [e]
 show (l ++ [x])[l.length]? = some x
 simp
theorem AE (fs:List Kd) (i:Nat) (h:fs.length=i+1):ixD (.lst (dsK fs)) (.int (-1))=some (fs.getLastD .whole).toD:=by
 obtain ⟨l,x,rfl⟩:∃ l x,fs=l ++ [x]:=⟨_,_,(Ĭ (List.ne_nil_of_length_eq_add_one h)).symm⟩
 have e:(l ++ [x]).getLastD .whole=x:=by simp
 rw [e]
 show atI (dsK (l ++ [x])) (-1)=_
 unfold dsK
 rw [ç]
 exact uu _ _
theorem gF:∀ k:Kd,noL k.toD=true
 | .whole=>rfl
 | .truth=>rfl
 | .row a=>by show (true && (noL a.toD && true))=true;rw [gF a];rfl
 | .to a b=>by show (true && (noL a.toD && (noL b.toD && true)))=true;rw [gF a,gF b];rfl
 | .pair a b=>by show (true && (noL a.toD && (noL b.toD && true)))=true;rw [gF a,gF b];rfl
theorem jI:∀ l:Al,fi (dsA l)=true
 | []=>rfl
 | p :: r=>by show (noL p.2.toD && fi (dsA r))=true;rw [gF,jI r];rfl
theorem mH (d:D) (h:noL d=true) (kd wd:Al):(noL d && (ls kd wd).all kW)=true:=by
 rw [h]
 show (true && (true && (fi (dsA kd) && (fi (dsA wd) && true))))=true
 rw [jI,jI];rfl
abbrev wB:S:=cY dD.body
abbrev kB:S:=cY (tlS 1 dD.body)
theorem oW (t:T68) (N:Al) (m:Nat) (S:List O):∀ (ks:List Kd) (e:Option D),(∀ k∈ks,k.dep≤4)→6≤m→∃ e':Option D,aR (jj Γ (ae Γ m) (aQ Γ m) [3] true wB) (ks.map Kd.toD) ⟨[some (.ref 0),some t.toD,some (dA N),e,none,none,none,none],[],S⟩ = .nx ⟨[some (.ref 0),some t.toD,some (dA N),e',none,none,none,none],[],S⟩
 | [],e,_,_=>⟨e,rfl⟩
 | k :: r,e,h,hm=>by
   have h4:=h k (by simp)
   have n1:=nsh t k h4 m (by omega) S
   obtain ⟨e',h2⟩:=oW t N m S r (some k.toD) (fun k hk=>h k (by simp [hk])) hm
   exact ⟨e',ao (s1:=⟨[some (.ref 0),some t.toD,some (dA N),some k.toD,none,none,none,none],[],S⟩) (aF rfl (eE false (aX 0 (n1) aZ) (by kernel_rfl))) h2⟩
def T68.word:T68→ι
 | .whole _ _=>"whole" | .truth _ _=>"truth" | .given _ _=>"given" | .name _ _=>"name" | .fn _ _ _ _=>"fn" | .slf _ _ _ _ _ _=>"self" | .lt _ _ _ _=>"let" | .iff _ _ _ _=>"if" | .call _ _ _=>"call" | .bin _ _ _ _=>"do" | .as_ _ _ _=>"as"
 | .row _ _ _=>"row" | .pair _ _ _=>"pair" | .att _ _ _=>"at" | .size _ _=>"size" | .one _ _=>"one" | .two _ _=>"two"
theorem vI (t:T68) (S:List O):ixD (look S t.toD) (.int 0)=some (.str t.word):=by rw [rR];cases t <;> rfl
theorem dk (t y:T68) (fs:List Kd) (k:Kd) (kd wd:Al) (n:Nat) (hc:t.word = "if"→fs.length<2) (wk:∀ S,ae Γ (n+8) bQ [t.toD,.lst (dsK (fs ++ [k]))] S = .ok k.toD S) (hd:k.dep≤4) (hw:wd.length<100000):ae Γ (n+9) cA [.ref 0,t.toD,y.toD,.lst (dsK (fs ++ [k]))] (ls kd wd) = .ok .non (ls kd (ai wd (.inl y.pl) k)):=by
 have la:=AE (fs ++ [k]) fs.length (by simp)
 rw [show (fs ++ [k]).getLastD .whole=k by simp] at la
 have h0:=vI t (ls kd wd)
 have w0:=wk (ls kd wd)
 have ns:=nsm y t k (n+8) (by omega) (ls kd wd)
 have w1:=fH y k kd wd hw (n+7)
 by_cases c:t.word = "if"
 ·have e1:opD .eq (.str t.word) (.str "if")=some (.bl true):=by rw [c];rfl
  have e2:opD .eq (.int ((dsK (fs ++ [k])).length:Nat)) (.int 3)=some (.bl false):=by
   have:=hc c
   show some (D.bl (((dsK (fs ++ [k])).length:Int) == 3))=_
   rw [ZU.mpr]
   simp;omega
  exact (aj false (aX 0 (h0) (aX 0 (e1) (aX 2 (e2) (aX 0 (w0) (aX 0 (la) (aX 0 (ns) (aX 0 (w1) aZ))))))) (by kernel_rfl))
 ·have e1:opD .eq (.str t.word) (.str "if")=some (.bl false):=by
   show some (D.bl (t.word == ("if":ι)))=_
   rw [ZU.mpr c]
  exact (aj false (aX 0 (h0) (aX 0 (e1) (aX 0 (w0) (aX 0 (la) (aX 0 (ns) (aX 0 (w1) aZ)))))) (by kernel_rfl))
def Sg.kd:Sg→Kd
 | .lt=>.truth | .eq=>.truth | _=>.whole
inductive Tp:Al→Kd→T68→Prop
 | whole {N:Al} {p v:Int}:Tp N .whole (.whole p v)
 | given {N:Al} {p:Int} {v:Nat}:Tp N .whole (.given p v)
 | truth {N:Al} {p:Int} {v:Bool}:Tp N .truth (.truth p v)
 | name {N:Al} {p:Int} {x:ι} {w:Kd} (h:aP N (.inr x)=some w) (d:w.dep≤4):Tp N w (.name p x)
 | fn {N:Al} {p:Int} {x:ι} {a w:Kd} {b:T68} (h:Tp (ai N (.inr x) a) w b) (ha:a.dep≤3) (d:w.dep≤3):Tp N (.to a w) (.fn p x a b)
 | slf {N:Al} {p:Int} {f x:ι} {a g:Kd} {b:T68} (h:Tp (ai (ai N (.inr f) (.to a g)) (.inr x) a) g b) (ha:a.dep≤3) (d:g.dep≤3):Tp N (.to a g) (.slf p f x a g b)
 | call {N:Al} {p:Int} {k w:Kd} {a b:T68} (ha:Tp N (.to k w) a) (hb:Tp N k b) (d:w.dep≤4):Tp N w (.call p a b)
 | lt {N:Al} {p:Int} {x:ι} {k w:Kd} {a b:T68} (ha:Tp N k a) (hb:Tp (ai N (.inr x) k) w b) (d:w.dep≤4):Tp N w (.lt p x a b)
 | iff {N:Al} {p:Int} {w:Kd} {c a b:T68} (hc:Tp N .truth c) (ha:Tp N w a) (hb:Tp N w b) (d:w.dep≤4):Tp N w (.iff p c a b)
 | bin {N:Al} {p:Int} {o:Sg} {w:Kd} {a b:T68} (ha:Tp N .whole a) (hb:Tp N .whole b) (e:o.kd=w):Tp N w (.bin p o a b)
 | row {N:Al} {p:Int} {k:Kd} {ts:List T68} (h:∀ t∈ts,Tp N k t) (d:k.dep≤3):Tp N (.row k) (.row p k ts)
 | pair {N:Al} {p:Int} {k l:Kd} {a b:T68} (ha:Tp N k a) (hb:Tp N l b) (hk:k.dep≤3) (hl:l.dep≤3):Tp N (.pair k l) (.pair p a b)
 | att {N:Al} {p:Int} {w:Kd} {a b:T68} (ha:Tp N (.row w) a) (hb:Tp N .whole b) (d:w.dep≤4):Tp N w (.att p a b)
 | size {N:Al} {p:Int} {k:Kd} {a:T68} (ha:Tp N (.row k) a):Tp N .whole (.size p a)
 | one {N:Al} {p:Int} {k w:Kd} {a:T68} (ha:Tp N (.pair w k) a) (d:w.dep≤4):Tp N w (.one p a)
 | two {N:Al} {p:Int} {k w:Kd} {a:T68} (ha:Tp N (.pair k w) a) (d:w.dep≤4):Tp N w (.two p a)
 | as_ {N:Al} {p:Int} {w:Kd} {a:T68} (ha:Tp N w a) (d:w.dep≤4):Tp N w (.as_ p w a)
def ah:Nat→T68→List Int
 | 0,_=>[]
 | n+1,t=>t.pl :: (ak t).flatMap (ah n)
def Ag (a b:Al):Prop:=∀ p:Int,aP a (.inl p)=aP b (.inl p)
structure Gr (a a':Al) (ps:List Int):Prop where
 kp:∀ x,(aP a x).isSome=true→(aP a' x).isSome=true
 hp:∀ p∈ps,(aP a' (.inl p)).isSome=true
 d4:(∀ p∈a,p.2.dep≤4)→∀ p∈a',p.2.dep≤4
 u:∀ p,p ∉ ps→aP a' (.inl p)=aP a (.inl p)
 ln:a'.length≤a.length+ps.length
theorem fW {a:Al} {q p:Int} {v:Kd} (h:q≠p):aP (ai a (.inl q) v) (.inl p)=aP a (.inl p):=by rw [b6,ZY fun e=>h (by cases e;rfl)]
theorem jm {a:Al} {q:Int} {v:Kd}:aP (ai a (.inl q) v) (.inl q)=some v:=by rw [b6,ZZ rfl]
theorem Gr.refl {a:Al}:Gr a a []:=⟨fun _ h=>h,fun p h=>(nomatch h),id,fun _ _=>rfl,by simp⟩
theorem Gr.trans {a b c:Al} {ps qs:List Int} (h:Gr a b ps) (h':Gr b c qs):Gr a c (ps ++ qs):=⟨fun x hx=>h'.kp x (h.kp x hx),fun p hp=>(Ϯ.mp hp).elim (fun hp=>h'.kp _ (h.hp p hp)) (h'.hp p),fun d=>h'.d4 (h.d4 d),fun p hp=>by
 rw [Ϯ,not_or] at hp
 rw [h'.u p hp.2,h.u p hp.1],by have:=h.ln;have:=h'.ln;rw [φ];omega⟩
theorem Gr.own {a b:Al} {ps:List Int} (h:Gr a b ps) (p:Int) {v:Kd} (hv:v.dep≤4):Gr a (ai b (.inl p) v) (p :: ps):=by
 refine ⟨fun x hx=>?_,fun q hq=>?_,fun d=>oJ (P:=fun k=>k.dep≤4) (h.d4 d) hv,fun q hq=>?_,by have:=h.ln;have:=aO b (.inl p) v;rw [Κ];omega⟩
 ·rw [b6];split
  ·rfl
  ·exact h.kp x hx
 ·rw [b6];split
  ·rfl
  ·rename_i c
   exact h.hp q ((ξ.mp hq).resolve_left fun e=>c (by rw [e]))
 ·rw [ξ,not_or] at hq
  rw [fW (Ϡ hq.1)];exact h.u q hq.2
structure LkE (m:Nat) (t:T68) (q:Nat) (N:Al) (w:Kd) (a b a' b':Al):Prop where
 e:ae Γ m cB [.ref 0,t.toD,dA N] (ls a b) = .ok w.toD (ls a' b')
 g:∀ p,p≠t.pl→aP a' (.inl p)=aP b' (.inl p)
 k:aP a' (.inl t.pl)=some w
 r:Gr a a' (ah q t)
 d:w.dep≤4
 lb:b'.length+2≤b.length+2 * (ah q t).length
def kst (t:T68) (N:Al) (e3:Option D) (fs:List Kd) (e5 e6:Option D) (kd wd:Al):Sta:=⟨[some (.ref 0),some t.toD,some (dA N),e3,some (.lst (dsK fs)),e5,e6,none],[4],ls kd wd⟩
section
variable {m q:Nat} {t y:T68} {N a b a' b':Al} {w k:Kd} {fs:List Kd}
abbrev kG (n:Nat):D→Sta→av:=jj Γ (ae Γ (n+10)) (aQ Γ (n+10)) [5,6] false kB
theorem cM {i:Nat} {e3 e5 e6:Option D} {N' a1 b1 b2:Al} (hi:fs.length=i) (hb:ae Γ (m+10) cW [t.toD,.int i,.lst (dsK fs),dA N] (ls a b) = .ok (dA N') (ls a b)) (hy:ae Γ (m+10) cB [.ref 0,y.toD,dA N'] (ls a b) = .ok k.toD (ls a1 b1)) (hh:ae Γ (m+10) cA [.ref 0,t.toD,y.toD,.lst (dsK (fs ++ [k]))] (ls a1 b1) = .ok .non (ls a1 b2)) (hl:i<100000):kG m (.tup [.int i,y.toD]) (kst t N e3 fs e5 e6 a b) = .nx (kst t N e3 (fs ++ [k]) (some (.int i)) (some y.toD) a1 b2):=by
 have nl:=mH (dA N') (jI _) a b
 have l0:decide ((dsK fs).length<100000)=true:=ZW (by rw [Ι];omega)
 have ek:dsK fs ++ [k.toD]=dsK (fs ++ [k]):=by simp [dsK]
 rw [← ek] at hh
 have nl2:=mH .non rfl a1 b2
 unfold kst
 rw [← ek]
 refine aF rfl ?_
 exact (eE false (aX 0 (hb) (aX 0 (nl) (aX 0 (hy) (aX 0 (l0) (aX 0 (hh) (aX 0 (nl2) aZ)))))) (by kernel_rfl))
theorem ym {a1 b1:Al} (hw:∀ k∈wks t,k.dep≤4) (lp:∀ e3,∃ e5 e6,aR (kG m) (bA 0 (toDs (ak t))) (kst t N e3 [] none none a b) = .nx (kst t N e3 fs e5 e6 a1 b1)) (ho:∀ S,ae Γ (m+10) cb [t.toD,.lst (dsK fs),dA N] S = .ok w.toD S) (hd:w.dep≤4) (hl:a1.length<90000):ae Γ (m+11) cB [.ref 0,t.toD,dA N] (ls a b) = .ok w.toD (ls (ai a1 (.inl t.pl) w) b1):=by
 have w0:=Cu t (m+7) (ls a b)
 obtain ⟨e3,w1⟩:=oW t N (m+10) (ls a b) (wks t) none hw (by omega)
 have p0:=eN t (m+7) (ls a b)
 obtain ⟨e5,e6,lp⟩:=lp e3
 have ow:=ho (ls a1 b1)
 have n1:=nsh t w hd (m+10) (by omega) (ls a1 b1)
 have nl:=mH w.toD (gF _) a1 b1
 have e1:ev Γ (ae Γ (m+10)) (aQ Γ (m+10)) true (.ix (.v 1) (.c (.int 1))) ⟨[some (.ref 0),some t.toD,some (dA N),e3,some (.lst (dsK fs)),e5,e6,some w.toD],[4],ls a1 b1⟩ = .ok (.int t.pl) ⟨[some (.ref 0),some t.toD,some (dA N),e3,some (.lst (dsK fs)),e5,e6,some w.toD],[4],ls a1 b1⟩:=(pE false (aX 0 (d9 t (ls a1 b1)) aZ) (by kernel_rfl))
 have pt:=oI (Γ:=Γ) (cal:=ae Γ (m+10)) (cal1:=aQ Γ (m+10)) (x:=.v 0) (f:=0) (e:=.v 7) (s:=⟨[some (.ref 0),some t.toD,some (dA N),e3,some (.lst (dsK fs)),e5,e6,some w.toD],[4],ls a1 b1⟩) (o:=oA a1) (n:=1) rfl rfl e1 rfl (sJ a1 t.pl w (by omega))
 exact (aj true (aX 0 (w0) (aX 0 (w1) (aX 0 (p0) (aX 0 (lp) (aX 0 (ow) (aX 0 (nl) (aX 0 (n1) (aX 0 (pt) aZ)))))))) (by kernel_rfl))
theorem LkE.held (h:LkE m t q N w a b a' b'):Ag a' (ai b' (.inl t.pl) w):=fun p=>by
 by_cases e:t.pl=p
 ·subst e;rw [jm];exact h.k
 ·rw [fW e];exact h.g p (Ϡ e)
def Kh (m q:Nat) (y:T68) (N:Al) (k:Kd):Prop:=∀ a b,Ag a b→a.length+(ah q y).length≤40000→b.length+2 * (ah q y).length≤90000→∃ a' b',LkE m y q N k a b a' b'
theorem done {a1 b1:Al} (hw:∀ k∈wks t,k.dep≤4) (lp:∀ e3,∃ e5 e6,aR (kG m) (bA 0 (toDs (ak t))) (kst t N e3 [] none none a b) = .nx (kst t N e3 fs e5 e6 a1 b1)) (ho:∀ S,ae Γ (m+10) cb [t.toD,.lst (dsK fs),dA N] S = .ok w.toD S) (hd:w.dep≤4) (g:Ag a1 b1) (r:Gr a a1 ((ak t).flatMap (ah q))) (ha:a.length+(ah (q+1) t).length≤40000) (lb:b1.length≤b.length+2 * ((ak t).flatMap (ah q)).length):LkE (m+11) t (q+1) N w a b (ai a1 (.inl t.pl) w) b1:=by
 have e:(ah (q+1) t).length=((ak t).flatMap (ah q)).length+1:=rfl
 refine ⟨ym hw lp ho hd (by have:=r.ln;omega),fun p hp=>?_,jm,r.own t.pl hd,hd,by omega⟩
 rw [fW (Ϡ hp)];exact g p
theorem ut (hk:ak t = []) (hw:wks t = []) (ho:∀ S,ae Γ (m+10) cb [t.toD,.lst [],dA N] S = .ok w.toD S) (hd:w.dep≤4):Kh (m+11) (q+1) t N w:=fun a b g ha hb=>
 ⟨_,_,done (fs:=[]) (by rw [hw];exact fun _ h=>(nomatch h)) (by rw [hk];exact fun e3=>⟨none,none,rfl⟩) ho hd g (by rw [hk];exact .refl) ha (by omega)⟩
theorem pP (hk:ak t = [y]) (hw:∀ k∈wks t,k.dep≤4) (hN:N.length<1000) (hy:Kh (m+10) q y (inN t 0 [] N) k) (wk:∀ S,ae Γ (m+9) bQ [t.toD,.lst [k.toD]] S = .ok k.toD S) (ho:∀ S,ae Γ (m+10) cb [t.toD,.lst [k.toD],dA N] S = .ok w.toD S) (hd:w.dep≤4):Kh (m+11) (q+1) t N w:=fun a b g ha hb=>by
 have e:(ak t).flatMap (ah q)=ah q y:=by rw [hk];simp
 have e2:(ah (q+1) t).length=((ak t).flatMap (ah q)).length+1:=rfl
 rw [e] at e2
 obtain ⟨a1,b1,h1⟩:=hy a b g (by omega) (by omega)
 have l1:=h1.lb
 have pl:=aO b1 (.inl y.pl) k
 have hh:=dk t y [] k a1 b1 (m+1) (fun _=>by decide) wk h1.d (by omega)
 exact ⟨_,_,done (fs:=[k]) hw (fun e3=>⟨some (.int 0),some y.toD,by rw [hk];exact ao (cM rfl (bw t 0 y (by rw [hk];rfl) [] rfl N (by omega) (m+9) _) h1.e hh (by decide)) rfl⟩) ho hd h1.held (by rw [e];exact h1.r) ha (by rw [e];omega)⟩
theorem rz {z:T68} {l:Kd} (hk:ak t = [y,z]) (hw:∀ k∈wks t,k.dep≤4) (hN:N.length<1000) (hif:t.word = "if"→False) (hy:Kh (m+10) q y (inN t 0 [] N) k) (hz:Kh (m+10) q z (inN t 1 [k] N) l) (wk:∀ S,ae Γ (m+9) bQ [t.toD,.lst [k.toD]] S = .ok k.toD S) (wk2:∀ S,ae Γ (m+9) bQ [t.toD,.lst [k.toD,l.toD]] S = .ok l.toD S) (ho:∀ S,ae Γ (m+10) cb [t.toD,.lst [k.toD,l.toD],dA N] S = .ok w.toD S) (hd:w.dep≤4):Kh (m+11) (q+1) t N w:=fun a b g ha hb=>by
 have e:(ak t).flatMap (ah q)=ah q y ++ ah q z:=by rw [hk];simp
 have e2:(ah (q+1) t).length=((ak t).flatMap (ah q)).length+1:=rfl
 rw [e,φ] at e2
 obtain ⟨a1,b1,h1⟩:=hy a b g (by omega) (by omega)
 have l1:=h1.lb
 have r1:=h1.r.ln
 have pl:=aO b1 (.inl y.pl) k
 obtain ⟨a2,b2,h2⟩:=hz _ _ h1.held (by omega) (by omega)
 have l2:=h2.lb
 have pl2:=aO b2 (.inl z.pl) l
 have hh:=dk t y [] k a1 b1 (m+1) (fun _=>by decide) wk h1.d (by omega)
 have hh2:=dk t z [k] l a2 b2 (m+1) (fun c=>(hif c).elim) wk2 h2.d (by omega)
 exact ⟨_,_,done (fs:=[k,l]) hw (fun e3=>⟨some (.int 1),some z.toD,by rw [hk];exact ao (cM rfl (bw t 0 y (by rw [hk];rfl) [] rfl N (by omega) (m+9) _) h1.e hh (by decide)) (ao (cM (fs:=[k]) rfl (bw t 1 z (by rw [hk];rfl) [k] rfl N (by omega) (m+9) _) h2.e hh2 (by decide)) rfl)⟩) ho hd h2.held (by rw [e];exact h1.r.trans h2.r) ha (by rw [e,φ];omega)⟩
theorem Av {p:Int} {c x y:T68} (hd:w.dep≤4) (hb:b.length+2<100000) (n:Nat):ae Γ (n+10) cA [.ref 0,(T68.iff p c x y).toD,y.toD,.lst (dsK [.truth,w,w])] (ls a b) = .ok .non (ls a (ai (ai b (.inl x.pl) w) (.inl y.pl) w)):=by
 have pl:=aO b (.inl x.pl) w
 have ns:=nsm y x w (n+8) (by omega) (ls a b)
 have j1:=bD w (n+8) (by omega) (ls a b)
 have j2:=bD w (n+8) (by omega) (ls a (ai b (.inl x.pl) w))
 have w1:=fH x w a b (by omega) (n+7)
 have w2:=fH y w a (ai b (.inl x.pl) w) (by omega) (n+7)
 have hch:ae Γ (n+9) cV [.ref 0,(T68.iff p c x y).toD,.lst (dsK [.truth,w,w])] (ls a b) = .ok .non (ls a (ai (ai b (.inl x.pl) w) (.inl y.pl) w)):=(aj false (aX 0 (ns) (aX 0 (j1) (aX 0 (w1) (aX 0 (j2) (aX 0 (w2) aZ))))) (by kernel_rfl))
 exact (aj false (aX 0 (hch) aZ) (by kernel_rfl))
theorem Bd {n:Nat} (h:1≤n):t.pl∈ah n t:=by
 obtain ⟨n,rfl⟩:∃ k,n=k+1:=⟨n - 1,by omega⟩
 exact ν
theorem Ch {p:Int} {c x y:T68} (hq:1≤q) (nd:(ah (q+1) (.iff p c x y)).Nodup) (hN:N.length<1000) (hc:Kh (m+10) q c N .truth) (hx:Kh (m+10) q x N w) (hy:Kh (m+10) q y N w) (hd:w.dep≤4):Kh (m+11) (q+1) (.iff p c x y) N w:=fun a b g ha hb=>by
 have e:(ak (.iff p c x y)).flatMap (ah q)=ah q c ++ (ah q x ++ ah q y):=by simp [ak]
 have e2:(ah (q+1) (.iff p c x y)).length=((ak (.iff p c x y)).flatMap (ah q)).length+1:=rfl
 rw [e,φ,φ] at e2
 obtain ⟨a1,b1,h1⟩:=hc a b g (by omega) (by omega)
 have l1:=h1.lb
 have r1:=h1.r.ln
 have pl:=aO b1 (.inl c.pl) .truth
 obtain ⟨a2,b2,h2⟩:=hx _ _ h1.held (by omega) (by omega)
 have l2:=h2.lb
 have r2:=h2.r.ln
 have pl2:=aO b2 (.inl x.pl) w
 obtain ⟨a3,b3,h3⟩:=hy _ _ h2.held (by omega) (by omega)
 have l3:=h3.lb
 have xy:x.pl ∉ ah q y:=fun hm=>by
  have h:(p :: (ah q c ++ (ah q x ++ (ah q y ++ [])))).Nodup:=nd
  have h:=(é.mp (Ϟ.mp h).2).2.1
  exact (é.mp h).2.2 _ (Bd hq) _ (À _ hm) rfl
 have gg:Ag a3 (ai (ai b3 (.inl x.pl) w) (.inl y.pl) w):=fun r=>by
  by_cases e:y.pl=r
  ·subst e;rw [jm];exact h3.k
  ·rw [fW e]
   by_cases e2:x.pl=r
   ·subst e2;rw [jm,h3.r.u _ xy];exact h2.k
   ·rw [fW e2];exact h3.g r (Ϡ e)
 have pl3:=aO b3 (.inl x.pl) w
 have pl4:=aO (ai b3 (.inl x.pl) w) (.inl y.pl) w
 have hh:=dk (.iff p c x y) c [] .truth a1 b1 (m+1) (fun _=>by decide) (fun S=>by kernel_rfl) (by decide) (by omega)
 have hh2:=dk (.iff p c x y) x [.truth] w a2 b2 (m+1) (fun _=>Ξ rfl) (fun S=>by kernel_rfl) hd (by omega)
 have b_:=fun (i:Nat) (y:T68) (fs:List Kd) h1 h2 a b=>bw (.iff p c x y) i y h1 fs h2 N (by omega) (m+9) (ls a b)
 exact ⟨_,_,done (fs:=[.truth,w,w]) (fun z hz=>nomatch hz) (fun e3=>⟨some (.int 2),some y.toD,ao (cM rfl (bw (.iff p c x y) 0 c rfl [] rfl N (by omega) (m+9) _) h1.e hh (by decide)) (ao (cM (fs:=[.truth]) rfl (bw (.iff p c x y) 1 x rfl [.truth] rfl N (by omega) (m+9) _) h2.e hh2 (by decide)) (ao (cM (fs:=[.truth,w]) rfl (bw (.iff p c x y) 2 y rfl [.truth,w] rfl N (by omega) (m+9) _) h3.e (Av hd (by omega) m) (by decide)) rfl))⟩) (fun S=>(aj false (aX 0 (bD w (m+9) (by omega) S) aZ) (by kernel_rfl))) hd gg (by rw [e];exact h1.r.trans (h2.r.trans h3.r)) ha (by rw [e,φ,φ];omega)⟩
theorem AD {p:Int} {ts0:List T68} (hN:N.length<1000) (hk:k.dep≤4):∀ (ts:List T68) (i:Nat) (fs:List Kd) (a b:Al),fs.length=i→(∀ j y,ts[j]? = some y→ts0[i+j]? = some y)→(∀ y∈ts,Kh (m+10) q y N k)→Ag a b→a.length+(ts.flatMap (ah q)).length≤40000→b.length+2 * (ts.flatMap (ah q)).length≤90000→i+ts.length<1000→∃ a' b',Ag a' b'∧Gr a a' (ts.flatMap (ah q))∧b'.length≤b.length+2 * (ts.flatMap (ah q)).length∧∀ e3 e5 e6,∃ e5' e6',aR (kG m) (bA (i:Nat) (toDs ts)) (kst (.row p k ts0) N e3 fs e5 e6 a b) = .nx (kst (.row p k ts0) N e3 (fs ++ ts.map fun _=>k) e5' e6' a' b')
 | [],i,fs,a,b,_,_,_,g,_,_,_=>⟨a,b,g,.refl,by simp,fun e3 e5 e6=>⟨e5,e6,by rw [E2,ϧ];rfl⟩⟩
 | y :: r,i,fs,a,b,hi,hr,h,g,ha,hb,hl=>by
   rw [Æ,φ] at ha hb
   simp only [Κ] at hl
   obtain ⟨a1,b1,h1⟩:=h y (by simp) a b g (by omega) (by omega)
   have l1:=h1.lb
   have r1:=h1.r.ln
   have pl:=aO b1 (.inl y.pl) k
   have hh:=dk (.row p k ts0) y fs k a1 b1 (m+1) (fun c=>ZX c (by show ¬ ("row":ι) = "if";decide +kernel)) (fun S=>by kernel_rfl) hk (by omega)
   obtain ⟨a',b',g2,u2,l2,h2⟩:=AD (p:=p) (ts0:=ts0) hN hk r (i+1) (fs ++ [k]) a1 (ai b1 (.inl y.pl) k) (by simp [hi]) (fun j z hz=>by rw [Gj,Ei 1];exact hr (j+1) z hz) (fun z hz=>h z (by simp [hz])) h1.held (by omega) (by omega) (by omega)
   refine ⟨a',b',g2,by rw [Æ];exact h1.r.trans u2,by rw [Æ,φ];omega,fun e3 e5 e6=>?_⟩
   obtain ⟨e5',e6',h2⟩:=h2 e3 (some (.int i)) (some y.toD)
   exact ⟨e5',e6',by rw [Ϲ,show ∀ l:List Kd,fs ++ k :: l=fs ++ [k] ++ l from fun l=>by simp];exact ao (cM hi (bw (.row p k ts0) i y (hr 0 y rfl) fs hi N (by omega) (m+9) _) h1.e hh (by omega)) h2⟩
theorem yS {n:Nat} {y:T68} (h:(ah (n+1) t).Nodup) (hy:y∈ak t):(ah n y).Nodup:=by
 have h:(t.pl :: (ak t).flatMap (ah n)).Nodup:=h
 have h:=(Ϟ.mp h).2
 have:∀ l:List T68,(l.flatMap (ah n)).Nodup→∀ y∈l,(ah n y).Nodup:=fun l=>by
  induction l with
  | nil=>intro _ y hy;cases hy
  | cons x r ih=>
    intro h y hy
    rw [Æ] at h
    have h:=é.mp h
    rcases ξ.mp hy with rfl | hy
    ·exact h.1
    ·exact ih h.2.1 y hy
 exact this _ h y hy
end
theorem xx {t:T68} {i:Nat} {fs:List Kd} {N:Al}:(inN t i fs N).length≤N.length+2:=by
 cases t with
 | fn p x k b=>have:=aO N (.inr x) k;show (ai N (.inr x) k).length≤_;omega
 | slf p f x k g b=>have:=aO N (.inr f) (.to k g);have:=aO (ai N (.inr f) (.to k g)) (.inr x) k;show (ai (ai N (.inr f) (.to k g)) (.inr x) k).length≤_;omega
 | lt p x a b=>
   match i with
   | 0=>show N.length≤_;omega
   | 1=>have:=aO N (.inr x) (fs.headD .whole);show (ai N (.inr x) (fs.headD .whole)).length≤_;omega
   | i+2=>show N.length≤_;omega
 | _=>show N.length≤_;omega
theorem wD {W:List ι}:∀ {q:Nat} {bs:List ι} {t:T68} {N:Al} {w:Kd},Tp N w t→Ok W q bs t→∀ {m:Nat},q+10≤m→N.length+2 * q<1000→(ah q t).Nodup→Kh m q t N w
 | 0,_,_,_,_,_,o,_,_,_,_=>o.elim
 | q+1,bs,t,N,w,h,o,m,hm,hN,nd=>by
   obtain ⟨m,rfl⟩:∃ k,m=k+11:=⟨m - 11,by omega⟩
   have ih:∀ {y:T68} {i:Nat} {fs:List Kd} {k:Kd},y∈ak t→Tp (inN t i fs N) k y→Kh (m+10) q y (inN t i fs N) k:=fun {y i fs k} hy h=>by
    obtain ⟨j,hj⟩:=ϱ.mp hy
    have:=xx (t:=t) (i:=i) (fs:=fs) (N:=N)
    exact wD h (o.2.2.2 j y hj) (by omega) (by omega) (yS nd hy)
   have kp:∀ {y:T68},y∈ak t→1≤q:=fun {y} hy=>by
    obtain ⟨i,hi⟩:=ϱ.mp hy
    have:=o.2.2.2 i y hi
    cases q with
    | zero=>exact this.elim
    | succ q=>omega
   have k1:∀ {a:Kd},a.dep≤3→∀ z∈[a],z.dep≤4:=fun h z hz=>by rw [η.mp hz];omega
   have n0:∀ z∈([]:List Kd),z.dep≤4:=fun z hz=>nomatch hz
   have nf:∀ {x:ι},(x == ("if":ι))=false→x = "if"→False:=fun h e=>by rw [e] at h;exact nomatch h
   have hN':N.length<1000:=by omega
   cases h with
   | whole=>exact ut rfl rfl (fun S=>by kernel_rfl) (by decide)
   | given=>exact ut rfl rfl (fun S=>by kernel_rfl) (by decide)
   | truth=>exact ut rfl rfl (fun S=>by kernel_rfl) (by decide)
   | @name _ p x _ e d=>
     have g:ixD (dA N) (.str x)=some w.toD:=by show bW (ksA N) (dsA N) (.inr x)=_;rw [nI,e];rfl
     exact ut rfl rfl (fun S=>(aj false (aX 6 (g) aZ) (by kernel_rfl))) d
   | fn h ha d=>exact pP rfl (k1 ha) hN' (ih (i:=0) (fs:=[]) (.head _) h) (fun S=>by kernel_rfl) (fun S=>by kernel_rfl) (by show 1+max _ _≤4;omega)
   | slf h ha d=>exact pP rfl (fun z hz=>by simp [wks] at hz;rcases hz with rfl | rfl <;> omega) hN' (ih (i:=0) (fs:=[]) (.head _) h) (fun S=>by kernel_rfl) (fun S=>by kernel_rfl) (by show 1+max _ _≤4;omega)
   | @call _ p k _ a b ha hb d=>exact rz rfl n0 hN' (nf (by kernel_rfl)) (ih (i:=0) (fs:=[]) (.head _) ha) (ih (i:=1) (fs:=[.to k w]) (.tail _ (.head _)) hb) (fun S=>by kernel_rfl) (fun S=>by kernel_rfl) (fun S=>by kernel_rfl) d
   | @lt _ p x k _ a b ha hb d=>exact rz rfl n0 hN' (nf (by kernel_rfl)) (ih (i:=0) (fs:=[]) (.head _) ha) (ih (i:=1) (fs:=[k]) (.tail _ (.head _)) hb) (fun S=>by kernel_rfl) (fun S=>by kernel_rfl) (fun S=>by kernel_rfl) d
   | iff hc ha hb d=>exact Ch (kp (.head _)) nd hN' (ih (i:=0) (fs:=[]) (.head _) hc) (ih (i:=0) (fs:=[]) (.tail _ (.head _)) ha) (ih (i:=0) (fs:=[]) (.tail _ (.tail _ (.head _))) hb) d
   | @bin _ p s _ a b ha hb e=>
     subst e
     exact rz rfl n0 hN' (nf (by kernel_rfl)) (ih (i:=0) (fs:=[]) (.head _) ha) (ih (i:=1) (fs:=[.whole]) (.tail _ (.head _)) hb) (fun S=>by kernel_rfl) (fun S=>by kernel_rfl) (fun S=>by cases s <;> kernel_rfl) (by cases s <;> exact Ξ rfl)
   | @row _ p k ts h d=>
     intro a b g ha hb
     have e2:(ah (q+1) (.row p k ts)).length=(ts.flatMap (ah q)).length+1:=rfl
     have lt4:ts.length≤4:=o.1
     obtain ⟨a1,b1,g2,r2,l2,lp⟩:=AD (m:=m) (q:=q) (N:=N) (k:=k) (p:=p) (ts0:=ts) hN' (by omega) ts 0 [] a b rfl (fun j y hj=>by rw [Eh];exact hj) (fun y hy=>ih (i:=0) (fs:=[]) hy (h y hy)) g (by omega) (by omega) (by omega)
     exact ⟨_,_,done (k1 d) (fun e3=>lp e3 none none) (fun S=>by kernel_rfl) (by show 1+_≤4;omega) g2 r2 ha l2⟩
   | @pair _ p k l a b ha hb hk hl=>exact rz rfl n0 hN' (nf (by kernel_rfl)) (ih (i:=0) (fs:=[]) (.head _) ha) (ih (i:=1) (fs:=[k]) (.tail _ (.head _)) hb) (fun S=>by kernel_rfl) (fun S=>by kernel_rfl) (fun S=>by kernel_rfl) (by show 1+max _ _≤4;omega)
   | att ha hb d=>exact rz rfl n0 hN' (nf (by kernel_rfl)) (ih (i:=0) (fs:=[]) (.head _) ha) (ih (i:=1) (fs:=[.row w]) (.tail _ (.head _)) hb) (fun S=>by kernel_rfl) (fun S=>by kernel_rfl) (fun S=>by kernel_rfl) d
   | size ha=>exact pP rfl n0 hN' (ih (i:=0) (fs:=[]) (.head _) ha) (fun S=>by kernel_rfl) (fun S=>by kernel_rfl) (by decide)
   | one ha d=>exact pP rfl n0 hN' (ih (i:=0) (fs:=[]) (.head _) ha) (fun S=>by kernel_rfl) (fun S=>by kernel_rfl) d
   | two ha d=>exact pP rfl n0 hN' (ih (i:=0) (fs:=[]) (.head _) ha) (fun S=>by kernel_rfl) (fun S=>by kernel_rfl) d
   | as_ ha d=>exact pP rfl (fun z hz=>by rw [η.mp hz];exact d) hN' (ih (i:=0) (fs:=[]) (.head _) ha) (fun S=>by kernel_rfl) (fun S=>by kernel_rfl) d
theorem sD {W bs:List ι} {t:T68} (h:own W bs t):∀ p x,t = .name p x→x∈bs:=fun p x e=>by subst e;exact h
abbrev nB:S:=cY jg.body
theorem wT (bs l:List ι) (h:bs.length+l.length≤1000):opD .add (.tup (sts bs)) (.tup (sts l))=some (.tup (sts (bs ++ l))):=by
 show fb ((sts bs).length+(sts l).length) _=_
 unfold fb sts
 rw [ZZ (by simp;omega),ç]
theorem tX (t:T68) (i:Nat):(bnd t i).length≤2:=by
 cases t <;> first | exact Ξ rfl | (rename_i a b c d;match i with | 0=>exact Ξ rfl | 1=>exact Ξ rfl | i+2=>exact Ξ rfl)
theorem oz {W:List ι} {n m:Nat} (ih:∀ (y:T68) (bs:List ι) (S:List O),Ok W n bs y→bs.length+2 * n≤1000→ae Γ (m+4) dQ [y.toD,.tup (sts bs)] S = .ok .non S) (t:T68) (bs:List ι) (o4:∀ i k,(ak t)[i]? = some k→Ok W n (bs ++ bnd t i) k) (hb:bs.length+2 * (n+1)≤1000) (S:List O):∀ (r:List T68) (i:Nat) (e2 e3:Option D),(∀ j y,r[j]? = some y→(ak t)[i+j]? = some y)→∃ e2' e3':Option D,aR (jj Γ (ae Γ (m+4)) (aQ Γ (m+4)) [2,3] false nB) (bA (i:Nat) (toDs r)) ⟨[some t.toD,some (.tup (sts bs)),e2,e3],[],S⟩ = .nx ⟨[some t.toD,some (.tup (sts bs)),e2',e3'],[],S⟩
 | [],i,e2,e3,_=>⟨e2,e3,rfl⟩
 | y :: r,i,e2,e3,hr=>by
   have hy:(ak t)[i]? = some y:=hr 0 y rfl
   have n1:=yR t i y hy (m+3) S
   have l2:=tX t i
   have a1:=wT bs (bnd t i) (by omega)
   have i1:=ih y (bs ++ bnd t i) S (o4 i y hy) (by rw [φ];omega)
   obtain ⟨e2',e3',h⟩:=oz ih t bs o4 hb S r (i+1) (some (.int i)) (some y.toD) (fun j z hz=>by rw [Gj,Ei 1];exact hr (j+1) z hz)
   exact ⟨e2',e3',ao (aF rfl (eE false (aX 0 (n1) (aX 0 (a1) (aX 0 (i1) aZ))) (by kernel_rfl))) h⟩
theorem gD {W:List ι}:∀ (n m:Nat) (y:T68) (bs:List ι) (S:List O),n+4≤m→Ok W n bs y→bs.length+2 * n≤1000→ae Γ m dQ [y.toD,.tup (sts bs)] S = .ok .non S
 | 0,m,y,bs,S,_,o,_=>o.elim
 | n+1,m,t,bs,S,hm,o,hb=>by
   obtain ⟨m,rfl⟩:∃ k,m=k+5:=⟨m - 5,by omega⟩
   obtain ⟨o1,o2,o3,o4⟩:=o
   have p0:=eN t (m+1) S
   obtain ⟨e2,e3,lp⟩:=oz (m:=m) (fun y bs S o h=>gD n (m+4) y bs S (by omega) o h) t bs o4 hb S (ak t) 0 none none (fun j y h=>by rw [Eh];exact h)
   cases t with
   | name p x=>exact (aj true (aX 4 (notin (sD o1 p x rfl)) (aX 0 (p0) (aX 0 (lp) aZ))) (by kernel_rfl))
   | _=>exact (aj true (aX 0 (p0) (aX 0 (lp) aZ)) (by kernel_rfl))
def nb:Nat→Nat
 | 0=>0
 | n+1=>1+4 * nb n
theorem jM {W:List ι}:∀ (n:Nat) (bs:List ι) (t:T68),Ok W n bs t→(ah n t).length≤nb n
 | 0,bs,t,o=>o.elim
 | n+1,bs,t,⟨o1,_,_,o4⟩=>by
   have kl:=gm o1
   have f:∀ l:List T68,(∀ y∈l,(ah n y).length≤nb n)→(l.flatMap (ah n)).length≤l.length * nb n:=by
    intro l
    induction l with
    | nil=>intro _;simp
    | cons y r ih=>
      intro h
      rw [Æ,φ,Κ,De]
      have:=h y (by simp);have:=ih (fun z hz=>h z (by simp [hz]));omega
   have h:=f (ak t) (fun y hy=>by obtain ⟨i,hi⟩:=ϱ.mp hy;exact jM n _ y (o4 i y hi))
   have:(ak t).length * nb n≤4 * nb n:=Ű _ kl
   show ((ak t).flatMap (ah n)).length+1≤1+4 * nb n;omega
def dsI (l:List Int):List D:=l.map D.int
abbrev pB:S:=cY qQ.body
theorem oG {W:List ι} {n m:Nat} (ih:∀ (y:T68) (bs:List ι) (S:List O),Ok W n bs y→ae Γ m kO [y.toD] S = .ok (.lst (dsI (ah n y))) S) (t:T68) (S:List O):∀ (r:List T68) (acc:List Int) (e2:Option D),(∀ y∈r,∃ bs,Ok W n bs y)→acc.length+r.length * nb n≤100000→∃ e2':Option D,aR (jj Γ (ae Γ m) (aQ Γ m) [2] true pB) (toDs r) ⟨[some t.toD,some (.lst (dsI acc)),e2],[1],S⟩ = .nx ⟨[some t.toD,some (.lst (dsI (acc ++ r.flatMap (ah n)))),e2'],[1],S⟩
 | [],acc,e2,_,_=>⟨e2,by simp [aR,toDs]⟩
 | y :: r,acc,e2,hr,hl=>by
   obtain ⟨bs,oy⟩:=hr y (by simp)
   have i1:=ih y bs S oy
   have pl:=jM n bs y oy
   simp only [Κ,De,EE] at hl
   obtain ⟨e2',h⟩:=oG ih t S r (acc ++ ah n y) (some y.toD) (fun z hz=>hr z (by simp [hz])) (by rw [φ];omega)
   have l0:decide ((dsI acc).length+(dsI (ah n y)).length≤100000)=true:=ZW (by unfold dsI;rw [Ι,Ι];omega)
   refine ⟨e2',ao (s1:=⟨[some t.toD,some (.lst (dsI (acc ++ ah n y))),some y.toD],[1],S⟩) (aF rfl ?_) ?_⟩
   ·have e:dsI (acc ++ ah n y)=dsI acc ++ dsI (ah n y):=by unfold dsI;exact ç
    rw [e]
    exact (eE false (aX 0 (i1) (aX 0 (l0) aZ)) (by kernel_rfl))
   ·rw [h,Ç,Æ]
theorem iO {W:List ι}:∀ (n m:Nat) (t:T68) (bs:List ι) (S:List O),n+4≤m→n≤8→Ok W n bs t→ae Γ m kO [t.toD] S = .ok (.lst (dsI (ah n t))) S
 | 0,m,t,bs,S,_,_,o=>o.elim
 | n+1,m,t,bs,S,hm,h8,o=>by
   obtain ⟨m,rfl⟩:∃ k,m=k+5:=⟨m - 5,by omega⟩
   obtain ⟨o1,o2,o3,o4⟩:=o
   have p0:=eN t (m+1) S
   have kl:=gm o1
   have nb8:nb n≤5461:=by
    have:∀ k,k≤7→nb k≤5461:=by decide
    exact this n (by omega)
   have kn:(ak t).length * nb n≤4 * nb n:=Ű _ kl
   obtain ⟨e2,lp⟩:=oG (m:=m+4) (fun y bs S o=>iO n (m+4) y bs S (by omega) (by omega) o) t S (ak t) [t.pl] none (fun y hy=>by obtain ⟨i,hi⟩:=ϱ.mp hy;exact ⟨_,o4 i y hi⟩) (by simp only [ϋ];omega)
   exact (aj true (aX 0 (d9 t S) (aX 0 (p0) (aX 0 (lp) aZ))) (by kernel_rfl))
theorem kt {β:Type} {l:AlG β} {x:Key} {k:β} (h:aP l x=some k):∃ p∈l,p.2=k:=by
 induction l with
 | nil=>cases h
 | cons p r ih=>
   have h:(if p.1=x then some p.2 else aP r x)=some k:=h
   by_cases c:p.1=x
   ·rw [ZZ c] at h;exact ⟨p,by simp,by cases h;rfl⟩
   ·rw [ZY c] at h;obtain ⟨q,hq,e⟩:=ih h;exact ⟨q,by simp [hq],e⟩
theorem nb8:nb 8=21845:=by decide
abbrev lE:E:=.tup (.cons (.v 0) (.cons (.ix (.v 3) (.v 0)) (.cons (.ix (.v 4) (.v 0)) .nil)))
abbrev lC:E:=.op .ne (.ix (.v 3) (.v 0)) (.ix (.v 4) (.v 0))
theorem nX (m:Nat) (t:T68) (kd wd:Al) (h4:∀ p∈kd,p.2.dep≤4) (g:Ag kd wd):∀ (ps:List Int) (e:Option D),(∀ p∈ps,(aP kd (.inl p)).isSome=true)→∃ e':Option D,bt (lcQ Γ (ae Γ m) (aQ Γ m) [0] true lE lC) (dsI ps) [] ⟨[e,some t.toD,some (.tup [.ref 1,.ref 2]),some (.ref 1),some (.ref 2)],[],ls kd wd⟩ = .ok (.lst []) ⟨[e',some t.toD,some (.tup [.ref 1,.ref 2]),some (.ref 1),some (.ref 2)],[],ls kd wd⟩
 | [],e,_=>⟨e,rfl⟩
 | p :: r,e,hp=>by
   obtain ⟨k,hk⟩:=Ľ.mp (hp p (by simp))
   have g1:ixD (dA kd) (.int p)=some k.toD:=by show bW (ksA kd) (dsA kd) (.inl p)=_;rw [nI,hk];rfl
   have g2:ixD (dA wd) (.int p)=some k.toD:=by show bW (ksA wd) (dsA wd) (.inl p)=_;rw [nI,← g p,hk];rfl
   have k4:k.dep≤55:=by obtain ⟨q,hq,e⟩:=kt hk;have:=h4 q hq;rw [e] at this;omega
   have ne:=AZ k k4 (ls kd wd)
   have cd:ev Γ (ae Γ m) (aQ Γ m) true lC ⟨[some (.int p),some t.toD,some (.tup [.ref 1,.ref 2]),some (.ref 1),some (.ref 2)],[],ls kd wd⟩ = .ok (.bl false) ⟨[some (.int p),some t.toD,some (.tup [.ref 1,.ref 2]),some (.ref 1),some (.ref 2)],[],ls kd wd⟩:=(pE false (aX 0 (g1) (aX 0 (g2) (aX 0 (ne) aZ))) (by kernel_rfl))
   obtain ⟨e',h⟩:=nX m t kd wd h4 g r (some (.int p)) (fun q hq=>hp q (by simp [hq]))
   exact ⟨e',nV (rF rfl cd) h⟩
theorem gE {W:List ι} (t:T68) (ho:Ok W 8 [] t) (m:Nat) (hm:13≤m) (S:List O):ae Γ m jw [t.toD] S = .ok .non S:=by
 obtain ⟨m,rfl⟩:∃ k,m=k+1:=⟨m - 1,by omega⟩
 have:=gD 8 m t [] S (by omega) ho (by simp only [ϯ];omega)
 exact (aj false (aX 0 (this) aZ) (by kernel_rfl))
theorem wm {W:List ι} {t:T68} {w:Kd} (o:Ok W 8 [] t) (tp:Tp [] w t) (np:(ah 8 t).Nodup) (n:Nat):∃ st,ae Γ (n+23) ju [t.toD] [] = .ok (.dic [] []) st:=by
 have pn:=jM 8 [] t o
 rw [nb8] at pn
 obtain ⟨a,b,e⟩:=wD tp o (m:=n+20) (by omega) (by decide) np [] [] (fun _=>rfl) (by simp only [ϯ];omega) (by simp only [ϯ];omega)
 have lb:=e.lb
 have nn:=gE t o (n+20) (by omega) []
 have h1:=e.e
 have w1:=fH t w a b (by simp only [ϯ] at lb;omega) (n+19)
 have g:=e.held
 have pl:=iO 8 (n+21) t [] (ls a (ai b (.inl t.pl) w)) (by omega) (by decide) o
 have lk:ae Γ (n+21) rq [t.toD] [] = .ok (.tup [.ref 1,.ref 2]) (ls a (ai b (.inl t.pl) w)):=(aj false (aX 0 (nn) (aC (aX 0 (h1) (aX 0 (w1) aZ)))) (by kernel_rfl))
 obtain ⟨e',lp⟩:=nX (n+21) t a (ai b (.inl t.pl) w) (e.r.d4 fun p hp=>nomatch hp) g (ah 8 t) none e.r.hp
 have lo:ae Γ (n+22) mt [t.toD] [] = .ok (.lst []) (ls a (ai b (.inl t.pl) w)):=(aj true (aX 0 (lk) (aX 0 (pl) (aX 0 (lp) aZ))) (by kernel_rfl))
 exact ⟨ls a (ai b (.inl t.pl) w),(aj false (aX 0 (lo) aZ) (by kernel_rfl))⟩
end L2.K63
end
section
namespace L2.K63
open L2.Bw L2.Bk L2.Ev
inductive V68 where
 | num (i:Int) | tru (b:Bool) | row (xs:List V68) | pair (a b:V68) | fn (t:T68) (ks:List ι) (vs:List V68)
inductive Hd where
 | whole | truth | row | pair | to
 deriving DecidableEq
def Hd.str:Hd→ι
 | .whole=>"whole" | .truth=>"truth" | .row=>"row" | .pair=>"pair" | .to=>"to"
def V68.hd:V68→Hd
 | .num _=>.whole | .tru _=>.truth | .row _=>.row | .pair _ _=>.pair | .fn _ _ _=>.to
def cC (ks:List ι):List Key:=ks.map .inr
abbrev vP (h:Hd) (d:D):D:=.ins 3 [.str h.str,d,.tup [],.non]
mutual
noncomputable def V68.toP:V68→D
 | .num i=>.ins 3 [.str "whole",.int i,.tup [],.non]
 | .tru b=>.ins 3 [.str "truth",.bl b,.tup [],.non]
 | .row xs=>.ins 3 [.str "row",.tup (bx xs),.tup [],.non]
 | .pair a b=>.ins 3 [.str "pair",.tup [a.toP,b.toP],.tup [],.non]
 | .fn t ks vs=>.ins 3 [.str "to",.tup [t.toD,.dic (cC ks) (bx vs)],.tup [],.non]
noncomputable def bx:List V68→List D
 | []=>[]
 | t :: r=>t.toP :: bx r
end
theorem cK:∀ ts:List V68,bx ts=ts.map V68.toP
 | []=>rfl
 | t :: r=>by unfold bx;rw [cK r];rfl
def V68.held:V68→D
 | .num i=>.int i | .tru b=>.bl b | .row xs=>.tup (bx xs) | .pair a b=>.tup [a.toP,b.toP] | .fn t ks vs=>.tup [t.toD,.dic (cC ks) (bx vs)]
theorem tf (x:V68):x.toP=vP x.hd x.held:=by cases x <;> rfl
def gL:List ι→List V68→ι→V68→List V68
 | k :: ks,d :: ds,x,e=>(if k=x then e else d) :: gL ks ds x e
 | _,ds,_,_=>ds
def ay (ks:List ι) (x:ι):List ι:=if x∈ks then ks else ks ++ [x]
def aW (ks:List ι) (vs:List V68) (x:ι) (v:V68):List V68:=if x∈ks then gL ks vs x v else vs ++ [v]
def bO:List ι→List V68→ι→Option V68
 | k :: ks,d :: ds,x=>if k=x then some d else bO ks ds x
 | _,_,_=>none
theorem oP (f:V68→D) (x:ι) (v:V68):∀ (ks:List ι) (vs:List V68),fj (cC ks) (vs.map f) (.inr x) (f v)=(gL ks vs x v).map f
 | [],vs=>by cases vs <;> rfl
 | k :: ks,[]=>rfl
 | k :: ks,d :: ds=>by
   show (if (Č k:Key) = .inr x then f v else f d) :: fj (cC ks) (ds.map f) (.inr x) (f v)=((if k=x then v else d) :: gL ks ds x v).map f
   rw [oP f x v ks ds]
   by_cases h:k=x
   ·simp [h]
   ·have h2:¬ (Č k:Key) = .inr x:=fun e=>h (ĝ e)
    simp [h,h2]
theorem qv (x:ι) (ks:List ι):((cC ks).any fun k=>decide (k = .inr x))=decide (x∈ks):=by
 induction ks with
 | nil=>rfl
 | cons k r ih=>
   show (decide ((Č k:Key) = .inr x) || (cC r).any fun k=>decide (k = .inr x))=_
   rw [ih]
   by_cases h:k=x
   ·subst h;simp
   ·have h2:¬ (Č k:Key) = .inr x:=fun e=>h (ĝ e)
    have h3:¬ x=k:=fun e=>h e.symm
    simp [h2,h3]
theorem vr (f:V68→D) (ks:List ι) (vs:List V68) (x:ι) (v:V68):bE (cC ks) (vs.map f) (.inr x) (f v)=(cC (ay ks x),(aW ks vs x v).map f):=by
 unfold bE ay aW
 rw [qv]
 by_cases h:x∈ks
 ·simp [h,oP]
 ·simp [h,cC]
theorem fz (f:V68→D) (x:ι):∀ (ks:List ι) (vs:List V68),bW (cC ks) (vs.map f) (.inr x)=(bO ks vs x).map f
 | [],vs=>by cases vs <;> rfl
 | k :: ks,[]=>rfl
 | k :: ks,d :: ds=>by
   show (if (Č k:Key) = .inr x then some (f d) else bW (cC ks) (ds.map f) (.inr x))=(if k=x then some d else bO ks ds x).map f
   rw [fz f x ks ds]
   by_cases h:k=x
   ·simp [h]
   ·have h2:¬ (Č k:Key) = .inr x:=fun e=>h (ĝ e)
    simp [h,h2]
inductive Et where
 | wrong (p:Int) | nun (p:Int) | great (p:Int) | spent
def eD:Et→D
 | .wrong p=>.tup [.str "wrong",.int p]
 | .nun p=>.tup [.str "fault",.int p,.str "none"]
 | .great p=>.tup [.str "fault",.int p,.str "great"]
 | .spent=>.tup [.str "spent"]
inductive Rs (α:Type) where
 | ok (x:α) (c:Nat) | er (e:Et) (c:Nat)
def ij:T68→Nat→Option Hd
 | .call _ _ _,0=>some .to
 | .iff _ _ _ _,0=>some .truth
 | .bin _ _ _ _,0=>some .whole
 | .bin _ _ _ _,1=>some .whole
 | .att _ _ _,0=>some .row
 | .att _ _ _,1=>some .whole
 | .size _ _,0=>some .row
 | .one _ _,0=>some .pair
 | .two _ _,0=>some .pair
 | _,_=>none
def chk (t:T68) (i:Nat) (h:Hd):Bool:=match ij t i with
 | none=>true
 | some w=>decide (h=w)
def cz (f:T68→Nat→Rs V68) (t:T68):Nat→List T68→Nat→Rs (List V68)
 | _,[],c=>.ok [] c
 | i,k :: r,c=>(match f k c with
   | .er e c=>.er e c
   | .ok x c=>(match chk t i x.hd with
     | false=>.er (.wrong k.pl) c
     | true=>(match cz f t (i+1) r c with
       | .ok xs c=>.ok (x :: xs) c
       | .er e c=>.er e c)))
def nth (xs:List V68) (i p:Int):Except Et V68:=if 0≤i then (match xs[i.toNat]? with | some x=>.ok x | none=>.error (.nun p)) else .error (.nun p)
def big (x p:Int):Except Et V68:=if 10 ^ 40≤x.natAbs then .error (.great p) else .ok (.num x)
def p6 (p:Int):Sg→Int→Int→Except Et V68
 | .add,i,j=>big (i+j) p
 | .sub,i,j=>big (i - j) p
 | .mul,i,j=>big (i * j) p
 | .lt,i,j=>.ok (.tru (decide (i<j)))
 | .eq,i,j=>.ok (.tru (decide (i=j)))
def fin:T68→List V68→Except Et V68
 | .row _ _ _,xs=>.ok (.row xs)
 | .pair _ _ _,[a,b]=>.ok (.pair a b)
 | .bin p o _ _,[.num i,.num j]=>p6 p o i j
 | .as_ _ _ _,[a]=>.ok a
 | .att p _ _,[.row xs,.num i]=>nth xs i p
 | .size _ _,[.row xs]=>.ok (.num xs.length)
 | .one _ _,[.pair a _]=>.ok a
 | .two _ _,[.pair _ b]=>.ok b
 | _,_=>.error (.nun 0)
def ex (r:Except Et V68) (c:Nat):Rs V68:=match r with
 | .ok x=>.ok x c
 | .error e=>.er e c
abbrev Vf:=T68→List ι→List V68→Nat→Rs V68
def app (v:Vf) (f:T68) (ks:List ι) (vs:List V68) (u:V68):Nat→Rs V68
 | 0=>.er .spent 0
 | c+1=>(match f with
   | .fn _ x _ b=>v b (ay ks x) (aW ks vs x u) c
   | .slf _ g x _ _ b=>v b (ay (ay ks g) x) (aW (ay ks g) (aW ks vs g (.fn f ks vs)) x u) c
   | _=>.er (.nun 0) c)
def flat (ns:List Int) (ks:List ι) (vs:List V68):T68→Option V68
 | .whole _ v=>some (.num v)
 | .truth _ b=>some (.tru b)
 | .given _ i=>some (.num ((ns[i]?).getD 0))
 | .name _ x=>some ((bO ks vs x).getD (.num 0))
 | .fn p x k b=>some (.fn (.fn p x k b) ks vs)
 | .slf p f x k g b=>some (.fn (.slf p f x k g b) ks vs)
 | _=>none
def gq (v:Vf) (t:T68) (xs:List V68) (c:Nat):Rs V68:=match t,xs with
 | .call _ _ _,[.fn f ks vs,u]=>app v f ks vs u c
 | t,xs=>ex (fin t xs) c
def qe (ns:List Int) (v:Vf) (t:T68) (ks:List ι) (vs:List V68) (c:Nat):Rs V68:=match flat ns ks vs t with
 | some x=>.ok x c
 | none=>(match t with
   | .lt _ x a b=>(match v a ks vs c with
     | .er e c=>.er e c
     | .ok u c=>v b (ay ks x) (aW ks vs x u) c)
   | .iff _ a b d=>(match v a ks vs c with
     | .er e c=>.er e c
     | .ok u c=>(match u with
       | .tru true=>v b ks vs c
       | .tru false=>v d ks vs c
       | _=>.er (.wrong a.pl) c))
   | t=>(match cz (fun k c=>v k ks vs c) t 0 (ak t) c with
     | .er e c=>.er e c
     | .ok xs c=>gq v t xs c))
def val (ns:List Int):Nat→Vf
 | 0=>fun _ _ _ c=>.er (.nun 0) c
 | n+1=>qe ns (val ns n)
def ik (r:Except Et V68) (S:List O):Res:=match r with
 | .ok x=>.ok x.toP S
 | .error e=>.exc 2 [eD e] S
def wq (t:T68) (i:Nat) (k:T68) (h:Hd) (st:List O):Res:=if chk t i h then .ok .non st else .exc 2 [eD (.wrong k.pl)] st
theorem nh (t:T68) (i:Nat) (k:T68) (h:(ak t)[i]? = some k) (hd:Hd) (d:D) (n:Nat) (st:List O):ae Γ (n+4) kM [t.toD,.int i,vP hd d] st=wq t i k hd st:=by
 have hp:=eN t n st
 have hl:=d9 k st
 have e0:decide ((i:Int)<0)=false:=ZV (by omega)
 have e1:decide ((i:Int)<1)=decide (i<1):=by congr 1;exact propext (by omega)
 cases t with
 | whole p v=>cases h
 | truth p v=>cases h
 | given p v=>cases h
 | name p v=>cases h
 | fn p x kd b=>exact aa false [.t 3 false] (e0<|>Z) (by kernel_rfl)
 | slf p f x kd g b=>exact aa false [.t 3 false] (e0<|>Z) (by kernel_rfl)
 | lt p x a b=>exact aa false [.t 3 false] (e0<|>Z) (by kernel_rfl)
 | as_ p kd a=>exact aa false [.t 3 false] (e0<|>Z) (by kernel_rfl)
 | row p kd ts=>exact aa false [.t 3 false] (e0<|>Z) (by kernel_rfl)
 | pair p a b=>exact aa false [.t 3 false] (e0<|>Z) (by kernel_rfl)
 | iff p a b c=>
   match i,h with
   | 0,h=>
     cases h
     cases hd with
     | truth=>kernel_rfl
     | _=>exact aa false [.r (.ok (.lst [k.toD,b.toD,c.toD]) st),.o 1 (.int k.pl)] (hp<|>hl<|>Z) (by kernel_rfl)
   | i+1,h=>
     have e2:decide (((i+1:Nat):Int)<1)=false:=ZV (by omega)
     exact aa false [.t 3 false] (e2<|>Z) (by kernel_rfl)
 | call p a b=>
   match i,h with
   | 0,h=>
     cases h
     cases hd with
     | to=>kernel_rfl
     | _=>exact aa false [.r (.ok (.lst [k.toD,b.toD]) st),.o 1 (.int k.pl)] (hp<|>hl<|>Z) (by kernel_rfl)
   | i+1,h=>
     have e2:decide (((i+1:Nat):Int)<1)=false:=ZV (by omega)
     exact aa false [.t 3 false] (e2<|>Z) (by kernel_rfl)
 | bin p o a b=>
   match i,h with
   | 0,h=>
     cases h
     cases hd with
     | whole=>kernel_rfl
     | _=>exact aa false [.r (.ok (.lst [k.toD,b.toD]) st),.o 1 (.int k.pl)] (hp<|>hl<|>Z) (by kernel_rfl)
   | 1,h=>
     cases h
     cases hd with
     | whole=>kernel_rfl
     | _=>exact aa false [.r (.ok (.lst [a.toD,k.toD]) st),.o 1 (.int k.pl)] (hp<|>hl<|>Z) (by kernel_rfl)
   | i+2,h=>cases h
 | att p a b=>
   match i,h with
   | 0,h=>
     cases h
     cases hd with
     | row=>kernel_rfl
     | _=>exact aa false [.r (.ok (.lst [k.toD,b.toD]) st),.o 1 (.int k.pl)] (hp<|>hl<|>Z) (by kernel_rfl)
   | 1,h=>
     cases h
     cases hd with
     | whole=>kernel_rfl
     | _=>exact aa false [.r (.ok (.lst [a.toD,k.toD]) st),.o 1 (.int k.pl)] (hp<|>hl<|>Z) (by kernel_rfl)
   | i+2,h=>cases h
 | size p a=>
   match i,h with
   | 0,h=>
     cases h
     cases hd with
     | row=>kernel_rfl
     | _=>exact aa false [.r (.ok (.lst [k.toD]) st),.o 1 (.int k.pl)] (hp<|>hl<|>Z) (by kernel_rfl)
   | i+1,h=>cases h
 | one p a=>
   match i,h with
   | 0,h=>
     cases h
     cases hd with
     | pair=>kernel_rfl
     | _=>exact aa false [.r (.ok (.lst [k.toD]) st),.o 1 (.int k.pl)] (hp<|>hl<|>Z) (by kernel_rfl)
   | i+1,h=>cases h
 | two p a=>
   match i,h with
   | 0,h=>
     cases h
     cases hd with
     | pair=>kernel_rfl
     | _=>exact aa false [.r (.ok (.lst [k.toD]) st),.o 1 (.int k.pl)] (hp<|>hl<|>Z) (by kernel_rfl)
   | i+1,h=>cases h
theorem mR {x:Int} (h:x.natAbs<10 ^ 81):biD .str [.int x]=some (.str (Ϝ (toString x))):=by
 have c:x.natAbs.log2<1920:=by
  by_cases z:x.natAbs=0
  ·rw [z];decide
  ·exact á ((EF z).mpr (á h (show 10 ^ 81≤2 ^ 270 by decide +kernel))) (by decide)
 show (if x.natAbs.log2<1920 then _ else _)=_
 rw [ZZ c]
theorem nv (k:Nat):40<(toString (k:Int)).length↔10 ^ 40≤k:=by
 have e:toString ((k:Nat):Int)=ED k:=rfl
 have h:=Ę (n:=k) (k:=40) (by decide)
 rw [e]
 constructor
 ·intro z;exact Fx fun w=>ZX (h.mpr w) (by omega)
 ·intro z;exact Nat.lt_of_not_le fun w=>ZX (h.mp w) (by omega)
theorem xi {k:Nat} (h:k<10 ^ 81):(toString (k:Int)).length≤100000:=by
 have e:toString ((k:Nat):Int)=ED k:=rfl
 rw [e]
 exact ϖ ((Ę (n:=k) (k:=81) (by decide)).mpr h) (by decide)
theorem yQ {i j:Int} (hi:i.natAbs<10 ^ 40) (hj:j.natAbs<10 ^ 40):opD .mul (.int i) (.int j)=some (.int (i * j)):=by
 have e:(10:Nat) ^ 40<2 ^ 400:=by decide +kernel
 show (if _ then _ else _)=_
 rw [ZZ (.inr ⟨CQ hi e,CQ hj e⟩)]
def wA (s:Sg) (i j:Int):Int:=match s with | .add=>i+j | .sub=>i - j | _=>i * j
theorem Cq (s:Sg) (i j:Int) (hi:i.natAbs<10 ^ 40) (hj:j.natAbs<10 ^ 40) (hs:s≠.lt∧s≠.eq) (n:Nat) (st:List O):ae Γ (n+1) dR [.str s.str,.int i,.int j] st = .ok (.int (wA s i j)) st:=by
 cases s with
 | add=>kernel_rfl
 | sub=>kernel_rfl
 | mul=>exact aa false [.o 4 (.int (i * j))] (yQ hi hj<|>Z) (by kernel_rfl)
 | lt=>exact ZX rfl hs.1
 | eq=>exact ZX rfl hs.2
theorem xj (i j:Int):eqv 55 (.int i) (.int j)=some (decide (i=j)):=by
 show some (i == j)=_
 congr 1
theorem zg (p:Int) (s:Sg) (a b:T68) (i j:Int) (hi:i.natAbs<10 ^ 40) (hj:j.natAbs<10 ^ 40) (n:Nat) (st:List O):ae Γ (n+2) gc [(T68.bin p s a b).toD,.int i,.int j] st=ik (p6 p s i j) st:=by
 have arith:(s≠.lt∧s≠.eq)→(x:Int)→x=wA s i j→p6 p s i j=big x p→ae Γ (n+2) gc [(T68.bin p s a b).toD,.int i,.int j] st=ik (p6 p s i j) st:=by
  intro hs x ex eb
  have hx:x.natAbs<10 ^ 81:=by
   subst ex
   cases s with
   | add=>show (i+j).natAbs<_;have e:(10:Nat) ^ 40+10 ^ 40≤10 ^ 81:=by decide +kernel
          omega
   | sub=>show (i - j).natAbs<_;have e:(10:Nat) ^ 40+10 ^ 40≤10 ^ 81:=by decide +kernel
          omega
   | mul=>
     show (i * j).natAbs<_
     rw [Int.natAbs_mul]
     exact á (Nat.mul_lt_mul'' hi hj) (by decide +kernel)
   | lt=>exact ZX rfl hs.1
   | eq=>exact ZX rfl hs.2
  have h1:=Cq s i j hi hj hs n st
  rw [← ex] at h1
  have ab:biD .abs [.int x]=some (.int (x.natAbs:Int)):=by
   show some (D.int (if x<0 then -x else x))=_
   congr 2
   split <;> omega
  have h2:=mR (x:=(x.natAbs:Int)) (by rw [F9];exact hx)
  have h3:biD .len [.str (Ϝ (toString (x.natAbs:Int)))]=some (.int ((toString (x.natAbs:Int)).length:Nat)):=by
   show (if (Ϝ (toString (x.natAbs:Int))).length≤100000 then _ else _)=_
   rw [ş,ZZ (xi hx)]
  rw [eb]
  unfold big
  by_cases c:x.natAbs<10 ^ 40
  ·rw [ZY (by omega)]
   have h4:decide ((40:Int)<((toString (x.natAbs:Int)).length:Nat))=false:=ZV (fun z=>by have:=(nv x.natAbs).mp (by omega);omega)
   cases s with
   | lt=>exact ZX rfl hs.1
   | eq=>exact ZX rfl hs.2
   | _=>exact aa false [.r (.ok (.int x) st),.o 0 (.int (x.natAbs:Int)),.o 0 (.str (Ϝ (toString (x.natAbs:Int)))),.o 0 (.int ((toString (x.natAbs:Int)).length:Nat)),.t 1 false,.r (.ok (V68.num x).toP st)] (h1<|>ab<|>h2<|>h3<|>h4<|>cS n st (.str "whole") (.int x)<|>Z) (by kernel_rfl)
  ·rw [ZZ (by omega)]
   have h4:decide ((40:Int)<((toString (x.natAbs:Int)).length:Nat))=true:=ZW (by have:=(nv x.natAbs).mpr (by omega);omega)
   cases s with
   | lt=>exact ZX rfl hs.1
   | eq=>exact ZX rfl hs.2
   | _=>exact aa false [.r (.ok (.int x) st),.o 0 (.int (x.natAbs:Int)),.o 0 (.str (Ϝ (toString (x.natAbs:Int)))),.o 0 (.int ((toString (x.natAbs:Int)).length:Nat)),.t 1 true] (h1<|>ab<|>h2<|>h3<|>h4<|>Z) (by kernel_rfl)
 cases s with
 | lt=>exact aa false [.r (.ok (V68.tru (decide (i<j))).toP st)] (cS n st (.str "truth") (.bl (decide (i<j)))<|>Z) (by kernel_rfl)
 | eq=>exact aa false [.o 5 (.bl (decide (i=j))),.r (.ok (V68.tru (decide (i=j))).toP st)] ((ZS (Option.map D.bl) (xj i j))<|>cS n st (.str "truth") (.bl (decide (i=j)))<|>Z) (by kernel_rfl)
 | add=>exact arith ⟨by decide,by decide⟩ _ rfl rfl
 | sub=>exact arith ⟨by decide,by decide⟩ _ rfl rfl
 | mul=>exact arith ⟨by decide,by decide⟩ _ rfl rfl
def ws (tg:Bool) (ns:List Int) (c:Nat):List O:=[.ins 5 [.dic [] [],.lst (ns.map .int),.ref 1],.ins 4 [.int c,.bl tg,.ref 2],.lst []]
def d8 (tg:Bool) (ns:List Int):Rs V68→Res
 | .ok x c=>.ok x.toP (ws tg ns c)
 | .er e c=>.exc 2 [eD e] (ws tg ns c)
theorem iZ (hd:Hd) (d:D) (k:Int) (n:Nat) (S:List O):ae Γ (n+1) f9 [vP hd d,.int k] S = .ok (.lst []) S:=by kernel_rfl
theorem dM (d:D) (n:Nat) (ns:List Int) (c:Nat):ae Γ (n+1) eJ [.ref 1,d,.lst []] (ws tg ns c) = .ok d (ws tg ns c):=by kernel_rfl
section
variable {ns:List Int} {c:Nat}
theorem lB (hd:Hd) (hh:hd = .row∨hd = .pair) (xs:List D) (i:Nat) (d:D) (h:xs[i]? = some d) (n:Nat):ae Γ (n+2) mw [vP hd (.tup xs),.int i,.ref 1] (ws tg ns c) = .ok d (ws tg ns c):=by
 have hi:ixD (.tup xs) (.int (i:Int))=some d:=cn h
 rcases hh with rfl | rfl
 ·exact aa false [.o 5 d,.r (.ok (.lst []) (ws tg ns c)),.r (.ok d (ws tg ns c))] (hi<|>iZ .row (.tup xs) 1 n (ws tg ns c)<|>dM (tg:=tg) d n ns c<|>Z) (by kernel_rfl)
 ·exact aa false [.o 6 d,.r (.ok (.lst []) (ws tg ns c)),.r (.ok d (ws tg ns c))] (hi<|>iZ .pair (.tup xs) ((i:Int)+1) n (ws tg ns c)<|>dM (tg:=tg) d n ns c<|>Z) (by kernel_rfl)
theorem jZ {xs:List V68} {i:Nat}:(bx xs)[i]? = (xs[i]?).map V68.toP:=by rw [cK,Φ]
theorem c8 {xs:List V68}:(bx xs).length=xs.length:=by rw [cK,Ι]
theorem te (p:Int) (a b:T68) (xs:List V68) (i:Int) (n:Nat):ae Γ (n+3) mv [(T68.att p a b).toD,(V68.row xs).toP,.int i,.ref 1] (ws tg ns c)=ik (nth xs i p) (ws tg ns c):=by
 unfold nth
 by_cases c1:0≤i
 ·rw [ZZ c1]
  have e1:decide ((0:Int)≤i)=true:=ZW c1
  obtain ⟨k,rfl⟩:∃ k:Nat,i=k:=⟨i.toNat,by omega⟩
  rw [Ě]
  cases q:xs[k]? with
  | some x=>
    have lt:k<xs.length:=(τ.mp q).1
    have e2:(!decide ((k:Int)<((bx xs).length:Nat)))=false:=by rw [c8];simp;omega
    have h:=lB (tg:=tg) (ns:=ns) (c:=c) .row (.inl rfl) (bx xs) k x.toP (by rw [jZ,q];rfl) n
    exact aa false [.t 1 true,.t 3 false,.r (.ok x.toP (ws tg ns c))] (e1<|>e2<|>h<|>Z) (by kernel_rfl)
  | none=>
    have ge:xs.length≤k:=Ć.mp q
    have e2:(!decide ((k:Int)<((bx xs).length:Nat)))=true:=by rw [c8];simp;omega
    exact aa false [.t 1 true,.t 3 true] (e1<|>e2<|>Z) (by kernel_rfl)
 ·rw [ZY c1]
  have e1:decide ((0:Int)≤i)=false:=ZV c1
  exact aa false [.t 1 false] (e1<|>Z) (by kernel_rfl)
def Shp:T68→List V68→Prop
 | .row _ _ _,_=>True
 | .pair _ _ _,xs=>∃ a b,xs = [a,b]
 | .bin _ _ _ _,xs=>∃ i j:Int,i.natAbs<10 ^ 40∧j.natAbs<10 ^ 40∧xs = [.num i,.num j]
 | .as_ _ _ _,xs=>∃ a,xs = [a]
 | .att _ _ _,xs=>∃ ys i,xs = [.row ys,.num i]
 | .size _ _,xs=>∃ ys,xs = [.row ys]
 | .one _ _,xs=>∃ a b,xs = [.pair a b]
 | .two _ _,xs=>∃ a b,xs = [.pair a b]
 | _,_=>False
theorem B7 (t:T68) (xs:List V68) (h:Shp t xs) (n:Nat):ae Γ (n+4) xE [t.toD,.lst (bx xs),.ref 1] (ws tg ns c)=ik (fin t xs) (ws tg ns c):=by
 cases t with
 | row p kd ts=>exact aa false [.r (.ok (.ins 3 [.str "row",.tup (bx xs),.tup [],.non]) (ws tg ns c))] (cS (n+2) (ws tg ns c) (.str "row") (.tup (bx xs))<|>Z) (by kernel_rfl)
 | pair p a b=>
   obtain ⟨u,v,rfl⟩:=h
   exact aa false [.r (.ok (.ins 3 [.str "pair",.tup [u.toP,v.toP],.tup [],.non]) (ws tg ns c))] (cS (n+2) (ws tg ns c) (.str "pair") (.tup [u.toP,v.toP])<|>Z) (by kernel_rfl)
 | bin p o a b=>
   obtain ⟨i,j,hi,hj,rfl⟩:=h
   have h1:=zg p o a b i j hi hj (n+1) (ws tg ns c)
   show _=ik (p6 p o i j) (ws tg ns c)
   revert h1
   cases p6 p o i j with
   | ok x=>exact fun h1=>aa false [.r (ik (.ok x) (ws tg ns c))] (h1<|>Z) (by kernel_rfl)
   | error e=>exact fun h1=>aa false [.r (ik (.error e) (ws tg ns c))] (h1<|>Z) (by kernel_rfl)
 | as_ p kd a=>
   obtain ⟨u,rfl⟩:=h
   kernel_rfl
 | att p a b=>
   obtain ⟨ys,i,rfl⟩:=h
   have h1:=te (tg:=tg) (ns:=ns) (c:=c) p a b ys i n
   show _=ik (nth ys i p) (ws tg ns c)
   revert h1
   cases nth ys i p with
   | ok x=>exact fun h1=>aa false [.r (ik (.ok x) (ws tg ns c))] (h1<|>Z) (by kernel_rfl)
   | error e=>exact fun h1=>aa false [.r (ik (.error e) (ws tg ns c))] (h1<|>Z) (by kernel_rfl)
 | size p a=>
   obtain ⟨ys,rfl⟩:=h
   have e:biD .len [.tup (bx ys)]=some (.int (ys.length:Nat)):=by show some (D.int ((bx ys).length:Nat))=_;rw [c8]
   exact aa false [.o 11 (.int (ys.length:Nat)),.r (.ok (V68.num ys.length).toP (ws tg ns c))] (e<|>cS (n+2) (ws tg ns c) (.str "whole") (.int (ys.length:Nat))<|>Z) (by kernel_rfl)
 | one p a=>
   obtain ⟨u,v,rfl⟩:=h
   exact aa false [.r (.ok u.toP (ws tg ns c))] (lB (tg:=tg) (ns:=ns) (c:=c) .pair (.inr rfl) [u.toP,v.toP] 0 u.toP rfl (n+1)<|>Z) (by kernel_rfl)
 | two p a=>
   obtain ⟨u,v,rfl⟩:=h
   exact aa false [.r (.ok v.toP (ws tg ns c))] (lB (tg:=tg) (ns:=ns) (c:=c) .pair (.inr rfl) [u.toP,v.toP] 1 v.toP rfl (n+1)<|>Z) (by kernel_rfl)
 | _=>exact h.elim
abbrev eP (ks:List ι) (vs:List V68):D:=.dic (cC ks) (bx vs)
theorem Be (ks:List ι) (vs:List V68) (x:ι) (v:V68) (h:ks.length<100000):(if (cC ks).length<100000 then some (D.dic (bE (cC ks) (bx vs) (.inr x) v.toP).1 (bE (cC ks) (bx vs) (.inr x) v.toP).2) else none)=some (eP (ay ks x) (aW ks vs x v)):=by
 have l:(cC ks).length=ks.length:=Ι ..
 rw [l,ZZ h,cK,vr V68.toP]
 show some (D.dic _ _)=some (D.dic _ (bx _))
 rw [cK]
theorem cN (ks:List ι) (vs:List V68) (x:ι) (v:V68) (h:ks.length<100000) (n:Nat) (S:List O):ae Γ (n+1) jv [eP ks vs,.str x,v.toP] S = .ok (eP (ay ks x) (aW ks vs x v)) S:=
 aa false [.o 1 (eP (ay ks x) (aW ks vs x v))] (Be ks vs x v h<|>Z) (by kernel_rfl)
end
structure En (W:List ι) (ks:List ι) (vs:List V68):Prop where
 nd:ks.Nodup
 sb:∀ x∈ks,x∈W
 ln:ks.length=vs.length
theorem jF:∀ (ks W:List ι),ks.Nodup→(∀ x∈ks,x∈W)→ks.length≤W.length
 | [],W,_,_=>Â _
 | k :: r,W,hn,hs=>by
   rw [Ϟ] at hn
   have hk:k∈W:=hs k (ν ..)
   have h:=jF r (W.erase k) hn.2 fun x hx=>(El (fun e:x=k=>hn.1 (e ▸ hx))).mpr (hs x (μ _ hx))
   have l:=DT hk
   have p:0<W.length:=E4 hk
   rw [Κ];omega
theorem du:∀ (ks:List ι) (vs:List V68) (x:ι) (v:V68),(gL ks vs x v).length=vs.length
 | [],vs,_,_=>by cases vs <;> rfl
 | k :: ks,[],_,_=>rfl
 | k :: ks,d :: ds,x,v=>by show (gL ks ds x v).length+1=_;rw [du];rfl
theorem En.put {W ks:List ι} {vs:List V68} (h:En W ks vs) {x:ι} (hx:x∈W) (v:V68):En W (ay ks x) (aW ks vs x v):=by
 unfold ay aW
 by_cases c:x∈ks
 ·rw [ZZ c,ZZ c]
  exact ⟨h.nd,h.sb,by rw [du];exact h.ln⟩
 ·rw [ZY c,ZY c]
  refine ⟨?_,?_,by simp [h.ln]⟩
  ·rw [é]
   exact ⟨h.nd,by simp,fun a ha b hb e=>c (by rw [η.mp hb] at e;exact e ▸ ha)⟩
  ·intro y hy
   rcases Ϯ.mp hy with hy | hy
   ·exact h.sb y hy
   ·rw [η.mp hy];exact hx
theorem dX (ks:List ι) (x y:ι) (h:y∈ks∨y=x):y∈ay ks x:=by
 unfold ay
 by_cases c:x∈ks
 ·rw [ZZ c]
  rcases h with h | h
  ·exact h
  ·exact h ▸ c
 ·rw [ZY c]
  rcases h with h | h
  ·exact À _ h
  ·exact Í _ (by rw [h];exact List.mem_singleton_self _)
theorem sC {W bs bs':List ι} (h:∀ x∈bs,x∈bs') {t:T68} (o:own W bs t):own W bs' t:=by
 cases t with
 | name p x=>exact h x o
 | _=>exact o
theorem Ok.mono {W:List ι}:∀ {n:Nat} {bs bs':List ι} {t:T68},Ok W n bs t→(∀ x∈bs,x∈bs')→∀ {m:Nat},n≤m→Ok W m bs' t
 | 0,bs,bs',t,h,_,m,_=>h.elim
 | n+1,bs,bs',t,h,hs,m,hm=>by
   obtain ⟨m,rfl⟩:∃ k,m=k+1:=⟨m - 1,by omega⟩
   refine ⟨sC hs h.1,h.2.1,h.2.2.1,fun i k hk=>(h.2.2.2 i k hk).mono ?_ (by omega)⟩
   intro x hx
   rcases Ϯ.mp hx with hx | hx
   ·exact À _ (hs x hx)
   ·exact Í _ hx
theorem mo {P:V68→Prop} {x:ι}:∀ {ks:List ι} {vs:List V68},x∈ks→ks.length=vs.length→(∀ v∈vs,P v)→∃ v,bO ks vs x=some v∧P v
 | k :: ks,[],_,l,_=>by cases l
 | k :: ks,d :: ds,hx,l,hp=>by
   show ∃ v,(if k=x then some d else bO ks ds x)=some v∧P v
   by_cases c:k=x
   ·rw [ZZ c];exact ⟨d,rfl,hp d (ν ..)⟩
   ·rw [ZY c]
    refine mo ?_ (by simpa using l) fun v hv=>hp v (μ _ hv)
    rcases ξ.mp hx with e | h
    ·exact ZX e.symm c
    ·exact h
theorem oO {P:V68→Prop} {x:ι} {e:V68} (he:P e):∀ {ks:List ι} {vs:List V68},(∀ v∈vs,P v)→∀ v∈gL ks vs x e,P v
 | [],vs,hp,v,hv=>hp v (by cases vs <;> exact hv)
 | k :: ks,[],hp,v,hv=>hp v hv
 | k :: ks,d :: ds,hp,v,hv=>by
   have hv:v∈(if k=x then e else d) :: gL ks ds x e:=hv
   rcases ξ.mp hv with h | h
   ·rw [h];split
    ·exact he
    ·exact hp d (ν ..)
   ·exact oO he (fun v hv=>hp v (μ _ hv)) v h
theorem sK {P:V68→Prop} {x:ι} {e:V68} (he:P e) {ks:List ι} {vs:List V68} (hp:∀ v∈vs,P v):∀ v∈aW ks vs x e,P v:=by
 intro v hv
 unfold aW at hv
 split at hv
 ·exact oO he hp v hv
 ·rcases Ϯ.mp hv with h | h
  ·exact hp v h
  ·rw [η.mp h];exact he
def isFn:T68→Prop
 | .fn _ _ _ _=>True
 | .slf _ _ _ _ _ _=>True
 | _=>False
inductive VOk (W:List ι):V68→Prop
 | num {i:Int} (h:i.natAbs<10 ^ 40):VOk W (.num i)
 | tru {b:Bool}:VOk W (.tru b)
 | row {xs:List V68} (l:xs.length≤4) (h:∀ x∈xs,VOk W x):VOk W (.row xs)
 | pair {a b:V68} (ha:VOk W a) (hb:VOk W b):VOk W (.pair a b)
 | fn {t:T68} {ks:List ι} {vs:List V68} (hf:isFn t) (ho:Ok W 8 ks t) (he:En W ks vs) (h:∀ x∈vs,VOk W x):VOk W (.fn t ks vs)
structure Nm (W ks:List ι) (vs:List V68):Prop extends En W ks vs where
 al:∀ v∈vs,VOk W v
theorem Nm.put {W ks:List ι} {vs:List V68} (h:Nm W ks vs) {x:ι} (hx:x∈W) {v:V68} (hv:VOk W v)  :Nm W (ay ks x) (aW ks vs x v):=⟨h.toEn.put hx v,sK hv h.al⟩
theorem Nm.lt {W ks:List ι} {vs:List V68} (h:Nm W ks vs) (hW:W.length≤1000):ks.length<100000:=by
 have:=jF ks W h.nd h.sb;omega
section
variable {ns:List Int} {W:List ι}
theorem yg (p:Int) (k:Nat) (names:D) (n:Nat) (st:List O):ae Γ (n+2) dP [(T68.given p k).toD,names,.lst (ns.map .int)] st = .ok (V68.num ((ns[k]?).getD 0)).toP st:=by
 by_cases c:k<ns.length
 ·have e1:decide ((k:Int)<((ns.map D.int).length:Nat))=true:=by rw [Ι];exact ZW (by omega)
  have e2:ixD (.lst (ns.map D.int)) (.int (k:Int))=some (.int ((ns[k]?).getD 0)):=by
   refine cn ?_
   rw [Φ,Α c]
   rfl
  exact aa false [.t 6 true,.o 1 (.int ((ns[k]?).getD 0)),.r (.ok (V68.num ((ns[k]?).getD 0)).toP st)] (e1<|>e2<|>cS n st (.str "whole") (.int ((ns[k]?).getD 0))<|>Z) (by kernel_rfl)
 ·have e1:decide ((k:Int)<((ns.map D.int).length:Nat))=false:=by rw [Ι];exact ZV (by omega)
  have e2:(ns[k]?).getD 0=0:=by rw [ť (by omega)];rfl
  rw [e2]
  exact aa false [.t 6 false,.r (.ok (V68.num 0).toP st)] (e1<|>cS n st (.str "whole") (.int 0)<|>Z) (by kernel_rfl)
theorem AN (t:T68) (ks:List ι) (vs:List V68) (x:V68) (h:flat ns ks vs t=some x) (ho:own W ks t) (he:Nm W ks vs) (n:Nat) (S:List O):ae Γ (n+2) dP [t.toD,eP ks vs,.lst (ns.map .int)] S = .ok x.toP S:=by
 cases t with
 | whole p v=>cases h;kernel_rfl
 | truth p v=>cases h;kernel_rfl
 | given p i=>cases h;exact yg p i _ n S
 | name p y=>
   obtain ⟨v,hv,_⟩:=mo (P:=VOk W) (x:=y) ho he.ln he.al
   have h:some ((bO ks vs y).getD (.num 0))=some x:=h
   rw [hv] at h
   have h:v=x:=ϡ h
   subst h
   have e:ixD (eP ks vs) (.str y)=some v.toP:=by
    show bW (cC ks) (bx vs) (.inr y)=_
    rw [cK,fz V68.toP,hv];rfl
   exact aa false [.o 6 v.toP] (e<|>Z) (by kernel_rfl)
 | fn p y k b=>cases h;exact aa false [.r (.ok (V68.fn (.fn p y k b) ks vs).toP S)] (cS n S (.str "to") (.tup [(T68.fn p y k b).toD,eP ks vs])<|>Z) (by kernel_rfl)
 | slf p f y k g b=>cases h;exact aa false [.r (.ok (V68.fn (.slf p f y k g b) ks vs).toP S)] (cS n S (.str "to") (.tup [(T68.slf p f y k g b).toD,eP ks vs])<|>Z) (by kernel_rfl)
 | _=>cases h
theorem Aq (a f:D) (n:Nat):ae Γ (n+2) bV [.ref 1,a,f] (ws tg ns 0) = .exc 2 [eD .spent] (ws tg ns 0):=by kernel_rfl
theorem Ar (a:D) (h:Hd) (d:D) (c n:Nat):ae Γ (n+2) bV [.ref 1,a,vP h d] (ws tg ns (c+1)) = .ok a (ws tg ns c):=by
 have e0:decide (((c+1:Nat):Int)<1)=false:=ZV (by omega)
 have e1:exS Γ (ae Γ (n+1)) (aQ Γ (n+1)) (.fld (.v 0) 7 (.op .sub (.fld (.v 0) 7) (.c (.int 1)))) ⟨[some (.ref 1),some a,some (vP h d)],[],ws tg ns (c+1)⟩ = .nx ⟨[some (.ref 1),some a,some (vP h d)],[],[.ins 5 [.dic [] [],.lst (ns.map .int),.ref 1],.ins 4 [.int (((c+1:Nat):Int) - 1),.bl tg,.ref 2],.lst []]⟩:=by kernel_rfl
 have e2:((c+1:Nat):Int) - 1=(c:Int):=by omega
 rw [e2] at e1
 exact aa false [.t 2 false,.x (.nx ⟨[some (.ref 1),some a,some (vP h d)],[],ws tg ns c⟩),.r (.ok (.lst []) (ws tg ns c)),.r (.ok a (ws tg ns c))] (e0<|>e1<|>iZ h d 1 n (ws tg ns c)<|>dM (tg:=tg) a n ns c<|>Z) (by kernel_rfl)
end
section
variable {ns:List Int} {W:List ι}
def cR (W:List ι) (c:Nat):Rs V68→Prop
 | .ok x c'=>VOk W x∧c'≤c
 | .er _ c'=>c'≤c
def qo (W:List ι) (t:T68) (i n c:Nat):Rs (List V68)→Prop
 | .ok xs c'=>(∀ x∈xs,VOk W x)∧xs.length=n∧c'≤c∧∀ j x,xs[j]? = some x→chk t (i+j) x.hd=true
 | .er _ c'=>c'≤c
theorem jl {f:T68→Nat→Rs V68} {t:T68}:∀ (ts:List T68) (i c:Nat),(∀ k∈ts,∀ c,cR W c (f k c))→qo W t i ts.length c (cz f t i ts c)
 | [],i,c,_=>⟨fun x h=>(nomatch h),rfl,ω _,fun j x h=>by simp at h⟩
 | k :: r,i,c,hf=>by
   have h1:=hf k (ν ..) c
   unfold cz
   revert h1
   cases f k c with
   | er e c1=>exact fun h1=>h1
   | ok x c1=>
     intro h1
     obtain ⟨hx,hc⟩:=h1
     dsimp only
     cases q:chk t i x.hd with
     | false=>exact hc
     | true=>
       have ih:=jl (f:=f) (t:=t) r (i+1) c1 fun k' m=>hf k' (μ _ m)
       dsimp only
       revert ih
       cases cz f t (i+1) r c1 with
       | er e c2=>exact fun ih=>ϖ ih hc
       | ok xs c2=>
         intro ih
         obtain ⟨a,b,d,e⟩:=ih
         refine ⟨fun y hy=>?_,by simp [b],ϖ d hc,fun j y hj=>?_⟩
         ·rcases ξ.mp hy with rfl | hy
          ·exact hx
          ·exact a y hy
         ·match j,hj with
          | 0,hj=>cases hj;exact q
          | j+1,hj=>
            have:=e j y hj
            rw [show i+(j+1)=i+1+j by omega];exact this
theorem ng {t:T68} {i:Nat} {x:V68} (hn:ij t i=some .row) (h:chk t i x.hd=true):∃ ys,x = .row ys:=by
 unfold chk at h;rw [hn] at h
 cases x with
 | row ys=>exact ⟨ys,rfl⟩
 | _=>cases h
theorem ja {t:T68} {i:Nat} {x:V68} (hn:ij t i=some .whole) (h:chk t i x.hd=true):∃ j,x = .num j:=by
 unfold chk at h;rw [hn] at h
 cases x with
 | num ys=>exact ⟨ys,rfl⟩
 | _=>cases h
theorem ka {t:T68} {i:Nat} {x:V68} (hn:ij t i=some .pair) (h:chk t i x.hd=true):∃ a b,x = .pair a b:=by
 unfold chk at h;rw [hn] at h
 cases x with
 | pair a b=>exact ⟨a,b,rfl⟩
 | _=>cases h
theorem xd {t:T68} {i:Nat} {x:V68} (hn:ij t i=some .to) (h:chk t i x.hd=true):∃ f ks vs,x = .fn f ks vs:=by
 unfold chk at h;rw [hn] at h
 cases x with
 | fn f ks vs=>exact ⟨f,ks,vs,rfl⟩
 | _=>cases h
theorem uG {α:Type} {xs:List α} (h:xs.length=1):∃ a,xs = [a]:=by
 match xs,h with
 | [a],_=>exact ⟨a,rfl⟩
theorem uH {α:Type} {xs:List α} (h:xs.length=2):∃ a b,xs = [a,b]:=by
 match xs,h with
 | [a,b],_=>exact ⟨a,b,rfl⟩
theorem VOk.int {i:Int} (h:VOk W (.num i)):i.natAbs<10 ^ 40:=by cases h;assumption
def gone:T68→Prop
 | .call _ _ _=>True
 | .bin _ _ _ _=>True
 | .as_ _ _ _=>True
 | .row _ _ _=>True
 | .pair _ _ _=>True
 | .att _ _ _=>True
 | .size _ _=>True
 | .one _ _=>True
 | .two _ _=>True
 | _=>False
theorem sX {t:T68} {xs:List V68} {c c':Nat} (hg:gone t) (h:qo W t 0 (ak t).length c (.ok xs c')):(∃ p a b,t = .call p a b∧∃ f ks vs u,xs = [.fn f ks vs,u])∨Shp t xs:=by
 obtain ⟨ha,hl,_,hk⟩:=h
 cases t with
 | call p a b=>
   obtain ⟨x,y,rfl⟩:=uH hl
   obtain ⟨f,ks,vs,rfl⟩:=xd rfl (hk 0 x rfl)
   exact .inl ⟨p,a,b,rfl,f,ks,vs,y,rfl⟩
 | bin p o a b=>
   obtain ⟨x,y,rfl⟩:=uH hl
   obtain ⟨i,rfl⟩:=ja rfl (hk 0 x rfl)
   obtain ⟨j,rfl⟩:=ja rfl (hk 1 y rfl)
   exact .inr ⟨i,j,(ha _ (by simp)).int,(ha (.num j) (by simp)).int,rfl⟩
 | as_ p k a=>obtain ⟨x,rfl⟩:=uG hl;exact .inr ⟨x,rfl⟩
 | row p k ts=>exact .inr trivial
 | pair p a b=>obtain ⟨x,y,rfl⟩:=uH hl;exact .inr ⟨x,y,rfl⟩
 | att p a b=>
   obtain ⟨x,y,rfl⟩:=uH hl
   obtain ⟨i,rfl⟩:=ng rfl (hk 0 x rfl)
   obtain ⟨j,rfl⟩:=ja rfl (hk 1 y rfl)
   exact .inr ⟨i,j,rfl⟩
 | size p a=>
   obtain ⟨x,rfl⟩:=uG hl
   obtain ⟨i,rfl⟩:=ng rfl (hk 0 x rfl)
   exact .inr ⟨i,rfl⟩
 | one p a=>
   obtain ⟨x,rfl⟩:=uG hl
   obtain ⟨i,j,rfl⟩:=ka rfl (hk 0 x rfl)
   exact .inr ⟨i,j,rfl⟩
 | two p a=>
   obtain ⟨x,rfl⟩:=uG hl
   obtain ⟨i,j,rfl⟩:=ka rfl (hk 0 x rfl)
   exact .inr ⟨i,j,rfl⟩
 | _=>exact hg.elim
theorem lX (x p:Int) (c:Nat):cR W c (ex (big x p) c):=by
 unfold big
 split
 ·exact ω c
 ·exact ⟨.num (by omega),ω c⟩
theorem xm {t:T68} {xs:List V68} {c:Nat} {ks:List ι} (hs:Shp t xs) (ho:own W ks t) (hl:xs.length=(ak t).length) (ha:∀ x∈xs,VOk W x):cR W c (ex (fin t xs) c):=by
 cases t with
 | row p k ts=>exact ⟨.row (by rw [hl];exact ho) ha,ω c⟩
 | pair p a b=>obtain ⟨u,v,rfl⟩:=hs;exact ⟨.pair (ha u (by simp)) (ha v (by simp)),ω c⟩
 | bin p o a b=>
   obtain ⟨i,j,_,_,rfl⟩:=hs
   cases o with
   | lt=>exact ⟨.tru,ω c⟩
   | eq=>exact ⟨.tru,ω c⟩
   | add=>exact lX _ _ _
   | sub=>exact lX _ _ _
   | mul=>exact lX _ _ _
 | as_ p k a=>obtain ⟨u,rfl⟩:=hs;exact ⟨ha u (by simp),ω c⟩
 | att p a b=>
   obtain ⟨ys,i,rfl⟩:=hs
   show cR W c (ex (nth ys i p) c)
   unfold nth
   split
   ·split
    ·rename_i x e
     have h:=ha (.row ys) (by simp)
     cases h with
     | row l h=>exact ⟨h x (Ε e),ω c⟩
    ·exact ω c
   ·exact ω c
 | size p a=>
   obtain ⟨ys,rfl⟩:=hs
   have h:=ha (.row ys) (by simp)
   cases h with
   | row l h=>
     refine ⟨.num ?_,ω c⟩
     rw [F9]
     exact Nat.lt_of_le_of_lt l (by decide +kernel)
 | one p a=>
   obtain ⟨u,v,rfl⟩:=hs
   have h:=ha (.pair u v) (by simp)
   cases h with
   | pair h1 h2=>exact ⟨h1,ω c⟩
 | two p a=>
   obtain ⟨u,v,rfl⟩:=hs
   have h:=ha (.pair u v) (by simp)
   cases h with
   | pair h1 h2=>exact ⟨h2,ω c⟩
 | _=>exact hs.elim
end
section
variable {ns:List Int} {W:List ι}
def j3 (W:List ι) (v:Vf):Prop:=∀ t ks vs c,Ok W 8 ks t→Nm W ks vs→cR W c (v t ks vs c)
theorem Ok.kid {n:Nat} {bs ks:List ι} {t k:T68} {i:Nat} (h:Ok W (n+1) bs t) (hk:(ak t)[i]? = some k) (hs:∀ x,x∈bs∨x∈bnd t i→x∈ks) {m:Nat} (hm:n≤m):Ok W m ks k:=
 (h.2.2.2 i k hk).mono (fun x hx=>hs x (Ϯ.mp hx)) hm
theorem qA {t:T68} (h:gone t) (i:Nat):bnd t i = []:=by cases t <;> first | exact h.elim | rfl
theorem Ok.part {n:Nat} {ks:List ι} {t k:T68} (h:Ok W (n+1) ks t) (hg:gone t) (hk:k∈ak t):Ok W n ks k:=by
 obtain ⟨i,hi⟩:=List.getElem?_of_mem hk
 exact h.kid hi (fun x hx=>by rw [qA hg] at hx;rcases hx with hx | hx;exact hx;cases hx) (ω _)
def inK (f:T68) (ks:List ι):List ι:=match f with
 | .fn _ x _ _=>ay ks x
 | .slf _ g x _ _ _=>ay (ay ks g) x
 | _=>ks
def inV (f:T68) (ks:List ι) (vs:List V68) (u:V68):List V68:=match f with
 | .fn _ x _ _=>aW ks vs x u
 | .slf _ g x _ _ _=>aW (ay ks g) (aW ks vs g (.fn f ks vs)) x u
 | _=>vs
theorem qw (v:Vf) (f:T68) (hf:isFn f) (b:T68) (hb:ak f = [b]) (ks:List ι) (vs:List V68) (u:V68) (c:Nat):app v f ks vs u (c+1)=v b (inK f ks) (inV f ks vs u) c:=by
 cases f with
 | fn p x k b'=>cases hb;rfl
 | slf p g x k k2 b'=>cases hb;rfl
 | _=>exact hf.elim
theorem j7 {n:Nat} {f b:T68} {ks:List ι} {vs:List V68} {u:V68} (hf:isFn f) (ho:Ok W (n+1) ks f) (he:Nm W ks vs) (h8:Ok W 8 ks f) (hu:VOk W u) (hb:ak f = [b]):Ok W n (inK f ks) b∧Nm W (inK f ks) (inV f ks vs u):=by
 cases f with
 | fn p x k b=>
   cases hb
   refine ⟨ho.kid (i:=0) rfl (fun y hy=>dX _ _ _ ?_) (ω _),he.put ho.1 hu⟩
   rcases hy with hy | hy
   ·exact .inl hy
   ·exact .inr (η.mp hy)
 | slf p g x k k2 b=>
   cases hb
   refine ⟨ho.kid (i:=0) rfl (fun y hy=>dX _ _ _ ?_) (ω _),(he.put ho.1.1 (.fn (t:=.slf p g x k k2 b) trivial h8 he.toEn he.al)).put ho.1.2 hu⟩
   rcases hy with hy | hy
   ·exact .inl (dX _ _ _ (.inl hy))
   ·rcases ξ.mp hy with e | hy
    ·exact .inl (dX _ _ _ (.inr e))
    ·exact .inr (η.mp hy)
 | _=>exact hf.elim
theorem oF {f:T68} (hf:isFn f):∃ b,ak f = [b]:=by cases f <;> first | exact hf.elim | exact ⟨_,rfl⟩
theorem wK {v:Vf} (hv:j3 W v) {f:T68} {ks:List ι} {vs:List V68} {u:V68} {c:Nat} (hf:VOk W (.fn f ks vs)) (hu:VOk W u):cR W c (app v f ks vs u c):=by
 cases hf with
 | fn hi ho he ha=>
   cases c with
   | zero=>exact ω 0
   | succ c=>
     obtain ⟨b,hk⟩:=oF hi
     obtain ⟨hb,hn⟩:=j7 (n:=7) (u:=u) hi ho ⟨he,ha⟩ ho hu hk
     rw [qw v f hi b hk]
     have:=hv b _ _ c (hb.mono (fun _ h=>h) (by omega)) hn
     revert this
     cases v b (inK f ks) (inV f ks vs u) c with
     | ok x c'=>exact fun h=>⟨h.1,ę h.2⟩
     | er x c'=>exact fun h=>ę h
theorem cR.le {c c':Nat} {r:Rs V68} (h:cR W c r) (l:c≤c'):cR W c' r:=by
 cases r with
 | ok x d=>exact ⟨h.1,ϖ h.2 l⟩
 | er e d=>exact ϖ h l
theorem dj (hns:∀ x∈ns,x.natAbs<10 ^ 40) {t:T68} {ks:List ι} {vs:List V68} {x:V68} (ho:Ok W 8 ks t) (he:Nm W ks vs) (h:flat ns ks vs t=some x):VOk W x:=by
 cases t with
 | whole p v=>cases h;exact .num ho.1
 | truth p v=>cases h;exact .tru
 | given p i=>
   cases h
   refine .num ?_
   cases q:ns[i]? with
   | none=>decide +kernel
   | some y=>exact hns y (Ε q)
 | name p y=>
   obtain ⟨v,hv,hk⟩:=mo (P:=VOk W) (x:=y) ho.1 he.ln he.al
   have h:some ((bO ks vs y).getD (.num 0))=some x:=h
   rw [hv] at h
   exact (ϡ h:v=x) ▸ hk
 | fn p y k b=>cases h;exact .fn trivial ho he.toEn he.al
 | slf p f y k g b=>cases h;exact .fn trivial ho he.toEn he.al
 | _=>cases h
theorem iS {v:Vf} {t:T68} (hg:gone t) {ks:List ι} {vs:List V68} {c:Nat}:qe ns v t ks vs c=(match cz (fun k c=>v k ks vs c) t 0 (ak t) c with
 | .er e c=>.er e c
 | .ok xs c=>gq v t xs c):=by
 cases t <;> first | exact hg.elim | rfl
theorem uw {v:Vf} (hv:j3 W v) {t:T68} {xs:List V68} {c c':Nat} {ks:List ι} (hg:gone t) (h:qo W t 0 (ak t).length c' (.ok xs c)) (ho:own W ks t):cR W c (gq v t xs c):=by
 rcases sX hg h with ⟨p,a,b,rfl,f,ks',vs',u,rfl⟩ | hs
 ·exact wK hv (h.1 _ (by simp)) (h.1 _ (by simp))
 ·have e:gq v t xs c=ex (fin t xs) c:=by
   cases t <;> first | exact hs.elim | rfl
  rw [e]
  exact xm hs ho h.2.1 h.1
theorem vz {v:Vf} (hns:∀ x∈ns,x.natAbs<10 ^ 40) (hv:j3 W v):j3 W (qe ns v):=by
 intro t ks vs c ho he
 have kid:∀ {i:Nat} {k:T68} {ks':List ι},(ak t)[i]? = some k→(∀ x,x∈ks∨x∈bnd t i→x∈ks')→Ok W 8 ks' k:=fun hk hs=>ho.kid hk hs (by omega)
 have gn:gone t→cR W c (qe ns v t ks vs c):=fun hg=>by
  rw [iS hg]
  have h:=jl (W:=W) (f:=fun k c=>v k ks vs c) (t:=t) (ak t) 0 c fun k hk c=>hv k ks vs c ((ho.part hg hk).mono (fun _ h=>h) (by omega)) he
  revert h
  cases cz (fun k c=>v k ks vs c) t 0 (ak t) c with
  | er e c'=>exact fun h=>h
  | ok xs c'=>exact fun h=>(uw hv hg h ho.1).le h.2.2.1
 cases t with
 | lt p x a b=>
   show cR W c (match v a ks vs c with | .er e c=>.er e c | .ok u c=>v b (ay ks x) (aW ks vs x u) c)
   have h1:=hv a ks vs c (kid (i:=0) rfl (fun x hx=>by rcases hx with hx | hx;exact hx;cases hx)) he
   revert h1
   cases v a ks vs c with
   | er e c'=>exact fun h=>h
   | ok u c'=>exact fun h=>(hv b _ _ c' (kid (i:=1) rfl (fun y hy=>dX _ _ _ (by rcases hy with hy | hy;exact .inl hy;exact .inr (η.mp hy)))) (he.put ho.1 h.1)).le h.2
 | iff p a b d=>
   show cR W c (match v a ks vs c with
    | .er e c=>.er e c
    | .ok u c=>(match u with
      | .tru true=>v b ks vs c
      | .tru false=>v d ks vs c
      | _=>.er (.wrong a.pl) c))
   have h1:=hv a ks vs c (kid (i:=0) rfl (fun x hx=>by rcases hx with hx | hx;exact hx;cases hx)) he
   have h2:∀ c',cR W c' (v b ks vs c'):=fun c'=>hv b ks vs c' (kid (i:=1) rfl (fun x hx=>by rcases hx with hx | hx;exact hx;cases hx)) he
   have h3:∀ c',cR W c' (v d ks vs c'):=fun c'=>hv d ks vs c' (kid (i:=2) rfl (fun x hx=>by rcases hx with hx | hx;exact hx;cases hx)) he
   revert h1
   cases v a ks vs c with
   | er e c'=>exact fun h=>h
   | ok u c'=>
     intro h
     cases u with
     | tru w=>
       cases w with
       | true=>exact (h2 c').le h.2
       | false=>exact (h3 c').le h.2
     | _=>exact h.2
 | whole p x=>exact ⟨dj hns ho he rfl,ω c⟩
 | truth p x=>exact ⟨dj hns ho he rfl,ω c⟩
 | given p x=>exact ⟨dj hns ho he rfl,ω c⟩
 | name p x=>exact ⟨dj hns ho he rfl,ω c⟩
 | fn p x k b=>exact ⟨dj hns ho he rfl,ω c⟩
 | slf p f x k g b=>exact ⟨dj hns ho he rfl,ω c⟩
 | _=>exact gn trivial
theorem mV (hns:∀ x∈ns,x.natAbs<10 ^ 40):∀ n,j3 W (val ns n)
 | 0=>fun _ _ _ c _ _=>ω c
 | n+1=>vz hns (mV hns n)
theorem kX (f:T68) (b:T68) (hb:ak f = [b]) (ks:List ι) (vs:List V68) (n:Nat) (S:List O):ae Γ (n+4) ie [(V68.fn f ks vs).toP] S = .ok b.toD S:=by
 have h:=eN f n S
 rw [hb] at h
 exact aa false [.r (.ok (.lst (toDs [b])) S)] (h<|>Z) (by kernel_rfl)
theorem sI (ks:List ι) (x:ι):(ay ks x).length≤ks.length+1:=by
 unfold ay;split
 ·omega
 ·simp
theorem ig (f:T68) (hf:isFn f) (ks:List ι) (vs:List V68) (u:V68) (hl:ks.length<10000) (n:Nat) (S:List O):ae Γ (n+2) fh [(V68.fn f ks vs).toP,u.toP] S = .ok (eP (inK f ks) (inV f ks vs u)) S:=by
 cases f with
 | fn p x k b=>exact aa false [.r (.ok (eP (ay ks x) (aW ks vs x u)) S)] (cN ks vs x u (by omega) n S<|>Z) (by kernel_rfl)
 | slf p g x k k2 b=>
   have l:=sI ks g
   exact aa false [.r (.ok (V68.fn (.slf p g x k k2 b) ks vs).toP S),.r (.ok (eP (ay ks g) (aW ks vs g (.fn (.slf p g x k k2 b) ks vs))) S),.r (.ok (eP (ay (ay ks g) x) (aW (ay ks g) (aW ks vs g (.fn (.slf p g x k k2 b) ks vs)) x u)) S)] (cS n S (.str "to") (.tup [(T68.slf p g x k k2 b).toD,eP ks vs])<|>cN ks vs g (.fn (.slf p g x k k2 b) ks vs) (by omega) n S<|>cN (ay ks g) (aW ks vs g (.fn (.slf p g x k k2 b) ks vs)) x u (by omega) n S<|>Z) (by kernel_rfl)
 | _=>exact hf.elim
theorem xb (v:Vf) (f:T68) (hf:isFn f) (ks:List ι) (vs:List V68) (u:V68) (hl:ks.length<10000) (c m:Nat)
 (hb:∀ c' b,c=c'+1→ak f = [b]→ae Γ (m+4) aA [.ref 0,b.toD,eP (inK f ks) (inV f ks vs u)] (ws tg ns c')=d8 tg ns (v b (inK f ks) (inV f ks vs u) c')) :
 ae Γ (m+5) fg [.ref 0,(V68.fn f ks vs).toP,u.toP] (ws tg ns c)=d8 tg ns (app v f ks vs u c):=by
 cases c with
 | zero=>exact aa false [.r (.exc 2 [eD .spent] (ws tg ns 0))] (Aq (tg:=tg) (ns:=ns) u.toP (V68.fn f ks vs).toP (m+2)<|>Z) (by kernel_rfl)
 | succ c=>
   obtain ⟨b,hk⟩:=oF hf
   have h:=hb c b rfl hk
   rw [qw v f hf b hk]
   have h1:=Ar (tg:=tg) (ns:=ns) u.toP .to (.tup [f.toD,eP ks vs]) c (m+2)
   have h2:=kX f b hk ks vs m (ws tg ns c)
   have h3:=ig f hf ks vs u hl (m+2) (ws tg ns c)
   revert h
   cases v b (inK f ks) (inV f ks vs u) c with
   | ok x c'=>exact fun h=>aa false [.r (.ok u.toP (ws tg ns c)),.r (.ok b.toD (ws tg ns c)),.r (.ok (eP (inK f ks) (inV f ks vs u)) (ws tg ns c)),.r (.ok x.toP (ws tg ns c')),.r (.ok (.lst []) (ws tg ns c')),.r (.ok x.toP (ws tg ns c'))] (h1<|>h2<|>h3<|>h<|>iZ .to (.tup [f.toD,eP ks vs]) 2 (m+3) (ws tg ns c')<|>dM (tg:=tg) x.toP (m+3) ns c'<|>Z) (by kernel_rfl)
   | er e c'=>exact fun h=>aa false [.r (.ok u.toP (ws tg ns c)),.r (.ok b.toD (ws tg ns c)),.r (.ok (eP (inK f ks) (inV f ks vs u)) (ws tg ns c)),.r (.exc 2 [eD e] (ws tg ns c'))] (h1<|>h2<|>h3<|>h<|>Z) (by kernel_rfl)
end
abbrev vB:S:=cY aK.body
section
variable {ns:List Int} {W:List ι}
abbrev gW (t:T68) (nm:D) (acc:List D) (e6 e7 e8:Option D):List (Option D):=[some (.ref 0),some t.toD,some nm,some (.str t.word),none,some (.lst acc),e6,e7,e8]
abbrev vF (m:Nat):D→Sta→av:=fun d s=>match aH [6,7] false d s.env with | some env=>exS Γ (ae Γ (m+4)) (aQ Γ (m+4)) vB ⟨env,s.ow.filter fun i=>!([6,7]:List Nat).contains i,s.st⟩ | none=>.bad
def vL (tg:Bool) (ns:List Int) (t:T68) (nm:D) (acc:List D) (o:av):Rs (List V68)→Prop
 | .ok xs c'=>∃ e6 e7 e8,o = .nx ⟨gW t nm (acc ++ bx xs) e6 e7 e8,[5],ws tg ns c'⟩
 | .er e c'=>∃ env ow,o = .exc 2 [eD e] ⟨env,ow,ws tg ns c'⟩
theorem nu (t:T68) (nm:D) (m:Nat) (f:T68→Nat→Rs V68) (c0:Nat) (hg:∀ k∈ak t,∀ c,cR W c (f k c)) (hf:∀ k∈ak t,∀ c,c≤c0→ae Γ (m+4) aA [.ref 0,k.toD,nm] (ws tg ns c)=d8 tg ns (f k c)) :
 ∀ (ts pre:List T68) (acc:List D) (e6 e7 e8:Option D) (c:Nat),pre ++ ts=ak t→acc.length+ts.length<1000→c≤c0 →
 vL tg ns t nm acc (aR (vF m) (bA (pre.length:Nat) (toDs ts)) ⟨gW t nm acc e6 e7 e8,[5],ws tg ns c⟩) (cz f t pre.length ts c)
 | [],pre,acc,e6,e7,e8,c,_,_,_=>⟨e6,e7,e8,by simp [bx,toDs,bA,aR]⟩
 | k :: r',pre,acc,e6,e7,e8,c,hp,hl,hc0=>by
   simp only [Κ] at hl
   have hk:(ak t)[pre.length]? = some k:=by rw [← hp,Ρ (ω _),ė];rfl
   have hm:k∈ak t:=Ε hk
   have hc:=hf k hm c hc0
   have g:=hg k hm c
   have len:decide (acc.length<100000)=true:=ZW (by omega)
   have pl:((pre ++ [k]).length:Nat)=pre.length+1:=by simp
   unfold cz
   revert hc g
   cases f k c with
   | er e c1=>
     intro hc g
     exact ⟨gW t nm acc (some (.int (pre.length:Nat))) (some k.toD) e8,[5],ki (kf false [.r (.exc 2 [eD e] (ws tg ns c1))] (hc<|>Z) (by kernel_rfl)) (fun s z=>by cases z)⟩
   | ok x c1=>
     intro hc g
     have hn:=nh t pre.length k hk x.hd x.held m (ws tg ns c1)
     rw [← tf] at hn
     unfold wq at hn
     dsimp only
     revert hn
     cases chk t pre.length x.hd with
     | false=>
       intro hn
       exact ⟨gW t nm acc (some (.int (pre.length:Nat))) (some k.toD) (some x.toP),[5],ki (kf false [.r (.ok x.toP (ws tg ns c1)),.r (.exc 2 [eD (.wrong k.pl)] (ws tg ns c1))] (hc<|>hn<|>Z) (by kernel_rfl)) (fun s z=>by cases z)⟩
     | true=>
       intro hn
       have hs:=kf (Γ:=Γ) (cal:=ae Γ (m+4)) (cal1:=aQ Γ (m+4)) (c:=vB) (s:=⟨[some (.ref 0),some t.toD,some nm,some (.str t.word),none,some (.lst acc),some (.int (pre.length:Nat)),some k.toD,e8],[5],ws tg ns c⟩) (o:=.nx ⟨gW t nm (acc ++ [x.toP]) (some (.int (pre.length:Nat))) (some k.toD) (some x.toP),[5],ws tg ns c1⟩) false [.r (.ok x.toP (ws tg ns c1)),.r (.ok .non (ws tg ns c1)),.t 0 true] (hc<|>hn<|>len<|>Z) (by kernel_rfl)
       have ih:=nu t nm m f c0 hg hf r' (pre ++ [k]) (acc ++ [x.toP]) (some (.int (pre.length:Nat))) (some k.toD) (some x.toP) c1 (by rw [← hp];simp) (by rw [φ,ϋ];omega) (ϖ g.2 hc0)
       rw [pl] at ih
       dsimp only
       revert ih
       cases cz f t (pre.length+1) r' c1 with
       | ok ys c2=>
         intro ih
         obtain ⟨a,b,c,h3⟩:=ih
         refine ⟨a,b,c,ao hs ?_⟩
         rw [Ç] at h3
         exact h3
       | er e2 c2=>
         intro ih
         obtain ⟨env,ow,h3⟩:=ih
         exact ⟨env,ow,ao hs h3⟩
theorem tZ (t:T68) (nm:D) (c:Nat) (v:Rs V68) (n:Nat) (h:ae Γ n bG [.ref 0,t.toD,nm] (ws tg ns c)=d8 tg ns v):ae Γ (n+1) aA [.ref 0,t.toD,nm] (ws tg ns c)=d8 tg ns v:=by
 cases v with
 | ok x c'=>exact aa false [.r (.ok x.toP (ws tg ns c')),.o 0 (.int t.pl)] (h<|>d9 t (ws tg ns c')<|>Z) (by kernel_rfl)
 | er e c'=>exact aa false [.r (.exc 2 [eD e] (ws tg ns c'))] (h<|>Z) (by kernel_rfl)
end
section
variable {ns:List Int} {W:List ι}
theorem Nm.few {ks:List ι} {vs:List V68} (h:Nm W ks vs) (hW:W.length≤1000):ks.length<10000:=by
 have:=jF ks W h.nd h.sb;omega
theorem xh (hW:W.length≤1000) (hns:∀ x∈ns,x.natAbs<10 ^ 40):∀ (n:Nat) (t:T68) (ks:List ι) (vs:List V68) (c q N:Nat),Ok W q ks t→q≤8→Nm W ks vs→q+8 * c≤n→2 * n+c+8≤N→ae Γ N aA [.ref 0,t.toD,eP ks vs] (ws tg ns c)=d8 tg ns (val ns n t ks vs c)
 | n,t,ks,vs,c,0,N,ho,_,_,_,_=>ho.elim
 | 0,t,ks,vs,c,q+1,N,ho,_,_,h,_=>by omega
 | n+1,t,ks,vs,c,q+1,N,ho,hq,he,h,hN=>by
   obtain ⟨m,rfl⟩:∃ m,N=m+7:=⟨N - 7,by omega⟩
   refine tZ t _ c _ (m+6) ?_
   have kid:∀ (k:T68) (ks':List ι) (vs':List V68) (c':Nat),Ok W q ks' k→Nm W ks' vs'→c'≤c→ae Γ (m+5) aA [.ref 0,k.toD,eP ks' vs'] (ws tg ns c')=d8 tg ns (val ns n k ks' vs' c'):=fun k ks' vs' c' a b d=>xh hW hns n k ks' vs' c' q (m+5) a (by omega) b (by omega) (by omega)
   have kidb:∀ (k:T68) (ks':List ι) (vs':List V68) (c':Nat),Ok W 7 ks' k→Nm W ks' vs'→c'+1≤c→ae Γ (m+4) aA [.ref 0,k.toD,eP ks' vs'] (ws tg ns c')=d8 tg ns (val ns n k ks' vs' c'):=fun k ks' vs' c' a b d=>xh hW hns n k ks' vs' c' 7 (m+4) a (by omega) b (by omega) (by omega)
   have same:∀ {i:Nat},bnd t i = []→∀ x,x∈ks∨x∈bnd t i→x∈ks:=fun hb x hx=>by rw [hb] at hx;rcases hx with hx | hx;exact hx;cases hx
   have gv:=mV (W:=W) hns n
   have o8:∀ {ks':List ι} {k:T68},Ok W q ks' k→Ok W 8 ks' k:=fun hk=>hk.mono (fun _ h=>h) (by omega)
   show _=d8 tg ns (qe ns (val ns n) t ks vs c)
   generalize val ns n=v at kid kidb gv
   have lf:∀ x,flat ns ks vs t=some x→ae Γ (m+6) bG [.ref 0,t.toD,eP ks vs] (ws tg ns c) = .ok x.toP (ws tg ns c):=fun x hx=>by
    have hl:=AN t ks vs x hx ho.1 he (m+3) (ws tg ns c)
    cases t with
    | whole p y=>exact aa false [.r (.ok x.toP (ws tg ns c))] (hl<|>Z) (by kernel_rfl)
    | truth p y=>exact aa false [.r (.ok x.toP (ws tg ns c))] (hl<|>Z) (by kernel_rfl)
    | given p y=>exact aa false [.r (.ok x.toP (ws tg ns c))] (hl<|>Z) (by kernel_rfl)
    | name p y=>exact aa false [.r (.ok x.toP (ws tg ns c))] (hl<|>Z) (by kernel_rfl)
    | fn p y k b=>exact aa false [.r (.ok x.toP (ws tg ns c))] (hl<|>Z) (by kernel_rfl)
    | slf p f y k g b=>exact aa false [.r (.ok x.toP (ws tg ns c))] (hl<|>Z) (by kernel_rfl)
    | _=>cases hx
   have gn:gone t→ae Γ (m+6) bG [.ref 0,t.toD,eP ks vs] (ws tg ns c)=d8 tg ns (qe ns v t ks vs c):=fun hg=>by
    rw [iS hg]
    have hkid:∀ k∈ak t,∀ c',c'≤c→ae Γ (m+5) aA [.ref 0,k.toD,eP ks vs] (ws tg ns c')=d8 tg ns (v k ks vs c'):=fun k hk c' hc=>kid k ks vs c' (ho.part hg hk) he hc
    have hgood:∀ k∈ak t,∀ c',cR W c' (v k ks vs c'):=fun k hk c'=>gv k ks vs c' (o8 (ho.part hg hk)) he
    have lp:=nu t (eP ks vs) (m+1) (fun k c=>v k ks vs c) c hgood hkid (ak t) [] [] none none none c rfl (by have:=gm ho.1;simp only [ϯ];omega) (ω c)
    have ga:=jl (W:=W) (f:=fun k c=>v k ks vs c) (t:=t) (ak t) 0 c hgood
    have hp:=eN t (m+2) (ws tg ns c)
    have lp:vL tg ns t (eP ks vs) [] (aR (vF (m+1)) (bA 0 (toDs (ak t))) ⟨gW t (eP ks vs) [] none none none,[5],ws tg ns c⟩) (cz (fun k c=>v k ks vs c) t 0 (ak t) c):=lp
    have hh:exS Γ (ae Γ (m+5)) (aQ Γ (m+5)) (hdS 4 aK.body) ⟨[some (.ref 0),some t.toD,some (eP ks vs),none,none,none,none,none,none],[],ws tg ns c⟩ = .nx ⟨gW t (eP ks vs) [] none none none,[5],ws tg ns c⟩:=by
     cases t <;> first | exact hg.elim | kernel_rfl
    revert ga lp
    cases cz (fun k c=>v k ks vs c) t 0 (ak t) c with
    | er e c'=>
      intro ga lp
      obtain ⟨env,ow,hf⟩:=lp
      exact b7 4 aK rfl rfl hh (jd true [.r (.ok (.lst (toDs (ak t))) (ws tg ns c)),.x (.exc 2 [eD e] ⟨env,ow,ws tg ns c'⟩)] (hp<|>hf<|>Z) (by kernel_rfl))
    | ok xs c'=>
      intro ga lp
      obtain ⟨a6,a7,a8,hf⟩:=lp
      rcases sX hg ga with ⟨p,a,b,rfl,f,ks',vs',u,rfl⟩ | hs
      ·have hv:VOk W (.fn f ks' vs'):=ga.1 _ (by simp)
       have hu:VOk W u:=ga.1 u (by simp)
       have hc':c'≤c:=ga.2.2.1
       cases hv with
       | fn hi hb8 hen hal=>
         have he':Nm W ks' vs':=⟨hen,hal⟩
         have hcl:=xb (tg:=tg) (ns:=ns) v f hi ks' vs' u (he'.few hW) c' m fun c2 b2 e2 hk2=>by
          obtain ⟨ob,nb⟩:=j7 (n:=7) (u:=u) hi hb8 he' hb8 hu hk2
          exact kidb b2 _ _ c2 ob nb (by omega)
         show _=d8 tg ns (app v f ks' vs' u c')
         revert hcl
         cases app v f ks' vs' u c' with
         | ok x c2=>exact fun hcl=>aa true [.r (.ok (.lst [a.toD,b.toD]) (ws tg ns c)),.x (.nx ⟨gW (.call p a b) (eP ks vs) ([] ++ bx [.fn f ks' vs',u]) a6 a7 a8,[5],ws tg ns c'⟩),.r (.ok x.toP (ws tg ns c2))] (hp<|>hf<|>hcl<|>Z) (by kernel_rfl)
         | er e c2=>exact fun hcl=>aa true [.r (.ok (.lst [a.toD,b.toD]) (ws tg ns c)),.x (.nx ⟨gW (.call p a b) (eP ks vs) ([] ++ bx [.fn f ks' vs',u]) a6 a7 a8,[5],ws tg ns c'⟩),.r (.exc 2 [eD e] (ws tg ns c2))] (hp<|>hf<|>hcl<|>Z) (by kernel_rfl)
      ·have hd:=B7 (tg:=tg) (ns:=ns) (c:=c') t xs hs (m+1)
       have wc:(t.word == ("call":ι))=false:=by
        cases t <;> first | exact hs.elim | rfl
       have e0:gq v t xs c'=ex (fin t xs) c':=by
        cases t <;> first | exact hs.elim | rfl
       dsimp only
       rw [e0]
       revert hd
       cases fin t xs with
       | ok x=>
         intro hd
         exact b7 4 aK rfl rfl hh (jd true [.r (.ok (.lst (toDs (ak t))) (ws tg ns c)),.x (.nx ⟨gW t (eP ks vs) ([] ++ bx xs) a6 a7 a8,[5],ws tg ns c'⟩),.t 1 false,.r (.ok x.toP (ws tg ns c'))] (hp<|>hf<|>wc<|>hd<|>Z) (by kernel_rfl))
       | error e=>
         intro hd
         exact b7 4 aK rfl rfl hh (jd true [.r (.ok (.lst (toDs (ak t))) (ws tg ns c)),.x (.nx ⟨gW t (eP ks vs) ([] ++ bx xs) a6 a7 a8,[5],ws tg ns c'⟩),.t 1 false,.r (.exc 2 [eD e] (ws tg ns c'))] (hp<|>hf<|>wc<|>hd<|>Z) (by kernel_rfl))
   cases t with
   | lt p x a b=>
     have oa:Ok W q ks a:=ho.kid (i:=0) rfl (same rfl) (ω q)
     have h1:=kid a ks vs c oa he (ω c)
     have g1:=gv a ks vs c (o8 oa) he
     show _=d8 tg ns (match v a ks vs c with | .er e c=>.er e c | .ok u c=>v b (ay ks x) (aW ks vs x u) c)
     revert h1 g1
     cases v a ks vs c with
     | er e c'=>exact fun h1 g1=>aa false [.r (.exc 2 [eD e] (ws tg ns c'))] (h1<|>Z) (by kernel_rfl)
     | ok u c'=>
       intro h1 g1
       have hx:x∈W:=ho.1
       have hw:=cN ks vs x u (he.lt hW) (m+4) (ws tg ns c')
       have h2:=kid b (ay ks x) (aW ks vs x u) c' (ho.kid (i:=1) rfl (fun y hy=>dX _ _ _ (by rcases hy with hy | hy;exact .inl hy;exact .inr (η.mp hy))) (ω q)) (he.put hx g1.1) g1.2
       dsimp only
       revert h2
       cases v b (ay ks x) (aW ks vs x u) c' with
       | ok y c2=>exact fun h2=>aa false [.r (.ok u.toP (ws tg ns c')),.r (.ok (eP (ay ks x) (aW ks vs x u)) (ws tg ns c')),.r (.ok y.toP (ws tg ns c2))] (h1<|>hw<|>h2<|>Z) (by kernel_rfl)
       | er y c2=>exact fun h2=>aa false [.r (.ok u.toP (ws tg ns c')),.r (.ok (eP (ay ks x) (aW ks vs x u)) (ws tg ns c')),.r (.exc 2 [eD y] (ws tg ns c2))] (h1<|>hw<|>h2<|>Z) (by kernel_rfl)
   | iff p a b d=>
     have oa:Ok W q ks a:=ho.kid (i:=0) rfl (same rfl) (ω q)
     have h1:=kid a ks vs c oa he (ω c)
     have g1:=gv a ks vs c (o8 oa) he
     have hb:∀ c',c'≤c→_:=fun c' hc=>kid b ks vs c' (ho.kid (i:=1) rfl (same rfl) (ω q)) he hc
     have hd:∀ c',c'≤c→_:=fun c' hc=>kid d ks vs c' (ho.kid (i:=2) rfl (same rfl) (ω q)) he hc
     show _=d8 tg ns (match v a ks vs c with
      | .er e c=>.er e c
      | .ok u c=>(match u with
        | .tru true=>v b ks vs c
        | .tru false=>v d ks vs c
        | _=>.er (.wrong a.pl) c))
     revert h1 g1
     cases v a ks vs c with
     | er e c'=>exact fun h1 g1=>aa false [.r (.exc 2 [eD e] (ws tg ns c'))] (h1<|>Z) (by kernel_rfl)
     | ok u c'=>
       intro h1 g1
       have hn:=nh (.iff p a b d) 0 a rfl u.hd u.held (m+1) (ws tg ns c')
       rw [← tf] at hn
       have hb:=hb c' g1.2
       have hd:=hd c' g1.2
       cases u with
       | tru w=>
         cases w with
         | true=>
           dsimp only
           revert hb
           cases v b ks vs c' with
           | ok y c2=>exact fun hb=>aa false [.r (.ok (V68.tru true).toP (ws tg ns c')),.r (.ok .non (ws tg ns c')),.r (.ok y.toP (ws tg ns c2))] (h1<|>hn<|>hb<|>Z) (by kernel_rfl)
           | er y c2=>exact fun hb=>aa false [.r (.ok (V68.tru true).toP (ws tg ns c')),.r (.ok .non (ws tg ns c')),.r (.exc 2 [eD y] (ws tg ns c2))] (h1<|>hn<|>hb<|>Z) (by kernel_rfl)
         | false=>
           dsimp only
           revert hd
           cases v d ks vs c' with
           | ok y c2=>exact fun hd=>aa false [.r (.ok (V68.tru false).toP (ws tg ns c')),.r (.ok .non (ws tg ns c')),.r (.ok y.toP (ws tg ns c2))] (h1<|>hn<|>hd<|>Z) (by kernel_rfl)
           | er y c2=>exact fun hd=>aa false [.r (.ok (V68.tru false).toP (ws tg ns c')),.r (.ok .non (ws tg ns c')),.r (.exc 2 [eD y] (ws tg ns c2))] (h1<|>hn<|>hd<|>Z) (by kernel_rfl)
       | num i=>exact aa false [.r (.ok (V68.num i).toP (ws tg ns c')),.r (.exc 2 [eD (.wrong a.pl)] (ws tg ns c'))] (h1<|>hn<|>Z) (by kernel_rfl)
       | row i=>exact aa false [.r (.ok (V68.row i).toP (ws tg ns c')),.r (.exc 2 [eD (.wrong a.pl)] (ws tg ns c'))] (h1<|>hn<|>Z) (by kernel_rfl)
       | pair i j=>exact aa false [.r (.ok (V68.pair i j).toP (ws tg ns c')),.r (.exc 2 [eD (.wrong a.pl)] (ws tg ns c'))] (h1<|>hn<|>Z) (by kernel_rfl)
       | fn i j k=>exact aa false [.r (.ok (V68.fn i j k).toP (ws tg ns c')),.r (.exc 2 [eD (.wrong a.pl)] (ws tg ns c'))] (h1<|>hn<|>Z) (by kernel_rfl)
   | whole p y=>exact lf _ rfl
   | truth p y=>exact lf _ rfl
   | given p y=>exact lf _ rfl
   | name p y=>exact lf _ rfl
   | fn p y k b=>exact lf _ rfl
   | slf p f y k g b=>exact lf _ rfl
   | _=>exact gn trivial
end
variable {W:List ι}
def lG (row:Bool) (z:ι):ι:=if row then ("[" ++ z) ++ "]" else ("<" ++ z) ++ ">"
def txt:Nat→V68→ι
 | 0,_=>".."
 | _+1,.num i=>Ϝ (toString i)
 | _+1,.tru true=>"yes"
 | _+1,.tru false=>"no"
 | k+1,.row xs=>lG true (ĕ " " (xs.map (txt k)))
 | k+1,.pair a b=>lG false (ĕ " " [txt k a,txt k b])
 | _+1,.fn _ _ _=>"fn"
theorem VOk.rowI {xs:List V68} (h:VOk W (.row xs)):xs.length≤4∧∀ x∈xs,VOk W x:=by cases h;exact ⟨by assumption,by assumption⟩
theorem VOk.pairI {a b:V68} (h:VOk W (.pair a b)):VOk W a∧VOk W b:=by cases h;exact ⟨by assumption,by assumption⟩
theorem AU {a b:V68} (ha:VOk W a) (hb:VOk W b) {x:V68} (h:x∈[a,b]):VOk W x:=by
 rcases ξ.mp h with rfl | h
 ·exact ha
 ·rw [η.mp h];exact hb
theorem Bo {i:Int} (h:i.natAbs<10 ^ 40):i.natAbs<10 ^ 81:=CQ h (by decide +kernel)
theorem gj (sep:ι):∀ ts:List ι,(ĕ sep ts).length≤(ts.map (·.length)).sum+ts.length * sep.length
 | []=>Â _
 | a :: r=>by
   show (Builtin.Str.glued sep (a :: r)).length≤_
   rw [StrLaws.glued_eq_join,len_join_cons]
   simp only [Ϲ,DR,Κ,De,EE]
   omega
theorem vk {i:Int} (h:i.natAbs<10 ^ 40):(Ϝ (toString i)).length≤100:=by
 rw [ş]
 cases i with
 | ofNat n=>
   have e:toString (Int.ofNat n)=ED n:=rfl
   rw [e]
   exact ϖ ((Ę (n:=n) (k:=40) (by decide)).mpr h) (by decide)
 | negSucc n=>
   have e:toString (ņ n) = "-" ++ ED (n+1):=rfl
   rw [e,String.length_append]
   have:=(Ę (n:=n+1) (k:=40) (by decide)).mpr h
   have e2:"-".length=1:=rfl
   omega
def tb:Nat→Nat
 | 0=>100
 | k+1=>4 * tb k+100
theorem jW {B:Nat}:∀ {l:List ι},(∀ x∈l,x.length≤B)→(l.map (·.length)).sum≤l.length * B
 | [],_=>by simp
 | a :: r,h=>by
   have h1:=h a (ν ..)
   have h2:=jW (l:=r) fun x m=>h x (μ _ m)
   simp only [Ϲ,DR,Κ,De,EE]
   omega
theorem lH (b:Bool) (z:ι):(lG b z).length=z.length+2:=by
 have e1:("[":ι).length=1:=by decide +kernel
 have e2:("]":ι).length=1:=by decide +kernel
 have e3:("<":ι).length=1:=by decide +kernel
 have e4:(">":ι).length=1:=by decide +kernel
 unfold lG
 cases b <;> simp only [if_true,if_false,Ï] <;> rw [ϲ,ϲ] <;> omega
theorem sp1:(" ":ι).length=1:=by decide +kernel
theorem ey:∀ (k:Nat) (v:V68),VOk W v→(txt k v).length≤tb k
 | 0,v,h=>by
   have e:("..":ι).length=2:=by decide +kernel
   show ("..":ι).length≤100
   omega
 | k+1,.num i,h=>by
   have:=vk (i:=i) h.int
   show (Ϝ (toString i)).length≤4 * tb k+100
   omega
 | k+1,.tru true,h=>by
   have e:("yes":ι).length=3:=by decide +kernel
   show ("yes":ι).length≤4 * tb k+100
   omega
 | k+1,.tru false,h=>by
   have e:("no":ι).length=2:=by decide +kernel
   show ("no":ι).length≤4 * tb k+100
   omega
 | k+1,.row xs,h=>by
   have h:=h.rowI
   show (lG true _).length≤4 * tb k+100
   rw [lH]
   have j:=gj " " (xs.map (txt k))
   have s:=jW (B:=tb k) (l:=xs.map (txt k)) fun y m=>by
    obtain ⟨x,hx,rfl⟩:=Ϩ.mp m
    exact ey k x (h.2 x hx)
   rw [Ι] at j s
   rw [sp1] at j
   have l4:xs.length≤4:=h.1
   have:=Ű (tb k) l4
   omega
 | k+1,.fn _ _ _,h=>by
   have e:("fn":ι).length=2:=by decide +kernel
   show ("fn":ι).length≤4 * tb k+100
   omega
 | k+1,.pair a b,h=>by
   have h:=h.pairI
   show (lG false _).length≤4 * tb k+100
   rw [lH]
   have j:=gj " " [txt k a,txt k b]
   have h1:=ey k a h.1
   have h2:=ey k b h.2
   rw [sp1] at j
   simp only [Ϲ,E2,DR,List.sum_nil,Κ,ϯ] at j
   omega
theorem wC {k:Nat} (h:k≤3):tb k≤8500:=by
 match k,h with
 | 0,_=>decide
 | 1,_=>decide
 | 2,_=>decide
 | 3,_=>decide
theorem lx:∀ ss:List ι,cE (ss.map D.str)=some ss
 | []=>rfl
 | s :: r=>by show (cE (r.map D.str)).map (s :: ·)=_;rw [lx r];rfl
theorem dU {k:Nat} (hk:k≤3) {xs:List V68} (hl:xs.length≤4) (ho:∀ x∈xs,VOk W x):rx " " (.lst (xs.map fun x=>D.str (txt k x)))=some (.str (ĕ " " (xs.map (txt k)))):=by
 have e:(xs.map fun x=>D.str (txt k x))=(xs.map (txt k)).map D.str:=by rw [Gp];rfl
 rw [e]
 show ((cE _).bind _)=_
 rw [lx]
 have s:=jW (B:=tb k) (l:=xs.map (txt k)) fun y m=>by
  obtain ⟨x,hx,rfl⟩:=Ϩ.mp m
  exact ey k x (ho x hx)
 rw [Ι] at s
 have t:=wC hk
 have:=DJ hl t
 exact ZZ ⟨by rw [sp1];decide,by omega,by rw [Ι];omega⟩
theorem cL {k:Nat} (hk:k≤3) {xs:List V68} (hl:xs.length≤4) (ho:∀ x∈xs,VOk W x):(ĕ " " (xs.map (txt k))).length≤50000:=by
 have j:=gj " " (xs.map (txt k))
 have s:=jW (B:=tb k) (l:=xs.map (txt k)) fun y m=>by
  obtain ⟨x,hx,rfl⟩:=Ϩ.mp m
  exact ey k x (ho x hx)
 rw [Ι] at s j
 rw [sp1] at j
 have t:=wC hk
 have:=DJ hl t
 omega
theorem nz {z:ι} (h:z.length≤50000):qU "[" (.str z) "]" = some (.str (lG true z)):=by
 have e1:("[":ι).length≤1000:=by decide +kernel
 have e2:("]":ι).length≤1000:=by decide +kernel
 show (if _ then _ else _)=_
 rw [ZZ ⟨e1,by omega,e2⟩]
 rfl
theorem kh {z:ι} (h:z.length≤50000):qU "<" (.str z) ">" = some (.str (lG false z)):=by
 have e1:("<":ι).length≤1000:=by decide +kernel
 have e2:(">":ι).length≤1000:=by decide +kernel
 show (if _ then _ else _)=_
 rw [ZZ ⟨e1,by omega,e2⟩]
 rfl
def lcF (cal cal1:Nat→List D→List O→Res) (elt:E):D→Sta→Out (Option D):=fun d s'=>(match aH [0] true d s'.env with
 | some env=>(noX (ev Γ cal cal1 true (.c (.bl true)) ⟨env,[],s'.st⟩)).bind fun b s2=>(match b with
   | .bl true=>(noX (ev Γ cal cal1 false elt s2)).bind fun e s3=>.ok (some e) ⟨s3.env,[],s3.st⟩
   | .bl false=>.ok none ⟨s2.env,[],s2.st⟩
   | _=>.bad)
 | none=>.bad)
theorem rE {cal cal1:Nat→List D→List O→Res} {elt:E} {d e:D} {env env2:List (Option D)} {ow ow2:List Nat} {st st2:List O} (h:ev Γ cal cal1 false elt ⟨env.set 0 (some d),[],st⟩ = .ok e ⟨env2,ow2,st2⟩):lcF cal cal1 elt d ⟨env,ow,st⟩ = .ok (some e) ⟨env2,[],st2⟩:=by
 show (noX (ev Γ cal cal1 false elt ⟨env.set 0 (some d),[],st⟩)).bind _=_
 rw [h];rfl
section
variable {ns:List Int} {c:Nat}
theorem sS:∀ n:Nat,n≤4→(itD .range1 [.int (n:Nat)]).map D.lst=some (.lst ((õ 0 n).map fun (i:Nat)=>D.int i))
 | 0,_=>by kernel_rfl
 | 1,_=>by kernel_rfl
 | 2,_=>by kernel_rfl
 | 3,_=>by kernel_rfl
 | 4,_=>by kernel_rfl
 | n+5,h=>by omega
abbrev Bh:E:=.call 29 (.cons (.v 1) (.cons (.v 0) (.cons (.op .add (.v 2) (.c (.int 1))) (.cons (.v 3) .nil))))
theorem jU (k m:Nat) (L:Int) (xs:List V68) (ht:∀ (j:Nat) (y:V68),xs[j]? = some y→ae Γ m bf [(V68.row xs).toP,.int j,.int (L+1),.ref 1] (ws tg ns c) = .ok (.str (txt k y)) (ws tg ns c)) :
 ∀ (ys pre:List V68) (acc:List D) (e:Option D),pre ++ ys=xs→acc.length+ys.length<1000→∃ e',bt (lcF (ae Γ m) (aQ Γ m) Bh) ((õ pre.length ys.length).map fun (i:Nat)=>D.int i) acc ⟨[e,some (V68.row xs).toP,some (.int L),some (.ref 1),none,none],[],(ws tg ns c)⟩ = .ok (.lst (acc ++ ys.map fun x=>D.str (txt k x))) ⟨[e',some (V68.row xs).toP,some (.int L),some (.ref 1),none,none],[],(ws tg ns c)⟩
 | [],pre,acc,e,_,_=>⟨e,by simp [bt]⟩
 | y :: r,pre,acc,e,hp,hl=>by
   simp only [Κ] at hl
   have hk:xs[pre.length]? = some y:=by rw [← hp,Ρ (ω _),ė];rfl
   have hs:=wb (Γ:=Γ) (cal:=ae Γ m) (cal1:=aQ Γ m) (br:=false) (e:=Bh) (s:=⟨[some (.int (pre.length:Nat)),some (V68.row xs).toP,some (.int L),some (.ref 1),none,none],[],(ws tg ns c)⟩) (o:=.ok (.str (txt k y)) ⟨[some (.int (pre.length:Nat)),some (V68.row xs).toP,some (.int L),some (.ref 1),none,none],[],(ws tg ns c)⟩) false [.r (.ok (.str (txt k y)) (ws tg ns c))] (ht pre.length y hk<|>Z) (by kernel_rfl)
   obtain ⟨e',h⟩:=jU k m L xs ht r (pre ++ [y]) (acc ++ [.str (txt k y)]) (some (.int (pre.length:Nat))) (by rw [← hp];simp) (by rw [φ,ϋ];omega)
   refine ⟨e',?_⟩
   rw [Κ,Fk,Ϲ]
   refine fA (rE hs) (by omega) ?_
   rw [φ,ϋ] at h
   rw [h,Ç]
   rfl
theorem sW:∀ (k:Nat),k≤2→∀ (v:V68),VOk W v→∀ (L:Int),L=3 - k→∀ n,2 * k+4≤n→ae Γ n nQ [v.toP,.int L,.ref 1] (ws tg ns c) = .ok (.str (txt (k+1) v)) (ws tg ns c):=by
 intro k
 induction k with
 | zero=>
   intro _ v ok L hL n hn
   obtain ⟨m,rfl⟩:∃ m,n=m+4:=⟨n - 4,by omega⟩
   have e3:decide ((3:Int)<L+1)=true:=ZW (by omega)
   cases v with
   | num i=>exact aa false [.o 4 (.str (Ϝ (toString i)))] (mR (Bo ok.int)<|>Z) (by kernel_rfl)
   | tru b=>cases b <;> kernel_rfl
   | row xs=>
     have ok:=ok.rowI
     have ht:∀ (j:Nat) (y:V68),xs[j]? = some y→ae Γ (m+3) bf [(V68.row xs).toP,.int j,.int (L+1),.ref 1] (ws tg ns c) = .ok (.str (txt 0 y)) (ws tg ns c):=fun j y q=>aa false [.t 1 true] (e3<|>Z) (by kernel_rfl)
     obtain ⟨e',hlp⟩:=jU 0 (m+3) L xs ht xs [] [] none rfl (by have:=ok.1;simp only [ϯ];omega)
     have hr:(itD .range1 [.int ((bx xs).length:Nat)]).map D.lst=some (.lst ((õ 0 xs.length).map fun (i:Nat)=>D.int i)):=by
      rw [c8];exact sS _ ok.1
     exact aa true [.o 11 (.lst ((õ 0 xs.length).map fun (i:Nat)=>D.int i)),.e (.lst ([] ++ xs.map fun x=>D.str (txt 0 x))) ⟨[e',some (V68.row xs).toP,some (.int L),some (.ref 1),none,none],[],(ws tg ns c)⟩,.o 0 (.str (ĕ " " (xs.map (txt 0)))),.o 3 (.str (txt 1 (.row xs)))]
      (hr<|>hlp<|>(dU (k:=0) (xs:=xs) (by omega) ok.1 ok.2)<|>(nz (cL (k:=0) (by omega) ok.1 ok.2))<|>Z) (by kernel_rfl)
   | fn t ks vs=>kernel_rfl
   | pair a b=>
     have ok:=ok.pairI
     have o2:∀ x∈[a,b],VOk W x:=fun x hx=>AU ok.1 ok.2 hx
     have ht:∀ (j:Int),ae Γ (m+3) bf [(V68.pair a b).toP,.int j,.int (L+1),.ref 1] (ws tg ns c) = .ok (.str "..") (ws tg ns c):=fun j=>aa false [.t 1 true] (e3<|>Z) (by kernel_rfl)
     exact aa false [.r (.ok (.str (txt 0 a)) (ws tg ns c)),.r (.ok (.str (txt 0 b)) (ws tg ns c)),.o 1 (.str (ĕ " " [txt 0 a,txt 0 b])),.o 3 (.str (txt 1 (.pair a b)))]
      (ht 0<|>ht 1<|>(dU (k:=0) (xs:=[a,b]) (by omega) (by simp) o2)<|>(kh (cL (k:=0) (xs:=[a,b]) (by omega) (by simp) o2))<|>Z) (by kernel_rfl)
 | succ k ih=>
   intro hk v ok L hL n hn
   obtain ⟨m,rfl⟩:∃ m,n=m+4:=⟨n - 4,by omega⟩
   have e3:decide ((3:Int)<L+1)=false:=ZV (by omega)
   have sub:∀ y:V68,VOk W y→ae Γ (m+2) nQ [y.toP,.int (L+1),.ref 1] (ws tg ns c) = .ok (.str (txt (k+1) y)) (ws tg ns c):=fun y hy=>ih (by omega) y hy (L+1) (by omega) (m+2) (by omega)
   cases v with
   | num i=>exact aa false [.o 4 (.str (Ϝ (toString i)))] (mR (Bo ok.int)<|>Z) (by kernel_rfl)
   | tru b=>cases b <;> kernel_rfl
   | row xs=>
     have ok:=ok.rowI
     have ht:∀ (j:Nat) (y:V68),xs[j]? = some y→ae Γ (m+3) bf [(V68.row xs).toP,.int j,.int (L+1),.ref 1] (ws tg ns c) = .ok (.str (txt (k+1) y)) (ws tg ns c):=fun j y q=>
      aa false [.t 1 false,.r (.ok y.toP (ws tg ns c)),.r (.ok (.str (txt (k+1) y)) (ws tg ns c))] (e3<|>(lB (tg:=tg) (ns:=ns) (c:=c) .row (.inl rfl) (bx xs) j y.toP (by rw [jZ,q];rfl) m)<|>(sub y (ok.2 y (Ε q)))<|>Z) (by kernel_rfl)
     obtain ⟨e',hlp⟩:=jU (k+1) (m+3) L xs ht xs [] [] none rfl (by have:=ok.1;simp only [ϯ];omega)
     have hr:(itD .range1 [.int ((bx xs).length:Nat)]).map D.lst=some (.lst ((õ 0 xs.length).map fun (i:Nat)=>D.int i)):=by
      rw [c8];exact sS _ ok.1
     exact aa true [.o 11 (.lst ((õ 0 xs.length).map fun (i:Nat)=>D.int i)),.e (.lst ([] ++ xs.map fun x=>D.str (txt (k+1) x))) ⟨[e',some (V68.row xs).toP,some (.int L),some (.ref 1),none,none],[],(ws tg ns c)⟩,.o 0 (.str (ĕ " " (xs.map (txt (k+1))))),.o 3 (.str (txt (k+2) (.row xs)))]
      (hr<|>hlp<|>(dU (k:=k+1) (xs:=xs) (by omega) ok.1 ok.2)<|>(nz (cL (k:=k+1) (by omega) ok.1 ok.2))<|>Z) (by kernel_rfl)
   | fn t ks vs=>kernel_rfl
   | pair a b=>
     have ok:=ok.pairI
     have o2:∀ x∈[a,b],VOk W x:=fun x hx=>AU ok.1 ok.2 hx
     have ht:∀ (j:Nat) (y:V68),[a,b][j]? = some y→ae Γ (m+3) bf [(V68.pair a b).toP,.int j,.int (L+1),.ref 1] (ws tg ns c) = .ok (.str (txt (k+1) y)) (ws tg ns c):=fun j y q=>
      aa false [.t 1 false,.r (.ok y.toP (ws tg ns c)),.r (.ok (.str (txt (k+1) y)) (ws tg ns c))] (e3<|>(lB (tg:=tg) (ns:=ns) (c:=c) .pair (.inr rfl) [a.toP,b.toP] j y.toP (by have:=jZ (xs:=[a,b]) (i:=j);rw [q] at this;exact this) m)<|>(sub y (o2 y (Ε q)))<|>Z) (by kernel_rfl)
     exact aa false [.r (.ok (.str (txt (k+1) a)) (ws tg ns c)),.r (.ok (.str (txt (k+1) b)) (ws tg ns c)),.o 1 (.str (ĕ " " [txt (k+1) a,txt (k+1) b])),.o 3 (.str (txt (k+2) (.pair a b)))]
      (ht 0 a rfl<|>ht 1 b rfl<|>(dU (k:=k+1) (xs:=[a,b]) (by omega) (by simp) o2)<|>(kh (cL (k:=k+1) (xs:=[a,b]) (by omega) (by simp) o2))<|>Z) (by kernel_rfl)
theorem vE (v:V68) (ok:VOk W v) (n:Nat) (h:9≤n):ae Γ n pL [v.toP,.ref 1] (ws tg ns c) = .ok (.str (txt 3 v)) (ws tg ns c):=by
 obtain ⟨m,rfl⟩:∃ m,n=m+1:=⟨n - 1,by omega⟩
 exact aa false [.r (.ok (.str (txt 3 v)) (ws tg ns c))] (sW (tg:=tg) (ns:=ns) (c:=c) 2 (by omega) v ok 1 (by decide) m (by omega)<|>Z) (by kernel_rfl)
end
section
variable {ns:List Int} {W:List ι}
def l5:Rs V68→D
 | .ok x _=>.tup [.str "done",.str (txt 3 x)]
 | .er e _=>eD e
def cnt:Rs V68→Nat
 | .ok _ c=>c
 | .er _ c=>c
theorem lD (c n:Nat):ae Γ (n+3) cv [.ref 0,.dic [] [],.lst (ns.map .int),.int c,.bl tg] [.ins 5 []] = .ok .non (ws tg ns c):=by kernel_rfl
theorem sq:Nm W [] []:=⟨⟨DA,fun x h=>(nomatch h),rfl⟩,fun x h=>(nomatch h)⟩
theorem mW (hW:W.length≤1000) (hns:∀ x∈ns,x.natAbs<10 ^ 40) (t:T68) (ho:Ok W 8 [] t) (c N:Nat) (hN:17 * c+40≤N):ae Γ N rr [t.toD,.dic [] [],.lst (ns.map .int),.int c,.bl tg] [] = .ok (l5 (val ns (8+8 * c) t [] [] c)) (ws tg ns (cnt (val ns (8+8 * c) t [] [] c))):=by
 obtain ⟨m,rfl⟩:∃ m,N=m+5:=⟨N - 5,by omega⟩
 have hc:=xh (tg:=tg) hW hns (8+8 * c) t [] [] c 8 (m+4) ho (ω 8) sq (ω _) (by omega)
 have hg:=mV (W:=W) hns (8+8 * c) t [] [] c ho sq
 have hi:aQ Γ (m+4) cv [.ref 0,.dic [] [],.lst (ns.map .int),.int c,.bl tg] [.ins 5 []] = .ok .non (ws tg ns c):=lD c m
 revert hc hg
 cases val ns (8+8 * c) t [] [] c with
 | ok x c'=>exact fun hc hg=>aa false [.r (.ok .non (ws tg ns c)),.r (.ok x.toP (ws tg ns c')),.r (.ok (.str (txt 3 x)) (ws tg ns c'))] (hi<|>hc<|>vE (tg:=tg) (ns:=ns) (c:=c') x hg.1 (m+4) (by omega)<|>Z) (by kernel_rfl)
 | er e c'=>exact fun hc hg=>aa false [.r (.ok .non (ws tg ns c)),.r (.exc 2 [eD e] (ws tg ns c'))] (hi<|>hc<|>Z) (by kernel_rfl)
theorem plain (hW:W.length≤1000) (hns:∀ x∈ns,x.natAbs<10 ^ 40) (t:T68) (ho:Ok W 8 [] t) (c N:Nat) (hN:17 * c+41≤N):ae Γ N uq [t.toD,.lst (ns.map .int),.int c] [] = .ok (l5 (val ns (8+8 * c) t [] [] c)) (ws false ns (cnt (val ns (8+8 * c) t [] [] c))):=by
 obtain ⟨m,rfl⟩:∃ m,N=m+1:=⟨N - 1,by omega⟩
 have h1:=gE t ho m (by omega) []
 have h2:=mW (tg:=false) hW hns t ho c m (by omega)
 generalize val ns (8+8 * c) t [] [] c=r at h2 ⊢
 exact aa false [.r (.ok .non []),.r (.ok (l5 r) (ws false ns (cnt r)))] (h1<|>h2<|>Z) (by kernel_rfl)
end
end L2.K63
end
section
namespace L2.K63
open L2.Bk L2.Ev
theorem dE {i j:Int} (h:-(2 ^ 64)<j∧j<2 ^ 64):opD .mul (.int i) (.int j)=some (.int (i * j)):=by
 show (if _ then _ else _)=_
 rw [ZZ (.inl (.inr h))]
theorem bJ {a b:Int} (h:a=b):(a == b)=true:=by rw [h];exact ZT b
theorem am {a b:Int} (h:a≠b):(a == b)=false:=by simpa using h
theorem AW (c:Int):c % 2=0∨c % 2=1:=by omega
theorem Cn (c:Int):c % 3=0∨c % 3=1∨c % 3=2:=by omega
theorem Co (c:Int):c % 4=0∨c % 4=1∨c % 4=2∨c % 4=3:=by omega
theorem AX (c:Int):c % 5=0∨c % 5=1∨c % 5=2∨c % 5=3∨c % 5=4:=by omega
theorem dH {a b k:Int} (h:a % b=k) (hb:0<b):opD .mod (.int a) (.int b)=some (.int k):=by
 show (if 0<b then some (D.int (a % b)) else none)=_;rw [ZZ hb,h]
theorem tV (x:Int):0≤x % 999999999989∧x % 999999999989<999999999989:=⟨č _ (by decide),Ď _ (by decide)⟩
theorem i9 (ns:List Int) (k:Nat) (n:Nat) (st:List O):∃ c:Int,(0≤c∧c<999999999989)∧ae Γ (n+1) fX [.lst (ns.map .int),.int k] st = .ok (.int c) st:=by
 by_cases c:k<ns.length
 ·have e1:decide ((k:Int)<((ns.map D.int).length:Nat))=true:=by rw [Ι];exact ZW (by omega)
  have e2:ixD (.lst (ns.map D.int)) (.int (k:Int))=some (.int ns[k]):=by
   refine cn ?_
   rw [Φ,Α c]
   rfl
  refine ⟨_,tV (ns[k] * 982451653+((k:Int)+1) * 104395303),?_⟩
  exact aa false [.t 2 true,.o 0 (.int ns[k]),.o 0 (.int (ns[k] * 982451653)),.o 1 (.int (((k:Int)+1) * 104395303))] (e1<|>e2<|>dE (i:=ns[k]) (j:=982451653) (by decide)<|>dE (i:=(k:Int)+1) (j:=104395303) (by decide)<|>Z) (by kernel_rfl)
 ·have e1:decide ((k:Int)<((ns.map D.int).length:Nat))=false:=by rw [Ι];exact ZV (by omega)
  refine ⟨_,tV (0 * 982451653+((k:Int)+1) * 104395303),?_⟩
  exact aa false [.t 2 false,.o 2 (.int (((k:Int)+1) * 104395303))] (e1<|>dE (i:=(k:Int)+1) (j:=104395303) (by decide)<|>Z) (by kernel_rfl)
abbrev pA (ns:List Int) (i b c:Int) (w o:D):O:=.lst [.lst (ns.map .int),.int i,.int b,.int c,w,o]
abbrev pl0 (b0 c:Int):Int:=(b0+7919 * (c+1)) % 9973
theorem sm0 (b0 c:Int):Sm (pl0 b0 c):=by unfold Sm pl0;omega
theorem kY (ns:List Int) (i b c:Int) (w o:D) (n:Nat) (st:List O):ae Γ (n+1) jr [.ref 0] (pA ns i b c w o :: st) = .ok (.int (pl0 b c)) (pA ns i b (c+1) w o :: st):=by kernel_rfl
def pb (x:Int):Prop:=0≤x∧x<10 ^ 13
theorem next (ns:List Int) (i b c:Int) (w o:D) (hi:0≤i) (n:Nat) (st:List O):∃ x:Int,pb x∧ae Γ (n+1) kK [.ref 0] (pA ns i b c w o :: st) = .ok (.int x) (pA ns (i+1) b c w o :: st):=by
 have b9:pb (3+13 * ((i+1) % 997)):=⟨by omega,by omega⟩
 have m9:opD .mul (.int 13) (.int ((i+1) % 997))=some (.int (13 * ((i+1) % 997))):=dE (by omega)
 by_cases c1:30<c
 ·have e1:decide ((30:Int)<c)=true:=ZW c1
  exact ⟨_,b9,aa false [.t 4 true,.o 3 (.int (13 * ((i+1) % 997)))] (e1<|>m9<|>Z) (by kernel_rfl)⟩
 ·have e1:decide ((30:Int)<c)=false:=ZV c1
  by_cases c2:(ns.length:Int)≤i+1
  ·have e2:decide (((ns.map D.int).length:Int)≤i+1)=true:=by rw [Ι];exact ZW c2
   exact ⟨_,b9,aa false [.t 4 false,.t 4 true,.o 2 (.int (13 * ((i+1) % 997)))] (e1<|>e2<|>m9<|>Z) (by kernel_rfl)⟩
  ·have e2:decide (((ns.map D.int).length:Int)≤i+1)=false:=by rw [Ι];exact ZV c2
   obtain ⟨k,hk⟩:∃ k:Nat,i+1=k:=⟨(i+1).toNat,by omega⟩
   have kl:k<ns.length:=by omega
   have e3:ixD (.lst (ns.map D.int)) (.int (i+1))=some (.int ns[k]):=by
    rw [hk]
    refine cn ?_
    rw [Φ,Α kl]
    rfl
   refine ⟨_,⟨(tV (ns[k] * 982451653+(i+1) * 104395303)).1,by have:=(tV (ns[k] * 982451653+(i+1) * 104395303)).2;omega⟩,?_⟩
   exact aa false [.t 4 false,.t 4 false,.o 2 (.int ns[k]),.o 0 (.int (ns[k] * 982451653)),.o 1 (.int ((i+1) * 104395303))] (e1<|>e2<|>e3<|>dE (i:=ns[k]) (j:=982451653) (by decide)<|>dE (i:=i+1) (j:=104395303) (by decide)<|>Z) (by kernel_rfl)
theorem yW (c:Int) (h:pb c) (n:Nat) (st:List O):∃ v:Int,v.natAbs<10 ^ 40∧ae Γ (n+1) ia [.int c] st = .ok (.int v) st:=by
 obtain ⟨h0,h1⟩:=h
 have sg:-(2 ^ 64)<1 - 2 * (c / 8 % 2)∧1 - 2 * (c / 8 % 2)<2 ^ 64:=⟨by omega,by omega⟩
 have s1:1 - 2 * (c / 8 % 2)=1∨1 - 2 * (c / 8 % 2) = -1:=by omega
 have bd:∀ x:Int,0≤x→x<10 ^ 40→(x * (1 - 2 * (c / 8 % 2))).natAbs<10 ^ 40:=fun x h0 h1=>by rcases s1 with e | e <;> rw [e] <;> omega
 have m2:opD .mul (.int 2) (.int (c / 8 % 2))=some (.int (2 * (c / 8 % 2))):=dE (by omega)
 by_cases c0:c % 8=1
 ·exact ⟨_,bd (10 ^ 40 - 1 - c / 16 % 1000) (by omega) (by omega),(aj false (aX 2 (bJ c0) (aX 7 (m2) (aX 1 (dE (i:=10 ^ 40 - 1 - c / 16 % 1000) sg) aZ))) (by kernel_rfl))⟩
 ·by_cases c1:c % 8=2
  ·exact ⟨c / 8,by omega,(aj false (aX 2 (am c0) (aX 2 (bJ c1) aZ)) (by kernel_rfl))⟩
  ·exact ⟨c / 8 % 12 - 3,by omega,(aj false (aX 2 (am c0) (aX 2 (am c1) aZ)) (by kernel_rfl))⟩
def fl3 (c:Int):Kd:=if c % 2=0 then .whole else .truth
theorem jh (c:Int):(fl3 c).dep=1:=by unfold fl3;split <;> rfl
theorem l8 (c:Int):ixD (.lst [Kd.whole.toD,Kd.truth.toD]) (.int (c % 2))=some (fl3 c).toD:=by
 have h:=AW (c)
 unfold fl3
 rcases h with h | h <;> rw [h] <;> rfl
theorem we (c:Int) (n:Nat) (st:List O):∃ k:Kd,k.dep=1∧ae Γ (n+1) kF [.int c] st = .ok k.toD st:=⟨fl3 c,jh c,(aj false (aX 1 (l8 c) aZ) (by kernel_rfl))⟩
theorem rA (c:Int) (n:Nat) (st:List O):∃ k:Kd,k.dep≤2∧ae Γ (n+1) kH [.int c] st = .ok k.toD st:=by
 have ha:=jh c
 have hb:=jh (c / 3)
 have i1:=l8 c
 have i2:=l8 (c / 3)
 generalize fl3 c=a at *
 generalize fl3 (c / 3)=b at *
 have h:=AX (c / 9)
 rcases h with h | h | h | h | h
 ·exact ⟨a,by omega,(aj false (aX 1 (i1) (aX 2 (i2) (aX 1 (dH h (by decide)) aZ))) (by kernel_rfl))⟩
 ·exact ⟨.to b a,by show 1+max b.dep a.dep≤2;omega,(aj false (aX 1 (i1) (aX 2 (i2) (aX 1 (dH h (by decide)) aZ))) (by kernel_rfl))⟩
 ·exact ⟨.row a,by show 1+a.dep≤2;omega,(aj false (aX 1 (i1) (aX 2 (i2) (aX 1 (dH h (by decide)) aZ))) (by kernel_rfl))⟩
 ·exact ⟨.pair a b,by show 1+max a.dep b.dep≤2;omega,(aj false (aX 1 (i1) (aX 2 (i2) (aX 1 (dH h (by decide)) aZ))) (by kernel_rfl))⟩
 ·exact ⟨a,by omega,(aj false (aX 1 (i1) (aX 2 (i2) (aX 1 (dH h (by decide)) aZ))) (by kernel_rfl))⟩
def nmA (N:Al):List ι:=N.filterMap fun p=>match p.1 with | .inr x=>some x | .inl _=>none
structure Nk (W:List ι) (N:Al):Prop where
 nd:(ksA N).Nodup
 sb:∀ p∈N,∃ x∈W,p.1 = .inr x
 dp:∀ p∈N,p.2.dep≤3
theorem Nk.nil {W:List ι}:Nk W []:=⟨DA,fun _ h=>(by cases h),fun _ h=>(by cases h)⟩
theorem sk {α:Type} [DecidableEq α]:∀ (l m:List α),l.Nodup→(∀ x∈l,x∈m)→l.length≤m.length
 | [],m,_,_=>Â _
 | x :: l,m,hn,hs=>by
   have hx:=hs x (by simp)
   obtain ⟨hx1,hn2⟩:=Ϟ.mp hn
   have:=sk l (m.erase x) hn2 (fun y hy=>(El (fun e:y=x=>hx1 (e ▸ hy))).mpr (hs y (by simp [hy])))
   rw [DT hx] at this
   have:0<m.length:=E4 hx
   simp only [Κ];omega
theorem Nk.few {W:List ι} {N:Al} (h:Nk W N) (hW:W.length=5):N.length≤5:=by
 have:=sk (ksA N) (W.map Č) h.nd (fun k hk=>by
  obtain ⟨p,hp,rfl⟩:=Ϩ.mp hk
  obtain ⟨x,hx,e⟩:=h.sb p hp
  rw [e];exact Ϩ.mpr ⟨x,hx,rfl⟩)
 rw [Ι,hW] at this
 unfold ksA at this
 rwa [Ι] at this
theorem Nk.put {W:List ι} {N:Al} (h:Nk W N) {x:ι} (hx:x∈W) {k:Kd} (hk:k.dep≤3):Nk W (ai N (.inr x) k):=by
 refine ⟨?_,?_,oJ (P:=fun k=>k.dep≤3) h.dp hk⟩
 ·unfold ai
  split
  ·rw [rB];exact h.nd
  ·rename_i c
   unfold ksA
   rw [ç,é]
   refine ⟨h.nd,by simp,fun a ha b hb e=>c ?_⟩
   obtain ⟨p,hp,rfl⟩:=Ϩ.mp ha
   simp at hb
   exact Ą.mpr ⟨p,hp,by simp [e,hb]⟩
 ·unfold ai
  split
  ·intro p hp
   obtain ⟨q,hq,rfl⟩:=Ϩ.mp hp
   obtain ⟨y,hy,e⟩:=h.sb q hq
   refine ⟨y,hy,?_⟩
   split <;> exact e
  ·intro p hp
   rcases Ϯ.mp hp with hp | hp
   ·exact h.sb p hp
   ·rw [η.mp hp];exact ⟨x,hx,rfl⟩
theorem Nk.walk {W:List ι} {N:Al} (h:Nk W N):(ksA N).map ry=sts (nmA N):=by
 have:∀ N:Al,(∀ p∈N,∃ x∈W,p.1 = .inr x)→(ksA N).map ry=sts (nmA N):=by
  intro N
  induction N with
  | nil=>intro _;rfl
  | cons p r ih=>
    intro h
    obtain ⟨x,_,e⟩:=h p (by simp)
    have i:=ih (fun q hq=>h q (by simp [hq]))
    unfold ksA nmA sts at *
    rw [Ϲ,Ϲ,i,ύ,e];rfl
 exact this N h.sb
theorem yT {N:Al} {x:ι} (h:x∈nmA N):∃ k,aP N (.inr x)=some k:=by
 induction N with
 | nil=>cases h
 | cons p r ih=>
   show ∃ k,(if p.1 = .inr x then some p.2 else aP r (.inr x))=some k
   by_cases c:p.1 = .inr x
   ·rw [ZZ c];exact ⟨_,rfl⟩
   ·rw [ZY c]
    refine ih ?_
    obtain ⟨q,hq,e⟩:=ϳ.mp h
    rcases ξ.mp hq with rfl | hq
    ·cases hp:q.1 with
     | inl i=>rw [hp] at e;cases e
     | inr y=>rw [hp] at e c;cases e;exact ZX rfl c
    ·exact ϳ.mpr ⟨q,hq,e⟩
theorem jG {N:Al} {x y:ι} {k:Kd} (h:y∈nmA (ai N (.inr x) k)):y∈nmA N ++ [x]:=by
 obtain ⟨q,hq,e⟩:=ϳ.mp h
 unfold ai at hq
 split at hq
 ·obtain ⟨p,hp,rfl⟩:=Ϩ.mp hq
  refine À _ (ϳ.mpr ⟨p,hp,?_⟩)
  by_cases c:p.1 = .inr x
  ·rw [ZZ c] at e;exact e
  ·rw [ZY c] at e;exact e
 ·rcases Ϯ.mp hq with hq | hq
  ·exact À _ (ϳ.mpr ⟨q,hq,e⟩)
  ·rw [η.mp hq] at e;cases e;exact Í _ (by simp)
theorem yU (N:Al):(nmA N).length≤N.length:=DS _ _
theorem gu (N:Al) (x:ι) (k:Kd) (h:N.length<1000) (n:Nat) (S:List O):ae Γ (n+1) kJ [dA N,.str x,k.toD] S = .ok (dA (ai N (.inr x) k)) S:=(aj false (aX 1 (gK N x k (by omega)) aZ) (by kernel_rfl))
theorem oV {W:List ι} (hW:W.length=5) (c:Int):∃ x,x∈W∧ixD (.lst (sts W)) (.int (c % 5))=some (.str x):=by
 obtain ⟨k,hk⟩:∃ k:Nat,c % 5=k:=⟨(c % 5).toNat,by omega⟩
 have kl:k<W.length:=by omega
 refine ⟨W[k],ï kl,?_⟩
 rw [hk]
 refine cn ?_
 unfold sts
 rw [Φ,Α kl];rfl
theorem qM (f:D→D→Option Bool):∀ l l':List Kd,(∀ a∈l,∀ b:Kd,f a.toD b.toD=some (decide (a=b)))→∃ x,cP f (dsK l) (dsK l')=some x∧(x && l.length == l'.length)=decide (l=l')
 | [],l',h=>⟨true,by cases l' <;> rfl,by cases l' <;> simp⟩
 | a :: l,[],h=>⟨true,rfl,by simp⟩
 | a :: l,b :: l',h=>by
   obtain ⟨x,h1,h2⟩:=qM f l l' (fun c hc=>h c (by simp [hc]))
   have h3:=h a (by simp) b
   refine ⟨decide (a=b) && x,?_,?_⟩
   ·show (match f a.toD b.toD with | none=>none | some x=>(cP f (dsK l) (dsK l')).map (x && ·))=_
    rw [h3,h1];rfl
   ·by_cases e:a=b
    ·subst e
     have:((a :: l).length == (a :: l').length)=(l.length == l'.length):=by simp
     rw [this];simp only [decide_true,DV,h2];simp
    ·simp [e]
def Kd.hd:Kd→ι
 | .whole=>"whole" | .truth=>"truth" | .to _ _=>"to" | .row _=>"row" | .pair _ _=>"pair"
def Kd.ps:Kd→List Kd
 | .to a b=>[a,b] | .row a=>[a] | .pair a b=>[a,b] | _=>[]
theorem Kd.toD_eq (a:Kd):a.toD = .tup (.str a.hd :: dsK a.ps):=by cases a <;> rfl
theorem Kd.ps_dep {a b:Kd} (h:b∈a.ps):b.dep+1≤a.dep:=by
 cases a with
 | to c d=>rcases ξ.mp h with rfl | h;(show b.dep+1≤1+max b.dep d.dep;omega);(rw [η.mp h];show d.dep+1≤1+max c.dep d.dep;omega)
 | row c=>rw [η.mp h];show c.dep+1≤1+c.dep;omega
 | pair c d=>rcases ξ.mp h with rfl | h;(show b.dep+1≤1+max b.dep d.dep;omega);(rw [η.mp h];show d.dep+1≤1+max c.dep d.dep;omega)
 | _=>cases h
theorem Kd.ext {a b:Kd}:a=b↔a.hd=b.hd∧a.ps=b.ps:=by
 constructor
 ·intro h;subst h;exact ⟨rfl,rfl⟩
 ·rintro ⟨h1,h2⟩
  cases a <;> cases b <;> first | (cases h2;done) | (cases h2;rfl) | (exact ZX (show ("to":ι) = "pair" from h1) (by decide +kernel)) | (exact ZX (show ("pair":ι) = "to" from h1) (by decide +kernel)) | (exact ZX h1 (by decide +kernel))
theorem vA (n:Nat) (x y:ι):eqv n (.str x) (.str y)=some (decide (x=y)):=by
 have:eqv n (.str x) (.str y)=some (x == y):=by cases n <;> rfl
 rw [this]
 by_cases h:x=y
 ·subst h;simp
 ·simp [h]
theorem nR:∀ (n:Nat) (a:Kd),a.dep≤n→∀ b:Kd,eqv n a.toD b.toD=some (decide (a=b))
 | 0,a,h,b=>by cases a <;> (unfold Kd.dep at h;omega)
 | n+1,a,h,b=>by
   obtain ⟨x,h1,h2⟩:=qM (eqv n) a.ps b.ps (fun c hc d=>nR n c (by have:=Kd.ps_dep hc;omega) d)
   rw [a.toD_eq,b.toD_eq]
   show (match eqv n (.str a.hd) (.str b.hd) with | none=>none | some x=>(cP (eqv n) (dsK a.ps) (dsK b.ps)).map (x && ·)).map (· && ((D.str a.hd :: dsK a.ps).length == (D.str b.hd :: dsK b.ps).length))=_
   rw [vA,h1]
   show some ((decide (a.hd=b.hd) && x) && ((D.str a.hd :: dsK a.ps).length == (D.str b.hd :: dsK b.ps).length))=_
   have e:((D.str a.hd :: dsK a.ps).length == (D.str b.hd :: dsK b.ps).length)=(a.ps.length == b.ps.length):=by simp [dsK]
   rw [e,Bool.and_assoc,h2]
   congr 1
   by_cases q:a=b
   ·subst q;simp
   ·rw [ZV q]
    by_cases q1:a.hd=b.hd
    ·have:a.ps≠b.ps:=fun z=>q (Kd.ext.mpr ⟨q1,z⟩)
     simp [this]
    ·simp [q1]
abbrev fC:E:=.op .eq (.ix (.v 3) (.v 0)) (.v 2)
theorem eF (m:Nat) (dl cell:D) (want:Kd) (N:Al) (hd:∀ p∈N,p.2.dep≤3) (tl:List (Option D)) (S:List O):∀ (r:List ι) (acc:List D) (e:Option D),(∀ x∈r,x∈nmA N)→acc.length+r.length<1000→∃ (l:List ι) (e':Option D),(∀ x∈l,x∈nmA N∧aP N (.inr x)=some want)∧l.length≤r.length∧bt (lcQ Γ (ae Γ m) (aQ Γ m) [0] true (.v 0) fC) (sts r) acc ⟨e :: some dl :: some want.toD :: some (dA N) :: some cell :: tl,[],S⟩ = .ok (.lst (acc ++ sts l)) ⟨e' :: some dl :: some want.toD :: some (dA N) :: some cell :: tl,[],S⟩
 | [],acc,e,_,_=>⟨[],e,fun x h=>(nomatch h),ω _,by simp [bt,sts]⟩
 | x :: r,acc,e,hr,hn=>by
   simp only [Κ] at hn
   have hx:=hr x (by simp)
   obtain ⟨k,hk⟩:=yT hx
   have hi:ixD (dA N) (.str x)=some k.toD:=by show bW (ksA N) (dsA N) (.inr x)=_;rw [nI,hk];rfl
   have kd:k.dep≤55:=by obtain ⟨p,hp,e⟩:=kt hk;have:=hd p hp;rw [e] at this;omega
   have he:opD .eq (look S k.toD) (look S want.toD)=some (.bl (decide (k=want))):=by
    rw [jy,jy]
    show (eqT k.toD want.toD).map D.bl=_
    rw [qK (by cases k <;> rfl),nR 55 k kd];rfl
   have hc:ev Γ (ae Γ m) (aQ Γ m) true fC ⟨some (.str x) :: some dl :: some want.toD :: some (dA N) :: some cell :: tl,[],S⟩ = .ok (.bl (decide (k=want))) ⟨some (.str x) :: some dl :: some want.toD :: some (dA N) :: some cell :: tl,[],S⟩:=(pE false (aX 0 (hi) (aX 0 (he) aZ)) (by kernel_rfl))
   by_cases c:k=want
   ·rw [ZW c] at hc
    obtain ⟨l,e',h1,h2,h3⟩:=eF m dl cell want N hd tl S r (acc ++ [.str x]) (some (.str x)) (fun y hy=>hr y (by simp [hy])) (by rw [φ,ϋ];omega)
    refine ⟨x :: l,e',fun y hy=>?_,by simp only [Κ];omega,fA (mx rfl hc rfl) (by omega) (by rw [Ç] at h3;exact h3)⟩
    rcases ξ.mp hy with rfl | hy
    ·exact ⟨hx,by rw [hk,c]⟩
    ·exact h1 y hy
   ·rw [ZV c] at hc
    obtain ⟨l,e',h1,h2,h3⟩:=eF m dl cell want N hd tl S r acc (some (.str x)) (fun y hy=>hr y (by simp [hy])) (by omega)
    exact ⟨l,e',h1,by simp only [Κ];omega,nV (rF rfl hc) h3⟩
def Mad (W:List ι) (q:Nat) (N:Al) (w:Kd) (t:T68):Prop:=Ok W q (nmA N) t∧Tp N w t
section
variable {W:List ι} {q:Nat} {N:Al} {w:Kd} {p:Int}
theorem ok0 (sp:Sm p) {t:T68} (e:t.pl=p) (h:own W (nmA N) t) (hk:ak t = []) (hw:wks t = []):Ok W (q+1) (nmA N) t:=⟨h,by rw [e];exact sp,by rw [hw];exact fun _ h=>(by cases h),fun i k e=>by rw [hk] at e;simp at e⟩
theorem kT (sp:Sm p) {v:Int} (hv:v.natAbs<10 ^ 40):Mad W (q+1) N .whole (.whole p v):=⟨ok0 sp rfl hv rfl rfl,.whole⟩
theorem r6 (sp:Sm p) {v:Nat} (hv:v<8):Mad W (q+1) N .whole (.given p v):=⟨ok0 sp rfl hv rfl rfl,.given⟩
theorem sd (sp:Sm p) {v:Bool}:Mad W (q+1) N .truth (.truth p v):=⟨ok0 sp rfl trivial rfl rfl,.truth⟩
theorem jC (sp:Sm p) {x:ι} (h:x∈nmA N) (hg:aP N (.inr x)=some w) (hd:w.dep≤4):Mad W (q+1) N w (.name p x):=⟨ok0 sp rfl h rfl rfl,.name hg hd⟩
theorem ok1 (sp:Sm p) {t a:T68} {bs:List ι} (e:t.pl=p) (h:own W bs t) (hk:ak t = [a]) (hw:∀ k∈wks t,k.dep≤8) (ha:Ok W q (bs ++ bnd t 0) a):Ok W (q+1) bs t:=⟨h,by rw [e];exact sp,hw,fun i k e=>by
 rw [hk] at e
 match i,e with
 | 0,e=>cases e;exact ha
 | i+1,e=>simp at e⟩
theorem ok2 (sp:Sm p) {t a b:T68} {bs:List ι} (e:t.pl=p) (h:own W bs t) (hk:ak t = [a,b]) (hw:wks t = []) (ha:Ok W q (bs ++ bnd t 0) a) (hb:Ok W q (bs ++ bnd t 1) b):Ok W (q+1) bs t:=⟨h,by rw [e];exact sp,by rw [hw];exact fun _ h=>(by cases h),fun i k e=>by
 rw [hk] at e
 match i,e with
 | 0,e=>cases e;exact ha
 | 1,e=>cases e;exact hb
 | i+2,e=>simp at e⟩
theorem Ok.app {bs:List ι} {t:T68} (h:Ok W q bs t):Ok W q (bs ++ []) t:=by rw [ϧ];exact h
theorem rZ (sp:Sm p) {a:T68} (ha:Mad W q N w a) (hd:w.dep≤4):Mad W (q+1) N w (.as_ p w a):=⟨ok1 sp rfl trivial rfl (fun z hz=>by rw [η.mp hz];omega) ha.1.app,.as_ ha.2 hd⟩
theorem AV (sp:Sm p) {x:ι} {a:Kd} {b:T68} (hx:x∈W) (h:Mad W q (ai N (.inr x) a) w b) (ha:a.dep≤3) (hd:w.dep≤3):Mad W (q+1) N (.to a w) (.fn p x a b):=⟨ok1 sp rfl hx rfl (fun z hz=>by rw [η.mp hz];omega) (h.1.mono (fun _=>jG) (ω _)),.fn h.2 ha hd⟩
theorem r9 (sp:Sm p) {f x:ι} {a g:Kd} {b:T68} (hf:f∈W) (hx:x∈W) (h:Mad W q (ai (ai N (.inr f) (.to a g)) (.inr x) a) g b) (ha:a.dep≤3) (hd:g.dep≤3):Mad W (q+1) N (.to a g) (.slf p f x a g b):=⟨ok1 sp rfl ⟨hf,hx⟩ rfl (fun z hz=>by simp [wks] at hz;rcases hz with rfl | rfl <;> omega) (h.1.mono (fun y hy=>by
 rcases Ϯ.mp (jG hy) with hy | hy
 ·rcases Ϯ.mp (jG hy) with hy | hy
  ·exact À _ hy
  ·exact Í _ (by rw [η.mp hy];exact ν ..)
 ·exact Í _ (μ _ hy)) (ω _)),.slf h.2 ha hd⟩
theorem jB (sp:Sm p) {k:Kd} {a b:T68} (ha:Mad W q N (.to k w) a) (hb:Mad W q N k b) (hd:w.dep≤4):Mad W (q+1) N w (.call p a b):=⟨ok2 sp rfl trivial rfl rfl ha.1.app hb.1.app,.call ha.2 hb.2 hd⟩
theorem yG (sp:Sm p) {x:ι} {k:Kd} {a b:T68} (hx:x∈W) (ha:Mad W q N k a) (hb:Mad W q (ai N (.inr x) k) w b) (hd:w.dep≤4):Mad W (q+1) N w (.lt p x a b):=⟨ok2 sp rfl hx rfl rfl ha.1.app (hb.1.mono (fun _=>jG) (ω _)),.lt ha.2 hb.2 hd⟩
theorem mG (sp:Sm p) {c a b:T68} (hc:Mad W q N .truth c) (ha:Mad W q N w a) (hb:Mad W q N w b) (hd:w.dep≤4):Mad W (q+1) N w (.iff p c a b):=⟨⟨trivial,sp,fun _ h=>(by cases h),fun i k e=>by
 match i,e with
 | 0,e=>cases e;exact hc.1.app
 | 1,e=>cases e;exact ha.1.app
 | 2,e=>cases e;exact hb.1.app
 | i+3,e=>cases e⟩,.iff hc.2 ha.2 hb.2 hd⟩
theorem mF (sp:Sm p) {o:Sg} {a b:T68} (ha:Mad W q N .whole a) (hb:Mad W q N .whole b) (hw:o.kd=w):Mad W (q+1) N w (.bin p o a b):=⟨ok2 sp rfl trivial rfl rfl ha.1.app hb.1.app,.bin ha.2 hb.2 hw⟩
theorem yI (sp:Sm p) {k:Kd} {ts:List T68} (hl:ts.length≤4) (h:∀ t∈ts,Mad W q N k t) (hd:k.dep≤3):Mad W (q+1) N (.row k) (.row p k ts):=⟨⟨hl,sp,fun z hz=>by rw [η.mp hz];omega,fun i t e=>(h t (Ε e)).1.app⟩,.row (fun t ht=>(h t ht).2) hd⟩
theorem yF (sp:Sm p) {a b:T68} (ha:Mad W q N (.row w) a) (hb:Mad W q N .whole b) (hd:w.dep≤4):Mad W (q+1) N w (.att p a b):=⟨ok2 sp rfl trivial rfl rfl ha.1.app hb.1.app,.att ha.2 hb.2 hd⟩
theorem vd (sp:Sm p) {k:Kd} {a:T68} (ha:Mad W q N (.row k) a):Mad W (q+1) N .whole (.size p a):=⟨ok1 sp rfl trivial rfl (fun _ h=>(by cases h)) ha.1.app,.size ha.2⟩
theorem yH (sp:Sm p) {k:Kd} {a:T68} (ha:Mad W q N (.pair w k) a) (hd:w.dep≤4):Mad W (q+1) N w (.one p a):=⟨ok1 sp rfl trivial rfl (fun _ h=>(by cases h)) ha.1.app,.one ha.2 hd⟩
theorem yJ (sp:Sm p) {k:Kd} {a:T68} (ha:Mad W q N (.pair k w) a) (hd:w.dep≤4):Mad W (q+1) N w (.two p a):=⟨ok1 sp rfl trivial rfl (fun _ h=>(by cases h)) ha.1.app,.two ha.2 hd⟩
theorem u9 (sp:Sm p) {k l:Kd} {a b:T68} (ha:Mad W q N k a) (hb:Mad W q N l b) (hk:k.dep≤3) (hl:l.dep≤3):Mad W (q+1) N (.pair k l) (.pair p a b):=⟨ok2 sp rfl trivial rfl rfl ha.1.app hb.1.app,.pair ha.2 hb.2 hk hl⟩
theorem Mad.up {t:T68} {q':Nat} (h:Mad W q N w t) (hq:q≤q'):Mad W q' N w t:=⟨h.1.mono (fun _ h=>h) hq,h.2⟩
end
def Kd.lN:Kd→Nat
 | .whole=>1
 | .truth=>1
 | .to _ b=>1+b.lN
 | .row a=>1+a.lN
 | .pair a b=>1+max a.lN b.lN
theorem Kd.lN_le:∀ k:Kd,k.lN≤k.dep+1
 | .whole=>by decide
 | .truth=>by decide
 | .to a b=>by have:=lN_le b;show 1+b.lN≤1+max a.dep b.dep+1;omega
 | .row a=>by have:=lN_le a;show 1+a.lN≤1+a.dep+1;omega
 | .pair a b=>by have:=lN_le a;have:=lN_le b;show 1+max a.lN b.lN≤1+max a.dep b.dep+1;omega
def Kd.ok (k:Kd):Prop:=k.dep≤3∧k.lN≤3
theorem Kd.ok2 {k:Kd} (h:k.dep≤2):k.ok:=⟨by omega,by have:=Kd.lN_le k;omega⟩
def ind (b0 x c:Int):Int:=if pl0 b0 c=x then 1 else 0
def Gn (b0 x:Int):Nat→Int
 | 0=>0
 | n+1=>Gn b0 x n+ind b0 x n
def Gm (b0 x:Int):Nat→Int
 | 0=>0
 | n+1=>Gm b0 x n - ind b0 x (-((n:Int)+1))
def Gc (b0 x:Int):Int→Int
 | .ofNat n=>Gn b0 x n
 | .negSucc n=>Gm b0 x (n+1)
theorem xz (b0 x c:Int):0≤ind b0 x c:=by unfold ind;split <;> decide
theorem az (b0 x:Int):∀ c:Int,Gc b0 x (c+1)=Gc b0 x c+ind b0 x c
 | .ofNat n=>rfl
 | .negSucc 0=>by show (0:Int)=(0 - ind b0 x (-((0:Nat)+1)))+ind b0 x (ņ 0);show (0:Int)=(0 - ind b0 x (-1))+ind b0 x (-1);omega
 | .negSucc (n+1)=>by
   have e:(ņ (n+1))+1=ņ n:=by omega
   have e2:ņ (n+1) = -(((n+1:Nat):Int)+1):=by omega
   rw [e]
   show Gm b0 x (n+1)=(Gm b0 x (n+1) - ind b0 x (-(((n+1:Nat):Int)+1)))+ind b0 x (ņ (n+1))
   rw [← e2];omega
def Pz (b0 c c' Z:Int) (q:Nat) (t:T68):Prop:=(∀ x,((ah q t).count x:Int)+Gc b0 x c≤Gc b0 x c')∧c≤c'∧c'≤c+Z
def PzL (b0 c c' Z:Int) (q:Nat) (ts:List T68):Prop:=(∀ x,((ts.flatMap (ah q)).count x:Int)+Gc b0 x c≤Gc b0 x c')∧c≤c'∧c'≤c+Z
section
variable {b0 c c' c1 c2 Z Y V:Int} {q:Nat} {t a b d:T68} {ts:List T68}
theorem PzL.nil:PzL b0 c c 0 q []:=⟨fun x=>by simp,Ų _,by omega⟩
theorem PzL.cons (h:Pz b0 c c1 Z q t) (h':PzL b0 c1 c' Y q ts):PzL b0 c c' (Z+Y) q (t :: ts):=by
 refine ⟨fun x=>?_,by have:=h.2;have:=h'.2;omega,by have:=h.2;have:=h'.2;omega⟩
 have h1:=h.1 x
 have h2:=h'.1 x
 rw [Æ,List.count_append]
 omega
theorem Pz.node (e:t.pl=pl0 b0 c) (h:PzL b0 (c+1) c' Z q (ak t)):Pz b0 c c' (Z+1) (q+1) t:=by
 refine ⟨fun x=>?_,by have:=h.2;omega,by have:=h.2;omega⟩
 have h1:=h.1 x
 have h2:=az b0 x c
 unfold ind at h2
 show (((t.pl :: (ak t).flatMap (ah q)).count x:Nat):Int)+_≤_
 rw [FA,e]
 by_cases k:pl0 b0 c=x
 ·rw [ZZ k] at h2
  rw [ZZ (by simpa using k)];omega
 ·rw [ZY k] at h2
  rw [ZY (by simpa using k)];omega
theorem Pz.z (h:Pz b0 c c' Z q t) (l:Z≤Y):Pz b0 c c' Y q t:=⟨h.1,h.2.1,by have:=h.2;omega⟩
theorem PzL.z (h:PzL b0 c c' Z q ts) (l:Z≤Y):PzL b0 c c' Y q ts:=⟨h.1,h.2.1,by have:=h.2;omega⟩
theorem Pz.skip (h:Pz b0 (c+1) c' Z q t):Pz b0 c c' (Z+1) q t:=⟨fun x=>by have:=h.1 x;have:=az b0 x c;have:=xz b0 x c;omega,by have:=h.2;omega,by have:=h.2;omega⟩
theorem pz0 (e:t.pl=pl0 b0 c) (hk:ak t = []):Pz b0 c (c+1) 1 (q+1) t:=(Pz.node e (by rw [hk];exact PzL.nil)).z (by omega)
theorem pz1 (e:t.pl=pl0 b0 c) (hk:ak t = [a]) (h:Pz b0 (c+1) c' Z q a):Pz b0 c c' (Z+1) (q+1) t:=(Pz.node e (by rw [hk];exact PzL.cons h PzL.nil)).z (by omega)
theorem pz2 (e:t.pl=pl0 b0 c) (hk:ak t = [a,b]) (h:Pz b0 (c+1) c1 Z q a) (h':Pz b0 c1 c' Y q b):Pz b0 c c' (Z+Y+1) (q+1) t:=(Pz.node e (by rw [hk];exact PzL.cons h (PzL.cons h' PzL.nil))).z (by omega)
theorem pz3 (e:t.pl=pl0 b0 c) (hk:ak t = [a,b,d]) (h:Pz b0 (c+1) c1 Z q a) (h':Pz b0 c1 c2 Y q b) (h'':Pz b0 c2 c' V q d):Pz b0 c c' (Z+Y+V+1) (q+1) t:=(Pz.node e (by rw [hk];exact PzL.cons h (PzL.cons h' (PzL.cons h'' PzL.nil)))).z (by omega)
end
theorem sH {W:List ι}:∀ {q q':Nat} {bs:List ι} {t:T68},Ok W q bs t→q≤q'→ah q' t=ah q t
 | 0,_,_,_,o,_=>o.elim
 | q+1,0,_,_,_,h=>ZX h (by omega)
 | q+1,q'+1,bs,t,o,h=>by
   show t.pl :: (ak t).flatMap (ah q')=t.pl :: (ak t).flatMap (ah q)
   congr 1
   have:∀ l:List T68,(∀ y∈l,ah q' y=ah q y)→l.flatMap (ah q')=l.flatMap (ah q):=fun l=>by
    induction l with
    | nil=>intro _;rfl
    | cons y r ih=>intro h;rw [Æ,Æ,h y (by simp),ih fun z hz=>h z (by simp [hz])]
   exact this _ fun y hy=>by obtain ⟨i,hi⟩:=ϱ.mp hy;exact sH (o.2.2.2 i y hi) (by omega)
def aB (b0 c c' Z:Int) (W:List ι) (q:Nat) (N:Al) (w:Kd) (t:T68):Prop:=Mad W q N w t∧Pz b0 c c' Z q t
section
variable {b0 c c' c1 c2 Z Y V:Int} {W:List ι} {q:Nat} {N:Al} {w:Kd}
theorem aB.z {t:T68} (h:aB b0 c c' Z W q N w t) (l:Z≤Y):aB b0 c c' Y W q N w t:=⟨h.1,h.2.z l⟩
theorem aB.skip {t:T68} (h:aB b0 (c+1) c' Z W q N w t):aB b0 c c' (Z+1) W q N w t:=⟨h.1,h.2.skip⟩
theorem aB.up {t:T68} {q':Nat} (h:aB b0 c c' Z W q N w t) (l:q≤q'):aB b0 c c' Z W q' N w t:=⟨h.1.up l,⟨fun x=>by rw [sH h.1.1 l];exact h.2.1 x,h.2.2⟩⟩
theorem kU {v:Int} (hv:v.natAbs<10 ^ 40):aB b0 c (c+1) 1 W (q+1) N .whole (.whole (pl0 b0 c) v):=⟨kT (sm0 b0 c) hv,pz0 rfl rfl⟩
theorem sf {v:Nat} (hv:v<8):aB b0 c (c+1) 1 W (q+1) N .whole (.given (pl0 b0 c) v):=⟨r6 (sm0 b0 c) hv,pz0 rfl rfl⟩
theorem si {v:Bool}:aB b0 c (c+1) 1 W (q+1) N .truth (.truth (pl0 b0 c) v):=⟨sd (sm0 b0 c),pz0 rfl rfl⟩
theorem vf {x:ι} (h:x∈nmA N) (hg:aP N (.inr x)=some w) (hd:w.dep≤4):aB b0 c (c+1) 1 W (q+1) N w (.name (pl0 b0 c) x):=⟨jC (sm0 b0 c) h hg hd,pz0 rfl rfl⟩
theorem AY {a:T68} (ha:aB b0 (c+1) c' Z W q N w a) (hd:w.dep≤4) :aB b0 c c' (Z+1) W (q+1) N w (.as_ (pl0 b0 c) w a):=⟨rZ (sm0 b0 c) ha.1 hd,pz1 rfl rfl ha.2⟩
theorem wn {x:ι} {a:Kd} {b:T68} (hx:x∈W) (h:aB b0 (c+1) c' Z W q (ai N (.inr x) a) w b) (ha:a.dep≤3) (hd:w.dep≤3) :aB b0 c c' (Z+1) W (q+1) N (.to a w) (.fn (pl0 b0 c) x a b):=⟨AV (sm0 b0 c) hx h.1 ha hd,pz1 rfl rfl h.2⟩
theorem yO {f x:ι} {a g:Kd} {b:T68} (hf:f∈W) (hx:x∈W) (h:aB b0 (c+1) c' Z W q (ai (ai N (.inr f) (.to a g)) (.inr x) a) g b) (ha:a.dep≤3) (hd:g.dep≤3)  :aB b0 c c' (Z+1) W (q+1) N (.to a g) (.slf (pl0 b0 c) f x a g b):=⟨r9 (sm0 b0 c) hf hx h.1 ha hd,pz1 rfl rfl h.2⟩
theorem ve {k:Kd} {a b:T68} (ha:aB b0 (c+1) c1 Z W q N (.to k w) a) (hb:aB b0 c1 c' Y W q N k b) (hd:w.dep≤4):aB b0 c c' (Z+Y+1) W (q+1) N w (.call (pl0 b0 c) a b):=⟨jB (sm0 b0 c) ha.1 hb.1 hd,pz2 rfl rfl ha.2 hb.2⟩
theorem yM {x:ι} {k:Kd} {a b:T68} (hx:x∈W) (ha:aB b0 (c+1) c1 Z W q N k a) (hb:aB b0 c1 c' Y W q (ai N (.inr x) k) w b) (hd:w.dep≤4):aB b0 c c' (Z+Y+1) W (q+1) N w (.lt (pl0 b0 c) x a b):=⟨yG (sm0 b0 c) hx ha.1 hb.1 hd,pz2 rfl rfl ha.2 hb.2⟩
theorem yL {v a b:T68} (hc:aB b0 (c+1) c1 Z W q N .truth v) (ha:aB b0 c1 c2 Y W q N w a) (hb:aB b0 c2 c' V W q N w b) (hd:w.dep≤4):aB b0 c c' (Z+Y+V+1) W (q+1) N w (.iff (pl0 b0 c) v a b):=⟨mG (sm0 b0 c) hc.1 ha.1 hb.1 hd,pz3 rfl rfl hc.2 ha.2 hb.2⟩
theorem se {o:Sg} {a b:T68} (ha:aB b0 (c+1) c1 Z W q N .whole a) (hb:aB b0 c1 c' Y W q N .whole b) (hw:o.kd=w):aB b0 c c' (Z+Y+1) W (q+1) N w (.bin (pl0 b0 c) o a b):=⟨mF (sm0 b0 c) ha.1 hb.1 hw,pz2 rfl rfl ha.2 hb.2⟩
theorem jD {k:Kd} {ts:List T68} (hl:ts.length≤4) (h:∀ t∈ts,Mad W q N k t) (hd:k.dep≤3) (hz:PzL b0 (c+1) c' Z q ts):aB b0 c c' (Z+1) W (q+1) N (.row k) (.row (pl0 b0 c) k ts):=⟨yI (sm0 b0 c) hl h hd,Pz.node rfl hz⟩
theorem yK {a b:T68} (ha:aB b0 (c+1) c1 Z W q N (.row w) a) (hb:aB b0 c1 c' Y W q N .whole b) (hd:w.dep≤4):aB b0 c c' (Z+Y+1) W (q+1) N w (.att (pl0 b0 c) a b):=⟨yF (sm0 b0 c) ha.1 hb.1 hd,pz2 rfl rfl ha.2 hb.2⟩
theorem vg {k:Kd} {a:T68} (ha:aB b0 (c+1) c' Z W q N (.row k) a):aB b0 c c' (Z+1) W (q+1) N .whole (.size (pl0 b0 c) a):=⟨vd (sm0 b0 c) ha.1,pz1 rfl rfl ha.2⟩
theorem yN {k:Kd} {a:T68} (ha:aB b0 (c+1) c' Z W q N (.pair w k) a) (hd:w.dep≤4):aB b0 c c' (Z+1) W (q+1) N w (.one (pl0 b0 c) a):=⟨yH (sm0 b0 c) ha.1 hd,pz1 rfl rfl ha.2⟩
theorem yP {k:Kd} {a:T68} (ha:aB b0 (c+1) c' Z W q N (.pair k w) a) (hd:w.dep≤4):aB b0 c c' (Z+1) W (q+1) N w (.two (pl0 b0 c) a):=⟨yJ (sm0 b0 c) ha.1 hd,pz1 rfl rfl ha.2⟩
theorem oj {k l:Kd} {a b:T68} (ha:aB b0 (c+1) c1 Z W q N k a) (hb:aB b0 c1 c' Y W q N l b) (hk:k.dep≤3) (hl:l.dep≤3):aB b0 c c' (Z+Y+1) W (q+1) N (.pair k l) (.pair (pl0 b0 c) a b):=⟨u9 (sm0 b0 c) ha.1 hb.1 hk hl,pz2 rfl rfl ha.2 hb.2⟩
end
def zl:Nat→Int
 | 0=>0
 | d+1=>zl d+zl d+1
theorem wG:∀ d,0≤zl d
 | 0=>by decide
 | d+1=>by have:=wG d;show 0≤zl d+zl d+1;omega
theorem vo {b0 i j:Int} (h0:0≤i) (h1:i<j) (h2:j<9973) (e:pl0 b0 i=pl0 b0 j):False:=by
 unfold pl0 at e
 omega
theorem vK (b0 x:Int):∀ n:Nat,n≤9973→Gn b0 x n≤1∧(Gn b0 x n=1→∃ i:Nat,i<n∧pl0 b0 i=x)∧0≤Gn b0 x n
 | 0,_=>⟨by show (0:Int)≤1;decide,fun h=>ZX (show (0:Int)=1 from h) (by decide),Ų _⟩
 | n+1,h=>by
   obtain ⟨h1,h2,h3⟩:=vK b0 x n (by omega)
   show Gn b0 x n+ind b0 x n≤1∧(Gn b0 x n+ind b0 x n=1→_)∧0≤Gn b0 x n+ind b0 x n
   unfold ind
   by_cases k:pl0 b0 n=x
   ·rw [ZZ k]
    have z:Gn b0 x n=0:=by
     refine Decidable.byContradiction fun q=>?_
     obtain ⟨i,hi,e⟩:=h2 (by omega)
     exact vo (b0:=b0) (i:=i) (j:=n) (by omega) (by omega) (by omega) (e.trans k.symm)
    exact ⟨by omega,fun _=>⟨n,by omega,k⟩,by omega⟩
   ·rw [ZY k]
    exact ⟨by omega,fun q=>by obtain ⟨i,hi,e⟩:=h2 (by omega);exact ⟨i,by omega,e⟩,by omega⟩
theorem apart {b0 c' Z:Int} {q:Nat} {t:T68} (h:Pz b0 0 c' Z q t) (hz:Z≤9973):(ah q t).Nodup:=by
 rw [List.nodup_iff_count]
 intro x
 obtain ⟨h1,h2,h3⟩:=h
 obtain ⟨n,rfl⟩:∃ n:Nat,c'=n:=⟨c'.toNat,by omega⟩
 have:=h1 x
 have g:=(vK b0 x n (by omega)).1
 have e0:Gc b0 x 0=0:=rfl
 have e1:Gc b0 x n=Gn b0 x n:=rfl
 rw [e0,e1] at this
 omega
abbrev dS (ns:List Int) (i b0:Int) (W:List ι) (od:Int) (st:List O) (c:Int):List O:=pA ns i b0 c (.lst (sts W)) (.int od) :: st
theorem xN {s:Sta} {elt:E} (hb:aH t one d s.env=some env) (h:ev Γ cal cal1 false elt ⟨env,[],s.st⟩ = .ok e s3):lcQ Γ cal cal1 t one elt (.c (.bl true)) d s = .ok (some e) ⟨s3.env,[],s3.st⟩:=mx hb rfl h
theorem dZ {c:Int} {n:Int} (h:0<n):∃ k:Nat,c % n=k∧(k:Int)<n:=⟨(c % n).toNat,by have:=č c (b:=n) (by omega);omega,by have:=č c (b:=n) (by omega);have:=Ď c h;omega⟩
theorem yf {W:List ι} (hW:W.length=5) (ns:List Int) (i b0 od:Int) (st:List O):∀ (d:Nat) (want:Kd),want.lN≤d→want.dep≤3→∀ (N:Al) (cell c:Int) (M:Nat),Nk W N→pb cell→d+2≤M→∃ (t:T68) (c':Int),aB b0 c c' (zl d) W d N want t∧ae Γ M eX [.ref 0,want.toD,dA N,.int cell] (dS ns i b0 W od st c) = .ok t.toD (dS ns i b0 W od st c')
 | 0,want,h,_,_,_,_,_,_,_,_=>by cases want <;> (unfold Kd.lN at h;omega)
 | d+1,want,h,hdp,N,cell,c,M,nk,hc,hM=>by
   obtain ⟨m,rfl⟩:∃ m,M=m+2:=⟨M - 2,by omega⟩
   have ih:=yf hW ns i b0 od st d
   have k5:=nk.few hW
   have nl:=yU N
   obtain ⟨c0,c1⟩:=hc
   obtain ⟨l,e',hl,hn,hf⟩:=eF (m+1) (.ref 0) (.int cell) want N nk.dp [none,none,none,none] (dS ns i b0 W od st c) (nmA N) [] none (fun x h=>h) (by simp only [ϯ];omega)
   rw [← nk.walk] at hf
   have hp:=kY ns i b0 c (.lst (sts W)) (.int od) m st
   have zn:=wG d
   have zd:zl (d+1)=zl d+zl d+1:=rfl
   have sl:(sts l).length=l.length:=Ι ..
   by_cases hA:l≠[]∧0<cell % 4
   ·obtain ⟨hA1,hA2⟩:=hA
    have lp:0<l.length:=Ÿ.mpr hA1
    have f1:decide ((0:Int)<((sts l).length:Nat))=true:=ZW (by rw [sl];omega)
    have f2:decide ((0:Int)<cell % 4)=true:=ZW hA2
    obtain ⟨k,hk,kl⟩:=dZ (c:=cell / 4) (n:=((sts l).length:Nat)) (by omega)
    have kl:k<l.length:=by omega
    have g1:opD .mod (.int (cell / 4)) (.int ((sts l).length:Nat))=some (.int (k:Nat)):=dH hk (by omega)
    have g2:ixD (.lst (sts l)) (.int (k:Nat))=some (.str l[k]):=by
     refine cn ?_
     unfold sts
     rw [Φ,Α kl];rfl
    obtain ⟨n1,n2⟩:=hl _ (ï kl)
    exact ⟨.name (pl0 b0 c) l[k],c+1,(vf n1 n2 (by omega)).z (by omega),(aj true (aX 0 (hf) (aX 2 (f1) (aX 2 (f2) (aX 0 (hp) (aX 2 (g1) (aX 0 (g2) aZ)))))) (by kernel_rfl))⟩
   ·have rt:decide ((0:Int)<((sts l).length:Nat))=false∨(decide ((0:Int)<((sts l).length:Nat))=true∧decide ((0:Int)<cell % 4)=false):=by
     rw [sl]
     by_cases q:l = []
     ·subst q;exact .inl rfl
     ·have lp:0<l.length:=Ÿ.mpr q
      exact .inr ⟨ZW (by omega),ZV fun z=>hA ⟨q,z⟩⟩
    have hd:exS Γ (ae Γ (m+1)) (aQ Γ (m+1)) (hdS 2 eU.body) ⟨[some (.ref 0),some want.toD,some (dA N),some (.int cell),none,none,none,none],[],dS ns i b0 W od st c⟩ = .nx ⟨[some (.ref 0),some want.toD,some (dA N),some (.int cell),none,some (.lst (sts l)),some (.int (pl0 b0 c)),none],[5],dS ns i b0 W od st (c+1)⟩:=by
     rcases rt with f0 | ⟨f1,f2⟩
     ·exact (eE true (aX 0 (hf) (aX 2 (f0) (aX 0 (hp) aZ))) (by kernel_rfl))
     ·exact (eE true (aX 0 (hf) (aX 2 (f1) (aX 2 (f2) (aX 0 (hp) aZ)))) (by kernel_rfl))
    have tl:=fun {r:Res}=>b7 (ds:=[.ref 0,want.toD,dA N,.int cell]) (j:=eX) (r:=r) 2 eU rfl rfl hd
    cases want with
    | whole=>
      by_cases q:cell % 3=0
      ·obtain ⟨k,hk,k8⟩:=dZ (c:=cell / 12) (n:=8) (by decide)
       exact ⟨.given (pl0 b0 c) k,c+1,(sf (by omega)).z (by omega),tl (aS true (aX 5 (bJ q) (aX 1 (dH hk (by decide)) aZ)) (by kernel_rfl))⟩
      ·obtain ⟨v,hv,hnum⟩:=yW (cell / 12) ⟨by omega,by omega⟩ m (dS ns i b0 W od st (c+1))
       exact ⟨.whole (pl0 b0 c) v,c+1,(kU hv).z (by omega),tl (aS true (aX 5 (am q) (aX 0 (hnum) aZ)) (by kernel_rfl))⟩
    | truth=>exact ⟨.truth (pl0 b0 c) (cell / 12 % 2 == 0),c+1,si.z (by omega),tl (aS true aZ (by kernel_rfl))⟩
    | to a b=>
      have hab:b.lN≤d∧a.dep≤3∧b.dep≤3∧max a.dep b.dep≤2:=by unfold Kd.lN at h;unfold Kd.dep at hdp;omega
      obtain ⟨x,hx,ix⟩:=oV hW (cell / 12)
      have hm:=gu N x a (by omega) m (dS ns i b0 W od st (c+1))
      obtain ⟨t,c2,ot,ht⟩:=ih b hab.1 hab.2.2.1 (ai N (.inr x) a) (cell / 60) (c+1) (m+1) (nk.put hx hab.2.1) ⟨by omega,by omega⟩ (by omega)
      exact ⟨.fn (pl0 b0 c) x a t,c2,(wn hx ot hab.2.1 hab.2.2.1).z (by omega),tl (aS true (aX 12 (ix) (aX 0 (hm) (aX 0 (ht) aZ))) (by kernel_rfl))⟩
    | pair a b=>
      have hab:a.lN≤d∧b.lN≤d∧a.dep≤3∧b.dep≤3:=by unfold Kd.lN at h;unfold Kd.dep at hdp;omega
      obtain ⟨t,c2,ot,ht⟩:=ih a hab.1 hab.2.2.1 N (cell / 12) (c+1) (m+1) nk ⟨by omega,by omega⟩ (by omega)
      obtain ⟨u,c3,ou,hu⟩:=ih b hab.2.1 hab.2.2.2 N (cell / 60) c2 (m+1) nk ⟨by omega,by omega⟩ (by omega)
      exact ⟨.pair (pl0 b0 c) t u,c3,(oj ot ou hab.2.2.1 hab.2.2.2).z (by omega),tl (aS true (aX 0 (ht) (aX 0 (hu) aZ)) (by kernel_rfl))⟩
    | row a=>
      have hab:a.lN≤d∧a.dep≤3:=by unfold Kd.lN at h;unfold Kd.dep at hdp;omega
      have q3:=Cn (cell / 12)
      obtain ⟨t,c2,ot,ht⟩:=ih a hab.1 hab.2 N (cell / 36+7 * 0) (c+1) (m+1) nk ⟨by omega,by omega⟩ (by omega)
      obtain ⟨u,c3,ou,hu⟩:=ih a hab.1 hab.2 N (cell / 36+7 * 1) c2 (m+1) nk ⟨by omega,by omega⟩ (by omega)
      rcases q3 with q | q | q
      ·exact ⟨.row (pl0 b0 c) a [],c+1,(jD (by decide) (fun t h=>by cases h) hab.2 PzL.nil).z (by omega),tl (aS false (aX 13 (dH q (by decide)) aZ) (by kernel_rfl))⟩
      ·exact ⟨.row (pl0 b0 c) a [t],c2,(jD (Ξ rfl) (fun z h=>by rw [η.mp h];exact ot.1) hab.2 (PzL.cons ot.2 PzL.nil)).z (by omega),tl (aS false (aX 13 (dH q (by decide)) (aX 0 (ht) aZ)) (by kernel_rfl))⟩
      ·exact ⟨.row (pl0 b0 c) a [t,u],c3,(jD (Ξ rfl) (fun z h=>by rcases ξ.mp h with rfl | h;exact ot.1;rw [η.mp h];exact ou.1) hab.2 (PzL.cons ot.2 (PzL.cons ou.2 PzL.nil))).z (by omega),tl (aS false (aX 13 (dH q (by decide)) (aX 0 (ht) (aX 0 (hu) aZ))) (by kernel_rfl))⟩
section
variable {W:List ι} {ns:List Int} {b0 od:Int} {st:List O}
def bT (W:List ι) (ns:List Int) (b0 od:Int) (st:List O) (r:Int) (q M:Nat) (Z:Int):Prop:=∀ (want:Kd) (N:Al) (i c:Int),want.ok→Nk W N→0≤i→∃ (t:T68) (i' c':Int),0≤i'∧aB b0 c c' Z W q N want t∧ae Γ M kL [.ref 0,want.toD,dA N,.int r] (dS ns i b0 W od st c) = .ok t.toD (dS ns i' b0 W od st c')
theorem wy (c:Int):∃ s:Sg,s.kd = .whole∧ixD (.str "+-*+") (.int (c % 4))=some (.str s.str):=by
 have h:=Co (c)
 rcases h with h | h | h | h <;> rw [h]
 ·exact ⟨.add,rfl,by kernel_rfl⟩
 ·exact ⟨.sub,rfl,by kernel_rfl⟩
 ·exact ⟨.mul,rfl,by kernel_rfl⟩
 ·exact ⟨.add,rfl,by kernel_rfl⟩
theorem Bm (c:Int):∃ s:Sg,s.kd = .truth∧ixD (.str "<=") (.int (c % 2))=some (.str s.str):=by
 have h:=AW (c)
 rcases h with h | h <;> rw [h]
 ·exact ⟨.lt,rfl,by kernel_rfl⟩
 ·exact ⟨.eq,rfl,by kernel_rfl⟩
abbrev nE:E:=.call 53 (.cons (.v 1) (.cons (.ix (.v 2) (.c (.int 1))) (.cons (.v 3) (.cons (.op .sub (.v 4) (.c (.int 1))) .nil))))
theorem oB {r Z:Int} {q M:Nat} (hn:bT W ns b0 od st (r - 1) q M Z) (a:Kd) (ha:a.ok) (N:Al) (nk:Nk W N) (tl:List (Option D)):∀ (L:List Int) (acc:List D) (e:Option D) (i c:Int),0≤i→acc.length+L.length<1000→∃ (ts:List T68) (e':Option D) (i' c':Int),0≤i'∧ts.length=L.length∧(∀ t∈ts,Mad W q N a t)∧PzL b0 c c' (L.length * Z) q ts∧bt (lcQ Γ (ae Γ M) (aQ Γ M) [0] true nE (.c (.bl true))) (L.map .int) acc ⟨e :: some (.ref 0) :: some (Kd.row a).toD :: some (dA N) :: some (.int r) :: tl,[],dS ns i b0 W od st c⟩ = .ok (.lst (acc ++ toDs ts)) ⟨e' :: some (.ref 0) :: some (Kd.row a).toD :: some (dA N) :: some (.int r) :: tl,[],dS ns i' b0 W od st c'⟩
 | [],acc,e,i,c,hi,_=>⟨[],e,i,c,hi,rfl,fun t h=>(nomatch h),PzL.nil.z (by simp),by simp [bt,toDs]⟩
 | x :: L,acc,e,i,c,hi,hl=>by
   simp only [Κ] at hl
   obtain ⟨t,i1,c1,h1,ot,ht⟩:=hn a N i c ha nk hi
   have s0:ev Γ (ae Γ M) (aQ Γ M) false nE ⟨some (.int x) :: some (.ref 0) :: some (Kd.row a).toD :: some (dA N) :: some (.int r) :: tl,[],dS ns i b0 W od st c⟩ = .ok t.toD ⟨some (.int x) :: some (.ref 0) :: some (Kd.row a).toD :: some (dA N) :: some (.int r) :: tl,[],dS ns i1 b0 W od st c1⟩:=(pE false (aX 0 (ht) aZ) (by kernel_rfl))
   obtain ⟨ts,e',i2,c2,h2,l2,o2,z2,h3⟩:=oB hn a ha N nk tl L (acc ++ [t.toD]) (some (.int x)) i1 c1 h1 (by rw [φ,ϋ];omega)
   refine ⟨t :: ts,e',i2,c2,h2,by simp [l2],?_,(PzL.cons ot.2 z2).z (by rw [Κ,FL,Int.add_mul];simp;omega),fA (xN rfl s0) (by omega) (by rw [Ç] at h3;exact h3)⟩
   intro u hu
   rcases ξ.mp hu with rfl | hu
   ·exact ot.1
   ·exact o2 u hu
theorem Cp (c:Int):∃ L:List Int,L.length≤4∧(itD .range1 [.int (c % 5)]).map D.lst=some (.lst (L.map .int)):=by
 have h:=AX (c)
 rcases h with h | h | h | h | h <;> rw [h]
 ·exact ⟨[],by decide,by kernel_rfl⟩
 ·exact ⟨[0],by decide,by kernel_rfl⟩
 ·exact ⟨[0,1],by decide,by kernel_rfl⟩
 ·exact ⟨[0,1,2],by decide,by kernel_rfl⟩
 ·exact ⟨[0,1,2,3],by decide,by kernel_rfl⟩
theorem zL (hW:W.length=5) {r Z:Int} {q M:Nat} (hz:0≤Z) (hn:bT W ns b0 od st (r - 1) q (M+2) Z) (want:Kd) (N:Al) (cell i c:Int) (hw:want.ok) (nk:Nk W N) (hi:0≤i):∃ (t:T68) (i' c':Int),0≤i'∧aB b0 c c' (4 * Z+1) W (q+1) N want t∧ae Γ (M+3) jq [.ref 0,want.toD,dA N,.int r,.int cell] (dS ns i b0 W od st c) = .ok t.toD (dS ns i' b0 W od st c'):=by
 have hp:=kY ns i b0 c (.lst (sts W)) (.int od) (M+1) st
 have k5:=nk.few hW
 cases want with
 | whole=>
   by_cases q5:cell % 5=4
   ·obtain ⟨k,hk,hf⟩:=we (cell / 5) (M+1) (dS ns i b0 W od st (c+1))
    obtain ⟨t,i1,c1,h1,ot,ht⟩:=hn (.row k) N i (c+1) (Kd.ok2 (by show 1+k.dep≤2;omega)) nk hi
    exact ⟨.size (pl0 b0 c) t,i1,c1,h1,(vg ot).z (by omega),(aj false (aX 0 (hp) (aX 5 (bJ q5) (aX 0 (hf) (aX 0 (ht) aZ)))) (by kernel_rfl))⟩
   ·obtain ⟨s,hs0,hs⟩:=wy cell
    obtain ⟨t,i1,c1,h1,ot,ht⟩:=hn .whole N i (c+1) (Kd.ok2 (by decide)) nk hi
    obtain ⟨u,i2,c2,h2,ou,hu⟩:=hn .whole N i1 c1 (Kd.ok2 (by decide)) nk h1
    exact ⟨.bin (pl0 b0 c) s t u,i2,c2,h2,(se ot ou hs0).z (by omega),(aj false (aX 0 (hp) (aX 5 (am q5) (aX 5 (hs) (aX 0 (ht) (aX 0 (hu) aZ))))) (by kernel_rfl))⟩
 | truth=>
   obtain ⟨s0,_,hs0⟩:=wy cell
   obtain ⟨s,hs1,hs⟩:=Bm cell
   obtain ⟨t,i1,c1,h1,ot,ht⟩:=hn .whole N i (c+1) (Kd.ok2 (by decide)) nk hi
   obtain ⟨u,i2,c2,h2,ou,hu⟩:=hn .whole N i1 c1 (Kd.ok2 (by decide)) nk h1
   exact ⟨.bin (pl0 b0 c) s t u,i2,c2,h2,(se ot ou hs1).z (by omega),(aj false (aX 0 (hp) (aX 11 (hs0) (aX 4 (hs) (aX 0 (ht) (aX 0 (hu) aZ))))) (by kernel_rfl))⟩
 | pair a b=>
   have hab:a.ok∧b.ok:=by obtain ⟨x,y⟩:=hw;unfold Kd.lN at y;unfold Kd.dep at x;unfold Kd.ok;omega
   obtain ⟨t,i1,c1,h1,ot,ht⟩:=hn a N i (c+1) hab.1 nk hi
   obtain ⟨u,i2,c2,h2,ou,hu⟩:=hn b N i1 c1 hab.2 nk h1
   exact ⟨.pair (pl0 b0 c) t u,i2,c2,h2,(oj ot ou hab.1.1 hab.2.1).z (by omega),(aj false (aX 0 (hp) (aX 0 (ht) (aX 0 (hu) aZ))) (by kernel_rfl))⟩
 | row a=>
   have ha:a.ok:=by obtain ⟨x,y⟩:=hw;unfold Kd.lN at y;unfold Kd.dep at x;exact ⟨by omega,by omega⟩
   obtain ⟨L,l4,hL⟩:=Cp cell
   obtain ⟨ts,e',i1,c1,h1,l1,ots,zts,hlp⟩:=oB hn a ha N nk [some (.int cell),some (.int (pl0 b0 c)),none,none,none,none,none,none] L [] none i (c+1) hi (by simp only [ϯ];omega)
   exact ⟨.row (pl0 b0 c) a ts,i1,c1,h1,(jD (by omega) ots ha.1 zts).z (by have:(L.length:Int) * Z≤4 * Z:=Int.mul_le_mul_of_nonneg_right (by omega) hz;omega),(aj true (aX 0 (hp) (aX 17 (hL) (aX 0 (hlp) aZ))) (by kernel_rfl))⟩
 | to a b=>
   have hab:a.dep≤3∧b.ok:=by obtain ⟨x,y⟩:=hw;unfold Kd.lN at y;unfold Kd.dep at x;unfold Kd.ok;omega
   obtain ⟨x,hx,ix⟩:=oV hW cell
   have hm:=gu N x a (by omega) (M+1) (dS ns i b0 W od st (c+1))
   by_cases g:0<cell / 5 % 3
   ·obtain ⟨t,i1,c1,h1,ot,ht⟩:=hn b (ai N (.inr x) a) i (c+1) hab.2 (nk.put hx hab.1) hi
    exact ⟨.fn (pl0 b0 c) x a t,i1,c1,h1,(wn hx ot hab.1 hab.2.1).z (by omega),(aj false (aX 0 (hp) (aX 15 (ix) (aX 0 (hm) (aX 3 (ZW g) (aX 0 (ht) aZ))))) (by kernel_rfl))⟩
   ·obtain ⟨y,hy,iy⟩:=oV hW (cell / 15)
    have l:=aO N (.inr y) (.to a b)
    have hm2:=gu N y (.to a b) (by omega) (M+1) (dS ns i b0 W od st (c+1))
    have hm3:=gu (ai N (.inr y) (.to a b)) x a (by omega) (M+1) (dS ns i b0 W od st (c+1))
    obtain ⟨t,i1,c1,h1,ot,ht⟩:=hn b (ai (ai N (.inr y) (.to a b)) (.inr x) a) i (c+1) hab.2 ((nk.put hy hw.1).put hx hab.1) hi
    exact ⟨.slf (pl0 b0 c) y x a b t,i1,c1,h1,(yO hy hx ot hab.1 hab.2.1).z (by omega),(aj false (aX 0 (hp) (aX 15 (ix) (aX 0 (hm) (aX 3 (ZV g) (aX 3 (iy) (aX 0 (hm2) (aX 0 (hm3) (aX 0 (ht) aZ)))))))) (by kernel_rfl))⟩
end
theorem l6 {x y:ι} (h:x.cps.toList=y.cps.toList):x=y:=by
 cases x;cases y;congr 1;exact Array.toList_inj.mp h
abbrev abc:D:=.str "abcdefghijklmnopqrstuvwxyz"
theorem Ck:∀ k:Nat,k<26→ixD abc (.int k)=some (.str ⟨#[97+k]⟩)
 | 0,_=>by kernel_rfl
 | 1,_=>by kernel_rfl
 | 2,_=>by kernel_rfl
 | 3,_=>by kernel_rfl
 | 4,_=>by kernel_rfl
 | 5,_=>by kernel_rfl
 | 6,_=>by kernel_rfl
 | 7,_=>by kernel_rfl
 | 8,_=>by kernel_rfl
 | 9,_=>by kernel_rfl
 | 10,_=>by kernel_rfl
 | 11,_=>by kernel_rfl
 | 12,_=>by kernel_rfl
 | 13,_=>by kernel_rfl
 | 14,_=>by kernel_rfl
 | 15,_=>by kernel_rfl
 | 16,_=>by kernel_rfl
 | 17,_=>by kernel_rfl
 | 18,_=>by kernel_rfl
 | 19,_=>by kernel_rfl
 | 20,_=>by kernel_rfl
 | 21,_=>by kernel_rfl
 | 22,_=>by kernel_rfl
 | 23,_=>by kernel_rfl
 | 24,_=>by kernel_rfl
 | 25,_=>by kernel_rfl
 | k+26,h=>ZX h (by omega)
theorem AO {i:Int} (h0:0≤i) (h1:i<26):ixD abc (.int i)=some (.str ⟨#[97+i.toNat]⟩):=by
 obtain ⟨k,rfl⟩:∃ k:Nat,i=k:=⟨i.toNat,by omega⟩
 exact Ck k (by omega)
def wdC (B:List Int) (at_ k:Int) (i:Nat):Nat:=97+(((B[i]?).getD 0+5 * k * (if ((0+(i:Int)) == at_)=true then 1 else 0)) % 26).toNat
abbrev wdR (js:List Nat):List D:=js.map fun (i:Nat)=>D.int (0+i)
abbrev wdI:S:=.set 6 (.op .add (.v 6) (.ix (.v 1) (.op .mod (.op .add (.ix (.v 3) (.v 7)) (.op .mul (.op .mul (.c (.int 5)) (.v 2)) (.bi .int (.cons (.op .eq (.v 7) (.v 4)) .nil)))) (.c (.int 26)))))
section
variable {cal cal1:Nat→List D→List O→Res} {B:List Int} {c at_:Int} {st:List O}
abbrev wdE (c k:Int) (B:List Int) (at_:Int) (ws:List D) (e6 e7:Option D):List (Option D):=[some (.int c),some abc,some (.int k),some (.lst (B.map .int)),some (.int at_),some (.lst ws),e6,e7]
theorem By (k:Int) (ws:List D):∀ (js:List Nat) (x:ι) (e7:Option D),(∀ i∈js,i<B.length)→x.length+js.length≤1000→∃ (y:ι) (e7':Option D),y.cps.toList=x.cps.toList ++ js.map (wdC B at_ k) ∧
 aR (jj Γ cal cal1 [7] true wdI) (wdR js) ⟨wdE c k B at_ ws (some (.str x)) e7,[5,3],st⟩ = .nx ⟨wdE c k B at_ ws (some (.str y)) e7',[5,3],st⟩
 | [],x,e7,_,_=>⟨x,e7,by simp,rfl⟩
 | i :: js,x,e7,h,hl=>by
   simp only [Κ] at hl
   have hi:=h i (ν ..)
   have e1:ixD (.lst (B.map D.int)) (.int (0+(i:Int)))=some (.int B[i]):=by
    rw [Ek]
    refine cn ?_
    rw [Φ,Α hi];rfl
   have e2:opD .mul (.int (5 * k)) (.int (if ((0+(i:Int)) == at_)=true then 1 else 0))=some (.int (5 * k * (if ((0+(i:Int)) == at_)=true then 1 else 0))):=dE (by split <;> decide)
   have hm:=č (B[i]+5 * k * (if ((0+(i:Int)) == at_)=true then 1 else 0)) (b:=26) (by decide)
   have hM:=Ď (B[i]+5 * k * (if ((0+(i:Int)) == at_)=true then 1 else 0)) (b:=26) (by decide)
   have e3:=AO hm hM
   have hc:wdC B at_ k i=97+((B[i]+5 * k * (if ((0+(i:Int)) == at_)=true then 1 else 0)) % 26).toNat:=by unfold wdC;rw [Α hi];rfl
   rw [← hc] at e3
   have ln:(x ++ (⟨#[wdC B at_ k i]⟩:ι)).length=x.length+1:=by rw [CL];rfl
   have e4:opD .add (.str x) (.str ⟨#[wdC B at_ k i]⟩)=some (.str (x ++ ⟨#[wdC B at_ k i]⟩)):=by
    show fb (x.length+1) _=_
    unfold fb;rw [ZZ (by omega)]
   obtain ⟨y,e7',hy,hf⟩:=By k ws js (x ++ ⟨#[wdC B at_ k i]⟩) (some (.int (0+(i:Int)))) (fun j hj=>h j (μ _ hj)) (by rw [ln];omega)
   refine ⟨y,e7',?_,ao (aF rfl (eE false (aX 0 (e1) (aX 3 (e2) (aX 2 (e3) (aX 0 (e4) aZ)))) (by kernel_rfl))) hf⟩
   rw [hy,G4,Ep,Ç];rfl
def Wdk (B:List Int) (at_ k:Int) (z:ι):Prop:=∃ y:ι,y.cps.toList=(ë B.length).map (wdC B at_ k)∧(z=y∨z=y ++ ("x":ι))
abbrev wdB:S:=cY je.body
theorem BA (hB:B.length≤8) (k:Int) (ws:List D) (hws:ws.length≤10) (e6 e7:Option D):∃ (z:ι) (e7':Option D),Wdk B at_ k z∧exS Γ cal cal1 wdB ⟨wdE c k B at_ ws e6 e7,[5,3],st⟩ = .nx ⟨wdE c k B at_ (ws ++ [.str z]) (some (.str z)) e7',[5,3],st⟩:=by
 obtain ⟨y,e7',hy,hf⟩:=By (cal:=cal) (cal1:=cal1) (B:=B) (c:=c) (at_:=at_) (st:=st) k ws (ë B.length) "" e7 (fun i hi=>DB.mp hi) (by rw [Ā];show 0+B.length≤1000;omega)
 have hy:y.cps.toList=(ë B.length).map (wdC B at_ k):=hy
 have yl:y.length=B.length:=by
  have:y.cps.toList.length=B.length:=by rw [hy,Ι,Ā]
  rw [Ĉ] at this;exact this
 have hr:(itD .range1 [.int ((B.map D.int).length:Nat)]).map D.lst=some (.lst (wdR (ë B.length))):=by
  rw [Ι]
  unfold itD xD
  dsimp only
  rw [ZZ ⟨by omega,by omega⟩,Ě];rfl
 have la:decide (ws.length<100000)=true:=ZW (by omega)
 by_cases g1:(y == ("yes":ι))=true
 ·have ax:opD .add (.str y) (.str "x")=some (.str (y ++ ("x":ι))):=by
   show fb (y.length+1) _=_
   unfold fb;rw [ZZ (by omega)]
  exact ⟨y ++ ("x":ι),e7',⟨y,hy,.inr rfl⟩,(eE true (aX 1 (hr) (aX 0 (hf) (aX 1 (g1) (aX 1 (ax) (aX 0 (la) aZ))))) (by kernel_rfl))⟩
 ·have g1:(y == ("yes":ι))=false:=by simpa using g1
  by_cases g2:(y == ("no":ι))=true
  ·have ax:opD .add (.str y) (.str "x")=some (.str (y ++ ("x":ι))):=by
    show fb (y.length+1) _=_
    unfold fb;rw [ZZ (by omega)]
   exact ⟨y ++ ("x":ι),e7',⟨y,hy,.inr rfl⟩,(eE true (aX 1 (hr) (aX 0 (hf) (aX 1 (g1) (aX 1 (g2) (aX 0 (ax) (aX 0 (la) aZ)))))) (by kernel_rfl))⟩
  ·have g2:(y == ("no":ι))=false:=by simpa using g2
   exact ⟨y,e7',⟨y,hy,.inl rfl⟩,(eE true (aX 1 (hr) (aX 0 (hf) (aX 1 (g1) (aX 1 (g2) (aX 0 (la) aZ))))) (by kernel_rfl))⟩
theorem Bz {k j:Int} {x y:ι} (a:Nat) (ha:a<B.length) (e:at_=a) (hk:0≤k∧k≤4) (hj:0≤j∧j≤4) (n:k≠j) (h1:Wdk B at_ k x) (h2:Wdk B at_ j y):x≠y:=by
 obtain ⟨u,hu,h1⟩:=h1
 obtain ⟨v,hv,h2⟩:=h2
 have uv:u≠v:=fun z=>by
  rw [z,hv] at hu
  have:=ZS (fun l=>l[a]?) hu
  simp only [Φ] at this
  rw [List.getElem?_range ha] at this
  have this:wdC B at_ j a=wdC B at_ k a:=by simpa using this
  unfold wdC at this
  rw [e] at this
  have q:((0+(a:Int)) == (a:Int))=true:=bJ (Ek _)
  rw [ZZ q,Α ha] at this
  simp only [ń] at this
  omega
 have ul:u.length=B.length:=by
  have:u.cps.toList.length=B.length:=by rw [hu,Ι,Ā]
  rw [Ĉ] at this;exact this
 have vl:v.length=B.length:=by
  have:v.cps.toList.length=B.length:=by rw [hv,Ι,Ā]
  rw [Ĉ] at this;exact this
 have x1:("x":ι).length=1:=by decide +kernel
 intro z
 rcases h1 with rfl | rfl <;> rcases h2 with rfl | rfl
 ·exact uv z
 ·have:=ZS F2 z;rw [CL] at this;omega
 ·have:=ZS F2 z;rw [CL] at this;omega
 ·refine uv (l6 ?_)
  have:=ZS (fun s:ι=>s.cps.toList) z
  simp only [G4,Ep] at this
  exact List.append_cancel_right this
end
abbrev Bu:E:=.op .mod (.op .add (.op .fdiv (.v 1) (.op .add (.v 0) (.c (.int 1)))) (.op .mul (.v 0) (.v 0))) (.c (.int 26))
def bsW (c:Int) (i:Nat):Int:=(c / (0+(i:Int)+1)+(0+(i:Int)) * (0+(i:Int))) % 26
theorem Bv (c:Int) (n:Nat) (tl:List (Option D)) (S:List O):∀ (js:List Nat) (acc:List D) (e:Option D),(∀ i∈js,i<100)→acc.length+js.length<1000→∃ e':Option D,bt (lcQ Γ (ae Γ n) (aQ Γ n) [0] true Bu (.c (.bl true))) (wdR js) acc ⟨e :: some (.int c) :: tl,[],S⟩ = .ok (.lst (acc ++ (js.map (bsW c)).map .int)) ⟨e' :: some (.int c) :: tl,[],S⟩
 | [],acc,e,_,_=>⟨e,by simp [bt]⟩
 | i :: js,acc,e,h,hl=>by
   simp only [Κ] at hl
   have hi:=h i (ν ..)
   have e1:opD .fdiv (.int c) (.int (0+(i:Int)+1))=some (.int (c / (0+(i:Int)+1))):=by
    show (if _ then _ else _)=_
    rw [ZZ ⟨by omega,by omega⟩]
   have e2:opD .mul (.int (0+(i:Int))) (.int (0+(i:Int)))=some (.int ((0+(i:Int)) * (0+(i:Int)))):=dE ⟨by omega,by omega⟩
   have s0:ev Γ (ae Γ n) (aQ Γ n) false Bu ⟨some (.int (0+(i:Int))) :: some (.int c) :: tl,[],S⟩ = .ok (.int (bsW c i)) ⟨some (.int (0+(i:Int))) :: some (.int c) :: tl,[],S⟩:=(pE false (aX 1 (e1) (aX 0 (e2) aZ)) (by kernel_rfl))
   obtain ⟨e',h3⟩:=Bv c n tl S js (acc ++ [.int (bsW c i)]) (some (.int (0+(i:Int)))) (fun j hj=>h j (μ _ hj)) (by rw [φ,ϋ];omega)
   exact ⟨e',fA (mx rfl rfl s0) (by omega) (by rw [Ç] at h3;exact h3)⟩
theorem BB (c:Int) (n:Nat) (S:List O):∃ W:List ι,W.length=5∧W.Nodup∧ae Γ (n+1) jt [.int c] S = .ok (.lst (sts W)) S:=by
 obtain ⟨L,hL⟩:∃ L:Nat,1+c % 8=L:=⟨(1+c % 8).toNat,by omega⟩
 have hr:(itD .range1 [.int (1+c % 8)]).map D.lst=some (.lst (wdR (ë L))):=by
  rw [hL]
  unfold itD xD
  dsimp only
  rw [ZZ ⟨by omega,by omega⟩,Ě];rfl
 obtain ⟨e',hb⟩:=Bv c n [some abc,none,none,none,none,none,none] S (ë L) [] none (fun i hi=>by have:=DB.mp hi;omega) (by rw [Ā];show 0+L<1000;omega)
 have hBl:((ë L).map (bsW c)).length=L:=by rw [Ι,Ā]
 generalize hB:(ë L).map (bsW c)=B at hb hBl
 obtain ⟨a,hA⟩:∃ a:Nat,c / 8 % (L:Nat)=a:=⟨(c / 8 % (L:Nat)).toNat,by have:=č (c / 8) (b:=(L:Nat)) (by omega);omega⟩
 have al:a<L:=by have:=Ď (c / 8) (b:=(L:Nat)) (by omega);omega
 have ha:opD .mod (.int (c / 8)) (.int ((B.map D.int).length:Nat))=some (.int (a:Nat)):=by
  rw [Ι,hBl]
  show (if 0<((L:Nat):Int) then some (D.int ((c / 8) % (L:Nat))) else none)=_
  rw [ZZ (by omega),hA]
 have wd:=fun (k:Int) (ws:List D) (hws:ws.length≤10) (e6 e7:Option D)=>BA (cal:=ae Γ n) (cal1:=aQ Γ n) (B:=B) (c:=c) (at_:=(a:Nat)) (st:=S) (by omega) k ws hws e6 e7
 obtain ⟨w0,f0,d0,h0⟩:=wd 0 [] (by decide) none none
 obtain ⟨w1,f1,d1,h1⟩:=wd 1 [.str w0] (by decide:1≤10) (some (.str w0)) f0
 obtain ⟨w2,f2,d2,h2⟩:=wd 2 [.str w0,.str w1] (by decide:2≤10) (some (.str w1)) f1
 obtain ⟨w3,f3,d3,h3⟩:=wd 3 [.str w0,.str w1,.str w2] (by decide:3≤10) (some (.str w2)) f2
 obtain ⟨w4,f4,d4,h4⟩:=wd 4 [.str w0,.str w1,.str w2,.str w3] (by decide:4≤10) (some (.str w3)) f3
 have ne:=fun {k j:Int} {x y:ι} (hk:0≤k∧k≤4) (hj:0≤j∧j≤4) (q:k≠j) (h1:Wdk B (a:Nat) k x) (h2:Wdk B (a:Nat) j y)=>Bz a (by omega) rfl hk hj q h1 h2
 have hf:aR (jj Γ (ae Γ n) (aQ Γ n) [2] true wdB) [.int 0,.int 1,.int 2,.int 3,.int 4] ⟨[some (.int c),some abc,none,some (.lst (B.map .int)),some (.int (a:Nat)),some (.lst []),none,none],[5,3],S⟩ = .nx ⟨wdE c 4 B (a:Nat) [.str w0,.str w1,.str w2,.str w3,.str w4] (some (.str w4)) f4,[5,3],S⟩:=
  ao (aF rfl h0) (ao (aF rfl h1) (ao (aF rfl h2) (ao (aF rfl h3) (ao (aF rfl h4) rfl))))
 refine ⟨[w0,w1,w2,w3,w4],rfl,?_,(aj true (aX 2 (hr) (aX 0 (hb) (aX 2 (ha) (aX 0 (hf) aZ)))) (by kernel_rfl))⟩
 have n01:=ne (by decide) (by decide) (by decide) d0 d1
 have n02:=ne (by decide) (by decide) (by decide) d0 d2
 have n03:=ne (by decide) (by decide) (by decide) d0 d3
 have n04:=ne (by decide) (by decide) (by decide) d0 d4
 have n12:=ne (by decide) (by decide) (by decide) d1 d2
 have n13:=ne (by decide) (by decide) (by decide) d1 d3
 have n14:=ne (by decide) (by decide) (by decide) d1 d4
 have n23:=ne (by decide) (by decide) (by decide) d2 d3
 have n24:=ne (by decide) (by decide) (by decide) d2 d4
 have n34:=ne (by decide) (by decide) (by decide) d3 d4
 simp [n01,n02,n03,n04,n12,n13,n14,n23,n24,n34]
theorem Ct {W:List ι} (hW:W.length=5) (nd:W.Nodup) (c:Int):∃ f x,f∈W∧x∈W∧f≠x∧ixD (.lst (sts W)) (.int (c % 5))=some (.str f)∧ixD (.lst (sts W)) (.int ((c+1+c / 5 % 4) % 5))=some (.str x):=by
 obtain ⟨i,hi,i5⟩:=dZ (c:=c) (n:=5) (by decide)
 obtain ⟨j,hj,j5⟩:=dZ (c:=c+1+c / 5 % 4) (n:=5) (by decide)
 have at_:∀ k:Nat,(h:k<W.length)→ixD (.lst (sts W)) (.int (k:Int))=some (.str W[k]):=fun k h=>by
  refine cn ?_
  unfold sts
  rw [Φ,Α h];rfl
 refine ⟨W[i]'(by omega),W[j]'(by omega),ï _,ï _,fun e=>?_,by rw [hi];exact at_ i (by omega),by rw [hj];exact at_ j (by omega)⟩
 have:=(Fl nd).mp e
 omega
section
variable {W:List ι} {ns:List Int} {b0 od:Int} {st:List O}
theorem oh {N:Al} {x:ι} {k:Kd}:x∈nmA (ai N (.inr x) k):=by
 unfold ai nmA
 split
 ·rename_i c
  obtain ⟨p,hp,e⟩:=Ą.mp c
  have e:=of_decide_eq_true e
  exact ϳ.mpr ⟨(p.1,k),Ϩ.mpr ⟨p,hp,by rw [ZZ e]⟩,by simp [e]⟩
 ·exact ϳ.mpr ⟨(.inr x,k),by simp,rfl⟩
theorem rY {N:Al} {x y:ι} {k:Kd} (h:y∈nmA N):y∈nmA (ai N (.inr x) k):=by
 obtain ⟨p,hp,e⟩:=ϳ.mp h
 unfold ai nmA
 split
 ·refine ϳ.mpr ⟨if p.1 = .inr x then (p.1,k) else p,Ϩ.mpr ⟨p,hp,rfl⟩,?_⟩
  by_cases c:p.1 = .inr x
  ·rw [ZZ c];exact e
  ·rw [ZY c];exact e
 ·exact ϳ.mpr ⟨p,by simp [hp],e⟩
section
variable {q:Nat} {y p:Int} {a b d:T68}
theorem i7 {t:T68} (l:List T68) (q:Nat) (y:Int):((ah (q+1) t).count y:Int)=(if t.pl=y then 1 else 0)+((((ak t).flatMap (ah q)).count y:Nat):Int):=by
 show (((t.pl :: (ak t).flatMap (ah q)).count y:Nat):Int)=_
 rw [FA]
 by_cases k:t.pl=y
 ·rw [ZZ k,ZZ (by simpa using k)];omega
 ·rw [ZY k,ZY (by simpa using k)];omega
theorem c0 {t:T68} (h:ak t = []):((ah (q+1) t).count y:Int)=(if t.pl=y then 1 else 0):=by rw [i7 [] q y,h];simp
theorem c1 {t:T68} (h:ak t = [a]):((ah (q+1) t).count y:Int)=(if t.pl=y then 1 else 0)+((ah q a).count y:Int):=by rw [i7 [] q y,h];simp
theorem c2 {t:T68} (h:ak t = [a,b]):((ah (q+1) t).count y:Int)=(if t.pl=y then 1 else 0)+((ah q a).count y:Int)+((ah q b).count y:Int):=by rw [i7 [] q y,h];simp;omega
theorem c3 {t:T68} (h:ak t = [a,b,d]):((ah (q+1) t).count y:Int)=(if t.pl=y then 1 else 0)+((ah q a).count y:Int)+((ah q b).count y:Int)+((ah q d).count y:Int):=by rw [i7 [] q y,h];simp;omega
theorem m8 {v:Int}:((ah (q+1) (.whole p v)).count y:Int)=(if p=y then 1 else 0):=c0 rfl
theorem qD {x:ι}:((ah (q+1) (.name p x)).count y:Int)=(if p=y then 1 else 0):=c0 rfl
theorem Ad {k:Kd}:((ah (q+1) (.as_ p k a)).count y:Int)=(if p=y then 1 else 0)+((ah q a).count y:Int):=c1 rfl
theorem v8 {f x:ι} {k g:Kd}:((ah (q+1) (.slf p f x k g a)).count y:Int)=(if p=y then 1 else 0)+((ah q a).count y:Int):=c1 rfl
theorem vY {o:Sg}:((ah (q+1) (.bin p o a b)).count y:Int)=(if p=y then 1 else 0)+((ah q a).count y:Int)+((ah q b).count y:Int):=c2 rfl
theorem qC:((ah (q+1) (.call p a b)).count y:Int)=(if p=y then 1 else 0)+((ah q a).count y:Int)+((ah q b).count y:Int):=c2 rfl
theorem vZ:((ah (q+1) (.iff p a b d)).count y:Int)=(if p=y then 1 else 0)+((ah q a).count y:Int)+((ah q b).count y:Int)+((ah q d).count y:Int):=c3 rfl
end
theorem AQ {b0 c c1 Z v:Int} {q:Nat} {t:T68} {f x:ι} {k g:Kd} (h:Pz b0 (c+1+1+1+1+1+1+1+1+1+1) c1 Z (q+3) t):Pz b0 c (c1+1+1) (Z+14) (q+6) (.call (pl0 b0 c) (.slf (pl0 b0 c1) f x k g (.iff (pl0 b0 (c+1+1+1+1+1+1+1+1+1)) (.bin (pl0 b0 (c+1)) .lt (.name (pl0 b0 (c+1+1)) x) (.whole (pl0 b0 (c+1+1+1)) 1)) t (.call (pl0 b0 (c+1+1+1+1+1+1+1)) (.name (pl0 b0 (c+1+1+1+1+1+1+1+1)) f) (.bin (pl0 b0 (c+1+1+1+1)) .sub (.name (pl0 b0 (c+1+1+1+1+1)) x) (.whole (pl0 b0 (c+1+1+1+1+1+1)) 1))))) (.whole (pl0 b0 (c1+1)) v)):=by
 refine ⟨fun y=>?_,by have:=h.2;omega,by have:=h.2;omega⟩
 have h1:=h.1 y
 have g0:=az b0 y (c)
 have g1:=az b0 y (c+1)
 have g2:=az b0 y (c+1+1)
 have g3:=az b0 y (c+1+1+1)
 have g4:=az b0 y (c+1+1+1+1)
 have g5:=az b0 y (c+1+1+1+1+1)
 have g6:=az b0 y (c+1+1+1+1+1+1)
 have g7:=az b0 y (c+1+1+1+1+1+1+1)
 have g8:=az b0 y (c+1+1+1+1+1+1+1+1)
 have g9:=az b0 y (c+1+1+1+1+1+1+1+1+1)
 have l1:=az b0 y c1
 have l2:=az b0 y (c1+1)
 unfold ind at *
 simp only [qC,v8,vZ,vY,qD,m8,Ad]
 omega
theorem AP {b0 c c1 Z v:Int} {q:Nat} {t:T68} {f x:ι} {k g w w2:Kd} (h:Pz b0 (c+1+1+1+1+1+1+1+1+1+1+1+1) c1 Z (q+5) t):Pz b0 c (c1+1+1) (Z+14) (q+8) (.call (pl0 b0 c) (.slf (pl0 b0 c1) f x k g (.iff (pl0 b0 (c+1+1+1+1+1+1+1+1+1+1+1)) (.bin (pl0 b0 (c+1)) .lt (.name (pl0 b0 (c+1+1)) x) (.whole (pl0 b0 (c+1+1+1)) 1)) t (.as_ (pl0 b0 (c+1+1+1+1+1+1+1+1+1)) w (.as_ (pl0 b0 (c+1+1+1+1+1+1+1+1+1+1)) w2 (.call (pl0 b0 (c+1+1+1+1+1+1+1)) (.name (pl0 b0 (c+1+1+1+1+1+1+1+1)) f) (.bin (pl0 b0 (c+1+1+1+1)) .sub (.name (pl0 b0 (c+1+1+1+1+1)) x) (.whole (pl0 b0 (c+1+1+1+1+1+1)) 1))))))) (.whole (pl0 b0 (c1+1)) v)):=by
 refine ⟨fun y=>?_,by have:=h.2;omega,by have:=h.2;omega⟩
 have h1:=h.1 y
 have g0:=az b0 y (c)
 have g1:=az b0 y (c+1)
 have g2:=az b0 y (c+1+1)
 have g3:=az b0 y (c+1+1+1)
 have g4:=az b0 y (c+1+1+1+1)
 have g5:=az b0 y (c+1+1+1+1+1)
 have g6:=az b0 y (c+1+1+1+1+1+1)
 have g7:=az b0 y (c+1+1+1+1+1+1+1)
 have g8:=az b0 y (c+1+1+1+1+1+1+1+1)
 have g9:=az b0 y (c+1+1+1+1+1+1+1+1+1)
 have g10:=az b0 y (c+1+1+1+1+1+1+1+1+1+1)
 have g11:=az b0 y (c+1+1+1+1+1+1+1+1+1+1+1)
 have l1:=az b0 y c1
 have l2:=az b0 y (c1+1)
 unfold ind at *
 simp only [qC,v8,vZ,vY,qD,m8,Ad]
 omega
theorem uO (hW:W.length=5) (nd:W.Nodup) {r Z:Int} {p M:Nat} (hn:bT W ns b0 od st (r - 3) p (M+2) Z) (p3:3≤p) (p5:7<r→5≤p) (want:Kd) (N:Al) (cell i c:Int) (hw:want.dep=1) (nk:Nk W N) (hi:0≤i):∃ (t:T68) (i' c':Int),0≤i'∧aB b0 c c' (Z+14) W (p+3) N want t∧ae Γ (M+3) kI [.ref 0,want.toD,dA N,.int r,.int cell] (dS ns i b0 W od st c) = .ok t.toD (dS ns i' b0 W od st c'):=by
 have hp:=fun i c=>kY ns i b0 c (.lst (sts W)) (.int od) (M+1) st
 have sp:=fun c=>sm0 b0 c
 have k5:=nk.few hW
 obtain ⟨f,x,hf,hx,fx,jf,jx⟩:=Ct hW nd cell
 have l:=aO N (.inr f) (.to .whole want)
 have m1:=gu N f (.to .whole want) (by omega) (M+1) (dS ns i b0 W od st c)
 have m2:=gu (ai N (.inr f) (.to .whole want)) x .whole (by omega) (M+1) (dS ns i b0 W od st c)
 have nk2:Nk W (ai (ai N (.inr f) (.to .whole want)) (.inr x) .whole):=(nk.put hf (by show 1+max 1 want.dep≤3;omega)).put hx (by decide)
 have gx:aP (ai (ai N (.inr f) (.to .whole want)) (.inr x) .whole) (.inr x)=some .whole:=by rw [b6,ZZ rfl]
 have gf:aP (ai (ai N (.inr f) (.to .whole want)) (.inr x) .whole) (.inr f)=some (.to .whole want):=by rw [b6,ZY (fun e=>fx (ĝ e).symm),b6,ZZ rfl]
 have nx:x∈nmA (ai (ai N (.inr f) (.to .whole want)) (.inr x) .whole):=oh
 have nf:f∈nmA (ai (ai N (.inr f) (.to .whole want)) (.inr x) .whole):=rY oh
 generalize hN2:ai (ai N (.inr f) (.to .whole want)) (.inr x) .whole=N2 at *
 have nmx:∀ {q:Nat} {p:Int},Sm p→Mad W (q+1) N2 .whole (.name p x):=fun s=>jC s nx gx (by decide)
 have lit:∀ {q:Nat} {p:Int} {N:Al} {v:Int},Sm p→v.natAbs<10 ^ 40→Mad W (q+1) N .whole (.whole p v):=fun s h=>kT s h
 have osm:∀ Q,Mad W (Q+2) N2 .truth (.bin (pl0 b0 (c+1)) .lt (.name (pl0 b0 (c+1+1)) x) (.whole (pl0 b0 (c+1+1+1)) 1)):=fun Q=>mF (sp _) (nmx (sp _)) (lit (sp _) (by decide)) rfl
 have ole:∀ Q,Mad W (Q+2) N2 .whole (.bin (pl0 b0 (c+1+1+1+1)) .sub (.name (pl0 b0 (c+1+1+1+1+1)) x) (.whole (pl0 b0 (c+1+1+1+1+1+1)) 1)):=fun Q=>mF (sp _) (nmx (sp _)) (lit (sp _) (by decide)) rfl
 have oag:∀ Q,Mad W (Q+3) N2 want (.call (pl0 b0 (c+1+1+1+1+1+1+1)) (.name (pl0 b0 (c+1+1+1+1+1+1+1+1)) f) (.bin (pl0 b0 (c+1+1+1+1)) .sub (.name (pl0 b0 (c+1+1+1+1+1)) x) (.whole (pl0 b0 (c+1+1+1+1+1+1)) 1))):=fun Q=>jB (sp _) (jC (sp _) nf gf (by show 1+max 1 want.dep≤4;omega)) (ole Q) (by omega)
 have fin:∀ (fk:T68) (p1 p2 p3:Int),Sm p1→Sm p2→Sm p3→Mad W (p+1) N2 want fk→Mad W (p+3) N want (.call p1 (.slf p2 f x .whole want fk) (.whole p3 (cell / 160 % 9))):=fun fk p1 p2 p3 s1 s2 s3 h=>by
  rw [← hN2] at h
  exact jB s1 (r9 s2 hf hx h (by decide) (by omega)) (lit s3 (by omega)) (by omega)
 have wok:want.ok:=Kd.ok2 (by omega)
 by_cases g:cell / 80 % 2=1∧7<r
 ·obtain ⟨g1,g2⟩:=g
  obtain ⟨t,i1,c1,h1,ot,ht⟩:=hn want N2 i (c+1+1+1+1+1+1+1+1+1+1+1+1) wok nk2 hi
  obtain ⟨Q,rfl⟩:∃ Q,p=Q+5:=⟨p - 5,by have:=p5 g2;omega⟩
  refine ⟨_,i1,c1+1+1,h1,⟨fin _ _ _ _ (sp c) (sp c1) (sp (c1+1)) (mG (sp (c+1+1+1+1+1+1+1+1+1+1+1)) (osm _) ot.1 (rZ (w:=want) (sp (c+1+1+1+1+1+1+1+1+1)) (rZ (w:=want) (sp (c+1+1+1+1+1+1+1+1+1+1)) (oag Q) (by omega)) (by omega)) (by omega)),AP ot.2⟩,?_⟩
  exact (aj false (aX 2 (jf) (aX 6 (jx) (aX 0 (m1) (aX 0 (m2) (aX 0 (hp i c) (aX 0 (hp i (c+1)) (aX 0 (hp i (c+1+1)) (aX 0 (hp i (c+1+1+1)) (aX 0 (hp i (c+1+1+1+1)) (aX 0 (hp i (c+1+1+1+1+1)) (aX 0 (hp i (c+1+1+1+1+1+1)) (aX 0 (hp i (c+1+1+1+1+1+1+1)) (aX 0 (hp i (c+1+1+1+1+1+1+1+1)) (aX 3 (bJ g1) (aX 1 (ZW g2) (aX 0 (hp i (c+1+1+1+1+1+1+1+1+1)) (aX 0 (hp i (c+1+1+1+1+1+1+1+1+1+1)) (aX 0 (hp i (c+1+1+1+1+1+1+1+1+1+1+1)) (aX 0 (ht) (aX 0 (hp i1 c1) (aX 0 (hp i1 (c1+1)) aZ))))))))))))))))))))) (by kernel_rfl))
 ·obtain ⟨t,i1,c1,h1,ot,ht⟩:=hn want N2 i (c+1+1+1+1+1+1+1+1+1+1) wok nk2 hi
  obtain ⟨Q,rfl⟩:∃ Q,p=Q+3:=⟨p - 3,by omega⟩
  refine ⟨_,i1,c1+1+1,h1,⟨fin _ _ _ _ (sp c) (sp c1) (sp (c1+1)) (mG (sp (c+1+1+1+1+1+1+1+1+1)) (osm _) ot.1 (oag Q) (by omega)),AQ ot.2⟩,?_⟩
  by_cases g1:cell / 80 % 2=1
  ·have g2:decide (7<r)=false:=ZV fun h=>g ⟨g1,h⟩
   exact (aj false (aX 2 (jf) (aX 6 (jx) (aX 0 (m1) (aX 0 (m2) (aX 0 (hp i c) (aX 0 (hp i (c+1)) (aX 0 (hp i (c+1+1)) (aX 0 (hp i (c+1+1+1)) (aX 0 (hp i (c+1+1+1+1)) (aX 0 (hp i (c+1+1+1+1+1)) (aX 0 (hp i (c+1+1+1+1+1+1)) (aX 0 (hp i (c+1+1+1+1+1+1+1)) (aX 0 (hp i (c+1+1+1+1+1+1+1+1)) (aX 3 (bJ g1) (aX 1 (g2) (aX 0 (hp i (c+1+1+1+1+1+1+1+1+1)) (aX 0 (ht) (aX 0 (hp i1 c1) (aX 0 (hp i1 (c1+1)) aZ))))))))))))))))))) (by kernel_rfl))
  ·exact (aj false (aX 2 (jf) (aX 6 (jx) (aX 0 (m1) (aX 0 (m2) (aX 0 (hp i c) (aX 0 (hp i (c+1)) (aX 0 (hp i (c+1+1)) (aX 0 (hp i (c+1+1+1)) (aX 0 (hp i (c+1+1+1+1)) (aX 0 (hp i (c+1+1+1+1+1)) (aX 0 (hp i (c+1+1+1+1+1+1)) (aX 0 (hp i (c+1+1+1+1+1+1+1)) (aX 0 (hp i (c+1+1+1+1+1+1+1+1)) (aX 3 (am g1) (aX 0 (hp i (c+1+1+1+1+1+1+1+1+1)) (aX 0 (ht) (aX 0 (hp i1 c1) (aX 0 (hp i1 (c1+1)) aZ)))))))))))))))))) (by kernel_rfl))
end
section
variable {W:List ι} {ns:List Int} {b0 od:Int} {st:List O}
theorem Cj (k:Kd) (S:List O):∃ l:Int,biD .len [look S k.toD]=some (.int l)∧(l=1→k.dep=1):=by
 cases k <;> first | exact ⟨1,rfl,fun _=>rfl⟩ | exact ⟨2,rfl,fun h=>ZX h (by decide)⟩ | exact ⟨3,rfl,fun h=>ZX h (by decide)⟩
abbrev nS (want:Kd) (N:Al) (r x:Int) (tl:List (Option D)):List (Option D):=some (.ref 0) :: some want.toD :: some (dA N) :: some (.int r) :: some (.int x) :: tl
theorem pS (hW:W.length=5) (nd:W.Nodup) {r Z:Int} {p M:Nat} (hz:7≤Z) (hr:5≤r) (h1:∀ m,M+2≤m→bT W ns b0 od st (r - 1) (p+2) m Z) (h3:5<r→3≤p∧(7<r→5≤p)∧bT W ns b0 od st (r - 3) p (M+2) Z) (hM:2≤M) (want:Kd) (N:Al) (x i c:Int) (hx:pb x) (hw:want.ok) (nk:Nk W N) (hi:0≤i):∃ (t:T68) (i' c':Int),0≤i'∧aB b0 c c' (4 * Z+16) W (p+3) N want t∧toR (exS Γ (ae Γ (M+3)) (aQ Γ (M+3)) (tlS 0 bU.body) ⟨nS want N r x [none,none,none,none,none,none],[],dS ns i b0 W od st c⟩) = .ok t.toD (dS ns i' b0 W od st c'):=by
 have n1:=h1 (M+3) (by omega)
 have hp:=fun c=>kY ns i b0 c (.lst (sts W)) (.int od) (M+2) st
 have k5:=nk.few hW
 obtain ⟨x0,x1⟩:=hx
 have b3:decide (r<5)=false:=ZV (by omega)
 by_cases t3:x % 13=3
 ·obtain ⟨t,c1,ot,ht⟩:=yf hW ns i b0 od st 3 want hw.2 hw.1 N (x / 13) c (M+3) nk ⟨by omega,by omega⟩ (by omega)
  exact ⟨t,i,c1,hi,(ot.up (by omega)).z (by show (7:Int)≤_;omega),(aS false (aX 1 (b3) (aX 2 (bJ t3) (aX 0 (ht) aZ))) (by kernel_rfl))⟩
 by_cases t2:x % 13=2
 ·obtain ⟨t,i1,c1,hi1,ot,ht⟩:=n1 want N i (c+1) hw nk hi
  exact ⟨.as_ (pl0 b0 c) want t,i1,c1,hi1,(AY ot (by have:=hw.1;omega)).z (by omega),(aS false (aX 1 (b3) (aX 2 (am t3) (aX 2 (bJ t2) (aX 0 (hp c) (aX 0 (ht) aZ))))) (by kernel_rfl))⟩
 obtain ⟨f,hf,jf⟩:=oV hW (x / 117)
 by_cases w3:x / 13 % 9=3
 ·obtain ⟨k,hk,hkk⟩:=rA (x / 117 / 5) (M+2) (dS ns i b0 W od st (c+1))
  obtain ⟨t,i1,c1,hi1,ot,ht⟩:=n1 k N i (c+1) (Kd.ok2 hk) nk hi
  have m1:=gu N f k (by omega) (M+2) (dS ns i1 b0 W od st c1)
  obtain ⟨u,i2,c2,hi2,ou,hu⟩:=n1 want (ai N (.inr f) k) i1 c1 hw (nk.put hf (by omega)) hi1
  exact ⟨.lt (pl0 b0 c) f t u,i2,c2,hi2,(yM hf ot ou (by have:=hw.1;omega)).z (by omega),(aS false (aX 1 (b3) (aX 2 (am t3) (aX 2 (am t2) (aX 0 (hp c) (aX 2 (jf) (aX 1 (bJ w3) (aX 0 (hkk) (aX 0 (ht) (aX 0 (m1) (aX 0 (hu) aZ)))))))))) (by kernel_rfl))⟩
 by_cases w4:x / 13 % 9=4
 ·obtain ⟨v,i0,c0,hi0,ov,hv⟩:=n1 .truth N i (c+1) (Kd.ok2 (by decide)) nk hi
  obtain ⟨t,i1,c1,hi1,ot,ht⟩:=n1 want N i0 c0 hw nk hi0
  obtain ⟨u,i2,c2,hi2,ou,hu⟩:=n1 want N i1 c1 hw nk hi1
  exact ⟨.iff (pl0 b0 c) v t u,i2,c2,hi2,(yL ov ot ou (by have:=hw.1;omega)).z (by omega),(aS false (aX 1 (b3) (aX 2 (am t3) (aX 2 (am t2) (aX 0 (hp c) (aX 2 (jf) (aX 1 (am w3) (aX 1 (bJ w4) (aX 0 (hv) (aX 0 (ht) (aX 0 (hu) aZ)))))))))) (by kernel_rfl))⟩
 obtain ⟨l,hl,l1⟩:=Cj want (dS ns i b0 W od st (c+1))
 have bu:=zL hW (by omega) (h1 (M+2) (ω _)) want N (x / 117) i (c+1) hw nk hi
 by_cases d1:l=1
 ·have wd:=l1 d1
  by_cases w5:x / 13 % 9=5
  ·obtain ⟨k,hk,hkk⟩:=rA (x / 117) (M+2) (dS ns i b0 W od st (c+1))
   obtain ⟨t,i1,c1,hi1,ot,ht⟩:=n1 (.to k want) N i (c+1) ⟨by show 1+max k.dep want.dep≤3;omega,by have:=Kd.lN_le want;show 1+want.lN≤3;omega⟩ nk hi
   obtain ⟨u,i2,c2,hi2,ou,hu⟩:=n1 k N i1 c1 (Kd.ok2 hk) nk hi1
   exact ⟨.call (pl0 b0 c) t u,i2,c2,hi2,(ve ot ou (by omega)).z (by omega),(aS false (aX 1 (b3) (aX 2 (am t3) (aX 2 (am t2) (aX 0 (hp c) (aX 2 (jf) (aX 1 (am w3) (aX 1 (am w4) (aX 1 (bJ w5) (aX 0 (hl) (aX 1 (bJ d1) (aX 0 (hkk) (aX 0 (ht) (aX 0 (hu) aZ))))))))))))) (by kernel_rfl))⟩
  by_cases w6:x / 13 % 9=6
  ·by_cases g0:x / 117 % 3=0
   ·obtain ⟨t,i1,c1,hi1,ot,ht⟩:=n1 (.row want) N i (c+1) (Kd.ok2 (by show 1+want.dep≤2;omega)) nk hi
    have hq:=kY ns i1 b0 c1 (.lst (sts W)) (.int od) (M+2) st
    exact ⟨.att (pl0 b0 c) t (.whole (pl0 b0 c1) (x / 117 / 3 % 4)),i1,c1+1,hi1,(yK ot (kU (by omega)) (by omega)).z (by omega),(aS false (aX 1 (b3) (aX 2 (am t3) (aX 2 (am t2) (aX 0 (hp c) (aX 2 (jf) (aX 1 (am w3) (aX 1 (am w4) (aX 1 (am w5) (aX 2 (bJ w6) (aX 0 (hl) (aX 1 (bJ d1) (aX 2 (bJ g0) (aX 0 (ht) (aX 0 (hq) aZ)))))))))))))) (by kernel_rfl))⟩
   ·obtain ⟨k,hk,hkk⟩:=we (x / 117 / 3) (M+2) (dS ns i b0 W od st (c+1))
    by_cases g1:x / 117 % 3=1
    ·obtain ⟨t,i1,c1,hi1,ot,ht⟩:=n1 (.pair want k) N i (c+1) (Kd.ok2 (by show 1+max want.dep k.dep≤2;omega)) nk hi
     exact ⟨.one (pl0 b0 c) t,i1,c1,hi1,(yN ot (by omega)).z (by omega),(aS false (aX 1 (b3) (aX 2 (am t3) (aX 2 (am t2) (aX 0 (hp c) (aX 2 (jf) (aX 1 (am w3) (aX 1 (am w4) (aX 1 (am w5) (aX 2 (bJ w6) (aX 0 (hl) (aX 1 (bJ d1) (aX 2 (am g0) (aX 2 (bJ g1) (aX 0 (hkk) (aX 0 (ht) aZ))))))))))))))) (by kernel_rfl))⟩
    ·obtain ⟨t,i1,c1,hi1,ot,ht⟩:=n1 (.pair k want) N i (c+1) (Kd.ok2 (by show 1+max k.dep want.dep≤2;omega)) nk hi
     exact ⟨.two (pl0 b0 c) t,i1,c1,hi1,(yP ot (by omega)).z (by omega),(aS false (aX 1 (b3) (aX 2 (am t3) (aX 2 (am t2) (aX 0 (hp c) (aX 2 (jf) (aX 1 (am w3) (aX 1 (am w4) (aX 1 (am w5) (aX 2 (bJ w6) (aX 0 (hl) (aX 1 (bJ d1) (aX 2 (am g0) (aX 2 (am g1) (aX 0 (hkk) (aX 0 (ht) aZ))))))))))))))) (by kernel_rfl))⟩
  by_cases w7:x / 13 % 9=7
  ·by_cases r5:5<r
   ·obtain ⟨p3,p5,n3⟩:=h3 r5
    obtain ⟨t,i1,c1,hi1,ot,ht⟩:=uO hW nd n3 p3 p5 want N (x / 117) i (c+1) wd nk hi
    exact ⟨t,i1,c1,hi1,ot.skip.z (by omega),(aS false (aX 1 (b3) (aX 2 (am t3) (aX 2 (am t2) (aX 0 (hp c) (aX 2 (jf) (aX 1 (am w3) (aX 1 (am w4) (aX 1 (am w5) (aX 2 (am w6) (aX 2 (bJ w7) (aX 0 (hl) (aX 1 (bJ d1) (aX 1 (ZW r5) (aX 0 (ht) aZ)))))))))))))) (by kernel_rfl))⟩
   ·obtain ⟨t,i1,c1,hi1,ot,ht⟩:=bu
    exact ⟨t,i1,c1,hi1,ot.skip.z (by omega),(aS false (aX 1 (b3) (aX 2 (am t3) (aX 2 (am t2) (aX 0 (hp c) (aX 2 (jf) (aX 1 (am w3) (aX 1 (am w4) (aX 1 (am w5) (aX 2 (am w6) (aX 2 (bJ w7) (aX 0 (hl) (aX 1 (bJ d1) (aX 1 (ZV r5) (aX 0 (ht) aZ)))))))))))))) (by kernel_rfl))⟩
  ·obtain ⟨t,i1,c1,hi1,ot,ht⟩:=bu
   exact ⟨t,i1,c1,hi1,ot.skip.z (by omega),(aS false (aX 1 (b3) (aX 2 (am t3) (aX 2 (am t2) (aX 0 (hp c) (aX 2 (jf) (aX 1 (am w3) (aX 1 (am w4) (aX 1 (am w5) (aX 2 (am w6) (aX 2 (am w7) (aX 0 (ht) aZ))))))))))) (by kernel_rfl))⟩
 ·obtain ⟨t,i1,c1,hi1,ot,ht⟩:=bu
  by_cases w5:x / 13 % 9=5
  ·exact ⟨t,i1,c1,hi1,ot.skip.z (by omega),(aS false (aX 1 (b3) (aX 2 (am t3) (aX 2 (am t2) (aX 0 (hp c) (aX 2 (jf) (aX 1 (am w3) (aX 1 (am w4) (aX 1 (bJ w5) (aX 0 (hl) (aX 1 (am d1) (aX 1 (am (show x / 13 % 9≠6 by omega)) (aX 2 (am (show x / 13 % 9≠7 by omega)) (aX 0 (ht) aZ))))))))))))) (by kernel_rfl))⟩
  by_cases w6:x / 13 % 9=6
  ·exact ⟨t,i1,c1,hi1,ot.skip.z (by omega),(aS false (aX 1 (b3) (aX 2 (am t3) (aX 2 (am t2) (aX 0 (hp c) (aX 2 (jf) (aX 1 (am w3) (aX 1 (am w4) (aX 1 (am w5) (aX 2 (bJ w6) (aX 0 (hl) (aX 1 (am d1) (aX 1 (am (show x / 13 % 9≠7 by omega)) (aX 0 (ht) aZ))))))))))))) (by kernel_rfl))⟩
  by_cases w7:x / 13 % 9=7
  ·exact ⟨t,i1,c1,hi1,ot.skip.z (by omega),(aS false (aX 1 (b3) (aX 2 (am t3) (aX 2 (am t2) (aX 0 (hp c) (aX 2 (jf) (aX 1 (am w3) (aX 1 (am w4) (aX 1 (am w5) (aX 2 (am w6) (aX 2 (bJ w7) (aX 0 (hl) (aX 1 (am d1) (aX 0 (ht) aZ))))))))))))) (by kernel_rfl))⟩
  ·exact ⟨t,i1,c1,hi1,ot.skip.z (by omega),(aS false (aX 1 (b3) (aX 2 (am t3) (aX 2 (am t2) (aX 0 (hp c) (aX 2 (jf) (aX 1 (am w3) (aX 1 (am w4) (aX 1 (am w5) (aX 2 (am w6) (aX 2 (am w7) (aX 0 (ht) aZ))))))))))) (by kernel_rfl))⟩
theorem iM (want:Kd) (N:Al) (r i c:Int) (M:Nat) (hi:0≤i):∃ x:Int,pb x∧exS Γ (ae Γ (M+2)) (aQ Γ (M+2)) (hdS 0 bU.body) ⟨[some (.ref 0),some want.toD,some (dA N),some (.int r),none,none,none,none,none,none,none],[],dS ns i b0 W od st c⟩ = .nx ⟨nS want N r x [none,none,none,none,none,none],[],dS ns (i+1) b0 W od st c⟩:=by
 obtain ⟨x,x0,hx⟩:=next ns i b0 c (.lst (sts W)) (.int od) hi (M+1) st
 exact ⟨x,x0,(eE false (aX 0 (hx) aZ) (by kernel_rfl))⟩
theorem d6 (hW:W.length=5) (nd:W.Nodup) {r Z:Int} {p M:Nat} (hz:7≤Z) (hr:5≤r) (h1:∀ m,M+2≤m→bT W ns b0 od st (r - 1) (p+2) m Z) (h3:5<r→3≤p∧(7<r→5≤p)∧∀ m,M+2≤m→bT W ns b0 od st (r - 3) p m Z) (hM:2≤M) (m:Nat) (hm:M+4≤m):bT W ns b0 od st r (p+3) m (4 * Z+16):=by
 intro want N i c hw nk hi
 obtain ⟨m,rfl⟩:∃ k,m=k+4:=⟨m - 4,by omega⟩
 obtain ⟨x,x0,hh⟩:=iM (W:=W) (ns:=ns) (b0:=b0) (od:=od) (st:=st) want N r i c (m+1) hi
 obtain ⟨t,i1,c1,hi1,ot,ht⟩:=pS hW nd hz hr (M:=m) (fun q hq=>h1 q (by omega)) (fun h=>⟨(h3 h).1,(h3 h).2.1,(h3 h).2.2 _ (by omega)⟩) (by omega) want N x (i+1) c x0 hw nk (by omega)
 exact ⟨t,i1,c1,hi1,ot,b7 0 bU rfl rfl hh ht⟩
theorem mJ (hW:W.length=5) (r:Int) (hr:r<5) (m:Nat) (hm:6≤m):bT W ns b0 od st r 3 m 7:=by
 intro want N i c hw nk hi
 obtain ⟨m,rfl⟩:∃ k,m=k+6:=⟨m - 6,by omega⟩
 obtain ⟨x,x0,hh⟩:=iM (W:=W) (ns:=ns) (b0:=b0) (od:=od) (st:=st) want N r i c (m+3) hi
 have b3:decide (r<5)=true:=ZW hr
 obtain ⟨t,c1,ot,ht⟩:=yf hW ns (i+1) b0 od st 3 want hw.2 hw.1 N (x / 13) c (m+5) nk ⟨by have:=x0.1;omega,by have:=x0.2;omega⟩ (by omega)
 have t2:toR (exS Γ (ae Γ (m+5)) (aQ Γ (m+5)) (tlS 0 bU.body) ⟨nS want N r x [none,none,none,none,none,none],[],dS ns (i+1) b0 W od st c⟩) = .ok t.toD (dS ns (i+1) b0 W od st c1):=(aS false (aX 1 (b3) (aX 0 (ht) aZ)) (by kernel_rfl))
 exact ⟨t,i+1,c1,by omega,ot,b7 0 bU rfl rfl hh t2⟩
theorem bT.up {r Z Y:Int} {q q' m:Nat} (h:bT W ns b0 od st r q m Z) (l:q≤q') (lz:Z≤Y):bT W ns b0 od st r q' m Y:=fun want N i c hw nk hi=>by
 obtain ⟨t,i1,c1,hi1,ot,ht⟩:=h want N i c hw nk hi
 exact ⟨t,i1,c1,hi1,(ot.up l).z lz,ht⟩
theorem A3 (hW:W.length=5) (nd:W.Nodup) (m:Nat) (hm:14≤m):bT W ns b0 od st 8 8 m 5776:=by
 have s:∀ r:Int,r<5→∀ m,6≤m→bT W ns b0 od st r 3 m 7:=fun r hr m hm=>mJ hW r hr m hm
 have n5:∀ m,8≤m→bT W ns b0 od st 5 4 m 44:=fun m hm=>(d6 hW nd (r:=5) (Z:=7) (p:=1) (M:=4) (by decide) (by decide) (fun q hq=>s _ (by decide) q hq) (fun h=>ZX h (by decide)) (by decide) m hm).up (by decide) (by decide)
 have n6:∀ m,10≤m→bT W ns b0 od st 6 6 m 192:=fun m hm=>(d6 hW nd (r:=6) (Z:=44) (p:=3) (M:=6) (by decide) (by decide) (fun q hq=>(n5 q hq).up (by decide) (by decide)) (fun h=>⟨by decide,fun h=>ZX h (by decide),fun q hq=>(s _ (by decide) q (by omega)).up (by decide) (by decide)⟩) (by decide) m hm).up (by decide) (by decide)
 have n7:∀ m,12≤m→bT W ns b0 od st 7 7 m 784:=fun m hm=>(d6 hW nd (r:=7) (Z:=192) (p:=4) (M:=8) (by decide) (by decide) (fun q hq=>n6 q hq) (fun h=>⟨by decide,fun h=>ZX h (by decide),fun q hq=>(s _ (by decide) q (by omega)).up (by decide) (by decide)⟩) (by decide) m hm).up (by decide) (by decide)
 exact (d6 hW nd (r:=8) (Z:=784) (p:=5) (M:=10) (by decide) (by decide) (fun q hq=>n7 q hq) (fun h=>⟨by decide,fun _=>by decide,fun q hq=>(n5 q (by omega)).up (by decide) (by decide)⟩) (by decide) m hm).up (by decide) (by decide)
end
inductive VT:V68→Kd→Prop
 | num {i:Int}:VT (.num i) .whole
 | tru {b:Bool}:VT (.tru b) .truth
 | row {xs:List V68} {k:Kd} (h:∀ x∈xs,VT x k):VT (.row xs) (.row k)
 | pair {a b:V68} {k l:Kd} (ha:VT a k) (hb:VT b l):VT (.pair a b) (.pair k l)
 | fn {t:T68} {ks:List ι} {vs:List V68} {N:Al} {k l:Kd} (h:Tp N (.to k l) t) (hf:isFn t) (ln:ks.length=vs.length) (hs:∀ x c,aP N (.inr x)=some c→x∈ks) (hv:∀ x c v,aP N (.inr x)=some c→bO ks vs x=some v→VT v c):VT (.fn t ks vs) (.to k l)
structure EV (N:Al) (ks:List ι) (vs:List V68):Prop where
 ln:ks.length=vs.length
 hs:∀ x c,aP N (.inr x)=some c→x∈ks
 hv:∀ x c v,aP N (.inr x)=some c→bO ks vs x=some v→VT v c
theorem ko {x y:ι} {v:V68}:∀ {ks:List ι} {vs:List V68},bO ks (gL ks vs x v) y=if x=y∧x∈ks∧(bO ks vs y).isSome then some v else bO ks vs y
 | [],vs=>by cases vs <;> simp [bO]
 | k :: ks,[]=>by simp [gL,bO]
 | k :: ks,d :: ds=>by
   show (if k=y then some (if k=x then v else d) else bO ks (gL ks ds x v) y)=if x=y∧x∈k :: ks∧(if k=y then some d else bO ks ds y).isSome then some v else if k=y then some d else bO ks ds y
   rw [ko (ks:=ks) (vs:=ds)]
   by_cases a:k=y
   ·subst a
    by_cases b:k=x
    ·subst b;simp
    ·simp [b,Ϡ b]
   ·by_cases b:x=y
    ·subst b;simp [a,Ϡ a]
    ·simp [a,b]
theorem fU {x:ι}:∀ {ks:List ι} {vs:List V68},ks.length=vs.length→x∈ks→∃ v,bO ks vs x=some v
 | k :: ks,d :: ds,h,m=>by
   show ∃ v,(if k=x then some d else bO ks ds x)=some v
   by_cases a:k=x
   ·rw [ZZ a];exact ⟨d,rfl⟩
   ·rw [ZY a];exact fU (by simpa using h) ((ξ.mp m).resolve_left fun e=>a e.symm)
 | [],_,_,m=>by cases m
 | _ :: _,[],h,_=>by simp at h
theorem km {x y:ι} {v:V68}:∀ {ks:List ι} {vs:List V68},ks.length=vs.length→x ∉ ks→bO (ks ++ [x]) (vs ++ [v]) y=if x=y then some v else bO ks vs y
 | [],[],_,_=>rfl
 | k :: ks,d :: ds,h,m=>by
   show (if k=y then some d else bO (ks ++ [x]) (ds ++ [v]) y)=if x=y then some v else if k=y then some d else bO ks ds y
   rw [km (by simpa using h) fun z=>m (μ _ z)]
   by_cases a:k=y
   ·subst a
    rw [ZZ rfl,ZY (fun e=>m (by rw [e];exact ν)),ZZ rfl]
   ·rw [ZY a,ZY a]
 | [],_ :: _,h,_=>by simp at h
 | _ :: _,[],h,_=>by simp at h
theorem qY {x y:ι} {v:V68} {ks:List ι} {vs:List V68} (h:ks.length=vs.length):bO (ay ks x) (aW ks vs x v) y=if x=y then some v else bO ks vs y:=by
 unfold ay aW
 by_cases m:x∈ks
 ·rw [ZZ m,ZZ m,ko]
  by_cases e:x=y
  ·subst e
   obtain ⟨u,hu⟩:=fU h m
   simp [m,hu]
  ·simp [e]
 ·rw [ZY m,ZY m];exact km h m
theorem sL {x:ι} {v:V68} {ks:List ι} {vs:List V68} (h:ks.length=vs.length):(ay ks x).length=(aW ks vs x v).length:=by
 unfold ay aW
 by_cases m:x∈ks
 ·rw [ZZ m,ZZ m,du];exact h
 ·rw [ZY m,ZY m];simp [h]
theorem EV.put {N:Al} {ks:List ι} {vs:List V68} (h:EV N ks vs) (x:ι) {v:V68} {c:Kd} (hv:VT v c):EV (ai N (.inr x) c) (ay ks x) (aW ks vs x v):=by
 refine ⟨sL h.ln,fun y d e=>?_,fun y d u e g=>?_⟩
 ·rw [b6] at e
  by_cases a:x=y
  ·exact dX _ _ _ (.inr a.symm)
  ·rw [ZY fun z=>a (ĝ z)] at e
   exact dX _ _ _ (.inl (h.hs y d e))
 ·rw [b6] at e
  rw [qY h.ln] at g
  by_cases a:x=y
  ·rw [ZZ (by rw [a])] at e;rw [ZZ a] at g;cases e;cases g;exact hv
  ·rw [ZY fun z=>a (ĝ z)] at e;rw [ZY a] at g;exact h.hv y d u e g
def nw:Et→Prop
 | .wrong _=>False
 | _=>True
def Gd (w:Kd):Rs V68→Prop
 | .ok x _=>VT x w
 | .er e _=>nw e
def hdK:Kd→Hd
 | .whole=>.whole | .truth=>.truth | .row _=>.row | .pair _ _=>.pair | .to _ _=>.to
theorem VT.hd {x:V68} {k:Kd} (h:VT x k):x.hd=hdK k:=by cases h <;> rfl
def GdL (κ:Nat→Kd) (i n:Nat):Rs (List V68)→Prop
 | .ok xs _=>xs.length=n∧∀ j x,xs[j]? = some x→VT x (κ (i+j))
 | .er e _=>nw e
theorem fy {f:T68→Nat→Rs V68} {t:T68} {κ:Nat→Kd}:∀ (ts:List T68) (i c:Nat),(∀ j y,ts[j]? = some y→(∀ c,Gd (κ (i+j)) (f y c))∧∀ h,ij t (i+j)=some h→hdK (κ (i+j))=h)→GdL κ i ts.length (cz f t i ts c)
 | [],i,c,_=>⟨rfl,fun j x h=>by simp at h⟩
 | y :: r,i,c,h=>by
   obtain ⟨h1,h2⟩:=h 0 y rfl
   have h1:=h1 c
   show GdL κ i (r.length+1) (match f y c with
    | .er e c=>.er e c
    | .ok x c=>(match chk t i x.hd with
      | false=>.er (.wrong y.pl) c
      | true=>(match cz f t (i+1) r c with
        | .ok xs c=>.ok (x :: xs) c
        | .er e c=>.er e c)))
   cases q:f y c with
   | er e c1=>rw [q] at h1;exact h1
   | ok x c1=>
     rw [q] at h1
     have h1:VT x (κ (i+0)):=h1
     have ck:chk t i x.hd=true:=by
      unfold chk
      cases n:ij t i with
      | none=>rfl
      | some w=>exact ZW (h1.hd.trans (h2 w n))
     dsimp only
     rw [ck]
     have ih:=fy (f:=f) (t:=t) (κ:=κ) r (i+1) c1 fun j z hz=>by
      have:=h (j+1) z hz
      rw [show i+(j+1)=i+1+j by omega] at this
      exact this
     revert ih
     cases cz f t (i+1) r c1 with
     | er e c2=>exact fun ih=>ih
     | ok xs c2=>
       exact fun ih=>⟨by rw [Κ,ih.1],fun j z hz=>by
        match j,hz with
        | 0,hz=>cases hz;exact h1
        | j+1,hz=>have:=ih.2 j z hz;rw [show i+(j+1)=i+1+j by omega];exact this⟩
theorem wS (x p:Int) (c:Nat):Gd .whole (ex (big x p) c):=by unfold big;split <;> first | exact trivial | exact .num
theorem zt {κ:Nat→Kd} {xs:List V68} {c:Nat} (h:GdL κ 0 2 (.ok xs c)):∃ a b,xs = [a,b]∧VT a (κ 0)∧VT b (κ 1):=by
 obtain ⟨h1,h2⟩:=h
 match xs,h1 with
 | [a,b],_=>exact ⟨a,b,rfl,h2 0 a rfl,h2 1 b rfl⟩
theorem yZ {κ:Nat→Kd} {xs:List V68} {c:Nat} (h:GdL κ 0 1 (.ok xs c)):∃ a,xs = [a]∧VT a (κ 0):=by
 obtain ⟨h1,h2⟩:=h
 match xs,h1 with
 | [a],_=>exact ⟨a,rfl,h2 0 a rfl⟩
def pk (k l:Kd):Nat→Kd
 | 0=>k
 | _=>l
theorem sn2 {f:T68→Nat→Rs V68} {t y z:T68} {k l w:Kd} {c:Nat} {v:Vf} (hy:∀ c,Gd k (f y c)) (hz:∀ c,Gd l (f z c)) (n0:∀ h,ij t 0=some h→hdK k=h) (n1:∀ h,ij t 1=some h→hdK l=h) (fn:∀ a b c,VT a k→VT b l→Gd w (gq v t [a,b] c)):Gd w (match cz f t 0 [y,z] c with | .er e c=>.er e c | .ok xs c=>gq v t xs c):=by
 have g:=fy (f:=f) (t:=t) (κ:=pk k l) [y,z] 0 c fun j u hu=>by
  match j,hu with
  | 0,hu=>cases hu;exact ⟨hy,n0⟩
  | 1,hu=>cases hu;exact ⟨hz,n1⟩
 revert g
 cases cz f t 0 [y,z] c with
 | er e c=>exact fun g=>g
 | ok xs c=>exact fun g=>by obtain ⟨a,b,rfl,ha,hb⟩:=zt g;exact fn a b c ha hb
theorem sn1 {f:T68→Nat→Rs V68} {t y:T68} {k w:Kd} {c:Nat} {v:Vf} (hy:∀ c,Gd k (f y c)) (n0:∀ h,ij t 0=some h→hdK k=h) (fn:∀ a c,VT a k→Gd w (gq v t [a] c)):Gd w (match cz f t 0 [y] c with | .er e c=>.er e c | .ok xs c=>gq v t xs c):=by
 have g:=fy (f:=f) (t:=t) (κ:=fun _=>k) [y] 0 c fun j u hu=>by
  match j,hu with
  | 0,hu=>cases hu;exact ⟨hy,n0⟩
 revert g
 cases cz f t 0 [y] c with
 | er e c=>exact fun g=>g
 | ok xs c=>exact fun g=>by obtain ⟨a,rfl,ha⟩:=yZ g;exact fn a c ha
theorem wL {v:Vf} (hv:∀ N w t ks vs c,Tp N w t→EV N ks vs→Gd w (v t ks vs c)) {a u:V68} {k w:Kd} (ha:VT a (.to k w)) (hu:VT u k) (p:Int) (x y:T68) (c:Nat):Gd w (gq v (.call p x y) [a,u] c):=by
 cases ha with
 | @fn f ks vs N _ _ h hf ln hs hv'=>
   show Gd w (app v f ks vs u c)
   cases c with
   | zero=>exact trivial
   | succ c=>
     have e:EV N ks vs:=⟨ln,hs,hv'⟩
     cases h with
     | fn h _ _=>exact hv _ _ _ _ _ _ h (e.put _ hu)
     | slf h ha hd=>exact hv _ _ _ _ _ _ h ((e.put _ (.fn (.slf h ha hd) hf ln hs hv')).put _ hu)
     | _=>exact hf.elim
theorem tu (ns:List Int):∀ (n:Nat) (N:Al) (w:Kd) (t:T68) (ks:List ι) (vs:List V68) (c:Nat),Tp N w t→EV N ks vs→Gd w (val ns n t ks vs c)
 | 0,_,_,_,_,_,_,_,_=>trivial
 | n+1,N,w,t,ks,vs,c,h,e=>by
   have ih:=tu ns n
   have go:∀ {N':Al} {k:Kd} {y:T68},Tp N' k y→EV N' ks vs→∀ c,Gd k (val ns n y ks vs c):=fun h e c=>ih _ _ _ _ _ c h e
   cases h with
   | whole=>exact .num
   | given=>exact .num
   | truth=>exact .tru
   | @name _ p x _ g d=>
     obtain ⟨u,hu⟩:=fU e.ln (e.hs x w g)
     show VT ((bO ks vs x).getD (.num 0)) w
     rw [hu];exact e.hv x w u g hu
   | fn h a d=>exact VT.fn (.fn h a d) trivial e.ln e.hs e.hv
   | slf h a d=>exact VT.fn (.slf h a d) trivial e.ln e.hs e.hv
   | call ha hb d=>exact sn2 (go ha e) (go hb e) (fun h q=>by cases q;rfl) (fun h q=>by cases q) fun a b c ha hb=>wL ih ha hb _ _ _ c
   | @lt _ p x k _ a b ha hb d=>
     show Gd w (match val ns n a ks vs c with | .er e c=>.er e c | .ok u c=>val ns n b (ay ks x) (aW ks vs x u) c)
     have g:=go ha e c
     revert g
     cases val ns n a ks vs c with
     | er e' c=>exact fun g=>g
     | ok u c=>exact fun g=>ih _ _ _ _ _ c hb (e.put x g)
   | @iff _ p _ a b d ha hb hd dd=>
     show Gd w (match val ns n a ks vs c with | .er e c=>.er e c | .ok u c=>(match u with | .tru true=>val ns n b ks vs c | .tru false=>val ns n d ks vs c | _=>.er (.wrong a.pl) c))
     have g:=go ha e c
     revert g
     cases val ns n a ks vs c with
     | er e' c=>exact fun g=>g
     | ok u c=>
       intro g
       cases g with
       | @tru b'=>cases b' <;> first | exact go hb e c | exact go hd e c
   | @bin _ p o _ a b ha hb q=>
     subst q
     exact sn2 (go ha e) (go hb e) (fun h q=>by cases q;rfl) (fun h q=>by cases q;rfl) fun x y c hx hy=>by
      cases hx with
      | @num i=>
        cases hy with
        | @num j=>
          cases o <;> first | exact wS _ p c | exact VT.tru
   | @row _ p k ts h d=>
     show Gd (.row k) (match cz (fun y c=>val ns n y ks vs c) (.row p k ts) 0 ts c with | .er e c=>.er e c | .ok xs c=>gq (val ns n) (.row p k ts) xs c)
     have g:=fy (f:=fun y c=>val ns n y ks vs c) (t:=.row p k ts) (κ:=fun _=>k) ts 0 c fun j u hu=>⟨go (h u (Ε hu)) e,fun h q=>by cases j <;> cases q⟩
     revert g
     cases cz (fun y c=>val ns n y ks vs c) (.row p k ts) 0 ts c with
     | er e' c=>exact fun g=>g
     | ok xs c=>exact fun g=>VT.row fun x hx=>by obtain ⟨j,hj⟩:=ϱ.mp hx;exact g.2 j x hj
   | pair ha hb hk hl=>exact sn2 (go ha e) (go hb e) (fun h q=>by cases q) (fun h q=>by cases q) fun a b c ha hb=>VT.pair ha hb
   | @att _ p _ a b ha hb d=>
     exact sn2 (go ha e) (go hb e) (fun h q=>by cases q;rfl) (fun h q=>by cases q;rfl) fun x y c hx hy=>by
      cases hx with
      | @row xs _ hx=>
        cases hy with
        | @num i=>
          show Gd w (ex (nth xs i p) c)
          unfold nth
          split
          ·cases q:xs[i.toNat]? with
           | none=>exact trivial
           | some u=>exact hx u (Ε q)
          ·exact trivial
   | size ha=>exact sn1 (go ha e) (fun h q=>by cases q;rfl) fun x c hx=>by cases hx;exact VT.num
   | one ha d=>exact sn1 (go ha e) (fun h q=>by cases q;rfl) fun x c hx=>by cases hx with | pair h _=>exact h
   | two ha d=>exact sn1 (go ha e) (fun h q=>by cases q;rfl) fun x c hx=>by cases hx with | pair _ h=>exact h
   | as_ ha d=>exact sn1 (go ha e) (fun h q=>by cases q) fun x c hx=>hx
theorem Kd.nr:∀ k:Kd,noR k.toD=true
 | .whole=>rfl
 | .truth=>rfl
 | .to a b=>by show (true && (noR a.toD && (noR b.toD && true)))=true;rw [nr a,nr b];rfl
 | .row a=>by show (true && (noR a.toD && true))=true;rw [nr a];rfl
 | .pair a b=>by show (true && (noR a.toD && (noR b.toD && true)))=true;rw [nr a,nr b];rfl
mutual
theorem T68.nr:∀ t:T68,noR t.toD=true
 | .whole p v=>rfl
 | .truth p b=>rfl
 | .given p i=>rfl
 | .name p x=>rfl
 | .fn p x k b=>by show (true && (true && (true && (noR k.toD && (noR b.toD && true)))))=true;rw [k.nr,T68.nr b];rfl
 | .slf p f x k g b=>by show (true && (true && (true && (true && (noR k.toD && (noR g.toD && (noR b.toD && true)))))))=true;rw [k.nr,g.nr,T68.nr b];rfl
 | .lt p x a b=>by show (true && (true && (true && (noR a.toD && (noR b.toD && true)))))=true;rw [T68.nr a,T68.nr b];rfl
 | .iff p c a b=>by show (true && (true && (noR c.toD && (noR a.toD && (noR b.toD && true)))))=true;rw [T68.nr c,T68.nr a,T68.nr b];rfl
 | .call p a b=>by show (true && (true && (noR a.toD && (noR b.toD && true))))=true;rw [T68.nr a,T68.nr b];rfl
 | .bin p o a b=>by show (true && (true && (true && (noR a.toD && (noR b.toD && true)))))=true;rw [T68.nr a,T68.nr b];rfl
 | .as_ p k a=>by show (true && (true && (noR k.toD && (noR a.toD && true))))=true;rw [k.nr,T68.nr a];rfl
 | .row p k ts=>by show (true && (true && (noR k.toD && (aV (toDs ts) && true))))=true;rw [k.nr,nrs ts];rfl
 | .pair p a b=>by show (true && (true && (noR a.toD && (noR b.toD && true))))=true;rw [T68.nr a,T68.nr b];rfl
 | .att p a b=>by show (true && (true && (noR a.toD && (noR b.toD && true))))=true;rw [T68.nr a,T68.nr b];rfl
 | .size p a=>by show (true && (true && (noR a.toD && true)))=true;rw [T68.nr a];rfl
 | .one p a=>by show (true && (true && (noR a.toD && true)))=true;rw [T68.nr a];rfl
 | .two p a=>by show (true && (true && (noR a.toD && true)))=true;rw [T68.nr a];rfl
theorem nrs:∀ ts:List T68,aV (toDs ts)=true
 | []=>rfl
 | t :: r=>by show (noR t.toD && aV (toDs r))=true;rw [T68.nr t,nrs r];rfl
end
theorem ni:∀ l:List Int,aV (l.map D.int)=true
 | []=>rfl
 | x :: r=>by show (true && aV (r.map D.int))=true;rw [ni r];rfl
theorem fS (n:Nat):∀ l:List D,(∀ d∈l,eqv n d d=some true)→cP (eqv n) l l=some true
 | [],_=>rfl
 | d :: r,h=>by
   show (match eqv n d d with | none=>none | some x=>(cP (eqv n) r r).map (x && ·))=_
   rw [h d (ν ..),fS n r fun e he=>h e (μ _ he)];rfl
theorem eqi (n:Nat) (i:Int):eqv (n+1) (.int i) (.int i)=some true:=by show some (i == i)=_;rw [ZT]
theorem B9 (n:Nat) (x:ι):eqv (n+1) (.str x) (.str x)=some true:=by show some (x == x)=_;rw [ZT]
theorem t9 (l:List Int):opD .eq (.lst (l.map D.int)) (.lst (l.map D.int))=some (.bl true):=by
 show (if (l.map D.int).length=(l.map D.int).length then cP (eqv 54) (l.map D.int) (l.map D.int) else some false).map _=_
 rw [ZZ rfl,fS 54 _ (fun d hd=>by obtain ⟨i,_,rfl⟩:=Ϩ.mp hd;exact eqi 53 i)];rfl
theorem qL (l:List D) (h:∀ d∈l,(∃ i,d = .int i)∨∃ x,d = .str x):opD .eq (.tup l) (.tup l)=some (.bl true):=by
 show ((cP (eqv 54) l l).map (· && l.length == l.length)).map _=_
 rw [fS 54 _ (fun d hd=>by rcases h d hd with ⟨i,rfl⟩ | ⟨x,rfl⟩;exact eqi 53 i;exact B9 53 x),ZT];rfl
theorem kD:∀ l:List Int,bq (l.map D.int)=some l
 | []=>rfl
 | x :: r=>by
   show (bq (r.map D.int)).map (x :: ·)=_
   rw [kD r];rfl
theorem qT {α β:Type} (f:α→β) (xs:List α):∀ js:List Nat,js.filterMap ((xs.map f)[·]?)=(js.filterMap (xs[·]?)).map f
 | []=>rfl
 | j :: js=>by
   rw [ύ,ύ,qT f xs js,Φ]
   cases xs[j]? <;> rfl
def sm (ns:List Int) (k:Int):Int:=sumI (cH ns (some k) 8)
theorem zq (ns:List Int) (k:Int):biD .sum [.lst (cH (ns.map D.int) (some k) 8)]=some (.int (sm ns k)):=by
 have h:cH (ns.map D.int) (some k) 8=(cH ns (some k) 8).map D.int:=by
  unfold cH
  rw [Ι,qT]
 rw [h]
 show (bq _).map _=_
 rw [kD];rfl
def sg (x:Int):Int:=if x<0 then 0 - (if x<0 then -x else x) % 10 ^ 40 else x % 10 ^ 40
theorem Bl (x:Int):(sg x).natAbs<10 ^ 40:=by
 have a:∀ y:Int,0≤y % 10 ^ 40∧y % 10 ^ 40<10 ^ 40:=fun y=>⟨č _ (by decide),Ď _ (by decide)⟩
 unfold sg
 split
 ·have:=a (-x);omega
 ·have:=a x;omega
abbrev nbB:S:=cY fT.body
theorem vh (ns:List Int) (k:Int) (acc:List Int) (h:acc.length<1000) (e3:Option D) (n:Nat) (S:List O):exS Γ (ae Γ n) (aQ Γ n) nbB ⟨[some (.lst (ns.map .int)),some (.lst (acc.map .int)),some (.int k),e3],[1],S⟩ = .nx ⟨[some (.lst (ns.map .int)),some (.lst ((acc ++ [sg (sm ns k)]).map .int)),some (.int k),some (.int (sm ns k))],[1],S⟩:=by
 have s:=zq ns k
 have la:decide ((acc.map D.int).length<100000)=true:=ZW (by rw [Ι];omega)
 rw [ç]
 unfold sg
 by_cases c:sm ns k<0
 ·have e1:decide (sm ns k<0)=true:=ZW c
  rw [ZZ c];exact (eE false (aX 1 (s) (aX 1 (e1) (aX 4 (la) aZ))) (by kernel_rfl))
 ·have e1:decide (sm ns k<0)=false:=ZV c
  rw [ZY c];exact (eE false (aX 1 (s) (aX 1 (e1) (aX 2 (la) aZ))) (by kernel_rfl))
abbrev nm8 (ns:List Int):List Int:=[sg (sm ns 0),sg (sm ns 1),sg (sm ns 2),sg (sm ns 3),sg (sm ns 4),sg (sm ns 5),sg (sm ns 6),sg (sm ns 7)]
theorem vm (ns:List Int) (n:Nat) (S:List O):ae Γ (n+1) fY [.lst (ns.map .int)] S = .ok (.lst ((nm8 ns).map .int)) S:=by
 have tn:=fun (k:Int) (acc:List Int) (h:acc.length<1000) (e3:Option D)=>vh ns k acc h e3 n S
 have hf:aR (jj Γ (ae Γ n) (aQ Γ n) [2] true nbB) [.int 0,.int 1,.int 2,.int 3,.int 4,.int 5,.int 6,.int 7] ⟨[some (.lst (ns.map .int)),some (.lst []),none,none],[1],S⟩ = .nx ⟨[some (.lst (ns.map .int)),some (.lst ((nm8 ns).map .int)),some (.int 7),some (.int (sm ns 7))],[1],S⟩:=
  ao (aF rfl (tn 0 [] (by decide) _)) (ao (aF rfl (tn 1 [_] (Ξ rfl) _)) (ao (aF rfl (tn 2 [_,_] (Ξ rfl) _)) (ao (aF rfl (tn 3 [_,_,_] (Ξ rfl) _)) (ao (aF rfl (tn 4 [_,_,_,_] (Ξ rfl) _)) (ao (aF rfl (tn 5 [_,_,_,_,_] (Ξ rfl) _)) (ao (aF rfl (tn 6 [_,_,_,_,_,_] (Ξ rfl) _)) (ao (aF rfl (tn 7 [_,_,_,_,_,_,_] (Ξ rfl) _)) rfl)))))))
 exact (aj true (aX 0 (hf) aZ) (by kernel_rfl))
theorem A1 (ns:List Int):∀ x∈nm8 ns,x.natAbs<10 ^ 40:=fun x h=>by
 obtain ⟨y,rfl⟩:∃ y,x=sg y:=by
  simp only [nm8,ξ,î,or_false] at h
  rcases h with h | h | h | h | h | h | h | h <;> exact ⟨_,h⟩
 exact Bl y
theorem cut (ns:List Int) (c:Int):∃ (k:Int) (L:List Int),c % 9=k∧(∀ x∈L,x.natAbs<10 ^ 40)∧slO (.lst ((nm8 ns).map .int)) none (some k)=some (.lst (L.map .int)):=by
 have h:c % 9=0∨c % 9=1∨c % 9=2∨c % 9=3∨c % 9=4∨c % 9=5∨c % 9=6∨c % 9=7∨c % 9=8:=by omega
 have t:=fun (k:Nat) x (h:x∈(nm8 ns).take k)=>A1 ns x (List.mem_of_mem_take h)
 rcases h with h | h | h | h | h | h | h | h | h
 ·exact ⟨0,(nm8 ns).take 0,h,t 0,rfl⟩
 ·exact ⟨1,(nm8 ns).take 1,h,t 1,rfl⟩
 ·exact ⟨2,(nm8 ns).take 2,h,t 2,rfl⟩
 ·exact ⟨3,(nm8 ns).take 3,h,t 3,rfl⟩
 ·exact ⟨4,(nm8 ns).take 4,h,t 4,rfl⟩
 ·exact ⟨5,(nm8 ns).take 5,h,t 5,rfl⟩
 ·exact ⟨6,(nm8 ns).take 6,h,t 6,rfl⟩
 ·exact ⟨7,(nm8 ns).take 7,h,t 7,rfl⟩
 ·exact ⟨8,(nm8 ns).take 8,h,t 8,rfl⟩
theorem vq (ns:List Int) (n:Nat):∃ (t:T68) (w:Kd) (W:List ι) (o:O),W.length=5∧Ok W 8 [] t∧Tp [] w t∧(ah 8 t).Nodup∧ae Γ (n+20) fZ [.lst (ns.map .int)] [] = .ok t.toD [o]:=by
 obtain ⟨c,_,hc⟩:=i9 ns 0 (n+18) []
 obtain ⟨W,hW,nd,hw⟩:=BB (c / 3) (n+18) []
 obtain ⟨d,_,hd⟩:=i9 ns 1 (n+18) (dS ns 1 (c % 9973) W 1 [] 0)
 obtain ⟨k,hk,hkk⟩:=rA d (n+18) (dS ns 1 (c % 9973) W 1 [] 0)
 obtain ⟨t,i,e,_,⟨⟨o,tp⟩,pz⟩,ht⟩:=A3 (ns:=ns) (b0:=c % 9973) (od:=1) (st:=[]) hW nd (n+19) (by omega) k [] 1 0 (Kd.ok2 hk) Nk.nil (by decide)
 exact ⟨t,k,W,pA ns i (c % 9973) e (.lst (sts W)) (.int 1),hW,o,tp,apart pz (by decide),(aj false (aX 0 (hc) (aX 0 (hw) (aX 0 (hd) (aX 0 (hkk) (aX 0 (ht) aZ))))) (by kernel_rfl))⟩
section
variable {W:List ι} {L:List Int} {t:T68} {w:Kd} {c:Nat}
theorem sT (hW:W.length=5) (hL:∀ x∈L,x.natAbs<10 ^ 40) (o:Ok W 8 [] t) (tp:Tp [] w t) (np:(ah 8 t).Nodup) (hc:c≤12) (tg:Bool):∃ st,ae Γ 249 AC [t.toD,.lst (L.map .int),.int c,.bl tg] [] = .ok (l5 (val L (8+8 * c) t [] [] c)) st:=by
 have nt:aV [t.toD]=true:=by show (noR t.toD && true)=true;rw [T68.nr];rfl
 obtain ⟨sm,m⟩:=wm o tp np 225
 have wk:=mW (tg:=tg) (W:=W) (by omega) hL t o c 248 (by omega)
 exact ⟨ws tg L (cnt (val L (8+8 * c) t [] [] c)),(aj false (aX 0 (nt) (aX 0 (m) (aX 0 (wk) aZ))) (by kernel_rfl))⟩
theorem vx (hW:W.length=5) (hL:∀ x∈L,x.natAbs<10 ^ 40) (o:Ok W 8 [] t) (tp:Tp [] w t) (np:(ah 8 t).Nodup) (hc:c≤12):∃ st,ae Γ 249 xG [t.toD,.lst (L.map .int),.int c] [] = .ok (l5 (val L (8+8 * c) t [] [] c)) st:=by
 have nt:aV [t.toD]=true:=by show (noR t.toD && true)=true;rw [T68.nr];rfl
 obtain ⟨sm,m⟩:=wm o tp np 225
 have wk:=mW (tg:=false) (W:=W) (by omega) hL t o c 248 (by omega)
 exact ⟨ws false L (cnt (val L (8+8 * c) t [] [] c)),(aj false (aX 0 (nt) (aX 0 (m) (aX 0 (wk) aZ))) (by kernel_rfl))⟩
end
theorem zI (r:Rs V68) (n:Nat) (S:List O):ae Γ (n+1) jp [l5 r,l5 r] S = .ok (.bl true) S:=by
 have i:∀ x:Int,(∃ i,D.int x = .int i)∨∃ y,D.int x = .str y:=fun x=>.inl ⟨x,rfl⟩
 have s:∀ x:ι,(∃ i,D.str x = .int i)∨∃ y,D.str x = .str y:=fun x=>.inr ⟨x,rfl⟩
 have n:∀ d∈([]:List D),(∃ i,d = .int i)∨∃ y,d = .str y:=fun d h=>(nomatch h)
 have c:∀ {x:D} {l:List D},((∃ i,x = .int i)∨∃ y,x = .str y)→(∀ d∈l,(∃ i,d = .int i)∨∃ y,d = .str y)→∀ d∈x :: l,(∃ i,d = .int i)∨∃ y,d = .str y:=fun h t d m=>by rcases ξ.mp m with rfl | m;exact h;exact t d m
 cases r with
 | ok x k=>have e:=qL [.str "done",.str (txt 3 x)] (c (s _) (c (s _) n));exact (aj false (aX 22 (e) aZ) (by kernel_rfl))
 | er e k=>
   cases e with
   | wrong p=>have e:=qL [.str "wrong",.int p] (c (s _) (c (i _) n));exact (aj false (aX 22 (e) aZ) (by kernel_rfl))
   | nun p=>have e:=qL [.str "fault",.int p,.str "none"] (c (s _) (c (i _) (c (s _) n)));exact (aj false (aX 29 (e) aZ) (by kernel_rfl))
   | great p=>have e:=qL [.str "fault",.int p,.str "great"] (c (s _) (c (i _) (c (s _) n)));exact (aj false (aX 29 (e) aZ) (by kernel_rfl))
   | spent=>have e:=qL [.str "spent"] (c (s _) n);exact (aj false (aX 15 (e) aZ) (by kernel_rfl))
theorem xM (ns:List Int):∃ st':List O,ae Γ 250 AB [.lst (ns.map .int)] [] = .ok (.bl true) st':=by
 obtain ⟨t,w,W,o,hW,ok,tp,np,ht⟩:=vq ns 229
 have hn:=vm ns 248 [o]
 obtain ⟨d,_,hd⟩:=i9 ns 1 248 [o]
 obtain ⟨k,L,hk,hL,hs⟩:=cut ns (d / 585)
 obtain ⟨c,hc,c13⟩:=dZ (c:=d / 45) (n:=13) (by decide)
 have mc:opD .mod (.int (d / 45)) (.int 13)=some (.int (c:Nat)):=dH hc (by decide)
 have nt:aV [t.toD,.lst (L.map .int),.int (c:Nat)]=true:=by show (noR t.toD && (aV (L.map .int) && true))=true;rw [T68.nr,ni];rfl
 have nt4:∀ b,aV [t.toD,.lst (L.map .int),.int (c:Nat),.bl b]=true:=fun b=>by show (noR t.toD && (aV (L.map .int) && (true && true)))=true;rw [T68.nr,ni];rfl
 have pl:=plain (W:=W) (by omega) hL t ok c 249 (by omega)
 obtain ⟨s1,r1⟩:=vx hW hL ok tp np (c:=c) (by omega)
 obtain ⟨s2,r2⟩:=sT hW hL ok tp np (c:=c) (by omega) false
 obtain ⟨s3,r3⟩:=sT hW hL ok tp np (c:=c) (by omega) true
 have sn:=tu L (8+8 * c) [] w t [] [] c tp ⟨rfl,(fun x c h=>nomatch h),(fun x c v h=>nomatch h)⟩
 have el:=t9 L
 generalize val L (8+8 * c) t [] [] c=r at *
 have al:=zI r 248 [o]
 refine ⟨[o],?_⟩
 cases r with
 | ok x c'=>exact (aj false (aX 0 (ht) (aX 0 (hn) (aX 0 (hd) (aX 1 (dH hk (by decide)) (aX 0 (hs) (aX 0 (hd) (aX 1 (mc) (aX 1 (nt) (aX 0 (pl) (aX 7 (nt) (aX 0 (r1) (aX 1 (nt4 false) (aX 0 (r2) (aX 1 (nt4 true) (aX 0 (r3) (aX 0 (al) (aX 0 (al) (aX 0 (al) (aX 2 (el) aZ))))))))))))))))))) (by kernel_rfl))
 | er e c'=>
   cases e with
   | wrong p=>exact sn.elim
   | nun p=>exact (aj false (aX 0 (ht) (aX 0 (hn) (aX 0 (hd) (aX 1 (dH hk (by decide)) (aX 0 (hs) (aX 0 (hd) (aX 1 (mc) (aX 1 (nt) (aX 0 (pl) (aX 7 (nt) (aX 0 (r1) (aX 1 (nt4 false) (aX 0 (r2) (aX 1 (nt4 true) (aX 0 (r3) (aX 0 (al) (aX 0 (al) (aX 0 (al) (aX 2 (el) aZ))))))))))))))))))) (by kernel_rfl))
   | great p=>exact (aj false (aX 0 (ht) (aX 0 (hn) (aX 0 (hd) (aX 1 (dH hk (by decide)) (aX 0 (hs) (aX 0 (hd) (aX 1 (mc) (aX 1 (nt) (aX 0 (pl) (aX 7 (nt) (aX 0 (r1) (aX 1 (nt4 false) (aX 0 (r2) (aX 1 (nt4 true) (aX 0 (r3) (aX 0 (al) (aX 0 (al) (aX 0 (al) (aX 2 (el) aZ))))))))))))))))))) (by kernel_rfl))
   | spent=>exact (aj false (aX 0 (ht) (aX 0 (hn) (aX 0 (hd) (aX 1 (dH hk (by decide)) (aX 0 (hs) (aX 0 (hd) (aX 1 (mc) (aX 1 (nt) (aX 0 (pl) (aX 7 (nt) (aX 0 (r1) (aX 1 (nt4 false) (aX 0 (r2) (aX 1 (nt4 true) (aX 0 (r3) (aX 0 (al) (aX 0 (al) (aX 0 (al) (aX 2 (el) aZ))))))))))))))))))) (by kernel_rfl))
def iV (K:υ):Prop:=∃ C:Δ,zG K "BlameError" C∧NaL K C []
def qr (K:υ):Prop:=∃ C f0 f1 f2 f3 f4:Δ,qm K "Looker" C∧NaL K C ["kinds","wanted"]∧dK K C "__init__" "Looker.__init__" (aL (top 38) 0) f0∧dK K C "look" "Looker.look" (aL (top 38) 1) f1∧dK K C "hold" "Looker.hold" (aL (top 38) 2) f2∧dK K C "hold_choice" "Looker.hold_choice" (aL (top 38) 3) f3∧dK K C "want" "Looker.want" (aL (top 38) 4) f4
def tL (K:υ):Prop:=∃ C fI:Δ,zH K "Ended" "Ended.__init__" (aL (top 66) 0) exB "Exception.__new__" C fI∧NaL K C ["outcome"]
def tN (K:υ):Prop:=∃ C f0:Δ,qm K "Value" C∧NaL K C ["head","held","guards","tag"]∧dK K C "__init__" "Value.__init__" (aL (top 67) 0) f0
def tM (K:υ):Prop:=∃ C f0 f1 f2:Δ,qm K "Giver" C∧NaL K C ["left","together","notes"]∧dK K C "__init__" "Giver.__init__" (aL (top 68) 0) f0∧dK K C "give_all" "Giver.give_all" (aL (top 68) 2) f1∧dK K C "give_in_call" "Giver.give_in_call" (aL (top 68) 3) f2
def qt (K:υ):Prop:=∃ C f0 f1 f2 f3:Δ,qm K "Walker" C∧NaL K C ["looks","numbers","giver"]∧dK K C "__init__" "Walker.__init__" (aL (top 94) 0) f0∧dK K C "come_to" "Walker.come_to" (aL (top 94) 1) f1∧dK K C "value_of" "Walker.value_of" (aL (top 94) 2) f2∧dK K C "called" "Walker.called" (aL (top 94) 3) f3
def mrl:List (ι×ι×Bool):=[("BlameError","Ended",false),("Ended","Ended",true),("BlameError","BlameError",true),("Ended","BlameError",false)]
structure Txt (K:υ):Prop where
 fn:dJ K fnl
 gl:GlL K gll
 tl:lV K tbl
 bl:NoL K T.bl
 mr:MrL K mrl
 x_BlameError:iV K
 x_Looker:qr K
 x_Ended:tL K
 x_Value:tN K
 x_Giver:tM K
 x_Walker:qt K
theorem tx:((((fnl.map fun p=>(p.1,p.1,p.2)) ++ mel).zip vrl).all fun p=>fnC p.1.2.2 && (fO { T with mu:=p.2.1,alt:=p.2.2.1,fc:=p.2.2.2.1,oc:=p.2.2.2.2 } p.1.2.2).isSome)=true:=by kernel_rfl
theorem wJ {P:ϸ} {w:Ü} {K:υ} {h:Ϸ} {mg:ι→Option ζ} {fa:Δ} {os:F5} (Y:K.In h) (G:h.Ns ώ mg) (hfa:mg "law" = some (.ref fa)) (T':Txt K) :
 ∃ X:Cx,X.W.P=P∧X.W.w=w∧X.K=K∧X.mg=mg∧X.base=h∧X.os=os∧X.calm=true∧bX X (ae Γ 250) 252 58 fa:=by
 obtain ⟨ad,hF,hG⟩:=T'.fn.ad Y G
 obtain ⟨C_BlameError,Cv,na_BlameError⟩:=T'.x_BlameError
 obtain ⟨C_Looker,a_Looker___init__,a_Looker_look,a_Looker_hold,a_Looker_hold_choice,a_Looker_want,Cz,na_Looker,⟨⟨fd_Looker___init__,F_Looker___init__⟩,M_Looker___init__⟩,⟨⟨fd_Looker_look,F_Looker_look⟩,M_Looker_look⟩,⟨⟨fd_Looker_hold,F_Looker_hold⟩,M_Looker_hold⟩,⟨⟨fd_Looker_hold_choice,F_Looker_hold_choice⟩,M_Looker_hold_choice⟩,⟨⟨fd_Looker_want,F_Looker_want⟩,M_Looker_want⟩⟩:=T'.x_Looker
 obtain ⟨C_Ended,fi_Ended,Cw,na_Ended⟩:=T'.x_Ended
 obtain ⟨CH,Fi_Ended⟩:=Cw.ini
 obtain ⟨C_Value,a_Value___init__,CA,na_Value,⟨⟨fd_Value___init__,F_Value___init__⟩,M_Value___init__⟩⟩:=T'.x_Value
 obtain ⟨C_Giver,a_Giver___init__,a_Giver_give_all,a_Giver_give_in_call,CE,na_Giver,⟨⟨fd_Giver___init__,F_Giver___init__⟩,M_Giver___init__⟩,⟨⟨fd_Giver_give_all,F_Giver_give_all⟩,M_Giver_give_all⟩,⟨⟨fd_Giver_give_in_call,F_Giver_give_in_call⟩,M_Giver_give_in_call⟩⟩:=T'.x_Giver
 obtain ⟨C_Walker,a_Walker___init__,a_Walker_come_to,a_Walker_value_of,a_Walker_called,CB,na_Walker,⟨⟨fd_Walker___init__,F_Walker___init__⟩,M_Walker___init__⟩,⟨⟨fd_Walker_come_to,F_Walker_come_to⟩,M_Walker_come_to⟩,⟨⟨fd_Walker_value_of,F_Walker_value_of⟩,M_Walker_value_of⟩,⟨⟨fd_Walker_called,F_Walker_called⟩,M_Walker_called⟩⟩:=T'.x_Walker
 let X:Cx:=⟨⟨P,w,[⟨C_BlameError,[]⟩,⟨C_Looker,["kinds","wanted"]⟩,⟨C_Ended,["outcome"]⟩,⟨C_Value,["head","held","guards","tag"]⟩,⟨C_Giver,["left","together","notes"]⟩,⟨C_Walker,["looks","numbers","giver"]⟩],[2,0,2,1,0,0]⟩,K,mg,h,os,Γ,fun _ _ _=>.bad,fun _ _ _=>.bad,ř,[],[],ů "" (aw (top 0)) 0 0 .none,true⟩
 have hM:FsL K mel [a_Looker___init__,a_Looker_look,a_Looker_hold,a_Looker_hold_choice,a_Looker_want,a_Giver___init__,a_Giver_give_all,a_Giver_give_in_call,a_Walker___init__,a_Walker_come_to,a_Walker_value_of,a_Walker_called]:=⟨⟨_,F_Looker___init__.d (by kernel_rfl)⟩,⟨_,F_Looker_look.d (by kernel_rfl)⟩,⟨_,F_Looker_hold.d (by kernel_rfl)⟩,⟨_,F_Looker_hold_choice.d (by kernel_rfl)⟩,⟨_,F_Looker_want.d (by kernel_rfl)⟩,⟨_,F_Giver___init__.d (by kernel_rfl)⟩,⟨_,F_Giver_give_all.d (by kernel_rfl)⟩,⟨_,F_Giver_give_in_call.d (by kernel_rfl)⟩,⟨_,F_Walker___init__.d (by kernel_rfl)⟩,⟨_,F_Walker_come_to.d (by kernel_rfl)⟩,⟨_,F_Walker_value_of.d (by kernel_rfl)⟩,⟨_,F_Walker_called.d (by kernel_rfl)⟩,trivial⟩
 have CF:dy X T.an 0 ⟨2,[],0,[],[],[]⟩ ⟨C_BlameError,[]⟩:=⟨rfl,(fun z=>ZX rfl z),na_BlameError.at,rfl,(show ([]:List ι)=List.map T.an [] by decide +kernel),(show ([]:List ι).Nodup by decide +kernel),fun _=>⟨Cv.fd,Cv.hh⟩⟩
 have Cy:dy X T.an 1 ⟨0,[0,1],59,[],[],[]⟩ ⟨C_Looker,["kinds","wanted"]⟩:=⟨rfl,fun _=>Cz.cls,na_Looker.at,rfl,(show (["kinds","wanted"]:List ι)=List.map T.an [0,1] by decide +kernel),(show (["kinds","wanted"]:List ι).Nodup by decide +kernel),fun z=>ZX z (by decide)⟩
 have k_Ended:dy X T.an 2 ⟨2,[2],0,[],[],[]⟩ ⟨C_Ended,["outcome"]⟩:=⟨rfl,(fun z=>ZX rfl z),na_Ended.at,rfl,(show (["outcome"]:List ι)=List.map T.an [2] by decide +kernel),(show (["outcome"]:List ι).Nodup by decide +kernel),fun _=>⟨Cw.fd,Cw.hh⟩⟩
 have k_Value:dy X T.an 3 ⟨1,[3,4,5,6],0,[],[],[]⟩ ⟨C_Value,["head","held","guards","tag"]⟩:=⟨rfl,fun _=>CA.cls,na_Value.at,rfl,(show (["head","held","guards","tag"]:List ι)=List.map T.an [3,4,5,6] by decide +kernel),(show (["head","held","guards","tag"]:List ι).Nodup by decide +kernel),fun z=>ZX z (by decide)⟩
 have CG:dy X T.an 4 ⟨0,[7,8,9],64,[],[],[]⟩ ⟨C_Giver,["left","together","notes"]⟩:=⟨rfl,fun _=>CE.cls,na_Giver.at,rfl,(show (["left","together","notes"]:List ι)=List.map T.an [7,8,9] by decide +kernel),(show (["left","together","notes"]:List ι).Nodup by decide +kernel),fun z=>ZX z (by decide)⟩
 have CC:dy X T.an 5 ⟨0,[10,11,12],67,[],[],[]⟩ ⟨C_Walker,["looks","numbers","giver"]⟩:=⟨rfl,fun _=>CB.cls,na_Walker.at,rfl,(show (["looks","numbers","giver"]:List ι)=List.map T.an [10,11,12] by decide +kernel),(show (["looks","numbers","giver"]:List ι).Nodup by decide +kernel),fun z=>ZX z (by decide)⟩
 have Pg:tK T X (ad ++ [a_Looker___init__,a_Looker_look,a_Looker_hold,a_Looker_hold_choice,a_Looker_want,a_Giver___init__,a_Giver_give_all,a_Giver_give_in_call,a_Walker___init__,a_Walker_come_to,a_Walker_value_of,a_Walker_called]) 1:=by
  refine ⟨rfl,fun j f e=>xq rfl rfl tx (hF.app hM) e,fun j x e=>?_,fun j x e=>?_,fun j x e=>?_,fun x e=>PySem.W.mg_none_of Y G (T'.bl.at x e),fun c k e=>?_,fun q e=>?_,fun j x e hz=>?_,fun j x e hz=>?_,fun j x e hz=>?_,fun j x e hz=>?_,fun j x e hz=>?_⟩
  ·obtain ⟨f,h1,h2⟩:=qu hG e
   exact ⟨f,ϊ (τ.mp h1).1 ▸ h1,h2⟩
  ·obtain ⟨d,u,h1,h2,h3⟩:=T'.gl.at e
   exact ⟨d,u,h1,Ù Y G h2,h3⟩
  ·obtain ⟨t,a,h1,h2,h3⟩:=T'.tl.at e
   exact ⟨t,a,h1,Ù Y G h2,h3⟩
  ·exact dL (P:=fun (c:Nat) (k:Cl)=>∃ i,dy X T.an c k i) (show e9 _ 0 Γ.cl from ⟨⟨_,CF⟩,⟨_,Cy⟩,⟨_,k_Ended⟩,⟨_,k_Value⟩,⟨_,CG⟩,⟨_,CC⟩,trivial⟩) e
  ·obtain ⟨i,e⟩:=ϱ.mp e
   exact dL (P:=fun (_:Nat) (q:ι×Nat×Nat)=>∃ f,(ad ++ [a_Looker___init__,a_Looker_look,a_Looker_hold,a_Looker_hold_choice,a_Looker_want,a_Giver___init__,a_Giver_give_all,a_Giver_give_in_call,a_Walker___init__,a_Walker_come_to,a_Walker_value_of,a_Walker_called])[q.2.2]? = some f∧o6 X T.an q.1 q.2.1 f) (show e9 _ 0 T.me from ⟨⟨a_Looker_look,bY (n:=59) (k:=1) hF.len,⟨_,_,rfl,Cy,rfl,M_Looker_look,(show ("look":ι) ∉ (["kinds","wanted"]:List ι) by decide +kernel)⟩⟩,⟨a_Looker_hold,bY (n:=59) (k:=2) hF.len,⟨_,_,rfl,Cy,rfl,M_Looker_hold,(show ("hold":ι) ∉ (["kinds","wanted"]:List ι) by decide +kernel)⟩⟩,⟨a_Looker_hold_choice,bY (n:=59) (k:=3) hF.len,⟨_,_,rfl,Cy,rfl,M_Looker_hold_choice,(show ("hold_choice":ι) ∉ (["kinds","wanted"]:List ι) by decide +kernel)⟩⟩,⟨a_Looker_want,bY (n:=59) (k:=4) hF.len,⟨_,_,rfl,Cy,rfl,M_Looker_want,(show ("want":ι) ∉ (["kinds","wanted"]:List ι) by decide +kernel)⟩⟩,⟨a_Giver_give_all,bY (n:=59) (k:=6) hF.len,⟨_,_,rfl,CG,rfl,M_Giver_give_all,(show ("give_all":ι) ∉ (["left","together","notes"]:List ι) by decide +kernel)⟩⟩,⟨a_Giver_give_in_call,bY (n:=59) (k:=7) hF.len,⟨_,_,rfl,CG,rfl,M_Giver_give_in_call,(show ("give_in_call":ι) ∉ (["left","together","notes"]:List ι) by decide +kernel)⟩⟩,⟨a_Walker_come_to,bY (n:=59) (k:=9) hF.len,⟨_,_,rfl,CC,rfl,M_Walker_come_to,(show ("come_to":ι) ∉ (["looks","numbers","giver"]:List ι) by decide +kernel)⟩⟩,⟨a_Walker_value_of,bY (n:=59) (k:=10) hF.len,⟨_,_,rfl,CC,rfl,M_Walker_value_of,(show ("value_of":ι) ∉ (["looks","numbers","giver"]:List ι) by decide +kernel)⟩⟩,⟨a_Walker_called,bY (n:=59) (k:=11) hF.len,⟨_,_,rfl,CC,rfl,M_Walker_called,(show ("called":ι) ∉ (["looks","numbers","giver"]:List ι) by decide +kernel)⟩⟩,trivial⟩) e
  ·exact dL (P:=fun (j:Nat) (x:ι)=>x≠("":ι)→∃ f i cl,(ad ++ [a_Looker___init__,a_Looker_look,a_Looker_hold,a_Looker_hold_choice,a_Looker_want,a_Giver___init__,a_Giver_give_all,a_Giver_give_in_call,a_Walker___init__,a_Walker_come_to,a_Walker_value_of,a_Walker_called])[cl.init]? = some f∧Mk K i.ad f∧Γ.cl[j]? = some cl∧cl.what=0∧X.W.ci[j]? = some i∧X.W.what[j]? = some 0∧mg x=some (.ref i.ad)) (show e9 _ 0 T.nw from ⟨(fun z=>ZX rfl z),(fun _=>⟨a_Looker___init__,⟨C_Looker,_⟩,_,bY (n:=59) (k:=0) hF.len,⟨Cz.mks,M_Looker___init__.at_,M_Looker___init__.fn,Cz.kp⟩,rfl,rfl,rfl,rfl,Ù Y G Cz.a⟩),(fun z=>ZX rfl z),(fun z=>ZX rfl z),(fun _=>⟨a_Giver___init__,⟨C_Giver,_⟩,_,bY (n:=59) (k:=5) hF.len,⟨CE.mks,M_Giver___init__.at_,M_Giver___init__.fn,CE.kp⟩,rfl,rfl,rfl,rfl,Ù Y G CE.a⟩),(fun _=>⟨a_Walker___init__,⟨C_Walker,_⟩,_,bY (n:=59) (k:=8) hF.len,⟨CB.mks,M_Walker___init__.at_,M_Walker___init__.fn,CB.kp⟩,rfl,rfl,rfl,rfl,Ù Y G CB.a⟩),trivial⟩) e hz
  ·exact dL (P:=fun (j:Nat) (x:ι)=>x≠("":ι)→∃ f fd ps i cl,FnI X 1 f fd ps i.nm none∧bS K fd ps []∧Mk K i.ad f∧Cls K i.ad∧(∀ f∈i.nm,cy K i.ad f)∧Γ.cl[j]? = some cl∧X.W.ci[j]? = some i∧X.W.what[j]? = some 1∧i.nm.length=cl.at_.length∧mg x=some (.ref i.ad)) (show e9 _ 0 T.nd from ⟨(fun z=>ZX rfl z),(fun z=>ZX rfl z),(fun z=>ZX rfl z),(fun _=>⟨a_Value___init__,fd_Value___init__,_,⟨C_Value,_⟩,_,(ji (X:=X) (nm:=["head","held","guards","tag"]) none F_Value___init__ (by kernel_rfl)).1,(ji (X:=X) (nm:=["head","held","guards","tag"]) none F_Value___init__ (by kernel_rfl)).2,⟨CA.mks,M_Value___init__.at_,M_Value___init__.fn,CA.kp⟩,CA.cls,na_Value.at,rfl,rfl,rfl,rfl,Ù Y G CA.a⟩),(fun z=>ZX rfl z),(fun z=>ZX rfl z),trivial⟩) e hz
  ·exact dL (P:=fun (j:Nat) (x:ι)=>x≠("":ι)→∃ (k:Cl) (i:CI) (fI:Δ) (fd:Þ) (ps:List ι) (Bx nwI iniI:String) (bmB:List ζ),Ĥ Bx nwI iniI bmB∧gY K i.ad fI bmB nwI∧FnJ X 1 fI fd ps i.nm k i.ad∧bS K fd ps []∧fJ K i.ad∧(∀ f∈i.nm,Ν K (.ref i.ad) f=some none)∧Γ.cl[j]? = some k∧X.W.ci[j]? = some i∧X.W.what[j]? = some 2∧i.nm.length=k.at_.length∧ϥ K i.ad (.type "BaseException")=some true∧þ K (.ref i.ad)=some (.type "type")∧ϕ K (.ref i.ad)=true∧mg x=some (.ref i.ad)∧k.at_.isEmpty=false) (show e9 _ 0 T.ex from ⟨(fun z=>ZX rfl z),(fun z=>ZX rfl z),(fun _=>⟨_,⟨C_Ended,_⟩,fi_Ended,CH,_,_,_,_,_,PySem.F.excBase_Exception,Cw.own,⟨_,(ji (X:=X) (nm:=["outcome"]) none Fi_Ended (by kernel_rfl)).1,.inl rfl⟩,(ji (X:=X) (nm:=["outcome"]) none Fi_Ended (by kernel_rfl)).2,Cw.st,na_Ended.at,rfl,rfl,rfl,rfl,Cw.fd.be,Cw.ec.ty,Cw.kp,Ù Y G Cw.a,rfl⟩),(fun z=>ZX rfl z),(fun z=>ZX rfl z),(fun z=>ZX rfl z),trivial⟩) e hz
  ·exact dL (P:=fun (j:Nat) (x:ι)=>x≠("":ι)→qp X j x) (show e9 _ 0 T.hx from ⟨(fun _=>⟨⟨C_BlameError,_⟩,rfl,Ù Y G Cv.a,Cv.ec,fun c k ic h1 h2 h3=>dL (P:=fun (c:Nat) (k:Cl)=>∀ ic,X.W.ci[c]? = some ic→X.W.what[c]? = some 2→ϥ K ic.ad (.ref C_BlameError)=some (c == 0 || k.sup.contains 0)) (show e9 _ 0 Γ.cl from ⟨(fun _ e _=>by cases e;exact T'.mr.at (by decide +kernel) Cv.a Cv.a),(fun _ _ z=>ZX z (by show some 0≠some 2;decide)),(fun _ e _=>by cases e;exact T'.mr.at (by decide +kernel) Cw.a Cv.a),(fun _ _ z=>ZX z (by show some 1≠some 2;decide)),(fun _ _ z=>ZX z (by show some 0≠some 2;decide)),(fun _ _ z=>ZX z (by show some 0≠some 2;decide)),trivial⟩) h1 ic h2 h3⟩),(fun z=>ZX rfl z),(fun _=>⟨⟨C_Ended,_⟩,rfl,Ù Y G Cw.a,Cw.ec,fun c k ic h1 h2 h3=>dL (P:=fun (c:Nat) (k:Cl)=>∀ ic,X.W.ci[c]? = some ic→X.W.what[c]? = some 2→ϥ K ic.ad (.ref C_Ended)=some (c == 2 || k.sup.contains 2)) (show e9 _ 0 Γ.cl from ⟨(fun _ e _=>by cases e;exact T'.mr.at (by decide +kernel) Cv.a Cw.a),(fun _ _ z=>ZX z (by show some 0≠some 2;decide)),(fun _ e _=>by cases e;exact T'.mr.at (by decide +kernel) Cw.a Cw.a),(fun _ _ z=>ZX z (by show some 1≠some 2;decide)),(fun _ _ z=>ZX z (by show some 0≠some 2;decide)),(fun _ _ z=>ZX z (by show some 0≠some 2;decide)),trivial⟩) h1 ic h2 h3⟩),(fun z=>ZX rfl z),(fun z=>ZX rfl z),(fun z=>ZX rfl z),trivial⟩) e hz
  ·exact dL (P:=fun (j:Nat) (x:ι)=>x≠("":ι)→RtP X j x) (show e9 _ 0 T.xt from ⟨(fun z=>ZX rfl z),(fun z=>ZX rfl z),(fun z=>ZX rfl z),(fun z=>ZX rfl z),(fun z=>ZX rfl z),(fun z=>ZX rfl z),trivial⟩) e hz
 obtain ⟨f,h1,h2⟩:=qu hG (j:=58) (x:="law") rfl
 rw [hfa] at h2
 cases h2
 exact ⟨X,rfl,rfl,rfl,rfl,rfl,rfl,rfl,jO Pg 250 58 fa (ϊ (τ.mp h1).1 ▸ h1)⟩
theorem walk {l:ET} {q:ϸ} {loose:List ι} {XP:(ι→Option ζ)→Ϸ→Prop} {YP:Ü→Ϸ→Prop} {d:DefRec} {K:Params→υ} (hn:l.most=some 63) (hdf:d.params.defaults = []) (hd:d.name = "law")
 (hY:∀ (w:Ü) (h:Ϸ),YP w h→(K w.params).In h) (F:∀ (w:Ü) (h:Ϸ) (Y:(K w.params).In h),Txt (KOf Y)):Fi q loose XP YP l.row.toRowW d [] (fun f vs=>EC f vs):=
 vH (n:=63) hn (by decide) hdf ⟨rfl,by decide,by decide⟩ hY (fun w mg fa h os Y G e md=>wJ Y G (hd ▸ e) (F w h Y)) (fun ns _=>xM ns)
end L2.K63
end
section
open PySem PySem.W PyProof.Rows
namespace PySem.W.Fast
def tw11746221462381072510:Nat:=0
def tw16246283521637488836:Nat:=0
def tw7555270657578905828:Nat:=0
def tw8954767703862933328:Nat:=0
def tw6289980349963212068:Nat:=0
def tw938484416024492916:Nat:=0
def tw3247314141076261152:Nat:=0
def tw5322116230905793043:Nat:=0
def tw10379270292664151414:Nat:=0
def tw2817869480182562505:Nat:=0
def tw14716805446020546469:Nat:=0
def tw106583078471895096:Nat:=0
def tw7658124128258235587:Nat:=0
def tw14019573113944501743:Nat:=0
def tw16305742090146843069:Nat:=0
def tw8844002421797492976:Nat:=0
def tw7273468612282502220:Nat:=0
def tw10813103860516109240:Nat:=0
def tw16115996492290790302:Nat:=0
def tw2115292717074103683:Nat:=0
def tw1054316934739395423:Nat:=0
def tw3910335022172110349:Nat:=0
def tw17871461579380063511:Nat:=0
def tw8062828335282780671:Nat:=0
def tw11683165012520077435:Nat:=0
def tw8205661490577206601:Nat:=0
def tw18326706204500922134:Nat:=0
def tw15293375276671751245:Nat:=0
def tw13465147978677768067:Nat:=0
def tw13775720403770178890:Nat:=0
def tw3665655153235977437:Nat:=0
def tw11522240644319986377:Nat:=0
def tw6932003718744887190:Nat:=0
def tw6600568526509177114:Nat:=0
def tw12739840434645922500:Nat:=0
def tw17148595126975690089:Nat:=0
def tw14110535101401720472:Nat:=0
def tw8749763898007118927:Nat:=0
def tw14206911065820316693:Nat:=0
def tw921205580038502383:Nat:=0
def tw11168492356099491080:Nat:=0
def tw12449754707977659733:Nat:=0
def tw9494156021323198159:Nat:=0
def tw15091888050983341301:Nat:=0
def tw7298061496103024802:Nat:=0
def tw8707054476222189809:Nat:=0
def tw9879972201818412545:Nat:=0
def tw9385927710298123020:Nat:=0
def tw302187584675270725:Nat:=0
def tw2167787300117129044:Nat:=0
def tw11794663606998222859:Nat:=0
def tw3906734805591606174:Nat:=0
def tw9506212337337826308:Nat:=0
def tw14547922261007904032:Nat:=0
def tw9820879187557595140:Nat:=0
def tw12059020410054981656:Nat:=0
def tw8761038048001481266:Nat:=0
def tw11483731561311751385:Nat:=0
def tw16180296006041456253:Nat:=0
def tw5385962826350751229:Nat:=0
def tw11690944442394371203:Nat:=0
def tw1364459294523767678:Nat:=0
def tw3864800597655619079:Nat:=0
def tw315231384539361377:Nat:=0
def tw5195287947383758673:Nat:=0
def tw4938426345844911675:Nat:=0
def tw16442710581250106887:Nat:=0
def tw16991833802750091712:Nat:=0
def tw414984842870131762:Nat:=0
def tw7425251853124887616:Nat:=0
def tw14913955476639866131:Nat:=0
def tw14751368679373265126:Nat:=0
def tw8146460427806660482:Nat:=0
def tw18309477405715943929:Nat:=0
def tw15013566739279247478:Nat:=0
def tw15971780224346781481:Nat:=0
def tw2854281207068866673:Nat:=0
def tw13624703276285387825:Nat:=0
def tw8251321912518544506:Nat:=0
def tw11121145955293631428:Nat:=0
def tw7542027933178944876:Nat:=0
def tw9481184108184684845:Nat:=0
def tw2697849511620501054:Nat:=0
def tw8328160961382087313:Nat:=0
def tw6298334565584045999:Nat:=0
def tw13401434217878280795:Nat:=0
def tw7473918557837823826:Nat:=0
def tw14523005209916633699:Nat:=0
def tw9603654458364415865:Nat:=0
def tw529955230384451779:Nat:=0
def tw6364443418972801285:Nat:=0
def tw8155326533687287125:Nat:=0
def tw8825853183814117469:Nat:=0
def tw16915123189317251589:Nat:=0
def tw13300771478140312274:Nat:=0
def tw13269749316074876890:Nat:=0
def tw13104817517456226815:Nat:=0
def tw18196049198574577469:Nat:=0
def tw1792595025545875267:Nat:=0
def tw18311384471918256159:Nat:=0
def tw18015047664997864896:Nat:=0
def tw11014276142508464888:Nat:=0
def tw16126478671317333501:Nat:=0
def tw1888275888074267154:Nat:=0
def tw8299753545611521253:Nat:=0
def tw382532616602492022:Nat:=0
def tw17496442821658287638:Nat:=0
def tw4160148029902867203:Nat:=0
def tw18047322539596841483:Nat:=0
def tw8355884374209796783:Nat:=0
def tw6370930912241428379:Nat:=0
def tw16950776958169735959:Nat:=0
def tw8436478359154779572:Nat:=0
def tw4912333963870660087:Nat:=0
def tw11907054232687041323:Nat:=0
def tw5344080624241316262:Nat:=0
def tw3550745891823845150:Nat:=0
def tw11375890058656283903:Nat:=0
def tw10773962326366858706:Nat:=0
def tw16102362516621809022:Nat:=0
def tw2587769270113340204:Nat:=0
def tw5847077525877015742:Nat:=0
def tw3883366586358588820:Nat:=0
def tw7486591577955511828:Nat:=0
def tw5729419078612213561:Nat:=0
def tw7069746690705118676:Nat:=0
def tw606044420426466372:Nat:=0
def tw1963905630871315683:Nat:=0
def tw4393072479477712910:Nat:=0
def tw5716926872638142738:Nat:=0
def tw13928244310760199462:Nat:=0
def tw18180854005960297006:Nat:=0
def tw6279057812531308996:Nat:=0
def tw4766301099231132155:Nat:=0
def tw12328764362803175834:Nat:=0
def tw10093603070672435105:Nat:=0
def tw1649679822189342297:Nat:=0
def tw9004859936841978034:Nat:=0
def tw10958302702229378406:Nat:=0
def tw18076804183673248161:Nat:=0
def tw9667830889962650878:Nat:=0
def tw11841391206274359920:Nat:=0
def tw7922288452345335257:Nat:=0
def tw13933833514848033378:Nat:=0
def tw16093637238971506711:Nat:=0
def tw2189513486887396175:Nat:=0
def tw10960585644382040662:Nat:=0
def tw1020766580563926818:Nat:=0
def tw15743701383932321610:Nat:=0
def tw17731119957178824196:Nat:=0
def tw3597110034204541548:Nat:=0
def tw2222384146512564374:Nat:=0
def tw76784260382253680:Nat:=0
def tw395980311243694178:Nat:=0
def tw18241795692746207494:Nat:=0
def tw248836946689603013:Nat:=0
def tw1444248807146984367:Nat:=0
def tw16076407607338863295:Nat:=0
def tw351456258077858809:Nat:=0
def tw2543388986750095888:Nat:=0
def tw13163469385837831442:Nat:=0
def tw3622070788814838645:Nat:=0
def tw2398983905144614322:Nat:=0
def tw7765022388863156067:Nat:=0
def tw7863388770706443715:Nat:=0
def tw14225156442598283033:Nat:=0
def tw9250758240165332998:Nat:=0
def tw14702539329755042696:Nat:=0
def tw8013033621029591000:Nat:=0
def tw12387353534847213906:Nat:=0
def tw12696346992742374747:Nat:=0
def tw6910609528981450815:Nat:=0
def tw8892596106057704643:Nat:=0
def tw12047827282471051810:Nat:=0
def tw9239165494324843797:Nat:=0
def tw16857342969438659722:Nat:=0
def tw14198141527228818194:Nat:=0
def tw643762197358743157:Nat:=0
def tw1328902374925003968:Nat:=0
def tw12985942203426184782:Nat:=0
def tw11552654095796945063:Nat:=0
def tw10692921043696595869:Nat:=0
def tw17864802222480074384:Nat:=0
def tw16261517559212473544:Nat:=0
def tw15636289784771571522:Nat:=0
def tw11114832123807840296:Nat:=0
def tw2182781277976400611:Nat:=0
def tw16327065014031134136:Nat:=0
def tw4781999976758933873:Nat:=0
def tw17029637015652756111:Nat:=0
def tw15135745721651306676:Nat:=0
def tw5798149114386751166:Nat:=0
def tw18012199614002319588:Nat:=0
def tw9148988777638924658:Nat:=0
def tw14804281060104497928:Nat:=0
def tw18292152936741390778:Nat:=0
def tw9101193134093180332:Nat:=0
def tw663591679785487963:Nat:=0
def tw10077545494987657808:Nat:=0
def tw8133786463610177139:Nat:=0
def tw954648636677019831:Nat:=0
def tw2972620112158816042:Nat:=0
def tw846480396596493936:Nat:=0
def tw4926438972285154383:Nat:=0
def tw4598040056722669578:Nat:=0
def tw9559642666929910592:Nat:=0
def tw17651522623920580919:Nat:=0
def tw6103314545489615344:Nat:=0
def tw17964717962143056776:Nat:=0
def tw7853412859170463231:Nat:=0
def tw6379779747329798778:Nat:=0
def tw4873721490568508407:Nat:=0
def tw15024054332169782727:Nat:=0
def tw13800627399286132862:Nat:=0
def tw2680282238755516873:Nat:=0
def tw4106493686018876599:Nat:=0
def tw6395818675339506199:Nat:=0
def tw9666460353174694642:Nat:=0
def tw15942399253821705601:Nat:=0
def tw8309783462522587633:Nat:=0
def tw3392731914521337681:Nat:=0
def tw205657719577248668:Nat:=0
def tw16675399670817923588:Nat:=0
def tw2940238127294132065:Nat:=0
def tw12840995364987302692:Nat:=0
def tw3230164980972665996:Nat:=0
def tw11567194065388467158:Nat:=0
def tw14208249909338311838:Nat:=0
def tw15692138358129301948:Nat:=0
def tw12775474663748742145:Nat:=0
def tw11206169441823192632:Nat:=0
def tw10911610562076626130:Nat:=0
def tw3527918483856697318:Nat:=0
def tw792597944037957286:Nat:=0
def tw13330796199283945437:Nat:=0
def tw5640098976163069618:Nat:=0
def tw8273144955208463373:Nat:=0
def tw6108549593590711915:Nat:=0
def tw17221255542257379695:Nat:=0
def tw12624134495579155619:Nat:=0
def tw516871777382215628:Nat:=0
def tw8623273482140759310:Nat:=0
def tw14816912089445871478:Nat:=0
def tw7033832239249201805:Nat:=0
def tw14980567561389022651:Nat:=0
def tw10066512509449883798:Nat:=0
def tw2855949344511002415:Nat:=0
def tw11006030780052304211:Nat:=0
def tw15738008028088571349:Nat:=0
def tw12373222631604302561:Nat:=0
def tw2504171468354401633:Nat:=0
def tw5713591411124336170:Nat:=0
def tw9555123958584857193:Nat:=0
def tw10086217163770282772:Nat:=0
def tw9154355737468038293:Nat:=0
def tw1541019578595674232:Nat:=0
def tw2653236813711913257:Nat:=0
def tw8486077454115629870:Nat:=0
def tw16327444258864662272:Nat:=0
def tw5209609203831578043:Nat:=0
def tw10780192733169467158:Nat:=0
def tw16868428079935378125:Nat:=0
def tw4016077923458503724:Nat:=0
def tw14718158401980613232:Nat:=0
def tw7336635262777733872:Nat:=0
def tw12600086829720690624:Nat:=0
def tw12226933548754352587:Nat:=0
def tw13109691424073015697:Nat:=0
def tw12842130781393206482:Nat:=0
def tw13957426689301336769:Nat:=0
def tw12213613463226026155:Nat:=0
def tw17217328475551474321:Nat:=0
def tw14535815630541074259:Nat:=0
def tw15119297824969353846:Nat:=0
def tw14866225637756153652:Nat:=0
def tw10842933401887204890:Nat:=0
def tw17860212552885677126:Nat:=0
def tw9386652328045357072:Nat:=0
def tw3531325328718222799:Nat:=0
def tw4045849829073869567:Nat:=0
def tw1539091710197961808:Nat:=0
def tw1242223871073409389:Nat:=0
def tw5110027205373378877:Nat:=0
def tw18405873856470869130:Nat:=0
def tw7870282246757727239:Nat:=0
def tw16399069419330502913:Nat:=0
def tw7028642307726582139:Nat:=0
def tw6745199498102169716:Nat:=0
def tw6173426700046775799:Nat:=0
def tw1022718301874539791:Nat:=0
def tw7173678625557877742:Nat:=0
def tw4090996654783581863:Nat:=0
def tw4332444525689099857:Nat:=0
def tw17023919349641318531:Nat:=0
def tw14912021550909688813:Nat:=0
def tw17248226608901806748:Nat:=0
def tw16507318630857946877:Nat:=0
def tw9118530869386843303:Nat:=0
def tw1540780918540065083:Nat:=0
def tw12880328515488839260:Nat:=0
def tw7171338444622122277:Nat:=0
def tw15698675511935318463:Nat:=0
def tw8229612095673597027:Nat:=0
def tw7956661231559054864:Nat:=0
def tw16902686015631205865:Nat:=0
def tw13243422982138858272:Nat:=0
def tw13036797517412406231:Nat:=0
def tw12808256642476408673:Nat:=0
def tw12463027161260018602:Nat:=0
def tw11168676727110808609:Nat:=0
def tw3673121911036078855:Nat:=0
def tw10970732351309848219:Nat:=0
def tw6940926129445772429:Nat:=0
def tw5094674381685961480:Nat:=0
def tw2078743707936400347:Nat:=0
def tw2310183169942600943:Nat:=0
def tw17892142914383773031:Nat:=0
def tw7456747505163999831:Nat:=0
def tw12903595504417148757:Nat:=0
def tw12370690051598588086:Nat:=0
def tw7232799088295327776:Nat:=0
def tw18283779146331388980:Nat:=0
def tw9805869455873418552:Nat:=0
def tw732183744377883532:Nat:=0
def tw16029175489387476348:Nat:=0
def tw4200329138477265639:Nat:=0
def tw16069552449207435751:Nat:=0
def tw13361317894464487007:Nat:=0
def tw17776169808235247544:Nat:=0
def tw8915892129322092863:Nat:=0
def tw11596268772200154870:Nat:=0
def tw875768208947317803:Nat:=0
def tw5465144105459716912:Nat:=0
def tw4983711269325389098:Nat:=0
def tw3575020506045578058:Nat:=0
def tw2783254042133047291:Nat:=0
def tw2262190430145569637:Nat:=0
def tw18054008489073737269:Nat:=0
def tw17546420712060191269:Nat:=0
def tw1439611708816215621:Nat:=0
def tw13959623117900874774:Nat:=0
def tw11986937611763589498:Nat:=0
def tw10792940379707604742:Nat:=0
def tw10545567569509854557:Nat:=0
def tw14995251396986039548:Nat:=0
def tw2528303297934594282:Nat:=0
def tw52390393414147302:Nat:=0
def tw17626535034276793388:Nat:=0
def tw7816100444626621949:Nat:=0
def tw18318697313591967708:Nat:=0
def tw7413675741263305157:Nat:=0
def tw14731095201107897470:Nat:=0
def tw1963793898002096804:Nat:=0
def tw11174295957811533672:Nat:=0
def tw17802466970808785798:Nat:=0
def tw14990863057272345586:Nat:=0
def tw8643504706675202297:Nat:=0
def tw5143546311269192794:Nat:=0
def tw4609063645732618612:Nat:=0
def tw242925637946495916:Nat:=0
def tw18066621973888036360:Nat:=0
def tw16492583785793916303:Nat:=0
def tw1580284109001151951:Nat:=0
def tw14626112330642279073:Nat:=0
def tw11726472338991871385:Nat:=0
def tw11068992296085953499:Nat:=0
def tw16431844665044029630:Nat:=0
def tw7797804843600224039:Nat:=0
def tw8555199522961744411:Nat:=0
def tw14491736097672158747:Nat:=0
def tw7349792416471989761:Nat:=0
def tw15168603135616735409:Nat:=0
def tw150904960764919173:Nat:=0
def tw1154294754421441847:Nat:=0
def tw12814368045951860666:Nat:=0
def tw9578397909208417147:Nat:=0
def tw8538696136257233513:Nat:=0
def tw8441828119880223993:Nat:=0
def tw2578119843542841918:Nat:=0
def tw2157694781892609830:Nat:=0
def tw1918066284182327422:Nat:=0
def tw16465855219304918368:Nat:=0
def tw16213716940100313926:Nat:=0
def tw15762939512998861023:Nat:=0
def tw13605510454870486299:Nat:=0
def tw10155560098545083211:Nat:=0
def tw9984045809244896996:Nat:=0
def tw781319739050616432:Nat:=0
def tw16516440155478398071:Nat:=0
def tw8311688784995725812:Nat:=0
def tw7967770540408042840:Nat:=0
def tw6439895251255408707:Nat:=0
def tw4390392017110134168:Nat:=0
def tw3178774533717868714:Nat:=0
def tw3150067551180267191:Nat:=0
def tw16689277282923270041:Nat:=0
def tw16671437275553638164:Nat:=0
def tw15769430098876717617:Nat:=0
def tw13954538279880513637:Nat:=0
def tw1358618920498709689:Nat:=0
def tw13514512060655738059:Nat:=0
def tw133921882946372033:Nat:=0
def tw13198123370449666513:Nat:=0
def tw12549894909357480414:Nat:=0
def tw12170347761863972913:Nat:=0
def tw1125488750333726389:Nat:=0
def tw10286853343656484044:Nat:=0
def tw837819872610702811:Nat:=0
def tw3196839525537638095:Nat:=0
def tw5179874788744516025:Nat:=0
def tw10249720905706777297:Nat:=0
def tw9852406868250227104:Nat:=0
def tw9549110889524496035:Nat:=0
def tw9360455929558146845:Nat:=0
def tw8760394831424853574:Nat:=0
def tw8760003552365664760:Nat:=0
def tw8533257657368622998:Nat:=0
def tw8505998278574795771:Nat:=0
def tw8334546947972609524:Nat:=0
def tw8079109442811816585:Nat:=0
def tw7751285110720917950:Nat:=0
def tw6700130295298703737:Nat:=0
def tw6258288753719624009:Nat:=0
def tw6063775035678032404:Nat:=0
def tw5820949643893454198:Nat:=0
def tw5114929369380937707:Nat:=0
def tw4449773783108068749:Nat:=0
def tw443930198246706167:Nat:=0
def tw4319553026010014905:Nat:=0
def tw430155549730696875:Nat:=0
def tw3945486627308971572:Nat:=0
def tw3797902525264981768:Nat:=0
def tw243518681003155262:Nat:=0
def tw2142647184653641766:Nat:=0
def tw2118374753431943211:Nat:=0
def tw1892327207349408589:Nat:=0
def tw17757525544223208415:Nat:=0
def tw17632275450252531380:Nat:=0
def tw17505764827163765258:Nat:=0
def tw17067137637290998980:Nat:=0
def tw16928771024365797873:Nat:=0
def tw16872900910553982892:Nat:=0
def tw16469351842644806744:Nat:=0
def tw1646661816676163569:Nat:=0
def tw16363289565918553573:Nat:=0
def tw16221124174449126103:Nat:=0
def tw15367685899904031130:Nat:=0
def tw15196432917038056214:Nat:=0
def tw15069307076252545213:Nat:=0
def tw14996418038731847686:Nat:=0
def tw13776842235951453763:Nat:=0
def tw12964967071828925541:Nat:=0
def tw12356562100556069508:Nat:=0
def tw12227443486027296683:Nat:=0
def tw11346936919391088917:Nat:=0
def tw11119764365099704141:Nat:=0
def tw10937487096424288441:Nat:=0
def tw10642380371117007419:Nat:=0
def tw10596922632214098308:Nat:=0
def tw10440846034701609615:Nat:=0
def tw914704808230459129:Nat:=0
def tw18173762830606361310:Nat:=0
def tw10001461874344840379:Nat:=0
def tw13220483978714010334:Nat:=0
def tw5042050646371297396:Nat:=0
def tw5734111897812642337:Nat:=0
def tw9755663222261349984:Nat:=0
def tw965849303385069550:Nat:=0
def tw18363814347314494466:Nat:=0
def tw1012099232436651310:Nat:=0
def tw4713837538656280723:Nat:=0
def tw10055788402140574484:Nat:=0
def tw2457372724820237543:Nat:=0
def tw13960137163415123068:Nat:=0
def tw13769031257368003266:Nat:=0
def tw9564750701089916914:Nat:=0
def tw8104904418958676542:Nat:=0
def tw7544357366405492653:Nat:=0
def tw7483592428499141580:Nat:=0
def tw706545245587094672:Nat:=0
def tw5821700898285174392:Nat:=0
def tw4565534167922839001:Nat:=0
def tw4048167036622452880:Nat:=0
def tw3683719911133199655:Nat:=0
def tw16950146761588200083:Nat:=0
def tw15282074809164697872:Nat:=0
def tw14386242516208575695:Nat:=0
def tw1115220668871213008:Nat:=0
def tw12010214177096361632:Nat:=0
def tw8748892242237612900:Nat:=0
def tw5950777650844778474:Nat:=0
def tw5555833272570797781:Nat:=0
def tw10765576088526274695:Nat:=0
def tw2719392366947440797:Nat:=0
def tw10437161415384090404:Nat:=0
def tw1822974789943430018:Nat:=0
def tw10880555885751074532:Nat:=0
def tw410725644043434102:Nat:=0
def tw13132775040182874597:Nat:=0
def tw11166859880718273405:Nat:=0
end PySem.W.Fast
set_option maxRecDepth 100000 in
set_option maxHeartbeats 0 in
theorem PySem.Challenge.cw_blamewise_k63_told_is_plain_holds : PySem.Challenge.rw_blamewise_k63_told_is_plain.Holds := by
 w_on;o_law;k_head;(case hw=>w_witness2)
 k_fill
 refine L2.K63.walk (l:=PySem.Challenge.rw_blamewise_k63_told_is_plain) rfl rfl rfl (fun w h Y=>PySem.W.kIn_of Y) ?F
 case F=>
  intro w h KX
  dsimp only [L2.Ev.KOf]
  refine' L2.K63.Txt.mk ?fn ?gl ?tl ?bl ?mr ?x_BlameError ?x_Looker ?x_Ended ?x_Value ?x_Giver ?x_Walker
  (case fn=>(repeat (first | (apply L2.Ev.hl_cons;(case a=>k_is);(case l=>k_is);(case c=>k_is);(case k=>k_is);(case d=>kernel_rfl)) | (apply L2.Ev.hl_consD;(case a=>k_is);(case l=>k_is);(case c=>k_is);(case k=>k_is);(case g=>k_is);(case d=>kernel_rfl))));exact trivial)
  (case gl=>(repeat (apply L2.Ev.gl_cons;(case a=>k_is);(case b=>kernel_rfl)));exact trivial)
  (case tl=>(repeat (apply L2.Ev.tb_cons;(case a=>k_is);(case b=>kernel_rfl)));exact trivial)
  (case bl=>(repeat (apply L2.Ev.nl_cons;(case a=>k_is)));exact trivial)
  (case mr=>(repeat (apply L2.Ev.mr_cons;(case a=>k_is);(case b=>k_is);(case c=>k_is)));exact trivial)
  (case x_BlameError=>(refine' ⟨_,L2.Ev.xb_mk ?a ?ga ?gn ?cl ?sg ?tk ?ob ?be ?is ?tyC ?hh,trivial⟩;(case a=>k_is);(case ga=>k_is);(case gn=>k_is);(case cl=>k_is);(case sg=>k_is);(case tk=>k_is);(case ob=>k_is);(case be=>k_is);(case is=>kernel_rfl);(case tyC=>k_is);(case hh=>k_is)))
  (case x_Looker=>(refine' ⟨_,_,_,_,_,_,L2.Ev.cc_mk ?a ?pg ?hd ?po ?sa ?mk ?kp,⟨?n0,?n1,trivial⟩,L2.Ev.me_mk ?at0 ?fl0 ?fn0 ?fc0 ?fk0,L2.Ev.me_mk ?at1 ?fl1 ?fn1 ?fc1 ?fk1,L2.Ev.me_mk ?at2 ?fl2 ?fn2 ?fc2 ?fk2,L2.Ev.me_mk ?at3 ?fl3 ?fn3 ?fc3 ?fk3,L2.Ev.me_mk ?at4 ?fl4 ?fn4 ?fc4 ?fk4⟩;(case a=>k_is);(case pg=>k_is);(case hd=>k_is);(case po=>k_is);(case sa=>k_is);(case mk=>k_is);(case kp=>k_is);(case n0=>k_is);(case n1=>k_is);(case at0=>k_is);(case fl0=>k_is);(case fn0=>k_is);(case fc0=>k_is);(case fk0=>k_is);(case at1=>k_is);(case fl1=>k_is);(case fn1=>k_is);(case fc1=>k_is);(case fk1=>k_is);(case at2=>k_is);(case fl2=>k_is);(case fn2=>k_is);(case fc2=>k_is);(case fk2=>k_is);(case at3=>k_is);(case fl3=>k_is);(case fn3=>k_is);(case fc3=>k_is);(case fk3=>k_is);(case at4=>k_is);(case fl4=>k_is);(case fn4=>k_is);(case fc4=>k_is);(case fk4=>k_is)))
  (case x_Ended=>(refine' ⟨_,_,L2.Ev.xc_mk ?a ?l ?t ?ini ?fl ?fn ?fc ?fk ?ga ?gn ?cl ?sg ?tk ?ob ?be ?is ?kp ?tyC ?sa ?ov ?hdc ?hh ?me,?n0,trivial⟩;(case a=>k_is);(case l=>k_is);(case t=>kernel_rfl);(case ini=>k_is);(case fl=>k_is);(case fn=>k_is);(case fc=>k_is);(case fk=>k_is);(case ga=>k_is);(case gn=>k_is);(case cl=>k_is);(case sg=>k_is);(case tk=>k_is);(case ob=>k_is);(case be=>k_is);(case is=>kernel_rfl);(case kp=>k_is);(case tyC=>k_is);(case sa=>k_is);(case ov=>kernel_rfl);(case hdc=>kernel_rfl);(case hh=>k_is);(case me=>k_is);(case n0=>k_is)))
  (case x_Value=>(refine' ⟨_,_,L2.Ev.cc_mk ?a ?pg ?hd ?po ?sa ?mk ?kp,⟨?n0,?n1,?n2,?n3,trivial⟩,L2.Ev.me_mk ?at0 ?fl0 ?fn0 ?fc0 ?fk0⟩;(case a=>k_is);(case pg=>k_is);(case hd=>k_is);(case po=>k_is);(case sa=>k_is);(case mk=>k_is);(case kp=>k_is);(case n0=>k_is);(case n1=>k_is);(case n2=>k_is);(case n3=>k_is);(case at0=>k_is);(case fl0=>k_is);(case fn0=>k_is);(case fc0=>k_is);(case fk0=>k_is)))
  (case x_Giver=>(refine' ⟨_,_,_,_,L2.Ev.cc_mk ?a ?pg ?hd ?po ?sa ?mk ?kp,⟨?n0,?n1,?n2,trivial⟩,L2.Ev.me_mk ?at0 ?fl0 ?fn0 ?fc0 ?fk0,L2.Ev.me_mk ?at1 ?fl1 ?fn1 ?fc1 ?fk1,L2.Ev.me_mk ?at2 ?fl2 ?fn2 ?fc2 ?fk2⟩;(case a=>k_is);(case pg=>k_is);(case hd=>k_is);(case po=>k_is);(case sa=>k_is);(case mk=>k_is);(case kp=>k_is);(case n0=>k_is);(case n1=>k_is);(case n2=>k_is);(case at0=>k_is);(case fl0=>k_is);(case fn0=>k_is);(case fc0=>k_is);(case fk0=>k_is);(case at1=>k_is);(case fl1=>k_is);(case fn1=>k_is);(case fc1=>k_is);(case fk1=>k_is);(case at2=>k_is);(case fl2=>k_is);(case fn2=>k_is);(case fc2=>k_is);(case fk2=>k_is)))
  (case x_Walker=>(refine' ⟨_,_,_,_,_,L2.Ev.cc_mk ?a ?pg ?hd ?po ?sa ?mk ?kp,⟨?n0,?n1,?n2,trivial⟩,L2.Ev.me_mk ?at0 ?fl0 ?fn0 ?fc0 ?fk0,L2.Ev.me_mk ?at1 ?fl1 ?fn1 ?fc1 ?fk1,L2.Ev.me_mk ?at2 ?fl2 ?fn2 ?fc2 ?fk2,L2.Ev.me_mk ?at3 ?fl3 ?fn3 ?fc3 ?fk3⟩;(case a=>k_is);(case pg=>k_is);(case hd=>k_is);(case po=>k_is);(case sa=>k_is);(case mk=>k_is);(case kp=>k_is);(case n0=>k_is);(case n1=>k_is);(case n2=>k_is);(case at0=>k_is);(case fl0=>k_is);(case fn0=>k_is);(case fc0=>k_is);(case fk0=>k_is);(case at1=>k_is);(case fl1=>k_is);(case fn1=>k_is);(case fc1=>k_is);(case fk1=>k_is);(case at2=>k_is);(case fl2=>k_is);(case fn2=>k_is);(case fc2=>k_is);(case fk2=>k_is);(case at3=>k_is);(case fl3=>k_is);(case fn3=>k_is);(case fc3=>k_is);(case fk3=>k_is)))
end
