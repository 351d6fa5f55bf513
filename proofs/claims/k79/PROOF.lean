import PyProof.Rows.All
import Wide.All
import OpenK.AllK
import Wide.FinOn
import Lean
import PyProof.EqAt
import PyProof.EqKinds
import PyProof.TupleCall
import PyProof.ListMulRoad
import KE.KDictOf
import KE.KEqDict
import PyProof.DictTruth
import KE.LcSums
import PyProof.StrWalks
import PyProof.FString4
import KE.KTabLook
import PyProof.Rows.ZipGen
import PyProof.MaxThree
import PyProof.ConsumeWalk
import PySem.Challenge.RW_blamewise_k79_looks_in_order
open PySem renaming wpAny_bind→ε,Value→ζ,wpAny_pure→θ,Str→ν,Shared→ξ,wpAny→Α,Addr→Β,NameKind→Δ,starEach→Ε,Expr→Κ,wpAny_mono→Τ,wpAny_holding→ϊ,Around→ώ,mainGlobals→ϑ,wpAny_field→ϙ,sizeLine→Ϛ,keywordEach→Ϩ,Pos→ϭ,Heap→ϳ,Program→ϴ,wpAny_truthy_bool→Ϸ,strLen_append→Ϻ,backTo→ϻ,wpAny_callSpecial?_slot→Ã,mem_of_lookup→Ä,wpAny_newObj_type→Ê,backToKw→Ï,wpAny_call_entry→Ñ,Stmt→Ó,wpAny_seqItems→Õ,rawInt→Ö,wpAny_Call_method→Ù,compareOp→Ú,World→Û,FuncData→ß,wpAny_standAt→æ,wpAny_Call_Name_kw→è,codeAny_mono→í,codeAny_call_builtin→î,behindInMarks→ð,plainObj_wpAny_Assign_Attribute→ò,sliceBounds→ú,argBest→þ,wpAny_call→ă,sizeLine_eq→Ą,attributeBase→Ĉ,ExceptHandler→ĉ,wpAny_setField_rec→č,wpAny_pyIter_tuple→Ď,wpAny_getItem_str_slice→đ,Scope→Ē,wpAny_setField→Ĕ,wpAny_pyIter_list→ĕ,bootBuiltins→Ė,ExcBaseFacts→Ę,wpAny_isTrue_Compare1→ĝ,assignEach→ġ,wpAny_letGo→Ĥ,wpAny_updateSeq→ĭ,wpAny_passesOwn→Į,wpAny_execs_nil→į,codeAny→Ĵ,noteFrame→Ļ,wpAny_tryCatch→Ŀ,wpAny_Expr_any→ŀ,binaryOp→Ł,wpAny_loadPart_at→ő,standAt→Œ,callerA→œ,Builtin→ŕ,plainId_quiet→ŗ,methodCallPos→Ř,wpAny_execs_cons→Š,checkBuiltinCall→š,callWith→Ţ,cLine→ţ,pyIter→ũ,Keyword→ŭ,wpAny_specialOf→ů,wpAny_ite_split→Ű,post_val_or_str→ű,letOwnedTupleGo→Ų,codeAny_builtin→ų,wpAny_Compare1→ž,unbindBehindTheSuite→ſ,list_append→D1,IsZip→D3,IsPart→D4,valueAt→D5,swapsWith→D6,seqItems?→D7,Env→Dz,wpAny_rule→DH,wpAny_List_spliced→DI,slot_dict_contains→DJ,isInstance→DK,call_meets→DL,wpAny_typeOf→DV,wpAny_sequenceKey→DW,wpAny_assign_Name→DX,slot_dict_getitem→DY,getItem→DZ,getAttr→E0,foldedSetIterable→E1,dictGet→E2,wpAny_pyHash_str→Eg,pyNext→Eh,noFill_tuple_add→Ei,getMethod→Ej,Arguments→En,wpAny_point→Eo,wpAny_of_eq→Ep,Obj→Er,setAttr→Ez,ofString_length→EA,wpAny_newFunctionEnv_cells→EF,wpAny_loadPart→EG,typeLookup→EH,findBy→EI,WalksT→EJ,Model→EN,wpAny_onRaise→EU,wpAny_attempt→EV,swapsWithSole→EX,swappedStores→EY,seq_tuple_add→EZ,Sem→F1,call→F2,setFlight→Fe,cellsFrom→Ff,bindL→Fh,bindC→Fi,Draws→Fq,setItem→Fs,seqIndex_neg→Fv,concat_meets→Fw,argsOk→Fx,OsState→FA,wpAny_storeName_local→FJ,codeAny_handlers_test→FK,codeAny_call_function→FL,builtinLookup_eq_fast→FN,unpackItems→FW,seqIndex_of→FX,excClassObj→FY,intText?→FZ,Operator→G0,wpAny_handleBy_cons→G9,wpAny_Assign_stores→Ga,wpAny_evalAll_cons→Gu,wpAny_Name→Gv,wpAny_Constant_int→Gw,typeIs_str→Gx,sysModules→Gy,refuseLoop→GB,isTrue→GF,findBy_of_findIdx?→GG,Within→GK,wpAny_pyIter_enum→GX,wpAny_evalAll_nil→GY,wpAny_dictEntries→GZ,wpAny_Assign_Name→H0,slot_list_getitem→H3,evalAll→H4,Meets→H6,BindsTo→H9,wpAny_pyIter_zip→Ha,wpAny_lookBehind→Hb,wpAny_isInstance→Hc,wpAny_Dict_empty→Hd,updateSeq→He,pastItsLine_dict→Hf,lastMarks→Hg,wpAny_JoinedStr→Hs,typeLookup_type→Ht,getAttrByItsOwn→Hu,codeAny_of_tree→Hv,Fin→Hw
open List renaming mem_singleton→η,mem_cons_self→ι,mem_cons_of_mem→κ,prefix_refl→μ,mem_cons→π,getElem?_eq_some_iff→ς,length_append→υ,mem_of_getElem?→φ,replicate→Ζ,getElem?_eq_getElem→Θ,length_cons→Ι,size_toArray→Λ,getElem?_append_right→Μ,length_map→Ν,getElem?_set_ne→Φ,getElem?_append_left→Χ,append_nil→Ω,getElem?_map→ϋ,length_singleton→ό,all_eq_true→ϒ,nodup_cons→ϔ,mem_filter→ϕ,count_cons→Ϝ,count_append→ϟ,filterMap_cons→ϣ,flatMap_cons→ϩ,getElem?_set_self→Ϭ,length_nil→ϯ,length_zip→ϸ,mem_flatMap→À,getElem?_cons_succ→Á,count_nil→Å,mem_append→È,length_set→É,mem_iff_getElem?→Ë,map_cons→Î,mem_of_mem_tail→Ð,map_append→Ô,zip_cons_cons→á,prefix_append→â,length_replicate→å,mem_map→ë,getElem?_replicate→ï,not_mem_nil→ÿ,getElem?_zip_eq_some→Ā,filter_eq_nil_iff→ċ,append_assoc→Č,lookup_cons→ē,of_mem_zip→Ğ,forIn_cons→ğ,dropLast_concat_getLast→Ġ,zip_nil_right→ĩ,getD_eq_getElem?_getD→Ī,drop_zero→ī,drop_eq_getElem_cons→ĳ,nodup_append→Ĺ,getElem_mem→ň,drop_length→ŉ,any_eq_true→Ŋ,range→Ŕ,getElem?_eq_none→Ş,mem_append_left→Ŧ,mem_filterMap→Ż,getElem?_drop→ż,take_length→DB,length_take→DC,length_drop→DD,cons_append→DE,range'→DQ,append→DR,nil_append→DT,mem_range→Ec,getElem?_eq_none_iff→Ek,lookup_eq_some_iff→Ew,length_eq_zero_iff→Ex,getElem?_cons_zero→Ey,take_of_length_le→EC,mem_append_right→EO,mem_iff_getElem→EP,lookup→ER,length→ES,map_congr_left→F5,getElem_of_mem→F6,flatMap_append→F7,lookup_append→Fo,take_sublist→FC,reverse_cons→FD,filter_congr→FE,zipIdx_cons→FQ,map_fst_zip→FR,flatMap_nil→FT,find?_cons→G4,filterMap→Gj,drop_nil→GP
open PySem.Heap renaming get?_push_of_some→ο,get?_push_size→ψ,lt_size→Ο,get?_update_other→ύ,get?_none_of_le→ϗ,get?_update_self→ϡ,size_push→ϵ,SameBut→õ,MadeExcOf→Ed,get?_update_ne→F9,get?_push_at→FG,ExtBut→Hl
open Nat renaming le_of_ble_eq_true→τ,le_refl→Ψ,ne_of_lt→ϛ,le_trans→Ϣ,zero_le→ϲ,ne_of_gt→Æ,lt_of_lt_of_le→Í,le_succ→Þ,le_of_lt→ø,min_self→Đ,lt_irrefl→Ĝ,sub_self→Ħ,succ_ne_self→Ŏ,add_sub_cancel_left→ŏ,lt_of_succ_lt_succ→Ś,not_lt_zero→ŝ,mul_le_mul_right→ū,add_mul→Ŭ,mul_le_mul_left→Ŷ,not_lt→D2,le_succ_of_le→Dx,lt_succ_self→DO,le_add_right→DP,lt_trans→EL,length_repr_le_iff→EM,pow_le_pow_right→F3,log2_lt→F4,lt_succ_of_lt→FP,le_of_not_lt→G3,mul_le_mul→GN,zero_add→Hi,sub_zero→Hj,add_comm→Hk
open PySem.W renaming Frag→χ,findIn→Ρ,nsIn→ϓ,keepIn→ϖ,emptyDict→Ϙ,instObj→Ϟ,mroIn→Ϯ,fnOf→ϱ,hasDictIn→Â,codeIn→Ü,mg_of→é,kia_one→ó,typeIn→ć,plainGet→ď,callWith_K→Ģ,handedIn→ĵ,isFn→ł,cellsFrom_some→Ń,makesIn→ņ,methodCall_KW→Ō,lookIn→ř,plainGet_of→Ť,clsIn→ť,specialIn→Ŵ,plainOver→ŵ,takerIn→Ds,callWith_K0→EB,codeRec_of→EK,takesIn→Fj,OpenLaw→Fk,tailIn→Fy,kitOne→Fz,WalkO→FO
open Option renaming map_eq_some_iff→ω,bind_eq_some_iff→Ϗ,isSome_iff_exists→Ă,getD_some→D8,getD_none→Fm
open PySem.Calls renaming spliced_cons→Η,spliced_nil→Ξ,callWith_builtin→ϫ,evalArgs_plain→ϰ,Constant_str→à,Name_function_global→E9
open Bool renaming and_eq_true→Υ,false_ne_true→ϝ,false_eq_true→ã,not_eq_true'→ĺ,or_false→ľ,or_eq_false_iff→Ũ,and_false→Ef,true_and→Et,or_eq_true_iff→Fd,eq_false_iff→FH,eq_iff_iff→G7,false_and→Gs,false_or→GU
open PySem.Value renaming ref→Ϡ,bool→ϥ,type→ą,int→Ć,isStrOf→Ge,builtin→Gf,isInt→H5
open Ne renaming symm→Ϥ
open Option.some renaming inj→Ϧ
open PySem.Str renaming ofString→ϧ,empty→ė
open ForInStep renaming yield→Ϫ
open PySem.Builtin.SmallTypes renaming nextOf→Ϲ,fitsIndex→Ç,ownedTupleIsFree→Ì,ownedTupleHandOut→Ĭ
open PyProof.Rows.KTD renaming datumAt→Ò,tabLook→DU,kt_dictFind_strs→F8,TabOf→G5
open PySem.NameKind renaming free→Ø
open PySem.F renaming slot_dict_get→Ý,slot_list_append→ê,plain_max_loop→ô,slot_tuple_iterator_next→ā,args_list_append_2→ģ,entry_list_append→ĥ,args_tuple_add_2→ı,plainAttrs_list→Ķ,plainAttrs_dict→ķ,entry_tuple_add→ĸ,slot_tuple_add→ń,entry_dict_get→Ņ,type_dict_get→ō,slot_zip_next→ŧ,type_list_append→E4,slot_tuple_index→E5,slot_list_extend→E6,entry_max_loop→E8,args_dict_get_3→Ea,args_tuple_iterator_next_1→El,entry_tuple_iterator_next→Es,args_zip_next_1→Gp,entry_zip_next→GR,entry_zip_new→H8
open PyProof.Rows renaming slot_tuple_getitem→ä,kindOf→İ,AllBare→Ŗ,Constant_none→ś,envOfC→Ū,IntsAre→D9,boot_tuple→Dt,boot_list→DA,boot_str→DM,boot_int→DN,tupleItemsOf_→EW,FormattedValue_plain→G6,entry_tuple_getitem→Gb,slot_tuple_getitem→Gz,args_tuple_getitem→GH,Subscript_→GJ,firstMet→Hx,boot_isinstance→Hy,boot_dict→Hz,boot_bool→HA
open PySem.Heap.SameBut renaming update→ç
open PySem.Obj renaming mapSeq→ì,data_mapFields→ö,isFreed_of_fields→û,mapFields→ě,cls_mapFields→Du
open PySem.Builtin.List renaming listExtendWith→ñ,listSameRef→Dq,listItems→DG,listUpdate→HB,listTooLong→HC,listLengthHint→HD
open PySem.Builtin.Slice renaming slicePlaces→ù,sliceAdjust→ę,sliceApplied→ź,slicePartIndex→Ho,sliceFields→Hq
open PySem.Builtin.Tuple renaming tupleExact→ü,tupleItemsOf→Ÿ,tupleIsExact→Ź
open Array renaming getElem?_eq_some_iff→ý,getElem?_eq_getElem→Ĳ,length_toList→ET,toList→GV
open PySem.Value.ref renaming inj→Ċ
open Sum renaming inr→Ě,inl→Dr
open PySem.Txt renaming slice→ħ
open True renaming intro→Ĩ
open Nat.succ renaming inj→ļ
open Int renaming le_refl→Ľ,negSucc→Ů,toNat_natCast→Dy,emod_nonneg→E7,eq_ofNat_of_zero_le→ED,emod_lt_of_pos→FF,natCast_add→Gk,natAbs_mul→GQ
open Prod renaming fst→Ň,snd→Eb
open PySem.Builtin.ObjectAttr renaming storeInDict→ŋ,newKeyGuard→FU
open False renaming elim→Ő
open PySem.Shared renaming heap→Ŝ
open PySem.Around renaming under_plainId→ş,under→Eu
open PySem.Heap.DictOf renaming new→ŷ
open PySem.Code renaming quiet_builtin→Ž,isFrame→EE,frames→Hn
open Std.Legacy.Range renaming size→D0,forIn_eq_forIn_range'→Gi
open Decidable renaming byContradiction→DF
open And renaming right→DS
open PySem.EntryCells renaming newEntry→Em
open PySem.Walks renaming list→F0
open PySem.Builtin.BaseException renaming bexcPut→Fc
open Sum.inr renaming inj→Gg
open Sum.inl renaming inj→Gh
open PySem.Builtin.Builtins renaming bindParams→Gq
open PySem.Challenge renaming pw_blamewise_k79_looks_in_order→GL
open PySem.Heap.IsSliceOf renaming new→H7
open PySem.W.Looks renaming here→Hh
open PySem.Draws renaming list→Hm
open PySem.Builtin.Range renaming rangeSize→Hr
open PySem.Builtin.Dict renaming pendingKey?→HE,missed→HF
open PySem PySem.Spec PyProof.Rows
set_option compiler.extract_closed false
noncomputable section
local macro_rules|`($d:declaration)=>do let r:=d.raw;let k:=r[1].getKind;if (k==`Lean.Parser.Command.definition||k==`Lean.Parser.Command.abbrev)&&r[0][4].getNumArgs==0 then return r.setArg 0 (r[0].setArg 4 (Lean.mkNullNode #[Lean.mkNode `Lean.Parser.Command.noncomputable #[Lean.mkAtom "noncomputable"]])) else Lean.Macro.throwUnsupported
set_option hygiene false
local macro_rules|`($a<|>$b)=>`(A $a $b)
abbrev Fg:=PySem.W.Frag
abbrev NK:=List (Str×NameKind)
abbrev ZZ:=@if_pos
abbrev ZY:=@if_neg
abbrev ZX:=@absurd
abbrev ZW:=@decide_eq_true
abbrev ZV:=@decide_eq_false
abbrev ZU:=@beq_eq_false_iff_ne
abbrev ZT:=@beq_self_eq_true
abbrev ZS:=@congrArg
set_option Elab.async false
set_option linter.all false
set_option maxRecDepth 100000
set_option maxHeartbeats 8000000
set_option Elab.async false
set_option linter.all false
set_option maxRecDepth 100000
namespace L2
abbrev Key:=Sum Int ν
def iE:Key→ζ→Bool
 | .inl k,v=>H5 k v
 | .inr x,v=>Ge x v
def C2 (w:Û):Key→Int
 | .inl k=>hashInt k
 | .inr x=>hashStr w x
theorem aI:∀ {k} {v},iE k v=true→(∃ i t,k=Dr i∧v=Ć i t)∨(∃ x t,k=Ě x∧v=Value.str x t)
 | .inl i,v,h=>by
   obtain ⟨t,e⟩:=Value.isInt_shape (k:=i) (v:=v) h
   exact .inl ⟨i,t,rfl,e⟩
 | .inr x,v,h=>by
   obtain ⟨t,e⟩:=Value.isStrOf_shape (x:=x) (v:=v) h
   exact .inr ⟨x,t,rfl,e⟩
theorem oj (i) (t):iE (.inl i) (.int i t)=true:=by simp [iE,H5]
theorem oq (x) (t):iE (.inr x) (.str x t)=true:=by simp [iE,Ge]
theorem xH (a b):decide ((Dr a:Key)=Dr b)=(a == b):=by
 by_cases e:a=b
 ·subst e;simp
 ·have h:¬ (Dr a:Key)=Dr b:=fun q=>e (Gh q)
  rw [ZV h]
  exact (ZU.mpr e).symm
theorem xK (a b):decide ((Ě a:Key)=Ě b)=decide (a=b):=by
 by_cases e:a=b
 ·subst e;simp
 ·have h:¬ (Ě a:Key)=Ě b:=fun q=>e (Gg q)
  rw [ZV h,ZV e]
theorem xI (a) (b):decide ((Dr a:Key)=Ě b)=false:=ZV (fun q=>nomatch q)
theorem xJ (a) (b):decide ((Ě a:Key)=Dr b)=false:=ZV (fun q=>nomatch q)
def aR (prog:ϴ) (w:Û):PySem.KeyKind prog w Key where
 is:=iE
 hash:=C2 w
 inj:=fun v a b ha hb=>by
  rcases aI ha with ⟨i,t,rfl,rfl⟩ | ⟨x,t,rfl,rfl⟩
  ·rcases aI hb with ⟨j,u,rfl,e⟩ | ⟨y,u,rfl,e⟩
   ·injection e with e1 _;rw [e1]
   ·exact nomatch e
  ·rcases aI hb with ⟨j,u,rfl,e⟩ | ⟨y,u,rfl,e⟩
   ·exact nomatch e
   ·injection e with e1 _;rw [e1]
 byValue:=fun k v h=>by
  rcases aI h with ⟨i,t,rfl,rfl⟩ | ⟨x,t,rfl,rfl⟩ <;> rfl
 pyHash:=fun hv h=>by
  rcases aI hv with ⟨i,t,rfl,rfl⟩ | ⟨x,t,rfl,rfl⟩
  ·exact wpAny_pyHash_int h
  ·exact Eg h
 eqBool:=fun hu hv h=>by
  rcases aI hu with ⟨i,t,rfl,rfl⟩ | ⟨x,t,rfl,rfl⟩
  ·rcases aI hv with ⟨j,u,rfl,rfl⟩ | ⟨y,u,rfl,rfl⟩
   ·rw [xH] at h;exact wpAny_eqBool_int h
   ·rw [xI] at h;exact SeqAt.EqAt.int_str i t y u _ _ _ _ h
  ·rcases aI hv with ⟨j,u,rfl,rfl⟩ | ⟨y,u,rfl,rfl⟩
   ·rw [xJ] at h;exact SeqAt.EqAt.str_int x t j u _ _ _ _ h
   ·rw [xK] at h;exact wpAny_eqBool_str h
 «strs»:=fun k x t v h=>by
  rcases aI h with ⟨i,u,rfl,e⟩ | ⟨y,u,rfl,e⟩
  ·exact nomatch e
  ·injection e with e1 _
   subst e1
   cases v <;> rfl
theorem j7 (prog) (w) (i) (t):(aR prog w).is (.inl i) (.int i t)=true:=oj i t
theorem fh (prog) (w) (x) (t):(aR prog w).is (.inr x) (.str x t)=true:=oq x t
end L2
namespace L2
structure Mod (K:χ) (mg:ν→Option ζ) (base:ϳ):Prop where
 kin:K.In base
 glob:base.Ns ϑ mg
 blt:∃ mb,base.Ns builtinsNs mb∧∀ x:ν,x≠"__name__"→mb x=Ė x
 nolimit:base.NoLimit
def frs (l:List Dz):List Β:=l.filterMap (·.frame)
def Vis (sc:Ē) (x:ν):Prop:=sc.names.lookup x=some .local∨sc.names.lookup x=some .cell∨sc.names.lookup x=some .free
def Loc (sc:Ē) (x:ν):Prop:=sc.names.lookup x=some .local∨sc.names.lookup x=some .cell
def kL (env:Dz) (h:ϳ) (m:ν→Option ζ) (x:ν) (u:ζ):Prop:=
 (env.kindOf x=some .local∧m x=some u)∨((env.kindOf x=some .cell∨env.kindOf x=some .free)∧∃ c,env.cells.lookup x=some c∧h.IsCell c (some u))
section
variable {X:Cx} {pins:List (Β×Er)} {σ:List (Option V)} {H H':Hp} {s:ξ} {h':ϳ}
theorem gv {N:List ν} (hN:N.Nodup) {i j:Nat} {x:ν} (a:N[i]? = some x) (b:N[j]? = some x):i=j:=by
 obtain ⟨h1,e1⟩:=ς.mp a
 obtain ⟨h2,e2⟩:=ς.mp b
 exact (List.getElem_inj hN).mp (e1.trans e2.symm)
end
theorem thn (h:Α M A t Q E s) (hQ:∀ a s,Q a s→Q' a s):Α M A t Q' E s:=Τ h hQ fun _ _ x=>x
end L2
namespace L2
theorem jP (ho:s.heap.get? it=some o) (hc:o.cls = .type n) (hd:o.data = .fields vs)
 (hn:["enumerate","zip","dict_itemiterator","dict_reverseitemiterator","odict_iterator","itertools.zip_longest","itertools.pairwise"].contains n=false) (hQ:Q () s):Α M A (Ų tg (.ref it) u) Q E s:=by
 unfold Ų
 cases tg <;> first
  | exact θ hQ
  | (cases u <;> first
   | exact θ hQ
   | (refine ε (wpAny_load ho ?_)
      rw [hc,hd]
      show Α M A (if (["enumerate","zip","dict_itemiterator","dict_reverseitemiterator","odict_iterator","itertools.zip_longest","itertools.pairwise"].contains n && vs[0]? == some (Ö _))=true then _ else _) Q E s
      rw [ZY (by intro h;rw [hn,Gs] at h;cases h)]
      exact θ hQ))
end L2
namespace L2
section
variable {X:Cx} {a b c:Κ} {ta tb tc:TE} {pos:ϭ}
def wJ (i j:Int):Prop:=(-(2 ^ 64)<i∧i<2 ^ 64)∨(-(2 ^ 64)<j∧j<2 ^ 64)
theorem wJ.ok (h:wJ i j):IntMulOk i j:=by
 rcases h with ⟨h1,h2⟩ | ⟨h1,h2⟩
 ·exact .of_left (intBits_le_64 h1 h2)
 ·exact .of_right (intBits_le_64 h1 h2)
end
section
variable {X:Cx} {a b c:Κ} {ta tb tc:TE} {pos:ϭ}
theorem jd:(Ϛ:Nat)<2 ^ 63:=by rw [Ą];decide
end
end L2
namespace L2
structure kM (h:ϳ) (x dx C:Β) (mA:ν→Option ζ):Prop where
 obj:h.get? x=some (Ϟ C dx)
 ns:h.Ns1 dx mA
 ne:dx≠x
theorem iF {h:ϳ} {dx:Β} {mA:ν→Option ζ} (n:h.Ns1 dx mA):∃ od,h.get? dx=some od∧∀ name,ř name od=some (mA name):=by
 obtain ⟨o,es,ep,ho,hd,hk,_,hm⟩:=n
 refine ⟨o,ho,fun name=>?_⟩
 have e:=hm name
 unfold nsFind EI at e
 rw [← Array.find?_toList] at e
 unfold ř
 rw [hd]
 dsimp only
 split
 ·rename_i y q
  rw [q] at e
  exact ZS some e
 ·rename_i q
  rw [q] at e
  have a:es.toList.any (·.refKey)=false:=by
   rw [List.any_eq_false]
   intro y hy
   obtain ⟨z,t,hkey⟩:=hk y (Array.mem_toList_iff.mp hy)
   simp [DictEntry.refKey,hkey]
  have a':¬ es.toList.any (·.refKey)=true:=by rw [a];exact ϝ
  rw [ZY a']
  exact ZS some e
theorem kM.look (I:kM h x dx C mA):∃ od,PySem.W.InstAt h x (Ϟ C dx) C (some od)∧∀ name,ř name od=some (mA name):=
 let ⟨od,ho,hl⟩:=iF I.ns
 ⟨od,⟨I.obj,rfl,rfl,ho⟩,hl⟩
section
variable {prog:ϴ} {w:Û} {A:ώ} {E:ζ→ξ→Prop} {s:ξ} {K:χ} {x dx C f:Β} {mA:ν→Option ζ} {name:ν} {v:ζ}
theorem tK (X:K.In s.heap) (I:kM s.heap x dx C mA) (hg:ď K C name=true) (hh:Â K C=true)
 (ha:Ρ K (.ref C) name=some none) (hv:mA name=some v) (hv':ĵ v=true) (h:Q v { s with toks:=s.toks+1 }) :
 Α (model prog w) A (E0 (.ref x) name expr) Q E s:=by
 obtain ⟨od,J,hl⟩:=I.look
 exact PySem.W.get_value X J (Ť hg).1 (PySem.W.findObj_own hh ha rfl (by rw [hl,hv])) hv' h
theorem pZ (X:K.In s.heap) (I:kM s.heap x dx C mA) (hg:ď K C name=true)
 (hf:Ρ K (.ref C) name=some (some (.ref f))) (ht:ł K (.ref f)=true) (hv:mA name=none) (h:Q (.ref f,[.ref x]) s) :
 Α (model prog w) A (Ej (.ref x) name pl) Q E s:=by
 obtain ⟨od,J,hl⟩:=I.look
 exact PySem.W.method_fn X J (Ť hg).1 (Ť hg).2 hf (beq_iff_eq.mp ht) (by show (ř name od).map (·.isSome)=some false;rw [hl,hv];rfl) h
theorem mW (X:K.In s.heap) (I:kM s.heap x dx C mA)
 (hs:Ρ K (.ref C) "__setattr__" = some (some (.builtin "object.__setattr__"))) (hp:ŵ K C=true) (ht:Ds K C name=some none) (hh:Â K C=true)
 (hw:GK mA ns) (hsz:ns.length≤Ϛ)
 (h:∀ h',kM h' x dx C (fun y=>if y=name then some v else mA y)→õ dx s.heap h'→Q () { s with heap:=h',toks:=s.toks+2 }) :
 Α (model prog w) A (Ez (.ref x) name v) Q E s:=by
 obtain ⟨od,J,hl⟩:=I.look
 refine PySem.W.set_plain X J hs (PySem.W.osa_open (s:={ s with toks:=s.toks+1 }) (r:=none) X J hp ht fun b=>?_)
 obtain ⟨cd,hc,hd'⟩:=PySem.W.any_some hh
 have hx:s.heap.get? x=some ⟨.ref C,some dx,.plain,#[]⟩:=I.obj
 refine ε (θ (ε (ε (EG hx (ε (Hh (s:={ s with toks:=s.toks+1 }) (PySem.W.looks_clsIn X hc) ?_))))))
 rw [hd']
 refine θ (a:=some dx) (ε (θ (ε ?_)))
 refine wpAny_nsSet1 (s:={ s with toks:=s.toks+1 }) I.ns fun h' hn2 hs2=>?_
 obtain ⟨oD,esD,epD,hoD,hdD,hcD⟩:=hn2.count (PySem.Within.cons name v hw)
 refine ε (Hb hoD (by rw [hdD];exact Hf (Ϣ hcD (by rw [Ι];omega))) ?_)
 exact θ (h _ ⟨(hs2.2 _ (Ϥ I.ne)).trans I.obj,hn2,I.ne⟩ hs2)
theorem j6 (X:K.In s.heap) (hm:ņ K C=true)
 (hi:Ρ K (.ref C) "__init__" = some (some (.ref f))) (hf:ć K (.ref f)=some (.type "function"))
 (h:Ĵ (model prog w) (A.under (.builtin "type.__call__" ⟨.ref C :: vs,kw⟩)) (.call (.ref f) ⟨.ref (s.heap.objs.size+1) :: vs,kw⟩) (PySem.W.InitBack (s.heap.objs.size+1) R)
  { s with heap:=(s.heap.push Ϙ).push (Ϟ C s.heap.objs.size) }) :
 Ĵ (model prog w) A (.call (.ref C) ⟨vs,kw⟩) R s:=by
 obtain ⟨hh,g,d,t,os⟩:=s
 exact PySem.W.make_core (PySem.W.makes_of X hm) (PySem.W.looks_findIn X hi) (fun self=>PySem.W.bind_fn X self hf) (.inl rfl) h
end
structure Cls (K:χ) (C:Β):Prop where
 pg:ď K C ė=true
 hd:Â K C=true
 po:ŵ K C=true
 sa:Ρ K (.ref C) "__setattr__" = some (some (.builtin "object.__setattr__"))
theorem Cls.get {K:χ} {C:Β} (c:Cls K C) (f:ν):ď K C f=true:=c.pg
def cz (K:χ) (C:Β) (f:ν):Prop:=Ρ K (.ref C) f=some none
theorem cz.taker {K:χ} {C:Β} {f:ν} (n:cz K C f):Ds K C f=some none:=by
 unfold Ds
 rw [show Ρ K (.ref C) f=some none from n]
 rfl
structure zR (K:χ) (C:Β) (m:ν) (f:Β):Prop where
 at_:Ρ K (.ref C) m=some (some (.ref f))
 fn:ł K (.ref f)=true
 kp:ϖ K (.ref f)=true
section
variable {X:Cx} {pins:List (Β×Er)} {σ:St} {H:Hp} {s:ξ} {a C dx:Β} {fs:List (ν×V)} {f:ν} {v:V} {A:ώ} {E:ζ→ξ→Prop}
theorem sT (hb:Ĉ e f env (eval e env)=eval e env)
 (h:Α (model prog w) A (eval e env) (fun o s₁=>Α (model prog w) A (E0 o f true) Q E s₁) E s):Α (model prog w) A (eval (.Attribute e f pos) env) Q E s:=
 Attribute_any_ h (by rw [arm_eval_Attribute,hb])
end
end L2
namespace L2
structure bq (k:Nat) (A:ώ):Prop where
 hd:A.handled=none
 dp:A.depth+k+5<recursionLimit
 un:A.units+16 * k+200<ţ
theorem bq.mono (r:bq k A) (h:j≤k):bq j A:=⟨r.hd,by have:=r.dp;omega,by have:=r.un;omega⟩
theorem bq.deeper (r:bq (k+1) A) (env):bq k (A.deeper env):=
 ⟨r.hd,by have:=r.dp;show A.depth+1+k+5<_;omega,by have:=r.un;show A.units+3+16 * k+200<_;omega⟩
theorem lG {A:ώ} {C:Β} {us:List ζ} {kw:List (ν×ζ)}:(A.under (.builtin "type.__call__" ⟨.ref C :: us,kw⟩)).depth=A.depth+1:=by
 first | rfl | simp [Eu,Code.weight,Code.isCreation,Code.isGuard,Code.isCaller,Hn,EE,guardIds]
theorem lH {A:ώ} {C:Β} {us:List ζ} {kw:List (ν×ζ)}:(A.under (.builtin "type.__call__" ⟨.ref C :: us,kw⟩)).units=A.units+1:=by
 first | rfl | simp [Eu,Code.cUnits,Hn,EE]
theorem bq.make (r:bq (k+1) A) (C) (us) (kw):bq k (A.under (.builtin "type.__call__" ⟨.ref C :: us,kw⟩)):=
 ⟨r.hd,by have:=r.dp;rw [lG];omega,by have:=r.un;rw [lH];omega⟩
theorem bq.depth (r:bq k A):A.depth<recursionLimit:=by have:=r.dp;omega
def bV (K:χ) (fd:ß) (ps:List ν) (ds:List ζ):Prop:=
 ∀ (s:ξ) (us:List ζ),K.In s.heap→(us ++ ds).length=ps.length→H9 s fd ⟨us,[]⟩ (ps.zip (us ++ ds))
theorem bV.all {K:χ} {fd:ß} {ps:List ν} (h:∀ us:List ζ,us.length=ps.length→bindArgs fd ⟨us,[]⟩=pure (ps.zip us)):bV K fd ps []:=fun s us _ hl=>by
 rw [Ω] at hl ⊢
 exact .of_eq (h us hl)
section
variable {X:Cx} {CX:CXT} {k:Nat} {f C:Β} {fd:ß} {ps:List ν} {sp:Sp} {dvs:List V} {ds:List ζ} {E:XK} {x m:ν} {p pos apos:ϭ} {e o:Κ} {es:List Κ} {ta:TE} {t:TA}
structure Mk (K:χ) (C f:Β):Prop where
 makes:ņ K C=true
 init:Ρ K (.ref C) "__init__" = some (some (.ref f))
 fn:ł K (.ref f)=true
 kp:ϖ K (.ref C)=true
end
structure dg (N P:List ν) (sc:Ē):Prop where
 kind:sc.kind = .function
 co:sc.isCoroutine=false
 gen:sc.isGenerator=false
 nd:N.Nodup
 pre:N.take P.length=P
 par:∀ x∈P,sc.names.lookup x=some .local∨sc.names.lookup x=some .cell
 nofree:∀ y∈sc.names,y.2≠.free
theorem ir {İ:ν→Option Δ} {x:ν}:∀ {binds:List (ν×ζ)} {m:ν→Option ζ},(∀ v,(x,v) ∉ binds)→Fh İ binds m x=m x
 | [],_,_=>rfl
 | (n,v) :: r,m,h=>by
   unfold Fh
   rw [ir fun w hw=>h w (κ _ hw)]
   split
   ·have:x≠n:=by rintro rfl;exact h v ι
    simp [this]
   ·rfl
theorem ip {İ:ν→Option Δ} {x:ν}:∀ {binds:List (ν×ζ)} {m:ν→Option ζ},(∀ v,(x,v) ∉ binds)→Fi İ binds m x=m x
 | [],_,_=>rfl
 | (n,v) :: r,m,h=>by
   unfold Fi
   rw [ip fun w hw=>h w (κ _ hw)]
   split
   ·rfl
   ·have:x≠n:=by rintro rfl;exact h v ι
    simp [this]
theorem iq {İ:ν→Option Δ} {x:ν} {v:ζ}:∀ {P:List ν} {vs:List ζ} {i:Nat} {m:ν→Option ζ},P.Nodup→P[i]? = some x→vs[i]? = some v→İ x=some .local →
 Fh İ (P.zip vs) m x=some v
 | [],_,_,_,_,h,_,_=>by simp at h
 | _ :: _,[],_,_,_,_,h,_=>by simp at h
 | p :: P,w :: vs,0,m,nd,h1,h2,hk=>by
   simp at h1 h2;subst h1;subst h2
   show Fh İ ((p,w) :: P.zip vs) m p=_
   unfold Fh
   rw [ir fun v hv=>(ϔ.mp nd).1 (Ğ hv).1,ZZ hk]
   simp
 | p :: P,w :: vs,i+1,m,nd,h1,h2,hk=>by
   show Fh İ ((p,w) :: P.zip vs) m x=_
   unfold Fh
   exact iq (i:=i) (ϔ.mp nd).2 (by simpa using h1) (by simpa using h2) hk
theorem im {İ:ν→Option Δ} {x:ν} {v:ζ}:∀ {P:List ν} {vs:List ζ} {i:Nat} {m:ν→Option ζ},P.Nodup→P[i]? = some x→vs[i]? = some v→İ x≠some .local →
 Fi İ (P.zip vs) m x=some v
 | [],_,_,_,_,h,_,_=>by simp at h
 | _ :: _,[],_,_,_,_,h,_=>by simp at h
 | p :: P,w :: vs,0,m,nd,h1,h2,hk=>by
   simp at h1 h2;subst h1;subst h2
   show Fi İ ((p,w) :: P.zip vs) m p=_
   unfold Fi
   rw [ip fun v hv=>(ϔ.mp nd).1 (Ğ hv).1,ZY hk]
   simp
 | p :: P,w :: vs,i+1,m,nd,h1,h2,hk=>by
   show Fi İ ((p,w) :: P.zip vs) m x=_
   unfold Fi
   exact im (i:=i) (ϔ.mp nd).2 (by simpa using h1) (by simpa using h2) hk
theorem jI {sc:Ē} {n:Nat} {x:ν} (h:sc.names.lookup x=some .cell):∃ c,(Ff n sc.names []).lookup x=some c:=by
 have q:=Ń sc.names n [] (.inl h)
 exact Ă.mp q
end L2
namespace HT
open PySem PyProof.Rows
section
variable {prog:ϴ} {w:Û} {A:ώ} {E:ζ→ξ→Prop} {s:ξ}
theorem cat_tup (ht:IsTup s.heap t vs.toArray) (hb:IsTup s.heap b ws.toArray) (hv:vs≠[])
 (h1:ws = []→Q (.ref t) s) (h2:ws≠[]→Q (.ref s.heap.objs.size) { s with heap:=s.heap.push { cls:=.type "tuple",data:=.seq (vs ++ ws).toArray } })
 (hsz:vs.length+ws.length≤Ϛ):Α (model prog w) A (Ł .Add (.ref t) (.ref b)) Q E s:=by
 obtain ⟨⟨cls,dd,data,sl⟩,ho,hc,n,hd⟩:=id ht
 obtain ⟨⟨cls2,dd2,data2,sl2⟩,ho2,hc2,n2,hd2⟩:=id hb
 simp only at hc hd hc2 hd2
 subst hc hd hc2 hd2
 have e:vs.toArray ++ ws.toArray=(vs ++ ws).toArray:=by simp
 by_cases hw:ws = []
 ·exact Fw ⟨_,ho,rfl⟩ ⟨_,ho2,rfl⟩ Ei EZ ń ĸ (ı _ _)
   (tuple_addW1 t b vs.toArray ws.toArray n n2 dd dd2 sl sl2 (by simpa using hv) (by simp [hw])) ⟨ho,ho2,h1 hw⟩
 ·refine Fw ⟨_,ho,rfl⟩ ⟨_,ho2,rfl⟩ Ei EZ ń ĸ (ı _ _)
   (tuple_addW2 t b vs.toArray ws.toArray n n2 dd dd2 sl sl2 (by simpa using hv) (by simpa using hw) (by rw [Λ,Λ];exact hsz)) ⟨ho,ho2,?_⟩
  rw [e]
  exact h2 hw
def sIx (n d:Nat):Option Int→Nat
 | none=>d
 | some v=>if v<0 then (v+(n:Int)).toNat else min v.toNat n
theorem zt (n d) (hd:d≤n) (o):sIx n d o≤n:=by
 cases o with
 | none=>exact hd
 | some v=>
   show (if v<0 then (v+(n:Int)).toNat else min v.toNat n)≤n
   by_cases hv:v<0
   ·rw [ZZ hv];omega
   ·rw [ZY hv];exact Nat.min_le_right _ _
theorem l6 (v:Int) (n d:Nat):(if v<0 then max (v+(n:Int)) 0 else min v (n:Int))=((sIx n d (some v):Nat):Int):=by
 show (if v<0 then max (v+(n:Int)) 0 else min v (n:Int))=(((if v<0 then (v+(n:Int)).toNat else min v.toNat n):Nat):Int)
 by_cases hv:v<0
 ·simp only [ZZ hv];omega
 ·simp only [ZY hv];omega
theorem kP (lo hi:Option Int) (n:Nat):ę lo hi 1 (n:Int)=(((sIx n 0 lo:Nat):Int),((sIx n n hi:Nat):Int)):=by
 have h1:¬ ((1:Int)<0):=by omega
 unfold ę
 simp only [h1,if_false]
 refine Prod.ext ?_ ?_
 ·cases lo with
  | none=>rfl
  | some v=>exact l6 v n 0
 ·cases hi with
  | none=>rfl
  | some v=>exact l6 v n n
theorem lK (i j:Nat):ù (i:Int) (j:Int) 1=j - i:=by
 unfold ù
 have h1:(1:Int)>0:=by omega
 simp only [h1,if_true,Int.ediv_one]
 split <;> omega
theorem gH (p:D4 v o) (h:Q o s):Α (model prog w) A (Ho v) Q E s:=by
 cases p with
 | none=>exact slicePart_none h
 | int i t=>exact slicePart_int h
theorem cF {sl:Β} {vl vu:ζ} {lo hi:Option Int} {n:Nat} {Q:Int×Int×Nat→ξ→Prop} (hs:s.heap.IsSliceOf sl vl vu .none) (pl:D4 vl lo) (pu:D4 vu hi)
 (h:Q (((sIx n 0 lo:Nat):Int),1,sIx n n hi - sIx n 0 lo) s):Α (model prog w) A (ź (.ref sl) (pure (n:Int))) Q E s:=by
 obtain ⟨os,hos,hcs,hds⟩:=id hs
 unfold ź Hq
 refine ε (ε (ϙ hos hds (x:=vl) rfl (ε (ϙ hos hds (x:=vu) rfl (ε (ϙ hos hds (x:=.none) rfl (θ ?_)))))))
 refine ε (slicePart_none ?_)
 show Α _ _ (if ((1:Int) == 0)=true then _ else _) _ _ s
 rw [ZY (by decide)]
 refine ε (gH pl (ε (gH pu (ε (θ ?_)))))
 show Α _ _ (match ę lo hi 1 (n:Int) with | (lo,hi)=>pure (lo,(1:Int),ù lo hi 1)) _ _ s
 rw [kP lo hi n]
 show Α _ _ (pure (((sIx n 0 lo:Nat):Int),(1:Int),ù ((sIx n 0 lo:Nat):Int) ((sIx n n hi:Nat):Int) 1)) _ _ s
 rw [lK]
 exact θ h
theorem rz (xs:Array ζ) (i k:Nat):((Ŕ k).filterMap fun (m:Nat)=>xs[((i:Int)+(m:Int) * 1).toNat]?).toArray=((xs.toList.drop i).take k).toArray:=by
 have e:(fun (m:Nat)=>xs[((i:Int)+(m:Int) * 1).toNat]?)=fun m=>xs[i+m]?:=by
  funext m
  have:((i:Int)+(m:Int) * 1).toNat=i+m:=by omega
  rw [this]
 rw [e]
 have:=pick_run xs i k
 rw [List.filterMap_map] at this
 have e2:((fun x=>xs[x]?) ∘ fun x=>i+x)=fun m=>xs[i+m]?:=rfl
 rw [e2] at this
 rw [this]
theorem getItem_tuple_cut {t sl:Β} {items:Array ζ} {vl vu:ζ} {lo hi:Option Int} {Q:ζ→ξ→Prop} (ht:IsTup s.heap t items) (hs:s.heap.IsSliceOf sl vl vu .none) (pl:D4 vl lo) (pu:D4 vu hi)
 (hw:¬ (sIx items.size 0 lo=0∧sIx items.size items.size hi=items.size))
 (h:Q (.ref s.heap.objs.size) { s with heap:=s.heap.push { cls:=.type "tuple",data:=.seq ((items.toList.drop (sIx items.size 0 lo)).take (sIx items.size items.size hi - sIx items.size 0 lo)).toArray } })
 (hsz:items.size≤Ϛ):Α (model prog w) A (DZ (.ref t) (.ref sl)) Q E s:=by
 have htake:sizeOk (.seq ((items.toList.drop (sIx items.size 0 lo)).take (sIx items.size items.size hi - sIx items.size 0 lo)).toArray):=by
  show ((items.toList.drop (sIx items.size 0 lo)).take (sIx items.size items.size hi - sIx items.size 0 lo)).toArray.size≤Ϛ
  rw [Λ,DC,DD,ET]
  omega
 have hj:sIx items.size items.size hi≤items.size:=zt _ _ (Ψ _) hi
 obtain ⟨os,hos,hcs,hds⟩:=id hs
 have hTs:s.TypeIs (.ref sl) "slice":=⟨os,hos,hcs⟩
 unfold DZ
 try with_reducible refine ϊ ?_
 first | refine ε (θ ?_) | skip
 refine ε (DW ht.typeIs (by decide) ?_)
 refine ε (Ã (name:=ϧ "__getitem__") ht.typeIs ä
  (Ñ ä ht.typeIs Gb ?_ (GH _ _)))
 show Α _ _ (Ÿ (.ref t) >>= _) _ _ s
 refine ε (EW ht ?_)
 refine ε (DV hTs ?_)
 rw [ZZ (by decide)]
 refine ε (cF hs pl pu ?_)
 have hno:¬ ((((sIx items.size 0 lo:Nat):Int) == 0 && (1:Int) == 1 && (sIx items.size items.size hi - sIx items.size 0 lo) == items.size)=true):=by
  intro q
  rw [Υ,Υ] at q
  have q1:((sIx items.size 0 lo:Nat):Int)=0:=eq_of_beq q.1.1
  have q2:sIx items.size items.size hi - sIx items.size 0 lo=items.size:=eq_of_beq q.2
  exact hw ⟨by omega,by omega⟩
 show Α _ _ (if (((sIx items.size 0 lo:Nat):Int) == 0 && (1:Int) == 1 && (sIx items.size items.size hi - sIx items.size 0 lo) == items.size)=true then _ else _) _ _ s
 rw [ZY hno,rz]
 first
  | exact ε (m:=ü _) (Ê (θ ⟨_,rfl,θ h⟩) htake)
  | exact ε (m:=ü _) (Ê (ε (θ (θ ⟨_,rfl,θ h⟩))) htake)
  | exact ε (ε (m:=ü _) (Ê (θ (θ ⟨_,rfl,θ h⟩)) htake))
  | exact ε (ε (m:=ü _) (Ê (θ ⟨_,rfl,θ h⟩) htake))
end
end HT
namespace L2
def ixN (n:Nat) (i:Int):Option Nat:=if 0≤i then (if i<n then some i.toNat else none) else if -(n:Int)≤i then some (i+n).toNat else none
def atI {α:Type} (xs:List α) (i:Int):Option α:=(ixN xs.length i).bind fun j=>xs[j]?
theorem mv (h:ixN n i=some j):seqIndex? i n=some j∧j<n∧-(n:Int)≤i∧i<n:=by
 unfold ixN at h
 by_cases h0:0≤i
 ·rw [ZZ h0] at h
  by_cases h1:i<n
  ·rw [ZZ h1] at h
   have e:i.toNat=j:=Ϧ h
   exact ⟨by rw [FX h0 h1,e],by omega,by omega,h1⟩
  ·rw [ZY h1] at h;cases h
 ·rw [ZY h0] at h
  by_cases h1:-(n:Int)≤i
  ·rw [ZZ h1] at h
   have e:(i+n).toNat=j:=Ϧ h
   exact ⟨by rw [Fv (by omega) h1,e],by omega,h1,by omega⟩
  ·rw [ZY h1] at h;cases h
theorem iO (h:atI xs i=some v):∃ j,seqIndex? i xs.length=some j∧xs[j]? = some v∧j<xs.length∧-(xs.length:Int)≤i∧i<xs.length:=by
 unfold atI at h
 cases e:ixN xs.length i with
 | none=>rw [e] at h;cases h
 | some j=>
   rw [e] at h
   obtain ⟨h1,h2,h3,h4⟩:=mv e
   exact ⟨j,h1,h,h2,h3,h4⟩
theorem dP {α:Type} {xs:List α} {j:Nat} {v:α} (h:xs[j]? = some v):atI xs (j:Int)=some v:=by
 have hj:j<xs.length:=(ς.mp h).1
 have e:ixN xs.length (j:Int)=some j:=by
  unfold ixN
  rw [ZZ (by omega),ZZ (by omega)];simp
 unfold atI;rw [e];exact h
section
variable {X:Cx} {a b:Κ} {ta tb:TE} {pos:ϭ}
theorem jw (lo hi) (n):(ú lo hi none n).1=((HT.sIx n 0 lo:Nat):Int)∧(ú lo hi none n).2.1=((HT.sIx n n hi:Nat):Int)∧(ú lo hi none n).2.2=1:=by
 refine ⟨?_,?_,rfl⟩
 ·cases lo with
  | none=>simp [ú,HT.sIx]
  | some i=>
    simp only [ú,HT.sIx,Fm,show (1:Int)>0 by decide,if_true]
    by_cases h:i<0
    ·simp only [h,if_true] <;> omega
    ·simp only [h,if_false] <;> omega
 ·cases hi with
  | none=>simp [ú,HT.sIx]
  | some i=>
    simp only [ú,HT.sIx,Fm,show (1:Int)>0 by decide,if_true]
    by_cases h:i<0
    ·simp only [h,if_true] <;> omega
    ·simp only [h,if_false] <;> omega
theorem ie (its:List ζ) (lo hi:Option Int):slicePick its.toArray lo hi none=((its.drop (HT.sIx its.length 0 lo)).take (HT.sIx its.length its.length hi - HT.sIx its.length 0 lo)).toArray:=by
 obtain ⟨h1,h2,h3⟩:=jw lo hi its.toArray.size
 unfold slicePick
 rw [h1,h2,h3]
 simp only [sliceRange_one,pick_run,Λ] <;> rfl
variable {o e:Κ} {es:List Κ} {to:TE} {t:TA} {name:ν} {apos cpos:ϭ} {T id:String} {r:V→List V→Hp→VK→Prop}
end
end L2
namespace Att
open PySem PySem.W PySem.Calls PyProof.Rows
theorem fq :∀ (ns) (vs),WellAll P h vs (ns.map WData.int)→D9 vs ns:=by
 intro ns
 induction ns with
 | nil=>
   intro vs w
   rw [List.map_nil] at w
   cases w
   exact .nil
 | cons n ns ih=>
   intro vs w
   rw [Î] at w
   cases w with
   | cons a b=>
     cases a
     exact .cons _ _ (ih _ b)
theorem oN {l:OpenLaw} {n:Nat} (hn:l.most=some n) {P:Params} {h:ϳ} {args:List WData} {vals:List ζ}
 (hpre:l.row.toRowW.claim.pre args=true) (hwl:WellAll P h vals args) :
 ∃ a vs ns,vals = [Ϡ a]∧args = [WData.list (ns.map WData.int)]∧h.get? a=some { cls:=.type "list",data:=.seq vs.toArray }∧D9 vs ns∧ns.length≤n:=by
 have hsh:WShape.hasAll [] args [.list .int]=true:=(pre_splitW hpre).1
 have hc:l.pre.holds [] { args:=args }=true:=(pre_splitW hpre).2
 obtain ⟨d,r,rfl,h1,h2⟩:=hasAllW_cons hsh
 obtain rfl:=hasAllW_nil h2
 obtain ⟨xs,rfl,h3⟩:=hasW_list h1
 obtain ⟨ns,rfl⟩:=items_int h3
 have hlen:ns.length≤n:=by
  unfold OpenLaw.pre at hc
  have h4:(WTm.not (.lt (.lit (.int (n:Int))) (.len (.arg 0)))).holds [] { args:=[.list (ns.map .int)] }=true:=by
   have h4:=(holds_andW hc).1
   rw [hn] at h4
   exact h4
  have h5:=condW_of h4 (w_not (w_lt w_lit (w_len_list (w_arg rfl))))
  rw [Ν] at h5
  refine G3 fun q=>?_
  have q':(n:Int)<((ns.length:Nat):Int):=by omega
  first
   | (rw [ZW q'] at h5;exact ZX h5 (by decide))
   | (simp at h5;omega)
 cases hwl with
 | cons w1 w2=>
   cases w2
   cases w1 with
   | list ho hall=>exact ⟨_,_,ns,rfl,rfl,ho,fq ns _ hall,hlen⟩
theorem oG (l:OpenLaw) (args:List WData):l.row.toRowW.claim.post args (.bool true) args=true:=
 postW_of (r:=l.row.toRowW) (X:=(true == true))
  (show WShape.has [] (.bool true) .bool=true by first | rfl | decide | simp [WShape.has,WShape.arms,WShape.armsAll])
  (show (WTm.eq .res (.lit (.bool true))).value [] { args:=args,res:=some (.bool true),after:=args }=some (.bool (true == true)) from w_eq_bool (w_res rfl) w_lit) rfl
theorem attach_call {l:OpenLaw} {n:Nat} {q:ϴ} {loose:List ν} {XP:(ν→Option ζ)→ϳ→Prop} {YP:Û→ϳ→Prop} {d:DefRec}
 (hn:l.most=some n) (hdf:d.params.defaults = [])
 (call:∀ (w:Û) (s₀ s₁:ξ) (mg mb:ν→Option ζ) (fa:Β) (o:Er) (pm cd doc:ζ) (a:Β) (vs:List ζ) (ns:List Int),
  Ground q loose [] XP w s₀ mg mb s₁.heap→YP w s₁.heap →
  s₁.heap.get? fa=some o→o.data = .func (docDef d.name d.params d.body d.scope pm cd doc)→s₁.heap.CodeRec cd d.name→mg d.name=some (.ref fa) →
  s₁.heap.get? a=some { cls:=.type "list",data:=.seq vs.toArray }→D9 vs ns→ns.length≤n→s₁.gens = #[] →
  Ĵ (model l.prog w) œ (.call (.ref fa) ⟨[.ref a],[]⟩) (fun r s'=>r = .ok (.ret (.bool true))∧OldK s₁.heap s'.heap∧s'.os=s₁.os∧Ŗ s'.gens) s₁) :
 WalkO q loose XP YP l.row.toRowW d [] (fun f vs=>F2 f vs):=by
 intro w s₀ s₁ mg mb G Y fa o pm cd doc dV kV ho hd hcd hD hmg hg args vals as hpre hlay hrd hwl hlo
 obtain rfl:dV = .none:=Dflts.none hD hdf
 obtain rfl:kV = .none:=Dflts.noKw hD
 obtain ⟨a,vs,ns,rfl,rfl,hobj,hints,hlen⟩:=oN hn hpre hwl
 refine enter_call (í (call w s₀ s₁ mg mb fa o pm cd doc a vs ns G Y ho (fd_plain hd) hcd hmg hobj hints hlen hg) fun r s' hq=>?_)
 obtain ⟨rfl,h2,h3,h4⟩:=hq
 exact ⟨.inl ⟨.bool true,.bool true,[],rfl,fun _=>rfl,.bool true,oG l _,fun _=>⟨List.Pairwise.nil,fun _ hm=>(nomatch hm)⟩⟩,h2,h3,h4⟩
end Att
namespace L2
def aK (s:Ó):En:=match s with
 | .FunctionDef _ a _ _ _ _ _ _ _ _=>a
 | _=>{ posonlyargs:=[],args:=[],vararg:=none,kwonlyargs:=[],kw_defaults:=[],kwarg:=none,defaults:=[] }
def bI (s:Ó):List Ó:=match s with
 | .FunctionDef _ _ b _ _ _ _ _ _ _=>b
 | _=>[]
def ax (s:Ó):Ē:=match s with
 | .FunctionDef _ _ _ _ _ _ sc _ _ _=>sc
 | _=>{ kind:=.function,names:=[],isGenerator:=false,isCoroutine:=false }
structure Fun (K:χ) (x qual:ν) (st:Ó) (f:Β) (fd:ß):Prop where
 ex:∃ (oc:ζ) (od:Option Β) (kV doc pm:ζ) (an:Option Β) (cdv ct:ζ) (osl:Array (Option ζ)),
  fd=ϱ x qual (aK st) (bI st) (ax st) .none kV doc pm an cdv ct∧K.lookup f=some ⟨oc,od,.func fd,osl⟩∧Ü K cdv qual=true
 kp:ϖ K (.ref f)=true
section
variable {P:ϴ} {w:Û} {K:χ} {mg:ν→Option ζ} {base:ϳ}
theorem Fun.binds {x qual:ν} {st:Ó} {f:Β} {fd:ß} {ps:List ν} (F:Fun K x qual st f fd)
 (h:∀ (kV doc pm:ζ) (an:Option Β) (cdv ct:ζ) (us:List ζ),us.length=ps.length→bindArgs (ϱ x qual (aK st) (bI st) (ax st) .none kV doc pm an cdv ct) ⟨us,[]⟩=pure (ps.zip us)):bV K fd ps []:=by
 obtain ⟨oc,od,kV,doc,pm,an,cdv,ct,osl,rfl,lk,hcd⟩:=F.ex
 exact .all (h kV doc pm an cdv ct)
theorem kW {x qual:ν} {st:Ó} {f:Β} {oc:ζ} {od an:Option Β} {osl:Array (Option ζ)} {kV doc pm cdv ct:ζ} (l:K.lookup f=some ⟨oc,od,.func (ϱ x qual (aK st) (bI st) (ax st) .none kV doc pm an cdv ct),osl⟩)
 (c:Ü K cdv qual=true) (k:ϖ K (.ref f)=true):Fun K x qual st f (ϱ x qual (aK st) (bI st) (ax st) .none kV doc pm an cdv ct):=⟨⟨oc,od,kV,doc,pm,an,cdv,ct,osl,rfl,l,c⟩,k⟩
end
end L2
section
namespace L2.Bk
open PySem
inductive Dk where
 | non
 | int (i:Int)
 | bl (b:Bool)
 | str (x:ν)
 | tup (xs:List Dk)
def sumI:List Int→Int
 | []=>0
 | x :: r=>x+sumI r
end L2.Bk
namespace L2.Bw
def maxD (d:Int):List Int→Int
 | []=>d
 | x :: r=>r.foldl (fun a b=>if b>a then b else a) x
end L2.Bw
namespace L2.Ev
inductive D where
 | non | bl (b:Bool) | int (i:Int) | str (x:ν) | tup (l:List D) | lst (l:List D) | dic (k:List Key) (l:List D) | ins (c:Nat) (l:List D) | ref (n:Nat)
inductive O where
 | lst (l:List D) | dic (k:List Key) (l:List D) | ins (c:Nat) (l:List D)
inductive Op where
 | add | sub | mul | fdiv | mod | pow | shl | shr | band | bxor | eq | ne | lt | le | gt | ge | isin | notin | eq2
 deriving DecidableEq
inductive Bi where
 | len | tuple | list | all | max0 | sum | abs | str | int | range1 | range2 | zip2 | zip3 | enum | enum2 | rev | dict | max2 | min2 | isTup | isStr | isInt | isBool | isLst | isDic | isVal | setl
 deriving DecidableEq
inductive E where
 | v (i:Nat) | c (d:D) | g (j:Nat) | op (o:Op) (a b:E) | isN (a:E) | isNN (a:E) | neg (a:E) | not (a:E) | and (a b:E) | or (a b:E) | ite (c a b:E)
 | chain (o p:Op) (a b c:E)
 | ix (a b:E) | sl (a lo hi:E) | fld (a:E) (f:Nat) | tup (es:E) | lst (es:E) | dic (es:E) | nil | cons (a es:E)
 | call (j:Nat) (es:E) | hcall (j:Nat) (es:E) | mth (c j:Nat) (a es:E) | new (j:Nat) (es:E) | bi (b:Bi) (es:E) | join (x:ν) (a:E) | get (a b c:E) | index (a b:E) | isX (a:E) (js:List Nat)
 | lc (t:List Nat) (one:Bool) (it elt cond:E)
 | tab (j:Nat) (e:E) | tabin (j:Nat) (e:E)
 | newl (es:E) | keep (kp:List Nat) (a:E) | sto (a:E) | fcall (own:Bool) (j:Nat) (es:E)
 | sl3 (a lo st:E) | tget (j:Nat) (e d:E) | newd (j:Nat) (es:E) | fmt (x:ν) (a:E) (y:ν) | dicc (ks:List ν) (es:E)
 | tand (a b:E) | tor (a b:E) | tnot (a:E) | tv (a:E) | it (b:Bi) (es:E) | itv (a:E)
inductive S where
 | skip | seq (a b:S) | set (i:Nat) (e:E) | setT (l:List Nat) (e:E) | setR (i:Nat) (es:E) | ret (e:E) | ifs (c:E) (a b:S) | drop (e:E)
 | app (i:Nat) (e:E) | ext (i:Nat) (e:E) | put (a b e:E) | fld (a:E) (f:Nat) (e:E) | aug (a:E) (f:Nat) (o:Op) (e:E) | fapp (a:E) (f:Nat) (e:E)
 | for_ (t:List Nat) (one:Bool) (it:E) (b:S) | whl (c:E) (b:S) | rais (j:Nat) (es:E) | try_ (a:S) (hs:S) | hand (j:Nat) (i:Option Nat) (b rest:S)
def fl:D→Bool
 | .non=>true | .bl _=>true | .int _=>true | .str _=>true | _=>false
def eqf:D→D→Bool
 | .non,.non=>true
 | .bl a,.bl b=>a == b
 | .bl a,.int b=>(if a then 1 else 0) == b
 | .int a,.int b=>a == b
 | .int a,.bl b=>a == (if b then 1 else 0)
 | .str a,.str b=>a == b
 | _,_=>false
def sh:D→Nat
 | .non=>0 | .bl _=>0 | .int _=>0 | .str _=>0 | .tup _=>1 | .lst _=>2 | _=>3
def eq0 (d e:D):Option Bool:=
 if sh d=3∨sh e=3 then none else if sh d=0∧sh e=0 then some (eqf d e) else if sh d=sh e then none else some false
def cO (f:D→D→Option Bool):List D→List D→Option Bool
 | d :: a,e :: b=>(match f d e with | none=>none | some x=>(cO f a b).map (x && ·))
 | _,_=>some true
def eqv:Nat→D→D→Option Bool
 | 0,d,e=>eq0 d e
 | n+1,.tup a,.tup b=>(cO (eqv n) a b).map (· && a.length == b.length)
 | n+1,.lst a,.lst b=>if a.length=b.length then cO (eqv n) a b else some false
 | _+1,d,e=>eq0 d e
end L2.Ev
namespace L2.Ev
structure Fn where
 np:Nat
 ns:Nat
 body:S
 df:List D
structure Cl where
 what:Nat
 at_:List Nat
 init:Nat
 me:List (Nat×Nat)
 sup:List Nat
 chk:List Nat:=[]
def toD:L2.Bk.Dk→D
 | .non=>.non
 | .int i=>.int i
 | .bl b=>.bl b
 | .str x=>.str x
 | .tup l=>.tup (toDs l)
where toDs:List L2.Bk.Dk→List D
 | []=>[]
 | d :: r=>toD d :: toDs r
structure Gm where
 gl:List L2.Bk.Dk
 tb:List (List (ν×L2.Bk.Dk))
 fn:List Fn
 cl:List Cl
structure Sta where
 env:List (Option D)
 ow:List Nat
 st:List O
inductive Out (α:Type) where
 | ok (a:α) (s:Sta) | exc (c:Nat) (l:List D) (s:Sta) | bad
inductive Res where
 | ok (d:D) (st:List O) | exc (c:Nat) (l:List D) (st:List O) | bad
inductive av where
 | nx (s:Sta) | rt (d:D) (s:Sta) | exc (c:Nat) (l:List D) (s:Sta) | bad
def Out.bind {α β:Type} (x:Out α) (f:α→Sta→Out β):Out β:=match x with
 | .ok a s=>f a s
 | .exc c l s=>.exc c l s
 | .bad=>.bad
def Out.of {α:Type} (s:Sta):Option α→Out α
 | some a=>.ok a s
 | none=>.bad
def Out.go {α:Type} (x:Out α) (f:α→Sta→av):av:=match x with
 | .ok a s=>f a s
 | .exc c l s=>.exc c l s
 | .bad=>.bad
def av.go (x:av) (f:Sta→av):av:=match x with
 | .nx s=>f s
 | y=>y
def jT:D→Bool
 | .non=>true | _=>false
def un (s:Sta) (i:Nat):Sta:=⟨s.env,s.ow.filter (· != i),s.st⟩
def look (st:List O):D→D
 | .ref n=>(match st[n]? with | some (.lst l)=>.lst l | some (.dic k l)=>.dic k l | _=>.ref n)
 | d=>d
def bx:D→Option Key
 | .int i=>some (.inl i)
 | .str x=>some (.inr x)
 | _=>none
def b8:List Key→List D→Key→Option D
 | k :: ks,d :: ds,x=>if k=x then some d else b8 ks ds x
 | _,_,_=>none
def ia:List Key→List D→Key→D→List D
 | k :: ks,d :: ds,x,e=>(if k=x then e else d) :: ia ks ds x e
 | _,ds,_,_=>ds
def bW (ks:List Key) (ds:List D) (x:Key) (e:D):List Key×List D:=if ks.any (fun k=>decide (k=x))=true then (ks,ia ks ds x e) else (ks ++ [x],ds ++ [e])
def inD (d:D):List D→Option Bool
 | []=>some false
 | e :: r=>match eqv 55 e d with | none=>none | some b=>(inD d r).map (b || ·)
def nR (n:Nat) (d:D):Option D:=if n≤100000 then some d else none
def opI (o:Op) (i j:Int):Option D:=match o with
 | .add=>some (.int (i+j))
 | .sub=>some (.int (i - j))
 | .mul=>if ((-(2 ^ 64)<i∧i<2 ^ 64)∨(-(2 ^ 64)<j∧j<2 ^ 64))∨(i.natAbs<2 ^ 400∧j.natAbs<2 ^ 400) then some (.int (i * j)) else none
 | .fdiv=>if 0<j∧j<2 ^ 200 then some (.int (i / j)) else none
 | .mod=>if 0<j then some (.int (i % j)) else none
 | .pow=>if 0≤j∧j≤1000000∧i.natAbs<2 ^ 64 then some (.int (i ^ j.toNat)) else none
 | .shl=>if 0≤j∧j≤1000000∧i.natAbs<2 ^ 64 then some (.int (i * 2 ^ j.toNat)) else none
 | .shr=>if 0≤j then some (.int (i / 2 ^ j.toNat)) else none
 | .band=>some (.int (Builtin.bitAnd i j))
 | .bxor=>some (.int (Builtin.bitXor i j))
 | .lt=>some (.bl (decide (i<j)))
 | .le=>some (.bl (decide (i≤j)))
 | .gt=>some (.bl (decide (j<i)))
 | .ge=>some (.bl (decide (j≤i)))
 | _=>none
def qk (ls:List Key) (es:List D):List Key→List D→Option Bool
 | k :: ks,d :: ds=>(match b8 ls es k with | none=>some false | some e=>(match eqv 55 d e with | none=>none | some x=>(qk ls es ks ds).map (x && ·)))
 | _,_=>some true
def eqT (a b:D):Option Bool:=match a,b with
 | .dic ks ds,.dic ls es=>if ks.length=ls.length then qk ls es ks ds else some false
 | a,b=>eqv 55 a b
def AB:List D→List D→Bool
 | [],[]=>true
 | d :: l,e :: m=>eqT d e == some true && AB l m
 | _,_=>false
def CT (a b:D):Option D:=match a,b with
 | .tup l,.tup m=>if AB l m then some (.bl true) else none
 | _,_=>none
def opD (o:Op) (a b:D):Option D:=match o with
 | .eq2=>CT a b
 | .eq=>(eqT a b).map .bl
 | .ne=>(eqT a b).map fun x=>.bl (!x)
 | .isin=>(match b with | .str y=>(match a with | .str x=>some (.bl (Txt.contains y x)) | _=>none) | .lst l=>(inD a l).map .bl | .tup l=>(inD a l).map .bl | .dic ks ds=>(bx a).map fun k=>.bl (b8 ks ds k).isSome | _=>none)
 | .notin=>(match b with | .lst l=>(inD a l).map fun x=>.bl (!x) | .tup l=>(inD a l).map fun x=>.bl (!x) | .dic ks ds=>(bx a).map fun k=>.bl (!(b8 ks ds k).isSome) | _=>none)
 | _=>match a,b with
   | .int i,.int j=>opI o i j
   | .str x,.str y=>if o = .add then nR (x.length+y.length) (.str (x ++ y)) else none
   | .tup x,.tup y=>if o = .add then nR (x.length+y.length) (.tup (x ++ y)) else none
   | .lst x,.lst y=>if o = .add then nR (x.length+y.length) (.lst (x ++ y)) else none
   | _,_=>none
def vy:D→Option Bool
 | .bl b=>some b
 | .tup l=>some (!l.isEmpty)
 | .lst l=>some (!l.isEmpty)
 | .int i=>some (i != 0)
 | .non=>some false
 | _=>none
def ixD (a b:D):Option D:=match a,b with
 | .tup l,.int i=>atI l i
 | .lst l,.int i=>atI l i
 | .str x,.int i=>if x.length≤100000 then (atI x.cps.toList i).map fun c=>.str ⟨#[c]⟩ else none
 | .dic ks ds,k=>(bx k).bind fun k=>b8 ks ds k
 | _,_=>none
def nU (xs:List D) (lo hi:Option Int):List D:=(xs.drop (HT.sIx xs.length 0 lo)).take (HT.sIx xs.length xs.length hi - HT.sIx xs.length 0 lo)
def slO (a:D) (l h:Option Int):Option D:=match a with
 | .tup x=>some (.tup (nU x l h))
 | .lst x=>some (.lst (nU x l h))
 | .str x=>if x.length≤100000 then some (.str (ħ x l h)) else none
 | _=>none
def BK {α:Type} (xs:List α) (lo:Option Int) (st:Int):List α:=(sliceRange (ú lo none (some st) xs.length).1 (ú lo none (some st) xs.length).2.1 (ú lo none (some st) xs.length).2.2).filterMap (xs[·]?)
def oO (a:D) (l st:Option Int):Option D:=match a,st with
 | .lst x,some k=>if k=0 then none else some (.lst (BK x l k))
 | _,_=>none
def isDic:D→Bool
 | .dic _ _=>true
 | _=>false
def bJ:E→Bool
 | .nil=>true
 | _=>false
def toI (d:D) (s:Sta):Out (Option Int):=match d with | .int i=>.ok (some i) s | _=>.bad
def dE:List D→Option (List Int)
 | []=>some []
 | .int i :: r=>(dE r).map (i :: ·)
 | _=>none
def jG:List D→Option (List Bool)
 | []=>some []
 | .bl i :: r=>(jG r).map (i :: ·)
 | _=>none
def dJ:List D→Option (List ν)
 | []=>some []
 | .str i :: r=>(dJ r).map (i :: ·)
 | _=>none
def gU (b:Bi) (x:D):Option D:=match b,x with
 | .len,.tup l=>some (.int l.length)
 | .len,.lst l=>some (.int l.length)
 | .len,.str x=>if x.length≤100000 then some (.int x.length) else none
 | .len,.dic k _=>if k.length≤100000 then some (.int k.length) else none
 | .tuple,.lst l=>some (.tup l)
 | .tuple,.tup l=>some (.tup l)
 | .list,.tup l=>some (.lst l)
 | .list,.lst l=>some (.lst l)
 | .rev,.lst l=>some (.lst l.reverse)
 | .all,.lst l=>(jG l).map fun bs=>.bl (bs.all id)
 | .sum,.lst l=>(dE l).map fun ns=>.int (L2.Bk.sumI ns)
 | .max2,.lst l=>(match dE l with | some (n :: r)=>some (.int (L2.Bw.maxD 0 (n :: r))) | _=>none)
 | .abs,.int i=>some (.int (if i<0 then -i else i))
 | .str,.int i=>if i.natAbs.log2<1920 then some (.str (ϧ (toString i))) else none
 | .int,.int i=>some (.int i)
 | .int,.bl k=>some (.int (if k then 1 else 0))
 | .int,.str x=>if x.length≤640 then (FZ x).map .int else none
 | .dict,.dic k l=>some (.dic k l)
 | .setl,.lst l=>(dE l).bind fun ns=>if ns.length+1<4096 then some (.int ((Hx (fun i=>ns.getD i 0) ns.length).length:Nat)) else none
 | .isTup,d=>(match d with | .tup _=>some (.bl true) | .ref _=>none | .ins _ _=>none | _=>some (.bl false))
 | .isStr,d=>(match d with | .str _=>some (.bl true) | .ref _=>none | .ins _ _=>none | _=>some (.bl false))
 | .isBool,d=>(match d with | .bl _=>some (.bl true) | .ref _=>none | .ins _ _=>none | _=>some (.bl false))
 | .isInt,d=>(match d with | .bl _=>some (.bl true) | .int _=>some (.bl true) | .ref _=>none | .ins _ _=>none | _=>some (.bl false))
 | .isLst,d=>(match d with | .lst _=>some (.bl true) | .ref _=>none | .ins _ _=>none | _=>some (.bl false))
 | .isDic,d=>(match d with | .dic _ _=>some (.bl true) | .ref _=>none | .ins _ _=>none | _=>some (.bl false))
 | .isVal,d=>(match d with | .lst _=>some (.bl true) | .int _=>some (.bl true) | .bl _=>some (.bl true) | .str _=>some (.bl true) | .ref _=>none | .ins _ _=>none | _=>some (.bl false))
 | _,_=>none
def wN (b:Bi) (x y:D):Option D:=match b,x,y with
 | .max0,.lst l,.int d=>(dE l).map fun ns=>.int (L2.Bw.maxD d ns)
 | .max2,.int i,.int j=>some (.int (if j>i then j else i))
 | .min2,.int i,.int j=>some (.int (if j<i then j else i))
 | _,_,_=>none
def Ch (b:Bi) (x y z:D):Option D:=match b,x,y,z with
 | .max2,.int i,.int j,.int k=>some (.int (if j>i then (if k>j then k else j) else if k>i then k else i))
 | _,_,_,_=>none
def biD (b:Bi) (ds:List D):Option D:=match ds with
 | [x]=>gU b x
 | [x,y]=>wN b x y
 | [x,y,z]=>Ch b x y z
 | _=>none
def xG:Key→D
 | .inl i=>.int i
 | .inr x=>.str x
def sE:D→Option (List D)
 | .lst l=>some l
 | .tup l=>some l
 | .dic ks _=>some (ks.map xG)
 | .str x=>if x.cps.all (· < 128)=true then some (x.cps.toList.map fun c=>.str ⟨#[c]⟩) else none
 | _=>none
def fy (lo:Int) (n:Nat):List D:=(Ŕ n).map fun (i:Nat)=>.int (lo+i)
def eW:List D→List D→List D
 | a :: r,b :: q=>.tup [a,b] :: eW r q
 | _,_=>[]
def cy:List D→List D→List D→List D
 | a :: r,b :: q,c :: p=>.tup [a,b,c] :: cy r q p
 | _,_,_=>[]
def bM:Int→List D→List D
 | i,a :: r=>.tup [.int i,a] :: bM (i+1) r
 | _,[]=>[]
def sqL:D→Option (List D)
 | .lst l=>some l
 | .tup l=>some l
 | _=>none
def AZ (b:Bi) (x:D):Option (List D):=match b,x with
 | .range1,.int j=>if -(2 ^ 62)≤j∧j<2 ^ 62 then some (fy 0 j.toNat) else none
 | .enum,.lst x=>some (bM 0 x)
 | _,_=>none
def CZ (b:Bi) (x y:D):Option (List D):=match b,x,y with
 | .range2,.int i,.int j=>if (-(2 ^ 62)≤i∧i<2 ^ 62∧-(2 ^ 62)≤j∧j<2 ^ 62) then some (fy i (j - i).toNat) else none
 | .zip2,x,y=>(match sqL x,sqL y with | some l,some m=>if l.length≤m.length then some (eW l m) else none | _,_=>none)
 | .enum2,.tup x,.int n=>if Ç n=true∧0≤n then some (bM n x) else none
 | _,_,_=>none
def C0 (b:Bi) (x y z:D):Option (List D):=match b,x,y,z with
 | .zip3,x,y,z=>(match sqL x,sqL y,sqL z with | some l,some m,some n=>if l.length≤m.length∧l.length≤n.length then some (cy l m n) else none | _,_,_=>none)
 | _,_,_,_=>none
def itD (b:Bi) (ds:List D):Option (List D):=match ds with
 | [x]=>AZ b x
 | [x,y]=>CZ b x y
 | [x,y,z]=>C0 b x y z
 | _=>none
def kU (Γ:Gm) (st:List O) (d:D) (f:Nat):Option D:=match d with
 | .ins c l=>(Γ.cl[c]?).bind fun k=>l[k.at_.idxOf f]?
 | .ref n=>(match st[n]? with | some (.ins c l)=>(Γ.cl[c]?).bind fun k=>l[k.at_.idxOf f]? | _=>none)
 | _=>none
def aP (t:List Nat) (one:Bool) (d:D) (env:List (Option D)):Option (List (Option D)):=
 if one then (match t with | [i]=>some (env.set i (some d)) | _=>none)
 else (match d with
  | .tup l=>if l.length=t.length then some ((t.zip l).foldl (fun e p=>e.set p.1 (some p.2)) env) else none
  | .lst l=>if l.length=t.length then some ((t.zip l).foldl (fun e p=>e.set p.1 (some p.2)) env) else none
  | _=>none)
def noX {α:Type}:Out α→Out α
 | .exc _ _ _=>.bad
 | o=>o
def b6 (f:D→Sta→Out (Option D)):List D→List D→Sta→Out D
 | [],acc,s=>.ok (.lst acc) s
 | d :: r,acc,s=>(f d s).bind fun o s'=>match o with
   | some e=>if acc.length<100000 then b6 f r (acc ++ [e]) s' else .bad
   | none=>b6 f r acc s'
mutual
noncomputable def noL:D→Bool
 | .lst _=>false
 | .tup l=>fx l
 | .dic _ l=>fx l
 | .ins _ l=>fx l
 | _=>true
noncomputable def fx:List D→Bool
 | []=>true
 | d :: r=>noL d && fx r
end
mutual
noncomputable def noR:D→Bool
 | .ref _=>false
 | .tup l=>bc l
 | .lst l=>bc l
 | .dic _ l=>bc l
 | .ins _ l=>bc l
 | _=>true
noncomputable def bc:List D→Bool
 | []=>true
 | d :: r=>noR d && bc r
end
def j9:O→Bool
 | .lst _=>false
 | .dic _ l=>fx l
 | .ins _ l=>fx l
def bL:E→List Nat
 | .cons (.v i) r=>i :: bL r
 | .cons _ r=>bL r
 | _=>[]
def isLst:Option (Option D)→Bool
 | some (some (.lst _))=>true
 | _=>false
def aft (es:E) (s:Sta) (d:D) (st:List O):Sta:=⟨s.env,s.ow.filter fun i=>!(bL es).contains i || (isLst s.env[i]? && (noL d && st.all j9)),st⟩
def drp (es:E) (s:Sta) (st:List O):Sta:=⟨s.env,s.ow.filter fun i=>!(bL es).contains i,st⟩
def pF:List D→Option (List Key×List D)
 | []=>some ([],[])
 | [_]=>none
 | k :: d :: r=>(bx k).bind fun k=>(pF r).bind fun p=>if p.1.contains k then none else some (k :: p.1,d :: p.2)
def tS:D→Bool
 | .tup _=>true
 | _=>false
def xx (x y:D):Option D:=match x,y with
 | .tup l,.str k=>(dJ l).bind fun ss=>(ss.findIdx? (· == k)).map fun (j:Nat)=>.int j
 | _,_=>none
def wa (x:ν) (y:D):Option D:=match y with
 | .lst l=>(dJ l).bind fun ss=>if x.length≤64∧(ss.map (·.length)).sum≤100000∧ss.length≤1000 then some (.str (Txt.join x ss)) else none
 | _=>none
def xj (x:ν) (v:D) (y:ν):Option D:=match v with
 | .str z=>if x.length≤1000∧z.length≤100000∧y.length≤1000 then some (.str (((ė ++ x) ++ z) ++ y)) else none
 | _=>none
mutual
noncomputable def shD (k:Nat):D→D
 | .tup l=>.tup (ib k l)
 | .lst l=>.lst (ib k l)
 | .dic ks l=>.dic ks (ib k l)
 | .ins c l=>.ins c (ib k l)
 | .ref n=>.ref (k+n)
 | d=>d
noncomputable def ib (k:Nat):List D→List D
 | []=>[]
 | d :: r=>shD k d :: ib k r
end
def shO (k:Nat):O→O
 | .lst l=>.lst (ib k l)
 | .dic ks l=>.dic ks (ib k l)
 | .ins c l=>.ins c (ib k l)
def wG (Γ:Gm) (c:Nat):Bool:=match Γ.cl[c]? with | some k=>k.what == 2 | none=>false
def AY (Γ:Gm) (x:D) (js:List Nat):Option D:=match x with
 | .ins c _=>if (wG Γ c && js.all (wG Γ))=true then (Γ.cl[c]?).map fun k=>.bl (js.any fun j=>c == j || k.sup.contains j) else none
 | _=>none
def l8 (ks:List ν) (l:List D):Option D:=if ks.length=l.length∧ks.Nodup∧ks.length≤15∧ks≠[] then some (.dic (ks.map .inr) l) else none
def qg (kp:List Nat) (env:List (Option D)):List (Option D):=env.mapIdx fun i d=>if kp.contains i then none else d
def hid (kp:List Nat) (s:Sta):Sta:=⟨qg kp s.env,s.ow.filter (fun i=>!kp.contains i),s.st⟩
def Dd (x:D) (s:Sta):Out D:=match x with | .lst l=>.ok (.ref s.st.length) ⟨s.env,s.ow,s.st ++ [.lst l]⟩ | _=>.bad
section
variable (Γ:Gm) (cal cal1:Nat→List D→List O→Res)
def gW (es:E) (j:Nat) (ds:List D) (s:Sta):Out D:=match cal j ds s.st with
 | .ok d st=>.ok d (aft es s d st)
 | .exc c l st=>.exc c l (drp es s st)
 | .bad=>.bad
def tM (j:Nat) (ds:List D) (s:Sta):Out D:=if bc ds then (match cal j ds [] with
 | .ok d st=>if noR d then .ok d s else .ok (shD s.st.length d) ⟨s.env,s.ow,s.st ++ st.map (shO s.st.length)⟩
 | .exc c l _=>if bc l then .exc c l s else .bad
 | .bad=>.bad) else .bad
def qp:D→Bool
 | .ref _=>true | _=>false
def AG (st:List O):D→Option D
 | .ref n=>(match st[n]? with | some (.lst l)=>if bc l then some (.lst l) else none | some (.dic k l)=>if bc l then some (.dic k l) else none | _=>none)
 | d=>if noR d then some d else none
def AI (st:List O):List D→Option (List D)
 | []=>some []
 | d :: r=>(AG st d).bind fun e=>(AI st r).map (e :: ·)
def AH (st:List O):D→Option D
 | .tup l=>(AI st l).map .tup
 | d=>AG st d
def xh (own:Bool) (j:Nat) (ds:List D) (s:Sta):Out D:=if bc ds then (match cal j ds [] with
 | .ok d st=>if own && !qp d then .bad else .of s (AH st d)
 | .exc c l _=>if bc l then .exc c l s else .bad
 | .bad=>.bad) else .bad
mutual
noncomputable def ev (br:Bool):E→Sta→Out D
 | .v i,s=>(match s.env[i]? with | some (some d)=>.ok d (if br then s else un s i) | _=>.bad)
 | .c d,s=>.ok d s
 | .g j,s=>.of s (Γ.gl[j]?.map toD)
 | .op o a b,s=>(ev true a s).bind fun x s=>(ev true b s).bind fun y s=>.of s (opD o (look s.st x) (look s.st y))
 | .isN a,s=>(ev true a s).bind fun x s=>.ok (.bl (jT x)) s
 | .isNN a,s=>(ev true a s).bind fun x s=>.ok (.bl (!jT x)) s
 | .neg a,s=>(ev true a s).bind fun x s=>(match x with | .int i=>.ok (.int (-i)) s | _=>.bad)
 | .not a,s=>(ev true a s).bind fun x s=>(match x with | .bl b=>.ok (.bl (!b)) s | _=>.bad)
 | .and a b,s=>(ev false a s).bind fun x s=>(match x with | .bl true=>ev false b s | .bl false=>.ok (.bl false) s | _=>.bad)
 | .or a b,s=>(ev false a s).bind fun x s=>(match x with | .bl false=>ev false b s | .bl true=>.ok (.bl true) s | _=>.bad)
 | .ite c a b,s=>(ev true c s).bind fun x s=>(match x with | .bl true=>ev false a s | .bl false=>ev false b s | _=>.bad)
 | .chain o p a b c,s=>(ev true a s).bind fun x s=>(ev true b s).bind fun y s=>(match opD o (look s.st x) (look s.st y) with
   | some (.bl true)=>(ev true c s).bind fun z s=>.of s (opD p (look s.st y) (look s.st z))
   | some (.bl false)=>.ok (.bl false) s
   | _=>.bad)
 | .ix a b,s=>(ev true a s).bind fun x s=>(ev true b s).bind fun y s=>.of s (ixD (look s.st x) y)
 | .sl a lo hi,s=>(ev true a s).bind fun x s=>(if bJ lo then .ok none s else (ev true lo s).bind toI).bind fun l s=>(if bJ hi then .ok none s else (ev true hi s).bind toI).bind fun h s=>.of s (slO (look s.st x) l h)
 | .sl3 a lo st,s=>(ev true a s).bind fun x s=>(if bJ lo then .ok none s else (ev true lo s).bind toI).bind fun l s=>(if bJ st then .ok none s else (ev true st s).bind toI).bind fun z s=>.of s (oO (look s.st x) l z)
 | .tget j e d,s=>(ev true e s).bind fun x s=>(ev false d s).bind fun z s=>(match Γ.tb[j]?,x with | some t,.str k=>.ok (((Ò k t).map toD).getD z) s | _,_=>.bad)
 | .newd j es,s=>(evs false es s).bind fun l s=>.of s ((Γ.cl[j]?).bind fun k=>if k.what=1∧l.length=k.at_.length then some (D.ins j l) else none)
 | .fld a f,s=>(ev true a s).bind fun x s=>.of s (kU Γ s.st x f)
 | .tup es,s=>(evs false es s).bind fun l s=>if l.length≤100000 then .ok (.tup l) s else .bad
 | .lst es,s=>(evs false es s).bind fun l s=>if l.length≤100000 then .ok (.lst l) s else .bad
 | .newl es,s=>(evs false es s).bind fun l s=>if l.length≤100000 then .ok (.ref s.st.length) ⟨s.env,s.ow,s.st ++ [.lst l]⟩ else .bad
 | .keep kp a,s=>(noX (ev false a (hid (kp.filter s.ow.contains) s))).bind fun d s'=>.ok d ⟨s.env,s'.ow ++ kp.filter s.ow.contains,s'.st⟩
 | .sto a,s=>(ev false a s).bind Dd
 | .fcall own j es,s=>(evs false es s).bind fun l s=>xh cal own j l s
 | .call j es,s=>(evs true es s).bind fun l s=>gW cal es j l s
 | .hcall j es,s=>(evs false es s).bind fun l s=>tM cal j l s
 | .mth c j a es,s=>(ev true a s).bind fun x s=>(match x with
   | .ref p=>(match s.st[p]? with
     | some (.ins c' _)=>if c'=c then (evs true es s).bind fun l s=>gW cal es j (x :: l) s else .bad
     | _=>.bad)
   | _=>.bad)
 | .bi b es,s=>(evs true es s).bind fun l s=>.of s (biD b (l.map (look s.st)))
 | .tab j e,s=>(ev true e s).bind fun x s=>(match Γ.tb[j]?,x with | some t,.str k=>.of s ((Ò k t).map toD) | _,_=>.bad)
 | .tabin j e,s=>(ev true e s).bind fun x s=>(match Γ.tb[j]?,x with | some t,.str k=>.ok (.bl (Ò k t).isSome) s | _,_=>.bad)
 | .lc t one it elt cond,s=>(ev false it s).bind fun x s=>(match x with
   | .lst ds=>(b6 (fun d s'=>(match aP t one d s'.env with
     | some env=>(noX (ev true cond ⟨env,[],s'.st⟩)).bind fun b s2=>(match b with
       | .bl true=>(noX (ev false elt s2)).bind fun e s3=>.ok (some e) ⟨s3.env,[],s3.st⟩
       | .bl false=>.ok none ⟨s2.env,[],s2.st⟩
       | _=>.bad)
     | none=>.bad)) ds [] ⟨Ζ t.length none ++ s.env,[],s.st⟩).bind fun d s'=>.ok d ⟨s.env,[],s'.st⟩
   | _=>.bad)
 | .tand a b,s=>(ev true a s).bind fun x s=>(match x with | .bl true=>ev true b s | .bl false=>.ok (.bl false) s | _=>.bad)
 | .tor a b,s=>(ev true a s).bind fun x s=>(match x with | .bl true=>.ok (.bl true) s | .bl false=>ev true b s | _=>.bad)
 | .tnot a,s=>(ev true a s).bind fun x s=>(match x with | .bl b=>.ok (.bl (!b)) s | _=>.bad)
 | .tv a,s=>(ev true a s).bind fun x s=>.of s ((vy (look s.st x)).map .bl)
 | .it b es,s=>(evs false es s).bind fun l s=>.of s ((itD b l).map .lst)
 | .itv a,s=>(ev false a s).bind fun x s=>.of s ((sE x).map .lst)
 | .dic es,s=>(evs false es s).bind fun l s=>.of s ((pF l).map fun p=>.dic p.1 p.2)
 | .get a b c,s=>(ev true a s).bind fun x s=>if isDic (look s.st x)=true then (ev true b s).bind fun y s=>(ev false c s).bind fun z s=>(match look s.st x,bx y with
   | .dic ks ds,some k=>.ok ((b8 ks ds k).getD z) s
   | _,_=>.bad) else .bad
 | .index a b,s=>(ev true a s).bind fun x s=>if tS x=true then (ev true b s).bind fun y s=>.of s (xx x y) else .bad
 | .join x a,s=>(ev true a s).bind fun y s=>.of s (wa x (look s.st y))
 | .fmt x a y,s=>(ev true a s).bind fun v s=>.of s (xj x v y)
 | .dicc ks es,s=>(evs false es s).bind fun l s=>.of s (l8 ks l)
 | .isX a js,s=>(ev true a s).bind fun x s=>.of s (AY Γ x js)
 | .new j es,s=>(evs true es s).bind fun l s=>(match Γ.cl[j]? with
   | some k=>if k.what=1 then (if l.length=k.at_.length then .ok (.ins j l) (drp es s s.st) else .bad)
     else if k.what=0 then (match cal1 k.init (.ref s.st.length :: l) (s.st ++ [.ins j []]) with
      | .ok .non st=>.ok (.ref s.st.length) (aft es s .non st)
      | _=>.bad)
     else .bad
   | none=>.bad)
 | _,_=>.bad
noncomputable def evs (br:Bool):E→Sta→Out (List D)
 | .nil,s=>.ok [] s
 | .cons a r,s=>(ev br a s).bind fun x s=>(evs br r s).bind fun l s=>.ok (x :: l) s
 | _,_=>.bad
end
end
end L2.Ev
namespace L2.Ev
def bp:E→Bool
 | .lst _=>true | .lc ..=>true | .bi .list _=>true | .bi .rev _=>true | .bi .dict _=>true | .dic _=>true | .keep _ a=>bp a | .fcall own _ _=>own | _=>false
def xC:D→Bool
 | .lst _=>true | .dic _ _=>true | _=>false
def lP (s:Sta) (i:Nat) (d:D) (f:Bool):Sta:=⟨s.env.set i (some d),if f && xC d then i :: s.ow.filter (· != i) else s.ow.filter (· != i),s.st⟩
def rW (l:List D) (i:Int) (d:D):Option (List D):=(ixN l.length i).map fun j=>l.set j d
def eg (o:O) (k d:D):Option O:=match o with
 | .lst l=>(match k with | .int i=>(rW l i d).map .lst | _=>none)
 | .dic ks ds=>(bx k).bind fun k=>if ks.length<100000 then some (.dic (bW ks ds k d).1 (bW ks ds k d).2) else none
 | _=>none
def jq (o:D) (k d:D):Option D:=match o with
 | .lst l=>(match k with | .int i=>(rW l i d).map .lst | _=>none)
 | .dic ks ds=>(bx k).bind fun k=>if ks.length<100000 then some (.dic (bW ks ds k d).1 (bW ks ds k d).2) else none
 | _=>none
def eu (Γ:Gm) (o:O) (f:Nat) (d:D):Option O:=match o with
 | .ins c l=>(Γ.cl[c]?).bind fun k=>if k.at_.length<1000 then (if k.at_.idxOf f<l.length then some (.ins c (l.set (k.at_.idxOf f) d)) else if k.at_.idxOf f=l.length∧k.at_.idxOf f<k.at_.length then some (.ins c (l ++ [d])) else none) else none
 | _=>none
def rX:Option D→Bool
 | some (.int n)=>decide (0≤n) && decide (n<100000)
 | _=>false
def B5:D→Bool
 | .str x=>decide ((reprText x).length≤10000)
 | .int n=>decide (0≤n) && decide (n<100000)
 | _=>false
def iJ (Γ:Gm) (j:Nat) (l:List D):Bool:=match Γ.cl[j]? with
 | some k=>if k.at_.isEmpty then l.all B5 else l.length == k.at_.length && k.chk.all (fun i=>rX l[i]?) && decide (l.length≤1000) && !l.isEmpty
 | none=>false
def nY (Γ:Gm) (j:Nat) (l:List D):List D:=match Γ.cl[j]? with
 | some k=>if k.at_.isEmpty then [] else l
 | none=>l
def bo (f:D→Sta→av):List D→Sta→av
 | [],s=>.nx s
 | d :: r,s=>(f d s).go fun s=>bo f r s
def wH (c:Sta→Out D) (f:Sta→av):Nat→Sta→av
 | 0,_=>.bad
 | m+1,s=>(c s).go fun x s=>match x with | .bl true=>(f s).go fun s=>wH c f m s | .bl false=>.nx s | _=>.bad
def k7 (st:List O):D→Bool
 | .ref n=>(match st[n]? with | some (.lst _)=>true | _=>false)
 | _=>false
def apO (x d:D) (s:Sta):av:=match x with
 | .ref n=>(match s.st[n]? with | some (.lst l)=>if l.length<100000 then .nx ⟨s.env,s.ow,s.st.set n (.lst (l ++ [d]))⟩ else .bad | _=>.bad)
 | _=>.bad
def cP (Γ:Gm) (j c:Nat):Option Bool:=(Γ.cl[c]?).map fun k=>c == j || k.sup.contains j
section
variable (Γ:Gm) (cal cal1:Nat→List D→List O→Res)
def exS:S→Sta→av
 | .skip,s=>.nx s
 | .seq a b,s=>(exS a s).go fun s=>exS b s
 | .set i e,s=>(ev Γ cal cal1 false e s).go fun d s=>.nx (lP s i d (bp e))
 | .setT l e,s=>(ev Γ cal cal1 false e s).go fun d s=>(match aP l false d s.env with | some env=>.nx ⟨env,s.ow.filter fun i=>!l.contains i,s.st⟩ | none=>.bad)
 | .setR i es,s=>(evs Γ cal cal1 false es s).go fun l s=>if l.length≤100000 then .nx ⟨s.env.set i (some (.ref s.st.length)),s.ow.filter (· != i),s.st ++ [.lst l]⟩ else .bad
 | .ret e,s=>(ev Γ cal cal1 false e s).go fun d s=>.rt d s
 | .ifs c a b,s=>(ev Γ cal cal1 true c s).go fun x s=>(match x with | .bl true=>exS a s | .bl false=>exS b s | _=>.bad)
 | .drop e,s=>(ev Γ cal cal1 false e s).go fun _ s=>.nx s
 | .app i e,s=>if s.ow.contains i && isLst s.env[i]? then (ev Γ cal cal1 false e s).go fun d s=>if s.ow.contains i then (match s.env[i]? with
  | some (some (.lst l))=>if l.length<100000 then .nx ⟨s.env.set i (some (.lst (l ++ [d]))),s.ow,s.st⟩ else .bad
  | _=>.bad) else .bad else .bad
 | .ext i e,s=>if s.ow.contains i && isLst s.env[i]? then (ev Γ cal cal1 false e s).go fun d s=>if s.ow.contains i then (match s.env[i]?,d with
  | some (some (.lst l)),.lst x=>if l.length+x.length≤100000 then .nx ⟨s.env.set i (some (.lst (l ++ x))),s.ow,s.st⟩ else .bad
  | _,_=>.bad) else .bad else .bad
 | .put (.v i) b e,s=>(ev Γ cal cal1 false e s).go fun d s=>(match s.env[i]? with
  | some (some x)=>(ev Γ cal cal1 true b s).go fun k s=>(match x with
    | .ref n=>(match (s.st[n]?).bind fun o=>eg o k d with | some o=>.nx ⟨s.env,s.ow,s.st.set n o⟩ | none=>.bad)
    | x=>if s.ow.contains i then (match jq x k d with | some y=>.nx ⟨s.env.set i (some y),s.ow,s.st⟩ | none=>.bad) else .bad)
  | _=>.bad)
 | .put a b e,s=>(ev Γ cal cal1 false e s).go fun d s=>(ev Γ cal cal1 true a s).go fun x s=>(ev Γ cal cal1 true b s).go fun k s=>(match x with
  | .ref n=>(match (s.st[n]?).bind fun o=>eg o k d with | some o=>.nx ⟨s.env,s.ow,s.st.set n o⟩ | none=>.bad)
  | _=>.bad)
 | .fld a f e,s=>(match e with
  | .lst .nil=>(ev Γ cal cal1 true a s).go fun x s=>(match x with
    | .ref n=>(match (s.st[n]?).bind fun o=>eu Γ o f (.ref s.st.length) with | some o=>.nx ⟨s.env,s.ow,(s.st ++ [O.lst []]).set n o⟩ | none=>.bad)
    | _=>.bad)
  | .dic .nil=>(ev Γ cal cal1 true a s).go fun x s=>(match x with
    | .ref n=>(match (s.st[n]?).bind fun o=>eu Γ o f (.ref s.st.length) with | some o=>.nx ⟨s.env,s.ow,(s.st ++ [O.dic [] []]).set n o⟩ | none=>.bad)
    | _=>.bad)
  | e=>(ev Γ cal cal1 false e s).go fun d s=>(ev Γ cal cal1 true a s).go fun x s=>(match x with
    | .ref n=>(match (s.st[n]?).bind fun o=>eu Γ o f d with | some o=>.nx ⟨s.env,s.ow,s.st.set n o⟩ | none=>.bad)
    | _=>.bad))
 | .aug a f o e,s=>(ev Γ cal cal1 true a s).go fun x s=>(match x with
  | .ref n=>(match kU Γ s.st x f with
    | some (.int i)=>(ev Γ cal cal1 false e s).go fun d s=>(match d with
      | .int j=>(match opI o i j,s.st[n]? with
        | some y,some ob=>(match eu Γ ob f y with | some ob=>.nx ⟨s.env,s.ow,s.st.set n ob⟩ | none=>.bad)
        | _,_=>.bad)
      | _=>.bad)
    | _=>.bad)
  | _=>.bad)
 | .fapp a f e,s=>(ev Γ cal cal1 true a s).go fun x s=>if k7 s.st x=true then (ev Γ cal cal1 false e s).go fun d s=>apO x d s else .bad
 | .for_ t one it b,s=>(ev Γ cal cal1 false it s).go fun x s=>(match x with
  | .lst ds=>bo (fun d s=>match aP t one d s.env with | some env=>exS b ⟨env,s.ow.filter fun i=>!t.contains i,s.st⟩ | none=>.bad) ds s
  | _=>.bad)
 | .whl c b,s=>wH (ev Γ cal cal1 true c) (exS b) 100000 s
 | .rais j es,s=>(evs Γ cal cal1 false es s).go fun l s=>if iJ Γ j l then .exc j (nY Γ j l) s else .bad
 | .try_ a hs,s=>(match exS a s with
  | .exc c l s'=>hnd hs c l s'
  | r=>r)
 | _,_=>.bad
where hnd:S→Nat→List D→Sta→av
 | .hand j (some i) b r,c,l,s=>(match cP Γ j c with
  | some true=>(match exS b ⟨s.env.set i (some (.ins c l)),s.ow.filter (· != i),s.st⟩ with
    | .nx s=>.nx ⟨s.env.set i none,s.ow.filter (· != i),s.st⟩
    | .rt d s=>.rt d s
    | _=>.bad)
  | some false=>hnd r c l s
  | none=>.bad)
 | .hand j none b r,c,l,s=>(match cP Γ j c with
  | some true=>(match exS b s with | .nx s=>.nx s | .rt d s=>.rt d s | _=>.bad)
  | some false=>hnd r c l s
  | none=>.bad)
 | .skip,c,l,s=>.exc c l s
 | _,_,_,_=>.bad
end
def kh (Γ:Gm) (cal cal1:Nat→List D→List O→Res) (j:Nat) (ds:List D) (st:List O):Res:=match Γ.fn[j]? with
 | some f=>if (ds ++ f.df).length=f.np then (match exS Γ cal cal1 f.body ⟨(ds ++ f.df).map some ++ Ζ (f.ns - f.np) none,[],st⟩ with
   | .nx s=>.ok .non s.st
   | .rt d s=>.ok d s.st
   | .exc c l s=>.exc c l s.st
   | .bad=>.bad) else .bad
 | none=>.bad
def pC (Γ:Gm):Nat→(Nat→List D→List O→Res)×(Nat→List D→List O→Res)
 | 0=>(fun _ _ _=>.bad,fun _ _ _=>.bad)
 | n+1=>(kh Γ (pC Γ n).1 (pC Γ n).2,(pC Γ n).1)
def ac (Γ:Gm) (n:Nat):Nat→List D→List O→Res:=(pC Γ n).1
def bP (Γ:Gm) (n:Nat):Nat→List D→List O→Res:=(pC Γ n).2
structure CI where
 ad:Β
 nm:List ν
structure Wd where
 P:ϴ
 w:Û
 ci:List CI
 what:List Nat
abbrev Hp:=Β→Option Er
abbrev Rs:=List (Β×Β)
def TpO (o:Er) (l:List ζ):Prop:=o.cls = .type "tuple"∧(∃ n,o.data = .seq l.toArray n)∧l.length≤Ϛ∧o.dict=none
def LsO (o:Er) (l:List ζ):Prop:=(∃ n,o={ cls:=.type "list",data:=.seq l.toArray n })∧l.length≤Ϛ
def DcO (W:Wd) (o:Er) (l:List (Key×ζ)):Prop:=∃ es ep,o.ExactDict∧o.data = .dict es ep∧KeysOf (aR W.P W.w) es∧Pairs (aR W.P W.w) es.toList l∧(l.map (·.1)).Nodup∧l.length≤Ϛ
def NsO (o:Er) (l:List (ν×ζ)):Prop:=∃ es ep,o.data = .dict es ep∧StrKeys es∧UniqKeys es∧∀ n,nsFind es n=l.lookup n
def InO (h:Hp) (a dx C:Β) (l:List (ν×ζ)):Prop:=h a=some (Ϟ C dx)∧dx≠a∧l.length≤1000∧∃ o,h dx=some o∧NsO o l
def ExO (h:Hp) (a C:Β) (l:List (ν×ζ)):Prop:=∃ o vs,h a=some o∧o.cls = .ref C∧o.data = .fields vs∧((l = []∧o.dict=none)∨∃ d od,o.dict=some d∧h d=some od∧NsO od l)
inductive Ra (G:Hp) (T:Er→List ζ→Prop) (Q:List ζ→Prop) (v:ζ):Prop
 | mk (a:Β) (o:Er) (vs:List ζ) (_:v = .ref a) (_:G a=some o) (_:T o vs) (_:Q vs)
inductive Rb (W:Wd) (G:Hp) (ks:List Key) (n:Nat) (Q:List ζ→Prop) (v:ζ):Prop
 | mk (a:Β) (o:Er) (vs:List ζ) (_:v = .ref a) (_:(a == Gy)=false) (_:G a=some o) (_:DcO W o (ks.zip vs)) (_:ks.length=n) (_:Q vs)
inductive Ri (W:Wd) (G:Hp) (c n:Nat) (Q:List ζ→Prop) (v:ζ):Prop
 | mk (a:Β) (i:CI) (vs:List ζ) (_:v = .ref a) (_:W.ci[c]? = some i) (_:n≤i.nm.length) (_:(W.what[c]? = some 1∧∃ dx,InO G a dx i.ad (i.nm.zip vs))∨(W.what[c]? = some 2∧ExO G a i.ad (i.nm.zip vs))) (_:Q vs)
inductive Rc (P:ζ→Prop) (Q:List ζ→Prop) (vs:List ζ):Prop
 | mk (v:ζ) (r:List ζ) (_:vs=v :: r) (_:P v) (_:Q r)
mutual
noncomputable def RD (W:Wd) (ρ:Rs) (G:Hp):D→ζ→Prop
 | .non,v=>v = .none
 | .bl b,v=>v = .bool b
 | .int i,v=>∃ t,v = .int i t
 | .str x,v=>∃ t,v = .str x t
 | .tup ds,v=>Ra G TpO (RDs W ρ G ds) v
 | .lst ds,v=>Ra G LsO (RDs W ρ G ds) v
 | .dic ks ds,v=>Rb W G ks ds.length (RDs W ρ G ds) v
 | .ins c ds,v=>Ri W G c ds.length (RDs W ρ G ds) v
 | .ref n,v=>∃ p,ρ[n]? = some p∧v = .ref p.1
noncomputable def RDs (W:Wd) (ρ:Rs) (G:Hp):List D→List ζ→Prop
 | [],vs=>vs = []
 | d :: ds,vs=>Rc (RD W ρ G d) (RDs W ρ G ds) vs
end
def Sub (G H:Hp):Prop:=∀ a o,G a=some o→H a=some o
theorem Sub.refl (G):Sub G G:=fun _ _ e=>e
theorem Sub.trans (h:Sub G H) (i:Sub H I):Sub G I:=fun a o e=>i a o (h a o e)
section
variable {W:Wd} {ρ ρ':Rs} {G G' H H':Hp}
theorem fH (h:ρ <+: ρ') {n:Nat} (e:ρ[n]? = some a):ρ'[n]? = some a:=by
 obtain ⟨t,rfl⟩:=h
 rw [Χ (ς.mp e).1];exact e
theorem InO.sub (h:Sub G G'):InO G a dx C l→InO G' a dx C l:=fun ⟨x,n,z,o,e,r⟩=>⟨h _ _ x,n,z,o,h _ _ e,r⟩
theorem ExO.sub (h:Sub G G'):ExO G a C l→ExO G' a C l:=fun ⟨o,vs,e,c,d,r⟩=>⟨o,vs,h _ _ e,c,d,r.elim .inl fun ⟨d,od,q,e,r⟩=>.inr ⟨d,od,q,h _ _ e,r⟩⟩
mutual
theorem RD.mono (hp:ρ <+: ρ') (h:Sub G G'):∀ {d:D} {v},RD W ρ G d v→RD W ρ' G' d v
 | .non,_,e=>e
 | .bl _,_,e=>e
 | .int _,_,e=>e
 | .str _,_,e=>e
 | .tup _,_,⟨a,o,vs,e,t,q,r⟩=>⟨a,o,vs,e,h _ _ t,q,RDs.mono hp h r⟩
 | .lst _,_,⟨a,o,vs,e,t,q,r⟩=>⟨a,o,vs,e,h _ _ t,q,RDs.mono hp h r⟩
 | .dic _ _,_,⟨a,o,vs,e,m,t,q,l,r⟩=>⟨a,o,vs,e,m,h _ _ t,q,l,RDs.mono hp h r⟩
 | .ins _ _,_,⟨a,i,vs,e,hc,l,t,r⟩=>⟨a,i,vs,e,hc,l,t.elim (fun ⟨w,dx,q⟩=>.inl ⟨w,dx,q.sub h⟩) (fun ⟨w,q⟩=>.inr ⟨w,q.sub h⟩),RDs.mono hp h r⟩
 | .ref _,_,⟨a,e,q⟩=>⟨a,fH hp e,q⟩
theorem RDs.mono (hp:ρ <+: ρ') (h:Sub G G'):∀ {ds} {vs},RDs W ρ G ds vs→RDs W ρ' G' ds vs
 | [],_,e=>e
 | _ :: _,_,⟨v,r,e,t,q⟩=>⟨v,r,e,RD.mono hp h t,RDs.mono hp h q⟩
end
theorem RDs.cons (h:RD W ρ G d v) (t:RDs W ρ G ds vs):RDs W ρ G (d :: ds) (v :: vs):=⟨v,vs,rfl,h,t⟩
theorem jr:∀ {ds vs},RDs W ρ G ds vs↔Paired (RD W ρ G) ds vs
 | [],vs=>⟨fun h=>by cases (show vs = [] from h);exact .nil,fun h=>by cases h;exact rfl⟩
 | d :: ds,vs=>⟨fun ⟨v,r,e,h,t⟩=>e ▸ .cons h (jr.mp t),fun h=>by cases h with | cons h t=>exact .cons h (jr.mpr t)⟩
theorem RDs.len (h:RDs W ρ G ds vs):ds.length=vs.length:=(jr.mp h).length
theorem RDs.get:∀ {ds} {vs} {i:Nat} {d:D},RDs W ρ G ds vs→ds[i]? = some d→∃ v,vs[i]? = some v∧RD W ρ G d v
 | [],_,_,_,_,e=>by simp at e
 | d :: ds,vs,0,d',⟨v,r,e,h,_⟩,e'=>by subst e;simp at e';subst e';exact ⟨v,rfl,h⟩
 | d :: ds,vs,i+1,d',⟨v,r,e,_,t⟩,e'=>by
   subst e
   obtain ⟨u,h1,h2⟩:=RDs.get (i:=i) t (by simpa using e')
   exact ⟨u,by simpa using h1,h2⟩
theorem RDs.app:∀ {ds es} {vs us},RDs W ρ G ds vs→RDs W ρ G es us→RDs W ρ G (ds ++ es) (vs ++ us)
 | [],_,vs,_,h,t=>by cases (show vs = [] from h);exact t
 | d :: ds,es,vs,us,⟨v,r,e,h,t'⟩,t=>by subst e;exact .cons h (RDs.app t' t)
theorem RDs.drop:∀ {ds} {vs} (n),RDs W ρ G ds vs→RDs W ρ G (ds.drop n) (vs.drop n)
 | _,_,0,h=>h
 | [],vs,n+1,h=>by cases (show vs = [] from h);exact rfl
 | d :: ds,vs,n+1,⟨v,r,e,h,t⟩=>by subst e;exact RDs.drop n t
theorem RDs.take:∀ {ds} {vs} (n),RDs W ρ G ds vs→RDs W ρ G (ds.take n) (vs.take n)
 | _,_,0,_=>rfl
 | [],vs,n+1,h=>by cases (show vs = [] from h);exact rfl
 | d :: ds,vs,n+1,⟨v,r,e,h,t⟩=>by subst e;exact .cons h (RDs.take n t)
theorem RDs.set:∀ {ds} {vs} (n) {d} {v},RDs W ρ G ds vs→RD W ρ G d v→RDs W ρ G (ds.set n d) (vs.set n v)
 | [],vs,_,_,_,h,_=>by cases (show vs = [] from h);exact rfl
 | d :: ds,vs,0,_,_,⟨v,r,e,h,t⟩,q=>by subst e;exact .cons q t
 | d :: ds,vs,n+1,_,_,⟨v,r,e,h,t⟩,q=>by subst e;exact .cons h (RDs.set n t q)
theorem RDs.rev:∀ {ds} {vs},RDs W ρ G ds vs→RDs W ρ G ds.reverse vs.reverse
 | [],vs,h=>by cases (show vs = [] from h);exact rfl
 | d :: ds,vs,⟨v,r,e,h,t⟩=>by subst e;rw [FD,FD];exact (RDs.rev t).app (.cons h rfl)
end
inductive Oa (h:Hp) (p:Β×Β) (Q:List ζ→Prop):Prop
 | mk (o:Er) (vs:List ζ) (_:p.2=p.1) (_:h p.1=some o) (_:LsO o vs) (_:Q vs)
inductive Ob (W:Wd) (h:Hp) (p:Β×Β) (ks:List Key) (n:Nat) (Q:List ζ→Prop):Prop
 | mk (o:Er) (vs:List ζ) (_:p.2=p.1) (_:(p.1 == Gy)=false) (_:h p.1=some o) (_:DcO W o (ks.zip vs)) (_:ks.length=n) (_:Q vs)
inductive Oi (W:Wd) (h:Hp) (p:Β×Β) (c n:Nat) (Q:List ζ→Prop):Prop
 | mk (i:CI) (vs:List ζ) (_:W.ci[c]? = some i) (_:W.what[c]? = some 0) (_:n≤i.nm.length) (_:InO h p.1 p.2 i.ad (i.nm.zip vs)) (_:Q vs)
def ObR (W:Wd) (ρ:Rs) (G h:Hp) (p:Β×Β):O→Prop
 | .lst ds=>Oa h p (RDs W ρ G ds)
 | .dic ks ds=>Ob W h p ks ds.length (RDs W ρ G ds)
 | .ins c ds=>Oi W h p c ds.length (RDs W ρ G ds)
theorem ObR.mono (hp:ρ <+: ρ') (g:Sub G G') (k:∀ a,a=p.1∨a=p.2→∀ o,h a=some o→h' a=some o):∀ {o},ObR W ρ G h p o→ObR W ρ' G' h' p o
 | .lst _,⟨o,vs,z,e,q,r⟩=>⟨o,vs,z,k _ (.inl rfl) _ e,q,r.mono hp g⟩
 | .dic _ _,⟨o,vs,z,m,e,q,l,r⟩=>⟨o,vs,z,m,k _ (.inl rfl) _ e,q,l,r.mono hp g⟩
 | .ins _ _,⟨i,vs,c,w,l,⟨e,n,z,o,e2,q⟩,r⟩=>⟨i,vs,c,w,l,⟨k _ (.inl rfl) _ e,n,z,o,k _ (.inr rfl) _ e2,q⟩,r.mono hp g⟩
theorem ObR.th:∀ {o},ObR W ρ G h p o→(∃ o,h p.1=some o)∧∃ o,h p.2=some o
 | .lst _,⟨o,vs,z,e,_,_⟩=>⟨⟨o,e⟩,z ▸ ⟨o,e⟩⟩
 | .dic _ _,⟨o,vs,z,m,e,_,_,_⟩=>⟨⟨o,e⟩,z ▸ ⟨o,e⟩⟩
 | .ins _ _,⟨i,vs,c,w,l,⟨e,n,z,o,e2,q⟩,r⟩=>⟨⟨_,e⟩,⟨_,e2⟩⟩
def toO:D→Option O
 | .lst l=>some (.lst l)
 | .dic k l=>some (.dic k l)
 | _=>none
structure Cx where
 W:Wd
 K:χ
 mg:ν→Option ζ
 base:ϳ
 os:FA
 Γ:Gm
 cal:Nat→List D→List O→Res
 cal1:Nat→List D→List O→Res
 A:ώ
 fr:List Dz
 N:List ν
 env:Dz
 calm:Bool
abbrev Cx.ev (X:Cx) (br:Bool) (e:E):Sta→Out D:=Ev.ev X.Γ X.cal X.cal1 br e
abbrev Cx.evs (X:Cx) (br:Bool) (e:E):Sta→Out (List D):=Ev.evs X.Γ X.cal X.cal1 br e
abbrev Cx.ex (X:Cx) (c:S):Sta→av:=Ev.exS X.Γ X.cal X.cal1 c
abbrev Cx.M (X:Cx):EN:=model X.W.P X.W.w
structure Z where
 ρ:Rs
 G:Hp
 t:Sta
 σ:List (Option ζ)
 s:ξ
abbrev Z.h (z:Z):Hp:=z.s.heap.get?
def Mu (ρ:Rs) (a:Β):Prop:=∃ p∈ρ,a=p.1∨a=p.2
def Own (z:Z) (a:Β):Prop:=∃ i∈z.t.ow,z.σ[i]? = some (some (.ref a))
def Lc (X:Cx) (a:Β):Prop:=a=X.env.locals∨∃ x,X.env.cells.lookup x=some a
structure HR (X:Cx) (z:Z):Prop where
 md:Mod X.K X.mg X.base
 fm:X.A.frames=some X.fr
 hd:X.calm=true→X.A.handled=none
 bs:∀ b o,X.base.get? b=some o→z.G b=some o
 gh:Sub z.G z.h
 rl:z.ρ.length=z.t.st.length
 rn:∀ (i j:Nat) (p q:Β×Β) (a:Β),z.ρ[i]? = some p→z.ρ[j]? = some q→(a=p.1∨a=p.2)→(a=q.1∨a=q.2)→i=j
 rg:∀ a,Mu z.ρ a→z.G a=none
 ob:∀ (n:Nat) (o:O) (p:Β×Β),z.t.st[n]? = some o→z.ρ[n]? = some p→ObR X.W z.ρ z.G z.h p o
 fu:z.s.heap.FunFrames X.base X.fr
 ff:∀ b∈frs X.fr,z.G b=none∧¬ Mu z.ρ b
 br:Ŗ z.s.gens
 os:z.s.os=X.os
structure COk (X:Cx):Prop where
 un:X.A.units+200<ţ
 kd:X.env.scope.kind = .function
 gl:X.env.globals=ϑ
 bl:X.env.builtins=builtinsNs
 ci:∀ x y c,X.env.cells.lookup x=some c→X.env.cells.lookup y=some c→x=y
 ch:∀ x,(X.env.kindOf x=some .cell∨X.env.kindOf x=some .free)→∃ c,X.env.cells.lookup x=some c
def Fre (X:Cx) (z:Z) (a:Β):Prop:=z.G a=none∧¬ Mu z.ρ a∧a ∉ frs X.fr∧¬ Lc X a
structure Rep (X:Cx) (z:Z):Prop extends HR X z where
 ok:COk X
 lo:∃ m,z.s.heap.Ns X.env.locals m∧∀ (i:Nat) (x:ν) (u:ζ),X.N[i]? = some x→z.σ[i]? = some (some u)→Vis X.env.scope x→kL X.env z.s.heap m x u
 ce:∀ x c,X.env.cells.lookup x=some c→∃ v,z.s.heap.IsCell c v
 fl:∀ a,Lc X a→z.G a=none∧¬ Mu z.ρ a
 el:z.t.env.length=z.σ.length
 sl:z.σ.length=X.N.length
 en:∀ (i:Nat) (d:D),i ∉ z.t.ow→z.t.env[i]? = some (some d)→∃ u,z.σ[i]? = some (some u)∧RD X.W z.ρ z.G d u
 eo:∀ (i:Nat),i∈z.t.ow→∃ d a o,z.t.env[i]? = some (some d)∧z.σ[i]? = some (some (.ref a))∧toO d=some o∧ObR X.W z.ρ z.G z.h (a,a) o∧Fre X z a
 od:∀ (i j:Nat) (a:Β),i∈z.t.ow→j∈z.t.ow→z.σ[i]? = some (some (.ref a))→z.σ[j]? = some (some (.ref a))→i=j
structure Stp (fr:List Dz) (w:Β→Prop) (z z':Z):Prop where
 pr:z.ρ <+: z'.ρ
 gg:Sub z.G z'.G
 gn:∀ a o,z'.G a=some o→z.G a=some o∨z.h a=none∨w a
 rn:∀ a,Mu z'.ρ a→Mu z.ρ a∨z.h a=none
 th:∀ a o,z.h a=some o→∃ o',z'.h a=some o'
 sm:∀ a o,z.h a=some o→¬ Mu z.ρ a→¬ w a→a ∉ frs fr→z'.h a=some o
 sl:∀ a o,z.h a=some o→¬ Mu z.ρ a→¬ w a→a∈frs fr→∃ sl,z'.h a=some { o with slots:=sl }
theorem Stp.no (x:Stp fr w z z') (e:z'.h a=none):z.h a=none:=by
 cases q:z.h a with
 | none=>rfl
 | some o=>obtain ⟨o',e'⟩:=x.th a o q;rw [e] at e';cases e'
theorem Stp.refl:Stp fr w z z:=⟨μ _,.refl _,fun _ _ e=>.inl e,fun _ h=>.inl h,fun _ o e=>⟨o,e⟩,fun _ _ e _ _ _=>e,fun _ o e _ _ _=>⟨o.slots,e⟩⟩
theorem Stp.trans (x:Stp fr w z z1) (y:Stp fr w1 z1 z2) (k:∀ a,w1 a→w a∨z.h a=none):Stp fr w z z2:=by
 have nm:∀ a o,z.h a=some o→¬ Mu z.ρ a→¬ Mu z1.ρ a:=fun a o e n m=>(x.rn a m).elim n fun q=>by rw [q] at e;cases e
 have nw:∀ a o,z.h a=some o→¬ w a→¬ w1 a:=fun a o e n m=>(k a m).elim n fun q=>by rw [q] at e;cases e
 refine ⟨x.pr.trans y.pr,x.gg.trans y.gg,fun a o e=>?_,fun a m=>?_,fun a o e=>?_,fun a o e n m f=>y.sm a o (x.sm a o e n m f) (nm a o e n) (nw a o e m) f,fun a o e n m f=>?_⟩
 ·rcases y.gn a o e with q | q | q
  ·exact x.gn a o q
  ·exact .inr (.inl (x.no q))
  ·exact .inr ((k a q).symm)
 ·rcases y.rn a m with q | q
  ·exact x.rn a q
  ·exact .inr (x.no q)
 ·obtain ⟨o1,e1⟩:=x.th a o e;exact y.th a o1 e1
 ·obtain ⟨sl,e1⟩:=x.sl a o e n m f
  obtain ⟨sl2,e2⟩:=y.sl a _ e1 (nm a o e n) (nw a o e m) f
  exact ⟨sl2,e2⟩
theorem Stp.mono (x:Stp fr w z z') (k:∀ a,w a→w' a):Stp fr w' z z':=⟨x.pr,x.gg,fun a o e=>(x.gn a o e).imp_right (·.imp_right (k a)),x.rn,x.th,fun a o e n m=>x.sm a o e n fun q=>m (k a q),fun a o e n m=>x.sl a o e n fun q=>m (k a q)⟩
structure Ee (X:Cx) (z z':Z):Prop where
 st:Stp X.fr (Own z) z z'
 sg:z'.σ=z.σ
 en:z'.t.env=z.t.env
 ow:∀ i∈z'.t.ow,i∈z.t.ow
theorem Ee.refl:Ee X z z:=⟨.refl,rfl,rfl,fun _ h=>h⟩
theorem Ee.own (x:Ee X z z'):Own z' a→Own z a:=fun ⟨i,m,e⟩=>⟨i,x.ow i m,x.sg ▸ e⟩
theorem Ee.trans (x:Ee X z z1) (y:Ee X z1 z2):Ee X z z2:=⟨x.st.trans y.st fun _ o=>.inl (x.own o),y.sg.trans x.sg,y.en.trans x.en,fun i m=>x.ow i (y.ow i m)⟩
def Pv (X:Cx) (z:Z) (a:Β):Prop:=Own z a∨Lc X a
structure Go (X:Cx) (z z':Z):Prop where
 st:Stp X.fr (Pv X z) z z'
 ow:∀ a,Own z' a→Own z a∨z.h a=none
theorem Go.refl:Go X z z:=⟨.refl,fun _ o=>.inl o⟩
theorem Go.trans (x:Go X z z1) (y:Go X z1 z2):Go X z z2:=by
 refine ⟨x.st.trans y.st fun a o=>o.elim (fun q=>(x.ow a q).imp_left .inl) fun q=>.inl (.inr q),fun a o=>?_⟩
 rcases y.ow a o with q | q
 ·exact x.ow a q
 ·exact .inr (x.st.no q)
theorem Ee.go (x:Ee X z z'):Go X z z':=⟨x.st.mono fun _=>.inl,fun _ o=>.inl (x.own o)⟩
def RB (W:Wd) (z:Z) (d:D) (u:ζ):Prop:=RD W z.ρ z.G d u∨∃ i∈z.t.ow,z.σ[i]? = some (some u)∧z.t.env[i]? = some (some d)
def RV (W:Wd) (br:Bool) (c:E) (z:Z) (d:D) (u:ζ):Prop:=RD W z.ρ z.G d u∨(br=true∧∃ i,c = .v i∧i∈z.t.ow∧z.σ[i]? = some (some u)∧z.t.env[i]? = some (some d))
theorem RV.of (h:RD W z.ρ z.G d u):RV W br c z d u:=.inl h
theorem RV.rd (h:RV W false c z d u):RD W z.ρ z.G d u:=h.elim id fun ⟨z,_⟩=>nomatch z
theorem RV.rb (h:RV W br c z d u):RB W z d u:=h.elim .inl fun ⟨_,i,_,m,e⟩=>.inr ⟨i,m,e⟩
theorem RD.st (h:RD W z.ρ z.G d u) (x:Stp fr w z z'):RD W z'.ρ z'.G d u:=h.mono x.pr x.gg
theorem RV.st (h:RV X.W br c z d u) (x:Ee X z z') (I:Rep X z'):RV X.W br c z' d u:=by
 rcases h with h | ⟨b,i,hc,m,e1,e2⟩
 ·exact .inl (h.st x.st)
 ·by_cases q:i∈z'.t.ow
  ·exact .inr ⟨b,i,hc,q,x.sg ▸ e1,x.en ▸ e2⟩
  ·obtain ⟨u',e3,r⟩:=I.en i d q (x.en ▸ e2)
   rw [x.sg,e1] at e3;cases e3
   exact .inl r
theorem RB.st (h:RB X.W z d u) (x:Ee X z z') (I:Rep X z'):RB X.W z' d u:=by
 rcases h with h | ⟨i,m,e1,e2⟩
 ·exact .inl (h.st x.st)
 ·by_cases q:i∈z'.t.ow
  ·exact .inr ⟨i,q,x.sg ▸ e1,x.en ▸ e2⟩
  ·obtain ⟨u',e3,r⟩:=I.en i d q (x.en ▸ e2)
   rw [x.sg,e1] at e3;cases e3
   exact .inl r
def CR (W:Wd) (z:Z):D→ζ→Prop
 | .lst ds,v=>Ra z.h LsO (RDs W z.ρ z.G ds) v
 | .dic ks ds,v=>Rb W z.h ks ds.length (RDs W z.ρ z.G ds) v
 | d,v=>RD W z.ρ z.G d v
theorem CR.of (I:HR X z):∀ {d},RD X.W z.ρ z.G d u→CR X.W z d u
 | .non,h=>h
 | .bl _,h=>h
 | .int _,h=>h
 | .str _,h=>h
 | .ref _,h=>h
 | .ins _ _,h=>h
 | .tup _,h=>h
 | .lst _,⟨a,o,vs,e,g,q,r⟩=>⟨a,o,vs,e,I.gh _ _ g,q,r⟩
 | .dic _ _,⟨a,o,vs,e,m,g,q,l,r⟩=>⟨a,o,vs,e,m,I.gh _ _ g,q,l,r⟩
theorem CR.ob {d:D} (e:toO d=some o) (h:ObR W z.ρ z.G z.h (a,b) o):CR W z d (.ref a):=by
 cases d <;> cases e
 ·obtain ⟨o,vs,_,e,l,r⟩:=h;exact ⟨a,o,vs,rfl,e,l,r⟩
 ·obtain ⟨o,vs,_,m,e,l,n,r⟩:=h;exact ⟨a,o,vs,rfl,m,e,l,n,r⟩
theorem RB.cr0 (I:Rep X z) (h:RB X.W z d u):CR X.W z d u:=by
 rcases h with h | ⟨i,m,e1,e2⟩
 ·exact .of I.toHR h
 ·obtain ⟨d',a,o,e3,e4,e5,r,_⟩:=I.eo i m
  rw [e1] at e4;cases e4
  rw [e2] at e3;cases e3
  exact .ob e5 r
theorem RB.cr (I:Rep X z) (h:RB X.W z d u):CR X.W z (look z.t.st d) u:=by
 have c:=h.cr0 I
 cases d with
 | ref n=>
   obtain ⟨p,e,rfl⟩:=(show RD X.W z.ρ z.G (.ref n) u from c)
   show CR X.W z (match z.t.st[n]? with | some (.lst l)=>.lst l | some (.dic k l)=>.dic k l | _=>.ref n) _
   cases q:z.t.st[n]? with
   | none=>exact c
   | some o=>
     have r:=I.ob n o p q e
     cases o with
     | lst l=>exact .ob (d:=.lst l) rfl r
     | dic k l=>exact .ob (d:=.dic k l) rfl r
     | ins _ _=>exact c
 | _=>exact c
structure Gr (s s':ξ):Prop where
 os:s'.os=s.os
 gs:s'.gens=s.gens
 k:∀ b o,s.heap.get? b=some o→s'.heap.get? b=some o
theorem Gr.refl:Gr s s:=⟨rfl,rfl,fun _ _ e=>e⟩
theorem Gr.tok {s:ξ} {t:Nat}:Gr s { s with toks:=t }:=⟨rfl,rfl,fun _ _ e=>e⟩
theorem Gr.hp {s:ξ} {h:ϳ} {t:Nat} (k:∀ b o,s.heap.get? b=some o→h.get? b=some o):Gr s { s with heap:=h,toks:=t }:=⟨rfl,rfl,k⟩
theorem Gr.push {s:ξ} {o:Er} {t:Nat}:Gr s { s with heap:=s.heap.push o,toks:=t }:=.hp fun _ _ e=>ο _ e
structure Grw (z:Z) (G':Hp) (s':ξ):Prop where
 gr:Gr z.s s'
 gg:Sub z.G G'
 gh:Sub G' s'.heap.get?
 gn:∀ a o,G' a=some o→z.G a=some o∨z.h a=none
theorem nfu {h h':ϳ} (x:h.FunFrames base l) (k:∀ b o,h.get? b=some o→h'.get? b=some o):h'.FunFrames base l:=x.of_keeps fun b o e _=>⟨o,k b o e,rfl⟩
theorem HR.th (I:HR X z) (m:Mu z.ρ a):∃ o,z.h a=some o:=by
 obtain ⟨p,hp,e⟩:=m
 obtain ⟨n,hn⟩:=Ë.mp hp
 have lt:n<z.t.st.length:=by rw [← I.rl];exact (ς.mp hn).1
 obtain ⟨h1,h2⟩:=(I.ob n _ p (Θ lt) hn).th
 rcases e with rfl | rfl
 ·exact h1
 ·exact h2
theorem HR.fth (I:HR X z) (m:b∈frs X.fr):∃ o,z.h b=some o:=let ⟨_,o,e,_⟩:=I.fu.mem m;⟨o,e⟩
section
variable {X:Cx} {z:Z} {G':Hp} {s':ξ}
theorem HR.grow (I:HR X z) (g:Grw z G' s'):HR X { z with G:=G',s:=s' }:=by
 have nn:∀ {a:Β},(∃ o,z.h a=some o)→z.G a=none→G' a=none:=fun {a} ⟨o,e⟩ n=>by
  cases q:G' a with
  | none=>rfl
  | some o'=>rcases g.gn a o' q with z | z;rw [n] at z;cases z;rw [z] at e;cases e
 exact ⟨I.md,I.fm,I.hd,fun b o e=>g.gg _ _ (I.bs b o e),g.gh,I.rl,I.rn,fun a m=>nn (I.th m) (I.rg a m),fun n o p h1 h2=>(I.ob n o p h1 h2).mono (μ _) g.gg fun a _ o e=>g.gr.k a o e,nfu I.fu g.gr.k,fun b m=>⟨nn (I.fth m) (I.ff b m).1,(I.ff b m).2⟩,by rw [g.gr.gs];exact I.br,g.gr.os.trans I.os⟩
theorem Rep.lth (I:Rep X z) (l:Lc X a):∃ o,z.h a=some o:=by
 rcases l with rfl | ⟨x,e⟩
 ·obtain ⟨m,⟨o,_,_,e,_⟩,_⟩:=I.lo;exact ⟨o,e⟩
 ·obtain ⟨v,o,e,_⟩:=I.ce x a e;exact ⟨o,e⟩
theorem Rep.oth (I:Rep X z) (o:Own z a):Fre X z a∧∃ o,z.h a=some o:=by
 obtain ⟨i,m,e⟩:=o
 obtain ⟨d,b,o,_,e2,_,r,f⟩:=I.eo i m
 rw [e] at e2;cases e2
 exact ⟨f,r.th.1⟩
theorem cW {h h':ϳ} (k:∀ c v,env.cells.lookup x=some c→h.IsCell c v→h'.IsCell c v) (l:kL env h m x u):kL env h' m x u:=l.imp_right fun ⟨a,c,e,q⟩=>⟨a,c,e,k c _ e q⟩
theorem Rep.fre (I:Rep X z) (n:z.h a=none):Fre X z a∧¬ Own z a:=by
 have no:∀ {P:Prop},(P→∃ o,z.h a=some o)→¬ P:=fun k p=>by obtain ⟨o,e⟩:=k p;rw [n] at e;cases e
 refine ⟨⟨?_,no I.th,no I.fth,no I.lth⟩,no fun o=>(I.oth o).2⟩
 cases q:z.G a with
 | none=>rfl
 | some o=>have:=I.gh a o q;rw [n] at this;cases this
theorem wp {h h':ϳ} (sl:∀ b o,h.get? b=some o→∃ sl,h'.get? b=some { o with slots:=sl }) (n:h.Ns a m):h'.Ns a m:=let ⟨o,es,ep,e,r⟩:=n;let ⟨_,q⟩:=sl a o e;⟨_,es,ep,q,r⟩
theorem fB {h h':ϳ} (sl:∀ b o,h.get? b=some o→∃ sl,h'.get? b=some { o with slots:=sl }) (n:h.IsCell c v):h'.IsCell c v:=let ⟨o,e,d⟩:=n;let ⟨_,q⟩:=sl c o e;⟨_,q,d⟩
theorem Rep.grw (I:Rep X z) (os:s'.os=z.s.os) (br:Ŗ s'.gens) (k:∀ b o,z.h b=some o→b ∉ frs X.fr→s'.heap.get? b=some o) (sl:∀ b o,z.h b=some o→∃ sl,s'.heap.get? b=some { o with slots:=sl })
 (gg:Sub z.G G') (gh:Sub G' s'.heap.get?) (gn:∀ a o,G' a=some o→z.G a=some o∨(Fre X z a∧¬ Own z a)):Rep X { z with G:=G',s:=s' }:=by
 have nn:∀ {a:Β},¬ (Fre X z a∧¬ Own z a)→z.G a=none→G' a=none:=fun {a} f n=>by
  cases q:G' a with
  | none=>rfl
  | some o'=>rcases gn a o' q with z | z;rw [n] at z;cases z;exact (f z).elim
 refine ⟨⟨I.md,I.fm,I.hd,fun b o e=>gg _ _ (I.bs b o e),gh,I.rl,I.rn,fun a m=>nn (fun f=>f.1.2.1 m) (I.rg a m),fun n o p h1 h2=>(I.ob n o p h1 h2).mono (μ _) gg fun a ha o e=>k a o e fun m=>(I.ff a m).2 ⟨p,φ h2,ha⟩,I.fu.of_keeps fun b o e _=>let ⟨_,q⟩:=sl b o e;⟨_,q,rfl⟩,fun b m=>⟨nn (fun f=>f.1.2.2.1 m) (I.ff b m).1,(I.ff b m).2⟩,br,os.trans I.os⟩,I.ok,?_,fun x c e=>let ⟨v,q⟩:=I.ce x c e;⟨v,fB sl q⟩,fun a l=>⟨nn (fun f=>f.1.2.2.2 l) (I.fl a l).1,(I.fl a l).2⟩,I.el,I.sl,fun i d n e=>let ⟨u,q,r⟩:=I.en i d n e;⟨u,q,r.mono (μ _) gg⟩,fun i m=>?_,I.od⟩
 ·obtain ⟨m,hn,hl⟩:=I.lo
  exact ⟨m,wp sl hn,fun i x u h1 h2 h3=>cW (fun c v _ q=>fB sl q) (hl i x u h1 h2 h3)⟩
 ·obtain ⟨d,a,o,h1,h2,h3,r,f⟩:=I.eo i m
  exact ⟨d,a,o,h1,h2,h3,r.mono (μ _) gg fun b hb o e=>k b o e (by rcases hb with rfl | rfl <;> exact f.2.2.1),nn (fun f=>f.2 ⟨i,m,h2⟩) f.1,f.2⟩
theorem Rep.grow (I:Rep X z) (g:Grw z G' s'):Rep X { z with G:=G',s:=s' }:=I.grw g.gr.os (by rw [g.gr.gs];exact I.br) (fun b o e _=>g.gr.k b o e) (fun b o e=>⟨o.slots,g.gr.k b o e⟩) g.gg g.gh fun a o e=>(g.gn a o e).imp_right I.fre
theorem Grw.stp (g:Grw z G' s'):Stp fr w z { z with G:=G',s:=s' }:=⟨μ _,g.gg,fun a o e=>(g.gn a o e).imp_right .inl,fun _ m=>.inl m,fun a o e=>⟨o,g.gr.k a o e⟩,fun a o e _ _ _=>g.gr.k a o e,fun a o e _ _ _=>⟨o.slots,g.gr.k a o e⟩⟩
theorem Grw.ee (g:Grw z G' s'):Ee X z { z with G:=G',s:=s' }:=⟨g.stp,rfl,rfl,fun _ h=>h⟩
end
def Z.up (z:Z) (s':ξ):Z:={ z with G:=fun a=>match z.h a with | none=>s'.heap.get? a | some _=>z.G a,s:=s' }
theorem eV {z:Z} {s':ξ} (n:z.h a=none):(z.up s').G a=s'.heap.get? a:=by show (match z.h a with | none=>s'.heap.get? a | some _=>z.G a)=_;rw [n]
theorem bY {z:Z} {s':ξ} (I:Sub z.G z.h) (g:Gr z.s s'):Grw z (z.up s').G s':=by
 refine ⟨g,fun a o e=>?_,fun a o e=>?_,fun a o e=>?_⟩
 ·show (match z.h a with | none=>s'.heap.get? a | some _=>z.G a)=_
  rw [I a o e];exact e
 ·revert e
  show (match z.h a with | none=>s'.heap.get? a | some _=>z.G a)=_→_
  cases q:z.h a with
  | none=>exact fun e=>e
  | some u=>exact fun e=>g.k a o (I a o e)
 ·cases q:z.h a with
  | none=>exact .inr rfl
  | some u=>
    revert e
    show (match z.h a with | none=>s'.heap.get? a | some _=>z.G a)=_→_
    rw [q];exact .inl
theorem ak {z:Z} {s':ξ} (I:Sub z.G z.h) (g:Gr z.s s'):Grw z z.G s':=⟨g,.refl _,fun a o e=>g.k a o (I a o e),fun _ _ e=>.inl e⟩
def jE (z:Z) (p:Nat→Bool) (a:Β):Prop:=∃ i∈z.t.ow,p i=false∧z.σ[i]? = some (some (.ref a))
open Classical in
noncomputable def Z.rel (z:Z) (p:Nat→Bool):Z:={ z with t:=⟨z.t.env,z.t.ow.filter p,z.t.st⟩,G:=fun a=>if jE z p a then z.h a else z.G a }
theorem fJ {z:Z} (h:jE z p a):(z.rel p).G a=z.h a:=ZZ h
theorem c6 {z:Z} (h:¬ jE z p a):(z.rel p).G a=z.G a:=ZY h
theorem jn {d:D} (e:toO d=some o) (r:ObR W ρ G h (a,b) o) (g:Sub G G') (q:G' a=h a):RD W ρ G' d (.ref a):=by
 cases d <;> cases e
 ·obtain ⟨o,vs,_,e,l,t⟩:=r;exact ⟨a,o,vs,rfl,q.trans e,l,t.mono (μ _) g⟩
 ·obtain ⟨o,vs,_,m,e,l,n,t⟩:=r;exact ⟨a,o,vs,rfl,m,q.trans e,l,n,t.mono (μ _) g⟩
theorem Rep.rel (I:Rep X z) (p:Nat→Bool):Rep X (z.rel p)∧Ee X z (z.rel p):=by
 have own:∀ {a},jE z p a→Own z a:=fun ⟨i,m,_,e⟩=>⟨i,m,e⟩
 have gg:Sub z.G (z.rel p).G:=fun a o e=>by
  by_cases q:jE z p a
  ·rw [(I.oth (own q)).1.1] at e;cases e
  ·rw [c6 q];exact e
 have nn:∀ {a},¬ Own z a→z.G a=none→(z.rel p).G a=none:=fun n g=>by rw [c6 fun q=>n (own q)];exact g
 refine ⟨⟨⟨I.md,I.fm,I.hd,fun b o e=>gg _ _ (I.bs b o e),fun a o e=>?_,I.rl,I.rn,fun a m=>nn (fun q=>(I.oth q).1.2.1 m) (I.rg a m),fun n o p h1 h2=>(I.ob n o p h1 h2).mono (μ _) gg fun _ _ _ e=>e,I.fu,fun b m=>⟨nn (fun q=>(I.oth q).1.2.2.1 m) (I.ff b m).1,(I.ff b m).2⟩,I.br,I.os⟩,I.ok,I.lo,I.ce,fun a l=>⟨nn (fun q=>(I.oth q).1.2.2.2 l) (I.fl a l).1,(I.fl a l).2⟩,I.el,I.sl,fun i d n e=>?_,fun i m=>?_,fun i j a m1 m2=>I.od i j a (ϕ.mp m1).1 (ϕ.mp m2).1⟩,⟨⟨μ _,gg,fun a o e=>?_,fun _ m=>.inl m,fun a o e=>⟨o,e⟩,fun _ _ e _ _ _=>e,fun _ o e _ _ _=>⟨o.slots,e⟩⟩,rfl,rfl,fun i m=>(ϕ.mp m).1⟩⟩
 ·by_cases q:jE z p a
  ·rw [fJ q] at e;exact e
  ·rw [c6 q] at e;exact I.gh a o e
 ·by_cases m:i∈z.t.ow
  ·have pf:p i=false:=by
    cases q:p i with
    | false=>rfl
    | true=>exact ZX (ϕ.mpr ⟨m,q⟩) n
   obtain ⟨d',a,o,h1,h2,h3,r,f⟩:=I.eo i m
   rw [show z.t.env[i]? = some (some d) from e] at h1;cases h1
   exact ⟨_,h2,jn h3 r gg (fJ ⟨i,m,pf,h2⟩)⟩
  ·obtain ⟨u,q,r⟩:=I.en i d m e
   exact ⟨u,q,r.mono (μ _) gg⟩
 ·obtain ⟨m1,m2⟩:=ϕ.mp m
  obtain ⟨d',a,o,h1,h2,h3,r,f⟩:=I.eo i m1
  refine ⟨d',a,o,h1,h2,h3,r.mono (μ _) gg fun _ _ _ e=>e,?_,f.2⟩
  refine (c6 fun ⟨j,mj,pj,ej⟩=>?_).trans f.1
  rw [I.od j i a mj m1 ej h2,m2] at pj;cases pj
 ·by_cases q:jE z p a
  ·exact .inr (.inr (own q))
  ·rw [c6 q] at e;exact .inl e
inductive Tr (h:ϳ) (a:Β) (cls:ζ) (dx:Option Β) (T:Β) (fl:ζ):Prop
 | mk (oe:_) (vs:_) (oT:_) (ts:_) (_:h.get? a=some oe) (_:(oe.cls=cls∧oe.dict=dx)) (_:oe.data = .fields vs) (_:vs[1]? = some (.ref T)) (_:T≠a) (_:h.get? T=some oT) (_:oT.data = .fields ts) (_:ts[3]? = some fl)
inductive Rw (h:ϳ) (a:Β) (cls:ζ) (dx:Option Β):Prop
 | mk (oe:_) (vs:_) (_:h.get? a=some oe) (_:(oe.cls=cls∧oe.dict=dx)) (_:oe.data = .fields vs) (_:vs[1]? = some .none)
inductive XI (W:Wd) (ρ:Rs) (G:Hp) (c:Nat) (l:List D) (cls:ζ) (dx:Option Β):Prop
 | mk (i:CI) (_:W.ci[c]? = some i) (_:W.what[c]? = some 2) (_:cls = .ref i.ad) (_:l.length≤i.nm.length) (_:(l = []∧dx=none)∨∃ d od vs,dx=some d∧G d=some od∧NsO od (i.nm.zip vs)∧RDs W ρ G l vs)
def XR (W:Wd) (z:Z) (c:Nat) (l:List D) (cls:ζ) (dx:Option Β):Prop:=XI W z.ρ z.G c l cls dx
def Nob (X:Cx) (z z':Z) (a:Β):Prop:=z.h a=none∧Fre X z' a∧¬ Own z' a
inductive XO (X:Cx) (z z':Z) (c:Nat) (l:List D) (e:ζ):Prop
 | mk (a:_) (cls:_) (dx:_) (_:e = .ref a) (_:XR X.W z' c l cls dx) (_:Nob X z z' a) (_:(Rw z'.s.heap a cls dx∨∃ T fl,Tr z'.s.heap a cls dx T fl∧(fl = .none∨fl=Ö X.env.locals)∧Nob X z z' T))
theorem XO.less (h:XO X z1 z' c l e) (k:∀ a,z1.h a=none→z.h a=none):XO X z z' c l e:=by
 obtain ⟨a,cls,dx,e,r,n,h⟩:=h
 exact ⟨a,cls,dx,e,r,⟨k a n.1,n.2⟩,h.imp_right fun ⟨T,fl,t,q,n⟩=>⟨T,fl,t,q,k T n.1,n.2⟩⟩
section
variable {α β γ δ:Type} {X:Cx}
inductive Pe (X:Cx) (z:Z) (o:Out α) (R:Z→α→β→Prop) (u:β) (s':ξ):Prop
 | mk (z':_) (d:_) (_:z'.s=s') (_:o = .ok d z'.t) (_:Ee X z z') (_:Rep X z') (_:R z' d u)
inductive Px (X:Cx) (z:Z) (o:Out α) (x:ζ) (s':ξ):Prop
 | mk (z':_) (c:_) (l:_) (_:z'.s=s') (_:o = .exc c l z'.t) (_:Ee X z z') (_:Rep X z') (_:XO X z z' c l x)
abbrev Wp (X:Cx) (t:F1 β) (z:Z) (o:Out α) (R:Z→α→β→Prop):Prop:=Α X.M X.A t (Pe X z o R) (Px X z o) z.s
def Jg (X:Cx) (t:F1 β) (m:Sta→Out α) (R:Z→α→β→Prop):Prop:=∀ z,Rep X z→m z.t≠.bad→Wp X t z (m z.t) R
theorem Pe.less {z1:Z} {o:Out α} {R:Z→α→β→Prop} (x:Ee X z z1) (h:Pe X z1 o R u s'):Pe X z o R u s':=let ⟨z',d,e,q,y,J,r⟩:=h;⟨z',d,e,q,x.trans y,J,r⟩
theorem Px.less {z1:Z} {o:Out α} (x:Ee X z z1) (h:Px X z1 o u s'):Px X z o u s':=let ⟨z',c,l,e,q,y,r,n⟩:=h;⟨z',c,l,e,q,x.trans y,r,n.less fun _=>x.st.no⟩
theorem Px.map {o:Out α} {f:α→Sta→Out γ} (h:Px X z o u s'):Px X z (o.bind f) u s':=let ⟨z',c,l,e,q,y,J,r⟩:=h;⟨z',c,l,e,by rw [q];rfl,y,J,r⟩
theorem Wp.less {t:F1 β} {z1:Z} {o:Out α} {R:Z→α→β→Prop} (x:Ee X z z1) (h:Wp X t z1 o R):Α X.M X.A t (Pe X z o R) (Px X z o) z1.s:=Τ h (fun _ _ h=>h.less x) fun _ _ h=>h.less x
theorem Jg.go {t:F1 β} {m:Sta→Out α} {R:Z→α→β→Prop} {f:α→Sta→Out γ} {o:Out γ} {K:β→ξ→Prop} (h:Jg X t m R) (x:Ee X z z1) (I:Rep X z1) (e:o=(m z1.t).bind f) (nb:o≠.bad)
 (k:∀ z2 d u,Ee X z1 z2→Ee X z z2→Rep X z2→R z2 d u→o=f d z2.t→K u z2.s):Α X.M X.A t K (Px X z o) z1.s:=by
 subst e
 refine Τ (h z1 I fun q=>nb (by rw [q];rfl)) (fun u s' ⟨z2,d,e,q,y,I1,r⟩=>?_) fun u s' h=>(h.less x).map
 subst e;exact k z2 d u y (x.trans y) I1 r (by rw [q];rfl)
theorem Jg.at {t:F1 β} {m:Sta→Out α} {R:Z→α→β→Prop} {o:Out α} (h:Jg X t m R) (x:Ee X z z1) (I:Rep X z1) (e:o=m z1.t) (nb:o≠.bad):Α X.M X.A t (Pe X z o R) (Px X z o) z1.s:=by subst e;exact (h z1 I nb).less x
def Dn (X:Cx) (z:Z) (d:D) (u:ζ) (s':ξ):Prop:=Gr z.s s'∧RD X.W z.ρ (z.up s').G d u
theorem Dn.pe (I:Rep X z) (h:Dn X z d u s'):Pe X z (.ok d z.t) (RV X.W br c) u s':=⟨z.up s',d,rfl,rfl,(bY I.gh h.1).ee,I.grow (bY I.gh h.1),.of h.2⟩
theorem Dn.flat {s':ξ} (g:Gr z.s s') (h:∀ G,RD X.W z.ρ G d u):Dn X z d u s':=⟨g,h _⟩
theorem Dn.old (I:Rep X z) {s':ξ} (g:Gr z.s s') (h:RD X.W z.ρ z.G d u):Dn X z d u s':=⟨g,h.mono (μ _) (bY I.gh g).gg⟩
theorem Dn.at (x:Ee X z0 z) (I:Rep X z) (e:o = .ok d z.t) (h:Dn X z d u s'):Pe X z0 o (RV X.W br c) u s':=e ▸ (h.pe I).less x
theorem cv {t:F1 ζ} {o:Out D} (x:Ee X z0 z) (I:Rep X z) (e:o=Out.of z.t od) (nb:o≠.bad) (h:∀ d,od=some d→Α X.M X.A t (Dn X z d) (fun _ _=>False) z.s):Α X.M X.A t (Pe X z0 o (RV X.W br c)) (Px X z0 o) z.s:=by
 cases od with
 | none=>exact ZX e nb
 | some d=>exact Τ (h d rfl) (fun _ _ h=>h.at x I e) fun _ _ z=>z.elim
end
theorem big (h:n≤100000):n≤Ϛ:=Ϣ h (by rw [Ą];decide)
theorem jL:∀ {ds es} {b},cO f ds es=some b→(∀ j (h1:j<ds.length) (h2:j<es.length),∃ c,f ds[j] es[j]=some c)∧b=(Ŕ (min ds.length es.length)).all fun j=>(f (ds[j]?.getD .non) (es[j]?.getD .non)).getD false
 | [],es,b,h=>by cases h;exact ⟨fun j h=>ZX h (ŝ _),by simp⟩
 | d :: ds,[],b,h=>by cases h;exact ⟨fun j _ h=>ZX h (ŝ _),by simp⟩
 | d :: ds,e :: es,b,h=>by
   unfold cO at h
   cases q:f d e with
   | none=>rw [q] at h;cases h
   | some x=>
     rw [q] at h
     cases q2:cO f ds es with
     | none=>rw [q2] at h;cases h
     | some y=>
       rw [q2] at h
       cases h
       obtain ⟨i1,i2⟩:=jL q2
       refine ⟨fun j h1 h2=>?_,?_⟩
       ·cases j with
        | zero=>exact ⟨x,q⟩
        | succ j=>exact i1 j (Ś h1) (Ś h2)
       ·have m:min (d :: ds).length (e :: es).length=min ds.length es.length+1:=by simp only [Ι];omega
        rw [m,List.range_succ_eq_map,List.all_cons,List.all_map,i2]
        simp only [Ey,D8,q]
        rfl
theorem zw (f:sh d=1):∃ l,d = .tup l:=by cases d <;> first | exact ⟨_,rfl⟩ | cases f
theorem zv (f:sh d=2):∃ l,d = .lst l:=by cases d <;> first | exact ⟨_,rfl⟩ | cases f
theorem wy (d:D):sh d<4:=by cases d <;> exact τ rfl
theorem zx:∀ x y:Fin 4,¬ (x.1=3∨y.1=3)→¬ (x.1=0∧y.1=0)→¬ x.1=y.1→(x.1=0∧(y.1=1∨y.1=2))∨((x.1=1∨x.1=2)∧y.1=0)∨(x.1=1∧y.1=2)∨(x.1=2∧y.1=1):=by decide +kernel
theorem pJ (h:eq0 d e=some b):(sh d=0∧sh e=0∧b=eqf d e)∨(b=false∧((sh d=0∧(sh e=1∨sh e=2))∨((sh d=1∨sh d=2)∧sh e=0)∨(sh d=1∧sh e=2)∨(sh d=2∧sh e=1))):=by
 unfold eq0 at h
 split at h
 ·cases h
 ·rename_i h3
  split at h
  ·rename_i h0;cases h;exact .inl ⟨h0.1,h0.2,rfl⟩
  ·split at h
   ·cases h
   ·cases h
    refine .inr ⟨rfl,?_⟩
    rename_i h0 h1
    exact zx ⟨sh d,wy d⟩ ⟨sh e,wy e⟩ h3 h0 h1
theorem nW (h:eqv (n+1) d e=some b):(∃ da db y,d = .tup da∧e = .tup db∧cO (eqv n) da db=some y∧b=(y && da.length == db.length)) ∨
 (∃ da db,d = .lst da∧e = .lst db∧((da.length=db.length∧cO (eqv n) da db=some b)∨(da.length≠db.length∧b=false)))∨eq0 d e=some b:=by
 cases d with
 | tup da=>cases e with
   | tup db=>
     obtain ⟨y,a,c⟩:=ω.mp (show (cO (eqv n) da db).map (· && da.length == db.length)=some b from h)
     exact .inl ⟨da,db,y,rfl,rfl,a,c.symm⟩
   | _=>exact .inr (.inr h)
 | lst da=>cases e with
   | lst db=>
     have h':(if da.length=db.length then cO (eqv n) da db else some false)=some b:=h
     split at h'
     ·rename_i z;exact .inr (.inl ⟨da,db,rfl,rfl,.inl ⟨z,h'⟩⟩)
     ·rename_i z;cases h';exact .inr (.inl ⟨da,db,rfl,rfl,.inr ⟨z,rfl⟩⟩)
   | _=>exact .inr (.inr h)
 | _=>exact .inr (.inr h)
open SeqAt
def E3 (A:ώ) (s:ξ) (u v:ζ) (b:Bool):Prop:=EqAt A s u v b∧RcAt A s u v b∧RcNeAt A s u v (!b)
theorem tA (f1:sh d=0) (f2:sh e=0) (h1:RD W ρ G d u) (h2:RD W ρ G e v):(u=v→eqf d e=true)∧∀ A s,E3 A s u v (eqf d e):=by
 cases d with
 | non=>
   cases (show u=Value.none from h1)
   cases e with
   | non=>cases (show v=Value.none from h2);exact ⟨fun _=>rfl,fun A s=>⟨.same _,.none_none,.none_none⟩⟩
   | bl b=>cases (show v=ϥ b from h2);exact ⟨nofun,fun A s=>⟨.none_bool _,.none_bool _,.none_bool _⟩⟩
   | int b=>obtain ⟨t,rfl⟩:=(show ∃ t,v=Ć b t from h2);exact ⟨nofun,fun A s=>⟨.none_int _ _,.none_int _ _,.none_int _ _⟩⟩
   | str b=>obtain ⟨t,rfl⟩:=(show ∃ t,v=Value.str b t from h2);exact ⟨nofun,fun A s=>⟨.none_str _ _,.none_str _ _,.none_str _ _⟩⟩
   | _=>cases f2
 | bl a=>
   cases (show u=ϥ a from h1)
   cases e with
   | non=>cases (show v=Value.none from h2);exact ⟨nofun,fun A s=>⟨.bool_none _,.bool_none _,.bool_none _⟩⟩
   | bl b=>cases (show v=ϥ b from h2);exact ⟨fun z=>by cases z;exact ZT a,fun A s=>⟨.bool_bool _ _,.bool_bool _ _,.bool_bool _ _⟩⟩
   | int b=>obtain ⟨t,rfl⟩:=(show ∃ t,v=Ć b t from h2);exact ⟨nofun,fun A s=>⟨.bool_int _ _ _,.bool_int _ _ _,.bool_int _ _ _⟩⟩
   | str b=>obtain ⟨t,rfl⟩:=(show ∃ t,v=Value.str b t from h2);exact ⟨nofun,fun A s=>⟨.bool_str _ _ _,.bool_str _ _ _,.bool_str _ _ _⟩⟩
   | _=>cases f2
 | int a=>
   obtain ⟨t,rfl⟩:=(show ∃ t,u=Ć a t from h1)
   cases e with
   | non=>cases (show v=Value.none from h2);exact ⟨nofun,fun A s=>⟨.int_none _ _,.int_none _ _,.int_none _ _⟩⟩
   | bl b=>cases (show v=ϥ b from h2);exact ⟨nofun,fun A s=>⟨.int_bool _ _ _,.int_bool _ _ _,.int_bool _ _ _⟩⟩
   | int b=>obtain ⟨t,rfl⟩:=(show ∃ t,v=Ć b t from h2);exact ⟨fun z=>by cases z;exact ZT a,fun A s=>⟨.int_int _ _ _ _,.int_int _ _ _ _,.int_int _ _ _ _⟩⟩
   | str b=>obtain ⟨t,rfl⟩:=(show ∃ t,v=Value.str b t from h2);exact ⟨nofun,fun A s=>⟨.int_str _ _ _ _,.int_str _ _ _ _,.int_str _ _ _ _⟩⟩
   | _=>cases f2
 | str a=>
   obtain ⟨t,rfl⟩:=(show ∃ t,u=Value.str a t from h1)
   cases e with
   | non=>cases (show v=Value.none from h2);exact ⟨nofun,fun A s=>⟨.str_none _ _,.str_none _ _,.str_none _ _⟩⟩
   | bl b=>cases (show v=ϥ b from h2);exact ⟨nofun,fun A s=>⟨.str_bool _ _ _,.str_bool _ _ _,.str_bool _ _ _⟩⟩
   | int b=>obtain ⟨t,rfl⟩:=(show ∃ t,v=Ć b t from h2);exact ⟨nofun,fun A s=>⟨.str_int _ _ _ _,.str_int _ _ _ _,.str_int _ _ _ _⟩⟩
   | str b=>obtain ⟨t,rfl⟩:=(show ∃ t,v=Value.str b t from h2);exact ⟨fun z=>by cases z;exact ZT a,fun A s=>⟨.str_str _ _ _ _,.str_str _ _ _ _,.str_str _ _ _ _⟩⟩
   | _=>cases f2
 | _=>cases f1
theorem iT {s:ξ} (f:sh d=0) (h:RD W ρ G d u) (hu:A.units<ţ):(∀ b,u≠.ref b)∧∀ b its,(s.heap.IsTuple b its∨s.heap.IsList b its)→E3 A s u (.ref b) false∧E3 A s (.ref b) u false:=by
 cases d with
 | non=>cases (show u=Value.none from h);exact ⟨nofun,fun b its p=>p.elim (fun p=>⟨⟨.none_tuple p hu,.none_tuple p hu,.none_tuple p hu⟩,.tuple_none p hu,.tuple_none p hu,.tuple_none p hu⟩) fun p=>⟨⟨.none_list p hu,.none_list p hu,.none_list p hu⟩,.list_none p hu,.list_none p hu,.list_none p hu⟩⟩
 | bl k=>cases (show u=ϥ k from h);exact ⟨nofun,fun b its p=>p.elim (fun p=>⟨⟨.bool_tuple k p hu,.bool_tuple k p hu,.bool_tuple k p hu⟩,.tuple_bool k p hu,.tuple_bool k p hu,.tuple_bool k p hu⟩) fun p=>⟨⟨.bool_list k p hu,.bool_list k p hu,.bool_list k p hu⟩,.list_bool k p hu,.list_bool k p hu,.list_bool k p hu⟩⟩
 | int k=>obtain ⟨t,rfl⟩:=(show ∃ t,u=Ć k t from h);exact ⟨nofun,fun b its p=>p.elim (fun p=>⟨⟨.int_tuple k t p hu,.int_tuple k t p hu,.int_tuple k t p hu⟩,.tuple_int k t p hu,.tuple_int k t p hu,.tuple_int k t p hu⟩) fun p=>⟨⟨.int_list k t p hu,.int_list k t p hu,.int_list k t p hu⟩,.list_int k t p hu,.list_int k t p hu,.list_int k t p hu⟩⟩
 | str k=>obtain ⟨t,rfl⟩:=(show ∃ t,u=Value.str k t from h);exact ⟨nofun,fun b its p=>p.elim (fun p=>⟨⟨.str_tuple k t p hu,.str_tuple k t p hu,.str_tuple k t p hu⟩,.tuple_str k t p hu,.tuple_str k t p hu,.tuple_str k t p hu⟩) fun p=>⟨⟨.str_list k t p hu,.str_list k t p hu,.str_list k t p hu⟩,.list_str k t p hu,.list_str k t p hu,.list_str k t p hu⟩⟩
 | _=>cases f
theorem CR.fl (f:sh d=0) (h:CR W z d u):RD W z.ρ z.G d u:=by cases d <;> first | exact h | cases f
theorem tpt {h:ϳ} (e:h.get? a=some o) (t:TpO o l):h.IsTuple a l.toArray:=⟨o,e,t.1,t.2.1⟩
theorem lsl {h:ϳ} (e:h.get? a=some o) (t:LsO o l):h.IsList a l.toArray:=by obtain ⟨⟨n,rfl⟩,_⟩:=t;exact ⟨_,e,rfl,n,rfl⟩
theorem E3.refs (ne:l=b→k=true) (h:RcAt A s (.ref l) (.ref b) k) (h2:RcNeAt A s (.ref l) (.ref b) (!k)):E3 A s (.ref l) (.ref b) k:=by
 refine ⟨?_,h,h2⟩
 by_cases q:l=b
 ·subst q;rw [ne rfl];exact .same _
 ·exact .of_refs q h
theorem e3 (I:HR X z):∀ (n:Nat) {d e u v b},eqv n d e=some b→CR X.W z d u→CR X.W z e v→(u=v→b=true)∧∀ A,A.units+n+1<ţ→E3 A z.s u v b:=by
 have low:∀ {d e u v b},eq0 d e=some b→CR X.W z d u→CR X.W z e v→(u=v→b=true)∧∀ A,A.units<ţ→E3 A z.s u v b:=by
  intro d e u v b h h1 h2
  have it:∀ {d:D} {u:ζ},(sh d=1∨sh d=2)→CR X.W z d u→∃ a its,u = .ref a∧((sh d=1∧z.s.heap.IsTuple a its)∨(sh d=2∧z.s.heap.IsList a its)):=fun {d u} f h=>by
   rcases f with f | f
   ·obtain ⟨l,rfl⟩:=zw f;obtain ⟨a,o,vs,rfl,e,t,_⟩:=h;exact ⟨a,_,rfl,.inl ⟨rfl,tpt (I.gh _ _ e) t⟩⟩
   ·obtain ⟨l,rfl⟩:=zv f;obtain ⟨a,o,vs,rfl,e,t,_⟩:=h;exact ⟨a,_,rfl,.inr ⟨rfl,lsl e t⟩⟩
  rcases pJ h with ⟨f1,f2,rfl⟩ | ⟨rfl,c⟩
  ·obtain ⟨p,q⟩:=tA f1 f2 (h1.fl f1) (h2.fl f2);exact ⟨p,fun A _=>q A _⟩
  ·rcases c with ⟨c1,c2⟩ | ⟨c1,c2⟩ | ⟨c1,c2⟩ | ⟨c1,c2⟩
   ·obtain ⟨a,its,rfl,w⟩:=it c2 h2
    have w:=w.imp DS DS
    exact ⟨fun q=>ZX q ((iT (s:=z.s) (A:={ }) c1 (h1.fl c1) (by decide)).1 a),fun A hu=>((iT c1 (h1.fl c1) hu).2 a its w).1⟩
   ·obtain ⟨a,its,rfl,w⟩:=it c1 h1
    have w:=w.imp DS DS
    exact ⟨fun q=>ZX q.symm ((iT (s:=z.s) (A:={ }) c2 (h2.fl c2) (by decide)).1 a),fun A hu=>((iT c2 (h2.fl c2) hu).2 a its w).2⟩
   ·obtain ⟨a,i1,rfl,w1⟩:=it (.inl c1) h1
    obtain ⟨b,i2,rfl,w2⟩:=it (.inr c2) h2
    have w1:=w1.resolve_right fun z=>by omega
    have w2:=w2.resolve_left fun z=>by omega
    exact ⟨fun q=>ZX (Ċ q).symm (ne_of_list_tuple w2.2 w1.2),fun A hu=>⟨.tuple_list w1.2 w2.2 hu,.tuple_list w1.2 w2.2 hu,.tuple_list w1.2 w2.2 hu⟩⟩
   ·obtain ⟨a,i1,rfl,w1⟩:=it (.inr c1) h1
    obtain ⟨b,i2,rfl,w2⟩:=it (.inl c2) h2
    have w1:=w1.resolve_left fun z=>by omega
    have w2:=w2.resolve_right fun z=>by omega
    exact ⟨fun q=>ZX (Ċ q) (ne_of_list_tuple w1.2 w2.2),fun A hu=>⟨.list_tuple w1.2 w2.2 hu,.list_tuple w1.2 w2.2 hu,.list_tuple w1.2 w2.2 hu⟩⟩
 intro n
 induction n with
 | zero=>intro d e u v b h h1 h2;obtain ⟨p,q⟩:=low h h1 h2;exact ⟨p,fun A hu=>q A (by omega)⟩
 | succ n ih=>
   intro d e u v b h h1 h2
   have items:∀ {da db:List D} {vs ws:List ζ} {y:Bool},cO (eqv n) da db=some y→RDs X.W z.ρ z.G da vs→RDs X.W z.ρ z.G db ws→(vs=ws→y=true)∧∃ f:Nat→Bool,(Ŕ (min vs.toArray.size ws.toArray.size)).all f=y∧∀ A,A.units+n+1<ţ→∀ j (h1:j<vs.toArray.size) (h2:j<ws.toArray.size),EqAt A z.s vs.toArray[j] ws.toArray[j] (f j):=by
    intro da db vs ws y q r1 r2
    obtain ⟨q1,q2⟩:=jL q
    have l3:=r1.len
    have l4:=r2.len
    have one:∀ j (h1:j<vs.length) (h2:j<ws.length),∃ c,(eqv n (da[j]?.getD .non) (db[j]?.getD .non)).getD false=c∧(vs[j]=ws[j]→c=true)∧∀ A,A.units+n+1<ţ→EqAt A z.s vs[j] ws[j] c:=fun j h1 h2=>by
     have e1:=Θ (l:=da) (i:=j) (by omega)
     have e2:=Θ (l:=db) (i:=j) (by omega)
     obtain ⟨x1,f1,w1⟩:=r1.get e1
     obtain ⟨y1,f2,w2⟩:=r2.get e2
     rw [Θ h1] at f1;rw [Θ h2] at f2;cases f1;cases f2
     obtain ⟨c,hc⟩:=q1 j (by omega) (by omega)
     obtain ⟨p,q⟩:=ih hc (.of I w1) (.of I w2)
     exact ⟨c,by rw [e1,e2];simp only [D8,hc],p,fun A hu=>(q A hu).1⟩
    refine ⟨fun q=>?_,fun j=>(eqv n (da[j]?.getD .non) (db[j]?.getD .non)).getD false,?_,fun A hu j h1 h2=>?_⟩
    ·subst q
     rw [q2,ϒ]
     intro j hj
     have hj:=Ec.mp hj
     obtain ⟨c,e,p,_⟩:=one j (by omega) (by omega)
     rw [e];exact p rfl
    ·rw [q2,Λ,Λ,← l3,← l4]
    ·rw [Λ] at h1 h2
     obtain ⟨c,e,_,p⟩:=one j h1 h2
     show EqAt A z.s vs[j] ws[j] ((eqv n (da[j]?.getD .non) (db[j]?.getD .non)).getD false)
     rw [e];exact p A hu
   rcases nW h with ⟨da,db,y,rfl,rfl,q,rfl⟩ | ⟨da,db,rfl,rfl,q⟩ | h
   ·obtain ⟨a,o,vs,rfl,t,to,r1⟩:=h1
    obtain ⟨a',o',ws,rfl,t',to',r2⟩:=h2
    obtain ⟨sm,f,val,its⟩:=items q r1 r2
    have l3:=r1.len
    have l4:=r2.len
    have same:a=a'→(y && da.length == db.length)=true:=fun z=>by
     subst z
     rw [t] at t';cases t'
     obtain ⟨n1,e1⟩:=to.2.1
     obtain ⟨n2,e2⟩:=to'.2.1
     rw [e1] at e2
     injection e2 with e2
     have e:vs=ws:=by simpa using ZS GV e2
     rw [sm e,l3,l4,e];simp
    have lz:(vs.toArray.size == ws.toArray.size)=(da.length == db.length):=by rw [l3,l4];rfl
    refine ⟨fun z=>same (Ċ z),fun A hu=>.refs same ?_ ?_⟩
    ·rw [← val,← lz];exact .tuples (tpt (I.gh _ _ t) to) (tpt (I.gh _ _ t') to') (by omega) (its _ (show A.units+1+n+1<ţ by omega))
    ·rw [← val,← lz];exact .tuples (tpt (I.gh _ _ t) to) (tpt (I.gh _ _ t') to') (by omega) (its _ (show A.units+1+n+1<ţ by omega))
   ·obtain ⟨a,o,vs,rfl,t,to,r1⟩:=h1
    obtain ⟨a',o',ws,rfl,t',to',r2⟩:=h2
    have l3:=r1.len
    have l4:=r2.len
    have sv:a=a'→vs=ws:=fun z=>by
     subst z
     rw [t] at t';cases t'
     obtain ⟨⟨n1,rfl⟩,_⟩:=to
     obtain ⟨⟨n2,e2⟩,_⟩:=to'
     injection e2 with _ _ e2
     injection e2 with e2
     simpa using ZS GV e2
    rcases q with ⟨hl,q⟩ | ⟨hl,rfl⟩
    ·obtain ⟨sm,f,val,its⟩:=items q r1 r2
     have m:min vs.toArray.size ws.toArray.size=vs.toArray.size:=by simp;omega
     rw [m] at val
     refine ⟨fun z=>sm (sv (Ċ z)),fun A hu=>.refs (fun z=>sm (sv z)) ?_ ?_⟩
     ·rw [← val];exact .lists (lsl t to) (lsl t' to') (by simp;omega) (by omega) (its _ (show A.units+1+n+1<ţ by omega))
     ·rw [← val];exact .lists (lsl t to) (lsl t' to') (by simp;omega) (by omega) (its _ (show A.units+1+n+1<ţ by omega))
    ·have ne:a=a'→false=true:=fun z=>by rw [sv z] at l3;omega
     exact ⟨fun z=>ne (Ċ z),fun A hu=>.refs ne (.lists_lengths (lsl t to) (lsl t' to') (by simp;omega) (by omega)) (.lists_lengths (lsl t to) (lsl t' to') (by simp;omega) (by omega))⟩
   ·obtain ⟨p,q⟩:=low h h1 h2;exact ⟨p,fun A hu=>q A (by omega)⟩
theorem mt:∀ {l} {b},inD d l=some b→(∀ j (h:j<l.length),∃ c,eqv 55 l[j] d=some c)∧b=l.any fun e=>(eqv 55 e d).getD false
 | [],b,h=>by cases h;exact ⟨fun j h=>ZX h (ŝ _),rfl⟩
 | e :: r,b,h=>by
   unfold inD at h
   cases q:eqv 55 e d with
   | none=>rw [q] at h;cases h
   | some x=>
     rw [q] at h
     obtain ⟨y,q2,rfl⟩:=ω.mp h
     obtain ⟨i1,i2⟩:=mt q2
     refine ⟨fun j h=>?_,by rw [List.any_cons,q,i2];rfl⟩
     cases j with
     | zero=>exact ⟨x,q⟩
     | succ j=>exact i1 j (Ś h)
theorem dR (I:HR X z) (hu:A.units+57<ţ) (q:inD d l=some b) (r:RDs X.W z.ρ z.G l vs) (hd:CR X.W z d v):∃ e:ζ→Bool,(∀ y,y∈vs.toArray→EqAt A z.s y v (e y))∧vs.toArray.any e=b:=by
 obtain ⟨q1,q2⟩:=mt q
 have l3:=r.len
 have eqs:∀ j (h1:j<vs.length) (h2:j<l.length),EqAt A z.s vs[j] v ((eqv 55 l[j] d).getD false):=fun j h1 h2=>by
  obtain ⟨x1,e1,w1⟩:=r.get (Θ h2)
  rw [Θ h1] at e1;cases e1
  obtain ⟨c,hc⟩:=q1 j h2
  rw [hc]
  exact ((e3 I 55 hc (.of I w1) hd).2 A (by omega)).1
 have cl:∀ y,Decidable (∃ j,∃ (h1:j<vs.length) (h2:j<l.length),vs[j]=y∧(eqv 55 l[j] d).getD false=true):=fun y=>Classical.propDecidable _
 refine ⟨fun y=>@decide _ (cl y),fun y hy=>?_,?_⟩
 ·rcases Classical.em (∃ j,∃ (h1:j<vs.length) (h2:j<l.length),vs[j]=y∧(eqv 55 l[j] d).getD false=true) with c | c
  ·obtain ⟨j,h1,h2,e,t⟩:=id c
   have w:=eqs j h1 h2
   rw [e,t] at w
   dsimp only
   rw [show @decide _ (cl y)=true from @ZW _ (cl y) c]
   exact w
  ·obtain ⟨j,h1,e⟩:=F6 (by simpa using hy)
   have w:=eqs j h1 (by omega)
   have t:(eqv 55 l[j] d).getD false=false:=FH.mpr fun t=>c ⟨j,h1,by omega,e,t⟩
   rw [t,e] at w
   dsimp only
   rw [show @decide _ (cl y)=false from @ZV _ (cl y) c]
   exact w
 ·rw [q2,List.any_toArray,G7,Ŋ,Ŋ]
  constructor
  ·rintro ⟨y,hy,t⟩
   obtain ⟨j,h1,h2,e,t⟩:=@of_decide_eq_true _ (cl _) t
   exact ⟨l[j],ň h2,t⟩
  ·rintro ⟨e,he,t⟩
   obtain ⟨j,h2,rfl⟩:=F6 he
   exact ⟨vs[j]'(by omega),ň _,@ZW _ (cl _) ⟨j,by omega,h2,rfl,t⟩⟩
end L2.Ev
end
section
namespace HT
section
variable {prog:ϴ} {w:Û} {A:ώ} {E:ζ→ξ→Prop} {s:ξ}
theorem getItem_tuple_all {lo hi:Option Int} {Q:ζ→ξ→Prop} (ht:IsTup s.heap t items) (hs:s.heap.IsSliceOf sl vl vu .none) (pl:D4 vl lo) (pu:D4 vu hi)
 (hw:sIx items.size 0 lo=0∧sIx items.size items.size hi=items.size) (h:Q (.ref t) s):Α (model prog w) A (DZ (.ref t) (.ref sl)) Q E s:=by
 obtain ⟨os,hos,hcs,hds⟩:=id hs
 have hTs:s.TypeIs (.ref sl) "slice":=⟨os,hos,hcs⟩
 unfold DZ
 try with_reducible refine ϊ ?_
 first | refine ε (θ ?_) | skip
 refine ε (DW ht.typeIs (by decide) ?_)
 refine ε (Ã (name:=ϧ "__getitem__") ht.typeIs ä
  (Ñ ä ht.typeIs Gb ?_ (GH _ _)))
 show Α _ _ (Ÿ (.ref t) >>= _) _ _ s
 refine ε (EW ht ?_)
 refine ε (DV hTs ?_)
 rw [ZZ (by decide)]
 refine ε (cF hs pl pu ?_)
 have hyes:(((sIx items.size 0 lo:Nat):Int) == 0 && (1:Int) == 1 && (sIx items.size items.size hi - sIx items.size 0 lo) == items.size)=true:=by
  rw [hw.1,hw.2]
  simp
 show Α _ _ (if (((sIx items.size 0 lo:Nat):Int) == 0 && (1:Int) == 1 && (sIx items.size items.size hi - sIx items.size 0 lo) == items.size)=true then _ else _) _ _ s
 rw [ZZ hyes]
 show Α _ _ (Ź (.ref t) >>= _) _ _ s
 refine ε ?_
 unfold Ź
 refine ε (DV ht.typeIs (θ ?_))
 rw [ZZ (by decide)]
 refine ε (DH ?_)
 first
  | exact θ ⟨_,rfl,θ h⟩
  | exact ε (θ (θ ⟨_,rfl,θ h⟩))
  | exact ε (ε (θ (θ ⟨_,rfl,θ h⟩)))
end
end HT
namespace L2.Ev
abbrev NoE:ζ→ξ→Prop:=fun _ _=>False
theorem aN {c:Prop} [Decidable c] {a d:α} (e:(if c then some a else none)=some d):c∧a=d:=by
 by_cases h:c
 ·rw [ZZ h] at e;exact ⟨h,Ϧ e⟩
 ·rw [ZY h] at e;cases e
section
variable {X:Cx} {z:Z}
theorem aB (z:Z):z.h z.s.heap.objs.size=none:=ϗ (Ψ _)
theorem Dn.tok {n:Nat} (h:∀ W ρ G,RD W ρ G d u):Dn X z d u { z.s with toks:=n }:=⟨.tok,h ..⟩
theorem Dn.tup (I:Rep X z) (r:RDs X.W z.ρ z.G l vs) (g:Gr z.s s') (n:z.h a=none) (e:s'.heap.get? a=some o) (t:TpO o vs):Dn X z (.tup l) (.ref a) s':=
 ⟨g,a,o,vs,rfl,(eV n).trans e,t,r.mono (μ _) (bY I.gh g).gg⟩
theorem sd (hz:vs.length≤Ϛ):TpO { cls:=.type "tuple",data:=.seq vs.toArray n } vs:=⟨rfl,⟨n,rfl⟩,hz,rfl⟩
theorem Dn.tupn (I:Rep X z) (r:RDs X.W z.ρ z.G l vs) (hz:vs.length≤Ϛ) {n t:Nat}:Dn X z (.tup l) (.ref z.s.heap.objs.size) { z.s with heap:=z.s.heap.push { cls:=.type "tuple",data:=.seq vs.toArray n },toks:=t }:=
 .tup I r .push (aB z) (ψ _ rfl) (sd hz)
def Dw (X:Cx) (z:Z) (d:D) (u:ζ) (s':ξ):Prop:=Gr z.s s'∧∃ a o,u = .ref a∧z.h a=none∧toO d=some o∧ObR X.W z.ρ z.G s'.heap.get? (a,a) o
theorem Dw.dn (I:Rep X z) (h:Dw X z d u s'):Dn X z d u s':=by
 obtain ⟨g,a,o,rfl,n,e,r⟩:=h
 exact ⟨g,jn e r (bY I.gh g).gg (eV n)⟩
def FV (X:Cx) (z0 z:Z) (d:D) (u:ζ):Prop:=∃ a o,u = .ref a∧z0.h a=none∧toO d=some o∧ObR X.W z.ρ z.G z.h (a,a) o∧Fre X z a∧¬ Own z a
theorem Dw.pe (I:Rep X z) (h:Dw X z d u s'):Pe X z (.ok d z.t) (FV X z) u s':=by
 obtain ⟨g,a,o,rfl,n,e,r⟩:=h
 have f:=I.fre n
 exact ⟨{ z with s:=s' },d,rfl,rfl,(ak I.gh g).ee,I.grow (ak I.gh g),a,o,rfl,n,e,r,f⟩
theorem Dw.lst (r:RDs X.W z.ρ z.G l vs) (g:Gr z.s s') (n:z.h a=none) (e:s'.heap.get? a=some { cls:=.type "list",data:=.seq vs.toArray k }) (hz:vs.length≤Ϛ):Dw X z (.lst l) (.ref a) s':=⟨g,a,.lst l,rfl,n,rfl,_,vs,rfl,e,⟨⟨k,rfl⟩,hz⟩,r⟩
theorem Dw.lstn (r:RDs X.W z.ρ z.G l vs) (hz:vs.length≤Ϛ) {n t:Nat}:Dw X z (.lst l) (.ref z.s.heap.objs.size) { z.s with heap:=z.s.heap.push { cls:=.type "list",data:=.seq vs.toArray n },toks:=t }:=.lst r .push (aB z) (ψ _ rfl) hz
def Op2 (X:Cx) (f:ζ→ζ→F1 ζ) (g:D→D→Option D):Prop:=∀ z u v d1 d2 d,Rep X z→CR X.W z d1 u→CR X.W z d2 v→g d1 d2=some d→Α X.M X.A (f u v) (Dn X z d) NoE z.s
theorem AX (ho:o≠.add∧o≠.eq∧o≠.ne∧o≠.isin∧o≠.notin∧o≠.eq2) (e:opD o d1 d2=some d):∃ i j,d1 = .int i∧d2 = .int j∧opI o i j=some d:=by
 obtain ⟨n1,n2,n3,n4,n5,n6⟩:=ho
 unfold opD at e
 split at e
 ·exact ZX rfl n6
 ·exact ZX rfl n2
 ·exact ZX rfl n3
 ·exact ZX rfl n4
 ·exact ZX rfl n5
 ·split at e
  ·exact ⟨_,_,rfl,rfl,e⟩
  all_goals first | (cases e;done) | (rw [ZY n1] at e;cases e)
theorem jm {f:ζ→ζ→F1 ζ} (ho:o≠.add∧o≠.eq∧o≠.ne∧o≠.isin∧o≠.notin∧o≠.eq2)
 (rule:∀ (i j:Int) (t u:Tok) (d:D) (s:ξ) (Q:ζ→ξ→Prop),opI o i j=some d→(∀ (v:ζ) (n:Nat),(∀ W ρ G,RD W ρ G d v)→Q v { s with toks:=n })→Α X.M X.A (f (.int i t) (.int j u)) Q NoE s):Op2 X f (opD o):=fun z u v d1 d2 d I h1 h2 e=>by
 obtain ⟨i,j,rfl,rfl,e2⟩:=AX ho e
 obtain ⟨t,rfl⟩:=h1
 obtain ⟨t',rfl⟩:=h2
 exact rule i j t t' d z.s _ e2 fun v n h=>.tok h
theorem yW:Op2 X (Ł .Sub) (opD .sub):=jm (by decide) fun _ _ _ _ _ _ _ e k=>by cases e;exact sub_int (k _ _ fun _ _ _=>⟨_,rfl⟩)
theorem yU:Op2 X (Ł .Mult) (opD .mul):=jm (by decide) fun _ _ _ _ _ _ _ e k=>by
 obtain ⟨c,rfl⟩:=aN e
 refine mul_int (k _ _ fun _ _ _=>⟨_,rfl⟩) ?_
 rcases c with h | ⟨h1,h2⟩
 ·exact wJ.ok h
 ·exact mulOk_of_bits (m:=400) (n:=400) (intBits_le_iff.mpr h1) (intBits_le_iff.mpr h2) (by decide)
theorem u4:Op2 X (Ł .FloorDiv) (opD .fdiv):=jm (by decide) fun i j _ _ _ _ _ e k=>by
 obtain ⟨⟨h1,h2⟩,rfl⟩:=aN e
 refine floordiv_int (by omega) (by rw [Int.fdiv_eq_ediv_of_nonneg i (by omega)];exact k _ _ fun _ _ _=>⟨_,rfl⟩) (.inl (PyProof.noPylong_of_log2 ?_))
 have h:j.natAbs.log2<200:=(F4 (by omega)).2 (by omega)
 omega
theorem yT:Op2 X (Ł .Mod) (opD .mod):=jm (by decide) fun i j _ _ _ _ _ e k=>by
 obtain ⟨c,rfl⟩:=aN e
 exact mod_int' (by omega) (by rw [Int.fmod_eq_emod_of_nonneg i (by omega)];exact k _ _ fun _ _ _=>⟨_,rfl⟩)
theorem yV:Op2 X (Ł .Pow) (opD .pow):=jm (by decide) fun _ _ _ _ _ _ _ e k=>by
 obtain ⟨c,rfl⟩:=aN e;exact pow_int_small c.1 c.2.1 c.2.2 (k _ _ fun _ _ _=>⟨_,rfl⟩)
theorem BH:Op2 X (Ú .Lt) (opD .lt):=jm (by decide) fun _ _ _ _ _ s _ e k=>by cases e;exact lt_int (k _ s.toks fun _ _ _=>rfl)
theorem BG:Op2 X (Ú .LtE) (opD .le):=jm (by decide) fun _ _ _ _ _ s _ e k=>by cases e;exact le_int (k _ s.toks fun _ _ _=>rfl)
theorem BE:Op2 X (Ú .Gt) (opD .gt):=jm (by decide) fun _ _ _ _ _ s _ e k=>by cases e;exact gt_int (k _ s.toks fun _ _ _=>rfl)
theorem BD:Op2 X (Ú .GtE) (opD .ge):=jm (by decide) fun _ _ _ _ _ s _ e k=>by cases e;exact ge_int (k _ s.toks fun _ _ _=>rfl)
theorem yS:Op2 X (Ł .Add) (opD .add):=fun z u v d1 d2 d I h1 h2 e=>by
 have chk:∀ {n:Nat} {a:D},nR n a=some d→n≤Ϛ∧a=d:=fun e=>let ⟨c,q⟩:=aN e;⟨big c,q⟩
 cases d1 with
 | int i=>cases d2 with
   | int j=>cases e;obtain ⟨t,rfl⟩:=h1;obtain ⟨t',rfl⟩:=h2;exact add_int (.tok fun _ _ _=>⟨_,rfl⟩)
   | _=>cases e
 | str i=>cases d2 with
   | str j=>obtain ⟨hz,rfl⟩:=chk e;obtain ⟨t,rfl⟩:=h1;obtain ⟨t',rfl⟩:=h2;exact add_str (fun t' tk=>.tok fun _ _ _=>⟨_,rfl⟩) hz
   | _=>cases e
 | tup a=>cases d2 with
   | tup b=>
     obtain ⟨hz,rfl⟩:=chk e
     obtain ⟨p,o1,vs,rfl,e1,t1,r1⟩:=id h1
     obtain ⟨q,o2,ws,rfl,e2,t2,r2⟩:=id h2
     have l1:=r1.len
     have l2:=r2.len
     have k1:=tpt (I.gh _ _ e1) t1
     have k2:=tpt (I.gh _ _ e2) t2
     cases vs with
     | nil=>
       cases (show a = [] from Ex.mp l1)
       obtain ⟨⟨cls,dd,data,sl⟩,ho,hc,n,hd⟩:=id k1
       obtain ⟨⟨cls2,dd2,data2,sl2⟩,ho2,hc2,n2,hd2⟩:=id k2
       simp only at hc hd hc2 hd2
       subst hc hd hc2 hd2
       exact Fw ⟨_,ho,rfl⟩ ⟨_,ho2,rfl⟩ Ei EZ ń ĸ (ı _ _) (tuple_addW0 p q #[] ws.toArray n n2 dd dd2 sl sl2 rfl) ⟨ho,ho2,.old I .refl h2⟩
     | cons v0 vs=>
       refine HT.cat_tup k1 k2 (by simp) (fun w=>?_) (fun _=>.tupn I (r1.app r2) (by rw [υ];omega)) (by omega)
       subst w
       cases (show b = [] from Ex.mp l2)
       rw [Ω]
       exact .old I .refl h1
   | _=>cases e
 | lst a=>cases d2 with
   | lst b=>
     obtain ⟨hz,rfl⟩:=chk e
     obtain ⟨p,o1,vs,rfl,e1,⟨⟨n1,rfl⟩,_⟩,r1⟩:=h1
     obtain ⟨q,o2,ws,rfl,e2,⟨⟨n2,rfl⟩,_⟩,r2⟩:=h2
     have l1:=r1.len
     have l2:=r2.len
     refine PySem.P.add_list e1 e2 ?_ (by rw [Λ,Λ];omega)
     rw [show vs.toArray ++ ws.toArray=(vs ++ ws).toArray by simp]
     exact (Dw.lstn (r1.app r2) (by rw [υ];omega)).dn I
   | _=>cases e
 | _=>cases e
end
end L2.Ev
end
section
namespace L2.Ev
open PyProof.Rows.LSm
section
variable {X:Cx} {z:Z}
theorem eP (e:bx d=some k) (h:CR W z d u):(aR P w).is k u=true:=by
 cases d with
 | int i=>cases e;obtain ⟨t,rfl⟩:=h;exact j7 P w i t
 | str i=>cases e;obtain ⟨t,rfl⟩:=h;exact fh P w i t
 | _=>cases e
theorem DcO.of {h:ϳ} (e:h.get? a=some o) (d:DcO W o l):h.DictOf (aR W.P W.w) a l:=let ⟨es,ep,x,y,a,b,c,_⟩:=d;⟨o,es,ep,e,x,y,a,b,c⟩
theorem cG:∀ {ks} {ds} {vs} {k:Key},ks.length=ds.length→RDs W ρ G ds vs→match b8 ks ds k with | some d=>∃ v,D5 (ks.zip vs) k=some v∧RD W ρ G d v | none=>D5 (ks.zip vs) k=none
 | [],[],vs,k,_,_=>rfl
 | [],_ :: _,_,_,h,_=>by cases h
 | _ :: _,[],_,_,h,_=>by cases h
 | q :: ks,e :: ds,vs,k,h,r=>by
   obtain ⟨v,ws,rfl,r1,r2⟩:=r
   have ih:=cG (k:=k) (ļ h) r2
   unfold b8
   by_cases c:q=k
   ·rw [ZZ c];exact ⟨v,by simp [D5,G4,c],r1⟩
   ·rw [ZY c]
    have n:D5 ((q :: ks).zip (v :: ws)) k=D5 (ks.zip ws) k:=by simp [D5,G4,c]
    rw [n];exact ih
theorem sq (hl:ks.length=ds.length) (r:RDs W ρ G ds vs) (e:b8 ks ds k=some d):∃ v,D5 (ks.zip vs) k=some v∧RD W ρ G d v:=by have:=cG (k:=k) hl r;rw [e] at this;exact this
theorem sk (hl:ks.length=ds.length) (r:RDs W ρ G ds vs):(D5 (ks.zip vs) k).isSome=(b8 ks ds k).isSome:=by
 have:=cG (k:=k) hl r
 cases q:b8 ks ds k with
 | none=>rw [q] at this;rw [this];rfl
 | some d=>rw [q] at this;obtain ⟨v,e,_⟩:=this;rw [e];rfl
theorem iz (h:eqT a b=some r):(∃ ks ds ls es,a = .dic ks ds∧b = .dic ls es∧∃ x,(ks.length=ls.length→qk ls es ks ds=some x)∧r=(ks.length == ls.length && x))∨eqv 55 a b=some r:=by
 unfold eqT at h
 split at h
 ·rename_i ks ds ls es
  refine .inl ⟨ks,ds,ls,es,rfl,rfl,?_⟩
  split at h
  ·rename_i c;exact ⟨r,fun _=>h,by simp [c]⟩
  ·rename_i c;cases h;exact ⟨false,fun z=>ZX z c,by simp⟩
 ·exact .inr h
theorem i6 {A:ώ} (I:HR X z) (un:A.units+56<ţ) (hl2:ls.length=es.length) (r2:RDs X.W z.ρ z.G es ws):∀ {ks ds vs r},ks.length=ds.length→RDs X.W z.ρ z.G ds vs→qk ls es ks ds=some r→PySem.W.KeqHits A z.s (ls.zip ws) (ks.zip vs) r
 | [],ds,vs,r,_,_,h=>by cases h;exact .nil
 | k :: ks,[],vs,r,hl,_,h=>by cases hl
 | k :: ks,d :: ds,vs,r,hl,r1,h=>by
   obtain ⟨v,vs,rfl,h1,h2⟩:=r1
   unfold qk at h
   have q:=cG (k:=k) hl2 r2
   cases e:b8 ls es k with
   | none=>rw [e] at h q;cases h;exact .miss q
   | some y=>
     rw [e] at h q
     obtain ⟨w,e1,e2⟩:=q
     dsimp only at h
     cases e3':eqv 55 d y with
     | none=>rw [e3'] at h;cases h
     | some x=>
       rw [e3'] at h
       obtain ⟨b,hb,rfl⟩:=ω.mp h
       exact .hit e1 (((e3 I 55 e3' (.of I h1) (.of I e2)).2 A (by omega)).1) (i6 I un hl2 r2 (ļ hl) h2 hb)
theorem BC:Op2 X (Ú .Eq) (opD .eq):=fun z u v d1 d2 d I h1 h2 e=>by
 obtain ⟨b,q,rfl⟩:=ω.mp (show (eqT d1 d2).map D.bl=some d from e)
 rcases iz q with ⟨ks,ds,ls,es,rfl,rfl,x,q',rfl⟩ | q
 ·obtain ⟨a,o,vs,rfl,m,e1,c1,l1,r1⟩:=h1
  obtain ⟨a',o',ws,rfl,m',e2,c2,l2,r2⟩:=h2
  have n1:(ks.zip vs).length=ks.length:=by rw [ϸ,← r1.len,l1,Đ]
  have n2:(ls.zip ws).length=ls.length:=by rw [ϸ,← r2.len,l2,Đ]
  refine PySem.W.keq_eq m m' (c1.of e1) (c2.of e2) (by have:=I.ok.un;omega) (fun h=>i6 I.toHR (by have:=I.ok.un;show X.A.units+1+56<_;omega) l2 r2 l1 r1 (q' (by rw [← n1,← n2];exact h))) (.tok fun _ _ _=>?_)
  rw [n1,n2];rfl
 ·exact ((e3 I.toHR 55 q h1 h2).2 X.A (by have:=I.ok.un;omega)).2.1 _ _ _ _ (.tok fun _ _ _=>rfl)
theorem BI:Op2 X (Ú .NotEq) (opD .ne):=fun z u v d1 d2 d I h1 h2 e=>by
 obtain ⟨b,q,rfl⟩:=ω.mp (show (eqT d1 d2).map (fun x=>D.bl (!x))=some d from e)
 rcases iz q with ⟨ks,ds,ls,es,rfl,rfl,x,q',rfl⟩ | q
 ·obtain ⟨a,o,vs,rfl,m,e1,c1,l1,r1⟩:=h1
  obtain ⟨a',o',ws,rfl,m',e2,c2,l2,r2⟩:=h2
  have n1:(ks.zip vs).length=ks.length:=by rw [ϸ,← r1.len,l1,Đ]
  have n2:(ls.zip ws).length=ls.length:=by rw [ϸ,← r2.len,l2,Đ]
  refine PySem.W.keq_ne m m' (c1.of e1) (c2.of e2) (by have:=I.ok.un;omega) (fun h=>i6 I.toHR (by have:=I.ok.un;show X.A.units+1+56<_;omega) l2 r2 l1 r1 (q' (by rw [← n1,← n2];exact h))) (.tok fun _ _ _=>?_)
  rw [n1,n2];rfl
 ·exact ((e3 I.toHR 55 q h1 h2).2 X.A (by have:=I.ok.un;omega)).2.2 _ _ _ _ (.tok fun _ _ _=>rfl)
theorem BF:Op2 X (Ú .In) (opD .isin):=fun z u v d1 d2 d I h1 h2 e=>by
 have un:X.A.in1.units+57<ţ:=by have:=I.ok.un;show X.A.units+1+57<_;omega
 cases d2 with
 | str y=>cases d1 with
   | str x=>cases e;obtain ⟨t,rfl⟩:=h1;obtain ⟨t',rfl⟩:=h2;exact SB.contains (.tok fun _ _ _=>rfl)
   | _=>cases e
 | lst l=>
   obtain ⟨b,q,rfl⟩:=ω.mp (show (inD d1 l).map D.bl=some d from e)
   obtain ⟨a,o,vs,rfl,e1,t,r⟩:=h2
   obtain ⟨f,hf,rfl⟩:=dR I.toHR un q r h1
   exact SeqAt.in_listAt f (lsl e1 t) hf (.tok fun _ _ _=>rfl)
 | tup l=>
   obtain ⟨b,q,rfl⟩:=ω.mp (show (inD d1 l).map D.bl=some d from e)
   obtain ⟨a,o,vs,rfl,e1,t,r⟩:=h2
   obtain ⟨f,hf,rfl⟩:=dR I.toHR un q r h1
   exact SeqAt.in_tupleAt f (tpt (I.gh _ _ e1) t) hf (.tok fun _ _ _=>rfl)
 | dic ks l=>
   obtain ⟨k,q,rfl⟩:=ω.mp (show ((bx d1).map fun k=>D.bl (b8 ks l k).isSome)=some d from e)
   obtain ⟨a,o,vs,rfl,m,e1,t,hl,r⟩:=h2
   exact wpAny_in_of (eP q h1) m (t.of e1).mapOf (by rw [sk hl r];exact .tok fun _ _ _=>rfl)
 | _=>cases e
theorem rq:Op2 X (Ú .NotIn) (opD .notin):=fun z u v d1 d2 d I h1 h2 e=>by
 have un:X.A.in1.units+57<ţ:=by have:=I.ok.un;show X.A.units+1+57<_;omega
 cases d2 with
 | lst l=>
   obtain ⟨b,q,rfl⟩:=ω.mp (show (inD d1 l).map (fun x=>D.bl (!x))=some d from e)
   obtain ⟨a,o,vs,rfl,e1,t,r⟩:=h2
   obtain ⟨f,hf,rfl⟩:=dR I.toHR un q r h1
   exact SeqAt.notIn_listAt f (lsl e1 t) hf (.tok fun _ _ _=>rfl)
 | tup l=>
   obtain ⟨b,q,rfl⟩:=ω.mp (show (inD d1 l).map (fun x=>D.bl (!x))=some d from e)
   obtain ⟨a,o,vs,rfl,e1,t,r⟩:=h2
   obtain ⟨f,hf,rfl⟩:=dR I.toHR un q r h1
   exact SeqAt.notIn_tupleAt f (tpt (I.gh _ _ e1) t) hf (.tok fun _ _ _=>rfl)
 | dic ks l=>
   obtain ⟨k,q,rfl⟩:=ω.mp (show ((bx d1).map fun k=>D.bl (!(b8 ks l k).isSome))=some d from e)
   obtain ⟨a,o,vs,rfl,m,e1,t,hl,r⟩:=h2
   exact wpAny_notIn_of (eP q h1) m (t.of e1).mapOf (by rw [sk hl r];exact .tok fun _ _ _=>rfl)
 | _=>cases e
def zQ (X:Cx) (z:Z) (u i:ζ) (d:D):Prop:=∃ T id,EH (.type T) "__getitem__" = pure (some (.builtin id))∧z.s.TypeIs u T∧Α X.M X.A (DZ u i) (Dn X z d) NoE z.s
theorem RDs.at (r:RDs W ρ G ds vs) (e:atI ds i=some d):∃ v,atI vs i=some v∧RD W ρ G d v:=by
 unfold atI at e ⊢
 rw [← r.len]
 cases q:ixN ds.length i with
 | none=>rw [q] at e;cases e
 | some j=>rw [q] at e;exact r.get e
theorem C1 {d1 d2:D} {u v:ζ} (I:Rep X z) (h1:CR X.W z d1 u) (h2:CR X.W z d2 v) (e:ixD d1 d2=some d):zQ X z u v d:=by
 have hn:=jd
 cases d1 with
 | tup l=>cases d2 with
   | int i=>
     obtain ⟨a,o,vs,rfl,e1,t,r⟩:=h1
     obtain ⟨tk,rfl⟩:=h2
     obtain ⟨w,ew,rw'⟩:=r.at (show atI l i=some d from e)
     obtain ⟨j,g1,g2,g3,g4,g5⟩:=iO ew
     have p:=tpt (I.gh _ _ e1) t
     have hz:=t.2.2
     exact ⟨_,_,Gz.lookup,⟨_,I.gh _ _ e1,t.1⟩,getItem_tuple (j:=j) p (by omega) (by omega) g1 (by simpa using g2) (.old I .refl rw')⟩
   | _=>cases e
 | lst l=>cases d2 with
   | int i=>
     obtain ⟨a,o,vs,rfl,e1,t,r⟩:=h1
     obtain ⟨tk,rfl⟩:=h2
     obtain ⟨w,ew,rw'⟩:=r.at (show atI l i=some d from e)
     obtain ⟨j,g1,g2,g3,g4,g5⟩:=iO ew
     have p:=lsl e1 t
     have hz:=t.2
     refine ⟨_,_,H3.lookup,p.typeIs,?_⟩
     by_cases h0:0≤i
     ·have hj:i.toNat=j:=by rw [FX h0 g5] at g1;exact Ϧ g1
      exact wpAny_getItem_list p h0 (by omega) (by rw [hj];simpa using g2) (.old I .refl rw')
     ·have hj:(i+(vs.toArray.size:Int)).toNat=j:=by rw [Fv (by omega) g4] at g1;exact Ϧ g1
      exact wpAny_getItem_list_neg p (by omega) g4 (by omega) (by rw [hj];simpa using g2) (.old I .refl rw')
   | _=>cases e
 | str y=>cases d2 with
   | int i=>
     obtain ⟨hz,e⟩:y.length≤100000∧(atI y.cps.toList i).map (fun c=>D.str ⟨#[c]⟩)=some d:=by
      unfold ixD at e;dsimp only at e;split at e
      ·rename_i c;exact ⟨c,e⟩
      ·cases e
     obtain ⟨c,q,rfl⟩:=ω.mp e
     obtain ⟨t,rfl⟩:=h1
     obtain ⟨t',rfl⟩:=h2
     obtain ⟨j,g1,g2,g3,g4,g5⟩:=iO q
     have hl:y.cps.toList.length=y.length:=by simp [Str.length]
     rw [hl] at g1 g4 g5
     exact ⟨_,_,slot_str_getitem.lookup,Gx _ y t,getItem_str (c:=c) (by
      have e1:decide (i < -(2 ^ 63:Int))=false:=ZV (by omega)
      have e2:decide (i≥2 ^ 63)=false:=ZV (by omega)
      rw [e1,e2,ľ]) (by rw [g1];simpa using g2) (.tok fun _ _ _=>⟨_,rfl⟩)⟩
   | _=>cases e
 | dic ks l=>
   have e':((bx d2).bind fun k=>b8 ks l k)=some d:=by cases d2 <;> exact e
   obtain ⟨k,q,e'⟩:=Ϗ.mp e'
   obtain ⟨a,o,vs,rfl,m,e1,t,hl,r⟩:=h1
   obtain ⟨w,ew,rw'⟩:=sq hl r e'
   exact ⟨_,_,PySem.F.slot_dict_getitem.lookup,(t.of e1).typeIs,wpAny_getItem_of (eP q h2) (t.of e1).mapOf ew (.old I .tok rw')⟩
 | _=>cases e
theorem RDs.cut (r:RDs W ρ G ds vs) (lo hi):RDs W ρ G (nU ds lo hi) ((vs.drop (HT.sIx vs.length 0 lo)).take (HT.sIx vs.length vs.length hi - HT.sIx vs.length 0 lo)):=by
 unfold nU
 rw [r.len]
 exact (r.drop _).take _
theorem Dc {d1:D} {u vl vu:ζ} {lo hi:Option Int} (I:Rep X z) (h1:CR X.W z d1 u) (hs:z.s.heap.IsSliceOf sl vl vu .none) (pl:D4 vl lo) (pu:D4 vu hi) (e:slO d1 lo hi=some d):zQ X z u (.ref sl) d:=by
 have cl:∀ (vs:List ζ),((vs.drop (HT.sIx vs.length 0 lo)).take (HT.sIx vs.length vs.length hi - HT.sIx vs.length 0 lo)).length≤vs.length:=fun vs=>by rw [DC,DD];omega
 cases d1 with
 | tup l=>
   cases e
   obtain ⟨a,o,vs,rfl,e1,t,r⟩:=id h1
   have p:=tpt (I.gh _ _ e1) t
   refine ⟨"tuple",_,Gz.lookup,⟨_,I.gh _ _ e1,t.1⟩,?_⟩
   by_cases w:HT.sIx vs.length 0 lo=0∧HT.sIx vs.length vs.length hi=vs.length
   ·refine HT.getItem_tuple_all p hs pl pu w ?_
    have e:nU l lo hi=l:=by
     unfold nU
     rw [r.len,w.1,w.2,Hj,ī,← r.len,DB]
    rw [e]
    exact .old I .refl h1
   ·exact HT.getItem_tuple_cut p hs pl pu w (.tupn I (r.cut lo hi) (Ϣ (cl vs) t.2.2.1)) t.2.2.1
 | lst l=>
   cases e
   obtain ⟨a,o,vs,rfl,e1,t,r⟩:=h1
   refine ⟨"list",_,H3.lookup,(lsl e1 t).typeIs,wpAny_getItem_list_slice (lsl e1 t) hs pl pu .none (by simp) ?_ (by rw [Λ];exact t.2)⟩
   rw [ie]
   exact (Dw.lstn (r.cut lo hi) (Ϣ (cl vs) t.2)).dn I
 | str y=>
   obtain ⟨hz,rfl⟩:=aN (show (if y.length≤100000 then some (D.str (ħ y lo hi)) else none)=some d from e)
   obtain ⟨t,rfl⟩:=h1
   have fin:Nat.le (ħ y lo hi).length Ϛ∧∀ t' k,Dn X z (.str (ħ y lo hi)) (.str (ħ y lo hi) t') { z.s with toks:=k }:=⟨Ϣ (Txt.slice_le y _ _) (big hz),fun t' k=>.tok fun _ _ _=>⟨t',rfl⟩⟩
   refine ⟨"str",_,PySem.F.slot_str_getitem.lookup,Gx _ _ _,?_⟩
   cases pl <;> cases pu
   ·exact đ (l:=none) (u:=none) (st:=none) hs rfl (ű fin)
   ·exact đ (l:=none) (u:=some (_,_)) (st:=none) hs rfl (ű fin)
   ·exact đ (l:=some (_,_)) (u:=none) (st:=none) hs rfl (ű fin)
   ·exact đ (l:=some (_,_)) (u:=some (_,_)) (st:=none) hs rfl (ű fin)
 | _=>cases e
def Bi1 (X:Cx) (f:ζ) (b:Bi):Prop:=∀ z u x d,Rep X z→CR X.W z x u→gU b x=some d→Α X.M X.A (call f [u]) (Dn X z d) NoE z.s
def sN (X:Cx) (f:ζ) (b:Bi):Prop:=∀ z u x d,Rep X z→CR X.W z x u→gU b x=some d→Α X.M X.A (call f [u]) (Dw X z d) NoE z.s
theorem wR:Bi1 X (.builtin "len") .len:=fun z u x d I h e=>by
 have hn:=jd
 cases x with
 | tup l=>cases e;obtain ⟨a,o,vs,rfl,e1,t,r⟩:=h;have:=t.2.2;rw [r.len];exact len_tuple (tpt (I.gh _ _ e1) t) (by rw [Λ];omega) (.tok fun _ _ _=>⟨_,rfl⟩)
 | lst l=>cases e;obtain ⟨a,o,vs,rfl,e1,t,r⟩:=h;have:=t.2;rw [r.len];exact Calls.call_len_list (lsl e1 t) (by rw [Λ];omega) (.tok fun _ _ _=>⟨_,rfl⟩)
 | str y=>
   obtain ⟨hz,rfl⟩:=aN (show (if y.length≤100000 then some (D.int y.length) else none)=some d from e)
   obtain ⟨t,rfl⟩:=h;have:=big hz
   exact len_str (by omega) (.tok fun _ _ _=>⟨_,rfl⟩)
 | dic ks ds=>
   obtain ⟨hz,rfl⟩:=aN (show (if ks.length≤100000 then some (D.int ks.length) else none)=some d from e)
   obtain ⟨a,o,vs,rfl,m,e1,c1,l1,r1⟩:=h
   have n1:(ks.zip vs).length=ks.length:=by rw [ϸ,← r1.len,l1,Đ]
   have:=big hz
   refine call_len_dict m (c1.of e1) (by rw [n1];omega) ?_
   rw [n1]
   exact .tok fun _ _ _=>⟨_,rfl⟩
 | _=>cases e
theorem pv:Bi1 X (.type "tuple") .tuple:=fun z u x d I h e=>by
 cases x with
 | tup l=>cases e;obtain ⟨a,o,vs,rfl,e1,t,r⟩:=id h;exact call_tuple_same (tpt (I.gh _ _ e1) t) (.old I .refl h)
 | lst l=>
   cases e
   obtain ⟨a,o,vs,rfl,e1,t,r⟩:=h
   refine call_tuple_list (lsl e1 t) (fun h' kp=>?_) (by rw [Λ];exact t.2)
   have nn:z.h h'.objs.size=none:=by
    cases q:z.h h'.objs.size with
    | none=>rfl
    | some o=>exact ZX (Ο (kp _ o q)) (Ĝ _)
   exact .tup I r (.hp (t:=z.s.toks) fun b o e=>ο _ (kp b o e)) nn (ψ _ rfl) (sd t.2)
 | _=>cases e
theorem sZ:sN X (.type "list") .list:=fun z u x d I h e=>by
 cases x with
 | tup l=>
   cases e
   obtain ⟨a,o,vs,rfl,e1,t,r⟩:=h
   obtain ⟨n,hd⟩:=t.2.1
   exact call_list_seq a (.inr rfl) (I.gh _ _ e1) t.1 hd (fun h' c' kp e=>.lst r (.hp (t:=z.s.toks) kp) (aB z) e t.2.2.1) (by rw [Λ];exact t.2.2.1)
 | lst l=>
   cases e
   obtain ⟨a,o,vs,rfl,e1,⟨⟨n,rfl⟩,hz⟩,r⟩:=h
   exact call_list_seq a (.inl rfl) e1 rfl rfl (fun h' c' kp e=>.lst r (.hp (t:=z.s.toks) kp) (aB z) e hz) (by rw [Λ];exact hz)
 | _=>cases e
theorem HR.sysm (I:HR X z):Gy<z.s.heap.objs.size:=EL (by decide) (I.md.glob.keeps fun b o e=>I.gh _ _ (I.bs b o e)).lt
theorem sY:sN X (.type "dict") .dict:=fun z u x d I h e=>by
 cases x with
 | dic ks l=>
   cases e
   obtain ⟨a,o,vs,rfl,m,e1,t,hl,r⟩:=h
   have hz:(ks.zip vs).length≤Ϛ:=by obtain ⟨_,_,_,_,_,_,_,q⟩:=t;exact q
   refine kt_call_dict (knd:=aR X.W.P X.W.w) m (t.of e1) hz fun h' hd' sb=>?_
   obtain ⟨o',es,ep,e2,x,y,a1,a2,a3⟩:=hd'
   exact ⟨.hp (t:=z.s.toks) fun b o e=>(sb.2 b (ϛ (Ο e))).trans (ο _ e),_,.dic ks l,rfl,aB z,rfl,o',vs,rfl,ZU.mpr (Æ I.sysm),e2,⟨es,ep,x,y,a1,a2,a3,hz⟩,hl,r⟩
 | _=>cases e
theorem wO:Bi1 X (.builtin "abs") .abs:=fun z u x d I h e=>by
 cases x with
 | int i=>cases e;obtain ⟨t,rfl⟩:=h;exact call_abs_int fun u tk=>.tok fun _ _ _=>⟨_,rfl⟩
 | _=>cases e
theorem wS:Bi1 X (.type "str") .str:=fun z u x d I h e=>by
 cases x with
 | int i=>obtain ⟨hz,rfl⟩:=aN (show (if i.natAbs.log2<1920 then some (D.str (ϧ (toString i))) else none)=some d from e);obtain ⟨t,rfl⟩:=h;exact PySem.P.str_of_int hz (.tok fun _ _ _=>⟨_,rfl⟩)
 | _=>cases e
theorem wQ:Bi1 X (.type "int") .int:=fun z u x d I h e=>by
 cases x with
 | int i=>cases e;obtain ⟨t,rfl⟩:=h;exact call_int_int (.tok fun _ _ _=>⟨_,rfl⟩)
 | bl i=>cases e;cases (show u=ϥ i from h);exact call_int_bool (.tok fun _ _ _=>⟨_,rfl⟩)
 | str y=>
   obtain ⟨hz,e⟩:y.length≤640∧(FZ y).map D.int=some d:=by
    unfold gU at e;dsimp only at e;split at e
    ·rename_i c;exact ⟨c,e⟩
    ·cases e
   obtain ⟨n,q,rfl⟩:=ω.mp e
   obtain ⟨t,rfl⟩:=h
   exact PySem.W.KIN.call_text q hz (.tok fun _ _ _=>⟨_,rfl⟩)
 | _=>cases e
theorem kb:∀ {l ns vs},dE l=some ns→RDs W ρ G l vs→D9 vs ns
 | [],ns,vs,e,r=>by cases e;cases (show vs = [] from r);exact .nil
 | d :: l,ns,vs,e,r=>by
   cases d with
   | int b=>
     obtain ⟨cs,q,rfl⟩:=ω.mp (show (dE l).map (b :: ·)=some ns from e)
     obtain ⟨v,r',rfl,⟨t,rfl⟩,tl⟩:=r
     exact .cons b t (kb q tl)
   | _=>cases e
def Bi2 (X:Cx) (f:ζ) (b:Bi):Prop:=∀ z u v x y d,Rep X z→CR X.W z x u→CR X.W z y v→wN b x y=some d→Α X.M X.A (call f [u,v]) (Dn X z d) NoE z.s
def tyN:Bi→String
 | .isTup=>"tuple" | .isStr=>"str" | .isBool=>"bool" | .isInt=>"int" | .isDic=>"dict" | _=>"list"
theorem z9 (hb:b = .isTup∨b = .isStr∨b = .isBool∨b = .isInt∨b = .isLst∨b = .isDic) {u:ζ} (I:Rep X z) (h:CR X.W z x u) (e:gU b x=some d):Α X.M X.A (call (.builtin "isinstance") [u,.type (tyN b)]) (Dn X z d) NoE z.s:=by
 have kin:X.K.In z.s.heap:=I.md.kin.keeps fun b o e=>I.gh _ _ (I.bs b o e)
 have go:∀ {tn:String},gU b x=(Fz [] (.type tn) (.type (tyN b))).map D.bl→(∀ v,Fz [] (.type tn) (.type (tyN b))=some v→(∀ n,Dn X z (.bl v) (.bool v) { z.s with toks:=n })→Α X.M X.A (call (.builtin "isinstance") [u,.type (tyN b)]) (Dn X z (.bl v)) NoE z.s)→Α X.M X.A (call (.builtin "isinstance") [u,.type (tyN b)]) (Dn X z d) NoE z.s:=fun q k=>by
  rw [q] at e
  obtain ⟨v,e1,rfl⟩:=ω.mp e
  exact k v e1 fun n=>.tok fun _ _ _=>rfl
 cases x with
 | non=>cases (show u=Value.none from h);exact go (tn:="NoneType") (by rcases hb with rfl | rfl | rfl | rfl | rfl | rfl <;> kernel_rfl) fun v q k=>ó PySem.W.kitx_none kin Ĩ q (fun z=>nomatch z) k
 | bl y=>cases (show u=ϥ y from h);exact go (tn:="bool") (by rcases hb with rfl | rfl | rfl | rfl | rfl | rfl <;> kernel_rfl) fun v q k=>ó PySem.W.kitx_bool kin Ĩ q (fun z=>nomatch z) k
 | int y=>obtain ⟨t,rfl⟩:=(show ∃ t,u=Ć y t from h);exact go (tn:="int") (by rcases hb with rfl | rfl | rfl | rfl | rfl | rfl <;> kernel_rfl) fun v q k=>ó PySem.W.kitx_int kin Ĩ q (fun z=>nomatch z) k
 | str y=>obtain ⟨t,rfl⟩:=(show ∃ t,u=Value.str y t from h);exact go (tn:="str") (by rcases hb with rfl | rfl | rfl | rfl | rfl | rfl <;> kernel_rfl) fun v q k=>ó PySem.W.kitx_str kin Ĩ q (fun z=>nomatch z) k
 | tup l=>obtain ⟨a,o,vs,rfl,e1,t,r⟩:=h;exact go (tn:="tuple") (by rcases hb with rfl | rfl | rfl | rfl | rfl | rfl <;> kernel_rfl) fun v q k=>ó PySem.W.kitx_tuple kin ⟨o,I.gh _ _ e1,t.1⟩ q (fun z=>nomatch z) k
 | lst l=>obtain ⟨a,o,vs,rfl,e1,⟨⟨n,rfl⟩,_⟩,r⟩:=h;exact go (tn:="list") (by rcases hb with rfl | rfl | rfl | rfl | rfl | rfl <;> kernel_rfl) fun v q k=>ó PySem.W.kitx_list kin ⟨_,e1,rfl⟩ q (fun z=>nomatch z) k
 | dic ks l=>obtain ⟨a,o,vs,rfl,m,e1,⟨_,_,c,_⟩,hl,r⟩:=h;exact go (tn:="dict") (by rcases hb with rfl | rfl | rfl | rfl | rfl | rfl <;> kernel_rfl) fun v q k=>ó PySem.W.kitx_dict kin ⟨o,e1,c.1⟩ q (fun z=>nomatch z) k
 | _=>rcases hb with rfl | rfl | rfl | rfl | rfl | rfl <;> cases e
end
end L2.Ev
end
section
namespace L2.Ev
def toB (d:D) (s:Sta):Out Bool:=match d with | .bl b=>.ok b s | _=>.bad
def RT (_:Z) (b c:Bool):Prop:=c=b
def RVs (W:Wd) (br:Bool):E→Z→List D→List ζ→Prop
 | .cons a r,z,d :: ds,u :: us=>RV W br a z d u∧RVs W br r z ds us
 | .nil,_,[],[]=>True
 | _,_,_,_=>False
def LE (X:Cx) (e:Κ) (c:E):Prop:=∀ br,Jg X (eval e X.env) (X.ev br c) (RV X.W br c)
def LF (X:Cx) (e:Κ) (c:E):Prop:=∀ z,Rep X z→X.ev false c z.t≠.bad→Wp X (eval e X.env) z (X.ev false c z.t) (FV X z)
def LT (X:Cx) (e:Κ) (c:E):Prop:=Jg X (GF e X.env (eval e X.env)) (fun t=>(X.ev true c t).bind toB) RT
def LW (X:Cx) (e:Κ) (c:E):Prop:=∀ wh,Jg X (GF e X.env wh) (fun t=>(X.ev true c t).bind toB) RT
def LA (X:Cx) (es:List Κ) (c:E):Prop:=∀ br pos,Jg X (spliced (ϻ pos (Ε es X.env))) (X.evs br c) (RVs X.W br c)
theorem au (x:Out α) (f:α→Sta→Out β) (g:β→Sta→Out γ):(x.bind f).bind g=x.bind fun a s=>(f a s).bind g:=by cases x <;> rfl
theorem BQ (h:RB X.W z (.bl b) u) (I:Rep X z):u = .bool b:=(h.cr0 I:RD X.W z.ρ z.G (.bl b) u)
section
variable {X:Cx} {z z0 z1:Z} {br:Bool}
theorem Rep.bk (I:HR X z):∀ b o,X.base.get? b=some o→z.s.heap.get? b=some o:=fun b o e=>I.gh _ _ (I.bs b o e)
theorem HR.kin (I:HR X z):X.K.In z.s.heap:=I.md.kin.keeps (Rep.bk I)
theorem bU {i:Nat} {x:ν} {Q:ζ→ξ→Prop} {E:ζ→ξ→Prop} (I:Rep X z) (hN:X.N[i]? = some x) (hv:Vis X.env.scope x) (e:z.σ[i]? = some (some u)) (q:Q u z.s) (hd:(x == ("__debug__":ν))=false) (hc:(x == ("__classdict__":ν))=false):Α X.M X.A (eval (.Name x pos) X.env) Q E z.s:=by
 obtain ⟨m,hn,hl⟩:=I.lo
 rcases hl i x u hN e hv with ⟨hk,hm⟩ | ⟨hk,c,hc',hcell⟩
 ·exact Gv (wpAny_loadName_local I.ok.kd hk hn hm q) hd
 ·rcases hk with hk | hk
  ·exact Gv (wpAny_loadName_cell I.ok.kd hk hc' hcell q) hd
  ·exact Gv (wpAny_loadName_free I.ok.kd hk hc' hcell q hc) hd
theorem Rep.slot {i:Nat} {d:D} (I:Rep X z) (e:z.t.env[i]? = some (some d)):∃ u,z.σ[i]? = some (some u)∧RB X.W z d u:=by
 by_cases m:i∈z.t.ow
 ·obtain ⟨d',a,o,h1,h2,_⟩:=I.eo i m
  exact ⟨_,h2,.inr ⟨i,m,h2,e⟩⟩
 ·obtain ⟨u,q,r⟩:=I.en i d m e
  exact ⟨u,q,.inl r⟩
theorem ye {i:Nat} {x:ν} (hN:X.N[i]? = some x) (hv:Vis X.env.scope x) (hd:(x == ("__debug__":ν))=false) (hc:(x == ("__classdict__":ν))=false):LE X (.Name x pos) (.v i):=fun br z I nb=>by
 have en:∃ d,z.t.env[i]? = some (some d):=by
  cases q:z.t.env[i]? with
  | none=>exact ZX (show X.ev br (.v i) z.t = .bad by show (match z.t.env[i]? with | some (some d)=>Out.ok d (if br then z.t else un z.t i) | _=>.bad)=_;rw [q]) nb
  | some o=>cases o with
    | none=>exact ZX (show X.ev br (.v i) z.t = .bad by show (match z.t.env[i]? with | some (some d)=>Out.ok d (if br then z.t else un z.t i) | _=>.bad)=_;rw [q]) nb
    | some d=>exact ⟨d,rfl⟩
 obtain ⟨d,q⟩:=en
 have e:X.ev br (.v i) z.t = .ok d (if br then z.t else un z.t i):=by show (match z.t.env[i]? with | some (some d)=>Out.ok d (if br then z.t else un z.t i) | _=>.bad)=_;rw [q]
 obtain ⟨u,q1,r⟩:=I.slot q
 rw [e]
 refine bU I hN hv q1 ?_ hd hc
 cases br with
 | true=>
   refine ⟨z,d,rfl,rfl,.refl,I,?_⟩
   by_cases m:i∈z.t.ow
   ·exact .inr ⟨rfl,i,rfl,m,q1,q⟩
   ·obtain ⟨u',q2,r2⟩:=I.en i d m q
    rw [q1] at q2;cases q2;exact .inl r2
 | false=>
   obtain ⟨I2,x2⟩:=I.rel (fun j=>j != i)
   refine ⟨z.rel fun j=>j != i,d,rfl,rfl,x2,I2,?_⟩
   obtain ⟨u',q2,r2⟩:=I2.en i d (fun m=>by simp [Z.rel] at m) q
   rw [show z.σ[i]? = some (some u') from q2] at q1;cases q1;exact .inl r2
theorem t9 (h:∀ z,Α X.M X.A (eval e X.env) (Dn X z d) NoE z.s):LE X e (.c d):=fun br z I nb=>Τ (h z) (fun _ _ k=>k.pe I) fun _ _ z=>z.elim
theorem vS:LE X (.Constant .none j pos) (.c .non):=t9 fun _=>ś (.tok fun _ _ _=>rfl)
theorem Aw:LE X (.Constant (.bool b) j pos) (.c (.bl b)):=t9 fun _=>Constant_bool (.tok fun _ _ _=>rfl)
theorem vR:LE X (.Constant (.int i) j pos) (.c (.int i)):=t9 fun _=>Gw (.tok fun _ _ _=>⟨_,rfl⟩)
theorem vT:LE X (.Constant (.str x) j pos) (.c (.str x)):=t9 fun _=>à (.tok fun _ _ _=>⟨_,rfl⟩)
def Gl (X:Cx) (x:ν):Prop:=X.env.kindOf x=some .globalImplicit
theorem bz {Q:ζ→ξ→Prop} {E:ζ→ξ→Prop} (I:Rep X z) (hg:Gl X x) (hm:X.mg x=some u) (h:Q u z.s) (hd:(x == ("__debug__":ν))=false):Α X.M X.A (eval (.Name x pos) X.env) Q E z.s:=
 E9 I.ok.kd hg (Calls.loadGlobal_global (by rw [I.ok.gl];exact I.md.glob.keeps (Rep.bk I.toHR)) hm h) hd
theorem xQ {Q:ζ→ξ→Prop} {E:ζ→ξ→Prop} (I:Rep X z) (hg:Gl X x) (hm:X.mg x=none) (hv:Ė x=some u) (h:Q u z.s) (hn:x≠"__name__") (hd:(x == ("__debug__":ν))=false):Α X.M X.A (eval (.Name x pos) X.env) Q E z.s:=by
 obtain ⟨mb,h1,h2⟩:=I.md.blt
 exact E9 I.ok.kd hg (Calls.loadGlobal_builtin (by rw [I.ok.gl];exact I.md.glob.keeps (Rep.bk I.toHR)) hm (by rw [I.ok.bl];exact h1.keeps (Rep.bk I.toHR)) ((h2 x hn).trans hv) h) hd
def aW (K:χ):L2.Bk.Dk→ζ→Bool
 | .str x,v=>(match v with | .str y _=>decide (y=x) | _=>false)
 | .int i,v=>(match v with | .int j _=>decide (j=i) | _=>false)
 | .bl b,v=>(match v with | .bool c=>decide (c=b) | _=>false)
 | .non,v=>(match v with | .none=>true | _=>false)
 | .tup ds,v=>(match v with
   | .ref a=>(match K.lookup a with
     | some o=>o.cls == .type "tuple" && o.dict.isNone && (match o.data with | .seq its _=>decide (its.size≤1000) && lookDs K ds its.toList | _=>false)
     | none=>false)
   | _=>false)
where lookDs (K:χ):List L2.Bk.Dk→List ζ→Bool
 | [],vs=>vs.isEmpty
 | d :: ds,vs=>(match vs with | v :: r=>aW K d v && lookDs K ds r | []=>false)
mutual
theorem rN {K:χ} {G:Hp} (k:∀ a o,K.lookup a=some o→G a=some o):∀ d v,aW K d v=true→RD W ρ G (toD d) v
 | .str x,v,h=>by cases v <;> simp only [aW] at h <;> first | cases h | exact ⟨_,by rw [of_decide_eq_true h]⟩
 | .int x,v,h=>by cases v <;> simp only [aW] at h <;> first | cases h | exact ⟨_,by rw [of_decide_eq_true h]⟩
 | .bl x,v,h=>by cases v <;> simp only [aW] at h <;> first | cases h | exact (by rw [of_decide_eq_true h];rfl)
 | .non,v,h=>by cases v <;> simp only [aW] at h <;> first | exact (rfl:RD W ρ G .non .none) | cases h
 | .tup ds,v,h=>by
   cases v with
   | ref a=>
     simp only [aW] at h
     cases q:K.lookup a with
     | none=>rw [q] at h;cases h
     | some o=>
       rw [q] at h
       dsimp only at h
       rw [Υ] at h
       rw [Υ] at h
       obtain ⟨⟨h1,h3⟩,h2⟩:=h
       cases qd:o.data with
       | seq its n=>
         rw [qd] at h2
         dsimp only at h2
         rw [Υ] at h2
         have hz:its.size≤1000:=of_decide_eq_true h2.1
         exact ⟨a,o,its.toList,rfl,k a o q,⟨by simpa using h1,⟨n,by simpa using qd⟩,(by rw [ET,Ą];omega),by simpa using h3⟩,mS k ds _ h2.2⟩
       | _=>rw [qd] at h2;cases h2
   | _=>simp [aW] at h
theorem mS {K:χ} {G:Hp} (k:∀ a o,K.lookup a=some o→G a=some o):∀ ds vs,aW.lookDs K ds vs=true→RDs W ρ G (toD.toDs ds) vs
 | [],vs,h=>by cases vs with
   | nil=>exact rfl
   | cons _ _=>simp [aW.lookDs] at h
 | d :: ds,vs,h=>by cases vs with
   | nil=>simp [aW.lookDs] at h
   | cons v r=>
     simp only [aW.lookDs,Υ] at h
     exact .cons (rN k d v h.1) (mS k ds r h.2)
end
theorem HR.top (I:HR X z) (h:aW X.K d u=true):RD X.W z.ρ z.G (toD d) u:=rN (fun a o e=>I.bs a o (I.md.kin a o e)) d u h
theorem C3 {j:Nat} (hg:Gl X x) (hm:X.mg x=some u) (hd:(x == ("__debug__":ν))=false) (e:X.Γ.gl[j]? = some d) (h:aW X.K d u=true):LE X (.Name x pos) (.g j):=fun br z I nb=>by
 have q:X.ev br (.g j) z.t = .ok (toD d) z.t:=by show Out.of z.t (X.Γ.gl[j]?.map toD)=_;rw [e];rfl
 rw [q]
 exact bz I hg hm ⟨z,toD d,rfl,rfl,.refl,I,.of (I.toHR.top h)⟩ hd
theorem Bb {o:Op} (ho:Op2 X (Ł op) (opD o)) (ha:LE X ea a) (hb:LE X eb b):LE X (.BinOp ea op eb pos) (.op o a b):=fun br z I nb=>
 wpAny_BinOp ((ha true).go .refl I rfl nb fun z1 x u y1 x1 I1 r1 e1=>(hb true).go x1 I1 e1 nb fun z2 y v y2 x2 I2 r2 e2=>cv x2 I2 e2 nb fun d q=>ho z2 u v _ _ d I2 ((r1.rb.st y2 I2).cr I2) (r2.rb.cr I2) q)
theorem xV {o:Op} (ho:Op2 X (Ú op) (opD o)) (ha:LE X ea a) (hb:LE X eb b) (hm:ð op eb=false):LE X (.Compare ea [op] [eb] pos) (.op o a b):=fun br z I nb=>
 ž ((ha true).go .refl I rfl nb fun z1 x u y1 x1 I1 r1 e1=>(hb true).go x1 I1 e1 nb fun z2 y v y2 x2 I2 r2 e2=>cv x2 I2 e2 nb fun d q=>ho z2 u v _ _ d I2 ((r1.rb.st y2 I2).cr I2) (r2.rb.cr I2) q) hm
theorem Dn.tru {o:Out Bool} {s':ξ} (x:Ee X z0 z) (I:Rep X z) (e:o=(Out.ok d z.t).bind toB) (nb:o≠.bad) (h:Dn X z d u s'):Α X.M X.A (truthy u) (Pe X z0 o RT) (Px X z0 o) s':=by
 cases d with
 | bl b=>
   cases (show u=ϥ b from h.2)
   exact Ϸ ⟨z.up s',b,rfl,e,x.trans (bY I.gh h.1).ee,I.grow (bY I.gh h.1),rfl⟩
 | _=>exact ZX e nb
theorem yx {o:Op} (ho:Op2 X (Ú op) (opD o)) (ha:LE X ea a) (hb:LE X eb b) (hm:ð op eb=false):LT X (.Compare ea [op] [eb] pos) (.op o a b):=fun z I nb=>
 ĝ ((ha true).go .refl I (au ..) nb fun z1 x u y1 x1 I1 r1 e1=>(hb true).go x1 I1 (e1.trans (au ..)) nb fun z2 y v y2 x2 I2 r2 e2=>by
  cases q:opD o (look z2.t.st x) (look z2.t.st y) with
  | none=>rw [q] at e2;exact ZX e2 nb
  | some d=>rw [q] at e2;exact Τ (ho z2 u v _ _ d I2 ((r1.rb.st y2 I2).cr I2) (r2.rb.cr I2) q) (fun c s' k=>k.tru x2 I2 e2 nb) fun _ _ z=>z.elim) hm
theorem jj (I:Rep X z) (h:RB X.W z d u):(u == Value.none)=jT d:=by
 rcases h with h | ⟨i,m,e1,e2⟩
 ·cases d with
  | non=>cases (show u=_ from h);rfl
  | bl b=>cases (show u=_ from h);rfl
  | int b=>obtain ⟨t,rfl⟩:=h;rfl
  | str b=>obtain ⟨t,rfl⟩:=h;rfl
  | tup l=>obtain ⟨a,_,_,rfl,_⟩:=h;rfl
  | lst l=>obtain ⟨a,_,_,rfl,_⟩:=h;rfl
  | dic k l=>obtain ⟨a,_,_,rfl,_⟩:=h;rfl
  | ins c l=>obtain ⟨a,_,_,rfl,_⟩:=h;rfl
  | ref n=>obtain ⟨a,_,rfl⟩:=h;rfl
 ·obtain ⟨d',a,o,h1,h2,h3,_⟩:=I.eo i m
  rw [e1] at h2;cases h2
  rw [e2] at h1;cases h1
  cases d <;> first | rfl | cases h3
theorem dh (b:Bool) {z:Z}:Dn X z (.bl b) (.bool b) z.s:=.tok (n:=z.s.toks) fun _ _ _=>rfl
theorem xY (ha:LE X ea a) (h1:ð .Is (.Constant .none j pos')=false):LE X (.Compare ea [.Is] [.Constant .none j pos'] pos) (.isN a):=fun br z I nb=>
 ž ((ha true).go .refl I rfl nb fun z1 x u y1 x1 I1 r1 e1=>ś (is_none_gen (by rw [jj I1 r1.rb];exact (dh _).at x1 I1 e1))) h1
theorem ud (ha:LE X ea a) (h1:ð .IsNot (.Constant .none j pos')=false):LE X (.Compare ea [.IsNot] [.Constant .none j pos'] pos) (.isNN a):=fun br z I nb=>
 ž ((ha true).go .refl I rfl nb fun z1 x u y1 x1 I1 r1 e1=>ś (isnot_none_gen (by rw [jj I1 r1.rb];exact (dh _).at x1 I1 e1))) h1
theorem yy (ha:LE X ea a) (h1:ð .Is (.Constant .none j pos')=false):LT X (.Compare ea [.Is] [.Constant .none j pos'] pos) (.isN a):=fun z I nb=>
 ĝ ((ha true).go .refl I (au ..) nb fun z1 x u y1 x1 I1 r1 e1=>ś (is_none_gen (by rw [jj I1 r1.rb];exact (dh _).tru x1 I1 e1 nb))) h1
theorem uJ (ha:LE X ea a) (h1:ð .IsNot (.Constant .none j pos')=false):LT X (.Compare ea [.IsNot] [.Constant .none j pos'] pos) (.isNN a):=fun z I nb=>
 ĝ ((ha true).go .refl I (au ..) nb fun z1 x u y1 x1 I1 r1 e1=>ś (isnot_none_gen (by rw [jj I1 r1.rb];exact (dh _).tru x1 I1 e1 nb))) h1
theorem ya (ha:LE X ea a):LE X (.UnaryOp .USub ea pos) (.neg a):=fun br z I nb=>
 UnaryOp_ ((ha true).go .refl I rfl nb fun z1 x u y1 x1 I1 r1 e1=>by
  cases x with
  | int i=>obtain ⟨t,rfl⟩:=(r1.rb.cr0 I1:CR X.W z1 (.int i) u);exact neg_int ((Dn.tok fun _ _ _=>⟨_,rfl⟩:Dn X z1 (.int (-i)) _ _).at x1 I1 e1)
  | _=>exact ZX e1 nb)
theorem yc (ha:LE X ea a):LE X (.UnaryOp .Not ea pos) (.not a):=fun br z I nb=>
 UnaryOp_ ((ha true).go .refl I rfl nb fun z1 x u y1 x1 I1 r1 e1=>by
  cases x with
  | bl b=>cases BQ r1.rb I1;exact not_of (Ϸ ((dh _).at x1 I1 e1))
  | _=>exact ZX e1 nb)
theorem xR (ha:LE X ea a) (hb:LE X (.BoolOp .And (eb :: r) pos) b):LE X (.BoolOp .And (ea :: eb :: r) pos) (.and a b):=fun br z I nb=>
 BoolOp_and ((ha false).go .refl I rfl nb fun z1 x u y1 x1 I1 r1 e1=>by
  cases x with
  | bl c=>
    cases (show u=ϥ c from r1.rd)
    refine Ϸ ?_
    cases c with
    | true=>exact Τ ((hb false).at x1 I1 e1 nb) (fun u s' ⟨z',d,e,q,y,I',r⟩=>⟨z',d,e,q,y,I',.of r.rd⟩) fun _ _ h=>h
    | false=>exact (dh _).at x1 I1 e1
  | _=>exact ZX e1 nb)
theorem we (h:LW X e c):LT X e c:=h _
theorem uM (ha:LT X ea a):LW X (.BoolOp .And [ea] pos) a:=fun wh z I nb=>isTrue_and (thn (ha z I nb) fun c s1 e=>by
 cases c with
 | true=>exact isTrue_and_nil e
 | false=>exact e)
theorem yB (ha:LT X ea a):LW X (.BoolOp .Or [ea] pos) a:=fun wh z I nb=>isTrue_or (thn (ha z I nb) fun c s1 e=>by
 cases c with
 | false=>exact isTrue_or_nil e
 | true=>exact e)
theorem RT.pe (x:Ee X z0 z) (I:Rep X z) (e:o = .ok b z.t):Pe X z0 o RT b z.s:=⟨z,b,rfl,e,x,I,rfl⟩
theorem tB (x:Out D) (f:Bool→Sta→Out β):(x.bind toB).bind f=x.bind fun d s=>match d with | .bl b=>f b s | _=>.bad:=by
 cases x with
 | ok d s=>cases d <;> rfl
 | _=>rfl
theorem yA (ha:LT X ea a) (hb:LW X (.BoolOp .And (eb :: r) pos) b):LW X (.BoolOp .And (ea :: eb :: r) pos) (.tand a b):=fun wh z I nb=>by
 have e:(X.ev true (.tand a b) z.t).bind toB=((X.ev true a z.t).bind toB).bind fun c s=>if c then (X.ev true b s).bind toB else .ok false s:=by
  rw [tB];show Out.bind (Out.bind _ _) _=_;rw [au];congr 1;funext d s
  cases d <;> first | rfl | (rename_i c;cases c <;> rfl)
 refine isTrue_and (ha.go .refl I e nb fun z1 c u y1 x1 I1 r1 e1=>?_)
 cases (show u=c from r1)
 cases c with
 | true=>exact (hb wh).at x1 I1 e1 nb
 | false=>exact RT.pe x1 I1 e1
theorem Bh (ha:LT X ea a) (hb:LW X (.BoolOp .Or (eb :: r) pos) b):LW X (.BoolOp .Or (ea :: eb :: r) pos) (.tor a b):=fun wh z I nb=>by
 have e:(X.ev true (.tor a b) z.t).bind toB=((X.ev true a z.t).bind toB).bind fun c s=>if c then .ok true s else (X.ev true b s).bind toB:=by
  rw [tB];show Out.bind (Out.bind _ _) _=_;rw [au];congr 1;funext d s
  cases d <;> first | rfl | (rename_i c;cases c <;> rfl)
 refine isTrue_or (ha.go .refl I e nb fun z1 c u y1 x1 I1 r1 e1=>?_)
 cases (show u=c from r1)
 cases c with
 | false=>exact (hb wh).at x1 I1 e1 nb
 | true=>exact RT.pe x1 I1 e1
theorem yz (ha:LT X ea a):LT X (.UnaryOp .Not ea pos) (.tnot a):=fun z I nb=>by
 have e:(X.ev true (.tnot a) z.t).bind toB=((X.ev true a z.t).bind toB).bind fun c s=>.ok (!c) s:=by
  rw [tB];show Out.bind (Out.bind _ _) _=_;rw [au];congr 1;funext d s
  cases d <;> rfl
 exact isTrue_not (ha.go .refl I e nb fun z1 c u y1 x1 I1 r1 e1=>by
  cases (show u=c from r1)
  exact RT.pe x1 I1 e1)
theorem xZ (hc:LT X ec c) (ha:LE X ea a) (hb:LE X eb b):LE X (.IfExp ec ea eb pos) (.ite c a b):=fun br z I nb=>by
 have e:X.ev br (.ite c a b) z.t=((X.ev true c z.t).bind toB).bind fun c s=>if c then X.ev false a s else X.ev false b s:=by
  rw [tB];show Out.bind _ _=_;congr 1;funext d s
  cases d <;> first | rfl | (rename_i c;cases c <;> rfl)
 refine wpAny_IfExp (hc.go .refl I e nb fun z1 c u y1 x1 I1 r1 e1=>?_)
 cases (show u=c from r1)
 cases c with
 | true=>exact Τ ((ha false).at x1 I1 e1 nb) (fun u s' ⟨z',d,e,q,y,I',r⟩=>⟨z',d,e,q,y,I',.of r.rd⟩) fun _ _ h=>h
 | false=>exact Τ ((hb false).at x1 I1 e1 nb) (fun u s' ⟨z',d,e,q,y,I',r⟩=>⟨z',d,e,q,y,I',.of r.rd⟩) fun _ _ h=>h
theorem B3 {d:D} {u:ζ} (I:Rep X z) (h:CR X.W z d u) (e:vy d=some b):Α X.M X.A (truthy u) (fun c s'=>c=b∧Gr z.s s') NoE z.s:=by
 have hl:=jd
 cases d with
 | non=>cases e;cases (show u=_ from h);exact truthy_none ⟨rfl,.refl⟩
 | bl c=>cases e;cases (show u=_ from h);exact Ϸ ⟨rfl,.refl⟩
 | int i=>cases e;obtain ⟨t,rfl⟩:=h;exact PySem.P.truthy_int ⟨rfl,.refl⟩
 | tup l=>
   cases e;obtain ⟨a,o,vs,rfl,e1,t,r⟩:=h;have:=t.2.2
   refine truthy_tuple (tpt (I.gh _ _ e1) t) (by rw [Λ];omega) ⟨?_,.tok⟩
   have:=r.len;cases l <;> cases vs <;> first | rfl | cases this
 | lst l=>
   cases e;obtain ⟨a,o,vs,rfl,e1,t,r⟩:=h;have:=t.2
   refine wpAny_truthy_list (lsl e1 t) (by rw [Λ];omega) ⟨?_,.tok⟩
   have:=r.len;cases l <;> cases vs <;> first | rfl | cases this
 | _=>cases e
theorem Bg (ha:LE X ea a) (he:∀ whole,GF ea X.env whole=(do let v ← whole;Œ ea.pos;holding [v] (truthy v))):LT X ea (.tv a):=fun z I nb=>
 isTrue_plain ((ha true).go .refl I (au ..) nb fun z1 x u y1 x1 I1 r1 e1=>by
  cases q:vy (look z1.t.st x) with
  | none=>rw [q] at e1;exact ZX e1 nb
  | some b=>
    rw [q] at e1
    refine Τ (B3 I1 (r1.rb.cr I1) q) (fun c s' ⟨h,g⟩=>?_) fun _ _ z=>z.elim
    subst h
    exact ⟨z1.up s',c,rfl,e1,x1.trans (bY I1.gh g).ee,I1.grow (bY I1.gh g),rfl⟩) (he _)
theorem qA {o p:Op} (ho:Op2 X (Ú op) (opD o)) (hp:Op2 X (Ú op') (opD p)) (ha:LE X ea a) (hb:LE X eb b) (hc:LE X ec c) (hm:Hg [op,op'] [eb,ec]=false):LE X (.Compare ea [op,op'] [eb,ec] pos) (.chain o p a b c):=fun br z I nb=>
 Compare_chain ((ha true).go .refl I rfl nb fun z1 x u y1 x1 I1 r1 e1=>chain_link ((hb true).go x1 I1 e1 nb fun z2 y v y2 x2 I2 r2 e2=>by
  cases q:opD o (look z2.t.st x) (look z2.t.st y) with
  | none=>rw [q] at e2;exact ZX e2 nb
  | some d=>
    rw [q] at e2
    refine Τ (ho z2 u v _ _ d I2 ((r1.rb.st y2 I2).cr I2) (r2.rb.cr I2) q) (fun w s' k=>?_) fun _ _ z=>z.elim
    cases d with
    | bl t=>
      cases (show w=ϥ t from k.2)
      have g:=bY I2.gh k.1
      refine Ϸ ?_
      cases t with
      | false=>exact ite_ff (k.at x2 I2 e2)
      | true=>exact ite_tt (chain_last ((hc true).go (x2.trans g.ee) (I2.grow g) e2 nb fun z4 w' v' y4 x4 I4 r4 e4=>cv x4 I4 e4 nb fun d q=>hp z4 v v' _ _ d I4 (((r2.rb.st g.ee (I2.grow g)).st y4 I4).cr I4) (r4.rb.cr I4) q))
    | _=>exact ZX e2 nb)) hm
end
section
variable {X:Cx} {z z0 z1:Z} {br:Bool}
def iN (b:Κ):Prop:=∀ o i,subscripted b false o i=operate [o,i] (DZ o i)
theorem A8 (ha:LE X ea a) (hb:LE X eb b) (hs:iN eb):LE X (.Subscript ea eb pos) (.ix a b):=fun br z I nb=>
 GJ ((ha true).go .refl I rfl nb fun z1 x u y1 x1 I1 r1 e1=>(hb true).go x1 I1 e1 nb fun z2 y v y2 x2 I2 r2 e2=>cv x2 I2 e2 nb fun d q=>by
  obtain ⟨T,id,h1,h2,h3⟩:=C1 I2 ((r1.rb.st y2 I2).cr I2) (r2.rb.cr0 I2) q
  exact tail_any h2 h1 h3 (hs _ _))
def Cx.prt (X:Cx) (c:E) (s:Sta):Out (Option Int):=if bJ c then .ok none s else (X.ev true c s).bind toI
def LO (X:Cx) (e:Option Κ) (c:E):Prop:=Jg X (evalPart e X.env) (X.prt c) fun _ o u=>D4 u o
theorem uw:LO X none .nil:=fun z I nb=>by rw [evalPart_none];exact θ ⟨z,none,rfl,rfl,.refl,I,.none⟩
theorem ux (n:bJ a=false) (ha:LE X ea a):LO X (some ea) a:=fun z I nb=>by
 rw [evalPart_some]
 have e:X.prt a z.t=(X.ev true a z.t).bind toI:=by unfold Cx.prt;rw [n];rfl
 refine (ha true).go .refl I e nb fun z1 x u y1 x1 I1 r1 e1=>?_
 cases x with
 | int i=>obtain ⟨t,rfl⟩:=(r1.rb.cr0 I1:CR X.W z1 (.int i) u);exact ⟨z1,some i,rfl,e1,x1,I1,.int i t⟩
 | _=>exact ZX e1 nb
theorem CR.grow {s':ξ} (g:Grw z G' s'):∀ {d},CR W z d u→CR W { z with G:=G',s:=s' } d u
 | .lst _,⟨a,o,vs,e,q,t,r⟩=>⟨a,o,vs,e,g.gr.k _ _ q,t,r.mono (μ _) g.gg⟩
 | .dic _ _,⟨a,o,vs,e,m,q,t,l,r⟩=>⟨a,o,vs,e,m,g.gr.k _ _ q,t,l,r.mono (μ _) g.gg⟩
 | .non,h=>h
 | .bl _,h=>h
 | .int _,h=>h
 | .str _,h=>h
 | .tup _,h=>RD.mono (μ _) g.gg h
 | .ins _ _,h=>RD.mono (μ _) g.gg h
 | .ref _,h=>RD.mono (μ _) g.gg h
theorem Bc {lo hi:Option Κ} {pos p2:ϭ} (ha:LE X ea a) (hl:LO X lo l) (hh:LO X hi h):LE X (.Subscript ea (.Slice lo hi none p2) pos) (.sl a l h):=fun br z I nb=>
 GJ ((ha true).go (f:=fun x s=>(X.prt l s).bind fun l s=>(X.prt h s).bind fun h s=>.of s (slO (look s.st x) l h)) .refl I rfl nb fun z1 x u y1 x1 I1 r1 e1=>wpAny_Slice (hl.go x1 I1 e1 nb fun z2 lo' vl y2 x2 I2 r2 e2=>hh.go x2 I2 e2 nb fun z3 hi' vu y3 x3 I3 r3 e3=>by
  rw [evalPart_none]
  refine θ ?_
  have g:=ak (s':={ z3.s with heap:=z3.s.heap.push { cls:=.type "slice",data:=.fields #[vl,vu,.none] } }) I3.gh (.push (t:=z3.s.toks))
  have I4:=I3.grow g
  show Α X.M X.A (subscriptTail ea (.Slice lo hi none p2) u (.ref z3.s.heap.objs.size)) _ _ { z3.s with heap:=z3.s.heap.push { cls:=.type "slice",data:=.fields #[vl,vu,.none] } }
  refine cv (z:={ z3 with s:=_ }) (x3.trans g.ee) I4 e3 nb fun d q=>?_
  obtain ⟨T,id,h1,h2,h3⟩:=Dc I4 ((((r1.rb.st y2 I2).st y3 I3).cr I3).grow g) (H7 ..) r2 r3 q
  exact tail_any (ops:=[.ref z3.s.heap.objs.size,u]) h2 h1 h3 (by with_unfolding_all rfl)))
theorem RVs.ind {W:Wd} {br:Bool} {z:Z} {P:E→List D→List ζ→Prop} (hn:P .nil [] []) (hc:∀ a r d ds u us,RV W br a z d u→RVs W br r z ds us→P r ds us→P (.cons a r) (d :: ds) (u :: us)) (c:E):∀ ds us,RVs W br c z ds us→P c ds us:=by
 induction c with
 | nil=>
   intro ds us h
   cases ds with
   | nil=>cases us with
     | nil=>exact hn
     | cons _ _=>exact Ő h
   | cons _ _=>exact Ő h
 | cons a r _ ih=>
   intro ds us h
   cases ds with
   | nil=>exact Ő h
   | cons d ds=>cases us with
     | nil=>exact Ő h
     | cons u us=>exact hc a r d ds u us h.1 h.2 (ih ds us h.2)
 | _=>exact fun _ _ h=>Ő h
theorem RVs.rds {c ds us} (h:RVs W false c z ds us):RDs W z.ρ z.G ds us:=RVs.ind (P:=fun _ ds us=>RDs W z.ρ z.G ds us) rfl (fun _ _ _ _ _ _ h _ ih=>.cons h.rd ih) c ds us h
theorem qv:LA X [] .nil:=fun br pos z I nb=>Ξ ⟨z,[],rfl,rfl,.refl,I,trivial⟩
theorem mx (ha:LE X ea a) (hr:LA X er r) (hs:Ε (ea :: er) X.env=(false,eval ea X.env) :: Ε er X.env):LA X (ea :: er) (.cons a r):=fun br pos z I nb=>by
 rw [hs]
 show Α _ _ (spliced ((false,eval ea X.env) :: ϻ pos (Ε er X.env))) _ _ _
 exact Η ((ha br).go .refl I rfl nb fun z1 x u y1 x1 I1 r1 e1=>(hr br pos).go x1 I1 e1 nb fun z2 l us y2 x2 I2 r2 e2=>⟨z2,x :: l,rfl,e2,x2,I2,r1.st y2 I2,r2⟩)
theorem qE (h:LA X es c):LE X (.Tuple es x1 pos) (.tup c):=fun br z I nb=>
 wpAny_Tuple_spliced ((h false pos).go (f:=fun l s=>if l.length≤100000 then Out.ok (D.tup l) s else .bad) .refl I rfl nb fun z1 l us y1 x1 I1 r1 e1=>by
  by_cases c:l.length≤100000
  ·rw [ZZ c] at e1
   have hz:us.length≤Ϛ:=by rw [← r1.rds.len];exact big c
   exact ⟨hz,Dn.at x1 I1 e1 (.tupn (t:=z1.s.toks) I1 r1.rds hz)⟩
  ·rw [ZY c] at e1;exact ZX e1 nb)
theorem FV.less (x:Ee X z0 z1) (h:FV X z1 z d u):FV X z0 z d u:=let ⟨a,o,e,n,r⟩:=h;⟨a,o,e,x.st.no n,r⟩
theorem yg (h:LA X es c):LF X (.List es pos) (.lst c):=fun z I nb=>
 DI ((h false pos).go (f:=fun l s=>if l.length≤100000 then Out.ok (D.lst l) s else .bad) .refl I rfl nb fun z1 l us y1 x1 I1 r1 e1=>by
  by_cases c:l.length≤100000
  ·rw [ZZ c] at e1
   have hz:us.length≤Ϛ:=by rw [← r1.rds.len];exact big c
   obtain ⟨z2,d,q,q2,y,I2,fv⟩:=(Dw.lstn (X:=X) (t:=z1.s.toks) (n:=0) r1.rds hz).pe I1
   exact ⟨hz,z2,d,q,e1.trans q2,x1.trans y,I2,fv.less x1⟩
  ·rw [ZY c] at e1;exact ZX e1 nb)
theorem FV.rd (x:Ee X z0 z) (I:Rep X z) (h:FV X z0 z d u) (e:o = .ok d z.t):Pe X z0 o (RV X.W br c) u z.s:=by
 obtain ⟨a,ob,rfl,n,t,r,f,no⟩:=h
 obtain ⟨oa,ha⟩:=r.th.1
 have gg:Sub z.G fun b=>if b=a then some oa else z.G b:=fun b o q=>by
  dsimp only
  by_cases c:b=a
  ·subst c;rw [f.1] at q;cases q
  ·rw [ZY c];exact q
 refine ⟨{ z with G:=fun b=>if b=a then some oa else z.G b },d,rfl,e,⟨⟨x.st.pr,x.st.gg.trans gg,fun b o q=>?_,x.st.rn,x.st.th,x.st.sm,x.st.sl⟩,x.sg,x.en,x.ow⟩,I.grw rfl I.br (fun _ _ e _=>e) (fun _ o e=>⟨o.slots,e⟩) gg (fun b o q=>?_) fun b o q=>?_,.of (jn t r gg (by dsimp only;rw [ZZ rfl];exact ha.symm))⟩
 ·by_cases c:b=a
  ·subst c;exact .inr (.inl n)
  ·have q:(if b=a then some oa else z.G b)=some o:=q
   rw [ZY c] at q;exact x.st.gn b o q
 ·have q:(if b=a then some oa else z.G b)=some o:=q
  by_cases c:b=a
  ·subst c;rw [ZZ rfl] at q;cases q;exact ha
  ·rw [ZY c] at q;exact I.gh b o q
 ·have q:(if b=a then some oa else z.G b)=some o:=q
  by_cases c:b=a
  ·subst c;exact .inr ⟨f,no⟩
  ·rw [ZY c] at q;exact .inl q
theorem LF.le (h:LF X e c) (hb:∀ br,X.ev br c=X.ev false c):LE X e c:=fun br z I nb=>by
 rw [hb] at nb ⊢
 exact Τ (h z I nb) (fun u s' ⟨z',d,q,e,x,I',f⟩=>by subst q;exact f.rd x I' e) fun _ _ h=>h
theorem uk:LF X (.Dict [] [] pos) (.dic .nil):=fun z I nb=>Hd (Dw.pe I ⟨.push (t:=z.s.toks),_,.dic [] [],rfl,aB z,rfl,_,[],rfl,ZU.mpr (Æ I.sysm),ψ _ rfl,by
 obtain ⟨o,es,ep,h1,h2,h3,h4,h5,h6⟩:=ŷ (knd:=aR X.W.P X.W.w) z.s.heap
 rw [ψ _ rfl] at h1
 cases h1
 exact ⟨es,ep,h2,h3,h4,h5,h6,ϲ _⟩,rfl,rfl⟩)
theorem ev1 (f:List D→Sta→Out β):(X.evs br (.cons a .nil) t).bind f=(X.ev br a t).bind fun x s=>f [x] s:=by
 show ((X.ev br a t).bind fun x s=>Out.ok [x] s).bind f=_
 rw [au];rfl
theorem ev2 (f:List D→Sta→Out β):(X.evs br (.cons a (.cons b .nil)) t).bind f=(X.ev br a t).bind fun x s=>(X.ev br b s).bind fun y s=>f [x,y] s:=by
 show ((X.ev br a t).bind fun x s=>((X.ev br b s).bind fun y s=>Out.ok [y] s).bind fun l s=>Out.ok (x :: l) s).bind f=_
 rw [au];congr 1;funext x s;rw [au,au];rfl
def Blt (X:Cx) (x:ν) (u:ζ):Prop:=Gl X x∧X.mg x=none∧Ė x=some u∧x≠"__name__"∧(x == ("__debug__":ν))=false
theorem Blt.ld {Q:ζ→ξ→Prop} {E:ζ→ξ→Prop} (h:Blt X x u) (I:Rep X z) (q:Q u z.s):Α X.M X.A (eval (.Name x pos) X.env) Q E z.s:=xQ I h.1 h.2.1 h.2.2.1 q h.2.2.2.1 h.2.2.2.2
theorem bt {f:ζ} {Q:ζ→ξ→Prop} {E:ζ→ξ→Prop} (hf:(∃ id,f = .builtin id)∨∃ T,f = .type T) (hx:Blt X x f) (he:Ε (e :: er) X.env=(false,eval e X.env) :: Ε er X.env) (hpl:(ϻ pos (Ε er X.env)).any (·.1)=false) (I:Rep X z)
 (h:Α X.M X.A (spliced ((false,eval e X.env) :: ϻ pos (Ε er X.env))) (fun us s'=>Α X.M X.A (call f us) Q E s') E z.s):Α X.M X.A (eval (.Call (.Name x p) (e :: er) [] pos) X.env) Q E z.s:=by
 refine è (hx.ld I ?_)
 have h:Α X.M X.A (spliced (ϻ pos (Ε (e :: er) X.env))) (fun us s'=>Α X.M X.A (call f us) Q E s') E z.s:=by rw [he];exact h
 rcases hf with ⟨id,rfl⟩ | ⟨T,rfl⟩
 ·exact callWith_builtin1 h he hpl
 ·exact callWith_type1 h he hpl
abbrev FB (f:ζ):Prop:=(∃ id,f = .builtin id)∨∃ T,f = .type T
theorem xT {f:ζ} (hb:Bi1 X f b) (hf:FB f) (hx:Blt X x f) (ha:LE X ea a) (he:Ε [ea] X.env=(false,eval ea X.env) :: Ε [] X.env):LE X (.Call (.Name x p) [ea] [] pos) (.bi b (.cons a .nil)):=fun br z I nb=>
 bt hf hx he rfl I (Η ((ha true).go .refl I (ev1 fun l s=>Out.of s (biD b (l.map (look s.st)))) nb fun z1 x u y1 x1 I1 r1 e1=>Ξ (cv x1 I1 e1 nb fun d q=>hb z1 _ _ d I1 (r1.rb.cr I1) q)))
theorem yf {f:ζ} (hb:sN X f b) (hf:FB f) (hx:Blt X x f) (ha:LE X ea a) (he:Ε [ea] X.env=(false,eval ea X.env) :: Ε [] X.env):LF X (.Call (.Name x p) [ea] [] pos) (.bi b (.cons a .nil)):=fun z I nb=>
 bt hf hx he rfl I (Η ((ha true).go .refl I (ev1 fun l s=>Out.of s (biD b (l.map (look s.st)))) nb fun z1 x u y1 x1 I1 r1 e1=>Ξ (by
  cases q:gU b (look z1.t.st x) with
  | none=>exact ZX (e1.trans (show Out.of z1.t (gU b (look z1.t.st x)) = .bad by rw [q];rfl)) nb
  | some d=>
    refine Τ (hb z1 _ _ d I1 (r1.rb.cr I1) q) (fun v s' k=>?_) fun _ _ z=>z.elim
    obtain ⟨z2,d,q1,q2,y,I2,fv⟩:=k.pe I1
    exact ⟨z2,d,q1,(e1.trans (show Out.of z1.t (gU b (look z1.t.st x))=_ by rw [q];rfl)).trans q2,x1.trans y,I2,fv.less x1⟩)))
theorem xU {f:ζ} (hb:Bi2 X f b) (hf:FB f) (hx:Blt X x f) (ha:LE X ea a) (hc:LE X ec c) (he:Ε [ea,ec] X.env=(false,eval ea X.env) :: Ε [ec] X.env) (he2:Ε [ec] X.env=(false,eval ec X.env) :: Ε [] X.env):LE X (.Call (.Name x p) [ea,ec] [] pos) (.bi b (.cons a (.cons c .nil))):=fun br z I nb=>
 bt hf hx he (by rw [he2];rfl) I (by
  rw [he2]
  exact Η ((ha true).go .refl I (ev2 fun l s=>Out.of s (biD b (l.map (look s.st)))) nb fun z1 x u y1 x1 I1 r1 e1=>Η ((hc true).go x1 I1 e1 nb fun z2 y v y2 x2 I2 r2 e2=>Ξ (cv x2 I2 e2 nb fun d q=>hb z2 _ _ _ _ d I2 ((r1.rb.st y2 I2).cr I2) (r2.rb.cr I2) q))))
theorem A7 (hb:b = .isTup∨b = .isStr∨b = .isBool∨b = .isInt∨b = .isLst∨b = .isDic) (hx:Blt X "isinstance" (.builtin "isinstance")) (ht:Blt X x (.type (tyN b))) (ha:LE X ea a) (he:Ε [ea,.Name x q] X.env=(false,eval ea X.env) :: Ε [.Name x q] X.env):LE X (.Call (.Name "isinstance" p) [ea,.Name x q] [] pos) (.bi b (.cons a .nil)):=fun br z I nb=>
 bt (.inl ⟨_,rfl⟩) hx he rfl I (Η ((ha true).go .refl I (ev1 fun l s=>Out.of s (biD b (l.map (look s.st)))) nb fun z1 x u y1 x1 I1 r1 e1=>Η (ht.ld I1 (Ξ (cv x1 I1 e1 nb fun d q=>z9 hb I1 (r1.rb.cr I1) q)))))
structure eJ (K:χ) (C:Β):Prop where
 ga:Ρ K (.ref C) "__getattribute__" = some (some (.builtin "BaseException.__getattribute__"))
 gn:Ρ K (.ref C) "__getattr__" = some none
 cl:Ρ K (.ref C) "__class__" = some (some (.builtin "object.__class__"))
 sg:Ŵ K (.builtin "object.__class__") "__get__" = some (some (.builtin "getset_descriptor.__get__"))
 tk:Fj K (.builtin "object.__class__")=some true
 ob:Ϯ K C (.type "object")=some true
 be:Ϯ K C (.type "BaseException")=some true
 is:(ť K C).isSome=true
structure dC (X:Cx) (an:Nat→ν) (c:Nat) (k:Cl) (i:CI):Prop where
 ci:X.W.ci[c]? = some i
 cls:k.what≠2→Cls X.K i.ad
 na:∀ f∈i.nm,cz X.K i.ad f
 wh:X.W.what[c]? = some k.what
 nm:i.nm=k.at_.map an
 nd:i.nm.Nodup
 xc:k.what=2→eJ X.K i.ad∧Â X.K i.ad=true
theorem sH {names:List ν} {vs:List ζ} {f:ν} {v:ζ} (hn:names.Nodup) {j:Nat} (h1:names[j]? = some f) (h2:vs[j]? = some v):(names.zip vs).lookup f=some v:=by
 induction names generalizing vs j with
 | nil=>simp at h1
 | cons n r ih=>
   cases vs with
   | nil=>simp at h2
   | cons w vs=>
     show (match f == n with | true=>some w | false=>(r.zip vs).lookup f)=some v
     cases j with
     | zero=>simp at h1 h2;subst h1 h2;simp
     | succ j=>
       have h3:r[j]? = some f:=by simpa using h1
       have ne:f≠n:=fun z=>by subst z;exact (ϔ.mp hn).1 (φ h3)
       rw [show (f == n)=false by simpa using ne]
       exact ih (ϔ.mp hn).2 h3 (by simpa using h2)
theorem InO.objm {s:ξ} (h:InO s.heap.get? a dx C l):kM s.heap a dx C fun n=>l.lookup n:=let ⟨e,n,_,o,e2,es,ep,r⟩:=h;⟨e,⟨o,es,ep,e2,r⟩,n⟩
theorem iK:∀ {d v},RD W ρ G d v→ĵ v=true
 | .non,_,h=>by cases (show _=_ from h);rfl
 | .bl _,_,h=>by cases (show _=_ from h);rfl
 | .int _,_,⟨_,h⟩=>h ▸ rfl
 | .str _,_,⟨_,h⟩=>h ▸ rfl
 | .tup _,_,⟨_,_,_,h,_,_,_⟩=>h ▸ rfl
 | .lst _,_,⟨_,_,_,h,_,_,_⟩=>h ▸ rfl
 | .dic _ _,_,⟨_,_,_,h,_,_,_,_,_⟩=>h ▸ rfl
 | .ins _ _,_,⟨_,_,_,h,_,_,_,_⟩=>h ▸ rfl
 | .ref _,_,⟨_,_,h⟩=>h ▸ rfl
abbrev cm (X:Cx) (an:Nat→ν):Prop:=∀ (c:Nat) (k:Cl),X.Γ.cl[c]? = some k→∃ i,dC X an c k i
theorem jM (T:cm X an) {c f:Nat} {l:List D} {d2:D} (e:((X.Γ.cl[c]?).bind fun k=>l[k.at_.idxOf f]?)=some d2):∃ k i,∃ j:Nat,X.Γ.cl[c]? = some k∧dC X an c k i∧l[j]? = some d2∧(l.length≤i.nm.length→i.nm[j]? = some (an f)):=by
 obtain ⟨k,q,e⟩:=Ϗ.mp e
 obtain ⟨i,ok⟩:=T c k q
 refine ⟨k,i,k.at_.idxOf f,q,ok,e,fun hl=>?_⟩
 have h1:k.at_.idxOf f<l.length:=(ς.mp e).1
 have h2:k.at_.idxOf f<k.at_.length:=by rw [ok.nm,Ν] at hl;omega
 rw [ok.nm,ϋ,Θ h2]
 simp
theorem pR (T:cm X an) (I:Rep X z) {n f:Nat} {d:D} {p:Β×Β} (ea:z.ρ[n]? = some p) (e:kU X.Γ z.t.st (.ref n) f=some d):∃ C fs v,InO z.h p.1 p.2 C fs∧Cls X.K C∧cz X.K C (an f)∧fs.lookup (an f)=some v∧RD X.W z.ρ z.G d v:=by
 unfold kU at e
 dsimp only at e
 cases q:z.t.st[n]? with
 | none=>rw [q] at e;cases e
 | some o=>
   rw [q] at e
   cases o with
   | ins c l=>
     dsimp only at e
     obtain ⟨k,i',j,e1,ok,e2,e3⟩:=jM T e
     obtain ⟨i,vs,w1,w2,w3,w4,w5⟩:=I.ob n _ p q ea
     have e4:=ok.ci
     rw [w1] at e4;cases e4
     obtain ⟨v,ev,rv⟩:=w5.get e2
     have wz:k.what≠2:=by have:=ok.wh;rw [w2] at this;have e:=Ϧ this;omega
     exact ⟨i'.ad,_,v,w4,ok.cls wz,ok.na _ (φ (e3 w3)),sH ok.nd (e3 w3) ev,rv⟩
   | _=>cases e
theorem kZ {Q:ζ→ξ→Prop} {E:ζ→ξ→Prop} {A:ώ} (I:Rep X z) (h:InO z.h a dx C fs) (c:Cls X.K C) (n:cz X.K C f) (l:fs.lookup f=some v) (r:RD X.W z.ρ z.G d v) (q:Q v { z.s with toks:=z.s.toks+1 }):Α X.M A (E0 (.ref a) f b) Q E z.s:=
 tK I.toHR.kin (InO.objm h) (c.get f) c.hd n l (iK r) q
theorem xW (T:cm X an) (xr:∀ {z:Z} {a C:Β} {l:List (ν×ζ)} {f:ν} {v:ζ} {Q:ζ→ξ→Prop} {b:Bool},Rep X z→ExO z.h a C l→l≠[]→eJ X.K C→Â X.K C=true→Ρ X.K (.ref C) f=some none→l.lookup f=some v→ĵ v=true→Q v { z.s with toks:=z.s.toks+1 }→Α X.M X.A (E0 (.ref a) f b) Q NoE z.s)
 (ha:LE X ea a) (hb:Ĉ ea (an f) X.env (eval ea X.env)=eval ea X.env):LE X (.Attribute ea (an f) pos) (.fld a f):=fun br z I nb=>
 sT hb ((ha true).go .refl I rfl nb fun z1 x u y1 x1 I1 r1 e1=>cv x1 I1 e1 nb fun d q=>by
  have cr:=r1.rb.cr0 I1
  cases x with
  | ins c l=>
    obtain ⟨a,i,vs,rfl,hc,hl,w,rs⟩:=(cr:RD X.W z1.ρ z1.G (.ins c l) u)
    obtain ⟨k,i',j,e1,ok,e2,e3⟩:=jM T (show ((X.Γ.cl[c]?).bind fun k=>l[k.at_.idxOf f]?)=some d from q)
    have e4:=ok.ci
    rw [hc] at e4;cases e4
    obtain ⟨v,ev,rv⟩:=rs.get e2
    have lk:=sH ok.nd (e3 hl) ev
    have mem:an f∈i.nm:=φ (e3 hl)
    rcases w with ⟨w1,dx,ga⟩ | ⟨w2,w⟩
    ·have w3:k.what≠2:=by have:=ok.wh;rw [w1] at this;have e:=Ϧ this;omega
     exact kZ I1 (ga.sub I1.gh) (ok.cls w3) (ok.na _ mem) lk rv (.old I1 .tok rv)
    ·have w3:k.what=2:=by have:=ok.wh;rw [w2] at this;exact (Ϧ this).symm
     exact xr I1 (w.sub I1.gh) (fun z=>by rw [z] at lk;cases lk) (ok.xc w3).1 (ok.xc w3).2 (ok.na _ mem) lk (iK rv) (.old I1 .tok rv)
  | ref n=>
    obtain ⟨p,ep,rfl⟩:=(cr:RD X.W z1.ρ z1.G (.ref n) u)
    obtain ⟨C,fs,v,h1,h2,h3,h4,h5⟩:=pR T I1 ep q
    exact kZ I1 h1 h2 h3 h4 h5 (.old I1 .tok h5)
  | _=>cases q)
end
abbrev NoW:Β→Prop:=fun _=>False
def XC (X:Cx) (z z':Z) (c:Nat) (l:List D) (e:ζ):Prop:=∃ a T cls dx,e = .ref a∧XR X.W z' c l cls dx∧Tr z'.s.heap a cls dx T .none∧(z.h a=none∧z'.G a=none∧¬ Mu z'.ρ a)∧z.h T=none∧z'.G T=none∧¬ Mu z'.ρ T
def CRs (X:Cx) (z:Z) (r:Res) (q:Result) (s':ξ):Prop:=match q with
 | .ok (.ret u)=>∃ z' d,z'.s=s'∧r = .ok d z'.t.st∧Stp X.fr NoW z z'∧HR X z'∧RD X.W z'.ρ z'.G d u
 | .error e=>∃ z' c l,z'.s=s'∧r = .exc c l z'.t.st∧Stp X.fr NoW z z'∧HR X z'∧XC X z z' c l e
 | _=>False
structure FnC (X:Cx) (cal:Nat→List D→List O→Res) (lv j:Nat) (f:Β) (fd:ß) (ps:List ν) (dvs:List ζ):Prop where
 len:∀ ds st,cal j ds st≠.bad→ds.length+dvs.length=ps.length
 run:∀ (A:ώ) (fr:List Dz) (z:Z) (args:Args) (us:List ζ) (ds:List D),bq lv A→HR { X with A:=A,fr:=fr } z→H9 z.s fd args (ps.zip (us ++ dvs))→RDs X.W z.ρ z.G ds us→cal j ds z.t.st≠.bad →
  Ĵ X.M A (.call (.ref f) args) (CRs { X with A:=A,fr:=fr } z (cal j ds z.t.st)) z.s
def bX (X:Cx) (cal:Nat→List D→List O→Res) (lv j:Nat) (f:Β):Prop:=∃ fd ps dvs,FnC X cal lv j f fd ps dvs∧bV X.K fd ps dvs∧ϖ X.K (.ref f)=true
mutual
theorem mP {G G':Hp} (k:∀ a o,G a=some o→(∀ l,¬ LsO o l)→G' a=some o):∀ {d:D} {v},noL d=true→RD W ρ G d v→RD W ρ G' d v
 | .non,_,_,e=>e
 | .bl _,_,_,e=>e
 | .int _,_,_,e=>e
 | .str _,_,_,e=>e
 | .ref _,_,_,e=>e
 | .tup _,_,n,⟨a,o,vs,e,t,q,r⟩=>⟨a,o,vs,e,k _ _ t fun l ⟨⟨_,z⟩,_⟩=>by have:=q.1;rw [z] at this;exact ZX this (show ą "list"≠.type "tuple" by decide),q,cE k n r⟩
 | .dic _ _,_,n,⟨a,o,vs,e,m,t,q,l,r⟩=>⟨a,o,vs,e,m,k _ _ t fun l ⟨⟨_,z⟩,_⟩=>by obtain ⟨_,_,x,_⟩:=q;have:=x.1;rw [z] at this;exact ZX this (show ą "list"≠.type "dict" by decide),q,l,cE k n r⟩
 | .ins _ _,_,n,⟨a,i,vs,e,hc,l,t,r⟩=>⟨a,i,vs,e,hc,l,t.elim (fun ⟨w,dx,q1,q2,q3,o,q4,q5⟩=>.inl ⟨w,dx,k _ _ q1 (fun l ⟨⟨_,z⟩,_⟩=>by injection z with z;cases z),q2,q3,o,k _ _ q4 (rp q5),q5⟩) (fun ⟨w,o,vs,q1,q2,q3,q4⟩=>.inr ⟨w,o,vs,k _ _ q1 (fun l ⟨⟨_,z⟩,_⟩=>by rw [z] at q3;cases q3),q2,q3,q4.elim .inl fun ⟨d,od,p1,p2,p3⟩=>.inr ⟨d,od,p1,k _ _ p2 (rp p3),p3⟩⟩),cE k n r⟩
 | .lst _,_,n,_=>by cases n
theorem cE {G G':Hp} (k:∀ a o,G a=some o→(∀ l,¬ LsO o l)→G' a=some o):∀ {ds:List D} {vs},fx ds=true→RDs W ρ G ds vs→RDs W ρ G' ds vs
 | [],_,_,e=>e
 | _ :: _,_,n,⟨v,r,e,t,q⟩=>by
   have n:(noL _ && fx _)=true:=n
   rw [Υ] at n
   exact ⟨v,r,e,mP k n.1 t,cE k n.2 q⟩
theorem rp (h:NsO o m):∀ l,¬ LsO o l:=fun l ⟨⟨_,z⟩,_⟩=>by obtain ⟨_,_,q,_⟩:=h;rw [z] at q;cases q
end
section
variable {X:Cx} {z z':Z} {br:Bool}
theorem Stp.slots (S:Stp fr NoW z z') (n:¬ Mu z.ρ a) (e:z.h a=some o):∃ sl,z'.h a=some { o with slots:=sl }:=by
 by_cases f:a∈frs fr
 ·exact S.sl a o e n id f
 ·exact ⟨o.slots,S.sm a o e n id f⟩
open Classical in
theorem Rep.back (I:Rep X z) (p q:Nat→Bool) (S:Stp X.fr NoW (z.rel p) z') (H:HR X z') (pq:∀ i,p i=true→q i=true) (hq:∀ i∈z.t.ow,q i=true→p i=true∨(isLst z.t.env[i]? = true∧z'.t.st.all j9=true)) :
 ∃ zf,zf.s=z'.s∧zf.t=⟨z.t.env,z.t.ow.filter q,z'.t.st⟩∧zf.ρ=z'.ρ∧Rep X zf∧Ee X z zf∧(∀ a,z.h a=none→zf.G a=z'.G a)∧(∀ a o,z'.G a=some o→(∀ l,¬ LsO o l)→zf.G a=some o)∧((∀ i∈z.t.ow,q i=true→p i=true)→Sub z'.G zf.G):=by
 obtain ⟨Ir,xr⟩:=I.rel p
 let Rm:Β→Prop:=fun a=>∃ i∈z.t.ow,q i=true∧z.σ[i]? = some (some (.ref a))
 have own:∀ {a},Rm a→Own z a:=fun ⟨i,m,_,e⟩=>⟨i,m,e⟩
 let G2:Hp:=fun a=>if Rm a then none else z'.G a
 have yes:∀ {a},Rm a→G2 a=none:=fun h=>ZZ h
 have no:∀ {a},¬ Rm a→G2 a=z'.G a:=fun h=>ZY h
 have g2s:Sub G2 z'.G:=fun a o e=>by
  by_cases c:Rm a
  ·rw [yes c] at e;cases e
  ·rw [no c] at e;exact e
 have gz:Sub z.G G2:=fun a o e=>by
  by_cases c:Rm a
  ·rw [(I.oth (own c)).1.1] at e;cases e
  ·rw [no c];exact S.gg _ _ (xr.st.gg _ _ e)
 have hold:∀ {i:Nat} {a:Β},i∈z.t.ow→p i=true→z.σ[i]? = some (some (.ref a))→z'.G a=none:=fun {i a} m pi es=>by
  obtain ⟨f,o',e'⟩:=I.oth ⟨i,m,es⟩
  have n:(z.rel p).G a=none:=(c6 fun ⟨j,mj,pj,ej⟩=>by rw [I.od j i a mj m ej es,pi] at pj;cases pj).trans f.1
  cases w:z'.G a with
  | none=>rfl
  | some o=>
    rcases S.gn a o w with w | w | w
    ·rw [n] at w;cases w
    ·rw [show (z.rel p).h a=z.h a from rfl,e'] at w;cases w
    ·exact w.elim
 have gp:∀ {a o},Rm a→z'.G a=some o→(∃ l,LsO o l)∧z'.t.st.all j9=true∧¬ ∀ i∈z.t.ow,q i=true→p i=true:=fun {a o} ⟨i,m,qi,es⟩ e=>by
  by_cases pi:p i=true
  ·rw [hold m pi es] at e;cases e
  ·obtain ⟨li,al⟩:=(hq i m qi).resolve_left pi
   obtain ⟨d,b,ob,h1,h2,h3,r,f⟩:=I.eo i m
   rw [es] at h2;cases h2
   refine ⟨?_,al,fun w=>pi (w i m qi)⟩
   rw [h1] at li
   cases d with
   | lst ds=>
     cases h3
     obtain ⟨oo,vs,_,e1,l1,_⟩:=r
     have:=S.gg a oo ((fJ ⟨i,m,by simpa using pi,es⟩).trans e1)
     rw [e] at this;cases this
     exact ⟨vs,l1⟩
   | _=>cases li
 have kp:∀ a o,z'.G a=some o→(∀ l,¬ LsO o l)→G2 a=some o:=fun a o e n=>by
  by_cases c:Rm a
  ·obtain ⟨⟨l,h⟩,_⟩:=gp c e;exact ZX h (n l)
  ·rw [no c];exact e
 have kq:(∀ i∈z.t.ow,q i=true→p i=true)→Sub z'.G G2:=fun w a o e=>by
  by_cases c:Rm a
  ·exact ZX w (gp c e).2.2
  ·rw [no c];exact e
 have nn:∀ {a},z'.G a=none→G2 a=none:=fun {a} e=>by
  by_cases c:Rm a
  ·exact yes c
  ·rw [no c];exact e
 have rh:∀ {a},(z.rel p).h a=z.h a:=rfl
 have same:∀ a,¬ Mu z.ρ a→∀ o,z.h a=some o→∃ sl,z'.h a=some { o with slots:=sl }:=fun a n o e=>S.slots n e
 have nmu:∀ {a o},z.h a=some o→¬ Mu z.ρ a→¬ Mu z'.ρ a:=fun {a o} e n m=>(S.rn a m).elim n fun w=>by rw [rh,e] at w;cases w
 have nG:∀ {a o},z.h a=some o→(z.rel p).G a=none→z'.G a=none:=fun {a o} e n=>by
  cases w:z'.G a with
  | none=>rfl
  | some o'=>
    rcases S.gn a o' w with w | w | w
    ·rw [n] at w;cases w
    ·rw [rh,e] at w;cases w
    ·exact w.elim
 have ob2:∀ (n:Nat) (o:O) (pp:Β×Β),z'.t.st[n]? = some o→z'.ρ[n]? = some pp→ObR X.W z'.ρ G2 z'.h pp o:=fun n o pp h1 h2=>by
  by_cases w:∀ i∈z.t.ow,q i=true→p i=true
  ·exact (H.ob n o pp h1 h2).mono (μ _) (kq w) fun _ _ _ e=>e
  ·by_cases al:z'.t.st.all j9=true
   ·have nl:=ϒ.mp al o (φ h1)
    cases o with
    | lst l=>cases nl
    | dic ks l=>obtain ⟨o,vs,a1,a2,a3,a4,a5,a6⟩:=H.ob n _ pp h1 h2;exact ⟨o,vs,a1,a2,a3,a4,a5,cE kp nl a6⟩
    | ins c l=>obtain ⟨i,vs,a1,a2,a3,a4,a5⟩:=H.ob n _ pp h1 h2;exact ⟨i,vs,a1,a2,a3,a4,cE kp nl a5⟩
   ·exact ZX (fun i m qi=>(hq i m qi).resolve_right fun v=>al v.2) w
 refine ⟨⟨z'.ρ,G2,⟨z.t.env,z.t.ow.filter q,z'.t.st⟩,z.σ,z'.s⟩,rfl,rfl,rfl,⟨⟨H.md,H.fm,H.hd,fun b o e=>gz _ _ (I.bs b o e),g2s.trans H.gh,H.rl,H.rn,fun a m=>nn (H.rg a m),ob2,H.fu,fun b m=>⟨nn (H.ff b m).1,(H.ff b m).2⟩,H.br,H.os⟩,I.ok,?_,fun x c e=>?_,fun a l=>?_,I.el,I.sl,fun i d n e=>?_,fun i m=>?_,fun i j a m1 m2=>I.od i j a (ϕ.mp m1).1 (ϕ.mp m2).1⟩,⟨⟨S.pr,gz,fun a o e=>?_,S.rn,S.th,fun a o e n w f=>S.sm a o e n id f,fun a o e n w f=>S.sl a o e n id f⟩,rfl,rfl,fun i m=>(ϕ.mp m).1⟩,fun a e=>?_,kp,kq⟩
 ·obtain ⟨m,hn,hl⟩:=I.lo
  have cl:∀ c v,(∃ x,X.env.cells.lookup x=some c)→z.s.heap.IsCell c v→z'.s.heap.IsCell c v:=fun c v ⟨x,ex⟩ ⟨o,e,d⟩=>let ⟨_,w⟩:=same c (I.fl c (.inr ⟨x,ex⟩)).2 o e;⟨_,w,d⟩
  obtain ⟨oL,es,ep,eL,r⟩:=hn
  obtain ⟨sl,w⟩:=same _ (I.fl _ (.inl rfl)).2 oL eL
  exact ⟨m,⟨_,es,ep,w,r⟩,fun i x u h1 h2 h3=>cW (fun c v e q=>cl c v ⟨x,e⟩ q) (hl i x u h1 h2 h3)⟩
 ·obtain ⟨v,o,e1,d⟩:=I.ce x c e
  obtain ⟨sl,w⟩:=same c (I.fl c (.inr ⟨x,e⟩)).2 o e1
  exact ⟨v,_,w,d⟩
 ·obtain ⟨o,e⟩:=I.lth l
  exact ⟨nn (nG e (Ir.fl a l).1),nmu e (I.fl a l).2⟩
 ·by_cases m:i∈z.t.ow
  ·obtain ⟨d',a,o,h1,h2,h3,r,f⟩:=I.eo i m
   rw [show z.t.env[i]? = some (some d) from e] at h1;cases h1
   have qf:¬ q i=true:=fun w=>n (ϕ.mpr ⟨m,w⟩)
   have pf:p i=false:=by cases w:p i with
    | false=>rfl
    | true=>exact ZX (pq i w) qf
   obtain ⟨oa,ea⟩:=r.th.1
   refine ⟨_,h2,jn h3 (r.mono (h':=z.h) S.pr (Sub.refl _) fun _ _ _ e=>e) gz ?_⟩
   have nr:¬ Rm a:=fun ⟨j,mj,qj,ej⟩=>by rw [I.od j i a mj m ej h2] at qj;exact qf qj
   exact (no nr).trans ((S.gg a oa ((fJ ⟨i,m,pf,h2⟩).trans ea)).trans ea.symm)
  ·obtain ⟨u,w,r⟩:=I.en i d m e
   exact ⟨u,w,r.mono S.pr gz⟩
 ·obtain ⟨m1,m2⟩:=ϕ.mp m
  obtain ⟨d',a,o,h1,h2,h3,r,f⟩:=I.eo i m1
  obtain ⟨oa,ea⟩:=r.th.1
  refine ⟨d',a,o,h1,h2,h3,r.mono S.pr gz fun b hb o e=>?_,yes ⟨i,m1,m2,h2⟩,nmu ea f.2.1,f.2.2⟩
  have hb:b=a:=hb.elim id id
  subst hb
  exact S.sm b o e f.2.1 id f.2.2.1
 ·rcases S.gn a o (g2s a o e) with w | w | w
  ·by_cases c:jE z p a
   ·obtain ⟨i,m,_,e⟩:=c;exact .inr (.inr ⟨i,m,e⟩)
   ·rw [c6 c] at w;exact .inl w
  ·exact .inr (.inl w)
  ·exact w.elim
 ·exact no fun c=>by obtain ⟨o,w⟩:=(I.oth (own c)).2;rw [e] at w;cases w
theorem tw {a r:E} (m:i∈bL r):i∈bL (.cons a r):=by cases a <;> first | exact κ _ m | exact m
theorem ju (I:Rep X (z.rel p)) (gg:Sub z.G (z.rel p).G) (k:∀ i∈bL c,p i=false) {c' ds us} (hs:∀ i∈bL c',i∈bL c) (h:RVs X.W true c' z ds us):RDs X.W z.ρ (z.rel p).G ds us:=
 RVs.ind (P:=fun c' ds us=>(∀ i∈bL c',i∈bL c)→RDs X.W z.ρ (z.rel p).G ds us) (fun _=>rfl) (fun a r d ds u us h _ ih hs=>by
  refine .cons ?_ (ih fun i m=>hs i (tw m))
  rcases h with h | ⟨_,i,rfl,m,e1,e2⟩
  ·exact h.mono (μ _) gg
  ·obtain ⟨u',q,r⟩:=I.en i d (fun w=>by have:=(ϕ.mp w).2;rw [k i (hs i ι)] at this;cases this) e2
   rw [show z.σ[i]? = some (some u') from q] at e1;cases e1;exact r) c' ds us h hs
theorem gE {o:Out D} (F:bX X X.cal lv j f) (hr:bq lv X.A) (x:Ee X z0 z) (I:Rep X z) (rd:RDs X.W z.ρ (z.rel fun i=>!(bL es).contains i).G ds us) (e:o=gW X.cal es j ds z.t) (nb:o≠.bad):Α X.M X.A (call (.ref f) us) (Pe X z0 o (RV X.W br c)) (Px X z0 o) z.s:=by
 obtain ⟨Ir,xr⟩:=I.rel fun i=>!(bL es).contains i
 obtain ⟨fd,ps,dvs,F,hb,kp⟩:=F
 subst e
 have nbc:X.cal j ds z.t.st≠.bad:=fun q=>nb (by unfold gW;rw [q])
 have bd:=hb z.s us I.toHR.kin (by rw [υ,← rd.len];exact F.len _ _ nbc)
 refine ă (í (F.run X.A X.fr (z.rel fun i=>!(bL es).contains i) ⟨us,[]⟩ us ds hr Ir.toHR bd rd nbc) fun q s' hq=>?_)
 cases q with
 | error e=>
   obtain ⟨z',c,l,rfl,er,S,H,a,T,cls,dx,rfl,xr',tr,⟨na,ga,ma⟩,nT,gT,mT⟩:=hq
   obtain ⟨zf,e1,e2,e3,If,xf,k1,k2,k3⟩:=I.back (fun i=>!(bL es).contains i) _ S H (fun _ h=>h) fun _ _ h=>.inl h
   have nob:∀ {b:Β},z.h b=none→z'.G b=none→¬ Mu z'.ρ b→Nob X z zf b:=fun {b} n g m=>by
    have ⟨f,no⟩:=I.fre n
    exact ⟨n,⟨(k1 b n).trans g,e3 ▸ m,f.2.2⟩,fun w=>no (xf.own w)⟩
   refine Px.less x ⟨zf,c,l,e1,by unfold gW;rw [show X.cal j ds z.t.st=_ from er,e2];rfl,xf,If,a,cls,dx,rfl,?_,nob na ga ma,.inr ⟨T,.none,e1 ▸ tr,.inl rfl,nob nT gT mT⟩⟩
   obtain ⟨i,a1,a2,a3,a4,a5⟩:=xr'
   refine ⟨i,a1,a2,a3,a4,a5.imp_right fun ⟨d,od,vs,b1,b2,b3,b4⟩=>⟨d,od,vs,b1,k2 _ _ b2 (rp b3),b3,?_⟩⟩
   rw [e3];exact b4.mono (μ _) (k3 fun _ _ h=>h)
 | ok fl=>
   cases fl with
   | ret u=>
     obtain ⟨z',d,rfl,er,S,H,r⟩:=hq
     obtain ⟨zf,e1,e2,e3,If,xf,k1,k2,k3⟩:=I.back (fun i=>!(bL es).contains i) (fun i=>!(bL es).contains i || (isLst z.t.env[i]? && (noL d && z'.t.st.all j9))) S H (fun i h=>by rw [h];rfl) fun i _ h=>by
      cases w:(!(bL es).contains i) with
      | true=>exact .inl rfl
      | false=>rw [w,GU,Υ,Υ] at h;exact .inr ⟨h.1,h.2.2⟩
     refine Pe.less x ⟨zf,d,e1,by unfold gW;rw [show X.cal j ds z.t.st=_ from er,e2];rfl,xf,If,.of ?_⟩
     rw [e3]
     cases w:noL d with
     | true=>exact mP k2 w r
     | false=>exact r.mono (μ _) (k3 fun i _ h=>by rw [w,Gs,Ef,ľ] at h;exact h)
   | next=>exact hq.elim
   | brk=>exact hq.elim
   | cont=>exact hq.elim
theorem fS {es:E}:∀ i∈bL es,(!(bL es).contains i)=false:=fun i m=>by simpa using m
theorem ua {x:ν} (F:bX X X.cal lv j f) (hr:bq lv X.A) (hg:Gl X x) (hm:X.mg x=some (.ref f)) (ha:LA X (ea :: er) es) (hd:(x == ("__debug__":ν))=false) (he:Ε (ea :: er) X.env=(false,eval ea X.env) :: Ε er X.env) (hpl:(ϻ pos (Ε er X.env)).any (·.1)=false):LE X (.Call (.Name x p) (ea :: er) [] pos) (.call j es):=fun br z I nb=>
 è (bz I hg hm (Ģ (h₀:=X.base) I.md.kin (let ⟨_,_,_,_,_,k⟩:=F;k) ((ha true pos).go .refl I rfl nb fun z1 l us y1 x1 I1 r1 e1=>⟨I1.toHR.kin,gE F hr x1 I1 (ju (I1.rel _).1 (I1.rel _).2.st.gg fS (fun _ h=>h) r1) e1 nb⟩) he hpl) hd)
end
mutual
theorem rM:∀ {d:D} {v},noR d=true→RD W ρ G d v→RD W ρ' G d v
 | .non,_,_,e=>e
 | .bl _,_,_,e=>e
 | .int _,_,_,e=>e
 | .str _,_,_,e=>e
 | .ref _,_,n,_=>by cases n
 | .tup _,_,n,⟨a,o,vs,e,t,q,r⟩=>⟨a,o,vs,e,t,q,cN n r⟩
 | .lst _,_,n,⟨a,o,vs,e,t,q,r⟩=>⟨a,o,vs,e,t,q,cN n r⟩
 | .dic _ _,_,n,⟨a,o,vs,e,m,t,q,l,r⟩=>⟨a,o,vs,e,m,t,q,l,cN n r⟩
 | .ins _ _,_,n,⟨a,i,vs,e,hc,l,t,r⟩=>⟨a,i,vs,e,hc,l,t,cN n r⟩
theorem cN:∀ {ds:List D} {vs},bc ds=true→RDs W ρ G ds vs→RDs W ρ' G ds vs
 | [],_,_,e=>e
 | _ :: _,_,n,⟨v,r,e,t,q⟩=>by
   have n:(noR _ && bc _)=true:=n
   rw [Υ] at n
   exact ⟨v,r,e,rM n.1 t,cN n.2 q⟩
end
theorem gG (k:Nat):∀ l:List D,(ib k l).length=l.length
 | []=>rfl
 | _ :: r=>ZS (· + 1) (gG k r)
section
variable {X:Cx} {z z' z0:Z} {br:Bool}
abbrev Z.bare (z:Z):Z:={ z with ρ:=[],t:=⟨z.t.env,z.t.ow,[]⟩ }
theorem gu:¬ Mu [] a:=fun ⟨_,h,_⟩=>nomatch h
theorem HR.bare (I:HR X z):HR X z.bare:=⟨I.md,I.fm,I.hd,I.bs,I.gh,rfl,fun _ _ _ _ _ h=>by simp at h,fun _ m=>(gu m).elim,fun _ _ _ h=>by simp at h,I.fu,fun b m=>⟨(I.ff b m).1,gu⟩,I.br,I.os⟩
theorem Rep.hout (I:Rep X z) (S:Stp X.fr NoW z.bare z') (H:HR X z'):Rep X { z with G:=z'.G,s:=z'.s }∧Ee X z { z with G:=z'.G,s:=z'.s }:=by
 have gn:∀ a o,z'.G a=some o→z.G a=some o∨z.h a=none:=fun a o e=>(S.gn a o e).imp_right fun w=>w.elim id Ő
 exact ⟨I.grw (H.os.trans I.os.symm) H.br (fun b o e f=>S.sm b o e gu id f) (fun b o e=>S.slots gu e) S.gg H.gh fun a o e=>(gn a o e).imp_right I.fre,⟨μ _,S.gg,fun a o e=>(gn a o e).imp_right .inl,fun _ m=>.inl m,S.th,fun a o e _ _ f=>S.sm a o e gu id f,fun a o e _ _ f=>S.sl a o e gu id f⟩,rfl,rfl,fun _ h=>h⟩
mutual
theorem RD.sh:∀ {d:D} {v},RD W ρ' G d v→RD W (ρ ++ ρ') G (shD ρ.length d) v
 | .non,_,e=>e
 | .bl _,_,e=>e
 | .int _,_,e=>e
 | .str _,_,e=>e
 | .ref n,_,⟨p,e,q⟩=>⟨p,by rw [Μ (DP ..),ŏ];exact e,q⟩
 | .tup _,_,⟨a,o,vs,e,t,q,r⟩=>⟨a,o,vs,e,t,q,r.sh⟩
 | .lst _,_,⟨a,o,vs,e,t,q,r⟩=>⟨a,o,vs,e,t,q,r.sh⟩
 | .dic _ _,_,⟨a,o,vs,e,m,t,q,l,r⟩=>⟨a,o,vs,e,m,t,q,l.trans (gG _ _).symm,r.sh⟩
 | .ins _ _,_,⟨a,i,vs,e,hc,l,t,r⟩=>⟨a,i,vs,e,hc,by rw [gG];exact l,t,r.sh⟩
theorem RDs.sh:∀ {ds:List D} {vs},RDs W ρ' G ds vs→RDs W (ρ ++ ρ') G (ib ρ.length ds) vs
 | [],_,e=>e
 | _ :: _,_,⟨v,r,e,t,q⟩=>⟨v,r,e,t.sh,q.sh⟩
end
theorem ObR.sh:∀ {o:O},ObR W ρ' G h p o→ObR W (ρ ++ ρ') G h p (shO ρ.length o)
 | .lst _,⟨o,vs,z,e,q,r⟩=>⟨o,vs,z,e,q,r.sh⟩
 | .dic _ _,⟨o,vs,z,m,e,q,l,r⟩=>⟨o,vs,z,m,e,q,l.trans (gG _ _).symm,r.sh⟩
 | .ins _ _,⟨i,vs,c,w,l,e,r⟩=>⟨i,vs,c,w,by rw [gG];exact l,e,r.sh⟩
theorem d6:Mu (ρ ++ ρ') a↔Mu ρ a∨Mu ρ' a:=⟨fun ⟨p,h,e⟩=>(È.mp h).imp (fun h=>⟨p,h,e⟩) fun h=>⟨p,h,e⟩,fun h=>h.elim (fun ⟨p,h,e⟩=>⟨p,Ŧ _ h,e⟩) fun ⟨p,h,e⟩=>⟨p,EO _ h,e⟩⟩
theorem Rep.more {os:List O} {ρ':Rs} (I:Rep X z) (hl:ρ'.length=os.length) (nw:∀ a,Mu ρ' a→Fre X z a∧¬ Own z a) (rn:∀ (i j:Nat) (p q:Β×Β) (a:Β),ρ'[i]? = some p→ρ'[j]? = some q→(a=p.1∨a=p.2)→(a=q.1∨a=q.2)→i=j)
 (ob:∀ (n:Nat) (o:O) (p:Β×Β),os[n]? = some o→ρ'[n]? = some p→ObR X.W (z.ρ ++ ρ') z.G z.h p o):Rep X { z with ρ:=z.ρ ++ ρ',t:=⟨z.t.env,z.t.ow,z.t.st ++ os⟩ }:=by
 have rl:=I.rl
 have pre:z.ρ <+: z.ρ ++ ρ':=â _ _
 have at_:∀ {i:Nat} {p:Β×Β},(z.ρ ++ ρ')[i]? = some p→(i<z.ρ.length∧z.ρ[i]? = some p)∨(z.ρ.length≤i∧ρ'[i - z.ρ.length]? = some p):=fun {i p} h=>by
  by_cases c:i<z.ρ.length
  ·rw [Χ c] at h;exact .inl ⟨c,h⟩
  ·rw [Μ (by omega)] at h;exact .inr ⟨by omega,h⟩
 have mem:∀ {i:Nat} {p:Β×Β} {l:Rs} {a:Β},l[i]? = some p→(a=p.1∨a=p.2)→Mu l a:=fun h e=>⟨_,φ h,e⟩
 refine ⟨⟨I.md,I.fm,I.hd,I.bs,I.gh,by show (z.ρ ++ ρ').length=(z.t.st ++ os).length;simp only [υ];omega,fun i j p q a h1 h2 h3 h4=>?_,fun a m=>(d6.mp m).elim (I.rg a) fun m=>(nw a m).1.1,fun n o p h1 h2=>?_,I.fu,fun b m=>⟨(I.ff b m).1,fun h=>(d6.mp h).elim (I.ff b m).2 fun h=>(nw b h).1.2.2.1 m⟩,I.br,I.os⟩,I.ok,I.lo,I.ce,fun a l=>⟨(I.fl a l).1,fun h=>(d6.mp h).elim (I.fl a l).2 fun h=>(nw a h).1.2.2.2 l⟩,I.el,I.sl,fun i d n e=>let ⟨u,q,r⟩:=I.en i d n e;⟨u,q,r.mono pre (.refl _)⟩,fun i m=>?_,I.od⟩
 ·rcases at_ h1 with ⟨c1,w1⟩ | ⟨c1,w1⟩ <;> rcases at_ h2 with ⟨c2,w2⟩ | ⟨c2,w2⟩
  ·exact I.rn i j p q a w1 w2 h3 h4
  ·exact ZX (mem w1 h3) (nw a (mem w2 h4)).1.2.1
  ·exact ZX (mem w2 h4) (nw a (mem w1 h3)).1.2.1
  ·have:=rn _ _ p q a w1 w2 h3 h4;omega
 ·have h1:(z.t.st ++ os)[n]? = some o:=h1
  rcases at_ h2 with ⟨c1,w1⟩ | ⟨c1,w1⟩
  ·rw [Χ (by omega)] at h1
   exact (I.ob n o p h1 w1).mono pre (.refl _) fun _ _ _ e=>e
  ·rw [Μ (by omega),← rl] at h1
   exact ob _ o p h1 w1
 ·obtain ⟨d,a,o,h1,h2,h3,r,f⟩:=I.eo i m
  exact ⟨d,a,o,h1,h2,h3,r.mono pre (.refl _) fun _ _ _ e=>e,f.1,fun h=>(d6.mp h).elim f.2.1 fun h=>(nw a h).2 ⟨i,m,h2⟩,f.2.2⟩
theorem qB {x:ν} (F:bX X X.cal lv j f) (hr:bq lv X.A) (hg:Gl X x) (hm:X.mg x=some (.ref f)) (ha:LA X (ea :: er) es) (hd:(x == ("__debug__":ν))=false) (he:Ε (ea :: er) X.env=(false,eval ea X.env) :: Ε er X.env) (hpl:(ϻ pos (Ε er X.env)).any (·.1)=false):LE X (.Call (.Name x p) (ea :: er) [] pos) (.hcall j es):=fun br z I nb=>
 è (bz I hg hm (Ģ (h₀:=X.base) I.md.kin (let ⟨_,_,_,_,_,k⟩:=F;k) ((ha false pos).go .refl I rfl nb fun z1 l us y1 x1 I1 r1 e1=>⟨I1.toHR.kin,by
  obtain ⟨fd,ps,dvs,F,hb,kp⟩:=F
  unfold tM at e1
  by_cases nr:bc l=true
  ·rw [ZZ nr] at e1
   have nbc:X.cal j l []≠.bad:=fun q=>by rw [q] at e1;exact nb e1
   have rd:RDs X.W z1.bare.ρ z1.bare.G l us:=cN nr r1.rds
   have bd:=hb z1.s us I1.toHR.kin (by rw [υ,← rd.len];exact F.len _ _ nbc)
   refine ă (í (F.run X.A X.fr z1.bare ⟨us,[]⟩ us l hr I1.toHR.bare bd rd nbc) fun q s' hq=>?_)
   cases q with
   | error e=>
     obtain ⟨z',c,l',rfl,er,S,H,a,T,cls,dx,rfl,xr',tr,⟨na,ga,ma⟩,nT,gT,mT⟩:=hq
     rw [show X.cal j l []=_ from er] at e1
     obtain ⟨If,xf⟩:=I1.hout S H
     by_cases n2:bc l'=true
     ·have e1:=e1.trans (ZZ n2)
      have nob:∀ {b:Β},z1.h b=none→z'.G b=none→Nob X z1 { z1 with G:=z'.G,s:=z'.s } b:=fun {b} n g=>by
       have ⟨f,no⟩:=I1.fre n
       exact ⟨n,⟨g,f.2⟩,no⟩
      refine Px.less x1 ⟨{ z1 with G:=z'.G,s:=z'.s },c,l',rfl,e1,xf,If,a,cls,dx,rfl,?_,nob na ga,.inr ⟨T,.none,tr,.inl rfl,nob nT gT⟩⟩
      obtain ⟨i,a1,a2,a3,a4,a5⟩:=xr'
      exact ⟨i,a1,a2,a3,a4,a5.imp_right fun ⟨d,od,vs,b1,b2,b3,b4⟩=>⟨d,od,vs,b1,b2,b3,cN n2 b4⟩⟩
     ·exact ZX (e1.trans (ZY n2)) nb
   | ok fl=>
     cases fl with
     | ret u=>
       obtain ⟨z',d,rfl,er,S,H,r⟩:=hq
       rw [show X.cal j l []=_ from er] at e1
       obtain ⟨If,xf⟩:=I1.hout S H
       by_cases n2:noR d=true
       ·have e1:=e1.trans (show (if noR d=true then Out.ok d z1.t else _)=_ from ZZ n2)
        exact Pe.less x1 ⟨{ z1 with G:=z'.G,s:=z'.s },d,rfl,e1,xf,If,.of (rM n2 r)⟩
       ·have e1:=e1.trans (show (if noR d=true then Out.ok d z1.t else _)=_ from ZY n2)
        have new:∀ a,Mu z'.ρ a→z1.h a=none:=fun a m=>(S.rn a m).elim (fun m=>(gu m).elim) id
        have I2:=If.more (ρ':=z'.ρ) (os:=z'.t.st.map (shO z1.t.st.length)) (by rw [Ν];exact H.rl) (fun a m=>let ⟨f,no⟩:=I1.fre (new a m);⟨⟨H.rg a m,f.2⟩,no⟩) H.rn (fun n o p h1 h2=>by
         rw [ϋ,ω] at h1
         obtain ⟨o',h1,rfl⟩:=h1
         rw [← I1.rl];exact (H.ob n o' p h1 h2).sh)
        refine Pe.less x1 ⟨{ z1 with ρ:=z1.ρ ++ z'.ρ,G:=z'.G,t:=⟨z1.t.env,z1.t.ow,z1.t.st ++ z'.t.st.map (shO z1.t.st.length)⟩,s:=z'.s },shD z1.t.st.length d,rfl,e1,⟨⟨â _ _,xf.st.gg,xf.st.gn,fun a m=>(d6.mp m).imp_right (new a),xf.st.th,xf.st.sm,xf.st.sl⟩,rfl,rfl,fun _ h=>h⟩,I2,.of ?_⟩
        rw [← I1.rl];exact r.sh
     | next=>exact hq.elim
     | brk=>exact hq.elim
     | cont=>exact hq.elim
  ·rw [ZY nr] at e1;exact ZX e1 nb⟩) he hpl) hd)
structure nu (X:Cx) (an:Nat→ν) (m:ν) (c:Nat) (f:Β):Prop where
 ex:∃ i k,X.Γ.cl[c]? = some k∧dC X an c k i∧k.what=0∧zR X.K i.ad m f∧m ∉ i.nm
theorem sL {l:List ν} {vs:List ζ} (h:m ∉ l):(l.zip vs).lookup m=none:=by
 induction l generalizing vs with
 | nil=>rfl
 | cons n r ih=>
   cases vs with
   | nil=>rfl
   | cons w vs=>
     show (match m == n with | true=>some w | false=>(r.zip vs).lookup m)=none
     rw [show (m == n)=false from ZU.mpr fun z=>h (by rw [z];exact ι)]
     exact ih fun z=>h (κ _ z)
theorem mG {n:Nat} {l:List D} {p:Β×Β} {Q:ζ×List ζ→ξ→Prop} {E:ζ→ξ→Prop} {pl:F1 Bool} (M:nu X an m c f) (I:Rep X z) (e:z.t.st[n]? = some (.ins c l)) (ep:z.ρ[n]? = some p) (q:Q (.ref f,[.ref p.1]) z.s):Α X.M X.A (Ej (.ref p.1) m pl) Q E z.s:=by
 obtain ⟨i,k,hc,ok,w,hm,nm⟩:=M.ex
 obtain ⟨i',vs,w1,w2,w3,w4,w5⟩:=I.ob n _ p e ep
 have e4:=ok.ci
 rw [w1] at e4;cases e4
 exact pZ I.toHR.kin (InO.objm w4) ((ok.cls (by omega)).get m) hm.at_ hm.fn (sL nm) q
theorem mH {o:Out D} {f:List D→Sta→Out D} {x:D} (e:o=(match x with
 | .ref p=>(match z.t.st[p]? with
   | some (.ins c' _)=>if c'=c then (X.evs true es z.t).bind fun l s=>gW X.cal es j (x :: l) s else .bad
   | _=>.bad)
 | _=>.bad)) (nb:o≠.bad):∃ n l,x = .ref n∧z.t.st[n]? = some (.ins c l)∧o=(X.evs true es z.t).bind fun l s=>gW X.cal es j (.ref n :: l) s:=by
 cases x with
 | ref n=>
   dsimp only at e
   cases q:z.t.st[n]? with
   | none=>rw [q] at e;exact ZX e nb
   | some ob=>
     rw [q] at e
     cases ob with
     | ins c' l=>
       dsimp only at e
       by_cases h:c'=c
       ·subst h;rw [ZZ rfl] at e;exact ⟨n,l,rfl,q,e⟩
       ·rw [ZY h] at e;exact ZX e nb
     | _=>exact ZX e nb
 | _=>exact ZX e nb
theorem x9 (F:bX X X.cal lv j f) (hr:bq lv X.A) (M:nu X an m c f) (ho:LE X eo a) (ha:LA X (ea :: er) es) (he:Ε (ea :: er) X.env=(false,eval ea X.env) :: Ε er X.env) (hpl:(ϻ pos (Ε er X.env)).any (·.1)=false)
 (ht:eval (.Call (.Attribute eo m apos) (ea :: er) [] pos) X.env=(do
  let ov ← eval eo X.env
  Œ apos.atName
  let (f,first) ← holding [ov] (Ej ov m pl)
  Ţ pos f first (ϻ pos (Ε (ea :: er) X.env)) (Ï pos (Ϩ [] X.env)))):LE X (.Call (.Attribute eo m apos) (ea :: er) [] pos) (.mth c j a es):=fun br z I nb=>
 Ō (pl:=pl) ((ho true).go .refl I rfl nb fun z1 x u y1 x1 I1 r1 e1=>by
  obtain ⟨n,l,rfl,q,e1⟩:=mH (f:=fun _ _=>.bad) e1 nb
  obtain ⟨p,ep,rfl⟩:=(r1.rb.cr0 I1:RD X.W z1.ρ z1.G (.ref n) u)
  exact mG M I1 q ep (Ģ (first:=[.ref p.1]) (h₀:=X.base) I.md.kin (let ⟨_,_,_,_,_,k⟩:=F;k) ((ha true pos).go x1 I1 e1 nb fun z2 l us y2 x2 I2 r2 e2=>⟨I2.toHR.kin,gE (us:=.ref p.1 :: us) F hr x2 I2 (.cons (d:=.ref n) ⟨p,fH y2.st.pr ep,rfl⟩ (ju (I2.rel _).1 (I2.rel _).2.st.gg fS (fun _ h=>h) r2)) e2 nb⟩) he hpl)) ht
theorem ug (F:bX X X.cal lv j f) (hr:bq lv X.A) (M:nu X an m c f) (ho:LE X eo a)
 (ht:eval (.Call (.Attribute eo m apos) [] [] pos) X.env=(do
  let ov ← eval eo X.env
  Œ apos.atName
  let (f,first) ← holding [ov] (Ej ov m pl)
  Ţ pos f first (ϻ pos (Ε [] X.env)) (Ï pos (Ϩ [] X.env)))):LE X (.Call (.Attribute eo m apos) [] [] pos) (.mth c j a .nil):=fun br z I nb=>
 Ō (pl:=pl) ((ho true).go .refl I rfl nb fun z1 x u y1 x1 I1 r1 e1=>by
  obtain ⟨n,l,rfl,q,e1⟩:=mH (f:=fun _ _=>.bad) e1 nb
  obtain ⟨p,ep,rfl⟩:=(r1.rb.cr0 I1:RD X.W z1.ρ z1.G (.ref n) u)
  exact mG M I1 q ep (EB (first:=[.ref p.1]) I1.toHR.kin (let ⟨_,_,_,_,_,k⟩:=F;k) (gE (us:=[.ref p.1]) (es:=.nil) F hr x1 I1 (.cons (d:=.ref n) (ds:=[]) ⟨p,ep,rfl⟩ rfl) e1 nb))) ht
theorem eF (C:Β) (us:List ζ) (kw:List (ν×ζ)):(X.A.under (.builtin "type.__call__" ⟨.ref C :: us,kw⟩)).frames=X.A.frames:=by simp [Eu,Code.envs,EE,pushEnvs]
theorem eR:Mu (ρ ++ [p]) a↔Mu ρ a∨a=p.1∨a=p.2:=by
 constructor
 ·rintro ⟨q,h,e⟩
  rcases È.mp h with h | h
  ·exact .inl ⟨q,h,e⟩
  ·cases η.mp h;exact .inr e
 ·rintro (⟨q,h,e⟩ | e)
  ·exact ⟨q,Ŧ _ h,e⟩
  ·exact ⟨p,EO _ ι,e⟩
theorem aT {l:List α} (e:(l ++ [a])[n]? = some b):l[n]? = some b∨(n=l.length∧b=a):=by
 rcases Nat.lt_trichotomy n l.length with h | h | h
 ·rw [Χ h] at e;exact .inl e
 ·subst h;rw [Μ (Ψ _),Ħ] at e;cases e;exact .inr ⟨rfl,rfl⟩
 ·rw [Μ (ø h),Ş (by simp;omega)] at e;cases e
theorem HR.snoc (I:HR X z) (g:Gr z.s s') (hp:z.h p.1=none∧z.h p.2=none) (r:ObR X.W (z.ρ ++ [p]) z.G s'.heap.get? p o):HR X { z with ρ:=z.ρ ++ [p],t:=⟨z.t.env,z.t.ow,z.t.st ++ [o]⟩,s:=s' }∧Stp X.fr w z { z with ρ:=z.ρ ++ [p],t:=⟨z.t.env,z.t.ow,z.t.st ++ [o]⟩,s:=s' }:=by
 have nn:∀ {a:Β},(a=p.1∨a=p.2)→z.h a=none:=fun h=>h.elim (fun e=>e ▸ hp.1) fun e=>e ▸ hp.2
 have pre:z.ρ <+: z.ρ ++ [p]:=â _ _
 have no:∀ {a:Β} {P:Prop},(a=p.1∨a=p.2)→(∃ o,z.h a=some o)→P:=fun h ⟨o,e⟩=>by rw [nn h] at e;cases e
 have old:∀ {i:Nat} {q:Β×Β} {a:Β},z.ρ[i]? = some q→(a=q.1∨a=q.2)→∃ o,z.h a=some o:=fun h1 h2=>I.th ⟨_,φ h1,h2⟩
 refine ⟨⟨I.md,I.fm,I.hd,I.bs,fun a o e=>g.k a o (I.gh a o e),by simp [I.rl],fun i j q1 q2 a h1 h2 h3 h4=>?_,fun a m=>?_,fun n o' q h1 h2=>?_,nfu I.fu g.k,fun b m=>⟨(I.ff b m).1,fun w=>(eR.mp w).elim (I.ff b m).2 fun w=>no w (I.fth m)⟩,by show Ŗ s'.gens;rw [g.gs];exact I.br,g.os.trans I.os⟩,⟨pre,.refl _,fun _ _ e=>.inl e,fun a m=>(eR.mp m).imp_right nn,fun a o e=>⟨o,g.k a o e⟩,fun a o e _ _ _=>g.k a o e,fun a o e _ _ _=>⟨o.slots,g.k a o e⟩⟩⟩
 ·rcases aT h1 with a1 | ⟨a1,b1⟩
  ·rcases aT h2 with a2 | ⟨a2,b2⟩
   ·exact I.rn i j q1 q2 a a1 a2 h3 h4
   ·subst b2;exact no h4 (old a1 h3)
  ·subst b1
   rcases aT h2 with a2 | ⟨a2,b2⟩
   ·exact no h3 (old a2 h4)
   ·rw [a1,a2]
 ·rcases eR.mp m with m | m
  ·exact I.rg a m
  ·cases q:z.G a with
   | none=>rfl
   | some o=>exact no m ⟨o,I.gh a o q⟩
 ·rcases aT h2 with a2 | ⟨a2,b2⟩
  ·rcases aT h1 with a1 | ⟨a1,_⟩
   ·exact (I.ob n o' q a1 a2).mono pre (.refl _) fun a _ o e=>g.k a o e
   ·have:=(ς.mp a2).1;rw [I.rl] at this;omega
  ·subst b2
   rcases aT h1 with a1 | ⟨_,b1⟩
   ·have:=(ς.mp a1).1;rw [← I.rl] at this;omega
   ·subst b1;exact r
theorem HR.at {A:ώ} (I:HR X z) (f:A.frames=X.A.frames) (h:A.handled=X.A.handled):HR { X with A:=A } z:=⟨I.md,f.trans I.fm,fun c=>h.trans (I.hd c),I.bs,I.gh,I.rl,I.rn,I.rg,I.ob,I.fu,I.ff,I.br,I.os⟩
theorem mV {o:Out D} {j:Nat} {cl:Cl} {i:CI} (F:bX X X.cal1 lv cl.init f) (hr:bq (lv+1) X.A) (M:Mk X.K i.ad f) (hcl:X.Γ.cl[j]? = some cl) (hw:cl.what=0) (hci:X.W.ci[j]? = some i) (hwh:X.W.what[j]? = some 0) (x:Ee X z0 z) (I:Rep X z) (r:RVs X.W true es z l us)
 (e:o=(match X.Γ.cl[j]? with
 | some k=>if k.what=1 then (if l.length=k.at_.length then .ok (.ins j l) (drp es z.t z.t.st) else .bad)
   else if k.what=0 then (match X.cal1 k.init (.ref z.t.st.length :: l) (z.t.st ++ [.ins j []]) with
    | .ok .non st=>.ok (.ref z.t.st.length) (aft es z.t .non st)
    | _=>.bad)
   else .bad
 | none=>.bad)) (nb:o≠.bad):Α X.M X.A (call (.ref i.ad) us) (Pe X z0 o (RV X.W br c)) (Px X z0 o) z.s:=by
 rw [hcl] at e
 dsimp only at e
 rw [ZY (by omega),ZZ hw] at e
 obtain ⟨Ir,xr⟩:=I.rel fun i=>!(bL es).contains i
 obtain ⟨fd,ps,dvs,F,hb,kp⟩:=F
 have nbc:X.cal1 cl.init (.ref z.t.st.length :: l) (z.t.st ++ [.ins j []])≠.bad:=fun q=>by rw [q] at e;exact nb e
 have g:Gr z.s { z.s with heap:=(z.s.heap.push Ϙ).push (Ϟ i.ad z.s.heap.objs.size) }:=⟨rfl,rfl,fun b o e=>ο _ (ο _ e)⟩
 have e1:(z.s.heap.push Ϙ).get? z.s.heap.objs.size=some Ϙ:=ψ z.s.heap rfl
 have e2:((z.s.heap.push Ϙ).push (Ϟ i.ad z.s.heap.objs.size)).get? (z.s.heap.objs.size+1)=some (Ϟ i.ad z.s.heap.objs.size):=by
  have:=ψ (z.s.heap.push Ϙ) (o:=Ϟ i.ad z.s.heap.objs.size) rfl
  rwa [ϵ] at this
 have hn:z.h (z.s.heap.objs.size+1)=none∧z.h z.s.heap.objs.size=none:=⟨ϗ (Þ _),ϗ (Ψ _)⟩
 have ne:z.s.heap.objs.size≠z.s.heap.objs.size+1:=ϛ (DO _)
 obtain ⟨H1,S1⟩:=HR.snoc (w:=NoW) (p:=(z.s.heap.objs.size+1,z.s.heap.objs.size)) (o:=.ins j []) Ir.toHR g hn ⟨i,[],hci,hwh,ϲ _,⟨e2,ne,by simp,_,ο _ e1,#[],_,rfl,(fun e he=>ZX he (by simp)),.nil,fun n=>by cases i.nm <;> rfl⟩,rfl⟩
 have at0:(z.ρ ++ [(z.s.heap.objs.size+1,z.s.heap.objs.size)])[z.t.st.length]? = some (z.s.heap.objs.size+1,z.s.heap.objs.size):=by rw [Μ (by rw [I.rl];exact Ψ _),I.rl,Ħ];rfl
 have rd0:=ju Ir xr.st.gg fS (fun _ h=>h) r
 have rd:RDs X.W (z.ρ ++ [(z.s.heap.objs.size+1,z.s.heap.objs.size)]) (z.rel fun i=>!(bL es).contains i).G (.ref z.t.st.length :: l) (.ref (z.s.heap.objs.size+1) :: us):=.cons ⟨_,at0,rfl⟩ (rd0.mono (â _ _) (.refl _))
 have bd:=hb { z.s with heap:=(z.s.heap.push Ϙ).push (Ϟ i.ad z.s.heap.objs.size) } (.ref (z.s.heap.objs.size+1) :: us) (I.toHR.kin.keeps g.k) (by rw [υ,← rd.len];exact F.len _ _ nbc)
 refine ă (j6 (f:=f) I.toHR.kin M.makes M.init (beq_iff_eq.mp M.fn) (í (F.run _ X.fr _ ⟨.ref (z.s.heap.objs.size+1) :: us,[]⟩ _ _ (hr.make i.ad us []) (H1.at (eF i.ad us []) rfl) bd rd nbc) fun q s' hq=>?_))
 cases q with
 | error e'=>obtain ⟨z',c,l',_,er,_,_,_⟩:=hq;rw [show X.cal1 cl.init (.ref z.t.st.length :: l) (z.t.st ++ [.ins j []])=_ from er] at e;exact ZX e nb
 | ok fl=>
   cases fl with
   | ret u=>
     obtain ⟨z',d,rfl,er,S,H,r⟩:=hq
     rw [show X.cal1 cl.init (.ref z.t.st.length :: l) (z.t.st ++ [.ins j []])=_ from er] at e
     cases d with
     | non=>
       refine ⟨(show u = .none from r),?_⟩
       have S2:Stp X.fr NoW (z.rel fun i=>!(bL es).contains i) z':=S1.trans S fun _ h=>h.elim
       have H2:HR X z':=H.at (X:={ X with A:=_,fr:=X.fr }) (A:=X.A) (eF i.ad us []).symm rfl
       obtain ⟨zf,f1,f2,f3,If,xf,k1,k2,k3⟩:=I.back (fun i=>!(bL es).contains i) (fun i=>!(bL es).contains i || (isLst z.t.env[i]? && (noL .non && z'.t.st.all j9))) S2 H2 (fun i h=>by rw [h];rfl) fun i _ h=>by
        cases w:(!(bL es).contains i) with
        | true=>exact .inl rfl
        | false=>rw [w,GU,Υ,Υ] at h;exact .inr ⟨h.1,h.2.2⟩
       refine Pe.less x ⟨zf,.ref z.t.st.length,f1,by rw [e,f2];rfl,xf,If,.of ⟨(z.s.heap.objs.size+1,z.s.heap.objs.size),?_,rfl⟩⟩
       rw [f3]
       exact fH S.pr at0
     | _=>exact ZX e nb
   | next=>exact hq.elim
   | brk=>exact hq.elim
   | cont=>exact hq.elim
end
def Ps (X:Cx) (z:Z) (o:av) (f:Flow) (s':ξ):Prop:=match o with
 | .nx t=>f = .next∧∃ z',z'.s=s'∧z'.t=t∧Go X z z'∧Rep X z'
 | .rt d t=>∃ u z',f = .ret u∧z'.s=s'∧z'.t.st=t.st∧Go X z z'∧Rep X z'∧RD X.W z'.ρ z'.G d u
 | _=>False
inductive PxS (X:Cx) (z:Z) (o:av) (x:ζ) (s':ξ):Prop
 | mk (z':_) (c:_) (l:_) (_:z'.s=s') (_:o = .exc c l z'.t) (_:Go X z z') (_:Rep X z') (_:XO X z z' c l x)
abbrev Ws (X:Cx) (t:F1 Flow) (z:Z) (o:av):Prop:=Α X.M X.A t (Ps X z o) (PxS X z o) z.s
def LS (X:Cx) (st:Ó) (c:S):Prop:=∀ z,Rep X z→X.ex c z.t≠.bad→Ws X (exec st X.env) z (X.ex c z.t)
def LSs (X:Cx) (st:List Ó) (c:S):Prop:=∀ z,Rep X z→X.ex c z.t≠.bad→Ws X (execs st X.env) z (X.ex c z.t)
section
variable {X:Cx} {z z' z0 z1:Z}
theorem Ps.less (x:Go X z z1) (h:Ps X z1 o f s'):Ps X z o f s':=by
 cases o with
 | nx t=>obtain ⟨e,z',a,b,y,I⟩:=h;exact ⟨e,z',a,b,x.trans y,I⟩
 | rt d t=>obtain ⟨u,z',e,a,b,y,I⟩:=h;exact ⟨u,z',e,a,b,x.trans y,I⟩
 | _=>exact h
theorem PxS.less (x:Go X z z1) (h:PxS X z1 o u s'):PxS X z o u s':=let ⟨z',c,l,e,q,y,I,n⟩:=h;⟨z',c,l,e,q,x.trans y,I,n.less fun _=>x.st.no⟩
theorem PxS.of {m:Out α} (x:Go X z z1) (h:Px X z1 m u s') {f:α→Sta→av}:PxS X z (m.go f) u s':=let ⟨z',c,l,e,q,y,I,n⟩:=h;⟨z',c,l,e,by rw [q];rfl,x.trans y.go,I,n.less fun _=>x.st.no⟩
theorem Jg.gos {t:F1 β} {m:Sta→Out α} {R:Z→α→β→Prop} {f:α→Sta→av} {o:av} {K:β→ξ→Prop} (h:Jg X t m R) (x:Go X z z1) (I:Rep X z1) (e:o=(m z1.t).go f) (nb:o≠.bad)
 (k:∀ z2 d u,Ee X z1 z2→Go X z z2→Rep X z2→R z2 d u→o=f d z2.t→K u z2.s):Α X.M X.A t K (PxS X z o) z1.s:=by
 subst e
 refine Τ (h z1 I fun q=>nb (by rw [q];rfl)) (fun u s' ⟨z2,d,e,q,y,I1,r⟩=>?_) fun u s' h=>.of x h
 subst e;exact k z2 d u y (x.trans y.go) I1 r (by rw [q];rfl)
theorem nxt (x:Go X z z1) (I:Rep X z1) (e:o = .nx z1.t):Ps X z o .next z1.s:=by subst e;exact ⟨rfl,z1,rfl,rfl,x,I⟩
theorem LSs.at (h:LSs X sts c) (x:Go X z z1) (I:Rep X z1) (e:o=X.ex c z1.t) (nb:o≠.bad):Α X.M X.A (execs sts X.env) (Ps X z o) (PxS X z o) z1.s:=by subst e;exact Τ (h z1 I nb) (fun _ _ h=>h.less x) fun _ _ h=>h.less x
theorem qN:LSs X [] .skip:=fun z I _=>į (nxt .refl I rfl)
theorem qO (h:LS X tm c):LSs X [tm] c:=fun z I nb=>Š (thn (h z I nb) fun f s1 q=>by
 cases f with
 | next=>exact į q
 | ret v=>exact q
 | brk=>exact q
 | cont=>exact q)
theorem mC (h1:LS X tm a) (h2:LSs X rest b):LSs X (tm :: rest) (.seq a b):=fun z I nb=>by
 have nb1:X.ex a z.t≠.bad:=fun q=>nb (show av.go (X.ex a z.t) _=_ by rw [q];rfl)
 refine Š (Τ (h1 z I nb1) (fun f s1 q=>?_) fun u s' ⟨z',c,l,e,q,y,J,r⟩=>⟨z',c,l,e,show av.go (X.ex a z.t) _=_ by rw [q];rfl,y,J,r⟩)
 cases qa:X.ex a z.t with
 | nx t=>
   rw [qa] at q
   obtain ⟨rfl,z1,rfl,rfl,x1,I1⟩:=q
   exact h2.at x1 I1 (show av.go (X.ex a z.t) _=_ by rw [qa];rfl) nb
 | rt d t=>
   have e:X.ex (.seq a b) z.t = .rt d t:=show av.go (X.ex a z.t) _=_ by rw [qa];rfl
   rw [qa] at q
   obtain ⟨u,z1,rfl,r⟩:=q
   show Ps X z (X.ex (.seq a b) z.t) (.ret u) s1
   rw [e];exact ⟨u,z1,rfl,r⟩
 | exc c l t=>rw [qa] at q;exact q.elim
 | bad=>exact ZX qa nb1
theorem mD (h:∀ z,Rep X z→Α X.M X.A (exec tm X.env) (fun f s'=>f = .next∧Gr z.s s') NoE z.s):LS X tm .skip:=fun z I _=>Τ (h z I) (fun f s' ⟨e,g⟩=>by subst e;exact nxt (z1:={ z with s:=s' }) (ak I.gh g).ee.go (I.grow (ak I.gh g)) rfl) fun _ _ z=>z.elim
theorem uD:LS X (.Pass pos) .skip:=mD fun _ _=>wpAny_Pass ⟨rfl,.refl⟩
theorem Rep.quiet (I:Rep X z):interactive X.env=false:=by simp [interactive,I.ok.kd]
theorem yn:LS X (.Expr (.Constant (.str x) j pos) pos') .skip:=mD fun z I=>wpAny_Expr (à (show _∧_ from ⟨rfl,.tok⟩)) I.quiet
theorem uz (he:LE X e c) (hs:D6 e none pos.line X.env=pure false):LS X (.Expr e pos) (.drop c):=fun z I nb=>ŀ ((he false).gos .refl I rfl nb fun z1 d u y x I1 r e1=>nxt x I1 e1) I.quiet hs
theorem lD (he:LE X e c):LS X (.Return (some e) pos) (.ret c):=fun z I nb=>wpAny_Return_some ((he false).gos .refl I rfl nb fun z1 d u y x I1 r e1=>by
 show Ps X z (X.ex (.ret c) z.t) _ _
 rw [e1];exact ⟨u,z1,rfl,rfl,rfl,x,I1,r.rd⟩)
theorem uG:LS X (.Return none pos) (.ret (.c .non)):=fun z I nb=>wpAny_Return_none ⟨.none,z,rfl,rfl,rfl,.refl,I,rfl⟩
theorem Bf (hc:LT X ec c) (ha:LSs X sa a) (hb:LSs X sb b):LS X (.If ec sa sb pos) (.ifs c a b):=fun z I nb=>by
 have e:X.ex (.ifs c a b) z.t=((X.ev true c z.t).bind toB).go fun t s=>if t then X.ex a s else X.ex b s:=by
  show Out.go (X.ev true c z.t) _=_
  cases X.ev true c z.t with
  | ok d s=>cases d <;> first | rfl | (rename_i t;cases t <;> rfl)
  | _=>rfl
 refine wpAny_If (hc.gos .refl I e nb fun z1 t u y x I1 r e1=>?_)
 cases (show u=t from r)
 cases t with
 | true=>exact ha.at x I1 e1 nb
 | false=>exact hb.at x I1 e1 nb
def Vl (X:Cx) (z0 z:Z) (own:Bool) (d:D) (u:ζ):Prop:=match own with
 | false=>RD X.W z.ρ z.G d u
 | true=>FV X z0 z d u
def stV (t:Sta) (i:Nat) (d:D) (own:Bool):Sta:=⟨t.env.set i (some d),if own then i :: t.ow.filter (· != i) else t.ow.filter (· != i),t.st⟩
theorem iZ {h h' base:ϳ} (k:∀ b o,h.get? b=some o→(∀ vs,o.data≠.fields vs)→∃ o',h'.get? b=some o'∧∀ vs,o'.data≠.fields vs):∀ {l:List Dz},h.FunFrames base l→h'.FunFrames base l
 | [],_=>trivial
 | _ :: _,⟨a,⟨L,o,e1,e2,e3,e4⟩,r⟩=>let ⟨o',q1,q2⟩:=k L o e3 e4;⟨a,⟨L,o',e1,e2,q1,q2⟩,iZ k r⟩
theorem Rep.put {s':ξ} {i:Nat} {own:Bool} {d:D} {u:ζ} (x0:Go X z0 z) (I:Rep X z) (sb:õ a z.s.heap s'.heap) (la:Lc X a) (th:∃ o,s'.heap.get? a=some o∧∀ vs,o.data≠.fields vs) (os:s'.os=z.s.os) (gs:s'.gens=z.s.gens) (vl:Vl X z0 z own d u) (hi:i<X.N.length)
 (lo:∃ m,s'.heap.Ns X.env.locals m∧∀ (j:Nat) (x:ν) (w:ζ),X.N[j]? = some x→(z.σ.set i (some u))[j]? = some (some w)→Vis X.env.scope x→kL X.env s'.heap m x w)
 (ce:∀ x c,X.env.cells.lookup x=some c→∃ v,s'.heap.IsCell c v):Rep X { z with t:=stV z.t i d own,σ:=z.σ.set i (some u),s:=s' }∧Go X z0 { z with t:=stV z.t i d own,σ:=z.σ.set i (some u),s:=s' }:=by
 have ne:∀ {b:Β},¬ Lc X b→s'.heap.get? b=z.h b:=fun n=>sb.2 _ fun e=>n (e ▸ la)
 have nG:∀ {b o},z.G b=some o→¬ Lc X b:=fun e l=>by rw [(I.fl _ l).1] at e;cases e
 have nM:∀ {b},Mu z.ρ b→¬ Lc X b:=fun m l=>(I.fl _ l).2 m
 have hiσ:i<z.σ.length:=by rw [I.sl];exact hi
 have ow:∀ {j},j∈(stV z.t i d own).ow→(j=i∧own=true)∨(j≠i∧j∈z.t.ow):=fun {j} m=>by
  cases own with
  | true=>
    rcases π.mp (show j∈i :: z.t.ow.filter (· != i) from m) with w | w
    ·exact .inl ⟨w,rfl⟩
    ·have:=ϕ.mp w;exact .inr ⟨by simpa using this.2,this.1⟩
  | false=>have:=ϕ.mp (show j∈z.t.ow.filter (· != i) from m);exact .inr ⟨by simpa using this.2,this.1⟩
 have wo:∀ {j},j≠i→j∈z.t.ow→j∈(stV z.t i d own).ow:=fun {j} n m=>by
  have w:j∈z.t.ow.filter (· != i):=ϕ.mpr ⟨m,by simpa using n⟩
  cases own with
  | true=>exact κ _ w
  | false=>exact w
 have get:∀ {j},j≠i→(z.σ.set i (some u))[j]? = z.σ[j]?:=fun h=>Φ (Ϥ h)
 have gete:∀ {j},j≠i→(z.t.env.set i (some d))[j]? = z.t.env[j]?:=fun h=>Φ (Ϥ h)
 have gi:(z.σ.set i (some u))[i]? = some (some u):=Ϭ hiσ
 have gie:(z.t.env.set i (some d))[i]? = some (some d):=Ϭ (by rw [I.el];exact hiσ)
 have fu:s'.heap.FunFrames X.base X.fr:=iZ (fun b o e nf=>by
  by_cases q:b=a
  ·subst q;exact th
  ·exact ⟨o,(sb.2 b q).trans e,nf⟩) I.fu
 have th':∀ b o,z.h b=some o→∃ o',s'.heap.get? b=some o':=fun b o e=>by
  by_cases q:b=a
  ·subst q;exact th.imp fun _ h=>h.1
  ·exact ⟨o,(sb.2 b q).trans e⟩
 have S:Stp X.fr (Pv X z) z { z with t:=stV z.t i d own,σ:=z.σ.set i (some u),s:=s' }:=⟨μ _,.refl _,fun _ _ e=>.inl e,fun _ m=>.inl m,th',fun b o e _ w _=>(ne fun l=>w (.inr l)).trans e,fun b o e _ w _=>⟨o.slots,(ne fun l=>w (.inr l)).trans e⟩⟩
 refine ⟨⟨⟨I.md,I.fm,I.hd,I.bs,fun b o e=>(ne (nG e)).trans (I.gh b o e),I.rl,I.rn,I.rg,fun n o p h1 h2=>(I.ob n o p h1 h2).mono (μ _) (.refl _) fun b hb o e=>(ne (nM ⟨p,φ h2,hb⟩)).trans e,fu,I.ff,by show Ŗ s'.gens;rw [gs];exact I.br,os.trans I.os⟩,I.ok,lo,ce,I.fl,by show (z.t.env.set i (some d)).length=(z.σ.set i (some u)).length;rw [É,É];exact I.el,by show (z.σ.set i (some u)).length=_;rw [É];exact I.sl,fun j d' n e=>?_,fun j m=>?_,fun j k b m1 m2 e1 e2=>?_⟩,x0.st.trans S fun b w=>w.elim (fun w=>(x0.ow b w).imp_left .inl) fun w=>.inl (.inr w),fun b ⟨j,m,e⟩=>?_⟩
 ·by_cases q:j=i
  ·subst q
   rw [show (z.t.env.set j (some d))[j]? = some (some d') from e] at gie;cases gie
   cases own with
   | true=>exact ZX ι n
   | false=>exact ⟨u,gi,vl⟩
  ·obtain ⟨w,e1,r⟩:=I.en j d' (fun m=>n (wo q m)) ((gete q).symm.trans e)
   exact ⟨w,(get q).trans e1,r⟩
 ·rcases ow m with ⟨rfl,rfl⟩ | ⟨q,m⟩
  ·obtain ⟨b,o,rfl,_,t,r,f,no⟩:=vl
   exact ⟨d,b,o,gie,gi,t,r.mono (μ _) (.refl _) fun c hc o e=>(ne (by rcases hc with rfl | rfl <;> exact f.2.2.2)).trans e,f⟩
  ·obtain ⟨d',b,o,h1,h2,h3,r,f⟩:=I.eo j m
   exact ⟨d',b,o,(gete q).trans h1,(get q).trans h2,h3,r.mono (μ _) (.refl _) fun c hc o e=>(ne (by rcases hc with rfl | rfl <;> exact f.2.2.2)).trans e,f⟩
 ·have new:∀ {k:Nat} {b:Β},own=true→k∈z.t.ow→(z.σ.set i (some u))[i]? = some (some (.ref b))→z.σ[k]? = some (some (.ref b))→False:=fun {k b} ho mk w1 w2=>by
   subst ho
   obtain ⟨b',o,rfl,_,t,r,f,no⟩:=vl
   rw [gi] at w1;cases w1
   exact no ⟨k,mk,w2⟩
  rcases ow m1 with ⟨h1,ho⟩ | ⟨q1,n1⟩ <;> rcases ow m2 with ⟨h2,ho2⟩ | ⟨q2,n2⟩
  ·exact h1.trans h2.symm
  ·exact (new ho n2 (h1 ▸ e1) ((get q2).symm.trans e2)).elim
  ·exact (new ho2 n1 (h2 ▸ e2) ((get q1).symm.trans e1)).elim
  ·exact I.od j k b n1 n2 ((get q1).symm.trans e1) ((get q2).symm.trans e2)
 ·rcases ow m with ⟨rfl,rfl⟩ | ⟨q,m⟩
  ·obtain ⟨b',o,rfl,n,_⟩:=vl
   rw [show (z.σ.set j (some (.ref b')))[j]? = some (some (.ref b)) from e] at gi;cases gi
   exact .inr n
  ·exact x0.ow b ⟨j,m,(get q).symm.trans e⟩
theorem Rep.cne (I:Rep X z):∀ x c,X.env.cells.lookup x=some c→c≠X.env.locals:=fun x c e q=>by
 obtain ⟨v,o,ho,hd⟩:=I.ce x c e
 obtain ⟨m,⟨o',es,ep,ho',hd',_⟩,_⟩:=I.lo
 rw [q,ho'] at ho;cases ho;rw [hd'] at hd;cases hd
theorem cj {i:Nat} {x:ν} {own:Bool} {d:D} {u:ζ} {Q:Unit→ξ→Prop} {E:ζ→ξ→Prop} (x0:Go X z0 z) (I:Rep X z) (hN:X.N.Nodup) (hi:X.N[i]? = some x) (hx:Loc X.env.scope x) (vl:Vl X z0 z own d u)
 (h:∀ s' a,õ a z.s.heap s'.heap→Lc X a∧(X.env.scope.names.lookup x=some .local→a=X.env.locals)→Rep X { z with t:=stV z.t i d own,σ:=z.σ.set i (some u),s:=s' }→Go X z0 { z with t:=stV z.t i d own,σ:=z.σ.set i (some u),s:=s' }→Q () s'):Α X.M X.A (storeName X.env x u) Q E z.s:=by
 obtain ⟨m,hn,hl⟩:=id I.lo
 have hcls:(X.env.scope.kind == .class || (X.env.scope.kind == .module && X.env.locals != X.env.globals))=false:=by rw [I.ok.kd];rfl
 have il:i<X.N.length:=(ς.mp hi).1
 have hiσ:i<z.σ.length:=by rw [I.sl];exact il
 rcases hx with hk | hk
 ·refine FJ hk hn (fun h' hn' hs=>?_) hcls
  have ⟨oL,es,ep,hoL,hdL,_⟩:=hn'
  have lo:∀ (j:Nat) (y:ν) (w:ζ),X.N[j]? = some y→(z.σ.set i (some u))[j]? = some (some w)→Vis X.env.scope y→kL X.env h' (fun y=>if y=x then some u else m y) y w:=fun j y w e1 e2 e3=>by
   by_cases hj:j=i
   ·subst hj
    rw [hi] at e1;cases e1
    rw [Ϭ hiσ] at e2;cases e2
    exact .inl ⟨hk,by simp⟩
   ·rw [Φ (Ϥ hj)] at e2
    rcases hl j y w e1 e2 e3 with ⟨k,e⟩ | ⟨k,c,e,q⟩
    ·have:y≠x:=fun e=>hj (gv hN e1 (e ▸ hi))
     exact .inl ⟨k,by simp [this,e]⟩
    ·exact .inr ⟨k,c,e,q.sameBut hs (I.cne y c e)⟩
  obtain ⟨I',g'⟩:=Rep.put (s':={ z.s with heap:=h',toks:=z.s.toks+1 }) x0 I hs (.inl rfl) ⟨oL,hoL,fun vs e=>by rw [hdL] at e;cases e⟩ rfl rfl vl il ⟨_,hn',lo⟩ fun y c e=>let ⟨v,q⟩:=I.ce y c e;⟨v,q.sameBut hs (I.cne y c e)⟩
  exact h _ _ hs ⟨.inl rfl,fun _=>rfl⟩ I' g'
 ·obtain ⟨c,hc⟩:=I.ok.ch x (.inl hk)
  obtain ⟨w',q0⟩:=I.ce x c hc
  refine wpAny_storeName_cell I.ok.kd hk hc q0 (fun h' hc' hs=>?_)
  have ⟨oc,hoc,hdc⟩:=hc'
  have lo:∀ (j:Nat) (y:ν) (w:ζ),X.N[j]? = some y→(z.σ.set i (some u))[j]? = some (some w)→Vis X.env.scope y→kL X.env h' m y w:=fun j y w e1 e2 e3=>by
   by_cases hj:j=i
   ·subst hj
    rw [hi] at e1;cases e1
    rw [Ϭ hiσ] at e2;cases e2
    exact .inr ⟨.inl hk,c,hc,hc'⟩
   ·rw [Φ (Ϥ hj)] at e2
    rcases hl j y w e1 e2 e3 with q | ⟨k,c',e,q⟩
    ·exact .inl q
    ·refine .inr ⟨k,c',e,q.sameBut hs ?_⟩
     rintro rfl
     exact hj (gv hN e1 (I.ok.ci _ _ _ e hc ▸ hi))
  have ce:∀ y c',X.env.cells.lookup y=some c'→∃ v,h'.IsCell c' v:=fun y c' e=>by
   by_cases hcc:c'=c
   ·subst hcc;exact ⟨_,hc'⟩
   ·obtain ⟨w2,q2⟩:=I.ce y c' e
    exact ⟨w2,q2.sameBut hs hcc⟩
  obtain ⟨I',g'⟩:=Rep.put (s':={ z.s with heap:=h' }) x0 I hs (.inr ⟨x,hc⟩) ⟨oc,hoc,fun vs e=>by rw [hdc] at e;cases e⟩ rfl rfl vl il ⟨m,hn.sameBut hs (Ϥ (I.cne x c hc)),lo⟩ ce
  exact h _ _ hs ⟨.inr ⟨x,hc⟩,fun e=>by rw [show X.env.scope.names.lookup x=some .cell from hk] at e;cases e⟩ I' g'
theorem lF (hN:X.N.Nodup) (hi:X.N[i]? = some x) (hx:Loc X.env.scope x) (he:LE X e c) (hf:bp c=true→LF X e c) (hs:D6 e (some (.Name x pos')) pos.line X.env=pure false):LS X (.Assign [.Name x pos'] e pos) (.set i c):=fun z I nb=>by
 refine H0 ?_ hs
 cases f:bp c with
 | false=>
   refine (he false).gos .refl I rfl nb fun z1 d u y x0 I1 r e1=>cj (own:=false) x0 I1 hN hi hx r.rd fun s' a _ _ I' g'=>nxt (z1:={ z1 with t:=stV z1.t i d false,σ:=z1.σ.set i (some u),s:=s' }) g' I' ?_
   rw [e1];unfold lP;rw [f];rfl
 | true=>
   have nb1:X.ev false c z.t≠.bad:=fun q=>nb (show Out.go (X.ev false c z.t) _=_ by rw [q];rfl)
   refine Τ (hf f z I nb1) (fun u s' ⟨z1,d,q1,q2,y,I1,fv⟩=>?_) fun u s' h=>.of .refl h
   subst q1
   refine cj (own:=true) y.go I1 hN hi hx fv fun s' a _ _ I' g'=>nxt (z1:={ z1 with t:=stV z1.t i d true,σ:=z1.σ.set i (some u),s:=s' }) g' I' ?_
   show Out.go (X.ev false c z.t) _=_
   rw [q2]
   show av.nx (lP z1.t i d (bp c))=_
   unfold lP
   have ld:xC d=true:=by
    obtain ⟨_,_,_,_,t,_⟩:=fv
    cases d <;> first | rfl | cases t
   rw [f,ld];rfl
end
def aE:Κ→Bool
 | .Starred ..=>false
 | .Set ..=>false
 | .Slice ..=>false
 | _=>true
section
variable {X:Cx} {z z' z0 z1:Z}
theorem yP {o:O} {hp:Hp} (q:ObR W ρ G hp (a,b) o) (e:∃ d:D,toO d=some o):∃ ob,hp a=some ob∧∀ vs,ob.data≠.fields vs:=by
 obtain ⟨d,e⟩:=e
 cases d <;> cases e
 ·obtain ⟨o,vs,_,q,⟨⟨n,rfl⟩,_⟩,_⟩:=q;exact ⟨_,q,nofun⟩
 ·obtain ⟨o,vs,_,_,q,⟨es,ep,_,w,_⟩,_⟩:=q;exact ⟨_,q,fun v z=>by rw [w] at z;cases z⟩
theorem Rep.ownw {s':ξ} {i:Nat} {d':D} {o':O} (I:Rep X z) (m:i∈z.t.ow) (ea:z.σ[i]? = some (some (.ref a))) (t:toO d'=some o') (sb:∀ b,b≠a→s'.heap.get? b=z.h b) (r:ObR X.W z.ρ z.G s'.heap.get? (a,a) o') (os:s'.os=z.s.os) (gs:s'.gens=z.s.gens) :
 Rep X { z with t:=⟨z.t.env.set i (some d'),z.t.ow,z.t.st⟩,s:=s' }∧Go X z { z with t:=⟨z.t.env.set i (some d'),z.t.ow,z.t.st⟩,s:=s' }:=by
 obtain ⟨f,oa,ha⟩:=I.oth ⟨i,m,ea⟩
 have nM:∀ {b},Mu z.ρ b→b≠a:=fun h e=>f.2.1 (e ▸ h)
 have nG:∀ {b o},z.G b=some o→b≠a:=fun h e=>by rw [e,f.1] at h;cases h
 have nL:∀ {b},Lc X b→b≠a:=fun h e=>f.2.2.2 (e ▸ h)
 have nf:∀ {b},b∈frs X.fr→b≠a:=fun h e=>f.2.2.1 (e ▸ h)
 obtain ⟨on,hn,_⟩:=yP r ⟨d',t⟩
 have hie:i<z.t.env.length:=by obtain ⟨d,_,_,e,_⟩:=I.eo i m;exact (ς.mp e).1
 have ck:∀ x c v,X.env.cells.lookup x=some c→z.s.heap.IsCell c v→s'.heap.IsCell c v:=fun x c v e ⟨o,q,d⟩=>⟨o,(sb c (nL (.inr ⟨x,e⟩))).trans q,d⟩
 have fu:s'.heap.FunFrames X.base X.fr:=by
  have:∀ {l:List Dz},(∀ b∈frs l,b≠a)→z.s.heap.FunFrames X.base l→s'.heap.FunFrames X.base l:=fun {l}=>by
   induction l with
   | nil=>exact fun _ _=>trivial
   | cons v r ih=>
     intro hs ⟨k,⟨L,o,e1,e2,e3,e4⟩,q⟩
     have hm:L∈frs (v :: r):=by unfold frs;rw [ϣ,e1];exact ι
     exact ⟨k,⟨L,o,e1,e2,(sb L (hs L hm)).trans e3,e4⟩,ih (fun b hb=>hs b (by unfold frs;rw [ϣ,e1];exact κ _ hb)) q⟩
  exact this (fun b h=>nf h) I.fu
 refine ⟨⟨⟨I.md,I.fm,I.hd,I.bs,fun b o e=>(sb b (nG e)).trans (I.gh b o e),I.rl,I.rn,I.rg,fun n o p h1 h2=>(I.ob n o p h1 h2).mono (μ _) (.refl _) fun b hb o e=>(sb b (nM ⟨p,φ h2,hb⟩)).trans e,fu,I.ff,by show Ŗ s'.gens;rw [gs];exact I.br,os.trans I.os⟩,I.ok,?_,fun x c e=>let ⟨v,q⟩:=I.ce x c e;⟨v,ck x c v e q⟩,I.fl,by show (z.t.env.set i (some d')).length=_;rw [É];exact I.el,I.sl,fun j d n e=>?_,fun j mj=>?_,I.od⟩,⟨μ _,.refl _,fun _ _ e=>.inl e,fun _ m=>.inl m,fun b o e=>?_,fun b o e _ w _=>(sb b fun q=>w (.inl (q ▸ ⟨i,m,ea⟩))).trans e,fun b o e _ w _=>⟨o.slots,(sb b fun q=>w (.inl (q ▸ ⟨i,m,ea⟩))).trans e⟩⟩,fun b ⟨j,mj,e⟩=>.inl ⟨j,mj,e⟩⟩
 ·obtain ⟨mm,⟨oL,es,ep,q,r⟩,hl⟩:=I.lo
  exact ⟨mm,⟨oL,es,ep,(sb _ (nL (.inl rfl))).trans q,r⟩,fun j x w e1 e2 e3=>cW (fun c v e q=>ck x c v e q) (hl j x w e1 e2 e3)⟩
 ·have q:j≠i:=fun q=>n (q ▸ m)
  exact I.en j d n ((Φ (Ϥ q)).symm.trans e)
 ·by_cases q:j=i
  ·subst q;exact ⟨d',a,o',Ϭ hie,ea,t,r,f⟩
  ·obtain ⟨d,b,o,h1,h2,h3,r,f⟩:=I.eo j mj
   have nb:b≠a:=fun w=>q (I.od j i b mj m h2 (w ▸ ea))
   exact ⟨d,b,o,(Φ (Ϥ q)).trans h1,h2,h3,r.mono (μ _) (.refl _) fun c hc o e=>(sb c (by rcases hc with rfl | rfl <;> exact nb)).trans e,f⟩
 ·by_cases q:b=a
  ·subst q;exact ⟨on,hn⟩
  ·exact ⟨o,(sb b q).trans e⟩
theorem Rep.stw {s':ξ} {n:Nat} {o':O} {p:Β×Β} {e:Β} (I:Rep X z) (ep:z.ρ[n]? = some p) (he:e=p.1∨e=p.2) (sb:∀ b,b≠e→s'.heap.get? b=z.h b) (r:ObR X.W z.ρ z.G s'.heap.get? p o') (os:s'.os=z.s.os) (gs:s'.gens=z.s.gens) :
 Rep X { z with t:=⟨z.t.env,z.t.ow,z.t.st.set n o'⟩,s:=s' }∧Go X z { z with t:=⟨z.t.env,z.t.ow,z.t.st.set n o'⟩,s:=s' }:=by
 have mu:Mu z.ρ e:=⟨p,φ ep,he⟩
 have nG:∀ {b o},z.G b=some o→b≠e:=fun h q=>by rw [q,I.rg e mu] at h;cases h
 have nL:∀ {b},Lc X b→b≠e:=fun h q=>(I.fl _ h).2 (q ▸ mu)
 have nf:∀ {b},b∈frs X.fr→b≠e:=fun h q=>(I.ff _ h).2 (q ▸ mu)
 have nO:∀ {b},Own z b→b≠e:=fun h q=>(I.oth h).1.2.1 (q ▸ mu)
 have ck:∀ x c v,X.env.cells.lookup x=some c→z.s.heap.IsCell c v→s'.heap.IsCell c v:=fun x c v e ⟨o,q,d⟩=>⟨o,(sb c (nL (.inr ⟨x,e⟩))).trans q,d⟩
 have fu:s'.heap.FunFrames X.base X.fr:=by
  have:∀ {l:List Dz},(∀ b∈frs l,b≠e)→z.s.heap.FunFrames X.base l→s'.heap.FunFrames X.base l:=fun {l}=>by
   induction l with
   | nil=>exact fun _ _=>trivial
   | cons v r ih=>
     intro hs ⟨k,⟨L,o,e1,e2,e3,e4⟩,q⟩
     have hm:L∈frs (v :: r):=by unfold frs;rw [ϣ,e1];exact ι
     exact ⟨k,⟨L,o,e1,e2,(sb L (hs L hm)).trans e3,e4⟩,ih (fun b hb=>hs b (by unfold frs;rw [ϣ,e1];exact κ _ hb)) q⟩
  exact this (fun b h=>nf h) I.fu
 obtain ⟨⟨o1,h1⟩,⟨o2,h2⟩⟩:=r.th
 have hn:n<z.t.st.length:=by rw [← I.rl];exact (ς.mp ep).1
 refine ⟨⟨⟨I.md,I.fm,I.hd,I.bs,fun b o w=>(sb b (nG w)).trans (I.gh b o w),by show _=(z.t.st.set n o').length;rw [É];exact I.rl,I.rn,I.rg,fun k o q h1 h2=>?_,fu,I.ff,by show Ŗ s'.gens;rw [gs];exact I.br,os.trans I.os⟩,I.ok,?_,fun x c w=>let ⟨v,q⟩:=I.ce x c w;⟨v,ck x c v w q⟩,I.fl,I.el,I.sl,I.en,fun j mj=>?_,I.od⟩,⟨μ _,.refl _,fun _ _ w=>.inl w,fun _ m=>.inl m,fun b o w=>?_,fun b o w q _ _=>(sb b fun z=>q (z ▸ mu)).trans w,fun b o w q _ _=>⟨o.slots,(sb b fun z=>q (z ▸ mu)).trans w⟩⟩,fun b w=>.inl w⟩
 ·by_cases c:k=n
  ·subst c
   have h1:(z.t.st.set k o')[k]? = some o:=h1
   rw [Ϭ hn] at h1;cases h1
   rw [show z.ρ[k]? = some q from h2] at ep;cases ep
   exact r
  ·exact (I.ob k o q ((Φ (Ϥ c)).symm.trans h1) h2).mono (μ _) (.refl _) fun b hb o w=>(sb b fun w'=>c (I.rn k n q p b h2 ep hb (w' ▸ he))).trans w
 ·obtain ⟨mm,⟨oL,es,ep,q,r⟩,hl⟩:=I.lo
  exact ⟨mm,⟨oL,es,ep,(sb _ (nL (.inl rfl))).trans q,r⟩,fun j x w e1 e2 e3=>cW (fun c v e q=>ck x c v e q) (hl j x w e1 e2 e3)⟩
 ·obtain ⟨d,b,o,h1,h2,h3,r,f⟩:=I.eo j mj
  exact ⟨d,b,o,h1,h2,h3,r.mono (μ _) (.refl _) fun c hc o w=>(sb c (by rcases hc with rfl | rfl <;> exact nO ⟨j,mj,h2⟩)).trans w,f⟩
 ·by_cases q:b=e
  ·rcases he with w | w
   ·exact ⟨o1,by rw [q,w];exact h1⟩
   ·exact ⟨o2,by rw [q,w];exact h2⟩
  ·exact ⟨o,(sb b q).trans w⟩
structure M1 (X:Cx) (o:Κ) (m:ν) (apos:ϭ) (e:Κ) (cpos:ϭ):Prop where
 base:Ĉ o m X.env (eval o X.env)=eval o X.env
 few:((ϻ cpos (Ε [e] X.env)).all (fun x=>!x.1) && (Ï cpos (Ϩ [] X.env)).all (fun x=>x.1.isSome) && decide (([e]:List Κ).length+([]:List ŭ).length+(if ([]:List ŭ).isEmpty then 0 else 1)<30))=true
 line:(apos.endLine == cpos.line)=true
 trees:ϻ cpos (Ε [e] X.env) = [(false,eval e X.env)]
theorem fG {i:Nat} (I:Rep X z) (m:i∈z.t.ow) (e:z.t.env[i]? = some (some (.lst l))):∃ a vs n,z.σ[i]? = some (some (.ref a))∧z.h a=some { cls:=.type "list",data:=.seq vs.toArray n }∧RDs X.W z.ρ z.G l vs:=by
 obtain ⟨d,a,o,h1,h2,h3,r,f⟩:=I.eo i m
 rw [e] at h1;cases h1;cases h3
 obtain ⟨o,vs,_,q,⟨⟨n,rfl⟩,_⟩,r⟩:=r
 exact ⟨a,vs,n,h2,q,r⟩
theorem eH {z:Z} {vs ws:List ζ} {f:Array ζ→Array ζ} (e:z.h a=some { cls:=.type "list",data:=.seq vs.toArray n }) (hf:f vs.toArray=ws.toArray) (hz:ws.length≤Ϛ):(∃ o,(z.s.heap.update a (ì f)).get? a=some o∧LsO o ws)∧∀ b,b≠a→(z.s.heap.update a (ì f)).get? b=z.h b:=
 ⟨⟨_,ϡ _ e rfl,⟨_,by simp only [ì,hf];rfl⟩,hz⟩,fun b n=>ύ _ _ (Ϥ n)⟩
theorem yk {i:Nat} {x:ν} (hN:X.N[i]? = some x) (hv:Vis X.env.scope x) (hd:(x == ("__debug__":ν))=false) (hcd:(x == ("__classdict__":ν))=false) (he:LE X e c) (m:M1 X (.Name x p) "append" apos e cpos):LS X (.Expr (.Call (.Attribute (.Name x p) "append" apos) [e] [] cpos) pos) (.app i c):=fun z I nb=>by
 have e0:X.ex (.app i c) z.t=(if z.t.ow.contains i && isLst z.t.env[i]? then (X.ev false c z.t).go fun d s=>if s.ow.contains i then (match s.env[i]? with
  | some (some (.lst l))=>if l.length<100000 then .nx ⟨s.env.set i (some (.lst (l ++ [d]))),s.ow,s.st⟩ else .bad
  | _=>.bad) else .bad else .bad):=rfl
 by_cases c0:(z.t.ow.contains i && isLst z.t.env[i]?)=true
 ·rw [ZZ c0] at e0
  rw [Υ] at c0
  have mi:i∈z.t.ow:=by simpa using c0.1
  obtain ⟨l,el⟩:∃ l,z.t.env[i]? = some (some (.lst l)):=by
   have:=c0.2
   unfold isLst at this
   split at this
   ·rename_i l q;exact ⟨l,q⟩
   ·cases this
  obtain ⟨a,vs,n,es,ha,r⟩:=fG I mi el
  refine ŀ (Ù m.base m.few m.line Ķ ê E4 (bU I hN hv es ⟨⟨_,ha,rfl⟩,fun b q=>(by cases q;exact ⟨_,ha,rfl⟩),?_⟩ hd hcd)) I.quiet rfl
  rw [m.trees]
  refine ϫ rfl (ϰ (Η ((he false).gos .refl I e0 nb fun z1 d u y x1 I1 r1 e1=>Ξ ?_)))
  by_cases c1:z1.t.ow.contains i=true
  ·rw [ZZ c1] at e1
   have m1:i∈z1.t.ow:=by simpa using c1
   have el1:z1.t.env[i]? = some (some (.lst l)):=by rw [y.en];exact el
   rw [el1] at e1
   dsimp only at e1
   obtain ⟨a',vs,n,es',ha,r⟩:=fG I1 m1 el1
   rw [y.sg,es] at es';cases es'
   by_cases c2:l.length<100000
   ·rw [ZZ c2] at e1
    have hz:vs.length<100000:=by rw [← r.len];exact c2
    refine DL ê ⟨_,ha,rfl⟩ ĥ (ģ _ _) (D1 a vs.toArray n u (by rw [Λ];exact ø (Í hz (big (Ψ _))))) ⟨ha,?_⟩
    obtain ⟨⟨o1,u1,u3⟩,u2⟩:=eH (f:=(·.push u)) (ws:=vs ++ [u]) ha (by simp) (by rw [υ];exact big (by simp;omega))
    obtain ⟨I2,g2⟩:=I1.ownw (s':={ z1.s with heap:=z1.s.heap.update a (ì (·.push u)) }) (d':=.lst (l ++ [d])) m1 (by rw [y.sg];exact es) rfl u2 ⟨o1,vs ++ [u],rfl,u1,u3,r.app (.cons r1.rd rfl)⟩ rfl rfl
    exact nxt (x1.trans g2) I2 e1
   ·rw [ZY c2] at e1;exact ZX e1 nb
  ·rw [ZY c1] at e1;exact ZX e1 nb
 ·rw [ZY c0] at e0;exact ZX e0 nb
theorem mR:∀ {ks} {ds} {vs} {k} {d} {v},ks.length=ds.length→RDs W ρ G ds vs→RD W ρ G d v→∃ us,RDs W ρ G (ia ks ds k d) us∧(ks.zip vs).map (fun kv=>if kv.1=k then (kv.1,v) else kv)=ks.zip us
 | [],[],vs,k,d,v,_,h,_=>⟨vs,h,rfl⟩
 | [],_ :: _,_,_,_,_,l,_,_=>by cases l
 | _ :: _,[],_,_,_,_,l,_,_=>by cases l
 | q :: ks,e :: ds,vs,k,d,v,l,⟨u,r,ev,h1,h2⟩,rd=>by
   subst ev
   obtain ⟨us,h3,h4⟩:=mR (k:=k) (ļ l) h2 rd
   by_cases c:q=k
   ·refine ⟨v :: us,⟨v,us,rfl,by rw [ZZ c];exact rd,h3⟩,?_⟩
    show (if q=k then (q,v) else (q,u)) :: (ks.zip r).map _=(q,v) :: ks.zip us
    rw [ZZ c,h4]
   ·refine ⟨u :: us,⟨u,us,rfl,by rw [ZY c];exact h1,h3⟩,?_⟩
    show (if q=k then (q,v) else (q,u)) :: (ks.zip r).map _=(q,u) :: ks.zip us
    rw [ZY c,h4]
theorem mU:∀ {ks} {ds} {k} {d},(ia ks ds k d).length=ds.length
 | [],_,_,_=>by unfold ia;rfl
 | _ :: _,[],_,_=>by unfold ia;rfl
 | _ :: ks,_ :: ds,k,d=>by show (ia ks ds k d).length+1=ds.length+1;rw [mU]
theorem ik:∀ {ks:List Key} {vs:List ζ} {k:Key},ks.length=vs.length→((ks.zip vs).any fun kv=>decide (kv.1=k))=ks.any fun q=>decide (q=k)
 | [],_,_,_=>rfl
 | _ :: _,[],_,l=>by cases l
 | q :: ks,v :: vs,k,l=>by
   show (decide (q=k) || (ks.zip vs).any _)=(decide (q=k) || ks.any _)
   rw [ik (ļ l)]
theorem oI (l:ks.length=ds.length) (r:RDs W ρ G ds vs) (rd:RD W ρ G d v):∃ us,stored (ks.zip vs) k v=(bW ks ds k d).1.zip us∧(bW ks ds k d).1.length=(bW ks ds k d).2.length∧RDs W ρ G (bW ks ds k d).2 us∧(bW ks ds k d).1.length≤ks.length+1:=by
 have lv:ks.length=vs.length:=l.trans r.len
 unfold stored bW
 rw [ik lv]
 split
 ·obtain ⟨us,h1,h2⟩:=mR (k:=k) l r rd
  exact ⟨us,h2,by show ks.length=(ia ks ds k d).length;rw [mU,l],h1,Þ _⟩
 ·exact ⟨vs ++ [v],by rw [List.zip_append lv];rfl,by simp [l],r.app (.cons rd rfl),by simp⟩
theorem rH {A:ώ} {E:ζ→ξ→Prop} {Q:Unit→ξ→Prop} {x y k d:D} {o:O} {kv v:ζ} (t:toO x=some o) (r:ObR X.W z.ρ z.G z.h (a,b) o) (rk:CR X.W z k kv) (rd:RD X.W z.ρ z.G d v) (e:jq x k d=some y)
 (h:∀ s' o',toO y=some o'→(∀ b,b≠a→s'.heap.get? b=z.h b)→ObR X.W z.ρ z.G s'.heap.get? (a,b) o'→s'.os=z.s.os→s'.gens=z.s.gens→Q () s'):Α X.M A (Fs (.ref a) kv v) Q E z.s:=by
 cases x <;> cases t
 ·rename_i l
  obtain ⟨o,vs,hb,ho,⟨⟨n,rfl⟩,hz⟩,r⟩:=r
  cases k with
  | int i=>
    obtain ⟨tk,rfl⟩:=(rk:RD X.W z.ρ z.G (.int i) kv)
    obtain ⟨l',e1,rfl⟩:=ω.mp (show (rW l i d).map D.lst=some y from e)
    obtain ⟨j,e2,rfl⟩:=ω.mp (show (ixN l.length i).map (fun j=>l.set j d)=some l' from e1)
    obtain ⟨h1,h2,h3,h4⟩:=mv e2
    have hl:=r.len
    have hn:=jd
    obtain ⟨⟨o1,u1,u3⟩,u2⟩:=eH (z:=z) (f:=(·.setIfInBounds j v)) (ws:=vs.set j v) ho (by simp) (by rw [É];exact hz)
    have q:Q () { z.s with heap:=z.s.heap.update a (ì (·.setIfInBounds j v)) }:=h _ _ rfl u2 ⟨o1,_,hb,u1,u3,r.set j rd⟩ rfl rfl
    by_cases h0:0≤i
    ·have hk:i.toNat=j:=by rw [FX h0 h4] at h1;exact Ϧ h1
     exact PySem.W.ki_setAt ho h0 (by omega) (by rw [Λ,← hl];exact h4) (by rw [hk];exact q)
    ·have hk:(i+(vs.toArray.size:Int)).toNat=j:=by
      rw [Fv (by omega) h3] at h1
      rw [Λ,← hl]
      exact Ϧ h1
     exact PySem.W.ki_setBack ho (by omega) (by rw [Λ,← hl];exact h3) (by omega) (by rw [hk];exact q)
  | _=>cases e
 ·rename_i ks ds
  obtain ⟨o,vs,hb,hs,ho,dc,hl,r⟩:=r
  obtain ⟨kk,e1,e2⟩:=Ϗ.mp (show ((bx k).bind fun k=>if ks.length<100000 then some (D.dic (bW ks ds k d).1 (bW ks ds k d).2) else none)=some y from e)
  by_cases c:ks.length<100000
  ·rw [ZZ c] at e2
   cases e2
   obtain ⟨us,h3,h4,h5,h6⟩:=oI (k:=kk) hl r rd
   refine wpAny_setItem_pairs (hsz:=by obtain ⟨_,_,_,_,_,_,_,w⟩:=dc;exact w) (eP e1 rk) (dc.of ho) fun h' dd hs'=>?_
   rw [h3] at dd
   obtain ⟨o1,es,ep,w1,w2,w3,w4,w5,w6⟩:=dd
   exact h _ _ rfl hs'.2 ⟨o1,us,hb,hs,w1,⟨es,ep,w2,w3,w4,w5,w6,by rw [ϸ];exact big (by omega)⟩,h4,h5⟩ rfl rfl
  ·rw [ZY c] at e2;cases e2
theorem y5 {o o':O} (e:eg o k d=some o'):∃ x y,toO x=some o∧jq x k d=some y∧toO y=some o':=by
 cases o with
 | lst l=>
   cases k with
   | int i=>obtain ⟨l',e1,rfl⟩:=ω.mp (show (rW l i d).map O.lst=some o' from e);exact ⟨.lst l,.lst l',rfl,by show (rW l i d).map D.lst=_;rw [e1];rfl,rfl⟩
   | _=>cases e
 | dic ks ds=>
   obtain ⟨kk,e1,e2⟩:=Ϗ.mp (show ((bx k).bind fun k=>if ks.length<100000 then some (O.dic (bW ks ds k d).1 (bW ks ds k d).2) else none)=some o' from e)
   by_cases c:ks.length<100000
   ·rw [ZZ c] at e2;cases e2
    exact ⟨.dic ks ds,.dic (bW ks ds kk d).1 (bW ks ds kk d).2,rfl,by show ((bx k).bind fun k=>if ks.length<100000 then some (D.dic (bW ks ds k d).1 (bW ks ds k d).2) else none)=_;rw [e1];exact ZZ c,rfl⟩
   ·rw [ZY c] at e2;cases e2
 | ins _ _=>cases e
theorem nA (h:aE i=true):∀ v,assign (o.Subscript i pos) env v=(do
 let ov ← holding [v] (eval o env)
 let iv ← holding [v,ov] (eval i env)
 Œ pos
 holding [v,ov,iv] (Fs ov iv v)
 release [v,ov,iv] []):=by
 cases i <;> first | (intro v;rfl) | cases h
theorem re :EX [.Subscript o i p] e l env=pure false:=by
 cases e <;> rfl
theorem lJ :EY [.Subscript o i p] e env=pure none:=by
 cases e <;> rfl
theorem lZ {K:ζ→ξ→Prop} {E:ζ→ξ→Prop} {Q:Flow→ξ→Prop} {s:ξ} (hn:aE eb=true) (h:Α X.M X.A (eval ee X.env) K E s) (k:∀ v s',K v s'→Α X.M X.A (eval eo X.env) (fun ov s2=>Α X.M X.A (eval eb X.env) (fun iv s3=>Α X.M X.A (Fs ov iv v) (fun _ s4=>Q .next s4) E s3) E s2) E s'):Α X.M X.A (exec (.Assign [.Subscript eo eb p2] ee pos) X.env) Q E s:=by
 refine Ga (thn h fun v s1 q=>?_) re lJ
 show Α _ _ (assign (eo.Subscript eb p2) X.env v) _ _ _
 rw [nA hn]
 exact ε (ϊ (thn (k v s1 q) fun ov s2 q=>ε (ϊ (thn q fun iv s3 q=>ε (æ (ε (ϊ (thn q fun _ s4 q=>wpAny_release q))))))))
theorem rI {n:Nat} {kv v:ζ} {p:Β×Β} {E:ζ→ξ→Prop} {o:av} (x:Go X z0 z) (I:Rep X z) (ep:z.ρ[n]? = some p) (rk:CR X.W z k kv) (rd:RD X.W z.ρ z.G d v) (e:o=(match (z.t.st[n]?).bind fun o=>eg o k d with | some o=>.nx ⟨z.t.env,z.t.ow,z.t.st.set n o⟩ | none=>.bad)) (nb:o≠.bad):Α X.M X.A (Fs (.ref p.1) kv v) (fun _ s4=>Ps X z0 o .next s4) E z.s:=by
 cases q:(z.t.st[n]?).bind fun o=>eg o k d with
 | none=>rw [q] at e;exact ZX e nb
 | some o'=>
   rw [q] at e
   obtain ⟨ob,q1,q2⟩:=Ϗ.mp q
   obtain ⟨x1,y1,t1,t2,t3⟩:=y5 q2
   have r:=I.ob n ob p q1 ep
   have hp:p=(p.1,p.2):=rfl
   refine rH t1 (hp ▸ r) rk rd t2 fun s' o1 t4 sb r' os gs=>?_
   rw [t3] at t4;cases t4
   obtain ⟨I2,g2⟩:=I.stw ep (.inl rfl) sb r' os gs
   exact nxt (z1:={ z with t:=⟨z.t.env,z.t.ow,z.t.st.set n o'⟩,s:=s' }) (x.trans g2) I2 e
theorem uF {i:Nat} {x:ν} (hN:X.N[i]? = some x) (hv:Vis X.env.scope x) (hd:(x == ("__debug__":ν))=false) (hcd:(x == ("__classdict__":ν))=false) (hn:aE eb=true) (hb:LE X eb b) (he:LE X ee e):LS X (.Assign [.Subscript (.Name x p) eb p2] ee pos) (.put (.v i) b e):=fun z I nb=>by
 refine lZ hn ((he false).gos (K:=fun v s'=>∃ z1 d,z1.s=s'∧Go X z z1∧Rep X z1∧RD X.W z1.ρ z1.G d v∧X.ex (.put (.v i) b e) z.t=(match z1.t.env[i]? with
  | some (some x)=>(X.ev true b z1.t).go fun k s=>(match x with
    | .ref n=>(match (s.st[n]?).bind fun o=>eg o k d with | some o=>.nx ⟨s.env,s.ow,s.st.set n o⟩ | none=>.bad)
    | x=>if s.ow.contains i then (match jq x k d with | some y=>.nx ⟨s.env.set i (some y),s.ow,s.st⟩ | none=>.bad) else .bad)
  | _=>.bad)) .refl I rfl nb fun z1 d u y x1 I1 r1 e1=>⟨z1,d,rfl,x1,I1,r1.rd,e1⟩) fun v s' ⟨z1,d,q,x1,I1,r1,e1⟩=>?_
 subst q
 cases q:z1.t.env[i]? with
 | none=>rw [q] at e1;exact ZX e1 nb
 | some o0=>
   cases o0 with
   | none=>rw [q] at e1;exact ZX e1 nb
   | some x0=>
     rw [q] at e1
     obtain ⟨u,hu,_⟩:=I1.slot q
     refine bU I1 hN hv hu ((hb true).gos x1 I1 e1 nb fun z2 kd kv y2 x2 I2 r2 e2=>?_) hd hcd
     have q2:z2.t.env[i]? = some (some x0):=by rw [y2.en];exact q
     have hu2:z2.σ[i]? = some (some u):=by rw [y2.sg];exact hu
     have own:∀ x1:D,x0=x1→X.ex (.put (.v i) b e) z.t=(if z2.t.ow.contains i then (match jq x1 kd d with | some y=>.nx ⟨z2.t.env.set i (some y),z2.t.ow,z2.t.st⟩ | none=>.bad) else .bad)→Α X.M X.A (Fs u kv v) (fun _ s4=>Ps X z (X.ex (.put (.v i) b e) z.t) .next s4) (PxS X z (X.ex (.put (.v i) b e) z.t)) z2.s:=fun x1 ex e3=>by
      subst ex
      by_cases c:z2.t.ow.contains i=true
      ·rw [ZZ c] at e3
       have m2:i∈z2.t.ow:=by simpa using c
       obtain ⟨d0,a,o,h1,h2,h3,r,f⟩:=I2.eo i m2
       rw [q2] at h1;cases h1
       rw [hu2] at h2;cases h2
       cases q3:jq x0 kd d with
       | none=>rw [q3] at e3;exact ZX e3 nb
       | some y=>
         rw [q3] at e3
         refine rH h3 r (r2.rb.cr0 I2) (r1.st y2.st) q3 fun s' o' t sb r' os gs=>?_
         obtain ⟨I3,g3⟩:=I2.ownw (s':=s') m2 hu2 t sb r' os gs
         exact nxt (z1:={ z2 with t:=⟨z2.t.env.set i (some y),z2.t.ow,z2.t.st⟩,s:=s' }) (x2.trans g3) I3 e3
      ·rw [ZY c] at e3;exact ZX e3 nb
     cases x0 with
     | ref n=>
       have nm:i ∉ z2.t.ow:=fun m=>by
        obtain ⟨d0,a,o,h1,h2,h3,_⟩:=I2.eo i m
        rw [q2] at h1;cases h1;cases h3
       obtain ⟨u',hu',p,ep,rfl⟩:=I2.en i _ nm q2
       rw [hu2] at hu';cases hu'
       exact rI x2 I2 ep (r2.rb.cr0 I2) (r1.st y2.st) e2 nb
     | _=>exact own _ rfl e2
end
section
variable {X:Cx} {z z' z0 z1:Z} {an:Nat→ν}
theorem Rep.snoc {s':ξ} {p:Β×Β} {o:O} (I:Rep X z) (g:Gr z.s s') (hp:z.h p.1=none∧z.h p.2=none) (r:ObR X.W (z.ρ ++ [p]) z.G s'.heap.get? p o):Rep X { z with ρ:=z.ρ ++ [p],t:=⟨z.t.env,z.t.ow,z.t.st ++ [o]⟩,s:=s' }∧Ee X z { z with ρ:=z.ρ ++ [p],t:=⟨z.t.env,z.t.ow,z.t.st ++ [o]⟩,s:=s' }:=by
 obtain ⟨H,S⟩:=HR.snoc (w:=Own z) I.toHR g hp r
 have pre:z.ρ <+: z.ρ ++ [p]:=â _ _
 have nm:∀ {a},(∃ o,z.h a=some o)→¬ Mu z.ρ a→¬ Mu (z.ρ ++ [p]) a:=fun ⟨o,e⟩ n w=>(eR.mp w).elim n fun w=>by
  rcases w with w | w
  ·rw [w,hp.1] at e;cases e
  ·rw [w,hp.2] at e;cases e
 have sl:∀ b o,z.s.heap.get? b=some o→∃ sl,s'.heap.get? b=some { o with slots:=sl }:=fun b o e=>⟨o.slots,g.k b o e⟩
 refine ⟨⟨H,I.ok,?_,fun x c e=>let ⟨v,q⟩:=I.ce x c e;⟨v,fB sl q⟩,fun a l=>⟨(I.fl a l).1,nm (I.lth l) (I.fl a l).2⟩,I.el,I.sl,fun i d n e=>let ⟨u,q,r⟩:=I.en i d n e;⟨u,q,r.mono pre (.refl _)⟩,fun i m=>?_,I.od⟩,S,rfl,rfl,fun _ h=>h⟩
 ·obtain ⟨m,hn,hl⟩:=I.lo
  exact ⟨m,wp sl hn,fun i x u h1 h2 h3=>cW (fun c v _ q=>fB sl q) (hl i x u h1 h2 h3)⟩
 ·obtain ⟨d,a,o,h1,h2,h3,r,f⟩:=I.eo i m
  exact ⟨d,a,o,h1,h2,h3,r.mono pre (.refl _) fun b _ o e=>g.k b o e,f.1,nm r.th.1 f.2.1,f.2.2⟩
theorem qY (I:HR X z):(z.ρ ++ [p])[z.t.st.length]? = some p:=by rw [Μ (by rw [I.rl];exact Ψ _),I.rl,Ħ];rfl
theorem nq {y:ζ}:∀ {nm:List ν} {vs:List ζ} {j:Nat},nm.Nodup→nm[j]? = some f→j<vs.length→∀ g,(nm.zip (vs.set j y)).lookup g=if g=f then some y else (nm.zip vs).lookup g
 | [],_,_,_,h,_,_=>by simp at h
 | _ :: _,[],_,_,_,h,_=>by simp at h
 | n :: nm,v :: vs,0,nd,h,_,g=>by
   have e:n=f:=by simpa using h
   subst e
   show (match g == n with | true=>some y | false=>(nm.zip vs).lookup g)=if g=n then some y else (match g == n with | true=>some v | false=>(nm.zip vs).lookup g)
   by_cases c:g=n
   ·rw [ZZ c,beq_iff_eq.mpr c]
   ·rw [ZY c,ZU.mpr c]
 | n :: nm,v :: vs,j+1,nd,h,hl,g=>by
   have h':nm[j]? = some f:=by simpa using h
   have ne:n≠f:=fun z=>by subst z;exact (ϔ.mp nd).1 (φ h')
   have ih:=nq (y:=y) (ϔ.mp nd).2 h' (by simpa using hl) g
   show (match g == n with | true=>some v | false=>(nm.zip (vs.set j y)).lookup g)=if g=f then some y else (match g == n with | true=>some v | false=>(nm.zip vs).lookup g)
   by_cases c:g=n
   ·rw [ZY fun w=>ne (c ▸ w),beq_iff_eq.mpr c]
   ·rw [ZU.mpr c];exact ih
theorem kI {y:ζ}:∀ {nm:List ν} {vs:List ζ},nm.Nodup→nm[vs.length]? = some f→∀ g,(nm.zip (vs ++ [y])).lookup g=if g=f then some y else (nm.zip vs).lookup g
 | [],_,_,h,_=>by simp at h
 | n :: nm,[],nd,h,g=>by
   have e:n=f:=by simpa using h
   subst e
   rw [DT,á,ĩ,ĩ]
   show (match g == n with | true=>some y | false=>none)=if g=n then some y else none
   by_cases c:g=n
   ·rw [ZZ c,beq_iff_eq.mpr c]
   ·rw [ZY c,ZU.mpr c]
 | n :: nm,v :: vs,nd,h,g=>by
   have h':nm[vs.length]? = some f:=by simpa using h
   have ne:n≠f:=fun z=>by subst z;exact (ϔ.mp nd).1 (φ h')
   have ih:=kI (y:=y) (ϔ.mp nd).2 h' g
   show (match g == n with | true=>some v | false=>(nm.zip (vs ++ [y])).lookup g)=if g=f then some y else (match g == n with | true=>some v | false=>(nm.zip vs).lookup g)
   by_cases c:g=n
   ·rw [ZY fun w=>ne (c ▸ w),beq_iff_eq.mpr c]
   ·rw [ZU.mpr c];exact ih
theorem vq (h:eu Γ (.ins c l) f d=some o):∃ k,Γ.cl[c]? = some k∧k.at_.length<1000∧((k.at_.idxOf f<l.length∧o = .ins c (l.set (k.at_.idxOf f) d))∨(k.at_.idxOf f=l.length∧k.at_.idxOf f<k.at_.length∧o = .ins c (l ++ [d]))):=by
 have h:((Γ.cl[c]?).bind fun k=>if k.at_.length<1000 then (if k.at_.idxOf f<l.length then some (O.ins c (l.set (k.at_.idxOf f) d)) else if k.at_.idxOf f=l.length∧k.at_.idxOf f<k.at_.length then some (.ins c (l ++ [d])) else none) else none)=some o:=h
 obtain ⟨k,hk,h⟩:=Ϗ.mp h
 refine ⟨k,hk,?_⟩
 by_cases z0:k.at_.length<1000
 ·rw [ZZ z0] at h
  refine ⟨z0,?_⟩
  by_cases z:k.at_.idxOf f<l.length
  ·rw [ZZ z] at h;cases h;exact .inl ⟨z,rfl⟩
  ·rw [ZY z] at h
   by_cases z2:k.at_.idxOf f=l.length∧k.at_.idxOf f<k.at_.length
   ·rw [ZZ z2] at h;cases h;exact .inr ⟨z2.1,z2.2,rfl⟩
   ·rw [ZY z2] at h;cases h
 ·rw [ZY z0] at h;cases h
theorem zu (T:cm X an) (I:Rep X z) {n f:Nat} {p:Β×Β} {d:D} {v:ζ} {o o':O} {A:ώ} {Q:Unit→ξ→Prop} {E:ζ→ξ→Prop} (ep:z.ρ[n]? = some p) (rd:RD X.W z.ρ z.G d v) (q:z.t.st[n]? = some o) (e:eu X.Γ o f d=some o')
 (h:∀ s',Rep X { z with t:=⟨z.t.env,z.t.ow,z.t.st.set n o'⟩,s:=s' }→Go X z { z with t:=⟨z.t.env,z.t.ow,z.t.st.set n o'⟩,s:=s' }→Q () s'):Α X.M A (Ez (.ref p.1) (an f) v) Q E z.s:=by
 have ob:=I.ob n o p q ep
 cases o with
 | ins c l=>
   obtain ⟨k,hk,h1000,alt⟩:=vq e
   obtain ⟨i',vs,w1,w2,w3,w4,w5⟩:=ob
   obtain ⟨i,C⟩:=T c k hk
   rw [C.ci] at w1
   have ii:i=i':=Ϧ w1
   subst ii
   have lnm:i.nm.length=k.at_.length:=by rw [C.nm,Ν]
   have wz:k.what≠2:=by have:=C.wh;rw [w2] at this;have e:=Ϧ this;omega
   have lv:=w5.len
   have hj:k.at_.idxOf f<k.at_.length:=by
    rcases alt with ⟨z,_⟩ | ⟨_,z,_⟩
    ·omega
    ·exact z
   have hn:i.nm[k.at_.idxOf f]? = some (an f):=by rw [C.nm,ϋ,Θ hj];simp
   have cl:=C.cls wz
   have na:=C.na _ (φ hn)
   refine mW (ns:=i.nm) I.toHR.kin (InO.objm w4) cl.sa cl.po na.taker cl.hd (fun y hy=>?_) (by rw [lnm];exact Ϣ (ø h1000) (big (by omega))) fun h' om sb=>?_
   ·cases qq:(i.nm.zip vs).lookup y with
    | none=>exact ZX qq hy
    | some u=>
      obtain ⟨l1,l2,e1,_⟩:=Ew.mp qq
      exact (Ğ (show (y,u)∈i.nm.zip vs by rw [e1];simp)).1
   ·have done:∀ vs' l',o' = .ins c l'→RDs X.W z.ρ z.G l' vs'→l'.length≤i.nm.length→(∀ g,(i.nm.zip vs').lookup g=if g=an f then some v else (i.nm.zip vs).lookup g)→Q () { z.s with heap:=h',toks:=z.s.toks+2 }:=fun vs' l' eo r hl lk=>by
     subst eo
     obtain ⟨od,es,ep',e1,e2,e3,e4,e5⟩:=om.ns
     obtain ⟨I2,g2⟩:=I.stw (s':={ z.s with heap:=h',toks:=z.s.toks+2 }) (o':=.ins c l') ep (.inr rfl) (fun b hb=>sb.2 b hb) ⟨i,vs',C.ci,w2,hl,⟨om.obj,om.ne,by rw [ϸ];omega,od,e1,es,ep',e2,e3,e4,fun nn=>(e5 nn).trans (lk nn).symm⟩,r⟩ rfl rfl
     exact h _ I2 g2
    rcases alt with ⟨z,eo⟩ | ⟨z,_,eo⟩
    ·exact done _ _ eo (w5.set _ rd) (by rw [É];exact w3) (nq C.nd hn (by omega))
    ·exact done _ _ eo (w5.app (.cons rd rfl)) (by rw [υ];simp;omega) (kI C.nd (by rw [← lv,← z];exact hn))
 | _=>cases e
theorem jv (T:cm X an) (x:Go X z0 z) (I:Rep X z) {n f:Nat} {p:Β×Β} {d:D} {v:ζ} {A:ώ} {E:ζ→ξ→Prop} {o:av} (ep:z.ρ[n]? = some p) (rd:RD X.W z.ρ z.G d v) (e:o=(match (z.t.st[n]?).bind fun o=>eu X.Γ o f d with | some o=>.nx ⟨z.t.env,z.t.ow,z.t.st.set n o⟩ | none=>.bad)) (nb:o≠.bad):Α X.M A (Ez (.ref p.1) (an f) v) (fun _ s'=>Ps X z0 o .next s') E z.s:=by
 cases q:(z.t.st[n]?).bind fun o=>eu X.Γ o f d with
 | none=>rw [q] at e;exact ZX e nb
 | some o'=>
   rw [q] at e
   obtain ⟨ob,q1,q2⟩:=Ϗ.mp q
   exact zu T I ep rd q1 q2 fun s' I2 g2=>nxt (z1:={ z with t:=⟨z.t.env,z.t.ow,z.t.st.set n o'⟩,s:=s' }) (x.trans g2) I2 e
def lM:E→Bool
 | .lst .nil=>false
 | .dic .nil=>false
 | _=>true
theorem iA (h:lM e=true):X.ex (.fld a f e) s=(X.ev false e s).go fun d s=>(X.ev true a s).go fun x s=>(match x with
        | .ref n=>(match (s.st[n]?).bind fun o=>eu X.Γ o f d with | some o=>.nx ⟨s.env,s.ow,s.st.set n o⟩ | none=>.bad)
        | _=>.bad):=by
 cases e with
 | lst es=>cases es <;> first | rfl | cases h
 | dic es=>cases es <;> first | rfl | cases h
 | _=>rfl
theorem d8 :D6 e (some (.Attribute o x p)) l env=pure false:=by
 cases e <;> rfl
theorem gD (I:Rep X z) (h:RB X.W z (.ref n) u):∃ p,z.ρ[n]? = some p∧u = .ref p.1:=h.cr0 I
theorem yt (T:cm X an) (hp:lM e=true) (ho:LE X eo a) (he:LE X ee e):LS X (.Assign [.Attribute eo (an f) p] ee pos) (.fld a f e):=fun z I nb=>ò ((he false).gos .refl I (iA hp) nb fun z1 d v y1 x1 I1 r1 e1=>(ho true).gos x1 I1 e1 nb fun z2 x u y2 x2 I2 r2 e2=>by
 cases x with
 | ref n=>
   obtain ⟨p,ep,rfl⟩:=gD I2 r2.rb
   exact jv T x2 I2 ep (r1.rd.st y2.st) e2 nb
 | _=>exact ZX e2 nb) d8
theorem mK (T:cm X an) {o:av} {o0:O} {s':ξ} {a:Β} {i:Nat} {x:ν} (I:Rep X z) (g:Gr z.s s') (ha:z.h a=none) (r:∀ ρ,ObR X.W ρ z.G s'.heap.get? (a,a) o0) (hN:X.N[i]? = some x) (hv:Vis X.env.scope x) (hd:(x == ("__debug__":ν))=false) (hcd:(x == ("__classdict__":ν))=false)
 (e:o=((X.ev true (.v i) z.t).go fun x s=>(match x with
  | .ref n=>(match (s.st[n]?).bind fun o=>eu X.Γ o f (.ref s.st.length) with | some o=>.nx ⟨s.env,s.ow,(s.st ++ [o0]).set n o⟩ | none=>.bad)
  | _=>.bad))) (nb:o≠.bad):Α X.M X.A (eval (.Name x p1) X.env) (fun ov s2=>Α X.M X.A (Ez ov (an f) (.ref a)) (fun _ s3=>Ps X z o .next s3) (PxS X z o) s2) (PxS X z o) s':=by
 obtain ⟨I1,x1⟩:=I.snoc (p:=(a,a)) g ⟨ha,ha⟩ (r _)
 have ev:X.ev true (.v i) z.t=(match z.t.env[i]? with | some (some d)=>.ok d z.t | _=>.bad):=rfl
 rw [ev] at e
 cases q:z.t.env[i]? with
 | none=>rw [q] at e;exact ZX e nb
 | some oo=>cases oo with
   | none=>rw [q] at e;exact ZX e nb
   | some d=>
     rw [q] at e
     obtain ⟨u,hu,ru⟩:=I1.slot (i:=i) (d:=d) q
     refine bU I1 hN hv hu ?_ hd hcd
     cases d with
     | ref n=>
       obtain ⟨p,ep,rfl⟩:=gD I1 ru
       have e:o=(match (z.t.st[n]?).bind fun o=>eu X.Γ o f (.ref z.t.st.length) with | some o=>.nx ⟨z.t.env,z.t.ow,(z.t.st ++ [o0]).set n o⟩ | none=>.bad):=e
       refine jv T x1.go I1 ep (show RD X.W (z.ρ ++ [(a,a)]) z.G (.ref z.t.st.length) (.ref a) from ⟨_,qY I.toHR,rfl⟩) (e.trans ?_) nb
       show _=(match ((z.t.st ++ [o0])[n]?).bind fun o=>eu X.Γ o f (.ref z.t.st.length) with | some o=>av.nx ⟨z.t.env,z.t.ow,(z.t.st ++ [o0]).set n o⟩ | none=>av.bad)
       cases q1:z.t.st[n]? with
       | none=>rw [q1] at e;exact ZX e nb
       | some w=>rw [Χ (ς.mp q1).1,q1]
     | _=>exact ZX e nb
theorem uB (T:cm X an) (hN:X.N[i]? = some x) (hv:Vis X.env.scope x) (hd:(x == ("__debug__":ν))=false) (hcd:(x == ("__classdict__":ν))=false):LS X (.Assign [.Attribute (.Name x p1) (an f) p] (.Dict [] [] p2) pos) (.fld (.v i) f (.dic .nil)):=fun z I nb=>ò (Hd (mK (o0:=.dic [] []) T I (.push (t:=z.s.toks)) (aB z) (fun ρ=>⟨_,[],rfl,ZU.mpr (Æ I.sysm),ψ _ rfl,by
 obtain ⟨o,es,ep,h1,h2,h3,h4,h5,h6⟩:=ŷ (knd:=aR X.W.P X.W.w) z.s.heap
 rw [ψ _ rfl] at h1
 cases h1
 exact ⟨es,ep,h2,h3,h4,h5,h6,ϲ _⟩,rfl,rfl⟩) hN hv hd hcd rfl nb)) d8
theorem uC (T:cm X an) (hN:X.N[i]? = some x) (hv:Vis X.env.scope x) (hd:(x == ("__debug__":ν))=false) (hcd:(x == ("__classdict__":ν))=false):LS X (.Assign [.Attribute (.Name x p1) (an f) p] (.List [] p2) pos) (.fld (.v i) f (.lst .nil)):=fun z I nb=>ò (DI (Ξ ⟨ϲ _,mK (o0:=.lst []) T I (.push (t:=z.s.toks)) (aB z) (fun ρ=>⟨_,[],rfl,ψ _ rfl,⟨⟨_,rfl⟩,ϲ _⟩,rfl⟩) hN hv hd hcd rfl nb⟩)) d8
theorem uY {es:List D} {us:List ζ} {o:Out D} (x:Ee X z0 z) (I:Rep X z) (r:RDs X.W z.ρ z.G es us) (hz:es.length≤100000) (e:o = .ok (.ref z.t.st.length) ⟨z.t.env,z.t.ow,z.t.st ++ [.lst es]⟩):Pe X z0 o (RV X.W br c) (.ref z.s.heap.objs.size) { z.s with heap:=z.s.heap.push { cls:=.type "list",data:=.seq us.toArray } }:=by
 obtain ⟨I1,x1⟩:=I.snoc (p:=(z.s.heap.objs.size,z.s.heap.objs.size)) (o:=.lst es) (.push (t:=z.s.toks)) ⟨aB z,aB z⟩ ⟨_,us,rfl,ψ _ rfl,⟨⟨_,rfl⟩,by rw [← r.len];exact big hz⟩,r.mono (â _ _) (.refl _)⟩
 exact ⟨_,.ref z.t.st.length,rfl,e,x.trans x1,I1,.of (show RD X.W (z.ρ ++ [_]) z.G (.ref z.t.st.length) _ from ⟨_,qY I.toHR,rfl⟩)⟩
theorem my (h:LA X er es):LE X (.List er pos) (.newl es):=fun br z I nb=>DI ((h false pos).go (f:=fun l s=>if l.length≤100000 then Out.ok (D.ref s.st.length) ⟨s.env,s.ow,s.st ++ [.lst l]⟩ else .bad) .refl I rfl nb fun z1 l us y1 x1 I1 r1 e1=>by
 by_cases c:l.length≤100000
 ·rw [ZZ c] at e1
  exact ⟨by rw [← r1.rds.len];exact big c,uY x1 I1 r1.rds c e1⟩
 ·rw [ZY c] at e1;exact ZX e1 nb)
theorem uH (hN:X.N.Nodup) (hi:X.N[i]? = some x) (hx:Loc X.env.scope x) (h:LA X er es) (hs:D6 (.List er lp) (some (.Name x pos')) pos.line X.env=pure false):LS X (.Assign [.Name x pos'] (.List er lp) pos) (.setR i es):=fun z I nb=>H0 (by
 have e:X.ex (.setR i es) z.t=(X.ev false (.newl es) z.t).go fun d s=>.nx (stV s i d false):=by
  show Out.go (X.evs false es z.t) _=Out.go (Out.bind (X.evs false es z.t) _) _
  cases X.evs false es z.t with
  | ok l s=>show (if l.length≤100000 then _ else _)=Out.go (if l.length≤100000 then _ else _) _;by_cases c:l.length≤100000 <;> simp only [c,if_true,if_false] <;> rfl
  | _=>rfl
 exact (my h false).gos .refl I e nb fun z1 d u y x0 I1 r e1=>cj (own:=false) x0 I1 hN hi hx r.rd fun s' a _ _ I' g'=>nxt (z1:={ z1 with t:=stV z1.t i d false,σ:=z1.σ.set i (some u),s:=s' }) g' I' e1) hs
theorem qK {st:List O} {x:D} {w:Int} (h:look st x = .int w):x = .int w:=by
 cases x with
 | ref n=>unfold look at h;dsimp only at h;split at h <;> cases h
 | _=>exact h
structure sM (X:Cx) (op:G0) (o:Op) (g:Int→Int→Int):Prop where
 op:∀ {A:ώ} {s:ξ} {i j:Int} {t u:Tok} {Q:ζ→ξ→Prop} {E:ζ→ξ→Prop},Q (.int (g i j) s.toks) { s with toks:=s.toks+1 }→Α X.M A (inplaceOp op (.int i t) (.int j u)) Q E s
 od:∀ i j,opD o (.int i) (.int j)=some (.int (g i j))
 oi:∀ x c d,opD o x (.int c)=some d→∃ w,x = .int w
theorem sV:sM X .Sub .sub (· - ·):=⟨isub_int,fun _ _=>rfl,fun x c d h=>by cases x <;> first | exact ⟨_,rfl⟩ | cases h⟩
theorem sU:sM X .Add .add (· + ·):=⟨iadd_int,fun _ _=>rfl,fun x c d h=>by cases x <;> first | exact ⟨_,rfl⟩ | cases h⟩
theorem yl (T:cm X an) {o:Op} (ar:sM X op o g) (hN:X.N[i]? = some x) (hv:Vis X.env.scope x) (hd:(x == ("__debug__":ν))=false) (hcd:(x == ("__classdict__":ν))=false):LS X (.AugAssign (.Attribute (.Name x p1) (an f) p) op (.Constant (.int c) j p2) pos) (.fld (.v i) f (.op o (.fld (.v i) f) (.c (.int c)))):=fun z I nb=>by
 have e:=iA (X:=X) (a:=.v i) (f:=f) (s:=z.t) (e:=.op o (.fld (.v i) f) (.c (.int c))) rfl
 have e:X.ex (.fld (.v i) f (.op o (.fld (.v i) f) (.c (.int c)))) z.t=((((X.ev true (.v i) z.t).bind fun x s=>Out.of s (kU X.Γ s.st x f)).bind fun x s=>Out.of s (opD o (look s.st x) (.int c))).go fun d s=>(X.ev true (.v i) s).go fun x s=>(match x with
  | .ref n=>(match (s.st[n]?).bind fun o=>eu X.Γ o f d with | some o=>.nx ⟨s.env,s.ow,s.st.set n o⟩ | none=>.bad)
  | _=>.bad)):=e
 have ev:X.ev true (.v i) z.t=(match z.t.env[i]? with | some (some d)=>.ok d z.t | _=>.bad):=rfl
 revert nb
 generalize X.ex (.fld (.v i) f (.op o (.fld (.v i) f) (.c (.int c)))) z.t=oo at e
 intro nb
 refine wpAny_AugAssign_AttributeAny ?_
 cases q:z.t.env[i]? with
 | none=>rw [ev,q] at e;exact ZX e nb
 | some ow=>cases ow with
   | none=>rw [ev,q] at e;exact ZX e nb
   | some d=>
     rw [q] at ev
     rw [ev] at e
     obtain ⟨u,hu,ru⟩:=I.slot q
     refine bU I hN hv hu ?_ hd hcd
     cases q1:kU X.Γ z.t.st d f with
     | none=>simp only [Out.bind,q1,Out.of] at e;exact ZX e nb
     | some x=>
       simp only [Out.bind,q1,Out.of] at e
       cases q2:opD o (look z.t.st x) (.int c) with
       | none=>simp only [q2] at e;exact ZX e nb
       | some d2=>
         simp only [q2] at e
         obtain ⟨w,hw⟩:=ar.oi _ _ _ q2
         rw [hw] at q2
         obtain rfl:=qK hw
         obtain rfl:=Ϧ ((ar.od w c).symm.trans q2)
         have e:oo=((X.ev true (.v i) z.t).go fun x s=>(match x with
          | .ref n=>(match (s.st[n]?).bind fun o=>eu X.Γ o f (.int (g w c)) with | some o=>.nx ⟨s.env,s.ow,s.st.set n o⟩ | none=>.bad)
          | _=>.bad)):=e
         rw [ev] at e
         cases d with
         | ref n=>
           obtain ⟨p,ep,rfl⟩:=gD I ru
           obtain ⟨C,fs,v,h1,h2,h3,h4,h5⟩:=pR T I ep q1
           have h6:=h5
           obtain ⟨t,ht⟩:∃ t,v = .int w t:=h6
           subst ht
           refine kZ I h1 h2 h3 h4 h5 (Gw (ar.op ?_))
           have gr:Gr z.s { z.s with toks:=z.s.toks+1+1+1 }:=.tok
           exact jv (z:={ z with s:={ z.s with toks:=z.s.toks+1+1+1 } }) T (ak I.gh gr).ee.go (I.grow (ak I.gh gr)) ep (show RD X.W z.ρ z.G (.int (g w c)) _ from ⟨_,rfl⟩) e nb
         | _=>exact ZX e nb
end
section
variable {prog:ϴ} {w:Û} {A:ώ} {E:ζ→ξ→Prop} {s:ξ}
theorem iy {it l:Β} {items:Array ζ} (hne:l≠it):∀ (n i:Nat) (s:ξ) (Q:List ζ→ξ→Prop),s.heap.IsListIter it l i→s.heap.IsList l items→i+n≤items.size →
 (∀ h',h'.IsListIter it l (i+n)→õ it s.heap h'→Q ((items.toList.drop i).take n) { s with heap:=h' })→Α (model prog w) A (draw (.ref it) n) Q E s
 | 0,i,s,Q,hit,_,_,hQ=>by
   show Α _ _ (pure []) Q E s
   exact θ (by simpa using hQ s.heap hit (Heap.SameBut.refl ..))
 | n+1,i,s,Q,hit,ht,hle,hQ=>by
   have hlt:i<items.size:=by omega
   show Α _ _ (Eh (.ref it) >>= _) Q E s
   refine ε (wpAny_pyNext_list_item hit ht (x:=items[i]) (by simp [hlt]) fun h₁ hit₁ hs₁=>?_)
   refine ε (ϊ (iy hne n (i+1) _ _ hit₁ (ht.extBut hs₁.extBut hne) (by omega) fun h₂ hit₂ hs₂=>θ ?_))
   have hd:items.toList.drop i=items[i] :: items.toList.drop (i+1):=by simp [ĳ,hlt]
   have:=hQ h₂ (by rw [show i+(n+1)=i+1+n by omega];exact hit₂) (hs₁.trans hs₂)
   rw [hd,List.take_succ_cons] at this
   exact this
theorem eU {l:Β} {items:Array ζ} {Q:List ζ→ξ→Prop} (hh:A.handled=none) (ht:s.heap.IsList l items)
 (hQ:∀ h',Hl s.heap.objs.size s.heap h'→Q items.toList { s with heap:=h' }):Α (model prog w) A (FW (.ref l) items.size none) Q E s:=by
 have hlt:l≠s.heap.objs.size:=by obtain ⟨o,ho,_⟩:=ht;exact ϛ (Ο ho)
 unfold FW
 refine ε ?_
 unfold notIterableAtAll
 refine ε (ů ht.typeIs slot_list_iter.lookup ?_)
 refine θ ?_
 simp only [ã,if_false]
 refine ε (ϊ (ĕ ht ?_))
 refine ε (ϊ (iy hlt items.size 0 _ _ ⟨_,ψ _ rfl,rfl,rfl⟩ (ht.push _) (by omega) fun h₁ hit₁ hs₁=>?_))
 have hall:List.take items.size (List.drop 0 items.toList)=items.toList:=by
  rw [ī];exact EC (by simp)
 rw [hall]
 rw [ZY (by simp)]
 have ht₁:h₁.IsList l items:=(ht.push _).extBut hs₁.extBut hlt
 refine ε (ϊ (wpAny_pyNext_list_end hh hit₁ ht₁ (by simp) fun h₂ he₂=>?_))
 simp only [Option.isSome_none,ã,if_false]
 exact θ (hQ h₂ fun b o hb e=>he₂ b o hb (hs₁.extBut b o hb (ο _ e)))
end
section
variable {X:Cx} {z z' z0 z1:Z}
def binds (env:List (Option D)) (l:List (Nat×D)):List (Option D):=l.foldl (fun e p=>e.set p.1 (some p.2)) env
def Aa (t:Sta) (ts:List Nat) (ds:List D):Sta:=⟨binds t.env (ts.zip ds),t.ow.filter fun i=>!ts.contains i,t.st⟩
def As (X:Cx):List (ζ→F1 Unit)→List Nat→Prop
 | f :: fs,i :: t=>(∃ x,X.N[i]? = some x∧Loc X.env.scope x∧∀ {v Q E s},Α X.M X.A (storeName X.env x v) Q E s→Α X.M X.A (f v) Q E s)∧As X fs t
 | [],[]=>True
 | _,_=>False
theorem dM {Q:Unit→ξ→Prop} {E:ζ→ξ→Prop} (hN:X.N.Nodup):∀ {fs t ds us z},As X fs t→Go X z0 z→Rep X z→RDs X.W z.ρ z.G ds us→ds.length=t.length→(∀ z',Go X z0 z'→Rep X z'→z'.ρ=z.ρ→z'.G=z.G→z'.t=Aa z.t t ds→(∀ j,j ∉ t→z'.σ[j]? = z.σ[j]?)→((∀ i∈t,∀ x,X.N[i]? = some x→X.env.scope.names.lookup x=some .local)→∀ b o,z.h b=some o→b≠X.env.locals→z'.h b=some o)→Q () z'.s)→Α X.M X.A (assignInOrder fs us) Q E z.s
 | [],[],[],us,z,_,x,I,r,_,h=>assignInOrder_nil (h z x I rfl rfl (by
   have:z.t.ow.filter (fun i=>!([]:List Nat).contains i)=z.t.ow:=List.filter_eq_self.mpr fun _ _=>rfl
   show z.t=⟨z.t.env,_,z.t.st⟩
   rw [this]) (fun _ _=>rfl) fun _ _ _ e _=>e)
 | f :: fs,i :: t,d :: ds,us,z,⟨⟨x',h1,h2,h3⟩,ha⟩,x,I,r,hl,h=>by
   obtain ⟨u,vs,rfl,r1,r2⟩:=r
   refine assignInOrder_cons (h3 (cj (own:=false) x I hN h1 h2 r1 fun s' a sb la I' g'=>?_))
   refine dM hN (z:={ z with t:=stV z.t i d false,σ:=z.σ.set i (some u),s:=s' }) ha g' I' r2 (ļ hl) fun z' gz Iz eρ eG et eσ ek=>h z' gz Iz eρ eG (et.trans ?_) (fun j nj=>?_) fun lc b o e nb=>ek (fun i' m=>lc i' (κ _ m)) b o ((sb.2 b fun q=>nb (q.trans (la.2 (lc i ι x' h1)))).trans e) nb
   ·show (⟨binds (z.t.env.set i (some d)) (t.zip ds),(z.t.ow.filter (· != i)).filter (fun j=>!t.contains j),z.t.st⟩:Sta)=⟨binds (z.t.env.set i (some d)) (t.zip ds),z.t.ow.filter (fun j=>!(i :: t).contains j),z.t.st⟩
    rw [List.filter_filter]
    congr 1
    refine FE fun j _=>?_
    rw [List.contains_cons,Bool.not_or,Bool.and_comm];rfl
   ·rw [π,not_or] at nj
    exact (eσ j nj.2).trans (Φ (Ϥ nj.1))
 | [],_ :: _,_,_,_,h,_,_,_,_,_=>h.elim
 | _ :: _,[],_,_,_,h,_,_,_,_,_=>h.elim
 | [],[],_ :: _,_,_,_,_,_,_,hl,_=>by cases hl
 | _ :: _,_ :: _,[],_,_,_,_,_,_,hl,_=>by cases hl
def LG (X:Cx) (tg:Κ) (t:List Nat) (one:Bool):Prop:=∀ (z0 z:Z) (d:D) (u:ζ) (env:List (Option D)) (Q:Unit→ξ→Prop) (E:ζ→ξ→Prop),Go X z0 z→Rep X z→RD X.W z.ρ z.G d u→aP t one d z.t.env=some env →
 (∀ z',Go X z0 z'→Rep X z'→z'.ρ=z.ρ→Go X z z'→z'.t=⟨env,z.t.ow.filter fun i=>!t.contains i,z.t.st⟩→(∀ j,j ∉ t→z'.σ[j]? = z.σ[j]?)→((∀ i∈t,∀ x,X.N[i]? = some x→X.env.scope.names.lookup x=some .local)→∀ b o,z.h b=some o→b≠X.env.locals→z'.h b=some o)→Q () z'.s)→Α X.M X.A (assign tg X.env u) Q E z.s
theorem uq (hN:X.N.Nodup) (hi:X.N[i]? = some x) (hx:Loc X.env.scope x):LG X (.Name x pos) [i] true:=fun z0 z d u env Q E x0 I r e h=>by
 cases (show some (z.t.env.set i (some d))=some env from e)
 refine DX (cj (own:=false) .refl I hN hi hx r fun s' a sb la I' g'=>h { z with t:=stV z.t i d false,σ:=z.σ.set i (some u),s:=s' } (x0.trans g') I' rfl g' ?_ (fun j nj=>?_) fun lc b o e nb=>(sb.2 b fun q=>nb (q.trans (la.2 (lc i (η.mpr rfl) x hi)))).trans e)
 ·show (⟨_,z.t.ow.filter (· != i),z.t.st⟩:Sta)=⟨_,z.t.ow.filter (fun j=>![i].contains j),z.t.st⟩
  congr 1
  refine FE fun j _=>?_
  by_cases c:j=i <;> simp [c]
 ·exact Φ fun w=>nj (by rw [w];exact η.mpr rfl)
theorem sf {n:Nat} {Q:List ζ→ξ→Prop} {E:ζ→ξ→Prop} {d:D} {l:List D} (hc:X.calm=true) (I:Rep X z) (r:RD X.W z.ρ z.G d u) (e:d = .tup l∨d = .lst l) (hn:l.length=n) (q:∀ s' us,Gr z.s s'→RDs X.W z.ρ z.G l us→Q us s'):Α X.M X.A (FW u n none) Q E z.s:=by
 subst hn
 rcases e with rfl | rfl
 ·obtain ⟨a,o,vs,rfl,g,⟨tc,⟨k,td⟩,tl⟩,r⟩:=r
  rw [show l.length=vs.toArray.size by simp [r.len]]
  exact wpAny_unpackItems_tuple (I.hd hc) (show z.s.heap.IsTuple a vs.toArray from ⟨o,I.gh _ _ g,tc,⟨k,td⟩⟩) fun h' hx=>q _ _ (.hp (t:=z.s.toks) fun b o e=>hx b o (ϛ (Ο e)) e) (by simpa using r)
 ·obtain ⟨a,o,vs,rfl,g,⟨⟨k,rfl⟩,tl⟩,r⟩:=r
  rw [show l.length=vs.toArray.size by simp [r.len]]
  exact eU (I.hd hc) (show z.s.heap.IsList a vs.toArray from ⟨_,I.gh _ _ g,rfl,⟨k,rfl⟩⟩) fun h' hx=>q _ _ (.hp (t:=z.s.toks) fun b o e=>hx b o (ϛ (Ο e)) e) (by simpa using r)
theorem px (e:aP t false d env=some env'):∃ l,(d = .tup l∨d = .lst l)∧l.length=t.length∧env'=binds env (t.zip l):=by
 cases d with
 | tup l=>obtain ⟨c,e⟩:=aN (show (if l.length=t.length then some (binds env (t.zip l)) else none)=some env' from e);cases e;exact ⟨l,.inl rfl,c,rfl⟩
 | lst l=>obtain ⟨c,e⟩:=aN (show (if l.length=t.length then some (binds env (t.zip l)) else none)=some env' from e);cases e;exact ⟨l,.inr rfl,c,rfl⟩
 | _=>cases e
theorem qI {es:List Κ} {k:Nat} {pos:ϭ} (hc:X.calm=true) (hN:X.N.Nodup) (ha:As X ((ġ es X.env).map (·.2)) t) (hn:(ġ es X.env).length=t.length) (hst:(ġ es X.env).findIdx? (·.1)=none):LG X (.Tuple es k pos) t false:=fun z0 z d u env Q E x0 I r e h=>by
 obtain ⟨l,dl,hl,rfl⟩:=px e
 rw [assign_Tuple]
 refine ε (æ ?_)
 unfold unpack
 rw [hn,hst]
 refine ε (ϊ (sf hc I r dl hl fun s' us g rs=>?_))
 exact dM (z:={ z with s:=s' }) hN ha (ak I.gh g).ee.go (I.grow (ak I.gh g)) rs hl fun z' gz Iz eρ eG et eσ ek=>h z' (x0.trans gz) Iz eρ gz et eσ fun lc b o e nb=>ek lc b o (g.k b o e) nb
theorem uI (he:LE X e c) (hg:LG X tg t false) (hs:EX [tg] e pos.line X.env=pure false) (hw:EY [tg] e X.env=pure none) (h1:(ġ [tg] X.env).map (·.2) = [assign tg X.env]):LS X (.Assign [tg] e pos) (.setT t c):=fun z I nb=>Ga ((he false).gos .refl I rfl nb fun z1 d u y x0 I1 r e1=>by
 rw [h1]
 cases q:aP t false d z1.t.env with
 | none=>rw [q] at e1;exact ZX e1 nb
 | some env=>
   rw [q] at e1
   exact hg z z1 d u env _ _ x0 I1 r.rd q fun z' gz Iz _ _ et _ _=>nxt gz Iz (by rw [et];exact e1)) hs hw
end
section
variable {X:Cx} {z:Z}
def isV:E→Bool
 | .v _=>true
 | _=>false
theorem uE (hn:aE eb=true) (hv:isV a=false) (ho:LE X eo a) (hb:LE X eb b) (he:LE X ee e):LS X (.Assign [.Subscript eo eb p2] ee pos) (.put a b e):=fun z I nb=>by
 have e0:X.ex (.put a b e) z.t=(X.ev false e z.t).go fun d s=>(X.ev true a s).go fun x s=>(X.ev true b s).go fun k s=>(match x with
  | .ref n=>(match (s.st[n]?).bind fun o=>eg o k d with | some o=>.nx ⟨s.env,s.ow,s.st.set n o⟩ | none=>.bad)
  | _=>.bad):=by cases a <;> first | rfl | cases hv
 refine lZ hn ((he false).gos (K:=fun v s'=>∃ z1 d,z1.s=s'∧Go X z z1∧Rep X z1∧RD X.W z1.ρ z1.G d v∧X.ex (.put a b e) z.t=((X.ev true a z1.t).go fun x s=>(X.ev true b s).go fun k s=>(match x with
  | .ref n=>(match (s.st[n]?).bind fun o=>eg o k d with | some o=>.nx ⟨s.env,s.ow,s.st.set n o⟩ | none=>.bad)
  | _=>.bad))) .refl I e0 nb fun z1 d u y x1 I1 r1 e1=>⟨z1,d,rfl,x1,I1,r1.rd,e1⟩) fun v s' ⟨z1,d,q,x1,I1,r1,e1⟩=>?_
 subst q
 exact (ho true).gos x1 I1 e1 nb fun z2 x u y2 x2 I2 r2 e2=>(hb true).gos x2 I2 e2 nb fun z3 k kv y3 x3 I3 r3 e3=>by
  cases x with
  | ref n=>
    obtain ⟨p,ep,rfl⟩:=gD I3 (r2.rb.st y3 I3)
    exact rI x3 I3 ep (r3.rb.cr0 I3) ((r1.st y2.st).st y3.st) e3 nb
  | _=>exact ZX e3 nb
theorem yr {i:Nat} {x:ν} (hN:X.N[i]? = some x) (hv:Vis X.env.scope x) (hd:(x == ("__debug__":ν))=false) (hcd:(x == ("__classdict__":ν))=false) (he:LE X e c) (m:M1 X (.Name x p) "extend" apos e cpos):LS X (.Expr (.Call (.Attribute (.Name x p) "extend" apos) [e] [] cpos) pos) (.ext i c):=fun z I nb=>by
 have e0:X.ex (.ext i c) z.t=(if z.t.ow.contains i && isLst z.t.env[i]? then (X.ev false c z.t).go fun d s=>if s.ow.contains i then (match s.env[i]?,d with
  | some (some (.lst l)),.lst x=>if l.length+x.length≤100000 then .nx ⟨s.env.set i (some (.lst (l ++ x))),s.ow,s.st⟩ else .bad
  | _,_=>.bad) else .bad else .bad):=rfl
 by_cases c0:(z.t.ow.contains i && isLst z.t.env[i]?)=true
 ·rw [ZZ c0] at e0
  rw [Υ] at c0
  have mi:i∈z.t.ow:=by simpa using c0.1
  obtain ⟨l,el⟩:∃ l,z.t.env[i]? = some (some (.lst l)):=by
   have:=c0.2
   unfold isLst at this
   split at this
   ·rename_i l q;exact ⟨l,q⟩
   ·cases this
  obtain ⟨a,vs,n,es,ha,r⟩:=fG I mi el
  refine ŀ (Ù m.base m.few m.line Ķ E6 PySem.F.type_list_extend (bU I hN hv es ⟨⟨_,ha,rfl⟩,fun b q=>(by cases q;exact ⟨_,ha,rfl⟩),?_⟩ hd hcd)) I.quiet rfl
  rw [m.trees]
  refine ϫ rfl (ϰ (Η ((he false).gos .refl I e0 nb fun z1 d u y x1 I1 r1 e1=>Ξ ?_)))
  by_cases c1:z1.t.ow.contains i=true
  ·rw [ZZ c1] at e1
   have m1:i∈z1.t.ow:=by simpa using c1
   have el1:z1.t.env[i]? = some (some (.lst l)):=by rw [y.en];exact el
   rw [el1] at e1
   cases d with
   | lst x=>
     dsimp only at e1
     obtain ⟨a',vs,n,es',ha,r⟩:=fG I1 m1 el1
     rw [y.sg,es] at es';cases es'
     obtain ⟨b,o,us,rfl,g,⟨⟨n2,rfl⟩,hz2⟩,r2⟩:=r1.rd
     by_cases c2:l.length+x.length≤100000
     ·rw [ZZ c2] at e1
      have l1:=r.len
      have l2:=r2.len
      have hz:vs.toArray.size+us.toArray.size≤Ϛ:=by simp only [Λ];exact big (by omega)
      refine DL E6 ⟨_,ha,rfl⟩ PySem.F.entry_list_extend (PySem.F.args_list_extend_2 _ _) (AutoSeq1.list_extend_list_list_0 a vs.toArray n b us.toArray n2 ?_ (by omega) (by omega)) ⟨ha,I1.gh _ _ g,?_⟩
      ·rw [show HC (vs.toArray.size+us.toArray.size)=false from ZV (D2.mpr hz),Ef];exact fun h=>nomatch h
      obtain ⟨⟨o1,u1,u3⟩,u2⟩:=eH (f:=(· ++ us.toArray)) (ws:=vs ++ us) ha (by simp) (by rw [υ];simpa using hz)
      obtain ⟨I2,g2⟩:=I1.ownw (s':={ z1.s with heap:=z1.s.heap.update a (ì (· ++ us.toArray)) }) (d':=.lst (l ++ x)) m1 (by rw [y.sg];exact es) rfl u2 ⟨o1,vs ++ us,rfl,u1,u3,r.app r2⟩ rfl rfl
      exact nxt (x1.trans g2) I2 e1
     ·rw [ZY c2] at e1;exact ZX e1 nb
   | _=>exact ZX e1 nb
  ·rw [ZY c1] at e1;exact ZX e1 nb
 ·rw [ZY c0] at e0;exact ZX e0 nb
end
section
variable {X:Cx}
theorem tR {st:List O} {x:D} (h:k7 st x=true):∃ n l,x = .ref n∧st[n]? = some (.lst l):=by
 unfold k7 at h
 split at h
 ·split at h
  ·exact ⟨_,_,rfl,by assumption⟩
  ·cases h
 ·cases h
theorem uA {f:Nat} (ho:LE X eo a) (he:LE X e c) (m:M1 X eo "append" apos e cpos):LS X (.Expr (.Call (.Attribute eo "append" apos) [e] [] cpos) pos) (.fapp a f c):=fun z I nb=>by
 have e0:X.ex (.fapp a f c) z.t=(X.ev true a z.t).go fun x s=>if k7 s.st x=true then (X.ev false c s).go fun d s=>apO x d s else .bad:=rfl
 refine ŀ (Ù m.base m.few m.line Ķ ê E4 ((ho true).gos .refl I e0 nb fun z1 x u y1 x1 I1 r1 e1=>?_)) I.quiet rfl
 by_cases c0:k7 z1.t.st x=true
 ·rw [ZZ c0] at e1
  obtain ⟨n,l,rfl,en⟩:=tR c0
  obtain ⟨p,ep,rfl⟩:=gD I1 r1.rb
  obtain ⟨o,vs,_,ho,⟨⟨k,rfl⟩,_⟩,_⟩:=I1.ob n _ p en ep
  refine ⟨⟨_,ho,rfl⟩,fun b q=>(by cases q;exact ⟨_,ho,rfl⟩),?_⟩
  rw [m.trees]
  refine ϫ rfl (ϰ (Η ((he false).gos x1 I1 e1 nb fun z2 d w y2 x2 I2 r2 e2=>Ξ ?_)))
  have e2:X.ex (.fapp a f c) z.t=(match z2.t.st[n]? with | some (.lst l)=>if l.length<100000 then .nx ⟨z2.t.env,z2.t.ow,z2.t.st.set n (.lst (l ++ [d]))⟩ else .bad | _=>.bad):=e2
  cases q:z2.t.st[n]? with
  | none=>rw [q] at e2;exact ZX e2 nb
  | some ob=>
    rw [q] at e2
    cases ob with
    | lst l2=>
      dsimp only at e2
      by_cases c2:l2.length<100000
      ·rw [ZZ c2] at e2
       have ep2:=fH y2.st.pr ep
       obtain ⟨o,vs,hp2,ho,⟨⟨k,rfl⟩,_⟩,rl⟩:=I2.ob n _ p q ep2
       have hz:vs.length<100000:=by rw [← rl.len];exact c2
       refine DL ê ⟨_,ho,rfl⟩ ĥ (ģ _ _) (D1 p.1 vs.toArray k w (by rw [Λ];exact ø (Í hz (big (Ψ _))))) ⟨ho,?_⟩
       obtain ⟨⟨o1,u1,u3⟩,u2⟩:=eH (f:=(·.push w)) (ws:=vs ++ [w]) ho (by simp) (by rw [υ];exact big (by simp;omega))
       obtain ⟨I3,g3⟩:=I2.stw (s':={ z2.s with heap:=z2.s.heap.update p.1 (ì (·.push w)) }) (o':=.lst (l2 ++ [d])) ep2 (.inl rfl) u2 ⟨o1,vs ++ [w],hp2,u1,u3,rl.app (.cons r2.rd rfl)⟩ rfl rfl
       exact nxt (x2.trans g3) I3 e2
      ·rw [ZY c2] at e2;exact ZX e2 nb
    | _=>exact ZX e2 nb
 ·rw [ZY c0] at e1;exact ZX e1 nb
end
structure Itr (W:Wd) (tg:Κ) (it:Β) (fp wr:List Β) (ds:List D) (ρ:Rs) (G:Hp) (St:Nat→ϳ→Prop):Prop where
 sub:∀ b∈wr,b∈fp
 keep:∀ i h h',St i h→(∀ b∈fp,∀ o,h.get? b=some o→h'.get? b=some o)→St i h'
 ex:∀ i h,St i h→∀ b∈wr,∃ o,h.get? b=some o
 item:∀ {A:ώ} {i:Nat} {d:D} {s:ξ},A.handled=none→ds[i]? = some d→St i s.heap→Α (model W.P W.w) A (Eh (.ref it)) (fun r s1=>∃ u,r=some u∧Α (model W.P W.w) A (Ų tg (.ref it) u) (fun _ s2=>St (i+1) s2.heap∧(s2.os=s.os∧s2.gens=s.gens)∧(∀ b o,b ∉ wr→s.heap.get? b=some o→s2.heap.get? b=some o) ∧
  ∀ ρ' G',ρ <+: ρ'→Sub G G'→(∀ a o,s.heap.get? a=none→s2.heap.get? a=some o→G' a=some o)→RD W ρ' G' d u) NoE s1) NoE s
 done:∀ {A:ώ} {s:ξ},A.handled=none→St ds.length s.heap→Α (model W.P W.w) A (Eh (.ref it)) (fun r s2=>r=none∧(s2.os=s.os∧s2.gens=s.gens)∧∀ b o,b ∉ wr→s.heap.get? b=some o→s2.heap.get? b=some o) NoE s
 self:∀ {A:ώ} {i:Nat} {s:ξ} {Q:ζ→ξ→Prop} {E:ζ→ξ→Prop},A.handled=none→St i s.heap→Q (.ref it) s→Α (model W.P W.w) A (ũ (.ref it)) Q E s
def Fp (X:Cx) (z0 z:Z) (fp wr:List Β):Prop:=∀ b∈fp,(Nob X z0 z b∧∃ o,z.h b=some o)∨(b ∉ wr∧∃ o,z.G b=some o)
section
variable {X:Cx} {z z' z0 z1:Z}
theorem Nob.go (x:Go X z z') (n:Nob X z0 z b) (e:z.h b=some o):Nob X z0 z' b∧z'.h b=some o:=by
 obtain ⟨n0,⟨f1,f2,f3,f4⟩,f5⟩:=n
 have no:∀ {P:Prop},z.h b=none→P:=fun w=>by rw [w] at e;cases e
 refine ⟨⟨n0,⟨?_,fun m=>(x.st.rn b m).elim f2 no,f3,f4⟩,fun w=>(x.ow b w).elim f5 no⟩,x.st.sm b o e f2 (fun w=>w.elim f5 f4) f3⟩
 cases q:z'.G b with
 | none=>rfl
 | some o'=>
   rcases x.st.gn b o' q with w | w | w
   ·rw [f1] at w;cases w
   ·exact no w
   ·exact (w.elim f5 f4).elim
theorem Fp.go (x:Go X z z') (f:Fp X z0 z fp wr):Fp X z0 z' fp wr:=fun b hb=>(f b hb).imp (fun ⟨n,o,e⟩=>let ⟨a,b⟩:=n.go x e;⟨a,o,b⟩) fun ⟨n,o,e⟩=>⟨n,o,x.st.gg b o e⟩
theorem Fp.keep (x:Go X z z') (I:Rep X z) (I':Rep X z') (f:Fp X z0 z fp wr):∀ b∈fp,∀ o,z.h b=some o→z'.h b=some o:=fun b hb o e=>by
 rcases f b hb with ⟨n,o',e'⟩ | ⟨_,o',e'⟩
 ·exact (n.go x e).2
 ·rw [I.gh b o' e'] at e;cases e;exact I'.gh b _ (x.st.gg b _ e')
theorem Rep.turn {s':ξ} {wr:List Β} {w:Β→Prop} (x:Stp X.fr w z0 z) (I:Rep X z) (hw:∀ b∈wr,Nob X z0 z b∧∃ o,z.h b=some o) (k:∀ b o,b ∉ wr→z.h b=some o→s'.heap.get? b=some o) (os:s'.os=z.s.os∧s'.gens=z.s.gens):Rep X (z.up s')∧Stp X.fr w z0 (z.up s')∧Sub z.G (z.up s').G∧∀ b∈wr,Nob X z0 (z.up s') b:=by
 have gd:∀ a,(z.up s').G a=match z.h a with | none=>s'.heap.get? a | some _=>z.G a:=fun _=>rfl
 have nG:∀ {b o},z.G b=some o→b ∉ wr:=fun e m=>by rw [(hw _ m).1.2.1.1] at e;cases e
 have nM:∀ {b},Mu z.ρ b→b ∉ wr:=fun h m=>(hw _ m).1.2.1.2.1 h
 have nf:∀ {b},b∈frs X.fr→b ∉ wr:=fun h m=>(hw _ m).1.2.1.2.2.1 h
 have nL:∀ {b},Lc X b→b ∉ wr:=fun h m=>(hw _ m).1.2.1.2.2.2 h
 have nO:∀ {b},Own z b→b ∉ wr:=fun h m=>(hw _ m).1.2.2 h
 have gg:Sub z.G (z.up s').G:=fun a o e=>by rw [gd,I.gh a o e];exact e
 have nn:∀ {a:Β},(∃ o,z.h a=some o)→z.G a=none→(z.up s').G a=none:=fun {a} ⟨o,e⟩ n=>by rw [gd,e];exact n
 have gh:Sub (z.up s').G s'.heap.get?:=fun a o e=>by
  rw [gd] at e
  cases q:z.h a with
  | none=>rw [q] at e;exact e
  | some u=>rw [q] at e;exact k a o (nG e) (I.gh a o e)
 have ck:∀ x c v,X.env.cells.lookup x=some c→z.s.heap.IsCell c v→s'.heap.IsCell c v:=fun x c v e ⟨o,q,d⟩=>⟨o,k c o (nL (.inr ⟨x,e⟩)) q,d⟩
 have fu:s'.heap.FunFrames X.base X.fr:=by
  have:∀ {l:List Dz},(∀ b∈frs l,b ∉ wr)→z.s.heap.FunFrames X.base l→s'.heap.FunFrames X.base l:=fun {l}=>by
   induction l with
   | nil=>exact fun _ _=>trivial
   | cons v r ih=>
     intro hs ⟨a,⟨L,o,e1,e2,e3,e4⟩,q⟩
     have hm:L∈frs (v :: r):=by unfold frs;rw [ϣ,e1];exact ι
     exact ⟨a,⟨L,o,e1,e2,k L o (hs L hm) e3,e4⟩,ih (fun b hb=>hs b (by unfold frs;rw [ϣ,e1];exact κ _ hb)) q⟩
  exact this (fun b h=>nf h) I.fu
 have gn:∀ a o,(z.up s').G a=some o→z.G a=some o∨z.h a=none:=fun a o e=>by
  rw [gd] at e
  cases q:z.h a with
  | none=>exact .inr rfl
  | some u=>rw [q] at e;exact .inl e
 refine ⟨⟨⟨I.md,I.fm,I.hd,fun b o e=>gg _ _ (I.bs b o e),gh,I.rl,I.rn,fun a m=>nn (I.th m) (I.rg a m),fun n o p h1 h2=>(I.ob n o p h1 h2).mono (μ _) gg fun a ha o e=>k a o (nM ⟨p,φ h2,ha⟩) e,fu,fun b m=>⟨nn (I.fth m) (I.ff b m).1,(I.ff b m).2⟩,by show Ŗ s'.gens;rw [os.2];exact I.br,os.1.trans I.os⟩,I.ok,?_,fun x c e=>let ⟨v,q⟩:=I.ce x c e;⟨v,ck x c v e q⟩,fun a l=>⟨nn (I.lth l) (I.fl a l).1,(I.fl a l).2⟩,I.el,I.sl,fun i d n e=>let ⟨u,q,r⟩:=I.en i d n e;⟨u,q,r.mono (μ _) gg⟩,fun i m=>?_,I.od⟩,⟨x.pr,x.gg.trans gg,fun a o e=>?_,x.rn,fun a o e=>?_,fun a o e n w f=>?_,fun a o e n w f=>?_⟩,gg,fun b hb=>let ⟨⟨n0,f,no⟩,ex⟩:=hw b hb;⟨n0,⟨nn ex f.1,f.2⟩,no⟩⟩
 ·obtain ⟨m,⟨oL,es,ep,q,r⟩,hl⟩:=I.lo
  exact ⟨m,⟨oL,es,ep,k _ _ (nL (.inl rfl)) q,r⟩,fun j x w e1 e2 e3=>cW (fun c v e q=>ck x c v e q) (hl j x w e1 e2 e3)⟩
 ·obtain ⟨d,a,o,h1,h2,h3,r,f⟩:=I.eo i m
  exact ⟨d,a,o,h1,h2,h3,r.mono (μ _) gg fun c hc o e=>k c o (by rcases hc with rfl | rfl <;> exact nO ⟨i,m,h2⟩) e,nn r.th.1 f.1,f.2⟩
 ·rcases gn a o e with w | w
  ·exact x.gn a o w
  ·exact .inr (.inl (x.no w))
 ·obtain ⟨o1,e1⟩:=x.th a o e
  by_cases m:a∈wr
  ·rw [(hw a m).1.1] at e;cases e
  ·exact ⟨o1,k a o1 m e1⟩
 ·exact k a o (fun m=>by rw [(hw a m).1.1] at e;cases e) (x.sm a o e n w f)
 ·obtain ⟨sl,q⟩:=x.sl a o e n w f
  exact ⟨sl,k a _ (fun m=>by rw [(hw a m).1.1] at e;cases e) q⟩
theorem Fp.up {s':ξ} {wr wr':List Β} (I:Rep X z) (f:Fp X z0 z fp wr) (g:Sub z.G (z.up s').G) (k:∀ b o,b ∉ wr'→z.h b=some o→s'.heap.get? b=some o) (ex:∀ b∈wr',b∈fp→∃ o,s'.heap.get? b=some o):Fp X z0 (z.up s') fp wr:=fun b hb=>(f b hb).imp (fun ⟨⟨n0,ff,no⟩,o',e'⟩=>⟨⟨n0,⟨by show (match z.h b with | none=>s'.heap.get? b | some _=>z.G b)=none;rw [e'];exact ff.1,ff.2⟩,no⟩,by
 by_cases m:b∈wr'
 ·exact ex b m hb
 ·exact ⟨o',k b o' m e'⟩⟩) fun ⟨m,o',e'⟩=>⟨m,o',g b o' e'⟩
theorem Fp.wr {wr:List Β} {St:Nat→ϳ→Prop} (T:Itr W tg it fp wr ds ρ G St) (st:St i z.s.heap) (f:Fp X z0 z fp wr):∀ b∈wr,Nob X z0 z b∧∃ o,z.h b=some o:=fun b hb=>(f b (T.sub b hb)).elim id fun ⟨n,_⟩=>ZX hb n
inductive FI (X:Cx) (z:Z) (tg:Κ) (o:Out D) (itv:ζ) (s2:ξ):Prop
 | mk (z1:Z) (ds:List D) (it:Β) (fp wr:List Β) (St:Nat→ϳ→Prop) (_:z1.s=s2) (_:o = .ok (.lst ds) z1.t) (_:Ee X z z1) (_:Rep X z1) (_:itv = .ref it) (_:Itr X.W tg it fp wr ds z1.ρ z1.G St) (_:St 0 s2.heap) (_:Fp X z z1 fp wr)
def LI (X:Cx) (tg e:Κ) (c:E):Prop:=∀ z,Rep X z→X.ev false c z.t≠.bad→Α X.M X.A (eval e X.env) (fun v s1=>Α X.M X.A (ũ v) (FI X z tg (X.ev false c z.t)) NoE s1) (Px X z (X.ev false c z.t)) z.s
theorem mc {ds:List α} {i:Nat} (h:ds[i]? = some d):ds.drop i=d :: ds.drop (i+1):=by
 obtain ⟨hi,rfl⟩:=ς.mp h
 exact ĳ hi
inductive FoJ (X:Cx) (z z1:Z) (ds:List D) (St:Nat→ϳ→Prop) (fp wr:List Nat) (o:av) (f:D→Sta→av) (n:Nat) (s:ξ):Prop
 | mk (i:Nat) (z':Z) (_:z'.s=s) (_:n=ds.length - i) (_:i≤ds.length) (_:Go X z z') (_:Rep X z') (_:St i s.heap) (_:Fp X z z' fp wr) (_:z1.ρ <+: z'.ρ) (_:Sub z1.G z'.G) (_:o=bo f (ds.drop i) z'.t)
theorem yu {t:List Nat} {one:Bool} (hc:X.calm=true) (hp:∀ z o,PassesOwn X.M X.A X.env (PxS X z o)) (hi:LI X tg iter it) (hg:LG X tg t one) (hb:LSs X body b) (hs:∀ x,E1 iter X.env x=pure x):LS X (.For tg iter body [] pos) (.for_ t one it b):=fun z I nb=>by
 let f:D→Sta→av:=fun d s=>match aP t one d s.env with | some env=>X.ex b ⟨env,s.ow.filter fun i=>!t.contains i,s.st⟩ | none=>.bad
 have e0:X.ex (.for_ t one it b) z.t=(X.ev false it z.t).go fun x s=>(match x with | .lst ds=>bo f ds s | _=>.bad):=rfl
 generalize X.ex (.for_ t one it b) z.t=o at e0 nb
 have nb0:X.ev false it z.t≠.bad:=fun q=>nb (by rw [e0,q];rfl)
 refine wpAny_For (Τ (hi z I nb0) (fun v s1 h1=>Τ h1 (fun itv s2 h2=>?_) fun _ _ w=>w.elim) fun u s' h=>?_) hs
 rotate_left
 ·rw [e0];exact .of .refl h
 obtain ⟨z1,ds,a,fp,wr,St,q1,q2,x1,I1,q3,T,st1,f1⟩:=h2
 subst q1 q3
 rw [q2] at e0
 have e0:o=bo f ds z1.t:=e0
 refine codeAny_forLoop_any (FoJ X z z1 ds St fp wr o f) ?_ (ds.length - 0) ⟨0,z1,rfl,rfl,ϲ _,x1.go,I1,st1,f1,μ _,.refl _,by rw [ī];exact e0⟩
 rintro n s3 ⟨i,z3,e3,en,hi,x3,I3,st3,f3,p3,g3,q⟩
 subst e3
 cases qd:ds[i]? with
 | none=>
   have hl:i=ds.length:=by rw [Ek] at qd;omega
   subst hl
   refine Į (hp z o) (Τ (T.done (I3.hd hc) st3) (fun r s4 ⟨er,os,k⟩=>?_) fun _ _ w=>w.elim)
   subst er
   obtain ⟨I4,x4,_⟩:=I3.turn x3.st (f3.wr T st3) k os
   rw [ŉ] at q
   exact į (nxt (z1:=z3.up s4) ⟨x4,x3.ow⟩ I4 q)
 | some d=>
   have hil:i<ds.length:=(ς.mp qd).1
   rw [mc qd] at q
   have q:o=(f d z3.t).go fun s=>bo f (ds.drop (i+1)) s:=q
   refine Į (hp z o) (Τ (T.item (I3.hd hc) qd st3) (fun r s4 ⟨u,er,h4⟩=>?_) fun _ _ w=>w.elim)
   subst er
   refine Į (hp z o) (Τ h4 (fun _ s5 ⟨st5,os5,k5,rd5⟩=>?_) fun _ _ w=>w.elim)
   have hw:=f3.wr T st3
   obtain ⟨I5,x5',g5,n5⟩:=I3.turn x3.st hw k5 os5
   have x5:Go X z (z3.up s5):=⟨x5',x3.ow⟩
   have rd:=rd5 z3.ρ (z3.up s5).G p3 (g3.trans g5) fun a o e1 e2=>by rw [eV e1];exact e2
   have f5:Fp X z (z3.up s5) fp wr:=f3.up I3 g5 k5 fun b m _=>T.ex _ _ st5 b m
   cases qb:aP t one d z3.t.env with
   | none=>exact ZX (show o = .bad by rw [q];show av.go (match aP t one d z3.t.env with | some env=>X.ex b ⟨env,z3.t.ow.filter fun i=>!t.contains i,z3.t.st⟩ | none=>.bad) _=_;rw [qb];rfl) nb
   | some env=>
     have q:o=(X.ex b ⟨env,z3.t.ow.filter fun i=>!t.contains i,z3.t.st⟩).go fun s=>bo f (ds.drop (i+1)) s:=by rw [q];show av.go (match aP t one d z3.t.env with | some env=>X.ex b ⟨env,z3.t.ow.filter fun i=>!t.contains i,z3.t.st⟩ | none=>.bad) _=_;rw [qb]
     refine Į (hp z o) (hg z (z3.up s5) d u env _ _ x5 I5 rd qb fun z6 x6 I6 eρ y6 et eσ _=>?_)
     rw [← show z6.t=(⟨env,z3.t.ow.filter fun i=>!t.contains i,z3.t.st⟩:Sta) from et] at q
     have nb6:X.ex b z6.t≠.bad:=fun w=>nb (by rw [q,w];rfl)
     refine Į (hp z o) (Τ (hb z6 I6 nb6) (fun fl s7 h7=>?_) fun u s' h=>?_)
     ·cases qx:X.ex b z6.t with
      | nx t7=>
        rw [qx] at h7 q
        obtain ⟨rfl,z7,e7,et7,x7,I7⟩:=h7
        subst e7 et7
        exact ⟨ds.length - (i+1),by omega,i+1,z7,rfl,rfl,hil,x6.trans x7,I7,T.keep _ _ _ st5 ((f5.keep (y6.trans x7) I5 I7)),f5.go (y6.trans x7),(p3.trans (eρ ▸ μ _:z3.ρ <+: z6.ρ)).trans x7.st.pr,(g3.trans g5).trans (y6.st.gg.trans x7.st.gg),q⟩
      | rt d7 t7=>
        rw [qx] at h7 q
        obtain ⟨u7,z7,rfl,r7⟩:=h7
        have:=Ps.less x6 (show Ps X z6 (.rt d7 t7) (.ret u7) s7 from ⟨u7,z7,rfl,r7⟩)
        show Ps X z o (.ret u7) s7
        rw [q];exact this
      | exc c l t7=>rw [qx] at h7;exact h7.elim
      | bad=>exact ZX qx nb6
     ·obtain ⟨z7,c,l,e7,qx,y7,J7,r7⟩:=h.less x6
      exact ⟨z7,c,l,e7,by rw [q,qx];rfl,y7,J7,r7⟩
end
theorem nin (n j k a:Nat) (h:j≠k) (ha:a<n):n+j ∉ [n+k,a]:=by simp;omega
theorem fV {h:ϳ} (n:h.objs.size≤a):h.get? a=none:=ϗ n
section
variable {W:Wd} {tg:Κ} {it:Β} {fp wr:List Β} {ds:List D} {ρ:Rs} {G:Hp} {St:Nat→ϳ→Prop}
theorem Itr.walks {P:Nat→ζ→Prop} {A0:ώ} (h0:A0.handled=none) {n:Nat} (hn:ds.length=n) (w:∀ A,A.handled=none→Walks W.P W.w A it fp wr n P St) (ex:∀ i h,St i h→∀ b∈wr,∃ o,h.get? b=some o) (go:∀ {A:ώ} {s:ξ} {u:ζ} {Q:Unit→ξ→Prop} {E:ζ→ξ→Prop} {i:Nat},St i s.heap→Q () s→Α (model W.P W.w) A (Ų tg (.ref it) u) Q E s)
 (hP:∀ i v d,P i v→ds[i]? = some d→∀ ρ' G',ρ <+: ρ'→Sub G G'→RD W ρ' G' d v):Itr W tg it fp wr ds ρ G St where
 sub:=(w A0 h0).sub
 keep:=(w A0 h0).frame
 ex:=ex
 item:=fun {A i d s} h e st=>(w A h).item i s _ _ (hn ▸ (ς.mp e).1) st fun v h' tk p st' k=>⟨v,rfl,go (s:={ s with heap:=h',toks:=tk }) st' ⟨st',⟨rfl,rfl⟩,fun b o n q=>k b o n q,fun ρ' G' h1 h2 _=>hP i v d p e ρ' G' h1 h2⟩⟩
 done:=fun {A s} h st=>(w A h).done s _ _ (hn ▸ st) fun h' tk k=>⟨rfl,⟨rfl,rfl⟩,k⟩
 self:=fun {A i s Q E} h st q=>(w A h).self i s Q E st q
abbrev Exa (h:ϳ) (T:Β):Prop:=∀ o,h.get? T=some o→o.dict=none
theorem Itr.walksT {Pt:Nat→Array ζ→Prop} {Mid:Nat→Β→ϳ→Prop} {A0:ώ} {elts:List Κ} {k:Nat} {pos:ϭ} (h0:A0.handled=none) {n:Nat} (hn:ds.length=n) (w:∀ A,A.handled=none→EJ W.P W.w A it fp wr n Pt St Mid) (ex:∀ i h,St i h→∀ b∈wr,∃ o,h.get? b=some o) (hm:∀ i T h,Mid i T h→Exa h T)
 (hP:∀ i vals d,Pt i vals→ds[i]? = some d→vals.size≤Ϛ∧∃ l,d = .tup l∧∀ ρ' G',ρ <+: ρ'→Sub G G'→RDs W ρ' G' l vals.toList):Itr W (.Tuple elts k pos) it fp wr ds ρ G St where
 sub:=(w A0 h0).sub
 keep:=(w A0 h0).frame
 ex:=ex
 item:=fun {A i d s} h e st=>(w A h).item i s _ _ (hn ▸ (ς.mp e).1) st fun T vals h' tk p hT tup mid kk=>⟨.ref T,rfl,(w A h).go elts k pos i T { s with heap:=h',toks:=tk } _ _ mid fun h2 st2 k2=>⟨st2,⟨rfl,rfl⟩,fun b o n q=>k2 b o n (kk b o n q),fun ρ' G' h1 h3 h4=>by
  obtain ⟨hz,l,rfl,r⟩:=hP i vals d p e
  obtain ⟨o,e1,e2,n,e3⟩:=tup
  exact ⟨T,o,vals.toList,rfl,h4 T o (fV hT) (k2 T o ((w A h).apart i T h' mid) e1),⟨e2,⟨n,by simpa using e3⟩,(by simpa using hz),hm i T h' mid o e1⟩,r ρ' G' h1 h3⟩⟩⟩
 done:=fun {A s} h st=>(w A h).done s _ _ (hn ▸ st) fun h' tk k=>⟨rfl,⟨rfl,rfl⟩,k⟩
 self:=fun {A i s Q E} h st q=>(w A h).self i s Q E st q
theorem gO {prog:ϴ} {w:Û} {A:ώ} {it:Β} {fp:List Β} {n:Nat} {P:Nat→ζ→Prop} {St:Nat→ϳ→Prop} (D:Fq prog w A.in1 it fp n P St) (e:Β) (hei:e≠it) (hef:e ∉ fp) (hif:it∈fp):EJ prog w A e (e :: fp) [e,it] n (fun i vals=>∃ t x,P i x∧vals = #[.int i t,x]) (fun i h=>(∃ old,IsEnum h e it i old)∧St i h) (fun i T h=>((∃ x,IsEnumOut h e it ((i:Int)+1) x T)∧St (i+1) h∧T≠e∧T≠it)∧Exa h T):=
 have V:=WalksT.enumerateD D e hei hef hif
 { sub:=V.sub,frame:=V.frame,done:=V.done,self:=V.self,go:=fun elts k pos i T s Q E m q=>V.go elts k pos i T s Q E m.1 q,apart:=fun i T h m=>V.apart i T h m.1,
   item:=fun i s Q E hi ⟨⟨old,he⟩,hs⟩ hQ=>wpAny_pyNext_enum_itemD D he hs hi hei hef fun x h' tk hP ho hs' hT hsz hk=>hQ s.heap.objs.size #[.int i tk,x] h' (tk+1) ⟨_,_,hP,rfl⟩ (Ψ _) ⟨_,hT,rfl,_,rfl⟩ ⟨⟨⟨_,ho⟩,hs',Æ (Ο he),Æ (let ⟨_,y⟩:=D.live _ _ hs;Ο y)⟩,fun o q=>(by rw [hT] at q;cases q;rfl)⟩ fun b o hb y=>hk b o (fun z=>hb (z ▸ ι)) (fun z=>hb (z ▸ κ _ ι)) y }
end
section
variable {X:Cx} {z z' z0 z1:Z} {tg:Κ}
theorem e9 {s2:ξ} {o:Out D} {ds:List D} {it:Β} {fp wr:List Β} {St:Nat→ϳ→Prop} (x:Ee X z z1) (I:Rep X z1) (g:Gr z1.s s2) (T:Itr X.W tg it fp wr ds z1.ρ z1.G St) (st:St 0 s2.heap) (hf:∀ b∈fp,(z1.h b=none∧∃ o,s2.heap.get? b=some o)∨(b ∉ wr∧∃ o,z1.G b=some o)) (e:o = .ok (.lst ds) z1.t):FI X z tg o (.ref it) s2:=
 ⟨{ z1 with s:=s2 },ds,it,fp,wr,St,rfl,e,x.trans (ak I.gh g).ee,I.grow (ak I.gh g),rfl,T,st,fun b hb=>(hf b hb).imp_left fun ⟨n,ex⟩=>⟨⟨x.st.no n,I.fre n⟩,ex⟩⟩
theorem qr (I:Rep X z) (e:z.G a=some o):a≠z.s.heap.objs.size:=ϛ (Ο (I.gh a o e))
theorem C4 (hc:X.calm=true) (ha:LE X e a):LI X tg e (.itv a):=fun z I nb=>(ha false).go (K:=fun v s1=>Α X.M X.A (ũ v) (FI X z tg (X.ev false (.itv a) z.t)) NoE s1) .refl I rfl nb fun z1 d u y x1 I1 r1 e1=>by
 have r:=r1.rd
 cases d with
 | lst l=>
   obtain ⟨p,o,vs,rfl,g,⟨⟨n,rfl⟩,hz⟩,r⟩:=r
   have ne:=qr I1 g
   refine ĕ (show z1.s.heap.IsList p vs.toArray from ⟨_,I1.gh _ _ g,rfl,n,rfl⟩) (e9 (wr:=[z1.s.heap.objs.size]) x1 I1 (.push (t:=z1.s.toks)) (Itr.walks (I1.hd hc) (by simp [r.len]) (fun A hA=>F0 hA _ p ne vs.toArray) (fun i h st b hb=>by rw [η.mp hb];obtain ⟨⟨o,e,_⟩,_⟩:=st;exact ⟨o,e⟩) (fun st q=>let ⟨⟨o,e,c,d⟩,_⟩:=st;jP e c d (by decide) q) fun i v d p1 p2 ρ' G' h1 h2=>?_) ⟨⟨_,ψ _ rfl,rfl,rfl⟩,⟨_,ο _ (I1.gh _ _ g),rfl,n,rfl⟩⟩ (fun b hb=>?_) e1)
   ·obtain ⟨v',w1,w2⟩:=(r.mono h1 h2).get p2
    rw [show vs[i]? = some v by simpa using p1] at w1;cases w1;exact w2
   ·rcases π.mp hb with w | w
    ·rw [w];exact .inl ⟨aB z1,_,ψ _ rfl⟩
    ·rw [η.mp w];exact .inr ⟨fun m=>ne (η.mp m),_,g⟩
 | tup l=>
   obtain ⟨p,o,vs,rfl,g,⟨tc,⟨n,td⟩,hz⟩,r⟩:=r
   have ne:=qr I1 g
   refine Ď (show z1.s.heap.IsTuple p vs.toArray from ⟨_,I1.gh _ _ g,tc,n,td⟩) (e9 (wr:=[z1.s.heap.objs.size]) x1 I1 (.push (t:=z1.s.toks)) (Itr.walks (I1.hd hc) (by simp [r.len]) (fun A hA=>Walks.tuple hA _ p ne vs.toArray) (fun i h st b hb=>by rw [η.mp hb];obtain ⟨⟨o,e,_⟩,_⟩:=st;exact ⟨o,e⟩) (fun st q=>let ⟨⟨o,e,c,d⟩,_⟩:=st;jP e c d (by decide) q) fun i v d p1 p2 ρ' G' h1 h2=>?_) ⟨⟨_,ψ _ rfl,rfl,rfl⟩,⟨_,ο _ (I1.gh _ _ g),tc,n,td⟩⟩ (fun b hb=>?_) e1)
   ·obtain ⟨v',w1,w2⟩:=(r.mono h1 h2).get p2
    rw [show vs[i]? = some v by simpa using p1] at w1;cases w1;exact w2
   ·rcases π.mp hb with w | w
    ·rw [w];exact .inl ⟨aB z1,_,ψ _ rfl⟩
    ·rw [η.mp w];exact .inr ⟨fun m=>ne (η.mp m),_,g⟩
 | dic ks l=>
   obtain ⟨p,o,vs,rfl,hs,g,⟨es,ep,c1,c2,c3,c4,c5,hz⟩,hl,r⟩:=r
   have ne:=qr I1 g
   have dm:Heap.DictAt (aR X.W.P X.W.w) z1.s.heap p (ks.zip vs) ep:=⟨o,es,I1.gh _ _ g,c1,c2,c3,c4,c5⟩
   have lk:ks.length=vs.length:=hl.trans r.len
   have lz:(ks.zip vs).length=(ks.map xG).length:=by rw [ϸ,Ν];omega
   refine wpAny_pyIter_dict hs dm (e9 (ds:=ks.map xG) (wr:=[z1.s.heap.objs.size]) x1 I1 (.push (t:=z1.s.toks)) (Itr.walks (I1.hd hc) lz.symm (fun A hA=>Walks.dictKeys (knd:=aR X.W.P X.W.w) hA _ p ne (ks.zip vs) ep) (fun i h st b hb=>by rw [η.mp hb];obtain ⟨⟨o,e,_⟩,_⟩:=st;exact ⟨o,e⟩) (fun st q=>let ⟨⟨o,e,c,d⟩,_⟩:=st;jP e c d (by decide) q) fun i v d p1 p2 ρ' G' h1 h2=>?_) ⟨⟨_,ψ _ rfl,rfl,rfl⟩,⟨o,es,ο _ (I1.gh _ _ g),c1,c2,c3,c4,c5⟩⟩ (fun b hb=>?_) e1)
   ·obtain ⟨k,u,w1,w2⟩:=p1
    have kk:ks[i]? = some k:=by
     have:=Ā.mp w1;exact this.1
    rw [ϋ,kk] at p2
    cases p2
    rcases aI w2 with ⟨j,t,rfl,rfl⟩ | ⟨x,t,rfl,rfl⟩
    ·exact ⟨t,rfl⟩
    ·exact ⟨t,rfl⟩
   ·rcases π.mp hb with w | w
    ·rw [w];exact .inl ⟨aB z1,_,ψ _ rfl⟩
    ·rw [η.mp w];exact .inr ⟨fun m=>ne (η.mp m),_,g⟩
 | str y=>
   obtain ⟨t,rfl⟩:=r
   have e1:X.ev false (.itv a) z.t=Out.of z1.t ((if y.cps.all (· < 128)=true then some (y.cps.toList.map fun c=>D.str ⟨#[c]⟩) else none).map D.lst):=e1
   by_cases hy:y.cps.all (· < 128)=true
   ·rw [ZZ hy] at e1
    refine wpAny_pyIter_ascii hy (e9 (ds:=y.cps.toList.map fun c=>.str ⟨#[c]⟩) (wr:=[z1.s.heap.objs.size]) x1 I1 (.push (t:=z1.s.toks)) (Itr.walks (I1.hd hc) (by simp) (fun A hA=>Walks.strAscii hA _ y t) (fun i h st b hb=>by rw [η.mp hb];obtain ⟨o,e,_⟩:=st;exact ⟨o,e⟩) (fun st q=>let ⟨o,e,c,d⟩:=st;jP e c d (by decide) q) fun i v d p1 p2 ρ' G' h1 h2=>?_) ⟨_,ψ _ rfl,rfl,rfl⟩ (fun b hb=>?_) e1)
    ·obtain ⟨c,u,w1,rfl⟩:=p1
     rw [ϋ,Array.getElem?_toList,w1] at p2
     cases p2;exact ⟨u,rfl⟩
    ·rw [η.mp hb];exact .inl ⟨aB z1,_,ψ _ rfl⟩
   ·rw [ZY hy] at e1;exact ZX e1 nb
 | _=>exact ZX e1 nb
theorem vo {a:Int}:(fy a n).length=n:=by simp [fy]
theorem rL {lo hi:Int} {t u v:Tok} {tk:Nat} {o:Out D} (hc:X.calm=true) (x:Ee X z z1) (I:Rep X z1) (h1:-(2 ^ 62)≤lo) (h2:lo<2 ^ 62) (h3:-(2 ^ 62)≤hi) (h4:hi<2 ^ 62) (e:o = .ok (.lst (fy lo (hi - lo).toNat)) z1.t):Α X.M X.A (ũ (.ref z1.s.heap.objs.size)) (FI X z tg o) NoE { z1.s with heap:=z1.s.heap.push { cls:=.type "range",data:=.fields #[.int lo t,.int hi u,.int 1 v] },toks:=tk }:=by
 refine wpAny_pyIter_range (IsRange.new ..) (small_one h1 h2 h3 h4) ?_
 have e2:(((hi - lo).toNat:Nat):Int) - ((0:Nat):Int)=Hr lo hi 1:=by rw [rangeSize_one];split <;> omega
 have g0:Gr z1.s { z1.s with heap:=z1.s.heap.push { cls:=.type "range",data:=.fields #[.int lo t,.int hi u,.int 1 v] },toks:=tk }:=.push
 have I2:=I.grow (ak I.gh g0)
 refine e9 (z1:={ z1 with s:={ z1.s with heap:=z1.s.heap.push { cls:=.type "range",data:=.fields #[.int lo t,.int hi u,.int 1 v] },toks:=tk } }) (ds:=fy lo (hi - lo).toNat) (x.trans (ak I.gh g0).ee) I2 (.push (t:=tk)) (Itr.walks (I.hd hc) vo (fun A hA=>Walks.range hA _ lo 1 (hi - lo).toNat) (fun i h st b hb=>by rw [η.mp hb];exact ⟨_,st⟩) (fun st q=>jP st rfl rfl (by decide) q) fun i v d p1 p2 ρ' G' _ _=>?_) ?_ (fun b hb=>?_) e
 ·obtain ⟨t,rfl⟩:=p1
  unfold fy at p2
  rw [ϋ,ω] at p2
  obtain ⟨j,p3,rfl⟩:=p2
  obtain ⟨hj,hj2⟩:=ς.mp p3
  rw [List.getElem_range] at hj2
  subst hj2
  exact ⟨t,by rw [Int.mul_one]⟩
 ·show IsRangeIter _ _ (lo+((0:Nat):Int) * 1) ((((hi - lo).toNat:Nat):Int) - ((0:Nat):Int)) 1
  rw [e2,show lo+((0:Nat):Int) * 1=lo by simp]
  exact ψ _ rfl
 ·rw [η.mp hb];exact .inl ⟨aB { z1 with s:=_ },_,ψ _ rfl⟩
theorem ou (hc:X.calm=true) (hx:Blt X "range" (.type "range")) (ha:LE X ea a) (he:Ε [ea] X.env=(false,eval ea X.env) :: Ε [] X.env):LI X tg (.Call (.Name "range" p) [ea] [] pos) (.it .range1 (.cons a .nil)):=fun z I nb=>
 bt (Q:=fun v s1=>Α X.M X.A (ũ v) (FI X z tg (X.ev false (.it .range1 (.cons a .nil)) z.t)) NoE s1) (.inr ⟨_,rfl⟩) hx he rfl I (Η ((ha false).go .refl I (ev1 fun l s=>Out.of s ((itD .range1 l).map D.lst)) nb fun z1 x u y1 x1 I1 r1 e1=>Ξ (by
  cases x with
  | int j=>
    obtain ⟨t,rfl⟩:=r1.rd
    have e1:X.ev false (.it .range1 (.cons a .nil)) z.t=Out.of z1.t ((if -(2 ^ 62)≤j∧j<2 ^ 62 then some (fy 0 j.toNat) else none).map D.lst):=e1
    by_cases c:-(2 ^ 62)≤j∧j<2 ^ 62
    ·rw [ZZ c] at e1
     exact call_range_1 (rL hc x1 I1 (by omega) (by omega) c.1 c.2 (by rw [Int.sub_zero];exact e1))
    ·rw [ZY c] at e1;exact ZX e1 nb
  | _=>exact ZX e1 nb)))
theorem iU:∀ {l:List D} {i:Nat} {j:Int},(bM j l)[i]? = (l[i]?).map fun d=>.tup [.int (j+i),d]
 | [],_,_=>by unfold bM;simp
 | a :: r,0,j=>by unfold bM;simp
 | a :: r,i+1,j=>by
   unfold bM
   rw [Á,Á,iU]
   congr 1;funext d;congr 3;omega
theorem fT:∀ {l:List D} {j:Int},(bM j l).length=l.length
 | [],_=>by unfold bM;rfl
 | a :: r,j=>by unfold bM;rw [Ι,Ι,fT]
theorem ut {es:List Κ} {k:Nat} {tp:ϭ} (hc:X.calm=true) (hx:Blt X "enumerate" (.type "enumerate")) (ha:LE X ea a) (he:Ε [ea] X.env=(false,eval ea X.env) :: Ε [] X.env):LI X (.Tuple es k tp) (.Call (.Name "enumerate" p) [ea] [] pos) (.it .enum (.cons a .nil)):=fun z I nb=>
 bt (Q:=fun v s1=>Α X.M X.A (ũ v) (FI X z (.Tuple es k tp) (X.ev false (.it .enum (.cons a .nil)) z.t)) NoE s1) (.inr ⟨_,rfl⟩) hx he rfl I (Η ((ha false).go .refl I (ev1 fun l s=>Out.of s ((itD .enum l).map D.lst)) nb fun z1 x u y1 x1 I1 r1 e1=>Ξ (by
  cases x with
  | lst l=>
    obtain ⟨a0,o,vs,rfl,g,⟨⟨n,rfl⟩,hz⟩,r⟩:=r1.rd
    have hlt:=Ο (I1.gh _ _ g)
    refine call_enumerate_1 (I1.gh _ _ g) fun h' g1 g2 hsz kp=>GX g1 (e9 (ds:=bM 0 l) x1 I1 (s2:={ z1.s with heap:=h' }) (.hp (t:=z1.s.toks) kp) (Itr.walksT (I1.hd hc) (by rw [fT];simp [r.len]) (fun A hA=>gO (Hm (A:=A.in1) hA z1.s.heap.objs.size a0 (ϛ hlt) vs.toArray) (z1.s.heap.objs.size+1) (Ŏ _) (nin _ 1 0 _ (by decide) hlt) ι) (fun i h st b hb=>?_) (fun _ _ _ m=>m.2) fun i vals d p1 p2=>?_) ⟨⟨_,g1⟩,g2,⟨_,kp _ _ (I1.gh _ _ g),rfl,n,rfl⟩⟩ (fun b hb=>?_) e1)
    ·obtain ⟨⟨old,e1⟩,⟨o2,e2,_⟩,_⟩:=st
     rcases π.mp hb with w | w
     ·rw [w];exact ⟨_,e1⟩
     ·rw [η.mp w];exact ⟨o2,e2⟩
    ·obtain ⟨t,v,p3,rfl⟩:=p1
     rw [iU,ω] at p2
     obtain ⟨d',p4,rfl⟩:=p2
     refine ⟨by simp [Ą],_,rfl,fun ρ' G' h1 h2=>?_⟩
     obtain ⟨v',w1,w2⟩:=(r.mono h1 h2).get p4
     rw [show vs[i]? = some v by simpa using p3] at w1;cases w1
     exact .cons ⟨t,by rw [Int.zero_add]⟩ (.cons w2 rfl)
    ·rcases π.mp hb with w | w
     ·rw [w];exact .inl ⟨fV (Þ _),_,g1⟩
     ·rcases π.mp w with w | w
      ·obtain ⟨o2,e2,_⟩:=g2
       rw [w];exact .inl ⟨aB z1,_,e2⟩
      ·rw [η.mp w]
       refine .inr ⟨fun m=>?_,_,g⟩
       rcases π.mp m with q | q
       ·exact ϛ (FP hlt) q
       ·exact ϛ hlt (η.mp q)
  | _=>exact ZX e1 nb)))
end
def gX (env:Dz):List (ν×Δ)→List (ν×Β)→List (ν×Β)
 | [],cs=>cs
 | y :: r,cs=>gX env r (if (y.2 == Ø)=true then (match env.cells.lookup y.1 with | some a=>(y.1,a) :: cs | none=>cs) else cs)
theorem cD :∀ {l:List (ν×β)} {p:ν×β},p∈l→∃ c,l.lookup p.1=some c
 | [],_,h=>nomatch h
 | (a,b) :: r,p,h=>by
   cases e:p.1 == a with
   | true=>exact ⟨b,by simp only [ē,e]⟩
   | false=>
     rcases π.mp h with q | q
     ·subst q;simp at e
     ·obtain ⟨c,hc⟩:=cD q
      exact ⟨c,by simp only [ē,e];exact hc⟩
theorem jJ :∀ {ns} {cs} {p:ν×Β},p∈gX env ns cs→p∈cs∨env.cells.lookup p.1=some p.2
 | [],_,_,h=>.inl h
 | y :: r,cs,p,h=>by
   rcases jJ (ns:=r) h with q | q
   ·by_cases hk:(y.2 == Ø)=true
    ·rw [ZZ hk] at q
     cases e:env.cells.lookup y.1 with
     | none=>rw [e] at q;exact .inl q
     | some a=>
       rw [e] at q
       rcases π.mp q with rfl | q
       ·exact .inr e
       ·exact .inl q
    ·rw [ZY hk] at q;exact .inl q
   ·exact .inr q
theorem iw :∀ {ns} {cs} {p:ν×Β},p∈cs→p∈gX env ns cs
 | [],_,_,h=>h
 | y :: r,cs,p,h=>by
   refine iw (ns:=r) ?_
   by_cases hk:(y.2 == Ø)=true
   ·rw [ZZ hk]
    cases e:env.cells.lookup y.1 with
    | none=>exact h
    | some a=>exact κ _ h
   ·rw [ZY hk];exact h
theorem fQ :∀ {ns} {cs} {y:ν×Δ} {c},y∈ns→y.2 = .free→env.cells.lookup y.1=some c→(y.1,c)∈gX env ns cs
 | z :: r,cs,y,c,h,hf,hc=>by
   rcases π.mp h with rfl | h
   ·refine iw (ns:=r) ?_
    rw [ZZ (by rw [hf];rfl),hc]
    exact ι
   ·exact fQ (ns:=r) h hf hc
theorem dD
 (hf:∀ y cs,f y cs=if (y.2 == Ø)=true then (do let a ← cellOf env y.1;pure (Ϫ ((y.1,a) :: cs))) else pure (Ϫ cs)) :
 ∀ (ns) (cs),(∀ y∈ns,y.2 = .free→∃ c,env.cells.lookup y.1=some c)→(forIn ns cs f:F1 _)=pure (gX env ns cs)
 | [],cs,_=>rfl
 | y :: r,cs,h=>by
   rw [ğ,hf]
   by_cases hk:(y.2 == Ø)=true
   ·obtain ⟨c,hc⟩:=h y ι (by simpa using hk)
    have e1:cellOf env y.1=pure c:=by unfold cellOf;rw [hc]
    rw [ZZ hk,e1]
    have ih:=dD hf r ((y.1,c) :: cs) fun z hz=>h z (κ _ hz)
    show (forIn r ((y.1,c) :: cs) f:F1 _)=pure (gX env r _)
    rw [ih,ZZ hk,hc]
   ·have ih:=dD hf r cs fun z hz=>h z (κ _ hz)
    rw [ZY hk]
    show (forIn r cs f:F1 _)=pure (gX env r _)
    rw [ih,ZY hk]
theorem kR (h:∀ y∈sc.names,y.2 = .free→∃ c,env.cells.lookup y.1=some c):closureFor sc env=pure (gX env sc.names []):=by
 simp only [closureFor]
 rw [dD (env:=env) (fun y cs=>by obtain ⟨n,kd⟩:=y;by_cases hk:(kd == Ø)=true <;> simp [hk]) sc.names [] h]
 rfl
def cxC (X:Cx) (N:List ν) (sc:Ē) (C:Β):Cx:={ X with N:=N,env:=compEnvC sc (gX X.env sc.names []) C X.env }
def iH (sc:Ē) (env:Dz) (p:ν×ν):Bool:=match (relabel sc env).names.lookup p.1 with
 | some .local=>false
 | some .cell=>p.1 == p.2
 | some .free=>p.1 == p.2
 | _=>true
structure Lcn (X:Cx) (sc:Ē) (k:Nat) (N:List ν):Prop where
 nocell:∀ y∈sc.names,y.2≠.cell
 kind:sc.kind = .function
 names:∀ y∈sc.names,y.2 = .local→sc.names.lookup y.1=some .local
 fr:∀ y∈sc.names,y.2 = .free→X.env.kindOf y.1=some .cell∨X.env.kindOf y.1=some .free
 len:N.length=k+X.N.length
 old:((N.drop k).zip X.N).all (iH sc X.env)=true
theorem A5 (h1:(sc.names.all fun y=>y.2 != .cell)=true) (h2:sc.kind = .function) (h3:(sc.names.all fun y=>y.2 != .local || sc.names.lookup y.1 == some .local)=true)
 (h4:(sc.names.all fun y=>y.2 != .free || (X.env.kindOf y.1 == some .cell || X.env.kindOf y.1 == some .free))=true) (h5:N.length=k+X.N.length) (h6:((N.drop k).zip X.N).all (iH sc X.env)=true):Lcn X sc k N where
 nocell:=fun y hy=>by have:=ϒ.mp h1 y hy;simpa using this
 kind:=h2
 names:=fun y hy hl=>by have:=ϒ.mp h3 y hy;simpa [hl] using this
 fr:=fun y hy hl=>by have:=ϒ.mp h4 y hy;simpa [hl] using this
 len:=h5
 old:=h6
section
variable {X:Cx} {sc:Ē} {k:Nat} {N:List ν} {z z' z0 z1:Z} {C:Β}
theorem Lcn.cells (L:Lcn X sc k N) (ok:COk X):∀ y∈sc.names,y.2 = .free→∃ c,X.env.cells.lookup y.1=some c:=fun y hy hf=>ok.ch y.1 (L.fr y hy hf)
theorem jK (e:(gX X.env sc.names []).lookup x=some c):X.env.cells.lookup x=some c:=by
 rcases jJ (Ä e) with q | q
 ·exact nomatch q
 ·exact q
theorem cn (L:Lcn X sc k N) (e:(relabel sc X.env).names.lookup x=some kd) (hk:kd = .cell∨kd = .free):(x,Ø)∈sc.names:=by
 have hm:=Ä e
 obtain ⟨⟨n,k'⟩,hy,q⟩:=ë.mp hm
 dsimp only at q
 by_cases hc:(k' == Ø && X.env.scope.kind == .function && X.env.kindOf n == some .cell)=true
 ·rw [ZZ hc] at q
  have e1:n=x:=ZS Ň q
  have e2:k' = .free:=by simp at hc;exact hc.1.1
  subst e1 e2
  exact hy
 ·rw [ZY hc] at q
  have e1:n=x:=ZS Ň q
  have e2:k'=kd:=ZS Eb q
  subst e1 e2
  rcases hk with rfl | rfl
  ·exact ZX rfl (L.nocell _ hy)
  ·exact hy
theorem nQ (L:Lcn X sc k N) (hi:N[i]? = some x) (hk:k≤i) (v:Vis (relabel sc X.env) x):X.N[i - k]? = some x∧(x,Ø)∈sc.names:=by
 have hlt:i<N.length:=(ς.mp hi).1
 have hl:=L.len
 have h2:i - k<X.N.length:=by omega
 have e1:(N.drop k)[i - k]? = some x:=by rw [ż];rw [show k+(i - k)=i by omega];exact hi
 have e2:X.N[i - k]? = some X.N[i - k]:=Θ h2
 have hz:((N.drop k).zip X.N)[i - k]? = some (x,X.N[i - k]):=by rw [Ā];exact ⟨e1,e2⟩
 have ho:=ϒ.mp L.old _ (φ hz)
 have v':(relabel sc X.env).names.lookup x=some .local∨(relabel sc X.env).names.lookup x=some .cell∨(relabel sc X.env).names.lookup x=some .free:=v
 unfold iH at ho
 rcases v' with q | q | q
 ·simp only [q] at ho;cases ho
 ·simp only [q] at ho
  have e3:x=X.N[i - k]:=by simpa using ho
  exact ⟨by rw [e2,← e3],cn L q (.inl rfl)⟩
 ·simp only [q] at ho
  have e3:x=X.N[i - k]:=by simpa using ho
  exact ⟨by rw [e2,← e3],cn L q (.inr rfl)⟩
theorem HR.cx (I:HR X z):HR (cxC X N sc C) z:=⟨I.md,I.fm,I.hd,I.bs,I.gh,I.rl,I.rn,I.rg,I.ob,I.fu,I.ff,I.br,I.os⟩
theorem HR.out (I:HR (cxC X N sc C) z):HR X z:=⟨I.md,I.fm,I.hd,I.bs,I.gh,I.rl,I.rn,I.rg,I.ob,I.fu,I.ff,I.br,I.os⟩
theorem wc (h:Lc (cxC X N sc C) a):a=C∨Lc X a:=h.imp_right fun ⟨x,e⟩=>.inr ⟨x,jK e⟩
theorem qz {s':ξ} {m:ν→Option ζ} (L:Lcn X sc k N) (I:Rep X z) (ow:z.t.ow = []) (g:Gr z.s s') (hC:z.h C=none) (hn:s'.heap.Ns C m):Rep (cxC X N sc C) ⟨z.ρ,z.G,⟨Ζ k none ++ z.t.env,[],z.t.st⟩,Ζ k none ++ z.σ,s'⟩:=by
 have H:=(I.toHR.grow (ak I.gh g)).cx (N:=N) (sc:=sc) (C:=C)
 have ck:∀ {c:Β} {v:Option ζ},z.s.heap.IsCell c v→s'.heap.IsCell c v:=fun ⟨o,e,d⟩=>⟨o,g.k _ o e,d⟩
 have fC:=I.fre hC
 refine ⟨⟨H.md,H.fm,H.hd,H.bs,H.gh,H.rl,H.rn,H.rg,H.ob,H.fu,H.ff,H.br,H.os⟩,⟨I.ok.un,L.kind,I.ok.gl,I.ok.bl,fun x y c h1 h2=>I.ok.ci x y c (jK h1) (jK h2),fun x hx=>?_⟩,⟨m,hn,fun i x v h1 h2 h3=>?_⟩,fun x c e=>let ⟨v,q⟩:=I.ce x c (jK e);⟨v,ck q⟩,fun a l=>?_,by show (Ζ k none ++ z.t.env).length=(Ζ k none ++ z.σ).length;rw [υ,υ,I.el];simp,by show (Ζ k none ++ z.σ).length=N.length;rw [υ,å,L.len,I.sl],fun i d _ e=>?_,(fun i m=>nomatch m),(fun i j a m=>nomatch m)⟩
 ·have hx':(relabel sc X.env).names.lookup x=some .cell∨(relabel sc X.env).names.lookup x=some .free:=hx
  have hm:(x,Ø)∈sc.names:=by
   rcases hx' with q | q
   ·exact cn L q (.inl rfl)
   ·exact cn L q (.inr rfl)
  obtain ⟨c,hc⟩:=L.cells I.ok _ hm rfl
  exact cD (fQ hm rfl hc)
 ·have hki:k≤i:=by
   by_cases q:i<k
   ·rw [Χ (by simpa using q),ï,ZZ q] at h2
    cases h2
   ·omega
  rw [Μ (by simpa using hki),å] at h2
  obtain ⟨hx,hm⟩:=nQ L h1 hki h3
  have hkx:=L.fr _ hm rfl
  have hvis:Vis X.env.scope x:=by
   rcases hkx with q | q
   ·exact .inr (.inl q)
   ·exact .inr (.inr q)
  obtain ⟨m0,_,hl⟩:=I.lo
  rcases hl (i - k) x v hx h2 hvis with ⟨q,_⟩ | ⟨_,c,hc,hcell⟩
  ·rcases hkx with z | z
   ·rw [show X.env.kindOf x=some .cell from z] at q;cases q
   ·rw [show X.env.kindOf x=some .free from z] at q;cases q
  ·obtain ⟨c',hc'⟩:=cD (fQ hm rfl hc)
   have e:=jK hc'
   rw [hc] at e;cases e
   refine .inr ⟨?_,c,hc',ck hcell⟩
   have v':(relabel sc X.env).names.lookup x=some .local∨(relabel sc X.env).names.lookup x=some .cell∨(relabel sc X.env).names.lookup x=some .free:=h3
   rcases v' with z | z | z
   ·exfalso
    have hlt:i<N.length:=(ς.mp h1).1
    have hl':=L.len
    have h2':i - k<X.N.length:=by omega
    have hz:((N.drop k).zip X.N)[i - k]? = some (x,X.N[i - k]):=by
     rw [Ā]
     exact ⟨by rw [ż,show k+(i - k)=i by omega];exact h1,Θ h2'⟩
    have ho:=ϒ.mp L.old _ (φ hz)
    unfold iH at ho
    simp only [z] at ho
    cases ho
   ·exact .inl z
   ·exact .inr z
 ·rcases wc l with rfl | l
  ·exact ⟨fC.1.1,fC.1.2.1⟩
  ·exact I.fl a l
 ·have hki:k≤i:=by
   by_cases q:i<k
   ·have e:(Ζ k none ++ z.t.env)[i]? = some (some d):=e
    rw [Χ (by simpa using q),ï,ZZ q] at e
    cases e
   ·omega
  have e:(Ζ k none ++ z.t.env)[i]? = some (some d):=e
  rw [Μ (by simpa using hki),å] at e
  obtain ⟨u,e1,r⟩:=I.en (i - k) d (by rw [ow];exact nofun) e
  exact ⟨u,by show (Ζ k none ++ z.σ)[i]? = _;rw [Μ (by simpa using hki),å];exact e1,r⟩
theorem xP {zr:Z} (I:Rep X z) (Ir:Rep X zr) (er:zr.t.env=z.t.env∧zr.σ=z.σ∧zr.t.ow = []) (S:Stp X.fr (Own z) z z') (H:HR X z') (pr:zr.ρ <+: z'.ρ) (gg:Sub zr.G z'.G):Rep X { z' with t:=⟨z.t.env,[],z'.t.st⟩,σ:=z.σ }:=by
 have sl:∀ b o,z.h b=some o→¬ Mu z.ρ b→¬ Own z b→∃ sl,z'.s.heap.get? b=some { o with slots:=sl }:=fun b o e n w=>by
  by_cases f:b∈frs X.fr
  ·exact S.sl b o e n w f
  ·exact ⟨o.slots,S.sm b o e n w f⟩
 have nO:∀ {a},Lc X a→¬ Own z a:=fun l w=>(I.oth w).1.2.2.2 l
 have ck:∀ x c v,X.env.cells.lookup x=some c→z.s.heap.IsCell c v→z'.s.heap.IsCell c v:=fun x c v e ⟨o,q,d⟩=>by
  have l:Lc X c:=.inr ⟨x,e⟩
  obtain ⟨s,q2⟩:=sl c o q (I.fl c l).2 (nO l)
  exact ⟨_,q2,d⟩
 refine ⟨⟨H.md,H.fm,H.hd,H.bs,H.gh,H.rl,H.rn,H.rg,H.ob,H.fu,H.ff,H.br,H.os⟩,I.ok,?_,fun x c e=>let ⟨v,q⟩:=I.ce x c e;⟨v,ck x c v e q⟩,fun a l=>⟨?_,fun m=>(S.rn a m).elim (I.fl a l).2 fun w=>?_⟩,I.el,I.sl,fun i d _ e=>?_,(fun i m=>nomatch m),(fun i j a m=>nomatch m)⟩
 ·obtain ⟨m,⟨oL,es,ep,q,r⟩,hl⟩:=I.lo
  have l:Lc X X.env.locals:=.inl rfl
  obtain ⟨s,q2⟩:=sl _ _ q (I.fl _ l).2 (nO l)
  exact ⟨m,⟨_,es,ep,q2,r⟩,fun j x w e1 e2 e3=>cW (fun c v e q=>ck x c v e q) (hl j x w e1 e2 e3)⟩
 ·cases q:z'.G a with
  | none=>rfl
  | some o=>
    obtain ⟨o1,e1⟩:=I.lth l
    rcases S.gn a o q with w | w | w
    ·rw [(I.fl a l).1] at w;cases w
    ·rw [w] at e1;cases e1
    ·exact ZX w (nO l)
 ·obtain ⟨o1,e1⟩:=I.lth l
  rw [w] at e1;cases e1
 ·obtain ⟨u,e1,r⟩:=Ir.en i d (by rw [er.2.2];exact nofun) (by rw [er.1];exact e)
  exact ⟨u,er.2.1 ▸ e1,r.mono pr gg⟩
def LTs (Y:Cx) (ifs:List Κ) (c:E):Prop:=Jg Y (forIn ifs true fun c r=>if r=true then do let ok ← GF c Y.env (eval c Y.env);pure (Ϫ ok) else pure (Ϫ r)) (fun t=>(Y.ev true c t).bind toB) RT
theorem uK:LTs X [] (.c (.bl true)):=fun z I nb=>wpAny_tests_nil ⟨z,true,rfl,rfl,.refl,I,rfl⟩
theorem uL (h:LT X e c):LTs X [e] c:=fun z I nb=>wpAny_tests_one (h z I nb)
def lcF (X:Cx) (t:List Nat) (one:Bool) (elt cond:E) (d:D) (s':Sta):Out (Option D):=match aP t one d s'.env with
 | some env=>(noX (X.ev true cond ⟨env,[],s'.st⟩)).bind fun b s2=>(match b with
   | .bl true=>(noX (X.ev false elt s2)).bind fun e s3=>.ok (some e) ⟨s3.env,[],s3.st⟩
   | .bl false=>.ok none ⟨s2.env,[],s2.st⟩
   | _=>.bad)
 | none=>.bad
theorem Ee.nil (x:Ee X z z') (h:z.t.ow = []):z'.t.ow = []∧Stp X.fr (fun _=>False) z z':=⟨List.eq_nil_iff_forall_not_mem.mpr (fun i m=>by have:=x.ow i m;rw [h] at this;exact nomatch this),x.st.mono fun a ⟨i,m,_⟩=>by rw [h] at m;exact nomatch m⟩
theorem mX {t:Sta} (h:t.ow = []):(⟨t.env,[],t.st⟩:Sta)=t:=by cases t;cases h;rfl
end
section
variable {X:Cx} {sc:Ē} {N:List ν} {z z' z0 z1:Z}
structure LcP (X:Cx) (N:List ν) (ee tg iter:Κ) (ifs:List Κ) (sc:Ē) (t:List Nat) (one:Bool) (it elt cond:E):Prop where
 hc:X.calm=true
 L:Lcn X sc t.length N
 hi:LI X tg iter it
 hg:∀ C,LG (cxC X N sc C) tg t one
 hl:∀ i∈t,∀ x,N[i]? = some x→(relabel sc X.env).names.lookup x=some .local
 ht:∀ C,LTs (cxC X N sc C) ifs cond
 he:∀ C,LE (cxC X N sc C) ee elt
 hs:∀ x,E1 iter X.env x=pure x
inductive LcJ (X Y:Cx) (z zr:Z) (env:List (Option D)) (ds:List D) (St:Nat→ϳ→Prop) (fp wr:List Nat) (a:Nat) (o:Out D) (f:D→Sta→Out (Option D)) (n:Nat) (s:ξ):Prop
 | mk (i:Nat) (z':Z) (acc:List D) (vs:List ζ) (ob:Er) (_:z'.s=s) (_:n=ds.length - i) (_:i≤ds.length) (_:Stp X.fr (Own z) z z') (_:Rep Y z') (_:z'.t.ow = []) (_:St i z'.s.heap) (_:Fp Y z z' fp wr) (_:zr.ρ <+: z'.ρ) (_:Sub zr.G z'.G) (_:Nob Y z z' a) (_:z'.h a=some ob) (_:LsO ob vs) (_:RDs X.W z'.ρ z'.G acc vs) (_:o=(b6 f (ds.drop i) acc z'.t).bind fun d s'=>.ok d ⟨env,[],s'.st⟩)
theorem qy {ee tg iter:Κ} {ifs:List Κ} {t:List Nat} {one:Bool} {it elt cond:E} {pos p:ϭ} {use:Option (ζ→F1 Unit)} {Q:ζ→ξ→Prop} {E:ζ→ξ→Prop} {o:Out D} (P:LcP X N ee tg iter ifs sc t one it elt cond) (I:Rep X z) (e0:o=X.ev false (.lc t one it elt cond) z.t) (nb:o≠.bad) (hE:∀ u s',Px X z o u s'→E u s')
 (fin:∀ zf d D C m,Ee X z zf→Rep X zf→o = .ok d zf.t→FV X z zf d (.ref D)→Nob X z zf C→(∃ oC,zf.h C=some oC)→zf.s.heap.Ns C m→C≠D→compPost X.M X.A E use Q (.ref D) C (.ok .next) zf.s) :
 Α X.M X.A (comprehension (.ListComp ee [⟨tg,iter,ifs,0⟩] sc pos) sc X.env p (newList []) false (eval iter X.env) use) Q E z.s:=by
 have e0:o=(X.ev false it z.t).bind fun x s=>(match x with
  | .lst ds=>(b6 (lcF X t one elt cond) ds [] ⟨Ζ t.length none ++ s.env,[],s.st⟩).bind fun d s'=>.ok d ⟨s.env,[],s'.st⟩
  | _=>.bad):=e0
 have nb0:X.ev false it z.t≠.bad:=fun q=>nb (by rw [e0,q];rfl)
 refine wpAny_comprehension_free rfl P.hs (kR (P.L.cells I.ok)) P.L.kind P.L.names (Τ (P.hi z I nb0) (fun v s1 h1=>Τ h1 (fun itv s2 h2=>?_) fun _ _ w=>w.elim) fun u s' h=>hE u s' (by rw [e0];exact h.map))
 obtain ⟨z1,ds,a,fp,wr,St,q1,q2,x1,I1,q3,T,st1,f1⟩:=h2
 subst q1 q3
 rw [q2] at e0
 have e0:o=(b6 (lcF X t one elt cond) ds [] ⟨Ζ t.length none ++ z1.t.env,[],z1.t.st⟩).bind fun d s'=>.ok d ⟨z1.t.env,[],s'.st⟩:=e0
 refine Ê (wpAny_newFunctionEnv P.L.nocell (by intro y hy;simp at hy) (fun h1 hns hsb=>?_) P.L.kind)
 dsimp only at hns hsb ⊢
 generalize hD:z1.s.heap.objs.size=D at hns hsb ⊢
 have nD:z1.h D=none:=hD ▸ aB z1
 generalize hG:z1.s.heap.push { cls:=.type "list",dict:=none,data:=.seq ([]:List ζ).toArray }=G1 at hns hsb ⊢
 have hC0:G1.objs.size=D+1:=by rw [← hG,ϵ,hD]
 generalize hC:G1.objs.size=C at hns hsb ⊢ hC0
 have CD:C≠D:=by rw [hC0];exact Ŏ _
 have nC:z1.h C=none:=ϗ (by rw [hC0,hD];exact Þ _)
 have up:∀ b o,G1.get? b=some o→h1.get? b=some o:=fun b o e=>hsb.extBut b o (hC ▸ ϛ (Ο e)) (ο _ e)
 have kp:∀ b o,z1.s.heap.get? b=some o→h1.get? b=some o:=fun b o e=>up b o (hG ▸ ο _ e)
 have gr:Gr z1.s { z1.s with heap:=h1,toks:=z1.s.toks+([]:List (ν×ζ)).length }:=.hp kp
 have hDo:h1.get? D=some { cls:=.type "list",data:=.seq ([]:List ζ).toArray }:=up _ _ (hG ▸ hD ▸ ψ _ rfl)
 obtain ⟨Ir,xr⟩:=I1.rel fun _=>false
 have owr:(z1.rel fun _=>false).t.ow = []:=ċ.mpr fun _ _=>by simp
 have I2:=qz (k:=t.length) P.L Ir owr (s':={ z1.s with heap:=h1,toks:=z1.s.toks+([]:List (ν×ζ)).length }) gr nC hns
 generalize hz2:(⟨(z1.rel fun _=>false).ρ,(z1.rel fun _=>false).G,⟨Ζ t.length none ++ (z1.rel fun _=>false).t.env,[],(z1.rel fun _=>false).t.st⟩,Ζ t.length none ++ (z1.rel fun _=>false).σ,{ z1.s with heap:=h1,toks:=z1.s.toks+([]:List (ν×ζ)).length }⟩:Z)=z2 at I2
 have xa:=x1.trans xr
 have fD:=Ir.fre (a:=D) nD
 have fC:=Ir.fre (a:=C) nC
 have zD:z.h D=none:=x1.st.no nD
 have zC:z.h C=none:=x1.st.no nC
 have S2:Stp X.fr (Own z) z z2:=by
  subst hz2
  exact ⟨xa.st.pr,xa.st.gg,xa.st.gn,xa.st.rn,fun b o e=>let ⟨o',e'⟩:=xa.st.th b o e;⟨o',kp b o' e'⟩,fun b o e n w f=>kp b o (xa.st.sm b o e n w f),fun b o e n w f=>let ⟨sl,e'⟩:=xa.st.sl b o e n w f;⟨sl,kp b _ e'⟩⟩
 have nLD:¬ Lc X D:=fD.1.2.2.2
 have nLC:¬ Lc X C:=fC.1.2.2.2
 have nob2:∀ {b},z.h b=none→(z1.rel fun _=>false).G b=none→¬ Mu z1.ρ b→b ∉ frs X.fr→¬ Lc X b→b≠C→Nob (cxC X N sc C) z z2 b:=fun h0 h1 h2 h3 h4 h5=>by
  subst hz2
  exact ⟨h0,⟨h1,h2,h3,fun l=>(wc l).elim h5 h4⟩,fun ⟨i,m,_⟩=>nomatch m⟩
 have nobD:Nob (cxC X N sc C) z z2 D:=nob2 zD fD.1.1 fD.1.2.1 fD.1.2.2.1 nLD (Ϥ CD)
 have fp1:∀ b∈fp,∃ o,z1.h b=some o:=fun b hb=>(f1 b hb).elim (·.2) fun ⟨_,o,e⟩=>⟨o,I1.gh b o e⟩
 have fpn:∀ b∈fp,b≠D∧b≠C:=fun b hb=>by
  obtain ⟨o,e⟩:=fp1 b hb
  exact ⟨fun w=>(by rw [w,nD] at e;cases e),fun w=>(by rw [w,nC] at e;cases e)⟩
 have f2:Fp (cxC X N sc C) z z2 fp wr:=fun b hb=>by
  obtain ⟨o1,e1⟩:=fp1 b hb
  rcases f1 b hb with ⟨⟨n0,ff,no⟩,_⟩ | ⟨m,o,e⟩
  ·exact .inl ⟨nob2 n0 ((c6 fun ⟨i,m,_,e⟩=>no ⟨i,m,e⟩).trans ff.1) ff.2.1 ff.2.2.1 ff.2.2.2 (fpn b hb).2,o1,by subst hz2;exact kp b o1 e1⟩
  ·exact .inr ⟨m,o,by subst hz2;exact xr.st.gg b o e⟩
 have pr2:(z1.rel fun _=>false).ρ <+: z2.ρ:=by subst hz2;exact μ _
 have gg2:Sub (z1.rel fun _=>false).G z2.G:=by subst hz2;exact .refl _
 have ow2:z2.t.ow = []:=by subst hz2;rfl
 have s2e:z2.s={ z1.s with heap:=h1,toks:=z1.s.toks+([]:List (ν×ζ)).length }:=by subst hz2;rfl
 have hD2:z2.h D=some { cls:=.type "list",data:=.seq ([]:List ζ).toArray }:=by show z2.s.heap.get? D=_;rw [s2e];exact hDo
 have st2:St 0 z2.s.heap:=by rw [s2e];exact T.keep _ _ _ st1 fun b _ o e=>kp b o e
 have e2:o=(b6 (lcF X t one elt cond) ds [] z2.t).bind fun d s'=>.ok d ⟨z1.t.env,[],s'.st⟩:=by subst hz2;exact e0
 have loop:Ĵ X.M X.A (.compLoop (.ListComp ee [⟨tg,iter,ifs,0⟩] sc pos) 0 (.ref a) (.ref D) (cxC X N sc C).env) (compPost X.M X.A E use Q (.ref D) C) z2.s:=by
  refine codeAny_loop rfl (LcJ X (cxC X N sc C) z (z1.rel fun _=>false) z1.t.env ds St fp wr D o (lcF X t one elt cond)) (fun n s3 hI=>?_) (ds.length - 0) ⟨0,z2,[],[],_,rfl,rfl,ϲ _,S2,I2,ow2,st2,f2,pr2,gg2,nobD,hD2,⟨⟨_,rfl⟩,ϲ _⟩,rfl,by rw [ī];exact e2⟩
  obtain ⟨i,z3,acc,vs,ob,e3,en,hi,S3,I3,ow3,st3,f3,p3,g3,nD3,hD3,lo3,ra3,q⟩:=hI
  subst e3
  show Α X.M X.A ((compTurn (.ListComp ee [⟨tg,iter,ifs,0⟩] sc pos) 0 (.ref a) (.ref D) (cxC X N sc C).env).onRaise (fun x=>do Ļ x (cxC X N sc C).env;theTreesLotGoes x)) _ _ z3.s
  refine wpAny_noted ?_
  rw [compTurn_list]
  refine ε (æ (ε ?_))
  cases qd:ds[i]? with
  | none=>
    have hl:i=ds.length:=by rw [Ek] at qd;omega
    subst hl
    refine Τ (T.done (I3.hd P.hc) st3) (fun r s4 ⟨er,os,k⟩=>?_) fun _ _ w=>w.elim
    subst er
    obtain ⟨I4,S4,g4,_⟩:=Rep.turn (X:=cxC X N sc C) S3 I3 (f3.wr T st3) k os
    rw [ŉ] at q
    have nDw:D ∉ wr:=fun m=>(fpn D (T.sub D m)).1 rfl
    have If:=xP I Ir ⟨x1.en,x1.sg,owr⟩ S4 I4.toHR.out p3 (g3.trans g4)
    obtain ⟨m,hn,_⟩:=I4.lo
    obtain ⟨n0,ff,no⟩:=nD3
    have GD:(z3.up s4).G D=none:=by show (match z3.h D with | none=>s4.heap.get? D | some _=>z3.G D)=none;rw [hD3];exact ff.1
    refine θ (fin { z3.up s4 with t:=⟨z.t.env,[],z3.t.st⟩,σ:=z.σ } (.lst acc) D C m ⟨⟨S4.pr,S4.gg,S4.gn,S4.rn,S4.th,S4.sm,S4.sl⟩,rfl,rfl,fun i m=>nomatch m⟩ If (q.trans (by rw [x1.en];rfl)) ⟨D,.lst acc,rfl,zD,rfl,⟨ob,vs,rfl,k D ob nDw hD3,lo3,ra3.mono (μ _) g4⟩,⟨GD,ff.2.1,ff.2.2.1,nLD⟩,fun ⟨i,m,_⟩=>nomatch m⟩ ⟨zC,⟨(I4.fl C (.inl rfl)).1,(I4.fl C (.inl rfl)).2,fC.1.2.2.1,nLC⟩,fun ⟨i,m,_⟩=>nomatch m⟩ ?_ hn CD)
    obtain ⟨oC,_,_,eC,_⟩:=hn
    exact ⟨oC,eC⟩
  | some d=>
    have hil:i<ds.length:=(ς.mp qd).1
    rw [mc qd] at q
    have q:o=((lcF X t one elt cond d z3.t).bind fun o s'=>match o with
     | some e=>if acc.length<100000 then b6 (lcF X t one elt cond) (ds.drop (i+1)) (acc ++ [e]) s' else .bad
     | none=>b6 (lcF X t one elt cond) (ds.drop (i+1)) acc s').bind fun d s'=>.ok d ⟨z1.t.env,[],s'.st⟩:=q
    refine Τ (T.item (I3.hd P.hc) qd st3) (fun r s4 ⟨u,er,h4⟩=>?_) fun _ _ w=>w.elim
    subst er
    refine ε (Τ h4 (fun _ s5 ⟨st5,os5,k5,rd5⟩=>?_) fun _ _ w=>w.elim)
    obtain ⟨I5,S5,g5,n5⟩:=Rep.turn (X:=cxC X N sc C) S3 I3 (f3.wr T st3) k5 os5
    have rd:=rd5 z3.ρ (z3.up s5).G (xr.st.pr.trans p3) ((xr.st.gg.trans g3).trans g5) fun a o e1 e2=>by rw [eV e1];exact e2
    have f5:=f3.up I3 g5 k5 fun b m _=>T.ex _ _ st5 b m
    have nDw:D ∉ wr:=fun m=>(fpn D (T.sub D m)).1 rfl
    have nD5:Nob (cxC X N sc C) z (z3.up s5) D:=⟨nD3.1,⟨by show (match z3.h D with | none=>s5.heap.get? D | some _=>z3.G D)=none;rw [hD3];exact nD3.2.1.1,nD3.2.1.2⟩,nD3.2.2⟩
    have hD5:(z3.up s5).h D=some ob:=k5 D ob nDw hD3
    cases qb:aP t one d z3.t.env with
    | none=>rw [show lcF X t one elt cond d z3.t = .bad by unfold lcF;rw [qb]] at q;exact ZX q nb
    | some env=>
      rw [show lcF X t one elt cond d z3.t=(noX (X.ev true cond ⟨env,[],z3.t.st⟩)).bind fun b s2=>(match b with
       | .bl true=>(noX (X.ev false elt s2)).bind fun e s3=>.ok (some e) ⟨s3.env,[],s3.st⟩
       | .bl false=>.ok none ⟨s2.env,[],s2.st⟩
       | _=>.bad) by unfold lcF;rw [qb];all_goals rfl] at q
      refine ε (P.hg C (z3.up s5) (z3.up s5) d u env _ _ .refl I5 rd qb fun z6 _ I6 eρ y6 et eσ ek=>?_)
      have k6:=ek P.hl
      have ow6:z6.t.ow = []:=by rw [et];show z3.t.ow.filter _ = [];rw [ow3];rfl
      have t6:z6.t=⟨env,[],z3.t.st⟩:=by rw [et];show (⟨env,z3.t.ow.filter _,z3.t.st⟩:Sta)=_;rw [ow3];rfl
      have S56:Stp X.fr (fun b=>b=C) (z3.up s5) z6:=⟨y6.st.pr,y6.st.gg,fun b o e=>(by
       rcases y6.st.gn b o e with w | w | w
       ·exact .inl w
       ·exact .inr (.inl w)
       ·rcases w with ⟨j,m,_⟩ | l
        ·have:j∈z3.t.ow:=m
         rw [ow3] at this;exact nomatch this
        ·rw [(I6.fl b l).1] at e;cases e),y6.st.rn,y6.st.th,fun b o e _ w _=>k6 b o e w,fun b o e _ w _=>⟨o.slots,k6 b o e w⟩⟩
      have S6:Stp X.fr (Own z) z z6:=S5.trans S56 fun b w=>.inr (by rw [w];exact zC)
      obtain ⟨nD6,hD6⟩:=nD5.go y6 hD5
      have f6:=f5.go y6
      have st6:St (i+1) z6.s.heap:=T.keep _ _ _ st5 (f5.keep y6 I5 I6)
      rw [← t6] at q
      have nb6:(X.ev true cond z6.t).bind toB≠.bad:=fun w=>nb (by
       rw [q]
       cases qc:X.ev true cond z6.t with
       | ok b s2=>
         rw [qc] at w
         cases b with
         | bl b=>cases w
         | _=>rfl
       | exc c l s2=>rfl
       | bad=>rfl)
      refine ε (Τ (P.ht C z6 I6 nb6) (fun b s7 ⟨z7,tb,e7,q7,x7,I7,r7⟩=>?_) fun u s' ⟨z7,c,l,e7,q7,_,_,_⟩=>?_)
      rotate_left
      ·refine ZX ?_ nb
       rw [q]
       have q7:(X.ev true cond z6.t).bind toB = .exc c l z7.t:=q7
       cases qc:X.ev true cond z6.t with
       | ok b s2=>rw [qc] at q7;cases b <;> cases q7
       | exc c l s2=>rfl
       | bad=>rw [qc] at q7;cases q7
      subst e7
      obtain ⟨ow7,S67⟩:=x7.nil ow6
      have S7:Stp X.fr (Own z) z z7:=S6.trans S67 fun _ w=>w.elim
      obtain ⟨nD7,hD7⟩:=nD6.go x7.go hD6
      have f7:=f6.go x7.go
      have st7:St (i+1) z7.s.heap:=T.keep _ _ _ st6 (f6.keep x7.go I6 I7)
      have qc:X.ev true cond z6.t = .ok (.bl tb) z7.t:=by
       have q7:(X.ev true cond z6.t).bind toB = .ok tb z7.t:=q7
       cases qc:X.ev true cond z6.t with
       | ok b s2=>rw [qc] at q7;cases b <;> first | (cases q7;rfl) | cases q7
       | exc c l s2=>rw [qc] at q7;cases q7
       | bad=>rw [qc] at q7;cases q7
      rw [qc] at q
      have p7:(z1.rel fun _=>false).ρ <+: z7.ρ:=p3.trans ((eρ ▸ μ _:z3.ρ <+: z6.ρ).trans x7.st.pr)
      have g37:Sub z3.G z7.G:=(g5.trans y6.st.gg).trans x7.st.gg
      cases (show b=tb from r7)
      cases b with
      | false=>
        have q:o=(b6 (lcF X t one elt cond) (ds.drop (i+1)) acc ⟨z7.t.env,[],z7.t.st⟩).bind fun d s'=>.ok d ⟨z1.t.env,[],s'.st⟩:=q
        rw [mX ow7] at q
        exact θ ⟨rfl,ds.length - (i+1),by omega,i+1,z7,acc,vs,ob,rfl,rfl,hil,S7,I7,ow7,st7,f7,p7,g3.trans g37,nD7,hD7,lo3,ra3.mono ((eρ ▸ μ _:z3.ρ <+: z6.ρ).trans x7.st.pr) g37,q⟩
      | true=>
        have q:o=(((noX (X.ev false elt z7.t)).bind fun e s3=>Out.ok (some e) ⟨s3.env,[],s3.st⟩).bind fun o s'=>match o with
         | some e=>if acc.length<100000 then b6 (lcF X t one elt cond) (ds.drop (i+1)) (acc ++ [e]) s' else .bad
         | none=>b6 (lcF X t one elt cond) (ds.drop (i+1)) acc s').bind fun d s'=>.ok d ⟨z1.t.env,[],s'.st⟩:=q
        have nb7:X.ev false elt z7.t≠.bad:=fun w=>nb (by rw [q,w];rfl)
        refine ε (ε (Τ (P.he C false z7 I7 nb7) (fun v s8 ⟨z8,de,e8,q8,x8,I8,r8⟩=>?_) fun u s' ⟨z8,c,l,e8,q8,_,_,_⟩=>ZX (by rw [q,show X.ev false elt z7.t=_ from q8];rfl) nb))
        subst e8
        rw [show X.ev false elt z7.t=_ from q8] at q
        have q:o=(if acc.length<100000 then b6 (lcF X t one elt cond) (ds.drop (i+1)) (acc ++ [de]) ⟨z8.t.env,[],z8.t.st⟩ else .bad).bind fun d s'=>.ok d ⟨z1.t.env,[],s'.st⟩:=q
        by_cases ca:acc.length<100000
        ·rw [ZZ ca] at q
         obtain ⟨ow8,S78⟩:=x8.nil ow7
         rw [mX ow8] at q
         have S8:Stp X.fr (Own z) z z8:=S7.trans S78 fun _ w=>w.elim
         obtain ⟨nD8,hD8⟩:=nD7.go x8.go hD7
         have f8:=f7.go x8.go
         have st8:St (i+1) z8.s.heap:=T.keep _ _ _ st7 (f7.keep x8.go I7 I8)
         obtain ⟨⟨n,rfl⟩,hz⟩:=lo3
         have ra8:=ra3.mono ((eρ ▸ μ _:z3.ρ <+: z6.ρ).trans (x7.st.pr.trans x8.st.pr)) (g37.trans x8.st.gg)
         have hl:vs.length<100000:=by rw [← ra8.len];exact ca
         refine ε (DL ê ⟨_,hD8,rfl⟩ ĥ (ģ _ _) (D1 D vs.toArray n v (by rw [Λ];exact ø (Í hl (big (Ψ _))))) ⟨hD8,?_⟩)
         obtain ⟨⟨o1,u1,u3⟩,u2⟩:=eH (f:=(·.push v)) (ws:=vs ++ [v]) hD8 (by simp) (by rw [υ];exact big (by simp;omega))
         have k9:∀ b o,b ∉ [D]→z8.h b=some o→(z8.s.heap.update D (ì (·.push v))).get? b=some o:=fun b o m e=>(u2 b fun w=>m (by rw [w];exact η.mpr rfl)).trans e
         obtain ⟨I9,S9,g9,_⟩:=Rep.turn (X:=cxC X N sc C) (s':={ z8.s with heap:=z8.s.heap.update D (ì (·.push v)) }) S8 I8 (fun b hb=>by rw [η.mp hb];exact ⟨nD8,_,hD8⟩) k9 ⟨rfl,rfl⟩
         refine θ (θ ⟨rfl,ds.length - (i+1),by omega,i+1,_,acc ++ [de],vs ++ [v],o1,rfl,rfl,hil,S9,I9,ow8,T.keep _ _ _ st8 fun b hb o e=>k9 b o (fun m=>(fpn b hb).1 (η.mp m)) e,f8.up I8 g9 k9 fun b m hb=>ZX (η.mp m) (fpn b hb).1,p7.trans x8.st.pr,((g3.trans g37).trans x8.st.gg).trans g9,⟨nD8.1,⟨?_,nD8.2.1.2⟩,nD8.2.2⟩,u1,u3,(ra8.mono (μ _) g9).app (.cons (r8.rd.mono (μ _) g9) rfl),q⟩)
         show (match z8.h D with | none=>_ | some _=>z8.G D)=none
         rw [hD8];exact nD8.2.1.1
        ·rw [ZY ca] at q;exact ZX q nb
 rw [← s2e]
 exact codeAny_compStart_list loop (T.self (I1.hd P.hc) st2 loop)
theorem qH {ee tg iter:Κ} {ifs:List Κ} {t:List Nat} {one:Bool} {it elt cond:E} {pos:ϭ} (P:LcP X N ee tg iter ifs sc t one it elt cond):LF X (.ListComp ee [⟨tg,iter,ifs,0⟩] sc pos) (.lc t one it elt cond):=fun z I nb=>by
 rw [eval_ListComp]
 refine qy P I rfl nb (fun _ _ h=>h) fun zf d D C m x If e fv nC exC hn CD=>⟨m,hn,fun h' sb=>?_⟩
 have k:∀ b o,b ∉ [C]→zf.h b=some o→h'.get? b=some o:=fun b o m e=>(sb.2 b fun w=>m (by rw [w];exact η.mpr rfl)).trans e
 obtain ⟨I4,S4,g4,_⟩:=Rep.turn (s':={ zf.s with heap:=h' }) x.st If (fun b hb=>by rw [η.mp hb];exact ⟨nC,exC⟩) k ⟨rfl,rfl⟩
 obtain ⟨a,ob,ea,n,t1,r,f,no⟩:=fv
 have ea:a=D:=(Ċ ea).symm
 subst ea
 obtain ⟨oa,ha⟩:=r.th.1
 refine ⟨zf.up { zf.s with heap:=h' },d,rfl,e,⟨S4,x.sg,x.en,x.ow⟩,I4,a,ob,rfl,n,t1,r.mono (μ _) g4 fun b hb o e=>k b o (fun m=>?_) e,⟨?_,f.2⟩,no⟩
 ·have:b=a:=by rcases hb with w | w <;> exact w
  exact CD ((η.mp m).symm.trans this)
 ·show (match zf.h a with | none=>h'.get? a | some _=>zf.G a)=none
  rw [ha];exact f.1
theorem A9 {ee tg iter:Κ} {ifs:List Κ} {t:List Nat} {one:Bool} {it elt cond:E} {pos:ϭ} (P:LcP X N ee tg iter ifs sc t one it elt cond):LE X (.ListComp ee [⟨tg,iter,ifs,0⟩] sc pos) (.lc t one it elt cond):=(qH P).le fun _=>rfl
theorem qQ {ee tg iter:Κ} {ifs:List Κ} {t:List Nat} {one:Bool} {it elt cond:E} {pos pos' spos:ϭ} {i:Nat} {x:ν} (hN:X.N.Nodup) (hi:X.N[i]? = some x) (hx:Loc X.env.scope x) (P:LcP X N ee tg iter ifs sc t one it elt cond):LS X (.Assign [.Name x pos'] (.ListComp ee [⟨tg,iter,ifs,0⟩] sc pos) spos) (.set i (.lc t one it elt cond)):=fun z I nb=>by
 obtain ⟨b,sw⟩:∃ b,D6 (.ListComp ee [⟨tg,iter,ifs,0⟩] sc pos) (some (.Name x pos')) spos.line X.env=pure b:=⟨_,rfl⟩
 cases b with
 | false=>exact lF hN hi hx (A9 P) (fun _=>qH P) sw z I nb
 | true=>
   have nb1:X.ev false (.lc t one it elt cond) z.t≠.bad:=fun q=>nb (show Out.go (X.ev false (.lc t one it elt cond) z.t) _=_ by rw [q];rfl)
   rw [exec_Assign_Name_used _ _ _ _ sw]
   refine ε (æ (ε ?_))
   show Α _ X.A (do let _ ← comprehension (.ListComp ee [⟨tg,iter,ifs,0⟩] sc pos) sc X.env _ (newList []) false (eval iter X.env) (some (assign (.Name x pos') X.env))) _ _ z.s
   refine ε (thn (qy (use:=some (assign (.Name x pos') X.env)) (Q:=fun _ s'=>Ps X z (X.ex (.set i (.lc t one it elt cond)) z.t) .next s') P I rfl nb1 (fun u s' h=>PxS.of .refl h) fun zf d D C m x0 If e fv nC exC hn CD=>?_) fun _ s' hq=>θ (θ hq))
   show Α _ X.A (assign (.Name x pos') X.env (.ref D)) _ _ _
   refine DX (cj (own:=true) x0.go If hN hi hx fv fun s' a sb la I' g'=>?_)
   have Ca:C≠a:=fun w=>nC.2.1.2.2.2 (w ▸ la.1)
   refine ⟨m,hn.sameBut sb Ca,fun h' sb'=>?_⟩
   have k:∀ b o,b ∉ [C]→s'.heap.get? b=some o→h'.get? b=some o:=fun b o m e=>(sb'.2 b fun w=>m (by rw [w];exact η.mpr rfl)).trans e
   obtain ⟨oC,eC⟩:=exC
   obtain ⟨I4,S4,g4,_⟩:=Rep.turn (z:={ zf with t:=stV zf.t i d true,σ:=zf.σ.set i (some (.ref D)),s:=s' }) (s':={ s' with heap:=h' }) g'.st I' (fun b hb=>by
    rw [η.mp hb]
    refine ⟨⟨nC.1,nC.2.1,fun ⟨j,mj,ej⟩=>?_⟩,oC,(sb.2 C Ca).trans eC⟩
    by_cases q:j=i
    ·subst q
     have hl:j<zf.σ.length:=by rw [If.sl];exact (ς.mp hi).1
     have ej:(zf.σ.set j (some (.ref D)))[j]? = some (some (.ref C)):=ej
     rw [Ϭ hl] at ej
     cases ej;exact CD rfl
    ·have ej:(zf.σ.set i (some (.ref D)))[j]? = some (some (.ref C)):=ej
     rw [Φ (Ϥ q)] at ej
     have mj:j∈i :: zf.t.ow.filter (· != i):=mj
     rcases π.mp mj with w | w
     ·exact q w
     ·exact nC.2.2 ⟨j,(ϕ.mp w).1,ej⟩) k ⟨rfl,rfl⟩
   refine nxt (z1:=Z.up { zf with t:=stV zf.t i d true,σ:=zf.σ.set i (some (.ref D)),s:=s' } { s' with heap:=h' }) ⟨S4,g'.ow⟩ I4 ?_
   show Out.go (X.ev false (.lc t one it elt cond) z.t) _=_
   rw [e]
   show av.nx (lP zf.t i d true)=_
   have ld:xC d=true:=by
    obtain ⟨_,_,_,_,t,_⟩:=fv
    cases d <;> first | rfl | cases t
   unfold lP
   rw [ld];rfl
end
theorem qh {kp:List Nat} {env:List (Option D)} {i:Nat} {d:D}:(qg kp env)[i]? = some (some d)↔i ∉ kp∧env[i]? = some (some d):=by
 unfold qg
 rw [List.getElem?_mapIdx]
 by_cases c:i∈kp
 ·simp [c]
 ·simp [c]
theorem i0 {kp:List Nat} {s:Sta} {i:Nat}:i∈(hid kp s).ow↔i∈s.ow∧i ∉ kp:=by
 unfold hid
 simp
section
variable {X:Cx} {z z':Z} {kp:List Nat}
theorem Rep.hid (I:Rep X z):Rep X { z with t:=L2.Ev.hid kp z.t }:=by
 refine ⟨⟨I.md,I.fm,I.hd,I.bs,I.gh,I.rl,I.rn,I.rg,I.ob,I.fu,I.ff,I.br,I.os⟩,I.ok,I.lo,I.ce,I.fl,?_,I.sl,fun i d n e=>?_,fun i m=>?_,fun i j a m1 m2 e1 e2=>I.od i j a (i0.mp m1).1 (i0.mp m2).1 e1 e2⟩
 ·show (qg kp z.t.env).length=_
  unfold qg
  rw [List.length_mapIdx];exact I.el
 ·obtain ⟨h1,h2⟩:=qh.mp e
  exact I.en i d (fun m=>n (i0.mpr ⟨m,h1⟩)) h2
 ·obtain ⟨m1,m2⟩:=i0.mp m
  obtain ⟨d,a,o,h1,h2,h3,h4,h5⟩:=I.eo i m1
  exact ⟨d,a,o,qh.mpr ⟨m2,h1⟩,h2,h3,h4,h5⟩
end
section
variable {X:Cx} {z z0:Z}
theorem Rep.give {a:Β} {o:O} (I:Rep X z) (f:Fre X z a) (no:¬ Own z a) (r:ObR X.W z.ρ z.G z.h (a,a) o):Rep X { z with ρ:=z.ρ ++ [(a,a)],t:=⟨z.t.env,z.t.ow,z.t.st ++ [o]⟩ }:=by
 have pre:z.ρ <+: z.ρ ++ [(a,a)]:=â _ _
 have eqa:∀ {b:Β},(b=((a,a):Β×Β).1∨b=((a,a):Β×Β).2)→b=a:=fun h=>h.elim id id
 have old:∀ {i:Nat} {q:Β×Β} {b:Β},z.ρ[i]? = some q→(b=q.1∨b=q.2)→b≠a:=fun h1 h2 e=>f.2.1 ⟨_,φ h1,e ▸ h2⟩
 have nm:∀ {b:Β},b≠a→¬ Mu z.ρ b→¬ Mu (z.ρ ++ [(a,a)]) b:=fun n m w=>(eR.mp w).elim m fun w=>n (eqa w)
 refine ⟨⟨I.md,I.fm,I.hd,I.bs,I.gh,by simp [I.rl],fun i j q1 q2 b h1 h2 h3 h4=>?_,fun b m=>?_,fun n o' q h1 h2=>?_,I.fu,fun b m=>⟨(I.ff b m).1,nm (fun w=>f.2.2.1 (w ▸ m)) (I.ff b m).2⟩,I.br,I.os⟩,I.ok,I.lo,I.ce,fun b l=>⟨(I.fl b l).1,nm (fun w=>f.2.2.2 (w ▸ l)) (I.fl b l).2⟩,I.el,I.sl,fun i d n e=>let ⟨u,q,r⟩:=I.en i d n e;⟨u,q,r.mono pre (.refl _)⟩,fun i m=>?_,I.od⟩
 ·rcases aT h1 with a1 | ⟨a1,b1⟩
  ·rcases aT h2 with a2 | ⟨a2,b2⟩
   ·exact I.rn i j q1 q2 b a1 a2 h3 h4
   ·subst b2;exact ZX (eqa h4) (old a1 h3)
  ·subst b1
   rcases aT h2 with a2 | ⟨a2,b2⟩
   ·exact ZX (eqa h3) (old a2 h4)
   ·rw [a1,a2]
 ·rcases eR.mp m with m | m
  ·exact I.rg b m
  ·rw [eqa m];exact f.1
 ·rcases aT h2 with a2 | ⟨a2,b2⟩
  ·rcases aT h1 with a1 | ⟨a1,_⟩
   ·exact (I.ob n o' q a1 a2).mono pre (.refl _) fun _ _ _ e=>e
   ·have:=(ς.mp a2).1;rw [I.rl] at this;omega
  ·subst b2
   rcases aT h1 with a1 | ⟨_,b1⟩
   ·have:=(ς.mp a1).1;rw [← I.rl] at this;omega
   ·subst b1;exact r.mono pre (.refl _) fun _ _ _ e=>e
 ·obtain ⟨d,b,o,h1,h2,h3,r,g⟩:=I.eo i m
  exact ⟨d,b,o,h1,h2,h3,r.mono pre (.refl _) fun _ _ _ e=>e,g.1,nm (fun w=>no ⟨i,m,w ▸ h2⟩) g.2.1,g.2.2⟩
end
structure Wr (S ch:List Β) (h h':ϳ):Prop where
 keep:∀ b o,h.get? b=some o→b ∉ S→b ∉ ch→h'.get? b=some o
 slot:∀ b o,h.get? b=some o→b ∉ ch→∃ sl,h'.get? b=some { o with slots:=sl }
 there:∀ b o,h.get? b=some o→∃ o',h'.get? b=some o'
section
variable {S ch ch':List Β} {h h1 h2 h':ϳ}
theorem Wr.trans (x:Wr S ch h h1) (y:Wr S ch h1 h2):Wr S ch h h2:=
 ⟨fun b o e n m=>y.keep b o (x.keep b o e n m) n m,fun b o e m=>let ⟨_,e1⟩:=x.slot b o e m;let ⟨sl,e2⟩:=y.slot b _ e1 m;⟨sl,e2⟩,fun b o e=>let ⟨_,e1⟩:=x.there b o e;y.there b _ e1⟩
theorem Wr.mono (x:Wr S ch h h') (k:∀ b∈ch,b∈ch'):Wr S ch' h h':=⟨fun b o e n m=>x.keep b o e n fun z=>m (k b z),fun b o e m=>x.slot b o e fun z=>m (k b z),x.there⟩
theorem Wr.kept (k:∀ b o,h.get? b=some o→h'.get? b=some o):Wr S ch h h':=⟨fun b o e _ _=>k b o e,fun b o e _=>⟨o.slots,k b o e⟩,fun b o e=>⟨o,k b o e⟩⟩
theorem Wr.set (ho:h.get? a=some o) (hd:o.data = .fields vs) (g:Array ζ→Array ζ):Wr S [a] h (h.update a (ě g)):=by
 have ot:∀ b,b≠a→(h.update a (ě g)).get? b=h.get? b:=fun b n=>ύ h _ fun z=>n z.symm
 have nm:∀ b,b ∉ [a]→b≠a:=fun b m z=>m (by rw [z];exact ι)
 refine ⟨fun b u e _ m=>by rw [ot b (nm b m)];exact e,fun b u e m=>⟨u.slots,by rw [ot b (nm b m)];exact e⟩,fun b u e=>?_⟩
 by_cases z:b=a
 ·subst z
  exact ⟨_,ϡ _ ho (û (ö hd g))⟩
 ·exact ⟨u,by rw [ot b z];exact e⟩
theorem Wr.slots (x:Heap.SlotsOnly S h h'):Wr S ch h h':=⟨fun b o e n _=>(x.2.1 b n).trans e,fun b o e _=>x.2.2 b o e,fun b o e=>let ⟨_,q⟩:=x.2.2 b o e;⟨_,q⟩⟩
end
theorem fR (g:Array ζ→Array ζ) (o):(ě g o).dict=o.dict:=by
 obtain ⟨c,d,dt,sl⟩:=o
 cases dt <;> rfl
section
variable {M:EN} {A:ώ} {E:ζ→ξ→Prop} {s:ξ} {a T L:Β} {cls fl:ζ} {dx:Option Β} {Q:Unit→ξ→Prop} {base:ϳ} {env:Dz} {outer:List Dz} {S:List Β}
theorem lQ (t:Tr s.heap a cls dx T fl) (hQ:∀ h',Tr h' a cls dx T (fr.elim .none fun f=>Ö f)→Wr S [T] s.heap h'→Q () { s with heap:=h' }):Α M A (Fe (.ref a) fr) Q E s:=by
 obtain ⟨oe,vs,oT,ts,he,hc,hd,h1,ne,hT,hdT,h3⟩:=t
 have z3:=(ý.mp h3).1
 unfold Fe
 refine ε (ϙ he hd h1 ?_)
 rw [ZZ (show (Ϡ T != Value.none)=true by simp)]
 refine Ĕ hT hdT z3 (hQ _ ?_ (Wr.set hT hdT _))
 have dT:=ö hdT (·.setIfInBounds 3 (fr.elim Value.none fun f=>Ö f))
 exact ⟨oe,vs,_,_,(ύ _ _ ne).trans he,hc,hd,h1,ne,ϡ _ hT (û dT),dT,by simp [z3]⟩
theorem entry (hfr:A.frames=some (env :: outer)) (hl:s.heap.FunFrames base (env :: outer)) (hf:env.frame=some L) (he:s.heap.get? a=some oe) (hd:oe.data = .fields vs) (hz:1<vs.size)
 (hQ:∀ h' T,s.heap.get? T=none→Tr h' a oe.cls oe.dict T (Ö L)→Wr (frs (env :: outer)) [a] s.heap h'→Q () { s with heap:=h' }) :
 Α M A (do let x ← frameOf env;let pl ← entryPlaceOf L hn;let b ← Em head x .none (Ö L) .none pl;setField (.ref a) 1 b) Q E s:=by
 have na:a ∉ (env :: outer).filterMap (·.frame):=fun m=>by
  obtain ⟨_,o,ho,nf⟩:=hl.mem m
  rw [he] at ho
  cases ho
  exact nf vs hd
 refine ε (wpAny_frameOf_fun hfr hl hf fun g hg=>ε (wpAny_entryPlaceOf fun pl hp=>?_))
 unfold Em newFields;refine ε (Ê ?_ (IsPlace.sizeOk5 hp _ _ _ _ _))
 have ea:g.get? a=some oe:=(hg.2.1 a na).trans he
 generalize hu:([head,Ϡ L,Value.none,Ö L,Value.none] ++ (if pl.isEmpty then Ζ 6 Value.none else pl)).toArray=us
 have u3:us[3]? = some (Ö L):=by rw [← hu];rfl
 have ea2:=ο (h:=g) { cls:=.type "traceback",dict:=none,data:=.fields us } ea
 have nT:g.objs.size≠a:=Æ (Ο ea)
 refine Ĕ ea2 hd hz (hQ _ g.objs.size ?_ ?_ ?_)
 ·rw [hg.1];exact ϗ (Ψ _)
 ·have da:=ö hd (·.setIfInBounds 1 (Ϡ g.objs.size))
  exact ⟨_,_,_,us,ϡ _ ea2 (û da),⟨Du _ _,fR _ _⟩,da,by simp [hz],nT,(ύ _ _ (Ϥ nT)).trans (ψ g rfl),rfl,u3⟩
 ·exact (Wr.slots (ch:=[a]) hg).trans ((Wr.kept fun b o e=>ο _ e).trans (Wr.set ea2 hd _))
theorem ri (hfr:A.frames=some (env :: outer)) (hl:s.heap.FunFrames base (env :: outer)) (hf:env.frame=some L) (x:Rw s.heap a cls dx)
 (hQ:∀ h' T,s.heap.get? T=none→Tr h' a cls dx T (Ö L)→Wr (frs (env :: outer)) [a] s.heap h'→Q () { s with heap:=h' }):Α M A (Ļ (.ref a) env) Q E s:=by
 obtain ⟨oe,vs,he,⟨rfl,rfl⟩,hd,h1⟩:=x
 unfold Ļ
 simp only [hf]
 refine ε (ϙ he hd h1 ?_)
 rw [ZY (by decide)]
 exact entry hfr hl hf he hd (ý.mp h1).1 hQ
theorem oF (hfr:A.frames=some (env :: outer)) (hl:s.heap.FunFrames base (env :: outer)) (hf:env.frame=some L) (x:Tr s.heap a cls dx T .none)
 (hQ:∀ h' T',s.heap.get? T'=none→Tr h' a cls dx T' (Ö L)→Wr (frs (env :: outer)) [a,T] s.heap h'→Q () { s with heap:=h' }):Α M A (Ļ (.ref a) env) Q E s:=by
 obtain ⟨oe,vs,oT,ts,he,⟨rfl,rfl⟩,hd,h1,ne,hT,hdT,h3⟩:=x
 unfold Ļ
 simp only [hf]
 refine ε (ϙ he hd h1 ?_)
 rw [ZZ (show (Ϡ T != Value.none)=true by simp)]
 refine ε (ϙ hT hdT h3 ?_)
 rw [ZY (show ¬ ((Value.none == Ö L)=true) by simp [Ö])]
 refine ε (Ĕ hT hdT (ý.mp h3).1 ?_)
 have w1:Wr (frs (env :: outer)) [T] s.heap _:=Wr.set hT hdT (·.setIfInBounds 3 Value.none)
 refine entry hfr (hl.of_keeps fun b o e nf=>⟨o,?_,rfl⟩) hf ((ύ _ _ ne).trans he) hd (ý.mp h1).1 fun h' T' n t w=>hQ h' T' ?_ t ((w1.mono (by simp)).trans (w.mono (by simp)))
 ·refine (ύ _ _ fun z=>?_).trans e
  subst z
  rw [hT] at e
  cases e
  exact nf ts hdT
 ·cases q:s.heap.get? T' with
  | none=>rfl
  | some o=>
    obtain ⟨o',e'⟩:=w1.there T' o q
    rw [n] at e'
    cases e'
theorem oE (hf:env.frame=some L) (x:Tr s.heap a cls dx T (Ö L)) (hQ:Q () s):Α M A (Ļ (.ref a) env) Q E s:=by
 obtain ⟨oe,vs,oT,ts,he,⟨rfl,rfl⟩,hd,h1,ne,hT,hdT,h3⟩:=x
 unfold Ļ
 simp only [hf]
 refine ε (ϙ he hd h1 ?_)
 rw [ZZ (show (Ϡ T != Value.none)=true by simp)]
 refine ε (ϙ hT hdT h3 ?_)
 rw [ZZ (show (Ö L == Ö L)=true by simp)]
 exact θ hQ
end
section
variable {X:Cx} {z z' z0 z1:Z} {M:EN} {w:Β→Prop}
theorem pW {h h':ϳ}:∀ {l:List Dz},h.FunFrames base l→(∀ b∈frs l,∀ o,h.get? b=some o→∃ sl,h'.get? b=some { o with slots:=sl })→h'.FunFrames base l
 | [],_,_=>trivial
 | v :: r,⟨a,⟨L,o,e1,e2,e3,e4⟩,q⟩,k=>by
   have hm:L∈frs (v :: r):=by unfold frs;rw [ϣ,e1];exact ι
   obtain ⟨sl,e5⟩:=k L hm o e3
   exact ⟨a,⟨L,_,e1,e2,e5,e4⟩,pW q fun b hb=>k b (by unfold frs;rw [ϣ,e1];exact κ _ hb)⟩
theorem Rep.wr {h':ϳ} {ch:List Β} {t:Nat} (I:Rep X z) (y:Wr (frs X.fr) ch z.s.heap h') (hc:∀ b∈ch,Fre X z b∧¬ Own z b):Rep X { z with s:={ z.s with heap:=h',toks:=t } }:=by
 have nG:∀ {b o},z.G b=some o→z.h b=some o→h'.get? b=some o:=fun e e'=>y.keep _ _ e' (fun m=>by rw [(I.ff _ m).1] at e;cases e) fun m=>by rw [(hc _ m).1.1] at e;cases e
 have sl:∀ b,Lc X b→∀ o,z.s.heap.get? b=some o→∃ sl,h'.get? b=some { o with slots:=sl }:=fun b l o e=>y.slot b o e fun m=>(hc b m).1.2.2.2 l
 have ck:∀ x c v,X.env.cells.lookup x=some c→z.s.heap.IsCell c v→h'.IsCell c v:=fun x c v e ⟨o,q,d⟩=>let ⟨_,q2⟩:=sl c (.inr ⟨x,e⟩) o q;⟨_,q2,d⟩
 refine ⟨⟨I.md,I.fm,I.hd,I.bs,fun b o e=>nG e (I.gh b o e),I.rl,I.rn,I.rg,fun n o p h1 h2=>(I.ob n o p h1 h2).mono (μ _) (.refl _) fun b hb o e=>?_,pW I.fu fun b hb o e=>y.slot b o e fun m=>(hc b m).1.2.2.1 hb,I.ff,I.br,I.os⟩,I.ok,?_,fun x c e=>let ⟨v,q⟩:=I.ce x c e;⟨v,ck x c v e q⟩,I.fl,I.el,I.sl,I.en,fun i m=>?_,I.od⟩
 ·have mu:Mu z.ρ b:=⟨p,φ h2,hb⟩
  exact y.keep b o e (fun m=>(I.ff b m).2 mu) fun m=>(hc b m).1.2.1 mu
 ·obtain ⟨m,⟨oL,es,ep,q,r⟩,hl⟩:=I.lo
  obtain ⟨_,q2⟩:=sl _ (.inl rfl) _ q
  exact ⟨m,⟨_,es,ep,q2,r⟩,fun j x w e1 e2 e3=>cW (fun c v e q=>ck x c v e q) (hl j x w e1 e2 e3)⟩
 ·obtain ⟨d,a,o,h1,h2,h3,r,f⟩:=I.eo i m
  exact ⟨d,a,o,h1,h2,h3,r.mono (μ _) (.refl _) fun b hb o e=>y.keep b o e (by rcases hb with rfl | rfl <;> exact f.2.2.1) fun mm=>(hc b mm).2 (by rcases hb with rfl | rfl <;> exact ⟨i,m,h2⟩),f⟩
theorem Stp.wr {h':ϳ} {ch:List Β} {t:Nat} (x:Stp fr w z0 z) (y:Wr (frs fr) ch z.s.heap h') (hc:∀ b∈ch,z0.h b=none):Stp fr w z0 { z with s:={ z.s with heap:=h',toks:=t } }:=by
 have nc:∀ {b o},z0.h b=some o→b ∉ ch:=fun e m=>by rw [hc _ m] at e;cases e
 refine ⟨x.pr,x.gg,x.gn,x.rn,fun a o e=>let ⟨o',e'⟩:=x.th a o e;y.there a o' e',fun a o e n m f=>y.keep a o (x.sm a o e n m f) f (nc e),fun a o e n m f=>?_⟩
 obtain ⟨sl,e1⟩:=x.sl a o e n m f
 obtain ⟨sl2,e2⟩:=y.slot a _ e1 (nc e)
 exact ⟨sl2,e2⟩
structure kJ (X:Cx):Prop where
 fr:∃ outer,X.fr=X.env :: outer
 frame:X.env.frame=some X.env.locals
inductive XN (X:Cx) (w:Β→Prop) (z z':Z) (c:Nat) (l:List D) (e:ζ) (fl:ζ):Prop
 | mk (a:_) (T:_) (cls:_) (dx:_) (_:e = .ref a) (_:Stp X.fr w z z') (_:Rep X z') (_:XR X.W z' c l cls dx) (_:Nob X z z' a) (_:Tr z'.s.heap a cls dx T fl) (_:Nob X z z' T)
theorem XN.wr {h':ϳ} {ch:List Β} {a T:Β} {fl:ζ} (x:Stp X.fr w z z') (I:Rep X z') (r:XR X.W z' c l cls dx) (na:Nob X z z' a) (nT:Nob X z z' T) (y:Wr (frs X.fr) ch z'.s.heap h') (hc:∀ b∈ch,Nob X z z' b) (t:Tr h' a cls dx T fl):XN X w z { z' with s:={ z'.s with heap:=h' } } c l (.ref a) fl:=
 ⟨a,T,cls,dx,rfl,x.wr (t:=z'.s.toks) y fun b hb=>(hc b hb).1,I.wr (t:=z'.s.toks) y fun b hb=>(hc b hb).2,r,na,t,nT⟩
theorem jC {Q:Unit→ξ→Prop} {E:ζ→ξ→Prop} (F:kJ X) (x:Stp X.fr w z z') (I:Rep X z') (h:XO X z z' c l e) (hQ:∀ h',XN X w z { z' with s:={ z'.s with heap:=h' } } c l e (Ö X.env.locals)→Q () { z'.s with heap:=h' }):Α M X.A (Ļ e X.env) Q E z'.s:=by
 obtain ⟨outer,hfr⟩:=F.fr
 have fm:=I.fm
 have fu:=I.fu
 rw [hfr] at fm fu
 obtain ⟨a,cls,dx,rfl,r,na,t⟩:=h
 have new:∀ T,z'.h T=none→Nob X z z' T:=fun T n=>⟨x.no n,I.fre n⟩
 rcases t with t | ⟨T,fl,t,hfl,nT⟩
 ·refine ri fm fu F.frame t fun h' T n t' y=>hQ h' (.wr x I r na (new T n) (by rw [hfr];exact y) (fun b hb=>?_) t')
  rw [η.mp hb];exact na
 ·rcases hfl with rfl | rfl
  ·refine oF fm fu F.frame t fun h' T' n t' y=>hQ h' (.wr x I r na (new T' n) (by rw [hfr];exact y) (fun b hb=>?_) t')
   rcases π.mp hb with q | q
   ·rw [q];exact na
   ·rw [η.mp q];exact nT
  ·exact oE F.frame t (hQ z'.s.heap ⟨a,T,cls,dx,rfl,x,I,r,na,t,nT⟩)
theorem cf {fl:ζ} {fr:Option Β} {Q:Unit→ξ→Prop} {E:ζ→ξ→Prop} {A:ώ} (h:XN X w z z' c l e fl) (hQ:∀ h',XN X w z { z' with s:={ z'.s with heap:=h' } } c l e (fr.elim .none fun f=>Ö f)→Q () { z'.s with heap:=h' }):Α M A (Fe e fr) Q E z'.s:=by
 obtain ⟨a,T,cls,dx,rfl,x,I,r,na,t,nT⟩:=h
 exact lQ (S:=frs X.fr) t fun h' t' y=>hQ h' (.wr x I r na nT y (fun b hb=>by rw [η.mp hb];exact nT) t')
theorem vd (F:kJ X):PassesOwn M X.A X.env (PxS X z o):=fun e s' ⟨z',c,l,q,q2,x,I,h⟩=>by
 subst q
 unfold notedBy
 refine jC F x.st I h fun h' hn=>?_
 obtain ⟨a,T,cls,dx,e1,_,_,_,_,t,_⟩:=id hn
 subst e1
 unfold cameBackBy
 obtain ⟨oe,vs,oT,ts,he,hc,hd,h1,r⟩:=id t
 refine ε (ϙ he hd h1 ?_)
 rw [ZY (show ¬ ((Ϡ T == Value.none)=true) by simp),F.frame]
 refine cf (z':={ z' with s:={ z'.s with heap:=h' } }) (fr:=some X.env.locals) hn fun h2 hn2=>?_
 obtain ⟨a',T',cls',dx',e1,x2,I2,r2,na2,t2,nT2⟩:=hn2
 exact ⟨{ z' with s:={ z'.s with heap:=h2 } },c,l,rfl,q2,⟨x2,x.ow⟩,I2,a',cls',dx',e1,r2,na2,.inr ⟨T',_,t2,.inr rfl,nT2⟩⟩
theorem oJ {E:ζ→ξ→Prop} {Q:ζ→ξ→Prop} (F:kJ X) (h:PxS X z o e s') (q:∀ z' c l a T cls dx,o = .exc c l z'.t→e = .ref a→Stp X.fr (Pv X z) z z'→Rep X z'→XR X.W z' c l cls dx→Nob X z z' a→Tr z'.s.heap a cls dx T .none→Nob X z z' T→Q e z'.s):Α M X.A (leaving X.env e) (fun _ s''=>Q e s'') E s':=by
 obtain ⟨z',c,l,e1,q2,x,I,h⟩:=h
 subst e1
 unfold leaving
 refine ε (jC F x.st I h fun h' hn=>cf (z':={ z' with s:={ z'.s with heap:=h' } }) (fr:=none) hn fun h2 hn2=>?_)
 obtain ⟨a,T,cls,dx,e1,x2,I2,r2,na2,t2,nT2⟩:=hn2
 exact q { z' with s:={ z'.s with heap:=h2 } } c l a T cls dx q2 e1 x2 I2 r2 na2 t2 nT2
end
def cxF (X:Cx) (cal cal1:Nat→List D→List O→Res) (N:List ν) (qual:ν) (scope:Ē) (f:Β) (cd:ζ) (A:ώ) (fr:List Dz) (L:Β):Cx:=
 { X with A:=A.deeper (Ū qual scope L f cd),fr:=Ū qual scope L f cd :: fr,N:=N,env:=Ū qual scope L f cd,cal:=cal,cal1:=cal1 }
section
variable {X:Cx} {cal cal1:Nat→List D→List O→Res} {N ps:List ν} {qual:ν} {scope:Ē} {f:Β} {cd:ζ} {A:ώ} {fr:List Dz} {z z':Z} {k:Nat}
theorem oQ {α β:Type} {ds:List α} {n i:Nat} {d:α} (h:(ds.map some ++ Ζ n none)[i]? = some (some d)):ds[i]? = some d:=by
 by_cases hi:i<ds.length
 ·rw [Χ (by simpa using hi),ϋ] at h
  cases e:ds[i]? with
  | none=>rw [e] at h;cases h
  | some a=>rw [e] at h;cases h;rfl
 ·rw [Μ (by simpa using hi),ï] at h
  split at h <;> cases h
theorem eA {α:Type} {ds:List α} {n i:Nat} {d:α} (h:ds[i]? = some d):(ds.map some ++ Ζ n none)[i]? = some (some d):=by
 have hi:=(ς.mp h).1
 rw [Χ (by simpa using hi),ϋ,h];rfl
theorem lR {es:List (Option D)} {n i:Nat} {d:D} (h:(es ++ Ζ n none)[i]? = some (some d)):es[i]? = some (some d):=by
 by_cases hi:i<es.length
 ·rwa [Χ hi] at h
 ·rw [Μ (by omega),ï] at h
  split at h <;> cases h
theorem iL {s1:ξ} {es:List (Option D)} {us:List ζ} (S:dg N ps scope) (I:HR { X with A:=A,fr:=fr } z) (hr:bq (k+1) A) (hl:us.length=ps.length) (le:es.length=us.length) (r:∀ (i:Nat) (d:D),es[i]? = some (some d)→∃ v,us[i]? = some v∧RD X.W z.ρ z.G d v)
 (x:InCallC z.s z.s.heap.objs.size (Fh (Ū qual scope z.s.heap.objs.size f cd).kindOf (ps.zip us) fun _=>none) (Ff (z.s.heap.objs.size+1) scope.names []) (Fi (Ū qual scope z.s.heap.objs.size f cd).kindOf (ps.zip us) fun _=>none) s1) :
 Rep (cxF X cal cal1 N qual scope f cd A fr z.s.heap.objs.size) ⟨z.ρ,z.G,⟨es ++ Ζ (N.length - ps.length) none,[],z.t.st⟩,us.map some ++ Ζ (N.length - ps.length) none,s1⟩:=by
 have hpl:ps.length≤N.length:=by have:=ZS ES S.pre;rw [DC] at this;omega
 obtain ⟨h1,tk,rfl,hk⟩:=x.done
 have bp:∀ {c:Β},z.s.heap.objs.size≤c→z.G c=none∧¬ Mu z.ρ c:=fun {c} h=>by
  have n:z.h c=none:=ϗ h
  refine ⟨?_,fun m=>by obtain ⟨o,e⟩:=I.th m;rw [n] at e;cases e⟩
  cases q:z.G c with
  | none=>rfl
  | some o=>have:=I.gh c o q;rw [n] at this;cases this
 have lcf:∀ {a},Lc (cxF X cal cal1 N qual scope f cd A fr z.s.heap.objs.size) a→z.s.heap.objs.size≤a:=fun h=>by
  rcases h with rfl | ⟨y,e⟩
  ·exact Ψ _
  ·exact ø (x.above y _ (Ä e))
 have bn:X.base.get? z.s.heap.objs.size=none:=by
  cases q:X.base.get? z.s.heap.objs.size with
  | none=>rfl
  | some o=>have:=I.gh _ o (I.bs _ o q);rw [show z.h z.s.heap.objs.size=none from ϗ (Ψ _)] at this;cases this
 obtain ⟨oL,esL,epL,hoL,hdL,_⟩:=id x.toInCall.ns
 have gr:Gr z.s { z.s with heap:=h1,toks:=tk }:=.hp hk
 have G:=I.grow (ak I.gh gr)
 refine ⟨⟨I.md,Around.frames_deeper I.fm,I.hd,I.bs,G.gh,I.rl,I.rn,I.rg,G.ob,?_,fun b hb=>?_,I.br,I.os⟩,⟨by have:=(hr.deeper (Ū qual scope z.s.heap.objs.size f cd)).un;show (A.deeper _).units+200<_;omega,S.kind,rfl,rfl,fun y w c e1 e2=>name_of_addr x.apart (Ä e1) (Ä e2),fun y hy=>?_⟩,⟨_,x.toInCall.ns,fun i y v e1 e2 e3=>?_⟩,fun y c h=>⟨_,x.cell y c h⟩,fun a l=>bp (lcf l),by show (es ++ _).length=(us.map some ++ _).length;simp [le],by show (us.map some ++ _).length=N.length;rw [υ,Ν,å];omega,fun i d _ e=>?_,(fun i m=>nomatch m),(fun i j a m=>nomatch m)⟩
 ·have kd:(Ū qual scope z.s.heap.objs.size f cd).scope.kind≠ScopeKind.module:=by show scope.kind≠_;rw [S.kind];decide
  exact ⟨kd,⟨_,oL,rfl,bn,hoL,fun vs e=>by rw [hdL] at e;cases e⟩,G.fu⟩
 ·rcases π.mp (show b∈z.s.heap.objs.size :: frs fr from hb) with q | q
  ·rw [q];exact bp (Ψ _)
  ·exact I.ff b q
 ·have hy:scope.names.lookup y=some .cell∨scope.names.lookup y=some .free:=hy
  rcases hy with hy | hy
  ·exact jI hy
  ·exact ZX rfl (S.nofree _ (Ä hy))
 ·have hu:us[i]? = some v:=oQ (β:=Unit) e2
  have hi:i<ps.length:=by rw [← hl];exact (ς.mp hu).1
  have hp:ps[i]? = some y:=by
   rw [← S.pre,List.getElem?_take_of_lt (by omega)];exact e1
  have ndP:ps.Nodup:=by rw [← S.pre];exact S.nd.sublist (FC _ _)
  rcases S.par y (φ hp) with k | k
  ·exact .inl ⟨k,iq ndP hp hu k⟩
  ·obtain ⟨c,e⟩:=jI (n:=z.s.heap.objs.size+1) k
   refine .inr ⟨.inl k,c,e,?_⟩
   have q:=x.cell y c e
   rw [im ndP hp hu (by show scope.names.lookup y≠_;rw [k];decide)] at q
   exact q
 ·obtain ⟨v,e1,r1⟩:=r i d (lR e)
  exact ⟨v,eA e1,r1⟩
theorem AF {name:ν} {params:En} {body:List Ó} {dV kV doc pm ct oc:ζ} {an od:Option Β} {osl:Array (Option ζ)} {j:Nat} {c:S} (lk:X.K.lookup f=some ⟨oc,od,.func (ϱ name qual params body scope dV kV doc pm an cd ct),osl⟩) (hcd:Ü X.K cd qual=true) (S:dg N ps scope) {df:List D} {dvs:List ζ} (hj:X.Γ.fn[j]? = some ⟨ps.length,N.length,c,df⟩) (hdv:∀ ρ G,RDs X.W ρ G df dvs)
 (hb:∀ A fr L,bq k (A.deeper (Ū qual scope L f cd))→LSs (cxF X cal cal1 N qual scope f cd A fr L) body c):FnC X (kh X.Γ cal cal1) (k+1) j f (ϱ name qual params body scope dV kV doc pm an cd ct) ps dvs:=by
 have run:∀ ds st,kh X.Γ cal cal1 j ds st=if (ds ++ df).length=ps.length then (match exS X.Γ cal cal1 c ⟨(ds ++ df).map some ++ Ζ (N.length - ps.length) none,[],st⟩ with
  | .nx s=>.ok .non s.st
  | .rt d s=>.ok d s.st
  | .exc c l s=>.exc c l s.st
  | .bad=>.bad) else .bad:=fun ds st=>by unfold kh;rw [hj];all_goals rfl
 refine ⟨fun ds st nb=>?_,fun A fr z args us ds hr I hbd r nb=>?_⟩
 ·by_cases q:(ds ++ df).length=ps.length
  ·rw [← (hdv [] fun _=>none).len,← υ];exact q
  ·rw [run,ZY q] at nb;exact ZX rfl nb
 by_cases hl:(ds ++ df).length=ps.length
 rotate_left
 ·rw [run,ZY hl] at nb;exact ZX rfl nb
 rw [run,ZZ hl] at nb ⊢
 have r:=r.app (hdv z.ρ z.G)
 generalize ds ++ df=ds at r hl nb ⊢
 generalize us ++ dvs=us at r hbd
 have KX:X.K.In z.s.heap:=I.kin
 have lim:z.s.heap.NoLimit:=I.md.nolimit.keeps (Rep.bk I)
 have hkind:∀ y∈ps.zip us,scope.names.lookup y.1=some .local∨(scope.names.lookup y.1=some .cell∧((Ff (z.s.heap.objs.size+1) scope.names []).lookup y.1).isSome=true):=fun ⟨n,v⟩ hy=>by
  rcases S.par n (Ğ hy).1 with q | q
  ·exact .inl q
  ·exact .inr ⟨q,Ń _ _ _ (.inl q)⟩
 refine FL hr.depth (KX _ _ lk) rfl S.co S.gen rfl (EK KX hcd) (hbd _ _ _ _ ?_)
 refine EF S.kind hkind fun env he s1 x=>?_
 subst he
 refine ⟨lim.keeps x.toInCall.keep,codeAny_func ?_⟩
 have J:=iL (es:=ds.map some) (cal:=cal) (cal1:=cal1) S I hr (r.len ▸ hl) (by rw [Ν];exact r.len) (fun i d e=>r.get (by rw [ϋ,ω] at e;obtain ⟨_,e1,e2⟩:=e;cases e2;exact e1)) x
 have hk:∀ b o,z.h b=some o→s1.heap.get? b=some o:=x.toInCall.keep
 have F:kJ (cxF X cal cal1 N qual scope f cd A fr z.s.heap.objs.size):=⟨⟨fr,rfl⟩,rfl⟩
 have lcf:∀ {a o},z.h a=some o→¬ Lc (cxF X cal cal1 N qual scope f cd A fr z.s.heap.objs.size) a:=fun {a o} e h=>by
  have:z.s.heap.objs.size≤a:=by
   rcases h with rfl | ⟨y,e⟩
   ·exact Ψ _
   ·exact ø (x.above y _ (Ä e))
  exact ZX (Ο e) (D2.mpr this)
 have nofr:∀ {a o},z.h a=some o→a ∉ frs fr→a ∉ frs (Ū qual scope z.s.heap.objs.size f cd :: fr):=fun {a o} e n m=>by
  rcases π.mp (show a∈z.s.heap.objs.size :: frs fr from m) with q | q
  ·exact ZX (Ο e) (by rw [q];exact Ĝ _)
  ·exact n q
 have none1:∀ {a},s1.heap.get? a=none→z.h a=none:=fun {a} n=>by
  cases q:z.h a with
  | none=>rfl
  | some o=>rw [hk a o q] at n;cases n
 have back:∀ {z'},Stp (Ū qual scope z.s.heap.objs.size f cd :: fr) (Pv (cxF X cal cal1 N qual scope f cd A fr z.s.heap.objs.size) ⟨z.ρ,z.G,⟨ds.map some ++ Ζ (N.length - ps.length) none,[],z.t.st⟩,us.map some ++ Ζ (N.length - ps.length) none,s1⟩) ⟨z.ρ,z.G,⟨ds.map some ++ Ζ (N.length - ps.length) none,[],z.t.st⟩,us.map some ++ Ζ (N.length - ps.length) none,s1⟩ z'→Rep (cxF X cal cal1 N qual scope f cd A fr z.s.heap.objs.size) z'→Stp fr NoW z z'∧HR { X with A:=A,fr:=fr } z':=fun {z'} y K=>by
  have nw:∀ {a o},z.h a=some o→¬ Pv (cxF X cal cal1 N qual scope f cd A fr z.s.heap.objs.size) ⟨z.ρ,z.G,⟨ds.map some ++ Ζ (N.length - ps.length) none,[],z.t.st⟩,us.map some ++ Ζ (N.length - ps.length) none,s1⟩ a:=fun e w=>w.elim (fun ⟨i,m,_⟩=>nomatch m) (lcf e)
  refine ⟨⟨y.pr,y.gg,fun a o e=>?_,fun a m=>(y.rn a m).imp_right none1,fun a o e=>y.th a o (hk a o e),fun a o e n _ m=>y.sm a o (hk a o e) n (nw e) (nofr e m),fun a o e n _ m=>y.sl a o (hk a o e) n (nw e) (κ _ m)⟩,⟨K.md,I.fm,I.hd,K.bs,K.gh,K.rl,K.rn,K.rg,K.ob,K.fu.2.2,fun b m=>K.ff b (κ _ m),K.br,K.os⟩⟩
  rcases y.gn a o e with q | q | q
  ·exact .inl q
  ·exact .inr (.inl (none1 q))
  ·rcases q with ⟨i,m,_⟩ | l
   ·exact nomatch m
   ·rw [(K.fl a l).1] at e;cases e
 have nb2:(cxF X cal cal1 N qual scope f cd A fr z.s.heap.objs.size).ex c ⟨ds.map some ++ Ζ (N.length - ps.length) none,[],z.t.st⟩≠.bad:=fun q=>nb (by rw [show exS X.Γ cal cal1 c ⟨ds.map some ++ Ζ (N.length - ps.length) none,[],z.t.st⟩ = .bad from q])
 refine Τ (hb A fr z.s.heap.objs.size (hr.deeper _) _ J nb2) (fun fl s' hs=>?_) fun e s' hs=>oJ (Q:=fun e s''=>CRs { X with A:=A,fr:=fr } z _ (.error e) s'') F hs fun z' c' l a T cls dx q e1 y K xr na t nT=>?_
 ·cases q:exS X.Γ cal cal1 c ⟨ds.map some ++ Ζ (N.length - ps.length) none,[],z.t.st⟩ with
  | nx t=>
    rw [show (cxF X cal cal1 N qual scope f cd A fr z.s.heap.objs.size).ex c _ = .nx t from q] at hs
    obtain ⟨rfl,z',e1,e2,y,K⟩:=hs
    subst e1 e2
    obtain ⟨b1,b2⟩:=back y.st K
    exact ⟨z',.non,rfl,rfl,b1,b2,rfl⟩
  | rt d t=>
    rw [show (cxF X cal cal1 N qual scope f cd A fr z.s.heap.objs.size).ex c _ = .rt d t from q] at hs
    obtain ⟨u,z',rfl,e1,e2,y,K,rd⟩:=hs
    subst e1
    obtain ⟨b1,b2⟩:=back y.st K
    exact ⟨z',d,rfl,by rw [e2],b1,b2,rd⟩
  | exc c' l t=>rw [show (cxF X cal cal1 N qual scope f cd A fr z.s.heap.objs.size).ex c _ = .exc c' l t from q] at hs;exact hs.elim
  | bad=>exact ZX q nb2
 ·obtain ⟨b1,b2⟩:=back y K
  have q:exS X.Γ cal cal1 c ⟨ds.map some ++ Ζ (N.length - ps.length) none,[],z.t.st⟩ = .exc c' l z'.t:=q
  rw [q]
  exact ⟨z',c',l,rfl,rfl,b1,b2,a,T,cls,dx,e1,xr,t,⟨none1 na.1,na.2.1.1,na.2.1.2.1⟩,none1 nT.1,nT.2.1.1,nT.2.1.2.1⟩
end
end L2.Ev
end
section
namespace L2.Ev
open PySem.W
section
variable {prog:ϴ} {w:Û} {A:ώ} {E:ζ→ξ→Prop} {K:Frag} {C a:Β} {o:Er} {od:Option Er} {h:ϳ} {g:Array GenState} {d:Drawn} {t:Nat} {os:FA}
theorem pE (Y:eJ K C) (X:K.In h) (I:InstAt h a o C od) (hq:Q () ⟨h,g,d,t,os⟩):Α M A (š "BaseException.__getattribute__" ⟨[.ref a,nameV],[]⟩) Q E ⟨h,g,d,t,os⟩:=by
 have k1:builtinKind "BaseException.__getattribute__" = some .slot:=by decide +kernel
 have k2:splitId "BaseException.__getattribute__" = some ("BaseException","__getattribute__"):=by decide +kernel
 have L:Looks M h (DK (.ref a) (.type "BaseException")) true:=(I.type (M:=M)).andThen (looks_mroIn X Y.be)
 have ha:=F.args_bexc_ga (.ref a) nameV
 simp only [š,k1,k2]
 refine ε (L.at ?_)
 repeat (any_goals (first | assumption | wp_step))
end
theorem w8 {K:Frag} (e:(clsIn K C).isSome=true):∃ c' d' cd' sl',K.lookup C=some ⟨c',d',.cls cd',sl'⟩:=by
 unfold clsIn at e
 split at e
 ·rename_i q;exact ⟨_,_,_,_,q⟩
 ·cases e
structure o6 (K:Frag) (B:Β):Prop where
 ty:typeIn K (.ref B)=some (.type "type")
 is:(clsIn K B).isSome=true
 be:mroIn K B (.type "BaseException")=some true
theorem tT {K:Frag} {M:EN} (X:K.In h) (e:(clsIn K C).isSome=true):Looks M h (isType (.ref C)) true:=by
 obtain ⟨c',d',cd',sl',hk⟩:=w8 e
 intro A' Q' E' s' k q
 unfold isType;unfold loadHead
 exact ε (EG (k _ _ (X _ _ hk)) (θ q))
theorem gq {K:Frag} {M:EN} {A:ώ} {E:ζ→ξ→Prop} {s:ξ} {a B C:Β} {o:Er} {Q:Bool→ξ→Prop} (X:K.In s.heap) (Y:o6 K B) (he:s.heap.get? a=some o) (hc:o.cls = .ref C) {b:Bool} (hm:mroIn K C (.ref B)=some b) (hq:Q b s):Α M A (excMatches (.ref a) (.ref B)) Q E s:=by
 have L1:Looks M s.heap (DK (.ref B) (.type "tuple")) false:=(looks_typeIn X Y.ty).andThen (Looks.of_pure tc_notTuple)
 have L2:=tT (M:=M) X Y.is
 have L3:=looks_mroIn (M:=M) X Y.be
 have L4:=looks_mroIn (M:=M) X hm
 obtain ⟨h,g,d,t,os⟩:=s
 unfold excMatches isExcClass
 refine ε (L1.at ?_)
 dsimp only
 rw [ZY ϝ]
 refine ε (θ ?_)
 rw [ğ]
 refine ε (ε (ε (ε (L2.at ?_))))
 rw [ZZ rfl]
 refine L3.at ?_
 rw [ZY (show ¬ ((!true)=true) by decide)]
 refine θ ?_
 dsimp only
 rw [List.forIn_nil]
 refine θ ?_
 have T0:∀ {Q':ζ→ξ→Prop},Q' (.ref C) ⟨h,g,d,t,os⟩→Α M A (typeOf (.ref a)) Q' E ⟨h,g,d,t,os⟩:=fun {Q'} q'=>by
  repeat (first | (with_reducible refine ő he ?_;rw [hc]) | wp_step)
  exact q'
 refine ε (T0 ?_)
 rw [ğ]
 refine ε (ε (ε (L4.at ?_)))
 cases b with
 | true=>rw [ZZ rfl];exact θ (θ (θ hq))
 | false=>
   rw [ZY ϝ]
   exact θ (θ (show Α M A (pure false) Q E _ from θ hq))
def gA (bmB:List ζ):List ζ→Bool
 | []=>false
 | v :: r=>(v :: r) == bmB || match v with | .ref _=>gA bmB r | _=>false
theorem cZ (hp:GB self "__setattr__" bmB=pure ()):∀ {l},gA bmB l=true→GB self "__setattr__" l=pure ()
 | [],e=>by cases e
 | v :: r,e=>by
   unfold gA at e
   rcases Fd.mp e with z | z
   ·rw [beq_iff_eq.mp z];exact hp
   ·split at z
    ·rw [refuseLoop_ref];exact cZ hp z
    ·cases z
abbrev veB:List ζ:=[.type "ValueError",.type "Exception",.type "BaseException",.type "object"]
abbrev exB:List ζ:=[.type "Exception",.type "BaseException",.type "object"]
structure fM (K:Frag) (C:Β):Prop where
 sa:findIn K (.ref C) "__setattr__" = some (some (.builtin "object.__setattr__"))
 over:((clsIn K C).any fun cd=>gA veB cd.mro || gA exB cd.mro)=true
 hd:((clsIn K C).any fun cd=>cd.hasDict)=true
 ob:mroIn K C (.type "object")=some true
section
variable {prog:ϴ} {w:Û} {A:ώ} {E:ζ→ξ→Prop} {s:ξ} {K:Frag} {x C:Β} {o:Er} {vs:Array ζ} {mA:ν→Option ζ} {name:ν} {v:ζ} {ns:List ν}
theorem iC (hn:s.heap.Ns1 d mA) (hw:Within mA ns) (hz:ns.length<1000)
 (hq:∀ h',h'.Ns1 d (fun y=>if y=name then some v else mA y)→õ d s.heap h'→Q (.done (.ret .none)) { s with heap:=h',toks:=s.toks+1 }):Α M A (ŋ d (.str name tk) name v) Q E s:=by
 unfold ŋ FU
 refine ε (θ (ε (wpAny_nsSet1 hn fun h' n' sb=>?_)))
 obtain ⟨od,es,ep,e1,e2,e3⟩:=n'.count (Within.cons name v hw)
 have few:es.size≤Ϛ:=Ϣ e3 (by rw [Ι,Ą];omega)
 refine ε (Hb e1 (by rw [e2];exact Hf (Dx few)) ?_)
 exact θ (hq h' n' sb)
theorem nZ (X:K.In s.heap) (Z:fM K C) (hf:findIn K (.ref C) name=some none) (hx:s.heap.get? x=some o) (hc:o.cls = .ref C) (hd:o.data = .fields vs)
 (hm:(o.dict=none∧∀ n,mA n=none)∨∃ d,o.dict=some d∧d≠x∧s.heap.Ns1 d mA) (hw:Within mA ns) (hz:ns.length<1000)
 (hq:∀ h' d t',h'.get? x=some { o with dict:=some d }→d≠x→h'.Ns1 d (fun y=>if y=name then some v else mA y)→(∀ b u,b≠x→b≠d→s.heap.get? b=some u→h'.get? b=some u) →
  (o.dict=some d∨(o.dict=none∧s.heap.get? d=none))→Q () { s with heap:=h',toks:=t' }):Α (model prog w) A (Ez (.ref x) name v) Q E s:=by
 obtain ⟨od,I⟩:∃ od,InstAt s.heap x o C od:=by
  rcases hm with ⟨z,_⟩ | ⟨d,z,_,od,_,_,e,_⟩
  ·exact ⟨none,hx,hc,by unfold notCls;rw [hd],by rw [z];trivial⟩
  ·exact ⟨some od,hx,hc,by unfold notCls;rw [hd],by rw [z];exact e⟩
 have SF:=PySem.F.store_ValueError
 obtain ⟨cd,hcd,hov⟩:=any_some Z.over
 obtain ⟨cd',hcd',hhd⟩:=any_some Z.hd
 rw [hcd] at hcd'
 cases hcd'
 refine set_plain X I Z.sa ?_
 obtain ⟨h,g,d,t,os⟩:=s
 have sub:Looks (model prog w) h (DK (.ref x) (.type "object")) true:=I.type.andThen (looks_mroIn X Z.ob)
 refine î SF.slot.plain SF.entry (@check_slot (model prog w) _ _ ⟨h,g,d,t+1,os⟩ "object.__setattr__" "object" "__setattr__" (.ref x) [.str name t,v] [] _ SF.kind SF.split sub (SF.args (.ref x) (.str name t) v) ?_)
 have lm:Looks (model prog w) h (mroOf (.ref C)) cd.mro:=(looks_clsIn X hcd).andThen .now
 rw [osa_eq,refuse_eq]
 have l0:=I.type (M:=model prog w)
 have lf:=looks_findIn (M:=model prog w) X hf
 refine ε (ε (l0.at (ε (lm.at ?_))))
 rw [show GB (.ref x) "__setattr__" cd.mro=pure () from (Fd.mp hov).elim (cZ (SF.passes _)) (cZ (PySem.F.store_Exception.passes _))]
 refine θ (ε (l0.at (ε (lf.at ?_))))
 refine ε (θ ?_)
 refine ε (θ ?_)
 have lc:=looks_clsIn (M:=model prog w) X hcd
 obtain ⟨oc,odi,oda,osl⟩:=o
 dsimp only at hc hd hm hx
 subst hc hd
 refine ε (ε (EG hx (ε (lc.at ?_))))
 rw [hhd]
 rcases hm with ⟨rfl,hmA⟩ | ⟨dx,rfl,hne,hns⟩
 ·obtain rfl:mA=fun _=>none:=funext hmA
  have hxs:x≠h.objs.size:=ϛ (Ο hx)
  have hx1:=ο { cls:=.type "dict",data:=.dict #[] } hx
  refine ε (wpAny_alloc' (ε (wpAny_update' hx1 ?_)))
  have hg:((h.push { cls:=.type "dict",data:=.dict #[] }).update x fun o=>{ cls:=o.cls,dict:=some h.objs.size,data:=o.data,slots:=o.slots }).get? h.objs.size=some { cls:=.type "dict",data:=.dict #[] }:=
   (F9 _ _ _ _ (Ϥ hxs)).trans (FG rfl rfl)
  have hn0:((h.push { cls:=.type "dict",data:=.dict #[] }).update x fun o=>{ cls:=o.cls,dict:=some h.objs.size,data:=o.data,slots:=o.slots }).Ns h.objs.size (fun _=>none):=
   ⟨_,#[],_,hg,rfl,fun e he=>ZX he (by simp),fun _=>rfl⟩
  refine θ (a:=some h.objs.size) ?_
  refine iC (Heap.Ns1.of_empty hn0) Within.nil (by decide) fun h' n' sb=>?_
  refine hq h' h.objs.size _ ?_ (Ϥ hxs) n' (fun b u h1 h2 e=>?_) (.inr ⟨rfl,ϗ (Ψ _)⟩)
  ·refine (sb.2 x hxs).trans (ϡ _ hx1 rfl)
  ·exact (sb.2 b h2).trans ((F9 _ _ _ _ h1).trans (ο _ e))
 ·refine θ (a:=some dx) ?_
  refine iC hns hw hz fun h' n' sb=>?_
  exact hq h' dx _ ((sb.2 x (Ϥ hne)).trans hx) hne n' (fun b u _ h2 e=>(sb.2 b h2).trans e) (.inl rfl)
theorem pO (Y:eJ K C) (hh:hasDictIn K C=true) (X:K.In s.heap) (hf:findIn K (.ref C) name=some none) (hx:s.heap.get? x=some o) (hc:o.cls = .ref C) (hd:o.data = .fields vs) (hdi:o.dict=some d) (hn:s.heap.Ns1 d mA) (hv:mA name=some v) (hv':handedIn v=true)
 (hq:Q v { s with toks:=s.toks+1 }):Α (model prog w) A (E0 (.ref x) name expr) Q E s:=by
 obtain ⟨od,ho,hl⟩:=iF hn
 have I:InstAt s.heap x o C (some od):=⟨hx,hc,by unfold notCls;rw [hd],by rw [hdi];exact ho⟩
 have fo:findObj K C (some od) name=some (.value v):=findObj_own hh hf rfl (by rw [hl,hv])
 obtain ⟨h,g,dr,t,os⟩:=s
 have l0:=I.type (M:=model prog w)
 have l1:=looks_findIn (M:=model prog w) X Y.ga
 have l2:=looks_findIn (M:=model prog w) X Y.gn
 have l3:=looks_find (M:=model prog w) X I fo
 have G:=PySem.F.attrBase_ValueError.ga
 have b1:=G.bind (.ref x)
 unfold E0 getAttrBy
 refine ε (wpAny_mkText (ϊ (ε (l0.at (ε (l1.at ?_))))))
 show Α _ _ (Hu _ _ _ _ _ _) _ _ _
 unfold Hu
 refine ε (l2.at (ε (EV (ϊ ?_))))
 unfold callGetattribute
 rw [show (expr && onTheHeap (Gf "BaseException.__getattribute__"))=false from Ef _,ZY ϝ]
 unfold boundAndCalled
 rw [b1]
 refine ε (θ ?_)
 refine ă (î G.plain F.entry_bexc_ga (pE Y X I ?_))
 refine ε (θ (ε (θ (ε (l0.at (ε (l3.at ?_)))))))
 exact θ (handed_on hv' hq)
end
structure gQ (K:Frag) (C fI:Β) (bmB:List ζ) (newId:String):Prop where
 at_:∃ (nm q:ν) (N:Β) (bs bm:List ζ) (hdct:Bool) (sn:List ν) (sub:List ζ) (ab:Bool) (col:Option Bool) (dd:Option Β) (k0 k1 k2 k3 k5:Option ζ),
  K.lookup C=some (FY nm q C N bs bm hdct sn sub ab col dd k0 k1 k2 k3 k5 newId)∧tailIn K bmB bm=true
 init:findIn K (.ref C) "__init__" = some (some (.ref fI))
 fn:isFn K (.ref fI)=true
section
variable {prog:ϴ} {w:Û} {A:ώ} {E:ζ→ξ→Prop} {K:Frag} {C fI:Β} {rest bmB:List ζ} {B newId initId:String} {h:ϳ} {g:Array GenState} {d:Drawn} {t:Nat} {os:FA}
abbrev iP (h:ϳ) (C:Β) (rest:List ζ):ϳ:=(h.push { cls:=.type "tuple",data:=.seq rest.toArray }).push { cls:=.ref C,data:=.fields #[.ref h.objs.size,.none,.none,.none,.bool false,.none] }
theorem fN (b) (u) (z:h.get? b=some u):(iP h C rest).get? b=some u:=ο _ (ο _ z)
theorem nF:Ed h (iP h C rest) (h.objs.size+1) (.ref C) rest where
 keeps:=fN
 new:=ϗ (Þ _)
 there:=⟨h.objs.size,by heap_get,ϗ (Ψ _),ο _ (FG rfl rfl)⟩
theorem gY (F:Ę B newId initId bmB) (X:K.In h) (O:gQ K C fI bmB newId) (hz:rest.length≤Ϛ)
 (hq:∀ h' e,Ed h h' e (.ref C) rest→Α (model prog w) A (call (.ref fI) (.ref e :: rest)) (fun r s'=>r = .none∧Q (.done (.ret (.ref e))) s') E ⟨h',g,d,t,os⟩) :
 Α (model prog w) A (ŕ.«type.__call__» ⟨.ref C :: rest,[]⟩) Q E ⟨h,g,d,t,os⟩:=by
 obtain ⟨nm,q,N,bs,bm,hdct,sn,sub,ab,col,dd,k0,k1,k2,k3,k5,l,tl⟩:=O.at_
 have c0:=X _ _ l
 have T:=tail_of_in X tl
 have X1:K.In (iP h C rest):=fun b u z=>fN b u (X b u z)
 have c1:=X1 _ _ l
 have m1:=(nF (h:=h) (C:=C) (rest:=rest))
 obtain ⟨tt,e1,_,_⟩:=id m1.there
 have self:(Ϡ C :: bm).contains (.ref C)=true:=by simp
 have l1:=looks_findIn (M:=model prog w) X1 O.init
 have l2:=fun self=>bind_fn (M:=model prog w) X1 self (beq_iff_eq.mp O.fn)
 repeat (first | with_reducible refine ő c0 ?_ | with_reducible refine wpAny_madeBy_exc c0 ?_ | wp_step)
 refine codeAny_call_builtin_code (Ž _ F.quiet) (wpAny_check_new_subT F T c0 (codeAny_exc_new_subT F T c0 ?_ hz))
 show Α _ _ _ _ _ _
 unfold DK
 repeat (first | with_reducible refine ő e1 ?_ | (with_reducible refine wpAny_isSubtype_exc c1 ?_;rw [self]) | wp_step)
 refine l1.at (ϊ (ε ((l2 _).at ?_)))
 refine ε (Τ (hq _ _ m1) (fun r s' z=>?_) fun _ _ z=>z)
 obtain ⟨rfl,z⟩:=z
 wp_walk
 exact z
theorem pN (F:Ę B newId initId bmB) (X:K.In h) (O:gQ K C fI bmB newId) (hz:rest.length≤Ϛ)
 (hq:∀ h' e,Ed h h' e (.ref C) rest→Α (model prog w) (A.under (.builtin "type.__call__" ⟨.ref C :: rest,[]⟩)) (call (.ref fI) (.ref e :: rest)) (fun r s'=>r = .none∧Q (.ref e) s') E ⟨h',g,d,t,os⟩) :
 Α (model prog w) A (call (.ref C) rest) Q E ⟨h,g,d,t,os⟩:=by
 obtain ⟨nm,q,N,bs,bm,hdct,sn,sub,ab,col,dd,k0,k1,k2,k3,k5,l,tl⟩:=O.at_
 have c0:=X _ _ l
 have y1:=tc_lookup
 have y2:=tc_bind (.ref C)
 have y3:Shared.TypeIs ⟨h,g,d,t,os⟩ (.ref C) "type":=⟨_,c0,rfl⟩
 refine ă (Hv ?_)
 show Α _ _ (callAny (.ref C) _) _ _ _
 repeat (any_goals (first | assumption | with_reducible refine ő c0 ?_ | wp_step))
 refine ⟨rfl,codeAny_call_builtin_at (Ž _ (by decide +kernel)) entry_typeCall (wpAny_check_type_call_sub c0 ?_)⟩
 exact gY F X O hz fun h' e m=>hq h' e m
end
section
variable {M:EN} {A:ώ} {E:ζ→ξ→Prop} {s:ξ}
theorem oK {K:Frag} {env:Dz} {C:Β} {x:F1 ζ} {Q:Flow→ξ→Prop} (be:mroIn K C (.type "BaseException")=some true) (ty:typeIn K (.ref C)=some (.type "type")) (hh:A.handled=none)
 (h:Α M A x (fun v s1=>∃ p ob vs,v = .ref p∧K.In s1.heap∧s1.heap.get? p=some ob∧ob.cls = .ref C∧ob.data = .fields vs∧vs[1]? = some .none∧E (.ref p) s1) E s):Α M A (raiseStmt env (some x) none) Q E s:=by
 unfold raiseStmt
 refine ε (Τ h (fun v s1 z=>?_) fun _ _ z=>z)
 obtain ⟨p,⟨oc,od,oda,osl⟩,vs,rfl,Xk,e1,e2,e3,e4,q⟩:=z
 simp only at e2 e3
 subst e2 e3
 obtain ⟨h1,g1,d1,t1,o1⟩:=s1
 have l0:Looks M h1 (typeOf (.ref p)) (.ref C):=(Looks.ld e1).andThen .now
 have l1:Looks M h1 (DK (.ref p) (.type "BaseException")) true:=l0.andThen (looks_mroIn Xk be)
 have l2:=looks_typeIn (M:=M) Xk ty
 have l3:Looks M h1 (isType (.ref p)) false:=(Looks.ld e1).andThen .now
 have l4:Looks M h1 (isExcClass (.ref p)) false:=l3.andThen .now
 refine ε (θ (ε (ϊ ?_)))
 unfold excFromValue raisedInstance Fe
 refine ε (l4.at ?_)
 rw [ZY ϝ]
 refine ε (l1.at ?_)
 rw [ZZ rfl]
 refine θ (ε (l3.at ?_))
 rw [ZY ϝ]
 refine ε (ε (l0.at (ε (l2.at ?_))))
 rw [ZZ (show (ą "type" == ą "type")=true by decide)]
 refine θ (ε (ε (ϙ e1 rfl e4 ?_)))
 rw [ZY (show ¬ ((Value.none != Value.none)=true) by decide)]
 exact θ (wpAny_raiseNew_none hh q)
end
end L2.Ev
end
section
namespace L2.Ev
theorem oz {M:EN} {A:ώ} {E:ζ→ξ→Prop} {Q:Unit→ξ→Prop} {s:ξ} {env:Dz} {n:ν} {m:ν→Option ζ} {pos:ϭ} (hl:env.kindOf n=some .local) (hn:s.heap.Ns env.locals m) (hp:(env.scope.kind == .class || (env.scope.kind == .module && env.locals != env.globals))=false)
 (h:∀ h' v,h'.Ns env.locals (fun y=>if y=n then v else m y)→õ env.locals s.heap h'→Q () { s with heap:=h',toks:=s.toks+1 }):Α M A (do bindName env n .none;ſ env n pos) Q E s:=by
 refine ε (wpAny_bindName (FJ hl hn (fun h1 n1 s1=>?_) hp))
 unfold ſ unbindName;refine EU (ε (Eo (ε ?_)))
 unfold deleteName;simp only [hl,hp];rw [ZY (by decide)]
 refine ε (wpAny_nsDel_keeps n1 fun h2 v n2 s2=>?_)
 simp only [if_true,Option.isSome_some,Bool.not_true,ã,if_false]
 refine θ (Eo (h h2 v ?_ (s1.trans s2)))
 have e:(fun y=>if y=n then v else if y=n then some Value.none else m y)=fun y=>if y=n then v else m y:=by
  funext y
  by_cases z:y=n <;> simp [z]
 rw [e] at n2
 exact n2
section
variable {X:Cx} {z z' z0 z1:Z} {w:Β→Prop}
theorem zL {a C:Β} {l:List (ν×ζ)} {f:ν} {v:ζ} {Q:ζ→ξ→Prop} {b:Bool} (I:Rep X z) (h:ExO z.h a C l) (nl:l≠[]) (Y:eJ X.K C) (hh:Â X.K C=true) (hf:Ρ X.K (.ref C) f=some none) (lk:l.lookup f=some v) (hv:ĵ v=true) (q:Q v { z.s with toks:=z.s.toks+1 }):Α X.M X.A (E0 (.ref a) f b) Q NoE z.s:=by
 obtain ⟨o,vs,e1,e2,e3,e4⟩:=h
 rcases e4 with ⟨w,_⟩ | ⟨d,od,e5,e6,es,ep,e7⟩
 ·exact ZX w nl
 ·exact pO Y hh I.toHR.kin hf e1 e2 e3 e5 (mA:=fun n=>l.lookup n) ⟨od,es,ep,e6,e7⟩ lk hv q
abbrev aM (X:Cx) (e:ζ):Cx:={ X with A:=X.A.mark (some e),calm:=false }
theorem Rep.suite (I:Rep X z):Rep (aM X e) z:=⟨⟨I.md,I.fm,(fun c=>nomatch c),I.bs,I.gh,I.rl,I.rn,I.rg,I.ob,I.fu,I.ff,I.br,I.os⟩,⟨I.ok.un,I.ok.kd,I.ok.gl,I.ok.bl,I.ok.ci,I.ok.ch⟩,I.lo,I.ce,I.fl,I.el,I.sl,I.en,I.eo,I.od⟩
theorem Rep.unsuite (h:X.calm=true→X.A.handled=none) (I:Rep (aM X e) z):Rep X z:=⟨⟨I.md,I.fm,h,I.bs,I.gh,I.rl,I.rn,I.rg,I.ob,I.fu,I.ff,I.br,I.os⟩,⟨I.ok.un,I.ok.kd,I.ok.gl,I.ok.bl,I.ok.ci,I.ok.ch⟩,I.lo,I.ce,I.fl,I.el,I.sl,I.en,I.eo,I.od⟩
theorem Go.unsuite (g:Go (aM X e) z z'):Go X z z':=⟨g.st,g.ow⟩
theorem Rep.gone {h':ϳ} {t:Nat} {i:Nat} {x:ν} {m:ν→Option ζ} {v:Option ζ} (I:Rep X z) (hN:X.N.Nodup) (hi:X.N[i]? = some x) (hk:X.env.scope.names.lookup x=some .local) (lk:∀ (i:Nat) (x:ν) (u:ζ),X.N[i]? = some x→z.σ[i]? = some (some u)→Vis X.env.scope x→kL X.env z.s.heap m x u)
 (hn:h'.Ns X.env.locals (fun y=>if y=x then v else m y)) (sb:õ X.env.locals z.s.heap h'):Rep X { z with t:=⟨z.t.env.set i none,z.t.ow.filter (· != i),z.t.st⟩,σ:=z.σ.set i none,s:={ z.s with heap:=h',toks:=t } }∧Go X z { z with t:=⟨z.t.env.set i none,z.t.ow.filter (· != i),z.t.st⟩,σ:=z.σ.set i none,s:={ z.s with heap:=h',toks:=t } }:=by
 have ne:∀ {b:Β},b≠X.env.locals→h'.get? b=z.h b:=fun n=>sb.2 _ n
 have lL:Lc X X.env.locals:=.inl rfl
 have nG:∀ {b o},z.G b=some o→b≠X.env.locals:=fun e q=>by rw [q,(I.fl _ lL).1] at e;cases e
 have nM:∀ {b},Mu z.ρ b→b≠X.env.locals:=fun m q=>(I.fl _ lL).2 (q ▸ m)
 obtain ⟨oL,es,ep,hoL,hdL,_⟩:=id hn
 have ck:∀ y c u,X.env.cells.lookup y=some c→z.s.heap.IsCell c u→h'.IsCell c u:=fun y c u e q=>q.sameBut sb (I.cne y c e)
 have hiσ:i<z.σ.length:=by rw [I.sl];exact (ς.mp hi).1
 have mf:∀ {j},j∈z.t.ow.filter (· != i)→j∈z.t.ow∧j≠i:=fun m=>⟨(ϕ.mp m).1,by simpa using (ϕ.mp m).2⟩
 have fu:h'.FunFrames X.base X.fr:=iZ (fun b o e nf=>by
  by_cases q:b=X.env.locals
  ·subst q;exact ⟨oL,hoL,fun vs e=>by rw [hdL] at e;cases e⟩
  ·exact ⟨o,(ne q).trans e,nf⟩) I.fu
 refine ⟨⟨⟨I.md,I.fm,I.hd,I.bs,fun b o e=>(ne (nG e)).trans (I.gh b o e),I.rl,I.rn,I.rg,fun n o p h1 h2=>(I.ob n o p h1 h2).mono (μ _) (.refl _) fun b hb o e=>(ne (nM ⟨p,φ h2,hb⟩)).trans e,fu,I.ff,I.br,I.os⟩,I.ok,⟨_,hn,fun j y u e1 e2 e3=>?_⟩,fun y c e=>let ⟨u,q⟩:=I.ce y c e;⟨u,ck y c u e q⟩,I.fl,by show (z.t.env.set i none).length=(z.σ.set i none).length;rw [É,É];exact I.el,by show (z.σ.set i none).length=_;rw [É];exact I.sl,fun j d n e=>?_,fun j mj=>?_,fun j k a m1 m2 e1 e2=>?_⟩,⟨⟨μ _,.refl _,fun _ _ e=>.inl e,fun _ m=>.inl m,fun b o e=>?_,fun b o e _ w _=>(ne fun q=>w (.inr (.inl q))).trans e,fun b o e _ w _=>⟨o.slots,(ne fun q=>w (.inr (.inl q))).trans e⟩⟩,fun b ⟨j,mj,e⟩=>?_⟩⟩
 ·by_cases q:j=i
  ·subst q
   rw [Ϭ hiσ] at e2;cases e2
  ·rw [Φ (Ϥ q)] at e2
   rcases lk j y u e1 e2 e3 with ⟨k,e⟩ | ⟨k,c,e,w⟩
   ·have:y≠x:=fun e=>q (gv hN e1 (e ▸ hi))
    exact .inl ⟨k,by simp [this,e]⟩
   ·exact .inr ⟨k,c,e,ck y c _ e w⟩
 ·have e:(z.t.env.set i none)[j]? = some (some d):=e
  by_cases q:j=i
  ·subst q
   rw [Ϭ (by rw [I.el];exact hiσ)] at e;cases e
  ·rw [Φ (Ϥ q)] at e
   obtain ⟨u,e1,r⟩:=I.en j d (fun m=>n (ϕ.mpr ⟨m,by simpa using q⟩)) e
   exact ⟨u,(Φ (Ϥ q)).trans e1,r⟩
 ·obtain ⟨m1,q⟩:=mf mj
  obtain ⟨d,a,o,h1,h2,h3,r,f⟩:=I.eo j m1
  exact ⟨d,a,o,(Φ (Ϥ q)).trans h1,(Φ (Ϥ q)).trans h2,h3,r.mono (μ _) (.refl _) fun b hb o e=>(ne fun w=>f.2.2.2 (by rcases hb with rfl | rfl <;> exact .inl w)).trans e,f⟩
 ·obtain ⟨a1,q1⟩:=mf m1
  obtain ⟨a2,q2⟩:=mf m2
  exact I.od j k a a1 a2 ((Φ (Ϥ q1)).symm.trans e1) ((Φ (Ϥ q2)).symm.trans e2)
 ·by_cases q:b=X.env.locals
  ·subst q;exact ⟨oL,hoL⟩
  ·exact ⟨o,(ne q).trans e⟩
 ·obtain ⟨m1,q⟩:=mf mj
  exact .inl ⟨j,m1,(Φ (Ϥ q)).symm.trans e⟩
theorem sG {a T:Β} {fl cls:ζ} {dx:Option Β} (x:Stp X.fr w z z') (I:Rep X z') (r:XR X.W z' c l cls dx) (na:Nob X z z' a) (t:Tr z'.s.heap a cls dx T fl):∃ z2,z2.s=z'.s∧z2.t=z'.t∧Stp X.fr w z z2∧(∀ b,Own z2 b↔Own z' b)∧Rep X z2∧RD X.W z2.ρ z2.G (.ins c l) (.ref a)∧(z2.σ=z'.σ):=by
 obtain ⟨oe,vs,_,_,he,⟨hc,hd⟩,hda,_⟩:=t
 have gg:Sub z'.G fun b=>if b=a then some oe else z'.G b:=fun b o q=>by
  dsimp only
  by_cases c:b=a
  ·subst c;rw [na.2.1.1] at q;cases q
  ·rw [ZY c];exact q
 have rd:RD X.W z'.ρ (fun b=>if b=a then some oe else z'.G b) (.ins c l) (.ref a):=by
  obtain ⟨i,h1,h2,h3,h4,h5⟩:=r
  subst h3
  rcases h5 with ⟨rfl,rfl⟩ | ⟨d,od,us,rfl,h6,h7,h8⟩
  ·exact ⟨a,i,[],rfl,h1,h4,.inr ⟨h2,oe,vs,ZZ rfl,hc,hda,.inl ⟨by simp,hd⟩⟩,rfl⟩
  ·exact ⟨a,i,us,rfl,h1,h4,.inr ⟨h2,oe,vs,ZZ rfl,hc,hda,.inr ⟨d,od,hd,gg _ _ h6,h7⟩⟩,h8.mono (μ _) gg⟩
 refine ⟨{ z' with G:=fun b=>if b=a then some oe else z'.G b },rfl,rfl,⟨x.pr,x.gg.trans gg,fun b o q=>?_,x.rn,x.th,x.sm,x.sl⟩,fun _=>.rfl,I.grw rfl I.br (fun _ _ e _=>e) (fun _ o e=>⟨o.slots,e⟩) gg (fun b o q=>?_) fun b o q=>?_,rd,rfl⟩
 all_goals
  have q:(if b=a then some oe else z'.G b)=some o:=q
  by_cases c:b=a
 ·subst c;exact .inr (.inl na.1)
 ·rw [ZY c] at q;exact x.gn b o q
 ·subst c;rw [ZZ rfl] at q;cases q;exact he
 ·rw [ZY c] at q;exact I.gh b o q
 ·subst c;exact .inr na.2
 ·rw [ZY c] at q;exact .inl q
def o7 (X:Cx) (j:Nat) (x:ν):Prop:=∃ i,X.W.ci[j]? = some i∧X.mg x=some (.ref i.ad)∧o6 X.K i.ad∧∀ c k ic,X.Γ.cl[c]? = some k→X.W.ci[c]? = some ic→X.W.what[c]? = some 2→Ϯ X.K ic.ad (.ref i.ad)=some (c == j || k.sup.contains j)
def HL (X:Cx) (hs:List ĉ) (r:S):Prop:=∀ (z z1:Z) (c:Nat) (l:List D) (e:ζ) (o:av),XN X (Pv X z) z z1 c l e .none→(∀ a,Own z1 a→Own z a∨z.h a=none)→o=exS.hnd X.Γ X.cal X.cal1 r c l z1.t→o≠.bad→Α X.M X.A (handleBy e X.env hs) (Ps X z o) (PxS X z o) z1.s
theorem xw (F:kJ X):HL X [] .skip:=fun z z1 c l e o hn ow e0 nb=>by
 have e0:o = .exc c l z1.t:=e0
 refine wpAny_handleBy_nil ?_
 obtain ⟨a,T,cls,dx,e1,_,_,_,_,t,_⟩:=id hn
 subst e1
 unfold PySem.passOn
 obtain ⟨oe,vs,oT,ts,he,hc,hd,h1,r⟩:=id t
 refine ε (ϙ he hd h1 ?_)
 rw [ZY (show ¬ ((Ϡ T == Value.none)=true) by simp),F.frame]
 refine ε (cf (z':=z1) (fr:=some X.env.locals) hn fun h2 hn2=>wpAny_throw ?_)
 obtain ⟨a',T',cls',dx',e1,x2,I2,r2,na2,t2,nT2⟩:=hn2
 exact ⟨{ z1 with s:={ z1.s with heap:=h2 } },c,l,rfl,e0,⟨x2,ow⟩,I2,a',cls',dx',e1,r2,na2,.inr ⟨T',_,t2,.inr rfl,nT2⟩⟩
theorem AR {j i:Nat} {Bn n:ν} {np hpos:ϭ} {hs:List ĉ} {suite:List Ó} {b₀:Ó} {b r:S} (hS:∀ e,LSs (aM X e) (b₀ :: suite) b) (hx:o7 X j Bn) (hg:Gl X Bn) (hdb:(Bn == ("__debug__":ν))=false) (hN:X.N.Nodup) (hi:X.N[i]? = some n) (hl:X.env.scope.names.lookup n=some .local) (hr:HL X hs r):HL X (.ExceptHandler (some (.Name Bn np)) (some n) (b₀ :: suite) hpos :: hs) (.hand j (some i) b r):=fun z z1 c l e o hn3 ow1 e0 nb=>by
 have e0:o=(match cP X.Γ j c with
  | some true=>(match X.ex b ⟨z1.t.env.set i (some (.ins c l)),z1.t.ow.filter (· != i),z1.t.st⟩ with
    | .nx s=>.nx ⟨s.env.set i none,s.ow.filter (· != i),s.st⟩
    | .rt d s=>.rt d s
    | _=>.bad)
  | some false=>exS.hnd X.Γ X.cal X.cal1 r c l z1.t
  | none=>.bad):=e0
 obtain ⟨p,T,cls,dx,rfl,x3,I3,r3,na3,t3,nT3⟩:=id hn3
 refine G9 (FK ?_) (fun z=>nomatch z)
 obtain ⟨ic,w1,w2,w3,w4⟩:=hx
 obtain ⟨i2,v1,v2,v3,v4,v5⟩:=id r3
 cases ek:X.Γ.cl[c]? with
 | none=>exact ZX (by rw [e0];unfold cP;rw [ek];rfl) nb
 | some k=>
   have hsub:=w4 c k i2 ek v1 v2
   rw [show cP X.Γ j c=some (c == j || k.sup.contains j) by unfold cP;rw [ek];rfl] at e0
   generalize (c == j || k.sup.contains j)=kk at e0 hsub
   refine bz (X:=aM X (.ref p)) (z:=z1) I3.suite hg w2 ?_ hdb
   obtain ⟨oe,vs,oT,tt,he,⟨hcl,hdi⟩,hda,_⟩:=id t3
   refine gq I3.toHR.kin w3 he (hcl.trans v3) hsub ?_
   cases kk with
   | false=>exact hr z z1 c l _ o hn3 ow1 e0 nb
   | true=>
     have e0:o=(match X.ex b ⟨z1.t.env.set i (some (.ins c l)),z1.t.ow.filter (· != i),z1.t.st⟩ with
      | .nx s=>.nx ⟨s.env.set i none,s.ow.filter (· != i),s.st⟩
      | .rt d s=>.rt d s
      | _=>.bad):=e0
     show Ĵ _ _ _ _ _
     refine codeAny_handlers_suite_as (cf (z':=z1) (fr:=none) hn3 fun h4 hn4=>?_)
     obtain ⟨p',T',cls',dx',ep,x4,I4,r4,na4,t4,nT4⟩:=hn4
     cases ep
     obtain ⟨z5,e5,t5,x5,o5,I5,rd5,s5⟩:=sG x4 I4 r4 na4 t4
     rw [show ({ z1.s with heap:=h4 }:ξ)=z5.s from e5.symm]
     have g5:Go X z z5:=⟨x5,fun b ob=>ow1 b ((o5 b).mp ob)⟩
     refine cj (X:=aM X (.ref p)) (own:=false) (d:=.ins c l) (z:=z5) (z0:=z5) .refl I5.suite hN hi (.inl hl) rd5 fun s6 a6 _ _ I6 g6=>?_
     have t6:stV z5.t i (.ins c l) false=⟨z1.t.env.set i (some (.ins c l)),z1.t.ow.filter (· != i),z1.t.st⟩:=by rw [show z5.t=z1.t from t5];rfl
     rw [← t6] at e0
     have nb6:(aM X (.ref p)).ex b (stV z5.t i (.ins c l) false)≠.bad:=fun q=>nb (by rw [e0,show X.ex b (stV z5.t i (.ins c l) false) = .bad from q])
     refine Τ (hS (.ref p) { z5 with t:=stV z5.t i (.ins c l) false,σ:=z5.σ.set i (some (.ref p)),s:=s6 } I6 nb6) (fun f s7 h7=>?_) fun e s7 ⟨z7,c7,l7,_,q7,_,_,_⟩=>ZX (by rw [e0,show X.ex b (stV z5.t i (.ins c l) false)=_ from q7]) nb
     have fin:∀ z7,z7.s=s7→Go (aM X (.ref p)) { z5 with t:=stV z5.t i (.ins c l) false,σ:=z5.σ.set i (some (.ref p)),s:=s6 } z7→Rep (aM X (.ref p)) z7→(∀ z8,z8.t=⟨z7.t.env.set i none,z7.t.ow.filter (· != i),z7.t.st⟩→z8.ρ=z7.ρ→z8.G=z7.G→Go X z z8→Rep X z8→Ps X z o f z8.s)→Α X.M X.A (do bindName X.env n .none;ſ X.env n hpos) (fun _ s3=>Ps X z o f s3) (PxS X z o) s7:=fun z7 e7 g7 I7 hh=>by
      subst e7
      have J7:=I7.unsuite I3.hd
      obtain ⟨m,hn,lk⟩:=id J7.lo
      refine oz hl hn (by rw [I3.ok.kd];rfl) fun h8 v n8 s8=>?_
      obtain ⟨I8,g8⟩:=J7.gone (t:=z7.s.toks+1) hN hi hl lk n8 s8
      exact hh { z7 with t:=⟨z7.t.env.set i none,z7.t.ow.filter (· != i),z7.t.st⟩,σ:=z7.σ.set i none,s:={ z7.s with heap:=h8,toks:=z7.s.toks+1 } } rfl rfl rfl (((g5.trans g6.unsuite).trans g7.unsuite).trans g8) I8
     cases q7:X.ex b (stV z5.t i (.ins c l) false) with
     | nx t7=>
       rw [show (aM X (.ref p)).ex b (stV z5.t i (.ins c l) false) = .nx t7 from q7] at h7
       rw [q7] at e0
       obtain ⟨rfl,z7,e7,et7,g7,I7⟩:=h7
       refine fin z7 e7 g7 I7 fun z8 e8 _ _ g8 I8=>nxt g8 I8 ?_
       rw [e0,e8,et7]
     | rt d t7=>
       rw [show (aM X (.ref p)).ex b (stV z5.t i (.ins c l) false) = .rt d t7 from q7] at h7
       rw [q7] at e0
       obtain ⟨u,z7,rfl,e7,et7,g7,I7,rd7⟩:=h7
       refine fin z7 e7 g7 I7 fun z8 e8 r8 G8 g8 I8=>?_
       rw [e0]
       exact ⟨u,z8,rfl,rfl,by rw [e8];exact et7,g8,I8,by rw [r8,G8];exact rd7⟩
     | exc c7 l7 t7=>rw [q7] at e0;exact ZX e0 nb
     | bad=>exact ZX q7 nb6
theorem AS {j:Nat} {Bn:ν} {np hpos:ϭ} {hs:List ĉ} {suite:List Ó} {b₀:Ó} {b r:S} (hS:∀ e,LSs (aM X e) (b₀ :: suite) b) (hx:o7 X j Bn) (hg:Gl X Bn) (hdb:(Bn == ("__debug__":ν))=false) (hr:HL X hs r):HL X (.ExceptHandler (some (.Name Bn np)) none (b₀ :: suite) hpos :: hs) (.hand j none b r):=fun z z1 c l e o hn3 ow1 e0 nb=>by
 have e0:o=(match cP X.Γ j c with
  | some true=>(match X.ex b z1.t with | .nx s=>.nx s | .rt d s=>.rt d s | _=>.bad)
  | some false=>exS.hnd X.Γ X.cal X.cal1 r c l z1.t
  | none=>.bad):=e0
 obtain ⟨p,T,cls,dx,rfl,x3,I3,r3,na3,t3,nT3⟩:=id hn3
 refine G9 (FK ?_) (fun z=>nomatch z)
 obtain ⟨ic,w1,w2,w3,w4⟩:=hx
 obtain ⟨i2,v1,v2,v3,v4,v5⟩:=id r3
 cases ek:X.Γ.cl[c]? with
 | none=>exact ZX (by rw [e0];unfold cP;rw [ek];rfl) nb
 | some k=>
   have hsub:=w4 c k i2 ek v1 v2
   rw [show cP X.Γ j c=some (c == j || k.sup.contains j) by unfold cP;rw [ek];rfl] at e0
   generalize (c == j || k.sup.contains j)=kk at e0 hsub
   refine bz (X:=aM X (.ref p)) (z:=z1) I3.suite hg w2 ?_ hdb
   obtain ⟨oe,vs,oT,tt,he,⟨hcl,hdi⟩,hda,_⟩:=id t3
   refine gq I3.toHR.kin w3 he (hcl.trans v3) hsub ?_
   cases kk with
   | false=>exact hr z z1 c l _ o hn3 ow1 e0 nb
   | true=>
     have e0:o=(match X.ex b z1.t with | .nx s=>.nx s | .rt d s=>.rt d s | _=>.bad):=e0
     show Ĵ _ _ _ _ _
     refine codeAny_handlers_suite (cf (z':=z1) (fr:=none) hn3 fun h4 hn4=>?_)
     obtain ⟨p',T',cls',dx',ep,x4,I4,r4,na4,t4,nT4⟩:=hn4
     cases ep
     have g4:Go X z { z1 with s:={ z1.s with heap:=h4 } }:=⟨x4,ow1⟩
     have nb6:(aM X (.ref p)).ex b z1.t≠.bad:=fun q=>nb (by rw [e0,show X.ex b z1.t = .bad from q])
     refine Τ (hS (.ref p) { z1 with s:={ z1.s with heap:=h4 } } I4.suite nb6) (fun f s7 h7=>?_) fun e s7 ⟨z7,c7,l7,_,q7,_,_,_⟩=>ZX (by rw [e0,show X.ex b z1.t=_ from q7]) nb
     cases q7:X.ex b z1.t with
     | nx t7=>
       rw [show (aM X (.ref p)).ex b z1.t = .nx t7 from q7] at h7
       rw [q7] at e0
       obtain ⟨rfl,z7,e7,et7,g7,I7⟩:=h7
       subst e7
       exact nxt (g4.trans g7.unsuite) (I7.unsuite I3.hd) (by rw [e0,et7])
     | rt d t7=>
       rw [show (aM X (.ref p)).ex b z1.t = .rt d t7 from q7] at h7
       rw [q7] at e0
       obtain ⟨u,z7,rfl,e7,et7,g7,I7,rd7⟩:=h7
       subst e7
       show Ps X z o (.ret u) z7.s
       rw [e0]
       exact ⟨u,z7,rfl,rfl,et7,g4.trans g7.unsuite,I7.unsuite I3.hd,rd7⟩
     | exc c7 l7 t7=>rw [q7] at e0;exact ZX e0 nb
     | bad=>exact ZX q7 nb6
theorem yv {h0:ĉ} {hs:List ĉ} {pos:ϭ} {body:List Ó} {a r:S} (F:kJ X) (hb:LSs X body a) (hh:HL X (h0 :: hs) r):LS X (.Try body (h0 :: hs) [] [] pos) (.try_ a r):=fun z I nb=>by
 have e0:X.ex (.try_ a r) z.t=(match X.ex a z.t with
  | .exc c l s=>exS.hnd X.Γ X.cal X.cal1 r c l s
  | r=>r):=rfl
 generalize X.ex (.try_ a r) z.t=o at e0 nb
 have nb1:X.ex a z.t≠.bad:=fun q=>nb (by rw [e0,q])
 refine wpAny_Try_except (Τ (hb z I nb1) (fun f s1 h=>?_) fun e s1 h=>?_)
 ·cases q:X.ex a z.t with
  | nx t=>rw [q] at h e0;obtain ⟨rfl,h⟩:=h;exact į (show Ps X z o .next s1 by rw [e0];exact ⟨rfl,h⟩)
  | rt d t=>rw [q] at h e0;obtain ⟨u,z',rfl,h⟩:=h;exact show Ps X z o (.ret u) s1 by rw [e0];exact ⟨u,z',rfl,h⟩
  | exc c l t=>rw [q] at h;exact h.elim
  | bad=>exact ZX q nb1
 ·obtain ⟨z1,c,l,e1,q1,x1,I1,xo⟩:=h
  subst e1
  rw [q1] at e0
  exact jC F x1.st I1 xo fun h2 hn2=>cf (z':={ z1 with s:={ z1.s with heap:=h2 } }) (fr:=none) hn2 fun h3 hn3=>hh z { z1 with s:={ z1.s with heap:=h3 } } c l e o hn3 x1.ow e0 nb
end
end L2.Ev
end
section
namespace L2.Ev
structure Pri (X:Cx) (p:Β) (nm:List ν) (P:List Β→List (ν×ζ)→ϳ→Prop):Prop where
 ex:∀ {ch l h},P ch l h→∀ b∈ch,∃ o,h.get? b=some o
 keep:∀ {ch l h h'},P ch l h→(∀ b∈ch,∀ o,h.get? b=some o→h'.get? b=some o)→P ch l h'
 set:∀ {A:ώ} {s:ξ} {ch:List Β} {l:List (ν×ζ)} {f:ν} {v:ζ} {Q:Unit→ξ→Prop} {E:ζ→ξ→Prop},X.K.In s.heap→P ch l s.heap→f∈nm→f ∉ l.map (·.1)→l.length<900 →
  (∀ h' ch' t,P ch' (l ++ [(f,v)]) h'→(∀ b∈ch',b∈ch∨s.heap.get? b=none)→(∀ b∈ch,b∈ch')→(∀ b o,b ∉ ch→s.heap.get? b=some o→h'.get? b=some o)→Q () { s with heap:=h',toks:=t })→Α X.M A (Ez (.ref p) f v) Q E s
theorem eQ {f:ν} {v:ζ}:∀ {l:List (ν×ζ)},f ∉ l.map (·.1)→∀ g,(l ++ [(f,v)]).lookup g=if g=f then some v else l.lookup g
 | [],_,g=>by
   show (match g == f with | true=>some v | false=>none)=if g=f then some v else none
   by_cases c:g=f
   ·rw [ZZ c,beq_iff_eq.mpr c]
   ·rw [ZY c,ZU.mpr c]
 | (a,b) :: r,h,g=>by
   have h':f≠a∧f ∉ r.map (·.1):=by simpa using h
   have ih:=eQ (v:=v) h'.2 g
   show (match g == a with | true=>some b | false=>(r ++ [(f,v)]).lookup g)=if g=f then some v else (match g == a with | true=>some b | false=>r.lookup g)
   by_cases c:g=a
   ·have gf:g≠f:=fun w=>h'.1 (w.symm.trans c)
    rw [beq_iff_eq.mpr c,ZY gf]
   ·rw [ZU.mpr c];exact ih
theorem kA (l:List (ν×ζ)):GK (fun n=>l.lookup n) (l.map (·.1)):=fun y hy=>by
 cases q:l.lookup y with
 | none=>exact ZX q hy
 | some u=>
   obtain ⟨l1,l2,e1,_⟩:=Ew.mp q
   rw [e1];simp
section
variable {X:Cx} {z z' z0 z1:Z} {p C:Β} {nm:List ν}
theorem u6 (cl:Cls X.K C) (na:∀ f∈nm,cz X.K C f):Pri X p nm (fun ch l h=>∃ dx,ch = [p,dx]∧InO h.get? p dx C l) where
 ex:=fun ⟨dx,e,h1,h2,h3,o,h4,h5⟩ b hb=>by
  subst e
  rcases π.mp hb with w | w
  ·rw [w];exact ⟨_,h1⟩
  ·rw [η.mp w];exact ⟨o,h4⟩
 keep:=fun ⟨dx,e,h1,h2,h3,o,h4,h5⟩ k=>⟨dx,e,k p (by rw [e];simp) _ h1,h2,h3,o,k dx (by rw [e];simp) _ h4,h5⟩
 set:=fun {A s ch l f v Q E} hK ⟨dx,e,io⟩ hf hn hz hq=>by
  subst e
  refine mW (ns:=l.map (·.1)) hK (InO.objm io) cl.sa cl.po (na f hf).taker cl.hd (kA l) (by rw [Ν];exact Ϣ (ø hz) (big (by omega))) fun h' om sb=>?_
  obtain ⟨od,es,ep,e1,e2,e3,e4,e5⟩:=om.ns
  exact hq h' [p,dx] _ ⟨dx,rfl,om.obj,om.ne,by rw [υ];simp;omega,od,e1,es,ep,e2,e3,e4,fun n=>(e5 n).trans (eQ hn n).symm⟩ (fun b hb=>.inl hb) (fun b hb=>hb) fun b o nb e=>(sb.2 b fun w=>nb (by rw [w];simp)).trans e
theorem mN (Z:fM X.K C) (na:∀ f∈nm,Ρ X.K (.ref C) f=some none):Pri X p nm (fun ch l h=>∃ o vs,h.get? p=some o∧o.cls = .ref C∧o.data = .fields vs∧vs[1]? = some .none∧((l = []∧o.dict=none∧ch = [p])∨∃ d od,o.dict=some d∧d≠p∧ch = [p,d]∧h.get? d=some od∧NsO od l)) where
 ex:=fun ⟨o,vs,h1,_,_,_,h5⟩ b hb=>by
  rcases h5 with ⟨_,_,e⟩ | ⟨d,od,_,_,e,h6,_⟩
  ·rw [e] at hb;rw [η.mp hb];exact ⟨o,h1⟩
  ·rw [e] at hb
   rcases π.mp hb with w | w
   ·rw [w];exact ⟨_,h1⟩
   ·rw [η.mp w];exact ⟨od,h6⟩
 keep:=fun ⟨o,vs,h1,h2,h3,h4,h5⟩ k=>by
  rcases h5 with ⟨a,b,e⟩ | ⟨d,od,a,b,e,h6,h7⟩
  ·exact ⟨o,vs,k p (by rw [e];simp) _ h1,h2,h3,h4,.inl ⟨a,b,e⟩⟩
  ·exact ⟨o,vs,k p (by rw [e];simp) _ h1,h2,h3,h4,.inr ⟨d,od,a,b,e,k d (by rw [e];simp) _ h6,h7⟩⟩
 set:=fun {A s ch l f v Q E} hK ⟨o,vs,h1,h2,h3,h4,h5⟩ hf hn hz hq=>by
  refine nZ (mA:=fun n=>l.lookup n) (ns:=l.map (·.1)) hK Z (na f hf) h1 h2 h3 ?_ (kA l) (by rw [Ν];omega) fun h' d t g1 ne n k ds=>?_
  ·rcases h5 with ⟨rfl,b,_⟩ | ⟨d,od,a,b,_,h6,es,ep,h7⟩
   ·exact .inl ⟨b,fun _=>rfl⟩
   ·exact .inr ⟨d,a,b,od,es,ep,h6,h7⟩
  ·obtain ⟨od2,es,ep,e1,e2,e3,e4,e5⟩:=n
   refine hq h' [p,d] t ⟨_,vs,g1,h2,h3,h4,.inr ⟨d,od2,rfl,ne,rfl,e1,es,ep,e2,e3,e4,fun n=>(e5 n).trans (eQ hn n).symm⟩⟩ (fun b hb=>?_) (fun b hb=>?_) fun b u nb e=>?_
   ·rcases h5 with ⟨_,b1,e⟩ | ⟨d',od,a,_,e,_⟩
    ·rcases π.mp hb with w | w
     ·left;rw [e,w];simp
     ·rw [η.mp w]
      rcases ds with q | ⟨_,q⟩
      ·rw [b1] at q;cases q
      ·exact .inr q
    ·rcases ds with q | ⟨q,_⟩
     ·rw [a] at q;cases q;rw [e];exact .inl hb
     ·rw [a] at q;cases q
   ·rcases h5 with ⟨_,b1,e⟩ | ⟨d',od,a,_,e,_⟩
    ·rw [e] at hb;rw [η.mp hb];simp
    ·rcases ds with q | ⟨q,_⟩
     ·rw [a] at q;cases q;rw [e] at hb;exact hb
     ·rw [a] at q;cases q
   ·have np:b≠p:=fun w=>by
     rcases h5 with ⟨_,_,e'⟩ | ⟨_,_,_,_,e',_⟩ <;> exact nb (by rw [e',w];simp)
    refine k b u np (fun w=>?_) e
    rcases ds with q | ⟨_,q⟩
    ·rcases h5 with ⟨_,b1,_⟩ | ⟨d',od,a,_,e',_⟩
     ·rw [b1] at q;cases q
     ·rw [a] at q;cases q;exact nb (by rw [e',w];simp)
    ·rw [w,q] at e;cases e
def Bas (X:Cx) (p:Β) (P:List Β→List (ν×ζ)→ϳ→Prop):Prop:=∀ {A:ώ} {s:ξ} {ch:List Β} {l:List (ν×ζ)} {ur:List ζ} {Q:ζ→ξ→Prop} {E:ζ→ξ→Prop},X.K.In s.heap→P ch l s.heap→ur.length≤Ϛ →
 (∀ h',P ch l h'→(∀ b∈ch,∃ o,h'.get? b=some o)→(∀ b o,b ∉ ch→s.heap.get? b=some o→h'.get? b=some o)→Q .none { s with heap:=h' })→Α X.M A (call (.builtin "ValueError.__init__") (.ref p :: ur)) Q E s
theorem sW {fI:Β} (O:gQ X.K C fI veB "ValueError.__new__") (Pr:Pri X p nm fun ch l h=>∃ o vs,h.get? p=some o∧o.cls = .ref C∧o.data = .fields vs∧vs[1]? = some .none∧((l = []∧o.dict=none∧ch = [p])∨∃ d od,o.dict=some d∧d≠p∧ch = [p,d]∧h.get? d=some od∧NsO od l)):Bas X p (fun ch l h=>∃ o vs,h.get? p=some o∧o.cls = .ref C∧o.data = .fields vs∧vs[1]? = some .none∧((l = []∧o.dict=none∧ch = [p])∨∃ d od,o.dict=some d∧d≠p∧ch = [p,d]∧h.get? d=some od∧NsO od l)):=fun {A s ch l ur Q E} K2 hP lz hq=>by
 have F:=PySem.F.excBase_ValueError
 obtain ⟨ob,fv,e1,e2,e3,e4,e5⟩:=id hP
 obtain ⟨nm',q',N,bs,bm,hdct,sn,sub,ab,col,dd,k0,k1,k2,k3,k5,l',tl⟩:=O.at_
 have sz:1<fv.size:=by
  cases Nat.lt_or_ge 1 fv.size with
  | inl h=>exact h
  | inr h=>rw [Array.getElem?_eq_none h] at e4;cases e4
 have z0:0<fv.size:=Nat.lt_of_succ_lt sz
 obtain ⟨h2,g2,d2,t2,o2⟩:=s
 refine ă (î F.init.plain F.initEntry (wpAny_check_init_subT F (PySem.W.tail_of_in K2 tl) (K2 _ _ l') e1 e2 ?_))
 have e1':=ο (h:=h2) { cls:=.type "tuple",data:=.seq ur.toArray } e1
 obtain ⟨f0,e0⟩:∃ f0,fv[0]? = some f0:=⟨_,Ĳ z0⟩
 unfold ŕ.«BaseException.__init__» Fc
 refine ε (wpAny_newTuple ?_ lz)
 refine ε (ε (ϙ e1' e3 e0 (ε (Ĕ e1' e3 z0 ?_))))
 have dT:=ö e3 (·.setIfInBounds 0 (Ϡ h2.objs.size))
 have gs:=ϡ (h:=h2.push { cls:=.type "tuple",data:=.seq ur.toArray }) (ě (·.setIfInBounds 0 (Ϡ h2.objs.size))) e1' (û dT)
 have ot:∀ b o,b≠p→h2.get? b=some o→((h2.push { cls:=.type "tuple",data:=.seq ur.toArray }).update p (ě (·.setIfInBounds 0 (Ϡ h2.objs.size)))).get? b=some o:=fun b o n e=>(ύ _ _ (Ϥ n)).trans (ο _ e)
 have fin:=hq ((h2.push { cls:=.type "tuple",data:=.seq ur.toArray }).update p (ě (·.setIfInBounds 0 (Ϡ h2.objs.size)))) ⟨_,_,gs,by rw [Du];exact e2,dT,by rw [Array.getElem?_setIfInBounds_ne (by decide)];exact e4,e5.imp (fun ⟨a,b,c⟩=>⟨a,by rw [fR];exact b,c⟩) fun ⟨d,od,a,b,c,e,f⟩=>⟨d,od,by rw [fR];exact a,b,c,ot d od b e,f⟩⟩ (fun b hb=>by
  by_cases q:b=p
  ·rw [q];exact ⟨_,gs⟩
  ·obtain ⟨o,e⟩:=Pr.ex hP b hb
   exact ⟨o,ot b o q e⟩) (fun b o n e=>ot b o (fun q=>n (by rcases e5 with ⟨_,_,c⟩ | ⟨_,_,_,_,c,_⟩ <;> (rw [c,q];simp))) e)
 cases f0 <;> first | exact θ (θ fin) | exact Ĥ (θ fin)
structure oY (K:χ) (B:Β):Prop where
 ga:Ŵ K (.ref B) "__getattribute__" = some (some (.builtin "type.__getattribute__"))
 rd:PySem.W.readsIn K B (.type "type")=true
 at_:PySem.W.findCls K (.ref B) (.type "type") "__init__" = some (.val (.builtin "ValueError.__init__"))
inductive JsP (X:Cx) (ck:List Nat):List Κ→Prop
 | nil:JsP X ck []
 | c {x:ν} {j:Nat} {p:ϭ} {r}:x.length≤1000→JsP X ck r→JsP X ck (.Constant (.str x) j p :: r)
 | f {x:ν} {i:Nat} {p q:ϭ} {r}:i∈ck→X.N[i+1]? = some x→Vis X.env.scope x→((x == ("__debug__":ν)) || (x == ("__classdict__":ν)))=false→JsP X ck r→JsP X ck (.FormattedValue (.Name x p) (-1) none q :: r)
def SmV (σ:List (Option ζ)) (ck:List Nat):Prop:=∀ i∈ck,∃ (n:Nat) (t:Tok),σ[i+1]? = some (some (.int n t))∧n<100000
theorem xF {E:ζ→ξ→Prop} {ck:List Nat} {es:List Κ} (h:JsP X ck es):∀ {z:Z} {acc:ν} {Q:ν→ξ→Prop},Rep X z→SmV z.σ ck→acc.length+1000 * es.length≤100000→(∀ out t,out.length≤100000→Q out { z.s with toks:=t })→Joins X.M X.A E (evalEach es X.env) acc Q z.s:=by
 have sz:∀ {n},n≤100000→n≤Ϛ:=fun h=>Ϣ h (by decide)
 induction h with
 | nil=>exact fun I hs hl q=>q _ _ (by simpa using hl)
 | @c x j p r hx _ ih=>
   intro z acc Q I hs hl q
   rw [Ι] at hl
   show Α _ _ (eval (.Constant (.str x) j p) X.env) _ _ _
   refine à ⟨x,_,rfl,sz (by rw [Ϻ];omega),?_⟩
   exact ih (z:={ z with s:={ z.s with toks:=z.s.toks+1 } }) (I.grow (ak I.gh .tok)) hs (by rw [Ϻ];omega) q
 | @f x i p p2 r hi hN hv hd _ ih=>
   intro z acc Q I hs hl q
   rw [Ι] at hl
   simp only [Ũ] at hd
   obtain ⟨n,t,e,hn⟩:=hs i hi
   have lt:=int_text_length_le10 (a:=(n:Int)) (k:=5) (by decide) hn
   have lg:(n:Int).natAbs.log2<1920:=by
    show n.log2<1920
    by_cases c:n=0
    ·subst c;decide
    ·exact Í ((F4 (k:=17) c).mpr (by omega)) (by decide)
   have le:(ϧ (toString (n:Int))).length≤6:=by rw [EA];exact lt
   refine G6 (bU I hN hv e (wpAny_formatField_int lg ⟨_,_,rfl,sz (by rw [Ϻ];omega),?_⟩) hd.1 hd.2)
   exact ih (z:={ z with s:={ z.s with toks:=z.s.toks+1+1 } }) (I.grow (ak I.gh .tok)) hs (by rw [Ϻ];omega) q
inductive jD (X:Cx) (ck:Option (List Nat)):List Ó→List (ν×Nat)→Prop
 | nil:jD X ck [] []
 | base {c:List Nat} {s0 Bn:ν} {B:Β} {np ap p1 p2 cp ep:ϭ} {e1 e2:Κ} {es r l}:ck=some c→X.N[0]? = some s0→Vis X.env.scope s0→((s0 == ("__debug__":ν)) || (s0 == ("__classdict__":ν)) || (Bn == ("__debug__":ν)))=false→Gl X Bn→X.mg Bn=some (.ref B)→oY X.K B→JsP X c (e1 :: e2 :: es)→es.length≤50→(ap.endLine == cp.line)=true→jD X ck r l→jD X ck (.Expr (.Call (.Attribute (.Name Bn np) "__init__" ap) [.Name s0 p1,.JoinedStr (e1 :: e2 :: es) p2] [] cp) ep :: r) l
 | cons {s0 x:ν} {f:ν} {i:Nat} {p1 p2 p3 pos:ϭ} {r l}:X.N[0]? = some s0→X.N[i]? = some x→Vis X.env.scope s0→Vis X.env.scope x→((s0 == ("__debug__":ν)) || (s0 == ("__classdict__":ν)) || (x == ("__debug__":ν)) || (x == ("__classdict__":ν)))=false→jD X ck r l→jD X ck (.Assign [.Attribute (.Name s0 p1) f p2] (.Name x p3) pos :: r) ((f,i) :: l)
theorem tP {P:List Β→List (ν×ζ)→ϳ→Prop} {ck:Option (List Nat)} (H:Pri X p nm P) (hB:∀ c,ck=some c→Bas X p P) {body:List Ó} {l:List (ν×Nat)} (B:jD X ck body l):∀ (z:Z) (ch:List Β) (l0:List (ν×ζ)) (vs:List ζ),Rep X z→z.σ[0]? = some (some (.ref p))→P ch l0 z.s.heap→(∀ b∈ch,Fre X z b∧¬ Own z b)→(∀ q∈l,q.1∈nm)→(l0.map (·.1) ++ l.map (·.1)).Nodup→l0.length+l.length<900→l.map (fun q=>z.σ[q.2]?)=vs.map (fun v=>some (some v))→(∀ c,ck=some c→SmV z.σ c) →
 Α X.M X.A (execs body X.env) (fun fl s'=>fl = .next∧∃ ch',P ch' (l0 ++ (l.map (·.1)).zip vs) s'.heap∧(∀ b∈ch',b∈ch∨z.h b=none)∧(s'.os=z.s.os∧s'.gens=z.s.gens)∧(∀ b o,b ∉ ch→z.h b=some o→s'.heap.get? b=some o)) NoE z.s:=by
 induction B with
 | nil=>exact fun z ch l0 vs I _ hP hf _ _ _ _ _=>į ⟨rfl,ch,by simpa using hP,fun b hb=>.inl hb,⟨rfl,rfl⟩,fun _ _ _ e=>e⟩
 | @base c s0 Bn Ba np ap p1 p2 cp ep e1 e2 es r l hc n0 v0 hd hg hm2 Z J hes hln B ih=>
   intro z ch l0 vs I h0 hP hf hm nd hz hv hs
   simp only [Ũ] at hd
   have mp:Ř true (.Name Bn np) X.env ap cp=pure cp:=by unfold Ř;rw [hln];rfl
   refine Š (ŀ (Ō (pl:=do return (← importBound (.Name Bn np) X.env).getD true) (he:=by
    show (eval (.Name Bn np) X.env >>= fun ov=>Œ ap.atName >>= fun _=>holding [ov] (calleeOf true (.Name Bn np) X.env ov "__init__") >>= fun x=>Ř true (.Name Bn np) X.env ap cp >>= fun callPos=>Ţ callPos x.1 x.2 (ϻ cp (Ε [.Name s0 p1,.JoinedStr (e1 :: e2 :: es) p2] X.env)) (Ï cp (Ϩ [] X.env)))=_
    rw [mp];rfl) (bz I hg hm2 (PySem.W.method_cls I.toHR.kin Z.ga (PySem.W.cls_value I.toHR.kin Z.rd Z.at_ rfl ?_)) hd.2)) I.quiet rfl)
   have I1:Rep X { z with s:={ z.s with toks:=z.s.toks+1 } }:=I.grow (ak I.gh .tok)
   refine ϫ rfl (ϰ (Η (bU I1 n0 v0 h0 (Η (Hs (pos:=p2) (xF J I1 (hs c hc) (by show ė.length+1000 * (es.length+1+1)≤100000;have:ė.length=0:=rfl;omega) fun out t ho=>⟨Ϣ ho (by decide),Ξ ?_⟩))) hd.1.1 hd.1.2)))
   refine hB c hc (I.toHR.kin) hP (by rw [Ą];exact τ rfl) fun h' hP' c2 k=>?_
   have W:Wr (frs X.fr) ch z.s.heap h':=⟨fun b o e _ n=>k b o n e,fun b o e n=>⟨o.slots,k b o n e⟩,fun b o e=>by
    by_cases m:b∈ch
    ·exact c2 b m
    ·exact ⟨o,k b o m e⟩⟩
   have I2:Rep X { z with s:={ z.s with heap:=h',toks:=t+1 } }:=I.wr W hf
   refine Τ (ih { z with s:={ z.s with heap:=h',toks:=t+1 } } ch l0 vs I2 h0 hP' hf hm nd hz hv hs) (fun fl s' ⟨e,ch2,q1,q2,q3,q5⟩=>⟨e,ch2,q1,fun b hb=>(q2 b hb).imp_right fun w=>?_,q3,fun b o n e=>q5 b o n (k b o n e)⟩) fun _ _ w=>w
   cases q:z.h b with
   | none=>rfl
   | some o=>obtain ⟨o',e'⟩:=W.there b o q;rw [show h'.get? b=none from w] at e';cases e'
 | @cons s0 x f i p1 p2 p3 pos r l n0 ni v0 vi hd B ih=>
   intro z ch l0 vs I h0 hP hf hm nd hz hv hs
   simp only [Ũ] at hd
   obtain ⟨⟨⟨d1,d2⟩,d3⟩,d4⟩:=hd
   match vs,hv with
   | [],hv=>cases hv
   | v :: vs,hv=>
     rw [Î,Î] at hv
     injection hv with hv1 hv2
     have nf:f ∉ l0.map (·.1)∧(l0.map (·.1) ++ [f] ++ l.map (·.1)).Nodup:=by
      rw [Î] at nd
      refine ⟨fun m=>?_,by simpa using nd⟩
      exact (Ĺ.mp nd).2.2 f m f ι rfl
     refine Š (ò (bU I ni vi hv1 (bU I n0 v0 h0 (H.set I.toHR.kin hP (hm _ ι) nf.1 (by simp at hz;omega) fun h' ch' t hP' c1 c2 k=>?_) d1 d2) d3 d4) d8)
     have W:Wr (frs X.fr) ch z.s.heap h':=⟨fun b o e _ n=>k b o n e,fun b o e n=>⟨o.slots,k b o n e⟩,fun b o e=>by
      by_cases m:b∈ch
      ·exact H.ex hP' b (c2 b m)
      ·exact ⟨o,k b o m e⟩⟩
     have I1:Rep X { z with s:={ z.s with heap:=h',toks:=t } }:=I.wr W hf
     have f1:∀ b∈ch',Fre X z b∧¬ Own z b:=fun b hb=>(c1 b hb).elim (hf b) fun n=>I.fre n
     refine Τ (ih { z with s:={ z.s with heap:=h',toks:=t } } ch' (l0 ++ [(f,v)]) vs I1 h0 hP' f1 (fun q m=>hm q (κ _ m)) (by rw [Ô];exact nf.2) (by simp at hz ⊢;omega) hv2 hs) (fun fl s' ⟨e,ch2,q1,q2,q3,q5⟩=>⟨e,ch2,by rw [Č] at q1;exact q1,fun b hb=>?_,q3,fun b o n e=>?_⟩) fun _ _ w=>w
     ·rcases q2 b hb with w | w
      ·exact c1 b w
      ·refine .inr ?_
       cases q:z.h b with
       | none=>rfl
       | some o=>obtain ⟨o',e'⟩:=W.there b o q;rw [show h'.get? b=none from w] at e';cases e'
     ·by_cases m:b∈ch'
      ·rcases c1 b m with w | w
       ·exact ZX w n
       ·rw [show z.h b=none from w] at e;cases e
      ·exact q5 b o m (k b o n e)
structure FnI (X:Cx) (lv:Nat) (f:Β) (fd:ß) (ps nm:List ν) (ck:Option (List Nat)):Prop where
 len:ps.length=nm.length+1
 run:∀ (A:ώ) (fr:List Dz) (z:Z) (args:Args) (us:List ζ) (p:Β) (P:List Β→List (ν×ζ)→ϳ→Prop) (ch:List Β),bq lv A→HR { X with A:=A,fr:=fr } z→H9 z.s fd args (ps.zip (.ref p :: us))→us.length=nm.length→Pri X p nm P→(∀ c,ck=some c→Bas X p P∧∀ i∈c,∃ (n:Nat) (t:Tok),us[i]? = some (.int n t)∧n<100000)→P ch [] z.s.heap→(∀ b∈ch,z.G b=none∧¬ Mu z.ρ b∧b ∉ frs fr) →
  Ĵ X.M A (.call (.ref f) args) (fun r s'=>r = .ok (.ret .none)∧∃ ch',P ch' (nm.zip us) s'.heap∧(∀ b∈ch',b∈ch∨z.h b=none)∧(s'.os=z.s.os∧s'.gens=z.s.gens)∧(∀ b o,b ∉ ch→z.h b=some o→s'.heap.get? b=some o)) z.s
theorem xk {name qual:ν} {params:En} {body:List Ó} {scope:Ē} {dV kV doc pm ct oc cd:ζ} {an od:Option Β} {osl:Array (Option ζ)} {ps:List ν} {f:Β} {k:Nat} {l:List (ν×Nat)} (lk:X.K.lookup f=some ⟨oc,od,.func (ϱ name qual params body scope dV kV doc pm an cd ct),osl⟩) (hcd:Ü X.K cd qual=true) (S:dg ps ps scope) (hn:ps.length=nm.length+1) (nd:nm.Nodup) (h9:nm.length<900) (hl:l=nm.zip (DQ 1 nm.length))
 {ck:Option (List Nat)} (hb:∀ A fr L,jD (cxF X X.cal X.cal1 ps qual scope f cd A fr L) ck body l):FnI X (k+1) f (ϱ name qual params body scope dV kV doc pm an cd ct) ps nm ck:=by
 refine ⟨hn,fun A fr z args us p P ch hr I hbd hlu H hB hP hc=>?_⟩
 have hl2:(Ϡ p :: us).length=ps.length:=by rw [Ι];omega
 have KX:X.K.In z.s.heap:=I.kin
 have lim:z.s.heap.NoLimit:=I.md.nolimit.keeps (Rep.bk I)
 have hkind:∀ y∈ps.zip (.ref p :: us),scope.names.lookup y.1=some .local∨(scope.names.lookup y.1=some .cell∧((Ff (z.s.heap.objs.size+1) scope.names []).lookup y.1).isSome=true):=fun ⟨n,v⟩ hy=>by
  rcases S.par n (Ğ hy).1 with q | q
  ·exact .inl q
  ·exact .inr ⟨q,Ń _ _ _ (.inl q)⟩
 refine FL hr.depth (KX _ _ lk) rfl S.co S.gen rfl (EK KX hcd) (hbd _ _ _ _ ?_)
 refine EF S.kind hkind fun env he s1 x=>?_
 subst he
 refine ⟨lim.keeps x.toInCall.keep,codeAny_func ?_⟩
 have hk:∀ b o,z.h b=some o→s1.heap.get? b=some o:=x.toInCall.keep
 have J:=iL (es:=Ζ (Ϡ p :: us).length none) (cal:=X.cal) (cal1:=X.cal1) S I hr hl2 (å ..) (fun i d e=>by rw [ï] at e;split at e <;> cases e) x
 have lcf:∀ {a o},z.h a=some o→¬ Lc (cxF X X.cal X.cal1 ps qual scope f cd A fr z.s.heap.objs.size) a:=fun {a o} e h=>by
  have:z.s.heap.objs.size≤a:=by
   rcases h with rfl | ⟨y,e⟩
   ·exact Ψ _
   ·exact ø (x.above y _ (Ä e))
  exact ZX (Ο e) (D2.mpr this)
 have noz:∀ {b},b∈ch→∃ o,z.h b=some o:=fun hb=>H.ex hP _ hb
 have hP1:P ch [] s1.heap:=H.keep hP fun b _ o e=>hk b o e
 have fc:∀ b∈ch,Fre (cxF X X.cal X.cal1 ps qual scope f cd A fr z.s.heap.objs.size) ⟨z.ρ,z.G,⟨Ζ (Ϡ p :: us).length none ++ Ζ (ps.length - ps.length) none,[],z.t.st⟩,(Ϡ p :: us).map some ++ Ζ (ps.length - ps.length) none,s1⟩ b∧¬ Own ⟨z.ρ,z.G,⟨Ζ (Ϡ p :: us).length none ++ Ζ (ps.length - ps.length) none,[],z.t.st⟩,(Ϡ p :: us).map some ++ Ζ (ps.length - ps.length) none,s1⟩ b:=fun b hb=>by
  obtain ⟨o,e⟩:=noz hb
  obtain ⟨c1,c2,c3⟩:=hc b hb
  refine ⟨⟨c1,c2,fun m=>?_,lcf e⟩,fun ⟨i,m,_⟩=>nomatch m⟩
  rcases π.mp (show b∈z.s.heap.objs.size :: frs fr from m) with q | q
  ·exact ZX (Ο e) (by rw [q];exact Ĝ _)
  ·exact c3 q
 have lm:l.map (·.1)=nm:=by rw [hl,FR (by simp)]
 have H':Pri (cxF X X.cal X.cal1 ps qual scope f cd A fr z.s.heap.objs.size) p nm P:=⟨H.ex,H.keep,H.set⟩
 refine Τ (tP H' (fun c e=>(hB c e).1) (hb A fr z.s.heap.objs.size) _ ch [] us J (eA (n:=ps.length - ps.length) (i:=0) rfl) hP1 fc (fun q m=>by rw [← lm];exact List.mem_map_of_mem m) (by rw [lm];simpa using nd) (by have:=ZS ES lm;rw [Ν] at this;simp;omega) ?_ fun c e i hi=>?_) (fun fl s' ⟨e,ch',q1,q2,q3,q5⟩=>?_) fun _ _ w=>w.elim
 ·rw [hl]
  refine List.ext_getElem? fun i=>?_
  rw [ϋ,ϋ]
  cases q:us[i]? with
  | none=>
    have:¬ i<us.length:=fun h=>by rw [Θ h] at q;cases q
    rw [Ş (by rw [ϸ,List.length_range'];omega)];rfl
  | some v=>
    have hi:i<us.length:=(ς.mp q).1
    have e1:(nm.zip (DQ 1 nm.length))[i]? = some (nm[i]'(by omega),1+i):=by rw [Ā];exact ⟨Θ _,by rw [List.getElem?_range' (by omega)];simp⟩
    rw [e1]
    show some (((Ϡ p :: us).map some ++ Ζ (ps.length - ps.length) none)[1+i]?)=some (some (some v))
    rw [eA (d:=v) (by rw [Hk,Á];exact q)]
 ·obtain ⟨n,t,e1,e2⟩:=(hB c e).2 i hi
  exact ⟨n,t,eA (d:=Ć n t) (by rw [Á];exact e1),e2⟩
 ·subst e
  rw [lm] at q1
  have none1:∀ {a},s1.heap.get? a=none→z.h a=none:=fun {a} n=>by
   cases q:z.h a with
   | none=>rfl
   | some o=>rw [hk a o q] at n;cases n
  obtain ⟨h1,tk,e1,_⟩:=x.done
  exact ⟨rfl,ch',q1,fun b hb=>(q2 b hb).imp_right none1,⟨q3.1.trans (by rw [e1]),q3.2.trans (by rw [e1])⟩,fun b o n e=>q5 b o n (hk b o e)⟩
end
section
variable {X:Cx} {z z' z0 z1:Z}
theorem fP {C:Β} {x:ν} {Q:ζ→ξ→Prop} {E:ζ→ξ→Prop} (I:Rep X z) (kp:ϖ X.K (.ref C)=true) (hg:Gl X x) (hm:X.mg x=some (.ref C)) (hd:(x == ("__debug__":ν))=false) (he:Ε (ea :: er) X.env=(false,eval ea X.env) :: Ε er X.env) (hpl:(ϻ pos (Ε er X.env)).any (·.1)=false)
 (h:Α X.M X.A (spliced (ϻ pos (Ε (ea :: er) X.env))) (fun us s'=>X.K.In s'.heap∧Α X.M X.A (call (.ref C) us) Q E s') E z.s):Α X.M X.A (eval (.Call (.Name x p) (ea :: er) [] pos) X.env) Q E z.s:=
 è (bz I hg hm (Ģ (h₀:=X.base) I.md.kin kp h he hpl) hd)
theorem yb {x:ν} {j:Nat} {cl:Cl} {i:CI} (F:bX X X.cal1 lv cl.init f) (hr:bq (lv+1) X.A) (M:Mk X.K i.ad f) (hcl:X.Γ.cl[j]? = some cl) (hw:cl.what=0) (hci:X.W.ci[j]? = some i) (hwh:X.W.what[j]? = some 0) (hg:Gl X x) (hm:X.mg x=some (.ref i.ad)) (ha:LA X (ea :: er) es) (hd:(x == ("__debug__":ν))=false) (he:Ε (ea :: er) X.env=(false,eval ea X.env) :: Ε er X.env) (hpl:(ϻ pos (Ε er X.env)).any (·.1)=false):LE X (.Call (.Name x p) (ea :: er) [] pos) (.new j es):=fun br z I nb=>
 fP I M.kp hg hm hd he hpl ((ha true pos).go .refl I rfl nb fun z1 l us y1 x1 I1 r1 e1=>⟨I1.toHR.kin,mV F hr M hcl hw hci hwh x1 I1 r1 e1 nb⟩)
theorem ui {x:ν} {j:Nat} {cl:Cl} {i:CI} {fd:ß} {ps:List ν} (F:FnI X lv f fd ps i.nm none) (hb:bV X.K fd ps []) (hr:bq (lv+1) X.A) (M:Mk X.K i.ad f) (C:Cls X.K i.ad) (na:∀ f∈i.nm,cz X.K i.ad f) (hcl:X.Γ.cl[j]? = some cl) (hci:X.W.ci[j]? = some i) (hwh:X.W.what[j]? = some 1) (hn:i.nm.length=cl.at_.length) (hg:Gl X x) (hm:X.mg x=some (.ref i.ad)) (ha:LA X (ea :: er) es) (hd:(x == ("__debug__":ν))=false) (he:Ε (ea :: er) X.env=(false,eval ea X.env) :: Ε er X.env) (hpl:(ϻ pos (Ε er X.env)).any (·.1)=false):LE X (.Call (.Name x p) (ea :: er) [] pos) (.newd j es):=fun br z I nb=>
 fP I M.kp hg hm hd he hpl ((ha false pos).go .refl I rfl nb fun z1 l us y1 x1 I1 r1 e1=>⟨I1.toHR.kin,cv x1 I1 e1 nb fun d q=>by
  rw [hcl] at q
  obtain ⟨⟨_,hl⟩,rfl⟩:=aN (show (if cl.what=1∧l.length=cl.at_.length then some (D.ins j l) else none)=some d from q)
  have rs:=r1.rds
  have lu:us.length=i.nm.length:=by rw [← rs.len,hl,hn]
  have g:Gr z1.s { z1.s with heap:=(z1.s.heap.push Ϙ).push (Ϟ i.ad z1.s.heap.objs.size) }:=⟨rfl,rfl,fun b o e=>ο _ (ο _ e)⟩
  have e1:(z1.s.heap.push Ϙ).get? z1.s.heap.objs.size=some Ϙ:=ψ z1.s.heap rfl
  have e2:((z1.s.heap.push Ϙ).push (Ϟ i.ad z1.s.heap.objs.size)).get? (z1.s.heap.objs.size+1)=some (Ϟ i.ad z1.s.heap.objs.size):=by
   have:=ψ (z1.s.heap.push Ϙ) (o:=Ϟ i.ad z1.s.heap.objs.size) rfl
   rwa [ϵ] at this
  have n1:z1.h (z1.s.heap.objs.size+1)=none:=ϗ (Þ _)
  have n0:=aB z1
  have ne:z1.s.heap.objs.size≠z1.s.heap.objs.size+1:=ϛ (DO _)
  have bd:=hb { z1.s with heap:=(z1.s.heap.push Ϙ).push (Ϟ i.ad z1.s.heap.objs.size) } (.ref (z1.s.heap.objs.size+1) :: us) (I1.toHR.kin.keeps g.k) (by rw [Ω,Ι,F.len,lu])
  rw [Ω] at bd
  have H1:=(I1.toHR.grow (ak I1.gh g)).at (A:=X.A.under (.builtin "type.__call__" ⟨.ref i.ad :: us,[]⟩)) (eF i.ad us []) rfl
  refine ă (j6 (f:=f) I1.toHR.kin M.makes M.init (beq_iff_eq.mp M.fn) (í (F.run _ X.fr { z1 with s:={ z1.s with heap:=(z1.s.heap.push Ϙ).push (Ϟ i.ad z1.s.heap.objs.size) } } ⟨.ref (z1.s.heap.objs.size+1) :: us,[]⟩ us _ _ [z1.s.heap.objs.size+1,z1.s.heap.objs.size] (hr.make i.ad us []) H1 bd lu (u6 C na) (fun _ e=>nomatch e) ⟨_,rfl,e2,ne,ϲ _,_,ο _ e1,#[],_,rfl,(fun e he=>ZX he (by simp)),.nil,fun _=>rfl⟩ fun b hb=>?_) fun r s' hq=>?_))
  ·rcases π.mp hb with w | w
   ·rw [w];exact ⟨(I1.fre n1).1.1,(I1.fre n1).1.2.1,(I1.fre n1).1.2.2.1⟩
   ·rw [η.mp w];exact ⟨(I1.fre n0).1.1,(I1.fre n0).1.2.1,(I1.fre n0).1.2.2.1⟩
  ·obtain ⟨rfl,ch',⟨dx,ec,io⟩,c1,os,k⟩:=hq
   have gr:Gr z1.s s':=⟨os.1,os.2,fun b o e=>k b o (fun m=>by
    have e:z1.h b=some o:=e
    rcases π.mp m with w | w
    ·rw [w,n1] at e;cases e
    ·rw [η.mp w,n0] at e;cases e) (g.k b o e)⟩
   have nd:z1.h dx=none:=by
    rcases c1 dx (by rw [ec];simp) with w | w
    ·rcases π.mp w with w | w
     ·rw [w];exact n1
     ·rw [η.mp w];exact n0
    ·cases q:z1.h dx with
     | none=>rfl
     | some o=>exact ZX (g.k dx o q) (by rw [show ((z1.s.heap.push Ϙ).push (Ϟ i.ad z1.s.heap.objs.size)).get? dx=none from w];exact fun z=>nomatch z)
   obtain ⟨i1,i2,i3,oo,i4,i5⟩:=io
   exact ⟨rfl,gr,_,i,us,rfl,hci,by rw [hl,hn];exact Ψ _,.inl ⟨hwh,dx,(eV n1).trans i1,i2,i3,oo,(eV nd).trans i4,i5⟩,rs.mono (μ _) (bY I1.gh gr).gg⟩⟩)
theorem qP {x:ν} {j:Nat} {k:Cl} {i:CI} {fd:ß} {ps:List ν} {fI:Β} {Bx nwI iniI:String} {bmB:List ζ} {np cp pos:ϭ} (Fb:Ę Bx nwI iniI bmB) (O:gQ X.K i.ad fI bmB nwI) {ck:Option (List Nat)} (F:FnI X lv fI fd ps i.nm ck) (hk:ck=none∨(ck=some k.chk∧gQ X.K i.ad fI veB "ValueError.__new__")) (hb:bV X.K fd ps []) (hr:bq (lv+1) X.A) (Z:fM X.K i.ad) (na:∀ f∈i.nm,Ρ X.K (.ref i.ad) f=some none) (hcl:X.Γ.cl[j]? = some k) (hci:X.W.ci[j]? = some i) (hwh:X.W.what[j]? = some 2) (hn:i.nm.length=k.at_.length) (h0:k.at_.isEmpty=false)
 (be:Ϯ X.K i.ad (.type "BaseException")=some true) (ty:ć X.K (.ref i.ad)=some (.type "type")) (kp:ϖ X.K (.ref i.ad)=true) (hc:X.calm=true) (hg:Gl X x) (hm:X.mg x=some (.ref i.ad)) (ha:LA X (ea :: er) es) (hd:(x == ("__debug__":ν))=false) (he:Ε (ea :: er) X.env=(false,eval ea X.env) :: Ε er X.env) (hpl:(ϻ cp (Ε er X.env)).any (·.1)=false):LS X (.Raise (some (.Call (.Name x np) (ea :: er) [] cp)) none pos) (.rais j es):=fun z I nb=>by
 rw [arm_exec_Raise]
 refine ε (æ (oK (K:=X.K) (C:=i.ad) be ty (I.hd hc) (ε ?_)))
 refine fP I kp hg hm hd he hpl ((ha false cp).gos (f:=fun l s=>if iJ X.Γ j l then .exc j (nY X.Γ j l) s else .bad) .refl I rfl nb fun z1 l us y1 x1 I1 r1 e1=>⟨I1.toHR.kin,?_⟩)
 have rs:=r1.rds
 by_cases c:iJ X.Γ j l=true
 rotate_left
 ·rw [ZY c] at e1;exact ZX e1 nb
 rw [ZZ c] at e1
 have ea:nY X.Γ j l=l:=by unfold nY;rw [hcl];exact ZY (by rw [h0];exact ϝ)
 rw [ea] at e1
 unfold iJ at c
 rw [hcl] at c
 dsimp only at c
 rw [ZY (by rw [h0];exact ϝ)] at c
 simp only [Υ,decide_eq_true_eq] at c
 obtain ⟨⟨⟨c1,c2⟩,c3⟩,c4⟩:=c
 have c1:l.length=k.at_.length:=by simpa using c1
 have lu:us.length=i.nm.length:=by rw [← rs.len,c1,hn]
 have l0:l≠[]:=by intro w;rw [w] at c4;simp at c4
 refine pN (h:=z1.s.heap) (g:=z1.s.gens) (d:=z1.s.drawn) (t:=z1.s.toks) (os:=z1.s.os) Fb I1.toHR.kin O (by rw [← rs.len];exact big (by omega)) fun h' p m=>?_
 have kz:∀ b o,z1.h b=some o→h'.get? b=some o:=fun b o e=>m.keeps b o e
 have np:z1.h p=none:=m.new
 obtain ⟨tt,ht,_,_⟩:=m.there
 have g:Gr z1.s { z1.s with heap:=h' }:=⟨rfl,rfl,kz⟩
 have bd:=hb { z1.s with heap:=h' } (.ref p :: us) (I1.toHR.kin.keeps kz) (by rw [Ω,Ι,F.len,lu])
 rw [Ω] at bd
 have H1:=(I1.toHR.grow (ak I1.gh g)).at (A:=X.A.under (.builtin "type.__call__" ⟨.ref i.ad :: us,[]⟩)) (eF i.ad us []) rfl
 have fp:=I1.fre np
 refine ă (í (F.run _ X.fr { z1 with s:={ z1.s with heap:=h' } } ⟨.ref p :: us,[]⟩ us p _ [p] (hr.make i.ad us []) H1 bd lu (mN Z na) (fun c e=>?_) ⟨_,_,ht,rfl,rfl,rfl,.inl ⟨rfl,rfl,rfl⟩⟩ fun b hb=>?_) fun r s' hq=>?_)
 ·rcases hk with w | ⟨w,O'⟩
  ·rw [w] at e;cases e
  ·rw [w] at e;cases e
   refine ⟨sW O' (mN Z na),fun j hj=>?_⟩
   have sm:=ϒ.mp c2 j hj
   cases q:l[j]? with
   | none=>rw [q] at sm;cases sm
   | some d=>
     obtain ⟨u,hu,ru⟩:=rs.get q
     rw [q] at sm
     cases d with
     | int n=>
       obtain ⟨t,rfl⟩:=ru
       unfold rX at sm
       simp only [Υ,decide_eq_true_eq] at sm
       obtain ⟨m,rfl⟩:=ED sm.1
       exact ⟨m,t,hu,by omega⟩
     | _=>cases sm
 ·rw [η.mp hb];exact ⟨fp.1.1,fp.1.2.1,fp.1.2.2.1⟩
 obtain ⟨rfl,ch',⟨o,vs,q1,q2,q3,q4,q5⟩,cc,os,kk⟩:=hq
 have gr:Gr z1.s s':=⟨os.1.trans g.os,os.2.trans g.gs,fun b o e=>kk b o (fun w=>by have e:z1.h b=some o:=e;rw [η.mp w,np] at e;cases e) (kz b o e)⟩
 rcases q5 with ⟨w,_,_⟩ | ⟨d,od,q6,q7,q8,q9,q10⟩
 ·have:i.nm.zip us≠[]:=fun w=>by
   have hl:=rs.len
   have:0<l.length:=List.length_pos_iff.mpr l0
   have w0:(i.nm.zip us).length=0:=by rw [w];rfl
   rw [ϸ] at w0
   omega
  exact ZX w this
 have nd:z1.h d=none:=by
  rcases cc d (by rw [q8];simp) with w | w
  ·exact ZX (η.mp w) q7
  ·cases q:z1.h d with
   | none=>rfl
   | some o=>have:=kz d o q;rw [show h'.get? d=none from w] at this;cases this
 have fd:=I1.fre nd
 have gw:Grw z1 (fun b=>if b=d then some od else z1.G b) s':=⟨gr,fun b o e=>by
  by_cases c:b=d
  ·subst c;rw [fd.1.1] at e;cases e
  ·rw [ZY c];exact e,fun b o e=>by
  by_cases c:b=d
  ·subst c;rw [ZZ rfl] at e;cases e;exact q9
  ·rw [ZY c] at e;exact gr.k b o (I1.gh b o e),fun b o e=>by
  by_cases c:b=d
  ·subst c;exact .inr nd
  ·rw [ZY c] at e;exact .inl e⟩
 have I3:=I1.grow gw
 have pG:(if p=d then some od else z1.G p)=none:=by rw [ZY (Ϥ q7)];exact fp.1.1
 refine ⟨rfl,ε (æ (θ ⟨p,o,vs,rfl,I3.toHR.kin,q1,q2,q3,q4,{ z1 with G:=fun b=>if b=d then some od else z1.G b,s:=s' },j,l,rfl,e1,x1.trans gw.ee.go,I3,p,.ref i.ad,some d,rfl,⟨i,hci,hwh,rfl,by rw [c1,hn];exact Ψ _,.inr ⟨d,od,us,rfl,ZZ rfl,q10,rs.mono (μ _) gw.gg⟩⟩,⟨x1.st.no np,⟨pG,fp.1.2⟩,fp.2⟩,.inl ⟨o,vs,q1,⟨q2,q6⟩,q3,q4⟩⟩))⟩
def FnJ (X:Cx) (lv:Nat) (f:Β) (fd:ß) (ps nm:List ν) (k:Cl) (C:Β):Prop:=∃ ck,FnI X lv f fd ps nm ck∧(ck=none∨(ck=some k.chk∧gQ X.K C f veB "ValueError.__new__"))
end
def zS (K:χ) (C:Β) (bmB:List ζ) (newId:String):Prop:=∃ (nm q:ν) (N:Β) (bs bm:List ζ) (hdct:Bool) (sn:List ν) (sub:List ζ) (ab:Bool) (col:Option Bool) (dd:Option Β) (k0 k1 k2 k3 k5:Option ζ),
 K.lookup C=some (FY nm q C N bs bm hdct sn sub ab col dd k0 k1 k2 k3 k5 newId)∧PySem.W.nsOkIn K N=true∧ϓ K N "__init__" = some none∧Fy K bmB bm=true
inductive TxP (X:Cx):List Κ→E→Prop
 | nil:TxP X [] .nil
 | c {x:ν} {j:Nat} {p:ϭ} {r es}:x.length≤1000→TxP X r es→TxP X (.Constant (.str x) j p :: r) es
 | f {x:ν} {i:Nat} {p q:ϭ} {r es}:X.N[i]? = some x→Vis X.env.scope x→((x == ("__debug__":ν)) || (x == ("__classdict__":ν)))=false→TxP X r es→TxP X (.FormattedValue (.Name x p) (-1) none q :: r) (.cons (.op .add (.v i) (.c (.int 0))) es)
 | r {x:ν} {i:Nat} {p q:ϭ} {r es}:X.N[i]? = some x→Vis X.env.scope x→((x == ("__debug__":ν)) || (x == ("__classdict__":ν)))=false→TxP X r es→TxP X (.FormattedValue (.Name x p) 114 none q :: r) (.cons (.op .add (.v i) (.c (.str ""))) es)
section
variable {X:Cx} {z:Z}
inductive TxA (X:Cx):Κ→E→Prop
 | c {x:ν} {j:Nat} {p:ϭ}:x.length≤1000→TxA X (.Constant (.str x) j p) .nil
 | j {e1 e2:Κ} {r:List Κ} {p:ϭ} {es:E}:TxP X (e1 :: e2 :: r) es→r.length≤8→TxA X (.JoinedStr (e1 :: e2 :: r) p) es
end
end L2.Ev
namespace L2.Ev
theorem kY {prog:ϴ} {w:Û} {A:ώ} {E:ζ→ξ→Prop} {s:ξ} {Q:Option ζ→ξ→Prop} {δ:Type} {R:δ→ζ→Prop} {a:Β} {D:List (ν×δ)} {z:ν} {tz:Tok} {d:δ}
 (T:G5 R s.heap a D) (hat:Ò z D=some d) (h:∀ v,R d v→Q (some v) { s with toks:=s.toks+1 }):Α (model prog w) A (E2 a (.str z tz)) Q E s:=by
 obtain ⟨_,o,es,ep,ho,_,hd,hr⟩:=T
 obtain ⟨v,hv,hfl⟩:=hr.find_some hat
 have all:(es.all fun e=>isExactStrKey e.key)=true:=by
  obtain ⟨l⟩:=es
  simpa using hr.exact
 have hq:Q (EI (fun k v=>v.isStr k) es z) { s with toks:=s.toks+1 }:=by
  rw [show EI (fun k v=>v.isStr k) es z=some v by obtain ⟨l⟩:=es;simpa [EI] using hv]
  exact h v hfl
 rw [GG] at hq
 unfold E2
 refine ϊ ?_
 refine ε (Eg (ε (F8 (s:={ s with toks:=s.toks+1 }) ho hd all ?_)))
 cases hi:es.findIdx? fun e=>e.key.isStr z with
 | none=>
   rw [hi] at hq
   exact θ hq
 | some i=>
   rw [hi] at hq
   exact ε (GZ (s:={ s with toks:=s.toks+1 }) ho hd (θ hq))
theorem mo {prog:ϴ} {w:Û} {A:ώ} {E:ζ→ξ→Prop} {s:ξ} {Q:Option ζ→ξ→Prop} {δ:Type} {R:δ→ζ→Prop} {a:Β} {D:List (ν×δ)} {z:ν} {tz:Tok}
 (T:G5 R s.heap a D) (hat:Ò z D=none) (h:Q none { s with toks:=s.toks+1 }):Α (model prog w) A (E2 a (.str z tz)) Q E s:=by
 obtain ⟨_,o,es,ep,ho,_,hd,hr⟩:=T
 have hv:=hr.find_none hat
 have all:(es.all fun e=>isExactStrKey e.key)=true:=by
  obtain ⟨l⟩:=es
  simpa using hr.exact
 have hq:Q (EI (fun k v=>v.isStr k) es z) { s with toks:=s.toks+1 }:=by
  rw [show EI (fun k v=>v.isStr k) es z=none by obtain ⟨l⟩:=es;simpa [EI] using hv]
  exact h
 rw [GG] at hq
 unfold E2
 refine ϊ (ε (Eg (ε (F8 (s:={ s with toks:=s.toks+1 }) ho hd all ?_))))
 cases hi:es.findIdx? fun e=>e.key.isStr z with
 | none=>
   rw [hi] at hq
   exact θ hq
 | some i=>
   rw [hi] at hq
   exact ε (GZ (s:={ s with toks:=s.toks+1 }) ho hd (θ hq))
section
variable {X:Cx} {z z1:Z} {a:Β} {t:List (ν×L2.Bk.Dk)} {j:Nat} {x:ν}
abbrev TbL (X:Cx) (a:Β) (t:List (ν×L2.Bk.Dk)):Prop:=DU (aW X.K) (fun b=>X.K.lookup b) a t=true
theorem jz (I:HR X z) (hK:TbL X a t):G5 (fun d v=>aW X.K d v=true) z.s.heap a t:=KTD.tab_of_look (fun _ _ h=>h) (fun b o e=>I.kin b o e) hK
theorem yd (hg:Gl X x) (hm:X.mg x=some (.ref a)) (ht:X.Γ.tb[j]? = some t) (hK:TbL X a t) (hb:LE X eb b) (hs:iN eb) (hd:(x == ("__debug__":ν))=false) (hl:∀ r,letTemporaryGo (.Name x p) (.ref a) r=pure ()):LE X (.Subscript (.Name x p) eb pos) (.tab j b):=fun br z I nb=>
 GJ (bz I hg hm ((hb true).go .refl I rfl nb fun z1 d u y1 x1 I1 r1 e1=>by
  rw [ht] at e1
  cases d with
  | str k=>
    obtain ⟨tz,rfl⟩:=(r1.rb.cr0 I1:RD X.W z1.ρ z1.G (.str k) u)
    have T:=jz I1.toHR hK
    have ty:z1.s.TypeIs (.ref a) "dict":=by obtain ⟨_,o,_,_,ho,hc,_⟩:=T;exact ⟨o,ho,hc.1⟩
    refine cv x1 I1 e1 nb fun d q=>?_
    obtain ⟨d0,hat,rfl⟩:=ω.mp q
    refine subscriptTail_builtin ty DY.lookup ?_ (hs _ _) hl
    unfold DZ
    refine ϊ (ε (DW ty (by decide) (ε (Ã (name:=ϧ "__getitem__") ty DY (Ñ DY ty entry_dict_getitem ?_ (args_dict_getitem _ _))))))
    show Α _ _ (E2 a (.str k tz) >>= _) _ _ z1.s
    exact ε (kY T hat fun v hv=>θ ⟨v,rfl,θ (.old I1 .tok (I1.toHR.top hv))⟩)
  | _=>exact ZX e1 nb) hd)
theorem kt {k:ν} {tz:Tok} {Q:ζ→ξ→Prop} {E:ζ→ξ→Prop} (I:HR X z) (hK:TbL X a t) (q:∀ n,Q (.bool (Ò k t).isSome) { z.s with toks:=n }):Α X.M X.A (Ú .In (.str k tz) (.ref a)) Q E z.s:=by
 have T:=jz I hK
 have ty:z.s.TypeIs (.ref a) "dict":=by obtain ⟨_,o,_,_,ho,hc,_⟩:=T;exact ⟨o,ho,hc.1⟩
 have nsm:=T.1
 show Α _ _ (do return ϥ (← contains (.ref a) (.str k tz))) _ _ z.s
 refine ε ?_
 unfold contains
 refine ϊ ?_
 refine ε (ů ty DJ.lookup ?_)
 show Α _ _ (if (some (Gf "dict.__contains__") == some Value.none)=true then _ else _) _ _ z.s
 rw [ZY (by rw [beq_builtin_none];exact ϝ)]
 refine ε (wpAny_callSpecialUnlessNone?_slot (name:=ϧ "__contains__") ty DJ (Ñ DJ ty entry_dict_contains ?_ (args_dict_contains _ _)))
 show Α _ _ (E2 a (.str k tz) >>= _) _ _ z.s
 cases hat:Ò k t with
 | some d=>
   rw [hat] at q
   refine ε (kY T hat fun v _=>?_)
   show Α _ _ (ret (.bool true)) _ _ _
   exact θ ⟨_,rfl,Ϸ (θ (q _))⟩
 | none=>
   rw [hat] at q
   refine ε (mo T hat ?_)
   show Α _ _ (HE a (.str k tz) >>= _) _ _ _
   exact ε (wpAny_pendingKey_other nsm (θ ⟨_,rfl,Ϸ (θ (q _))⟩))
theorem qD (hg:Gl X x) (hm:X.mg x=some (.ref a)) (ht:X.Γ.tb[j]? = some t) (hK:TbL X a t) (hb:LE X eb b) (hd:(x == ("__debug__":ν))=false) (h1:ð .In (.Name x p)=false):LE X (.Compare eb [.In] [.Name x p] pos) (.tabin j b):=fun br z I nb=>
 ž ((hb true).go .refl I rfl nb fun z1 d u y1 x1 I1 r1 e1=>by
  rw [ht] at e1
  cases d with
  | str k=>
    obtain ⟨tz,rfl⟩:=(r1.rb.cr0 I1:RD X.W z1.ρ z1.G (.str k) u)
    exact bz I1 hg hm (kt I1.toHR hK fun n=>Dn.at x1 I1 e1 (.tok fun _ _ _=>rfl)) hd
  | _=>exact ZX e1 nb) h1
theorem qS (hg:Gl X x) (hm:X.mg x=some (.ref a)) (ht:X.Γ.tb[j]? = some t) (hK:TbL X a t) (hb:LE X eb b) (hd:(x == ("__debug__":ν))=false) (h1:ð .In (.Name x p)=false):LT X (.Compare eb [.In] [.Name x p] pos) (.tabin j b):=fun z I nb=>
 ĝ ((hb true).go .refl I (au ..) nb fun z1 d u y1 x1 I1 r1 e1=>by
  rw [ht] at e1
  cases d with
  | str k=>
    obtain ⟨tz,rfl⟩:=(r1.rb.cr0 I1:RD X.W z1.ρ z1.G (.str k) u)
    exact bz I1 hg hm (kt I1.toHR hK fun n=>(Dn.tok (X:=X) (z:=z1) (d:=.bl (Ò k t).isSome) (n:=n) fun _ _ _=>rfl).tru x1 I1 e1 nb) hd
  | _=>exact ZX e1 nb) h1
end
section
variable {X:Cx} {z z1:Z}
structure M2 (X:Cx) (o:Κ) (m:ν) (apos:ϭ) (e f:Κ) (cpos:ϭ):Prop where
 base:Ĉ o m X.env (eval o X.env)=eval o X.env
 few:((ϻ cpos (Ε [e,f] X.env)).all (fun x=>!x.1) && (Ï cpos (Ϩ [] X.env)).all (fun x=>x.1.isSome) && decide (([e,f]:List Κ).length+([]:List ŭ).length+(if ([]:List ŭ).isEmpty then 0 else 1)<30))=true
 line:(apos.endLine == cpos.line)=true
 trees:ϻ cpos (Ε [e,f] X.env) = [(false,eval e X.env),(false,eval f X.env)]
theorem mn {o:Option D} {ov:Option ζ} (h:match o with | some d=>∃ v,ov=some v∧RD W ρ G d v | none=>ov=none) (r:RD W ρ G d0 u0):RD W ρ G (o.getD d0) (ov.getD u0):=by
 cases o with
 | none=>rw [h];exact r
 | some d=>obtain ⟨v,rfl,r⟩:=h;exact r
theorem pH {ks:List Key} {ds:List D} (h:CR X.W z (.dic ks ds) u):∃ a,u = .ref a∧z.s.TypeIs u "dict"∧∀ b,u = .ref b→∃ ob,z.s.heap.get? b=some ob∧ob.dict=none:=by
 obtain ⟨a,o,vs,rfl,_,e,⟨_,_,x,_⟩,_⟩:=h
 exact ⟨a,rfl,⟨o,e,x.1⟩,fun b q=>by cases q;exact ⟨o,e,x.2.1⟩⟩
theorem jS (h:isDic d=true):∃ ks ds,d = .dic ks ds:=by cases d <;> first | exact ⟨_,_,rfl⟩ | cases h
theorem uc (ha:LE X eo a) (hb:LE X eb b) (hc:LE X ec c) (m:M2 X eo "get" apos eb ec cpos):LE X (.Call (.Attribute eo "get" apos) [eb,ec] [] cpos) (.get a b c):=fun br z I nb=>
 Ù m.base m.few m.line ķ Ý ō ((ha true).go .refl I rfl nb fun z1 x u y1 x1 I1 r1 e1=>by
  by_cases hd:isDic (look z1.t.st x)=true
  ·rw [ZZ hd] at e1
   obtain ⟨ks,ds,ed⟩:=jS hd
   have cr:=r1.rb.cr I1
   rw [ed] at cr
   obtain ⟨ad,rfl,t1,t2⟩:=pH cr
   refine ⟨t1,t2,?_⟩
   rw [m.trees]
   refine ϫ rfl (ϰ (Η ((hb true).go x1 I1 e1 nb fun z2 y iv y2 x2 I2 r2 e2=>Η ((hc false).go x2 I2 e2 nb fun z3 w fv y3 x3 I3 r3 e3=>Ξ ?_))))
   have cr3:=((r1.rb.st y2 I2).st y3 I3).cr I3
   cases q:look z3.t.st x with
   | dic ks ds=>
     cases q2:bx y with
     | none=>rw [q,q2] at e3;exact ZX e3 nb
     | some k=>
       rw [q] at cr3
       rw [q,q2] at e3
       obtain ⟨ad',o,vs,e',hs,ho,dc,hl,r⟩:=cr3
       cases e'
       have dd:=dc.of ho
       exact call_meetsIn Ý dd.typeIs Ņ (Ea _ _ _) (meets_dict_get_default (aR X.W.P X.W.w) ad (eP q2 ((r2.rb.st y3 I3).cr0 I3)) hs fv) ⟨_,dd.mapOf,Dn.at x3 I3 e3 (.old I3 .tok (mn (cG hl r) r3.rd))⟩
   | _=>rw [q] at e3;exact ZX e3 nb
  ·rw [ZY hd] at e1;exact ZX e1 nb)
theorem ub (ha:LE X eo a) (hb:LE X eb b) (m:M1 X eo "get" apos eb cpos):LE X (.Call (.Attribute eo "get" apos) [eb] [] cpos) (.get a b (.c .non)):=fun br z I nb=>
 Ù m.base m.few m.line ķ Ý ō ((ha true).go .refl I rfl nb fun z1 x u y1 x1 I1 r1 e1=>by
  by_cases hd:isDic (look z1.t.st x)=true
  ·rw [ZZ hd] at e1
   obtain ⟨ks,ds,ed⟩:=jS hd
   have cr:=r1.rb.cr I1
   rw [ed] at cr
   obtain ⟨ad,rfl,t1,t2⟩:=pH cr
   refine ⟨t1,t2,?_⟩
   rw [m.trees]
   refine ϫ rfl (ϰ (Η ((hb true).go x1 I1 e1 nb fun z3 y iv y3 x3 I3 r2 e3=>Ξ ?_)))
   have e3:X.ev br (.get a b (.c .non)) z.t=(match look z3.t.st x,bx y with
    | .dic ks ds,some k=>.ok ((b8 ks ds k).getD .non) z3.t
    | _,_=>.bad):=e3
   have cr3:=(r1.rb.st y3 I3).cr I3
   cases q:look z3.t.st x with
   | dic ks ds=>
     cases q2:bx y with
     | none=>rw [q,q2] at e3;exact ZX e3 nb
     | some k=>
       rw [q] at cr3
       rw [q,q2] at e3
       obtain ⟨ad',o,vs,e',hs,ho,dc,hl,r⟩:=cr3
       cases e'
       have dd:=dc.of ho
       exact call_meetsIn Ý dd.typeIs Ņ (PySem.F.args_dict_get_2 _ _) (meets_dict_get (aR X.W.P X.W.w) ad (eP q2 (r2.rb.cr0 I3)) hs) ⟨_,dd.mapOf,Dn.at x3 I3 e3 (.old I3 .tok (mn (cG hl r) rfl))⟩
   | _=>rw [q] at e3;exact ZX e3 nb
  ·rw [ZY hd] at e1;exact ZX e1 nb)
theorem uj {ad:Β} {t:List (ν×L2.Bk.Dk)} {j:Nat} {x:ν} (hg:Gl X x) (hm:X.mg x=some (.ref ad)) (ht:X.Γ.tb[j]? = some t) (hK:TbL X ad t) (hd:(x == ("__debug__":ν))=false) (hb:LE X eb b) (hc:LE X ec c) (m:M2 X (.Name x p) "get" apos eb ec cpos):LE X (.Call (.Attribute (.Name x p) "get" apos) [eb,ec] [] cpos) (.tget j b c):=fun br z I nb=>
 Ù m.base m.few m.line ķ Ý ō (bz I hg hm (by
  obtain ⟨_,o1,_,_,ho1,hc1,_⟩:=id (jz I.toHR hK)
  refine ⟨⟨o1,ho1,hc1.1⟩,fun b q=>(by cases q;exact ⟨o1,ho1,hc1.2.1⟩),?_⟩
  rw [m.trees]
  refine ϫ rfl (ϰ (Η ((hb true).go .refl I rfl nb fun z2 y iv y2 x2 I2 r2 e2=>Η ((hc false).go x2 I2 e2 nb fun z3 w fv y3 x3 I3 r3 e3=>Ξ ?_))))
  rw [ht] at e3
  cases y with
  | str k=>
    obtain ⟨tz,rfl⟩:=(r2.rb.cr0 I2:RD X.W z2.ρ z2.G (.str k) iv)
    have T:=jz I3.toHR hK
    have ty':z3.s.TypeIs (.ref ad) "dict":=by obtain ⟨_,o,_,_,ho,hc,_⟩:=T;exact ⟨o,ho,hc.1⟩
    have nsm:=T.1
    have e3:X.ev br (.tget j b c) z.t = .ok (((Ò k t).map toD).getD w) z3.t:=e3
    refine Ñ Ý ty' Ņ ?_ (Ea _ _ _)
    show Α _ _ (E2 ad (.str k tz) >>= _) _ _ z3.s
    cases hat:Ò k t with
    | some d=>
      rw [hat] at e3
      exact ε (kY T hat fun v hv=>θ ⟨v,rfl,Dn.at x3 I3 e3 (.old I3 .tok (I3.toHR.top hv))⟩)
    | none=>
      rw [hat] at e3
      refine ε (mo T hat ?_)
      show Α _ _ (HF ad (.str k tz) >>= _) _ _ _
      exact ε (wpAny_missed_other nsm (θ ⟨fv,rfl,Dn.at x3 I3 e3 (.old I3 .tok r3.rd)⟩))
  | _=>exact ZX e3 nb) hd)
theorem gJ:∀ {l ss vs},dJ l=some ss→RDs W ρ G l vs→StrsAre vs ss
 | [],ss,vs,e,r=>by cases e;cases (show vs = [] from r);exact .nil
 | d :: l,ss,vs,e,r=>by
   cases d with
   | str b=>
     obtain ⟨cs,q,rfl⟩:=ω.mp (show (dJ l).map (b :: ·)=some ss from e)
     obtain ⟨v,r',rfl,⟨t,rfl⟩,tl⟩:=r
     exact .cons b t (gJ q tl)
   | _=>cases e
theorem ue {x:ν} (ha:LE X ea a) (m:M1 X (.Constant (.str x) j p) "join" apos ea cpos):LE X (.Call (.Attribute (.Constant (.str x) j p) "join" apos) [ea] [] cpos) (.join x a):=fun br z I nb=>
 Ù m.base m.few m.line PySem.F.plainAttrs_str PySem.F.slot_str_join PySem.F.type_str_join (à (by
  refine ⟨Gx _ _ _,(fun b q=>by cases q),?_⟩
  rw [m.trees]
  have g:Gr z.s { z.s with toks:=z.s.toks+1 }:=.tok
  refine ϫ rfl (ϰ (Η ((ha true).go (z:=z) (z1:={ z with s:={ z.s with toks:=z.s.toks+1 } }) (ak I.gh g).ee (I.grow (ak I.gh g)) rfl nb fun z1 d u y1 x1 I1 r1 e1=>Ξ (cv x1 I1 e1 nb fun d2 e=>?_))))
  have cr:=r1.rb.cr I1
  revert e cr
  generalize look z1.t.st d=cc
  intro e cr
  cases cc with
  | lst l=>
    obtain ⟨ss,h1,h2⟩:=Ϗ.mp (show ((dJ l).bind fun ss=>if x.length≤64∧(ss.map (·.length)).sum≤100000∧ss.length≤1000 then some (D.str (Txt.join x ss)) else none)=some d2 from e)
    obtain ⟨c,rfl⟩:=aN h2
    obtain ⟨ad,o,vs,rfl,ho,⟨⟨n,rfl⟩,hz⟩,w⟩:=cr
    refine join_list (ys:=ss) (show z1.s.heap.IsList ad vs.toArray from ⟨_,ho,rfl,n,rfl⟩) (by simpa using gJ h1 w) ?_ fun t' k=>.tok fun _ _ _=>⟨_,rfl⟩
    have:=GN c.2.2 c.1
    omega
  | _=>cases e))
theorem xX {x y:ν} (hx:x.length≤1000) (hy:y.length≤1000) (ha:LE X ea a):LE X (.JoinedStr [.Constant (.str x) j1 p1,.FormattedValue ea (-1) none p2,.Constant (.str y) j2 p3] pos) (.fmt x a y):=fun br z I nb=>by
 have l0:ė.length=0:=rfl
 have sz:∀ n,n≤200000→n≤Ϛ:=fun n h=>Ϣ h (by decide)
 have g:Gr z.s { z.s with toks:=z.s.toks+1 }:=.tok
 refine Hs ?_
 show Α _ _ (eval (.Constant (.str x) j1 p1) X.env) _ _ _
 refine à ⟨x,_,rfl,sz _ (by rw [Ϻ,l0];omega),?_⟩
 show Α _ _ (eval (.FormattedValue ea (-1) none p2) X.env) _ _ _
 refine G6 ((ha true).go (z:=z) (z1:={ z with s:={ z.s with toks:=z.s.toks+1 } }) (ak I.gh g).ee (I.grow (ak I.gh g)) rfl nb fun z1 d u y1 x1 I1 r1 e1=>?_)
 cases d with
 | str k=>
   obtain ⟨tk,rfl⟩:=(r1.rb.cr0 I1:RD X.W z1.ρ z1.G (.str k) u)
   cases q:xj x (.str k) y with
   | none=>rw [q] at e1;exact ZX e1 nb
   | some d2=>
     rw [q] at e1
     obtain ⟨c,rfl⟩:=aN (show (if x.length≤1000∧k.length≤100000∧y.length≤1000 then some (D.str (((ė ++ x) ++ k) ++ y)) else none)=some d2 from q)
     have fin:∀ n tt,∃ k' t',Value.str k tt = .str k' t'∧((ė ++ x) ++ k').length≤Ϛ∧Joins X.M X.A (Px X z (X.ev br (.fmt x a y) z.t)) (evalEach [.Constant (.str y) j2 p3] X.env) ((ė ++ x) ++ k') (fun out s₁=>out.length≤Ϛ∧Pe X z (X.ev br (.fmt x a y) z.t) (RV X.W br (.fmt x a y)) (.str out s₁.toks) { s₁ with toks:=s₁.toks+1 }) { z1.s with toks:=n }:=fun n tt=>⟨k,tt,rfl,sz _ (by rw [Ϻ,Ϻ,l0];omega),by
      show Α _ _ (eval (.Constant (.str y) j2 p3) X.env) _ _ _
      exact à ⟨y,_,rfl,sz _ (by rw [Ϻ,Ϻ,Ϻ,l0];omega),sz _ (by rw [Ϻ,Ϻ,Ϻ,l0];omega),Dn.at x1 I1 e1 (.tok fun _ _ _=>⟨_,rfl⟩)⟩⟩
     exact wpAny_formatField_str (fin z1.s.toks tk) (fin _ _) (sz _ (by omega))
 | _=>exact ZX e1 nb
end
theorem lN:EH (.type "list_reverseiterator") "__len__" = pure none:=by rw [Ht,FN];kernel_rfl
theorem rO:EH (.type "list_reverseiterator") "__length_hint__" = pure (some (.builtin "list_reverseiterator.__length_hint__")):=by rw [Ht,FN];kernel_rfl
section
variable {prog:ϴ} {w:Û} {A:ώ} {E:ζ→ξ→Prop} {s:ξ}
theorem tH {R:Result→ξ→Prop} {r l S:Β} {xs:Array ζ} {c0:Nat} {res:ζ} (hh:A.handled=none) (hn:xs.size≤Ϛ) (g:s.heap.IsRevIter r l ((xs.size:Int) - 1)) (gl:s.heap.IsList l xs) (ne:l≠r)
 (hS:s.heap.get? S=some { cls:=.type "list",data:=.seq #[] c0 }) (n1:S≠r) (n2:S≠l)
 (q:∀ h1 tk acc c1,(∀ b o,b≠S→b≠r→s.heap.get? b=some o→h1.get? b=some o)→h1.get? S=some { cls:=.type "list",dict:=none,data:=.seq acc c1,slots:=#[] }→ItemsOf (fun i v=>xs[xs.size - 1 - i]? = some v) acc xs.size→R (.ok (.ret res)) { s with heap:=h1,toks:=tk }) :
 Α (model prog w) A.in1 (ñ (.ref S) (.ref r) res)
  (fun fin s1=>match fin with | .done f=>R (.ok f) s1 | .again c1=>c1.quiet=true∧Ĵ (model prog w) A c1 R s1) (fun e s1=>R (.error e) s1) s:=by
 have ty:=g.typeIs
 unfold ñ
 refine ε (DV ty ?_)
 have a1:Dq (.ref S) (.ref r)=false:=by simp [Dq,n1]
 have a2:(ą "list_reverseiterator" == ą "list")=false:=by decide
 have a3:(ą "list_reverseiterator" == ą "tuple")=false:=by decide
 simp only [a1,a2,a3,ľ,ã,if_false]
 refine ε (wpAny_pyIter_revIter g (ε (ϊ ?_)))
 unfold HD
 refine ε (ů ty lN ?_)
 show Α _ A.in1 (specialOf (Ϡ r) (ϧ "__length_hint__") >>= fun _=>_) _ _ _
 refine ε (ů ty rO ?_)
 have W:=(Walks.listRev (prog:=prog) (w:=w) (A:=A.in1) hh r l ne xs).toS
 have nS:S ∉ [r,l]:=by simp [n1,n2]
 have sp:splitId "list_reverseiterator.__length_hint__" = some ("list_reverseiterator","__length_hint__"):=by decide +kernel
 dsimp only
 simp only [sp]
 refine ε (Hc (T:="list_reverseiterator") (b:=true) ty (by rw [isSubtype_type];kernel_rfl) ?_)
 refine Ű (fun z=>ZX z (by decide)) fun _=>?_
 refine Ű (fun _=>?_) (fun z=>ZX (by decide +kernel) z)
 refine Ű (fun z=>ZX z (by decide +kernel)) fun _=>θ ?_
 refine Ű (fun z=>ZX z (by decide +kernel)) fun _=>?_
 refine θ ⟨ŗ F.plain_extend_loop _,codeAny_extend_loopS W hn S nS res xs.size 0 _ _ _ rfl (ϲ _) ⟨ϲ _,by simpa using g,gl⟩ hS (ItemsOf.nil _) fun s1 acc c1 hm hS1 hacc=>?_⟩
 rw [Moved.eq_with hm]
 refine q s1.heap s1.toks acc c1 (fun b o z1 z2 e=>hm.heap b o (fun z=>?_) e) hS1 hacc
 rcases π.mp z with z | z
 ·exact z1 z
 ·exact z2 (η.mp z)
theorem iR {r l:Β} {xs:Array ζ} {Q:ζ→ξ→Prop} (hh:A.handled=none) (hn:xs.size≤Ϛ) (g:s.heap.IsRevIter r l ((xs.size:Int) - 1)) (gl:s.heap.IsList l xs) (ne:l≠r)
 (q:∀ h1 tk acc c1,(∀ b o,b≠r→s.heap.get? b=some o→h1.get? b=some o)→h1.get? s.heap.objs.size=some { cls:=.type "list",dict:=none,data:=.seq acc c1,slots:=#[] }→ItemsOf (fun i v=>xs[xs.size - 1 - i]? = some v) acc xs.size →
  Q (.ref s.heap.objs.size) { s with heap:=h1,toks:=tk }):Α (model prog w) A (call (.type "list") [.ref r]) Q E s:=by
 refine callType_codes (Q₁:=fun obj s1=>obj = .ref s.heap.objs.size∧s1={ s with heap:=s.heap.push { cls:=.type "list",data:=.seq #[] } }) F.called_list (F.typeCall_list_1 _) F.entry_list_init (code_list_new _ ⟨rfl,rfl⟩) fun obj s1 z=>?_
 obtain ⟨e,e'⟩:=z
 subst e e'
 have hS:(s.heap.push { cls:=.type "list",data:=.seq #[] }).get? s.heap.objs.size=some { cls:=.type "list",data:=.seq #[] }:=ψ _ rfl
 have rlt:r<s.heap.objs.size:=by obtain ⟨_,e,_⟩:=g;exact Ο e
 have llt:l<s.heap.objs.size:=by obtain ⟨_,e,_⟩:=gl;exact Ο e
 refine ⟨⟨_,hS,rfl⟩,F.args_list_init_2 _ _,?_⟩
 show Α _ _ (do let old ← DG (.ref s.heap.objs.size);HB (.ref s.heap.objs.size) (fun _=>#[]);letGo old.toList.reverse;ñ (.ref s.heap.objs.size) (.ref r) .none) _ _ _
 refine ε ?_
 unfold DG
 refine ε (Õ hS rfl (θ ?_))
 show Α _ _ (He s.heap.objs.size (fun _=>#[]) >>= fun _=>letGo (#[]:Array ζ).toList.reverse >>= fun _=>ñ (.ref s.heap.objs.size) (.ref r) .none) _ _ _
 refine ε (ĭ hS rfl (ε (Ĥ ?_)))
 have oth:∀ b o,s.heap.get? b=some o→((s.heap.push { cls:=.type "list",data:=.seq #[] }).update s.heap.objs.size (ì (fun _=>(#[]:Array ζ)))).get? b=some o:=fun b o e=>
  (ύ _ _ (Æ (Ο e))).trans (ο _ e)
 refine tH (A:=A.in1) hh hn (g.at fun o e=>oth r o e) (gl.at fun o e=>oth l o e) ne (ϡ (ì (fun _=>(#[]:Array ζ))) hS rfl) (Æ rlt) (Æ llt) fun h1 tk acc c1 k1 k2 k3=>⟨rfl,?_⟩
 exact q h1 tk acc c1 (fun b o n1 e=>k1 b o (ϛ (Ο e)) n1 (oth b o e)) k2 k3
end
section
variable {X:Cx} {z z1:Z}
theorem n9 {us:List ζ} {acc:Array ζ} (h:ItemsOf (fun i v=>us.toArray[us.toArray.size - 1 - i]? = some v) acc us.toArray.size):acc.toList=us.reverse:=by
 obtain ⟨h1,h2⟩:=h
 refine List.ext_getElem (by simpa using h1) fun i l1 l2=>?_
 have k:=h2 i acc[i] (Ĳ (by simpa using l1))
 have l3:i<us.length:=by simpa using l2
 rw [List.getElem_reverse]
 have k':us[us.length - 1 - i]? = some acc[i]:=by simpa using k
 rw [Θ (by omega)] at k'
 simpa using (Ϧ k').symm
theorem yh {p1 p2 pos pos2:ϭ} (hc:X.calm=true) (g1:Blt X "list" (.type "list")) (g2:Blt X "reversed" (.type "reversed")) (ha:LE X ea a) (hs:Ε [ea] X.env=(false,eval ea X.env) :: Ε [] X.env) (hs2:Ε [.Call (.Name "reversed" p2) [ea] [] pos2] X.env=(false,eval (.Call (.Name "reversed" p2) [ea] [] pos2) X.env) :: Ε [] X.env):LF X (.Call (.Name "list" p1) [.Call (.Name "reversed" p2) [ea] [] pos2] [] pos) (.bi .rev (.cons a .nil)):=fun z I nb=>
 bt (.inr ⟨_,rfl⟩) g1 hs2 rfl I (Η (bt (.inr ⟨_,rfl⟩) g2 hs rfl I (Η ((ha true).go .refl I (ev1 fun l s=>Out.of s (biD .rev (l.map (look s.st)))) nb fun z1 x u y1 x1 I1 r1 e1=>Ξ (by
  have cr:=r1.rb.cr I1
  have e1:X.ev false (.bi .rev (.cons a .nil)) z.t=Out.of z1.t (gU .rev (look z1.t.st x)):=e1
  revert e1 cr
  generalize look z1.t.st x=cc
  intro cr e1
  cases cc with
  | lst l=>
    obtain ⟨ad,o,vs,rfl,ho,⟨⟨n,rfl⟩,hz⟩,r⟩:=cr
    have pl:z1.s.heap.IsList ad vs.toArray:=⟨_,ho,rfl,n,rfl⟩
    refine call_reversed_list pl (Ξ ?_)
    refine iR (I1.hd hc) (by simp;omega) ⟨_,ψ _ rfl,rfl,rfl⟩ (pl.at fun o e=>ο _ e) (ϛ (Ο ho)) fun h1 tk acc c1 k1 k2 k3=>?_
    have w:=n9 k3
    have nn:z1.h (z1.s.heap.push (revObj ad ((vs.toArray.size:Int) - 1))).objs.size=none:=ϗ (by rw [ϵ];exact Þ _)
    obtain ⟨z2,d,q1,q2,y,I2,fv⟩:=(Dw.lst (X:=X) (z:=z1) (s':={ z1.s with heap:=h1,toks:=tk }) (k:=c1) r.rev (.hp fun b o e=>k1 b o (ϛ (Ο e)) (ο _ e)) nn (by show h1.get? _=_;rw [k2,← w]) (by rw [List.length_reverse];exact hz)).pe I1
    exact ⟨z2,d,q1,e1.trans q2,x1.trans y,I2,fv.less x1⟩
  | _=>exact ZX e1 nb)))))
end
structure Zd where
 it:Β
 fp:List Β
 n:Nat
 P:Nat→ζ→Prop
 St:Nat→ϳ→Prop
abbrev IsT (h:ϳ) (T:Β) (l:List ζ):Prop:=h.get? T=some { cls:=.type "tuple",data:=.seq l.toArray }
structure ZOk (prog:ϴ) (w:Û) (A:ώ) (n:Nat) (l:List Zd) (z TI TO:Β):Prop where
 dr:∀ d∈l,Fq prog w A d.it d.fp d.n d.P d.St∧n≤d.n∧d.it∈d.fp∧z ∉ d.fp∧TO ∉ d.fp∧TI≠d.it
 ap:∀ (i j:Nat) (d e:Zd),l[i]? = some d→l[j]? = some e→i≠j→d.it ∉ e.fp
 hd:∃ d r,l=d :: r∧d.n=n
 zT:z≠TI∧z≠TO∧TI≠TO
 sz:l.length≤Ϛ
section
variable {prog:ϴ} {w:Û} {A:ώ} {E:ζ→ξ→Prop} {s:ξ} {n i:Nat} {l:List Zd} {z TI TO:Β} {old:List ζ}
theorem vC {Q:ζ→ξ→Prop} (D:ZOk prog w A n l z TI TO) (hz:D3 s.heap z TI TO .none) (hTI:IsT s.heap TI (l.map fun d=>.ref d.it)) (hTO:IsT s.heap TO old) (hl:old.length=l.length) (hi:i<n) (st:∀ d∈l,d.St i s.heap)
 (hQ:∀ h' tk vals,D3 h' z TI TO (Ö s.heap.objs.size)→IsT h' TO vals→vals.length=l.length→(∀ d∈l,d.St (i+1) h')→(∀ (j:Nat) (d:Zd) v,l[j]? = some d→vals[j]? = some v→d.P i v)→IsT h' s.heap.objs.size vals→h'.objs.size=s.heap.objs.size+1 →
  (∀ b o,b≠z→b≠TO→(∀ d∈l,b≠d.it)→s.heap.get? b=some o→h'.get? b=some o)→Q (.ref s.heap.objs.size) { s with heap:=h',toks:=tk }) :
 Α (model prog w) A (ŕ.«zip.__next__» ⟨[.ref z],[]⟩) (fun fin s'=>∃ v,fin = .done (.ret v)∧Q v s') E s:=by
 have ne:((l.map fun d=>Ϡ d.it).toArray.isEmpty)=false:=by obtain ⟨d,r,rfl,_⟩:=D.hd;simp
 show Α _ _ (field (.ref z) 2 >>= _) _ _ _;refine ε (ϙ hz rfl (x:=.bool false) rfl ?_)
 show Α _ _ (field (.ref z) 3 >>= _) _ _ _;refine ε (ϙ hz rfl (x:=.ref TI) rfl ?_)
 refine ε (Õ hTI rfl ?_)
 simp only [ne]
 show Α _ _ (Ì (.ref z) >>= _) _ _ _
 refine ε ?_;unfold Ì;refine ε (ϙ hz rfl (x:=.none) rfl (θ ?_));simp only [if_true]
 refine ε (DH ?_);refine ε (ϙ hz rfl (x:=.ref TO) rfl ?_);refine ε (č hz (by simp) fun h₁ hz₁ hs₁=>?_)
 replace hz₁:D3 h₁ z TI TO .ellipsis:=hz₁
 refine ε ?_
 refine wpAny_forIn_list _ (fun rem r s'=>r=⟨none,()⟩∧∃ h tk vals,s'={ s with heap:=h,toks:=tk }∧rem=((l.drop vals.length).map fun d=>Ϡ d.it).zipIdx vals.length∧vals.length≤l.length∧D3 h z TI TO .ellipsis∧IsT h TO (vals ++ old.drop vals.length)∧(∀ (j:Nat) (d:Zd),l[j]? = some d→d.St (if j<vals.length then i+1 else i) h)∧(∀ (j:Nat) (d:Zd) v,l[j]? = some d→vals[j]? = some v→d.P i v)∧h.objs.size=s.heap.objs.size∧(∀ b o,b≠z→b≠TO→(∀ d∈l,b≠d.it)→s.heap.get? b=some o→h.get? b=some o)) _ (fun x rem r s' hI=>?_) (fun r s' hI=>?_) _ _ ⟨rfl,h₁,s.toks,[],rfl,?_,ϲ _,hz₁,?_,fun j d e=>?_,fun j d v _ e=>by simp at e,hs₁.1,fun b o h _ _ e=>hs₁.extBut _ _ h e⟩
 ·obtain ⟨rfl,h,tk,vals,rfl,er,hv,gz,gT,gS,gP,gs,gk⟩:=hI
  cases q:l.drop vals.length with
  | nil=>rw [q] at er;cases er
  | cons d r=>
    rw [q,Î,FQ] at er
    cases er
    have hd:l[vals.length]? = some d:=by have:=ż (xs:=l) (i:=vals.length) (j:=0);rw [q] at this;simpa using this.symm
    have hlt:=(ς.mp hd).1
    obtain ⟨dw,dn,di,dz,dT,dI⟩:=D.dr d (φ hd)
    refine ε (EU ?_);show Α _ _ (Ϲ (.ref d.it) >>= _) _ _ _
    have g0:=gS _ d hd
    rw [ZY (Ĝ _)] at g0
    refine ε (dw.item i _ _ _ (Í hi dn) g0 fun x h2 tk2 hP hst hs2=>θ ?_)
    replace hs2:õ d.it h h2:=hs2
    have zi:z≠d.it:=fun e=>dz (e ▸ di)
    have Ti:TO≠d.it:=fun e=>dT (e ▸ di)
    have gT2:IsT h2 TO (vals ++ old.drop vals.length):=hs2.extBut _ _ Ti gT
    refine ε (Õ gT2 rfl ?_);have hsz:(vals ++ old.drop vals.length).length≤Ϛ:=by have:=D.sz;rw [υ,DD];omega
    refine ε (ĭ gT2 rfl ?_ (by simpa using hsz) (by simpa using Dx hsz))
    refine ε (Ĥ (θ ⟨rfl,h2.update TO _,tk2,vals ++ [x],rfl,?_,?_,?_,?_,fun j e he=>?_,fun j e v he hv'=>?_,?_,fun b o b1 b2 b3 e=>?_⟩))
    ·rw [υ,ό,← List.drop_drop,q];rfl
    ·rw [υ,ό];exact hlt
    ·exact (ç ..).extBut _ _ D.zT.2.1 (hs2.extBut _ _ zi gz)
    ·show (h2.update TO _).get? TO=_
     rw [ϡ _ gT2 rfl]
     have ho:vals.length<old.length:=by omega
     have e4:(vals ++ old.drop vals.length).set vals.length x=vals ++ [x] ++ old.drop (vals ++ [x]).length:=by
      rw [List.set_append_right _ _ (Ψ _),Ħ,υ,ό,ĳ ho,List.set_cons_zero,Č];rfl
     rw [← e4]
     simp [ì]
    ·obtain ⟨ew,en,ei,ez,eT,eI⟩:=D.dr e (φ he)
     have fr:∀ {f:Er→Er},∀ b∈e.fp,∀ o,h2.get? b=some o→(h2.update TO f).get? b=some o:=fun b hb o q=>(ç ..).extBut _ _ (fun w=>eT (w ▸ hb)) q
     rw [υ,ό]
     by_cases c:j=vals.length
     ·subst c
      rw [hd] at he;cases he
      rw [ZZ (DO _)]
      exact dw.frame _ _ _ hst fr
     ·have g1:=gS j e he
      have hne:=D.ap _ _ _ _ hd he (Ϥ c)
      have:(if j<vals.length+1 then i+1 else i)=(if j<vals.length then i+1 else i):=by
       by_cases c2:j<vals.length
       ·rw [ZZ c2,ZZ (by omega)]
       ·rw [ZY c2,ZY (by omega)]
      rw [this]
      exact ew.frame _ _ _ (ew.frame _ _ _ g1 fun b hb o q=>hs2.extBut _ _ (fun w=>hne (w ▸ hb)) q) fr
    ·by_cases c:j<vals.length
     ·rw [Χ c] at hv'
      exact gP j e v he hv'
     ·rw [Μ (by omega)] at hv'
      have:j - vals.length=0:=by
       have:=(ς.mp hv').1
       simp at this;omega
      rw [this] at hv'
      cases hv'
      have:j=vals.length:=by omega
      subst this
      rw [hd] at he;cases he;exact hP
    ·exact (ç h2 TO _).1.trans (hs2.1.trans gs)
    ·exact (ç ..).extBut _ _ b2 (hs2.extBut _ _ (b3 d (φ hd)) (gk b o b1 b2 b3 e))
 ·obtain ⟨rfl,h,tk,vals,rfl,er,hv,gz,gT,gS,gP,gs,gk⟩:=hI
  have el:vals.length=l.length:=by
   have:=ZS ES er
   simp at this;omega
  rw [el,← hl,ŉ,Ω] at gT
  show Α _ _ (D7 (.ref TO) >>= _) _ _ _
  refine ε (Õ gT rfl ?_);refine ε (wpAny_newTuple ?_ (by have:=D.sz;simpa using (show vals.length≤Ϛ by omega)))
  have hzlt:z<h.objs.size:=Ο gz
  show Α _ _ (Ĭ (.ref z) (.ref h.objs.size) >>= _) _ _ _
  refine ε ?_;unfold Ĭ
  have hz₈:D3 (h.push { cls:=.type "tuple",data:=.seq vals.toArray }) z TI TO .ellipsis:=ο _ gz
  refine ε (č hz₈ (by simp) fun h₉ hz₉ hs₉=>?_)
  replace hz₉:D3 h₉ z TI TO (Ö h.objs.size):=hz₉
  refine č hz₉ (by simp) fun hA hzA hsA=>?_
  replace hzA:D3 hA z TI TO (Ö h.objs.size):=hzA
  have up:∀ d o,d≠z→h.get? d=some o→hA.get? d=some o:=fun d o c1 e=>hsA.extBut _ _ c1 (hs₉.extBut _ _ c1 (ο _ e))
  have hTA:IsT hA h.objs.size vals:=hsA.extBut _ _ (Æ hzlt) (hs₉.extBut _ _ (Æ hzlt) (ψ _ rfl))
  have hzA8:hA.objs.size=h.objs.size+1:=by rw [hsA.1,hs₉.1,ϵ]
  refine θ ⟨_,rfl,?_⟩
  show Q (.ref h.objs.size) _
  rw [gs] at hzA hTA hzA8 ⊢
  refine hQ hA tk vals hzA (up _ _ (Ϥ D.zT.2.1) gT) el (fun d hd=>?_) gP hTA hzA8 fun b o b1 b2 b3 e=>up b o b1 (gk b o b1 b2 b3 e)
  obtain ⟨j,hj⟩:=Ë.mp hd
  have g1:=gS j d hj
  rw [ZZ (by rw [el];exact (ς.mp hj).1)] at g1
  obtain ⟨dw,_,_,dz,_⟩:=D.dr d hd
  exact dw.frame _ _ _ g1 fun b hb o q=>up b o (fun w=>dz (w ▸ hb)) q
 ·simp
 ·rw [DT,ϯ,ī];exact hs₁.extBut _ _ (Ϥ D.zT.2.1) hTO
 ·obtain ⟨dw,_,_,dz,_⟩:=D.dr d (φ e)
  rw [ϯ,ZY (ŝ _)]
  exact dw.frame _ _ _ (st d (φ e)) fun b hb o q=>hs₁.extBut _ _ (fun w=>dz (w ▸ hb)) q
theorem zM {Q:Fin→ξ→Prop} (D:ZOk prog w A n l z TI TO) (hz:D3 s.heap z TI TO .none) (hTI:IsT s.heap TI (l.map fun d=>.ref d.it)) (st:∀ d∈l,d.St n s.heap)
 (hE:∀ h' e,(∀ b o,b≠z→(∀ d∈l,b≠d.it)→s.heap.get? b=some o→h'.get? b=some o)→(∃ o,h'.get? e=some o∧o.cls = .type "StopIteration")→E (.ref e) { s with heap:=h' }) :
 Α (model prog w) A (ŕ.«zip.__next__» ⟨[.ref z],[]⟩) Q E s:=by
 obtain ⟨d,r,rfl,hn⟩:=D.hd
 obtain ⟨dw,dn,di,dz,dT,dI⟩:=D.dr d ι
 show Α _ _ (field (.ref z) 2 >>= _) _ _ _;refine ε (ϙ hz rfl (x:=.bool false) rfl ?_)
 show Α _ _ (field (.ref z) 3 >>= _) _ _ _;refine ε (ϙ hz rfl (x:=.ref TI) rfl ?_)
 refine ε (Õ hTI rfl ?_)
 simp only [show (((d :: r).map fun d=>Ϡ d.it).toArray.isEmpty)=false by simp]
 show Α _ _ (Ì (.ref z) >>= _) _ _ _
 refine ε ?_;unfold Ì;refine ε (ϙ hz rfl (x:=.none) rfl (θ ?_));simp only [if_true]
 refine ε (DH ?_);refine ε (ϙ hz rfl (x:=.ref TO) rfl ?_);refine ε (č hz (by simp) fun h₁ hz₁ hs₁=>?_)
 replace hz₁:D3 h₁ z TI TO .ellipsis:=hz₁
 refine ε ?_;simp only [Î,FQ,ğ]
 refine ε (ε (EU ?_));show Α _ _ (Ϲ (.ref d.it) >>= _) _ _ _
 have s1:d.St d.n h₁:=by rw [hn];exact dw.frame _ _ _ (st d ι) fun b hb o q=>hs₁.extBut _ _ (fun w=>dz (w ▸ hb)) q
 refine ε (dw.done _ _ _ s1 fun h₂ e hs₂ he=>?_)
 obtain ⟨oe,hoe,hce⟩:=he
 have zi:z≠d.it:=fun e=>dz (e ▸ di)
 have hz₂:D3 h₂ z TI TO .ellipsis:=hs₂ _ _ zi hz₁
 have hez:e≠z:=fun x=>by subst x;rw [hz₂] at hoe;cases hoe;simp at hce
 exact č hz₂ (by simp) fun h₃ _ hs₃=>hE h₃ e (fun b o c1 c3 x=>hs₃.extBut _ _ c1 (hs₂ _ _ (c3 d ι) (hs₁.extBut _ _ c1 x))) ⟨oe,hs₃.extBut _ _ hez hoe,hce⟩
theorem oW (D:ZOk prog w A.in1 n l z TI TO):EJ prog w A z (z :: TI :: TO :: l.flatMap (·.fp)) (z :: TO :: l.map (·.it)) n
 (fun i vals=>∃ vs:List ζ,vals=vs.toArray∧vs.length=l.length∧∀ (j:Nat) (d:Zd) v,l[j]? = some d→vs[j]? = some v→d.P i v)
 (fun i h=>D3 h z TI TO .none∧IsT h TI (l.map fun d=>.ref d.it)∧(∃ vs,IsT h TO vs∧vs.length=l.length)∧∀ d∈l,d.St i h)
 (fun i T h=>(D3 h z TI TO (Ö T)∧IsT h TI (l.map fun d=>.ref d.it)∧(∃ vs,IsT h TO vs∧vs.length=l.length)∧(∀ d∈l,d.St (i+1) h)∧T≠z∧T≠TO∧∀ d∈l,T≠d.it)∧Exa h T) where
 sub:=fun b hb=>by
  rcases π.mp hb with rfl | hb
  ·exact ι
  rcases π.mp hb with rfl | hb
  ·exact κ _ (κ _ ι)
  obtain ⟨d,hd,rfl⟩:=ë.mp hb
  exact κ _ (κ _ (κ _ (À.mpr ⟨d,hd,(D.dr d hd).2.2.1⟩)))
 frame:=fun i h h' ⟨h1,h2,⟨vs,h3,h4⟩,h5⟩ hk=>⟨hk z (by simp) _ h1,hk TI (by simp) _ h2,⟨vs,hk TO (by simp) _ h3,h4⟩,fun d hd=>(D.dr d hd).1.frame _ _ _ (h5 d hd) fun b hb o e=>hk b (κ _ (κ _ (κ _ (À.mpr ⟨d,hd,hb⟩)))) o e⟩
 item:=fun i s Q E hi ⟨h1,h2,⟨vs,h3,h4⟩,h5⟩ hQ=>by
  have hT:s.TypeIs (.ref z) "zip":=⟨_,h1,rfl⟩
  unfold Eh
  refine ε (EV (Ã (name:=ϧ "__next__") hT ŧ (Ñ ŧ hT GR (vC D h1 h2 h3 h4 hi h5 fun h' tk vals a1 a2 a3 a4 a5 a6 a7 a8=>θ ?_) (Gp _))))
  have lt:∀ {c o},s.heap.get? c=some o→s.heap.objs.size≠c:=fun e=>Æ (Ο e)
  refine hQ s.heap.objs.size vals.toArray h' tk ⟨vals,rfl,a3,a5⟩ (Ψ _) ⟨_,a6,rfl,_,rfl⟩ ⟨⟨a1,a8 _ _ (Ϥ D.zT.1) D.zT.2.2 (fun d hd=>(D.dr d hd).2.2.2.2.2) h2,⟨vals,a2,a3⟩,a4,lt h1,lt h3,fun d hd=>?_⟩,fun o q=>(by rw [a6] at q;cases q;rfl)⟩ fun b o hb e=>a8 b o (fun w=>hb (w ▸ ι)) (fun w=>hb (w ▸ κ _ ι)) (fun d hd w=>hb (w ▸ κ _ (κ _ (ë.mpr ⟨d,hd,rfl⟩)))) e
  obtain ⟨o,e⟩:=(D.dr d hd).1.live i _ (h5 d hd)
  exact lt e
 go:=fun elts k pos i T s Q E ⟨⟨h1,h2,⟨vs,h3,h4⟩,h5,t1,t2,t3⟩,_⟩ hQ=>wpAny_letOwnedTupleGo_zip h1 fun h' hz' hs'=>hQ h' ⟨hz',hs'.extBut _ _ (Ϥ D.zT.1) h2,⟨vs,hs'.extBut _ _ (Ϥ D.zT.2.1) h3,h4⟩,fun d hd=>(D.dr d hd).1.frame _ _ _ (h5 d hd) fun b hb o e=>hs'.extBut _ _ (fun w=>(D.dr d hd).2.2.2.1 (w ▸ hb)) e⟩ fun b o hb e=>hs'.extBut _ _ (fun w=>hb (w ▸ ι)) e
 apart:=fun i T h ⟨⟨_,_,_,_,t1,t2,t3⟩,_⟩ hT=>by
  rcases π.mp hT with w | hT
  ·exact t1 w
  rcases π.mp hT with w | hT
  ·exact t2 w
  obtain ⟨d,hd,w⟩:=ë.mp hT
  exact t3 d hd w.symm
 done:=fun s Q E ⟨h1,h2,_,h5⟩ hQ=>by
  have hT:s.TypeIs (.ref z) "zip":=⟨_,h1,rfl⟩
  unfold Eh
  refine ε (EV (Ã (name:=ϧ "__next__") hT ŧ (Ñ ŧ hT GR (zM D h1 h2 h5 fun h' e hk he=>?_) (Gp _))))
  obtain ⟨o,ho,hc⟩:=he
  refine ε (Hc (T:="StopIteration") (b:=true) ⟨o,ho,hc⟩ isSubtype_stop ?_)
  exact θ (hQ h' s.toks fun b o hb e=>hk b o (fun w=>hb (w ▸ ι)) (fun d hd w=>hb (w ▸ κ _ (κ _ (ë.mpr ⟨d,hd,rfl⟩)))) e)
 self:=fun i s Q E hst hQ=>Ha hst.1 hQ
end
end L2.Ev
end
section
namespace PySem
namespace F
theorem z3_typeCall (a b c):checkTypeCall "zip" ⟨[a,b,c],[]⟩=pure ():=by kernel_rfl
theorem z3_newCall (a b c):š "zip.__new__" ⟨[.type "zip",a,b,c],[]⟩=pure ():=by kernel_rfl
theorem z3_args_init (a b c d):Fx "object.__init__" ⟨[a,b,c,d],[]⟩:=by
 unfold Fx;rw [signature?_of (id:="object.__init__") (n:=['_','_','t','i','n','i','_','_']) (o:=['t','c','e','j','b','o']) (by kernel_rfl) owner_object];kernel_rfl
end F
section
variable {prog:ϴ} {w:Û} {A:ώ} {E:ζ→ξ→Prop} {s:ξ}
theorem fA (hit:s.heap.IsTupleIter it t i) (ht:s.heap.IsTuple t items) (hx:items[i]? = some x)
 (hQ:∀ h',h'.IsTupleIter it t (i+1)→õ it s.heap h'→Q x { s with heap:=h' }):Α (model prog w) A (Ϲ (.ref it)) Q E s:=by
 obtain ⟨o,ho,hc,hd⟩:=id hit
 obtain ⟨ol,hol,_,nl,hdl⟩:=ht
 unfold Ϲ
 refine ε (Ã (name:=ϧ "__next__") hit.typeIs ā (Ñ ā hit.typeIs Es ?_ (El _)))
 show Α _ _ (field (.ref it) 0 >>= _) _ _ s;refine ε (ϙ ho hd (x:=.ref t) rfl ?_)
 show Α _ _ (if (Ϡ t == Value.none)=true then _ else _) _ _ s;rw [ZY (show ¬ ((Ϡ t == Value.none)=true) from ϝ)]
 show Α _ _ (field (.ref it) 1 >>= _) _ _ s;refine ε (ϙ ho hd (x:=.int i 0) rfl ?_)
 show Α _ _ (D7 (.ref t) >>= _) _ _ s;refine ε (Õ hol hdl ?_);simp only [Dy,hx]
 refine ε (Ĕ ho hd (by simp) (θ ⟨x,rfl,θ (hQ _ ?_ (ç ..))⟩))
 exact ⟨_,ϡ _ ho (û (ö hd _)),(Du ..).trans hc,by rw [ö hd];simp [Ö]⟩
theorem gM (hh:A.handled=none) (hit:s.heap.IsTupleIter it t i) (ht:s.heap.IsTuple t items) (hx:items[i]? = none)
 (hE:∀ h' e,Hl it s.heap h'→(∃ o,h'.get? e=some o∧o.cls = .type "StopIteration")→E (.ref e) { s with heap:=h' }):Α (model prog w) A (Ϲ (.ref it)) Q E s:=by
 obtain ⟨o,ho,hc,hd⟩:=id hit
 obtain ⟨ol,hol,_,nl,hdl⟩:=ht
 unfold Ϲ
 refine ε (Ã (name:=ϧ "__next__") hit.typeIs ā (Ñ ā hit.typeIs Es ?_ (El _)))
 show Α _ _ (field (.ref it) 0 >>= _) _ _ s;refine ε (ϙ ho hd (x:=.ref t) rfl ?_)
 show Α _ _ (if (Ϡ t == Value.none)=true then _ else _) _ _ s;rw [ZY (show ¬ ((Ϡ t == Value.none)=true) from ϝ)]
 show Α _ _ (field (.ref it) 1 >>= _) _ _ s;refine ε (ϙ ho hd (x:=.int i 0) rfl ?_)
 show Α _ _ (D7 (.ref t) >>= _) _ _ s;refine ε (Õ hol hdl ?_);simp only [Dy,hx]
 refine ε (DH (ε (Ĕ ho hd (by simp) ?_)));show Α _ _ (newExc (.type "StopIteration") [] >>= _) _ _ _
 refine ε ?_;simp only [newExc,newTuple];refine ε (Ê ?_ (by size_fits))
 refine ε (m:=firstArgMember _ _) (Ep (a:=Value.none) (by first | rfl | (simp only [firstArgMember];rfl)) ?_);refine Ê ?_ (by size_fits)
 simp only [raiseNew];refine ε (wpAny_handled ?_);first | rw [show A.in1.handled=none from hh] | rw [hh]
 refine ε (θ (wpAny_throw ?_));exact hE _ _ (((ç ..).extBut.push _).push _) ⟨_,ψ _ rfl,rfl⟩
end
end PySem
namespace L2.Ev
theorem eZ {prog:ϴ} {w:Û} {A:ώ} (hh:A.handled=none) (it l:Β) (hne:l≠it) (items:Array ζ) :
 Fq prog w A it [it,l] items.size (fun i v=>items[i]? = some v) (fun i h=>h.IsTupleIter it l i∧h.IsTuple l items) where
 live:=fun _ _ st=>let ⟨o,ho,_⟩:=st.1;⟨o,ho⟩
 frame:=fun _ _ _ st hk=>⟨st.1.at fun o e=>hk it (by simp) o e,st.2.at fun o e=>hk l (by simp) o e⟩
 item:=fun i s Q E hi st hQ=>fA st.1 st.2 (x:=items[i]) (by simp [hi]) fun h' hit' hs'=>hQ _ h' s.toks (by simp [hi]) ⟨hit',st.2.extBut hs'.extBut hne⟩ hs'
 done:=fun s Q E st hE=>gM hh st.1 st.2 (by simp) hE
def bZ (h:ϳ) (k:Bool) (a:Β) (xs:Array ζ):Prop:=(k=true∧h.IsTuple a xs)∨(k=false∧h.IsList a xs)
def itN:Bool→String
 | true=>"tuple_iterator"
 | false=>"list_iterator"
abbrev itO (k:Bool) (a:Β):Er:={ cls:=.type (itN k),data:=.fields #[.ref a,.int 0 0] }
section
variable {prog:ϴ} {w:Û} {A:ώ} {E:ζ→ξ→Prop} {s:ξ} {k k1 k2 k3:Bool} {a a1 a2 a3:Β} {xs ys zs:Array ζ}
theorem bZ.push (h:bZ h0 k a xs) (o:Er):bZ (h0.push o) k a xs:=h.imp (fun ⟨e,q⟩=>⟨e,Heap.IsTuple.push q o⟩) fun ⟨e,q⟩=>⟨e,Heap.IsList.push q o⟩
theorem dS {Q:ζ→ξ→Prop} (h:bZ s.heap k a xs) (q:Q (.ref s.heap.objs.size) { s with heap:=s.heap.push (itO k a) }):Α (model prog w) A (ũ (.ref a)) Q E s:=by
 rcases h with ⟨rfl,h⟩ | ⟨rfl,h⟩
 ·exact Ď h q
 ·exact ĕ h q
theorem sJ (k1 k2:Bool) (a1 a2:Β) (xs ys:Array ζ) :
 H6 (ŕ.«zip.__new__» ⟨[.type "zip",.ref a1,.ref a2],[]⟩) (fun _ R s=>bZ s.heap k1 a1 xs∧bZ s.heap k2 a2 ys ∧
  R (.ok (.ret (.ref (((((s.heap.push (itO k1 a1)).push (itO k2 a2)).push { cls:=.type "tuple",data:=.seq #[.ref s.heap.objs.size,.ref (s.heap.push (itO k1 a1)).objs.size] }).push { cls:=.type "tuple",data:=.seq #[.none,.none] })).objs.size)))
    { s with heap:=(((((s.heap.push (itO k1 a1)).push (itO k2 a2)).push { cls:=.type "tuple",data:=.seq #[.ref s.heap.objs.size,.ref (s.heap.push (itO k1 a1)).objs.size] }).push { cls:=.type "tuple",data:=.seq #[.none,.none] }).push { cls:=.type "zip",data:=.fields #[.none,.bool false,.bool false,.ref ((s.heap.push (itO k1 a1)).push (itO k2 a2)).objs.size,.ref (((s.heap.push (itO k1 a1)).push (itO k2 a2)).push { cls:=.type "tuple",data:=.seq #[.ref s.heap.objs.size,.ref (s.heap.push (itO k1 a1)).objs.size] }).objs.size] }) }):=
 .of_wp fun prog w A R s h=>by
  obtain ⟨hp,g,d,tk,os⟩:=s;obtain ⟨h1,h2,h⟩:=h
  have hsub:=sub_zip
  have L1:bZ (Ŝ ⟨hp,g,d,tk,os⟩) k1 a1 xs:=h1
  have L2:bZ (Ŝ ⟨hp.push (itO k1 a1),g,d,tk,os⟩) k2 a2 ys:=h2.push _
  wp_walk using dS L1,dS L2
  exact ⟨_,rfl,h⟩
abbrev zH2 (h:ϳ) (k1 k2:Bool) (a1 a2:Β):ϳ:=((h.push (itO k1 a1)).push (itO k2 a2))
theorem sK (k1 k2 k3:Bool) (a1 a2 a3:Β) (xs ys zs:Array ζ) :
 H6 (ŕ.«zip.__new__» ⟨[.type "zip",.ref a1,.ref a2,.ref a3],[]⟩) (fun _ R s=>bZ s.heap k1 a1 xs∧bZ s.heap k2 a2 ys∧bZ s.heap k3 a3 zs ∧
  R (.ok (.ret (.ref (((((zH2 s.heap k1 k2 a1 a2).push (itO k3 a3)).push { cls:=.type "tuple",data:=.seq #[.ref s.heap.objs.size,.ref (s.heap.push (itO k1 a1)).objs.size,.ref (zH2 s.heap k1 k2 a1 a2).objs.size] }).push { cls:=.type "tuple",data:=.seq #[.none,.none,.none] })).objs.size)))
    { s with heap:=(((((zH2 s.heap k1 k2 a1 a2).push (itO k3 a3)).push { cls:=.type "tuple",data:=.seq #[.ref s.heap.objs.size,.ref (s.heap.push (itO k1 a1)).objs.size,.ref (zH2 s.heap k1 k2 a1 a2).objs.size] }).push { cls:=.type "tuple",data:=.seq #[.none,.none,.none] }).push { cls:=.type "zip",data:=.fields #[.none,.bool false,.bool false,.ref ((zH2 s.heap k1 k2 a1 a2).push (itO k3 a3)).objs.size,.ref (((zH2 s.heap k1 k2 a1 a2).push (itO k3 a3)).push { cls:=.type "tuple",data:=.seq #[.ref s.heap.objs.size,.ref (s.heap.push (itO k1 a1)).objs.size,.ref (zH2 s.heap k1 k2 a1 a2).objs.size] }).objs.size] }) }):=
 .of_wp fun prog w A R s h=>by
  obtain ⟨hp,g,d,tk,os⟩:=s;obtain ⟨h1,h2,h3,h⟩:=h
  have hsub:=sub_zip
  have L1:bZ (Ŝ ⟨hp,g,d,tk,os⟩) k1 a1 xs:=h1
  have L2:bZ (Ŝ ⟨hp.push (itO k1 a1),g,d,tk,os⟩) k2 a2 ys:=h2.push _
  have L3:bZ (Ŝ ⟨(hp.push (itO k1 a1)).push (itO k2 a2),g,d,tk,os⟩) k3 a3 zs:=(h3.push _).push _
  wp_walk using dS L1,dS L2,dS L3
  exact ⟨_,rfl,h⟩
def psh (h:ϳ):List Er→ϳ
 | []=>h
 | o :: r=>psh (h.push o) r
theorem dj:∀ {l:List Er} {h:ϳ} {b o},h.get? b=some o→(psh h l).get? b=some o
 | [],_,_,_,e=>e
 | a :: r,h,_,_,e=>dj (l:=r) (h:=h.push a) (ο _ e)
theorem bS:∀ {l:List Er} {h:ϳ} {j:Nat} {o:Er},l[j]? = some o→o.isFreed=false→(psh h l).get? (h.objs.size+j)=some o
 | [],_,_,_,e,_=>by simp at e
 | a :: r,h,0,o,e,q=>by simp at e;subst e;exact dj (l:=r) (h:=h.push a) (ψ _ q)
 | a :: r,h,j+1,o,e,q=>by
   have:=bS (h:=h.push a) (j:=j) (l:=r) (by simpa using e) q
   rw [ϵ] at this
   rw [show h.objs.size+(j+1)=h.objs.size+1+j by omega];exact this
theorem nN {Q:ζ→ξ→Prop} (h1:bZ s.heap k1 a1 xs) (h2:bZ s.heap k2 a2 ys)
 (h:∀ h',h'=psh s.heap [itO k1 a1,itO k2 a2,{ cls:=.type "tuple",data:=.seq #[.ref s.heap.objs.size,.ref (s.heap.objs.size+1)] },{ cls:=.type "tuple",data:=.seq #[.none,.none] },{ cls:=.type "zip",data:=.fields #[.none,.bool false,.bool false,.ref (s.heap.objs.size+2),.ref (s.heap.objs.size+3)] }]→Q (.ref (s.heap.objs.size+4)) { s with heap:=h' }) :
 Α (model prog w) A (call (.type "zip") [.ref a1,.ref a2]) Q E s:=by
 refine callType_new F.called_zip (by decide) (F.typeCall_zip_2 _ _) (F.newCall_zip_2 _ _) (fun obj=>F.args_object_init_3 obj _ _) H8 (sJ k1 k2 a1 a2 xs ys) ⟨h1,h2,?_⟩
 have z1:=@ϵ
 show _∧_
 simp only [ϵ]
 exact ⟨⟨_,by rw [show s.heap.objs.size+4=(((((s.heap.push (itO k1 a1)).push (itO k2 a2)).push { cls:=.type "tuple",data:=.seq #[.ref s.heap.objs.size,.ref (s.heap.objs.size+1)] }).push { cls:=.type "tuple",data:=.seq #[.none,.none] })).objs.size by simp only [ϵ]];exact ψ _ rfl,rfl⟩,h _ rfl⟩
end
section
variable {prog:ϴ} {w:Û} {A:ώ} {E:ζ→ξ→Prop} {s:ξ} {k k1 k2 k3:Bool} {a a1 a2 a3:Β} {xs ys zs:Array ζ}
theorem nP {Q:ζ→ξ→Prop} (h1:bZ s.heap k1 a1 xs) (h2:bZ s.heap k2 a2 ys) (h3:bZ s.heap k3 a3 zs)
 (h:∀ h',h'=psh s.heap [itO k1 a1,itO k2 a2,itO k3 a3,{ cls:=.type "tuple",data:=.seq #[.ref s.heap.objs.size,.ref (s.heap.objs.size+1),.ref (s.heap.objs.size+2)] },{ cls:=.type "tuple",data:=.seq #[.none,.none,.none] },{ cls:=.type "zip",data:=.fields #[.none,.bool false,.bool false,.ref (s.heap.objs.size+3),.ref (s.heap.objs.size+4)] }]→Q (.ref (s.heap.objs.size+5)) { s with heap:=h' }) :
 Α (model prog w) A (call (.type "zip") [.ref a1,.ref a2,.ref a3]) Q E s:=by
 refine callType_new F.called_zip (by decide) (F.z3_typeCall _ _ _) (F.z3_newCall _ _ _) (fun obj=>F.z3_args_init obj _ _ _) H8 (sK k1 k2 k3 a1 a2 a3 xs ys zs) ⟨h1,h2,h3,?_⟩
 show _∧_
 simp only [ϵ]
 exact ⟨⟨_,bS (j:=5) (h:=s.heap) (l:=[itO k1 a1,itO k2 a2,itO k3 a3,{ cls:=.type "tuple",data:=.seq #[.ref s.heap.objs.size,.ref (s.heap.objs.size+1),.ref (s.heap.objs.size+2)] },{ cls:=.type "tuple",data:=.seq #[.none,.none,.none] },{ cls:=.type "zip",data:=.fields #[.none,.bool false,.bool false,.ref (s.heap.objs.size+3),.ref (s.heap.objs.size+4)] }]) rfl rfl,rfl⟩,h _ rfl⟩
def zd (k:Bool) (it a:Β) (xs:Array ζ):Zd:=⟨it,[it,a],xs.size,fun i v=>xs[i]? = some v,fun i h=>(if k then h.IsTupleIter it a i else h.IsListIter it a i)∧if k then h.IsTuple a xs else h.IsList a xs⟩
theorem kC (hh:A.handled=none) (k:Bool) (it a:Β) (hne:a≠it) (xs:Array ζ):Fq prog w A it [it,a] xs.size (zd k it a xs).P (zd k it a xs).St:=by
 cases k
 ·exact Hm hh it a hne xs
 ·exact eZ hh it a hne xs
theorem kD {h:ϳ} (e:h.get? it=some (itO k a)) (q:bZ h k a xs):(zd k it a xs).St 0 h:=by
 rcases q with ⟨rfl,q⟩ | ⟨rfl,q⟩
 ·exact ⟨⟨_,e,rfl,rfl⟩,q⟩
 ·exact ⟨⟨_,e,rfl,rfl⟩,q⟩
end
theorem lne (n j a:Nat) (ha:a<n):a≠n+j:=by omega
theorem nh:∀ {l m:List D} {i:Nat},(eW l m)[i]? = (l[i]?).bind fun a=>(m[i]?).map fun b=>.tup [a,b]
 | [],_,_=>by simp [eW]
 | a :: r,[],i=>by simp [eW]
 | a :: r,b :: q,0=>by simp [eW]
 | a :: r,b :: q,i+1=>by rw [eW,Á,nh];rfl
theorem kE:∀ {l m:List D},l.length≤m.length→(eW l m).length=l.length
 | [],_,_=>by simp [eW]
 | a :: r,[],h=>by simp at h
 | a :: r,b :: q,h=>by rw [eW,Ι,kE (by simpa using h),Ι]
theorem nk:∀ {l m n:List D} {i:Nat},(cy l m n)[i]? = (l[i]?).bind fun a=>(m[i]?).bind fun b=>(n[i]?).map fun c=>.tup [a,b,c]
 | [],_,_,_=>by simp [cy]
 | a :: r,[],_,i=>by simp [cy]
 | a :: r,b :: q,[],i=>by simp [cy]
 | a :: r,b :: q,c :: p,0=>by simp [cy]
 | a :: r,b :: q,c :: p,i+1=>by rw [cy,Á,nk];rfl
theorem kF:∀ {l m n:List D},l.length≤m.length→l.length≤n.length→(cy l m n).length=l.length
 | [],_,_,_,_=>by simp [cy]
 | a :: r,[],_,h,_=>by simp at h
 | a :: r,b :: q,[],_,h=>by simp at h
 | a :: r,b :: q,c :: p,h,h'=>by rw [cy,Ι,kF (by simpa using h) (by simpa using h'),Ι]
section
variable {X:Cx} {z z' z0 z1:Z} {tg:Κ}
theorem RDs.v {i:Nat} {d:D} {v:ζ} (r:RDs W ρ G l vs) (e:l[i]? = some d) (q:vs.toArray[i]? = some v):RD W ρ G d v:=by
 obtain ⟨v',w1,w2⟩:=r.get e
 rw [show vs[i]? = some v by simpa using q] at w1;cases w1;exact w2
theorem kj {x:D} (I:Rep X z) (h:RD X.W z.ρ z.G x u) (e:sqL x=some l):∃ k a vs,u = .ref a∧(∃ o,z.G a=some o)∧bZ z.s.heap k a vs.toArray∧RDs X.W z.ρ z.G l vs:=by
 cases x with
 | lst m=>cases e;obtain ⟨a,o,vs,rfl,g,⟨⟨n,rfl⟩,_⟩,r⟩:=h;exact ⟨false,a,vs,rfl,⟨_,g⟩,.inr ⟨rfl,_,I.gh _ _ g,rfl,n,rfl⟩,r⟩
 | tup m=>cases e;obtain ⟨a,o,vs,rfl,g,⟨tc,⟨n,td⟩,_⟩,r⟩:=h;exact ⟨true,a,vs,rfl,⟨_,g⟩,.inl ⟨rfl,_,I.gh _ _ g,tc,n,td⟩,r⟩
 | _=>cases e
theorem bZ.psh (q:bZ h k a xs):bZ (psh h l) k a xs:=q.imp (fun ⟨e,q⟩=>⟨e,q.at fun o e=>dj e⟩) fun ⟨e,q⟩=>⟨e,q.at fun o e=>dj e⟩
theorem sI {es:List Κ} {k:Nat} {tp:ϭ} {ds:List D} {n:Nat} {l:List Zd} {zz TI TO:Β} {h':ϳ} {o:Out D} (hc:X.calm=true) (x:Ee X z z1) (I:Rep X z1) (kp:∀ b o,z1.s.heap.get? b=some o→h'.get? b=some o)
 (D:∀ A,A.handled=none→ZOk X.W.P X.W.w A n l zz TI TO) (hz:D3 h' zz TI TO .none) (hTI:IsT h' TI (l.map fun d=>.ref d.it)) (hTO:∃ vs,IsT h' TO vs∧vs.length=l.length) (st:∀ d∈l,d.St 0 h') (hn:ds.length=n) (nw:∀ b,b=zz∨b=TI∨b=TO→z1.h b=none)
 (fp:∀ d∈l,∃ a,d.fp = [d.it,a]∧z1.h d.it=none∧∃ o,z1.G a=some o)
 (hP:∀ i d (vs:List ζ),vs.length=l.length→(∀ (j:Nat) (d:Zd) v,l[j]? = some d→vs[j]? = some v→d.P i v)→ds[i]? = some d→∃ l,d = .tup l∧∀ ρ' G',z1.ρ <+: ρ'→Sub z1.G G'→RDs X.W ρ' G' l vs) (e:o = .ok (.lst ds) z1.t) :
 Α X.M X.A (ũ (.ref zz)) (FI X z (.Tuple es k tp) o) NoE { z1.s with heap:=h' }:=by
 refine Ha hz (e9 (ds:=ds) x I (s2:={ z1.s with heap:=h' }) (.hp (t:=z1.s.toks) kp) (Itr.walksT (I.hd hc) hn (fun A hA=>oW (D A.in1 hA)) (fun i h st b hb=>?_) (fun _ _ _ m=>m.2) fun i vals d p1 p2=>?_) ⟨hz,hTI,hTO,st⟩ (fun b hb=>?_) e)
 ·obtain ⟨w1,w2,⟨_,w3,_⟩,w4⟩:=st
  rcases π.mp hb with rfl | hb
  ·exact ⟨_,w1⟩
  rcases π.mp hb with rfl | hb
  ·exact ⟨_,w3⟩
  obtain ⟨d,hd,rfl⟩:=ë.mp hb
  exact ((D œ rfl).dr d hd).1.live _ _ (w4 d hd)
 ·obtain ⟨vs,rfl,hl,hv⟩:=p1
  obtain ⟨l',q1,q2⟩:=hP i d vs hl hv p2
  refine ⟨by have:=(D œ rfl).sz;simpa using (show vs.length≤Ϛ by omega),l',q1,fun ρ' G' h1 h2=>q2 ρ' G' h1 h2⟩
 ·have old:∀ {c},z1.h c=none→∀ {o},z1.G c=some o→False:=fun n o q=>by rw [I.gh _ _ q] at n;cases n
  rcases π.mp hb with rfl | hb
  ·exact .inl ⟨nw _ (.inl rfl),_,hz⟩
  rcases π.mp hb with rfl | hb
  ·exact .inl ⟨nw _ (.inr (.inl rfl)),_,hTI⟩
  rcases π.mp hb with rfl | hb
  ·obtain ⟨_,w,_⟩:=hTO;exact .inl ⟨nw _ (.inr (.inr rfl)),_,w⟩
  obtain ⟨d,hd,hb⟩:=À.mp hb
  obtain ⟨a,f1,f2,o,f3⟩:=fp d hd
  rw [f1] at hb
  rcases π.mp hb with rfl | hb
  ·exact .inl ⟨f2,((D œ rfl).dr d hd).1.live _ _ (st d hd)⟩
  ·cases η.mp hb
   refine .inr ⟨fun m=>?_,o,f3⟩
   rcases π.mp m with rfl | m
   ·exact old (nw _ (.inl rfl)) f3
   rcases π.mp m with rfl | m
   ·exact old (nw _ (.inr (.inr rfl))) f3
   obtain ⟨d',hd',rfl⟩:=ë.mp m
   obtain ⟨_,_,f5,_⟩:=fp d' hd'
   exact old f5 f3
theorem ev3 (f:List D→Sta→Out β):(X.evs br (.cons a (.cons b (.cons c .nil))) t).bind f=(X.ev br a t).bind fun x s=>(X.ev br b s).bind fun y s=>(X.ev br c s).bind fun w s=>f [x,y,w] s:=by
 show ((X.ev br a t).bind fun x s=>(X.evs br (.cons b (.cons c .nil)) s).bind fun l s=>Out.ok (x :: l) s).bind f=_
 rw [au];congr 1;funext x s;rw [au,ev2];rfl
theorem uu {es:List Κ} {k:Nat} {tp:ϭ} (hc:X.calm=true) (hx:Blt X "zip" (.type "zip")) (ha:LE X ea a) (hb:LE X eb b) (he:Ε [ea,eb] X.env=(false,eval ea X.env) :: Ε [eb] X.env) (he2:Ε [eb] X.env=(false,eval eb X.env) :: Ε [] X.env):LI X (.Tuple es k tp) (.Call (.Name "zip" p) [ea,eb] [] pos) (.it .zip2 (.cons a (.cons b .nil))):=fun z I nb=>
 bt (Q:=fun v s1=>Α X.M X.A (ũ v) (FI X z (.Tuple es k tp) (X.ev false (.it .zip2 (.cons a (.cons b .nil))) z.t)) NoE s1) (.inr ⟨_,rfl⟩) hx he (by rw [he2];rfl) I (by
  rw [he2]
  exact Η ((ha false).go .refl I (ev2 fun l s=>Out.of s ((itD .zip2 l).map D.lst)) nb fun z1 x u y1 x1 I1 r1 e1=>Η ((hb false).go x1 I1 e1 nb fun z2 y v y2 x2 I2 r2 e2=>Ξ (by
   have e2:X.ev false (.it .zip2 (.cons a (.cons b .nil))) z.t=Out.of z2.t ((match sqL x,sqL y with | some l,some m=>if l.length≤m.length then some (eW l m) else none | _,_=>none).map D.lst):=e2
   cases q1:sqL x with
   | none=>rw [q1] at e2;exact ZX e2 nb
   | some l=>
     cases q2:sqL y with
     | none=>rw [q1,q2] at e2;exact ZX e2 nb
     | some m=>
       rw [q1,q2] at e2
       by_cases c:l.length≤m.length
       ·have e2:X.ev false (.it .zip2 (.cons a (.cons b .nil))) z.t = .ok (.lst (eW l m)) z2.t:=by rw [e2];simp only [ZZ c];rfl
        obtain ⟨k1,a1,vs,rfl,⟨o1,g1⟩,s1,w1⟩:=kj I2 (r1.rd.st y2.st) q1
        obtain ⟨k2,a2,us,rfl,⟨o2,g2⟩,s2,w2⟩:=kj I2 r2.rd q2
        have l1:=Ο (I2.gh _ _ g1)
        have l2:=Ο (I2.gh _ _ g2)
        refine nN s1 s2 fun h' hh=>?_
        have N:∀ j,z2.h (z2.s.heap.objs.size+j)=none:=fun j=>fV (DP ..)
        have e1:=w1.len
        have e3:=w2.len
        refine sI (ds:=eW l m) (n:=vs.toArray.size) (l:=[zd k1 z2.s.heap.objs.size a1 vs.toArray,zd k2 (z2.s.heap.objs.size+1) a2 us.toArray]) hc x2 I2 (fun b o e=>hh ▸ dj e) (fun A hA=>⟨fun d hd=>?_,fun i j d e hi hj ne=>?_,⟨_,_,rfl,rfl⟩,⟨?_,?_,?_⟩,by rw [Ą];exact τ rfl⟩) (hh ▸ bS (j:=4) rfl rfl) (hh ▸ bS (j:=2) rfl rfl) ⟨[.none,.none],hh ▸ bS (j:=3) rfl rfl,rfl⟩ (fun d hd=>?_) (by rw [kE c,e1];simp) (fun b hb=>by rcases hb with rfl | rfl | rfl <;> exact N _) (fun d hd=>?_) (fun i d ws hl hv hd=>?_) e2
        ·simp only [π,ÿ,or_false] at hd
         rcases hd with rfl | rfl
         ·exact ⟨kC hA _ _ _ (ϛ l1) _,Ψ _,ι,nin _ 4 0 _ (by decide) l1,nin _ 3 0 _ (by decide) l1,by simp [zd]⟩
         ·exact ⟨kC hA _ _ _ (lne _ 1 _ l2) _,by simp [zd];omega,ι,nin _ 4 1 _ (by decide) l2,nin _ 3 1 _ (by decide) l2,by simp [zd]⟩
        ·match i,j,hi,hj,ne with
         | 0,0,_,_,ne=>exact ZX rfl ne
         | 0,1,hi,hj,_=>cases hi;cases hj;exact nin _ 0 1 _ (by decide) l2
         | 1,0,hi,hj,_=>cases hi;cases hj;exact nin _ 1 0 _ (by decide) l1
         | 1,1,_,_,ne=>exact ZX rfl ne
         | i+2,_,hi,_,_=>simp at hi
         | _,j+2,_,hj,_=>simp at hj
        ·simp
        ·simp
        ·simp
        ·simp only [π,ÿ,or_false] at hd
         rcases hd with rfl | rfl
         ·exact kD (hh ▸ bS (j:=0) rfl rfl) (hh ▸ s1.psh)
         ·exact kD (hh ▸ bS (j:=1) rfl rfl) (hh ▸ s2.psh)
        ·simp only [π,ÿ,or_false] at hd
         rcases hd with rfl | rfl
         ·exact ⟨a1,rfl,N 0,_,g1⟩
         ·exact ⟨a2,rfl,N 1,_,g2⟩
        ·rw [nh] at hd
         obtain ⟨da,w3,hd⟩:=Ϗ.mp hd
         obtain ⟨db,w4,rfl⟩:=ω.mp hd
         match ws,hl,hv with
         | [va,vb],_,hv=>exact ⟨_,rfl,fun ρ' G' h1 h2=>.cons ((w1.mono h1 h2).v w3 (hv 0 _ va rfl rfl)) (.cons ((w2.mono h1 h2).v w4 (hv 1 _ vb rfl rfl)) rfl)⟩
       ·simp only [ZY c] at e2;exact ZX e2 nb))))
theorem uv {es:List Κ} {k:Nat} {tp:ϭ} (hc:X.calm=true) (hx:Blt X "zip" (.type "zip")) (ha:LE X ea a) (hb:LE X eb b) (hd:LE X ec c) (he:Ε [ea,eb,ec] X.env=(false,eval ea X.env) :: Ε [eb,ec] X.env) (he2:Ε [eb,ec] X.env=(false,eval eb X.env) :: Ε [ec] X.env) (he3:Ε [ec] X.env=(false,eval ec X.env) :: Ε [] X.env):LI X (.Tuple es k tp) (.Call (.Name "zip" p) [ea,eb,ec] [] pos) (.it .zip3 (.cons a (.cons b (.cons c .nil)))):=fun z I nb=>
 bt (Q:=fun v s1=>Α X.M X.A (ũ v) (FI X z (.Tuple es k tp) (X.ev false (.it .zip3 (.cons a (.cons b (.cons c .nil)))) z.t)) NoE s1) (.inr ⟨_,rfl⟩) hx he (by rw [he2,he3];rfl) I (by
  rw [he2,he3]
  exact Η ((ha false).go .refl I (ev3 fun l s=>Out.of s ((itD .zip3 l).map D.lst)) nb fun z0 x0 u0 y0 x0' I0 r0 e0=>Η ((hb false).go x0' I0 e0 nb fun z1 x u y1 x1 I1 r1 e1=>Η ((hd false).go x1 I1 e1 nb fun z2 y v y2 x2 I2 r2 e2=>Ξ (by
   have e2:X.ev false (.it .zip3 (.cons a (.cons b (.cons c .nil)))) z.t=Out.of z2.t ((match sqL x0,sqL x,sqL y with | some l,some m,some n=>if l.length≤m.length∧l.length≤n.length then some (cy l m n) else none | _,_,_=>none).map D.lst):=e2
   cases q1:sqL x0 with
   | none=>rw [q1] at e2;exact ZX e2 nb
   | some l=>
     cases q2:sqL x with
     | none=>rw [q1,q2] at e2;exact ZX e2 nb
     | some m=>
       cases q3:sqL y with
       | none=>rw [q1,q2,q3] at e2;exact ZX e2 nb
       | some n=>
         rw [q1,q2,q3] at e2
         by_cases cc:l.length≤m.length∧l.length≤n.length
         ·have e2:X.ev false (.it .zip3 (.cons a (.cons b (.cons c .nil)))) z.t = .ok (.lst (cy l m n)) z2.t:=by rw [e2];simp only [ZZ cc];rfl
          obtain ⟨k1,a1,vs,rfl,⟨o1,g1⟩,s1,w1⟩:=kj I2 ((r0.rd.st y1.st).st y2.st) q1
          obtain ⟨k2,a2,us,rfl,⟨o2,g2⟩,s2,w2⟩:=kj I2 (r1.rd.st y2.st) q2
          obtain ⟨k3,a3,ts,rfl,⟨o3,g3⟩,s3,w3⟩:=kj I2 r2.rd q3
          have l1:=Ο (I2.gh _ _ g1)
          have l2:=Ο (I2.gh _ _ g2)
          have l3:=Ο (I2.gh _ _ g3)
          refine nP s1 s2 s3 fun h' hh=>?_
          have N:∀ j,z2.h (z2.s.heap.objs.size+j)=none:=fun j=>fV (DP ..)
          have e1:=w1.len
          have e3:=w2.len
          have e4:=w3.len
          refine sI (ds:=cy l m n) (n:=vs.toArray.size) (l:=[zd k1 z2.s.heap.objs.size a1 vs.toArray,zd k2 (z2.s.heap.objs.size+1) a2 us.toArray,zd k3 (z2.s.heap.objs.size+2) a3 ts.toArray]) hc x2 I2 (fun b o e=>hh ▸ dj e) (fun A hA=>⟨fun d hd=>?_,fun i j d e hi hj ne=>?_,⟨_,_,rfl,rfl⟩,⟨?_,?_,?_⟩,by rw [Ą];exact τ rfl⟩) (hh ▸ bS (j:=5) rfl rfl) (hh ▸ bS (j:=3) rfl rfl) ⟨[.none,.none,.none],hh ▸ bS (j:=4) rfl rfl,rfl⟩ (fun d hd=>?_) (by rw [kF cc.1 cc.2,e1];simp) (fun b hb=>by rcases hb with rfl | rfl | rfl <;> exact N _) (fun d hd=>?_) (fun i d ws hl hv hd=>?_) e2
          ·simp only [π,ÿ,or_false] at hd
           rcases hd with rfl | rfl | rfl
           ·exact ⟨kC hA _ _ _ (ϛ l1) _,Ψ _,ι,nin _ 5 0 _ (by decide) l1,nin _ 4 0 _ (by decide) l1,by simp [zd]⟩
           ·exact ⟨kC hA _ _ _ (lne _ 1 _ l2) _,by simp [zd];omega,ι,nin _ 5 1 _ (by decide) l2,nin _ 4 1 _ (by decide) l2,by simp [zd]⟩
           ·exact ⟨kC hA _ _ _ (lne _ 2 _ l3) _,by simp [zd];omega,ι,nin _ 5 2 _ (by decide) l3,nin _ 4 2 _ (by decide) l3,by simp [zd]⟩
          ·have hl:∀ (i:Nat) (d:Zd),[zd k1 z2.s.heap.objs.size a1 vs.toArray,zd k2 (z2.s.heap.objs.size+1) a2 us.toArray,zd k3 (z2.s.heap.objs.size+2) a3 ts.toArray][i]? = some d→i<3∧d.it=z2.s.heap.objs.size+i∧∃ b:Nat,d.fp = [z2.s.heap.objs.size+i,b]∧b<z2.s.heap.objs.size:=fun i d h=>by
            match i,h with
            | 0,h=>cases h;exact ⟨by decide,rfl,a1,rfl,l1⟩
            | 1,h=>cases h;exact ⟨by decide,rfl,a2,rfl,l2⟩
            | 2,h=>cases h;exact ⟨by decide,rfl,a3,rfl,l3⟩
            | i+3,h=>simp at h
           obtain ⟨_,h1,_⟩:=hl i d hi
           obtain ⟨_,_,b,h2,h3⟩:=hl j e hj
           rw [h1,h2]
           exact nin _ i j b ne h3
          ·simp
          ·simp
          ·simp
          ·simp only [π,ÿ,or_false] at hd
           rcases hd with rfl | rfl | rfl
           ·exact kD (hh ▸ bS (j:=0) rfl rfl) (hh ▸ s1.psh)
           ·exact kD (hh ▸ bS (j:=1) rfl rfl) (hh ▸ s2.psh)
           ·exact kD (hh ▸ bS (j:=2) rfl rfl) (hh ▸ s3.psh)
          ·simp only [π,ÿ,or_false] at hd
           rcases hd with rfl | rfl | rfl
           ·exact ⟨a1,rfl,N 0,_,g1⟩
           ·exact ⟨a2,rfl,N 1,_,g2⟩
           ·exact ⟨a3,rfl,N 2,_,g3⟩
          ·rw [nk] at hd
           obtain ⟨da,p3,hd⟩:=Ϗ.mp hd
           obtain ⟨db,p4,hd⟩:=Ϗ.mp hd
           obtain ⟨dc,p5,rfl⟩:=ω.mp hd
           match ws,hl,hv with
           | [va,vb,vc],_,hv=>exact ⟨_,rfl,fun ρ' G' h1 h2=>.cons ((w1.mono h1 h2).v p3 (hv 0 _ va rfl rfl)) (.cons ((w2.mono h1 h2).v p4 (hv 1 _ vb rfl rfl)) (.cons ((w3.mono h1 h2).v p5 (hv 2 _ vc rfl rfl)) rfl))⟩
         ·simp only [ZY cc] at e2;exact ZX e2 nb)))))
end
theorem jR {M:EN} {A:ώ} {E:ζ→ξ→Prop} {s:ξ} {items:Array ζ} {x:ζ} {e:ζ→Bool} {Q:Option Hw×Unit→ξ→Prop} (he:∀ y∈items,∀ (E':ζ→ξ→Prop) (Q':Bool→ξ→Prop),Q' (e y) s→Α M A (eqBool y x) Q' E' s) {j:Nat} (hj:j<items.size) (hit:e items[j]=true)
 (hq:Q (some (.done (.ret (.int j s.toks))),()) { s with toks:=s.toks+1 }):∀ (k i:Nat),i+k=items.size→i≤j→(∀ m (hm:m<items.size),i≤m→m<j→e items[m]=false) →
 Α M A (forIn (DQ i k) ((none:Option Hw),()) fun (i:Nat) _=>match items[i]? with
  | some y=>do
    if ← eqBool y x then
     let r ← retInt (i:Nat)
     pure (ForInStep.done (some r,()))
    else pure (Ϫ (none,()))
  | _=>pure (Ϫ (none,()))) Q E s
 | 0,i,h1,h2,_=>by omega
 | k+1,i,h1,h2,hn=>by
   have hi:i<items.size:=by omega
   rw [List.range'_succ,ğ,Ĳ hi]
   refine ε (ε (he _ (Array.getElem_mem hi) _ _ ?_))
   by_cases z:i=j
   ·subst z
    rw [hit,ZZ rfl]
    refine ε ?_
    unfold retInt
    exact ε (wpAny_mkInt (θ (θ (θ hq))))
   ·rw [hn i hi (Ψ _) (by omega),ZY ϝ]
    exact θ (jR he hj hit hq k (i+1) (by omega) (by omega) fun m hm h3 h4=>hn m hm (by omega) h4)
theorem oS (l:Β) (items:Array ζ) (x:ζ) (e:ζ→Bool) (j:Nat) (hj:j<items.size) (hit:e items[j]=true) (hno:∀ m (hm:m<items.size),m<j→e items[m]=false) :
 H6 (ŕ.«tuple.index» ⟨[.ref l,x],[]⟩) (fun A R s=>s.heap.IsTuple l items∧(∀ y,y∈items→SeqAt.EqAt A.in1 s y x (e y))∧R (.ok (.ret (.int j s.toks))) { s with toks:=s.toks+1 }):=by
 intro prog w A R s h
 obtain ⟨ht,he,hq⟩:=h
 unfold ŕ.«tuple.index»
 refine ε (θ ?_)
 refine ε (EW ht ?_)
 refine ε (θ ?_)
 refine ε (θ ?_)
 dsimp only
 rw [Đ,Gi]
 have ez:D0 [:items.size]=items.size:=by simp [D0]
 rw [ez]
 refine ε (jR (e:=e) (fun y hy E' Q' q'=>he y hy prog w E' Q' q') hj hit ?_ items.size 0 (by omega) (by omega) fun m hm _ h4=>hno m hm h4)
 exact θ hq
section
variable {X:Cx} {z:Z}
theorem mY:∀ {us:List ζ} {ss:List ν} {i:Nat} {v:ζ},StrsAre us ss→us[i]? = some v→∃ y t,ss[i]? = some y∧v = .str y t
 | _,_,_,_,.nil,e=>by simp at e
 | _,_,0,v,.cons y t _,e=>by simp at e;subst e;exact ⟨y,t,rfl,rfl⟩
 | _,_,i+1,v,.cons _ _ r,e=>by
   obtain ⟨y,t,h1,h2⟩:=mY (i:=i) r (by simpa using e)
   exact ⟨y,t,by simpa using h1,h2⟩
def ixT (k:ν):ζ→Bool
 | .str y _=>y == k
 | _=>false
theorem qC (ha:LE X eo a) (hb:LE X eb b) (m:M1 X eo "index" apos eb cpos):LE X (.Call (.Attribute eo "index" apos) [eb] [] cpos) (.index a b):=fun br z I nb=>
 Ù m.base m.few m.line PySem.F.plainAttrs_tuple E5 PySem.F.type_tuple_index ((ha true).go .refl I rfl nb fun z1 x u y1 x1 I1 r1 e1=>by
  cases x with
  | tup l=>
    have e1:X.ev br (.index a b) z.t=(X.ev true b z1.t).bind fun y s=>.of s (xx (.tup l) y):=e1
    obtain ⟨p,o,vs,rfl,g,⟨tc,⟨n,td⟩,hz,tdi⟩,r⟩:=(r1.rb.cr0 I1:RD X.W z1.ρ z1.G (.tup l) u)
    refine ⟨⟨o,I1.gh _ _ g,tc⟩,fun b q=>(by cases q;exact ⟨o,I1.gh _ _ g,tdi⟩),?_⟩
    rw [m.trees]
    refine ϫ rfl (ϰ (Η ((hb true).go x1 I1 e1 nb fun z2 y v y2 x2 I2 r2 e2=>Ξ (cv x2 I2 e2 nb fun d q=>?_))))
    cases y with
    | str k=>
      obtain ⟨t,rfl⟩:=(r2.rb.cr0 I2:RD X.W z2.ρ z2.G (.str k) v)
      obtain ⟨ss,q1,q2⟩:=Ϗ.mp (show ((dJ l).bind fun ss=>(ss.findIdx? (· == k)).map fun (j:Nat)=>D.int j)=some d from q)
      obtain ⟨j,q3,rfl⟩:=ω.mp q2
      have sa:=gJ q1 (r.mono y2.st.pr y2.st.gg)
      obtain ⟨hj,hp,hn⟩:=List.findIdx?_eq_some_iff_getElem.mp q3
      have hl:vs.length=ss.length:=sa.length
      have at_:∀ m (hm:m<vs.toArray.size),∃ t,vs.toArray[m] = .str (ss[m]'(by simp at hm;omega)) t:=fun m hm=>by
       have hm':m<vs.length:=by simpa using hm
       obtain ⟨y,t,w1,w2⟩:=mY sa (Θ hm')
       rw [Θ (by omega)] at w1;cases w1
       exact ⟨t,by simpa using w2⟩
      refine DL E5 ⟨o,I2.gh _ _ (y2.st.gg _ _ g),tc⟩ PySem.F.entry_tuple_index (PySem.F.args_tuple_index_2 _ _) (oS p vs.toArray (.str k t) (ixT k) j (by simp;omega) ?_ fun m hm lt=>?_) ⟨⟨o,I2.gh _ _ (y2.st.gg _ _ g),tc,n,td⟩,fun y hy=>?_,.tok fun _ _ _=>⟨_,rfl⟩⟩
      ·obtain ⟨t',e'⟩:=at_ j (by simp;omega)
       rw [e'];exact hp
      ·obtain ⟨t',e'⟩:=at_ m hm
       rw [e'];exact ZU.mpr (by simpa using hn m lt)
      ·obtain ⟨m,hm,rfl⟩:=Array.mem_iff_getElem.mp hy
       obtain ⟨t',e'⟩:=at_ m hm
       rw [e']
       exact ((e3 I2.toHR 1 (d:=.str (ss[m]'(by simp at hm;omega))) (e:=.str k) (by rfl) (show CR X.W z2 (.str _) _ from ⟨_,rfl⟩) (show CR X.W z2 (.str k) _ from ⟨_,rfl⟩)).2 _ (by have:=I2.ok.un;show _+1+1+1<_;omega)).1
    | _=>cases q
  | _=>exact ZX e1 nb)
theorem uh {x:ν} {j:Nat} {cl:Cl} {i:CI} (F:bX X X.cal1 lv cl.init f) (hr:bq (lv+1) X.A) (M:Mk X.K i.ad f) (hcl:X.Γ.cl[j]? = some cl) (hw:cl.what=0) (hci:X.W.ci[j]? = some i) (hwh:X.W.what[j]? = some 0) (hg:Gl X x) (hm:X.mg x=some (.ref i.ad)) (hd:(x == ("__debug__":ν))=false):LE X (.Call (.Name x p) [] [] pos) (.new j .nil):=fun br z I nb=>
 è (bz I hg hm (EB I.toHR.kin M.kp (mV F hr M hcl hw hci hwh .refl I (l:=[]) (us:=[]) (es:=.nil) trivial rfl nb)) hd)
end
def cu (nm:List (ν×Δ)) (x:ν):Bool:=match nm.lookup x with
 | some .local=>true
 | some .cell=>true
 | some .free=>true
 | _=>false
def bN (nm:List (ν×Δ)) (x:ν):Bool:=nm.lookup x == some .globalImplicit
def aV:Κ→Bool
 | .Call (.Name id _) [] [] _=>id != "super"
 | _=>true
theorem af (h:aE e=true):Ε (e :: es) env=(false,eval e env) :: Ε es env:=by
 cases e <;> first | rfl | cases h
theorem gB (h:aE e=true):iN e:=by
 cases e <;> first | (intro o i;rfl) | cases h
theorem gm (h:aE e=true):ð op e=false:=by
 cases e <;> first | rfl | cases h
theorem iB (h:aE e=true):∀ x,E1 e env x=pure x:=by
 cases e <;> first | (intro x;rfl) | cases h
theorem bF (h:∀ e∈es,aE e=true):(ϻ pos (Ε es env)).any (·.1)=false:=by
 induction es with
 | nil=>rfl
 | cons e r ih=>
   rw [af (h e ι)]
   have:=ih fun x hx=>h x (κ _ hx)
   show (false || (ϻ pos (Ε r env)).any (·.1))=false
   rw [this];rfl
theorem bj {X:Cx} (hs:X.env.scope.names=nm) (h:cu nm x=true):Vis X.env.scope x:=by
 unfold cu at h
 unfold Vis
 rw [hs]
 split at h <;> first | (rename_i q;exact .inl q) | (rename_i q;exact .inr (.inl q)) | (rename_i q;exact .inr (.inr q)) | cases h
theorem bD (hs:X.env.scope.names=nm) (h:bN nm x=true):Gl X x:=by
 unfold bN at h
 show X.env.scope.names.lookup x=_
 rw [hs]
 simpa using h
structure Ns where
 gl:List ν
 tb:List ν
 fn:List ν
 at_:List ν
 bl:List ν
 rf:List ν:=[]
 me:List (ν×Nat×Nat):=[]
 ex:List ν:=[]
 nw:List ν:=[]
 mu:List ν:=[]
 nd:List ν:=[]
 hx:List ν:=[]
 hc:List ν:=[]
 xt:List ν:=[]
 kp:List ν:=[]
 alt:List (ν×Nat):=[]
 dn:List (ν×Nat×Nat):=[]
 fc:List ν:=[]
 oc:List ν:=[]
 e2:Bool:=false
def Ns.an (T:Ns) (f:Nat):ν:=T.at_.getD f ""
abbrev Cx.to (X:Cx) (A:ώ) (fr:List Dz) (N:List ν) (e:Dz) (cal cal1:Nat→List D→List O→Res):Cx:={ X with A:=A,fr:=fr,N:=N,env:=e,cal:=cal,cal1:=cal1 }
theorem HR.to {X:Cx} {A:ώ} {fr:List Dz} {N1 N2:List ν} {e1 e2:Dz} {c1 c2 d1 d2:Nat→List D→List O→Res} (I:HR (X.to A fr N1 e1 c1 d1) z):HR (X.to A fr N2 e2 c2 d2) z:=⟨I.md,I.fm,I.hd,I.bs,I.gh,I.rl,I.rn,I.rg,I.ob,I.fu,I.ff,I.br,I.os⟩
theorem FnC.to {X:Cx} {A:ώ} {fr:List Dz} {N:List ν} {e:Dz} {c1 d1:Nat→List D→List O→Res} (h:FnC X cal lv j f fd ps dvs):FnC (X.to A fr N e c1 d1) cal lv j f fd ps dvs:=⟨h.len,fun A2 fr2 z args us ds r I b rd nb=>í (h.run A2 fr2 z args us ds r (HR.to (X:=X) (N1:=N) (e1:=e) (c1:=c1) (d1:=d1) I) b rd nb) fun q s' hq=>by
 cases q with
 | error x=>obtain ⟨z',c,l,a1,a2,a3,a4,a5⟩:=hq;exact ⟨z',c,l,a1,a2,a3,HR.to (X:=X) a4,a5⟩
 | ok fl=>cases fl with
   | ret u=>obtain ⟨z',d,a1,a2,a3,a4,a5⟩:=hq;exact ⟨z',d,a1,a2,a3,HR.to (X:=X) a4,a5⟩
   | _=>exact hq.elim⟩
theorem bX.to {X:Cx} {A:ώ} {fr:List Dz} {N:List ν} {e:Dz} {c1 d1:Nat→List D→List O→Res} (h:bX X cal lv j f):bX (X.to A fr N e c1 d1) cal lv j f:=let ⟨fd,ps,dvs,a,b,c⟩:=h;⟨fd,ps,dvs,a.to,b,c⟩
theorem FnI.to {X:Cx} {A:ώ} {fr:List Dz} {N:List ν} {e:Dz} {c1 d1:Nat→List D→List O→Res} (h:FnI X lv f fd ps nm ck):FnI (X.to A fr N e c1 d1) lv f fd ps nm ck:=⟨h.len,fun A2 fr2 z args us p P ch r I b lu H hB hP hc=>h.run A2 fr2 z args us p P ch r (HR.to (X:=X) (N1:=N) (e1:=e) (c1:=c1) (d1:=d1) I) b lu ⟨H.ex,H.keep,H.set⟩ hB hP hc⟩
theorem FnJ.to {X:Cx} {A:ώ} {fr:List Dz} {N:List ν} {e:Dz} {c1 d1:Nat→List D→List O→Res} (h:FnJ X lv f fd ps nm k C):FnJ (X.to A fr N e c1 d1) lv f fd ps nm k C:=let ⟨ck,a,b⟩:=h;⟨ck,a.to,b⟩
structure CxOk (T:Ns) (X:Cx) (nm:List (ν×Δ)) (N:List ν):Prop where
 hN:X.N=N
 nd:N.Nodup
 sc:X.env.scope.names=nm
 kd:X.env.scope.kind = .function
 calm:X.calm=true
 fns:∀ (j:Nat) (x:ν),T.fn[j]? = some x→∃ k f,bX X X.cal k j f∧bq k X.A∧X.mg x=some (.ref f)
 gls:∀ (j:Nat) (x:ν),T.gl[j]? = some x→∃ d u,X.Γ.gl[j]? = some d∧X.mg x=some u∧aW X.K d u=true
 tbs:∀ (j:Nat) (x:ν),T.tb[j]? = some x→∃ t a,X.Γ.tb[j]? = some t∧X.mg x=some (.ref a)∧TbL X a t
 blt:∀ x∈T.bl,X.mg x=none
 cls:cm X T.an
 mts:∀ q∈T.me,∃ k f,bX X X.cal k q.2.2 f∧bq k X.A∧nu X T.an q.1 q.2.1 f
 nws:∀ (j:Nat) (x:ν),T.nw[j]? = some x→x≠""→∃ n f i cl,bX X X.cal1 n cl.init f∧bq (n+1) X.A∧Mk X.K i.ad f∧X.Γ.cl[j]? = some cl∧cl.what=0∧X.W.ci[j]? = some i∧X.W.what[j]? = some 0∧X.mg x=some (.ref i.ad)
 nds:∀ (j:Nat) (x:ν),T.nd[j]? = some x→x≠""→∃ n f fd ps i cl,FnI X n f fd ps i.nm none∧bV X.K fd ps []∧bq (n+1) X.A∧Mk X.K i.ad f∧Cls X.K i.ad∧(∀ f∈i.nm,cz X.K i.ad f)∧X.Γ.cl[j]? = some cl∧X.W.ci[j]? = some i∧X.W.what[j]? = some 1∧i.nm.length=cl.at_.length∧X.mg x=some (.ref i.ad)
 hxs:∀ (j:Nat) (x:ν),T.hx[j]? = some x→x≠""→o7 X j x
abbrev GE (T:Ns) (nm:List (ν×Δ)) (N:List ν) (e:Κ):={c:E // ∀ X,CxOk T X nm N→LE X e c∧(bp c=true→LF X e c)}
abbrev GT (T:Ns) (nm:List (ν×Δ)) (N:List ν) (e:Κ):={c:E // ∀ X,CxOk T X nm N→LT X e c}
abbrev GW (T:Ns) (nm:List (ν×Δ)) (N:List ν) (e:Κ):={c:E // ∀ X,CxOk T X nm N→LW X e c}
abbrev GA (T:Ns) (nm:List (ν×Δ)) (N:List ν) (es:List Κ):={c:E // ∀ X,CxOk T X nm N→LA X es c}
abbrev GO (T:Ns) (nm:List (ν×Δ)) (N:List ν) (e:Option Κ):={c:E // ∀ X,CxOk T X nm N→LO X e c}
abbrev GI (T:Ns) (nm:List (ν×Δ)) (N:List ν) (tg e:Κ):={c:E // ∀ X,CxOk T X nm N→LI X tg e c}
abbrev aJ (T:Ns):=∀ nm N e,Option (GE T nm N e)
abbrev gR (T:Ns):=∀ nm N e,Option (GT T nm N e)
theorem mk (h:LE X e c) (n:bp c=false:=by rfl):LE X e c∧(bp c=true→LF X e c):=⟨h,fun q=>by rw [n] at q;cases q⟩
theorem mkf (h:LF X e c) (hb:∀ br,X.ev br c=X.ev false c:=by intro _;rfl):LE X e c∧(bp c=true→LF X e c):=⟨h.le hb,fun _=>h⟩
def yes (b:Bool):Option (PLift (b=true)):=match b with | true=>some ⟨rfl⟩ | false=>none
def no (b:Bool):Option (PLift (b=false)):=match b with | false=>some ⟨rfl⟩ | true=>none
def bv (x:ν):(l:List ν)→Option {i:Nat // l[i]? = some x}
 | []=>none
 | y :: r=>match h:y == x with
   | true=>some ⟨0,by rw [Ey];congr;simpa using h⟩
   | false=>(bv x r).map fun i=>⟨i.1+1,by rw [Á];exact i.2⟩
def dnA (x:ν) (n:Nat) (l:List (ν×Nat×Nat)):List (ν×Nat):=match l.lookup x with
 | some q=>if n=q.1 then [(x,q.2)] else []
 | none=>[]
def Cf (x:ν) (al:List (ν×Nat)) (l:List ν):Option {i:Nat // l[i]? = some x}:=match al.lookup x with
 | some j=>(match h:l[j]? with
   | some y=>(match h2:y == x with
     | true=>some ⟨j,by rw [h];congr;simpa using h2⟩
     | false=>none)
   | none=>none)
 | none=>bv x l
def qW (x:ν):(l:List ν)→Option (PLift (x∈l))
 | []=>none
 | y :: r=>match h:y == x with
   | true=>some ⟨by have:y=x:=by simpa using h
                    rw [this];exact ι⟩
   | false=>(qW x r).map fun i=>⟨κ _ i.down⟩
section
variable {T:Ns} {nm:List (ν×Δ)} {N:List ν}
def Ag (T:Ns) (nm:List (ν×Δ)) (N:List ν) (x:ν) (pos:ϭ):Option (GE T nm N (.Name x pos)):=do
 let hd ← no (x == ("__debug__":ν))
 let hc ← no (x == ("__classdict__":ν))
 match hl:cu nm x with
 | true=>
   let i ← bv x N
   some ⟨.v i.1,fun X k=>mk (ye (by rw [k.hN];exact i.2) (bj k.sc hl) hd.down hc.down)⟩
 | false=>
   let hg ← yes (bN nm x)
   let j ← bv x T.gl
   some ⟨.g j.1,fun X k=>by
    obtain ⟨d,u,h1,h2,h3⟩:=k.gls j.1 x j.2
    exact mk (C3 (bD k.sc hg.down) h2 hd.down h1 h3)⟩
def wW (T:Ns) (nm:List (ν×Δ)) (N:List ν) (c:Const) (j:Nat) (pos:ϭ):Option (GE T nm N (.Constant c j pos)):=match c with
 | .none=>some ⟨.c .non,fun X k=>mk vS⟩
 | .bool b=>some ⟨.c (.bl b),fun X k=>mk Aw⟩
 | .int i=>some ⟨.c (.int i),fun X k=>mk vR⟩
 | .str x=>some ⟨.c (.str x),fun X k=>mk vT⟩
 | _=>none
def opP (op:G0):Option {o:Op // ∀ X:Cx,Op2 X (Ł op) (opD o)}:=match op with
 | .Add=>some ⟨.add,fun X=>yS⟩
 | .Sub=>some ⟨.sub,fun X=>yW⟩
 | .Mult=>some ⟨.mul,fun X=>yU⟩
 | .FloorDiv=>some ⟨.fdiv,fun X=>u4⟩
 | .Mod=>some ⟨.mod,fun X=>yT⟩
 | .Pow=>some ⟨.pow,fun X=>yV⟩
 | _=>none
def w9 (op:CmpOp):Option {o:Op // ∀ X:Cx,Op2 X (Ú op) (opD o)}:=match op with
 | .Eq=>some ⟨.eq,fun X=>BC⟩
 | .NotEq=>some ⟨.ne,fun X=>BI⟩
 | .Lt=>some ⟨.lt,fun X=>BH⟩
 | .LtE=>some ⟨.le,fun X=>BG⟩
 | .Gt=>some ⟨.gt,fun X=>BE⟩
 | .GtE=>some ⟨.ge,fun X=>BD⟩
 | .In=>some ⟨.isin,fun X=>BF⟩
 | .NotIn=>some ⟨.notin,fun X=>rq⟩
 | _=>none
def du (f:∀ e,Option (GE T nm N e)):(es:List Κ)→Option (GA T nm N es)
 | []=>some ⟨.nil,fun _ _=>qv⟩
 | e :: r=>do
   let h ← yes (aE e)
   let a ← f e
   let b ← du f r
   some ⟨.cons a.1 b.1,fun X k=>mx (a.2 X k).1 (b.2 X k) (af h.down)⟩
def vK (f:∀ e,Option (GE T nm N e)) (pos:ϭ):(es:List Κ)→Option {c:E // ∀ X,CxOk T X nm N→LE X (.BoolOp .And es pos) c}
 | []=>none
 | [a]=>(f a).map fun x=>⟨x.1,fun X k=>(x.2 X k).1⟩
 | a :: b :: r=>do
   let x ← f a
   let y ← vK f pos (b :: r)
   some ⟨.and x.1 y.1,fun X k=>xR (x.2 X k).1 (y.2 X k)⟩
def CG (f:∀ e,Option (GE T nm N e)) (pos:ϭ):(es:List Κ)→Option {c:E // ∀ X,CxOk T X nm N→LE X (.BoolOp .Or es pos) c}:=fun _=>none
def vJ (g:∀ e,Option (GT T nm N e)) (pos:ϭ):(es:List Κ)→Option (GW T nm N (.BoolOp .And es pos))
 | []=>none
 | [a]=>(g a).map fun x=>⟨x.1,fun X k=>uM (x.2 X k)⟩
 | a :: b :: r=>do
   let x ← g a
   let y ← vJ g pos (b :: r)
   some ⟨.tand x.1 y.1,fun X k=>yA (x.2 X k) (y.2 X k)⟩
def Ak (g:∀ e,Option (GT T nm N e)) (pos:ϭ):(es:List Κ)→Option (GW T nm N (.BoolOp .Or es pos))
 | []=>none
 | [a]=>(g a).map fun x=>⟨x.1,fun X k=>yB (x.2 X k)⟩
 | a :: b :: r=>do
   let x ← g a
   let y ← Ak g pos (b :: r)
   some ⟨.tor x.1 y.1,fun X k=>Bh (x.2 X k) (y.2 X k)⟩
def Aj (f:∀ e,Option (GE T nm N e)):(o:Option Κ)→Option (GO T nm N o)
 | none=>some ⟨.nil,fun X k=>uw⟩
 | some e=>do
   let a ← f e
   let h ← no (bJ a.1)
   some ⟨a.1,fun X k=>ux h.down (a.2 X k).1⟩
end
end L2.Ev
end
section
namespace L2.Bw
theorem tQ (a1:EH (.type T) "__init__" = pure (some (.builtin "object.__init__"))) (a2:Bind.madeBy (.type T)=pure (some newId))
 (a3:(some newId != some "object.__new__")=true) (a4:more≠[]):H6 (ŕ.«object.__init__» ⟨me :: more,kws⟩) (fun _ R s=>s.TypeIs me T∧R (.ok (.ret .none)) s):=by
 refine Meets.of_wp fun prog w A R s q=>?_
 obtain ⟨ty,q⟩:=q
 cases more with
 | nil=>exact ZX rfl a4
 | cons b more=>
   repeat (any_goals (first | assumption | wp_step))
   exact ⟨_,rfl,q⟩
section
variable {prog:ϴ} {w:Û} {A:ώ} {E:ζ→ξ→Prop} {s:ξ}
theorem jH (ft:TypeCalled T newId "object.__init__") (ne:(some newId != some "object.__new__")=true) (na:args≠[])
 (c1:checkTypeCall T ⟨args,kws⟩=pure ()) (c2:š newId ⟨.type T :: args,kws⟩=pure ()) (e1:entryFor table newId=some Bn) (g:H6 (Bn ⟨.type T :: args,kws⟩) S) (h:S A.in1 (wants Q1 E) s)
 (hn:∀ obj s1,Q1 obj s1→s1.TypeIs obj T∧Fx "object.__init__" ⟨obj :: args,kws⟩∧Q obj s1):Α (model prog w) A (call (.type T) args kws) Q E s:=by
 obtain ⟨c,tl,m1⟩:=ft.mro
 have m2:=ft.made
 have m3:=ft.sub
 refine ă (Hv ?_)
 show Α _ _ (callAny (.type T) _) _ _ _
 refine θ ⟨Ž _ (by decide +kernel),ų F.entry_type_call ?_⟩
 rw [Around.under_plain (weight_type_call_type T args kws) (units_type_call_type T args kws)]
 have m4:=ft.notType
 have m5:=ft.canCreate
 repeat (any_goals (first | assumption | wp_step))
 refine í (î ft.plain e1 (Ep c2 (g prog w A.in1 _ s h))) fun r s1 q1=>?_
 cases r with
 | error e=>exact q1
 | ok fl=>
   cases fl with
   | ret obj=>
     obtain ⟨ty,ok,qq⟩:=hn _ _ q1
     have m6:=ft.init.lookup
     have m7:=ft.init.bind obj
     repeat (any_goals (first | assumption | wp_step))
     refine í (î ft.init.plain F.entry_object_init (ft.init.check _ _ _ _ _ _ _ _ ty ok (tQ m6 m2 ne na prog w A.in1 (wants (fun r s2=>r = .none∧Q obj s2) E) s1 ⟨ty,rfl,qq⟩))) fun r2 s2 q2=>?_
     cases r2 with
     | error e=>exact q2
     | ok f2=>
       cases f2 with
       | ret r=>
         obtain ⟨e,q3⟩:=q2
         subst e
         repeat (any_goals (first | assumption | wp_step))
       | _=>exact q2.elim
   | _=>exact q1.elim
theorem pI (t) (n) (tk) (hn:Ç n=true) (items) :
 H6 (ŕ.«enumerate.__new__» ⟨[.type "enumerate",.ref t],[("start",.int n tk)]⟩) (fun _ R s=>s.heap.IsTuple t items ∧
  R (.ok (.ret (.ref (s.heap.push { cls:=.type "tuple_iterator",data:=.fields #[.ref t,.int 0 0] }).objs.size)))
    { s with heap:=(s.heap.push { cls:=.type "tuple_iterator",data:=.fields #[.ref t,.int 0 0] }).push { cls:=.type "enumerate",data:=.fields #[.none,.bool false,.ref s.heap.objs.size,Ö n,.none,.none] } }):=
 .of_wp fun prog w A R s h=>by
  obtain ⟨hp,g,d,tk',os⟩:=s
  obtain ⟨ht,h⟩:=h
  have sub:=sub_enumerate
  wp_walk
  refine wpAny_stack_any fun st=>θ ?_
  split
  ·rename_i c _ _ _ _ _
   cases (c == ą "enumerate")
   ·wp_walk using Ď ht
    exact ⟨_,rfl,h⟩
   ·wp_walk using Ď ht
    exact ⟨_,rfl,h⟩
  ·wp_walk using Ď ht
   exact ⟨_,rfl,h⟩
end
section
variable {prog:ϴ} {w:Û} {A:ώ} {E:ζ→ξ→Prop} {s:ξ}
theorem nK {rest:List Κ} {kws:List ŭ} {Q:ζ→ξ→Prop}
 (h:Α M A (spliced (ϻ pos (Ε (e :: rest) env))) (fun vs s1=>Α M A (H4 ((Ï pos (Ϩ kws env)).map (·.2))) (fun ks s2=>Α M A (call (.type T) vs (((Ï pos (Ϩ kws env)).filterMap (·.1)).zip ks)) Q E s2) E s1) E s)
 (he:Ε (e :: rest) env=(false,eval e env) :: Ε rest env) (h1:(ϻ pos (Ε (e :: rest) env)).any (·.1)=false) (h2:(Ï pos (Ϩ kws env)).all (·.1.isSome)=true) (h3:(Ï pos (Ϩ kws env)).any (·.1.isNone)=false) :
 Α M A (Ţ pos (.type T) [] (ϻ pos (Ε (e :: rest) env)) (Ï pos (Ϩ kws env))) Q E s:=by
 have k:Α M A (evalArgs (.type T) true (ϻ pos (Ε (e :: rest) env)) (Ï pos (Ϩ kws env))) (fun a s1=>Α M A (call (.type T) ([] ++ a.pos) a.kw) Q E s1) E s:=by
  rw [he] at h ⊢
  exact evalArgs_kwB h2 h
 unfold Ţ
 refine ε (ϊ (thn k fun a s1 q=>ε (æ ?_)))
 simp only [h1,h3,ľ]
 exact ε (θ (ε (thn q fun r s2 q2=>ε (ϊ (Eo (θ q2))))))
theorem nV (hn:Ç n=true) (ht:s.heap.IsTuple t xs)
 (h:Q (.ref (s.heap.push { cls:=.type "tuple_iterator",data:=.fields #[.ref t,.int 0 0] }).objs.size)
  { s with heap:=(s.heap.push { cls:=.type "tuple_iterator",data:=.fields #[.ref t,.int 0 0] }).push { cls:=.type "enumerate",data:=.fields #[.none,.bool false,.ref s.heap.objs.size,Ö n,.none,.none] } }) :
 Α (model prog w) A (call (.type "enumerate") [.ref t] [("start",.int n tk)]) Q E s:=by
 refine jH (Q1:=fun obj s1=>obj = .ref (s.heap.push { cls:=.type "tuple_iterator",data:=.fields #[.ref t,.int 0 0] }).objs.size∧s1={ s with heap:=(s.heap.push { cls:=.type "tuple_iterator",data:=.fields #[.ref t,.int 0 0] }).push { cls:=.type "enumerate",data:=.fields #[.none,.bool false,.ref s.heap.objs.size,Ö n,.none,.none] } })
  F.called_enumerate (by decide) (by simp) (by kernel_rfl) (by kernel_rfl) F.entry_enumerate_new (pI t n tk hn xs) ⟨ht,rfl,rfl⟩ fun obj s1 q=>?_
 obtain ⟨e,e'⟩:=q
 subst e e'
 exact ⟨⟨_,ψ _ rfl,rfl⟩,by first | (simp [Fx];done) | (unfold Fx;kernel_rfl) | (unfold Fx;decide +kernel) | kernel_rfl,h⟩
end
end L2.Bw
namespace L2.Ev
open L2.Bw
theorem Fq.sh {prog:ϴ} {w:Û} {A:ώ} {it:Β} {fp:List Β} {n:Nat} {P:Nat→ζ→Prop} {St:Nat→ϳ→Prop} (D:Fq prog w A it fp n P St) (m:Nat):Fq prog w A it fp (m+n) (fun i v=>P (i - m) v) (fun i h=>m≤i∧St (i - m) h) where
 live:=fun i h st=>D.live _ h st.2
 frame:=fun i h h' st k=>⟨st.1,D.frame _ _ _ st.2 k⟩
 item:=fun i s Q E hi st hQ=>D.item (i - m) s Q E (by have:=st.1;omega) st.2 fun x h' tk p q sb=>hQ x h' tk p ⟨Dx st.1,by rw [Nat.succ_sub st.1];exact q⟩ sb
 done:=fun s Q E st hE=>D.done s Q E (by have:=st.2;rwa [ŏ] at this) hE
theorem EJ.sh {prog:ϴ} {w:Û} {A:ώ} {it:Β} {fp wr:List Β} {n:Nat} {Pt:Nat→Array ζ→Prop} {St:Nat→ϳ→Prop} {Mid:Nat→Β→ϳ→Prop} (m:Nat) (V:EJ prog w A it fp wr (m+n) Pt St Mid):EJ prog w A it fp wr n (fun i=>Pt (m+i)) (fun i=>St (m+i)) (fun i=>Mid (m+i)) where
 sub:=V.sub
 frame:=fun i=>V.frame (m+i)
 item:=fun i s Q E hi=>V.item (m+i) s Q E (Nat.add_lt_add_left hi m)
 go:=fun elts k pos i=>V.go elts k pos (m+i)
 apart:=fun i=>V.apart (m+i)
 done:=V.done
 self:=fun i=>V.self (m+i)
section
variable {X:Cx} {z z1:Z}
theorem qJ {es:List Κ} {k:Nat} {tp kp:ϭ} (hc:X.calm=true) (hx:Blt X "enumerate" (.type "enumerate")) (ha:LE X ea a) (hb:LE X eb b) (he:Ε [ea] X.env=(false,eval ea X.env) :: Ε [] X.env):LI X (.Tuple es k tp) (.Call (.Name "enumerate" p) [ea] [⟨some "start",eb,kp⟩] pos) (.it .enum2 (.cons a (.cons b .nil))):=fun z I nb=>by
 refine è (hx.ld I ?_)
 refine nK (Q:=fun v s1=>Α X.M X.A (ũ v) (FI X z (.Tuple es k tp) (X.ev false (.it .enum2 (.cons a (.cons b .nil))) z.t)) NoE s1) ?_ he (by rw [he];rfl) rfl rfl
 rw [he]
 refine Η ((ha false).go .refl I (ev2 fun l s=>Out.of s ((itD .enum2 l).map D.lst)) nb fun z1 x u y1 x1 I1 r1 e1=>Ξ ?_)
 show Α _ _ (H4 ((do let v ← eval eb X.env;Œ pos;pure v) :: [])) _ _ _
 refine Gu (ε ((hb false).go x1 I1 e1 nb fun z2 y v y2 x2 I2 r2 e2=>ε (æ (θ (GY ?_)))))
 cases x with
 | tup l=>
   cases y with
   | int n=>
     obtain ⟨ad,o,vs,rfl,g,⟨tc,⟨m,td⟩,hz⟩,r⟩:=r1.rd.st y2.st
     obtain ⟨tz,rfl⟩:=r2.rd
     have e2:X.ev false (.it .enum2 (.cons a (.cons b .nil))) z.t=Out.of z2.t ((if Ç n=true∧0≤n then some (bM n l) else none).map D.lst):=e2
     by_cases hn:Ç n=true∧0≤n
     ·rw [ZZ hn] at e2
      obtain ⟨hn,h0⟩:=hn
      obtain ⟨j,rfl⟩:=ED h0
      have ht:z2.s.heap.IsTuple ad vs.toArray:=⟨o,I2.gh _ _ g,tc,m,td⟩
      have hlt:=Ο (I2.gh _ _ g)
      have hsz:(z2.s.heap.push { cls:=.type "tuple_iterator",data:=.fields #[.ref ad,.int 0 0] }).objs.size=z2.s.heap.objs.size+1:=ϵ ..
      refine nV hn ht (GX (ψ _ rfl) ?_)
      rw [hsz]
      have kk:∀ b o,z2.s.heap.get? b=some o→((z2.s.heap.push { cls:=.type "tuple_iterator",data:=.fields #[.ref ad,.int 0 0] }).push { cls:=.type "enumerate",data:=.fields #[.none,.bool false,.ref z2.s.heap.objs.size,Ö (j:Int),.none,.none] }).get? b=some o:=fun b o e=>ο _ (ο _ e)
      have ge:IsEnum ((z2.s.heap.push { cls:=.type "tuple_iterator",data:=.fields #[.ref ad,.int 0 0] }).push { cls:=.type "enumerate",data:=.fields #[.none,.bool false,.ref z2.s.heap.objs.size,Ö (j:Int),.none,.none] }) (z2.s.heap.objs.size+1) z2.s.heap.objs.size (j:Int) .none:=by rw [← hsz];exact ψ _ rfl
      have gi:((z2.s.heap.push { cls:=.type "tuple_iterator",data:=.fields #[.ref ad,.int 0 0] }).push { cls:=.type "enumerate",data:=.fields #[.none,.bool false,.ref z2.s.heap.objs.size,Ö (j:Int),.none,.none] }).get? z2.s.heap.objs.size=some { cls:=.type "tuple_iterator",data:=.fields #[.ref ad,.int 0 0] }:=ο _ (ψ _ rfl)
      have rl:=r.len
      refine e9 (ds:=bM (j:Int) l) x2 I2 (.hp (t:=z2.s.toks) kk) (Itr.walksT (I2.hd hc) (n:=vs.toArray.size) (by rw [fT];simpa using rl) (fun A hA=>EJ.sh j (gO (Fq.sh (eZ (A:=A.in1) hA z2.s.heap.objs.size ad (ϛ hlt) vs.toArray) j) (z2.s.heap.objs.size+1) (Ŏ _) (nin _ 1 0 _ (by decide) hlt) ι)) (fun i h st b hb=>?_) (fun _ _ _ m=>m.2) fun i vals d p1 p2=>?_) ⟨⟨.none,ge⟩,Ψ _,by rw [Nat.add_zero,Ħ];exact ⟨⟨_,gi,rfl,rfl⟩,⟨o,kk _ _ (I2.gh _ _ g),tc,m,td⟩⟩⟩ (fun b hb=>?_) e2
      ·obtain ⟨⟨old,e1⟩,_,⟨o2,e2,_⟩,_⟩:=st
       rcases π.mp hb with w | w
       ·rw [w];exact ⟨_,e1⟩
       ·rw [η.mp w];exact ⟨o2,e2⟩
      ·obtain ⟨t,v,p3,rfl⟩:=p1
       rw [iU,ω] at p2
       obtain ⟨d',p4,rfl⟩:=p2
       rw [ŏ] at p3
       refine ⟨by simp [Ą],_,rfl,fun ρ' G' h1 h2=>?_⟩
       exact .cons ⟨t,by rw [Gk]⟩ (.cons ((r.mono h1 h2).v p4 p3) rfl)
      rcases π.mp hb with w | w
      ·rw [w];exact .inl ⟨fV (Þ _),_,ge⟩
      ·rcases π.mp w with w | w
       ·rw [w];exact .inl ⟨aB z2,_,gi⟩
       ·rw [η.mp w]
        refine .inr ⟨fun q=>?_,_,g⟩
        rcases π.mp q with q | q
        ·exact ϛ (FP hlt) q
        ·exact ϛ hlt (η.mp q)
     ·rw [ZY hn] at e2;exact ZX e2 nb
   | _=>exact ZX e2 nb
 | _=>exact ZX (e2.trans (by cases y <;> rfl)) nb
end
end L2.Ev
end
section
namespace L2.Bw
section
variable {prog:ϴ} {w:Û} {A:ώ} {R:Result→ξ→Prop} {it:Β} {fp wr:List Β} {n:Nat} {f:Nat→Int} {Z:Nat→ϳ→Prop}
abbrev ig (f:Nat→Int):Nat→ζ→Prop:=fun i v=>∃ t,v = .int (f i) t
abbrev dk (f:Nat→Int):Nat→Nat→Bool:=fun i j=>decide (f i>f j)
theorem yC (W:Walks prog w A.in1 it fp wr n (ig f) Z) (kws:List (ν×ζ)) (B:Β) (nB:B ∉ fp) :
 ∀ (k j:Nat) (s:ξ) (u:ζ) (c:Nat),n - (j+1)=k→j+1≤n→Z (j+1) s.heap→ig f (þ (dk f) j) u→s.heap.get? B=some { cls:=.type "list",dict:=none,data:=.seq #[u,u] c,slots:=#[] } →
 (∀ v h1 tk,ig f (þ (dk f) (n - 1)) v→(∀ b o,b ∉ wr→b≠B→s.heap.get? b=some o→h1.get? b=some o)→R (.ok (.ret v)) { s with heap:=h1,toks:=tk }) →
 Ĵ (model prog w) A (.builtin "max.loop" ⟨[.ref it,.none,.ref B],kws⟩) R s:=by
 have nw:B ∉ wr:=fun h=>nB (W.sub _ h)
 have nm:(toString "max" ++ toString ".loop":String) = "max.loop":=by decide
 have cmp:CmpOf prog w A.in1 .Gt (ig f) (dk f):=CmpOf.ints_gt f fun _ _ h=>h
 intro k
 induction k with
 | zero=>
   intro j s u c hk hj hz hu hB hR
   have e:j+1=n:=by omega
   refine ų E8 ?_
   rw [ş ô _]
   show Α _ A.in1 (D7 (.ref B) >>= fun _=>_) _ _ s
   refine ε (Õ hB rfl ?_)
   show Α _ A.in1 (tryCatch (Eh (.ref it)) _ >>= fun _=>_) _ _ s
   refine ε (Ŀ (W.done s _ _ (e ▸ hz) fun h1 tk k1=>?_))
   show Α _ A.in1 (He B (fun _=>#[]) >>= fun _=>_) _ _ _
   refine ε (ĭ (k1 B _ nw hB) rfl (ε (Ĥ (θ ?_))))
   exact hR u _ tk (by rw [← e];exact hu) fun b o n1 n2 q=>(ύ _ _ (Ϥ n2)).trans (k1 b o n1 q)
 | succ k ih=>
   intro j s u c hk hj hz hu hB hR
   have lt:j+1<n:=by omega
   refine ų E8 ?_
   rw [ş ô _]
   show Α _ A.in1 (D7 (.ref B) >>= fun _=>_) _ _ s
   refine ε (Õ hB rfl ?_)
   show Α _ A.in1 (tryCatch (Eh (.ref it)) _ >>= fun _=>_) _ _ s
   refine ε (Ŀ (W.item (j+1) s _ _ lt hz fun v h1 tk hv hz1 k1=>?_))
   have hB1:=k1 B _ nw hB
   show Α _ A.in1 (tryCatch (holding [v,v] (richCompare .Gt v u >>= _)) _ >>= fun _=>_) _ _ _
   refine ε (Ŀ (ϊ (ε (cmp (j+1) (þ (dk f) j) v u _ _ _ hv hu ?_))))
   refine ε (ϊ (Ϸ (ε (Ĥ (θ ?_)))))
   cases hb:dk f (j+1) (þ (dk f) j) with
   | true=>
     simp only [if_true]
     refine ε (ĭ hB1 rfl (ε (Ĥ ?_)))
     rw [nm]
     refine θ ⟨ŗ ô _,ih (j+1) _ v _ (by omega) lt (W.frame _ _ _ hz1 fun b hbf o q=>(ύ _ _ (fun z:B=b=>nB (by rw [z];exact hbf))).trans q) ?_ (ϡ _ hB1 rfl) fun v' h2 tk2 hv' k2=>?_⟩
     ·simp only [þ,hb,if_true];exact hv
     ·exact hR v' h2 tk2 hv' fun b o n1 n2 q=>k2 b o n1 n2 ((ύ _ _ (Ϥ n2)).trans (k1 b o n1 q))
   | false=>
     simp only [ã,if_false]
     refine ε (Ĥ ?_)
     rw [nm]
     refine θ ⟨ŗ ô _,ih (j+1) _ u c (by omega) lt hz1 ?_ hB1 fun v' h2 tk2 hv' k2=>hR v' h2 tk2 hv' fun b o n1 n2 q=>k2 b o n1 n2 (k1 b o n1 q)⟩
     simp only [þ,hb,ã,if_false];exact hu
theorem iQ (f:Nat→Int):∀ k i,i≤k→f i≤f (þ (dk f) k)
 | 0,i,h=>by cases (show i=0 by omega);exact Ľ _
 | k+1,i,h=>by
   unfold þ
   cases hb:dk f (k+1) (þ (dk f) k) with
   | true=>
     have hb':f (k+1)>f (þ (dk f) k):=of_decide_eq_true hb
     simp only [if_true]
     by_cases e:i=k+1
     ·rw [e];exact Ľ _
     ·have:=iQ f k i (by omega);omega
   | false=>
     have hb':¬ f (k+1)>f (þ (dk f) k):=of_decide_eq_false hb
     simp only [ã,if_false]
     by_cases e:i=k+1
     ·rw [e];omega
     ·exact iQ f k i (by omega)
theorem l5 (f:Nat→Int):∀ k,þ (dk f) k≤k
 | 0=>Ψ _
 | k+1=>by
   unfold þ
   cases dk f (k+1) (þ (dk f) k) with
   | true=>exact Ψ _
   | false=>exact Ϣ (l5 f k) (Þ _)
end
theorem pT (r:List Int):∀ x:Int,x≤r.foldl (fun a b=>if b>a then b else a) x∧(∀ y∈r,y≤r.foldl (fun a b=>if b>a then b else a) x)∧(r.foldl (fun a b=>if b>a then b else a) x=x∨r.foldl (fun a b=>if b>a then b else a) x∈r):=by
 induction r with
 | nil=>intro x;exact ⟨Ľ _,fun y h=>(nomatch h),.inl rfl⟩
 | cons b r ih=>
   intro x
   have h:=ih (if b>x then b else x)
   rw [List.foldl_cons]
   obtain ⟨h1,h2,h3⟩:=h
   by_cases c:b>x
   ·rw [ZZ c] at h1 h2 h3 ⊢
    refine ⟨by omega,fun y hy=>?_,?_⟩
    ·rcases π.mp hy with rfl | hy
     ·exact h1
     ·exact h2 y hy
    ·rcases h3 with h3 | h3
     ·exact .inr (by rw [h3];exact ι)
     ·exact .inr (κ _ h3)
   ·rw [ZY c] at h1 h2 h3 ⊢
    refine ⟨h1,fun y hy=>?_,?_⟩
    ·rcases π.mp hy with rfl | hy
     ·omega
     ·exact h2 y hy
    ·rcases h3 with h3 | h3
     ·exact .inl h3
     ·exact .inr (κ _ h3)
theorem uO {d m:Int} {ns:List Int} (ne:ns≠[]) (hm:m∈ns) (hg:∀ y∈ns,y≤m):maxD d ns=m:=by
 cases ns with
 | nil=>exact ZX rfl ne
 | cons x r=>
   obtain ⟨h1,h2,h3⟩:=pT r x
   have k1:maxD d (x :: r)=r.foldl (fun a b=>if b>a then b else a) x:=rfl
   rw [k1]
   have a1:r.foldl (fun a b=>if b>a then b else a) x≤m:=by
    rcases h3 with h3 | h3
    ·rw [h3];exact hg x ι
    ·exact hg _ (κ _ h3)
   have a2:m≤r.foldl (fun a b=>if b>a then b else a) x:=by
    rcases π.mp hm with rfl | hm
    ·exact h1
    ·exact h2 m hm
   omega
theorem fb:∀ {us:List ζ} {ns:List Int} {i:Nat} {v:ζ},D9 us ns→us[i]? = some v→∃ t,v = .int (ns.getD i 0) t
 | _,_,_,_,.nil,e=>by simp at e
 | _,_,0,v,.cons _ t _,e=>by simp at e;subst e;exact ⟨t,by simp⟩
 | _,_,i+1,v,.cons _ _ r,e=>by
   obtain ⟨t,h⟩:=fb (i:=i) r (by simpa using e)
   exact ⟨t,by simpa using h⟩
theorem yD {prog:ϴ} {w:Û} {A:ώ} {E:ζ→ξ→Prop} {s:ξ} {l:Β} {us:List ζ} {ns:List Int} {d:Int} {td:Tok} {Q:ζ→ξ→Prop} (hh:A.handled=none) (hl:s.heap.IsList l us.toArray) (hi:D9 us ns)
 (q:∀ t h1 tk,(∀ b o,s.heap.get? b=some o→h1.get? b=some o)→Q (.int (maxD d ns) t) { s with heap:=h1,toks:=tk }):Α (model prog w) A (call (.builtin "max") [.ref l] [("default",.int d td)]) Q E s:=by
 have nm:(toString "max" ++ toString ".loop":String) = "max.loop":=by decide
 have hlt:l<s.heap.objs.size:=by obtain ⟨_,e,_⟩:=hl;exact Ο e
 refine ă (î F.plain_max F.entry_max (Ep (a:=()) (by kernel_rfl) ?_))
 show Α _ A.in1 (Gq "max" ["key","default"] 0 ⟨[],[("default",.int d td)]⟩ >>= fun _=>_) _ _ s
 refine ε (Ep (a:=[none,some (.int d td)]) (by rfl) (ε (θ ?_)))
 refine ε (ĕ hl (ε (Ê ?_)))
 rw [nm]
 let it:Β:=s.heap.objs.size
 generalize hh1:s.heap.push { cls:=.type "list_iterator",data:=.fields #[.ref l,.int 0 0] }=h1
 have sz1:h1.objs.size=s.heap.objs.size+1:=by rw [← hh1];exact ϵ ..
 have kp1:∀ b o,s.heap.get? b=some o→h1.get? b=some o:=fun b o e=>by rw [← hh1];exact ο _ e
 have it1:h1.IsListIter s.heap.objs.size l 0:=by rw [← hh1];exact ⟨_,ψ _ rfl,rfl,rfl⟩
 have W:=F0 (prog:=prog) (w:=w) (A:=A.in1) hh s.heap.objs.size l (ϛ hlt) us.toArray
 have nB:h1.objs.size ∉ [s.heap.objs.size,l]:=fun hm=>by
  rw [sz1] at hm
  rcases π.mp hm with z | z
  ·exact ZX z (Ŏ _)
  ·rw [η] at z;exact ZX hlt (by rw [← z];exact D2.mpr (Þ _))
 have hlen:us.length=ns.length:=hi.length
 have hB:(h1.push { cls:=.type "list",dict:=none,data:=.seq ([]:List ζ).toArray }).get? h1.objs.size=some { cls:=.type "list",dict:=none,data:=.seq #[] 0,slots:=#[] }:=ψ _ rfl
 have st0:(h1.push { cls:=.type "list",dict:=none,data:=.seq ([]:List ζ).toArray }).IsListIter s.heap.objs.size l 0∧(h1.push { cls:=.type "list",dict:=none,data:=.seq ([]:List ζ).toArray }).IsList l us.toArray:=
  ⟨it1.at fun o e=>ο _ e,(hl.at fun o e=>kp1 l o e).at fun o e=>ο _ e⟩
 have back:∀ (h2:ϳ),(∀ b o,b ∉ [s.heap.objs.size]→b≠h1.objs.size→(h1.push { cls:=.type "list",dict:=none,data:=.seq ([]:List ζ).toArray }).get? b=some o→h2.get? b=some o)→∀ b o,s.heap.get? b=some o→h2.get? b=some o:=fun h2 k b o e=>by
  have lt:=Ο e
  refine k b o (fun z=>?_) (fun z=>?_) (ο _ (kp1 b o e))
  ·rw [η.mp z] at lt;exact Ĝ _ lt
  ·rw [z,sz1] at lt;exact ZX lt (D2.mpr (Þ _))
 refine θ ⟨ŗ ô _,?_⟩
 refine ų E8 ?_
 rw [ş ô _]
 show Α _ A.in1 (D7 (.ref h1.objs.size) >>= fun _=>_) _ _ _
 refine ε (Õ hB rfl ?_)
 show Α _ A.in1 (tryCatch (Eh (.ref s.heap.objs.size)) _ >>= fun _=>_) _ _ _
 cases hns:ns with
 | nil=>
   have hz:us.toArray.size=0:=by rw [hns] at hlen;simpa using hlen
   refine ε (Ŀ (W.done _ _ _ (by rw [hz];exact st0) fun h2 tk k2=>?_))
   refine ε (DH (θ ?_))
   have:=q td h2 tk (back h2 fun b o n1 n2 e=>k2 b o n1 e)
   rw [hns] at this
   exact this
 | cons x r=>
   have hz:0<us.toArray.size:=by rw [hns] at hlen;simp;rw [hlen];simp
   let f:Nat→Int:=fun i=>ns.getD i 0
   have P:∀ i v,us.toArray[i]? = some v→ig f i v:=fun i v e=>by
    have e':us[i]? = some v:=by simpa using e
    obtain ⟨t,ht⟩:=fb hi e'
    exact ⟨t,ht⟩
   have W':Walks prog w A.in1 s.heap.objs.size [s.heap.objs.size,l] [s.heap.objs.size] us.toArray.size (ig f) (fun i h=>h.IsListIter s.heap.objs.size l i∧h.IsList l us.toArray):=
    { sub:=W.sub,frame:=W.frame,done:=W.done,self:=W.self,item:=fun i s Q E hi st hQ=>W.item i s Q E hi st fun v h' tk hP=>hQ v h' tk (P i v hP) }
   refine ε (Ŀ (W'.item 0 _ _ _ hz st0 fun v h2 tk hv st2 k2=>?_))
   have nBw:h1.objs.size ∉ [s.heap.objs.size]:=fun z=>nB (by rw [η.mp z];exact ι)
   have hB2:=k2 _ _ nBw hB
   show Α _ A.in1 (He h1.objs.size (fun _=>#[v,v]) >>= fun _=>_) _ _ _
   refine ε (ĭ hB2 rfl ?_)
   rw [nm]
   refine θ ⟨ŗ ô _,yC W' _ h1.objs.size nB _ 0 _ v _ rfl hz (W'.frame _ _ _ st2 fun b hb o e=>(ύ _ _ (fun z:h1.objs.size=b=>nB (by rw [z];exact hb))).trans e) hv (ϡ _ hB2 rfl) fun v' h3 tk3 hv' k3=>?_⟩
   obtain ⟨t',e'⟩:=hv'
   have lt:=l5 f (us.toArray.size - 1)
   have hmem:f (þ (dk f) (us.toArray.size - 1))=maxD d ns:=by
    have hl2:þ (dk f) (us.toArray.size - 1)<ns.length:=by simp at lt hz ⊢;omega
    refine (uO (by rw [hns];simp) ?_ fun y hy=>?_).symm
    ·show ns.getD _ 0∈ns
     rw [Ī,Θ hl2]
     exact ň _
    ·obtain ⟨i,hi',rfl⟩:=EP.mp hy
     have:=iQ f (us.toArray.size - 1) i (by simp;omega)
     have e2:f i=ns[i]:=by show ns.getD i 0=_;rw [Ī,Θ hi'];rfl
     rw [← e2];exact this
   have q':=q t' h3 tk3 (back h3 fun b o n1 n2 e=>k3 b o n1 n2 ((ύ _ _ (Ϥ n2)).trans (k2 b o n1 e)))
   subst e'
   rw [hmem]
   exact q'
section
variable {M:EN} {A:ώ} {E:ζ→ξ→Prop} {s:ξ} {env:Dz} {pos:ϭ} {e:Κ}
theorem pD {id:String} {rest:List Κ} {kws:List ŭ} {Q:ζ→ξ→Prop}
 (h:Α M A (spliced (ϻ pos (Ε (e :: rest) env))) (fun vs s1=>Α M A (H4 ((Ï pos (Ϩ kws env)).map (·.2))) (fun ks s2=>Α M A (call (.builtin id) vs (((Ï pos (Ϩ kws env)).filterMap (·.1)).zip ks)) Q E s2) E s1) E s)
 (he:Ε (e :: rest) env=(false,eval e env) :: Ε rest env) (h1:(ϻ pos (Ε (e :: rest) env)).any (·.1)=false) (h2:(Ï pos (Ϩ kws env)).all (·.1.isSome)=true) (h3:(Ï pos (Ϩ kws env)).any (·.1.isNone)=false) :
 Α M A (Ţ pos (.builtin id) [] (ϻ pos (Ε (e :: rest) env)) (Ï pos (Ϩ kws env))) Q E s:=by
 have k:Α M A (evalArgs (.builtin id) true (ϻ pos (Ε (e :: rest) env)) (Ï pos (Ϩ kws env))) (fun a s1=>Α M A (call (.builtin id) ([] ++ a.pos) a.kw) Q E s1) E s:=by
  rw [he] at h ⊢
  exact evalArgs_kwB h2 h
 unfold Ţ
 refine ε (ϊ (thn k fun a s1 q=>ε (æ ?_)))
 simp only [h1,h3,ľ]
 exact ε (θ (ε (thn q fun r s2 q2=>ε (ϊ (Eo (θ q2))))))
end
end L2.Bw
namespace L2.Ev
open L2.Bw
section
variable {X:Cx}
theorem uf {kp:ϭ} (hc:X.calm=true) (hx:Blt X "max" (.builtin "max")) (ha:LE X ea a) (hb:LE X eb b) (he:Ε [ea] X.env=(false,eval ea X.env) :: Ε [] X.env):LE X (.Call (.Name "max" p) [ea] [⟨some "default",eb,kp⟩] pos) (.bi .max0 (.cons a (.cons b .nil))):=fun br z I nb=>by
 refine è (hx.ld I ?_)
 refine pD ?_ he (by rw [he];rfl) rfl rfl
 rw [he]
 refine Η ((ha true).go .refl I (ev2 fun l s=>Out.of s (biD .max0 (l.map (look s.st)))) nb fun z1 x u y1 x1 I1 r1 e1=>Ξ ?_)
 show Α _ _ (H4 ((do let v ← eval eb X.env;Œ pos;pure v) :: [])) _ _ _
 refine Gu (ε ((hb true).go x1 I1 e1 nb fun z2 y v y2 x2 I2 r2 e2=>ε (æ (θ (GY ?_)))))
 refine cv x2 I2 e2 nb fun d q=>?_
 have c1:=(r1.rb.st y2 I2).cr I2
 have c2:=r2.rb.cr I2
 have q:wN .max0 (look z2.t.st x) (look z2.t.st y)=some d:=q
 revert q c1 c2
 generalize look z2.t.st x=x'
 generalize look z2.t.st y=y'
 intro c1 c2 q
 cases x' with
 | lst l=>
   cases y' with
   | int d0=>
     obtain ⟨ns,q1,rfl⟩:=ω.mp q
     obtain ⟨a0,o,vs,rfl,g,⟨⟨n,rfl⟩,hz⟩,r⟩:=c1
     obtain ⟨t,rfl⟩:=(show ∃ t,v=Ć d0 t from c2)
     exact yD (I2.hd hc) (show z2.s.heap.IsList a0 vs.toArray from ⟨_,g,rfl,n,rfl⟩) (kb q1 r) fun t h1 tk kp=>.flat (.hp kp) fun G=>⟨t,rfl⟩
   | _=>cases q
 | _=>cases q
end
theorem mQ:∀ {l bs vs},jG l=some bs→RDs W ρ G l vs→vs=bs.map ϥ
 | [],bs,vs,e,r=>by cases e;cases (show vs = [] from r);rfl
 | d :: l,bs,vs,e,r=>by
   cases d with
   | bl b=>
     obtain ⟨cs,q,rfl⟩:=ω.mp (show (jG l).map (b :: ·)=some bs from e)
     obtain ⟨v,r',rfl,h,tl⟩:=r
     cases (show v=ϥ b from h)
     rw [mQ q tl];rfl
   | _=>cases e
theorem sS (bs:List Bool):((Ŕ bs.length).all fun i=>(bs[i]?).getD true)=bs.all id:=by
 rw [G7,ϒ,ϒ]
 constructor
 ·intro h b hb
  obtain ⟨i,hi,rfl⟩:=EP.mp hb
  have:=h i (Ec.mpr hi)
  rw [Θ hi] at this
  exact this
 ·intro h i hi
  have hi:=Ec.mp hi
  rw [Θ hi]
  exact h _ (ň hi)
section
variable {X:Cx} {z:Z}
theorem wP (hc:X.calm=true):Bi1 X (.builtin "all") .all:=fun z u x d I h e=>by
 cases x with
 | lst l=>
   obtain ⟨bs,q,rfl⟩:=ω.mp (show (jG l).map (fun bs=>D.bl (bs.all id))=some d from e)
   obtain ⟨a,o,vs,rfl,g,⟨⟨n,rfl⟩,hz⟩,r⟩:=h
   have hv:=mQ q r
   have hi:z.s.heap.IsList a vs.toArray:=⟨_,g,rfl,n,rfl⟩
   have hlt:=Ο g
   refine call_all_walk (ĕ hi ?_)
   refine ⟨z.s.heap.objs.size,[z.s.heap.objs.size,a],[z.s.heap.objs.size],vs.toArray.size,_,_,fun i=>(bs[i]?).getD true,rfl,F0 (A:=X.A.in1) (I.hd hc) _ a (ϛ hlt) vs.toArray,⟨⟨_,ψ _ rfl,rfl,rfl⟩,hi.push _⟩,fun i v s' Q' E' hP hQ=>?_,fun h' tk hk=>?_⟩
   ·have hP:vs[i]? = some v:=by simpa using hP
    rw [hv,ϋ,ω] at hP
    obtain ⟨b,e,rfl⟩:=hP
    simp only [e,D8] at hQ
    exact Ϸ hQ
   ·have e:((Ŕ vs.toArray.size).all fun i=>(bs[i]?).getD true)=bs.all id:=by
     rw [Λ,hv,Ν];exact sS bs
    rw [e]
    exact .flat (.hp fun b o e=>hk b o (fun hm=>by rw [η.mp hm] at e;exact Ĝ _ (Ο e)) (ο _ e)) fun G=>rfl
 | _=>cases e
end
end L2.Ev
end
section
namespace L2.Ev
def isP (x y:ν):Option (PLift (x=y)):=match h:x == y with
 | true=>some ⟨by simpa using h⟩
 | false=>none
theorem jO:bp (.bi b es)=bp (.bi b .nil):=by cases b <;> rfl
abbrev zN (x:ν) (b:Bi):Prop:=∀ X:Cx,X.calm=true→∃ f,FB f∧Ė x=some f∧((Bi1 X f b∧bp (.bi b .nil)=false)∨sN X f b)
def Cj:List {q:ν×Bi // zN q.1 q.2}:=[
 ⟨("len",.len),fun X c=>⟨_,.inl ⟨_,rfl⟩,boot_len,.inl ⟨wR,rfl⟩⟩⟩,
 ⟨("tuple",.tuple),fun X c=>⟨_,.inr ⟨_,rfl⟩,Dt,.inl ⟨pv,rfl⟩⟩⟩,
 ⟨("list",.list),fun X c=>⟨_,.inr ⟨_,rfl⟩,DA,.inr sZ⟩⟩,
 ⟨("dict",.dict),fun X c=>⟨_,.inr ⟨_,rfl⟩,Hz,.inr sY⟩⟩,
 ⟨("all",.all),fun X c=>⟨_,.inl ⟨_,rfl⟩,boot_all,.inl ⟨wP c,rfl⟩⟩⟩,
 ⟨("abs",.abs),fun X c=>⟨_,.inl ⟨_,rfl⟩,boot_abs,.inl ⟨wO,rfl⟩⟩⟩,
 ⟨("str",.str),fun X c=>⟨_,.inr ⟨_,rfl⟩,DM,.inl ⟨wS,rfl⟩⟩⟩,
 ⟨("int",.int),fun X c=>⟨_,.inr ⟨_,rfl⟩,DN,.inl ⟨wQ,rfl⟩⟩⟩]
abbrev zO (x:ν) (b:Bi):Prop:=bp (.bi b .nil)=false∧∀ X:Cx,X.calm=true→∃ f,FB f∧Ė x=some f∧Bi2 X f b
def Ck:List {q:ν×Bi // zO q.1 q.2}:=[]
def sX {P:ν→Bi→Prop} (x:ν):List {q:ν×Bi // P q.1 q.2}→Option {b:Bi // P x b}
 | []=>none
 | q :: r=>match isP q.1.1 x with
   | some h=>some ⟨q.1.2,by rw [← h.down];exact q.2⟩
   | none=>sX x r
abbrev zV (x:ν) (b:Bi):Prop:=(b = .isTup∨b = .isStr∨b = .isBool∨b = .isInt∨b = .isLst∨b = .isDic)∧Ė x=some (.type (tyN b))
def tys:List {q:ν×Bi // zV q.1 q.2}:=[⟨("tuple",.isTup),.inl rfl,Dt⟩,⟨("str",.isStr),.inr (.inl rfl),DM⟩,⟨("bool",.isBool),.inr (.inr (.inl rfl)),HA⟩,⟨("int",.isInt),.inr (.inr (.inr (.inl rfl))),DN⟩]
section
variable {T:Ns} {nm:List (ν×Δ)} {N:List ν}
def gV (T:Ns) (nm:List (ν×Δ)) (x:ν):Option (PLift (x∈T.bl∧bN nm x=true)):=do
 let m ← qW x T.bl
 let g ← yes (bN nm x)
 some ⟨m.down,g.down⟩
theorem bO (k:CxOk T X nm N) (h:x∈T.bl∧bN nm x=true) (hv:Ė x=some u) (hn:x≠"__name__":=by decide) (hd:(x == ("__debug__":ν))=false:=by decide):Blt X x u:=⟨bD k.sc h.2,k.blt x h.1,hv,hn,hd⟩
def Co (f:∀ e,Option (GE T nm N e)) (x:ν) (p:ϭ) (hx:x≠"__name__") (hd:(x == ("__debug__":ν))=false) (m:x∈T.bl∧bN nm x=true):(es:List Κ)→(pos:ϭ)→Option (GE T nm N (.Call (.Name x p) es [] pos))
 | [e],pos=>do
   let he ← yes (aE e)
   let a ← f e
   let b ← sX x Cj
   some ⟨.bi b.1 (.cons a.1 .nil),fun X k=>by
    obtain ⟨fv,h1,h2,h3⟩:=b.2 X k.calm
    rcases h3 with ⟨h3,h4⟩ | h3
    ·exact mk (xT h3 h1 (bO k m h2 hx hd) (a.2 X k).1 (af he.down)) (jO.trans h4)
    ·exact mkf (yf h3 h1 (bO k m h2 hx hd) (a.2 X k).1 (af he.down))⟩
 | [e,g],pos=>do
   let he ← yes (aE e)
   let hg ← yes (aE g)
   let a ← f e
   let c ← f g
   let b ← sX x Ck
   some ⟨.bi b.1 (.cons a.1 (.cons c.1 .nil)),fun X k=>by
    obtain ⟨fv,h1,h2,h3⟩:=b.2.2 X k.calm
    exact mk (xU h3 h1 (bO k m h2 hx hd) (a.2 X k).1 (c.2 X k).1 (af he.down) (af hg.down)) (jO.trans b.2.1)⟩
 | _,_=>none
def vL (f:∀ e,Option (GE T nm N e)) (x:ν) (p:ϭ) (e:Κ) (er:List Κ) (pos:ϭ):Option (GE T nm N (.Call (.Name x p) (e :: er) [] pos)):=do
 let hd ← no (x == ("__debug__":ν))
 let hnm ← no (x == ("__name__":ν))
 let hg ← yes (bN nm x)
 match Cf x (dnA x (er.length+1) T.dn ++ T.alt) T.fn with
 | some j=>
   let hn ← yes (er.all aE)
   let he ← yes (aE e)
   let a ← du f (e :: er)
   some (if T.hc.contains x then ⟨.hcall j.1 a.1,fun X k=>by
    obtain ⟨n,fa,h1,h2,h3⟩:=k.fns j.1 x j.2
    exact mk (qB h1 h2 (bD k.sc hg.down) h3 (a.2 X k) hd.down (af he.down) (bF (ϒ.mp hn.down)))⟩ else ⟨.call j.1 a.1,fun X k=>by
    obtain ⟨n,fa,h1,h2,h3⟩:=k.fns j.1 x j.2
    exact mk (ua h1 h2 (bD k.sc hg.down) h3 (a.2 X k) hd.down (af he.down) (bF (ϒ.mp hn.down)))⟩)
 | none=>
   let m ← qW x T.bl
   Co f x p (by simpa using hnm.down) hd.down ⟨m.down,hg.down⟩ (e :: er) pos
def cIs (f:∀ e,Option (GE T nm N e)) (y:ν) (p:ϭ) (ea:Κ) (x:ν) (q pos:ϭ):Option (GE T nm N (.Call (.Name y p) [ea,.Name x q] [] pos)):=do
 let hy ← isP "isinstance" y
 let g1 ← gV T nm "isinstance"
 let g2 ← gV T nm x
 let b ← sX (P:=zV) x tys
 let hd ← no (x == ("__debug__":ν))
 let hnm ← no (x == ("__name__":ν))
 let he ← yes (aE ea)
 let a ← f ea
 some ⟨.bi b.1 (.cons a.1 .nil),fun X k=>by
  obtain rfl:=hy.down
  exact mk (A7 b.2.1 (bO k g1.down Hy) (bO k g2.down b.2.2 (by simpa using hnm.down) hd.down) (a.2 X k).1 (af he.down)) (by rcases b.2.1 with w | w | w | w | w | w <;> rw [w] <;> rfl)⟩
def CC (f:∀ e,Option (GE T nm N e)) (y:ν) (p:ϭ) (ea:Κ) (x:ν) (q pos:ϭ):Option (GE T nm N (.Call (.Name y p) [ea,.Name x q] [] pos)):=none
def CB (f:∀ e,Option (GE T nm N e)) (y:ν) (p:ϭ) (ea:Κ) (x1 x2 x3:ν) (q1 q2 q3:ϭ) (k:Nat) (q pos:ϭ):Option (GE T nm N (.Call (.Name y p) [ea,.Tuple [.Name x1 q1,.Name x2 q2,.Name x3 q3] k q] [] pos)):=none
def CJ (f:∀ e,Option (GE T nm N e)) (x y:ν) (p1 p2:ϭ) (ea:Κ) (pos2 pos:ϭ):Option (GE T nm N (.Call (.Name x p1) [.Call (.Name y p2) [ea] [] pos2] [] pos)):=do
 let hx ← isP "list" x
 let hy ← isP "reversed" y
 let g1 ← gV T nm "list"
 let g2 ← gV T nm "reversed"
 let he ← yes (aE ea)
 let a ← f ea
 some ⟨.bi .rev (.cons a.1 .nil),fun X k=>by
  obtain rfl:=hx.down
  obtain rfl:=hy.down
  exact mkf (yh k.calm (bO k g1.down DA) (bO k g2.down boot_reversed) (a.2 X k).1 (af he.down) rfl)⟩
def iu (f:∀ e,Option (GE T nm N e)) (tg e:Κ):Option (GI T nm N tg e):=(f e).map fun a=>⟨.itv a.1,fun X k=>C4 k.calm (a.2 X k).1⟩
def cR1 (f:∀ e,Option (GE T nm N e)) (tg:Κ) (x:ν) (p:ϭ) (a:Κ) (pos:ϭ):Option (GI T nm N tg (.Call (.Name x p) [a] [] pos)):=do
 let hx ← isP "range" x
 let g ← gV T nm "range"
 let he ← yes (aE a)
 let u ← f a
 some ⟨.it .range1 (.cons u.1 .nil),fun X k=>by
  obtain rfl:=hx.down
  exact ou k.calm (bO k g.down boot_range) (u.2 X k).1 (af he.down)⟩
def cR2 (f:∀ e,Option (GE T nm N e)) (tg:Κ) (x:ν) (p:ϭ) (a b:Κ) (pos:ϭ):Option (GI T nm N tg (.Call (.Name x p) [a,b] [] pos)):=none
def cE1 (f:∀ e,Option (GE T nm N e)) (ts:List Κ) (n:Nat) (tp:ϭ) (x:ν) (p:ϭ) (a:Κ) (pos:ϭ):Option (GI T nm N (.Tuple ts n tp) (.Call (.Name x p) [a] [] pos)):=do
 let hx ← isP "enumerate" x
 let g ← gV T nm "enumerate"
 let he ← yes (aE a)
 let u ← f a
 some ⟨.it .enum (.cons u.1 .nil),fun X k=>by
  obtain rfl:=hx.down
  exact ut k.calm (bO k g.down boot_enumerate) (u.2 X k).1 (af he.down)⟩
def cE2 (f:∀ e,Option (GE T nm N e)) (ts:List Κ) (n:Nat) (tp:ϭ) (x y:ν) (p:ϭ) (a b:Κ) (kp pos:ϭ):Option (GI T nm N (.Tuple ts n tp) (.Call (.Name x p) [a] [⟨some y,b,kp⟩] pos)):=do
 let hx ← isP "enumerate" x
 let hy ← isP "start" y
 let g ← gV T nm "enumerate"
 let he ← yes (aE a)
 let u ← f a
 let w ← f b
 some ⟨.it .enum2 (.cons u.1 (.cons w.1 .nil)),fun X k=>by
  obtain rfl:=hx.down
  obtain rfl:=hy.down
  exact qJ k.calm (bO k g.down boot_enumerate) (u.2 X k).1 (w.2 X k).1 (af he.down)⟩
def cZ2 (f:∀ e,Option (GE T nm N e)) (ts:List Κ) (n:Nat) (tp:ϭ) (x:ν) (p:ϭ) (a b:Κ) (pos:ϭ):Option (GI T nm N (.Tuple ts n tp) (.Call (.Name x p) [a,b] [] pos)):=do
 let hx ← isP "zip" x
 let g ← gV T nm "zip"
 let ha ← yes (aE a)
 let hb ← yes (aE b)
 let u ← f a
 let v ← f b
 some ⟨.it .zip2 (.cons u.1 (.cons v.1 .nil)),fun X k=>by
  obtain rfl:=hx.down
  exact uu k.calm (bO k g.down boot_zip) (u.2 X k).1 (v.2 X k).1 (af ha.down) (af hb.down)⟩
def cZ3 (f:∀ e,Option (GE T nm N e)) (ts:List Κ) (n:Nat) (tp:ϭ) (x:ν) (p:ϭ) (a b c:Κ) (pos:ϭ):Option (GI T nm N (.Tuple ts n tp) (.Call (.Name x p) [a,b,c] [] pos)):=do
 let hx ← isP "zip" x
 let g ← gV T nm "zip"
 let ha ← yes (aE a)
 let hb ← yes (aE b)
 let hc ← yes (aE c)
 let u ← f a
 let v ← f b
 let w ← f c
 some ⟨.it .zip3 (.cons u.1 (.cons v.1 (.cons w.1 .nil))),fun X k=>by
  obtain rfl:=hx.down
  exact uv k.calm (bO k g.down boot_zip) (u.2 X k).1 (v.2 X k).1 (w.2 X k).1 (af ha.down) (af hb.down) (af hc.down)⟩
def vO (f:∀ e,Option (GE T nm N e)):(tg e:Κ)→Option (GI T nm N tg e)
 | .Tuple ts n tp,.Call (.Name x p) [a] [] pos=>(cE1 f ts n tp x p a pos).orElse fun _=>iu f _ _
 | .Tuple ts n tp,.Call (.Name x p) [a] [⟨some y,b,kp⟩] pos=>cE2 f ts n tp x y p a b kp pos
 | .Tuple ts n tp,.Call (.Name x p) [a,b] [] pos=>(cZ2 f ts n tp x p a b pos).orElse fun _=>iu f _ _
 | .Tuple ts n tp,.Call (.Name x p) [a,b,c] [] pos=>(cZ3 f ts n tp x p a b c pos).orElse fun _=>iu f _ _
 | tg,.Call (.Name x p) [a] [] pos=>(cR1 f tg x p a pos).orElse fun _=>iu f _ _
 | tg,.Call (.Name x p) [a,b] [] pos=>(cR2 f tg x p a b pos).orElse fun _=>iu f _ _
 | tg,e=>iu f tg e
theorem aO (h:aV e=true):Ĉ e x env m=m:=by
 unfold Ĉ
 split
 ·have h':(_ != ("super":ν))=true:=h
  rw [ZZ (by rw [h'];rfl)]
 ·rfl
theorem r5 (h:∀ e∈es,aE e=true):((ϻ pos (Ε es env)).all fun x=>!x.1)=true:=by
 have:=bF (env:=env) (pos:=pos) h
 rw [List.all_eq_not_any_not]
 simpa using this
theorem qX (h1:aV o=true) (h2:∀ x∈es,aE x=true) (h3:es.length<30) (h4:(apos.endLine == pos.line)=true):eval (.Call (.Attribute o m apos) es [] pos) env=(do
 let ov ← eval o env
 Œ apos.atName
 let (f,first) ← holding [ov] (Ej ov m (do return (← importBound o env).getD true))
 Ţ pos f first (ϻ pos (Ε es env)) (Ï pos (Ϩ [] env))):=by
 have e0:eval (.Call (.Attribute o m apos) es [] pos) env=(do
  let ov ← Ĉ o m env (eval o env)
  Œ apos.atName
  methodCall o m apos pos env ov (es.length+([]:List ŭ).length) (ϻ pos (Ε es env)) (Ï pos (Ϩ [] env))):=rfl
 rw [e0,aO h1]
 have few:methodCallForm (es.length+([]:List ŭ).length) (ϻ pos (Ε es env)) (Ï pos (Ϩ [] env))=true:=by
  unfold methodCallForm
  rw [r5 h2]
  simp only [Et]
  show (true && decide (_<30))=true
  simp only [Et]
  apply ZW
  exact h3
 congr 1
 funext ov
 congr 1
 funext _
 unfold methodCall
 simp only [few]
 have e1:Ř true o env apos pos=pure pos:=by unfold Ř;rw [h4];rfl
 simp only [e1]
 rfl
def yG (m:ν):(l:List (ν×Nat×Nat))→Option {q:Nat×Nat // (m,q.1,q.2)∈l}
 | []=>none
 | (y,c,j) :: r=>match isP y m with
   | some h=>some ⟨(c,j),by obtain rfl:=h.down;exact ι⟩
   | none=>(yG m r).map fun i=>⟨i.1,κ _ i.2⟩
def CF (f:∀ e,Option (GE T nm N e)) (o:Κ) (m:ν) (ap:ϭ):(args:List Κ)→(pos:ϭ)→Option (GE T nm N (.Call (.Attribute o m ap) args [] pos))
 | [],pos=>do
   let q ← yG m T.me
   let hs ← yes (aV o)
   let hp ← yes (ap.endLine == pos.line)
   let a ← f o
   some ⟨.mth q.1.1 q.1.2 a.1 .nil,fun X k=>by
    obtain ⟨n,fa,h1,h2,h3⟩:=k.mts _ q.2
    exact mk (ug h1 h2 h3 (a.2 X k).1 (qX hs.down (fun x hx=>nomatch hx) (by decide) hp.down))⟩
 | e :: er,pos=>do
   let q ← yG m T.me
   let hs ← yes (aV o)
   let hp ← yes (ap.endLine == pos.line)
   let hn ← yes ((e :: er).all aE)
   let hl ← yes (decide ((e :: er).length<30))
   let a ← f o
   let b ← du f (e :: er)
   some ⟨.mth q.1.1 q.1.2 a.1 b.1,fun X k=>by
    obtain ⟨n,fa,h1,h2,h3⟩:=k.mts _ q.2
    have hn':=ϒ.mp hn.down
    exact mk (x9 h1 h2 h3 (a.2 X k).1 (b.2 X k) (af (hn' e ι)) (bF fun x hx=>hn' x (κ _ hx)) (qX hs.down hn' (by simpa using hl.down) hp.down))⟩
def Cy (f:∀ e,Option (GE T nm N e)) (o:Κ) (m:ν) (ap:ϭ):(args:List Κ)→(pos:ϭ)→Option (GE T nm N (.Call (.Attribute o m ap) args [] pos))
 | [e],pos=>do
   let hm ← isP "get" m
   let hs ← yes (aV o)
   let hp ← yes (ap.endLine == pos.line)
   let hn ← yes (aE e)
   let a ← f o
   let b ← f e
   some ⟨.get a.1 b.1 (.c .non),fun X k=>by
    obtain rfl:=hm.down
    exact mk (ub (a.2 X k).1 (b.2 X k).1 ⟨aO hs.down,by rw [af hn.down];rfl,hp.down,by rw [af hn.down];rfl⟩)⟩
 | [e,g],pos=>do
   let hm ← isP "get" m
   let hs ← yes (aV o)
   let hp ← yes (ap.endLine == pos.line)
   let hn ← yes (aE e)
   let hg ← yes (aE g)
   let a ← f o
   let b ← f e
   let c ← f g
   some ⟨.get a.1 b.1 c.1,fun X k=>by
    obtain rfl:=hm.down
    exact mk (uc (a.2 X k).1 (b.2 X k).1 (c.2 X k).1 ⟨aO hs.down,by rw [af hn.down,af hg.down];rfl,hp.down,by rw [af hn.down,af hg.down];rfl⟩)⟩
 | _,_=>none
def Av (f:∀ e,Option (GE T nm N e)) (m:ν) (ap:ϭ):(o:Κ)→(args:List Κ)→(pos:ϭ)→Option (GE T nm N (.Call (.Attribute o m ap) args [] pos))
 | .Name x p,[e,g],pos=>do
   let hm ← isP "get" m
   let hd ← no (x == ("__debug__":ν))
   let hg ← yes (bN nm x)
   let j ← bv x T.tb
   let hs ← yes (aV (.Name x p))
   let hp ← yes (ap.endLine == pos.line)
   let hn ← yes (aE e)
   let hg2 ← yes (aE g)
   let b ← f e
   let c ← f g
   some ⟨.tget j.1 b.1 c.1,fun X k=>by
    obtain rfl:=hm.down
    obtain ⟨t,ad,h1,h2,h3⟩:=k.tbs j.1 x j.2
    exact mk (uj (bD k.sc hg.down) h2 h1 h3 hd.down (b.2 X k).1 (c.2 X k).1 ⟨aO hs.down,by rw [af hn.down,af hg2.down];rfl,hp.down,by rw [af hn.down,af hg2.down];rfl⟩)⟩
 | _,_,_=>none
def wY (f:∀ e,Option (GE T nm N e)) (x:ν) (j:Nat) (p:ϭ) (m:ν) (ap:ϭ):(args:List Κ)→(pos:ϭ)→Option (GE T nm N (.Call (.Attribute (.Constant (.str x) j p) m ap) args [] pos))
 | [e],pos=>do
   let hm ← isP "join" m
   let hp ← yes (ap.endLine == pos.line)
   let hn ← yes (aE e)
   let a ← f e
   some ⟨.join x a.1,fun X k=>by
    obtain rfl:=hm.down
    exact mk (ue (a.2 X k).1 ⟨aO rfl,by rw [af hn.down];rfl,hp.down,by rw [af hn.down];rfl⟩)⟩
 | _,_=>none
def Cw (f:∀ e,Option (GE T nm N e)) (x:ν) (j1:Nat) (p1:ϭ) (e:Κ) (p2:ϭ) (y:ν) (j2:Nat) (p3 pos:ϭ):Option (GE T nm N (.JoinedStr [.Constant (.str x) j1 p1,.FormattedValue e (-1) none p2,.Constant (.str y) j2 p3] pos)):=do
 let hx ← yes (decide (x.length≤1000))
 let hy ← yes (decide (y.length≤1000))
 let a ← f e
 some ⟨.fmt x a.1 y,fun X k=>mk (xX (by simpa using hx.down) (by simpa using hy.down) (a.2 X k).1)⟩
def CL (f:∀ e,Option (GE T nm N e)) (a:Κ) (lo:Option Κ) (st:Κ) (p2 pos:ϭ):Option (GE T nm N (.Subscript a (.Slice lo none (some st) p2) pos)):=none
def Ah (f:∀ e,Option (GE T nm N e)) (x:ν) (p:ϭ):(args:List Κ)→(pos:ϭ)→Option (GE T nm N (.Call (.Name x p) args [] pos))
 | [],pos=>do
   let j ← bv x T.nw
   let hz ← no (x == ("":ν))
   let hd ← no (x == ("__debug__":ν))
   let hg ← yes (bN nm x)
   some ⟨.new j.1 .nil,fun X k=>by
    obtain ⟨n,fa,i,cl,h1,h4,h5,h6,h7,h8,h9,h10⟩:=k.nws j.1 x j.2 (by simpa using hz.down)
    exact mk (uh h1 h4 h5 h6 h7 h8 h9 (bD k.sc hg.down) h10 hd.down)⟩
 | e :: er,pos=>do
   let j ← bv x T.nw
   let hz ← no (x == ("":ν))
   let hd ← no (x == ("__debug__":ν))
   let hg ← yes (bN nm x)
   let hn ← yes ((e :: er).all aE)
   let a ← du f (e :: er)
   some ⟨.new j.1 a.1,fun X k=>by
    obtain ⟨n,fa,i,cl,h1,h4,h5,h6,h7,h8,h9,h10⟩:=k.nws j.1 x j.2 (by simpa using hz.down)
    have hn':=ϒ.mp hn.down
    exact mk (yb h1 h4 h5 h6 h7 h8 h9 (bD k.sc hg.down) h10 (a.2 X k) hd.down (af (hn' e ι)) (bF fun y hy=>hn' y (κ _ hy)))⟩
def Ai (f:∀ e,Option (GE T nm N e)) (x:ν) (p:ϭ):(args:List Κ)→(pos:ϭ)→Option (GE T nm N (.Call (.Name x p) args [] pos))
 | [],pos=>none
 | e :: er,pos=>do
   let j ← bv x T.nd
   let hz ← no (x == ("":ν))
   let hd ← no (x == ("__debug__":ν))
   let hg ← yes (bN nm x)
   let hn ← yes ((e :: er).all aE)
   let a ← du f (e :: er)
   some ⟨.newd j.1 a.1,fun X k=>by
    obtain ⟨n,fa,fd,ps,i,cl,h1,h2,h3,h4,h5,h6,h7,h8,h9,h10,h11⟩:=k.nds j.1 x j.2 (by simpa using hz.down)
    have hn':=ϒ.mp hn.down
    exact mk (ui h1 h2 h3 h4 h5 h6 h7 h8 h9 h10 (bD k.sc hg.down) h11 (a.2 X k) hd.down (af (hn' e ι)) (bF fun y hy=>hn' y (κ _ hy)))⟩
def Ab (f:∀ e,Option (GE T nm N e)):(e:Κ)→Option (GE T nm N e)
 | .List er pos=>(du f er).map fun a=>⟨.newl a.1,fun X k=>mk (my (a.2 X k))⟩
 | e=>f e
def wU (f:∀ e,Option (GE T nm N e)) (x:ν) (p:ϭ) (e:Κ) (er:List Κ) (pos:ϭ):Option (GE T nm N (.Call (.Name x p) (e :: er) [] pos)):=
 match qW x T.mu with
 | some _=>vL (Ab f) x p e er pos
 | none=>vL f x p e er pos
end
section
variable {X:Cx} {z:Z} {pos:ϭ}
def LP (X:Cx) (pos:ϭ) (keys:List (Option Κ)) (vals:List Κ) (ks:List ν) (es:E):Prop:=
 Jg X (evalPairs (pairTrees keys vals X.env pos)) (X.evs false es) fun z ds us=>∃ vs,Carries (aR X.W.P X.W.w) us ((ks.map Ě:List Key).zip vs)∧RDs X.W z.ρ z.G ds vs
theorem yj:LP X pos [] [] [] .nil:=fun z I nb=>pairTrees_nil_walk ⟨z,[],rfl,rfl,.refl,I,[],Ĩ,rfl⟩
theorem uy (ha:LE X e a) (hr:LP X pos keys vals ks es):LP X pos (some (.Constant (.str x) j p) :: keys) (e :: vals) (x :: ks) (.cons a es):=fun z I nb=>
 pairTrees_cons_walk (à (by
  have g:=ak (s':={ z.s with toks:=z.s.toks+1 }) I.gh .tok
  exact (ha false).go (z:=z) (z1:={ z with s:={ z.s with toks:=z.s.toks+1 } }) g.ee (I.grow g) rfl nb fun z1 d u y1 x1 I1 r1 e1=>hr.go x1 I1 e1 nb fun z2 l us y2 x2 I2 r2 e2=>by
   obtain ⟨vs,c,r⟩:=r2
   exact ⟨z2,d :: l,rfl,e2,x2,I2,u :: vs,⟨fh _ _ _ _,rfl,c⟩,.cons (r1.rd.st y2.st) r⟩))
theorem ul (h:LP X pos keys vals ks es) (hall:keys.all (·.isSome)=true) (hl:keys.length=vals.length) (h0:keys≠[]) (h15:keys.length≤15):LF X (.Dict keys vals pos) (.dicc ks es):=fun z I nb=>by
 have g:=ak (s':={ z.s with heap:=z.s.heap.push { cls:=.type "dict",data:=.dict #[] } }) I.gh (.push (t:=z.s.toks))
 have I1:=I.grow g
 have f:=I.fre (aB z)
 have nob1:Nob X z { z with s:={ z.s with heap:=z.s.heap.push { cls:=.type "dict",data:=.dict #[] } } } z.s.heap.objs.size:=⟨aB z,f.1,f.2⟩
 have d0:=ŷ (knd:=aR X.W.P X.W.w) z.s.heap
 refine wpAny_Dict_walk (knd:=aR X.W.P X.W.w) hall hl h0 h15 (h.go (z:=z) (z1:={ z with s:={ z.s with heap:=z.s.heap.push { cls:=.type "dict",data:=.dict #[] } } }) (f:=fun l s=>.of s (l8 ks l)) g.ee I1 rfl nb fun z2 l us y2 x2 I2 r2 e2=>?_)
 obtain ⟨vs,c,r⟩:=r2
 unfold l8 at e2
 by_cases q:ks.length=l.length∧ks.Nodup∧ks.length≤15∧ks≠[]
 ·rw [ZZ q] at e2
  obtain ⟨o,es,ep,h1,h2,h3,h4,h5,h6⟩:=d0
  obtain ⟨n2,hp2⟩:=nob1.go y2.go h1
  have lv:(ks.map Ě:List Key).length=vs.length:=by rw [Ν,q.1];exact r.len
  have km:((ks.map Ě:List Key).zip vs).map (·.1)=ks.map Ě:=by rw [FR];exact Nat.le_of_eq lv
  have nd:(((ks.map Ě:List Key).zip vs).map (·.1)).Nodup:=by rw [km];exact List.Pairwise.map _ (fun a b h w=>h (Gg w)) q.2.1
  refine ⟨_,c,⟨o,es,ep,hp2,h2,h3,h4,h5,h6⟩,fun h' hd sb=>?_⟩
  rw [merged_nil_of_nodup _ nd] at hd
  obtain ⟨o',es',ep',h1',h2',h3',h4',h5',h6'⟩:=hd
  obtain ⟨I3,S3,g3,n3⟩:=Rep.turn (s':={ z2.s with heap:=h',toks:=z2.s.toks+us.length }) (wr:=[z.s.heap.objs.size]) x2.st I2 (fun b m=>by cases η.mp m;exact ⟨n2,o,hp2⟩) (fun b o m e=>(sb.2 b fun w=>m (w ▸ η.mpr rfl)).trans e) ⟨rfl,rfl⟩
  obtain ⟨m0,m1,m2⟩:=n3 _ (η.mpr rfl)
  exact ⟨z2.up _,.dic (ks.map .inr) l,rfl,e2,⟨S3,x2.sg,x2.en,x2.ow⟩,I3,z.s.heap.objs.size,.dic (ks.map .inr) l,rfl,m0,rfl,⟨o',vs,rfl,ZU.mpr (Æ I.sysm),h1',⟨es',ep',h2',h3',h4',h5',h6',by rw [ϸ,← lv,Đ,Ν];exact Ϣ q.2.2.1 (by decide)⟩,by rw [Ν];exact q.1,r.mono (μ _) g3⟩,m1,m2⟩
 ·rw [ZY q] at e2;exact ZX e2 nb
end
section
variable {T:Ns} {nm:List (ν×Δ)} {N:List ν}
def pA (f:∀ e,Option (GE T nm N e)) (pos:ϭ):(keys:List (Option Κ))→(vals:List Κ)→Option {q:List ν×E // keys.all (·.isSome)=true∧keys.length=vals.length∧∀ X,CxOk T X nm N→LP X pos keys vals q.1 q.2}
 | [],[]=>some ⟨([],.nil),rfl,rfl,fun X k=>yj⟩
 | some (.Constant (.str x) j p) :: ks,e :: vs=>do
   let a ← f e
   let q ← pA f pos ks vs
   some ⟨(x :: q.1.1,.cons a.1 q.1.2),by simpa using q.2.1,by simp [q.2.2.1],fun X k=>uy (a.2 X k).1 (q.2.2.2 X k)⟩
 | _,_=>none
def Ac (f:∀ e,Option (GE T nm N e)) (keys:List (Option Κ)) (vals:List Κ) (pos:ϭ):Option (GE T nm N (.Dict keys vals pos)):=do
 let q ← pA f pos keys vals
 let h15 ← yes (decide (keys.length≤15))
 let h0 ← no keys.isEmpty
 some ⟨.dicc q.1.1 q.1.2,fun X k=>mkf (ul (q.2.2.2 X k) q.2.1 q.2.2.1 (by simpa using h0.down) (by simpa using h15.down))⟩
end
def gb (fn:Bool) (nm:List (ν×Δ)) (x:ν):Bool:=nm.lookup x == some .local || (fn && nm.lookup x == some .cell)
structure TgH (nm:List (ν×Δ)) (N:List ν) (X:Cx):Prop where
 calm:X.calm=true
 hN:X.N=N
 nd:N.Nodup
 sc:X.env.scope.names=nm
theorem gL {fn:Bool} (h:TgH nm N X) (hl:gb fn nm x=true):Loc X.env.scope x:=by
 have l1:nm.lookup x=some .local∨(fn=true∧nm.lookup x=some .cell):=by
  unfold gb at hl
  simpa using hl
 show X.env.scope.names.lookup x=_∨X.env.scope.names.lookup x=_
 rw [h.sc]
 exact l1.imp id DS
def Pl (nm:List (ν×Δ)) (N:List ν) (t:List Nat):Prop:=∀ i∈t,∀ x,N[i]? = some x→nm.lookup x=some .local
theorem rC {nm:List (ν×Δ)} {N:List ν} {i:Nat} {x:ν} (hi:N[i]? = some x) (hl:gb false nm x=true):∀ y,N[i]? = some y→nm.lookup y=some .local:=fun y e=>by
 rw [hi] at e;cases e
 unfold gb at hl
 simpa using hl
structure zU (fn:Bool) (nm:List (ν×Δ)) (N:List ν) (es:List Κ) (t:List Nat):Prop where
 len:∀ env,(ġ es env).length=t.length
 fst:∀ env,(ġ es env).findIdx? (·.1)=none
 as_:∀ X,TgH nm N X→As X ((ġ es X.env).map (·.2)) t
 pl:fn=false→Pl nm N t
def zA (fn:Bool) (nm:List (ν×Δ)) (N:List ν):(es:List Κ)→Option {t:List Nat // zU fn nm N es t}
 | []=>some ⟨[],fun _=>rfl,fun _=>rfl,fun X h=>trivial,fun _ i m=>nomatch m⟩
 | .Name x p :: r=>do
   let i ← bv x N
   let hl ← yes (gb fn nm x)
   let t ← zA fn nm N r
   some ⟨i.1 :: t.1,fun env=>ZS (· + 1) (t.2.len env),fun env=>by
    show List.findIdx? _ ((false,assign (.Name x p) env) :: ġ r env)=none
    rw [List.findIdx?_cons,t.2.fst env];rfl,fun X h=>⟨⟨x,by rw [h.hN];exact i.2,gL h hl.down,fun q=>DX q⟩,t.2.as_ X h⟩,fun hf j m y e=>by
    rcases π.mp m with w | w
    ·rw [w] at e;exact rC i.2 (hf ▸ hl.down) y e
    ·exact t.2.pl hf j w y e⟩
 | _=>none
def tgP (fn:Bool) (nm:List (ν×Δ)) (N:List ν):(tg:Κ)→Option {q:List Nat×Bool // (∀ X,TgH nm N X→LG X tg q.1 q.2)∧(fn=false→Pl nm N q.1)}
 | .Name x p=>do
   let i ← bv x N
   let hl ← yes (gb fn nm x)
   some ⟨([i.1],true),fun X h=>uq (by rw [h.hN];exact h.nd) (by rw [h.hN];exact i.2) (gL h hl.down),fun hf j m y e=>by rw [η.mp m] at e;exact rC i.2 (hf ▸ hl.down) y e⟩
 | .Tuple es k p=>do
   let t ← zA fn nm N es
   some ⟨(t.1,false),fun X h=>qI h.calm (by rw [h.hN];exact h.nd) (t.2.as_ X h) (t.2.len _) (t.2.fst _),t.2.pl⟩
 | _=>none
def eB:Κ→List ν
 | .Name x _=>[x]
 | .Tuple es _ _=>es.filterMap fun e=>match e with | .Name x _=>some x | _=>none
 | _=>[]
def fi (nm:List (ν×Δ)) (sc:Ē):List (ν×Δ):=sc.names.map fun y=>if (y.2 == .free && nm.lookup y.1 == some .cell)=true then (y.1,.cell) else (y.1,y.2)
def yR (nm:List (ν×Δ)) (p:ν×ν):Bool:=match nm.lookup p.1 with
 | some .local=>false
 | some .cell=>p.1 == p.2
 | some .free=>p.1 == p.2
 | _=>true
def ndB:List ν→Bool
 | []=>true
 | x :: r=>!r.contains x && ndB r
theorem wg:∀ {l},ndB l=true→l.Nodup
 | [],_=>List.nodup_nil
 | x :: r,h=>by
   have h':r.contains x=false∧ndB r=true:=by simpa [ndB] using h
   refine ϔ.mpr ⟨fun m=>?_,wg h'.2⟩
   have:r.contains x=true:=by simpa using m
   rw [h'.1] at this
   cases this
def jQ (own:List ν) (N:List ν):List ν:=own ++ N.map fun y=>if own.contains y then ⟨y.cps.push (1200000+N.length)⟩ else y
def lcB (nm:List (ν×Δ)) (N N':List ν) (sc:Ē) (k:Nat):Bool:=
 (sc.names.all fun y=>y.2 != .cell) && sc.kind == .function && (sc.names.all fun y=>y.2 != .local || sc.names.lookup y.1 == some .local) &&
 (sc.names.all fun y=>y.2 != .free || (nm.lookup y.1 == some .cell || nm.lookup y.1 == some .free)) && N'.length == k+N.length && ((N'.drop k).zip N).all (yR (fi nm sc)) && ndB N'
section
variable {T:Ns} {nm:List (ν×Δ)} {N N':List ν} {X:Cx} {sc:Ē}
theorem eh (k:CxOk T X nm N):(relabel sc X.env).names=fi nm sc:=by
 unfold relabel fi
 dsimp only
 congr 1
 funext y
 rw [k.kd,show X.env.kindOf y.1=nm.lookup y.1 by rw [← k.sc];rfl]
 simp
theorem A6 (k:CxOk T X nm N) (h:lcB nm N N' sc n=true):Lcn X sc n N'∧N'.Nodup:=by
 unfold lcB at h
 simp only [Υ] at h
 obtain ⟨⟨⟨⟨⟨⟨h1,h2⟩,h3⟩,h4⟩,h5⟩,h6⟩,h7⟩:=h
 have kk:∀ x,X.env.kindOf x=nm.lookup x:=fun x=>by rw [← k.sc];rfl
 refine ⟨A5 h1 (by simpa using h2) h3 (by simp only [kk];exact h4) (by rw [k.hN];simpa using h5) ?_,wg h7⟩
 rw [k.hN]
 have e:iH sc X.env=yR (fi nm sc):=by
  funext p
  unfold iH yR
  rw [eh k]
  all_goals rfl
 rw [e]
 exact h6
theorem dC.cx (h:dC X an c k i):dC (cxC X N' sc C) an c k i:=⟨h.ci,h.cls,h.na,h.wh,h.nm,h.nd,h.xc⟩
theorem CxOk.inner (k:CxOk T X nm N) (L:Lcn X sc n N') (nd:N'.Nodup) :CxOk T (cxC X N' sc C) (fi nm sc) N' where
 hN:=rfl
 nd:=nd
 sc:=eh k
 kd:=L.kind
 calm:=k.calm
 fns:=fun j x h=>let ⟨n,f,h1,h2,h3⟩:=k.fns j x h;⟨n,f,bX.to (X:=X) h1,h2,h3⟩
 gls:=k.gls
 tbs:=k.tbs
 blt:=k.blt
 cls:=fun c cl h=>let ⟨i,h1⟩:=k.cls c cl h;⟨i,h1.cx⟩
 mts:=fun q h=>let ⟨n,f,h1,h2,⟨i,cl,a,b,c⟩⟩:=k.mts q h;⟨n,f,bX.to (X:=X) h1,h2,⟨i,cl,a,b.cx,c⟩⟩
 nws:=fun j x h hz=>let ⟨n,f,i,cl,h1,h2⟩:=k.nws j x h hz;⟨n,f,i,cl,bX.to (X:=X) h1,h2⟩
 nds:=fun j x h hz=>let ⟨n,f,fd,ps,i,cl,h1,h2⟩:=k.nds j x h hz;⟨n,f,fd,ps,i,cl,FnI.to (X:=X) h1,h2⟩
 hxs:=k.hxs
def CA (g:∀ e,Option (GT T nm N e)):(ifs:List Κ)→Option {c:E // ∀ X,CxOk T X nm N→LTs X ifs c}
 | []=>some ⟨.c (.bl true),fun X k=>uK⟩
 | [c]=>(g c).map fun x=>⟨x.1,fun X k=>uL (x.2 X k)⟩
 | _=>none
def Af (f:aJ T) (g:gR T) (nm:List (ν×Δ)) (N:List ν) (ee tg iter:Κ) (ifs:List Κ) (sc:Ē):Option {q:(List Nat×Bool)×E×E×E // ∀ X,CxOk T X nm N→LcP X (jQ (eB tg) N) ee tg iter ifs sc q.1.1 q.1.2 q.2.1 q.2.2.1 q.2.2.2}:=do
 let it ← vO (f nm N) tg iter
 let q ← tgP false (fi nm sc) (jQ (eB tg) N) tg
 let h0 ← yes (q.1.1.all fun i=>decide (i<q.1.1.length))
 let hl ← yes (lcB nm N (jQ (eB tg) N) sc q.1.1.length)
 let c ← CA (g (fi nm sc) (jQ (eB tg) N)) ifs
 let e ← f (fi nm sc) (jQ (eB tg) N) ee
 let hn ← yes (aE iter)
 some ⟨(q.1,it.1,e.1,c.1),fun X k=>by
  obtain ⟨L,nd⟩:=A6 k hl.down
  exact ⟨k.calm,L,it.2 X k,fun C=>q.2.1 (cxC X _ sc C) ⟨k.calm,rfl,nd,eh k⟩,fun i m x e=>by rw [eh k];exact q.2.2 rfl i m x e,fun C=>c.2 _ (k.inner L nd),fun C=>(e.2 _ (k.inner L nd)).1,iB hn.down⟩⟩
def cLC (f:aJ T) (g:gR T) (nm:List (ν×Δ)) (N:List ν) (ee tg iter:Κ) (ifs:List Κ) (sc:Ē) (pos:ϭ):Option (GE T nm N (.ListComp ee [⟨tg,iter,ifs,0⟩] sc pos)):=
 (Af f g nm N ee tg iter ifs sc).map fun q=>⟨.lc q.1.1.1 q.1.1.2 q.1.2.1 q.1.2.2.1 q.1.2.2.2,fun X k=>mkf (qH (q.2 X k))⟩
end
theorem lT (h:(match e with | .Compare ..=>false | .BoolOp ..=>false | .UnaryOp ..=>false | .IfExp ..=>false | .NamedExpr ..=>false | _=>true)=true):GF e env whole=(do let v ← whole;Œ e.pos;holding [v] (truthy v)):=by
 cases e <;> first | rfl | cases h
section
variable {T:Ns}
theorem qR {X:Cx} {o p:Op} (ho:Op2 X (Ú op) (opD o)) (hp:Op2 X (Ú op') (opD p)) (ha:LE X ea a) (hb:LE X eb b) (hc:LE X ec c) (hm:Hg [op,op'] [eb,ec]=false):LT X (.Compare ea [op,op'] [eb,ec] pos) (.chain o p a b c):=fun z I nb=>
 isTrue_chain ((ha true).go .refl I (au ..) nb fun z1 x u y1 x1 I1 r1 e1=>test_link ((hb true).go x1 I1 (e1.trans (au ..)) nb fun z2 y v y2 x2 I2 r2 e2=>by
  cases q:opD o (look z2.t.st x) (look z2.t.st y) with
  | none=>rw [q] at e2;exact ZX e2 nb
  | some d=>
    rw [q] at e2
    refine Τ (ho z2 u v _ _ d I2 ((r1.rb.st y2 I2).cr I2) (r2.rb.cr I2) q) (fun w s' k=>?_) fun _ _ z=>z.elim
    cases d with
    | bl t=>
      cases (show w=ϥ t from k.2)
      have g:=bY I2.gh k.1
      refine Ϸ ?_
      cases t with
      | false=>exact ite_ff ⟨z2.up s',false,rfl,e2,x2.trans g.ee,I2.grow g,rfl⟩
      | true=>exact ite_tt (test_last ((hc true).go (x2.trans g.ee) (I2.grow g) (e2.trans (au ..)) nb fun z4 w' v' y4 x4 I4 r4 e4=>by
        cases q4:opD p (look z4.t.st y) (look z4.t.st w') with
        | none=>rw [q4] at e4;exact ZX e4 nb
        | some d4=>rw [q4] at e4;exact Τ (hp z4 v v' _ _ d4 I4 (((r2.rb.st g.ee (I2.grow g)).st y4 I4).cr I4) (r4.rb.cr I4) q4) (fun c s' k=>k.tru x4 I4 e4 nb) fun _ _ z=>z.elim))
    | _=>exact ZX e2 nb)) hm
abbrev GC (T:Ns) (nm:List (ν×Δ)) (N:List ν) (e:Κ):={c:E // ∀ X,CxOk T X nm N→(LE X e c∧bp c=false)∧LT X e c}
def wV (f:aJ T) (nm:List (ν×Δ)) (N:List ν) (a:Κ) (op:CmpOp) (b:Κ) (pos:ϭ):Option (GC T nm N (.Compare a [op] [b] pos)):=do
 let o ← w9 op
 let hb ← yes (aE b)
 let x ← f nm N a
 let y ← f nm N b
 some ⟨.op o.1 x.1 y.1,fun X k=>⟨⟨xV (o.2 X) (x.2 X k).1 (y.2 X k).1 (gm hb.down),rfl⟩,yx (o.2 X) (x.2 X k).1 (y.2 X k).1 (gm hb.down)⟩⟩
def w7 (f:aJ T) (nm:List (ν×Δ)) (N:List ν) (a:Κ) (x:ν) (p pos:ϭ):Option (GC T nm N (.Compare a [.In] [.Name x p] pos)):=do
 let hd ← no (x == ("__debug__":ν))
 let hg ← yes (bN nm x)
 let j ← bv x T.tb
 let y ← f nm N a
 some ⟨.tabin j.1 y.1,fun X k=>by
  obtain ⟨t,ad,h1,h2,h3⟩:=k.tbs j.1 x j.2
  exact ⟨⟨qD (bD k.sc hg.down) h2 h1 h3 (y.2 X k).1 hd.down rfl,rfl⟩,qS (bD k.sc hg.down) h2 h1 h3 (y.2 X k).1 hd.down rfl⟩⟩
def Cr (f:aJ T) (nm:List (ν×Δ)) (N:List ν) (a:Κ) (b:Κ) (pos:ϭ):Option (GC T nm N (.Compare a [.Eq] [b] pos)):=none
def vM (f:aJ T) (nm:List (ν×Δ)) (N:List ν):(a:Κ)→(ops:List CmpOp)→(bs:List Κ)→(pos:ϭ)→Option (GC T nm N (.Compare a ops bs pos))
 | a,[.Is],[.Constant .none j p],pos=>(f nm N a).map fun x=>⟨.isN x.1,fun X k=>⟨⟨xY (x.2 X k).1 rfl,rfl⟩,yy (x.2 X k).1 rfl⟩⟩
 | a,[.IsNot],[.Constant .none j p],pos=>(f nm N a).map fun x=>⟨.isNN x.1,fun X k=>⟨⟨ud (x.2 X k).1 rfl,rfl⟩,uJ (x.2 X k).1 rfl⟩⟩
 | a,[.In],[.Name x p],pos=>(w7 f nm N a x p pos).orElse fun _=>wV f nm N a .In (.Name x p) pos
 | a,[.Eq],[.Tuple es k p],pos=>(Cr f nm N a (.Tuple es k p) pos).orElse fun _=>wV f nm N a .Eq (.Tuple es k p) pos
 | a,[op],[b],pos=>wV f nm N a op b pos
 | a,[op,op'],[b,c],pos=>do
   let o ← w9 op
   let o' ← w9 op'
   let h ← no (Hg [op,op'] [b,c])
   let x ← f nm N a
   let y ← f nm N b
   let z ← f nm N c
   some ⟨.chain o.1 o'.1 x.1 y.1 z.1,fun X k=>⟨⟨qA (o.2 X) (o'.2 X) (x.2 X k).1 (y.2 X k).1 (z.2 X k).1 h.down,rfl⟩,qR (o.2 X) (o'.2 X) (x.2 X k).1 (y.2 X k).1 (z.2 X k).1 h.down⟩⟩
 | _,_,_,_=>none
def CP (f:aJ T) (nm:List (ν×Δ)) (N:List ν) (x:ν) (p:ϭ) (b:Κ) (pos:ϭ):Option (GE T nm N (.Subscript (.Name x p) b pos)):=do
 let hd ← no (x == ("__debug__":ν))
 let hg ← yes (bN nm x)
 let j ← bv x T.tb
 let hb ← yes (aE b)
 let y ← f nm N b
 some ⟨.tab j.1 y.1,fun X k=>by
  obtain ⟨t,ad,h1,h2,h3⟩:=k.tbs j.1 x j.2
  exact mk (yd (bD k.sc hg.down) h2 h1 h3 (y.2 X k).1 (gB hb.down) hd.down fun _=>rfl)⟩
def cIx (f:aJ T) (nm:List (ν×Δ)) (N:List ν) (a b:Κ) (pos:ϭ):Option (GE T nm N (.Subscript a b pos)):=do
 let hb ← yes (aE b)
 let x ← f nm N a
 let y ← f nm N b
 some ⟨.ix x.1 y.1,fun X k=>mk (A8 (x.2 X k).1 (y.2 X k).1 (gB hb.down))⟩
theorem pQ (e:T.an i=x) (T':cm X T.an) (hy:LE X a y) (hs:aV a=true):LE X (.Attribute a x pos) (.fld y i):=by
 subst e
 exact xW T' zL hy (aO hs)
theorem ij (h:T.at_[i]? = some x):T.an i=x:=by unfold Ns.an;rw [Ī,h];rfl
def kQ {nm:List (ν×Δ)} {N:List ν} (f:∀ e,Option (GE T nm N e)) (x:ν) (p:ϭ) (e:Κ) (er:List Κ) (pos:ϭ):Option (GE T nm N (.Call (.Name x p) (e :: er) [] pos)):=((wU f x p e er pos).orElse fun _=>Ah f x p (e :: er) pos).orElse fun _=>Ai f x p (e :: er) pos
def cUn (f:aJ T) (nm:List (ν×Δ)) (N:List ν) (a:Κ) (pos:ϭ):(op:UnaryOp)→Option (GE T nm N (.UnaryOp op a pos))
 | .USub=>(f nm N a).map fun x=>⟨.neg x.1,fun X k=>mk (ya (x.2 X k).1)⟩
 | .Not=>(f nm N a).map fun x=>⟨.not x.1,fun X k=>mk (yc (x.2 X k).1)⟩
 | _=>none
def CM (f:aJ T) (nm:List (ν×Δ)) (N:List ν) (a:Κ) (lo:Option Κ) (p2 pos:ϭ):(hi st:Option Κ)→Option (GE T nm N (.Subscript a (.Slice lo hi st p2) pos))
 | hi,none=>do
   let x ← f nm N a
   let l ← Aj (f nm N) lo
   let h ← Aj (f nm N) hi
   some ⟨.sl x.1 l.1 h.1,fun X k=>mk (Bc (x.2 X k).1 (l.2 X k) (h.2 X k))⟩
 | none,some st=>CL (f nm N) a lo st p2 pos
 | _,_=>none
def cTa (f:aJ T) (nm:List (ν×Δ)) (N:List ν) (b:Κ) (pos:ϭ):(a:Κ)→Option (GE T nm N (.Subscript a b pos))
 | .Name x p=>CP f nm N x p b pos
 | _=>none
def CO (f:aJ T) (nm:List (ν×Δ)) (N:List ν) (a:Κ) (pos:ϭ):(b:Κ)→Option (GE T nm N (.Subscript a b pos))
 | .Slice lo hi st p2=>CM f nm N a lo p2 pos hi st
 | b=>(cTa f nm N b pos a).orElse fun _=>cIx f nm N a b pos
def Ap (f:aJ T) (nm:List (ν×Δ)) (N:List ν) (x y:ν) (p p2:ϭ) (a:Κ) (pos2 pos:ϭ):Option (GE T nm N (.Call (.Name x p) [.Call (.Name y p2) [a] [] pos2] [] pos)):=none
def cRv (f:aJ T) (nm:List (ν×Δ)) (N:List ν) (x:ν) (p:ϭ) (pos:ϭ):(a:Κ)→Option (GE T nm N (.Call (.Name x p) [a] [] pos))
 | .Call (.Name y p2) [a] [] pos2=>(CJ (f nm N) x y p p2 a pos2 pos).orElse fun _=>Ap f nm N x y p p2 a pos2 pos
 | _=>none
def cIz (f:aJ T) (nm:List (ν×Δ)) (N:List ν) (x:ν) (p:ϭ) (a:Κ) (pos:ϭ):(b:Κ)→Option (GE T nm N (.Call (.Name x p) [a,b] [] pos))
 | .Name y q=>(cIs (f nm N) x p a y q pos).orElse fun _=>CC (f nm N) x p a y q pos
 | .Tuple [.Name x1 q1,.Name x2 q2,.Name x3 q3] k q=>CB (f nm N) x p a x1 x2 x3 q1 q2 q3 k q pos
 | _=>none
def Cq (f:aJ T) (nm:List (ν×Δ)) (N:List ν) (x:ν) (p:ϭ) (pos:ϭ):(args:List Κ)→Option (GE T nm N (.Call (.Name x p) args [] pos))
 | []=>Ah (f nm N) x p [] pos
 | [a]=>(cRv f nm N x p pos a).orElse fun _=>kQ (f nm N) x p a [] pos
 | [a,b]=>(cIz f nm N x p a pos b).orElse fun _=>kQ (f nm N) x p a [b] pos
 | e :: er=>kQ (f nm N) x p e er pos
def cSJ (f:aJ T) (nm:List (ν×Δ)) (N:List ν) (m:ν) (ap:ϭ) (args:List Κ) (pos:ϭ):(o:Κ)→Option (GE T nm N (.Call (.Attribute o m ap) args [] pos))
 | .Constant (.str x) j p=>wY (f nm N) x j p m ap args pos
 | _=>none
def Cp (f:aJ T) (nm:List (ν×Δ)) (N:List ν) (o:Κ) (m:ν) (ap:ϭ) (args:List Κ) (pos:ϭ):Option (GE T nm N (.Call (.Attribute o m ap) args [] pos)):=
 (((cSJ f nm N m ap args pos o).orElse fun _=>Av (f nm N) m ap o args pos).orElse fun _=>Cy (f nm N) o m ap args pos).orElse fun _=>CF (f nm N) o m ap args pos
def cMx (f:aJ T) (nm:List (ν×Δ)) (N:List ν) (x y:ν) (p:ϭ) (a b:Κ) (kp pos:ϭ):Option (GE T nm N (.Call (.Name x p) [a] [⟨some y,b,kp⟩] pos)):=do
 let hx ← isP "max" x
 let hy ← isP "default" y
 let g ← gV T nm "max"
 let he ← yes (aE a)
 let u ← f nm N a
 let w ← f nm N b
 some ⟨.bi .max0 (.cons u.1 (.cons w.1 .nil)),fun X k=>by
  obtain rfl:=hx.down
  obtain rfl:=hy.down
  exact mk (uf k.calm (bO k g.down boot_max) (u.2 X k).1 (w.2 X k).1 (af he.down))⟩
def Cz (f:aJ T) (nm:List (ν×Δ)) (N:List ν) (o:Κ) (m:ν) (ap:ϭ):(args:List Κ)→(pos:ϭ)→Option (GE T nm N (.Call (.Attribute o m ap) args [] pos))
 | [e],pos=>do
   let hm ← isP "index" m
   let hp ← yes (ap.endLine == pos.line)
   let hn ← yes (aE e)
   let hs ← yes (aV o)
   let a ← f nm N o
   let b ← f nm N e
   some ⟨.index a.1 b.1,fun X k=>by
    obtain rfl:=hm.down
    exact mk (qC (a.2 X k).1 (b.2 X k).1 ⟨aO hs.down,by rw [af hn.down];rfl,hp.down,by rw [af hn.down];rfl⟩)⟩
 | _,_=>none
def cCl (f:aJ T) (nm:List (ν×Δ)) (N:List ν) (pos:ϭ) (args:List Κ):(fn:Κ)→(kw:List ŭ)→Option (GE T nm N (.Call fn args kw pos))
 | .Name x p,[]=>Cq f nm N x p pos args
 | .Attribute o m ap,[]=>(Cz f nm N o m ap args pos).orElse fun _=>Cp f nm N o m ap args pos
 | .Name x p,[⟨some y,b,kp⟩]=>(match args with | [a]=>cMx f nm N x y p a b kp pos | _=>none)
 | _,_=>none
def cF2 (f:aJ T) (nm:List (ν×Δ)) (N:List ν) (x:ν) (j1:Nat) (p1 pos:ϭ):(b c:Κ)→Option (GE T nm N (.JoinedStr [.Constant (.str x) j1 p1,b,c] pos))
 | .FormattedValue e (.negSucc 0) none p2,.Constant (.str y) j2 p3=>Cw (f nm N) x j1 p1 e p2 y j2 p3 pos
 | _,_=>none
def cJs (f:aJ T) (nm:List (ν×Δ)) (N:List ν) (pos:ϭ):(es:List Κ)→Option (GE T nm N (.JoinedStr es pos))
 | [.Constant (.str x) j1 p1,b,c]=>cF2 f nm N x j1 p1 pos b c
 | _=>none
def cDi (f:aJ T) (nm:List (ν×Δ)) (N:List ν) (pos:ϭ):(ks:List (Option Κ))→(vs:List Κ)→Option (GE T nm N (.Dict ks vs pos))
 | [],[]=>some ⟨.dic .nil,fun X k=>mkf uk⟩
 | ks,vs=>Ac (f nm N) ks vs pos
def CE (f:aJ T) (g:gR T) (nm:List (ν×Δ)) (N:List ν) (ee:Κ) (sc:Ē) (pos:ϭ):(gs:List Comprehension)→Option (GE T nm N (.ListComp ee gs sc pos))
 | [⟨tg,iter,ifs,0⟩]=>cLC f g nm N ee tg iter ifs sc pos
 | _=>none
def BX (f:aJ T) (g:gR T) (nm:List (ν×Δ)) (N:List ν):(e:Κ)→Option (GE T nm N e)
 | .Name x pos=>Ag T nm N x pos
 | .Constant c j pos=>wW T nm N c j pos
 | .BinOp a op b pos=>do
   let o ← opP op
   let x ← f nm N a
   let y ← f nm N b
   some ⟨.op o.1 x.1 y.1,fun X k=>mk (Bb (o.2 X) (x.2 X k).1 (y.2 X k).1)⟩
 | .UnaryOp op a pos=>cUn f nm N a pos op
 | .BoolOp .And es pos=>do
   let x ← vK (f nm N) pos es
   let h ← no (bp x.1)
   some ⟨x.1,fun X k=>mk (x.2 X k) h.down⟩
 | .BoolOp .Or es pos=>do
   let x ← CG (f nm N) pos es
   let h ← no (bp x.1)
   some ⟨x.1,fun X k=>mk (x.2 X k) h.down⟩
 | .IfExp c a b pos=>do
   let t ← g nm N c
   let x ← f nm N a
   let y ← f nm N b
   some ⟨.ite t.1 x.1 y.1,fun X k=>mk (xZ (t.2 X k) (x.2 X k).1 (y.2 X k).1)⟩
 | .Compare a ops bs pos=>(vM f nm N a ops bs pos).map fun x=>⟨x.1,fun X k=>mk (x.2 X k).1.1 (x.2 X k).1.2⟩
 | .Tuple es n pos=>(du (f nm N) es).map fun x=>⟨.tup x.1,fun X k=>mk (qE (x.2 X k))⟩
 | .List es pos=>(du (f nm N) es).map fun x=>⟨.lst x.1,fun X k=>mkf (yg (x.2 X k))⟩
 | .Subscript a b pos=>CO f nm N a pos b
 | .Attribute a x pos=>do
   let i ← bv x T.at_
   let hs ← yes (aV a)
   let y ← f nm N a
   some ⟨.fld y.1 i.1,fun X k=>mk (pQ (ij i.2) k.cls (y.2 X k).1 hs.down)⟩
 | .Call fn args kw pos=>cCl f nm N pos args fn kw
 | .JoinedStr es pos=>cJs f nm N pos es
 | .Dict keys vals pos=>cDi f nm N pos keys vals
 | .ListComp ee gs sc pos=>CE f g nm N ee sc pos gs
 | _=>none
def BY (f:aJ T) (g:gR T) (nm:List (ν×Δ)) (N:List ν):(e:Κ)→Option (GT T nm N e)
 | .UnaryOp .Not a pos=>(g nm N a).map fun x=>⟨.tnot x.1,fun X k=>yz (x.2 X k)⟩
 | .BoolOp .And es pos=>(vJ (g nm N) pos es).map fun x=>⟨x.1,fun X k=>we (x.2 X k)⟩
 | .BoolOp .Or es pos=>(Ak (g nm N) pos es).map fun x=>⟨x.1,fun X k=>we (x.2 X k)⟩
 | .Compare a ops bs pos=>(vM f nm N a ops bs pos).map fun x=>⟨x.1,fun X k=>(x.2 X k).2⟩
 | e=>do
   let h ← yes (match e with | .Compare ..=>false | .BoolOp ..=>false | .UnaryOp ..=>false | .IfExp ..=>false | .NamedExpr ..=>false | _=>true)
   let x ← f nm N e
   some ⟨.tv x.1,fun X k=>Bg (x.2 X k).1 fun w=>lT h.down⟩
theorem xS:LE X e .nil:=fun br z I nb=>ZX rfl nb
theorem yw:LT X e .nil:=fun z I nb=>ZX rfl nb
def nI (T:Ns):Nat→aJ T×gR T
 | 0=>(fun _ _ _=>none,fun _ _ _=>none)
 | k+1=>(fun nm N e=>some ((BX (nI T k).1 (nI T k).2 nm N e).getD ⟨.nil,fun X _=>mk xS⟩),fun nm N e=>some ((BY (nI T k).1 (nI T k).2 nm N e).getD ⟨.nil,fun X _=>yw⟩))
end
def RaP (X:Cx) (j:Nat) (x:ν):Prop:=∃ (lv:Nat) (k:Cl) (i:CI) (fI:Β) (fd:ß) (ps:List ν) (Bx nwI iniI:String) (bmB:List ζ),Ę Bx nwI iniI bmB∧gQ X.K i.ad fI bmB nwI∧FnJ X lv fI fd ps i.nm k i.ad∧bV X.K fd ps []∧bq (lv+1) X.A∧fM X.K i.ad∧(∀ f∈i.nm,Ρ X.K (.ref i.ad) f=some none)∧X.Γ.cl[j]? = some k∧X.W.ci[j]? = some i∧X.W.what[j]? = some 2∧i.nm.length=k.at_.length∧Ϯ X.K i.ad (.type "BaseException")=some true∧ć X.K (.ref i.ad)=some (.type "type")∧ϖ X.K (.ref i.ad)=true∧X.mg x=some (.ref i.ad)∧k.at_.isEmpty=false
def RtP (X:Cx) (j:Nat) (x:ν):Prop:=∃ (k:Cl) (i:CI) (Bx nwI iniI:String) (bmB:List ζ),Ę Bx nwI iniI bmB∧zS X.K i.ad bmB nwI∧X.Γ.cl[j]? = some k∧k.at_.isEmpty=true∧X.W.ci[j]? = some i∧X.W.what[j]? = some 2∧X.mg x=some (.ref i.ad)
structure CxS (T:Ns) (X:Cx) (nm:List (ν×Δ)) (N:List ν):Prop extends CxOk T X nm N where
 fr:kJ X
 rs:∀ (j:Nat) (x:ν),T.ex[j]? = some x→x≠""→RaP X j x
 rt:∀ (j:Nat) (x:ν),T.xt[j]? = some x→x≠""→RtP X j x
abbrev GS (T:Ns) (nm:List (ν×Δ)) (N:List ν) (st:Ó):={c:S // ∀ X,CxS T X nm N→LS X st c}
abbrev GSs (T:Ns) (nm:List (ν×Δ)) (N:List ν) (st:List Ó):={c:S // ∀ X,CxS T X nm N→LSs X st c}
def jh:Κ→Bool
 | .ListComp ..=>false
 | .SetComp ..=>false
 | .DictComp ..=>false
 | _=>true
theorem fF (h:jh e=true):D6 e t l env=pure false:=by
 cases e <;> first | rfl | cases h
theorem rc :EX [.Tuple es k p] e l env=pure false:=by
 cases e <;> rfl
def wn:Κ→Bool
 | .Tuple ..=>false
 | _=>true
theorem oB (h:wn e=true):EY [.Tuple es k p] e env=pure none:=by
 cases e <;> first | rfl | cases h
section
variable {T:Ns} {nm:List (ν×Δ)} {N:List ν}
theorem CxOk.tg (k:CxOk T X nm N):TgH nm N X:=⟨k.calm,k.hN,k.nd,k.sc⟩
theorem CxOk.at {i:Nat} {x:ν} (k:CxOk T X nm N) (h:N[i]? = some x):X.N[i]? = some x:=by rw [k.hN];exact h
theorem CxOk.ndx (k:CxOk T X nm N):X.N.Nodup:=by rw [k.hN];exact k.nd
def vP (f:aJ T) (nm:List (ν×Δ)) (N:List ν) (x:ν) (p:ϭ) (pos:ϭ) (e:Κ):Option (GS T nm N (.Assign [.Name x p] e pos)):=do
 let i ← bv x N
 let hl ← yes (gb true nm x)
 let hn ← yes (jh e)
 let a ← f nm N e
 some ⟨.set i.1 a.1,fun X k=>lF k.ndx (k.at i.2) (gL k.tg hl.down) (a.2 X k.toCxOk).1 (a.2 X k.toCxOk).2 (fF hn.down)⟩
def CK (f:aJ T) (g:gR T) (nm:List (ν×Δ)) (N:List ν) (x:ν) (p:ϭ) (pos:ϭ):(e:Κ)→Option (GS T nm N (.Assign [.Name x p] e pos))
 | .ListComp ee [⟨tg,iter,ifs,0⟩] sc pos2=>do
   let i ← bv x N
   let hl ← yes (gb true nm x)
   let q ← Af f g nm N ee tg iter ifs sc
   some ⟨.set i.1 (.lc q.1.1.1 q.1.1.2 q.1.2.1 q.1.2.2.1 q.1.2.2.2),fun X k=>qQ k.ndx (k.at i.2) (gL k.tg hl.down) (q.2 X k.toCxOk)⟩
 | .List es lp=>(match qW x T.rf with
   | some _=>do
     let i ← bv x N
     let hl ← yes (gb true nm x)
     let a ← du (f nm N) es
     some ⟨.setR i.1 a.1,fun X k=>uH k.ndx (k.at i.2) (gL k.tg hl.down) (a.2 X k.toCxOk) (fF rfl)⟩
   | none=>vP f nm N x p pos (.List es lp))
 | e=>vP f nm N x p pos e
def Cm (f:aJ T) (nm:List (ν×Δ)) (N:List ν) (x:ν) (p:ϭ) (m:ν) (ap:ϭ) (e:Κ) (cp pos:ϭ):Option (GS T nm N (.Expr (.Call (.Attribute (.Name x p) m ap) [e] [] cp) pos)):=do
 let hm ← isP "append" m
 let i ← bv x N
 let hl ← yes (cu nm x)
 let hd ← no (x == ("__debug__":ν))
 let hc ← no (x == ("__classdict__":ν))
 let he ← yes (aE e)
 let hp ← yes (ap.endLine == cp.line)
 let a ← f nm N e
 some ⟨.app i.1 a.1,fun X k=>by
  obtain rfl:=hm.down
  exact yk (k.at i.2) (bj k.sc hl.down) hd.down hc.down (a.2 X k.toCxOk).1 ⟨aO rfl,by rw [af he.down];rfl,hp.down,by rw [af he.down];rfl⟩⟩
def Ad (f:aJ T) (nm:List (ν×Δ)) (N:List ν) (o:Κ) (m:ν) (ap:ϭ) (e:Κ) (cp pos:ϭ):Option (GS T nm N (.Expr (.Call (.Attribute o m ap) [e] [] cp) pos)):=do
 let hm ← isP "append" m
 let he ← yes (aE e)
 let hp ← yes (ap.endLine == cp.line)
 let hs ← yes (aV o)
 let b ← f nm N o
 let a ← f nm N e
 some ⟨.fapp b.1 0 a.1,fun X k=>by
  obtain rfl:=hm.down
  exact uA (b.2 X k.toCxOk).1 (a.2 X k.toCxOk).1 ⟨aO hs.down,by rw [af he.down];rfl,hp.down,by rw [af he.down];rfl⟩⟩
def Cu (f:aJ T) (nm:List (ν×Δ)) (N:List ν) (x:ν) (p:ϭ) (m:ν) (ap:ϭ) (e:Κ) (cp pos:ϭ):Option (GS T nm N (.Expr (.Call (.Attribute (.Name x p) m ap) [e] [] cp) pos)):=do
 let hm ← isP "extend" m
 let i ← bv x N
 let hl ← yes (cu nm x)
 let hd ← no (x == ("__debug__":ν))
 let hc ← no (x == ("__classdict__":ν))
 let he ← yes (aE e)
 let hp ← yes (ap.endLine == cp.line)
 let a ← f nm N e
 some ⟨.ext i.1 a.1,fun X k=>by
  obtain rfl:=hm.down
  exact yr (k.at i.2) (bj k.sc hl.down) hd.down hc.down (a.2 X k.toCxOk).1 ⟨aO rfl,by rw [af he.down];rfl,hp.down,by rw [af he.down];rfl⟩⟩
def pz (f:aJ T) (nm:List (ν×Δ)) (N:List ν) (e:Κ) (pos:ϭ):Option (GS T nm N (.Expr e pos)):=do
 let hn ← yes (jh e)
 let a ← f nm N e
 some ⟨.drop a.1,fun X k=>uz (a.2 X k.toCxOk).1 (fF hn.down)⟩
def Au (f:aJ T) (nm:List (ν×Δ)) (N:List ν) (j:Nat) (p:ϭ) (k:Nat) (q pos:ϭ):(ts vs:List Κ)→Option (GS T nm N (.Assign [.Tuple ts j p] (.Tuple vs k q) pos)):=fun _ _=>none
def CH (f:aJ T) (nm:List (ν×Δ)) (N:List ν) (x:ν) (p:ϭ) (eb:Κ) (p2:ϭ) (ee:Κ) (pos:ϭ):Option (GS T nm N (.Assign [.Subscript (.Name x p) eb p2] ee pos)):=do
 let i ← bv x N
 let hl ← yes (cu nm x)
 let hd ← no (x == ("__debug__":ν))
 let hc ← no (x == ("__classdict__":ν))
 let hn ← yes (aE eb)
 let b ← f nm N eb
 let e ← f nm N ee
 some ⟨.put (.v i.1) b.1 e.1,fun X k=>uF (k.at i.2) (bj k.sc hl.down) hd.down hc.down hn.down (b.2 X k.toCxOk).1 (e.2 X k.toCxOk).1⟩
def Am (f:aJ T) (nm:List (ν×Δ)) (N:List ν) (eo eb:Κ) (p2:ϭ) (ee:Κ) (pos:ϭ):Option (GS T nm N (.Assign [.Subscript eo eb p2] ee pos)):=do
 let hn ← yes (aE eb)
 let o ← f nm N eo
 let hv ← no (isV o.1)
 let b ← f nm N eb
 let e ← f nm N ee
 some ⟨.put o.1 b.1 e.1,fun X k=>uE hn.down hv.down (o.2 X k.toCxOk).1 (b.2 X k.toCxOk).1 (e.2 X k.toCxOk).1⟩
def wX (f:aJ T) (nm:List (ν×Δ)) (N:List ν) (x:ν) (np:ϭ):(args:List Κ)→(cp pos:ϭ)→Option (GS T nm N (.Raise (some (.Call (.Name x np) args [] cp)) none pos))
 | [],_,_=>none
 | e :: er,cp,pos=>do
   let j ← bv x T.ex
   let hz ← no (x == ("":ν))
   let hn ← yes ((e :: er).all aE)
   let hg ← yes (bN nm x)
   let hd ← no (x == ("__debug__":ν))
   let a ← du (f nm N) (e :: er)
   some ⟨.rais j.1 a.1,fun X k=>by
    obtain ⟨lv,cl,i,fI,fd,ps,Bx,nwI,iniI,bmB,h1,h2,h3,h4,h5,h6,h7,h8,h9,h10,h11,h12,h13,h14,h15,h16⟩:=k.rs j.1 x j.2 (by simpa using hz.down)
    have hn':=ϒ.mp hn.down
    obtain ⟨ck,h3,hk⟩:=h3
    exact qP h1 h2 h3 hk h4 h5 h6 h7 h8 h9 h10 h11 h16 h12 h13 h14 k.calm (bD k.sc hg.down) h15 (a.2 X k.toCxOk) hd.down (af (hn' e ι)) (bF fun y hy=>hn' y (κ _ hy))⟩
def ti (nm:List (ν×Δ)) (N:List ν) (x:ν) (np:ϭ):(args:List Κ)→(cp pos:ϭ)→Option (GS T nm N (.Raise (some (.Call (.Name x np) args [] cp)) none pos)):=fun _ _ _=>none
def vN (nm:List (ν×Δ)) (N:List ν) (y:ν) (p1:ϭ) (x:ν) (p pos p2:ϭ):Option (GS T nm N (.Assign [.Attribute (.Name y p1) x p] (.Dict [] [] p2) pos)×GS T nm N (.Assign [.Attribute (.Name y p1) x p] (.List [] p2) pos)):=do
 let j ← bv x T.at_
 let i ← bv y N
 let hl ← yes (cu nm y)
 let hd ← no (y == ("__debug__":ν))
 let hc ← no (y == ("__classdict__":ν))
 some (⟨.fld (.v i.1) j.1 (.dic .nil),fun X k=>by
  have h:=uB (X:=X) (p:=p) (pos:=pos) (p1:=p1) (p2:=p2) (f:=j.1) k.cls (k.at i.2) (bj k.sc hl.down) hd.down hc.down
  rw [ij j.2] at h
  exact h⟩,⟨.fld (.v i.1) j.1 (.lst .nil),fun X k=>by
  have h:=uC (X:=X) (p:=p) (pos:=pos) (p1:=p1) (p2:=p2) (f:=j.1) k.cls (k.at i.2) (bj k.sc hl.down) hd.down hc.down
  rw [ij j.2] at h
  exact h⟩)
def Cv (f:aJ T) (nm:List (ν×Δ)) (N:List ν) (eo:Κ) (x:ν) (p:ϭ) (ee:Κ) (pos:ϭ):Option (GS T nm N (.Assign [.Attribute eo x p] ee pos)):=do
 let j ← bv x T.at_
 let o ← f nm N eo
 let e ← f nm N ee
 let hp ← yes (lM e.1)
 some ⟨.fld o.1 j.1 e.1,fun X k=>by
  have h:=yt (X:=X) (p:=p) (pos:=pos) (f:=j.1) k.cls hp.down (o.2 X k.toCxOk).1 (e.2 X k.toCxOk).1
  rw [ij j.2] at h
  exact h⟩
def Ae (f:aJ T) (nm:List (ν×Δ)) (N:List ν):(eo:Κ)→(x:ν)→(p:ϭ)→(ee:Κ)→(pos:ϭ)→Option (GS T nm N (.Assign [.Attribute eo x p] ee pos))
 | .Name y p1,x,p,.Dict [] [] p2,pos=>(vN nm N y p1 x p pos p2).map (·.1)
 | .Name y p1,x,p,.List [] p2,pos=>(vN nm N y p1 x p pos p2).map (·.2)
 | eo,x,p,ee,pos=>Cv f nm N eo x p ee pos
def Cg:(op:G0)→Option {o:Op // ∀ X:Cx,∃ g,sM X op o g}
 | .Sub=>some ⟨.sub,fun X=>⟨_,sV⟩⟩
 | .Add=>some ⟨.add,fun X=>⟨_,sU⟩⟩
 | _=>none
def Cn (nm:List (ν×Δ)) (N:List ν) (op:G0) (pos:ϭ):(tg e:Κ)→Option (GS T nm N (.AugAssign tg op e pos))
 | .Attribute (.Name y p1) x p,.Constant (.int c) j p2=>do
   let o ← Cg op
   let a ← bv x T.at_
   let i ← bv y N
   let hl ← yes (cu nm y)
   let hd ← no (y == ("__debug__":ν))
   let hc ← no (y == ("__classdict__":ν))
   some ⟨.fld (.v i.1) a.1 (.op o.1 (.fld (.v i.1) a.1) (.c (.int c))),fun X k=>by
    obtain ⟨g,ar⟩:=o.2 X
    have h:=yl (X:=X) (p:=p) (pos:=pos) (p1:=p1) (p2:=p2) (j:=j) (c:=c) (f:=a.1) k.cls ar (k.at i.2) (bj k.sc hl.down) hd.down hc.down
    rw [ij a.2] at h
    exact h⟩
 | _,_=>none
structure kN (T:Ns) (X:Cx) (nm:List (ν×Δ)) (N:List ν):Prop where
 hN:X.N=N
 nd:N.Nodup
 sc:X.env.scope.names=nm
 cls:cm X T.an
theorem CxOk.su (k:CxOk T X nm N) (e:ζ):kN T (aM X e) nm N:=⟨k.hN,k.nd,k.sc,fun c cl h=>let ⟨i,h⟩:=k.cls c cl h;⟨i,h.ci,h.cls,h.na,h.wh,h.nm,h.nd,h.xc⟩⟩
def vQ (nm:List (ν×Δ)) (N:List ν):(e:Κ)→Option {c:E // bp c=false∧∀ X,kN T X nm N→LE X e c}
 | .Name x pos=>do
   let hd ← no (x == ("__debug__":ν))
   let hc ← no (x == ("__classdict__":ν))
   let hl ← yes (cu nm x)
   let i ← bv x N
   some ⟨.v i.1,rfl,fun X k=>ye (by rw [k.hN];exact i.2) (bj k.sc hl.down) hd.down hc.down⟩
 | .Constant c j pos=>match c with
   | .none=>some ⟨.c .non,rfl,fun X k=>vS⟩
   | .bool b=>some ⟨.c (.bl b),rfl,fun X k=>Aw⟩
   | .int i=>some ⟨.c (.int i),rfl,fun X k=>vR⟩
   | .str x=>some ⟨.c (.str x),rfl,fun X k=>vT⟩
   | _=>none
 | .Attribute (.Name y p) x pos=>do
   let hd ← no (y == ("__debug__":ν))
   let hc ← no (y == ("__classdict__":ν))
   let hl ← yes (cu nm y)
   let i ← bv y N
   let j ← bv x T.at_
   let hs ← yes (aV (.Name y p))
   some ⟨.fld (.v i.1) j.1,rfl,fun X k=>pQ (ij j.2) k.cls (ye (by rw [k.hN];exact i.2) (bj k.sc hl.down) hd.down hc.down) hs.down⟩
 | _=>none
def Aq (nm:List (ν×Δ)) (N:List ν):(es:List Κ)→Option {c:E // ∀ X,kN T X nm N→LA X es c}
 | []=>some ⟨.nil,fun X k=>qv⟩
 | e :: r=>do
   let h ← yes (aE e)
   let a ← vQ (T:=T) nm N e
   let b ← Aq nm N r
   some ⟨.cons a.1 b.1,fun X k=>mx (a.2.2 X k) (b.2 X k) (af h.down)⟩
def At (nm:List (ν×Δ)) (N:List ν):(e:Κ)→Option {c:E // bp c=false∧∀ X,kN T X nm N→LE X e c}
 | .Tuple es n pos=>(Aq (T:=T) nm N es).map fun a=>⟨.tup a.1,rfl,fun X k=>qE (a.2 X k)⟩
 | e=>vQ nm N e
def cSu (nm:List (ν×Δ)) (N:List ν):(st:Ó)→Option {c:S // ∀ X,kN T X nm N→LS X st c}
 | .Return (some e) pos=>(At (T:=T) nm N e).map fun a=>⟨.ret a.1,fun X k=>lD (a.2.2 X k)⟩
 | .Assign [.Name x p] e pos=>do
   let i ← bv x N
   let hl ← yes (gb true nm x)
   let hn ← yes (jh e)
   let a ← At (T:=T) nm N e
   some ⟨.set i.1 a.1,fun X k=>lF (by rw [k.hN];exact k.nd) (by rw [k.hN];exact i.2) (by
    have l1:nm.lookup x=some .local∨nm.lookup x=some .cell:=by have:=hl.down;unfold gb at this;simpa using this
    show X.env.scope.names.lookup x=_∨X.env.scope.names.lookup x=_
    rw [k.sc];exact l1) (a.2.2 X k) (fun q=>by rw [a.2.1] at q;cases q) (fF hn.down)⟩
 | _=>none
theorem lB {st:Ó}:LS X st (.hand 0 none .skip .skip):=fun z I nb=>ZX rfl nb
def Ar (nm:List (ν×Δ)) (N:List ν) (st:Ó):{c:S // ∀ X,kN T X nm N→LS X st c}:=(cSu (T:=T) nm N st).getD ⟨.hand 0 none .skip .skip,fun X k=>lB⟩
def wZ (nm:List (ν×Δ)) (N:List ν):(st:List Ó)→Option {c:S // ∀ X,kN T X nm N→LSs X st c}
 | []=>some ⟨.skip,fun X k=>qN⟩
 | [a]=>let x:=Ar (T:=T) nm N a;some ⟨x.1,fun X k=>qO (x.2 X k)⟩
 | a :: b :: r=>do
   let x:=Ar (T:=T) nm N a
   let y ← wZ nm N (b :: r)
   some ⟨.seq x.1 y.1,fun X k=>mC (x.2 X k) (y.2 X k)⟩
def cHs (nm:List (ν×Δ)) (N:List ν):(hs:List ĉ)→Option {r:S // ∀ X,CxS T X nm N→HL X hs r}
 | []=>some ⟨.skip,fun X k=>xw k.fr⟩
 | .ExceptHandler (some (.Name Bn np)) (some x) (b₀ :: suite) hpos :: hs=>do
   let j ← bv Bn T.hx
   let hz ← no (Bn == ("":ν))
   let hg ← yes (bN nm Bn)
   let hd ← no (Bn == ("__debug__":ν))
   let i ← bv x N
   let hl ← yes (nm.lookup x == some .local)
   let b ← wZ (T:=T) nm N (b₀ :: suite)
   let r ← cHs nm N hs
   some ⟨.hand j.1 (some i.1) b.1 r.1,fun X k=>AR (fun e=>b.2 _ (k.toCxOk.su e)) (k.hxs j.1 Bn j.2 (by simpa using hz.down)) (bD k.sc hg.down) hd.down k.ndx (k.at i.2) (by rw [k.sc];simpa using hl.down) (r.2 X k)⟩
 | .ExceptHandler (some (.Name Bn np)) none (b₀ :: suite) hpos :: hs=>do
   let j ← bv Bn T.hx
   let hz ← no (Bn == ("":ν))
   let hg ← yes (bN nm Bn)
   let hd ← no (Bn == ("__debug__":ν))
   let b ← wZ (T:=T) nm N (b₀ :: suite)
   let r ← cHs nm N hs
   some ⟨.hand j.1 none b.1 r.1,fun X k=>AS (fun e=>b.2 _ (k.toCxOk.su e)) (k.hxs j.1 Bn j.2 (by simpa using hz.down)) (bD k.sc hg.down) hd.down (r.2 X k)⟩
 | _=>none
def CQ (a:GSs T nm N body):(hs:List ĉ)→(pos:ϭ)→Option (GS T nm N (.Try body hs [] [] pos))
 | h0 :: hs,pos=>(cHs nm N (h0 :: hs)).map fun r=>⟨.try_ a.1 r.1,fun X k=>yv k.fr (a.2 X k) (r.2 X k)⟩
 | _,_=>none
def Ao (f:aJ T) (nm:List (ν×Δ)) (N:List ν) (er:List Κ) (p2 pos:ϭ):Option (GS T nm N (.Return (some (.List er p2)) pos)):=none
mutual
noncomputable def CN (f:aJ T) (g:gR T) (nm:List (ν×Δ)) (N:List ν):(n:Nat)→(st:Ó)→Option (GS T nm N st)
 | 0,_=>none
 | _+1,.Pass pos=>some ⟨.skip,fun X k=>uD⟩
 | _+1,.Return none pos=>some ⟨.ret (.c .non),fun X k=>uG⟩
 | _+1,.Return (some (.List er p2)) pos=>(Ao f nm N er p2 pos).orElse fun _=>(f nm N (.List er p2)).map fun a=>⟨.ret a.1,fun X k=>lD (a.2 X k.toCxOk).1⟩
 | _+1,.Return (some e) pos=>(f nm N e).map fun a=>⟨.ret a.1,fun X k=>lD (a.2 X k.toCxOk).1⟩
 | _+1,.Expr (.Constant (.str x) j p) pos=>some ⟨.skip,fun X k=>yn⟩
 | _+1,.Expr (.Call (.Attribute (.Attribute o2 f2 ap2) m ap) [e] [] cp) pos=>(Ad f nm N (.Attribute o2 f2 ap2) m ap e cp pos).orElse fun _=>pz f nm N _ pos
 | _+1,.Expr (.Call (.Attribute (.Name x p) m ap) [e] [] cp) pos=>((Cm f nm N x p m ap e cp pos).orElse fun _=>Cu f nm N x p m ap e cp pos).orElse fun _=>pz f nm N _ pos
 | _+1,.Expr e pos=>pz f nm N e pos
 | _+1,.Assign [.Name x p] e pos=>CK f g nm N x p pos e
 | _+1,.Assign [.Subscript (.Name x p) eb p2] ee pos=>CH f nm N x p eb p2 ee pos
 | _+1,.Assign [.Subscript eo eb p2] ee pos=>Am f nm N eo eb p2 ee pos
 | _+1,.Raise (some (.Call (.Name x np) args [] cp)) none pos=>(wX f nm N x np args cp pos).orElse fun _=>ti nm N x np args cp pos
 | _+1,.Assign [.Attribute eo x p] ee pos=>Ae f nm N eo x p ee pos
 | _+1,.AugAssign tg op e pos=>Cn nm N op pos tg e
 | _+1,.Assign [.Tuple ts j p] (.Tuple vs k q) pos=>Au f nm N j p k q pos ts vs
 | _+1,.Assign [.Tuple es j p] e pos=>do
   let t ← zA true nm N es
   let h ← yes (wn e)
   let a ← f nm N e
   some ⟨.setT t.1 a.1,fun X k=>uI (a.2 X k.toCxOk).1 (qI k.calm k.ndx (t.2.as_ X k.tg) (t.2.len _) (t.2.fst _)) rc (oB h.down) rfl⟩
 | n+1,.If e sa sb pos=>do
   let c ← g nm N e
   let a ← nJ f g nm N n sa
   let b ← nJ f g nm N n sb
   some ⟨.ifs c.1 a.1 b.1,fun X k=>Bf (c.2 X k.toCxOk) (a.2 X k) (b.2 X k)⟩
 | n+1,.For tg iter body [] pos=>do
   let it ← vO (f nm N) tg iter
   let q ← tgP true nm N tg
   let hn ← yes (aE iter)
   let b ← nJ f g nm N n body
   some ⟨.for_ q.1.1 q.1.2 it.1 b.1,fun X k=>yu k.calm (fun z o=>vd k.fr) (it.2 X k.toCxOk) (q.2.1 X k.tg) (b.2 X k) (iB hn.down)⟩
 | n+1,.Try body hs [] [] pos=>do
   let a ← nJ f g nm N n body
   CQ a hs pos
 | _,_=>none
noncomputable def cSt (f:aJ T) (g:gR T) (nm:List (ν×Δ)) (N:List ν):(n:Nat)→(st:Ó)→Option (GS T nm N st)
 | 0,st=>some ⟨.hand 0 none .skip .skip,fun X k=>lB⟩
 | n+1,st=>some ((CN f g nm N n st).getD ⟨.hand 0 none .skip .skip,fun X k=>lB⟩)
noncomputable def nJ (f:aJ T) (g:gR T) (nm:List (ν×Δ)) (N:List ν):(n:Nat)→(st:List Ó)→Option (GSs T nm N st)
 | 0,_=>none
 | _+1,[]=>some ⟨.skip,fun X k=>qN⟩
 | n+1,[a]=>(cSt f g nm N n a).map fun x=>⟨x.1,fun X k=>qO (x.2 X k)⟩
 | n+1,a :: b :: r=>do
   let x ← cSt f g nm N n a
   let y ← nJ f g nm N n (b :: r)
   some ⟨.seq x.1 y.1,fun X k=>mC (x.2 X k) (y.2 X k)⟩
end
end
def bG (st:Ó):List ν:=(aK st).args.map (·.arg)
def j4 (st:Ó):List ν:=bG st ++ ((ax st).names.filter fun y=>(y.2 == .local || y.2 == .cell) && !(bG st).contains y.1).map (·.1)
def dfB (st:Ó):Option Bool:=match (aK st).defaults with
 | [.Constant (.bool b) _ _]=>some b
 | _=>none
def DfV (K:χ) (dV:ζ):Option Bool→Prop
 | none=>dV = .none
 | some b=>∃ T o n,dV = .ref T∧K.lookup T=some o∧o.data = .seq #[.bool b] n
structure kK (K:χ) (x qual:ν) (st:Ó) (f:Β) (fd:ß):Prop where
 ex:∃ (oc:ζ) (od:Option Β) (dV kV doc pm:ζ) (an:Option Β) (cdv ct:ζ) (osl:Array (Option ζ)),
  fd=ϱ x qual (aK st) (bI st) (ax st) dV kV doc pm an cdv ct∧K.lookup f=some ⟨oc,od,.func fd,osl⟩∧Ü K cdv qual=true∧DfV K dV (dfB st)
 kp:ϖ K (.ref f)=true
def dfT (T:Ns) (st:Ó):Option Bool:=if T.mu.contains "#d" then dfB st else none
def dfD:Option Bool→List D
 | some b=>[.bl b]
 | none=>[]
def dfU:Option Bool→List ζ
 | some b=>[.bool b]
 | none=>[]
theorem AA:∀ (o:Option Bool) (ρ:Rs) (G:Hp),RDs W ρ G (dfD o) (dfU o)
 | none,_,_=>rfl
 | some b,_,_=>.cons rfl rfl
def eY (T:Ns) (st:Ó):Option Fn:=(nJ (nI T 200).1 (nI T 200).2 (ax st).names (j4 st) 200 (bI st)).map fun c=>⟨(bG st).length,(j4 st).length,c.1,dfD (dfT T st)⟩
structure sO (T:Ns) (X:Cx) (ad:List Β) (lv:Nat):Prop where
 calm:X.calm=true
 fns:∀ (j:Nat) (f:Β),ad[j]? = some f→∃ x qual st fd fn mu al fc oc,kK X.K x qual st f fd∧bV X.K fd (bG st) (dfU (dfT { T with mu:=mu,alt:=al,fc:=fc,oc:=oc } st))∧dg (j4 st) (bG st) (ax st)∧X.Γ.fn[j]? = some fn∧eY { T with mu:=mu,alt:=al,fc:=fc,oc:=oc } st=some fn
 glb:∀ (j:Nat) (x:ν),T.fn[j]? = some x→∃ f,ad[j]? = some f∧X.mg x=some (.ref f)
 gls:∀ (j:Nat) (x:ν),T.gl[j]? = some x→∃ d u,X.Γ.gl[j]? = some d∧X.mg x=some u∧aW X.K d u=true
 tbs:∀ (j:Nat) (x:ν),T.tb[j]? = some x→∃ t a,X.Γ.tb[j]? = some t∧X.mg x=some (.ref a)∧TbL X a t
 blt:∀ x∈T.bl,X.mg x=none
 cls:cm X T.an
 mts:∀ q∈T.me,∃ f,ad[q.2.2]? = some f∧nu X T.an q.1 q.2.1 f
 nws:∀ (j:Nat) (x:ν),T.nw[j]? = some x→x≠""→∃ f i cl,ad[cl.init]? = some f∧Mk X.K i.ad f∧X.Γ.cl[j]? = some cl∧cl.what=0∧X.W.ci[j]? = some i∧X.W.what[j]? = some 0∧X.mg x=some (.ref i.ad)
 nds:∀ (j:Nat) (x:ν),T.nd[j]? = some x→x≠""→∃ f fd ps i cl,FnI X lv f fd ps i.nm none∧bV X.K fd ps []∧Mk X.K i.ad f∧Cls X.K i.ad∧(∀ f∈i.nm,cz X.K i.ad f)∧X.Γ.cl[j]? = some cl∧X.W.ci[j]? = some i∧X.W.what[j]? = some 1∧i.nm.length=cl.at_.length∧X.mg x=some (.ref i.ad)
 rs:∀ (j:Nat) (x:ν),T.ex[j]? = some x→x≠""→∃ (k:Cl) (i:CI) (fI:Β) (fd:ß) (ps:List ν) (Bx nwI iniI:String) (bmB:List ζ),Ę Bx nwI iniI bmB∧gQ X.K i.ad fI bmB nwI∧FnJ X lv fI fd ps i.nm k i.ad∧bV X.K fd ps []∧fM X.K i.ad∧(∀ f∈i.nm,Ρ X.K (.ref i.ad) f=some none)∧X.Γ.cl[j]? = some k∧X.W.ci[j]? = some i∧X.W.what[j]? = some 2∧i.nm.length=k.at_.length∧Ϯ X.K i.ad (.type "BaseException")=some true∧ć X.K (.ref i.ad)=some (.type "type")∧ϖ X.K (.ref i.ad)=true∧X.mg x=some (.ref i.ad)∧k.at_.isEmpty=false
 hxs:∀ (j:Nat) (x:ν),T.hx[j]? = some x→x≠""→o7 X j x
 rt:∀ (j:Nat) (x:ν),T.xt[j]? = some x→x≠""→RtP X j x
section
variable {X:Cx} {T:Ns} {ad:List Β} {lv:Nat}
theorem dC.to {A:ώ} {fr:List Dz} {N:List ν} {e:Dz} {c1 d1:Nat→List D→List O→Res} (h:dC X an c k i):dC (X.to A fr N e c1 d1) an c k i:=⟨h.ci,h.cls,h.na,h.wh,h.nm,h.nd,h.xc⟩
theorem oH (Pg:sO T X ad lv) (n:Nat) (ih:∀ (j:Nat) (f:Β),ad[j]? = some f→bX X (ac X.Γ n) (lv+1+n) j f) (ih1:∀ (j:Nat) (f:Β),ad[j]? = some f→∃ m,m+1≤lv+1+n∧bX X (bP X.Γ n) m j f) {j:Nat} {f:Β} (h:ad[j]? = some f):bX X (ac X.Γ (n+1)) (lv+1+(n+1)) j f:=by
 obtain ⟨x,qual,st,fd,fn,mu,al,fc,oc,Fu,b,Sc,hj,hc⟩:=Pg.fns j f h
 obtain ⟨oc',od,dV,kV,doc,pm,an,cd,ct,osl,rfl,lk,hcd,_⟩:=Fu.ex
 unfold eY at hc
 obtain ⟨c,_,rfl⟩:=ω.mp hc
 refine ⟨_,_,_,AF (cal:=ac X.Γ n) (cal1:=bP X.Γ n) (k:=lv+1+n) lk hcd Sc hj (AA _) fun A fr L hr=>c.2 _ ⟨⟨rfl,Sc.nd,rfl,Sc.kind,Pg.calm,fun i y hy=>?_,Pg.gls,Pg.tbs,Pg.blt,fun c cl h=>let ⟨i,h⟩:=Pg.cls c cl h;⟨i,h.to⟩,fun q hq=>?_,fun i y hy hz=>?_,fun i y hy hz=>?_,Pg.hxs⟩,⟨⟨fr,rfl⟩,rfl⟩,fun i y hy hz=>?_,Pg.rt⟩,b,Fu.kp⟩
 ·obtain ⟨g,h1,h2⟩:=Pg.glb i y hy
  exact ⟨_,g,(ih i g h1).to,hr,h2⟩
 ·obtain ⟨g,h1,⟨i,k,a1,a2,a3⟩⟩:=Pg.mts q hq
  exact ⟨_,g,(ih _ g h1).to,hr,⟨i,k,a1,a2.to,a3⟩⟩
 ·obtain ⟨g,ci,cl,h1,h2⟩:=Pg.nws i y hy hz
  obtain ⟨m,hm,h3⟩:=ih1 _ g h1
  exact ⟨m,g,ci,cl,h3.to,hr.mono hm,h2⟩
 ·obtain ⟨g,fd,ps,ci,cl,h1,h2,h3⟩:=Pg.nds i y hy hz
  exact ⟨lv,g,fd,ps,ci,cl,h1.to,h2,hr.mono (by omega),h3⟩
 ·obtain ⟨k,ci,fI,fd,ps,Bx,nwI,iniI,bmB,h1,h2,h3,h4,h5⟩:=Pg.rs i y hy hz
  exact ⟨lv,k,ci,fI,fd,ps,Bx,nwI,iniI,bmB,h1,h2,h3.to,h4,hr.mono (by omega),h5⟩
theorem mh (Pg:sO T X ad lv) {j:Nat} {f:Β} (h:ad[j]? = some f) {cal:Nat→List D→List O→Res} (no:∀ ds st,cal j ds st = .bad) (m:Nat):bX X cal m j f:=by
 obtain ⟨x,qual,st,fd,fn,mu,al,fc,oc,Fu,b,_⟩:=Pg.fns j f h
 exact ⟨fd,_,_,⟨fun ds st nb=>ZX (no ds st) nb,fun A fr z args us ds _ _ _ _ nb=>ZX (no ds _) nb⟩,b,Fu.kp⟩
theorem jp (Pg:sO T X ad lv):∀ (n j:Nat) (f:Β),ad[j]? = some f→bX X (ac X.Γ n) (lv+1+n) j f
 | 0,j,f,h=>mh Pg h (fun _ _=>rfl) _
 | n+1,j,f,h=>oH Pg n (jp Pg n) (fun i g hg=>by
   match n with
   | 0=>exact ⟨0,by omega,mh Pg hg (fun _ _=>rfl) _⟩
   | n'+1=>exact ⟨lv+1+n',by omega,jp Pg n' i g hg⟩) h
end
theorem ke {vs:List ζ} {ns:List Int} (h:D9 vs ns):RDs W ρ G (ns.map D.int) vs:=by
 induction h with
 | nil=>exact rfl
 | cons n t h ih=>exact .cons ⟨t,rfl⟩ ih
theorem qw {X:Cx} {Γ:Gm} {n j k:Nat} {fa a:Β} {s₁:ξ} {vs:List ζ} {ns:List Int} (md:Mod X.K X.mg X.base) (hb:X.base=s₁.heap) (os:X.os=s₁.os) (hc:X.calm=true) (hg:s₁.gens = #[])
 (ha:s₁.heap.get? a=some { cls:=.type "list",data:=.seq vs.toArray }) (hi:D9 vs ns) (hl:ns.length≤Ϛ) (hr:bq k œ)
 (F:bX X (ac Γ n) k j fa) (hlaw:∃ st',ac Γ n j [.lst (ns.map .int)] [] = .ok (.bl true) st') :
 Ĵ X.M œ (.call (.ref fa) ⟨[.ref a],[]⟩) (fun r s'=>r = .ok (.ret (.bool true))∧OldK s₁.heap s'.heap∧s'.os=s₁.os∧Ŗ s'.gens) s₁:=by
 obtain ⟨st',e⟩:=hlaw
 obtain ⟨fd,ps,dvs,F,hbd,_⟩:=F
 have hp:=F.len [.lst (ns.map .int)] [] (by rw [e];exact fun z=>nomatch z)
 have nm:∀ {b},¬ Mu ([]:Rs) b:=fun ⟨p,m,_⟩=>nomatch m
 have I:HR { X with A:=œ,fr:=[] } ⟨[],s₁.heap.get?,⟨[],[],[]⟩,[],s₁⟩:=⟨md,rfl,fun _=>hr.hd,(fun b o e=>by rw [hb] at e;exact e),.refl _,rfl,(fun i j p q b h=>by simp at h),fun b m=>(nm m).elim,(fun n o p h=>by simp at h),trivial,(fun b m=>nomatch m),(by show Ŗ s₁.gens;rw [hg];exact fun g h=>by simp at h),os.symm⟩
 refine í (F.run œ [] ⟨[],s₁.heap.get?,⟨[],[],[]⟩,[],s₁⟩ ⟨[.ref a],[]⟩ [.ref a] [.lst (ns.map .int)] hr I (hbd s₁ [.ref a] (hb ▸ md.kin) (by rw [υ];exact hp)) (.cons ⟨a,_,vs,rfl,ha,⟨⟨_,rfl⟩,by rw [hi.length];exact hl⟩,ke hi⟩ rfl) (by rw [e];exact fun z=>nomatch z)) fun r s' hq=>?_
 rw [e] at hq
 cases r with
 | error u=>obtain ⟨_,_,_,_,z,_⟩:=hq;cases z
 | ok fl=>cases fl with
   | ret u=>
     obtain ⟨z',d,q1,q2,S,H,rd⟩:=hq
     subst q1
     cases q2
     cases (show u=ϥ true from rd)
     have keep:∀ b o,s₁.heap.get? b=some o→z'.s.heap.get? b=some o:=fun b o e=>S.sm b o e nm (fun z=>z) (fun m=>nomatch m)
     exact ⟨rfl,OldK.of_keep keep,H.os.trans os,H.br⟩
   | _=>exact hq.elim
theorem vB {l:Fk} {n k lv:Nat} {q:ϴ} {loose:List ν} {XP:(ν→Option ζ)→ϳ→Prop} {YP:Û→ϳ→Prop} {d:DefRec} {K:Params→χ} {j:Nat} {Γ:Gm}
 (hn:l.most=some n) (hn2:n≤Ϛ) (hdf:d.params.defaults = []) (hr:bq lv œ) (hY:∀ (w:Û) (h:ϳ),YP w h→(K w.params).In h)
 (F:∀ (w:Û) (mg:ν→Option ζ) (fa:Β) (h:ϳ) (os:FA),(K w.params).In h→h.Ns ϑ mg→mg d.name=some (.ref fa)→Mod (K w.params) mg h →
  ∃ X:Cx,X.W.P=l.prog∧X.W.w=w∧X.K=K w.params∧X.mg=mg∧X.base=h∧X.os=os∧X.calm=true∧bX X (ac Γ k) lv j fa)
 (hlaw:∀ ns:List Int,ns.length≤n→∃ st',ac Γ k j [.lst (ns.map .int)] [] = .ok (.bl true) st'):FO q loose XP YP l.row.toRowW d [] (fun f vs=>F2 f vs):=by
 refine Att.attach_call hn hdf fun w s₀ s₁ mg mb fa o pm cd doc a vs ns G Y ho hd hcd hmg hobj hints hlen hg=>?_
 have KX:=hY w _ Y
 have md:Mod (K w.params) mg s₁.heap:=⟨KX,G.T.g,⟨mb,G.T.b,G.T.builtins⟩,G.T.nolimit⟩
 obtain ⟨X,e1,e2,e3,e4,e5,e6,e7,hF⟩:=F w mg fa s₁.heap s₁.os KX G.T.g hmg md
 have:=qw (X:=X) (by rw [e3,e4,e5];exact md) e5 e6 e7 hg hobj hints (Ϣ hlen hn2) hr hF (hlaw ns hlen)
 rw [show X.M=model l.prog w by show model X.W.P X.W.w=_;rw [e1,e2]] at this
 exact this
def FnF (T:Ns) (K:χ) (Γ:Gm) (j:Nat) (f:Β):Prop:=∃ x qual st fd fn mu al fc oc,kK K x qual st f fd∧bV K fd (bG st) (dfU (dfT { T with mu:=mu,alt:=al,fc:=fc,oc:=oc } st))∧dg (j4 st) (bG st) (ax st)∧Γ.fn[j]? = some fn∧eY { T with mu:=mu,alt:=al,fc:=fc,oc:=oc } st=some fn
theorem gc:∀ {ps:List ν} {us:List ζ},ps.Nodup→us.length=ps.length→ps.filterMap (fun n=>((ps.zip us).lookup n).map (n,·))=ps.zip us
 | [],[],_,_=>rfl
 | p :: ps,u :: us,nd,hl=>by
   have ih:=gc (ϔ.mp nd).2 (by simpa using hl)
   rw [ϣ]
   simp only [á,ē,ZT,Option.map_some]
   congr 1
   have:∀ l:List ν,(∀ n∈l,n∈ps)→l.filterMap (fun n=>((match n == p with | true=>some u | false=>(ps.zip us).lookup n).map fun x=>(n,x)))=l.filterMap fun n=>((ps.zip us).lookup n).map fun x=>(n,x):=fun l=>by
    induction l with
    | nil=>intro _;rfl
    | cons n l ih=>
      intro h
      have q:(n == p)=false:=ZU.mpr fun e=>(ϔ.mp nd).1 (e ▸ h n ι)
      rw [ϣ,ϣ,ih fun m hm=>h m (κ _ hm),q]
   exact (this ps fun _ h=>h).trans ih
 | [],_ :: _,_,hl=>by simp at hl
 | _ :: _,[],_,hl=>by simp at hl
theorem iG:∀ {ps:List ν} {us:List ζ},us.length=ps.length→(ps.filter fun n=>((ps.zip us).lookup n).isNone) = []:=by
 intro ps us hl
 rw [ċ]
 intro n hn
 have:((ps.zip us).lookup n).isSome=true:=by
  induction ps generalizing us with
  | nil=>cases hn
  | cons p ps ih=>
    cases us with
    | nil=>simp at hl
    | cons u us=>
      rw [á,ē]
      cases e:n == p with
      | true=>rfl
      | false=>
        rcases π.mp hn with q | q
        ·subst q;simp at e
        ·exact ih (by simpa using hl) q
 cases e:(ps.zip us).lookup n with
 | none=>rw [e] at this;cases this
 | some v=>simp
theorem fO {p:En} {x q:ν} {body:List Ó} {sc:Ē} {kV doc pm cd ct:ζ} {an:Option Β} {us:List ζ} (h1:p.posonlyargs = []) (h2:p.kwonlyargs = []) (h3:p.vararg=none) (h4:p.kwarg=none) (nd:(p.args.map (·.arg)).Nodup) (hl:us.length=(p.args.map (·.arg)).length) :
 bindArgs (ϱ x q p body sc .none kV doc pm an cd ct) ⟨us,[]⟩=pure ((p.args.map (·.arg)).zip us):=by
 have e1:=iG hl
 have e2:=gc nd hl
 obtain ⟨a1,a2,a3,a4,a5,a6,a7⟩:=p
 cases h1;cases h2;cases h3;cases h4
 refine Eq.trans (ZY (c:=((decide (us.length>(a2.map (·.arg)).length)) && true)=true) ?_) ?_
 ·rw [hl];simp
 refine Eq.trans (ZY ?_) ?_
 ·show ¬ (!((a2.map (·.arg)).take ((a2.map (·.arg)).length - (List.drop (0 - (a2.map (·.arg)).length) ([]:List ζ)).length) |>.filter fun n=>(((a2.map (·.arg)).zip us).lookup n).isNone).isEmpty)=true
  rw [GP,ϯ,Hj,DB,e1];exact fun h=>nomatch h
 have e3:∀ n:Nat,List.drop n ([]:List ζ) = []:=fun _=>GP
 show (forIn ((List.drop ((List.map Arg.arg a2).length - (List.drop (0 - (List.map Arg.arg a2).length) ([]:List ζ)).length) (List.map Arg.arg a2)).zip (List.drop (0 - (List.map Arg.arg a2).length) ([]:List ζ))) _ _ >>= _)=_
 rw [e3,ĩ]
 show (pure ((List.map Arg.arg a2 ++ []).filterMap fun n=>(((List.map Arg.arg a2).zip us).lookup n).map (n,·)):F1 _)=_
 rw [Ω]
 exact ZS pure e2
theorem c9 {α β:Type}:∀ {qs:List α} {us:List β} {x:α} {v:β},us.length=qs.length→(qs ++ [x]).zip (us ++ [v])=qs.zip us ++ [(x,v)]
 | [],[],_,_,_=>rfl
 | _ :: _,_ :: _,_,_,h=>by rw [DE,DE,á,c9 (by simpa using h)];rfl
 | [],_ :: _,_,_,h=>by simp at h
 | _ :: _,[],_,_,h=>by simp at h
theorem kH {α β:Type}:∀ {qs:List α} {us:List β} {x:α},us.length=qs.length→(qs ++ [x]).zip us=qs.zip us
 | [],[],_,_=>rfl
 | _ :: _,_ :: _,_,h=>by rw [DE,á,kH (by simpa using h)];rfl
 | [],_ :: _,_,h=>by simp at h
 | _ :: _,[],_,h=>by simp at h
theorem qL {qs:List ν} {us:List ζ} {x:ν} (h:x ∉ qs):((qs.zip us).lookup x)=none:=by
 induction qs generalizing us with
 | nil=>rfl
 | cons q r ih=>
   cases us with
   | nil=>rfl
   | cons u us=>
     rw [á,ē]
     have:(x == q)=false:=ZU.mpr fun e=>h (e ▸ ι)
     rw [this];exact ih fun m=>h (κ _ m)
theorem te {s:ξ} {p:En} {x q:ν} {body:List Ó} {sc:Ē} {kV doc pm cd ct:ζ} {an:Option Β} {us:List ζ} {T:Β} {o:Er} {b:Bool} {n:Nat} (h1:p.posonlyargs = []) (h2:p.kwonlyargs = []) (h3:p.vararg=none) (h4:p.kwarg=none) (nd:(p.args.map (·.arg)).Nodup) (ho:s.heap.get? T=some o) (hd:o.data = .seq #[.bool b] n) (hn:p.args≠[]) (ds:List ζ) (hds:ds = []∨ds = [.bool b]) (hl:(us ++ ds).length=(p.args.map (·.arg)).length) :
 H9 s (ϱ x q p body sc (.ref T) kV doc pm an cd ct) ⟨us,[]⟩ ((p.args.map (·.arg)).zip (us ++ ds)):=by
 obtain ⟨a1,a2,a3,a4,a5,a6,a7⟩:=p
 cases h1;cases h2;cases h3;cases h4
 dsimp only at nd hl hn
 obtain ⟨qa,y,rfl⟩:∃ qa y,a2=qa ++ [y]:=⟨_,_,(Ġ hn).symm⟩
 rw [Ô] at nd hl
 have nd2:=Ĺ.mp nd
 have yq:y.arg ∉ qa.map (·.arg):=fun m=>nd2.2.2 _ m _ (by simp) rfl
 refine BindsTo.of_defaults (T:=T) (items:=#[.bool b]) (n:=n) (o:=o) rfl ho hd rfl ?_
 obtain ⟨Q,hQ⟩:∃ Q,List.map (fun x:Arg=>x.arg) qa=Q:=⟨_,rfl⟩
 rw [hQ] at hl yq
 have lq:(List.map (fun x:Arg=>x.arg) (qa ++ [y]))=Q ++ [y.arg]:=by rw [Ô,hQ];rfl
 have hl:us.length+ds.length=Q.length+1:=by simpa using hl
 dsimp only
 rw [lq]
 have d1:ds.length≤1:=by rcases hds with rfl | rfl <;> simp
 obtain ⟨vs,r,lv,sl,tg⟩:∃ (vs:List ζ) (r:List (ν×ζ)),vs.length=Q.length∧(Q ++ [y.arg]).zip us=Q.zip vs ++ r∧((r = []∧(Q ++ [y.arg]).zip (us ++ ds)=Q.zip vs ++ [(y.arg,.bool b)])∨∃ v,r = [(y.arg,v)]∧(Q ++ [y.arg]).zip (us ++ ds)=Q.zip vs ++ [(y.arg,v)]):=by
  rcases hds with rfl | rfl
  ·have hne:us≠[]:=by rintro rfl;simp at hl
   obtain ⟨vs,v,rfl⟩:∃ vs v,us=vs ++ [v]:=⟨_,_,(Ġ hne).symm⟩
   have lv:vs.length=Q.length:=by simpa using hl
   exact ⟨vs,[(y.arg,v)],lv,c9 lv,.inr ⟨v,rfl,by rw [Ω];exact c9 lv⟩⟩
  ·have lv:us.length=Q.length:=by simpa using hl
   exact ⟨us,[],lv,by rw [Ω];exact kH lv,.inl ⟨rfl,c9 lv⟩⟩
 have tk:(Q ++ [y.arg]).take Q.length=Q:=by rw [List.take_append_of_le_length (Ψ _),DB]
 have dr:(Q ++ [y.arg]).drop Q.length = [y.arg]:=by rw [List.drop_append_of_le_length (Ψ _),ŉ];rfl
 have full:∀ (z:List ζ) ,z.length=Q.length→∀ r,((Q.filter fun n=>((Q.zip z ++ r).lookup n).isNone)) = []:=fun z hz r=>by
  rw [ċ]
  intro n hn
  have e:=iG (ps:=Q) (us:=z) hz
  rw [ċ] at e
  have e:=e n hn
  cases q:(Q.zip z).lookup n with
  | none=>rw [q] at e;exact ZX rfl e
  | some v=>rw [Fo,q];simp
 have e0:List.drop (1 - (Q.length+1)) [ϥ b] = [ϥ b]:=by rw [show 1 - (Q.length+1)=0 by omega];rfl
 refine Eq.trans (ZY ?_) ?_
 ·simp;omega
 have em:((some #[ϥ b]).getD #[]).toList = [ϥ b]:=rfl
 have ln:(List.map (fun x:Arg=>x.arg) ([]:List Arg) ++ (Q ++ [y.arg]))=Q ++ [y.arg]:=rfl
 rw [em,ln,υ,ό,ό,e0,ό,Nat.add_sub_cancel,tk,dr,sl]
 refine Eq.trans (ZY ?_) ?_
 ·rw [full vs lv r];exact fun h=>nomatch h
 rw [á,ĩ]
 have lk:∀ w:ζ,(Q ++ [y.arg]).filterMap (fun n=>((Q.zip vs ++ [(y.arg,w)]).lookup n).map (n,·))=Q.zip vs ++ [(y.arg,w)]:=fun w=>by
  have e:=gc (ps:=Q ++ [y.arg]) (us:=vs ++ [w]) (by rw [← hQ];exact nd) (by simp [lv])
  rwa [c9 lv] at e
 have out:=qL (us:=vs) yq
 have fin:∀ w r,(if (ER y.arg (Q.zip vs ++ r)).isNone=true then pure (Ϫ (Q.zip vs ++ r ++ [(y.arg,ϥ b)])) else pure (Ϫ (Q.zip vs ++ r)):F1 (ForInStep (List (ν×ζ))))=pure (Ϫ (Q.zip vs ++ [(y.arg,w)]))→(forIn [(y.arg,ϥ b)] (Q.zip vs ++ r) (fun x s=>if (ER x.fst s).isNone=true then pure (Ϫ (s ++ [(x.fst,x.snd)])) else pure (Ϫ s)):F1 _)=pure (Q.zip vs ++ [(y.arg,w)]):=fun w r h=>by
  show ((if (ER y.arg (Q.zip vs ++ r)).isNone=true then pure (Ϫ (Q.zip vs ++ r ++ [(y.arg,ϥ b)])) else pure (Ϫ (Q.zip vs ++ r)):F1 (ForInStep (List (ν×ζ)))) >>= _)=_
  rw [h];rfl
 rcases tg with ⟨rfl,e⟩ | ⟨v,rfl,e⟩
 ·rw [e,fin (.bool b) [] (by rw [Ω,out];rfl)]
  show (pure (Gj _ (Q ++ [y.arg] ++ [])):F1 _)=_
  rw [Ω];exact ZS pure (lk _)
 ·rw [e,fin v [(y.arg,v)] (by rw [Fo,out];simp)]
  show (pure (Gj _ (Q ++ [y.arg] ++ [])):F1 _)=_
  rw [Ω];exact ZS pure (lk _)
def fnC (st:Ó):Bool:=(aK st).posonlyargs.isEmpty && (aK st).kwonlyargs.isEmpty && (aK st).vararg.isNone && (aK st).kwarg.isNone && (match (ax st).kind with | .function=>true | _=>false) && !(ax st).isCoroutine && !(ax st).isGenerator && ((dfB st).isNone || !(aK st).args.isEmpty) &&
 decide ((j4 st).Nodup∧(j4 st).take (bG st).length=bG st∧(∀ x∈bG st,(ax st).names.lookup x=some .local∨(ax st).names.lookup x=some .cell)∧∀ y∈(ax st).names,y.2≠.free)
theorem pS {st:Ó} (h:fnC st=true):dg (j4 st) (bG st) (ax st)∧(∀ {K:χ} {x q:ν} {f:Β} {fd:ß},Fun K x q st f fd→bV K fd (bG st) [])∧∀ {K:χ} {x q:ν} {f:Β} {fd:ß} (T:Ns),kK K x q st f fd→bV K fd (bG st) (dfU (dfT T st)):=by
 unfold fnC at h
 simp only [Υ,decide_eq_true_eq,ĺ,List.isEmpty_iff,Option.isNone_iff_eq_none] at h
 obtain ⟨⟨⟨⟨⟨⟨⟨⟨h1,h2⟩,h3⟩,h4⟩,h5⟩,h6⟩,h7⟩,hna⟩,h8,h9,h10,h11⟩:=h
 have nd:(bG st).Nodup:=h9 ▸ h8.sublist (FC _ _)
 refine ⟨⟨(by split at h5 <;> first | assumption | cases h5),h6,h7,h8,h9,h10,h11⟩,fun F=>F.binds fun _ _ _ _ _ _ us hl=>fO h1 h2 h3 h4 nd hl,fun T F=>?_⟩
 obtain ⟨oc,od,dV,kV,doc,pm,an,cdv,ct,osl,rfl,lk,hcd,dv⟩:=F.ex
 unfold dfT
 cases q:dfB st with
 | none=>
   rw [q] at dv
   cases (show dV = .none from dv)
   rw [show (if T.mu.contains "#d" = true then (none:Option Bool) else none)=none by split <;> rfl]
   exact .all fun us hl=>fO h1 h2 h3 h4 nd hl
 | some b=>
   rw [q] at dv
   obtain ⟨t,o,n,rfl,d1,d2⟩:=dv
   have na:(aK st).args≠[]:=fun e=>by rw [q,e] at hna;exact nomatch hna
   intro s us hK hl
   exact te h1 h2 h3 h4 nd (hK _ _ d1) d2 na _ (by split <;> first | exact .inl rfl | exact .inr rfl) hl
def cT (T:Ns) (st:Ó):Fn:=(eY T st).getD ⟨0,0,.skip,[]⟩
def FsL (K:χ):List (ν×ν×Ó)→List Β→Prop
 | [],[]=>True
 | p :: r,f :: fs=>(∃ fd,kK K p.1 p.2.1 p.2.2 f fd)∧FsL K r fs
 | _,_=>False
theorem FsL.app {K:χ}:∀ {l l' fs fs'},FsL K l fs→FsL K l' fs'→FsL K (l ++ l') (fs ++ fs')
 | [],_,[],_,_,h=>h
 | _ :: _,_,_ :: _,_,h,t=>⟨h.1,FsL.app h.2 t⟩
 | [],_,_ :: _,_,h,_=>h.elim
 | _ :: _,_,[],_,h,_=>h.elim
theorem FsL.len {K:χ}:∀ {l fs},FsL K l fs→fs.length=l.length
 | [],[],_=>rfl
 | _ :: _,_ :: _,h=>ZS (· + 1) h.2.len
 | [],_ :: _,h=>h.elim
 | _ :: _,[],h=>h.elim
theorem FsL.at {K:χ}:∀ {l fs} {j:Nat} {f:Β},FsL K l fs→fs[j]? = some f→∃ p fd,l[j]? = some p∧kK K p.1 p.2.1 p.2.2 f fd
 | [],[],j,f,_,e=>by simp at e
 | p :: l,g :: fs,0,f,h,e=>by simp at e;subst e;obtain ⟨fd,F⟩:=h.1;exact ⟨p,fd,rfl,F⟩
 | p :: l,g :: fs,j+1,f,h,e=>FsL.at (j:=j) h.2 (by simpa using e)
 | [],_ :: _,_,_,h,_=>h.elim
 | _ :: _,[],_,_,h,_=>h.elim
theorem AJ {T:Ns} {ad:List Β} {K:χ} {Γ:Gm} {l:List (ν×ν×Ó)} (hΓ:Γ.fn=l.map fun p=>cT T p.2.2) (hc:(l.all fun p=>fnC p.2.2 && (eY T p.2.2).isSome)=true) (h:FsL K l ad) {j:Nat} {f:Β} (e:ad[j]? = some f):FnF T K Γ j f:=by
 obtain ⟨p,fd,e1,F⟩:=h.at e
 have c:=ϒ.mp hc p (φ e1)
 rw [Υ] at c
 obtain ⟨S,_,B⟩:=pS c.1
 refine ⟨_,_,_,fd,cT T p.2.2,T.mu,T.alt,T.fc,T.oc,F,B _ F,S,by rw [hΓ,ϋ,e1];rfl,?_⟩
 show eY T p.2.2=_
 cases q:eY T p.2.2 with
 | none=>rw [q] at c;exact nomatch c.2
 | some g=>unfold cT;rw [q];rfl
theorem _root_.L2.Fun.d {K:χ} {x q:ν} {st:Ó} {f:Β} {fd:ß} (F:Fun K x q st f fd) (h:dfB st=none):kK K x q st f fd:=by
 obtain ⟨oc,od,kV,doc,pm,an,cdv,ct,osl,e,lk,hcd⟩:=F.ex
 exact ⟨⟨oc,od,.none,kV,doc,pm,an,cdv,ct,osl,e,lk,hcd,by rw [h];rfl⟩,F.kp⟩
def dK (K:χ):List (ν×Ó)→Prop
 | []=>True
 | p :: r=>(∃ f fd,kK K p.1 p.1 p.2 f fd∧ϓ K ϑ p.1=some (some (.ref f)))∧dK K r
theorem hl_cons {K:χ} {x:ν} {st:Ó} {f:Β} {od an:Option Β} {sl:Array (Option ζ)} {oc kV dc pm cd ct:ζ} (a:ϓ K ϑ x=some (some (.ref f)))
 (l:K.lookup f=some ⟨oc,od,.func (ϱ x x (aK st) (bI st) (ax st) .none kV dc pm an cd ct),sl⟩) (c:Ü K cd x=true) (k:ϖ K (.ref f)=true) (d:dfB st=none) (t:dK K r):dK K ((x,st) :: r):=⟨⟨f,_,(kW l c k).d d,a⟩,t⟩
theorem hl_consD {K:χ} {x:ν} {st:Ó} {f dt:Β} {od an od2:Option Β} {sl sl2:Array (Option ζ)} {oc kV dc pm cd ct oc2:ζ} {b:Bool} {n:Nat} (a:ϓ K ϑ x=some (some (.ref f)))
 (l:K.lookup f=some ⟨oc,od,.func (ϱ x x (aK st) (bI st) (ax st) (.ref dt) kV dc pm an cd ct),sl⟩) (c:Ü K cd x=true) (k:ϖ K (.ref f)=true) (g:K.lookup dt=some ⟨oc2,od2,.seq #[.bool b] n,sl2⟩) (d:dfB st=some b) (t:dK K r):dK K ((x,st) :: r):=⟨⟨f,_,⟨⟨oc,od,.ref dt,kV,dc,pm,an,cd,ct,sl,rfl,l,c,by rw [d];exact ⟨dt,_,n,rfl,g,rfl⟩⟩,k⟩,a⟩,t⟩
def wI (mg:ν→Option ζ):List ν→List Β→Prop
 | [],_=>True
 | x :: xs,f :: fs=>mg x=some (.ref f)∧wI mg xs fs
 | _ :: _,[]=>False
theorem dK.ad {K:χ} {h:ϳ} {mg:ν→Option ζ} (Y:K.In h) (G:h.Ns ϑ mg):∀ {l},dK K l→∃ ad,FsL K (l.map fun p=>(p.1,p.1,p.2)) ad∧wI mg (l.map (·.1)) ad
 | [],_=>⟨[],trivial,trivial⟩
 | _ :: _,⟨⟨f,fd,F,n⟩,t⟩=>let ⟨ad,h1,h2⟩:=dK.ad Y G t;⟨f :: ad,⟨⟨fd,F⟩,h1⟩,é Y G n,h2⟩
theorem bB {ad ms:List Β} (h:ad.length=n):(ad ++ ms)[n+k]? = ms[k]?:=by rw [Μ (by omega)];congr 1;omega
theorem pd :∀ {xs} {fs} {j:Nat} {x:ν},wI mg xs fs→xs[j]? = some x→∃ f,fs[j]? = some f∧mg x=some (.ref f)
 | [],_,_,_,_,e=>by simp at e
 | y :: xs,f :: fs,0,x,h,e=>by simp at e;subst e;exact ⟨f,rfl,h.1⟩
 | y :: xs,f :: fs,j+1,x,h,e=>by
   obtain ⟨g,h1,h2⟩:=pd (j:=j) h.2 (by simpa using e)
   exact ⟨g,by simpa using h1,h2⟩
 | _ :: _,[],_,_,h,_=>h.elim
def fL {α:Type} (P:Nat→α→Prop):Nat→List α→Prop
 | _,[]=>True
 | j,x :: r=>P j x∧fL P (j+1) r
theorem vF :∀ {l:List α} {j i} {x:α},fL P j l→l[i]? = some x→P (j+i) x
 | [],_,i,_,_,e=>by simp at e
 | g :: r,j,0,f,h,e=>by simp at e;subst e;exact h.1
 | g :: r,j,i+1,f,h,e=>by
   have:=vF (i:=i) h.2 (by simpa using e)
   rw [show j+(i+1)=j+1+i by omega];exact this
theorem eX (h:fL P 0 l) (e:l[i]? = some x):P i x:=by
 have:=vF h e
 rwa [Hi] at this
def cQ (K:χ) (C:Β) (m qn:ν) (st:Ó) (f:Β):Prop:=(∃ fd,Fun K m qn st f fd)∧zR K C m f
theorem me_mk {K:χ} {C f:Β} {m qn:ν} {st:Ó} {od an:Option Β} {sl:Array (Option ζ)} {oc kV dc pm cd ct:ζ} (at_:Ρ K (.ref C) m=some (some (.ref f))) (l:K.lookup f=some ⟨oc,od,.func (ϱ m qn (aK st) (bI st) (ax st) .none kV dc pm an cd ct),sl⟩) (fn:ł K (.ref f)=true) (c:Ü K cd qn=true) (k:ϖ K (.ref f)=true):cQ K C m qn st f:=⟨⟨_,kW l c k⟩,at_,fn,k⟩
structure oZ (K:χ) (x:ν) (C:Β):Prop where
 a:ϓ K ϑ x=some (some (.ref C))
 cls:Cls K C
 mks:ņ K C=true
 kp:ϖ K (.ref C)=true
theorem cc_mk {K:χ} (a:ϓ K ϑ x=some (some (.ref C))) (pg:ď K C ė=true) (hd:Â K C=true) (po:ŵ K C=true) (sa:Ρ K (.ref C) "__setattr__" = some (some (.builtin "object.__setattr__"))) (mk:ņ K C=true) (kp:ϖ K (.ref C)=true):oZ K x C:=⟨a,⟨pg,hd,po,sa⟩,mk,kp⟩
structure zW (K:χ) (x qn:ν) (st:Ó) (bmB:List ζ) (nw:String) (C fI:Β):Prop where
 a:ϓ K ϑ x=some (some (.ref C))
 own:gQ K C fI bmB nw
 ini:∃ fd,Fun K "__init__" qn st fI fd
 st:fM K C
 fd:eJ K C
 hh:Â K C=true
 ec:o6 K C
 kp:ϖ K (.ref C)=true
 me:Ϯ K C (.ref C)=some true
theorem xc_mk {K:χ} {x qn:ν} {st:Ó} {bmB:List ζ} {nw:String} {C fI:Β} {nm q:ν} {N:Β} {bs bm:List ζ} {hdct:Bool} {sn:List ν} {sub:List ζ} {ab:Bool} {col:Option Bool} {dd:Option Β} {k0 k1 k2 k3 k5:Option ζ} {od an:Option Β} {sl:Array (Option ζ)} {oc kV dc pm cd ct:ζ}
 (a:ϓ K ϑ x=some (some (.ref C))) (l:K.lookup C=some (FY nm q C N bs bm hdct sn sub ab col dd k0 k1 k2 k3 k5 nw)) (t:Fy K bmB bm=true) (ini:Ρ K (.ref C) "__init__" = some (some (.ref fI))) (fl:K.lookup fI=some ⟨oc,od,.func (ϱ "__init__" qn (aK st) (bI st) (ax st) .none kV dc pm an cd ct),sl⟩) (fn:ł K (.ref fI)=true) (fc:Ü K cd qn=true) (fk:ϖ K (.ref fI)=true)
 (ga:Ρ K (.ref C) "__getattribute__" = some (some (.builtin "BaseException.__getattribute__"))) (gn:Ρ K (.ref C) "__getattr__" = some none) (cl:Ρ K (.ref C) "__class__" = some (some (.builtin "object.__class__"))) (sg:Ŵ K (.builtin "object.__class__") "__get__" = some (some (.builtin "getset_descriptor.__get__"))) (tk:Fj K (.builtin "object.__class__")=some true) (ob:Ϯ K C (.type "object")=some true) (be:Ϯ K C (.type "BaseException")=some true)
 (is:(ť K C).isSome=true) (kp:ϖ K (.ref C)=true) (tyC:ć K (.ref C)=some (.type "type")) (sa:Ρ K (.ref C) "__setattr__" = some (some (.builtin "object.__setattr__"))) (ov:((ť K C).any fun cd=>gA veB cd.mro || gA exB cd.mro)=true) (hdc:((ť K C).any fun cd=>cd.hasDict)=true) (hh:Â K C=true) (me:Ϯ K C (.ref C)=some true):zW K x qn st bmB nw C fI:=
 ⟨a,⟨⟨nm,q,N,bs,bm,hdct,sn,sub,ab,col,dd,k0,k1,k2,k3,k5,l,t⟩,ini,fn⟩,⟨_,kW fl fc fk⟩,⟨sa,ov,hdc,ob⟩,⟨ga,gn,cl,sg,tk,ob,be,is⟩,hh,⟨tyC,is,be⟩,kp,me⟩
def jsC (N:List ν) (nm:List (ν×Δ)) (ck:List Nat):(es:List Κ)→Option (PLift (∀ X:Cx,X.N=N→X.env.scope.names=nm→JsP X ck es))
 | []=>some ⟨fun _ _ _=>.nil⟩
 | .Constant (.str x) _ _ :: r=>match h:decide (x.length≤1000) with
   | true=>(jsC N nm ck r).map fun ih=>⟨fun X hN hs=>.c (of_decide_eq_true h) (ih.down X hN hs)⟩
   | false=>none
 | .FormattedValue (.Name x _) (.negSucc 0) none _ :: r=>match h:(ck.any fun i=>decide (N[i+1]? = some x)) && cu nm x && !((x == ("__debug__":ν)) || (x == ("__classdict__":ν))) with
   | true=>(jsC N nm ck r).map fun ih=>⟨fun X hN hs=>by
     simp only [Υ,Ŋ,decide_eq_true_eq,ĺ] at h
     obtain ⟨⟨⟨i,h1,h2⟩,h3⟩,h4⟩:=h
     exact .f h1 (hN ▸ h2) (bj hs h3) h4 (ih.down X hN hs)⟩
   | false=>none
 | _=>none
def bsP (bs:Option (ν×List Nat)):Option {q:ν×List Nat // bs=some q}:=match bs with
 | some q=>some ⟨q,rfl⟩
 | none=>none
def xB (N:List ν) (nm:List (ν×Δ)) (bs:Option (ν×List Nat)):(b:List Ó)→(l:List (ν×Nat))→Option (PLift (∀ X:Cx,X.N=N→X.env.scope.names=nm→(∀ b c,bs=some (b,c)→∃ B,X.mg b=some (.ref B)∧oY X.K B)→jD X (bs.map (·.2)) b l))
 | [],[]=>some ⟨fun _ _ _ _=>.nil⟩
 | .Assign [.Attribute (.Name s0 _) f _] (.Name x _) _ :: r,(g,i) :: l=>match h:decide (f=g∧N[0]? = some s0∧N[i]? = some x) && cu nm s0 && cu nm x && !((s0 == ("__debug__":ν)) || (s0 == ("__classdict__":ν)) || (x == ("__debug__":ν)) || (x == ("__classdict__":ν))) with
   | true=>(xB N nm bs r l).map fun ih=>⟨fun X hN hs hB=>by
     simp only [Υ,decide_eq_true_eq,ĺ] at h
     obtain ⟨⟨⟨⟨rfl,h1,h2⟩,h3⟩,h4⟩,h5⟩:=h
     exact .cons (hN ▸ h1) (hN ▸ h2) (bj hs h3) (bj hs h4) h5 (ih.down X hN hs hB)⟩
   | false=>none
 | .Expr (.Call (.Attribute (.Name Bn _) m ap) [.Name s0 _,.JoinedStr (e1 :: e2 :: es) _] [] cp) _ :: r,l=>(bsP bs).bind fun q=>match h:decide (Bn=q.1.1∧m = "__init__"∧N[0]? = some s0∧es.length≤50) && cu nm s0 && bN nm Bn && !((s0 == ("__debug__":ν)) || (s0 == ("__classdict__":ν)) || (Bn == ("__debug__":ν))) && (ap.endLine == cp.line) with
   | true=>(jsC N nm q.1.2 (e1 :: e2 :: es)).bind fun js=>(xB N nm bs r l).map fun ih=>⟨fun X hN hs hB=>by
     obtain ⟨⟨b,ck⟩,hb⟩:=q
     subst hb
     simp only [Υ,decide_eq_true_eq,ĺ] at h
     obtain ⟨⟨⟨⟨⟨rfl,rfl,h1,h2⟩,h3⟩,h4⟩,h5⟩,h6⟩:=h
     obtain ⟨B,h9,h10⟩:=hB _ _ rfl
     exact .base rfl (hN ▸ h1) (bj hs h3) h5 (bD hs h4) h9 h10 (js.down X hN hs) h2 h6 (ih.down X hN hs hB)⟩
   | false=>none
 | _,_=>none
def dtC (st:Ó) (nm:List ν) (bs:Option (ν×List Nat)):Bool:=fnC st && decide (j4 st=bG st∧(bG st).length=nm.length+1∧nm.Nodup∧nm.length<900) && (xB (bG st) (ax st).names bs (bI st) (nm.zip (DQ 1 nm.length))).isSome
theorem iY {X:Cx} {x qual:ν} {st:Ó} {f:Β} {fd:ß} {nm:List ν} (bs:Option (ν×List Nat)) (F:Fun X.K x qual st f fd) (h:dtC st nm bs=true) (hB:∀ b c,bs=some (b,c)→∃ B,X.mg b=some (.ref B)∧oY X.K B:=by nofun):FnI X 1 f fd (bG st) nm (bs.map (·.2))∧bV X.K fd (bG st) []:=by
 unfold dtC at h
 simp only [Υ,decide_eq_true_eq] at h
 obtain ⟨⟨h1,h2,h3,h4,h5⟩,h6⟩:=h
 obtain ⟨h6,_⟩:=Ă.mp h6
 obtain ⟨S,B,_⟩:=pS h1
 rw [h2] at S
 refine ⟨?_,B F⟩
 obtain ⟨oc,od,kV,doc,pm,an,cd,ct,osl,rfl,lk,hcd⟩:=F.ex
 exact xk (k:=0) lk hcd S h3 h4 h5 rfl fun A fr L=>h6.down (cxF X X.cal X.cal1 (bG st) qual (ax st) f cd A fr L) rfl rfl hB
def GlL (K:χ):List (ν×L2.Bk.Dk)→Prop
 | []=>True
 | p :: r=>(∃ u,ϓ K ϑ p.1=some (some u)∧aW K p.2 u=true)∧GlL K r
theorem gl_cons {K:χ} (a:ϓ K ϑ x=some (some u)) (b:aW K d u=true) (t:GlL K r):GlL K ((x,d) :: r):=⟨⟨u,a,b⟩,t⟩
theorem GlL.at {K:χ}:∀ {l} {j:Nat} {x:ν},GlL K l→(l.map (·.1))[j]? = some x→∃ d u,(l.map (·.2))[j]? = some d∧ϓ K ϑ x=some (some u)∧aW K d u=true
 | [],_,_,_,e=>by simp at e
 | p :: _,0,_,⟨⟨u,h⟩,_⟩,e=>by simp at e;subst e;exact ⟨_,u,rfl,h⟩
 | _ :: _,j+1,_,h,e=>GlL.at (j:=j) h.2 (by simpa using e)
def kO (K:χ):List (ν×List (ν×L2.Bk.Dk))→Prop
 | []=>True
 | p :: r=>(∃ a,ϓ K ϑ p.1=some (some (.ref a))∧DU (aW K) (fun b=>K.lookup b) a p.2=true)∧kO K r
theorem tb_cons {K:χ} {u:Β} {d:List (ν×L2.Bk.Dk)} (a:ϓ K ϑ x=some (some (.ref u))) (b:DU (aW K) (fun b=>K.lookup b) u d=true) (t:kO K r):kO K ((x,d) :: r):=⟨⟨u,a,b⟩,t⟩
theorem kO.at {K:χ}:∀ {l} {j:Nat} {x:ν},kO K l→(l.map (·.1))[j]? = some x→∃ t a,(l.map (·.2))[j]? = some t∧ϓ K ϑ x=some (some (.ref a))∧DU (aW K) (fun b=>K.lookup b) a t=true
 | [],_,_,_,e=>by simp at e
 | p :: _,0,_,⟨⟨u,h⟩,_⟩,e=>by simp at e;subst e;exact ⟨_,u,rfl,h⟩
 | _ :: _,j+1,_,h,e=>kO.at (j:=j) h.2 (by simpa using e)
def NoL (K:χ):List ν→Prop
 | []=>True
 | x :: r=>ϓ K ϑ x=some none∧NoL K r
theorem nl_cons {K:χ} (a:ϓ K ϑ x=some none) (t:NoL K r):NoL K (x :: r):=⟨a,t⟩
theorem NoL.at {K:χ}:∀ {l},NoL K l→∀ x∈l,ϓ K ϑ x=some none
 | _ :: _,h,_,m=>(π.mp m).elim (fun e=>e ▸ h.1) (h.2.at _)
def NaL (K:χ) (C:Β):List ν→Prop
 | []=>True
 | x :: r=>Ρ K (.ref C) x=some none∧NaL K C r
theorem NaL.at {K:χ}:∀ {l},NaL K C l→∀ x∈l,Ρ K (.ref C) x=some none
 | _ :: _,h,_,m=>(π.mp m).elim (fun e=>e ▸ h.1) (h.2.at _)
def MrL (K:χ):List (ν×ν×Bool)→Prop
 | []=>True
 | p :: r=>(∃ C D:Β,ϓ K ϑ p.1=some (some (.ref C))∧ϓ K ϑ p.2.1=some (some (.ref D))∧Ϯ K C (.ref D)=some p.2.2)∧MrL K r
theorem mr_cons {K:χ} {C D:Β} {m n:ν} {o:Bool} (a:ϓ K ϑ m=some (some (.ref C))) (b:ϓ K ϑ n=some (some (.ref D))) (c:Ϯ K C (.ref D)=some o) (t:MrL K r):MrL K ((m,n,o) :: r):=⟨⟨C,D,a,b,c⟩,t⟩
theorem MrL.at {K:χ} {C D:Β} {m n:ν} {o:Bool}:∀ {l},MrL K l→(m,n,o)∈l→ϓ K ϑ m=some (some (.ref C))→ϓ K ϑ n=some (some (.ref D))→Ϯ K C (.ref D)=some o
 | p :: r,⟨⟨C',D',a,b,c⟩,t⟩,h,e1,e2=>by
   rcases π.mp h with q | q
   ·subst q
    rw [e1] at a;cases a
    rw [e2] at b;cases b
    exact c
   ·exact MrL.at t q e1 e2
def KOf {K:χ} {h:ϳ} (_:K.In h):χ:=K
theorem CV {Γ:Gm} {cal cal1:Nat→List D→List O→Res}:ev Γ cal cal1 br (.v i) s=(match s.env[i]? with | some (some d)=>.ok d (if br then s else un s i) | _=>.bad):=rfl
inductive IT where
 | fin (o:av)
 | call (j:Nat) (ds:List D) (st:List O) (k:Res→IT)
 | call1 (j:Nat) (ds:List D) (st:List O) (k:Res→IT)
 | test (b:Bool) (k:Bool→IT)
 | opt (o:Option D) (k:D→IT)
 | sub (o:Out D) (k:D→Sta→IT)
 | subS (o:av) (k:av→IT)
def IT.bad:IT:=.fin .bad
def lcT (g:D→Sta→(Option D→Sta→IT)→IT):List D→List D→Sta→(D→Sta→IT)→IT
 | [],acc,s,k=>k (.lst acc) s
 | d :: r,acc,s,k=>g d s fun o s'=>match o with
   | some e=>.test (decide (acc.length<100000)) fun t=>if t then lcT g r (acc ++ [e]) s' k else .bad
   | none=>lcT g r acc s' k
def xl (g:D→Sta→(Sta→IT)→IT):List D→Sta→(Sta→IT)→IT
 | [],s,k=>k s
 | d :: r,s,k=>g d s fun s=>xl g r s k
def qo (st:List O) (p c:Nat):Bool:=match st[p]? with | some (.ins c' _)=>c' == c | _=>false
def xp (x y:D) (z:D):Option D:=match x,bx y with | .dic ks ds,some k=>some ((b8 ks ds k).getD z) | _,_=>none
def nz (es:E) (s:Sta) (d:D) (st:List O) (k:D→Sta→IT):IT:=if s.ow.any fun i=>(bL es).contains i then .test (noL d && st.all j9) fun t=>k d ⟨s.env,s.ow.filter fun i=>!(bL es).contains i || (isLst s.env[i]? && t),st⟩ else k d (aft es s d st)
section
variable (Γ:Gm) (cal cal1:Nat→List D→List O→Res) (lp:Bool)
mutual
noncomputable def evT (br:Bool):E→Sta→(D→Sta→IT)→(Nat→List D→Sta→IT)→IT
 | .v i,s,k,kx=>(match s.env[i]? with | some (some d)=>k d (if br then s else un s i) | _=>.bad)
 | .c d,s,k,kx=>k d s
 | .g j,s,k,kx=>(match Γ.gl[j]?.map toD with | some d=>k d s | none=>.bad)
 | .op o a b,s,k,kx=>evT true a s (fun x s=>evT true b s (fun y s=>.opt (opD o (look s.st x) (look s.st y)) fun d=>k d s) kx) kx
 | .isN a,s,k,kx=>evT true a s (fun x s=>k (.bl (jT x)) s) kx
 | .isNN a,s,k,kx=>evT true a s (fun x s=>k (.bl (!jT x)) s) kx
 | .neg a,s,k,kx=>evT true a s (fun x s=>match x with | .int i=>k (.int (-i)) s | _=>.bad) kx
 | .not a,s,k,kx=>evT true a s (fun x s=>match x with | .bl b=>k (.bl (!b)) s | _=>.bad) kx
 | .and a b,s,k,kx=>evT false a s (fun x s=>match x with | .bl t=>.test t fun t=>if t then evT false b s k kx else k (.bl false) s | _=>.bad) kx
 | .or a b,s,k,kx=>evT false a s (fun x s=>match x with | .bl t=>.test t fun t=>if t then k (.bl true) s else evT false b s k kx | _=>.bad) kx
 | .ite c a b,s,k,kx=>evT true c s (fun x s=>match x with | .bl t=>.test t fun t=>if t then evT false a s k kx else evT false b s k kx | _=>.bad) kx
 | .chain o p a b c,s,k,kx=>evT true a s (fun x s=>evT true b s (fun y s=>.opt (opD o (look s.st x) (look s.st y)) fun d=>match d with
   | .bl t=>.test t fun t=>if t then evT true c s (fun z s=>.opt (opD p (look s.st y) (look s.st z)) fun d=>k d s) kx else k (.bl false) s
   | _=>.bad) kx) kx
 | .ix a b,s,k,kx=>evT true a s (fun x s=>evT true b s (fun y s=>.opt (ixD (look s.st x) y) fun d=>k d s) kx) kx
 | .sl a lo hi,s,k,kx=>evT true a s (fun x s=>
  let k3:=fun l s=>(if bJ hi then .opt (slO (look s.st x) l none) fun d=>k d s else evT true hi s (fun z s=>match z with | .int h=>.opt (slO (look s.st x) l (some h)) fun d=>k d s | _=>.bad) kx)
  if bJ lo then k3 none s else evT true lo s (fun z s=>match z with | .int l=>k3 (some l) s | _=>.bad) kx) kx
 | .sl3 a lo hi,s,k,kx=>evT true a s (fun x s=>
  let k3:=fun l s=>(if bJ hi then .opt (oO (look s.st x) l none) fun d=>k d s else evT true hi s (fun z s=>match z with | .int h=>.opt (oO (look s.st x) l (some h)) fun d=>k d s | _=>.bad) kx)
  if bJ lo then k3 none s else evT true lo s (fun z s=>match z with | .int l=>k3 (some l) s | _=>.bad) kx) kx
 | .tget j e d,s,k,kx=>evT true e s (fun x s=>evT false d s (fun z s=>match Γ.tb[j]?,x with | some t,.str y=>k (((Ò y t).map toD).getD z) s | _,_=>.bad) kx) kx
 | .newd j es,s,k,kx=>cR false es s (fun l s=>.opt ((Γ.cl[j]?).bind fun k=>if k.what=1∧l.length=k.at_.length then some (D.ins j l) else none) fun d=>k d s) kx
 | .fld a f,s,k,kx=>evT true a s (fun x s=>.opt (kU Γ s.st x f) fun d=>k d s) kx
 | .tup es,s,k,kx=>cR false es s (fun l s=>if l.length≤100000 then k (.tup l) s else .bad) kx
 | .lst es,s,k,kx=>cR false es s (fun l s=>if l.length≤100000 then k (.lst l) s else .bad) kx
 | .newl es,s,k,kx=>cR false es s (fun l s=>if l.length≤100000 then k (.ref s.st.length) ⟨s.env,s.ow,s.st ++ [.lst l]⟩ else .bad) kx
 | .keep kp a,s,k,kx=>evT false a (hid (kp.filter s.ow.contains) s) (fun d s'=>k d ⟨s.env,s'.ow ++ kp.filter s.ow.contains,s'.st⟩) (fun _ _ _=>.bad)
 | .sto a,s,k,kx=>evT false a s (fun x s=>match x with | .lst l=>k (.ref s.st.length) ⟨s.env,s.ow,s.st ++ [.lst l]⟩ | _=>.bad) kx
 | .call j es,s,k,kx=>cR true es s (fun l s=>.call j l s.st fun r=>match r with | .ok d st=>nz es s d st k | .exc c l st=>kx c l (drp es s st) | .bad=>.bad) kx
 | .hcall j es,s,k,kx=>cR false es s (fun l s=>.test (bc l) fun t=>if t then .call j l [] fun r=>(match r with
  | .ok d st=>.test (noR d) fun t=>if t then k d s else k (shD s.st.length d) ⟨s.env,s.ow,s.st ++ st.map (shO s.st.length)⟩
  | .exc c l _=>.test (bc l) fun t=>if t then kx c l s else .bad
  | .bad=>.bad) else .bad) kx
 | .fcall own j es,s,k,kx=>cR false es s (fun l s=>.test (bc l) fun t=>if t then .call j l [] fun r=>(match r with
  | .ok d st=>.test (own && !qp d) fun t=>if t then .bad else .opt (AH st d) fun d=>k d s
  | .exc c l _=>.test (bc l) fun t=>if t then kx c l s else .bad
  | .bad=>.bad) else .bad) kx
 | .mth c j a es,s,k,kx=>evT true a s (fun x s=>match x with
   | .ref p=>.test (qo s.st p c) fun t=>if t then cR true es s (fun l s=>.call j (.ref p :: l) s.st fun r=>match r with | .ok d st=>nz es s d st k | .exc c l st=>kx c l (drp es s st) | .bad=>.bad) kx else .bad
   | _=>.bad) kx
 | .bi b es,s,k,kx=>cR true es s (fun l s=>.opt (biD b (l.map (look s.st))) fun d=>k d s) kx
 | .tab j e,s,k,kx=>evT true e s (fun x s=>match Γ.tb[j]?,x with | some t,.str y=>.opt ((Ò y t).map toD) fun d=>k d s | _,_=>.bad) kx
 | .tabin j e,s,k,kx=>evT true e s (fun x s=>match Γ.tb[j]?,x with | some t,.str y=>k (.bl (Ò y t).isSome) s | _,_=>.bad) kx
 | .lc t one it elt cond,s,k,kx=>evT false it s (fun x s=>match x with
   | .lst ds=>if lp then .sub ((b6 (fun d s'=>(match aP t one d s'.env with
    | some env=>(noX (ev Γ cal cal1 true cond ⟨env,[],s'.st⟩)).bind fun b s2=>(match b with
      | .bl true=>(noX (ev Γ cal cal1 false elt s2)).bind fun e s3=>.ok (some e) ⟨s3.env,[],s3.st⟩
      | .bl false=>.ok none ⟨s2.env,[],s2.st⟩
      | _=>.bad)
    | none=>.bad)) ds [] ⟨Ζ t.length none ++ s.env,[],s.st⟩)) (fun d s'=>k d ⟨s.env,[],s'.st⟩)
     else lcT (fun d s' k'=>match aP t one d s'.env with
      | some env=>evT true cond ⟨env,[],s'.st⟩ (fun b s2=>match b with
        | .bl t=>.test t fun t=>if t then evT false elt s2 (fun e s3=>k' (some e) ⟨s3.env,[],s3.st⟩) (fun _ _ _=>.bad) else k' none ⟨s2.env,[],s2.st⟩
        | _=>.bad) (fun _ _ _=>.bad)
      | none=>.bad) ds [] ⟨Ζ t.length none ++ s.env,[],s.st⟩ (fun d s'=>k d ⟨s.env,[],s'.st⟩)
   | _=>.bad) kx
 | .tand a b,s,k,kx=>evT true a s (fun x s=>match x with | .bl t=>.test t fun t=>if t then evT true b s k kx else k (.bl false) s | _=>.bad) kx
 | .tor a b,s,k,kx=>evT true a s (fun x s=>match x with | .bl t=>.test t fun t=>if t then k (.bl true) s else evT true b s k kx | _=>.bad) kx
 | .tnot a,s,k,kx=>evT true a s (fun x s=>match x with | .bl b=>k (.bl (!b)) s | _=>.bad) kx
 | .tv a,s,k,kx=>evT true a s (fun x s=>.opt ((vy (look s.st x)).map .bl) fun d=>k d s) kx
 | .it b es,s,k,kx=>cR false es s (fun l s=>.opt ((itD b l).map .lst) fun d=>k d s) kx
 | .itv a,s,k,kx=>evT false a s (fun x s=>match sE x with | some l=>k (.lst l) s | none=>.bad) kx
 | .dic es,s,k,kx=>cR false es s (fun l s=>.opt ((pF l).map fun p=>.dic p.1 p.2) fun d=>k d s) kx
 | .get a b c,s,k,kx=>evT true a s (fun x s=>.test (isDic (look s.st x)) fun t=>if t then evT true b s (fun y s=>evT false c s (fun z s=>.opt (xp (look s.st x) y z) fun d=>k d s) kx) kx else .bad) kx
 | .index a b,s,k,kx=>evT true a s (fun x s=>.test (tS x) fun t=>if t then evT true b s (fun y s=>.opt (xx x y) fun d=>k d s) kx else .bad) kx
 | .join x a,s,k,kx=>evT true a s (fun y s=>.opt (wa x (look s.st y)) fun d=>k d s) kx
 | .fmt x a y,s,k,kx=>evT true a s (fun v s=>.opt (xj x v y) fun d=>k d s) kx
 | .dicc ks es,s,k,kx=>cR false es s (fun l s=>.opt (l8 ks l) fun d=>k d s) kx
 | .isX a js,s,k,kx=>evT true a s (fun x s=>.opt (AY Γ x js) fun d=>k d s) kx
 | .new j es,s,k,kx=>cR true es s (fun l s=>(match Γ.cl[j]? with
   | some q=>if q.what=1 then (if l.length=q.at_.length then k (.ins j l) (drp es s s.st) else .bad) else if q.what=0 then .call1 q.init (.ref s.st.length :: l) (s.st ++ [.ins j []]) fun r=>(match r with
    | .ok .non st=>k (.ref s.st.length) (aft es s .non st)
    | _=>.bad)
     else .bad
   | none=>.bad)) kx
 | _,_,_,_=>.bad
noncomputable def cR (br:Bool):E→Sta→(List D→Sta→IT)→(Nat→List D→Sta→IT)→IT
 | .nil,s,k,kx=>k [] s
 | .cons a r,s,k,kx=>evT br a s (fun x s=>cR br r s (fun l s=>k (x :: l) s) kx) kx
 | _,_,_,_=>.bad
end
def exT:S→Sta→(Sta→IT)→(D→Sta→IT)→(Nat→List D→Sta→IT)→IT
 | .skip,s,kn,kr,kx=>kn s
 | .seq a b,s,kn,kr,kx=>exT a s (fun s=>exT b s kn kr kx) kr kx
 | .set i e,s,kn,kr,kx=>evT Γ cal cal1 lp false e s (fun d s=>kn (lP s i d (bp e))) kx
 | .setT l e,s,kn,kr,kx=>evT Γ cal cal1 lp false e s (fun d s=>match aP l false d s.env with | some env=>kn ⟨env,s.ow.filter fun i=>!l.contains i,s.st⟩ | none=>.bad) kx
 | .setR i es,s,kn,kr,kx=>cR Γ cal cal1 lp false es s (fun l s=>if l.length≤100000 then kn ⟨s.env.set i (some (.ref s.st.length)),s.ow.filter (· != i),s.st ++ [.lst l]⟩ else .bad) kx
 | .ret e,s,kn,kr,kx=>evT Γ cal cal1 lp false e s kr kx
 | .ifs c a b,s,kn,kr,kx=>evT Γ cal cal1 lp true c s (fun x s=>match x with | .bl t=>.test t fun t=>if t then exT a s kn kr kx else exT b s kn kr kx | _=>.bad) kx
 | .drop e,s,kn,kr,kx=>evT Γ cal cal1 lp false e s (fun _ s=>kn s) kx
 | .app i e,s,kn,kr,kx=>if s.ow.contains i && isLst s.env[i]? then evT Γ cal cal1 lp false e s (fun d s=>if s.ow.contains i then (match s.env[i]? with
  | some (some (.lst l))=>.test (decide (l.length<100000)) fun t=>if t then kn ⟨s.env.set i (some (.lst (l ++ [d]))),s.ow,s.st⟩ else .bad
  | _=>.bad) else .bad) kx else .bad
 | .ext i e,s,kn,kr,kx=>if s.ow.contains i && isLst s.env[i]? then evT Γ cal cal1 lp false e s (fun d s=>if s.ow.contains i then (match s.env[i]?,d with
  | some (some (.lst l)),.lst x=>.test (decide (l.length+x.length≤100000)) fun t=>if t then kn ⟨s.env.set i (some (.lst (l ++ x))),s.ow,s.st⟩ else .bad
  | _,_=>.bad) else .bad) kx else .bad
 | .put (.v i) b e,s,kn,kr,kx=>evT Γ cal cal1 lp false e s (fun d s=>(match s.env[i]? with
  | some (some x)=>evT Γ cal cal1 lp true b s (fun y s=>(match x with
    | .ref n=>(match (s.st[n]?).bind fun o=>eg o y d with | some o=>kn ⟨s.env,s.ow,s.st.set n o⟩ | none=>.bad)
    | x=>if s.ow.contains i then .opt (jq x y d) fun y=>kn ⟨s.env.set i (some y),s.ow,s.st⟩ else .bad)) kx
  | _=>.bad)) kx
 | .fapp a f e,s,kn,kr,kx=>evT Γ cal cal1 lp true a s (fun x s=>.test (k7 s.st x) fun t=>if t then evT Γ cal cal1 lp false e s (fun d s=>(match x with
  | .ref n=>(match s.st[n]? with | some (.lst l)=>.test (decide (l.length<100000)) fun t=>if t then kn ⟨s.env,s.ow,s.st.set n (.lst (l ++ [d]))⟩ else .bad | _=>.bad)
  | _=>.bad)) kx else .bad) kx
 | .rais j es,s,kn,kr,kx=>cR Γ cal cal1 lp false es s (fun l s=>.test (iJ Γ j l) fun t=>if t then kx j (nY Γ j l) s else .bad) kx
 | .try_ a hs,s,kn,kr,kx=>exT a s kn kr (fun c l s'=>hndT hs c l s' kn kr kx)
 | .for_ t one it b,s,kn,kr,kx=>evT Γ cal cal1 lp false it s (fun x s=>(match x with
  | .lst ds=>if lp then .subS (bo (fun d s=>match aP t one d s.env with | some env=>exS Γ cal cal1 b ⟨env,s.ow.filter fun i=>!t.contains i,s.st⟩ | none=>.bad) ds s) (fun o=>match o with | .nx s=>kn s | .rt d s=>kr d s | .exc c l s=>kx c l s | .bad=>.bad)
    else xl (fun d s k=>match aP t one d s.env with | some env=>exT b ⟨env,s.ow.filter fun i=>!t.contains i,s.st⟩ k kr kx | none=>.bad) ds s kn
  | _=>.bad)) kx
 | c,s,kn,kr,kx=>.subS (exS Γ cal cal1 c s) (fun o=>match o with | .nx s=>kn s | .rt d s=>kr d s | .exc c l s=>kx c l s | .bad=>.bad)
where hndT:S→Nat→List D→Sta→(Sta→IT)→(D→Sta→IT)→(Nat→List D→Sta→IT)→IT
 | .hand j (some i) b r,c,l,s,kn,kr,kx=>(match cP Γ j c with
  | some true=>exT b ⟨s.env.set i (some (.ins c l)),s.ow.filter (· != i),s.st⟩ (fun s=>kn ⟨s.env.set i none,s.ow.filter (· != i),s.st⟩) kr (fun _ _ _=>.bad)
  | some false=>hndT r c l s kn kr kx
  | none=>.bad)
 | .hand j none b r,c,l,s,kn,kr,kx=>(match cP Γ j c with
  | some true=>exT b s kn kr (fun _ _ _=>.bad)
  | some false=>hndT r c l s kn kr kx
  | none=>.bad)
 | .skip,c,l,s,kn,kr,kx=>kx c l s
 | _,_,_,_,_,_,_=>.bad
def ae:IT→av
 | .fin o=>o
 | .call j ds st k=>ae (k (cal j ds st))
 | .call1 j ds st k=>ae (k (cal1 j ds st))
 | .test b k=>ae (k b)
 | .opt o k=>(match o with | some d=>ae (k d) | none=>.bad)
 | .sub o k=>(match o with | .ok d s=>ae (k d s) | _=>.bad)
 | .subS o k=>ae (k o)
end
def oc {α:Type} (x:Out α) (k:α→Sta→av) (kx:Nat→List D→Sta→av):av:=match x with
 | .ok a s=>k a s
 | .exc c l s=>kx c l s
 | .bad=>.bad
theorem bA :oc (x.bind f) k kx=oc x (fun a s=>oc (f a s) k kx) kx:=by cases x <;> rfl
theorem cg (h:∀ a s,k a s=k' a s):oc x k kx=oc x k' kx:=by cases x <;> first | exact h _ _ | rfl
theorem ag (h:∀ a s,g a s=oc (f a s) k kx):oc x g kx=oc (x.bind f) k kx:=by
 rw [bA];exact cg h
section
variable {Γ:Gm} {cal cal1:Nat→List D→List O→Res} {lp:Bool}
theorem bH {k:D→Sta→IT} :ae cal cal1 (.opt o fun d=>k d s)=oc (.of s o) (fun d s=>ae cal cal1 (k d s)) kx:=by cases o <;> rfl
theorem ql [Decidable p] {k:D→Sta→IT} {kx:Nat→List D→Sta→av}:ae cal cal1 (if p then k d s else .bad)=oc (if p then .ok d s else .bad) (fun d s=>ae cal cal1 (k d s)) kx:=by split <;> rfl
theorem AU {st:List O} {k:D→Sta→IT}:ae cal cal1 (nz es s d st k)=ae cal cal1 (k d (aft es s d st)):=by unfold nz;split <;> rfl
theorem v8 {k:D→Sta→IT} {kx:Nat→List D→Sta→IT}:ae cal cal1 (.call j l s.st fun r=>match r with | .ok d st=>nz es s d st k | .exc c l st=>kx c l (drp es s st) | .bad=>.bad)=oc (gW cal es j l s) (fun d s=>ae cal cal1 (k d s)) (fun c l s=>ae cal cal1 (kx c l s)):=by
 show ae cal cal1 (match cal j l s.st with | .ok d st=>nz es s d st k | .exc c l st=>kx c l (drp es s st) | .bad=>.bad)=_
 unfold gW
 cases cal j l s.st <;> first | exact AU | rfl
theorem ly (h:∀ d s k,ae cal cal1 (g d s k)=oc (f d s) (fun o s=>ae cal cal1 (k o s)) (fun _ _ _=>.bad)):∀ (ds acc) (s) (k:D→Sta→IT),ae cal cal1 (lcT g ds acc s k)=oc (b6 f ds acc s) (fun d s=>ae cal cal1 (k d s)) (fun _ _ _=>.bad)
 | [],acc,s,k=>rfl
 | d :: r,acc,s,k=>by
   show ae cal cal1 (g d s _)=oc ((f d s).bind _) _ _
   rw [h,bA]
   refine cg fun o s'=>?_
   cases o with
   | none=>exact ly h r acc s' k
   | some e=>
     dsimp only
     show ae cal cal1 (if decide (acc.length<100000)=true then lcT g r (acc ++ [e]) s' k else .bad)=_
     by_cases c:acc.length<100000
     ·rw [ZZ (ZW c),ZZ c];exact ly h r (acc ++ [e]) s' k
     ·rw [ZY (by simpa using c),ZY c];rfl
def nox:Out α→Prop
 | .exc _ _ _=>False
 | _=>True
theorem d5 (h:∀ d s,nox (f d s)):∀ (ds acc) (s),nox (b6 f ds acc s)
 | [],_,_=>trivial
 | d :: r,acc,s=>by
   have:=h d s
   show nox ((f d s).bind _)
   cases q:f d s with
   | bad=>trivial
   | exc c l s'=>rw [q] at this;exact this.elim
   | ok o s'=>
     cases o with
     | none=>exact d5 h r acc s'
     | some e=>
       show nox (if acc.length<100000 then b6 f r (acc ++ [e]) s' else .bad)
       split
       ·exact d5 h r _ s'
       ·trivial
theorem yM (h:nox x):oc x k kx=oc x k kx':=by
 cases x with
 | exc c l s=>exact h.elim
 | _=>rfl
theorem ra :oc x k (fun _ _ _=>.bad)=oc (noX x) k (fun _ _ _=>.bad):=by cases x <;> rfl
theorem AW (n:nox x):ae cal cal1 (.sub x k)=oc x (fun d s=>ae cal cal1 (k d s)) kx:=by
 cases x with
 | exc c l s=>exact n.elim
 | _=>rfl
theorem AD :evT Γ cal cal1 lp br (.v i) s k kx=(match s.env[i]? with | some (some d)=>k d (if br then s else un s i) | _=>.bad):=rfl
theorem AC :evT Γ cal cal1 lp br (.g j) s k kx=(match Γ.gl[j]?.map toD with | some d=>k d s | none=>.bad):=rfl
theorem CU :ev Γ cal cal1 br (.g j) s = .of s (Γ.gl[j]?.map toD):=rfl
theorem bC:∀ e:E,(∀ br s k kx,ae cal cal1 (evT Γ cal cal1 lp br e s k kx)=oc (ev Γ cal cal1 br e s) (fun d s=>ae cal cal1 (k d s)) (fun c l s=>ae cal cal1 (kx c l s))) ∧
 (∀ br s k kx,ae cal cal1 (cR Γ cal cal1 lp br e s k kx)=oc (evs Γ cal cal1 br e s) (fun d s=>ae cal cal1 (k d s)) (fun c l s=>ae cal cal1 (kx c l s))):=by
 intro e
 induction e with
 | v i=>
   refine ⟨fun br s k kx=>?_,fun br s k kx=>rfl⟩
   rw [AD,CV]
   cases s.env[i]? with
   | none=>rfl
   | some o=>cases o <;> rfl
 | c d=>exact ⟨fun br s k kx=>rfl,fun br s k kx=>rfl⟩
 | g j=>
   refine ⟨fun br s k kx=>?_,fun br s k kx=>rfl⟩
   rw [AC,CU]
   cases Γ.gl[j]?.map toD <;> rfl
 | op o a b iha ihb=>exact ⟨fun br s k kx=>(iha.1 _ _ _ _).trans (ag fun x s=>(ihb.1 _ _ _ _).trans (ag fun y s=>bH)),fun br s k kx=>rfl⟩
 | isN a ih=>exact ⟨fun br s k kx=>(ih.1 _ _ _ _).trans (ag fun x s=>rfl),fun br s k kx=>rfl⟩
 | isNN a ih=>exact ⟨fun br s k kx=>(ih.1 _ _ _ _).trans (ag fun x s=>rfl),fun br s k kx=>rfl⟩
 | neg a ih=>exact ⟨fun br s k kx=>(ih.1 _ _ _ _).trans (ag fun x s=>by cases x <;> rfl),fun br s k kx=>rfl⟩
 | not a ih=>exact ⟨fun br s k kx=>(ih.1 _ _ _ _).trans (ag fun x s=>by cases x <;> rfl),fun br s k kx=>rfl⟩
 | and a b iha ihb=>exact ⟨fun br s k kx=>(iha.1 _ _ _ _).trans (ag fun x s=>by
  cases x with
  | bl t=>cases t with
    | true=>exact ihb.1 _ _ _ _
    | false=>rfl
  | _=>rfl),fun br s k kx=>rfl⟩
 | or a b iha ihb=>exact ⟨fun br s k kx=>(iha.1 _ _ _ _).trans (ag fun x s=>by
  cases x with
  | bl t=>cases t with
    | false=>exact ihb.1 _ _ _ _
    | true=>rfl
  | _=>rfl),fun br s k kx=>rfl⟩
 | ite c a b ihc iha ihb=>exact ⟨fun br s k kx=>(ihc.1 _ _ _ _).trans (ag fun x s=>by
  cases x with
  | bl t=>cases t with
    | true=>exact iha.1 _ _ _ _
    | false=>exact ihb.1 _ _ _ _
  | _=>rfl),fun br s k kx=>rfl⟩
 | chain o p a b c iha ihb ihc=>exact ⟨fun br s k kx=>(iha.1 _ _ _ _).trans (ag fun x s=>(ihb.1 _ _ _ _).trans (ag fun y s=>by
  show ae cal cal1 (.opt (opD o (look s.st x) (look s.st y)) _)=_
  cases opD o (look s.st x) (look s.st y) with
  | none=>rfl
  | some d=>cases d with
    | bl t=>cases t with
      | true=>exact (ihc.1 _ _ _ _).trans (ag fun z s=>bH)
      | false=>rfl
    | _=>rfl)),fun br s k kx=>rfl⟩
 | ix a b iha ihb=>exact ⟨fun br s k kx=>(iha.1 _ _ _ _).trans (ag fun x s=>(ihb.1 _ _ _ _).trans (ag fun y s=>bH)),fun br s k kx=>rfl⟩
 | sl a lo hi iha ihl ihh=>
   refine ⟨fun br s k kx=>(iha.1 _ _ _ _).trans (ag fun x s=>?_),fun br s k kx=>rfl⟩
   have k3:∀ l s,ae cal cal1 (if bJ hi then .opt (slO (look s.st x) l none) fun d=>k d s else evT Γ cal cal1 lp true hi s (fun z s=>match z with | .int h=>.opt (slO (look s.st x) l (some h)) fun d=>k d s | _=>.bad) kx)=oc ((if bJ hi then .ok none s else (ev Γ cal cal1 true hi s).bind toI).bind fun h s=>.of s (slO (look s.st x) l h)) (fun d s=>ae cal cal1 (k d s)) (fun c l s=>ae cal cal1 (kx c l s)):=fun l s=>by
    by_cases c:bJ hi=true
    ·rw [ZZ c,ZZ c];exact bH
    ·rw [ZY c,ZY c,ihh.1,bA,bA]
     exact cg fun z s=>by cases z <;> first | exact bH | rfl
   by_cases c:bJ lo=true
   ·dsimp only
    rw [ZZ c,ZZ c];exact k3 none s
   ·dsimp only
    rw [ZY c,ZY c,ihl.1,bA,bA]
    exact cg fun z s=>by cases z <;> first | exact k3 _ s | rfl
 | sl3 a lo hi iha ihl ihh=>
   refine ⟨fun br s k kx=>(iha.1 _ _ _ _).trans (ag fun x s=>?_),fun br s k kx=>rfl⟩
   have k3:∀ l s,ae cal cal1 (if bJ hi then .opt (oO (look s.st x) l none) fun d=>k d s else evT Γ cal cal1 lp true hi s (fun z s=>match z with | .int h=>.opt (oO (look s.st x) l (some h)) fun d=>k d s | _=>.bad) kx)=oc ((if bJ hi then .ok none s else (ev Γ cal cal1 true hi s).bind toI).bind fun h s=>.of s (oO (look s.st x) l h)) (fun d s=>ae cal cal1 (k d s)) (fun c l s=>ae cal cal1 (kx c l s)):=fun l s=>by
    by_cases c:bJ hi=true
    ·rw [ZZ c,ZZ c];exact bH
    ·rw [ZY c,ZY c,ihh.1,bA,bA]
     exact cg fun z s=>by cases z <;> first | exact bH | rfl
   by_cases c:bJ lo=true
   ·dsimp only
    rw [ZZ c,ZZ c];exact k3 none s
   ·dsimp only
    rw [ZY c,ZY c,ihl.1,bA,bA]
    exact cg fun z s=>by cases z <;> first | exact k3 _ s | rfl
 | tget j a b iha ihb=>exact ⟨fun br s k kx=>(iha.1 _ _ _ _).trans (ag fun x s=>(ihb.1 _ _ _ _).trans (ag fun y s=>by cases Γ.tb[j]? <;> cases x <;> rfl)),fun br s k kx=>rfl⟩
 | newd j es ih=>exact ⟨fun br s k kx=>(ih.2 _ _ _ _).trans (ag fun l s=>bH),fun br s k kx=>rfl⟩
 | fld a f ih=>exact ⟨fun br s k kx=>(ih.1 _ _ _ _).trans (ag fun x s=>bH),fun br s k kx=>rfl⟩
 | tup es ih=>exact ⟨fun br s k kx=>(ih.2 _ _ _ _).trans (ag fun l s=>ql),fun br s k kx=>rfl⟩
 | lst es ih=>exact ⟨fun br s k kx=>(ih.2 _ _ _ _).trans (ag fun l s=>ql),fun br s k kx=>rfl⟩
 | newl es ih=>exact ⟨fun br s k kx=>(ih.2 _ _ _ _).trans (ag fun l s=>by by_cases c:l.length≤100000 <;> simp only [c,if_true,if_false] <;> rfl),fun br s k kx=>rfl⟩
 | nil=>exact ⟨fun br s k kx=>rfl,fun br s k kx=>rfl⟩
 | cons a r iha ihr=>exact ⟨fun br s k kx=>rfl,fun br s k kx=>(iha.1 _ _ _ _).trans (ag fun x s=>(ihr.2 _ _ _ _).trans (ag fun l s=>rfl))⟩
 | call j es ih=>exact ⟨fun br s k kx=>(ih.2 _ _ _ _).trans (ag fun l s=>v8),fun br s k kx=>rfl⟩
 | hcall j es ih=>exact ⟨fun br s k kx=>(ih.2 _ _ _ _).trans (ag fun l s=>by
  show ae cal cal1 (if bc l=true then _ else .bad)=oc (tM cal j l s) _ _
  unfold tM
  split
  ·show ae cal cal1 (match cal j l [] with | .ok d _=>_ | .exc c l _=>_ | .bad=>_)=_
   cases cal j l [] with
   | ok d st=>show ae cal cal1 (if noR d=true then _ else _)=_;dsimp only;split <;> rfl
   | exc c l st=>show ae cal cal1 (if bc l=true then _ else .bad)=_;dsimp only;split <;> rfl
   | bad=>rfl
  ·rfl),fun br s k kx=>rfl⟩
 | fcall own j es ih=>exact ⟨fun br s k kx=>(ih.2 _ _ _ _).trans (ag fun l s=>by
  show ae cal cal1 (if bc l=true then _ else .bad)=oc (xh cal own j l s) _ _
  unfold xh
  split
  ·show ae cal cal1 (match cal j l [] with | .ok d _=>_ | .exc c l _=>_ | .bad=>_)=_
   cases cal j l [] with
   | ok d st=>
     show ae cal cal1 (if (own && !qp d)=true then _ else _)=_;dsimp only;split
     ·rfl
     ·exact bH
   | exc c l st=>show ae cal cal1 (if bc l=true then _ else .bad)=_;dsimp only;split <;> rfl
   | bad=>rfl
  ·rfl),fun br s k kx=>rfl⟩
 | mth c j a es iha ih=>exact ⟨fun br s k kx=>(iha.1 _ _ _ _).trans (ag fun x s=>by
  cases x with
  | ref p=>
    show ae cal cal1 (if qo s.st p c=true then _ else .bad)=_
    unfold qo
    dsimp only
    cases s.st[p]? with
    | none=>rfl
    | some o=>cases o with
      | ins c' l'=>
        dsimp only
        by_cases e:c'=c
        ·rw [ZZ (by simpa using e),ZZ e]
         exact (ih.2 _ _ _ _).trans (ag fun l s=>v8)
        ·rw [ZY (by simpa using e),ZY e];rfl
      | _=>rfl
  | _=>rfl),fun br s k kx=>rfl⟩
 | bi b es ih=>exact ⟨fun br s k kx=>(ih.2 _ _ _ _).trans (ag fun l s=>bH),fun br s k kx=>rfl⟩
 | tab j a ih=>exact ⟨fun br s k kx=>(ih.1 _ _ _ _).trans (ag fun x s=>by cases Γ.tb[j]? <;> cases x <;> first | exact bH | rfl),fun br s k kx=>rfl⟩
 | tabin j a ih=>exact ⟨fun br s k kx=>(ih.1 _ _ _ _).trans (ag fun x s=>by cases Γ.tb[j]? <;> cases x <;> rfl),fun br s k kx=>rfl⟩
 | tand a b iha ihb=>exact ⟨fun br s k kx=>(iha.1 _ _ _ _).trans (ag fun x s=>by
  cases x with
  | bl t=>cases t with
    | true=>exact ihb.1 _ _ _ _
    | false=>rfl
  | _=>rfl),fun br s k kx=>rfl⟩
 | tor a b iha ihb=>exact ⟨fun br s k kx=>(iha.1 _ _ _ _).trans (ag fun x s=>by
  cases x with
  | bl t=>cases t with
    | false=>exact ihb.1 _ _ _ _
    | true=>rfl
  | _=>rfl),fun br s k kx=>rfl⟩
 | tnot a ih=>exact ⟨fun br s k kx=>(ih.1 _ _ _ _).trans (ag fun x s=>by cases x <;> rfl),fun br s k kx=>rfl⟩
 | tv a ih=>exact ⟨fun br s k kx=>(ih.1 _ _ _ _).trans (ag fun x s=>bH),fun br s k kx=>rfl⟩
 | it b es ih=>exact ⟨fun br s k kx=>(ih.2 _ _ _ _).trans (ag fun l s=>bH),fun br s k kx=>rfl⟩
 | itv a ih=>exact ⟨fun br s k kx=>(ih.1 _ _ _ _).trans (ag fun x s=>by cases sE x <;> rfl),fun br s k kx=>rfl⟩
 | dic es ih=>exact ⟨fun br s k kx=>(ih.2 _ _ _ _).trans (ag fun l s=>bH),fun br s k kx=>rfl⟩
 | get a b c iha ihb ihc=>exact ⟨fun br s k kx=>(iha.1 _ _ _ _).trans (ag fun x s=>by
  show ae cal cal1 (if isDic (look s.st x)=true then _ else .bad)=_
  split
  ·refine (ihb.1 _ _ _ _).trans (ag fun y s=>(ihc.1 _ _ _ _).trans (ag fun z s=>?_))
   show ae cal cal1 (.opt (xp (look s.st x) y z) _)=_
   unfold xp
   cases look s.st x <;> cases bx y <;> rfl
  ·rfl),fun br s k kx=>rfl⟩
 | index a b iha ihb=>exact ⟨fun br s k kx=>(iha.1 _ _ _ _).trans (ag fun x s=>by
  show ae cal cal1 (if tS x=true then _ else _)=oc (if tS x=true then _ else _) _ _
  split
  ·exact (ihb.1 _ _ _ _).trans (ag fun y s=>bH)
  ·rfl),fun br s k kx=>rfl⟩
 | join x a ih=>exact ⟨fun br s k kx=>(ih.1 _ _ _ _).trans (ag fun y s=>bH),fun br s k kx=>rfl⟩
 | fmt x a y ih=>exact ⟨fun br s k kx=>(ih.1 _ _ _ _).trans (ag fun v s=>bH),fun br s k kx=>rfl⟩
 | dicc ks es ih=>exact ⟨fun br s k kx=>(ih.2 _ _ _ _).trans (ag fun l s=>bH),fun br s k kx=>rfl⟩
 | keep kp a ih=>exact ⟨fun br s k kx=>(ih.1 _ _ _ _).trans (by show oc (ev Γ cal cal1 false a _) _ _=oc ((noX (ev Γ cal cal1 false a _)).bind _) _ _;cases ev Γ cal cal1 false a (hid (kp.filter s.ow.contains) s) <;> rfl),fun br s k kx=>rfl⟩
 | sto a ih=>exact ⟨fun br s k kx=>(ih.1 _ _ _ _).trans (ag fun x s=>by cases x <;> rfl),fun br s k kx=>rfl⟩
 | isX a js ih=>exact ⟨fun br s k kx=>(ih.1 _ _ _ _).trans (ag fun x s=>bH),fun br s k kx=>rfl⟩
 | lc t one it elt cond ihi ihe ihc=>
   refine ⟨fun br s k kx=>(ihi.1 _ _ _ _).trans (ag fun x s=>?_),fun br s k kx=>rfl⟩
   cases x with
   | lst ds=>
     dsimp only
     have nx:∀ (d:D) (s':Sta),nox (match aP t one d s'.env with
      | some env=>(noX (ev Γ cal cal1 true cond ⟨env,[],s'.st⟩)).bind fun b s2=>(match b with
        | .bl true=>(noX (ev Γ cal cal1 false elt s2)).bind fun e s3=>.ok (some e) ⟨s3.env,[],s3.st⟩
        | .bl false=>.ok none ⟨s2.env,[],s2.st⟩
        | _=>.bad)
      | none=>Out.bad):=fun d s'=>by
      cases aP t one d s'.env with
      | none=>trivial
      | some env=>
        dsimp only
        cases ev Γ cal cal1 true cond ⟨env,[],s'.st⟩ with
        | ok b s2=>cases b with
          | bl b=>cases b with
            | true=>
              show nox ((noX (ev Γ cal cal1 false elt s2)).bind _)
              cases ev Γ cal cal1 false elt s2 <;> trivial
            | false=>trivial
          | _=>trivial
        | _=>trivial
     cases lp with
     | true=>
       rw [ZZ rfl,bA]
       have n2:=d5 nx ds [] ⟨Ζ t.length none ++ s.env,[],s.st⟩
       exact AW n2
     | false=>
       rw [ZY ϝ,bA]
       refine (ly (f:=fun d s'=>(match aP t one d s'.env with
        | some env=>(noX (ev Γ cal cal1 true cond ⟨env,[],s'.st⟩)).bind fun b s2=>(match b with
          | .bl true=>(noX (ev Γ cal cal1 false elt s2)).bind fun e s3=>.ok (some e) ⟨s3.env,[],s3.st⟩
          | .bl false=>.ok none ⟨s2.env,[],s2.st⟩
          | _=>.bad)
        | none=>.bad)) (fun d s' k'=>?_) ds [] _ _).trans ?_
       ·cases aP t one d s'.env with
        | none=>rfl
        | some env=>
          dsimp only
          refine (ihc.1 _ _ _ _).trans ?_
          show oc (ev Γ cal cal1 true cond ⟨env,[],s'.st⟩) _ (fun _ _ _=>.bad)=_
          rw [ra]
          refine ag fun b s2=>?_
          cases b with
          | bl b=>cases b with
            | true=>
              refine (ihe.1 _ _ _ _).trans ?_
              show oc (ev Γ cal cal1 false elt s2) _ (fun _ _ _=>.bad)=_
              rw [ra]
              exact ag fun e s3=>rfl
            | false=>rfl
          | _=>rfl
       ·exact yM (d5 nx ds [] _)
   | _=>rfl
 | new j es ih=>exact ⟨fun br s k kx=>(ih.2 _ _ _ _).trans (ag fun l s=>by
  cases Γ.cl[j]? with
  | none=>rfl
  | some q=>
    dsimp only
    by_cases c1:q.what=1
    ·rw [ZZ c1,ZZ c1];exact ql
    ·rw [ZY c1,ZY c1]
     by_cases c0:q.what=0
     ·rw [ZZ c0,ZZ c0]
      show ae cal cal1 (match cal1 q.init (.ref s.st.length :: l) (s.st ++ [.ins j []]) with | .ok .non st=>k (.ref s.st.length) (aft es s .non st) | _=>.bad)=_
      cases cal1 q.init (.ref s.st.length :: l) (s.st ++ [.ins j []]) with
      | ok d st=>cases d <;> rfl
      | _=>rfl
     ·rw [ZY c0,ZY c0];rfl),fun br s k kx=>rfl⟩
end
def sc (x:av) (kn:Sta→av) (kr:D→Sta→av) (kx:Nat→List D→Sta→av):av:=match x with
 | .nx s=>kn s
 | .rt d s=>kr d s
 | .exc c l s=>kx c l s
 | .bad=>.bad
theorem BW :sc (x.go f) kn kr kx=oc x (fun a s=>sc (f a s) kn kr kx) kx:=by cases x <;> rfl
theorem aY (h:∀ a s,g a s=sc (f a s) kn kr kx):oc x g kx=sc (x.go f) kn kr kx:=by
 rw [BW];exact cg h
theorem rV :sc (x.go f) kn kr kx=sc x (fun s=>sc (f s) kn kr kx) kr kx:=by cases x <;> rfl
theorem ki (h:∀ s,kn s=kn' s) (h2:∀ c l s,kx c l s=kx' c l s):sc x kn kr kx=sc x kn' kr kx':=by cases x <;> first | exact h _ | exact h2 _ _ _ | rfl
section
variable {Γ:Gm} {cal cal1:Nat→List D→List O→Res} {lp:Bool}
theorem ml (h:∀ d s k,ae cal cal1 (g d s k)=sc (f d s) (fun s=>ae cal cal1 (k s)) kr kx):∀ (ds) (s) (k:Sta→IT),ae cal cal1 (xl g ds s k)=sc (bo f ds s) (fun s=>ae cal cal1 (k s)) kr kx
 | [],s,k=>rfl
 | d :: r,s,k=>by
   show ae cal cal1 (g d s _)=sc ((f d s).go _) _ _ _
   rw [h,rV]
   exact ki (fun s=>ml h r s k) fun _ _ _=>rfl
theorem eO {kn:Sta→IT} {kr:D→Sta→IT} {kx:Nat→List D→Sta→IT}:ae cal cal1 (.subS x (fun o=>match o with | .nx s=>kn s | .rt d s=>kr d s | .exc c l s=>kx c l s | .bad=>.bad))=sc x (fun s=>ae cal cal1 (kn s)) (fun d s=>ae cal cal1 (kr d s)) (fun c l s=>ae cal cal1 (kx c l s)):=by cases x <;> rfl
theorem AV {g:D→Sta} {kn:Sta→IT} {kr:D→Sta→av} {kx:Nat→List D→Sta→av}:ae cal cal1 (.opt o fun y=>kn (g y))=sc (match o with | some y=>.nx (g y) | none=>.bad) (fun s=>ae cal cal1 (kn s)) kr kx:=by cases o <;> rfl
theorem tF :exT Γ cal cal1 lp (.app i e) s kn kr kx=(if s.ow.contains i && isLst s.env[i]? then evT Γ cal cal1 lp false e s (fun d s=>if s.ow.contains i then (match s.env[i]? with
 | some (some (.lst l))=>.test (decide (l.length<100000)) fun t=>if t then kn ⟨s.env.set i (some (.lst (l ++ [d]))),s.ow,s.st⟩ else .bad
 | _=>.bad) else .bad) kx else .bad):=rfl
theorem tD :exS Γ cal cal1 (.app i e) s=(if s.ow.contains i && isLst s.env[i]? then (ev Γ cal cal1 false e s).go fun d s=>if s.ow.contains i then (match s.env[i]? with
 | some (some (.lst l))=>if l.length<100000 then .nx ⟨s.env.set i (some (.lst (l ++ [d]))),s.ow,s.st⟩ else .bad
 | _=>.bad) else .bad else .bad):=rfl
theorem tG :exT Γ cal cal1 lp (.ext i e) s kn kr kx=(if s.ow.contains i && isLst s.env[i]? then evT Γ cal cal1 lp false e s (fun d s=>if s.ow.contains i then (match s.env[i]?,d with
 | some (some (.lst l)),.lst x=>.test (decide (l.length+x.length≤100000)) fun t=>if t then kn ⟨s.env.set i (some (.lst (l ++ x))),s.ow,s.st⟩ else .bad
 | _,_=>.bad) else .bad) kx else .bad):=rfl
theorem tE :exS Γ cal cal1 (.ext i e) s=(if s.ow.contains i && isLst s.env[i]? then (ev Γ cal cal1 false e s).go fun d s=>if s.ow.contains i then (match s.env[i]?,d with
 | some (some (.lst l)),.lst x=>if l.length+x.length≤100000 then .nx ⟨s.env.set i (some (.lst (l ++ x))),s.ow,s.st⟩ else .bad
 | _,_=>.bad) else .bad else .bad):=rfl
theorem qm {kn:Sta→IT} {kr:D→Sta→av} {kx:Nat→List D→Sta→av} {c:Prop} [Decidable c] {z:Sta}:ae cal cal1 (.test (decide c) fun t=>if t then kn z else .bad)=sc (if c then .nx z else .bad) (fun s=>ae cal cal1 (kn s)) kr kx:=by
 show ae cal cal1 (if decide c=true then _ else .bad)=_
 by_cases h:c
 ·rw [ZZ (ZW h),ZZ h];rfl
 ·rw [ZY (by simpa using h),ZY h];rfl
theorem pL:∀ c:S,(∀ s kn kr kx,ae cal cal1 (exT Γ cal cal1 lp c s kn kr kx)=sc (exS Γ cal cal1 c s) (fun s=>ae cal cal1 (kn s)) (fun d s=>ae cal cal1 (kr d s)) (fun c l s=>ae cal cal1 (kx c l s))) ∧
 (∀ c' l s kn kr kx,ae cal cal1 (exT.hndT Γ cal cal1 lp c c' l s kn kr kx)=sc (exS.hnd Γ cal cal1 c c' l s) (fun s=>ae cal cal1 (kn s)) (fun d s=>ae cal cal1 (kr d s)) (fun c l s=>ae cal cal1 (kx c l s))):=by
 intro c
 have hb:∀ {c:S},(∀ c' l s kn kr kx,exT.hndT Γ cal cal1 lp c c' l s kn kr kx = .bad)→(∀ c' l s,exS.hnd Γ cal cal1 c c' l s = .bad)→(∀ c' l s kn kr kx,ae cal cal1 (exT.hndT Γ cal cal1 lp c c' l s kn kr kx)=sc (exS.hnd Γ cal cal1 c c' l s) (fun s=>ae cal cal1 (kn s)) (fun d s=>ae cal cal1 (kr d s)) (fun c l s=>ae cal cal1 (kx c l s))):=fun h1 h2 c' l s kn kr kx=>by rw [h1,h2];rfl
 induction c with
 | skip=>exact ⟨fun s kn kr kx=>rfl,fun _ _ _ _ _ _=>rfl⟩
 | seq a b iha ihb=>
   refine ⟨fun s kn kr kx=>(iha.1 _ _ _ _).trans ?_,hb (fun _ _ _ _ _ _=>rfl) fun _ _ _=>rfl⟩
   show _=sc ((exS Γ cal cal1 a s).go fun s=>exS Γ cal cal1 b s) _ _ _
   rw [rV]
   exact ki (fun s=>ihb.1 _ _ _ _) fun _ _ _=>rfl
 | set i e=>exact ⟨fun s kn kr kx=>((bC e).1 _ _ _ _).trans (aY fun d s=>rfl),hb (fun _ _ _ _ _ _=>rfl) fun _ _ _=>rfl⟩
 | setT l e=>exact ⟨fun s kn kr kx=>((bC e).1 _ _ _ _).trans (aY fun d s=>by cases aP l false d s.env <;> rfl),hb (fun _ _ _ _ _ _=>rfl) fun _ _ _=>rfl⟩
 | setR i es=>exact ⟨fun s kn kr kx=>((bC es).2 _ _ _ _).trans (aY fun l s=>by by_cases c:l.length≤100000 <;> simp only [c,if_true,if_false] <;> rfl),hb (fun _ _ _ _ _ _=>rfl) fun _ _ _=>rfl⟩
 | ret e=>exact ⟨fun s kn kr kx=>((bC e).1 _ _ _ _).trans (aY fun d s=>rfl),hb (fun _ _ _ _ _ _=>rfl) fun _ _ _=>rfl⟩
 | ifs c a b iha ihb=>exact ⟨fun s kn kr kx=>((bC c).1 _ _ _ _).trans (aY fun x s=>by
  cases x with
  | bl t=>cases t with
    | true=>exact iha.1 _ _ _ _
    | false=>exact ihb.1 _ _ _ _
  | _=>rfl),hb (fun _ _ _ _ _ _=>rfl) fun _ _ _=>rfl⟩
 | drop e=>exact ⟨fun s kn kr kx=>((bC e).1 _ _ _ _).trans (aY fun d s=>rfl),hb (fun _ _ _ _ _ _=>rfl) fun _ _ _=>rfl⟩
 | app i e=>
   refine ⟨fun s kn kr kx=>?_,hb (fun _ _ _ _ _ _=>rfl) fun _ _ _=>rfl⟩
   rw [tF,tD]
   split
   ·refine ((bC e).1 _ _ _ _).trans (aY fun d s=>?_)
    split
    ·split <;> first | exact qm | rfl
    ·rfl
   ·rfl
 | ext i e=>
   refine ⟨fun s kn kr kx=>?_,hb (fun _ _ _ _ _ _=>rfl) fun _ _ _=>rfl⟩
   rw [tG,tE]
   split
   ·refine ((bC e).1 _ _ _ _).trans (aY fun d s=>?_)
    split
    ·split <;> first | exact qm | rfl
    ·rfl
   ·rfl
 | put a b e=>
   refine ⟨fun s kn kr kx=>?_,hb (fun _ _ _ _ _ _=>rfl) fun _ _ _=>rfl⟩
   cases a with
   | v i=>
     refine ((bC e).1 _ _ _ _).trans (aY fun d s=>?_)
     cases s.env[i]? with
     | none=>rfl
     | some o=>cases o with
       | none=>rfl
       | some x=>
         refine ((bC b).1 _ _ _ _).trans (aY fun y s=>?_)
         cases x with
         | ref n=>
           dsimp only
           cases (s.st[n]?).bind fun o=>eg o y d <;> rfl
         | _=>
           dsimp only
           split
           ·exact AV
           ·rfl
   | _=>exact eO
 | fld a f e=>exact ⟨fun s kn kr kx=>eO,hb (fun _ _ _ _ _ _=>rfl) fun _ _ _=>rfl⟩
 | aug a f o e=>exact ⟨fun s kn kr kx=>eO,hb (fun _ _ _ _ _ _=>rfl) fun _ _ _=>rfl⟩
 | fapp a f e=>
   refine ⟨fun s kn kr kx=>((bC a).1 _ _ _ _).trans (aY fun x s=>?_),hb (fun _ _ _ _ _ _=>rfl) fun _ _ _=>rfl⟩
   show ae cal cal1 (if k7 s.st x=true then _ else .bad)=_
   split
   ·refine ((bC e).1 _ _ _ _).trans (aY fun d s=>?_)
    cases x with
    | ref n=>
      show ae cal cal1 (match s.st[n]? with | some (.lst l)=>.test (decide (l.length<100000)) fun t=>if t then kn ⟨s.env,s.ow,s.st.set n (.lst (l ++ [d]))⟩ else .bad | _=>.bad)=sc (match s.st[n]? with | some (.lst l)=>if l.length<100000 then .nx ⟨s.env,s.ow,s.st.set n (.lst (l ++ [d]))⟩ else .bad | _=>.bad) _ _ _
      cases s.st[n]? with
      | none=>rfl
      | some o=>cases o with
        | lst l=>exact qm
        | _=>rfl
    | _=>rfl
   ·rfl
 | for_ t one it b ih=>
   refine ⟨fun s kn kr kx=>((bC it).1 _ _ _ _).trans (aY fun x s=>?_),hb (fun _ _ _ _ _ _=>rfl) fun _ _ _=>rfl⟩
   cases x with
   | lst ds=>
     dsimp only
     cases lp with
     | true=>rw [ZZ rfl];exact eO
     | false=>
       rw [ZY ϝ]
       refine ml (fun d s k=>?_) ds s kn
       cases aP t one d s.env with
       | none=>rfl
       | some env=>exact ih.1 _ _ _ _
   | _=>rfl
 | whl c b ih=>exact ⟨fun s kn kr kx=>eO,hb (fun _ _ _ _ _ _=>rfl) fun _ _ _=>rfl⟩
 | rais j es=>
   refine ⟨fun s kn kr kx=>((bC es).2 _ _ _ _).trans (aY fun l s=>?_),hb (fun _ _ _ _ _ _=>rfl) fun _ _ _=>rfl⟩
   show ae cal cal1 (if iJ Γ j l=true then kx j (nY Γ j l) s else .bad)=_
   split <;> rfl
 | try_ a h iha ihh=>
   refine ⟨fun s kn kr kx=>(iha.1 _ _ _ _).trans ?_,hb (fun _ _ _ _ _ _=>rfl) fun _ _ _=>rfl⟩
   show _=sc (match exS Γ cal cal1 a s with | .exc c l s'=>exS.hnd Γ cal cal1 h c l s' | r=>r) _ _ _
   cases exS Γ cal cal1 a s with
   | exc c l s'=>exact ihh.2 _ _ _ _ _ _
   | _=>rfl
 | hand j i b r ihb ihr=>
   refine ⟨fun s kn kr kx=>eO,fun c' l s kn kr kx=>?_⟩
   cases i with
   | none=>
     show ae cal cal1 (match cP Γ j c' with | some true=>_ | some false=>exT.hndT Γ cal cal1 lp r c' l s kn kr kx | none=>.bad)=sc (match cP Γ j c' with | some true=>_ | some false=>exS.hnd Γ cal cal1 r c' l s | none=>.bad) _ _ _
     rcases cP Γ j c' with _ | (_ | _)
     ·rfl
     ·exact ihr.2 _ _ _ _ _ _
     ·refine (ihb.1 _ _ _ _).trans ?_
      cases exS Γ cal cal1 b s <;> rfl
   | some i=>
     show ae cal cal1 (match cP Γ j c' with | some true=>_ | some false=>exT.hndT Γ cal cal1 lp r c' l s kn kr kx | none=>.bad)=sc (match cP Γ j c' with | some true=>_ | some false=>exS.hnd Γ cal cal1 r c' l s | none=>.bad) _ _ _
     rcases cP Γ j c' with _ | (_ | _)
     ·rfl
     ·exact ihr.2 _ _ _ _ _ _
     ·refine (ihb.1 _ _ _ _).trans ?_
      cases exS Γ cal cal1 b ⟨s.env.set i (some (.ins c' l)),s.ow.filter (· != i),s.st⟩ <;> rfl
inductive An where
 | r (r:Res) | t (n:Nat) (b:Bool) | o (n:Nat) (d:D) | e (d:D) (s:Sta) | x (o:av) | c
end
section
variable (cal cal1:Nat→List D→List O→Res)
def trc:IT→List An→Prop×av
 | .fin o,[]=>(True,o)
 | .fin o,_=>(False,o)
 | .call j ds st k,.r a :: l=>((cal j ds st=a)∧(trc (k a) l).1,(trc (k a) l).2)
 | .call1 j ds st k,.r a :: l=>((cal1 j ds st=a)∧(trc (k a) l).1,(trc (k a) l).2)
 | .call j ds st k,.c :: l=>trc (k (cal j ds st)) l
 | .call1 j ds st k,.c :: l=>trc (k (cal1 j ds st)) l
 | .test b k,.t 0 a :: l=>((b=a)∧(trc (k a) l).1,(trc (k a) l).2)
 | .test b k,.t (n+1) a :: l=>trc (k b) (.t n a :: l)
 | .test b k,.o (n+1) a :: l=>trc (k b) (.o n a :: l)
 | .test b k,l=>trc (k b) l
 | .opt o k,.o 0 a :: l=>((o=some a)∧(trc (k a) l).1,(trc (k a) l).2)
 | .opt (some d) k,.o (n+1) a :: l=>trc (k d) (.o n a :: l)
 | .opt (some d) k,.t (n+1) a :: l=>trc (k d) (.t n a :: l)
 | .opt (some d) k,l=>trc (k d) l
 | .sub o k,.e d s :: l=>((o = .ok d s)∧(trc (k d s) l).1,(trc (k d s) l).2)
 | .subS o k,.x a :: l=>((o=a)∧(trc (k a) l).1,(trc (k a) l).2)
 | _,_=>(False,.bad)
theorem lS:∀ (t) (l),(trc cal cal1 t l).1→ae cal cal1 t=(trc cal cal1 t l).2:=by
 intro t
 induction t with
 | fin o=>intro l h;cases l <;> first | rfl | exact h.elim
 | call j ds st k ih=>
   intro l h
   cases l with
   | nil=>exact h.elim
   | cons a l=>cases a with
     | r a=>obtain ⟨h1,h2⟩:=h;have:=ih a l h2;rw [← h1] at this ⊢;show ae cal cal1 (k (cal j ds st))=_;rw [h1] at this ⊢;exact this
     | c=>exact ih _ l h
     | _=>exact h.elim
 | call1 j ds st k ih=>
   intro l h
   cases l with
   | nil=>exact h.elim
   | cons a l=>cases a with
     | r a=>obtain ⟨h1,h2⟩:=h;show ae cal cal1 (k (cal1 j ds st))=_;rw [h1];exact ih a l h2
     | c=>exact ih _ l h
     | _=>exact h.elim
 | test b k ih=>
   intro l h
   show ae cal cal1 (k b)=_
   cases l with
   | nil=>exact ih b _ h
   | cons a l=>cases a with
     | t n a=>cases n with
       | zero=>obtain ⟨h1,h2⟩:=h;rw [h1];exact ih a l h2
       | succ n=>exact ih b _ h
     | o n a=>cases n with
       | zero=>exact ih b _ h
       | succ n=>exact ih b _ h
     | _=>exact ih b _ h
 | opt o k ih=>
   intro l h
   cases l with
   | nil=>cases o with
     | none=>exact h.elim
     | some d=>exact ih d _ h
   | cons a l=>cases a with
     | o n a=>cases n with
       | zero=>obtain ⟨rfl,h2⟩:=h;exact ih a l h2
       | succ n=>cases o with
         | none=>exact h.elim
         | some d=>exact ih d _ h
     | t n a=>cases n with
       | zero=>cases o with
         | none=>exact h.elim
         | some d=>exact ih d _ h
       | succ n=>cases o with
         | none=>exact h.elim
         | some d=>exact ih d _ h
     | _=>cases o with
        | none=>exact h.elim
        | some d=>exact ih d _ h
 | sub o k ih=>
   intro l h
   cases l with
   | nil=>exact h.elim
   | cons a l=>cases a with
     | e d s=>obtain ⟨rfl,h2⟩:=h;exact ih d s l h2
     | _=>exact h.elim
 | subS o k ih=>
   intro l h
   cases l with
   | nil=>exact h.elim
   | cons a l=>cases a with
     | x a=>obtain ⟨h1,h2⟩:=h;show ae cal cal1 (k o)=_;rw [h1];exact ih a l h2
     | _=>exact h.elim
end
def BR:av→Res
 | .nx s=>.ok .non s.st
 | .rt d s=>.ok d s.st
 | .exc c l s=>.exc c l s.st
 | .bad=>.bad
def vp (Γ:Gm) (cal cal1:Nat→List D→List O→Res) (lp:Bool) (j:Nat) (ds:List D) (st:List O) (l:List An):Prop×Res:=match Γ.fn[j]? with
 | some f=>if (ds ++ f.df).length=f.np then
  (fun p=>(p.1,BR p.2)) (trc cal cal1 (exT Γ cal cal1 lp f.body ⟨(ds ++ f.df).map some ++ Ζ (f.ns - f.np) none,[],st⟩ (fun s=>.fin (.nx s)) (fun d s=>.fin (.rt d s)) (fun c l s=>.fin (.exc c l s))) l)
   else (False,.bad)
 | none=>(False,.bad)
theorem zq {st:List O} (l:List An) {P:Prop} {r:Res} (hp:P) (h:vp Γ cal cal1 lp j ds st l=(P,r)):kh Γ cal cal1 j ds st=r:=by
 unfold vp at h
 unfold kh
 cases q:Γ.fn[j]? with
 | none=>rw [q] at h;have t:False=P:=ZS Ň h;exact (Eq.mpr t hp:False).elim
 | some f=>
   rw [q] at h
   dsimp only at h ⊢
   by_cases c:(ds ++ f.df).length=f.np
   ·rw [ZZ c] at h ⊢
    have h1:=ZS Ň h
    have h2:=ZS Eb h
    dsimp only at h1 h2
    have t:=lS cal cal1 _ l (h1 ▸ hp)
    rw [(pL f.body).1] at t
    rw [← h2,← t]
    cases exS Γ cal cal1 f.body ⟨(ds ++ f.df).map some ++ Ζ (f.ns - f.np) none,[],st⟩ <;> rfl
   ·rw [ZY c] at h;have t:False=P:=ZS Ň h;exact (Eq.mpr t hp:False).elim
theorem cA (lp) {st:List O} (l:List An) {P:Prop} {r:Res} (hp:P) (h:vp Γ (ac Γ n) (bP Γ n) lp j ds st l=(P,r)):ac Γ (n+1) j ds st=r:=zq l hp h
theorem vU (lp) (l) {P:Prop} {o:av} (hp:P) (h:trc cal cal1 (exT Γ cal cal1 lp c s (fun s=>.fin (.nx s)) (fun d s=>.fin (.rt d s)) (fun c l s=>.fin (.exc c l s))) l=(P,o)):exS Γ cal cal1 c s=o:=by
 have h1:=ZS Ň h
 have h2:=ZS Eb h
 dsimp only at h1 h2
 have t:=lS cal cal1 _ l (h1 ▸ hp)
 rw [(pL c).1,h2] at t
 rw [← t]
 cases exS Γ cal cal1 c s <;> rfl
def wq:av→Out D
 | .rt d s=>.ok d s
 | .exc c l s=>.exc c l s
 | _=>.bad
theorem AE (lp) (l) {P:Prop} {o:Out D} (hp:P) (h:(fun p:Prop×av=>(p.1,wq p.2)) (trc cal cal1 (evT Γ cal cal1 lp br e s (fun d s=>.fin (.rt d s)) (fun c l s=>.fin (.exc c l s))) l)=(P,o)):ev Γ cal cal1 br e s=o:=by
 have h1:=ZS Ň h
 have h2:=ZS Eb h
 dsimp only at h1 h2
 have t:=lS cal cal1 _ l (h1 ▸ hp)
 rw [(bC e).1] at t
 rw [← h2,← t]
 cases ev Γ cal cal1 br e s <;> rfl
theorem ba (h:f d s = .nx s1) (h2:bo f r s1=o):bo f (d :: r) s=o:=by
 show (f d s).go _=o
 rw [h];exact h2
theorem pU (h:f d s=o) (n:∀ s,o≠.nx s):bo f (d :: r) s=o:=by
 show (f d s).go _=o
 rw [h]
 cases o with
 | nx s=>exact ZX rfl (n s)
 | _=>rfl
theorem t8 (h:f d s = .ok (some e) s1) (ha:acc.length<100000) (h2:b6 f r (acc ++ [e]) s1=o):b6 f (d :: r) acc s=o:=by
 show (f d s).bind _=o
 rw [h]
 show (if acc.length<100000 then b6 f r (acc ++ [e]) s1 else .bad)=o
 rw [ZZ ha];exact h2
theorem t0 (h:f d s = .ok none s1) (h2:b6 f r acc s1=o):b6 f (d :: r) acc s=o:=by
 show (f d s).bind _=o
 rw [h];exact h2
def cX:S→S
 | .seq a b=>(match cX a with | .skip=>cX b | x=>x)
 | .ifs _ a b=>(match cX a with | .skip=>cX b | x=>x)
 | .for_ _ _ _ b=>b
 | _=>.skip
def toR:av→Res
 | .nx s=>.ok .non s.st
 | .rt d s=>.ok d s.st
 | .exc c l s=>.exc c l s.st
 | .bad=>.bad
def hdS:Nat→S→S
 | 0,.seq a _=>a
 | n+1,.seq a b=>.seq a (hdS n b)
 | _,s=>s
def tlS:Nat→S→S
 | 0,.seq _ b=>b
 | n+1,.seq _ b=>tlS n b
 | _,_=>.skip
theorem v6 (x:av):(x.go fun s=>.nx s)=x:=by cases x <;> rfl
theorem nX (n:Nat) (c:S) (s:Sta):exS Γ cal cal1 c s=(exS Γ cal cal1 (hdS n c) s).go fun s=>exS Γ cal cal1 (tlS n c) s:=by
 induction n generalizing c s with
 | zero=>cases c <;> first | rfl | exact (v6 _).symm
 | succ n ih=>
   cases c with
   | seq a b=>
     show (exS Γ cal cal1 a s).go _=((exS Γ cal cal1 a s).go fun s=>exS Γ cal cal1 (hdS n b) s).go _
     cases exS Γ cal cal1 a s with
     | nx s=>exact ih b s
     | _=>rfl
   | _=>exact (v6 _).symm
theorem xg (lp) (l) {P:Prop} {r:Res} (hp:P) (h:(fun p:Prop×av=>(p.1,toR p.2)) (trc cal cal1 (exT Γ cal cal1 lp c s (fun s=>.fin (.nx s)) (fun d s=>.fin (.rt d s)) (fun c l s=>.fin (.exc c l s))) l)=(P,r)):toR (exS Γ cal cal1 c s)=r:=by
 have h1:=ZS Ň h
 have h2:=ZS Eb h
 dsimp only at h1 h2
 rw [← h2]
 exact ZS toR (vU lp l (h1 ▸ hp) rfl)
theorem eM {n:Nat} {ds:List D} {st:List O} {r:Res} (k:Nat) (f:Fn) {s':Sta} (hf:Γ.fn[j]? = some f) (hl:(ds ++ f.df).length=f.np) (h1:exS Γ (ac Γ n) (bP Γ n) (hdS k f.body) ⟨(ds ++ f.df).map some ++ Ζ (f.ns - f.np) none,[],st⟩ = .nx s') (h2:toR (exS Γ (ac Γ n) (bP Γ n) (tlS k f.body) s')=r):ac Γ (n+1) j ds st=r:=by
 show kh Γ (ac Γ n) (bP Γ n) j ds st=r
 unfold kh
 rw [hf]
 dsimp only
 rw [ZZ hl,nX k,h1,← h2]
 rfl
class ToAn (α:Type) where
 an:Nat→α→An
instance:ToAn Res:=⟨fun _ a=>.r a⟩
instance:ToAn Bool:=⟨fun n b=>.t n b⟩
instance:ToAn (Option D):=⟨fun n o=>match o with | some d=>.o n d | none=>.c⟩
instance:ToAn (Out D):=⟨fun _ o=>match o with | .ok d s=>.e d s | _=>.c⟩
instance:ToAn av:=⟨fun _ o=>.x o⟩
theorem kS {a b:D} (h:isDic a=false):eqT a b=eqv 55 a b:=by cases a <;> first | rfl | cases h
def AL (_:List An) (P:Prop):Prop:=P
theorem aX (n:Nat) {α:Type} [ToAn α] {x a:α} (h:x=a) {l:List An} {P:Prop} (t:AL l P):AL (ToAn.an n a :: l) (x=a∧P):=⟨h,t⟩
theorem aC {l:List An} {P:Prop} (t:AL l P):AL (.c :: l) P:=t
theorem aZ:AL [] True:=Ĩ
theorem aa (lp) {st:List O} {l:List An} {P:Prop} {r:Res} (hp:AL l P) (h:vp Γ (ac Γ n) (bP Γ n) lp j ds st l=(P,r)):ac Γ (n+1) j ds st=r:=cA lp l hp h
theorem iV (lp) {l:List An} {P:Prop} {o:av} (hp:AL l P) (h:trc cal cal1 (exT Γ cal cal1 lp c s (fun s=>.fin (.nx s)) (fun d s=>.fin (.rt d s)) (fun c l s=>.fin (.exc c l s))) l=(P,o)):exS Γ cal cal1 c s=o:=vU lp l hp h
theorem tC (lp) {l:List An} {P:Prop} {o:Out D} (hp:AL l P) (h:(fun p:Prop×av=>(p.1,wq p.2)) (trc cal cal1 (evT Γ cal cal1 lp br e s (fun d s=>.fin (.rt d s)) (fun c l s=>.fin (.exc c l s))) l)=(P,o)):ev Γ cal cal1 br e s=o:=AE lp l hp h
theorem pM (lp) {l:List An} {P:Prop} {r:Res} (hp:AL l P) (h:(fun p:Prop×av=>(p.1,toR p.2)) (trc cal cal1 (exT Γ cal cal1 lp c s (fun s=>.fin (.nx s)) (fun d s=>.fin (.rt d s)) (fun c l s=>.fin (.exc c l s))) l)=(P,r)):toR (exS Γ cal cal1 c s)=r:=xg lp l hp h
def hH (Γ:Gm) (cal cal1:Nat→List D→List O→Res) (t:List Nat) (one:Bool) (b:S):D→Sta→av:=fun d s=>match aP t one d s.env with | some env=>exS Γ cal cal1 b ⟨env,s.ow.filter fun i=>!t.contains i,s.st⟩ | none=>.bad
def lcQ (Γ:Gm) (cal cal1:Nat→List D→List O→Res) (t:List Nat) (one:Bool) (elt cond:E):D→Sta→Out (Option D):=fun d s'=>(match aP t one d s'.env with
 | some env=>(noX (ev Γ cal cal1 true cond ⟨env,[],s'.st⟩)).bind fun b s2=>(match b with
   | .bl true=>(noX (ev Γ cal cal1 false elt s2)).bind fun e s3=>.ok (some e) ⟨s3.env,[],s3.st⟩
   | .bl false=>.ok none ⟨s2.env,[],s2.st⟩
   | _=>.bad)
 | none=>.bad)
theorem cq {s:Sta} (hb:aP t one d s.env=some env) (h:exS Γ cal cal1 b ⟨env,s.ow.filter fun i=>!t.contains i,s.st⟩=o):hH Γ cal cal1 t one b d s=o:=by unfold hH;rw [hb];exact h
theorem xN {s:Sta} {cond elt:E} (hb:aP t one d s.env=some env) (hc:ev Γ cal cal1 true cond ⟨env,[],s.st⟩ = .ok (.bl true) s2) (h:ev Γ cal cal1 false elt s2 = .ok e s3):lcQ Γ cal cal1 t one elt cond d s = .ok (some e) ⟨s3.env,[],s3.st⟩:=by
 unfold lcQ
 rw [hb]
 dsimp only
 rw [hc]
 show (noX (ev Γ cal cal1 false elt s2)).bind _=_
 rw [h];rfl
theorem xO {s:Sta} {cond elt:E} (hb:aP t one d s.env=some env) (hc:ev Γ cal cal1 true cond ⟨env,[],s.st⟩ = .ok (.bl false) s2):lcQ Γ cal cal1 t one elt cond d s = .ok none ⟨s2.env,[],s2.st⟩:=by
 unfold lcQ
 rw [hb]
 dsimp only
 rw [hc];rfl
theorem mO {x:E} {f:Nat} {b e:E} (h1:ev Γ cal cal1 false e s = .ok d s1) (h2:ev Γ cal cal1 true (.fld x f) s1 = .ok (.ref n) s2) (h3:ev Γ cal cal1 true b s2 = .ok k s3) (h4:s3.st[n]? = some o) (h5:eg o k d=some o'):exS Γ cal cal1 (.put (.fld x f) b e) s = .nx ⟨s3.env,s3.ow,s3.st.set n o'⟩:=by
 show (ev Γ cal cal1 false e s).go _=_
 rw [h1]
 show (ev Γ cal cal1 true (.fld x f) s1).go _=_
 rw [h2]
 show (ev Γ cal cal1 true b s2).go _=_
 rw [h3]
 show (match (s3.st[n]?).bind fun o=>eg o k d with | some o=>av.nx ⟨s3.env,s3.ow,s3.st.set n o⟩ | none=>.bad)=_
 rw [h4]
 show (match eg o k d with | some o=>av.nx ⟨s3.env,s3.ow,s3.st.set n o⟩ | none=>.bad)=_
 rw [h5]
end L2.Ev
end
section
namespace L2.K79
open L2.Bk L2.Ev
def top (i:Nat):Ó:=GL.main.body.getD i (.Pass ⟨0,0,0,0⟩)
def aD (s:Ó) (j:Nat):Ó:=match s with
 | .ClassDef _ _ _ body _ _ _ _ _ _ _=>body.getD j (.Pass ⟨0,0,0,0⟩)
 | _=>.Pass ⟨0,0,0,0⟩
def fnl:List (ν×Ó):=(DR [("steps",top 10),("kinds_in",top 11),("with_kinds",top 12),("depth",top 13),("ground",top 14),("part",top 15),("stepped",top 16),("parting",top 18),("join",top 19),("form",top 22),("indexes",top 23),("parts",top 24),("written",top 25),("places",top 26),("need_names",top 27),("need_bound",top 28)] (DR [("names_bound",top 29),("looked",top 37),("need_shallow",top 39),("need_same",top 40),("bound_within",top 41),("wanted_kind",top 42),("own_kind",top 43),("made",top 51),("going",top 52),("body_between",top 53),("label_beyond",top 54),("body_with",top 55),("is_broken",top 56),("looks_of",top 58),("made_looks",top 59),("laid",top 61)] (DR [("both",top 62),("laid_bodies",top 63),("laid_parts",top 64),("alone",top 69),("need_ground",top 70),("end_in_blame",top 71),("looks_beside",top 72),("thing_of",top 75),("text_of",top 76),("shown",top 77),("thing_shown",top 78),("leaf_value",top 83),("need_head",top 84),("deed",top 85),("reckoned",top 86),("reckoned_number",top 87)] (DR [("thing_at",top 88),("names_with",top 89),("names_in_call",top 90),("node_called",top 91),("walked",top 93),("run",top 96),("plain",top 98),("_law_next",top 100),("_law_place",top 101),("_law_cell_at",top 102),("_law_head",top 103),("_law_lit",top 104),("_law_hidden",top 105),("_law_blame",top 106),("_law_spend",top 107),("_law_leaf",top 108)] [("_law_row",top 109),("_law_first",top 110),("_law_read",top 111),("_law_part",top 112),("_law_alike",top 113),("law",top 114)]))))
def mel:List (ν×ν×Ó):=[("__init__","Looker.__init__",aD (top 38) 0),("look","Looker.look",aD (top 38) 1),("hold","Looker.hold",aD (top 38) 2),("hold_choice","Looker.hold_choice",aD (top 38) 3),("want","Looker.want",aD (top 38) 4),("__init__","Giver.__init__",aD (top 68) 0),("give","Giver.give",aD (top 68) 1),("give_all","Giver.give_all",aD (top 68) 2),("give_in_call","Giver.give_in_call",aD (top 68) 3),("guards_with","Giver.guards_with",aD (top 68) 4),("note","Giver.note",aD (top 68) 5),("__init__","Walker.__init__",aD (top 94) 0),("come_to","Walker.come_to",aD (top 94) 1),("value_of","Walker.value_of",aD (top 94) 2),("called","Walker.called",aD (top 94) 3)]
def gll:List (ν×Dk):=[("UNTOLD",(.tup [(.str "?")])),("ALL_STEPS",(.tup [(.str "arg"),(.str "res"),(.str "item"),(.str "one"),(.str "two")])),("BODY",(.int 1)),("ASK",(.int 0)),("TAG",(.int 2)),("SAME",(.tup [(.str "same")])),("STILL",(.tup [.non,(.tup [(.str "same")]),.non])),("LEAVES",(.tup [(.str "whole"),(.str "truth"),(.str "given"),(.str "name"),(.str "fn"),(.str "self")])),("MOST_FIGURES",(.int 40)),("MOST_LEVEL",(.int 3)),("TRUTH",(.tup [(.str "truth")])),("WHOLE",(.tup [(.str "whole")])),("MOST_DEPTH",(.int 4))]
def vv:List (ν×Dk):=[("whole",(.tup [(.str "number")])),("truth",(.tup [(.str "truth")])),("given",(.tup [(.str "given")])),("name",(.tup [(.str "name")])),("fn",(.tup [(.str "name"),(.str "kind"),(.str "node")])),("self",(.tup [(.str "name"),(.str "name"),(.str "kind"),(.str "kind"),(.str "node")])),("call",(.tup [(.str "node"),(.str "node")])),("let",(.tup [(.str "name"),(.str "node"),(.str "node")])),("if",(.tup [(.str "node"),(.str "node"),(.str "node")])),("do",(.tup [(.str "sign"),(.str "node"),(.str "node")])),("row",(.tup [(.str "kind"),(.str "nodes")])),("at",(.tup [(.str "node"),(.str "node")])),("size",(.tup [(.str "node")])),("pair",(.tup [(.str "node"),(.str "node")])),("one",(.tup [(.str "node")])),("two",(.tup [(.str "node")])),("as",(.tup [(.str "kind"),(.str "node")])),("look",(.tup [(.str "put in"),(.str "put in"),(.str "node")]))]
def vw:List (ν×Dk):=[("whole",(.tup [])),("truth",(.tup [])),("?",(.tup [])),("to",(.tup [(.str "arg"),(.str "res")])),("row",(.tup [(.str "item")])),("pair",(.tup [(.str "one"),(.str "two")]))]
def gK:List (ν×Dk):=[("call",(.tup [(.str "to")])),("if",(.tup [(.str "truth")])),("do",(.tup [(.str "whole"),(.str "whole")])),("at",(.tup [(.str "row"),(.str "whole")])),("size",(.tup [(.str "row")])),("one",(.tup [(.str "pair")])),("two",(.tup [(.str "pair")]))]
def jy:List (ν×Dk):=[("whole",(.tup [(.str "whole")])),("given",(.tup [(.str "whole")])),("size",(.tup [(.str "whole")])),("truth",(.tup [(.str "truth")]))]
def ko:List (ν×Dk):=[("call",(.tup [(.str "res")])),("at",(.tup [(.str "item")])),("one",(.tup [(.str "one")])),("two",(.tup [(.str "two")]))]
def r9:List (ν×Dk):=[("call",(.tup [(.str "to"),(.tup [(.str "?")]),(.tup [(.str "?")])])),("at",(.tup [(.str "row"),(.tup [(.str "?")])])),("size",(.tup [(.str "row"),(.tup [(.str "?")])])),("one",(.tup [(.str "pair"),(.tup [(.str "?")]),(.tup [(.str "?")])])),("two",(.tup [(.str "pair"),(.tup [(.str "?")]),(.tup [(.str "?")])]))]
def jx:List (ν×Dk):=[("in",(.str "out")),("out",(.str "in"))]
def tbl:List (ν×List (ν×Dk)):=[("FORMS",vv),("STEPS",vw),("NEEDED_HEADS",gK),("SURE_KINDS",jy),("TAKEN_OUT",ko),("NEEDED",r9),("OTHER_SIDE",jx)]
def T:Ns where
 gl:=gll.map (·.1)
 tb:=tbl.map (·.1)
 fn:=fnl.map (·.1)
 at_:=["kinds","wanted","outcome","head","held","guards","tag","left","together","notes","looks","numbers","giver"]
 bl:=["len","range","tuple","enumerate","list","reversed","all","zip","str","abs","dict","max","isinstance","bool"]
 rf:=["_law_deal"]
 me:=[("look",0,71),("hold",0,72),("hold_choice",0,73),("want",0,74),("give",3,76),("give_all",3,77),("give_in_call",3,78),("guards_with",3,79),("note",3,80),("come_to",4,82),("value_of",4,83),("called",4,84)]
 ex:=["","Ended","","",""]
 nd:=["","","Value","",""]
 nw:=["Looker","","","Giver","Walker"]
 hx:=["","Ended","","",""]
 hc:=["plain","run","made_looks"]
 xt:=["","","","",""]
def Γ:Gm:=⟨gll.map (·.2),tbl.map (·.2),((fnl.map fun p=>(p.1,p.1,p.2)) ++ mel).map fun p=>cT T p.2.2,[⟨0,[0,1],70,[],[],[]⟩,⟨2,[2],0,[],[],[]⟩,⟨1,[3,4,5,6],0,[],[],[]⟩,⟨0,[7,8,9],75,[],[],[]⟩,⟨0,[10,11,12],81,[],[],[]⟩]⟩
abbrev lh:Nat:=1
abbrev tV:Nat:=3
abbrev iD:Nat:=7
abbrev xD:Nat:=8
abbrev tW:Nat:=11
abbrev oh:Nat:=12
def pP:Fn:=cT T (top 26)
abbrev jY:Nat:=13
abbrev dY:Nat:=14
def iX:Fn:=cT T (top 28)
abbrev dX:Nat:=15
abbrev hV:Nat:=16
abbrev qt:Nat:=17
abbrev fY:Nat:=18
abbrev jX:Nat:=19
abbrev cU:Nat:=20
abbrev aH:Nat:=21
abbrev bE:Nat:=22
abbrev xE:Nat:=23
abbrev lj:Nat:=29
def iW:Fn:=cT T (top 59)
abbrev jb:Nat:=30
abbrev tU:Nat:=35
abbrev dB:Nat:=36
abbrev cV:Nat:=38
abbrev bQ:Nat:=39
abbrev og:Nat:=40
abbrev tY:Nat:=41
abbrev fe:Nat:=44
abbrev ja:Nat:=45
abbrev fZ:Nat:=46
abbrev dZ:Nat:=47
abbrev dF:Nat:=48
abbrev fw:Nat:=50
abbrev hX:Nat:=51
abbrev jZ:Nat:=52
abbrev v9:Nat:=53
abbrev tX:Nat:=54
abbrev az:Nat:=55
abbrev i9:Nat:=56
abbrev fX:Nat:=57
abbrev jU:Nat:=58
abbrev k8:Nat:=59
abbrev hU:Nat:=60
abbrev i8:Nat:=61
abbrev cL:Nat:=62
abbrev jV:Nat:=63
def kT:Fn:=cT T (top 109)
abbrev cK:Nat:=64
abbrev dW:Nat:=65
abbrev jW:Nat:=66
abbrev aG:Nat:=67
abbrev dU:Nat:=68
abbrev A1:Nat:=69
def dy:Fn:=cT T (aD (top 38) 1)
abbrev cC:Nat:=71
abbrev cB:Nat:=72
abbrev cS:Nat:=73
def gZ:Fn:=cT T (aD (top 38) 4)
abbrev hO:Nat:=74
abbrev ai:Nat:=76
abbrev bf:Nat:=77
abbrev bb:Nat:=78
abbrev dq:Nat:=79
abbrev cJ:Nat:=80
abbrev bK:Nat:=81
abbrev aA:Nat:=82
def aL:Fn:=cT T (aD (top 94) 2)
abbrev aj:Nat:=83
abbrev aU:Nat:=84
theorem A {a b:Prop} (x:a) (y:b):a∧b:=⟨x,y⟩
theorem Z:True:=Ĩ
inductive Sg where
 | add | sub | mul | lt | eq
 deriving DecidableEq
def Sg.str:Sg→ν
 | .add=>"+" | .sub=>"-" | .mul=>"*" | .lt=>"<" | .eq=>"="
inductive Kd where
 | whole | truth | unt | to (a b:Kd) | row (a:Kd)
 deriving DecidableEq
def Kd.dep:Kd→Nat
 | .to a b=>1+max a.dep b.dep
 | .row a=>1+a.dep
 | _=>1
def Sm (p:Int):Prop:=0≤p∧p<100000
def Kd.toD:Kd→D
 | .whole=>.tup [.str "whole"]
 | .truth=>.tup [.str "truth"]
 | .unt=>.tup [.str "?"]
 | .to a b=>.tup [.str "to",a.toD,b.toD]
 | .row a=>.tup [.str "row",a.toD]
inductive T68 where
 | whole (p v:Int) | truth (p:Int) (b:Bool) | fn (p:Int) (x:ν) (k:Kd) (b:T68)
 | iff (p:Int) (c a b:T68) | call (p:Int) (a b:T68) | bin (p:Int) (o:Sg) (a b:T68) | as_ (p:Int) (k:Kd) (a:T68)
 | row (p:Int) (k:Kd) (ts:List T68) | att (p:Int) (a b:T68) | size (p:Int) (a:T68)
mutual
noncomputable def T68.toD:T68→D
 | .whole p v=>.tup [.str "whole",.int p,.int v]
 | .truth p b=>.tup [.str "truth",.int p,.bl b]
 | .fn p x k b=>.tup [.str "fn",.int p,.str x,k.toD,b.toD]
 | .iff p c a b=>.tup [.str "if",.int p,c.toD,a.toD,b.toD]
 | .call p a b=>.tup [.str "call",.int p,a.toD,b.toD]
 | .bin p o a b=>.tup [.str "do",.int p,.str o.str,a.toD,b.toD]
 | .as_ p k a=>.tup [.str "as",.int p,k.toD,a.toD]
 | .row p k ts=>.tup [.str "row",.int p,k.toD,.tup (toDs ts)]
 | .att p a b=>.tup [.str "at",.int p,a.toD,b.toD]
 | .size p a=>.tup [.str "size",.int p,a.toD]
noncomputable def toDs:List T68→List D
 | []=>[]
 | t :: r=>t.toD :: toDs r
end
def T68.pl:T68→Int
 | .whole p _=>p | .truth p _=>p | .fn p _ _ _=>p | .iff p _ _ _=>p | .call p _ _=>p | .bin p _ _ _=>p | .as_ p _ _=>p | .row p _ _=>p | .att p _ _=>p | .size p _=>p
def aq:T68→List T68
 | .fn _ _ _ b=>[b]
 | .iff _ c a b=>[c,a,b]
 | .call _ a b=>[a,b]
 | .bin _ _ a b=>[a,b]
 | .as_ _ _ a=>[a]
 | .row _ _ ts=>ts
 | .att _ a b=>[a,b]
 | .size _ a=>[a]
 | _=>[]
def bnd:T68→Nat→List ν
 | .fn _ x _ _,_=>[x]
 | _,_=>[]
def wks:T68→List Kd
 | .fn _ _ k _=>[k]
 | .as_ _ k _=>[k]
 | .row _ k _=>[k]
 | _=>[]
def own:T68→Prop
 | .row _ _ ts=>ts.length≤4
 | _=>True
def Ok:Nat→T68→Prop
 | 0,_=>False
 | n+1,t=>own t∧Sm t.pl∧∀ k∈aq t,Ok n k
theorem BL (t:T68):ixD t.toD (.int 1)=some (.int t.pl):=by cases t <;> rfl
theorem qM (t:T68) (st:List O):look st t.toD=t.toD:=by cases t <;> rfl
theorem bT (t:T68) (st:List O):ixD (look st t.toD) (.int 1)=some (.int t.pl):=by rw [qM];exact BL t
theorem eE:∀ ts:List T68,toDs ts=ts.map T68.toD
 | []=>rfl
 | t :: r=>by unfold toDs;rw [eE r];rfl
theorem eD (ts:List T68):(toDs ts).length=ts.length:=by rw [eE,Ν]
theorem f9 {t:T68} (h:own t):(aq t).length≤4:=by
 cases t with
 | row p kd ts=>exact h
 | _=>exact τ rfl
theorem cM (t:T68) (n:Nat) (st:List O):ac Γ (n+3) tW [t.toD] st = .ok (.lst (toDs (aq t))) st:=by
 cases t <;> kernel_rfl
def sts (l:List ν):List D:=l.map D.str
theorem yJ (t:T68) (i:Nat) (k:T68) (h:(aq t)[i]? = some k) (n:Nat) (st:List O):ac Γ (n+1) hV [t.toD,.int i] st = .ok (.tup (sts (bnd t i))) st:=by
 cases t <;> kernel_rfl
theorem De (t:T68) (n:Nat) (st:List O):ac Γ (n+3) oh [t.toD] st = .ok (.lst ((wks t).map Kd.toD)) st:=by
 cases t <;> kernel_rfl
theorem jF (n:Nat) (st:List O) (h x:D):ac Γ (n+1) tU [h,x] st = .ok (.ins 2 [h,x,.tup [],.non]) st:=by kernel_rfl
theorem mw (k:Kd) (st:List O):look st k.toD=k.toD:=by cases k <;> rfl
theorem uP (a b:Nat):L2.Bw.maxD 0 [(a:Int),(b:Int)]=((max a b:Nat):Int):=by
 show (if (b:Int)>(a:Int) then (b:Int) else (a:Int))=_
 by_cases h:(b:Int)>(a:Int)
 ·rw [ZZ h];have:max a b=b:=Nat.max_eq_right (by omega);rw [this]
 ·rw [ZY h];have:max a b=a:=Nat.max_eq_left (by omega);rw [this]
theorem kin (k:Kd) (l:List D) (h:k.toD = .tup (D.str h0 :: l)) (n:Nat) (st:List O):ac Γ (n+1) lh [k.toD] st = .ok (.lst l) st:=by
 cases k <;> (cases h;kernel_rfl)
theorem lX (m:Nat):opD .add (.int 1) (.int (m:Nat))=some (.int ((1+m:Nat):Int)):=by
 show some (D.int (1+(m:Int)))=_;congr 2
theorem uQ (a:Nat):biD .max0 [.lst [.int (a:Nat)],.int 0]=some (.int (a:Nat)):=rfl
theorem uR (a b:Nat):biD .max0 [.lst [.int (a:Nat),.int (b:Nat)],.int 0]=some (.int ((max a b:Nat):Int)):=by
 show some (D.int (L2.Bw.maxD 0 [(a:Int),(b:Int)]))=_;rw [uP]
theorem depth:∀ (k:Kd) (N:Nat),k.dep+1≤N→∀ st,ac Γ N tV [k.toD] st = .ok (.int (k.dep:Nat)) st
 | .whole,N,h,st=>by obtain ⟨n,rfl⟩:∃ n,N=n+2:=⟨N - 2,by unfold Kd.dep at h;omega⟩;kernel_rfl
 | .truth,N,h,st=>by obtain ⟨n,rfl⟩:∃ n,N=n+2:=⟨N - 2,by unfold Kd.dep at h;omega⟩;kernel_rfl
 | .unt,N,h,st=>by obtain ⟨n,rfl⟩:∃ n,N=n+2:=⟨N - 2,by unfold Kd.dep at h;omega⟩;kernel_rfl
 | .row a,N,h,st=>by
   unfold Kd.dep at h
   obtain ⟨n,rfl⟩:∃ n,N=n+2:=⟨N - 2,by omega⟩
   have i1:=depth a (n+1) (by omega) st
   exact cA false [.r (.ok (.lst [a.toD]) st),.r (.ok (.int (a.dep:Nat)) st),.o 0 (.int (a.dep:Nat)),.o 0 (.int ((1+a.dep:Nat):Int))] (kin (.row a) [a.toD] rfl n st<|>i1<|>uQ a.dep<|>lX a.dep<|>Z) (by kernel_rfl)
 | .to a b,N,h,st=>by
   unfold Kd.dep at h
   obtain ⟨n,rfl⟩:∃ n,N=n+2:=⟨N - 2,by omega⟩
   have i1:=depth a (n+1) (by omega) st
   have i2:=depth b (n+1) (by omega) st
   exact cA false [.r (.ok (.lst [a.toD,b.toD]) st),.r (.ok (.int (a.dep:Nat)) st),.r (.ok (.int (b.dep:Nat)) st),.o 0 (.int ((max a.dep b.dep:Nat):Int)),.o 0 (.int ((1+max a.dep b.dep:Nat):Int))] (kin (.to a b) [a.toD,b.toD] rfl n st<|>i1<|>i2<|>uR a.dep b.dep<|>lX (max a.dep b.dep)<|>Z) (by kernel_rfl)
theorem b9:∀ (k:Kd) (N:Nat),k.dep+2≤N→∀ st,ac Γ N xD [k.toD,k.toD] st = .ok k.toD st
 | k,N,h,st=>by
   obtain ⟨n,rfl⟩:∃ n,N=n+3:=⟨N - 3,by cases k <;> (unfold Kd.dep at h;omega)⟩
   cases k with
   | whole=>kernel_rfl
   | truth=>kernel_rfl
   | unt=>kernel_rfl
   | row a=>
     unfold Kd.dep at h
     exact (aa false (aC (aC (aX 0 (b9 a (n+2) (by omega) st) (aC aZ)))) (by kernel_rfl))
   | to a b=>
     unfold Kd.dep at h
     exact (aa false (aC (aC (aX 0 (b9 a (n+2) (by omega) st) (aX 0 (b9 b (n+2) (by omega) st) (aC aZ))))) (by kernel_rfl))
theorem ef:∀ (k:Kd) (N:Nat),k.dep+2≤N→∀ st,ac Γ N iD [k.toD,k.toD] st = .ok .non st
 | k,N,h,st=>by
   obtain ⟨n,rfl⟩:∃ n,N=n+3:=⟨N - 3,by cases k <;> (unfold Kd.dep at h;omega)⟩
   cases k with
   | whole=>kernel_rfl
   | truth=>kernel_rfl
   | unt=>kernel_rfl
   | row a=>
     unfold Kd.dep at h
     exact (aa false (aC (aC (aC (aX 0 (ef a (n+2) (by omega) st) aZ)))) (by kernel_rfl))
   | to a b=>
     unfold Kd.dep at h
     exact (aa false (aC (aC (aC (aX 0 (ef a (n+2) (by omega) st) (aX 0 (ef b (n+2) (by omega) st) aZ))))) (by kernel_rfl))
abbrev dsK (fs:List Kd):List D:=fs.map Kd.toD
theorem pK (f:D→D→Option Bool):∀ l l':List Kd,(∀ a∈l,∀ b:Kd,f a.toD b.toD=some (decide (a=b)))→∃ x,cO f (dsK l) (dsK l')=some x∧(x && l.length == l'.length)=decide (l=l')
 | [],l',h=>⟨true,by cases l' <;> rfl,by cases l' <;> simp⟩
 | a :: l,[],h=>⟨true,rfl,by simp⟩
 | a :: l,b :: l',h=>by
   obtain ⟨x,h1,h2⟩:=pK f l l' (fun c hc=>h c (by simp [hc]))
   have h3:=h a (by simp) b
   refine ⟨decide (a=b) && x,?_,?_⟩
   ·show (match f a.toD b.toD with | none=>none | some x=>(cO f (dsK l) (dsK l')).map (x && ·))=_
    rw [h3,h1];rfl
   ·by_cases e:a=b
    ·subst e
     have:((a :: l).length == (a :: l').length)=(l.length == l'.length):=by simp
     rw [this];simp only [decide_true,Et,h2];simp
    ·simp [e]
def Kd.hd:Kd→ν
 | .whole=>"whole" | .truth=>"truth" | .to _ _=>"to" | .row _=>"row" | .unt=>"?"
def Kd.ps:Kd→List Kd
 | .to a b=>[a,b] | .row a=>[a] | _=>[]
theorem Kd.toD_eq (a:Kd):a.toD = .tup (.str a.hd :: dsK a.ps):=by cases a <;> rfl
theorem Kd.ps_dep {a b:Kd} (h:b∈a.ps):b.dep+1≤a.dep:=by
 cases a with
 | to c d=>rcases π.mp h with rfl | h;(show b.dep+1≤1+max b.dep d.dep;omega);(rw [η.mp h];show d.dep+1≤1+max c.dep d.dep;omega)
 | row c=>rw [η.mp h];show c.dep+1≤1+c.dep;omega
 | _=>cases h
theorem Kd.ext {a b:Kd}:a=b↔a.hd=b.hd∧a.ps=b.ps:=by
 constructor
 ·intro h;subst h;exact ⟨rfl,rfl⟩
 ·rintro ⟨h1,h2⟩
  cases a <;> cases b <;> first | (cases h2;done) | (cases h2;rfl) | (exact ZX h1 (by decide +kernel))
theorem vr (n:Nat) (x y:ν):eqv n (.str x) (.str y)=some (decide (x=y)):=by
 have:eqv n (.str x) (.str y)=some (x == y):=by cases n <;> rfl
 rw [this]
 by_cases h:x=y
 ·subst h;simp
 ·simp [h]
theorem qu:∀ (n:Nat) (a:Kd),a.dep≤n→∀ b:Kd,eqv n a.toD b.toD=some (decide (a=b))
 | 0,a,h,b=>by cases a <;> (unfold Kd.dep at h;omega)
 | n+1,a,h,b=>by
   obtain ⟨x,h1,h2⟩:=pK (eqv n) a.ps b.ps (fun c hc d=>qu n c (by have:=Kd.ps_dep hc;omega) d)
   rw [a.toD_eq,b.toD_eq]
   show (match eqv n (.str a.hd) (.str b.hd) with | none=>none | some x=>(cO (eqv n) (dsK a.ps) (dsK b.ps)).map (x && ·)).map (· && ((D.str a.hd :: dsK a.ps).length == (D.str b.hd :: dsK b.ps).length))=_
   rw [vr,h1]
   show some ((decide (a.hd=b.hd) && x) && ((D.str a.hd :: dsK a.ps).length == (D.str b.hd :: dsK b.ps).length))=_
   have e:((D.str a.hd :: dsK a.ps).length == (D.str b.hd :: dsK b.ps).length)=(a.ps.length == b.ps.length):=by simp [dsK]
   rw [e,Bool.and_assoc,h2]
   congr 1
   by_cases q:a=b
   ·subst q;simp
   ·rw [ZV q]
    by_cases q1:a.hd=b.hd
    ·have:a.ps≠b.ps:=fun z=>q (Kd.ext.mpr ⟨q1,z⟩)
     simp [this]
    ·simp [q1]
theorem Br (k w:Kd) (h:k.dep≤55) (st:List O):opD .ne (look st k.toD) (look st w.toD)=some (.bl (!decide (k=w))):=by
 rw [mw,mw]
 show (eqT k.toD w.toD).map (fun x=>D.bl (!x))=_
 rw [kS (by cases k <;> rfl),qu 55 k h w];rfl
def Cs (k w:Kd):Prop:=k=w∨k = .unt∨w = .unt
theorem yY {k w:Kd} (h:Cs k w) (N:Nat) (hN:k.dep+2≤N) (st:List O):ac Γ N iD [k.toD,w.toD] st = .ok .non st:=by
 rcases h with rfl | rfl | rfl
 ·exact ef k N hN st
 ·obtain ⟨n,rfl⟩:∃ n,N=n+3:=⟨N - 3,by unfold Kd.dep at hN;omega⟩
  kernel_rfl
 ·obtain ⟨n,rfl⟩:∃ n,N=n+3:=⟨N - 3,by cases k <;> (unfold Kd.dep at hN;omega)⟩
  cases k <;> kernel_rfl
abbrev AlG (β:Type):=List (Key×β)
abbrev Al:=AlG Kd
def aF {β:Type} (l:AlG β) (k:Key) (v:β):AlG β:=if (l.any fun p=>decide (p.1=k))=true then l.map (fun p=>if p.1=k then (p.1,v) else p) else l ++ [(k,v)]
def am {β:Type}:AlG β→Key→Option β
 | [],_=>none
 | p :: r,k=>if p.1=k then some p.2 else am r k
def ksA {β:Type} (l:AlG β):List Key:=l.map (·.1)
def dsF {β:Type} (f:β→D) (l:AlG β):List D:=l.map fun p=>f p.2
abbrev dsA (l:Al):List D:=dsF Kd.toD l
abbrev dA (l:Al):D:=.dic (ksA l) (dsA l)
abbrev oA (l:Al):O:=.dic (ksA l) (dsA l)
theorem ww {β:Type} (f:β→D) (k:Key) (v:β):∀ l:AlG β,ia (ksA l) (dsF f l) k (f v)=dsF f (l.map fun p=>if p.1=k then (p.1,v) else p)
 | []=>rfl
 | p :: r=>by
   show (if p.1=k then f v else f p.2) :: ia (ksA r) (dsF f r) k (f v)=f (if p.1=k then (p.1,v) else p).2 :: dsF f _
   rw [ww f k v r]
   by_cases h:p.1=k <;> simp [h]
theorem xL {β:Type} (k:Key) (v:β) (l:AlG β):ksA (l.map fun p=>if p.1=k then (p.1,v) else p)=ksA l:=by
 unfold ksA
 rw [List.map_map]
 refine F5 fun p _=>?_
 show (if p.1=k then (p.1,v) else p).1=p.1
 by_cases h:p.1=k <;> simp [h]
theorem wv {β:Type} (f:β→D) (l:AlG β) (k:Key) (v:β):bW (ksA l) (dsF f l) k (f v)=(ksA (aF l k v),dsF f (aF l k v)):=by
 unfold bW aF
 have e:((ksA l).any fun q=>decide (q=k))=l.any fun p=>decide (p.1=k):=by unfold ksA;rw [List.any_map];rfl
 rw [e]
 by_cases h:(l.any fun p=>decide (p.1=k))=true
 ·rw [ZZ h,ZZ h,ww,xL]
 ·rw [ZY h,ZY h];simp [ksA,dsF]
theorem mq {β:Type} (f:β→D) (k:Key):∀ l:AlG β,b8 (ksA l) (dsF f l) k=(am l k).map f
 | []=>rfl
 | p :: r=>by
   show (if p.1=k then some (f p.2) else b8 (ksA r) (dsF f r) k)=(if p.1=k then some p.2 else am r k).map f
   rw [mq f k r]
   by_cases h:p.1=k <;> simp [h]
theorem vY (k:Key) (l:Al):b8 (ksA l) (dsA l) k=(am l k).map Kd.toD:=mq _ k l
theorem b7 {β:Type} (l:AlG β) (k:Key) (v:β):(aF l k v).length≤l.length+1:=by
 unfold aF
 split
 ·rw [Ν];omega
 ·simp
theorem rF {β:Type} (f:β→D) (l:AlG β) (d:D) (k:Key) (hk:bx d=some k) (v:β) (h:l.length<100000):jq (.dic (ksA l) (dsF f l)) d (f v)=some (.dic (ksA (aF l k v)) (dsF f (aF l k v))):=by
 show (bx d).bind (fun k=>if (ksA l).length<100000 then some (D.dic (bW (ksA l) (dsF f l) k (f v)).1 (bW (ksA l) (dsF f l) k (f v)).2) else none)=_
 rw [hk]
 show (if (ksA l).length<100000 then some (D.dic (bW (ksA l) (dsF f l) k (f v)).1 (bW (ksA l) (dsF f l) k (f v)).2) else none)=_
 rw [ZZ (by unfold ksA;rw [Ν];exact h),wv]
theorem yZ (l:Al) (x:ν) (v:Kd) (h:l.length<100000):jq (dA l) (.str x) v.toD=some (dA (aF l (.inr x) v)):=rF Kd.toD l (.str x) _ rfl v h
theorem rG (l:Al) (p:Int) (v:Kd) (h:l.length<100000):eg (oA l) (.int p) v.toD=some (oA (aF l (.inl p) v)):=by
 show (if (ksA l).length<100000 then some (O.dic (bW (ksA l) (dsA l) (.inl p) v.toD).1 (bW (ksA l) (dsA l) (.inl p) v.toD).2) else none)=_
 rw [ZZ (by unfold ksA;rw [Ν];exact h),wv Kd.toD]
theorem nsh (t:T68) (k:Kd) (h:k.dep≤4) (N:Nat) (hN:k.dep+2≤N) (st:List O):ac Γ N fY [t.toD,k.toD] st = .ok .non st:=by
 obtain ⟨n,rfl⟩:∃ n,N=n+1:=⟨N - 1,by omega⟩
 have d:=depth k n (by omega) st
 have e:decide (((k.dep:Nat):Int)>4)=false:=ZV (by omega)
 exact (aa false (aX 0 (d) (aX 1 (e) aZ)) (by kernel_rfl))
theorem nsm (x t:T68) (k w:Kd) (h:Cs k w) (N:Nat) (hN:k.dep+3≤N) (st:List O):ac Γ N jX [x.toD,k.toD,t.toD,w.toD] st = .ok .non st:=by
 obtain ⟨n,rfl⟩:∃ n,N=n+1:=⟨N - 1,by omega⟩
 have d:=yY h n (by omega) st
 exact (aa false (aX 0 (d) aZ) (by kernel_rfl))
theorem dQ {β:Type} (l:AlG β) (k:Key) (v:β) (x:Key):am (aF l k v) x=if k=x then some v else am l x:=by
 have rep:∀ l:AlG β,(l.any fun p=>decide (p.1=k))=true→am (l.map (fun p=>if p.1=k then (p.1,v) else p)) x=if k=x then some v else am l x:=by
  intro l
  induction l with
  | nil=>intro h;cases h
  | cons p r ih=>
    intro h
    show (if (if p.1=k then (p.1,v) else p).1=x then some (if p.1=k then (p.1,v) else p).2 else am (r.map _) x)=if k=x then some v else if p.1=x then some p.2 else am r x
    by_cases hk:p.1=k
    ·simp only [hk,if_true]
     by_cases hx:k=x
     ·simp [hx]
     ·simp only [hx,if_false]
      by_cases hr:(r.any fun p=>decide (p.1=k))=true
      ·rw [ih hr,ZY hx]
      ·have:∀ q∈r,q.1≠k:=fun q hq e=>hr (Ŋ.mpr ⟨q,hq,by simpa using e⟩)
       have e:r.map (fun p=>if p.1=k then (p.1,v) else p)=r:=by
        conv=>rhs;rw [← List.map_id r]
        refine F5 fun q hq=>?_
        rw [ZY (this q hq)];rfl
       rw [e]
    ·simp only [hk,if_false]
     have hr:(r.any fun p=>decide (p.1=k))=true:=by simpa [hk] using h
     rw [ih hr]
     by_cases hx:k=x
     ·subst hx;simp [hk]
     ·simp [hx]
 have app:∀ l:AlG β,(l.any fun p=>decide (p.1=k))=false→am (l ++ [(k,v)]) x=if k=x then some v else am l x:=by
  intro l
  induction l with
  | nil=>intro h;show (if k=x then some v else none)=_;rfl
  | cons p r ih=>
    intro h
    have h2:p.1≠k∧(r.any fun p=>decide (p.1=k))=false:=by simpa using h
    show (if p.1=x then some p.2 else am (r ++ [(k,v)]) x)=if k=x then some v else if p.1=x then some p.2 else am r x
    rw [ih h2.2]
    by_cases hx:k=x
    ·subst hx;simp [h2.1]
    ·simp [hx]
 unfold aF
 by_cases h:(l.any fun p=>decide (p.1=k))=true
 ·rw [ZZ h];exact rep l h
 ·rw [ZY h];exact app l (FH.mpr h)
theorem u9 {P:Kd→Prop} {l:Al} {k:Key} {v:Kd} (h:∀ p∈l,P p.2) (hv:P v):∀ p∈aF l k v,P p.2:=by
 unfold aF
 split
 ·intro p hp
  obtain ⟨q,hq,rfl⟩:=ë.mp hp
  by_cases c:q.1=k
  ·rw [ZZ c];exact hv
  ·rw [ZY c];exact h q hq
 ·intro p hp
  rcases È.mp hp with hp | hp
  ·exact h p hp
  ·rw [η.mp hp];exact hv
def inN (t:T68) (N:Al):Al:=match t with
 | .fn _ x k _=>aF N (.inr x) k
 | _=>N
theorem xA {t:T68} {N:Al}:(inN t N).length≤N.length+1:=by
 cases t with
 | fn p x k b=>exact b7 N (.inr x) k
 | _=>exact Þ _
theorem bw (t:T68) (i:Nat) (fs:List Kd) (N:Al) (hN:N.length+1<100000) (n:Nat) (st:List O):ac Γ (n+1) cU [t.toD,.int i,.lst (dsK fs),dA N] st = .ok (dA (inN t N)) st:=by
 cases t with
 | fn p x k b=>exact (aa false (aX 6 (yZ N x k (by omega)) aZ) (by kernel_rfl))
 | _=>kernel_rfl
abbrev ls (kd wd:Al):List O:=[.ins 0 [.ref 1,.ref 2],oA kd,oA wd]
theorem fK (t:T68) (k:Kd) (kd wd:Al) (h:wd.length<100000) (n:Nat):ac Γ (n+1) hO [.ref 0,t.toD,k.toD] (ls kd wd) = .ok .non (ls kd (aF wd (.inl t.pl) k)):=by
 have e:exS Γ (ac Γ n) (bP Γ n) gZ.body ⟨[some (.ref 0),some t.toD,some k.toD],[],ls kd wd⟩ = .nx ⟨[some (.ref 0),some t.toD,some k.toD],[],ls kd (aF wd (.inl t.pl) k)⟩:=by
  have e1:ev Γ (ac Γ n) (bP Γ n) true (.ix (.v 1) (.c (.int 1))) ⟨[some (.ref 0),some t.toD,some k.toD],[],ls kd wd⟩ = .ok (.int t.pl) ⟨[some (.ref 0),some t.toD,some k.toD],[],ls kd wd⟩:=(tC false (aX 0 (bT t (ls kd wd)) aZ) (by kernel_rfl))
  exact mO (o:=oA wd) (n:=2) rfl rfl e1 rfl (rG wd t.pl k h)
 exact (aa false (aX 0 (e) aZ) (by kernel_rfl))
theorem tZ {α:Type} (l:List α) (x:α):atI (l ++ [x]) (-1)=some x:=by
 show (ixN (l ++ [x]).length (-1)).bind _=_
 have e:ixN (l ++ [x]).length (-1)=some l.length:=by
  unfold ixN
  rw [υ,ό]
  rw [ZY (by decide),ZZ (by omega)]
  congr 1;omega
 rw [e]
 show (l ++ [x])[l.length]? = some x
 simp
theorem A4 (fs:List Kd) (i:Nat) (h:fs.length=i+1):ixD (.lst (dsK fs)) (.int (-1))=some (fs.getLastD .whole).toD:=by
 obtain ⟨l,x,rfl⟩:∃ l x,fs=l ++ [x]:=⟨_,_,(Ġ (List.ne_nil_of_length_eq_add_one h)).symm⟩
 have e:(l ++ [x]).getLastD .whole=x:=by simp
 rw [e]
 show atI (dsK (l ++ [x])) (-1)=_
 unfold dsK
 rw [Ô]
 exact tZ _ _
theorem ka:∀ k:Kd,noL k.toD=true
 | .whole=>rfl
 | .truth=>rfl
 | .row a=>by show (true && (noL a.toD && true))=true;rw [ka a];rfl
 | .to a b=>by show (true && (noL a.toD && (noL b.toD && true)))=true;rw [ka a,ka b];rfl
 | .unt=>rfl
theorem ji:∀ l:Al,fx (dsA l)=true
 | []=>rfl
 | p :: r=>by show (noL p.2.toD && fx (dsA r))=true;rw [ka,ji r];rfl
theorem lI (d:D) (h:noL d=true) (kd wd:Al):(noL d && (ls kd wd).all j9)=true:=by
 rw [h]
 show (true && (true && (fx (dsA kd) && (fx (dsA wd) && true))))=true
 rw [ji,ji];rfl
abbrev wB:S:=cX dy.body
abbrev kB:S:=cX (tlS 1 dy.body)
theorem ng (t:T68) (N:Al) (m:Nat) (S:List O):∀ (ks:List Kd) (e:Option D),(∀ k∈ks,k.dep≤4)→6≤m→∃ e':Option D,bo (hH Γ (ac Γ m) (bP Γ m) [3] true wB) (ks.map Kd.toD) ⟨[some (.ref 0),some t.toD,some (dA N),e,none,none,none,none],[],S⟩ = .nx ⟨[some (.ref 0),some t.toD,some (dA N),e',none,none,none,none],[],S⟩
 | [],e,_,_=>⟨e,rfl⟩
 | k :: r,e,h,hm=>by
   have h4:=h k (by simp)
   have n1:=nsh t k h4 m (by omega) S
   obtain ⟨e',h2⟩:=ng t N m S r (some k.toD) (fun k hk=>h k (by simp [hk])) hm
   exact ⟨e',ba (s1:=⟨[some (.ref 0),some t.toD,some (dA N),some k.toD,none,none,none,none],[],S⟩) (cq rfl (iV false (aX 0 (n1) aZ) (by kernel_rfl))) h2⟩
def T68.word:T68→ν
 | .whole _ _=>"whole" | .truth _ _=>"truth" | .fn _ _ _ _=>"fn" | .iff _ _ _ _=>"if" | .call _ _ _=>"call" | .bin _ _ _ _=>"do" | .as_ _ _ _=>"as" | .row _ _ _=>"row" | .att _ _ _=>"at" | .size _ _=>"size"
theorem m9 (t:T68) (S:List O):ixD (look S t.toD) (.int 0)=some (.str t.word):=by rw [qM];cases t <;> rfl
theorem i7 (t y:T68) (fs:List Kd) (k w:Kd) (cs:Cs k w) (kd wd:Al) (n:Nat) (hc:t.word = "if"→fs.length<2) (wk:∀ S,ac Γ (n+8) aH [t.toD,.lst (dsK (fs ++ [k]))] S = .ok w.toD S) (hd:k.dep≤4) (hw:wd.length<100000):ac Γ (n+9) cB [.ref 0,t.toD,y.toD,.lst (dsK (fs ++ [k]))] (ls kd wd) = .ok .non (ls kd (aF wd (.inl y.pl) w)):=by
 have la:=A4 (fs ++ [k]) fs.length (by simp)
 rw [show (fs ++ [k]).getLastD .whole=k by simp] at la
 have h0:=m9 t (ls kd wd)
 have w0:=wk (ls kd wd)
 have ns:=nsm y t k w cs (n+8) (by omega) (ls kd wd)
 have w1:=fK y w kd wd hw (n+7)
 by_cases c:t.word = "if"
 ·have e1:opD .eq (.str t.word) (.str "if")=some (.bl true):=by rw [c];rfl
  have e2:opD .eq (.int ((dsK (fs ++ [k])).length:Nat)) (.int 3)=some (.bl false):=by
   have:=hc c
   show some (D.bl (((dsK (fs ++ [k])).length:Int) == 3))=_
   rw [ZU.mpr]
   simp;omega
  exact (aa false (aX 0 (h0) (aX 0 (e1) (aX 2 (e2) (aX 0 (w0) (aX 0 (la) (aX 0 (ns) (aX 0 (w1) aZ))))))) (by kernel_rfl))
 ·have e1:opD .eq (.str t.word) (.str "if")=some (.bl false):=by
   show some (D.bl (t.word == ("if":ν)))=_
   rw [ZU.mpr c]
  exact (aa false (aX 0 (h0) (aX 0 (e1) (aX 0 (w0) (aX 0 (la) (aX 0 (ns) (aX 0 (w1) aZ)))))) (by kernel_rfl))
def Sg.kd:Sg→Kd
 | .lt=>.truth | .eq=>.truth | _=>.whole
def Kd.res:Kd→Kd
 | .to _ l=>l | _=>.unt
def Kd.arg:Kd→Kd
 | .to l _=>l | _=>.unt
def Kd.item:Kd→Kd
 | .row k=>k | _=>.unt
def Kd.toG:Kd→Kd
 | .to x y=>.to x y | _=>.to .unt .unt
def Kd.rowG:Kd→Kd
 | .row k=>.row k | _=>.row .unt
def kof:T68→Kd
 | .whole ..=>.whole | .truth ..=>.truth | .fn _ _ k b=>.to k (kof b) | .iff _ _ a _=>kof a | .call _ a _=>(kof a).res | .bin _ o _ _=>o.kd | .as_ _ k _=>k | .row _ k _=>.row k | .att _ a _=>(kof a).item | .size ..=>.whole
def wnt:T68→Nat→Kd
 | .fn _ _ _ b,_=>kof b
 | .iff ..,0=>.truth
 | .iff _ _ a _,_=>kof a
 | .call _ a _,0=>(kof a).toG
 | .call _ a _,_=>(kof a).arg
 | .bin ..,_=>.whole
 | .as_ _ k _,_=>k
 | .row _ k _,_=>k
 | .att _ a _,0=>(kof a).rowG
 | .att ..,_=>.whole
 | .size _ a,_=>(kof a).rowG
 | _,_=>.unt
inductive Tk:T68→Prop
 | mk {t:T68} (hw:∀ k∈wks t,k.dep≤4) (hd:(kof t).dep≤4) (hk:∀ (i:Nat) (y:T68),(aq t)[i]? = some y→Tk y) (hc:∀ (i:Nat) (y:T68),(aq t)[i]? = some y→Cs (kof y) (wnt t i)) (hi:∀ p c a b,t = .iff p c a b→kof b=kof a):Tk t
theorem Tk.d {t:T68} (h:Tk t):(kof t).dep≤4:=by cases h;assumption
def ah:Nat→T68→List Int
 | 0,_=>[]
 | n+1,t=>t.pl :: (aq t).flatMap (ah n)
def RW:Nat→T68→Al→Al→Prop
 | 0,_,_,_=>True
 | q+1,t,a,b=>∀ i y,(aq t)[i]? = some y→am a (.inl y.pl)=some (kof y)∧am b (.inl y.pl)=some (wnt t i)∧RW q y a b
structure Gr (a a':Al) (ps:List Int):Prop where
 kp:∀ x,(am a x).isSome=true→(am a' x).isSome=true
 hp:∀ p∈ps,(am a' (.inl p)).isSome=true
 d4:(∀ p∈a,p.2.dep≤4)→∀ p∈a',p.2.dep≤4
 u:∀ p,p ∉ ps→am a' (.inl p)=am a (.inl p)
 ln:a'.length≤a.length+ps.length
theorem cI {a:Al} {q p:Int} {v:Kd} (h:q≠p):am (aF a (.inl q) v) (.inl p)=am a (.inl p):=by rw [dQ,ZY fun e=>h (by cases e;rfl)]
theorem cH {a:Al} {q:Int} {v:Kd}:am (aF a (.inl q) v) (.inl q)=some v:=by rw [dQ,ZZ rfl]
theorem Gr.refl {a:Al}:Gr a a []:=⟨fun _ h=>h,fun p h=>(nomatch h),id,fun _ _=>rfl,by simp⟩
theorem Gr.trans {a b c:Al} {ps qs:List Int} (h:Gr a b ps) (h':Gr b c qs):Gr a c (ps ++ qs):=⟨fun x hx=>h'.kp x (h.kp x hx),fun p hp=>(È.mp hp).elim (fun hp=>h'.kp _ (h.hp p hp)) (h'.hp p),fun d=>h'.d4 (h.d4 d),fun p hp=>by
 rw [È,not_or] at hp
 rw [h'.u p hp.2,h.u p hp.1],by have:=h.ln;have:=h'.ln;rw [υ];omega⟩
theorem Gr.own {a b:Al} {ps:List Int} (h:Gr a b ps) (p:Int) {v:Kd} (hv:v.dep≤4):Gr a (aF b (.inl p) v) (p :: ps):=by
 refine ⟨fun x hx=>?_,fun q hq=>?_,fun d=>u9 (P:=fun k=>k.dep≤4) (h.d4 d) hv,fun q hq=>?_,by have:=h.ln;have:=b7 b (.inl p) v;rw [Ι];omega⟩
 ·rw [dQ];split
  ·rfl
  ·exact h.kp x hx
 ·rw [dQ];split
  ·rfl
  ·rename_i c
   exact h.hp q ((π.mp hq).resolve_left fun e=>c (by rw [e]))
 ·rw [π,not_or] at hq
  rw [cI (Ϥ hq.1)];exact h.u q hq.2
def Un (a a1:Al) (ps:List Int):Prop:=∀ p,p ∉ ps→am a1 (.inl p)=am a (.inl p)
theorem cY {n:Nat} {t:T68} (h:1≤n):t.pl∈ah n t:=by
 obtain ⟨n,rfl⟩:∃ k,n=k+1:=⟨n - 1,by omega⟩
 exact ι
theorem Ok.pos {n:Nat} {t:T68} (h:Ok n t):1≤n:=by
 cases n with
 | zero=>exact h.elim
 | succ n=>omega
theorem RW.un {a b a1 b1:Al} {ps qs:List Int} (u:Un a a1 ps) (v:Un b b1 qs):∀ {q:Nat} {t:T68},Ok q t→RW q t a b→(∀ p∈ah q t,p ∉ ps∧p ∉ qs)→RW q t a1 b1
 | 0,_,o,_,_=>o.elim
 | q+1,t,o,h,hp=>fun i y hy=>by
   obtain ⟨g1,g2,g3⟩:=h i y hy
   have ym:=φ hy
   have m:∀ p∈ah q y,p∈ah (q+1) t:=fun p hp=>κ _ (À.mpr ⟨y,ym,hp⟩)
   have yo:=o.2.2 y ym
   have yp:=m y.pl (cY yo.pos)
   exact ⟨(u _ (hp _ yp).1).trans g1,(v _ (hp _ yp).2).trans g2,g3.un u v yo fun p h=>hp p (m p h)⟩
structure LkE (m:Nat) (t:T68) (q:Nat) (N a b a' b':Al):Prop where
 e:ac Γ m cC [.ref 0,t.toD,dA N] (ls a b) = .ok (kof t).toD (ls a' b')
 k:am a' (.inl t.pl)=some (kof t)
 w:RW q t a' b'
 r:Gr a a' (ah q t)
 v:Un b b' (ah q t).tail
 lb:b'.length+2≤b.length+2 * (ah q t).length
def kst (t:T68) (N:Al) (e3:Option D) (fs:List Kd) (e5 e6:Option D) (kd wd:Al):Sta:=⟨[some (.ref 0),some t.toD,some (dA N),e3,some (.lst (dsK fs)),e5,e6,none],[4],ls kd wd⟩
section
variable {m q:Nat} {t y:T68} {N a b a' b':Al} {w k:Kd} {fs:List Kd}
abbrev kG (n:Nat):D→Sta→av:=hH Γ (ac Γ (n+10)) (bP Γ (n+10)) [5,6] false kB
theorem fE {i:Nat} {e3 e5 e6:Option D} {N' a1 b1 b2:Al} (hi:fs.length=i) (hb:ac Γ (m+10) cU [t.toD,.int i,.lst (dsK fs),dA N] (ls a b) = .ok (dA N') (ls a b)) (hy:ac Γ (m+10) cC [.ref 0,y.toD,dA N'] (ls a b) = .ok k.toD (ls a1 b1)) (hh:ac Γ (m+10) cB [.ref 0,t.toD,y.toD,.lst (dsK (fs ++ [k]))] (ls a1 b1) = .ok .non (ls a1 b2)) (hl:i<100000):kG m (.tup [.int i,y.toD]) (kst t N e3 fs e5 e6 a b) = .nx (kst t N e3 (fs ++ [k]) (some (.int i)) (some y.toD) a1 b2):=by
 have nl:=lI (dA N') (ji _) a b
 have l0:decide ((dsK fs).length<100000)=true:=ZW (by rw [Ν];omega)
 have ek:dsK fs ++ [k.toD]=dsK (fs ++ [k]):=by simp [dsK]
 rw [← ek] at hh
 have nl2:=lI .non rfl a1 b2
 unfold kst
 rw [← ek]
 refine cq rfl ?_
 exact (iV false (aX 0 (hb) (aX 0 (nl) (aX 0 (hy) (aX 0 (l0) (aX 0 (hh) (aX 0 (nl2) aZ)))))) (by kernel_rfl))
theorem yi {a1 b1:Al} (hw:∀ k∈wks t,k.dep≤4) (lp:∀ e3,∃ e5 e6,bo (kG m) (bM 0 (toDs (aq t))) (kst t N e3 [] none none a b) = .nx (kst t N e3 fs e5 e6 a1 b1)) (ho:∀ S,ac Γ (m+10) bE [t.toD,.lst (dsK fs),dA N] S = .ok w.toD S) (hd:w.dep≤4) (hl:a1.length<90000):ac Γ (m+11) cC [.ref 0,t.toD,dA N] (ls a b) = .ok w.toD (ls (aF a1 (.inl t.pl) w) b1):=by
 have w0:=De t (m+7) (ls a b)
 obtain ⟨e3,w1⟩:=ng t N (m+10) (ls a b) (wks t) none hw (by omega)
 have p0:=cM t (m+7) (ls a b)
 obtain ⟨e5,e6,lp⟩:=lp e3
 have ow:=ho (ls a1 b1)
 have n1:=nsh t w hd (m+10) (by omega) (ls a1 b1)
 have nl:=lI w.toD (ka _) a1 b1
 have e1:ev Γ (ac Γ (m+10)) (bP Γ (m+10)) true (.ix (.v 1) (.c (.int 1))) ⟨[some (.ref 0),some t.toD,some (dA N),e3,some (.lst (dsK fs)),e5,e6,some w.toD],[4],ls a1 b1⟩ = .ok (.int t.pl) ⟨[some (.ref 0),some t.toD,some (dA N),e3,some (.lst (dsK fs)),e5,e6,some w.toD],[4],ls a1 b1⟩:=(tC false (aX 0 (bT t (ls a1 b1)) aZ) (by kernel_rfl))
 have pt:=mO (Γ:=Γ) (cal:=ac Γ (m+10)) (cal1:=bP Γ (m+10)) (x:=.v 0) (f:=0) (e:=.v 7) (s:=⟨[some (.ref 0),some t.toD,some (dA N),e3,some (.lst (dsK fs)),e5,e6,some w.toD],[4],ls a1 b1⟩) (o:=oA a1) (n:=1) rfl rfl e1 rfl (rG a1 t.pl w (by omega))
 exact (aa true (aX 0 (w0) (aX 0 (w1) (aX 0 (p0) (aX 0 (lp) (aX 0 (ow) (aX 0 (nl) (aX 0 (n1) (aX 0 (pt) aZ)))))))) (by kernel_rfl))
def Kh (m q:Nat) (y:T68):Prop:=∀ N a b,N.length+q<1000→a.length+(ah q y).length≤40000→b.length+2 * (ah q y).length≤90000→∃ a' b',LkE m y q N a b a' b'
theorem gx {l r:List T68} {y:T68} (nd:((l ++ y :: r).flatMap (ah q)).Nodup):(ah q y).Nodup∧∀ z∈l,∀ p∈ah q z,p ∉ ah q y:=by
 rw [F7,ϩ] at nd
 obtain ⟨_,nd3,dis⟩:=Ĺ.mp nd
 exact ⟨(Ĺ.mp nd3).1,fun z hz p hp hq=>dis p (À.mpr ⟨z,hz,hp⟩) p (Ŧ _ hq) rfl⟩
theorem BM (hn:1≤q):ah q y=y.pl :: (ah q y).tail:=by
 cases q with
 | zero=>omega
 | succ n=>rfl
structure Dn (q:Nat) (t:T68) (P:List T68) (a b:Al):Prop where
 h:∀ j z,P[j]? = some z→am a (.inl z.pl)=some (kof z)∧am b (.inl z.pl)=some (wnt t j)∧RW q z a b
theorem Dn.snoc {P:List T68} {N' a1 b1 b2:Al} (hd:Dn q t P a b) (oP:∀ z∈P,Ok q z) (oy:Ok q y) (out:∀ z∈P,∀ p∈ah q z,p ∉ ah q y) (nd:(ah q y).Nodup) (h:LkE m y q N' a b a1 b1) (e:am b2 (.inl y.pl)=some (wnt t P.length)) (u:Un b1 b2 [y.pl]):Dn q t (P ++ [y]) a1 b2:=by
 have ym:=cY (t:=y) oy.pos
 have nt:∀ p∈(ah q y).tail,p≠y.pl:=fun p hp e=>by
  rw [BM oy.pos] at nd
  exact (ϔ.mp nd).1 (e ▸ hp)
 refine ⟨fun j z hz=>?_⟩
 by_cases c:j<P.length
 ·rw [Χ c] at hz
  obtain ⟨g1,g2,g3⟩:=hd.h j z hz
  have zm:=φ hz
  have o:=out z zm
  have zp:=cY (t:=z) (oP z zm).pos
  have ny:∀ p∈ah q z,p ∉ [y.pl]:=fun p hp h=>by rw [η.mp h] at hp;exact o _ hp ym
  refine ⟨(h.r.u _ (o _ zp)).trans g1,((u _ (ny _ zp)).trans (h.v _ fun m=>o _ zp (Ð m))).trans g2,?_⟩
  have g4:RW q z a1 b1:=g3.un h.r.u h.v (oP z zm) fun p hp=>⟨o p hp,fun m=>o p hp (Ð m)⟩
  exact g4.un (ps:=[]) (fun _ _=>rfl) u (oP z zm) fun p hp=>⟨fun h=>(nomatch h),ny p hp⟩
 ·rw [Μ (by omega)] at hz
  have z1:j - P.length=0:=by
   refine DF fun z=>?_
   rw [Ş (by simp;omega)] at hz;cases hz
  rw [z1] at hz
  cases hz
  have jl:j=P.length:=by omega
  subst jl
  refine ⟨h.k,e,?_⟩
  obtain ⟨n,rfl⟩:∃ n,q=n+1:=⟨q - 1,by have:=oy.pos;omega⟩
  intro i x hx
  obtain ⟨f1,f2,f3⟩:=h.w i x hx
  have xm:=φ hx
  have ox:=oy.2.2 x xm
  have sub:∀ p∈ah n x,p∈(ah (n+1) y).tail:=fun p hp=>À.mpr ⟨x,xm,hp⟩
  have ny:∀ p∈ah n x,p ∉ [y.pl]:=fun p hp h=>nt p (sub p hp) (η.mp h)
  exact ⟨f1,(u _ (ny _ (cY ox.pos))).trans f2,f3.un (ps:=[]) (fun _ _=>rfl) u ox fun p hp=>⟨fun h=>(nomatch h),ny p hp⟩⟩
theorem dH {p:Int}:Un a (aF a (.inl p) w) [p]:=fun x hx=>cI fun e=>hx (by simp [e])
theorem wb (o:Ok (q+1) t) (hN:N.length+q<999) (nif:t.word = "if"→False) (nd:((aq t).flatMap (ah q)).Nodup) (hk:∀ y∈aq t,Kh (m+10) q y) (hc:∀ i y,(aq t)[i]? = some y→Cs (kof y) (wnt t i)∧(kof y).dep≤4) (wk:∀ i y,(aq t)[i]? = some y→∀ S,ac Γ (m+9) aH [t.toD,.lst (dsK (((aq t).map kof).take (i+1)))] S = .ok (wnt t i).toD S):∀ (r P:List T68) (a b:Al),aq t=P ++ r→Dn q t P a b→a.length+(r.flatMap (ah q)).length≤40000→b.length+2 * (r.flatMap (ah q)).length≤90000→∃ a' b',Dn q t (aq t) a' b'∧Gr a a' (r.flatMap (ah q))∧Un b b' (r.flatMap (ah q))∧b'.length≤b.length+2 * (r.flatMap (ah q)).length∧∀ e3 e5 e6,∃ e5' e6',bo (kG m) (bM (P.length:Nat) (toDs r)) (kst t N e3 (P.map kof) e5 e6 a b) = .nx (kst t N e3 ((aq t).map kof) e5' e6' a' b')
 | [],P,a,b,e,d,_,_=>by
   rw [Ω] at e
   exact ⟨a,b,e ▸ d,.refl,fun _ _=>rfl,by simp,fun e3 e5 e6=>⟨e5,e6,by rw [e];rfl⟩⟩
 | y :: r,P,a,b,e,d,ha,hb=>by
   rw [ϩ,υ] at ha hb
   have ky:(aq t)[P.length]? = some y:=by rw [e,Μ (Ψ _),Ħ];rfl
   have ym:y∈aq t:=φ ky
   have oy:=o.2.2 y ym
   obtain ⟨ny,out⟩:=gx (e ▸ nd)
   have il:=xA (t:=t) (N:=N)
   obtain ⟨a1,b1,h1⟩:=hk y ym (inN t N) a b (by omega) (by omega) (by omega)
   have l1:=h1.lb
   have r1:=h1.r.ln
   have pl:=b7 b1 (.inl y.pl) (wnt t P.length)
   obtain ⟨c1,c2⟩:=hc _ _ ky
   have tk:((aq t).map kof).take (P.length+1)=P.map kof ++ [kof y]:=by
    rw [e,Ô,Î,List.take_append,EC (by simp),Ν,show P.length+1 - P.length=1 by omega];rfl
   have w0:=wk _ _ ky
   rw [tk] at w0
   have hh:=i7 t y (P.map kof) (kof y) (wnt t P.length) c1 a1 b1 (m+1) (fun c=>(nif c).elim) w0 c2 (by omega)
   obtain ⟨a',b',d2,g2,v2,l2,h2⟩:=wb o hN nif nd hk hc wk r (P ++ [y]) a1 (aF b1 (.inl y.pl) (wnt t P.length)) (by rw [e];simp) (d.snoc (fun z hz=>o.2.2 z (by rw [e];simp [hz])) oy out ny h1 cH dH) (by omega) (by omega)
   refine ⟨a',b',d2,by rw [ϩ];exact h1.r.trans g2,fun p hp=>?_,by rw [ϩ,υ];omega,fun e3 e5 e6=>?_⟩
   ·rw [ϩ,È,not_or] at hp
    rw [v2 p hp.2,cI (fun e=>hp.1 (by rw [← e];exact cY oy.pos)),h1.v p fun m=>hp.1 (Ð m)]
   ·obtain ⟨e5',e6',h2⟩:=h2 e3 (some (.int P.length)) (some y.toD)
    refine ⟨e5',e6',ba (fE (by simp) (bw t P.length (P.map kof) N (by omega) (m+9) _) h1.e hh (by have:=f9 o.1;rw [e] at this;simp at this;omega)) ?_⟩
    rw [υ,Ô] at h2
    exact h2
theorem done {a1 b1:Al} (hw:∀ k∈wks t,k.dep≤4) (lp:∀ e3,∃ e5 e6,bo (kG m) (bM 0 (toDs (aq t))) (kst t N e3 [] none none a b) = .nx (kst t N e3 ((aq t).map kof) e5 e6 a1 b1)) (ho:∀ S,ac Γ (m+10) bE [t.toD,.lst (dsK ((aq t).map kof)),dA N] S = .ok (kof t).toD S) (hd:(kof t).dep≤4) (o:Ok (q+1) t) (nd:(ah (q+1) t).Nodup) (d:Dn q t (aq t) a1 b1) (r:Gr a a1 ((aq t).flatMap (ah q))) (v:Un b b1 ((aq t).flatMap (ah q))) (ha:a.length+(ah (q+1) t).length≤40000) (lb:b1.length≤b.length+2 * ((aq t).flatMap (ah q)).length):LkE (m+11) t (q+1) N a b (aF a1 (.inl t.pl) (kof t)) b1:=by
 have e:(ah (q+1) t).length=((aq t).flatMap (ah q)).length+1:=rfl
 have nt:=(ϔ.mp (show (t.pl :: (aq t).flatMap (ah q)).Nodup from nd)).1
 refine ⟨yi hw lp ho hd (by have:=r.ln;omega),cH,fun i y hy=>?_,r.own t.pl hd,v,by omega⟩
 obtain ⟨g1,g2,g3⟩:=d.h i y hy
 have ym:=φ hy
 have oy:=o.2.2 y ym
 have ny:∀ p∈ah q y,p ∉ [t.pl]:=fun p hp h=>nt (À.mpr ⟨y,ym,(η.mp h) ▸ hp⟩)
 exact ⟨(dH _ (ny _ (cY oy.pos))).trans g1,g2,g3.un (qs:=[]) dH (fun _ _=>rfl) oy fun p hp=>⟨ny p hp,fun h=>(nomatch h)⟩⟩
theorem AT {p:Int} {c x y:T68} (cc:kof y=kof x) (hd:(kof x).dep≤4) (hb:b.length+2<100000) (n:Nat):ac Γ (n+10) cB [.ref 0,(T68.iff p c x y).toD,y.toD,.lst (dsK [kof c,kof x,kof y])] (ls a b) = .ok .non (ls a (aF (aF b (.inl x.pl) (kof x)) (.inl y.pl) (kof x))):=by
 rw [cc]
 have pl:=b7 b (.inl x.pl) (kof x)
 have ns:=nsm y x (kof x) (kof x) (.inl rfl) (n+8) (by omega) (ls a b)
 have j1:=b9 (kof x) (n+8) (by omega) (ls a b)
 have j2:=b9 (kof x) (n+8) (by omega) (ls a (aF b (.inl x.pl) (kof x)))
 have w1:=fK x (kof x) a b (by omega) (n+7)
 have w2:=fK y (kof x) a (aF b (.inl x.pl) (kof x)) (by omega) (n+7)
 have hch:ac Γ (n+9) cS [.ref 0,(T68.iff p c x y).toD,.lst (dsK [kof c,kof x,kof x])] (ls a b) = .ok .non (ls a (aF (aF b (.inl x.pl) (kof x)) (.inl y.pl) (kof x))):=(aa false (aX 0 (ns) (aX 0 (j1) (aX 0 (w1) (aX 0 (j2) (aX 0 (w2) aZ))))) (by kernel_rfl))
 exact (aa false (aX 0 (hch) aZ) (by kernel_rfl))
theorem Ce (tk:Tk t) (nif:t.word = "if"→False):∀ i y,(aq t)[i]? = some y→∀ S,ac Γ (m+9) aH [t.toD,.lst (dsK (((aq t).map kof).take (i+1)))] S = .ok (wnt t i).toD S:=by
 cases tk with
 | mk hw hd hk hc hi=>
   intro i y hy S
   have c:=hc i y hy
   cases t with
   | whole=>cases hy
   | truth=>cases hy
   | fn p x k b=>match i,hy with | 0,_=>kernel_rfl
   | iff=>exact (nif rfl).elim
   | call p a b=>
     have c0:=hc 0 a rfl
     have c0:Cs (kof a) (kof a).toG:=c0
     match i,hy with
     | 0,_=>
       show ac Γ (m+9) aH [(T68.call p a b).toD,.lst [(kof a).toD]] S = .ok (kof a).toG.toD S
       cases kof a <;> kernel_rfl
     | 1,_=>
       show ac Γ (m+9) aH [(T68.call p a b).toD,.lst [(kof a).toD,(kof b).toD]] S = .ok (kof a).arg.toD S
       generalize kof a=k at c0 ⊢
       cases k with
       | to x y=>kernel_rfl
       | unt=>kernel_rfl
       | whole=>rcases c0 with h | h | h <;> cases h
       | truth=>rcases c0 with h | h | h <;> cases h
       | row=>rcases c0 with h | h | h <;> cases h
   | bin p o a b=>match i,hy with
     | 0,_=>kernel_rfl
     | 1,_=>kernel_rfl
   | as_ p k a=>match i,hy with | 0,_=>kernel_rfl
   | row p k ts=>
     show ac Γ (m+9) aH [(T68.row p k ts).toD,.lst (dsK ((ts.map kof).take (i+1)))] S = .ok k.toD S
     generalize dsK ((ts.map kof).take (i+1))=l
     kernel_rfl
   | att p a b=>match i,hy with
     | 0,_=>
       show ac Γ (m+9) aH [(T68.att p a b).toD,.lst [(kof a).toD]] S = .ok (kof a).rowG.toD S
       cases kof a <;> kernel_rfl
     | 1,_=>kernel_rfl
   | size p a=>match i,hy with
     | 0,_=>
       show ac Γ (m+9) aH [(T68.size p a).toD,.lst [(kof a).toD]] S = .ok (kof a).rowG.toD S
       cases kof a <;> kernel_rfl
theorem rr (tk:Tk t) (S:List O):ac Γ (m+10) bE [t.toD,.lst (dsK ((aq t).map kof)),dA N] S = .ok (kof t).toD S:=by
 cases tk with
 | mk hw hd hk hc hi=>
   cases t with
   | whole=>kernel_rfl
   | truth=>kernel_rfl
   | fn=>kernel_rfl
   | iff p c a b=>
     have e:=hi p c a b rfl
     show ac Γ (m+10) bE [(T68.iff p c a b).toD,.lst [(kof c).toD,(kof a).toD,(kof b).toD],dA N] S = .ok (kof a).toD S
     rw [e]
     exact (aa false (aX 0 (b9 (kof a) (m+9) (by have h:(kof a).dep≤4:=hd;omega) S) aZ) (by kernel_rfl))
   | call p a b=>
     have c0:Cs (kof a) (kof a).toG:=hc 0 a rfl
     show ac Γ (m+10) bE [(T68.call p a b).toD,.lst [(kof a).toD,(kof b).toD],dA N] S = .ok (kof a).res.toD S
     generalize kof a=k at c0 ⊢
     cases k with
     | to x y=>kernel_rfl
     | unt=>kernel_rfl
     | whole=>rcases c0 with h | h | h <;> cases h
     | truth=>rcases c0 with h | h | h <;> cases h
     | row=>rcases c0 with h | h | h <;> cases h
   | bin p o a b=>cases o <;> kernel_rfl
   | as_=>kernel_rfl
   | row p k ts=>
     show ac Γ (m+10) bE [(T68.row p k ts).toD,.lst (dsK (ts.map kof)),dA N] S = .ok (Kd.row k).toD S
     generalize dsK (ts.map kof)=l
     kernel_rfl
   | att p a b=>
     have c0:Cs (kof a) (kof a).rowG:=hc 0 a rfl
     show ac Γ (m+10) bE [(T68.att p a b).toD,.lst [(kof a).toD,(kof b).toD],dA N] S = .ok (kof a).item.toD S
     generalize kof a=k at c0 ⊢
     cases k with
     | row x=>kernel_rfl
     | unt=>kernel_rfl
     | whole=>rcases c0 with h | h | h <;> cases h
     | truth=>rcases c0 with h | h | h <;> cases h
     | to=>rcases c0 with h | h | h <;> cases h
   | size=>kernel_rfl
end
theorem yK {n:Nat} {t y:T68} (h:(ah (n+1) t).Nodup) (hy:y∈aq t):(ah n y).Nodup:=by
 have h:=(ϔ.mp (show (t.pl :: (aq t).flatMap (ah n)).Nodup from h)).2
 obtain ⟨P,r,e⟩:=List.append_of_mem hy
 exact (gx (e ▸ h)).1
theorem nf {x:ν} (h:(x == ("if":ν))=false) (e:x = "if"):False:=by rw [e] at h;exact nomatch h
theorem wE:∀ {q:Nat} {t:T68},Tk t→Ok q t→∀ {m:Nat},q+10≤m→(ah q t).Nodup→Kh m q t
 | 0,_,_,o,_,_,_=>o.elim
 | q+1,t,h,o,m,hm,nd=>by
   obtain ⟨m,rfl⟩:∃ k,m=k+11:=⟨m - 11,by omega⟩
   have h':=h
   obtain ⟨hw,hd,hk,hc,hi⟩:=h'
   have kd:∀ i y,(aq t)[i]? = some y→Kh (m+10) q y:=fun i y hy=>wE (hk i y hy) (o.2.2 y (φ hy)) (by omega) (yK nd (φ hy))
   have nd1:=(ϔ.mp (show (t.pl :: (aq t).flatMap (ah q)).Nodup from nd)).2
   have e2:(ah (q+1) t).length=((aq t).flatMap (ah q)).length+1:=rfl
   intro N a b hN ha hb
   by_cases c:t.word = "if"
   ·obtain ⟨p,v,x,y,rfl⟩:∃ p v x y,t = .iff p v x y:=by cases t <;> first | exact ⟨_,_,_,_,rfl⟩ | exact (nf (by kernel_rfl) c).elim
    have e:(aq (.iff p v x y)).flatMap (ah q)=ah q v ++ (ah q x ++ ah q y):=by simp [aq]
    rw [e,υ,υ] at e2
    obtain ⟨nv,_⟩:=gx (q:=q) (l:=[]) (y:=v) (r:=[x,y]) nd1
    obtain ⟨nx,ox⟩:=gx (q:=q) (l:=[v]) (y:=x) (r:=[y]) nd1
    obtain ⟨ny,oy⟩:=gx (q:=q) (l:=[v,x]) (y:=y) (r:=[]) nd1
    have o0:=o.2.2 v (.head _)
    have o1:=o.2.2 x (.tail _ (.head _))
    have o2:=o.2.2 y (.tail _ (.tail _ (.head _)))
    have cc:=hi p v x y rfl
    have dx:(kof x).dep≤4:=hd
    obtain ⟨a1,b1,h1⟩:=kd 0 v rfl N a b (by omega) (by omega) (by omega)
    have l1:=h1.lb
    have r1:=h1.r.ln
    have pl:=b7 b1 (.inl v.pl) .truth
    obtain ⟨a2,b2,h2⟩:=kd 1 x rfl N a1 (aF b1 (.inl v.pl) .truth) (by omega) (by omega) (by omega)
    have l2:=h2.lb
    have r2:=h2.r.ln
    have pl2:=b7 b2 (.inl x.pl) (kof x)
    obtain ⟨a3,b3,h3⟩:=kd 2 y rfl N a2 (aF b2 (.inl x.pl) (kof x)) (by omega) (by omega) (by omega)
    have l3:=h3.lb
    have pl3:=b7 b3 (.inl x.pl) (kof x)
    have pl4:=b7 (aF b3 (.inl x.pl) (kof x)) (.inl y.pl) (kof x)
    have hh:=i7 (.iff p v x y) v [] (kof v) .truth (hc 0 v rfl) a1 b1 (m+1) (fun _=>by decide) (fun S=>by kernel_rfl) (hk 0 v rfl).d (by omega)
    have hh2:=i7 (.iff p v x y) x [kof v] (kof x) (kof x) (.inl rfl) a2 b2 (m+1) (fun _=>τ rfl) (fun S=>by kernel_rfl) dx (by omega)
    have d0:Dn q (.iff p v x y) [] a b:=⟨fun j z hz=>by simp at hz⟩
    have d1:=d0.snoc (fun z hz=>nomatch hz) o0 (fun z hz=>nomatch hz) nv h1 (show am (aF b1 (.inl v.pl) .truth) (.inl v.pl)=some (wnt (.iff p v x y) 0) from cH) dH
    have d2:=d1.snoc (fun z hz=>by rw [η.mp hz];exact o0) o1 ox nx h2 (show am (aF b2 (.inl x.pl) (kof x)) (.inl x.pl)=some (wnt (.iff p v x y) 1) from cH) dH
    have xy:x.pl ∉ ah q y:=oy x (.tail _ (.head _)) _ (cY o1.pos)
    have b3x:am b3 (.inl x.pl)=some (kof x):=(h3.v _ fun h=>xy (Ð h)).trans cH
    have d3:=d2.snoc (fun z hz=>by rcases π.mp hz with rfl | hz;exact o0;rw [η.mp hz];exact o1) o2 oy ny h3 (b2:=aF (aF b3 (.inl x.pl) (kof x)) (.inl y.pl) (kof x)) (show am _ (.inl y.pl)=some (wnt (.iff p v x y) 2) from cH) (fun z hz=>by
     rw [cI (fun e=>hz (by simp [e]))]
     by_cases e:x.pl=z
     ·subst e;rw [cH,b3x]
     ·rw [cI e])
    refine ⟨_,_,done hw (fun e3=>⟨some (.int 2),some y.toD,ba (fE (fs:=[]) rfl (bw (.iff p v x y) 0 [] N (by omega) (m+9) _) h1.e hh (by decide)) (ba (fE (fs:=[kof v]) rfl (bw (.iff p v x y) 1 [kof v] N (by omega) (m+9) _) h2.e hh2 (by decide)) (ba (fE (fs:=[kof v,kof x]) rfl (bw (.iff p v x y) 2 [kof v,kof x] N (by omega) (m+9) _) h3.e (AT cc dx (by omega) m) (by decide)) rfl))⟩) (rr h) hd o nd d3 (by rw [e];exact h1.r.trans (h2.r.trans h3.r)) (fun z hz=>?_) ha (by rw [e,υ,υ];omega)⟩
    rw [e,È,È,not_or,not_or] at hz
    have n1:∀ {w:T68},Ok q w→z ∉ ah q w→w.pl≠z:=fun ow h e=>h (e ▸ cY ow.pos)
    rw [cI (n1 o2 hz.2.2),cI (n1 o1 hz.2.1),h3.v z (fun h=>hz.2.2 (Ð h)),cI (n1 o1 hz.2.1),h2.v z (fun h=>hz.2.1 (Ð h)),cI (n1 o0 hz.1),h1.v z fun h=>hz.1 (Ð h)]
   ·obtain ⟨a1,b1,d,r,v,l,lp⟩:=wb (m:=m) (q:=q) (N:=N) o (by omega) (fun e=>c e) nd1 (fun y hy=>by obtain ⟨i,hi⟩:=Ë.mp hy;exact kd i y hi) (fun i y hy=>⟨hc i y hy,(hk i y hy).d⟩) (Ce h fun e=>c e) (aq t) [] a b rfl ⟨fun j z hz=>by simp at hz⟩ (by omega) (by omega)
    exact ⟨_,_,done hw (fun e3=>lp e3 none none) (rr h) hd o nd d r v ha l⟩
abbrev nB:S:=cX iX.body
theorem wT (bs l:List ν) (h:bs.length+l.length≤1000):opD .add (.tup (sts bs)) (.tup (sts l))=some (.tup (sts (bs ++ l))):=by
 show nR ((sts bs).length+(sts l).length) _=_
 unfold nR sts
 rw [ZZ (by simp;omega),Ô]
theorem tf (t:T68) (i:Nat):(bnd t i).length≤2:=by
 cases t <;> first | exact τ rfl | (rename_i a b c d;match i with | 0=>exact τ rfl | 1=>exact τ rfl | i+2=>exact τ rfl)
theorem mJ {n m:Nat} (ih:∀ (y:T68) (bs:List ν) (S:List O),Ok n y→bs.length+2 * n≤1000→ac Γ (m+4) dX [y.toD,.tup (sts bs)] S = .ok .non S) (t:T68) (bs:List ν) (o4:∀ y∈aq t,Ok n y) (hb:bs.length+2 * (n+1)≤1000) (S:List O):∀ (r:List T68) (i:Nat) (e2 e3:Option D),(∀ j y,r[j]? = some y→(aq t)[i+j]? = some y)→∃ e2' e3':Option D,bo (hH Γ (ac Γ (m+4)) (bP Γ (m+4)) [2,3] false nB) (bM (i:Nat) (toDs r)) ⟨[some t.toD,some (.tup (sts bs)),e2,e3],[],S⟩ = .nx ⟨[some t.toD,some (.tup (sts bs)),e2',e3'],[],S⟩
 | [],i,e2,e3,_=>⟨e2,e3,rfl⟩
 | y :: r,i,e2,e3,hr=>by
   have hy:(aq t)[i]? = some y:=hr 0 y rfl
   have n1:=yJ t i y hy (m+3) S
   have l2:=tf t i
   have a1:=wT bs (bnd t i) (by omega)
   have i1:=ih y (bs ++ bnd t i) S (o4 y (φ hy)) (by rw [υ];omega)
   obtain ⟨e2',e3',h⟩:=mJ ih t bs o4 hb S r (i+1) (some (.int i)) (some y.toD) (fun j z hz=>by rw [Nat.add_assoc,Hk 1];exact hr (j+1) z hz)
   exact ⟨e2',e3',ba (cq rfl (iV false (aX 0 (n1) (aX 0 (a1) (aX 0 (i1) aZ))) (by kernel_rfl))) h⟩
theorem dG:∀ (n m:Nat) (y:T68) (bs:List ν) (S:List O),n+4≤m→Ok n y→bs.length+2 * n≤1000→ac Γ m dX [y.toD,.tup (sts bs)] S = .ok .non S
 | 0,m,y,bs,S,_,o,_=>o.elim
 | n+1,m,t,bs,S,hm,o,hb=>by
   obtain ⟨m,rfl⟩:∃ k,m=k+5:=⟨m - 5,by omega⟩
   have p0:=cM t (m+1) S
   obtain ⟨e2,e3,lp⟩:=mJ (m:=m) (fun y bs S o h=>dG n (m+4) y bs S (by omega) o h) t bs o.2.2 hb S (aq t) 0 none none (fun j y h=>by rw [Hi];exact h)
   have h0:=m9 t S
   cases t <;> exact (aa true (aX 0 (p0) (aX 0 (lp) aZ)) (by kernel_rfl))
def nb:Nat→Nat
 | 0=>0
 | n+1=>1+4 * nb n
theorem jo:∀ (n:Nat) (t:T68),Ok n t→(ah n t).length≤nb n
 | 0,t,o=>o.elim
 | n+1,t,⟨o1,_,o4⟩=>by
   have kl:=f9 o1
   have f:∀ l:List T68,(∀ y∈l,(ah n y).length≤nb n)→(l.flatMap (ah n)).length≤l.length * nb n:=by
    intro l
    induction l with
    | nil=>intro _;simp
    | cons y r ih=>
      intro h
      rw [ϩ,υ,Ι,Ŭ]
      have:=h y (by simp);have:=ih (fun z hz=>h z (by simp [hz]));omega
   have h:=f (aq t) (fun y hy=>jo n y (o4 y hy))
   have:(aq t).length * nb n≤4 * nb n:=ū _ kl
   show ((aq t).flatMap (ah n)).length+1≤1+4 * nb n;omega
def dsI (l:List Int):List D:=l.map D.int
abbrev pB:S:=cX pP.body
theorem mM {n m:Nat} (ih:∀ (y:T68) (S:List O),Ok n y→ac Γ m jY [y.toD] S = .ok (.lst (dsI (ah n y))) S) (t:T68) (S:List O):∀ (r:List T68) (acc:List Int) (e2:Option D),(∀ y∈r,Ok n y)→acc.length+r.length * nb n≤100000→∃ e2':Option D,bo (hH Γ (ac Γ m) (bP Γ m) [2] true pB) (toDs r) ⟨[some t.toD,some (.lst (dsI acc)),e2],[1],S⟩ = .nx ⟨[some t.toD,some (.lst (dsI (acc ++ r.flatMap (ah n)))),e2'],[1],S⟩
 | [],acc,e2,_,_=>⟨e2,by simp [bo,toDs]⟩
 | y :: r,acc,e2,hr,hl=>by
   have oy:=hr y (by simp)
   have i1:=ih y S oy
   have pl:=jo n y oy
   simp only [Ι,Ŭ,Nat.one_mul] at hl
   obtain ⟨e2',h⟩:=mM ih t S r (acc ++ ah n y) (some y.toD) (fun z hz=>hr z (by simp [hz])) (by rw [υ];omega)
   have l0:decide ((dsI acc).length+(dsI (ah n y)).length≤100000)=true:=ZW (by unfold dsI;rw [Ν,Ν];omega)
   refine ⟨e2',ba (s1:=⟨[some t.toD,some (.lst (dsI (acc ++ ah n y))),some y.toD],[1],S⟩) (cq rfl ?_) ?_⟩
   ·have e:dsI (acc ++ ah n y)=dsI acc ++ dsI (ah n y):=by unfold dsI;exact Ô
    rw [e]
    exact (iV false (aX 0 (i1) (aX 0 (l0) aZ)) (by kernel_rfl))
   ·rw [h,Č,ϩ]
theorem iI:∀ (n m:Nat) (t:T68) (S:List O),n+4≤m→n≤8→Ok n t→ac Γ m jY [t.toD] S = .ok (.lst (dsI (ah n t))) S
 | 0,m,t,S,_,_,o=>o.elim
 | n+1,m,t,S,hm,h8,o=>by
   obtain ⟨m,rfl⟩:∃ k,m=k+5:=⟨m - 5,by omega⟩
   obtain ⟨o1,o2,o4⟩:=o
   have p0:=cM t (m+1) S
   have kl:=f9 o1
   have nb8:nb n≤5461:=by
    have:∀ k,k≤7→nb k≤5461:=by decide
    exact this n (by omega)
   have kn:(aq t).length * nb n≤4 * nb n:=ū _ kl
   obtain ⟨e2,lp⟩:=mM (m:=m+4) (fun y S o=>iI n (m+4) y S (by omega) (by omega) o) t S (aq t) [t.pl] none o4 (by simp only [ό];omega)
   exact (aa true (aX 0 (bT t S) (aX 0 (p0) (aX 0 (lp) aZ))) (by kernel_rfl))
theorem pY {β:Type} {l:AlG β} {x:Key} {k:β} (h:am l x=some k):∃ p∈l,p.2=k:=by
 induction l with
 | nil=>cases h
 | cons p r ih=>
   have h:(if p.1=x then some p.2 else am r x)=some k:=h
   by_cases c:p.1=x
   ·rw [ZZ c] at h;exact ⟨p,by simp,by cases h;rfl⟩
   ·rw [ZY c] at h;obtain ⟨q,hq,e⟩:=ih h;exact ⟨q,by simp [hq],e⟩
def lbl (p:Int) (w:List ν):D:=.tup [.int p,.str "in",.tup (sts w)]
def gr:Kd→D
 | .row _=>.tup [.str "row",.tup [.str "?"]]
 | .to _ _=>.tup [.str "to",.tup [.str "?"],.tup [.str "?"]]
 | k=>k.toD
abbrev gF:D:=.tup [.str "same"]
abbrev gI:D:=.tup [.non,gF,.non]
def bh (k:Kd) (l:D):D:=.tup [gr k,l]
def fz (k:Kd) (l:D):D:=.tup [.non,gF,bh k l]
def nE (k:Kd) (l:D):D:=.tup [bh k l,gF,.non]
def occ:Kd→Kd→Bool
 | .whole,.unt=>true | .truth,.unt=>true | .row .whole,.unt=>true | .row .truth,.unt=>true | .to .unt .whole,.unt=>true
 | .unt,.whole=>true | .unt,.truth=>true | .unt,.row .unt=>true | .unt,.to .unt .unt=>true | .unt,.row .whole=>true
 | _,_=>false
def hJ (k:Kd) (p:Int):D:=.tup [.str "row",fz k (lbl p ["item"])]
def xn (k:Kd) (p:Int):D:=.tup [.str "row",nE k (lbl p ["item"])]
def n7 (k:Kd) (p:Int):D:=.tup [.str "to",gI,fz k (lbl p ["res"])]
def mkD:Kd→Kd→Int→D
 | .row k,.unt,p=>.tup [.non,hJ k p,bh (.row k) (lbl p [])]
 | .to a k,.unt,p=>.tup [.non,n7 k p,bh (.to a k) (lbl p [])]
 | k,.unt,p=>fz k (lbl p [])
 | .unt,.row .whole,p=>.tup [bh (.row .whole) (lbl p []),xn .whole p,.non]
 | _,w,p=>nE w (lbl p [])
theorem uN (k w:Kd) (p:Int) (h:occ k w=true) (n:Nat) (S:List O):ac Γ (n+20) xE [k.toD,w.toD,.int p] S = .ok (mkD k w p) S:=by
 cases k with
 | whole=>cases w <;> first | (cases h;done) | kernel_rfl
 | truth=>cases w <;> first | (cases h;done) | kernel_rfl
 | unt=>cases w with
   | row k=>cases k <;> first | (cases h;done) | kernel_rfl
   | to a b=>cases a <;> cases b <;> first | (cases h;done) | kernel_rfl
   | whole=>kernel_rfl
   | truth=>kernel_rfl
   | unt=>cases h
 | row k=>cases k <;> cases w <;> first | (cases h;done) | kernel_rfl
 | to a b=>cases a <;> cases b <;> cases w <;> first | (cases h;done) | kernel_rfl
abbrev Rw:=Int×Kd×Kd
def rS (r:Rw):D:=.tup [.int r.1,r.2.1.toD,r.2.2.toD]
def fAt (a b:Al) (p:Int):Option Rw:=match am a (.inl p),am b (.inl p) with
 | some k,some w=>if k=w then none else some (p,k,w)
 | _,_=>none
def jf (a b:Al) (ps:List Int):List Rw:=ps.filterMap (fAt a b)
theorem vV {a b:Al} {p:Int} {r:Rw} (h:fAt a b p=some r):r.1=p:=by
 unfold fAt at h
 split at h
 ·split at h
  ·cases h
  ·cases h;rfl
 ·cases h
abbrev lE:E:=.tup (.cons (.v 0) (.cons (.ix (.v 3) (.v 0)) (.cons (.ix (.v 4) (.v 0)) .nil)))
abbrev lC:E:=.op .ne (.ix (.v 3) (.v 0)) (.ix (.v 4) (.v 0))
theorem je (m:Nat) (t:T68) (kd wd:Al) (h4:∀ p∈kd,p.2.dep≤4):∀ (ps:List Int) (acc:List D) (e:Option D),(∀ p∈ps,(am kd (.inl p)).isSome=true∧(am wd (.inl p)).isSome=true)→acc.length+ps.length<100000→∃ e':Option D,b6 (lcQ Γ (ac Γ m) (bP Γ m) [0] true lE lC) (dsI ps) acc ⟨[e,some t.toD,some (.tup [.ref 1,.ref 2]),some (.ref 1),some (.ref 2)],[],ls kd wd⟩ = .ok (.lst (acc ++ (jf kd wd ps).map rS)) ⟨[e',some t.toD,some (.tup [.ref 1,.ref 2]),some (.ref 1),some (.ref 2)],[],ls kd wd⟩
 | [],acc,e,_,_=>⟨e,by simp [dsI,b6,jf]⟩
 | p :: r,acc,e,hp,hl=>by
   simp only [Ι] at hl
   obtain ⟨h1,h2⟩:=hp p (by simp)
   obtain ⟨k,hk⟩:=Ă.mp h1
   obtain ⟨w,hw⟩:=Ă.mp h2
   have g1:ixD (dA kd) (.int p)=some k.toD:=by show b8 (ksA kd) (dsA kd) (.inl p)=_;rw [vY,hk];rfl
   have g2:ixD (dA wd) (.int p)=some w.toD:=by show b8 (ksA wd) (dsA wd) (.inl p)=_;rw [vY,hw];rfl
   have k4:k.dep≤55:=by obtain ⟨q,hq,e⟩:=pY hk;have:=h4 q hq;rw [e] at this;omega
   have ne:=Br k w k4 (ls kd wd)
   have cd:ev Γ (ac Γ m) (bP Γ m) true lC ⟨[some (.int p),some t.toD,some (.tup [.ref 1,.ref 2]),some (.ref 1),some (.ref 2)],[],ls kd wd⟩ = .ok (.bl (!decide (k=w))) ⟨[some (.int p),some t.toD,some (.tup [.ref 1,.ref 2]),some (.ref 1),some (.ref 2)],[],ls kd wd⟩:=(tC false (aX 0 (g1) (aX 0 (g2) (aX 0 (ne) aZ))) (by kernel_rfl))
   have at0:fAt kd wd p=if k=w then none else some (p,k,w):=by unfold fAt;rw [hk,hw]
   unfold jf
   rw [ϣ,at0]
   by_cases c:k=w
   ·obtain ⟨e',h⟩:=je m t kd wd h4 r acc (some (.int p)) (fun q hq=>hp q (by simp [hq])) (by omega)
    rw [ZZ c]
    rw [ZW c] at cd
    exact ⟨e',t0 (xO rfl cd) h⟩
   ·have el:ev Γ (ac Γ m) (bP Γ m) false lE ⟨[some (.int p),some t.toD,some (.tup [.ref 1,.ref 2]),some (.ref 1),some (.ref 2)],[],ls kd wd⟩ = .ok (rS (p,k,w)) ⟨[some (.int p),some t.toD,some (.tup [.ref 1,.ref 2]),some (.ref 1),some (.ref 2)],[],ls kd wd⟩:=(tC false (aX 0 (g1) (aX 0 (g2) aZ)) (by kernel_rfl))
    obtain ⟨e',h⟩:=je m t kd wd h4 r (acc ++ [rS (p,k,w)]) (some (.int p)) (fun q hq=>hp q (by simp [hq])) (by rw [υ,ό];omega)
    rw [ZY c]
    rw [ZV c] at cd
    rw [Č] at h
    exact ⟨e',t8 (xN rfl cd el) (by omega) h⟩
def mkR (r:Rw):D:=mkD r.2.1 r.2.2 r.1
abbrev dL (l:AlG Rw):D:=.dic (ksA l) (dsF mkR l)
def hZ (l:AlG Rw) (r:Rw):AlG Rw:=aF l (.inl r.1) r
abbrev mB:S:=cX iW.body
theorem mF (t:T68) (m:Nat) (S:List O):∀ (rs:List Rw) (l:AlG Rw) (e2 e3 e4:Option D),(∀ r∈rs,occ r.2.1 r.2.2=true)→l.length+rs.length<90000→∃ e2' e3' e4':Option D,bo (hH Γ (ac Γ (m+20)) (bP Γ (m+20)) [2,3,4] false mB) (rs.map rS) ⟨[some t.toD,some (dL l),e2,e3,e4],[1],S⟩ = .nx ⟨[some t.toD,some (dL (rs.foldl hZ l)),e2',e3',e4'],[1],S⟩
 | [],l,e2,e3,e4,_,_=>⟨e2,e3,e4,rfl⟩
 | r :: rs,l,e2,e3,e4,h,hl=>by
   simp only [Ι] at hl
   have mk:=uN r.2.1 r.2.2 r.1 (h r (by simp)) m S
   have pu:=rF mkR l (.int r.1) (.inl r.1) rfl r (by omega)
   have pl:=b7 l (.inl r.1) r
   obtain ⟨f2,f3,f4,hf⟩:=mF t m S rs (hZ l r) (some (.int r.1)) (some r.2.1.toD) (some r.2.2.toD) (fun x hx=>h x (by simp [hx])) (by show (aF l (.inl r.1) r).length+_<_;omega)
   exact ⟨f2,f3,f4,ba (s1:=⟨[some t.toD,some (dL (hZ l r)),some (.int r.1),some r.2.1.toD,some r.2.2.toD],[1],S⟩) (cq rfl (iV false (aX 0 (mk) (aX 0 (pu) aZ)) (by kernel_rfl))) hf⟩
theorem jN (F:Int→Option Rw) (p:Int):∀ (rs:List Rw) (l:AlG Rw),(∀ r∈rs,F r.1=some r)→am (rs.foldl hZ l) (.inl p)=if p∈rs.map (·.1) then F p else am l (.inl p)
 | [],l,_=>by simp
 | r :: rs,l,h=>by
   show am (rs.foldl hZ (hZ l r)) (.inl p)=_
   rw [jN F p rs (hZ l r) (fun x hx=>h x (by simp [hx]))]
   by_cases c:p∈rs.map (·.1)
   ·rw [ZZ c,ZZ (by simp only [Î,π];exact .inr c)]
   ·rw [ZY c]
    unfold hZ
    rw [dQ]
    by_cases e:r.1=p
    ·subst e
     rw [ZZ rfl,ZZ (by simp),h r (by simp)]
    ·rw [ZY (fun z=>e (Gh z)),ZY (by simp only [Î,π,not_or];exact ⟨Ϥ e,c⟩)]
theorem j5 {a b:Al} {ps:List Int} {p:Int} (hp:p∈ps):am ((jf a b ps).foldl hZ []) (.inl p)=fAt a b p:=by
 rw [jN (fAt a b) p _ [] (fun r hr=>by
  obtain ⟨x,_,e⟩:=Ż.mp hr
  rw [vV e];exact e)]
 cases q:fAt a b p with
 | none=>
   split
   ·rfl
   ·rfl
 | some r=>rw [ZZ (show p∈(jf a b ps).map (·.1) from ë.mpr ⟨r,Ż.mpr ⟨p,hp,q⟩,vV q⟩)]
def Oc:Nat→T68→Prop
 | 0,_=>True
 | q+1,t=>∀ i y,(aq t)[i]? = some y→(kof y=wnt t i∨occ (kof y) (wnt t i)=true)∧Oc q y
def lkO (pl:Bool) (k w:Kd) (p:Int):Option Rw:=if pl=true∨k=w then none else some (p,k,w)
def Ft (L:AlG Rw) (pl:Bool):Nat→T68→Prop
 | 0,_=>True
 | q+1,t=>∀ i y,(aq t)[i]? = some y→am L (.inl y.pl)=lkO pl (kof y) (wnt t i) y.pl∧Ft L pl q y
theorem pV:∀ (q:Nat) (t:T68),Ft [] true q t
 | 0,_=>trivial
 | q+1,t=>fun i y _=>⟨by unfold lkO;rw [ZZ (.inl rfl)];rfl,pV q y⟩
theorem wx {a b:Al}:∀ {q:Nat} {t:T68},RW q t a b→Oc q t→∀ p∈(ah q t).tail,∃ k w,am a (.inl p)=some k∧am b (.inl p)=some w∧(k=w∨occ k w=true)
 | 0,_,_,_,p,hp=>by cases hp
 | q+1,t,h,c,p,hp=>by
   obtain ⟨y,hy,hp⟩:=À.mp (show p∈(aq t).flatMap (ah q) from hp)
   obtain ⟨i,hi⟩:=Ë.mp hy
   obtain ⟨g1,g2,g3⟩:=h i y hi
   obtain ⟨c1,c2⟩:=c i y hi
   cases q with
   | zero=>cases hp
   | succ q=>
     rcases π.mp (show p∈y.pl :: (ah (q+1) y).tail from hp) with rfl | hp
     ·exact ⟨_,_,g1,g2,c1⟩
     ·exact wx g3 c2 p hp
theorem vX {a b:Al} {ps:List Int}:∀ {q:Nat} {t:T68},Ok q t→RW q t a b→(∀ p∈ah q t,p∈ps)→Ft ((jf a b ps).foldl hZ []) false q t
 | 0,_,o,_,_=>o.elim
 | q+1,t,o,h,hp=>fun i y hy=>by
   obtain ⟨g1,g2,g3⟩:=h i y hy
   have ym:=φ hy
   have oy:=o.2.2 y ym
   have sub:∀ p∈ah q y,p∈ps:=fun p h=>hp p (κ _ (À.mpr ⟨y,ym,h⟩))
   refine ⟨?_,vX oy g3 sub⟩
   rw [j5 (sub _ (cY oy.pos))]
   unfold fAt lkO
   rw [g1,g2]
   by_cases c:kof y=wnt t i
   ·simp [c]
   ·simp [c]
theorem nb8:nb 8=21845:=by decide
theorem gj {t:T68} (tk:Tk t) (oc:Oc 8 t) (o:Ok 8 t) (nd:(ah 8 t).Nodup) (n:Nat):∃ (L:AlG Rw) (st:List O),ac Γ (n+23) jb [t.toD] [] = .ok (dL L) st∧am L (.inl t.pl)=none∧Ft L false 8 t:=by
 have pn:=jo 8 t o
 rw [nb8] at pn
 obtain ⟨a,b,e⟩:=wE tk o (m:=n+20) (by omega) nd [] [] [] (by decide) (by simp only [ϯ];omega) (by simp only [ϯ];omega)
 have lb:=e.lb
 have ln:=e.r.ln
 simp only [ϯ] at lb ln
 have nn:ac Γ (n+20) dY [t.toD] [] = .ok .non []:=by
  have:=dG 8 (n+19) t [] [] (by omega) o (by decide)
  exact (aa false (aX 0 (this) aZ) (by kernel_rfl))
 have h1:=e.e
 have w1:=fK t (kof t) a b (by omega) (n+19)
 have pl:=iI 8 (n+21) t (ls a (aF b (.inl t.pl) (kof t))) (by omega) (by decide) o
 have lk:ac Γ (n+21) qt [t.toD] [] = .ok (.tup [.ref 1,.ref 2]) (ls a (aF b (.inl t.pl) (kof t))):=(aa false (aX 0 (nn) (aC (aX 0 (h1) (aX 0 (w1) aZ)))) (by kernel_rfl))
 have nt:=(ϔ.mp (show (t.pl :: (aq t).flatMap (ah 7)).Nodup from nd)).1
 have rw_:RW 8 t a (aF b (.inl t.pl) (kof t)):=fun i y hy=>by
  obtain ⟨g1,g2,g3⟩:=e.w i y hy
  have ym:=φ hy
  have oy:=o.2.2 y ym
  have ny:∀ p∈ah 7 y,p ∉ [t.pl]:=fun p hp h=>nt (À.mpr ⟨y,ym,(η.mp h) ▸ hp⟩)
  exact ⟨g1,(dH _ (ny _ (cY oy.pos))).trans g2,g3.un (ps:=[]) (fun _ _=>rfl) dH oy fun p hp=>⟨fun h=>(nomatch h),ny p hp⟩⟩
 have at_:∀ p∈ah 8 t,∃ k w,am a (.inl p)=some k∧am (aF b (.inl t.pl) (kof t)) (.inl p)=some w∧(k=w∨occ k w=true):=fun p hp=>by
  rcases π.mp (show p∈t.pl :: (ah 8 t).tail from hp) with rfl | hp
  ·exact ⟨_,_,e.k,cH,.inl rfl⟩
  ·exact wx rw_ oc p hp
 obtain ⟨e',lp⟩:=je (n+21) t a (aF b (.inl t.pl) (kof t)) (e.r.d4 fun p hp=>nomatch hp) (ah 8 t) [] none (fun p hp=>by obtain ⟨k,w,g1,g2,_⟩:=at_ p hp;rw [g1,g2];exact ⟨rfl,rfl⟩) (by simp only [ϯ];omega)
 rw [DT] at lp
 have lo:ac Γ (n+22) lj [t.toD] [] = .ok (.lst ((jf a (aF b (.inl t.pl) (kof t)) (ah 8 t)).map rS)) (ls a (aF b (.inl t.pl) (kof t))):=(aa true (aX 0 (lk) (aX 0 (pl) (aX 0 (lp) aZ))) (by kernel_rfl))
 have ll:(jf a (aF b (.inl t.pl) (kof t)) (ah 8 t)).length≤(ah 8 t).length:=List.length_filterMap_le _ _
 obtain ⟨f2,f3,f4,mk⟩:=mF t (n+2) (ls a (aF b (.inl t.pl) (kof t))) (jf a (aF b (.inl t.pl) (kof t)) (ah 8 t)) [] none none none (fun r hr=>by
  obtain ⟨p,hp,e⟩:=Ż.mp hr
  obtain ⟨k,w,g1,g2,g3⟩:=at_ p hp
  unfold fAt at e
  rw [g1,g2] at e
  by_cases c:k=w
  ·simp [c] at e
  ·simp [c] at e
   subst e
   exact g3.resolve_left c) (by simp only [ϯ];omega)
 refine ⟨_,ls a (aF b (.inl t.pl) (kof t)),(aa true (aX 0 (lo) (aX 0 (mk) aZ)) (by kernel_rfl)),?_,vX o rw_ fun _ h=>h⟩
 rw [j5 (cY (by decide))]
 unfold fAt
 rw [e.k,cH]
 simp
inductive Fl where
 | n (i:Int) | t (b:Bool)
def Fl.hd:Fl→ν
 | .n _=>"whole" | .t _=>"truth"
def Fl.held:Fl→D
 | .n i=>.int i | .t b=>.bl b
abbrev vl (h:ν) (d:D) (g:List D) (t:D):D:=.ins 2 [.str h,d,.tup g,t]
def fD (x:Fl):D:=vl x.hd x.held [] .non
inductive Gd where
 | no | tag (k:Kd) (p:Int) | bad (p q:Int)
def brk (p q:Int):D:=.tup [.non,.tup [.str "broken",bh .truth (lbl p ["item"]),bh .whole (lbl q ["item"])],.non]
def gds (tg pl:Bool):Gd→List D
 | .no=>[]
 | .tag k p=>if pl then [] else [hJ k p]
 | .bad p q=>if pl then [] else if tg then [.tup [.str "row",brk p q]] else [hJ .truth p,xn .whole q]
inductive V where
 | fl (x:Fl) | row (g:Gd) (xs:List Fl) | to (p:Int) (x:ν) (b:T68) (g:Option Int)
def V.hd:V→ν
 | .fl x=>x.hd | .row ..=>"row" | .to ..=>"to"
def V.held:V→D
 | .fl x=>x.held | .row _ xs=>.tup (xs.map fD) | .to p x b _=>.tup [(T68.fn p x .unt b).toD,.dic [] []]
def V.gs (tg pl:Bool):V→List D
 | .fl _=>[] | .row g _=>gds tg pl g | .to _ _ _ (some p)=>if pl then [] else [n7 .whole p] | _=>[]
def vD (tg pl:Bool) (v:V):D:=vl v.hd v.held (v.gs tg pl) .non
def vW (tg pl:Bool) (v:V) (k:Kd) (l:D):D:=vl v.hd v.held (v.gs tg pl) (if pl then .non else bh k l)
def V.hide (k:Kd) (p:Int):V→V
 | .fl x=>.fl x | .row _ xs=>.row (.tag k.item p) xs | .to q x b _=>.to q x b (some p)
inductive eK:V→Kd→Prop
 | n {i}:eK (.fl (.n i)) .whole
 | t {b}:eK (.fl (.t b)) .truth
 | row {xs k}:eK (.row .no xs) (.row k)
 | to {p x b}:eK (.to p x b none) (.to .unt .whole)
def ws (L:AlG Rw) (tg:Bool) (ns:List Int) (c:Nat) (nt:List D):List O:=[.ins 4 [dL L,.lst (ns.map .int),.ref 1],.ins 3 [.int c,.bl tg,.ref 2],.lst nt]
section
variable {L:AlG Rw} {tg:Bool} {ns:List Int} {c n:Nat} {nt:List D}
def bl (wd:D) (wl:D) (fd fl:D):D:=.tup [.str "blame",wl,wd,fl,fd]
theorem few (h:nt.length<90000):decide (nt.length<100000)=true:=ZW (by omega)
theorem yO (hl:nt.length<90000) (h:ν) (d:D) (k:Kd) (l:D):ac Γ (n+9) cJ [.ref 1,vl h d [] (bh k l)] (ws L tg ns c nt) = .ok .non (ws L tg ns c (nt ++ [.tup [.int 0,.non,bh k l]])):=(aa false (aX 11 (few hl) aZ) (by kernel_rfl))
theorem yN (hl:nt.length<90000) (h:ν) (d:D) (x:D) (xs:List D) (t:D):ac Γ (n+9) cJ [.ref 1,vl h d [.tup (x :: xs)] t] (ws L tg ns c nt) = .ok .non (ws L tg ns c (nt ++ [.tup [.int 1,.tup (x :: xs),t]])):=(aa false (aX 12 (few hl) aZ) (by kernel_rfl))
theorem BB (hl:nt.length<90000) (h:ν) (d:D) (g x:D) (xs:List D) (t:D):ac Γ (n+9) cJ [.ref 1,vl h d [g,.tup (x :: xs)] t] (ws L tg ns c nt) = .ok .non (ws L tg ns c (nt ++ [.tup [.int 2,.tup (x :: xs),t]])):=(aa false (aX 12 (few hl) aZ) (by kernel_rfl))
theorem fW (hl:nt.length<90000) (h:ν) (d:D) (k:Kd) (l:D):∃ x,ac Γ (n+10) ai [.ref 1,vl h d [] .non,fz k l] (ws L tg ns c nt) = .ok (vl h d [] (bh k l)) (ws L tg ns c (nt ++ [x])):=
 ⟨.tup [.int 0,.non,bh k l],(aa false (aC (aC (aX 0 (yO (n:=n) (L:=L) (tg:=tg) (ns:=ns) (c:=c) hl h d k l) aZ))) (by kernel_rfl))⟩
theorem qe (x:D) (xs:List D) (e:opD .eq (.tup (x :: xs)) gF=some (.bl false)):ac Γ (n+9) dq [.ref 1,.tup [],.tup (x :: xs)] (ws L tg ns c nt) = .ok (.tup [.tup (x :: xs)]) (ws L tg ns c nt):=by
 cases tg <;> exact (aa false (aX 0 (e) aZ) (by kernel_rfl))
theorem xu (hl:nt.length<90000) (d:D) (k:Kd) (p:Int):∃ x,ac Γ (n+10) ai [.ref 1,vl "row" d [] .non,mkD (.row k) .unt p] (ws L tg ns c nt) = .ok (vl "row" d [hJ k p] (bh (.row k) (lbl p []))) (ws L tg ns c (nt ++ [x])):=by
 exact ⟨.tup [.int 1,hJ k p,bh (.row k) (lbl p [])],(aa false (aC (aX 0 (qe (n:=n) (L:=L) (tg:=tg) (ns:=ns) (c:=c) (nt:=nt) (.str "row") [fz k (lbl p ["item"])] rfl) (aX 0 (yN (n:=n) (L:=L) (tg:=tg) (ns:=ns) (c:=c) hl "row" d (.str "row") [fz k (lbl p ["item"])] (bh (.row k) (lbl p []))) aZ))) (by kernel_rfl))⟩
theorem AQ (hl:nt.length<90000) (d:D) (a k:Kd) (p:Int):∃ x,ac Γ (n+10) ai [.ref 1,vl "to" d [] .non,mkD (.to a k) .unt p] (ws L tg ns c nt) = .ok (vl "to" d [n7 k p] (bh (.to a k) (lbl p []))) (ws L tg ns c (nt ++ [x])):=by
 exact ⟨.tup [.int 1,n7 k p,bh (.to a k) (lbl p [])],(aa false (aC (aX 0 (qe (n:=n) (L:=L) (tg:=tg) (ns:=ns) (c:=c) (nt:=nt) (.str "to") [gI,fz k (lbl p ["res"])] rfl) (aX 0 (yN (n:=n) (L:=L) (tg:=tg) (ns:=ns) (c:=c) hl "to" d (.str "to") [gI,fz k (lbl p ["res"])] (bh (.to a k) (lbl p []))) aZ))) (by kernel_rfl))⟩
def hK:Kd→Nat
 | .whole=>0 | .truth=>1 | .unt=>2 | .to _ _=>3 | .row _=>4
theorem AO {k w:Kd} (h:hK k=hK w) (S:List O):opD .ne (look S (gr k)) (look S (gr w))=some (.bl false):=by
 cases k <;> cases w <;> first | (cases h;done) | kernel_rfl
theorem AP {k w:Kd} (h:hK k≠hK w) (S:List O):opD .ne (look S (gr k)) (look S (gr w))=some (.bl true):=by
 cases k <;> cases w <;> first | exact ZX rfl h | kernel_rfl
theorem Bs {k w:Kd} (e:hK k=hK w) (l l':D):ac Γ (n+9) dB [bh k l,bh w l'] (ws L tg ns c nt) = .ok .non (ws L tg ns c nt):=(aa false (aX 2 (AO e (ws L tg ns c nt)) aZ) (by kernel_rfl))
theorem Bt {k w:Kd} (e:hK k≠hK w) (l l':D):ac Γ (n+9) dB [bh k l,bh w l'] (ws L tg ns c nt) = .exc 1 [bl (gr w) l' (gr k) l] (ws L tg ns c nt):=(aa false (aX 2 (AP e (ws L tg ns c nt)) (aC aZ)) (by kernel_rfl))
theorem p8 (h:ν) (d:D) (g:List D) {k w:Kd} (e:hK k=hK w) (l l':D):ac Γ (n+10) ai [.ref 1,vl h d g (bh k l),nE w l'] (ws L tg ns c nt) = .ok (vl h d g .non) (ws L tg ns c nt):=
 (aa false (aX 0 (Bs (n:=n) (L:=L) (tg:=tg) (ns:=ns) (c:=c) (nt:=nt) e l l') (aC (aC aZ))) (by kernel_rfl))
theorem v7 (h:ν) (d:D) (g:List D) {k w:Kd} (e:hK k≠hK w) (l l' b:D):ac Γ (n+10) ai [.ref 1,vl h d g (bh k l),.tup [bh w l',b,.non]] (ws L tg ns c nt) = .exc 1 [bl (gr w) l' (gr k) l] (ws L tg ns c nt):=
 (aa false (aX 0 (Bt (n:=n) (L:=L) (tg:=tg) (ns:=ns) (c:=c) (nt:=nt) e l l') aZ) (by kernel_rfl))
theorem xq (hl:nt.length<90000) (d:D) (p q:Int):∃ x,ac Γ (n+10) ai [.ref 1,vl "row" d [hJ .truth p] (bh (.row .truth) (lbl p [])),mkD .unt (.row .whole) q] (ws L tg ns c nt) = .ok (vl "row" d (gds tg false (.bad p q)) .non) (ws L tg ns c (nt ++ [x])):=by
 cases tg with
 | false=>exact ⟨.tup [.int 2,xn .whole q,.non],(aa false (aC (aC (aC (aX 0 (BB (n:=n) (L:=L) (tg:=false) (ns:=ns) (c:=c) hl "row" d (hJ .truth p) (.str "row") [nE .whole (lbl q ["item"])] .non) aZ)))) (by kernel_rfl))⟩
 | true=>exact ⟨.tup [.int 1,.tup [.str "row",brk p q],.non],(aa false (aC (aC (aC (aX 0 (yN (n:=n) (L:=L) (tg:=true) (ns:=ns) (c:=c) hl "row" d (.str "row") [brk p q] .non) aZ)))) (by kernel_rfl))⟩
theorem p9 (h:ν) (d:D) (g:List D) (t:D):ac Γ (n+10) ai [.ref 1,vl h d g t,gI] (ws L tg ns c nt) = .ok (vl h d g t) (ws L tg ns c nt):=by kernel_rfl
theorem tL (hl:nt.length<90000) {v:V} {k:Kd} (f:eK v k) (p:Int):∃ x,ac Γ (n+10) ai [.ref 1,vD tg false v,mkD k .unt p] (ws L tg ns c nt) = .ok (vW tg false (v.hide k p) k (lbl p [])) (ws L tg ns c (nt ++ [x])):=by
 cases f with
 | n=>exact fW hl "whole" _ .whole (lbl p [])
 | t=>exact fW hl "truth" _ .truth (lbl p [])
 | row=>exact xu hl _ _ p
 | to=>exact AQ hl _ .unt .whole p
theorem wD (xs:List Fl) (i:Nat) (x:Fl) (h:xs[i]? = some x):ac Γ (n+12) bQ [vl "row" (.tup (xs.map fD)) [] .non,.int i,.ref 1] (ws L tg ns c nt) = .ok (fD x) (ws L tg ns c nt):=by
 have hi:ixD (.tup (xs.map fD)) (.int (i:Int))=some (fD x):=dP (by rw [ϋ,h];rfl)
 exact (aa false (aX 5 (hi) (aC (aC aZ))) (by kernel_rfl))
theorem kX {nt':List D} {v lk v':D} (g:ac Γ (n+10) ai [.ref 1,v,lk] (ws L tg ns c nt) = .ok v' (ws L tg ns c nt')):ac Γ (n+11) bf [.ref 1,v,.lst [lk]] (ws L tg ns c nt) = .ok v' (ws L tg ns c nt'):=(aa false (aX 0 (g) aZ) (by kernel_rfl))
theorem tI {nt':List D} {v lk:D} {e:List D} (g:ac Γ (n+10) ai [.ref 1,v,lk] (ws L tg ns c nt) = .exc 1 e (ws L tg ns c nt')):ac Γ (n+11) bf [.ref 1,v,.lst [lk]] (ws L tg ns c nt) = .exc 1 e (ws L tg ns c nt'):=(aa false (aX 0 (g) aZ) (by kernel_rfl))
theorem tJ {nt1 nt':List D} {v lk v1 lk2:D} {e:List D} (g:ac Γ (n+10) ai [.ref 1,v,lk] (ws L tg ns c nt) = .ok v1 (ws L tg ns c nt1)) (g2:ac Γ (n+10) ai [.ref 1,v1,lk2] (ws L tg ns c nt1) = .exc 1 e (ws L tg ns c nt')):ac Γ (n+11) bf [.ref 1,v,.lst [lk,lk2]] (ws L tg ns c nt) = .exc 1 e (ws L tg ns c nt'):=(aa false (aX 0 (g) (aX 0 (g2) aZ)) (by kernel_rfl))
theorem zE (hl:nt.length<90000) (xs:List Fl) (i:Nat) (x:Fl) (h:xs[i]? = some x) (k:Kd) (p:Int):∃ y,ac Γ (n+12) bQ [vl "row" (.tup (xs.map fD)) [hJ k p] .non,.int i,.ref 1] (ws L tg ns c nt) = .ok (vl x.hd x.held [] (bh k (lbl p ["item"]))) (ws L tg ns c (nt ++ [y])):=by
 have hi:ixD (.tup (xs.map fD)) (.int (i:Int))=some (fD x):=dP (by rw [ϋ,h];rfl)
 obtain ⟨y,g⟩:=fW (L:=L) (tg:=tg) (ns:=ns) (c:=c) (n:=n) hl x.hd x.held k (lbl p ["item"])
 exact ⟨y,(aa false (aX 5 (hi) (aC (aX 0 (kX g) aZ))) (by kernel_rfl))⟩
theorem zB (hl:nt.length<90000) (xs:List Fl) (i:Nat) (x:Fl) (h:xs[i]? = some x) (p q:Int):∃ st,ac Γ (n+12) bQ [vl "row" (.tup (xs.map fD)) (gds tg false (.bad p q)) .non,.int i,.ref 1] (ws L tg ns c nt) = .exc 1 [bl (gr .whole) (lbl q ["item"]) (gr .truth) (lbl p ["item"])] st:=by
 have hi:ixD (.tup (xs.map fD)) (.int (i:Int))=some (fD x):=dP (by rw [ϋ,h];rfl)
 cases tg with
 | false=>
   obtain ⟨y,g⟩:=fW (L:=L) (tg:=false) (ns:=ns) (c:=c) (n:=n) hl x.hd x.held .truth (lbl p ["item"])
   have g2:=v7 (L:=L) (tg:=false) (ns:=ns) (c:=c) (n:=n) (nt:=nt ++ [y]) x.hd x.held [] (k:=.truth) (w:=.whole) (by decide) (lbl p ["item"]) (lbl q ["item"]) gF
   exact ⟨ws L false ns c (nt ++ [y]),(aa false (aX 5 (hi) (aC (aX 0 (tJ g g2) aZ))) (by kernel_rfl))⟩
 | true=>
   have g:ac Γ (n+10) ai [.ref 1,vl x.hd x.held [] .non,brk p q] (ws L true ns c nt) = .exc 1 [bl (gr .whole) (lbl q ["item"]) (gr .truth) (lbl p ["item"])] (ws L true ns c nt):=by kernel_rfl
   exact ⟨ws L true ns c nt,(aa false (aX 5 (hi) (aC (aX 0 (tI g) aZ))) (by kernel_rfl))⟩
end
def eNo (p:Int):D:=.tup [.str "fault",.int p,.str "none"]
def eGr (p:Int):D:=.tup [.str "fault",.int p,.str "great"]
def eSp:D:=.tup [.str "spent"]
def big (x p:Int):Except D Fl:=if 10 ^ 40≤x.natAbs then .error (eGr p) else .ok (.n x)
def oM (p:Int):Sg→Int→Int→Except D Fl
 | .add,i,j=>big (i+j) p
 | .sub,i,j=>big (i - j) p
 | .mul,i,j=>big (i * j) p
 | .lt,i,j=>.ok (.t (decide (i<j)))
 | .eq,i,j=>.ok (.t (decide (i=j)))
def BJ (r:Except D Fl) (S:List O):Res:=match r with
 | .ok x=>.ok (fD x) S
 | .error e=>.exc 1 [e] S
theorem r6 {x:Int} (h:x.natAbs<10 ^ 81):biD .str [.int x]=some (.str (ϧ (toString x))):=by
 have c:x.natAbs.log2<1920:=by
  by_cases z:x.natAbs=0
  ·rw [z];decide
  ·exact Í ((F4 z).mpr (Í h (show 10 ^ 81≤2 ^ 270 by decide +kernel))) (by decide)
 show (if x.natAbs.log2<1920 then _ else _)=_
 rw [ZZ c]
theorem l9 (k:Nat):40<(toString (k:Int)).length↔10 ^ 40≤k:=by
 have e:toString ((k:Nat):Int)=Nat.repr k:=rfl
 have h:=EM (n:=k) (k:=40) (by decide)
 rw [e]
 constructor
 ·intro z;exact G3 fun w=>ZX (h.mpr w) (by omega)
 ·intro z;exact Nat.lt_of_not_le fun w=>ZX (h.mp w) (by omega)
theorem xd {k:Nat} (h:k<10 ^ 81):(toString (k:Int)).length≤100000:=by
 have e:toString ((k:Nat):Int)=Nat.repr k:=rfl
 rw [e]
 exact Ϣ ((EM (n:=k) (k:=81) (by decide)).mpr h) (by decide)
theorem yH {i j:Int} (hi:i.natAbs<10 ^ 40) (hj:j.natAbs<10 ^ 40):opD .mul (.int i) (.int j)=some (.int (i * j)):=by
 have e:(10:Nat) ^ 40<2 ^ 400:=by decide +kernel
 show (if _ then _ else _)=_
 rw [ZZ (.inr ⟨EL hi e,EL hj e⟩)]
def wC (s:Sg) (i j:Int):Int:=match s with | .add=>i+j | .sub=>i - j | _=>i * j
theorem C9 (s:Sg) (i j:Int) (hi:i.natAbs<10 ^ 40) (hj:j.natAbs<10 ^ 40) (hs:s≠.lt∧s≠.eq) (n:Nat) (st:List O):ac Γ (n+1) dZ [.str s.str,.int i,.int j] st = .ok (.int (wC s i j)) st:=by
 cases s with
 | add=>kernel_rfl
 | sub=>kernel_rfl
 | mul=>exact cA false [.o 4 (.int (i * j))] (yH hi hj<|>Z) (by kernel_rfl)
 | lt=>exact ZX rfl hs.1
 | eq=>exact ZX rfl hs.2
theorem xe (i j:Int):eqv 55 (.int i) (.int j)=some (decide (i=j)):=by
 show some (i == j)=_
 congr 1
theorem y8 (p:Int) (s:Sg) (a b:T68) (i j:Int) (hi:i.natAbs<10 ^ 40) (hj:j.natAbs<10 ^ 40) (n:Nat) (st:List O):ac Γ (n+2) fZ [(T68.bin p s a b).toD,.int i,.int j] st=BJ (oM p s i j) st:=by
 have arith:(s≠.lt∧s≠.eq)→(x:Int)→x=wC s i j→oM p s i j=big x p→ac Γ (n+2) fZ [(T68.bin p s a b).toD,.int i,.int j] st=BJ (oM p s i j) st:=by
  intro hs x ex eb
  have hx:x.natAbs<10 ^ 81:=by
   subst ex
   cases s with
   | add=>show (i+j).natAbs<_;have e:(10:Nat) ^ 40+10 ^ 40≤10 ^ 81:=by decide +kernel
          omega
   | sub=>show (i - j).natAbs<_;have e:(10:Nat) ^ 40+10 ^ 40≤10 ^ 81:=by decide +kernel
          omega
   | mul=>
     show (i * j).natAbs<_
     rw [GQ]
     exact Í (Nat.mul_lt_mul'' hi hj) (by decide +kernel)
   | lt=>exact ZX rfl hs.1
   | eq=>exact ZX rfl hs.2
  have h1:=C9 s i j hi hj hs n st
  rw [← ex] at h1
  have ab:biD .abs [.int x]=some (.int (x.natAbs:Int)):=by
   show some (D.int (if x<0 then -x else x))=_
   congr 2
   split <;> omega
  have h2:=r6 (x:=(x.natAbs:Int)) (by rw [Int.natAbs_natCast];exact hx)
  have h3:biD .len [.str (ϧ (toString (x.natAbs:Int)))]=some (.int ((toString (x.natAbs:Int)).length:Nat)):=by
   show (if (ϧ (toString (x.natAbs:Int))).length≤100000 then _ else _)=_
   rw [EA,ZZ (xd hx)]
  rw [eb]
  unfold big
  by_cases c:x.natAbs<10 ^ 40
  ·rw [ZY (by omega)]
   have h4:decide ((40:Int)<((toString (x.natAbs:Int)).length:Nat))=false:=ZV (fun z=>by have:=(l9 x.natAbs).mp (by omega);omega)
   cases s with
   | lt=>exact ZX rfl hs.1
   | eq=>exact ZX rfl hs.2
   | _=>exact cA false [.r (.ok (.int x) st),.o 0 (.int (x.natAbs:Int)),.o 0 (.str (ϧ (toString (x.natAbs:Int)))),.o 0 (.int ((toString (x.natAbs:Int)).length:Nat)),.t 1 false,.r (.ok (fD (.n x)) st)] (h1<|>ab<|>h2<|>h3<|>h4<|>jF n st (.str "whole") (.int x)<|>Z) (by kernel_rfl)
  ·rw [ZZ (by omega)]
   have h4:decide ((40:Int)<((toString (x.natAbs:Int)).length:Nat))=true:=ZW (by have:=(l9 x.natAbs).mpr (by omega);omega)
   cases s with
   | lt=>exact ZX rfl hs.1
   | eq=>exact ZX rfl hs.2
   | _=>exact cA false [.r (.ok (.int x) st),.o 0 (.int (x.natAbs:Int)),.o 0 (.str (ϧ (toString (x.natAbs:Int)))),.o 0 (.int ((toString (x.natAbs:Int)).length:Nat)),.t 1 true] (h1<|>ab<|>h2<|>h3<|>h4<|>Z) (by kernel_rfl)
 cases s with
 | lt=>exact cA false [.r (.ok (fD (.t (decide (i<j)))) st)] (jF n st (.str "truth") (.bl (decide (i<j)))<|>Z) (by kernel_rfl)
 | eq=>exact cA false [.o 5 (.bl (decide (i=j))),.r (.ok (fD (.t (decide (i=j)))) st)] ((ZS (Option.map D.bl) (xe i j))<|>jF n st (.str "truth") (.bl (decide (i=j)))<|>Z) (by kernel_rfl)
 | add=>exact arith ⟨by decide,by decide⟩ _ rfl rfl
 | sub=>exact arith ⟨by decide,by decide⟩ _ rfl rfl
 | mul=>exact arith ⟨by decide,by decide⟩ _ rfl rfl
abbrev nm0:D:=.dic [] []
abbrev lU (y:T68) (acc:List D) (e6 e7 e8:Option D):List (Option D):=[some (.ref 0),some y.toD,some nm0,some (.str y.word),none,some (.lst acc),e6,e7,e8]
abbrev vG (m:Nat):D→Sta→av:=hH Γ (ac Γ (m+10)) (bP Γ (m+10)) [6,7] false (cX aL.body)
inductive Rl where
 | ok (vs:List D) (c:Nat) (nt:List D) | er (e:D) (st:List O)
def Rl.put (v:D):Rl→Rl
 | .ok vs c nt=>.ok (v :: vs) c nt
 | r=>r
section
variable {L:AlG Rw} {tg:Bool} {ns:List Int}
inductive Pr (L:AlG Rw) (tg:Bool) (ns:List Int) (m:Nat) (y:T68):Nat→List T68→Nat→List D→Rl→Prop
 | nil {i c nt}:Pr L tg ns m y i [] c nt (.ok [] c nt)
 | go {i:Nat} {z zs c nt v c1 nt1 r r'} (h:ac Γ (m+10) aA [.ref 0,z.toD,nm0] (ws L tg ns c nt) = .ok v (ws L tg ns c1 nt1)) (hn:∀ S,ac Γ (m+10) fe [y.toD,.int i,v] S = .ok .non S) (hr:Pr L tg ns m y (i+1) zs c1 nt1 r) (e:r'=r.put v):Pr L tg ns m y i (z :: zs) c nt r'
 | er {i z zs c nt e st} (h:ac Γ (m+10) aA [.ref 0,z.toD,nm0] (ws L tg ns c nt) = .exc 1 [e] st):Pr L tg ns m y i (z :: zs) c nt (.er e st)
def LpO (L:AlG Rw) (tg:Bool) (ns:List Int) (y:T68) (acc:List D) (o:av):Rl→Prop
 | .ok vs c' nt'=>∃ e6 e7 e8,o = .nx ⟨lU y (acc ++ vs) e6 e7 e8,[5],ws L tg ns c' nt'⟩
 | .er e st=>∃ env ow,o = .exc 1 [e] ⟨env,ow,st⟩
theorem gN {m:Nat} {y:T68} {i:Nat} {zs:List T68} {c:Nat} {nt:List D} {r:Rl} (h:Pr L tg ns m y i zs c nt r):∀ (acc:List D) (e6 e7 e8:Option D),acc.length=i→i+zs.length<1000→LpO L tg ns y acc (bo (vG m) (bM i (toDs zs)) ⟨lU y acc e6 e7 e8,[5],ws L tg ns c nt⟩) r:=by
 induction h with
 | nil=>exact fun acc e6 e7 e8 _ _=>⟨e6,e7,e8,by rw [Ω];rfl⟩
 | @er i z zs c nt e st h=>
   intro acc e6 e7 e8 _ _
   have q:vG m (.tup [.int i,z.toD]) ⟨lU y acc e6 e7 e8,[5],ws L tg ns c nt⟩ = .exc 1 [e] ⟨lU y acc (some (.int i)) (some z.toD) e8,[5],st⟩:=cq rfl (iV false (aX 0 (h) aZ) (by kernel_rfl))
   exact ⟨_,_,pU q fun s z=>by cases z⟩
 | @go i z zs c nt v c1 nt1 r r' h hn hr e ih=>
   intro acc e6 e7 e8 ha hl
   rw [Ι] at hl
   have h2:=hn (ws L tg ns c1 nt1)
   have l0:decide (acc.length<100000)=true:=ZW (by omega)
   have st:vG m (.tup [.int i,z.toD]) ⟨lU y acc e6 e7 e8,[5],ws L tg ns c nt⟩ = .nx ⟨lU y (acc ++ [v]) (some (.int i)) (some z.toD) (some v),[5],ws L tg ns c1 nt1⟩:=cq rfl (iV false (aX 0 (h) (aX 0 (h2) (aX 0 (l0) aZ))) (by kernel_rfl))
   have ih:=ih (acc ++ [v]) (some (.int i)) (some z.toD) (some v) (by rw [υ,ό,ha]) (by omega)
   subst e
   cases r with
   | ok vs c2 nt2=>
     obtain ⟨a,b,d,q⟩:=ih
     rw [Č] at q
     exact ⟨a,b,d,ba st q⟩
   | er e2 st2=>
     obtain ⟨a,b,q⟩:=ih
     exact ⟨a,b,ba st q⟩
def gone:T68→Prop
 | .call _ _ _=>True
 | .bin _ _ _ _=>True
 | .as_ _ _ _=>True
 | .row _ _ _=>True
 | .att _ _ _=>True
 | .size _ _=>True
 | _=>False
theorem xv {y:T68} (hg:gone y) (n:Nat) (S:List O):exS Γ (ac Γ n) (bP Γ n) (hdS 4 aL.body) ⟨[some (.ref 0),some y.toD,some nm0,none,none,none,none,none,none],[],S⟩ = .nx ⟨lU y [] none none none,[5],S⟩:=by
 cases y <;> first | exact hg.elim | kernel_rfl
variable {m:Nat} {y:T68} {c c1:Nat} {nt nt1:List D}
theorem B8 (hg:gone y) (hl:(aq y).length<900) {e:D} {st:List O} (h:Pr L tg ns m y 0 (aq y) c nt (.er e st)):ac Γ (m+11) aj [.ref 0,y.toD,nm0] (ws L tg ns c nt) = .exc 1 [e] st:=by
 obtain ⟨env,ow,hf⟩:=gN h [] none none none rfl (by omega)
 have hp:=cM y (m+7) (ws L tg ns c nt)
 exact eM 4 aL rfl rfl (xv hg _ _) (pM true (aX 0 (hp) (aX 0 (hf) aZ)) (by kernel_rfl))
theorem B9 (hg:gone y) (hw:(y.word == ("call":ν))=false) (hl:(aq y).length<900) {vs:List D} (h:Pr L tg ns m y 0 (aq y) c nt (.ok vs c1 nt1)) {v:D} {S:List O} (hd:ac Γ (m+10) ja [y.toD,.lst vs,.ref 1] (ws L tg ns c1 nt1) = .ok v S):ac Γ (m+11) aj [.ref 0,y.toD,nm0] (ws L tg ns c nt) = .ok v S:=by
 obtain ⟨a,b,d,hf⟩:=gN h [] none none none rfl (by omega)
 have hp:=cM y (m+7) (ws L tg ns c nt)
 exact eM 4 aL rfl rfl (xv hg _ _) (pM true (aX 0 (hp) (aX 0 (hf) (aX 1 (hw) (aX 0 (hd) aZ)))) (by kernel_rfl))
theorem B7 (hg:gone y) (hw:(y.word == ("call":ν))=false) (hl:(aq y).length<900) {vs:List D} (h:Pr L tg ns m y 0 (aq y) c nt (.ok vs c1 nt1)) {e:D} {S:List O} (hd:ac Γ (m+10) ja [y.toD,.lst vs,.ref 1] (ws L tg ns c1 nt1) = .exc 1 [e] S):ac Γ (m+11) aj [.ref 0,y.toD,nm0] (ws L tg ns c nt) = .exc 1 [e] S:=by
 obtain ⟨a,b,d,hf⟩:=gN h [] none none none rfl (by omega)
 have hp:=cM y (m+7) (ws L tg ns c nt)
 exact eM 4 aL rfl rfl (xv hg _ _) (pM true (aX 0 (hp) (aX 0 (hf) (aX 1 (hw) (aX 0 (hd) aZ)))) (by kernel_rfl))
theorem mZ {p:Int} {f a:T68} {u w:D} (h:Pr L tg ns m (.call p f a) 0 [f,a] c nt (.ok [u,w] c1 nt1)) {v:D} {S:List O} (hd:ac Γ (m+10) aU [.ref 0,u,w] (ws L tg ns c1 nt1) = .ok v S):ac Γ (m+11) aj [.ref 0,(T68.call p f a).toD,nm0] (ws L tg ns c nt) = .ok v S:=by
 obtain ⟨a6,b,d,hf⟩:=gN h [] none none none rfl (by simp)
 have hp:=cM (.call p f a) (m+7) (ws L tg ns c nt)
 exact (aa true (aX 0 (hp) (aX 0 (hf) (aX 0 (hd) aZ))) (by kernel_rfl))
theorem B6 {p:Int} {f a:T68} {u w:D} (h:Pr L tg ns m (.call p f a) 0 [f,a] c nt (.ok [u,w] c1 nt1)) {e:D} {S:List O} (hd:ac Γ (m+10) aU [.ref 0,u,w] (ws L tg ns c1 nt1) = .exc 1 [e] S):ac Γ (m+11) aj [.ref 0,(T68.call p f a).toD,nm0] (ws L tg ns c nt) = .exc 1 [e] S:=by
 obtain ⟨a6,b,d,hf⟩:=gN h [] none none none rfl (by simp)
 have hp:=cM (.call p f a) (m+7) (ws L tg ns c nt)
 exact (aa true (aX 0 (hp) (aX 0 (hf) (aX 0 (hd) aZ))) (by kernel_rfl))
theorem xz (L:AlG Rw) (p:Int):opD .isin (.int p) (dL L)=some (.bl (am L (.inl p)).isSome):=by
 show some (D.bl (b8 (ksA L) (dsF mkR L) (.inl p)).isSome)=_
 rw [mq]
 cases am L (.inl p) <;> rfl
theorem zY {p:Int} {r:Rw} (h:am L (.inl p)=some r):ixD (dL L) (.int p)=some (mkR r):=by
 show b8 (ksA L) (dsF mkR L) (.inl p)=_
 rw [mq,h];rfl
variable {N v:D}
theorem iS (hL:am L (.inl y.pl)=none) (hv:ac Γ (m+11) aj [.ref 0,y.toD,N] (ws L tg ns c nt) = .ok v (ws L tg ns c1 nt1)):ac Γ (m+12) aA [.ref 0,y.toD,N] (ws L tg ns c nt) = .ok v (ws L tg ns c1 nt1):=by
 have hi:=xz L y.pl
 rw [hL] at hi
 exact (aa false (aX 0 (hv) (aX 0 (bT y (ws L tg ns c1 nt1)) (aX 1 (hi) aZ))) (by kernel_rfl))
theorem xb {e:D} {S:List O} (hv:ac Γ (m+11) aj [.ref 0,y.toD,N] (ws L tg ns c nt) = .exc 1 [e] S):ac Γ (m+12) aA [.ref 0,y.toD,N] (ws L tg ns c nt) = .exc 1 [e] S:=(aa false (aX 0 (hv) aZ) (by kernel_rfl))
theorem tu {r:Rw} (hL:am L (.inl y.pl)=some r) (hv:ac Γ (m+11) aj [.ref 0,y.toD,N] (ws L tg ns c nt) = .ok v (ws L tg ns c1 nt1)) {u:D} {S:List O} (hg:ac Γ (m+11) ai [.ref 1,v,mkR r] (ws L tg ns c1 nt1) = .ok u S):ac Γ (m+12) aA [.ref 0,y.toD,N] (ws L tg ns c nt) = .ok u S:=by
 have hi:=xz L y.pl
 rw [hL] at hi
 exact (aa false (aX 0 (hv) (aX 0 (bT y (ws L tg ns c1 nt1)) (aX 1 (hi) (aX 4 (bT y (ws L tg ns c1 nt1)) (aX 0 (zY hL) (aX 0 (hg) aZ)))))) (by kernel_rfl))
theorem Az {r:Rw} (hL:am L (.inl y.pl)=some r) (hv:ac Γ (m+11) aj [.ref 0,y.toD,N] (ws L tg ns c nt) = .ok v (ws L tg ns c1 nt1)) {e:D} {S:List O} (hg:ac Γ (m+11) ai [.ref 1,v,mkR r] (ws L tg ns c1 nt1) = .exc 1 [e] S):ac Γ (m+12) aA [.ref 0,y.toD,N] (ws L tg ns c nt) = .exc 1 [e] S:=by
 have hi:=xz L y.pl
 rw [hL] at hi
 exact (aa false (aX 0 (hv) (aX 0 (bT y (ws L tg ns c1 nt1)) (aX 1 (hi) (aX 4 (bT y (ws L tg ns c1 nt1)) (aX 0 (zY hL) (aX 0 (hg) aZ)))))) (by kernel_rfl))
end
inductive Ou where
 | ok (v:D) (c:Nat) | er (e:D)
section
variable (L:AlG Rw) (tg:Bool) (ns:List Int)
def Dw (j b m:Nat) (y:T68) (c:Nat) (nt:List D):Ou→Prop
 | .ok v c'=>∃ nt',nt'.length≤nt.length+b∧ac Γ m j [.ref 0,y.toD,nm0] (ws L tg ns c nt) = .ok v (ws L tg ns c' nt')
 | .er e=>∃ st,ac Γ m j [.ref 0,y.toD,nm0] (ws L tg ns c nt) = .exc 1 [e] st
def Ct (q:Nat) (y:T68) (c:Nat) (o:Ou):Prop:=∀ nt m,nt.length+4 * nb q<90000→2 * q+30≤m→Dw L tg ns aA (4 * nb q) m y c nt o
def Vt (q:Nat) (y:T68) (c:Nat) (o:Ou):Prop:=∀ nt m,nt.length+4 * nb (q+1)<90000→2 * q+31≤m→Dw L tg ns aj (4 * nb (q+1) - 1) m y c nt o
end
theorem yI (q:Nat):nb (q+1)=1+4 * nb q:=rfl
section
variable {L:AlG Rw} {tg:Bool} {ns:List Int} {q c c':Nat} {y:T68} {o:Ou} {v u e:D} {r:Rw}
theorem Vt.er (h:Vt L tg ns q y c (.er e)):Ct L tg ns (q+1) y c (.er e):=by
 intro nt m hn hm
 obtain ⟨m,rfl⟩:∃ k,m=k+12:=⟨m - 12,by omega⟩
 obtain ⟨st,h⟩:=h nt (m+11) hn (by omega)
 exact ⟨st,xb h⟩
theorem Vt.no (hL:am L (.inl y.pl)=none) (h:Vt L tg ns q y c o):Ct L tg ns (q+1) y c o:=by
 cases o with
 | er e=>exact h.er
 | ok v c'=>
   intro nt m hn hm
   obtain ⟨m,rfl⟩:∃ k,m=k+12:=⟨m - 12,by omega⟩
   obtain ⟨nt',l,h⟩:=h nt (m+11) hn (by omega)
   exact ⟨nt',by omega,iS hL h⟩
theorem Vt.so (hL:am L (.inl y.pl)=some r) (h:Vt L tg ns q y c (.ok v c')) (g:∀ nt n,nt.length<90000→∃ nt',nt'.length≤nt.length+1∧ac Γ (n+10) ai [.ref 1,v,mkR r] (ws L tg ns c' nt) = .ok u (ws L tg ns c' nt')):Ct L tg ns (q+1) y c (.ok u c'):=by
 intro nt m hn hm
 obtain ⟨m,rfl⟩:∃ k,m=k+12:=⟨m - 12,by omega⟩
 obtain ⟨nt1,l,h⟩:=h nt (m+11) hn (by omega)
 have:=yI q
 obtain ⟨nt2,l2,g⟩:=g nt1 (m+1) (by omega)
 exact ⟨nt2,by omega,tu hL h g⟩
theorem Vt.sx (hL:am L (.inl y.pl)=some r) (h:Vt L tg ns q y c (.ok v c')) (g:∀ nt n,∃ st,ac Γ (n+10) ai [.ref 1,v,mkR r] (ws L tg ns c' nt) = .exc 1 [e] st):Ct L tg ns (q+1) y c (.er e):=by
 intro nt m hn hm
 obtain ⟨m,rfl⟩:∃ k,m=k+12:=⟨m - 12,by omega⟩
 obtain ⟨nt1,l,h⟩:=h nt (m+11) hn (by omega)
 obtain ⟨st,g⟩:=g nt1 (m+1)
 exact ⟨st,Az hL h g⟩
theorem sC (h:∀ nt n,ac Γ (n+10) aj [.ref 0,y.toD,nm0] (ws L tg ns c nt) = .ok v (ws L tg ns c nt)):Vt L tg ns q y c (.ok v c):=by
 intro nt m hn hm
 obtain ⟨m,rfl⟩:∃ k,m=k+10:=⟨m - 10,by omega⟩
 exact ⟨nt,by omega,h nt m⟩
theorem oU {pl:Bool} (p i:Int):Vt L tg ns q (.whole p i) c (.ok (vD tg pl (.fl (.n i))) c):=sC fun nt n=>(aa false (aC aZ) (by kernel_rfl))
theorem zK {pl:Bool} (p:Int) (b:Bool):Vt L tg ns q (.truth p b) c (.ok (vD tg pl (.fl (.t b))) c):=sC fun nt n=>(aa false (aC aZ) (by kernel_rfl))
theorem zI {pl:Bool} (p:Int) (x:ν) (b:T68):Vt L tg ns q (.fn p x .unt b) c (.ok (vD tg pl (.to p x b none)) c):=sC fun nt n=>(aa false (aC aZ) (by kernel_rfl))
end
inductive Ol where
 | ok (vs:List D) (c:Nat) | er (e:D)
def Ol.put (v:D):Ol→Ol
 | .ok vs c=>.ok (v :: vs) c
 | r=>r
def Nh (y:T68) (i:Nat) (v:D):Prop:=∀ n S,ac Γ (n+10) fe [y.toD,.int i,v] S = .ok .non S
inductive Pc (L:AlG Rw) (tg:Bool) (ns:List Int) (q:Nat) (y:T68):Nat→List T68→Nat→Ol→Prop
 | nil {i c}:Pc L tg ns q y i [] c (.ok [] c)
 | go {i z zs c v c1 r r'} (h:Ct L tg ns q z c (.ok v c1)) (hn:Nh y i v) (hr:Pc L tg ns q y (i+1) zs c1 r) (e:r'=r.put v):Pc L tg ns q y i (z :: zs) c r'
 | er {i z zs c e} (h:Ct L tg ns q z c (.er e)):Pc L tg ns q y i (z :: zs) c (.er e)
section
variable {L:AlG Rw} {tg pl:Bool} {ns:List Int} {q c c1 c' c2:Nat} {y:T68} {o:Ou} {v u e:D} {vs:List D} {r:Rw}
theorem Pc.pr {i:Nat} {zs:List T68} {o:Ol} (h:Pc L tg ns q y i zs c o):∀ nt m,nt.length+zs.length * (4 * nb q)<90000→2 * q+30≤m+10→match o with
 | .ok vs c'=>∃ nt',nt'.length≤nt.length+zs.length * (4 * nb q)∧Pr L tg ns m y i zs c nt (.ok vs c' nt')
 | .er e=>∃ st,Pr L tg ns m y i zs c nt (.er e st):=by
 induction h with
 | nil=>exact fun nt m _ _=>⟨nt,by omega,.nil⟩
 | er h=>
   intro nt m hn hm
   rw [Ι,Ŭ] at hn
   obtain ⟨st,h⟩:=h nt (m+10) (by omega) hm
   exact ⟨st,.er h⟩
 | @go i z zs c v c1 r r' h hn hr e ih=>
   intro nt m hl hm
   rw [Ι,Ŭ] at hl
   obtain ⟨nt1,l,h⟩:=h nt (m+10) (by omega) hm
   have ih:=ih nt1 m (by omega) hm
   subst e
   cases r with
   | ok vs c2=>
     obtain ⟨nt2,l2,p⟩:=ih
     exact ⟨nt2,by rw [Ι,Ŭ];omega,.go h (hn m) p rfl⟩
   | er e2=>
     obtain ⟨st,p⟩:=ih
     exact ⟨st,.go h (hn m) p rfl⟩
theorem j0 {k:Nat} (h:k≤4):k * (4 * nb q)+4≤4 * nb (q+1):=by
 have:=ū (4 * nb q) h
 rw [yI];omega
theorem Vt.pe (hg:gone y) (hk:(aq y).length≤4) (h:Pc L tg ns q y 0 (aq y) c (.er e)):Vt L tg ns q y c (.er e):=by
 intro nt m hn hm
 have:=j0 (q:=q) hk
 obtain ⟨m,rfl⟩:∃ k,m=k+11:=⟨m - 11,by omega⟩
 obtain ⟨st,h⟩:=h.pr nt m (by omega) (by omega)
 exact ⟨st,B8 hg (by omega) h⟩
theorem Vt.de (hg:gone y) (hw:(y.word == ("call":ν))=false) (hk:(aq y).length≤4) (h:Pc L tg ns q y 0 (aq y) c (.ok vs c1)) (hd:∀ nt n,nt.length<90000→∃ nt',nt'.length≤nt.length+1∧ac Γ (n+20) ja [y.toD,.lst vs,.ref 1] (ws L tg ns c1 nt) = .ok v (ws L tg ns c1 nt')):Vt L tg ns q y c (.ok v c1):=by
 intro nt m hn hm
 have:=j0 (q:=q) hk
 obtain ⟨m,rfl⟩:∃ k,m=k+21:=⟨m - 21,by omega⟩
 obtain ⟨nt1,l,h⟩:=h.pr nt (m+10) (by omega) (by omega)
 obtain ⟨nt2,l2,hd⟩:=hd nt1 m (by omega)
 exact ⟨nt2,by omega,B9 hg hw (by omega) h hd⟩
theorem Vt.dx (hg:gone y) (hw:(y.word == ("call":ν))=false) (hk:(aq y).length≤4) (h:Pc L tg ns q y 0 (aq y) c (.ok vs c1)) (hd:∀ nt n,nt.length<90000→∃ st,ac Γ (n+20) ja [y.toD,.lst vs,.ref 1] (ws L tg ns c1 nt) = .exc 1 [e] st):Vt L tg ns q y c (.er e):=by
 intro nt m hn hm
 have:=j0 (q:=q) hk
 obtain ⟨m,rfl⟩:∃ k,m=k+21:=⟨m - 21,by omega⟩
 obtain ⟨nt1,l,h⟩:=h.pr nt (m+10) (by omega) (by omega)
 obtain ⟨st,hd⟩:=hd nt1 m (by omega)
 exact ⟨st,B7 hg hw (by omega) h hd⟩
theorem Bv {p:Int} {k:Kd} {z:T68}:Nh (.as_ p k z) 0 v:=fun n S=>(aa false aZ (by kernel_rfl))
theorem jg {p:Int} {k:Kd} {zs:List T68} (i:Nat):Nh (.row p k zs) i v:=fun n S=>by
 have e0:decide ((i:Int)<0)=false:=ZV (by omega)
 exact (aa false aZ (by kernel_rfl))
theorem wj {p:Int} {s:Sg} {a b:T68} (i:Int):Nh (.bin p s a b) 0 (vD tg pl (.fl (.n i))):=fun n S=>(aa false aZ (by kernel_rfl))
theorem By {p:Int} {s:Sg} {a b:T68} (i:Int):Nh (.bin p s a b) 1 (vD tg pl (.fl (.n i))):=fun n S=>(aa false aZ (by kernel_rfl))
theorem C8 {p:Int} {a:T68} (g:Gd) (xs:List Fl):Nh (.size p a) 0 (vD tg pl (.row g xs)):=fun n S=>(aa false aZ (by kernel_rfl))
theorem wi {p:Int} {a b:T68} (g:Gd) (xs:List Fl):Nh (.att p a b) 0 (vD tg pl (.row g xs)):=fun n S=>(aa false aZ (by kernel_rfl))
theorem Bu {p:Int} {a b:T68} (i:Int):Nh (.att p a b) 1 (vD tg pl (.fl (.n i))):=fun n S=>(aa false aZ (by kernel_rfl))
theorem mL {p q:Int} {x:ν} {a b d:T68} {g:Option Int}:Nh (.call p a b) 0 (vD tg pl (.to q x d g)):=fun n S=>(aa false aZ (by kernel_rfl))
theorem qZ {p:Int} {a b:T68}:Nh (.call p a b) 1 v:=fun n S=>(aa false aZ (by kernel_rfl))
theorem dM {p:Int} {k:Kd} {z:T68} (h:Ct L tg ns q z c (.ok v c')):Vt L tg ns q (.as_ p k z) c (.ok v c'):=
 .de (y:=.as_ p k z) trivial rfl (τ rfl) (.go h Bv .nil rfl) fun nt n _=>⟨nt,by omega,(aa false aZ (by kernel_rfl))⟩
theorem lY {p:Int} {k:Kd} {z:T68} (h:Ct L tg ns q z c (.er e)):Ct L tg ns (q+1) (.as_ p k z) c (.er e):=(Vt.pe (y:=.as_ p k z) trivial (τ rfl) (.er h)).er
inductive As:Kd→Prop
 | w:As .whole | t:As .truth | r:As (.row .unt) | f:As (.to .unt .unt)
theorem As.mk {w:Kd} (h:As w) (p:Int):mkD .unt w p=nE w (lbl p []):=by cases h <;> rfl
theorem As.ne {w:Kd} (h:As w):Kd.unt≠w:=by cases h <;> exact fun e=>nomatch e
theorem eK.ne {v:V} {k:Kd} (h:eK v k):k≠.unt:=by cases h <;> exact fun e=>nomatch e
theorem eS {V':V} {k:Kd} {z:T68} (f:eK V' k) (kz:kof z=k) (gz:am L (.inl z.pl)=lkO pl (kof z) .unt z.pl) (h:Vt L tg ns q z c (.ok (vD tg pl V') c')):Ct L tg ns (q+1) z c (.ok (vW tg pl (V'.hide k z.pl) k (lbl z.pl [])) c'):=by
 subst kz
 cases pl with
 | true=>
   have e:vW tg true (V'.hide (kof z) z.pl) (kof z) (lbl z.pl [])=vD tg true V':=by
    generalize kof z=k at f
    cases f <;> rfl
   rw [e]
   exact h.no (gz.trans (ZZ (.inl rfl)))
 | false=>
   have gz:=gz.trans (ZY (by simp [f.ne]))
   exact h.so gz fun nt n hl=>by
    obtain ⟨x,g⟩:=tL (L:=L) (tg:=tg) (ns:=ns) (c:=c') (n:=n) hl f z.pl
    exact ⟨_,by simp,g⟩
theorem tO {V':V} {k w:Kd} {z:T68} {p:Int} (f:eK V' k) (kz:kof z=k) (gz:am L (.inl z.pl)=lkO pl (kof z) .unt z.pl) (aw:As w) (hk:hK k=hK w) (gy:am L (.inl p)=lkO pl .unt w p) (h:Vt L tg ns q z c (.ok (vD tg pl V') c')):Ct L tg ns (q+2) (.as_ p .unt z) c (.ok (vD tg pl (V'.hide k z.pl)) c'):=by
 have h2:=dM (p:=p) (k:=.unt) (eS f kz gz h)
 cases pl with
 | true=>exact h2.no (y:=.as_ p .unt z) (gy.trans (ZZ (.inl rfl)))
 | false=>
   have gy:=gy.trans (ZY (by simp [aw.ne]))
   refine h2.so (y:=.as_ p .unt z) gy fun nt n hl=>⟨nt,by omega,?_⟩
   show ac Γ (n+10) ai [.ref 1,_,mkD .unt w p] _=_
   rw [aw.mk]
   exact p8 _ _ _ hk _ _
theorem tN {V':V} {k w:Kd} {z:T68} {p:Int} (f:eK V' k) (kz:kof z=k) (gz:am L (.inl z.pl)=lkO false (kof z) .unt z.pl) (aw:As w) (hk:hK k≠hK w) (gy:am L (.inl p)=lkO false .unt w p) (h:Vt L tg ns q z c (.ok (vD tg false V') c')):Ct L tg ns (q+2) (.as_ p .unt z) c (.er (bl (gr w) (lbl p []) (gr k) (lbl z.pl []))):=by
 have h2:=dM (p:=p) (k:=.unt) (eS f kz gz h)
 have gy:=gy.trans (ZY (by simp [aw.ne]))
 refine h2.sx (y:=.as_ p .unt z) gy fun nt n=>⟨ws L tg ns c' nt,?_⟩
 show ac Γ (n+10) ai [.ref 1,_,mkD .unt w p] _=_
 rw [aw.mk]
 exact v7 _ _ _ hk _ _ _
end
section
variable {L:AlG Rw} {tg pl:Bool} {ns:List Int} {q c c1 c' n:Nat} {nt:List D}
theorem lb0 (v:V) (h:v.gs tg pl = []) (k:Int) (S:List O):ac Γ (n+10) cV [vD tg pl v,.int k] S = .ok (.lst []) S:=by
 unfold vD
 rw [h]
 exact (aa false aZ (by kernel_rfl))
theorem lb2 (p:Int) (x:ν) (b:T68) (pf:Int) (S:List O):ac Γ (n+10) cV [vD tg false (.to pf x b (some p)),.int 2] S = .ok (.lst [fz .whole (lbl p ["res"])]) S:=(aa false aZ (by kernel_rfl))
theorem pX (v:D):ac Γ (n+11) bf [.ref 1,v,.lst []] (ws L tg ns c nt) = .ok v (ws L tg ns c nt):=(aa false aZ (by kernel_rfl))
theorem AM (a f:D):ac Γ (n+12) bb [.ref 1,a,f] (ws L tg ns 0 nt) = .exc 1 [eSp] (ws L tg ns 0 nt):=(aa false aZ (by kernel_rfl))
theorem vZ (c:Nat) (a f:D) (n:Nat):exS Γ (ac Γ n) (bP Γ n) (.fld (.v 0) 7 (.op .sub (.fld (.v 0) 7) (.c (.int 1)))) ⟨[some (.ref 1),some a,some f],[],ws L tg ns (c+1) nt⟩ = .nx ⟨[some (.ref 1),some a,some f],[],ws L tg ns c nt⟩:=by
 have e1:exS Γ (ac Γ n) (bP Γ n) (.fld (.v 0) 7 (.op .sub (.fld (.v 0) 7) (.c (.int 1)))) ⟨[some (.ref 1),some a,some f],[],ws L tg ns (c+1) nt⟩ = .nx ⟨[some (.ref 1),some a,some f],[],[.ins 4 [dL L,.lst (ns.map .int),.ref 1],.ins 3 [.int (((c+1:Nat):Int) - 1),.bl tg,.ref 2],.lst nt]⟩:=by kernel_rfl
 have e2:((c+1:Nat):Int) - 1=(c:Int):=by omega
 rw [e2] at e1
 exact e1
theorem AN (v:V) (h:v.gs tg pl = []) (a:D):ac Γ (n+12) bb [.ref 1,a,vD tg pl v] (ws L tg ns (c+1) nt) = .ok a (ws L tg ns c nt):=by
 have e0:decide (((c+1:Nat):Int)<1)=false:=ZV (by omega)
 have e1:=vZ (L:=L) (tg:=tg) (ns:=ns) (nt:=nt) c a (vD tg pl v) (n+11)
 exact (aa false (aX 0 (e1) (aX 0 (lb0 (n:=n+1) v h 1 (ws L tg ns c nt)) (aX 0 (pX (L:=L) (tg:=tg) (ns:=ns) (c:=c) (n:=n) (nt:=nt) a) aZ))) (by kernel_rfl))
theorem CY (p:Int) (x:ν) (b:T68) (pf:Int) (h:ν) (d:D) (g:List D) (t:D):ac Γ (n+12) bb [.ref 1,vl h d g t,vD tg false (.to pf x b (some p))] (ws L tg ns (c+1) nt) = .ok (vl h d g t) (ws L tg ns c nt):=by
 have e0:decide (((c+1:Nat):Int)<1)=false:=ZV (by omega)
 have e1:=vZ (L:=L) (tg:=tg) (ns:=ns) (nt:=nt) c (vl h d g t) (vD tg false (.to pf x b (some p))) (n+11)
 exact (aa false (aX 0 (e1) (aC (aX 0 (kX (n:=n) (p9 (L:=L) (tg:=tg) (ns:=ns) (c:=c) (n:=n) (nt:=nt) h d g t)) aZ))) (by kernel_rfl))
theorem wm (pf:Int) (x:ν) (b:T68) (g:Option Int) (w:D) (S:List O):∃ N,ac Γ (n+12) fw [vD tg pl (.to pf x b g),w] S = .ok N S:=
 ⟨.dic [.inr x] [w],(aa false (aC aZ) (by kernel_rfl))⟩
theorem wf (pf:Int) (x:ν) (b:T68) (g:Option Int) (S:List O):ac Γ (n+12) hX [vD tg pl (.to pf x b g)] S = .ok b.toD S:=by
 have hp:=cM (.fn pf x .unt b) (n+8) S
 exact (aa false (aX 0 (hp) aZ) (by kernel_rfl))
inductive Lt:T68→Fl→Prop
 | n {p i}:Lt (.whole p i) (.n i)
 | t {p b}:Lt (.truth p b) (.t b)
theorem Lt.v {b:T68} {x:Fl} (h:Lt b x) (N:D):ac Γ (n+11) aj [.ref 0,b.toD,N] (ws L tg ns c nt) = .ok (fD x) (ws L tg ns c nt):=by
 cases h <;> exact (aa false (aC aZ) (by kernel_rfl))
theorem Ax (w:D) (f:V):ac Γ (n+13) aU [.ref 0,vD tg pl f,w] (ws L tg ns 0 nt) = .exc 1 [eSp] (ws L tg ns 0 nt):=(aa false (aX 0 (AM (L:=L) (tg:=tg) (ns:=ns) (n:=n) (nt:=nt) w (vD tg pl f)) aZ) (by kernel_rfl))
theorem Ay {x:ν} {b:T68} {z:Fl} (h:Lt b z) (hL:am L (.inl b.pl)=none) (pf:Int) (w:D):ac Γ (n+13) aU [.ref 0,vD tg pl (.to pf x b none),w] (ws L tg ns (c+1) nt) = .ok (fD z) (ws L tg ns c nt):=by
 obtain ⟨N,hN⟩:=wm (tg:=tg) (pl:=pl) (n:=n) pf x b none w (ws L tg ns c nt)
 have hc:=iS (m:=n) (N:=N) hL (h.v (L:=L) (tg:=tg) (ns:=ns) (c:=c) (n:=n) (nt:=nt) N)
 exact (aa false (aX 0 (AN (L:=L) (tg:=tg) (pl:=pl) (ns:=ns) (c:=c) (n:=n) (nt:=nt) (.to pf x b none) rfl w) (aX 0 (wf (tg:=tg) (pl:=pl) (n:=n) pf x b none (ws L tg ns c nt)) (aX 0 (hN) (aX 0 (hc) (aC (aX 0 (pX (L:=L) (tg:=tg) (ns:=ns) (c:=c) (n:=n+1) (nt:=nt) (fD z)) aZ)))))) (by kernel_rfl))
theorem CS (hl:nt.length<90000) {x:ν} {b:T68} {z:Fl} (h:Lt b z) (hL:am L (.inl b.pl)=none) (pf p:Int) (hd:ν) (d:D) (g:List D) (t:D):∃ y,ac Γ (n+13) aU [.ref 0,vD tg false (.to pf x b (some p)),vl hd d g t] (ws L tg ns (c+1) nt) = .ok (vl z.hd z.held [] (bh .whole (lbl p ["res"]))) (ws L tg ns c (nt ++ [y])):=by
 obtain ⟨N,hN⟩:=wm (tg:=tg) (pl:=false) (n:=n) pf x b (some p) (vl hd d g t) (ws L tg ns c nt)
 have hc:=iS (m:=n) (N:=N) hL (h.v (L:=L) (tg:=tg) (ns:=ns) (c:=c) (n:=n) (nt:=nt) N)
 obtain ⟨y,g1⟩:=fW (L:=L) (tg:=tg) (ns:=ns) (c:=c) (n:=n+1) hl z.hd z.held .whole (lbl p ["res"])
 exact ⟨y,(aa false (aX 0 (CY (L:=L) (tg:=tg) (ns:=ns) (c:=c) (n:=n) (nt:=nt) p x b pf hd d g t) (aX 0 (wf (tg:=tg) (pl:=false) (n:=n) pf x b (some p) (ws L tg ns c nt)) (aX 0 (hN) (aX 0 (hc) (aX 0 (lb2 (tg:=tg) (n:=n+2) p x b pf (ws L tg ns c nt)) (aX 0 (kX (n:=n+1) g1) aZ)))))) (by kernel_rfl))⟩
end
section
variable {L:AlG Rw} {tg pl:Bool} {ns:List Int} {q c c1 c' n:Nat} {nt:List D} {o:Ou} {e:D}
theorem lW {p:Int} {k:Kd} {zs:List T68} {xs:List Fl} (h:Pc L tg ns q (.row p k zs) 0 zs c (.ok (xs.map fD) c')) (hl:zs.length≤4):Vt L tg ns q (.row p k zs) c (.ok (vD tg pl (.row .no xs)) c'):=by
 refine .de (y:=.row p k zs) trivial rfl hl h fun nt n _=>⟨nt,by omega,?_⟩
 have e:(V.row .no xs).gs tg pl = []:=by cases pl <;> rfl
 unfold vD
 rw [e]
 exact (aa false (aX 0 (jF (n+18) (ws L tg ns c' nt) (.str "row") (.tup (xs.map fD))) aZ) (by kernel_rfl))
theorem vA {p:Int} {a:T68} {g:Gd} {xs:List Fl} (h:Ct L tg ns q a c (.ok (vD tg pl (.row g xs)) c')):Vt L tg ns q (.size p a) c (.ok (fD (.n xs.length)) c'):=by
 refine .de (y:=.size p a) trivial rfl (τ rfl) (.go h (C8 g xs) .nil rfl) fun nt n _=>⟨nt,by omega,?_⟩
 have e:biD .len [.tup (xs.map fD)]=some (.int (xs.length:Nat)):=by show some (D.int ((xs.map fD).length:Nat))=_;rw [Ν]
 exact (aa false (aX 11 (e) (aX 0 (jF (n+18) (ws L tg ns c' nt) (.str "whole") (.int (xs.length:Nat))) aZ)) (by kernel_rfl))
theorem BZ (p:Int) (a b:T68) (gs:List D) (S:List O):ac Γ (n+19) dF [(T68.att p a b).toD,vl "row" (.tup []) gs .non,.int 0,.ref 1] S = .exc 1 [eNo p] S:=(aa false aZ (by kernel_rfl))
theorem B0 (p:Int) (a b:T68) (x:Fl) (xs:List Fl) (gs:List D) (S:List O) {v:D} {S':List O} (h:ac Γ (n+18) bQ [vl "row" (.tup ((x :: xs).map fD)) gs .non,.int 0,.ref 1] S = .ok v S'):ac Γ (n+19) dF [(T68.att p a b).toD,vl "row" (.tup ((x :: xs).map fD)) gs .non,.int 0,.ref 1] S = .ok v S':=by
 have e2:(!decide ((0:Int)<(((x :: xs).map fD).length:Nat)))=false:=by rw [Î,Ι];simp
 exact (aa false (aX 5 (e2) (aX 0 (h) aZ)) (by kernel_rfl))
theorem B1 (p:Int) (a b:T68) (x:Fl) (xs:List Fl) (gs:List D) (S:List O) {e:D} {S':List O} (h:ac Γ (n+18) bQ [vl "row" (.tup ((x :: xs).map fD)) gs .non,.int 0,.ref 1] S = .exc 1 [e] S'):ac Γ (n+19) dF [(T68.att p a b).toD,vl "row" (.tup ((x :: xs).map fD)) gs .non,.int 0,.ref 1] S = .exc 1 [e] S':=by
 have e2:(!decide ((0:Int)<(((x :: xs).map fD).length:Nat)))=false:=by rw [Î,Ι];simp
 exact (aa false (aX 5 (e2) (aX 0 (h) aZ)) (by kernel_rfl))
variable {p:Int} {a b:T68} {g:Gd} {xs:List Fl} {x:Fl}
theorem ry (ha:Ct L tg ns q a c (.ok (vD tg pl (.row g xs)) c1)) (hb:Ct L tg ns q b c1 (.ok (vD tg pl (.fl (.n 0))) c')):Pc L tg ns q (.att p a b) 0 [a,b] c (.ok [vD tg pl (.row g xs),fD (.n 0)] c'):=.go ha (wi g xs) (.go hb (Bu 0) .nil rfl) rfl
theorem sr (ha:Ct L tg ns q a c (.ok (vD tg pl (.row g [])) c1)) (hb:Ct L tg ns q b c1 (.ok (vD tg pl (.fl (.n 0))) c')):Vt L tg ns q (.att p a b) c (.er (eNo p)):=
 .dx (y:=.att p a b) trivial rfl (τ rfl) (ry ha hb) fun nt n _=>⟨ws L tg ns c' nt,(aa false (aX 0 (BZ (n:=n) p a b ((V.row g []).gs tg pl) (ws L tg ns c' nt)) aZ) (by kernel_rfl))⟩
theorem vH {v:D} (ha:Ct L tg ns q a c (.ok (vD tg pl (.row g (x :: xs))) c1)) (hb:Ct L tg ns q b c1 (.ok (vD tg pl (.fl (.n 0))) c')) (ht:∀ nt n,nt.length<90000→∃ nt',nt'.length≤nt.length+1∧ac Γ (n+18) bQ [vl "row" (.tup ((x :: xs).map fD)) ((V.row g (x :: xs)).gs tg pl) .non,.int 0,.ref 1] (ws L tg ns c' nt) = .ok v (ws L tg ns c' nt')):Vt L tg ns q (.att p a b) c (.ok v c'):=
 .de (y:=.att p a b) trivial rfl (τ rfl) (ry ha hb) fun nt n hl=>by
  obtain ⟨nt',l,h⟩:=ht nt n hl
  have h:=B0 (n:=n) p a b x xs ((V.row g (x :: xs)).gs tg pl) _ h
  exact ⟨nt',l,(aa false (aX 0 (h) aZ) (by kernel_rfl))⟩
theorem Cb (ha:Ct L tg ns q a c (.ok (vD tg pl (.row .no (x :: xs))) c1)) (hb:Ct L tg ns q b c1 (.ok (vD tg pl (.fl (.n 0))) c')):Vt L tg ns q (.att p a b) c (.ok (vD tg pl (.fl x)) c'):=
 vH ha hb fun nt n _=>⟨nt,by omega,by
  have e:(V.row .no (x :: xs)).gs tg pl = []:=by cases pl <;> rfl
  rw [e]
  exact wD (n:=n+6) (x :: xs) 0 x rfl⟩
theorem zG {k:Kd} {pr:Int} (ha:Ct L tg ns q a c (.ok (vD tg pl (.row (.tag k pr) (x :: xs))) c1)) (hb:Ct L tg ns q b c1 (.ok (vD tg pl (.fl (.n 0))) c')):Vt L tg ns q (.att p a b) c (.ok (vW tg pl (.fl x) k (lbl pr ["item"])) c'):=
 vH ha hb fun nt n hl=>by
  cases pl with
  | true=>exact ⟨nt,by omega,wD (n:=n+6) (x :: xs) 0 x rfl⟩
  | false=>
    obtain ⟨y,h⟩:=zE (L:=L) (tg:=tg) (ns:=ns) (c:=c') (n:=n+6) hl (x :: xs) 0 x rfl k pr
    exact ⟨_,by simp,h⟩
theorem zF {p1 p2:Int} (ha:Ct L tg ns q a c (.ok (vD tg false (.row (.bad p1 p2) (x :: xs))) c1)) (hb:Ct L tg ns q b c1 (.ok (vD tg false (.fl (.n 0))) c')):Vt L tg ns q (.att p a b) c (.er (bl (gr .whole) (lbl p2 ["item"]) (gr .truth) (lbl p1 ["item"]))):=
 .dx (y:=.att p a b) trivial rfl (τ rfl) (ry ha hb) fun nt n hl=>by
  obtain ⟨st,h⟩:=zB (L:=L) (tg:=tg) (ns:=ns) (c:=c') (n:=n+6) hl (x :: xs) 0 x rfl p1 p2
  have h:=B1 (n:=n) p a b x xs ((V.row (.bad p1 p2) (x :: xs)).gs tg false) _ h
  exact ⟨st,(aa false (aX 0 (h) aZ) (by kernel_rfl))⟩
theorem sy {s:Sg} {i j:Int} {r:Except D Fl} (ha:Ct L tg ns q a c (.ok (vD tg pl (.fl (.n i))) c1)) (hb:Ct L tg ns q b c1 (.ok (vD tg pl (.fl (.n j))) c')) (hi:i.natAbs<10 ^ 40) (hj:j.natAbs<10 ^ 40) (hr:oM p s i j=r):Vt L tg ns q (.bin p s a b) c (match r with | .ok x=>.ok (fD x) c' | .error e=>.er e):=by
 have pc:Pc L tg ns q (.bin p s a b) 0 [a,b] c (.ok [fD (.n i),fD (.n j)] c'):=.go ha (wj i) (.go hb (By j) .nil rfl) rfl
 have h0:=fun nt n=>y8 p s a b i j hi hj (n+17) (ws L tg ns c' nt)
 rw [hr] at h0
 cases r with
 | ok x=>exact .de (y:=.bin p s a b) trivial rfl (τ rfl) pc fun nt n _=>⟨nt,by omega,by have h:=h0 nt n;exact (aa false (aX 0 (h) aZ) (by kernel_rfl))⟩
 | error e=>exact .dx (y:=.bin p s a b) trivial rfl (τ rfl) pc fun nt n _=>⟨ws L tg ns c' nt,by have h:=h0 nt n;exact (aa false (aX 0 (h) aZ) (by kernel_rfl))⟩
theorem C7 {d:T68} (t:Bool):Nh (.iff p a b d) 0 (vD tg pl (.fl (.t t))):=fun n S=>by cases t <;> exact (aa false aZ (by kernel_rfl))
theorem Cd {t:Bool} {d:T68} {v:D} (ha:Ct L tg ns q a c (.ok (vD tg pl (.fl (.t t))) c1)) (hb:Ct L tg ns q (if t then b else d) c1 (.ok v c')):Vt L tg ns q (.iff p a b d) c (.ok v c'):=by
 intro nt m hn hm
 have k4:=j0 (q:=q) (k:=4) (by omega)
 obtain ⟨m,rfl⟩:∃ k,m=k+11:=⟨m - 11,by omega⟩
 obtain ⟨nt1,l1,h1⟩:=ha nt (m+10) (by omega) (by omega)
 obtain ⟨nt2,l2,h2⟩:=hb nt1 (m+10) (by omega) (by omega)
 refine ⟨nt2,by omega,?_⟩
 have hh:=C7 (tg:=tg) (pl:=pl) (p:=p) (a:=a) (b:=b) (d:=d) t m (ws L tg ns c1 nt1)
 cases t with
 | true=>exact (aa false (aX 0 (h1) (aX 0 (hh) (aX 0 (h2) aZ))) (by kernel_rfl))
 | false=>exact (aa false (aX 0 (h1) (aX 0 (hh) (aX 0 (h2) aZ))) (by kernel_rfl))
theorem zJ {d:T68} (ha:Ct L tg ns q a c (.er e)):Vt L tg ns q (.iff p a b d) c (.er e):=by
 intro nt m hn hm
 have k4:=j0 (q:=q) (k:=4) (by omega)
 obtain ⟨m,rfl⟩:∃ k,m=k+11:=⟨m - 11,by omega⟩
 obtain ⟨st,h1⟩:=ha nt (m+10) (by omega) (by omega)
 exact ⟨st,(aa false (aX 0 (h1) aZ) (by kernel_rfl))⟩
theorem sA {w:D} {pf:Int} {x:ν} {d:T68} {g:Option Int} (ha:Ct L tg ns q a c (.ok (vD tg pl (.to pf x d g)) c1)) (hb:Ct L tg ns q b c1 (.ok w 0)):Vt L tg ns q (.call p a b) c (.er eSp):=by
 intro nt m hn hm
 have k4:=j0 (q:=q) (k:=4) (by omega)
 have pc:Pc L tg ns q (.call p a b) 0 [a,b] c (.ok [vD tg pl (.to pf x d g),w] 0):=.go ha mL (.go hb qZ .nil rfl) rfl
 obtain ⟨m,rfl⟩:∃ k,m=k+14:=⟨m - 14,by omega⟩
 obtain ⟨nt1,l,h⟩:=pc.pr nt (m+3) (by simp only [Ι,ϯ];omega) (by omega)
 exact ⟨ws L tg ns 0 nt1,B6 h (Ax (n:=m) w (.to pf x d g))⟩
theorem lV {w:D} {pf:Int} {x:ν} {d:T68} {z:Fl} (ha:Ct L tg ns q a c (.ok (vD tg pl (.to pf x d none)) c1)) (hb:Ct L tg ns q b c1 (.ok w (c'+1))) (h:Lt d z) (hL:am L (.inl d.pl)=none):Vt L tg ns q (.call p a b) c (.ok (fD z) c'):=by
 intro nt m hn hm
 have k4:=j0 (q:=q) (k:=4) (by omega)
 have pc:Pc L tg ns q (.call p a b) 0 [a,b] c (.ok [vD tg pl (.to pf x d none),w] (c'+1)):=.go ha mL (.go hb qZ .nil rfl) rfl
 obtain ⟨m,rfl⟩:∃ k,m=k+14:=⟨m - 14,by omega⟩
 obtain ⟨nt1,l,hp⟩:=pc.pr nt (m+3) (by simp only [Ι,ϯ];omega) (by omega)
 simp only [Ι,ϯ] at l
 exact ⟨nt1,by omega,mZ hp (Ay (n:=m) h hL pf w)⟩
theorem Cc {v:V} {kw:Kd} {lw:D} {pf pg:Int} {x:ν} {d:T68} {z:Fl} (ha:Ct L tg ns q a c (.ok (vD tg pl (.to pf x d (some pg))) c1)) (hb:Ct L tg ns q b c1 (.ok (vW tg pl v kw lw) (c'+1))) (h:Lt d z) (hL:am L (.inl d.pl)=none):Vt L tg ns q (.call p a b) c (.ok (vW tg pl (.fl z) .whole (lbl pg ["res"])) c'):=by
 cases pl with
 | true=>exact lV (pl:=true) ha hb h hL
 | false=>
   intro nt m hn hm
   have k4:=j0 (q:=q) (k:=4) (by omega)
   have pc:Pc L tg ns q (.call p a b) 0 [a,b] c (.ok [vD tg false (.to pf x d (some pg)),vW tg false v kw lw] (c'+1)):=.go ha mL (.go hb qZ .nil rfl) rfl
   obtain ⟨m,rfl⟩:∃ k,m=k+14:=⟨m - 14,by omega⟩
   obtain ⟨nt1,l,hp⟩:=pc.pr nt (m+3) (by simp only [Ι,ϯ];omega) (by omega)
   simp only [Ι,ϯ] at l
   obtain ⟨y,g⟩:=CS (L:=L) (tg:=tg) (ns:=ns) (c:=c') (n:=m) (nt:=nt1) (by omega) h hL pf pg v.hd v.held (v.gs tg false) (bh kw lw)
   exact ⟨_,by simp;omega,mZ hp g⟩
end
inductive Wt where
 | whole | truth | row | to
def Wt.w:Wt→Kd→Kd
 | .whole,_=>.whole | .truth,_=>.truth | .row,k=>k.rowG | .to,k=>k.toG
theorem Wt.as (W:Wt):As (W.w .unt):=by cases W <;> constructor
def Wt.h:Wt→Nat
 | .whole=>0 | .truth=>1 | .row=>4 | .to=>3
theorem Wt.wh (W:Wt):hK (W.w .unt)=W.h:=by cases W <;> rfl
def Rn (q:Nat) (W:Wt) (y:T68) (c:Nat) (v:V) (c':Nat):Option D→Prop
 | none=>∀ L pl tg ns,Ft L pl q y→am L (.inl y.pl)=lkO pl (kof y) (W.w (kof y)) y.pl→Ct L tg ns q y c (.ok (vD tg pl v) c')
 | some e=>∀ L tg ns,Ft L false q y→am L (.inl y.pl)=lkO false (kof y) (W.w (kof y)) y.pl→Ct L tg ns q y c (.er e)
theorem Bq {q q':Nat} (h:q≤q'):nb q≤nb q':=by
 induction h with
 | refl=>omega
 | step h ih=>rw [yI];omega
theorem Ft.le {L:AlG Rw} {pl:Bool}:∀ {q q':Nat} {y:T68},q≤q'→Ft L pl q' y→Ft L pl q y
 | 0,_,_,_,_=>trivial
 | q+1,q',y,h,f=>by
   obtain ⟨q',rfl⟩:∃ k,q'=k+1:=⟨q' - 1,by omega⟩
   exact fun i z hz=>⟨(f i z hz).1,(f i z hz).2.le (by omega)⟩
theorem Ct.le {L:AlG Rw} {tg:Bool} {ns:List Int} {q q':Nat} {y:T68} {c:Nat} {o:Ou} (h:q≤q') (f:Ct L tg ns q y c o):Ct L tg ns q' y c o:=by
 intro nt m hn hm
 have:=Bq h
 have f:=f nt m (by omega) (by omega)
 cases o with
 | ok v c'=>obtain ⟨nt',l,f⟩:=f;exact ⟨nt',by omega,f⟩
 | er e=>exact f
theorem Rn.le {q q':Nat} {W:Wt} {y:T68} {c c':Nat} {v:V} {d:Option D} (h:q≤q') (f:Rn q W y c v c' d):Rn q' W y c v c' d:=by
 cases d with
 | none=>exact fun L pl tg ns a b=>(f L pl tg ns (a.le h) b).le h
 | some e=>exact fun L tg ns a b=>(f L tg ns (a.le h) b).le h
theorem aS {pl:Bool} {k:Kd} {p:Int}:lkO pl k k p=none:=ZZ (.inr rfl)
theorem Ft.k {L:AlG Rw} {pl:Bool} {q:Nat} {y z:T68} (f:Ft L pl (q+1) y) (i:Nat) (h:(aq y)[i]? = some z):am L (.inl z.pl)=lkO pl (kof z) (wnt y i) z.pl∧Ft L pl q z:=f i z h
inductive Li:Wt→T68→V→Prop
 | n {p}:Li .whole (.whole p 0) (.fl (.n 0))
 | t {p b}:Li .truth (.truth p b) (.fl (.t b))
 | f {p p2}:Li .to (.fn p "x" .unt (.whole p2 0)) (.to p "x" (.whole p2 0) none)
 | r {p p1 p2}:Li .row (.row p .whole [.whole p1 0,.whole p2 0]) (.row .no [.n 0,.n 0])
variable {q c c':Nat} {W W':Wt} {y z:T68} {v v':V} {p:Int}
theorem Li.fits (h:Li W y v):eK v (kof y):=by cases h <;> constructor
theorem Li.told (h:Li W y v):W.w (kof y)=kof y:=by cases h <;> rfl
theorem Li.hk (h:Li W y v):hK (kof y)=W.h:=by cases h <;> rfl
theorem Li.vt (h:Li W y v) {L:AlG Rw} {pl tg:Bool} {ns:List Int} (f:Ft L pl (q+2) y):Vt L tg ns (q+1) y c (.ok (vD tg pl v) c):=by
 cases h with
 | n=>exact oU _ _
 | t=>exact zK _ _
 | f=>exact zI _ _ _
 | @r p p1 p2=>
   have h1:=(f.k (z:=.whole p1 0) 0 rfl).1.trans aS
   have h2:=(f.k (z:=.whole p2 0) 1 rfl).1.trans aS
   exact lW (.go ((oU (pl:=pl) p1 0).no h1) (jg 0) (.go ((oU (pl:=pl) p2 0).no h2) (jg 1) .nil rfl) rfl) (τ rfl)
theorem cw (k:W.w (kof y)=kof y) (h:∀ L pl tg ns,Ft L pl (q+1) y→Vt L tg ns q y c (.ok (vD tg pl v) c')):Rn (q+1) W y c v c' none:=fun L pl tg ns f g=>(h L pl tg ns f).no (g.trans (by rw [k];exact aS))
theorem zj (h:Li W y v):Rn (q+2) W y c v c none:=cw h.told fun L pl tg ns f=>h.vt f
theorem rR (hk:hK (kof z)=W.h) (hf:eK v (kof z)) (h:∀ L pl tg ns,Ft L pl (q+1) z→Vt L tg ns q z c (.ok (vD tg pl v) c')):Rn (q+2) W (.as_ p .unt z) c (v.hide (kof z) z.pl) c' none:=fun L pl tg ns f g=>
 tO hf rfl (f.k 0 rfl).1 W.as (by rw [hk,W.wh]) g (h L pl tg ns (f.k 0 rfl).2)
theorem vh (hk:hK (kof z)≠W.h) (hf:eK v (kof z)) (h:∀ L pl tg ns,Ft L pl (q+1) z→Vt L tg ns q z c (.ok (vD tg pl v) c')) (v0:V) (c0:Nat):Rn (q+2) W (.as_ p .unt z) c v0 c0 (some (bl (gr (W.w .unt)) (lbl p []) (gr (kof z)) (lbl z.pl []))):=fun L tg ns f g=>
 tN hf rfl (f.k 0 rfl).1 W.as (by rw [W.wh];exact hk) g (h L false tg ns (f.k 0 rfl).2)
theorem c8 {e:D} (h:∀ L tg ns,Ft L false (q+1) y→Vt L tg ns q y c (.er e)) (v0:V) (c0:Nat):Rn (q+1) W y c v0 c0 (some e):=fun L tg ns f _=>(h L tg ns f).er
theorem rP {e:D} {k:Kd} (h:∀ L tg ns,Ft L false q z→Ct L tg ns q z c (.er e)) (v0:V) (c0:Nat):Rn (q+1) W (.as_ p k z) c v0 c0 (some e):=fun L tg ns f _=>lY (h L tg ns (f.k 0 rfl).2)
theorem vf {pf pa:Int} {x:ν} {b:T68} {t:Bool} {u:Fl} (hb:Li W b (.fl u)):Rn (q+3) W (.call p (.fn pf x .unt b) (.truth pa t)) (c+1) (.fl u) c none:=by
 have hl:Lt b u:=by cases hb <;> constructor
 have hw:W.w (kof b)=kof b:=hb.told
 refine cw (y:=.call p (.fn pf x .unt b) (.truth pa t)) hw fun L pl tg ns f=>?_
 obtain ⟨f1,f2⟩:=f.k (z:=.fn pf x .unt b) 0 rfl
 obtain ⟨f3,f4⟩:=f.k (z:=.truth pa t) 1 rfl
 have f5:=(f2.k (z:=b) 0 rfl).1
 have ha:Ct L tg ns (q+2) (.fn pf x .unt b) (c+1) (.ok (vD tg pl (.to pf x b none)) (c+1)):=(zI pf x b).no (f1.trans aS)
 have ht:=eS (L:=L) (tg:=tg) (pl:=pl) (ns:=ns) (q:=q+1) (c:=c+1) (V':=.fl (.t t)) (k:=.truth) (z:=.truth pa t) .t rfl f3 (zK pa t)
 exact lV (pl:=pl) ha ht hl (f5.trans aS)
theorem rQ {pf pa:Int} {x:ν} {b:T68} {t:Bool} (v0:V) (c0:Nat):Rn (q+3) W (.call p (.fn pf x .unt b) (.truth pa t)) 0 v0 c0 (some eSp):=by
 refine c8 (y:=.call p (.fn pf x .unt b) (.truth pa t)) (fun L tg ns f=>?_) v0 c0
 obtain ⟨f1,f2⟩:=f.k (z:=.fn pf x .unt b) 0 rfl
 obtain ⟨f3,f4⟩:=f.k (z:=.truth pa t) 1 rfl
 have ha:Ct L tg ns (q+2) (.fn pf x .unt b) 0 (.ok (vD tg false (.to pf x b none)) 0):=(zI pf x b).no (f1.trans aS)
 have ht:=eS (L:=L) (tg:=tg) (pl:=false) (ns:=ns) (q:=q+1) (c:=0) (V':=.fl (.t t)) (k:=.truth) (z:=.truth pa t) .t rfl f3 (zK pa t)
 exact sA (pl:=false) ha ht
theorem vz {pr ps:Int} {L:AlG Rw} {tg:Bool} {ns:List Int} (f:Ft L false (q+2) (.att p (.row pr .whole []) (.whole ps 0))):Vt L tg ns (q+1) (.att p (.row pr .whole []) (.whole ps 0)) c (.er (eNo p)):=by
 obtain ⟨f1,f2⟩:=f.k (z:=.row pr .whole []) 0 rfl
 obtain ⟨f3,f4⟩:=f.k (z:=.whole ps 0) 1 rfl
 have ha:Ct L tg ns (q+1) (.row pr .whole []) c (.ok (vD tg false (.row .no [])) c):=(lW (xs:=[]) .nil (by decide)).no (f1.trans aS)
 exact sr (pl:=false) ha ((oU (pl:=false) ps 0).no (f3.trans aS))
theorem sB {pa pb i j:Int} (hi:10 ^ 20≤i∧i<10 ^ 30) (hj:10 ^ 20≤j∧j<10 ^ 30) {L:AlG Rw} {tg:Bool} {ns:List Int} (f:Ft L false (q+2) (.bin p .mul (.whole pa i) (.whole pb j))):Vt L tg ns (q+1) (.bin p .mul (.whole pa i) (.whole pb j)) c (.er (eGr p)):=by
 obtain ⟨f1,f2⟩:=f.k (z:=.whole pa i) 0 rfl
 obtain ⟨f3,f4⟩:=f.k (z:=.whole pb j) 1 rfl
 have hr:oM p .mul i j = .error (eGr p):=by
  show big (i * j) p=_
  unfold big
  rw [ZZ]
  rw [GQ]
  have h1:100000000000000000000≤i.natAbs:=by omega
  have h2:100000000000000000000≤j.natAbs:=by omega
  exact Ϣ (by decide +kernel) (GN h1 h2)
 exact sy (pl:=false) (r:=.error (eGr p)) ((oU (pl:=false) pa i).no (f1.trans aS)) ((oU (pl:=false) pb j).no (f3.trans aS)) (by omega) (by omega) hr
variable {q c c1 c':Nat} {W:Wt} {y z a b d:T68} {v v':V} {p:Int} {e:D}
theorem vg {zs:List T68} (hg:gone y) (hk:(aq y).length≤4) (hz:aq y=a :: zs) (hw:wnt y 0=W.w (kof a)) {W':Wt} (h:Rn q W a c v c1 (some e)) (v0:V) (c0:Nat):Rn (q+1) W' y c v0 c0 (some e):=c8 (fun L tg ns f=>by
 obtain ⟨f1,f2⟩:=f.k (z:=a) 0 (by rw [hz];rfl)
 refine .pe hg hk ?_
 rw [hz]
 exact .er (h L tg ns f2 (f1.trans (by rw [hw])))) v0 c0
inductive Zs (q:Nat) (W:Wt):List T68→Nat→List Fl→Nat→Option D→Prop
 | nil {c:Nat}:Zs q W [] c [] c none
 | ok {z:T68} {zs:List T68} {c:Nat} {x:Fl} {xs:List Fl} {c1 c2:Nat} {d:Option D} (h:Rn q W z c (.fl x) c1 none) (hs:Zs q W zs c1 xs c2 d):Zs q W (z :: zs) c (x :: xs) c2 d
 | er {z:T68} {zs:List T68} {c:Nat} {v:V} {xs:List Fl} {c1 c2:Nat} {e:D} (h:Rn q W z c v c1 (some e)):Zs q W (z :: zs) c xs c2 (some e)
theorem Zs.sok {q:Nat} {W:Wt} {z:T68} {x:Fl} {c2:Nat} {d:Option D} {zs:List T68} {xs:List Fl} (h:Zs q W zs c xs c1 d):d=none→Rn q W z c1 (.fl x) c2 none→Zs q W (zs ++ [z]) c (xs ++ [x]) c2 none:=by
 induction h with
 | nil=>exact fun _ r=>.ok r .nil
 | ok h hs ih=>exact fun e r=>.ok h (ih e r)
 | er h=>exact fun e=>nomatch e
theorem Zs.ser {q:Nat} {W:Wt} {z:T68} {c2:Nat} {e:D} {d:Option D} {zs xs'} {xs:List Fl} (h:Zs q W zs c xs c1 d):d=none→Rn q W z c1 v c2 (some e)→∀ c3,Zs q W (zs ++ [z]) c (xs ++ xs') c3 (some e):=by
 induction h with
 | nil=>exact fun _ r c3=>.er r
 | ok h hs ih=>exact fun e r c3=>.ok h (ih e r c3)
 | er h=>exact fun e=>nomatch e
theorem Zs.sad {q:Nat} {W:Wt} {c2:Nat} {e:D} {d:Option D} {zs zs' xs'} {xs:List Fl} (h:Zs q W zs c xs c1 d):d=some e→Zs q W (zs ++ zs') c (xs ++ xs') c2 (some e):=by
 induction h with
 | nil=>exact fun e=>nomatch e
 | ok h hs ih=>exact fun e=>.ok h (ih e)
 | er h=>exact fun e=>by cases e;exact .er h
section
variable {L:AlG Rw} {tg pl:Bool} {ns:List Int}
theorem Zs.pc {zs:List T68} {xs:List Fl} {d:Option D} (h:Zs q W zs c xs c' d):∀ i,d=none→(∀ z∈zs,am L (.inl z.pl)=lkO pl (kof z) (W.w (kof z)) z.pl∧Ft L pl q z)→∀ (p:Int) (k:Kd) (all:List T68),Pc L tg ns q (.row p k all) i zs c (.ok (xs.map fD) c'):=by
 induction h with
 | nil=>exact fun _ _ _ _ _ _=>.nil
 | @ok z zs c x xs c1 c2 d h hs ih=>
   intro i hd f p k all
   obtain ⟨f1,f2⟩:=f z (ι ..)
   exact .go (h L pl tg ns f2 f1) (jg i) (ih (i+1) hd (fun z hz=>f z (κ _ hz)) p k all) rfl
 | er h=>exact fun _ e=>nomatch e
theorem Zs.pe {zs:List T68} {xs:List Fl} {d:Option D} (h:Zs q W zs c xs c' d):∀ i,d=some e→(∀ z∈zs,am L (.inl z.pl)=lkO false (kof z) (W.w (kof z)) z.pl∧Ft L false q z)→∀ (p:Int) (k:Kd) (all:List T68),Pc L tg ns q (.row p k all) i zs c (.er e):=by
 induction h with
 | nil=>exact fun _ e=>nomatch e
 | @ok z zs c x xs c1 c2 d h hs ih=>
   intro i hd f p k all
   obtain ⟨f1,f2⟩:=f z (ι ..)
   exact .go (h L false tg ns f2 f1) (jg i) (ih (i+1) hd (fun z hz=>f z (κ _ hz)) p k all) rfl
 | @er z zs c v xs c1 c2 e h=>
   intro i hd f p k all
   cases hd
   obtain ⟨f1,f2⟩:=f z (ι ..)
   exact .er (h L tg ns f2 f1)
theorem Ft.row {k:Kd} {zs:List T68} (f:Ft L pl (q+1) (.row p k zs)) (hk:∀ z∈zs,W.w (kof z)=k):∀ z∈zs,am L (.inl z.pl)=lkO pl (kof z) (W.w (kof z)) z.pl∧Ft L pl q z:=fun z hz=>by
 obtain ⟨i,hi⟩:=Ë.mp hz
 rw [hk z hz]
 exact f.k i hi
theorem jB {k:Kd} {zs:List T68} {xs:List Fl} (h:Zs q W zs c xs c' none) (hk:∀ k',W.w k'=k) (l:zs.length≤4) (f:Ft L pl (q+1) (.row p k zs)):Vt L tg ns q (.row p k zs) c (.ok (vD tg pl (.row .no xs)) c'):=
 lW (h.pc 0 rfl (f.row fun _ _=>hk _) p k zs) l
theorem jA {k:Kd} {zs:List T68} {xs:List Fl} (h:Zs q W zs c xs c' (some e)) (hk:∀ k',W.w k'=k) (l:zs.length≤4) (f:Ft L false (q+1) (.row p k zs)):Vt L tg ns q (.row p k zs) c (.er e):=
 .pe (y:=.row p k zs) trivial l (h.pe 0 rfl (f.row fun _ _=>hk _) p k zs)
theorem zH {p2 p1 pr:Int} {zs:List T68} {xs:List Fl} (h:Ct L tg ns q (.row pr .truth zs) c (.ok (vW tg pl (.row (.tag .truth pr) xs) (.row .truth) (lbl pr [])) c')) (g:am L (.inl p1)=lkO pl .unt (.row .whole) p1):Vt L tg ns (q+1) (.as_ p2 (.row .whole) (.as_ p1 .unt (.row pr .truth zs))) c (.ok (vD tg pl (.row (.bad pr p1) xs)) c'):=by
 refine dM ?_
 have h2:=dM (p:=p1) (k:=.unt) h
 cases pl with
 | true=>exact h2.no (y:=.as_ p1 .unt (.row pr .truth zs)) (g.trans (ZZ (.inl rfl)))
 | false=>
   have g:=g.trans (ZY (by simp))
   exact h2.so (y:=.as_ p1 .unt (.row pr .truth zs)) g fun nt n hl=>by
    obtain ⟨x,h⟩:=xq (L:=L) (tg:=tg) (ns:=ns) (c:=c') (n:=n) hl (V.held (.row .no xs)) pr p1
    exact ⟨_,by simp,h⟩
end
theorem zk {zs:List T68} {xs:List Fl} (h:Zs q .whole zs c xs c' none) (l:zs.length≤4):Rn (q+1) .row (.row p .whole zs) c (.row .no xs) c' none:=
 cw (y:=.row p .whole zs) rfl fun L pl tg ns f=>jB h (fun _=>rfl) l f
theorem vk {pr:Int} {zs:List T68} {xs:List Fl} (h:Zs q .whole zs c xs c' none) (l:zs.length≤4):Rn (q+2) .row (.as_ p .unt (.row pr .whole zs)) c (.row (.tag .whole pr) xs) c' none:=
 rR (z:=.row pr .whole zs) (v:=.row .no xs) rfl .row fun L pl tg ns f=>jB h (fun _=>rfl) l f
theorem vj {p1 p2 pr:Int} {zs:List T68} {xs:List Fl} (h:Zs q .truth zs c xs c' none) (l:zs.length≤4):Rn (q+3) .row (.as_ p2 (.row .whole) (.as_ p1 .unt (.row pr .truth zs))) c (.row (.bad pr p1) xs) c' none:=
 cw (y:=.as_ p2 (.row .whole) (.as_ p1 .unt (.row pr .truth zs))) rfl fun L pl tg ns f=>by
  obtain ⟨f1,f2⟩:=f.k (z:=.as_ p1 .unt (.row pr .truth zs)) 0 rfl
  obtain ⟨f3,f4⟩:=f2.k (z:=.row pr .truth zs) 0 rfl
  exact zH (eS (V':=.row .no xs) (k:=.row .truth) (z:=.row pr .truth zs) .row rfl f3 (jB h (fun _=>rfl) l f4)) f1
theorem vm {k:Kd} {zs:List T68} {xs:List Fl} (h:Zs q W zs c xs c' (some e)) (hk:∀ k',W.w k'=k) (l:zs.length≤4) {W':Wt} (v0:V) (c0:Nat):Rn (q+1) W' (.row p k zs) c v0 c0 (some e):=c8 (fun L tg ns f=>jA h hk l f) v0 c0
theorem vn {g:Gd} {xs:List Fl} (h:Rn q .row a c (.row g xs) c' none):Rn (q+1) .whole (.size p a) c (.fl (.n xs.length)) c' none:=
 cw (y:=.size p a) rfl fun L pl tg ns f=>by
  obtain ⟨f1,f2⟩:=f.k (z:=a) 0 rfl
  exact vA (h L pl tg ns f2 f1)
theorem lO {g:Gd} (h:Rn q .row a c (.row g []) c1 none) (h2:Rn q .whole b c1 (.fl (.n 0)) c' none) (v0:V) (c0:Nat):Rn (q+1) .whole (.att p a b) c v0 c0 (some (eNo p)):=
 c8 (fun L tg ns f=>by
  obtain ⟨f1,f2⟩:=f.k (z:=a) 0 rfl
  obtain ⟨f3,f4⟩:=f.k (z:=b) 1 rfl
  exact sr (h L false tg ns f2 f1) (h2 L false tg ns f4 f3)) v0 c0
theorem BS {x:Fl} {xs:List Fl} (k:kof a = .row .whole) (h:Rn q .row a c (.row .no (x :: xs)) c1 none) (h2:Rn q .whole b c1 (.fl (.n 0)) c' none):Rn (q+1) .whole (.att p a b) c (.fl x) c' none:=
 cw (y:=.att p a b) (by show Kd.whole=(kof a).item;rw [k];rfl) fun L pl tg ns f=>by
  obtain ⟨f1,f2⟩:=f.k (z:=a) 0 rfl
  obtain ⟨f3,f4⟩:=f.k (z:=b) 1 rfl
  exact Cb (h L pl tg ns f2 f1) (h2 L pl tg ns f4 f3)
theorem m8 {L:AlG Rw} {tg pl:Bool} {ns:List Int} {x:Fl} {l:D} (hy:kof y = .unt) (h:Vt L tg ns q y c (.ok (vW tg pl (.fl x) .whole l) c')) (g:am L (.inl y.pl)=lkO pl (kof y) .whole y.pl):Ct L tg ns (q+1) y c (.ok (vD tg pl (.fl x)) c'):=by
 rw [hy] at g
 cases pl with
 | true=>exact h.no (g.trans (ZZ (.inl rfl)))
 | false=>
   have g:=g.trans (ZY (by simp))
   exact h.so g fun nt n hl=>⟨nt,by omega,p8 _ _ _ (k:=.whole) (w:=.whole) rfl _ _⟩
theorem zc {x:Fl} {xs:List Fl} {pr:Int} (k:kof a = .unt) (h:Rn q .row a c (.row (.tag .whole pr) (x :: xs)) c1 none) (h2:Rn q .whole b c1 (.fl (.n 0)) c' none):Rn (q+1) .whole (.att p a b) c (.fl x) c' none:=fun L pl tg ns f g=>by
 obtain ⟨f1,f2⟩:=f.k (z:=a) 0 rfl
 obtain ⟨f3,f4⟩:=f.k (z:=b) 1 rfl
 exact m8 (y:=.att p a b) (by show (kof a).item = .unt;rw [k];rfl) (zG (h L pl tg ns f2 f1) (h2 L pl tg ns f4 f3)) g
theorem za {x:Fl} {xs:List Fl} {p1 p2:Int} (h:Rn q .row a c (.row (.bad p1 p2) (x :: xs)) c1 none) (h2:Rn q .whole b c1 (.fl (.n 0)) c' none) (v0:V) (c0:Nat):Rn (q+1) .whole (.att p a b) c v0 c0 (some (bl (gr .whole) (lbl p2 ["item"]) (gr .truth) (lbl p1 ["item"]))):=
 c8 (fun L tg ns f=>by
  obtain ⟨f1,f2⟩:=f.k (z:=a) 0 rfl
  obtain ⟨f3,f4⟩:=f.k (z:=b) 1 rfl
  exact zF (h L false tg ns f2 f1) (h2 L false tg ns f4 f3)) v0 c0
theorem y9 {g:Gd} {xs:List Fl} (h:Rn q .row a c (.row g xs) c1 none) {v} (h2:Rn q .whole b c1 v c' (some e)) (v0:V) (c0:Nat):Rn (q+1) .whole (.att p a b) c v0 c0 (some e):=
 c8 (fun L tg ns f=>by
  obtain ⟨f1,f2⟩:=f.k (z:=a) 0 rfl
  obtain ⟨f3,f4⟩:=f.k (z:=b) 1 rfl
  exact .pe (y:=.att p a b) trivial (τ rfl) (.go (h L false tg ns f2 f1) (wi g xs) (.er (h2 L tg ns f4 f3)) rfl)) v0 c0
theorem jt {s:Sg} {i j:Int} {x:Fl} (hW:W.w s.kd=s.kd) (h:Rn q .whole a c (.fl (.n i)) c1 none) (h2:Rn q .whole b c1 (.fl (.n j)) c' none) (hi:i.natAbs<10 ^ 40) (hj:j.natAbs<10 ^ 40) (hr:oM p s i j = .ok x):Rn (q+1) W (.bin p s a b) c (.fl x) c' none:=
 cw (y:=.bin p s a b) hW fun L pl tg ns f=>by
  obtain ⟨f1,f2⟩:=f.k (z:=a) 0 rfl
  obtain ⟨f3,f4⟩:=f.k (z:=b) 1 rfl
  exact sy (pl:=pl) (h L pl tg ns f2 f1) (h2 L pl tg ns f4 f3) hi hj hr
theorem ve {s:Sg} {i:Int} (h:Rn q .whole a c (.fl (.n i)) c1 none) {v} (h2:Rn q .whole b c1 v c' (some e)) (v0:V) (c0:Nat):Rn (q+1) W (.bin p s a b) c v0 c0 (some e):=
 c8 (fun L tg ns f=>by
  obtain ⟨f1,f2⟩:=f.k (z:=a) 0 rfl
  obtain ⟨f3,f4⟩:=f.k (z:=b) 1 rfl
  exact .pe (y:=.bin p s a b) trivial (τ rfl) (.go (h L false tg ns f2 f1) (wj i) (.er (h2 L tg ns f4 f3)) rfl)) v0 c0
theorem BU {t:Bool} (h:Rn (q+2) .truth a c (.fl (.t t)) c' none) (hb:Li W b v) (hd:Li W d v') (e:kof d=kof b):Rn (q+3) W (.iff p a b d) c (if t then v else v') c' none:=
 cw (y:=.iff p a b d) hb.told fun L pl tg ns f=>by
  obtain ⟨f1,f2⟩:=f.k (z:=a) 0 rfl
  obtain ⟨f3,f4⟩:=f.k (z:=b) 1 rfl
  obtain ⟨f5,f6⟩:=f.k (z:=d) 2 rfl
  refine Cd (h L pl tg ns f2 f1) ?_
  cases t with
  | true=>exact (hb.vt f4).no (f3.trans aS)
  | false=>exact (hd.vt f6).no (f5.trans (by rw [e];exact aS))
theorem zh {v:V} (h:Rn q .truth a c v c' (some e)) (v0:V) (c0:Nat):Rn (q+1) W (.iff p a b d) c v0 c0 (some e):=
 c8 (fun L tg ns f=>by
  obtain ⟨f1,f2⟩:=f.k (z:=a) 0 rfl
  exact zJ (h L tg ns f2 f1)) v0 c0
variable {q c c1 c':Nat} {W:Wt} {y z a b d:T68} {v v':V} {p:Int} {e:D}
inductive Fa:T68→Option Int→Int→Int→Prop
 | lit {p p2}:Fa (.fn p "x" .unt (.whole p2 0)) none p p2
 | hid {ph p p2}:Fa (.as_ ph .unt (.fn p "x" .unt (.whole p2 0))) (some p) p p2
abbrev fnV (p p2:Int) (g:Option Int):V:=.to p "x" (.whole p2 0) g
section
variable {L:AlG Rw} {tg pl:Bool} {ns:List Int} {g:Option Int} {pf p2:Int}
theorem Fa.none (h:Fa a g pf p2) (f:Ft L pl (q+2) a):am L (.inl p2)=none:=by
 cases h with
 | lit=>exact (f.k (z:=.whole p2 0) 0 rfl).1.trans aS
 | hid=>exact ((f.k (z:=.fn pf "x" .unt (.whole p2 0)) 0 rfl).2.k (z:=.whole p2 0) 0 rfl).1.trans aS
theorem Fa.arg (h:Fa a g pf p2):(kof a).arg = .unt:=by cases h <;> rfl
theorem pk {pb i:Int} {n:Nat} (h:Fa a g pf p2) (f:Ft L pl (q+3) (.call p a (.as_ pb .whole b))) (h2:Rn (q+1) .whole b c1 (.fl (.n i)) n none):Ct L tg ns (q+2) (.as_ pb .whole b) c1 (.ok (vW tg pl (.fl (.n i)) .whole (lbl pb [])) n):=by
 obtain ⟨f3,f4⟩:=f.k (z:=.as_ pb .whole b) 1 rfl
 obtain ⟨f5,f6⟩:=f4.k (z:=b) 0 rfl
 have f3:am L (.inl pb)=lkO pl .whole (kof a).arg pb:=f3
 rw [h.arg] at f3
 exact eS (V':=.fl (.n i)) (k:=.whole) (z:=.as_ pb .whole b) .n rfl f3 (dM (h2 L pl tg ns f6 f5))
end
theorem BT {g:Option Int} {pf p2 pb i:Int} (h:Fa a g pf p2) (ha:Rn (q+2) .to a c (fnV pf p2 g) c1 none) (h2:Rn (q+1) .whole b c1 (.fl (.n i)) (c'+1) none):Rn (q+3) .whole (.call p a (.as_ pb .whole b)) c (.fl (.n 0)) c' none:=fun L pl tg ns f gy=>by
 obtain ⟨f1,f2⟩:=f.k (z:=a) 0 rfl
 have ha:=ha L pl tg ns f2 f1
 have hb:=pk (tg:=tg) (ns:=ns) h f h2
 have hd:=h.none f2
 cases h with
 | lit=>
   exact (lV (z:=.n 0) (p:=p) ha hb .n hd).no (y:=.call p (.fn pf "x" .unt (.whole p2 0)) (.as_ pb .whole b)) (gy.trans aS)
 | @hid ph _ _=>
   exact m8 (y:=.call p (.as_ ph .unt (.fn pf "x" .unt (.whole p2 0))) (.as_ pb .whole b)) rfl (Cc (z:=.n 0) (p:=p) ha hb .n hd) gy
theorem ze {g:Option Int} {pf p2 pb i:Int} (h:Fa a g pf p2) (ha:Rn (q+2) .to a c (fnV pf p2 g) c1 none) (h2:Rn (q+1) .whole b c1 (.fl (.n i)) 0 none) (v0:V) (c0:Nat):Rn (q+3) .whole (.call p a (.as_ pb .whole b)) c v0 c0 (some eSp):=
 c8 (fun L tg ns f=>by
  obtain ⟨f1,f2⟩:=f.k (z:=a) 0 rfl
  exact sA (ha L false tg ns f2 f1) (pk (tg:=tg) (ns:=ns) h f h2)) v0 c0
theorem zg {g:Option Int} {pf p2 pb:Int} {n:Nat} (ha:Rn (q+2) .to a c (fnV pf p2 g) c1 none) (h2:Rn (q+1) .whole b c1 v n (some e)) (v0:V) (c0:Nat):Rn (q+3) .whole (.call p a (.as_ pb .whole b)) c v0 c0 (some e):=
 c8 (fun L tg ns f=>by
  obtain ⟨f1,f2⟩:=f.k (z:=a) 0 rfl
  obtain ⟨f3,f4⟩:=f.k (z:=.as_ pb .whole b) 1 rfl
  obtain ⟨f5,f6⟩:=f4.k (z:=b) 0 rfl
  exact .pe (y:=.call p a (.as_ pb .whole b)) trivial (τ rfl) (.go (ha L false tg ns f2 f1) mL (.er (lY (h2 L tg ns f6 f5))) rfl)) v0 c0
theorem Oc.le:∀ {q q':Nat} {y:T68},Ok q y→Oc q y→Oc q' y
 | _,0,_,_,_=>trivial
 | 0,q'+1,y,o,_=>o.elim
 | q+1,q'+1,y,o,h=>fun i z hz=>⟨(h i z hz).1,(h i z hz).2.le (o.2.2 z (φ hz))⟩
theorem Ok.le:∀ {q q':Nat} {y:T68},q≤q'→Ok q y→Ok q' y
 | 0,_,_,_,o=>o.elim
 | q+1,q',y,h,o=>by
   obtain ⟨q',rfl⟩:∃ k,q'=k+1:=⟨q' - 1,by omega⟩
   exact ⟨o.1,o.2.1,fun k hk=>(o.2.2 k hk).le (by omega)⟩
structure Kn (q:Nat) (y:T68):Prop where
 o:Ok q y
 t:Tk y
 c:Oc q y
theorem Kn.le {q':Nat} (h:Kn q y) (l:q≤q'):Kn q' y:=⟨h.o.le l,h.t,h.c.le h.o⟩
theorem yQ {k w:Kd} (h:k=w∨occ k w=true):Cs k w:=by
 rcases h with h | h
 ·exact .inl h
 ·unfold occ at h
  split at h <;> first | exact .inr (.inl rfl) | exact .inr (.inr rfl) | cases h
theorem j3 (ho:own y) (hs:Sm y.pl) (hw:∀ k∈wks y,k.dep≤4) (hd:(kof y).dep≤4) (hi:∀ p c a b,y = .iff p c a b→kof b=kof a) (hk:∀ i z,(aq y)[i]? = some z→Kn q z∧(kof z=wnt y i∨occ (kof z) (wnt y i)=true)):Kn (q+1) y:=
 ⟨⟨ho,hs,fun k m=>by obtain ⟨i,hi⟩:=Ë.mp m;exact (hk i k hi).1.o⟩,.mk hw hd (fun i z h=>(hk i z h).1.t) (fun i z h=>yQ (hk i z h).2) hi,fun i z h=>⟨(hk i z h).2,(hk i z h).1.c⟩⟩
def Wt.kd:Wt→Kd
 | .whole=>.whole | .truth=>.truth | .row=>.row .whole | .to=>.to .unt .whole
theorem Wt.wk (W:Wt):W.w W.kd=W.kd:=by cases W <;> rfl
def As2 (W:Wt) (k:Kd):Prop:=k=W.kd∨k = .unt
theorem As2.occ {W:Wt} {k:Kd} (h:As2 W k):k=W.w k∨occ k (W.w k)=true:=by
 rcases h with rfl | rfl
 ·exact .inl W.wk.symm
 ·cases W <;> exact .inr rfl
structure Kw (q:Nat) (W:Wt) (y:T68):Prop extends Kn q y where
 k:As2 W (kof y)
theorem Kw.le {q':Nat} (h:Kw q W y) (l:q≤q'):Kw q' W y:=⟨h.toKn.le l,h.k⟩
theorem j8 {i j:Int} (h:-(2 ^ 64)<j∧j<2 ^ 64):opD .mul (.int i) (.int j)=some (.int (i * j)):=by
 show (if _ then _ else _)=_
 rw [ZZ (.inl (.inr h))]
theorem nH {a b:Int} (h:a=b):(a == b)=true:=by rw [h];exact ZT b
theorem a9 {a b:Int} (h:a≠b):(a == b)=false:=by simpa using h
theorem Bo (c:Int):c % 2=0∨c % 2=1:=by omega
theorem Bp (c:Int):c % 3=0∨c % 3=1∨c % 3=2:=by omega
theorem C5 (c:Int):c % 4=0∨c % 4=1∨c % 4=2∨c % 4=3:=by omega
theorem C6 (c:Int):c % 5=0∨c % 5=1∨c % 5=2∨c % 5=3∨c % 5=4:=by omega
theorem bg {a b k:Int} (h:a % b=k) (hb:0<b):opD .mod (.int a) (.int b)=some (.int k):=by
 show (if 0<b then some (D.int (a % b)) else none)=_;rw [ZZ hb,h]
theorem s9 (x:Int):0≤x % 999999999989∧x % 999999999989<999999999989:=⟨E7 _ (by decide),FF _ (by decide)⟩
theorem tj (ns:List Int) (k:Nat) (n:Nat) (st:List O):∃ c:Int,(0≤c∧c<999999999989)∧ac Γ (n+1) fX [.lst (ns.map .int),.int k] st = .ok (.int c) st:=by
 by_cases c:k<ns.length
 ·have e1:decide ((k:Int)<((ns.map D.int).length:Nat))=true:=by rw [Ν];exact ZW (by omega)
  have e2:ixD (.lst (ns.map D.int)) (.int (k:Int))=some (.int ns[k]):=by
   refine dP ?_
   rw [ϋ,Θ c]
   rfl
  refine ⟨_,s9 (ns[k] * 982451653+((k:Int)+1) * 104395303),?_⟩
  exact cA false [.t 2 true,.o 0 (.int ns[k]),.o 0 (.int (ns[k] * 982451653)),.o 1 (.int (((k:Int)+1) * 104395303))] (e1<|>e2<|>j8 (i:=ns[k]) (j:=982451653) (by decide)<|>j8 (i:=(k:Int)+1) (j:=104395303) (by decide)<|>Z) (by kernel_rfl)
 ·have e1:decide ((k:Int)<((ns.map D.int).length:Nat))=false:=by rw [Ν];exact ZV (by omega)
  refine ⟨_,s9 (0 * 982451653+((k:Int)+1) * 104395303),?_⟩
  exact cA false [.t 2 false,.o 2 (.int (((k:Int)+1) * 104395303))] (e1<|>j8 (i:=(k:Int)+1) (j:=104395303) (by decide)<|>Z) (by kernel_rfl)
abbrev ao (ns:List Int) (i b c:Int) (k:Nat):List O:=[.lst [.lst (ns.map .int),.int i,.int b,.int c,.int k]]
abbrev pl0 (b0 c:Int):Int:=(b0+7919 * (c+1)) % 9973
theorem sm0 (b0 c:Int):Sm (pl0 b0 c):=by unfold Sm pl0;omega
def Ci (x:Int):Prop:=0≤x∧x<10 ^ 13
section
variable {ns:List Int} {i b c:Int} {k n:Nat}
theorem aQ:ac Γ (n+1) i9 [.ref 0] (ao ns i b c k) = .ok (.int (pl0 b c)) (ao ns i b (c+1) k):=by kernel_rfl
theorem next (hi:0≤i):∃ x:Int,Ci x∧ac Γ (n+1) az [.ref 0] (ao ns i b c k) = .ok (.int x) (ao ns (i+1) b c k):=by
 by_cases c1:40<c
 ·have e1:decide ((40:Int)<c)=true:=ZW c1
  exact ⟨0,⟨by decide,by decide⟩,(aa false (aX 4 (e1) aZ) (by kernel_rfl))⟩
 ·have e1:decide ((40:Int)<c)=false:=ZV c1
  by_cases c2:(ns.length:Int)≤i+1
  ·have e2:decide (((ns.map D.int).length:Int)≤i+1)=true:=by rw [Ν];exact ZW c2
   exact ⟨0,⟨by decide,by decide⟩,(aa false (aX 4 (e1) (aX 4 (e2) aZ)) (by kernel_rfl))⟩
  ·have e2:decide (((ns.map D.int).length:Int)≤i+1)=false:=by rw [Ν];exact ZV c2
   obtain ⟨k,hk⟩:∃ k:Nat,i+1=k:=⟨(i+1).toNat,by omega⟩
   have kl:k<ns.length:=by omega
   have e3:ixD (.lst (ns.map .int)) (.int (i+1))=some (.int ns[k]):=by
    rw [hk]
    refine dP ?_
    rw [ϋ,Θ kl]
    rfl
   refine ⟨_,⟨(s9 (ns[k] * 982451653+(i+1) * 104395303)).1,by have:=(s9 (ns[k] * 982451653+(i+1) * 104395303)).2;omega⟩,?_⟩
   exact (aa false (aX 4 (e1) (aX 4 (e2) (aX 2 (e3) (aX 0 (j8 (i:=ns[k]) (j:=982451653) (by decide)) (aX 1 (j8 (i:=i+1) (j:=104395303) (by decide)) aZ))))) (by kernel_rfl))
theorem eN (z:T68):ac Γ (n+2) hU [.ref 0,z.toD] (ao ns i b c k) = .ok (T68.as_ (pl0 b c) .unt z).toD (ao ns i b (c+1) k):=(aa false (aX 0 (aQ (ns:=ns) (i:=i) (b:=b) (c:=c) (k:=k) (n:=n)) aZ) (by kernel_rfl))
theorem rY:ac Γ (n+1) cL [.ref 0] (ao ns i b c 0) = .ok eSp (ao ns i b c 0):=(aa false aZ (by kernel_rfl))
theorem rZ:ac Γ (n+1) cL [.ref 0] (ao ns i b c (k+1)) = .ok .non (ao ns i b c k):=by
 have e0:(((k+1:Nat):Int) == 0)=false:=a9 (by omega)
 have e2:((k+1:Nat):Int) - 1=(k:Int):=by omega
 have h:ac Γ (n+1) cL [.ref 0] (ao ns i b c (k+1)) = .ok .non [.lst [.lst (ns.map .int),.int i,.int b,.int c,.int (((k+1:Nat):Int) - 1)]]:=(aa false aZ (by kernel_rfl))
 rw [e2] at h
 exact h
def Wt.s:Wt→ν
 | .whole=>"whole" | .truth=>"truth" | .row=>"row" | .to=>"to"
theorem head (W:Wt) (S:List O):ac Γ (n+1) jU [.str W.s] S = .ok (gr (W.w .unt)) S:=by cases W <;> exact (aa false aZ (by kernel_rfl))
theorem Li.gg {W:Wt} {y:T68} {v:V} (h:Li W y v):gr (kof y)=gr (W.w .unt):=by cases h <;> rfl
def dN:Option D→D
 | none=>.non | some e=>e
theorem vI (W W':Wt) (y z:T68) (way:D) (S:List O):ac Γ (n+2) i8 [y.toD,way,.str W.s,z.toD,.str W'.s] S = .ok (bl (gr (W.w .unt)) (.tup [.int y.pl,.str "in",way]) (gr (W'.w .unt)) (.tup [.int z.pl,.str "in",way])) S:=
 (aa false (aX 0 (bT y S) (aX 0 (head (n:=n) W S) (aX 0 (bT z S) (aX 0 (head (n:=n) W' S) aZ)))) (by kernel_rfl))
end
def ind (b0 x c:Int):Int:=if pl0 b0 c=x then 1 else 0
def Gn (b0 x:Int):Nat→Int
 | 0=>0
 | n+1=>Gn b0 x n+ind b0 x n
def Gm (b0 x:Int):Nat→Int
 | 0=>0
 | n+1=>Gm b0 x n - ind b0 x (-((n:Int)+1))
def Gc (b0 x:Int):Int→Int
 | .ofNat n=>Gn b0 x n
 | .negSucc n=>Gm b0 x (n+1)
theorem wK (b0 x:Int):∀ c:Int,Gc b0 x (c+1)=Gc b0 x c+ind b0 x c
 | .ofNat n=>rfl
 | .negSucc 0=>by show (0:Int)=(0 - ind b0 x (-((0:Nat)+1)))+ind b0 x (Ů 0);show (0:Int)=(0 - ind b0 x (-1))+ind b0 x (-1);omega
 | .negSucc (n+1)=>by
   have e:(Ů (n+1))+1=Ů n:=by omega
   have e2:Ů (n+1) = -(((n+1:Nat):Int)+1):=by omega
   rw [e]
   show Gm b0 x (n+1)=(Gm b0 x (n+1) - ind b0 x (-(((n+1:Nat):Int)+1)))+ind b0 x (Ů (n+1))
   rw [← e2];omega
theorem u5 {b0 i j:Int} (h0:0≤i) (h1:i<j) (h2:j<9973) (e:pl0 b0 i=pl0 b0 j):False:=by
 unfold pl0 at e
 omega
theorem vE (b0 x:Int):∀ n:Nat,n≤9973→Gn b0 x n≤1∧(Gn b0 x n=1→∃ i:Nat,i<n∧pl0 b0 i=x)∧0≤Gn b0 x n
 | 0,_=>⟨by show (0:Int)≤1;decide,fun h=>ZX (show (0:Int)=1 from h) (by decide),Ľ _⟩
 | n+1,h=>by
   obtain ⟨h1,h2,h3⟩:=vE b0 x n (by omega)
   show Gn b0 x n+ind b0 x n≤1∧(Gn b0 x n+ind b0 x n=1→_)∧0≤Gn b0 x n+ind b0 x n
   unfold ind
   by_cases k:pl0 b0 n=x
   ·rw [ZZ k]
    have z:Gn b0 x n=0:=by
     refine DF fun q=>?_
     obtain ⟨i,hi,e⟩:=h2 (by omega)
     exact u5 (b0:=b0) (i:=i) (j:=n) (by omega) (by omega) (by omega) (e.trans k.symm)
    exact ⟨by omega,fun _=>⟨n,by omega,k⟩,by omega⟩
   ·rw [ZY k]
    exact ⟨by omega,fun q=>by obtain ⟨i,hi,e⟩:=h2 (by omega);exact ⟨i,by omega,e⟩,by omega⟩
def Pq (b0 c c':Int) (l:List Int):Prop:=(∀ x,(l.count x:Int)+Gc b0 x c≤Gc b0 x c')∧c≤c'
section
variable {b0 c c1 c':Int} {l l':List Int}
theorem Pq.nil:Pq b0 c c []:=⟨fun x=>by simp,Ľ _⟩
theorem Pq.one:Pq b0 c (c+1) [pl0 b0 c]:=⟨fun x=>by
 rw [wK]
 unfold ind
 rw [Ϝ,Å]
 by_cases k:pl0 b0 c=x
 ·rw [ZZ k,ZZ (by simpa using k)];omega
 ·rw [ZY k,ZY (by simpa using k)];omega,by omega⟩
theorem Pq.app (h:Pq b0 c c1 l) (h':Pq b0 c1 c' l'):Pq b0 c c' (l ++ l'):=⟨fun x=>by
 have:=h.1 x;have:=h'.1 x
 rw [ϟ];omega,by have:=h.2;have:=h'.2;omega⟩
theorem Pq.of (h:Pq b0 c c' l) (e:∀ x,l'.count x≤l.count x):Pq b0 c c' l':=⟨fun x=>by have:=h.1 x;have:=e x;omega,h.2⟩
theorem Pq.apart {n:Nat} (h:Pq b0 0 c' l) (hz:c'≤9973):l.Nodup:=by
 rw [List.nodup_iff_count]
 intro x
 obtain ⟨h1,h2⟩:=h
 obtain ⟨n,rfl⟩:∃ n:Nat,c'=n:=⟨c'.toNat,by omega⟩
 have:=h1 x
 have g:=(vE b0 x n (by omega)).1
 have e0:Gc b0 x 0=0:=rfl
 have e1:Gc b0 x n=Gn b0 x n:=rfl
 rw [e0,e1] at this
 omega
end
theorem gC:∀ {q q':Nat} {t:T68},Ok q t→q≤q'→ah q' t=ah q t
 | 0,_,_,o,_=>o.elim
 | q+1,0,_,_,h=>ZX h (by omega)
 | q+1,q'+1,t,o,h=>by
   show t.pl :: (aq t).flatMap (ah q')=t.pl :: (aq t).flatMap (ah q)
   congr 1
   have:∀ l:List T68,(∀ y∈l,ah q' y=ah q y)→l.flatMap (ah q')=l.flatMap (ah q):=fun l=>by
    induction l with
    | nil=>intro _;rfl
    | cons y r ih=>intro h;rw [ϩ,ϩ,h y (by simp),ih fun z hz=>h z (by simp [hz])]
   exact this _ fun y hy=>gC (o.2.2 y hy) (by omega)
theorem Li.kk {W:Wt} {y:T68} {v:V} (h:Li W y v):kof y=W.kd:=by cases h <;> rfl
theorem Wt.hn {W W':Wt} (h:W'≠W):W'.h≠W.h:=by cases W <;> cases W' <;> first | exact ZX rfl h | decide
section
variable {q:Nat} {W:Wt} {y z a b d:T68} {p:Int}
theorem kn0 (hs:Sm y.pl) (ho:own y) (hw:wks y = []) (hk:aq y = []) (hd:(kof y).dep≤4):Kn (q+1) y:=
 j3 ho hs (by rw [hw];exact fun _ h=>nomatch h) hd (fun p c a b e=>by rw [e] at hk;cases hk) fun i z h=>by rw [hk] at h;cases h
theorem kn1 (hs:Sm y.pl) (ho:own y) (hw:∀ k∈wks y,k.dep≤4) (hk:aq y = [a]) (hd:(kof y).dep≤4) (ha:Kn q a) (ca:kof a=wnt y 0∨occ (kof a) (wnt y 0)=true):Kn (q+1) y:=
 j3 ho hs hw hd (fun p c a b e=>by rw [e] at hk;cases hk) fun i z h=>by
  rw [hk] at h
  match i,h with
  | 0,h=>cases h;exact ⟨ha,ca⟩
  | i+1,h=>cases h
theorem kn2 (hs:Sm y.pl) (ho:own y) (hw:wks y = []) (hk:aq y = [a,b]) (hd:(kof y).dep≤4) (ha:Kn q a) (ca:kof a=wnt y 0∨occ (kof a) (wnt y 0)=true) (hb:Kn q b) (cb:kof b=wnt y 1∨occ (kof b) (wnt y 1)=true):Kn (q+1) y:=
 j3 ho hs (by rw [hw];exact fun _ h=>nomatch h) hd (fun p c a b e=>by rw [e] at hk;cases hk) fun i z h=>by
  rw [hk] at h
  match i,h with
  | 0,h=>cases h;exact ⟨ha,ca⟩
  | 1,h=>cases h;exact ⟨hb,cb⟩
  | i+2,h=>cases h
theorem lx {k:Kd} {zs:List T68} (hs:Sm p) (hl:zs.length≤4) (hk:k.dep≤3) (h:∀ z∈zs,Kn q z∧(kof z=k∨occ (kof z) k=true)):Kn (q+1) (.row p k zs):=
 j3 hl hs (fun k' m=>by rw [η.mp m];omega) (by show 1+k.dep≤4;omega) (fun p c a b e=>nomatch e) fun i z m=>h z (φ m)
theorem fg {k:Kd} (hs:Sm p) (hk:k.dep≤4) (ha:Kn q a) (ca:kof a=k∨occ (kof a) k=true):Kn (q+1) (.as_ p k a):=
 kn1 hs trivial (fun k' m=>by rw [η.mp m];exact hk) rfl hk ha ca
theorem Wt.oc (W:Wt):W.kd = .unt∨occ W.kd .unt=true:=by cases W <;> exact .inr rfl
end
section
variable {ns:List Int} {i b c:Int} {k n:Nat}
theorem lit (W:Wt):∃ (y:T68) (v:V) (c':Int),Li W y v∧Kn 2 y∧Pq b c c' (ah 2 y)∧c'≤c+3∧ac Γ (n+3) k8 [.ref 0,.str W.s] (ao ns i b c k) = .ok y.toD (ao ns i b c' k):=by
 have p1:=aQ (ns:=ns) (i:=i) (b:=b) (c:=c) (k:=k) (n:=n+1)
 have p2:=aQ (ns:=ns) (i:=i) (b:=b) (c:=c+1) (k:=k) (n:=n+1)
 have p3:=aQ (ns:=ns) (i:=i) (b:=b) (c:=c+1+1) (k:=k) (n:=n+1)
 have s1:=sm0 b c
 have s2:=sm0 b (c+1)
 have s3:=sm0 b (c+1+1)
 cases W with
 | whole=>exact ⟨.whole (pl0 b c) 0,_,c+1,.n,kn0 s1 trivial rfl rfl (τ rfl),.one,by omega,(aa false (aX 0 (p1) aZ) (by kernel_rfl))⟩
 | truth=>exact ⟨.truth (pl0 b c) (i % 2 == 0),_,c+1,.t,kn0 s1 trivial rfl rfl (τ rfl),.one,by omega,(aa false (aX 0 (p1) aZ) (by kernel_rfl))⟩
 | to=>exact ⟨.fn (pl0 b c) "x" .unt (.whole (pl0 b (c+1)) 0),_,c+1+1,.f,kn1 s1 trivial (fun k' m=>by rw [η.mp m];decide) rfl (τ rfl) (kn0 s2 trivial rfl rfl (τ rfl)) (.inl rfl),Pq.app .one .one,by omega,(aa false (aX 0 (p1) (aX 0 (p2) aZ)) (by kernel_rfl))⟩
 | row=>exact ⟨.row (pl0 b c) .whole [.whole (pl0 b (c+1)) 0,.whole (pl0 b (c+1+1)) 0],_,c+1+1+1,.r,lx s1 (τ rfl) (by decide) (fun z m=>by
  rcases π.mp m with rfl | m
  ·exact ⟨kn0 s2 trivial rfl rfl (τ rfl),.inl rfl⟩
  ·rw [η.mp m];exact ⟨kn0 s3 trivial rfl rfl (τ rfl),.inl rfl⟩),Pq.app .one (Pq.app .one .one),by omega,(aa false (aX 0 (p1) (aX 0 (p2) (aX 0 (p3) aZ))) (by kernel_rfl))⟩
end
structure Md (b0 e0 e1 Z:Int) (n0 n1 q:Nat) (W:Wt) (y:T68) (v:V) (d:Option D):Prop extends Kw q W y where
 p:Pq b0 e0 e1 (ah q y)
 z:e1≤e0+Z
 r:Rn q W y n0 v n1 d
theorem Md.le {b0 c c' Z Z':Int} {k k' q q':Nat} {W:Wt} {y:T68} {v:V} {d:Option D} (h:Md b0 c c' Z k k' q W y v d) (l:q≤q') (lz:Z≤Z'):Md b0 c c' Z' k k' q' W y v d:=
 ⟨h.toKw.le l,by rw [gC h.o l];exact h.p,by have:=h.z;omega,h.r.le l⟩
inductive Lv:Wt→T68→V→Prop
 | n {y:_}:Lv .whole y (.fl (.n 0))
 | t {y b:_}:Lv .truth y (.fl (.t b))
 | r0 {y:_} (h:kof y = .row .whole):Lv .row y (.row .no [.n 0,.n 0])
 | r1 {y p:_} (h:kof y = .unt):Lv .row y (.row (.tag .whole p) [.n 0,.n 0])
 | f {y g p p2:_} (h:Fa y g p p2):Lv .to y (fnV p p2 g)
theorem Li.lv {W:Wt} {y:T68} {v:V} (h:Li W y v):Lv W y v:=by
 cases h with
 | n=>exact .n
 | t=>exact .t
 | f=>exact .f .lit
 | r=>exact .r0 rfl
theorem Li.lvh {W:Wt} {y:T68} {v:V} {p:Int} (h:Li W y v):Lv W (.as_ p .unt y) (v.hide (kof y) y.pl):=by
 cases h with
 | n=>exact .n
 | t=>exact .t
 | f=>exact .f .hid
 | r=>exact .r1 rfl
section
variable {b c c1 c':Int} {k k' q:Nat} {W:Wt} {y z:T68} {v:V} {p:Int} {d:Option D}
theorem b5 {q:Nat} (h:Kn q y) (e:kof y=W.kd):Kw q W y:=⟨h,.inl e⟩
theorem rE (h:Pq b c c1 (ah q y)):Pq b c (c1+1) (ah (q+1) (.as_ (pl0 b c1) .unt y)):=(h.app .one).of fun x=>by
 show (pl0 b c1 :: (ah q y ++ [])).count x≤_
 rw [Ω,Ϝ,ϟ,Ϝ,Å];omega
theorem Pq.le {l:List Int} (h:Pq b c c1 l) {l':List Int} (h':Pq b c1 c' l'):Pq b c c' l':=(h.app h').of fun x=>by rw [ϟ];omega
theorem yF (h:Li W y v) (hk:Kn 2 y) (hp:Pq b c c' (ah 2 y)) (z:c'≤c+3):Md b c c' 9 k k 3 W y v none:=
 Md.le ⟨b5 hk h.kk,hp,z,zj (q:=0) h⟩ (by omega) (by omega)
theorem yE (h:Li W y v) (hk:Kn 2 y) (hp:Pq b c c' (ah 2 y)) (z:c'≤c+3):Md b c (c'+1) 9 k k 3 W (.as_ (pl0 b c') .unt y) (v.hide (kof y) y.pl) none:=
 ⟨⟨fg (sm0 b c') (by decide) hk (by rw [h.kk];exact W.oc),.inr rfl⟩,rE hp,by omega,rR (q:=1) h.hk h.fits fun L pl tg ns f=>h.vt f⟩
theorem uS {W':Wt} (h:Li W' y v) (hn:W'≠W) (hk:Kn 2 y) (hp:Pq b c c' (ah 2 y)) (z:c'≤c+3):Md b c (c'+1) 9 k k 3 W (.as_ (pl0 b c') .unt y) v (some (bl (gr (W.w .unt)) (lbl (pl0 b c') []) (gr (W'.w .unt)) (lbl y.pl []))):=
 ⟨⟨fg (sm0 b c') (by decide) hk (by rw [h.kk];exact W'.oc),.inr rfl⟩,rE hp,by omega,by
   have r:=vh (q:=1) (W:=W) (p:=pl0 b c') (c:=k) (by rw [h.hk];exact Wt.hn hn) h.fits (fun L pl tg ns f=>h.vt f) v k
   rw [h.gg] at r
   exact r⟩
theorem A3 {i:Int} {q:Nat}:Kn (q+1) (.whole (pl0 b c) i):=kn0 (sm0 b c) trivial rfl rfl (τ rfl)
theorem qU {e:D} (hk:Kn 2 y) (ky:kof y = .whole) (hp:Pq b c c' (ah 2 y)) (z:c'≤c+8) (h:∀ L tg ns,Ft L false 2 y→Vt L tg ns 1 y k (.er e)) (v:V):(W = .whole→Md b c c' 9 k k 3 W y v (some e))∧Md b c (c'+1) 9 k k 3 W (.as_ (pl0 b c') .unt y) v (some e):=
 ⟨fun hw=>Md.le ⟨b5 hk (by rw [ky,hw];rfl),hp,z,c8 h v k⟩ (by omega) (by omega),⟨⟨fg (sm0 b c') (by decide) hk (by rw [ky];exact .inr rfl),.inr rfl⟩,rE hp,by omega,rP (fun L tg ns f=>(h L tg ns f).er) v k⟩⟩
variable {ns:List Int} {i:Int} {n:Nat}
theorem mE {c2:Int} {x:ν} {u:Fl} {y2:T68} {v2:V} (h:Li W y (.fl u)) (hk:Kn 2 y) (hp:Pq b (c+1) c1 (ah 2 y)) (z:c1≤c+1+3) (h2:Li .truth y2 v2) (hk2:Kn 2 y2) (hp2:Pq b (c1+1) c2 (ah 2 y2)) (z2:c2≤c1+1+3):Md b c c2 9 (k+1) k 3 W (.call (pl0 b c1) (.fn (pl0 b c) x .unt y) y2) (.fl u) none∧Md b c c2 9 0 0 3 W (.call (pl0 b c1) (.fn (pl0 b c) x .unt y) y2) (.fl u) (some eSp):=by
 have hk:Kn 1 y:=by cases h <;> exact ⟨⟨trivial,hk.o.2.1,fun _ h=>nomatch h⟩,hk.t,fun _ _ h=>nomatch h⟩
 have p1:ah 2 y = [y.pl]:=by cases h <;> rfl
 cases h2 with
 | @t p2 t=>
   rw [p1] at hp
   have hp2:Pq b (c1+1) c2 [p2]:=hp2
   have kf:Kn 2 (.fn (pl0 b c) x .unt y):=kn1 (sm0 b c) trivial (fun k' m=>by rw [η.mp m];decide) rfl (by rw [show kof (.fn (pl0 b c) x .unt y) = .to .unt (kof y) from rfl,h.kk];cases h <;> decide) hk (.inl rfl)
   have kc:Kn 3 (.call (pl0 b c1) (.fn (pl0 b c) x .unt y) (.truth p2 t)):=kn2 (sm0 b c1) trivial rfl rfl (by rw [show kof (.call (pl0 b c1) (.fn (pl0 b c) x .unt y) (.truth p2 t))=kof y from rfl,h.kk];cases h <;> decide) kf (.inl rfl) hk2 (.inr rfl)
   have pq:Pq b c c2 (ah 3 (.call (pl0 b c1) (.fn (pl0 b c) x .unt y) (.truth p2 t))):=(Pq.one.app (hp.app (Pq.one.app hp2))).of fun w=>by
    have e:ah 1 y = [y.pl]:=by cases h <;> rfl
    show (pl0 b c1 :: ((pl0 b c :: (ah 1 y ++ [])) ++ ([p2] ++ []))).count w≤_
    rw [e]
    simp only [Ϝ,ϟ,Å]
    omega
   exact ⟨⟨b5 kc h.kk,pq,by omega,vf (q:=0) h⟩,⟨b5 kc h.kk,pq,by omega,rQ (q:=0) _ _⟩⟩
theorem uT {c2:Int} {v2:V} {y2:T68} (h2:Li .whole y2 v2) (hk2:Kn 2 y2) (hp2:Pq b (c+1+1) c2 (ah 2 y2)) (z2:c2≤c+1+1+3):(W = .whole→Md b c c2 9 k k 3 W (.att (pl0 b c) (.row (pl0 b (c+1)) .whole []) y2) (.fl (.n 0)) (some (eNo (pl0 b c))))∧Md b c (c2+1) 9 k k 3 W (.as_ (pl0 b c2) .unt (.att (pl0 b c) (.row (pl0 b (c+1)) .whole []) y2)) (.fl (.n 0)) (some (eNo (pl0 b c))):=by
 cases h2 with
 | @n p2=>
   have hp2:Pq b (c+1+1) c2 [p2]:=hp2
   have kr:Kn 1 (.row (pl0 b (c+1)) .whole []):=lx (sm0 b (c+1)) (ϲ _) (by decide) fun z m=>nomatch m
   have kc:Kn 2 (.att (pl0 b c) (.row (pl0 b (c+1)) .whole []) (.whole p2 0)):=kn2 (sm0 b c) trivial rfl rfl (τ rfl) kr (.inl rfl) ⟨⟨trivial,hk2.o.2.1,fun _ h=>nomatch h⟩,hk2.t,fun _ _ h=>nomatch h⟩ (.inl rfl)
   exact qU kc rfl (Pq.one.app (Pq.one.app hp2)) (by omega) (fun L tg ns f=>vz (q:=0) f) _
theorem qV {c1 g:Int} {l:List Int} (hp:Pq b c c1 l) (z:c1≤c+5) (hg:10 ^ 20≤g∧g<10 ^ 30):(W = .whole→Md b c (c1+1+1+1) 9 k k 3 W (.bin (pl0 b (c1+1)) .mul (.whole (pl0 b c1) g) (.whole (pl0 b (c1+1+1)) (10 ^ 20))) (.fl (.n 0)) (some (eGr (pl0 b (c1+1)))))∧Md b c (c1+1+1+1+1) 9 k k 3 W (.as_ (pl0 b (c1+1+1+1)) .unt (.bin (pl0 b (c1+1)) .mul (.whole (pl0 b c1) g) (.whole (pl0 b (c1+1+1)) (10 ^ 20)))) (.fl (.n 0)) (some (eGr (pl0 b (c1+1)))):=
 qU (c':=c1+1+1+1) (kn2 (y:=.bin (pl0 b (c1+1)) .mul (.whole (pl0 b c1) g) (.whole (pl0 b (c1+1+1)) (10 ^ 20))) (sm0 b (c1+1)) trivial rfl rfl (τ rfl) A3 (.inl rfl) A3 (.inl rfl)) rfl (hp.le ((Pq.one.app (Pq.one.app Pq.one)).of fun w=>by
  show (pl0 b (c1+1) :: ([pl0 b c1] ++ ([pl0 b (c1+1+1)] ++ []))).count w≤_
  simp only [Ϝ,ϟ,Å]
  omega)) (by omega) (fun L tg ns f=>sB (q:=0) hg ⟨by decide,by decide⟩ f) _
def oth:Wt→List D
 | .whole=>[.str "truth",.str "row",.str "to"] | .truth=>[.str "whole",.str "row",.str "to"] | .row=>[.str "whole",.str "truth",.str "to"] | .to=>[.str "whole",.str "truth",.str "row"]
theorem yX (W:Wt) (x:Int):∃ W':Wt,W'≠W∧ixD (.lst (oth W)) (.int (x % 3))=some (.str W'.s):=by
 rcases Bp x with h | h | h <;> rw [h] <;> cases W <;> first | exact ⟨.whole,nofun,rfl⟩ | exact ⟨.truth,nofun,rfl⟩ | exact ⟨.row,nofun,rfl⟩ | exact ⟨.to,nofun,rfl⟩
end
section
variable {ns:List Int} {i b c:Int} {k n:Nat}
inductive Dv:D→Prop
 | s:Dv eSp
 | n {p:_}:Dv (eNo p)
 | g {p:_}:Dv (eGr p)
 | b {W W':Wt} {p p' w:_}:Dv (bl (gr (W.w .unt)) (lbl p w) (gr (W'.w .unt)) (lbl p' w))
def Tu (d:Option D):Prop:=d=none∨∃ l,d=some (.tup l)∧Dv (.tup l)
def LfO (ns:List Int) (i b c:Int) (k n:Nat) (W:Wt):Prop:=∃ (y:T68) (v:V) (d:Option D) (c':Int) (k':Nat),Md b c c' 9 k k' 3 W y v d∧Tu d∧(d=none→Lv W y v)∧ac Γ (n+6) jV [.ref 0,.str W.s] (ao ns i b c k) = .ok (.lst [y.toD,dN d]) (ao ns (i+1) b c' k')
theorem um {W:Wt} {x:Int} (hn:ac Γ (n+5) az [.ref 0] (ao ns i b c k) = .ok (.int x) (ao ns (i+1) b c k)) (h:x % 16=3):LfO ns i b c k n W:=by
 obtain ⟨W',hW,hx⟩:=yX W (x / 16)
 obtain ⟨y,v,c',hy,ky,py,zy,ey⟩:=lit (ns:=ns) (i:=i+1) (b:=b) (c:=c) (k:=k) (n:=n+2) W'
 have hh:=eN (ns:=ns) (i:=i+1) (b:=b) (c:=c') (k:=k) (n:=n+3) y
 have hb:=vI (n:=n+3) W W' (.as_ (pl0 b c') .unt y) y (.tup []) (ao ns (i+1) b (c'+1) k)
 refine ⟨_,_,_,_,_,uS hy hW ky py zy,.inr ⟨_,rfl,.b⟩,nofun,?_⟩
 cases W <;> exact (aa false (aX 0 (hn) (aX 0 (bg h (by decide)) (aX 15 (hx) (aX 0 (ey) (aX 0 (hh) (aX 0 (hb) aZ)))))) (by kernel_rfl))
theorem mz {W:Wt} {x:Int} (hn:ac Γ (n+5) az [.ref 0] (ao ns i b c k) = .ok (.int x) (ao ns (i+1) b c k)) (h:x % 16=4∨x % 16=5) (hW:W = .whole∨W = .truth):LfO ns i b c k n W:=by
 obtain ⟨y,v,c1,hy,ky,py,zy,ey⟩:=lit (ns:=ns) (i:=i+1) (b:=b) (c:=c+1) (k:=k) (n:=n+2) W
 obtain ⟨y2,v2,c2,hy2,ky2,py2,zy2,ey2⟩:=lit (ns:=ns) (i:=i+1) (b:=b) (c:=c1+1) (k:=k) (n:=n+2) .truth
 have p1:=aQ (ns:=ns) (i:=i+1) (b:=b) (c:=c) (k:=k) (n:=n+4)
 have p2:=aQ (ns:=ns) (i:=i+1) (b:=b) (c:=c1) (k:=k) (n:=n+4)
 obtain ⟨u,rfl⟩:∃ u,v = .fl u:=by
  rcases hW with rfl | rfl <;> cases hy <;> exact ⟨_,rfl⟩
 have lv:Lv W (.call (pl0 b c1) (.fn (pl0 b c) (ħ "abcdefgh" none (some (1+x / 16 % 8))) .unt y) y2) (.fl u):=by cases hy <;> constructor
 cases k with
 | zero=>
   have sp:=rY (ns:=ns) (i:=i+1) (b:=b) (c:=c2) (n:=n+4)
   refine ⟨_,_,_,c2,0,(mE (k:=0) (x:=ħ "abcdefgh" none (some (1+x / 16 % 8))) hy ky py zy hy2 ky2 py2 zy2).2,.inr ⟨_,rfl,.s⟩,nofun,?_⟩
   rcases h with h | h <;> rcases hW with rfl | rfl <;> exact (aa false (aX 0 (hn) (aX 0 (bg h (by decide)) (aX 0 (p1) (aX 0 (ey) (aX 0 (p2) (aX 0 (ey2) (aX 0 (sp) aZ))))))) (by kernel_rfl))
 | succ k=>
   have sp:=rZ (ns:=ns) (i:=i+1) (b:=b) (c:=c2) (k:=k) (n:=n+4)
   refine ⟨_,_,_,c2,k,(mE (x:=ħ "abcdefgh" none (some (1+x / 16 % 8))) hy ky py zy hy2 ky2 py2 zy2).1,.inl rfl,fun _=>lv,?_⟩
   rcases h with h | h <;> rcases hW with rfl | rfl <;> exact (aa false (aX 0 (hn) (aX 0 (bg h (by decide)) (aX 0 (p1) (aX 0 (ey) (aX 0 (p2) (aX 0 (ey2) (aX 0 (sp) aZ))))))) (by kernel_rfl))
theorem uo {W:Wt} {x:Int} (hn:ac Γ (n+5) az [.ref 0] (ao ns i b c k) = .ok (.int x) (ao ns (i+1) b c k)) (h:x % 16=6):LfO ns i b c k n W:=by
 obtain ⟨y2,v2,c2,hy2,ky2,py2,zy2,ey2⟩:=lit (ns:=ns) (i:=i+1) (b:=b) (c:=c+1+1) (k:=k) (n:=n+2) .whole
 have p1:=aQ (ns:=ns) (i:=i+1) (b:=b) (c:=c) (k:=k) (n:=n+4)
 have p2:=aQ (ns:=ns) (i:=i+1) (b:=b) (c:=c+1) (k:=k) (n:=n+4)
 have md:=uT (W:=W) (k:=k) hy2 ky2 py2 zy2
 have hh:=eN (ns:=ns) (i:=i+1) (b:=b) (c:=c2) (k:=k) (n:=n+3) (.att (pl0 b c) (.row (pl0 b (c+1)) .whole []) y2)
 cases W with
 | whole=>exact ⟨_,_,_,c2,k,md.1 rfl,.inr ⟨_,rfl,.n⟩,nofun,(aa false (aX 0 (hn) (aX 0 (bg h (by decide)) (aX 0 (p1) (aX 0 (p2) (aX 0 (ey2) aZ))))) (by kernel_rfl))⟩
 | truth=>exact ⟨_,_,_,c2+1,k,md.2,.inr ⟨_,rfl,.n⟩,nofun,(aa false (aX 0 (hn) (aX 0 (bg h (by decide)) (aX 0 (p1) (aX 0 (p2) (aX 0 (ey2) (aX 0 (hh) aZ)))))) (by kernel_rfl))⟩
 | row=>exact ⟨_,_,_,c2+1,k,md.2,.inr ⟨_,rfl,.n⟩,nofun,(aa false (aX 0 (hn) (aX 0 (bg h (by decide)) (aX 0 (p1) (aX 0 (p2) (aX 0 (ey2) (aX 0 (hh) aZ)))))) (by kernel_rfl))⟩
 | to=>exact ⟨_,_,_,c2+1,k,md.2,.inr ⟨_,rfl,.n⟩,nofun,(aa false (aX 0 (hn) (aX 0 (bg h (by decide)) (aX 0 (p1) (aX 0 (p2) (aX 0 (ey2) (aX 0 (hh) aZ)))))) (by kernel_rfl))⟩
theorem qG {W:Wt} {x:Int} (hn:ac Γ (n+5) az [.ref 0] (ao ns i b c k) = .ok (.int x) (ao ns (i+1) b c k)) (h:x % 16=7):LfO ns i b c k n W:=by
 obtain ⟨y2,v2,c2,hy2,ky2,py2,zy2,ey2⟩:=lit (ns:=ns) (i:=i+1) (b:=b) (c:=c+1+1) (k:=k) (n:=n+2) .whole
 have p1:=aQ (ns:=ns) (i:=i+1) (b:=b) (c:=c) (k:=k) (n:=n+4)
 have p2:=aQ (ns:=ns) (i:=i+1) (b:=b) (c:=c+1) (k:=k) (n:=n+4)
 have p3:=aQ (ns:=ns) (i:=i+1) (b:=b) (c:=c2) (k:=k) (n:=n+4)
 have p4:=aQ (ns:=ns) (i:=i+1) (b:=b) (c:=c2+1) (k:=k) (n:=n+4)
 have p5:=aQ (ns:=ns) (i:=i+1) (b:=b) (c:=c2+1+1) (k:=k) (n:=n+4)
 have md:=qV (W:=W) (k:=k) (g:=10 ^ 20+x / 16 % 1000) (Pq.one.app (Pq.one.app py2)) (by omega) (by omega)
 have hh:=eN (ns:=ns) (i:=i+1) (b:=b) (c:=c2+1+1+1) (k:=k) (n:=n+3) (.bin (pl0 b (c2+1)) .mul (.whole (pl0 b c2) (10 ^ 20+x / 16 % 1000)) (.whole (pl0 b (c2+1+1)) (10 ^ 20)))
 cases W with
 | whole=>exact ⟨_,_,_,_,k,md.1 rfl,.inr ⟨_,rfl,.g⟩,nofun,(aa false (aX 0 (hn) (aX 0 (bg h (by decide)) (aX 0 (p1) (aX 0 (p2) (aX 0 (ey2) (aX 0 (p3) (aX 0 (p4) (aX 0 (p5) aZ)))))))) (by kernel_rfl))⟩
 | truth=>exact ⟨_,_,_,_,k,md.2,.inr ⟨_,rfl,.g⟩,nofun,(aa false (aX 0 (hn) (aX 0 (bg h (by decide)) (aX 0 (p1) (aX 0 (p2) (aX 0 (ey2) (aX 0 (p3) (aX 0 (p4) (aX 0 (p5) (aX 0 (hh) aZ))))))))) (by kernel_rfl))⟩
 | row=>exact ⟨_,_,_,_,k,md.2,.inr ⟨_,rfl,.g⟩,nofun,(aa false (aX 0 (hn) (aX 0 (bg h (by decide)) (aX 0 (p1) (aX 0 (p2) (aX 0 (ey2) (aX 0 (p3) (aX 0 (p4) (aX 0 (p5) (aX 0 (hh) aZ))))))))) (by kernel_rfl))⟩
 | to=>exact ⟨_,_,_,_,k,md.2,.inr ⟨_,rfl,.g⟩,nofun,(aa false (aX 0 (hn) (aX 0 (bg h (by decide)) (aX 0 (p1) (aX 0 (p2) (aX 0 (ey2) (aX 0 (p3) (aX 0 (p4) (aX 0 (p5) (aX 0 (hh) aZ))))))))) (by kernel_rfl))⟩
theorem lA {W:Wt} {x:Int} (hn:ac Γ (n+5) az [.ref 0] (ao ns i b c k) = .ok (.int x) (ao ns (i+1) b c k)) (h:x % 16<3∨(x % 16=4∨x % 16=5)∧(W = .row∨W = .to)∨7<x % 16):LfO ns i b c k n W:=by
 obtain ⟨y,v,c',hy,ky,py,zy,ey⟩:=lit (ns:=ns) (i:=i+1) (b:=b) (c:=c) (k:=k) (n:=n+2) W
 have hh:=eN (ns:=ns) (i:=i+1) (b:=b) (c:=c') (k:=k) (n:=n+3) y
 by_cases e:x % 16 % 2=0
 ·refine ⟨y,v,none,c',k,yF hy ky py zy,.inl rfl,fun _=>hy.lv,?_⟩
  rcases h with h | ⟨h | h,hW⟩ | h
  ·have t1:decide ((3:Int)<x % 16)=false:=ZV (by omega)
   exact (aa false (aX 0 (hn) (aX 3 (a9 (show x % 16≠3 by omega)) (aX 1 (t1) (aX 2 (a9 (show x % 16≠6 by omega)) (aX 1 (a9 (show x % 16≠7 by omega)) (aX 2 (nH e) (aX 0 (ey) aZ))))))) (by kernel_rfl))
  ·rcases hW with rfl | rfl <;> exact (aa false (aX 0 (hn) (aX 0 (bg h (by decide)) (aX 0 (ey) aZ))) (by kernel_rfl))
  ·exact ZX e (by omega)
  ·have t1:decide ((3:Int)<x % 16)=true:=ZW (by omega)
   have t2:decide (x % 16<6)=false:=ZV (by omega)
   exact (aa false (aX 0 (hn) (aX 3 (a9 (show x % 16≠3 by omega)) (aX 1 (t1) (aX 1 (t2) (aX 2 (a9 (show x % 16≠6 by omega)) (aX 1 (a9 (show x % 16≠7 by omega)) (aX 2 (nH e) (aX 0 (ey) aZ)))))))) (by kernel_rfl))
 ·refine ⟨_,_,none,c'+1,k,yE hy ky py zy,.inl rfl,fun _=>hy.lvh,?_⟩
  rcases h with h | ⟨h | h,hW⟩ | h
  ·have t1:decide ((3:Int)<x % 16)=false:=ZV (by omega)
   exact (aa false (aX 0 (hn) (aX 3 (a9 (show x % 16≠3 by omega)) (aX 1 (t1) (aX 2 (a9 (show x % 16≠6 by omega)) (aX 1 (a9 (show x % 16≠7 by omega)) (aX 2 (a9 e) (aX 0 (ey) (aX 0 (hh) aZ)))))))) (by kernel_rfl))
  ·exact ZX (show x % 16 % 2=0 by omega) e
  ·rcases hW with rfl | rfl <;> exact (aa false (aX 0 (hn) (aX 0 (bg h (by decide)) (aX 0 (ey) (aX 0 (hh) aZ)))) (by kernel_rfl))
  ·have t1:decide ((3:Int)<x % 16)=true:=ZW (by omega)
   have t2:decide (x % 16<6)=false:=ZV (by omega)
   exact (aa false (aX 0 (hn) (aX 3 (a9 (show x % 16≠3 by omega)) (aX 1 (t1) (aX 1 (t2) (aX 2 (a9 (show x % 16≠6 by omega)) (aX 1 (a9 (show x % 16≠7 by omega)) (aX 2 (a9 e) (aX 0 (ey) (aX 0 (hh) aZ))))))))) (by kernel_rfl))
theorem qF (hi:0≤i) (W:Wt):LfO ns i b c k n W:=by
 obtain ⟨x,_,hn⟩:=next (ns:=ns) (i:=i) (b:=b) (c:=c) (k:=k) (n:=n+4) hi
 by_cases h3:x % 16=3
 ·exact um hn h3
 ·by_cases h6:x % 16=6
  ·exact uo hn h6
  ·by_cases h7:x % 16=7
   ·exact qG hn h7
   ·by_cases h4:x % 16=4∨x % 16=5
    ·cases W with
     | whole=>exact mz hn h4 (.inl rfl)
     | truth=>exact mz hn h4 (.inr rfl)
     | row=>exact lA hn (.inr (.inl ⟨h4,.inl rfl⟩))
     | to=>exact lA hn (.inr (.inl ⟨h4,.inr rfl⟩))
    ·exact lA hn (by omega)
end
def zP:Nat→Int
 | 0=>20
 | r+1=>2 * zP r+1
theorem fj:∀ r,20≤zP r
 | 0=>Ľ _
 | r+1=>by have:=fj r;show 20≤2 * zP r+1;omega
theorem oX (r:Nat):zP (r+1)=2 * zP r+1:=rfl
def Bd (r:Nat):Wt→V→Prop
 | .whole,v=>∃ i:Int,v = .fl (.n i)∧i.natAbs≤4 * 2 ^ r
 | .truth,v=>∃ t,v = .fl (.t t)
 | _,_=>False
theorem Bd.fl {r:Nat} {W:Wt} {v:V} (h:Bd r W v):∃ x,v = .fl x:=by
 cases W with
 | whole=>obtain ⟨i,h,_⟩:=h;exact ⟨_,h⟩
 | truth=>obtain ⟨i,h⟩:=h;exact ⟨_,h⟩
 | _=>exact h.elim
theorem rJ {a r s:Nat} (h:a≤4 * 2 ^ r) (l:r≤s):a≤4 * 2 ^ s:=Ϣ h (Ŷ 4 (F3 (by decide) l))
def PtO (r:Nat):Prop:=∀ (W:Wt),W = .whole∨W = .truth→∀ (ns:List Int) (i b c:Int) (k M:Nat),0≤i→3 * r+20≤M→∃ (y:T68) (v:V) (d:Option D) (i' c':Int) (k':Nat),0≤i'∧Md b c c' (zP r) k k' (r+2) W y v d∧Tu d∧(d=none→Bd r W v)∧ac Γ M aG [.ref 0,.str W.s,.int r] (ao ns i b c k) = .ok (.lst [y.toD,dN d]) (ao ns i' b c' k')
structure Rv (r:Nat) (W:Wt) (b c0:Int) (k0:Nat) (zs:List T68) (xs:List Fl) (c:Int) (k:Nat) (d:Option D):Prop where
 s:Zs (r+2) W zs k0 xs k d
 p:Pq b c0 c (zs.flatMap (ah (r+2)))
 z:c≤c0+zs.length * zP r
 w:∀ z∈zs,Kw (r+2) W z
 l:xs.length=zs.length
 b:d=none→∀ x∈xs,Bd r W (.fl x)
theorem Rv.nil {r:Nat} {W:Wt} {b c0:Int} {k0:Nat}:Rv r W b c0 k0 [] [] c0 k0 none:=⟨.nil,.nil,by simp,(fun _ h=>by cases h),rfl,(fun _ _ h=>by cases h)⟩
def dO:Option D→Option D→Option D
 | none,e=>e | d,_=>d
theorem Rv.put {r:Nat} {W:Wt} {b c0 c c':Int} {k0 k k':Nat} {zs:List T68} {xs:List Fl} {d d':Option D} {y:T68} {v:V} (h:Rv r W b c0 k0 zs xs c k d) (m:Md b c c' (zP r) k k' (r+2) W y v d') (hb:d'=none→Bd r W v):∃ x,Rv r W b c0 k0 (zs ++ [y]) (xs ++ [x]) c' k' (dO d d'):=by
 have p:Pq b c0 c' ((zs ++ [y]).flatMap (ah (r+2))):=by
  rw [F7,ϩ,FT,Ω]
  exact h.p.app m.p
 have z:c'≤c0+(zs ++ [y]).length * zP r:=by
  have:=h.z;have:=m.z
  rw [υ,ό,Gk,Int.add_mul];omega
 have w:∀ z∈zs ++ [y],Kw (r+2) W z:=fun z hz=>by
  rcases È.mp hz with hz | hz
  ·exact h.w z hz
  ·rw [η.mp hz];exact m.toKw
 have l:∀ x:Fl,(xs ++ [x]).length=(zs ++ [y]).length:=fun x=>by rw [υ,υ,h.l];rfl
 cases d with
 | some e=>exact ⟨.n 0,h.s.sad rfl,p,z,w,l _,nofun⟩
 | none=>
   cases d' with
   | some e=>exact ⟨.n 0,h.s.ser rfl m.r _,p,z,w,l _,nofun⟩
   | none=>
     obtain ⟨x,rfl⟩:=(hb rfl).fl
     refine ⟨x,h.s.sok rfl m.r,p,z,w,l _,fun _ x' hx=>?_⟩
     rcases È.mp hx with hx | hx
     ·exact h.b rfl x' hx
     ·rw [η.mp hx];exact hb rfl
section
variable {a b c d:Option D} {n:Nat} {S:List O}
theorem Tu.o (ha:Tu a) (hb:Tu b):Tu (dO a b):=by
 rcases ha with rfl | ⟨l,rfl,dl⟩
 ·exact hb
 ·exact .inr ⟨l,rfl,dl⟩
theorem AK (ha:Tu a) (hb:Tu b):ac Γ (n+1) dW [.lst [dN a,dN b]] S = .ok (dN (dO a b)) S:=by
 rcases ha with rfl | ⟨l,rfl,dl⟩
 ·rcases hb with rfl | ⟨l,rfl,dl⟩
  ·kernel_rfl
  ·kernel_rfl
 ·kernel_rfl
theorem CW (ha:Tu a) (hb:Tu b) (hc:Tu c) (hd:Tu d):ac Γ (n+1) dW [.lst [dN a,dN b,dN c,dN d]] S = .ok (dN (dO a (dO b (dO c d)))) S:=by
 rcases ha with rfl | ⟨l,rfl,dl⟩
 ·rcases hb with rfl | ⟨l,rfl,dl⟩
  ·rcases hc with rfl | ⟨l,rfl,dl⟩
   ·rcases hd with rfl | ⟨l,rfl,dl⟩
    ·kernel_rfl
    ·kernel_rfl
   ·kernel_rfl
  ·kernel_rfl
 ·kernel_rfl
end
theorem mI {c:Int} {n:Int} (h:0<n):∃ k:Nat,c % n=k∧(k:Int)<n:=⟨(c % n).toNat,by have:=E7 c (b:=n) (by omega);omega,by have:=E7 c (b:=n) (by omega);have:=FF c h;omega⟩
theorem zl (m:Nat) (h:m<1000):(itD .range1 [.int (m:Int)]).map D.lst=some (.lst (fy 0 m)):=by
 unfold itD AZ
 dsimp only
 rw [ZZ ⟨by omega,by omega⟩,Dy];rfl
abbrev rB:S:=cX kT.body
abbrev rK (r:Nat) (cell t:Int) (W:Wt) (d:Option D) (zs:List T68) (e7 e8:Option D):List (Option D):=[some (.ref 0),some (.int ((r+3:Nat):Int)),some (.int cell),some (dN d),some (.lst (toDs zs)),some (.int t),some (.str W.s),e7,e8,none,none,none]
theorem oR (zs:List T68) (y:T68):toDs zs ++ [y.toD]=toDs (zs ++ [y]):=by rw [eE,eE,Ô];rfl
theorem kg {r:Nat} (P:PtO r) {W:Wt} (hW:W = .whole∨W = .truth) {ns:List Int} {b c0 cell t:Int} {k0 m:Nat} (hm:3 * r+20≤m):∀ (l:List D) (zs:List T68) (xs:List Fl) (i c:Int) (k:Nat) (d:Option D) (e7 e8:Option D),l.length+zs.length<1000→0≤i→Rv r W b c0 k0 zs xs c k d→Tu d→∃ (zs':List T68) (xs':List Fl) (i' c':Int) (k':Nat) (d' e7' e8':Option D),0≤i'∧Rv r W b c0 k0 zs' xs' c' k' d'∧Tu d'∧zs'.length=zs.length+l.length∧bo (hH Γ (ac Γ m) (bP Γ m) [7] true rB) l ⟨rK r cell t W d zs e7 e8,[4],ao ns i b c k⟩ = .nx ⟨rK r cell t W d' zs' e7' e8',[4],ao ns i' b c' k'⟩
 | [],zs,xs,i,c,k,d,e7,e8,_,hi,h,td=>⟨zs,xs,i,c,k,d,e7,e8,hi,h,td,rfl,rfl⟩
 | x :: l,zs,xs,i,c,k,d,e7,e8,hl,hi,h,td=>by
   rw [Ι] at hl
   obtain ⟨y,v,d1,i1,c1,k1,hi1,m1,t1,b1,ex⟩:=P W hW ns i b c k m hi hm
   obtain ⟨x1,h1⟩:=h.put m1 b1
   obtain ⟨zs',xs',i',c',k',d',e7',e8',g1,g2,g3,g4,g5⟩:=kg P hW hm l (zs ++ [y]) (xs ++ [x1]) i1 c1 k1 (dO d d1) (some x) (some (.lst [y.toD,dN d1])) (by rw [υ,ό];omega) hi1 h1 (td.o t1)
   refine ⟨zs',xs',i',c',k',d',e7',e8',g1,g2,g3,by rw [g4,υ,ό,Ι];omega,?_⟩
   have la:decide ((toDs zs).length<100000)=true:=ZW (by rw [eD];omega)
   have e3:(((r+3:Nat):Int) - 3)=(r:Int):=by omega
   have ex':ac Γ m aG [.ref 0,.str W.s,.int (((r+3:Nat):Int) - 3)] (ao ns i b c k) = .ok (.lst [y.toD,dN d1]) (ao ns i1 b c1 k1):=by rw [e3];exact ex
   have st:hH Γ (ac Γ m) (bP Γ m) [7] true rB x ⟨rK r cell t W d zs e7 e8,[4],ao ns i b c k⟩ = .nx ⟨rK r cell t W (dO d d1) (zs ++ [y]) (some x) (some (.lst [y.toD,dN d1])),[4],ao ns i1 b c1 k1⟩:=by
    unfold rK
    rw [← oR]
    refine cq rfl ?_
    rcases td with rfl | ⟨l,rfl,dl⟩
    ·exact (iV false (aX 0 (ex') (aX 1 (la) aZ)) (by kernel_rfl))
    ·exact (iV false (aX 0 (ex') (aX 1 (la) aZ)) (by kernel_rfl))
   exact ba st g5
def zZ (p1 p2:Int):D:=bl (gr .whole) (lbl p2 ["item"]) (gr .truth) (lbl p1 ["item"])
inductive Rg (r:Nat):T68→V→Nat→Option D→Prop
 | no {y xs} (h:kof y = .row .whole) (hl:xs.length≤3) (hb:∀ x∈xs,Bd r .whole (.fl x)):Rg r y (.row .no xs) xs.length none
 | tag {y p xs} (h:kof y = .unt) (hl:xs.length≤3) (hb:∀ x∈xs,Bd r .whole (.fl x)):Rg r y (.row (.tag .whole p) xs) xs.length none
 | bad {y p1 p2 xs} (hl:xs.length≤3):Rg r y (.row (.bad p1 p2) xs) xs.length (some (zZ p1 p2))
def RwO (s:Nat):Prop:=∀ (ns:List Int) (i b c:Int) (k M:Nat),0≤i→3 * s+21≤M→∃ (y:T68) (v:V) (d bad:Option D) (m:Nat) (i' c':Int) (k':Nat),0≤i'∧Md b c c' (zP (s+1) - 10) k k' (s+2) .row y v d∧Tu d∧Tu bad∧(d=none→Rg s y v m bad)∧ac Γ M cK [.ref 0,.int s] (ao ns i b c k) = .ok (.lst [y.toD,dN d,.int m,dN bad]) (ao ns i' b c' k')
section
variable {r:Nat} {W:Wt} {b c0 c:Int} {k0 k:Nat} {zs:List T68} {xs:List Fl} {d:Option D}
theorem jc {kd:Kd} (hk:∀ k',W.w k'=kd) (hd:kd.dep≤3) (h:Rv r W b c0 k0 zs xs c k d) (l:zs.length≤4):Kn (r+3) (.row (pl0 b c) kd zs)∧Pq b c0 (c+1) (ah (r+3) (.row (pl0 b c) kd zs)):=
 ⟨lx (sm0 b c) l hd fun z hz=>⟨(h.w z hz).toKn,by have:=(h.w z hz).k.occ;rwa [hk] at this⟩,(h.p.app .one).of fun w=>by
  show (pl0 b c :: zs.flatMap (ah (r+2))).count w≤_
  rw [Ϝ,ϟ,Ϝ,Å];omega⟩
theorem xi (h:Rv r W b c0 k0 zs xs c k d) (l:zs.length≤3):c≤c0+3 * zP r:=by
 have:=h.z
 have:=fj r
 have:(zs.length:Int) * zP r≤3 * zP r:=Int.mul_le_mul_of_nonneg_right (by omega) (by omega)
 omega
theorem uU (h:Rv r .whole b c0 k0 zs xs c k d) (l:zs.length≤3):Md b c0 (c+1) (3 * zP r+3) k0 k (r+3) .row (.row (pl0 b c) .whole zs) (.row .no xs) d:=by
 obtain ⟨h1,h2⟩:=jc (fun _=>rfl) (by decide) h (by omega)
 refine ⟨b5 h1 rfl,h2,by have:=xi h l;omega,?_⟩
 have hs:=h.s
 cases d with
 | none=>exact zk hs (by omega)
 | some e=>exact vm hs (fun _=>rfl) (by omega) _ _
theorem uV (h:Rv r .whole b c0 k0 zs xs c k d) (l:zs.length≤3):Md b c0 (c+1+1) (3 * zP r+3) k0 k (r+4) .row (.as_ (pl0 b (c+1)) .unt (.row (pl0 b c) .whole zs)) (.row (.tag .whole (pl0 b c)) xs) d:=by
 obtain ⟨h1,h2⟩:=jc (fun _=>rfl) (by decide) h (by omega)
 refine ⟨⟨fg (sm0 b (c+1)) (by decide) h1 (.inr rfl),.inr rfl⟩,rE h2,by have:=xi h l;omega,?_⟩
 have hs:=h.s
 cases d with
 | none=>exact vk hs (by omega)
 | some e=>exact rP (fun L tg ns f=>(jA hs (fun _=>rfl) (by omega) f).er) _ _
theorem uW (h:Rv r .truth b c0 k0 zs xs c k d) (l:zs.length≤3):Md b c0 (c+1+1+1) (3 * zP r+3) k0 k (r+5) .row (.as_ (pl0 b (c+1+1)) (.row .whole) (.as_ (pl0 b (c+1)) .unt (.row (pl0 b c) .truth zs))) (.row (.bad (pl0 b c) (pl0 b (c+1))) xs) d:=by
 obtain ⟨h1,h2⟩:=jc (fun _=>rfl) (by decide) h (by omega)
 refine ⟨b5 (fg (sm0 b (c+1+1)) (by decide) (fg (sm0 b (c+1)) (by decide) h1 (.inr rfl)) (.inr rfl)) rfl,((rE h2).app .one).of fun w=>?_,by have:=xi h l;omega,?_⟩
 ·show (pl0 b (c+1+1) :: (ah (r+3+1) (.as_ (pl0 b (c+1)) .unt (.row (pl0 b c) .truth zs)) ++ [])).count w≤_
  rw [Ω,Ϝ,ϟ,Ϝ,Å];omega
 ·have hs:=h.s
  cases d with
  | none=>exact vj hs (by omega)
  | some e=>exact rP (fun L tg ns f=>lY (jA hs (fun _=>rfl) (by omega) (f.k 0 rfl).2).er) _ _
end
theorem zn {s:Nat} (hs:1≤s) {ns:List Int} {i b c x:Int} {k m:Nat} (hi:0≤i) (hn:ac Γ (m+20) az [.ref 0] (ao ns i b c k) = .ok (.int x) (ao ns (i+1) b c k)) (h:(s:Int)<4∨x % 4=0):∃ (y:T68) (v:V) (d bad:Option D) (m':Nat) (i' c':Int) (k':Nat),0≤i'∧Md b c c' (zP (s+1) - 10) k k' (s+2) .row y v d∧Tu d∧Tu bad∧(d=none→Rg s y v m' bad)∧ac Γ (m+21) cK [.ref 0,.int s] (ao ns i b c k) = .ok (.lst [y.toD,dN d,.int m',dN bad]) (ao ns i' b c' k'):=by
 obtain ⟨y,v,d,c',k',md,td,lv,ex⟩:=qF (ns:=ns) (i:=i+1) (b:=b) (c:=c) (k:=k) (n:=m+14) (by omega) .row
 refine ⟨y,v,d,none,2,i+1+1,c',k',by omega,md.le (by omega) (by have:=fj (s+1);have:=fj s;rw [oX];omega),td,.inl rfl,fun e=>?_,?_⟩
 ·have bd:∀ x∈[Fl.n 0,Fl.n 0],Bd s .whole (.fl x):=fun x hx=>by
   have:x = .n 0:=by
    rcases π.mp hx with h | h
    ·exact h
    ·exact η.mp h
   exact ⟨0,by rw [this],ϲ _⟩
  cases lv e with
  | r0 h=>exact .no h (by decide) bd
  | r1 h=>exact .tag h (by decide) bd
 ·by_cases h4:(s:Int)<4
  ·have t1:decide ((s:Int)<4)=true:=ZW h4
   exact (aa false (aX 0 (hn) (aX 1 (t1) (aX 0 (ex) aZ))) (by kernel_rfl))
  ·have t1:decide ((s:Int)<4)=false:=ZV h4
   exact (aa false (aX 0 (hn) (aX 1 (t1) (aX 2 (nH (h.resolve_left h4)) (aX 0 (ex) aZ)))) (by kernel_rfl))
theorem zo {r:Nat} (P:PtO r) {ns:List Int} {i b c x:Int} {k m:Nat} (hi:0≤i) (hm:3 * r+20≤m+20) (hn:ac Γ (m+20) az [.ref 0] (ao ns i b c k) = .ok (.int x) (ao ns (i+1) b c k)) (h4:1≤r) (hx:x % 4≠0):∃ (y:T68) (v:V) (d bad:Option D) (m':Nat) (i' c':Int) (k':Nat),0≤i'∧Md b c c' (zP (r+4) - 10) k k' (r+5) .row y v d∧Tu d∧Tu bad∧(d=none→Rg (r+3) y v m' bad)∧ac Γ (m+21) cK [.ref 0,.int ((r+3:Nat):Int)] (ao ns i b c k) = .ok (.lst [y.toD,dN d,.int m',dN bad]) (ao ns i' b c' k'):=by
 have t1:decide (((r+3:Nat):Int)<4)=false:=ZV (by omega)
 obtain ⟨mm,hk,kl⟩:=mI (c:=x / 4) (n:=4) (by omega)
 have hr:=zl mm (by omega)
 have lr:(fy 0 mm).length=mm:=by unfold fy;rw [Ν,List.length_range]
 have zb:3 * zP r+3≤zP (r+4) - 10:=by have:=fj r;rw [oX,oX,oX,oX];omega
 have go:=fun (W:Wt) (hW:W = .whole∨W = .truth) (t:Int)=>kg P hW (ns:=ns) (b:=b) (c0:=c) (cell:=x) (t:=t) (k0:=k) hm (fy 0 mm) [] [] (i+1) c k none none none (by rw [lr];simp;omega) (by omega) .nil (.inl rfl)
 have pw:∀ x':Fl,Bd r .whole (.fl x')→Bd (r+3) .whole (.fl x'):=fun x' ⟨j,e,h⟩=>⟨j,e,rJ h (by omega)⟩
 rcases Bp (x / 16) with ht | ht | ht
 ·obtain ⟨zs,xs,i',c',k',d,e7,e8,hi',rv,td,lz,lp⟩:=go .whole (.inl rfl) 0
  have hl:biD .len [.lst (toDs zs)]=some (.int (zs.length:Nat)):=by show some (D.int ((toDs zs).length:Nat))=_;rw [eD]
  have p:=aQ (ns:=ns) (i:=i') (b:=b) (c:=c') (k:=k') (n:=m+19)
  have l3:zs.length≤3:=by rw [lr] at lz;simp at lz;omega
  refine ⟨_,_,d,none,zs.length,i',_,k',hi',(uU rv l3).le (by omega) zb,td,.inl rfl,fun e=>rv.l ▸ .no rfl (by rw [rv.l];exact l3) fun x hx=>pw x (rv.b e x hx),?_⟩
  exact (aa true (aX 0 (hn) (aX 1 (t1) (aX 2 (a9 hx) (aX 1 (bg ht (by decide)) (aX 2 (bg hk (by decide)) (aX 0 (hr) (aX 0 (lp) (aX 0 (p) (aX 5 (hl) aZ))))))))) (by kernel_rfl))
 ·obtain ⟨zs,xs,i',c',k',d,e7,e8,hi',rv,td,lz,lp⟩:=go .whole (.inl rfl) 1
  have hl:biD .len [.lst (toDs zs)]=some (.int (zs.length:Nat)):=by show some (D.int ((toDs zs).length:Nat))=_;rw [eD]
  have p:=aQ (ns:=ns) (i:=i') (b:=b) (c:=c') (k:=k') (n:=m+19)
  have l3:zs.length≤3:=by rw [lr] at lz;simp at lz;omega
  have hh:=eN (ns:=ns) (i:=i') (b:=b) (c:=c'+1) (k:=k') (n:=m+18) (.row (pl0 b c') .whole zs)
  refine ⟨_,_,d,none,zs.length,i',_,k',hi',(uV rv l3).le (by omega) zb,td,.inl rfl,fun e=>rv.l ▸ .tag rfl (by rw [rv.l];exact l3) fun x hx=>pw x (rv.b e x hx),?_⟩
  exact (aa true (aX 0 (hn) (aX 1 (t1) (aX 2 (a9 hx) (aX 1 (bg ht (by decide)) (aX 2 (bg hk (by decide)) (aX 0 (hr) (aX 0 (lp) (aX 0 (p) (aX 0 (hh) (aX 2 (hl) aZ)))))))))) (by kernel_rfl))
 ·obtain ⟨zs,xs,i',c',k',d,e7,e8,hi',rv,td,lz,lp⟩:=go .truth (.inr rfl) 2
  have hl:biD .len [.lst (toDs zs)]=some (.int (zs.length:Nat)):=by show some (D.int ((toDs zs).length:Nat))=_;rw [eD]
  have p:=aQ (ns:=ns) (i:=i') (b:=b) (c:=c') (k:=k') (n:=m+19)
  have p2:=aQ (ns:=ns) (i:=i') (b:=b) (c:=c'+1+1) (k:=k') (n:=m+19)
  have l3:zs.length≤3:=by rw [lr] at lz;simp at lz;omega
  have hh:=eN (ns:=ns) (i:=i') (b:=b) (c:=c'+1) (k:=k') (n:=m+18) (.row (pl0 b c') .truth zs)
  have hb:=vI (n:=m+18) .whole .truth (.as_ (pl0 b (c'+1)) .unt (.row (pl0 b c') .truth zs)) (.row (pl0 b c') .truth zs) (.tup [.str "item"]) (ao ns i' b (c'+1+1) k')
  refine ⟨_,_,d,some (zZ (pl0 b c') (pl0 b (c'+1))),zs.length,i',_,k',hi',(uW rv l3).le (by omega) zb,td,.inr ⟨_,rfl,.b (W:=.whole) (W':=.truth)⟩,fun e=>rv.l ▸ .bad (by rw [rv.l];exact l3),?_⟩
  exact (aa true (aX 0 (hn) (aX 1 (t1) (aX 2 (a9 hx) (aX 1 (bg ht (by decide)) (aX 2 (bg hk (by decide)) (aX 0 (hr) (aX 0 (lp) (aX 0 (p) (aX 0 (hh) (aX 0 (hb) (aX 0 (p2) (aX 0 (hl) aZ)))))))))))) (by kernel_rfl))
theorem BV {s:Nat} (hs:1≤s) (P:∀ r,s=r+3→1≤r→PtO r):RwO s:=by
 intro ns i b c k M hi hM
 obtain ⟨m,rfl⟩:∃ m,M=m+21:=⟨M - 21,by omega⟩
 obtain ⟨x,_,hn⟩:=next (ns:=ns) (i:=i) (b:=b) (c:=c) (k:=k) (n:=m+19) hi
 by_cases h:(s:Int)<4∨x % 4=0
 ·exact zn hs hi hn h
 ·obtain ⟨h4,hx⟩:=not_or.mp h
  obtain ⟨r,rfl⟩:∃ r,s=r+3:=⟨s - 3,by omega⟩
  exact zo (P r rfl (by omega)) hi (by omega) hn (by omega) hx
section
variable {b c c1 c2 Z:Int} {k k1 k2 r s:Nat} {W:Wt} {y y1 y2:T68} {v v1 v2:V} {d d1 d2 bad:Option D} {m:Nat}
theorem wA {i:Int} (h:i.natAbs≤4 * 2 ^ r) (hr:r≤5):i.natAbs≤128:=Ϣ h (Ϣ (Ŷ 4 (F3 (by decide) hr)) (by decide))
theorem pq2 {q:Nat} (h1:Pq b c c1 (ah q y1)) (h2:Pq b c1 c2 (ah q y2)) (e:aq y = [y1,y2]) (p:y.pl=pl0 b c2):Pq b c (c2+1) (ah (q+1) y):=((h1.app h2).app .one).of fun w=>by
 show (y.pl :: (aq y).flatMap (ah q)).count w≤_
 rw [e,p,ϩ,ϩ,FT,Ω,Ϝ,ϟ,ϟ,ϟ,Ϝ,Å];omega
theorem uX (h:Md b c c1 Z k k1 (s+2) .row y v d) (hg:d=none→Rg s y v m bad):∃ u,Md b c (c1+1) (Z+1) k k1 (s+3) .whole (.size (pl0 b c1) y) u d∧(d=none→Bd (s+1) .whole u):=by
 have kn:Kw (s+3) .whole (.size (pl0 b c1) y):=b5 (kn1 (sm0 b c1) trivial (fun _ h=>nomatch h) rfl (τ rfl) h.toKn h.k.occ) rfl
 have pq:Pq b c (c1+1) (ah (s+3) (.size (pl0 b c1) y)):=(h.p.app .one).of fun w=>by
  show (pl0 b c1 :: (ah (s+2) y ++ [])).count w≤_
  rw [Ω,Ϝ,ϟ,Ϝ,Å];omega
 have z:=h.z
 have hr:=h.r
 cases d with
 | some e=>exact ⟨.fl (.n 0),⟨kn,pq,by omega,vg (y:=.size (pl0 b c1) y) (zs:=[]) trivial (τ rfl) rfl rfl hr _ _⟩,nofun⟩
 | none=>
   have:∃ g xs,v = .row g xs∧xs.length≤3:=by
    cases hg rfl with
    | no _ hl _=>exact ⟨_,_,rfl,hl⟩
    | tag _ hl _=>exact ⟨_,_,rfl,hl⟩
    | bad hl=>exact ⟨_,_,rfl,hl⟩
   obtain ⟨g,xs,rfl,hl⟩:=this
   exact ⟨.fl (.n xs.length),⟨kn,pq,by omega,vn hr⟩,fun _=>⟨_,rfl,Ϣ (by omega) (Ŷ 4 (Nat.pow_pos (by decide)))⟩⟩
theorem Bj (h:Md b c c1 Z k k1 (s+2) .row y v d) (hg:d=none→Rg s y v m bad) (h2:Md b c1 c2 9 k1 k2 (s+2) .whole y2 v2 d2) (hv:d2=none→Lv .whole y2 v2):∃ u,Md b c (c2+1) (Z+10) k k2 (s+3) .whole (.att (pl0 b c2) y y2) u (dO d (dO d2 (dO (if m=0 then some (eNo (pl0 b c2)) else none) bad)))∧(dO d (dO d2 (dO (if m=0 then some (eNo (pl0 b c2)) else none) bad))=none→Bd (s+1) .whole u):=by
 have hd:(kof y).item = .whole∨(kof y).item = .unt:=by
  rcases h.k with e | e <;> rw [e]
  ·exact .inl rfl
  ·exact .inr rfl
 have kn:Kw (s+3) .whole (.att (pl0 b c2) y y2):=⟨kn2 (sm0 b c2) trivial rfl rfl (by show (kof y).item.dep≤4;rcases hd with e | e <;> rw [e] <;> decide) h.toKn h.k.occ h2.toKn h2.k.occ,hd⟩
 have pq:Pq b c (c2+1) (ah (s+3) (.att (pl0 b c2) y y2)):=pq2 h.p h2.p rfl rfl
 have z:=h.z
 have z2:=h2.z
 have hr:=h.r
 have hr2:=h2.r
 cases d with
 | some e=>exact ⟨.fl (.n 0),⟨kn,pq,by omega,vg (y:=.att (pl0 b c2) y y2) (zs:=[y2]) trivial (τ rfl) rfl rfl hr _ _⟩,nofun⟩
 | none=>
   have hg:=hg rfl
   cases d2 with
   | some e=>
     have:∃ g xs,v = .row g xs:=by cases hg <;> exact ⟨_,_,rfl⟩
     obtain ⟨g,xs,rfl⟩:=this
     exact ⟨.fl (.n 0),⟨kn,pq,by omega,y9 hr hr2 _ _⟩,nofun⟩
   | none=>
     have e2:v2 = .fl (.n 0):=by cases hv rfl;rfl
     subst e2
     cases hg with
     | @no xs hk hl hb=>
       cases xs with
       | nil=>exact ⟨.fl (.n 0),⟨kn,pq,by omega,lO hr hr2 _ _⟩,nofun⟩
       | cons x xs=>
         obtain ⟨j,e,hj⟩:=hb x (ι ..)
         exact ⟨.fl x,⟨kn,pq,by omega,BS hk hr hr2⟩,fun _=>⟨j,e,rJ hj (by omega)⟩⟩
     | @tag p xs hk hl hb=>
       cases xs with
       | nil=>exact ⟨.fl (.n 0),⟨kn,pq,by omega,lO hr hr2 _ _⟩,nofun⟩
       | cons x xs=>
         obtain ⟨j,e,hj⟩:=hb x (ι ..)
         exact ⟨.fl x,⟨kn,pq,by omega,zc hk hr hr2⟩,fun _=>⟨j,e,rJ hj (by omega)⟩⟩
     | @bad p1 p2 xs hl=>
       cases xs with
       | nil=>exact ⟨.fl (.n 0),⟨kn,pq,by omega,lO hr hr2 _ _⟩,nofun⟩
       | cons x xs=>exact ⟨.fl (.n 0),⟨kn,pq,by omega,za hr hr2 _ _⟩,nofun⟩
theorem qT {sg:Sg} (hr5:r≤5) (hs:(sg = .add∨sg = .sub)∧W = .whole∨(sg = .lt∨sg = .eq)∧W = .truth) (h:Md b c c1 (zP r) k k1 (r+2) .whole y1 v1 d1) (hb:d1=none→Bd r .whole v1) (h2:Md b c1 c2 (zP r) k1 k2 (r+2) .whole y2 v2 d2) (hb2:d2=none→Bd r .whole v2):∃ u,Md b c (c2+1) (zP (r+1)) k k2 (r+3) W (.bin (pl0 b c2) sg y1 y2) u (dO d1 d2)∧(dO d1 d2=none→Bd (r+1) W u):=by
 have ek:sg.kd=W.kd:=by rcases hs with ⟨rfl | rfl,rfl⟩ | ⟨rfl | rfl,rfl⟩ <;> rfl
 have kn:Kw (r+3) W (.bin (pl0 b c2) sg y1 y2):=b5 (kn2 (sm0 b c2) trivial rfl rfl (by show sg.kd.dep≤4;cases sg <;> decide) h.toKn h.k.occ h2.toKn h2.k.occ) ek
 have pq:Pq b c (c2+1) (ah (r+3) (.bin (pl0 b c2) sg y1 y2)):=pq2 h.p h2.p rfl rfl
 have z:=h.z
 have z2:=h2.z
 have hr:=h.r
 have hr2:=h2.r
 rw [oX]
 cases d1 with
 | some e=>exact ⟨.fl (.n 0),⟨kn,pq,by omega,vg (y:=.bin (pl0 b c2) sg y1 y2) (zs:=[y2]) trivial (τ rfl) rfl rfl hr _ _⟩,nofun⟩
 | none=>
   obtain ⟨i,rfl,hi⟩:=hb rfl
   cases d2 with
   | some e=>exact ⟨.fl (.n 0),⟨kn,pq,by omega,ve hr hr2 _ _⟩,nofun⟩
   | none=>
     obtain ⟨j,rfl,hj⟩:=hb2 rfl
     have si:=wA hi hr5
     have sj:=wA hj hr5
     have wk:W.w sg.kd=sg.kd:=by rw [ek];exact W.wk
     have pw:4 * 2 ^ r+4 * 2 ^ r=4 * 2 ^ (r+1):=by rw [Nat.pow_succ];omega
     rcases hs with ⟨rfl | rfl,rfl⟩ | ⟨rfl | rfl,rfl⟩
     ·exact ⟨.fl (.n (i+j)),⟨kn,pq,by omega,jt wk hr hr2 (by omega) (by omega) (ZY (by omega))⟩,fun _=>⟨_,rfl,by omega⟩⟩
     ·exact ⟨.fl (.n (i - j)),⟨kn,pq,by omega,jt wk hr hr2 (by omega) (by omega) (ZY (by omega))⟩,fun _=>⟨_,rfl,by omega⟩⟩
     ·exact ⟨_,⟨kn,pq,by omega,jt wk hr hr2 (by omega) (by omega) rfl⟩,fun _=>⟨_,rfl⟩⟩
     ·exact ⟨_,⟨kn,pq,by omega,jt wk hr hr2 (by omega) (by omega) rfl⟩,fun _=>⟨_,rfl⟩⟩
end
section
variable {b c c1 c2 c3 Z:Int} {k k1 k2 r s:Nat} {W:Wt} {y y1 y2:T68} {v v1 v2:V} {d d1 d2 bad:Option D} {m:Nat}
theorem Bm (h:Md b c c1 9 k k1 3 .truth y v d) (hv:d=none→Lv .truth y v) (l1:Li W y1 v1) (n1:Kn 2 y1) (p1:Pq b c1 c2 (ah 2 y1)) (z1:c2≤c1+3) (l2:Li W y2 v2) (n2:Kn 2 y2) (p2:Pq b (c2+1) c3 (ah 2 y2)) (z2:c3≤c2+1+3) (hW:W = .whole∨W = .truth):∃ u,Md b c c3 16 k k1 4 W (.iff (pl0 b c2) y y1 y2) u d∧(d=none→Bd r W u):=by
 have e:kof y2=kof y1:=by rw [l1.kk,l2.kk]
 have n1':=n1.le (q':=3) (by omega)
 have n2':=n2.le (q':=3) (by omega)
 have kn:Kw 4 W (.iff (pl0 b c2) y y1 y2):=b5 (j3 trivial (sm0 b c2) (fun _ h=>nomatch h) (by show (kof y1).dep≤4;rw [l1.kk];cases W <;> decide) (fun p c a b' h=>by cases h;exact e) fun i z hz=>by
  match i,hz with
  | 0,hz=>cases hz;exact ⟨h.toKn,h.k.occ⟩
  | 1,hz=>cases hz;exact ⟨n1',.inl rfl⟩
  | 2,hz=>cases hz;exact ⟨n2',.inl e⟩
  | i+3,hz=>cases hz) (l1.kk)
 have pq:Pq b c c3 (ah 4 (.iff (pl0 b c2) y y1 y2)):=(h.p.app (p1.app (Pq.one.app p2))).of fun w=>by
  have e1:ah 3 y1=ah 2 y1:=gC n1.o (by omega)
  have e2:ah 3 y2=ah 2 y2:=gC n2.o (by omega)
  show (pl0 b c2 :: (ah 3 y ++ (ah 3 y1 ++ (ah 3 y2 ++ [])))).count w≤_
  rw [e1,e2]
  simp only [Ϝ,ϟ,Å]
  omega
 have z:=h.z
 have hr:=h.r
 cases d with
 | some e=>exact ⟨v1,⟨kn,pq,by omega,zh hr _ _⟩,nofun⟩
 | none=>
   obtain ⟨t,rfl⟩:∃ t,v = .fl (.t t):=by cases hv rfl;exact ⟨_,rfl⟩
   refine ⟨_,⟨kn,pq,by omega,BU (q:=1) hr l1 l2 e⟩,fun _=>?_⟩
   rcases hW with rfl | rfl
   ·cases l1;cases l2
    exact ⟨0,by cases t <;> rfl,ϲ _⟩
   ·cases l1;cases l2
    cases t <;> exact ⟨_,rfl⟩
def spD:Nat→Option D
 | 0=>some eSp
 | _=>none
theorem Bl (h:Md b c c1 9 k k1 3 .to y v d) (hv:d=none→Lv .to y v) (h2:Md b c1 c2 (zP r) k1 k2 (r+2) .whole y2 v2 d2) (hb:d2=none→Bd r .whole v2):∃ u,Md b c (c2+1+1) (zP (r+2)) k (if dO d d2=none then k2 - 1 else k2) (r+4) .whole (.call (pl0 b (c2+1)) y (.as_ (pl0 b c2) .whole y2)) u (dO (dO d d2) (spD k2))∧(dO (dO d d2) (spD k2)=none→Bd (r+2) .whole u):=by
 have n1:=h.toKn.le (q':=r+3) (by omega)
 have kr:(kof y).arg = .unt∧((kof y).res = .whole∨(kof y).res = .unt):=by rcases h.k with e | e <;> rw [e] <;> simp [Kd.arg,Kd.res,Wt.kd]
 have na:Kn (r+3) (.as_ (pl0 b c2) .whole y2):=fg (sm0 b c2) (by decide) h2.toKn h2.k.occ
 have kn:Kw (r+4) .whole (.call (pl0 b (c2+1)) y (.as_ (pl0 b c2) .whole y2)):=⟨kn2 (sm0 b (c2+1)) trivial rfl rfl (by show (kof y).res.dep≤4;rcases kr.2 with e | e <;> rw [e] <;> decide) n1 h.k.occ na (by show Kd.whole=(kof y).arg∨occ .whole (kof y).arg=true;rw [kr.1];exact .inr rfl),kr.2⟩
 have pq:Pq b c (c2+1+1) (ah (r+4) (.call (pl0 b (c2+1)) y (.as_ (pl0 b c2) .whole y2))):=(h.p.app (h2.p.app (Pq.one.app .one))).of fun w=>by
  have e1:ah (r+3) y=ah 3 y:=gC h.o (by omega)
  show (pl0 b (c2+1) :: (ah (r+3) y ++ ((pl0 b c2 :: (ah (r+2) y2 ++ [])) ++ []))).count w≤_
  rw [e1]
  simp only [Ϝ,ϟ,Å]
  omega
 have z:=h.z
 have z2:=h2.z
 have zp:=fj r
 have zz:zP (r+2)=2 * (2 * zP r+1)+1:=rfl
 have hr:=h.r.le (q':=r+3) (by omega)
 have hr2:=h2.r
 cases d with
 | some e=>exact ⟨.fl (.n 0),⟨kn,pq,by omega,vg (y:=.call (pl0 b (c2+1)) y (.as_ (pl0 b c2) .whole y2)) (zs:=[.as_ (pl0 b c2) .whole y2]) trivial (τ rfl) rfl rfl hr _ _⟩,nofun⟩
 | none=>
   obtain ⟨g,p,p2,rfl,fa⟩:∃ g p p2,v=fnV p p2 g∧Fa y g p p2:=by cases hv rfl with | f fa=>exact ⟨_,_,_,rfl,fa⟩
   cases d2 with
   | some e=>exact ⟨.fl (.n 0),⟨kn,pq,by omega,zg (q:=r+1) hr hr2 _ _⟩,nofun⟩
   | none=>
     obtain ⟨i,rfl,hi⟩:=hb rfl
     cases k2 with
     | zero=>exact ⟨.fl (.n 0),⟨kn,pq,by omega,ze (q:=r+1) fa hr hr2 _ _⟩,nofun⟩
     | succ k2=>exact ⟨.fl (.n 0),⟨kn,pq,by omega,BT (q:=r+1) fa hr hr2⟩,fun _=>⟨0,rfl,ϲ _⟩⟩
end
section
variable {ns:List Int} {i b c x:Int} {k m r s:Nat} {W:Wt}
def MkO (ns:List Int) (b c:Int) (k r:Nat) (W:Wt) (R:Res):Prop:=∃ (y:T68) (v:V) (d:Option D) (i' c':Int) (k':Nat),0≤i'∧Md b c c' (zP r) k k' (r+2) W y v d∧Tu d∧(d=none→Bd r W v)∧R = .ok (.lst [y.toD,dN d]) (ao ns i' b c' k')
theorem Be {y:T68} {v:V} (hW:W = .whole∨W = .truth) (h:Lv W y v):Bd r W v:=by
 cases h with
 | n=>exact ⟨0,rfl,ϲ _⟩
 | t=>exact ⟨_,rfl⟩
 | r0=>rcases hW with h | h <;> cases h
 | r1=>rcases hW with h | h <;> cases h
 | f=>rcases hW with h | h <;> cases h
theorem u8 (hr:1≤r) (hW:W = .whole∨W = .truth) (hi:0≤i) (hn:ac Γ (m+20) az [.ref 0] (ao ns i b c k) = .ok (.int x) (ao ns (i+1) b c k)) (h:(r:Int)<2∨x % 4=0):MkO ns b c k r W (ac Γ (m+21) aG [.ref 0,.str W.s,.int r] (ao ns i b c k)):=by
 obtain ⟨y,v,d,c',k',md,td,lv,ex⟩:=qF (ns:=ns) (i:=i+1) (b:=b) (c:=c) (k:=k) (n:=m+14) (by omega) W
 refine ⟨y,v,d,i+1+1,c',k',by omega,md.le (by omega) (by have:=fj r;omega),td,fun e=>Be hW (lv e),?_⟩
 by_cases h4:(r:Int)<2
 ·have t1:decide ((r:Int)<2)=true:=ZW h4
  exact (aa false (aX 0 (hn) (aX 3 (t1) (aX 0 (ex) aZ))) (by kernel_rfl))
 ·have t1:decide ((r:Int)<2)=false:=ZV h4
  exact (aa false (aX 0 (hn) (aX 3 (t1) (aX 2 (nH (h.resolve_left h4)) (aX 0 (ex) aZ)))) (by kernel_rfl))
theorem BP (hr:2≤r) (hW:W = .whole∨W = .truth) (hi:0≤i) (hn:ac Γ (m+20) az [.ref 0] (ao ns i b c k) = .ok (.int x) (ao ns (i+1) b c k)) (hx:x % 4≠0) (hw:x / 4 % 5=0):MkO ns b c k r W (ac Γ (m+21) aG [.ref 0,.str W.s,.int r] (ao ns i b c k)):=by
 have t1:decide ((r:Int)<2)=false:=ZV (by omega)
 obtain ⟨y,v,d,c1,k1,md,td,lv,ex⟩:=qF (ns:=ns) (i:=i+1) (b:=b) (c:=c) (k:=k) (n:=m+14) (by omega) .truth
 obtain ⟨y1,v1,c2,l1,n1,p1,z1,e1⟩:=lit (ns:=ns) (i:=i+1+1) (b:=b) (c:=c1) (k:=k1) (n:=m+17) W
 have p:=aQ (ns:=ns) (i:=i+1+1) (b:=b) (c:=c2) (k:=k1) (n:=m+19)
 obtain ⟨y2,v2,c3,l2,n2,p2,z2,e2⟩:=lit (ns:=ns) (i:=i+1+1) (b:=b) (c:=c2+1) (k:=k1) (n:=m+17) W
 obtain ⟨u,mu,bu⟩:=Bm (r:=r) md lv l1 n1 p1 z1 l2 n2 p2 z2 hW
 exact ⟨_,u,d,i+1+1,c3,k1,by omega,mu.le (by omega) (by have:=fj r;omega),td,bu,(aa false (aX 0 (hn) (aX 1 (bg hw (by decide)) (aX 1 (t1) (aX 2 (a9 hx) (aX 0 (ex) (aX 0 (e1) (aX 0 (p) (aX 0 (e2) aZ)))))))) (by kernel_rfl))⟩
theorem BO (hr:1≤r) (P:PtO r) (hM:3 * r+20≤m+20) (hi:0≤i) (hn:ac Γ (m+20) az [.ref 0] (ao ns i b c k) = .ok (.int x) (ao ns (i+1) b c k)) (hx:x % 4≠0) (hw:x / 4 % 5=1):MkO ns b c k (r+2) .whole (ac Γ (m+21) aG [.ref 0,.str (Wt.whole).s,.int ((r+2:Nat):Int)] (ao ns i b c k)):=by
 have t1:decide (((r+2:Nat):Int)<2)=false:=ZV (by omega)
 have t2:decide ((2:Int)<((r+2:Nat):Int))=true:=ZW (by omega)
 obtain ⟨y,v,d,c1,k1,md,td,lv,ex⟩:=qF (ns:=ns) (i:=i+1) (b:=b) (c:=c) (k:=k) (n:=m+14) (by omega) .to
 obtain ⟨y2,v2,d2,i2,c2,k2,hi2,m2,td2,b2,e2⟩:=P .whole (.inl rfl) ns (i+1+1) b c1 k1 (m+20) (by omega) hM
 have e2:ac Γ (m+20) aG [.ref 0,.str "whole",.int (((r+2:Nat):Int) - 2)] (ao ns (i+1+1) b c1 k1) = .ok (.lst [y2.toD,dN d2]) (ao ns i2 b c2 k2):=by rw [show (((r+2:Nat):Int) - 2)=(r:Int) by omega];exact e2
 obtain ⟨u,mu,bu⟩:=Bl md lv m2 b2
 have f:=AK (n:=m+19) (S:=ao ns i2 b c2 k2) td td2
 have to:=td.o td2
 generalize dO d d2=dd at *
 rcases to with rfl | ⟨l,rfl,dl⟩
 ·cases k2 with
  | zero=>
    have sp:=rY (ns:=ns) (i:=i2) (b:=b) (c:=c2) (n:=m+19)
    have p:=aQ (ns:=ns) (i:=i2) (b:=b) (c:=c2) (k:=0) (n:=m+19)
    have p2:=aQ (ns:=ns) (i:=i2) (b:=b) (c:=c2+1) (k:=0) (n:=m+19)
    exact ⟨_,u,_,i2,_,_,hi2,mu,.inr ⟨_,rfl,.s⟩,bu,(aa false (aX 0 (hn) (aX 1 (bg hw (by decide)) (aX 4 (a9 hx) (aX 7 (t2) (aX 0 (ex) (aX 0 (e2) (aX 0 (f) (aX 0 (sp) (aX 0 (p) (aX 0 (p2) aZ)))))))))) (by kernel_rfl))⟩
  | succ k2=>
    have sp:=rZ (ns:=ns) (i:=i2) (b:=b) (c:=c2) (k:=k2) (n:=m+19)
    have p:=aQ (ns:=ns) (i:=i2) (b:=b) (c:=c2) (k:=k2) (n:=m+19)
    have p2:=aQ (ns:=ns) (i:=i2) (b:=b) (c:=c2+1) (k:=k2) (n:=m+19)
    exact ⟨_,u,_,i2,_,_,hi2,mu,.inl rfl,bu,(aa false (aX 0 (hn) (aX 1 (bg hw (by decide)) (aX 4 (a9 hx) (aX 7 (t2) (aX 0 (ex) (aX 0 (e2) (aX 0 (f) (aX 0 (sp) (aX 0 (p) (aX 0 (p2) aZ)))))))))) (by kernel_rfl))⟩
 ·have p:=aQ (ns:=ns) (i:=i2) (b:=b) (c:=c2) (k:=k2) (n:=m+19)
  have p2:=aQ (ns:=ns) (i:=i2) (b:=b) (c:=c2+1) (k:=k2) (n:=m+19)
  exact ⟨_,u,_,i2,_,_,hi2,mu,.inr ⟨l,rfl,dl⟩,bu,(aa false (aX 0 (hn) (aX 1 (bg hw (by decide)) (aX 4 (a9 hx) (aX 7 (t2) (aX 0 (ex) (aX 0 (e2) (aX 0 (f) (aX 0 (p) (aX 0 (p2) aZ))))))))) (by kernel_rfl))⟩
end
section
variable {ns:List Int} {i b c x:Int} {k m r s:Nat} {W:Wt}
theorem B4 (p:Int) (m:Nat):Tu (if m=0 then some (eNo p) else none):=by
 by_cases h:m=0
 ·rw [ZZ h];exact .inr ⟨_,rfl,.n⟩
 ·rw [ZY h];exact .inl rfl
theorem rd (hs:1≤s) (R:RwO s) (hM:3 * s+21≤m+19) (hi:0≤i) (cell:Int):MkO ns b c k (s+1) .whole (ac Γ (m+20) jW [.ref 0,.int ((s+1:Nat):Int),.int cell] (ao ns i b c k)):=by
 obtain ⟨y,v,d,bad,mm,i1,c1,k1,hi1,md,td,tb,hg,ex⟩:=R ns i b c k (m+19) hi hM
 have ex:ac Γ (m+19) cK [.ref 0,.int (((s+1:Nat):Int) - 1)] (ao ns i b c k) = .ok (.lst [y.toD,dN d,.int mm,dN bad]) (ao ns i1 b c1 k1):=by rw [show (((s+1:Nat):Int) - 1)=(s:Int) by omega];exact ex
 have zz:zP (s+1) - 10+1≤zP (s+1):=by omega
 by_cases e:cell % 2=0
 ·obtain ⟨u,mu,bu⟩:=uX md hg
  have p:=aQ (ns:=ns) (i:=i1) (b:=b) (c:=c1) (k:=k1) (n:=m+18)
  exact ⟨_,u,d,i1,_,_,hi1,mu.le (by omega) zz,td,bu,(aa false (aX 0 (ex) (aX 2 (nH e) (aX 0 (p) aZ))) (by kernel_rfl))⟩
 ·obtain ⟨y2,v2,d2,c2,k2,m2,td2,lv,e2⟩:=qF (ns:=ns) (i:=i1) (b:=b) (c:=c1) (k:=k1) (n:=m+13) hi1 .whole
  have p:=aQ (ns:=ns) (i:=i1+1) (b:=b) (c:=c2) (k:=k2) (n:=m+18)
  obtain ⟨u,mu,bu⟩:=Bj md hg (m2.le (by omega) (by omega)) lv
  have f:=CW (n:=m+18) (S:=ao ns (i1+1) b (c2+1) k2) td td2 (B4 (pl0 b c2) mm) tb
  have tt:=td.o (td2.o ((B4 (pl0 b c2) mm).o tb))
  by_cases hm:mm=0
  ·have em:(((mm:Nat):Int) == 0)=true:=nH (by omega)
   rw [ZZ hm] at f mu bu tt
   exact ⟨_,u,_,i1+1,_,_,by omega,mu.le (by omega) (by omega),tt,bu,(aa false (aX 0 (ex) (aX 2 (a9 e) (aX 0 (e2) (aX 0 (p) (aX 2 (em) (aX 0 (f) aZ)))))) (by kernel_rfl))⟩
  ·have em:(((mm:Nat):Int) == 0)=false:=a9 (by omega)
   rw [ZY hm] at f mu bu tt
   exact ⟨_,u,_,i1+1,_,_,by omega,mu.le (by omega) (by omega),tt,bu,(aa false (aX 0 (ex) (aX 2 (a9 e) (aX 0 (e2) (aX 0 (p) (aX 2 (em) (aX 0 (f) aZ)))))) (by kernel_rfl))⟩
theorem wu (hs:2≤s) (R:RwO s) (hM:3 * s+21≤m+19) (hi:0≤i) (hn:ac Γ (m+20) az [.ref 0] (ao ns i b c k) = .ok (.int x) (ao ns (i+1) b c k)) (hx:x % 4≠0) (hw:x / 4 % 5=2∨x / 4 % 5=3):MkO ns b c k (s+1) .whole (ac Γ (m+21) aG [.ref 0,.str (Wt.whole).s,.int ((s+1:Nat):Int)] (ao ns i b c k)):=by
 have t1:decide (((s+1:Nat):Int)<2)=false:=ZV (by omega)
 have t2:decide ((2:Int)<((s+1:Nat):Int))=true:=ZW (by omega)
 obtain ⟨y,v,d,i1,c1,k1,hi1,md,td,bd,ex⟩:=rd (ns:=ns) (i:=i+1) (b:=b) (c:=c) (k:=k) (m:=m) (by omega) R hM (by omega) (x / 20)
 refine ⟨y,v,d,i1,c1,k1,hi1,md,td,bd,?_⟩
 rcases hw with hw | hw
 ·exact (aa false (aX 0 (hn) (aX 1 (bg hw (by decide)) (aX 1 (t1) (aX 2 (a9 hx) (aX 10 (t2) (aX 0 (ex) aZ)))))) (by kernel_rfl))
 ·exact (aa false (aX 0 (hn) (aX 1 (bg hw (by decide)) (aX 1 (t1) (aX 2 (a9 hx) (aX 10 (t2) (aX 0 (ex) aZ)))))) (by kernel_rfl))
theorem Db (z:Int):∃ g:Sg,(g = .add∨g = .sub)∧ixD (.str "+-") (.int (z % 2))=some (.str g.str):=by
 rcases Bo z with h | h <;> rw [h]
 ·exact ⟨.add,.inl rfl,rfl⟩
 ·exact ⟨.sub,.inr rfl,rfl⟩
theorem Da (z:Int):∃ g:Sg,(g = .lt∨g = .eq)∧ixD (.str "<=") (.int (z % 2))=some (.str g.str):=by
 rcases Bo z with h | h <;> rw [h]
 ·exact ⟨.lt,.inl rfl,rfl⟩
 ·exact ⟨.eq,.inr rfl,rfl⟩
theorem BN (hr:1≤r) (h5:r≤5) (P:PtO r) (hM:3 * r+20≤m+20) (hW:W = .whole∨W = .truth) (hi:0≤i) (hn:ac Γ (m+20) az [.ref 0] (ao ns i b c k) = .ok (.int x) (ao ns (i+1) b c k)) (hx:x % 4≠0) (hw:x / 4 % 5=4∨(x / 4 % 5=1∨x / 4 % 5=2∨x / 4 % 5=3)∧(W = .truth∨r=1)):MkO ns b c k (r+1) W (ac Γ (m+21) aG [.ref 0,.str W.s,.int ((r+1:Nat):Int)] (ao ns i b c k)):=by
 have t1:decide (((r+1:Nat):Int)<2)=false:=ZV (by omega)
 obtain ⟨y1,v1,d1,i1,c1,k1,hi1,m1,td1,b1,e1⟩:=P .whole (.inl rfl) ns (i+1) b c k (m+20) (by omega) hM
 obtain ⟨y2,v2,d2,i2,c2,k2,hi2,m2,td2,b2,e2⟩:=P .whole (.inl rfl) ns i1 b c1 k1 (m+20) hi1 hM
 have er:(((r+1:Nat):Int) - 1)=(r:Int):=by omega
 have e1:ac Γ (m+20) aG [.ref 0,.str "whole",.int (((r+1:Nat):Int) - 1)] (ao ns (i+1) b c k) = .ok (.lst [y1.toD,dN d1]) (ao ns i1 b c1 k1):=by rw [er];exact e1
 have e2:ac Γ (m+20) aG [.ref 0,.str "whole",.int (((r+1:Nat):Int) - 1)] (ao ns i1 b c1 k1) = .ok (.lst [y2.toD,dN d2]) (ao ns i2 b c2 k2):=by rw [er];exact e2
 have p:=aQ (ns:=ns) (i:=i2) (b:=b) (c:=c2) (k:=k2) (n:=m+19)
 have f:=AK (n:=m+19) (S:=ao ns i2 b (c2+1) k2) td1 td2
 obtain ⟨gw,hgw,ixw⟩:=Db (x / 20)
 rcases hW with rfl | rfl
 ·obtain ⟨u,mu,bu⟩:=qT (sg:=gw) (W:=.whole) h5 (.inl ⟨hgw,rfl⟩) m1 b1 m2 b2
  refine ⟨_,u,_,i2,_,_,hi2,mu,td1.o td2,bu,?_⟩
  rcases hw with hw | ⟨hw,h | rfl⟩
  ·exact (aa false (aX 0 (hn) (aX 1 (bg hw (by decide)) (aX 1 (t1) (aX 2 (a9 hx) (aX 0 (e1) (aX 0 (e2) (aX 2 (ixw) (aX 0 (p) (aX 0 (f) aZ))))))))) (by kernel_rfl))
  ·cases h
  ·rcases hw with hw | hw | hw
   ·exact (aa false (aX 0 (hn) (aX 1 (bg hw (by decide)) (aX 4 (a9 hx) (aX 0 (e1) (aX 0 (e2) (aX 2 (ixw) (aX 0 (p) (aX 0 (f) aZ)))))))) (by kernel_rfl))
   ·exact (aa false (aX 0 (hn) (aX 1 (bg hw (by decide)) (aX 4 (a9 hx) (aX 0 (e1) (aX 0 (e2) (aX 2 (ixw) (aX 0 (p) (aX 0 (f) aZ)))))))) (by kernel_rfl))
   ·exact (aa false (aX 0 (hn) (aX 1 (bg hw (by decide)) (aX 4 (a9 hx) (aX 0 (e1) (aX 0 (e2) (aX 2 (ixw) (aX 0 (p) (aX 0 (f) aZ)))))))) (by kernel_rfl))
 ·obtain ⟨gt,hgt,ixt⟩:=Da (x / 20)
  obtain ⟨u,mu,bu⟩:=qT (sg:=gt) (W:=.truth) h5 (.inr ⟨hgt,rfl⟩) m1 b1 m2 b2
  refine ⟨_,u,_,i2,_,_,hi2,mu,td1.o td2,bu,?_⟩
  have hw:x / 4 % 5=1∨x / 4 % 5=2∨x / 4 % 5=3∨x / 4 % 5=4:=by
   rcases hw with hw | ⟨hw | hw | hw,_⟩
   ·exact .inr (.inr (.inr hw))
   ·exact .inl hw
   ·exact .inr (.inl hw)
   ·exact .inr (.inr (.inl hw))
  rcases hw with hw | hw | hw | hw
  ·exact (aa false (aX 0 (hn) (aX 1 (bg hw (by decide)) (aX 1 (t1) (aX 2 (a9 hx) (aX 0 (e1) (aX 0 (e2) (aX 2 (ixw) (aX 4 (ixt) (aX 0 (p) (aX 0 (f) aZ)))))))))) (by kernel_rfl))
  ·exact (aa false (aX 0 (hn) (aX 1 (bg hw (by decide)) (aX 1 (t1) (aX 2 (a9 hx) (aX 0 (e1) (aX 0 (e2) (aX 2 (ixw) (aX 4 (ixt) (aX 0 (p) (aX 0 (f) aZ)))))))))) (by kernel_rfl))
  ·exact (aa false (aX 0 (hn) (aX 1 (bg hw (by decide)) (aX 1 (t1) (aX 2 (a9 hx) (aX 0 (e1) (aX 0 (e2) (aX 2 (ixw) (aX 4 (ixt) (aX 0 (p) (aX 0 (f) aZ)))))))))) (by kernel_rfl))
  ·exact (aa false (aX 0 (hn) (aX 1 (bg hw (by decide)) (aX 1 (t1) (aX 2 (a9 hx) (aX 0 (e1) (aX 0 (e2) (aX 2 (ixw) (aX 4 (ixt) (aX 0 (p) (aX 0 (f) aZ)))))))))) (by kernel_rfl))
end
theorem rx:∀ r:Nat,1≤r→r≤5→PtO r
 | 0,h,_=>ZX h (by decide)
 | r+1,_,h5=>by
   intro W hW ns i b c k M hi hM
   obtain ⟨m,rfl⟩:∃ m,M=m+21:=⟨M - 21,by omega⟩
   obtain ⟨x,_,hn⟩:=next (ns:=ns) (i:=i) (b:=b) (c:=c) (k:=k) (n:=m+19) hi
   by_cases hl:((r+1:Nat):Int)<2∨x % 4=0
   ·exact u8 (by omega) hW hi hn hl
   ·obtain ⟨h2,hx⟩:=not_or.mp hl
    have r1:1≤r:=by omega
    have dd:=BN (r:=r) r1 (by omega) (rx r r1 (by omega)) (by omega) hW hi hn hx
    rcases C6 (x / 4) with hw | hw | hw | hw | hw
    ·exact BP (by omega) hW hi hn hx hw
    ·rcases hW with rfl | rfl
     ·by_cases r2:r=1
      ·exact dd (.inr ⟨.inl hw,.inr r2⟩)
      ·obtain ⟨q,rfl⟩:∃ q,r=q+1:=⟨r - 1,by omega⟩
       exact BO (by omega) (rx q (by omega) (by omega)) (by omega) hi hn hx hw
     ·exact dd (.inr ⟨.inl hw,.inl rfl⟩)
    ·rcases hW with rfl | rfl
     ·by_cases r2:r=1
      ·exact dd (.inr ⟨.inr (.inl hw),.inr r2⟩)
      ·exact wu (by omega) (BV r1 fun q e hq=>rx q hq (by omega)) (by omega) hi hn hx (.inl hw)
     ·exact dd (.inr ⟨.inr (.inl hw),.inl rfl⟩)
    ·rcases hW with rfl | rfl
     ·by_cases r2:r=1
      ·exact dd (.inr ⟨.inr (.inr hw),.inr r2⟩)
      ·exact wu (by omega) (BV r1 fun q e hq=>rx q hq (by omega)) (by omega) hi hn hx (.inr hw)
     ·exact dd (.inr ⟨.inr (.inr hw),.inl rfl⟩)
    ·exact dd (.inl hw)
theorem Kd.nr:∀ k:Kd,noR k.toD=true
 | .unt=>rfl
 | .whole=>rfl
 | .truth=>rfl
 | .to a b=>by show (true && (noR a.toD && (noR b.toD && true)))=true;rw [nr a,nr b];rfl
 | .row a=>by show (true && (noR a.toD && true))=true;rw [nr a];rfl
mutual
theorem T68.nr:∀ t:T68,noR t.toD=true
 | .whole p v=>rfl
 | .truth p b=>rfl
 | .fn p x k b=>by show (true && (true && (true && (noR k.toD && (noR b.toD && true)))))=true;rw [k.nr,T68.nr b];rfl
 | .iff p c a b=>by show (true && (true && (noR c.toD && (noR a.toD && (noR b.toD && true)))))=true;rw [T68.nr c,T68.nr a,T68.nr b];rfl
 | .call p a b=>by show (true && (true && (noR a.toD && (noR b.toD && true))))=true;rw [T68.nr a,T68.nr b];rfl
 | .bin p o a b=>by show (true && (true && (true && (noR a.toD && (noR b.toD && true)))))=true;rw [T68.nr a,T68.nr b];rfl
 | .as_ p k a=>by show (true && (true && (noR k.toD && (noR a.toD && true))))=true;rw [k.nr,T68.nr a];rfl
 | .row p k ts=>by show (true && (true && (noR k.toD && (bc (toDs ts) && true))))=true;rw [k.nr,nrs ts];rfl
 | .att p a b=>by show (true && (true && (noR a.toD && (noR b.toD && true))))=true;rw [T68.nr a,T68.nr b];rfl
 | .size p a=>by show (true && (true && (noR a.toD && true)))=true;rw [T68.nr a];rfl
theorem nrs:∀ ts:List T68,bc (toDs ts)=true
 | []=>rfl
 | t :: r=>by show (noR t.toD && bc (toDs r))=true;rw [T68.nr t,nrs r];rfl
end
theorem p6 (k:Kd):noR (gr k)=true:=by cases k <;> rfl
theorem jk (k:Kd) (p:Int) (w:List ν) (h:noR (lbl p w)=true):noR (bh k (lbl p w))=true:=by show (noR (gr k) && (noR (lbl p w) && true))=true;rw [p6,h];rfl
theorem uZ (k:Kd) (p:Int) (w:List ν) (h:noR (lbl p w)=true):noR (fz k (lbl p w))=true∧noR (nE k (lbl p w))=true:=⟨by show (true && (noR gF && (noR (bh k (lbl p w)) && true)))=true;rw [jk k p w h];rfl,by show (noR (bh k (lbl p w)) && (noR gF && (true && true)))=true;rw [jk k p w h];rfl⟩
theorem BA (k w:Kd) (p:Int):noR (mkD k w p)=true:=by
 have l0:noR (lbl p [])=true:=rfl
 unfold mkD
 split
 ·rename_i k
  show (true && (noR (hJ k p) && (noR (bh (.row k) (lbl p [])) && true)))=true
  rw [jk _ p [] l0,show noR (hJ k p)=true from by show (true && (noR (fz k (lbl p ["item"])) && true))=true;rw [(uZ k p ["item"] rfl).1];rfl];rfl
 ·rename_i a k
  show (true && (noR (n7 k p) && (noR (bh (.to a k) (lbl p [])) && true)))=true
  rw [jk _ p [] l0,show noR (n7 k p)=true from by show (true && (noR gI && (noR (fz k (lbl p ["res"])) && true)))=true;rw [(uZ k p ["res"] rfl).1];rfl];rfl
 ·exact (uZ _ p [] l0).1
 ·rfl
 ·exact (uZ _ p [] l0).2
theorem rj:∀ L:AlG Rw,bc (dsF mkR L)=true
 | []=>rfl
 | r :: L=>by show (noR (mkR r.2) && bc (dsF mkR L))=true;rw [rj L,show noR (mkR r.2)=true from BA _ _ _];rfl
theorem fU (n:Nat):∀ l:List D,(∀ d∈l,eqv n d d=some true)→cO (eqv n) l l=some true
 | [],_=>rfl
 | d :: r,h=>by
   show (match eqv n d d with | none=>none | some x=>(cO (eqv n) r r).map (x && ·))=_
   rw [h d (ι ..),fU n r fun e he=>h e (κ _ he)];rfl
theorem ku {n:Nat} {l:List D} (h:∀ d∈l,eqv n d d=some true):eqv (n+1) (.tup l) (.tup l)=some true:=by
 show (cO (eqv n) l l).map (· && l.length == l.length)=_
 rw [fU n l h,ZT];rfl
inductive Pl:Nat→D→Prop
 | i {n x}:Pl n (.int x)
 | s {n x}:Pl n (.str x)
 | t {n l} (h:∀ d∈l,Pl n d):Pl (n+1) (.tup l)
theorem Pl.refl {n:Nat} {d:D} (h:Pl n d):eqv (n+1) d d=some true:=by
 induction h with
 | @i n x=>show some (x == x)=_;rw [ZT]
 | @s n x=>show some (x == x)=_;rw [ZT]
 | t h ih=>exact ku ih
theorem bR {n:Nat}:∀ d∈([]:List D),Pl n d:=fun d h=>by cases h
theorem ay {n:Nat} {d:D} {l:List D} (h:Pl n d) (t:∀ x∈l,Pl n x):∀ x∈d :: l,Pl n x:=fun x m=>by
 rcases π.mp m with rfl | m
 ·exact h
 ·exact t x m
theorem rA {n:Nat} (p:Int) (w:List ν):Pl (n+2) (lbl p w):=.t (ay .i (ay .s (ay (.t fun d hd=>by obtain ⟨x,_,rfl⟩:=ë.mp hd;exact .s) bR)))
theorem wt {n:Nat} (W:Wt):Pl (n+2) (gr (W.w .unt)):=by
 cases W with
 | whole=>exact .t (ay .s bR)
 | truth=>exact .t (ay .s bR)
 | row=>exact .t (ay .s (ay (.t (ay .s bR)) bR))
 | to=>exact .t (ay .s (ay (.t (ay .s bR)) (ay (.t (ay .s bR)) bR)))
theorem d9 {l:List D} (h:∀ d∈l,Pl 53 d):opD .eq (.tup l) (.tup l)=some (.bl true):=by
 have e:eqv 55 (.tup l) (.tup l)=some true:=ku fun d hd=>(h d hd).refl
 have e2:eqT (.tup l) (.tup l)=some true:=(kS rfl).trans e
 show (eqT (.tup l) (.tup l)).map _=_
 rw [e2];rfl
theorem zX {d:D} (h:Dv d) (n:Nat) (S:List O):ac Γ (n+1) dU [d,d] S = .ok (.bl true) S:=by
 cases h with
 | s=>have e:=d9 (l:=[.str "spent"]) (ay .s bR);exact (aa false (aX 15 (e) aZ) (by kernel_rfl))
 | @n p=>have e:=d9 (l:=[.str "fault",.int p,.str "none"]) (ay .s (ay .i (ay .s bR)));exact (aa false (aX 29 (e) aZ) (by kernel_rfl))
 | @g p=>have e:=d9 (l:=[.str "fault",.int p,.str "great"]) (ay .s (ay .i (ay .s bR)));exact (aa false (aX 29 (e) aZ) (by kernel_rfl))
 | @b W W' p p' w=>
   have e:=d9 (l:=[.str "blame",lbl p w,gr (W.w .unt),lbl p' w,gr (W'.w .unt)]) (ay .s (ay (rA p w) (ay (wt W) (ay (rA p' w) (ay (wt W') bR)))))
   cases W <;> cases W' <;> exact (aa false (aX 43 (e) aZ) (by kernel_rfl))
theorem ro:∀ w:List ν,bc (sts w)=true
 | []=>rfl
 | x :: r=>by show (true && bc (sts r))=true;rw [ro r];rfl
theorem rm (p:Int) (w:List ν):noR (lbl p w)=true:=by show (true && (true && (bc (sts w) && true)))=true;rw [ro w];rfl
theorem Bz {d:D} (h:Dv d):noR d=true:=by
 cases h with
 | s=>rfl
 | n=>rfl
 | g=>rfl
 | @b W W' p p' w=>
   show (true && (noR (lbl p w) && (noR (gr (W.w .unt)) && (noR (lbl p' w) && (noR (gr (W'.w .unt)) && true)))))=true
   rw [rm,rm,p6,p6];rfl
def txF:Fl→ν
 | .n i=>ϧ (toString i)
 | .t b=>if b then "yes" else "no"
def dnD (x:Fl):D:=.tup [.str "done",.str (txF x)]
theorem wL (x:Fl) (n:Nat) (S:List O):ac Γ (n+1) dU [dnD x,dnD x] S = .ok (.bl true) S:=by
 have e:=d9 (l:=[.str "done",.str (txF x)]) (ay .s (ay .s bR))
 exact (aa false (aX 22 (e) aZ) (by kernel_rfl))
section
variable {L:AlG Rw} {tg:Bool} {ns:List Int} {c c' n:Nat} {nt:List D} {t:T68}
theorem vx {x:Fl} (hx:∀ i,x = .n i→i.natAbs<10 ^ 81) (S:List O):ac Γ (n+12) og [fD x,.ref 1] S = .ok (.str (txF x)) S:=by
 have h:ac Γ (n+11) tY [fD x,.int 1,.ref 1] S = .ok (.str (txF x)) S:=by
  cases x with
  | n i=>exact (aa false (aX 4 (r6 (hx i rfl)) aZ) (by kernel_rfl))
  | t b=>cases b <;> exact (aa false aZ (by kernel_rfl))
 exact (aa false (aX 0 (h) aZ) (by kernel_rfl))
theorem sD (n:Nat):ac Γ (n+3) bK [.ref 0,dL L,.lst (ns.map .int),.int c,.bl tg] [.ins 4 []] = .ok .non (ws L tg ns c []):=by kernel_rfl
theorem iM {x:Fl} (hx:∀ i,x = .n i→i.natAbs<10 ^ 81) (h:Ct L tg ns 8 t c (.ok (fD x) c')):∃ st,ac Γ (n+60) jZ [t.toD,dL L,.lst (ns.map .int),.int c,.bl tg] [] = .ok (dnD x) st:=by
 obtain ⟨nt',_,h⟩:=h [] (n+59) (by decide) (by omega)
 have hi:bP Γ (n+59) bK [.ref 0,dL L,.lst (ns.map .int),.int c,.bl tg] [.ins 4 []] = .ok .non (ws L tg ns c []):=sD (n+55)
 exact ⟨ws L tg ns c' nt',(aa false (aX 0 (hi) (aX 0 (h) (aX 0 (vx (n:=n+47) hx (ws L tg ns c' nt')) aZ))) (by kernel_rfl))⟩
theorem oV {e:D} (h:Ct L tg ns 8 t c (.er e)):∃ st,ac Γ (n+60) jZ [t.toD,dL L,.lst (ns.map .int),.int c,.bl tg] [] = .ok e st:=by
 obtain ⟨st,h⟩:=h [] (n+59) (by decide) (by omega)
 have hi:bP Γ (n+59) bK [.ref 0,dL L,.lst (ns.map .int),.int c,.bl tg] [.ins 4 []] = .ok .non (ws L tg ns c []):=sD (n+55)
 exact ⟨st,(aa false (aX 0 (hi) (aX 0 (h) aZ)) (by kernel_rfl))⟩
end
section
variable {b c':Int} {k k':Nat} {W:Wt} {y:T68} {v:V} {d:Option D}
theorem Wt.fl (hW:W = .whole∨W = .truth) (k:Kd):W.w k=W.kd:=by rcases hW with rfl | rfl <;> rfl
abbrev tre (b c':Int) (W:Wt) (y:T68):T68:=.as_ (pl0 b c') W.kd y
theorem se (hW:W = .whole∨W = .truth) (m:Md b 0 c' (zP 5) k k' 7 W y v d):Kn 8 (tre b c' W y)∧(ah 8 (tre b c' W y)).Nodup:=by
 have oc:=m.k.occ
 rw [Wt.fl hW] at oc
 refine ⟨fg (sm0 b c') (by cases W <;> decide) m.toKn oc,((m.p.app .one).of fun w=>?_).apart (n:=0) (by have h1:=m.z;have h2:zP 5=671:=(by decide);omega)⟩
 show (pl0 b c' :: (ah 7 y ++ [])).count w≤_
 rw [Ω,Ϝ,ϟ,Ϝ,Å];omega
theorem wF (hW:W = .whole∨W = .truth) (m:Md b 0 c' (zP 5) k k' 7 W y v none) {L:AlG Rw} {pl tg:Bool} {ns:List Int} (f:Ft L pl 8 (tre b c' W y)) (g:am L (.inl (pl0 b c'))=none):Ct L tg ns 8 (tre b c' W y) k (.ok (vD tg pl v) k'):=by
 obtain ⟨f1,f2⟩:=f.k (z:=y) 0 rfl
 exact (dM (p:=pl0 b c') (k:=W.kd) (m.r L pl tg ns f2 (f1.trans (by rw [Wt.fl hW];rfl)))).no g
theorem B2 (hW:W = .whole∨W = .truth) {e:D} (m:Md b 0 c' (zP 5) k k' 7 W y v (some e)) {L:AlG Rw} {tg:Bool} {ns:List Int} (f:Ft L false 8 (tre b c' W y)):Ct L tg ns 8 (tre b c' W y) k (.er e):=by
 obtain ⟨f1,f2⟩:=f.k (z:=y) 0 rfl
 exact lY (m.r L tg ns f2 (f1.trans (by rw [Wt.fl hW];rfl)))
theorem nms {t:T68} (o:Ok 8 t) (n:Nat):ac Γ (n+20) dY [t.toD] [] = .ok .non []:=by
 have:=dG 8 (n+19) t [] [] (by omega) o (by decide)
 exact (aa false (aX 0 (this) aZ) (by kernel_rfl))
theorem rD (hW:W = .whole∨W = .truth) {x:Fl} (hx:∀ i,x = .n i→i.natAbs<10 ^ 81) (m:Md b 0 c' (zP 5) k k' 7 W y (.fl x) none) (n:Nat):∃ st,ac Γ (n+61) tX [(tre b c' W y).toD,.lst [],.int k] [] = .ok (dnD x) st:=by
 have h1:=nms (se hW m).1.o (n+40)
 obtain ⟨st,h2⟩:=iM (n:=n) (ns:=[]) hx (wF hW m (tg:=false) (ns:=[]) (pV 8 _) rfl)
 exact ⟨st,(aa false (aX 0 (h1) (aX 0 (h2) aZ)) (by kernel_rfl))⟩
theorem rU (hW:W = .whole∨W = .truth) {x:Fl} (hx:∀ i,x = .n i→i.natAbs<10 ^ 81) (m:Md b 0 c' (zP 5) k k' 7 W y (.fl x) none) (n:Nat) (tg:Bool) (ns:List Int):∃ st,ac Γ (n+61) v9 [(tre b c' W y).toD,.lst (ns.map .int),.int k,.bl tg] [] = .ok (dnD x) st:=by
 have nt:bc [(tre b c' W y).toD]=true:=by show (noR (tre b c' W y).toD && true)=true;rw [T68.nr];rfl
 obtain ⟨kn,nd⟩:=se hW m
 obtain ⟨L,sl,h1,g,f⟩:=gj kn.t kn.c kn.o nd (n+37)
 have nl:noR (dL L)=true:=rj L
 obtain ⟨st,h2⟩:=iM (n:=n) (ns:=ns) hx (wF hW m (tg:=tg) (ns:=ns) f g)
 exact ⟨st,(aa false (aX 0 (nt) (aX 0 (h1) (aX 0 (nl) (aX 0 (h2) aZ)))) (by kernel_rfl))⟩
theorem rT (hW:W = .whole∨W = .truth) {e:D} (m:Md b 0 c' (zP 5) k k' 7 W y v (some e)) (n:Nat) (tg:Bool) (ns:List Int):∃ st,ac Γ (n+61) v9 [(tre b c' W y).toD,.lst (ns.map .int),.int k,.bl tg] [] = .ok e st:=by
 have nt:bc [(tre b c' W y).toD]=true:=by show (noR (tre b c' W y).toD && true)=true;rw [T68.nr];rfl
 obtain ⟨kn,nd⟩:=se hW m
 obtain ⟨L,sl,h1,g,f⟩:=gj kn.t kn.c kn.o nd (n+37)
 have nl:noR (dL L)=true:=rj L
 obtain ⟨st,h2⟩:=oV (n:=n) (ns:=ns) (B2 hW m (tg:=tg) (ns:=ns) f)
 exact ⟨st,(aa false (aX 0 (nt) (aX 0 (h1) (aX 0 (nl) (aX 0 (h2) aZ)))) (by kernel_rfl))⟩
end
theorem sF (x:Int):∃ W:Wt,(W = .whole∨W = .truth)∧ixD (.lst [.str "whole",.str "whole",.str "whole",.str "truth"]) (.int (x % 4))=some (.str W.s):=by
 rcases C5 x with h | h | h | h <;> rw [h]
 ·exact ⟨.whole,.inl rfl,rfl⟩
 ·exact ⟨.whole,.inl rfl,rfl⟩
 ·exact ⟨.whole,.inl rfl,rfl⟩
 ·exact ⟨.truth,.inr rfl,rfl⟩
theorem yL (k:Int):opD .ne (.lst [.int k]) (.lst [.int k])=some (.bl false):=by
 have e:L2.Ev.eqT (.lst [.int k]) (.lst [.int k])=some true:=by
  rw [kS rfl]
  show (if [D.int k].length = [D.int k].length then cO (eqv 54) [.int k] [.int k] else some false)=_
  rw [ZZ rfl]
  exact fU 54 _ fun d hd=>(Pl.refl (n:=53) (by rw [η.mp hd];exact .i))
 exact ZS (Option.map fun x=>D.bl (!x)) e
theorem xM (ns:List Int):∃ st':List O,ac Γ 250 A1 [.lst (ns.map .int)] [] = .ok (.bl true) st':=by
 obtain ⟨c,_,hc⟩:=tj ns 0 248 []
 obtain ⟨k,hk,_⟩:=mI (c:=c) (n:=4) (by decide)
 obtain ⟨W,hW,ixw⟩:=sF (c / 50000)
 obtain ⟨y,v,d,i,c',k',_,m,td,bd,ht⟩:=rx 5 (by decide) (by decide) W hW ns 0 (c / 4 % 9973) 0 k 249 (by omega) (by decide)
 have p:=aQ (ns:=ns) (i:=i) (b:=c / 4 % 9973) (c:=c') (k:=k') (n:=248)
 have mk:=bg hk (by decide)
 have ne:=yL (k:Nat)
 have nt:bc [(tre (c / 4 % 9973) c' W y).toD,.lst [],.int k]=true:=by show (noR (tre (c / 4 % 9973) c' W y).toD && true)=true;rw [T68.nr];rfl
 have nt4:∀ b,bc [(tre (c / 4 % 9973) c' W y).toD,.lst [.int k],.int k,.bl b]=true:=fun b=>by show (noR (tre (c / 4 % 9973) c' W y).toD && true)=true;rw [T68.nr];rfl
 rcases td with rfl | ⟨l,rfl,dv⟩
 ·obtain ⟨x,rfl⟩:=(bd rfl).fl
  have hx:∀ j,x = .n j→j.natAbs<10 ^ 81:=fun j e=>by
   subst e
   rcases hW with rfl | rfl
   ·obtain ⟨j',e,h⟩:=bd rfl
    cases e
    exact Nat.lt_of_le_of_lt h (by decide +kernel)
   ·obtain ⟨j',e⟩:=bd rfl
    cases e
  obtain ⟨s0,pn⟩:=rD hW hx m 188
  obtain ⟨s1,r1⟩:=rU hW hx m 188 false [(k:Int)]
  obtain ⟨s2,r2⟩:=rU hW hx m 188 true [(k:Int)]
  have al:=wL x 248 (ao ns i (c / 4 % 9973) (c'+1) k')
  refine ⟨ao ns i (c / 4 % 9973) (c'+1) k',?_⟩
  rcases hW with rfl | rfl
  ·exact (aa false (aX 0 (hc) (aX 0 (mk) (aX 4 (ixw) (aX 0 (ht) (aX 0 (p) (aX 1 (nt) (aX 0 (pn) (aX 7 (nt4 false) (aX 0 (r1) (aX 0 (al) (aX 2 (ne) (aX 1 (nt4 true) (aX 0 (r2) (aX 0 (al) (aX 2 (ne) aZ))))))))))))))) (by kernel_rfl))
  ·exact (aa false (aX 0 (hc) (aX 0 (mk) (aX 4 (ixw) (aX 0 (ht) (aX 0 (p) (aX 1 (nt) (aX 0 (pn) (aX 7 (nt4 false) (aX 0 (r1) (aX 0 (al) (aX 2 (ne) (aX 1 (nt4 true) (aX 0 (r2) (aX 0 (al) (aX 2 (ne) aZ))))))))))))))) (by kernel_rfl))
 ·obtain ⟨s1,r1⟩:=rT hW m 188 false [(k:Int)]
  obtain ⟨s2,r2⟩:=rT hW m 188 true [(k:Int)]
  have nd:=Bz dv
  have al:=zX dv 248 (ao ns i (c / 4 % 9973) (c'+1) k')
  refine ⟨ao ns i (c / 4 % 9973) (c'+1) k',?_⟩
  rcases hW with rfl | rfl
  ·exact (aa false (aX 0 (hc) (aX 0 (mk) (aX 4 (ixw) (aX 0 (ht) (aX 0 (p) (aX 1 (nt4 false) (aX 0 (r1) (aX 0 (nd) (aX 0 (al) (aX 2 (ne) (aX 1 (nt4 true) (aX 0 (r2) (aX 0 (nd) (aX 0 (al) (aX 2 (ne) aZ))))))))))))))) (by kernel_rfl))
  ·exact (aa false (aX 0 (hc) (aX 0 (mk) (aX 4 (ixw) (aX 0 (ht) (aX 0 (p) (aX 1 (nt4 false) (aX 0 (r1) (aX 0 (nd) (aX 0 (al) (aX 2 (ne) (aX 1 (nt4 true) (aX 0 (r2) (aX 0 (nd) (aX 0 (al) (aX 2 (ne) aZ))))))))))))))) (by kernel_rfl))
def o8 (K:χ):Prop:=∃ C f0 f1 f2 f3 f4:Β,oZ K "Looker" C∧NaL K C ["kinds","wanted"]∧cQ K C "__init__" "Looker.__init__" (aD (top 38) 0) f0∧cQ K C "look" "Looker.look" (aD (top 38) 1) f1∧cQ K C "hold" "Looker.hold" (aD (top 38) 2) f2∧cQ K C "hold_choice" "Looker.hold_choice" (aD (top 38) 3) f3∧cQ K C "want" "Looker.want" (aD (top 38) 4) f4
def sP (K:χ):Prop:=∃ C fI:Β,zW K "Ended" "Ended.__init__" (aD (top 66) 0) exB "Exception.__new__" C fI∧NaL K C ["outcome"]
def sR (K:χ):Prop:=∃ C f0:Β,oZ K "Value" C∧NaL K C ["head","held","guards","tag"]∧cQ K C "__init__" "Value.__init__" (aD (top 67) 0) f0
def sQ (K:χ):Prop:=∃ C f0 f1 f2 f3 f4 f5:Β,oZ K "Giver" C∧NaL K C ["left","together","notes"]∧cQ K C "__init__" "Giver.__init__" (aD (top 68) 0) f0∧cQ K C "give" "Giver.give" (aD (top 68) 1) f1∧cQ K C "give_all" "Giver.give_all" (aD (top 68) 2) f2∧cQ K C "give_in_call" "Giver.give_in_call" (aD (top 68) 3) f3∧cQ K C "guards_with" "Giver.guards_with" (aD (top 68) 4) f4∧cQ K C "note" "Giver.note" (aD (top 68) 5) f5
def o9 (K:χ):Prop:=∃ C f0 f1 f2 f3:Β,oZ K "Walker" C∧NaL K C ["looks","numbers","giver"]∧cQ K C "__init__" "Walker.__init__" (aD (top 94) 0) f0∧cQ K C "come_to" "Walker.come_to" (aD (top 94) 1) f1∧cQ K C "value_of" "Walker.value_of" (aD (top 94) 2) f2∧cQ K C "called" "Walker.called" (aD (top 94) 3) f3
def mrl:List (ν×ν×Bool):=[("Ended","Ended",true)]
structure Txt (K:χ):Prop where
 fn:dK K fnl
 gl:GlL K gll
 tl:kO K tbl
 bl:NoL K T.bl
 mr:MrL K mrl
 x_Looker:o8 K
 x_Ended:sP K
 x_Value:sR K
 x_Giver:sQ K
 x_Walker:o9 K
theorem tx:(((fnl.map fun p=>(p.1,p.1,p.2)) ++ mel).all fun p=>fnC p.2.2 && (eY T p.2.2).isSome)=true:=by kernel_rfl
theorem wM {P:ϴ} {w:Û} {K:χ} {h:ϳ} {mg:ν→Option ζ} {fa:Β} {os:FA} (Y:K.In h) (G:h.Ns ϑ mg) (hfa:mg "law" = some (.ref fa)) (T':Txt K) :
 ∃ X:Cx,X.W.P=P∧X.W.w=w∧X.K=K∧X.mg=mg∧X.base=h∧X.os=os∧X.calm=true∧bX X (ac Γ 250) 252 69 fa:=by
 obtain ⟨ad,hF,hG⟩:=T'.fn.ad Y G
 obtain ⟨C_Looker,a_Looker___init__,a_Looker_look,a_Looker_hold,a_Looker_hold_choice,a_Looker_want,Di,na_Looker,⟨⟨fd_Looker___init__,F_Looker___init__⟩,M_Looker___init__⟩,⟨⟨fd_Looker_look,F_Looker_look⟩,M_Looker_look⟩,⟨⟨fd_Looker_hold,F_Looker_hold⟩,M_Looker_hold⟩,⟨⟨fd_Looker_hold_choice,F_Looker_hold_choice⟩,M_Looker_hold_choice⟩,⟨⟨fd_Looker_want,F_Looker_want⟩,M_Looker_want⟩⟩:=T'.x_Looker
 obtain ⟨C_Ended,fi_Ended,Df,na_Ended⟩:=T'.x_Ended
 obtain ⟨Dp,Fi_Ended⟩:=Df.ini
 obtain ⟨C_Value,a_Value___init__,Dj,na_Value,⟨⟨fd_Value___init__,F_Value___init__⟩,M_Value___init__⟩⟩:=T'.x_Value
 obtain ⟨C_Giver,a_Giver___init__,a_Giver_give,a_Giver_give_all,a_Giver_give_in_call,a_Giver_guards_with,a_Giver_note,Do,na_Giver,⟨⟨fd_Giver___init__,F_Giver___init__⟩,M_Giver___init__⟩,⟨⟨fd_Giver_give,F_Giver_give⟩,M_Giver_give⟩,⟨⟨fd_Giver_give_all,F_Giver_give_all⟩,M_Giver_give_all⟩,⟨⟨fd_Giver_give_in_call,F_Giver_give_in_call⟩,M_Giver_give_in_call⟩,⟨⟨fd_Giver_guards_with,F_Giver_guards_with⟩,M_Giver_guards_with⟩,⟨⟨fd_Giver_note,F_Giver_note⟩,M_Giver_note⟩⟩:=T'.x_Giver
 obtain ⟨C_Walker,a_Walker___init__,a_Walker_come_to,a_Walker_value_of,a_Walker_called,Dl,na_Walker,⟨⟨fd_Walker___init__,F_Walker___init__⟩,M_Walker___init__⟩,⟨⟨fd_Walker_come_to,F_Walker_come_to⟩,M_Walker_come_to⟩,⟨⟨fd_Walker_value_of,F_Walker_value_of⟩,M_Walker_value_of⟩,⟨⟨fd_Walker_called,F_Walker_called⟩,M_Walker_called⟩⟩:=T'.x_Walker
 let X:Cx:=⟨⟨P,w,[⟨C_Looker,["kinds","wanted"]⟩,⟨C_Ended,["outcome"]⟩,⟨C_Value,["head","held","guards","tag"]⟩,⟨C_Giver,["left","together","notes"]⟩,⟨C_Walker,["looks","numbers","giver"]⟩],[0,2,1,0,0]⟩,K,mg,h,os,Γ,fun _ _ _=>.bad,fun _ _ _=>.bad,œ,[],[],Ū "" (ax (top 0)) 0 0 .none,true⟩
 have hM:FsL K mel [a_Looker___init__,a_Looker_look,a_Looker_hold,a_Looker_hold_choice,a_Looker_want,a_Giver___init__,a_Giver_give,a_Giver_give_all,a_Giver_give_in_call,a_Giver_guards_with,a_Giver_note,a_Walker___init__,a_Walker_come_to,a_Walker_value_of,a_Walker_called]:=⟨⟨_,F_Looker___init__.d (by kernel_rfl)⟩,⟨_,F_Looker_look.d (by kernel_rfl)⟩,⟨_,F_Looker_hold.d (by kernel_rfl)⟩,⟨_,F_Looker_hold_choice.d (by kernel_rfl)⟩,⟨_,F_Looker_want.d (by kernel_rfl)⟩,⟨_,F_Giver___init__.d (by kernel_rfl)⟩,⟨_,F_Giver_give.d (by kernel_rfl)⟩,⟨_,F_Giver_give_all.d (by kernel_rfl)⟩,⟨_,F_Giver_give_in_call.d (by kernel_rfl)⟩,⟨_,F_Giver_guards_with.d (by kernel_rfl)⟩,⟨_,F_Giver_note.d (by kernel_rfl)⟩,⟨_,F_Walker___init__.d (by kernel_rfl)⟩,⟨_,F_Walker_come_to.d (by kernel_rfl)⟩,⟨_,F_Walker_value_of.d (by kernel_rfl)⟩,⟨_,F_Walker_called.d (by kernel_rfl)⟩,trivial⟩
 have Dg:dC X T.an 0 ⟨0,[0,1],70,[],[],[]⟩ ⟨C_Looker,["kinds","wanted"]⟩:=⟨rfl,fun _=>Di.cls,na_Looker.at,rfl,(show (["kinds","wanted"]:List ν)=List.map T.an [0,1] by decide +kernel),(show (["kinds","wanted"]:List ν).Nodup by decide +kernel),fun z=>ZX z (by decide)⟩
 have k_Ended:dC X T.an 1 ⟨2,[2],0,[],[],[]⟩ ⟨C_Ended,["outcome"]⟩:=⟨rfl,(fun z=>ZX rfl z),na_Ended.at,rfl,(show (["outcome"]:List ν)=List.map T.an [2] by decide +kernel),(show (["outcome"]:List ν).Nodup by decide +kernel),fun _=>⟨Df.fd,Df.hh⟩⟩
 have k_Value:dC X T.an 2 ⟨1,[3,4,5,6],0,[],[],[]⟩ ⟨C_Value,["head","held","guards","tag"]⟩:=⟨rfl,fun _=>Dj.cls,na_Value.at,rfl,(show (["head","held","guards","tag"]:List ν)=List.map T.an [3,4,5,6] by decide +kernel),(show (["head","held","guards","tag"]:List ν).Nodup by decide +kernel),fun z=>ZX z (by decide)⟩
 have Dh:dC X T.an 3 ⟨0,[7,8,9],75,[],[],[]⟩ ⟨C_Giver,["left","together","notes"]⟩:=⟨rfl,fun _=>Do.cls,na_Giver.at,rfl,(show (["left","together","notes"]:List ν)=List.map T.an [7,8,9] by decide +kernel),(show (["left","together","notes"]:List ν).Nodup by decide +kernel),fun z=>ZX z (by decide)⟩
 have Dm:dC X T.an 4 ⟨0,[10,11,12],81,[],[],[]⟩ ⟨C_Walker,["looks","numbers","giver"]⟩:=⟨rfl,fun _=>Dl.cls,na_Walker.at,rfl,(show (["looks","numbers","giver"]:List ν)=List.map T.an [10,11,12] by decide +kernel),(show (["looks","numbers","giver"]:List ν).Nodup by decide +kernel),fun z=>ZX z (by decide)⟩
 have Pg:sO T X (ad ++ [a_Looker___init__,a_Looker_look,a_Looker_hold,a_Looker_hold_choice,a_Looker_want,a_Giver___init__,a_Giver_give,a_Giver_give_all,a_Giver_give_in_call,a_Giver_guards_with,a_Giver_note,a_Walker___init__,a_Walker_come_to,a_Walker_value_of,a_Walker_called]) 1:=by
  refine ⟨rfl,fun j f e=>AJ rfl tx (hF.app hM) e,fun j x e=>?_,fun j x e=>?_,fun j x e=>?_,fun x e=>PySem.W.mg_none_of Y G (T'.bl.at x e),fun c k e=>?_,fun q e=>?_,fun j x e hz=>?_,fun j x e hz=>?_,fun j x e hz=>?_,fun j x e hz=>?_,fun j x e hz=>?_⟩
  ·obtain ⟨f,h1,h2⟩:=pd hG e
   exact ⟨f,Χ (ς.mp h1).1 ▸ h1,h2⟩
  ·obtain ⟨d,u,h1,h2,h3⟩:=T'.gl.at e
   exact ⟨d,u,h1,é Y G h2,h3⟩
  ·obtain ⟨t,a,h1,h2,h3⟩:=T'.tl.at e
   exact ⟨t,a,h1,é Y G h2,h3⟩
  ·exact eX (P:=fun (c:Nat) (k:Cl)=>∃ i,dC X T.an c k i) (show fL _ 0 Γ.cl from ⟨⟨_,Dg⟩,⟨_,k_Ended⟩,⟨_,k_Value⟩,⟨_,Dh⟩,⟨_,Dm⟩,trivial⟩) e
  ·obtain ⟨i,e⟩:=Ë.mp e
   exact eX (P:=fun (_:Nat) (q:ν×Nat×Nat)=>∃ f,(ad ++ [a_Looker___init__,a_Looker_look,a_Looker_hold,a_Looker_hold_choice,a_Looker_want,a_Giver___init__,a_Giver_give,a_Giver_give_all,a_Giver_give_in_call,a_Giver_guards_with,a_Giver_note,a_Walker___init__,a_Walker_come_to,a_Walker_value_of,a_Walker_called])[q.2.2]? = some f∧nu X T.an q.1 q.2.1 f) (show fL _ 0 T.me from ⟨⟨a_Looker_look,bB (n:=70) (k:=1) hF.len,⟨_,_,rfl,Dg,rfl,M_Looker_look,(show ("look":ν) ∉ (["kinds","wanted"]:List ν) by decide +kernel)⟩⟩,⟨a_Looker_hold,bB (n:=70) (k:=2) hF.len,⟨_,_,rfl,Dg,rfl,M_Looker_hold,(show ("hold":ν) ∉ (["kinds","wanted"]:List ν) by decide +kernel)⟩⟩,⟨a_Looker_hold_choice,bB (n:=70) (k:=3) hF.len,⟨_,_,rfl,Dg,rfl,M_Looker_hold_choice,(show ("hold_choice":ν) ∉ (["kinds","wanted"]:List ν) by decide +kernel)⟩⟩,⟨a_Looker_want,bB (n:=70) (k:=4) hF.len,⟨_,_,rfl,Dg,rfl,M_Looker_want,(show ("want":ν) ∉ (["kinds","wanted"]:List ν) by decide +kernel)⟩⟩,⟨a_Giver_give,bB (n:=70) (k:=6) hF.len,⟨_,_,rfl,Dh,rfl,M_Giver_give,(show ("give":ν) ∉ (["left","together","notes"]:List ν) by decide +kernel)⟩⟩,⟨a_Giver_give_all,bB (n:=70) (k:=7) hF.len,⟨_,_,rfl,Dh,rfl,M_Giver_give_all,(show ("give_all":ν) ∉ (["left","together","notes"]:List ν) by decide +kernel)⟩⟩,⟨a_Giver_give_in_call,bB (n:=70) (k:=8) hF.len,⟨_,_,rfl,Dh,rfl,M_Giver_give_in_call,(show ("give_in_call":ν) ∉ (["left","together","notes"]:List ν) by decide +kernel)⟩⟩,⟨a_Giver_guards_with,bB (n:=70) (k:=9) hF.len,⟨_,_,rfl,Dh,rfl,M_Giver_guards_with,(show ("guards_with":ν) ∉ (["left","together","notes"]:List ν) by decide +kernel)⟩⟩,⟨a_Giver_note,bB (n:=70) (k:=10) hF.len,⟨_,_,rfl,Dh,rfl,M_Giver_note,(show ("note":ν) ∉ (["left","together","notes"]:List ν) by decide +kernel)⟩⟩,⟨a_Walker_come_to,bB (n:=70) (k:=12) hF.len,⟨_,_,rfl,Dm,rfl,M_Walker_come_to,(show ("come_to":ν) ∉ (["looks","numbers","giver"]:List ν) by decide +kernel)⟩⟩,⟨a_Walker_value_of,bB (n:=70) (k:=13) hF.len,⟨_,_,rfl,Dm,rfl,M_Walker_value_of,(show ("value_of":ν) ∉ (["looks","numbers","giver"]:List ν) by decide +kernel)⟩⟩,⟨a_Walker_called,bB (n:=70) (k:=14) hF.len,⟨_,_,rfl,Dm,rfl,M_Walker_called,(show ("called":ν) ∉ (["looks","numbers","giver"]:List ν) by decide +kernel)⟩⟩,trivial⟩) e
  ·exact eX (P:=fun (j:Nat) (x:ν)=>x≠("":ν)→∃ f i cl,(ad ++ [a_Looker___init__,a_Looker_look,a_Looker_hold,a_Looker_hold_choice,a_Looker_want,a_Giver___init__,a_Giver_give,a_Giver_give_all,a_Giver_give_in_call,a_Giver_guards_with,a_Giver_note,a_Walker___init__,a_Walker_come_to,a_Walker_value_of,a_Walker_called])[cl.init]? = some f∧Mk K i.ad f∧Γ.cl[j]? = some cl∧cl.what=0∧X.W.ci[j]? = some i∧X.W.what[j]? = some 0∧mg x=some (.ref i.ad)) (show fL _ 0 T.nw from ⟨(fun _=>⟨a_Looker___init__,⟨C_Looker,_⟩,_,bB (n:=70) (k:=0) hF.len,⟨Di.mks,M_Looker___init__.at_,M_Looker___init__.fn,Di.kp⟩,rfl,rfl,rfl,rfl,é Y G Di.a⟩),(fun z=>ZX rfl z),(fun z=>ZX rfl z),(fun _=>⟨a_Giver___init__,⟨C_Giver,_⟩,_,bB (n:=70) (k:=5) hF.len,⟨Do.mks,M_Giver___init__.at_,M_Giver___init__.fn,Do.kp⟩,rfl,rfl,rfl,rfl,é Y G Do.a⟩),(fun _=>⟨a_Walker___init__,⟨C_Walker,_⟩,_,bB (n:=70) (k:=11) hF.len,⟨Dl.mks,M_Walker___init__.at_,M_Walker___init__.fn,Dl.kp⟩,rfl,rfl,rfl,rfl,é Y G Dl.a⟩),trivial⟩) e hz
  ·exact eX (P:=fun (j:Nat) (x:ν)=>x≠("":ν)→∃ f fd ps i cl,FnI X 1 f fd ps i.nm none∧bV K fd ps []∧Mk K i.ad f∧Cls K i.ad∧(∀ f∈i.nm,cz K i.ad f)∧Γ.cl[j]? = some cl∧X.W.ci[j]? = some i∧X.W.what[j]? = some 1∧i.nm.length=cl.at_.length∧mg x=some (.ref i.ad)) (show fL _ 0 T.nd from ⟨(fun z=>ZX rfl z),(fun z=>ZX rfl z),(fun _=>⟨a_Value___init__,fd_Value___init__,_,⟨C_Value,_⟩,_,(iY (X:=X) (nm:=["head","held","guards","tag"]) none F_Value___init__ (by kernel_rfl)).1,(iY (X:=X) (nm:=["head","held","guards","tag"]) none F_Value___init__ (by kernel_rfl)).2,⟨Dj.mks,M_Value___init__.at_,M_Value___init__.fn,Dj.kp⟩,Dj.cls,na_Value.at,rfl,rfl,rfl,rfl,é Y G Dj.a⟩),(fun z=>ZX rfl z),(fun z=>ZX rfl z),trivial⟩) e hz
  ·exact eX (P:=fun (j:Nat) (x:ν)=>x≠("":ν)→∃ (k:Cl) (i:CI) (fI:Β) (fd:ß) (ps:List ν) (Bx nwI iniI:String) (bmB:List ζ),Ę Bx nwI iniI bmB∧gQ K i.ad fI bmB nwI∧FnJ X 1 fI fd ps i.nm k i.ad∧bV K fd ps []∧fM K i.ad∧(∀ f∈i.nm,Ρ K (.ref i.ad) f=some none)∧Γ.cl[j]? = some k∧X.W.ci[j]? = some i∧X.W.what[j]? = some 2∧i.nm.length=k.at_.length∧Ϯ K i.ad (.type "BaseException")=some true∧ć K (.ref i.ad)=some (.type "type")∧ϖ K (.ref i.ad)=true∧mg x=some (.ref i.ad)∧k.at_.isEmpty=false) (show fL _ 0 T.ex from ⟨(fun z=>ZX rfl z),(fun _=>⟨_,⟨C_Ended,_⟩,fi_Ended,Dp,_,_,_,_,_,PySem.F.excBase_Exception,Df.own,⟨_,(iY (X:=X) (nm:=["outcome"]) none Fi_Ended (by kernel_rfl)).1,.inl rfl⟩,(iY (X:=X) (nm:=["outcome"]) none Fi_Ended (by kernel_rfl)).2,Df.st,na_Ended.at,rfl,rfl,rfl,rfl,Df.fd.be,Df.ec.ty,Df.kp,é Y G Df.a,rfl⟩),(fun z=>ZX rfl z),(fun z=>ZX rfl z),(fun z=>ZX rfl z),trivial⟩) e hz
  ·exact eX (P:=fun (j:Nat) (x:ν)=>x≠("":ν)→o7 X j x) (show fL _ 0 T.hx from ⟨(fun z=>ZX rfl z),(fun _=>⟨⟨C_Ended,_⟩,rfl,é Y G Df.a,Df.ec,fun c k ic h1 h2 h3=>eX (P:=fun (c:Nat) (k:Cl)=>∀ ic,X.W.ci[c]? = some ic→X.W.what[c]? = some 2→Ϯ K ic.ad (.ref C_Ended)=some (c == 1 || k.sup.contains 1)) (show fL _ 0 Γ.cl from ⟨(fun _ _ z=>ZX z (by show some 0≠some 2;decide)),(fun _ e _=>by cases e;exact T'.mr.at (by decide +kernel) Df.a Df.a),(fun _ _ z=>ZX z (by show some 1≠some 2;decide)),(fun _ _ z=>ZX z (by show some 0≠some 2;decide)),(fun _ _ z=>ZX z (by show some 0≠some 2;decide)),trivial⟩) h1 ic h2 h3⟩),(fun z=>ZX rfl z),(fun z=>ZX rfl z),(fun z=>ZX rfl z),trivial⟩) e hz
  ·exact eX (P:=fun (j:Nat) (x:ν)=>x≠("":ν)→RtP X j x) (show fL _ 0 T.xt from ⟨(fun z=>ZX rfl z),(fun z=>ZX rfl z),(fun z=>ZX rfl z),(fun z=>ZX rfl z),(fun z=>ZX rfl z),trivial⟩) e hz
 obtain ⟨f,h1,h2⟩:=pd hG (j:=69) (x:="law") rfl
 rw [hfa] at h2
 cases h2
 exact ⟨X,rfl,rfl,rfl,rfl,rfl,rfl,rfl,jp Pg 250 69 fa (Χ (ς.mp h1).1 ▸ h1)⟩
theorem walk {l:Fk} {q:ϴ} {loose:List ν} {XP:(ν→Option ζ)→ϳ→Prop} {YP:Û→ϳ→Prop} {d:DefRec} {K:Params→χ} (hn:l.most=some 63) (hdf:d.params.defaults = []) (hd:d.name = "law")
 (hY:∀ (w:Û) (h:ϳ),YP w h→(K w.params).In h) (F:∀ (w:Û) (h:ϳ) (Y:(K w.params).In h),Txt (KOf Y)):FO q loose XP YP l.row.toRowW d [] (fun f vs=>F2 f vs):=
 vB (n:=63) hn (by decide) hdf ⟨rfl,by decide,by decide⟩ hY (fun w mg fa h os Y G e md=>wM Y G (hd ▸ e) (F w h Y)) (fun ns _=>xM ns)
end L2.K79
end
section
open PySem PySem.W PyProof.Rows
namespace PySem.W.Fast
def tw12531511104730409118:Nat:=0
def tw7096431370373549704:Nat:=0
def tw5004940090131013371:Nat:=0
def tw9810235431069267471:Nat:=0
def tw11074141639346057019:Nat:=0
def tw17935749787722908715:Nat:=0
def tw18094610756219955671:Nat:=0
def tw4846542229241095500:Nat:=0
def tw14543680550831544297:Nat:=0
def tw6134223332386496598:Nat:=0
def tw16940928291421557818:Nat:=0
def tw4692684467788080383:Nat:=0
def tw15434377286784839004:Nat:=0
def tw8787669261695957640:Nat:=0
def tw12458521695417085434:Nat:=0
def tw4569298392841088775:Nat:=0
def tw7678245230722283795:Nat:=0
def tw1617708960704535679:Nat:=0
def tw14552012859340096028:Nat:=0
def tw15974988058206215408:Nat:=0
def tw18068129348869689258:Nat:=0
def tw14920815893493171812:Nat:=0
def tw16393356554678028600:Nat:=0
def tw11980798315996202710:Nat:=0
def tw13675840172801213833:Nat:=0
def tw428160715215427073:Nat:=0
def tw6006837265598070880:Nat:=0
def tw16139293805702262250:Nat:=0
def tw5325574164992749596:Nat:=0
def tw14592588274748284543:Nat:=0
def tw5344337638649012141:Nat:=0
def tw2917518657034680602:Nat:=0
def tw14047827702280739926:Nat:=0
def tw21006114085050889:Nat:=0
def tw6405420272135529693:Nat:=0
def tw10201656998548965608:Nat:=0
def tw12317856052797011807:Nat:=0
def tw13525937003648290550:Nat:=0
def tw17540174128122163938:Nat:=0
def tw4313967764889483566:Nat:=0
def tw15019957698196710470:Nat:=0
def tw18038200341842004007:Nat:=0
def tw3108588454956990229:Nat:=0
def tw15072923950137579314:Nat:=0
def tw8335101110124319646:Nat:=0
def tw4507859217381193839:Nat:=0
def tw18211658419507218443:Nat:=0
def tw8089554087243529574:Nat:=0
def tw11177225896627414529:Nat:=0
def tw9160675344875975395:Nat:=0
def tw9521371543900277100:Nat:=0
def tw8464043079866434295:Nat:=0
def tw9782341863226729695:Nat:=0
def tw9434802881108665157:Nat:=0
def tw3956687552104121815:Nat:=0
def tw8601866243865708486:Nat:=0
def tw3144819412736838091:Nat:=0
def tw15405950403423903418:Nat:=0
def tw13467674798620576638:Nat:=0
def tw3249005733298759756:Nat:=0
def tw10502894253997656545:Nat:=0
def tw13025539030118330254:Nat:=0
def tw15079537837071153136:Nat:=0
def tw10320519813973143713:Nat:=0
def tw16933626518846237182:Nat:=0
def tw17961449445549191493:Nat:=0
def tw6693877929820055029:Nat:=0
def tw16835587090603636217:Nat:=0
def tw14180662627615997158:Nat:=0
def tw14982261999944890089:Nat:=0
def tw8387579546624882295:Nat:=0
def tw9655870268260325558:Nat:=0
def tw13053501623054816731:Nat:=0
def tw17886542139090123950:Nat:=0
def tw15542664665759738426:Nat:=0
def tw1253051980309258803:Nat:=0
def tw4155969071609888458:Nat:=0
def tw15012644947625562381:Nat:=0
def tw2684040986707675854:Nat:=0
def tw17367841292365426798:Nat:=0
def tw10830323182053061334:Nat:=0
def tw18391113640643258982:Nat:=0
def tw15434527207275981885:Nat:=0
def tw15281623527221220092:Nat:=0
def tw3318800215339094821:Nat:=0
def tw14640523693154703708:Nat:=0
def tw7029384715380402277:Nat:=0
def tw13062213567047733117:Nat:=0
def tw311852826613413018:Nat:=0
def tw13047278704795736672:Nat:=0
def tw1154807362513322226:Nat:=0
def tw9605881566412097377:Nat:=0
def tw6466296020850659396:Nat:=0
def tw10995705011117475813:Nat:=0
def tw16884196512342457058:Nat:=0
def tw7118763807968020792:Nat:=0
def tw14925686610469280824:Nat:=0
def tw11825595696859829234:Nat:=0
def tw11221245333495988855:Nat:=0
def tw7330223022547958650:Nat:=0
def tw14754718741673399017:Nat:=0
def tw7047893537538328511:Nat:=0
def tw12679561129238875090:Nat:=0
def tw16990770222235159689:Nat:=0
def tw10707041790217103041:Nat:=0
def tw6701588248334284701:Nat:=0
def tw5210438956722539908:Nat:=0
def tw15840301699585753928:Nat:=0
def tw3963984852097976152:Nat:=0
def tw7196412896778977352:Nat:=0
def tw2557198456603617075:Nat:=0
def tw11275837021776186996:Nat:=0
def tw8521806344602316856:Nat:=0
def tw14770477987475387065:Nat:=0
def tw14708374597302739514:Nat:=0
def tw18436038073561404801:Nat:=0
def tw7658146649761504576:Nat:=0
def tw404620435136007787:Nat:=0
def tw8932137296492276299:Nat:=0
def tw5223578176774884069:Nat:=0
def tw16874611185167921121:Nat:=0
def tw8612471418569790451:Nat:=0
def tw2377544029957409569:Nat:=0
def tw1093751068775800732:Nat:=0
def tw10455764249720354507:Nat:=0
def tw9428827642522141125:Nat:=0
def tw931470443453655149:Nat:=0
def tw14757363978276398630:Nat:=0
def tw1102149039473372811:Nat:=0
def tw9459332209445179551:Nat:=0
def tw15835121221535278683:Nat:=0
def tw18319422392733063737:Nat:=0
def tw10815428094045418876:Nat:=0
def tw13315756462935801819:Nat:=0
def tw14350472757488458919:Nat:=0
def tw5723317795085338577:Nat:=0
def tw11074356013771634105:Nat:=0
def tw11062289880585046565:Nat:=0
def tw639950593378844644:Nat:=0
def tw16342906265417224541:Nat:=0
def tw6862703273587812565:Nat:=0
def tw6144246785318366526:Nat:=0
def tw9001036516216343358:Nat:=0
def tw9460194945784924000:Nat:=0
def tw11456683260183060456:Nat:=0
def tw913178182237789382:Nat:=0
def tw3260044593104525717:Nat:=0
def tw13295433939321912749:Nat:=0
def tw10473179250066615497:Nat:=0
def tw16941825905148112409:Nat:=0
def tw13696185978034070229:Nat:=0
def tw8944261469796176007:Nat:=0
def tw17578828886922760327:Nat:=0
def tw2155417380072310652:Nat:=0
def tw16933284360891290651:Nat:=0
def tw5738635516135599608:Nat:=0
def tw2945993723283911398:Nat:=0
def tw4981314576621706418:Nat:=0
def tw9180667917625009582:Nat:=0
def tw17971342083651612711:Nat:=0
def tw11100217068509826306:Nat:=0
def tw16340283199005550172:Nat:=0
def tw3574555636467326470:Nat:=0
def tw17721767031395118361:Nat:=0
def tw6812077041046650607:Nat:=0
def tw9902949535724423032:Nat:=0
def tw2002202498028189508:Nat:=0
def tw9605018997622789733:Nat:=0
def tw7203999569265230573:Nat:=0
def tw15450483689787146389:Nat:=0
def tw14631291447349225300:Nat:=0
def tw6923242999745084101:Nat:=0
def tw16928770239235526383:Nat:=0
def tw11927179887380090844:Nat:=0
def tw9245605378782568485:Nat:=0
def tw10169687489503405404:Nat:=0
def tw5937452690846625788:Nat:=0
def tw17050213137140231605:Nat:=0
def tw17065772345543464311:Nat:=0
def tw3183022097751852034:Nat:=0
def tw9518866770223326737:Nat:=0
def tw10932008033529983265:Nat:=0
def tw633142464803684091:Nat:=0
def tw16107482670687330304:Nat:=0
def tw5110087469696461439:Nat:=0
def tw13911268195398959243:Nat:=0
def tw13714309407335675525:Nat:=0
def tw11009357994259120015:Nat:=0
def tw16087383112765152892:Nat:=0
def tw14997901175841772143:Nat:=0
def tw5493983192139572008:Nat:=0
def tw8270895317773857754:Nat:=0
def tw17405812746184393360:Nat:=0
def tw3316456093358271916:Nat:=0
def tw18243862890742275140:Nat:=0
def tw13607451017293430009:Nat:=0
def tw1348943792091305587:Nat:=0
def tw7891118506477713640:Nat:=0
def tw15420245034942103949:Nat:=0
def tw1968042709184193848:Nat:=0
def tw8020876636129047687:Nat:=0
def tw14606999665953728875:Nat:=0
def tw9679828103415794433:Nat:=0
def tw7303927259286032375:Nat:=0
def tw16652332594900488000:Nat:=0
def tw9628735594955340157:Nat:=0
def tw13685739471313897021:Nat:=0
def tw7378853093381366912:Nat:=0
def tw472455600098402017:Nat:=0
def tw11452703807000593238:Nat:=0
def tw16194939080178119971:Nat:=0
def tw10208438796213801984:Nat:=0
def tw17007876138332391198:Nat:=0
def tw2465113504377931781:Nat:=0
def tw9742782341404272387:Nat:=0
def tw2792238958624631281:Nat:=0
def tw9454126934787092366:Nat:=0
def tw3778614789565860092:Nat:=0
def tw16525972812569134087:Nat:=0
def tw9532230798584013474:Nat:=0
def tw16717226987792001051:Nat:=0
def tw12632828299759245863:Nat:=0
def tw5250463354473751807:Nat:=0
def tw8811776980064084015:Nat:=0
def tw7678110430841877249:Nat:=0
def tw3769168670350569225:Nat:=0
def tw10094906146346372635:Nat:=0
def tw10284711554122700642:Nat:=0
def tw6341362782493162910:Nat:=0
def tw2704732289674802943:Nat:=0
def tw14283363374105409456:Nat:=0
def tw4666425706932960185:Nat:=0
def tw6321424218771754300:Nat:=0
def tw6380541581945329125:Nat:=0
def tw5478422393963249160:Nat:=0
def tw8689548308246580990:Nat:=0
def tw7120734457796855850:Nat:=0
def tw1500681136963266468:Nat:=0
def tw8338136253120932808:Nat:=0
def tw3018715327037205940:Nat:=0
def tw11515681271375824191:Nat:=0
def tw2094424130498931853:Nat:=0
def tw16173364068679783913:Nat:=0
def tw15672570240600243539:Nat:=0
def tw1657994127540560115:Nat:=0
def tw973132555470030988:Nat:=0
def tw9008387184818957348:Nat:=0
def tw16276241251708776080:Nat:=0
def tw13690559638652302882:Nat:=0
def tw12557648899760592922:Nat:=0
def tw14931538934622232305:Nat:=0
def tw5491854688284089271:Nat:=0
def tw679164055343698541:Nat:=0
def tw3098103318197217188:Nat:=0
def tw7121814024813080682:Nat:=0
def tw12142929366692484243:Nat:=0
def tw4893765036723473355:Nat:=0
def tw1462367943047157129:Nat:=0
def tw860730386143499518:Nat:=0
def tw15245773493001338201:Nat:=0
def tw1443479352604471431:Nat:=0
def tw8811014190649084556:Nat:=0
def tw1444790593727858678:Nat:=0
def tw7083178658435618055:Nat:=0
def tw16863437917302725353:Nat:=0
def tw13311910787760262606:Nat:=0
def tw5573896822353563406:Nat:=0
def tw3026761771048094814:Nat:=0
def tw1472808727571503530:Nat:=0
def tw11402454238895812565:Nat:=0
def tw13636771475150073835:Nat:=0
def tw6484196928881920299:Nat:=0
def tw6994136530158985934:Nat:=0
def tw5697878320036906217:Nat:=0
def tw17090383776450814429:Nat:=0
def tw8941151394696586725:Nat:=0
def tw13198378963114904564:Nat:=0
def tw2695272721878783252:Nat:=0
def tw10691792249035850344:Nat:=0
def tw14526186795702092862:Nat:=0
def tw4034812780692922038:Nat:=0
def tw7506042775108423560:Nat:=0
def tw2054008437324476626:Nat:=0
def tw5477609174524520407:Nat:=0
def tw1071075549340614302:Nat:=0
def tw17435514493248118809:Nat:=0
def tw13000800493483808168:Nat:=0
def tw10242988894517617018:Nat:=0
def tw9260754052399131687:Nat:=0
def tw7322886185993997632:Nat:=0
def tw11332150616578655486:Nat:=0
def tw854628465778591166:Nat:=0
def tw17358685653430815546:Nat:=0
def tw7440980735917112771:Nat:=0
def tw1386897830279243660:Nat:=0
def tw1380512858616035695:Nat:=0
def tw9288521128840194296:Nat:=0
def tw7030733675920187168:Nat:=0
def tw2278247846975601155:Nat:=0
def tw14430404621088899597:Nat:=0
def tw11860819208947085706:Nat:=0
def tw11003835467372463658:Nat:=0
def tw10828260639088955022:Nat:=0
def tw933758037710705693:Nat:=0
def tw8081441171786885041:Nat:=0
def tw1512749553924812936:Nat:=0
def tw10170878856414270856:Nat:=0
def tw6154833112644004644:Nat:=0
def tw13088641412402815405:Nat:=0
def tw12325613332310657647:Nat:=0
def tw12326298107027686244:Nat:=0
def tw9055046219132028112:Nat:=0
def tw828314199355245978:Nat:=0
def tw7243483724776535849:Nat:=0
def tw17527430951937718450:Nat:=0
def tw14122374987511662853:Nat:=0
def tw11062834937011737670:Nat:=0
def tw1868281904508402798:Nat:=0
def tw12377242286312839413:Nat:=0
def tw8499166370923561883:Nat:=0
def tw7788161358173458535:Nat:=0
def tw8407090423698990729:Nat:=0
def tw16639808639576113469:Nat:=0
def tw2951182778360940952:Nat:=0
def tw12195182431128382880:Nat:=0
def tw1585973320214289919:Nat:=0
def tw14298708661950903368:Nat:=0
def tw12524400944556591330:Nat:=0
def tw6086995725310042130:Nat:=0
def tw9846695137700954386:Nat:=0
def tw9148711528098872205:Nat:=0
def tw13058195304970236788:Nat:=0
def tw11900307775688746211:Nat:=0
def tw10775523888305013473:Nat:=0
def tw15797500160238642391:Nat:=0
def tw773720367274309904:Nat:=0
def tw10726518607754120939:Nat:=0
def tw9973704068638168005:Nat:=0
def tw3454800685526189265:Nat:=0
def tw746328263253883728:Nat:=0
def tw6668508902821729607:Nat:=0
def tw6250373578958107792:Nat:=0
def tw3798701347830442578:Nat:=0
def tw1911819970276756432:Nat:=0
def tw15146650347154763529:Nat:=0
def tw11722444789110808438:Nat:=0
def tw15509768411633198235:Nat:=0
def tw14708443735800878020:Nat:=0
def tw16307944161119082649:Nat:=0
def tw893049313987335302:Nat:=0
def tw9005146451683024575:Nat:=0
def tw4668222353118058595:Nat:=0
def tw3348191442867811030:Nat:=0
def tw64183618342510300:Nat:=0
def tw9460201619062096621:Nat:=0
def tw16663371923675945567:Nat:=0
def tw3946619066580967551:Nat:=0
def tw7037392144139551768:Nat:=0
def tw14427090380099706691:Nat:=0
def tw5965534635016727454:Nat:=0
def tw16475029901876182836:Nat:=0
def tw3088861143707369249:Nat:=0
def tw17544445549305197049:Nat:=0
def tw13788128972105775094:Nat:=0
def tw3504296244065921743:Nat:=0
def tw14871895614831569139:Nat:=0
def tw14298628574042475972:Nat:=0
def tw1015770108989514224:Nat:=0
def tw7308345740803268434:Nat:=0
def tw9824067566411196420:Nat:=0
def tw7612352235739676203:Nat:=0
def tw5503879735243768424:Nat:=0
def tw5135460030996664074:Nat:=0
def tw489431373998868301:Nat:=0
def tw4667056065376817720:Nat:=0
def tw293445714788336760:Nat:=0
def tw18192397707069148134:Nat:=0
def tw17843932174370816731:Nat:=0
def tw15589822895405665895:Nat:=0
def tw14738025101262282867:Nat:=0
def tw11308293145415625256:Nat:=0
def tw7190598660594663826:Nat:=0
def tw2058295784523035167:Nat:=0
def tw10325238796402628183:Nat:=0
def tw10057431454282602845:Nat:=0
def tw14493858303236057145:Nat:=0
def tw6173604627141721880:Nat:=0
def tw15856032984565304943:Nat:=0
def tw1311311552426750810:Nat:=0
def tw11800696515331344244:Nat:=0
def tw11934374749687714977:Nat:=0
def tw17719814968712044257:Nat:=0
def tw16716366418066971737:Nat:=0
def tw14327975088223491732:Nat:=0
def tw9643609226878286359:Nat:=0
def tw6067847964721514624:Nat:=0
def tw3043879907680952434:Nat:=0
def tw16701632989650456814:Nat:=0
def tw15462020142836045798:Nat:=0
def tw13597957512372588870:Nat:=0
def tw11298486085264169244:Nat:=0
def tw13781502694490000868:Nat:=0
def tw12810501696767168996:Nat:=0
def tw12075730135012434276:Nat:=0
def tw938390063270436523:Nat:=0
def tw8615516593072797798:Nat:=0
def tw8536589428149501862:Nat:=0
def tw7449694676424755220:Nat:=0
def tw7113283896263725913:Nat:=0
def tw6390601360553458898:Nat:=0
def tw5115664357822512409:Nat:=0
def tw4981449809567359659:Nat:=0
def tw3845180500599390778:Nat:=0
def tw18415828143309665190:Nat:=0
def tw17150380213010208329:Nat:=0
def tw15938953687842701722:Nat:=0
def tw15339734639541533318:Nat:=0
def tw14677535642850099332:Nat:=0
def tw12916491018208009529:Nat:=0
def tw12548184830765753410:Nat:=0
def tw12114619905617738972:Nat:=0
def tw11558800755782750598:Nat:=0
def tw1100927077605152054:Nat:=0
def tw10006481365392231950:Nat:=0
def tw3344644660287506180:Nat:=0
def tw16314367420708625256:Nat:=0
def tw10677607391210304350:Nat:=0
def tw9473282191585474795:Nat:=0
def tw9132629642701083694:Nat:=0
def tw7996800660903765963:Nat:=0
def tw7752019210455019807:Nat:=0
def tw758337612579272461:Nat:=0
def tw7569305396186023586:Nat:=0
def tw7286618799048321345:Nat:=0
def tw6681944364306185619:Nat:=0
def tw6132611018634129966:Nat:=0
def tw5813757113416627004:Nat:=0
def tw4614700212080474148:Nat:=0
def tw4603564920431016558:Nat:=0
def tw4346416428039963731:Nat:=0
def tw4284794983131615625:Nat:=0
def tw17330754575235591172:Nat:=0
def tw17280190082049340267:Nat:=0
def tw15961375503911552234:Nat:=0
def tw15861979450110073344:Nat:=0
def tw15145102359613714953:Nat:=0
def tw14538717203538604576:Nat:=0
def tw14341423421270091252:Nat:=0
def tw1405922293397757862:Nat:=0
def tw13868074412684397683:Nat:=0
def tw13061649859081390113:Nat:=0
def tw12449860932404088809:Nat:=0
def tw1185015805339714977:Nat:=0
def tw11448886100512406889:Nat:=0
def tw11220567231876626551:Nat:=0
def tw11090715408424557394:Nat:=0
def tw11028381597505466433:Nat:=0
def tw18077622594928414183:Nat:=0
def tw10604635381370424806:Nat:=0
def tw17599310177809946296:Nat:=0
def tw13644885973883545991:Nat:=0
def tw1017307752883997915:Nat:=0
def tw11139536339541572923:Nat:=0
def tw5620577714133188375:Nat:=0
def tw17174906933719244136:Nat:=0
def tw8014269907804988364:Nat:=0
def tw8151161275121272049:Nat:=0
def tw14920654633925280637:Nat:=0
def tw3022325718145257279:Nat:=0
def tw13345090227520539303:Nat:=0
def tw12284033717115322515:Nat:=0
def tw9794850386293311271:Nat:=0
def tw3074622937707324634:Nat:=0
def tw12622936546166021318:Nat:=0
def tw6504220650911734544:Nat:=0
def tw14344695176431011495:Nat:=0
def tw12329908855584563876:Nat:=0
def tw7796570467331879372:Nat:=0
def tw7548026550582022115:Nat:=0
def tw2452925970746709253:Nat:=0
def tw2097780633469115339:Nat:=0
def tw17458663503439486572:Nat:=0
def tw1542209855510887585:Nat:=0
def tw12959870575881661770:Nat:=0
def tw11578663298709128501:Nat:=0
def tw10185220874010244448:Nat:=0
def tw7923886099311777397:Nat:=0
def tw5870072057606045995:Nat:=0
def tw9040312170575024449:Nat:=0
def tw1737489879164633677:Nat:=0
def tw13167154598053043286:Nat:=0
def tw11435599500895511650:Nat:=0
def tw10062807824866587248:Nat:=0
def tw3563245295564722427:Nat:=0
def tw724459171294723213:Nat:=0
def tw4955031588608176804:Nat:=0
def tw13846359521672679377:Nat:=0
def tw11803031733061274655:Nat:=0
def tw798184071110658384:Nat:=0
def tw5666755290705917030:Nat:=0
end PySem.W.Fast
set_option maxRecDepth 100000 in
set_option maxHeartbeats 0 in
theorem PySem.Challenge.cw_blamewise_k79_looks_in_order_holds : PySem.Challenge.rw_blamewise_k79_looks_in_order.Holds := by
 w_on;o_law;k_head;(case hw=>w_witness2)
 k_fill
 refine L2.K79.walk (l:=PySem.Challenge.rw_blamewise_k79_looks_in_order) rfl rfl rfl (fun w h Y=>PySem.W.kIn_of Y) ?F
 case F=>
  intro w h KX
  dsimp only [L2.Ev.KOf]
  refine' L2.K79.Txt.mk ?fn ?gl ?tl ?bl ?mr ?x_Looker ?x_Ended ?x_Value ?x_Giver ?x_Walker
  (case fn=>(repeat (first | (apply L2.Ev.hl_cons;(case a=>k_is);(case l=>k_is);(case c=>k_is);(case k=>k_is);(case d=>kernel_rfl)) | (apply L2.Ev.hl_consD;(case a=>k_is);(case l=>k_is);(case c=>k_is);(case k=>k_is);(case g=>k_is);(case d=>kernel_rfl))));exact trivial)
  (case gl=>(repeat (apply L2.Ev.gl_cons;(case a=>k_is);(case b=>kernel_rfl)));exact trivial)
  (case tl=>(repeat (apply L2.Ev.tb_cons;(case a=>k_is);(case b=>kernel_rfl)));exact trivial)
  (case bl=>(repeat (apply L2.Ev.nl_cons;(case a=>k_is)));exact trivial)
  (case mr=>(repeat (apply L2.Ev.mr_cons;(case a=>k_is);(case b=>k_is);(case c=>k_is)));exact trivial)
  (case x_Looker=>(refine' ⟨_,_,_,_,_,_,L2.Ev.cc_mk ?a ?pg ?hd ?po ?sa ?mk ?kp,⟨?n0,?n1,trivial⟩,L2.Ev.me_mk ?at0 ?fl0 ?fn0 ?fc0 ?fk0,L2.Ev.me_mk ?at1 ?fl1 ?fn1 ?fc1 ?fk1,L2.Ev.me_mk ?at2 ?fl2 ?fn2 ?fc2 ?fk2,L2.Ev.me_mk ?at3 ?fl3 ?fn3 ?fc3 ?fk3,L2.Ev.me_mk ?at4 ?fl4 ?fn4 ?fc4 ?fk4⟩;(case a=>k_is);(case pg=>k_is);(case hd=>k_is);(case po=>k_is);(case sa=>k_is);(case mk=>k_is);(case kp=>k_is);(case n0=>k_is);(case n1=>k_is);(case at0=>k_is);(case fl0=>k_is);(case fn0=>k_is);(case fc0=>k_is);(case fk0=>k_is);(case at1=>k_is);(case fl1=>k_is);(case fn1=>k_is);(case fc1=>k_is);(case fk1=>k_is);(case at2=>k_is);(case fl2=>k_is);(case fn2=>k_is);(case fc2=>k_is);(case fk2=>k_is);(case at3=>k_is);(case fl3=>k_is);(case fn3=>k_is);(case fc3=>k_is);(case fk3=>k_is);(case at4=>k_is);(case fl4=>k_is);(case fn4=>k_is);(case fc4=>k_is);(case fk4=>k_is)))
  (case x_Ended=>(refine' ⟨_,_,L2.Ev.xc_mk ?a ?l ?tq ?ini ?fl ?fn ?fc ?fk ?ga ?gn ?cl ?sg ?tk ?ob ?be ?is ?kp ?tyC ?sa ?ov ?hdc ?hh ?me,?n0,trivial⟩;(case a=>k_is);(case l=>k_is);(case tq=>kernel_rfl);(case ini=>k_is);(case fl=>k_is);(case fn=>k_is);(case fc=>k_is);(case fk=>k_is);(case ga=>k_is);(case gn=>k_is);(case cl=>k_is);(case sg=>k_is);(case tk=>k_is);(case ob=>k_is);(case be=>k_is);(case is=>kernel_rfl);(case kp=>k_is);(case tyC=>k_is);(case sa=>k_is);(case ov=>kernel_rfl);(case hdc=>kernel_rfl);(case hh=>k_is);(case me=>k_is);(case n0=>k_is)))
  (case x_Value=>(refine' ⟨_,_,L2.Ev.cc_mk ?a ?pg ?hd ?po ?sa ?mk ?kp,⟨?n0,?n1,?n2,?n3,trivial⟩,L2.Ev.me_mk ?at0 ?fl0 ?fn0 ?fc0 ?fk0⟩;(case a=>k_is);(case pg=>k_is);(case hd=>k_is);(case po=>k_is);(case sa=>k_is);(case mk=>k_is);(case kp=>k_is);(case n0=>k_is);(case n1=>k_is);(case n2=>k_is);(case n3=>k_is);(case at0=>k_is);(case fl0=>k_is);(case fn0=>k_is);(case fc0=>k_is);(case fk0=>k_is)))
  (case x_Giver=>(refine' ⟨_,_,_,_,_,_,_,L2.Ev.cc_mk ?a ?pg ?hd ?po ?sa ?mk ?kp,⟨?n0,?n1,?n2,trivial⟩,L2.Ev.me_mk ?at0 ?fl0 ?fn0 ?fc0 ?fk0,L2.Ev.me_mk ?at1 ?fl1 ?fn1 ?fc1 ?fk1,L2.Ev.me_mk ?at2 ?fl2 ?fn2 ?fc2 ?fk2,L2.Ev.me_mk ?at3 ?fl3 ?fn3 ?fc3 ?fk3,L2.Ev.me_mk ?at4 ?fl4 ?fn4 ?fc4 ?fk4,L2.Ev.me_mk ?at5 ?fl5 ?fn5 ?fc5 ?fk5⟩;(case a=>k_is);(case pg=>k_is);(case hd=>k_is);(case po=>k_is);(case sa=>k_is);(case mk=>k_is);(case kp=>k_is);(case n0=>k_is);(case n1=>k_is);(case n2=>k_is);(case at0=>k_is);(case fl0=>k_is);(case fn0=>k_is);(case fc0=>k_is);(case fk0=>k_is);(case at1=>k_is);(case fl1=>k_is);(case fn1=>k_is);(case fc1=>k_is);(case fk1=>k_is);(case at2=>k_is);(case fl2=>k_is);(case fn2=>k_is);(case fc2=>k_is);(case fk2=>k_is);(case at3=>k_is);(case fl3=>k_is);(case fn3=>k_is);(case fc3=>k_is);(case fk3=>k_is);(case at4=>k_is);(case fl4=>k_is);(case fn4=>k_is);(case fc4=>k_is);(case fk4=>k_is);(case at5=>k_is);(case fl5=>k_is);(case fn5=>k_is);(case fc5=>k_is);(case fk5=>k_is)))
  (case x_Walker=>(refine' ⟨_,_,_,_,_,L2.Ev.cc_mk ?a ?pg ?hd ?po ?sa ?mk ?kp,⟨?n0,?n1,?n2,trivial⟩,L2.Ev.me_mk ?at0 ?fl0 ?fn0 ?fc0 ?fk0,L2.Ev.me_mk ?at1 ?fl1 ?fn1 ?fc1 ?fk1,L2.Ev.me_mk ?at2 ?fl2 ?fn2 ?fc2 ?fk2,L2.Ev.me_mk ?at3 ?fl3 ?fn3 ?fc3 ?fk3⟩;(case a=>k_is);(case pg=>k_is);(case hd=>k_is);(case po=>k_is);(case sa=>k_is);(case mk=>k_is);(case kp=>k_is);(case n0=>k_is);(case n1=>k_is);(case n2=>k_is);(case at0=>k_is);(case fl0=>k_is);(case fn0=>k_is);(case fc0=>k_is);(case fk0=>k_is);(case at1=>k_is);(case fl1=>k_is);(case fn1=>k_is);(case fc1=>k_is);(case fk1=>k_is);(case at2=>k_is);(case fl2=>k_is);(case fn2=>k_is);(case fc2=>k_is);(case fk2=>k_is);(case at3=>k_is);(case fl3=>k_is);(case fn3=>k_is);(case fc3=>k_is);(case fk3=>k_is)))
end
