import PyProof.Rows.All
import Wide.All
import OpenK.AllK
import Wide.FinOn
import Lean
import PyProof.EqAt
import PyProof.EqKinds
import PyProof.TupleCall
import PyProof.ListMulRoad
import KE.KDictOf
import KE.KEqDict
import PyProof.DictTruth
import KE.LcSums
import PyProof.StrWalks
import PyProof.FString4
import KE.KTabLook
import PyProof.Rows.ZipGen
import PyProof.MaxThree
import PyProof.ConsumeWalk
import PySem.Challenge.RW_blamewise_k87_softened
open PySem renaming wpAny_bind→ε,Value→ζ,wpAny_pure→θ,Str→ι,Shared→ξ,wpAny→χ,starEach→Α,NameKind→Β,Addr→Ε,Expr→Ν,wpAny_mono→Υ,wpAny_holding→ό,mainGlobals→ύ,Around→ϑ,wpAny_field→ϙ,sizeLine→Ϣ,keywordEach→Ϩ,Pos→Ϭ,Heap→ϯ,Program→ϱ,backTo→ϲ,wpAny_callSpecial?_slot→Ϸ,mem_of_lookup→ϸ,wpAny_newObj_type→Â,backToKw→È,wpAny_Call_Name_kw→Ê,rawInt→Ì,World→Ð,wpAny_standAt→Ô,wpAny_call_entry→Õ,wpAny_seqItems→Ú,Stmt→Û,wpAny_truthy_bool→á,codeAny_mono→â,codeAny_call_builtin→ã,behindInMarks→å,plainObj_wpAny_Assign_Attribute→æ,argBest→é,sliceBounds→ñ,wpAny_passesOwn→ø,FuncData→ù,compareOp→û,wpAny_call→Ă,sizeLine_eq→ă,attributeBase→ĉ,ExceptHandler→Ċ,wpAny_execs_nil→Č,wpAny_setField_rec→Ď,wpAny_pyIter_tuple→ď,wpAny_getItem_str_slice→Ē,wpAny_setField→ē,wpAny_pyIter_list→Ĕ,bootBuiltins→ĕ,Scope→Ė,ExcBaseFacts→ė,wpAny_isTrue_Compare1→ĝ,noteFrame→İ,wpAny_tryCatch→ĵ,assignEach→Ķ,wpAny_loadPart_at→ń,wpAny_letGo→Ņ,standAt→ņ,codeAny→Ň,callerA→ň,Builtin→ŋ,methodCallPos→ō,wpAny_execs_cons→Ř,checkBuiltinCall→ř,callWith→Ś,cLine→ś,binaryOp→Ŝ,pyIter→Š,Keyword→ţ,wpAny_updateSeq→ť,post_val_or_str→Ŧ,letOwnedTupleGo→ŧ,codeAny_builtin→Ũ,wpAny_Expr_any→Ŷ,wpAny_Compare1→ŷ,unbindBehindTheSuite→Ÿ,IsZip→Ż,IsPart→ż,valueAt→ž,swapsWith→ſ,seqItems?→A3,Env→AK,strLen_append→AM,plainId_quiet→AN,wpAny_rule→AS,wpAny_List_spliced→AU,slot_dict_contains→AV,isInstance→AW,wpAny_sequenceKey→B8,wpAny_assign_Name→B9,wpAny_Call_method→Bb,slot_dict_getitem→Bc,getItem→Bd,getAttr→Be,foldedSetIterable→Bf,wpAny_pyHash_str→Bu,pyNext→Bv,noFill_tuple_add→By,getMethod→Bz,wpAny_point→BD,wpAny_of_eq→BE,setAttr→BL,dictGet→BM,wpAny_newFunctionEnv_cells→BU,wpAny_loadPart→BV,sysModules→BW,findBy→BX,call_meets→BY,WalksT→BZ,Model→C1,wpAny_onRaise→C9,wpAny_attempt→Cc,seq_tuple_add→Ce,call→Cg,setFlight→Cq,cellsFrom→Cr,bindL→Cs,bindC→Ct,list_append→Cu,Obj→Cy,Draws→CA,Arguments→CB,wpAny_typeOf→CC,setItem→CE,seqIndex_neg→CF,concat_meets→CG,argsOk→CH,OsState→CM,wpAny_storeName_local→CT,codeAny_handlers_test→CU,codeAny_call_function→CV,unpackItems→D2,seqIndex_of→D3,excClassObj→D5,intText?→D6,wpAny_handleBy_cons→D9,Sem→Dh,wpAny_evalAll_cons→Dq,wpAny_Name→Dr,refuseLoop→Dt,isTrue→Du,findBy_of_findIdx?→Dv,Within→DA,wpAny_pyIter_enum→DI,wpAny_evalAll_nil→DJ,wpAny_dictEntries→DK,wpAny_Assign_Name→DL,slot_list_getitem→DM,evalAll→DN,Meets→DQ,wpAny_pyIter_zip→DU,wpAny_lookBehind→DV,wpAny_Dict_empty→DW,pastItsLine_dict→DX,PassesOwn→DZ,wpAny_specialOf→E8,getAttrByItsOwn→E9,codeAny_of_tree→Ea
open List renaming mem_singleton→η,prefix_refl→κ,mem_cons_self→μ,mem_cons_of_mem→ν,getElem?_eq_some_iff→ο,mem_cons→ς,getElem?_eq_getElem→φ,length_append→ω,replicate→Δ,mem_of_getElem?→Ζ,length_map→Η,length_cons→Ι,length_singleton→Κ,size_toArray→Μ,getElem?_append_right→Ρ,getElem?_set_ne→Φ,getElem?_append_left→Ψ,getElem?_map→Ω,append_nil→ώ,length_nil→ϒ,mem_iff_getElem?→ϓ,mem_flatMap→ϔ,mem_filter→ϕ,mem_map→ϖ,flatMap_cons→Ϛ,all_eq_true→ϝ,nodup_cons→ϟ,mem_append→Ϡ,filterMap_cons→Ϧ,append_assoc→ϩ,getElem?_set_self→Ϫ,getD_eq_getElem?_getD→Ϯ,map_append→ϳ,getElem?_cons_succ→ϵ,count_append→Ϲ,length_zip→À,length_set→Á,mem_append_right→Ã,not_mem_nil→Ç,mem_append_left→É,any_eq_true→Ï,range→Ñ,length_replicate→Ó,getElem?_zip_eq_some→Ù,length_range→Ü,map_cons→à,getElem?_replicate→ä,prefix_append→ê,count_cons→ï,getElem_mem→þ,count_pos_iff→Ć,nodup_iff_count→Ĝ,of_mem_zip→Ğ,nil_append→ğ,forIn_cons→Ġ,map_congr_left→ġ,mem_range→Ĥ,drop_zero→ĥ,drop_eq_getElem_cons→ī,nodup_append→Į,lookup_cons→ļ,length_eq_zero_iff→Ľ,length_pos_of_mem→Ŋ,length_pos_iff→ũ,zip_nil_right→Ų,zip_cons_cons→ų,getElem?_drop→Ŵ,map_nil→A5,map_map→A6,length_take→AP,length_drop→AQ,drop_length→AR,range'→B2,append→B3,foldl_cons→B6,getElem?_eq_none_iff→BA,length_erase_of_mem→BF,lookup_eq_some_iff→BJ,getElem?_cons_zero→BK,filter_eq_nil_iff→BO,getElem?_eq_none→C2,mem_iff_getElem→C4,mem_erase_of_ne→C5,map_id→C6,length→C7,getElem_of_mem→Ci,flatMap_append→Cj,append_of_mem→Cz,take_sublist→CN,reverse_cons→CO,filter_congr→CP,zipIdx_cons→CY,take_length→CZ,flatMap_nil→D0,find?_cons→D7,nodup_nil→Di,drop_nil→DC
open Option renaming map_eq_some_iff→π,bind_eq_some_iff→ϋ,getD_some→A4,isSome_iff_exists→Bp,getD_none→Cw
open PySem.W renaming Frag→τ,findIn→Λ,nsIn→Ϗ,mroIn→Ϝ,keepIn→Ϟ,hasDictIn→ϫ,mg_of→Ä,fnOf→Å,instObj→Ë,emptyDict→Ö,kia_one→ç,typeIn→ò,codeIn→ó,callWith_K→Ą,plainGet→Đ,specialIn→ģ,clsIn→Ĩ,handedIn→Ĭ,isFn→ķ,cellsFrom_some→ĸ,makesIn→ĺ,methodCall_KW→Ŀ,lookIn→Ŏ,plainGet_of→ŝ,plainOver→ū,takesIn→AE,takerIn→AF,callWith_K0→BN,codeRec_of→C0,OpenLaw→Cv,tailIn→CK,kitOne→CL,WalkO→CW
open PySem.Heap renaming get?_push_of_some→υ,get?_push_size→ψ,lt_size→Χ,get?_update_other→ϗ,get?_none_of_le→ϣ,get?_update_self→ϥ,size_push→Ϻ,SameBut→ë,MadeExcOf→Bq,get?_update_ne→Cm,get?_push_at→CQ,ExtBut→E1
open Nat renaming le_of_ble_eq_true→Θ,le_refl→Ο,ne_of_lt→ϧ,le_trans→ϰ,zero_le→Î,ne_of_gt→î,mul_le_mul_right→ü,le_succ→ý,lt_of_lt_of_le→Ĉ,le_of_lt→đ,lt_irrefl→ě,min_self→Ģ,add_mul→Ĳ,succ_ne_self→ŀ,lt_succ_self→Ł,add_sub_cancel_left→ł,zero_add→ŏ,sub_self→Ő,lt_of_succ_lt_succ→ő,add_comm→Œ,not_lt_zero→ŕ,one_mul→Ţ,add_assoc→ű,not_lt→ź,lt_succ_of_lt→AI,le_succ_of_le→AJ,le_add_right→B1,sub_zero→E0,log2_lt→Eh
open PySem.Calls renaming spliced_cons→Ξ,spliced_nil→ϊ,callWith_builtin→ċ,evalArgs_plain→Ę,Constant_str→Ŭ,Name_function_global→Bl
open Bool renaming and_eq_true→Τ,false_ne_true→ϛ,false_eq_true→ì,not_eq_true'→į,or_eq_false_iff→ş,or_false→Ű,and_false→Br,true_and→BH,true_or→BS,or_eq_true_iff→Cp,eq_false_iff→CS,false_and→Dp,false_or→DE,and_true→DF,or_true→DT
open PySem.Value renaming none→Ϙ,ref→ϡ,bool→Ý,int→ą,type→Ū,isStrOf→Dd,builtin→De,isInt→DO
open Ne renaming symm→Ϥ
open Option.some renaming inj→ϭ
open PySem.Builtin.SmallTypes renaming nextOf→ϴ,fitsIndex→ϻ,ownedTupleIsFree→Æ,ownedTupleHandOut→Ħ
open PySem.NameKind renaming free→Í
open PyProof.Rows renaming slot_tuple_getitem→Ò,kindOf→ħ,AllBare→Ō,Constant_none→œ,envOfC→š,IntsAre→A7,boot_tuple→AG,boot_list→AO,boot_int→B0,tupleItemsOf_→Cd,firstMet→D4,entry_tuple_getitem→Dc,slot_tuple_getitem→Ds,args_tuple_getitem→Dx,Subscript_→Dy,firstMet→Eb,boot_set→Ec,boot_isinstance→Ed,boot_dict→Eg
open PySem.Heap.SameBut renaming update→Ø
open PySem.Str renaming ofString→Þ,length_append→AD,empty→AY,length→CJ,cps_append→Dz
open PyProof.Rows.KTD renaming datumAt→ß,tabLook→B7,kt_dictFind_strs→Ck,TabOf→D8
open PySem.F renaming plain_max_loop→è,excBase_ValueError→ô,slot_tuple_iterator_next→Ā,slot_list_append→ĩ,args_tuple_add_2→Ī,entry_tuple_add→ĭ,slot_tuple_add→Ĺ,slot_zip_next→Ş,args_list_append_2→AZ,entry_list_append→B5,slot_tuple_index→Bg,slot_list_extend→Bh,entry_max_loop→Bj,plainAttrs_list→Bm,args_tuple_iterator_next_1→BB,entry_tuple_iterator_next→BG,args_zip_next_1→Dj,entry_zip_next→DD,entry_zip_new→DS
open PySem.Obj renaming data_mapFields→í,isFreed_of_fields→õ,mapSeq→ć,mapFields→Ě,cls_mapFields→AH
open PySem.Builtin.Slice renaming slicePlaces→ð,sliceAdjust→ę,sliceApplied→ů,slicePartIndex→E5,sliceFields→E6
open PySem.Builtin.Tuple renaming tupleExact→ö,tupleItemsOf→ŭ,tupleIsExact→Ů
open Array renaming getElem?_eq_some_iff→ú,length_toList→ā,getElem?_eq_getElem→Bs,toList_append→C8,toList→DG
open ForInStep renaming yield→ÿ
open PySem.Value.ref renaming inj→č
open Nat.succ renaming inj→ı
open Int renaming toNat_natCast→ĳ,le_refl→Ĵ,emod_nonneg→Ŗ,negSucc→Ť,emod_lt_of_pos→Ž,eq_ofNat_of_zero_le→BP,zero_add→C3
open Prod renaming fst→Ļ,snd→Bo
open PySem.Builtin.ObjectAttr renaming storeInDict→ľ,newKeyGuard→D1
open False renaming elim→Ń
open True renaming intro→ŉ
open PySem.Shared renaming heap→Ŕ
open PySem.Around renaming under_plainId→ŗ,under→BI
open PySem.Code renaming quiet_builtin→ŵ,isFrame→BR,frames→E4
open Std.Legacy.Range renaming size→Ź,forIn_eq_forIn_range'→Dg
open Sum renaming inr→A8,inl→A9
open PySem.Txt renaming slice→AX
open And renaming right→B4
open PySem.Arg renaming arg→Bt
open PySem.EntryCells renaming newEntry→BC
open PySem.Heap.DictOf renaming new→BQ
open PySem.Walks renaming list→Cf
open PySem.Builtin.BaseException renaming bexcPut→Co
open Sum.inr renaming inj→Df
open PySem.CmpOf renaming ints_gt→Dl
open PySem.Builtin.Builtins renaming bindParams→Dm
open PySem.Challenge renaming pw_blamewise_k87_softened→DB
open PySem.Heap.IsSliceOf renaming new→DR
open PySem.W.Looks renaming here→DY
open PySem.Draws renaming list→E2
open PySem.Builtin.Range renaming rangeSize→E7
open PySem.Builtin.List renaming listTooLong→Ei
open PySem.Builtin.Dict renaming pendingKey?→Ej
open PySem PySem.Spec PyProof.Rows
set_option compiler.extract_closed false
noncomputable section
local macro_rules|`($d:declaration)=>do let r:=d.raw;let k:=r[1].getKind;if (k==`Lean.Parser.Command.definition||k==`Lean.Parser.Command.abbrev)&&r[0][4].getNumArgs==0 then return r.setArg 0 (r[0].setArg 4 (Lean.mkNullNode #[Lean.mkNode `Lean.Parser.Command.noncomputable #[Lean.mkAtom "noncomputable"]])) else Lean.Macro.throwUnsupported
set_option hygiene false
local macro_rules|`($a<|>$b)=>`(A $a $b)
abbrev Fg:=PySem.W.Frag
abbrev NK:=List (Str×NameKind)
abbrev ZZ:=@if_pos
abbrev ZY:=@if_neg
abbrev ZX:=@absurd
abbrev ZW:=@decide_eq_true
abbrev ZV:=@decide_eq_false
abbrev ZU:=@beq_eq_false_iff_ne
abbrev ZT:=@beq_self_eq_true
abbrev ZS:=@congrArg
set_option Elab.async false
set_option linter.all false
set_option maxRecDepth 100000
set_option maxHeartbeats 8000000
set_option Elab.async false
set_option linter.all false
set_option maxRecDepth 100000
namespace L2
abbrev Key:=Sum Int ι
def gZ:Key→ζ→Bool
 | .inl k,v=>DO k v
 | .inr x,v=>Dd x v
def zX (w:Ð):Key→Int
 | .inl k=>hashInt k
 | .inr x=>hashStr w x
theorem aA:∀ {k} {v},gZ k v=true→(∃ i t,k=A9 i∧v=ą i t)∨(∃ x t,k=A8 x∧v=Value.str x t)
 | .inl i,v,h=>by
   obtain ⟨t,e⟩:=Value.isInt_shape (k:=i) (v:=v) h
   exact .inl ⟨i,t,rfl,e⟩
 | .inr x,v,h=>by
   obtain ⟨t,e⟩:=Value.isStrOf_shape (x:=x) (v:=v) h
   exact .inr ⟨x,t,rfl,e⟩
theorem nz (i) (t):gZ (.inl i) (.int i t)=true:=by simp [gZ,DO]
theorem nA (x) (t):gZ (.inr x) (.str x t)=true:=by simp [gZ,Dd]
theorem vK (a b):decide ((A9 a:Key)=A9 b)=(a == b):=by
 by_cases e:a=b
 ·subst e;simp
 ·have h:¬ (A9 a:Key)=A9 b:=fun q=>e (Sum.inl.inj q)
  rw [ZV h]
  exact (ZU.mpr e).symm
theorem vN (a b):decide ((A8 a:Key)=A8 b)=decide (a=b):=by
 by_cases e:a=b
 ·subst e;simp
 ·have h:¬ (A8 a:Key)=A8 b:=fun q=>e (Df q)
  rw [ZV h,ZV e]
theorem vL (a) (b):decide ((A9 a:Key)=A8 b)=false:=ZV (fun q=>nomatch q)
theorem vM (a) (b):decide ((A8 a:Key)=A9 b)=false:=ZV (fun q=>nomatch q)
def bt (prog:ϱ) (w:Ð):PySem.KeyKind prog w Key where
 is:=gZ
 hash:=zX w
 inj:=fun v a b ha hb=>by
  rcases aA ha with ⟨i,t,rfl,rfl⟩ | ⟨x,t,rfl,rfl⟩
  ·rcases aA hb with ⟨j,u,rfl,e⟩ | ⟨y,u,rfl,e⟩
   ·injection e with e1 _;rw [e1]
   ·exact nomatch e
  ·rcases aA hb with ⟨j,u,rfl,e⟩ | ⟨y,u,rfl,e⟩
   ·exact nomatch e
   ·injection e with e1 _;rw [e1]
 byValue:=fun k v h=>by
  rcases aA h with ⟨i,t,rfl,rfl⟩ | ⟨x,t,rfl,rfl⟩ <;> rfl
 pyHash:=fun hv h=>by
  rcases aA hv with ⟨i,t,rfl,rfl⟩ | ⟨x,t,rfl,rfl⟩
  ·exact wpAny_pyHash_int h
  ·exact Bu h
 eqBool:=fun hu hv h=>by
  rcases aA hu with ⟨i,t,rfl,rfl⟩ | ⟨x,t,rfl,rfl⟩
  ·rcases aA hv with ⟨j,u,rfl,rfl⟩ | ⟨y,u,rfl,rfl⟩
   ·rw [vK] at h;exact wpAny_eqBool_int h
   ·rw [vL] at h;exact SeqAt.EqAt.int_str i t y u _ _ _ _ h
  ·rcases aA hv with ⟨j,u,rfl,rfl⟩ | ⟨y,u,rfl,rfl⟩
   ·rw [vM] at h;exact SeqAt.EqAt.str_int x t j u _ _ _ _ h
   ·rw [vN] at h;exact wpAny_eqBool_str h
 «strs»:=fun k x t v h=>by
  rcases aA h with ⟨i,u,rfl,e⟩ | ⟨y,u,rfl,e⟩
  ·exact nomatch e
  ·injection e with e1 _
   subst e1
   cases v <;> rfl
theorem jN (prog) (w) (i) (t):(bt prog w).is (.inl i) (.int i t)=true:=nz i t
theorem jO (prog) (w) (x) (t):(bt prog w).is (.inr x) (.str x t)=true:=nA x t
end L2
namespace L2
structure Mod (K:τ) (mg:ι→Option ζ) (base:ϯ):Prop where
 kin:K.In base
 glob:base.Ns ύ mg
 blt:∃ mb,base.Ns builtinsNs mb∧∀ x:ι,x≠"__name__"→mb x=ĕ x
 nolimit:base.NoLimit
def frs (l:List AK):List Ε:=l.filterMap (·.frame)
def Vis (sc:Ė) (x:ι):Prop:=sc.names.lookup x=some .local∨sc.names.lookup x=some .cell∨sc.names.lookup x=some .free
def Loc (sc:Ė) (x:ι):Prop:=sc.names.lookup x=some .local∨sc.names.lookup x=some .cell
def kc (env:AK) (h:ϯ) (m:ι→Option ζ) (x:ι) (u:ζ):Prop:=
 (env.kindOf x=some .local∧m x=some u)∨((env.kindOf x=some .cell∨env.kindOf x=some .free)∧∃ c,env.cells.lookup x=some c∧h.IsCell c (some u))
section
variable {X:Cx} {pins:List (Ε×Cy)} {σ:List (Option V)} {H H':Hp} {s:ξ} {h':ϯ}
theorem fU {N:List ι} (hN:N.Nodup) {i j:Nat} {x:ι} (a:N[i]? = some x) (b:N[j]? = some x):i=j:=by
 obtain ⟨h1,e1⟩:=ο.mp a
 obtain ⟨h2,e2⟩:=ο.mp b
 exact (List.getElem_inj hN).mp (e1.trans e2.symm)
end
theorem thn (h:χ M A t Q E s) (hQ:∀ a s,Q a s→Q' a s):χ M A t Q' E s:=Υ h hQ fun _ _ x=>x
end L2
namespace L2
theorem jv (ho:s.heap.get? it=some o) (hc:o.cls = .type n) (hd:o.data = .fields vs)
 (hn:["enumerate","zip","dict_itemiterator","dict_reverseitemiterator","odict_iterator","itertools.zip_longest","itertools.pairwise"].contains n=false) (hQ:Q () s):χ M A (ŧ tg (.ref it) u) Q E s:=by
 unfold ŧ
 cases tg <;> first
  | exact θ hQ
  | (cases u <;> first
   | exact θ hQ
   | (refine ε (wpAny_load ho ?_)
      rw [hc,hd]
      show χ M A (if (["enumerate","zip","dict_itemiterator","dict_reverseitemiterator","odict_iterator","itertools.zip_longest","itertools.pairwise"].contains n && vs[0]? == some (Ì _))=true then _ else _) Q E s
      rw [ZY (by intro h;rw [hn,Dp] at h;cases h)]
      exact θ hQ))
end L2
namespace L2
section
variable {X:Cx} {a b c:Ν} {ta tb tc:TE} {pos:Ϭ}
def uW (i j:Int):Prop:=(-(2 ^ 64)<i∧i<2 ^ 64)∨(-(2 ^ 64)<j∧j<2 ^ 64)
theorem uW.ok (h:uW i j):IntMulOk i j:=by
 rcases h with ⟨h1,h2⟩ | ⟨h1,h2⟩
 ·exact .of_left (intBits_le_64 h1 h2)
 ·exact .of_right (intBits_le_64 h1 h2)
end
section
variable {X:Cx} {a b c:Ν} {ta tb tc:TE} {pos:Ϭ}
theorem iM:(Ϣ:Nat)<2 ^ 63:=by rw [ă];decide
end
end L2
namespace L2
structure ke (h:ϯ) (x dx C:Ε) (mA:ι→Option ζ):Prop where
 obj:h.get? x=some (Ë C dx)
 ns:h.Ns1 dx mA
 ne:dx≠x
theorem hJ {h:ϯ} {dx:Ε} {mA:ι→Option ζ} (n:h.Ns1 dx mA):∃ od,h.get? dx=some od∧∀ name,Ŏ name od=some (mA name):=by
 obtain ⟨o,es,ep,ho,hd,hk,_,hm⟩:=n
 refine ⟨o,ho,fun name=>?_⟩
 have e:=hm name
 unfold nsFind BX at e
 rw [← Array.find?_toList] at e
 unfold Ŏ
 rw [hd]
 dsimp only
 split
 ·rename_i y q
  rw [q] at e
  exact ZS some e
 ·rename_i q
  rw [q] at e
  have a:es.toList.any (·.refKey)=false:=by
   rw [List.any_eq_false]
   intro y hy
   obtain ⟨z,t,hkey⟩:=hk y (Array.mem_toList_iff.mp hy)
   simp [DictEntry.refKey,hkey]
  have a':¬ es.toList.any (·.refKey)=true:=by rw [a];exact ϛ
  rw [ZY a']
  exact ZS some e
theorem ke.look (I:ke h x dx C mA):∃ od,PySem.W.InstAt h x (Ë C dx) C (some od)∧∀ name,Ŏ name od=some (mA name):=
 let ⟨od,ho,hl⟩:=hJ I.ns
 ⟨od,⟨I.obj,rfl,rfl,ho⟩,hl⟩
section
variable {prog:ϱ} {w:Ð} {A:ϑ} {E:ζ→ξ→Prop} {s:ξ} {K:τ} {x dx C f:Ε} {mA:ι→Option ζ} {name:ι} {v:ζ}
theorem rT (X:K.In s.heap) (I:ke s.heap x dx C mA) (hg:Đ K C name=true) (hh:ϫ K C=true)
 (ha:Λ K (.ref C) name=some none) (hv:mA name=some v) (hv':Ĭ v=true) (h:Q v { s with toks:=s.toks+1 }) :
 χ (model prog w) A (Be (.ref x) name expr) Q E s:=by
 obtain ⟨od,J,hl⟩:=I.look
 exact PySem.W.get_value X J (ŝ hg).1 (PySem.W.findObj_own hh ha rfl (by rw [hl,hv])) hv' h
theorem pc (X:K.In s.heap) (I:ke s.heap x dx C mA) (hg:Đ K C name=true)
 (hf:Λ K (.ref C) name=some (some (.ref f))) (ht:ķ K (.ref f)=true) (hv:mA name=none) (h:Q (.ref f,[.ref x]) s) :
 χ (model prog w) A (Bz (.ref x) name pl) Q E s:=by
 obtain ⟨od,J,hl⟩:=I.look
 exact PySem.W.method_fn X J (ŝ hg).1 (ŝ hg).2 hf (beq_iff_eq.mp ht) (by show (Ŏ name od).map (·.isSome)=some false;rw [hl,hv];rfl) h
theorem tI (X:K.In s.heap) (I:ke s.heap x dx C mA)
 (hs:Λ K (.ref C) "__setattr__" = some (some (.builtin "object.__setattr__"))) (hp:ū K C=true) (ht:AF K C name=some none) (hh:ϫ K C=true)
 (hw:DA mA ns) (hsz:ns.length≤Ϣ)
 (h:∀ h',ke h' x dx C (fun y=>if y=name then some v else mA y)→ë dx s.heap h'→Q () { s with heap:=h',toks:=s.toks+2 }) :
 χ (model prog w) A (BL (.ref x) name v) Q E s:=by
 obtain ⟨od,J,hl⟩:=I.look
 refine PySem.W.set_plain X J hs (PySem.W.osa_open (s:={ s with toks:=s.toks+1 }) (r:=none) X J hp ht fun b=>?_)
 obtain ⟨cd,hc,hd'⟩:=PySem.W.any_some hh
 have hx:s.heap.get? x=some ⟨.ref C,some dx,.plain,#[]⟩:=I.obj
 refine ε (θ (ε (ε (BV hx (ε (DY (s:={ s with toks:=s.toks+1 }) (PySem.W.looks_clsIn X hc) ?_))))))
 rw [hd']
 refine θ (a:=some dx) (ε (θ (ε ?_)))
 refine wpAny_nsSet1 (s:={ s with toks:=s.toks+1 }) I.ns fun h' hn2 hs2=>?_
 obtain ⟨oD,esD,epD,hoD,hdD,hcD⟩:=hn2.count (PySem.Within.cons name v hw)
 refine ε (DV hoD (by rw [hdD];exact DX (ϰ hcD (by rw [Ι];omega))) ?_)
 exact θ (h _ ⟨(hs2.2 _ (Ϥ I.ne)).trans I.obj,hn2,I.ne⟩ hs2)
theorem qr (X:K.In s.heap) (hm:ĺ K C=true)
 (hi:Λ K (.ref C) "__init__" = some (some (.ref f))) (hf:ò K (.ref f)=some (.type "function"))
 (h:Ň (model prog w) (A.under (.builtin "type.__call__" ⟨.ref C :: vs,kw⟩)) (.call (.ref f) ⟨.ref (s.heap.objs.size+1) :: vs,kw⟩) (PySem.W.InitBack (s.heap.objs.size+1) R)
  { s with heap:=(s.heap.push Ö).push (Ë C s.heap.objs.size) }) :
 Ň (model prog w) A (.call (.ref C) ⟨vs,kw⟩) R s:=by
 obtain ⟨hh,g,d,t,os⟩:=s
 exact PySem.W.make_core (PySem.W.makes_of X hm) (PySem.W.looks_findIn X hi) (fun self=>PySem.W.bind_fn X self hf) (.inl rfl) h
end
structure Cls (K:τ) (C:Ε):Prop where
 pg:Đ K C AY=true
 hd:ϫ K C=true
 po:ū K C=true
 sa:Λ K (.ref C) "__setattr__" = some (some (.builtin "object.__setattr__"))
theorem Cls.get {K:τ} {C:Ε} (c:Cls K C) (f:ι):Đ K C f=true:=c.pg
def cK (K:τ) (C:Ε) (f:ι):Prop:=Λ K (.ref C) f=some none
theorem cK.taker {K:τ} {C:Ε} {f:ι} (n:cK K C f):AF K C f=some none:=by
 unfold AF
 rw [show Λ K (.ref C) f=some none from n]
 rfl
structure xu (K:τ) (C:Ε) (m:ι) (f:Ε):Prop where
 at_:Λ K (.ref C) m=some (some (.ref f))
 fn:ķ K (.ref f)=true
 kp:Ϟ K (.ref f)=true
section
variable {X:Cx} {pins:List (Ε×Cy)} {σ:St} {H:Hp} {s:ξ} {a C dx:Ε} {fs:List (ι×V)} {f:ι} {v:V} {A:ϑ} {E:ζ→ξ→Prop}
theorem rz (hb:ĉ e f env (eval e env)=eval e env)
 (h:χ (model prog w) A (eval e env) (fun o s₁=>χ (model prog w) A (Be o f true) Q E s₁) E s):χ (model prog w) A (eval (.Attribute e f pos) env) Q E s:=
 Attribute_any_ h (by rw [arm_eval_Attribute,hb])
end
end L2
namespace L2
structure aT (k:Nat) (A:ϑ):Prop where
 hd:A.handled=none
 dp:A.depth+k+5<recursionLimit
 un:A.units+16 * k+200<ś
theorem aT.mono (r:aT k A) (h:j≤k):aT j A:=⟨r.hd,by have:=r.dp;omega,by have:=r.un;omega⟩
theorem aT.deeper (r:aT (k+1) A) (env):aT k (A.deeper env):=
 ⟨r.hd,by have:=r.dp;show A.depth+1+k+5<_;omega,by have:=r.un;show A.units+3+16 * k+200<_;omega⟩
theorem kJ {A:ϑ} {C:Ε} {us:List ζ} {kw:List (ι×ζ)}:(A.under (.builtin "type.__call__" ⟨.ref C :: us,kw⟩)).depth=A.depth+1:=by
 first | rfl | simp [BI,Code.weight,Code.isCreation,Code.isGuard,Code.isCaller,E4,BR,guardIds]
theorem kK {A:ϑ} {C:Ε} {us:List ζ} {kw:List (ι×ζ)}:(A.under (.builtin "type.__call__" ⟨.ref C :: us,kw⟩)).units=A.units+1:=by
 first | rfl | simp [BI,Code.cUnits,E4,BR]
theorem aT.make (r:aT (k+1) A) (C) (us) (kw):aT k (A.under (.builtin "type.__call__" ⟨.ref C :: us,kw⟩)):=
 ⟨r.hd,by have:=r.dp;rw [kJ];omega,by have:=r.un;rw [kK];omega⟩
theorem aT.depth (r:aT k A):A.depth<recursionLimit:=by have:=r.dp;omega
def bS (K:τ) (fd:ù) (ps:List ι) (ds:List ζ):Prop:=
 ∀ (s:ξ) (us:List ζ),K.In s.heap→(us ++ ds).length=ps.length→BindsTo s fd ⟨us,[]⟩ (ps.zip (us ++ ds))
theorem bS.all {K:τ} {fd:ù} {ps:List ι} (h:∀ us:List ζ,us.length=ps.length→bindArgs fd ⟨us,[]⟩=pure (ps.zip us)):bS K fd ps []:=fun s us _ hl=>by
 rw [ώ] at hl ⊢
 exact .of_eq (h us hl)
section
variable {X:Cx} {CX:CXT} {k:Nat} {f C:Ε} {fd:ù} {ps:List ι} {sp:Sp} {dvs:List V} {ds:List ζ} {E:XK} {x m:ι} {p pos apos:Ϭ} {e o:Ν} {es:List Ν} {ta:TE} {t:TA}
structure Mk (K:τ) (C f:Ε):Prop where
 makes:ĺ K C=true
 init:Λ K (.ref C) "__init__" = some (some (.ref f))
 fn:ķ K (.ref f)=true
 kp:Ϟ K (.ref C)=true
end
structure cW (N P:List ι) (sc:Ė):Prop where
 kind:sc.kind = .function
 co:sc.isCoroutine=false
 gen:sc.isGenerator=false
 nd:N.Nodup
 pre:N.take P.length=P
 par:∀ x∈P,sc.names.lookup x=some .local∨sc.names.lookup x=some .cell
 nofree:∀ y∈sc.names,y.2≠.free
theorem gQ {ħ:ι→Option Β} {x:ι}:∀ {binds:List (ι×ζ)} {m:ι→Option ζ},(∀ v,(x,v) ∉ binds)→Cs ħ binds m x=m x
 | [],_,_=>rfl
 | (n,v) :: r,m,h=>by
   unfold Cs
   rw [gQ fun w hw=>h w (ν _ hw)]
   split
   ·have:x≠n:=by rintro rfl;exact h v μ
    simp [this]
   ·rfl
theorem gN {ħ:ι→Option Β} {x:ι}:∀ {binds:List (ι×ζ)} {m:ι→Option ζ},(∀ v,(x,v) ∉ binds)→Ct ħ binds m x=m x
 | [],_,_=>rfl
 | (n,v) :: r,m,h=>by
   unfold Ct
   rw [gN fun w hw=>h w (ν _ hw)]
   split
   ·rfl
   ·have:x≠n:=by rintro rfl;exact h v μ
    simp [this]
theorem gO {ħ:ι→Option Β} {x:ι} {v:ζ}:∀ {P:List ι} {vs:List ζ} {i:Nat} {m:ι→Option ζ},P.Nodup→P[i]? = some x→vs[i]? = some v→ħ x=some .local →
 Cs ħ (P.zip vs) m x=some v
 | [],_,_,_,_,h,_,_=>by simp at h
 | _ :: _,[],_,_,_,_,h,_=>by simp at h
 | p :: P,w :: vs,0,m,nd,h1,h2,hk=>by
   simp at h1 h2;subst h1;subst h2
   show Cs ħ ((p,w) :: P.zip vs) m p=_
   unfold Cs
   rw [gQ fun v hv=>(ϟ.mp nd).1 (Ğ hv).1,ZZ hk]
   simp
 | p :: P,w :: vs,i+1,m,nd,h1,h2,hk=>by
   show Cs ħ ((p,w) :: P.zip vs) m x=_
   unfold Cs
   exact gO (i:=i) (ϟ.mp nd).2 (by simpa using h1) (by simpa using h2) hk
theorem gM {ħ:ι→Option Β} {x:ι} {v:ζ}:∀ {P:List ι} {vs:List ζ} {i:Nat} {m:ι→Option ζ},P.Nodup→P[i]? = some x→vs[i]? = some v→ħ x≠some .local →
 Ct ħ (P.zip vs) m x=some v
 | [],_,_,_,_,h,_,_=>by simp at h
 | _ :: _,[],_,_,_,_,h,_=>by simp at h
 | p :: P,w :: vs,0,m,nd,h1,h2,hk=>by
   simp at h1 h2;subst h1;subst h2
   show Ct ħ ((p,w) :: P.zip vs) m p=_
   unfold Ct
   rw [gN fun v hv=>(ϟ.mp nd).1 (Ğ hv).1,ZY hk]
   simp
 | p :: P,w :: vs,i+1,m,nd,h1,h2,hk=>by
   show Ct ħ ((p,w) :: P.zip vs) m x=_
   unfold Ct
   exact gM (i:=i) (ϟ.mp nd).2 (by simpa using h1) (by simpa using h2) hk
theorem jn {sc:Ė} {n:Nat} {x:ι} (h:sc.names.lookup x=some .cell):∃ c,(Cr n sc.names []).lookup x=some c:=by
 have q:=ĸ sc.names n [] (.inl h)
 exact Bp.mp q
end L2
namespace HT
open PySem PyProof.Rows
section
variable {prog:ϱ} {w:Ð} {A:ϑ} {E:ζ→ξ→Prop} {s:ξ}
theorem cat_tup (ht:IsTup s.heap t vs.toArray) (hb:IsTup s.heap b ws.toArray) (hv:vs≠[])
 (h1:ws = []→Q (.ref t) s) (h2:ws≠[]→Q (.ref s.heap.objs.size) { s with heap:=s.heap.push { cls:=.type "tuple",data:=.seq (vs ++ ws).toArray } })
 (hsz:vs.length+ws.length≤Ϣ):χ (model prog w) A (Ŝ .Add (.ref t) (.ref b)) Q E s:=by
 obtain ⟨⟨cls,dd,data,sl⟩,ho,hc,n,hd⟩:=id ht
 obtain ⟨⟨cls2,dd2,data2,sl2⟩,ho2,hc2,n2,hd2⟩:=id hb
 simp only at hc hd hc2 hd2
 subst hc hd hc2 hd2
 have e:vs.toArray ++ ws.toArray=(vs ++ ws).toArray:=by simp
 by_cases hw:ws = []
 ·exact CG ⟨_,ho,rfl⟩ ⟨_,ho2,rfl⟩ By Ce Ĺ ĭ (Ī _ _)
   (tuple_addW1 t b vs.toArray ws.toArray n n2 dd dd2 sl sl2 (by simpa using hv) (by simp [hw])) ⟨ho,ho2,h1 hw⟩
 ·refine CG ⟨_,ho,rfl⟩ ⟨_,ho2,rfl⟩ By Ce Ĺ ĭ (Ī _ _)
   (tuple_addW2 t b vs.toArray ws.toArray n n2 dd dd2 sl sl2 (by simpa using hv) (by simpa using hw) (by rw [Μ,Μ];exact hsz)) ⟨ho,ho2,?_⟩
  rw [e]
  exact h2 hw
def sIx (n d:Nat):Option Int→Nat
 | none=>d
 | some v=>if v<0 then (v+(n:Int)).toNat else min v.toNat n
theorem wW (n d) (hd:d≤n) (o):sIx n d o≤n:=by
 cases o with
 | none=>exact hd
 | some v=>
   show (if v<0 then (v+(n:Int)).toNat else min v.toNat n)≤n
   by_cases hv:v<0
   ·rw [ZZ hv];omega
   ·rw [ZY hv];exact Nat.min_le_right _ _
theorem lj (v:Int) (n d:Nat):(if v<0 then max (v+(n:Int)) 0 else min v (n:Int))=((sIx n d (some v):Nat):Int):=by
 show (if v<0 then max (v+(n:Int)) 0 else min v (n:Int))=(((if v<0 then (v+(n:Int)).toNat else min v.toNat n):Nat):Int)
 by_cases hv:v<0
 ·simp only [ZZ hv];omega
 ·simp only [ZY hv];omega
theorem kg (lo hi:Option Int) (n:Nat):ę lo hi 1 (n:Int)=(((sIx n 0 lo:Nat):Int),((sIx n n hi:Nat):Int)):=by
 have h1:¬ ((1:Int)<0):=by omega
 unfold ę
 simp only [h1,if_false]
 refine Prod.ext ?_ ?_
 ·cases lo with
  | none=>rfl
  | some v=>exact lj v n 0
 ·cases hi with
  | none=>rfl
  | some v=>exact lj v n n
theorem kO (i j:Nat):ð (i:Int) (j:Int) 1=j - i:=by
 unfold ð
 have h1:(1:Int)>0:=by omega
 simp only [h1,if_true,Int.ediv_one]
 split <;> omega
theorem f9 (p:ż v o) (h:Q o s):χ (model prog w) A (E5 v) Q E s:=by
 cases p with
 | none=>exact slicePart_none h
 | int i t=>exact slicePart_int h
theorem cz {sl:Ε} {vl vu:ζ} {lo hi:Option Int} {n:Nat} {Q:Int×Int×Nat→ξ→Prop} (hs:s.heap.IsSliceOf sl vl vu .none) (pl:ż vl lo) (pu:ż vu hi)
 (h:Q (((sIx n 0 lo:Nat):Int),1,sIx n n hi - sIx n 0 lo) s):χ (model prog w) A (ů (.ref sl) (pure (n:Int))) Q E s:=by
 obtain ⟨os,hos,hcs,hds⟩:=id hs
 unfold ů E6
 refine ε (ε (ϙ hos hds (x:=vl) rfl (ε (ϙ hos hds (x:=vu) rfl (ε (ϙ hos hds (x:=.none) rfl (θ ?_)))))))
 refine ε (slicePart_none ?_)
 show χ _ _ (if ((1:Int) == 0)=true then _ else _) _ _ s
 rw [ZY (by decide)]
 refine ε (f9 pl (ε (f9 pu (ε (θ ?_)))))
 show χ _ _ (match ę lo hi 1 (n:Int) with | (lo,hi)=>pure (lo,(1:Int),ð lo hi 1)) _ _ s
 rw [kg lo hi n]
 show χ _ _ (pure (((sIx n 0 lo:Nat):Int),(1:Int),ð ((sIx n 0 lo:Nat):Int) ((sIx n n hi:Nat):Int) 1)) _ _ s
 rw [kO]
 exact θ h
theorem qE (xs:Array ζ) (i k:Nat):((Ñ k).filterMap fun (m:Nat)=>xs[((i:Int)+(m:Int) * 1).toNat]?).toArray=((xs.toList.drop i).take k).toArray:=by
 have e:(fun (m:Nat)=>xs[((i:Int)+(m:Int) * 1).toNat]?)=fun m=>xs[i+m]?:=by
  funext m
  have:((i:Int)+(m:Int) * 1).toNat=i+m:=by omega
  rw [this]
 rw [e]
 have:=pick_run xs i k
 rw [List.filterMap_map] at this
 have e2:((fun x=>xs[x]?) ∘ fun x=>i+x)=fun m=>xs[i+m]?:=rfl
 rw [e2] at this
 rw [this]
theorem getItem_tuple_cut {t sl:Ε} {items:Array ζ} {vl vu:ζ} {lo hi:Option Int} {Q:ζ→ξ→Prop} (ht:IsTup s.heap t items) (hs:s.heap.IsSliceOf sl vl vu .none) (pl:ż vl lo) (pu:ż vu hi)
 (hw:¬ (sIx items.size 0 lo=0∧sIx items.size items.size hi=items.size))
 (h:Q (.ref s.heap.objs.size) { s with heap:=s.heap.push { cls:=.type "tuple",data:=.seq ((items.toList.drop (sIx items.size 0 lo)).take (sIx items.size items.size hi - sIx items.size 0 lo)).toArray } })
 (hsz:items.size≤Ϣ):χ (model prog w) A (Bd (.ref t) (.ref sl)) Q E s:=by
 have htake:sizeOk (.seq ((items.toList.drop (sIx items.size 0 lo)).take (sIx items.size items.size hi - sIx items.size 0 lo)).toArray):=by
  show ((items.toList.drop (sIx items.size 0 lo)).take (sIx items.size items.size hi - sIx items.size 0 lo)).toArray.size≤Ϣ
  rw [Μ,AP,AQ,ā]
  omega
 have hj:sIx items.size items.size hi≤items.size:=wW _ _ (Ο _) hi
 obtain ⟨os,hos,hcs,hds⟩:=id hs
 have hTs:s.TypeIs (.ref sl) "slice":=⟨os,hos,hcs⟩
 unfold Bd
 try with_reducible refine ό ?_
 first | refine ε (θ ?_) | skip
 refine ε (B8 ht.typeIs (by decide) ?_)
 refine ε (Ϸ (name:=Þ "__getitem__") ht.typeIs Ò
  (Õ Ò ht.typeIs Dc ?_ (Dx _ _)))
 show χ _ _ (ŭ (.ref t) >>= _) _ _ s
 refine ε (Cd ht ?_)
 refine ε (CC hTs ?_)
 rw [ZZ (by decide)]
 refine ε (cz hs pl pu ?_)
 have hno:¬ ((((sIx items.size 0 lo:Nat):Int) == 0 && (1:Int) == 1 && (sIx items.size items.size hi - sIx items.size 0 lo) == items.size)=true):=by
  intro q
  rw [Τ,Τ] at q
  have q1:((sIx items.size 0 lo:Nat):Int)=0:=eq_of_beq q.1.1
  have q2:sIx items.size items.size hi - sIx items.size 0 lo=items.size:=eq_of_beq q.2
  exact hw ⟨by omega,by omega⟩
 show χ _ _ (if (((sIx items.size 0 lo:Nat):Int) == 0 && (1:Int) == 1 && (sIx items.size items.size hi - sIx items.size 0 lo) == items.size)=true then _ else _) _ _ s
 rw [ZY hno,qE]
 first
  | exact ε (m:=ö _) (Â (θ ⟨_,rfl,θ h⟩) htake)
  | exact ε (m:=ö _) (Â (ε (θ (θ ⟨_,rfl,θ h⟩))) htake)
  | exact ε (ε (m:=ö _) (Â (θ (θ ⟨_,rfl,θ h⟩)) htake))
  | exact ε (ε (m:=ö _) (Â (θ ⟨_,rfl,θ h⟩) htake))
end
end HT
namespace L2
def ixN (n:Nat) (i:Int):Option Nat:=if 0≤i then (if i<n then some i.toNat else none) else if -(n:Int)≤i then some (i+n).toNat else none
def atI {α:Type} (xs:List α) (i:Int):Option α:=(ixN xs.length i).bind fun j=>xs[j]?
theorem lI (h:ixN n i=some j):seqIndex? i n=some j∧j<n∧-(n:Int)≤i∧i<n:=by
 unfold ixN at h
 by_cases h0:0≤i
 ·rw [ZZ h0] at h
  by_cases h1:i<n
  ·rw [ZZ h1] at h
   have e:i.toNat=j:=ϭ h
   exact ⟨by rw [D3 h0 h1,e],by omega,by omega,h1⟩
  ·rw [ZY h1] at h;cases h
 ·rw [ZY h0] at h
  by_cases h1:-(n:Int)≤i
  ·rw [ZZ h1] at h
   have e:(i+n).toNat=j:=ϭ h
   exact ⟨by rw [CF (by omega) h1,e],by omega,h1,by omega⟩
  ·rw [ZY h1] at h;cases h
theorem im (h:atI xs i=some v):∃ j,seqIndex? i xs.length=some j∧xs[j]? = some v∧j<xs.length∧-(xs.length:Int)≤i∧i<xs.length:=by
 unfold atI at h
 cases e:ixN xs.length i with
 | none=>rw [e] at h;cases h
 | some j=>
   rw [e] at h
   obtain ⟨h1,h2,h3,h4⟩:=lI e
   exact ⟨j,h1,h,h2,h3,h4⟩
theorem b6 {α:Type} {xs:List α} {j:Nat} {v:α} (h:xs[j]? = some v):atI xs (j:Int)=some v:=by
 have hj:j<xs.length:=(ο.mp h).1
 have e:ixN xs.length (j:Int)=some j:=by
  unfold ixN
  rw [ZZ (by omega),ZZ (by omega)];simp
 unfold atI;rw [e];exact h
section
variable {X:Cx} {a b:Ν} {ta tb:TE} {pos:Ϭ}
theorem i8 (lo hi) (n):(ñ lo hi none n).1=((HT.sIx n 0 lo:Nat):Int)∧(ñ lo hi none n).2.1=((HT.sIx n n hi:Nat):Int)∧(ñ lo hi none n).2.2=1:=by
 refine ⟨?_,?_,rfl⟩
 ·cases lo with
  | none=>simp [ñ,HT.sIx]
  | some i=>
    simp only [ñ,HT.sIx,Cw,show (1:Int)>0 by decide,if_true]
    by_cases h:i<0
    ·simp only [h,if_true] <;> omega
    ·simp only [h,if_false] <;> omega
 ·cases hi with
  | none=>simp [ñ,HT.sIx]
  | some i=>
    simp only [ñ,HT.sIx,Cw,show (1:Int)>0 by decide,if_true]
    by_cases h:i<0
    ·simp only [h,if_true] <;> omega
    ·simp only [h,if_false] <;> omega
theorem gK (its:List ζ) (lo hi:Option Int):slicePick its.toArray lo hi none=((its.drop (HT.sIx its.length 0 lo)).take (HT.sIx its.length its.length hi - HT.sIx its.length 0 lo)).toArray:=by
 obtain ⟨h1,h2,h3⟩:=i8 lo hi its.toArray.size
 unfold slicePick
 rw [h1,h2,h3]
 simp only [sliceRange_one,pick_run,Μ] <;> rfl
variable {o e:Ν} {es:List Ν} {to:TE} {t:TA} {name:ι} {apos cpos:Ϭ} {T id:String} {r:V→List V→Hp→VK→Prop}
end
end L2
namespace Att
open PySem PySem.W PySem.Calls PyProof.Rows
theorem eQ :∀ (ns) (vs),WellAll P h vs (ns.map WData.int)→A7 vs ns:=by
 intro ns
 induction ns with
 | nil=>
   intro vs w
   rw [A5] at w
   cases w
   exact .nil
 | cons n ns ih=>
   intro vs w
   rw [à] at w
   cases w with
   | cons a b=>
     cases a
     exact .cons _ _ (ih _ b)
theorem nU {l:OpenLaw} {n:Nat} (hn:l.most=some n) {P:Params} {h:ϯ} {args:List WData} {vals:List ζ}
 (hpre:l.row.toRowW.claim.pre args=true) (hwl:WellAll P h vals args) :
 ∃ a vs ns,vals = [ϡ a]∧args = [WData.list (ns.map WData.int)]∧h.get? a=some { cls:=.type "list",data:=.seq vs.toArray }∧A7 vs ns∧ns.length≤n:=by
 have hsh:WShape.hasAll [] args [.list .int]=true:=(pre_splitW hpre).1
 have hc:l.pre.holds [] { args:=args }=true:=(pre_splitW hpre).2
 obtain ⟨d,r,rfl,h1,h2⟩:=hasAllW_cons hsh
 obtain rfl:=hasAllW_nil h2
 obtain ⟨xs,rfl,h3⟩:=hasW_list h1
 obtain ⟨ns,rfl⟩:=items_int h3
 have hlen:ns.length≤n:=by
  unfold OpenLaw.pre at hc
  have h4:(WTm.not (.lt (.lit (.int (n:Int))) (.len (.arg 0)))).holds [] { args:=[.list (ns.map .int)] }=true:=by
   have h4:=(holds_andW hc).1
   rw [hn] at h4
   exact h4
  have h5:=condW_of h4 (w_not (w_lt w_lit (w_len_list (w_arg rfl))))
  rw [Η] at h5
  refine Nat.le_of_not_lt fun q=>?_
  have q':(n:Int)<((ns.length:Nat):Int):=by omega
  first
   | (rw [ZW q'] at h5;exact ZX h5 (by decide))
   | (simp at h5;omega)
 cases hwl with
 | cons w1 w2=>
   cases w2
   cases w1 with
   | list ho hall=>exact ⟨_,_,ns,rfl,rfl,ho,eQ ns _ hall,hlen⟩
theorem nN (l:OpenLaw) (args:List WData):l.row.toRowW.claim.post args (.bool true) args=true:=
 postW_of (r:=l.row.toRowW) (X:=(true == true))
  (show WShape.has [] (.bool true) .bool=true by first | rfl | decide | simp [WShape.has,WShape.arms,WShape.armsAll])
  (show (WTm.eq .res (.lit (.bool true))).value [] { args:=args,res:=some (.bool true),after:=args }=some (.bool (true == true)) from w_eq_bool (w_res rfl) w_lit) rfl
theorem attach_call {l:OpenLaw} {n:Nat} {q:ϱ} {loose:List ι} {XP:(ι→Option ζ)→ϯ→Prop} {YP:Ð→ϯ→Prop} {d:DefRec}
 (hn:l.most=some n) (hdf:d.params.defaults = [])
 (call:∀ (w:Ð) (s₀ s₁:ξ) (mg mb:ι→Option ζ) (fa:Ε) (o:Cy) (pm cd doc:ζ) (a:Ε) (vs:List ζ) (ns:List Int),
  Ground q loose [] XP w s₀ mg mb s₁.heap→YP w s₁.heap →
  s₁.heap.get? fa=some o→o.data = .func (docDef d.name d.params d.body d.scope pm cd doc)→s₁.heap.CodeRec cd d.name→mg d.name=some (.ref fa) →
  s₁.heap.get? a=some { cls:=.type "list",data:=.seq vs.toArray }→A7 vs ns→ns.length≤n→s₁.gens = #[] →
  Ň (model l.prog w) ň (.call (.ref fa) ⟨[.ref a],[]⟩) (fun r s'=>r = .ok (.ret (.bool true))∧OldK s₁.heap s'.heap∧s'.os=s₁.os∧Ō s'.gens) s₁) :
 WalkO q loose XP YP l.row.toRowW d [] (fun f vs=>Cg f vs):=by
 intro w s₀ s₁ mg mb G Y fa o pm cd doc dV kV ho hd hcd hD hmg hg args vals as hpre hlay hrd hwl hlo
 obtain rfl:dV = .none:=Dflts.none hD hdf
 obtain rfl:kV = .none:=Dflts.noKw hD
 obtain ⟨a,vs,ns,rfl,rfl,hobj,hints,hlen⟩:=nU hn hpre hwl
 refine enter_call (â (call w s₀ s₁ mg mb fa o pm cd doc a vs ns G Y ho (fd_plain hd) hcd hmg hobj hints hlen hg) fun r s' hq=>?_)
 obtain ⟨rfl,h2,h3,h4⟩:=hq
 exact ⟨.inl ⟨.bool true,.bool true,[],rfl,fun _=>rfl,.bool true,nN l _,fun _=>⟨List.Pairwise.nil,fun _ hm=>(nomatch hm)⟩⟩,h2,h3,h4⟩
end Att
namespace L2
def aV (s:Û):CB:=match s with
 | .FunctionDef _ a _ _ _ _ _ _ _ _=>a
 | _=>{ posonlyargs:=[],args:=[],vararg:=none,kwonlyargs:=[],kw_defaults:=[],kwarg:=none,defaults:=[] }
def bN (s:Û):List Û:=match s with
 | .FunctionDef _ _ b _ _ _ _ _ _ _=>b
 | _=>[]
def ao (s:Û):Ė:=match s with
 | .FunctionDef _ _ _ _ _ _ sc _ _ _=>sc
 | _=>{ kind:=.function,names:=[],isGenerator:=false,isCoroutine:=false }
structure Fun (K:τ) (x qual:ι) (st:Û) (f:Ε) (fd:ù):Prop where
 ex:∃ (oc:ζ) (od:Option Ε) (kV doc pm:ζ) (an:Option Ε) (cdv ct:ζ) (osl:Array (Option ζ)),
  fd=Å x qual (aV st) (bN st) (ao st) .none kV doc pm an cdv ct∧K.lookup f=some ⟨oc,od,.func fd,osl⟩∧ó K cdv qual=true
 kp:Ϟ K (.ref f)=true
section
variable {P:ϱ} {w:Ð} {K:τ} {mg:ι→Option ζ} {base:ϯ}
theorem Fun.binds {x qual:ι} {st:Û} {f:Ε} {fd:ù} {ps:List ι} (F:Fun K x qual st f fd)
 (h:∀ (kV doc pm:ζ) (an:Option Ε) (cdv ct:ζ) (us:List ζ),us.length=ps.length→bindArgs (Å x qual (aV st) (bN st) (ao st) .none kV doc pm an cdv ct) ⟨us,[]⟩=pure (ps.zip us)):bS K fd ps []:=by
 obtain ⟨oc,od,kV,doc,pm,an,cdv,ct,osl,rfl,lk,hcd⟩:=F.ex
 exact .all (h kV doc pm an cdv ct)
theorem kA {x qual:ι} {st:Û} {f:Ε} {oc:ζ} {od an:Option Ε} {osl:Array (Option ζ)} {kV doc pm cdv ct:ζ} (l:K.lookup f=some ⟨oc,od,.func (Å x qual (aV st) (bN st) (ao st) .none kV doc pm an cdv ct),osl⟩)
 (c:ó K cdv qual=true) (k:Ϟ K (.ref f)=true):Fun K x qual st f (Å x qual (aV st) (bN st) (ao st) .none kV doc pm an cdv ct):=⟨⟨oc,od,kV,doc,pm,an,cdv,ct,osl,rfl,l,c⟩,k⟩
end
end L2
section
namespace L2.Bk
open PySem
inductive Dk where
 | non
 | int (i:Int)
 | bl (b:Bool)
 | str (x:ι)
 | tup (xs:List Dk)
def sumI:List Int→Int
 | []=>0
 | x :: r=>x+sumI r
end L2.Bk
namespace L2.Bw
def maxD (d:Int):List Int→Int
 | []=>d
 | x :: r=>r.foldl (fun a b=>if b>a then b else a) x
end L2.Bw
namespace L2.Ev
inductive D where
 | non | bl (b:Bool) | int (i:Int) | str (x:ι) | tup (l:List D) | lst (l:List D) | dic (k:List Key) (l:List D) | ins (c:Nat) (l:List D) | ref (n:Nat)
inductive O where
 | lst (l:List D) | dic (k:List Key) (l:List D) | ins (c:Nat) (l:List D)
inductive Op where
 | add | sub | mul | fdiv | mod | pow | shl | shr | band | bxor | eq | ne | lt | le | gt | ge | isin | notin | eq2
 deriving DecidableEq
inductive Bi where
 | len | tuple | list | all | max0 | sum | abs | str | int | range1 | range2 | zip2 | zip3 | enum | enum2 | rev | dict | max2 | min2 | isTup | isStr | isInt | isBool | isLst | isDic | isVal | setl
 deriving DecidableEq
inductive E where
 | v (i:Nat) | c (d:D) | g (j:Nat) | op (o:Op) (a b:E) | isN (a:E) | isNN (a:E) | neg (a:E) | not (a:E) | and (a b:E) | or (a b:E) | ite (c a b:E)
 | chain (o p:Op) (a b c:E)
 | ix (a b:E) | sl (a lo hi:E) | fld (a:E) (f:Nat) | tup (es:E) | lst (es:E) | dic (es:E) | nil | cons (a es:E)
 | call (j:Nat) (es:E) | hcall (j:Nat) (es:E) | mth (c j:Nat) (a es:E) | new (j:Nat) (es:E) | bi (b:Bi) (es:E) | join (x:ι) (a:E) | get (a b c:E) | index (a b:E) | isX (a:E) (js:List Nat)
 | lc (t:List Nat) (one:Bool) (it elt cond:E)
 | tab (j:Nat) (e:E) | tabin (j:Nat) (e:E)
 | newl (es:E) | keep (kp:List Nat) (a:E) | sto (a:E) | fcall (own:Bool) (j:Nat) (es:E)
 | sl3 (a lo st:E) | tget (j:Nat) (e d:E) | newd (j:Nat) (es:E) | fmt (x:ι) (a:E) (y:ι) | dicc (ks:List ι) (es:E)
 | tand (a b:E) | tor (a b:E) | tnot (a:E) | tv (a:E) | it (b:Bi) (es:E) | itv (a:E)
inductive S where
 | skip | seq (a b:S) | set (i:Nat) (e:E) | setT (l:List Nat) (e:E) | setR (i:Nat) (es:E) | ret (e:E) | ifs (c:E) (a b:S) | drop (e:E)
 | app (i:Nat) (e:E) | ext (i:Nat) (e:E) | put (a b e:E) | fld (a:E) (f:Nat) (e:E) | aug (a:E) (f:Nat) (o:Op) (e:E) | fapp (a:E) (f:Nat) (e:E)
 | for_ (t:List Nat) (one:Bool) (it:E) (b:S) | whl (c:E) (b:S) | rais (j:Nat) (es:E) | try_ (a:S) (hs:S) | hand (j:Nat) (i:Option Nat) (b rest:S)
def fl:D→Bool
 | .non=>true | .bl _=>true | .int _=>true | .str _=>true | _=>false
def eqf:D→D→Bool
 | .non,.non=>true
 | .bl a,.bl b=>a == b
 | .bl a,.int b=>(if a then 1 else 0) == b
 | .int a,.int b=>a == b
 | .int a,.bl b=>a == (if b then 1 else 0)
 | .str a,.str b=>a == b
 | _,_=>false
def sh:D→Nat
 | .non=>0 | .bl _=>0 | .int _=>0 | .str _=>0 | .tup _=>1 | .lst _=>2 | _=>3
def eq0 (d e:D):Option Bool:=
 if sh d=3∨sh e=3 then none else if sh d=0∧sh e=0 then some (eqf d e) else if sh d=sh e then none else some false
def cI (f:D→D→Option Bool):List D→List D→Option Bool
 | d :: a,e :: b=>(match f d e with | none=>none | some x=>(cI f a b).map (x && ·))
 | _,_=>some true
def eqv:Nat→D→D→Option Bool
 | 0,d,e=>eq0 d e
 | n+1,.tup a,.tup b=>(cI (eqv n) a b).map (· && a.length == b.length)
 | n+1,.lst a,.lst b=>if a.length=b.length then cI (eqv n) a b else some false
 | _+1,d,e=>eq0 d e
end L2.Ev
namespace L2.Ev
structure Fn where
 np:Nat
 ns:Nat
 body:S
structure Cl where
 what:Nat
 at_:List Nat
 init:Nat
 me:List (Nat×Nat)
 sup:List Nat
 chk:List Nat:=[]
def toD:L2.Bk.Dk→D
 | .non=>.non
 | .int i=>.int i
 | .bl b=>.bl b
 | .str x=>.str x
 | .tup l=>.tup (toDs l)
where toDs:List L2.Bk.Dk→List D
 | []=>[]
 | d :: r=>toD d :: toDs r
structure Gm where
 gl:List L2.Bk.Dk
 tb:List (List (ι×L2.Bk.Dk))
 fn:List Fn
 cl:List Cl
structure Sta where
 env:List (Option D)
 ow:List Nat
 st:List O
inductive Out (α:Type) where
 | ok (a:α) (s:Sta) | exc (c:Nat) (l:List D) (s:Sta) | bad
inductive Res where
 | ok (d:D) (st:List O) | exc (c:Nat) (l:List D) (st:List O) | bad
inductive ak where
 | nx (s:Sta) | rt (d:D) (s:Sta) | exc (c:Nat) (l:List D) (s:Sta) | bad
def Out.bind {α β:Type} (x:Out α) (f:α→Sta→Out β):Out β:=match x with
 | .ok a s=>f a s
 | .exc c l s=>.exc c l s
 | .bad=>.bad
def Out.of {α:Type} (s:Sta):Option α→Out α
 | some a=>.ok a s
 | none=>.bad
def Out.go {α:Type} (x:Out α) (f:α→Sta→ak):ak:=match x with
 | .ok a s=>f a s
 | .exc c l s=>.exc c l s
 | .bad=>.bad
def ak.go (x:ak) (f:Sta→ak):ak:=match x with
 | .nx s=>f s
 | y=>y
def jA:D→Bool
 | .non=>true | _=>false
def un (s:Sta) (i:Nat):Sta:=⟨s.env,s.ow.filter (· != i),s.st⟩
def look (st:List O):D→D
 | .ref n=>(match st[n]? with | some (.lst l)=>.lst l | some (.dic k l)=>.dic k l | _=>.ref n)
 | d=>d
def bv:D→Option Key
 | .int i=>some (.inl i)
 | .str x=>some (.inr x)
 | _=>none
def cA:List Key→List D→Key→Option D
 | k :: ks,d :: ds,x=>if k=x then some d else cA ks ds x
 | _,_,_=>none
def gI:List Key→List D→Key→D→List D
 | k :: ks,d :: ds,x,e=>(if k=x then e else d) :: gI ks ds x e
 | _,ds,_,_=>ds
def bJ (ks:List Key) (ds:List D) (x:Key) (e:D):List Key×List D:=if ks.any (fun k=>decide (k=x))=true then (ks,gI ks ds x e) else (ks ++ [x],ds ++ [e])
def inD (d:D):List D→Option Bool
 | []=>some false
 | e :: r=>match eqv 55 e d with | none=>none | some b=>(inD d r).map (b || ·)
def cH (n:Nat) (d:D):Option D:=if n≤100000 then some d else none
def opI (o:Op) (i j:Int):Option D:=match o with
 | .add=>some (.int (i+j))
 | .sub=>some (.int (i - j))
 | .mul=>if ((-(2 ^ 64)<i∧i<2 ^ 64)∨(-(2 ^ 64)<j∧j<2 ^ 64))∨(i.natAbs<2 ^ 400∧j.natAbs<2 ^ 400) then some (.int (i * j)) else none
 | .fdiv=>if 0<j∧j<2 ^ 200 then some (.int (i / j)) else none
 | .mod=>if 0<j then some (.int (i % j)) else none
 | .pow=>if 0≤j∧j≤1000000∧i.natAbs<2 ^ 64 then some (.int (i ^ j.toNat)) else none
 | .shl=>if 0≤j∧j≤1000000∧i.natAbs<2 ^ 64 then some (.int (i * 2 ^ j.toNat)) else none
 | .shr=>if 0≤j then some (.int (i / 2 ^ j.toNat)) else none
 | .band=>some (.int (Builtin.bitAnd i j))
 | .bxor=>some (.int (Builtin.bitXor i j))
 | .lt=>some (.bl (decide (i<j)))
 | .le=>some (.bl (decide (i≤j)))
 | .gt=>some (.bl (decide (j<i)))
 | .ge=>some (.bl (decide (j≤i)))
 | _=>none
def pv (ls:List Key) (es:List D):List Key→List D→Option Bool
 | k :: ks,d :: ds=>(match cA ls es k with | none=>some false | some e=>(match eqv 55 d e with | none=>none | some x=>(pv ls es ks ds).map (x && ·)))
 | _,_=>some true
def eqT (a b:D):Option Bool:=match a,b with
 | .dic ks ds,.dic ls es=>if ks.length=ls.length then pv ls es ks ds else some false
 | a,b=>eqv 55 a b
def xU:List D→List D→Bool
 | [],[]=>true
 | d :: l,e :: m=>eqT d e == some true && xU l m
 | _,_=>false
def zP (a b:D):Option D:=match a,b with
 | .tup l,.tup m=>if xU l m then some (.bl true) else none
 | _,_=>none
def opD (o:Op) (a b:D):Option D:=match o with
 | .eq2=>zP a b
 | .eq=>(eqT a b).map .bl
 | .ne=>(eqT a b).map fun x=>.bl (!x)
 | .isin=>(match b with | .str y=>(match a with | .str x=>some (.bl (Txt.contains y x)) | _=>none) | .lst l=>(inD a l).map .bl | .tup l=>(inD a l).map .bl | .dic ks ds=>(bv a).map fun k=>.bl (cA ks ds k).isSome | _=>none)
 | .notin=>(match b with | .lst l=>(inD a l).map fun x=>.bl (!x) | .tup l=>(inD a l).map fun x=>.bl (!x) | .dic ks ds=>(bv a).map fun k=>.bl (!(cA ks ds k).isSome) | _=>none)
 | _=>match a,b with
   | .int i,.int j=>opI o i j
   | .str x,.str y=>if o = .add then cH (x.length+y.length) (.str (x ++ y)) else none
   | .tup x,.tup y=>if o = .add then cH (x.length+y.length) (.tup (x ++ y)) else none
   | .lst x,.lst y=>if o = .add then cH (x.length+y.length) (.lst (x ++ y)) else none
   | _,_=>none
def tP:D→Option Bool
 | .bl b=>some b
 | .tup l=>some (!l.isEmpty)
 | .lst l=>some (!l.isEmpty)
 | .int i=>some (i != 0)
 | .non=>some false
 | _=>none
def ixD (a b:D):Option D:=match a,b with
 | .tup l,.int i=>atI l i
 | .lst l,.int i=>atI l i
 | .str x,.int i=>if x.length≤100000 then (atI x.cps.toList i).map fun c=>.str ⟨#[c]⟩ else none
 | .dic ks ds,k=>(bv k).bind fun k=>cA ks ds k
 | _,_=>none
def cutD (xs:List D) (lo hi:Option Int):List D:=(xs.drop (HT.sIx xs.length 0 lo)).take (HT.sIx xs.length xs.length hi - HT.sIx xs.length 0 lo)
def slO (a:D) (l h:Option Int):Option D:=match a with
 | .tup x=>some (.tup (cutD x l h))
 | .lst x=>some (.lst (cutD x l h))
 | .str x=>if x.length≤100000 then some (.str (AX x l h)) else none
 | _=>none
def yK {α:Type} (xs:List α) (lo:Option Int) (st:Int):List α:=(sliceRange (ñ lo none (some st) xs.length).1 (ñ lo none (some st) xs.length).2.1 (ñ lo none (some st) xs.length).2.2).filterMap (xs[·]?)
def nV (a:D) (l st:Option Int):Option D:=match a,st with
 | .lst x,some k=>if k=0 then none else some (.lst (yK x l k))
 | _,_=>none
def isDic:D→Bool
 | .dic _ _=>true
 | _=>false
def bj:E→Bool
 | .nil=>true
 | _=>false
def toI (d:D) (s:Sta):Out (Option Int):=match d with | .int i=>.ok (some i) s | _=>.bad
def bh:List D→Option (List Int)
 | []=>some []
 | .int i :: r=>(bh r).map (i :: ·)
 | _=>none
def tW:List D→Option (List Bool)
 | []=>some []
 | .bl i :: r=>(tW r).map (i :: ·)
 | _=>none
def eB:List D→Option (List ι)
 | []=>some []
 | .str i :: r=>(eB r).map (i :: ·)
 | _=>none
def fx (b:Bi) (x:D):Option D:=match b,x with
 | .len,.tup l=>some (.int l.length)
 | .len,.lst l=>some (.int l.length)
 | .len,.str x=>if x.length≤100000 then some (.int x.length) else none
 | .len,.dic k _=>if k.length≤100000 then some (.int k.length) else none
 | .tuple,.lst l=>some (.tup l)
 | .tuple,.tup l=>some (.tup l)
 | .list,.tup l=>some (.lst l)
 | .list,.lst l=>some (.lst l)
 | .rev,.lst l=>some (.lst l.reverse)
 | .all,.lst l=>(tW l).map fun bs=>.bl (bs.all id)
 | .sum,.lst l=>(bh l).map fun ns=>.int (L2.Bk.sumI ns)
 | .max2,.lst l=>(match bh l with | some (n :: r)=>some (.int (L2.Bw.maxD 0 (n :: r))) | _=>none)
 | .abs,.int i=>some (.int (if i<0 then -i else i))
 | .str,.int i=>if i.natAbs.log2<1920 then some (.str (Þ (toString i))) else none
 | .int,.int i=>some (.int i)
 | .int,.bl k=>some (.int (if k then 1 else 0))
 | .int,.str x=>if x.length≤640 then (D6 x).map .int else none
 | .dict,.dic k l=>some (.dic k l)
 | .setl,.lst l=>(bh l).bind fun ns=>if ns.length+1<4096 then some (.int ((Eb (fun i=>ns.getD i 0) ns.length).length:Nat)) else none
 | .isTup,d=>(match d with | .tup _=>some (.bl true) | .ref _=>none | .ins _ _=>none | _=>some (.bl false))
 | .isStr,d=>(match d with | .str _=>some (.bl true) | .ref _=>none | .ins _ _=>none | _=>some (.bl false))
 | .isBool,d=>(match d with | .bl _=>some (.bl true) | .ref _=>none | .ins _ _=>none | _=>some (.bl false))
 | .isInt,d=>(match d with | .bl _=>some (.bl true) | .int _=>some (.bl true) | .ref _=>none | .ins _ _=>none | _=>some (.bl false))
 | .isLst,d=>(match d with | .lst _=>some (.bl true) | .ref _=>none | .ins _ _=>none | _=>some (.bl false))
 | .isDic,d=>(match d with | .dic _ _=>some (.bl true) | .ref _=>none | .ins _ _=>none | _=>some (.bl false))
 | .isVal,d=>(match d with | .lst _=>some (.bl true) | .int _=>some (.bl true) | .bl _=>some (.bl true) | .str _=>some (.bl true) | .ref _=>none | .ins _ _=>none | _=>some (.bl false))
 | _,_=>none
def u4 (b:Bi) (x y:D):Option D:=match b,x,y with
 | .max0,.lst l,.int d=>(bh l).map fun ns=>.int (L2.Bw.maxD d ns)
 | .max2,.int i,.int j=>some (.int (if j>i then j else i))
 | .min2,.int i,.int j=>some (.int (if j<i then j else i))
 | _,_,_=>none
def ze (b:Bi) (x y z:D):Option D:=match b,x,y,z with
 | .max2,.int i,.int j,.int k=>some (.int (if j>i then (if k>j then k else j) else if k>i then k else i))
 | _,_,_,_=>none
def biD (b:Bi) (ds:List D):Option D:=match ds with
 | [x]=>fx b x
 | [x,y]=>u4 b x y
 | [x,y,z]=>ze b x y z
 | _=>none
def vJ:Key→D
 | .inl i=>.int i
 | .inr x=>.str x
def qY:D→Option (List D)
 | .lst l=>some l
 | .tup l=>some l
 | .dic ks _=>some (ks.map vJ)
 | .str x=>if x.cps.all (· < 128)=true then some (x.cps.toList.map fun c=>.str ⟨#[c]⟩) else none
 | _=>none
def jT (lo:Int) (n:Nat):List D:=(Ñ n).map fun (i:Nat)=>.int (lo+i)
def eE:List D→List D→List D
 | a :: r,b :: q=>.tup [a,b] :: eE r q
 | _,_=>[]
def cf:List D→List D→List D→List D
 | a :: r,b :: q,c :: p=>.tup [a,b,c] :: cf r q p
 | _,_,_=>[]
def bG:Int→List D→List D
 | i,a :: r=>.tup [.int i,a] :: bG (i+1) r
 | _,[]=>[]
def sqL:D→Option (List D)
 | .lst l=>some l
 | .tup l=>some l
 | _=>none
def vE (b:Bi) (x:D):Option (List D):=match b,x with
 | .range1,.int j=>if -(2 ^ 62)≤j∧j<2 ^ 62 then some (jT 0 j.toNat) else none
 | .enum,.lst x=>some (bG 0 x)
 | _,_=>none
def zU (b:Bi) (x y:D):Option (List D):=match b,x,y with
 | .range2,.int i,.int j=>if (-(2 ^ 62)≤i∧i<2 ^ 62∧-(2 ^ 62)≤j∧j<2 ^ 62) then some (jT i (j - i).toNat) else none
 | .zip2,x,y=>(match sqL x,sqL y with | some l,some m=>if l.length≤m.length then some (eE l m) else none | _,_=>none)
 | .enum2,.tup x,.int n=>if ϻ n=true∧0≤n then some (bG n x) else none
 | _,_,_=>none
def zV (b:Bi) (x y z:D):Option (List D):=match b,x,y,z with
 | .zip3,x,y,z=>(match sqL x,sqL y,sqL z with | some l,some m,some n=>if l.length≤m.length∧l.length≤n.length then some (cf l m n) else none | _,_,_=>none)
 | _,_,_,_=>none
def itD (b:Bi) (ds:List D):Option (List D):=match ds with
 | [x]=>vE b x
 | [x,y]=>zU b x y
 | [x,y,z]=>zV b x y z
 | _=>none
def oX (Γ:Gm) (st:List O) (d:D) (f:Nat):Option D:=match d with
 | .ins c l=>(Γ.cl[c]?).bind fun k=>l[k.at_.idxOf f]?
 | .ref n=>(match st[n]? with | some (.ins c l)=>(Γ.cl[c]?).bind fun k=>l[k.at_.idxOf f]? | _=>none)
 | _=>none
def aH (t:List Nat) (one:Bool) (d:D) (env:List (Option D)):Option (List (Option D)):=
 if one then (match t with | [i]=>some (env.set i (some d)) | _=>none)
 else (match d with
  | .tup l=>if l.length=t.length then some ((t.zip l).foldl (fun e p=>e.set p.1 (some p.2)) env) else none
  | .lst l=>if l.length=t.length then some ((t.zip l).foldl (fun e p=>e.set p.1 (some p.2)) env) else none
  | _=>none)
def noX {α:Type}:Out α→Out α
 | .exc _ _ _=>.bad
 | o=>o
def aQ (f:D→Sta→Out (Option D)):List D→List D→Sta→Out D
 | [],acc,s=>.ok (.lst acc) s
 | d :: r,acc,s=>(f d s).bind fun o s'=>match o with
   | some e=>if acc.length<100000 then aQ f r (acc ++ [e]) s' else .bad
   | none=>aQ f r acc s'
mutual
noncomputable def noL:D→Bool
 | .lst _=>false
 | .tup l=>eR l
 | .dic _ l=>eR l
 | .ins _ l=>eR l
 | _=>true
noncomputable def eR:List D→Bool
 | []=>true
 | d :: r=>noL d && eR r
end
mutual
noncomputable def noR:D→Bool
 | .ref _=>false
 | .tup l=>az l
 | .lst l=>az l
 | .dic _ l=>az l
 | .ins _ l=>az l
 | _=>true
noncomputable def az:List D→Bool
 | []=>true
 | d :: r=>noR d && az r
end
def jP:O→Bool
 | .lst _=>false
 | .dic _ l=>eR l
 | .ins _ l=>eR l
def bu:E→List Nat
 | .cons (.v i) r=>i :: bu r
 | .cons _ r=>bu r
 | _=>[]
def isLst:Option (Option D)→Bool
 | some (some (.lst _))=>true
 | _=>false
def aft (es:E) (s:Sta) (d:D) (st:List O):Sta:=⟨s.env,s.ow.filter fun i=>!(bu es).contains i || (isLst s.env[i]? && (noL d && st.all jP)),st⟩
def drp (es:E) (s:Sta) (st:List O):Sta:=⟨s.env,s.ow.filter fun i=>!(bu es).contains i,st⟩
def oM:List D→Option (List Key×List D)
 | []=>some ([],[])
 | [_]=>none
 | k :: d :: r=>(bv k).bind fun k=>(oM r).bind fun p=>if p.1.contains k then none else some (k :: p.1,d :: p.2)
def r6:D→Bool
 | .tup _=>true
 | _=>false
def vz (x y:D):Option D:=match x,y with
 | .tup l,.str k=>(eB l).bind fun ss=>(ss.findIdx? (· == k)).map fun (j:Nat)=>.int j
 | _,_=>none
def uA (x:ι) (y:D):Option D:=match y with
 | .lst l=>(eB l).bind fun ss=>if x.length≤64∧(ss.map (·.length)).sum≤100000∧ss.length≤1000 then some (.str (Txt.join x ss)) else none
 | _=>none
def yb (x:ι) (v:D) (y:ι):Option D:=match v with
 | .str z=>if x.length≤1000∧z.length≤100000∧y.length≤1000 then some (.str (((AY ++ x) ++ z) ++ y)) else none
 | _=>none
mutual
noncomputable def shD (k:Nat):D→D
 | .tup l=>.tup (gJ k l)
 | .lst l=>.lst (gJ k l)
 | .dic ks l=>.dic ks (gJ k l)
 | .ins c l=>.ins c (gJ k l)
 | .ref n=>.ref (k+n)
 | d=>d
noncomputable def gJ (k:Nat):List D→List D
 | []=>[]
 | d :: r=>shD k d :: gJ k r
end
def shO (k:Nat):O→O
 | .lst l=>.lst (gJ k l)
 | .dic ks l=>.dic ks (gJ k l)
 | .ins c l=>.ins c (gJ k l)
def uS (Γ:Gm) (c:Nat):Bool:=match Γ.cl[c]? with | some k=>k.what == 2 | none=>false
def yk (Γ:Gm) (x:D) (js:List Nat):Option D:=match x with
 | .ins c _=>if (uS Γ c && js.all (uS Γ))=true then (Γ.cl[c]?).map fun k=>.bl (js.any fun j=>c == j || k.sup.contains j) else none
 | _=>none
def uk (ks:List ι) (l:List D):Option D:=if ks.length=l.length∧ks.Nodup∧ks.length≤15∧ks≠[] then some (.dic (ks.map .inr) l) else none
def pk (kp:List Nat) (env:List (Option D)):List (Option D):=env.mapIdx fun i d=>if kp.contains i then none else d
def hid (kp:List Nat) (s:Sta):Sta:=⟨pk kp s.env,s.ow.filter (fun i=>!kp.contains i),s.st⟩
def Ai (x:D) (s:Sta):Out D:=match x with | .lst l=>.ok (.ref s.st.length) ⟨s.env,s.ow,s.st ++ [.lst l]⟩ | _=>.bad
section
variable (Γ:Gm) (cal cal1:Nat→List D→List O→Res)
def gx (es:E) (j:Nat) (ds:List D) (s:Sta):Out D:=match cal j ds s.st with
 | .ok d st=>.ok d (aft es s d st)
 | .exc c l st=>.exc c l (drp es s st)
 | .bad=>.bad
def rV (j:Nat) (ds:List D) (s:Sta):Out D:=if az ds then (match cal j ds [] with
 | .ok d st=>if noR d then .ok d s else .ok (shD s.st.length d) ⟨s.env,s.ow,s.st ++ st.map (shO s.st.length)⟩
 | .exc c l _=>if az l then .exc c l s else .bad
 | .bad=>.bad) else .bad
def jB:D→Bool
 | .ref _=>true | _=>false
def rQ (st:List O):D→Option D
 | .ref n=>(match st[n]? with | some (.lst l)=>if az l then some (.lst l) else none | some (.dic k l)=>if az l then some (.dic k l) else none | _=>none)
 | d=>if noR d then some d else none
def o7 (st:List O):List D→Option (List D)
 | []=>some []
 | d :: r=>(rQ st d).bind fun e=>(o7 st r).map (e :: ·)
def ng (st:List O):D→Option D
 | .tup l=>(o7 st l).map .tup
 | d=>rQ st d
def rP (own:Bool) (j:Nat) (ds:List D) (s:Sta):Out D:=if az ds then (match cal j ds [] with
 | .ok d st=>if own && !jB d then .bad else .of s (ng st d)
 | .exc c l _=>if az l then .exc c l s else .bad
 | .bad=>.bad) else .bad
mutual
noncomputable def ev (br:Bool):E→Sta→Out D
 | .v i,s=>(match s.env[i]? with | some (some d)=>.ok d (if br then s else un s i) | _=>.bad)
 | .c d,s=>.ok d s
 | .g j,s=>.of s (Γ.gl[j]?.map toD)
 | .op o a b,s=>(ev true a s).bind fun x s=>(ev true b s).bind fun y s=>.of s (opD o (look s.st x) (look s.st y))
 | .isN a,s=>(ev true a s).bind fun x s=>.ok (.bl (jA x)) s
 | .isNN a,s=>(ev true a s).bind fun x s=>.ok (.bl (!jA x)) s
 | .neg a,s=>(ev true a s).bind fun x s=>(match x with | .int i=>.ok (.int (-i)) s | _=>.bad)
 | .not a,s=>(ev true a s).bind fun x s=>(match x with | .bl b=>.ok (.bl (!b)) s | _=>.bad)
 | .and a b,s=>(ev false a s).bind fun x s=>(match x with | .bl true=>ev false b s | .bl false=>.ok (.bl false) s | _=>.bad)
 | .or a b,s=>(ev false a s).bind fun x s=>(match x with | .bl false=>ev false b s | .bl true=>.ok (.bl true) s | _=>.bad)
 | .ite c a b,s=>(ev true c s).bind fun x s=>(match x with | .bl true=>ev false a s | .bl false=>ev false b s | _=>.bad)
 | .chain o p a b c,s=>(ev true a s).bind fun x s=>(ev true b s).bind fun y s=>(match opD o (look s.st x) (look s.st y) with
   | some (.bl true)=>(ev true c s).bind fun z s=>.of s (opD p (look s.st y) (look s.st z))
   | some (.bl false)=>.ok (.bl false) s
   | _=>.bad)
 | .ix a b,s=>(ev true a s).bind fun x s=>(ev true b s).bind fun y s=>.of s (ixD (look s.st x) y)
 | .sl a lo hi,s=>(ev true a s).bind fun x s=>(if bj lo then .ok none s else (ev true lo s).bind toI).bind fun l s=>(if bj hi then .ok none s else (ev true hi s).bind toI).bind fun h s=>.of s (slO (look s.st x) l h)
 | .sl3 a lo st,s=>(ev true a s).bind fun x s=>(if bj lo then .ok none s else (ev true lo s).bind toI).bind fun l s=>(if bj st then .ok none s else (ev true st s).bind toI).bind fun z s=>.of s (nV (look s.st x) l z)
 | .tget j e d,s=>(ev true e s).bind fun x s=>(ev false d s).bind fun z s=>(match Γ.tb[j]?,x with | some t,.str k=>.ok (((ß k t).map toD).getD z) s | _,_=>.bad)
 | .newd j es,s=>(evs false es s).bind fun l s=>.of s ((Γ.cl[j]?).bind fun k=>if k.what=1∧l.length=k.at_.length then some (D.ins j l) else none)
 | .fld a f,s=>(ev true a s).bind fun x s=>.of s (oX Γ s.st x f)
 | .tup es,s=>(evs false es s).bind fun l s=>if l.length≤100000 then .ok (.tup l) s else .bad
 | .lst es,s=>(evs false es s).bind fun l s=>if l.length≤100000 then .ok (.lst l) s else .bad
 | .newl es,s=>(evs false es s).bind fun l s=>if l.length≤100000 then .ok (.ref s.st.length) ⟨s.env,s.ow,s.st ++ [.lst l]⟩ else .bad
 | .keep kp a,s=>(noX (ev false a (hid (kp.filter s.ow.contains) s))).bind fun d s'=>.ok d ⟨s.env,s'.ow ++ kp.filter s.ow.contains,s'.st⟩
 | .sto a,s=>(ev false a s).bind Ai
 | .fcall own j es,s=>(evs false es s).bind fun l s=>rP cal own j l s
 | .call j es,s=>(evs true es s).bind fun l s=>gx cal es j l s
 | .hcall j es,s=>(evs false es s).bind fun l s=>rV cal j l s
 | .mth c j a es,s=>(ev true a s).bind fun x s=>(match x with
   | .ref p=>(match s.st[p]? with
     | some (.ins c' _)=>if c'=c then (evs true es s).bind fun l s=>gx cal es j (x :: l) s else .bad
     | _=>.bad)
   | _=>.bad)
 | .bi b es,s=>(evs true es s).bind fun l s=>.of s (biD b (l.map (look s.st)))
 | .tab j e,s=>(ev true e s).bind fun x s=>(match Γ.tb[j]?,x with | some t,.str k=>.of s ((ß k t).map toD) | _,_=>.bad)
 | .tabin j e,s=>(ev true e s).bind fun x s=>(match Γ.tb[j]?,x with | some t,.str k=>.ok (.bl (ß k t).isSome) s | _,_=>.bad)
 | .lc t one it elt cond,s=>(ev false it s).bind fun x s=>(match x with
   | .lst ds=>(aQ (fun d s'=>(match aH t one d s'.env with
     | some env=>(noX (ev true cond ⟨env,[],s'.st⟩)).bind fun b s2=>(match b with
       | .bl true=>(noX (ev false elt s2)).bind fun e s3=>.ok (some e) ⟨s3.env,[],s3.st⟩
       | .bl false=>.ok none ⟨s2.env,[],s2.st⟩
       | _=>.bad)
     | none=>.bad)) ds [] ⟨Δ t.length none ++ s.env,[],s.st⟩).bind fun d s'=>.ok d ⟨s.env,[],s'.st⟩
   | _=>.bad)
 | .tand a b,s=>(ev true a s).bind fun x s=>(match x with | .bl true=>ev true b s | .bl false=>.ok (.bl false) s | _=>.bad)
 | .tor a b,s=>(ev true a s).bind fun x s=>(match x with | .bl true=>.ok (.bl true) s | .bl false=>ev true b s | _=>.bad)
 | .tnot a,s=>(ev true a s).bind fun x s=>(match x with | .bl b=>.ok (.bl (!b)) s | _=>.bad)
 | .tv a,s=>(ev true a s).bind fun x s=>.of s ((tP (look s.st x)).map .bl)
 | .it b es,s=>(evs false es s).bind fun l s=>.of s ((itD b l).map .lst)
 | .itv a,s=>(ev false a s).bind fun x s=>.of s ((qY x).map .lst)
 | .dic es,s=>(evs false es s).bind fun l s=>.of s ((oM l).map fun p=>.dic p.1 p.2)
 | .get a b c,s=>(ev true a s).bind fun x s=>if isDic (look s.st x)=true then (ev true b s).bind fun y s=>(ev false c s).bind fun z s=>(match look s.st x,bv y with
   | .dic ks ds,some k=>.ok ((cA ks ds k).getD z) s
   | _,_=>.bad) else .bad
 | .index a b,s=>(ev true a s).bind fun x s=>if r6 x=true then (ev true b s).bind fun y s=>.of s (vz x y) else .bad
 | .join x a,s=>(ev true a s).bind fun y s=>.of s (uA x (look s.st y))
 | .fmt x a y,s=>(ev true a s).bind fun v s=>.of s (yb x v y)
 | .dicc ks es,s=>(evs false es s).bind fun l s=>.of s (uk ks l)
 | .isX a js,s=>(ev true a s).bind fun x s=>.of s (yk Γ x js)
 | .new j es,s=>(evs true es s).bind fun l s=>(match Γ.cl[j]? with
   | some k=>if k.what=1 then (if l.length=k.at_.length then .ok (.ins j l) (drp es s s.st) else .bad)
     else if k.what=0 then (match cal1 k.init (.ref s.st.length :: l) (s.st ++ [.ins j []]) with
      | .ok .non st=>.ok (.ref s.st.length) (aft es s .non st)
      | _=>.bad)
     else .bad
   | none=>.bad)
 | _,_=>.bad
noncomputable def evs (br:Bool):E→Sta→Out (List D)
 | .nil,s=>.ok [] s
 | .cons a r,s=>(ev br a s).bind fun x s=>(evs br r s).bind fun l s=>.ok (x :: l) s
 | _,_=>.bad
end
end
end L2.Ev
namespace L2.Ev
def aS:E→Bool
 | .lst _=>true | .lc ..=>true | .bi .list _=>true | .bi .rev _=>true | .bi .dict _=>true | .dic _=>true | .keep _ a=>aS a | .fcall own _ _=>own | _=>false
def vC:D→Bool
 | .lst _=>true | .dic _ _=>true | _=>false
def kU (s:Sta) (i:Nat) (d:D) (f:Bool):Sta:=⟨s.env.set i (some d),if f && vC d then i :: s.ow.filter (· != i) else s.ow.filter (· != i),s.st⟩
def qP (l:List D) (i:Int) (d:D):Option (List D):=(ixN l.length i).map fun j=>l.set j d
def dX (o:O) (k d:D):Option O:=match o with
 | .lst l=>(match k with | .int i=>(qP l i d).map .lst | _=>none)
 | .dic ks ds=>(bv k).bind fun k=>if ks.length<100000 then some (.dic (bJ ks ds k d).1 (bJ ks ds k d).2) else none
 | _=>none
def iY (o:D) (k d:D):Option D:=match o with
 | .lst l=>(match k with | .int i=>(qP l i d).map .lst | _=>none)
 | .dic ks ds=>(bv k).bind fun k=>if ks.length<100000 then some (.dic (bJ ks ds k d).1 (bJ ks ds k d).2) else none
 | _=>none
def eS (Γ:Gm) (o:O) (f:Nat) (d:D):Option O:=match o with
 | .ins c l=>(Γ.cl[c]?).bind fun k=>if k.at_.length<1000 then (if k.at_.idxOf f<l.length then some (.ins c (l.set (k.at_.idxOf f) d)) else if k.at_.idxOf f=l.length∧k.at_.idxOf f<k.at_.length then some (.ins c (l ++ [d])) else none) else none
 | _=>none
def qQ:Option D→Bool
 | some (.int n)=>decide (0≤n) && decide (n<100000)
 | _=>false
def yW:D→Bool
 | .str x=>decide ((reprText x).length≤10000)
 | .int n=>decide (0≤n) && decide (n<100000)
 | _=>false
def eM (Γ:Gm) (j:Nat) (l:List D):Bool:=match Γ.cl[j]? with
 | some k=>if k.at_.isEmpty then l.all yW else l.length == k.at_.length && k.chk.all (fun i=>qQ l[i]?) && decide (l.length≤1000) && !l.isEmpty
 | none=>false
def mZ (Γ:Gm) (j:Nat) (l:List D):List D:=match Γ.cl[j]? with
 | some k=>if k.at_.isEmpty then [] else l
 | none=>l
def aO (f:D→Sta→ak):List D→Sta→ak
 | [],s=>.nx s
 | d :: r,s=>(f d s).go fun s=>aO f r s
def bx (c:Sta→Out D) (f:Sta→ak):Nat→Sta→ak
 | 0,_=>.bad
 | m+1,s=>(c s).go fun x s=>match x with | .bl true=>(f s).go fun s=>bx c f m s | .bl false=>.nx s | _=>.bad
def cJ (Γ:Gm) (j c:Nat):Option Bool:=(Γ.cl[c]?).map fun k=>c == j || k.sup.contains j
section
variable (Γ:Gm) (cal cal1:Nat→List D→List O→Res)
def exS:S→Sta→ak
 | .skip,s=>.nx s
 | .seq a b,s=>(exS a s).go fun s=>exS b s
 | .set i e,s=>(ev Γ cal cal1 false e s).go fun d s=>.nx (kU s i d (aS e))
 | .setT l e,s=>(ev Γ cal cal1 false e s).go fun d s=>(match aH l false d s.env with | some env=>.nx ⟨env,s.ow.filter fun i=>!l.contains i,s.st⟩ | none=>.bad)
 | .setR i es,s=>(evs Γ cal cal1 false es s).go fun l s=>if l.length≤100000 then .nx ⟨s.env.set i (some (.ref s.st.length)),s.ow.filter (· != i),s.st ++ [.lst l]⟩ else .bad
 | .ret e,s=>(ev Γ cal cal1 false e s).go fun d s=>.rt d s
 | .ifs c a b,s=>(ev Γ cal cal1 true c s).go fun x s=>(match x with | .bl true=>exS a s | .bl false=>exS b s | _=>.bad)
 | .drop e,s=>(ev Γ cal cal1 false e s).go fun _ s=>.nx s
 | .app i e,s=>if s.ow.contains i && isLst s.env[i]? then (ev Γ cal cal1 false e s).go fun d s=>if s.ow.contains i then (match s.env[i]? with
  | some (some (.lst l))=>if l.length<100000 then .nx ⟨s.env.set i (some (.lst (l ++ [d]))),s.ow,s.st⟩ else .bad
  | _=>.bad) else .bad else .bad
 | .ext i e,s=>if s.ow.contains i && isLst s.env[i]? then (ev Γ cal cal1 false e s).go fun d s=>if s.ow.contains i then (match s.env[i]?,d with
  | some (some (.lst l)),.lst x=>if l.length+x.length≤100000 then .nx ⟨s.env.set i (some (.lst (l ++ x))),s.ow,s.st⟩ else .bad
  | _,_=>.bad) else .bad else .bad
 | .put (.v i) b e,s=>(ev Γ cal cal1 false e s).go fun d s=>(match s.env[i]? with
  | some (some x)=>(ev Γ cal cal1 true b s).go fun k s=>(match x with
    | .ref n=>(match (s.st[n]?).bind fun o=>dX o k d with | some o=>.nx ⟨s.env,s.ow,s.st.set n o⟩ | none=>.bad)
    | x=>if s.ow.contains i then (match iY x k d with | some y=>.nx ⟨s.env.set i (some y),s.ow,s.st⟩ | none=>.bad) else .bad)
  | _=>.bad)
 | .put a b e,s=>(ev Γ cal cal1 false e s).go fun d s=>(ev Γ cal cal1 true a s).go fun x s=>(ev Γ cal cal1 true b s).go fun k s=>(match x with
  | .ref n=>(match (s.st[n]?).bind fun o=>dX o k d with | some o=>.nx ⟨s.env,s.ow,s.st.set n o⟩ | none=>.bad)
  | _=>.bad)
 | .fld a f e,s=>(match e with
  | .lst .nil=>(ev Γ cal cal1 true a s).go fun x s=>(match x with
    | .ref n=>(match (s.st[n]?).bind fun o=>eS Γ o f (.ref s.st.length) with | some o=>.nx ⟨s.env,s.ow,(s.st ++ [O.lst []]).set n o⟩ | none=>.bad)
    | _=>.bad)
  | .dic .nil=>(ev Γ cal cal1 true a s).go fun x s=>(match x with
    | .ref n=>(match (s.st[n]?).bind fun o=>eS Γ o f (.ref s.st.length) with | some o=>.nx ⟨s.env,s.ow,(s.st ++ [O.dic [] []]).set n o⟩ | none=>.bad)
    | _=>.bad)
  | e=>(ev Γ cal cal1 false e s).go fun d s=>(ev Γ cal cal1 true a s).go fun x s=>(match x with
    | .ref n=>(match (s.st[n]?).bind fun o=>eS Γ o f d with | some o=>.nx ⟨s.env,s.ow,s.st.set n o⟩ | none=>.bad)
    | _=>.bad))
 | .aug a f o e,s=>(ev Γ cal cal1 true a s).go fun x s=>(match x with
  | .ref n=>(match oX Γ s.st x f with
    | some (.int i)=>(ev Γ cal cal1 false e s).go fun d s=>(match d with
      | .int j=>(match opI o i j,s.st[n]? with
        | some y,some ob=>(match eS Γ ob f y with | some ob=>.nx ⟨s.env,s.ow,s.st.set n ob⟩ | none=>.bad)
        | _,_=>.bad)
      | _=>.bad)
    | _=>.bad)
  | _=>.bad)
 | .fapp a f e,s=>(ev Γ cal cal1 true (.fld a f) s).go fun x s=>(ev Γ cal cal1 false e s).go fun d s=>(match x with
  | .ref n=>(match s.st[n]? with | some (.lst l)=>if l.length<100000 then .nx ⟨s.env,s.ow,s.st.set n (.lst (l ++ [d]))⟩ else .bad | _=>.bad)
  | _=>.bad)
 | .for_ t one it b,s=>(ev Γ cal cal1 false it s).go fun x s=>(match x with
  | .lst ds=>aO (fun d s=>match aH t one d s.env with | some env=>exS b ⟨env,s.ow.filter fun i=>!t.contains i,s.st⟩ | none=>.bad) ds s
  | _=>.bad)
 | .whl c b,s=>bx (ev Γ cal cal1 true c) (exS b) 100000 s
 | .rais j es,s=>(evs Γ cal cal1 false es s).go fun l s=>if eM Γ j l then .exc j (mZ Γ j l) s else .bad
 | .try_ a hs,s=>(match exS a s with
  | .exc c l s'=>hnd hs c l s'
  | r=>r)
 | _,_=>.bad
where hnd:S→Nat→List D→Sta→ak
 | .hand j (some i) b r,c,l,s=>(match cJ Γ j c with
  | some true=>(match exS b ⟨s.env.set i (some (.ins c l)),s.ow.filter (· != i),s.st⟩ with
    | .nx s=>.nx ⟨s.env.set i none,s.ow.filter (· != i),s.st⟩
    | .rt d s=>.rt d s
    | _=>.bad)
  | some false=>hnd r c l s
  | none=>.bad)
 | .hand j none b r,c,l,s=>(match cJ Γ j c with
  | some true=>(match exS b s with | .nx s=>.nx s | .rt d s=>.rt d s | _=>.bad)
  | some false=>hnd r c l s
  | none=>.bad)
 | .skip,c,l,s=>.exc c l s
 | _,_,_,_=>.bad
end
def jU (Γ:Gm) (cal cal1:Nat→List D→List O→Res) (j:Nat) (ds:List D) (st:List O):Res:=match Γ.fn[j]? with
 | some f=>if ds.length=f.np then (match exS Γ cal cal1 f.body ⟨ds.map some ++ Δ (f.ns - f.np) none,[],st⟩ with
   | .nx s=>.ok .non s.st
   | .rt d s=>.ok d s.st
   | .exc c l s=>.exc c l s.st
   | .bad=>.bad) else .bad
 | none=>.bad
def oE (Γ:Gm):Nat→(Nat→List D→List O→Res)×(Nat→List D→List O→Res)
 | 0=>(fun _ _ _=>.bad,fun _ _ _=>.bad)
 | n+1=>(jU Γ (oE Γ n).1 (oE Γ n).2,(oE Γ n).1)
def ac (Γ:Gm) (n:Nat):Nat→List D→List O→Res:=(oE Γ n).1
def aj (Γ:Gm) (n:Nat):Nat→List D→List O→Res:=(oE Γ n).2
structure CI where
 ad:Ε
 nm:List ι
structure Wd where
 P:ϱ
 w:Ð
 ci:List CI
 what:List Nat
abbrev Hp:=Ε→Option Cy
abbrev Rs:=List (Ε×Ε)
def TpO (o:Cy) (l:List ζ):Prop:=o.cls = .type "tuple"∧(∃ n,o.data = .seq l.toArray n)∧l.length≤Ϣ∧o.dict=none
def LsO (o:Cy) (l:List ζ):Prop:=(∃ n,o={ cls:=.type "list",data:=.seq l.toArray n })∧l.length≤Ϣ
def DcO (W:Wd) (o:Cy) (l:List (Key×ζ)):Prop:=∃ es ep,o.ExactDict∧o.data = .dict es ep∧KeysOf (bt W.P W.w) es∧Pairs (bt W.P W.w) es.toList l∧(l.map (·.1)).Nodup∧l.length≤Ϣ
def NsO (o:Cy) (l:List (ι×ζ)):Prop:=∃ es ep,o.data = .dict es ep∧StrKeys es∧UniqKeys es∧∀ n,nsFind es n=l.lookup n
def InO (h:Hp) (a dx C:Ε) (l:List (ι×ζ)):Prop:=h a=some (Ë C dx)∧dx≠a∧l.length≤1000∧∃ o,h dx=some o∧NsO o l
def ExO (h:Hp) (a C:Ε) (l:List (ι×ζ)):Prop:=∃ o vs,h a=some o∧o.cls = .ref C∧o.data = .fields vs∧((l = []∧o.dict=none)∨∃ d od,o.dict=some d∧h d=some od∧NsO od l)
mutual
noncomputable def RD (W:Wd) (ρ:Rs) (G:Hp):D→ζ→Prop
 | .non,v=>v = .none
 | .bl b,v=>v = .bool b
 | .int i,v=>∃ t,v = .int i t
 | .str x,v=>∃ t,v = .str x t
 | .tup ds,v=>∃ a o vs,v = .ref a∧G a=some o∧TpO o vs∧RDs W ρ G ds vs
 | .lst ds,v=>∃ a o vs,v = .ref a∧G a=some o∧LsO o vs∧RDs W ρ G ds vs
 | .dic ks ds,v=>∃ a o vs,v = .ref a∧(a == BW)=false∧G a=some o∧DcO W o (ks.zip vs)∧ks.length=ds.length∧RDs W ρ G ds vs
 | .ins c ds,v=>∃ a i vs,v = .ref a∧W.ci[c]? = some i∧ds.length≤i.nm.length∧((W.what[c]? = some 1∧∃ dx,InO G a dx i.ad (i.nm.zip vs))∨(W.what[c]? = some 2∧ExO G a i.ad (i.nm.zip vs)))∧RDs W ρ G ds vs
 | .ref n,v=>∃ p,ρ[n]? = some p∧v = .ref p.1
noncomputable def RDs (W:Wd) (ρ:Rs) (G:Hp):List D→List ζ→Prop
 | [],vs=>vs = []
 | d :: ds,vs=>∃ v r,vs=v :: r∧RD W ρ G d v∧RDs W ρ G ds r
end
def Sub (G H:Hp):Prop:=∀ a o,G a=some o→H a=some o
theorem Sub.refl (G):Sub G G:=fun _ _ e=>e
theorem Sub.trans (h:Sub G H) (i:Sub H I):Sub G I:=fun a o e=>i a o (h a o e)
section
variable {W:Wd} {ρ ρ':Rs} {G G' H H':Hp}
theorem iW (h:ρ <+: ρ') {n:Nat} (e:ρ[n]? = some a):ρ'[n]? = some a:=by
 obtain ⟨t,rfl⟩:=h
 rw [Ψ (ο.mp e).1];exact e
theorem InO.sub (h:Sub G G'):InO G a dx C l→InO G' a dx C l:=fun ⟨x,n,z,o,e,r⟩=>⟨h _ _ x,n,z,o,h _ _ e,r⟩
theorem ExO.sub (h:Sub G G'):ExO G a C l→ExO G' a C l:=fun ⟨o,vs,e,c,d,r⟩=>⟨o,vs,h _ _ e,c,d,r.elim .inl fun ⟨d,od,q,e,r⟩=>.inr ⟨d,od,q,h _ _ e,r⟩⟩
mutual
theorem RD.mono (hp:ρ <+: ρ') (h:Sub G G'):∀ {d:D} {v},RD W ρ G d v→RD W ρ' G' d v
 | .non,_,e=>e
 | .bl _,_,e=>e
 | .int _,_,e=>e
 | .str _,_,e=>e
 | .tup _,_,⟨a,o,vs,e,t,q,r⟩=>⟨a,o,vs,e,h _ _ t,q,RDs.mono hp h r⟩
 | .lst _,_,⟨a,o,vs,e,t,q,r⟩=>⟨a,o,vs,e,h _ _ t,q,RDs.mono hp h r⟩
 | .dic _ _,_,⟨a,o,vs,e,m,t,q,l,r⟩=>⟨a,o,vs,e,m,h _ _ t,q,l,RDs.mono hp h r⟩
 | .ins _ _,_,⟨a,i,vs,e,hc,l,t,r⟩=>⟨a,i,vs,e,hc,l,t.elim (fun ⟨w,dx,q⟩=>.inl ⟨w,dx,q.sub h⟩) (fun ⟨w,q⟩=>.inr ⟨w,q.sub h⟩),RDs.mono hp h r⟩
 | .ref _,_,⟨a,e,q⟩=>⟨a,iW hp e,q⟩
theorem RDs.mono (hp:ρ <+: ρ') (h:Sub G G'):∀ {ds} {vs},RDs W ρ G ds vs→RDs W ρ' G' ds vs
 | [],_,e=>e
 | _ :: _,_,⟨v,r,e,t,q⟩=>⟨v,r,e,RD.mono hp h t,RDs.mono hp h q⟩
end
theorem RDs.cons (h:RD W ρ G d v) (t:RDs W ρ G ds vs):RDs W ρ G (d :: ds) (v :: vs):=⟨v,vs,rfl,h,t⟩
theorem i5:∀ {ds vs},RDs W ρ G ds vs↔Paired (RD W ρ G) ds vs
 | [],vs=>⟨fun h=>by cases (show vs = [] from h);exact .nil,fun h=>by cases h;exact rfl⟩
 | d :: ds,vs=>⟨fun ⟨v,r,e,h,t⟩=>e ▸ .cons h (i5.mp t),fun h=>by cases h with | cons h t=>exact .cons h (i5.mpr t)⟩
theorem RDs.len (h:RDs W ρ G ds vs):ds.length=vs.length:=(i5.mp h).length
theorem RDs.get:∀ {ds} {vs} {i:Nat} {d:D},RDs W ρ G ds vs→ds[i]? = some d→∃ v,vs[i]? = some v∧RD W ρ G d v
 | [],_,_,_,_,e=>by simp at e
 | d :: ds,vs,0,d',⟨v,r,e,h,_⟩,e'=>by subst e;simp at e';subst e';exact ⟨v,rfl,h⟩
 | d :: ds,vs,i+1,d',⟨v,r,e,_,t⟩,e'=>by
   subst e
   obtain ⟨u,h1,h2⟩:=RDs.get (i:=i) t (by simpa using e')
   exact ⟨u,by simpa using h1,h2⟩
theorem RDs.app:∀ {ds es} {vs us},RDs W ρ G ds vs→RDs W ρ G es us→RDs W ρ G (ds ++ es) (vs ++ us)
 | [],_,vs,_,h,t=>by cases (show vs = [] from h);exact t
 | d :: ds,es,vs,us,⟨v,r,e,h,t'⟩,t=>by subst e;exact .cons h (RDs.app t' t)
theorem RDs.drop:∀ {ds} {vs} (n),RDs W ρ G ds vs→RDs W ρ G (ds.drop n) (vs.drop n)
 | _,_,0,h=>h
 | [],vs,n+1,h=>by cases (show vs = [] from h);exact rfl
 | d :: ds,vs,n+1,⟨v,r,e,h,t⟩=>by subst e;exact RDs.drop n t
theorem RDs.take:∀ {ds} {vs} (n),RDs W ρ G ds vs→RDs W ρ G (ds.take n) (vs.take n)
 | _,_,0,_=>rfl
 | [],vs,n+1,h=>by cases (show vs = [] from h);exact rfl
 | d :: ds,vs,n+1,⟨v,r,e,h,t⟩=>by subst e;exact .cons h (RDs.take n t)
theorem RDs.set:∀ {ds} {vs} (n) {d} {v},RDs W ρ G ds vs→RD W ρ G d v→RDs W ρ G (ds.set n d) (vs.set n v)
 | [],vs,_,_,_,h,_=>by cases (show vs = [] from h);exact rfl
 | d :: ds,vs,0,_,_,⟨v,r,e,h,t⟩,q=>by subst e;exact .cons q t
 | d :: ds,vs,n+1,_,_,⟨v,r,e,h,t⟩,q=>by subst e;exact .cons h (RDs.set n t q)
theorem RDs.rev:∀ {ds} {vs},RDs W ρ G ds vs→RDs W ρ G ds.reverse vs.reverse
 | [],vs,h=>by cases (show vs = [] from h);exact rfl
 | d :: ds,vs,⟨v,r,e,h,t⟩=>by subst e;rw [CO,CO];exact (RDs.rev t).app (.cons h rfl)
end
def ObR (W:Wd) (ρ:Rs) (G h:Hp) (p:Ε×Ε):O→Prop
 | .lst ds=>∃ o vs,p.2=p.1∧h p.1=some o∧LsO o vs∧RDs W ρ G ds vs
 | .dic ks ds=>∃ o vs,p.2=p.1∧(p.1 == BW)=false∧h p.1=some o∧DcO W o (ks.zip vs)∧ks.length=ds.length∧RDs W ρ G ds vs
 | .ins c ds=>∃ i vs,W.ci[c]? = some i∧W.what[c]? = some 0∧ds.length≤i.nm.length∧InO h p.1 p.2 i.ad (i.nm.zip vs)∧RDs W ρ G ds vs
theorem ObR.mono (hp:ρ <+: ρ') (g:Sub G G') (k:∀ a,a=p.1∨a=p.2→∀ o,h a=some o→h' a=some o):∀ {o},ObR W ρ G h p o→ObR W ρ' G' h' p o
 | .lst _,⟨o,vs,z,e,q,r⟩=>⟨o,vs,z,k _ (.inl rfl) _ e,q,r.mono hp g⟩
 | .dic _ _,⟨o,vs,z,m,e,q,l,r⟩=>⟨o,vs,z,m,k _ (.inl rfl) _ e,q,l,r.mono hp g⟩
 | .ins _ _,⟨i,vs,c,w,l,⟨e,n,z,o,e2,q⟩,r⟩=>⟨i,vs,c,w,l,⟨k _ (.inl rfl) _ e,n,z,o,k _ (.inr rfl) _ e2,q⟩,r.mono hp g⟩
theorem ObR.th:∀ {o},ObR W ρ G h p o→(∃ o,h p.1=some o)∧∃ o,h p.2=some o
 | .lst _,⟨o,vs,z,e,_⟩=>⟨⟨o,e⟩,z ▸ ⟨o,e⟩⟩
 | .dic _ _,⟨o,vs,z,m,e,_⟩=>⟨⟨o,e⟩,z ▸ ⟨o,e⟩⟩
 | .ins _ _,⟨i,vs,c,w,l,⟨e,n,z,o,e2,q⟩,r⟩=>⟨⟨_,e⟩,⟨_,e2⟩⟩
def toO:D→Option O
 | .lst l=>some (.lst l)
 | .dic k l=>some (.dic k l)
 | _=>none
structure Cx where
 W:Wd
 K:τ
 mg:ι→Option ζ
 base:ϯ
 os:CM
 Γ:Gm
 cal:Nat→List D→List O→Res
 cal1:Nat→List D→List O→Res
 A:ϑ
 fr:List AK
 N:List ι
 env:AK
 calm:Bool
abbrev Cx.ev (X:Cx) (br:Bool) (e:E):Sta→Out D:=Ev.ev X.Γ X.cal X.cal1 br e
abbrev Cx.evs (X:Cx) (br:Bool) (e:E):Sta→Out (List D):=Ev.evs X.Γ X.cal X.cal1 br e
abbrev Cx.ex (X:Cx) (c:S):Sta→ak:=Ev.exS X.Γ X.cal X.cal1 c
abbrev Cx.M (X:Cx):C1:=model X.W.P X.W.w
structure Z where
 ρ:Rs
 G:Hp
 t:Sta
 σ:List (Option ζ)
 s:ξ
abbrev Z.h (z:Z):Hp:=z.s.heap.get?
def Mu (ρ:Rs) (a:Ε):Prop:=∃ p∈ρ,a=p.1∨a=p.2
def Own (z:Z) (a:Ε):Prop:=∃ i∈z.t.ow,z.σ[i]? = some (some (.ref a))
def Lc (X:Cx) (a:Ε):Prop:=a=X.env.locals∨∃ x,X.env.cells.lookup x=some a
structure HR (X:Cx) (z:Z):Prop where
 md:Mod X.K X.mg X.base
 fm:X.A.frames=some X.fr
 hd:X.calm=true→X.A.handled=none
 bs:∀ b o,X.base.get? b=some o→z.G b=some o
 gh:Sub z.G z.h
 rl:z.ρ.length=z.t.st.length
 rn:∀ (i j:Nat) (p q:Ε×Ε) (a:Ε),z.ρ[i]? = some p→z.ρ[j]? = some q→(a=p.1∨a=p.2)→(a=q.1∨a=q.2)→i=j
 rg:∀ a,Mu z.ρ a→z.G a=none
 ob:∀ (n:Nat) (o:O) (p:Ε×Ε),z.t.st[n]? = some o→z.ρ[n]? = some p→ObR X.W z.ρ z.G z.h p o
 fu:z.s.heap.FunFrames X.base X.fr
 ff:∀ b∈frs X.fr,z.G b=none∧¬ Mu z.ρ b
 br:Ō z.s.gens
 os:z.s.os=X.os
structure COk (X:Cx):Prop where
 un:X.A.units+200<ś
 kd:X.env.scope.kind = .function
 gl:X.env.globals=ύ
 bl:X.env.builtins=builtinsNs
 ci:∀ x y c,X.env.cells.lookup x=some c→X.env.cells.lookup y=some c→x=y
 ch:∀ x,(X.env.kindOf x=some .cell∨X.env.kindOf x=some .free)→∃ c,X.env.cells.lookup x=some c
def Fre (X:Cx) (z:Z) (a:Ε):Prop:=z.G a=none∧¬ Mu z.ρ a∧a ∉ frs X.fr∧¬ Lc X a
structure Rep (X:Cx) (z:Z):Prop extends HR X z where
 ok:COk X
 lo:∃ m,z.s.heap.Ns X.env.locals m∧∀ (i:Nat) (x:ι) (u:ζ),X.N[i]? = some x→z.σ[i]? = some (some u)→Vis X.env.scope x→kc X.env z.s.heap m x u
 ce:∀ x c,X.env.cells.lookup x=some c→∃ v,z.s.heap.IsCell c v
 fl:∀ a,Lc X a→z.G a=none∧¬ Mu z.ρ a
 el:z.t.env.length=z.σ.length
 sl:z.σ.length=X.N.length
 en:∀ (i:Nat) (d:D),i ∉ z.t.ow→z.t.env[i]? = some (some d)→∃ u,z.σ[i]? = some (some u)∧RD X.W z.ρ z.G d u
 eo:∀ (i:Nat),i∈z.t.ow→∃ d a o,z.t.env[i]? = some (some d)∧z.σ[i]? = some (some (.ref a))∧toO d=some o∧ObR X.W z.ρ z.G z.h (a,a) o∧Fre X z a
 od:∀ (i j:Nat) (a:Ε),i∈z.t.ow→j∈z.t.ow→z.σ[i]? = some (some (.ref a))→z.σ[j]? = some (some (.ref a))→i=j
structure Stp (fr:List AK) (w:Ε→Prop) (z z':Z):Prop where
 pr:z.ρ <+: z'.ρ
 gg:Sub z.G z'.G
 gn:∀ a o,z'.G a=some o→z.G a=some o∨z.h a=none∨w a
 rn:∀ a,Mu z'.ρ a→Mu z.ρ a∨z.h a=none
 th:∀ a o,z.h a=some o→∃ o',z'.h a=some o'
 sm:∀ a o,z.h a=some o→¬ Mu z.ρ a→¬ w a→a ∉ frs fr→z'.h a=some o
 sl:∀ a o,z.h a=some o→¬ Mu z.ρ a→¬ w a→a∈frs fr→∃ sl,z'.h a=some { o with slots:=sl }
theorem Stp.no (x:Stp fr w z z') (e:z'.h a=none):z.h a=none:=by
 cases q:z.h a with
 | none=>rfl
 | some o=>obtain ⟨o',e'⟩:=x.th a o q;rw [e] at e';cases e'
theorem Stp.refl:Stp fr w z z:=⟨κ _,.refl _,fun _ _ e=>.inl e,fun _ h=>.inl h,fun _ o e=>⟨o,e⟩,fun _ _ e _ _ _=>e,fun _ o e _ _ _=>⟨o.slots,e⟩⟩
theorem Stp.trans (x:Stp fr w z z1) (y:Stp fr w1 z1 z2) (k:∀ a,w1 a→w a∨z.h a=none):Stp fr w z z2:=by
 have nm:∀ a o,z.h a=some o→¬ Mu z.ρ a→¬ Mu z1.ρ a:=fun a o e n m=>(x.rn a m).elim n fun q=>by rw [q] at e;cases e
 have nw:∀ a o,z.h a=some o→¬ w a→¬ w1 a:=fun a o e n m=>(k a m).elim n fun q=>by rw [q] at e;cases e
 refine ⟨x.pr.trans y.pr,x.gg.trans y.gg,fun a o e=>?_,fun a m=>?_,fun a o e=>?_,fun a o e n m f=>y.sm a o (x.sm a o e n m f) (nm a o e n) (nw a o e m) f,fun a o e n m f=>?_⟩
 ·rcases y.gn a o e with q | q | q
  ·exact x.gn a o q
  ·exact .inr (.inl (x.no q))
  ·exact .inr ((k a q).symm)
 ·rcases y.rn a m with q | q
  ·exact x.rn a q
  ·exact .inr (x.no q)
 ·obtain ⟨o1,e1⟩:=x.th a o e;exact y.th a o1 e1
 ·obtain ⟨sl,e1⟩:=x.sl a o e n m f
  obtain ⟨sl2,e2⟩:=y.sl a _ e1 (nm a o e n) (nw a o e m) f
  exact ⟨sl2,e2⟩
theorem Stp.mono (x:Stp fr w z z') (k:∀ a,w a→w' a):Stp fr w' z z':=⟨x.pr,x.gg,fun a o e=>(x.gn a o e).imp_right (·.imp_right (k a)),x.rn,x.th,fun a o e n m=>x.sm a o e n fun q=>m (k a q),fun a o e n m=>x.sl a o e n fun q=>m (k a q)⟩
structure Ee (X:Cx) (z z':Z):Prop where
 st:Stp X.fr (Own z) z z'
 sg:z'.σ=z.σ
 en:z'.t.env=z.t.env
 ow:∀ i∈z'.t.ow,i∈z.t.ow
theorem Ee.refl:Ee X z z:=⟨.refl,rfl,rfl,fun _ h=>h⟩
theorem Ee.own (x:Ee X z z'):Own z' a→Own z a:=fun ⟨i,m,e⟩=>⟨i,x.ow i m,x.sg ▸ e⟩
theorem Ee.trans (x:Ee X z z1) (y:Ee X z1 z2):Ee X z z2:=⟨x.st.trans y.st fun _ o=>.inl (x.own o),y.sg.trans x.sg,y.en.trans x.en,fun i m=>x.ow i (y.ow i m)⟩
def Pv (X:Cx) (z:Z) (a:Ε):Prop:=Own z a∨Lc X a
structure Go (X:Cx) (z z':Z):Prop where
 st:Stp X.fr (Pv X z) z z'
 ow:∀ a,Own z' a→Own z a∨z.h a=none
theorem Go.refl:Go X z z:=⟨.refl,fun _ o=>.inl o⟩
theorem Go.trans (x:Go X z z1) (y:Go X z1 z2):Go X z z2:=by
 refine ⟨x.st.trans y.st fun a o=>o.elim (fun q=>(x.ow a q).imp_left .inl) fun q=>.inl (.inr q),fun a o=>?_⟩
 rcases y.ow a o with q | q
 ·exact x.ow a q
 ·exact .inr (x.st.no q)
theorem Ee.go (x:Ee X z z'):Go X z z':=⟨x.st.mono fun _=>.inl,fun _ o=>.inl (x.own o)⟩
def RB (W:Wd) (z:Z) (d:D) (u:ζ):Prop:=RD W z.ρ z.G d u∨∃ i∈z.t.ow,z.σ[i]? = some (some u)∧z.t.env[i]? = some (some d)
def RV (W:Wd) (br:Bool) (c:E) (z:Z) (d:D) (u:ζ):Prop:=RD W z.ρ z.G d u∨(br=true∧∃ i,c = .v i∧i∈z.t.ow∧z.σ[i]? = some (some u)∧z.t.env[i]? = some (some d))
theorem RV.of (h:RD W z.ρ z.G d u):RV W br c z d u:=.inl h
theorem RV.rd (h:RV W false c z d u):RD W z.ρ z.G d u:=h.elim id fun ⟨z,_⟩=>nomatch z
theorem RV.rb (h:RV W br c z d u):RB W z d u:=h.elim .inl fun ⟨_,i,_,m,e⟩=>.inr ⟨i,m,e⟩
theorem RD.st (h:RD W z.ρ z.G d u) (x:Stp fr w z z'):RD W z'.ρ z'.G d u:=h.mono x.pr x.gg
theorem RV.st (h:RV X.W br c z d u) (x:Ee X z z') (I:Rep X z'):RV X.W br c z' d u:=by
 rcases h with h | ⟨b,i,hc,m,e1,e2⟩
 ·exact .inl (h.st x.st)
 ·by_cases q:i∈z'.t.ow
  ·exact .inr ⟨b,i,hc,q,x.sg ▸ e1,x.en ▸ e2⟩
  ·obtain ⟨u',e3,r⟩:=I.en i d q (x.en ▸ e2)
   rw [x.sg,e1] at e3;cases e3
   exact .inl r
theorem RB.st (h:RB X.W z d u) (x:Ee X z z') (I:Rep X z'):RB X.W z' d u:=by
 rcases h with h | ⟨i,m,e1,e2⟩
 ·exact .inl (h.st x.st)
 ·by_cases q:i∈z'.t.ow
  ·exact .inr ⟨i,q,x.sg ▸ e1,x.en ▸ e2⟩
  ·obtain ⟨u',e3,r⟩:=I.en i d q (x.en ▸ e2)
   rw [x.sg,e1] at e3;cases e3
   exact .inl r
def CR (W:Wd) (z:Z):D→ζ→Prop
 | .lst ds,v=>∃ a o vs,v = .ref a∧z.h a=some o∧LsO o vs∧RDs W z.ρ z.G ds vs
 | .dic ks ds,v=>∃ a o vs,v = .ref a∧(a == BW)=false∧z.h a=some o∧DcO W o (ks.zip vs)∧ks.length=ds.length∧RDs W z.ρ z.G ds vs
 | d,v=>RD W z.ρ z.G d v
theorem CR.of (I:HR X z):∀ {d},RD X.W z.ρ z.G d u→CR X.W z d u
 | .non,h=>h
 | .bl _,h=>h
 | .int _,h=>h
 | .str _,h=>h
 | .ref _,h=>h
 | .ins _ _,h=>h
 | .tup _,h=>h
 | .lst _,⟨a,o,vs,e,g,r⟩=>⟨a,o,vs,e,I.gh _ _ g,r⟩
 | .dic _ _,⟨a,o,vs,e,m,g,r⟩=>⟨a,o,vs,e,m,I.gh _ _ g,r⟩
theorem CR.ob {d:D} (e:toO d=some o) (h:ObR W z.ρ z.G z.h (a,b) o):CR W z d (.ref a):=by
 cases d <;> cases e
 ·obtain ⟨o,vs,_,r⟩:=h;exact ⟨a,o,vs,rfl,r⟩
 ·obtain ⟨o,vs,_,r⟩:=h;exact ⟨a,o,vs,rfl,r⟩
theorem RB.cr0 (I:Rep X z) (h:RB X.W z d u):CR X.W z d u:=by
 rcases h with h | ⟨i,m,e1,e2⟩
 ·exact .of I.toHR h
 ·obtain ⟨d',a,o,e3,e4,e5,r,_⟩:=I.eo i m
  rw [e1] at e4;cases e4
  rw [e2] at e3;cases e3
  exact .ob e5 r
theorem RB.cr (I:Rep X z) (h:RB X.W z d u):CR X.W z (look z.t.st d) u:=by
 have c:=h.cr0 I
 cases d with
 | ref n=>
   obtain ⟨p,e,rfl⟩:=(show RD X.W z.ρ z.G (.ref n) u from c)
   show CR X.W z (match z.t.st[n]? with | some (.lst l)=>.lst l | some (.dic k l)=>.dic k l | _=>.ref n) _
   cases q:z.t.st[n]? with
   | none=>exact c
   | some o=>
     have r:=I.ob n o p q e
     cases o with
     | lst l=>exact .ob (d:=.lst l) rfl r
     | dic k l=>exact .ob (d:=.dic k l) rfl r
     | ins _ _=>exact c
 | _=>exact c
structure Gr (s s':ξ):Prop where
 os:s'.os=s.os
 gs:s'.gens=s.gens
 k:∀ b o,s.heap.get? b=some o→s'.heap.get? b=some o
theorem Gr.refl:Gr s s:=⟨rfl,rfl,fun _ _ e=>e⟩
theorem Gr.tok {s:ξ} {t:Nat}:Gr s { s with toks:=t }:=⟨rfl,rfl,fun _ _ e=>e⟩
theorem Gr.hp {s:ξ} {h:ϯ} {t:Nat} (k:∀ b o,s.heap.get? b=some o→h.get? b=some o):Gr s { s with heap:=h,toks:=t }:=⟨rfl,rfl,k⟩
theorem Gr.push {s:ξ} {o:Cy} {t:Nat}:Gr s { s with heap:=s.heap.push o,toks:=t }:=.hp fun _ _ e=>υ _ e
structure Grw (z:Z) (G':Hp) (s':ξ):Prop where
 gr:Gr z.s s'
 gg:Sub z.G G'
 gh:Sub G' s'.heap.get?
 gn:∀ a o,G' a=some o→z.G a=some o∨z.h a=none
theorem nfu {h h':ϯ} (x:h.FunFrames base l) (k:∀ b o,h.get? b=some o→h'.get? b=some o):h'.FunFrames base l:=x.of_keeps fun b o e _=>⟨o,k b o e,rfl⟩
theorem HR.th (I:HR X z) (m:Mu z.ρ a):∃ o,z.h a=some o:=by
 obtain ⟨p,hp,e⟩:=m
 obtain ⟨n,hn⟩:=ϓ.mp hp
 have lt:n<z.t.st.length:=by rw [← I.rl];exact (ο.mp hn).1
 obtain ⟨h1,h2⟩:=(I.ob n _ p (φ lt) hn).th
 rcases e with rfl | rfl
 ·exact h1
 ·exact h2
theorem HR.fth (I:HR X z) (m:b∈frs X.fr):∃ o,z.h b=some o:=let ⟨_,o,e,_⟩:=I.fu.mem m;⟨o,e⟩
section
variable {X:Cx} {z:Z} {G':Hp} {s':ξ}
theorem HR.grow (I:HR X z) (g:Grw z G' s'):HR X { z with G:=G',s:=s' }:=by
 have nn:∀ {a:Ε},(∃ o,z.h a=some o)→z.G a=none→G' a=none:=fun {a} ⟨o,e⟩ n=>by
  cases q:G' a with
  | none=>rfl
  | some o'=>rcases g.gn a o' q with z | z;rw [n] at z;cases z;rw [z] at e;cases e
 exact ⟨I.md,I.fm,I.hd,fun b o e=>g.gg _ _ (I.bs b o e),g.gh,I.rl,I.rn,fun a m=>nn (I.th m) (I.rg a m),fun n o p h1 h2=>(I.ob n o p h1 h2).mono (κ _) g.gg fun a _ o e=>g.gr.k a o e,nfu I.fu g.gr.k,fun b m=>⟨nn (I.fth m) (I.ff b m).1,(I.ff b m).2⟩,by rw [g.gr.gs];exact I.br,g.gr.os.trans I.os⟩
theorem Rep.lth (I:Rep X z) (l:Lc X a):∃ o,z.h a=some o:=by
 rcases l with rfl | ⟨x,e⟩
 ·obtain ⟨m,⟨o,_,_,e,_⟩,_⟩:=I.lo;exact ⟨o,e⟩
 ·obtain ⟨v,o,e,_⟩:=I.ce x a e;exact ⟨o,e⟩
theorem Rep.oth (I:Rep X z) (o:Own z a):Fre X z a∧∃ o,z.h a=some o:=by
 obtain ⟨i,m,e⟩:=o
 obtain ⟨d,b,o,_,e2,_,r,f⟩:=I.eo i m
 rw [e] at e2;cases e2
 exact ⟨f,r.th.1⟩
theorem cP {h h':ϯ} (k:∀ c v,env.cells.lookup x=some c→h.IsCell c v→h'.IsCell c v) (l:kc env h m x u):kc env h' m x u:=l.imp_right fun ⟨a,c,e,q⟩=>⟨a,c,e,k c _ e q⟩
theorem Rep.fre (I:Rep X z) (n:z.h a=none):Fre X z a∧¬ Own z a:=by
 have no:∀ {P:Prop},(P→∃ o,z.h a=some o)→¬ P:=fun k p=>by obtain ⟨o,e⟩:=k p;rw [n] at e;cases e
 refine ⟨⟨?_,no I.th,no I.fth,no I.lth⟩,no fun o=>(I.oth o).2⟩
 cases q:z.G a with
 | none=>rfl
 | some o=>have:=I.gh a o q;rw [n] at this;cases this
theorem uJ {h h':ϯ} (sl:∀ b o,h.get? b=some o→∃ sl,h'.get? b=some { o with slots:=sl }) (n:h.Ns a m):h'.Ns a m:=let ⟨o,es,ep,e,r⟩:=n;let ⟨_,q⟩:=sl a o e;⟨_,es,ep,q,r⟩
theorem eW {h h':ϯ} (sl:∀ b o,h.get? b=some o→∃ sl,h'.get? b=some { o with slots:=sl }) (n:h.IsCell c v):h'.IsCell c v:=let ⟨o,e,d⟩:=n;let ⟨_,q⟩:=sl c o e;⟨_,q,d⟩
theorem Rep.grw (I:Rep X z) (os:s'.os=z.s.os) (br:Ō s'.gens) (k:∀ b o,z.h b=some o→b ∉ frs X.fr→s'.heap.get? b=some o) (sl:∀ b o,z.h b=some o→∃ sl,s'.heap.get? b=some { o with slots:=sl })
 (gg:Sub z.G G') (gh:Sub G' s'.heap.get?) (gn:∀ a o,G' a=some o→z.G a=some o∨(Fre X z a∧¬ Own z a)):Rep X { z with G:=G',s:=s' }:=by
 have nn:∀ {a:Ε},¬ (Fre X z a∧¬ Own z a)→z.G a=none→G' a=none:=fun {a} f n=>by
  cases q:G' a with
  | none=>rfl
  | some o'=>rcases gn a o' q with z | z;rw [n] at z;cases z;exact (f z).elim
 refine ⟨⟨I.md,I.fm,I.hd,fun b o e=>gg _ _ (I.bs b o e),gh,I.rl,I.rn,fun a m=>nn (fun f=>f.1.2.1 m) (I.rg a m),fun n o p h1 h2=>(I.ob n o p h1 h2).mono (κ _) gg fun a ha o e=>k a o e fun m=>(I.ff a m).2 ⟨p,Ζ h2,ha⟩,I.fu.of_keeps fun b o e _=>let ⟨_,q⟩:=sl b o e;⟨_,q,rfl⟩,fun b m=>⟨nn (fun f=>f.1.2.2.1 m) (I.ff b m).1,(I.ff b m).2⟩,br,os.trans I.os⟩,I.ok,?_,fun x c e=>let ⟨v,q⟩:=I.ce x c e;⟨v,eW sl q⟩,fun a l=>⟨nn (fun f=>f.1.2.2.2 l) (I.fl a l).1,(I.fl a l).2⟩,I.el,I.sl,fun i d n e=>let ⟨u,q,r⟩:=I.en i d n e;⟨u,q,r.mono (κ _) gg⟩,fun i m=>?_,I.od⟩
 ·obtain ⟨m,hn,hl⟩:=I.lo
  exact ⟨m,uJ sl hn,fun i x u h1 h2 h3=>cP (fun c v _ q=>eW sl q) (hl i x u h1 h2 h3)⟩
 ·obtain ⟨d,a,o,h1,h2,h3,r,f⟩:=I.eo i m
  exact ⟨d,a,o,h1,h2,h3,r.mono (κ _) gg fun b hb o e=>k b o e (by rcases hb with rfl | rfl <;> exact f.2.2.1),nn (fun f=>f.2 ⟨i,m,h2⟩) f.1,f.2⟩
theorem Rep.grow (I:Rep X z) (g:Grw z G' s'):Rep X { z with G:=G',s:=s' }:=I.grw g.gr.os (by rw [g.gr.gs];exact I.br) (fun b o e _=>g.gr.k b o e) (fun b o e=>⟨o.slots,g.gr.k b o e⟩) g.gg g.gh fun a o e=>(g.gn a o e).imp_right I.fre
theorem Grw.stp (g:Grw z G' s'):Stp fr w z { z with G:=G',s:=s' }:=⟨κ _,g.gg,fun a o e=>(g.gn a o e).imp_right .inl,fun _ m=>.inl m,fun a o e=>⟨o,g.gr.k a o e⟩,fun a o e _ _ _=>g.gr.k a o e,fun a o e _ _ _=>⟨o.slots,g.gr.k a o e⟩⟩
theorem Grw.ee (g:Grw z G' s'):Ee X z { z with G:=G',s:=s' }:=⟨g.stp,rfl,rfl,fun _ h=>h⟩
end
def Z.up (z:Z) (s':ξ):Z:={ z with G:=fun a=>match z.h a with | none=>s'.heap.get? a | some _=>z.G a,s:=s' }
theorem ja {z:Z} {s':ξ} (n:z.h a=none):(z.up s').G a=s'.heap.get? a:=by show (match z.h a with | none=>s'.heap.get? a | some _=>z.G a)=_;rw [n]
theorem cG {z:Z} {s':ξ} (I:Sub z.G z.h) (g:Gr z.s s'):Grw z (z.up s').G s':=by
 refine ⟨g,fun a o e=>?_,fun a o e=>?_,fun a o e=>?_⟩
 ·show (match z.h a with | none=>s'.heap.get? a | some _=>z.G a)=_
  rw [I a o e];exact e
 ·revert e
  show (match z.h a with | none=>s'.heap.get? a | some _=>z.G a)=_→_
  cases q:z.h a with
  | none=>exact fun e=>e
  | some u=>exact fun e=>g.k a o (I a o e)
 ·cases q:z.h a with
  | none=>exact .inr rfl
  | some u=>
    revert e
    show (match z.h a with | none=>s'.heap.get? a | some _=>z.G a)=_→_
    rw [q];exact .inl
theorem aw {z:Z} {s':ξ} (I:Sub z.G z.h) (g:Gr z.s s'):Grw z z.G s':=⟨g,.refl _,fun a o e=>g.k a o (I a o e),fun _ _ e=>.inl e⟩
def jj (z:Z) (p:Nat→Bool) (a:Ε):Prop:=∃ i∈z.t.ow,p i=false∧z.σ[i]? = some (some (.ref a))
open Classical in
noncomputable def Z.rel (z:Z) (p:Nat→Bool):Z:={ z with t:=⟨z.t.env,z.t.ow.filter p,z.t.st⟩,G:=fun a=>if jj z p a then z.h a else z.G a }
theorem fb {z:Z} (h:jj z p a):(z.rel p).G a=z.h a:=ZZ h
theorem cU {z:Z} (h:¬ jj z p a):(z.rel p).G a=z.G a:=ZY h
theorem iU {d:D} (e:toO d=some o) (r:ObR W ρ G h (a,b) o) (g:Sub G G') (q:G' a=h a):RD W ρ G' d (.ref a):=by
 cases d <;> cases e
 ·obtain ⟨o,vs,_,e,l,t⟩:=r;exact ⟨a,o,vs,rfl,q.trans e,l,t.mono (κ _) g⟩
 ·obtain ⟨o,vs,_,m,e,l,n,t⟩:=r;exact ⟨a,o,vs,rfl,m,q.trans e,l,n,t.mono (κ _) g⟩
theorem Rep.rel (I:Rep X z) (p:Nat→Bool):Rep X (z.rel p)∧Ee X z (z.rel p):=by
 have own:∀ {a},jj z p a→Own z a:=fun ⟨i,m,_,e⟩=>⟨i,m,e⟩
 have gg:Sub z.G (z.rel p).G:=fun a o e=>by
  by_cases q:jj z p a
  ·rw [(I.oth (own q)).1.1] at e;cases e
  ·rw [cU q];exact e
 have nn:∀ {a},¬ Own z a→z.G a=none→(z.rel p).G a=none:=fun n g=>by rw [cU fun q=>n (own q)];exact g
 refine ⟨⟨⟨I.md,I.fm,I.hd,fun b o e=>gg _ _ (I.bs b o e),fun a o e=>?_,I.rl,I.rn,fun a m=>nn (fun q=>(I.oth q).1.2.1 m) (I.rg a m),fun n o p h1 h2=>(I.ob n o p h1 h2).mono (κ _) gg fun _ _ _ e=>e,I.fu,fun b m=>⟨nn (fun q=>(I.oth q).1.2.2.1 m) (I.ff b m).1,(I.ff b m).2⟩,I.br,I.os⟩,I.ok,I.lo,I.ce,fun a l=>⟨nn (fun q=>(I.oth q).1.2.2.2 l) (I.fl a l).1,(I.fl a l).2⟩,I.el,I.sl,fun i d n e=>?_,fun i m=>?_,fun i j a m1 m2=>I.od i j a (ϕ.mp m1).1 (ϕ.mp m2).1⟩,⟨⟨κ _,gg,fun a o e=>?_,fun _ m=>.inl m,fun a o e=>⟨o,e⟩,fun _ _ e _ _ _=>e,fun _ o e _ _ _=>⟨o.slots,e⟩⟩,rfl,rfl,fun i m=>(ϕ.mp m).1⟩⟩
 ·by_cases q:jj z p a
  ·rw [fb q] at e;exact e
  ·rw [cU q] at e;exact I.gh a o e
 ·by_cases m:i∈z.t.ow
  ·have pf:p i=false:=by
    cases q:p i with
    | false=>rfl
    | true=>exact ZX (ϕ.mpr ⟨m,q⟩) n
   obtain ⟨d',a,o,h1,h2,h3,r,f⟩:=I.eo i m
   rw [show z.t.env[i]? = some (some d) from e] at h1;cases h1
   exact ⟨_,h2,iU h3 r gg (fb ⟨i,m,pf,h2⟩)⟩
  ·obtain ⟨u,q,r⟩:=I.en i d m e
   exact ⟨u,q,r.mono (κ _) gg⟩
 ·obtain ⟨m1,m2⟩:=ϕ.mp m
  obtain ⟨d',a,o,h1,h2,h3,r,f⟩:=I.eo i m1
  refine ⟨d',a,o,h1,h2,h3,r.mono (κ _) gg fun _ _ _ e=>e,?_,f.2⟩
  refine (cU fun ⟨j,mj,pj,ej⟩=>?_).trans f.1
  rw [I.od j i a mj m1 ej h2,m2] at pj;cases pj
 ·by_cases q:jj z p a
  ·exact .inr (.inr (own q))
  ·rw [cU q] at e;exact .inl e
def Tr (h:ϯ) (a:Ε) (cls:ζ) (dx:Option Ε) (T:Ε) (fl:ζ):Prop:=
 ∃ oe vs oT ts,h.get? a=some oe∧(oe.cls=cls∧oe.dict=dx)∧oe.data = .fields vs∧vs[1]? = some (.ref T)∧T≠a∧h.get? T=some oT∧oT.data = .fields ts∧ts[3]? = some fl
def Rw (h:ϯ) (a:Ε) (cls:ζ) (dx:Option Ε):Prop:=∃ oe vs,h.get? a=some oe∧(oe.cls=cls∧oe.dict=dx)∧oe.data = .fields vs∧vs[1]? = some .none
def XR (W:Wd) (z:Z) (c:Nat) (l:List D) (cls:ζ) (dx:Option Ε):Prop:=∃ i,W.ci[c]? = some i∧W.what[c]? = some 2∧cls = .ref i.ad∧l.length≤i.nm.length ∧
 ((l = []∧dx=none)∨∃ d od vs,dx=some d∧z.G d=some od∧NsO od (i.nm.zip vs)∧RDs W z.ρ z.G l vs)
def Nob (X:Cx) (z z':Z) (a:Ε):Prop:=z.h a=none∧Fre X z' a∧¬ Own z' a
def XO (X:Cx) (z z':Z) (c:Nat) (l:List D) (e:ζ):Prop:=∃ a cls dx,e = .ref a∧XR X.W z' c l cls dx∧Nob X z z' a ∧
 (Rw z'.s.heap a cls dx∨∃ T fl,Tr z'.s.heap a cls dx T fl∧(fl = .none∨fl=Ì X.env.locals)∧Nob X z z' T)
theorem XO.less (h:XO X z1 z' c l e) (k:∀ a,z1.h a=none→z.h a=none):XO X z z' c l e:=by
 obtain ⟨a,cls,dx,e,r,n,h⟩:=h
 exact ⟨a,cls,dx,e,r,⟨k a n.1,n.2⟩,h.imp_right fun ⟨T,fl,t,q,n⟩=>⟨T,fl,t,q,k T n.1,n.2⟩⟩
section
variable {α β γ δ:Type} {X:Cx}
def Pe (X:Cx) (z:Z) (o:Out α) (R:Z→α→β→Prop) (u:β) (s':ξ):Prop:=∃ z' d,z'.s=s'∧o = .ok d z'.t∧Ee X z z'∧Rep X z'∧R z' d u
def Px (X:Cx) (z:Z) (o:Out α) (x:ζ) (s':ξ):Prop:=∃ z' c l,z'.s=s'∧o = .exc c l z'.t∧Ee X z z'∧Rep X z'∧XO X z z' c l x
abbrev Wp (X:Cx) (t:Dh β) (z:Z) (o:Out α) (R:Z→α→β→Prop):Prop:=χ X.M X.A t (Pe X z o R) (Px X z o) z.s
def Jg (X:Cx) (t:Dh β) (m:Sta→Out α) (R:Z→α→β→Prop):Prop:=∀ z,Rep X z→m z.t≠.bad→Wp X t z (m z.t) R
theorem Pe.less {z1:Z} {o:Out α} {R:Z→α→β→Prop} (x:Ee X z z1) (h:Pe X z1 o R u s'):Pe X z o R u s':=let ⟨z',d,e,q,y,r⟩:=h;⟨z',d,e,q,x.trans y,r⟩
theorem Px.less {z1:Z} {o:Out α} (x:Ee X z z1) (h:Px X z1 o u s'):Px X z o u s':=let ⟨z',c,l,e,q,y,r,n⟩:=h;⟨z',c,l,e,q,x.trans y,r,n.less fun _=>x.st.no⟩
theorem Px.map {o:Out α} {f:α→Sta→Out γ} (h:Px X z o u s'):Px X z (o.bind f) u s':=let ⟨z',c,l,e,q,r⟩:=h;⟨z',c,l,e,by rw [q];rfl,r⟩
theorem Wp.less {t:Dh β} {z1:Z} {o:Out α} {R:Z→α→β→Prop} (x:Ee X z z1) (h:Wp X t z1 o R):χ X.M X.A t (Pe X z o R) (Px X z o) z1.s:=Υ h (fun _ _ h=>h.less x) fun _ _ h=>h.less x
theorem Jg.go {t:Dh β} {m:Sta→Out α} {R:Z→α→β→Prop} {f:α→Sta→Out γ} {o:Out γ} {K:β→ξ→Prop} (h:Jg X t m R) (x:Ee X z z1) (I:Rep X z1) (e:o=(m z1.t).bind f) (nb:o≠.bad)
 (k:∀ z2 d u,Ee X z1 z2→Ee X z z2→Rep X z2→R z2 d u→o=f d z2.t→K u z2.s):χ X.M X.A t K (Px X z o) z1.s:=by
 subst e
 refine Υ (h z1 I fun q=>nb (by rw [q];rfl)) (fun u s' ⟨z2,d,e,q,y,I1,r⟩=>?_) fun u s' h=>(h.less x).map
 subst e;exact k z2 d u y (x.trans y) I1 r (by rw [q];rfl)
theorem Jg.at {t:Dh β} {m:Sta→Out α} {R:Z→α→β→Prop} {o:Out α} (h:Jg X t m R) (x:Ee X z z1) (I:Rep X z1) (e:o=m z1.t) (nb:o≠.bad):χ X.M X.A t (Pe X z o R) (Px X z o) z1.s:=by subst e;exact (h z1 I nb).less x
def Dn (X:Cx) (z:Z) (d:D) (u:ζ) (s':ξ):Prop:=Gr z.s s'∧RD X.W z.ρ (z.up s').G d u
theorem Dn.pe (I:Rep X z) (h:Dn X z d u s'):Pe X z (.ok d z.t) (RV X.W br c) u s':=⟨z.up s',d,rfl,rfl,(cG I.gh h.1).ee,I.grow (cG I.gh h.1),.of h.2⟩
theorem Dn.flat {s':ξ} (g:Gr z.s s') (h:∀ G,RD X.W z.ρ G d u):Dn X z d u s':=⟨g,h _⟩
theorem Dn.old (I:Rep X z) {s':ξ} (g:Gr z.s s') (h:RD X.W z.ρ z.G d u):Dn X z d u s':=⟨g,h.mono (κ _) (cG I.gh g).gg⟩
theorem Dn.at (x:Ee X z0 z) (I:Rep X z) (e:o = .ok d z.t) (h:Dn X z d u s'):Pe X z0 o (RV X.W br c) u s':=e ▸ (h.pe I).less x
theorem cR {t:Dh ζ} {o:Out D} (x:Ee X z0 z) (I:Rep X z) (e:o=Out.of z.t od) (nb:o≠.bad) (h:∀ d,od=some d→χ X.M X.A t (Dn X z d) (fun _ _=>False) z.s):χ X.M X.A t (Pe X z0 o (RV X.W br c)) (Px X z0 o) z.s:=by
 cases od with
 | none=>exact ZX e nb
 | some d=>exact Υ (h d rfl) (fun _ _ h=>h.at x I e) fun _ _ z=>z.elim
end
theorem big (h:n≤100000):n≤Ϣ:=ϰ h (by rw [ă];decide)
theorem jr:∀ {ds es} {b},cI f ds es=some b→(∀ j (h1:j<ds.length) (h2:j<es.length),∃ c,f ds[j] es[j]=some c)∧b=(Ñ (min ds.length es.length)).all fun j=>(f (ds[j]?.getD .non) (es[j]?.getD .non)).getD false
 | [],es,b,h=>by cases h;exact ⟨fun j h=>ZX h (ŕ _),by simp⟩
 | d :: ds,[],b,h=>by cases h;exact ⟨fun j _ h=>ZX h (ŕ _),by simp⟩
 | d :: ds,e :: es,b,h=>by
   unfold cI at h
   cases q:f d e with
   | none=>rw [q] at h;cases h
   | some x=>
     rw [q] at h
     cases q2:cI f ds es with
     | none=>rw [q2] at h;cases h
     | some y=>
       rw [q2] at h
       cases h
       obtain ⟨i1,i2⟩:=jr q2
       refine ⟨fun j h1 h2=>?_,?_⟩
       ·cases j with
        | zero=>exact ⟨x,q⟩
        | succ j=>exact i1 j (ő h1) (ő h2)
       ·have m:min (d :: ds).length (e :: es).length=min ds.length es.length+1:=by simp only [Ι];omega
        rw [m,List.range_succ_eq_map,List.all_cons,List.all_map,i2]
        simp only [BK,A4,q]
        rfl
theorem wZ (f:sh d=1):∃ l,d = .tup l:=by cases d <;> first | exact ⟨_,rfl⟩ | cases f
theorem wY (f:sh d=2):∃ l,d = .lst l:=by cases d <;> first | exact ⟨_,rfl⟩ | cases f
theorem uR (d:D):sh d<4:=by cases d <;> exact Θ rfl
theorem w7:∀ x y:Fin 4,¬ (x.1=3∨y.1=3)→¬ (x.1=0∧y.1=0)→¬ x.1=y.1→(x.1=0∧(y.1=1∨y.1=2))∨((x.1=1∨x.1=2)∧y.1=0)∨(x.1=1∧y.1=2)∨(x.1=2∧y.1=1):=by decide +kernel
theorem oP (h:eq0 d e=some b):(sh d=0∧sh e=0∧b=eqf d e)∨(b=false∧((sh d=0∧(sh e=1∨sh e=2))∨((sh d=1∨sh d=2)∧sh e=0)∨(sh d=1∧sh e=2)∨(sh d=2∧sh e=1))):=by
 unfold eq0 at h
 split at h
 ·cases h
 ·rename_i h3
  split at h
  ·rename_i h0;cases h;exact .inl ⟨h0.1,h0.2,rfl⟩
  ·split at h
   ·cases h
   ·cases h
    refine .inr ⟨rfl,?_⟩
    rename_i h0 h1
    exact w7 ⟨sh d,uR d⟩ ⟨sh e,uR e⟩ h3 h0 h1
theorem mY (h:eqv (n+1) d e=some b):(∃ da db y,d = .tup da∧e = .tup db∧cI (eqv n) da db=some y∧b=(y && da.length == db.length)) ∨
 (∃ da db,d = .lst da∧e = .lst db∧((da.length=db.length∧cI (eqv n) da db=some b)∨(da.length≠db.length∧b=false)))∨eq0 d e=some b:=by
 cases d with
 | tup da=>cases e with
   | tup db=>
     obtain ⟨y,a,c⟩:=π.mp (show (cI (eqv n) da db).map (· && da.length == db.length)=some b from h)
     exact .inl ⟨da,db,y,rfl,rfl,a,c.symm⟩
   | _=>exact .inr (.inr h)
 | lst da=>cases e with
   | lst db=>
     have h':(if da.length=db.length then cI (eqv n) da db else some false)=some b:=h
     split at h'
     ·rename_i z;exact .inr (.inl ⟨da,db,rfl,rfl,.inl ⟨z,h'⟩⟩)
     ·rename_i z;cases h';exact .inr (.inl ⟨da,db,rfl,rfl,.inr ⟨z,rfl⟩⟩)
   | _=>exact .inr (.inr h)
 | _=>exact .inr (.inr h)
open SeqAt
def E3 (A:ϑ) (s:ξ) (u v:ζ) (b:Bool):Prop:=EqAt A s u v b∧RcAt A s u v b∧RcNeAt A s u v (!b)
theorem rK (f1:sh d=0) (f2:sh e=0) (h1:RD W ρ G d u) (h2:RD W ρ G e v):(u=v→eqf d e=true)∧∀ A s,E3 A s u v (eqf d e):=by
 cases d with
 | non=>
   cases (show u=Ϙ from h1)
   cases e with
   | non=>cases (show v=Ϙ from h2);exact ⟨fun _=>rfl,fun A s=>⟨.same _,.none_none,.none_none⟩⟩
   | bl b=>cases (show v=Ý b from h2);exact ⟨nofun,fun A s=>⟨.none_bool _,.none_bool _,.none_bool _⟩⟩
   | int b=>obtain ⟨t,rfl⟩:=(show ∃ t,v=ą b t from h2);exact ⟨nofun,fun A s=>⟨.none_int _ _,.none_int _ _,.none_int _ _⟩⟩
   | str b=>obtain ⟨t,rfl⟩:=(show ∃ t,v=Value.str b t from h2);exact ⟨nofun,fun A s=>⟨.none_str _ _,.none_str _ _,.none_str _ _⟩⟩
   | _=>cases f2
 | bl a=>
   cases (show u=Ý a from h1)
   cases e with
   | non=>cases (show v=Ϙ from h2);exact ⟨nofun,fun A s=>⟨.bool_none _,.bool_none _,.bool_none _⟩⟩
   | bl b=>cases (show v=Ý b from h2);exact ⟨fun z=>by cases z;exact ZT a,fun A s=>⟨.bool_bool _ _,.bool_bool _ _,.bool_bool _ _⟩⟩
   | int b=>obtain ⟨t,rfl⟩:=(show ∃ t,v=ą b t from h2);exact ⟨nofun,fun A s=>⟨.bool_int _ _ _,.bool_int _ _ _,.bool_int _ _ _⟩⟩
   | str b=>obtain ⟨t,rfl⟩:=(show ∃ t,v=Value.str b t from h2);exact ⟨nofun,fun A s=>⟨.bool_str _ _ _,.bool_str _ _ _,.bool_str _ _ _⟩⟩
   | _=>cases f2
 | int a=>
   obtain ⟨t,rfl⟩:=(show ∃ t,u=ą a t from h1)
   cases e with
   | non=>cases (show v=Ϙ from h2);exact ⟨nofun,fun A s=>⟨.int_none _ _,.int_none _ _,.int_none _ _⟩⟩
   | bl b=>cases (show v=Ý b from h2);exact ⟨nofun,fun A s=>⟨.int_bool _ _ _,.int_bool _ _ _,.int_bool _ _ _⟩⟩
   | int b=>obtain ⟨t,rfl⟩:=(show ∃ t,v=ą b t from h2);exact ⟨fun z=>by cases z;exact ZT a,fun A s=>⟨.int_int _ _ _ _,.int_int _ _ _ _,.int_int _ _ _ _⟩⟩
   | str b=>obtain ⟨t,rfl⟩:=(show ∃ t,v=Value.str b t from h2);exact ⟨nofun,fun A s=>⟨.int_str _ _ _ _,.int_str _ _ _ _,.int_str _ _ _ _⟩⟩
   | _=>cases f2
 | str a=>
   obtain ⟨t,rfl⟩:=(show ∃ t,u=Value.str a t from h1)
   cases e with
   | non=>cases (show v=Ϙ from h2);exact ⟨nofun,fun A s=>⟨.str_none _ _,.str_none _ _,.str_none _ _⟩⟩
   | bl b=>cases (show v=Ý b from h2);exact ⟨nofun,fun A s=>⟨.str_bool _ _ _,.str_bool _ _ _,.str_bool _ _ _⟩⟩
   | int b=>obtain ⟨t,rfl⟩:=(show ∃ t,v=ą b t from h2);exact ⟨nofun,fun A s=>⟨.str_int _ _ _ _,.str_int _ _ _ _,.str_int _ _ _ _⟩⟩
   | str b=>obtain ⟨t,rfl⟩:=(show ∃ t,v=Value.str b t from h2);exact ⟨fun z=>by cases z;exact ZT a,fun A s=>⟨.str_str _ _ _ _,.str_str _ _ _ _,.str_str _ _ _ _⟩⟩
   | _=>cases f2
 | _=>cases f1
theorem iq {s:ξ} (f:sh d=0) (h:RD W ρ G d u) (hu:A.units<ś):(∀ b,u≠.ref b)∧∀ b its,(s.heap.IsTuple b its∨s.heap.IsList b its)→E3 A s u (.ref b) false∧E3 A s (.ref b) u false:=by
 cases d with
 | non=>cases (show u=Ϙ from h);exact ⟨nofun,fun b its p=>p.elim (fun p=>⟨⟨.none_tuple p hu,.none_tuple p hu,.none_tuple p hu⟩,.tuple_none p hu,.tuple_none p hu,.tuple_none p hu⟩) fun p=>⟨⟨.none_list p hu,.none_list p hu,.none_list p hu⟩,.list_none p hu,.list_none p hu,.list_none p hu⟩⟩
 | bl k=>cases (show u=Ý k from h);exact ⟨nofun,fun b its p=>p.elim (fun p=>⟨⟨.bool_tuple k p hu,.bool_tuple k p hu,.bool_tuple k p hu⟩,.tuple_bool k p hu,.tuple_bool k p hu,.tuple_bool k p hu⟩) fun p=>⟨⟨.bool_list k p hu,.bool_list k p hu,.bool_list k p hu⟩,.list_bool k p hu,.list_bool k p hu,.list_bool k p hu⟩⟩
 | int k=>obtain ⟨t,rfl⟩:=(show ∃ t,u=ą k t from h);exact ⟨nofun,fun b its p=>p.elim (fun p=>⟨⟨.int_tuple k t p hu,.int_tuple k t p hu,.int_tuple k t p hu⟩,.tuple_int k t p hu,.tuple_int k t p hu,.tuple_int k t p hu⟩) fun p=>⟨⟨.int_list k t p hu,.int_list k t p hu,.int_list k t p hu⟩,.list_int k t p hu,.list_int k t p hu,.list_int k t p hu⟩⟩
 | str k=>obtain ⟨t,rfl⟩:=(show ∃ t,u=Value.str k t from h);exact ⟨nofun,fun b its p=>p.elim (fun p=>⟨⟨.str_tuple k t p hu,.str_tuple k t p hu,.str_tuple k t p hu⟩,.tuple_str k t p hu,.tuple_str k t p hu,.tuple_str k t p hu⟩) fun p=>⟨⟨.str_list k t p hu,.str_list k t p hu,.str_list k t p hu⟩,.list_str k t p hu,.list_str k t p hu,.list_str k t p hu⟩⟩
 | _=>cases f
theorem CR.fl (f:sh d=0) (h:CR W z d u):RD W z.ρ z.G d u:=by cases d <;> first | exact h | cases f
theorem tpt {h:ϯ} (e:h.get? a=some o) (t:TpO o l):h.IsTuple a l.toArray:=⟨o,e,t.1,t.2.1⟩
theorem lsl {h:ϯ} (e:h.get? a=some o) (t:LsO o l):h.IsList a l.toArray:=by obtain ⟨⟨n,rfl⟩,_⟩:=t;exact ⟨_,e,rfl,n,rfl⟩
theorem E3.refs (ne:l=b→k=true) (h:RcAt A s (.ref l) (.ref b) k) (h2:RcNeAt A s (.ref l) (.ref b) (!k)):E3 A s (.ref l) (.ref b) k:=by
 refine ⟨?_,h,h2⟩
 by_cases q:l=b
 ·subst q;rw [ne rfl];exact .same _
 ·exact .of_refs q h
theorem e3 (I:HR X z):∀ (n:Nat) {d e u v b},eqv n d e=some b→CR X.W z d u→CR X.W z e v→(u=v→b=true)∧∀ A,A.units+n+1<ś→E3 A z.s u v b:=by
 have low:∀ {d e u v b},eq0 d e=some b→CR X.W z d u→CR X.W z e v→(u=v→b=true)∧∀ A,A.units<ś→E3 A z.s u v b:=by
  intro d e u v b h h1 h2
  have it:∀ {d:D} {u:ζ},(sh d=1∨sh d=2)→CR X.W z d u→∃ a its,u = .ref a∧((sh d=1∧z.s.heap.IsTuple a its)∨(sh d=2∧z.s.heap.IsList a its)):=fun {d u} f h=>by
   rcases f with f | f
   ·obtain ⟨l,rfl⟩:=wZ f;obtain ⟨a,o,vs,rfl,e,t,_⟩:=h;exact ⟨a,_,rfl,.inl ⟨rfl,tpt (I.gh _ _ e) t⟩⟩
   ·obtain ⟨l,rfl⟩:=wY f;obtain ⟨a,o,vs,rfl,e,t,_⟩:=h;exact ⟨a,_,rfl,.inr ⟨rfl,lsl e t⟩⟩
  rcases oP h with ⟨f1,f2,rfl⟩ | ⟨rfl,c⟩
  ·obtain ⟨p,q⟩:=rK f1 f2 (h1.fl f1) (h2.fl f2);exact ⟨p,fun A _=>q A _⟩
  ·rcases c with ⟨c1,c2⟩ | ⟨c1,c2⟩ | ⟨c1,c2⟩ | ⟨c1,c2⟩
   ·obtain ⟨a,its,rfl,w⟩:=it c2 h2
    have w:=w.imp B4 B4
    exact ⟨fun q=>ZX q ((iq (s:=z.s) (A:={ }) c1 (h1.fl c1) (by decide)).1 a),fun A hu=>((iq c1 (h1.fl c1) hu).2 a its w).1⟩
   ·obtain ⟨a,its,rfl,w⟩:=it c1 h1
    have w:=w.imp B4 B4
    exact ⟨fun q=>ZX q.symm ((iq (s:=z.s) (A:={ }) c2 (h2.fl c2) (by decide)).1 a),fun A hu=>((iq c2 (h2.fl c2) hu).2 a its w).2⟩
   ·obtain ⟨a,i1,rfl,w1⟩:=it (.inl c1) h1
    obtain ⟨b,i2,rfl,w2⟩:=it (.inr c2) h2
    have w1:=w1.resolve_right fun z=>by omega
    have w2:=w2.resolve_left fun z=>by omega
    exact ⟨fun q=>ZX (č q).symm (ne_of_list_tuple w2.2 w1.2),fun A hu=>⟨.tuple_list w1.2 w2.2 hu,.tuple_list w1.2 w2.2 hu,.tuple_list w1.2 w2.2 hu⟩⟩
   ·obtain ⟨a,i1,rfl,w1⟩:=it (.inr c1) h1
    obtain ⟨b,i2,rfl,w2⟩:=it (.inl c2) h2
    have w1:=w1.resolve_left fun z=>by omega
    have w2:=w2.resolve_right fun z=>by omega
    exact ⟨fun q=>ZX (č q) (ne_of_list_tuple w1.2 w2.2),fun A hu=>⟨.list_tuple w1.2 w2.2 hu,.list_tuple w1.2 w2.2 hu,.list_tuple w1.2 w2.2 hu⟩⟩
 intro n
 induction n with
 | zero=>intro d e u v b h h1 h2;obtain ⟨p,q⟩:=low h h1 h2;exact ⟨p,fun A hu=>q A (by omega)⟩
 | succ n ih=>
   intro d e u v b h h1 h2
   have items:∀ {da db:List D} {vs ws:List ζ} {y:Bool},cI (eqv n) da db=some y→RDs X.W z.ρ z.G da vs→RDs X.W z.ρ z.G db ws→(vs=ws→y=true)∧∃ f:Nat→Bool,(Ñ (min vs.toArray.size ws.toArray.size)).all f=y∧∀ A,A.units+n+1<ś→∀ j (h1:j<vs.toArray.size) (h2:j<ws.toArray.size),EqAt A z.s vs.toArray[j] ws.toArray[j] (f j):=by
    intro da db vs ws y q r1 r2
    obtain ⟨q1,q2⟩:=jr q
    have l3:=r1.len
    have l4:=r2.len
    have one:∀ j (h1:j<vs.length) (h2:j<ws.length),∃ c,(eqv n (da[j]?.getD .non) (db[j]?.getD .non)).getD false=c∧(vs[j]=ws[j]→c=true)∧∀ A,A.units+n+1<ś→EqAt A z.s vs[j] ws[j] c:=fun j h1 h2=>by
     have e1:=φ (l:=da) (i:=j) (by omega)
     have e2:=φ (l:=db) (i:=j) (by omega)
     obtain ⟨x1,f1,w1⟩:=r1.get e1
     obtain ⟨y1,f2,w2⟩:=r2.get e2
     rw [φ h1] at f1;rw [φ h2] at f2;cases f1;cases f2
     obtain ⟨c,hc⟩:=q1 j (by omega) (by omega)
     obtain ⟨p,q⟩:=ih hc (.of I w1) (.of I w2)
     exact ⟨c,by rw [e1,e2];simp only [A4,hc],p,fun A hu=>(q A hu).1⟩
    refine ⟨fun q=>?_,fun j=>(eqv n (da[j]?.getD .non) (db[j]?.getD .non)).getD false,?_,fun A hu j h1 h2=>?_⟩
    ·subst q
     rw [q2,ϝ]
     intro j hj
     have hj:=Ĥ.mp hj
     obtain ⟨c,e,p,_⟩:=one j (by omega) (by omega)
     rw [e];exact p rfl
    ·rw [q2,Μ,Μ,← l3,← l4]
    ·rw [Μ] at h1 h2
     obtain ⟨c,e,_,p⟩:=one j h1 h2
     show EqAt A z.s vs[j] ws[j] ((eqv n (da[j]?.getD .non) (db[j]?.getD .non)).getD false)
     rw [e];exact p A hu
   rcases mY h with ⟨da,db,y,rfl,rfl,q,rfl⟩ | ⟨da,db,rfl,rfl,q⟩ | h
   ·obtain ⟨a,o,vs,rfl,t,to,r1⟩:=h1
    obtain ⟨a',o',ws,rfl,t',to',r2⟩:=h2
    obtain ⟨sm,f,val,its⟩:=items q r1 r2
    have l3:=r1.len
    have l4:=r2.len
    have same:a=a'→(y && da.length == db.length)=true:=fun z=>by
     subst z
     rw [t] at t';cases t'
     obtain ⟨n1,e1⟩:=to.2.1
     obtain ⟨n2,e2⟩:=to'.2.1
     rw [e1] at e2
     injection e2 with e2
     have e:vs=ws:=by simpa using ZS DG e2
     rw [sm e,l3,l4,e];simp
    have lz:(vs.toArray.size == ws.toArray.size)=(da.length == db.length):=by rw [l3,l4];rfl
    refine ⟨fun z=>same (č z),fun A hu=>.refs same ?_ ?_⟩
    ·rw [← val,← lz];exact .tuples (tpt (I.gh _ _ t) to) (tpt (I.gh _ _ t') to') (by omega) (its _ (show A.units+1+n+1<ś by omega))
    ·rw [← val,← lz];exact .tuples (tpt (I.gh _ _ t) to) (tpt (I.gh _ _ t') to') (by omega) (its _ (show A.units+1+n+1<ś by omega))
   ·obtain ⟨a,o,vs,rfl,t,to,r1⟩:=h1
    obtain ⟨a',o',ws,rfl,t',to',r2⟩:=h2
    have l3:=r1.len
    have l4:=r2.len
    have sv:a=a'→vs=ws:=fun z=>by
     subst z
     rw [t] at t';cases t'
     obtain ⟨⟨n1,rfl⟩,_⟩:=to
     obtain ⟨⟨n2,e2⟩,_⟩:=to'
     injection e2 with _ _ e2
     injection e2 with e2
     simpa using ZS DG e2
    rcases q with ⟨hl,q⟩ | ⟨hl,rfl⟩
    ·obtain ⟨sm,f,val,its⟩:=items q r1 r2
     have m:min vs.toArray.size ws.toArray.size=vs.toArray.size:=by simp;omega
     rw [m] at val
     refine ⟨fun z=>sm (sv (č z)),fun A hu=>.refs (fun z=>sm (sv z)) ?_ ?_⟩
     ·rw [← val];exact .lists (lsl t to) (lsl t' to') (by simp;omega) (by omega) (its _ (show A.units+1+n+1<ś by omega))
     ·rw [← val];exact .lists (lsl t to) (lsl t' to') (by simp;omega) (by omega) (its _ (show A.units+1+n+1<ś by omega))
    ·have ne:a=a'→false=true:=fun z=>by rw [sv z] at l3;omega
     exact ⟨fun z=>ne (č z),fun A hu=>.refs ne (.lists_lengths (lsl t to) (lsl t' to') (by simp;omega) (by omega)) (.lists_lengths (lsl t to) (lsl t' to') (by simp;omega) (by omega))⟩
   ·obtain ⟨p,q⟩:=low h h1 h2;exact ⟨p,fun A hu=>q A (by omega)⟩
theorem lE:∀ {l} {b},inD d l=some b→(∀ j (h:j<l.length),∃ c,eqv 55 l[j] d=some c)∧b=l.any fun e=>(eqv 55 e d).getD false
 | [],b,h=>by cases h;exact ⟨fun j h=>ZX h (ŕ _),rfl⟩
 | e :: r,b,h=>by
   unfold inD at h
   cases q:eqv 55 e d with
   | none=>rw [q] at h;cases h
   | some x=>
     rw [q] at h
     obtain ⟨y,q2,rfl⟩:=π.mp h
     obtain ⟨i1,i2⟩:=lE q2
     refine ⟨fun j h=>?_,by rw [List.any_cons,q,i2];rfl⟩
     cases j with
     | zero=>exact ⟨x,q⟩
     | succ j=>exact i1 j (ő h)
theorem dL (I:HR X z) (hu:A.units+57<ś) (q:inD d l=some b) (r:RDs X.W z.ρ z.G l vs) (hd:CR X.W z d v):∃ e:ζ→Bool,(∀ y,y∈vs.toArray→EqAt A z.s y v (e y))∧vs.toArray.any e=b:=by
 obtain ⟨q1,q2⟩:=lE q
 have l3:=r.len
 have eqs:∀ j (h1:j<vs.length) (h2:j<l.length),EqAt A z.s vs[j] v ((eqv 55 l[j] d).getD false):=fun j h1 h2=>by
  obtain ⟨x1,e1,w1⟩:=r.get (φ h2)
  rw [φ h1] at e1;cases e1
  obtain ⟨c,hc⟩:=q1 j h2
  rw [hc]
  exact ((e3 I 55 hc (.of I w1) hd).2 A (by omega)).1
 have cl:∀ y,Decidable (∃ j,∃ (h1:j<vs.length) (h2:j<l.length),vs[j]=y∧(eqv 55 l[j] d).getD false=true):=fun y=>Classical.propDecidable _
 refine ⟨fun y=>@decide _ (cl y),fun y hy=>?_,?_⟩
 ·rcases Classical.em (∃ j,∃ (h1:j<vs.length) (h2:j<l.length),vs[j]=y∧(eqv 55 l[j] d).getD false=true) with c | c
  ·obtain ⟨j,h1,h2,e,t⟩:=id c
   have w:=eqs j h1 h2
   rw [e,t] at w
   dsimp only
   rw [show @decide _ (cl y)=true from @ZW _ (cl y) c]
   exact w
  ·obtain ⟨j,h1,e⟩:=Ci (by simpa using hy)
   have w:=eqs j h1 (by omega)
   have t:(eqv 55 l[j] d).getD false=false:=CS.mpr fun t=>c ⟨j,h1,by omega,e,t⟩
   rw [t,e] at w
   dsimp only
   rw [show @decide _ (cl y)=false from @ZV _ (cl y) c]
   exact w
 ·rw [q2,List.any_toArray,Bool.eq_iff_iff,Ï,Ï]
  constructor
  ·rintro ⟨y,hy,t⟩
   obtain ⟨j,h1,h2,e,t⟩:=@of_decide_eq_true _ (cl _) t
   exact ⟨l[j],þ h2,t⟩
  ·rintro ⟨e,he,t⟩
   obtain ⟨j,h2,rfl⟩:=Ci he
   exact ⟨vs[j]'(by omega),þ _,@ZW _ (cl _) ⟨j,by omega,h2,rfl,t⟩⟩
end L2.Ev
end
section
namespace HT
section
variable {prog:ϱ} {w:Ð} {A:ϑ} {E:ζ→ξ→Prop} {s:ξ}
theorem getItem_tuple_all {lo hi:Option Int} {Q:ζ→ξ→Prop} (ht:IsTup s.heap t items) (hs:s.heap.IsSliceOf sl vl vu .none) (pl:ż vl lo) (pu:ż vu hi)
 (hw:sIx items.size 0 lo=0∧sIx items.size items.size hi=items.size) (h:Q (.ref t) s):χ (model prog w) A (Bd (.ref t) (.ref sl)) Q E s:=by
 obtain ⟨os,hos,hcs,hds⟩:=id hs
 have hTs:s.TypeIs (.ref sl) "slice":=⟨os,hos,hcs⟩
 unfold Bd
 try with_reducible refine ό ?_
 first | refine ε (θ ?_) | skip
 refine ε (B8 ht.typeIs (by decide) ?_)
 refine ε (Ϸ (name:=Þ "__getitem__") ht.typeIs Ò
  (Õ Ò ht.typeIs Dc ?_ (Dx _ _)))
 show χ _ _ (ŭ (.ref t) >>= _) _ _ s
 refine ε (Cd ht ?_)
 refine ε (CC hTs ?_)
 rw [ZZ (by decide)]
 refine ε (cz hs pl pu ?_)
 have hyes:(((sIx items.size 0 lo:Nat):Int) == 0 && (1:Int) == 1 && (sIx items.size items.size hi - sIx items.size 0 lo) == items.size)=true:=by
  rw [hw.1,hw.2]
  simp
 show χ _ _ (if (((sIx items.size 0 lo:Nat):Int) == 0 && (1:Int) == 1 && (sIx items.size items.size hi - sIx items.size 0 lo) == items.size)=true then _ else _) _ _ s
 rw [ZZ hyes]
 show χ _ _ (Ů (.ref t) >>= _) _ _ s
 refine ε ?_
 unfold Ů
 refine ε (CC ht.typeIs (θ ?_))
 rw [ZZ (by decide)]
 refine ε (AS ?_)
 first
  | exact θ ⟨_,rfl,θ h⟩
  | exact ε (θ (θ ⟨_,rfl,θ h⟩))
  | exact ε (ε (θ (θ ⟨_,rfl,θ h⟩)))
end
end HT
namespace L2.Ev
abbrev NoE:ζ→ξ→Prop:=fun _ _=>False
theorem bo {c:Prop} [Decidable c] {a d:α} (e:(if c then some a else none)=some d):c∧a=d:=by
 by_cases h:c
 ·rw [ZZ h] at e;exact ⟨h,ϭ e⟩
 ·rw [ZY h] at e;cases e
section
variable {X:Cx} {z:Z}
theorem aD (z:Z):z.h z.s.heap.objs.size=none:=ϣ (Ο _)
theorem Dn.tok {n:Nat} (h:∀ W ρ G,RD W ρ G d u):Dn X z d u { z.s with toks:=n }:=⟨.tok,h ..⟩
theorem Dn.tup (I:Rep X z) (r:RDs X.W z.ρ z.G l vs) (g:Gr z.s s') (n:z.h a=none) (e:s'.heap.get? a=some o) (t:TpO o vs):Dn X z (.tup l) (.ref a) s':=
 ⟨g,a,o,vs,rfl,(ja n).trans e,t,r.mono (κ _) (cG I.gh g).gg⟩
theorem qU (hz:vs.length≤Ϣ):TpO { cls:=.type "tuple",data:=.seq vs.toArray n } vs:=⟨rfl,⟨n,rfl⟩,hz,rfl⟩
theorem Dn.tupn (I:Rep X z) (r:RDs X.W z.ρ z.G l vs) (hz:vs.length≤Ϣ) {n t:Nat}:Dn X z (.tup l) (.ref z.s.heap.objs.size) { z.s with heap:=z.s.heap.push { cls:=.type "tuple",data:=.seq vs.toArray n },toks:=t }:=
 .tup I r .push (aD z) (ψ _ rfl) (qU hz)
def Dw (X:Cx) (z:Z) (d:D) (u:ζ) (s':ξ):Prop:=Gr z.s s'∧∃ a o,u = .ref a∧z.h a=none∧toO d=some o∧ObR X.W z.ρ z.G s'.heap.get? (a,a) o
theorem Dw.dn (I:Rep X z) (h:Dw X z d u s'):Dn X z d u s':=by
 obtain ⟨g,a,o,rfl,n,e,r⟩:=h
 exact ⟨g,iU e r (cG I.gh g).gg (ja n)⟩
def FV (X:Cx) (z0 z:Z) (d:D) (u:ζ):Prop:=∃ a o,u = .ref a∧z0.h a=none∧toO d=some o∧ObR X.W z.ρ z.G z.h (a,a) o∧Fre X z a∧¬ Own z a
theorem Dw.pe (I:Rep X z) (h:Dw X z d u s'):Pe X z (.ok d z.t) (FV X z) u s':=by
 obtain ⟨g,a,o,rfl,n,e,r⟩:=h
 have f:=I.fre n
 exact ⟨{ z with s:=s' },d,rfl,rfl,(aw I.gh g).ee,I.grow (aw I.gh g),a,o,rfl,n,e,r,f⟩
theorem Dw.lst (r:RDs X.W z.ρ z.G l vs) (g:Gr z.s s') (n:z.h a=none) (e:s'.heap.get? a=some { cls:=.type "list",data:=.seq vs.toArray k }) (hz:vs.length≤Ϣ):Dw X z (.lst l) (.ref a) s':=⟨g,a,.lst l,rfl,n,rfl,_,vs,rfl,e,⟨⟨k,rfl⟩,hz⟩,r⟩
theorem Dw.lstn (r:RDs X.W z.ρ z.G l vs) (hz:vs.length≤Ϣ) {n t:Nat}:Dw X z (.lst l) (.ref z.s.heap.objs.size) { z.s with heap:=z.s.heap.push { cls:=.type "list",data:=.seq vs.toArray n },toks:=t }:=.lst r .push (aD z) (ψ _ rfl) hz
def Op2 (X:Cx) (f:ζ→ζ→Dh ζ) (g:D→D→Option D):Prop:=∀ z u v d1 d2 d,Rep X z→CR X.W z d1 u→CR X.W z d2 v→g d1 d2=some d→χ X.M X.A (f u v) (Dn X z d) NoE z.s
theorem yj (ho:o≠.add∧o≠.eq∧o≠.ne∧o≠.isin∧o≠.notin∧o≠.eq2) (e:opD o d1 d2=some d):∃ i j,d1 = .int i∧d2 = .int j∧opI o i j=some d:=by
 obtain ⟨n1,n2,n3,n4,n5,n6⟩:=ho
 unfold opD at e
 split at e
 ·exact ZX rfl n6
 ·exact ZX rfl n2
 ·exact ZX rfl n3
 ·exact ZX rfl n4
 ·exact ZX rfl n5
 ·split at e
  ·exact ⟨_,_,rfl,rfl,e⟩
  all_goals first | (cases e;done) | (rw [ZY n1] at e;cases e)
theorem jQ {f:ζ→ζ→Dh ζ} (ho:o≠.add∧o≠.eq∧o≠.ne∧o≠.isin∧o≠.notin∧o≠.eq2)
 (rule:∀ (i j:Int) (t u:Tok) (d:D) (s:ξ) (Q:ζ→ξ→Prop),opI o i j=some d→(∀ (v:ζ) (n:Nat),(∀ W ρ G,RD W ρ G d v)→Q v { s with toks:=n })→χ X.M X.A (f (.int i t) (.int j u)) Q NoE s):Op2 X f (opD o):=fun z u v d1 d2 d I h1 h2 e=>by
 obtain ⟨i,j,rfl,rfl,e2⟩:=yj ho e
 obtain ⟨t,rfl⟩:=h1
 obtain ⟨t',rfl⟩:=h2
 exact rule i j t t' d z.s _ e2 fun v n h=>.tok h
theorem wR:Op2 X (Ŝ .Sub) (opD .sub):=jQ (by decide) fun _ _ _ _ _ _ _ e k=>by cases e;exact sub_int (k _ _ fun _ _ _=>⟨_,rfl⟩)
theorem wQ:Op2 X (Ŝ .Mult) (opD .mul):=jQ (by decide) fun _ _ _ _ _ _ _ e k=>by
 obtain ⟨c,rfl⟩:=bo e
 refine mul_int (k _ _ fun _ _ _=>⟨_,rfl⟩) ?_
 rcases c with h | ⟨h1,h2⟩
 ·exact uW.ok h
 ·exact mulOk_of_bits (m:=400) (n:=400) (intBits_le_iff.mpr h1) (intBits_le_iff.mpr h2) (by decide)
theorem tj:Op2 X (Ŝ .FloorDiv) (opD .fdiv):=jQ (by decide) fun i j _ _ _ _ _ e k=>by
 obtain ⟨⟨h1,h2⟩,rfl⟩:=bo e
 refine floordiv_int (by omega) (by rw [Int.fdiv_eq_ediv_of_nonneg i (by omega)];exact k _ _ fun _ _ _=>⟨_,rfl⟩) (.inl (PyProof.noPylong_of_log2 ?_))
 have h:j.natAbs.log2<200:=(Eh (by omega)).2 (by omega)
 omega
theorem wP:Op2 X (Ŝ .Mod) (opD .mod):=jQ (by decide) fun i j _ _ _ _ _ e k=>by
 obtain ⟨c,rfl⟩:=bo e
 exact mod_int' (by omega) (by rw [Int.fmod_eq_emod_of_nonneg i (by omega)];exact k _ _ fun _ _ _=>⟨_,rfl⟩)
theorem yI:Op2 X (û .Lt) (opD .lt):=jQ (by decide) fun _ _ _ _ _ s _ e k=>by cases e;exact lt_int (k _ s.toks fun _ _ _=>rfl)
theorem yH:Op2 X (û .LtE) (opD .le):=jQ (by decide) fun _ _ _ _ _ s _ e k=>by cases e;exact le_int (k _ s.toks fun _ _ _=>rfl)
theorem yF:Op2 X (û .Gt) (opD .gt):=jQ (by decide) fun _ _ _ _ _ s _ e k=>by cases e;exact gt_int (k _ s.toks fun _ _ _=>rfl)
theorem yE:Op2 X (û .GtE) (opD .ge):=jQ (by decide) fun _ _ _ _ _ s _ e k=>by cases e;exact ge_int (k _ s.toks fun _ _ _=>rfl)
theorem wM:Op2 X (Ŝ .Add) (opD .add):=fun z u v d1 d2 d I h1 h2 e=>by
 have chk:∀ {n:Nat} {a:D},cH n a=some d→n≤Ϣ∧a=d:=fun e=>let ⟨c,q⟩:=bo e;⟨big c,q⟩
 cases d1 with
 | int i=>cases d2 with
   | int j=>cases e;obtain ⟨t,rfl⟩:=h1;obtain ⟨t',rfl⟩:=h2;exact add_int (.tok fun _ _ _=>⟨_,rfl⟩)
   | _=>cases e
 | str i=>cases d2 with
   | str j=>obtain ⟨hz,rfl⟩:=chk e;obtain ⟨t,rfl⟩:=h1;obtain ⟨t',rfl⟩:=h2;exact add_str (fun t' tk=>.tok fun _ _ _=>⟨_,rfl⟩) hz
   | _=>cases e
 | tup a=>cases d2 with
   | tup b=>
     obtain ⟨hz,rfl⟩:=chk e
     obtain ⟨p,o1,vs,rfl,e1,t1,r1⟩:=id h1
     obtain ⟨q,o2,ws,rfl,e2,t2,r2⟩:=id h2
     have l1:=r1.len
     have l2:=r2.len
     have k1:=tpt (I.gh _ _ e1) t1
     have k2:=tpt (I.gh _ _ e2) t2
     cases vs with
     | nil=>
       cases (show a = [] from Ľ.mp l1)
       obtain ⟨⟨cls,dd,data,sl⟩,ho,hc,n,hd⟩:=id k1
       obtain ⟨⟨cls2,dd2,data2,sl2⟩,ho2,hc2,n2,hd2⟩:=id k2
       simp only at hc hd hc2 hd2
       subst hc hd hc2 hd2
       exact CG ⟨_,ho,rfl⟩ ⟨_,ho2,rfl⟩ By Ce Ĺ ĭ (Ī _ _) (tuple_addW0 p q #[] ws.toArray n n2 dd dd2 sl sl2 rfl) ⟨ho,ho2,.old I .refl h2⟩
     | cons v0 vs=>
       refine HT.cat_tup k1 k2 (by simp) (fun w=>?_) (fun _=>.tupn I (r1.app r2) (by rw [ω];omega)) (by omega)
       subst w
       cases (show b = [] from Ľ.mp l2)
       rw [ώ]
       exact .old I .refl h1
   | _=>cases e
 | lst a=>cases d2 with
   | lst b=>
     obtain ⟨hz,rfl⟩:=chk e
     obtain ⟨p,o1,vs,rfl,e1,⟨⟨n1,rfl⟩,_⟩,r1⟩:=h1
     obtain ⟨q,o2,ws,rfl,e2,⟨⟨n2,rfl⟩,_⟩,r2⟩:=h2
     have l1:=r1.len
     have l2:=r2.len
     refine PySem.P.add_list e1 e2 ?_ (by rw [Μ,Μ];omega)
     rw [show vs.toArray ++ ws.toArray=(vs ++ ws).toArray by simp]
     exact (Dw.lstn (r1.app r2) (by rw [ω];omega)).dn I
   | _=>cases e
 | _=>cases e
end
end L2.Ev
end
section
namespace L2.Ev
open PyProof.Rows.LSm
section
variable {X:Cx} {z:Z}
theorem iK (e:bv d=some k) (h:CR W z d u):(bt P w).is k u=true:=by
 cases d with
 | int i=>cases e;obtain ⟨t,rfl⟩:=h;exact jN P w i t
 | str i=>cases e;obtain ⟨t,rfl⟩:=h;exact jO P w i t
 | _=>cases e
theorem DcO.of {h:ϯ} (e:h.get? a=some o) (d:DcO W o l):h.DictOf (bt W.P W.w) a l:=let ⟨es,ep,x,y,a,b,c,_⟩:=d;⟨o,es,ep,e,x,y,a,b,c⟩
theorem d9:∀ {ks} {ds} {vs} {k:Key},ks.length=ds.length→RDs W ρ G ds vs→match cA ks ds k with | some d=>∃ v,ž (ks.zip vs) k=some v∧RD W ρ G d v | none=>ž (ks.zip vs) k=none
 | [],[],vs,k,_,_=>rfl
 | [],_ :: _,_,_,h,_=>by cases h
 | _ :: _,[],_,_,h,_=>by cases h
 | q :: ks,e :: ds,vs,k,h,r=>by
   obtain ⟨v,ws,rfl,r1,r2⟩:=r
   have ih:=d9 (k:=k) (ı h) r2
   unfold cA
   by_cases c:q=k
   ·rw [ZZ c];exact ⟨v,by simp [ž,D7,c],r1⟩
   ·rw [ZY c]
    have n:ž ((q :: ks).zip (v :: ws)) k=ž (ks.zip ws) k:=by simp [ž,D7,c]
    rw [n];exact ih
theorem qX (hl:ks.length=ds.length) (r:RDs W ρ G ds vs) (e:cA ks ds k=some d):∃ v,ž (ks.zip vs) k=some v∧RD W ρ G d v:=by have:=d9 (k:=k) hl r;rw [e] at this;exact this
theorem qW (hl:ks.length=ds.length) (r:RDs W ρ G ds vs):(ž (ks.zip vs) k).isSome=(cA ks ds k).isSome:=by
 have:=d9 (k:=k) hl r
 cases q:cA ks ds k with
 | none=>rw [q] at this;rw [this];rfl
 | some d=>rw [q] at this;obtain ⟨v,e,_⟩:=this;rw [e];rfl
theorem gW (h:eqT a b=some r):(∃ ks ds ls es,a = .dic ks ds∧b = .dic ls es∧∃ x,(ks.length=ls.length→pv ls es ks ds=some x)∧r=(ks.length == ls.length && x))∨eqv 55 a b=some r:=by
 unfold eqT at h
 split at h
 ·rename_i ks ds ls es
  refine .inl ⟨ks,ds,ls,es,rfl,rfl,?_⟩
  split at h
  ·rename_i c;exact ⟨r,fun _=>h,by simp [c]⟩
  ·rename_i c;cases h;exact ⟨false,fun z=>ZX z c,by simp⟩
 ·exact .inr h
theorem iB {A:ϑ} (I:HR X z) (un:A.units+56<ś) (hl2:ls.length=es.length) (r2:RDs X.W z.ρ z.G es ws):∀ {ks ds vs r},ks.length=ds.length→RDs X.W z.ρ z.G ds vs→pv ls es ks ds=some r→PySem.W.KeqHits A z.s (ls.zip ws) (ks.zip vs) r
 | [],ds,vs,r,_,_,h=>by cases h;exact .nil
 | k :: ks,[],vs,r,hl,_,h=>by cases hl
 | k :: ks,d :: ds,vs,r,hl,r1,h=>by
   obtain ⟨v,vs,rfl,h1,h2⟩:=r1
   unfold pv at h
   have q:=d9 (k:=k) hl2 r2
   cases e:cA ls es k with
   | none=>rw [e] at h q;cases h;exact .miss q
   | some y=>
     rw [e] at h q
     obtain ⟨w,e1,e2⟩:=q
     dsimp only at h
     cases e3':eqv 55 d y with
     | none=>rw [e3'] at h;cases h
     | some x=>
       rw [e3'] at h
       obtain ⟨b,hb,rfl⟩:=π.mp h
       exact .hit e1 (((e3 I 55 e3' (.of I h1) (.of I e2)).2 A (by omega)).1) (iB I un hl2 r2 (ı hl) h2 hb)
theorem yD:Op2 X (û .Eq) (opD .eq):=fun z u v d1 d2 d I h1 h2 e=>by
 obtain ⟨b,q,rfl⟩:=π.mp (show (eqT d1 d2).map D.bl=some d from e)
 rcases gW q with ⟨ks,ds,ls,es,rfl,rfl,x,q',rfl⟩ | q
 ·obtain ⟨a,o,vs,rfl,m,e1,c1,l1,r1⟩:=h1
  obtain ⟨a',o',ws,rfl,m',e2,c2,l2,r2⟩:=h2
  have n1:(ks.zip vs).length=ks.length:=by rw [À,← r1.len,l1,Ģ]
  have n2:(ls.zip ws).length=ls.length:=by rw [À,← r2.len,l2,Ģ]
  refine PySem.W.keq_eq m m' (c1.of e1) (c2.of e2) (by have:=I.ok.un;omega) (fun h=>iB I.toHR (by have:=I.ok.un;show X.A.units+1+56<_;omega) l2 r2 l1 r1 (q' (by rw [← n1,← n2];exact h))) (.tok fun _ _ _=>?_)
  rw [n1,n2];rfl
 ·exact ((e3 I.toHR 55 q h1 h2).2 X.A (by have:=I.ok.un;omega)).2.1 _ _ _ _ (.tok fun _ _ _=>rfl)
theorem yJ:Op2 X (û .NotEq) (opD .ne):=fun z u v d1 d2 d I h1 h2 e=>by
 obtain ⟨b,q,rfl⟩:=π.mp (show (eqT d1 d2).map (fun x=>D.bl (!x))=some d from e)
 rcases gW q with ⟨ks,ds,ls,es,rfl,rfl,x,q',rfl⟩ | q
 ·obtain ⟨a,o,vs,rfl,m,e1,c1,l1,r1⟩:=h1
  obtain ⟨a',o',ws,rfl,m',e2,c2,l2,r2⟩:=h2
  have n1:(ks.zip vs).length=ks.length:=by rw [À,← r1.len,l1,Ģ]
  have n2:(ls.zip ws).length=ls.length:=by rw [À,← r2.len,l2,Ģ]
  refine PySem.W.keq_ne m m' (c1.of e1) (c2.of e2) (by have:=I.ok.un;omega) (fun h=>iB I.toHR (by have:=I.ok.un;show X.A.units+1+56<_;omega) l2 r2 l1 r1 (q' (by rw [← n1,← n2];exact h))) (.tok fun _ _ _=>?_)
  rw [n1,n2];rfl
 ·exact ((e3 I.toHR 55 q h1 h2).2 X.A (by have:=I.ok.un;omega)).2.2 _ _ _ _ (.tok fun _ _ _=>rfl)
theorem yG:Op2 X (û .In) (opD .isin):=fun z u v d1 d2 d I h1 h2 e=>by
 have un:X.A.in1.units+57<ś:=by have:=I.ok.un;show X.A.units+1+57<_;omega
 cases d2 with
 | str y=>cases d1 with
   | str x=>cases e;obtain ⟨t,rfl⟩:=h1;obtain ⟨t',rfl⟩:=h2;exact SB.contains (.tok fun _ _ _=>rfl)
   | _=>cases e
 | lst l=>
   obtain ⟨b,q,rfl⟩:=π.mp (show (inD d1 l).map D.bl=some d from e)
   obtain ⟨a,o,vs,rfl,e1,t,r⟩:=h2
   obtain ⟨f,hf,rfl⟩:=dL I.toHR un q r h1
   exact SeqAt.in_listAt f (lsl e1 t) hf (.tok fun _ _ _=>rfl)
 | tup l=>
   obtain ⟨b,q,rfl⟩:=π.mp (show (inD d1 l).map D.bl=some d from e)
   obtain ⟨a,o,vs,rfl,e1,t,r⟩:=h2
   obtain ⟨f,hf,rfl⟩:=dL I.toHR un q r h1
   exact SeqAt.in_tupleAt f (tpt (I.gh _ _ e1) t) hf (.tok fun _ _ _=>rfl)
 | dic ks l=>
   obtain ⟨k,q,rfl⟩:=π.mp (show ((bv d1).map fun k=>D.bl (cA ks l k).isSome)=some d from e)
   obtain ⟨a,o,vs,rfl,m,e1,t,hl,r⟩:=h2
   exact wpAny_in_of (iK q h1) m (t.of e1).mapOf (by rw [qW hl r];exact .tok fun _ _ _=>rfl)
 | _=>cases e
theorem qC:Op2 X (û .NotIn) (opD .notin):=fun z u v d1 d2 d I h1 h2 e=>by
 have un:X.A.in1.units+57<ś:=by have:=I.ok.un;show X.A.units+1+57<_;omega
 cases d2 with
 | lst l=>
   obtain ⟨b,q,rfl⟩:=π.mp (show (inD d1 l).map (fun x=>D.bl (!x))=some d from e)
   obtain ⟨a,o,vs,rfl,e1,t,r⟩:=h2
   obtain ⟨f,hf,rfl⟩:=dL I.toHR un q r h1
   exact SeqAt.notIn_listAt f (lsl e1 t) hf (.tok fun _ _ _=>rfl)
 | tup l=>
   obtain ⟨b,q,rfl⟩:=π.mp (show (inD d1 l).map (fun x=>D.bl (!x))=some d from e)
   obtain ⟨a,o,vs,rfl,e1,t,r⟩:=h2
   obtain ⟨f,hf,rfl⟩:=dL I.toHR un q r h1
   exact SeqAt.notIn_tupleAt f (tpt (I.gh _ _ e1) t) hf (.tok fun _ _ _=>rfl)
 | dic ks l=>
   obtain ⟨k,q,rfl⟩:=π.mp (show ((bv d1).map fun k=>D.bl (!(cA ks l k).isSome))=some d from e)
   obtain ⟨a,o,vs,rfl,m,e1,t,hl,r⟩:=h2
   exact wpAny_notIn_of (iK q h1) m (t.of e1).mapOf (by rw [qW hl r];exact .tok fun _ _ _=>rfl)
 | _=>cases e
def xq (X:Cx) (z:Z) (u i:ζ) (d:D):Prop:=∃ T id,typeLookup (.type T) "__getitem__" = pure (some (.builtin id))∧z.s.TypeIs u T∧χ X.M X.A (Bd u i) (Dn X z d) NoE z.s
theorem RDs.at (r:RDs W ρ G ds vs) (e:atI ds i=some d):∃ v,atI vs i=some v∧RD W ρ G d v:=by
 unfold atI at e ⊢
 rw [← r.len]
 cases q:ixN ds.length i with
 | none=>rw [q] at e;cases e
 | some j=>rw [q] at e;exact r.get e
theorem zW {d1 d2:D} {u v:ζ} (I:Rep X z) (h1:CR X.W z d1 u) (h2:CR X.W z d2 v) (e:ixD d1 d2=some d):xq X z u v d:=by
 have hn:=iM
 cases d1 with
 | tup l=>cases d2 with
   | int i=>
     obtain ⟨a,o,vs,rfl,e1,t,r⟩:=h1
     obtain ⟨tk,rfl⟩:=h2
     obtain ⟨w,ew,rw'⟩:=r.at (show atI l i=some d from e)
     obtain ⟨j,g1,g2,g3,g4,g5⟩:=im ew
     have p:=tpt (I.gh _ _ e1) t
     have hz:=t.2.2
     exact ⟨_,_,Ds.lookup,⟨_,I.gh _ _ e1,t.1⟩,getItem_tuple (j:=j) p (by omega) (by omega) g1 (by simpa using g2) (.old I .refl rw')⟩
   | _=>cases e
 | lst l=>cases d2 with
   | int i=>
     obtain ⟨a,o,vs,rfl,e1,t,r⟩:=h1
     obtain ⟨tk,rfl⟩:=h2
     obtain ⟨w,ew,rw'⟩:=r.at (show atI l i=some d from e)
     obtain ⟨j,g1,g2,g3,g4,g5⟩:=im ew
     have p:=lsl e1 t
     have hz:=t.2
     refine ⟨_,_,DM.lookup,p.typeIs,?_⟩
     by_cases h0:0≤i
     ·have hj:i.toNat=j:=by rw [D3 h0 g5] at g1;exact ϭ g1
      exact wpAny_getItem_list p h0 (by omega) (by rw [hj];simpa using g2) (.old I .refl rw')
     ·have hj:(i+(vs.toArray.size:Int)).toNat=j:=by rw [CF (by omega) g4] at g1;exact ϭ g1
      exact wpAny_getItem_list_neg p (by omega) g4 (by omega) (by rw [hj];simpa using g2) (.old I .refl rw')
   | _=>cases e
 | str y=>cases d2 with
   | int i=>
     obtain ⟨hz,e⟩:y.length≤100000∧(atI y.cps.toList i).map (fun c=>D.str ⟨#[c]⟩)=some d:=by
      unfold ixD at e;dsimp only at e;split at e
      ·rename_i c;exact ⟨c,e⟩
      ·cases e
     obtain ⟨c,q,rfl⟩:=π.mp e
     obtain ⟨t,rfl⟩:=h1
     obtain ⟨t',rfl⟩:=h2
     obtain ⟨j,g1,g2,g3,g4,g5⟩:=im q
     have hl:y.cps.toList.length=y.length:=by simp [CJ]
     rw [hl] at g1 g4 g5
     exact ⟨_,_,slot_str_getitem.lookup,typeIs_str _ y t,getItem_str (c:=c) (by
      have e1:decide (i < -(2 ^ 63:Int))=false:=ZV (by omega)
      have e2:decide (i≥2 ^ 63)=false:=ZV (by omega)
      rw [e1,e2,Ű]) (by rw [g1];simpa using g2) (.tok fun _ _ _=>⟨_,rfl⟩)⟩
   | _=>cases e
 | dic ks l=>
   have e':((bv d2).bind fun k=>cA ks l k)=some d:=by cases d2 <;> exact e
   obtain ⟨k,q,e'⟩:=ϋ.mp e'
   obtain ⟨a,o,vs,rfl,m,e1,t,hl,r⟩:=h1
   obtain ⟨w,ew,rw'⟩:=qX hl r e'
   exact ⟨_,_,PySem.F.slot_dict_getitem.lookup,(t.of e1).typeIs,wpAny_getItem_of (iK q h2) (t.of e1).mapOf ew (.old I .tok rw')⟩
 | _=>cases e
theorem RDs.cut (r:RDs W ρ G ds vs) (lo hi):RDs W ρ G (cutD ds lo hi) ((vs.drop (HT.sIx vs.length 0 lo)).take (HT.sIx vs.length vs.length hi - HT.sIx vs.length 0 lo)):=by
 unfold cutD
 rw [r.len]
 exact (r.drop _).take _
theorem Af {d1:D} {u vl vu:ζ} {lo hi:Option Int} (I:Rep X z) (h1:CR X.W z d1 u) (hs:z.s.heap.IsSliceOf sl vl vu .none) (pl:ż vl lo) (pu:ż vu hi) (e:slO d1 lo hi=some d):xq X z u (.ref sl) d:=by
 have cl:∀ (vs:List ζ),((vs.drop (HT.sIx vs.length 0 lo)).take (HT.sIx vs.length vs.length hi - HT.sIx vs.length 0 lo)).length≤vs.length:=fun vs=>by rw [AP,AQ];omega
 cases d1 with
 | tup l=>
   cases e
   obtain ⟨a,o,vs,rfl,e1,t,r⟩:=id h1
   have p:=tpt (I.gh _ _ e1) t
   refine ⟨"tuple",_,Ds.lookup,⟨_,I.gh _ _ e1,t.1⟩,?_⟩
   by_cases w:HT.sIx vs.length 0 lo=0∧HT.sIx vs.length vs.length hi=vs.length
   ·refine HT.getItem_tuple_all p hs pl pu w ?_
    have e:cutD l lo hi=l:=by
     unfold cutD
     rw [r.len,w.1,w.2,E0,ĥ,← r.len,CZ]
    rw [e]
    exact .old I .refl h1
   ·exact HT.getItem_tuple_cut p hs pl pu w (.tupn I (r.cut lo hi) (ϰ (cl vs) t.2.2.1)) t.2.2.1
 | lst l=>
   cases e
   obtain ⟨a,o,vs,rfl,e1,t,r⟩:=h1
   refine ⟨"list",_,DM.lookup,(lsl e1 t).typeIs,wpAny_getItem_list_slice (lsl e1 t) hs pl pu .none (by simp) ?_ (by rw [Μ];exact t.2)⟩
   rw [gK]
   exact (Dw.lstn (r.cut lo hi) (ϰ (cl vs) t.2)).dn I
 | str y=>
   obtain ⟨hz,rfl⟩:=bo (show (if y.length≤100000 then some (D.str (AX y lo hi)) else none)=some d from e)
   obtain ⟨t,rfl⟩:=h1
   have fin:Nat.le (AX y lo hi).length Ϣ∧∀ t' k,Dn X z (.str (AX y lo hi)) (.str (AX y lo hi) t') { z.s with toks:=k }:=⟨ϰ (Txt.slice_le y _ _) (big hz),fun t' k=>.tok fun _ _ _=>⟨t',rfl⟩⟩
   refine ⟨"str",_,PySem.F.slot_str_getitem.lookup,typeIs_str _ _ _,?_⟩
   cases pl <;> cases pu
   ·exact Ē (l:=none) (u:=none) (st:=none) hs rfl (Ŧ fin)
   ·exact Ē (l:=none) (u:=some (_,_)) (st:=none) hs rfl (Ŧ fin)
   ·exact Ē (l:=some (_,_)) (u:=none) (st:=none) hs rfl (Ŧ fin)
   ·exact Ē (l:=some (_,_)) (u:=some (_,_)) (st:=none) hs rfl (Ŧ fin)
 | _=>cases e
def Bi1 (X:Cx) (f:ζ) (b:Bi):Prop:=∀ z u x d,Rep X z→CR X.W z x u→fx b x=some d→χ X.M X.A (call f [u]) (Dn X z d) NoE z.s
def rr (X:Cx) (f:ζ) (b:Bi):Prop:=∀ z u x d,Rep X z→CR X.W z x u→fx b x=some d→χ X.M X.A (call f [u]) (Dw X z d) NoE z.s
theorem u6:Bi1 X (.builtin "len") .len:=fun z u x d I h e=>by
 have hn:=iM
 cases x with
 | tup l=>cases e;obtain ⟨a,o,vs,rfl,e1,t,r⟩:=h;have:=t.2.2;rw [r.len];exact len_tuple (tpt (I.gh _ _ e1) t) (by rw [Μ];omega) (.tok fun _ _ _=>⟨_,rfl⟩)
 | lst l=>cases e;obtain ⟨a,o,vs,rfl,e1,t,r⟩:=h;have:=t.2;rw [r.len];exact Calls.call_len_list (lsl e1 t) (by rw [Μ];omega) (.tok fun _ _ _=>⟨_,rfl⟩)
 | str y=>
   obtain ⟨hz,rfl⟩:=bo (show (if y.length≤100000 then some (D.int y.length) else none)=some d from e)
   obtain ⟨t,rfl⟩:=h;have:=big hz
   exact len_str (by omega) (.tok fun _ _ _=>⟨_,rfl⟩)
 | dic ks ds=>
   obtain ⟨hz,rfl⟩:=bo (show (if ks.length≤100000 then some (D.int ks.length) else none)=some d from e)
   obtain ⟨a,o,vs,rfl,m,e1,c1,l1,r1⟩:=h
   have n1:(ks.zip vs).length=ks.length:=by rw [À,← r1.len,l1,Ģ]
   have:=big hz
   refine call_len_dict m (c1.of e1) (by rw [n1];omega) ?_
   rw [n1]
   exact .tok fun _ _ _=>⟨_,rfl⟩
 | _=>cases e
theorem ox:Bi1 X (.type "tuple") .tuple:=fun z u x d I h e=>by
 cases x with
 | tup l=>cases e;obtain ⟨a,o,vs,rfl,e1,t,r⟩:=id h;exact call_tuple_same (tpt (I.gh _ _ e1) t) (.old I .refl h)
 | lst l=>
   cases e
   obtain ⟨a,o,vs,rfl,e1,t,r⟩:=h
   refine call_tuple_list (lsl e1 t) (fun h' kp=>?_) (by rw [Μ];exact t.2)
   have nn:z.h h'.objs.size=none:=by
    cases q:z.h h'.objs.size with
    | none=>rfl
    | some o=>exact ZX (Χ (kp _ o q)) (ě _)
   exact .tup I r (.hp (t:=z.s.toks) fun b o e=>υ _ (kp b o e)) nn (ψ _ rfl) (qU t.2)
 | _=>cases e
theorem rD:rr X (.type "list") .list:=fun z u x d I h e=>by
 cases x with
 | tup l=>
   cases e
   obtain ⟨a,o,vs,rfl,e1,t,r⟩:=h
   obtain ⟨n,hd⟩:=t.2.1
   exact call_list_seq a (.inr rfl) (I.gh _ _ e1) t.1 hd (fun h' c' kp e=>.lst r (.hp (t:=z.s.toks) kp) (aD z) e t.2.2.1) (by rw [Μ];exact t.2.2.1)
 | lst l=>
   cases e
   obtain ⟨a,o,vs,rfl,e1,⟨⟨n,rfl⟩,hz⟩,r⟩:=h
   exact call_list_seq a (.inl rfl) e1 rfl rfl (fun h' c' kp e=>.lst r (.hp (t:=z.s.toks) kp) (aD z) e hz) (by rw [Μ];exact hz)
 | _=>cases e
theorem HR.sysm (I:HR X z):BW<z.s.heap.objs.size:=Nat.lt_trans (by decide) (I.md.glob.keeps fun b o e=>I.gh _ _ (I.bs b o e)).lt
theorem rC:rr X (.type "dict") .dict:=fun z u x d I h e=>by
 cases x with
 | dic ks l=>
   cases e
   obtain ⟨a,o,vs,rfl,m,e1,t,hl,r⟩:=h
   have hz:(ks.zip vs).length≤Ϣ:=by obtain ⟨_,_,_,_,_,_,_,q⟩:=t;exact q
   refine kt_call_dict (knd:=bt X.W.P X.W.w) m (t.of e1) hz fun h' hd' sb=>?_
   obtain ⟨o',es,ep,e2,x,y,a1,a2,a3⟩:=hd'
   exact ⟨.hp (t:=z.s.toks) fun b o e=>(sb.2 b (ϧ (Χ e))).trans (υ _ e),_,.dic ks l,rfl,aD z,rfl,o',vs,rfl,ZU.mpr (î I.sysm),e2,⟨es,ep,x,y,a1,a2,a3,hz⟩,hl,r⟩
 | _=>cases e
theorem u5:Bi1 X (.type "int") .int:=fun z u x d I h e=>by
 cases x with
 | int i=>cases e;obtain ⟨t,rfl⟩:=h;exact call_int_int (.tok fun _ _ _=>⟨_,rfl⟩)
 | bl i=>cases e;cases (show u=Ý i from h);exact call_int_bool (.tok fun _ _ _=>⟨_,rfl⟩)
 | str y=>
   obtain ⟨hz,e⟩:y.length≤640∧(D6 y).map D.int=some d:=by
    unfold fx at e;dsimp only at e;split at e
    ·rename_i c;exact ⟨c,e⟩
    ·cases e
   obtain ⟨n,q,rfl⟩:=π.mp e
   obtain ⟨t,rfl⟩:=h
   exact PySem.W.KIN.call_text q hz (.tok fun _ _ _=>⟨_,rfl⟩)
 | _=>cases e
theorem dY:∀ {l ns vs},bh l=some ns→RDs W ρ G l vs→A7 vs ns
 | [],ns,vs,e,r=>by cases e;cases (show vs = [] from r);exact .nil
 | d :: l,ns,vs,e,r=>by
   cases d with
   | int b=>
     obtain ⟨cs,q,rfl⟩:=π.mp (show (bh l).map (b :: ·)=some ns from e)
     obtain ⟨v,r',rfl,⟨t,rfl⟩,tl⟩:=r
     exact .cons b t (dY q tl)
   | _=>cases e
def Bi2 (X:Cx) (f:ζ) (b:Bi):Prop:=∀ z u v x y d,Rep X z→CR X.W z x u→CR X.W z y v→u4 b x y=some d→χ X.M X.A (call f [u,v]) (Dn X z d) NoE z.s
def tyN:Bi→String
 | .isTup=>"tuple" | .isStr=>"str" | .isBool=>"bool" | .isInt=>"int" | .isDic=>"dict" | _=>"list"
theorem xy (hb:b = .isTup∨b = .isStr∨b = .isBool∨b = .isInt∨b = .isLst∨b = .isDic) {u:ζ} (I:Rep X z) (h:CR X.W z x u) (e:fx b x=some d):χ X.M X.A (call (.builtin "isinstance") [u,.type (tyN b)]) (Dn X z d) NoE z.s:=by
 have kin:X.K.In z.s.heap:=I.md.kin.keeps fun b o e=>I.gh _ _ (I.bs b o e)
 have go:∀ {tn:String},fx b x=(CL [] (.type tn) (.type (tyN b))).map D.bl→(∀ v,CL [] (.type tn) (.type (tyN b))=some v→(∀ n,Dn X z (.bl v) (.bool v) { z.s with toks:=n })→χ X.M X.A (call (.builtin "isinstance") [u,.type (tyN b)]) (Dn X z (.bl v)) NoE z.s)→χ X.M X.A (call (.builtin "isinstance") [u,.type (tyN b)]) (Dn X z d) NoE z.s:=fun q k=>by
  rw [q] at e
  obtain ⟨v,e1,rfl⟩:=π.mp e
  exact k v e1 fun n=>.tok fun _ _ _=>rfl
 cases x with
 | non=>cases (show u=Ϙ from h);exact go (tn:="NoneType") (by rcases hb with rfl | rfl | rfl | rfl | rfl | rfl <;> kernel_rfl) fun v q k=>ç PySem.W.kitx_none kin ŉ q (fun z=>nomatch z) k
 | bl y=>cases (show u=Ý y from h);exact go (tn:="bool") (by rcases hb with rfl | rfl | rfl | rfl | rfl | rfl <;> kernel_rfl) fun v q k=>ç PySem.W.kitx_bool kin ŉ q (fun z=>nomatch z) k
 | int y=>obtain ⟨t,rfl⟩:=(show ∃ t,u=ą y t from h);exact go (tn:="int") (by rcases hb with rfl | rfl | rfl | rfl | rfl | rfl <;> kernel_rfl) fun v q k=>ç PySem.W.kitx_int kin ŉ q (fun z=>nomatch z) k
 | str y=>obtain ⟨t,rfl⟩:=(show ∃ t,u=Value.str y t from h);exact go (tn:="str") (by rcases hb with rfl | rfl | rfl | rfl | rfl | rfl <;> kernel_rfl) fun v q k=>ç PySem.W.kitx_str kin ŉ q (fun z=>nomatch z) k
 | tup l=>obtain ⟨a,o,vs,rfl,e1,t,r⟩:=h;exact go (tn:="tuple") (by rcases hb with rfl | rfl | rfl | rfl | rfl | rfl <;> kernel_rfl) fun v q k=>ç PySem.W.kitx_tuple kin ⟨o,I.gh _ _ e1,t.1⟩ q (fun z=>nomatch z) k
 | lst l=>obtain ⟨a,o,vs,rfl,e1,⟨⟨n,rfl⟩,_⟩,r⟩:=h;exact go (tn:="list") (by rcases hb with rfl | rfl | rfl | rfl | rfl | rfl <;> kernel_rfl) fun v q k=>ç PySem.W.kitx_list kin ⟨_,e1,rfl⟩ q (fun z=>nomatch z) k
 | dic ks l=>obtain ⟨a,o,vs,rfl,m,e1,⟨_,_,c,_⟩,hl,r⟩:=h;exact go (tn:="dict") (by rcases hb with rfl | rfl | rfl | rfl | rfl | rfl <;> kernel_rfl) fun v q k=>ç PySem.W.kitx_dict kin ⟨o,e1,c.1⟩ q (fun z=>nomatch z) k
 | _=>rcases hb with rfl | rfl | rfl | rfl | rfl | rfl <;> cases e
end
end L2.Ev
end
section
namespace L2.Ev
def toB (d:D) (s:Sta):Out Bool:=match d with | .bl b=>.ok b s | _=>.bad
def RT (_:Z) (b c:Bool):Prop:=c=b
def RVs (W:Wd) (br:Bool):E→Z→List D→List ζ→Prop
 | .cons a r,z,d :: ds,u :: us=>RV W br a z d u∧RVs W br r z ds us
 | .nil,_,[],[]=>True
 | _,_,_,_=>False
def LE (X:Cx) (e:Ν) (c:E):Prop:=∀ br,Jg X (eval e X.env) (X.ev br c) (RV X.W br c)
def LF (X:Cx) (e:Ν) (c:E):Prop:=∀ z,Rep X z→X.ev false c z.t≠.bad→Wp X (eval e X.env) z (X.ev false c z.t) (FV X z)
def LT (X:Cx) (e:Ν) (c:E):Prop:=Jg X (Du e X.env (eval e X.env)) (fun t=>(X.ev true c t).bind toB) RT
def LW (X:Cx) (e:Ν) (c:E):Prop:=∀ wh,Jg X (Du e X.env wh) (fun t=>(X.ev true c t).bind toB) RT
def LA (X:Cx) (es:List Ν) (c:E):Prop:=∀ br pos,Jg X (spliced (ϲ pos (Α es X.env))) (X.evs br c) (RVs X.W br c)
theorem aq (x:Out α) (f:α→Sta→Out β) (g:β→Sta→Out γ):(x.bind f).bind g=x.bind fun a s=>(f a s).bind g:=by cases x <;> rfl
theorem yN (h:RB X.W z (.bl b) u) (I:Rep X z):u = .bool b:=(h.cr0 I:RD X.W z.ρ z.G (.bl b) u)
section
variable {X:Cx} {z z0 z1:Z} {br:Bool}
theorem Rep.bk (I:HR X z):∀ b o,X.base.get? b=some o→z.s.heap.get? b=some o:=fun b o e=>I.gh _ _ (I.bs b o e)
theorem HR.kin (I:HR X z):X.K.In z.s.heap:=I.md.kin.keeps (Rep.bk I)
theorem bQ {i:Nat} {x:ι} {Q:ζ→ξ→Prop} {E:ζ→ξ→Prop} (I:Rep X z) (hN:X.N[i]? = some x) (hv:Vis X.env.scope x) (e:z.σ[i]? = some (some u)) (q:Q u z.s) (hd:(x == ("__debug__":ι))=false) (hc:(x == ("__classdict__":ι))=false):χ X.M X.A (eval (.Name x pos) X.env) Q E z.s:=by
 obtain ⟨m,hn,hl⟩:=I.lo
 rcases hl i x u hN e hv with ⟨hk,hm⟩ | ⟨hk,c,hc',hcell⟩
 ·exact Dr (wpAny_loadName_local I.ok.kd hk hn hm q) hd
 ·rcases hk with hk | hk
  ·exact Dr (wpAny_loadName_cell I.ok.kd hk hc' hcell q) hd
  ·exact Dr (wpAny_loadName_free I.ok.kd hk hc' hcell q hc) hd
theorem Rep.slot {i:Nat} {d:D} (I:Rep X z) (e:z.t.env[i]? = some (some d)):∃ u,z.σ[i]? = some (some u)∧RB X.W z d u:=by
 by_cases m:i∈z.t.ow
 ·obtain ⟨d',a,o,h1,h2,_⟩:=I.eo i m
  exact ⟨_,h2,.inr ⟨i,m,h2,e⟩⟩
 ·obtain ⟨u,q,r⟩:=I.en i d m e
  exact ⟨u,q,.inl r⟩
theorem wc {i:Nat} {x:ι} (hN:X.N[i]? = some x) (hv:Vis X.env.scope x) (hd:(x == ("__debug__":ι))=false) (hc:(x == ("__classdict__":ι))=false):LE X (.Name x pos) (.v i):=fun br z I nb=>by
 have en:∃ d,z.t.env[i]? = some (some d):=by
  cases q:z.t.env[i]? with
  | none=>exact ZX (show X.ev br (.v i) z.t = .bad by show (match z.t.env[i]? with | some (some d)=>Out.ok d (if br then z.t else un z.t i) | _=>.bad)=_;rw [q]) nb
  | some o=>cases o with
    | none=>exact ZX (show X.ev br (.v i) z.t = .bad by show (match z.t.env[i]? with | some (some d)=>Out.ok d (if br then z.t else un z.t i) | _=>.bad)=_;rw [q]) nb
    | some d=>exact ⟨d,rfl⟩
 obtain ⟨d,q⟩:=en
 have e:X.ev br (.v i) z.t = .ok d (if br then z.t else un z.t i):=by show (match z.t.env[i]? with | some (some d)=>Out.ok d (if br then z.t else un z.t i) | _=>.bad)=_;rw [q]
 obtain ⟨u,q1,r⟩:=I.slot q
 rw [e]
 refine bQ I hN hv q1 ?_ hd hc
 cases br with
 | true=>
   refine ⟨z,d,rfl,rfl,.refl,I,?_⟩
   by_cases m:i∈z.t.ow
   ·exact .inr ⟨rfl,i,rfl,m,q1,q⟩
   ·obtain ⟨u',q2,r2⟩:=I.en i d m q
    rw [q1] at q2;cases q2;exact .inl r2
 | false=>
   obtain ⟨I2,x2⟩:=I.rel (fun j=>j != i)
   refine ⟨z.rel fun j=>j != i,d,rfl,rfl,x2,I2,?_⟩
   obtain ⟨u',q2,r2⟩:=I2.en i d (fun m=>by simp [Z.rel] at m) q
   rw [show z.σ[i]? = some (some u') from q2] at q1;cases q1;exact .inl r2
theorem sr (h:∀ z,χ X.M X.A (eval e X.env) (Dn X z d) NoE z.s):LE X e (.c d):=fun br z I nb=>Υ (h z) (fun _ _ k=>k.pe I) fun _ _ z=>z.elim
theorem uf:LE X (.Constant .none j pos) (.c .non):=sr fun _=>œ (.tok fun _ _ _=>rfl)
theorem xQ:LE X (.Constant (.bool b) j pos) (.c (.bl b)):=sr fun _=>Constant_bool (.tok fun _ _ _=>rfl)
theorem ue:LE X (.Constant (.int i) j pos) (.c (.int i)):=sr fun _=>wpAny_Constant_int (.tok fun _ _ _=>⟨_,rfl⟩)
theorem ug:LE X (.Constant (.str x) j pos) (.c (.str x)):=sr fun _=>Ŭ (.tok fun _ _ _=>⟨_,rfl⟩)
def Gl (X:Cx) (x:ι):Prop:=X.env.kindOf x=some .globalImplicit
theorem aW {Q:ζ→ξ→Prop} {E:ζ→ξ→Prop} (I:Rep X z) (hg:Gl X x) (hm:X.mg x=some u) (h:Q u z.s) (hd:(x == ("__debug__":ι))=false):χ X.M X.A (eval (.Name x pos) X.env) Q E z.s:=
 Bl I.ok.kd hg (Calls.loadGlobal_global (by rw [I.ok.gl];exact I.md.glob.keeps (Rep.bk I.toHR)) hm h) hd
theorem vS {Q:ζ→ξ→Prop} {E:ζ→ξ→Prop} (I:Rep X z) (hg:Gl X x) (hm:X.mg x=none) (hv:ĕ x=some u) (h:Q u z.s) (hn:x≠"__name__") (hd:(x == ("__debug__":ι))=false):χ X.M X.A (eval (.Name x pos) X.env) Q E z.s:=by
 obtain ⟨mb,h1,h2⟩:=I.md.blt
 exact Bl I.ok.kd hg (Calls.loadGlobal_builtin (by rw [I.ok.gl];exact I.md.glob.keeps (Rep.bk I.toHR)) hm (by rw [I.ok.bl];exact h1.keeps (Rep.bk I.toHR)) ((h2 x hn).trans hv) h) hd
def aN (K:τ):L2.Bk.Dk→ζ→Bool
 | .str x,v=>(match v with | .str y _=>decide (y=x) | _=>false)
 | .int i,v=>(match v with | .int j _=>decide (j=i) | _=>false)
 | .bl b,v=>(match v with | .bool c=>decide (c=b) | _=>false)
 | .non,v=>(match v with | .none=>true | _=>false)
 | .tup ds,v=>(match v with
   | .ref a=>(match K.lookup a with
     | some o=>o.cls == .type "tuple" && o.dict.isNone && (match o.data with | .seq its _=>decide (its.size≤1000) && lookDs K ds its.toList | _=>false)
     | none=>false)
   | _=>false)
where lookDs (K:τ):List L2.Bk.Dk→List ζ→Bool
 | [],vs=>vs.isEmpty
 | d :: ds,vs=>(match vs with | v :: r=>aN K d v && lookDs K ds r | []=>false)
mutual
theorem qL {K:τ} {G:Hp} (k:∀ a o,K.lookup a=some o→G a=some o):∀ d v,aN K d v=true→RD W ρ G (toD d) v
 | .str x,v,h=>by cases v <;> simp only [aN] at h <;> first | cases h | exact ⟨_,by rw [of_decide_eq_true h]⟩
 | .int x,v,h=>by cases v <;> simp only [aN] at h <;> first | cases h | exact ⟨_,by rw [of_decide_eq_true h]⟩
 | .bl x,v,h=>by cases v <;> simp only [aN] at h <;> first | cases h | exact (by rw [of_decide_eq_true h];rfl)
 | .non,v,h=>by cases v <;> simp only [aN] at h <;> first | exact (rfl:RD W ρ G .non .none) | cases h
 | .tup ds,v,h=>by
   cases v with
   | ref a=>
     simp only [aN] at h
     cases q:K.lookup a with
     | none=>rw [q] at h;cases h
     | some o=>
       rw [q] at h
       dsimp only at h
       rw [Τ] at h
       rw [Τ] at h
       obtain ⟨⟨h1,h3⟩,h2⟩:=h
       cases qd:o.data with
       | seq its n=>
         rw [qd] at h2
         dsimp only at h2
         rw [Τ] at h2
         have hz:its.size≤1000:=of_decide_eq_true h2.1
         exact ⟨a,o,its.toList,rfl,k a o q,⟨by simpa using h1,⟨n,by simpa using qd⟩,(by rw [ā,ă];omega),by simpa using h3⟩,mt k ds _ h2.2⟩
       | _=>rw [qd] at h2;cases h2
   | _=>simp [aN] at h
theorem mt {K:τ} {G:Hp} (k:∀ a o,K.lookup a=some o→G a=some o):∀ ds vs,aN.lookDs K ds vs=true→RDs W ρ G (toD.toDs ds) vs
 | [],vs,h=>by cases vs with
   | nil=>exact rfl
   | cons _ _=>simp [aN.lookDs] at h
 | d :: ds,vs,h=>by cases vs with
   | nil=>simp [aN.lookDs] at h
   | cons v r=>
     simp only [aN.lookDs,Τ] at h
     exact .cons (qL k d v h.1) (mt k ds r h.2)
end
theorem HR.top (I:HR X z) (h:aN X.K d u=true):RD X.W z.ρ z.G (toD d) u:=qL (fun a o e=>I.bs a o (I.md.kin a o e)) d u h
theorem zY {j:Nat} (hg:Gl X x) (hm:X.mg x=some u) (hd:(x == ("__debug__":ι))=false) (e:X.Γ.gl[j]? = some d) (h:aN X.K d u=true):LE X (.Name x pos) (.g j):=fun br z I nb=>by
 have q:X.ev br (.g j) z.t = .ok (toD d) z.t:=by show Out.of z.t (X.Γ.gl[j]?.map toD)=_;rw [e];rfl
 rw [q]
 exact aW I hg hm ⟨z,toD d,rfl,rfl,.refl,I,.of (I.toHR.top h)⟩ hd
theorem yv {o:Op} (ho:Op2 X (Ŝ op) (opD o)) (ha:LE X ea a) (hb:LE X eb b):LE X (.BinOp ea op eb pos) (.op o a b):=fun br z I nb=>
 wpAny_BinOp ((ha true).go .refl I rfl nb fun z1 x u y1 x1 I1 r1 e1=>(hb true).go x1 I1 e1 nb fun z2 y v y2 x2 I2 r2 e2=>cR x2 I2 e2 nb fun d q=>ho z2 u v _ _ d I2 ((r1.rb.st y2 I2).cr I2) (r2.rb.cr I2) q)
theorem vX {o:Op} (ho:Op2 X (û op) (opD o)) (ha:LE X ea a) (hb:LE X eb b) (hm:å op eb=false):LE X (.Compare ea [op] [eb] pos) (.op o a b):=fun br z I nb=>
 ŷ ((ha true).go .refl I rfl nb fun z1 x u y1 x1 I1 r1 e1=>(hb true).go x1 I1 e1 nb fun z2 y v y2 x2 I2 r2 e2=>cR x2 I2 e2 nb fun d q=>ho z2 u v _ _ d I2 ((r1.rb.st y2 I2).cr I2) (r2.rb.cr I2) q) hm
theorem Dn.tru {o:Out Bool} {s':ξ} (x:Ee X z0 z) (I:Rep X z) (e:o=(Out.ok d z.t).bind toB) (nb:o≠.bad) (h:Dn X z d u s'):χ X.M X.A (truthy u) (Pe X z0 o RT) (Px X z0 o) s':=by
 cases d with
 | bl b=>
   cases (show u=Ý b from h.2)
   exact á ⟨z.up s',b,rfl,e,x.trans (cG I.gh h.1).ee,I.grow (cG I.gh h.1),rfl⟩
 | _=>exact ZX e nb
theorem wx {o:Op} (ho:Op2 X (û op) (opD o)) (ha:LE X ea a) (hb:LE X eb b) (hm:å op eb=false):LT X (.Compare ea [op] [eb] pos) (.op o a b):=fun z I nb=>
 ĝ ((ha true).go .refl I (aq ..) nb fun z1 x u y1 x1 I1 r1 e1=>(hb true).go x1 I1 (e1.trans (aq ..)) nb fun z2 y v y2 x2 I2 r2 e2=>by
  cases q:opD o (look z2.t.st x) (look z2.t.st y) with
  | none=>rw [q] at e2;exact ZX e2 nb
  | some d=>rw [q] at e2;exact Υ (ho z2 u v _ _ d I2 ((r1.rb.st y2 I2).cr I2) (r2.rb.cr I2) q) (fun c s' k=>k.tru x2 I2 e2 nb) fun _ _ z=>z.elim) hm
theorem iT (I:Rep X z) (h:RB X.W z d u):(u == Ϙ)=jA d:=by
 rcases h with h | ⟨i,m,e1,e2⟩
 ·cases d with
  | non=>cases (show u=_ from h);rfl
  | bl b=>cases (show u=_ from h);rfl
  | int b=>obtain ⟨t,rfl⟩:=h;rfl
  | str b=>obtain ⟨t,rfl⟩:=h;rfl
  | tup l=>obtain ⟨a,_,_,rfl,_⟩:=h;rfl
  | lst l=>obtain ⟨a,_,_,rfl,_⟩:=h;rfl
  | dic k l=>obtain ⟨a,_,_,rfl,_⟩:=h;rfl
  | ins c l=>obtain ⟨a,_,_,rfl,_⟩:=h;rfl
  | ref n=>obtain ⟨a,_,rfl⟩:=h;rfl
 ·obtain ⟨d',a,o,h1,h2,h3,_⟩:=I.eo i m
  rw [e1] at h2;cases h2
  rw [e2] at h1;cases h1
  cases d <;> first | rfl | cases h3
theorem cY (b:Bool) {z:Z}:Dn X z (.bl b) (.bool b) z.s:=.tok (n:=z.s.toks) fun _ _ _=>rfl
theorem vZ (ha:LE X ea a) (h1:å .Is (.Constant .none j pos')=false):LE X (.Compare ea [.Is] [.Constant .none j pos'] pos) (.isN a):=fun br z I nb=>
 ŷ ((ha true).go .refl I rfl nb fun z1 x u y1 x1 I1 r1 e1=>œ (is_none_gen (by rw [iT I1 r1.rb];exact (cY _).at x1 I1 e1))) h1
theorem sA (ha:LE X ea a) (h1:å .IsNot (.Constant .none j pos')=false):LE X (.Compare ea [.IsNot] [.Constant .none j pos'] pos) (.isNN a):=fun br z I nb=>
 ŷ ((ha true).go .refl I rfl nb fun z1 x u y1 x1 I1 r1 e1=>œ (isnot_none_gen (by rw [iT I1 r1.rb];exact (cY _).at x1 I1 e1))) h1
theorem wy (ha:LE X ea a) (h1:å .Is (.Constant .none j pos')=false):LT X (.Compare ea [.Is] [.Constant .none j pos'] pos) (.isN a):=fun z I nb=>
 ĝ ((ha true).go .refl I (aq ..) nb fun z1 x u y1 x1 I1 r1 e1=>œ (is_none_gen (by rw [iT I1 r1.rb];exact (cY _).tru x1 I1 e1 nb))) h1
theorem sW (ha:LE X ea a) (h1:å .IsNot (.Constant .none j pos')=false):LT X (.Compare ea [.IsNot] [.Constant .none j pos'] pos) (.isNN a):=fun z I nb=>
 ĝ ((ha true).go .refl I (aq ..) nb fun z1 x u y1 x1 I1 r1 e1=>œ (isnot_none_gen (by rw [iT I1 r1.rb];exact (cY _).tru x1 I1 e1 nb))) h1
theorem v8 (ha:LE X ea a):LE X (.UnaryOp .USub ea pos) (.neg a):=fun br z I nb=>
 UnaryOp_ ((ha true).go .refl I rfl nb fun z1 x u y1 x1 I1 r1 e1=>by
  cases x with
  | int i=>obtain ⟨t,rfl⟩:=(r1.rb.cr0 I1:CR X.W z1 (.int i) u);exact neg_int ((Dn.tok fun _ _ _=>⟨_,rfl⟩:Dn X z1 (.int (-i)) _ _).at x1 I1 e1)
  | _=>exact ZX e1 nb)
theorem v9 (ha:LE X ea a):LE X (.UnaryOp .Not ea pos) (.not a):=fun br z I nb=>
 UnaryOp_ ((ha true).go .refl I rfl nb fun z1 x u y1 x1 I1 r1 e1=>by
  cases x with
  | bl b=>cases yN r1.rb I1;exact not_of (á ((cY _).at x1 I1 e1))
  | _=>exact ZX e1 nb)
theorem vT (ha:LE X ea a) (hb:LE X (.BoolOp .And (eb :: r) pos) b):LE X (.BoolOp .And (ea :: eb :: r) pos) (.and a b):=fun br z I nb=>
 BoolOp_and ((ha false).go .refl I rfl nb fun z1 x u y1 x1 I1 r1 e1=>by
  cases x with
  | bl c=>
    cases (show u=Ý c from r1.rd)
    refine á ?_
    cases c with
    | true=>exact Υ ((hb false).at x1 I1 e1 nb) (fun u s' ⟨z',d,e,q,y,I',r⟩=>⟨z',d,e,q,y,I',.of r.rd⟩) fun _ _ h=>h
    | false=>exact (cY _).at x1 I1 e1
  | _=>exact ZX e1 nb)
theorem uF (h:LW X e c):LT X e c:=h _
theorem sZ (ha:LT X ea a):LW X (.BoolOp .And [ea] pos) a:=fun wh z I nb=>isTrue_and (thn (ha z I nb) fun c s1 e=>by
 cases c with
 | true=>exact isTrue_and_nil e
 | false=>exact e)
theorem wD (ha:LT X ea a):LW X (.BoolOp .Or [ea] pos) a:=fun wh z I nb=>isTrue_or (thn (ha z I nb) fun c s1 e=>by
 cases c with
 | false=>exact isTrue_or_nil e
 | true=>exact e)
theorem RT.pe (x:Ee X z0 z) (I:Rep X z) (e:o = .ok b z.t):Pe X z0 o RT b z.s:=⟨z,b,rfl,e,x,I,rfl⟩
theorem tB (x:Out D) (f:Bool→Sta→Out β):(x.bind toB).bind f=x.bind fun d s=>match d with | .bl b=>f b s | _=>.bad:=by
 cases x with
 | ok d s=>cases d <;> rfl
 | _=>rfl
theorem wC (ha:LT X ea a) (hb:LW X (.BoolOp .And (eb :: r) pos) b):LW X (.BoolOp .And (ea :: eb :: r) pos) (.tand a b):=fun wh z I nb=>by
 have e:(X.ev true (.tand a b) z.t).bind toB=((X.ev true a z.t).bind toB).bind fun c s=>if c then (X.ev true b s).bind toB else .ok false s:=by
  rw [tB];show Out.bind (Out.bind _ _) _=_;rw [aq];congr 1;funext d s
  cases d <;> first | rfl | (rename_i c;cases c <;> rfl)
 refine isTrue_and (ha.go .refl I e nb fun z1 c u y1 x1 I1 r1 e1=>?_)
 cases (show u=c from r1)
 cases c with
 | true=>exact (hb wh).at x1 I1 e1 nb
 | false=>exact RT.pe x1 I1 e1
theorem yA (ha:LT X ea a) (hb:LW X (.BoolOp .Or (eb :: r) pos) b):LW X (.BoolOp .Or (ea :: eb :: r) pos) (.tor a b):=fun wh z I nb=>by
 have e:(X.ev true (.tor a b) z.t).bind toB=((X.ev true a z.t).bind toB).bind fun c s=>if c then .ok true s else (X.ev true b s).bind toB:=by
  rw [tB];show Out.bind (Out.bind _ _) _=_;rw [aq];congr 1;funext d s
  cases d <;> first | rfl | (rename_i c;cases c <;> rfl)
 refine isTrue_or (ha.go .refl I e nb fun z1 c u y1 x1 I1 r1 e1=>?_)
 cases (show u=c from r1)
 cases c with
 | false=>exact (hb wh).at x1 I1 e1 nb
 | true=>exact RT.pe x1 I1 e1
theorem wA (ha:LT X ea a):LT X (.UnaryOp .Not ea pos) (.tnot a):=fun z I nb=>by
 have e:(X.ev true (.tnot a) z.t).bind toB=((X.ev true a z.t).bind toB).bind fun c s=>.ok (!c) s:=by
  rw [tB];show Out.bind (Out.bind _ _) _=_;rw [aq];congr 1;funext d s
  cases d <;> rfl
 exact isTrue_not (ha.go .refl I e nb fun z1 c u y1 x1 I1 r1 e1=>by
  cases (show u=c from r1)
  exact RT.pe x1 I1 e1)
theorem v6 (hc:LT X ec c) (ha:LE X ea a) (hb:LE X eb b):LE X (.IfExp ec ea eb pos) (.ite c a b):=fun br z I nb=>by
 have e:X.ev br (.ite c a b) z.t=((X.ev true c z.t).bind toB).bind fun c s=>if c then X.ev false a s else X.ev false b s:=by
  rw [tB];show Out.bind _ _=_;congr 1;funext d s
  cases d <;> first | rfl | (rename_i c;cases c <;> rfl)
 refine wpAny_IfExp (hc.go .refl I e nb fun z1 c u y1 x1 I1 r1 e1=>?_)
 cases (show u=c from r1)
 cases c with
 | true=>exact Υ ((ha false).at x1 I1 e1 nb) (fun u s' ⟨z',d,e,q,y,I',r⟩=>⟨z',d,e,q,y,I',.of r.rd⟩) fun _ _ h=>h
 | false=>exact Υ ((hb false).at x1 I1 e1 nb) (fun u s' ⟨z',d,e,q,y,I',r⟩=>⟨z',d,e,q,y,I',.of r.rd⟩) fun _ _ h=>h
theorem yV {d:D} {u:ζ} (I:Rep X z) (h:CR X.W z d u) (e:tP d=some b):χ X.M X.A (truthy u) (fun c s'=>c=b∧Gr z.s s') NoE z.s:=by
 have hl:=iM
 cases d with
 | non=>cases e;cases (show u=_ from h);exact truthy_none ⟨rfl,.refl⟩
 | bl c=>cases e;cases (show u=_ from h);exact á ⟨rfl,.refl⟩
 | int i=>cases e;obtain ⟨t,rfl⟩:=h;exact PySem.P.truthy_int ⟨rfl,.refl⟩
 | tup l=>
   cases e;obtain ⟨a,o,vs,rfl,e1,t,r⟩:=h;have:=t.2.2
   refine truthy_tuple (tpt (I.gh _ _ e1) t) (by rw [Μ];omega) ⟨?_,.tok⟩
   have:=r.len;cases l <;> cases vs <;> first | rfl | cases this
 | lst l=>
   cases e;obtain ⟨a,o,vs,rfl,e1,t,r⟩:=h;have:=t.2
   refine wpAny_truthy_list (lsl e1 t) (by rw [Μ];omega) ⟨?_,.tok⟩
   have:=r.len;cases l <;> cases vs <;> first | rfl | cases this
 | _=>cases e
theorem yz (ha:LE X ea a) (he:∀ whole,Du ea X.env whole=(do let v ← whole;ņ ea.pos;holding [v] (truthy v))):LT X ea (.tv a):=fun z I nb=>
 isTrue_plain ((ha true).go .refl I (aq ..) nb fun z1 x u y1 x1 I1 r1 e1=>by
  cases q:tP (look z1.t.st x) with
  | none=>rw [q] at e1;exact ZX e1 nb
  | some b=>
    rw [q] at e1
    refine Υ (yV I1 (r1.rb.cr I1) q) (fun c s' ⟨h,g⟩=>?_) fun _ _ z=>z.elim
    subst h
    exact ⟨z1.up s',c,rfl,e1,x1.trans (cG I1.gh g).ee,I1.grow (cG I1.gh g),rfl⟩) (he _)
end
section
variable {X:Cx} {z z0 z1:Z} {br:Bool}
def ig (b:Ν):Prop:=∀ o i,subscripted b false o i=operate [o,i] (Bd o i)
theorem yt (ha:LE X ea a) (hb:LE X eb b) (hs:ig eb):LE X (.Subscript ea eb pos) (.ix a b):=fun br z I nb=>
 Dy ((ha true).go .refl I rfl nb fun z1 x u y1 x1 I1 r1 e1=>(hb true).go x1 I1 e1 nb fun z2 y v y2 x2 I2 r2 e2=>cR x2 I2 e2 nb fun d q=>by
  obtain ⟨T,id,h1,h2,h3⟩:=zW I2 ((r1.rb.st y2 I2).cr I2) (r2.rb.cr0 I2) q
  exact tail_any h2 h1 h3 (hs _ _))
def Cx.prt (X:Cx) (c:E) (s:Sta):Out (Option Int):=if bj c then .ok none s else (X.ev true c s).bind toI
def LO (X:Cx) (e:Option Ν) (c:E):Prop:=Jg X (evalPart e X.env) (X.prt c) fun _ o u=>ż u o
theorem sK:LO X none .nil:=fun z I nb=>by rw [evalPart_none];exact θ ⟨z,none,rfl,rfl,.refl,I,.none⟩
theorem sL (n:bj a=false) (ha:LE X ea a):LO X (some ea) a:=fun z I nb=>by
 rw [evalPart_some]
 have e:X.prt a z.t=(X.ev true a z.t).bind toI:=by unfold Cx.prt;rw [n];rfl
 refine (ha true).go .refl I e nb fun z1 x u y1 x1 I1 r1 e1=>?_
 cases x with
 | int i=>obtain ⟨t,rfl⟩:=(r1.rb.cr0 I1:CR X.W z1 (.int i) u);exact ⟨z1,some i,rfl,e1,x1,I1,.int i t⟩
 | _=>exact ZX e1 nb
theorem CR.grow {s':ξ} (g:Grw z G' s'):∀ {d},CR W z d u→CR W { z with G:=G',s:=s' } d u
 | .lst _,⟨a,o,vs,e,q,t,r⟩=>⟨a,o,vs,e,g.gr.k _ _ q,t,r.mono (κ _) g.gg⟩
 | .dic _ _,⟨a,o,vs,e,m,q,t,l,r⟩=>⟨a,o,vs,e,m,g.gr.k _ _ q,t,l,r.mono (κ _) g.gg⟩
 | .non,h=>h
 | .bl _,h=>h
 | .int _,h=>h
 | .str _,h=>h
 | .tup _,h=>RD.mono (κ _) g.gg h
 | .ins _ _,h=>RD.mono (κ _) g.gg h
 | .ref _,h=>RD.mono (κ _) g.gg h
theorem yw {lo hi:Option Ν} {pos p2:Ϭ} (ha:LE X ea a) (hl:LO X lo l) (hh:LO X hi h):LE X (.Subscript ea (.Slice lo hi none p2) pos) (.sl a l h):=fun br z I nb=>
 Dy ((ha true).go (f:=fun x s=>(X.prt l s).bind fun l s=>(X.prt h s).bind fun h s=>.of s (slO (look s.st x) l h)) .refl I rfl nb fun z1 x u y1 x1 I1 r1 e1=>wpAny_Slice (hl.go x1 I1 e1 nb fun z2 lo' vl y2 x2 I2 r2 e2=>hh.go x2 I2 e2 nb fun z3 hi' vu y3 x3 I3 r3 e3=>by
  rw [evalPart_none]
  refine θ ?_
  have g:=aw (s':={ z3.s with heap:=z3.s.heap.push { cls:=.type "slice",data:=.fields #[vl,vu,.none] } }) I3.gh (.push (t:=z3.s.toks))
  have I4:=I3.grow g
  show χ X.M X.A (subscriptTail ea (.Slice lo hi none p2) u (.ref z3.s.heap.objs.size)) _ _ { z3.s with heap:=z3.s.heap.push { cls:=.type "slice",data:=.fields #[vl,vu,.none] } }
  refine cR (z:={ z3 with s:=_ }) (x3.trans g.ee) I4 e3 nb fun d q=>?_
  obtain ⟨T,id,h1,h2,h3⟩:=Af I4 ((((r1.rb.st y2 I2).st y3 I3).cr I3).grow g) (DR ..) r2 r3 q
  exact tail_any (ops:=[.ref z3.s.heap.objs.size,u]) h2 h1 h3 (by with_unfolding_all rfl)))
theorem RVs.ind {W:Wd} {br:Bool} {z:Z} {P:E→List D→List ζ→Prop} (hn:P .nil [] []) (hc:∀ a r d ds u us,RV W br a z d u→RVs W br r z ds us→P r ds us→P (.cons a r) (d :: ds) (u :: us)) (c:E):∀ ds us,RVs W br c z ds us→P c ds us:=by
 induction c with
 | nil=>
   intro ds us h
   cases ds with
   | nil=>cases us with
     | nil=>exact hn
     | cons _ _=>exact Ń h
   | cons _ _=>exact Ń h
 | cons a r _ ih=>
   intro ds us h
   cases ds with
   | nil=>exact Ń h
   | cons d ds=>cases us with
     | nil=>exact Ń h
     | cons u us=>exact hc a r d ds u us h.1 h.2 (ih ds us h.2)
 | _=>exact fun _ _ h=>Ń h
theorem RVs.rds {c ds us} (h:RVs W false c z ds us):RDs W z.ρ z.G ds us:=RVs.ind (P:=fun _ ds us=>RDs W z.ρ z.G ds us) rfl (fun _ _ _ _ _ _ h _ ih=>.cons h.rd ih) c ds us h
theorem pK:LA X [] .nil:=fun br pos z I nb=>ϊ ⟨z,[],rfl,rfl,.refl,I,trivial⟩
theorem lO (ha:LE X ea a) (hr:LA X er r) (hs:Α (ea :: er) X.env=(false,eval ea X.env) :: Α er X.env):LA X (ea :: er) (.cons a r):=fun br pos z I nb=>by
 rw [hs]
 show χ _ _ (spliced ((false,eval ea X.env) :: ϲ pos (Α er X.env))) _ _ _
 exact Ξ ((ha br).go .refl I rfl nb fun z1 x u y1 x1 I1 r1 e1=>(hr br pos).go x1 I1 e1 nb fun z2 l us y2 x2 I2 r2 e2=>⟨z2,x :: l,rfl,e2,x2,I2,r1.st y2 I2,r2⟩)
theorem pW (h:LA X es c):LE X (.Tuple es x1 pos) (.tup c):=fun br z I nb=>
 wpAny_Tuple_spliced ((h false pos).go (f:=fun l s=>if l.length≤100000 then Out.ok (D.tup l) s else .bad) .refl I rfl nb fun z1 l us y1 x1 I1 r1 e1=>by
  by_cases c:l.length≤100000
  ·rw [ZZ c] at e1
   have hz:us.length≤Ϣ:=by rw [← r1.rds.len];exact big c
   exact ⟨hz,Dn.at x1 I1 e1 (.tupn (t:=z1.s.toks) I1 r1.rds hz)⟩
  ·rw [ZY c] at e1;exact ZX e1 nb)
theorem FV.less (x:Ee X z0 z1) (h:FV X z1 z d u):FV X z0 z d u:=let ⟨a,o,e,n,r⟩:=h;⟨a,o,e,x.st.no n,r⟩
theorem wf (h:LA X es c):LF X (.List es pos) (.lst c):=fun z I nb=>
 AU ((h false pos).go (f:=fun l s=>if l.length≤100000 then Out.ok (D.lst l) s else .bad) .refl I rfl nb fun z1 l us y1 x1 I1 r1 e1=>by
  by_cases c:l.length≤100000
  ·rw [ZZ c] at e1
   have hz:us.length≤Ϣ:=by rw [← r1.rds.len];exact big c
   obtain ⟨z2,d,q,q2,y,I2,fv⟩:=(Dw.lstn (X:=X) (t:=z1.s.toks) (n:=0) r1.rds hz).pe I1
   exact ⟨hz,z2,d,q,e1.trans q2,x1.trans y,I2,fv.less x1⟩
  ·rw [ZY c] at e1;exact ZX e1 nb)
theorem FV.rd (x:Ee X z0 z) (I:Rep X z) (h:FV X z0 z d u) (e:o = .ok d z.t):Pe X z0 o (RV X.W br c) u z.s:=by
 obtain ⟨a,ob,rfl,n,t,r,f,no⟩:=h
 obtain ⟨oa,ha⟩:=r.th.1
 have gg:Sub z.G fun b=>if b=a then some oa else z.G b:=fun b o q=>by
  dsimp only
  by_cases c:b=a
  ·subst c;rw [f.1] at q;cases q
  ·rw [ZY c];exact q
 refine ⟨{ z with G:=fun b=>if b=a then some oa else z.G b },d,rfl,e,⟨⟨x.st.pr,x.st.gg.trans gg,fun b o q=>?_,x.st.rn,x.st.th,x.st.sm,x.st.sl⟩,x.sg,x.en,x.ow⟩,I.grw rfl I.br (fun _ _ e _=>e) (fun _ o e=>⟨o.slots,e⟩) gg (fun b o q=>?_) fun b o q=>?_,.of (iU t r gg (by dsimp only;rw [ZZ rfl];exact ha.symm))⟩
 ·by_cases c:b=a
  ·subst c;exact .inr (.inl n)
  ·have q:(if b=a then some oa else z.G b)=some o:=q
   rw [ZY c] at q;exact x.st.gn b o q
 ·have q:(if b=a then some oa else z.G b)=some o:=q
  by_cases c:b=a
  ·subst c;rw [ZZ rfl] at q;cases q;exact ha
  ·rw [ZY c] at q;exact I.gh b o q
 ·have q:(if b=a then some oa else z.G b)=some o:=q
  by_cases c:b=a
  ·subst c;exact .inr ⟨f,no⟩
  ·rw [ZY c] at q;exact .inl q
theorem LF.le (h:LF X e c) (hb:∀ br,X.ev br c=X.ev false c):LE X e c:=fun br z I nb=>by
 rw [hb] at nb ⊢
 exact Υ (h z I nb) (fun u s' ⟨z',d,q,e,x,I',f⟩=>by subst q;exact f.rd x I' e) fun _ _ h=>h
theorem sF:LF X (.Dict [] [] pos) (.dic .nil):=fun z I nb=>DW (Dw.pe I ⟨.push (t:=z.s.toks),_,.dic [] [],rfl,aD z,rfl,_,[],rfl,ZU.mpr (î I.sysm),ψ _ rfl,by
 obtain ⟨o,es,ep,h1,h2,h3,h4,h5,h6⟩:=BQ (knd:=bt X.W.P X.W.w) z.s.heap
 rw [ψ _ rfl] at h1
 cases h1
 exact ⟨es,ep,h2,h3,h4,h5,h6,Î _⟩,rfl,rfl⟩)
theorem ev1 (f:List D→Sta→Out β):(X.evs br (.cons a .nil) t).bind f=(X.ev br a t).bind fun x s=>f [x] s:=by
 show ((X.ev br a t).bind fun x s=>Out.ok [x] s).bind f=_
 rw [aq];rfl
theorem ev2 (f:List D→Sta→Out β):(X.evs br (.cons a (.cons b .nil)) t).bind f=(X.ev br a t).bind fun x s=>(X.ev br b s).bind fun y s=>f [x,y] s:=by
 show ((X.ev br a t).bind fun x s=>((X.ev br b s).bind fun y s=>Out.ok [y] s).bind fun l s=>Out.ok (x :: l) s).bind f=_
 rw [aq];congr 1;funext x s;rw [aq,aq];rfl
def Blt (X:Cx) (x:ι) (u:ζ):Prop:=Gl X x∧X.mg x=none∧ĕ x=some u∧x≠"__name__"∧(x == ("__debug__":ι))=false
theorem Blt.ld {Q:ζ→ξ→Prop} {E:ζ→ξ→Prop} (h:Blt X x u) (I:Rep X z) (q:Q u z.s):χ X.M X.A (eval (.Name x pos) X.env) Q E z.s:=vS I h.1 h.2.1 h.2.2.1 q h.2.2.2.1 h.2.2.2.2
theorem aU {f:ζ} {Q:ζ→ξ→Prop} {E:ζ→ξ→Prop} (hf:(∃ id,f = .builtin id)∨∃ T,f = .type T) (hx:Blt X x f) (he:Α (e :: er) X.env=(false,eval e X.env) :: Α er X.env) (hpl:(ϲ pos (Α er X.env)).any (·.1)=false) (I:Rep X z)
 (h:χ X.M X.A (spliced ((false,eval e X.env) :: ϲ pos (Α er X.env))) (fun us s'=>χ X.M X.A (call f us) Q E s') E z.s):χ X.M X.A (eval (.Call (.Name x p) (e :: er) [] pos) X.env) Q E z.s:=by
 refine Ê (hx.ld I ?_)
 have h:χ X.M X.A (spliced (ϲ pos (Α (e :: er) X.env))) (fun us s'=>χ X.M X.A (call f us) Q E s') E z.s:=by rw [he];exact h
 rcases hf with ⟨id,rfl⟩ | ⟨T,rfl⟩
 ·exact callWith_builtin1 h he hpl
 ·exact callWith_type1 h he hpl
abbrev FB (f:ζ):Prop:=(∃ id,f = .builtin id)∨∃ T,f = .type T
theorem vV {f:ζ} (hb:Bi1 X f b) (hf:FB f) (hx:Blt X x f) (ha:LE X ea a) (he:Α [ea] X.env=(false,eval ea X.env) :: Α [] X.env):LE X (.Call (.Name x p) [ea] [] pos) (.bi b (.cons a .nil)):=fun br z I nb=>
 aU hf hx he rfl I (Ξ ((ha true).go .refl I (ev1 fun l s=>Out.of s (biD b (l.map (look s.st)))) nb fun z1 x u y1 x1 I1 r1 e1=>ϊ (cR x1 I1 e1 nb fun d q=>hb z1 _ _ d I1 (r1.rb.cr I1) q)))
theorem we {f:ζ} (hb:rr X f b) (hf:FB f) (hx:Blt X x f) (ha:LE X ea a) (he:Α [ea] X.env=(false,eval ea X.env) :: Α [] X.env):LF X (.Call (.Name x p) [ea] [] pos) (.bi b (.cons a .nil)):=fun z I nb=>
 aU hf hx he rfl I (Ξ ((ha true).go .refl I (ev1 fun l s=>Out.of s (biD b (l.map (look s.st)))) nb fun z1 x u y1 x1 I1 r1 e1=>ϊ (by
  cases q:fx b (look z1.t.st x) with
  | none=>exact ZX (e1.trans (show Out.of z1.t (fx b (look z1.t.st x)) = .bad by rw [q];rfl)) nb
  | some d=>
    refine Υ (hb z1 _ _ d I1 (r1.rb.cr I1) q) (fun v s' k=>?_) fun _ _ z=>z.elim
    obtain ⟨z2,d,q1,q2,y,I2,fv⟩:=k.pe I1
    exact ⟨z2,d,q1,(e1.trans (show Out.of z1.t (fx b (look z1.t.st x))=_ by rw [q];rfl)).trans q2,x1.trans y,I2,fv.less x1⟩)))
theorem vW {f:ζ} (hb:Bi2 X f b) (hf:FB f) (hx:Blt X x f) (ha:LE X ea a) (hc:LE X ec c) (he:Α [ea,ec] X.env=(false,eval ea X.env) :: Α [ec] X.env) (he2:Α [ec] X.env=(false,eval ec X.env) :: Α [] X.env):LE X (.Call (.Name x p) [ea,ec] [] pos) (.bi b (.cons a (.cons c .nil))):=fun br z I nb=>
 aU hf hx he (by rw [he2];rfl) I (by
  rw [he2]
  exact Ξ ((ha true).go .refl I (ev2 fun l s=>Out.of s (biD b (l.map (look s.st)))) nb fun z1 x u y1 x1 I1 r1 e1=>Ξ ((hc true).go x1 I1 e1 nb fun z2 y v y2 x2 I2 r2 e2=>ϊ (cR x2 I2 e2 nb fun d q=>hb z2 _ _ _ _ d I2 ((r1.rb.st y2 I2).cr I2) (r2.rb.cr I2) q))))
theorem yr (hb:b = .isTup∨b = .isStr∨b = .isBool∨b = .isInt∨b = .isLst∨b = .isDic) (hx:Blt X "isinstance" (.builtin "isinstance")) (ht:Blt X x (.type (tyN b))) (ha:LE X ea a) (he:Α [ea,.Name x q] X.env=(false,eval ea X.env) :: Α [.Name x q] X.env):LE X (.Call (.Name "isinstance" p) [ea,.Name x q] [] pos) (.bi b (.cons a .nil)):=fun br z I nb=>
 aU (.inl ⟨_,rfl⟩) hx he rfl I (Ξ ((ha true).go .refl I (ev1 fun l s=>Out.of s (biD b (l.map (look s.st)))) nb fun z1 x u y1 x1 I1 r1 e1=>Ξ (ht.ld I1 (ϊ (cR x1 I1 e1 nb fun d q=>xy hb I1 (r1.rb.cr I1) q)))))
structure dD (K:τ) (C:Ε):Prop where
 ga:Λ K (.ref C) "__getattribute__" = some (some (.builtin "BaseException.__getattribute__"))
 gn:Λ K (.ref C) "__getattr__" = some none
 cl:Λ K (.ref C) "__class__" = some (some (.builtin "object.__class__"))
 sg:ģ K (.builtin "object.__class__") "__get__" = some (some (.builtin "getset_descriptor.__get__"))
 tk:AE K (.builtin "object.__class__")=some true
 ob:Ϝ K C (.type "object")=some true
 be:Ϝ K C (.type "BaseException")=some true
 is:(Ĩ K C).isSome=true
structure dh (X:Cx) (an:Nat→ι) (c:Nat) (k:Cl) (i:CI):Prop where
 ci:X.W.ci[c]? = some i
 cls:k.what≠2→Cls X.K i.ad
 na:∀ f∈i.nm,cK X.K i.ad f
 wh:X.W.what[c]? = some k.what
 nm:i.nm=k.at_.map an
 nd:i.nm.Nodup
 xc:k.what=2→dD X.K i.ad∧ϫ X.K i.ad=true
theorem rj {names:List ι} {vs:List ζ} {f:ι} {v:ζ} (hn:names.Nodup) {j:Nat} (h1:names[j]? = some f) (h2:vs[j]? = some v):(names.zip vs).lookup f=some v:=by
 induction names generalizing vs j with
 | nil=>simp at h1
 | cons n r ih=>
   cases vs with
   | nil=>simp at h2
   | cons w vs=>
     show (match f == n with | true=>some w | false=>(r.zip vs).lookup f)=some v
     cases j with
     | zero=>simp at h1 h2;subst h1 h2;simp
     | succ j=>
       have h3:r[j]? = some f:=by simpa using h1
       have ne:f≠n:=fun z=>by subst z;exact (ϟ.mp hn).1 (Ζ h3)
       rw [show (f == n)=false by simpa using ne]
       exact ih (ϟ.mp hn).2 h3 (by simpa using h2)
theorem InO.objm {s:ξ} (h:InO s.heap.get? a dx C l):ke s.heap a dx C fun n=>l.lookup n:=let ⟨e,n,_,o,e2,es,ep,r⟩:=h;⟨e,⟨o,es,ep,e2,r⟩,n⟩
theorem ib:∀ {d v},RD W ρ G d v→Ĭ v=true
 | .non,_,h=>by cases (show _=_ from h);rfl
 | .bl _,_,h=>by cases (show _=_ from h);rfl
 | .int _,_,⟨_,h⟩=>h ▸ rfl
 | .str _,_,⟨_,h⟩=>h ▸ rfl
 | .tup _,_,⟨_,_,_,h,_⟩=>h ▸ rfl
 | .lst _,_,⟨_,_,_,h,_⟩=>h ▸ rfl
 | .dic _ _,_,⟨_,_,_,h,_⟩=>h ▸ rfl
 | .ins _ _,_,⟨_,_,_,h,_⟩=>h ▸ rfl
 | .ref _,_,⟨_,_,h⟩=>h ▸ rfl
abbrev cj (X:Cx) (an:Nat→ι):Prop:=∀ (c:Nat) (k:Cl),X.Γ.cl[c]? = some k→∃ i,dh X an c k i
theorem jt (T:cj X an) {c f:Nat} {l:List D} {d2:D} (e:((X.Γ.cl[c]?).bind fun k=>l[k.at_.idxOf f]?)=some d2):∃ k i,∃ j:Nat,X.Γ.cl[c]? = some k∧dh X an c k i∧l[j]? = some d2∧(l.length≤i.nm.length→i.nm[j]? = some (an f)):=by
 obtain ⟨k,q,e⟩:=ϋ.mp e
 obtain ⟨i,ok⟩:=T c k q
 refine ⟨k,i,k.at_.idxOf f,q,ok,e,fun hl=>?_⟩
 have h1:k.at_.idxOf f<l.length:=(ο.mp e).1
 have h2:k.at_.idxOf f<k.at_.length:=by rw [ok.nm,Η] at hl;omega
 rw [ok.nm,Ω,φ h2]
 simp
theorem vq (T:cj X an) (I:Rep X z) {n f:Nat} {d:D} {p:Ε×Ε} (ea:z.ρ[n]? = some p) (e:oX X.Γ z.t.st (.ref n) f=some d):∃ C fs v,InO z.h p.1 p.2 C fs∧Cls X.K C∧cK X.K C (an f)∧fs.lookup (an f)=some v∧RD X.W z.ρ z.G d v:=by
 unfold oX at e
 dsimp only at e
 cases q:z.t.st[n]? with
 | none=>rw [q] at e;cases e
 | some o=>
   rw [q] at e
   cases o with
   | ins c l=>
     dsimp only at e
     obtain ⟨k,i',j,e1,ok,e2,e3⟩:=jt T e
     obtain ⟨i,vs,w1,w2,w3,w4,w5⟩:=I.ob n _ p q ea
     have e4:=ok.ci
     rw [w1] at e4;cases e4
     obtain ⟨v,ev,rv⟩:=w5.get e2
     have wz:k.what≠2:=by have:=ok.wh;rw [w2] at this;have e:=ϭ this;omega
     exact ⟨i'.ad,_,v,w4,ok.cls wz,ok.na _ (Ζ (e3 w3)),rj ok.nd (e3 w3) ev,rv⟩
   | _=>cases e
theorem pa {Q:ζ→ξ→Prop} {E:ζ→ξ→Prop} {A:ϑ} (I:Rep X z) (h:InO z.h a dx C fs) (c:Cls X.K C) (n:cK X.K C f) (l:fs.lookup f=some v) (r:RD X.W z.ρ z.G d v) (q:Q v { z.s with toks:=z.s.toks+1 }):χ X.M A (Be (.ref a) f b) Q E z.s:=
 rT I.toHR.kin (InO.objm h) (c.get f) c.hd n l (ib r) q
theorem vY (T:cj X an) (xr:∀ {z:Z} {a C:Ε} {l:List (ι×ζ)} {f:ι} {v:ζ} {Q:ζ→ξ→Prop} {b:Bool},Rep X z→ExO z.h a C l→l≠[]→dD X.K C→ϫ X.K C=true→Λ X.K (.ref C) f=some none→l.lookup f=some v→Ĭ v=true→Q v { z.s with toks:=z.s.toks+1 }→χ X.M X.A (Be (.ref a) f b) Q NoE z.s)
 (ha:LE X ea a) (hb:ĉ ea (an f) X.env (eval ea X.env)=eval ea X.env):LE X (.Attribute ea (an f) pos) (.fld a f):=fun br z I nb=>
 rz hb ((ha true).go .refl I rfl nb fun z1 x u y1 x1 I1 r1 e1=>cR x1 I1 e1 nb fun d q=>by
  have cr:=r1.rb.cr0 I1
  cases x with
  | ins c l=>
    obtain ⟨a,i,vs,rfl,hc,hl,w,rs⟩:=(cr:RD X.W z1.ρ z1.G (.ins c l) u)
    obtain ⟨k,i',j,e1,ok,e2,e3⟩:=jt T (show ((X.Γ.cl[c]?).bind fun k=>l[k.at_.idxOf f]?)=some d from q)
    have e4:=ok.ci
    rw [hc] at e4;cases e4
    obtain ⟨v,ev,rv⟩:=rs.get e2
    have lk:=rj ok.nd (e3 hl) ev
    have mem:an f∈i.nm:=Ζ (e3 hl)
    rcases w with ⟨w1,dx,ga⟩ | ⟨w2,w⟩
    ·have w3:k.what≠2:=by have:=ok.wh;rw [w1] at this;have e:=ϭ this;omega
     exact pa I1 (ga.sub I1.gh) (ok.cls w3) (ok.na _ mem) lk rv (.old I1 .tok rv)
    ·have w3:k.what=2:=by have:=ok.wh;rw [w2] at this;exact (ϭ this).symm
     exact xr I1 (w.sub I1.gh) (fun z=>by rw [z] at lk;cases lk) (ok.xc w3).1 (ok.xc w3).2 (ok.na _ mem) lk (ib rv) (.old I1 .tok rv)
  | ref n=>
    obtain ⟨p,ep,rfl⟩:=(cr:RD X.W z1.ρ z1.G (.ref n) u)
    obtain ⟨C,fs,v,h1,h2,h3,h4,h5⟩:=vq T I1 ep q
    exact pa I1 h1 h2 h3 h4 h5 (.old I1 .tok h5)
  | _=>cases q)
end
abbrev NoW:Ε→Prop:=fun _=>False
def XC (X:Cx) (z z':Z) (c:Nat) (l:List D) (e:ζ):Prop:=∃ a T cls dx,e = .ref a∧XR X.W z' c l cls dx∧Tr z'.s.heap a cls dx T .none∧(z.h a=none∧z'.G a=none∧¬ Mu z'.ρ a)∧z.h T=none∧z'.G T=none∧¬ Mu z'.ρ T
def CRs (X:Cx) (z:Z) (r:Res) (q:Result) (s':ξ):Prop:=match q with
 | .ok (.ret u)=>∃ z' d,z'.s=s'∧r = .ok d z'.t.st∧Stp X.fr NoW z z'∧HR X z'∧RD X.W z'.ρ z'.G d u
 | .error e=>∃ z' c l,z'.s=s'∧r = .exc c l z'.t.st∧Stp X.fr NoW z z'∧HR X z'∧XC X z z' c l e
 | _=>False
structure FnC (X:Cx) (cal:Nat→List D→List O→Res) (lv j:Nat) (f:Ε) (fd:ù) (ps:List ι):Prop where
 len:∀ ds st,cal j ds st≠.bad→ds.length=ps.length
 run:∀ (A:ϑ) (fr:List AK) (z:Z) (args:Args) (us:List ζ) (ds:List D),aT lv A→HR { X with A:=A,fr:=fr } z→BindsTo z.s fd args (ps.zip us)→RDs X.W z.ρ z.G ds us→cal j ds z.t.st≠.bad →
  Ň X.M A (.call (.ref f) args) (CRs { X with A:=A,fr:=fr } z (cal j ds z.t.st)) z.s
def bz (X:Cx) (cal:Nat→List D→List O→Res) (lv j:Nat) (f:Ε):Prop:=∃ fd ps,FnC X cal lv j f fd ps∧bS X.K fd ps []∧Ϟ X.K (.ref f)=true
mutual
theorem mn {G G':Hp} (k:∀ a o,G a=some o→(∀ l,¬ LsO o l)→G' a=some o):∀ {d:D} {v},noL d=true→RD W ρ G d v→RD W ρ G' d v
 | .non,_,_,e=>e
 | .bl _,_,_,e=>e
 | .int _,_,_,e=>e
 | .str _,_,_,e=>e
 | .ref _,_,_,e=>e
 | .tup _,_,n,⟨a,o,vs,e,t,q,r⟩=>⟨a,o,vs,e,k _ _ t fun l ⟨⟨_,z⟩,_⟩=>by have:=q.1;rw [z] at this;exact ZX this (show Ū "list"≠.type "tuple" by decide),q,cy k n r⟩
 | .dic _ _,_,n,⟨a,o,vs,e,m,t,q,l,r⟩=>⟨a,o,vs,e,m,k _ _ t fun l ⟨⟨_,z⟩,_⟩=>by obtain ⟨_,_,x,_⟩:=q;have:=x.1;rw [z] at this;exact ZX this (show Ū "list"≠.type "dict" by decide),q,l,cy k n r⟩
 | .ins _ _,_,n,⟨a,i,vs,e,hc,l,t,r⟩=>⟨a,i,vs,e,hc,l,t.elim (fun ⟨w,dx,q1,q2,q3,o,q4,q5⟩=>.inl ⟨w,dx,k _ _ q1 (fun l ⟨⟨_,z⟩,_⟩=>by injection z with z;cases z),q2,q3,o,k _ _ q4 (qA q5),q5⟩) (fun ⟨w,o,vs,q1,q2,q3,q4⟩=>.inr ⟨w,o,vs,k _ _ q1 (fun l ⟨⟨_,z⟩,_⟩=>by rw [z] at q3;cases q3),q2,q3,q4.elim .inl fun ⟨d,od,p1,p2,p3⟩=>.inr ⟨d,od,p1,k _ _ p2 (qA p3),p3⟩⟩),cy k n r⟩
 | .lst _,_,n,_=>by cases n
theorem cy {G G':Hp} (k:∀ a o,G a=some o→(∀ l,¬ LsO o l)→G' a=some o):∀ {ds:List D} {vs},eR ds=true→RDs W ρ G ds vs→RDs W ρ G' ds vs
 | [],_,_,e=>e
 | _ :: _,_,n,⟨v,r,e,t,q⟩=>by
   have n:(noL _ && eR _)=true:=n
   rw [Τ] at n
   exact ⟨v,r,e,mn k n.1 t,cy k n.2 q⟩
theorem qA (h:NsO o m):∀ l,¬ LsO o l:=fun l ⟨⟨_,z⟩,_⟩=>by obtain ⟨_,_,q,_⟩:=h;rw [z] at q;cases q
end
section
variable {X:Cx} {z z':Z} {br:Bool}
theorem Stp.slots (S:Stp fr NoW z z') (n:¬ Mu z.ρ a) (e:z.h a=some o):∃ sl,z'.h a=some { o with slots:=sl }:=by
 by_cases f:a∈frs fr
 ·exact S.sl a o e n id f
 ·exact ⟨o.slots,S.sm a o e n id f⟩
open Classical in
theorem Rep.back (I:Rep X z) (p q:Nat→Bool) (S:Stp X.fr NoW (z.rel p) z') (H:HR X z') (pq:∀ i,p i=true→q i=true) (hq:∀ i∈z.t.ow,q i=true→p i=true∨(isLst z.t.env[i]? = true∧z'.t.st.all jP=true)) :
 ∃ zf,zf.s=z'.s∧zf.t=⟨z.t.env,z.t.ow.filter q,z'.t.st⟩∧zf.ρ=z'.ρ∧Rep X zf∧Ee X z zf∧(∀ a,z.h a=none→zf.G a=z'.G a)∧(∀ a o,z'.G a=some o→(∀ l,¬ LsO o l)→zf.G a=some o)∧((∀ i∈z.t.ow,q i=true→p i=true)→Sub z'.G zf.G):=by
 obtain ⟨Ir,xr⟩:=I.rel p
 let Rm:Ε→Prop:=fun a=>∃ i∈z.t.ow,q i=true∧z.σ[i]? = some (some (.ref a))
 have own:∀ {a},Rm a→Own z a:=fun ⟨i,m,_,e⟩=>⟨i,m,e⟩
 let G2:Hp:=fun a=>if Rm a then none else z'.G a
 have yes:∀ {a},Rm a→G2 a=none:=fun h=>ZZ h
 have no:∀ {a},¬ Rm a→G2 a=z'.G a:=fun h=>ZY h
 have g2s:Sub G2 z'.G:=fun a o e=>by
  by_cases c:Rm a
  ·rw [yes c] at e;cases e
  ·rw [no c] at e;exact e
 have gz:Sub z.G G2:=fun a o e=>by
  by_cases c:Rm a
  ·rw [(I.oth (own c)).1.1] at e;cases e
  ·rw [no c];exact S.gg _ _ (xr.st.gg _ _ e)
 have cC:∀ {i:Nat} {a:Ε},i∈z.t.ow→p i=true→z.σ[i]? = some (some (.ref a))→z'.G a=none:=fun {i a} m pi es=>by
  obtain ⟨f,o',e'⟩:=I.oth ⟨i,m,es⟩
  have n:(z.rel p).G a=none:=(cU fun ⟨j,mj,pj,ej⟩=>by rw [I.od j i a mj m ej es,pi] at pj;cases pj).trans f.1
  cases w:z'.G a with
  | none=>rfl
  | some o=>
    rcases S.gn a o w with w | w | w
    ·rw [n] at w;cases w
    ·rw [show (z.rel p).h a=z.h a from rfl,e'] at w;cases w
    ·exact w.elim
 have gp:∀ {a o},Rm a→z'.G a=some o→(∃ l,LsO o l)∧z'.t.st.all jP=true∧¬ ∀ i∈z.t.ow,q i=true→p i=true:=fun {a o} ⟨i,m,qi,es⟩ e=>by
  by_cases pi:p i=true
  ·rw [cC m pi es] at e;cases e
  ·obtain ⟨li,al⟩:=(hq i m qi).resolve_left pi
   obtain ⟨d,b,ob,h1,h2,h3,r,f⟩:=I.eo i m
   rw [es] at h2;cases h2
   refine ⟨?_,al,fun w=>pi (w i m qi)⟩
   rw [h1] at li
   cases d with
   | lst ds=>
     cases h3
     obtain ⟨oo,vs,_,e1,l1,_⟩:=r
     have:=S.gg a oo ((fb ⟨i,m,by simpa using pi,es⟩).trans e1)
     rw [e] at this;cases this
     exact ⟨vs,l1⟩
   | _=>cases li
 have kp:∀ a o,z'.G a=some o→(∀ l,¬ LsO o l)→G2 a=some o:=fun a o e n=>by
  by_cases c:Rm a
  ·obtain ⟨⟨l,h⟩,_⟩:=gp c e;exact ZX h (n l)
  ·rw [no c];exact e
 have kq:(∀ i∈z.t.ow,q i=true→p i=true)→Sub z'.G G2:=fun w a o e=>by
  by_cases c:Rm a
  ·exact ZX w (gp c e).2.2
  ·rw [no c];exact e
 have nn:∀ {a},z'.G a=none→G2 a=none:=fun {a} e=>by
  by_cases c:Rm a
  ·exact yes c
  ·rw [no c];exact e
 have rh:∀ {a},(z.rel p).h a=z.h a:=rfl
 have same:∀ a,¬ Mu z.ρ a→∀ o,z.h a=some o→∃ sl,z'.h a=some { o with slots:=sl }:=fun a n o e=>S.slots n e
 have nmu:∀ {a o},z.h a=some o→¬ Mu z.ρ a→¬ Mu z'.ρ a:=fun {a o} e n m=>(S.rn a m).elim n fun w=>by rw [rh,e] at w;cases w
 have nG:∀ {a o},z.h a=some o→(z.rel p).G a=none→z'.G a=none:=fun {a o} e n=>by
  cases w:z'.G a with
  | none=>rfl
  | some o'=>
    rcases S.gn a o' w with w | w | w
    ·rw [n] at w;cases w
    ·rw [rh,e] at w;cases w
    ·exact w.elim
 have ob2:∀ (n:Nat) (o:O) (pp:Ε×Ε),z'.t.st[n]? = some o→z'.ρ[n]? = some pp→ObR X.W z'.ρ G2 z'.h pp o:=fun n o pp h1 h2=>by
  by_cases w:∀ i∈z.t.ow,q i=true→p i=true
  ·exact (H.ob n o pp h1 h2).mono (κ _) (kq w) fun _ _ _ e=>e
  ·by_cases al:z'.t.st.all jP=true
   ·have nl:=ϝ.mp al o (Ζ h1)
    cases o with
    | lst l=>cases nl
    | dic ks l=>obtain ⟨o,vs,a1,a2,a3,a4,a5,a6⟩:=H.ob n _ pp h1 h2;exact ⟨o,vs,a1,a2,a3,a4,a5,cy kp nl a6⟩
    | ins c l=>obtain ⟨i,vs,a1,a2,a3,a4,a5⟩:=H.ob n _ pp h1 h2;exact ⟨i,vs,a1,a2,a3,a4,cy kp nl a5⟩
   ·exact ZX (fun i m qi=>(hq i m qi).resolve_right fun v=>al v.2) w
 refine ⟨⟨z'.ρ,G2,⟨z.t.env,z.t.ow.filter q,z'.t.st⟩,z.σ,z'.s⟩,rfl,rfl,rfl,⟨⟨H.md,H.fm,H.hd,fun b o e=>gz _ _ (I.bs b o e),g2s.trans H.gh,H.rl,H.rn,fun a m=>nn (H.rg a m),ob2,H.fu,fun b m=>⟨nn (H.ff b m).1,(H.ff b m).2⟩,H.br,H.os⟩,I.ok,?_,fun x c e=>?_,fun a l=>?_,I.el,I.sl,fun i d n e=>?_,fun i m=>?_,fun i j a m1 m2=>I.od i j a (ϕ.mp m1).1 (ϕ.mp m2).1⟩,⟨⟨S.pr,gz,fun a o e=>?_,S.rn,S.th,fun a o e n w f=>S.sm a o e n id f,fun a o e n w f=>S.sl a o e n id f⟩,rfl,rfl,fun i m=>(ϕ.mp m).1⟩,fun a e=>?_,kp,kq⟩
 ·obtain ⟨m,hn,hl⟩:=I.lo
  have cl:∀ c v,(∃ x,X.env.cells.lookup x=some c)→z.s.heap.IsCell c v→z'.s.heap.IsCell c v:=fun c v ⟨x,ex⟩ ⟨o,e,d⟩=>let ⟨_,w⟩:=same c (I.fl c (.inr ⟨x,ex⟩)).2 o e;⟨_,w,d⟩
  obtain ⟨oL,es,ep,eL,r⟩:=hn
  obtain ⟨sl,w⟩:=same _ (I.fl _ (.inl rfl)).2 oL eL
  exact ⟨m,⟨_,es,ep,w,r⟩,fun i x u h1 h2 h3=>cP (fun c v e q=>cl c v ⟨x,e⟩ q) (hl i x u h1 h2 h3)⟩
 ·obtain ⟨v,o,e1,d⟩:=I.ce x c e
  obtain ⟨sl,w⟩:=same c (I.fl c (.inr ⟨x,e⟩)).2 o e1
  exact ⟨v,_,w,d⟩
 ·obtain ⟨o,e⟩:=I.lth l
  exact ⟨nn (nG e (Ir.fl a l).1),nmu e (I.fl a l).2⟩
 ·by_cases m:i∈z.t.ow
  ·obtain ⟨d',a,o,h1,h2,h3,r,f⟩:=I.eo i m
   rw [show z.t.env[i]? = some (some d) from e] at h1;cases h1
   have qf:¬ q i=true:=fun w=>n (ϕ.mpr ⟨m,w⟩)
   have pf:p i=false:=by cases w:p i with
    | false=>rfl
    | true=>exact ZX (pq i w) qf
   obtain ⟨oa,ea⟩:=r.th.1
   refine ⟨_,h2,iU h3 (r.mono (h':=z.h) S.pr (Sub.refl _) fun _ _ _ e=>e) gz ?_⟩
   have nr:¬ Rm a:=fun ⟨j,mj,qj,ej⟩=>by rw [I.od j i a mj m ej h2] at qj;exact qf qj
   exact (no nr).trans ((S.gg a oa ((fb ⟨i,m,pf,h2⟩).trans ea)).trans ea.symm)
  ·obtain ⟨u,w,r⟩:=I.en i d m e
   exact ⟨u,w,r.mono S.pr gz⟩
 ·obtain ⟨m1,m2⟩:=ϕ.mp m
  obtain ⟨d',a,o,h1,h2,h3,r,f⟩:=I.eo i m1
  obtain ⟨oa,ea⟩:=r.th.1
  refine ⟨d',a,o,h1,h2,h3,r.mono S.pr gz fun b hb o e=>?_,yes ⟨i,m1,m2,h2⟩,nmu ea f.2.1,f.2.2⟩
  have hb:b=a:=hb.elim id id
  subst hb
  exact S.sm b o e f.2.1 id f.2.2.1
 ·rcases S.gn a o (g2s a o e) with w | w | w
  ·by_cases c:jj z p a
   ·obtain ⟨i,m,_,e⟩:=c;exact .inr (.inr ⟨i,m,e⟩)
   ·rw [cU c] at w;exact .inl w
  ·exact .inr (.inl w)
  ·exact w.elim
 ·exact no fun c=>by obtain ⟨o,w⟩:=(I.oth (own c)).2;rw [e] at w;cases w
theorem rI {a r:E} (m:i∈bu r):i∈bu (.cons a r):=by cases a <;> first | exact ν _ m | exact m
theorem i7 (I:Rep X (z.rel p)) (gg:Sub z.G (z.rel p).G) (k:∀ i∈bu c,p i=false) {c' ds us} (hs:∀ i∈bu c',i∈bu c) (h:RVs X.W true c' z ds us):RDs X.W z.ρ (z.rel p).G ds us:=
 RVs.ind (P:=fun c' ds us=>(∀ i∈bu c',i∈bu c)→RDs X.W z.ρ (z.rel p).G ds us) (fun _=>rfl) (fun a r d ds u us h _ ih hs=>by
  refine .cons ?_ (ih fun i m=>hs i (rI m))
  rcases h with h | ⟨_,i,rfl,m,e1,e2⟩
  ·exact h.mono (κ _) gg
  ·obtain ⟨u',q,r⟩:=I.en i d (fun w=>by have:=(ϕ.mp w).2;rw [k i (hs i μ)] at this;cases this) e2
   rw [show z.σ[i]? = some (some u') from q] at e1;cases e1;exact r) c' ds us h hs
theorem fY {o:Out D} (F:bz X X.cal lv j f) (hr:aT lv X.A) (x:Ee X z0 z) (I:Rep X z) (rd:RDs X.W z.ρ (z.rel fun i=>!(bu es).contains i).G ds us) (e:o=gx X.cal es j ds z.t) (nb:o≠.bad):χ X.M X.A (call (.ref f) us) (Pe X z0 o (RV X.W br c)) (Px X z0 o) z.s:=by
 obtain ⟨Ir,xr⟩:=I.rel fun i=>!(bu es).contains i
 obtain ⟨fd,ps,F,hb,kp⟩:=F
 subst e
 have nbc:X.cal j ds z.t.st≠.bad:=fun q=>nb (by unfold gx;rw [q])
 have hl:us.length=ps.length:=rd.len ▸ F.len _ _ nbc
 have bd:=hb z.s us I.toHR.kin (by rw [ώ];exact hl)
 rw [ώ] at bd
 refine Ă (â (F.run X.A X.fr (z.rel fun i=>!(bu es).contains i) ⟨us,[]⟩ us ds hr Ir.toHR bd rd nbc) fun q s' hq=>?_)
 cases q with
 | error e=>
   obtain ⟨z',c,l,rfl,er,S,H,a,T,cls,dx,rfl,xr',tr,⟨na,ga,ma⟩,nT,gT,mT⟩:=hq
   obtain ⟨zf,e1,e2,e3,If,xf,k1,k2,k3⟩:=I.back (fun i=>!(bu es).contains i) _ S H (fun _ h=>h) fun _ _ h=>.inl h
   have nob:∀ {b:Ε},z.h b=none→z'.G b=none→¬ Mu z'.ρ b→Nob X z zf b:=fun {b} n g m=>by
    have ⟨f,no⟩:=I.fre n
    exact ⟨n,⟨(k1 b n).trans g,e3 ▸ m,f.2.2⟩,fun w=>no (xf.own w)⟩
   refine Px.less x ⟨zf,c,l,e1,by unfold gx;rw [show X.cal j ds z.t.st=_ from er,e2];rfl,xf,If,a,cls,dx,rfl,?_,nob na ga ma,.inr ⟨T,.none,e1 ▸ tr,.inl rfl,nob nT gT mT⟩⟩
   obtain ⟨i,a1,a2,a3,a4,a5⟩:=xr'
   refine ⟨i,a1,a2,a3,a4,a5.imp_right fun ⟨d,od,vs,b1,b2,b3,b4⟩=>⟨d,od,vs,b1,k2 _ _ b2 (qA b3),b3,?_⟩⟩
   rw [e3];exact b4.mono (κ _) (k3 fun _ _ h=>h)
 | ok fl=>
   cases fl with
   | ret u=>
     obtain ⟨z',d,rfl,er,S,H,r⟩:=hq
     obtain ⟨zf,e1,e2,e3,If,xf,k1,k2,k3⟩:=I.back (fun i=>!(bu es).contains i) (fun i=>!(bu es).contains i || (isLst z.t.env[i]? && (noL d && z'.t.st.all jP))) S H (fun i h=>by rw [h];rfl) fun i _ h=>by
      cases w:(!(bu es).contains i) with
      | true=>exact .inl rfl
      | false=>rw [w,DE,Τ,Τ] at h;exact .inr ⟨h.1,h.2.2⟩
     refine Pe.less x ⟨zf,d,e1,by unfold gx;rw [show X.cal j ds z.t.st=_ from er,e2];rfl,xf,If,.of ?_⟩
     rw [e3]
     cases w:noL d with
     | true=>exact mn k2 w r
     | false=>exact r.mono (κ _) (k3 fun i _ h=>by rw [w,Dp,Br,Ű] at h;exact h)
   | next=>exact hq.elim
   | brk=>exact hq.elim
   | cont=>exact hq.elim
theorem fE {es:E}:∀ i∈bu es,(!(bu es).contains i)=false:=fun i m=>by simpa using m
theorem sx {x:ι} (F:bz X X.cal lv j f) (hr:aT lv X.A) (hg:Gl X x) (hm:X.mg x=some (.ref f)) (ha:LA X (ea :: er) es) (hd:(x == ("__debug__":ι))=false) (he:Α (ea :: er) X.env=(false,eval ea X.env) :: Α er X.env) (hpl:(ϲ pos (Α er X.env)).any (·.1)=false):LE X (.Call (.Name x p) (ea :: er) [] pos) (.call j es):=fun br z I nb=>
 Ê (aW I hg hm (Ą (h₀:=X.base) I.md.kin (let ⟨_,_,_,_,k⟩:=F;k) ((ha true pos).go .refl I rfl nb fun z1 l us y1 x1 I1 r1 e1=>⟨I1.toHR.kin,fY F hr x1 I1 (i7 (I1.rel _).1 (I1.rel _).2.st.gg fE (fun _ h=>h) r1) e1 nb⟩) he hpl) hd)
end
mutual
theorem kR:∀ {d:D} {v},noR d=true→RD W ρ G d v→RD W ρ' G d v
 | .non,_,_,e=>e
 | .bl _,_,_,e=>e
 | .int _,_,_,e=>e
 | .str _,_,_,e=>e
 | .ref _,_,n,_=>by cases n
 | .tup _,_,n,⟨a,o,vs,e,t,q,r⟩=>⟨a,o,vs,e,t,q,aR n r⟩
 | .lst _,_,n,⟨a,o,vs,e,t,q,r⟩=>⟨a,o,vs,e,t,q,aR n r⟩
 | .dic _ _,_,n,⟨a,o,vs,e,m,t,q,l,r⟩=>⟨a,o,vs,e,m,t,q,l,aR n r⟩
 | .ins _ _,_,n,⟨a,i,vs,e,hc,l,t,r⟩=>⟨a,i,vs,e,hc,l,t,aR n r⟩
theorem aR:∀ {ds:List D} {vs},az ds=true→RDs W ρ G ds vs→RDs W ρ' G ds vs
 | [],_,_,e=>e
 | _ :: _,_,n,⟨v,r,e,t,q⟩=>by
   have n:(noR _ && az _)=true:=n
   rw [Τ] at n
   exact ⟨v,r,e,kR n.1 t,aR n.2 q⟩
end
theorem fZ (k:Nat):∀ l:List D,(gJ k l).length=l.length
 | []=>rfl
 | _ :: r=>ZS (· + 1) (fZ k r)
section
variable {X:Cx} {z z' z0:Z} {br:Bool}
abbrev Z.bare (z:Z):Z:={ z with ρ:=[],t:=⟨z.t.env,z.t.ow,[]⟩ }
theorem dU:¬ Mu [] a:=fun ⟨_,h,_⟩=>nomatch h
theorem HR.bare (I:HR X z):HR X z.bare:=⟨I.md,I.fm,I.hd,I.bs,I.gh,rfl,fun _ _ _ _ _ h=>by simp at h,fun _ m=>(dU m).elim,fun _ _ _ h=>by simp at h,I.fu,fun b m=>⟨(I.ff b m).1,dU⟩,I.br,I.os⟩
theorem Rep.hout (I:Rep X z) (S:Stp X.fr NoW z.bare z') (H:HR X z'):Rep X { z with G:=z'.G,s:=z'.s }∧Ee X z { z with G:=z'.G,s:=z'.s }:=by
 have gn:∀ a o,z'.G a=some o→z.G a=some o∨z.h a=none:=fun a o e=>(S.gn a o e).imp_right fun w=>w.elim id Ń
 exact ⟨I.grw (H.os.trans I.os.symm) H.br (fun b o e f=>S.sm b o e dU id f) (fun b o e=>S.slots dU e) S.gg H.gh fun a o e=>(gn a o e).imp_right I.fre,⟨κ _,S.gg,fun a o e=>(gn a o e).imp_right .inl,fun _ m=>.inl m,S.th,fun a o e _ _ f=>S.sm a o e dU id f,fun a o e _ _ f=>S.sl a o e dU id f⟩,rfl,rfl,fun _ h=>h⟩
mutual
theorem RD.sh:∀ {d:D} {v},RD W ρ' G d v→RD W (ρ ++ ρ') G (shD ρ.length d) v
 | .non,_,e=>e
 | .bl _,_,e=>e
 | .int _,_,e=>e
 | .str _,_,e=>e
 | .ref n,_,⟨p,e,q⟩=>⟨p,by rw [Ρ (B1 ..),ł];exact e,q⟩
 | .tup _,_,⟨a,o,vs,e,t,q,r⟩=>⟨a,o,vs,e,t,q,r.sh⟩
 | .lst _,_,⟨a,o,vs,e,t,q,r⟩=>⟨a,o,vs,e,t,q,r.sh⟩
 | .dic _ _,_,⟨a,o,vs,e,m,t,q,l,r⟩=>⟨a,o,vs,e,m,t,q,l.trans (fZ _ _).symm,r.sh⟩
 | .ins _ _,_,⟨a,i,vs,e,hc,l,t,r⟩=>⟨a,i,vs,e,hc,by rw [fZ];exact l,t,r.sh⟩
theorem RDs.sh:∀ {ds:List D} {vs},RDs W ρ' G ds vs→RDs W (ρ ++ ρ') G (gJ ρ.length ds) vs
 | [],_,e=>e
 | _ :: _,_,⟨v,r,e,t,q⟩=>⟨v,r,e,t.sh,q.sh⟩
end
theorem ObR.sh:∀ {o:O},ObR W ρ' G h p o→ObR W (ρ ++ ρ') G h p (shO ρ.length o)
 | .lst _,⟨o,vs,z,e,q,r⟩=>⟨o,vs,z,e,q,r.sh⟩
 | .dic _ _,⟨o,vs,z,m,e,q,l,r⟩=>⟨o,vs,z,m,e,q,l.trans (fZ _ _).symm,r.sh⟩
 | .ins _ _,⟨i,vs,c,w,l,e,r⟩=>⟨i,vs,c,w,by rw [fZ];exact l,e,r.sh⟩
theorem dR:Mu (ρ ++ ρ') a↔Mu ρ a∨Mu ρ' a:=⟨fun ⟨p,h,e⟩=>(Ϡ.mp h).imp (fun h=>⟨p,h,e⟩) fun h=>⟨p,h,e⟩,fun h=>h.elim (fun ⟨p,h,e⟩=>⟨p,É _ h,e⟩) fun ⟨p,h,e⟩=>⟨p,Ã _ h,e⟩⟩
theorem Rep.more {os:List O} {ρ':Rs} (I:Rep X z) (hl:ρ'.length=os.length) (nw:∀ a,Mu ρ' a→Fre X z a∧¬ Own z a) (rn:∀ (i j:Nat) (p q:Ε×Ε) (a:Ε),ρ'[i]? = some p→ρ'[j]? = some q→(a=p.1∨a=p.2)→(a=q.1∨a=q.2)→i=j)
 (ob:∀ (n:Nat) (o:O) (p:Ε×Ε),os[n]? = some o→ρ'[n]? = some p→ObR X.W (z.ρ ++ ρ') z.G z.h p o):Rep X { z with ρ:=z.ρ ++ ρ',t:=⟨z.t.env,z.t.ow,z.t.st ++ os⟩ }:=by
 have rl:=I.rl
 have pre:z.ρ <+: z.ρ ++ ρ':=ê _ _
 have at_:∀ {i:Nat} {p:Ε×Ε},(z.ρ ++ ρ')[i]? = some p→(i<z.ρ.length∧z.ρ[i]? = some p)∨(z.ρ.length≤i∧ρ'[i - z.ρ.length]? = some p):=fun {i p} h=>by
  by_cases c:i<z.ρ.length
  ·rw [Ψ c] at h;exact .inl ⟨c,h⟩
  ·rw [Ρ (by omega)] at h;exact .inr ⟨by omega,h⟩
 have mem:∀ {i:Nat} {p:Ε×Ε} {l:Rs} {a:Ε},l[i]? = some p→(a=p.1∨a=p.2)→Mu l a:=fun h e=>⟨_,Ζ h,e⟩
 refine ⟨⟨I.md,I.fm,I.hd,I.bs,I.gh,by show (z.ρ ++ ρ').length=(z.t.st ++ os).length;simp only [ω];omega,fun i j p q a h1 h2 h3 h4=>?_,fun a m=>(dR.mp m).elim (I.rg a) fun m=>(nw a m).1.1,fun n o p h1 h2=>?_,I.fu,fun b m=>⟨(I.ff b m).1,fun h=>(dR.mp h).elim (I.ff b m).2 fun h=>(nw b h).1.2.2.1 m⟩,I.br,I.os⟩,I.ok,I.lo,I.ce,fun a l=>⟨(I.fl a l).1,fun h=>(dR.mp h).elim (I.fl a l).2 fun h=>(nw a h).1.2.2.2 l⟩,I.el,I.sl,fun i d n e=>let ⟨u,q,r⟩:=I.en i d n e;⟨u,q,r.mono pre (.refl _)⟩,fun i m=>?_,I.od⟩
 ·rcases at_ h1 with ⟨c1,w1⟩ | ⟨c1,w1⟩ <;> rcases at_ h2 with ⟨c2,w2⟩ | ⟨c2,w2⟩
  ·exact I.rn i j p q a w1 w2 h3 h4
  ·exact ZX (mem w1 h3) (nw a (mem w2 h4)).1.2.1
  ·exact ZX (mem w2 h4) (nw a (mem w1 h3)).1.2.1
  ·have:=rn _ _ p q a w1 w2 h3 h4;omega
 ·have h1:(z.t.st ++ os)[n]? = some o:=h1
  rcases at_ h2 with ⟨c1,w1⟩ | ⟨c1,w1⟩
  ·rw [Ψ (by omega)] at h1
   exact (I.ob n o p h1 w1).mono pre (.refl _) fun _ _ _ e=>e
  ·rw [Ρ (by omega),← rl] at h1
   exact ob _ o p h1 w1
 ·obtain ⟨d,a,o,h1,h2,h3,r,f⟩:=I.eo i m
  exact ⟨d,a,o,h1,h2,h3,r.mono pre (.refl _) fun _ _ _ e=>e,f.1,fun h=>(dR.mp h).elim f.2.1 fun h=>(nw a h).2 ⟨i,m,h2⟩,f.2.2⟩
theorem pT {x:ι} (F:bz X X.cal lv j f) (hr:aT lv X.A) (hg:Gl X x) (hm:X.mg x=some (.ref f)) (ha:LA X (ea :: er) es) (hd:(x == ("__debug__":ι))=false) (he:Α (ea :: er) X.env=(false,eval ea X.env) :: Α er X.env) (hpl:(ϲ pos (Α er X.env)).any (·.1)=false):LE X (.Call (.Name x p) (ea :: er) [] pos) (.hcall j es):=fun br z I nb=>
 Ê (aW I hg hm (Ą (h₀:=X.base) I.md.kin (let ⟨_,_,_,_,k⟩:=F;k) ((ha false pos).go .refl I rfl nb fun z1 l us y1 x1 I1 r1 e1=>⟨I1.toHR.kin,by
  obtain ⟨fd,ps,F,hb,kp⟩:=F
  unfold rV at e1
  by_cases nr:az l=true
  ·rw [ZZ nr] at e1
   have nbc:X.cal j l []≠.bad:=fun q=>by rw [q] at e1;exact nb e1
   have rd:RDs X.W z1.bare.ρ z1.bare.G l us:=aR nr r1.rds
   have hl:us.length=ps.length:=rd.len ▸ F.len _ _ nbc
   have bd:=hb z1.s us I1.toHR.kin (by rw [ώ];exact hl)
   rw [ώ] at bd
   refine Ă (â (F.run X.A X.fr z1.bare ⟨us,[]⟩ us l hr I1.toHR.bare bd rd nbc) fun q s' hq=>?_)
   cases q with
   | error e=>
     obtain ⟨z',c,l',rfl,er,S,H,a,T,cls,dx,rfl,xr',tr,⟨na,ga,ma⟩,nT,gT,mT⟩:=hq
     rw [show X.cal j l []=_ from er] at e1
     obtain ⟨If,xf⟩:=I1.hout S H
     by_cases n2:az l'=true
     ·have e1:=e1.trans (ZZ n2)
      have nob:∀ {b:Ε},z1.h b=none→z'.G b=none→Nob X z1 { z1 with G:=z'.G,s:=z'.s } b:=fun {b} n g=>by
       have ⟨f,no⟩:=I1.fre n
       exact ⟨n,⟨g,f.2⟩,no⟩
      refine Px.less x1 ⟨{ z1 with G:=z'.G,s:=z'.s },c,l',rfl,e1,xf,If,a,cls,dx,rfl,?_,nob na ga,.inr ⟨T,.none,tr,.inl rfl,nob nT gT⟩⟩
      obtain ⟨i,a1,a2,a3,a4,a5⟩:=xr'
      exact ⟨i,a1,a2,a3,a4,a5.imp_right fun ⟨d,od,vs,b1,b2,b3,b4⟩=>⟨d,od,vs,b1,b2,b3,aR n2 b4⟩⟩
     ·exact ZX (e1.trans (ZY n2)) nb
   | ok fl=>
     cases fl with
     | ret u=>
       obtain ⟨z',d,rfl,er,S,H,r⟩:=hq
       rw [show X.cal j l []=_ from er] at e1
       obtain ⟨If,xf⟩:=I1.hout S H
       by_cases n2:noR d=true
       ·have e1:=e1.trans (show (if noR d=true then Out.ok d z1.t else _)=_ from ZZ n2)
        exact Pe.less x1 ⟨{ z1 with G:=z'.G,s:=z'.s },d,rfl,e1,xf,If,.of (kR n2 r)⟩
       ·have e1:=e1.trans (show (if noR d=true then Out.ok d z1.t else _)=_ from ZY n2)
        have new:∀ a,Mu z'.ρ a→z1.h a=none:=fun a m=>(S.rn a m).elim (fun m=>(dU m).elim) id
        have I2:=If.more (ρ':=z'.ρ) (os:=z'.t.st.map (shO z1.t.st.length)) (by rw [Η];exact H.rl) (fun a m=>let ⟨f,no⟩:=I1.fre (new a m);⟨⟨H.rg a m,f.2⟩,no⟩) H.rn (fun n o p h1 h2=>by
         rw [Ω,π] at h1
         obtain ⟨o',h1,rfl⟩:=h1
         rw [← I1.rl];exact (H.ob n o' p h1 h2).sh)
        refine Pe.less x1 ⟨{ z1 with ρ:=z1.ρ ++ z'.ρ,G:=z'.G,t:=⟨z1.t.env,z1.t.ow,z1.t.st ++ z'.t.st.map (shO z1.t.st.length)⟩,s:=z'.s },shD z1.t.st.length d,rfl,e1,⟨⟨ê _ _,xf.st.gg,xf.st.gn,fun a m=>(dR.mp m).imp_right (new a),xf.st.th,xf.st.sm,xf.st.sl⟩,rfl,rfl,fun _ h=>h⟩,I2,.of ?_⟩
        rw [← I1.rl];exact r.sh
     | next=>exact hq.elim
     | brk=>exact hq.elim
     | cont=>exact hq.elim
  ·rw [ZY nr] at e1;exact ZX e1 nb⟩) he hpl) hd)
structure mL (X:Cx) (an:Nat→ι) (m:ι) (c:Nat) (f:Ε):Prop where
 ex:∃ i k,X.Γ.cl[c]? = some k∧dh X an c k i∧k.what=0∧xu X.K i.ad m f∧m ∉ i.nm
theorem rq {l:List ι} {vs:List ζ} (h:m ∉ l):(l.zip vs).lookup m=none:=by
 induction l generalizing vs with
 | nil=>rfl
 | cons n r ih=>
   cases vs with
   | nil=>rfl
   | cons w vs=>
     show (match m == n with | true=>some w | false=>(r.zip vs).lookup m)=none
     rw [show (m == n)=false from ZU.mpr fun z=>h (by rw [z];exact μ)]
     exact ih fun z=>h (ν _ z)
theorem lX {n:Nat} {l:List D} {p:Ε×Ε} {Q:ζ×List ζ→ξ→Prop} {E:ζ→ξ→Prop} {pl:Dh Bool} (M:mL X an m c f) (I:Rep X z) (e:z.t.st[n]? = some (.ins c l)) (ep:z.ρ[n]? = some p) (q:Q (.ref f,[.ref p.1]) z.s):χ X.M X.A (Bz (.ref p.1) m pl) Q E z.s:=by
 obtain ⟨i,k,hc,ok,w,hm,nm⟩:=M.ex
 obtain ⟨i',vs,w1,w2,w3,w4,w5⟩:=I.ob n _ p e ep
 have e4:=ok.ci
 rw [w1] at e4;cases e4
 exact pc I.toHR.kin (InO.objm w4) ((ok.cls (by omega)).get m) hm.at_ hm.fn (rq nm) q
theorem lY {o:Out D} {f:List D→Sta→Out D} {x:D} (e:o=(match x with
 | .ref p=>(match z.t.st[p]? with
   | some (.ins c' _)=>if c'=c then (X.evs true es z.t).bind fun l s=>gx X.cal es j (x :: l) s else .bad
   | _=>.bad)
 | _=>.bad)) (nb:o≠.bad):∃ n l,x = .ref n∧z.t.st[n]? = some (.ins c l)∧o=(X.evs true es z.t).bind fun l s=>gx X.cal es j (.ref n :: l) s:=by
 cases x with
 | ref n=>
   dsimp only at e
   cases q:z.t.st[n]? with
   | none=>rw [q] at e;exact ZX e nb
   | some ob=>
     rw [q] at e
     cases ob with
     | ins c' l=>
       dsimp only at e
       by_cases h:c'=c
       ·subst h;rw [ZZ rfl] at e;exact ⟨n,l,rfl,q,e⟩
       ·rw [ZY h] at e;exact ZX e nb
     | _=>exact ZX e nb
 | _=>exact ZX e nb
theorem v7 (F:bz X X.cal lv j f) (hr:aT lv X.A) (M:mL X an m c f) (ho:LE X eo a) (ha:LA X (ea :: er) es) (he:Α (ea :: er) X.env=(false,eval ea X.env) :: Α er X.env) (hpl:(ϲ pos (Α er X.env)).any (·.1)=false)
 (ht:eval (.Call (.Attribute eo m apos) (ea :: er) [] pos) X.env=(do
  let ov ← eval eo X.env
  ņ apos.atName
  let (f,first) ← holding [ov] (Bz ov m pl)
  Ś pos f first (ϲ pos (Α (ea :: er) X.env)) (È pos (Ϩ [] X.env)))):LE X (.Call (.Attribute eo m apos) (ea :: er) [] pos) (.mth c j a es):=fun br z I nb=>
 Ŀ (pl:=pl) ((ho true).go .refl I rfl nb fun z1 x u y1 x1 I1 r1 e1=>by
  obtain ⟨n,l,rfl,q,e1⟩:=lY (f:=fun _ _=>.bad) e1 nb
  obtain ⟨p,ep,rfl⟩:=(r1.rb.cr0 I1:RD X.W z1.ρ z1.G (.ref n) u)
  exact lX M I1 q ep (Ą (first:=[.ref p.1]) (h₀:=X.base) I.md.kin (let ⟨_,_,_,_,k⟩:=F;k) ((ha true pos).go x1 I1 e1 nb fun z2 l us y2 x2 I2 r2 e2=>⟨I2.toHR.kin,fY (us:=.ref p.1 :: us) F hr x2 I2 (.cons (d:=.ref n) ⟨p,iW y2.st.pr ep,rfl⟩ (i7 (I2.rel _).1 (I2.rel _).2.st.gg fE (fun _ h=>h) r2)) e2 nb⟩) he hpl)) ht
theorem sC (F:bz X X.cal lv j f) (hr:aT lv X.A) (M:mL X an m c f) (ho:LE X eo a)
 (ht:eval (.Call (.Attribute eo m apos) [] [] pos) X.env=(do
  let ov ← eval eo X.env
  ņ apos.atName
  let (f,first) ← holding [ov] (Bz ov m pl)
  Ś pos f first (ϲ pos (Α [] X.env)) (È pos (Ϩ [] X.env)))):LE X (.Call (.Attribute eo m apos) [] [] pos) (.mth c j a .nil):=fun br z I nb=>
 Ŀ (pl:=pl) ((ho true).go .refl I rfl nb fun z1 x u y1 x1 I1 r1 e1=>by
  obtain ⟨n,l,rfl,q,e1⟩:=lY (f:=fun _ _=>.bad) e1 nb
  obtain ⟨p,ep,rfl⟩:=(r1.rb.cr0 I1:RD X.W z1.ρ z1.G (.ref n) u)
  exact lX M I1 q ep (BN (first:=[.ref p.1]) I1.toHR.kin (let ⟨_,_,_,_,k⟩:=F;k) (fY (us:=[.ref p.1]) (es:=.nil) F hr x1 I1 (.cons (d:=.ref n) (ds:=[]) ⟨p,ep,rfl⟩ rfl) e1 nb))) ht
theorem gj (C:Ε) (us:List ζ) (kw:List (ι×ζ)):(X.A.under (.builtin "type.__call__" ⟨.ref C :: us,kw⟩)).frames=X.A.frames:=by simp [BI,Code.envs,BR,pushEnvs]
theorem iP:Mu (ρ ++ [p]) a↔Mu ρ a∨a=p.1∨a=p.2:=by
 constructor
 ·rintro ⟨q,h,e⟩
  rcases Ϡ.mp h with h | h
  ·exact .inl ⟨q,h,e⟩
  ·cases η.mp h;exact .inr e
 ·rintro (⟨q,h,e⟩ | e)
  ·exact ⟨q,É _ h,e⟩
  ·exact ⟨p,Ã _ μ,e⟩
theorem cq {l:List α} (e:(l ++ [a])[n]? = some b):l[n]? = some b∨(n=l.length∧b=a):=by
 rcases Nat.lt_trichotomy n l.length with h | h | h
 ·rw [Ψ h] at e;exact .inl e
 ·subst h;rw [Ρ (Ο _),Ő] at e;cases e;exact .inr ⟨rfl,rfl⟩
 ·rw [Ρ (đ h),C2 (by simp;omega)] at e;cases e
theorem HR.snoc (I:HR X z) (g:Gr z.s s') (hp:z.h p.1=none∧z.h p.2=none) (r:ObR X.W (z.ρ ++ [p]) z.G s'.heap.get? p o):HR X { z with ρ:=z.ρ ++ [p],t:=⟨z.t.env,z.t.ow,z.t.st ++ [o]⟩,s:=s' }∧Stp X.fr w z { z with ρ:=z.ρ ++ [p],t:=⟨z.t.env,z.t.ow,z.t.st ++ [o]⟩,s:=s' }:=by
 have nn:∀ {a:Ε},(a=p.1∨a=p.2)→z.h a=none:=fun h=>h.elim (fun e=>e ▸ hp.1) fun e=>e ▸ hp.2
 have pre:z.ρ <+: z.ρ ++ [p]:=ê _ _
 have no:∀ {a:Ε} {P:Prop},(a=p.1∨a=p.2)→(∃ o,z.h a=some o)→P:=fun h ⟨o,e⟩=>by rw [nn h] at e;cases e
 have old:∀ {i:Nat} {q:Ε×Ε} {a:Ε},z.ρ[i]? = some q→(a=q.1∨a=q.2)→∃ o,z.h a=some o:=fun h1 h2=>I.th ⟨_,Ζ h1,h2⟩
 refine ⟨⟨I.md,I.fm,I.hd,I.bs,fun a o e=>g.k a o (I.gh a o e),by simp [I.rl],fun i j q1 q2 a h1 h2 h3 h4=>?_,fun a m=>?_,fun n o' q h1 h2=>?_,nfu I.fu g.k,fun b m=>⟨(I.ff b m).1,fun w=>(iP.mp w).elim (I.ff b m).2 fun w=>no w (I.fth m)⟩,by show Ō s'.gens;rw [g.gs];exact I.br,g.os.trans I.os⟩,⟨pre,.refl _,fun _ _ e=>.inl e,fun a m=>(iP.mp m).imp_right nn,fun a o e=>⟨o,g.k a o e⟩,fun a o e _ _ _=>g.k a o e,fun a o e _ _ _=>⟨o.slots,g.k a o e⟩⟩⟩
 ·rcases cq h1 with a1 | ⟨a1,b1⟩
  ·rcases cq h2 with a2 | ⟨a2,b2⟩
   ·exact I.rn i j q1 q2 a a1 a2 h3 h4
   ·subst b2;exact no h4 (old a1 h3)
  ·subst b1
   rcases cq h2 with a2 | ⟨a2,b2⟩
   ·exact no h3 (old a2 h4)
   ·rw [a1,a2]
 ·rcases iP.mp m with m | m
  ·exact I.rg a m
  ·cases q:z.G a with
   | none=>rfl
   | some o=>exact no m ⟨o,I.gh a o q⟩
 ·rcases cq h2 with a2 | ⟨a2,b2⟩
  ·rcases cq h1 with a1 | ⟨a1,_⟩
   ·exact (I.ob n o' q a1 a2).mono pre (.refl _) fun a _ o e=>g.k a o e
   ·have:=(ο.mp a2).1;rw [I.rl] at this;omega
  ·subst b2
   rcases cq h1 with a1 | ⟨_,b1⟩
   ·have:=(ο.mp a1).1;rw [← I.rl] at this;omega
   ·subst b1;exact r
theorem HR.at {A:ϑ} (I:HR X z) (f:A.frames=X.A.frames) (h:A.handled=X.A.handled):HR { X with A:=A } z:=⟨I.md,f.trans I.fm,fun c=>h.trans (I.hd c),I.bs,I.gh,I.rl,I.rn,I.rg,I.ob,I.fu,I.ff,I.br,I.os⟩
theorem tG {o:Out D} {j:Nat} {cl:Cl} {i:CI} (F:bz X X.cal1 lv cl.init f) (hr:aT (lv+1) X.A) (M:Mk X.K i.ad f) (hcl:X.Γ.cl[j]? = some cl) (hw:cl.what=0) (hci:X.W.ci[j]? = some i) (hwh:X.W.what[j]? = some 0) (x:Ee X z0 z) (I:Rep X z) (r:RVs X.W true es z l us)
 (e:o=(match X.Γ.cl[j]? with
 | some k=>if k.what=1 then (if l.length=k.at_.length then .ok (.ins j l) (drp es z.t z.t.st) else .bad)
   else if k.what=0 then (match X.cal1 k.init (.ref z.t.st.length :: l) (z.t.st ++ [.ins j []]) with
    | .ok .non st=>.ok (.ref z.t.st.length) (aft es z.t .non st)
    | _=>.bad)
   else .bad
 | none=>.bad)) (nb:o≠.bad):χ X.M X.A (call (.ref i.ad) us) (Pe X z0 o (RV X.W br c)) (Px X z0 o) z.s:=by
 rw [hcl] at e
 dsimp only at e
 rw [ZY (by omega),ZZ hw] at e
 obtain ⟨Ir,xr⟩:=I.rel fun i=>!(bu es).contains i
 obtain ⟨fd,ps,F,hb,kp⟩:=F
 have nbc:X.cal1 cl.init (.ref z.t.st.length :: l) (z.t.st ++ [.ins j []])≠.bad:=fun q=>by rw [q] at e;exact nb e
 have g:Gr z.s { z.s with heap:=(z.s.heap.push Ö).push (Ë i.ad z.s.heap.objs.size) }:=⟨rfl,rfl,fun b o e=>υ _ (υ _ e)⟩
 have e1:(z.s.heap.push Ö).get? z.s.heap.objs.size=some Ö:=ψ z.s.heap rfl
 have e2:((z.s.heap.push Ö).push (Ë i.ad z.s.heap.objs.size)).get? (z.s.heap.objs.size+1)=some (Ë i.ad z.s.heap.objs.size):=by
  have:=ψ (z.s.heap.push Ö) (o:=Ë i.ad z.s.heap.objs.size) rfl
  rwa [Ϻ] at this
 have hn:z.h (z.s.heap.objs.size+1)=none∧z.h z.s.heap.objs.size=none:=⟨ϣ (ý _),ϣ (Ο _)⟩
 have ne:z.s.heap.objs.size≠z.s.heap.objs.size+1:=ϧ (Ł _)
 obtain ⟨H1,S1⟩:=HR.snoc (w:=NoW) (p:=(z.s.heap.objs.size+1,z.s.heap.objs.size)) (o:=.ins j []) Ir.toHR g hn ⟨i,[],hci,hwh,Î _,⟨e2,ne,by simp,_,υ _ e1,#[],_,rfl,(fun e he=>ZX he (by simp)),.nil,fun n=>by cases i.nm <;> rfl⟩,rfl⟩
 have at0:(z.ρ ++ [(z.s.heap.objs.size+1,z.s.heap.objs.size)])[z.t.st.length]? = some (z.s.heap.objs.size+1,z.s.heap.objs.size):=by rw [Ρ (by rw [I.rl];exact Ο _),I.rl,Ő];rfl
 have rd0:=i7 Ir xr.st.gg fE (fun _ h=>h) r
 have rd:RDs X.W (z.ρ ++ [(z.s.heap.objs.size+1,z.s.heap.objs.size)]) (z.rel fun i=>!(bu es).contains i).G (.ref z.t.st.length :: l) (.ref (z.s.heap.objs.size+1) :: us):=.cons ⟨_,at0,rfl⟩ (rd0.mono (ê _ _) (.refl _))
 have hl:=F.len _ _ nbc
 rw [rd.len] at hl
 have bd:=hb { z.s with heap:=(z.s.heap.push Ö).push (Ë i.ad z.s.heap.objs.size) } (.ref (z.s.heap.objs.size+1) :: us) (I.toHR.kin.keeps g.k) (by rw [ώ];exact hl)
 rw [ώ] at bd
 refine Ă (qr (f:=f) I.toHR.kin M.makes M.init (beq_iff_eq.mp M.fn) (â (F.run _ X.fr _ ⟨.ref (z.s.heap.objs.size+1) :: us,[]⟩ _ _ (hr.make i.ad us []) (H1.at (gj i.ad us []) rfl) bd rd nbc) fun q s' hq=>?_))
 cases q with
 | error e'=>obtain ⟨z',c,l',_,er,_⟩:=hq;rw [show X.cal1 cl.init (.ref z.t.st.length :: l) (z.t.st ++ [.ins j []])=_ from er] at e;exact ZX e nb
 | ok fl=>
   cases fl with
   | ret u=>
     obtain ⟨z',d,rfl,er,S,H,r⟩:=hq
     rw [show X.cal1 cl.init (.ref z.t.st.length :: l) (z.t.st ++ [.ins j []])=_ from er] at e
     cases d with
     | non=>
       refine ⟨(show u = .none from r),?_⟩
       have S2:Stp X.fr NoW (z.rel fun i=>!(bu es).contains i) z':=S1.trans S fun _ h=>h.elim
       have H2:HR X z':=H.at (X:={ X with A:=_,fr:=X.fr }) (A:=X.A) (gj i.ad us []).symm rfl
       obtain ⟨zf,f1,f2,f3,If,xf,k1,k2,k3⟩:=I.back (fun i=>!(bu es).contains i) (fun i=>!(bu es).contains i || (isLst z.t.env[i]? && (noL .non && z'.t.st.all jP))) S2 H2 (fun i h=>by rw [h];rfl) fun i _ h=>by
        cases w:(!(bu es).contains i) with
        | true=>exact .inl rfl
        | false=>rw [w,DE,Τ,Τ] at h;exact .inr ⟨h.1,h.2.2⟩
       refine Pe.less x ⟨zf,.ref z.t.st.length,f1,by rw [e,f2];rfl,xf,If,.of ⟨(z.s.heap.objs.size+1,z.s.heap.objs.size),?_,rfl⟩⟩
       rw [f3]
       exact iW S.pr at0
     | _=>exact ZX e nb
   | next=>exact hq.elim
   | brk=>exact hq.elim
   | cont=>exact hq.elim
end
def Ps (X:Cx) (z:Z) (o:ak) (f:Flow) (s':ξ):Prop:=match o with
 | .nx t=>f = .next∧∃ z',z'.s=s'∧z'.t=t∧Go X z z'∧Rep X z'
 | .rt d t=>∃ u z',f = .ret u∧z'.s=s'∧z'.t.st=t.st∧Go X z z'∧Rep X z'∧RD X.W z'.ρ z'.G d u
 | _=>False
def PxS (X:Cx) (z:Z) (o:ak) (x:ζ) (s':ξ):Prop:=∃ z' c l,z'.s=s'∧o = .exc c l z'.t∧Go X z z'∧Rep X z'∧XO X z z' c l x
abbrev Ws (X:Cx) (t:Dh Flow) (z:Z) (o:ak):Prop:=χ X.M X.A t (Ps X z o) (PxS X z o) z.s
def LS (X:Cx) (st:Û) (c:S):Prop:=∀ z,Rep X z→X.ex c z.t≠.bad→Ws X (exec st X.env) z (X.ex c z.t)
def LSs (X:Cx) (st:List Û) (c:S):Prop:=∀ z,Rep X z→X.ex c z.t≠.bad→Ws X (execs st X.env) z (X.ex c z.t)
section
variable {X:Cx} {z z' z0 z1:Z}
theorem Ps.less (x:Go X z z1) (h:Ps X z1 o f s'):Ps X z o f s':=by
 cases o with
 | nx t=>obtain ⟨e,z',a,b,y,I⟩:=h;exact ⟨e,z',a,b,x.trans y,I⟩
 | rt d t=>obtain ⟨u,z',e,a,b,y,I⟩:=h;exact ⟨u,z',e,a,b,x.trans y,I⟩
 | _=>exact h
theorem PxS.less (x:Go X z z1) (h:PxS X z1 o u s'):PxS X z o u s':=let ⟨z',c,l,e,q,y,I,n⟩:=h;⟨z',c,l,e,q,x.trans y,I,n.less fun _=>x.st.no⟩
theorem PxS.of {m:Out α} (x:Go X z z1) (h:Px X z1 m u s') {f:α→Sta→ak}:PxS X z (m.go f) u s':=let ⟨z',c,l,e,q,y,I,n⟩:=h;⟨z',c,l,e,by rw [q];rfl,x.trans y.go,I,n.less fun _=>x.st.no⟩
theorem Jg.gos {t:Dh β} {m:Sta→Out α} {R:Z→α→β→Prop} {f:α→Sta→ak} {o:ak} {K:β→ξ→Prop} (h:Jg X t m R) (x:Go X z z1) (I:Rep X z1) (e:o=(m z1.t).go f) (nb:o≠.bad)
 (k:∀ z2 d u,Ee X z1 z2→Go X z z2→Rep X z2→R z2 d u→o=f d z2.t→K u z2.s):χ X.M X.A t K (PxS X z o) z1.s:=by
 subst e
 refine Υ (h z1 I fun q=>nb (by rw [q];rfl)) (fun u s' ⟨z2,d,e,q,y,I1,r⟩=>?_) fun u s' h=>.of x h
 subst e;exact k z2 d u y (x.trans y.go) I1 r (by rw [q];rfl)
theorem nxt (x:Go X z z1) (I:Rep X z1) (e:o = .nx z1.t):Ps X z o .next z1.s:=by subst e;exact ⟨rfl,z1,rfl,rfl,x,I⟩
theorem LSs.at (h:LSs X sts c) (x:Go X z z1) (I:Rep X z1) (e:o=X.ex c z1.t) (nb:o≠.bad):χ X.M X.A (execs sts X.env) (Ps X z o) (PxS X z o) z1.s:=by subst e;exact Υ (h z1 I nb) (fun _ _ h=>h.less x) fun _ _ h=>h.less x
theorem qe:LSs X [] .skip:=fun z I _=>Č (nxt .refl I rfl)
theorem qg (h:LS X tm c):LSs X [tm] c:=fun z I nb=>Ř (thn (h z I nb) fun f s1 q=>by
 cases f with
 | next=>exact Č q
 | ret v=>exact q
 | brk=>exact q
 | cont=>exact q)
theorem lS (h1:LS X tm a) (h2:LSs X rest b):LSs X (tm :: rest) (.seq a b):=fun z I nb=>by
 have nb1:X.ex a z.t≠.bad:=fun q=>nb (show ak.go (X.ex a z.t) _=_ by rw [q];rfl)
 refine Ř (Υ (h1 z I nb1) (fun f s1 q=>?_) fun u s' ⟨z',c,l,e,q,r⟩=>⟨z',c,l,e,show ak.go (X.ex a z.t) _=_ by rw [q];rfl,r⟩)
 cases qa:X.ex a z.t with
 | nx t=>
   rw [qa] at q
   obtain ⟨rfl,z1,rfl,rfl,x1,I1⟩:=q
   exact h2.at x1 I1 (show ak.go (X.ex a z.t) _=_ by rw [qa];rfl) nb
 | rt d t=>
   have e:X.ex (.seq a b) z.t = .rt d t:=show ak.go (X.ex a z.t) _=_ by rw [qa];rfl
   rw [qa] at q
   obtain ⟨u,z1,rfl,r⟩:=q
   show Ps X z (X.ex (.seq a b) z.t) (.ret u) s1
   rw [e];exact ⟨u,z1,rfl,r⟩
 | exc c l t=>rw [qa] at q;exact q.elim
 | bad=>exact ZX qa nb1
theorem lT (h:∀ z,Rep X z→χ X.M X.A (exec tm X.env) (fun f s'=>f = .next∧Gr z.s s') NoE z.s):LS X tm .skip:=fun z I _=>Υ (h z I) (fun f s' ⟨e,g⟩=>by subst e;exact nxt (z1:={ z with s:=s' }) (aw I.gh g).ee.go (I.grow (aw I.gh g)) rfl) fun _ _ z=>z.elim
theorem sR:LS X (.Pass pos) .skip:=lT fun _ _=>wpAny_Pass ⟨rfl,.refl⟩
theorem Rep.quiet (I:Rep X z):interactive X.env=false:=by simp [interactive,I.ok.kd]
theorem wl:LS X (.Expr (.Constant (.str x) j pos) pos') .skip:=lT fun z I=>wpAny_Expr (Ŭ (show _∧_ from ⟨rfl,.tok⟩)) I.quiet
theorem sO (he:LE X e c) (hs:ſ e none pos.line X.env=pure false):LS X (.Expr e pos) (.drop c):=fun z I nb=>Ŷ ((he false).gos .refl I rfl nb fun z1 d u y x I1 r e1=>nxt x I1 e1) I.quiet hs
theorem kH (he:LE X e c):LS X (.Return (some e) pos) (.ret c):=fun z I nb=>wpAny_Return_some ((he false).gos .refl I rfl nb fun z1 d u y x I1 r e1=>by
 show Ps X z (X.ex (.ret c) z.t) _ _
 rw [e1];exact ⟨u,z1,rfl,rfl,rfl,x,I1,r.rd⟩)
theorem sU:LS X (.Return none pos) (.ret (.c .non)):=fun z I nb=>wpAny_Return_none ⟨.none,z,rfl,rfl,rfl,.refl,I,rfl⟩
theorem yy (hc:LT X ec c) (ha:LSs X sa a) (hb:LSs X sb b):LS X (.If ec sa sb pos) (.ifs c a b):=fun z I nb=>by
 have e:X.ex (.ifs c a b) z.t=((X.ev true c z.t).bind toB).go fun t s=>if t then X.ex a s else X.ex b s:=by
  show Out.go (X.ev true c z.t) _=_
  cases X.ev true c z.t with
  | ok d s=>cases d <;> first | rfl | (rename_i t;cases t <;> rfl)
  | _=>rfl
 refine wpAny_If (hc.gos .refl I e nb fun z1 t u y x I1 r e1=>?_)
 cases (show u=t from r)
 cases t with
 | true=>exact ha.at x I1 e1 nb
 | false=>exact hb.at x I1 e1 nb
def Vl (X:Cx) (z0 z:Z) (own:Bool) (d:D) (u:ζ):Prop:=match own with
 | false=>RD X.W z.ρ z.G d u
 | true=>FV X z0 z d u
def stV (t:Sta) (i:Nat) (d:D) (own:Bool):Sta:=⟨t.env.set i (some d),if own then i :: t.ow.filter (· != i) else t.ow.filter (· != i),t.st⟩
theorem iy {h h' base:ϯ} (k:∀ b o,h.get? b=some o→(∀ vs,o.data≠.fields vs)→∃ o',h'.get? b=some o'∧∀ vs,o'.data≠.fields vs):∀ {l:List AK},h.FunFrames base l→h'.FunFrames base l
 | [],_=>trivial
 | _ :: _,⟨a,⟨L,o,e1,e2,e3,e4⟩,r⟩=>let ⟨o',q1,q2⟩:=k L o e3 e4;⟨a,⟨L,o',e1,e2,q1,q2⟩,iy k r⟩
theorem Rep.put {s':ξ} {i:Nat} {own:Bool} {d:D} {u:ζ} (x0:Go X z0 z) (I:Rep X z) (sb:ë a z.s.heap s'.heap) (la:Lc X a) (th:∃ o,s'.heap.get? a=some o∧∀ vs,o.data≠.fields vs) (os:s'.os=z.s.os) (gs:s'.gens=z.s.gens) (vl:Vl X z0 z own d u) (hi:i<X.N.length)
 (lo:∃ m,s'.heap.Ns X.env.locals m∧∀ (j:Nat) (x:ι) (w:ζ),X.N[j]? = some x→(z.σ.set i (some u))[j]? = some (some w)→Vis X.env.scope x→kc X.env s'.heap m x w)
 (ce:∀ x c,X.env.cells.lookup x=some c→∃ v,s'.heap.IsCell c v):Rep X { z with t:=stV z.t i d own,σ:=z.σ.set i (some u),s:=s' }∧Go X z0 { z with t:=stV z.t i d own,σ:=z.σ.set i (some u),s:=s' }:=by
 have ne:∀ {b:Ε},¬ Lc X b→s'.heap.get? b=z.h b:=fun n=>sb.2 _ fun e=>n (e ▸ la)
 have nG:∀ {b o},z.G b=some o→¬ Lc X b:=fun e l=>by rw [(I.fl _ l).1] at e;cases e
 have nM:∀ {b},Mu z.ρ b→¬ Lc X b:=fun m l=>(I.fl _ l).2 m
 have hiσ:i<z.σ.length:=by rw [I.sl];exact hi
 have ow:∀ {j},j∈(stV z.t i d own).ow→(j=i∧own=true)∨(j≠i∧j∈z.t.ow):=fun {j} m=>by
  cases own with
  | true=>
    rcases ς.mp (show j∈i :: z.t.ow.filter (· != i) from m) with w | w
    ·exact .inl ⟨w,rfl⟩
    ·have:=ϕ.mp w;exact .inr ⟨by simpa using this.2,this.1⟩
  | false=>have:=ϕ.mp (show j∈z.t.ow.filter (· != i) from m);exact .inr ⟨by simpa using this.2,this.1⟩
 have wo:∀ {j},j≠i→j∈z.t.ow→j∈(stV z.t i d own).ow:=fun {j} n m=>by
  have w:j∈z.t.ow.filter (· != i):=ϕ.mpr ⟨m,by simpa using n⟩
  cases own with
  | true=>exact ν _ w
  | false=>exact w
 have get:∀ {j},j≠i→(z.σ.set i (some u))[j]? = z.σ[j]?:=fun h=>Φ (Ϥ h)
 have gete:∀ {j},j≠i→(z.t.env.set i (some d))[j]? = z.t.env[j]?:=fun h=>Φ (Ϥ h)
 have gi:(z.σ.set i (some u))[i]? = some (some u):=Ϫ hiσ
 have gie:(z.t.env.set i (some d))[i]? = some (some d):=Ϫ (by rw [I.el];exact hiσ)
 have fu:s'.heap.FunFrames X.base X.fr:=iy (fun b o e nf=>by
  by_cases q:b=a
  ·subst q;exact th
  ·exact ⟨o,(sb.2 b q).trans e,nf⟩) I.fu
 have th':∀ b o,z.h b=some o→∃ o',s'.heap.get? b=some o':=fun b o e=>by
  by_cases q:b=a
  ·subst q;exact th.imp fun _ h=>h.1
  ·exact ⟨o,(sb.2 b q).trans e⟩
 have S:Stp X.fr (Pv X z) z { z with t:=stV z.t i d own,σ:=z.σ.set i (some u),s:=s' }:=⟨κ _,.refl _,fun _ _ e=>.inl e,fun _ m=>.inl m,th',fun b o e _ w _=>(ne fun l=>w (.inr l)).trans e,fun b o e _ w _=>⟨o.slots,(ne fun l=>w (.inr l)).trans e⟩⟩
 refine ⟨⟨⟨I.md,I.fm,I.hd,I.bs,fun b o e=>(ne (nG e)).trans (I.gh b o e),I.rl,I.rn,I.rg,fun n o p h1 h2=>(I.ob n o p h1 h2).mono (κ _) (.refl _) fun b hb o e=>(ne (nM ⟨p,Ζ h2,hb⟩)).trans e,fu,I.ff,by show Ō s'.gens;rw [gs];exact I.br,os.trans I.os⟩,I.ok,lo,ce,I.fl,by show (z.t.env.set i (some d)).length=(z.σ.set i (some u)).length;rw [Á,Á];exact I.el,by show (z.σ.set i (some u)).length=_;rw [Á];exact I.sl,fun j d' n e=>?_,fun j m=>?_,fun j k b m1 m2 e1 e2=>?_⟩,x0.st.trans S fun b w=>w.elim (fun w=>(x0.ow b w).imp_left .inl) fun w=>.inl (.inr w),fun b ⟨j,m,e⟩=>?_⟩
 ·by_cases q:j=i
  ·subst q
   rw [show (z.t.env.set j (some d))[j]? = some (some d') from e] at gie;cases gie
   cases own with
   | true=>exact ZX μ n
   | false=>exact ⟨u,gi,vl⟩
  ·obtain ⟨w,e1,r⟩:=I.en j d' (fun m=>n (wo q m)) ((gete q).symm.trans e)
   exact ⟨w,(get q).trans e1,r⟩
 ·rcases ow m with ⟨rfl,rfl⟩ | ⟨q,m⟩
  ·obtain ⟨b,o,rfl,_,t,r,f,no⟩:=vl
   exact ⟨d,b,o,gie,gi,t,r.mono (κ _) (.refl _) fun c hc o e=>(ne (by rcases hc with rfl | rfl <;> exact f.2.2.2)).trans e,f⟩
  ·obtain ⟨d',b,o,h1,h2,h3,r,f⟩:=I.eo j m
   exact ⟨d',b,o,(gete q).trans h1,(get q).trans h2,h3,r.mono (κ _) (.refl _) fun c hc o e=>(ne (by rcases hc with rfl | rfl <;> exact f.2.2.2)).trans e,f⟩
 ·have new:∀ {k:Nat} {b:Ε},own=true→k∈z.t.ow→(z.σ.set i (some u))[i]? = some (some (.ref b))→z.σ[k]? = some (some (.ref b))→False:=fun {k b} ho mk w1 w2=>by
   subst ho
   obtain ⟨b',o,rfl,_,t,r,f,no⟩:=vl
   rw [gi] at w1;cases w1
   exact no ⟨k,mk,w2⟩
  rcases ow m1 with ⟨h1,ho⟩ | ⟨q1,n1⟩ <;> rcases ow m2 with ⟨h2,ho2⟩ | ⟨q2,n2⟩
  ·exact h1.trans h2.symm
  ·exact (new ho n2 (h1 ▸ e1) ((get q2).symm.trans e2)).elim
  ·exact (new ho2 n1 (h2 ▸ e2) ((get q1).symm.trans e1)).elim
  ·exact I.od j k b n1 n2 ((get q1).symm.trans e1) ((get q2).symm.trans e2)
 ·rcases ow m with ⟨rfl,rfl⟩ | ⟨q,m⟩
  ·obtain ⟨b',o,rfl,n,_⟩:=vl
   rw [show (z.σ.set j (some (.ref b')))[j]? = some (some (.ref b)) from e] at gi;cases gi
   exact .inr n
  ·exact x0.ow b ⟨j,m,(get q).symm.trans e⟩
theorem Rep.cne (I:Rep X z):∀ x c,X.env.cells.lookup x=some c→c≠X.env.locals:=fun x c e q=>by
 obtain ⟨v,o,ho,hd⟩:=I.ce x c e
 obtain ⟨m,⟨o',es,ep,ho',hd',_⟩,_⟩:=I.lo
 rw [q,ho'] at ho;cases ho;rw [hd'] at hd;cases hd
theorem b5 {i:Nat} {x:ι} {own:Bool} {d:D} {u:ζ} {Q:Unit→ξ→Prop} {E:ζ→ξ→Prop} (x0:Go X z0 z) (I:Rep X z) (hN:X.N.Nodup) (hi:X.N[i]? = some x) (hx:Loc X.env.scope x) (vl:Vl X z0 z own d u)
 (h:∀ s' a,ë a z.s.heap s'.heap→Lc X a∧(X.env.scope.names.lookup x=some .local→a=X.env.locals)→Rep X { z with t:=stV z.t i d own,σ:=z.σ.set i (some u),s:=s' }→Go X z0 { z with t:=stV z.t i d own,σ:=z.σ.set i (some u),s:=s' }→Q () s'):χ X.M X.A (storeName X.env x u) Q E z.s:=by
 obtain ⟨m,hn,hl⟩:=id I.lo
 have hcls:(X.env.scope.kind == .class || (X.env.scope.kind == .module && X.env.locals != X.env.globals))=false:=by rw [I.ok.kd];rfl
 have il:i<X.N.length:=(ο.mp hi).1
 have hiσ:i<z.σ.length:=by rw [I.sl];exact il
 rcases hx with hk | hk
 ·refine CT hk hn (fun h' hn' hs=>?_) hcls
  have ⟨oL,es,ep,hoL,hdL,_⟩:=hn'
  have lo:∀ (j:Nat) (y:ι) (w:ζ),X.N[j]? = some y→(z.σ.set i (some u))[j]? = some (some w)→Vis X.env.scope y→kc X.env h' (fun y=>if y=x then some u else m y) y w:=fun j y w e1 e2 e3=>by
   by_cases hj:j=i
   ·subst hj
    rw [hi] at e1;cases e1
    rw [Ϫ hiσ] at e2;cases e2
    exact .inl ⟨hk,by simp⟩
   ·rw [Φ (Ϥ hj)] at e2
    rcases hl j y w e1 e2 e3 with ⟨k,e⟩ | ⟨k,c,e,q⟩
    ·have:y≠x:=fun e=>hj (fU hN e1 (e ▸ hi))
     exact .inl ⟨k,by simp [this,e]⟩
    ·exact .inr ⟨k,c,e,q.sameBut hs (I.cne y c e)⟩
  obtain ⟨I',g'⟩:=Rep.put (s':={ z.s with heap:=h',toks:=z.s.toks+1 }) x0 I hs (.inl rfl) ⟨oL,hoL,fun vs e=>by rw [hdL] at e;cases e⟩ rfl rfl vl il ⟨_,hn',lo⟩ fun y c e=>let ⟨v,q⟩:=I.ce y c e;⟨v,q.sameBut hs (I.cne y c e)⟩
  exact h _ _ hs ⟨.inl rfl,fun _=>rfl⟩ I' g'
 ·obtain ⟨c,hc⟩:=I.ok.ch x (.inl hk)
  obtain ⟨w',q0⟩:=I.ce x c hc
  refine wpAny_storeName_cell I.ok.kd hk hc q0 (fun h' hc' hs=>?_)
  have ⟨oc,hoc,hdc⟩:=hc'
  have lo:∀ (j:Nat) (y:ι) (w:ζ),X.N[j]? = some y→(z.σ.set i (some u))[j]? = some (some w)→Vis X.env.scope y→kc X.env h' m y w:=fun j y w e1 e2 e3=>by
   by_cases hj:j=i
   ·subst hj
    rw [hi] at e1;cases e1
    rw [Ϫ hiσ] at e2;cases e2
    exact .inr ⟨.inl hk,c,hc,hc'⟩
   ·rw [Φ (Ϥ hj)] at e2
    rcases hl j y w e1 e2 e3 with q | ⟨k,c',e,q⟩
    ·exact .inl q
    ·refine .inr ⟨k,c',e,q.sameBut hs ?_⟩
     rintro rfl
     exact hj (fU hN e1 (I.ok.ci _ _ _ e hc ▸ hi))
  have ce:∀ y c',X.env.cells.lookup y=some c'→∃ v,h'.IsCell c' v:=fun y c' e=>by
   by_cases hcc:c'=c
   ·subst hcc;exact ⟨_,hc'⟩
   ·obtain ⟨w2,q2⟩:=I.ce y c' e
    exact ⟨w2,q2.sameBut hs hcc⟩
  obtain ⟨I',g'⟩:=Rep.put (s':={ z.s with heap:=h' }) x0 I hs (.inr ⟨x,hc⟩) ⟨oc,hoc,fun vs e=>by rw [hdc] at e;cases e⟩ rfl rfl vl il ⟨m,hn.sameBut hs (Ϥ (I.cne x c hc)),lo⟩ ce
  exact h _ _ hs ⟨.inr ⟨x,hc⟩,fun e=>by rw [show X.env.scope.names.lookup x=some .cell from hk] at e;cases e⟩ I' g'
theorem kI (hN:X.N.Nodup) (hi:X.N[i]? = some x) (hx:Loc X.env.scope x) (he:LE X e c) (hf:aS c=true→LF X e c) (hs:ſ e (some (.Name x pos')) pos.line X.env=pure false):LS X (.Assign [.Name x pos'] e pos) (.set i c):=fun z I nb=>by
 refine DL ?_ hs
 cases f:aS c with
 | false=>
   refine (he false).gos .refl I rfl nb fun z1 d u y x0 I1 r e1=>b5 (own:=false) x0 I1 hN hi hx r.rd fun s' a _ _ I' g'=>nxt (z1:={ z1 with t:=stV z1.t i d false,σ:=z1.σ.set i (some u),s:=s' }) g' I' ?_
   rw [e1];unfold kU;rw [f];rfl
 | true=>
   have nb1:X.ev false c z.t≠.bad:=fun q=>nb (show Out.go (X.ev false c z.t) _=_ by rw [q];rfl)
   refine Υ (hf f z I nb1) (fun u s' ⟨z1,d,q1,q2,y,I1,fv⟩=>?_) fun u s' h=>.of .refl h
   subst q1
   refine b5 (own:=true) y.go I1 hN hi hx fv fun s' a _ _ I' g'=>nxt (z1:={ z1 with t:=stV z1.t i d true,σ:=z1.σ.set i (some u),s:=s' }) g' I' ?_
   show Out.go (X.ev false c z.t) _=_
   rw [q2]
   show ak.nx (kU z1.t i d (aS c))=_
   unfold kU
   have ld:vC d=true:=by
    obtain ⟨_,_,_,_,t,_⟩:=fv
    cases d <;> first | rfl | cases t
   rw [f,ld];rfl
end
def aI:Ν→Bool
 | .Starred ..=>false
 | .Set ..=>false
 | .Slice ..=>false
 | _=>true
section
variable {X:Cx} {z z' z0 z1:Z}
theorem wJ {o:O} {hp:Hp} (q:ObR W ρ G hp (a,b) o) (e:∃ d:D,toO d=some o):∃ ob,hp a=some ob∧∀ vs,ob.data≠.fields vs:=by
 obtain ⟨d,e⟩:=e
 cases d <;> cases e
 ·obtain ⟨o,vs,_,q,⟨⟨n,rfl⟩,_⟩,_⟩:=q;exact ⟨_,q,nofun⟩
 ·obtain ⟨o,vs,_,_,q,⟨es,ep,_,w,_⟩,_⟩:=q;exact ⟨_,q,fun v z=>by rw [w] at z;cases z⟩
theorem Rep.ownw {s':ξ} {i:Nat} {d':D} {o':O} (I:Rep X z) (m:i∈z.t.ow) (ea:z.σ[i]? = some (some (.ref a))) (t:toO d'=some o') (sb:∀ b,b≠a→s'.heap.get? b=z.h b) (r:ObR X.W z.ρ z.G s'.heap.get? (a,a) o') (os:s'.os=z.s.os) (gs:s'.gens=z.s.gens) :
 Rep X { z with t:=⟨z.t.env.set i (some d'),z.t.ow,z.t.st⟩,s:=s' }∧Go X z { z with t:=⟨z.t.env.set i (some d'),z.t.ow,z.t.st⟩,s:=s' }:=by
 obtain ⟨f,oa,ha⟩:=I.oth ⟨i,m,ea⟩
 have nM:∀ {b},Mu z.ρ b→b≠a:=fun h e=>f.2.1 (e ▸ h)
 have nG:∀ {b o},z.G b=some o→b≠a:=fun h e=>by rw [e,f.1] at h;cases h
 have nL:∀ {b},Lc X b→b≠a:=fun h e=>f.2.2.2 (e ▸ h)
 have nf:∀ {b},b∈frs X.fr→b≠a:=fun h e=>f.2.2.1 (e ▸ h)
 obtain ⟨on,hn,_⟩:=wJ r ⟨d',t⟩
 have hie:i<z.t.env.length:=by obtain ⟨d,_,_,e,_⟩:=I.eo i m;exact (ο.mp e).1
 have ck:∀ x c v,X.env.cells.lookup x=some c→z.s.heap.IsCell c v→s'.heap.IsCell c v:=fun x c v e ⟨o,q,d⟩=>⟨o,(sb c (nL (.inr ⟨x,e⟩))).trans q,d⟩
 have fu:s'.heap.FunFrames X.base X.fr:=by
  have:∀ {l:List AK},(∀ b∈frs l,b≠a)→z.s.heap.FunFrames X.base l→s'.heap.FunFrames X.base l:=fun {l}=>by
   induction l with
   | nil=>exact fun _ _=>trivial
   | cons v r ih=>
     intro hs ⟨k,⟨L,o,e1,e2,e3,e4⟩,q⟩
     have hm:L∈frs (v :: r):=by unfold frs;rw [Ϧ,e1];exact μ
     exact ⟨k,⟨L,o,e1,e2,(sb L (hs L hm)).trans e3,e4⟩,ih (fun b hb=>hs b (by unfold frs;rw [Ϧ,e1];exact ν _ hb)) q⟩
  exact this (fun b h=>nf h) I.fu
 refine ⟨⟨⟨I.md,I.fm,I.hd,I.bs,fun b o e=>(sb b (nG e)).trans (I.gh b o e),I.rl,I.rn,I.rg,fun n o p h1 h2=>(I.ob n o p h1 h2).mono (κ _) (.refl _) fun b hb o e=>(sb b (nM ⟨p,Ζ h2,hb⟩)).trans e,fu,I.ff,by show Ō s'.gens;rw [gs];exact I.br,os.trans I.os⟩,I.ok,?_,fun x c e=>let ⟨v,q⟩:=I.ce x c e;⟨v,ck x c v e q⟩,I.fl,by show (z.t.env.set i (some d')).length=_;rw [Á];exact I.el,I.sl,fun j d n e=>?_,fun j mj=>?_,I.od⟩,⟨κ _,.refl _,fun _ _ e=>.inl e,fun _ m=>.inl m,fun b o e=>?_,fun b o e _ w _=>(sb b fun q=>w (.inl (q ▸ ⟨i,m,ea⟩))).trans e,fun b o e _ w _=>⟨o.slots,(sb b fun q=>w (.inl (q ▸ ⟨i,m,ea⟩))).trans e⟩⟩,fun b ⟨j,mj,e⟩=>.inl ⟨j,mj,e⟩⟩
 ·obtain ⟨mm,⟨oL,es,ep,q,r⟩,hl⟩:=I.lo
  exact ⟨mm,⟨oL,es,ep,(sb _ (nL (.inl rfl))).trans q,r⟩,fun j x w e1 e2 e3=>cP (fun c v e q=>ck x c v e q) (hl j x w e1 e2 e3)⟩
 ·have q:j≠i:=fun q=>n (q ▸ m)
  exact I.en j d n ((Φ (Ϥ q)).symm.trans e)
 ·by_cases q:j=i
  ·subst q;exact ⟨d',a,o',Ϫ hie,ea,t,r,f⟩
  ·obtain ⟨d,b,o,h1,h2,h3,r,f⟩:=I.eo j mj
   have nb:b≠a:=fun w=>q (I.od j i b mj m h2 (w ▸ ea))
   exact ⟨d,b,o,(Φ (Ϥ q)).trans h1,h2,h3,r.mono (κ _) (.refl _) fun c hc o e=>(sb c (by rcases hc with rfl | rfl <;> exact nb)).trans e,f⟩
 ·by_cases q:b=a
  ·subst q;exact ⟨on,hn⟩
  ·exact ⟨o,(sb b q).trans e⟩
theorem Rep.stw {s':ξ} {n:Nat} {o':O} {p:Ε×Ε} {e:Ε} (I:Rep X z) (ep:z.ρ[n]? = some p) (he:e=p.1∨e=p.2) (sb:∀ b,b≠e→s'.heap.get? b=z.h b) (r:ObR X.W z.ρ z.G s'.heap.get? p o') (os:s'.os=z.s.os) (gs:s'.gens=z.s.gens) :
 Rep X { z with t:=⟨z.t.env,z.t.ow,z.t.st.set n o'⟩,s:=s' }∧Go X z { z with t:=⟨z.t.env,z.t.ow,z.t.st.set n o'⟩,s:=s' }:=by
 have mu:Mu z.ρ e:=⟨p,Ζ ep,he⟩
 have nG:∀ {b o},z.G b=some o→b≠e:=fun h q=>by rw [q,I.rg e mu] at h;cases h
 have nL:∀ {b},Lc X b→b≠e:=fun h q=>(I.fl _ h).2 (q ▸ mu)
 have nf:∀ {b},b∈frs X.fr→b≠e:=fun h q=>(I.ff _ h).2 (q ▸ mu)
 have nO:∀ {b},Own z b→b≠e:=fun h q=>(I.oth h).1.2.1 (q ▸ mu)
 have ck:∀ x c v,X.env.cells.lookup x=some c→z.s.heap.IsCell c v→s'.heap.IsCell c v:=fun x c v e ⟨o,q,d⟩=>⟨o,(sb c (nL (.inr ⟨x,e⟩))).trans q,d⟩
 have fu:s'.heap.FunFrames X.base X.fr:=by
  have:∀ {l:List AK},(∀ b∈frs l,b≠e)→z.s.heap.FunFrames X.base l→s'.heap.FunFrames X.base l:=fun {l}=>by
   induction l with
   | nil=>exact fun _ _=>trivial
   | cons v r ih=>
     intro hs ⟨k,⟨L,o,e1,e2,e3,e4⟩,q⟩
     have hm:L∈frs (v :: r):=by unfold frs;rw [Ϧ,e1];exact μ
     exact ⟨k,⟨L,o,e1,e2,(sb L (hs L hm)).trans e3,e4⟩,ih (fun b hb=>hs b (by unfold frs;rw [Ϧ,e1];exact ν _ hb)) q⟩
  exact this (fun b h=>nf h) I.fu
 obtain ⟨⟨o1,h1⟩,⟨o2,h2⟩⟩:=r.th
 have hn:n<z.t.st.length:=by rw [← I.rl];exact (ο.mp ep).1
 refine ⟨⟨⟨I.md,I.fm,I.hd,I.bs,fun b o w=>(sb b (nG w)).trans (I.gh b o w),by show _=(z.t.st.set n o').length;rw [Á];exact I.rl,I.rn,I.rg,fun k o q h1 h2=>?_,fu,I.ff,by show Ō s'.gens;rw [gs];exact I.br,os.trans I.os⟩,I.ok,?_,fun x c w=>let ⟨v,q⟩:=I.ce x c w;⟨v,ck x c v w q⟩,I.fl,I.el,I.sl,I.en,fun j mj=>?_,I.od⟩,⟨κ _,.refl _,fun _ _ w=>.inl w,fun _ m=>.inl m,fun b o w=>?_,fun b o w q _ _=>(sb b fun z=>q (z ▸ mu)).trans w,fun b o w q _ _=>⟨o.slots,(sb b fun z=>q (z ▸ mu)).trans w⟩⟩,fun b w=>.inl w⟩
 ·by_cases c:k=n
  ·subst c
   have h1:(z.t.st.set k o')[k]? = some o:=h1
   rw [Ϫ hn] at h1;cases h1
   rw [show z.ρ[k]? = some q from h2] at ep;cases ep
   exact r
  ·exact (I.ob k o q ((Φ (Ϥ c)).symm.trans h1) h2).mono (κ _) (.refl _) fun b hb o w=>(sb b fun w'=>c (I.rn k n q p b h2 ep hb (w' ▸ he))).trans w
 ·obtain ⟨mm,⟨oL,es,ep,q,r⟩,hl⟩:=I.lo
  exact ⟨mm,⟨oL,es,ep,(sb _ (nL (.inl rfl))).trans q,r⟩,fun j x w e1 e2 e3=>cP (fun c v e q=>ck x c v e q) (hl j x w e1 e2 e3)⟩
 ·obtain ⟨d,b,o,h1,h2,h3,r,f⟩:=I.eo j mj
  exact ⟨d,b,o,h1,h2,h3,r.mono (κ _) (.refl _) fun c hc o w=>(sb c (by rcases hc with rfl | rfl <;> exact nO ⟨j,mj,h2⟩)).trans w,f⟩
 ·by_cases q:b=e
  ·rcases he with w | w
   ·exact ⟨o1,by rw [q,w];exact h1⟩
   ·exact ⟨o2,by rw [q,w];exact h2⟩
  ·exact ⟨o,(sb b q).trans w⟩
structure M1 (X:Cx) (o:Ν) (m:ι) (apos:Ϭ) (e:Ν) (cpos:Ϭ):Prop where
 base:ĉ o m X.env (eval o X.env)=eval o X.env
 few:((ϲ cpos (Α [e] X.env)).all (fun x=>!x.1) && (È cpos (Ϩ [] X.env)).all (fun x=>x.1.isSome) && decide (([e]:List Ν).length+([]:List ţ).length+(if ([]:List ţ).isEmpty then 0 else 1)<30))=true
 line:(apos.endLine == cpos.line)=true
 trees:ϲ cpos (Α [e] X.env) = [(false,eval e X.env)]
theorem eZ {i:Nat} (I:Rep X z) (m:i∈z.t.ow) (e:z.t.env[i]? = some (some (.lst l))):∃ a vs n,z.σ[i]? = some (some (.ref a))∧z.h a=some { cls:=.type "list",data:=.seq vs.toArray n }∧RDs X.W z.ρ z.G l vs:=by
 obtain ⟨d,a,o,h1,h2,h3,r,f⟩:=I.eo i m
 rw [e] at h1;cases h1;cases h3
 obtain ⟨o,vs,_,q,⟨⟨n,rfl⟩,_⟩,r⟩:=r
 exact ⟨a,vs,n,h2,q,r⟩
theorem fe {z:Z} {vs ws:List ζ} {f:Array ζ→Array ζ} (e:z.h a=some { cls:=.type "list",data:=.seq vs.toArray n }) (hf:f vs.toArray=ws.toArray) (hz:ws.length≤Ϣ):(∃ o,(z.s.heap.update a (ć f)).get? a=some o∧LsO o ws)∧∀ b,b≠a→(z.s.heap.update a (ć f)).get? b=z.h b:=
 ⟨⟨_,ϥ _ e rfl,⟨_,by simp only [ć,hf];rfl⟩,hz⟩,fun b n=>ϗ _ _ (Ϥ n)⟩
theorem wj {i:Nat} {x:ι} (hN:X.N[i]? = some x) (hv:Vis X.env.scope x) (hd:(x == ("__debug__":ι))=false) (hcd:(x == ("__classdict__":ι))=false) (he:LE X e c) (m:M1 X (.Name x p) "append" apos e cpos):LS X (.Expr (.Call (.Attribute (.Name x p) "append" apos) [e] [] cpos) pos) (.app i c):=fun z I nb=>by
 have e0:X.ex (.app i c) z.t=(if z.t.ow.contains i && isLst z.t.env[i]? then (X.ev false c z.t).go fun d s=>if s.ow.contains i then (match s.env[i]? with
  | some (some (.lst l))=>if l.length<100000 then .nx ⟨s.env.set i (some (.lst (l ++ [d]))),s.ow,s.st⟩ else .bad
  | _=>.bad) else .bad else .bad):=rfl
 by_cases c0:(z.t.ow.contains i && isLst z.t.env[i]?)=true
 ·rw [ZZ c0] at e0
  rw [Τ] at c0
  have mi:i∈z.t.ow:=by simpa using c0.1
  obtain ⟨l,el⟩:∃ l,z.t.env[i]? = some (some (.lst l)):=by
   have:=c0.2
   unfold isLst at this
   split at this
   ·rename_i l q;exact ⟨l,q⟩
   ·cases this
  obtain ⟨a,vs,n,es,ha,r⟩:=eZ I mi el
  refine Ŷ (Bb m.base m.few m.line Bm ĩ PySem.F.type_list_append (bQ I hN hv es ⟨⟨_,ha,rfl⟩,fun b q=>(by cases q;exact ⟨_,ha,rfl⟩),?_⟩ hd hcd)) I.quiet rfl
  rw [m.trees]
  refine ċ rfl (Ę (Ξ ((he false).gos .refl I e0 nb fun z1 d u y x1 I1 r1 e1=>ϊ ?_)))
  by_cases c1:z1.t.ow.contains i=true
  ·rw [ZZ c1] at e1
   have m1:i∈z1.t.ow:=by simpa using c1
   have el1:z1.t.env[i]? = some (some (.lst l)):=by rw [y.en];exact el
   rw [el1] at e1
   dsimp only at e1
   obtain ⟨a',vs,n,es',ha,r⟩:=eZ I1 m1 el1
   rw [y.sg,es] at es';cases es'
   by_cases c2:l.length<100000
   ·rw [ZZ c2] at e1
    have hz:vs.length<100000:=by rw [← r.len];exact c2
    refine BY ĩ ⟨_,ha,rfl⟩ B5 (AZ _ _) (Cu a vs.toArray n u (by rw [Μ];exact đ (Ĉ hz (big (Ο _))))) ⟨ha,?_⟩
    obtain ⟨⟨o1,u1,u3⟩,u2⟩:=fe (f:=(·.push u)) (ws:=vs ++ [u]) ha (by simp) (by rw [ω];exact big (by simp;omega))
    obtain ⟨I2,g2⟩:=I1.ownw (s':={ z1.s with heap:=z1.s.heap.update a (ć (·.push u)) }) (d':=.lst (l ++ [d])) m1 (by rw [y.sg];exact es) rfl u2 ⟨o1,vs ++ [u],rfl,u1,u3,r.app (.cons r1.rd rfl)⟩ rfl rfl
    exact nxt (x1.trans g2) I2 e1
   ·rw [ZY c2] at e1;exact ZX e1 nb
  ·rw [ZY c1] at e1;exact ZX e1 nb
 ·rw [ZY c0] at e0;exact ZX e0 nb
theorem mo:∀ {ks} {ds} {vs} {k} {d} {v},ks.length=ds.length→RDs W ρ G ds vs→RD W ρ G d v→∃ us,RDs W ρ G (gI ks ds k d) us∧(ks.zip vs).map (fun kv=>if kv.1=k then (kv.1,v) else kv)=ks.zip us
 | [],[],vs,k,d,v,_,h,_=>⟨vs,h,rfl⟩
 | [],_ :: _,_,_,_,_,l,_,_=>by cases l
 | _ :: _,[],_,_,_,_,l,_,_=>by cases l
 | q :: ks,e :: ds,vs,k,d,v,l,⟨u,r,ev,h1,h2⟩,rd=>by
   subst ev
   obtain ⟨us,h3,h4⟩:=mo (k:=k) (ı l) h2 rd
   by_cases c:q=k
   ·refine ⟨v :: us,⟨v,us,rfl,by rw [ZZ c];exact rd,h3⟩,?_⟩
    show (if q=k then (q,v) else (q,u)) :: (ks.zip r).map _=(q,v) :: ks.zip us
    rw [ZZ c,h4]
   ·refine ⟨u :: us,⟨u,us,rfl,by rw [ZY c];exact h1,h3⟩,?_⟩
    show (if q=k then (q,v) else (q,u)) :: (ks.zip r).map _=(q,u) :: ks.zip us
    rw [ZY c,h4]
theorem mw:∀ {ks} {ds} {k} {d},(gI ks ds k d).length=ds.length
 | [],_,_,_=>by unfold gI;rfl
 | _ :: _,[],_,_=>by unfold gI;rfl
 | _ :: ks,_ :: ds,k,d=>by show (gI ks ds k d).length+1=ds.length+1;rw [mw]
theorem gL:∀ {ks:List Key} {vs:List ζ} {k:Key},ks.length=vs.length→((ks.zip vs).any fun kv=>decide (kv.1=k))=ks.any fun q=>decide (q=k)
 | [],_,_,_=>rfl
 | _ :: _,[],_,l=>by cases l
 | q :: ks,v :: vs,k,l=>by
   show (decide (q=k) || (ks.zip vs).any _)=(decide (q=k) || ks.any _)
   rw [gL (ı l)]
theorem nQ (l:ks.length=ds.length) (r:RDs W ρ G ds vs) (rd:RD W ρ G d v):∃ us,stored (ks.zip vs) k v=(bJ ks ds k d).1.zip us∧(bJ ks ds k d).1.length=(bJ ks ds k d).2.length∧RDs W ρ G (bJ ks ds k d).2 us∧(bJ ks ds k d).1.length≤ks.length+1:=by
 have lv:ks.length=vs.length:=l.trans r.len
 unfold stored bJ
 rw [gL lv]
 split
 ·obtain ⟨us,h1,h2⟩:=mo (k:=k) l r rd
  exact ⟨us,h2,by show ks.length=(gI ks ds k d).length;rw [mw,l],h1,ý _⟩
 ·exact ⟨vs ++ [v],by rw [List.zip_append lv];rfl,by simp [l],r.app (.cons rd rfl),by simp⟩
theorem qI {A:ϑ} {E:ζ→ξ→Prop} {Q:Unit→ξ→Prop} {x y k d:D} {o:O} {kv v:ζ} (t:toO x=some o) (r:ObR X.W z.ρ z.G z.h (a,b) o) (rk:CR X.W z k kv) (rd:RD X.W z.ρ z.G d v) (e:iY x k d=some y)
 (h:∀ s' o',toO y=some o'→(∀ b,b≠a→s'.heap.get? b=z.h b)→ObR X.W z.ρ z.G s'.heap.get? (a,b) o'→s'.os=z.s.os→s'.gens=z.s.gens→Q () s'):χ X.M A (CE (.ref a) kv v) Q E z.s:=by
 cases x <;> cases t
 ·rename_i l
  obtain ⟨o,vs,hb,ho,⟨⟨n,rfl⟩,hz⟩,r⟩:=r
  cases k with
  | int i=>
    obtain ⟨tk,rfl⟩:=(rk:RD X.W z.ρ z.G (.int i) kv)
    obtain ⟨l',e1,rfl⟩:=π.mp (show (qP l i d).map D.lst=some y from e)
    obtain ⟨j,e2,rfl⟩:=π.mp (show (ixN l.length i).map (fun j=>l.set j d)=some l' from e1)
    obtain ⟨h1,h2,h3,h4⟩:=lI e2
    have hl:=r.len
    have hn:=iM
    obtain ⟨⟨o1,u1,u3⟩,u2⟩:=fe (z:=z) (f:=(·.setIfInBounds j v)) (ws:=vs.set j v) ho (by simp) (by rw [Á];exact hz)
    have q:Q () { z.s with heap:=z.s.heap.update a (ć (·.setIfInBounds j v)) }:=h _ _ rfl u2 ⟨o1,_,hb,u1,u3,r.set j rd⟩ rfl rfl
    by_cases h0:0≤i
    ·have hk:i.toNat=j:=by rw [D3 h0 h4] at h1;exact ϭ h1
     exact PySem.W.ki_setAt ho h0 (by omega) (by rw [Μ,← hl];exact h4) (by rw [hk];exact q)
    ·have hk:(i+(vs.toArray.size:Int)).toNat=j:=by
      rw [CF (by omega) h3] at h1
      rw [Μ,← hl]
      exact ϭ h1
     exact PySem.W.ki_setBack ho (by omega) (by rw [Μ,← hl];exact h3) (by omega) (by rw [hk];exact q)
  | _=>cases e
 ·rename_i ks ds
  obtain ⟨o,vs,hb,hs,ho,dc,hl,r⟩:=r
  obtain ⟨kk,e1,e2⟩:=ϋ.mp (show ((bv k).bind fun k=>if ks.length<100000 then some (D.dic (bJ ks ds k d).1 (bJ ks ds k d).2) else none)=some y from e)
  by_cases c:ks.length<100000
  ·rw [ZZ c] at e2
   cases e2
   obtain ⟨us,h3,h4,h5,h6⟩:=nQ (k:=kk) hl r rd
   refine wpAny_setItem_pairs (hsz:=by obtain ⟨_,_,_,_,_,_,_,w⟩:=dc;exact w) (iK e1 rk) (dc.of ho) fun h' dd hs'=>?_
   rw [h3] at dd
   obtain ⟨o1,es,ep,w1,w2,w3,w4,w5,w6⟩:=dd
   exact h _ _ rfl hs'.2 ⟨o1,us,hb,hs,w1,⟨es,ep,w2,w3,w4,w5,w6,by rw [À];exact big (by omega)⟩,h4,h5⟩ rfl rfl
  ·rw [ZY c] at e2;cases e2
theorem wT {o o':O} (e:dX o k d=some o'):∃ x y,toO x=some o∧iY x k d=some y∧toO y=some o':=by
 cases o with
 | lst l=>
   cases k with
   | int i=>obtain ⟨l',e1,rfl⟩:=π.mp (show (qP l i d).map O.lst=some o' from e);exact ⟨.lst l,.lst l',rfl,by show (qP l i d).map D.lst=_;rw [e1];rfl,rfl⟩
   | _=>cases e
 | dic ks ds=>
   obtain ⟨kk,e1,e2⟩:=ϋ.mp (show ((bv k).bind fun k=>if ks.length<100000 then some (O.dic (bJ ks ds k d).1 (bJ ks ds k d).2) else none)=some o' from e)
   by_cases c:ks.length<100000
   ·rw [ZZ c] at e2;cases e2
    exact ⟨.dic ks ds,.dic (bJ ks ds kk d).1 (bJ ks ds kk d).2,rfl,by show ((bv k).bind fun k=>if ks.length<100000 then some (D.dic (bJ ks ds k d).1 (bJ ks ds k d).2) else none)=_;rw [e1];exact ZZ c,rfl⟩
   ·rw [ZY c] at e2;cases e2
 | ins _ _=>cases e
theorem mP (h:aI i=true):∀ v,assign (o.Subscript i pos) env v=(do
 let ov ← holding [v] (eval o env)
 let iv ← holding [v,ov] (eval i env)
 ņ pos
 holding [v,ov,iv] (CE ov iv v)
 release [v,ov,iv] []):=by
 cases i <;> first | (intro v;rfl) | cases h
theorem qy :swapsWithSole [.Subscript o i p] e l env=pure false:=by
 cases e <;> rfl
theorem kN :swappedStores [.Subscript o i p] e env=pure none:=by
 cases e <;> rfl
theorem lb {K:ζ→ξ→Prop} {E:ζ→ξ→Prop} {Q:Flow→ξ→Prop} {s:ξ} (hn:aI eb=true) (h:χ X.M X.A (eval ee X.env) K E s) (k:∀ v s',K v s'→χ X.M X.A (eval eo X.env) (fun ov s2=>χ X.M X.A (eval eb X.env) (fun iv s3=>χ X.M X.A (CE ov iv v) (fun _ s4=>Q .next s4) E s3) E s2) E s'):χ X.M X.A (exec (.Assign [.Subscript eo eb p2] ee pos) X.env) Q E s:=by
 refine wpAny_Assign_stores (thn h fun v s1 q=>?_) qy kN
 show χ _ _ (assign (eo.Subscript eb p2) X.env v) _ _ _
 rw [mP hn]
 exact ε (ό (thn (k v s1 q) fun ov s2 q=>ε (ό (thn q fun iv s3 q=>ε (Ô (ε (ό (thn q fun _ s4 q=>wpAny_release q))))))))
theorem qJ {n:Nat} {kv v:ζ} {p:Ε×Ε} {E:ζ→ξ→Prop} {o:ak} (x:Go X z0 z) (I:Rep X z) (ep:z.ρ[n]? = some p) (rk:CR X.W z k kv) (rd:RD X.W z.ρ z.G d v) (e:o=(match (z.t.st[n]?).bind fun o=>dX o k d with | some o=>.nx ⟨z.t.env,z.t.ow,z.t.st.set n o⟩ | none=>.bad)) (nb:o≠.bad):χ X.M X.A (CE (.ref p.1) kv v) (fun _ s4=>Ps X z0 o .next s4) E z.s:=by
 cases q:(z.t.st[n]?).bind fun o=>dX o k d with
 | none=>rw [q] at e;exact ZX e nb
 | some o'=>
   rw [q] at e
   obtain ⟨ob,q1,q2⟩:=ϋ.mp q
   obtain ⟨x1,y1,t1,t2,t3⟩:=wT q2
   have r:=I.ob n ob p q1 ep
   have hp:p=(p.1,p.2):=rfl
   refine qI t1 (hp ▸ r) rk rd t2 fun s' o1 t4 sb r' os gs=>?_
   rw [t3] at t4;cases t4
   obtain ⟨I2,g2⟩:=I.stw ep (.inl rfl) sb r' os gs
   exact nxt (z1:={ z with t:=⟨z.t.env,z.t.ow,z.t.st.set n o'⟩,s:=s' }) (x.trans g2) I2 e
theorem sT {i:Nat} {x:ι} (hN:X.N[i]? = some x) (hv:Vis X.env.scope x) (hd:(x == ("__debug__":ι))=false) (hcd:(x == ("__classdict__":ι))=false) (hn:aI eb=true) (hb:LE X eb b) (he:LE X ee e):LS X (.Assign [.Subscript (.Name x p) eb p2] ee pos) (.put (.v i) b e):=fun z I nb=>by
 refine lb hn ((he false).gos (K:=fun v s'=>∃ z1 d,z1.s=s'∧Go X z z1∧Rep X z1∧RD X.W z1.ρ z1.G d v∧X.ex (.put (.v i) b e) z.t=(match z1.t.env[i]? with
  | some (some x)=>(X.ev true b z1.t).go fun k s=>(match x with
    | .ref n=>(match (s.st[n]?).bind fun o=>dX o k d with | some o=>.nx ⟨s.env,s.ow,s.st.set n o⟩ | none=>.bad)
    | x=>if s.ow.contains i then (match iY x k d with | some y=>.nx ⟨s.env.set i (some y),s.ow,s.st⟩ | none=>.bad) else .bad)
  | _=>.bad)) .refl I rfl nb fun z1 d u y x1 I1 r1 e1=>⟨z1,d,rfl,x1,I1,r1.rd,e1⟩) fun v s' ⟨z1,d,q,x1,I1,r1,e1⟩=>?_
 subst q
 cases q:z1.t.env[i]? with
 | none=>rw [q] at e1;exact ZX e1 nb
 | some o0=>
   cases o0 with
   | none=>rw [q] at e1;exact ZX e1 nb
   | some x0=>
     rw [q] at e1
     obtain ⟨u,hu,_⟩:=I1.slot q
     refine bQ I1 hN hv hu ((hb true).gos x1 I1 e1 nb fun z2 kd kv y2 x2 I2 r2 e2=>?_) hd hcd
     have q2:z2.t.env[i]? = some (some x0):=by rw [y2.en];exact q
     have hu2:z2.σ[i]? = some (some u):=by rw [y2.sg];exact hu
     have own:∀ x1:D,x0=x1→X.ex (.put (.v i) b e) z.t=(if z2.t.ow.contains i then (match iY x1 kd d with | some y=>.nx ⟨z2.t.env.set i (some y),z2.t.ow,z2.t.st⟩ | none=>.bad) else .bad)→χ X.M X.A (CE u kv v) (fun _ s4=>Ps X z (X.ex (.put (.v i) b e) z.t) .next s4) (PxS X z (X.ex (.put (.v i) b e) z.t)) z2.s:=fun x1 ex e3=>by
      subst ex
      by_cases c:z2.t.ow.contains i=true
      ·rw [ZZ c] at e3
       have m2:i∈z2.t.ow:=by simpa using c
       obtain ⟨d0,a,o,h1,h2,h3,r,f⟩:=I2.eo i m2
       rw [q2] at h1;cases h1
       rw [hu2] at h2;cases h2
       cases q3:iY x0 kd d with
       | none=>rw [q3] at e3;exact ZX e3 nb
       | some y=>
         rw [q3] at e3
         refine qI h3 r (r2.rb.cr0 I2) (r1.st y2.st) q3 fun s' o' t sb r' os gs=>?_
         obtain ⟨I3,g3⟩:=I2.ownw (s':=s') m2 hu2 t sb r' os gs
         exact nxt (z1:={ z2 with t:=⟨z2.t.env.set i (some y),z2.t.ow,z2.t.st⟩,s:=s' }) (x2.trans g3) I3 e3
      ·rw [ZY c] at e3;exact ZX e3 nb
     cases x0 with
     | ref n=>
       have nm:i ∉ z2.t.ow:=fun m=>by
        obtain ⟨d0,a,o,h1,h2,h3,_⟩:=I2.eo i m
        rw [q2] at h1;cases h1;cases h3
       obtain ⟨u',hu',p,ep,rfl⟩:=I2.en i _ nm q2
       rw [hu2] at hu';cases hu'
       exact qJ x2 I2 ep (r2.rb.cr0 I2) (r1.st y2.st) e2 nb
     | _=>exact own _ rfl e2
end
section
variable {X:Cx} {z z' z0 z1:Z} {an:Nat→ι}
theorem Rep.snoc {s':ξ} {p:Ε×Ε} {o:O} (I:Rep X z) (g:Gr z.s s') (hp:z.h p.1=none∧z.h p.2=none) (r:ObR X.W (z.ρ ++ [p]) z.G s'.heap.get? p o):Rep X { z with ρ:=z.ρ ++ [p],t:=⟨z.t.env,z.t.ow,z.t.st ++ [o]⟩,s:=s' }∧Ee X z { z with ρ:=z.ρ ++ [p],t:=⟨z.t.env,z.t.ow,z.t.st ++ [o]⟩,s:=s' }:=by
 obtain ⟨H,S⟩:=HR.snoc (w:=Own z) I.toHR g hp r
 have pre:z.ρ <+: z.ρ ++ [p]:=ê _ _
 have nm:∀ {a},(∃ o,z.h a=some o)→¬ Mu z.ρ a→¬ Mu (z.ρ ++ [p]) a:=fun ⟨o,e⟩ n w=>(iP.mp w).elim n fun w=>by
  rcases w with w | w
  ·rw [w,hp.1] at e;cases e
  ·rw [w,hp.2] at e;cases e
 have sl:∀ b o,z.s.heap.get? b=some o→∃ sl,s'.heap.get? b=some { o with slots:=sl }:=fun b o e=>⟨o.slots,g.k b o e⟩
 refine ⟨⟨H,I.ok,?_,fun x c e=>let ⟨v,q⟩:=I.ce x c e;⟨v,eW sl q⟩,fun a l=>⟨(I.fl a l).1,nm (I.lth l) (I.fl a l).2⟩,I.el,I.sl,fun i d n e=>let ⟨u,q,r⟩:=I.en i d n e;⟨u,q,r.mono pre (.refl _)⟩,fun i m=>?_,I.od⟩,S,rfl,rfl,fun _ h=>h⟩
 ·obtain ⟨m,hn,hl⟩:=I.lo
  exact ⟨m,uJ sl hn,fun i x u h1 h2 h3=>cP (fun c v _ q=>eW sl q) (hl i x u h1 h2 h3)⟩
 ·obtain ⟨d,a,o,h1,h2,h3,r,f⟩:=I.eo i m
  exact ⟨d,a,o,h1,h2,h3,r.mono pre (.refl _) fun b _ o e=>g.k b o e,f.1,nm r.th.1 f.2.1,f.2.2⟩
theorem qv (I:HR X z):(z.ρ ++ [p])[z.t.st.length]? = some p:=by rw [Ρ (by rw [I.rl];exact Ο _),I.rl,Ő];rfl
theorem mJ {y:ζ}:∀ {nm:List ι} {vs:List ζ} {j:Nat},nm.Nodup→nm[j]? = some f→j<vs.length→∀ g,(nm.zip (vs.set j y)).lookup g=if g=f then some y else (nm.zip vs).lookup g
 | [],_,_,_,h,_,_=>by simp at h
 | _ :: _,[],_,_,_,h,_=>by simp at h
 | n :: nm,v :: vs,0,nd,h,_,g=>by
   have e:n=f:=by simpa using h
   subst e
   show (match g == n with | true=>some y | false=>(nm.zip vs).lookup g)=if g=n then some y else (match g == n with | true=>some v | false=>(nm.zip vs).lookup g)
   by_cases c:g=n
   ·rw [ZZ c,beq_iff_eq.mpr c]
   ·rw [ZY c,ZU.mpr c]
 | n :: nm,v :: vs,j+1,nd,h,hl,g=>by
   have h':nm[j]? = some f:=by simpa using h
   have ne:n≠f:=fun z=>by subst z;exact (ϟ.mp nd).1 (Ζ h')
   have ih:=mJ (y:=y) (ϟ.mp nd).2 h' (by simpa using hl) g
   show (match g == n with | true=>some v | false=>(nm.zip (vs.set j y)).lookup g)=if g=f then some y else (match g == n with | true=>some v | false=>(nm.zip vs).lookup g)
   by_cases c:g=n
   ·rw [ZY fun w=>ne (c ▸ w),beq_iff_eq.mpr c]
   ·rw [ZU.mpr c];exact ih
theorem ka {y:ζ}:∀ {nm:List ι} {vs:List ζ},nm.Nodup→nm[vs.length]? = some f→∀ g,(nm.zip (vs ++ [y])).lookup g=if g=f then some y else (nm.zip vs).lookup g
 | [],_,_,h,_=>by simp at h
 | n :: nm,[],nd,h,g=>by
   have e:n=f:=by simpa using h
   subst e
   rw [ğ,ų,Ų,Ų]
   show (match g == n with | true=>some y | false=>none)=if g=n then some y else none
   by_cases c:g=n
   ·rw [ZZ c,beq_iff_eq.mpr c]
   ·rw [ZY c,ZU.mpr c]
 | n :: nm,v :: vs,nd,h,g=>by
   have h':nm[vs.length]? = some f:=by simpa using h
   have ne:n≠f:=fun z=>by subst z;exact (ϟ.mp nd).1 (Ζ h')
   have ih:=ka (y:=y) (ϟ.mp nd).2 h' g
   show (match g == n with | true=>some v | false=>(nm.zip (vs ++ [y])).lookup g)=if g=f then some y else (match g == n with | true=>some v | false=>(nm.zip vs).lookup g)
   by_cases c:g=n
   ·rw [ZY fun w=>ne (c ▸ w),beq_iff_eq.mpr c]
   ·rw [ZU.mpr c];exact ih
theorem tH (h:eS Γ (.ins c l) f d=some o):∃ k,Γ.cl[c]? = some k∧k.at_.length<1000∧((k.at_.idxOf f<l.length∧o = .ins c (l.set (k.at_.idxOf f) d))∨(k.at_.idxOf f=l.length∧k.at_.idxOf f<k.at_.length∧o = .ins c (l ++ [d]))):=by
 have h:((Γ.cl[c]?).bind fun k=>if k.at_.length<1000 then (if k.at_.idxOf f<l.length then some (O.ins c (l.set (k.at_.idxOf f) d)) else if k.at_.idxOf f=l.length∧k.at_.idxOf f<k.at_.length then some (.ins c (l ++ [d])) else none) else none)=some o:=h
 obtain ⟨k,hk,h⟩:=ϋ.mp h
 refine ⟨k,hk,?_⟩
 by_cases z0:k.at_.length<1000
 ·rw [ZZ z0] at h
  refine ⟨z0,?_⟩
  by_cases z:k.at_.idxOf f<l.length
  ·rw [ZZ z] at h;cases h;exact .inl ⟨z,rfl⟩
  ·rw [ZY z] at h
   by_cases z2:k.at_.idxOf f=l.length∧k.at_.idxOf f<k.at_.length
   ·rw [ZZ z2] at h;cases h;exact .inr ⟨z2.1,z2.2,rfl⟩
   ·rw [ZY z2] at h;cases h
 ·rw [ZY z0] at h;cases h
theorem wX (T:cj X an) (I:Rep X z) {n f:Nat} {p:Ε×Ε} {d:D} {v:ζ} {o o':O} {A:ϑ} {Q:Unit→ξ→Prop} {E:ζ→ξ→Prop} (ep:z.ρ[n]? = some p) (rd:RD X.W z.ρ z.G d v) (q:z.t.st[n]? = some o) (e:eS X.Γ o f d=some o')
 (h:∀ s',Rep X { z with t:=⟨z.t.env,z.t.ow,z.t.st.set n o'⟩,s:=s' }→Go X z { z with t:=⟨z.t.env,z.t.ow,z.t.st.set n o'⟩,s:=s' }→Q () s'):χ X.M A (BL (.ref p.1) (an f) v) Q E z.s:=by
 have ob:=I.ob n o p q ep
 cases o with
 | ins c l=>
   obtain ⟨k,hk,h1000,alt⟩:=tH e
   obtain ⟨i',vs,w1,w2,w3,w4,w5⟩:=ob
   obtain ⟨i,C⟩:=T c k hk
   rw [C.ci] at w1
   have ii:i=i':=ϭ w1
   subst ii
   have lnm:i.nm.length=k.at_.length:=by rw [C.nm,Η]
   have wz:k.what≠2:=by have:=C.wh;rw [w2] at this;have e:=ϭ this;omega
   have lv:=w5.len
   have hj:k.at_.idxOf f<k.at_.length:=by
    rcases alt with ⟨z,_⟩ | ⟨_,z,_⟩
    ·omega
    ·exact z
   have hn:i.nm[k.at_.idxOf f]? = some (an f):=by rw [C.nm,Ω,φ hj];simp
   have cl:=C.cls wz
   have na:=C.na _ (Ζ hn)
   refine tI (ns:=i.nm) I.toHR.kin (InO.objm w4) cl.sa cl.po na.taker cl.hd (fun y hy=>?_) (by rw [lnm];exact ϰ (đ h1000) (big (by omega))) fun h' om sb=>?_
   ·cases qq:(i.nm.zip vs).lookup y with
    | none=>exact ZX qq hy
    | some u=>
      obtain ⟨l1,l2,e1,_⟩:=BJ.mp qq
      exact (Ğ (show (y,u)∈i.nm.zip vs by rw [e1];simp)).1
   ·have done:∀ vs' l',o' = .ins c l'→RDs X.W z.ρ z.G l' vs'→l'.length≤i.nm.length→(∀ g,(i.nm.zip vs').lookup g=if g=an f then some v else (i.nm.zip vs).lookup g)→Q () { z.s with heap:=h',toks:=z.s.toks+2 }:=fun vs' l' eo r hl lk=>by
     subst eo
     obtain ⟨od,es,ep',e1,e2,e3,e4,e5⟩:=om.ns
     obtain ⟨I2,g2⟩:=I.stw (s':={ z.s with heap:=h',toks:=z.s.toks+2 }) (o':=.ins c l') ep (.inr rfl) (fun b hb=>sb.2 b hb) ⟨i,vs',C.ci,w2,hl,⟨om.obj,om.ne,by rw [À];omega,od,e1,es,ep',e2,e3,e4,fun nn=>(e5 nn).trans (lk nn).symm⟩,r⟩ rfl rfl
     exact h _ I2 g2
    rcases alt with ⟨z,eo⟩ | ⟨z,_,eo⟩
    ·exact done _ _ eo (w5.set _ rd) (by rw [Á];exact w3) (mJ C.nd hn (by omega))
    ·exact done _ _ eo (w5.app (.cons rd rfl)) (by rw [ω];simp;omega) (ka C.nd (by rw [← lv,← z];exact hn))
 | _=>cases e
theorem mz (T:cj X an) (x:Go X z0 z) (I:Rep X z) {n f:Nat} {p:Ε×Ε} {d:D} {v:ζ} {A:ϑ} {E:ζ→ξ→Prop} {o:ak} (ep:z.ρ[n]? = some p) (rd:RD X.W z.ρ z.G d v) (e:o=(match (z.t.st[n]?).bind fun o=>eS X.Γ o f d with | some o=>.nx ⟨z.t.env,z.t.ow,z.t.st.set n o⟩ | none=>.bad)) (nb:o≠.bad):χ X.M A (BL (.ref p.1) (an f) v) (fun _ s'=>Ps X z0 o .next s') E z.s:=by
 cases q:(z.t.st[n]?).bind fun o=>eS X.Γ o f d with
 | none=>rw [q] at e;exact ZX e nb
 | some o'=>
   rw [q] at e
   obtain ⟨ob,q1,q2⟩:=ϋ.mp q
   exact wX T I ep rd q1 q2 fun s' I2 g2=>nxt (z1:={ z with t:=⟨z.t.env,z.t.ow,z.t.st.set n o'⟩,s:=s' }) (x.trans g2) I2 e
def kP:E→Bool
 | .lst .nil=>false
 | .dic .nil=>false
 | _=>true
theorem m9 (h:kP e=true):X.ex (.fld a f e) s=(X.ev false e s).go fun d s=>(X.ev true a s).go fun x s=>(match x with
        | .ref n=>(match (s.st[n]?).bind fun o=>eS X.Γ o f d with | some o=>.nx ⟨s.env,s.ow,s.st.set n o⟩ | none=>.bad)
        | _=>.bad):=by
 cases e with
 | lst es=>cases es <;> first | rfl | cases h
 | dic es=>cases es <;> first | rfl | cases h
 | _=>rfl
theorem dW :ſ e (some (.Attribute o x p)) l env=pure false:=by
 cases e <;> rfl
theorem kQ (I:Rep X z) (h:RB X.W z (.ref n) u):∃ p,z.ρ[n]? = some p∧u = .ref p.1:=h.cr0 I
theorem wn (T:cj X an) (hp:kP e=true) (ho:LE X eo a) (he:LE X ee e):LS X (.Assign [.Attribute eo (an f) p] ee pos) (.fld a f e):=fun z I nb=>æ ((he false).gos .refl I (m9 hp) nb fun z1 d v y1 x1 I1 r1 e1=>(ho true).gos x1 I1 e1 nb fun z2 x u y2 x2 I2 r2 e2=>by
 cases x with
 | ref n=>
   obtain ⟨p,ep,rfl⟩:=kQ I2 r2.rb
   exact mz T x2 I2 ep (r1.rd.st y2.st) e2 nb
 | _=>exact ZX e2 nb) dW
theorem l8 (T:cj X an) {o:ak} {o0:O} {s':ξ} {a:Ε} {i:Nat} {x:ι} (I:Rep X z) (g:Gr z.s s') (ha:z.h a=none) (r:∀ ρ,ObR X.W ρ z.G s'.heap.get? (a,a) o0) (hN:X.N[i]? = some x) (hv:Vis X.env.scope x) (hd:(x == ("__debug__":ι))=false) (hcd:(x == ("__classdict__":ι))=false)
 (e:o=((X.ev true (.v i) z.t).go fun x s=>(match x with
  | .ref n=>(match (s.st[n]?).bind fun o=>eS X.Γ o f (.ref s.st.length) with | some o=>.nx ⟨s.env,s.ow,(s.st ++ [o0]).set n o⟩ | none=>.bad)
  | _=>.bad))) (nb:o≠.bad):χ X.M X.A (eval (.Name x p1) X.env) (fun ov s2=>χ X.M X.A (BL ov (an f) (.ref a)) (fun _ s3=>Ps X z o .next s3) (PxS X z o) s2) (PxS X z o) s':=by
 obtain ⟨I1,x1⟩:=I.snoc (p:=(a,a)) g ⟨ha,ha⟩ (r _)
 have ev:X.ev true (.v i) z.t=(match z.t.env[i]? with | some (some d)=>.ok d z.t | _=>.bad):=rfl
 rw [ev] at e
 cases q:z.t.env[i]? with
 | none=>rw [q] at e;exact ZX e nb
 | some oo=>cases oo with
   | none=>rw [q] at e;exact ZX e nb
   | some d=>
     rw [q] at e
     obtain ⟨u,hu,ru⟩:=I1.slot (i:=i) (d:=d) q
     refine bQ I1 hN hv hu ?_ hd hcd
     cases d with
     | ref n=>
       obtain ⟨p,ep,rfl⟩:=kQ I1 ru
       have e:o=(match (z.t.st[n]?).bind fun o=>eS X.Γ o f (.ref z.t.st.length) with | some o=>.nx ⟨z.t.env,z.t.ow,(z.t.st ++ [o0]).set n o⟩ | none=>.bad):=e
       refine mz T x1.go I1 ep (show RD X.W (z.ρ ++ [(a,a)]) z.G (.ref z.t.st.length) (.ref a) from ⟨_,qv I.toHR,rfl⟩) (e.trans ?_) nb
       show _=(match ((z.t.st ++ [o0])[n]?).bind fun o=>eS X.Γ o f (.ref z.t.st.length) with | some o=>ak.nx ⟨z.t.env,z.t.ow,(z.t.st ++ [o0]).set n o⟩ | none=>ak.bad)
       cases q1:z.t.st[n]? with
       | none=>rw [q1] at e;exact ZX e nb
       | some w=>rw [Ψ (ο.mp q1).1,q1]
     | _=>exact ZX e nb
theorem sP (T:cj X an) (hN:X.N[i]? = some x) (hv:Vis X.env.scope x) (hd:(x == ("__debug__":ι))=false) (hcd:(x == ("__classdict__":ι))=false):LS X (.Assign [.Attribute (.Name x p1) (an f) p] (.Dict [] [] p2) pos) (.fld (.v i) f (.dic .nil)):=fun z I nb=>æ (DW (l8 (o0:=.dic [] []) T I (.push (t:=z.s.toks)) (aD z) (fun ρ=>⟨_,[],rfl,ZU.mpr (î I.sysm),ψ _ rfl,by
 obtain ⟨o,es,ep,h1,h2,h3,h4,h5,h6⟩:=BQ (knd:=bt X.W.P X.W.w) z.s.heap
 rw [ψ _ rfl] at h1
 cases h1
 exact ⟨es,ep,h2,h3,h4,h5,h6,Î _⟩,rfl,rfl⟩) hN hv hd hcd rfl nb)) dW
theorem sQ (T:cj X an) (hN:X.N[i]? = some x) (hv:Vis X.env.scope x) (hd:(x == ("__debug__":ι))=false) (hcd:(x == ("__classdict__":ι))=false):LS X (.Assign [.Attribute (.Name x p1) (an f) p] (.List [] p2) pos) (.fld (.v i) f (.lst .nil)):=fun z I nb=>æ (AU (ϊ ⟨Î _,l8 (o0:=.lst []) T I (.push (t:=z.s.toks)) (aD z) (fun ρ=>⟨_,[],rfl,ψ _ rfl,⟨⟨_,rfl⟩,Î _⟩,rfl⟩) hN hv hd hcd rfl nb⟩)) dW
theorem ti {es:List D} {us:List ζ} {o:Out D} (x:Ee X z0 z) (I:Rep X z) (r:RDs X.W z.ρ z.G es us) (hz:es.length≤100000) (e:o = .ok (.ref z.t.st.length) ⟨z.t.env,z.t.ow,z.t.st ++ [.lst es]⟩):Pe X z0 o (RV X.W br c) (.ref z.s.heap.objs.size) { z.s with heap:=z.s.heap.push { cls:=.type "list",data:=.seq us.toArray } }:=by
 obtain ⟨I1,x1⟩:=I.snoc (p:=(z.s.heap.objs.size,z.s.heap.objs.size)) (o:=.lst es) (.push (t:=z.s.toks)) ⟨aD z,aD z⟩ ⟨_,us,rfl,ψ _ rfl,⟨⟨_,rfl⟩,by rw [← r.len];exact big hz⟩,r.mono (ê _ _) (.refl _)⟩
 exact ⟨_,.ref z.t.st.length,rfl,e,x.trans x1,I1,.of (show RD X.W (z.ρ ++ [_]) z.G (.ref z.t.st.length) _ from ⟨_,qv I.toHR,rfl⟩)⟩
theorem lQ (h:LA X er es):LE X (.List er pos) (.newl es):=fun br z I nb=>AU ((h false pos).go (f:=fun l s=>if l.length≤100000 then Out.ok (D.ref s.st.length) ⟨s.env,s.ow,s.st ++ [.lst l]⟩ else .bad) .refl I rfl nb fun z1 l us y1 x1 I1 r1 e1=>by
 by_cases c:l.length≤100000
 ·rw [ZZ c] at e1
  exact ⟨by rw [← r1.rds.len];exact big c,ti x1 I1 r1.rds c e1⟩
 ·rw [ZY c] at e1;exact ZX e1 nb)
theorem sV (hN:X.N.Nodup) (hi:X.N[i]? = some x) (hx:Loc X.env.scope x) (h:LA X er es) (hs:ſ (.List er lp) (some (.Name x pos')) pos.line X.env=pure false):LS X (.Assign [.Name x pos'] (.List er lp) pos) (.setR i es):=fun z I nb=>DL (by
 have e:X.ex (.setR i es) z.t=(X.ev false (.newl es) z.t).go fun d s=>.nx (stV s i d false):=by
  show Out.go (X.evs false es z.t) _=Out.go (Out.bind (X.evs false es z.t) _) _
  cases X.evs false es z.t with
  | ok l s=>show (if l.length≤100000 then _ else _)=Out.go (if l.length≤100000 then _ else _) _;by_cases c:l.length≤100000 <;> simp only [c,if_true,if_false] <;> rfl
  | _=>rfl
 exact (lQ h false).gos .refl I e nb fun z1 d u y x0 I1 r e1=>b5 (own:=false) x0 I1 hN hi hx r.rd fun s' a _ _ I' g'=>nxt (z1:={ z1 with t:=stV z1.t i d false,σ:=z1.σ.set i (some u),s:=s' }) g' I' e1) hs
structure AugR (X:Cx) (op:Operator) (o:Op) (g:Int→Int→Int):Prop where
 op:∀ {A:ϑ} {s:ξ} {i j:Int} {t u:Tok} {Q:ζ→ξ→Prop} {E:ζ→ξ→Prop},Q (.int (g i j) s.toks) { s with toks:=s.toks+1 }→χ X.M A (inplaceOp op (.int i t) (.int j u)) Q E s
 od:∀ i j,opD o (.int i) (.int j)=some (.int (g i j))
 oi:∀ x c d,opD o x (.int c)=some d→∃ w,x = .int w
end
section
variable {prog:ϱ} {w:Ð} {A:ϑ} {E:ζ→ξ→Prop} {s:ξ}
theorem gV {it l:Ε} {items:Array ζ} (hne:l≠it):∀ (n i:Nat) (s:ξ) (Q:List ζ→ξ→Prop),s.heap.IsListIter it l i→s.heap.IsList l items→i+n≤items.size →
 (∀ h',h'.IsListIter it l (i+n)→ë it s.heap h'→Q ((items.toList.drop i).take n) { s with heap:=h' })→χ (model prog w) A (draw (.ref it) n) Q E s
 | 0,i,s,Q,hit,_,_,hQ=>by
   show χ _ _ (pure []) Q E s
   exact θ (by simpa using hQ s.heap hit (Heap.SameBut.refl ..))
 | n+1,i,s,Q,hit,ht,hle,hQ=>by
   have hlt:i<items.size:=by omega
   show χ _ _ (Bv (.ref it) >>= _) Q E s
   refine ε (wpAny_pyNext_list_item hit ht (x:=items[i]) (by simp [hlt]) fun h₁ hit₁ hs₁=>?_)
   refine ε (ό (gV hne n (i+1) _ _ hit₁ (ht.extBut hs₁.extBut hne) (by omega) fun h₂ hit₂ hs₂=>θ ?_))
   have hd:items.toList.drop i=items[i] :: items.toList.drop (i+1):=by simp [ī,hlt]
   have:=hQ h₂ (by rw [show i+(n+1)=i+1+n by omega];exact hit₂) (hs₁.trans hs₂)
   rw [hd,List.take_succ_cons] at this
   exact this
theorem eD {l:Ε} {items:Array ζ} {Q:List ζ→ξ→Prop} (hh:A.handled=none) (ht:s.heap.IsList l items)
 (hQ:∀ h',E1 s.heap.objs.size s.heap h'→Q items.toList { s with heap:=h' }):χ (model prog w) A (D2 (.ref l) items.size none) Q E s:=by
 have hlt:l≠s.heap.objs.size:=by obtain ⟨o,ho,_⟩:=ht;exact ϧ (Χ ho)
 unfold D2
 refine ε ?_
 unfold notIterableAtAll
 refine ε (E8 ht.typeIs slot_list_iter.lookup ?_)
 refine θ ?_
 simp only [ì,if_false]
 refine ε (ό (Ĕ ht ?_))
 refine ε (ό (gV hlt items.size 0 _ _ ⟨_,ψ _ rfl,rfl,rfl⟩ (ht.push _) (by omega) fun h₁ hit₁ hs₁=>?_))
 have hall:List.take items.size (List.drop 0 items.toList)=items.toList:=by
  rw [ĥ];exact List.take_of_length_le (by simp)
 rw [hall]
 rw [ZY (by simp)]
 have ht₁:h₁.IsList l items:=(ht.push _).extBut hs₁.extBut hlt
 refine ε (ό (wpAny_pyNext_list_end hh hit₁ ht₁ (by simp) fun h₂ he₂=>?_))
 simp only [Option.isSome_none,ì,if_false]
 exact θ (hQ h₂ fun b o hb e=>he₂ b o hb (hs₁.extBut b o hb (υ _ e)))
end
section
variable {X:Cx} {z z' z0 z1:Z}
def binds (env:List (Option D)) (l:List (Nat×D)):List (Option D):=l.foldl (fun e p=>e.set p.1 (some p.2)) env
def xz (t:Sta) (ts:List Nat) (ds:List D):Sta:=⟨binds t.env (ts.zip ds),t.ow.filter fun i=>!ts.contains i,t.st⟩
def As (X:Cx):List (ζ→Dh Unit)→List Nat→Prop
 | f :: fs,i :: t=>(∃ x,X.N[i]? = some x∧Loc X.env.scope x∧∀ {v Q E s},χ X.M X.A (storeName X.env x v) Q E s→χ X.M X.A (f v) Q E s)∧As X fs t
 | [],[]=>True
 | _,_=>False
theorem tV {Q:Unit→ξ→Prop} {E:ζ→ξ→Prop} (hN:X.N.Nodup):∀ {fs t ds us z},As X fs t→Go X z0 z→Rep X z→RDs X.W z.ρ z.G ds us→ds.length=t.length→(∀ z',Go X z0 z'→Rep X z'→z'.ρ=z.ρ→z'.G=z.G→z'.t=xz z.t t ds→(∀ j,j ∉ t→z'.σ[j]? = z.σ[j]?)→((∀ i∈t,∀ x,X.N[i]? = some x→X.env.scope.names.lookup x=some .local)→∀ b o,z.h b=some o→b≠X.env.locals→z'.h b=some o)→Q () z'.s)→χ X.M X.A (assignInOrder fs us) Q E z.s
 | [],[],[],us,z,_,x,I,r,_,h=>assignInOrder_nil (h z x I rfl rfl (by
   have:z.t.ow.filter (fun i=>!([]:List Nat).contains i)=z.t.ow:=List.filter_eq_self.mpr fun _ _=>rfl
   show z.t=⟨z.t.env,_,z.t.st⟩
   rw [this]) (fun _ _=>rfl) fun _ _ _ e _=>e)
 | f :: fs,i :: t,d :: ds,us,z,⟨⟨x',h1,h2,h3⟩,ha⟩,x,I,r,hl,h=>by
   obtain ⟨u,vs,rfl,r1,r2⟩:=r
   refine assignInOrder_cons (h3 (b5 (own:=false) x I hN h1 h2 r1 fun s' a sb la I' g'=>?_))
   refine tV hN (z:={ z with t:=stV z.t i d false,σ:=z.σ.set i (some u),s:=s' }) ha g' I' r2 (ı hl) fun z' gz Iz eρ eG et eσ ek=>h z' gz Iz eρ eG (et.trans ?_) (fun j nj=>?_) fun lc b o e nb=>ek (fun i' m=>lc i' (ν _ m)) b o ((sb.2 b fun q=>nb (q.trans (la.2 (lc i μ x' h1)))).trans e) nb
   ·show (⟨binds (z.t.env.set i (some d)) (t.zip ds),(z.t.ow.filter (· != i)).filter (fun j=>!t.contains j),z.t.st⟩:Sta)=⟨binds (z.t.env.set i (some d)) (t.zip ds),z.t.ow.filter (fun j=>!(i :: t).contains j),z.t.st⟩
    rw [List.filter_filter]
    congr 1
    refine CP fun j _=>?_
    rw [List.contains_cons,Bool.not_or,Bool.and_comm];rfl
   ·rw [ς,not_or] at nj
    exact (eσ j nj.2).trans (Φ (Ϥ nj.1))
 | [],_ :: _,_,_,_,h,_,_,_,_,_=>h.elim
 | _ :: _,[],_,_,_,h,_,_,_,_,_=>h.elim
 | [],[],_ :: _,_,_,_,_,_,_,hl,_=>by cases hl
 | _ :: _,_ :: _,[],_,_,_,_,_,_,hl,_=>by cases hl
def LG (X:Cx) (tg:Ν) (t:List Nat) (one:Bool):Prop:=∀ (z0 z:Z) (d:D) (u:ζ) (env:List (Option D)) (Q:Unit→ξ→Prop) (E:ζ→ξ→Prop),Go X z0 z→Rep X z→RD X.W z.ρ z.G d u→aH t one d z.t.env=some env →
 (∀ z',Go X z0 z'→Rep X z'→z'.ρ=z.ρ→Go X z z'→z'.t=⟨env,z.t.ow.filter fun i=>!t.contains i,z.t.st⟩→(∀ j,j ∉ t→z'.σ[j]? = z.σ[j]?)→((∀ i∈t,∀ x,X.N[i]? = some x→X.env.scope.names.lookup x=some .local)→∀ b o,z.h b=some o→b≠X.env.locals→z'.h b=some o)→Q () z'.s)→χ X.M X.A (assign tg X.env u) Q E z.s
theorem sG (hN:X.N.Nodup) (hi:X.N[i]? = some x) (hx:Loc X.env.scope x):LG X (.Name x pos) [i] true:=fun z0 z d u env Q E x0 I r e h=>by
 cases (show some (z.t.env.set i (some d))=some env from e)
 refine B9 (b5 (own:=false) .refl I hN hi hx r fun s' a sb la I' g'=>h { z with t:=stV z.t i d false,σ:=z.σ.set i (some u),s:=s' } (x0.trans g') I' rfl g' ?_ (fun j nj=>?_) fun lc b o e nb=>(sb.2 b fun q=>nb (q.trans (la.2 (lc i (η.mpr rfl) x hi)))).trans e)
 ·show (⟨_,z.t.ow.filter (· != i),z.t.st⟩:Sta)=⟨_,z.t.ow.filter (fun j=>![i].contains j),z.t.st⟩
  congr 1
  refine CP fun j _=>?_
  by_cases c:j=i <;> simp [c]
 ·exact Φ fun w=>nj (by rw [w];exact η.mpr rfl)
theorem qV {n:Nat} {Q:List ζ→ξ→Prop} {E:ζ→ξ→Prop} {d:D} {l:List D} (hc:X.calm=true) (I:Rep X z) (r:RD X.W z.ρ z.G d u) (e:d = .tup l∨d = .lst l) (hn:l.length=n) (q:∀ s' us,Gr z.s s'→RDs X.W z.ρ z.G l us→Q us s'):χ X.M X.A (D2 u n none) Q E z.s:=by
 subst hn
 rcases e with rfl | rfl
 ·obtain ⟨a,o,vs,rfl,g,⟨tc,⟨k,td⟩,tl⟩,r⟩:=r
  rw [show l.length=vs.toArray.size by simp [r.len]]
  exact wpAny_unpackItems_tuple (I.hd hc) (show z.s.heap.IsTuple a vs.toArray from ⟨o,I.gh _ _ g,tc,⟨k,td⟩⟩) fun h' hx=>q _ _ (.hp (t:=z.s.toks) fun b o e=>hx b o (ϧ (Χ e)) e) (by simpa using r)
 ·obtain ⟨a,o,vs,rfl,g,⟨⟨k,rfl⟩,tl⟩,r⟩:=r
  rw [show l.length=vs.toArray.size by simp [r.len]]
  exact eD (I.hd hc) (show z.s.heap.IsList a vs.toArray from ⟨_,I.gh _ _ g,rfl,⟨k,rfl⟩⟩) fun h' hx=>q _ _ (.hp (t:=z.s.toks) fun b o e=>hx b o (ϧ (Χ e)) e) (by simpa using r)
theorem oB (e:aH t false d env=some env'):∃ l,(d = .tup l∨d = .lst l)∧l.length=t.length∧env'=binds env (t.zip l):=by
 cases d with
 | tup l=>obtain ⟨c,e⟩:=bo (show (if l.length=t.length then some (binds env (t.zip l)) else none)=some env' from e);cases e;exact ⟨l,.inl rfl,c,rfl⟩
 | lst l=>obtain ⟨c,e⟩:=bo (show (if l.length=t.length then some (binds env (t.zip l)) else none)=some env' from e);cases e;exact ⟨l,.inr rfl,c,rfl⟩
 | _=>cases e
theorem wg {es:List Ν} {k:Nat} {pos:Ϭ} (hc:X.calm=true) (hN:X.N.Nodup) (ha:As X ((Ķ es X.env).map (·.2)) t) (hn:(Ķ es X.env).length=t.length) (hst:(Ķ es X.env).findIdx? (·.1)=none):LG X (.Tuple es k pos) t false:=fun z0 z d u env Q E x0 I r e h=>by
 obtain ⟨l,dl,hl,rfl⟩:=oB e
 rw [assign_Tuple]
 refine ε (Ô ?_)
 unfold unpack
 rw [hn,hst]
 refine ε (ό (qV hc I r dl hl fun s' us g rs=>?_))
 exact tV (z:={ z with s:=s' }) hN ha (aw I.gh g).ee.go (I.grow (aw I.gh g)) rs hl fun z' gz Iz eρ eG et eσ ek=>h z' (x0.trans gz) Iz eρ gz et eσ fun lc b o e nb=>ek lc b o (g.k b o e) nb
end
section
variable {X:Cx} {z:Z}
def isV:E→Bool
 | .v _=>true
 | _=>false
theorem sS (hn:aI eb=true) (hv:isV a=false) (ho:LE X eo a) (hb:LE X eb b) (he:LE X ee e):LS X (.Assign [.Subscript eo eb p2] ee pos) (.put a b e):=fun z I nb=>by
 have e0:X.ex (.put a b e) z.t=(X.ev false e z.t).go fun d s=>(X.ev true a s).go fun x s=>(X.ev true b s).go fun k s=>(match x with
  | .ref n=>(match (s.st[n]?).bind fun o=>dX o k d with | some o=>.nx ⟨s.env,s.ow,s.st.set n o⟩ | none=>.bad)
  | _=>.bad):=by cases a <;> first | rfl | cases hv
 refine lb hn ((he false).gos (K:=fun v s'=>∃ z1 d,z1.s=s'∧Go X z z1∧Rep X z1∧RD X.W z1.ρ z1.G d v∧X.ex (.put a b e) z.t=((X.ev true a z1.t).go fun x s=>(X.ev true b s).go fun k s=>(match x with
  | .ref n=>(match (s.st[n]?).bind fun o=>dX o k d with | some o=>.nx ⟨s.env,s.ow,s.st.set n o⟩ | none=>.bad)
  | _=>.bad))) .refl I e0 nb fun z1 d u y x1 I1 r1 e1=>⟨z1,d,rfl,x1,I1,r1.rd,e1⟩) fun v s' ⟨z1,d,q,x1,I1,r1,e1⟩=>?_
 subst q
 exact (ho true).gos x1 I1 e1 nb fun z2 x u y2 x2 I2 r2 e2=>(hb true).gos x2 I2 e2 nb fun z3 k kv y3 x3 I3 r3 e3=>by
  cases x with
  | ref n=>
    obtain ⟨p,ep,rfl⟩:=kQ I3 (r2.rb.st y3 I3)
    exact qJ x3 I3 ep (r3.rb.cr0 I3) ((r1.st y2.st).st y3.st) e3 nb
  | _=>exact ZX e3 nb
theorem wm {i:Nat} {x:ι} (hN:X.N[i]? = some x) (hv:Vis X.env.scope x) (hd:(x == ("__debug__":ι))=false) (hcd:(x == ("__classdict__":ι))=false) (he:LE X e c) (m:M1 X (.Name x p) "extend" apos e cpos):LS X (.Expr (.Call (.Attribute (.Name x p) "extend" apos) [e] [] cpos) pos) (.ext i c):=fun z I nb=>by
 have e0:X.ex (.ext i c) z.t=(if z.t.ow.contains i && isLst z.t.env[i]? then (X.ev false c z.t).go fun d s=>if s.ow.contains i then (match s.env[i]?,d with
  | some (some (.lst l)),.lst x=>if l.length+x.length≤100000 then .nx ⟨s.env.set i (some (.lst (l ++ x))),s.ow,s.st⟩ else .bad
  | _,_=>.bad) else .bad else .bad):=rfl
 by_cases c0:(z.t.ow.contains i && isLst z.t.env[i]?)=true
 ·rw [ZZ c0] at e0
  rw [Τ] at c0
  have mi:i∈z.t.ow:=by simpa using c0.1
  obtain ⟨l,el⟩:∃ l,z.t.env[i]? = some (some (.lst l)):=by
   have:=c0.2
   unfold isLst at this
   split at this
   ·rename_i l q;exact ⟨l,q⟩
   ·cases this
  obtain ⟨a,vs,n,es,ha,r⟩:=eZ I mi el
  refine Ŷ (Bb m.base m.few m.line Bm Bh PySem.F.type_list_extend (bQ I hN hv es ⟨⟨_,ha,rfl⟩,fun b q=>(by cases q;exact ⟨_,ha,rfl⟩),?_⟩ hd hcd)) I.quiet rfl
  rw [m.trees]
  refine ċ rfl (Ę (Ξ ((he false).gos .refl I e0 nb fun z1 d u y x1 I1 r1 e1=>ϊ ?_)))
  by_cases c1:z1.t.ow.contains i=true
  ·rw [ZZ c1] at e1
   have m1:i∈z1.t.ow:=by simpa using c1
   have el1:z1.t.env[i]? = some (some (.lst l)):=by rw [y.en];exact el
   rw [el1] at e1
   cases d with
   | lst x=>
     dsimp only at e1
     obtain ⟨a',vs,n,es',ha,r⟩:=eZ I1 m1 el1
     rw [y.sg,es] at es';cases es'
     obtain ⟨b,o,us,rfl,g,⟨⟨n2,rfl⟩,hz2⟩,r2⟩:=r1.rd
     by_cases c2:l.length+x.length≤100000
     ·rw [ZZ c2] at e1
      have l1:=r.len
      have l2:=r2.len
      have hz:vs.toArray.size+us.toArray.size≤Ϣ:=by simp only [Μ];exact big (by omega)
      refine BY Bh ⟨_,ha,rfl⟩ PySem.F.entry_list_extend (PySem.F.args_list_extend_2 _ _) (AutoSeq1.list_extend_list_list_0 a vs.toArray n b us.toArray n2 ?_ (by omega) (by omega)) ⟨ha,I1.gh _ _ g,?_⟩
      ·rw [show Ei (vs.toArray.size+us.toArray.size)=false from ZV (ź.mpr hz),Br];exact fun h=>nomatch h
      obtain ⟨⟨o1,u1,u3⟩,u2⟩:=fe (f:=(· ++ us.toArray)) (ws:=vs ++ us) ha (by simp) (by rw [ω];simpa using hz)
      obtain ⟨I2,g2⟩:=I1.ownw (s':={ z1.s with heap:=z1.s.heap.update a (ć (· ++ us.toArray)) }) (d':=.lst (l ++ x)) m1 (by rw [y.sg];exact es) rfl u2 ⟨o1,vs ++ us,rfl,u1,u3,r.app r2⟩ rfl rfl
      exact nxt (x1.trans g2) I2 e1
     ·rw [ZY c2] at e1;exact ZX e1 nb
   | _=>exact ZX e1 nb
  ·rw [ZY c1] at e1;exact ZX e1 nb
 ·rw [ZY c0] at e0;exact ZX e0 nb
end
structure Itr (W:Wd) (tg:Ν) (it:Ε) (fp wr:List Ε) (ds:List D) (ρ:Rs) (G:Hp) (St:Nat→ϯ→Prop):Prop where
 sub:∀ b∈wr,b∈fp
 keep:∀ i h h',St i h→(∀ b∈fp,∀ o,h.get? b=some o→h'.get? b=some o)→St i h'
 ex:∀ i h,St i h→∀ b∈wr,∃ o,h.get? b=some o
 item:∀ {A:ϑ} {i:Nat} {d:D} {s:ξ},A.handled=none→ds[i]? = some d→St i s.heap→χ (model W.P W.w) A (Bv (.ref it)) (fun r s1=>∃ u,r=some u∧χ (model W.P W.w) A (ŧ tg (.ref it) u) (fun _ s2=>St (i+1) s2.heap∧(s2.os=s.os∧s2.gens=s.gens)∧(∀ b o,b ∉ wr→s.heap.get? b=some o→s2.heap.get? b=some o) ∧
  ∀ ρ' G',ρ <+: ρ'→Sub G G'→(∀ a o,s.heap.get? a=none→s2.heap.get? a=some o→G' a=some o)→RD W ρ' G' d u) NoE s1) NoE s
 done:∀ {A:ϑ} {s:ξ},A.handled=none→St ds.length s.heap→χ (model W.P W.w) A (Bv (.ref it)) (fun r s2=>r=none∧(s2.os=s.os∧s2.gens=s.gens)∧∀ b o,b ∉ wr→s.heap.get? b=some o→s2.heap.get? b=some o) NoE s
 self:∀ {A:ϑ} {i:Nat} {s:ξ} {Q:ζ→ξ→Prop} {E:ζ→ξ→Prop},A.handled=none→St i s.heap→Q (.ref it) s→χ (model W.P W.w) A (Š (.ref it)) Q E s
def Fp (X:Cx) (z0 z:Z) (fp wr:List Ε):Prop:=∀ b∈fp,(Nob X z0 z b∧∃ o,z.h b=some o)∨(b ∉ wr∧∃ o,z.G b=some o)
section
variable {X:Cx} {z z' z0 z1:Z}
theorem Nob.go (x:Go X z z') (n:Nob X z0 z b) (e:z.h b=some o):Nob X z0 z' b∧z'.h b=some o:=by
 obtain ⟨n0,⟨f1,f2,f3,f4⟩,f5⟩:=n
 have no:∀ {P:Prop},z.h b=none→P:=fun w=>by rw [w] at e;cases e
 refine ⟨⟨n0,⟨?_,fun m=>(x.st.rn b m).elim f2 no,f3,f4⟩,fun w=>(x.ow b w).elim f5 no⟩,x.st.sm b o e f2 (fun w=>w.elim f5 f4) f3⟩
 cases q:z'.G b with
 | none=>rfl
 | some o'=>
   rcases x.st.gn b o' q with w | w | w
   ·rw [f1] at w;cases w
   ·exact no w
   ·exact (w.elim f5 f4).elim
theorem Fp.go (x:Go X z z') (f:Fp X z0 z fp wr):Fp X z0 z' fp wr:=fun b hb=>(f b hb).imp (fun ⟨n,o,e⟩=>let ⟨a,b⟩:=n.go x e;⟨a,o,b⟩) fun ⟨n,o,e⟩=>⟨n,o,x.st.gg b o e⟩
theorem Fp.keep (x:Go X z z') (I:Rep X z) (I':Rep X z') (f:Fp X z0 z fp wr):∀ b∈fp,∀ o,z.h b=some o→z'.h b=some o:=fun b hb o e=>by
 rcases f b hb with ⟨n,o',e'⟩ | ⟨_,o',e'⟩
 ·exact (n.go x e).2
 ·rw [I.gh b o' e'] at e;cases e;exact I'.gh b _ (x.st.gg b _ e')
theorem Rep.turn {s':ξ} {wr:List Ε} {w:Ε→Prop} (x:Stp X.fr w z0 z) (I:Rep X z) (hw:∀ b∈wr,Nob X z0 z b∧∃ o,z.h b=some o) (k:∀ b o,b ∉ wr→z.h b=some o→s'.heap.get? b=some o) (os:s'.os=z.s.os∧s'.gens=z.s.gens):Rep X (z.up s')∧Stp X.fr w z0 (z.up s')∧Sub z.G (z.up s').G∧∀ b∈wr,Nob X z0 (z.up s') b:=by
 have gd:∀ a,(z.up s').G a=match z.h a with | none=>s'.heap.get? a | some _=>z.G a:=fun _=>rfl
 have nG:∀ {b o},z.G b=some o→b ∉ wr:=fun e m=>by rw [(hw _ m).1.2.1.1] at e;cases e
 have nM:∀ {b},Mu z.ρ b→b ∉ wr:=fun h m=>(hw _ m).1.2.1.2.1 h
 have nf:∀ {b},b∈frs X.fr→b ∉ wr:=fun h m=>(hw _ m).1.2.1.2.2.1 h
 have nL:∀ {b},Lc X b→b ∉ wr:=fun h m=>(hw _ m).1.2.1.2.2.2 h
 have nO:∀ {b},Own z b→b ∉ wr:=fun h m=>(hw _ m).1.2.2 h
 have gg:Sub z.G (z.up s').G:=fun a o e=>by rw [gd,I.gh a o e];exact e
 have nn:∀ {a:Ε},(∃ o,z.h a=some o)→z.G a=none→(z.up s').G a=none:=fun {a} ⟨o,e⟩ n=>by rw [gd,e];exact n
 have gh:Sub (z.up s').G s'.heap.get?:=fun a o e=>by
  rw [gd] at e
  cases q:z.h a with
  | none=>rw [q] at e;exact e
  | some u=>rw [q] at e;exact k a o (nG e) (I.gh a o e)
 have ck:∀ x c v,X.env.cells.lookup x=some c→z.s.heap.IsCell c v→s'.heap.IsCell c v:=fun x c v e ⟨o,q,d⟩=>⟨o,k c o (nL (.inr ⟨x,e⟩)) q,d⟩
 have fu:s'.heap.FunFrames X.base X.fr:=by
  have:∀ {l:List AK},(∀ b∈frs l,b ∉ wr)→z.s.heap.FunFrames X.base l→s'.heap.FunFrames X.base l:=fun {l}=>by
   induction l with
   | nil=>exact fun _ _=>trivial
   | cons v r ih=>
     intro hs ⟨a,⟨L,o,e1,e2,e3,e4⟩,q⟩
     have hm:L∈frs (v :: r):=by unfold frs;rw [Ϧ,e1];exact μ
     exact ⟨a,⟨L,o,e1,e2,k L o (hs L hm) e3,e4⟩,ih (fun b hb=>hs b (by unfold frs;rw [Ϧ,e1];exact ν _ hb)) q⟩
  exact this (fun b h=>nf h) I.fu
 have gn:∀ a o,(z.up s').G a=some o→z.G a=some o∨z.h a=none:=fun a o e=>by
  rw [gd] at e
  cases q:z.h a with
  | none=>exact .inr rfl
  | some u=>rw [q] at e;exact .inl e
 refine ⟨⟨⟨I.md,I.fm,I.hd,fun b o e=>gg _ _ (I.bs b o e),gh,I.rl,I.rn,fun a m=>nn (I.th m) (I.rg a m),fun n o p h1 h2=>(I.ob n o p h1 h2).mono (κ _) gg fun a ha o e=>k a o (nM ⟨p,Ζ h2,ha⟩) e,fu,fun b m=>⟨nn (I.fth m) (I.ff b m).1,(I.ff b m).2⟩,by show Ō s'.gens;rw [os.2];exact I.br,os.1.trans I.os⟩,I.ok,?_,fun x c e=>let ⟨v,q⟩:=I.ce x c e;⟨v,ck x c v e q⟩,fun a l=>⟨nn (I.lth l) (I.fl a l).1,(I.fl a l).2⟩,I.el,I.sl,fun i d n e=>let ⟨u,q,r⟩:=I.en i d n e;⟨u,q,r.mono (κ _) gg⟩,fun i m=>?_,I.od⟩,⟨x.pr,x.gg.trans gg,fun a o e=>?_,x.rn,fun a o e=>?_,fun a o e n w f=>?_,fun a o e n w f=>?_⟩,gg,fun b hb=>let ⟨⟨n0,f,no⟩,ex⟩:=hw b hb;⟨n0,⟨nn ex f.1,f.2⟩,no⟩⟩
 ·obtain ⟨m,⟨oL,es,ep,q,r⟩,hl⟩:=I.lo
  exact ⟨m,⟨oL,es,ep,k _ _ (nL (.inl rfl)) q,r⟩,fun j x w e1 e2 e3=>cP (fun c v e q=>ck x c v e q) (hl j x w e1 e2 e3)⟩
 ·obtain ⟨d,a,o,h1,h2,h3,r,f⟩:=I.eo i m
  exact ⟨d,a,o,h1,h2,h3,r.mono (κ _) gg fun c hc o e=>k c o (by rcases hc with rfl | rfl <;> exact nO ⟨i,m,h2⟩) e,nn r.th.1 f.1,f.2⟩
 ·rcases gn a o e with w | w
  ·exact x.gn a o w
  ·exact .inr (.inl (x.no w))
 ·obtain ⟨o1,e1⟩:=x.th a o e
  by_cases m:a∈wr
  ·rw [(hw a m).1.1] at e;cases e
  ·exact ⟨o1,k a o1 m e1⟩
 ·exact k a o (fun m=>by rw [(hw a m).1.1] at e;cases e) (x.sm a o e n w f)
 ·obtain ⟨sl,q⟩:=x.sl a o e n w f
  exact ⟨sl,k a _ (fun m=>by rw [(hw a m).1.1] at e;cases e) q⟩
theorem Fp.up {s':ξ} {wr wr':List Ε} (I:Rep X z) (f:Fp X z0 z fp wr) (g:Sub z.G (z.up s').G) (k:∀ b o,b ∉ wr'→z.h b=some o→s'.heap.get? b=some o) (ex:∀ b∈wr',b∈fp→∃ o,s'.heap.get? b=some o):Fp X z0 (z.up s') fp wr:=fun b hb=>(f b hb).imp (fun ⟨⟨n0,ff,no⟩,o',e'⟩=>⟨⟨n0,⟨by show (match z.h b with | none=>s'.heap.get? b | some _=>z.G b)=none;rw [e'];exact ff.1,ff.2⟩,no⟩,by
 by_cases m:b∈wr'
 ·exact ex b m hb
 ·exact ⟨o',k b o' m e'⟩⟩) fun ⟨m,o',e'⟩=>⟨m,o',g b o' e'⟩
theorem Fp.wr {wr:List Ε} {St:Nat→ϯ→Prop} (T:Itr W tg it fp wr ds ρ G St) (st:St i z.s.heap) (f:Fp X z0 z fp wr):∀ b∈wr,Nob X z0 z b∧∃ o,z.h b=some o:=fun b hb=>(f b (T.sub b hb)).elim id fun ⟨n,_⟩=>ZX hb n
def LI (X:Cx) (tg e:Ν) (c:E):Prop:=∀ z,Rep X z→X.ev false c z.t≠.bad→χ X.M X.A (eval e X.env) (fun v s1=>χ X.M X.A (Š v) (fun itv s2=>∃ z1 ds it fp wr St,z1.s=s2∧X.ev false c z.t = .ok (.lst ds) z1.t∧Ee X z z1∧Rep X z1∧itv = .ref it∧Itr X.W tg it fp wr ds z1.ρ z1.G St∧St 0 s2.heap∧Fp X z z1 fp wr) NoE s1) (Px X z (X.ev false c z.t)) z.s
def FI (X:Cx) (z:Z) (tg:Ν) (o:Out D) (itv:ζ) (s2:ξ):Prop:=∃ z1 ds it fp wr St,z1.s=s2∧o = .ok (.lst ds) z1.t∧Ee X z z1∧Rep X z1∧itv = .ref it∧Itr X.W tg it fp wr ds z1.ρ z1.G St∧St 0 s2.heap∧Fp X z z1 fp wr
theorem lr {ds:List α} {i:Nat} (h:ds[i]? = some d):ds.drop i=d :: ds.drop (i+1):=by
 obtain ⟨hi,rfl⟩:=ο.mp h
 exact ī hi
inductive FoJ (X:Cx) (z z1:Z) (ds:List D) (St:Nat→ϯ→Prop) (fp wr:List Nat) (o:ak) (f:D→Sta→ak) (n:Nat) (s:ξ):Prop
 | mk (i:Nat) (z':Z) (_:z'.s=s) (_:n=ds.length - i) (_:i≤ds.length) (_:Go X z z') (_:Rep X z') (_:St i s.heap) (_:Fp X z z' fp wr) (_:z1.ρ <+: z'.ρ) (_:Sub z1.G z'.G) (_:o=aO f (ds.drop i) z'.t)
theorem wq {t:List Nat} {one:Bool} (hc:X.calm=true) (hp:∀ z o,DZ X.M X.A X.env (PxS X z o)) (hi:LI X tg iter it) (hg:LG X tg t one) (hb:LSs X body b) (hs:∀ x,Bf iter X.env x=pure x):LS X (.For tg iter body [] pos) (.for_ t one it b):=fun z I nb=>by
 let f:D→Sta→ak:=fun d s=>match aH t one d s.env with | some env=>X.ex b ⟨env,s.ow.filter fun i=>!t.contains i,s.st⟩ | none=>.bad
 have e0:X.ex (.for_ t one it b) z.t=(X.ev false it z.t).go fun x s=>(match x with | .lst ds=>aO f ds s | _=>.bad):=rfl
 generalize X.ex (.for_ t one it b) z.t=o at e0 nb
 have nb0:X.ev false it z.t≠.bad:=fun q=>nb (by rw [e0,q];rfl)
 refine wpAny_For (Υ (hi z I nb0) (fun v s1 h1=>Υ h1 (fun itv s2 h2=>?_) fun _ _ w=>w.elim) fun u s' h=>?_) hs
 rotate_left
 ·rw [e0];exact .of .refl h
 obtain ⟨z1,ds,a,fp,wr,St,q1,q2,x1,I1,q3,T,st1,f1⟩:=h2
 subst q1 q3
 rw [q2] at e0
 have e0:o=aO f ds z1.t:=e0
 refine codeAny_forLoop_any (FoJ X z z1 ds St fp wr o f) ?_ (ds.length - 0) ⟨0,z1,rfl,rfl,Î _,x1.go,I1,st1,f1,κ _,.refl _,by rw [ĥ];exact e0⟩
 rintro n s3 ⟨i,z3,e3,en,hi,x3,I3,st3,f3,p3,g3,q⟩
 subst e3
 cases qd:ds[i]? with
 | none=>
   have hl:i=ds.length:=by rw [BA] at qd;omega
   subst hl
   refine ø (hp z o) (Υ (T.done (I3.hd hc) st3) (fun r s4 ⟨er,os,k⟩=>?_) fun _ _ w=>w.elim)
   subst er
   obtain ⟨I4,x4,_⟩:=I3.turn x3.st (f3.wr T st3) k os
   rw [AR] at q
   exact Č (nxt (z1:=z3.up s4) ⟨x4,x3.ow⟩ I4 q)
 | some d=>
   have hil:i<ds.length:=(ο.mp qd).1
   rw [lr qd] at q
   have q:o=(f d z3.t).go fun s=>aO f (ds.drop (i+1)) s:=q
   refine ø (hp z o) (Υ (T.item (I3.hd hc) qd st3) (fun r s4 ⟨u,er,h4⟩=>?_) fun _ _ w=>w.elim)
   subst er
   refine ø (hp z o) (Υ h4 (fun _ s5 ⟨st5,os5,k5,rd5⟩=>?_) fun _ _ w=>w.elim)
   have hw:=f3.wr T st3
   obtain ⟨I5,x5',g5,n5⟩:=I3.turn x3.st hw k5 os5
   have x5:Go X z (z3.up s5):=⟨x5',x3.ow⟩
   have rd:=rd5 z3.ρ (z3.up s5).G p3 (g3.trans g5) fun a o e1 e2=>by rw [ja e1];exact e2
   have f5:Fp X z (z3.up s5) fp wr:=f3.up I3 g5 k5 fun b m _=>T.ex _ _ st5 b m
   cases qb:aH t one d z3.t.env with
   | none=>exact ZX (show o = .bad by rw [q];show ak.go (match aH t one d z3.t.env with | some env=>X.ex b ⟨env,z3.t.ow.filter fun i=>!t.contains i,z3.t.st⟩ | none=>.bad) _=_;rw [qb];rfl) nb
   | some env=>
     have q:o=(X.ex b ⟨env,z3.t.ow.filter fun i=>!t.contains i,z3.t.st⟩).go fun s=>aO f (ds.drop (i+1)) s:=by rw [q];show ak.go (match aH t one d z3.t.env with | some env=>X.ex b ⟨env,z3.t.ow.filter fun i=>!t.contains i,z3.t.st⟩ | none=>.bad) _=_;rw [qb]
     refine ø (hp z o) (hg z (z3.up s5) d u env _ _ x5 I5 rd qb fun z6 x6 I6 eρ y6 et eσ _=>?_)
     rw [← show z6.t=(⟨env,z3.t.ow.filter fun i=>!t.contains i,z3.t.st⟩:Sta) from et] at q
     have nb6:X.ex b z6.t≠.bad:=fun w=>nb (by rw [q,w];rfl)
     refine ø (hp z o) (Υ (hb z6 I6 nb6) (fun fl s7 h7=>?_) fun u s' h=>?_)
     ·cases qx:X.ex b z6.t with
      | nx t7=>
        rw [qx] at h7 q
        obtain ⟨rfl,z7,e7,et7,x7,I7⟩:=h7
        subst e7 et7
        exact ⟨ds.length - (i+1),by omega,i+1,z7,rfl,rfl,hil,x6.trans x7,I7,T.keep _ _ _ st5 ((f5.keep (y6.trans x7) I5 I7)),f5.go (y6.trans x7),(p3.trans (eρ ▸ κ _:z3.ρ <+: z6.ρ)).trans x7.st.pr,(g3.trans g5).trans (y6.st.gg.trans x7.st.gg),q⟩
      | rt d7 t7=>
        rw [qx] at h7 q
        obtain ⟨u7,z7,rfl,r7⟩:=h7
        have:=Ps.less x6 (show Ps X z6 (.rt d7 t7) (.ret u7) s7 from ⟨u7,z7,rfl,r7⟩)
        show Ps X z o (.ret u7) s7
        rw [q];exact this
      | exc c l t7=>rw [qx] at h7;exact h7.elim
      | bad=>exact ZX qx nb6
     ·obtain ⟨z7,c,l,e7,qx,r7⟩:=h.less x6
      exact ⟨z7,c,l,e7,by rw [q,qx];rfl,r7⟩
end
section
variable {X:Cx} {z:Z}
theorem ql (hp:∀ z o,DZ X.M X.A X.env (PxS X z o)) (ht:LT X e c) (hb:LSs X body b):LS X (.While e body [] pos) (.whl c b):=fun z I nb=>by
 have e0:X.ex (.whl c b) z.t=bx (X.ev true c) (X.ex b) 100000 z.t:=rfl
 generalize X.ex (.whl c b) z.t=o at e0 nb
 refine wpAny_While (codeAny_whileLoop (fun n s'=>∃ z',z'.s=s'∧Go X z z'∧Rep X z'∧o=bx (X.ev true c) (X.ex b) n z'.t) ?_ 100000 ⟨z,rfl,.refl,I,e0⟩)
 rintro n s3 ⟨z3,e3,x3,I3,q⟩
 subst e3
 cases n with
 | zero=>exact ZX q nb
 | succ n=>
   have q:o=((X.ev true c z3.t).bind toB).go fun x s=>if x then (X.ex b s).go fun s=>bx (X.ev true c) (X.ex b) n s else .nx s:=by
    rw [q]
    show (X.ev true c z3.t).go _=_
    cases X.ev true c z3.t with
    | ok d s=>cases d <;> first | rfl | (rename_i b;cases b <;> rfl)
    | exc c l s=>rfl
    | bad=>rfl
   refine ø (hp z o) (Jg.gos ht x3 I3 q nb fun z4 d u y4 x4 I4 r4 e4=>?_)
   cases (show u=d from r4)
   cases d with
   | true=>
     have e4:o=(X.ex b z4.t).go fun s=>bx (X.ev true c) (X.ex b) n s:=e4
     have nb4:X.ex b z4.t≠.bad:=fun w=>nb (by rw [e4,w];rfl)
     refine ø (hp z o) (Υ (hb z4 I4 nb4) (fun fl s7 h7=>?_) fun u s' h=>?_)
     ·cases qx:X.ex b z4.t with
      | nx t7=>
        rw [qx] at h7 e4
        obtain ⟨rfl,z7,e7,et7,x7,I7⟩:=h7
        subst e7 et7
        exact ⟨n,Ł n,z7,rfl,x4.trans x7,I7,e4⟩
      | rt d7 t7=>
        rw [qx] at h7 e4
        obtain ⟨u7,z7,rfl,r7⟩:=h7
        have:=Ps.less x4 (show Ps X z4 (.rt d7 t7) (.ret u7) s7 from ⟨u7,z7,rfl,r7⟩)
        show Ps X z o (.ret u7) s7
        rw [e4];exact this
      | exc c l t7=>rw [qx] at h7;exact h7.elim
      | bad=>exact ZX qx nb4
     ·obtain ⟨z7,c,l,e7,qx,r7⟩:=h.less x4
      exact ⟨z7,c,l,e7,by rw [e4,qx];rfl,r7⟩
   | false=>exact Č (nxt x4 I4 e4)
end
theorem nin (n j k a:Nat) (h:j≠k) (ha:a<n):n+j ∉ [n+k,a]:=by simp;omega
theorem fJ {h:ϯ} (n:h.objs.size≤a):h.get? a=none:=ϣ n
section
variable {W:Wd} {tg:Ν} {it:Ε} {fp wr:List Ε} {ds:List D} {ρ:Rs} {G:Hp} {St:Nat→ϯ→Prop}
theorem Itr.walks {P:Nat→ζ→Prop} {A0:ϑ} (h0:A0.handled=none) {n:Nat} (hn:ds.length=n) (w:∀ A,A.handled=none→Walks W.P W.w A it fp wr n P St) (ex:∀ i h,St i h→∀ b∈wr,∃ o,h.get? b=some o) (go:∀ {A:ϑ} {s:ξ} {u:ζ} {Q:Unit→ξ→Prop} {E:ζ→ξ→Prop} {i:Nat},St i s.heap→Q () s→χ (model W.P W.w) A (ŧ tg (.ref it) u) Q E s)
 (hP:∀ i v d,P i v→ds[i]? = some d→∀ ρ' G',ρ <+: ρ'→Sub G G'→RD W ρ' G' d v):Itr W tg it fp wr ds ρ G St where
 sub:=(w A0 h0).sub
 keep:=(w A0 h0).frame
 ex:=ex
 item:=fun {A i d s} h e st=>(w A h).item i s _ _ (hn ▸ (ο.mp e).1) st fun v h' tk p st' k=>⟨v,rfl,go (s:={ s with heap:=h',toks:=tk }) st' ⟨st',⟨rfl,rfl⟩,fun b o n q=>k b o n q,fun ρ' G' h1 h2 _=>hP i v d p e ρ' G' h1 h2⟩⟩
 done:=fun {A s} h st=>(w A h).done s _ _ (hn ▸ st) fun h' tk k=>⟨rfl,⟨rfl,rfl⟩,k⟩
 self:=fun {A i s Q E} h st q=>(w A h).self i s Q E st q
abbrev Exa (h:ϯ) (T:Ε):Prop:=∀ o,h.get? T=some o→o.dict=none
theorem Itr.walksT {Pt:Nat→Array ζ→Prop} {Mid:Nat→Ε→ϯ→Prop} {A0:ϑ} {elts:List Ν} {k:Nat} {pos:Ϭ} (h0:A0.handled=none) {n:Nat} (hn:ds.length=n) (w:∀ A,A.handled=none→BZ W.P W.w A it fp wr n Pt St Mid) (ex:∀ i h,St i h→∀ b∈wr,∃ o,h.get? b=some o) (hm:∀ i T h,Mid i T h→Exa h T)
 (hP:∀ i vals d,Pt i vals→ds[i]? = some d→vals.size≤Ϣ∧∃ l,d = .tup l∧∀ ρ' G',ρ <+: ρ'→Sub G G'→RDs W ρ' G' l vals.toList):Itr W (.Tuple elts k pos) it fp wr ds ρ G St where
 sub:=(w A0 h0).sub
 keep:=(w A0 h0).frame
 ex:=ex
 item:=fun {A i d s} h e st=>(w A h).item i s _ _ (hn ▸ (ο.mp e).1) st fun T vals h' tk p hT tup mid kk=>⟨.ref T,rfl,(w A h).go elts k pos i T { s with heap:=h',toks:=tk } _ _ mid fun h2 st2 k2=>⟨st2,⟨rfl,rfl⟩,fun b o n q=>k2 b o n (kk b o n q),fun ρ' G' h1 h3 h4=>by
  obtain ⟨hz,l,rfl,r⟩:=hP i vals d p e
  obtain ⟨o,e1,e2,n,e3⟩:=tup
  exact ⟨T,o,vals.toList,rfl,h4 T o (fJ hT) (k2 T o ((w A h).apart i T h' mid) e1),⟨e2,⟨n,by simpa using e3⟩,(by simpa using hz),hm i T h' mid o e1⟩,r ρ' G' h1 h3⟩⟩⟩
 done:=fun {A s} h st=>(w A h).done s _ _ (hn ▸ st) fun h' tk k=>⟨rfl,⟨rfl,rfl⟩,k⟩
 self:=fun {A i s Q E} h st q=>(w A h).self i s Q E st q
theorem gm {prog:ϱ} {w:Ð} {A:ϑ} {it:Ε} {fp:List Ε} {n:Nat} {P:Nat→ζ→Prop} {St:Nat→ϯ→Prop} (D:CA prog w A.in1 it fp n P St) (e:Ε) (hei:e≠it) (hef:e ∉ fp) (hif:it∈fp):BZ prog w A e (e :: fp) [e,it] n (fun i vals=>∃ t x,P i x∧vals = #[.int i t,x]) (fun i h=>(∃ old,IsEnum h e it i old)∧St i h) (fun i T h=>((∃ x,IsEnumOut h e it ((i:Int)+1) x T)∧St (i+1) h∧T≠e∧T≠it)∧Exa h T):=
 have V:=WalksT.enumerateD D e hei hef hif
 { sub:=V.sub,frame:=V.frame,done:=V.done,self:=V.self,go:=fun elts k pos i T s Q E m q=>V.go elts k pos i T s Q E m.1 q,apart:=fun i T h m=>V.apart i T h m.1,
   item:=fun i s Q E hi ⟨⟨old,he⟩,hs⟩ hQ=>wpAny_pyNext_enum_itemD D he hs hi hei hef fun x h' tk hP ho hs' hT hsz hk=>hQ s.heap.objs.size #[.int i tk,x] h' (tk+1) ⟨_,_,hP,rfl⟩ (Ο _) ⟨_,hT,rfl,_,rfl⟩ ⟨⟨⟨_,ho⟩,hs',î (Χ he),î (let ⟨_,y⟩:=D.live _ _ hs;Χ y)⟩,fun o q=>(by rw [hT] at q;cases q;rfl)⟩ fun b o hb y=>hk b o (fun z=>hb (z ▸ μ)) (fun z=>hb (z ▸ ν _ μ)) y }
end
section
variable {X:Cx} {z z' z0 z1:Z} {tg:Ν}
theorem eK {s2:ξ} {o:Out D} {ds:List D} {it:Ε} {fp wr:List Ε} {St:Nat→ϯ→Prop} (x:Ee X z z1) (I:Rep X z1) (g:Gr z1.s s2) (T:Itr X.W tg it fp wr ds z1.ρ z1.G St) (st:St 0 s2.heap) (hf:∀ b∈fp,(z1.h b=none∧∃ o,s2.heap.get? b=some o)∨(b ∉ wr∧∃ o,z1.G b=some o)) (e:o = .ok (.lst ds) z1.t):FI X z tg o (.ref it) s2:=
 ⟨{ z1 with s:=s2 },ds,it,fp,wr,St,rfl,e,x.trans (aw I.gh g).ee,I.grow (aw I.gh g),rfl,T,st,fun b hb=>(hf b hb).imp_left fun ⟨n,ex⟩=>⟨⟨x.st.no n,I.fre n⟩,ex⟩⟩
theorem pF (I:Rep X z) (e:z.G a=some o):a≠z.s.heap.objs.size:=ϧ (Χ (I.gh a o e))
theorem z9 (hc:X.calm=true) (ha:LE X e a):LI X tg e (.itv a):=fun z I nb=>(ha false).go (K:=fun v s1=>χ X.M X.A (Š v) (FI X z tg (X.ev false (.itv a) z.t)) NoE s1) .refl I rfl nb fun z1 d u y x1 I1 r1 e1=>by
 have r:=r1.rd
 cases d with
 | lst l=>
   obtain ⟨p,o,vs,rfl,g,⟨⟨n,rfl⟩,hz⟩,r⟩:=r
   have ne:=pF I1 g
   refine Ĕ (show z1.s.heap.IsList p vs.toArray from ⟨_,I1.gh _ _ g,rfl,n,rfl⟩) (eK (wr:=[z1.s.heap.objs.size]) x1 I1 (.push (t:=z1.s.toks)) (Itr.walks (I1.hd hc) (by simp [r.len]) (fun A hA=>Cf hA _ p ne vs.toArray) (fun i h st b hb=>by rw [η.mp hb];obtain ⟨⟨o,e,_⟩,_⟩:=st;exact ⟨o,e⟩) (fun st q=>let ⟨⟨o,e,c,d⟩,_⟩:=st;jv e c d (by decide) q) fun i v d p1 p2 ρ' G' h1 h2=>?_) ⟨⟨_,ψ _ rfl,rfl,rfl⟩,⟨_,υ _ (I1.gh _ _ g),rfl,n,rfl⟩⟩ (fun b hb=>?_) e1)
   ·obtain ⟨v',w1,w2⟩:=(r.mono h1 h2).get p2
    rw [show vs[i]? = some v by simpa using p1] at w1;cases w1;exact w2
   ·rcases ς.mp hb with w | w
    ·rw [w];exact .inl ⟨aD z1,_,ψ _ rfl⟩
    ·rw [η.mp w];exact .inr ⟨fun m=>ne (η.mp m),_,g⟩
 | tup l=>
   obtain ⟨p,o,vs,rfl,g,⟨tc,⟨n,td⟩,hz⟩,r⟩:=r
   have ne:=pF I1 g
   refine ď (show z1.s.heap.IsTuple p vs.toArray from ⟨_,I1.gh _ _ g,tc,n,td⟩) (eK (wr:=[z1.s.heap.objs.size]) x1 I1 (.push (t:=z1.s.toks)) (Itr.walks (I1.hd hc) (by simp [r.len]) (fun A hA=>Walks.tuple hA _ p ne vs.toArray) (fun i h st b hb=>by rw [η.mp hb];obtain ⟨⟨o,e,_⟩,_⟩:=st;exact ⟨o,e⟩) (fun st q=>let ⟨⟨o,e,c,d⟩,_⟩:=st;jv e c d (by decide) q) fun i v d p1 p2 ρ' G' h1 h2=>?_) ⟨⟨_,ψ _ rfl,rfl,rfl⟩,⟨_,υ _ (I1.gh _ _ g),tc,n,td⟩⟩ (fun b hb=>?_) e1)
   ·obtain ⟨v',w1,w2⟩:=(r.mono h1 h2).get p2
    rw [show vs[i]? = some v by simpa using p1] at w1;cases w1;exact w2
   ·rcases ς.mp hb with w | w
    ·rw [w];exact .inl ⟨aD z1,_,ψ _ rfl⟩
    ·rw [η.mp w];exact .inr ⟨fun m=>ne (η.mp m),_,g⟩
 | dic ks l=>
   obtain ⟨p,o,vs,rfl,hs,g,⟨es,ep,c1,c2,c3,c4,c5,hz⟩,hl,r⟩:=r
   have ne:=pF I1 g
   have dm:Heap.DictAt (bt X.W.P X.W.w) z1.s.heap p (ks.zip vs) ep:=⟨o,es,I1.gh _ _ g,c1,c2,c3,c4,c5⟩
   have lk:ks.length=vs.length:=hl.trans r.len
   have lz:(ks.zip vs).length=(ks.map vJ).length:=by rw [À,Η];omega
   refine wpAny_pyIter_dict hs dm (eK (ds:=ks.map vJ) (wr:=[z1.s.heap.objs.size]) x1 I1 (.push (t:=z1.s.toks)) (Itr.walks (I1.hd hc) lz.symm (fun A hA=>Walks.dictKeys (knd:=bt X.W.P X.W.w) hA _ p ne (ks.zip vs) ep) (fun i h st b hb=>by rw [η.mp hb];obtain ⟨⟨o,e,_⟩,_⟩:=st;exact ⟨o,e⟩) (fun st q=>let ⟨⟨o,e,c,d⟩,_⟩:=st;jv e c d (by decide) q) fun i v d p1 p2 ρ' G' h1 h2=>?_) ⟨⟨_,ψ _ rfl,rfl,rfl⟩,⟨o,es,υ _ (I1.gh _ _ g),c1,c2,c3,c4,c5⟩⟩ (fun b hb=>?_) e1)
   ·obtain ⟨k,u,w1,w2⟩:=p1
    have kk:ks[i]? = some k:=by
     have:=Ù.mp w1;exact this.1
    rw [Ω,kk] at p2
    cases p2
    rcases aA w2 with ⟨j,t,rfl,rfl⟩ | ⟨x,t,rfl,rfl⟩
    ·exact ⟨t,rfl⟩
    ·exact ⟨t,rfl⟩
   ·rcases ς.mp hb with w | w
    ·rw [w];exact .inl ⟨aD z1,_,ψ _ rfl⟩
    ·rw [η.mp w];exact .inr ⟨fun m=>ne (η.mp m),_,g⟩
 | str y=>
   obtain ⟨t,rfl⟩:=r
   have e1:X.ev false (.itv a) z.t=Out.of z1.t ((if y.cps.all (· < 128)=true then some (y.cps.toList.map fun c=>D.str ⟨#[c]⟩) else none).map D.lst):=e1
   by_cases hy:y.cps.all (· < 128)=true
   ·rw [ZZ hy] at e1
    refine wpAny_pyIter_ascii hy (eK (ds:=y.cps.toList.map fun c=>.str ⟨#[c]⟩) (wr:=[z1.s.heap.objs.size]) x1 I1 (.push (t:=z1.s.toks)) (Itr.walks (I1.hd hc) (by simp) (fun A hA=>Walks.strAscii hA _ y t) (fun i h st b hb=>by rw [η.mp hb];obtain ⟨o,e,_⟩:=st;exact ⟨o,e⟩) (fun st q=>let ⟨o,e,c,d⟩:=st;jv e c d (by decide) q) fun i v d p1 p2 ρ' G' h1 h2=>?_) ⟨_,ψ _ rfl,rfl,rfl⟩ (fun b hb=>?_) e1)
    ·obtain ⟨c,u,w1,rfl⟩:=p1
     rw [Ω,Array.getElem?_toList,w1] at p2
     cases p2;exact ⟨u,rfl⟩
    ·rw [η.mp hb];exact .inl ⟨aD z1,_,ψ _ rfl⟩
   ·rw [ZY hy] at e1;exact ZX e1 nb
 | _=>exact ZX e1 nb
theorem tC {a:Int}:(jT a n).length=n:=by simp [jT]
theorem qK {lo hi:Int} {t u v:Tok} {tk:Nat} {o:Out D} (hc:X.calm=true) (x:Ee X z z1) (I:Rep X z1) (h1:-(2 ^ 62)≤lo) (h2:lo<2 ^ 62) (h3:-(2 ^ 62)≤hi) (h4:hi<2 ^ 62) (e:o = .ok (.lst (jT lo (hi - lo).toNat)) z1.t):χ X.M X.A (Š (.ref z1.s.heap.objs.size)) (FI X z tg o) NoE { z1.s with heap:=z1.s.heap.push { cls:=.type "range",data:=.fields #[.int lo t,.int hi u,.int 1 v] },toks:=tk }:=by
 refine wpAny_pyIter_range (IsRange.new ..) (small_one h1 h2 h3 h4) ?_
 have e2:(((hi - lo).toNat:Nat):Int) - ((0:Nat):Int)=E7 lo hi 1:=by rw [rangeSize_one];split <;> omega
 have g0:Gr z1.s { z1.s with heap:=z1.s.heap.push { cls:=.type "range",data:=.fields #[.int lo t,.int hi u,.int 1 v] },toks:=tk }:=.push
 have I2:=I.grow (aw I.gh g0)
 refine eK (z1:={ z1 with s:={ z1.s with heap:=z1.s.heap.push { cls:=.type "range",data:=.fields #[.int lo t,.int hi u,.int 1 v] },toks:=tk } }) (ds:=jT lo (hi - lo).toNat) (x.trans (aw I.gh g0).ee) I2 (.push (t:=tk)) (Itr.walks (I.hd hc) tC (fun A hA=>Walks.range hA _ lo 1 (hi - lo).toNat) (fun i h st b hb=>by rw [η.mp hb];exact ⟨_,st⟩) (fun st q=>jv st rfl rfl (by decide) q) fun i v d p1 p2 ρ' G' _ _=>?_) ?_ (fun b hb=>?_) e
 ·obtain ⟨t,rfl⟩:=p1
  unfold jT at p2
  rw [Ω,π] at p2
  obtain ⟨j,p3,rfl⟩:=p2
  obtain ⟨hj,hj2⟩:=ο.mp p3
  rw [List.getElem_range] at hj2
  subst hj2
  exact ⟨t,by rw [Int.mul_one]⟩
 ·show IsRangeIter _ _ (lo+((0:Nat):Int) * 1) ((((hi - lo).toNat:Nat):Int) - ((0:Nat):Int)) 1
  rw [e2,show lo+((0:Nat):Int) * 1=lo by simp]
  exact ψ _ rfl
 ·rw [η.mp hb];exact .inl ⟨aD { z1 with s:=_ },_,ψ _ rfl⟩
theorem nE (hc:X.calm=true) (hx:Blt X "range" (.type "range")) (ha:LE X ea a) (he:Α [ea] X.env=(false,eval ea X.env) :: Α [] X.env):LI X tg (.Call (.Name "range" p) [ea] [] pos) (.it .range1 (.cons a .nil)):=fun z I nb=>
 aU (Q:=fun v s1=>χ X.M X.A (Š v) (FI X z tg (X.ev false (.it .range1 (.cons a .nil)) z.t)) NoE s1) (.inr ⟨_,rfl⟩) hx he rfl I (Ξ ((ha false).go .refl I (ev1 fun l s=>Out.of s ((itD .range1 l).map D.lst)) nb fun z1 x u y1 x1 I1 r1 e1=>ϊ (by
  cases x with
  | int j=>
    obtain ⟨t,rfl⟩:=r1.rd
    have e1:X.ev false (.it .range1 (.cons a .nil)) z.t=Out.of z1.t ((if -(2 ^ 62)≤j∧j<2 ^ 62 then some (jT 0 j.toNat) else none).map D.lst):=e1
    by_cases c:-(2 ^ 62)≤j∧j<2 ^ 62
    ·rw [ZZ c] at e1
     exact call_range_1 (qK hc x1 I1 (by omega) (by omega) c.1 c.2 (by rw [Int.sub_zero];exact e1))
    ·rw [ZY c] at e1;exact ZX e1 nb
  | _=>exact ZX e1 nb)))
theorem ir:∀ {l:List D} {i:Nat} {j:Int},(bG j l)[i]? = (l[i]?).map fun d=>.tup [.int (j+i),d]
 | [],_,_=>by unfold bG;simp
 | a :: r,0,j=>by unfold bG;simp
 | a :: r,i+1,j=>by
   unfold bG
   rw [ϵ,ϵ,ir]
   congr 1;funext d;congr 3;omega
theorem fF:∀ {l:List D} {j:Int},(bG j l).length=l.length
 | [],_=>by unfold bG;rfl
 | a :: r,j=>by unfold bG;rw [Ι,Ι,fF]
theorem sH {es:List Ν} {k:Nat} {tp:Ϭ} (hc:X.calm=true) (hx:Blt X "enumerate" (.type "enumerate")) (ha:LE X ea a) (he:Α [ea] X.env=(false,eval ea X.env) :: Α [] X.env):LI X (.Tuple es k tp) (.Call (.Name "enumerate" p) [ea] [] pos) (.it .enum (.cons a .nil)):=fun z I nb=>
 aU (Q:=fun v s1=>χ X.M X.A (Š v) (FI X z (.Tuple es k tp) (X.ev false (.it .enum (.cons a .nil)) z.t)) NoE s1) (.inr ⟨_,rfl⟩) hx he rfl I (Ξ ((ha false).go .refl I (ev1 fun l s=>Out.of s ((itD .enum l).map D.lst)) nb fun z1 x u y1 x1 I1 r1 e1=>ϊ (by
  cases x with
  | lst l=>
    obtain ⟨a0,o,vs,rfl,g,⟨⟨n,rfl⟩,hz⟩,r⟩:=r1.rd
    have hlt:=Χ (I1.gh _ _ g)
    refine call_enumerate_1 (I1.gh _ _ g) fun h' g1 g2 hsz kp=>DI g1 (eK (ds:=bG 0 l) x1 I1 (s2:={ z1.s with heap:=h' }) (.hp (t:=z1.s.toks) kp) (Itr.walksT (I1.hd hc) (by rw [fF];simp [r.len]) (fun A hA=>gm (E2 (A:=A.in1) hA z1.s.heap.objs.size a0 (ϧ hlt) vs.toArray) (z1.s.heap.objs.size+1) (ŀ _) (nin _ 1 0 _ (by decide) hlt) μ) (fun i h st b hb=>?_) (fun _ _ _ m=>m.2) fun i vals d p1 p2=>?_) ⟨⟨_,g1⟩,g2,⟨_,kp _ _ (I1.gh _ _ g),rfl,n,rfl⟩⟩ (fun b hb=>?_) e1)
    ·obtain ⟨⟨old,e1⟩,⟨o2,e2,_⟩,_⟩:=st
     rcases ς.mp hb with w | w
     ·rw [w];exact ⟨_,e1⟩
     ·rw [η.mp w];exact ⟨o2,e2⟩
    ·obtain ⟨t,v,p3,rfl⟩:=p1
     rw [ir,π] at p2
     obtain ⟨d',p4,rfl⟩:=p2
     refine ⟨by simp [ă],_,rfl,fun ρ' G' h1 h2=>?_⟩
     obtain ⟨v',w1,w2⟩:=(r.mono h1 h2).get p4
     rw [show vs[i]? = some v by simpa using p3] at w1;cases w1
     exact .cons ⟨t,by rw [C3]⟩ (.cons w2 rfl)
    ·rcases ς.mp hb with w | w
     ·rw [w];exact .inl ⟨fJ (ý _),_,g1⟩
     ·rcases ς.mp w with w | w
      ·obtain ⟨o2,e2,_⟩:=g2
       rw [w];exact .inl ⟨aD z1,_,e2⟩
      ·rw [η.mp w]
       refine .inr ⟨fun m=>?_,_,g⟩
       rcases ς.mp m with q | q
       ·exact ϧ (AI hlt) q
       ·exact ϧ hlt (η.mp q)
  | _=>exact ZX e1 nb)))
end
def gy (env:AK):List (ι×Β)→List (ι×Ε)→List (ι×Ε)
 | [],cs=>cs
 | y :: r,cs=>gy env r (if (y.2 == Í)=true then (match env.cells.lookup y.1 with | some a=>(y.1,a) :: cs | none=>cs) else cs)
theorem cg :∀ {l:List (ι×β)} {p:ι×β},p∈l→∃ c,l.lookup p.1=some c
 | [],_,h=>nomatch h
 | (a,b) :: r,p,h=>by
   cases e:p.1 == a with
   | true=>exact ⟨b,by simp only [ļ,e]⟩
   | false=>
     rcases ς.mp h with q | q
     ·subst q;simp at e
     ·obtain ⟨c,hc⟩:=cg q
      exact ⟨c,by simp only [ļ,e];exact hc⟩
theorem jo :∀ {ns} {cs} {p:ι×Ε},p∈gy env ns cs→p∈cs∨env.cells.lookup p.1=some p.2
 | [],_,_,h=>.inl h
 | y :: r,cs,p,h=>by
   rcases jo (ns:=r) h with q | q
   ·by_cases hk:(y.2 == Í)=true
    ·rw [ZZ hk] at q
     cases e:env.cells.lookup y.1 with
     | none=>rw [e] at q;exact .inl q
     | some a=>
       rw [e] at q
       rcases ς.mp q with rfl | q
       ·exact .inr e
       ·exact .inl q
    ·rw [ZY hk] at q;exact .inl q
   ·exact .inr q
theorem gU :∀ {ns} {cs} {p:ι×Ε},p∈cs→p∈gy env ns cs
 | [],_,_,h=>h
 | y :: r,cs,p,h=>by
   refine gU (ns:=r) ?_
   by_cases hk:(y.2 == Í)=true
   ·rw [ZZ hk]
    cases e:env.cells.lookup y.1 with
    | none=>exact h
    | some a=>exact ν _ h
   ·rw [ZY hk];exact h
theorem fy :∀ {ns} {cs} {y:ι×Β} {c},y∈ns→y.2 = .free→env.cells.lookup y.1=some c→(y.1,c)∈gy env ns cs
 | z :: r,cs,y,c,h,hf,hc=>by
   rcases ς.mp h with rfl | h
   ·refine gU (ns:=r) ?_
    rw [ZZ (by rw [hf];rfl),hc]
    exact μ
   ·exact fy (ns:=r) h hf hc
theorem dE
 (hf:∀ y cs,f y cs=if (y.2 == Í)=true then (do let a ← cellOf env y.1;pure (ÿ ((y.1,a) :: cs))) else pure (ÿ cs)) :
 ∀ (ns) (cs),(∀ y∈ns,y.2 = .free→∃ c,env.cells.lookup y.1=some c)→(forIn ns cs f:Dh _)=pure (gy env ns cs)
 | [],cs,_=>rfl
 | y :: r,cs,h=>by
   rw [Ġ,hf]
   by_cases hk:(y.2 == Í)=true
   ·obtain ⟨c,hc⟩:=h y μ (by simpa using hk)
    have e1:cellOf env y.1=pure c:=by unfold cellOf;rw [hc]
    rw [ZZ hk,e1]
    have ih:=dE hf r ((y.1,c) :: cs) fun z hz=>h z (ν _ hz)
    show (forIn r ((y.1,c) :: cs) f:Dh _)=pure (gy env r _)
    rw [ih,ZZ hk,hc]
   ·have ih:=dE hf r cs fun z hz=>h z (ν _ hz)
    rw [ZY hk]
    show (forIn r cs f:Dh _)=pure (gy env r _)
    rw [ih,ZY hk]
theorem km (h:∀ y∈sc.names,y.2 = .free→∃ c,env.cells.lookup y.1=some c):closureFor sc env=pure (gy env sc.names []):=by
 simp only [closureFor]
 rw [dE (env:=env) (fun y cs=>by obtain ⟨n,kd⟩:=y;by_cases hk:(kd == Í)=true <;> simp [hk]) sc.names [] h]
 rfl
def cxC (X:Cx) (N:List ι) (sc:Ė) (C:Ε):Cx:={ X with N:=N,env:=compEnvC sc (gy X.env sc.names []) C X.env }
def hZ (sc:Ė) (env:AK) (p:ι×ι):Bool:=match (relabel sc env).names.lookup p.1 with
 | some .local=>false
 | some .cell=>p.1 == p.2
 | some .free=>p.1 == p.2
 | _=>true
structure Lcn (X:Cx) (sc:Ė) (k:Nat) (N:List ι):Prop where
 nocell:∀ y∈sc.names,y.2≠.cell
 kind:sc.kind = .function
 names:∀ y∈sc.names,y.2 = .local→sc.names.lookup y.1=some .local
 fr:∀ y∈sc.names,y.2 = .free→X.env.kindOf y.1=some .cell∨X.env.kindOf y.1=some .free
 len:N.length=k+X.N.length
 old:((N.drop k).zip X.N).all (hZ sc X.env)=true
theorem yp (h1:(sc.names.all fun y=>y.2 != .cell)=true) (h2:sc.kind = .function) (h3:(sc.names.all fun y=>y.2 != .local || sc.names.lookup y.1 == some .local)=true)
 (h4:(sc.names.all fun y=>y.2 != .free || (X.env.kindOf y.1 == some .cell || X.env.kindOf y.1 == some .free))=true) (h5:N.length=k+X.N.length) (h6:((N.drop k).zip X.N).all (hZ sc X.env)=true):Lcn X sc k N where
 nocell:=fun y hy=>by have:=ϝ.mp h1 y hy;simpa using this
 kind:=h2
 names:=fun y hy hl=>by have:=ϝ.mp h3 y hy;simpa [hl] using this
 fr:=fun y hy hl=>by have:=ϝ.mp h4 y hy;simpa [hl] using this
 len:=h5
 old:=h6
section
variable {X:Cx} {sc:Ė} {k:Nat} {N:List ι} {z z' z0 z1:Z} {C:Ε}
theorem Lcn.cells (L:Lcn X sc k N) (ok:COk X):∀ y∈sc.names,y.2 = .free→∃ c,X.env.cells.lookup y.1=some c:=fun y hy hf=>ok.ch y.1 (L.fr y hy hf)
theorem jp (e:(gy X.env sc.names []).lookup x=some c):X.env.cells.lookup x=some c:=by
 rcases jo (ϸ e) with q | q
 ·exact nomatch q
 ·exact q
theorem b7 (L:Lcn X sc k N) (e:(relabel sc X.env).names.lookup x=some kd) (hk:kd = .cell∨kd = .free):(x,Í)∈sc.names:=by
 have hm:=ϸ e
 obtain ⟨⟨n,k'⟩,hy,q⟩:=ϖ.mp hm
 dsimp only at q
 by_cases hc:(k' == Í && X.env.scope.kind == .function && X.env.kindOf n == some .cell)=true
 ·rw [ZZ hc] at q
  have e1:n=x:=ZS Ļ q
  have e2:k' = .free:=by simp at hc;exact hc.1.1
  subst e1 e2
  exact hy
 ·rw [ZY hc] at q
  have e1:n=x:=ZS Ļ q
  have e2:k'=kd:=ZS Bo q
  subst e1 e2
  rcases hk with rfl | rfl
  ·exact ZX rfl (L.nocell _ hy)
  ·exact hy
theorem mW (L:Lcn X sc k N) (hi:N[i]? = some x) (hk:k≤i) (v:Vis (relabel sc X.env) x):X.N[i - k]? = some x∧(x,Í)∈sc.names:=by
 have hlt:i<N.length:=(ο.mp hi).1
 have hl:=L.len
 have h2:i - k<X.N.length:=by omega
 have e1:(N.drop k)[i - k]? = some x:=by rw [Ŵ];rw [show k+(i - k)=i by omega];exact hi
 have e2:X.N[i - k]? = some X.N[i - k]:=φ h2
 have hz:((N.drop k).zip X.N)[i - k]? = some (x,X.N[i - k]):=by rw [Ù];exact ⟨e1,e2⟩
 have ho:=ϝ.mp L.old _ (Ζ hz)
 have v':(relabel sc X.env).names.lookup x=some .local∨(relabel sc X.env).names.lookup x=some .cell∨(relabel sc X.env).names.lookup x=some .free:=v
 unfold hZ at ho
 rcases v' with q | q | q
 ·simp only [q] at ho;cases ho
 ·simp only [q] at ho
  have e3:x=X.N[i - k]:=by simpa using ho
  exact ⟨by rw [e2,← e3],b7 L q (.inl rfl)⟩
 ·simp only [q] at ho
  have e3:x=X.N[i - k]:=by simpa using ho
  exact ⟨by rw [e2,← e3],b7 L q (.inr rfl)⟩
theorem HR.cx (I:HR X z):HR (cxC X N sc C) z:=⟨I.md,I.fm,I.hd,I.bs,I.gh,I.rl,I.rn,I.rg,I.ob,I.fu,I.ff,I.br,I.os⟩
theorem HR.out (I:HR (cxC X N sc C) z):HR X z:=⟨I.md,I.fm,I.hd,I.bs,I.gh,I.rl,I.rn,I.rg,I.ob,I.fu,I.ff,I.br,I.os⟩
theorem uB (h:Lc (cxC X N sc C) a):a=C∨Lc X a:=h.imp_right fun ⟨x,e⟩=>.inr ⟨x,jp e⟩
theorem pR {s':ξ} {m:ι→Option ζ} (L:Lcn X sc k N) (I:Rep X z) (ow:z.t.ow = []) (g:Gr z.s s') (hC:z.h C=none) (hn:s'.heap.Ns C m):Rep (cxC X N sc C) ⟨z.ρ,z.G,⟨Δ k none ++ z.t.env,[],z.t.st⟩,Δ k none ++ z.σ,s'⟩:=by
 have H:=(I.toHR.grow (aw I.gh g)).cx (N:=N) (sc:=sc) (C:=C)
 have ck:∀ {c:Ε} {v:Option ζ},z.s.heap.IsCell c v→s'.heap.IsCell c v:=fun ⟨o,e,d⟩=>⟨o,g.k _ o e,d⟩
 have fC:=I.fre hC
 refine ⟨⟨H.md,H.fm,H.hd,H.bs,H.gh,H.rl,H.rn,H.rg,H.ob,H.fu,H.ff,H.br,H.os⟩,⟨I.ok.un,L.kind,I.ok.gl,I.ok.bl,fun x y c h1 h2=>I.ok.ci x y c (jp h1) (jp h2),fun x hx=>?_⟩,⟨m,hn,fun i x v h1 h2 h3=>?_⟩,fun x c e=>let ⟨v,q⟩:=I.ce x c (jp e);⟨v,ck q⟩,fun a l=>?_,by show (Δ k none ++ z.t.env).length=(Δ k none ++ z.σ).length;rw [ω,ω,I.el];simp,by show (Δ k none ++ z.σ).length=N.length;rw [ω,Ó,L.len,I.sl],fun i d _ e=>?_,(fun i m=>nomatch m),(fun i j a m=>nomatch m)⟩
 ·have hx':(relabel sc X.env).names.lookup x=some .cell∨(relabel sc X.env).names.lookup x=some .free:=hx
  have hm:(x,Í)∈sc.names:=by
   rcases hx' with q | q
   ·exact b7 L q (.inl rfl)
   ·exact b7 L q (.inr rfl)
  obtain ⟨c,hc⟩:=L.cells I.ok _ hm rfl
  exact cg (fy hm rfl hc)
 ·have hki:k≤i:=by
   by_cases q:i<k
   ·rw [Ψ (by simpa using q),ä,ZZ q] at h2
    cases h2
   ·omega
  rw [Ρ (by simpa using hki),Ó] at h2
  obtain ⟨hx,hm⟩:=mW L h1 hki h3
  have hkx:=L.fr _ hm rfl
  have hvis:Vis X.env.scope x:=by
   rcases hkx with q | q
   ·exact .inr (.inl q)
   ·exact .inr (.inr q)
  obtain ⟨m0,_,hl⟩:=I.lo
  rcases hl (i - k) x v hx h2 hvis with ⟨q,_⟩ | ⟨_,c,hc,hcell⟩
  ·rcases hkx with z | z
   ·rw [show X.env.kindOf x=some .cell from z] at q;cases q
   ·rw [show X.env.kindOf x=some .free from z] at q;cases q
  ·obtain ⟨c',hc'⟩:=cg (fy hm rfl hc)
   have e:=jp hc'
   rw [hc] at e;cases e
   refine .inr ⟨?_,c,hc',ck hcell⟩
   have v':(relabel sc X.env).names.lookup x=some .local∨(relabel sc X.env).names.lookup x=some .cell∨(relabel sc X.env).names.lookup x=some .free:=h3
   rcases v' with z | z | z
   ·exfalso
    have hlt:i<N.length:=(ο.mp h1).1
    have hl':=L.len
    have h2':i - k<X.N.length:=by omega
    have hz:((N.drop k).zip X.N)[i - k]? = some (x,X.N[i - k]):=by
     rw [Ù]
     exact ⟨by rw [Ŵ,show k+(i - k)=i by omega];exact h1,φ h2'⟩
    have ho:=ϝ.mp L.old _ (Ζ hz)
    unfold hZ at ho
    simp only [z] at ho
    cases ho
   ·exact .inl z
   ·exact .inr z
 ·rcases uB l with rfl | l
  ·exact ⟨fC.1.1,fC.1.2.1⟩
  ·exact I.fl a l
 ·have hki:k≤i:=by
   by_cases q:i<k
   ·have e:(Δ k none ++ z.t.env)[i]? = some (some d):=e
    rw [Ψ (by simpa using q),ä,ZZ q] at e
    cases e
   ·omega
  have e:(Δ k none ++ z.t.env)[i]? = some (some d):=e
  rw [Ρ (by simpa using hki),Ó] at e
  obtain ⟨u,e1,r⟩:=I.en (i - k) d (by rw [ow];exact nofun) e
  exact ⟨u,by show (Δ k none ++ z.σ)[i]? = _;rw [Ρ (by simpa using hki),Ó];exact e1,r⟩
theorem vR {zr:Z} (I:Rep X z) (Ir:Rep X zr) (er:zr.t.env=z.t.env∧zr.σ=z.σ∧zr.t.ow = []) (S:Stp X.fr (Own z) z z') (H:HR X z') (pr:zr.ρ <+: z'.ρ) (gg:Sub zr.G z'.G):Rep X { z' with t:=⟨z.t.env,[],z'.t.st⟩,σ:=z.σ }:=by
 have sl:∀ b o,z.h b=some o→¬ Mu z.ρ b→¬ Own z b→∃ sl,z'.s.heap.get? b=some { o with slots:=sl }:=fun b o e n w=>by
  by_cases f:b∈frs X.fr
  ·exact S.sl b o e n w f
  ·exact ⟨o.slots,S.sm b o e n w f⟩
 have nO:∀ {a},Lc X a→¬ Own z a:=fun l w=>(I.oth w).1.2.2.2 l
 have ck:∀ x c v,X.env.cells.lookup x=some c→z.s.heap.IsCell c v→z'.s.heap.IsCell c v:=fun x c v e ⟨o,q,d⟩=>by
  have l:Lc X c:=.inr ⟨x,e⟩
  obtain ⟨s,q2⟩:=sl c o q (I.fl c l).2 (nO l)
  exact ⟨_,q2,d⟩
 refine ⟨⟨H.md,H.fm,H.hd,H.bs,H.gh,H.rl,H.rn,H.rg,H.ob,H.fu,H.ff,H.br,H.os⟩,I.ok,?_,fun x c e=>let ⟨v,q⟩:=I.ce x c e;⟨v,ck x c v e q⟩,fun a l=>⟨?_,fun m=>(S.rn a m).elim (I.fl a l).2 fun w=>?_⟩,I.el,I.sl,fun i d _ e=>?_,(fun i m=>nomatch m),(fun i j a m=>nomatch m)⟩
 ·obtain ⟨m,⟨oL,es,ep,q,r⟩,hl⟩:=I.lo
  have l:Lc X X.env.locals:=.inl rfl
  obtain ⟨s,q2⟩:=sl _ _ q (I.fl _ l).2 (nO l)
  exact ⟨m,⟨_,es,ep,q2,r⟩,fun j x w e1 e2 e3=>cP (fun c v e q=>ck x c v e q) (hl j x w e1 e2 e3)⟩
 ·cases q:z'.G a with
  | none=>rfl
  | some o=>
    obtain ⟨o1,e1⟩:=I.lth l
    rcases S.gn a o q with w | w | w
    ·rw [(I.fl a l).1] at w;cases w
    ·rw [w] at e1;cases e1
    ·exact ZX w (nO l)
 ·obtain ⟨o1,e1⟩:=I.lth l
  rw [w] at e1;cases e1
 ·obtain ⟨u,e1,r⟩:=Ir.en i d (by rw [er.2.2];exact nofun) (by rw [er.1];exact e)
  exact ⟨u,er.2.1 ▸ e1,r.mono pr gg⟩
def LTs (Y:Cx) (ifs:List Ν) (c:E):Prop:=Jg Y (forIn ifs true fun c r=>if r=true then do let ok ← Du c Y.env (eval c Y.env);pure (ÿ ok) else pure (ÿ r)) (fun t=>(Y.ev true c t).bind toB) RT
theorem sX:LTs X [] (.c (.bl true)):=fun z I nb=>wpAny_tests_nil ⟨z,true,rfl,rfl,.refl,I,rfl⟩
theorem sY (h:LT X e c):LTs X [e] c:=fun z I nb=>wpAny_tests_one (h z I nb)
def lcF (X:Cx) (t:List Nat) (one:Bool) (elt cond:E) (d:D) (s':Sta):Out (Option D):=match aH t one d s'.env with
 | some env=>(noX (X.ev true cond ⟨env,[],s'.st⟩)).bind fun b s2=>(match b with
   | .bl true=>(noX (X.ev false elt s2)).bind fun e s3=>.ok (some e) ⟨s3.env,[],s3.st⟩
   | .bl false=>.ok none ⟨s2.env,[],s2.st⟩
   | _=>.bad)
 | none=>.bad
theorem Ee.nil (x:Ee X z z') (h:z.t.ow = []):z'.t.ow = []∧Stp X.fr (fun _=>False) z z':=⟨List.eq_nil_iff_forall_not_mem.mpr (fun i m=>by have:=x.ow i m;rw [h] at this;exact nomatch this),x.st.mono fun a ⟨i,m,_⟩=>by rw [h] at m;exact nomatch m⟩
theorem mC {t:Sta} (h:t.ow = []):(⟨t.env,[],t.st⟩:Sta)=t:=by cases t;cases h;rfl
end
section
variable {X:Cx} {sc:Ė} {N:List ι} {z z' z0 z1:Z}
structure LcP (X:Cx) (N:List ι) (ee tg iter:Ν) (ifs:List Ν) (sc:Ė) (t:List Nat) (one:Bool) (it elt cond:E):Prop where
 hc:X.calm=true
 L:Lcn X sc t.length N
 hi:LI X tg iter it
 hg:∀ C,LG (cxC X N sc C) tg t one
 hl:∀ i∈t,∀ x,N[i]? = some x→(relabel sc X.env).names.lookup x=some .local
 ht:∀ C,LTs (cxC X N sc C) ifs cond
 he:∀ C,LE (cxC X N sc C) ee elt
 hs:∀ x,Bf iter X.env x=pure x
inductive LcJ (X Y:Cx) (z zr:Z) (env:List (Option D)) (ds:List D) (St:Nat→ϯ→Prop) (fp wr:List Nat) (a:Nat) (o:Out D) (f:D→Sta→Out (Option D)) (n:Nat) (s:ξ):Prop
 | mk (i:Nat) (z':Z) (acc:List D) (vs:List ζ) (ob:Cy) (_:z'.s=s) (_:n=ds.length - i) (_:i≤ds.length) (_:Stp X.fr (Own z) z z') (_:Rep Y z') (_:z'.t.ow = []) (_:St i z'.s.heap) (_:Fp Y z z' fp wr) (_:zr.ρ <+: z'.ρ) (_:Sub zr.G z'.G) (_:Nob Y z z' a) (_:z'.h a=some ob) (_:LsO ob vs) (_:RDs X.W z'.ρ z'.G acc vs) (_:o=(aQ f (ds.drop i) acc z'.t).bind fun d s'=>.ok d ⟨env,[],s'.st⟩)
theorem pQ {ee tg iter:Ν} {ifs:List Ν} {t:List Nat} {one:Bool} {it elt cond:E} {pos p:Ϭ} {use:Option (ζ→Dh Unit)} {Q:ζ→ξ→Prop} {E:ζ→ξ→Prop} {o:Out D} (P:LcP X N ee tg iter ifs sc t one it elt cond) (I:Rep X z) (e0:o=X.ev false (.lc t one it elt cond) z.t) (nb:o≠.bad) (hE:∀ u s',Px X z o u s'→E u s')
 (fin:∀ zf d D C m,Ee X z zf→Rep X zf→o = .ok d zf.t→FV X z zf d (.ref D)→Nob X z zf C→(∃ oC,zf.h C=some oC)→zf.s.heap.Ns C m→C≠D→compPost X.M X.A E use Q (.ref D) C (.ok .next) zf.s) :
 χ X.M X.A (comprehension (.ListComp ee [⟨tg,iter,ifs,0⟩] sc pos) sc X.env p (newList []) false (eval iter X.env) use) Q E z.s:=by
 have e0:o=(X.ev false it z.t).bind fun x s=>(match x with
  | .lst ds=>(aQ (lcF X t one elt cond) ds [] ⟨Δ t.length none ++ s.env,[],s.st⟩).bind fun d s'=>.ok d ⟨s.env,[],s'.st⟩
  | _=>.bad):=e0
 have nb0:X.ev false it z.t≠.bad:=fun q=>nb (by rw [e0,q];rfl)
 refine wpAny_comprehension_free rfl P.hs (km (P.L.cells I.ok)) P.L.kind P.L.names (Υ (P.hi z I nb0) (fun v s1 h1=>Υ h1 (fun itv s2 h2=>?_) fun _ _ w=>w.elim) fun u s' h=>hE u s' (by rw [e0];exact h.map))
 obtain ⟨z1,ds,a,fp,wr,St,q1,q2,x1,I1,q3,T,st1,f1⟩:=h2
 subst q1 q3
 rw [q2] at e0
 have e0:o=(aQ (lcF X t one elt cond) ds [] ⟨Δ t.length none ++ z1.t.env,[],z1.t.st⟩).bind fun d s'=>.ok d ⟨z1.t.env,[],s'.st⟩:=e0
 refine Â (wpAny_newFunctionEnv P.L.nocell (by intro y hy;simp at hy) (fun h1 hns hsb=>?_) P.L.kind)
 dsimp only at hns hsb ⊢
 generalize hD:z1.s.heap.objs.size=D at hns hsb ⊢
 have nD:z1.h D=none:=hD ▸ aD z1
 generalize hG:z1.s.heap.push { cls:=.type "list",dict:=none,data:=.seq ([]:List ζ).toArray }=G1 at hns hsb ⊢
 have hC0:G1.objs.size=D+1:=by rw [← hG,Ϻ,hD]
 generalize hC:G1.objs.size=C at hns hsb ⊢ hC0
 have CD:C≠D:=by rw [hC0];exact ŀ _
 have nC:z1.h C=none:=ϣ (by rw [hC0,hD];exact ý _)
 have up:∀ b o,G1.get? b=some o→h1.get? b=some o:=fun b o e=>hsb.extBut b o (hC ▸ ϧ (Χ e)) (υ _ e)
 have kp:∀ b o,z1.s.heap.get? b=some o→h1.get? b=some o:=fun b o e=>up b o (hG ▸ υ _ e)
 have gr:Gr z1.s { z1.s with heap:=h1,toks:=z1.s.toks+([]:List (ι×ζ)).length }:=.hp kp
 have hDo:h1.get? D=some { cls:=.type "list",data:=.seq ([]:List ζ).toArray }:=up _ _ (hG ▸ hD ▸ ψ _ rfl)
 obtain ⟨Ir,xr⟩:=I1.rel fun _=>false
 have owr:(z1.rel fun _=>false).t.ow = []:=BO.mpr fun _ _=>by simp
 have I2:=pR (k:=t.length) P.L Ir owr (s':={ z1.s with heap:=h1,toks:=z1.s.toks+([]:List (ι×ζ)).length }) gr nC hns
 generalize hz2:(⟨(z1.rel fun _=>false).ρ,(z1.rel fun _=>false).G,⟨Δ t.length none ++ (z1.rel fun _=>false).t.env,[],(z1.rel fun _=>false).t.st⟩,Δ t.length none ++ (z1.rel fun _=>false).σ,{ z1.s with heap:=h1,toks:=z1.s.toks+([]:List (ι×ζ)).length }⟩:Z)=z2 at I2
 have xa:=x1.trans xr
 have fD:=Ir.fre (a:=D) nD
 have fC:=Ir.fre (a:=C) nC
 have zD:z.h D=none:=x1.st.no nD
 have zC:z.h C=none:=x1.st.no nC
 have S2:Stp X.fr (Own z) z z2:=by
  subst hz2
  exact ⟨xa.st.pr,xa.st.gg,xa.st.gn,xa.st.rn,fun b o e=>let ⟨o',e'⟩:=xa.st.th b o e;⟨o',kp b o' e'⟩,fun b o e n w f=>kp b o (xa.st.sm b o e n w f),fun b o e n w f=>let ⟨sl,e'⟩:=xa.st.sl b o e n w f;⟨sl,kp b _ e'⟩⟩
 have nLD:¬ Lc X D:=fD.1.2.2.2
 have nLC:¬ Lc X C:=fC.1.2.2.2
 have nob2:∀ {b},z.h b=none→(z1.rel fun _=>false).G b=none→¬ Mu z1.ρ b→b ∉ frs X.fr→¬ Lc X b→b≠C→Nob (cxC X N sc C) z z2 b:=fun h0 h1 h2 h3 h4 h5=>by
  subst hz2
  exact ⟨h0,⟨h1,h2,h3,fun l=>(uB l).elim h5 h4⟩,fun ⟨i,m,_⟩=>nomatch m⟩
 have nobD:Nob (cxC X N sc C) z z2 D:=nob2 zD fD.1.1 fD.1.2.1 fD.1.2.2.1 nLD (Ϥ CD)
 have fp1:∀ b∈fp,∃ o,z1.h b=some o:=fun b hb=>(f1 b hb).elim (·.2) fun ⟨_,o,e⟩=>⟨o,I1.gh b o e⟩
 have fpn:∀ b∈fp,b≠D∧b≠C:=fun b hb=>by
  obtain ⟨o,e⟩:=fp1 b hb
  exact ⟨fun w=>(by rw [w,nD] at e;cases e),fun w=>(by rw [w,nC] at e;cases e)⟩
 have f2:Fp (cxC X N sc C) z z2 fp wr:=fun b hb=>by
  obtain ⟨o1,e1⟩:=fp1 b hb
  rcases f1 b hb with ⟨⟨n0,ff,no⟩,_⟩ | ⟨m,o,e⟩
  ·exact .inl ⟨nob2 n0 ((cU fun ⟨i,m,_,e⟩=>no ⟨i,m,e⟩).trans ff.1) ff.2.1 ff.2.2.1 ff.2.2.2 (fpn b hb).2,o1,by subst hz2;exact kp b o1 e1⟩
  ·exact .inr ⟨m,o,by subst hz2;exact xr.st.gg b o e⟩
 have pr2:(z1.rel fun _=>false).ρ <+: z2.ρ:=by subst hz2;exact κ _
 have gg2:Sub (z1.rel fun _=>false).G z2.G:=by subst hz2;exact .refl _
 have ow2:z2.t.ow = []:=by subst hz2;rfl
 have s2e:z2.s={ z1.s with heap:=h1,toks:=z1.s.toks+([]:List (ι×ζ)).length }:=by subst hz2;rfl
 have hD2:z2.h D=some { cls:=.type "list",data:=.seq ([]:List ζ).toArray }:=by show z2.s.heap.get? D=_;rw [s2e];exact hDo
 have st2:St 0 z2.s.heap:=by rw [s2e];exact T.keep _ _ _ st1 fun b _ o e=>kp b o e
 have e2:o=(aQ (lcF X t one elt cond) ds [] z2.t).bind fun d s'=>.ok d ⟨z1.t.env,[],s'.st⟩:=by subst hz2;exact e0
 have loop:Ň X.M X.A (.compLoop (.ListComp ee [⟨tg,iter,ifs,0⟩] sc pos) 0 (.ref a) (.ref D) (cxC X N sc C).env) (compPost X.M X.A E use Q (.ref D) C) z2.s:=by
  refine codeAny_loop rfl (LcJ X (cxC X N sc C) z (z1.rel fun _=>false) z1.t.env ds St fp wr D o (lcF X t one elt cond)) (fun n s3 hI=>?_) (ds.length - 0) ⟨0,z2,[],[],_,rfl,rfl,Î _,S2,I2,ow2,st2,f2,pr2,gg2,nobD,hD2,⟨⟨_,rfl⟩,Î _⟩,rfl,by rw [ĥ];exact e2⟩
  obtain ⟨i,z3,acc,vs,ob,e3,en,hi,S3,I3,ow3,st3,f3,p3,g3,nD3,hD3,lo3,ra3,q⟩:=hI
  subst e3
  show χ X.M X.A ((compTurn (.ListComp ee [⟨tg,iter,ifs,0⟩] sc pos) 0 (.ref a) (.ref D) (cxC X N sc C).env).onRaise (fun x=>do İ x (cxC X N sc C).env;theTreesLotGoes x)) _ _ z3.s
  refine wpAny_noted ?_
  rw [compTurn_list]
  refine ε (Ô (ε ?_))
  cases qd:ds[i]? with
  | none=>
    have hl:i=ds.length:=by rw [BA] at qd;omega
    subst hl
    refine Υ (T.done (I3.hd P.hc) st3) (fun r s4 ⟨er,os,k⟩=>?_) fun _ _ w=>w.elim
    subst er
    obtain ⟨I4,S4,g4,_⟩:=Rep.turn (X:=cxC X N sc C) S3 I3 (f3.wr T st3) k os
    rw [AR] at q
    have nDw:D ∉ wr:=fun m=>(fpn D (T.sub D m)).1 rfl
    have If:=vR I Ir ⟨x1.en,x1.sg,owr⟩ S4 I4.toHR.out p3 (g3.trans g4)
    obtain ⟨m,hn,_⟩:=I4.lo
    obtain ⟨n0,ff,no⟩:=nD3
    have GD:(z3.up s4).G D=none:=by show (match z3.h D with | none=>s4.heap.get? D | some _=>z3.G D)=none;rw [hD3];exact ff.1
    refine θ (fin { z3.up s4 with t:=⟨z.t.env,[],z3.t.st⟩,σ:=z.σ } (.lst acc) D C m ⟨⟨S4.pr,S4.gg,S4.gn,S4.rn,S4.th,S4.sm,S4.sl⟩,rfl,rfl,fun i m=>nomatch m⟩ If (q.trans (by rw [x1.en];rfl)) ⟨D,.lst acc,rfl,zD,rfl,⟨ob,vs,rfl,k D ob nDw hD3,lo3,ra3.mono (κ _) g4⟩,⟨GD,ff.2.1,ff.2.2.1,nLD⟩,fun ⟨i,m,_⟩=>nomatch m⟩ ⟨zC,⟨(I4.fl C (.inl rfl)).1,(I4.fl C (.inl rfl)).2,fC.1.2.2.1,nLC⟩,fun ⟨i,m,_⟩=>nomatch m⟩ ?_ hn CD)
    obtain ⟨oC,_,_,eC,_⟩:=hn
    exact ⟨oC,eC⟩
  | some d=>
    have hil:i<ds.length:=(ο.mp qd).1
    rw [lr qd] at q
    have q:o=((lcF X t one elt cond d z3.t).bind fun o s'=>match o with
     | some e=>if acc.length<100000 then aQ (lcF X t one elt cond) (ds.drop (i+1)) (acc ++ [e]) s' else .bad
     | none=>aQ (lcF X t one elt cond) (ds.drop (i+1)) acc s').bind fun d s'=>.ok d ⟨z1.t.env,[],s'.st⟩:=q
    refine Υ (T.item (I3.hd P.hc) qd st3) (fun r s4 ⟨u,er,h4⟩=>?_) fun _ _ w=>w.elim
    subst er
    refine ε (Υ h4 (fun _ s5 ⟨st5,os5,k5,rd5⟩=>?_) fun _ _ w=>w.elim)
    obtain ⟨I5,S5,g5,n5⟩:=Rep.turn (X:=cxC X N sc C) S3 I3 (f3.wr T st3) k5 os5
    have rd:=rd5 z3.ρ (z3.up s5).G (xr.st.pr.trans p3) ((xr.st.gg.trans g3).trans g5) fun a o e1 e2=>by rw [ja e1];exact e2
    have f5:=f3.up I3 g5 k5 fun b m _=>T.ex _ _ st5 b m
    have nDw:D ∉ wr:=fun m=>(fpn D (T.sub D m)).1 rfl
    have nD5:Nob (cxC X N sc C) z (z3.up s5) D:=⟨nD3.1,⟨by show (match z3.h D with | none=>s5.heap.get? D | some _=>z3.G D)=none;rw [hD3];exact nD3.2.1.1,nD3.2.1.2⟩,nD3.2.2⟩
    have hD5:(z3.up s5).h D=some ob:=k5 D ob nDw hD3
    cases qb:aH t one d z3.t.env with
    | none=>rw [show lcF X t one elt cond d z3.t = .bad by unfold lcF;rw [qb]] at q;exact ZX q nb
    | some env=>
      rw [show lcF X t one elt cond d z3.t=(noX (X.ev true cond ⟨env,[],z3.t.st⟩)).bind fun b s2=>(match b with
       | .bl true=>(noX (X.ev false elt s2)).bind fun e s3=>.ok (some e) ⟨s3.env,[],s3.st⟩
       | .bl false=>.ok none ⟨s2.env,[],s2.st⟩
       | _=>.bad) by unfold lcF;rw [qb];all_goals rfl] at q
      refine ε (P.hg C (z3.up s5) (z3.up s5) d u env _ _ .refl I5 rd qb fun z6 _ I6 eρ y6 et eσ ek=>?_)
      have k6:=ek P.hl
      have ow6:z6.t.ow = []:=by rw [et];show z3.t.ow.filter _ = [];rw [ow3];rfl
      have t6:z6.t=⟨env,[],z3.t.st⟩:=by rw [et];show (⟨env,z3.t.ow.filter _,z3.t.st⟩:Sta)=_;rw [ow3];rfl
      have S56:Stp X.fr (fun b=>b=C) (z3.up s5) z6:=⟨y6.st.pr,y6.st.gg,fun b o e=>(by
       rcases y6.st.gn b o e with w | w | w
       ·exact .inl w
       ·exact .inr (.inl w)
       ·rcases w with ⟨j,m,_⟩ | l
        ·have:j∈z3.t.ow:=m
         rw [ow3] at this;exact nomatch this
        ·rw [(I6.fl b l).1] at e;cases e),y6.st.rn,y6.st.th,fun b o e _ w _=>k6 b o e w,fun b o e _ w _=>⟨o.slots,k6 b o e w⟩⟩
      have S6:Stp X.fr (Own z) z z6:=S5.trans S56 fun b w=>.inr (by rw [w];exact zC)
      obtain ⟨nD6,hD6⟩:=nD5.go y6 hD5
      have f6:=f5.go y6
      have st6:St (i+1) z6.s.heap:=T.keep _ _ _ st5 (f5.keep y6 I5 I6)
      rw [← t6] at q
      have nb6:(X.ev true cond z6.t).bind toB≠.bad:=fun w=>nb (by
       rw [q]
       cases qc:X.ev true cond z6.t with
       | ok b s2=>
         rw [qc] at w
         cases b with
         | bl b=>cases w
         | _=>rfl
       | exc c l s2=>rfl
       | bad=>rfl)
      refine ε (Υ (P.ht C z6 I6 nb6) (fun b s7 ⟨z7,tb,e7,q7,x7,I7,r7⟩=>?_) fun u s' ⟨z7,c,l,e7,q7,_⟩=>?_)
      rotate_left
      ·refine ZX ?_ nb
       rw [q]
       have q7:(X.ev true cond z6.t).bind toB = .exc c l z7.t:=q7
       cases qc:X.ev true cond z6.t with
       | ok b s2=>rw [qc] at q7;cases b <;> cases q7
       | exc c l s2=>rfl
       | bad=>rw [qc] at q7;cases q7
      subst e7
      obtain ⟨ow7,S67⟩:=x7.nil ow6
      have S7:Stp X.fr (Own z) z z7:=S6.trans S67 fun _ w=>w.elim
      obtain ⟨nD7,hD7⟩:=nD6.go x7.go hD6
      have f7:=f6.go x7.go
      have st7:St (i+1) z7.s.heap:=T.keep _ _ _ st6 (f6.keep x7.go I6 I7)
      have qc:X.ev true cond z6.t = .ok (.bl tb) z7.t:=by
       have q7:(X.ev true cond z6.t).bind toB = .ok tb z7.t:=q7
       cases qc:X.ev true cond z6.t with
       | ok b s2=>rw [qc] at q7;cases b <;> first | (cases q7;rfl) | cases q7
       | exc c l s2=>rw [qc] at q7;cases q7
       | bad=>rw [qc] at q7;cases q7
      rw [qc] at q
      have p7:(z1.rel fun _=>false).ρ <+: z7.ρ:=p3.trans ((eρ ▸ κ _:z3.ρ <+: z6.ρ).trans x7.st.pr)
      have g37:Sub z3.G z7.G:=(g5.trans y6.st.gg).trans x7.st.gg
      cases (show b=tb from r7)
      cases b with
      | false=>
        have q:o=(aQ (lcF X t one elt cond) (ds.drop (i+1)) acc ⟨z7.t.env,[],z7.t.st⟩).bind fun d s'=>.ok d ⟨z1.t.env,[],s'.st⟩:=q
        rw [mC ow7] at q
        exact θ ⟨rfl,ds.length - (i+1),by omega,i+1,z7,acc,vs,ob,rfl,rfl,hil,S7,I7,ow7,st7,f7,p7,g3.trans g37,nD7,hD7,lo3,ra3.mono ((eρ ▸ κ _:z3.ρ <+: z6.ρ).trans x7.st.pr) g37,q⟩
      | true=>
        have q:o=(((noX (X.ev false elt z7.t)).bind fun e s3=>Out.ok (some e) ⟨s3.env,[],s3.st⟩).bind fun o s'=>match o with
         | some e=>if acc.length<100000 then aQ (lcF X t one elt cond) (ds.drop (i+1)) (acc ++ [e]) s' else .bad
         | none=>aQ (lcF X t one elt cond) (ds.drop (i+1)) acc s').bind fun d s'=>.ok d ⟨z1.t.env,[],s'.st⟩:=q
        have nb7:X.ev false elt z7.t≠.bad:=fun w=>nb (by rw [q,w];rfl)
        refine ε (ε (Υ (P.he C false z7 I7 nb7) (fun v s8 ⟨z8,de,e8,q8,x8,I8,r8⟩=>?_) fun u s' ⟨z8,c,l,e8,q8,_⟩=>ZX (by rw [q,show X.ev false elt z7.t=_ from q8];rfl) nb))
        subst e8
        rw [show X.ev false elt z7.t=_ from q8] at q
        have q:o=(if acc.length<100000 then aQ (lcF X t one elt cond) (ds.drop (i+1)) (acc ++ [de]) ⟨z8.t.env,[],z8.t.st⟩ else .bad).bind fun d s'=>.ok d ⟨z1.t.env,[],s'.st⟩:=q
        by_cases ca:acc.length<100000
        ·rw [ZZ ca] at q
         obtain ⟨ow8,S78⟩:=x8.nil ow7
         rw [mC ow8] at q
         have S8:Stp X.fr (Own z) z z8:=S7.trans S78 fun _ w=>w.elim
         obtain ⟨nD8,hD8⟩:=nD7.go x8.go hD7
         have f8:=f7.go x8.go
         have st8:St (i+1) z8.s.heap:=T.keep _ _ _ st7 (f7.keep x8.go I7 I8)
         obtain ⟨⟨n,rfl⟩,hz⟩:=lo3
         have ra8:=ra3.mono ((eρ ▸ κ _:z3.ρ <+: z6.ρ).trans (x7.st.pr.trans x8.st.pr)) (g37.trans x8.st.gg)
         have hl:vs.length<100000:=by rw [← ra8.len];exact ca
         refine ε (BY ĩ ⟨_,hD8,rfl⟩ B5 (AZ _ _) (Cu D vs.toArray n v (by rw [Μ];exact đ (Ĉ hl (big (Ο _))))) ⟨hD8,?_⟩)
         obtain ⟨⟨o1,u1,u3⟩,u2⟩:=fe (f:=(·.push v)) (ws:=vs ++ [v]) hD8 (by simp) (by rw [ω];exact big (by simp;omega))
         have k9:∀ b o,b ∉ [D]→z8.h b=some o→(z8.s.heap.update D (ć (·.push v))).get? b=some o:=fun b o m e=>(u2 b fun w=>m (by rw [w];exact η.mpr rfl)).trans e
         obtain ⟨I9,S9,g9,_⟩:=Rep.turn (X:=cxC X N sc C) (s':={ z8.s with heap:=z8.s.heap.update D (ć (·.push v)) }) S8 I8 (fun b hb=>by rw [η.mp hb];exact ⟨nD8,_,hD8⟩) k9 ⟨rfl,rfl⟩
         refine θ (θ ⟨rfl,ds.length - (i+1),by omega,i+1,_,acc ++ [de],vs ++ [v],o1,rfl,rfl,hil,S9,I9,ow8,T.keep _ _ _ st8 fun b hb o e=>k9 b o (fun m=>(fpn b hb).1 (η.mp m)) e,f8.up I8 g9 k9 fun b m hb=>ZX (η.mp m) (fpn b hb).1,p7.trans x8.st.pr,((g3.trans g37).trans x8.st.gg).trans g9,⟨nD8.1,⟨?_,nD8.2.1.2⟩,nD8.2.2⟩,u1,u3,(ra8.mono (κ _) g9).app (.cons (r8.rd.mono (κ _) g9) rfl),q⟩)
         show (match z8.h D with | none=>_ | some _=>z8.G D)=none
         rw [hD8];exact nD8.2.1.1
        ·rw [ZY ca] at q;exact ZX q nb
 rw [← s2e]
 exact codeAny_compStart_list loop (T.self (I1.hd P.hc) st2 loop)
theorem pY {ee tg iter:Ν} {ifs:List Ν} {t:List Nat} {one:Bool} {it elt cond:E} {pos:Ϭ} (P:LcP X N ee tg iter ifs sc t one it elt cond):LF X (.ListComp ee [⟨tg,iter,ifs,0⟩] sc pos) (.lc t one it elt cond):=fun z I nb=>by
 rw [eval_ListComp]
 refine pQ P I rfl nb (fun _ _ h=>h) fun zf d D C m x If e fv nC exC hn CD=>⟨m,hn,fun h' sb=>?_⟩
 have k:∀ b o,b ∉ [C]→zf.h b=some o→h'.get? b=some o:=fun b o m e=>(sb.2 b fun w=>m (by rw [w];exact η.mpr rfl)).trans e
 obtain ⟨I4,S4,g4,_⟩:=Rep.turn (s':={ zf.s with heap:=h' }) x.st If (fun b hb=>by rw [η.mp hb];exact ⟨nC,exC⟩) k ⟨rfl,rfl⟩
 obtain ⟨a,ob,ea,n,t1,r,f,no⟩:=fv
 have ea:a=D:=(č ea).symm
 subst ea
 obtain ⟨oa,ha⟩:=r.th.1
 refine ⟨zf.up { zf.s with heap:=h' },d,rfl,e,⟨S4,x.sg,x.en,x.ow⟩,I4,a,ob,rfl,n,t1,r.mono (κ _) g4 fun b hb o e=>k b o (fun m=>?_) e,⟨?_,f.2⟩,no⟩
 ·have:b=a:=by rcases hb with w | w <;> exact w
  exact CD ((η.mp m).symm.trans this)
 ·show (match zf.h a with | none=>h'.get? a | some _=>zf.G a)=none
  rw [ha];exact f.1
theorem yu {ee tg iter:Ν} {ifs:List Ν} {t:List Nat} {one:Bool} {it elt cond:E} {pos:Ϭ} (P:LcP X N ee tg iter ifs sc t one it elt cond):LE X (.ListComp ee [⟨tg,iter,ifs,0⟩] sc pos) (.lc t one it elt cond):=(pY P).le fun _=>rfl
theorem qk {ee tg iter:Ν} {ifs:List Ν} {t:List Nat} {one:Bool} {it elt cond:E} {pos pos' spos:Ϭ} {i:Nat} {x:ι} (hN:X.N.Nodup) (hi:X.N[i]? = some x) (hx:Loc X.env.scope x) (P:LcP X N ee tg iter ifs sc t one it elt cond):LS X (.Assign [.Name x pos'] (.ListComp ee [⟨tg,iter,ifs,0⟩] sc pos) spos) (.set i (.lc t one it elt cond)):=fun z I nb=>by
 obtain ⟨b,sw⟩:∃ b,ſ (.ListComp ee [⟨tg,iter,ifs,0⟩] sc pos) (some (.Name x pos')) spos.line X.env=pure b:=⟨_,rfl⟩
 cases b with
 | false=>exact kI hN hi hx (yu P) (fun _=>pY P) sw z I nb
 | true=>
   have nb1:X.ev false (.lc t one it elt cond) z.t≠.bad:=fun q=>nb (show Out.go (X.ev false (.lc t one it elt cond) z.t) _=_ by rw [q];rfl)
   rw [exec_Assign_Name_used _ _ _ _ sw]
   refine ε (Ô (ε ?_))
   show χ _ X.A (do let _ ← comprehension (.ListComp ee [⟨tg,iter,ifs,0⟩] sc pos) sc X.env _ (newList []) false (eval iter X.env) (some (assign (.Name x pos') X.env))) _ _ z.s
   refine ε (thn (pQ (use:=some (assign (.Name x pos') X.env)) (Q:=fun _ s'=>Ps X z (X.ex (.set i (.lc t one it elt cond)) z.t) .next s') P I rfl nb1 (fun u s' h=>PxS.of .refl h) fun zf d D C m x0 If e fv nC exC hn CD=>?_) fun _ s' hq=>θ (θ hq))
   show χ _ X.A (assign (.Name x pos') X.env (.ref D)) _ _ _
   refine B9 (b5 (own:=true) x0.go If hN hi hx fv fun s' a sb la I' g'=>?_)
   have Ca:C≠a:=fun w=>nC.2.1.2.2.2 (w ▸ la.1)
   refine ⟨m,hn.sameBut sb Ca,fun h' sb'=>?_⟩
   have k:∀ b o,b ∉ [C]→s'.heap.get? b=some o→h'.get? b=some o:=fun b o m e=>(sb'.2 b fun w=>m (by rw [w];exact η.mpr rfl)).trans e
   obtain ⟨oC,eC⟩:=exC
   obtain ⟨I4,S4,g4,_⟩:=Rep.turn (z:={ zf with t:=stV zf.t i d true,σ:=zf.σ.set i (some (.ref D)),s:=s' }) (s':={ s' with heap:=h' }) g'.st I' (fun b hb=>by
    rw [η.mp hb]
    refine ⟨⟨nC.1,nC.2.1,fun ⟨j,mj,ej⟩=>?_⟩,oC,(sb.2 C Ca).trans eC⟩
    by_cases q:j=i
    ·subst q
     have hl:j<zf.σ.length:=by rw [If.sl];exact (ο.mp hi).1
     have ej:(zf.σ.set j (some (.ref D)))[j]? = some (some (.ref C)):=ej
     rw [Ϫ hl] at ej
     cases ej;exact CD rfl
    ·have ej:(zf.σ.set i (some (.ref D)))[j]? = some (some (.ref C)):=ej
     rw [Φ (Ϥ q)] at ej
     have mj:j∈i :: zf.t.ow.filter (· != i):=mj
     rcases ς.mp mj with w | w
     ·exact q w
     ·exact nC.2.2 ⟨j,(ϕ.mp w).1,ej⟩) k ⟨rfl,rfl⟩
   refine nxt (z1:=Z.up { zf with t:=stV zf.t i d true,σ:=zf.σ.set i (some (.ref D)),s:=s' } { s' with heap:=h' }) ⟨S4,g'.ow⟩ I4 ?_
   show Out.go (X.ev false (.lc t one it elt cond) z.t) _=_
   rw [e]
   show ak.nx (kU zf.t i d true)=_
   have ld:vC d=true:=by
    obtain ⟨_,_,_,_,t,_⟩:=fv
    cases d <;> first | rfl | cases t
   unfold kU
   rw [ld];rfl
end
theorem pn {kp:List Nat} {env:List (Option D)} {i:Nat} {d:D}:(pk kp env)[i]? = some (some d)↔i ∉ kp∧env[i]? = some (some d):=by
 unfold pk
 rw [List.getElem?_mapIdx]
 by_cases c:i∈kp
 ·simp [c]
 ·simp [c]
theorem iA {kp:List Nat} {s:Sta} {i:Nat}:i∈(hid kp s).ow↔i∈s.ow∧i ∉ kp:=by
 unfold hid
 simp
section
variable {X:Cx} {z z':Z} {kp:List Nat}
theorem Rep.hid (I:Rep X z):Rep X { z with t:=L2.Ev.hid kp z.t }:=by
 refine ⟨⟨I.md,I.fm,I.hd,I.bs,I.gh,I.rl,I.rn,I.rg,I.ob,I.fu,I.ff,I.br,I.os⟩,I.ok,I.lo,I.ce,I.fl,?_,I.sl,fun i d n e=>?_,fun i m=>?_,fun i j a m1 m2 e1 e2=>I.od i j a (iA.mp m1).1 (iA.mp m2).1 e1 e2⟩
 ·show (pk kp z.t.env).length=_
  unfold pk
  rw [List.length_mapIdx];exact I.el
 ·obtain ⟨h1,h2⟩:=pn.mp e
  exact I.en i d (fun m=>n (iA.mpr ⟨m,h1⟩)) h2
 ·obtain ⟨m1,m2⟩:=iA.mp m
  obtain ⟨d,a,o,h1,h2,h3,h4,h5⟩:=I.eo i m1
  exact ⟨d,a,o,pn.mpr ⟨m2,h1⟩,h2,h3,h4,h5⟩
end
section
variable {X:Cx} {z z0:Z}
theorem Rep.frz {P:Ε→Prop} [DecidablePred P] (I:Rep X z) (h:∀ a,P a→(Fre X z a∧¬ Own z a)∧∃ o,z.h a=some o):Rep X { z with G:=fun a=>if P a then z.h a else z.G a }∧Sub z.G (fun a=>if P a then z.h a else z.G a):=by
 have no:∀ {a o},z.G a=some o→¬ P a:=fun e p=>by rw [(h _ p).1.1.1] at e;cases e
 have sb:Sub z.G (fun a=>if P a then z.h a else z.G a):=fun a o e=>by show (if P a then z.h a else z.G a)=_;rw [ZY (no e)];exact e
 have nn:∀ {a},¬ P a→z.G a=none→(if P a then z.h a else z.G a)=none:=fun n e=>by rw [ZY n];exact e
 refine ⟨⟨⟨I.md,I.fm,I.hd,fun b o e=>sb b o (I.bs b o e),fun a o e=>?_,I.rl,I.rn,fun a m=>nn (fun p=>(h a p).1.1.2.1 m) (I.rg a m),fun n o p h1 h2=>(I.ob n o p h1 h2).mono (κ _) sb fun _ _ _ e=>e,I.fu,fun b m=>⟨nn (fun p=>(h b p).1.1.2.2.1 m) (I.ff b m).1,(I.ff b m).2⟩,I.br,I.os⟩,I.ok,I.lo,I.ce,fun a l=>⟨nn (fun p=>(h a p).1.1.2.2.2 l) (I.fl a l).1,(I.fl a l).2⟩,I.el,I.sl,fun i d n e=>let ⟨u,q,r⟩:=I.en i d n e;⟨u,q,r.mono (κ _) sb⟩,fun i m=>?_,I.od⟩,sb⟩
 ·have e:(if P a then z.h a else z.G a)=some o:=e
  by_cases p:P a
  ·rw [ZZ p] at e;exact e
  ·rw [ZY p] at e;exact I.gh a o e
 ·obtain ⟨d,a,o,h1,h2,h3,r,f⟩:=I.eo i m
  exact ⟨d,a,o,h1,h2,h3,r.mono (κ _) sb fun _ _ _ e=>e,nn (fun p=>(h a p).1.2 ⟨i,m,h2⟩) f.1,f.2⟩
theorem ph {x:ι} {own:Bool} {R:Z→D→ζ→Prop} (F:bz X X.cal lv j f) (hr:aT lv X.A) (hg:Gl X x) (hm:X.mg x=some (.ref f)) (ha:LA X (ea :: er) es) (hd:(x == ("__debug__":ι))=false) (he:Α (ea :: er) X.env=(false,eval ea X.env) :: Α er X.env) (hpl:(ϲ pos (Α er X.env)).any (·.1)=false) (I:Rep X z) (nb:X.ev false (.fcall own j es) z.t≠.bad)
 (fin:∀ z1 z' d u d',Ee X z z1→Rep X z1→Stp X.fr NoW z1.bare z'→HR X z'→RD X.W z'.ρ z'.G d u→ng z'.t.st d=some d'→(own && !jB d)=false→X.ev false (.fcall own j es) z.t = .ok d' z1.t→Pe X z (X.ev false (.fcall own j es) z.t) R u z'.s):Wp X (eval (.Call (.Name x p) (ea :: er) [] pos) X.env) z (X.ev false (.fcall own j es) z.t) R:=
 Ê (aW I hg hm (Ą (h₀:=X.base) I.md.kin (let ⟨_,_,_,_,k⟩:=F;k) ((ha false pos).go .refl I rfl nb fun z1 l us y1 x1 I1 r1 e1=>⟨I1.toHR.kin,by
  obtain ⟨fd,ps,F,hb,kp⟩:=F
  unfold rP at e1
  by_cases nr:az l=true
  ·rw [ZZ nr] at e1
   have nbc:X.cal j l []≠.bad:=fun q=>by rw [q] at e1;exact nb e1
   have rd:RDs X.W z1.bare.ρ z1.bare.G l us:=aR nr r1.rds
   have hl:us.length=ps.length:=rd.len ▸ F.len _ _ nbc
   have bd:=hb z1.s us I1.toHR.kin (by rw [ώ];exact hl)
   rw [ώ] at bd
   refine Ă (â (F.run X.A X.fr z1.bare ⟨us,[]⟩ us l hr I1.toHR.bare bd rd nbc) fun q s' hq=>?_)
   cases q with
   | error e=>
     obtain ⟨z',c,l',rfl,er,S,H,a,T,cls,dx,rfl,xr',tr,⟨na,ga,ma⟩,nT,gT,mT⟩:=hq
     rw [show X.cal j l []=_ from er] at e1
     obtain ⟨If,xf⟩:=I1.hout S H
     by_cases n2:az l'=true
     ·have e1:=e1.trans (ZZ n2)
      have nob:∀ {b:Ε},z1.h b=none→z'.G b=none→Nob X z1 { z1 with G:=z'.G,s:=z'.s } b:=fun {b} n g=>by
       have ⟨f,no⟩:=I1.fre n
       exact ⟨n,⟨g,f.2⟩,no⟩
      refine Px.less x1 ⟨{ z1 with G:=z'.G,s:=z'.s },c,l',rfl,e1,xf,If,a,cls,dx,rfl,?_,nob na ga,.inr ⟨T,.none,tr,.inl rfl,nob nT gT⟩⟩
      obtain ⟨i,a1,a2,a3,a4,a5⟩:=xr'
      exact ⟨i,a1,a2,a3,a4,a5.imp_right fun ⟨d,od,vs,b1,b2,b3,b4⟩=>⟨d,od,vs,b1,b2,b3,aR n2 b4⟩⟩
     ·exact ZX (e1.trans (ZY n2)) nb
   | ok fl=>
     cases fl with
     | ret u=>
       obtain ⟨z',d,rfl,er,S,H,r⟩:=hq
       rw [show X.cal j l []=_ from er] at e1
       dsimp only at e1
       by_cases n2:(own && !jB d)=true
       ·rw [ZZ n2] at e1;exact ZX e1 nb
       ·rw [ZY n2] at e1
        cases q:ng z'.t.st d with
        | none=>rw [q] at e1;exact ZX e1 nb
        | some d'=>rw [q] at e1;exact fin z1 z' d u d' x1 I1 S H r q (by simpa using n2) e1
     | next=>exact hq.elim
     | brk=>exact hq.elim
     | cont=>exact hq.elim
  ·rw [ZY nr] at e1;exact ZX e1 nb⟩) he hpl) hd)
theorem lC {d d':D} {u:ζ} {ρ0:Rs} {G2:Hp} (H:HR X z) (r:RD X.W z.ρ z.G d u) (e:rQ z.t.st d=some d') (g:Sub z.G G2) (k:∀ a,Mu z.ρ a→G2 a=z.h a):RD X.W ρ0 G2 d' u:=by
 have rest:(if noR d=true then some d else none)=some d'→RD X.W ρ0 G2 d' u:=fun e=>by
  by_cases n:noR d=true
  ·rw [ZZ n] at e;cases e;exact (kR n r:RD X.W ρ0 z.G d u).mono (κ _) g
  ·rw [ZY n] at e;cases e
 cases d with
 | ref n=>
   obtain ⟨p,ep,rfl⟩:=r
   have mu:Mu z.ρ p.1:=⟨p,Ζ ep,.inl rfl⟩
   have e:(match z.t.st[n]? with | some (.lst l)=>if az l then some (D.lst l) else none | some (.dic k l)=>if az l then some (.dic k l) else none | _=>none)=some d':=e
   cases q:z.t.st[n]? with
   | none=>rw [q] at e;cases e
   | some o=>
     have ob:=H.ob n o p q ep
     rw [q] at e
     cases o with
     | lst l=>
       obtain ⟨o,vs,_,h1,h2,h3⟩:=ob
       have e:(if az l=true then some (D.lst l) else none)=some d':=e
       by_cases n:az l=true
       ·rw [ZZ n] at e;cases e;exact ⟨p.1,o,vs,rfl,(k _ mu).trans h1,h2,(aR n h3:RDs X.W ρ0 z.G l vs).mono (κ _) g⟩
       ·rw [ZY n] at e;cases e
     | dic ks l=>
       obtain ⟨o,vs,_,m,h1,h2,h4,h3⟩:=ob
       have e:(if az l=true then some (D.dic ks l) else none)=some d':=e
       by_cases n:az l=true
       ·rw [ZZ n] at e;cases e;exact ⟨p.1,o,vs,rfl,m,(k _ mu).trans h1,h2,h4,(aR n h3:RDs X.W ρ0 z.G l vs).mono (κ _) g⟩
       ·rw [ZY n] at e;cases e
     | ins c l=>cases e
 | _=>exact rest e
theorem lD {ρ0:Rs} {G2:Hp} (H:HR X z) (g:Sub z.G G2) (k:∀ a,Mu z.ρ a→G2 a=z.h a):∀ {l l':List D} {us:List ζ},RDs X.W z.ρ z.G l us→o7 z.t.st l=some l'→RDs X.W ρ0 G2 l' us
 | [],l',us,r,e=>by cases e;exact r
 | d :: l,l',us,⟨u,us',e1,h1,h2⟩,e=>by
   obtain ⟨d',e2,e3⟩:=ϋ.mp (show (rQ z.t.st d).bind (fun e=>(o7 z.t.st l).map (e :: ·))=some l' from e)
   obtain ⟨l2,e4,e5⟩:=π.mp e3
   subst e1 e5
   exact .cons (lC H h1 e2 g k) (lD H g k h2 e4)
theorem rR {d d':D} {u:ζ} {ρ0:Rs} {G2:Hp} (H:HR X z) (r:RD X.W z.ρ z.G d u) (e:ng z.t.st d=some d') (g:Sub z.G G2) (k:∀ a,Mu z.ρ a→G2 a=z.h a):RD X.W ρ0 G2 d' u:=by
 cases d with
 | tup l=>
   obtain ⟨l',e1,rfl⟩:=π.mp (show (o7 z.t.st l).map D.tup=some d' from e)
   obtain ⟨a,o,vs,h1,h2,h3,h4⟩:=r
   exact ⟨a,o,vs,h1,g _ _ h2,h3,lD H g k h4 e1⟩
 | _=>exact lC H r e g k
theorem pS {x:ι} (F:bz X X.cal lv j f) (hr:aT lv X.A) (hg:Gl X x) (hm:X.mg x=some (.ref f)) (ha:LA X (ea :: er) es) (hd:(x == ("__debug__":ι))=false) (he:Α (ea :: er) X.env=(false,eval ea X.env) :: Α er X.env) (hpl:(ϲ pos (Α er X.env)).any (·.1)=false):LE X (.Call (.Name x p) (ea :: er) [] pos) (.fcall false j es):=fun br z I nb=>ph F hr hg hm ha hd he hpl I nb fun z1 z' d u d' x1 I1 S H r e _ e1=>by
 classical
 have new:∀ a,Mu z'.ρ a→z1.h a=none:=fun a m=>(S.rn a m).elim (fun m=>(dU m).elim) id
 obtain ⟨If,xf⟩:=I1.hout S H
 obtain ⟨I2,sb⟩:=If.frz (P:=fun a=>Mu z'.ρ a) fun a m=>⟨let ⟨f,no⟩:=I1.fre (new a m);⟨⟨H.rg a m,f.2⟩,no⟩,H.th m⟩
 refine Pe.less x1 ⟨{ z1 with G:=fun a=>if Mu z'.ρ a then z'.h a else z'.G a,s:=z'.s },d',rfl,e1,⟨⟨κ _,xf.st.gg.trans sb,fun a o q=>?_,fun _ m=>.inl m,xf.st.th,xf.st.sm,xf.st.sl⟩,rfl,rfl,fun _ h=>h⟩,I2,.of (rR H r e sb fun a m=>ZZ m)⟩
 have q:(if Mu z'.ρ a then z'.h a else z'.G a)=some o:=q
 by_cases m:Mu z'.ρ a
 ·exact .inr (.inl (new a m))
 ·rw [ZY m] at q;exact xf.st.gn a o q
theorem pX {x:ι} (F:bz X X.cal lv j f) (hr:aT lv X.A) (hg:Gl X x) (hm:X.mg x=some (.ref f)) (ha:LA X (ea :: er) es) (hd:(x == ("__debug__":ι))=false) (he:Α (ea :: er) X.env=(false,eval ea X.env) :: Α er X.env) (hpl:(ϲ pos (Α er X.env)).any (·.1)=false):LF X (.Call (.Name x p) (ea :: er) [] pos) (.fcall true j es):=fun z I nb=>ph F hr hg hm ha hd he hpl I nb fun z1 z' d u d' x1 I1 S H r e c e1=>by
 have new:∀ a,Mu z'.ρ a→z1.h a=none:=fun a m=>(S.rn a m).elim (fun m=>(dU m).elim) id
 obtain ⟨If,xf⟩:=I1.hout S H
 cases d with
 | ref n=>
   obtain ⟨p,ep,rfl⟩:=r
   have mu:Mu z'.ρ p.1:=⟨p,Ζ ep,.inl rfl⟩
   have nn:=new _ mu
   have ⟨f,no⟩:=I1.fre nn
   have e:(match z'.t.st[n]? with | some (.lst l)=>if az l then some (D.lst l) else none | some (.dic k l)=>if az l then some (.dic k l) else none | _=>none)=some d':=e
   cases q:z'.t.st[n]? with
   | none=>rw [q] at e;cases e
   | some o=>
     have ob:=H.ob n o p q ep
     rw [q] at e
     cases o with
     | lst l=>
       obtain ⟨o,vs,h0,h1,h2,h3⟩:=ob
       have e:(if az l=true then some (D.lst l) else none)=some d':=e
       by_cases n:az l=true
       ·rw [ZZ n] at e;cases e
        exact Pe.less x1 ⟨{ z1 with G:=z'.G,s:=z'.s },.lst l,rfl,e1,xf,If,p.1,.lst l,rfl,x1.st.no nn,rfl,⟨o,vs,rfl,h1,h2,aR n h3⟩,⟨H.rg _ mu,f.2⟩,no⟩
       ·rw [ZY n] at e;cases e
     | dic ks l=>
       obtain ⟨o,vs,h0,m,h1,h2,h4,h3⟩:=ob
       have e:(if az l=true then some (D.dic ks l) else none)=some d':=e
       by_cases n:az l=true
       ·rw [ZZ n] at e;cases e
        exact Pe.less x1 ⟨{ z1 with G:=z'.G,s:=z'.s },.dic ks l,rfl,e1,xf,If,p.1,.dic ks l,rfl,x1.st.no nn,rfl,⟨o,vs,rfl,m,h1,h2,h4,aR n h3⟩,⟨H.rg _ mu,f.2⟩,no⟩
       ·rw [ZY n] at e;cases e
     | ins c l=>cases e
 | _=>cases c
end
structure Wr (S ch:List Ε) (h h':ϯ):Prop where
 keep:∀ b o,h.get? b=some o→b ∉ S→b ∉ ch→h'.get? b=some o
 slot:∀ b o,h.get? b=some o→b ∉ ch→∃ sl,h'.get? b=some { o with slots:=sl }
 there:∀ b o,h.get? b=some o→∃ o',h'.get? b=some o'
section
variable {S ch ch':List Ε} {h h1 h2 h':ϯ}
theorem Wr.trans (x:Wr S ch h h1) (y:Wr S ch h1 h2):Wr S ch h h2:=
 ⟨fun b o e n m=>y.keep b o (x.keep b o e n m) n m,fun b o e m=>let ⟨_,e1⟩:=x.slot b o e m;let ⟨sl,e2⟩:=y.slot b _ e1 m;⟨sl,e2⟩,fun b o e=>let ⟨_,e1⟩:=x.there b o e;y.there b _ e1⟩
theorem Wr.mono (x:Wr S ch h h') (k:∀ b∈ch,b∈ch'):Wr S ch' h h':=⟨fun b o e n m=>x.keep b o e n fun z=>m (k b z),fun b o e m=>x.slot b o e fun z=>m (k b z),x.there⟩
theorem Wr.kept (k:∀ b o,h.get? b=some o→h'.get? b=some o):Wr S ch h h':=⟨fun b o e _ _=>k b o e,fun b o e _=>⟨o.slots,k b o e⟩,fun b o e=>⟨o,k b o e⟩⟩
theorem Wr.set (ho:h.get? a=some o) (hd:o.data = .fields vs) (g:Array ζ→Array ζ):Wr S [a] h (h.update a (Ě g)):=by
 have ot:∀ b,b≠a→(h.update a (Ě g)).get? b=h.get? b:=fun b n=>ϗ h _ fun z=>n z.symm
 have nm:∀ b,b ∉ [a]→b≠a:=fun b m z=>m (by rw [z];exact μ)
 refine ⟨fun b u e _ m=>by rw [ot b (nm b m)];exact e,fun b u e m=>⟨u.slots,by rw [ot b (nm b m)];exact e⟩,fun b u e=>?_⟩
 by_cases z:b=a
 ·subst z
  exact ⟨_,ϥ _ ho (õ (í hd g))⟩
 ·exact ⟨u,by rw [ot b z];exact e⟩
theorem Wr.slots (x:Heap.SlotsOnly S h h'):Wr S ch h h':=⟨fun b o e n _=>(x.2.1 b n).trans e,fun b o e _=>x.2.2 b o e,fun b o e=>let ⟨_,q⟩:=x.2.2 b o e;⟨_,q⟩⟩
end
theorem fB (g:Array ζ→Array ζ) (o):(Ě g o).dict=o.dict:=by
 obtain ⟨c,d,dt,sl⟩:=o
 cases dt <;> rfl
section
variable {M:C1} {A:ϑ} {E:ζ→ξ→Prop} {s:ξ} {a T L:Ε} {cls fl:ζ} {dx:Option Ε} {Q:Unit→ξ→Prop} {base:ϯ} {env:AK} {outer:List AK} {S:List Ε}
theorem kW (t:Tr s.heap a cls dx T fl) (hQ:∀ h',Tr h' a cls dx T (fr.elim .none fun f=>Ì f)→Wr S [T] s.heap h'→Q () { s with heap:=h' }):χ M A (Cq (.ref a) fr) Q E s:=by
 obtain ⟨oe,vs,oT,ts,he,hc,hd,h1,ne,hT,hdT,h3⟩:=t
 have z3:=(ú.mp h3).1
 unfold Cq
 refine ε (ϙ he hd h1 ?_)
 rw [ZZ (show (ϡ T != Ϙ)=true by simp)]
 refine ē hT hdT z3 (hQ _ ?_ (Wr.set hT hdT _))
 have dT:=í hdT (·.setIfInBounds 3 (fr.elim Ϙ fun f=>Ì f))
 exact ⟨oe,vs,_,_,(ϗ _ _ ne).trans he,hc,hd,h1,ne,ϥ _ hT (õ dT),dT,by simp [z3]⟩
theorem entry (hfr:A.frames=some (env :: outer)) (hl:s.heap.FunFrames base (env :: outer)) (hf:env.frame=some L) (he:s.heap.get? a=some oe) (hd:oe.data = .fields vs) (hz:1<vs.size)
 (hQ:∀ h' T,s.heap.get? T=none→Tr h' a oe.cls oe.dict T (Ì L)→Wr (frs (env :: outer)) [a] s.heap h'→Q () { s with heap:=h' }) :
 χ M A (do let x ← frameOf env;let pl ← entryPlaceOf L hn;let b ← BC head x .none (Ì L) .none pl;setField (.ref a) 1 b) Q E s:=by
 have na:a ∉ (env :: outer).filterMap (·.frame):=fun m=>by
  obtain ⟨_,o,ho,nf⟩:=hl.mem m
  rw [he] at ho
  cases ho
  exact nf vs hd
 refine ε (wpAny_frameOf_fun hfr hl hf fun g hg=>ε (wpAny_entryPlaceOf fun pl hp=>?_))
 unfold BC newFields;refine ε (Â ?_ (IsPlace.sizeOk5 hp _ _ _ _ _))
 have ea:g.get? a=some oe:=(hg.2.1 a na).trans he
 generalize hu:([head,ϡ L,Ϙ,Ì L,Ϙ] ++ (if pl.isEmpty then Δ 6 Ϙ else pl)).toArray=us
 have u3:us[3]? = some (Ì L):=by rw [← hu];rfl
 have ea2:=υ (h:=g) { cls:=.type "traceback",dict:=none,data:=.fields us } ea
 have nT:g.objs.size≠a:=î (Χ ea)
 refine ē ea2 hd hz (hQ _ g.objs.size ?_ ?_ ?_)
 ·rw [hg.1];exact ϣ (Ο _)
 ·have da:=í hd (·.setIfInBounds 1 (ϡ g.objs.size))
  exact ⟨_,_,_,us,ϥ _ ea2 (õ da),⟨AH _ _,fB _ _⟩,da,by simp [hz],nT,(ϗ _ _ (Ϥ nT)).trans (ψ g rfl),rfl,u3⟩
 ·exact (Wr.slots (ch:=[a]) hg).trans ((Wr.kept fun b o e=>υ _ e).trans (Wr.set ea2 hd _))
theorem qz (hfr:A.frames=some (env :: outer)) (hl:s.heap.FunFrames base (env :: outer)) (hf:env.frame=some L) (x:Rw s.heap a cls dx)
 (hQ:∀ h' T,s.heap.get? T=none→Tr h' a cls dx T (Ì L)→Wr (frs (env :: outer)) [a] s.heap h'→Q () { s with heap:=h' }):χ M A (İ (.ref a) env) Q E s:=by
 obtain ⟨oe,vs,he,⟨rfl,rfl⟩,hd,h1⟩:=x
 unfold İ
 simp only [hf]
 refine ε (ϙ he hd h1 ?_)
 rw [ZY (by decide)]
 exact entry hfr hl hf he hd (ú.mp h1).1 hQ
theorem nK (hfr:A.frames=some (env :: outer)) (hl:s.heap.FunFrames base (env :: outer)) (hf:env.frame=some L) (x:Tr s.heap a cls dx T .none)
 (hQ:∀ h' T',s.heap.get? T'=none→Tr h' a cls dx T' (Ì L)→Wr (frs (env :: outer)) [a,T] s.heap h'→Q () { s with heap:=h' }):χ M A (İ (.ref a) env) Q E s:=by
 obtain ⟨oe,vs,oT,ts,he,⟨rfl,rfl⟩,hd,h1,ne,hT,hdT,h3⟩:=x
 unfold İ
 simp only [hf]
 refine ε (ϙ he hd h1 ?_)
 rw [ZZ (show (ϡ T != Ϙ)=true by simp)]
 refine ε (ϙ hT hdT h3 ?_)
 rw [ZY (show ¬ ((Ϙ == Ì L)=true) by simp [Ì])]
 refine ε (ē hT hdT (ú.mp h3).1 ?_)
 have w1:Wr (frs (env :: outer)) [T] s.heap _:=Wr.set hT hdT (·.setIfInBounds 3 Ϙ)
 refine entry hfr (hl.of_keeps fun b o e nf=>⟨o,?_,rfl⟩) hf ((ϗ _ _ ne).trans he) hd (ú.mp h1).1 fun h' T' n t w=>hQ h' T' ?_ t ((w1.mono (by simp)).trans (w.mono (by simp)))
 ·refine (ϗ _ _ fun z=>?_).trans e
  subst z
  rw [hT] at e
  cases e
  exact nf ts hdT
 ·cases q:s.heap.get? T' with
  | none=>rfl
  | some o=>
    obtain ⟨o',e'⟩:=w1.there T' o q
    rw [n] at e'
    cases e'
theorem nJ (hf:env.frame=some L) (x:Tr s.heap a cls dx T (Ì L)) (hQ:Q () s):χ M A (İ (.ref a) env) Q E s:=by
 obtain ⟨oe,vs,oT,ts,he,⟨rfl,rfl⟩,hd,h1,ne,hT,hdT,h3⟩:=x
 unfold İ
 simp only [hf]
 refine ε (ϙ he hd h1 ?_)
 rw [ZZ (show (ϡ T != Ϙ)=true by simp)]
 refine ε (ϙ hT hdT h3 ?_)
 rw [ZZ (show (Ì L == Ì L)=true by simp)]
 exact θ hQ
end
section
variable {X:Cx} {z z' z0 z1:Z} {M:C1} {w:Ε→Prop}
theorem o8 {h h':ϯ}:∀ {l:List AK},h.FunFrames base l→(∀ b∈frs l,∀ o,h.get? b=some o→∃ sl,h'.get? b=some { o with slots:=sl })→h'.FunFrames base l
 | [],_,_=>trivial
 | v :: r,⟨a,⟨L,o,e1,e2,e3,e4⟩,q⟩,k=>by
   have hm:L∈frs (v :: r):=by unfold frs;rw [Ϧ,e1];exact μ
   obtain ⟨sl,e5⟩:=k L hm o e3
   exact ⟨a,⟨L,_,e1,e2,e5,e4⟩,o8 q fun b hb=>k b (by unfold frs;rw [Ϧ,e1];exact ν _ hb)⟩
theorem Rep.wr {h':ϯ} {ch:List Ε} {t:Nat} (I:Rep X z) (y:Wr (frs X.fr) ch z.s.heap h') (hc:∀ b∈ch,Fre X z b∧¬ Own z b):Rep X { z with s:={ z.s with heap:=h',toks:=t } }:=by
 have nG:∀ {b o},z.G b=some o→z.h b=some o→h'.get? b=some o:=fun e e'=>y.keep _ _ e' (fun m=>by rw [(I.ff _ m).1] at e;cases e) fun m=>by rw [(hc _ m).1.1] at e;cases e
 have sl:∀ b,Lc X b→∀ o,z.s.heap.get? b=some o→∃ sl,h'.get? b=some { o with slots:=sl }:=fun b l o e=>y.slot b o e fun m=>(hc b m).1.2.2.2 l
 have ck:∀ x c v,X.env.cells.lookup x=some c→z.s.heap.IsCell c v→h'.IsCell c v:=fun x c v e ⟨o,q,d⟩=>let ⟨_,q2⟩:=sl c (.inr ⟨x,e⟩) o q;⟨_,q2,d⟩
 refine ⟨⟨I.md,I.fm,I.hd,I.bs,fun b o e=>nG e (I.gh b o e),I.rl,I.rn,I.rg,fun n o p h1 h2=>(I.ob n o p h1 h2).mono (κ _) (.refl _) fun b hb o e=>?_,o8 I.fu fun b hb o e=>y.slot b o e fun m=>(hc b m).1.2.2.1 hb,I.ff,I.br,I.os⟩,I.ok,?_,fun x c e=>let ⟨v,q⟩:=I.ce x c e;⟨v,ck x c v e q⟩,I.fl,I.el,I.sl,I.en,fun i m=>?_,I.od⟩
 ·have mu:Mu z.ρ b:=⟨p,Ζ h2,hb⟩
  exact y.keep b o e (fun m=>(I.ff b m).2 mu) fun m=>(hc b m).1.2.1 mu
 ·obtain ⟨m,⟨oL,es,ep,q,r⟩,hl⟩:=I.lo
  obtain ⟨_,q2⟩:=sl _ (.inl rfl) _ q
  exact ⟨m,⟨_,es,ep,q2,r⟩,fun j x w e1 e2 e3=>cP (fun c v e q=>ck x c v e q) (hl j x w e1 e2 e3)⟩
 ·obtain ⟨d,a,o,h1,h2,h3,r,f⟩:=I.eo i m
  exact ⟨d,a,o,h1,h2,h3,r.mono (κ _) (.refl _) fun b hb o e=>y.keep b o e (by rcases hb with rfl | rfl <;> exact f.2.2.1) fun mm=>(hc b mm).2 (by rcases hb with rfl | rfl <;> exact ⟨i,m,h2⟩),f⟩
theorem Stp.wr {h':ϯ} {ch:List Ε} {t:Nat} (x:Stp fr w z0 z) (y:Wr (frs fr) ch z.s.heap h') (hc:∀ b∈ch,z0.h b=none):Stp fr w z0 { z with s:={ z.s with heap:=h',toks:=t } }:=by
 have nc:∀ {b o},z0.h b=some o→b ∉ ch:=fun e m=>by rw [hc _ m] at e;cases e
 refine ⟨x.pr,x.gg,x.gn,x.rn,fun a o e=>let ⟨o',e'⟩:=x.th a o e;y.there a o' e',fun a o e n m f=>y.keep a o (x.sm a o e n m f) f (nc e),fun a o e n m f=>?_⟩
 obtain ⟨sl,e1⟩:=x.sl a o e n m f
 obtain ⟨sl2,e2⟩:=y.slot a _ e1 (nc e)
 exact ⟨sl2,e2⟩
structure kb (X:Cx):Prop where
 fr:∃ outer,X.fr=X.env :: outer
 frame:X.env.frame=some X.env.locals
def XN (X:Cx) (w:Ε→Prop) (z z':Z) (c:Nat) (l:List D) (e:ζ) (fl:ζ):Prop:=∃ a T cls dx,e = .ref a∧Stp X.fr w z z'∧Rep X z'∧XR X.W z' c l cls dx∧Nob X z z' a∧Tr z'.s.heap a cls dx T fl∧Nob X z z' T
theorem XN.wr {h':ϯ} {ch:List Ε} {a T:Ε} {fl:ζ} (x:Stp X.fr w z z') (I:Rep X z') (r:XR X.W z' c l cls dx) (na:Nob X z z' a) (nT:Nob X z z' T) (y:Wr (frs X.fr) ch z'.s.heap h') (hc:∀ b∈ch,Nob X z z' b) (t:Tr h' a cls dx T fl):XN X w z { z' with s:={ z'.s with heap:=h' } } c l (.ref a) fl:=
 ⟨a,T,cls,dx,rfl,x.wr (t:=z'.s.toks) y fun b hb=>(hc b hb).1,I.wr (t:=z'.s.toks) y fun b hb=>(hc b hb).2,r,na,t,nT⟩
theorem je {Q:Unit→ξ→Prop} {E:ζ→ξ→Prop} (F:kb X) (x:Stp X.fr w z z') (I:Rep X z') (h:XO X z z' c l e) (hQ:∀ h',XN X w z { z' with s:={ z'.s with heap:=h' } } c l e (Ì X.env.locals)→Q () { z'.s with heap:=h' }):χ M X.A (İ e X.env) Q E z'.s:=by
 obtain ⟨outer,hfr⟩:=F.fr
 have fm:=I.fm
 have fu:=I.fu
 rw [hfr] at fm fu
 obtain ⟨a,cls,dx,rfl,r,na,t⟩:=h
 have new:∀ T,z'.h T=none→Nob X z z' T:=fun T n=>⟨x.no n,I.fre n⟩
 rcases t with t | ⟨T,fl,t,hfl,nT⟩
 ·refine qz fm fu F.frame t fun h' T n t' y=>hQ h' (.wr x I r na (new T n) (by rw [hfr];exact y) (fun b hb=>?_) t')
  rw [η.mp hb];exact na
 ·rcases hfl with rfl | rfl
  ·refine nK fm fu F.frame t fun h' T' n t' y=>hQ h' (.wr x I r na (new T' n) (by rw [hfr];exact y) (fun b hb=>?_) t')
   rcases ς.mp hb with q | q
   ·rw [q];exact na
   ·rw [η.mp q];exact nT
  ·exact nJ F.frame t (hQ z'.s.heap ⟨a,T,cls,dx,rfl,x,I,r,na,t,nT⟩)
theorem bR {fl:ζ} {fr:Option Ε} {Q:Unit→ξ→Prop} {E:ζ→ξ→Prop} {A:ϑ} (h:XN X w z z' c l e fl) (hQ:∀ h',XN X w z { z' with s:={ z'.s with heap:=h' } } c l e (fr.elim .none fun f=>Ì f)→Q () { z'.s with heap:=h' }):χ M A (Cq e fr) Q E z'.s:=by
 obtain ⟨a,T,cls,dx,rfl,x,I,r,na,t,nT⟩:=h
 exact kW (S:=frs X.fr) t fun h' t' y=>hQ h' (.wr x I r na nT y (fun b hb=>by rw [η.mp hb];exact nT) t')
theorem ml (F:kb X):DZ M X.A X.env (PxS X z o):=fun e s' ⟨z',c,l,q,q2,x,I,h⟩=>by
 subst q
 unfold notedBy
 refine je F x.st I h fun h' hn=>?_
 obtain ⟨a,T,cls,dx,e1,_,_,_,_,t,_⟩:=id hn
 subst e1
 unfold cameBackBy
 obtain ⟨oe,vs,oT,ts,he,hc,hd,h1,r⟩:=id t
 refine ε (ϙ he hd h1 ?_)
 rw [ZY (show ¬ ((ϡ T == Ϙ)=true) by simp),F.frame]
 refine bR (z':={ z' with s:={ z'.s with heap:=h' } }) (fr:=some X.env.locals) hn fun h2 hn2=>?_
 obtain ⟨a',T',cls',dx',e1,x2,I2,r2,na2,t2,nT2⟩:=hn2
 exact ⟨{ z' with s:={ z'.s with heap:=h2 } },c,l,rfl,q2,⟨x2,x.ow⟩,I2,a',cls',dx',e1,r2,na2,.inr ⟨T',_,t2,.inr rfl,nT2⟩⟩
theorem nR {E:ζ→ξ→Prop} {Q:ζ→ξ→Prop} (F:kb X) (h:PxS X z o e s') (q:∀ z' c l a T cls dx,o = .exc c l z'.t→e = .ref a→Stp X.fr (Pv X z) z z'→Rep X z'→XR X.W z' c l cls dx→Nob X z z' a→Tr z'.s.heap a cls dx T .none→Nob X z z' T→Q e z'.s):χ M X.A (leaving X.env e) (fun _ s''=>Q e s'') E s':=by
 obtain ⟨z',c,l,e1,q2,x,I,h⟩:=h
 subst e1
 unfold leaving
 refine ε (je F x.st I h fun h' hn=>bR (z':={ z' with s:={ z'.s with heap:=h' } }) (fr:=none) hn fun h2 hn2=>?_)
 obtain ⟨a,T,cls,dx,e1,x2,I2,r2,na2,t2,nT2⟩:=hn2
 exact q { z' with s:={ z'.s with heap:=h2 } } c l a T cls dx q2 e1 x2 I2 r2 na2 t2 nT2
end
def cxF (X:Cx) (cal cal1:Nat→List D→List O→Res) (N:List ι) (qual:ι) (scope:Ė) (f:Ε) (cd:ζ) (A:ϑ) (fr:List AK) (L:Ε):Cx:=
 { X with A:=A.deeper (š qual scope L f cd),fr:=š qual scope L f cd :: fr,N:=N,env:=š qual scope L f cd,cal:=cal,cal1:=cal1 }
section
variable {X:Cx} {cal cal1:Nat→List D→List O→Res} {N ps:List ι} {qual:ι} {scope:Ė} {f:Ε} {cd:ζ} {A:ϑ} {fr:List AK} {z z':Z} {k:Nat}
theorem nW {α β:Type} {ds:List α} {n i:Nat} {d:α} (h:(ds.map some ++ Δ n none)[i]? = some (some d)):ds[i]? = some d:=by
 by_cases hi:i<ds.length
 ·rw [Ψ (by simpa using hi),Ω] at h
  cases e:ds[i]? with
  | none=>rw [e] at h;cases h
  | some a=>rw [e] at h;cases h;rfl
 ·rw [Ρ (by simpa using hi),ä] at h
  split at h <;> cases h
theorem d5 {α:Type} {ds:List α} {n i:Nat} {d:α} (h:ds[i]? = some d):(ds.map some ++ Δ n none)[i]? = some (some d):=by
 have hi:=(ο.mp h).1
 rw [Ψ (by simpa using hi),Ω,h];rfl
theorem kX {es:List (Option D)} {n i:Nat} {d:D} (h:(es ++ Δ n none)[i]? = some (some d)):es[i]? = some (some d):=by
 by_cases hi:i<es.length
 ·rwa [Ψ hi] at h
 ·rw [Ρ (by omega),ä] at h
  split at h <;> cases h
theorem ie {s1:ξ} {es:List (Option D)} {us:List ζ} (S:cW N ps scope) (I:HR { X with A:=A,fr:=fr } z) (hr:aT (k+1) A) (hl:us.length=ps.length) (le:es.length=us.length) (r:∀ (i:Nat) (d:D),es[i]? = some (some d)→∃ v,us[i]? = some v∧RD X.W z.ρ z.G d v)
 (x:InCallC z.s z.s.heap.objs.size (Cs (š qual scope z.s.heap.objs.size f cd).kindOf (ps.zip us) fun _=>none) (Cr (z.s.heap.objs.size+1) scope.names []) (Ct (š qual scope z.s.heap.objs.size f cd).kindOf (ps.zip us) fun _=>none) s1) :
 Rep (cxF X cal cal1 N qual scope f cd A fr z.s.heap.objs.size) ⟨z.ρ,z.G,⟨es ++ Δ (N.length - ps.length) none,[],z.t.st⟩,us.map some ++ Δ (N.length - ps.length) none,s1⟩:=by
 have hpl:ps.length≤N.length:=by have:=ZS C7 S.pre;rw [AP] at this;omega
 obtain ⟨h1,tk,rfl,hk⟩:=x.done
 have aS:∀ {c:Ε},z.s.heap.objs.size≤c→z.G c=none∧¬ Mu z.ρ c:=fun {c} h=>by
  have n:z.h c=none:=ϣ h
  refine ⟨?_,fun m=>by obtain ⟨o,e⟩:=I.th m;rw [n] at e;cases e⟩
  cases q:z.G c with
  | none=>rfl
  | some o=>have:=I.gh c o q;rw [n] at this;cases this
 have lcf:∀ {a},Lc (cxF X cal cal1 N qual scope f cd A fr z.s.heap.objs.size) a→z.s.heap.objs.size≤a:=fun h=>by
  rcases h with rfl | ⟨y,e⟩
  ·exact Ο _
  ·exact đ (x.above y _ (ϸ e))
 have bn:X.base.get? z.s.heap.objs.size=none:=by
  cases q:X.base.get? z.s.heap.objs.size with
  | none=>rfl
  | some o=>have:=I.gh _ o (I.bs _ o q);rw [show z.h z.s.heap.objs.size=none from ϣ (Ο _)] at this;cases this
 obtain ⟨oL,esL,epL,hoL,hdL,_⟩:=id x.toInCall.ns
 have gr:Gr z.s { z.s with heap:=h1,toks:=tk }:=.hp hk
 have G:=I.grow (aw I.gh gr)
 refine ⟨⟨I.md,Around.frames_deeper I.fm,I.hd,I.bs,G.gh,I.rl,I.rn,I.rg,G.ob,?_,fun b hb=>?_,I.br,I.os⟩,⟨by have:=(hr.deeper (š qual scope z.s.heap.objs.size f cd)).un;show (A.deeper _).units+200<_;omega,S.kind,rfl,rfl,fun y w c e1 e2=>name_of_addr x.apart (ϸ e1) (ϸ e2),fun y hy=>?_⟩,⟨_,x.toInCall.ns,fun i y v e1 e2 e3=>?_⟩,fun y c h=>⟨_,x.cell y c h⟩,fun a l=>aS (lcf l),by show (es ++ _).length=(us.map some ++ _).length;simp [le],by show (us.map some ++ _).length=N.length;rw [ω,Η,Ó];omega,fun i d _ e=>?_,(fun i m=>nomatch m),(fun i j a m=>nomatch m)⟩
 ·have kd:(š qual scope z.s.heap.objs.size f cd).scope.kind≠ScopeKind.module:=by show scope.kind≠_;rw [S.kind];decide
  exact ⟨kd,⟨_,oL,rfl,bn,hoL,fun vs e=>by rw [hdL] at e;cases e⟩,G.fu⟩
 ·rcases ς.mp (show b∈z.s.heap.objs.size :: frs fr from hb) with q | q
  ·rw [q];exact aS (Ο _)
  ·exact I.ff b q
 ·have hy:scope.names.lookup y=some .cell∨scope.names.lookup y=some .free:=hy
  rcases hy with hy | hy
  ·exact jn hy
  ·exact ZX rfl (S.nofree _ (ϸ hy))
 ·have hu:us[i]? = some v:=nW (β:=Unit) e2
  have hi:i<ps.length:=by rw [← hl];exact (ο.mp hu).1
  have hp:ps[i]? = some y:=by
   rw [← S.pre,List.getElem?_take_of_lt (by omega)];exact e1
  have ndP:ps.Nodup:=by rw [← S.pre];exact S.nd.sublist (CN _ _)
  rcases S.par y (Ζ hp) with k | k
  ·exact .inl ⟨k,gO ndP hp hu k⟩
  ·obtain ⟨c,e⟩:=jn (n:=z.s.heap.objs.size+1) k
   refine .inr ⟨.inl k,c,e,?_⟩
   have q:=x.cell y c e
   rw [gM ndP hp hu (by show scope.names.lookup y≠_;rw [k];decide)] at q
   exact q
 ·obtain ⟨v,e1,r1⟩:=r i d (kX e)
  exact ⟨v,d5 e1,r1⟩
theorem yc {name:ι} {params:CB} {body:List Û} {dV kV doc pm ct oc:ζ} {an od:Option Ε} {osl:Array (Option ζ)} {j:Nat} {c:S} (lk:X.K.lookup f=some ⟨oc,od,.func (Å name qual params body scope dV kV doc pm an cd ct),osl⟩) (hcd:ó X.K cd qual=true) (S:cW N ps scope) (hj:X.Γ.fn[j]? = some ⟨ps.length,N.length,c⟩)
 (hb:∀ A fr L,aT k (A.deeper (š qual scope L f cd))→LSs (cxF X cal cal1 N qual scope f cd A fr L) body c):FnC X (jU X.Γ cal cal1) (k+1) j f (Å name qual params body scope dV kV doc pm an cd ct) ps:=by
 have run:∀ ds st,jU X.Γ cal cal1 j ds st=if ds.length=ps.length then (match exS X.Γ cal cal1 c ⟨ds.map some ++ Δ (N.length - ps.length) none,[],st⟩ with
  | .nx s=>.ok .non s.st
  | .rt d s=>.ok d s.st
  | .exc c l s=>.exc c l s.st
  | .bad=>.bad) else .bad:=fun ds st=>by unfold jU;rw [hj];all_goals rfl
 refine ⟨fun ds st nb=>?_,fun A fr z args us ds hr I hbd r nb=>?_⟩
 ·by_cases q:ds.length=ps.length
  ·exact q
  ·rw [run,ZY q] at nb;exact ZX rfl nb
 by_cases hl:ds.length=ps.length
 rotate_left
 ·rw [run,ZY hl] at nb;exact ZX rfl nb
 rw [run,ZZ hl] at nb ⊢
 have KX:X.K.In z.s.heap:=I.kin
 have lim:z.s.heap.NoLimit:=I.md.nolimit.keeps (Rep.bk I)
 have hkind:∀ y∈ps.zip us,scope.names.lookup y.1=some .local∨(scope.names.lookup y.1=some .cell∧((Cr (z.s.heap.objs.size+1) scope.names []).lookup y.1).isSome=true):=fun ⟨n,v⟩ hy=>by
  rcases S.par n (Ğ hy).1 with q | q
  ·exact .inl q
  ·exact .inr ⟨q,ĸ _ _ _ (.inl q)⟩
 refine CV hr.depth (KX _ _ lk) rfl S.co S.gen rfl (C0 KX hcd) (hbd _ _ _ _ ?_)
 refine BU S.kind hkind fun env he s1 x=>?_
 subst he
 refine ⟨lim.keeps x.toInCall.keep,codeAny_func ?_⟩
 have J:=ie (es:=ds.map some) (cal:=cal) (cal1:=cal1) S I hr (r.len ▸ hl) (by rw [Η];exact r.len) (fun i d e=>r.get (by rw [Ω,π] at e;obtain ⟨_,e1,e2⟩:=e;cases e2;exact e1)) x
 have hk:∀ b o,z.h b=some o→s1.heap.get? b=some o:=x.toInCall.keep
 have F:kb (cxF X cal cal1 N qual scope f cd A fr z.s.heap.objs.size):=⟨⟨fr,rfl⟩,rfl⟩
 have lcf:∀ {a o},z.h a=some o→¬ Lc (cxF X cal cal1 N qual scope f cd A fr z.s.heap.objs.size) a:=fun {a o} e h=>by
  have:z.s.heap.objs.size≤a:=by
   rcases h with rfl | ⟨y,e⟩
   ·exact Ο _
   ·exact đ (x.above y _ (ϸ e))
  exact ZX (Χ e) (ź.mpr this)
 have nofr:∀ {a o},z.h a=some o→a ∉ frs fr→a ∉ frs (š qual scope z.s.heap.objs.size f cd :: fr):=fun {a o} e n m=>by
  rcases ς.mp (show a∈z.s.heap.objs.size :: frs fr from m) with q | q
  ·exact ZX (Χ e) (by rw [q];exact ě _)
  ·exact n q
 have none1:∀ {a},s1.heap.get? a=none→z.h a=none:=fun {a} n=>by
  cases q:z.h a with
  | none=>rfl
  | some o=>rw [hk a o q] at n;cases n
 have back:∀ {z'},Stp (š qual scope z.s.heap.objs.size f cd :: fr) (Pv (cxF X cal cal1 N qual scope f cd A fr z.s.heap.objs.size) ⟨z.ρ,z.G,⟨ds.map some ++ Δ (N.length - ps.length) none,[],z.t.st⟩,us.map some ++ Δ (N.length - ps.length) none,s1⟩) ⟨z.ρ,z.G,⟨ds.map some ++ Δ (N.length - ps.length) none,[],z.t.st⟩,us.map some ++ Δ (N.length - ps.length) none,s1⟩ z'→Rep (cxF X cal cal1 N qual scope f cd A fr z.s.heap.objs.size) z'→Stp fr NoW z z'∧HR { X with A:=A,fr:=fr } z':=fun {z'} y K=>by
  have nw:∀ {a o},z.h a=some o→¬ Pv (cxF X cal cal1 N qual scope f cd A fr z.s.heap.objs.size) ⟨z.ρ,z.G,⟨ds.map some ++ Δ (N.length - ps.length) none,[],z.t.st⟩,us.map some ++ Δ (N.length - ps.length) none,s1⟩ a:=fun e w=>w.elim (fun ⟨i,m,_⟩=>nomatch m) (lcf e)
  refine ⟨⟨y.pr,y.gg,fun a o e=>?_,fun a m=>(y.rn a m).imp_right none1,fun a o e=>y.th a o (hk a o e),fun a o e n _ m=>y.sm a o (hk a o e) n (nw e) (nofr e m),fun a o e n _ m=>y.sl a o (hk a o e) n (nw e) (ν _ m)⟩,⟨K.md,I.fm,I.hd,K.bs,K.gh,K.rl,K.rn,K.rg,K.ob,K.fu.2.2,fun b m=>K.ff b (ν _ m),K.br,K.os⟩⟩
  rcases y.gn a o e with q | q | q
  ·exact .inl q
  ·exact .inr (.inl (none1 q))
  ·rcases q with ⟨i,m,_⟩ | l
   ·exact nomatch m
   ·rw [(K.fl a l).1] at e;cases e
 have nb2:(cxF X cal cal1 N qual scope f cd A fr z.s.heap.objs.size).ex c ⟨ds.map some ++ Δ (N.length - ps.length) none,[],z.t.st⟩≠.bad:=fun q=>nb (by rw [show exS X.Γ cal cal1 c ⟨ds.map some ++ Δ (N.length - ps.length) none,[],z.t.st⟩ = .bad from q])
 refine Υ (hb A fr z.s.heap.objs.size (hr.deeper _) _ J nb2) (fun fl s' hs=>?_) fun e s' hs=>nR (Q:=fun e s''=>CRs { X with A:=A,fr:=fr } z _ (.error e) s'') F hs fun z' c' l a T cls dx q e1 y K xr na t nT=>?_
 ·cases q:exS X.Γ cal cal1 c ⟨ds.map some ++ Δ (N.length - ps.length) none,[],z.t.st⟩ with
  | nx t=>
    rw [show (cxF X cal cal1 N qual scope f cd A fr z.s.heap.objs.size).ex c _ = .nx t from q] at hs
    obtain ⟨rfl,z',e1,e2,y,K⟩:=hs
    subst e1 e2
    obtain ⟨b1,b2⟩:=back y.st K
    exact ⟨z',.non,rfl,rfl,b1,b2,rfl⟩
  | rt d t=>
    rw [show (cxF X cal cal1 N qual scope f cd A fr z.s.heap.objs.size).ex c _ = .rt d t from q] at hs
    obtain ⟨u,z',rfl,e1,e2,y,K,rd⟩:=hs
    subst e1
    obtain ⟨b1,b2⟩:=back y.st K
    exact ⟨z',d,rfl,by rw [e2],b1,b2,rd⟩
  | exc c' l t=>rw [show (cxF X cal cal1 N qual scope f cd A fr z.s.heap.objs.size).ex c _ = .exc c' l t from q] at hs;exact hs.elim
  | bad=>exact ZX q nb2
 ·obtain ⟨b1,b2⟩:=back y K
  have q:exS X.Γ cal cal1 c ⟨ds.map some ++ Δ (N.length - ps.length) none,[],z.t.st⟩ = .exc c' l z'.t:=q
  rw [q]
  exact ⟨z',c',l,rfl,rfl,b1,b2,a,T,cls,dx,e1,xr,t,⟨none1 na.1,na.2.1.1,na.2.1.2.1⟩,none1 nT.1,nT.2.1.1,nT.2.1.2.1⟩
end
end L2.Ev
end
section
namespace L2.Ev
open PySem.W
section
variable {prog:ϱ} {w:Ð} {A:ϑ} {E:ζ→ξ→Prop} {K:Frag} {C a:Ε} {o:Cy} {od:Option Cy} {h:ϯ} {g:Array GenState} {d:Drawn} {t:Nat} {os:CM}
theorem oH (Y:dD K C) (X:K.In h) (I:InstAt h a o C od) (hq:Q () ⟨h,g,d,t,os⟩):χ M A (ř "BaseException.__getattribute__" ⟨[.ref a,nameV],[]⟩) Q E ⟨h,g,d,t,os⟩:=by
 have k1:builtinKind "BaseException.__getattribute__" = some .slot:=by decide +kernel
 have k2:splitId "BaseException.__getattribute__" = some ("BaseException","__getattribute__"):=by decide +kernel
 have L:Looks M h (AW (.ref a) (.type "BaseException")) true:=(I.type (M:=M)).andThen (looks_mroIn X Y.be)
 have ha:=F.args_bexc_ga (.ref a) nameV
 simp only [ř,k1,k2]
 refine ε (L.at ?_)
 repeat (any_goals (first | assumption | wp_step))
end
theorem vk {K:Frag} (e:(clsIn K C).isSome=true):∃ c' d' cd' sl',K.lookup C=some ⟨c',d',.cls cd',sl'⟩:=by
 unfold clsIn at e
 split at e
 ·rename_i q;exact ⟨_,_,_,_,q⟩
 ·cases e
structure k7 (K:Frag) (B:Ε):Prop where
 ty:typeIn K (.ref B)=some (.type "type")
 is:(clsIn K B).isSome=true
 be:mroIn K B (.type "BaseException")=some true
theorem r9 {K:Frag} {M:C1} (X:K.In h) (e:(clsIn K C).isSome=true):Looks M h (isType (.ref C)) true:=by
 obtain ⟨c',d',cd',sl',hk⟩:=vk e
 intro A' Q' E' s' k q
 unfold isType;unfold loadHead
 exact ε (BV (k _ _ (X _ _ hk)) (θ q))
theorem fS {K:Frag} {M:C1} {A:ϑ} {E:ζ→ξ→Prop} {s:ξ} {a B C:Ε} {o:Cy} {Q:Bool→ξ→Prop} (X:K.In s.heap) (Y:k7 K B) (he:s.heap.get? a=some o) (hc:o.cls = .ref C) {b:Bool} (hm:mroIn K C (.ref B)=some b) (hq:Q b s):χ M A (excMatches (.ref a) (.ref B)) Q E s:=by
 have L1:Looks M s.heap (AW (.ref B) (.type "tuple")) false:=(looks_typeIn X Y.ty).andThen (Looks.of_pure tc_notTuple)
 have L2:=r9 (M:=M) X Y.is
 have L3:=looks_mroIn (M:=M) X Y.be
 have L4:=looks_mroIn (M:=M) X hm
 obtain ⟨h,g,d,t,os⟩:=s
 unfold excMatches isExcClass
 refine ε (L1.at ?_)
 dsimp only
 rw [ZY ϛ]
 refine ε (θ ?_)
 rw [Ġ]
 refine ε (ε (ε (ε (L2.at ?_))))
 rw [ZZ rfl]
 refine L3.at ?_
 rw [ZY (show ¬ ((!true)=true) by decide)]
 refine θ ?_
 dsimp only
 rw [List.forIn_nil]
 refine θ ?_
 have T0:∀ {Q':ζ→ξ→Prop},Q' (.ref C) ⟨h,g,d,t,os⟩→χ M A (typeOf (.ref a)) Q' E ⟨h,g,d,t,os⟩:=fun {Q'} q'=>by
  repeat (first | (with_reducible refine ń he ?_;rw [hc]) | wp_step)
  exact q'
 refine ε (T0 ?_)
 rw [Ġ]
 refine ε (ε (ε (L4.at ?_)))
 cases b with
 | true=>rw [ZZ rfl];exact θ (θ (θ hq))
 | false=>
   rw [ZY ϛ]
   exact θ (θ (show χ M A (pure false) Q E _ from θ hq))
def fV (bmB:List ζ):List ζ→Bool
 | []=>false
 | v :: r=>(v :: r) == bmB || match v with | .ref _=>fV bmB r | _=>false
theorem cS (hp:Dt self "__setattr__" bmB=pure ()):∀ {l},fV bmB l=true→Dt self "__setattr__" l=pure ()
 | [],e=>by cases e
 | v :: r,e=>by
   unfold fV at e
   rcases Cp.mp e with z | z
   ·rw [beq_iff_eq.mp z];exact hp
   ·split at z
    ·rw [refuseLoop_ref];exact cS hp z
    ·cases z
abbrev veB:List ζ:=[.type "ValueError",.type "Exception",.type "BaseException",.type "object"]
abbrev exB:List ζ:=[.type "Exception",.type "BaseException",.type "object"]
structure fi (K:Frag) (C:Ε):Prop where
 sa:findIn K (.ref C) "__setattr__" = some (some (.builtin "object.__setattr__"))
 over:((clsIn K C).any fun cd=>fV veB cd.mro || fV exB cd.mro)=true
 hd:((clsIn K C).any fun cd=>cd.hasDict)=true
 ob:mroIn K C (.type "object")=some true
section
variable {prog:ϱ} {w:Ð} {A:ϑ} {E:ζ→ξ→Prop} {s:ξ} {K:Frag} {x C:Ε} {o:Cy} {vs:Array ζ} {mA:ι→Option ζ} {name:ι} {v:ζ} {ns:List ι}
theorem gY (hn:s.heap.Ns1 d mA) (hw:Within mA ns) (hz:ns.length<1000)
 (hq:∀ h',h'.Ns1 d (fun y=>if y=name then some v else mA y)→ë d s.heap h'→Q (.done (.ret .none)) { s with heap:=h',toks:=s.toks+1 }):χ M A (ľ d (.str name tk) name v) Q E s:=by
 unfold ľ D1
 refine ε (θ (ε (wpAny_nsSet1 hn fun h' n' sb=>?_)))
 obtain ⟨od,es,ep,e1,e2,e3⟩:=n'.count (Within.cons name v hw)
 have few:es.size≤Ϣ:=ϰ e3 (by rw [Ι,ă];omega)
 refine ε (DV e1 (by rw [e2];exact DX (AJ few)) ?_)
 exact θ (hq h' n' sb)
theorem m8 (X:K.In s.heap) (Z:fi K C) (hf:findIn K (.ref C) name=some none) (hx:s.heap.get? x=some o) (hc:o.cls = .ref C) (hd:o.data = .fields vs)
 (hm:(o.dict=none∧∀ n,mA n=none)∨∃ d,o.dict=some d∧d≠x∧s.heap.Ns1 d mA) (hw:Within mA ns) (hz:ns.length<1000)
 (hq:∀ h' d t',h'.get? x=some { o with dict:=some d }→d≠x→h'.Ns1 d (fun y=>if y=name then some v else mA y)→(∀ b u,b≠x→b≠d→s.heap.get? b=some u→h'.get? b=some u) →
  (o.dict=some d∨(o.dict=none∧s.heap.get? d=none))→Q () { s with heap:=h',toks:=t' }):χ (model prog w) A (BL (.ref x) name v) Q E s:=by
 obtain ⟨od,I⟩:∃ od,InstAt s.heap x o C od:=by
  rcases hm with ⟨z,_⟩ | ⟨d,z,_,od,_,_,e,_⟩
  ·exact ⟨none,hx,hc,by unfold notCls;rw [hd],by rw [z];trivial⟩
  ·exact ⟨some od,hx,hc,by unfold notCls;rw [hd],by rw [z];exact e⟩
 have SF:=PySem.F.store_ValueError
 obtain ⟨cd,hcd,hov⟩:=any_some Z.over
 obtain ⟨cd',hcd',hhd⟩:=any_some Z.hd
 rw [hcd] at hcd'
 cases hcd'
 refine set_plain X I Z.sa ?_
 obtain ⟨h,g,d,t,os⟩:=s
 have sub:Looks (model prog w) h (AW (.ref x) (.type "object")) true:=I.type.andThen (looks_mroIn X Z.ob)
 refine ã SF.slot.plain SF.entry (@check_slot (model prog w) _ _ ⟨h,g,d,t+1,os⟩ "object.__setattr__" "object" "__setattr__" (.ref x) [.str name t,v] [] _ SF.kind SF.split sub (SF.args (.ref x) (.str name t) v) ?_)
 have lm:Looks (model prog w) h (mroOf (.ref C)) cd.mro:=(looks_clsIn X hcd).andThen .now
 rw [osa_eq,refuse_eq]
 have l0:=I.type (M:=model prog w)
 have lf:=looks_findIn (M:=model prog w) X hf
 refine ε (ε (l0.at (ε (lm.at ?_))))
 rw [show Dt (.ref x) "__setattr__" cd.mro=pure () from (Cp.mp hov).elim (cS (SF.passes _)) (cS (PySem.F.store_Exception.passes _))]
 refine θ (ε (l0.at (ε (lf.at ?_))))
 refine ε (θ ?_)
 refine ε (θ ?_)
 have lc:=looks_clsIn (M:=model prog w) X hcd
 obtain ⟨oc,odi,oda,osl⟩:=o
 dsimp only at hc hd hm hx
 subst hc hd
 refine ε (ε (BV hx (ε (lc.at ?_))))
 rw [hhd]
 rcases hm with ⟨rfl,hmA⟩ | ⟨dx,rfl,hne,hns⟩
 ·obtain rfl:mA=fun _=>none:=funext hmA
  have hxs:x≠h.objs.size:=ϧ (Χ hx)
  have hx1:=υ { cls:=.type "dict",data:=.dict #[] } hx
  refine ε (wpAny_alloc' (ε (wpAny_update' hx1 ?_)))
  have hg:((h.push { cls:=.type "dict",data:=.dict #[] }).update x fun o=>{ cls:=o.cls,dict:=some h.objs.size,data:=o.data,slots:=o.slots }).get? h.objs.size=some { cls:=.type "dict",data:=.dict #[] }:=
   (Cm _ _ _ _ (Ϥ hxs)).trans (CQ rfl rfl)
  have hn0:((h.push { cls:=.type "dict",data:=.dict #[] }).update x fun o=>{ cls:=o.cls,dict:=some h.objs.size,data:=o.data,slots:=o.slots }).Ns h.objs.size (fun _=>none):=
   ⟨_,#[],_,hg,rfl,fun e he=>ZX he (by simp),fun _=>rfl⟩
  refine θ (a:=some h.objs.size) ?_
  refine gY (Heap.Ns1.of_empty hn0) Within.nil (by decide) fun h' n' sb=>?_
  refine hq h' h.objs.size _ ?_ (Ϥ hxs) n' (fun b u h1 h2 e=>?_) (.inr ⟨rfl,ϣ (Ο _)⟩)
  ·refine (sb.2 x hxs).trans (ϥ _ hx1 rfl)
  ·exact (sb.2 b h2).trans ((Cm _ _ _ _ h1).trans (υ _ e))
 ·refine θ (a:=some dx) ?_
  refine gY hns hw hz fun h' n' sb=>?_
  exact hq h' dx _ ((sb.2 x (Ϥ hne)).trans hx) hne n' (fun b u _ h2 e=>(sb.2 b h2).trans e) (.inl rfl)
theorem oU (Y:dD K C) (hh:hasDictIn K C=true) (X:K.In s.heap) (hf:findIn K (.ref C) name=some none) (hx:s.heap.get? x=some o) (hc:o.cls = .ref C) (hd:o.data = .fields vs) (hdi:o.dict=some d) (hn:s.heap.Ns1 d mA) (hv:mA name=some v) (hv':handedIn v=true)
 (hq:Q v { s with toks:=s.toks+1 }):χ (model prog w) A (Be (.ref x) name expr) Q E s:=by
 obtain ⟨od,ho,hl⟩:=hJ hn
 have I:InstAt s.heap x o C (some od):=⟨hx,hc,by unfold notCls;rw [hd],by rw [hdi];exact ho⟩
 have fo:findObj K C (some od) name=some (.value v):=findObj_own hh hf rfl (by rw [hl,hv])
 obtain ⟨h,g,dr,t,os⟩:=s
 have l0:=I.type (M:=model prog w)
 have l1:=looks_findIn (M:=model prog w) X Y.ga
 have l2:=looks_findIn (M:=model prog w) X Y.gn
 have l3:=looks_find (M:=model prog w) X I fo
 have G:=PySem.F.attrBase_ValueError.ga
 have b1:=G.bind (.ref x)
 unfold Be getAttrBy
 refine ε (wpAny_mkText (ό (ε (l0.at (ε (l1.at ?_))))))
 show χ _ _ (E9 _ _ _ _ _ _) _ _ _
 unfold E9
 refine ε (l2.at (ε (Cc (ό ?_))))
 unfold callGetattribute
 rw [show (expr && onTheHeap (De "BaseException.__getattribute__"))=false from Br _,ZY ϛ]
 unfold boundAndCalled
 rw [b1]
 refine ε (θ ?_)
 refine Ă (ã G.plain F.entry_bexc_ga (oH Y X I ?_))
 refine ε (θ (ε (θ (ε (l0.at (ε (l3.at ?_)))))))
 exact θ (handed_on hv' hq)
end
structure gq (K:Frag) (C fI:Ε) (bmB:List ζ) (newId:String):Prop where
 at_:∃ (nm q:ι) (N:Ε) (bs bm:List ζ) (hdct:Bool) (sn:List ι) (sub:List ζ) (ab:Bool) (col:Option Bool) (dd:Option Ε) (k0 k1 k2 k3 k5:Option ζ),
  K.lookup C=some (D5 nm q C N bs bm hdct sn sub ab col dd k0 k1 k2 k3 k5 newId)∧tailIn K bmB bm=true
 init:findIn K (.ref C) "__init__" = some (some (.ref fI))
 fn:isFn K (.ref fI)=true
section
variable {prog:ϱ} {w:Ð} {A:ϑ} {E:ζ→ξ→Prop} {K:Frag} {C fI:Ε} {rest bmB:List ζ} {B newId initId:String} {h:ϯ} {g:Array GenState} {d:Drawn} {t:Nat} {os:CM}
abbrev io (h:ϯ) (C:Ε) (rest:List ζ):ϯ:=(h.push { cls:=.type "tuple",data:=.seq rest.toArray }).push { cls:=.ref C,data:=.fields #[.ref h.objs.size,.none,.none,.none,.bool false,.none] }
theorem fw (b) (u) (z:h.get? b=some u):(io h C rest).get? b=some u:=υ _ (υ _ z)
theorem mQ:Bq h (io h C rest) (h.objs.size+1) (.ref C) rest where
 keeps:=fw
 new:=ϣ (ý _)
 there:=⟨h.objs.size,by heap_get,ϣ (Ο _),υ _ (CQ rfl rfl)⟩
theorem gA (F:ė B newId initId bmB) (X:K.In h) (O:gq K C fI bmB newId) (hz:rest.length≤Ϣ)
 (hq:∀ h' e,Bq h h' e (.ref C) rest→χ (model prog w) A (call (.ref fI) (.ref e :: rest)) (fun r s'=>r = .none∧Q (.done (.ret (.ref e))) s') E ⟨h',g,d,t,os⟩) :
 χ (model prog w) A (ŋ.«type.__call__» ⟨.ref C :: rest,[]⟩) Q E ⟨h,g,d,t,os⟩:=by
 obtain ⟨nm,q,N,bs,bm,hdct,sn,sub,ab,col,dd,k0,k1,k2,k3,k5,l,tl⟩:=O.at_
 have c0:=X _ _ l
 have T:=tail_of_in X tl
 have X1:K.In (io h C rest):=fun b u z=>fw b u (X b u z)
 have c1:=X1 _ _ l
 have m1:=(mQ (h:=h) (C:=C) (rest:=rest))
 obtain ⟨tt,e1,_,_⟩:=id m1.there
 have self:(ϡ C :: bm).contains (.ref C)=true:=by simp
 have l1:=looks_findIn (M:=model prog w) X1 O.init
 have l2:=fun self=>bind_fn (M:=model prog w) X1 self (beq_iff_eq.mp O.fn)
 repeat (first | with_reducible refine ń c0 ?_ | with_reducible refine wpAny_madeBy_exc c0 ?_ | wp_step)
 refine codeAny_call_builtin_code (ŵ _ F.quiet) (wpAny_check_new_subT F T c0 (codeAny_exc_new_subT F T c0 ?_ hz))
 show χ _ _ _ _ _ _
 unfold AW
 repeat (first | with_reducible refine ń e1 ?_ | (with_reducible refine wpAny_isSubtype_exc c1 ?_;rw [self]) | wp_step)
 refine l1.at (ό (ε ((l2 _).at ?_)))
 refine ε (Υ (hq _ _ m1) (fun r s' z=>?_) fun _ _ z=>z)
 obtain ⟨rfl,z⟩:=z
 wp_walk
 exact z
theorem oS (F:ė B newId initId bmB) (X:K.In h) (O:gq K C fI bmB newId) (hz:rest.length≤Ϣ)
 (hq:∀ h' e,Bq h h' e (.ref C) rest→χ (model prog w) (A.under (.builtin "type.__call__" ⟨.ref C :: rest,[]⟩)) (call (.ref fI) (.ref e :: rest)) (fun r s'=>r = .none∧Q (.ref e) s') E ⟨h',g,d,t,os⟩) :
 χ (model prog w) A (call (.ref C) rest) Q E ⟨h,g,d,t,os⟩:=by
 obtain ⟨nm,q,N,bs,bm,hdct,sn,sub,ab,col,dd,k0,k1,k2,k3,k5,l,tl⟩:=O.at_
 have c0:=X _ _ l
 have y1:=tc_lookup
 have y2:=tc_bind (.ref C)
 have y3:Shared.TypeIs ⟨h,g,d,t,os⟩ (.ref C) "type":=⟨_,c0,rfl⟩
 refine Ă (Ea ?_)
 show χ _ _ (callAny (.ref C) _) _ _ _
 repeat (any_goals (first | assumption | with_reducible refine ń c0 ?_ | wp_step))
 refine ⟨rfl,codeAny_call_builtin_at (ŵ _ (by decide +kernel)) entry_typeCall (wpAny_check_type_call_sub c0 ?_)⟩
 exact gA F X O hz fun h' e m=>hq h' e m
end
section
variable {M:C1} {A:ϑ} {E:ζ→ξ→Prop} {s:ξ}
theorem nS {K:Frag} {env:AK} {C:Ε} {x:Dh ζ} {Q:Flow→ξ→Prop} (be:mroIn K C (.type "BaseException")=some true) (ty:typeIn K (.ref C)=some (.type "type")) (hh:A.handled=none)
 (h:χ M A x (fun v s1=>∃ p ob vs,v = .ref p∧K.In s1.heap∧s1.heap.get? p=some ob∧ob.cls = .ref C∧ob.data = .fields vs∧vs[1]? = some .none∧E (.ref p) s1) E s):χ M A (raiseStmt env (some x) none) Q E s:=by
 unfold raiseStmt
 refine ε (Υ h (fun v s1 z=>?_) fun _ _ z=>z)
 obtain ⟨p,⟨oc,od,oda,osl⟩,vs,rfl,Xk,e1,e2,e3,e4,q⟩:=z
 simp only at e2 e3
 subst e2 e3
 obtain ⟨h1,g1,d1,t1,o1⟩:=s1
 have l0:Looks M h1 (typeOf (.ref p)) (.ref C):=(Looks.ld e1).andThen .now
 have l1:Looks M h1 (AW (.ref p) (.type "BaseException")) true:=l0.andThen (looks_mroIn Xk be)
 have l2:=looks_typeIn (M:=M) Xk ty
 have l3:Looks M h1 (isType (.ref p)) false:=(Looks.ld e1).andThen .now
 have l4:Looks M h1 (isExcClass (.ref p)) false:=l3.andThen .now
 refine ε (θ (ε (ό ?_)))
 unfold excFromValue raisedInstance Cq
 refine ε (l4.at ?_)
 rw [ZY ϛ]
 refine ε (l1.at ?_)
 rw [ZZ rfl]
 refine θ (ε (l3.at ?_))
 rw [ZY ϛ]
 refine ε (ε (l0.at (ε (l2.at ?_))))
 rw [ZZ (show (Ū "type" == Ū "type")=true by decide)]
 refine θ (ε (ε (ϙ e1 rfl e4 ?_)))
 rw [ZY (show ¬ ((Ϙ != Ϙ)=true) by decide)]
 exact θ (wpAny_raiseNew_none hh q)
end
end L2.Ev
end
section
namespace L2.Ev
theorem nI {M:C1} {A:ϑ} {E:ζ→ξ→Prop} {Q:Unit→ξ→Prop} {s:ξ} {env:AK} {n:ι} {m:ι→Option ζ} {pos:Ϭ} (hl:env.kindOf n=some .local) (hn:s.heap.Ns env.locals m) (hp:(env.scope.kind == .class || (env.scope.kind == .module && env.locals != env.globals))=false)
 (h:∀ h' v,h'.Ns env.locals (fun y=>if y=n then v else m y)→ë env.locals s.heap h'→Q () { s with heap:=h',toks:=s.toks+1 }):χ M A (do bindName env n .none;Ÿ env n pos) Q E s:=by
 refine ε (wpAny_bindName (CT hl hn (fun h1 n1 s1=>?_) hp))
 unfold Ÿ unbindName;refine C9 (ε (BD (ε ?_)))
 unfold deleteName;simp only [hl,hp];rw [ZY (by decide)]
 refine ε (wpAny_nsDel_keeps n1 fun h2 v n2 s2=>?_)
 simp only [if_true,Option.isSome_some,Bool.not_true,ì,if_false]
 refine θ (BD (h h2 v ?_ (s1.trans s2)))
 have e:(fun y=>if y=n then v else if y=n then some Ϙ else m y)=fun y=>if y=n then v else m y:=by
  funext y
  by_cases z:y=n <;> simp [z]
 rw [e] at n2
 exact n2
section
variable {X:Cx} {z z' z0 z1:Z} {w:Ε→Prop}
theorem xj {a C:Ε} {l:List (ι×ζ)} {f:ι} {v:ζ} {Q:ζ→ξ→Prop} {b:Bool} (I:Rep X z) (h:ExO z.h a C l) (nl:l≠[]) (Y:dD X.K C) (hh:ϫ X.K C=true) (hf:Λ X.K (.ref C) f=some none) (lk:l.lookup f=some v) (hv:Ĭ v=true) (q:Q v { z.s with toks:=z.s.toks+1 }):χ X.M X.A (Be (.ref a) f b) Q NoE z.s:=by
 obtain ⟨o,vs,e1,e2,e3,e4⟩:=h
 rcases e4 with ⟨w,_⟩ | ⟨d,od,e5,e6,es,ep,e7⟩
 ·exact ZX w nl
 ·exact oU Y hh I.toHR.kin hf e1 e2 e3 e5 (mA:=fun n=>l.lookup n) ⟨od,es,ep,e6,e7⟩ lk hv q
abbrev aF (X:Cx) (e:ζ):Cx:={ X with A:=X.A.mark (some e),calm:=false }
theorem Rep.suite (I:Rep X z):Rep (aF X e) z:=⟨⟨I.md,I.fm,(fun c=>nomatch c),I.bs,I.gh,I.rl,I.rn,I.rg,I.ob,I.fu,I.ff,I.br,I.os⟩,⟨I.ok.un,I.ok.kd,I.ok.gl,I.ok.bl,I.ok.ci,I.ok.ch⟩,I.lo,I.ce,I.fl,I.el,I.sl,I.en,I.eo,I.od⟩
theorem Rep.unsuite (h:X.calm=true→X.A.handled=none) (I:Rep (aF X e) z):Rep X z:=⟨⟨I.md,I.fm,h,I.bs,I.gh,I.rl,I.rn,I.rg,I.ob,I.fu,I.ff,I.br,I.os⟩,⟨I.ok.un,I.ok.kd,I.ok.gl,I.ok.bl,I.ok.ci,I.ok.ch⟩,I.lo,I.ce,I.fl,I.el,I.sl,I.en,I.eo,I.od⟩
theorem Go.unsuite (g:Go (aF X e) z z'):Go X z z':=⟨g.st,g.ow⟩
theorem Rep.gone {h':ϯ} {t:Nat} {i:Nat} {x:ι} {m:ι→Option ζ} {v:Option ζ} (I:Rep X z) (hN:X.N.Nodup) (hi:X.N[i]? = some x) (hk:X.env.scope.names.lookup x=some .local) (lk:∀ (i:Nat) (x:ι) (u:ζ),X.N[i]? = some x→z.σ[i]? = some (some u)→Vis X.env.scope x→kc X.env z.s.heap m x u)
 (hn:h'.Ns X.env.locals (fun y=>if y=x then v else m y)) (sb:ë X.env.locals z.s.heap h'):Rep X { z with t:=⟨z.t.env.set i none,z.t.ow.filter (· != i),z.t.st⟩,σ:=z.σ.set i none,s:={ z.s with heap:=h',toks:=t } }∧Go X z { z with t:=⟨z.t.env.set i none,z.t.ow.filter (· != i),z.t.st⟩,σ:=z.σ.set i none,s:={ z.s with heap:=h',toks:=t } }:=by
 have ne:∀ {b:Ε},b≠X.env.locals→h'.get? b=z.h b:=fun n=>sb.2 _ n
 have lL:Lc X X.env.locals:=.inl rfl
 have nG:∀ {b o},z.G b=some o→b≠X.env.locals:=fun e q=>by rw [q,(I.fl _ lL).1] at e;cases e
 have nM:∀ {b},Mu z.ρ b→b≠X.env.locals:=fun m q=>(I.fl _ lL).2 (q ▸ m)
 obtain ⟨oL,es,ep,hoL,hdL,_⟩:=id hn
 have ck:∀ y c u,X.env.cells.lookup y=some c→z.s.heap.IsCell c u→h'.IsCell c u:=fun y c u e q=>q.sameBut sb (I.cne y c e)
 have hiσ:i<z.σ.length:=by rw [I.sl];exact (ο.mp hi).1
 have mf:∀ {j},j∈z.t.ow.filter (· != i)→j∈z.t.ow∧j≠i:=fun m=>⟨(ϕ.mp m).1,by simpa using (ϕ.mp m).2⟩
 have fu:h'.FunFrames X.base X.fr:=iy (fun b o e nf=>by
  by_cases q:b=X.env.locals
  ·subst q;exact ⟨oL,hoL,fun vs e=>by rw [hdL] at e;cases e⟩
  ·exact ⟨o,(ne q).trans e,nf⟩) I.fu
 refine ⟨⟨⟨I.md,I.fm,I.hd,I.bs,fun b o e=>(ne (nG e)).trans (I.gh b o e),I.rl,I.rn,I.rg,fun n o p h1 h2=>(I.ob n o p h1 h2).mono (κ _) (.refl _) fun b hb o e=>(ne (nM ⟨p,Ζ h2,hb⟩)).trans e,fu,I.ff,I.br,I.os⟩,I.ok,⟨_,hn,fun j y u e1 e2 e3=>?_⟩,fun y c e=>let ⟨u,q⟩:=I.ce y c e;⟨u,ck y c u e q⟩,I.fl,by show (z.t.env.set i none).length=(z.σ.set i none).length;rw [Á,Á];exact I.el,by show (z.σ.set i none).length=_;rw [Á];exact I.sl,fun j d n e=>?_,fun j mj=>?_,fun j k a m1 m2 e1 e2=>?_⟩,⟨⟨κ _,.refl _,fun _ _ e=>.inl e,fun _ m=>.inl m,fun b o e=>?_,fun b o e _ w _=>(ne fun q=>w (.inr (.inl q))).trans e,fun b o e _ w _=>⟨o.slots,(ne fun q=>w (.inr (.inl q))).trans e⟩⟩,fun b ⟨j,mj,e⟩=>?_⟩⟩
 ·by_cases q:j=i
  ·subst q
   rw [Ϫ hiσ] at e2;cases e2
  ·rw [Φ (Ϥ q)] at e2
   rcases lk j y u e1 e2 e3 with ⟨k,e⟩ | ⟨k,c,e,w⟩
   ·have:y≠x:=fun e=>q (fU hN e1 (e ▸ hi))
    exact .inl ⟨k,by simp [this,e]⟩
   ·exact .inr ⟨k,c,e,ck y c _ e w⟩
 ·have e:(z.t.env.set i none)[j]? = some (some d):=e
  by_cases q:j=i
  ·subst q
   rw [Ϫ (by rw [I.el];exact hiσ)] at e;cases e
  ·rw [Φ (Ϥ q)] at e
   obtain ⟨u,e1,r⟩:=I.en j d (fun m=>n (ϕ.mpr ⟨m,by simpa using q⟩)) e
   exact ⟨u,(Φ (Ϥ q)).trans e1,r⟩
 ·obtain ⟨m1,q⟩:=mf mj
  obtain ⟨d,a,o,h1,h2,h3,r,f⟩:=I.eo j m1
  exact ⟨d,a,o,(Φ (Ϥ q)).trans h1,(Φ (Ϥ q)).trans h2,h3,r.mono (κ _) (.refl _) fun b hb o e=>(ne fun w=>f.2.2.2 (by rcases hb with rfl | rfl <;> exact .inl w)).trans e,f⟩
 ·obtain ⟨a1,q1⟩:=mf m1
  obtain ⟨a2,q2⟩:=mf m2
  exact I.od j k a a1 a2 ((Φ (Ϥ q1)).symm.trans e1) ((Φ (Ϥ q2)).symm.trans e2)
 ·by_cases q:b=X.env.locals
  ·subst q;exact ⟨oL,hoL⟩
  ·exact ⟨o,(ne q).trans e⟩
 ·obtain ⟨m1,q⟩:=mf mj
  exact .inl ⟨j,m1,(Φ (Ϥ q)).symm.trans e⟩
theorem ri {a T:Ε} {fl cls:ζ} {dx:Option Ε} (x:Stp X.fr w z z') (I:Rep X z') (r:XR X.W z' c l cls dx) (na:Nob X z z' a) (t:Tr z'.s.heap a cls dx T fl):∃ z2,z2.s=z'.s∧z2.t=z'.t∧Stp X.fr w z z2∧(∀ b,Own z2 b↔Own z' b)∧Rep X z2∧RD X.W z2.ρ z2.G (.ins c l) (.ref a)∧(z2.σ=z'.σ):=by
 obtain ⟨oe,vs,_,_,he,⟨hc,hd⟩,hda,_⟩:=t
 have gg:Sub z'.G fun b=>if b=a then some oe else z'.G b:=fun b o q=>by
  dsimp only
  by_cases c:b=a
  ·subst c;rw [na.2.1.1] at q;cases q
  ·rw [ZY c];exact q
 have rd:RD X.W z'.ρ (fun b=>if b=a then some oe else z'.G b) (.ins c l) (.ref a):=by
  obtain ⟨i,h1,h2,h3,h4,h5⟩:=r
  subst h3
  rcases h5 with ⟨rfl,rfl⟩ | ⟨d,od,us,rfl,h6,h7,h8⟩
  ·exact ⟨a,i,[],rfl,h1,h4,.inr ⟨h2,oe,vs,ZZ rfl,hc,hda,.inl ⟨by simp,hd⟩⟩,rfl⟩
  ·exact ⟨a,i,us,rfl,h1,h4,.inr ⟨h2,oe,vs,ZZ rfl,hc,hda,.inr ⟨d,od,hd,gg _ _ h6,h7⟩⟩,h8.mono (κ _) gg⟩
 refine ⟨{ z' with G:=fun b=>if b=a then some oe else z'.G b },rfl,rfl,⟨x.pr,x.gg.trans gg,fun b o q=>?_,x.rn,x.th,x.sm,x.sl⟩,fun _=>.rfl,I.grw rfl I.br (fun _ _ e _=>e) (fun _ o e=>⟨o.slots,e⟩) gg (fun b o q=>?_) fun b o q=>?_,rd,rfl⟩
 all_goals
  have q:(if b=a then some oe else z'.G b)=some o:=q
  by_cases c:b=a
 ·subst c;exact .inr (.inl na.1)
 ·rw [ZY c] at q;exact x.gn b o q
 ·subst c;rw [ZZ rfl] at q;cases q;exact he
 ·rw [ZY c] at q;exact I.gh b o q
 ·subst c;exact .inr na.2
 ·rw [ZY c] at q;exact .inl q
def n7 (X:Cx) (j:Nat) (x:ι):Prop:=∃ i,X.W.ci[j]? = some i∧X.mg x=some (.ref i.ad)∧k7 X.K i.ad∧∀ c k ic,X.Γ.cl[c]? = some k→X.W.ci[c]? = some ic→X.W.what[c]? = some 2→Ϝ X.K ic.ad (.ref i.ad)=some (c == j || k.sup.contains j)
def HL (X:Cx) (hs:List Ċ) (r:S):Prop:=∀ (z z1:Z) (c:Nat) (l:List D) (e:ζ) (o:ak),XN X (Pv X z) z z1 c l e .none→(∀ a,Own z1 a→Own z a∨z.h a=none)→o=exS.hnd X.Γ X.cal X.cal1 r c l z1.t→o≠.bad→χ X.M X.A (handleBy e X.env hs) (Ps X z o) (PxS X z o) z1.s
theorem vy (F:kb X):HL X [] .skip:=fun z z1 c l e o hn ow e0 nb=>by
 have e0:o = .exc c l z1.t:=e0
 refine wpAny_handleBy_nil ?_
 obtain ⟨a,T,cls,dx,e1,_,_,_,_,t,_⟩:=id hn
 subst e1
 unfold PySem.passOn
 obtain ⟨oe,vs,oT,ts,he,hc,hd,h1,r⟩:=id t
 refine ε (ϙ he hd h1 ?_)
 rw [ZY (show ¬ ((ϡ T == Ϙ)=true) by simp),F.frame]
 refine ε (bR (z':=z1) (fr:=some X.env.locals) hn fun h2 hn2=>wpAny_throw ?_)
 obtain ⟨a',T',cls',dx',e1,x2,I2,r2,na2,t2,nT2⟩:=hn2
 exact ⟨{ z1 with s:={ z1.s with heap:=h2 } },c,l,rfl,e0,⟨x2,ow⟩,I2,a',cls',dx',e1,r2,na2,.inr ⟨T',_,t2,.inr rfl,nT2⟩⟩
theorem ye {j i:Nat} {Bn n:ι} {np hpos:Ϭ} {hs:List Ċ} {suite:List Û} {b₀:Û} {b r:S} (hS:∀ e,LSs (aF X e) (b₀ :: suite) b) (hx:n7 X j Bn) (hg:Gl X Bn) (hdb:(Bn == ("__debug__":ι))=false) (hN:X.N.Nodup) (hi:X.N[i]? = some n) (hl:X.env.scope.names.lookup n=some .local) (hr:HL X hs r):HL X (.ExceptHandler (some (.Name Bn np)) (some n) (b₀ :: suite) hpos :: hs) (.hand j (some i) b r):=fun z z1 c l e o hn3 ow1 e0 nb=>by
 have e0:o=(match cJ X.Γ j c with
  | some true=>(match X.ex b ⟨z1.t.env.set i (some (.ins c l)),z1.t.ow.filter (· != i),z1.t.st⟩ with
    | .nx s=>.nx ⟨s.env.set i none,s.ow.filter (· != i),s.st⟩
    | .rt d s=>.rt d s
    | _=>.bad)
  | some false=>exS.hnd X.Γ X.cal X.cal1 r c l z1.t
  | none=>.bad):=e0
 obtain ⟨p,T,cls,dx,rfl,x3,I3,r3,na3,t3,nT3⟩:=id hn3
 refine D9 (CU ?_) (fun z=>nomatch z)
 obtain ⟨ic,w1,w2,w3,w4⟩:=hx
 obtain ⟨i2,v1,v2,v3,v4,v5⟩:=id r3
 cases ek:X.Γ.cl[c]? with
 | none=>exact ZX (by rw [e0];unfold cJ;rw [ek];rfl) nb
 | some k=>
   have hsub:=w4 c k i2 ek v1 v2
   rw [show cJ X.Γ j c=some (c == j || k.sup.contains j) by unfold cJ;rw [ek];rfl] at e0
   generalize (c == j || k.sup.contains j)=kk at e0 hsub
   refine aW (X:=aF X (.ref p)) (z:=z1) I3.suite hg w2 ?_ hdb
   obtain ⟨oe,vs,oT,tt,he,⟨hcl,hdi⟩,hda,_⟩:=id t3
   refine fS I3.toHR.kin w3 he (hcl.trans v3) hsub ?_
   cases kk with
   | false=>exact hr z z1 c l _ o hn3 ow1 e0 nb
   | true=>
     have e0:o=(match X.ex b ⟨z1.t.env.set i (some (.ins c l)),z1.t.ow.filter (· != i),z1.t.st⟩ with
      | .nx s=>.nx ⟨s.env.set i none,s.ow.filter (· != i),s.st⟩
      | .rt d s=>.rt d s
      | _=>.bad):=e0
     show Ň _ _ _ _ _
     refine codeAny_handlers_suite_as (bR (z':=z1) (fr:=none) hn3 fun h4 hn4=>?_)
     obtain ⟨p',T',cls',dx',ep,x4,I4,r4,na4,t4,nT4⟩:=hn4
     cases ep
     obtain ⟨z5,e5,t5,x5,o5,I5,rd5,s5⟩:=ri x4 I4 r4 na4 t4
     rw [show ({ z1.s with heap:=h4 }:ξ)=z5.s from e5.symm]
     have g5:Go X z z5:=⟨x5,fun b ob=>ow1 b ((o5 b).mp ob)⟩
     refine b5 (X:=aF X (.ref p)) (own:=false) (d:=.ins c l) (z:=z5) (z0:=z5) .refl I5.suite hN hi (.inl hl) rd5 fun s6 a6 _ _ I6 g6=>?_
     have t6:stV z5.t i (.ins c l) false=⟨z1.t.env.set i (some (.ins c l)),z1.t.ow.filter (· != i),z1.t.st⟩:=by rw [show z5.t=z1.t from t5];rfl
     rw [← t6] at e0
     have nb6:(aF X (.ref p)).ex b (stV z5.t i (.ins c l) false)≠.bad:=fun q=>nb (by rw [e0,show X.ex b (stV z5.t i (.ins c l) false) = .bad from q])
     refine Υ (hS (.ref p) { z5 with t:=stV z5.t i (.ins c l) false,σ:=z5.σ.set i (some (.ref p)),s:=s6 } I6 nb6) (fun f s7 h7=>?_) fun e s7 ⟨z7,c7,l7,_,q7,_⟩=>ZX (by rw [e0,show X.ex b (stV z5.t i (.ins c l) false)=_ from q7]) nb
     have fin:∀ z7,z7.s=s7→Go (aF X (.ref p)) { z5 with t:=stV z5.t i (.ins c l) false,σ:=z5.σ.set i (some (.ref p)),s:=s6 } z7→Rep (aF X (.ref p)) z7→(∀ z8,z8.t=⟨z7.t.env.set i none,z7.t.ow.filter (· != i),z7.t.st⟩→z8.ρ=z7.ρ→z8.G=z7.G→Go X z z8→Rep X z8→Ps X z o f z8.s)→χ X.M X.A (do bindName X.env n .none;Ÿ X.env n hpos) (fun _ s3=>Ps X z o f s3) (PxS X z o) s7:=fun z7 e7 g7 I7 hh=>by
      subst e7
      have J7:=I7.unsuite I3.hd
      obtain ⟨m,hn,lk⟩:=id J7.lo
      refine nI hl hn (by rw [I3.ok.kd];rfl) fun h8 v n8 s8=>?_
      obtain ⟨I8,g8⟩:=J7.gone (t:=z7.s.toks+1) hN hi hl lk n8 s8
      exact hh { z7 with t:=⟨z7.t.env.set i none,z7.t.ow.filter (· != i),z7.t.st⟩,σ:=z7.σ.set i none,s:={ z7.s with heap:=h8,toks:=z7.s.toks+1 } } rfl rfl rfl (((g5.trans g6.unsuite).trans g7.unsuite).trans g8) I8
     cases q7:X.ex b (stV z5.t i (.ins c l) false) with
     | nx t7=>
       rw [show (aF X (.ref p)).ex b (stV z5.t i (.ins c l) false) = .nx t7 from q7] at h7
       rw [q7] at e0
       obtain ⟨rfl,z7,e7,et7,g7,I7⟩:=h7
       refine fin z7 e7 g7 I7 fun z8 e8 _ _ g8 I8=>nxt g8 I8 ?_
       rw [e0,e8,et7]
     | rt d t7=>
       rw [show (aF X (.ref p)).ex b (stV z5.t i (.ins c l) false) = .rt d t7 from q7] at h7
       rw [q7] at e0
       obtain ⟨u,z7,rfl,e7,et7,g7,I7,rd7⟩:=h7
       refine fin z7 e7 g7 I7 fun z8 e8 r8 G8 g8 I8=>?_
       rw [e0]
       exact ⟨u,z8,rfl,rfl,by rw [e8];exact et7,g8,I8,by rw [r8,G8];exact rd7⟩
     | exc c7 l7 t7=>rw [q7] at e0;exact ZX e0 nb
     | bad=>exact ZX q7 nb6
theorem yf {j:Nat} {Bn:ι} {np hpos:Ϭ} {hs:List Ċ} {suite:List Û} {b₀:Û} {b r:S} (hS:∀ e,LSs (aF X e) (b₀ :: suite) b) (hx:n7 X j Bn) (hg:Gl X Bn) (hdb:(Bn == ("__debug__":ι))=false) (hr:HL X hs r):HL X (.ExceptHandler (some (.Name Bn np)) none (b₀ :: suite) hpos :: hs) (.hand j none b r):=fun z z1 c l e o hn3 ow1 e0 nb=>by
 have e0:o=(match cJ X.Γ j c with
  | some true=>(match X.ex b z1.t with | .nx s=>.nx s | .rt d s=>.rt d s | _=>.bad)
  | some false=>exS.hnd X.Γ X.cal X.cal1 r c l z1.t
  | none=>.bad):=e0
 obtain ⟨p,T,cls,dx,rfl,x3,I3,r3,na3,t3,nT3⟩:=id hn3
 refine D9 (CU ?_) (fun z=>nomatch z)
 obtain ⟨ic,w1,w2,w3,w4⟩:=hx
 obtain ⟨i2,v1,v2,v3,v4,v5⟩:=id r3
 cases ek:X.Γ.cl[c]? with
 | none=>exact ZX (by rw [e0];unfold cJ;rw [ek];rfl) nb
 | some k=>
   have hsub:=w4 c k i2 ek v1 v2
   rw [show cJ X.Γ j c=some (c == j || k.sup.contains j) by unfold cJ;rw [ek];rfl] at e0
   generalize (c == j || k.sup.contains j)=kk at e0 hsub
   refine aW (X:=aF X (.ref p)) (z:=z1) I3.suite hg w2 ?_ hdb
   obtain ⟨oe,vs,oT,tt,he,⟨hcl,hdi⟩,hda,_⟩:=id t3
   refine fS I3.toHR.kin w3 he (hcl.trans v3) hsub ?_
   cases kk with
   | false=>exact hr z z1 c l _ o hn3 ow1 e0 nb
   | true=>
     have e0:o=(match X.ex b z1.t with | .nx s=>.nx s | .rt d s=>.rt d s | _=>.bad):=e0
     show Ň _ _ _ _ _
     refine codeAny_handlers_suite (bR (z':=z1) (fr:=none) hn3 fun h4 hn4=>?_)
     obtain ⟨p',T',cls',dx',ep,x4,I4,r4,na4,t4,nT4⟩:=hn4
     cases ep
     have g4:Go X z { z1 with s:={ z1.s with heap:=h4 } }:=⟨x4,ow1⟩
     have nb6:(aF X (.ref p)).ex b z1.t≠.bad:=fun q=>nb (by rw [e0,show X.ex b z1.t = .bad from q])
     refine Υ (hS (.ref p) { z1 with s:={ z1.s with heap:=h4 } } I4.suite nb6) (fun f s7 h7=>?_) fun e s7 ⟨z7,c7,l7,_,q7,_⟩=>ZX (by rw [e0,show X.ex b z1.t=_ from q7]) nb
     cases q7:X.ex b z1.t with
     | nx t7=>
       rw [show (aF X (.ref p)).ex b z1.t = .nx t7 from q7] at h7
       rw [q7] at e0
       obtain ⟨rfl,z7,e7,et7,g7,I7⟩:=h7
       subst e7
       exact nxt (g4.trans g7.unsuite) (I7.unsuite I3.hd) (by rw [e0,et7])
     | rt d t7=>
       rw [show (aF X (.ref p)).ex b z1.t = .rt d t7 from q7] at h7
       rw [q7] at e0
       obtain ⟨u,z7,rfl,e7,et7,g7,I7,rd7⟩:=h7
       subst e7
       show Ps X z o (.ret u) z7.s
       rw [e0]
       exact ⟨u,z7,rfl,rfl,et7,g4.trans g7.unsuite,I7.unsuite I3.hd,rd7⟩
     | exc c7 l7 t7=>rw [q7] at e0;exact ZX e0 nb
     | bad=>exact ZX q7 nb6
theorem wt {h0:Ċ} {hs:List Ċ} {pos:Ϭ} {body:List Û} {a r:S} (F:kb X) (hb:LSs X body a) (hh:HL X (h0 :: hs) r):LS X (.Try body (h0 :: hs) [] [] pos) (.try_ a r):=fun z I nb=>by
 have e0:X.ex (.try_ a r) z.t=(match X.ex a z.t with
  | .exc c l s=>exS.hnd X.Γ X.cal X.cal1 r c l s
  | r=>r):=rfl
 generalize X.ex (.try_ a r) z.t=o at e0 nb
 have nb1:X.ex a z.t≠.bad:=fun q=>nb (by rw [e0,q])
 refine wpAny_Try_except (Υ (hb z I nb1) (fun f s1 h=>?_) fun e s1 h=>?_)
 ·cases q:X.ex a z.t with
  | nx t=>rw [q] at h e0;obtain ⟨rfl,h⟩:=h;exact Č (show Ps X z o .next s1 by rw [e0];exact ⟨rfl,h⟩)
  | rt d t=>rw [q] at h e0;obtain ⟨u,z',rfl,h⟩:=h;exact show Ps X z o (.ret u) s1 by rw [e0];exact ⟨u,z',rfl,h⟩
  | exc c l t=>rw [q] at h;exact h.elim
  | bad=>exact ZX q nb1
 ·obtain ⟨z1,c,l,e1,q1,x1,I1,xo⟩:=h
  subst e1
  rw [q1] at e0
  exact je F x1.st I1 xo fun h2 hn2=>bR (z':={ z1 with s:={ z1.s with heap:=h2 } }) (fr:=none) hn2 fun h3 hn3=>hh z { z1 with s:={ z1.s with heap:=h3 } } c l e o hn3 x1.ow e0 nb
end
end L2.Ev
end
section
namespace L2.Ev
structure Pri (X:Cx) (p:Ε) (nm:List ι) (P:List Ε→List (ι×ζ)→ϯ→Prop):Prop where
 ex:∀ {ch l h},P ch l h→∀ b∈ch,∃ o,h.get? b=some o
 keep:∀ {ch l h h'},P ch l h→(∀ b∈ch,∀ o,h.get? b=some o→h'.get? b=some o)→P ch l h'
 set:∀ {A:ϑ} {s:ξ} {ch:List Ε} {l:List (ι×ζ)} {f:ι} {v:ζ} {Q:Unit→ξ→Prop} {E:ζ→ξ→Prop},X.K.In s.heap→P ch l s.heap→f∈nm→f ∉ l.map (·.1)→l.length<900 →
  (∀ h' ch' t,P ch' (l ++ [(f,v)]) h'→(∀ b∈ch',b∈ch∨s.heap.get? b=none)→(∀ b∈ch,b∈ch')→(∀ b o,b ∉ ch→s.heap.get? b=some o→h'.get? b=some o)→Q () { s with heap:=h',toks:=t })→χ X.M A (BL (.ref p) f v) Q E s
theorem hU {f:ι} {v:ζ}:∀ {l:List (ι×ζ)},f ∉ l.map (·.1)→∀ g,(l ++ [(f,v)]).lookup g=if g=f then some v else l.lookup g
 | [],_,g=>by
   show (match g == f with | true=>some v | false=>none)=if g=f then some v else none
   by_cases c:g=f
   ·rw [ZZ c,beq_iff_eq.mpr c]
   ·rw [ZY c,ZU.mpr c]
 | (a,b) :: r,h,g=>by
   have h':f≠a∧f ∉ r.map (·.1):=by simpa using h
   have ih:=hU (v:=v) h'.2 g
   show (match g == a with | true=>some b | false=>(r ++ [(f,v)]).lookup g)=if g=f then some v else (match g == a with | true=>some b | false=>r.lookup g)
   by_cases c:g=a
   ·have gf:g≠f:=fun w=>h'.1 (w.symm.trans c)
    rw [beq_iff_eq.mpr c,ZY gf]
   ·rw [ZU.mpr c];exact ih
theorem ra (l:List (ι×ζ)):DA (fun n=>l.lookup n) (l.map (·.1)):=fun y hy=>by
 cases q:l.lookup y with
 | none=>exact ZX q hy
 | some u=>
   obtain ⟨l1,l2,e1,_⟩:=BJ.mp q
   rw [e1];simp
section
variable {X:Cx} {z z' z0 z1:Z} {p C:Ε} {nm:List ι}
theorem mc (Z:fi X.K C) (na:∀ f∈nm,Λ X.K (.ref C) f=some none):Pri X p nm (fun ch l h=>∃ o vs,h.get? p=some o∧o.cls = .ref C∧o.data = .fields vs∧vs[1]? = some .none∧((l = []∧o.dict=none∧ch = [p])∨∃ d od,o.dict=some d∧d≠p∧ch = [p,d]∧h.get? d=some od∧NsO od l)) where
 ex:=fun ⟨o,vs,h1,_,_,_,h5⟩ b hb=>by
  rcases h5 with ⟨_,_,e⟩ | ⟨d,od,_,_,e,h6,_⟩
  ·rw [e] at hb;rw [η.mp hb];exact ⟨o,h1⟩
  ·rw [e] at hb
   rcases ς.mp hb with w | w
   ·rw [w];exact ⟨_,h1⟩
   ·rw [η.mp w];exact ⟨od,h6⟩
 keep:=fun ⟨o,vs,h1,h2,h3,h4,h5⟩ k=>by
  rcases h5 with ⟨a,b,e⟩ | ⟨d,od,a,b,e,h6,h7⟩
  ·exact ⟨o,vs,k p (by rw [e];simp) _ h1,h2,h3,h4,.inl ⟨a,b,e⟩⟩
  ·exact ⟨o,vs,k p (by rw [e];simp) _ h1,h2,h3,h4,.inr ⟨d,od,a,b,e,k d (by rw [e];simp) _ h6,h7⟩⟩
 set:=fun {A s ch l f v Q E} hK ⟨o,vs,h1,h2,h3,h4,h5⟩ hf hn hz hq=>by
  refine m8 (mA:=fun n=>l.lookup n) (ns:=l.map (·.1)) hK Z (na f hf) h1 h2 h3 ?_ (ra l) (by rw [Η];omega) fun h' d t g1 ne n k ds=>?_
  ·rcases h5 with ⟨rfl,b,_⟩ | ⟨d,od,a,b,_,h6,es,ep,h7⟩
   ·exact .inl ⟨b,fun _=>rfl⟩
   ·exact .inr ⟨d,a,b,od,es,ep,h6,h7⟩
  ·obtain ⟨od2,es,ep,e1,e2,e3,e4,e5⟩:=n
   refine hq h' [p,d] t ⟨_,vs,g1,h2,h3,h4,.inr ⟨d,od2,rfl,ne,rfl,e1,es,ep,e2,e3,e4,fun n=>(e5 n).trans (hU hn n).symm⟩⟩ (fun b hb=>?_) (fun b hb=>?_) fun b u nb e=>?_
   ·rcases h5 with ⟨_,b1,e⟩ | ⟨d',od,a,_,e,_⟩
    ·rcases ς.mp hb with w | w
     ·left;rw [e,w];simp
     ·rw [η.mp w]
      rcases ds with q | ⟨_,q⟩
      ·rw [b1] at q;cases q
      ·exact .inr q
    ·rcases ds with q | ⟨q,_⟩
     ·rw [a] at q;cases q;rw [e];exact .inl hb
     ·rw [a] at q;cases q
   ·rcases h5 with ⟨_,b1,e⟩ | ⟨d',od,a,_,e,_⟩
    ·rw [e] at hb;rw [η.mp hb];simp
    ·rcases ds with q | ⟨q,_⟩
     ·rw [a] at q;cases q;rw [e] at hb;exact hb
     ·rw [a] at q;cases q
   ·have np:b≠p:=fun w=>by
     rcases h5 with ⟨_,_,e'⟩ | ⟨_,_,_,_,e',_⟩ <;> exact nb (by rw [e',w];simp)
    refine k b u np (fun w=>?_) e
    rcases ds with q | ⟨_,q⟩
    ·rcases h5 with ⟨_,b1,_⟩ | ⟨d',od,a,_,e',_⟩
     ·rw [b1] at q;cases q
     ·rw [a] at q;cases q;exact nb (by rw [e',w];simp)
    ·rw [w,q] at e;cases e
def Bas (X:Cx) (p:Ε) (P:List Ε→List (ι×ζ)→ϯ→Prop):Prop:=∀ {A:ϑ} {s:ξ} {ch:List Ε} {l:List (ι×ζ)} {ur:List ζ} {Q:ζ→ξ→Prop} {E:ζ→ξ→Prop},X.K.In s.heap→P ch l s.heap→ur.length≤Ϣ →
 (∀ h',P ch l h'→(∀ b∈ch,∃ o,h'.get? b=some o)→(∀ b o,b ∉ ch→s.heap.get? b=some o→h'.get? b=some o)→Q .none { s with heap:=h' })→χ X.M A (call (.builtin "ValueError.__init__") (.ref p :: ur)) Q E s
theorem rA {fI:Ε} (O:gq X.K C fI veB "ValueError.__new__") (Pr:Pri X p nm fun ch l h=>∃ o vs,h.get? p=some o∧o.cls = .ref C∧o.data = .fields vs∧vs[1]? = some .none∧((l = []∧o.dict=none∧ch = [p])∨∃ d od,o.dict=some d∧d≠p∧ch = [p,d]∧h.get? d=some od∧NsO od l)):Bas X p (fun ch l h=>∃ o vs,h.get? p=some o∧o.cls = .ref C∧o.data = .fields vs∧vs[1]? = some .none∧((l = []∧o.dict=none∧ch = [p])∨∃ d od,o.dict=some d∧d≠p∧ch = [p,d]∧h.get? d=some od∧NsO od l)):=fun {A s ch l ur Q E} K2 hP lz hq=>by
 have F:=ô
 obtain ⟨ob,fv,e1,e2,e3,e4,e5⟩:=id hP
 obtain ⟨nm',q',N,bs,bm,hdct,sn,sub,ab,col,dd,k0,k1,k2,k3,k5,l',tl⟩:=O.at_
 have sz:1<fv.size:=by
  cases Nat.lt_or_ge 1 fv.size with
  | inl h=>exact h
  | inr h=>rw [Array.getElem?_eq_none h] at e4;cases e4
 have z0:0<fv.size:=Nat.lt_of_succ_lt sz
 obtain ⟨h2,g2,d2,t2,o2⟩:=s
 refine Ă (ã F.init.plain F.initEntry (wpAny_check_init_subT F (PySem.W.tail_of_in K2 tl) (K2 _ _ l') e1 e2 ?_))
 have e1':=υ (h:=h2) { cls:=.type "tuple",data:=.seq ur.toArray } e1
 obtain ⟨f0,e0⟩:∃ f0,fv[0]? = some f0:=⟨_,Bs z0⟩
 unfold ŋ.«BaseException.__init__» Co
 refine ε (wpAny_newTuple ?_ lz)
 refine ε (ε (ϙ e1' e3 e0 (ε (ē e1' e3 z0 ?_))))
 have dT:=í e3 (·.setIfInBounds 0 (ϡ h2.objs.size))
 have gs:=ϥ (h:=h2.push { cls:=.type "tuple",data:=.seq ur.toArray }) (Ě (·.setIfInBounds 0 (ϡ h2.objs.size))) e1' (õ dT)
 have ot:∀ b o,b≠p→h2.get? b=some o→((h2.push { cls:=.type "tuple",data:=.seq ur.toArray }).update p (Ě (·.setIfInBounds 0 (ϡ h2.objs.size)))).get? b=some o:=fun b o n e=>(ϗ _ _ (Ϥ n)).trans (υ _ e)
 have fin:=hq ((h2.push { cls:=.type "tuple",data:=.seq ur.toArray }).update p (Ě (·.setIfInBounds 0 (ϡ h2.objs.size)))) ⟨_,_,gs,by rw [AH];exact e2,dT,by rw [Array.getElem?_setIfInBounds_ne (by decide)];exact e4,e5.imp (fun ⟨a,b,c⟩=>⟨a,by rw [fB];exact b,c⟩) fun ⟨d,od,a,b,c,e,f⟩=>⟨d,od,by rw [fB];exact a,b,c,ot d od b e,f⟩⟩ (fun b hb=>by
  by_cases q:b=p
  ·rw [q];exact ⟨_,gs⟩
  ·obtain ⟨o,e⟩:=Pr.ex hP b hb
   exact ⟨o,ot b o q e⟩) (fun b o n e=>ot b o (fun q=>n (by rcases e5 with ⟨_,_,c⟩ | ⟨_,_,_,_,c,_⟩ <;> (rw [c,q];simp))) e)
 cases f0 <;> first | exact θ (θ fin) | exact Ņ (θ fin)
structure jh (K:τ) (B:Ε):Prop where
 ga:ģ K (.ref B) "__getattribute__" = some (some (.builtin "type.__getattribute__"))
 rd:PySem.W.readsIn K B (.type "type")=true
 at_:PySem.W.findCls K (.ref B) (.type "type") "__init__" = some (.val (.builtin "ValueError.__init__"))
inductive JsP (X:Cx) (ck:List Nat):List Ν→Prop
 | nil:JsP X ck []
 | c {x:ι} {j:Nat} {p:Ϭ} {r}:x.length≤1000→JsP X ck r→JsP X ck (.Constant (.str x) j p :: r)
 | f {x:ι} {i:Nat} {p q:Ϭ} {r}:i∈ck→X.N[i+1]? = some x→Vis X.env.scope x→((x == ("__debug__":ι)) || (x == ("__classdict__":ι)))=false→JsP X ck r→JsP X ck (.FormattedValue (.Name x p) (-1) none q :: r)
def SmV (σ:List (Option ζ)) (ck:List Nat):Prop:=∀ i∈ck,∃ (n:Nat) (t:Tok),σ[i+1]? = some (some (.int n t))∧n<100000
theorem vI {E:ζ→ξ→Prop} {ck:List Nat} {es:List Ν} (h:JsP X ck es):∀ {z:Z} {acc:ι} {Q:ι→ξ→Prop},Rep X z→SmV z.σ ck→acc.length+1000 * es.length≤100000→(∀ out t,out.length≤100000→Q out { z.s with toks:=t })→Joins X.M X.A E (evalEach es X.env) acc Q z.s:=by
 have sz:∀ {n},n≤100000→n≤Ϣ:=fun h=>ϰ h (by decide)
 induction h with
 | nil=>exact fun I hs hl q=>q _ _ (by simpa using hl)
 | @c x j p r hx _ ih=>
   intro z acc Q I hs hl q
   rw [Ι] at hl
   show χ _ _ (eval (.Constant (.str x) j p) X.env) _ _ _
   refine Ŭ ⟨x,_,rfl,sz (by rw [AM];omega),?_⟩
   exact ih (z:={ z with s:={ z.s with toks:=z.s.toks+1 } }) (I.grow (aw I.gh .tok)) hs (by rw [AM];omega) q
 | @f x i p p2 r hi hN hv hd _ ih=>
   intro z acc Q I hs hl q
   rw [Ι] at hl
   simp only [ş] at hd
   obtain ⟨n,t,e,hn⟩:=hs i hi
   have lt:=int_text_length_le10 (a:=(n:Int)) (k:=5) (by decide) hn
   have lg:(n:Int).natAbs.log2<1920:=by
    show n.log2<1920
    by_cases c:n=0
    ·subst c;decide
    ·exact Ĉ ((Eh (k:=17) c).mpr (by omega)) (by decide)
   have le:(Þ (toString (n:Int))).length≤6:=by rw [PySem.ofString_length];exact lt
   refine FormattedValue_plain (bQ I hN hv e (wpAny_formatField_int lg ⟨_,_,rfl,sz (by rw [AM];omega),?_⟩) hd.1 hd.2)
   exact ih (z:={ z with s:={ z.s with toks:=z.s.toks+1+1 } }) (I.grow (aw I.gh .tok)) hs (by rw [AM];omega) q
inductive ji (X:Cx) (ck:Option (List Nat)):List Û→List (ι×Nat)→Prop
 | nil:ji X ck [] []
 | base {c:List Nat} {s0 Bn:ι} {B:Ε} {np ap p1 p2 cp ep:Ϭ} {e1 e2:Ν} {es r l}:ck=some c→X.N[0]? = some s0→Vis X.env.scope s0→((s0 == ("__debug__":ι)) || (s0 == ("__classdict__":ι)) || (Bn == ("__debug__":ι)))=false→Gl X Bn→X.mg Bn=some (.ref B)→jh X.K B→JsP X c (e1 :: e2 :: es)→es.length≤50→(ap.endLine == cp.line)=true→ji X ck r l→ji X ck (.Expr (.Call (.Attribute (.Name Bn np) "__init__" ap) [.Name s0 p1,.JoinedStr (e1 :: e2 :: es) p2] [] cp) ep :: r) l
 | cons {s0 x:ι} {f:ι} {i:Nat} {p1 p2 p3 pos:Ϭ} {r l}:X.N[0]? = some s0→X.N[i]? = some x→Vis X.env.scope s0→Vis X.env.scope x→((s0 == ("__debug__":ι)) || (s0 == ("__classdict__":ι)) || (x == ("__debug__":ι)) || (x == ("__classdict__":ι)))=false→ji X ck r l→ji X ck (.Assign [.Attribute (.Name s0 p1) f p2] (.Name x p3) pos :: r) ((f,i) :: l)
theorem rZ {P:List Ε→List (ι×ζ)→ϯ→Prop} {ck:Option (List Nat)} (H:Pri X p nm P) (hB:∀ c,ck=some c→Bas X p P) {body:List Û} {l:List (ι×Nat)} (B:ji X ck body l):∀ (z:Z) (ch:List Ε) (l0:List (ι×ζ)) (vs:List ζ),Rep X z→z.σ[0]? = some (some (.ref p))→P ch l0 z.s.heap→(∀ b∈ch,Fre X z b∧¬ Own z b)→(∀ q∈l,q.1∈nm)→(l0.map (·.1) ++ l.map (·.1)).Nodup→l0.length+l.length<900→l.map (fun q=>z.σ[q.2]?)=vs.map (fun v=>some (some v))→(∀ c,ck=some c→SmV z.σ c) →
 χ X.M X.A (execs body X.env) (fun fl s'=>fl = .next∧∃ ch',P ch' (l0 ++ (l.map (·.1)).zip vs) s'.heap∧(∀ b∈ch',b∈ch∨z.h b=none)∧(s'.os=z.s.os∧s'.gens=z.s.gens)∧(∀ b o,b ∉ ch→z.h b=some o→s'.heap.get? b=some o)) NoE z.s:=by
 induction B with
 | nil=>exact fun z ch l0 vs I _ hP hf _ _ _ _ _=>Č ⟨rfl,ch,by simpa using hP,fun b hb=>.inl hb,⟨rfl,rfl⟩,fun _ _ _ e=>e⟩
 | @base c s0 Bn Ba np ap p1 p2 cp ep e1 e2 es r l hc n0 v0 hd hg hm2 Z J hes hln B ih=>
   intro z ch l0 vs I h0 hP hf hm nd hz hv hs
   simp only [ş] at hd
   have mp:ō true (.Name Bn np) X.env ap cp=pure cp:=by unfold ō;rw [hln];rfl
   refine Ř (Ŷ (Ŀ (pl:=do return (← importBound (.Name Bn np) X.env).getD true) (he:=by
    show (eval (.Name Bn np) X.env >>= fun ov=>ņ ap.atName >>= fun _=>holding [ov] (calleeOf true (.Name Bn np) X.env ov "__init__") >>= fun x=>ō true (.Name Bn np) X.env ap cp >>= fun callPos=>Ś callPos x.1 x.2 (ϲ cp (Α [.Name s0 p1,.JoinedStr (e1 :: e2 :: es) p2] X.env)) (È cp (Ϩ [] X.env)))=_
    rw [mp];rfl) (aW I hg hm2 (PySem.W.method_cls I.toHR.kin Z.ga (PySem.W.cls_value I.toHR.kin Z.rd Z.at_ rfl ?_)) hd.2)) I.quiet rfl)
   have I1:Rep X { z with s:={ z.s with toks:=z.s.toks+1 } }:=I.grow (aw I.gh .tok)
   refine ċ rfl (Ę (Ξ (bQ I1 n0 v0 h0 (Ξ (wpAny_JoinedStr (pos:=p2) (vI J I1 (hs c hc) (by show AY.length+1000 * (es.length+1+1)≤100000;have:AY.length=0:=rfl;omega) fun out t ho=>⟨ϰ ho (by decide),ϊ ?_⟩))) hd.1.1 hd.1.2)))
   refine hB c hc (I.toHR.kin) hP (by rw [ă];exact Θ rfl) fun h' hP' c2 k=>?_
   have W:Wr (frs X.fr) ch z.s.heap h':=⟨fun b o e _ n=>k b o n e,fun b o e n=>⟨o.slots,k b o n e⟩,fun b o e=>by
    by_cases m:b∈ch
    ·exact c2 b m
    ·exact ⟨o,k b o m e⟩⟩
   have I2:Rep X { z with s:={ z.s with heap:=h',toks:=t+1 } }:=I.wr W hf
   refine Υ (ih { z with s:={ z.s with heap:=h',toks:=t+1 } } ch l0 vs I2 h0 hP' hf hm nd hz hv hs) (fun fl s' ⟨e,ch2,q1,q2,q3,q5⟩=>⟨e,ch2,q1,fun b hb=>(q2 b hb).imp_right fun w=>?_,q3,fun b o n e=>q5 b o n (k b o n e)⟩) fun _ _ w=>w
   cases q:z.h b with
   | none=>rfl
   | some o=>obtain ⟨o',e'⟩:=W.there b o q;rw [show h'.get? b=none from w] at e';cases e'
 | @cons s0 x f i p1 p2 p3 pos r l n0 ni v0 vi hd B ih=>
   intro z ch l0 vs I h0 hP hf hm nd hz hv hs
   simp only [ş] at hd
   obtain ⟨⟨⟨d1,d2⟩,d3⟩,d4⟩:=hd
   match vs,hv with
   | [],hv=>cases hv
   | v :: vs,hv=>
     rw [à,à] at hv
     injection hv with hv1 hv2
     have nf:f ∉ l0.map (·.1)∧(l0.map (·.1) ++ [f] ++ l.map (·.1)).Nodup:=by
      rw [à] at nd
      refine ⟨fun m=>?_,by simpa using nd⟩
      exact (Į.mp nd).2.2 f m f μ rfl
     refine Ř (æ (bQ I ni vi hv1 (bQ I n0 v0 h0 (H.set I.toHR.kin hP (hm _ μ) nf.1 (by simp at hz;omega) fun h' ch' t hP' c1 c2 k=>?_) d1 d2) d3 d4) dW)
     have W:Wr (frs X.fr) ch z.s.heap h':=⟨fun b o e _ n=>k b o n e,fun b o e n=>⟨o.slots,k b o n e⟩,fun b o e=>by
      by_cases m:b∈ch
      ·exact H.ex hP' b (c2 b m)
      ·exact ⟨o,k b o m e⟩⟩
     have I1:Rep X { z with s:={ z.s with heap:=h',toks:=t } }:=I.wr W hf
     have f1:∀ b∈ch',Fre X z b∧¬ Own z b:=fun b hb=>(c1 b hb).elim (hf b) fun n=>I.fre n
     refine Υ (ih { z with s:={ z.s with heap:=h',toks:=t } } ch' (l0 ++ [(f,v)]) vs I1 h0 hP' f1 (fun q m=>hm q (ν _ m)) (by rw [ϳ];exact nf.2) (by simp at hz ⊢;omega) hv2 hs) (fun fl s' ⟨e,ch2,q1,q2,q3,q5⟩=>⟨e,ch2,by rw [ϩ] at q1;exact q1,fun b hb=>?_,q3,fun b o n e=>?_⟩) fun _ _ w=>w
     ·rcases q2 b hb with w | w
      ·exact c1 b w
      ·refine .inr ?_
       cases q:z.h b with
       | none=>rfl
       | some o=>obtain ⟨o',e'⟩:=W.there b o q;rw [show h'.get? b=none from w] at e';cases e'
     ·by_cases m:b∈ch'
      ·rcases c1 b m with w | w
       ·exact ZX w n
       ·rw [show z.h b=none from w] at e;cases e
      ·exact q5 b o m (k b o n e)
structure FnI (X:Cx) (lv:Nat) (f:Ε) (fd:ù) (ps nm:List ι) (ck:Option (List Nat)):Prop where
 len:ps.length=nm.length+1
 run:∀ (A:ϑ) (fr:List AK) (z:Z) (args:Args) (us:List ζ) (p:Ε) (P:List Ε→List (ι×ζ)→ϯ→Prop) (ch:List Ε),aT lv A→HR { X with A:=A,fr:=fr } z→BindsTo z.s fd args (ps.zip (.ref p :: us))→us.length=nm.length→Pri X p nm P→(∀ c,ck=some c→Bas X p P∧∀ i∈c,∃ (n:Nat) (t:Tok),us[i]? = some (.int n t)∧n<100000)→P ch [] z.s.heap→(∀ b∈ch,z.G b=none∧¬ Mu z.ρ b∧b ∉ frs fr) →
  Ň X.M A (.call (.ref f) args) (fun r s'=>r = .ok (.ret .none)∧∃ ch',P ch' (nm.zip us) s'.heap∧(∀ b∈ch',b∈ch∨z.h b=none)∧(s'.os=z.s.os∧s'.gens=z.s.gens)∧(∀ b o,b ∉ ch→z.h b=some o→s'.heap.get? b=some o)) z.s
theorem vr {name qual:ι} {params:CB} {body:List Û} {scope:Ė} {dV kV doc pm ct oc cd:ζ} {an od:Option Ε} {osl:Array (Option ζ)} {ps:List ι} {f:Ε} {k:Nat} {l:List (ι×Nat)} (lk:X.K.lookup f=some ⟨oc,od,.func (Å name qual params body scope dV kV doc pm an cd ct),osl⟩) (hcd:ó X.K cd qual=true) (S:cW ps ps scope) (hn:ps.length=nm.length+1) (nd:nm.Nodup) (h9:nm.length<900) (hl:l=nm.zip (B2 1 nm.length))
 {ck:Option (List Nat)} (hb:∀ A fr L,ji (cxF X X.cal X.cal1 ps qual scope f cd A fr L) ck body l):FnI X (k+1) f (Å name qual params body scope dV kV doc pm an cd ct) ps nm ck:=by
 refine ⟨hn,fun A fr z args us p P ch hr I hbd hlu H hB hP hc=>?_⟩
 have hl2:(ϡ p :: us).length=ps.length:=by rw [Ι];omega
 have KX:X.K.In z.s.heap:=I.kin
 have lim:z.s.heap.NoLimit:=I.md.nolimit.keeps (Rep.bk I)
 have hkind:∀ y∈ps.zip (.ref p :: us),scope.names.lookup y.1=some .local∨(scope.names.lookup y.1=some .cell∧((Cr (z.s.heap.objs.size+1) scope.names []).lookup y.1).isSome=true):=fun ⟨n,v⟩ hy=>by
  rcases S.par n (Ğ hy).1 with q | q
  ·exact .inl q
  ·exact .inr ⟨q,ĸ _ _ _ (.inl q)⟩
 refine CV hr.depth (KX _ _ lk) rfl S.co S.gen rfl (C0 KX hcd) (hbd _ _ _ _ ?_)
 refine BU S.kind hkind fun env he s1 x=>?_
 subst he
 refine ⟨lim.keeps x.toInCall.keep,codeAny_func ?_⟩
 have hk:∀ b o,z.h b=some o→s1.heap.get? b=some o:=x.toInCall.keep
 have J:=ie (es:=Δ (ϡ p :: us).length none) (cal:=X.cal) (cal1:=X.cal1) S I hr hl2 (Ó ..) (fun i d e=>by rw [ä] at e;split at e <;> cases e) x
 have lcf:∀ {a o},z.h a=some o→¬ Lc (cxF X X.cal X.cal1 ps qual scope f cd A fr z.s.heap.objs.size) a:=fun {a o} e h=>by
  have:z.s.heap.objs.size≤a:=by
   rcases h with rfl | ⟨y,e⟩
   ·exact Ο _
   ·exact đ (x.above y _ (ϸ e))
  exact ZX (Χ e) (ź.mpr this)
 have noz:∀ {b},b∈ch→∃ o,z.h b=some o:=fun hb=>H.ex hP _ hb
 have hP1:P ch [] s1.heap:=H.keep hP fun b _ o e=>hk b o e
 have fc:∀ b∈ch,Fre (cxF X X.cal X.cal1 ps qual scope f cd A fr z.s.heap.objs.size) ⟨z.ρ,z.G,⟨Δ (ϡ p :: us).length none ++ Δ (ps.length - ps.length) none,[],z.t.st⟩,(ϡ p :: us).map some ++ Δ (ps.length - ps.length) none,s1⟩ b∧¬ Own ⟨z.ρ,z.G,⟨Δ (ϡ p :: us).length none ++ Δ (ps.length - ps.length) none,[],z.t.st⟩,(ϡ p :: us).map some ++ Δ (ps.length - ps.length) none,s1⟩ b:=fun b hb=>by
  obtain ⟨o,e⟩:=noz hb
  obtain ⟨c1,c2,c3⟩:=hc b hb
  refine ⟨⟨c1,c2,fun m=>?_,lcf e⟩,fun ⟨i,m,_⟩=>nomatch m⟩
  rcases ς.mp (show b∈z.s.heap.objs.size :: frs fr from m) with q | q
  ·exact ZX (Χ e) (by rw [q];exact ě _)
  ·exact c3 q
 have lm:l.map (·.1)=nm:=by rw [hl,List.map_fst_zip (by simp)]
 have H':Pri (cxF X X.cal X.cal1 ps qual scope f cd A fr z.s.heap.objs.size) p nm P:=⟨H.ex,H.keep,H.set⟩
 refine Υ (rZ H' (fun c e=>(hB c e).1) (hb A fr z.s.heap.objs.size) _ ch [] us J (d5 (n:=ps.length - ps.length) (i:=0) rfl) hP1 fc (fun q m=>by rw [← lm];exact List.mem_map_of_mem m) (by rw [lm];simpa using nd) (by have:=ZS C7 lm;rw [Η] at this;simp;omega) ?_ fun c e i hi=>?_) (fun fl s' ⟨e,ch',q1,q2,q3,q5⟩=>?_) fun _ _ w=>w.elim
 ·rw [hl]
  refine List.ext_getElem? fun i=>?_
  rw [Ω,Ω]
  cases q:us[i]? with
  | none=>
    have:¬ i<us.length:=fun h=>by rw [φ h] at q;cases q
    rw [C2 (by rw [À,List.length_range'];omega)];rfl
  | some v=>
    have hi:i<us.length:=(ο.mp q).1
    have e1:(nm.zip (B2 1 nm.length))[i]? = some (nm[i]'(by omega),1+i):=by rw [Ù];exact ⟨φ _,by rw [List.getElem?_range' (by omega)];simp⟩
    rw [e1]
    show some (((ϡ p :: us).map some ++ Δ (ps.length - ps.length) none)[1+i]?)=some (some (some v))
    rw [d5 (d:=v) (by rw [Œ,ϵ];exact q)]
 ·obtain ⟨n,t,e1,e2⟩:=(hB c e).2 i hi
  exact ⟨n,t,d5 (d:=ą n t) (by rw [ϵ];exact e1),e2⟩
 ·subst e
  rw [lm] at q1
  have none1:∀ {a},s1.heap.get? a=none→z.h a=none:=fun {a} n=>by
   cases q:z.h a with
   | none=>rfl
   | some o=>rw [hk a o q] at n;cases n
  obtain ⟨h1,tk,e1,_⟩:=x.done
  exact ⟨rfl,ch',q1,fun b hb=>(q2 b hb).imp_right none1,⟨q3.1.trans (by rw [e1]),q3.2.trans (by rw [e1])⟩,fun b o n e=>q5 b o n (hk b o e)⟩
end
section
variable {X:Cx} {z z' z0 z1:Z}
theorem oG {C:Ε} {x:ι} {Q:ζ→ξ→Prop} {E:ζ→ξ→Prop} (I:Rep X z) (kp:Ϟ X.K (.ref C)=true) (hg:Gl X x) (hm:X.mg x=some (.ref C)) (hd:(x == ("__debug__":ι))=false) (he:Α (ea :: er) X.env=(false,eval ea X.env) :: Α er X.env) (hpl:(ϲ pos (Α er X.env)).any (·.1)=false)
 (h:χ X.M X.A (spliced (ϲ pos (Α (ea :: er) X.env))) (fun us s'=>X.K.In s'.heap∧χ X.M X.A (call (.ref C) us) Q E s') E z.s):χ X.M X.A (eval (.Call (.Name x p) (ea :: er) [] pos) X.env) Q E z.s:=
 Ê (aW I hg hm (Ą (h₀:=X.base) I.md.kin kp h he hpl) hd)
theorem qh {x:ι} {j:Nat} {k:Cl} {i:CI} {fd:ù} {ps:List ι} {fI:Ε} {Bx nwI iniI:String} {bmB:List ζ} {np cp pos:Ϭ} (Fb:ė Bx nwI iniI bmB) (O:gq X.K i.ad fI bmB nwI) {ck:Option (List Nat)} (F:FnI X lv fI fd ps i.nm ck) (hk:ck=none∨(ck=some k.chk∧gq X.K i.ad fI veB "ValueError.__new__")) (hb:bS X.K fd ps []) (hr:aT (lv+1) X.A) (Z:fi X.K i.ad) (na:∀ f∈i.nm,Λ X.K (.ref i.ad) f=some none) (hcl:X.Γ.cl[j]? = some k) (hci:X.W.ci[j]? = some i) (hwh:X.W.what[j]? = some 2) (hn:i.nm.length=k.at_.length) (h0:k.at_.isEmpty=false)
 (be:Ϝ X.K i.ad (.type "BaseException")=some true) (ty:ò X.K (.ref i.ad)=some (.type "type")) (kp:Ϟ X.K (.ref i.ad)=true) (hc:X.calm=true) (hg:Gl X x) (hm:X.mg x=some (.ref i.ad)) (ha:LA X (ea :: er) es) (hd:(x == ("__debug__":ι))=false) (he:Α (ea :: er) X.env=(false,eval ea X.env) :: Α er X.env) (hpl:(ϲ cp (Α er X.env)).any (·.1)=false):LS X (.Raise (some (.Call (.Name x np) (ea :: er) [] cp)) none pos) (.rais j es):=fun z I nb=>by
 rw [arm_exec_Raise]
 refine ε (Ô (nS (K:=X.K) (C:=i.ad) be ty (I.hd hc) (ε ?_)))
 refine oG I kp hg hm hd he hpl ((ha false cp).gos (f:=fun l s=>if eM X.Γ j l then .exc j (mZ X.Γ j l) s else .bad) .refl I rfl nb fun z1 l us y1 x1 I1 r1 e1=>⟨I1.toHR.kin,?_⟩)
 have rs:=r1.rds
 by_cases c:eM X.Γ j l=true
 rotate_left
 ·rw [ZY c] at e1;exact ZX e1 nb
 rw [ZZ c] at e1
 have ea:mZ X.Γ j l=l:=by unfold mZ;rw [hcl];exact ZY (by rw [h0];exact ϛ)
 rw [ea] at e1
 unfold eM at c
 rw [hcl] at c
 dsimp only at c
 rw [ZY (by rw [h0];exact ϛ)] at c
 simp only [Τ,decide_eq_true_eq] at c
 obtain ⟨⟨⟨c1,c2⟩,c3⟩,c4⟩:=c
 have c1:l.length=k.at_.length:=by simpa using c1
 have lu:us.length=i.nm.length:=by rw [← rs.len,c1,hn]
 have l0:l≠[]:=by intro w;rw [w] at c4;simp at c4
 refine oS (h:=z1.s.heap) (g:=z1.s.gens) (d:=z1.s.drawn) (t:=z1.s.toks) (os:=z1.s.os) Fb I1.toHR.kin O (by rw [← rs.len];exact big (by omega)) fun h' p m=>?_
 have kz:∀ b o,z1.h b=some o→h'.get? b=some o:=fun b o e=>m.keeps b o e
 have np:z1.h p=none:=m.new
 obtain ⟨tt,ht,_,_⟩:=m.there
 have g:Gr z1.s { z1.s with heap:=h' }:=⟨rfl,rfl,kz⟩
 have bd:=hb { z1.s with heap:=h' } (.ref p :: us) (I1.toHR.kin.keeps kz) (by rw [ώ,Ι,F.len,lu])
 rw [ώ] at bd
 have H1:=(I1.toHR.grow (aw I1.gh g)).at (A:=X.A.under (.builtin "type.__call__" ⟨.ref i.ad :: us,[]⟩)) (gj i.ad us []) rfl
 have fp:=I1.fre np
 refine Ă (â (F.run _ X.fr { z1 with s:={ z1.s with heap:=h' } } ⟨.ref p :: us,[]⟩ us p _ [p] (hr.make i.ad us []) H1 bd lu (mc Z na) (fun c e=>?_) ⟨_,_,ht,rfl,rfl,rfl,.inl ⟨rfl,rfl,rfl⟩⟩ fun b hb=>?_) fun r s' hq=>?_)
 ·rcases hk with w | ⟨w,O'⟩
  ·rw [w] at e;cases e
  ·rw [w] at e;cases e
   refine ⟨rA O' (mc Z na),fun j hj=>?_⟩
   have sm:=ϝ.mp c2 j hj
   cases q:l[j]? with
   | none=>rw [q] at sm;cases sm
   | some d=>
     obtain ⟨u,hu,ru⟩:=rs.get q
     rw [q] at sm
     cases d with
     | int n=>
       obtain ⟨t,rfl⟩:=ru
       unfold qQ at sm
       simp only [Τ,decide_eq_true_eq] at sm
       obtain ⟨m,rfl⟩:=BP sm.1
       exact ⟨m,t,hu,by omega⟩
     | _=>cases sm
 ·rw [η.mp hb];exact ⟨fp.1.1,fp.1.2.1,fp.1.2.2.1⟩
 obtain ⟨rfl,ch',⟨o,vs,q1,q2,q3,q4,q5⟩,cc,os,kk⟩:=hq
 have gr:Gr z1.s s':=⟨os.1.trans g.os,os.2.trans g.gs,fun b o e=>kk b o (fun w=>by have e:z1.h b=some o:=e;rw [η.mp w,np] at e;cases e) (kz b o e)⟩
 rcases q5 with ⟨w,_,_⟩ | ⟨d,od,q6,q7,q8,q9,q10⟩
 ·have:i.nm.zip us≠[]:=fun w=>by
   have hl:=rs.len
   have:0<l.length:=ũ.mpr l0
   have w0:(i.nm.zip us).length=0:=by rw [w];rfl
   rw [À] at w0
   omega
  exact ZX w this
 have nd:z1.h d=none:=by
  rcases cc d (by rw [q8];simp) with w | w
  ·exact ZX (η.mp w) q7
  ·cases q:z1.h d with
   | none=>rfl
   | some o=>have:=kz d o q;rw [show h'.get? d=none from w] at this;cases this
 have fd:=I1.fre nd
 have gw:Grw z1 (fun b=>if b=d then some od else z1.G b) s':=⟨gr,fun b o e=>by
  by_cases c:b=d
  ·subst c;rw [fd.1.1] at e;cases e
  ·rw [ZY c];exact e,fun b o e=>by
  by_cases c:b=d
  ·subst c;rw [ZZ rfl] at e;cases e;exact q9
  ·rw [ZY c] at e;exact gr.k b o (I1.gh b o e),fun b o e=>by
  by_cases c:b=d
  ·subst c;exact .inr nd
  ·rw [ZY c] at e;exact .inl e⟩
 have I3:=I1.grow gw
 have pG:(if p=d then some od else z1.G p)=none:=by rw [ZY (Ϥ q7)];exact fp.1.1
 refine ⟨rfl,ε (Ô (θ ⟨p,o,vs,rfl,I3.toHR.kin,q1,q2,q3,q4,{ z1 with G:=fun b=>if b=d then some od else z1.G b,s:=s' },j,l,rfl,e1,x1.trans gw.ee.go,I3,p,.ref i.ad,some d,rfl,⟨i,hci,hwh,rfl,by rw [c1,hn];exact Ο _,.inr ⟨d,od,us,rfl,ZZ rfl,q10,rs.mono (κ _) gw.gg⟩⟩,⟨x1.st.no np,⟨pG,fp.1.2⟩,fp.2⟩,.inl ⟨o,vs,q1,⟨q2,q6⟩,q3,q4⟩⟩))⟩
def FnJ (X:Cx) (lv:Nat) (f:Ε) (fd:ù) (ps nm:List ι) (k:Cl) (C:Ε):Prop:=∃ ck,FnI X lv f fd ps nm ck∧(ck=none∨(ck=some k.chk∧gq X.K C f veB "ValueError.__new__"))
end
def xv (K:τ) (C:Ε) (bmB:List ζ) (newId:String):Prop:=∃ (nm q:ι) (N:Ε) (bs bm:List ζ) (hdct:Bool) (sn:List ι) (sub:List ζ) (ab:Bool) (col:Option Bool) (dd:Option Ε) (k0 k1 k2 k3 k5:Option ζ),
 K.lookup C=some (D5 nm q C N bs bm hdct sn sub ab col dd k0 k1 k2 k3 k5 newId)∧PySem.W.nsOkIn K N=true∧Ϗ K N "__init__" = some none∧CK K bmB bm=true
inductive TxP (X:Cx):List Ν→E→Prop
 | nil:TxP X [] .nil
 | c {x:ι} {j:Nat} {p:Ϭ} {r es}:x.length≤1000→TxP X r es→TxP X (.Constant (.str x) j p :: r) es
 | f {x:ι} {i:Nat} {p q:Ϭ} {r es}:X.N[i]? = some x→Vis X.env.scope x→((x == ("__debug__":ι)) || (x == ("__classdict__":ι)))=false→TxP X r es→TxP X (.FormattedValue (.Name x p) (-1) none q :: r) (.cons (.op .add (.v i) (.c (.int 0))) es)
 | r {x:ι} {i:Nat} {p q:Ϭ} {r es}:X.N[i]? = some x→Vis X.env.scope x→((x == ("__debug__":ι)) || (x == ("__classdict__":ι)))=false→TxP X r es→TxP X (.FormattedValue (.Name x p) 114 none q :: r) (.cons (.op .add (.v i) (.c (.str ""))) es)
section
variable {X:Cx} {z:Z}
inductive TxA (X:Cx):Ν→E→Prop
 | c {x:ι} {j:Nat} {p:Ϭ}:x.length≤1000→TxA X (.Constant (.str x) j p) .nil
 | j {e1 e2:Ν} {r:List Ν} {p:Ϭ} {es:E}:TxP X (e1 :: e2 :: r) es→r.length≤8→TxA X (.JoinedStr (e1 :: e2 :: r) p) es
end
end L2.Ev
namespace L2.Ev
theorem o9 {prog:ϱ} {w:Ð} {A:ϑ} {E:ζ→ξ→Prop} {s:ξ} {Q:Option ζ→ξ→Prop} {δ:Type} {R:δ→ζ→Prop} {a:Ε} {D:List (ι×δ)} {z:ι} {tz:Tok} {d:δ}
 (T:D8 R s.heap a D) (hat:ß z D=some d) (h:∀ v,R d v→Q (some v) { s with toks:=s.toks+1 }):χ (model prog w) A (BM a (.str z tz)) Q E s:=by
 obtain ⟨_,o,es,ep,ho,_,hd,hr⟩:=T
 obtain ⟨v,hv,hfl⟩:=hr.find_some hat
 have all:(es.all fun e=>isExactStrKey e.key)=true:=by
  obtain ⟨l⟩:=es
  simpa using hr.exact
 have hq:Q (BX (fun k v=>v.isStr k) es z) { s with toks:=s.toks+1 }:=by
  rw [show BX (fun k v=>v.isStr k) es z=some v by obtain ⟨l⟩:=es;simpa [BX] using hv]
  exact h v hfl
 rw [Dv] at hq
 unfold BM
 refine ό ?_
 refine ε (Bu (ε (Ck (s:={ s with toks:=s.toks+1 }) ho hd all ?_)))
 cases hi:es.findIdx? fun e=>e.key.isStr z with
 | none=>
   rw [hi] at hq
   exact θ hq
 | some i=>
   rw [hi] at hq
   exact ε (DK (s:={ s with toks:=s.toks+1 }) ho hd (θ hq))
theorem rS {prog:ϱ} {w:Ð} {A:ϑ} {E:ζ→ξ→Prop} {s:ξ} {Q:Option ζ→ξ→Prop} {δ:Type} {R:δ→ζ→Prop} {a:Ε} {D:List (ι×δ)} {z:ι} {tz:Tok}
 (T:D8 R s.heap a D) (hat:ß z D=none) (h:Q none { s with toks:=s.toks+1 }):χ (model prog w) A (BM a (.str z tz)) Q E s:=by
 obtain ⟨_,o,es,ep,ho,_,hd,hr⟩:=T
 have hv:=hr.find_none hat
 have all:(es.all fun e=>isExactStrKey e.key)=true:=by
  obtain ⟨l⟩:=es
  simpa using hr.exact
 have hq:Q (BX (fun k v=>v.isStr k) es z) { s with toks:=s.toks+1 }:=by
  rw [show BX (fun k v=>v.isStr k) es z=none by obtain ⟨l⟩:=es;simpa [BX] using hv]
  exact h
 rw [Dv] at hq
 unfold BM
 refine ό (ε (Bu (ε (Ck (s:={ s with toks:=s.toks+1 }) ho hd all ?_))))
 cases hi:es.findIdx? fun e=>e.key.isStr z with
 | none=>
   rw [hi] at hq
   exact θ hq
 | some i=>
   rw [hi] at hq
   exact ε (DK (s:={ s with toks:=s.toks+1 }) ho hd (θ hq))
section
variable {X:Cx} {z z1:Z} {a:Ε} {t:List (ι×L2.Bk.Dk)} {j:Nat} {x:ι}
abbrev TbL (X:Cx) (a:Ε) (t:List (ι×L2.Bk.Dk)):Prop:=B7 (aN X.K) (fun b=>X.K.lookup b) a t=true
theorem qT (I:HR X z) (hK:TbL X a t):D8 (fun d v=>aN X.K d v=true) z.s.heap a t:=KTD.tab_of_look (fun _ _ h=>h) (fun b o e=>I.kin b o e) hK
theorem wa (hg:Gl X x) (hm:X.mg x=some (.ref a)) (ht:X.Γ.tb[j]? = some t) (hK:TbL X a t) (hb:LE X eb b) (hs:ig eb) (hd:(x == ("__debug__":ι))=false) (hl:∀ r,letTemporaryGo (.Name x p) (.ref a) r=pure ()):LE X (.Subscript (.Name x p) eb pos) (.tab j b):=fun br z I nb=>
 Dy (aW I hg hm ((hb true).go .refl I rfl nb fun z1 d u y1 x1 I1 r1 e1=>by
  rw [ht] at e1
  cases d with
  | str k=>
    obtain ⟨tz,rfl⟩:=(r1.rb.cr0 I1:RD X.W z1.ρ z1.G (.str k) u)
    have T:=qT I1.toHR hK
    have ty:z1.s.TypeIs (.ref a) "dict":=by obtain ⟨_,o,_,_,ho,hc,_⟩:=T;exact ⟨o,ho,hc.1⟩
    refine cR x1 I1 e1 nb fun d q=>?_
    obtain ⟨d0,hat,rfl⟩:=π.mp q
    refine subscriptTail_builtin ty Bc.lookup ?_ (hs _ _) hl
    unfold Bd
    refine ό (ε (B8 ty (by decide) (ε (Ϸ (name:=Þ "__getitem__") ty Bc (Õ Bc ty entry_dict_getitem ?_ (args_dict_getitem _ _))))))
    show χ _ _ (BM a (.str k tz) >>= _) _ _ z1.s
    exact ε (o9 T hat fun v hv=>θ ⟨v,rfl,θ (.old I1 .tok (I1.toHR.top hv))⟩)
  | _=>exact ZX e1 nb) hd)
theorem j0 {k:ι} {tz:Tok} {Q:ζ→ξ→Prop} {E:ζ→ξ→Prop} (I:HR X z) (hK:TbL X a t) (q:∀ n,Q (.bool (ß k t).isSome) { z.s with toks:=n }):χ X.M X.A (û .In (.str k tz) (.ref a)) Q E z.s:=by
 have T:=qT I hK
 have ty:z.s.TypeIs (.ref a) "dict":=by obtain ⟨_,o,_,_,ho,hc,_⟩:=T;exact ⟨o,ho,hc.1⟩
 have nsm:=T.1
 show χ _ _ (do return Ý (← contains (.ref a) (.str k tz))) _ _ z.s
 refine ε ?_
 unfold contains
 refine ό ?_
 refine ε (E8 ty AV.lookup ?_)
 show χ _ _ (if (some (De "dict.__contains__") == some Ϙ)=true then _ else _) _ _ z.s
 rw [ZY (by rw [beq_builtin_none];exact ϛ)]
 refine ε (wpAny_callSpecialUnlessNone?_slot (name:=Þ "__contains__") ty AV (Õ AV ty entry_dict_contains ?_ (args_dict_contains _ _)))
 show χ _ _ (BM a (.str k tz) >>= _) _ _ z.s
 cases hat:ß k t with
 | some d=>
   rw [hat] at q
   refine ε (o9 T hat fun v _=>?_)
   show χ _ _ (ret (.bool true)) _ _ _
   exact θ ⟨_,rfl,á (θ (q _))⟩
 | none=>
   rw [hat] at q
   refine ε (rS T hat ?_)
   show χ _ _ (Ej a (.str k tz) >>= _) _ _ _
   exact ε (wpAny_pendingKey_other nsm (θ ⟨_,rfl,á (θ (q _))⟩))
theorem pV (hg:Gl X x) (hm:X.mg x=some (.ref a)) (ht:X.Γ.tb[j]? = some t) (hK:TbL X a t) (hb:LE X eb b) (hd:(x == ("__debug__":ι))=false) (h1:å .In (.Name x p)=false):LE X (.Compare eb [.In] [.Name x p] pos) (.tabin j b):=fun br z I nb=>
 ŷ ((hb true).go .refl I rfl nb fun z1 d u y1 x1 I1 r1 e1=>by
  rw [ht] at e1
  cases d with
  | str k=>
    obtain ⟨tz,rfl⟩:=(r1.rb.cr0 I1:RD X.W z1.ρ z1.G (.str k) u)
    exact aW I1 hg hm (j0 I1.toHR hK fun n=>Dn.at x1 I1 e1 (.tok fun _ _ _=>rfl)) hd
  | _=>exact ZX e1 nb) h1
theorem qo (hg:Gl X x) (hm:X.mg x=some (.ref a)) (ht:X.Γ.tb[j]? = some t) (hK:TbL X a t) (hb:LE X eb b) (hd:(x == ("__debug__":ι))=false) (h1:å .In (.Name x p)=false):LT X (.Compare eb [.In] [.Name x p] pos) (.tabin j b):=fun z I nb=>
 ĝ ((hb true).go .refl I (aq ..) nb fun z1 d u y1 x1 I1 r1 e1=>by
  rw [ht] at e1
  cases d with
  | str k=>
    obtain ⟨tz,rfl⟩:=(r1.rb.cr0 I1:RD X.W z1.ρ z1.G (.str k) u)
    exact aW I1 hg hm (j0 I1.toHR hK fun n=>(Dn.tok (X:=X) (z:=z1) (d:=.bl (ß k t).isSome) (n:=n) fun _ _ _=>rfl).tru x1 I1 e1 nb) hd
  | _=>exact ZX e1 nb) h1
end
section
variable {X:Cx} {z z1:Z}
structure M2 (X:Cx) (o:Ν) (m:ι) (apos:Ϭ) (e f:Ν) (cpos:Ϭ):Prop where
 base:ĉ o m X.env (eval o X.env)=eval o X.env
 few:((ϲ cpos (Α [e,f] X.env)).all (fun x=>!x.1) && (È cpos (Ϩ [] X.env)).all (fun x=>x.1.isSome) && decide (([e,f]:List Ν).length+([]:List ţ).length+(if ([]:List ţ).isEmpty then 0 else 1)<30))=true
 line:(apos.endLine == cpos.line)=true
 trees:ϲ cpos (Α [e,f] X.env) = [(false,eval e X.env),(false,eval f X.env)]
theorem jY:∀ {l ss vs},eB l=some ss→RDs W ρ G l vs→StrsAre vs ss
 | [],ss,vs,e,r=>by cases e;cases (show vs = [] from r);exact .nil
 | d :: l,ss,vs,e,r=>by
   cases d with
   | str b=>
     obtain ⟨cs,q,rfl⟩:=π.mp (show (eB l).map (b :: ·)=some ss from e)
     obtain ⟨v,r',rfl,⟨t,rfl⟩,tl⟩:=r
     exact .cons b t (jY q tl)
   | _=>cases e
end
structure Zd where
 it:Ε
 fp:List Ε
 n:Nat
 P:Nat→ζ→Prop
 St:Nat→ϯ→Prop
abbrev IsT (h:ϯ) (T:Ε) (l:List ζ):Prop:=h.get? T=some { cls:=.type "tuple",data:=.seq l.toArray }
structure ZOk (prog:ϱ) (w:Ð) (A:ϑ) (n:Nat) (l:List Zd) (z TI TO:Ε):Prop where
 dr:∀ d∈l,CA prog w A d.it d.fp d.n d.P d.St∧n≤d.n∧d.it∈d.fp∧z ∉ d.fp∧TO ∉ d.fp∧TI≠d.it
 ap:∀ (i j:Nat) (d e:Zd),l[i]? = some d→l[j]? = some e→i≠j→d.it ∉ e.fp
 hd:∃ d r,l=d :: r∧d.n=n
 zT:z≠TI∧z≠TO∧TI≠TO
 sz:l.length≤Ϣ
section
variable {prog:ϱ} {w:Ð} {A:ϑ} {E:ζ→ξ→Prop} {s:ξ} {n i:Nat} {l:List Zd} {z TI TO:Ε} {old:List ζ}
theorem tS {Q:ζ→ξ→Prop} (D:ZOk prog w A n l z TI TO) (hz:Ż s.heap z TI TO .none) (hTI:IsT s.heap TI (l.map fun d=>.ref d.it)) (hTO:IsT s.heap TO old) (hl:old.length=l.length) (hi:i<n) (st:∀ d∈l,d.St i s.heap)
 (hQ:∀ h' tk vals,Ż h' z TI TO (Ì s.heap.objs.size)→IsT h' TO vals→vals.length=l.length→(∀ d∈l,d.St (i+1) h')→(∀ (j:Nat) (d:Zd) v,l[j]? = some d→vals[j]? = some v→d.P i v)→IsT h' s.heap.objs.size vals→h'.objs.size=s.heap.objs.size+1 →
  (∀ b o,b≠z→b≠TO→(∀ d∈l,b≠d.it)→s.heap.get? b=some o→h'.get? b=some o)→Q (.ref s.heap.objs.size) { s with heap:=h',toks:=tk }) :
 χ (model prog w) A (ŋ.«zip.__next__» ⟨[.ref z],[]⟩) (fun fin s'=>∃ v,fin = .done (.ret v)∧Q v s') E s:=by
 have ne:((l.map fun d=>ϡ d.it).toArray.isEmpty)=false:=by obtain ⟨d,r,rfl,_⟩:=D.hd;simp
 show χ _ _ (field (.ref z) 2 >>= _) _ _ _;refine ε (ϙ hz rfl (x:=.bool false) rfl ?_)
 show χ _ _ (field (.ref z) 3 >>= _) _ _ _;refine ε (ϙ hz rfl (x:=.ref TI) rfl ?_)
 refine ε (Ú hTI rfl ?_)
 simp only [ne]
 show χ _ _ (Æ (.ref z) >>= _) _ _ _
 refine ε ?_;unfold Æ;refine ε (ϙ hz rfl (x:=.none) rfl (θ ?_));simp only [if_true]
 refine ε (AS ?_);refine ε (ϙ hz rfl (x:=.ref TO) rfl ?_);refine ε (Ď hz (by simp) fun h₁ hz₁ hs₁=>?_)
 replace hz₁:Ż h₁ z TI TO .ellipsis:=hz₁
 refine ε ?_
 refine wpAny_forIn_list _ (fun rem r s'=>r=⟨none,()⟩∧∃ h tk vals,s'={ s with heap:=h,toks:=tk }∧rem=((l.drop vals.length).map fun d=>ϡ d.it).zipIdx vals.length∧vals.length≤l.length∧Ż h z TI TO .ellipsis∧IsT h TO (vals ++ old.drop vals.length)∧(∀ (j:Nat) (d:Zd),l[j]? = some d→d.St (if j<vals.length then i+1 else i) h)∧(∀ (j:Nat) (d:Zd) v,l[j]? = some d→vals[j]? = some v→d.P i v)∧h.objs.size=s.heap.objs.size∧(∀ b o,b≠z→b≠TO→(∀ d∈l,b≠d.it)→s.heap.get? b=some o→h.get? b=some o)) _ (fun x rem r s' hI=>?_) (fun r s' hI=>?_) _ _ ⟨rfl,h₁,s.toks,[],rfl,?_,Î _,hz₁,?_,fun j d e=>?_,fun j d v _ e=>by simp at e,hs₁.1,fun b o h _ _ e=>hs₁.extBut _ _ h e⟩
 ·obtain ⟨rfl,h,tk,vals,rfl,er,hv,gz,gT,gS,gP,gs,gk⟩:=hI
  cases q:l.drop vals.length with
  | nil=>rw [q] at er;cases er
  | cons d r=>
    rw [q,à,CY] at er
    cases er
    have hd:l[vals.length]? = some d:=by have:=Ŵ (xs:=l) (i:=vals.length) (j:=0);rw [q] at this;simpa using this.symm
    have hlt:=(ο.mp hd).1
    obtain ⟨dw,dn,di,dz,dT,dI⟩:=D.dr d (Ζ hd)
    refine ε (C9 ?_);show χ _ _ (ϴ (.ref d.it) >>= _) _ _ _
    have g0:=gS _ d hd
    rw [ZY (ě _)] at g0
    refine ε (dw.item i _ _ _ (Ĉ hi dn) g0 fun x h2 tk2 hP hst hs2=>θ ?_)
    replace hs2:ë d.it h h2:=hs2
    have zi:z≠d.it:=fun e=>dz (e ▸ di)
    have Ti:TO≠d.it:=fun e=>dT (e ▸ di)
    have gT2:IsT h2 TO (vals ++ old.drop vals.length):=hs2.extBut _ _ Ti gT
    refine ε (Ú gT2 rfl ?_);have hsz:(vals ++ old.drop vals.length).length≤Ϣ:=by have:=D.sz;rw [ω,AQ];omega
    refine ε (ť gT2 rfl ?_ (by simpa using hsz) (by simpa using AJ hsz))
    refine ε (Ņ (θ ⟨rfl,h2.update TO _,tk2,vals ++ [x],rfl,?_,?_,?_,?_,fun j e he=>?_,fun j e v he hv'=>?_,?_,fun b o b1 b2 b3 e=>?_⟩))
    ·rw [ω,Κ,← List.drop_drop,q];rfl
    ·rw [ω,Κ];exact hlt
    ·exact (Ø ..).extBut _ _ D.zT.2.1 (hs2.extBut _ _ zi gz)
    ·show (h2.update TO _).get? TO=_
     rw [ϥ _ gT2 rfl]
     have ho:vals.length<old.length:=by omega
     have e4:(vals ++ old.drop vals.length).set vals.length x=vals ++ [x] ++ old.drop (vals ++ [x]).length:=by
      rw [List.set_append_right _ _ (Ο _),Ő,ω,Κ,ī ho,List.set_cons_zero,ϩ];rfl
     rw [← e4]
     simp [ć]
    ·obtain ⟨ew,en,ei,ez,eT,eI⟩:=D.dr e (Ζ he)
     have fr:∀ {f:Cy→Cy},∀ b∈e.fp,∀ o,h2.get? b=some o→(h2.update TO f).get? b=some o:=fun b hb o q=>(Ø ..).extBut _ _ (fun w=>eT (w ▸ hb)) q
     rw [ω,Κ]
     by_cases c:j=vals.length
     ·subst c
      rw [hd] at he;cases he
      rw [ZZ (Ł _)]
      exact dw.frame _ _ _ hst fr
     ·have g1:=gS j e he
      have hne:=D.ap _ _ _ _ hd he (Ϥ c)
      have:(if j<vals.length+1 then i+1 else i)=(if j<vals.length then i+1 else i):=by
       by_cases c2:j<vals.length
       ·rw [ZZ c2,ZZ (by omega)]
       ·rw [ZY c2,ZY (by omega)]
      rw [this]
      exact ew.frame _ _ _ (ew.frame _ _ _ g1 fun b hb o q=>hs2.extBut _ _ (fun w=>hne (w ▸ hb)) q) fr
    ·by_cases c:j<vals.length
     ·rw [Ψ c] at hv'
      exact gP j e v he hv'
     ·rw [Ρ (by omega)] at hv'
      have:j - vals.length=0:=by
       have:=(ο.mp hv').1
       simp at this;omega
      rw [this] at hv'
      cases hv'
      have:j=vals.length:=by omega
      subst this
      rw [hd] at he;cases he;exact hP
    ·exact (Ø h2 TO _).1.trans (hs2.1.trans gs)
    ·exact (Ø ..).extBut _ _ b2 (hs2.extBut _ _ (b3 d (Ζ hd)) (gk b o b1 b2 b3 e))
 ·obtain ⟨rfl,h,tk,vals,rfl,er,hv,gz,gT,gS,gP,gs,gk⟩:=hI
  have el:vals.length=l.length:=by
   have:=ZS C7 er
   simp at this;omega
  rw [el,← hl,AR,ώ] at gT
  show χ _ _ (A3 (.ref TO) >>= _) _ _ _
  refine ε (Ú gT rfl ?_);refine ε (wpAny_newTuple ?_ (by have:=D.sz;simpa using (show vals.length≤Ϣ by omega)))
  have hzlt:z<h.objs.size:=Χ gz
  show χ _ _ (Ħ (.ref z) (.ref h.objs.size) >>= _) _ _ _
  refine ε ?_;unfold Ħ
  have hz₈:Ż (h.push { cls:=.type "tuple",data:=.seq vals.toArray }) z TI TO .ellipsis:=υ _ gz
  refine ε (Ď hz₈ (by simp) fun h₉ hz₉ hs₉=>?_)
  replace hz₉:Ż h₉ z TI TO (Ì h.objs.size):=hz₉
  refine Ď hz₉ (by simp) fun hA hzA hsA=>?_
  replace hzA:Ż hA z TI TO (Ì h.objs.size):=hzA
  have up:∀ d o,d≠z→h.get? d=some o→hA.get? d=some o:=fun d o c1 e=>hsA.extBut _ _ c1 (hs₉.extBut _ _ c1 (υ _ e))
  have hTA:IsT hA h.objs.size vals:=hsA.extBut _ _ (î hzlt) (hs₉.extBut _ _ (î hzlt) (ψ _ rfl))
  have hzA8:hA.objs.size=h.objs.size+1:=by rw [hsA.1,hs₉.1,Ϻ]
  refine θ ⟨_,rfl,?_⟩
  show Q (.ref h.objs.size) _
  rw [gs] at hzA hTA hzA8 ⊢
  refine hQ hA tk vals hzA (up _ _ (Ϥ D.zT.2.1) gT) el (fun d hd=>?_) gP hTA hzA8 fun b o b1 b2 b3 e=>up b o b1 (gk b o b1 b2 b3 e)
  obtain ⟨j,hj⟩:=ϓ.mp hd
  have g1:=gS j d hj
  rw [ZZ (by rw [el];exact (ο.mp hj).1)] at g1
  obtain ⟨dw,_,_,dz,_⟩:=D.dr d hd
  exact dw.frame _ _ _ g1 fun b hb o q=>up b o (fun w=>dz (w ▸ hb)) q
 ·simp
 ·rw [ğ,ϒ,ĥ];exact hs₁.extBut _ _ (Ϥ D.zT.2.1) hTO
 ·obtain ⟨dw,_,_,dz,_⟩:=D.dr d (Ζ e)
  rw [ϒ,ZY (ŕ _)]
  exact dw.frame _ _ _ (st d (Ζ e)) fun b hb o q=>hs₁.extBut _ _ (fun w=>dz (w ▸ hb)) q
theorem xl {Q:Fin→ξ→Prop} (D:ZOk prog w A n l z TI TO) (hz:Ż s.heap z TI TO .none) (hTI:IsT s.heap TI (l.map fun d=>.ref d.it)) (st:∀ d∈l,d.St n s.heap)
 (hE:∀ h' e,(∀ b o,b≠z→(∀ d∈l,b≠d.it)→s.heap.get? b=some o→h'.get? b=some o)→(∃ o,h'.get? e=some o∧o.cls = .type "StopIteration")→E (.ref e) { s with heap:=h' }) :
 χ (model prog w) A (ŋ.«zip.__next__» ⟨[.ref z],[]⟩) Q E s:=by
 obtain ⟨d,r,rfl,hn⟩:=D.hd
 obtain ⟨dw,dn,di,dz,dT,dI⟩:=D.dr d μ
 show χ _ _ (field (.ref z) 2 >>= _) _ _ _;refine ε (ϙ hz rfl (x:=.bool false) rfl ?_)
 show χ _ _ (field (.ref z) 3 >>= _) _ _ _;refine ε (ϙ hz rfl (x:=.ref TI) rfl ?_)
 refine ε (Ú hTI rfl ?_)
 simp only [show (((d :: r).map fun d=>ϡ d.it).toArray.isEmpty)=false by simp]
 show χ _ _ (Æ (.ref z) >>= _) _ _ _
 refine ε ?_;unfold Æ;refine ε (ϙ hz rfl (x:=.none) rfl (θ ?_));simp only [if_true]
 refine ε (AS ?_);refine ε (ϙ hz rfl (x:=.ref TO) rfl ?_);refine ε (Ď hz (by simp) fun h₁ hz₁ hs₁=>?_)
 replace hz₁:Ż h₁ z TI TO .ellipsis:=hz₁
 refine ε ?_;simp only [à,CY,Ġ]
 refine ε (ε (C9 ?_));show χ _ _ (ϴ (.ref d.it) >>= _) _ _ _
 have s1:d.St d.n h₁:=by rw [hn];exact dw.frame _ _ _ (st d μ) fun b hb o q=>hs₁.extBut _ _ (fun w=>dz (w ▸ hb)) q
 refine ε (dw.done _ _ _ s1 fun h₂ e hs₂ he=>?_)
 obtain ⟨oe,hoe,hce⟩:=he
 have zi:z≠d.it:=fun e=>dz (e ▸ di)
 have hz₂:Ż h₂ z TI TO .ellipsis:=hs₂ _ _ zi hz₁
 have hez:e≠z:=fun x=>by subst x;rw [hz₂] at hoe;cases hoe;simp at hce
 exact Ď hz₂ (by simp) fun h₃ _ hs₃=>hE h₃ e (fun b o c1 c3 x=>hs₃.extBut _ _ c1 (hs₂ _ _ (c3 d μ) (hs₁.extBut _ _ c1 x))) ⟨oe,hs₃.extBut _ _ hez hoe,hce⟩
theorem nY (D:ZOk prog w A.in1 n l z TI TO):BZ prog w A z (z :: TI :: TO :: l.flatMap (·.fp)) (z :: TO :: l.map (·.it)) n
 (fun i vals=>∃ vs:List ζ,vals=vs.toArray∧vs.length=l.length∧∀ (j:Nat) (d:Zd) v,l[j]? = some d→vs[j]? = some v→d.P i v)
 (fun i h=>Ż h z TI TO .none∧IsT h TI (l.map fun d=>.ref d.it)∧(∃ vs,IsT h TO vs∧vs.length=l.length)∧∀ d∈l,d.St i h)
 (fun i T h=>(Ż h z TI TO (Ì T)∧IsT h TI (l.map fun d=>.ref d.it)∧(∃ vs,IsT h TO vs∧vs.length=l.length)∧(∀ d∈l,d.St (i+1) h)∧T≠z∧T≠TO∧∀ d∈l,T≠d.it)∧Exa h T) where
 sub:=fun b hb=>by
  rcases ς.mp hb with rfl | hb
  ·exact μ
  rcases ς.mp hb with rfl | hb
  ·exact ν _ (ν _ μ)
  obtain ⟨d,hd,rfl⟩:=ϖ.mp hb
  exact ν _ (ν _ (ν _ (ϔ.mpr ⟨d,hd,(D.dr d hd).2.2.1⟩)))
 frame:=fun i h h' ⟨h1,h2,⟨vs,h3,h4⟩,h5⟩ hk=>⟨hk z (by simp) _ h1,hk TI (by simp) _ h2,⟨vs,hk TO (by simp) _ h3,h4⟩,fun d hd=>(D.dr d hd).1.frame _ _ _ (h5 d hd) fun b hb o e=>hk b (ν _ (ν _ (ν _ (ϔ.mpr ⟨d,hd,hb⟩)))) o e⟩
 item:=fun i s Q E hi ⟨h1,h2,⟨vs,h3,h4⟩,h5⟩ hQ=>by
  have hT:s.TypeIs (.ref z) "zip":=⟨_,h1,rfl⟩
  unfold Bv
  refine ε (Cc (Ϸ (name:=Þ "__next__") hT Ş (Õ Ş hT DD (tS D h1 h2 h3 h4 hi h5 fun h' tk vals a1 a2 a3 a4 a5 a6 a7 a8=>θ ?_) (Dj _))))
  have lt:∀ {c o},s.heap.get? c=some o→s.heap.objs.size≠c:=fun e=>î (Χ e)
  refine hQ s.heap.objs.size vals.toArray h' tk ⟨vals,rfl,a3,a5⟩ (Ο _) ⟨_,a6,rfl,_,rfl⟩ ⟨⟨a1,a8 _ _ (Ϥ D.zT.1) D.zT.2.2 (fun d hd=>(D.dr d hd).2.2.2.2.2) h2,⟨vals,a2,a3⟩,a4,lt h1,lt h3,fun d hd=>?_⟩,fun o q=>(by rw [a6] at q;cases q;rfl)⟩ fun b o hb e=>a8 b o (fun w=>hb (w ▸ μ)) (fun w=>hb (w ▸ ν _ μ)) (fun d hd w=>hb (w ▸ ν _ (ν _ (ϖ.mpr ⟨d,hd,rfl⟩)))) e
  obtain ⟨o,e⟩:=(D.dr d hd).1.live i _ (h5 d hd)
  exact lt e
 go:=fun elts k pos i T s Q E ⟨⟨h1,h2,⟨vs,h3,h4⟩,h5,t1,t2,t3⟩,_⟩ hQ=>wpAny_letOwnedTupleGo_zip h1 fun h' hz' hs'=>hQ h' ⟨hz',hs'.extBut _ _ (Ϥ D.zT.1) h2,⟨vs,hs'.extBut _ _ (Ϥ D.zT.2.1) h3,h4⟩,fun d hd=>(D.dr d hd).1.frame _ _ _ (h5 d hd) fun b hb o e=>hs'.extBut _ _ (fun w=>(D.dr d hd).2.2.2.1 (w ▸ hb)) e⟩ fun b o hb e=>hs'.extBut _ _ (fun w=>hb (w ▸ μ)) e
 apart:=fun i T h ⟨⟨_,_,_,_,t1,t2,t3⟩,_⟩ hT=>by
  rcases ς.mp hT with w | hT
  ·exact t1 w
  rcases ς.mp hT with w | hT
  ·exact t2 w
  obtain ⟨d,hd,w⟩:=ϖ.mp hT
  exact t3 d hd w.symm
 done:=fun s Q E ⟨h1,h2,_,h5⟩ hQ=>by
  have hT:s.TypeIs (.ref z) "zip":=⟨_,h1,rfl⟩
  unfold Bv
  refine ε (Cc (Ϸ (name:=Þ "__next__") hT Ş (Õ Ş hT DD (xl D h1 h2 h5 fun h' e hk he=>?_) (Dj _))))
  obtain ⟨o,ho,hc⟩:=he
  refine ε (wpAny_isInstance (T:="StopIteration") (b:=true) ⟨o,ho,hc⟩ isSubtype_stop ?_)
  exact θ (hQ h' s.toks fun b o hb e=>hk b o (fun w=>hb (w ▸ μ)) (fun d hd w=>hb (w ▸ ν _ (ν _ (ϖ.mpr ⟨d,hd,rfl⟩)))) e)
 self:=fun i s Q E hst hQ=>DU hst.1 hQ
end
end L2.Ev
end
section
namespace PySem
namespace F
theorem z3_typeCall (a b c):checkTypeCall "zip" ⟨[a,b,c],[]⟩=pure ():=by kernel_rfl
theorem z3_newCall (a b c):ř "zip.__new__" ⟨[.type "zip",a,b,c],[]⟩=pure ():=by kernel_rfl
theorem z3_args_init (a b c d):CH "object.__init__" ⟨[a,b,c,d],[]⟩:=by
 unfold CH;rw [signature?_of (id:="object.__init__") (n:=['_','_','t','i','n','i','_','_']) (o:=['t','c','e','j','b','o']) (by kernel_rfl) owner_object];kernel_rfl
end F
section
variable {prog:ϱ} {w:Ð} {A:ϑ} {E:ζ→ξ→Prop} {s:ξ}
theorem eU (hit:s.heap.IsTupleIter it t i) (ht:s.heap.IsTuple t items) (hx:items[i]? = some x)
 (hQ:∀ h',h'.IsTupleIter it t (i+1)→ë it s.heap h'→Q x { s with heap:=h' }):χ (model prog w) A (ϴ (.ref it)) Q E s:=by
 obtain ⟨o,ho,hc,hd⟩:=id hit
 obtain ⟨ol,hol,_,nl,hdl⟩:=ht
 unfold ϴ
 refine ε (Ϸ (name:=Þ "__next__") hit.typeIs Ā (Õ Ā hit.typeIs BG ?_ (BB _)))
 show χ _ _ (field (.ref it) 0 >>= _) _ _ s;refine ε (ϙ ho hd (x:=.ref t) rfl ?_)
 show χ _ _ (if (ϡ t == Ϙ)=true then _ else _) _ _ s;rw [ZY (show ¬ ((ϡ t == Ϙ)=true) from ϛ)]
 show χ _ _ (field (.ref it) 1 >>= _) _ _ s;refine ε (ϙ ho hd (x:=.int i 0) rfl ?_)
 show χ _ _ (A3 (.ref t) >>= _) _ _ s;refine ε (Ú hol hdl ?_);simp only [ĳ,hx]
 refine ε (ē ho hd (by simp) (θ ⟨x,rfl,θ (hQ _ ?_ (Ø ..))⟩))
 exact ⟨_,ϥ _ ho (õ (í hd _)),(AH ..).trans hc,by rw [í hd];simp [Ì]⟩
theorem gc (hh:A.handled=none) (hit:s.heap.IsTupleIter it t i) (ht:s.heap.IsTuple t items) (hx:items[i]? = none)
 (hE:∀ h' e,E1 it s.heap h'→(∃ o,h'.get? e=some o∧o.cls = .type "StopIteration")→E (.ref e) { s with heap:=h' }):χ (model prog w) A (ϴ (.ref it)) Q E s:=by
 obtain ⟨o,ho,hc,hd⟩:=id hit
 obtain ⟨ol,hol,_,nl,hdl⟩:=ht
 unfold ϴ
 refine ε (Ϸ (name:=Þ "__next__") hit.typeIs Ā (Õ Ā hit.typeIs BG ?_ (BB _)))
 show χ _ _ (field (.ref it) 0 >>= _) _ _ s;refine ε (ϙ ho hd (x:=.ref t) rfl ?_)
 show χ _ _ (if (ϡ t == Ϙ)=true then _ else _) _ _ s;rw [ZY (show ¬ ((ϡ t == Ϙ)=true) from ϛ)]
 show χ _ _ (field (.ref it) 1 >>= _) _ _ s;refine ε (ϙ ho hd (x:=.int i 0) rfl ?_)
 show χ _ _ (A3 (.ref t) >>= _) _ _ s;refine ε (Ú hol hdl ?_);simp only [ĳ,hx]
 refine ε (AS (ε (ē ho hd (by simp) ?_)));show χ _ _ (newExc (.type "StopIteration") [] >>= _) _ _ _
 refine ε ?_;simp only [newExc,newTuple];refine ε (Â ?_ (by size_fits))
 refine ε (m:=firstArgMember _ _) (BE (a:=Ϙ) (by first | rfl | (simp only [firstArgMember];rfl)) ?_);refine Â ?_ (by size_fits)
 simp only [raiseNew];refine ε (wpAny_handled ?_);first | rw [show A.in1.handled=none from hh] | rw [hh]
 refine ε (θ (wpAny_throw ?_));exact hE _ _ (((Ø ..).extBut.push _).push _) ⟨_,ψ _ rfl,rfl⟩
end
end PySem
namespace L2.Ev
theorem eJ {prog:ϱ} {w:Ð} {A:ϑ} (hh:A.handled=none) (it l:Ε) (hne:l≠it) (items:Array ζ) :
 CA prog w A it [it,l] items.size (fun i v=>items[i]? = some v) (fun i h=>h.IsTupleIter it l i∧h.IsTuple l items) where
 live:=fun _ _ st=>let ⟨o,ho,_⟩:=st.1;⟨o,ho⟩
 frame:=fun _ _ _ st hk=>⟨st.1.at fun o e=>hk it (by simp) o e,st.2.at fun o e=>hk l (by simp) o e⟩
 item:=fun i s Q E hi st hQ=>eU st.1 st.2 (x:=items[i]) (by simp [hi]) fun h' hit' hs'=>hQ _ h' s.toks (by simp [hi]) ⟨hit',st.2.extBut hs'.extBut hne⟩ hs'
 done:=fun s Q E st hE=>gc hh st.1 st.2 (by simp) hE
def bM (h:ϯ) (k:Bool) (a:Ε) (xs:Array ζ):Prop:=(k=true∧h.IsTuple a xs)∨(k=false∧h.IsList a xs)
def itN:Bool→String
 | true=>"tuple_iterator"
 | false=>"list_iterator"
abbrev itO (k:Bool) (a:Ε):Cy:={ cls:=.type (itN k),data:=.fields #[.ref a,.int 0 0] }
section
variable {prog:ϱ} {w:Ð} {A:ϑ} {E:ζ→ξ→Prop} {s:ξ} {k k1 k2 k3:Bool} {a a1 a2 a3:Ε} {xs ys zs:Array ζ}
theorem bM.push (h:bM h0 k a xs) (o:Cy):bM (h0.push o) k a xs:=h.imp (fun ⟨e,q⟩=>⟨e,Heap.IsTuple.push q o⟩) fun ⟨e,q⟩=>⟨e,Heap.IsList.push q o⟩
theorem dN {Q:ζ→ξ→Prop} (h:bM s.heap k a xs) (q:Q (.ref s.heap.objs.size) { s with heap:=s.heap.push (itO k a) }):χ (model prog w) A (Š (.ref a)) Q E s:=by
 rcases h with ⟨rfl,h⟩ | ⟨rfl,h⟩
 ·exact ď h q
 ·exact Ĕ h q
theorem ro (k1 k2:Bool) (a1 a2:Ε) (xs ys:Array ζ) :
 DQ (ŋ.«zip.__new__» ⟨[.type "zip",.ref a1,.ref a2],[]⟩) (fun _ R s=>bM s.heap k1 a1 xs∧bM s.heap k2 a2 ys ∧
  R (.ok (.ret (.ref (((((s.heap.push (itO k1 a1)).push (itO k2 a2)).push { cls:=.type "tuple",data:=.seq #[.ref s.heap.objs.size,.ref (s.heap.push (itO k1 a1)).objs.size] }).push { cls:=.type "tuple",data:=.seq #[.none,.none] })).objs.size)))
    { s with heap:=(((((s.heap.push (itO k1 a1)).push (itO k2 a2)).push { cls:=.type "tuple",data:=.seq #[.ref s.heap.objs.size,.ref (s.heap.push (itO k1 a1)).objs.size] }).push { cls:=.type "tuple",data:=.seq #[.none,.none] }).push { cls:=.type "zip",data:=.fields #[.none,.bool false,.bool false,.ref ((s.heap.push (itO k1 a1)).push (itO k2 a2)).objs.size,.ref (((s.heap.push (itO k1 a1)).push (itO k2 a2)).push { cls:=.type "tuple",data:=.seq #[.ref s.heap.objs.size,.ref (s.heap.push (itO k1 a1)).objs.size] }).objs.size] }) }):=
 .of_wp fun prog w A R s h=>by
  obtain ⟨hp,g,d,tk,os⟩:=s;obtain ⟨h1,h2,h⟩:=h
  have hsub:=sub_zip
  have L1:bM (Ŕ ⟨hp,g,d,tk,os⟩) k1 a1 xs:=h1
  have L2:bM (Ŕ ⟨hp.push (itO k1 a1),g,d,tk,os⟩) k2 a2 ys:=h2.push _
  wp_walk using dN L1,dN L2
  exact ⟨_,rfl,h⟩
abbrev zH2 (h:ϯ) (k1 k2:Bool) (a1 a2:Ε):ϯ:=((h.push (itO k1 a1)).push (itO k2 a2))
theorem rp (k1 k2 k3:Bool) (a1 a2 a3:Ε) (xs ys zs:Array ζ) :
 DQ (ŋ.«zip.__new__» ⟨[.type "zip",.ref a1,.ref a2,.ref a3],[]⟩) (fun _ R s=>bM s.heap k1 a1 xs∧bM s.heap k2 a2 ys∧bM s.heap k3 a3 zs ∧
  R (.ok (.ret (.ref (((((zH2 s.heap k1 k2 a1 a2).push (itO k3 a3)).push { cls:=.type "tuple",data:=.seq #[.ref s.heap.objs.size,.ref (s.heap.push (itO k1 a1)).objs.size,.ref (zH2 s.heap k1 k2 a1 a2).objs.size] }).push { cls:=.type "tuple",data:=.seq #[.none,.none,.none] })).objs.size)))
    { s with heap:=(((((zH2 s.heap k1 k2 a1 a2).push (itO k3 a3)).push { cls:=.type "tuple",data:=.seq #[.ref s.heap.objs.size,.ref (s.heap.push (itO k1 a1)).objs.size,.ref (zH2 s.heap k1 k2 a1 a2).objs.size] }).push { cls:=.type "tuple",data:=.seq #[.none,.none,.none] }).push { cls:=.type "zip",data:=.fields #[.none,.bool false,.bool false,.ref ((zH2 s.heap k1 k2 a1 a2).push (itO k3 a3)).objs.size,.ref (((zH2 s.heap k1 k2 a1 a2).push (itO k3 a3)).push { cls:=.type "tuple",data:=.seq #[.ref s.heap.objs.size,.ref (s.heap.push (itO k1 a1)).objs.size,.ref (zH2 s.heap k1 k2 a1 a2).objs.size] }).objs.size] }) }):=
 .of_wp fun prog w A R s h=>by
  obtain ⟨hp,g,d,tk,os⟩:=s;obtain ⟨h1,h2,h3,h⟩:=h
  have hsub:=sub_zip
  have L1:bM (Ŕ ⟨hp,g,d,tk,os⟩) k1 a1 xs:=h1
  have L2:bM (Ŕ ⟨hp.push (itO k1 a1),g,d,tk,os⟩) k2 a2 ys:=h2.push _
  have L3:bM (Ŕ ⟨(hp.push (itO k1 a1)).push (itO k2 a2),g,d,tk,os⟩) k3 a3 zs:=(h3.push _).push _
  wp_walk using dN L1,dN L2,dN L3
  exact ⟨_,rfl,h⟩
def psh (h:ϯ):List Cy→ϯ
 | []=>h
 | o :: r=>psh (h.push o) r
theorem dg:∀ {l:List Cy} {h:ϯ} {b o},h.get? b=some o→(psh h l).get? b=some o
 | [],_,_,_,e=>e
 | a :: r,h,_,_,e=>dg (l:=r) (h:=h.push a) (υ _ e)
theorem bD:∀ {l:List Cy} {h:ϯ} {j:Nat} {o:Cy},l[j]? = some o→o.isFreed=false→(psh h l).get? (h.objs.size+j)=some o
 | [],_,_,_,e,_=>by simp at e
 | a :: r,h,0,o,e,q=>by simp at e;subst e;exact dg (l:=r) (h:=h.push a) (ψ _ q)
 | a :: r,h,j+1,o,e,q=>by
   have:=bD (h:=h.push a) (j:=j) (l:=r) (by simpa using e) q
   rw [Ϻ] at this
   rw [show h.objs.size+(j+1)=h.objs.size+1+j by omega];exact this
theorem mU {Q:ζ→ξ→Prop} (h1:bM s.heap k1 a1 xs) (h2:bM s.heap k2 a2 ys)
 (h:∀ h',h'=psh s.heap [itO k1 a1,itO k2 a2,{ cls:=.type "tuple",data:=.seq #[.ref s.heap.objs.size,.ref (s.heap.objs.size+1)] },{ cls:=.type "tuple",data:=.seq #[.none,.none] },{ cls:=.type "zip",data:=.fields #[.none,.bool false,.bool false,.ref (s.heap.objs.size+2),.ref (s.heap.objs.size+3)] }]→Q (.ref (s.heap.objs.size+4)) { s with heap:=h' }) :
 χ (model prog w) A (call (.type "zip") [.ref a1,.ref a2]) Q E s:=by
 refine callType_new F.called_zip (by decide) (F.typeCall_zip_2 _ _) (F.newCall_zip_2 _ _) (fun obj=>F.args_object_init_3 obj _ _) DS (ro k1 k2 a1 a2 xs ys) ⟨h1,h2,?_⟩
 have z1:=@Ϻ
 show _∧_
 simp only [Ϻ]
 exact ⟨⟨_,by rw [show s.heap.objs.size+4=(((((s.heap.push (itO k1 a1)).push (itO k2 a2)).push { cls:=.type "tuple",data:=.seq #[.ref s.heap.objs.size,.ref (s.heap.objs.size+1)] }).push { cls:=.type "tuple",data:=.seq #[.none,.none] })).objs.size by simp only [Ϻ]];exact ψ _ rfl,rfl⟩,h _ rfl⟩
end
section
variable {prog:ϱ} {w:Ð} {A:ϑ} {E:ζ→ξ→Prop} {s:ξ} {k k1 k2 k3:Bool} {a a1 a2 a3:Ε} {xs ys zs:Array ζ}
theorem mV {Q:ζ→ξ→Prop} (h1:bM s.heap k1 a1 xs) (h2:bM s.heap k2 a2 ys) (h3:bM s.heap k3 a3 zs)
 (h:∀ h',h'=psh s.heap [itO k1 a1,itO k2 a2,itO k3 a3,{ cls:=.type "tuple",data:=.seq #[.ref s.heap.objs.size,.ref (s.heap.objs.size+1),.ref (s.heap.objs.size+2)] },{ cls:=.type "tuple",data:=.seq #[.none,.none,.none] },{ cls:=.type "zip",data:=.fields #[.none,.bool false,.bool false,.ref (s.heap.objs.size+3),.ref (s.heap.objs.size+4)] }]→Q (.ref (s.heap.objs.size+5)) { s with heap:=h' }) :
 χ (model prog w) A (call (.type "zip") [.ref a1,.ref a2,.ref a3]) Q E s:=by
 refine callType_new F.called_zip (by decide) (F.z3_typeCall _ _ _) (F.z3_newCall _ _ _) (fun obj=>F.z3_args_init obj _ _ _) DS (rp k1 k2 k3 a1 a2 a3 xs ys zs) ⟨h1,h2,h3,?_⟩
 show _∧_
 simp only [Ϻ]
 exact ⟨⟨_,bD (j:=5) (h:=s.heap) (l:=[itO k1 a1,itO k2 a2,itO k3 a3,{ cls:=.type "tuple",data:=.seq #[.ref s.heap.objs.size,.ref (s.heap.objs.size+1),.ref (s.heap.objs.size+2)] },{ cls:=.type "tuple",data:=.seq #[.none,.none,.none] },{ cls:=.type "zip",data:=.fields #[.none,.bool false,.bool false,.ref (s.heap.objs.size+3),.ref (s.heap.objs.size+4)] }]) rfl rfl,rfl⟩,h _ rfl⟩
def zd (k:Bool) (it a:Ε) (xs:Array ζ):Zd:=⟨it,[it,a],xs.size,fun i v=>xs[i]? = some v,fun i h=>(if k then h.IsTupleIter it a i else h.IsListIter it a i)∧if k then h.IsTuple a xs else h.IsList a xs⟩
theorem j6 (hh:A.handled=none) (k:Bool) (it a:Ε) (hne:a≠it) (xs:Array ζ):CA prog w A it [it,a] xs.size (zd k it a xs).P (zd k it a xs).St:=by
 cases k
 ·exact E2 hh it a hne xs
 ·exact eJ hh it a hne xs
theorem j7 {h:ϯ} (e:h.get? it=some (itO k a)) (q:bM h k a xs):(zd k it a xs).St 0 h:=by
 rcases q with ⟨rfl,q⟩ | ⟨rfl,q⟩
 ·exact ⟨⟨_,e,rfl,rfl⟩,q⟩
 ·exact ⟨⟨_,e,rfl,rfl⟩,q⟩
end
theorem lne (n j a:Nat) (ha:a<n):a≠n+j:=by omega
theorem mH:∀ {l m:List D} {i:Nat},(eE l m)[i]? = (l[i]?).bind fun a=>(m[i]?).map fun b=>.tup [a,b]
 | [],_,_=>by simp [eE]
 | a :: r,[],i=>by simp [eE]
 | a :: r,b :: q,0=>by simp [eE]
 | a :: r,b :: q,i+1=>by rw [eE,ϵ,mH];rfl
theorem j8:∀ {l m:List D},l.length≤m.length→(eE l m).length=l.length
 | [],_,_=>by simp [eE]
 | a :: r,[],h=>by simp at h
 | a :: r,b :: q,h=>by rw [eE,Ι,j8 (by simpa using h),Ι]
theorem mI:∀ {l m n:List D} {i:Nat},(cf l m n)[i]? = (l[i]?).bind fun a=>(m[i]?).bind fun b=>(n[i]?).map fun c=>.tup [a,b,c]
 | [],_,_,_=>by simp [cf]
 | a :: r,[],_,i=>by simp [cf]
 | a :: r,b :: q,[],i=>by simp [cf]
 | a :: r,b :: q,c :: p,0=>by simp [cf]
 | a :: r,b :: q,c :: p,i+1=>by rw [cf,ϵ,mI];rfl
theorem j9:∀ {l m n:List D},l.length≤m.length→l.length≤n.length→(cf l m n).length=l.length
 | [],_,_,_,_=>by simp [cf]
 | a :: r,[],_,h,_=>by simp at h
 | a :: r,b :: q,[],_,h=>by simp at h
 | a :: r,b :: q,c :: p,h,h'=>by rw [cf,Ι,j9 (by simpa using h) (by simpa using h'),Ι]
section
variable {X:Cx} {z z' z0 z1:Z} {tg:Ν}
theorem RDs.v {i:Nat} {d:D} {v:ζ} (r:RDs W ρ G l vs) (e:l[i]? = some d) (q:vs.toArray[i]? = some v):RD W ρ G d v:=by
 obtain ⟨v',w1,w2⟩:=r.get e
 rw [show vs[i]? = some v by simpa using q] at w1;cases w1;exact w2
theorem jW {x:D} (I:Rep X z) (h:RD X.W z.ρ z.G x u) (e:sqL x=some l):∃ k a vs,u = .ref a∧(∃ o,z.G a=some o)∧bM z.s.heap k a vs.toArray∧RDs X.W z.ρ z.G l vs:=by
 cases x with
 | lst m=>cases e;obtain ⟨a,o,vs,rfl,g,⟨⟨n,rfl⟩,_⟩,r⟩:=h;exact ⟨false,a,vs,rfl,⟨_,g⟩,.inr ⟨rfl,_,I.gh _ _ g,rfl,n,rfl⟩,r⟩
 | tup m=>cases e;obtain ⟨a,o,vs,rfl,g,⟨tc,⟨n,td⟩,_⟩,r⟩:=h;exact ⟨true,a,vs,rfl,⟨_,g⟩,.inl ⟨rfl,_,I.gh _ _ g,tc,n,td⟩,r⟩
 | _=>cases e
theorem bM.psh (q:bM h k a xs):bM (psh h l) k a xs:=q.imp (fun ⟨e,q⟩=>⟨e,q.at fun o e=>dg e⟩) fun ⟨e,q⟩=>⟨e,q.at fun o e=>dg e⟩
theorem rm {es:List Ν} {k:Nat} {tp:Ϭ} {ds:List D} {n:Nat} {l:List Zd} {zz TI TO:Ε} {h':ϯ} {o:Out D} (hc:X.calm=true) (x:Ee X z z1) (I:Rep X z1) (kp:∀ b o,z1.s.heap.get? b=some o→h'.get? b=some o)
 (D:∀ A,A.handled=none→ZOk X.W.P X.W.w A n l zz TI TO) (hz:Ż h' zz TI TO .none) (hTI:IsT h' TI (l.map fun d=>.ref d.it)) (hTO:∃ vs,IsT h' TO vs∧vs.length=l.length) (st:∀ d∈l,d.St 0 h') (hn:ds.length=n) (nw:∀ b,b=zz∨b=TI∨b=TO→z1.h b=none)
 (fp:∀ d∈l,∃ a,d.fp = [d.it,a]∧z1.h d.it=none∧∃ o,z1.G a=some o)
 (hP:∀ i d (vs:List ζ),vs.length=l.length→(∀ (j:Nat) (d:Zd) v,l[j]? = some d→vs[j]? = some v→d.P i v)→ds[i]? = some d→∃ l,d = .tup l∧∀ ρ' G',z1.ρ <+: ρ'→Sub z1.G G'→RDs X.W ρ' G' l vs) (e:o = .ok (.lst ds) z1.t) :
 χ X.M X.A (Š (.ref zz)) (FI X z (.Tuple es k tp) o) NoE { z1.s with heap:=h' }:=by
 refine DU hz (eK (ds:=ds) x I (s2:={ z1.s with heap:=h' }) (.hp (t:=z1.s.toks) kp) (Itr.walksT (I.hd hc) hn (fun A hA=>nY (D A.in1 hA)) (fun i h st b hb=>?_) (fun _ _ _ m=>m.2) fun i vals d p1 p2=>?_) ⟨hz,hTI,hTO,st⟩ (fun b hb=>?_) e)
 ·obtain ⟨w1,w2,⟨_,w3,_⟩,w4⟩:=st
  rcases ς.mp hb with rfl | hb
  ·exact ⟨_,w1⟩
  rcases ς.mp hb with rfl | hb
  ·exact ⟨_,w3⟩
  obtain ⟨d,hd,rfl⟩:=ϖ.mp hb
  exact ((D ň rfl).dr d hd).1.live _ _ (w4 d hd)
 ·obtain ⟨vs,rfl,hl,hv⟩:=p1
  obtain ⟨l',q1,q2⟩:=hP i d vs hl hv p2
  refine ⟨by have:=(D ň rfl).sz;simpa using (show vs.length≤Ϣ by omega),l',q1,fun ρ' G' h1 h2=>q2 ρ' G' h1 h2⟩
 ·have old:∀ {c},z1.h c=none→∀ {o},z1.G c=some o→False:=fun n o q=>by rw [I.gh _ _ q] at n;cases n
  rcases ς.mp hb with rfl | hb
  ·exact .inl ⟨nw _ (.inl rfl),_,hz⟩
  rcases ς.mp hb with rfl | hb
  ·exact .inl ⟨nw _ (.inr (.inl rfl)),_,hTI⟩
  rcases ς.mp hb with rfl | hb
  ·obtain ⟨_,w,_⟩:=hTO;exact .inl ⟨nw _ (.inr (.inr rfl)),_,w⟩
  obtain ⟨d,hd,hb⟩:=ϔ.mp hb
  obtain ⟨a,f1,f2,o,f3⟩:=fp d hd
  rw [f1] at hb
  rcases ς.mp hb with rfl | hb
  ·exact .inl ⟨f2,((D ň rfl).dr d hd).1.live _ _ (st d hd)⟩
  ·cases η.mp hb
   refine .inr ⟨fun m=>?_,o,f3⟩
   rcases ς.mp m with rfl | m
   ·exact old (nw _ (.inl rfl)) f3
   rcases ς.mp m with rfl | m
   ·exact old (nw _ (.inr (.inr rfl))) f3
   obtain ⟨d',hd',rfl⟩:=ϖ.mp m
   obtain ⟨_,_,f5,_⟩:=fp d' hd'
   exact old f5 f3
theorem ev3 (f:List D→Sta→Out β):(X.evs br (.cons a (.cons b (.cons c .nil))) t).bind f=(X.ev br a t).bind fun x s=>(X.ev br b s).bind fun y s=>(X.ev br c s).bind fun w s=>f [x,y,w] s:=by
 show ((X.ev br a t).bind fun x s=>(X.evs br (.cons b (.cons c .nil)) s).bind fun l s=>Out.ok (x :: l) s).bind f=_
 rw [aq];congr 1;funext x s;rw [aq,ev2];rfl
theorem sI {es:List Ν} {k:Nat} {tp:Ϭ} (hc:X.calm=true) (hx:Blt X "zip" (.type "zip")) (ha:LE X ea a) (hb:LE X eb b) (he:Α [ea,eb] X.env=(false,eval ea X.env) :: Α [eb] X.env) (he2:Α [eb] X.env=(false,eval eb X.env) :: Α [] X.env):LI X (.Tuple es k tp) (.Call (.Name "zip" p) [ea,eb] [] pos) (.it .zip2 (.cons a (.cons b .nil))):=fun z I nb=>
 aU (Q:=fun v s1=>χ X.M X.A (Š v) (FI X z (.Tuple es k tp) (X.ev false (.it .zip2 (.cons a (.cons b .nil))) z.t)) NoE s1) (.inr ⟨_,rfl⟩) hx he (by rw [he2];rfl) I (by
  rw [he2]
  exact Ξ ((ha false).go .refl I (ev2 fun l s=>Out.of s ((itD .zip2 l).map D.lst)) nb fun z1 x u y1 x1 I1 r1 e1=>Ξ ((hb false).go x1 I1 e1 nb fun z2 y v y2 x2 I2 r2 e2=>ϊ (by
   have e2:X.ev false (.it .zip2 (.cons a (.cons b .nil))) z.t=Out.of z2.t ((match sqL x,sqL y with | some l,some m=>if l.length≤m.length then some (eE l m) else none | _,_=>none).map D.lst):=e2
   cases q1:sqL x with
   | none=>rw [q1] at e2;exact ZX e2 nb
   | some l=>
     cases q2:sqL y with
     | none=>rw [q1,q2] at e2;exact ZX e2 nb
     | some m=>
       rw [q1,q2] at e2
       by_cases c:l.length≤m.length
       ·have e2:X.ev false (.it .zip2 (.cons a (.cons b .nil))) z.t = .ok (.lst (eE l m)) z2.t:=by rw [e2];simp only [ZZ c];rfl
        obtain ⟨k1,a1,vs,rfl,⟨o1,g1⟩,s1,w1⟩:=jW I2 (r1.rd.st y2.st) q1
        obtain ⟨k2,a2,us,rfl,⟨o2,g2⟩,s2,w2⟩:=jW I2 r2.rd q2
        have l1:=Χ (I2.gh _ _ g1)
        have l2:=Χ (I2.gh _ _ g2)
        refine mU s1 s2 fun h' hh=>?_
        have N:∀ j,z2.h (z2.s.heap.objs.size+j)=none:=fun j=>fJ (B1 ..)
        have e1:=w1.len
        have e3:=w2.len
        refine rm (ds:=eE l m) (n:=vs.toArray.size) (l:=[zd k1 z2.s.heap.objs.size a1 vs.toArray,zd k2 (z2.s.heap.objs.size+1) a2 us.toArray]) hc x2 I2 (fun b o e=>hh ▸ dg e) (fun A hA=>⟨fun d hd=>?_,fun i j d e hi hj ne=>?_,⟨_,_,rfl,rfl⟩,⟨?_,?_,?_⟩,by rw [ă];exact Θ rfl⟩) (hh ▸ bD (j:=4) rfl rfl) (hh ▸ bD (j:=2) rfl rfl) ⟨[.none,.none],hh ▸ bD (j:=3) rfl rfl,rfl⟩ (fun d hd=>?_) (by rw [j8 c,e1];simp) (fun b hb=>by rcases hb with rfl | rfl | rfl <;> exact N _) (fun d hd=>?_) (fun i d ws hl hv hd=>?_) e2
        ·simp only [ς,Ç,or_false] at hd
         rcases hd with rfl | rfl
         ·exact ⟨j6 hA _ _ _ (ϧ l1) _,Ο _,μ,nin _ 4 0 _ (by decide) l1,nin _ 3 0 _ (by decide) l1,by simp [zd]⟩
         ·exact ⟨j6 hA _ _ _ (lne _ 1 _ l2) _,by simp [zd];omega,μ,nin _ 4 1 _ (by decide) l2,nin _ 3 1 _ (by decide) l2,by simp [zd]⟩
        ·match i,j,hi,hj,ne with
         | 0,0,_,_,ne=>exact ZX rfl ne
         | 0,1,hi,hj,_=>cases hi;cases hj;exact nin _ 0 1 _ (by decide) l2
         | 1,0,hi,hj,_=>cases hi;cases hj;exact nin _ 1 0 _ (by decide) l1
         | 1,1,_,_,ne=>exact ZX rfl ne
         | i+2,_,hi,_,_=>simp at hi
         | _,j+2,_,hj,_=>simp at hj
        ·simp
        ·simp
        ·simp
        ·simp only [ς,Ç,or_false] at hd
         rcases hd with rfl | rfl
         ·exact j7 (hh ▸ bD (j:=0) rfl rfl) (hh ▸ s1.psh)
         ·exact j7 (hh ▸ bD (j:=1) rfl rfl) (hh ▸ s2.psh)
        ·simp only [ς,Ç,or_false] at hd
         rcases hd with rfl | rfl
         ·exact ⟨a1,rfl,N 0,_,g1⟩
         ·exact ⟨a2,rfl,N 1,_,g2⟩
        ·rw [mH] at hd
         obtain ⟨da,w3,hd⟩:=ϋ.mp hd
         obtain ⟨db,w4,rfl⟩:=π.mp hd
         match ws,hl,hv with
         | [va,vb],_,hv=>exact ⟨_,rfl,fun ρ' G' h1 h2=>.cons ((w1.mono h1 h2).v w3 (hv 0 _ va rfl rfl)) (.cons ((w2.mono h1 h2).v w4 (hv 1 _ vb rfl rfl)) rfl)⟩
       ·simp only [ZY c] at e2;exact ZX e2 nb))))
theorem sJ {es:List Ν} {k:Nat} {tp:Ϭ} (hc:X.calm=true) (hx:Blt X "zip" (.type "zip")) (ha:LE X ea a) (hb:LE X eb b) (hd:LE X ec c) (he:Α [ea,eb,ec] X.env=(false,eval ea X.env) :: Α [eb,ec] X.env) (he2:Α [eb,ec] X.env=(false,eval eb X.env) :: Α [ec] X.env) (he3:Α [ec] X.env=(false,eval ec X.env) :: Α [] X.env):LI X (.Tuple es k tp) (.Call (.Name "zip" p) [ea,eb,ec] [] pos) (.it .zip3 (.cons a (.cons b (.cons c .nil)))):=fun z I nb=>
 aU (Q:=fun v s1=>χ X.M X.A (Š v) (FI X z (.Tuple es k tp) (X.ev false (.it .zip3 (.cons a (.cons b (.cons c .nil)))) z.t)) NoE s1) (.inr ⟨_,rfl⟩) hx he (by rw [he2,he3];rfl) I (by
  rw [he2,he3]
  exact Ξ ((ha false).go .refl I (ev3 fun l s=>Out.of s ((itD .zip3 l).map D.lst)) nb fun z0 x0 u0 y0 x0' I0 r0 e0=>Ξ ((hb false).go x0' I0 e0 nb fun z1 x u y1 x1 I1 r1 e1=>Ξ ((hd false).go x1 I1 e1 nb fun z2 y v y2 x2 I2 r2 e2=>ϊ (by
   have e2:X.ev false (.it .zip3 (.cons a (.cons b (.cons c .nil)))) z.t=Out.of z2.t ((match sqL x0,sqL x,sqL y with | some l,some m,some n=>if l.length≤m.length∧l.length≤n.length then some (cf l m n) else none | _,_,_=>none).map D.lst):=e2
   cases q1:sqL x0 with
   | none=>rw [q1] at e2;exact ZX e2 nb
   | some l=>
     cases q2:sqL x with
     | none=>rw [q1,q2] at e2;exact ZX e2 nb
     | some m=>
       cases q3:sqL y with
       | none=>rw [q1,q2,q3] at e2;exact ZX e2 nb
       | some n=>
         rw [q1,q2,q3] at e2
         by_cases cc:l.length≤m.length∧l.length≤n.length
         ·have e2:X.ev false (.it .zip3 (.cons a (.cons b (.cons c .nil)))) z.t = .ok (.lst (cf l m n)) z2.t:=by rw [e2];simp only [ZZ cc];rfl
          obtain ⟨k1,a1,vs,rfl,⟨o1,g1⟩,s1,w1⟩:=jW I2 ((r0.rd.st y1.st).st y2.st) q1
          obtain ⟨k2,a2,us,rfl,⟨o2,g2⟩,s2,w2⟩:=jW I2 (r1.rd.st y2.st) q2
          obtain ⟨k3,a3,ts,rfl,⟨o3,g3⟩,s3,w3⟩:=jW I2 r2.rd q3
          have l1:=Χ (I2.gh _ _ g1)
          have l2:=Χ (I2.gh _ _ g2)
          have l3:=Χ (I2.gh _ _ g3)
          refine mV s1 s2 s3 fun h' hh=>?_
          have N:∀ j,z2.h (z2.s.heap.objs.size+j)=none:=fun j=>fJ (B1 ..)
          have e1:=w1.len
          have e3:=w2.len
          have e4:=w3.len
          refine rm (ds:=cf l m n) (n:=vs.toArray.size) (l:=[zd k1 z2.s.heap.objs.size a1 vs.toArray,zd k2 (z2.s.heap.objs.size+1) a2 us.toArray,zd k3 (z2.s.heap.objs.size+2) a3 ts.toArray]) hc x2 I2 (fun b o e=>hh ▸ dg e) (fun A hA=>⟨fun d hd=>?_,fun i j d e hi hj ne=>?_,⟨_,_,rfl,rfl⟩,⟨?_,?_,?_⟩,by rw [ă];exact Θ rfl⟩) (hh ▸ bD (j:=5) rfl rfl) (hh ▸ bD (j:=3) rfl rfl) ⟨[.none,.none,.none],hh ▸ bD (j:=4) rfl rfl,rfl⟩ (fun d hd=>?_) (by rw [j9 cc.1 cc.2,e1];simp) (fun b hb=>by rcases hb with rfl | rfl | rfl <;> exact N _) (fun d hd=>?_) (fun i d ws hl hv hd=>?_) e2
          ·simp only [ς,Ç,or_false] at hd
           rcases hd with rfl | rfl | rfl
           ·exact ⟨j6 hA _ _ _ (ϧ l1) _,Ο _,μ,nin _ 5 0 _ (by decide) l1,nin _ 4 0 _ (by decide) l1,by simp [zd]⟩
           ·exact ⟨j6 hA _ _ _ (lne _ 1 _ l2) _,by simp [zd];omega,μ,nin _ 5 1 _ (by decide) l2,nin _ 4 1 _ (by decide) l2,by simp [zd]⟩
           ·exact ⟨j6 hA _ _ _ (lne _ 2 _ l3) _,by simp [zd];omega,μ,nin _ 5 2 _ (by decide) l3,nin _ 4 2 _ (by decide) l3,by simp [zd]⟩
          ·have hl:∀ (i:Nat) (d:Zd),[zd k1 z2.s.heap.objs.size a1 vs.toArray,zd k2 (z2.s.heap.objs.size+1) a2 us.toArray,zd k3 (z2.s.heap.objs.size+2) a3 ts.toArray][i]? = some d→i<3∧d.it=z2.s.heap.objs.size+i∧∃ b:Nat,d.fp = [z2.s.heap.objs.size+i,b]∧b<z2.s.heap.objs.size:=fun i d h=>by
            match i,h with
            | 0,h=>cases h;exact ⟨by decide,rfl,a1,rfl,l1⟩
            | 1,h=>cases h;exact ⟨by decide,rfl,a2,rfl,l2⟩
            | 2,h=>cases h;exact ⟨by decide,rfl,a3,rfl,l3⟩
            | i+3,h=>simp at h
           obtain ⟨_,h1,_⟩:=hl i d hi
           obtain ⟨_,_,b,h2,h3⟩:=hl j e hj
           rw [h1,h2]
           exact nin _ i j b ne h3
          ·simp
          ·simp
          ·simp
          ·simp only [ς,Ç,or_false] at hd
           rcases hd with rfl | rfl | rfl
           ·exact j7 (hh ▸ bD (j:=0) rfl rfl) (hh ▸ s1.psh)
           ·exact j7 (hh ▸ bD (j:=1) rfl rfl) (hh ▸ s2.psh)
           ·exact j7 (hh ▸ bD (j:=2) rfl rfl) (hh ▸ s3.psh)
          ·simp only [ς,Ç,or_false] at hd
           rcases hd with rfl | rfl | rfl
           ·exact ⟨a1,rfl,N 0,_,g1⟩
           ·exact ⟨a2,rfl,N 1,_,g2⟩
           ·exact ⟨a3,rfl,N 2,_,g3⟩
          ·rw [mI] at hd
           obtain ⟨da,p3,hd⟩:=ϋ.mp hd
           obtain ⟨db,p4,hd⟩:=ϋ.mp hd
           obtain ⟨dc,p5,rfl⟩:=π.mp hd
           match ws,hl,hv with
           | [va,vb,vc],_,hv=>exact ⟨_,rfl,fun ρ' G' h1 h2=>.cons ((w1.mono h1 h2).v p3 (hv 0 _ va rfl rfl)) (.cons ((w2.mono h1 h2).v p4 (hv 1 _ vb rfl rfl)) (.cons ((w3.mono h1 h2).v p5 (hv 2 _ vc rfl rfl)) rfl))⟩
         ·simp only [ZY cc] at e2;exact ZX e2 nb)))))
end
theorem jy {M:C1} {A:ϑ} {E:ζ→ξ→Prop} {s:ξ} {items:Array ζ} {x:ζ} {e:ζ→Bool} {Q:Option PySem.Fin×Unit→ξ→Prop} (he:∀ y∈items,∀ (E':ζ→ξ→Prop) (Q':Bool→ξ→Prop),Q' (e y) s→χ M A (eqBool y x) Q' E' s) {j:Nat} (hj:j<items.size) (hit:e items[j]=true)
 (hq:Q (some (.done (.ret (.int j s.toks))),()) { s with toks:=s.toks+1 }):∀ (k i:Nat),i+k=items.size→i≤j→(∀ m (hm:m<items.size),i≤m→m<j→e items[m]=false) →
 χ M A (forIn (B2 i k) ((none:Option PySem.Fin),()) fun (i:Nat) _=>match items[i]? with
  | some y=>do
    if ← eqBool y x then
     let r ← retInt (i:Nat)
     pure (ForInStep.done (some r,()))
    else pure (ÿ (none,()))
  | _=>pure (ÿ (none,()))) Q E s
 | 0,i,h1,h2,_=>by omega
 | k+1,i,h1,h2,hn=>by
   have hi:i<items.size:=by omega
   rw [List.range'_succ,Ġ,Bs hi]
   refine ε (ε (he _ (Array.getElem_mem hi) _ _ ?_))
   by_cases z:i=j
   ·subst z
    rw [hit,ZZ rfl]
    refine ε ?_
    unfold retInt
    exact ε (wpAny_mkInt (θ (θ (θ hq))))
   ·rw [hn i hi (Ο _) (by omega),ZY ϛ]
    exact θ (jy he hj hit hq k (i+1) (by omega) (by omega) fun m hm h3 h4=>hn m hm (by omega) h4)
theorem nX (l:Ε) (items:Array ζ) (x:ζ) (e:ζ→Bool) (j:Nat) (hj:j<items.size) (hit:e items[j]=true) (hno:∀ m (hm:m<items.size),m<j→e items[m]=false) :
 DQ (ŋ.«tuple.index» ⟨[.ref l,x],[]⟩) (fun A R s=>s.heap.IsTuple l items∧(∀ y,y∈items→SeqAt.EqAt A.in1 s y x (e y))∧R (.ok (.ret (.int j s.toks))) { s with toks:=s.toks+1 }):=by
 intro prog w A R s h
 obtain ⟨ht,he,hq⟩:=h
 unfold ŋ.«tuple.index»
 refine ε (θ ?_)
 refine ε (Cd ht ?_)
 refine ε (θ ?_)
 refine ε (θ ?_)
 dsimp only
 rw [Ģ,Dg]
 have ez:Ź [:items.size]=items.size:=by simp [Ź]
 rw [ez]
 refine ε (jy (e:=e) (fun y hy E' Q' q'=>he y hy prog w E' Q' q') hj hit ?_ items.size 0 (by omega) (by omega) fun m hm _ h4=>hno m hm h4)
 exact θ hq
section
variable {X:Cx} {z:Z}
theorem mE:∀ {us:List ζ} {ss:List ι} {i:Nat} {v:ζ},StrsAre us ss→us[i]? = some v→∃ y t,ss[i]? = some y∧v = .str y t
 | _,_,_,_,.nil,e=>by simp at e
 | _,_,0,v,.cons y t _,e=>by simp at e;subst e;exact ⟨y,t,rfl,rfl⟩
 | _,_,i+1,v,.cons _ _ r,e=>by
   obtain ⟨y,t,h1,h2⟩:=mE (i:=i) r (by simpa using e)
   exact ⟨y,t,by simpa using h1,h2⟩
def ixT (k:ι):ζ→Bool
 | .str y _=>y == k
 | _=>false
theorem pU (ha:LE X eo a) (hb:LE X eb b) (m:M1 X eo "index" apos eb cpos):LE X (.Call (.Attribute eo "index" apos) [eb] [] cpos) (.index a b):=fun br z I nb=>
 Bb m.base m.few m.line PySem.F.plainAttrs_tuple Bg PySem.F.type_tuple_index ((ha true).go .refl I rfl nb fun z1 x u y1 x1 I1 r1 e1=>by
  cases x with
  | tup l=>
    have e1:X.ev br (.index a b) z.t=(X.ev true b z1.t).bind fun y s=>.of s (vz (.tup l) y):=e1
    obtain ⟨p,o,vs,rfl,g,⟨tc,⟨n,td⟩,hz,tdi⟩,r⟩:=(r1.rb.cr0 I1:RD X.W z1.ρ z1.G (.tup l) u)
    refine ⟨⟨o,I1.gh _ _ g,tc⟩,fun b q=>(by cases q;exact ⟨o,I1.gh _ _ g,tdi⟩),?_⟩
    rw [m.trees]
    refine ċ rfl (Ę (Ξ ((hb true).go x1 I1 e1 nb fun z2 y v y2 x2 I2 r2 e2=>ϊ (cR x2 I2 e2 nb fun d q=>?_))))
    cases y with
    | str k=>
      obtain ⟨t,rfl⟩:=(r2.rb.cr0 I2:RD X.W z2.ρ z2.G (.str k) v)
      obtain ⟨ss,q1,q2⟩:=ϋ.mp (show ((eB l).bind fun ss=>(ss.findIdx? (· == k)).map fun (j:Nat)=>D.int j)=some d from q)
      obtain ⟨j,q3,rfl⟩:=π.mp q2
      have sa:=jY q1 (r.mono y2.st.pr y2.st.gg)
      obtain ⟨hj,hp,hn⟩:=List.findIdx?_eq_some_iff_getElem.mp q3
      have hl:vs.length=ss.length:=sa.length
      have at_:∀ m (hm:m<vs.toArray.size),∃ t,vs.toArray[m] = .str (ss[m]'(by simp at hm;omega)) t:=fun m hm=>by
       have hm':m<vs.length:=by simpa using hm
       obtain ⟨y,t,w1,w2⟩:=mE sa (φ hm')
       rw [φ (by omega)] at w1;cases w1
       exact ⟨t,by simpa using w2⟩
      refine BY Bg ⟨o,I2.gh _ _ (y2.st.gg _ _ g),tc⟩ PySem.F.entry_tuple_index (PySem.F.args_tuple_index_2 _ _) (nX p vs.toArray (.str k t) (ixT k) j (by simp;omega) ?_ fun m hm lt=>?_) ⟨⟨o,I2.gh _ _ (y2.st.gg _ _ g),tc,n,td⟩,fun y hy=>?_,.tok fun _ _ _=>⟨_,rfl⟩⟩
      ·obtain ⟨t',e'⟩:=at_ j (by simp;omega)
       rw [e'];exact hp
      ·obtain ⟨t',e'⟩:=at_ m hm
       rw [e'];exact ZU.mpr (by simpa using hn m lt)
      ·obtain ⟨m,hm,rfl⟩:=Array.mem_iff_getElem.mp hy
       obtain ⟨t',e'⟩:=at_ m hm
       rw [e']
       exact ((e3 I2.toHR 1 (d:=.str (ss[m]'(by simp at hm;omega))) (e:=.str k) (by rfl) (show CR X.W z2 (.str _) _ from ⟨_,rfl⟩) (show CR X.W z2 (.str k) _ from ⟨_,rfl⟩)).2 _ (by have:=I2.ok.un;show _+1+1+1<_;omega)).1
    | _=>cases q
  | _=>exact ZX e1 nb)
theorem sD {x:ι} {j:Nat} {cl:Cl} {i:CI} (F:bz X X.cal1 lv cl.init f) (hr:aT (lv+1) X.A) (M:Mk X.K i.ad f) (hcl:X.Γ.cl[j]? = some cl) (hw:cl.what=0) (hci:X.W.ci[j]? = some i) (hwh:X.W.what[j]? = some 0) (hg:Gl X x) (hm:X.mg x=some (.ref i.ad)) (hd:(x == ("__debug__":ι))=false):LE X (.Call (.Name x p) [] [] pos) (.new j .nil):=fun br z I nb=>
 Ê (aW I hg hm (BN I.toHR.kin M.kp (tG F hr M hcl hw hci hwh .refl I (l:=[]) (us:=[]) (es:=.nil) trivial rfl nb)) hd)
end
def cu (nm:List (ι×Β)) (x:ι):Bool:=match nm.lookup x with
 | some .local=>true
 | some .cell=>true
 | some .free=>true
 | _=>false
def bX (nm:List (ι×Β)) (x:ι):Bool:=nm.lookup x == some .globalImplicit
def bI:Ν→Bool
 | .Call (.Name id _) [] [] _=>id != "super"
 | _=>true
theorem ah (h:aI e=true):Α (e :: es) env=(false,eval e env) :: Α es env:=by
 cases e <;> first | rfl | cases h
theorem fX (h:aI e=true):ig e:=by
 cases e <;> first | (intro o i;rfl) | cases h
theorem fR (h:aI e=true):å op e=false:=by
 cases e <;> first | rfl | cases h
theorem gX (h:aI e=true):∀ x,Bf e env x=pure x:=by
 cases e <;> first | (intro x;rfl) | cases h
theorem bb (h:∀ e∈es,aI e=true):(ϲ pos (Α es env)).any (·.1)=false:=by
 induction es with
 | nil=>rfl
 | cons e r ih=>
   rw [ah (h e μ)]
   have:=ih fun x hx=>h x (ν _ hx)
   show (false || (ϲ pos (Α r env)).any (·.1))=false
   rw [this];rfl
theorem ba {X:Cx} (hs:X.env.scope.names=nm) (h:cu nm x=true):Vis X.env.scope x:=by
 unfold cu at h
 unfold Vis
 rw [hs]
 split at h <;> first | (rename_i q;exact .inl q) | (rename_i q;exact .inr (.inl q)) | (rename_i q;exact .inr (.inr q)) | cases h
theorem bg (hs:X.env.scope.names=nm) (h:bX nm x=true):Gl X x:=by
 unfold bX at h
 show X.env.scope.names.lookup x=_
 rw [hs]
 simpa using h
structure Ns where
 gl:List ι
 tb:List ι
 fn:List ι
 at_:List ι
 bl:List ι
 rf:List ι:=[]
 me:List (ι×Nat×Nat):=[]
 ex:List ι:=[]
 nw:List ι:=[]
 mu:List ι:=[]
 nd:List ι:=[]
 hx:List ι:=[]
 hc:List ι:=[]
 xt:List ι:=[]
 kp:List ι:=[]
 alt:List (ι×Nat):=[]
 fc:List ι:=[]
 oc:List ι:=[]
 e2:Bool:=false
def Ns.an (T:Ns) (f:Nat):ι:=T.at_.getD f ""
abbrev Cx.to (X:Cx) (A:ϑ) (fr:List AK) (N:List ι) (e:AK) (cal cal1:Nat→List D→List O→Res):Cx:={ X with A:=A,fr:=fr,N:=N,env:=e,cal:=cal,cal1:=cal1 }
theorem HR.to {X:Cx} {A:ϑ} {fr:List AK} {N1 N2:List ι} {e1 e2:AK} {c1 c2 d1 d2:Nat→List D→List O→Res} (I:HR (X.to A fr N1 e1 c1 d1) z):HR (X.to A fr N2 e2 c2 d2) z:=⟨I.md,I.fm,I.hd,I.bs,I.gh,I.rl,I.rn,I.rg,I.ob,I.fu,I.ff,I.br,I.os⟩
theorem FnC.to {X:Cx} {A:ϑ} {fr:List AK} {N:List ι} {e:AK} {c1 d1:Nat→List D→List O→Res} (h:FnC X cal lv j f fd ps):FnC (X.to A fr N e c1 d1) cal lv j f fd ps:=⟨h.len,fun A2 fr2 z args us ds r I b rd nb=>â (h.run A2 fr2 z args us ds r (HR.to (X:=X) (N1:=N) (e1:=e) (c1:=c1) (d1:=d1) I) b rd nb) fun q s' hq=>by
 cases q with
 | error x=>obtain ⟨z',c,l,a1,a2,a3,a4,a5⟩:=hq;exact ⟨z',c,l,a1,a2,a3,HR.to (X:=X) a4,a5⟩
 | ok fl=>cases fl with
   | ret u=>obtain ⟨z',d,a1,a2,a3,a4,a5⟩:=hq;exact ⟨z',d,a1,a2,a3,HR.to (X:=X) a4,a5⟩
   | _=>exact hq.elim⟩
theorem bz.to {X:Cx} {A:ϑ} {fr:List AK} {N:List ι} {e:AK} {c1 d1:Nat→List D→List O→Res} (h:bz X cal lv j f):bz (X.to A fr N e c1 d1) cal lv j f:=let ⟨fd,ps,a,b,c⟩:=h;⟨fd,ps,a.to,b,c⟩
theorem FnI.to {X:Cx} {A:ϑ} {fr:List AK} {N:List ι} {e:AK} {c1 d1:Nat→List D→List O→Res} (h:FnI X lv f fd ps nm ck):FnI (X.to A fr N e c1 d1) lv f fd ps nm ck:=⟨h.len,fun A2 fr2 z args us p P ch r I b lu H hB hP hc=>h.run A2 fr2 z args us p P ch r (HR.to (X:=X) (N1:=N) (e1:=e) (c1:=c1) (d1:=d1) I) b lu ⟨H.ex,H.keep,H.set⟩ hB hP hc⟩
theorem FnJ.to {X:Cx} {A:ϑ} {fr:List AK} {N:List ι} {e:AK} {c1 d1:Nat→List D→List O→Res} (h:FnJ X lv f fd ps nm k C):FnJ (X.to A fr N e c1 d1) lv f fd ps nm k C:=let ⟨ck,a,b⟩:=h;⟨ck,a.to,b⟩
structure CxOk (T:Ns) (X:Cx) (nm:List (ι×Β)) (N:List ι):Prop where
 hN:X.N=N
 nd:N.Nodup
 sc:X.env.scope.names=nm
 kd:X.env.scope.kind = .function
 calm:X.calm=true
 fns:∀ (j:Nat) (x:ι),T.fn[j]? = some x→∃ k f,bz X X.cal k j f∧aT k X.A∧X.mg x=some (.ref f)
 gls:∀ (j:Nat) (x:ι),T.gl[j]? = some x→∃ d u,X.Γ.gl[j]? = some d∧X.mg x=some u∧aN X.K d u=true
 tbs:∀ (j:Nat) (x:ι),T.tb[j]? = some x→∃ t a,X.Γ.tb[j]? = some t∧X.mg x=some (.ref a)∧TbL X a t
 blt:∀ x∈T.bl,X.mg x=none
 cls:cj X T.an
 mts:∀ q∈T.me,∃ k f,bz X X.cal k q.2.2 f∧aT k X.A∧mL X T.an q.1 q.2.1 f
 nws:∀ (j:Nat) (x:ι),T.nw[j]? = some x→x≠""→∃ n f i cl,bz X X.cal1 n cl.init f∧aT (n+1) X.A∧Mk X.K i.ad f∧X.Γ.cl[j]? = some cl∧cl.what=0∧X.W.ci[j]? = some i∧X.W.what[j]? = some 0∧X.mg x=some (.ref i.ad)
 nds:∀ (j:Nat) (x:ι),T.nd[j]? = some x→x≠""→∃ n f fd ps i cl,FnI X n f fd ps i.nm none∧bS X.K fd ps []∧aT (n+1) X.A∧Mk X.K i.ad f∧Cls X.K i.ad∧(∀ f∈i.nm,cK X.K i.ad f)∧X.Γ.cl[j]? = some cl∧X.W.ci[j]? = some i∧X.W.what[j]? = some 1∧i.nm.length=cl.at_.length∧X.mg x=some (.ref i.ad)
 hxs:∀ (j:Nat) (x:ι),T.hx[j]? = some x→x≠""→n7 X j x
abbrev GE (T:Ns) (nm:List (ι×Β)) (N:List ι) (e:Ν):={c:E // ∀ X,CxOk T X nm N→LE X e c∧(aS c=true→LF X e c)}
abbrev GT (T:Ns) (nm:List (ι×Β)) (N:List ι) (e:Ν):={c:E // ∀ X,CxOk T X nm N→LT X e c}
abbrev GW (T:Ns) (nm:List (ι×Β)) (N:List ι) (e:Ν):={c:E // ∀ X,CxOk T X nm N→LW X e c}
abbrev GA (T:Ns) (nm:List (ι×Β)) (N:List ι) (es:List Ν):={c:E // ∀ X,CxOk T X nm N→LA X es c}
abbrev GO (T:Ns) (nm:List (ι×Β)) (N:List ι) (e:Option Ν):={c:E // ∀ X,CxOk T X nm N→LO X e c}
abbrev GI (T:Ns) (nm:List (ι×Β)) (N:List ι) (tg e:Ν):={c:E // ∀ X,CxOk T X nm N→LI X tg e c}
abbrev aG (T:Ns):=∀ nm N e,Option (GE T nm N e)
abbrev gu (T:Ns):=∀ nm N e,Option (GT T nm N e)
theorem mk (h:LE X e c) (n:aS c=false:=by rfl):LE X e c∧(aS c=true→LF X e c):=⟨h,fun q=>by rw [n] at q;cases q⟩
theorem mkf (h:LF X e c) (hb:∀ br,X.ev br c=X.ev false c:=by intro _;rfl):LE X e c∧(aS c=true→LF X e c):=⟨h.le hb,fun _=>h⟩
def yes (b:Bool):Option (PLift (b=true)):=match b with | true=>some ⟨rfl⟩ | false=>none
def no (b:Bool):Option (PLift (b=false)):=match b with | false=>some ⟨rfl⟩ | true=>none
def bC (x:ι):(l:List ι)→Option {i:Nat // l[i]? = some x}
 | []=>none
 | y :: r=>match h:y == x with
   | true=>some ⟨0,by rw [BK];congr;simpa using h⟩
   | false=>(bC x r).map fun i=>⟨i.1+1,by rw [ϵ];exact i.2⟩
def zc (x:ι) (al:List (ι×Nat)) (l:List ι):Option {i:Nat // l[i]? = some x}:=match al.lookup x with
 | some j=>(match h:l[j]? with
   | some y=>(match h2:y == x with
     | true=>some ⟨j,by rw [h];congr;simpa using h2⟩
     | false=>none)
   | none=>none)
 | none=>bC x l
def qt (x:ι):(l:List ι)→Option (PLift (x∈l))
 | []=>none
 | y :: r=>match h:y == x with
   | true=>some ⟨by have:y=x:=by simpa using h
                    rw [this];exact μ⟩
   | false=>(qt x r).map fun i=>⟨ν _ i.down⟩
section
variable {T:Ns} {nm:List (ι×Β)} {N:List ι}
def xE (T:Ns) (nm:List (ι×Β)) (N:List ι) (x:ι) (pos:Ϭ):Option (GE T nm N (.Name x pos)):=do
 let hd ← no (x == ("__debug__":ι))
 let hc ← no (x == ("__classdict__":ι))
 match hl:cu nm x with
 | true=>
   let i ← bC x N
   some ⟨.v i.1,fun X k=>mk (wc (by rw [k.hN];exact i.2) (ba k.sc hl) hd.down hc.down)⟩
 | false=>
   let hg ← yes (bX nm x)
   let j ← bC x T.gl
   some ⟨.g j.1,fun X k=>by
    obtain ⟨d,u,h1,h2,h3⟩:=k.gls j.1 x j.2
    exact mk (zY (bg k.sc hg.down) h2 hd.down h1 h3)⟩
def ve (T:Ns) (nm:List (ι×Β)) (N:List ι) (c:Const) (j:Nat) (pos:Ϭ):Option (GE T nm N (.Constant c j pos)):=match c with
 | .none=>some ⟨.c .non,fun X k=>mk uf⟩
 | .bool b=>some ⟨.c (.bl b),fun X k=>mk xQ⟩
 | .int i=>some ⟨.c (.int i),fun X k=>mk ue⟩
 | .str x=>some ⟨.c (.str x),fun X k=>mk ug⟩
 | _=>none
def opP (op:Operator):Option {o:Op // ∀ X:Cx,Op2 X (Ŝ op) (opD o)}:=match op with
 | .Add=>some ⟨.add,fun X=>wM⟩
 | .Sub=>some ⟨.sub,fun X=>wR⟩
 | .Mult=>some ⟨.mul,fun X=>wQ⟩
 | .FloorDiv=>some ⟨.fdiv,fun X=>tj⟩
 | .Mod=>some ⟨.mod,fun X=>wP⟩
 | _=>none
def zO (op:CmpOp):Option {o:Op // ∀ X:Cx,Op2 X (û op) (opD o)}:=match op with
 | .Eq=>some ⟨.eq,fun X=>yD⟩
 | .NotEq=>some ⟨.ne,fun X=>yJ⟩
 | .Lt=>some ⟨.lt,fun X=>yI⟩
 | .LtE=>some ⟨.le,fun X=>yH⟩
 | .Gt=>some ⟨.gt,fun X=>yF⟩
 | .GtE=>some ⟨.ge,fun X=>yE⟩
 | .In=>some ⟨.isin,fun X=>yG⟩
 | .NotIn=>some ⟨.notin,fun X=>qC⟩
 | _=>none
def eH (f:∀ e,Option (GE T nm N e)):(es:List Ν)→Option (GA T nm N es)
 | []=>some ⟨.nil,fun _ _=>pK⟩
 | e :: r=>do
   let h ← yes (aI e)
   let a ← f e
   let b ← eH f r
   some ⟨.cons a.1 b.1,fun X k=>lO (a.2 X k).1 (b.2 X k) (ah h.down)⟩
def tY (f:∀ e,Option (GE T nm N e)) (pos:Ϭ):(es:List Ν)→Option {c:E // ∀ X,CxOk T X nm N→LE X (.BoolOp .And es pos) c}
 | []=>none
 | [a]=>(f a).map fun x=>⟨x.1,fun X k=>(x.2 X k).1⟩
 | a :: b :: r=>do
   let x ← f a
   let y ← tY f pos (b :: r)
   some ⟨.and x.1 y.1,fun X k=>vT (x.2 X k).1 (y.2 X k)⟩
def zE (f:∀ e,Option (GE T nm N e)) (pos:Ϭ):(es:List Ν)→Option {c:E // ∀ X,CxOk T X nm N→LE X (.BoolOp .Or es pos) c}:=fun _=>none
def tX (g:∀ e,Option (GT T nm N e)) (pos:Ϭ):(es:List Ν)→Option (GW T nm N (.BoolOp .And es pos))
 | []=>none
 | [a]=>(g a).map fun x=>⟨x.1,fun X k=>sZ (x.2 X k)⟩
 | a :: b :: r=>do
   let x ← g a
   let y ← tX g pos (b :: r)
   some ⟨.tand x.1 y.1,fun X k=>wC (x.2 X k) (y.2 X k)⟩
def xI (g:∀ e,Option (GT T nm N e)) (pos:Ϭ):(es:List Ν)→Option (GW T nm N (.BoolOp .Or es pos))
 | []=>none
 | [a]=>(g a).map fun x=>⟨x.1,fun X k=>wD (x.2 X k)⟩
 | a :: b :: r=>do
   let x ← g a
   let y ← xI g pos (b :: r)
   some ⟨.tor x.1 y.1,fun X k=>yA (x.2 X k) (y.2 X k)⟩
def xH (f:∀ e,Option (GE T nm N e)):(o:Option Ν)→Option (GO T nm N o)
 | none=>some ⟨.nil,fun X k=>sK⟩
 | some e=>do
   let a ← f e
   let h ← no (bj a.1)
   some ⟨a.1,fun X k=>sL h.down (a.2 X k).1⟩
end
end L2.Ev
end
section
namespace L2.Bw
theorem r5 (a1:typeLookup (.type T) "__init__" = pure (some (.builtin "object.__init__"))) (a2:Bind.madeBy (.type T)=pure (some newId))
 (a3:(some newId != some "object.__new__")=true) (a4:more≠[]):DQ (ŋ.«object.__init__» ⟨me :: more,kws⟩) (fun _ R s=>s.TypeIs me T∧R (.ok (.ret .none)) s):=by
 refine Meets.of_wp fun prog w A R s q=>?_
 obtain ⟨ty,q⟩:=q
 cases more with
 | nil=>exact ZX rfl a4
 | cons b more=>
   repeat (any_goals (first | assumption | wp_step))
   exact ⟨_,rfl,q⟩
section
variable {prog:ϱ} {w:Ð} {A:ϑ} {E:ζ→ξ→Prop} {s:ξ}
theorem jm (ft:TypeCalled T newId "object.__init__") (ne:(some newId != some "object.__new__")=true) (na:args≠[])
 (c1:checkTypeCall T ⟨args,kws⟩=pure ()) (c2:ř newId ⟨.type T :: args,kws⟩=pure ()) (e1:entryFor table newId=some Bn) (g:DQ (Bn ⟨.type T :: args,kws⟩) S) (h:S A.in1 (wants Q1 E) s)
 (hn:∀ obj s1,Q1 obj s1→s1.TypeIs obj T∧CH "object.__init__" ⟨obj :: args,kws⟩∧Q obj s1):χ (model prog w) A (call (.type T) args kws) Q E s:=by
 obtain ⟨c,tl,m1⟩:=ft.mro
 have m2:=ft.made
 have m3:=ft.sub
 refine Ă (Ea ?_)
 show χ _ _ (callAny (.type T) _) _ _ _
 refine θ ⟨ŵ _ (by decide +kernel),Ũ F.entry_type_call ?_⟩
 rw [Around.under_plain (weight_type_call_type T args kws) (units_type_call_type T args kws)]
 have m4:=ft.notType
 have m5:=ft.canCreate
 repeat (any_goals (first | assumption | wp_step))
 refine â (ã ft.plain e1 (BE c2 (g prog w A.in1 _ s h))) fun r s1 q1=>?_
 cases r with
 | error e=>exact q1
 | ok fl=>
   cases fl with
   | ret obj=>
     obtain ⟨ty,ok,qq⟩:=hn _ _ q1
     have m6:=ft.init.lookup
     have m7:=ft.init.bind obj
     repeat (any_goals (first | assumption | wp_step))
     refine â (ã ft.init.plain F.entry_object_init (ft.init.check _ _ _ _ _ _ _ _ ty ok (r5 m6 m2 ne na prog w A.in1 (wants (fun r s2=>r = .none∧Q obj s2) E) s1 ⟨ty,rfl,qq⟩))) fun r2 s2 q2=>?_
     cases r2 with
     | error e=>exact q2
     | ok f2=>
       cases f2 with
       | ret r=>
         obtain ⟨e,q3⟩:=q2
         subst e
         repeat (any_goals (first | assumption | wp_step))
       | _=>exact q2.elim
   | _=>exact q1.elim
theorem oO (t) (n) (tk) (hn:ϻ n=true) (items) :
 DQ (ŋ.«enumerate.__new__» ⟨[.type "enumerate",.ref t],[("start",.int n tk)]⟩) (fun _ R s=>s.heap.IsTuple t items ∧
  R (.ok (.ret (.ref (s.heap.push { cls:=.type "tuple_iterator",data:=.fields #[.ref t,.int 0 0] }).objs.size)))
    { s with heap:=(s.heap.push { cls:=.type "tuple_iterator",data:=.fields #[.ref t,.int 0 0] }).push { cls:=.type "enumerate",data:=.fields #[.none,.bool false,.ref s.heap.objs.size,Ì n,.none,.none] } }):=
 .of_wp fun prog w A R s h=>by
  obtain ⟨hp,g,d,tk',os⟩:=s
  obtain ⟨ht,h⟩:=h
  have sub:=sub_enumerate
  wp_walk
  refine wpAny_stack_any fun st=>θ ?_
  split
  ·rename_i c _ _ _ _ _
   cases (c == Ū "enumerate")
   ·wp_walk using ď ht
    exact ⟨_,rfl,h⟩
   ·wp_walk using ď ht
    exact ⟨_,rfl,h⟩
  ·wp_walk using ď ht
   exact ⟨_,rfl,h⟩
end
section
variable {prog:ϱ} {w:Ð} {A:ϑ} {E:ζ→ξ→Prop} {s:ξ}
theorem mS {rest:List Ν} {kws:List ţ} {Q:ζ→ξ→Prop}
 (h:χ M A (spliced (ϲ pos (Α (e :: rest) env))) (fun vs s1=>χ M A (DN ((È pos (Ϩ kws env)).map (·.2))) (fun ks s2=>χ M A (call (.type T) vs (((È pos (Ϩ kws env)).filterMap (·.1)).zip ks)) Q E s2) E s1) E s)
 (he:Α (e :: rest) env=(false,eval e env) :: Α rest env) (h1:(ϲ pos (Α (e :: rest) env)).any (·.1)=false) (h2:(È pos (Ϩ kws env)).all (·.1.isSome)=true) (h3:(È pos (Ϩ kws env)).any (·.1.isNone)=false) :
 χ M A (Ś pos (.type T) [] (ϲ pos (Α (e :: rest) env)) (È pos (Ϩ kws env))) Q E s:=by
 have k:χ M A (evalArgs (.type T) true (ϲ pos (Α (e :: rest) env)) (È pos (Ϩ kws env))) (fun a s1=>χ M A (call (.type T) ([] ++ a.pos) a.kw) Q E s1) E s:=by
  rw [he] at h ⊢
  exact evalArgs_kwB h2 h
 unfold Ś
 refine ε (ό (thn k fun a s1 q=>ε (Ô ?_)))
 simp only [h1,h3,Ű]
 exact ε (θ (ε (thn q fun r s2 q2=>ε (ό (BD (θ q2))))))
theorem mX (hn:ϻ n=true) (ht:s.heap.IsTuple t xs)
 (h:Q (.ref (s.heap.push { cls:=.type "tuple_iterator",data:=.fields #[.ref t,.int 0 0] }).objs.size)
  { s with heap:=(s.heap.push { cls:=.type "tuple_iterator",data:=.fields #[.ref t,.int 0 0] }).push { cls:=.type "enumerate",data:=.fields #[.none,.bool false,.ref s.heap.objs.size,Ì n,.none,.none] } }) :
 χ (model prog w) A (call (.type "enumerate") [.ref t] [("start",.int n tk)]) Q E s:=by
 refine jm (Q1:=fun obj s1=>obj = .ref (s.heap.push { cls:=.type "tuple_iterator",data:=.fields #[.ref t,.int 0 0] }).objs.size∧s1={ s with heap:=(s.heap.push { cls:=.type "tuple_iterator",data:=.fields #[.ref t,.int 0 0] }).push { cls:=.type "enumerate",data:=.fields #[.none,.bool false,.ref s.heap.objs.size,Ì n,.none,.none] } })
  F.called_enumerate (by decide) (by simp) (by kernel_rfl) (by kernel_rfl) F.entry_enumerate_new (oO t n tk hn xs) ⟨ht,rfl,rfl⟩ fun obj s1 q=>?_
 obtain ⟨e,e'⟩:=q
 subst e e'
 exact ⟨⟨_,ψ _ rfl,rfl⟩,by first | (simp [CH];done) | (unfold CH;kernel_rfl) | (unfold CH;decide +kernel) | kernel_rfl,h⟩
end
end L2.Bw
namespace L2.Ev
open L2.Bw
theorem CA.sh {prog:ϱ} {w:Ð} {A:ϑ} {it:Ε} {fp:List Ε} {n:Nat} {P:Nat→ζ→Prop} {St:Nat→ϯ→Prop} (D:CA prog w A it fp n P St) (m:Nat):CA prog w A it fp (m+n) (fun i v=>P (i - m) v) (fun i h=>m≤i∧St (i - m) h) where
 live:=fun i h st=>D.live _ h st.2
 frame:=fun i h h' st k=>⟨st.1,D.frame _ _ _ st.2 k⟩
 item:=fun i s Q E hi st hQ=>D.item (i - m) s Q E (by have:=st.1;omega) st.2 fun x h' tk p q sb=>hQ x h' tk p ⟨AJ st.1,by rw [Nat.succ_sub st.1];exact q⟩ sb
 done:=fun s Q E st hE=>D.done s Q E (by have:=st.2;rwa [ł] at this) hE
theorem BZ.sh {prog:ϱ} {w:Ð} {A:ϑ} {it:Ε} {fp wr:List Ε} {n:Nat} {Pt:Nat→Array ζ→Prop} {St:Nat→ϯ→Prop} {Mid:Nat→Ε→ϯ→Prop} (m:Nat) (V:BZ prog w A it fp wr (m+n) Pt St Mid):BZ prog w A it fp wr n (fun i=>Pt (m+i)) (fun i=>St (m+i)) (fun i=>Mid (m+i)) where
 sub:=V.sub
 frame:=fun i=>V.frame (m+i)
 item:=fun i s Q E hi=>V.item (m+i) s Q E (Nat.add_lt_add_left hi m)
 go:=fun elts k pos i=>V.go elts k pos (m+i)
 apart:=fun i=>V.apart (m+i)
 done:=V.done
 self:=fun i=>V.self (m+i)
section
variable {X:Cx} {z z1:Z}
theorem pZ {es:List Ν} {k:Nat} {tp kp:Ϭ} (hc:X.calm=true) (hx:Blt X "enumerate" (.type "enumerate")) (ha:LE X ea a) (hb:LE X eb b) (he:Α [ea] X.env=(false,eval ea X.env) :: Α [] X.env):LI X (.Tuple es k tp) (.Call (.Name "enumerate" p) [ea] [⟨some "start",eb,kp⟩] pos) (.it .enum2 (.cons a (.cons b .nil))):=fun z I nb=>by
 refine Ê (hx.ld I ?_)
 refine mS (Q:=fun v s1=>χ X.M X.A (Š v) (FI X z (.Tuple es k tp) (X.ev false (.it .enum2 (.cons a (.cons b .nil))) z.t)) NoE s1) ?_ he (by rw [he];rfl) rfl rfl
 rw [he]
 refine Ξ ((ha false).go .refl I (ev2 fun l s=>Out.of s ((itD .enum2 l).map D.lst)) nb fun z1 x u y1 x1 I1 r1 e1=>ϊ ?_)
 show χ _ _ (DN ((do let v ← eval eb X.env;ņ pos;pure v) :: [])) _ _ _
 refine Dq (ε ((hb false).go x1 I1 e1 nb fun z2 y v y2 x2 I2 r2 e2=>ε (Ô (θ (DJ ?_)))))
 cases x with
 | tup l=>
   cases y with
   | int n=>
     obtain ⟨ad,o,vs,rfl,g,⟨tc,⟨m,td⟩,hz⟩,r⟩:=r1.rd.st y2.st
     obtain ⟨tz,rfl⟩:=r2.rd
     have e2:X.ev false (.it .enum2 (.cons a (.cons b .nil))) z.t=Out.of z2.t ((if ϻ n=true∧0≤n then some (bG n l) else none).map D.lst):=e2
     by_cases hn:ϻ n=true∧0≤n
     ·rw [ZZ hn] at e2
      obtain ⟨hn,h0⟩:=hn
      obtain ⟨j,rfl⟩:=BP h0
      have ht:z2.s.heap.IsTuple ad vs.toArray:=⟨o,I2.gh _ _ g,tc,m,td⟩
      have hlt:=Χ (I2.gh _ _ g)
      have hsz:(z2.s.heap.push { cls:=.type "tuple_iterator",data:=.fields #[.ref ad,.int 0 0] }).objs.size=z2.s.heap.objs.size+1:=Ϻ ..
      refine mX hn ht (DI (ψ _ rfl) ?_)
      rw [hsz]
      have kk:∀ b o,z2.s.heap.get? b=some o→((z2.s.heap.push { cls:=.type "tuple_iterator",data:=.fields #[.ref ad,.int 0 0] }).push { cls:=.type "enumerate",data:=.fields #[.none,.bool false,.ref z2.s.heap.objs.size,Ì (j:Int),.none,.none] }).get? b=some o:=fun b o e=>υ _ (υ _ e)
      have ge:IsEnum ((z2.s.heap.push { cls:=.type "tuple_iterator",data:=.fields #[.ref ad,.int 0 0] }).push { cls:=.type "enumerate",data:=.fields #[.none,.bool false,.ref z2.s.heap.objs.size,Ì (j:Int),.none,.none] }) (z2.s.heap.objs.size+1) z2.s.heap.objs.size (j:Int) .none:=by rw [← hsz];exact ψ _ rfl
      have gi:((z2.s.heap.push { cls:=.type "tuple_iterator",data:=.fields #[.ref ad,.int 0 0] }).push { cls:=.type "enumerate",data:=.fields #[.none,.bool false,.ref z2.s.heap.objs.size,Ì (j:Int),.none,.none] }).get? z2.s.heap.objs.size=some { cls:=.type "tuple_iterator",data:=.fields #[.ref ad,.int 0 0] }:=υ _ (ψ _ rfl)
      have rl:=r.len
      refine eK (ds:=bG (j:Int) l) x2 I2 (.hp (t:=z2.s.toks) kk) (Itr.walksT (I2.hd hc) (n:=vs.toArray.size) (by rw [fF];simpa using rl) (fun A hA=>BZ.sh j (gm (CA.sh (eJ (A:=A.in1) hA z2.s.heap.objs.size ad (ϧ hlt) vs.toArray) j) (z2.s.heap.objs.size+1) (ŀ _) (nin _ 1 0 _ (by decide) hlt) μ)) (fun i h st b hb=>?_) (fun _ _ _ m=>m.2) fun i vals d p1 p2=>?_) ⟨⟨.none,ge⟩,Ο _,by rw [Nat.add_zero,Ő];exact ⟨⟨_,gi,rfl,rfl⟩,⟨o,kk _ _ (I2.gh _ _ g),tc,m,td⟩⟩⟩ (fun b hb=>?_) e2
      ·obtain ⟨⟨old,e1⟩,_,⟨o2,e2,_⟩,_⟩:=st
       rcases ς.mp hb with w | w
       ·rw [w];exact ⟨_,e1⟩
       ·rw [η.mp w];exact ⟨o2,e2⟩
      ·obtain ⟨t,v,p3,rfl⟩:=p1
       rw [ir,π] at p2
       obtain ⟨d',p4,rfl⟩:=p2
       rw [ł] at p3
       refine ⟨by simp [ă],_,rfl,fun ρ' G' h1 h2=>?_⟩
       exact .cons ⟨t,by rw [Int.natCast_add]⟩ (.cons ((r.mono h1 h2).v p4 p3) rfl)
      rcases ς.mp hb with w | w
      ·rw [w];exact .inl ⟨fJ (ý _),_,ge⟩
      ·rcases ς.mp w with w | w
       ·rw [w];exact .inl ⟨aD z2,_,gi⟩
       ·rw [η.mp w]
        refine .inr ⟨fun q=>?_,_,g⟩
        rcases ς.mp q with q | q
        ·exact ϧ (AI hlt) q
        ·exact ϧ hlt (η.mp q)
     ·rw [ZY hn] at e2;exact ZX e2 nb
   | _=>exact ZX e2 nb
 | _=>exact ZX (e2.trans (by cases y <;> rfl)) nb
end
end L2.Ev
end
section
namespace L2.Bw
section
variable {prog:ϱ} {w:Ð} {A:ϑ} {R:Result→ξ→Prop} {it:Ε} {fp wr:List Ε} {n:Nat} {f:Nat→Int} {Z:Nat→ϯ→Prop}
abbrev eF (f:Nat→Int):Nat→ζ→Prop:=fun i v=>∃ t,v = .int (f i) t
abbrev cB (f:Nat→Int):Nat→Nat→Bool:=fun i j=>decide (f i>f j)
theorem wF (W:Walks prog w A.in1 it fp wr n (eF f) Z) (kws:List (ι×ζ)) (B:Ε) (nB:B ∉ fp) :
 ∀ (k j:Nat) (s:ξ) (u:ζ) (c:Nat),n - (j+1)=k→j+1≤n→Z (j+1) s.heap→eF f (é (cB f) j) u→s.heap.get? B=some { cls:=.type "list",dict:=none,data:=.seq #[u,u] c,slots:=#[] } →
 (∀ v h1 tk,eF f (é (cB f) (n - 1)) v→(∀ b o,b ∉ wr→b≠B→s.heap.get? b=some o→h1.get? b=some o)→R (.ok (.ret v)) { s with heap:=h1,toks:=tk }) →
 Ň (model prog w) A (.builtin "max.loop" ⟨[.ref it,.none,.ref B],kws⟩) R s:=by
 have nw:B ∉ wr:=fun h=>nB (W.sub _ h)
 have nm:(toString "max" ++ toString ".loop":String) = "max.loop":=by decide
 have cmp:CmpOf prog w A.in1 .Gt (eF f) (cB f):=Dl f fun _ _ h=>h
 intro k
 induction k with
 | zero=>
   intro j s u c hk hj hz hu hB hR
   have e:j+1=n:=by omega
   refine Ũ Bj ?_
   rw [ŗ è _]
   show χ _ A.in1 (A3 (.ref B) >>= fun _=>_) _ _ s
   refine ε (Ú hB rfl ?_)
   show χ _ A.in1 (tryCatch (Bv (.ref it)) _ >>= fun _=>_) _ _ s
   refine ε (ĵ (W.done s _ _ (e ▸ hz) fun h1 tk k1=>?_))
   show χ _ A.in1 (updateSeq B (fun _=>#[]) >>= fun _=>_) _ _ _
   refine ε (ť (k1 B _ nw hB) rfl (ε (Ņ (θ ?_))))
   exact hR u _ tk (by rw [← e];exact hu) fun b o n1 n2 q=>(ϗ _ _ (Ϥ n2)).trans (k1 b o n1 q)
 | succ k ih=>
   intro j s u c hk hj hz hu hB hR
   have lt:j+1<n:=by omega
   refine Ũ Bj ?_
   rw [ŗ è _]
   show χ _ A.in1 (A3 (.ref B) >>= fun _=>_) _ _ s
   refine ε (Ú hB rfl ?_)
   show χ _ A.in1 (tryCatch (Bv (.ref it)) _ >>= fun _=>_) _ _ s
   refine ε (ĵ (W.item (j+1) s _ _ lt hz fun v h1 tk hv hz1 k1=>?_))
   have hB1:=k1 B _ nw hB
   show χ _ A.in1 (tryCatch (holding [v,v] (richCompare .Gt v u >>= _)) _ >>= fun _=>_) _ _ _
   refine ε (ĵ (ό (ε (cmp (j+1) (é (cB f) j) v u _ _ _ hv hu ?_))))
   refine ε (ό (á (ε (Ņ (θ ?_)))))
   cases hb:cB f (j+1) (é (cB f) j) with
   | true=>
     simp only [if_true]
     refine ε (ť hB1 rfl (ε (Ņ ?_)))
     rw [nm]
     refine θ ⟨AN è _,ih (j+1) _ v _ (by omega) lt (W.frame _ _ _ hz1 fun b hbf o q=>(ϗ _ _ (fun z:B=b=>nB (by rw [z];exact hbf))).trans q) ?_ (ϥ _ hB1 rfl) fun v' h2 tk2 hv' k2=>?_⟩
     ·simp only [é,hb,if_true];exact hv
     ·exact hR v' h2 tk2 hv' fun b o n1 n2 q=>k2 b o n1 n2 ((ϗ _ _ (Ϥ n2)).trans (k1 b o n1 q))
   | false=>
     simp only [ì,if_false]
     refine ε (Ņ ?_)
     rw [nm]
     refine θ ⟨AN è _,ih (j+1) _ u c (by omega) lt hz1 ?_ hB1 fun v' h2 tk2 hv' k2=>hR v' h2 tk2 hv' fun b o n1 n2 q=>k2 b o n1 n2 (k1 b o n1 q)⟩
     simp only [é,hb,ì,if_false];exact hu
theorem eV (f:Nat→Int):∀ k i,i≤k→f i≤f (é (cB f) k)
 | 0,i,h=>by cases (show i=0 by omega);exact Ĵ _
 | k+1,i,h=>by
   unfold é
   cases hb:cB f (k+1) (é (cB f) k) with
   | true=>
     have hb':f (k+1)>f (é (cB f) k):=of_decide_eq_true hb
     simp only [if_true]
     by_cases e:i=k+1
     ·rw [e];exact Ĵ _
     ·have:=eV f k i (by omega);omega
   | false=>
     have hb':¬ f (k+1)>f (é (cB f) k):=of_decide_eq_false hb
     simp only [ì,if_false]
     by_cases e:i=k+1
     ·rw [e];omega
     ·exact eV f k i (by omega)
theorem ip (f:Nat→Int):∀ k,é (cB f) k≤k
 | 0=>Ο _
 | k+1=>by
   unfold é
   cases cB f (k+1) (é (cB f) k) with
   | true=>exact Ο _
   | false=>exact ϰ (ip f k) (ý _)
end
theorem o6 (r:List Int):∀ x:Int,x≤r.foldl (fun a b=>if b>a then b else a) x∧(∀ y∈r,y≤r.foldl (fun a b=>if b>a then b else a) x)∧(r.foldl (fun a b=>if b>a then b else a) x=x∨r.foldl (fun a b=>if b>a then b else a) x∈r):=by
 induction r with
 | nil=>intro x;exact ⟨Ĵ _,fun y h=>(nomatch h),.inl rfl⟩
 | cons b r ih=>
   intro x
   have h:=ih (if b>x then b else x)
   rw [B6]
   obtain ⟨h1,h2,h3⟩:=h
   by_cases c:b>x
   ·rw [ZZ c] at h1 h2 h3 ⊢
    refine ⟨by omega,fun y hy=>?_,?_⟩
    ·rcases ς.mp hy with rfl | hy
     ·exact h1
     ·exact h2 y hy
    ·rcases h3 with h3 | h3
     ·exact .inr (by rw [h3];exact μ)
     ·exact .inr (ν _ h3)
   ·rw [ZY c] at h1 h2 h3 ⊢
    refine ⟨h1,fun y hy=>?_,?_⟩
    ·rcases ς.mp hy with rfl | hy
     ·omega
     ·exact h2 y hy
    ·rcases h3 with h3 | h3
     ·exact .inl h3
     ·exact .inr (ν _ h3)
theorem lV {d m:Int} {ns:List Int} (ne:ns≠[]) (hm:m∈ns) (hg:∀ y∈ns,y≤m):maxD d ns=m:=by
 cases ns with
 | nil=>exact ZX rfl ne
 | cons x r=>
   obtain ⟨h1,h2,h3⟩:=o6 r x
   have k1:maxD d (x :: r)=r.foldl (fun a b=>if b>a then b else a) x:=rfl
   rw [k1]
   have a1:r.foldl (fun a b=>if b>a then b else a) x≤m:=by
    rcases h3 with h3 | h3
    ·rw [h3];exact hg x μ
    ·exact hg _ (ν _ h3)
   have a2:m≤r.foldl (fun a b=>if b>a then b else a) x:=by
    rcases ς.mp hm with rfl | hm
    ·exact h1
    ·exact h2 m hm
   omega
theorem cN:∀ {us:List ζ} {ns:List Int} {i:Nat} {v:ζ},A7 us ns→us[i]? = some v→∃ t,v = .int (ns.getD i 0) t
 | _,_,_,_,.nil,e=>by simp at e
 | _,_,0,v,.cons _ t _,e=>by simp at e;subst e;exact ⟨t,by simp⟩
 | _,_,i+1,v,.cons _ _ r,e=>by
   obtain ⟨t,h⟩:=cN (i:=i) r (by simpa using e)
   exact ⟨t,by simpa using h⟩
theorem wG {prog:ϱ} {w:Ð} {A:ϑ} {E:ζ→ξ→Prop} {s:ξ} {l:Ε} {us:List ζ} {ns:List Int} {d:Int} {td:Tok} {Q:ζ→ξ→Prop} (hh:A.handled=none) (hl:s.heap.IsList l us.toArray) (hi:A7 us ns)
 (q:∀ t h1 tk,(∀ b o,s.heap.get? b=some o→h1.get? b=some o)→Q (.int (maxD d ns) t) { s with heap:=h1,toks:=tk }):χ (model prog w) A (call (.builtin "max") [.ref l] [("default",.int d td)]) Q E s:=by
 have nm:(toString "max" ++ toString ".loop":String) = "max.loop":=by decide
 have hlt:l<s.heap.objs.size:=by obtain ⟨_,e,_⟩:=hl;exact Χ e
 refine Ă (ã F.plain_max F.entry_max (BE (a:=()) (by kernel_rfl) ?_))
 show χ _ A.in1 (Dm "max" ["key","default"] 0 ⟨[],[("default",.int d td)]⟩ >>= fun _=>_) _ _ s
 refine ε (BE (a:=[none,some (.int d td)]) (by rfl) (ε (θ ?_)))
 refine ε (Ĕ hl (ε (Â ?_)))
 rw [nm]
 let it:Ε:=s.heap.objs.size
 generalize hh1:s.heap.push { cls:=.type "list_iterator",data:=.fields #[.ref l,.int 0 0] }=h1
 have sz1:h1.objs.size=s.heap.objs.size+1:=by rw [← hh1];exact Ϻ ..
 have kp1:∀ b o,s.heap.get? b=some o→h1.get? b=some o:=fun b o e=>by rw [← hh1];exact υ _ e
 have it1:h1.IsListIter s.heap.objs.size l 0:=by rw [← hh1];exact ⟨_,ψ _ rfl,rfl,rfl⟩
 have W:=Cf (prog:=prog) (w:=w) (A:=A.in1) hh s.heap.objs.size l (ϧ hlt) us.toArray
 have nB:h1.objs.size ∉ [s.heap.objs.size,l]:=fun hm=>by
  rw [sz1] at hm
  rcases ς.mp hm with z | z
  ·exact ZX z (ŀ _)
  ·rw [η] at z;exact ZX hlt (by rw [← z];exact ź.mpr (ý _))
 have hlen:us.length=ns.length:=hi.length
 have hB:(h1.push { cls:=.type "list",dict:=none,data:=.seq ([]:List ζ).toArray }).get? h1.objs.size=some { cls:=.type "list",dict:=none,data:=.seq #[] 0,slots:=#[] }:=ψ _ rfl
 have st0:(h1.push { cls:=.type "list",dict:=none,data:=.seq ([]:List ζ).toArray }).IsListIter s.heap.objs.size l 0∧(h1.push { cls:=.type "list",dict:=none,data:=.seq ([]:List ζ).toArray }).IsList l us.toArray:=
  ⟨it1.at fun o e=>υ _ e,(hl.at fun o e=>kp1 l o e).at fun o e=>υ _ e⟩
 have back:∀ (h2:ϯ),(∀ b o,b ∉ [s.heap.objs.size]→b≠h1.objs.size→(h1.push { cls:=.type "list",dict:=none,data:=.seq ([]:List ζ).toArray }).get? b=some o→h2.get? b=some o)→∀ b o,s.heap.get? b=some o→h2.get? b=some o:=fun h2 k b o e=>by
  have lt:=Χ e
  refine k b o (fun z=>?_) (fun z=>?_) (υ _ (kp1 b o e))
  ·rw [η.mp z] at lt;exact ě _ lt
  ·rw [z,sz1] at lt;exact ZX lt (ź.mpr (ý _))
 refine θ ⟨AN è _,?_⟩
 refine Ũ Bj ?_
 rw [ŗ è _]
 show χ _ A.in1 (A3 (.ref h1.objs.size) >>= fun _=>_) _ _ _
 refine ε (Ú hB rfl ?_)
 show χ _ A.in1 (tryCatch (Bv (.ref s.heap.objs.size)) _ >>= fun _=>_) _ _ _
 cases hns:ns with
 | nil=>
   have hz:us.toArray.size=0:=by rw [hns] at hlen;simpa using hlen
   refine ε (ĵ (W.done _ _ _ (by rw [hz];exact st0) fun h2 tk k2=>?_))
   refine ε (AS (θ ?_))
   have:=q td h2 tk (back h2 fun b o n1 n2 e=>k2 b o n1 e)
   rw [hns] at this
   exact this
 | cons x r=>
   have hz:0<us.toArray.size:=by rw [hns] at hlen;simp;rw [hlen];simp
   let f:Nat→Int:=fun i=>ns.getD i 0
   have P:∀ i v,us.toArray[i]? = some v→eF f i v:=fun i v e=>by
    have e':us[i]? = some v:=by simpa using e
    obtain ⟨t,ht⟩:=cN hi e'
    exact ⟨t,ht⟩
   have W':Walks prog w A.in1 s.heap.objs.size [s.heap.objs.size,l] [s.heap.objs.size] us.toArray.size (eF f) (fun i h=>h.IsListIter s.heap.objs.size l i∧h.IsList l us.toArray):=
    { sub:=W.sub,frame:=W.frame,done:=W.done,self:=W.self,item:=fun i s Q E hi st hQ=>W.item i s Q E hi st fun v h' tk hP=>hQ v h' tk (P i v hP) }
   refine ε (ĵ (W'.item 0 _ _ _ hz st0 fun v h2 tk hv st2 k2=>?_))
   have nBw:h1.objs.size ∉ [s.heap.objs.size]:=fun z=>nB (by rw [η.mp z];exact μ)
   have hB2:=k2 _ _ nBw hB
   show χ _ A.in1 (updateSeq h1.objs.size (fun _=>#[v,v]) >>= fun _=>_) _ _ _
   refine ε (ť hB2 rfl ?_)
   rw [nm]
   refine θ ⟨AN è _,wF W' _ h1.objs.size nB _ 0 _ v _ rfl hz (W'.frame _ _ _ st2 fun b hb o e=>(ϗ _ _ (fun z:h1.objs.size=b=>nB (by rw [z];exact hb))).trans e) hv (ϥ _ hB2 rfl) fun v' h3 tk3 hv' k3=>?_⟩
   obtain ⟨t',e'⟩:=hv'
   have lt:=ip f (us.toArray.size - 1)
   have hmem:f (é (cB f) (us.toArray.size - 1))=maxD d ns:=by
    have hl2:é (cB f) (us.toArray.size - 1)<ns.length:=by simp at lt hz ⊢;omega
    refine (lV (by rw [hns];simp) ?_ fun y hy=>?_).symm
    ·show ns.getD _ 0∈ns
     rw [Ϯ,φ hl2]
     exact þ _
    ·obtain ⟨i,hi',rfl⟩:=C4.mp hy
     have:=eV f (us.toArray.size - 1) i (by simp;omega)
     have e2:f i=ns[i]:=by show ns.getD i 0=_;rw [Ϯ,φ hi'];rfl
     rw [← e2];exact this
   have q':=q t' h3 tk3 (back h3 fun b o n1 n2 e=>k3 b o n1 n2 ((ϗ _ _ (Ϥ n2)).trans (k2 b o n1 e)))
   subst e'
   rw [hmem]
   exact q'
section
variable {M:C1} {A:ϑ} {E:ζ→ξ→Prop} {s:ξ} {env:AK} {pos:Ϭ} {e:Ν}
theorem oF {id:String} {rest:List Ν} {kws:List ţ} {Q:ζ→ξ→Prop}
 (h:χ M A (spliced (ϲ pos (Α (e :: rest) env))) (fun vs s1=>χ M A (DN ((È pos (Ϩ kws env)).map (·.2))) (fun ks s2=>χ M A (call (.builtin id) vs (((È pos (Ϩ kws env)).filterMap (·.1)).zip ks)) Q E s2) E s1) E s)
 (he:Α (e :: rest) env=(false,eval e env) :: Α rest env) (h1:(ϲ pos (Α (e :: rest) env)).any (·.1)=false) (h2:(È pos (Ϩ kws env)).all (·.1.isSome)=true) (h3:(È pos (Ϩ kws env)).any (·.1.isNone)=false) :
 χ M A (Ś pos (.builtin id) [] (ϲ pos (Α (e :: rest) env)) (È pos (Ϩ kws env))) Q E s:=by
 have k:χ M A (evalArgs (.builtin id) true (ϲ pos (Α (e :: rest) env)) (È pos (Ϩ kws env))) (fun a s1=>χ M A (call (.builtin id) ([] ++ a.pos) a.kw) Q E s1) E s:=by
  rw [he] at h ⊢
  exact evalArgs_kwB h2 h
 unfold Ś
 refine ε (ό (thn k fun a s1 q=>ε (Ô ?_)))
 simp only [h1,h3,Ű]
 exact ε (θ (ε (thn q fun r s2 q2=>ε (ό (BD (θ q2))))))
end
end L2.Bw
namespace L2.Ev
open L2.Bw
section
variable {X:Cx}
theorem sB {kp:Ϭ} (hc:X.calm=true) (hx:Blt X "max" (.builtin "max")) (ha:LE X ea a) (hb:LE X eb b) (he:Α [ea] X.env=(false,eval ea X.env) :: Α [] X.env):LE X (.Call (.Name "max" p) [ea] [⟨some "default",eb,kp⟩] pos) (.bi .max0 (.cons a (.cons b .nil))):=fun br z I nb=>by
 refine Ê (hx.ld I ?_)
 refine oF ?_ he (by rw [he];rfl) rfl rfl
 rw [he]
 refine Ξ ((ha true).go .refl I (ev2 fun l s=>Out.of s (biD .max0 (l.map (look s.st)))) nb fun z1 x u y1 x1 I1 r1 e1=>ϊ ?_)
 show χ _ _ (DN ((do let v ← eval eb X.env;ņ pos;pure v) :: [])) _ _ _
 refine Dq (ε ((hb true).go x1 I1 e1 nb fun z2 y v y2 x2 I2 r2 e2=>ε (Ô (θ (DJ ?_)))))
 refine cR x2 I2 e2 nb fun d q=>?_
 have c1:=(r1.rb.st y2 I2).cr I2
 have c2:=r2.rb.cr I2
 have q:u4 .max0 (look z2.t.st x) (look z2.t.st y)=some d:=q
 revert q c1 c2
 generalize look z2.t.st x=x'
 generalize look z2.t.st y=y'
 intro c1 c2 q
 cases x' with
 | lst l=>
   cases y' with
   | int d0=>
     obtain ⟨ns,q1,rfl⟩:=π.mp q
     obtain ⟨a0,o,vs,rfl,g,⟨⟨n,rfl⟩,hz⟩,r⟩:=c1
     obtain ⟨t,rfl⟩:=(show ∃ t,v=ą d0 t from c2)
     exact wG (I2.hd hc) (show z2.s.heap.IsList a0 vs.toArray from ⟨_,g,rfl,n,rfl⟩) (dY q1 r) fun t h1 tk kp=>.flat (.hp kp) fun G=>⟨t,rfl⟩
   | _=>cases q
 | _=>cases q
end
section
variable {X:Cx} {z:Z}
theorem rE (hc:X.calm=true):Bi1 X (.builtin "max") .max2:=fun z u x d I h e=>by
 cases x with
 | lst l=>
   have e:(match bh l with | some (n :: r)=>some (D.int (maxD 0 (n :: r))) | _=>none)=some d:=e
   cases q:bh l with
   | none=>rw [q] at e;cases e
   | some ns=>
     cases ns with
     | nil=>rw [q] at e;cases e
     | cons n0 r0=>
       rw [q] at e;cases e
       obtain ⟨a,o,vs,rfl,g,⟨⟨n,rfl⟩,hz⟩,r⟩:=h
       have hi:=dY q r
       have hlt:=Χ g
       have hl:z.s.heap.IsList a vs.toArray:=⟨_,g,rfl,n,rfl⟩
       have hlen:vs.length=(n0 :: r0).length:=hi.length
       let f:Nat→Int:=fun i=>(n0 :: r0).getD i 0
       have P:∀ i v,vs.toArray[i]? = some v→eF f i v:=fun i v e=>cN hi (by simpa using e)
       refine call_max_walk (Ĕ hl ?_)
       have W:=Cf (prog:=X.W.P) (w:=X.W.w) (A:=X.A.in1) (I.hd hc) z.s.heap.objs.size a (ϧ hlt) vs.toArray
       refine ⟨z.s.heap.objs.size,[z.s.heap.objs.size,a],[z.s.heap.objs.size],vs.toArray.size,eF f,_,cB f,rfl,{ sub:=W.sub,frame:=W.frame,done:=W.done,self:=W.self,item:=fun i s Q E hi st hQ=>W.item i s Q E hi st fun v h' tk hP=>hQ v h' tk (P i v hP) },⟨⟨_,ψ _ rfl,rfl,rfl⟩,hl.push _⟩,fun b hb=>?_,by simp [hlen],Dl f fun _ _ h=>h,fun v h' tk hv hk=>?_⟩
       ·show b<(z.s.heap.push _).objs.size
        rw [Ϻ]
        rcases ς.mp hb with w | w
        ·rw [w];exact Ł _
        ·rw [η.mp w];exact AI hlt
       ·obtain ⟨t,rfl⟩:=hv
        have lt:=ip f (vs.toArray.size - 1)
        have hl2:é (cB f) (vs.toArray.size - 1)<(n0 :: r0).length:=by simp at lt ⊢;simp at hlen;omega
        have em:f (é (cB f) (vs.toArray.size - 1))=maxD 0 (n0 :: r0):=by
         refine (lV (by simp) ?_ fun y hy=>?_).symm
         ·show (n0 :: r0).getD _ 0∈_
          rw [Ϯ,φ hl2]
          exact þ _
         ·obtain ⟨i,hi',rfl⟩:=C4.mp hy
          have:=eV f (vs.toArray.size - 1) i (by simp at hi' hlen ⊢;omega)
          have e2:f i=(n0 :: r0)[i]:=by show (n0 :: r0).getD i 0=_;rw [Ϯ,φ hi'];rfl
          rw [← e2];exact this
        exact .flat (.hp fun b o e=>hk b o (fun hm=>by rw [η.mp hm] at e;exact ě _ (Χ e)) (υ _ e)) fun G=>⟨t,by rw [em]⟩
 | _=>cases e
end
end L2.Ev
end
section
namespace L2.Ev
section
variable {X:Cx}
theorem sE (hc:X.calm=true) (hx:Blt X "len" (.builtin "len")) (hy:Blt X "set" (.type "set")) (ha:LE X ea a) (he:Α [ea] X.env=(false,eval ea X.env) :: Α [] X.env) (he2:Α [.Call (.Name "set" p2) [ea] [] pos2] X.env=(false,eval (.Call (.Name "set" p2) [ea] [] pos2) X.env) :: Α [] X.env):LE X (.Call (.Name "len" p) [.Call (.Name "set" p2) [ea] [] pos2] [] pos) (.bi .setl (.cons a .nil)):=fun br z I nb=>
 aU (.inl ⟨_,rfl⟩) hx he2 rfl I (Ξ (aU (.inr ⟨_,rfl⟩) hy he rfl I (Ξ ((ha true).go .refl I (ev1 fun l s=>Out.of s (biD .setl (l.map (look s.st)))) nb fun z1 x u y1 x1 I1 r1 e1=>ϊ (by
  have c1:=r1.rb.cr I1
  have e1:_=Out.of z1.t (fx .setl (look z1.t.st x)):=e1
  revert c1 e1
  generalize look z1.t.st x=x'
  intro c1 e1
  cases od:fx .setl x' with
  | none=>rw [od] at e1;exact ZX e1 nb
  | some d=>
    rw [od] at e1
    cases x' with
    | lst l=>
      obtain ⟨ns,q1,q2⟩:=ϋ.mp (show ((bh l).bind fun ns=>if ns.length+1<4096 then some (D.int ((D4 (fun i=>ns.getD i 0) ns.length).length:Nat)) else none)=some d from od)
      by_cases lt:ns.length+1<4096
      ·rw [ZZ lt] at q2
       cases q2
       obtain ⟨a0,o,vs,rfl,g,⟨⟨n,rfl⟩,hz⟩,r⟩:=c1
       have hi:=dY q1 r
       have hl:vs.length=ns.length:=hi.length
       refine call_set_list (I1.hd hc) (l:=a0) (items:=vs.toArray) (ns:=ns) ⟨_,g,rfl,n,rfl⟩ (by simpa using hi) (by rw [Μ,hl];exact lt) fun h' tk hS hk=>?_
       rw [show vs.toArray.size=ns.length by rw [Μ,hl]] at hS
       obtain ⟨o',ho,hex,es,ep,t,hd,_,_,hn,hf⟩:=hS.objOf
       have le:=firstMet_length_le (fun i=>ns.getD i 0) ns.length
       have hn:(D4 (fun i=>ns.getD i 0) ns.length).length=es.size:=hn.symm
       rw [hn] at e1 le
       exact ϊ (call_len_set ho hex hd hf (by omega) (Dn.at x1 I1 e1 (.flat (.hp fun b o e=>hk b o (Χ e) e) fun G=>⟨_,rfl⟩)))
      ·rw [ZY lt] at q2;cases q2
    | _=>cases od)))))
end
def isP (x y:ι):Option (PLift (x=y)):=match h:x == y with
 | true=>some ⟨by simpa using h⟩
 | false=>none
theorem ju:aS (.bi b es)=aS (.bi b .nil):=by cases b <;> rfl
abbrev xm (x:ι) (b:Bi):Prop:=∀ X:Cx,X.calm=true→∃ f,FB f∧ĕ x=some f∧((Bi1 X f b∧aS (.bi b .nil)=false)∨rr X f b)
def zg:List {q:ι×Bi // xm q.1 q.2}:=[
 ⟨("len",.len),fun X c=>⟨_,.inl ⟨_,rfl⟩,boot_len,.inl ⟨u6,rfl⟩⟩⟩,
 ⟨("tuple",.tuple),fun X c=>⟨_,.inr ⟨_,rfl⟩,AG,.inl ⟨ox,rfl⟩⟩⟩,
 ⟨("list",.list),fun X c=>⟨_,.inr ⟨_,rfl⟩,AO,.inr rD⟩⟩,
 ⟨("dict",.dict),fun X c=>⟨_,.inr ⟨_,rfl⟩,Eg,.inr rC⟩⟩,
 ⟨("max",.max2),fun X c=>⟨_,.inl ⟨_,rfl⟩,boot_max,.inl ⟨rE c,rfl⟩⟩⟩,
 ⟨("int",.int),fun X c=>⟨_,.inr ⟨_,rfl⟩,B0,.inl ⟨u5,rfl⟩⟩⟩]
abbrev xn (x:ι) (b:Bi):Prop:=aS (.bi b .nil)=false∧∀ X:Cx,X.calm=true→∃ f,FB f∧ĕ x=some f∧Bi2 X f b
def zh:List {q:ι×Bi // xn q.1 q.2}:=[]
def rB {P:ι→Bi→Prop} (x:ι):List {q:ι×Bi // P q.1 q.2}→Option {b:Bi // P x b}
 | []=>none
 | q :: r=>match isP q.1.1 x with
   | some h=>some ⟨q.1.2,by rw [← h.down];exact q.2⟩
   | none=>rB x r
abbrev xx (x:ι) (b:Bi):Prop:=(b = .isTup∨b = .isStr∨b = .isBool∨b = .isInt∨b = .isLst∨b = .isDic)∧ĕ x=some (.type (tyN b))
def tys:List {q:ι×Bi // xx q.1 q.2}:=[⟨("tuple",.isTup),.inl rfl,AG⟩,⟨("int",.isInt),.inr (.inr (.inr (.inl rfl))),B0⟩,⟨("list",.isLst),.inr (.inr (.inr (.inr (.inl rfl)))),AO⟩]
section
variable {T:Ns} {nm:List (ι×Β)} {N:List ι}
def gv (T:Ns) (nm:List (ι×Β)) (x:ι):Option (PLift (x∈T.bl∧bX nm x=true)):=do
 let m ← qt x T.bl
 let g ← yes (bX nm x)
 some ⟨m.down,g.down⟩
theorem bA (k:CxOk T X nm N) (h:x∈T.bl∧bX nm x=true) (hv:ĕ x=some u) (hn:x≠"__name__":=by decide) (hd:(x == ("__debug__":ι))=false:=by decide):Blt X x u:=⟨bg k.sc h.2,k.blt x h.1,hv,hn,hd⟩
def zl (f:∀ e,Option (GE T nm N e)) (x:ι) (p:Ϭ) (hx:x≠"__name__") (hd:(x == ("__debug__":ι))=false) (m:x∈T.bl∧bX nm x=true):(es:List Ν)→(pos:Ϭ)→Option (GE T nm N (.Call (.Name x p) es [] pos))
 | [e],pos=>do
   let he ← yes (aI e)
   let a ← f e
   let b ← rB x zg
   some ⟨.bi b.1 (.cons a.1 .nil),fun X k=>by
    obtain ⟨fv,h1,h2,h3⟩:=b.2 X k.calm
    rcases h3 with ⟨h3,h4⟩ | h3
    ·exact mk (vV h3 h1 (bA k m h2 hx hd) (a.2 X k).1 (ah he.down)) (ju.trans h4)
    ·exact mkf (we h3 h1 (bA k m h2 hx hd) (a.2 X k).1 (ah he.down))⟩
 | [e,g],pos=>do
   let he ← yes (aI e)
   let hg ← yes (aI g)
   let a ← f e
   let c ← f g
   let b ← rB x zh
   some ⟨.bi b.1 (.cons a.1 (.cons c.1 .nil)),fun X k=>by
    obtain ⟨fv,h1,h2,h3⟩:=b.2.2 X k.calm
    exact mk (vW h3 h1 (bA k m h2 hx hd) (a.2 X k).1 (c.2 X k).1 (ah he.down) (ah hg.down)) (ju.trans b.2.1)⟩
 | _,_=>none
def tZ (f:∀ e,Option (GE T nm N e)) (x:ι) (p:Ϭ) (e:Ν) (er:List Ν) (pos:Ϭ):Option (GE T nm N (.Call (.Name x p) (e :: er) [] pos)):=do
 let hd ← no (x == ("__debug__":ι))
 let hnm ← no (x == ("__name__":ι))
 let hg ← yes (bX nm x)
 match zc x T.alt T.fn with
 | some j=>
   let hn ← yes (er.all aI)
   let he ← yes (aI e)
   let a ← eH f (e :: er)
   some (if T.oc.contains x then ⟨.fcall true j.1 a.1,fun X k=>by
    obtain ⟨n,fa,h1,h2,h3⟩:=k.fns j.1 x j.2
    exact mkf (pX h1 h2 (bg k.sc hg.down) h3 (a.2 X k) hd.down (ah he.down) (bb (ϝ.mp hn.down)))⟩ else if T.fc.contains x then ⟨.fcall false j.1 a.1,fun X k=>by
    obtain ⟨n,fa,h1,h2,h3⟩:=k.fns j.1 x j.2
    exact mk (pS h1 h2 (bg k.sc hg.down) h3 (a.2 X k) hd.down (ah he.down) (bb (ϝ.mp hn.down)))⟩ else if T.hc.contains x then ⟨.hcall j.1 a.1,fun X k=>by
    obtain ⟨n,fa,h1,h2,h3⟩:=k.fns j.1 x j.2
    exact mk (pT h1 h2 (bg k.sc hg.down) h3 (a.2 X k) hd.down (ah he.down) (bb (ϝ.mp hn.down)))⟩ else ⟨.call j.1 a.1,fun X k=>by
    obtain ⟨n,fa,h1,h2,h3⟩:=k.fns j.1 x j.2
    exact mk (sx h1 h2 (bg k.sc hg.down) h3 (a.2 X k) hd.down (ah he.down) (bb (ϝ.mp hn.down)))⟩)
 | none=>
   let m ← qt x T.bl
   zl f x p (by simpa using hnm.down) hd.down ⟨m.down,hg.down⟩ (e :: er) pos
def cIs (f:∀ e,Option (GE T nm N e)) (y:ι) (p:Ϭ) (ea:Ν) (x:ι) (q pos:Ϭ):Option (GE T nm N (.Call (.Name y p) [ea,.Name x q] [] pos)):=do
 let hy ← isP "isinstance" y
 let g1 ← gv T nm "isinstance"
 let g2 ← gv T nm x
 let b ← rB (P:=xx) x tys
 let hd ← no (x == ("__debug__":ι))
 let hnm ← no (x == ("__name__":ι))
 let he ← yes (aI ea)
 let a ← f ea
 some ⟨.bi b.1 (.cons a.1 .nil),fun X k=>by
  obtain rfl:=hy.down
  exact mk (yr b.2.1 (bA k g1.down Ed) (bA k g2.down b.2.2 (by simpa using hnm.down) hd.down) (a.2 X k).1 (ah he.down)) (by rcases b.2.1 with w | w | w | w | w | w <;> rw [w] <;> rfl)⟩
def zy (f:∀ e,Option (GE T nm N e)) (y:ι) (p:Ϭ) (ea:Ν) (x:ι) (q pos:Ϭ):Option (GE T nm N (.Call (.Name y p) [ea,.Name x q] [] pos)):=none
def zx (f:∀ e,Option (GE T nm N e)) (y:ι) (p:Ϭ) (ea:Ν) (x1 x2 x3:ι) (q1 q2 q3:Ϭ) (k:Nat) (q pos:Ϭ):Option (GE T nm N (.Call (.Name y p) [ea,.Tuple [.Name x1 q1,.Name x2 q2,.Name x3 q3] k q] [] pos)):=none
def zG (f:∀ e,Option (GE T nm N e)) (x y:ι) (p1 p2:Ϭ) (ea:Ν) (pos2 pos:Ϭ):Option (GE T nm N (.Call (.Name x p1) [.Call (.Name y p2) [ea] [] pos2] [] pos)):=none
def gR (f:∀ e,Option (GE T nm N e)) (tg e:Ν):Option (GI T nm N tg e):=(f e).map fun a=>⟨.itv a.1,fun X k=>z9 k.calm (a.2 X k).1⟩
def cR1 (f:∀ e,Option (GE T nm N e)) (tg:Ν) (x:ι) (p:Ϭ) (a:Ν) (pos:Ϭ):Option (GI T nm N tg (.Call (.Name x p) [a] [] pos)):=do
 let hx ← isP "range" x
 let g ← gv T nm "range"
 let he ← yes (aI a)
 let u ← f a
 some ⟨.it .range1 (.cons u.1 .nil),fun X k=>by
  obtain rfl:=hx.down
  exact nE k.calm (bA k g.down boot_range) (u.2 X k).1 (ah he.down)⟩
def cR2 (f:∀ e,Option (GE T nm N e)) (tg:Ν) (x:ι) (p:Ϭ) (a b:Ν) (pos:Ϭ):Option (GI T nm N tg (.Call (.Name x p) [a,b] [] pos)):=none
def cE1 (f:∀ e,Option (GE T nm N e)) (ts:List Ν) (n:Nat) (tp:Ϭ) (x:ι) (p:Ϭ) (a:Ν) (pos:Ϭ):Option (GI T nm N (.Tuple ts n tp) (.Call (.Name x p) [a] [] pos)):=do
 let hx ← isP "enumerate" x
 let g ← gv T nm "enumerate"
 let he ← yes (aI a)
 let u ← f a
 some ⟨.it .enum (.cons u.1 .nil),fun X k=>by
  obtain rfl:=hx.down
  exact sH k.calm (bA k g.down boot_enumerate) (u.2 X k).1 (ah he.down)⟩
def cE2 (f:∀ e,Option (GE T nm N e)) (ts:List Ν) (n:Nat) (tp:Ϭ) (x y:ι) (p:Ϭ) (a b:Ν) (kp pos:Ϭ):Option (GI T nm N (.Tuple ts n tp) (.Call (.Name x p) [a] [⟨some y,b,kp⟩] pos)):=do
 let hx ← isP "enumerate" x
 let hy ← isP "start" y
 let g ← gv T nm "enumerate"
 let he ← yes (aI a)
 let u ← f a
 let w ← f b
 some ⟨.it .enum2 (.cons u.1 (.cons w.1 .nil)),fun X k=>by
  obtain rfl:=hx.down
  obtain rfl:=hy.down
  exact pZ k.calm (bA k g.down boot_enumerate) (u.2 X k).1 (w.2 X k).1 (ah he.down)⟩
def cZ2 (f:∀ e,Option (GE T nm N e)) (ts:List Ν) (n:Nat) (tp:Ϭ) (x:ι) (p:Ϭ) (a b:Ν) (pos:Ϭ):Option (GI T nm N (.Tuple ts n tp) (.Call (.Name x p) [a,b] [] pos)):=do
 let hx ← isP "zip" x
 let g ← gv T nm "zip"
 let ha ← yes (aI a)
 let hb ← yes (aI b)
 let u ← f a
 let v ← f b
 some ⟨.it .zip2 (.cons u.1 (.cons v.1 .nil)),fun X k=>by
  obtain rfl:=hx.down
  exact sI k.calm (bA k g.down boot_zip) (u.2 X k).1 (v.2 X k).1 (ah ha.down) (ah hb.down)⟩
def cZ3 (f:∀ e,Option (GE T nm N e)) (ts:List Ν) (n:Nat) (tp:Ϭ) (x:ι) (p:Ϭ) (a b c:Ν) (pos:Ϭ):Option (GI T nm N (.Tuple ts n tp) (.Call (.Name x p) [a,b,c] [] pos)):=do
 let hx ← isP "zip" x
 let g ← gv T nm "zip"
 let ha ← yes (aI a)
 let hb ← yes (aI b)
 let hc ← yes (aI c)
 let u ← f a
 let v ← f b
 let w ← f c
 some ⟨.it .zip3 (.cons u.1 (.cons v.1 (.cons w.1 .nil))),fun X k=>by
  obtain rfl:=hx.down
  exact sJ k.calm (bA k g.down boot_zip) (u.2 X k).1 (v.2 X k).1 (w.2 X k).1 (ah ha.down) (ah hb.down) (ah hc.down)⟩
def ub (f:∀ e,Option (GE T nm N e)):(tg e:Ν)→Option (GI T nm N tg e)
 | .Tuple ts n tp,.Call (.Name x p) [a] [] pos=>(cE1 f ts n tp x p a pos).orElse fun _=>gR f _ _
 | .Tuple ts n tp,.Call (.Name x p) [a] [⟨some y,b,kp⟩] pos=>cE2 f ts n tp x y p a b kp pos
 | .Tuple ts n tp,.Call (.Name x p) [a,b] [] pos=>(cZ2 f ts n tp x p a b pos).orElse fun _=>gR f _ _
 | .Tuple ts n tp,.Call (.Name x p) [a,b,c] [] pos=>(cZ3 f ts n tp x p a b c pos).orElse fun _=>gR f _ _
 | tg,.Call (.Name x p) [a] [] pos=>(cR1 f tg x p a pos).orElse fun _=>gR f _ _
 | tg,.Call (.Name x p) [a,b] [] pos=>(cR2 f tg x p a b pos).orElse fun _=>gR f _ _
 | tg,e=>gR f tg e
theorem bT (h:bI e=true):ĉ e x env m=m:=by
 unfold ĉ
 split
 ·have h':(_ != ("super":ι))=true:=h
  rw [ZZ (by rw [h'];rfl)]
 ·rfl
theorem qR (h:∀ e∈es,aI e=true):((ϲ pos (Α es env)).all fun x=>!x.1)=true:=by
 have:=bb (env:=env) (pos:=pos) h
 rw [List.all_eq_not_any_not]
 simpa using this
theorem qu (h1:bI o=true) (h2:∀ x∈es,aI x=true) (h3:es.length<30) (h4:(apos.endLine == pos.line)=true):eval (.Call (.Attribute o m apos) es [] pos) env=(do
 let ov ← eval o env
 ņ apos.atName
 let (f,first) ← holding [ov] (Bz ov m (do return (← importBound o env).getD true))
 Ś pos f first (ϲ pos (Α es env)) (È pos (Ϩ [] env))):=by
 have e0:eval (.Call (.Attribute o m apos) es [] pos) env=(do
  let ov ← ĉ o m env (eval o env)
  ņ apos.atName
  methodCall o m apos pos env ov (es.length+([]:List ţ).length) (ϲ pos (Α es env)) (È pos (Ϩ [] env))):=rfl
 rw [e0,bT h1]
 have few:methodCallForm (es.length+([]:List ţ).length) (ϲ pos (Α es env)) (È pos (Ϩ [] env))=true:=by
  unfold methodCallForm
  rw [qR h2]
  simp only [BH]
  show (true && decide (_<30))=true
  simp only [BH]
  apply ZW
  exact h3
 congr 1
 funext ov
 congr 1
 funext _
 unfold methodCall
 simp only [few]
 have e1:ō true o env apos pos=pure pos:=by unfold ō;rw [h4];rfl
 simp only [e1]
 rfl
def wH (m:ι):(l:List (ι×Nat×Nat))→Option {q:Nat×Nat // (m,q.1,q.2)∈l}
 | []=>none
 | (y,c,j) :: r=>match isP y m with
   | some h=>some ⟨(c,j),by obtain rfl:=h.down;exact μ⟩
   | none=>(wH m r).map fun i=>⟨i.1,ν _ i.2⟩
def zB (f:∀ e,Option (GE T nm N e)) (o:Ν) (m:ι) (ap:Ϭ):(args:List Ν)→(pos:Ϭ)→Option (GE T nm N (.Call (.Attribute o m ap) args [] pos))
 | [],pos=>do
   let q ← wH m T.me
   let hs ← yes (bI o)
   let hp ← yes (ap.endLine == pos.line)
   let a ← f o
   some ⟨.mth q.1.1 q.1.2 a.1 .nil,fun X k=>by
    obtain ⟨n,fa,h1,h2,h3⟩:=k.mts _ q.2
    exact mk (sC h1 h2 h3 (a.2 X k).1 (qu hs.down (fun x hx=>nomatch hx) (by decide) hp.down))⟩
 | e :: er,pos=>do
   let q ← wH m T.me
   let hs ← yes (bI o)
   let hp ← yes (ap.endLine == pos.line)
   let hn ← yes ((e :: er).all aI)
   let hl ← yes (decide ((e :: er).length<30))
   let a ← f o
   let b ← eH f (e :: er)
   some ⟨.mth q.1.1 q.1.2 a.1 b.1,fun X k=>by
    obtain ⟨n,fa,h1,h2,h3⟩:=k.mts _ q.2
    have hn':=ϝ.mp hn.down
    exact mk (v7 h1 h2 h3 (a.2 X k).1 (b.2 X k) (ah (hn' e μ)) (bb fun x hx=>hn' x (ν _ hx)) (qu hs.down hn' (by simpa using hl.down) hp.down))⟩
def zu (f:∀ e,Option (GE T nm N e)) (o:Ν) (m:ι) (ap:Ϭ):(args:List Ν)→(pos:Ϭ)→Option (GE T nm N (.Call (.Attribute o m ap) args [] pos)):=fun _ _=>none
def xP (f:∀ e,Option (GE T nm N e)) (m:ι) (ap:Ϭ):(o:Ν)→(args:List Ν)→(pos:Ϭ)→Option (GE T nm N (.Call (.Attribute o m ap) args [] pos)):=fun _ _ _=>none
def vg (f:∀ e,Option (GE T nm N e)) (x:ι) (j:Nat) (p:Ϭ) (m:ι) (ap:Ϭ):(args:List Ν)→(pos:Ϭ)→Option (GE T nm N (.Call (.Attribute (.Constant (.str x) j p) m ap) args [] pos)):=fun _ _=>none
def zt (f:∀ e,Option (GE T nm N e)) (x:ι) (j1:Nat) (p1:Ϭ) (e:Ν) (p2:Ϭ) (y:ι) (j2:Nat) (p3 pos:Ϭ):Option (GE T nm N (.JoinedStr [.Constant (.str x) j1 p1,.FormattedValue e (-1) none p2,.Constant (.str y) j2 p3] pos)):=none
def zI (f:∀ e,Option (GE T nm N e)) (a:Ν) (lo:Option Ν) (st:Ν) (p2 pos:Ϭ):Option (GE T nm N (.Subscript a (.Slice lo none (some st) p2) pos)):=none
def xF (f:∀ e,Option (GE T nm N e)) (x:ι) (p:Ϭ):(args:List Ν)→(pos:Ϭ)→Option (GE T nm N (.Call (.Name x p) args [] pos))
 | [],pos=>do
   let j ← bC x T.nw
   let hz ← no (x == ("":ι))
   let hd ← no (x == ("__debug__":ι))
   let hg ← yes (bX nm x)
   some ⟨.new j.1 .nil,fun X k=>by
    obtain ⟨n,fa,i,cl,h1,h4,h5,h6,h7,h8,h9,h10⟩:=k.nws j.1 x j.2 (by simpa using hz.down)
    exact mk (sD h1 h4 h5 h6 h7 h8 h9 (bg k.sc hg.down) h10 hd.down)⟩
 | _ :: _,_=>none
def xG (f:∀ e,Option (GE T nm N e)) (x:ι) (p:Ϭ):(args:List Ν)→(pos:Ϭ)→Option (GE T nm N (.Call (.Name x p) args [] pos)):=fun _ _=>none
def xA (f:∀ e,Option (GE T nm N e)):(e:Ν)→Option (GE T nm N e)
 | .List er pos=>(eH f er).map fun a=>⟨.newl a.1,fun X k=>mk (lQ (a.2 X k))⟩
 | e=>f e
def u9 (f:∀ e,Option (GE T nm N e)) (x:ι) (p:Ϭ) (e:Ν) (er:List Ν) (pos:Ϭ):Option (GE T nm N (.Call (.Name x p) (e :: er) [] pos)):=
 match qt x T.mu with
 | some _=>tZ (xA f) x p e er pos
 | none=>tZ f x p e er pos
end
section
variable {T:Ns} {nm:List (ι×Β)} {N:List ι}
def xB (f:∀ e,Option (GE T nm N e)) (keys:List (Option Ν)) (vals:List Ν) (pos:Ϭ):Option (GE T nm N (.Dict keys vals pos)):=none
end
def fQ (fn:Bool) (nm:List (ι×Β)) (x:ι):Bool:=nm.lookup x == some .local || (fn && nm.lookup x == some .cell)
structure TgH (nm:List (ι×Β)) (N:List ι) (X:Cx):Prop where
 calm:X.calm=true
 hN:X.N=N
 nd:N.Nodup
 sc:X.env.scope.names=nm
theorem gb {fn:Bool} (h:TgH nm N X) (hl:fQ fn nm x=true):Loc X.env.scope x:=by
 have l1:nm.lookup x=some .local∨(fn=true∧nm.lookup x=some .cell):=by
  unfold fQ at hl
  simpa using hl
 show X.env.scope.names.lookup x=_∨X.env.scope.names.lookup x=_
 rw [h.sc]
 exact l1.imp id B4
def Pl (nm:List (ι×Β)) (N:List ι) (t:List Nat):Prop:=∀ i∈t,∀ x,N[i]? = some x→nm.lookup x=some .local
theorem qF {nm:List (ι×Β)} {N:List ι} {i:Nat} {x:ι} (hi:N[i]? = some x) (hl:fQ false nm x=true):∀ y,N[i]? = some y→nm.lookup y=some .local:=fun y e=>by
 rw [hi] at e;cases e
 unfold fQ at hl
 simpa using hl
structure xw (fn:Bool) (nm:List (ι×Β)) (N:List ι) (es:List Ν) (t:List Nat):Prop where
 len:∀ env,(Ķ es env).length=t.length
 fst:∀ env,(Ķ es env).findIdx? (·.1)=none
 as_:∀ X,TgH nm N X→As X ((Ķ es X.env).map (·.2)) t
 pl:fn=false→Pl nm N t
def yU (fn:Bool) (nm:List (ι×Β)) (N:List ι):(es:List Ν)→Option {t:List Nat // xw fn nm N es t}
 | []=>some ⟨[],fun _=>rfl,fun _=>rfl,fun X h=>trivial,fun _ i m=>nomatch m⟩
 | .Name x p :: r=>do
   let i ← bC x N
   let hl ← yes (fQ fn nm x)
   let t ← yU fn nm N r
   some ⟨i.1 :: t.1,fun env=>ZS (· + 1) (t.2.len env),fun env=>by
    show List.findIdx? _ ((false,assign (.Name x p) env) :: Ķ r env)=none
    rw [List.findIdx?_cons,t.2.fst env];rfl,fun X h=>⟨⟨x,by rw [h.hN];exact i.2,gb h hl.down,fun q=>B9 q⟩,t.2.as_ X h⟩,fun hf j m y e=>by
    rcases ς.mp m with w | w
    ·rw [w] at e;exact qF i.2 (hf ▸ hl.down) y e
    ·exact t.2.pl hf j w y e⟩
 | _=>none
def tgP (fn:Bool) (nm:List (ι×Β)) (N:List ι):(tg:Ν)→Option {q:List Nat×Bool // (∀ X,TgH nm N X→LG X tg q.1 q.2)∧(fn=false→Pl nm N q.1)}
 | .Name x p=>do
   let i ← bC x N
   let hl ← yes (fQ fn nm x)
   some ⟨([i.1],true),fun X h=>sG (by rw [h.hN];exact h.nd) (by rw [h.hN];exact i.2) (gb h hl.down),fun hf j m y e=>by rw [η.mp m] at e;exact qF i.2 (hf ▸ hl.down) y e⟩
 | .Tuple es k p=>do
   let t ← yU fn nm N es
   some ⟨(t.1,false),fun X h=>wg h.calm (by rw [h.hN];exact h.nd) (t.2.as_ X h) (t.2.len _) (t.2.fst _),t.2.pl⟩
 | _=>none
def d8:Ν→List ι
 | .Name x _=>[x]
 | .Tuple es _ _=>es.filterMap fun e=>match e with | .Name x _=>some x | _=>none
 | _=>[]
def eN (nm:List (ι×Β)) (sc:Ė):List (ι×Β):=sc.names.map fun y=>if (y.2 == .free && nm.lookup y.1 == some .cell)=true then (y.1,.cell) else (y.1,y.2)
def wL (nm:List (ι×Β)) (p:ι×ι):Bool:=match nm.lookup p.1 with
 | some .local=>false
 | some .cell=>p.1 == p.2
 | some .free=>p.1 == p.2
 | _=>true
def ndB:List ι→Bool
 | []=>true
 | x :: r=>!r.contains x && ndB r
theorem uH:∀ {l},ndB l=true→l.Nodup
 | [],_=>Di
 | x :: r,h=>by
   have h':r.contains x=false∧ndB r=true:=by simpa [ndB] using h
   refine ϟ.mpr ⟨fun m=>?_,uH h'.2⟩
   have:r.contains x=true:=by simpa using m
   rw [h'.1] at this
   cases this
def jx (own:List ι) (N:List ι):List ι:=own ++ N.map fun y=>if own.contains y then ⟨y.cps.push (1200000+N.length)⟩ else y
def lcB (nm:List (ι×Β)) (N N':List ι) (sc:Ė) (k:Nat):Bool:=
 (sc.names.all fun y=>y.2 != .cell) && sc.kind == .function && (sc.names.all fun y=>y.2 != .local || sc.names.lookup y.1 == some .local) &&
 (sc.names.all fun y=>y.2 != .free || (nm.lookup y.1 == some .cell || nm.lookup y.1 == some .free)) && N'.length == k+N.length && ((N'.drop k).zip N).all (wL (eN nm sc)) && ndB N'
section
variable {T:Ns} {nm:List (ι×Β)} {N N':List ι} {X:Cx} {sc:Ė}
theorem dZ (k:CxOk T X nm N):(relabel sc X.env).names=eN nm sc:=by
 unfold relabel eN
 dsimp only
 congr 1
 funext y
 rw [k.kd,show X.env.kindOf y.1=nm.lookup y.1 by rw [← k.sc];rfl]
 simp
theorem yq (k:CxOk T X nm N) (h:lcB nm N N' sc n=true):Lcn X sc n N'∧N'.Nodup:=by
 unfold lcB at h
 simp only [Τ] at h
 obtain ⟨⟨⟨⟨⟨⟨h1,h2⟩,h3⟩,h4⟩,h5⟩,h6⟩,h7⟩:=h
 have kk:∀ x,X.env.kindOf x=nm.lookup x:=fun x=>by rw [← k.sc];rfl
 refine ⟨yp h1 (by simpa using h2) h3 (by simp only [kk];exact h4) (by rw [k.hN];simpa using h5) ?_,uH h7⟩
 rw [k.hN]
 have e:hZ sc X.env=wL (eN nm sc):=by
  funext p
  unfold hZ wL
  rw [dZ k]
  all_goals rfl
 rw [e]
 exact h6
theorem dh.cx (h:dh X an c k i):dh (cxC X N' sc C) an c k i:=⟨h.ci,h.cls,h.na,h.wh,h.nm,h.nd,h.xc⟩
theorem CxOk.inner (k:CxOk T X nm N) (L:Lcn X sc n N') (nd:N'.Nodup) :CxOk T (cxC X N' sc C) (eN nm sc) N' where
 hN:=rfl
 nd:=nd
 sc:=dZ k
 kd:=L.kind
 calm:=k.calm
 fns:=fun j x h=>let ⟨n,f,h1,h2,h3⟩:=k.fns j x h;⟨n,f,bz.to (X:=X) h1,h2,h3⟩
 gls:=k.gls
 tbs:=k.tbs
 blt:=k.blt
 cls:=fun c cl h=>let ⟨i,h1⟩:=k.cls c cl h;⟨i,h1.cx⟩
 mts:=fun q h=>let ⟨n,f,h1,h2,⟨i,cl,a,b,c⟩⟩:=k.mts q h;⟨n,f,bz.to (X:=X) h1,h2,⟨i,cl,a,b.cx,c⟩⟩
 nws:=fun j x h hz=>let ⟨n,f,i,cl,h1,h2⟩:=k.nws j x h hz;⟨n,f,i,cl,bz.to (X:=X) h1,h2⟩
 nds:=fun j x h hz=>let ⟨n,f,fd,ps,i,cl,h1,h2⟩:=k.nds j x h hz;⟨n,f,fd,ps,i,cl,FnI.to (X:=X) h1,h2⟩
 hxs:=k.hxs
def zw (g:∀ e,Option (GT T nm N e)):(ifs:List Ν)→Option {c:E // ∀ X,CxOk T X nm N→LTs X ifs c}
 | []=>some ⟨.c (.bl true),fun X k=>sX⟩
 | [c]=>(g c).map fun x=>⟨x.1,fun X k=>sY (x.2 X k)⟩
 | _=>none
def xD (f:aG T) (g:gu T) (nm:List (ι×Β)) (N:List ι) (ee tg iter:Ν) (ifs:List Ν) (sc:Ė):Option {q:(List Nat×Bool)×E×E×E // ∀ X,CxOk T X nm N→LcP X (jx (d8 tg) N) ee tg iter ifs sc q.1.1 q.1.2 q.2.1 q.2.2.1 q.2.2.2}:=do
 let it ← ub (f nm N) tg iter
 let q ← tgP false (eN nm sc) (jx (d8 tg) N) tg
 let h0 ← yes (q.1.1.all fun i=>decide (i<q.1.1.length))
 let hl ← yes (lcB nm N (jx (d8 tg) N) sc q.1.1.length)
 let c ← zw (g (eN nm sc) (jx (d8 tg) N)) ifs
 let e ← f (eN nm sc) (jx (d8 tg) N) ee
 let hn ← yes (aI iter)
 some ⟨(q.1,it.1,e.1,c.1),fun X k=>by
  obtain ⟨L,nd⟩:=yq k hl.down
  exact ⟨k.calm,L,it.2 X k,fun C=>q.2.1 (cxC X _ sc C) ⟨k.calm,rfl,nd,dZ k⟩,fun i m x e=>by rw [dZ k];exact q.2.2 rfl i m x e,fun C=>c.2 _ (k.inner L nd),fun C=>(e.2 _ (k.inner L nd)).1,gX hn.down⟩⟩
def cLC (f:aG T) (g:gu T) (nm:List (ι×Β)) (N:List ι) (ee tg iter:Ν) (ifs:List Ν) (sc:Ė) (pos:Ϭ):Option (GE T nm N (.ListComp ee [⟨tg,iter,ifs,0⟩] sc pos)):=
 (xD f g nm N ee tg iter ifs sc).map fun q=>⟨.lc q.1.1.1 q.1.1.2 q.1.2.1 q.1.2.2.1 q.1.2.2.2,fun X k=>mkf (pY (q.2 X k))⟩
end
theorem kZ (h:(match e with | .Compare ..=>false | .BoolOp ..=>false | .UnaryOp ..=>false | .IfExp ..=>false | .NamedExpr ..=>false | _=>true)=true):Du e env whole=(do let v ← whole;ņ e.pos;holding [v] (truthy v)):=by
 cases e <;> first | rfl | cases h
section
variable {T:Ns}
abbrev GC (T:Ns) (nm:List (ι×Β)) (N:List ι) (e:Ν):={c:E // ∀ X,CxOk T X nm N→(LE X e c∧aS c=false)∧LT X e c}
def vd (f:aG T) (nm:List (ι×Β)) (N:List ι) (a:Ν) (op:CmpOp) (b:Ν) (pos:Ϭ):Option (GC T nm N (.Compare a [op] [b] pos)):=do
 let o ← zO op
 let hb ← yes (aI b)
 let x ← f nm N a
 let y ← f nm N b
 some ⟨.op o.1 x.1 y.1,fun X k=>⟨⟨vX (o.2 X) (x.2 X k).1 (y.2 X k).1 (fR hb.down),rfl⟩,wx (o.2 X) (x.2 X k).1 (y.2 X k).1 (fR hb.down)⟩⟩
def vj (f:aG T) (nm:List (ι×Β)) (N:List ι) (a:Ν) (x:ι) (p pos:Ϭ):Option (GC T nm N (.Compare a [.In] [.Name x p] pos)):=do
 let hd ← no (x == ("__debug__":ι))
 let hg ← yes (bX nm x)
 let j ← bC x T.tb
 let y ← f nm N a
 some ⟨.tabin j.1 y.1,fun X k=>by
  obtain ⟨t,ad,h1,h2,h3⟩:=k.tbs j.1 x j.2
  exact ⟨⟨pV (bg k.sc hg.down) h2 h1 h3 (y.2 X k).1 hd.down rfl,rfl⟩,qo (bg k.sc hg.down) h2 h1 h3 (y.2 X k).1 hd.down rfl⟩⟩
def zo (f:aG T) (nm:List (ι×Β)) (N:List ι) (a:Ν) (b:Ν) (pos:Ϭ):Option (GC T nm N (.Compare a [.Eq] [b] pos)):=none
def t8 (f:aG T) (nm:List (ι×Β)) (N:List ι):(a:Ν)→(ops:List CmpOp)→(bs:List Ν)→(pos:Ϭ)→Option (GC T nm N (.Compare a ops bs pos))
 | a,[.Is],[.Constant .none j p],pos=>(f nm N a).map fun x=>⟨.isN x.1,fun X k=>⟨⟨vZ (x.2 X k).1 rfl,rfl⟩,wy (x.2 X k).1 rfl⟩⟩
 | a,[.IsNot],[.Constant .none j p],pos=>(f nm N a).map fun x=>⟨.isNN x.1,fun X k=>⟨⟨sA (x.2 X k).1 rfl,rfl⟩,sW (x.2 X k).1 rfl⟩⟩
 | a,[.In],[.Name x p],pos=>(vj f nm N a x p pos).orElse fun _=>vd f nm N a .In (.Name x p) pos
 | a,[.Eq],[.Tuple es k p],pos=>(zo f nm N a (.Tuple es k p) pos).orElse fun _=>vd f nm N a .Eq (.Tuple es k p) pos
 | a,[op],[b],pos=>vd f nm N a op b pos
 | _,_,_,_=>none
def zM (f:aG T) (nm:List (ι×Β)) (N:List ι) (x:ι) (p:Ϭ) (b:Ν) (pos:Ϭ):Option (GE T nm N (.Subscript (.Name x p) b pos)):=do
 let hd ← no (x == ("__debug__":ι))
 let hg ← yes (bX nm x)
 let j ← bC x T.tb
 let hb ← yes (aI b)
 let y ← f nm N b
 some ⟨.tab j.1 y.1,fun X k=>by
  obtain ⟨t,ad,h1,h2,h3⟩:=k.tbs j.1 x j.2
  exact mk (wa (bg k.sc hg.down) h2 h1 h3 (y.2 X k).1 (fX hb.down) hd.down fun _=>rfl)⟩
def cIx (f:aG T) (nm:List (ι×Β)) (N:List ι) (a b:Ν) (pos:Ϭ):Option (GE T nm N (.Subscript a b pos)):=do
 let hb ← yes (aI b)
 let x ← f nm N a
 let y ← f nm N b
 some ⟨.ix x.1 y.1,fun X k=>mk (yt (x.2 X k).1 (y.2 X k).1 (fX hb.down))⟩
theorem oY (e:T.an i=x) (T':cj X T.an) (hy:LE X a y) (hs:bI a=true):LE X (.Attribute a x pos) (.fld y i):=by
 subst e
 exact vY T' xj hy (bT hs)
theorem jl (h:T.at_[i]? = some x):T.an i=x:=by unfold Ns.an;rw [Ϯ,h];rfl
def ki {nm:List (ι×Β)} {N:List ι} (f:∀ e,Option (GE T nm N e)) (x:ι) (p:Ϭ) (e:Ν) (er:List Ν) (pos:Ϭ):Option (GE T nm N (.Call (.Name x p) (e :: er) [] pos)):=((u9 f x p e er pos).orElse fun _=>xF f x p (e :: er) pos).orElse fun _=>xG f x p (e :: er) pos
def cUn (f:aG T) (nm:List (ι×Β)) (N:List ι) (a:Ν) (pos:Ϭ):(op:UnaryOp)→Option (GE T nm N (.UnaryOp op a pos))
 | .USub=>(f nm N a).map fun x=>⟨.neg x.1,fun X k=>mk (v8 (x.2 X k).1)⟩
 | .Not=>(f nm N a).map fun x=>⟨.not x.1,fun X k=>mk (v9 (x.2 X k).1)⟩
 | _=>none
def zJ (f:aG T) (nm:List (ι×Β)) (N:List ι) (a:Ν) (lo:Option Ν) (p2 pos:Ϭ):(hi st:Option Ν)→Option (GE T nm N (.Subscript a (.Slice lo hi st p2) pos))
 | hi,none=>do
   let x ← f nm N a
   let l ← xH (f nm N) lo
   let h ← xH (f nm N) hi
   some ⟨.sl x.1 l.1 h.1,fun X k=>mk (yw (x.2 X k).1 (l.2 X k) (h.2 X k))⟩
 | none,some st=>zI (f nm N) a lo st p2 pos
 | _,_=>none
def cTa (f:aG T) (nm:List (ι×Β)) (N:List ι) (b:Ν) (pos:Ϭ):(a:Ν)→Option (GE T nm N (.Subscript a b pos))
 | .Name x p=>zM f nm N x p b pos
 | _=>none
def zL (f:aG T) (nm:List (ι×Β)) (N:List ι) (a:Ν) (pos:Ϭ):(b:Ν)→Option (GE T nm N (.Subscript a b pos))
 | .Slice lo hi st p2=>zJ f nm N a lo p2 pos hi st
 | b=>(cTa f nm N b pos a).orElse fun _=>cIx f nm N a b pos
def xL (f:aG T) (nm:List (ι×Β)) (N:List ι) (x y:ι) (p p2:Ϭ) (a:Ν) (pos2 pos:Ϭ):Option (GE T nm N (.Call (.Name x p) [.Call (.Name y p2) [a] [] pos2] [] pos)):=do
 let hx ← isP "len" x
 let hy ← isP "set" y
 let g ← gv T nm "len"
 let g2 ← gv T nm "set"
 let he ← yes (aI a)
 let he2 ← yes (aI (.Call (.Name y p2) [a] [] pos2))
 let u ← f nm N a
 some ⟨.bi .setl (.cons u.1 .nil),fun X k=>by
  obtain rfl:=hx.down
  obtain rfl:=hy.down
  exact mk (sE k.calm (bA k g.down boot_len) (bA k g2.down Ec) (u.2 X k).1 (ah he.down) (ah he2.down))⟩
def cRv (f:aG T) (nm:List (ι×Β)) (N:List ι) (x:ι) (p:Ϭ) (pos:Ϭ):(a:Ν)→Option (GE T nm N (.Call (.Name x p) [a] [] pos))
 | .Call (.Name y p2) [a] [] pos2=>(zG (f nm N) x y p p2 a pos2 pos).orElse fun _=>xL f nm N x y p p2 a pos2 pos
 | _=>none
def cIz (f:aG T) (nm:List (ι×Β)) (N:List ι) (x:ι) (p:Ϭ) (a:Ν) (pos:Ϭ):(b:Ν)→Option (GE T nm N (.Call (.Name x p) [a,b] [] pos))
 | .Name y q=>(cIs (f nm N) x p a y q pos).orElse fun _=>zy (f nm N) x p a y q pos
 | .Tuple [.Name x1 q1,.Name x2 q2,.Name x3 q3] k q=>zx (f nm N) x p a x1 x2 x3 q1 q2 q3 k q pos
 | _=>none
def zn (f:aG T) (nm:List (ι×Β)) (N:List ι) (x:ι) (p:Ϭ) (pos:Ϭ):(args:List Ν)→Option (GE T nm N (.Call (.Name x p) args [] pos))
 | []=>xF (f nm N) x p [] pos
 | [a]=>(cRv f nm N x p pos a).orElse fun _=>ki (f nm N) x p a [] pos
 | [a,b]=>(cIz f nm N x p a pos b).orElse fun _=>ki (f nm N) x p a [b] pos
 | e :: er=>ki (f nm N) x p e er pos
def cSJ (f:aG T) (nm:List (ι×Β)) (N:List ι) (m:ι) (ap:Ϭ) (args:List Ν) (pos:Ϭ):(o:Ν)→Option (GE T nm N (.Call (.Attribute o m ap) args [] pos))
 | .Constant (.str x) j p=>vg (f nm N) x j p m ap args pos
 | _=>none
def zm (f:aG T) (nm:List (ι×Β)) (N:List ι) (o:Ν) (m:ι) (ap:Ϭ) (args:List Ν) (pos:Ϭ):Option (GE T nm N (.Call (.Attribute o m ap) args [] pos)):=
 (((cSJ f nm N m ap args pos o).orElse fun _=>xP (f nm N) m ap o args pos).orElse fun _=>zu (f nm N) o m ap args pos).orElse fun _=>zB (f nm N) o m ap args pos
def cMx (f:aG T) (nm:List (ι×Β)) (N:List ι) (x y:ι) (p:Ϭ) (a b:Ν) (kp pos:Ϭ):Option (GE T nm N (.Call (.Name x p) [a] [⟨some y,b,kp⟩] pos)):=do
 let hx ← isP "max" x
 let hy ← isP "default" y
 let g ← gv T nm "max"
 let he ← yes (aI a)
 let u ← f nm N a
 let w ← f nm N b
 some ⟨.bi .max0 (.cons u.1 (.cons w.1 .nil)),fun X k=>by
  obtain rfl:=hx.down
  obtain rfl:=hy.down
  exact mk (sB k.calm (bA k g.down boot_max) (u.2 X k).1 (w.2 X k).1 (ah he.down))⟩
def zv (f:aG T) (nm:List (ι×Β)) (N:List ι) (o:Ν) (m:ι) (ap:Ϭ):(args:List Ν)→(pos:Ϭ)→Option (GE T nm N (.Call (.Attribute o m ap) args [] pos))
 | [e],pos=>do
   let hm ← isP "index" m
   let hp ← yes (ap.endLine == pos.line)
   let hn ← yes (aI e)
   let hs ← yes (bI o)
   let a ← f nm N o
   let b ← f nm N e
   some ⟨.index a.1 b.1,fun X k=>by
    obtain rfl:=hm.down
    exact mk (pU (a.2 X k).1 (b.2 X k).1 ⟨bT hs.down,by rw [ah hn.down];rfl,hp.down,by rw [ah hn.down];rfl⟩)⟩
 | _,_=>none
def cCl (f:aG T) (nm:List (ι×Β)) (N:List ι) (pos:Ϭ) (args:List Ν):(fn:Ν)→(kw:List ţ)→Option (GE T nm N (.Call fn args kw pos))
 | .Name x p,[]=>zn f nm N x p pos args
 | .Attribute o m ap,[]=>(zv f nm N o m ap args pos).orElse fun _=>zm f nm N o m ap args pos
 | .Name x p,[⟨some y,b,kp⟩]=>(match args with | [a]=>cMx f nm N x y p a b kp pos | _=>none)
 | _,_=>none
def cF2 (f:aG T) (nm:List (ι×Β)) (N:List ι) (x:ι) (j1:Nat) (p1 pos:Ϭ):(b c:Ν)→Option (GE T nm N (.JoinedStr [.Constant (.str x) j1 p1,b,c] pos))
 | .FormattedValue e (.negSucc 0) none p2,.Constant (.str y) j2 p3=>zt (f nm N) x j1 p1 e p2 y j2 p3 pos
 | _,_=>none
def cJs (f:aG T) (nm:List (ι×Β)) (N:List ι) (pos:Ϭ):(es:List Ν)→Option (GE T nm N (.JoinedStr es pos))
 | [.Constant (.str x) j1 p1,b,c]=>cF2 f nm N x j1 p1 pos b c
 | _=>none
def cDi (f:aG T) (nm:List (ι×Β)) (N:List ι) (pos:Ϭ):(ks:List (Option Ν))→(vs:List Ν)→Option (GE T nm N (.Dict ks vs pos))
 | [],[]=>some ⟨.dic .nil,fun X k=>mkf sF⟩
 | ks,vs=>xB (f nm N) ks vs pos
def zA (f:aG T) (g:gu T) (nm:List (ι×Β)) (N:List ι) (ee:Ν) (sc:Ė) (pos:Ϭ):(gs:List Comprehension)→Option (GE T nm N (.ListComp ee gs sc pos))
 | [⟨tg,iter,ifs,0⟩]=>cLC f g nm N ee tg iter ifs sc pos
 | _=>none
def yR (f:aG T) (g:gu T) (nm:List (ι×Β)) (N:List ι):(e:Ν)→Option (GE T nm N e)
 | .Name x pos=>xE T nm N x pos
 | .Constant c j pos=>ve T nm N c j pos
 | .BinOp a op b pos=>do
   let o ← opP op
   let x ← f nm N a
   let y ← f nm N b
   some ⟨.op o.1 x.1 y.1,fun X k=>mk (yv (o.2 X) (x.2 X k).1 (y.2 X k).1)⟩
 | .UnaryOp op a pos=>cUn f nm N a pos op
 | .BoolOp .And es pos=>do
   let x ← tY (f nm N) pos es
   let h ← no (aS x.1)
   some ⟨x.1,fun X k=>mk (x.2 X k) h.down⟩
 | .BoolOp .Or es pos=>do
   let x ← zE (f nm N) pos es
   let h ← no (aS x.1)
   some ⟨x.1,fun X k=>mk (x.2 X k) h.down⟩
 | .IfExp c a b pos=>do
   let t ← g nm N c
   let x ← f nm N a
   let y ← f nm N b
   some ⟨.ite t.1 x.1 y.1,fun X k=>mk (v6 (t.2 X k) (x.2 X k).1 (y.2 X k).1)⟩
 | .Compare a ops bs pos=>(t8 f nm N a ops bs pos).map fun x=>⟨x.1,fun X k=>mk (x.2 X k).1.1 (x.2 X k).1.2⟩
 | .Tuple es n pos=>(eH (f nm N) es).map fun x=>⟨.tup x.1,fun X k=>mk (pW (x.2 X k))⟩
 | .List es pos=>(eH (f nm N) es).map fun x=>⟨.lst x.1,fun X k=>mkf (wf (x.2 X k))⟩
 | .Subscript a b pos=>zL f nm N a pos b
 | .Attribute a x pos=>do
   let i ← bC x T.at_
   let hs ← yes (bI a)
   let y ← f nm N a
   some ⟨.fld y.1 i.1,fun X k=>mk (oY (jl i.2) k.cls (y.2 X k).1 hs.down)⟩
 | .Call fn args kw pos=>cCl f nm N pos args fn kw
 | .JoinedStr es pos=>cJs f nm N pos es
 | .Dict keys vals pos=>cDi f nm N pos keys vals
 | .ListComp ee gs sc pos=>zA f g nm N ee sc pos gs
 | _=>none
def yS (f:aG T) (g:gu T) (nm:List (ι×Β)) (N:List ι):(e:Ν)→Option (GT T nm N e)
 | .UnaryOp .Not a pos=>(g nm N a).map fun x=>⟨.tnot x.1,fun X k=>wA (x.2 X k)⟩
 | .BoolOp .And es pos=>(tX (g nm N) pos es).map fun x=>⟨x.1,fun X k=>uF (x.2 X k)⟩
 | .BoolOp .Or es pos=>(xI (g nm N) pos es).map fun x=>⟨x.1,fun X k=>uF (x.2 X k)⟩
 | .Compare a ops bs pos=>(t8 f nm N a ops bs pos).map fun x=>⟨x.1,fun X k=>(x.2 X k).2⟩
 | e=>do
   let h ← yes (match e with | .Compare ..=>false | .BoolOp ..=>false | .UnaryOp ..=>false | .IfExp ..=>false | .NamedExpr ..=>false | _=>true)
   let x ← f nm N e
   some ⟨.tv x.1,fun X k=>yz (x.2 X k).1 fun w=>kZ h.down⟩
theorem vU:LE X e .nil:=fun br z I nb=>ZX rfl nb
theorem wv:LT X e .nil:=fun z I nb=>ZX rfl nb
def mR (T:Ns):Nat→aG T×gu T
 | 0=>(fun _ _ _=>none,fun _ _ _=>none)
 | k+1=>(fun nm N e=>some ((yR (mR T k).1 (mR T k).2 nm N e).getD ⟨.nil,fun X _=>mk vU⟩),fun nm N e=>some ((yS (mR T k).1 (mR T k).2 nm N e).getD ⟨.nil,fun X _=>wv⟩))
end
def RaP (X:Cx) (j:Nat) (x:ι):Prop:=∃ (lv:Nat) (k:Cl) (i:CI) (fI:Ε) (fd:ù) (ps:List ι) (Bx nwI iniI:String) (bmB:List ζ),ė Bx nwI iniI bmB∧gq X.K i.ad fI bmB nwI∧FnJ X lv fI fd ps i.nm k i.ad∧bS X.K fd ps []∧aT (lv+1) X.A∧fi X.K i.ad∧(∀ f∈i.nm,Λ X.K (.ref i.ad) f=some none)∧X.Γ.cl[j]? = some k∧X.W.ci[j]? = some i∧X.W.what[j]? = some 2∧i.nm.length=k.at_.length∧Ϝ X.K i.ad (.type "BaseException")=some true∧ò X.K (.ref i.ad)=some (.type "type")∧Ϟ X.K (.ref i.ad)=true∧X.mg x=some (.ref i.ad)∧k.at_.isEmpty=false
def RtP (X:Cx) (j:Nat) (x:ι):Prop:=∃ (k:Cl) (i:CI) (Bx nwI iniI:String) (bmB:List ζ),ė Bx nwI iniI bmB∧xv X.K i.ad bmB nwI∧X.Γ.cl[j]? = some k∧k.at_.isEmpty=true∧X.W.ci[j]? = some i∧X.W.what[j]? = some 2∧X.mg x=some (.ref i.ad)
structure CxS (T:Ns) (X:Cx) (nm:List (ι×Β)) (N:List ι):Prop extends CxOk T X nm N where
 fr:kb X
 rs:∀ (j:Nat) (x:ι),T.ex[j]? = some x→x≠""→RaP X j x
 rt:∀ (j:Nat) (x:ι),T.xt[j]? = some x→x≠""→RtP X j x
abbrev GS (T:Ns) (nm:List (ι×Β)) (N:List ι) (st:Û):={c:S // ∀ X,CxS T X nm N→LS X st c}
abbrev GSs (T:Ns) (nm:List (ι×Β)) (N:List ι) (st:List Û):={c:S // ∀ X,CxS T X nm N→LSs X st c}
def iR:Ν→Bool
 | .ListComp ..=>false
 | .SetComp ..=>false
 | .DictComp ..=>false
 | _=>true
theorem eY (h:iR e=true):ſ e t l env=pure false:=by
 cases e <;> first | rfl | cases h
section
variable {T:Ns} {nm:List (ι×Β)} {N:List ι}
theorem CxOk.tg (k:CxOk T X nm N):TgH nm N X:=⟨k.calm,k.hN,k.nd,k.sc⟩
theorem CxOk.at {i:Nat} {x:ι} (k:CxOk T X nm N) (h:N[i]? = some x):X.N[i]? = some x:=by rw [k.hN];exact h
theorem CxOk.ndx (k:CxOk T X nm N):X.N.Nodup:=by rw [k.hN];exact k.nd
def uc (f:aG T) (nm:List (ι×Β)) (N:List ι) (x:ι) (p:Ϭ) (pos:Ϭ) (e:Ν):Option (GS T nm N (.Assign [.Name x p] e pos)):=do
 let i ← bC x N
 let hl ← yes (fQ true nm x)
 let hn ← yes (iR e)
 let a ← f nm N e
 some ⟨.set i.1 a.1,fun X k=>kI k.ndx (k.at i.2) (gb k.tg hl.down) (a.2 X k.toCxOk).1 (a.2 X k.toCxOk).2 (eY hn.down)⟩
def zH (f:aG T) (g:gu T) (nm:List (ι×Β)) (N:List ι) (x:ι) (p:Ϭ) (pos:Ϭ):(e:Ν)→Option (GS T nm N (.Assign [.Name x p] e pos))
 | .ListComp ee [⟨tg,iter,ifs,0⟩] sc pos2=>do
   let i ← bC x N
   let hl ← yes (fQ true nm x)
   let q ← xD f g nm N ee tg iter ifs sc
   some ⟨.set i.1 (.lc q.1.1.1 q.1.1.2 q.1.2.1 q.1.2.2.1 q.1.2.2.2),fun X k=>qk k.ndx (k.at i.2) (gb k.tg hl.down) (q.2 X k.toCxOk)⟩
 | .List es lp=>(match qt x T.rf with
   | some _=>do
     let i ← bC x N
     let hl ← yes (fQ true nm x)
     let a ← eH (f nm N) es
     some ⟨.setR i.1 a.1,fun X k=>sV k.ndx (k.at i.2) (gb k.tg hl.down) (a.2 X k.toCxOk) (eY rfl)⟩
   | none=>uc f nm N x p pos (.List es lp))
 | e=>uc f nm N x p pos e
def zj (f:aG T) (nm:List (ι×Β)) (N:List ι) (x:ι) (p:Ϭ) (m:ι) (ap:Ϭ) (e:Ν) (cp pos:Ϭ):Option (GS T nm N (.Expr (.Call (.Attribute (.Name x p) m ap) [e] [] cp) pos)):=do
 let hm ← isP "append" m
 let i ← bC x N
 let hl ← yes (cu nm x)
 let hd ← no (x == ("__debug__":ι))
 let hc ← no (x == ("__classdict__":ι))
 let he ← yes (aI e)
 let hp ← yes (ap.endLine == cp.line)
 let a ← f nm N e
 some ⟨.app i.1 a.1,fun X k=>by
  obtain rfl:=hm.down
  exact wj (k.at i.2) (ba k.sc hl.down) hd.down hc.down (a.2 X k.toCxOk).1 ⟨bT rfl,by rw [ah he.down];rfl,hp.down,by rw [ah he.down];rfl⟩⟩
def zp (f:aG T) (nm:List (ι×Β)) (N:List ι) (x:ι) (p:Ϭ) (m:ι) (ap:Ϭ) (e:Ν) (cp pos:Ϭ):Option (GS T nm N (.Expr (.Call (.Attribute (.Name x p) m ap) [e] [] cp) pos)):=do
 let hm ← isP "extend" m
 let i ← bC x N
 let hl ← yes (cu nm x)
 let hd ← no (x == ("__debug__":ι))
 let hc ← no (x == ("__classdict__":ι))
 let he ← yes (aI e)
 let hp ← yes (ap.endLine == cp.line)
 let a ← f nm N e
 some ⟨.ext i.1 a.1,fun X k=>by
  obtain rfl:=hm.down
  exact wm (k.at i.2) (ba k.sc hl.down) hd.down hc.down (a.2 X k.toCxOk).1 ⟨bT rfl,by rw [ah he.down];rfl,hp.down,by rw [ah he.down];rfl⟩⟩
def t9 (f:aG T) (nm:List (ι×Β)) (N:List ι) (e:Ν) (pos:Ϭ):Option (GS T nm N (.Expr e pos)):=do
 let hn ← yes (iR e)
 let a ← f nm N e
 some ⟨.drop a.1,fun X k=>sO (a.2 X k.toCxOk).1 (eY hn.down)⟩
def xO (f:aG T) (nm:List (ι×Β)) (N:List ι) (j:Nat) (p:Ϭ) (k:Nat) (q pos:Ϭ):(ts vs:List Ν)→Option (GS T nm N (.Assign [.Tuple ts j p] (.Tuple vs k q) pos)):=fun _ _=>none
def zF (f:aG T) (nm:List (ι×Β)) (N:List ι) (x:ι) (p:Ϭ) (eb:Ν) (p2:Ϭ) (ee:Ν) (pos:Ϭ):Option (GS T nm N (.Assign [.Subscript (.Name x p) eb p2] ee pos)):=do
 let i ← bC x N
 let hl ← yes (cu nm x)
 let hd ← no (x == ("__debug__":ι))
 let hc ← no (x == ("__classdict__":ι))
 let hn ← yes (aI eb)
 let b ← f nm N eb
 let e ← f nm N ee
 some ⟨.put (.v i.1) b.1 e.1,fun X k=>sT (k.at i.2) (ba k.sc hl.down) hd.down hc.down hn.down (b.2 X k.toCxOk).1 (e.2 X k.toCxOk).1⟩
def xJ (f:aG T) (nm:List (ι×Β)) (N:List ι) (eo eb:Ν) (p2:Ϭ) (ee:Ν) (pos:Ϭ):Option (GS T nm N (.Assign [.Subscript eo eb p2] ee pos)):=do
 let hn ← yes (aI eb)
 let o ← f nm N eo
 let hv ← no (isV o.1)
 let b ← f nm N eb
 let e ← f nm N ee
 some ⟨.put o.1 b.1 e.1,fun X k=>sS hn.down hv.down (o.2 X k.toCxOk).1 (b.2 X k.toCxOk).1 (e.2 X k.toCxOk).1⟩
def vf (f:aG T) (nm:List (ι×Β)) (N:List ι) (x:ι) (np:Ϭ):(args:List Ν)→(cp pos:Ϭ)→Option (GS T nm N (.Raise (some (.Call (.Name x np) args [] cp)) none pos))
 | [],_,_=>none
 | e :: er,cp,pos=>do
   let j ← bC x T.ex
   let hz ← no (x == ("":ι))
   let hn ← yes ((e :: er).all aI)
   let hg ← yes (bX nm x)
   let hd ← no (x == ("__debug__":ι))
   let a ← eH (f nm N) (e :: er)
   some ⟨.rais j.1 a.1,fun X k=>by
    obtain ⟨lv,cl,i,fI,fd,ps,Bx,nwI,iniI,bmB,h1,h2,h3,h4,h5,h6,h7,h8,h9,h10,h11,h12,h13,h14,h15,h16⟩:=k.rs j.1 x j.2 (by simpa using hz.down)
    have hn':=ϝ.mp hn.down
    obtain ⟨ck,h3,hk⟩:=h3
    exact qh h1 h2 h3 hk h4 h5 h6 h7 h8 h9 h10 h11 h16 h12 h13 h14 k.calm (bg k.sc hg.down) h15 (a.2 X k.toCxOk) hd.down (ah (hn' e μ)) (bb fun y hy=>hn' y (ν _ hy))⟩
def rG (nm:List (ι×Β)) (N:List ι) (x:ι) (np:Ϭ):(args:List Ν)→(cp pos:Ϭ)→Option (GS T nm N (.Raise (some (.Call (.Name x np) args [] cp)) none pos)):=fun _ _ _=>none
def ua (nm:List (ι×Β)) (N:List ι) (y:ι) (p1:Ϭ) (x:ι) (p pos p2:Ϭ):Option (GS T nm N (.Assign [.Attribute (.Name y p1) x p] (.Dict [] [] p2) pos)×GS T nm N (.Assign [.Attribute (.Name y p1) x p] (.List [] p2) pos)):=do
 let j ← bC x T.at_
 let i ← bC y N
 let hl ← yes (cu nm y)
 let hd ← no (y == ("__debug__":ι))
 let hc ← no (y == ("__classdict__":ι))
 some (⟨.fld (.v i.1) j.1 (.dic .nil),fun X k=>by
  have h:=sP (X:=X) (p:=p) (pos:=pos) (p1:=p1) (p2:=p2) (f:=j.1) k.cls (k.at i.2) (ba k.sc hl.down) hd.down hc.down
  rw [jl j.2] at h
  exact h⟩,⟨.fld (.v i.1) j.1 (.lst .nil),fun X k=>by
  have h:=sQ (X:=X) (p:=p) (pos:=pos) (p1:=p1) (p2:=p2) (f:=j.1) k.cls (k.at i.2) (ba k.sc hl.down) hd.down hc.down
  rw [jl j.2] at h
  exact h⟩)
def zq (f:aG T) (nm:List (ι×Β)) (N:List ι) (eo:Ν) (x:ι) (p:Ϭ) (ee:Ν) (pos:Ϭ):Option (GS T nm N (.Assign [.Attribute eo x p] ee pos)):=do
 let j ← bC x T.at_
 let o ← f nm N eo
 let e ← f nm N ee
 let hp ← yes (kP e.1)
 some ⟨.fld o.1 j.1 e.1,fun X k=>by
  have h:=wn (X:=X) (p:=p) (pos:=pos) (f:=j.1) k.cls hp.down (o.2 X k.toCxOk).1 (e.2 X k.toCxOk).1
  rw [jl j.2] at h
  exact h⟩
def xC (f:aG T) (nm:List (ι×Β)) (N:List ι):(eo:Ν)→(x:ι)→(p:Ϭ)→(ee:Ν)→(pos:Ϭ)→Option (GS T nm N (.Assign [.Attribute eo x p] ee pos))
 | .Name y p1,x,p,.Dict [] [] p2,pos=>(ua nm N y p1 x p pos p2).map (·.1)
 | .Name y p1,x,p,.List [] p2,pos=>(ua nm N y p1 x p pos p2).map (·.2)
 | eo,x,p,ee,pos=>zq f nm N eo x p ee pos
def zk (nm:List (ι×Β)) (N:List ι) (op:Operator) (pos:Ϭ):(tg e:Ν)→Option (GS T nm N (.AugAssign tg op e pos)):=fun _ _=>none
structure mM (T:Ns) (X:Cx) (nm:List (ι×Β)) (N:List ι):Prop where
 hN:X.N=N
 nd:N.Nodup
 sc:X.env.scope.names=nm
 cls:cj X T.an
theorem CxOk.su (k:CxOk T X nm N) (e:ζ):mM T (aF X e) nm N:=⟨k.hN,k.nd,k.sc,fun c cl h=>let ⟨i,h⟩:=k.cls c cl h;⟨i,h.ci,h.cls,h.na,h.wh,h.nm,h.nd,h.xc⟩⟩
def ud (nm:List (ι×Β)) (N:List ι):(e:Ν)→Option {c:E // aS c=false∧∀ X,mM T X nm N→LE X e c}
 | .Name x pos=>do
   let hd ← no (x == ("__debug__":ι))
   let hc ← no (x == ("__classdict__":ι))
   let hl ← yes (cu nm x)
   let i ← bC x N
   some ⟨.v i.1,rfl,fun X k=>wc (by rw [k.hN];exact i.2) (ba k.sc hl.down) hd.down hc.down⟩
 | .Constant c j pos=>match c with
   | .none=>some ⟨.c .non,rfl,fun X k=>uf⟩
   | .bool b=>some ⟨.c (.bl b),rfl,fun X k=>xQ⟩
   | .int i=>some ⟨.c (.int i),rfl,fun X k=>ue⟩
   | .str x=>some ⟨.c (.str x),rfl,fun X k=>ug⟩
   | _=>none
 | .Attribute (.Name y p) x pos=>do
   let hd ← no (y == ("__debug__":ι))
   let hc ← no (y == ("__classdict__":ι))
   let hl ← yes (cu nm y)
   let i ← bC y N
   let j ← bC x T.at_
   let hs ← yes (bI (.Name y p))
   some ⟨.fld (.v i.1) j.1,rfl,fun X k=>oY (jl j.2) k.cls (wc (by rw [k.hN];exact i.2) (ba k.sc hl.down) hd.down hc.down) hs.down⟩
 | _=>none
def xM (nm:List (ι×Β)) (N:List ι):(es:List Ν)→Option {c:E // ∀ X,mM T X nm N→LA X es c}
 | []=>some ⟨.nil,fun X k=>pK⟩
 | e :: r=>do
   let h ← yes (aI e)
   let a ← ud (T:=T) nm N e
   let b ← xM nm N r
   some ⟨.cons a.1 b.1,fun X k=>lO (a.2.2 X k) (b.2 X k) (ah h.down)⟩
def xN (nm:List (ι×Β)) (N:List ι):(e:Ν)→Option {c:E // aS c=false∧∀ X,mM T X nm N→LE X e c}
 | .Tuple es n pos=>(xM (T:=T) nm N es).map fun a=>⟨.tup a.1,rfl,fun X k=>pW (a.2 X k)⟩
 | e=>ud nm N e
def cSu (nm:List (ι×Β)) (N:List ι):(st:Û)→Option {c:S // ∀ X,mM T X nm N→LS X st c}
 | .Return (some e) pos=>(xN (T:=T) nm N e).map fun a=>⟨.ret a.1,fun X k=>kH (a.2.2 X k)⟩
 | .Assign [.Name x p] e pos=>do
   let i ← bC x N
   let hl ← yes (fQ true nm x)
   let hn ← yes (iR e)
   let a ← xN (T:=T) nm N e
   some ⟨.set i.1 a.1,fun X k=>kI (by rw [k.hN];exact k.nd) (by rw [k.hN];exact i.2) (by
    have l1:nm.lookup x=some .local∨nm.lookup x=some .cell:=by have:=hl.down;unfold fQ at this;simpa using this
    show X.env.scope.names.lookup x=_∨X.env.scope.names.lookup x=_
    rw [k.sc];exact l1) (a.2.2 X k) (fun q=>by rw [a.2.1] at q;cases q) (eY hn.down)⟩
 | _=>none
def vh (nm:List (ι×Β)) (N:List ι):(st:List Û)→Option {c:S // ∀ X,mM T X nm N→LSs X st c}
 | []=>some ⟨.skip,fun X k=>qe⟩
 | [a]=>(cSu nm N a).map fun x=>⟨x.1,fun X k=>qg (x.2 X k)⟩
 | a :: b :: r=>do
   let x ← cSu nm N a
   let y ← vh nm N (b :: r)
   some ⟨.seq x.1 y.1,fun X k=>lS (x.2 X k) (y.2 X k)⟩
def cHs (nm:List (ι×Β)) (N:List ι):(hs:List Ċ)→Option {r:S // ∀ X,CxS T X nm N→HL X hs r}
 | []=>some ⟨.skip,fun X k=>vy k.fr⟩
 | .ExceptHandler (some (.Name Bn np)) (some x) (b₀ :: suite) hpos :: hs=>do
   let j ← bC Bn T.hx
   let hz ← no (Bn == ("":ι))
   let hg ← yes (bX nm Bn)
   let hd ← no (Bn == ("__debug__":ι))
   let i ← bC x N
   let hl ← yes (nm.lookup x == some .local)
   let b ← vh (T:=T) nm N (b₀ :: suite)
   let r ← cHs nm N hs
   some ⟨.hand j.1 (some i.1) b.1 r.1,fun X k=>ye (fun e=>b.2 _ (k.toCxOk.su e)) (k.hxs j.1 Bn j.2 (by simpa using hz.down)) (bg k.sc hg.down) hd.down k.ndx (k.at i.2) (by rw [k.sc];simpa using hl.down) (r.2 X k)⟩
 | .ExceptHandler (some (.Name Bn np)) none (b₀ :: suite) hpos :: hs=>do
   let j ← bC Bn T.hx
   let hz ← no (Bn == ("":ι))
   let hg ← yes (bX nm Bn)
   let hd ← no (Bn == ("__debug__":ι))
   let b ← vh (T:=T) nm N (b₀ :: suite)
   let r ← cHs nm N hs
   some ⟨.hand j.1 none b.1 r.1,fun X k=>yf (fun e=>b.2 _ (k.toCxOk.su e)) (k.hxs j.1 Bn j.2 (by simpa using hz.down)) (bg k.sc hg.down) hd.down (r.2 X k)⟩
 | _=>none
def zN (a:GSs T nm N body):(hs:List Ċ)→(pos:Ϭ)→Option (GS T nm N (.Try body hs [] [] pos))
 | h0 :: hs,pos=>(cHs nm N (h0 :: hs)).map fun r=>⟨.try_ a.1 r.1,fun X k=>wt k.fr (a.2 X k) (r.2 X k)⟩
 | _,_=>none
theorem p9 {st:Û}:LS X st (.hand 0 none .skip .skip):=fun z I nb=>ZX rfl nb
def xK (f:aG T) (nm:List (ι×Β)) (N:List ι) (er:List Ν) (p2 pos:Ϭ):Option (GS T nm N (.Return (some (.List er p2)) pos)):=none
mutual
noncomputable def zK (f:aG T) (g:gu T) (nm:List (ι×Β)) (N:List ι):(n:Nat)→(st:Û)→Option (GS T nm N st)
 | 0,_=>none
 | _+1,.Pass pos=>some ⟨.skip,fun X k=>sR⟩
 | _+1,.Return none pos=>some ⟨.ret (.c .non),fun X k=>sU⟩
 | _+1,.Return (some (.List er p2)) pos=>(xK f nm N er p2 pos).orElse fun _=>(f nm N (.List er p2)).map fun a=>⟨.ret a.1,fun X k=>kH (a.2 X k.toCxOk).1⟩
 | _+1,.Return (some e) pos=>(f nm N e).map fun a=>⟨.ret a.1,fun X k=>kH (a.2 X k.toCxOk).1⟩
 | _+1,.Expr (.Constant (.str x) j p) pos=>some ⟨.skip,fun X k=>wl⟩
 | _+1,.Expr (.Call (.Attribute (.Name x p) m ap) [e] [] cp) pos=>((zj f nm N x p m ap e cp pos).orElse fun _=>zp f nm N x p m ap e cp pos).orElse fun _=>t9 f nm N _ pos
 | _+1,.Expr e pos=>t9 f nm N e pos
 | _+1,.Assign [.Name x p] e pos=>zH f g nm N x p pos e
 | _+1,.Assign [.Subscript (.Name x p) eb p2] ee pos=>zF f nm N x p eb p2 ee pos
 | _+1,.Assign [.Subscript eo eb p2] ee pos=>xJ f nm N eo eb p2 ee pos
 | _+1,.Raise (some (.Call (.Name x np) args [] cp)) none pos=>(vf f nm N x np args cp pos).orElse fun _=>rG nm N x np args cp pos
 | _+1,.Assign [.Attribute eo x p] ee pos=>xC f nm N eo x p ee pos
 | _+1,.AugAssign tg op e pos=>zk nm N op pos tg e
 | _+1,.Assign [.Tuple ts j p] (.Tuple vs k q) pos=>xO f nm N j p k q pos ts vs
 | n+1,.If e sa sb pos=>do
   let c ← g nm N e
   let a ← kj f g nm N n sa
   let b ← kj f g nm N n sb
   some ⟨.ifs c.1 a.1 b.1,fun X k=>yy (c.2 X k.toCxOk) (a.2 X k) (b.2 X k)⟩
 | n+1,.For tg iter body [] pos=>do
   let it ← ub (f nm N) tg iter
   let q ← tgP true nm N tg
   let hn ← yes (aI iter)
   let b ← kj f g nm N n body
   some ⟨.for_ q.1.1 q.1.2 it.1 b.1,fun X k=>wq k.calm (fun z o=>ml k.fr) (it.2 X k.toCxOk) (q.2.1 X k.tg) (b.2 X k) (gX hn.down)⟩
 | n+1,.While e body [] pos=>do
   let c ← g nm N e
   let b ← kj f g nm N n body
   some ⟨.whl c.1 b.1,fun X k=>ql (fun z o=>ml k.fr) (c.2 X k.toCxOk) (b.2 X k)⟩
 | n+1,.Try body hs [] [] pos=>do
   let a ← kj f g nm N n body
   zN a hs pos
 | _,_=>none
noncomputable def cSt (f:aG T) (g:gu T) (nm:List (ι×Β)) (N:List ι):(n:Nat)→(st:Û)→Option (GS T nm N st)
 | 0,st=>some ⟨.hand 0 none .skip .skip,fun X k=>p9⟩
 | n+1,st=>some ((zK f g nm N n st).getD ⟨.hand 0 none .skip .skip,fun X k=>p9⟩)
noncomputable def kj (f:aG T) (g:gu T) (nm:List (ι×Β)) (N:List ι):(n:Nat)→(st:List Û)→Option (GSs T nm N st)
 | 0,_=>none
 | _+1,[]=>some ⟨.skip,fun X k=>qe⟩
 | n+1,[a]=>(cSt f g nm N n a).map fun x=>⟨x.1,fun X k=>qg (x.2 X k)⟩
 | n+1,a :: b :: r=>do
   let x ← cSt f g nm N n a
   let y ← kj f g nm N n (b :: r)
   some ⟨.seq x.1 y.1,fun X k=>lS (x.2 X k) (y.2 X k)⟩
end
end
def bf (st:Û):List ι:=(aV st).args.map (·.arg)
def jK (st:Û):List ι:=bf st ++ ((ao st).names.filter fun y=>(y.2 == .local || y.2 == .cell) && !(bf st).contains y.1).map (·.1)
def fA (T:Ns) (st:Û):Option Fn:=(kj (mR T 200).1 (mR T 200).2 (ao st).names (jK st) 200 (bN st)).map fun c=>⟨(bf st).length,(jK st).length,c.1⟩
structure rx (T:Ns) (X:Cx) (ad:List Ε) (lv:Nat):Prop where
 calm:X.calm=true
 fns:∀ (j:Nat) (f:Ε),ad[j]? = some f→∃ x qual st fd fn mu al fc oc,Fun X.K x qual st f fd∧bS X.K fd (bf st) []∧cW (jK st) (bf st) (ao st)∧X.Γ.fn[j]? = some fn∧fA { T with mu:=mu,alt:=al,fc:=fc,oc:=oc } st=some fn
 glb:∀ (j:Nat) (x:ι),T.fn[j]? = some x→∃ f,ad[j]? = some f∧X.mg x=some (.ref f)
 gls:∀ (j:Nat) (x:ι),T.gl[j]? = some x→∃ d u,X.Γ.gl[j]? = some d∧X.mg x=some u∧aN X.K d u=true
 tbs:∀ (j:Nat) (x:ι),T.tb[j]? = some x→∃ t a,X.Γ.tb[j]? = some t∧X.mg x=some (.ref a)∧TbL X a t
 blt:∀ x∈T.bl,X.mg x=none
 cls:cj X T.an
 mts:∀ q∈T.me,∃ f,ad[q.2.2]? = some f∧mL X T.an q.1 q.2.1 f
 nws:∀ (j:Nat) (x:ι),T.nw[j]? = some x→x≠""→∃ f i cl,ad[cl.init]? = some f∧Mk X.K i.ad f∧X.Γ.cl[j]? = some cl∧cl.what=0∧X.W.ci[j]? = some i∧X.W.what[j]? = some 0∧X.mg x=some (.ref i.ad)
 nds:∀ (j:Nat) (x:ι),T.nd[j]? = some x→x≠""→∃ f fd ps i cl,FnI X lv f fd ps i.nm none∧bS X.K fd ps []∧Mk X.K i.ad f∧Cls X.K i.ad∧(∀ f∈i.nm,cK X.K i.ad f)∧X.Γ.cl[j]? = some cl∧X.W.ci[j]? = some i∧X.W.what[j]? = some 1∧i.nm.length=cl.at_.length∧X.mg x=some (.ref i.ad)
 rs:∀ (j:Nat) (x:ι),T.ex[j]? = some x→x≠""→∃ (k:Cl) (i:CI) (fI:Ε) (fd:ù) (ps:List ι) (Bx nwI iniI:String) (bmB:List ζ),ė Bx nwI iniI bmB∧gq X.K i.ad fI bmB nwI∧FnJ X lv fI fd ps i.nm k i.ad∧bS X.K fd ps []∧fi X.K i.ad∧(∀ f∈i.nm,Λ X.K (.ref i.ad) f=some none)∧X.Γ.cl[j]? = some k∧X.W.ci[j]? = some i∧X.W.what[j]? = some 2∧i.nm.length=k.at_.length∧Ϝ X.K i.ad (.type "BaseException")=some true∧ò X.K (.ref i.ad)=some (.type "type")∧Ϟ X.K (.ref i.ad)=true∧X.mg x=some (.ref i.ad)∧k.at_.isEmpty=false
 hxs:∀ (j:Nat) (x:ι),T.hx[j]? = some x→x≠""→n7 X j x
 rt:∀ (j:Nat) (x:ι),T.xt[j]? = some x→x≠""→RtP X j x
section
variable {X:Cx} {T:Ns} {ad:List Ε} {lv:Nat}
theorem dh.to {A:ϑ} {fr:List AK} {N:List ι} {e:AK} {c1 d1:Nat→List D→List O→Res} (h:dh X an c k i):dh (X.to A fr N e c1 d1) an c k i:=⟨h.ci,h.cls,h.na,h.wh,h.nm,h.nd,h.xc⟩
theorem nP (Pg:rx T X ad lv) (n:Nat) (ih:∀ (j:Nat) (f:Ε),ad[j]? = some f→bz X (ac X.Γ n) (lv+1+n) j f) (ih1:∀ (j:Nat) (f:Ε),ad[j]? = some f→∃ m,m+1≤lv+1+n∧bz X (aj X.Γ n) m j f) {j:Nat} {f:Ε} (h:ad[j]? = some f):bz X (ac X.Γ (n+1)) (lv+1+(n+1)) j f:=by
 obtain ⟨x,qual,st,fd,fn,mu,al,fc,oc,Fu,b,Sc,hj,hc⟩:=Pg.fns j f h
 obtain ⟨oc,od,kV,doc,pm,an,cd,ct,osl,rfl,lk,hcd⟩:=Fu.ex
 unfold fA at hc
 obtain ⟨c,_,rfl⟩:=π.mp hc
 refine ⟨_,_,yc (cal:=ac X.Γ n) (cal1:=aj X.Γ n) (k:=lv+1+n) lk hcd Sc hj fun A fr L hr=>c.2 _ ⟨⟨rfl,Sc.nd,rfl,Sc.kind,Pg.calm,fun i y hy=>?_,Pg.gls,Pg.tbs,Pg.blt,fun c cl h=>let ⟨i,h⟩:=Pg.cls c cl h;⟨i,h.to⟩,fun q hq=>?_,fun i y hy hz=>?_,fun i y hy hz=>?_,Pg.hxs⟩,⟨⟨fr,rfl⟩,rfl⟩,fun i y hy hz=>?_,Pg.rt⟩,b,Fu.kp⟩
 ·obtain ⟨g,h1,h2⟩:=Pg.glb i y hy
  exact ⟨_,g,(ih i g h1).to,hr,h2⟩
 ·obtain ⟨g,h1,⟨i,k,a1,a2,a3⟩⟩:=Pg.mts q hq
  exact ⟨_,g,(ih _ g h1).to,hr,⟨i,k,a1,a2.to,a3⟩⟩
 ·obtain ⟨g,ci,cl,h1,h2⟩:=Pg.nws i y hy hz
  obtain ⟨m,hm,h3⟩:=ih1 _ g h1
  exact ⟨m,g,ci,cl,h3.to,hr.mono hm,h2⟩
 ·obtain ⟨g,fd,ps,ci,cl,h1,h2,h3⟩:=Pg.nds i y hy hz
  exact ⟨lv,g,fd,ps,ci,cl,h1.to,h2,hr.mono (by omega),h3⟩
 ·obtain ⟨k,ci,fI,fd,ps,Bx,nwI,iniI,bmB,h1,h2,h3,h4,h5⟩:=Pg.rs i y hy hz
  exact ⟨lv,k,ci,fI,fd,ps,Bx,nwI,iniI,bmB,h1,h2,h3.to,h4,hr.mono (by omega),h5⟩
theorem lx (Pg:rx T X ad lv) {j:Nat} {f:Ε} (h:ad[j]? = some f) {cal:Nat→List D→List O→Res} (no:∀ ds st,cal j ds st = .bad) (m:Nat):bz X cal m j f:=by
 obtain ⟨x,qual,st,fd,fn,mu,al,fc,oc,Fu,b,_⟩:=Pg.fns j f h
 exact ⟨fd,_,⟨fun ds st nb=>ZX (no ds st) nb,fun A fr z args us ds _ _ _ _ nb=>ZX (no ds _) nb⟩,b,Fu.kp⟩
theorem iX (Pg:rx T X ad lv):∀ (n j:Nat) (f:Ε),ad[j]? = some f→bz X (ac X.Γ n) (lv+1+n) j f
 | 0,j,f,h=>lx Pg h (fun _ _=>rfl) _
 | n+1,j,f,h=>nP Pg n (iX Pg n) (fun i g hg=>by
   match n with
   | 0=>exact ⟨0,by omega,lx Pg hg (fun _ _=>rfl) _⟩
   | n'+1=>exact ⟨lv+1+n',by omega,iX Pg n' i g hg⟩) h
end
theorem jS {vs:List ζ} {ns:List Int} (h:A7 vs ns):RDs W ρ G (ns.map D.int) vs:=by
 induction h with
 | nil=>exact rfl
 | cons n t h ih=>exact .cons ⟨t,rfl⟩ ih
theorem pM {X:Cx} {Γ:Gm} {n j k:Nat} {fa a:Ε} {s₁:ξ} {vs:List ζ} {ns:List Int} (md:Mod X.K X.mg X.base) (hb:X.base=s₁.heap) (os:X.os=s₁.os) (hc:X.calm=true) (hg:s₁.gens = #[])
 (ha:s₁.heap.get? a=some { cls:=.type "list",data:=.seq vs.toArray }) (hi:A7 vs ns) (hl:ns.length≤Ϣ) (hr:aT k ň)
 (F:bz X (ac Γ n) k j fa) (hlaw:∃ st',ac Γ n j [.lst (ns.map .int)] [] = .ok (.bl true) st') :
 Ň X.M ň (.call (.ref fa) ⟨[.ref a],[]⟩) (fun r s'=>r = .ok (.ret (.bool true))∧OldK s₁.heap s'.heap∧s'.os=s₁.os∧Ō s'.gens) s₁:=by
 obtain ⟨st',e⟩:=hlaw
 obtain ⟨fd,ps,F,hbd,_⟩:=F
 have hp:=F.len [.lst (ns.map .int)] [] (by rw [e];exact fun z=>nomatch z)
 have nm:∀ {b},¬ Mu ([]:Rs) b:=fun ⟨p,m,_⟩=>nomatch m
 have I:HR { X with A:=ň,fr:=[] } ⟨[],s₁.heap.get?,⟨[],[],[]⟩,[],s₁⟩:=⟨md,rfl,fun _=>hr.hd,(fun b o e=>by rw [hb] at e;exact e),.refl _,rfl,(fun i j p q b h=>by simp at h),fun b m=>(nm m).elim,(fun n o p h=>by simp at h),trivial,(fun b m=>nomatch m),(by show Ō s₁.gens;rw [hg];exact fun g h=>by simp at h),os.symm⟩
 refine â (F.run ň [] ⟨[],s₁.heap.get?,⟨[],[],[]⟩,[],s₁⟩ ⟨[.ref a],[]⟩ [.ref a] [.lst (ns.map .int)] hr I (hbd s₁ [.ref a] (hb ▸ md.kin) hp) (.cons ⟨a,_,vs,rfl,ha,⟨⟨_,rfl⟩,by rw [hi.length];exact hl⟩,jS hi⟩ rfl) (by rw [e];exact fun z=>nomatch z)) fun r s' hq=>?_
 rw [e] at hq
 cases r with
 | error u=>obtain ⟨_,_,_,_,z,_⟩:=hq;cases z
 | ok fl=>cases fl with
   | ret u=>
     obtain ⟨z',d,q1,q2,S,H,rd⟩:=hq
     subst q1
     cases q2
     cases (show u=Ý true from rd)
     have keep:∀ b o,s₁.heap.get? b=some o→z'.s.heap.get? b=some o:=fun b o e=>S.sm b o e nm (fun z=>z) (fun m=>nomatch m)
     exact ⟨rfl,OldK.of_keep keep,H.os.trans os,H.br⟩
   | _=>exact hq.elim
theorem tQ {l:Cv} {n k lv:Nat} {q:ϱ} {loose:List ι} {XP:(ι→Option ζ)→ϯ→Prop} {YP:Ð→ϯ→Prop} {d:DefRec} {K:Params→τ} {j:Nat} {Γ:Gm}
 (hn:l.most=some n) (hn2:n≤Ϣ) (hdf:d.params.defaults = []) (hr:aT lv ň) (hY:∀ (w:Ð) (h:ϯ),YP w h→(K w.params).In h)
 (F:∀ (w:Ð) (mg:ι→Option ζ) (fa:Ε) (h:ϯ) (os:CM),(K w.params).In h→h.Ns ύ mg→mg d.name=some (.ref fa)→Mod (K w.params) mg h →
  ∃ X:Cx,X.W.P=l.prog∧X.W.w=w∧X.K=K w.params∧X.mg=mg∧X.base=h∧X.os=os∧X.calm=true∧bz X (ac Γ k) lv j fa)
 (hlaw:∀ ns:List Int,ns.length≤n→∃ st',ac Γ k j [.lst (ns.map .int)] [] = .ok (.bl true) st'):CW q loose XP YP l.row.toRowW d [] (fun f vs=>Cg f vs):=by
 refine Att.attach_call hn hdf fun w s₀ s₁ mg mb fa o pm cd doc a vs ns G Y ho hd hcd hmg hobj hints hlen hg=>?_
 have KX:=hY w _ Y
 have md:Mod (K w.params) mg s₁.heap:=⟨KX,G.T.g,⟨mb,G.T.b,G.T.builtins⟩,G.T.nolimit⟩
 obtain ⟨X,e1,e2,e3,e4,e5,e6,e7,hF⟩:=F w mg fa s₁.heap s₁.os KX G.T.g hmg md
 have:=pM (X:=X) (by rw [e3,e4,e5];exact md) e5 e6 e7 hg hobj hints (ϰ hlen hn2) hr hF (hlaw ns hlen)
 rw [show X.M=model l.prog w by show model X.W.P X.W.w=_;rw [e1,e2]] at this
 exact this
def FnF (T:Ns) (K:τ) (Γ:Gm) (j:Nat) (f:Ε):Prop:=∃ x qual st fd fn mu al fc oc,Fun K x qual st f fd∧bS K fd (bf st) []∧cW (jK st) (bf st) (ao st)∧Γ.fn[j]? = some fn∧fA { T with mu:=mu,alt:=al,fc:=fc,oc:=oc } st=some fn
theorem jL:∀ {ps:List ι} {us:List ζ},ps.Nodup→us.length=ps.length→ps.filterMap (fun n=>((ps.zip us).lookup n).map (n,·))=ps.zip us
 | [],[],_,_=>rfl
 | p :: ps,u :: us,nd,hl=>by
   have ih:=jL (ϟ.mp nd).2 (by simpa using hl)
   rw [Ϧ]
   simp only [ų,ļ,ZT,Option.map_some]
   congr 1
   have:∀ l:List ι,(∀ n∈l,n∈ps)→l.filterMap (fun n=>((match n == p with | true=>some u | false=>(ps.zip us).lookup n).map fun x=>(n,x)))=l.filterMap fun n=>((ps.zip us).lookup n).map fun x=>(n,x):=fun l=>by
    induction l with
    | nil=>intro _;rfl
    | cons n l ih=>
      intro h
      have q:(n == p)=false:=ZU.mpr fun e=>(ϟ.mp nd).1 (e ▸ h n μ)
      rw [Ϧ,Ϧ,ih fun m hm=>h m (ν _ hm),q]
   exact (this ps fun _ h=>h).trans ih
 | [],_ :: _,_,hl=>by simp at hl
 | _ :: _,[],_,hl=>by simp at hl
theorem nF:∀ {ps:List ι} {us:List ζ},us.length=ps.length→(ps.filter fun n=>((ps.zip us).lookup n).isNone) = []:=by
 intro ps us hl
 rw [BO]
 intro n hn
 have:((ps.zip us).lookup n).isSome=true:=by
  induction ps generalizing us with
  | nil=>cases hn
  | cons p ps ih=>
    cases us with
    | nil=>simp at hl
    | cons u us=>
      rw [ų,ļ]
      cases e:n == p with
      | true=>rfl
      | false=>
        rcases ς.mp hn with q | q
        ·subst q;simp at e
        ·exact ih (by simpa using hl) q
 cases e:(ps.zip us).lookup n with
 | none=>rw [e] at this;cases this
 | some v=>simp
theorem kh {p:CB} {x q:ι} {body:List Û} {sc:Ė} {kV doc pm cd ct:ζ} {an:Option Ε} {us:List ζ} (h1:p.posonlyargs = []) (h2:p.kwonlyargs = []) (h3:p.vararg=none) (h4:p.kwarg=none) (nd:(p.args.map (·.arg)).Nodup) (hl:us.length=(p.args.map (·.arg)).length) :
 bindArgs (Å x q p body sc .none kV doc pm an cd ct) ⟨us,[]⟩=pure ((p.args.map (·.arg)).zip us):=by
 have e1:=nF hl
 have e2:=jL nd hl
 obtain ⟨a1,a2,a3,a4,a5,a6,a7⟩:=p
 cases h1;cases h2;cases h3;cases h4
 refine Eq.trans (ZY (c:=((decide (us.length>(a2.map (·.arg)).length)) && true)=true) ?_) ?_
 ·rw [hl];simp
 refine Eq.trans (ZY ?_) ?_
 ·show ¬ (!((a2.map (·.arg)).take ((a2.map (·.arg)).length - (List.drop (0 - (a2.map (·.arg)).length) ([]:List ζ)).length) |>.filter fun n=>(((a2.map (·.arg)).zip us).lookup n).isNone).isEmpty)=true
  rw [DC,ϒ,E0,CZ,e1];exact fun h=>nomatch h
 have e3:∀ n:Nat,List.drop n ([]:List ζ) = []:=fun _=>DC
 show (forIn ((List.drop ((List.map Bt a2).length - (List.drop (0 - (List.map Bt a2).length) ([]:List ζ)).length) (List.map Bt a2)).zip (List.drop (0 - (List.map Bt a2).length) ([]:List ζ))) _ _ >>= _)=_
 rw [e3,Ų]
 show (pure ((List.map Bt a2 ++ []).filterMap fun n=>(((List.map Bt a2).zip us).lookup n).map (n,·)):Dh _)=_
 rw [ώ]
 exact ZS pure e2
def fnC (st:Û):Bool:=(aV st).posonlyargs.isEmpty && (aV st).kwonlyargs.isEmpty && (aV st).vararg.isNone && (aV st).kwarg.isNone && (match (ao st).kind with | .function=>true | _=>false) && !(ao st).isCoroutine && !(ao st).isGenerator &&
 decide ((jK st).Nodup∧(jK st).take (bf st).length=bf st∧(∀ x∈bf st,(ao st).names.lookup x=some .local∨(ao st).names.lookup x=some .cell)∧∀ y∈(ao st).names,y.2≠.free)
theorem oZ {st:Û} (h:fnC st=true):cW (jK st) (bf st) (ao st)∧∀ {K:τ} {x q:ι} {f:Ε} {fd:ù},Fun K x q st f fd→bS K fd (bf st) []:=by
 unfold fnC at h
 simp only [Τ,decide_eq_true_eq,į,List.isEmpty_iff,Option.isNone_iff_eq_none] at h
 obtain ⟨⟨⟨⟨⟨⟨⟨h1,h2⟩,h3⟩,h4⟩,h5⟩,h6⟩,h7⟩,h8,h9,h10,h11⟩:=h
 have nd:(bf st).Nodup:=h9 ▸ h8.sublist (CN _ _)
 refine ⟨⟨(by split at h5 <;> first | assumption | cases h5),h6,h7,h8,h9,h10,h11⟩,fun F=>F.binds fun _ _ _ _ _ _ us hl=>kh h1 h2 h3 h4 nd hl⟩
def cT (T:Ns) (st:Û):Fn:=(fA T st).getD ⟨0,0,.skip⟩
def FsL (K:τ):List (ι×ι×Û)→List Ε→Prop
 | [],[]=>True
 | p :: r,f :: fs=>(∃ fd,Fun K p.1 p.2.1 p.2.2 f fd)∧FsL K r fs
 | _,_=>False
theorem FsL.app {K:τ}:∀ {l l' fs fs'},FsL K l fs→FsL K l' fs'→FsL K (l ++ l') (fs ++ fs')
 | [],_,[],_,_,h=>h
 | _ :: _,_,_ :: _,_,h,t=>⟨h.1,FsL.app h.2 t⟩
 | [],_,_ :: _,_,h,_=>h.elim
 | _ :: _,_,[],_,h,_=>h.elim
theorem FsL.len {K:τ}:∀ {l fs},FsL K l fs→fs.length=l.length
 | [],[],_=>rfl
 | _ :: _,_ :: _,h=>ZS (· + 1) h.2.len
 | [],_ :: _,h=>h.elim
 | _ :: _,[],h=>h.elim
theorem FsL.at {K:τ}:∀ {l fs} {j:Nat} {f:Ε},FsL K l fs→fs[j]? = some f→∃ p fd,l[j]? = some p∧Fun K p.1 p.2.1 p.2.2 f fd
 | [],[],j,f,_,e=>by simp at e
 | p :: l,g :: fs,0,f,h,e=>by simp at e;subst e;obtain ⟨fd,F⟩:=h.1;exact ⟨p,fd,rfl,F⟩
 | p :: l,g :: fs,j+1,f,h,e=>FsL.at (j:=j) h.2 (by simpa using e)
 | [],_ :: _,_,_,h,_=>h.elim
 | _ :: _,[],_,_,h,_=>h.elim
theorem vw {T:Ns} {ad:List Ε} {K:τ} {Γ:Gm} {l:List (ι×ι×Û)} {vs:List (List ι×List (ι×Nat)×List ι×List ι)} (hl:l.length=vs.length) (hΓ:Γ.fn=(l.zip vs).map fun p=>cT { T with mu:=p.2.1,alt:=p.2.2.1,fc:=p.2.2.2.1,oc:=p.2.2.2.2 } p.1.2.2) (hc:((l.zip vs).all fun p=>fnC p.1.2.2 && (fA { T with mu:=p.2.1,alt:=p.2.2.1,fc:=p.2.2.2.1,oc:=p.2.2.2.2 } p.1.2.2).isSome)=true) (h:FsL K l ad) {j:Nat} {f:Ε} (e:ad[j]? = some f):FnF T K Γ j f:=by
 obtain ⟨p,fd,e1,F⟩:=h.at e
 have hj:j<vs.length:=hl ▸ (ο.mp e1).1
 have e2:(l.zip vs)[j]? = some (p,vs[j]):=Ù.mpr ⟨e1,φ hj⟩
 have c:=ϝ.mp hc _ (Ζ e2)
 rw [Τ] at c
 obtain ⟨S,B⟩:=oZ c.1
 refine ⟨_,_,_,fd,cT { T with mu:=vs[j].1,alt:=vs[j].2.1,fc:=vs[j].2.2.1,oc:=vs[j].2.2.2 } p.2.2,vs[j].1,vs[j].2.1,vs[j].2.2.1,vs[j].2.2.2,F,B F,S,by rw [hΓ,Ω,e2];rfl,?_⟩
 cases q:fA { T with mu:=vs[j].1,alt:=vs[j].2.1,fc:=vs[j].2.2.1,oc:=vs[j].2.2.2 } p.2.2 with
 | none=>have:=c.2;dsimp only at this;rw [q] at this;exact nomatch this
 | some g=>unfold cT;rw [q];rfl
def fj (K:τ):List (ι×Û)→Prop
 | []=>True
 | p :: r=>(∃ f fd,Fun K p.1 p.1 p.2 f fd∧Ϗ K ύ p.1=some (some (.ref f)))∧fj K r
theorem hl_cons {K:τ} {x:ι} {st:Û} {f:Ε} {od an:Option Ε} {sl:Array (Option ζ)} {oc kV dc pm cd ct:ζ} (a:Ϗ K ύ x=some (some (.ref f)))
 (l:K.lookup f=some ⟨oc,od,.func (Å x x (aV st) (bN st) (ao st) .none kV dc pm an cd ct),sl⟩) (c:ó K cd x=true) (k:Ϟ K (.ref f)=true) (t:fj K r):fj K ((x,st) :: r):=⟨⟨f,_,kA l c k,a⟩,t⟩
def uV (mg:ι→Option ζ):List ι→List Ε→Prop
 | [],_=>True
 | x :: xs,f :: fs=>mg x=some (.ref f)∧uV mg xs fs
 | _ :: _,[]=>False
theorem fj.ad {K:τ} {h:ϯ} {mg:ι→Option ζ} (Y:K.In h) (G:h.Ns ύ mg):∀ {l},fj K l→∃ ad,FsL K (l.map fun p=>(p.1,p.1,p.2)) ad∧uV mg (l.map (·.1)) ad
 | [],_=>⟨[],trivial,trivial⟩
 | _ :: _,⟨⟨f,fd,F,n⟩,t⟩=>let ⟨ad,h1,h2⟩:=fj.ad Y G t;⟨f :: ad,⟨⟨fd,F⟩,h1⟩,Ä Y G n,h2⟩
theorem fq {ad ms:List Ε} (h:ad.length=n):(ad ++ ms)[n+k]? = ms[k]?:=by rw [Ρ (by omega)];congr 1;omega
theorem oq :∀ {xs} {fs} {j:Nat} {x:ι},uV mg xs fs→xs[j]? = some x→∃ f,fs[j]? = some f∧mg x=some (.ref f)
 | [],_,_,_,_,e=>by simp at e
 | y :: xs,f :: fs,0,x,h,e=>by simp at e;subst e;exact ⟨f,rfl,h.1⟩
 | y :: xs,f :: fs,j+1,x,h,e=>by
   obtain ⟨g,h1,h2⟩:=oq (j:=j) h.2 (by simpa using e)
   exact ⟨g,by simpa using h1,h2⟩
 | _ :: _,[],_,_,h,_=>h.elim
def eh {α:Type} (P:Nat→α→Prop):Nat→List α→Prop
 | _,[]=>True
 | j,x :: r=>P j x∧eh P (j+1) r
theorem tU :∀ {l:List α} {j i} {x:α},eh P j l→l[i]? = some x→P (j+i) x
 | [],_,i,_,_,e=>by simp at e
 | g :: r,j,0,f,h,e=>by simp at e;subst e;exact h.1
 | g :: r,j,i+1,f,h,e=>by
   have:=tU (i:=i) h.2 (by simpa using e)
   rw [show j+(i+1)=j+1+i by omega];exact this
theorem dj (h:eh P 0 l) (e:l[i]? = some x):P i x:=by
 have:=tU h e
 rwa [ŏ] at this
def mK (K:τ) (C:Ε) (m qn:ι) (st:Û) (f:Ε):Prop:=(∃ fd,Fun K m qn st f fd)∧xu K C m f
theorem me_mk {K:τ} {C f:Ε} {m qn:ι} {st:Û} {od an:Option Ε} {sl:Array (Option ζ)} {oc kV dc pm cd ct:ζ} (at_:Λ K (.ref C) m=some (some (.ref f))) (l:K.lookup f=some ⟨oc,od,.func (Å m qn (aV st) (bN st) (ao st) .none kV dc pm an cd ct),sl⟩) (fn:ķ K (.ref f)=true) (c:ó K cd qn=true) (k:Ϟ K (.ref f)=true):mK K C m qn st f:=⟨⟨_,kA l c k⟩,at_,fn,k⟩
structure xp (K:τ) (x:ι) (C:Ε):Prop where
 a:Ϗ K ύ x=some (some (.ref C))
 cls:Cls K C
 mks:ĺ K C=true
 kp:Ϟ K (.ref C)=true
theorem cc_mk {K:τ} (a:Ϗ K ύ x=some (some (.ref C))) (pg:Đ K C AY=true) (hd:ϫ K C=true) (po:ū K C=true) (sa:Λ K (.ref C) "__setattr__" = some (some (.builtin "object.__setattr__"))) (mk:ĺ K C=true) (kp:Ϟ K (.ref C)=true):xp K x C:=⟨a,⟨pg,hd,po,sa⟩,mk,kp⟩
structure ry (K:τ) (x qn:ι) (st:Û) (bmB:List ζ) (nw:String) (C fI:Ε):Prop where
 a:Ϗ K ύ x=some (some (.ref C))
 own:gq K C fI bmB nw
 ini:∃ fd,Fun K "__init__" qn st fI fd
 st:fi K C
 fd:dD K C
 hh:ϫ K C=true
 ec:k7 K C
 kp:Ϟ K (.ref C)=true
 me:Ϝ K C (.ref C)=some true
theorem xc_mk {K:τ} {x qn:ι} {st:Û} {bmB:List ζ} {nw:String} {C fI:Ε} {nm q:ι} {N:Ε} {bs bm:List ζ} {hdct:Bool} {sn:List ι} {sub:List ζ} {ab:Bool} {col:Option Bool} {dd:Option Ε} {k0 k1 k2 k3 k5:Option ζ} {od an:Option Ε} {sl:Array (Option ζ)} {oc kV dc pm cd ct:ζ}
 (a:Ϗ K ύ x=some (some (.ref C))) (l:K.lookup C=some (D5 nm q C N bs bm hdct sn sub ab col dd k0 k1 k2 k3 k5 nw)) (t:CK K bmB bm=true) (ini:Λ K (.ref C) "__init__" = some (some (.ref fI))) (fl:K.lookup fI=some ⟨oc,od,.func (Å "__init__" qn (aV st) (bN st) (ao st) .none kV dc pm an cd ct),sl⟩) (fn:ķ K (.ref fI)=true) (fc:ó K cd qn=true) (fk:Ϟ K (.ref fI)=true)
 (ga:Λ K (.ref C) "__getattribute__" = some (some (.builtin "BaseException.__getattribute__"))) (gn:Λ K (.ref C) "__getattr__" = some none) (cl:Λ K (.ref C) "__class__" = some (some (.builtin "object.__class__"))) (sg:ģ K (.builtin "object.__class__") "__get__" = some (some (.builtin "getset_descriptor.__get__"))) (tk:AE K (.builtin "object.__class__")=some true) (ob:Ϝ K C (.type "object")=some true) (be:Ϝ K C (.type "BaseException")=some true)
 (is:(Ĩ K C).isSome=true) (kp:Ϟ K (.ref C)=true) (tyC:ò K (.ref C)=some (.type "type")) (sa:Λ K (.ref C) "__setattr__" = some (some (.builtin "object.__setattr__"))) (ov:((Ĩ K C).any fun cd=>fV veB cd.mro || fV exB cd.mro)=true) (hdc:((Ĩ K C).any fun cd=>cd.hasDict)=true) (hh:ϫ K C=true) (me:Ϝ K C (.ref C)=some true):ry K x qn st bmB nw C fI:=
 ⟨a,⟨⟨nm,q,N,bs,bm,hdct,sn,sub,ab,col,dd,k0,k1,k2,k3,k5,l,t⟩,ini,fn⟩,⟨_,kA fl fc fk⟩,⟨sa,ov,hdc,ob⟩,⟨ga,gn,cl,sg,tk,ob,be,is⟩,hh,⟨tyC,is,be⟩,kp,me⟩
def jsC (N:List ι) (nm:List (ι×Β)) (ck:List Nat):(es:List Ν)→Option (PLift (∀ X:Cx,X.N=N→X.env.scope.names=nm→JsP X ck es))
 | []=>some ⟨fun _ _ _=>.nil⟩
 | .Constant (.str x) _ _ :: r=>match h:decide (x.length≤1000) with
   | true=>(jsC N nm ck r).map fun ih=>⟨fun X hN hs=>.c (of_decide_eq_true h) (ih.down X hN hs)⟩
   | false=>none
 | .FormattedValue (.Name x _) (.negSucc 0) none _ :: r=>match h:(ck.any fun i=>decide (N[i+1]? = some x)) && cu nm x && !((x == ("__debug__":ι)) || (x == ("__classdict__":ι))) with
   | true=>(jsC N nm ck r).map fun ih=>⟨fun X hN hs=>by
     simp only [Τ,Ï,decide_eq_true_eq,į] at h
     obtain ⟨⟨⟨i,h1,h2⟩,h3⟩,h4⟩:=h
     exact .f h1 (hN ▸ h2) (ba hs h3) h4 (ih.down X hN hs)⟩
   | false=>none
 | _=>none
def bsP (bs:Option (ι×List Nat)):Option {q:ι×List Nat // bs=some q}:=match bs with
 | some q=>some ⟨q,rfl⟩
 | none=>none
def vA (N:List ι) (nm:List (ι×Β)) (bs:Option (ι×List Nat)):(b:List Û)→(l:List (ι×Nat))→Option (PLift (∀ X:Cx,X.N=N→X.env.scope.names=nm→(∀ b c,bs=some (b,c)→∃ B,X.mg b=some (.ref B)∧jh X.K B)→ji X (bs.map (·.2)) b l))
 | [],[]=>some ⟨fun _ _ _ _=>.nil⟩
 | .Assign [.Attribute (.Name s0 _) f _] (.Name x _) _ :: r,(g,i) :: l=>match h:decide (f=g∧N[0]? = some s0∧N[i]? = some x) && cu nm s0 && cu nm x && !((s0 == ("__debug__":ι)) || (s0 == ("__classdict__":ι)) || (x == ("__debug__":ι)) || (x == ("__classdict__":ι))) with
   | true=>(vA N nm bs r l).map fun ih=>⟨fun X hN hs hB=>by
     simp only [Τ,decide_eq_true_eq,į] at h
     obtain ⟨⟨⟨⟨rfl,h1,h2⟩,h3⟩,h4⟩,h5⟩:=h
     exact .cons (hN ▸ h1) (hN ▸ h2) (ba hs h3) (ba hs h4) h5 (ih.down X hN hs hB)⟩
   | false=>none
 | .Expr (.Call (.Attribute (.Name Bn _) m ap) [.Name s0 _,.JoinedStr (e1 :: e2 :: es) _] [] cp) _ :: r,l=>(bsP bs).bind fun q=>match h:decide (Bn=q.1.1∧m = "__init__"∧N[0]? = some s0∧es.length≤50) && cu nm s0 && bX nm Bn && !((s0 == ("__debug__":ι)) || (s0 == ("__classdict__":ι)) || (Bn == ("__debug__":ι))) && (ap.endLine == cp.line) with
   | true=>(jsC N nm q.1.2 (e1 :: e2 :: es)).bind fun js=>(vA N nm bs r l).map fun ih=>⟨fun X hN hs hB=>by
     obtain ⟨⟨b,ck⟩,hb⟩:=q
     subst hb
     simp only [Τ,decide_eq_true_eq,į] at h
     obtain ⟨⟨⟨⟨⟨rfl,rfl,h1,h2⟩,h3⟩,h4⟩,h5⟩,h6⟩:=h
     obtain ⟨B,h9,h10⟩:=hB _ _ rfl
     exact .base rfl (hN ▸ h1) (ba hs h3) h5 (bg hs h4) h9 h10 (js.down X hN hs) h2 h6 (ih.down X hN hs hB)⟩
   | false=>none
 | _,_=>none
def dtC (st:Û) (nm:List ι) (bs:Option (ι×List Nat)):Bool:=fnC st && decide (jK st=bf st∧(bf st).length=nm.length+1∧nm.Nodup∧nm.length<900) && (vA (bf st) (ao st).names bs (bN st) (nm.zip (B2 1 nm.length))).isSome
theorem ey {X:Cx} {x qual:ι} {st:Û} {f:Ε} {fd:ù} {nm:List ι} (bs:Option (ι×List Nat)) (F:Fun X.K x qual st f fd) (h:dtC st nm bs=true) (hB:∀ b c,bs=some (b,c)→∃ B,X.mg b=some (.ref B)∧jh X.K B:=by nofun):FnI X 1 f fd (bf st) nm (bs.map (·.2))∧bS X.K fd (bf st) []:=by
 unfold dtC at h
 simp only [Τ,decide_eq_true_eq] at h
 obtain ⟨⟨h1,h2,h3,h4,h5⟩,h6⟩:=h
 obtain ⟨h6,_⟩:=Bp.mp h6
 obtain ⟨S,B⟩:=oZ h1
 rw [h2] at S
 refine ⟨?_,B F⟩
 obtain ⟨oc,od,kV,doc,pm,an,cd,ct,osl,rfl,lk,hcd⟩:=F.ex
 exact vr (k:=0) lk hcd S h3 h4 h5 rfl fun A fr L=>h6.down (cxF X X.cal X.cal1 (bf st) qual (ao st) f cd A fr L) rfl rfl hB
structure uY (K:τ) (x:ι) (C:Ε):Prop where
 a:Ϗ K ύ x=some (some (.ref C))
 fd:dD K C
 hh:ϫ K C=true
 ec:k7 K C
theorem xb_mk {K:τ} {x:ι} {C:Ε} (a:Ϗ K ύ x=some (some (.ref C))) (ga:Λ K (.ref C) "__getattribute__" = some (some (.builtin "BaseException.__getattribute__"))) (gn:Λ K (.ref C) "__getattr__" = some none) (cl:Λ K (.ref C) "__class__" = some (some (.builtin "object.__class__"))) (sg:ģ K (.builtin "object.__class__") "__get__" = some (some (.builtin "getset_descriptor.__get__"))) (tk:AE K (.builtin "object.__class__")=some true) (ob:Ϝ K C (.type "object")=some true) (be:Ϝ K C (.type "BaseException")=some true)
 (is:(Ĩ K C).isSome=true) (tyC:ò K (.ref C)=some (.type "type")) (hh:ϫ K C=true):uY K x C:=⟨a,⟨ga,gn,cl,sg,tk,ob,be,is⟩,hh,⟨tyC,is,be⟩⟩
def GlL (K:τ):List (ι×L2.Bk.Dk)→Prop
 | []=>True
 | p :: r=>(∃ u,Ϗ K ύ p.1=some (some u)∧aN K p.2 u=true)∧GlL K r
theorem gl_cons {K:τ} (a:Ϗ K ύ x=some (some u)) (b:aN K d u=true) (t:GlL K r):GlL K ((x,d) :: r):=⟨⟨u,a,b⟩,t⟩
theorem GlL.at {K:τ}:∀ {l} {j:Nat} {x:ι},GlL K l→(l.map (·.1))[j]? = some x→∃ d u,(l.map (·.2))[j]? = some d∧Ϗ K ύ x=some (some u)∧aN K d u=true
 | [],_,_,_,e=>by simp at e
 | p :: _,0,_,⟨⟨u,h⟩,_⟩,e=>by simp at e;subst e;exact ⟨_,u,rfl,h⟩
 | _ :: _,j+1,_,h,e=>GlL.at (j:=j) h.2 (by simpa using e)
def kf (K:τ):List (ι×List (ι×L2.Bk.Dk))→Prop
 | []=>True
 | p :: r=>(∃ a,Ϗ K ύ p.1=some (some (.ref a))∧B7 (aN K) (fun b=>K.lookup b) a p.2=true)∧kf K r
theorem tb_cons {K:τ} {u:Ε} {d:List (ι×L2.Bk.Dk)} (a:Ϗ K ύ x=some (some (.ref u))) (b:B7 (aN K) (fun b=>K.lookup b) u d=true) (t:kf K r):kf K ((x,d) :: r):=⟨⟨u,a,b⟩,t⟩
theorem kf.at {K:τ}:∀ {l} {j:Nat} {x:ι},kf K l→(l.map (·.1))[j]? = some x→∃ t a,(l.map (·.2))[j]? = some t∧Ϗ K ύ x=some (some (.ref a))∧B7 (aN K) (fun b=>K.lookup b) a t=true
 | [],_,_,_,e=>by simp at e
 | p :: _,0,_,⟨⟨u,h⟩,_⟩,e=>by simp at e;subst e;exact ⟨_,u,rfl,h⟩
 | _ :: _,j+1,_,h,e=>kf.at (j:=j) h.2 (by simpa using e)
def NoL (K:τ):List ι→Prop
 | []=>True
 | x :: r=>Ϗ K ύ x=some none∧NoL K r
theorem nl_cons {K:τ} (a:Ϗ K ύ x=some none) (t:NoL K r):NoL K (x :: r):=⟨a,t⟩
theorem NoL.at {K:τ}:∀ {l},NoL K l→∀ x∈l,Ϗ K ύ x=some none
 | _ :: _,h,_,m=>(ς.mp m).elim (fun e=>e ▸ h.1) (h.2.at _)
def NaL (K:τ) (C:Ε):List ι→Prop
 | []=>True
 | x :: r=>Λ K (.ref C) x=some none∧NaL K C r
theorem NaL.at {K:τ}:∀ {l},NaL K C l→∀ x∈l,Λ K (.ref C) x=some none
 | _ :: _,h,_,m=>(ς.mp m).elim (fun e=>e ▸ h.1) (h.2.at _)
def MrL (K:τ):List (ι×ι×Bool)→Prop
 | []=>True
 | p :: r=>(∃ C D:Ε,Ϗ K ύ p.1=some (some (.ref C))∧Ϗ K ύ p.2.1=some (some (.ref D))∧Ϝ K C (.ref D)=some p.2.2)∧MrL K r
theorem mr_cons {K:τ} {C D:Ε} {m n:ι} {o:Bool} (a:Ϗ K ύ m=some (some (.ref C))) (b:Ϗ K ύ n=some (some (.ref D))) (c:Ϝ K C (.ref D)=some o) (t:MrL K r):MrL K ((m,n,o) :: r):=⟨⟨C,D,a,b,c⟩,t⟩
theorem MrL.at {K:τ} {C D:Ε} {m n:ι} {o:Bool}:∀ {l},MrL K l→(m,n,o)∈l→Ϗ K ύ m=some (some (.ref C))→Ϗ K ύ n=some (some (.ref D))→Ϝ K C (.ref D)=some o
 | p :: r,⟨⟨C',D',a,b,c⟩,t⟩,h,e1,e2=>by
   rcases ς.mp h with q | q
   ·subst q
    rw [e1] at a;cases a
    rw [e2] at b;cases b
    exact c
   ·exact MrL.at t q e1 e2
def KOf {K:τ} {h:ϯ} (_:K.In h):τ:=K
theorem zS {Γ:Gm} {cal cal1:Nat→List D→List O→Res}:ev Γ cal cal1 br (.v i) s=(match s.env[i]? with | some (some d)=>.ok d (if br then s else un s i) | _=>.bad):=rfl
inductive IT where
 | fin (o:ak)
 | call (j:Nat) (ds:List D) (st:List O) (k:Res→IT)
 | call1 (j:Nat) (ds:List D) (st:List O) (k:Res→IT)
 | test (b:Bool) (k:Bool→IT)
 | opt (o:Option D) (k:D→IT)
 | sub (o:Out D) (k:D→Sta→IT)
 | subS (o:ak) (k:ak→IT)
def IT.bad:IT:=.fin .bad
def lcT (g:D→Sta→(Option D→Sta→IT)→IT):List D→List D→Sta→(D→Sta→IT)→IT
 | [],acc,s,k=>k (.lst acc) s
 | d :: r,acc,s,k=>g d s fun o s'=>match o with
   | some e=>.test (decide (acc.length<100000)) fun t=>if t then lcT g r (acc ++ [e]) s' k else .bad
   | none=>lcT g r acc s' k
def vt (g:D→Sta→(Sta→IT)→IT):List D→Sta→(Sta→IT)→IT
 | [],s,k=>k s
 | d :: r,s,k=>g d s fun s=>vt g r s k
def pE (st:List O) (p c:Nat):Bool:=match st[p]? with | some (.ins c' _)=>c' == c | _=>false
def vx (x y:D) (z:D):Option D:=match x,bv y with | .dic ks ds,some k=>some ((cA ks ds k).getD z) | _,_=>none
def mO (es:E) (s:Sta) (d:D) (st:List O) (k:D→Sta→IT):IT:=if s.ow.any fun i=>(bu es).contains i then .test (noL d && st.all jP) fun t=>k d ⟨s.env,s.ow.filter fun i=>!(bu es).contains i || (isLst s.env[i]? && t),st⟩ else k d (aft es s d st)
section
variable (Γ:Gm) (cal cal1:Nat→List D→List O→Res) (lp:Bool)
mutual
noncomputable def evT (br:Bool):E→Sta→(D→Sta→IT)→(Nat→List D→Sta→IT)→IT
 | .v i,s,k,kx=>(match s.env[i]? with | some (some d)=>k d (if br then s else un s i) | _=>.bad)
 | .c d,s,k,kx=>k d s
 | .g j,s,k,kx=>(match Γ.gl[j]?.map toD with | some d=>k d s | none=>.bad)
 | .op o a b,s,k,kx=>evT true a s (fun x s=>evT true b s (fun y s=>.opt (opD o (look s.st x) (look s.st y)) fun d=>k d s) kx) kx
 | .isN a,s,k,kx=>evT true a s (fun x s=>k (.bl (jA x)) s) kx
 | .isNN a,s,k,kx=>evT true a s (fun x s=>k (.bl (!jA x)) s) kx
 | .neg a,s,k,kx=>evT true a s (fun x s=>match x with | .int i=>k (.int (-i)) s | _=>.bad) kx
 | .not a,s,k,kx=>evT true a s (fun x s=>match x with | .bl b=>k (.bl (!b)) s | _=>.bad) kx
 | .and a b,s,k,kx=>evT false a s (fun x s=>match x with | .bl t=>.test t fun t=>if t then evT false b s k kx else k (.bl false) s | _=>.bad) kx
 | .or a b,s,k,kx=>evT false a s (fun x s=>match x with | .bl t=>.test t fun t=>if t then k (.bl true) s else evT false b s k kx | _=>.bad) kx
 | .ite c a b,s,k,kx=>evT true c s (fun x s=>match x with | .bl t=>.test t fun t=>if t then evT false a s k kx else evT false b s k kx | _=>.bad) kx
 | .chain o p a b c,s,k,kx=>evT true a s (fun x s=>evT true b s (fun y s=>.opt (opD o (look s.st x) (look s.st y)) fun d=>match d with
   | .bl t=>.test t fun t=>if t then evT true c s (fun z s=>.opt (opD p (look s.st y) (look s.st z)) fun d=>k d s) kx else k (.bl false) s
   | _=>.bad) kx) kx
 | .ix a b,s,k,kx=>evT true a s (fun x s=>evT true b s (fun y s=>.opt (ixD (look s.st x) y) fun d=>k d s) kx) kx
 | .sl a lo hi,s,k,kx=>evT true a s (fun x s=>
  let k3:=fun l s=>(if bj hi then .opt (slO (look s.st x) l none) fun d=>k d s else evT true hi s (fun z s=>match z with | .int h=>.opt (slO (look s.st x) l (some h)) fun d=>k d s | _=>.bad) kx)
  if bj lo then k3 none s else evT true lo s (fun z s=>match z with | .int l=>k3 (some l) s | _=>.bad) kx) kx
 | .sl3 a lo hi,s,k,kx=>evT true a s (fun x s=>
  let k3:=fun l s=>(if bj hi then .opt (nV (look s.st x) l none) fun d=>k d s else evT true hi s (fun z s=>match z with | .int h=>.opt (nV (look s.st x) l (some h)) fun d=>k d s | _=>.bad) kx)
  if bj lo then k3 none s else evT true lo s (fun z s=>match z with | .int l=>k3 (some l) s | _=>.bad) kx) kx
 | .tget j e d,s,k,kx=>evT true e s (fun x s=>evT false d s (fun z s=>match Γ.tb[j]?,x with | some t,.str y=>k (((ß y t).map toD).getD z) s | _,_=>.bad) kx) kx
 | .newd j es,s,k,kx=>cM false es s (fun l s=>.opt ((Γ.cl[j]?).bind fun k=>if k.what=1∧l.length=k.at_.length then some (D.ins j l) else none) fun d=>k d s) kx
 | .fld a f,s,k,kx=>evT true a s (fun x s=>.opt (oX Γ s.st x f) fun d=>k d s) kx
 | .tup es,s,k,kx=>cM false es s (fun l s=>if l.length≤100000 then k (.tup l) s else .bad) kx
 | .lst es,s,k,kx=>cM false es s (fun l s=>if l.length≤100000 then k (.lst l) s else .bad) kx
 | .newl es,s,k,kx=>cM false es s (fun l s=>if l.length≤100000 then k (.ref s.st.length) ⟨s.env,s.ow,s.st ++ [.lst l]⟩ else .bad) kx
 | .keep kp a,s,k,kx=>evT false a (hid (kp.filter s.ow.contains) s) (fun d s'=>k d ⟨s.env,s'.ow ++ kp.filter s.ow.contains,s'.st⟩) (fun _ _ _=>.bad)
 | .sto a,s,k,kx=>evT false a s (fun x s=>match x with | .lst l=>k (.ref s.st.length) ⟨s.env,s.ow,s.st ++ [.lst l]⟩ | _=>.bad) kx
 | .call j es,s,k,kx=>cM true es s (fun l s=>.call j l s.st fun r=>match r with | .ok d st=>mO es s d st k | .exc c l st=>kx c l (drp es s st) | .bad=>.bad) kx
 | .hcall j es,s,k,kx=>cM false es s (fun l s=>.test (az l) fun t=>if t then .call j l [] fun r=>(match r with
  | .ok d st=>.test (noR d) fun t=>if t then k d s else k (shD s.st.length d) ⟨s.env,s.ow,s.st ++ st.map (shO s.st.length)⟩
  | .exc c l _=>.test (az l) fun t=>if t then kx c l s else .bad
  | .bad=>.bad) else .bad) kx
 | .fcall own j es,s,k,kx=>cM false es s (fun l s=>.test (az l) fun t=>if t then .call j l [] fun r=>(match r with
  | .ok d st=>.test (own && !jB d) fun t=>if t then .bad else .opt (ng st d) fun d=>k d s
  | .exc c l _=>.test (az l) fun t=>if t then kx c l s else .bad
  | .bad=>.bad) else .bad) kx
 | .mth c j a es,s,k,kx=>evT true a s (fun x s=>match x with
   | .ref p=>.test (pE s.st p c) fun t=>if t then cM true es s (fun l s=>.call j (.ref p :: l) s.st fun r=>match r with | .ok d st=>mO es s d st k | .exc c l st=>kx c l (drp es s st) | .bad=>.bad) kx else .bad
   | _=>.bad) kx
 | .bi b es,s,k,kx=>cM true es s (fun l s=>.opt (biD b (l.map (look s.st))) fun d=>k d s) kx
 | .tab j e,s,k,kx=>evT true e s (fun x s=>match Γ.tb[j]?,x with | some t,.str y=>.opt ((ß y t).map toD) fun d=>k d s | _,_=>.bad) kx
 | .tabin j e,s,k,kx=>evT true e s (fun x s=>match Γ.tb[j]?,x with | some t,.str y=>k (.bl (ß y t).isSome) s | _,_=>.bad) kx
 | .lc t one it elt cond,s,k,kx=>evT false it s (fun x s=>match x with
   | .lst ds=>if lp then .sub ((aQ (fun d s'=>(match aH t one d s'.env with
    | some env=>(noX (ev Γ cal cal1 true cond ⟨env,[],s'.st⟩)).bind fun b s2=>(match b with
      | .bl true=>(noX (ev Γ cal cal1 false elt s2)).bind fun e s3=>.ok (some e) ⟨s3.env,[],s3.st⟩
      | .bl false=>.ok none ⟨s2.env,[],s2.st⟩
      | _=>.bad)
    | none=>.bad)) ds [] ⟨Δ t.length none ++ s.env,[],s.st⟩)) (fun d s'=>k d ⟨s.env,[],s'.st⟩)
     else lcT (fun d s' k'=>match aH t one d s'.env with
      | some env=>evT true cond ⟨env,[],s'.st⟩ (fun b s2=>match b with
        | .bl t=>.test t fun t=>if t then evT false elt s2 (fun e s3=>k' (some e) ⟨s3.env,[],s3.st⟩) (fun _ _ _=>.bad) else k' none ⟨s2.env,[],s2.st⟩
        | _=>.bad) (fun _ _ _=>.bad)
      | none=>.bad) ds [] ⟨Δ t.length none ++ s.env,[],s.st⟩ (fun d s'=>k d ⟨s.env,[],s'.st⟩)
   | _=>.bad) kx
 | .tand a b,s,k,kx=>evT true a s (fun x s=>match x with | .bl t=>.test t fun t=>if t then evT true b s k kx else k (.bl false) s | _=>.bad) kx
 | .tor a b,s,k,kx=>evT true a s (fun x s=>match x with | .bl t=>.test t fun t=>if t then k (.bl true) s else evT true b s k kx | _=>.bad) kx
 | .tnot a,s,k,kx=>evT true a s (fun x s=>match x with | .bl b=>k (.bl (!b)) s | _=>.bad) kx
 | .tv a,s,k,kx=>evT true a s (fun x s=>.opt ((tP (look s.st x)).map .bl) fun d=>k d s) kx
 | .it b es,s,k,kx=>cM false es s (fun l s=>.opt ((itD b l).map .lst) fun d=>k d s) kx
 | .itv a,s,k,kx=>evT false a s (fun x s=>match qY x with | some l=>k (.lst l) s | none=>.bad) kx
 | .dic es,s,k,kx=>cM false es s (fun l s=>.opt ((oM l).map fun p=>.dic p.1 p.2) fun d=>k d s) kx
 | .get a b c,s,k,kx=>evT true a s (fun x s=>.test (isDic (look s.st x)) fun t=>if t then evT true b s (fun y s=>evT false c s (fun z s=>.opt (vx (look s.st x) y z) fun d=>k d s) kx) kx else .bad) kx
 | .index a b,s,k,kx=>evT true a s (fun x s=>.test (r6 x) fun t=>if t then evT true b s (fun y s=>.opt (vz x y) fun d=>k d s) kx else .bad) kx
 | .join x a,s,k,kx=>evT true a s (fun y s=>.opt (uA x (look s.st y)) fun d=>k d s) kx
 | .fmt x a y,s,k,kx=>evT true a s (fun v s=>.opt (yb x v y) fun d=>k d s) kx
 | .dicc ks es,s,k,kx=>cM false es s (fun l s=>.opt (uk ks l) fun d=>k d s) kx
 | .isX a js,s,k,kx=>evT true a s (fun x s=>.opt (yk Γ x js) fun d=>k d s) kx
 | .new j es,s,k,kx=>cM true es s (fun l s=>(match Γ.cl[j]? with
   | some q=>if q.what=1 then (if l.length=q.at_.length then k (.ins j l) (drp es s s.st) else .bad) else if q.what=0 then .call1 q.init (.ref s.st.length :: l) (s.st ++ [.ins j []]) fun r=>(match r with
    | .ok .non st=>k (.ref s.st.length) (aft es s .non st)
    | _=>.bad)
     else .bad
   | none=>.bad)) kx
 | _,_,_,_=>.bad
noncomputable def cM (br:Bool):E→Sta→(List D→Sta→IT)→(Nat→List D→Sta→IT)→IT
 | .nil,s,k,kx=>k [] s
 | .cons a r,s,k,kx=>evT br a s (fun x s=>cM br r s (fun l s=>k (x :: l) s) kx) kx
 | _,_,_,_=>.bad
end
def exT:S→Sta→(Sta→IT)→(D→Sta→IT)→(Nat→List D→Sta→IT)→IT
 | .skip,s,kn,kr,kx=>kn s
 | .seq a b,s,kn,kr,kx=>exT a s (fun s=>exT b s kn kr kx) kr kx
 | .set i e,s,kn,kr,kx=>evT Γ cal cal1 lp false e s (fun d s=>kn (kU s i d (aS e))) kx
 | .setT l e,s,kn,kr,kx=>evT Γ cal cal1 lp false e s (fun d s=>match aH l false d s.env with | some env=>kn ⟨env,s.ow.filter fun i=>!l.contains i,s.st⟩ | none=>.bad) kx
 | .setR i es,s,kn,kr,kx=>cM Γ cal cal1 lp false es s (fun l s=>if l.length≤100000 then kn ⟨s.env.set i (some (.ref s.st.length)),s.ow.filter (· != i),s.st ++ [.lst l]⟩ else .bad) kx
 | .ret e,s,kn,kr,kx=>evT Γ cal cal1 lp false e s kr kx
 | .ifs c a b,s,kn,kr,kx=>evT Γ cal cal1 lp true c s (fun x s=>match x with | .bl t=>.test t fun t=>if t then exT a s kn kr kx else exT b s kn kr kx | _=>.bad) kx
 | .drop e,s,kn,kr,kx=>evT Γ cal cal1 lp false e s (fun _ s=>kn s) kx
 | .app i e,s,kn,kr,kx=>if s.ow.contains i && isLst s.env[i]? then evT Γ cal cal1 lp false e s (fun d s=>if s.ow.contains i then (match s.env[i]? with
  | some (some (.lst l))=>.test (decide (l.length<100000)) fun t=>if t then kn ⟨s.env.set i (some (.lst (l ++ [d]))),s.ow,s.st⟩ else .bad
  | _=>.bad) else .bad) kx else .bad
 | .ext i e,s,kn,kr,kx=>if s.ow.contains i && isLst s.env[i]? then evT Γ cal cal1 lp false e s (fun d s=>if s.ow.contains i then (match s.env[i]?,d with
  | some (some (.lst l)),.lst x=>.test (decide (l.length+x.length≤100000)) fun t=>if t then kn ⟨s.env.set i (some (.lst (l ++ x))),s.ow,s.st⟩ else .bad
  | _,_=>.bad) else .bad) kx else .bad
 | .put (.v i) b e,s,kn,kr,kx=>evT Γ cal cal1 lp false e s (fun d s=>(match s.env[i]? with
  | some (some x)=>evT Γ cal cal1 lp true b s (fun y s=>(match x with
    | .ref n=>(match (s.st[n]?).bind fun o=>dX o y d with | some o=>kn ⟨s.env,s.ow,s.st.set n o⟩ | none=>.bad)
    | x=>if s.ow.contains i then .opt (iY x y d) fun y=>kn ⟨s.env.set i (some y),s.ow,s.st⟩ else .bad)) kx
  | _=>.bad)) kx
 | .rais j es,s,kn,kr,kx=>cM Γ cal cal1 lp false es s (fun l s=>.test (eM Γ j l) fun t=>if t then kx j (mZ Γ j l) s else .bad) kx
 | .try_ a hs,s,kn,kr,kx=>exT a s kn kr (fun c l s'=>hndT hs c l s' kn kr kx)
 | .for_ t one it b,s,kn,kr,kx=>evT Γ cal cal1 lp false it s (fun x s=>(match x with
  | .lst ds=>if lp then .subS (aO (fun d s=>match aH t one d s.env with | some env=>exS Γ cal cal1 b ⟨env,s.ow.filter fun i=>!t.contains i,s.st⟩ | none=>.bad) ds s) (fun o=>match o with | .nx s=>kn s | .rt d s=>kr d s | .exc c l s=>kx c l s | .bad=>.bad)
    else vt (fun d s k=>match aH t one d s.env with | some env=>exT b ⟨env,s.ow.filter fun i=>!t.contains i,s.st⟩ k kr kx | none=>.bad) ds s kn
  | _=>.bad)) kx
 | c,s,kn,kr,kx=>.subS (exS Γ cal cal1 c s) (fun o=>match o with | .nx s=>kn s | .rt d s=>kr d s | .exc c l s=>kx c l s | .bad=>.bad)
where hndT:S→Nat→List D→Sta→(Sta→IT)→(D→Sta→IT)→(Nat→List D→Sta→IT)→IT
 | .hand j (some i) b r,c,l,s,kn,kr,kx=>(match cJ Γ j c with
  | some true=>exT b ⟨s.env.set i (some (.ins c l)),s.ow.filter (· != i),s.st⟩ (fun s=>kn ⟨s.env.set i none,s.ow.filter (· != i),s.st⟩) kr (fun _ _ _=>.bad)
  | some false=>hndT r c l s kn kr kx
  | none=>.bad)
 | .hand j none b r,c,l,s,kn,kr,kx=>(match cJ Γ j c with
  | some true=>exT b s kn kr (fun _ _ _=>.bad)
  | some false=>hndT r c l s kn kr kx
  | none=>.bad)
 | .skip,c,l,s,kn,kr,kx=>kx c l s
 | _,_,_,_,_,_,_=>.bad
def aa:IT→ak
 | .fin o=>o
 | .call j ds st k=>aa (k (cal j ds st))
 | .call1 j ds st k=>aa (k (cal1 j ds st))
 | .test b k=>aa (k b)
 | .opt o k=>(match o with | some d=>aa (k d) | none=>.bad)
 | .sub o k=>(match o with | .ok d s=>aa (k d s) | _=>.bad)
 | .subS o k=>aa (k o)
end
def oc {α:Type} (x:Out α) (k:α→Sta→ak) (kx:Nat→List D→Sta→ak):ak:=match x with
 | .ok a s=>k a s
 | .exc c l s=>kx c l s
 | .bad=>.bad
theorem aY :oc (x.bind f) k kx=oc x (fun a s=>oc (f a s) k kx) kx:=by cases x <;> rfl
theorem bZ (h:∀ a s,k a s=k' a s):oc x k kx=oc x k' kx:=by cases x <;> first | exact h _ _ | rfl
theorem af (h:∀ a s,g a s=oc (f a s) k kx):oc x g kx=oc (x.bind f) k kx:=by
 rw [aY];exact bZ h
section
variable {Γ:Gm} {cal cal1:Nat→List D→List O→Res} {lp:Bool}
theorem bc {k:D→Sta→IT} :aa cal cal1 (.opt o fun d=>k d s)=oc (.of s o) (fun d s=>aa cal cal1 (k d s)) kx:=by cases o <;> rfl
theorem pA [Decidable p] {k:D→Sta→IT} {kx:Nat→List D→Sta→ak}:aa cal cal1 (if p then k d s else .bad)=oc (if p then .ok d s else .bad) (fun d s=>aa cal cal1 (k d s)) kx:=by split <;> rfl
theorem yg {st:List O} {k:D→Sta→IT}:aa cal cal1 (mO es s d st k)=aa cal cal1 (k d (aft es s d st)):=by unfold mO;split <;> rfl
theorem uy {k:D→Sta→IT} {kx:Nat→List D→Sta→IT}:aa cal cal1 (.call j l s.st fun r=>match r with | .ok d st=>mO es s d st k | .exc c l st=>kx c l (drp es s st) | .bad=>.bad)=oc (gx cal es j l s) (fun d s=>aa cal cal1 (k d s)) (fun c l s=>aa cal cal1 (kx c l s)):=by
 show aa cal cal1 (match cal j l s.st with | .ok d st=>mO es s d st k | .exc c l st=>kx c l (drp es s st) | .bad=>.bad)=_
 unfold gx
 cases cal j l s.st <;> first | exact yg | rfl
theorem kG (h:∀ d s k,aa cal cal1 (g d s k)=oc (f d s) (fun o s=>aa cal cal1 (k o s)) (fun _ _ _=>.bad)):∀ (ds acc) (s) (k:D→Sta→IT),aa cal cal1 (lcT g ds acc s k)=oc (aQ f ds acc s) (fun d s=>aa cal cal1 (k d s)) (fun _ _ _=>.bad)
 | [],acc,s,k=>rfl
 | d :: r,acc,s,k=>by
   show aa cal cal1 (g d s _)=oc ((f d s).bind _) _ _
   rw [h,aY]
   refine bZ fun o s'=>?_
   cases o with
   | none=>exact kG h r acc s' k
   | some e=>
     dsimp only
     show aa cal cal1 (if decide (acc.length<100000)=true then lcT g r (acc ++ [e]) s' k else .bad)=_
     by_cases c:acc.length<100000
     ·rw [ZZ (ZW c),ZZ c];exact kG h r (acc ++ [e]) s' k
     ·rw [ZY (by simpa using c),ZY c];rfl
def nox:Out α→Prop
 | .exc _ _ _=>False
 | _=>True
theorem dQ (h:∀ d s,nox (f d s)):∀ (ds acc) (s),nox (aQ f ds acc s)
 | [],_,_=>trivial
 | d :: r,acc,s=>by
   have:=h d s
   show nox ((f d s).bind _)
   cases q:f d s with
   | bad=>trivial
   | exc c l s'=>rw [q] at this;exact this.elim
   | ok o s'=>
     cases o with
     | none=>exact dQ h r acc s'
     | some e=>
       show nox (if acc.length<100000 then aQ f r (acc ++ [e]) s' else .bad)
       split
       ·exact dQ h r _ s'
       ·trivial
theorem wI (h:nox x):oc x k kx=oc x k kx':=by
 cases x with
 | exc c l s=>exact h.elim
 | _=>rfl
theorem qw :oc x k (fun _ _ _=>.bad)=oc (noX x) k (fun _ _ _=>.bad):=by cases x <;> rfl
theorem yi (n:nox x):aa cal cal1 (.sub x k)=oc x (fun d s=>aa cal cal1 (k d s)) kx:=by
 cases x with
 | exc c l s=>exact n.elim
 | _=>rfl
theorem x9 :evT Γ cal cal1 lp br (.v i) s k kx=(match s.env[i]? with | some (some d)=>k d (if br then s else un s i) | _=>.bad):=rfl
theorem xZ :evT Γ cal cal1 lp br (.g j) s k kx=(match Γ.gl[j]?.map toD with | some d=>k d s | none=>.bad):=rfl
theorem zR :ev Γ cal cal1 br (.g j) s = .of s (Γ.gl[j]?.map toD):=rfl
theorem bB:∀ e:E,(∀ br s k kx,aa cal cal1 (evT Γ cal cal1 lp br e s k kx)=oc (ev Γ cal cal1 br e s) (fun d s=>aa cal cal1 (k d s)) (fun c l s=>aa cal cal1 (kx c l s))) ∧
 (∀ br s k kx,aa cal cal1 (cM Γ cal cal1 lp br e s k kx)=oc (evs Γ cal cal1 br e s) (fun d s=>aa cal cal1 (k d s)) (fun c l s=>aa cal cal1 (kx c l s))):=by
 intro e
 induction e with
 | v i=>
   refine ⟨fun br s k kx=>?_,fun br s k kx=>rfl⟩
   rw [x9,zS]
   cases s.env[i]? with
   | none=>rfl
   | some o=>cases o <;> rfl
 | c d=>exact ⟨fun br s k kx=>rfl,fun br s k kx=>rfl⟩
 | g j=>
   refine ⟨fun br s k kx=>?_,fun br s k kx=>rfl⟩
   rw [xZ,zR]
   cases Γ.gl[j]?.map toD <;> rfl
 | op o a b iha ihb=>exact ⟨fun br s k kx=>(iha.1 _ _ _ _).trans (af fun x s=>(ihb.1 _ _ _ _).trans (af fun y s=>bc)),fun br s k kx=>rfl⟩
 | isN a ih=>exact ⟨fun br s k kx=>(ih.1 _ _ _ _).trans (af fun x s=>rfl),fun br s k kx=>rfl⟩
 | isNN a ih=>exact ⟨fun br s k kx=>(ih.1 _ _ _ _).trans (af fun x s=>rfl),fun br s k kx=>rfl⟩
 | neg a ih=>exact ⟨fun br s k kx=>(ih.1 _ _ _ _).trans (af fun x s=>by cases x <;> rfl),fun br s k kx=>rfl⟩
 | not a ih=>exact ⟨fun br s k kx=>(ih.1 _ _ _ _).trans (af fun x s=>by cases x <;> rfl),fun br s k kx=>rfl⟩
 | and a b iha ihb=>exact ⟨fun br s k kx=>(iha.1 _ _ _ _).trans (af fun x s=>by
  cases x with
  | bl t=>cases t with
    | true=>exact ihb.1 _ _ _ _
    | false=>rfl
  | _=>rfl),fun br s k kx=>rfl⟩
 | or a b iha ihb=>exact ⟨fun br s k kx=>(iha.1 _ _ _ _).trans (af fun x s=>by
  cases x with
  | bl t=>cases t with
    | false=>exact ihb.1 _ _ _ _
    | true=>rfl
  | _=>rfl),fun br s k kx=>rfl⟩
 | ite c a b ihc iha ihb=>exact ⟨fun br s k kx=>(ihc.1 _ _ _ _).trans (af fun x s=>by
  cases x with
  | bl t=>cases t with
    | true=>exact iha.1 _ _ _ _
    | false=>exact ihb.1 _ _ _ _
  | _=>rfl),fun br s k kx=>rfl⟩
 | chain o p a b c iha ihb ihc=>exact ⟨fun br s k kx=>(iha.1 _ _ _ _).trans (af fun x s=>(ihb.1 _ _ _ _).trans (af fun y s=>by
  show aa cal cal1 (.opt (opD o (look s.st x) (look s.st y)) _)=_
  cases opD o (look s.st x) (look s.st y) with
  | none=>rfl
  | some d=>cases d with
    | bl t=>cases t with
      | true=>exact (ihc.1 _ _ _ _).trans (af fun z s=>bc)
      | false=>rfl
    | _=>rfl)),fun br s k kx=>rfl⟩
 | ix a b iha ihb=>exact ⟨fun br s k kx=>(iha.1 _ _ _ _).trans (af fun x s=>(ihb.1 _ _ _ _).trans (af fun y s=>bc)),fun br s k kx=>rfl⟩
 | sl a lo hi iha ihl ihh=>
   refine ⟨fun br s k kx=>(iha.1 _ _ _ _).trans (af fun x s=>?_),fun br s k kx=>rfl⟩
   have k3:∀ l s,aa cal cal1 (if bj hi then .opt (slO (look s.st x) l none) fun d=>k d s else evT Γ cal cal1 lp true hi s (fun z s=>match z with | .int h=>.opt (slO (look s.st x) l (some h)) fun d=>k d s | _=>.bad) kx)=oc ((if bj hi then .ok none s else (ev Γ cal cal1 true hi s).bind toI).bind fun h s=>.of s (slO (look s.st x) l h)) (fun d s=>aa cal cal1 (k d s)) (fun c l s=>aa cal cal1 (kx c l s)):=fun l s=>by
    by_cases c:bj hi=true
    ·rw [ZZ c,ZZ c];exact bc
    ·rw [ZY c,ZY c,ihh.1,aY,aY]
     exact bZ fun z s=>by cases z <;> first | exact bc | rfl
   by_cases c:bj lo=true
   ·dsimp only
    rw [ZZ c,ZZ c];exact k3 none s
   ·dsimp only
    rw [ZY c,ZY c,ihl.1,aY,aY]
    exact bZ fun z s=>by cases z <;> first | exact k3 _ s | rfl
 | sl3 a lo hi iha ihl ihh=>
   refine ⟨fun br s k kx=>(iha.1 _ _ _ _).trans (af fun x s=>?_),fun br s k kx=>rfl⟩
   have k3:∀ l s,aa cal cal1 (if bj hi then .opt (nV (look s.st x) l none) fun d=>k d s else evT Γ cal cal1 lp true hi s (fun z s=>match z with | .int h=>.opt (nV (look s.st x) l (some h)) fun d=>k d s | _=>.bad) kx)=oc ((if bj hi then .ok none s else (ev Γ cal cal1 true hi s).bind toI).bind fun h s=>.of s (nV (look s.st x) l h)) (fun d s=>aa cal cal1 (k d s)) (fun c l s=>aa cal cal1 (kx c l s)):=fun l s=>by
    by_cases c:bj hi=true
    ·rw [ZZ c,ZZ c];exact bc
    ·rw [ZY c,ZY c,ihh.1,aY,aY]
     exact bZ fun z s=>by cases z <;> first | exact bc | rfl
   by_cases c:bj lo=true
   ·dsimp only
    rw [ZZ c,ZZ c];exact k3 none s
   ·dsimp only
    rw [ZY c,ZY c,ihl.1,aY,aY]
    exact bZ fun z s=>by cases z <;> first | exact k3 _ s | rfl
 | tget j a b iha ihb=>exact ⟨fun br s k kx=>(iha.1 _ _ _ _).trans (af fun x s=>(ihb.1 _ _ _ _).trans (af fun y s=>by cases Γ.tb[j]? <;> cases x <;> rfl)),fun br s k kx=>rfl⟩
 | newd j es ih=>exact ⟨fun br s k kx=>(ih.2 _ _ _ _).trans (af fun l s=>bc),fun br s k kx=>rfl⟩
 | fld a f ih=>exact ⟨fun br s k kx=>(ih.1 _ _ _ _).trans (af fun x s=>bc),fun br s k kx=>rfl⟩
 | tup es ih=>exact ⟨fun br s k kx=>(ih.2 _ _ _ _).trans (af fun l s=>pA),fun br s k kx=>rfl⟩
 | lst es ih=>exact ⟨fun br s k kx=>(ih.2 _ _ _ _).trans (af fun l s=>pA),fun br s k kx=>rfl⟩
 | newl es ih=>exact ⟨fun br s k kx=>(ih.2 _ _ _ _).trans (af fun l s=>by by_cases c:l.length≤100000 <;> simp only [c,if_true,if_false] <;> rfl),fun br s k kx=>rfl⟩
 | nil=>exact ⟨fun br s k kx=>rfl,fun br s k kx=>rfl⟩
 | cons a r iha ihr=>exact ⟨fun br s k kx=>rfl,fun br s k kx=>(iha.1 _ _ _ _).trans (af fun x s=>(ihr.2 _ _ _ _).trans (af fun l s=>rfl))⟩
 | call j es ih=>exact ⟨fun br s k kx=>(ih.2 _ _ _ _).trans (af fun l s=>uy),fun br s k kx=>rfl⟩
 | hcall j es ih=>exact ⟨fun br s k kx=>(ih.2 _ _ _ _).trans (af fun l s=>by
  show aa cal cal1 (if az l=true then _ else .bad)=oc (rV cal j l s) _ _
  unfold rV
  split
  ·show aa cal cal1 (match cal j l [] with | .ok d _=>_ | .exc c l _=>_ | .bad=>_)=_
   cases cal j l [] with
   | ok d st=>show aa cal cal1 (if noR d=true then _ else _)=_;dsimp only;split <;> rfl
   | exc c l st=>show aa cal cal1 (if az l=true then _ else .bad)=_;dsimp only;split <;> rfl
   | bad=>rfl
  ·rfl),fun br s k kx=>rfl⟩
 | fcall own j es ih=>exact ⟨fun br s k kx=>(ih.2 _ _ _ _).trans (af fun l s=>by
  show aa cal cal1 (if az l=true then _ else .bad)=oc (rP cal own j l s) _ _
  unfold rP
  split
  ·show aa cal cal1 (match cal j l [] with | .ok d _=>_ | .exc c l _=>_ | .bad=>_)=_
   cases cal j l [] with
   | ok d st=>
     show aa cal cal1 (if (own && !jB d)=true then _ else _)=_;dsimp only;split
     ·rfl
     ·exact bc
   | exc c l st=>show aa cal cal1 (if az l=true then _ else .bad)=_;dsimp only;split <;> rfl
   | bad=>rfl
  ·rfl),fun br s k kx=>rfl⟩
 | mth c j a es iha ih=>exact ⟨fun br s k kx=>(iha.1 _ _ _ _).trans (af fun x s=>by
  cases x with
  | ref p=>
    show aa cal cal1 (if pE s.st p c=true then _ else .bad)=_
    unfold pE
    dsimp only
    cases s.st[p]? with
    | none=>rfl
    | some o=>cases o with
      | ins c' l'=>
        dsimp only
        by_cases e:c'=c
        ·rw [ZZ (by simpa using e),ZZ e]
         exact (ih.2 _ _ _ _).trans (af fun l s=>uy)
        ·rw [ZY (by simpa using e),ZY e];rfl
      | _=>rfl
  | _=>rfl),fun br s k kx=>rfl⟩
 | bi b es ih=>exact ⟨fun br s k kx=>(ih.2 _ _ _ _).trans (af fun l s=>bc),fun br s k kx=>rfl⟩
 | tab j a ih=>exact ⟨fun br s k kx=>(ih.1 _ _ _ _).trans (af fun x s=>by cases Γ.tb[j]? <;> cases x <;> first | exact bc | rfl),fun br s k kx=>rfl⟩
 | tabin j a ih=>exact ⟨fun br s k kx=>(ih.1 _ _ _ _).trans (af fun x s=>by cases Γ.tb[j]? <;> cases x <;> rfl),fun br s k kx=>rfl⟩
 | tand a b iha ihb=>exact ⟨fun br s k kx=>(iha.1 _ _ _ _).trans (af fun x s=>by
  cases x with
  | bl t=>cases t with
    | true=>exact ihb.1 _ _ _ _
    | false=>rfl
  | _=>rfl),fun br s k kx=>rfl⟩
 | tor a b iha ihb=>exact ⟨fun br s k kx=>(iha.1 _ _ _ _).trans (af fun x s=>by
  cases x with
  | bl t=>cases t with
    | false=>exact ihb.1 _ _ _ _
    | true=>rfl
  | _=>rfl),fun br s k kx=>rfl⟩
 | tnot a ih=>exact ⟨fun br s k kx=>(ih.1 _ _ _ _).trans (af fun x s=>by cases x <;> rfl),fun br s k kx=>rfl⟩
 | tv a ih=>exact ⟨fun br s k kx=>(ih.1 _ _ _ _).trans (af fun x s=>bc),fun br s k kx=>rfl⟩
 | it b es ih=>exact ⟨fun br s k kx=>(ih.2 _ _ _ _).trans (af fun l s=>bc),fun br s k kx=>rfl⟩
 | itv a ih=>exact ⟨fun br s k kx=>(ih.1 _ _ _ _).trans (af fun x s=>by cases qY x <;> rfl),fun br s k kx=>rfl⟩
 | dic es ih=>exact ⟨fun br s k kx=>(ih.2 _ _ _ _).trans (af fun l s=>bc),fun br s k kx=>rfl⟩
 | get a b c iha ihb ihc=>exact ⟨fun br s k kx=>(iha.1 _ _ _ _).trans (af fun x s=>by
  show aa cal cal1 (if isDic (look s.st x)=true then _ else .bad)=_
  split
  ·refine (ihb.1 _ _ _ _).trans (af fun y s=>(ihc.1 _ _ _ _).trans (af fun z s=>?_))
   show aa cal cal1 (.opt (vx (look s.st x) y z) _)=_
   unfold vx
   cases look s.st x <;> cases bv y <;> rfl
  ·rfl),fun br s k kx=>rfl⟩
 | index a b iha ihb=>exact ⟨fun br s k kx=>(iha.1 _ _ _ _).trans (af fun x s=>by
  show aa cal cal1 (if r6 x=true then _ else _)=oc (if r6 x=true then _ else _) _ _
  split
  ·exact (ihb.1 _ _ _ _).trans (af fun y s=>bc)
  ·rfl),fun br s k kx=>rfl⟩
 | join x a ih=>exact ⟨fun br s k kx=>(ih.1 _ _ _ _).trans (af fun y s=>bc),fun br s k kx=>rfl⟩
 | fmt x a y ih=>exact ⟨fun br s k kx=>(ih.1 _ _ _ _).trans (af fun v s=>bc),fun br s k kx=>rfl⟩
 | dicc ks es ih=>exact ⟨fun br s k kx=>(ih.2 _ _ _ _).trans (af fun l s=>bc),fun br s k kx=>rfl⟩
 | keep kp a ih=>exact ⟨fun br s k kx=>(ih.1 _ _ _ _).trans (by show oc (ev Γ cal cal1 false a _) _ _=oc ((noX (ev Γ cal cal1 false a _)).bind _) _ _;cases ev Γ cal cal1 false a (hid (kp.filter s.ow.contains) s) <;> rfl),fun br s k kx=>rfl⟩
 | sto a ih=>exact ⟨fun br s k kx=>(ih.1 _ _ _ _).trans (af fun x s=>by cases x <;> rfl),fun br s k kx=>rfl⟩
 | isX a js ih=>exact ⟨fun br s k kx=>(ih.1 _ _ _ _).trans (af fun x s=>bc),fun br s k kx=>rfl⟩
 | lc t one it elt cond ihi ihe ihc=>
   refine ⟨fun br s k kx=>(ihi.1 _ _ _ _).trans (af fun x s=>?_),fun br s k kx=>rfl⟩
   cases x with
   | lst ds=>
     dsimp only
     have nx:∀ (d:D) (s':Sta),nox (match aH t one d s'.env with
      | some env=>(noX (ev Γ cal cal1 true cond ⟨env,[],s'.st⟩)).bind fun b s2=>(match b with
        | .bl true=>(noX (ev Γ cal cal1 false elt s2)).bind fun e s3=>.ok (some e) ⟨s3.env,[],s3.st⟩
        | .bl false=>.ok none ⟨s2.env,[],s2.st⟩
        | _=>.bad)
      | none=>Out.bad):=fun d s'=>by
      cases aH t one d s'.env with
      | none=>trivial
      | some env=>
        dsimp only
        cases ev Γ cal cal1 true cond ⟨env,[],s'.st⟩ with
        | ok b s2=>cases b with
          | bl b=>cases b with
            | true=>
              show nox ((noX (ev Γ cal cal1 false elt s2)).bind _)
              cases ev Γ cal cal1 false elt s2 <;> trivial
            | false=>trivial
          | _=>trivial
        | _=>trivial
     cases lp with
     | true=>
       rw [ZZ rfl,aY]
       have n2:=dQ nx ds [] ⟨Δ t.length none ++ s.env,[],s.st⟩
       exact yi n2
     | false=>
       rw [ZY ϛ,aY]
       refine (kG (f:=fun d s'=>(match aH t one d s'.env with
        | some env=>(noX (ev Γ cal cal1 true cond ⟨env,[],s'.st⟩)).bind fun b s2=>(match b with
          | .bl true=>(noX (ev Γ cal cal1 false elt s2)).bind fun e s3=>.ok (some e) ⟨s3.env,[],s3.st⟩
          | .bl false=>.ok none ⟨s2.env,[],s2.st⟩
          | _=>.bad)
        | none=>.bad)) (fun d s' k'=>?_) ds [] _ _).trans ?_
       ·cases aH t one d s'.env with
        | none=>rfl
        | some env=>
          dsimp only
          refine (ihc.1 _ _ _ _).trans ?_
          show oc (ev Γ cal cal1 true cond ⟨env,[],s'.st⟩) _ (fun _ _ _=>.bad)=_
          rw [qw]
          refine af fun b s2=>?_
          cases b with
          | bl b=>cases b with
            | true=>
              refine (ihe.1 _ _ _ _).trans ?_
              show oc (ev Γ cal cal1 false elt s2) _ (fun _ _ _=>.bad)=_
              rw [qw]
              exact af fun e s3=>rfl
            | false=>rfl
          | _=>rfl
       ·exact wI (dQ nx ds [] _)
   | _=>rfl
 | new j es ih=>exact ⟨fun br s k kx=>(ih.2 _ _ _ _).trans (af fun l s=>by
  cases Γ.cl[j]? with
  | none=>rfl
  | some q=>
    dsimp only
    by_cases c1:q.what=1
    ·rw [ZZ c1,ZZ c1];exact pA
    ·rw [ZY c1,ZY c1]
     by_cases c0:q.what=0
     ·rw [ZZ c0,ZZ c0]
      show aa cal cal1 (match cal1 q.init (.ref s.st.length :: l) (s.st ++ [.ins j []]) with | .ok .non st=>k (.ref s.st.length) (aft es s .non st) | _=>.bad)=_
      cases cal1 q.init (.ref s.st.length :: l) (s.st ++ [.ins j []]) with
      | ok d st=>cases d <;> rfl
      | _=>rfl
     ·rw [ZY c0,ZY c0];rfl),fun br s k kx=>rfl⟩
end
def sc (x:ak) (kn:Sta→ak) (kr:D→Sta→ak) (kx:Nat→List D→Sta→ak):ak:=match x with
 | .nx s=>kn s
 | .rt d s=>kr d s
 | .exc c l s=>kx c l s
 | .bad=>.bad
theorem yP :sc (x.go f) kn kr kx=oc x (fun a s=>sc (f a s) kn kr kx) kx:=by cases x <;> rfl
theorem a9 (h:∀ a s,g a s=sc (f a s) kn kr kx):oc x g kx=sc (x.go f) kn kr kx:=by
 rw [yP];exact bZ h
theorem qO :sc (x.go f) kn kr kx=sc x (fun s=>sc (f s) kn kr kx) kr kx:=by cases x <;> rfl
theorem jV (h:∀ s,kn s=kn' s) (h2:∀ c l s,kx c l s=kx' c l s):sc x kn kr kx=sc x kn' kr kx':=by cases x <;> first | exact h _ | exact h2 _ _ _ | rfl
section
variable {Γ:Gm} {cal cal1:Nat→List D→List O→Res} {lp:Bool}
theorem lB (h:∀ d s k,aa cal cal1 (g d s k)=sc (f d s) (fun s=>aa cal cal1 (k s)) kr kx):∀ (ds) (s) (k:Sta→IT),aa cal cal1 (vt g ds s k)=sc (aO f ds s) (fun s=>aa cal cal1 (k s)) kr kx
 | [],s,k=>rfl
 | d :: r,s,k=>by
   show aa cal cal1 (g d s _)=sc ((f d s).go _) _ _ _
   rw [h,qO]
   exact jV (fun s=>lB h r s k) fun _ _ _=>rfl
theorem dG {kn:Sta→IT} {kr:D→Sta→IT} {kx:Nat→List D→Sta→IT}:aa cal cal1 (.subS x (fun o=>match o with | .nx s=>kn s | .rt d s=>kr d s | .exc c l s=>kx c l s | .bad=>.bad))=sc x (fun s=>aa cal cal1 (kn s)) (fun d s=>aa cal cal1 (kr d s)) (fun c l s=>aa cal cal1 (kx c l s)):=by cases x <;> rfl
theorem yh {g:D→Sta} {kn:Sta→IT} {kr:D→Sta→ak} {kx:Nat→List D→Sta→ak}:aa cal cal1 (.opt o fun y=>kn (g y))=sc (match o with | some y=>.nx (g y) | none=>.bad) (fun s=>aa cal cal1 (kn s)) kr kx:=by cases o <;> rfl
theorem rN :exT Γ cal cal1 lp (.app i e) s kn kr kx=(if s.ow.contains i && isLst s.env[i]? then evT Γ cal cal1 lp false e s (fun d s=>if s.ow.contains i then (match s.env[i]? with
 | some (some (.lst l))=>.test (decide (l.length<100000)) fun t=>if t then kn ⟨s.env.set i (some (.lst (l ++ [d]))),s.ow,s.st⟩ else .bad
 | _=>.bad) else .bad) kx else .bad):=rfl
theorem rL :exS Γ cal cal1 (.app i e) s=(if s.ow.contains i && isLst s.env[i]? then (ev Γ cal cal1 false e s).go fun d s=>if s.ow.contains i then (match s.env[i]? with
 | some (some (.lst l))=>if l.length<100000 then .nx ⟨s.env.set i (some (.lst (l ++ [d]))),s.ow,s.st⟩ else .bad
 | _=>.bad) else .bad else .bad):=rfl
theorem rO :exT Γ cal cal1 lp (.ext i e) s kn kr kx=(if s.ow.contains i && isLst s.env[i]? then evT Γ cal cal1 lp false e s (fun d s=>if s.ow.contains i then (match s.env[i]?,d with
 | some (some (.lst l)),.lst x=>.test (decide (l.length+x.length≤100000)) fun t=>if t then kn ⟨s.env.set i (some (.lst (l ++ x))),s.ow,s.st⟩ else .bad
 | _,_=>.bad) else .bad) kx else .bad):=rfl
theorem rM :exS Γ cal cal1 (.ext i e) s=(if s.ow.contains i && isLst s.env[i]? then (ev Γ cal cal1 false e s).go fun d s=>if s.ow.contains i then (match s.env[i]?,d with
 | some (some (.lst l)),.lst x=>if l.length+x.length≤100000 then .nx ⟨s.env.set i (some (.lst (l ++ x))),s.ow,s.st⟩ else .bad
 | _,_=>.bad) else .bad else .bad):=rfl
theorem uz {kn:Sta→IT} {kr:D→Sta→ak} {kx:Nat→List D→Sta→ak} {c:Prop} [Decidable c] {z:Sta}:aa cal cal1 (.test (decide c) fun t=>if t then kn z else .bad)=sc (if c then .nx z else .bad) (fun s=>aa cal cal1 (kn s)) kr kx:=by
 show aa cal cal1 (if decide c=true then _ else .bad)=_
 by_cases h:c
 ·rw [ZZ (ZW h),ZZ h];rfl
 ·rw [ZY (by simpa using h),ZY h];rfl
theorem oR:∀ c:S,(∀ s kn kr kx,aa cal cal1 (exT Γ cal cal1 lp c s kn kr kx)=sc (exS Γ cal cal1 c s) (fun s=>aa cal cal1 (kn s)) (fun d s=>aa cal cal1 (kr d s)) (fun c l s=>aa cal cal1 (kx c l s))) ∧
 (∀ c' l s kn kr kx,aa cal cal1 (exT.hndT Γ cal cal1 lp c c' l s kn kr kx)=sc (exS.hnd Γ cal cal1 c c' l s) (fun s=>aa cal cal1 (kn s)) (fun d s=>aa cal cal1 (kr d s)) (fun c l s=>aa cal cal1 (kx c l s))):=by
 intro c
 have hb:∀ {c:S},(∀ c' l s kn kr kx,exT.hndT Γ cal cal1 lp c c' l s kn kr kx = .bad)→(∀ c' l s,exS.hnd Γ cal cal1 c c' l s = .bad)→(∀ c' l s kn kr kx,aa cal cal1 (exT.hndT Γ cal cal1 lp c c' l s kn kr kx)=sc (exS.hnd Γ cal cal1 c c' l s) (fun s=>aa cal cal1 (kn s)) (fun d s=>aa cal cal1 (kr d s)) (fun c l s=>aa cal cal1 (kx c l s))):=fun h1 h2 c' l s kn kr kx=>by rw [h1,h2];rfl
 induction c with
 | skip=>exact ⟨fun s kn kr kx=>rfl,fun _ _ _ _ _ _=>rfl⟩
 | seq a b iha ihb=>
   refine ⟨fun s kn kr kx=>(iha.1 _ _ _ _).trans ?_,hb (fun _ _ _ _ _ _=>rfl) fun _ _ _=>rfl⟩
   show _=sc ((exS Γ cal cal1 a s).go fun s=>exS Γ cal cal1 b s) _ _ _
   rw [qO]
   exact jV (fun s=>ihb.1 _ _ _ _) fun _ _ _=>rfl
 | set i e=>exact ⟨fun s kn kr kx=>((bB e).1 _ _ _ _).trans (a9 fun d s=>rfl),hb (fun _ _ _ _ _ _=>rfl) fun _ _ _=>rfl⟩
 | setT l e=>exact ⟨fun s kn kr kx=>((bB e).1 _ _ _ _).trans (a9 fun d s=>by cases aH l false d s.env <;> rfl),hb (fun _ _ _ _ _ _=>rfl) fun _ _ _=>rfl⟩
 | setR i es=>exact ⟨fun s kn kr kx=>((bB es).2 _ _ _ _).trans (a9 fun l s=>by by_cases c:l.length≤100000 <;> simp only [c,if_true,if_false] <;> rfl),hb (fun _ _ _ _ _ _=>rfl) fun _ _ _=>rfl⟩
 | ret e=>exact ⟨fun s kn kr kx=>((bB e).1 _ _ _ _).trans (a9 fun d s=>rfl),hb (fun _ _ _ _ _ _=>rfl) fun _ _ _=>rfl⟩
 | ifs c a b iha ihb=>exact ⟨fun s kn kr kx=>((bB c).1 _ _ _ _).trans (a9 fun x s=>by
  cases x with
  | bl t=>cases t with
    | true=>exact iha.1 _ _ _ _
    | false=>exact ihb.1 _ _ _ _
  | _=>rfl),hb (fun _ _ _ _ _ _=>rfl) fun _ _ _=>rfl⟩
 | drop e=>exact ⟨fun s kn kr kx=>((bB e).1 _ _ _ _).trans (a9 fun d s=>rfl),hb (fun _ _ _ _ _ _=>rfl) fun _ _ _=>rfl⟩
 | app i e=>
   refine ⟨fun s kn kr kx=>?_,hb (fun _ _ _ _ _ _=>rfl) fun _ _ _=>rfl⟩
   rw [rN,rL]
   split
   ·refine ((bB e).1 _ _ _ _).trans (a9 fun d s=>?_)
    split
    ·split <;> first | exact uz | rfl
    ·rfl
   ·rfl
 | ext i e=>
   refine ⟨fun s kn kr kx=>?_,hb (fun _ _ _ _ _ _=>rfl) fun _ _ _=>rfl⟩
   rw [rO,rM]
   split
   ·refine ((bB e).1 _ _ _ _).trans (a9 fun d s=>?_)
    split
    ·split <;> first | exact uz | rfl
    ·rfl
   ·rfl
 | put a b e=>
   refine ⟨fun s kn kr kx=>?_,hb (fun _ _ _ _ _ _=>rfl) fun _ _ _=>rfl⟩
   cases a with
   | v i=>
     refine ((bB e).1 _ _ _ _).trans (a9 fun d s=>?_)
     cases s.env[i]? with
     | none=>rfl
     | some o=>cases o with
       | none=>rfl
       | some x=>
         refine ((bB b).1 _ _ _ _).trans (a9 fun y s=>?_)
         cases x with
         | ref n=>
           dsimp only
           cases (s.st[n]?).bind fun o=>dX o y d <;> rfl
         | _=>
           dsimp only
           split
           ·exact yh
           ·rfl
   | _=>exact dG
 | fld a f e=>exact ⟨fun s kn kr kx=>dG,hb (fun _ _ _ _ _ _=>rfl) fun _ _ _=>rfl⟩
 | aug a f o e=>exact ⟨fun s kn kr kx=>dG,hb (fun _ _ _ _ _ _=>rfl) fun _ _ _=>rfl⟩
 | fapp a f e=>exact ⟨fun s kn kr kx=>dG,hb (fun _ _ _ _ _ _=>rfl) fun _ _ _=>rfl⟩
 | for_ t one it b ih=>
   refine ⟨fun s kn kr kx=>((bB it).1 _ _ _ _).trans (a9 fun x s=>?_),hb (fun _ _ _ _ _ _=>rfl) fun _ _ _=>rfl⟩
   cases x with
   | lst ds=>
     dsimp only
     cases lp with
     | true=>rw [ZZ rfl];exact dG
     | false=>
       rw [ZY ϛ]
       refine lB (fun d s k=>?_) ds s kn
       cases aH t one d s.env with
       | none=>rfl
       | some env=>exact ih.1 _ _ _ _
   | _=>rfl
 | whl c b ih=>exact ⟨fun s kn kr kx=>dG,hb (fun _ _ _ _ _ _=>rfl) fun _ _ _=>rfl⟩
 | rais j es=>
   refine ⟨fun s kn kr kx=>((bB es).2 _ _ _ _).trans (a9 fun l s=>?_),hb (fun _ _ _ _ _ _=>rfl) fun _ _ _=>rfl⟩
   show aa cal cal1 (if eM Γ j l=true then kx j (mZ Γ j l) s else .bad)=_
   split <;> rfl
 | try_ a h iha ihh=>
   refine ⟨fun s kn kr kx=>(iha.1 _ _ _ _).trans ?_,hb (fun _ _ _ _ _ _=>rfl) fun _ _ _=>rfl⟩
   show _=sc (match exS Γ cal cal1 a s with | .exc c l s'=>exS.hnd Γ cal cal1 h c l s' | r=>r) _ _ _
   cases exS Γ cal cal1 a s with
   | exc c l s'=>exact ihh.2 _ _ _ _ _ _
   | _=>rfl
 | hand j i b r ihb ihr=>
   refine ⟨fun s kn kr kx=>dG,fun c' l s kn kr kx=>?_⟩
   cases i with
   | none=>
     show aa cal cal1 (match cJ Γ j c' with | some true=>_ | some false=>exT.hndT Γ cal cal1 lp r c' l s kn kr kx | none=>.bad)=sc (match cJ Γ j c' with | some true=>_ | some false=>exS.hnd Γ cal cal1 r c' l s | none=>.bad) _ _ _
     rcases cJ Γ j c' with _ | (_ | _)
     ·rfl
     ·exact ihr.2 _ _ _ _ _ _
     ·refine (ihb.1 _ _ _ _).trans ?_
      cases exS Γ cal cal1 b s <;> rfl
   | some i=>
     show aa cal cal1 (match cJ Γ j c' with | some true=>_ | some false=>exT.hndT Γ cal cal1 lp r c' l s kn kr kx | none=>.bad)=sc (match cJ Γ j c' with | some true=>_ | some false=>exS.hnd Γ cal cal1 r c' l s | none=>.bad) _ _ _
     rcases cJ Γ j c' with _ | (_ | _)
     ·rfl
     ·exact ihr.2 _ _ _ _ _ _
     ·refine (ihb.1 _ _ _ _).trans ?_
      cases exS Γ cal cal1 b ⟨s.env.set i (some (.ins c' l)),s.ow.filter (· != i),s.st⟩ <;> rfl
inductive An where
 | r (r:Res) | t (n:Nat) (b:Bool) | o (n:Nat) (d:D) | e (d:D) (s:Sta) | x (o:ak) | c
end
section
variable (cal cal1:Nat→List D→List O→Res)
def trc:IT→List An→Prop×ak
 | .fin o,[]=>(True,o)
 | .fin o,_=>(False,o)
 | .call j ds st k,.r a :: l=>((cal j ds st=a)∧(trc (k a) l).1,(trc (k a) l).2)
 | .call1 j ds st k,.r a :: l=>((cal1 j ds st=a)∧(trc (k a) l).1,(trc (k a) l).2)
 | .call j ds st k,.c :: l=>trc (k (cal j ds st)) l
 | .call1 j ds st k,.c :: l=>trc (k (cal1 j ds st)) l
 | .test b k,.t 0 a :: l=>((b=a)∧(trc (k a) l).1,(trc (k a) l).2)
 | .test b k,.t (n+1) a :: l=>trc (k b) (.t n a :: l)
 | .test b k,.o (n+1) a :: l=>trc (k b) (.o n a :: l)
 | .test b k,l=>trc (k b) l
 | .opt o k,.o 0 a :: l=>((o=some a)∧(trc (k a) l).1,(trc (k a) l).2)
 | .opt (some d) k,.o (n+1) a :: l=>trc (k d) (.o n a :: l)
 | .opt (some d) k,.t (n+1) a :: l=>trc (k d) (.t n a :: l)
 | .opt (some d) k,l=>trc (k d) l
 | .sub o k,.e d s :: l=>((o = .ok d s)∧(trc (k d s) l).1,(trc (k d s) l).2)
 | .subS o k,.x a :: l=>((o=a)∧(trc (k a) l).1,(trc (k a) l).2)
 | _,_=>(False,.bad)
theorem kY:∀ (t) (l),(trc cal cal1 t l).1→aa cal cal1 t=(trc cal cal1 t l).2:=by
 intro t
 induction t with
 | fin o=>intro l h;cases l <;> first | rfl | exact h.elim
 | call j ds st k ih=>
   intro l h
   cases l with
   | nil=>exact h.elim
   | cons a l=>cases a with
     | r a=>obtain ⟨h1,h2⟩:=h;have:=ih a l h2;rw [← h1] at this ⊢;show aa cal cal1 (k (cal j ds st))=_;rw [h1] at this ⊢;exact this
     | c=>exact ih _ l h
     | _=>exact h.elim
 | call1 j ds st k ih=>
   intro l h
   cases l with
   | nil=>exact h.elim
   | cons a l=>cases a with
     | r a=>obtain ⟨h1,h2⟩:=h;show aa cal cal1 (k (cal1 j ds st))=_;rw [h1];exact ih a l h2
     | c=>exact ih _ l h
     | _=>exact h.elim
 | test b k ih=>
   intro l h
   show aa cal cal1 (k b)=_
   cases l with
   | nil=>exact ih b _ h
   | cons a l=>cases a with
     | t n a=>cases n with
       | zero=>obtain ⟨h1,h2⟩:=h;rw [h1];exact ih a l h2
       | succ n=>exact ih b _ h
     | o n a=>cases n with
       | zero=>exact ih b _ h
       | succ n=>exact ih b _ h
     | _=>exact ih b _ h
 | opt o k ih=>
   intro l h
   cases l with
   | nil=>cases o with
     | none=>exact h.elim
     | some d=>exact ih d _ h
   | cons a l=>cases a with
     | o n a=>cases n with
       | zero=>obtain ⟨rfl,h2⟩:=h;exact ih a l h2
       | succ n=>cases o with
         | none=>exact h.elim
         | some d=>exact ih d _ h
     | t n a=>cases n with
       | zero=>cases o with
         | none=>exact h.elim
         | some d=>exact ih d _ h
       | succ n=>cases o with
         | none=>exact h.elim
         | some d=>exact ih d _ h
     | _=>cases o with
        | none=>exact h.elim
        | some d=>exact ih d _ h
 | sub o k ih=>
   intro l h
   cases l with
   | nil=>exact h.elim
   | cons a l=>cases a with
     | e d s=>obtain ⟨rfl,h2⟩:=h;exact ih d s l h2
     | _=>exact h.elim
 | subS o k ih=>
   intro l h
   cases l with
   | nil=>exact h.elim
   | cons a l=>cases a with
     | x a=>obtain ⟨h1,h2⟩:=h;show aa cal cal1 (k o)=_;rw [h1];exact ih a l h2
     | _=>exact h.elim
end
def yO:ak→Res
 | .nx s=>.ok .non s.st
 | .rt d s=>.ok d s.st
 | .exc c l s=>.exc c l s.st
 | .bad=>.bad
def tF (Γ:Gm) (cal cal1:Nat→List D→List O→Res) (lp:Bool) (j:Nat) (ds:List D) (st:List O) (l:List An):Prop×Res:=match Γ.fn[j]? with
 | some f=>if ds.length=f.np then
  (fun p=>(p.1,yO p.2)) (trc cal cal1 (exT Γ cal cal1 lp f.body ⟨ds.map some ++ Δ (f.ns - f.np) none,[],st⟩ (fun s=>.fin (.nx s)) (fun d s=>.fin (.rt d s)) (fun c l s=>.fin (.exc c l s))) l)
   else (False,.bad)
 | none=>(False,.bad)
theorem wV {st:List O} (l:List An) {P:Prop} {r:Res} (hp:P) (h:tF Γ cal cal1 lp j ds st l=(P,r)):jU Γ cal cal1 j ds st=r:=by
 unfold tF at h
 unfold jU
 cases q:Γ.fn[j]? with
 | none=>rw [q] at h;have t:False=P:=ZS Ļ h;exact (Eq.mpr t hp:False).elim
 | some f=>
   rw [q] at h
   dsimp only at h ⊢
   by_cases c:ds.length=f.np
   ·rw [ZZ c] at h ⊢
    have h1:=ZS Ļ h
    have h2:=ZS Bo h
    dsimp only at h1 h2
    have t:=kY cal cal1 _ l (h1 ▸ hp)
    rw [(oR f.body).1] at t
    rw [← h2,← t]
    cases exS Γ cal cal1 f.body ⟨ds.map some ++ Δ (f.ns - f.np) none,[],st⟩ <;> rfl
   ·rw [ZY c] at h;have t:False=P:=ZS Ļ h;exact (Eq.mpr t hp:False).elim
theorem ar (lp) {st:List O} (l:List An) {P:Prop} {r:Res} (hp:P) (h:tF Γ (ac Γ n) (aj Γ n) lp j ds st l=(P,r)):ac Γ (n+1) j ds st=r:=wV l hp h
theorem uq (lp) (l) {P:Prop} {o:ak} (hp:P) (h:trc cal cal1 (exT Γ cal cal1 lp c s (fun s=>.fin (.nx s)) (fun d s=>.fin (.rt d s)) (fun c l s=>.fin (.exc c l s))) l=(P,o)):exS Γ cal cal1 c s=o:=by
 have h1:=ZS Ļ h
 have h2:=ZS Bo h
 dsimp only at h1 h2
 have t:=kY cal cal1 _ l (h1 ▸ hp)
 rw [(oR c).1,h2] at t
 rw [← t]
 cases exS Γ cal cal1 c s <;> rfl
def uK:ak→Out D
 | .rt d s=>.ok d s
 | .exc c l s=>.exc c l s
 | _=>.bad
theorem ya (lp) (l) {P:Prop} {o:Out D} (hp:P) (h:(fun p:Prop×ak=>(p.1,uK p.2)) (trc cal cal1 (evT Γ cal cal1 lp br e s (fun d s=>.fin (.rt d s)) (fun c l s=>.fin (.exc c l s))) l)=(P,o)):ev Γ cal cal1 br e s=o:=by
 have h1:=ZS Ļ h
 have h2:=ZS Bo h
 dsimp only at h1 h2
 have t:=kY cal cal1 _ l (h1 ▸ hp)
 rw [(bB e).1] at t
 rw [← h2,← t]
 cases ev Γ cal cal1 br e s <;> rfl
theorem aP (h:f d s = .nx s1) (h2:aO f r s1=o):aO f (d :: r) s=o:=by
 show (f d s).go _=o
 rw [h];exact h2
theorem fH (h:f d s=o) (n:∀ s,o≠.nx s):aO f (d :: r) s=o:=by
 show (f d s).go _=o
 rw [h]
 cases o with
 | nx s=>exact ZX rfl (n s)
 | _=>rfl
theorem c9 (h:f d s = .ok (some e) s1) (ha:acc.length<100000) (h2:aQ f r (acc ++ [e]) s1=o):aQ f (d :: r) acc s=o:=by
 show (f d s).bind _=o
 rw [h]
 show (if acc.length<100000 then aQ f r (acc ++ [e]) s1 else .bad)=o
 rw [ZZ ha];exact h2
theorem eX (h:f d s = .ok none s1) (h2:aQ f r acc s1=o):aQ f (d :: r) acc s=o:=by
 show (f d s).bind _=o
 rw [h];exact h2
def dC:S→S
 | .seq a b=>(match dC a with | .skip=>dC b | x=>x)
 | .ifs _ a b=>(match dC a with | .skip=>dC b | x=>x)
 | .for_ _ _ _ b=>b
 | _=>.skip
def toR:ak→Res
 | .nx s=>.ok .non s.st
 | .rt d s=>.ok d s.st
 | .exc c l s=>.exc c l s.st
 | .bad=>.bad
def hdS:Nat→S→S
 | 0,.seq a _=>a
 | n+1,.seq a b=>.seq a (hdS n b)
 | _,s=>s
def tlS:Nat→S→S
 | 0,.seq _ b=>b
 | n+1,.seq _ b=>tlS n b
 | _,_=>.skip
theorem uw (x:ak):(x.go fun s=>.nx s)=x:=by cases x <;> rfl
theorem cZ (n:Nat) (c:S) (s:Sta):exS Γ cal cal1 c s=(exS Γ cal cal1 (hdS n c) s).go fun s=>exS Γ cal cal1 (tlS n c) s:=by
 induction n generalizing c s with
 | zero=>cases c <;> first | rfl | exact (uw _).symm
 | succ n ih=>
   cases c with
   | seq a b=>
     show (exS Γ cal cal1 a s).go _=((exS Γ cal cal1 a s).go fun s=>exS Γ cal cal1 (hdS n b) s).go _
     cases exS Γ cal cal1 a s with
     | nx s=>exact ih b s
     | _=>rfl
   | _=>exact (uw _).symm
theorem vp (lp) (l) {P:Prop} {r:Res} (hp:P) (h:(fun p:Prop×ak=>(p.1,toR p.2)) (trc cal cal1 (exT Γ cal cal1 lp c s (fun s=>.fin (.nx s)) (fun d s=>.fin (.rt d s)) (fun c l s=>.fin (.exc c l s))) l)=(P,r)):toR (exS Γ cal cal1 c s)=r:=by
 have h1:=ZS Ļ h
 have h2:=ZS Bo h
 dsimp only at h1 h2
 rw [← h2]
 exact ZS toR (uq lp l (h1 ▸ hp) rfl)
theorem cX {n:Nat} {ds:List D} {st:List O} {r:Res} (k:Nat) (f:Fn) {s':Sta} (hf:Γ.fn[j]? = some f) (hl:ds.length=f.np) (h1:exS Γ (ac Γ n) (aj Γ n) (hdS k f.body) ⟨ds.map some ++ Δ (f.ns - f.np) none,[],st⟩ = .nx s') (h2:toR (exS Γ (ac Γ n) (aj Γ n) (tlS k f.body) s')=r):ac Γ (n+1) j ds st=r:=by
 show jU Γ (ac Γ n) (aj Γ n) j ds st=r
 unfold jU
 rw [hf]
 dsimp only
 rw [ZZ hl,cZ k,h1,← h2]
 rfl
class ToAn (α:Type) where
 an:Nat→α→An
instance:ToAn Res:=⟨fun _ a=>.r a⟩
instance:ToAn Bool:=⟨fun n b=>.t n b⟩
instance:ToAn (Option D):=⟨fun n o=>match o with | some d=>.o n d | none=>.c⟩
instance:ToAn (Out D):=⟨fun _ o=>match o with | .ok d s=>.e d s | _=>.c⟩
instance:ToAn ak:=⟨fun _ o=>.x o⟩
theorem kt {a b:D} (h:isDic a=false):eqT a b=eqv 55 a b:=by cases a <;> first | rfl | cases h
def AL (_:List An) (P:Prop):Prop:=P
theorem aX (n:Nat) {α:Type} [ToAn α] {x a:α} (h:x=a) {l:List An} {P:Prop} (t:AL l P):AL (ToAn.an n a :: l) (x=a∧P):=⟨h,t⟩
theorem aC {l:List An} {P:Prop} (t:AL l P):AL (.c :: l) P:=t
theorem aZ:AL [] True:=ŉ
theorem ag (lp) {st:List O} {l:List An} {P:Prop} {r:Res} (hp:AL l P) (h:tF Γ (ac Γ n) (aj Γ n) lp j ds st l=(P,r)):ac Γ (n+1) j ds st=r:=ar lp l hp h
theorem bU (lp) {l:List An} {P:Prop} {o:ak} (hp:AL l P) (h:trc cal cal1 (exT Γ cal cal1 lp c s (fun s=>.fin (.nx s)) (fun d s=>.fin (.rt d s)) (fun c l s=>.fin (.exc c l s))) l=(P,o)):exS Γ cal cal1 c s=o:=uq lp l hp h
theorem dJ (lp) {l:List An} {P:Prop} {o:Out D} (hp:AL l P) (h:(fun p:Prop×ak=>(p.1,uK p.2)) (trc cal cal1 (evT Γ cal cal1 lp br e s (fun d s=>.fin (.rt d s)) (fun c l s=>.fin (.exc c l s))) l)=(P,o)):ev Γ cal cal1 br e s=o:=ya lp l hp h
theorem cm (lp) {l:List An} {P:Prop} {r:Res} (hp:AL l P) (h:(fun p:Prop×ak=>(p.1,toR p.2)) (trc cal cal1 (exT Γ cal cal1 lp c s (fun s=>.fin (.nx s)) (fun d s=>.fin (.rt d s)) (fun c l s=>.fin (.exc c l s))) l)=(P,r)):toR (exS Γ cal cal1 c s)=r:=vp lp l hp h
def eP (Γ:Gm) (cal cal1:Nat→List D→List O→Res) (t:List Nat) (one:Bool) (b:S):D→Sta→ak:=fun d s=>match aH t one d s.env with | some env=>exS Γ cal cal1 b ⟨env,s.ow.filter fun i=>!t.contains i,s.st⟩ | none=>.bad
def lcQ (Γ:Gm) (cal cal1:Nat→List D→List O→Res) (t:List Nat) (one:Bool) (elt cond:E):D→Sta→Out (Option D):=fun d s'=>(match aH t one d s'.env with
 | some env=>(noX (ev Γ cal cal1 true cond ⟨env,[],s'.st⟩)).bind fun b s2=>(match b with
   | .bl true=>(noX (ev Γ cal cal1 false elt s2)).bind fun e s3=>.ok (some e) ⟨s3.env,[],s3.st⟩
   | .bl false=>.ok none ⟨s2.env,[],s2.st⟩
   | _=>.bad)
 | none=>.bad)
theorem aM {s:Sta} (hb:aH t one d s.env=some env) (h:exS Γ cal cal1 b ⟨env,s.ow.filter fun i=>!t.contains i,s.st⟩=o):eP Γ cal cal1 t one b d s=o:=by unfold eP;rw [hb];exact h
theorem fP {s:Sta} {cond elt:E} (hb:aH t one d s.env=some env) (hc:ev Γ cal cal1 true cond ⟨env,[],s.st⟩ = .ok (.bl true) s2) (h:ev Γ cal cal1 false elt s2 = .ok e s3):lcQ Γ cal cal1 t one elt cond d s = .ok (some e) ⟨s3.env,[],s3.st⟩:=by
 unfold lcQ
 rw [hb]
 dsimp only
 rw [hc]
 show (noX (ev Γ cal cal1 false elt s2)).bind _=_
 rw [h];rfl
theorem iL {s:Sta} {cond elt:E} (hb:aH t one d s.env=some env) (hc:ev Γ cal cal1 true cond ⟨env,[],s.st⟩ = .ok (.bl false) s2):lcQ Γ cal cal1 t one elt cond d s = .ok none ⟨s2.env,[],s2.st⟩:=by
 unfold lcQ
 rw [hb]
 dsimp only
 rw [hc];rfl
theorem mh {x:E} {f:Nat} {b e:E} (h1:ev Γ cal cal1 false e s = .ok d s1) (h2:ev Γ cal cal1 true (.fld x f) s1 = .ok (.ref n) s2) (h3:ev Γ cal cal1 true b s2 = .ok k s3) (h4:s3.st[n]? = some o) (h5:dX o k d=some o'):exS Γ cal cal1 (.put (.fld x f) b e) s = .nx ⟨s3.env,s3.ow,s3.st.set n o'⟩:=by
 show (ev Γ cal cal1 false e s).go _=_
 rw [h1]
 show (ev Γ cal cal1 true (.fld x f) s1).go _=_
 rw [h2]
 show (ev Γ cal cal1 true b s2).go _=_
 rw [h3]
 show (match (s3.st[n]?).bind fun o=>dX o k d with | some o=>ak.nx ⟨s3.env,s3.ow,s3.st.set n o⟩ | none=>.bad)=_
 rw [h4]
 show (match dX o k d with | some o=>ak.nx ⟨s3.env,s3.ow,s3.st.set n o⟩ | none=>.bad)=_
 rw [h5]
end L2.Ev
end
section
namespace L2.K87
open L2.Bk L2.Ev
def top (i:Nat):Û:=DB.main.body.getD i (.Pass ⟨0,0,0,0⟩)
def bW (s:Û) (j:Nat):Û:=match s with
 | .ClassDef _ _ _ body _ _ _ _ _ _ _=>body.getD j (.Pass ⟨0,0,0,0⟩)
 | _=>.Pass ⟨0,0,0,0⟩
def fnl:List (ι×Û):=(B3 [("steps",top 10),("kinds_in",top 11),("with_kinds",top 12),("depth",top 13),("part",top 14),("stepped",top 15),("parting",top 17),("join",top 18),("form",top 21),("indexes",top 22),("exchanged",top 23),("parts",top 24),("with_parts",top 25),("written",top 26),("places",top 27),("need_names",top 28)] (B3 [("need_bound",top 29),("names_bound",top 30),("looked",top 38),("need_shallow",top 40),("need_same",top 41),("bound_within",top 42),("wanted_kind",top 43),("own_kind",top 44),("softened",top 46),("refusal_of",top 47),("with_untold",top 48),("_law_cell_at",top 50),("_law_words",top 51),("_law_next",top 52),("_law_place",top 53),("_law_kind",top 54)] [("_law_leaf",top 55),("_law_any",top 56),("_law_parts",top 57),("_law_places",top 58),("_law_covered",top 59),("_law_refusal",top 60),("_law_found",top 61),("law",top 62)]))
def mel:List (ι×ι×Û):=[("__init__","Looker.__init__",bW (top 39) 0),("look","Looker.look",bW (top 39) 1),("hold","Looker.hold",bW (top 39) 2),("hold_choice","Looker.hold_choice",bW (top 39) 3),("want","Looker.want",bW (top 39) 4)]
def gll:List (ι×Dk):=[("UNTOLD",(.tup [(.str "?")])),("ALL_STEPS",(.tup [(.str "arg"),(.str "res"),(.str "item"),(.str "one"),(.str "two")])),("TRUTH",(.tup [(.str "truth")])),("WHOLE",(.tup [(.str "whole")])),("MOST_DEPTH",(.int 4))]
def tN:List (ι×Dk):=[("whole",(.tup [(.str "number")])),("truth",(.tup [(.str "truth")])),("given",(.tup [(.str "given")])),("name",(.tup [(.str "name")])),("fn",(.tup [(.str "name"),(.str "kind"),(.str "node")])),("self",(.tup [(.str "name"),(.str "name"),(.str "kind"),(.str "kind"),(.str "node")])),("call",(.tup [(.str "node"),(.str "node")])),("let",(.tup [(.str "name"),(.str "node"),(.str "node")])),("if",(.tup [(.str "node"),(.str "node"),(.str "node")])),("do",(.tup [(.str "sign"),(.str "node"),(.str "node")])),("row",(.tup [(.str "kind"),(.str "nodes")])),("at",(.tup [(.str "node"),(.str "node")])),("size",(.tup [(.str "node")])),("pair",(.tup [(.str "node"),(.str "node")])),("one",(.tup [(.str "node")])),("two",(.tup [(.str "node")])),("as",(.tup [(.str "kind"),(.str "node")])),("look",(.tup [(.str "put in"),(.str "put in"),(.str "node")]))]
def tO:List (ι×Dk):=[("whole",(.tup [])),("truth",(.tup [])),("?",(.tup [])),("to",(.tup [(.str "arg"),(.str "res")])),("row",(.tup [(.str "item")])),("pair",(.tup [(.str "one"),(.str "two")]))]
def i9:List (ι×Dk):=[("whole",(.tup [(.str "whole")])),("given",(.tup [(.str "whole")])),("size",(.tup [(.str "whole")])),("truth",(.tup [(.str "truth")]))]
def jZ:List (ι×Dk):=[("call",(.tup [(.str "res")])),("at",(.tup [(.str "item")])),("one",(.tup [(.str "one")])),("two",(.tup [(.str "two")]))]
def qS:List (ι×Dk):=[("call",(.tup [(.str "to"),(.tup [(.str "?")]),(.tup [(.str "?")])])),("at",(.tup [(.str "row"),(.tup [(.str "?")])])),("size",(.tup [(.str "row"),(.tup [(.str "?")])])),("one",(.tup [(.str "pair"),(.tup [(.str "?")]),(.tup [(.str "?")])])),("two",(.tup [(.str "pair"),(.tup [(.str "?")]),(.tup [(.str "?")])]))]
def tbl:List (ι×List (ι×Dk)):=[("FORMS",tN),("STEPS",tO),("SURE_KINDS",i9),("TAKEN_OUT",jZ),("NEEDED",qS)]
def T:Ns where
 gl:=gll.map (·.1)
 tb:=tbl.map (·.1)
 fn:=fnl.map (·.1)
 at_:=["place","kind","by","wanted","way","kinds"]
 bl:=["enumerate","list","tuple","zip","max","dict","len","range","int","isinstance","set"]
 rf:=["_law_deal"]
 me:=[("look",5,41),("hold",5,42),("hold_choice",5,43),("want",5,44)]
 ex:=["","","NoName","TooDeep","Parted",""]
 nd:=["","","","","",""]
 nw:=["","","","","","Looker"]
 hx:=["","","NoName","TooDeep","Parted",""]
 hc:=["softened"]
 xt:=["","","","","",""]
def vrl:List (List ι×List (ι×Nat)×List ι×List ι):=(B3 [(T.mu,T.alt,T.fc,T.oc),(T.mu,T.alt,T.fc,T.oc),(T.mu,T.alt,T.fc,T.oc),(T.mu,T.alt,T.fc,T.oc),(T.mu,T.alt,T.fc,T.oc),(T.mu,T.alt,T.fc,T.oc),(T.mu,T.alt,T.fc,T.oc),(T.mu,T.alt,T.fc,T.oc),(T.mu,T.alt,T.fc,T.oc),(T.mu,T.alt,T.fc,T.oc),(T.mu,T.alt,T.fc,T.oc),(T.mu,T.alt,T.fc,T.oc),(T.mu,T.alt,T.fc,T.oc),(T.mu,T.alt,T.fc,T.oc),(T.mu,T.alt,T.fc,T.oc),(T.mu,T.alt,T.fc,T.oc)] (B3 [(T.mu,T.alt,T.fc,T.oc),(T.mu,T.alt,T.fc,T.oc),(T.mu,T.alt,T.fc,T.oc),(T.mu,T.alt,T.fc,T.oc),(T.mu,T.alt,T.fc,T.oc),(T.mu,T.alt,T.fc,T.oc),(T.mu,T.alt,T.fc,T.oc),(T.mu,T.alt,T.fc,T.oc),(T.mu,T.alt,T.fc,T.oc),(T.mu,T.alt,["looked"],T.oc),(T.mu,T.alt,T.fc,T.oc),(T.mu,T.alt,T.fc,T.oc),(T.mu,T.alt,T.fc,T.oc),(T.mu,T.alt,T.fc,T.oc),(T.mu,T.alt,T.fc,T.oc),(T.mu,T.alt,T.fc,T.oc)] [(T.mu,T.alt,T.fc,T.oc),(T.mu,T.alt,T.fc,T.oc),(T.mu,T.alt,T.fc,T.oc),(T.mu,T.alt,T.fc,T.oc),(T.mu,T.alt,T.fc,T.oc),(T.mu,T.alt,["looked"],T.oc),(T.mu,T.alt,T.fc,T.oc),(T.mu,T.alt,T.fc,T.oc),(T.mu,T.alt,T.fc,T.oc),(T.mu,T.alt,T.fc,T.oc),(T.mu,T.alt,T.fc,T.oc),(T.mu,T.alt,T.fc,T.oc),(T.mu,T.alt,T.fc,T.oc)]))
def Γ:Gm:=⟨gll.map (·.2),tbl.map (·.2),(((fnl.map fun p=>(p.1,p.1,p.2)) ++ mel).zip vrl).map fun p=>cT { T with mu:=p.2.1,alt:=p.2.2.1,fc:=p.2.2.2.1,oc:=p.2.2.2.2 } p.1.2.2,[⟨2,[],0,[],[],[]⟩,⟨2,[],0,[],[0],[]⟩,⟨2,[0],0,[],[0],[0]⟩,⟨2,[0],0,[],[0],[0]⟩,⟨2,[0,1,2,3,4],0,[],[0],[0,2]⟩,⟨0,[5,3],40,[],[],[]⟩]⟩
abbrev iI:Nat:=0
abbrev kD:Nat:=1
abbrev cE:Nat:=2
abbrev sf:Nat:=3
abbrev pH:Nat:=4
abbrev nh:Nat:=6
abbrev vH:Nat:=7
abbrev si:Nat:=11
abbrev iJ:Nat:=12
abbrev nq:Nat:=13
def oV:Fn:=cT T (top 27)
abbrev jH:Nat:=14
abbrev dP:Nat:=15
def iw:Fn:=cT T (top 29)
abbrev bO:Nat:=16
abbrev gG:Nat:=17
abbrev dO:Nat:=18
abbrev fN:Nat:=19
abbrev jG:Nat:=20
abbrev fM:Nat:=21
abbrev gH:Nat:=22
abbrev kE:Nat:=23
def bV:Fn:=cT T (top 46)
abbrev fO:Nat:=24
abbrev au:Nat:=25
abbrev dB:Nat:=26
abbrev fL:Nat:=27
def iu:Fn:=cT T (top 51)
abbrev iH:Nat:=28
abbrev jF:Nat:=29
abbrev iG:Nat:=30
abbrev jD:Nat:=31
abbrev jE:Nat:=32
def dF:Fn:=cT T (top 56)
abbrev kC:Nat:=33
abbrev iF:Nat:=34
def gC:Fn:=cT T (top 58)
abbrev dy:Nat:=35
abbrev aJ:Nat:=36
abbrev bp:Nat:=37
abbrev cD:Nat:=38
def bL:Fn:=cT T (top 62)
abbrev ym:Nat:=39
def dq:Fn:=cT T (bW (top 39) 1)
abbrev gE:Nat:=41
abbrev gD:Nat:=42
abbrev cO:Nat:=43
def gB:Fn:=cT T (bW (top 39) 4)
abbrev gF:Nat:=44
end L2.K87
end
section
namespace L2.K87
open L2.Bw L2.Bk L2.Ev
theorem A {a b:Prop} (x:a) (y:b):a∧b:=⟨x,y⟩
theorem Z:True:=ŉ
inductive Sg where
 | add | sub | mul | lt | eq
 deriving DecidableEq
def Sg.str:Sg→ι
 | .add=>"+" | .sub=>"-" | .mul=>"*" | .lt=>"<" | .eq=>"="
inductive Kd where
 | whole | truth | unt | to (a b:Kd) | row (a:Kd) | pair (a b:Kd)
 deriving DecidableEq
def Kd.dep:Kd→Nat
 | .to a b=>1+max a.dep b.dep
 | .row a=>1+a.dep
 | .pair a b=>1+max a.dep b.dep
 | _=>1
def Sm (p:Int):Prop:=0≤p∧p<100000
def Kd.toD:Kd→D
 | .whole=>.tup [.str "whole"]
 | .truth=>.tup [.str "truth"]
 | .unt=>.tup [.str "?"]
 | .to a b=>.tup [.str "to",a.toD,b.toD]
 | .row a=>.tup [.str "row",a.toD]
 | .pair a b=>.tup [.str "pair",a.toD,b.toD]
inductive T68 where
 | whole (p v:Int) | truth (p:Int) (b:Bool) | given (p:Int) (i:Nat) | name (p:Int) (x:ι) | fn (p:Int) (x:ι) (k:Kd) (b:T68) | slf (p:Int) (f x:ι) (k g:Kd) (b:T68)
 | lt (p:Int) (x:ι) (a b:T68) | iff (p:Int) (c a b:T68) | call (p:Int) (a b:T68) | bin (p:Int) (o:Sg) (a b:T68) | as_ (p:Int) (k:Kd) (a:T68)
 | row (p:Int) (k:Kd) (ts:List T68) | pair (p:Int) (a b:T68) | att (p:Int) (a b:T68) | size (p:Int) (a:T68) | one (p:Int) (a:T68) | two (p:Int) (a:T68) | lk (p:Int) (k l:Kd) (a:T68)
mutual
noncomputable def T68.toD:T68→D
 | .whole p v=>.tup [.str "whole",.int p,.int v]
 | .truth p b=>.tup [.str "truth",.int p,.bl b]
 | .given p i=>.tup [.str "given",.int p,.int i]
 | .name p x=>.tup [.str "name",.int p,.str x]
 | .fn p x k b=>.tup [.str "fn",.int p,.str x,k.toD,b.toD]
 | .slf p f x k g b=>.tup [.str "self",.int p,.str f,.str x,k.toD,g.toD,b.toD]
 | .lt p x a b=>.tup [.str "let",.int p,.str x,a.toD,b.toD]
 | .iff p c a b=>.tup [.str "if",.int p,c.toD,a.toD,b.toD]
 | .call p a b=>.tup [.str "call",.int p,a.toD,b.toD]
 | .bin p o a b=>.tup [.str "do",.int p,.str o.str,a.toD,b.toD]
 | .as_ p k a=>.tup [.str "as",.int p,k.toD,a.toD]
 | .row p k ts=>.tup [.str "row",.int p,k.toD,.tup (toDs ts)]
 | .pair p a b=>.tup [.str "pair",.int p,a.toD,b.toD]
 | .att p a b=>.tup [.str "at",.int p,a.toD,b.toD]
 | .size p a=>.tup [.str "size",.int p,a.toD]
 | .one p a=>.tup [.str "one",.int p,a.toD]
 | .two p a=>.tup [.str "two",.int p,a.toD]
 | .lk p k l a=>.tup [.str "look",.int p,k.toD,l.toD,a.toD]
noncomputable def toDs:List T68→List D
 | []=>[]
 | t :: r=>t.toD :: toDs r
end
def T68.pl:T68→Int
 | .whole p _=>p | .truth p _=>p | .given p _=>p | .name p _=>p | .fn p _ _ _=>p | .slf p _ _ _ _ _=>p | .lt p _ _ _=>p | .iff p _ _ _=>p | .call p _ _=>p | .bin p _ _ _=>p | .as_ p _ _=>p
 | .row p _ _=>p | .pair p _ _=>p | .att p _ _=>p | .size p _=>p | .one p _=>p | .two p _=>p | .lk p _ _ _=>p
def ae:T68→List T68
 | .fn _ _ _ b=>[b]
 | .slf _ _ _ _ _ b=>[b]
 | .lt _ _ a b=>[a,b]
 | .iff _ c a b=>[c,a,b]
 | .call _ a b=>[a,b]
 | .bin _ _ a b=>[a,b]
 | .as_ _ _ a=>[a]
 | .row _ _ ts=>ts
 | .pair _ a b=>[a,b]
 | .att _ a b=>[a,b]
 | .size _ a=>[a]
 | .one _ a=>[a]
 | .two _ a=>[a]
 | .lk _ _ _ a=>[a]
 | _=>[]
def bnd:T68→Nat→List ι
 | .fn _ x _ _,_=>[x]
 | .slf _ f x _ _ _,_=>[f,x]
 | .lt _ x _ _,1=>[x]
 | _,_=>[]
def wks:T68→List Kd
 | .fn _ _ k _=>[k]
 | .slf _ _ _ k g _=>[k,g]
 | .as_ _ k _=>[k]
 | .row _ k _=>[k]
 | _=>[]
def own (W bs:List ι):T68→Prop
 | .whole _ v=>v.natAbs<10 ^ 40
 | .given _ i=>i<8
 | .name _ x=>x∈bs
 | .fn _ x _ _=>x∈W
 | .slf _ f x _ _ _=>f∈W∧x∈W
 | .lt _ x _ _=>x∈W
 | .row _ _ ts=>ts.length≤4
 | .lk ..=>False
 | _=>True
def Ok (W:List ι):Nat→List ι→T68→Prop
 | 0,_,_=>False
 | n+1,bs,t=>own W bs t∧Sm t.pl∧(∀ k∈wks t,k.dep≤8)∧∀ i k,(ae t)[i]? = some k→Ok W n (bs ++ bnd t i) k
theorem yL (t:T68):ixD t.toD (.int 1)=some (.int t.pl):=by cases t <;> rfl
theorem p8 (t:T68) (st:List O):look st t.toD=t.toD:=by cases t <;> rfl
theorem bP (t:T68) (st:List O):ixD (look st t.toD) (.int 1)=some (.int t.pl):=by rw [p8];exact yL t
theorem bK:∀ ts:List T68,toDs ts=ts.map T68.toD
 | []=>rfl
 | t :: r=>by unfold toDs;rw [bK r];rfl
theorem j4 (ts:List T68):(toDs ts).length=ts.length:=by rw [bK,Η]
theorem bH {W:List ι} {bs:List ι} {t:T68} (h:own W bs t):(ae t).length≤4:=by
 cases t with
 | row p kd ts=>exact h
 | lk=>exact ZX h id
 | _=>exact Θ rfl
theorem fW (t:T68) (n:Nat) (st:List O):ac Γ (n+3) si [t.toD] st = .ok (.lst (toDs (ae t))) st:=by
 cases t <;> kernel_rfl
def sts (l:List ι):List D:=l.map D.str
theorem kL (t:T68) (i:Nat) (k:T68) (h:(ae t)[i]? = some k) (n:Nat) (st:List O):ac Γ (n+1) gG [t.toD,.int i] st = .ok (.tup (sts (bnd t i))) st:=by
 cases t with
 | lt p x a b=>
   match i,h with
   | 0,h=>kernel_rfl
   | 1,h=>kernel_rfl
   | i+2,h=>cases h
 | _=>kernel_rfl
theorem vo (x y:ι):eqv 55 (.str x) (.str y)=some (decide (x=y)):=by
 show some (x == y)=_
 by_cases h:x=y
 ·subst h;simp
 ·simp [h]
theorem lF (x:ι):∀ l:List ι,inD (.str x) (sts l)=some (decide (x∈l))
 | []=>by simp [sts,inD]
 | y :: r=>by
   show (match eqv 55 (.str y) (.str x) with | none=>none | some b=>(inD (.str x) (sts r)).map (b || ·))=_
   rw [vo,lF x r]
   by_cases h:y=x
   ·simp [h]
   ·have h2:¬ x=y:=fun e=>h e.symm
    simp [h,h2]
theorem notin {x:ι} {l:List ι} (h:x∈l):opD .notin (.str x) (.tup (sts l))=some (.bl false):=by
 show (inD (.str x) (sts l)).map (fun b=>D.bl (!b))=_
 rw [lF];simp [h]
theorem Ak (t:T68) (n:Nat) (st:List O):ac Γ (n+3) nq [t.toD] st = .ok (.lst ((wks t).map Kd.toD)) st:=by
 cases t <;> kernel_rfl
end L2.K87
end
section
namespace L2.K87
open L2.Bk L2.Ev
def Kd.join:Kd→Kd→Kd
 | .whole,.whole=>.whole
 | .truth,.truth=>.truth
 | .to a b,.to c d=>.to (a.join c) (b.join d)
 | .row a,.row c=>.row (a.join c)
 | .pair a b,.pair c d=>.pair (a.join c) (b.join d)
 | _,_=>.unt
def Kd.par:Kd→Kd→Option (List ι)
 | .unt,_=>none
 | _,.unt=>none
 | .whole,.whole=>none
 | .truth,.truth=>none
 | .to a b,.to c d=>(match a.par c with | some w=>some ("arg" :: w) | none=>(b.par d).map ("res" :: ·))
 | .row a,.row c=>(a.par c).map ("item" :: ·)
 | .pair a b,.pair c d=>(match a.par c with | some w=>some ("one" :: w) | none=>(b.par d).map ("two" :: ·))
 | _,_=>some []
def Ac:Option (List ι)→D
 | none=>.non
 | some w=>.tup (sts w)
theorem s9 (a b:Nat):L2.Bw.maxD 0 [(a:Int),(b:Int)]=((max a b:Nat):Int):=by
 show (if (b:Int)>(a:Int) then (b:Int) else (a:Int))=_
 by_cases h:(b:Int)>(a:Int)
 ·rw [ZZ h];have:max a b=b:=Nat.max_eq_right (by omega);rw [this]
 ·rw [ZY h];have:max a b=a:=Nat.max_eq_left (by omega);rw [this]
theorem kin (k:Kd) (l:List D) (h:k.toD = .tup (D.str h0 :: l)) (n:Nat) (st:List O):ac Γ (n+1) kD [k.toD] st = .ok (.lst l) st:=by
 cases k <;> (cases h;kernel_rfl)
theorem ik (m:Nat):opD .add (.int 1) (.int (m:Nat))=some (.int ((1+m:Nat):Int)):=by
 show some (D.int (1+(m:Int)))=_;congr 2
theorem te (a:Nat):biD .max0 [.lst [.int (a:Nat)],.int 0]=some (.int (a:Nat)):=rfl
theorem lW (a b:Nat):biD .max0 [.lst [.int (a:Nat),.int (b:Nat)],.int 0]=some (.int ((max a b:Nat):Int)):=by
 show some (D.int (L2.Bw.maxD 0 [(a:Int),(b:Int)]))=_;rw [s9]
theorem depth:∀ (k:Kd) (N:Nat),k.dep+1≤N→∀ st,ac Γ N sf [k.toD] st = .ok (.int (k.dep:Nat)) st
 | .whole,N,h,st=>by obtain ⟨n,rfl⟩:∃ n,N=n+2:=⟨N - 2,by unfold Kd.dep at h;omega⟩;kernel_rfl
 | .truth,N,h,st=>by obtain ⟨n,rfl⟩:∃ n,N=n+2:=⟨N - 2,by unfold Kd.dep at h;omega⟩;kernel_rfl
 | .unt,N,h,st=>by obtain ⟨n,rfl⟩:∃ n,N=n+2:=⟨N - 2,by unfold Kd.dep at h;omega⟩;kernel_rfl
 | .row a,N,h,st=>by
   unfold Kd.dep at h
   obtain ⟨n,rfl⟩:∃ n,N=n+2:=⟨N - 2,by omega⟩
   have i1:=depth a (n+1) (by omega) st
   exact ar false [.r (.ok (.lst [a.toD]) st),.r (.ok (.int (a.dep:Nat)) st),.o 0 (.int (a.dep:Nat)),.o 0 (.int ((1+a.dep:Nat):Int))] (kin (.row a) [a.toD] rfl n st<|>i1<|>te a.dep<|>ik a.dep<|>Z) (by kernel_rfl)
 | .to a b,N,h,st=>by
   unfold Kd.dep at h
   obtain ⟨n,rfl⟩:∃ n,N=n+2:=⟨N - 2,by omega⟩
   have i1:=depth a (n+1) (by omega) st
   have i2:=depth b (n+1) (by omega) st
   exact ar false [.r (.ok (.lst [a.toD,b.toD]) st),.r (.ok (.int (a.dep:Nat)) st),.r (.ok (.int (b.dep:Nat)) st),.o 0 (.int ((max a.dep b.dep:Nat):Int)),.o 0 (.int ((1+max a.dep b.dep:Nat):Int))] (kin (.to a b) [a.toD,b.toD] rfl n st<|>i1<|>i2<|>lW a.dep b.dep<|>ik (max a.dep b.dep)<|>Z) (by kernel_rfl)
 | .pair a b,N,h,st=>by
   unfold Kd.dep at h
   obtain ⟨n,rfl⟩:∃ n,N=n+2:=⟨N - 2,by omega⟩
   have i1:=depth a (n+1) (by omega) st
   have i2:=depth b (n+1) (by omega) st
   exact ar false [.r (.ok (.lst [a.toD,b.toD]) st),.r (.ok (.int (a.dep:Nat)) st),.r (.ok (.int (b.dep:Nat)) st),.o 0 (.int ((max a.dep b.dep:Nat):Int)),.o 0 (.int ((1+max a.dep b.dep:Nat):Int))] (kin (.pair a b) [a.toD,b.toD] rfl n st<|>i1<|>i2<|>lW a.dep b.dep<|>ik (max a.dep b.dep)<|>Z) (by kernel_rfl)
theorem wk1 (a x:Kd) (n:Nat) (st:List O):ac Γ (n+1) cE [(Kd.row a).toD,.lst [x.toD]] st = .ok (Kd.row x).toD st:=by kernel_rfl
theorem wk2 (a b x y:Kd) (n:Nat) (st:List O):ac Γ (n+1) cE [(Kd.to a b).toD,.lst [x.toD,y.toD]] st = .ok (Kd.to x y).toD st:=by kernel_rfl
theorem wk3 (a b x y:Kd) (n:Nat) (st:List O):ac Γ (n+1) cE [(Kd.pair a b).toD,.lst [x.toD,y.toD]] st = .ok (Kd.pair x y).toD st:=by kernel_rfl
theorem b8:∀ (a b:Kd) (N:Nat),a.dep+2≤N→∀ st,ac Γ N vH [a.toD,b.toD] st = .ok (a.join b).toD st
 | a,b,N,h,st=>by
   obtain ⟨n,rfl⟩:∃ n,N=n+3:=⟨N - 3,by cases a <;> (unfold Kd.dep at h;omega)⟩
   cases a with
   | whole=>cases b <;> kernel_rfl
   | truth=>cases b <;> kernel_rfl
   | unt=>cases b <;> kernel_rfl
   | row a=>cases b with
     | row c=>
       unfold Kd.dep at h
       have i1:=b8 a c (n+2) (by omega) st
       exact ar false [.r (.ok (.lst [a.toD]) st),.r (.ok (.lst [c.toD]) st),.r (.ok (a.join c).toD st),.r (.ok (Kd.row (a.join c)).toD st)] (kin (.row a) [a.toD] rfl (n+1) st<|>kin (.row c) [c.toD] rfl (n+1) st<|>i1<|>wk1 a (a.join c) (n+1) st<|>Z) (by kernel_rfl)
     | _=>kernel_rfl
   | to a1 a2=>cases b with
     | to c1 c2=>
       unfold Kd.dep at h
       have i1:=b8 a1 c1 (n+2) (by omega) st
       have i2:=b8 a2 c2 (n+2) (by omega) st
       exact ar false [.r (.ok (.lst [a1.toD,a2.toD]) st),.r (.ok (.lst [c1.toD,c2.toD]) st),.r (.ok (a1.join c1).toD st),.r (.ok (a2.join c2).toD st),.r (.ok (Kd.to (a1.join c1) (a2.join c2)).toD st)] (kin (.to a1 a2) [a1.toD,a2.toD] rfl (n+1) st<|>kin (.to c1 c2) [c1.toD,c2.toD] rfl (n+1) st<|>i1<|>i2<|>wk2 a1 a2 (a1.join c1) (a2.join c2) (n+1) st<|>Z) (by kernel_rfl)
     | _=>kernel_rfl
   | pair a1 a2=>cases b with
     | pair c1 c2=>
       unfold Kd.dep at h
       have i1:=b8 a1 c1 (n+2) (by omega) st
       have i2:=b8 a2 c2 (n+2) (by omega) st
       exact ar false [.r (.ok (.lst [a1.toD,a2.toD]) st),.r (.ok (.lst [c1.toD,c2.toD]) st),.r (.ok (a1.join c1).toD st),.r (.ok (a2.join c2).toD st),.r (.ok (Kd.pair (a1.join c1) (a2.join c2)).toD st)] (kin (.pair a1 a2) [a1.toD,a2.toD] rfl (n+1) st<|>kin (.pair c1 c2) [c1.toD,c2.toD] rfl (n+1) st<|>i1<|>i2<|>wk3 a1 a2 (a1.join c1) (a2.join c2) (n+1) st<|>Z) (by kernel_rfl)
     | _=>kernel_rfl
theorem bE:∀ (a b:Kd) (w:List ι),a.par b=some w→w.length<a.dep
 | a,b,w,h=>by
   cases a with
   | unt=>cases b <;> cases h
   | whole=>cases b <;> (cases h <;> decide)
   | truth=>cases b <;> (cases h <;> decide)
   | row a=>cases b with
     | row c=>
       obtain ⟨v,h1,rfl⟩:=π.mp (show (a.par c).map (("item":ι) :: ·)=some w from h)
       have:=bE a c v h1
       show v.length+1<1+a.dep;omega
     | unt=>cases h
     | _=>cases h;show 0<1+a.dep;omega
   | to a1 a2=>cases b with
     | to c1 c2=>
       have h:(match a1.par c1 with | some w=>some (("arg":ι) :: w) | none=>(a2.par c2).map (("res":ι) :: ·))=some w:=h
       show w.length<1+max a1.dep a2.dep
       cases q:a1.par c1 with
       | some v=>rw [q] at h;cases h;have:=bE a1 c1 v q;show v.length+1<_;omega
       | none=>
         rw [q] at h
         obtain ⟨v,h1,rfl⟩:=π.mp h
         have:=bE a2 c2 v h1
         show v.length+1<_;omega
     | unt=>cases h
     | _=>cases h;show 0<1+_;omega
   | pair a1 a2=>cases b with
     | pair c1 c2=>
       have h:(match a1.par c1 with | some w=>some (("one":ι) :: w) | none=>(a2.par c2).map (("two":ι) :: ·))=some w:=h
       show w.length<1+max a1.dep a2.dep
       cases q:a1.par c1 with
       | some v=>rw [q] at h;cases h;have:=bE a1 c1 v q;show v.length+1<_;omega
       | none=>
         rw [q] at h
         obtain ⟨v,h1,rfl⟩:=π.mp h
         have:=bE a2 c2 v h1
         show v.length+1<_;omega
     | unt=>cases h
     | _=>cases h;show 0<1+_;omega
theorem ed (x:ι) (w:List ι) (h:w.length≤1000):opD .add (.tup [.str x]) (.tup (sts w))=some (.tup (sts (x :: w))):=by
 show cH (1+(sts w).length) _=_
 unfold cH sts
 rw [ZZ (by simp;omega)];rfl
theorem eA:∀ (a b:Kd) (N:Nat),a.dep+2≤N→a.dep≤1000→∀ st,ac Γ N nh [a.toD,b.toD] st = .ok (Ac (a.par b)) st
 | a,b,N,h,h1,st=>by
   obtain ⟨n,rfl⟩:∃ n,N=n+3:=⟨N - 3,by cases a <;> (unfold Kd.dep at h;omega)⟩
   cases a with
   | whole=>cases b <;> kernel_rfl
   | truth=>cases b <;> kernel_rfl
   | unt=>cases b <;> kernel_rfl
   | row a=>cases b with
     | row c=>
       unfold Kd.dep at h h1
       have i1:=eA a c (n+2) (by omega) (by omega) st
       have s1:ac Γ (n+2) iI [(Kd.row a).toD] st = .ok (.tup [.str "item"]) st:=by kernel_rfl
       cases q:a.par c with
       | none=>
         rw [q] at i1
         rw [show (Kd.row a).par (.row c)=none by show (a.par c).map _=_;rw [q];rfl]
         exact ar false [.r (.ok (.tup [.str "item"]) st),.r (.ok (.lst [a.toD]) st),.r (.ok (.lst [c.toD]) st),.r (.ok .non st)] (s1<|>kin (.row a) [a.toD] rfl (n+1) st<|>kin (.row c) [c.toD] rfl (n+1) st<|>i1<|>Z) (by kernel_rfl)
       | some w=>
         rw [q] at i1
         have hw:=bE a c w q
         rw [show (Kd.row a).par (.row c)=some (("item":ι) :: w) by show (a.par c).map _=_;rw [q];rfl]
         exact ar false [.r (.ok (.tup [.str "item"]) st),.r (.ok (.lst [a.toD]) st),.r (.ok (.lst [c.toD]) st),.r (.ok (.tup (sts w)) st),.o 1 (.tup (sts (("item":ι) :: w)))] (s1<|>kin (.row a) [a.toD] rfl (n+1) st<|>kin (.row c) [c.toD] rfl (n+1) st<|>i1<|>ed "item" w (by omega)<|>Z) (by kernel_rfl)
     | _=>kernel_rfl
   | to a1 a2=>cases b with
     | to c1 c2=>
       unfold Kd.dep at h h1
       have i1:=eA a1 c1 (n+2) (by omega) (by omega) st
       have i2:=eA a2 c2 (n+2) (by omega) (by omega) st
       have s1:ac Γ (n+2) iI [(Kd.to a1 a2).toD] st = .ok (.tup [.str "arg",.str "res"]) st:=by kernel_rfl
       have k1:=kin (.to a1 a2) [a1.toD,a2.toD] rfl (n+1) st
       have k2:=kin (.to c1 c2) [c1.toD,c2.toD] rfl (n+1) st
       have e:(Kd.to a1 a2).par (.to c1 c2)=(match a1.par c1 with | some w=>some (("arg":ι) :: w) | none=>(a2.par c2).map (("res":ι) :: ·)):=rfl
       rw [e]
       cases q:a1.par c1 with
       | some w=>
         rw [q] at i1
         have hw:=bE a1 c1 w q
         exact ar false [.r (.ok (.tup [.str "arg",.str "res"]) st),.r (.ok (.lst [a1.toD,a2.toD]) st),.r (.ok (.lst [c1.toD,c2.toD]) st),.r (.ok (.tup (sts w)) st),.o 1 (.tup (sts (("arg":ι) :: w)))] (s1<|>k1<|>k2<|>i1<|>ed "arg" w (by omega)<|>Z) (by kernel_rfl)
       | none=>
         rw [q] at i1
         cases q2:a2.par c2 with
         | some w=>
           rw [q2] at i2
           have hw:=bE a2 c2 w q2
           exact ar false [.r (.ok (.tup [.str "arg",.str "res"]) st),.r (.ok (.lst [a1.toD,a2.toD]) st),.r (.ok (.lst [c1.toD,c2.toD]) st),.r (.ok .non st),.r (.ok (.tup (sts w)) st),.o 1 (.tup (sts (("res":ι) :: w)))] (s1<|>k1<|>k2<|>i1<|>i2<|>ed "res" w (by omega)<|>Z) (by kernel_rfl)
         | none=>
           rw [q2] at i2
           exact ar false [.r (.ok (.tup [.str "arg",.str "res"]) st),.r (.ok (.lst [a1.toD,a2.toD]) st),.r (.ok (.lst [c1.toD,c2.toD]) st),.r (.ok .non st),.r (.ok .non st)] (s1<|>k1<|>k2<|>i1<|>i2<|>Z) (by kernel_rfl)
     | _=>kernel_rfl
   | pair a1 a2=>cases b with
     | pair c1 c2=>
       unfold Kd.dep at h h1
       have i1:=eA a1 c1 (n+2) (by omega) (by omega) st
       have i2:=eA a2 c2 (n+2) (by omega) (by omega) st
       have s1:ac Γ (n+2) iI [(Kd.pair a1 a2).toD] st = .ok (.tup [.str "one",.str "two"]) st:=by kernel_rfl
       have k1:=kin (.pair a1 a2) [a1.toD,a2.toD] rfl (n+1) st
       have k2:=kin (.pair c1 c2) [c1.toD,c2.toD] rfl (n+1) st
       have e:(Kd.pair a1 a2).par (.pair c1 c2)=(match a1.par c1 with | some w=>some (("one":ι) :: w) | none=>(a2.par c2).map (("two":ι) :: ·)):=rfl
       rw [e]
       cases q:a1.par c1 with
       | some w=>
         rw [q] at i1
         have hw:=bE a1 c1 w q
         exact ar false [.r (.ok (.tup [.str "one",.str "two"]) st),.r (.ok (.lst [a1.toD,a2.toD]) st),.r (.ok (.lst [c1.toD,c2.toD]) st),.r (.ok (.tup (sts w)) st),.o 1 (.tup (sts (("one":ι) :: w)))] (s1<|>k1<|>k2<|>i1<|>ed "one" w (by omega)<|>Z) (by kernel_rfl)
       | none=>
         rw [q] at i1
         cases q2:a2.par c2 with
         | some w=>
           rw [q2] at i2
           have hw:=bE a2 c2 w q2
           exact ar false [.r (.ok (.tup [.str "one",.str "two"]) st),.r (.ok (.lst [a1.toD,a2.toD]) st),.r (.ok (.lst [c1.toD,c2.toD]) st),.r (.ok .non st),.r (.ok (.tup (sts w)) st),.o 1 (.tup (sts (("two":ι) :: w)))] (s1<|>k1<|>k2<|>i1<|>i2<|>ed "two" w (by omega)<|>Z) (by kernel_rfl)
         | none=>
           rw [q2] at i2
           exact ar false [.r (.ok (.tup [.str "one",.str "two"]) st),.r (.ok (.lst [a1.toD,a2.toD]) st),.r (.ok (.lst [c1.toD,c2.toD]) st),.r (.ok .non st),.r (.ok .non st)] (s1<|>k1<|>k2<|>i1<|>i2<|>Z) (by kernel_rfl)
     | _=>kernel_rfl
inductive Sp where
 | arg | res | item | one | two
def Sp.str:Sp→ι
 | .arg=>"arg" | .res=>"res" | .item=>"item" | .one=>"one" | .two=>"two"
def Kd.stp:Kd→Sp→Option Kd
 | .unt,_=>some .unt
 | .to a _,.arg=>some a
 | .to _ b,.res=>some b
 | .row a,.item=>some a
 | .pair a _,.one=>some a
 | .pair _ b,.two=>some b
 | _,_=>none
theorem uL (k k':Kd) (x:Sp) (h:k.stp x=some k') (n:Nat) (st:List O):ac Γ (n+4) pH [k.toD,.tup [.str x.str]] st = .ok k'.toD st:=by
 cases k <;> cases x <;> cases h <;> kernel_rfl
abbrev AlG (β:Type):=List (Key×β)
abbrev Al:=AlG Kd
def aB {β:Type} (l:AlG β) (k:Key) (v:β):AlG β:=if (l.any fun p=>decide (p.1=k))=true then l.map (fun p=>if p.1=k then (p.1,v) else p) else l ++ [(k,v)]
def aK {β:Type}:AlG β→Key→Option β
 | [],_=>none
 | p :: r,k=>if p.1=k then some p.2 else aK r k
def ksA {β:Type} (l:AlG β):List Key:=l.map (·.1)
def dsF {β:Type} (f:β→D) (l:AlG β):List D:=l.map fun p=>f p.2
abbrev dsA (l:Al):List D:=dsF Kd.toD l
abbrev dA (l:Al):D:=.dic (ksA l) (dsA l)
abbrev oA (l:Al):O:=.dic (ksA l) (dsA l)
theorem uO {β:Type} (f:β→D) (k:Key) (v:β):∀ l:AlG β,gI (ksA l) (dsF f l) k (f v)=dsF f (l.map fun p=>if p.1=k then (p.1,v) else p)
 | []=>rfl
 | p :: r=>by
   show (if p.1=k then f v else f p.2) :: gI (ksA r) (dsF f r) k (f v)=f (if p.1=k then (p.1,v) else p).2 :: dsF f _
   rw [uO f k v r]
   by_cases h:p.1=k <;> simp [h]
theorem vP {β:Type} (k:Key) (v:β) (l:AlG β):ksA (l.map fun p=>if p.1=k then (p.1,v) else p)=ksA l:=by
 unfold ksA
 rw [A6]
 refine ġ fun p _=>?_
 show (if p.1=k then (p.1,v) else p).1=p.1
 by_cases h:p.1=k <;> simp [h]
theorem uN {β:Type} (f:β→D) (l:AlG β) (k:Key) (v:β):bJ (ksA l) (dsF f l) k (f v)=(ksA (aB l k v),dsF f (aB l k v)):=by
 unfold bJ aB
 have e:((ksA l).any fun q=>decide (q=k))=l.any fun p=>decide (p.1=k):=by unfold ksA;rw [List.any_map];rfl
 rw [e]
 by_cases h:(l.any fun p=>decide (p.1=k))=true
 ·rw [ZZ h,ZZ h,uO,vP]
 ·rw [ZY h,ZY h];simp [ksA,dsF]
theorem uu {β:Type} (f:β→D) (k:Key):∀ l:AlG β,cA (ksA l) (dsF f l) k=(aK l k).map f
 | []=>rfl
 | p :: r=>by
   show (if p.1=k then some (f p.2) else cA (ksA r) (dsF f r) k)=(if p.1=k then some p.2 else aK r k).map f
   rw [uu f k r]
   by_cases h:p.1=k <;> simp [h]
theorem yd (k:Key) (l:Al):cA (ksA l) (dsA l) k=(aK l k).map Kd.toD:=uu _ k l
theorem bF {β:Type} (l:AlG β) (k:Key) (v:β):(aB l k v).length≤l.length+1:=by
 unfold aB
 split
 ·rw [Η];omega
 ·simp
theorem wS {β:Type} (f:β→D) (l:AlG β) (d:D) (k:Key) (hk:bv d=some k) (v:β) (h:l.length<100000):iY (.dic (ksA l) (dsF f l)) d (f v)=some (.dic (ksA (aB l k v)) (dsF f (aB l k v))):=by
 show (bv d).bind (fun k=>if (ksA l).length<100000 then some (D.dic (bJ (ksA l) (dsF f l) k (f v)).1 (bJ (ksA l) (dsF f l) k (f v)).2) else none)=_
 rw [hk]
 show (if (ksA l).length<100000 then some (D.dic (bJ (ksA l) (dsF f l) k (f v)).1 (bJ (ksA l) (dsF f l) k (f v)).2) else none)=_
 rw [ZZ (by unfold ksA;rw [Η];exact h),uN]
theorem iZ (l:Al) (x:ι) (v:Kd) (h:l.length<100000):iY (dA l) (.str x) v.toD=some (dA (aB l (.inr x) v)):=wS Kd.toD l (.str x) _ rfl v h
theorem qH (l:Al) (p:Int) (v:Kd) (h:l.length<100000):dX (oA l) (.int p) v.toD=some (oA (aB l (.inl p) v)):=by
 show (if (ksA l).length<100000 then some (O.dic (bJ (ksA l) (dsA l) (.inl p) v.toD).1 (bJ (ksA l) (dsA l) (.inl p) v.toD).2) else none)=_
 rw [ZZ (by unfold ksA;rw [Η];exact h),uN Kd.toD]
inductive Er where
 | name (p:Int) | deep (p:Int) | parted (p:Int) (k:Kd) (b:Int) (w:Kd) (way:List ι)
def Er.cls:Er→Nat
 | .name _=>2 | .deep _=>3 | .parted ..=>4
def Er.ds:Er→List D
 | .name p=>[.int p]
 | .deep p=>[.int p]
 | .parted p k b w way=>[.int p,k.toD,.int b,w.toD,.tup (sts way)]
theorem Ah {p:Int} (h:Sm p):eM Γ 3 [.int p]=true:=by
 show (true && ((decide (0≤p) && decide (p<100000)) && true) && true && true)=true
 simp [h.1,h.2]
theorem Ag {p b:Int} (h:Sm p) (h2:Sm b) (k w y:D):eM Γ 4 [.int p,k,.int b,w,y]=true:=by
 show (true && ((decide (0≤p) && decide (p<100000)) && ((decide (0≤b) && decide (b<100000)) && true)) && true && true)=true
 simp [h.1,h.2,h2.1,h2.2]
theorem nsh (t:T68) (k:Kd) (h:Sm t.pl) (N:Nat) (hN:k.dep+2≤N) (st:List O):ac Γ N fN [t.toD,k.toD] st=if 4<k.dep then .exc 3 [.int t.pl] st else .ok .non st:=by
 obtain ⟨n,rfl⟩:∃ n,N=n+1:=⟨N - 1,by omega⟩
 have d:=depth k n (by omega) st
 by_cases c:4<k.dep
 ·have e:decide (((k.dep:Nat):Int)>4)=true:=ZW (by omega)
  rw [ZZ c]
  exact ar false [.r (.ok (.int (k.dep:Nat)) st),.t 1 true,.o 0 (.int t.pl),.t 0 true] (d<|>e<|>bP t st<|>Ah h<|>Z) (by kernel_rfl)
 ·have e:decide (((k.dep:Nat):Int)>4)=false:=ZV (by omega)
  rw [ZY c]
  exact ar false [.r (.ok (.int (k.dep:Nat)) st),.t 1 false] (d<|>e<|>Z) (by kernel_rfl)
def nsR (x t:T68) (k w:Kd) (st:List O):Res:=match k.par w with
 | some y=>.exc 4 [.int x.pl,k.toD,.int t.pl,w.toD,.tup (sts y)] st
 | none=>.ok .non st
theorem nsm (x t:T68) (k w:Kd) (hx:Sm x.pl) (ht:Sm t.pl) (N:Nat) (hN:k.dep+3≤N) (hk:k.dep≤1000) (st:List O):ac Γ N jG [x.toD,k.toD,t.toD,w.toD] st=nsR x t k w st:=by
 obtain ⟨n,rfl⟩:∃ n,N=n+1:=⟨N - 1,by omega⟩
 have d:=eA k w n (by omega) hk st
 unfold nsR
 cases q:k.par w with
 | none=>
   rw [q] at d
   exact ar false [.r (.ok .non st)] (d<|>Z) (by kernel_rfl)
 | some y=>
   rw [q] at d
   exact ar false [.r (.ok (.tup (sts y)) st),.o 1 (.int x.pl),.o 0 (.int t.pl),.t 0 true] (d<|>bP x st<|>bP t st<|>Ag hx ht k.toD w.toD (.tup (sts y))<|>Z) (by kernel_rfl)
abbrev dsK (fs:List Kd):List D:=fs.map Kd.toD
def inN (t:T68) (i:Nat) (fs:List Kd) (N:Al):Al:=match t,i with
 | .fn _ x k _,_=>aB N (.inr x) k
 | .slf _ f x k g _,_=>aB (aB N (.inr f) (.to k g)) (.inr x) k
 | .lt _ x _ _,1=>aB N (.inr x) (fs.headD .unt)
 | _,_=>N
theorem bw (t:T68) (i:Nat) (y:T68) (hi:(ae t)[i]? = some y) (fs:List Kd) (hf:fs.length=i) (N:Al) (hN:N.length+1<100000) (n:Nat) (st:List O):ac Γ (n+1) fM [t.toD,.int i,.lst (dsK fs),dA N] st = .ok (dA (inN t i fs N)) st:=by
 cases t with
 | fn p x k b=>exact ar false [.o 6 (dA (aB N (.inr x) k))] (iZ N x k (by omega)<|>Z) (by kernel_rfl)
 | slf p f x k g b=>
   have:=bF N (.inr f) (.to k g)
   exact ar false [.o 10 (dA (aB N (.inr f) (.to k g))),.o 2 (dA (aB (aB N (.inr f) (.to k g)) (.inr x) k))] (iZ N f (.to k g) (by omega)<|>iZ (aB N (.inr f) (.to k g)) x k (by omega)<|>Z) (by kernel_rfl)
 | lt p x a b=>
   match i,hi,fs,hf with
   | 0,_,[],_=>kernel_rfl
   | 1,_,[c],_=>exact ar false [.o 14 (dA (aB N (.inr x) c))] (iZ N x c (by omega)<|>Z) (by kernel_rfl)
   | i+2,hi,_,_=>cases hi
 | _=>kernel_rfl
def aL:T68→List Kd→Kd
 | .bin ..,_=>.whole
 | .att ..,[_,_]=>.whole
 | .iff ..,[_]=>.truth
 | .row _ k _,_=>k
 | .as_ _ k _,_=>k
 | .slf _ _ _ _ g _,_=>g
 | .call ..,[a,_]=>(a.stp .arg).getD .unt
 | .call ..,[a]=>(match a with | .to _ _=>a | _=>.to .unt .unt)
 | .att ..,[a]=>(match a with | .row _=>a | _=>.row .unt)
 | .size ..,[a]=>(match a with | .row _=>a | _=>.row .unt)
 | .one ..,[a]=>(match a with | .pair _ _=>a | _=>.pair .unt .unt)
 | .two ..,[a]=>(match a with | .pair _ _=>a | _=>.pair .unt .unt)
 | _,fs=>fs.getLastD .unt
def dv:T68→List Kd→Bool
 | .iff ..,[_,_,_]=>true
 | _,_=>false
def Cl2:T68→List Kd→Prop
 | .call ..,[a,_]=>(a.stp .arg).isSome=true
 | _,_=>True
theorem wk (t:T68) (i:Nat) (y:T68) (hi:(ae t)[i]? = some y) (fs:List Kd) (hf:fs.length=i+1) (h3:dv t fs=false) (hc:Cl2 t fs) (n:Nat) (st:List O):ac Γ (n+5) gH [t.toD,.lst (dsK fs)] st = .ok (aL t fs).toD st:=by
 cases t with
 | row p k ts=>kernel_rfl
 | bin p o a b=>kernel_rfl
 | as_ p k a=>kernel_rfl
 | slf p f x k g b=>kernel_rfl
 | call p a b=>
   match i,hi,fs,hf,hc with
   | 0,_,[c],_,_=>cases c <;> kernel_rfl
   | 1,_,[c,d],_,hc=>
     cases q:c.stp .arg with
     | none=>have hc:(c.stp .arg).isSome=true:=hc;rw [q] at hc;cases hc
     | some e=>
       rw [show aL (.call p a b) [c,d]=e by show (c.stp .arg).getD .unt=e;rw [q];rfl]
       exact ar false [.r (.ok e.toD st)] (uL c e .arg q n st<|>Z) (by kernel_rfl)
   | i+2,hi,_,_,_=>cases hi
 | att p a b=>
   match i,hi,fs,hf with
   | 0,_,[c],_=>cases c <;> kernel_rfl
   | 1,_,[c,d],_=>kernel_rfl
   | i+2,hi,_,_=>cases hi
 | iff p c a b=>
   match i,hi,fs,hf,h3 with
   | 0,_,[c],_,_=>kernel_rfl
   | 1,_,[c,d],_,_=>kernel_rfl
   | 2,_,[c,d,e],_,h3=>cases h3
   | i+3,hi,_,_,_=>cases hi
 | fn p x k b=>
   match i,hi,fs,hf with
   | 0,_,[c],_=>kernel_rfl
   | i+1,hi,_,_=>cases hi
 | lt p x a b=>
   match i,hi,fs,hf with
   | 0,_,[c],_=>kernel_rfl
   | 1,_,[c,d],_=>kernel_rfl
   | i+2,hi,_,_=>cases hi
 | pair p a b=>
   match i,hi,fs,hf with
   | 0,_,[c],_=>kernel_rfl
   | 1,_,[c,d],_=>kernel_rfl
   | i+2,hi,_,_=>cases hi
 | size p a=>
   match i,hi,fs,hf with
   | 0,_,[c],_=>cases c <;> kernel_rfl
   | i+1,hi,_,_=>cases hi
 | one p a=>
   match i,hi,fs,hf with
   | 0,_,[c],_=>cases c <;> kernel_rfl
   | i+1,hi,_,_=>cases hi
 | two p a=>
   match i,hi,fs,hf with
   | 0,_,[c],_=>cases c <;> kernel_rfl
   | i+1,hi,_,_=>cases hi
 | lk p k l a=>
   match i,hi,fs,hf with
   | 0,_,[c],_=>kernel_rfl
   | i+1,hi,_,_=>cases hi
 | _=>cases hi
def cF:T68→List Kd→Al→Kd
 | .whole ..,_,_=>.whole
 | .given ..,_,_=>.whole
 | .size ..,_,_=>.whole
 | .truth ..,_,_=>.truth
 | .call ..,a :: _,_=>(a.stp .res).getD .unt
 | .att ..,a :: _,_=>(a.stp .item).getD .unt
 | .one ..,a :: _,_=>(a.stp .one).getD .unt
 | .two ..,a :: _,_=>(a.stp .two).getD .unt
 | .name _ x,_,N=>(aK N (.inr x)).getD .unt
 | .fn _ _ k _,b :: _,_=>.to k b
 | .slf _ _ _ k g _,_,_=>.to k g
 | .lt ..,[_,b],_=>b
 | .iff ..,[_,a,b],_=>a.join b
 | .bin _ o _ _,_,_=>(match o with | .lt=>.truth | .eq=>.truth | _=>.whole)
 | .row _ k _,_,_=>.row k
 | .pair ..,[a,b],_=>.pair a b
 | .as_ _ k _,_,_=>k
 | .lk _ k _ _,_,_=>k
 | _,_,_=>.unt
def Hld:T68→List Kd→Al→Prop
 | .call ..,a :: _,_=>(a.stp .res).isSome=true
 | .att ..,a :: _,_=>(a.stp .item).isSome=true
 | .one ..,a :: _,_=>(a.stp .one).isSome=true
 | .two ..,a :: _,_=>(a.stp .two).isSome=true
 | .name _ x,_,N=>(aK N (.inr x)).isSome=true
 | _,_,_=>True
theorem wK (t:T68) (fs:List Kd) (hf:fs.length=(ae t).length) (N:Al) (hh:Hld t fs N) (m:Nat) (hm:∀ k∈fs,k.dep≤m) (n:Nat) (hn:m+6≤n) (st:List O):ac Γ n kE [t.toD,.lst (dsK fs),dA N] st = .ok (cF t fs N).toD st:=by
 obtain ⟨n,rfl⟩:∃ k,n=k+5:=⟨n - 5,by omega⟩
 have pt:∀ {c:Kd} {x:Sp},(c.stp x).isSome=true→ac Γ (n+4) pH [c.toD,.tup [.str x.str]] st = .ok ((c.stp x).getD .unt).toD st:=fun {c x} h=>by
  cases q:c.stp x with
  | none=>rw [q] at h;cases h
  | some e=>exact uL c e x q n st
 cases t with
 | call p a b=>
   match fs,hf,hh with
   | [c,d],_,hh=>exact ar false [.r (.ok ((c.stp .res).getD .unt).toD st)] (pt hh<|>Z) (by kernel_rfl)
 | att p a b=>
   match fs,hf,hh with
   | [c,d],_,hh=>exact ar false [.r (.ok ((c.stp .item).getD .unt).toD st)] (pt hh<|>Z) (by kernel_rfl)
 | one p a=>
   match fs,hf,hh with
   | [c],_,hh=>exact ar false [.r (.ok ((c.stp .one).getD .unt).toD st)] (pt hh<|>Z) (by kernel_rfl)
 | two p a=>
   match fs,hf,hh with
   | [c],_,hh=>exact ar false [.r (.ok ((c.stp .two).getD .unt).toD st)] (pt hh<|>Z) (by kernel_rfl)
 | name p x=>
   have hh:(aK N (.inr x)).isSome=true:=hh
   cases q:aK N (.inr x) with
   | none=>rw [q] at hh;cases hh
   | some e=>
     have g:ixD (dA N) (.str x)=some e.toD:=by show cA (ksA N) (dsA N) (.inr x)=_;rw [yd,q];rfl
     rw [show cF (.name p x) fs N=e by show (aK N (.inr x)).getD .unt=e;rw [q];rfl]
     exact ar false [.o 6 e.toD] (g<|>Z) (by kernel_rfl)
 | fn p x k b=>
   match fs,hf with
   | [c],_=>kernel_rfl
 | lt p x a b=>
   match fs,hf with
   | [c,d],_=>kernel_rfl
 | iff p c a b=>
   match fs,hf,hm with
   | [c,d,e],_,hm=>
     have:=hm d (by simp)
     exact ar false [.r (.ok (d.join e).toD st)] (b8 d e (n+4) (by omega) st<|>Z) (by kernel_rfl)
 | pair p a b=>
   match fs,hf with
   | [c,d],_=>kernel_rfl
 | bin p o a b=>cases o <;> kernel_rfl
 | _=>kernel_rfl
abbrev ls (kd wd:Al):List O:=[.ins 5 [.ref 1,.ref 2],oA kd,oA wd]
theorem fg (t:T68) (k:Kd) (kd wd:Al) (h:wd.length<100000) (n:Nat):ac Γ (n+1) gF [.ref 0,t.toD,k.toD] (ls kd wd) = .ok .non (ls kd (aB wd (.inl t.pl) k)):=by
 have e:exS Γ (ac Γ n) (aj Γ n) gB.body ⟨[some (.ref 0),some t.toD,some k.toD],[],ls kd wd⟩ = .nx ⟨[some (.ref 0),some t.toD,some k.toD],[],ls kd (aB wd (.inl t.pl) k)⟩:=by
  have e1:ev Γ (ac Γ n) (aj Γ n) true (.ix (.v 1) (.c (.int 1))) ⟨[some (.ref 0),some t.toD,some k.toD],[],ls kd wd⟩ = .ok (.int t.pl) ⟨[some (.ref 0),some t.toD,some k.toD],[],ls kd wd⟩:=(dJ false (aX 0 (bP t (ls kd wd)) aZ) (by kernel_rfl))
  exact mh (o:=oA wd) (n:=2) rfl rfl e1 rfl (qH wd t.pl k h)
 exact (ag false (aX 0 (e) aZ) (by kernel_rfl))
def cC (t y:T68) (fs:List Kd) (wd:Al):Except Er Al:=match t,fs with
 | .iff _ _ a b,[_,f,g]=>(match g.par f with
   | some w=>.error (.parted b.pl g a.pl f w)
   | none=>.ok (aB (aB wd (.inl a.pl) (f.join g)) (.inl b.pl) (f.join g)))
 | _,_=>(match (fs.getLastD .unt).par (aL t fs) with
   | some w=>.error (.parted y.pl (fs.getLastD .unt) t.pl (aL t fs) w)
   | none=>.ok (aB wd (.inl y.pl) (aL t fs)))
def ux (kd wd:Al):Except Er Al→Res
 | .ok w=>.ok .non (ls kd w)
 | .error e=>.exc e.cls e.ds (ls kd wd)
theorem c6:cC (.iff p c a b) y [f0,f,g] wd=(match g.par f with | some w=>.error (.parted b.pl g a.pl f w) | none=>.ok (aB (aB wd (.inl a.pl) (f.join g)) (.inl b.pl) (f.join g))):=rfl
theorem sj {α:Type} (l:List α) (x:α):atI (l ++ [x]) (-1)=some x:=by
 show (ixN (l ++ [x]).length (-1)).bind _=_
 have e:ixN (l ++ [x]).length (-1)=some l.length:=by
  unfold ixN
  rw [ω,Κ]
  rw [ZY (by decide),ZZ (by omega)]
  congr 1;omega
 rw [e]
 show (l ++ [x])[l.length]? = some x
 simp
theorem yo (fs:List Kd) (i:Nat) (h:fs.length=i+1):ixD (.lst (dsK fs)) (.int (-1))=some (fs.getLastD .unt).toD:=by
 obtain ⟨l,x,rfl⟩:∃ l x,fs=l ++ [x]:=⟨_,_,(List.dropLast_concat_getLast (List.ne_nil_of_length_eq_add_one h)).symm⟩
 have e:(l ++ [x]).getLastD .unt=x:=by simp
 rw [e]
 show atI (dsK (l ++ [x])) (-1)=_
 unfold dsK
 rw [ϳ]
 exact sj _ _
theorem jJ (fs:List Kd) (i:Nat) (h:fs.length=i+1):fs.getLastD .unt∈fs:=by
 match fs,h with
 | k :: r,_=>rw [List.getLastD_cons,← List.getLast_eq_getLastD (List.cons_ne_nil k r)];exact List.getLast_mem _
theorem dK {t y:T68} {fs:List Kd} {wd:Al} (h3:dv t fs=false):cC t y fs wd=(match (fs.getLastD .unt).par (aL t fs) with | some w=>.error (.parted y.pl (fs.getLastD .unt) t.pl (aL t fs) w) | none=>.ok (aB wd (.inl y.pl) (aL t fs))):=by
 unfold cC
 split
 ·cases h3
 ·rfl
theorem fK {t:T68} {fs:List Kd} (h:dv t fs=true):∃ p c a b f0 f g,t = .iff p c a b∧fs = [f0,f,g]:=by
 cases t with
 | iff p c a b=>match fs,h with | [f0,f,g],_=>exact ⟨p,c,a,b,f0,f,g,rfl,rfl⟩
 | _=>cases h
theorem pD {p:Int} {c a b y:T68} {fs:List Kd} {i:Nat} (hf:fs.length=i+1) (h3:dv (.iff p c a b) fs=false) (hy:(ae (.iff p c a b))[i]? = some y):(∃ f0,fs = [f0])∨∃ f0 f1,fs = [f0,f1]:=by
 have l3:i<3:=(ο.mp hy).1
 match fs with
 | []=>cases hf
 | [f0]=>exact .inl ⟨f0,rfl⟩
 | [f0,f1]=>exact .inr ⟨f0,f1,rfl⟩
 | [f0,f1,f2]=>cases h3
 | f0 :: f1 :: f2 :: f3 :: r=>simp only [Ι] at hf;omega
theorem rX (t y:T68) (i:Nat) (hy:(ae t)[i]? = some y) (fs:List Kd) (hf:fs.length=i+1) (hc:Cl2 t fs) (sy:Sm y.pl) (st:Sm t.pl) (sk:∀ z∈ae t,Sm z.pl) (hd:∀ k∈fs,k.dep≤4) (kd wd:Al) (hw:wd.length+1<100000) (n:Nat):ac Γ (n+9) gD [.ref 0,t.toD,y.toD,.lst (dsK fs)] (ls kd wd)=ux kd wd (cC t y fs wd):=by
 by_cases h3:dv t fs=true
 ·obtain ⟨p,c,a,b,f0,f1,f2,rfl,rfl⟩:=fK h3
  have d1:=hd f1 (by simp)
  have d2:=hd f2 (by simp)
  have sa:=sk a (show a∈[c,a,b] by simp)
  have sb:=sk b (show b∈[c,a,b] by simp)
  have ns:=nsm b a f2 f1 sb sa (n+7) (by omega) (by omega) (ls kd wd)
  have j1:=b8 f1 f2 (n+7) (by omega) (ls kd wd)
  have j2:=b8 f1 f2 (n+7) (by omega) (ls kd (aB wd (.inl a.pl) (f1.join f2)))
  have pl:=bF wd (.inl a.pl) (f1.join f2)
  have w1:=fg a (f1.join f2) kd wd (by omega) (n+6)
  have w2:=fg b (f1.join f2) kd (aB wd (.inl a.pl) (f1.join f2)) (by omega) (n+6)
  unfold nsR at ns
  have hch:ac Γ (n+8) cO [.ref 0,(T68.iff p c a b).toD,.lst (dsK [f0,f1,f2])] (ls kd wd)=ux kd wd (cC (.iff p c a b) y [f0,f1,f2] wd):=by
   rw [c6]
   cases q:f2.par f1 with
   | some w=>rw [q] at ns;exact (ag false (aX 0 (ns) aZ) (by kernel_rfl))
   | none=>rw [q] at ns;exact (ag false (aX 0 (ns) (aX 0 (j1) (aX 0 (w1) (aX 0 (j2) (aX 0 (w2) aZ))))) (by kernel_rfl))
  rw [c6] at hch ⊢
  cases q:f2.par f1 with
  | some w=>rw [q] at hch;exact (ag false (aX 0 (hch) aZ) (by kernel_rfl))
  | none=>rw [q] at hch;exact (ag false (aX 0 (hch) aZ) (by kernel_rfl))
 ·have h3:dv t fs=false:=by simpa using h3
  rw [dK h3]
  have kk:=wk t i y hy fs hf h3 hc (n+3) (ls kd wd)
  have ld:(fs.getLastD .unt).dep≤4:=hd _ (jJ fs i hf)
  have ns:=nsm y t (fs.getLastD .unt) (aL t fs) sy st (n+8) (by omega) (by omega) (ls kd wd)
  have w1:=fg y (aL t fs) kd wd (by omega) (n+7)
  have la:=yo fs i hf
  unfold nsR at ns
  cases q:(fs.getLastD .unt).par (aL t fs) with
  | some w=>
    rw [q] at ns
    cases t with
    | iff p c a b=>
      rcases pD hf h3 hy with ⟨f0,rfl⟩ | ⟨f0,f1,rfl⟩
      ·exact (ag false (aX 0 (kk) (aX 0 (la) (aX 0 (ns) aZ))) (by kernel_rfl))
      ·exact (ag false (aX 0 (kk) (aX 0 (la) (aX 0 (ns) aZ))) (by kernel_rfl))
    | _=>exact (ag false (aX 0 (kk) (aX 0 (la) (aX 0 (ns) aZ))) (by kernel_rfl))
  | none=>
    rw [q] at ns
    cases t with
    | iff p c a b=>
      rcases pD hf h3 hy with ⟨f0,rfl⟩ | ⟨f0,f1,rfl⟩
      ·exact (ag false (aX 0 (kk) (aX 0 (la) (aX 0 (ns) (aX 0 (w1) aZ)))) (by kernel_rfl))
      ·exact (ag false (aX 0 (kk) (aX 0 (la) (aX 0 (ns) (aX 0 (w1) aZ)))) (by kernel_rfl))
    | _=>exact (ag false (aX 0 (kk) (aX 0 (la) (aX 0 (ns) (aX 0 (w1) aZ)))) (by kernel_rfl))
abbrev LR:=Except Er (Kd×Al×Al)
def bq (f:T68→Al→Al→Al→LR) (t:T68) (N:Al):List T68→List Kd→Al→Al→Except Er (List Kd×Al×Al)
 | [],fs,kd,wd=>.ok (fs,kd,wd)
 | y :: r,fs,kd,wd=>match f y (inN t fs.length fs N) kd wd with
   | .error e=>.error e
   | .ok (k,kd1,wd1)=>match cC t y (fs ++ [k]) wd1 with
     | .error e=>.error e
     | .ok wd2=>bq f t N r (fs ++ [k]) kd1 wd2
def lkM:Nat→T68→Al→Al→Al→LR
 | 0,t,_,_,_=>.error (.deep t.pl)
 | n+1,t,N,kd,wd=>if (wks t).any (fun k=>decide (4<k.dep))=true then .error (.deep t.pl) else
   match bq (lkM n) t N (ae t) [] kd wd with
   | .error e=>.error e
   | .ok (fs,kd1,wd1)=>if 4<(cF t fs N).dep then .error (.deep t.pl) else .ok (cF t fs N,aB kd1 (.inl t.pl) (cF t fs N),wd1)
def nb:Nat→Nat
 | 0=>0
 | n+1=>1+4 * nb n
structure NK (N:Al) (bs:List ι) (r:Nat):Prop where
 has:∀ x∈bs,(aK N (.inr x)).isSome=true
 dp:∀ p∈N,p.2.dep≤5
 few:N.length+2 * r≤1000
theorem iz {β:Type} (l:AlG β) (k:Key) (v:β) (x:Key):aK (aB l k v) x=if k=x then some v else aK l x:=by
 have rep:∀ l:AlG β,(l.any fun p=>decide (p.1=k))=true→aK (l.map (fun p=>if p.1=k then (p.1,v) else p)) x=if k=x then some v else aK l x:=by
  intro l
  induction l with
  | nil=>intro h;cases h
  | cons p r ih=>
    intro h
    show (if (if p.1=k then (p.1,v) else p).1=x then some (if p.1=k then (p.1,v) else p).2 else aK (r.map _) x)=if k=x then some v else if p.1=x then some p.2 else aK r x
    by_cases hk:p.1=k
    ·simp only [hk,if_true]
     by_cases hx:k=x
     ·simp [hx]
     ·simp only [hx,if_false]
      by_cases hr:(r.any fun p=>decide (p.1=k))=true
      ·rw [ih hr,ZY hx]
      ·have:∀ q∈r,q.1≠k:=fun q hq e=>hr (Ï.mpr ⟨q,hq,by simpa using e⟩)
       have e:r.map (fun p=>if p.1=k then (p.1,v) else p)=r:=by
        conv=>rhs;rw [← C6 r]
        refine ġ fun q hq=>?_
        rw [ZY (this q hq)];rfl
       rw [e]
    ·simp only [hk,if_false]
     have hr:(r.any fun p=>decide (p.1=k))=true:=by simpa [hk] using h
     rw [ih hr]
     by_cases hx:k=x
     ·subst hx;simp [hk]
     ·simp [hx]
 have app:∀ l:AlG β,(l.any fun p=>decide (p.1=k))=false→aK (l ++ [(k,v)]) x=if k=x then some v else aK l x:=by
  intro l
  induction l with
  | nil=>intro h;show (if k=x then some v else none)=_;rfl
  | cons p r ih=>
    intro h
    have h2:p.1≠k∧(r.any fun p=>decide (p.1=k))=false:=by simpa using h
    show (if p.1=x then some p.2 else aK (r ++ [(k,v)]) x)=if k=x then some v else if p.1=x then some p.2 else aK r x
    rw [ih h2.2]
    by_cases hx:k=x
    ·subst hx;simp [h2.1]
    ·simp [hx]
 unfold aB
 by_cases h:(l.any fun p=>decide (p.1=k))=true
 ·rw [ZZ h];exact rep l h
 ·rw [ZY h];exact app l (CS.mpr h)
theorem cb {P:Kd→Prop} {l:Al} {k:Key} {v:Kd} (h:∀ p∈l,P p.2) (hv:P v):∀ p∈aB l k v,P p.2:=by
 unfold aB
 split
 ·intro p hp
  obtain ⟨q,hq,rfl⟩:=ϖ.mp hp
  by_cases c:q.1=k
  ·rw [ZZ c];exact hv
  ·rw [ZY c];exact h q hq
 ·intro p hp
  rcases Ϡ.mp hp with hp | hp
  ·exact h p hp
  ·rw [η.mp hp];exact hv
def wb:Nat→Nat
 | 0=>0
 | n+1=>4 * wb n+4
theorem rU {N:Al} {bs:List ι} (h:∀ x∈bs,(aK N (.inr x)).isSome=true) (x:ι) (k:Kd):∀ y∈bs ++ [x],(aK (aB N (.inr x) k) (.inr y)).isSome=true:=by
 intro y hy
 rw [iz]
 by_cases e:x=y
 ·subst e;rw [ZZ rfl];rfl
 ·rw [ZY (fun h=>e (Df h))]
  rcases Ϡ.mp hy with hy | hy
  ·exact h y hy
  ·exact ZX (η.mp hy).symm e
theorem NK.inN {N:Al} {bs:List ι} {r:Nat} (h:NK N bs (r+1)) {t:T68} (hw:∀ k∈wks t,k.dep≤4) {fs:List Kd} (hf:∀ k∈fs,k.dep≤4) (i:Nat):NK (inN t i fs N) (bs ++ bnd t i) r:=by
 obtain ⟨h1,h2,h3⟩:=h
 have same:NK N (bs ++ []) r:=⟨by rw [ώ];exact h1,h2,by omega⟩
 cases t with
 | fn p x k b=>
   have l:=bF N (.inr x) k
   exact ⟨rU h1 x k,cb (P:=fun k=>k.dep≤5) h2 (by have:=hw k (.head _);omega),by show (aB N (.inr x) k).length+2 * r≤1000;omega⟩
 | slf p f x k g b=>
   have l:=bF N (.inr f) (.to k g)
   have l2:=bF (aB N (.inr f) (.to k g)) (.inr x) k
   have k1:=hw k (.head _)
   have g1:=hw g (.tail _ (.head _))
   have q:=rU (rU h1 f (.to k g)) x k
   rw [ϩ] at q
   exact ⟨q,cb (P:=fun k=>k.dep≤5) (cb (P:=fun k=>k.dep≤5) h2 (by show 1+max k.dep g.dep≤5;omega)) (by omega),by show (aB (aB N (.inr f) (.to k g)) (.inr x) k).length+2 * r≤1000;omega⟩
 | lt p x a b=>
   match i with
   | 0=>exact same
   | 1=>
     have l:=bF N (.inr x) (fs.headD .unt)
     refine ⟨rU h1 x _,cb (P:=fun k=>k.dep≤5) h2 ?_,by show (aB N (.inr x) (fs.headD .unt)).length+2 * r≤1000;omega⟩
     cases fs with
     | nil=>decide
     | cons a r=>have:=hf a (by simp);show a.dep≤5;omega
   | i+2=>exact same
 | _=>exact same
def H1 (t:T68) (fs:List Kd):Prop:=∀ a r,fs=a :: r→a.par (aL t [a])=none
theorem pd {p:Int} {x y:T68} {a:Kd} (h:a.par (aL (.call p x y) [a])=none):(a.stp .arg).isSome=true∧(a.stp .res).isSome=true:=by cases a <;> first | exact ⟨rfl,rfl⟩ | cases h
theorem cl2 {t:T68} {fs:List Kd} (h:H1 t fs) (k:Kd):Cl2 t (fs ++ [k]):=by
 cases t with
 | call p x y=>
   match fs,h with
   | [],h=>exact trivial
   | [a],h=>exact (pd (h a [] rfl)).1
   | a :: b :: [],h=>exact trivial
   | a :: b :: c :: r,h=>exact trivial
 | _=>exact trivial
theorem hld {t:T68} {fs:List Kd} (h:H1 t fs) (N:Al) (hn:∀ p x,t = .name p x→(aK N (.inr x)).isSome=true):Hld t fs N:=by
 cases t with
 | call p x y=>
   cases fs with
   | nil=>exact trivial
   | cons a r=>exact (pd (h a r rfl)).2
 | att p x y=>
   cases fs with
   | nil=>exact trivial
   | cons a r=>have h:=h a r rfl;cases a <;> first | rfl | cases h
 | one p x=>
   cases fs with
   | nil=>exact trivial
   | cons a r=>have h:=h a r rfl;cases a <;> first | rfl | cases h
 | two p x=>
   cases fs with
   | nil=>exact trivial
   | cons a r=>have h:=h a r rfl;cases a <;> first | rfl | cases h
 | name p x=>exact hn p x rfl
 | _=>exact trivial
def LkR (n:Nat) (kd wd:Al) (c:Res):LR→Prop
 | .ok (k,kd',wd')=>k.dep≤4∧kd'.length≤kd.length+nb n∧wd'.length≤wd.length+wb n∧c = .ok k.toD (ls kd' wd')
 | .error e=>∃ kd' wd',c = .exc e.cls e.ds (ls kd' wd')
theorem fT:∀ k:Kd,noL k.toD=true
 | .whole=>rfl
 | .truth=>rfl
 | .unt=>rfl
 | .row a=>by show (true && (noL a.toD && true))=true;rw [fT a];rfl
 | .to a b=>by show (true && (noL a.toD && (noL b.toD && true)))=true;rw [fT a,fT b];rfl
 | .pair a b=>by show (true && (noL a.toD && (noL b.toD && true)))=true;rw [fT a,fT b];rfl
theorem iS:∀ l:Al,eR (dsA l)=true
 | []=>rfl
 | p :: r=>by show (noL p.2.toD && eR (dsA r))=true;rw [fT,iS r];rfl
theorem kM (d:D) (h:noL d=true) (kd wd:Al):(noL d && (ls kd wd).all jP)=true:=by
 rw [h]
 show (true && (true && (eR (dsA kd) && (eR (dsA wd) && true))))=true
 rw [iS,iS];rfl
abbrev wB:S:=dC dq.body
abbrev kB:S:=dC (tlS 1 dq.body)
theorem mF (t:T68) (N:Al) (hs:Sm t.pl) (m:Nat) (S:List O):∀ (ks:List Kd) (e:Option D),(∀ k∈ks,k.dep+2≤m)→∃ e':Option D,aO (eP Γ (ac Γ m) (aj Γ m) [3] true wB) (ks.map Kd.toD) ⟨[some (.ref 0),some t.toD,some (dA N),e,none,none,none,none],[],S⟩=if ks.any (fun k=>decide (4<k.dep))=true then .exc 3 [.int t.pl] ⟨[some (.ref 0),some t.toD,some (dA N),e',none,none,none,none],[],S⟩ else .nx ⟨[some (.ref 0),some t.toD,some (dA N),e',none,none,none,none],[],S⟩
 | [],e,_=>⟨e,rfl⟩
 | k :: r,e,h=>by
   have n1:=nsh t k hs m (h k (by simp)) S
   by_cases c:4<k.dep
   ·rw [ZZ c] at n1
    refine ⟨some k.toD,?_⟩
    rw [ZZ (by simp [c])]
    refine fH (aM rfl ?_) (fun s h=>by cases h)
    exact (bU false (aX 0 (n1) aZ) (by kernel_rfl))
   ·rw [ZY c] at n1
    obtain ⟨e',h2⟩:=mF t N hs m S r (some k.toD) (fun k hk=>h k (by simp [hk]))
    refine ⟨e',?_⟩
    rw [show ((k :: r).any fun k=>decide (4<k.dep))=(r.any fun k=>decide (4<k.dep)) by simp [c]]
    refine aP (s1:=⟨[some (.ref 0),some t.toD,some (dA N),some k.toD,none,none,none,none],[],S⟩) (aM rfl ?_) h2
    exact (bU false (aX 0 (n1) aZ) (by kernel_rfl))
def xt:T68→Nat
 | .iff ..=>2
 | _=>1
theorem uU (t:T68):1≤xt t∧xt t≤2:=by cases t <;> exact ⟨Θ rfl,Θ rfl⟩
theorem py {t y:T68} {fs:List Kd} {wd wd':Al} (h:cC t y fs wd = .ok wd'):wd'.length≤wd.length+xt t:=by
 by_cases h3:dv t fs=true
 ·obtain ⟨p,c,a,b,f0,f,g,rfl,rfl⟩:=fK h3
  ·skip
   rw [c6] at h
   cases q:g.par f with
   | some w=>rw [q] at h;cases h
   | none=>
     rw [q] at h;cases h
     have:=bF (aB wd (.inl a.pl) (f.join g)) (.inl b.pl) (f.join g)
     have:=bF wd (.inl a.pl) (f.join g)
     show _≤wd.length+2;omega
 ·rw [dK (by simpa using h3)] at h
  cases q:(fs.getLastD .unt).par (aL t fs) with
  | some w=>rw [q] at h;cases h
  | none=>
    rw [q] at h;cases h
    have:=bF wd (.inl y.pl) (aL t fs)
    have:=uU t
    omega
theorem rW {t y:T68} {k:Kd} {wd wd':Al} (h:cC t y [k] wd = .ok wd'):k.par (aL t [k])=none:=by
 have h:(match k.par (aL t [k]) with | some w=>.error (.parted y.pl k t.pl (aL t [k]) w) | none=>.ok (aB wd (.inl y.pl) (aL t [k])):Except Er Al) = .ok wd':=by
  cases t <;> exact h
 cases q:k.par (aL t [k]) with
 | some w=>rw [q] at h;cases h
 | none=>rfl
def kst (t:T68) (N:Al) (e3:Option D) (fs:List Kd) (e5 e6:Option D) (kd wd:Al):Sta:=⟨[some (.ref 0),some t.toD,some (dA N),e3,some (.lst (dsK fs)),e5,e6,none],[4],ls kd wd⟩
def KdR (t:T68) (N:Al) (e3:Option D) (n l:Nat) (kd wd:Al) (c:ak):Except Er (List Kd×Al×Al)→Prop
 | .ok (fs,kd',wd')=>(∀ k∈fs,k.dep≤4)∧H1 t fs∧kd'.length≤kd.length+l * nb n∧wd'.length≤wd.length+l * (wb n+xt t)∧∃ e5 e6,c = .nx (kst t N e3 fs e5 e6 kd' wd')
 | .error e=>∃ env ow kd' wd',c = .exc e.cls e.ds ⟨env,ow,ls kd' wd'⟩
def LkI (W:List ι) (n m:Nat):Prop:=∀ (y:T68) (N kd wd:Al) (bs:List ι),Ok W n bs y→NK N bs n→kd.length+nb n<90000→wd.length+wb n<90000→LkR n kd wd (ac Γ m gE [.ref 0,y.toD,dA N] (ls kd wd)) (lkM n y N kd wd)
theorem lJ {W:List ι} {n m:Nat} (hm:9≤m) (ih:LkI W n m) (t:T68) (N:Al) (bs:List ι) (ot:Ok W (n+1) bs t) (hw4:∀ k∈wks t,k.dep≤4) (nk:NK N bs (n+1)) (e3:Option D):∀ (r:List T68) (fs:List Kd) (kd wd:Al) (e5 e6:Option D),(∀ j y,r[j]? = some y→(ae t)[fs.length+j]? = some y)→H1 t fs→(∀ k∈fs,k.dep≤4)→kd.length+r.length * nb n<90000→wd.length+r.length * (wb n+xt t)<90000→fs.length+r.length<1000 →
 KdR t N e3 n r.length kd wd (aO (eP Γ (ac Γ m) (aj Γ m) [5,6] false kB) (bG (fs.length:Nat) (toDs r)) (kst t N e3 fs e5 e6 kd wd)) (bq (lkM n) t N r fs kd wd)
 | [],fs,kd,wd,e5,e6,_,h1,hf,_,_,_=>⟨hf,h1,by simp,by simp,e5,e6,rfl⟩
 | y :: r,fs,kd,wd,e5,e6,hr,h1,hf,hk,hw,hl=>by
   obtain ⟨o1,o2,o3,o4⟩:=ot
   have hy:(ae t)[fs.length]? = some y:=hr 0 y rfl
   have oy:=o4 _ _ hy
   have ny:=nk.inN hw4 hf fs.length
   simp only [Ι,Ĳ,Ţ] at hk hw hl
   have x1:=uU t
   obtain ⟨q,rfl⟩:∃ q,m=q+9:=⟨m - 9,by omega⟩
   have b1:=bw t fs.length y hy fs rfl N (by have:=nk.few;omega) (q+8) (ls kd wd)
   have nl:=kM (dA (inN t fs.length fs N)) (iS _) kd wd
   have i1:=ih y (inN t fs.length fs N) kd wd (bs ++ bnd t fs.length) oy ny (by omega) (by omega)
   have l0:decide ((dsK fs).length<100000)=true:=ZW (by rw [Η];omega)
   unfold bq
   cases q1:lkM n y (inN t fs.length fs N) kd wd with
   | error e=>
     rw [q1] at i1
     obtain ⟨kd',wd',i1⟩:=i1
     refine ⟨[some (.ref 0),some t.toD,some (dA N),e3,some (.lst (dsK fs)),some (.int fs.length),some y.toD,none],[4],kd',wd',?_⟩
     refine fH (aM rfl ?_) (fun s h=>by cases h)
     exact (bU false (aX 0 (b1) (aX 0 (nl) (aX 0 (i1) aZ))) (by kernel_rfl))
   | ok v=>
     obtain ⟨k,kd1,wd1⟩:=v
     rw [q1] at i1
     obtain ⟨dk,lk1,lw1,i1⟩:=i1
     have sy:Sm y.pl:=by
      cases n with
      | zero=>exact oy.elim
      | succ n=>exact oy.2.1
     have sk:∀ z∈ae t,Sm z.pl:=fun z hz=>by
      obtain ⟨j,hj⟩:=ϓ.mp hz
      have oz:=o4 j z hj
      cases n with
      | zero=>exact oz.elim
      | succ n=>exact oz.2.1
     have hf2:∀ k'∈fs ++ [k],k'.dep≤4:=fun k' h=>by
      rcases Ϡ.mp h with h | h
      ·exact hf k' h
      ·rw [η.mp h];exact dk
     have h2:=rX t y fs.length hy (fs ++ [k]) (by simp) (cl2 h1 k) sy o2 sk hf2 kd1 wd1 (by omega) q
     have ek:dsK fs ++ [k.toD]=dsK (fs ++ [k]):=by simp [dsK]
     rw [← ek] at h2
     have nl2:=kM .non rfl kd1
     dsimp only
     cases q2:cC t y (fs ++ [k]) wd1 with
     | error e=>
       rw [q2] at h2
       refine ⟨[some (.ref 0),some t.toD,some (dA N),e3,some (.lst (dsK fs ++ [k.toD])),some (.int fs.length),some y.toD,none],[],kd1,wd1,?_⟩
       refine fH (aM rfl ?_) (fun s h=>by cases h)
       exact (bU false (aX 0 (b1) (aX 0 (nl) (aX 0 (i1) (aX 0 (l0) (aX 0 (h2) aZ))))) (by kernel_rfl))
     | ok wd2=>
       rw [q2] at h2
       have hl2:=py q2
       have i2:=lJ hm ih t N bs ⟨o1,o2,o3,o4⟩ hw4 nk e3 r (fs ++ [k]) kd1 wd2 (some (.int fs.length)) (some y.toD) (fun j z hz=>by rw [ω,Κ,ű,Œ 1];exact hr (j+1) z hz) (by
        intro a r' e
        cases fs with
        | nil=>cases e;exact rW q2
        | cons a' r''=>cases e;exact h1 a _ rfl) hf2 (by omega) (by omega) (by rw [ω,Κ];omega)
       have st:eP Γ (ac Γ (q+9)) (aj Γ (q+9)) [5,6] false kB (.tup [.int fs.length,y.toD]) (kst t N e3 fs e5 e6 kd wd) = .nx (kst t N e3 (fs ++ [k]) (some (.int fs.length)) (some y.toD) kd1 wd2):=by
        unfold kst
        rw [← ek]
        refine aM rfl ?_
        exact (bU false (aX 0 (b1) (aX 0 (nl) (aX 0 (i1) (aX 0 (l0) (aX 0 (h2) (aX 0 (nl2 wd2) aZ)))))) (by kernel_rfl))
       have go:aO (eP Γ (ac Γ (q+9)) (aj Γ (q+9)) [5,6] false kB) (bG (fs.length:Nat) (toDs (y :: r))) (kst t N e3 fs e5 e6 kd wd)=aO (eP Γ (ac Γ (q+9)) (aj Γ (q+9)) [5,6] false kB) (bG ((fs ++ [k]).length:Nat) (toDs r)) (kst t N e3 (fs ++ [k]) (some (.int fs.length)) (some y.toD) kd1 wd2):=by
        refine aP st ?_
        rw [ω];rfl
       rw [go]
       dsimp only
       cases q3:bq (lkM n) t N r (fs ++ [k]) kd1 wd2 with
       | error e=>rw [q3] at i2;exact i2
       | ok v=>
         obtain ⟨fs',kd',wd'⟩:=v
         rw [q3] at i2
         obtain ⟨a1,a2,a3,a4,a5⟩:=i2
         refine ⟨a1,a2,?_,?_,a5⟩
         ·simp only [Ι,Ĳ,Ţ];omega
         ·simp only [Ι,Ĳ,Ţ];omega
theorem jR {W bs:List ι} {t:T68} (h:own W bs t):∀ p x,t = .name p x→x∈bs:=fun p x e=>by subst e;exact h
theorem tR {W bs:List ι} {t:T68} (h:own W bs t) (n:Nat) (hn:ae t = []∨1≤n):(ae t).length * (wb n+xt t)≤wb (n+1):=by
 have l:=bH h
 show _≤4 * wb n+4
 rcases hn with e | hn
 ·rw [e];simp
 ·have w4:4≤wb n:=by
   cases n with
   | zero=>omega
   | succ n=>show 4≤4 * wb n+4;omega
  cases t with
  | iff p c a b=>show 3 * (wb n+2)≤_;omega
  | _=>exact ϰ (ü _ l) (by show 4 * (wb n+1)≤_;omega)
theorem pJ {W:List ι} {bs:List ι} {n:Nat} {t:T68} (h:∀ i k,(ae t)[i]? = some k→Ok W n (bs ++ bnd t i) k):ae t = []∨1≤n:=by
 cases n with
 | succ n=>exact .inr (by omega)
 | zero=>
   cases q:ae t with
   | nil=>exact .inl rfl
   | cons a r=>rw [q] at h;exact (h 0 a rfl).elim
theorem hH {f:T68→Al→Al→Al→LR} {t:T68} {N:Al}:∀ (r:List T68) (fs:List Kd) (kd wd:Al) {v:List Kd×Al×Al},bq f t N r fs kd wd = .ok v→v.1.length=fs.length+r.length
 | [],fs,kd,wd,v,h=>by cases h;rfl
 | y :: r,fs,kd,wd,v,h=>by
   unfold bq at h
   cases q1:f y (inN t fs.length fs N) kd wd with
   | error e=>rw [q1] at h;cases h
   | ok w=>
     obtain ⟨k,kd1,wd1⟩:=w
     rw [q1] at h
     dsimp only at h
     cases q2:cC t y (fs ++ [k]) wd1 with
     | error e=>rw [q2] at h;cases h
     | ok wd2=>
       rw [q2] at h
       have:=hH r _ _ _ h
       rw [this,ω,Κ,Ι];omega
theorem mD {a b:Kd} {x:Sp} (h:a.stp x=some b):b.dep≤a.dep:=by
 cases a <;> cases x <;> cases h <;> first | exact Ο _ | (unfold Kd.dep;omega) | (show _≤1+max _ _;omega) | (show _≤1+_;omega)
theorem d6 (a:Kd) (x:Sp) (h:a.dep≤5):((a.stp x).getD .unt).dep≤5:=by
 cases q:a.stp x with
 | none=>decide
 | some b=>have:=mD q;show b.dep≤5;omega
theorem bY:∀ a b:Kd,(a.join b).dep≤a.dep
 | .whole,b=>by cases b <;> exact Ο _
 | .truth,b=>by cases b <;> exact Ο _
 | .unt,b=>by cases b <;> exact Ο _
 | .row a,b=>by
   cases b with
   | row c=>have:=bY a c;show 1+(a.join c).dep≤1+a.dep;omega
   | _=>show 1≤1+a.dep;omega
 | .to a a',b=>by
   cases b with
   | to c c'=>have:=bY a c;have:=bY a' c';show 1+max (a.join c).dep (a'.join c').dep≤1+max a.dep a'.dep;omega
   | _=>show 1≤1+_;omega
 | .pair a a',b=>by
   cases b with
   | pair c c'=>have:=bY a c;have:=bY a' c';show 1+max (a.join c).dep (a'.join c').dep≤1+max a.dep a'.dep;omega
   | _=>show 1≤1+_;omega
theorem pb {β:Type} {l:AlG β} {x:Key} {k:β} (h:aK l x=some k):∃ p∈l,p.2=k:=by
 induction l with
 | nil=>cases h
 | cons p r ih=>
   have h:(if p.1=x then some p.2 else aK r x)=some k:=h
   by_cases c:p.1=x
   ·rw [ZZ c] at h;exact ⟨p,by simp,by cases h;rfl⟩
   ·rw [ZY c] at h;obtain ⟨q,hq,e⟩:=ih h;exact ⟨q,by simp [hq],e⟩
theorem tq {W bs:List ι} (t:T68) (ho:own W bs t) (fs:List Kd) (N:Al) (hf:∀ k∈fs,k.dep≤4) (hw:∀ k∈wks t,k.dep≤4) (hn:∀ p∈N,p.2.dep≤5):(cF t fs N).dep≤5:=by
 have u:Kd.unt.dep≤5:=by decide
 cases t with
 | call p a b=>cases fs with
   | nil=>exact u
   | cons k r=>have:=hf k (by simp);exact d6 k .res (by omega)
 | att p a b=>cases fs with
   | nil=>exact u
   | cons k r=>have:=hf k (by simp);exact d6 k .item (by omega)
 | one p a=>cases fs with
   | nil=>exact u
   | cons k r=>have:=hf k (by simp);exact d6 k .one (by omega)
 | two p a=>cases fs with
   | nil=>exact u
   | cons k r=>have:=hf k (by simp);exact d6 k .two (by omega)
 | name p x=>
   show ((aK N (.inr x)).getD .unt).dep≤5
   cases q:aK N (.inr x) with
   | none=>exact u
   | some k=>obtain ⟨r,hr,e⟩:=pb q;rw [← e];exact hn r hr
 | fn p x k b=>
   have h1:=hw k (.head _)
   match fs,hf with
   | [],_=>exact u
   | c :: r,hf=>have:=hf c (by simp);show 1+max k.dep c.dep≤5;omega
 | slf p f x k g b=>
   have h1:=hw k (.head _)
   have h2:=hw g (.tail _ (.head _))
   show 1+max k.dep g.dep≤5;omega
 | lt p x a b=>
   match fs,hf with
   | [],_=>exact u
   | [c],_=>exact u
   | [c,d],hf=>have:=hf d (by simp);show d.dep≤5;omega
   | c :: d :: e :: r,_=>exact u
 | iff p c a b=>
   match fs,hf with
   | [],_=>exact u
   | [c],_=>exact u
   | [c,d],hf=>exact u
   | [c,d,e],hf=>have:=hf d (by simp);have:=bY d e;show (d.join e).dep≤5;omega
   | c :: d :: e :: f :: r,_=>exact u
 | bin p o a b=>cases o <;> exact Θ rfl
 | row p k ts=>have h1:=hw k (.head _);show 1+k.dep≤5;omega
 | pair p a b=>
   match fs,hf with
   | [],_=>exact u
   | [c],_=>exact u
   | [c,d],hf=>have:=hf d (by simp);have:=hf c (by simp);show 1+max c.dep d.dep≤5;omega
   | c :: d :: e :: r,_=>exact u
 | as_ p k a=>have h1:=hw k (.head _);show k.dep≤5;omega
 | lk p k l a=>exact ZX ho id
 | _=>exact Θ rfl
theorem lR (W:List ι):∀ n m,n+10≤m→LkI W n m
 | 0,m,hm=>fun y N kd wd bs oy nk hk hw=>oy.elim
 | n+1,m,hm=>by
   intro t N kd wd bs ot nk hk hw
   obtain ⟨m,rfl⟩:∃ k,m=k+1:=⟨m - 1,by omega⟩
   have ih:=lR W n m (by omega)
   have ot':=ot
   obtain ⟨o1,o2,o3,o4⟩:=ot
   obtain ⟨q,rfl⟩:∃ q,m=q+10:=⟨m - 10,by omega⟩
   have w0:=Ak t (q+7) (ls kd wd)
   obtain ⟨e3,w1⟩:=mF t N o2 (q+10) (ls kd wd) (wks t) none (fun k hk=>by have:=o3 k hk;omega)
   unfold lkM
   by_cases c:(wks t).any (fun k=>decide (4<k.dep))=true
   ·rw [ZZ c] at w1 ⊢
    exact ⟨kd,wd,(ag true (aX 0 (w0) (aX 0 (w1) aZ)) (by kernel_rfl))⟩
   ·rw [ZY c] at w1 ⊢
    have hw4:∀ k∈wks t,k.dep≤4:=fun k hk=>by
     have:¬ 4<k.dep:=fun h=>c (Ï.mpr ⟨k,hk,ZW h⟩)
     omega
    have p0:=fW t (q+7) (ls kd wd)
    have kl:=bH o1
    have xk:=tR o1 n (pJ o4)
    have nk1:nb (n+1)=1+4 * nb n:=rfl
    have kl2:(ae t).length * nb n≤4 * nb n:=ü _ kl
    have lp:=lJ (m:=q+10) (by omega) ih t N bs ot' hw4 nk e3 (ae t) [] kd wd none none (fun j y h=>by rw [ϒ,ŏ];exact h) (fun a r h=>by cases h) (fun k h=>by cases h) (by omega) (by omega) (by simp only [ϒ];omega)
    cases q1:bq (lkM n) t N (ae t) [] kd wd with
    | error e=>
      rw [q1] at lp
      obtain ⟨env,ow,kd',wd',lp⟩:=lp
      exact ⟨kd',wd',(ag true (aX 0 (w0) (aX 0 (w1) (aX 0 (p0) (aX 0 (lp) aZ)))) (by kernel_rfl))⟩
    | ok v=>
      obtain ⟨fs,kd1,wd1⟩:=v
      rw [q1] at lp
      obtain ⟨a1,a2,a3,a4,e5,e6,lp⟩:=lp
      have fl:fs.length=(ae t).length:=by have:=hH _ _ _ _ q1;simpa using this
      have ow:=wK t fs fl N (hld a2 N (fun p x e=>nk.has x (jR o1 p x e))) 4 a1 (q+10) (by omega) (ls kd1 wd1)
      have od:(cF t fs N).dep≤5:=tq t o1 fs N a1 hw4 nk.dp
      have n1:=nsh t (cF t fs N) o2 (q+10) (by omega) (ls kd1 wd1)
      dsimp only
      have nl:=kM (cF t fs N).toD (fT _) kd1 wd1
      by_cases c2:4<(cF t fs N).dep
      ·rw [ZZ c2] at n1 ⊢
       exact ⟨kd1,wd1,(ag true (aX 0 (w0) (aX 0 (w1) (aX 0 (p0) (aX 0 (lp) (aX 0 (ow) (aX 0 (nl) (aX 0 (n1) aZ))))))) (by kernel_rfl))⟩
      ·rw [ZY c2] at n1 ⊢
       have pl:=bF kd1 (.inl t.pl) (cF t fs N)
       have e1:ev Γ (ac Γ (q+10)) (aj Γ (q+10)) true (.ix (.v 1) (.c (.int 1))) ⟨[some (.ref 0),some t.toD,some (dA N),e3,some (.lst (dsK fs)),e5,e6,some (cF t fs N).toD],[4],ls kd1 wd1⟩ = .ok (.int t.pl) ⟨[some (.ref 0),some t.toD,some (dA N),e3,some (.lst (dsK fs)),e5,e6,some (cF t fs N).toD],[4],ls kd1 wd1⟩:=(dJ false (aX 0 (bP t (ls kd1 wd1)) aZ) (by kernel_rfl))
       have pt:=mh (Γ:=Γ) (cal:=ac Γ (q+10)) (cal1:=aj Γ (q+10)) (x:=.v 0) (f:=5) (e:=.v 7) (s:=⟨[some (.ref 0),some t.toD,some (dA N),e3,some (.lst (dsK fs)),e5,e6,some (cF t fs N).toD],[4],ls kd1 wd1⟩) (o:=oA kd1) (n:=1) rfl rfl e1 rfl (qH kd1 t.pl (cF t fs N) (by omega))
       refine ⟨by omega,by omega,by omega,(ag true (aX 0 (w0) (aX 0 (w1) (aX 0 (p0) (aX 0 (lp) (aX 0 (ow) (aX 0 (nl) (aX 0 (n1) (aX 0 (pt) aZ)))))))) (by kernel_rfl))⟩
abbrev nB:S:=dC iw.body
theorem u8 (bs l:List ι) (h:bs.length+l.length≤1000):opD .add (.tup (sts bs)) (.tup (sts l))=some (.tup (sts (bs ++ l))):=by
 show cH ((sts bs).length+(sts l).length) _=_
 unfold cH sts
 rw [ZZ (by simp;omega),ϳ]
theorem rF (t:T68) (i:Nat):(bnd t i).length≤2:=by
 cases t <;> first | exact Θ rfl | (rename_i a b c d;match i with | 0=>exact Θ rfl | 1=>exact Θ rfl | i+2=>exact Θ rfl)
theorem l6 {W:List ι} {n m:Nat} (ih:∀ (y:T68) (bs:List ι) (S:List O),Ok W n bs y→bs.length+2 * n≤1000→ac Γ (m+4) bO [y.toD,.tup (sts bs)] S = .ok .non S) (t:T68) (bs:List ι) (o4:∀ i k,(ae t)[i]? = some k→Ok W n (bs ++ bnd t i) k) (hb:bs.length+2 * (n+1)≤1000) (S:List O):∀ (r:List T68) (i:Nat) (e2 e3:Option D),(∀ j y,r[j]? = some y→(ae t)[i+j]? = some y)→∃ e2' e3':Option D,aO (eP Γ (ac Γ (m+4)) (aj Γ (m+4)) [2,3] false nB) (bG (i:Nat) (toDs r)) ⟨[some t.toD,some (.tup (sts bs)),e2,e3],[],S⟩ = .nx ⟨[some t.toD,some (.tup (sts bs)),e2',e3'],[],S⟩
 | [],i,e2,e3,_=>⟨e2,e3,rfl⟩
 | y :: r,i,e2,e3,hr=>by
   have hy:(ae t)[i]? = some y:=hr 0 y rfl
   have n1:=kL t i y hy (m+3) S
   have l2:=rF t i
   have a1:=u8 bs (bnd t i) (by omega)
   have i1:=ih y (bs ++ bnd t i) S (o4 i y hy) (by rw [ω];omega)
   obtain ⟨e2',e3',h⟩:=l6 ih t bs o4 hb S r (i+1) (some (.int i)) (some y.toD) (fun j z hz=>by rw [ű,Œ 1];exact hr (j+1) z hz)
   exact ⟨e2',e3',aP (aM rfl (bU false (aX 0 (n1) (aX 0 (a1) (aX 0 (i1) aZ))) (by kernel_rfl))) h⟩
theorem dH {W:List ι}:∀ (n m:Nat) (y:T68) (bs:List ι) (S:List O),n+4≤m→Ok W n bs y→bs.length+2 * n≤1000→ac Γ m bO [y.toD,.tup (sts bs)] S = .ok .non S
 | 0,m,y,bs,S,_,o,_=>o.elim
 | n+1,m,t,bs,S,hm,o,hb=>by
   obtain ⟨m,rfl⟩:∃ k,m=k+5:=⟨m - 5,by omega⟩
   obtain ⟨o1,o2,o3,o4⟩:=o
   have p0:=fW t (m+1) S
   obtain ⟨e2,e3,lp⟩:=l6 (m:=m) (fun y bs S o h=>dH n (m+4) y bs S (by omega) o h) t bs o4 hb S (ae t) 0 none none (fun j y h=>by rw [ŏ];exact h)
   cases t with
   | name p x=>exact (ag true (aX 4 (notin (jR o1 p x rfl)) (aX 0 (p0) (aX 0 (lp) aZ))) (by kernel_rfl))
   | _=>exact (ag true (aX 0 (p0) (aX 0 (lp) aZ)) (by kernel_rfl))
theorem oQ (f:D→D→Option Bool):∀ l l':List Kd,(∀ a∈l,∀ b:Kd,f a.toD b.toD=some (decide (a=b)))→∃ x,cI f (dsK l) (dsK l')=some x∧(x && l.length == l'.length)=decide (l=l')
 | [],l',h=>⟨true,by cases l' <;> rfl,by cases l' <;> simp⟩
 | a :: l,[],h=>⟨true,rfl,by simp⟩
 | a :: l,b :: l',h=>by
   obtain ⟨x,h1,h2⟩:=oQ f l l' (fun c hc=>h c (by simp [hc]))
   have h3:=h a (by simp) b
   refine ⟨decide (a=b) && x,?_,?_⟩
   ·show (match f a.toD b.toD with | none=>none | some x=>(cI f (dsK l) (dsK l')).map (x && ·))=_
    rw [h3,h1];rfl
   ·by_cases e:a=b
    ·subst e
     have:((a :: l).length == (a :: l').length)=(l.length == l'.length):=by simp
     rw [this];simp only [decide_true,BH,h2];simp
    ·simp [e]
def Kd.hd:Kd→ι
 | .whole=>"whole" | .truth=>"truth" | .unt=>"?" | .to _ _=>"to" | .row _=>"row" | .pair _ _=>"pair"
def Kd.ps:Kd→List Kd
 | .to a b=>[a,b] | .row a=>[a] | .pair a b=>[a,b] | _=>[]
theorem Kd.toD_eq (a:Kd):a.toD = .tup (.str a.hd :: dsK a.ps):=by cases a <;> rfl
theorem Kd.ps_dep {a b:Kd} (h:b∈a.ps):b.dep+1≤a.dep:=by
 cases a with
 | to c d=>rcases ς.mp h with rfl | h;(show b.dep+1≤1+max b.dep d.dep;omega);(rw [η.mp h];show d.dep+1≤1+max c.dep d.dep;omega)
 | row c=>rw [η.mp h];show c.dep+1≤1+c.dep;omega
 | pair c d=>rcases ς.mp h with rfl | h;(show b.dep+1≤1+max b.dep d.dep;omega);(rw [η.mp h];show d.dep+1≤1+max c.dep d.dep;omega)
 | _=>cases h
theorem Kd.ext {a b:Kd}:a=b↔a.hd=b.hd∧a.ps=b.ps:=by
 constructor
 ·intro h;subst h;exact ⟨rfl,rfl⟩
 ·rintro ⟨h1,h2⟩
  cases a <;> cases b <;> first | (cases h2;done) | (cases h2;rfl) | (exact ZX (show ("to":ι) = "pair" from h1) (by decide +kernel)) | (exact ZX (show ("pair":ι) = "to" from h1) (by decide +kernel)) | (exact ZX h1 (by decide +kernel))
theorem tM (n:Nat) (x y:ι):eqv n (.str x) (.str y)=some (decide (x=y)):=by
 have:eqv n (.str x) (.str y)=some (x == y):=by cases n <;> rfl
 rw [this]
 by_cases h:x=y
 ·subst h;simp
 ·simp [h]
theorem kF:∀ (n:Nat) (a:Kd),a.dep≤n→∀ b:Kd,eqv n a.toD b.toD=some (decide (a=b))
 | 0,a,h,b=>by cases a <;> (unfold Kd.dep at h;omega)
 | n+1,a,h,b=>by
   obtain ⟨x,h1,h2⟩:=oQ (eqv n) a.ps b.ps (fun c hc d=>kF n c (by have:=Kd.ps_dep hc;omega) d)
   rw [a.toD_eq,b.toD_eq]
   show (match eqv n (.str a.hd) (.str b.hd) with | none=>none | some x=>(cI (eqv n) (dsK a.ps) (dsK b.ps)).map (x && ·)).map (· && ((D.str a.hd :: dsK a.ps).length == (D.str b.hd :: dsK b.ps).length))=_
   rw [tM,h1]
   show some ((decide (a.hd=b.hd) && x) && ((D.str a.hd :: dsK a.ps).length == (D.str b.hd :: dsK b.ps).length))=_
   have e:((D.str a.hd :: dsK a.ps).length == (D.str b.hd :: dsK b.ps).length)=(a.ps.length == b.ps.length):=by simp [dsK]
   rw [e,Bool.and_assoc,h2]
   congr 1
   by_cases q:a=b
   ·subst q;simp
   ·rw [ZV q]
    by_cases q1:a.hd=b.hd
    ·have:a.ps≠b.ps:=fun z=>q (Kd.ext.mpr ⟨q1,z⟩)
     simp [this]
    ·simp [q1]
def ai:Nat→T68→List Int
 | 0,_=>[]
 | n+1,t=>t.pl :: (ae t).flatMap (ai n)
theorem iV {W:List ι}:∀ (n:Nat) (bs:List ι) (t:T68),Ok W n bs t→(ai n t).length≤nb n
 | 0,bs,t,o=>o.elim
 | n+1,bs,t,⟨o1,_,_,o4⟩=>by
   have kl:=bH o1
   have f:∀ l:List T68,(∀ y∈l,(ai n y).length≤nb n)→(l.flatMap (ai n)).length≤l.length * nb n:=by
    intro l
    induction l with
    | nil=>intro _;simp
    | cons y r ih=>
      intro h
      rw [Ϛ,ω,Ι,Ĳ]
      have:=h y (by simp);have:=ih (fun z hz=>h z (by simp [hz]));omega
   have h:=f (ae t) (fun y hy=>by obtain ⟨i,hi⟩:=ϓ.mp hy;exact iV n _ y (o4 i y hi))
   have:(ae t).length * nb n≤4 * nb n:=ü _ kl
   show ((ae t).flatMap (ai n)).length+1≤1+4 * nb n;omega
def dsI (l:List Int):List D:=l.map D.int
abbrev pB:S:=dC oV.body
theorem l9 {W:List ι} {n m:Nat} (ih:∀ (y:T68) (bs:List ι) (S:List O),Ok W n bs y→ac Γ m jH [y.toD] S = .ok (.lst (dsI (ai n y))) S) (t:T68) (S:List O):∀ (r:List T68) (acc:List Int) (e2:Option D),(∀ y∈r,∃ bs,Ok W n bs y)→acc.length+r.length * nb n≤100000→∃ e2':Option D,aO (eP Γ (ac Γ m) (aj Γ m) [2] true pB) (toDs r) ⟨[some t.toD,some (.lst (dsI acc)),e2],[1],S⟩ = .nx ⟨[some t.toD,some (.lst (dsI (acc ++ r.flatMap (ai n)))),e2'],[1],S⟩
 | [],acc,e2,_,_=>⟨e2,by simp [aO,toDs]⟩
 | y :: r,acc,e2,hr,hl=>by
   obtain ⟨bs,oy⟩:=hr y (by simp)
   have i1:=ih y bs S oy
   have pl:=iV n bs y oy
   simp only [Ι,Ĳ,Ţ] at hl
   obtain ⟨e2',h⟩:=l9 ih t S r (acc ++ ai n y) (some y.toD) (fun z hz=>hr z (by simp [hz])) (by rw [ω];omega)
   have l0:decide ((dsI acc).length+(dsI (ai n y)).length≤100000)=true:=ZW (by unfold dsI;rw [Η,Η];omega)
   refine ⟨e2',aP (s1:=⟨[some t.toD,some (.lst (dsI (acc ++ ai n y))),some y.toD],[1],S⟩) (aM rfl ?_) ?_⟩
   ·have e:dsI (acc ++ ai n y)=dsI acc ++ dsI (ai n y):=by unfold dsI;exact ϳ
    rw [e]
    exact (bU false (aX 0 (i1) (aX 0 (l0) aZ)) (by kernel_rfl))
   ·rw [h,ϩ,Ϛ]
theorem ia {W:List ι}:∀ (n m:Nat) (t:T68) (bs:List ι) (S:List O),n+4≤m→n≤8→Ok W n bs t→ac Γ m jH [t.toD] S = .ok (.lst (dsI (ai n t))) S
 | 0,m,t,bs,S,_,_,o=>o.elim
 | n+1,m,t,bs,S,hm,h8,o=>by
   obtain ⟨m,rfl⟩:∃ k,m=k+5:=⟨m - 5,by omega⟩
   obtain ⟨o1,o2,o3,o4⟩:=o
   have p0:=fW t (m+1) S
   have kl:=bH o1
   have nb8:nb n≤5461:=by
    have:∀ k,k≤7→nb k≤5461:=by decide
    exact this n (by omega)
   have kn:(ae t).length * nb n≤4 * nb n:=ü _ kl
   obtain ⟨e2,lp⟩:=l9 (m:=m+4) (fun y bs S o=>ia n (m+4) y bs S (by omega) (by omega) o) t S (ae t) [t.pl] none (fun y hy=>by obtain ⟨i,hi⟩:=ϓ.mp hy;exact ⟨_,o4 i y hi⟩) (by simp only [Κ];omega)
   exact (ag true (aX 0 (bP t S) (aX 0 (p0) (aX 0 (lp) aZ))) (by kernel_rfl))
structure GI (kd wd kd' wd':Al) (ps qs:List Int):Prop where
 kk:∀ x,(aK kd x).isSome=true→(aK kd' x).isSome=true
 ww:∀ x,(aK wd x).isSome=true→(aK wd' x).isSome=true
 kp:∀ p∈ps,(aK kd' (.inl p)).isSome=true
 wp:∀ p∈qs,(aK wd' (.inl p)).isSome=true
 kd4:(∀ p∈kd,p.2.dep≤4)→∀ p∈kd',p.2.dep≤4
 wd4:(∀ p∈wd,p.2.dep≤4)→∀ p∈wd',p.2.dep≤4
theorem cw {l:Al} {k:Key} {v:Kd} {x:Key} (h:(aK l x).isSome=true):(aK (aB l k v) x).isSome=true:=by
 rw [iz];split
 ·rfl
 ·exact h
theorem i4 {l:Al} {k:Key} {v:Kd}:(aK (aB l k v) k).isSome=true:=by rw [iz,ZZ rfl];rfl
theorem j5 (t:T68) (fs:List Kd) (hf:∀ k∈fs,k.dep≤4) (hw:∀ k∈wks t,k.dep≤4):(aL t fs).dep≤4:=by
 have la:(fs.getLastD .unt).dep≤4:=by
  cases fs with
  | nil=>decide
  | cons a r=>exact hf _ (jJ (a :: r) r.length rfl)
 have s4:∀ (a:Kd) (x:Sp),a∈fs→((a.stp x).getD .unt).dep≤4:=fun a x ha=>by
  cases q:a.stp x with
  | none=>decide
  | some b=>have:=mD q;have:=hf a ha;show b.dep≤4;omega
 cases t with
 | bin p o a b=>exact Θ rfl
 | row p k ts=>exact hw k (.head _)
 | as_ p k a=>exact hw k (.head _)
 | slf p f x k g b=>exact hw g (.tail _ (.head _))
 | iff p c a b=>
   match fs,hf,la with
   | [c],_,_=>exact Θ rfl
   | [],_,la=>exact la
   | a :: b :: r,_,la=>exact la
 | call p a b=>
   match fs,hf,la,s4 with
   | [],_,la,_=>exact la
   | [c],hf,_,_=>have:=hf c (by simp);cases c <;> first | exact this | exact Θ rfl
   | [c,d],_,_,s4=>exact s4 c .arg (by simp)
   | a :: b :: c :: r,_,la,_=>exact la
 | att p a b=>
   match fs,hf,la with
   | [],_,la=>exact la
   | [c],hf,_=>have:=hf c (by simp);cases c <;> first | exact this | exact Θ rfl
   | [c,d],_,_=>exact Θ rfl
   | a :: b :: c :: r,_,la=>exact la
 | size p a=>
   match fs,hf,la with
   | [],_,la=>exact la
   | [c],hf,_=>have:=hf c (by simp);cases c <;> first | exact this | exact Θ rfl
   | a :: b :: r,_,la=>exact la
 | one p a=>
   match fs,hf,la with
   | [],_,la=>exact la
   | [c],hf,_=>have:=hf c (by simp);cases c <;> first | exact this | exact Θ rfl
   | a :: b :: r,_,la=>exact la
 | two p a=>
   match fs,hf,la with
   | [],_,la=>exact la
   | [c],hf,_=>have:=hf c (by simp);cases c <;> first | exact this | exact Θ rfl
   | a :: b :: r,_,la=>exact la
 | _=>exact la
theorem pw {t y:T68} {fs:List Kd} {wd wd':Al} (h:cC t y fs wd = .ok wd') (hf:∀ k∈fs,k.dep≤4) (hw:∀ k∈wks t,k.dep≤4) (h4:∀ p∈wd,p.2.dep≤4):∀ p∈wd',p.2.dep≤4:=by
 by_cases h3:dv t fs=true
 ·obtain ⟨p,c,a,b,f0,f,g,rfl,rfl⟩:=fK h3
  ·skip
   rw [c6] at h
   cases q:g.par f with
   | some w=>rw [q] at h;cases h
   | none=>
     rw [q] at h;cases h
     have:=bY f g
     have:=hf f (by simp)
     exact cb (P:=fun k=>k.dep≤4) (cb (P:=fun k=>k.dep≤4) h4 (by omega)) (by omega)
 ·rw [dK (by simpa using h3)] at h
  cases q:(fs.getLastD .unt).par (aL t fs) with
  | some w=>rw [q] at h;cases h
  | none=>rw [q] at h;cases h;exact cb (P:=fun k=>k.dep≤4) h4 (j5 t fs hf hw)
theorem px {t y:T68} {fs:List Kd} {wd wd':Al} (h:cC t y fs wd = .ok wd') (hy:∀ p c a b,t = .iff p c a b→fs.length=3→y=b):(∀ x,(aK wd x).isSome=true→(aK wd' x).isSome=true)∧(aK wd' (.inl y.pl)).isSome=true:=by
 by_cases h3:dv t fs=true
 ·obtain ⟨p,c,a,b,f0,f,g,rfl,rfl⟩:=fK h3
  ·skip
   have hy:=hy p c a b rfl rfl
   subst hy
   rw [c6] at h
   cases q:g.par f with
   | some w=>rw [q] at h;cases h
   | none=>rw [q] at h;cases h;exact ⟨fun x hx=>cw (cw hx),i4⟩
 ·rw [dK (by simpa using h3)] at h
  cases q:(fs.getLastD .unt).par (aL t fs) with
  | some w=>rw [q] at h;cases h
  | none=>rw [q] at h;cases h;exact ⟨fun x hx=>cw hx,i4⟩
theorem GI.trans {a b a1 b1 a2 b2:Al} {ps qs ps' qs':List Int} (h:GI a b a1 b1 ps qs) (h':GI a1 b1 a2 b2 ps' qs'):GI a b a2 b2 (ps ++ ps') (qs ++ qs'):=⟨fun x hx=>h'.kk x (h.kk x hx),fun x hx=>h'.ww x (h.ww x hx),
 fun p hp=>by
  rcases Ϡ.mp hp with hp | hp
  ·exact h'.kk _ (h.kp p hp)
  ·exact h'.kp p hp,
 fun p hp=>by
  rcases Ϡ.mp hp with hp | hp
  ·exact h'.ww _ (h.wp p hp)
  ·exact h'.wp p hp,fun q=>h'.kd4 (h.kd4 q),fun q=>h'.wd4 (h.wd4 q)⟩
theorem jz {t:T68} {fs:List Kd} {y:T68} {k:Kd} (hy:(ae t)[fs.length]? = some y):∀ p c a b,t = .iff p c a b→(fs ++ [k]).length=3→y=b:=by
 intro p c a b e h
 subst e
 rw [ω,Κ] at h
 rw [show fs.length=2 by omega] at hy
 cases hy;rfl
theorem p6 {n:Nat} {t:T68} {N kd wd kd1 wd1:Al} {k:Kd} (e:lkM (n+1) t N kd wd = .ok (k,kd1,wd1)):∃ fs kd2,(∀ k∈wks t,k.dep≤4)∧bq (lkM n) t N (ae t) [] kd wd = .ok (fs,kd2,wd1)∧(cF t fs N).dep≤4∧k=cF t fs N∧kd1=aB kd2 (.inl t.pl) (cF t fs N):=by
 unfold lkM at e
 by_cases c:(wks t).any (fun k=>decide (4<k.dep))=true
 ·rw [ZZ c] at e;cases e
 ·rw [ZY c] at e
  cases q1:bq (lkM n) t N (ae t) [] kd wd with
  | error e'=>rw [q1] at e;cases e
  | ok v=>
    obtain ⟨fs,kd2,wd2⟩:=v
    rw [q1] at e
    dsimp only at e
    by_cases c2:4<(cF t fs N).dep
    ·rw [ZZ c2] at e;cases e
    ·rw [ZY c2] at e
     cases e
     exact ⟨fs,kd2,fun k hk=>by
      have:¬ 4<k.dep:=fun h=>c (Ï.mpr ⟨k,hk,ZW h⟩)
      omega,rfl,by omega,rfl,rfl⟩
theorem pI {n:Nat} {t y:T68} {N kd wd:Al} {r:List T68} {fs:List Kd} {v:List Kd×Al×Al} (e:bq (lkM n) t N (y :: r) fs kd wd = .ok v):∃ k kd2 wd2 wd3,lkM n y (inN t fs.length fs N) kd wd = .ok (k,kd2,wd2)∧cC t y (fs ++ [k]) wd2 = .ok wd3∧bq (lkM n) t N r (fs ++ [k]) kd2 wd3 = .ok v:=by
 unfold bq at e
 cases q1:lkM n y (inN t fs.length fs N) kd wd with
 | error e'=>rw [q1] at e;cases e
 | ok w=>
   obtain ⟨k,kd2,wd2⟩:=w
   rw [q1] at e
   dsimp only at e
   cases q2:cC t y (fs ++ [k]) wd2 with
   | error e'=>rw [q2] at e;cases e
   | ok wd3=>rw [q2] at e;exact ⟨k,kd2,wd2,wd3,rfl,q2,e⟩
theorem vO {t:T68} {N kd wd:Al} {r:List T68} {fs:List Kd} {v:List Kd×Al×Al} (e:bq (lkM 0) t N r fs kd wd = .ok v):r = []:=by
 cases r with
 | nil=>rfl
 | cons y r=>obtain ⟨_,_,_,_,q,_⟩:=pI e;cases q
theorem lM {n:Nat} (ih:∀ y N kd wd k kd' wd',lkM n y N kd wd = .ok (k,kd',wd')→k.dep≤4∧GI kd wd kd' wd' (ai n y) (ai n y).tail) (hn:1≤n) (t:T68) (hw4:∀ k∈wks t,k.dep≤4) (N:Al):∀ (r:List T68) (fs:List Kd) (kd wd:Al) {v:List Kd×Al×Al},(∀ k∈fs,k.dep≤4)→(∀ j y,r[j]? = some y→(ae t)[fs.length+j]? = some y)→bq (lkM n) t N r fs kd wd = .ok v→GI kd wd v.2.1 v.2.2 (r.flatMap (ai n)) (r.flatMap (ai n))
 | [],fs,kd,wd,v,_,_,h=>by cases h;exact ⟨fun _ h=>h,fun _ h=>h,fun _ h=>(by cases h),fun _ h=>(by cases h),fun h=>h,fun h=>h⟩
 | y :: r,fs,kd,wd,v,hf,hr,h=>by
   unfold bq at h
   cases q1:lkM n y (inN t fs.length fs N) kd wd with
   | error e=>rw [q1] at h;cases h
   | ok w=>
     obtain ⟨k,kd1,wd1⟩:=w
     rw [q1] at h
     dsimp only at h
     cases q2:cC t y (fs ++ [k]) wd1 with
     | error e=>rw [q2] at h;cases h
     | ok wd2=>
       rw [q2] at h
       obtain ⟨k4,g1⟩:=ih y _ _ _ _ _ _ q1
       have hf2:∀ k'∈fs ++ [k],k'.dep≤4:=fun k' h=>by
        rcases Ϡ.mp h with h | h
        ·exact hf k' h
        ·rw [η.mp h];exact k4
       obtain ⟨h1,h2⟩:=px q2 (jz (hr 0 y rfl))
       have g2:=lM ih hn t hw4 N r (fs ++ [k]) kd1 wd2 hf2 (fun j z hz=>by rw [ω,Κ,ű,Œ 1];exact hr (j+1) z hz) h
       rw [Ϛ]
       refine GI.trans (a1:=kd1) (b1:=wd2) ⟨g1.kk,fun x hx=>h1 x (g1.ww x hx),g1.kp,fun p hp=>?_,g1.kd4,fun h4=>pw q2 hf2 hw4 (g1.wd4 h4)⟩ g2
       obtain ⟨n,rfl⟩:∃ k,n=k+1:=⟨n - 1,by omega⟩
       rcases ς.mp hp with rfl | hp
       ·exact h2
       ·exact h1 _ (g1.wp p hp)
theorem uC:∀ (n:Nat) (t:T68) (N kd wd:Al) (k:Kd) (kd' wd':Al),lkM n t N kd wd = .ok (k,kd',wd')→k.dep≤4∧GI kd wd kd' wd' (ai n t) (ai n t).tail
 | 0,t,N,kd,wd,k,kd',wd',h=>by cases h
 | n+1,t,N,kd,wd,k,kd',wd',h=>by
   obtain ⟨fs,kd1,hw4,q1,c2,rfl,rfl⟩:=p6 h
   have g:GI kd wd kd1 wd' ((ae t).flatMap (ai n)) ((ae t).flatMap (ai n)):=by
    rcases Nat.eq_zero_or_pos n with hz | hz
    ·rw [hz] at q1
     have q:=vO q1
     rw [q] at q1 ⊢
     cases q1
     exact ⟨fun _ h=>h,fun _ h=>h,fun _ h=>(by cases h),fun _ h=>(by cases h),fun h=>h,fun h=>h⟩
    ·exact lM (uC n) hz t hw4 N (ae t) [] kd wd (fun k h=>by cases h) (fun j y h=>by rw [ϒ,ŏ];exact h) q1
   refine ⟨by omega,fun x hx=>cw (g.kk x hx),g.ww,fun p hp=>?_,g.wp,fun h=>cb (P:=fun k=>k.dep≤4) (g.kd4 h) (by omega),g.wd4⟩
   rcases ς.mp hp with rfl | hp
   ·exact i4
   ·exact cw (g.kp p hp)
def av (n:Nat) (t:T68):Except Er (Al×Al):=match lkM n t [] [] [] with
 | .error e=>.error e
 | .ok (k,kd,wd)=>.ok (kd,aB wd (.inl t.pl) k)
def LdR (c:Res):Except Er (Al×Al)→Prop
 | .ok (kd,wd)=>c = .ok (.tup [.ref 1,.ref 2]) (ls kd wd)
 | .error e=>∃ st,c = .exc e.cls e.ds st
theorem nb8 {n:Nat} (h:n≤8):nb n≤21845∧wb n≤87380:=by
 have:∀ k,k≤8→nb k≤21845∧wb k≤87380:=by decide
 exact this n h
theorem hV {W:List ι} (n m:Nat) (t:T68) (o:Ok W n [] t) (h8:n≤8) (hm:n+12≤m):LdR (ac Γ m dO [t.toD] []) (av n t):=by
 obtain ⟨m,rfl⟩:∃ k,m=k+3:=⟨m - 3,by omega⟩
 obtain ⟨b1,b2⟩:=nb8 h8
 have nbd:ac Γ (m+2) dP [t.toD] [] = .ok .non []:=by
  have:=dH n (m+1) t [] [] (by omega) o (by simp only [ϒ];omega)
  exact (ag false (aX 0 (this) aZ) (by kernel_rfl))
 have lk:=lR W n (m+2) (by omega) t [] [] [] [] o ⟨fun x h=>(by cases h),fun p h=>(by cases h),by simp only [ϒ];omega⟩ (by simp only [ϒ];omega) (by simp only [ϒ];omega)
 unfold av
 cases q:lkM n t [] [] [] with
 | error e=>
   rw [q] at lk
   obtain ⟨kd,wd,lk⟩:=lk
   exact ⟨ls kd wd,(ag false (aX 0 (nbd) (aC (aX 0 (lk) aZ))) (by kernel_rfl))⟩
 | ok v=>
   obtain ⟨k,kd,wd⟩:=v
   rw [q] at lk
   obtain ⟨l1,l2,l3,lk⟩:=lk
   have w:=fg t k kd wd (by simp only [ϒ] at l3;omega) (m+1)
   show ac Γ (m+3) dO [t.toD] [] = .ok (.tup [.ref 1,.ref 2]) (ls kd (aB wd (.inl t.pl) k))
   exact (ag false (aX 0 (nbd) (aC (aX 0 (lk) (aX 0 (w) aZ)))) (by kernel_rfl))
def wpT:T68→List T68→T68
 | .fn p x k _,[b]=>.fn p x k b
 | .slf p f x k g _,[b]=>.slf p f x k g b
 | .lt p x _ _,[a,b]=>.lt p x a b
 | .iff p _ _ _,[c,a,b]=>.iff p c a b
 | .call p _ _,[a,b]=>.call p a b
 | .bin p o _ _,[a,b]=>.bin p o a b
 | .as_ p k _,[a]=>.as_ p k a
 | .row p k _,ts=>.row p k ts
 | .pair p _ _,[a,b]=>.pair p a b
 | .att p _ _,[a,b]=>.att p a b
 | .size p _,[a]=>.size p a
 | .one p _,[a]=>.one p a
 | .two p _,[a]=>.two p a
 | .lk p k l _,[a]=>.lk p k l a
 | t,_=>t
theorem l0 {l:List T68} (h:l.length=0):l = []:=Ľ.mp h
theorem l1 {l:List T68} (h:l.length=1):∃ a,l = [a]:=List.length_eq_one_iff.mp h
theorem l2 {l:List T68} (h:l.length=2):∃ a b,l = [a,b]:=by match l,h with | [a,b],_=>exact ⟨a,b,rfl⟩
theorem l3 {l:List T68} (h:l.length=3):∃ a b c,l = [a,b,c]:=by match l,h with | [a,b,c],_=>exact ⟨a,b,c,rfl⟩
theorem xi (t:T68) (ks:List T68) (h:ks.length=(ae t).length) (n:Nat) (st:List O):ac Γ (n+4) iJ [t.toD,.lst (toDs ks)] st = .ok (wpT t ks).toD st:=by
 cases t with
 | row p k ts=>kernel_rfl
 | _=>first | (obtain ⟨_,_,rfl⟩:=l2 h;kernel_rfl) | (obtain ⟨_,rfl⟩:=l1 h;kernel_rfl) | (obtain ⟨_,_,_,rfl⟩:=l3 h;kernel_rfl) | (have:=l0 h;subst this;kernel_rfl)
theorem fh (t:T68) (ks:List T68) (h:ks.length=(ae t).length):ae (wpT t ks)=ks:=by
 cases t <;> first | rfl | (obtain ⟨_,_,rfl⟩:=l2 h;rfl) | (obtain ⟨_,rfl⟩:=l1 h;rfl) | (obtain ⟨_,_,_,rfl⟩:=l3 h;rfl) | (have:=l0 h;subst this;rfl)
theorem jd (t:T68):wpT t (ae t)=t:=by cases t <;> rfl
def vD:T68→Bool
 | .lk ..=>true
 | _=>false
theorem qD {W bs:List ι} {t:T68} (h:own W bs t):vD t=false:=by cases t <;> first | rfl | exact ZX h id
theorem j3 (a b:List T68):toDs (a ++ b)=toDs a ++ toDs b:=by rw [bK,bK,bK,ϳ]
theorem re (t:T68) (ks:List T68) (h:ks.length=(ae t).length):(wpT t ks).pl=t.pl:=by
 cases t <;> first | rfl | (obtain ⟨_,_,rfl⟩:=l2 h;rfl) | (obtain ⟨_,rfl⟩:=l1 h;rfl) | (obtain ⟨_,_,_,rfl⟩:=l3 h;rfl) | (have:=l0 h;subst this;rfl)
inductive It where
 | s (x:ι) | i (v:Int) | b (b:Bool) | k (k:Kd) | n (t:T68) | ns (ts:List T68)
def It.toD:It→D
 | .s z=>.str z | .i z=>.int z | .b z=>.bl z | .k z=>z.toD | .n z=>z.toD | .ns z=>.tup (toDs z)
def its:T68→List It
 | .whole p v=>[.s "whole",.i p,.i v]
 | .truth p b=>[.s "truth",.i p,.b b]
 | .given p v=>[.s "given",.i p,.i v]
 | .name p x=>[.s "name",.i p,.s x]
 | .fn p x k b=>[.s "fn",.i p,.s x,.k k,.n b]
 | .slf p f x k g b=>[.s "self",.i p,.s f,.s x,.k k,.k g,.n b]
 | .lt p x a b=>[.s "let",.i p,.s x,.n a,.n b]
 | .iff p c a b=>[.s "if",.i p,.n c,.n a,.n b]
 | .call p a b=>[.s "call",.i p,.n a,.n b]
 | .bin p o a b=>[.s "do",.i p,.s o.str,.n a,.n b]
 | .as_ p k a=>[.s "as",.i p,.k k,.n a]
 | .row p k ts=>[.s "row",.i p,.k k,.ns ts]
 | .pair p a b=>[.s "pair",.i p,.n a,.n b]
 | .att p a b=>[.s "at",.i p,.n a,.n b]
 | .size p a=>[.s "size",.i p,.n a]
 | .one p a=>[.s "one",.i p,.n a]
 | .two p a=>[.s "two",.i p,.n a]
 | .lk p k l a=>[.s "look",.i p,.k k,.k l,.n a]
def dI (l:List It):List D:=l.map It.toD
theorem lG (t:T68):t.toD = .tup (dI (its t)):=by cases t <;> rfl
def It.nodes:It→List T68
 | .n z=>[z]
 | .ns z=>z
 | _=>[]
theorem jC (t:T68):(its t).flatMap It.nodes=ae t:=by cases t <;> first | rfl | (show _ ++ ([]:List T68)=_;simp [It.nodes,its,ae])
theorem iE {t:T68} {a:It} (h:a∈its t):∀ y∈a.nodes,y∈ae t:=fun y hy=>by rw [← jC];exact ϔ.mpr ⟨a,h,hy⟩
def It.map (f:T68→T68):It→It
 | .n z=>.n (f z)
 | .ns z=>.ns (z.map f)
 | z=>z
theorem sd (f:T68→T68) (t:T68):its (wpT t ((ae t).map f))=(its t).map (It.map f):=by cases t <;> rfl
theorem lH (t:T68):(its t).length≤7:=by cases t <;> exact Θ rfl
def Nst:Nat→T68→Prop
 | 0,_=>False
 | n+1,t=>(ae t).length≤4∧∀ y∈ae t,Nst n y
theorem Ok.nst {W:List ι}:∀ {n:Nat} {bs:List ι} {t:T68},Ok W n bs t→Nst n t
 | 0,bs,t,o=>o.elim
 | n+1,bs,t,⟨o1,_,_,o4⟩=>⟨bH o1,fun y hy=>by obtain ⟨i,hi⟩:=ϓ.mp hy;exact (o4 i y hi).nst⟩
theorem Kd.nr (k:Kd):noR k.toD=true:=by
 induction k with
 | to a b ha hb=>show (true && (noR a.toD && (noR b.toD && true)))=true;rw [ha,hb];rfl
 | row a ha=>show (true && (noR a.toD && true))=true;rw [ha];rfl
 | pair a b ha hb=>show (true && (noR a.toD && (noR b.toD && true)))=true;rw [ha,hb];rfl
 | _=>rfl
theorem cQ {l:List D} (h:∀ d∈l,noR d=true):az l=true:=by
 induction l with
 | nil=>rfl
 | cons d r ih=>show (noR d && az r)=true;rw [h d (by simp),ih (fun e he=>h e (by simp [he]))];rfl
theorem T68.nr:∀ (n:Nat) (t:T68),Nst n t→noR t.toD=true
 | 0,t,h=>h.elim
 | n+1,t,h=>by
   have kd:=fun y hy=>T68.nr n y (h.2 y hy)
   rw [lG]
   show az (dI (its t))=true
   refine cQ fun d hd=>?_
   obtain ⟨a,ha,rfl⟩:=ϖ.mp hd
   have am:=iE ha
   cases a with
   | k k=>exact k.nr
   | n y=>exact kd y (am y (by simp [It.nodes]))
   | ns ts=>
     show az (toDs ts)=true
     rw [bK]
     refine cQ fun d hd=>?_
     obtain ⟨y,hy,rfl⟩:=ϖ.mp hd
     exact kd y (am y hy)
   | _=>rfl
theorem fG (n:Nat):∀ l:List D,(∀ d∈l,eqv n d d=some true)→cI (eqv n) l l=some true
 | [],_=>rfl
 | d :: r,h=>by
   show (match eqv n d d with | none=>none | some x=>(cI (eqv n) r r).map (x && ·))=_
   rw [h d (μ ..),fG n r fun e he=>h e (ν _ he)];rfl
theorem cV {n:Nat} {l:List D} (h:∀ d∈l,eqv n d d=some true):eqv (n+1) (.tup l) (.tup l)=some true:=by
 show (cI (eqv n) l l).map (· && l.length == l.length)=_
 rw [fG n l h,ZT];rfl
theorem qm {n:Nat} {l:List D} (h:∀ d∈l,eqv n d d=some true):eqv (n+1) (.lst l) (.lst l)=some true:=by
 show (if l.length=l.length then cI (eqv n) l l else some false)=_
 rw [ZZ rfl,fG n l h]
def Kok:Nat→T68→Prop
 | 0,_=>False
 | n+1,t=>(∀ k,It.k k∈its t→k.dep≤8)∧∀ y∈ae t,Kok n y
theorem T68.same:∀ (n m:Nat) (t:T68),Kok n t→2 * n+10≤m→eqv m t.toD t.toD=some true
 | 0,m,t,h,_=>h.elim
 | n+1,m,t,h,hm=>by
   obtain ⟨m,rfl⟩:∃ k,m=k+2:=⟨m - 2,by omega⟩
   have kd:=fun y hy q hq=>T68.same n q y (h.2 y hy) hq
   rw [lG]
   refine cV fun d hd=>?_
   obtain ⟨a,ha,rfl⟩:=ϖ.mp hd
   have am:=iE ha
   cases a with
   | k k=>show eqv (m+1) k.toD k.toD=_;rw [kF (m+1) k (by have:=h.1 k ha;omega)];simp
   | n y=>exact kd y (am y (by simp [It.nodes])) _ (by omega)
   | ns ts=>
     show eqv (m+1) (.tup (toDs ts)) (.tup (toDs ts))=_
     refine cV fun d hd=>?_
     rw [bK] at hd
     obtain ⟨y,hy,rfl⟩:=ϖ.mp hd
     exact kd y (am y hy) _ (by omega)
   | s x=>show some (x == x)=_;rw [ZT]
   | i x=>show some (x == x)=_;rw [ZT]
   | b x=>show some (x == x)=_;rw [ZT]
theorem Ok.mono {W:List ι}:∀ {n n':Nat} {bs bs':List ι} {t:T68},Ok W n bs t→(∀ x∈bs,x∈bs')→n≤n'→Ok W n' bs' t
 | 0,n',bs,bs',t,h,_,_=>h.elim
 | n+1,0,bs,bs',t,_,_,h=>ZX h (by omega)
 | n+1,n'+1,bs,bs',t,⟨o1,o2,o3,o4⟩,hs,hn=>by
   refine ⟨?_,o2,o3,fun i k hk=>(o4 i k hk).mono (fun x hx=>?_) (by omega)⟩
   ·cases t <;> first | exact hs _ o1 | exact o1
   ·rcases Ϡ.mp hx with hx | hx
    ·exact É _ (hs x hx)
    ·exact Ã _ hx
theorem tu (a:Kd):a.par .unt=none:=by cases a <;> rfl
def isU:T68→Bool
 | .as_ _ .unt _=>true
 | _=>false
def cv (p q:Int):Nat→T68→T68
 | 0,t=>t
 | n+1,t=>if t.pl=p then .as_ q .unt (wpT t ((ae t).map (cv p q n))) else wpT t ((ae t).map (cv p q n))
section
variable {p q x:Int}
theorem za (t:T68) (ks:List T68) (h:ks.length=(ae t).length):isU (wpT t ks)=isU t:=by
 cases t with
 | as_ p k a=>obtain ⟨_,rfl⟩:=l1 h;cases k <;> rfl
 | _=>first | rfl | (obtain ⟨_,_,rfl⟩:=l2 h;rfl) | (obtain ⟨_,rfl⟩:=l1 h;rfl) | (obtain ⟨_,_,_,rfl⟩:=l3 h;rfl) | (have:=l0 h;subst this;rfl)
theorem xh (t:T68) (ks:List T68) (h:ks.length=(ae t).length):wks (wpT t ks)=wks t:=by
 cases t <;> first | rfl | (obtain ⟨_,_,rfl⟩:=l2 h;rfl) | (obtain ⟨_,rfl⟩:=l1 h;rfl) | (obtain ⟨_,_,_,rfl⟩:=l3 h;rfl) | (have:=l0 h;subst this;rfl)
theorem xe (t:T68) (ks:List T68) (h:ks.length=(ae t).length) (i:Nat):bnd (wpT t ks) i=bnd t i:=by
 cases t <;> first | rfl | (obtain ⟨_,_,rfl⟩:=l2 h;rcases i with _ | _ | i <;> rfl) | (obtain ⟨_,rfl⟩:=l1 h;rfl) | (obtain ⟨_,_,_,rfl⟩:=l3 h;rfl) | (have:=l0 h;subst this;rfl)
theorem xg {W bs:List ι} (t:T68) (ks:List T68) (h:ks.length=(ae t).length) (o:own W bs t):own W bs (wpT t ks):=by
 cases t <;> first | exact o | (obtain ⟨_,_,rfl⟩:=l2 h;exact o) | (obtain ⟨_,rfl⟩:=l1 h;exact o) | (obtain ⟨_,_,_,rfl⟩:=l3 h;exact o) | (have:=l0 h;subst this;exact o) | exact (show _≤4 from ϰ (Nat.le_of_eq h) o)
theorem b9 {n:Nat} (t:T68):((ae t).map (cv p q n)).length=(ae t).length:=Η ..
theorem uj:∀ {n:Nat} {t:T68},p ∉ ai n t→cv p q n t=t
 | 0,t,_=>rfl
 | n+1,t,h=>by
   have h:p ∉ t.pl :: (ae t).flatMap (ai n):=h
   rw [ς,not_or] at h
   unfold cv
   rw [ZY fun e=>h.1 e.symm]
   have:(ae t).map (cv p q n)=ae t:=by
    conv=>rhs;rw [← C6 (ae t)]
    exact ġ fun y hy=>uj fun m=>h.2 (ϔ.mpr ⟨y,hy,m⟩)
   rw [this,jd]
theorem ky {f g:T68→List Int}:∀ l:List T68,(∀ y∈l,(f y).count x≤(g y).count x)→(l.flatMap f).count x≤(l.flatMap g).count x
 | [],_=>Ο _
 | y :: l,h=>by
   rw [Ϛ,Ϛ,Ϲ,Ϲ]
   have:=h y (by simp)
   have:=ky l fun z hz=>h z (by simp [hz])
   omega
theorem oI:∀ (n:Nat) (t:T68),(ai n t).count x≤(ai (n+1) t).count x
 | 0,t=>Î _
 | n+1,t=>by
   show (t.pl :: (ae t).flatMap (ai n)).count x≤(t.pl :: (ae t).flatMap (ai (n+1))).count x
   rw [ï,ï]
   have:=ky (x:=x) (ae t) fun y _=>oI n y
   omega
theorem ui {n:Nat} (ih:∀ t,(ai n (cv p q n t)).count x≤(ai n t).count x+(if x=q then (ai n t).count p else 0)):∀ l:List T68,((l.map (cv p q n)).flatMap (ai n)).count x≤(l.flatMap (ai n)).count x+(if x=q then (l.flatMap (ai n)).count p else 0)
 | []=>by simp
 | y :: l=>by
   rw [à,Ϛ,Ϛ,Ϲ,Ϲ,Ϲ]
   have h1:=ih y
   have h2:=ui ih l
   by_cases c:x=q
   ·rw [ZZ c] at h1 h2 ⊢;omega
   ·rw [ZY c] at h1 h2 ⊢;omega
theorem ko:∀ (n:Nat) (t:T68),(ai n (cv p q n t)).count x≤(ai n t).count x+(if x=q then (ai n t).count p else 0)
 | 0,t=>Î _
 | n+1,t=>by
   have hf:=ui (ko n) (ae t)
   have e:ai (n+1) (wpT t ((ae t).map (cv p q n)))=t.pl :: ((ae t).map (cv p q n)).flatMap (ai n):=by
    show (wpT t _).pl :: (ae (wpT t _)).flatMap (ai n)=_
    rw [re _ _ (b9 t),fh _ _ (b9 t)]
   have e2:ai (n+1) t=t.pl :: (ae t).flatMap (ai n):=rfl
   unfold cv
   by_cases h:t.pl=p
   ·rw [ZZ h]
    show (q :: [wpT t ((ae t).map (cv p q n))].flatMap (ai n)).count x≤_
    have u:=oI (x:=x) n (wpT t ((ae t).map (cv p q n)))
    rw [e] at u
    rw [e2]
    rw [Ϛ,D0,ώ]
    simp only [ï] at u ⊢
    subst h
    by_cases c:x=q
    ·subst c;simp at u hf ⊢;omega
    ·simp [c,Ϥ c] at u hf ⊢;omega
   ·rw [ZY h,e,e2]
    simp only [ï]
    by_cases c:x=q
    ·subst c;simp [h] at hf ⊢;omega
    ·simp [c] at hf ⊢;omega
theorem xS {n:Nat} {t:T68} (nd:(ai n t).Nodup) (hq:q ∉ ai n t):(ai n (cv p q n t)).Nodup:=by
 rw [Ĝ] at nd ⊢
 intro x
 have h:=ko (p:=p) (q:=q) (x:=x) n t
 by_cases c:x=q
 ·subst c
  rw [ZZ rfl,List.count_eq_zero.mpr hq] at h
  have:=nd p;omega
 ·rw [ZY c] at h
  have:=nd x;omega
theorem vn {n:Nat} {t:T68} (h:x∈ai n (cv p q n t)):x∈ai n t∨x=q:=by
 have h1:=Ć.mpr h
 have h2:=ko (p:=p) (q:=q) (x:=x) n t
 by_cases c:x=q
 ·exact .inr c
 ·rw [ZY c] at h2
  exact .inl (Ć.mp (by omega))
def rf:Nat→Bool→T68→List Int
 | 0,_,_=>[]
 | n+1,b,t=>(if (b || isU t)=true then [] else [t.pl]) ++ (ae t).flatMap (rf n (isU t))
theorem kT:∀ (n:Nat) (b:Bool) (t:T68),(rf n b t).count x≤(ai n t).count x
 | 0,_,t=>Ο _
 | n+1,b,t=>by
   show ((if (b || isU t)=true then [] else [t.pl]) ++ (ae t).flatMap (rf n (isU t))).count x≤(t.pl :: (ae t).flatMap (ai n)).count x
   rw [Ϲ,ï]
   have:=ky (x:=x) (ae t) fun y _=>kT n (isU t) y
   split <;> simp [ï] <;> omega
theorem qM {n:Nat} {b:Bool} {t:T68} (h:x∈rf n b t):x∈ai n t:=Ć.mp (Ĉ (Ć.mpr h) (kT n b t))
theorem uQ:∀ {n:Nat} {b:Bool} {t:T68},x∈rf n b t→x∈rf (n+1) b t
 | 0,_,t,h=>by cases h
 | n+1,b,t,h=>by
   rcases Ϡ.mp h with h | h
   ·exact É _ h
   ·obtain ⟨y,hy,m⟩:=ϔ.mp h
    exact Ã _ (ϔ.mpr ⟨y,hy,uQ m⟩)
theorem jq:∀ {n:Nat} {b:Bool} {t:T68},x∈rf n b (cv p q n t)→x∈rf n b t∧x≠p
 | 0,_,t,h=>by cases h
 | n+1,b,t,h=>by
   have kidsI:∀ {m:Nat},m≤n→n≤m+1→x∈((ae t).map (cv p q n)).flatMap (rf m (isU t))→x∈(ae t).flatMap (rf n (isU t))∧x≠p:=fun {m} h1 h2 h=>by
    obtain ⟨y,hy,hm⟩:=ϔ.mp h
    obtain ⟨z,hz,rfl⟩:=ϖ.mp hy
    have hm:x∈rf n (isU t) (cv p q n z):=by
     by_cases c:m=n
     ·subst c;exact hm
     ·have:n=m+1:=by omega
      subst this;exact uQ hm
    obtain ⟨g1,g2⟩:=jq hm
    exact ⟨ϔ.mpr ⟨z,hz,g1⟩,g2⟩
   have ek:=fh t _ (b9 (p:=p) (q:=q) (n:=n) t)
   have eu:=za t _ (b9 (p:=p) (q:=q) (n:=n) t)
   have ep:=re t _ (b9 (p:=p) (q:=q) (n:=n) t)
   unfold cv at h
   by_cases c:t.pl=p
   ·rw [ZZ c] at h
    have h:x∈(if (b || true)=true then [] else [q]) ++ [wpT t ((ae t).map (cv p q n))].flatMap (rf n true):=h
    rw [DT,ZZ rfl,ğ,Ϛ,D0,ώ] at h
    cases n with
    | zero=>cases h
    | succ m=>
      have h:x∈(if (true || isU (wpT t ((ae t).map (cv p q (m+1)))))=true then [] else [_]) ++ (ae (wpT t ((ae t).map (cv p q (m+1))))).flatMap (rf m (isU (wpT t ((ae t).map (cv p q (m+1)))))):=h
      rw [BS,ZZ rfl,ğ,ek,eu] at h
      obtain ⟨g1,g2⟩:=kidsI (by omega) (Ο _) h
      exact ⟨Ã _ g1,g2⟩
   ·rw [ZY c] at h
    have h:x∈(if (b || isU (wpT t ((ae t).map (cv p q n))))=true then [] else [(wpT t ((ae t).map (cv p q n))).pl]) ++ (ae (wpT t ((ae t).map (cv p q n)))).flatMap (rf n (isU (wpT t ((ae t).map (cv p q n))))):=h
    rw [ek,eu,ep] at h
    rcases Ϡ.mp h with h | h
    ·refine ⟨É _ h,?_⟩
     split at h
     ·cases h
     ·rw [η.mp h];exact c
    ·obtain ⟨g1,g2⟩:=kidsI (Ο _) (by omega) h
     exact ⟨Ã _ g1,g2⟩
def Pt:Nat→Bool→T68→Prop
 | 0,_,_=>False
 | 1,b,t=>(b || isU t)=true∧ae t = []
 | n+2,b,t=>if (b || isU t)=true then ∀ y∈ae t,Pt (n+1) (isU t) y else ∀ y∈ae t,Pt n (isU t) y
def Cb (p:Int):Nat→Bool→T68→Prop
 | 0,_,_=>True
 | m+1,b,t=>((b || isU t)=true→t.pl≠p)∧∀ y∈ae t,Cb p m (isU t) y
theorem Cb.no:∀ {m:Nat} {b:Bool} {t:T68},p ∉ ai m t→Cb p m b t
 | 0,_,_,_=>trivial
 | m+1,b,t,h=>⟨fun _ e=>h (by rw [← e];exact μ),fun y hy=>Cb.no fun k=>h (ν _ (ϔ.mpr ⟨y,hy,k⟩))⟩
theorem Cb.of:∀ {m:Nat} {b:Bool} {t:T68},(ai m t).Nodup→p∈rf m b t→Cb p m b t
 | 0,_,_,_,_=>trivial
 | m+1,b,t,nd,h=>by
   have nd:(t.pl :: (ae t).flatMap (ai m)).Nodup:=nd
   obtain ⟨n1,n2⟩:=ϟ.mp nd
   rcases Ϡ.mp h with h | h
   ·split at h
    ·cases h
    ·rename_i c
     have e:=η.mp h
     exact ⟨fun k=>ZX k c,fun y hy=>Cb.no fun k=>n1 (by rw [← e];exact ϔ.mpr ⟨y,hy,k⟩)⟩
   ·obtain ⟨y0,hy0,h⟩:=ϔ.mp h
    have h0:=qM h
    refine ⟨fun _ e=>n1 (by rw [e];exact ϔ.mpr ⟨y0,hy0,h0⟩),?_⟩
    obtain ⟨P,R,e⟩:=Cz hy0
    rw [e] at n2 ⊢
    rw [Cj,Ϛ] at n2
    obtain ⟨_,n3,d1⟩:=Į.mp n2
    obtain ⟨n4,_,d2⟩:=Į.mp n3
    intro y hy
    rcases Ϡ.mp hy with hy | hy
    ·exact Cb.no fun k=>d1 p (ϔ.mpr ⟨y,hy,k⟩) p (É _ h0) rfl
    ·rcases ς.mp hy with rfl | hy
     ·exact Cb.of n4 h
     ·exact Cb.no fun k=>d2 p h0 p (ϔ.mpr ⟨y,hy,k⟩) rfl
theorem Pt.cv:∀ {n m:Nat} {b:Bool} {t:T68},Pt n b t→Cb p m b t→Pt n b (cv p q m t)
 | 0,_,_,_,h,_=>h.elim
 | n+1,0,_,_,h,_=>h
 | 1,m+1,b,t,h,c=>by
   obtain ⟨h1,h2⟩:=h
   unfold L2.K87.cv
   rw [ZY (c.1 h1),h2]
   have:wpT t []=t:=by rw [← h2,jd]
   rw [A5,this]
   exact ⟨h1,h2⟩
 | n+2,m+1,b,t,h,c=>by
   have ek:=fh t _ (b9 (p:=p) (q:=q) (n:=m) t)
   have eu:=za t _ (b9 (p:=p) (q:=q) (n:=m) t)
   have i1:∀ {k:Nat},k≤n+1→(∀ y∈ae t,Pt k (isU t) y)→∀ y∈(ae t).map (L2.K87.cv p q m),Pt k (isU t) y:=fun {k} hk g y hy=>by
    obtain ⟨z,hz,rfl⟩:=ϖ.mp hy
    exact Pt.cv (g z hz) (c.2 z hz)
   unfold Pt at h
   unfold L2.K87.cv
   by_cases e:t.pl=p
   ·rw [ZZ e]
    have nb:¬ (b || isU t)=true:=fun k=>c.1 k e
    rw [ZY nb] at h
    have h:=i1 (by omega) h
    show (if (b || true)=true then ∀ y∈[wpT t ((ae t).map (L2.K87.cv p q m))],Pt (n+1) true y else _)
    rw [DT,ZZ rfl]
    intro y hy
    rw [η.mp hy]
    cases n with
    | zero=>
      refine ⟨BS _,?_⟩
      rw [ek]
      cases q:ae t with
      | nil=>rfl
      | cons z r=>exact (h _ (by rw [q];exact μ)).elim
    | succ n=>
      show (if (true || isU (wpT t _))=true then ∀ y∈ae (wpT t _),Pt (n+1) (isU (wpT t _)) y else _)
      rw [BS,ZZ rfl,ek,eu]
      exact h
   ·rw [ZY e]
    unfold Pt
    rw [eu,ek]
    split
    ·rename_i k;rw [ZZ k] at h;exact i1 (by omega) h
    ·rename_i k;rw [ZY k] at h;exact i1 (by omega) h
theorem Pt.up:∀ {n:Nat} {b:Bool} {t:T68},Pt n b t→Pt (n+1) b t
 | 0,_,_,h=>h.elim
 | 1,b,t,⟨h1,h2⟩=>by unfold Pt;rw [ZZ h1,h2];intro y hy;cases hy
 | n+2,b,t,h=>by
   unfold Pt at h ⊢
   split
   ·rename_i c;rw [ZZ c] at h;exact fun y hy=>(h y hy).up
   ·rename_i c;rw [ZY c] at h;exact fun y hy=>(h y hy).up
theorem Pt.of {W:List ι}:∀ {n:Nat} {bs:List ι} {b:Bool} {t:T68},Ok W n bs t→Pt (2 * n) b t
 | 0,_,_,_,o=>o.elim
 | n+1,bs,b,t,o=>by
   show Pt (2 * n+2) b t
   have h:∀ y∈ae t,Pt (2 * n) (isU t) y:=fun y hy=>by obtain ⟨i,hi⟩:=ϓ.mp hy;exact Pt.of (o.2.2.2 i y hi)
   unfold Pt
   split
   ·exact fun y hy=>(h y hy).up
   ·exact h
theorem Ok.pt {W:List ι}:∀ {n m:Nat} {bs:List ι} {b:Bool} {t:T68},Ok W m bs t→Pt n b t→Ok W n bs t
 | 0,_,_,_,_,_,h=>h.elim
 | _,0,_,_,_,o,_=>o.elim
 | 1,m+1,bs,b,t,⟨o1,o2,o3,o4⟩,⟨_,h⟩=>⟨o1,o2,o3,fun i k e=>by rw [h] at e;simp at e⟩
 | n+2,m+1,bs,b,t,⟨o1,o2,o3,o4⟩,h=>by
   unfold Pt at h
   refine ⟨o1,o2,o3,fun i k e=>?_⟩
   have hk:=Ζ e
   split at h
   ·exact (o4 i k e).pt (h k hk)
   ·exact (o4 i k e).pt (h k hk).up
theorem Ok.cv {W:List ι} (sq:Sm q):∀ {n m:Nat} {bs:List ι} {t:T68},Ok W n bs t→Ok W (2 * n) bs (cv p q m t)
 | 0,_,_,_,o=>o.elim
 | n+1,0,bs,t,o=>o.mono (fun _ h=>h) (by omega)
 | n+1,m+1,bs,t,o=>by
   obtain ⟨o1,o2,o3,o4⟩:=o
   have hl:=b9 (p:=p) (q:=q) (n:=m) t
   have u:Ok W (2 * n+1) bs (wpT t ((ae t).map (L2.K87.cv p q m))):=⟨xg _ _ hl o1,by rw [re _ _ hl];exact o2,by rw [xh _ _ hl];exact o3,fun i k e=>by
    rw [fh _ _ hl,Ω] at e
    obtain ⟨z,hz,rfl⟩:=π.mp e
    rw [xe _ _ hl]
    exact (o4 i z hz).cv sq⟩
   unfold L2.K87.cv
   split
   ·refine ⟨trivial,sq,fun k hk=>by rw [η.mp hk];decide,fun i k e=>?_⟩
    match i,e with
    | 0,e=>cases e;show Ok W (2 * n+1) (bs ++ []) _;rw [ώ];exact u
    | i+1,e=>simp [ae] at e
   ·exact u.mono (fun _ h=>h) (by omega)
theorem Aa {n:Nat} {y:T68} {N kd wd kd1 wd1:Al} {k:Kd} (h:isU y=true) (e:lkM (n+1) y N kd wd = .ok (k,kd1,wd1)):k = .unt:=by
 obtain ⟨fs,kd2,_,_,_,rfl,_⟩:=p6 e
 cases y with
 | as_ p k a=>cases k <;> first | rfl | cases h
 | _=>cases h
theorem xb {t:T68} {fs:List Kd} (h:isU t=true):aL t fs = .unt:=by
 cases t with
 | as_ p k a=>cases k <;> first | rfl | cases h
 | _=>cases h
def Ef (L:List Int):Er→Prop
 | .name _=>False
 | .deep _=>True
 | .parted p k _ w _=>p∈L∧k.dep≤4∧w.dep≤4
theorem Ef.mono {L M:List Int} {e:Er} (h:Ef L e) (s:∀ x∈L,x∈M):Ef M e:=by
 cases e with
 | name p=>exact h
 | deep p=>exact h
 | parted p k b w way=>exact ⟨s _ h.1,h.2⟩
theorem pL {fs:List Kd} {k:Kd}:(fs ++ [k]).getLastD .unt=k:=by simp
theorem rY {n:Nat} {t y:T68} {fs:List Kd} {k:Kd} {N kd wd wd1 kd1:Al} {e:Er} (hy:(ae t)[fs.length]? = some y) (hk:lkM n y N kd wd = .ok (k,kd1,wd1)) (hf:∀ k'∈fs ++ [k],k'.dep≤4) (hw:∀ k∈wks t,k.dep≤4) (h:cC t y (fs ++ [k]) wd1 = .error e):Ef (rf n (isU t) y) e:=by
 cases n with
 | zero=>cases hk
 | succ n=>
   have yes:∀ {p:Int},p=y.pl→isU t=false→isU y=false→p∈rf (n+1) (isU t) y:=fun {p} e h1 h2=>by
    show p∈(if (isU t || isU y)=true then [] else [y.pl]) ++ _
    rw [h1,h2,ZY (by decide)]
    exact É _ (by rw [e];exact μ)
   have ny:∀ c:Kd,k.par c≠none→isU y=false:=fun c hc=>by
    cases q:isU y with
    | false=>rfl
    | true=>rw [Aa q hk] at hc;exact ZX rfl hc
   have k4:k.dep≤4:=hf k (by simp)
   by_cases c:dv t (fs ++ [k])=true
   ·obtain ⟨p0,v,a,b0,f0,f,g,rfl,ef⟩:=fK c
    have eb:=jz (k:=k) hy _ _ _ _ rfl (by rw [ef];rfl)
    have f4:f.dep≤4:=hf f (by rw [ef];simp)
    have eg:k=g:=by
     have:=ZS (fun l=>l.getLastD .unt) ef
     simpa using this
    rw [ef,c6] at h
    cases qp:g.par f with
    | none=>rw [qp] at h;cases h
    | some w'=>
      rw [qp] at h
      cases h
      exact ⟨yes (by rw [eb]) rfl (ny f (by rw [eg,qp];exact fun h=>nomatch h)),eg ▸ k4,f4⟩
   ·rw [dK (by simpa using c),pL] at h
    cases qp:k.par (aL t (fs ++ [k])) with
    | none=>rw [qp] at h;cases h
    | some w'=>
      have nu:isU t=false:=by
       cases q:isU t with
       | false=>rfl
       | true=>rw [xb q,tu] at qp;cases qp
      rw [qp] at h
      cases h
      exact ⟨yes rfl nu (ny _ (by rw [qp];exact fun h=>nomatch h)),k4,j5 t _ hf hw⟩
theorem lN {n:Nat} (ih:∀ y N kd wd e,lkM n y N kd wd = .error e→∀ b',Ef (rf n b' y) e) (t:T68) (hw:∀ k∈wks t,k.dep≤4) (N:Al):∀ (r:List T68) (fs:List Kd) (kd wd:Al) (e:Er),(∀ k∈fs,k.dep≤4)→(∀ j y,r[j]? = some y→(ae t)[fs.length+j]? = some y)→bq (lkM n) t N r fs kd wd = .error e→Ef ((ae t).flatMap (rf n (isU t))) e
 | [],fs,kd,wd,e,_,_,h=>by cases h
 | y :: r,fs,kd,wd,e,hf,hr,h=>by
   have hy:(ae t)[fs.length]? = some y:=hr 0 y rfl
   have up:∀ x∈rf n (isU t) y,x∈(ae t).flatMap (rf n (isU t)):=fun x hx=>ϔ.mpr ⟨y,Ζ hy,hx⟩
   unfold bq at h
   cases q1:lkM n y (inN t fs.length fs N) kd wd with
   | error e'=>rw [q1] at h;cases h;exact (ih _ _ _ _ _ q1 _).mono up
   | ok v=>
     obtain ⟨k1,kd1,wd1⟩:=v
     rw [q1] at h
     dsimp only at h
     have hf2:∀ k'∈fs ++ [k1],k'.dep≤4:=fun k' h=>by
      rcases Ϡ.mp h with h | h
      ·exact hf k' h
      ·rw [η.mp h];exact (uC n y _ _ _ _ _ _ q1).1
     cases q2:cC t y (fs ++ [k1]) wd1 with
     | error e'=>rw [q2] at h;cases h;exact (rY hy q1 hf2 hw q2).mono up
     | ok wd2=>
       rw [q2] at h
       exact lN ih t hw N r (fs ++ [k1]) kd1 wd2 e hf2 (fun j z hz=>by rw [ω,Κ,ű,Œ 1 j];exact hr (j+1) z (by simpa using hz)) h
theorem uD:∀ (n:Nat) (t:T68) (N kd wd:Al) (e:Er),lkM n t N kd wd = .error e→∀ b',Ef (rf n b' t) e
 | 0,t,N,kd,wd,e,h,_=>by cases h;trivial
 | n+1,t,N,kd,wd,e,h,b'=>by
   unfold lkM at h
   by_cases c:(wks t).any (fun k=>decide (4<k.dep))=true
   ·rw [ZZ c] at h;cases h;trivial
   ·rw [ZY c] at h
    have hw4:∀ k∈wks t,k.dep≤4:=fun k hk=>by
     have:¬ 4<k.dep:=fun h=>c (Ï.mpr ⟨k,hk,ZW h⟩)
     omega
    cases q1:bq (lkM n) t N (ae t) [] kd wd with
    | error e'=>rw [q1] at h;cases h;exact (lN (fun y N kd wd e h=>uD n y N kd wd e h) t hw4 N (ae t) [] kd wd _ (fun k h=>by cases h) (fun j y hj=>by rw [ϒ,ŏ];exact hj) q1).mono fun x hx=>Ã _ hx
    | ok v=>
      obtain ⟨fs,kd1,wd1⟩:=v
      rw [q1] at h
      dsimp only at h
      split at h
      ·cases h;trivial
      ·cases h
theorem hX {n:Nat} {t:T68} {e:Er} (h:av n t = .error e):Ef (rf n true t) e:=by
 unfold av at h
 cases q:lkM n t [] [] [] with
 | error e'=>rw [q] at h;cases h;exact uD _ _ _ _ _ _ q _
 | ok v=>obtain ⟨k,kd,wd⟩:=v;rw [q] at h;cases h
end
theorem c8 (k:Kd) (S:List O):biD .isInt [look S k.toD]=some (.bl false):=by cases k <;> rfl
theorem iD (t:T68) (S:List O):biD .isTup [look S t.toD]=some (.bl true):=by cases t <;> rfl
abbrev pC:E:=.tand (.tv (.bi .isTup (.cons (.v 0) .nil))) (.tand (.op .gt (.bi .len (.cons (.v 0) .nil)) (.c (.int 1))) (.tv (.bi .isInt (.cons (.ix (.v 0) (.c (.int 1))) .nil))))
def It.one:It→Prop
 | .ns _=>False
 | _=>True
theorem yT (t:T68) (S:List O):∃ n:Int,biD .len [look S t.toD]=some (.int n)∧decide ((1:Int)<n)=true:=by cases t <;> exact ⟨_,rfl,rfl⟩
theorem sN (m:Nat) (a:It) (h:a.one) (x:D) (e2:Option D) (S:List O):ev Γ (ac Γ m) (aj Γ m) true pC ⟨[some a.toD,some x,e2],[],S⟩ = .ok (.bl (!a.nodes.isEmpty)) ⟨[some a.toD,some x,e2],[],S⟩:=by
 cases a with
 | ns l=>exact h.elim
 | n t=>
   obtain ⟨n,h1,h2⟩:=yT t S
   have h3:=iD t S
   have h4:=bP t S
   show ev Γ (ac Γ m) (aj Γ m) true pC ⟨[some t.toD,some x,e2],[],S⟩ = .ok (.bl true) ⟨[some t.toD,some x,e2],[],S⟩
   exact (dJ false (aX 0 (h3) (aX 2 (h1) (aX 1 (h2) (aX 0 (h4) aZ)))) (by kernel_rfl))
 | k k=>cases k with
   | to a b=>
     have h:=c8 a S
     show ev Γ (ac Γ m) (aj Γ m) true pC ⟨[some (Kd.to a b).toD,some x,e2],[],S⟩ = .ok (.bl false) ⟨[some (Kd.to a b).toD,some x,e2],[],S⟩
     exact (dJ false (aX 7 (h) aZ) (by kernel_rfl))
   | row a=>
     have h:=c8 a S
     show ev Γ (ac Γ m) (aj Γ m) true pC ⟨[some (Kd.row a).toD,some x,e2],[],S⟩ = .ok (.bl false) ⟨[some (Kd.row a).toD,some x,e2],[],S⟩
     exact (dJ false (aX 7 (h) aZ) (by kernel_rfl))
   | pair a b=>
     have h:=c8 a S
     show ev Γ (ac Γ m) (aj Γ m) true pC ⟨[some (Kd.pair a b).toD,some x,e2],[],S⟩ = .ok (.bl false) ⟨[some (Kd.pair a b).toD,some x,e2],[],S⟩
     exact (dJ false (aX 7 (h) aZ) (by kernel_rfl))
   | _=>kernel_rfl
 | _=>kernel_rfl
theorem df (m:Nat) (x:D) (e2:Option D) (S:List O):∀ (l:List It) (acc:List T68) (e:Option D),(∀ a∈l,a.one)→acc.length+l.length<1000→∃ e':Option D,aQ (lcQ Γ (ac Γ m) (aj Γ m) [0] true (.v 0) pC) (dI l) (toDs acc) ⟨[e,some x,e2],[],S⟩ = .ok (.lst (toDs (acc ++ l.flatMap It.nodes))) ⟨[e',some x,e2],[],S⟩
 | [],acc,e,_,_=>⟨e,by simp [dI,aQ]⟩
 | a :: r,acc,e,h,hl=>by
   simp only [Ι] at hl
   have c:=sN m a (h a (by simp)) x e2 S
   cases a with
   | ns l=>exact (h (.ns l) (by simp)).elim
   | n t=>
     obtain ⟨e',g⟩:=df m x e2 S r (acc ++ [t]) (some t.toD) (fun z hz=>h z (by simp [hz])) (by rw [ω,Κ];omega)
     rw [j3,ϩ] at g
     exact ⟨e',c9 (fP rfl c rfl) (by rw [j4];omega) g⟩
   | s z=>obtain ⟨e',g⟩:=df m x e2 S r acc (some (It.s z).toD) (fun z hz=>h z (by simp [hz])) (by omega);exact ⟨e',eX (iL rfl c) g⟩
   | i z=>obtain ⟨e',g⟩:=df m x e2 S r acc (some (It.i z).toD) (fun z hz=>h z (by simp [hz])) (by omega);exact ⟨e',eX (iL rfl c) g⟩
   | b z=>obtain ⟨e',g⟩:=df m x e2 S r acc (some (It.b z).toD) (fun z hz=>h z (by simp [hz])) (by omega);exact ⟨e',eX (iL rfl c) g⟩
   | k z=>obtain ⟨e',g⟩:=df m x e2 S r acc (some (It.k z).toD) (fun z hz=>h z (by simp [hz])) (by omega);exact ⟨e',eX (iL rfl c) g⟩
theorem wi (t:T68) (ht:vD t=false) (m:Nat) (S:List O):ac Γ (m+1) iF [t.toD] S = .ok (.lst (toDs (ae t))) S:=by
 have go:∀ (w:ι) (l:List It) (p:Int),its t = .s w :: .i p :: l→(∀ a∈l,a.one)→∃ e:Option D,aQ (lcQ Γ (ac Γ m) (aj Γ m) [0] true (.v 0) pC) (dI l) [] ⟨[none,some t.toD,some (.str w)],[],S⟩ = .ok (.lst (toDs (ae t))) ⟨[e,some t.toD,some (.str w)],[],S⟩:=fun w l p e h=>by
  obtain ⟨e',g⟩:=df m t.toD (some (.str w)) S l [] none h (by
   have:=lH t
   rw [e] at this
   simp only [Ι,ϒ] at this ⊢;omega)
  refine ⟨e',?_⟩
  rw [← jC t,e]
  exact g
 cases t with
 | whole p v=>kernel_rfl
 | truth p v=>kernel_rfl
 | given p v=>kernel_rfl
 | name p v=>kernel_rfl
 | lk=>cases ht
 | row p k ts=>kernel_rfl
 | fn p x k b=>obtain ⟨e,g⟩:=go _ [.s x,.k k,.n b] p rfl (by simp [It.one]);exact (ag true (aX 0 (g) aZ) (by kernel_rfl))
 | slf p f x k g b=>obtain ⟨e,g⟩:=go _ [.s f,.s x,.k k,.k g,.n b] p rfl (by simp [It.one]);exact (ag true (aX 0 (g) aZ) (by kernel_rfl))
 | lt p x a b=>obtain ⟨e,g⟩:=go _ [.s x,.n a,.n b] p rfl (by simp [It.one]);exact (ag true (aX 0 (g) aZ) (by kernel_rfl))
 | iff p c a b=>obtain ⟨e,g⟩:=go _ [.n c,.n a,.n b] p rfl (by simp [It.one]);exact (ag true (aX 0 (g) aZ) (by kernel_rfl))
 | call p a b=>obtain ⟨e,g⟩:=go _ [.n a,.n b] p rfl (by simp [It.one]);exact (ag true (aX 0 (g) aZ) (by kernel_rfl))
 | bin p o a b=>obtain ⟨e,g⟩:=go _ [.s o.str,.n a,.n b] p rfl (by simp [It.one]);exact (ag true (aX 0 (g) aZ) (by kernel_rfl))
 | as_ p k a=>obtain ⟨e,g⟩:=go _ [.k k,.n a] p rfl (by simp [It.one]);exact (ag true (aX 0 (g) aZ) (by kernel_rfl))
 | pair p a b=>obtain ⟨e,g⟩:=go _ [.n a,.n b] p rfl (by simp [It.one]);exact (ag true (aX 0 (g) aZ) (by kernel_rfl))
 | att p a b=>obtain ⟨e,g⟩:=go _ [.n a,.n b] p rfl (by simp [It.one]);exact (ag true (aX 0 (g) aZ) (by kernel_rfl))
 | size p a=>obtain ⟨e,g⟩:=go _ [.n a] p rfl (by simp [It.one]);exact (ag true (aX 0 (g) aZ) (by kernel_rfl))
 | one p a=>obtain ⟨e,g⟩:=go _ [.n a] p rfl (by simp [It.one]);exact (ag true (aX 0 (g) aZ) (by kernel_rfl))
 | two p a=>obtain ⟨e,g⟩:=go _ [.n a] p rfl (by simp [It.one]);exact (ag true (aX 0 (g) aZ) (by kernel_rfl))
abbrev lpB:S:=dC gC.body
theorem jM {W:List ι} {n m:Nat} (ih:∀ (y:T68) (bs:List ι) (S:List O),Ok W n bs y→ac Γ m dy [y.toD] S = .ok (.lst (dsI (ai n y))) S) (t:T68) (S:List O):∀ (r:List T68) (acc:List Int) (e2:Option D) (ow:List Nat),ow = [1]∨ow = []→(∀ y∈r,∃ bs,Ok W n bs y)→acc.length+r.length * nb n≤100000→∃ (e2':Option D) (ow':List Nat),aO (eP Γ (ac Γ m) (aj Γ m) [2] true lpB) (toDs r) ⟨[some t.toD,some (.lst (dsI acc)),e2],ow,S⟩ = .nx ⟨[some t.toD,some (.lst (dsI (acc ++ r.flatMap (ai n)))),e2'],ow',S⟩
 | [],acc,e2,ow,_,_,_=>⟨e2,ow,by simp [aO,toDs]⟩
 | y :: r,acc,e2,ow,how,hr,hl=>by
   obtain ⟨bs,oy⟩:=hr y (by simp)
   have i1:=ih y bs S oy
   have pl:=iV n bs y oy
   simp only [Ι,Ĳ,Ţ] at hl
   obtain ⟨e2',ow',h⟩:=jM ih t S r (acc ++ ai n y) (some y.toD) [] (.inr rfl) (fun z hz=>hr z (by simp [hz])) (by rw [ω];omega)
   have l0:opD .add (.lst (dsI acc)) (.lst (dsI (ai n y)))=some (.lst (dsI (acc ++ ai n y))):=by
    show cH ((dsI acc).length+(dsI (ai n y)).length) _=_
    unfold cH dsI
    rw [ZZ (by rw [Η,Η];omega),ϳ]
   refine ⟨e2',ow',aP (s1:=⟨[some t.toD,some (.lst (dsI (acc ++ ai n y))),some y.toD],[],S⟩) (aM rfl ?_) ?_⟩
   ·rcases how with rfl | rfl
    ·exact (bU false (aX 0 (i1) (aX 0 (l0) aZ)) (by kernel_rfl))
    ·exact (bU false (aX 0 (i1) (aX 0 (l0) aZ)) (by kernel_rfl))
   ·rw [h,ϩ,Ϛ]
theorem iN {W:List ι}:∀ (n m:Nat) (t:T68) (bs:List ι) (S:List O),n+1≤m→n≤8→Ok W n bs t→ac Γ m dy [t.toD] S = .ok (.lst (dsI (ai n t))) S
 | 0,m,t,bs,S,_,_,o=>o.elim
 | n+1,m,t,bs,S,hm,h8,o=>by
   obtain ⟨m,rfl⟩:∃ k,m=k+2:=⟨m - 2,by omega⟩
   obtain ⟨o1,o2,o3,o4⟩:=o
   have p0:=wi t (qD o1) m S
   have kl:=bH o1
   have nb8:nb n≤5461:=by
    have:∀ k,k≤7→nb k≤5461:=by decide
    exact this n (by omega)
   have kn:(ae t).length * nb n≤4 * nb n:=ü _ kl
   obtain ⟨e2,ow,lp⟩:=jM (m:=m+1) (fun y bs S o=>iN n (m+1) y bs S (by omega) (by omega) o) t S (ae t) [t.pl] none [1] (.inl rfl) (fun y hy=>by obtain ⟨i,hi⟩:=ϓ.mp hy;exact ⟨_,o4 i y hi⟩) (by simp only [Κ];omega)
   exact (ag true (aX 0 (bP t S) (aX 0 (p0) (aX 0 (lp) aZ))) (by kernel_rfl))
theorem xY (e:Er):az e.ds=true:=cQ fun d hd=>by
 have sn:∀ l:List ι,az (sts l)=true:=fun l=>cQ fun d hd=>by obtain ⟨x,_,rfl⟩:=ϖ.mp hd;rfl
 cases e with
 | name p=>rw [η.mp hd];rfl
 | deep p=>rw [η.mp hd];rfl
 | parted p k b w way=>
   simp only [Er.ds,ς,Ç,or_false] at hd
   rcases hd with rfl | rfl | rfl | rfl | rfl
   ·rfl
   ·exact k.nr
   ·rfl
   ·exact w.nr
   ·exact sn way
theorem uo (l:Al):az (dsA l)=true:=cQ fun d hd=>by
 obtain ⟨p,_,rfl⟩:=ϖ.mp hd
 exact p.2.nr
theorem vv {kd wd:Al}:ng (ls kd wd) (.tup [.ref 1,.ref 2])=some (.tup [dA kd,dA wd]):=by
 show ((if az (dsA kd)=true then some (D.dic (ksA kd) (dsA kd)) else none).bind fun e=>((if az (dsA wd)=true then some (D.dic (ksA wd) (dsA wd)) else none).bind fun f=>(some []).map (f :: ·)).map (e :: ·)).map D.tup=_
 rw [ZZ (uo kd),ZZ (uo wd)];rfl
theorem w9 {W:List ι} {n:Nat} {t:T68} (o:Ok W n [] t):az [t.toD]=true:=cQ fun d hd=>by rw [η.mp hd];exact T68.nr n t o.nst
theorem sM {W:List ι} {kd wd:Al} (n m:Nat) (t:T68) (o:Ok W n [] t) (h8:n≤8) (hm:n+12≤m) (q:av n t = .ok (kd,wd)):ac Γ m dO [t.toD] [] = .ok (.tup [.ref 1,.ref 2]) (ls kd wd):=by
 have lk:=hV n m t o h8 hm
 rw [q] at lk;exact lk
theorem cL {a b:Int} (h:a=b):(a == b)=true:=by rw [h];exact ZT b
theorem aE {a b:Int} (h:a≠b):(a == b)=false:=by simpa using h
def wU:Er→Option D
 | .parted p k b w way=>some (.tup [.int p,k.toD,.int b,w.toD,.tup (sts way)])
 | .deep p=>some (.tup [.str "deep",.int p])
 | .name p=>some (.tup [.str "name",.int p])
def Ad (S:List O):Er→Res
 | .parted p k b w way=>.ok (.ins 4 (Er.parted p k b w way).ds) S
 | e=>.exc e.cls e.ds S
section
variable {W:List ι} {t:T68} (o:Ok W 8 [] t) (m:Nat) (hm:20≤m) (S:List O)
include o hm
theorem kS {kd wd:Al} (q:av 8 t = .ok (kd,wd)):ac Γ (m+1) au [t.toD] S = .ok .non S∧ac Γ (m+1) bp [t.toD] S = .ok .non S:=by
 have nt:=w9 o
 have lk:=sM 8 m t o (by decide) hm q
 have fz:=vv (kd:=kd) (wd:=wd)
 exact ⟨(ag false (aX 0 (nt) (aX 0 (lk) (aX 1 (fz) aZ))) (by kernel_rfl)),(ag false (aX 0 (nt) (aX 0 (lk) (aX 1 (fz) aZ))) (by kernel_rfl))⟩
theorem i6 {e:Er} (q:av 8 t = .error e):ac Γ (m+1) au [t.toD] S=Ad S e∧∃ d,wU e=some d∧ac Γ (m+1) bp [t.toD] S = .ok d S:=by
 have nt:=w9 o
 have lk:=hV 8 m t o (by decide) hm
 rw [q] at lk
 obtain ⟨st,lk⟩:=lk
 have en:=xY e
 cases e with
 | name p=>exact ⟨(show ac Γ (m+1) au [t.toD] S = .exc 2 [.int p] S from (ag false (aX 0 (nt) (aX 0 (lk) aZ)) (by kernel_rfl))),.tup [.str "name",.int p],rfl,(ag false (aX 0 (nt) (aX 0 (lk) aZ)) (by kernel_rfl))⟩
 | deep p=>exact ⟨(show ac Γ (m+1) au [t.toD] S = .exc 3 [.int p] S from (ag false (aX 0 (nt) (aX 0 (lk) aZ)) (by kernel_rfl))),.tup [.str "deep",.int p],rfl,(ag false (aX 0 (nt) (aX 0 (lk) aZ)) (by kernel_rfl))⟩
 | parted p k b w way=>exact ⟨(show ac Γ (m+1) au [t.toD] S = .ok (.ins 4 (Er.parted p k b w way).ds) S from (ag false (aX 0 (nt) (aX 0 (lk) (aX 0 (en) aZ))) (by kernel_rfl))),.tup [.int p,k.toD,.int b,w.toD,.tup (sts way)],rfl,(ag false (aX 0 (nt) (aX 0 (lk) (aX 0 (en) aZ))) (by kernel_rfl))⟩
end
abbrev uE:E:=.call 26 (.cons (.v 0) (.cons (.v 2) (.cons (.v 3) .nil)))
section
variable (p q:Int)
theorem mG {n m:Nat} (t:T68) (S:List O):∀ (r:List T68) (acc:List T68) (e:Option D),(∀ y∈r,ac Γ m dB [y.toD,.int p,.int q] S = .ok (cv p q n y).toD S)→acc.length+r.length<1000→∃ e':Option D,aQ (lcQ Γ (ac Γ m) (aj Γ m) [0] true uE (.c (.bl true))) (toDs r) (toDs acc) ⟨[e,some t.toD,some (.int p),some (.int q)],[],S⟩ = .ok (.lst (toDs (acc ++ r.map (cv p q n)))) ⟨[e',some t.toD,some (.int p),some (.int q)],[],S⟩
 | [],acc,e,_,_=>⟨e,by simp [toDs,aQ]⟩
 | y :: r,acc,e,hr,hl=>by
   simp only [Ι] at hl
   have i1:=hr y (by simp)
   obtain ⟨e',h⟩:=mG t S r (acc ++ [cv p q n y]) (some y.toD) (fun z hz=>hr z (by simp [hz])) (by rw [ω,Κ];omega)
   have el:ev Γ (ac Γ m) (aj Γ m) false uE ⟨[some y.toD,some t.toD,some (.int p),some (.int q)],[],S⟩ = .ok (cv p q n y).toD ⟨[some y.toD,some t.toD,some (.int p),some (.int q)],[],S⟩:=(dJ false (aX 0 (i1) aZ) (by kernel_rfl))
   rw [ϩ,j3] at h
   exact ⟨e',c9 (fP rfl rfl el) (by rw [j4];omega) h⟩
theorem uT {W:List ι}:∀ (n m:Nat) (t:T68) (bs:List ι) (S:List O),n+5≤m→Ok W n bs t→(ai n t).Nodup→ac Γ m dB [t.toD,.int p,.int q] S = .ok (cv p q n t).toD S
 | 0,m,t,bs,S,_,o,_=>o.elim
 | n+1,m,t,bs,S,hm,o,nd=>by
   obtain ⟨m,rfl⟩:∃ k,m=k+6:=⟨m - 6,by omega⟩
   obtain ⟨o1,o2,o3,o4⟩:=o
   have nd1:(t.pl :: (ae t).flatMap (ai n)).Nodup:=nd
   obtain ⟨n1,n2⟩:=ϟ.mp nd1
   have pl:=bP t S
   by_cases h:t.pl=p
   ·have e:cv p q (n+1) t = .as_ q .unt t:=by
     unfold cv
     rw [ZZ h]
     have:(ae t).map (cv p q n)=ae t:=by
      conv=>rhs;rw [← C6 (ae t)]
      exact ġ fun y hy=>uj fun k=>n1 (by rw [h];exact ϔ.mpr ⟨y,hy,k⟩)
     rw [this,jd]
    rw [e]
    exact (ag false (aX 0 (pl) (aX 1 (cL h) aZ)) (by kernel_rfl))
   ·have p0:=fW t (m+2) S
    have kl:=bH o1
    obtain ⟨e',lp⟩:=mG p q (n:=n) (m:=m+5) t S (ae t) [] none (fun y hy=>by
     obtain ⟨i,hi⟩:=ϓ.mp hy
     refine uT n (m+5) y _ S (by omega) (o4 i y hi) ?_
     rw [Ĝ] at n2 ⊢
     intro x
     refine ϰ ?_ (n2 x)
     obtain ⟨A,B,e⟩:=Cz hy
     rw [e,Cj,Ϛ,Ϲ,Ϲ];omega) (by simp only [ϒ];omega)
    have w:=xi t ((ae t).map (cv p q n)) (by simp) (m+1) S
    unfold cv
    rw [ZY h]
    exact (ag true (aX 0 (pl) (aX 1 (aE h) (aX 0 (p0) (aX 0 (lp) (aX 0 (w) aZ))))) (by kernel_rfl))
abbrev wE:E:=.call 36 (.cons (.v 0) (.cons (.v 2) (.cons (.v 3) .nil)))
theorem jc (m:Nat) (x:D) (S:List O) (g:It→It):∀ (l:List It) (acc:List D) (e e4:Option D),(∀ a∈l,ac Γ m aJ [a.toD,.int p,.int q] S = .ok (g a).toD S)→acc.length+l.length<1000→∃ e':Option D,aQ (lcQ Γ (ac Γ m) (aj Γ m) [0] true wE (.c (.bl true))) (dI l) acc ⟨[e,some x,some (.int p),some (.int q),e4],[],S⟩ = .ok (.lst (acc ++ dI (l.map g))) ⟨[e',some x,some (.int p),some (.int q),e4],[],S⟩
 | [],acc,e,e4,_,_=>⟨e,by simp [dI,aQ]⟩
 | a :: r,acc,e,e4,hr,hl=>by
   simp only [Ι] at hl
   have i1:=hr a (by simp)
   obtain ⟨e',h⟩:=jc m x S g r (acc ++ [(g a).toD]) (some a.toD) e4 (fun z hz=>hr z (by simp [hz])) (by rw [ω,Κ];omega)
   have el:ev Γ (ac Γ m) (aj Γ m) false wE ⟨[some a.toD,some x,some (.int p),some (.int q),e4],[],S⟩ = .ok (g a).toD ⟨[some a.toD,some x,some (.int p),some (.int q),e4],[],S⟩:=(dJ false (aX 0 (i1) aZ) (by kernel_rfl))
   rw [ϩ] at h
   exact ⟨e',c9 (fP rfl rfl el) (by omega) h⟩
theorem xR (k:Kd) (m:Nat) (S:List O):ac Γ (m+1) aJ [k.toD,.int p,.int q] S = .ok k.toD S:=by
 cases k with
 | to a b=>exact (ag false (aX 14 (c8 a S) aZ) (by kernel_rfl))
 | row a=>exact (ag false (aX 14 (c8 a S) aZ) (by kernel_rfl))
 | pair a b=>exact (ag false (aX 14 (c8 a S) aZ) (by kernel_rfl))
 | _=>exact (ag false aZ (by kernel_rfl))
theorem uI (ts:List T68):toDs ts=dI (ts.map It.n):=by rw [bK];unfold dI;rw [A6];rfl
theorem uh (a b:D) (l:List D):cutD (a :: b :: l) (some 1) (some 2) = [b]:=by
 have h1:HT.sIx (a :: b :: l).length 0 (some 1)=1:=by
  show HT.sIx (l.length+2) 0 (some 1)=1
  unfold HT.sIx;simp
 have h2:HT.sIx (a :: b :: l).length (a :: b :: l).length (some 2)=2:=by
  show HT.sIx (l.length+2) _ (some 2)=2
  unfold HT.sIx;simp
 unfold Ev.cutD
 rw [h1,h2];rfl
theorem xW (a:Int):opD .eq (.tup [.int a]) (.tup [.int p])=some (.bl (a == p)):=by
 show (some (((a == p) && true) && true)).map D.bl=_
 rw [DF,DF];rfl
theorem xX (y:T68):opD .eq (.tup [y.toD]) (.tup [.int p])=some (.bl false):=by cases y <;> rfl
theorem vm (ts:List T68) (f:T68→T68) (m:Nat) (S:List O) (hl:ts.length≤4) (h:∀ y∈ts,ac Γ m aJ [y.toD,.int p,.int q] S = .ok (f y).toD S):ac Γ (m+1) aJ [.tup (toDs ts),.int p,.int q] S = .ok (.tup (toDs (ts.map f))) S:=by
 cases ts with
 | nil=>exact (ag false aZ (by kernel_rfl))
 | cons y r=>
   obtain ⟨e',lp⟩:=jc p q m (.tup (toDs (y :: r))) S (It.map f) ((y :: r).map It.n) [] none none (fun a ha=>by obtain ⟨z,hz,rfl⟩:=ϖ.mp ha;exact h z hz) (by simp only [Η,ϒ];omega)
   rw [← uI] at lp
   have e:dI (((y :: r).map It.n).map (It.map f))=toDs ((y :: r).map f):=by rw [uI,A6,A6];rfl
   rw [e] at lp
   have g0:ixD (.tup (toDs (y :: r))) (.int 0)=some y.toD:=b6 (j:=0) rfl
   cases r with
   | nil=>exact (ag true (aX 6 (g0) (aX 0 (iD y S) (aX 0 (lp) aZ))) (by kernel_rfl))
   | cons z r=>
     have sl:slO (.tup (toDs (y :: z :: r))) (some 1) (some 2)=some (.tup [z.toD]):=by
      show some (D.tup (cutD (y.toD :: z.toD :: toDs r) (some 1) (some 2)))=_
      rw [uh]
     exact (ag true (aX 6 (g0) (aX 0 (iD y S) (aX 0 (lp) (aX 1 (sl) (aX 0 (xX p z) aZ))))) (by kernel_rfl))
theorem vG {t:T68} {ts:List T68} (h:It.ns ts∈its t):ts=ae t:=by cases t <;> simp [its] at h <;> exact h
theorem vF (t:T68):∃ (w:ι) (l:List D),dI (its t) = .str w :: .int t.pl :: l:=by cases t <;> exact ⟨_,_,rfl⟩
theorem oJ {W:List ι}:∀ (n m:Nat) (t:T68) (bs:List ι) (S:List O),2 * n+2≤m→Ok W n bs t→ac Γ m aJ [t.toD,.int p,.int q] S = .ok (cv p q n t).toD S
 | 0,m,t,bs,S,_,o=>o.elim
 | n+1,m,t,bs,S,hm,o=>by
   obtain ⟨m,rfl⟩:∃ k,m=k+2:=⟨m - 2,by omega⟩
   obtain ⟨o1,o2,o3,o4⟩:=o
   have kl:=bH o1
   have ih:∀ r,2 * n+2≤r→∀ y∈ae t,ac Γ r aJ [y.toD,.int p,.int q] S = .ok (cv p q n y).toD S:=fun r hr y hy=>by
    obtain ⟨i,hi⟩:=ϓ.mp hy;exact oJ n r y _ S hr (o4 i y hi)
   obtain ⟨e',lp⟩:=jc p q (m+1) t.toD S (It.map (cv p q n)) (its t) [] none none (fun a ha=>by
    have am:=iE ha
    cases a with
    | s x=>exact (ag false aZ (by kernel_rfl))
    | i x=>exact (ag false aZ (by kernel_rfl))
    | b x=>exact (ag false aZ (by kernel_rfl))
    | k k=>exact xR p q k m S
    | n y=>exact ih _ (by omega) y (am y (by simp [It.nodes]))
    | ns ts=>exact vm p q ts (cv p q n) m S (by rw [vG ha];exact kl) (fun y hy=>ih m (by omega) y (am y hy))) (by have:=lH t;simp only [ϒ];omega)
   rw [← sd,ğ] at lp
   have pl:(wpT t ((ae t).map (cv p q n))).toD = .tup (dI (its (wpT t ((ae t).map (cv p q n))))):=lG _
   obtain ⟨w,l,hd⟩:=vF t
   rw [lG t] at lp ⊢
   have z0:(((dI (its t)).length:Int) == 0)=false:=by rw [hd];simp;omega
   have i0:ixD (.tup (dI (its t))) (.int 0)=some (.str w):=by rw [hd];exact b6 (j:=0) rfl
   have l1:decide (((dI (its t)).length:Int)<2)=false:=by rw [hd];exact ZV (by simp;omega)
   have i1:ixD (.tup (dI (its t))) (.int 1)=some (.int t.pl):=by rw [hd];exact b6 (j:=1) rfl
   have sl:slO (.tup (dI (its t))) (some 1) (some 2)=some (.tup [.int t.pl]):=by
    rw [hd]
    show some (D.tup (cutD _ (some 1) (some 2)))=_
    rw [uh]
   have eq:=xW p t.pl
   unfold cv
   by_cases h:t.pl=p
   ·rw [ZZ h]
    show _=Res.ok (.tup [.str "as",.int q,.tup [.str "?"],(wpT t ((ae t).map (cv p q n))).toD]) S
    rw [pl]
    exact (ag true (aX 5 (z0) (aX 0 (i0) (aX 5 (l1) (aX 0 (i1) (aX 0 (lp) (aX 1 (sl) (aX 0 (eq) (aX 0 (cL h) aZ)))))))) (by kernel_rfl))
   ·rw [ZY h,pl]
    exact (ag true (aX 5 (z0) (aX 0 (i0) (aX 5 (l1) (aX 0 (i1) (aX 0 (lp) (aX 1 (sl) (aX 0 (eq) (aX 0 (aE h) aZ)))))))) (by kernel_rfl))
end
theorem lZ {i j:Int} (h:-(2 ^ 64)<j∧j<2 ^ 64):opD .mul (.int i) (.int j)=some (.int (i * j)):=by
 show (if _ then _ else _)=_
 rw [ZZ (.inl (.inr h))]
theorem yB {i j:Int} (h:-(2 ^ 64)<i∧i<2 ^ 64):opD .mul (.int i) (.int j)=some (.int (i * j)):=by
 show (if _ then _ else _)=_
 rw [ZZ (.inl (.inl h))]
theorem iO {a b k:Int} (h:a % b=k) (hb:0<b):opD .mod (.int a) (.int b)=some (.int k):=by
 show (if 0<b then some (D.int (a % b)) else none)=_;rw [ZZ hb,h]
theorem lh (ns:List Int) (k:Nat) (n:Nat) (st:List O):∃ c:Int,ac Γ (n+1) fL [.lst (ns.map .int),.int k] st = .ok (.int c) st:=by
 by_cases c:k<ns.length
 ·have e1:decide ((k:Int)<((ns.map D.int).length:Nat))=true:=by rw [Η];exact ZW (by omega)
  have e2:ixD (.lst (ns.map D.int)) (.int (k:Int))=some (.int ns[k]):=by
   refine b6 ?_
   rw [Ω,φ c];rfl
  exact ⟨ns[k],(ag false (aX 2 (e1) (aX 0 (e2) aZ)) (by kernel_rfl))⟩
 ·have e1:decide ((k:Int)<((ns.map D.int).length:Nat))=false:=by rw [Η];exact ZV (by omega)
  exact ⟨0,(ag false (aX 2 (e1) aZ) (by kernel_rfl))⟩
abbrev oK (ns:List Int) (i b c:Int) (w:D):O:=.lst [.lst (ns.map .int),.int i,.int b,.int c,w]
abbrev pl0 (b0 c:Int):Int:=(b0+379 * (c+1)) % 997
theorem sm0 (b0 c:Int):Sm (pl0 b0 c):=by unfold Sm pl0;omega
theorem uM (ns:List Int) (i b c:Int) (w:D) (n:Nat) (st:List O):ac Γ (n+1) iG [.ref 0] (oK ns i b c w :: st) = .ok (.int (pl0 b c)) (oK ns i b (c+1) w :: st):=by kernel_rfl
theorem next (ns:List Int) (i b c:Int) (w:D) (hi:0≤i) (n:Nat) (st:List O):∃ x:Int,(0≤x∧(20<c→x=3))∧ac Γ (n+1) jF [.ref 0] (oK ns i b c w :: st) = .ok (.int x) (oK ns (i+1) b c w :: st):=by
 by_cases c1:20<c
 ·have e1:decide ((20:Int)<c)=true:=ZW c1
  exact ⟨3,⟨by decide,fun _=>rfl⟩,(ag false (aX 4 (e1) aZ) (by kernel_rfl))⟩
 ·have e1:decide ((20:Int)<c)=false:=ZV c1
  by_cases c2:(ns.length:Int)≤i+1
  ·have e2:decide (((ns.map D.int).length:Int)≤i+1)=true:=by rw [Η];exact ZW c2
   exact ⟨3,⟨by decide,fun _=>rfl⟩,(ag false (aX 4 (e1) (aX 4 (e2) aZ)) (by kernel_rfl))⟩
  ·have e2:decide (((ns.map D.int).length:Int)≤i+1)=false:=by rw [Η];exact ZV c2
   obtain ⟨k,hk⟩:∃ k:Nat,i+1=k:=⟨(i+1).toNat,by omega⟩
   have kl:k<ns.length:=by omega
   have e3:ixD (.lst (ns.map D.int)) (.int (i+1))=some (.int ns[k]):=by
    rw [hk]
    refine b6 ?_
    rw [Ω,φ kl];rfl
   exact ⟨(ns[k] * 6364136223846793005+7919 * (i+1)) % 1000000000039,⟨by omega,fun h=>ZX h c1⟩,(ag false (aX 4 (e1) (aX 4 (e2) (aX 2 (e3) (aX 0 (lZ (i:=ns[k]) (j:=6364136223846793005) (by decide)) (aX 1 (yB (i:=7919) (j:=i+1) (by decide)) aZ))))) (by kernel_rfl))⟩
def fl3 (c:Int):Kd:=if c % 3=0 then .whole else if c % 3=1 then .truth else .unt
theorem lw (c:Int):(fl3 c).dep=1:=by unfold fl3;split <;> (try split) <;> rfl
theorem oW (c:Int):ixD (.lst [Kd.whole.toD,Kd.truth.toD,Kd.unt.toD]) (.int (c % 3))=some (fl3 c).toD:=by
 have h:c % 3=0∨c % 3=1∨c % 3=2:=by omega
 unfold fl3
 rcases h with h | h | h <;> rw [h] <;> rfl
theorem jI (c:Int) (n:Nat) (st:List O):∃ k:Kd,k.dep≤2∧ac Γ (n+1) jD [.int c] st = .ok k.toD st:=by
 have ha:=lw c
 have hb:=lw (c / 3)
 have i1:=oW c
 have i2:=oW (c / 3)
 generalize fl3 c=a at *
 generalize fl3 (c / 3)=b at *
 have h:c / 9 % 5=0∨c / 9 % 5=1∨c / 9 % 5=2∨c / 9 % 5=3∨c / 9 % 5=4:=by omega
 rcases h with h | h | h | h | h
 ·exact ⟨a,by omega,(ag false (aX 1 (i1) (aX 2 (i2) (aX 1 (iO h (by decide)) aZ))) (by kernel_rfl))⟩
 ·exact ⟨.to b a,by show 1+max b.dep a.dep≤2;omega,(ag false (aX 1 (i1) (aX 2 (i2) (aX 1 (iO h (by decide)) aZ))) (by kernel_rfl))⟩
 ·exact ⟨.row a,by show 1+a.dep≤2;omega,(ag false (aX 1 (i1) (aX 2 (i2) (aX 1 (iO h (by decide)) aZ))) (by kernel_rfl))⟩
 ·exact ⟨.pair a b,by show 1+max a.dep b.dep≤2;omega,(ag false (aX 1 (i1) (aX 2 (i2) (aX 1 (iO h (by decide)) aZ))) (by kernel_rfl))⟩
 ·exact ⟨a,by omega,(ag false (aX 1 (i1) (aX 2 (i2) (aX 1 (iO h (by decide)) aZ))) (by kernel_rfl))⟩
theorem rc {W:List ι} (hW:W.length=5) (c:Int):∃ x,x∈W∧ixD (.lst (sts W)) (.int (c % 5))=some (.str x):=by
 obtain ⟨k,hk⟩:∃ k:Nat,c % 5=k:=⟨(c % 5).toNat,by omega⟩
 have kl:k<W.length:=by omega
 refine ⟨W[k],þ kl,?_⟩
 rw [hk]
 refine b6 ?_
 unfold sts
 rw [Ω,φ kl];rfl
theorem l5 {c:Int} {n:Int} (h:0<n):∃ k:Nat,c % n=k∧(k:Int)<n:=⟨(c % n).toNat,by have:=Ŗ c (b:=n) (by omega);omega,by have:=Ŗ c (b:=n) (by omega);have:=Ž c h;omega⟩
theorem pP {s:Sta} {elt:E} (hb:aH t one d s.env=some env) (h:ev Γ cal cal1 false elt ⟨env,[],s.st⟩ = .ok e s3):lcQ Γ cal cal1 t one elt (.c (.bl true)) d s = .ok (some e) ⟨s3.env,[],s3.st⟩:=fP hb rfl h
theorem ku {x y:ι} (h:x.cps.toList=y.cps.toList):x=y:=by
 cases x;cases y;congr 1;exact Array.toList_inj.mp h
abbrev abc:D:=.str "abcdefghijklmnopqrstuvwxyz"
theorem zZ:∀ k:Nat,k<26→ixD abc (.int k)=some (.str ⟨#[97+k]⟩)
 | 0,_=>by kernel_rfl
 | 1,_=>by kernel_rfl
 | 2,_=>by kernel_rfl
 | 3,_=>by kernel_rfl
 | 4,_=>by kernel_rfl
 | 5,_=>by kernel_rfl
 | 6,_=>by kernel_rfl
 | 7,_=>by kernel_rfl
 | 8,_=>by kernel_rfl
 | 9,_=>by kernel_rfl
 | 10,_=>by kernel_rfl
 | 11,_=>by kernel_rfl
 | 12,_=>by kernel_rfl
 | 13,_=>by kernel_rfl
 | 14,_=>by kernel_rfl
 | 15,_=>by kernel_rfl
 | 16,_=>by kernel_rfl
 | 17,_=>by kernel_rfl
 | 18,_=>by kernel_rfl
 | 19,_=>by kernel_rfl
 | 20,_=>by kernel_rfl
 | 21,_=>by kernel_rfl
 | 22,_=>by kernel_rfl
 | 23,_=>by kernel_rfl
 | 24,_=>by kernel_rfl
 | 25,_=>by kernel_rfl
 | k+26,h=>ZX h (by omega)
theorem yx {i:Int} (h0:0≤i) (h1:i<26):ixD abc (.int i)=some (.str ⟨#[97+i.toNat]⟩):=by
 obtain ⟨k,rfl⟩:∃ k:Nat,i=k:=⟨i.toNat,by omega⟩
 exact zZ k (by omega)
def wdC (B:List Int) (at_ k:Int) (i:Nat):Nat:=97+(((B[i]?).getD 0+5 * k * (if ((0+(i:Int)) == at_)=true then 1 else 0)) % 26).toNat
abbrev wdR (js:List Nat):List D:=js.map fun (i:Nat)=>D.int (0+i)
abbrev wdI:S:=.set 6 (.op .add (.v 6) (.ix (.v 1) (.op .mod (.op .add (.ix (.v 3) (.v 7)) (.op .mul (.op .mul (.c (.int 5)) (.v 2)) (.bi .int (.cons (.op .eq (.v 7) (.v 4)) .nil)))) (.c (.int 26)))))
section
variable {cal cal1:Nat→List D→List O→Res} {B:List Int} {c at_:Int} {st:List O}
abbrev wdE (c k:Int) (B:List Int) (at_:Int) (ws:List D) (e6 e7:Option D):List (Option D):=[some (.int c),some abc,some (.int k),some (.lst (B.map .int)),some (.int at_),some (.lst ws),e6,e7]
theorem yZ (k:Int) (ws:List D):∀ (js:List Nat) (x:ι) (e7:Option D),(∀ i∈js,i<B.length)→x.length+js.length≤1000→∃ (y:ι) (e7':Option D),y.cps.toList=x.cps.toList ++ js.map (wdC B at_ k) ∧
 aO (eP Γ cal cal1 [7] true wdI) (wdR js) ⟨wdE c k B at_ ws (some (.str x)) e7,[5,3],st⟩ = .nx ⟨wdE c k B at_ ws (some (.str y)) e7',[5,3],st⟩
 | [],x,e7,_,_=>⟨x,e7,by simp,rfl⟩
 | i :: js,x,e7,h,hl=>by
   simp only [Ι] at hl
   have hi:=h i (μ ..)
   have e1:ixD (.lst (B.map D.int)) (.int (0+(i:Int)))=some (.int B[i]):=by
    rw [C3]
    refine b6 ?_
    rw [Ω,φ hi];rfl
   have e2:opD .mul (.int (5 * k)) (.int (if ((0+(i:Int)) == at_)=true then 1 else 0))=some (.int (5 * k * (if ((0+(i:Int)) == at_)=true then 1 else 0))):=lZ (by split <;> decide)
   have hm:=Ŗ (B[i]+5 * k * (if ((0+(i:Int)) == at_)=true then 1 else 0)) (b:=26) (by decide)
   have hM:=Ž (B[i]+5 * k * (if ((0+(i:Int)) == at_)=true then 1 else 0)) (b:=26) (by decide)
   have e3:=yx hm hM
   have hc:wdC B at_ k i=97+((B[i]+5 * k * (if ((0+(i:Int)) == at_)=true then 1 else 0)) % 26).toNat:=by unfold wdC;rw [φ hi];rfl
   rw [← hc] at e3
   have ln:(x ++ (⟨#[wdC B at_ k i]⟩:ι)).length=x.length+1:=by rw [AD];rfl
   have e4:opD .add (.str x) (.str ⟨#[wdC B at_ k i]⟩)=some (.str (x ++ ⟨#[wdC B at_ k i]⟩)):=by
    show cH (x.length+1) _=_
    unfold cH;rw [ZZ (by omega)]
   obtain ⟨y,e7',hy,hf⟩:=yZ k ws js (x ++ ⟨#[wdC B at_ k i]⟩) (some (.int (0+(i:Int)))) (fun j hj=>h j (ν _ hj)) (by rw [ln];omega)
   refine ⟨y,e7',?_,aP (aM rfl (bU false (aX 0 (e1) (aX 3 (e2) (aX 2 (e3) (aX 0 (e4) aZ)))) (by kernel_rfl))) hf⟩
   rw [hy,Dz,C8,ϩ];rfl
def Wdk (B:List Int) (at_ k:Int) (z:ι):Prop:=∃ y:ι,y.cps.toList=(Ñ B.length).map (wdC B at_ k)∧(z=y∨z=y ++ ("x":ι))
abbrev wdB:S:=dC iu.body
theorem y7 (hB:B.length≤8) (k:Int) (ws:List D) (hws:ws.length≤10) (e6 e7:Option D):∃ (z:ι) (e7':Option D),Wdk B at_ k z∧exS Γ cal cal1 wdB ⟨wdE c k B at_ ws e6 e7,[5,3],st⟩ = .nx ⟨wdE c k B at_ (ws ++ [.str z]) (some (.str z)) e7',[5,3],st⟩:=by
 obtain ⟨y,e7',hy,hf⟩:=yZ (cal:=cal) (cal1:=cal1) (B:=B) (c:=c) (at_:=at_) (st:=st) k ws (Ñ B.length) "" e7 (fun i hi=>Ĥ.mp hi) (by rw [Ü];show 0+B.length≤1000;omega)
 have hy:y.cps.toList=(Ñ B.length).map (wdC B at_ k):=hy
 have yl:y.length=B.length:=by
  have:y.cps.toList.length=B.length:=by rw [hy,Η,Ü]
  rw [ā] at this;exact this
 have hr:(itD .range1 [.int ((B.map D.int).length:Nat)]).map D.lst=some (.lst (wdR (Ñ B.length))):=by
  rw [Η]
  unfold itD vE
  dsimp only
  rw [ZZ ⟨by omega,by omega⟩,ĳ];rfl
 have la:decide (ws.length<100000)=true:=ZW (by omega)
 by_cases g1:(y == ("yes":ι))=true
 ·have ax:opD .add (.str y) (.str "x")=some (.str (y ++ ("x":ι))):=by
   show cH (y.length+1) _=_
   unfold cH;rw [ZZ (by omega)]
  exact ⟨y ++ ("x":ι),e7',⟨y,hy,.inr rfl⟩,(bU true (aX 1 (hr) (aX 0 (hf) (aX 1 (g1) (aX 1 (ax) (aX 0 (la) aZ))))) (by kernel_rfl))⟩
 ·have g1:(y == ("yes":ι))=false:=by simpa using g1
  by_cases g2:(y == ("no":ι))=true
  ·have ax:opD .add (.str y) (.str "x")=some (.str (y ++ ("x":ι))):=by
    show cH (y.length+1) _=_
    unfold cH;rw [ZZ (by omega)]
   exact ⟨y ++ ("x":ι),e7',⟨y,hy,.inr rfl⟩,(bU true (aX 1 (hr) (aX 0 (hf) (aX 1 (g1) (aX 1 (g2) (aX 0 (ax) (aX 0 (la) aZ)))))) (by kernel_rfl))⟩
  ·have g2:(y == ("no":ι))=false:=by simpa using g2
   exact ⟨y,e7',⟨y,hy,.inl rfl⟩,(bU true (aX 1 (hr) (aX 0 (hf) (aX 1 (g1) (aX 1 (g2) (aX 0 (la) aZ))))) (by kernel_rfl))⟩
theorem y5 {k j:Int} {x y:ι} (a:Nat) (ha:a<B.length) (e:at_=a) (hk:0≤k∧k≤4) (hj:0≤j∧j≤4) (n:k≠j) (h1:Wdk B at_ k x) (h2:Wdk B at_ j y):x≠y:=by
 obtain ⟨u,hu,h1⟩:=h1
 obtain ⟨v,hv,h2⟩:=h2
 have uv:u≠v:=fun z=>by
  rw [z,hv] at hu
  have:=ZS (fun l=>l[a]?) hu
  simp only [Ω] at this
  rw [List.getElem?_range ha] at this
  have this:wdC B at_ j a=wdC B at_ k a:=by simpa using this
  unfold wdC at this
  rw [e] at this
  have q:((0+(a:Int)) == (a:Int))=true:=cL (C3 _)
  rw [ZZ q,φ ha] at this
  simp only [A4] at this
  omega
 have ul:u.length=B.length:=by
  have:u.cps.toList.length=B.length:=by rw [hu,Η,Ü]
  rw [ā] at this;exact this
 have vl:v.length=B.length:=by
  have:v.cps.toList.length=B.length:=by rw [hv,Η,Ü]
  rw [ā] at this;exact this
 have x1:("x":ι).length=1:=by decide +kernel
 intro z
 rcases h1 with rfl | rfl <;> rcases h2 with rfl | rfl
 ·exact uv z
 ·have:=ZS CJ z;rw [AD] at this;omega
 ·have:=ZS CJ z;rw [AD] at this;omega
 ·refine uv (ku ?_)
  have:=ZS (fun s:ι=>s.cps.toList) z
  simp only [Dz,C8] at this
  exact List.append_cancel_right this
end
abbrev yX:E:=.op .mod (.op .add (.op .fdiv (.v 1) (.op .add (.v 0) (.c (.int 1)))) (.op .mul (.v 0) (.v 0))) (.c (.int 26))
def bsW (c:Int) (i:Nat):Int:=(c / (0+(i:Int)+1)+(0+(i:Int)) * (0+(i:Int))) % 26
theorem yY (c:Int) (n:Nat) (tl:List (Option D)) (S:List O):∀ (js:List Nat) (acc:List D) (e:Option D),(∀ i∈js,i<100)→acc.length+js.length<1000→∃ e':Option D,aQ (lcQ Γ (ac Γ n) (aj Γ n) [0] true yX (.c (.bl true))) (wdR js) acc ⟨e :: some (.int c) :: tl,[],S⟩ = .ok (.lst (acc ++ (js.map (bsW c)).map .int)) ⟨e' :: some (.int c) :: tl,[],S⟩
 | [],acc,e,_,_=>⟨e,by simp [aQ]⟩
 | i :: js,acc,e,h,hl=>by
   simp only [Ι] at hl
   have hi:=h i (μ ..)
   have e1:opD .fdiv (.int c) (.int (0+(i:Int)+1))=some (.int (c / (0+(i:Int)+1))):=by
    show (if _ then _ else _)=_
    rw [ZZ ⟨by omega,by omega⟩]
   have e2:opD .mul (.int (0+(i:Int))) (.int (0+(i:Int)))=some (.int ((0+(i:Int)) * (0+(i:Int)))):=lZ ⟨by omega,by omega⟩
   have s0:ev Γ (ac Γ n) (aj Γ n) false yX ⟨some (.int (0+(i:Int))) :: some (.int c) :: tl,[],S⟩ = .ok (.int (bsW c i)) ⟨some (.int (0+(i:Int))) :: some (.int c) :: tl,[],S⟩:=(dJ false (aX 1 (e1) (aX 0 (e2) aZ)) (by kernel_rfl))
   obtain ⟨e',h3⟩:=yY c n tl S js (acc ++ [.int (bsW c i)]) (some (.int (0+(i:Int)))) (fun j hj=>h j (ν _ hj)) (by rw [ω,Κ];omega)
   exact ⟨e',c9 (fP rfl rfl s0) (by omega) (by rw [ϩ] at h3;exact h3)⟩
theorem y9 (c:Int) (n:Nat) (S:List O):∃ W:List ι,W.length=5∧W.Nodup∧ac Γ (n+1) iH [.int c] S = .ok (.lst (sts W)) S:=by
 obtain ⟨L,hL⟩:∃ L:Nat,1+c % 8=L:=⟨(1+c % 8).toNat,by omega⟩
 have hr:(itD .range1 [.int (1+c % 8)]).map D.lst=some (.lst (wdR (Ñ L))):=by
  rw [hL]
  unfold itD vE
  dsimp only
  rw [ZZ ⟨by omega,by omega⟩,ĳ];rfl
 obtain ⟨e',hb⟩:=yY c n [some abc,none,none,none,none,none,none] S (Ñ L) [] none (fun i hi=>by have:=Ĥ.mp hi;omega) (by rw [Ü];show 0+L<1000;omega)
 have hBl:((Ñ L).map (bsW c)).length=L:=by rw [Η,Ü]
 generalize hB:(Ñ L).map (bsW c)=B at hb hBl
 obtain ⟨a,hA⟩:∃ a:Nat,c / 8 % (L:Nat)=a:=⟨(c / 8 % (L:Nat)).toNat,by have:=Ŗ (c / 8) (b:=(L:Nat)) (by omega);omega⟩
 have al:a<L:=by have:=Ž (c / 8) (b:=(L:Nat)) (by omega);omega
 have ha:opD .mod (.int (c / 8)) (.int ((B.map D.int).length:Nat))=some (.int (a:Nat)):=by
  rw [Η,hBl]
  show (if 0<((L:Nat):Int) then some (D.int ((c / 8) % (L:Nat))) else none)=_
  rw [ZZ (by omega),hA]
 have wd:=fun (k:Int) (ws:List D) (hws:ws.length≤10) (e6 e7:Option D)=>y7 (cal:=ac Γ n) (cal1:=aj Γ n) (B:=B) (c:=c) (at_:=(a:Nat)) (st:=S) (by omega) k ws hws e6 e7
 obtain ⟨w0,f0,d0,h0⟩:=wd 0 [] (by decide) none none
 obtain ⟨w1,f1,d1,h1⟩:=wd 1 [.str w0] (by decide:1≤10) (some (.str w0)) f0
 obtain ⟨w2,f2,d2,h2⟩:=wd 2 [.str w0,.str w1] (by decide:2≤10) (some (.str w1)) f1
 obtain ⟨w3,f3,d3,h3⟩:=wd 3 [.str w0,.str w1,.str w2] (by decide:3≤10) (some (.str w2)) f2
 obtain ⟨w4,f4,d4,h4⟩:=wd 4 [.str w0,.str w1,.str w2,.str w3] (by decide:4≤10) (some (.str w3)) f3
 have ne:=fun {k j:Int} {x y:ι} (hk:0≤k∧k≤4) (hj:0≤j∧j≤4) (q:k≠j) (h1:Wdk B (a:Nat) k x) (h2:Wdk B (a:Nat) j y)=>y5 a (by omega) rfl hk hj q h1 h2
 have hf:aO (eP Γ (ac Γ n) (aj Γ n) [2] true wdB) [.int 0,.int 1,.int 2,.int 3,.int 4] ⟨[some (.int c),some abc,none,some (.lst (B.map .int)),some (.int (a:Nat)),some (.lst []),none,none],[5,3],S⟩ = .nx ⟨wdE c 4 B (a:Nat) [.str w0,.str w1,.str w2,.str w3,.str w4] (some (.str w4)) f4,[5,3],S⟩:=
  aP (aM rfl h0) (aP (aM rfl h1) (aP (aM rfl h2) (aP (aM rfl h3) (aP (aM rfl h4) rfl))))
 refine ⟨[w0,w1,w2,w3,w4],rfl,?_,(ag true (aX 2 (hr) (aX 0 (hb) (aX 2 (ha) (aX 0 (hf) aZ)))) (by kernel_rfl))⟩
 have n01:=ne (by decide) (by decide) (by decide) d0 d1
 have n02:=ne (by decide) (by decide) (by decide) d0 d2
 have n03:=ne (by decide) (by decide) (by decide) d0 d3
 have n04:=ne (by decide) (by decide) (by decide) d0 d4
 have n12:=ne (by decide) (by decide) (by decide) d1 d2
 have n13:=ne (by decide) (by decide) (by decide) d1 d3
 have n14:=ne (by decide) (by decide) (by decide) d1 d4
 have n23:=ne (by decide) (by decide) (by decide) d2 d3
 have n24:=ne (by decide) (by decide) (by decide) d2 d4
 have n34:=ne (by decide) (by decide) (by decide) d3 d4
 simp [n01,n02,n03,n04,n12,n13,n14,n23,n24,n34]
def ind (b0 x c:Int):Int:=if pl0 b0 c=x then 1 else 0
def Gn (b0 x:Int):Nat→Int
 | 0=>0
 | n+1=>Gn b0 x n+ind b0 x n
def Gm (b0 x:Int):Nat→Int
 | 0=>0
 | n+1=>Gm b0 x n - ind b0 x (-((n:Int)+1))
def Gc (b0 x:Int):Int→Int
 | .ofNat n=>Gn b0 x n
 | .negSucc n=>Gm b0 x (n+1)
theorem uX (b0 x:Int):∀ c:Int,Gc b0 x (c+1)=Gc b0 x c+ind b0 x c
 | .ofNat n=>rfl
 | .negSucc 0=>by show (0:Int)=(0 - ind b0 x (-((0:Nat)+1)))+ind b0 x (Ť 0);show (0:Int)=(0 - ind b0 x (-1))+ind b0 x (-1);omega
 | .negSucc (n+1)=>by
   have e:(Ť (n+1))+1=Ť n:=by omega
   have e2:Ť (n+1) = -(((n+1:Nat):Int)+1):=by omega
   rw [e]
   show Gm b0 x (n+1)=(Gm b0 x (n+1) - ind b0 x (-(((n+1:Nat):Int)+1)))+ind b0 x (Ť (n+1))
   rw [← e2];omega
def Pz (b0 c c' Z:Int) (q:Nat) (t:T68):Prop:=(∀ x,((ai q t).count x:Int)+Gc b0 x c≤Gc b0 x c')∧c≤c'∧c'≤c+Z
def PzL (b0 c c' Z:Int) (q:Nat) (ts:List T68):Prop:=(∀ x,((ts.flatMap (ai q)).count x:Int)+Gc b0 x c≤Gc b0 x c')∧c≤c'∧c'≤c+Z
section
variable {b0 c c' c1 c2 Z Y V:Int} {q:Nat} {t a b d:T68} {ts:List T68}
theorem PzL.nil:PzL b0 c c 0 q []:=⟨fun x=>by simp,Ĵ _,by omega⟩
theorem PzL.cons (h:Pz b0 c c1 Z q t) (h':PzL b0 c1 c' Y q ts):PzL b0 c c' (Z+Y) q (t :: ts):=by
 refine ⟨fun x=>?_,by have:=h.2;have:=h'.2;omega,by have:=h.2;have:=h'.2;omega⟩
 have h1:=h.1 x
 have h2:=h'.1 x
 rw [Ϛ,Ϲ]
 omega
theorem Pz.node (e:t.pl=pl0 b0 c) (h:PzL b0 (c+1) c' Z q (ae t)):Pz b0 c c' (Z+1) (q+1) t:=by
 refine ⟨fun x=>?_,by have:=h.2;omega,by have:=h.2;omega⟩
 have h1:=h.1 x
 have h2:=uX b0 x c
 unfold ind at h2
 show (((t.pl :: (ae t).flatMap (ai q)).count x:Nat):Int)+_≤_
 rw [ï,e]
 by_cases k:pl0 b0 c=x
 ·rw [ZZ k] at h2
  rw [ZZ (by simpa using k)];omega
 ·rw [ZY k] at h2
  rw [ZY (by simpa using k)];omega
theorem Pz.z (h:Pz b0 c c' Z q t) (l:Z≤Y):Pz b0 c c' Y q t:=⟨h.1,h.2.1,by have:=h.2;omega⟩
theorem PzL.z (h:PzL b0 c c' Z q ts) (l:Z≤Y):PzL b0 c c' Y q ts:=⟨h.1,h.2.1,by have:=h.2;omega⟩
theorem pz0 (e:t.pl=pl0 b0 c) (hk:ae t = []):Pz b0 c (c+1) 1 (q+1) t:=(Pz.node e (by rw [hk];exact PzL.nil)).z (by omega)
end
theorem qG {W:List ι}:∀ {q q':Nat} {bs:List ι} {t:T68},Ok W q bs t→q≤q'→ai q' t=ai q t
 | 0,_,_,_,o,_=>o.elim
 | q+1,0,_,_,_,h=>ZX h (by omega)
 | q+1,q'+1,bs,t,o,h=>by
   show t.pl :: (ae t).flatMap (ai q')=t.pl :: (ae t).flatMap (ai q)
   congr 1
   have:∀ l:List T68,(∀ y∈l,ai q' y=ai q y)→l.flatMap (ai q')=l.flatMap (ai q):=fun l=>by
    induction l with
    | nil=>intro _;rfl
    | cons y r ih=>intro h;rw [Ϛ,Ϛ,h y (by simp),ih fun z hz=>h z (by simp [hz])]
   exact this _ fun y hy=>by obtain ⟨i,hi⟩:=ϓ.mp hy;exact qG (o.2.2.2 i y hi) (by omega)
theorem tw {b0 i j:Int} (h0:0≤i) (h1:i<j) (h2:j<997) (e:pl0 b0 i=pl0 b0 j):False:=by
 unfold pl0 at e
 omega
theorem nZ (b0 x:Int):∀ n:Nat,n≤997→Gn b0 x n≤1∧(Gn b0 x n=1→∃ i:Nat,i<n∧pl0 b0 i=x)∧0≤Gn b0 x n
 | 0,_=>⟨by show (0:Int)≤1;decide,fun h=>ZX (show (0:Int)=1 from h) (by decide),Ĵ _⟩
 | n+1,h=>by
   obtain ⟨h1,h2,h3⟩:=nZ b0 x n (by omega)
   show Gn b0 x n+ind b0 x n≤1∧(Gn b0 x n+ind b0 x n=1→_)∧0≤Gn b0 x n+ind b0 x n
   unfold ind
   by_cases k:pl0 b0 n=x
   ·rw [ZZ k]
    have z:Gn b0 x n=0:=by
     refine Decidable.byContradiction fun q=>?_
     obtain ⟨i,hi,e⟩:=h2 (by omega)
     exact tw (b0:=b0) (i:=i) (j:=n) (by omega) (by omega) (by omega) (e.trans k.symm)
    exact ⟨by omega,fun _=>⟨n,by omega,k⟩,by omega⟩
   ·rw [ZY k]
    exact ⟨by omega,fun q=>by obtain ⟨i,hi,e⟩:=h2 (by omega);exact ⟨i,by omega,e⟩,by omega⟩
theorem apart {b0 c' Z:Int} {q:Nat} {t:T68} (h:Pz b0 0 c' Z q t) (hz:Z≤997):(ai q t).Nodup:=by
 rw [Ĝ]
 intro x
 obtain ⟨h1,h2,h3⟩:=h
 obtain ⟨n,rfl⟩:∃ n:Nat,c'=n:=⟨c'.toNat,by omega⟩
 have:=h1 x
 have g:=(nZ b0 x n (by omega)).1
 have e0:Gc b0 x 0=0:=rfl
 have e1:Gc b0 x n=Gn b0 x n:=rfl
 rw [e0,e1] at this
 omega
section
variable {W:List ι} {ns:List Int} {b0:Int}
abbrev dS (ns:List Int) (i b0:Int) (W:List ι) (c:Int):List O:=[oK ns i b0 c (.lst (sts W))]
def DP (b0 c c':Int) (W:List ι) (q:Nat) (bs:List ι) (t:T68):Prop:=Ok W q bs t∧Pz b0 c c' (c' - c) q t
theorem dp0 {q:Nat} {bs:List ι} {t:T68} {c:Int} (h:own W bs t) (e:t.pl=pl0 b0 c) (hk:ae t = []) (hw:wks t = []):DP b0 c (c+1) W (q+1) bs t:=⟨⟨h,by rw [e];exact sm0 b0 c,by rw [hw];exact fun _ h=>(by cases h),fun i k e=>by rw [hk] at e;simp at e⟩,(pz0 e hk).z (by omega)⟩
def Cn (c c':Int) (m:Nat):Prop:=c'=c+1∨(c<21∧c'≤22+4 * m)
theorem cn1 {c c1:Int} {m:Nat} (h:¬21<c+1) (n1:Cn (c+1) c1 m):Cn c c1 (m+1):=by unfold Cn at *;omega
theorem cn2 {c c1 c2:Int} {m:Nat} (h:¬21<c+1) (n1:Cn (c+1) c1 m) (n2:Cn c1 c2 m):Cn c c2 (m+1):=by unfold Cn at *;omega
theorem cn3 {c c1 c2 c3:Int} {m:Nat} (h:¬21<c+1) (n1:Cn (c+1) c1 m) (n2:Cn c1 c2 m) (n3:Cn c2 c3 m):Cn c c3 (m+1):=by unfold Cn at *;omega
theorem cnl {c c1:Int} {l m:Nat} (h:¬21<c+1) (l4:l≤4) (n:c1≤c+1+l∨c1+1≤22+4 * m+l):Cn c c1 (m+1):=by unfold Cn;omega
theorem cnc {c c1 c2:Int} {l m:Nat} (n1:Cn c c1 m) (n2:c2≤c1+l∨c2+1≤22+4 * m+l):c2≤c+((l+1:Nat):Int)∨c2+1≤22+4 * m+((l+1:Nat):Int):=by unfold Cn at n1;omega
theorem tT {ks:List ι} (x i c:Int) (hx:0≤x) (n q:Nat):∃ t:T68,DP b0 c (c+1) W (q+1) ks t∧ac Γ (n+2) jE [.ref 0,.lst (sts ks),.int x] (dS ns i b0 W c) = .ok t.toD (dS ns i b0 W (c+1)):=by
 have hp:=uM ns i b0 c (.lst (sts W)) n []
 have sl:(sts ks).length=ks.length:=Η ..
 by_cases A:ks≠[]∧x % 2=0
 ·obtain ⟨a,b⟩:=A
  have lp:0<ks.length:=ũ.mpr a
  have f1:decide ((0:Int)<((sts ks).length:Nat))=true:=ZW (by rw [sl];omega)
  obtain ⟨k,hk,kl⟩:=l5 (c:=x / 2) (n:=((sts ks).length:Nat)) (by omega)
  have kl:k<ks.length:=by omega
  have g1:opD .mod (.int (x / 2)) (.int ((sts ks).length:Nat))=some (.int (k:Nat)):=iO hk (by omega)
  have g2:ixD (.lst (sts ks)) (.int (k:Nat))=some (.str ks[k]):=by
   refine b6 ?_
   unfold sts
   rw [Ω,φ kl];rfl
  exact ⟨.name (pl0 b0 c) ks[k],dp0 (þ kl) rfl rfl rfl,(ag false (aX 0 (hp) (aX 2 (f1) (aX 2 (cL b) (aX 2 (g1) (aX 0 (g2) aZ))))) (by kernel_rfl))⟩
 have rt:decide ((0:Int)<((sts ks).length:Nat))=false∨(decide ((0:Int)<((sts ks).length:Nat))=true∧(x % 2 == 0)=false):=by
  rw [sl]
  by_cases q:ks = []
  ·subst q;exact .inl rfl
  ·have lp:0<ks.length:=ũ.mpr q
   exact .inr ⟨ZW (by omega),aE fun z=>A ⟨q,z⟩⟩
 by_cases A1:x % 4=1
 ·refine ⟨.truth (pl0 b0 c) (x / 4 % 2 == 0),dp0 trivial rfl rfl rfl,?_⟩
  rcases rt with f | ⟨f,g⟩
  ·exact (ag false (aX 0 (hp) (aX 2 (f) (aX 3 (cL A1) aZ))) (by kernel_rfl))
  ·exact (ag false (aX 0 (hp) (aX 2 (f) (aX 2 (g) (aX 2 (cL A1) aZ)))) (by kernel_rfl))
 by_cases A2:x % 16=3
 ·obtain ⟨k,hk,k8⟩:=l5 (c:=x / 16) (n:=8) (by decide)
  refine ⟨.given (pl0 b0 c) k,dp0 (show k<8 by omega) rfl rfl rfl,?_⟩
  have g1:=iO hk (by decide)
  rcases rt with f | ⟨f,g⟩
  ·exact (ag false (aX 0 (hp) (aX 2 (f) (aX 3 (aE A1) (aX 2 (cL A2) (aX 1 (g1) aZ))))) (by kernel_rfl))
  ·exact (ag false (aX 0 (hp) (aX 2 (f) (aX 2 (g) (aX 2 (aE A1) (aX 2 (cL A2) (aX 1 (g1) aZ)))))) (by kernel_rfl))
 refine ⟨.whole (pl0 b0 c) (x / 4 % 14 - 3),dp0 (show (x / 4 % 14 - 3).natAbs<10 ^ 40 by omega) rfl rfl rfl,?_⟩
 rcases rt with f | ⟨f,g⟩
 ·exact (ag false (aX 0 (hp) (aX 2 (f) (aX 3 (aE A1) (aX 2 (aE A2) aZ)))) (by kernel_rfl))
 ·exact (ag false (aX 0 (hp) (aX 2 (f) (aX 2 (g) (aX 2 (aE A1) (aX 2 (aE A2) aZ))))) (by kernel_rfl))
def DH (W:List ι) (ns:List Int) (b0:Int) (m:Nat) (r:Int) (N:Nat):Prop:=∀ (ks:List ι) (i c:Int),ks.length+2 * m≤900→0≤i→∃ (t:T68) (i' c':Int),0≤i'∧(DP b0 c c' W (m+1) ks t∧Cn c c' m)∧ac Γ N kC [.ref 0,.lst (sts ks),.int r] (dS ns i b0 W c) = .ok t.toD (dS ns i' b0 W c')
section
variable {c c1 c2 c3:Int} {q:Nat} {bs:List ι} {t a b d:T68}
theorem dpk {ts:List T68} (h:own W bs t) (e:t.pl=pl0 b0 c) (hk:ae t=ts) (hw:∀ k∈wks t,k.dep≤5) (ho:∀ i y,ts[i]? = some y→Ok W q (bs ++ bnd t i) y) (hz:PzL b0 (c+1) c1 (c1 - (c+1)) q ts):DP b0 c c1 W (q+1) bs t:=
 ⟨⟨h,by rw [e];exact sm0 b0 c,fun k hk=>by have:=hw k hk;omega,fun i k z=>ho i k (by rw [← hk];exact z)⟩,(Pz.node e (by rw [hk];exact hz)).z (by omega)⟩
theorem dp1 (h:own W bs t) (e:t.pl=pl0 b0 c) (hk:ae t = [a]) (hw:∀ k∈wks t,k.dep≤5) (ha:DP b0 (c+1) c1 W q (bs ++ bnd t 0) a):DP b0 c c1 W (q+1) bs t:=
 dpk h e hk hw (fun i y e=>by
  match i,e with
  | 0,e=>cases e;exact ha.1
  | i+1,e=>simp at e) ((PzL.cons ha.2 PzL.nil).z (by omega))
theorem dp2 (h:own W bs t) (e:t.pl=pl0 b0 c) (hk:ae t = [a,b]) (hw:∀ k∈wks t,k.dep≤5) (ha:DP b0 (c+1) c1 W q (bs ++ bnd t 0) a) (hb:DP b0 c1 c2 W q (bs ++ bnd t 1) b):DP b0 c c2 W (q+1) bs t:=
 dpk h e hk hw (fun i y e=>by
  match i,e with
  | 0,e=>cases e;exact ha.1
  | 1,e=>cases e;exact hb.1
  | i+2,e=>simp at e) ((PzL.cons ha.2 (PzL.cons hb.2 PzL.nil)).z (by omega))
theorem dp3 (h:own W bs t) (e:t.pl=pl0 b0 c) (hk:ae t = [a,b,d]) (hw:∀ k∈wks t,k.dep≤5) (ha:DP b0 (c+1) c1 W q (bs ++ bnd t 0) a) (hb:DP b0 c1 c2 W q (bs ++ bnd t 1) b) (hd:DP b0 c2 c3 W q (bs ++ bnd t 2) d):DP b0 c c3 W (q+1) bs t:=
 dpk h e hk hw (fun i y e=>by
  match i,e with
  | 0,e=>cases e;exact ha.1
  | 1,e=>cases e;exact hb.1
  | 2,e=>cases e;exact hd.1
  | i+3,e=>simp at e) ((PzL.cons ha.2 (PzL.cons hb.2 (PzL.cons hd.2 PzL.nil))).z (by omega))
theorem Ok.app {bs:List ι} {t:T68} {q:Nat} (h:Ok W q bs t):Ok W q (bs ++ []) t:=by rw [ώ];exact h
theorem DP.app (h:DP b0 c c1 W q bs t):DP b0 c c1 W q (bs ++ []) t:=by rw [ώ];exact h
theorem wN:∀ k∈([]:List Kd),k.dep≤5:=fun _ h=>by cases h
theorem wO {k:Kd} (h:k.dep≤5):∀ x∈[k],x.dep≤5:=fun x hx=>by rw [η.mp hx];exact h
end
theorem yn {ks:List ι} (ws:List ι) (hl:ks.length<1000) (hw:ws.length≤2):opD .add (.lst (sts ks)) (.lst (sts ws))=some (.lst (sts (ks ++ ws))):=by
 show cH ((sts ks).length+(sts ws).length) _=_
 unfold cH sts
 rw [ZZ (by rw [Η,Η];omega),ϳ]
theorem Ae (c:Int):∃ L:List Int,L.length≤4∧(itD .range1 [.int (c % 5)]).map D.lst=some (.lst (L.map .int)):=by
 have h:c % 5=0∨c % 5=1∨c % 5=2∨c % 5=3∨c % 5=4:=by omega
 rcases h with h | h | h | h | h <;> rw [h]
 ·exact ⟨[],by decide,by kernel_rfl⟩
 ·exact ⟨[0],by decide,by kernel_rfl⟩
 ·exact ⟨[0,1],by decide,by kernel_rfl⟩
 ·exact ⟨[0,1,2],by decide,by kernel_rfl⟩
 ·exact ⟨[0,1,2,3],by decide,by kernel_rfl⟩
abbrev xT:E:=.call 33 (.cons (.v 1) (.cons (.v 2) (.cons (.op .sub (.v 3) (.c (.int 1))) .nil)))
theorem lq {m N:Nat} {r:Int} (hn:DH W ns b0 m (r - 1) N) {ks:List ι} (hk:ks.length+2 * m≤900) (tl:List (Option D)):∀ (L:List Int) (acc:List D) (e:Option D) (i c:Int),0≤i→acc.length+L.length<1000→∃ (ts:List T68) (e':Option D) (i' c':Int),0≤i'∧ts.length=L.length∧(∀ t∈ts,Ok W (m+1) ks t)∧PzL b0 c c' (c' - c) (m+1) ts∧(c'≤c+L.length∨c'+1≤22+4 * m+L.length)∧aQ (lcQ Γ (ac Γ N) (aj Γ N) [0] true xT (.c (.bl true))) (L.map .int) acc ⟨e :: some (.ref 0) :: some (.lst (sts ks)) :: some (.int r) :: tl,[],dS ns i b0 W c⟩ = .ok (.lst (acc ++ toDs ts)) ⟨e' :: some (.ref 0) :: some (.lst (sts ks)) :: some (.int r) :: tl,[],dS ns i' b0 W c'⟩
 | [],acc,e,i,c,hi,_=>⟨[],e,i,c,hi,rfl,fun t h=>(nomatch h),PzL.nil.z (by omega),.inl (by simp),by simp [aQ,toDs]⟩
 | x :: L,acc,e,i,c,hi,hl=>by
   simp only [Ι] at hl
   obtain ⟨t,i1,c1,h1,⟨ot,nt⟩,ht⟩:=hn ks i c hk hi
   have s0:ev Γ (ac Γ N) (aj Γ N) false xT ⟨some (.int x) :: some (.ref 0) :: some (.lst (sts ks)) :: some (.int r) :: tl,[],dS ns i b0 W c⟩ = .ok t.toD ⟨some (.int x) :: some (.ref 0) :: some (.lst (sts ks)) :: some (.int r) :: tl,[],dS ns i1 b0 W c1⟩:=(dJ false (aX 0 (ht) aZ) (by kernel_rfl))
   obtain ⟨ts,e',i2,c2,h2,l2,o2,z2,n2,h3⟩:=lq hn hk tl L (acc ++ [t.toD]) (some (.int x)) i1 c1 h1 (by rw [ω,Κ];omega)
   refine ⟨t :: ts,e',i2,c2,h2,by simp [l2],?_,(PzL.cons ot.2 z2).z (by omega),cnc nt n2,c9 (pP rfl s0) (by omega) (by rw [ϩ] at h3;exact h3)⟩
   intro u hu
   rcases ς.mp hu with rfl | hu
   ·exact ot.1
   ·exact o2 u hu
theorem yQ (c:Int):∃ s:Sg,ixD (.str "+-*<=") (.int (c % 5))=some (.str s.str):=by
 have h:c % 5=0∨c % 5=1∨c % 5=2∨c % 5=3∨c % 5=4:=by omega
 rcases h with h | h | h | h | h <;> rw [h]
 ·exact ⟨.add,by kernel_rfl⟩
 ·exact ⟨.sub,by kernel_rfl⟩
 ·exact ⟨.mul,by kernel_rfl⟩
 ·exact ⟨.lt,by kernel_rfl⟩
 ·exact ⟨.eq,by kernel_rfl⟩
theorem Ab (y:Int) (h1:5≤y) (h2:y<8) {c c':Int} (t:T68) {q:Nat} {ks:List ι} (ot:DP b0 (c+1) c' W q ks t):∃ (u:T68) (x:ι),u.toD = .tup [.str x,.int (pl0 b0 c),t.toD]∧DP b0 c c' W (q+1) ks u∧ixD (.lst [.str "size",.str "one",.str "two"]) (.int (y - 5))=some (.str x):=by
 have h:y - 5=0∨y - 5=1∨y - 5=2:=by omega
 rcases h with h | h | h <;> rw [h]
 ·exact ⟨.size (pl0 b0 c) t,_,rfl,dp1 trivial rfl rfl wN ot.app,rfl⟩
 ·exact ⟨.one (pl0 b0 c) t,_,rfl,dp1 trivial rfl rfl wN ot.app,rfl⟩
 ·exact ⟨.two (pl0 b0 c) t,_,rfl,dp1 trivial rfl rfl wN ot.app,rfl⟩
theorem Aj (y:Int) {c c1 c':Int} (t v:T68) {q:Nat} {ks:List ι} (ot:DP b0 (c+1) c1 W q ks t) (ov:DP b0 c1 c' W q ks v):∃ (u:T68) (x:ι),u.toD = .tup [.str x,.int (pl0 b0 c),t.toD,v.toD]∧DP b0 c c' W (q+1) ks u∧ixD (.lst [.str "call",.str "call",.str "at",.str "pair"]) (.int (y % 4))=some (.str x):=by
 have h:y % 4=0∨y % 4=1∨y % 4=2∨y % 4=3:=by omega
 rcases h with h | h | h | h <;> rw [h]
 ·exact ⟨.call (pl0 b0 c) t v,_,rfl,dp2 trivial rfl rfl wN ot.app ov.app,rfl⟩
 ·exact ⟨.call (pl0 b0 c) t v,_,rfl,dp2 trivial rfl rfl wN ot.app ov.app,rfl⟩
 ·exact ⟨.att (pl0 b0 c) t v,_,rfl,dp2 trivial rfl rfl wN ot.app ov.app,rfl⟩
 ·exact ⟨.pair (pl0 b0 c) t v,_,rfl,dp2 trivial rfl rfl wN ot.app ov.app,rfl⟩
abbrev dnE (ks:List ι) (r x p y:Int) (w:ι):List (Option D):=[some (.ref 0),some (.lst (sts ks)),some (.int r),some (.int x),some (.int p),some (.int y),some (.str w),none,none,none,none,none]
abbrev dTl:S:=tlS 5 dF.body
theorem rJ (hW:W.length=5) {m N:Nat} {r:Int} (hn:DH W ns b0 m (r - 1) (N+3)) {ks:List ι} (hl:ks.length+2 * (m+1)≤900) (x y i c:Int) (w:ι) (hw:w∈W) (c21:¬21<c+1) (hx:0≤x) (y0:0≤y) (hy:y<13) (hi:0≤i):∃ (t:T68) (i' c':Int),0≤i'∧(DP b0 c c' W (m+2) ks t∧Cn c c' (m+1))∧toR (exS Γ (ac Γ (N+3)) (aj Γ (N+3)) dTl ⟨dnE ks r x (pl0 b0 c) y w,[],dS ns i b0 W (c+1)⟩) = .ok t.toD (dS ns i' b0 W c'):=by
 have a1:=yn (ks:=ks) [w] (by omega) (Θ rfl)
 by_cases e0:y=0
 ·obtain ⟨k,hk,jk⟩:=jI (x / 5) (N+2) (dS ns i b0 W (c+1))
  obtain ⟨t,i1,c1,h1,⟨ot,nt⟩,ht⟩:=hn (ks ++ [w]) i (c+1) (by simp;omega) hi
  exact ⟨.fn (pl0 b0 c) w k t,i1,c1,h1,⟨dp1 hw rfl rfl (wO (by omega)) ot,cn1 c21 nt⟩,(cm false (aX 1 (cL e0) (aX 0 (jk) (aX 0 (a1) (aX 0 (ht) aZ)))) (by kernel_rfl))⟩
 by_cases e1:y=1
 ·obtain ⟨f,hf,jf⟩:=rc hW (x / 5)
  have a2:=yn (ks:=ks) [f,w] (by omega) (Θ rfl)
  obtain ⟨t,i1,c1,h1,⟨ot,nt⟩,ht⟩:=hn (ks ++ [f,w]) i (c+1) (by simp;omega) hi
  obtain ⟨k,hk,jk⟩:=jI (x / 25) (N+2) (dS ns i1 b0 W c1)
  obtain ⟨g,hg,jg⟩:=jI (x / 50) (N+2) (dS ns i1 b0 W c1)
  exact ⟨.slf (pl0 b0 c) f w k g t,i1,c1,h1,⟨dp1 ⟨hf,hw⟩ rfl rfl (fun x hx=>by rcases ς.mp hx with rfl | hx;omega;rw [η.mp hx];omega) ot,cn1 c21 nt⟩,(cm false (aX 1 (aE e0) (aX 1 (cL e1) (aX 3 (jf) (aX 0 (a2) (aX 0 (ht) (aX 0 (jk) (aX 0 (jg) aZ))))))) (by kernel_rfl))⟩
 by_cases e2:y=2
 ·obtain ⟨t,i1,c1,h1,⟨ot,nt⟩,ht⟩:=hn ks i (c+1) (by omega) hi
  obtain ⟨u,i2,c2,h2,⟨ou,nu⟩,hu⟩:=hn (ks ++ [w]) i1 c1 (by simp;omega) h1
  exact ⟨.lt (pl0 b0 c) w t u,i2,c2,h2,⟨dp2 hw rfl rfl wN ot.app ou,cn2 c21 nt nu⟩,(cm false (aX 1 (aE e0) (aX 1 (aE e1) (aX 1 (cL e2) (aX 0 (ht) (aX 0 (a1) (aX 0 (hu) aZ)))))) (by kernel_rfl))⟩
 by_cases e3:y=3
 ·obtain ⟨L,l4,hL⟩:=Ae x
  obtain ⟨ts,e',i1,c1,h1,l1,ots,zts,nts,hlp⟩:=lq hn (ks:=ks) (by omega) [some (.int x),some (.int (pl0 b0 c)),some (.int y),some (.str w),none,none,none,none,none] L [] none i (c+1) hi (by simp only [ϒ];omega)
  obtain ⟨k,hk,jk⟩:=jI (x / 4) (N+2) (dS ns i1 b0 W c1)
  exact ⟨.row (pl0 b0 c) k ts,i1,c1,h1,⟨dpk (show ts.length≤4 by omega) rfl rfl (wO (by omega)) (fun i y e=>(ots y (Ζ e)).app) zts,cnl c21 l4 nts⟩,(cm true (aX 1 (aE e0) (aX 1 (aE e1) (aX 1 (aE e2) (aX 1 (cL e3) (aX 1 (hL) (aX 0 (hlp) (aX 0 (jk) aZ))))))) (by kernel_rfl))⟩
 by_cases e4:y=4
 ·obtain ⟨k,hk,jk⟩:=jI x (N+2) (dS ns i b0 W (c+1))
  obtain ⟨t,i1,c1,h1,⟨ot,nt⟩,ht⟩:=hn ks i (c+1) (by omega) hi
  exact ⟨.as_ (pl0 b0 c) k t,i1,c1,h1,⟨dp1 trivial rfl rfl (wO (by omega)) ot.app,cn1 c21 nt⟩,(cm false (aX 1 (aE e0) (aX 1 (aE e1) (aX 1 (aE e2) (aX 1 (aE e3) (aX 1 (cL e4) (aX 0 (jk) (aX 0 (ht) aZ))))))) (by kernel_rfl))⟩
 obtain ⟨t,i1,c1,h1,⟨ot,nt⟩,ht⟩:=hn ks i (c+1) (by omega) hi
 by_cases y8:y<8
 ·obtain ⟨u,v,eu,ou,jw⟩:=Ab y (by omega) y8 t ot
  refine ⟨u,i1,c1,h1,⟨ou,cn1 c21 nt⟩,?_⟩
  rw [eu]
  exact (cm false (aX 1 (aE e0) (aX 1 (aE e1) (aX 1 (aE e2) (aX 1 (aE e3) (aX 1 (aE e4) (aX 1 (ZW y8) (aX 1 (jw) (aX 0 (ht) aZ)))))))) (by kernel_rfl))
 obtain ⟨u,i2,c2,h2,⟨ou,nu⟩,hu⟩:=hn ks i1 c1 (by omega) h1
 by_cases e8:y=8
 ·obtain ⟨v,i3,c3,h3,⟨ov,nv⟩,hv⟩:=hn ks i2 c2 (by omega) h2
  exact ⟨.iff (pl0 b0 c) t u v,i3,c3,h3,⟨dp3 trivial rfl rfl wN ot.app ou.app ov.app,cn3 c21 nt nu nv⟩,(cm false (aX 1 (aE e0) (aX 1 (aE e1) (aX 1 (aE e2) (aX 1 (aE e3) (aX 1 (aE e4) (aX 1 (ZV y8) (aX 0 (ht) (aX 0 (hu) (aX 1 (cL e8) (aX 0 (hv) aZ)))))))))) (by kernel_rfl))⟩
 by_cases e9:y=9
 ·obtain ⟨s,hs⟩:=yQ x
  exact ⟨.bin (pl0 b0 c) s t u,i2,c2,h2,⟨dp2 trivial rfl rfl wN ot.app ou.app,cn2 c21 nt nu⟩,(cm false (aX 1 (aE e0) (aX 1 (aE e1) (aX 1 (aE e2) (aX 1 (aE e3) (aX 1 (aE e4) (aX 1 (ZV y8) (aX 0 (ht) (aX 0 (hu) (aX 1 (aE e8) (aX 1 (cL e9) (aX 1 (hs) aZ))))))))))) (by kernel_rfl))⟩
 obtain ⟨v,z,ev,ov,jw⟩:=Aj (y+x) t u ot ou
 refine ⟨v,i2,c2,h2,⟨ov,cn2 c21 nt nu⟩,?_⟩
 rw [ev]
 exact (cm false (aX 1 (aE e0) (aX 1 (aE e1) (aX 1 (aE e2) (aX 1 (aE e3) (aX 1 (aE e4) (aX 1 (ZV y8) (aX 0 (ht) (aX 0 (hu) (aX 1 (aE e8) (aX 1 (aE e9) (aX 2 (jw) aZ))))))))))) (by kernel_rfl))
theorem um (hW:W.length=5):∀ (m:Nat) (r:Int) (N:Nat),r≤m+1→2 * m+6≤N→DH W ns b0 m r N:=by
 intro m
 induction m with
 | zero=>
   intro r N hr hN ks i c hl hi
   obtain ⟨N,rfl⟩:∃ n,N=n+3:=⟨N - 3,by omega⟩
   obtain ⟨x,⟨x0,_⟩,hx⟩:=next ns i b0 c (.lst (sts W)) hi (N+1) []
   obtain ⟨t,ot,ht⟩:=tT (W:=W) (ns:=ns) (b0:=b0) (ks:=ks) (x / 5) (i+1) c (by omega) N 0
   exact ⟨t,i+1,c+1,by omega,⟨ot,.inl rfl⟩,(ag false (aX 0 (hx) (aX 1 (ZW (show r<2 by omega)) (aX 0 (ht) aZ))) (by kernel_rfl))⟩
 | succ m ih=>
   intro r N hr hN ks i c hl hi
   obtain ⟨N,rfl⟩:∃ n,N=n+4:=⟨N - 4,by omega⟩
   obtain ⟨x,⟨x0,x3⟩,hx⟩:=next ns i b0 c (.lst (sts W)) hi (N+2) []
   obtain ⟨t,ot,ht⟩:=tT (W:=W) (ns:=ns) (b0:=b0) (ks:=ks) (x / 5) (i+1) c (by omega) (N+1) (m+1)
   by_cases r2:r<2
   ·exact ⟨t,i+1,c+1,by omega,⟨ot,.inl rfl⟩,(ag false (aX 0 (hx) (aX 1 (ZW r2) (aX 0 (ht) aZ))) (by kernel_rfl))⟩
   by_cases l3:x % 5=3
   ·exact ⟨t,i+1,c+1,by omega,⟨ot,.inl rfl⟩,(ag false (aX 0 (hx) (aX 1 (ZV r2) (aX 2 (cL l3) (aX 0 (ht) aZ)))) (by kernel_rfl))⟩
   clear ht ot t
   have c20:¬21<c+1:=fun h=>l3 (by rw [x3 (by omega)];rfl)
   have hp:=uM ns (i+1) b0 c (.lst (sts W)) (N+2) []
   obtain ⟨w,hw,jw⟩:=rc hW (x / 65)
   have hd:exS Γ (ac Γ (N+3)) (aj Γ (N+3)) (hdS 5 dF.body) ⟨[some (.ref 0),some (.lst (sts ks)),some (.int r)] ++ Δ 9 none,[],dS ns i b0 W c⟩ = .nx ⟨dnE ks r (x / 65) (pl0 b0 c) (x / 5 % 13) w,[],dS ns (i+1) b0 W (c+1)⟩:=(bU false (aX 0 (hx) (aX 1 (ZV r2) (aX 2 (aE l3) (aX 0 (hp) (aX 5 (jw) aZ))))) (by kernel_rfl))
   obtain ⟨t,i1,c1,h1,ot,ht⟩:=rJ hW (N:=N) (ih (r - 1) (N+3) (by omega) (by omega)) hl (x / 65) (x / 5 % 13) (i+1) c w hw c20 (by omega) (by omega) (by omega) (by omega)
   exact ⟨t,i1,c1,h1,ot,cX 5 dF rfl rfl hd ht⟩
end
abbrev mx (ps:List Int):Int:=L2.Bw.maxD 0 ps
abbrev nw (t:T68):Int:=mx (ai 8 t)+1
theorem ly:∀ (r:List Int) (a:Int),a≤r.foldl (fun a b=>if b>a then b else a) a∧∀ x∈r,x≤r.foldl (fun a b=>if b>a then b else a) a
 | [],a=>⟨Ĵ _,fun x h=>by cases h⟩
 | b :: r,a=>by
   rw [B6]
   obtain ⟨h1,h2⟩:=ly r (if b>a then b else a)
   have h3:a≤(if b>a then b else a)∧b≤(if b>a then b else a):=by split <;> omega
   refine ⟨by omega,fun x hx=>?_⟩
   rcases ς.mp hx with rfl | hx
   ·omega
   ·exact h2 x hx
theorem lA {B:Int}:∀ (r:List Int) (a:Int),a≤B→(∀ x∈r,x≤B)→r.foldl (fun a b=>if b>a then b else a) a≤B
 | [],a,h,_=>h
 | b :: r,a,h,hr=>by
   rw [B6]
   have:=hr b (by simp)
   exact lA r _ (by split <;> omega) fun x hx=>hr x (by simp [hx])
theorem tA (t:T68):ai 8 t=t.pl :: (ae t).flatMap (ai 7):=rfl
theorem yC {t:T68}:∀ x∈ai 8 t,x≤mx (ai 8 t):=fun x hx=>by
 have h:=ly ((ae t).flatMap (ai 7)) t.pl
 rw [tA] at hx
 rcases ς.mp hx with rfl | hx
 ·exact h.1
 ·exact h.2 x hx
theorem iC:∀ ps:List Int,bh (dsI ps)=some ps
 | []=>rfl
 | p :: ps=>by
   show (bh (dsI ps)).map (p :: ·)=_
   rw [iC ps];rfl
theorem uG (t:T68):biD .max2 [.lst (dsI (ai 8 t))]=some (.int (mx (ai 8 t))):=by
 show (match bh (dsI (ai 8 t)) with | some (n :: r)=>some (D.int (L2.Bw.maxD 0 (n :: r))) | _=>none)=_
 rw [iC];rfl
structure Iv (W:List ι) (B:Int) (t:T68):Prop where
 ok:Ok W 8 [] t
 pt:Pt 8 true t
 nd:(ai 8 t).Nodup
 le:∀ x∈ai 8 t,x≤B
theorem Iv.step {W:List ι} {B p:Int} {t:T68} (h:Iv W B t) (hp:p∈rf 8 true t) (hB:B+1<100000):Iv W (B+1) (cv p (nw t) 8 t):=by
 have ge:=yC (t:=t)
 have m0:=ge t.pl μ
 have p0:=h.ok.2.1.1
 have mB:mx (ai 8 t)≤B:=lA _ _ (h.le _ μ) fun x hx=>h.le x (ν _ hx)
 have fr:nw t ∉ ai 8 t:=fun k=>by have:=ge _ k;show False;unfold nw at this;omega
 have pt:=h.pt.cv (q:=nw t) (Cb.of h.nd hp)
 refine ⟨(h.ok.cv (m:=8) (p:=p) ⟨by unfold nw;omega,by unfold nw;omega⟩).pt pt,pt,xS h.nd fr,fun x hx=>?_⟩
 rcases vn hx with k | rfl
 ·have:=h.le x k;omega
 ·unfold nw;omega
abbrev Rw:=Int×Int×Kd×Int×Kd×List ι
def ay (r:Rw):D:=.tup [.int r.1,.int r.2.1,r.2.2.1.toD,.int r.2.2.2.1,r.2.2.2.2.1.toD,.tup (sts r.2.2.2.2.2)]
structure Gd (T0:Nat) (t:T68) (rows:List Rw):Prop where
 few:rows.length+(rf 8 true t).length≤T0
 nd:(rows.map (·.1)).Nodup
 out:∀ x∈rf 8 true t,x ∉ rows.map (·.1)
 dp:∀ r∈rows,r.2.2.1.dep≤4∧r.2.2.2.2.1.dep≤4
theorem iQ {α:Type} [DecidableEq α]:∀ (l m:List α),l.Nodup→(∀ x∈l,x∈m)→l.length≤m.length
 | [],m,_,_=>Î _
 | x :: l,m,hn,hs=>by
   have hx:=hs x (by simp)
   obtain ⟨hx1,hn2⟩:=ϟ.mp hn
   have:=iQ l (m.erase x) hn2 (fun y hy=>(C5 (fun e:y=x=>hx1 (e ▸ hy))).mpr (hs y (by simp [hy])))
   rw [BF hx] at this
   have:0<m.length:=Ŋ hx
   simp only [Ι];omega
theorem uP {n:Nat} {b:Bool} {t:T68} (h:(ai n t).Nodup):(rf n b t).Nodup:=by
 rw [Ĝ] at h ⊢
 exact fun x=>ϰ (kT n b t) (h x)
theorem my {p q:Int} {t:T68} (nd:(ai 8 (cv p q 8 t)).Nodup) (hp:p∈rf 8 true t):(rf 8 true (cv p q 8 t)).length+1≤(rf 8 true t).length:=by
 have:=iQ (rf 8 true (cv p q 8 t)) ((rf 8 true t).erase p) (uP nd) fun x hx=>(C5 (jq hx).2).mpr (jq hx).1
 rw [BF hp] at this
 have:0<(rf 8 true t).length:=Ŋ hp
 omega
theorem Gd.step {T0:Nat} {p q:Int} {t:T68} {rows:List Rw} (g:Gd T0 t rows) (nd:(ai 8 (cv p q 8 t)).Nodup) (hp:p∈rf 8 true t) (r:Rw) (e:r.1=p) (h4:r.2.2.1.dep≤4∧r.2.2.2.2.1.dep≤4):Gd T0 (cv p q 8 t) (rows ++ [r]):=by
 have l:=my nd hp
 refine ⟨by have:=g.few;rw [ω,Κ];omega,?_,fun x hx m=>?_,fun s hs=>?_⟩
 ·rw [ϳ,Į]
  refine ⟨g.nd,by simp,fun a ha b hb k=>g.out p hp ?_⟩
  rw [à,A5,η] at hb
  rw [← e,← hb,← k];exact ha
 ·rw [ϳ] at m
  rcases Ϡ.mp m with m | m
  ·exact g.out x (jq hx).1 m
  ·rw [à,A5,η,e] at m
   exact (jq hx).2 m
 ·rcases Ϡ.mp hs with hs | hs
  ·exact g.dp s hs
  ·rw [η.mp hs];exact h4
inductive Sof (W:List ι) (T0:Nat):T68→List Rw→Except Int (T68×List Rw)→Prop
 | done {t rows v} (o:Ok W 8 [] t) (g:Gd T0 t rows) (q:av 8 t = .ok v):Sof W T0 t rows (.ok (t,rows))
 | deep {t rows p} (o:Ok W 8 [] t) (g:Gd T0 t rows) (q:av 8 t = .error (.deep p)):Sof W T0 t rows (.error p)
 | step {t rows p k b w way out} (o:Ok W 8 [] t) (nd:(ai 8 t).Nodup) (g:Gd T0 t rows) (q:av 8 t = .error (.parted p k b w way)) (h:Sof W T0 (cv p (nw t) 8 t) (rows ++ [(p,nw t,k,b,w,way)]) out):Sof W T0 t rows out
theorem w8 {W:List ι} {T0:Nat}:∀ (n:Nat) (t:T68) (rows:List Rw) (B:Int),(rf 8 true t).length≤n→Iv W B t→Gd T0 t rows→B+n<99999→∃ o,Sof W T0 t rows o:=by
 intro n
 induction n with
 | zero=>
   intro t rows B hn iv g hB
   cases q:av 8 t with
   | ok v=>exact ⟨_,.done iv.ok g q⟩
   | error e=>
     have ef:=hX q
     cases e with
     | name p=>exact ef.elim
     | deep p=>exact ⟨_,.deep iv.ok g q⟩
     | parted p k b w way=>have:=Ŋ ef.1;omega
 | succ n ih=>
   intro t rows B hn iv g hB
   cases q:av 8 t with
   | ok v=>exact ⟨_,.done iv.ok g q⟩
   | error e=>
     have ef:=hX q
     cases e with
     | name p=>exact ef.elim
     | deep p=>exact ⟨_,.deep iv.ok g q⟩
     | parted p k b w way=>
       have iv2:=iv.step ef.1 (by omega)
       have l:=my iv2.nd ef.1
       obtain ⟨o,h⟩:=ih _ (rows ++ [(p,nw t,k,b,w,way)]) (B+1) (by omega) iv2 (g.step iv2.nd ef.1 _ rfl ef.2) (by omega)
       exact ⟨o,.step iv.ok iv.nd g q h⟩
theorem qZ {c:Sta→Out D} {f:Sta→ak} {s s1 s2:Sta} {n:Nat} (hc:c s = .ok (.bl true) s1) (hb:f s1 = .nx s2):bx c f (n+1) s=bx c f n s2:=by
 show (c s).go _=_
 rw [hc]
 show (f s1).go _=_
 rw [hb];rfl
theorem xd {c:Sta→Out D} {f:Sta→ak} {s s1 s2:Sta} {n j:Nat} {l:List D} (hc:c s = .ok (.bl true) s1) (hb:f s1 = .exc j l s2):bx c f (n+1) s = .exc j l s2:=by
 show (c s).go _=_
 rw [hc]
 show (f s1).go _=_
 rw [hb];rfl
theorem jb {c:Sta→Out D} {f:Sta→ak} {s s1:Sta} {n:Nat} (hc:c s = .ok (.bl false) s1):bx c f (n+1) s = .nx s1:=by
 show (c s).go _=_
 rw [hc];rfl
theorem mv {W:List ι} {t:T68} (o:Ok W 8 [] t) (m:Nat) (hm:20≤m):(∃ r,ac Γ (m+1) au [t.toD] [] = .ok r [])∨∃ c l,ac Γ (m+1) au [t.toD] [] = .exc c l []:=by
 cases q:av 8 t with
 | ok v=>exact .inl ⟨_,(kS o m hm [] q).1⟩
 | error e=>
   have r:=(i6 o m hm [] q).1
   cases e with
   | name p=>exact .inr ⟨_,_,r⟩
   | deep p=>exact .inr ⟨_,_,r⟩
   | parted p k b w way=>exact .inl ⟨_,r⟩
theorem Sof.ok {W:List ι} {T0:Nat} {t:T68} {rows:List Rw} {o:Except Int (T68×List Rw)} (h:Sof W T0 t rows o):Ok W 8 [] t:=by cases h <;> assumption
def soB:S:=match tlS 2 bV.body with | .seq (.whl _ b) _=>b | s=>s
abbrev sst (t0:D) (t:T68) (L:List D) (r:D) (e4:Option D):Sta:=⟨[some t0,some t.toD,some (.lst L),some r,e4],[2],[]⟩
def Fin (t0:D) (o:Except Int (T68×List Rw)) (out:ak):Prop:=match o with
 | .ok (t,rows)=>∃ e4,out = .nx (sst t0 t (rows.map ay) .non e4)
 | .error p=>∃ env ow,out = .exc 3 [.int p] ⟨env,ow,[]⟩
theorem tK {W:List ι} {T0:Nat} (t0:D) {t:T68} {rows:List Rw} {o:Except Int (T68×List Rw)} (h:Sof W T0 t rows o) (N:Nat) (hN:30≤N) (hT:T0≤1000):∀ (n:Nat),T0<n+rows.length→∀ (e4:Option D) (env:List (Option D)) (ow:List Nat),Fin t0 o (match ac Γ N au [t.toD] [] with | .ok r _=>bx (ev Γ (ac Γ N) (aj Γ N) true (.isNN (.v 3))) (exS Γ (ac Γ N) (aj Γ N) soB) n (sst t0 t (rows.map ay) r e4) | .exc c l _=>.exc c l ⟨env,ow,[]⟩ | .bad=>.bad):=by
 obtain ⟨N,rfl⟩:∃ k,N=k+1:=⟨N - 1,by omega⟩
 induction h with
 | @done t rows v o g q=>
   intro n hn e4 env ow
   obtain ⟨kd,wd⟩:=v
   obtain ⟨n,rfl⟩:∃ k,n=k+1:=⟨n - 1,by have:=g.few;omega⟩
   rw [(kS o N (by omega) [] q).1]
   exact ⟨e4,jb rfl⟩
 | @deep t rows p o g q=>
   intro n hn e4 env ow
   rw [show ac Γ (N+1) au [t.toD] [] = .exc 3 [.int p] [] from (i6 o N (by omega) [] q).1]
   exact ⟨env,ow,rfl⟩
 | @step t rows p k b w way out o nd g q h ih=>
   intro n hn e4 env ow
   obtain ⟨n,rfl⟩:∃ k,n=k+1:=⟨n - 1,by have:=g.few;omega⟩
   rw [show ac Γ (N+1) au [t.toD] [] = .ok (.ins 4 (Er.parted p k b w way).ds) [] from (i6 o N (by omega) [] q).1]
   have pl:=ia 8 (N+1) t [] [] (by omega) (by decide) o
   have mq:=uG t
   have l0:decide ((rows.map ay).length<100000)=true:=ZW (by rw [Η];have:=g.few;omega)
   have wu:=uT p (nw t) 8 (N+1) t [] [] (by omega) o nd
   have i:=ih n (by rw [ω,Κ];omega) (some (.int (nw t)))
   rw [ϳ] at i
   rcases mv h.ok N (by omega) with ⟨r',e⟩ | ⟨c,l,e⟩
   ·rw [e] at i
    have hb:exS Γ (ac Γ (N+1)) (aj Γ (N+1)) soB (sst t0 t (rows.map ay) (.ins 4 (Er.parted p k b w way).ds) e4) = .nx (sst t0 (cv p (nw t) 8 t) (rows.map ay ++ [ay (p,nw t,k,b,w,way)]) r' (some (.int (nw t)))):=(bU false (aX 0 (pl) (aX 0 (mq) (aX 6 (l0) (aX 0 (wu) (aX 0 (e) aZ))))) (by kernel_rfl))
    dsimp only
    rw [qZ (c:=ev Γ (ac Γ (N+1)) (aj Γ (N+1)) true (.isNN (.v 3))) (s1:=sst t0 t (rows.map ay) (.ins 4 (Er.parted p k b w way).ds) e4) rfl hb]
    exact i [] []
   ·rw [e] at i
    have hb:exS Γ (ac Γ (N+1)) (aj Γ (N+1)) soB (sst t0 t (rows.map ay) (.ins 4 (Er.parted p k b w way).ds) e4) = .exc c l ⟨[some t0,some (cv p (nw t) 8 t).toD,some (.lst (rows.map ay ++ [ay (p,nw t,k,b,w,way)])),some (.ins 4 (Er.parted p k b w way).ds),some (.int (nw t))],[2],[]⟩:=(bU false (aX 0 (pl) (aX 0 (mq) (aX 6 (l0) (aX 0 (wu) (aX 0 (e) aZ))))) (by kernel_rfl))
    dsimp only
    rw [xd (c:=ev Γ (ac Γ (N+1)) (aj Γ (N+1)) true (.isNN (.v 3))) (s1:=sst t0 t (rows.map ay) (.ins 4 (Er.parted p k b w way).ds) e4) rfl hb]
    exact i _ _
theorem tL {W:List ι} {T0:Nat} {t:T68} {o:Except Int (T68×List Rw)} (h:Sof W T0 t [] o) (N:Nat) (hN:30≤N) (hT:T0≤1000):ac Γ (N+1) fO [t.toD] []=match o with | .ok (u,rows)=>.ok (.tup [u.toD,.lst (rows.map ay)]) [] | .error p=>.exc 3 [.int p] []:=by
 have lp:=tK t.toD h N hN hT 100000 (by omega) none
 obtain ⟨N,rfl⟩:∃ k,N=k+1:=⟨N - 1,by omega⟩
 rcases mv h.ok N (by omega) with ⟨r',e⟩ | ⟨c,l,e⟩
 ·rw [e] at lp
  have hd:exS Γ (ac Γ (N+1)) (aj Γ (N+1)) (hdS 2 bV.body) ⟨[some t.toD,none,none,none,none],[],[]⟩ = .nx (sst t.toD t [] r' none):=(bU false (aX 0 (e) aZ) (by kernel_rfl))
  refine cX 2 bV rfl rfl hd ?_
  have lp:=lp [] []
  show toR ((bx (ev Γ (ac Γ (N+1)) (aj Γ (N+1)) true (.isNN (.v 3))) (exS Γ (ac Γ (N+1)) (aj Γ (N+1)) soB) 100000 (sst t.toD t (([]:List Rw).map ay) r' none)).go fun s=>exS Γ (ac Γ (N+1)) (aj Γ (N+1)) (tlS 3 bV.body) s)=_
  cases o with
  | ok v=>
    obtain ⟨u,rows⟩:=v
    obtain ⟨e4,lp⟩:=lp
    rw [show bx _ _ _ _=_ from lp]
    show toR (exS Γ (ac Γ (N+1)) (aj Γ (N+1)) (tlS 3 bV.body) (sst t.toD u (rows.map ay) .non e4))=_
    exact (cm false aZ (by kernel_rfl))
  | error p=>
    obtain ⟨env,ow,lp⟩:=lp
    rw [show bx _ _ _ _=_ from lp];rfl
 ·rw [e] at lp
  cases o with
  | ok v=>obtain ⟨e4,lp⟩:=lp [] [];cases lp
  | error p=>
    obtain ⟨env,ow,lp⟩:=lp [] []
    cases lp
    exact (ag false (aX 0 (e) aZ) (by kernel_rfl))
def eO (r:Except Er (Al×Al)):D:=match r with
 | .ok _=>.non
 | .error e=>(wU e).getD .non
theorem oN {W:List ι} {t:T68} (o:Ok W 8 [] t) (m:Nat) (hm:20≤m) (S:List O):ac Γ (m+1) bp [t.toD] S = .ok (eO (av 8 t)) S:=by
 cases q:av 8 t with
 | ok v=>exact (kS o m hm S q).2
 | error e=>
   obtain ⟨d,h1,h2⟩:=(i6 o m hm S q).2
   show _=Res.ok ((wU e).getD .non) S
   rw [h1];exact h2
def zb (W:List ι) (T0:Nat) (o:Except Int (T68×List Rw)) (t':T68) (L:List D) (d':D):Prop:=match o with
 | .ok (u,rs)=>t'=u∧L=rs.map ay∧d' = .non∧Gd T0 u rs∧Ok W 8 [] u
 | .error p=>d' = .tup [.str "deep",.int p]
def lwW:S:=hdS 0 (tlS 6 bL.body)
def lwC:E:=match lwW with | .whl c _=>c | _=>.nil
def lwB:S:=match lwW with | .whl _ b=>b | s=>s
section
variable (a c r f:D) (t0:T68) (S:List O)
abbrev lst (t:T68) (L:List D) (d:D) (e8:Option D):Sta:=⟨[some a,some c,some r,some t0.toD,some f,some (.lst L),some t.toD,some d,e8],[5],S⟩
theorem lU {W:List ι} (o0:Ok W 8 [] t0) {t:T68} {rows:List Rw} {o:Except Int (T68×List Rw)} (h:Sof W (ai 8 t0).length t rows o) (N:Nat) (hN:30≤N) (hT:(ai 8 t0).length≤1000):∀ (n:Nat),(ai 8 t0).length<n+rows.length→∀ (e8:Option D),∃ t' L d' e8',bx (ev Γ (ac Γ N) (aj Γ N) true lwC) (exS Γ (ac Γ N) (aj Γ N) lwB) n (lst a c r f t0 S t (rows.map ay) (eO (av 8 t)) e8) = .nx (lst a c r f t0 S t' L d' e8')∧zb W (ai 8 t0).length o t' L d':=by
 obtain ⟨N,rfl⟩:∃ k,N=k+1:=⟨N - 1,by omega⟩
 induction h with
 | @done t rows v o g q=>
   intro n hn e8
   obtain ⟨n,rfl⟩:∃ k,n=k+1:=⟨n - 1,by have:=g.few;omega⟩
   rw [q]
   have cn:ev Γ (ac Γ (N+1)) (aj Γ (N+1)) true lwC (lst a c r f t0 S t (rows.map ay) (eO (.ok v)) e8) = .ok (.bl false) (lst a c r f t0 S t (rows.map ay) .non e8):=(dJ false aZ (by kernel_rfl))
   exact ⟨t,_,.non,e8,jb cn,rfl,rfl,rfl,g,o⟩
 | @deep t rows p o g q=>
   intro n hn e8
   obtain ⟨n,rfl⟩:∃ k,n=k+1:=⟨n - 1,by have:=g.few;omega⟩
   rw [q]
   have cn:ev Γ (ac Γ (N+1)) (aj Γ (N+1)) true lwC (lst a c r f t0 S t (rows.map ay) (eO (.error (.deep p))) e8) = .ok (.bl false) (lst a c r f t0 S t (rows.map ay) (.tup [.str "deep",.int p]) e8):=(dJ false aZ (by kernel_rfl))
   exact ⟨t,_,_,e8,jb cn,rfl⟩
 | @step t rows p k b w way out o nd g q h ih=>
   intro n hn e8
   obtain ⟨n,rfl⟩:∃ k,n=k+1:=⟨n - 1,by have:=g.few;omega⟩
   rw [q]
   have p0:=iN 8 (N+1) t0 [] S (by omega) (by decide) o0
   have hle:decide ((((rows.map ay).length:Nat):Int)≤(((dsI (ai 8 t0)).length:Nat):Int))=true:=ZW (by unfold dsI;rw [Η,Η];have:=g.few;omega)
   have hle:opD .le (.int (((rows.map ay).length:Nat):Int)) (.int (((dsI (ai 8 t0)).length:Nat):Int))=some (.bl true):=by
    show some (D.bl (decide _))=_
    rw [hle]
   have cn:ev Γ (ac Γ (N+1)) (aj Γ (N+1)) true lwC (lst a c r f t0 S t (rows.map ay) (eO (.error (.parted p k b w way))) e8) = .ok (.bl true) (lst a c r f t0 S t (rows.map ay) (eO (.error (.parted p k b w way))) e8):=(dJ false (aX 0 (p0) (aX 1 (hle) aZ)) (by kernel_rfl))
   have pl:=iN 8 (N+1) t [] S (by omega) (by decide) o
   have mq:=uG t
   have ad:opD .add (.int 1) (.int (mx (ai 8 t)))=some (.int (nw t)):=by
    show some (D.int (1+mx (ai 8 t)))=_
    rw [Int.add_comm]
   have l0:decide ((rows.map ay).length<100000)=true:=ZW (by rw [Η];have:=g.few;omega)
   have wu:=oJ p (nw t) 8 (N+1) t [] S (by omega) o
   have du:=oN h.ok N (by omega) S
   have hb:exS Γ (ac Γ (N+1)) (aj Γ (N+1)) lwB (lst a c r f t0 S t (rows.map ay) (eO (.error (.parted p k b w way))) e8) = .nx (lst a c r f t0 S (cv p (nw t) 8 t) (rows.map ay ++ [ay (p,nw t,k,b,w,way)]) (eO (av 8 (cv p (nw t) 8 t))) (some (.int (nw t)))):=(bU false (aX 0 (pl) (aX 0 (mq) (aX 0 (ad) (aX 3 (l0) (aX 0 (wu) (aX 0 (du) aZ)))))) (by kernel_rfl))
   obtain ⟨t',L,d',e8',i,fin⟩:=ih n (by rw [ω,Κ];omega) (some (.int (nw t)))
   rw [ϳ] at i
   exact ⟨t',L,d',e8',(qZ cn hb).trans i,fin⟩
end
theorem ut (ps:List Int) (nd:ps.Nodup):∀ n,n≤ps.length→(D4 (fun i=>ps.getD i 0) n).length=n
 | 0,_=>rfl
 | n+1,h=>by
   rw [firstMet_succ,step_length,firstMet_any,ut ps nd n (by omega)]
   rw [ZY]
   intro k
   obtain ⟨v,hv,e⟩:=Ï.mp k
   obtain ⟨i,hi,rfl⟩:=ϖ.mp hv
   have hi:=Ĥ.mp hi
   have e:ps.getD i 0=ps.getD n 0:=by simpa using e
   rw [Ϯ,Ϯ,φ (show i<ps.length by omega),φ (show n<ps.length by omega)] at e
   exact (List.pairwise_iff_getElem.mp nd) i n (by omega) (by omega) hi e
theorem tJ (ps:List Int) (nd:ps.Nodup) (hl:ps.length+1<4096):biD .setl [.lst (dsI ps)]=some (.int (ps.length:Nat)):=by
 show ((bh (dsI ps)).bind fun ns=>if ns.length+1<4096 then some (D.int ((D4 (fun i=>ns.getD i 0) ns.length).length:Nat)) else none)=_
 rw [iC]
 show (if ps.length+1<4096 then _ else none)=_
 rw [ZZ hl,ut ps nd _ (Ο _)]
theorem lP (M:Nat) (tl:List (Option D)) (S:List O):∀ (rows:List Rw) (acc:List D) (e:Option D),acc.length+rows.length<100000→∃ e':Option D,aQ (lcQ Γ (ac Γ M) (aj Γ M) [0] true (.ix (.v 0) (.c (.int 0))) (.c (.bl true))) (rows.map ay) acc ⟨e :: tl,[],S⟩ = .ok (.lst (acc ++ dsI (rows.map (·.1)))) ⟨e' :: tl,[],S⟩
 | [],acc,e,_=>⟨e,by simp [dsI,aQ]⟩
 | r :: rows,acc,e,h=>by
   simp only [Ι] at h
   obtain ⟨e',g⟩:=lP M tl S rows (acc ++ [.int r.1]) (some (ay r)) (by rw [ω,Κ];omega)
   rw [ϩ] at g
   exact ⟨e',c9 (pP (s3:=⟨some (ay r) :: tl,[],S⟩) rfl rfl) (by omega) g⟩
theorem jX (n:Nat) (x:ι):eqv (n+1) (.str x) (.str x)=some true:=by show some (x == x)=_;rw [ZT]
theorem dM (n:Nat) (x:Int):eqv (n+1) (.int x) (.int x)=some true:=by show some (x == x)=_;rw [ZT]
theorem se {t:T68} {k:Kd} (h:It.k k∈its t) (c:vD t=false):k∈wks t:=by cases t <;> first | (cases c;done) | (simp [its] at h <;> simp [wks,h])
theorem qB {W:List ι}:∀ {n:Nat} {bs:List ι} {t:T68},Ok W n bs t→Kok n t
 | 0,_,_,o=>o.elim
 | n+1,bs,t,o=>⟨fun k hk=>o.2.2.1 k (se hk (qD o.1)),fun y hy=>by obtain ⟨i,hi⟩:=ϓ.mp hy;exact qB (o.2.2.2 i y hi)⟩
theorem xV {W:List ι} {t:T68} (o:Ok W 8 [] t):Ev.eqT t.toD t.toD=some true:=by
 rw [kt (by cases t <;> rfl)]
 exact T68.same 8 55 t (qB o) (by decide)
theorem zQ {W:List ι} {t:T68} (o:Ok W 8 [] t):opD .eq t.toD t.toD=some (.bl true):=by
 show (Ev.eqT t.toD t.toD).map D.bl=_
 rw [xV o];rfl
theorem lK {k:Kd} (h:k.dep≤4):eqv 53 k.toD k.toD=some true:=by rw [kF 53 _ (by omega)];simp
theorem qN {r:Rw} (h:r.2.2.1.dep≤4∧r.2.2.2.2.1.dep≤4):eqv 54 (ay r) (ay r)=some true:=cV fun d hd=>by
 simp only [ς,Ç,or_false] at hd
 rcases hd with rfl | rfl | rfl | rfl | rfl | rfl
 ·exact dM _ _
 ·exact dM _ _
 ·exact lK h.1
 ·exact dM _ _
 ·exact lK h.2
 ·exact cV fun d hd=>by
   obtain ⟨x,_,rfl⟩:=ϖ.mp hd
   exact jX _ _
theorem tD {rows:List Rw} (h:∀ r∈rows,r.2.2.1.dep≤4∧r.2.2.2.2.1.dep≤4):opD .eq (.lst (rows.map ay)) (.lst (rows.map ay))=some (.bl true):=by
 show (Ev.eqT _ _).map D.bl=_
 rw [kt rfl,qm fun d hd=>by obtain ⟨r,hr,rfl⟩:=ϖ.mp hd;exact qN (h r hr)];rfl
theorem rH (p:Int):opD .eq (.tup [.str "deep",.int p]) (.tup [.str "deep",.int p])=some (.bl true):=by
 show (Ev.eqT (.tup [.str "deep",.int p]) (.tup [.str "deep",.int p])).map D.bl=_
 rw [kt rfl,cV fun d hd=>by
  simp only [ς,Ç,or_false] at hd
  rcases hd with rfl | rfl
  ·exact jX _ _
  ·exact dM _ _];rfl
theorem vB (a:Int):opD .eq (.int a) (.int a)=some (.bl true):=by
 show some (D.bl (a == a))=_
 rw [ZT]
theorem tE (rows:List Rw):az (rows.map ay)=true:=cQ fun d hd=>by
 obtain ⟨r,_,rfl⟩:=ϖ.mp hd
 show (true && (true && (noR r.2.2.1.toD && (true && (noR r.2.2.2.2.1.toD && (az (sts r.2.2.2.2.2) && true))))))=true
 rw [Kd.nr,Kd.nr,cQ fun d hd=>by obtain ⟨x,_,rfl⟩:=ϖ.mp hd;rfl];rfl
theorem yM {b0 c' Z:Int} {q:Nat} {t:T68} (h:Pz b0 0 c' Z q t) (hc:c'≤997):∀ x∈ai q t,0≤x∧x<997:=fun x hx=>by
 obtain ⟨h1,h2,h3⟩:=h
 obtain ⟨n,rfl⟩:∃ n:Nat,c'=n:=⟨c'.toNat,by omega⟩
 have k:=h1 x
 have p:=Ć.mpr hx
 obtain ⟨g1,g2,_⟩:=nZ b0 x n (by omega)
 have e0:Gc b0 x 0=0:=rfl
 have e1:Gc b0 x n=Gn b0 x n:=rfl
 rw [e0,e1] at k
 obtain ⟨i,_,e⟩:=g2 (by omega)
 rw [← e]
 unfold pl0;omega
theorem pO {W:List ι} {t:T68} {o:Except Int (T68×List Rw)} (o0:Ok W 8 [] t) (h:Sof W (ai 8 t).length t [] o) (hT:(ai 8 t).length≤1000) (a c r:D) (S:List O):toR (exS Γ (ac Γ 249) (aj Γ 249) (tlS 2 bL.body) ⟨[some a,some c,some r,some t.toD,none,none,none,none,none],[],S⟩) = .ok (.bl true) S:=by
 have so:=tL h 247 (by decide) hT
 have nt:=w9 o0
 have du:=oN o0 248 (by decide) S
 have n100:(100000:Nat)=99999+1:=rfl
 cases o with
 | ok v=>
   obtain ⟨u,rows⟩:=v
   obtain ⟨t',L,d',e8',lp,rfl,rfl,rfl,g,ou⟩:=lU a c r (.tup [u.toD,.lst (rows.map ay)]) t S o0 h 249 (by decide) hT 100000 (by omega) none
   have nr:noR (.tup [t'.toD,.lst (rows.map ay)])=true:=by
    show (noR t'.toD && (az (rows.map ay) && true))=true
    rw [T68.nr 8 t' ou.nst,tE];rfl
   have fd:ac Γ 249 cD [t.toD] S = .ok (.tup [t'.toD,.lst (rows.map ay)]) S:=(ag false (aX 0 (nt) (aX 0 (so) (aX 0 (nr) aZ))) (by kernel_rfl))
   have few:=g.few
   obtain ⟨e',lc⟩:=lP 249 [some a,some c,some r,some t.toD,some (.tup [t'.toD,.lst (rows.map ay)]),some (.lst (rows.map ay)),some t'.toD,some .non,e8'] S rows [] none (by simp only [ϒ];omega)
   have sl:=tJ (rows.map (·.1)) g.nd (by rw [Η];omega)
   rw [Η] at sl
   have eqt:opD .eq (look S t'.toD) (look S t'.toD)=some (.bl true):=by rw [p8];exact zQ ou
   have eqr:=tD g.dp
   have ll:biD .len [.lst (rows.map ay)]=some (.int (rows.length:Nat)):=by
    show some (D.int ((rows.map ay).length:Nat))=_
    rw [Η]
   have ei:=vB (rows.length:Nat)
   have hd:exS Γ (ac Γ 249) (aj Γ 249) (hdS 3 (tlS 2 bL.body)) ⟨[some a,some c,some r,some t.toD,none,none,none,none,none],[],S⟩ = .nx (lst a c r (.tup [t'.toD,.lst (rows.map ay)]) t S t (([]:List Rw).map ay) (eO (av 8 t)) none):=(bU false (aX 0 (fd) (aX 0 (du) aZ)) (by kernel_rfl))
   rw [cZ 3,hd]
   show toR ((bx (ev Γ (ac Γ 249) (aj Γ 249) true lwC) (exS Γ (ac Γ 249) (aj Γ 249) lwB) 100000 (lst a c r (.tup [t'.toD,.lst (rows.map ay)]) t S t (([]:List Rw).map ay) (eO (av 8 t)) none)).go fun s=>exS Γ (ac Γ 249) (aj Γ 249) (tlS 7 bL.body) s)=_
   rw [lp]
   show toR (exS Γ (ac Γ 249) (aj Γ 249) (tlS 7 bL.body) (lst a c r (.tup [t'.toD,.lst (rows.map ay)]) t S t' (rows.map ay) .non e8'))=_
   exact (cm true (aX 12 (eqt) (aX 2 (eqr) (aX 0 (lc) (aX 0 (sl) (aX 0 (ll) (aX 0 (ei) aZ)))))) (by kernel_rfl))
 | error p=>
   obtain ⟨t',L,d',e8',lp,rfl⟩:=lU a c r (.tup [.str "deep",.int p]) t S o0 h 249 (by decide) hT 100000 (by omega) none
   have fd:ac Γ 249 cD [t.toD] S = .ok (.tup [.str "deep",.int p]) S:=(ag false (aX 0 (nt) (aX 0 (so) aZ)) (by kernel_rfl))
   have eq:=rH p
   have hd:exS Γ (ac Γ 249) (aj Γ 249) (hdS 3 (tlS 2 bL.body)) ⟨[some a,some c,some r,some t.toD,none,none,none,none,none],[],S⟩ = .nx (lst a c r (.tup [.str "deep",.int p]) t S t (([]:List Rw).map ay) (eO (av 8 t)) none):=(bU false (aX 0 (fd) (aX 0 (du) aZ)) (by kernel_rfl))
   rw [cZ 3,hd]
   show toR ((bx (ev Γ (ac Γ 249) (aj Γ 249) true lwC) (exS Γ (ac Γ 249) (aj Γ 249) lwB) 100000 (lst a c r (.tup [.str "deep",.int p]) t S t (([]:List Rw).map ay) (eO (av 8 t)) none)).go fun s=>exS Γ (ac Γ 249) (aj Γ 249) (tlS 7 bL.body) s)=_
   rw [lp]
   show toR (exS Γ (ac Γ 249) (aj Γ 249) (tlS 7 bL.body) (lst a c r (.tup [.str "deep",.int p]) t S t' L (.tup [.str "deep",.int p]) e8'))=_
   exact (cm true (aX 1 (eq) aZ) (by kernel_rfl))
abbrev frT (t:T68) (x:ι):T68:=.call 998 t (.name 999 x)
theorem nH (x:ι) (m:Nat) (S:List O):ac Γ (m+1) bO [(T68.name 999 x).toD,.tup []] S = .exc 2 [.int 999] S:=by kernel_rfl
theorem tf {W:List ι} {n:Nat} {t:T68} (o:Ok W n [] t) (x:ι) (m:Nat) (hm:n+5≤m) (hn:n≤8) (S:List O):ac Γ m bO [(frT t x).toD,.tup []] S = .exc 2 [.int 999] S:=by
 obtain ⟨m,rfl⟩:∃ k,m=k+5:=⟨m - 5,by omega⟩
 have p0:=fW (frT t x) (m+1) S
 have n0:=kL (frT t x) 0 t rfl (m+3) S
 have n1:=kL (frT t x) 1 (.name 999 x) rfl (m+3) S
 have i1:=dH n (m+4) t [] S (by omega) o (by simp only [ϒ];omega)
 have i2:=nH x (m+3) S
 exact (ag false (aX 0 (p0) (aX 0 (n0) (aX 0 (i1) (aX 0 (n1) (aX 0 (i2) aZ))))) (by kernel_rfl))
theorem hO {W:List ι} {n:Nat} {t:T68} (o:Ok W n [] t) (x:ι) (m:Nat) (hm:n+10≤m) (hn:n≤8):ac Γ m dO [(frT t x).toD] [] = .exc 2 [.int 999] []:=by
 obtain ⟨m,rfl⟩:∃ k,m=k+4:=⟨m - 4,by omega⟩
 have nb:=tf o x (m+2) (by omega) hn []
 have nn:ac Γ (m+3) dP [(frT t x).toD] [] = .exc 2 [.int 999] []:=(ag false (aX 0 (nb) aZ) (by kernel_rfl))
 exact (ag false (aX 0 (nn) aZ) (by kernel_rfl))
theorem pN {W:List ι} {t:T68} (o:Ok W 3 [] t) (x:ι) (a c r:D) (S:List O):toR (exS Γ (ac Γ 249) (aj Γ 249) (tlS 2 bL.body) ⟨[some a,some c,some r,some (frT t x).toD,none,none,none,none,none],[],S⟩) = .ok (.bl true) S:=by
 have nt:az [(frT t x).toD]=true:=by
  show ((true && (true && (noR t.toD && ((true && (true && (true && true))) && true)))) && true)=true
  rw [T68.nr 3 t o.nst];rfl
 have lk:=hO o x 246 (by decide) (by decide)
 have lk2:=hO o x 248 (by decide) (by decide)
 have rf:ac Γ 247 au [(frT t x).toD] [] = .exc 2 [.int 999] []:=(ag false (aX 0 (nt) (aX 0 (lk) aZ)) (by kernel_rfl))
 have so:ac Γ 248 fO [(frT t x).toD] [] = .exc 2 [.int 999] []:=(ag false (aX 0 (rf) aZ) (by kernel_rfl))
 have fd:ac Γ 249 cD [(frT t x).toD] S = .ok (.tup [.str "name",.int 999]) S:=(ag false (aX 0 (nt) (aX 0 (so) aZ)) (by kernel_rfl))
 have du:ac Γ 249 bp [(frT t x).toD] S = .ok (.tup [.str "name",.int 999]) S:=(ag false (aX 0 (nt) (aX 0 (lk2) aZ)) (by kernel_rfl))
 have hd:exS Γ (ac Γ 249) (aj Γ 249) (hdS 3 (tlS 2 bL.body)) ⟨[some a,some c,some r,some (frT t x).toD,none,none,none,none,none],[],S⟩ = .nx (lst a c r (.tup [.str "name",.int 999]) (frT t x) S (frT t x) [] (.tup [.str "name",.int 999]) none):=(bU false (aX 0 (fd) (aX 0 (du) aZ)) (by kernel_rfl))
 have cn:ev Γ (ac Γ 249) (aj Γ 249) true lwC (lst a c r (.tup [.str "name",.int 999]) (frT t x) S (frT t x) [] (.tup [.str "name",.int 999]) none) = .ok (.bl false) (lst a c r (.tup [.str "name",.int 999]) (frT t x) S (frT t x) [] (.tup [.str "name",.int 999]) none):=(dJ false aZ (by kernel_rfl))
 have lp:=jb (n:=99999) (f:=exS Γ (ac Γ 249) (aj Γ 249) lwB) cn
 rw [cZ 3,hd]
 show toR ((bx (ev Γ (ac Γ 249) (aj Γ 249) true lwC) (exS Γ (ac Γ 249) (aj Γ 249) lwB) (99999+1) (lst a c r (.tup [.str "name",.int 999]) (frT t x) S (frT t x) [] (.tup [.str "name",.int 999]) none)).go fun s=>exS Γ (ac Γ 249) (aj Γ 249) (tlS 7 bL.body) s)=_
 rw [lp]
 show toR (exS Γ (ac Γ 249) (aj Γ 249) (tlS 7 bL.body) (lst a c r (.tup [.str "name",.int 999]) (frT t x) S (frT t x) [] (.tup [.str "name",.int 999]) none))=_
 exact (cm false aZ (by kernel_rfl))
theorem vQ (ns:List Int):∃ st':List O,ac Γ 250 ym [.lst (ns.map .int)] [] = .ok (.bl true) st':=by
 obtain ⟨x,hx⟩:=lh ns 0 248 []
 obtain ⟨y,hy⟩:=lh ns 1 248 []
 have mx:=lZ (i:=x) (j:=6364136223846793005) (by decide)
 generalize hc:x * 6364136223846793005 % 1000000000039=cc at *
 obtain ⟨W,hW,nd,hw⟩:=y9 cc 248 []
 by_cases g:cc % 8=1
 ·obtain ⟨t,i1,c1,_,⟨⟨o,pz⟩,cn⟩,ht⟩:=um (ns:=ns) (b0:=y % 997) hW 2 3 249 (by decide) (by decide) [] 1 0 (by decide) (by decide)
  obtain ⟨w,hw',jw⟩:=rc hW (cc / 8)
  have h2:=pN o w (.lst (ns.map .int)) (.int cc) (.ref 0) (dS ns i1 (y % 997) W c1)
  have hd:exS Γ (ac Γ 249) (aj Γ 249) (hdS 2 bL.body) ⟨[some (.lst (ns.map .int)),none,none,none,none,none,none,none,none],[],[]⟩ = .nx ⟨[some (.lst (ns.map .int)),some (.int cc),some (.ref 0),some (frT t w).toD,none,none,none,none,none],[],dS ns i1 (y % 997) W c1⟩:=(bU false (aX 0 (hx) (aX 0 (mx) (aX 0 (iO hc (by decide)) (aX 0 (hy) (aX 0 (hw) (aX 2 (cL g) (aX 0 (ht) (aX 3 (jw) aZ)))))))) (by kernel_rfl))
  exact ⟨_,cX 2 bL rfl rfl hd h2⟩
 ·obtain ⟨t,i1,c1,_,⟨⟨o,pz⟩,cn⟩,ht⟩:=um (ns:=ns) (b0:=y % 997) hW 3 4 249 (by decide) (by decide) [] 1 0 (by decide) (by decide)
  have c99:c1≤997:=by unfold Cn at cn;omega
  have np:=apart pz (by omega)
  have lt:=yM pz c99
  have e8:=qG o (show 4≤8 by decide)
  rw [← e8] at np lt
  have iv:Iv W 999 t:=⟨o.mono (fun _ h=>h) (by decide),Pt.of o,np,fun x hx=>by have:=lt x hx;omega⟩
  have hT:(ai 8 t).length≤1000:=by
   have:=iQ (ai 8 t) ((Ñ 997).map Int.ofNat) np fun x hx=>by
    have:=lt x hx
    exact ϖ.mpr ⟨x.toNat,Ĥ.mpr (by omega),by show (x.toNat:Int)=x;omega⟩
   rw [Η,Ü] at this
   omega
  have rl:(rf 8 true t).length≤(ai 8 t).length:=iQ _ _ (uP np) fun x hx=>qM hx
  obtain ⟨out,h⟩:=w8 (rf 8 true t).length t [] 999 (Ο _) iv ⟨by simpa using rl,Di,fun _ _ h=>(by cases h),fun _ h=>(by cases h)⟩ (by omega)
  have h2:=pO iv.ok h hT (.lst (ns.map .int)) (.int cc) (.ref 0) (dS ns i1 (y % 997) W c1)
  have hd:exS Γ (ac Γ 249) (aj Γ 249) (hdS 2 bL.body) ⟨[some (.lst (ns.map .int)),none,none,none,none,none,none,none,none],[],[]⟩ = .nx ⟨[some (.lst (ns.map .int)),some (.int cc),some (.ref 0),some t.toD,none,none,none,none,none],[],dS ns i1 (y % 997) W c1⟩:=(bU false (aX 0 (hx) (aX 0 (mx) (aX 0 (iO hc (by decide)) (aX 0 (hy) (aX 0 (hw) (aX 2 (aE g) (aX 0 (ht) aZ))))))) (by kernel_rfl))
  exact ⟨_,cX 2 bL rfl rfl hd h2⟩
def ij (K:τ):Prop:=∃ C:Ε,uY K "BlameError" C∧NaL K C []
def oh (K:τ):Prop:=∃ C:Ε,uY K "NoPart" C∧NaL K C []
def og (K:τ):Prop:=∃ C fI:Ε,ry K "NoName" "NoName.__init__" (bW (top 3) 0) veB "ValueError.__new__" C fI∧NaL K C ["place"]
def mN (K:τ):Prop:=∃ C fI:Ε,ry K "TooDeep" "TooDeep.__init__" (bW (top 4) 0) veB "ValueError.__new__" C fI∧NaL K C ["place"]
def oj (K:τ):Prop:=∃ C fI:Ε,ry K "Parted" "Parted.__init__" (bW (top 5) 0) veB "ValueError.__new__" C fI∧NaL K C ["place","kind","by","wanted","way"]
def n9 (K:τ):Prop:=∃ C f0 f1 f2 f3 f4:Ε,xp K "Looker" C∧NaL K C ["kinds","wanted"]∧mK K C "__init__" "Looker.__init__" (bW (top 39) 0) f0∧mK K C "look" "Looker.look" (bW (top 39) 1) f1∧mK K C "hold" "Looker.hold" (bW (top 39) 2) f2∧mK K C "hold_choice" "Looker.hold_choice" (bW (top 39) 3) f3∧mK K C "want" "Looker.want" (bW (top 39) 4) f4
def mrl:List (ι×ι×Bool):=[("BlameError","Parted",false),("NoPart","Parted",false),("NoName","Parted",false),("TooDeep","Parted",false),("Parted","Parted",true),("BlameError","TooDeep",false),("NoPart","TooDeep",false),("NoName","TooDeep",false),("TooDeep","TooDeep",true),("Parted","TooDeep",false),("BlameError","NoName",false),("NoPart","NoName",false),("NoName","NoName",true),("TooDeep","NoName",false),("Parted","NoName",false)]
structure Txt (K:τ):Prop where
 fn:fj K fnl
 gl:GlL K gll
 tl:kf K tbl
 bl:NoL K T.bl
 mr:MrL K mrl
 bi_BlameError:∃ B,Ϗ K ύ "BlameError" = some (some (.ref B))∧jh K B
 x_BlameError:ij K
 x_NoPart:oh K
 x_NoName:og K
 x_TooDeep:mN K
 x_Parted:oj K
 x_Looker:n9 K
theorem tx:((((fnl.map fun p=>(p.1,p.1,p.2)) ++ mel).zip vrl).all fun p=>fnC p.1.2.2 && (fA { T with mu:=p.2.1,alt:=p.2.2.1,fc:=p.2.2.2.1,oc:=p.2.2.2.2 } p.1.2.2).isSome)=true:=by kernel_rfl
theorem uZ {P:ϱ} {w:Ð} {K:τ} {h:ϯ} {mg:ι→Option ζ} {fa:Ε} {os:CM} (Y:K.In h) (G:h.Ns ύ mg) (hfa:mg "law" = some (.ref fa)) (T':Txt K) :
 ∃ X:Cx,X.W.P=P∧X.W.w=w∧X.K=K∧X.mg=mg∧X.base=h∧X.os=os∧X.calm=true∧bz X (ac Γ 250) 252 39 fa:=by
 obtain ⟨ad,hF,hG⟩:=T'.fn.ad Y G
 obtain ⟨C_BlameError,Aq,na_BlameError⟩:=T'.x_BlameError
 obtain ⟨C_NoPart,Ar,na_NoPart⟩:=T'.x_NoPart
 obtain ⟨C_NoName,fi_NoName,Ao,na_NoName⟩:=T'.x_NoName
 obtain ⟨Ax,Fi_NoName⟩:=Ao.ini
 obtain ⟨C_TooDeep,fi_TooDeep,Am,na_TooDeep⟩:=T'.x_TooDeep
 obtain ⟨Aw,Fi_TooDeep⟩:=Am.ini
 obtain ⟨C_Parted,fi_Parted,Ap,na_Parted⟩:=T'.x_Parted
 obtain ⟨Ay,Fi_Parted⟩:=Ap.ini
 obtain ⟨C_Looker,a_Looker___init__,a_Looker_look,a_Looker_hold,a_Looker_hold_choice,a_Looker_want,Au,na_Looker,⟨⟨fd_Looker___init__,F_Looker___init__⟩,M_Looker___init__⟩,⟨⟨fd_Looker_look,F_Looker_look⟩,M_Looker_look⟩,⟨⟨fd_Looker_hold,F_Looker_hold⟩,M_Looker_hold⟩,⟨⟨fd_Looker_hold_choice,F_Looker_hold_choice⟩,M_Looker_hold_choice⟩,⟨⟨fd_Looker_want,F_Looker_want⟩,M_Looker_want⟩⟩:=T'.x_Looker
 let X:Cx:=⟨⟨P,w,[⟨C_BlameError,[]⟩,⟨C_NoPart,[]⟩,⟨C_NoName,["place"]⟩,⟨C_TooDeep,["place"]⟩,⟨C_Parted,["place","kind","by","wanted","way"]⟩,⟨C_Looker,["kinds","wanted"]⟩],[2,2,2,2,2,0]⟩,K,mg,h,os,Γ,fun _ _ _=>.bad,fun _ _ _=>.bad,ň,[],[],š "" (ao (top 0)) 0 0 .none,true⟩
 have hB_BlameError:∀ (b:ι) (c:List Nat),some (("BlameError":ι),c)=some (b,c)→∃ B,mg b=some (.ref B)∧jh K B:=fun b c e=>by cases e;obtain ⟨B,h1,h2⟩:=T'.bi_BlameError;exact ⟨B,Ä Y G h1,h2⟩
 have hM:FsL K mel [a_Looker___init__,a_Looker_look,a_Looker_hold,a_Looker_hold_choice,a_Looker_want]:=⟨⟨_,F_Looker___init__⟩,⟨_,F_Looker_look⟩,⟨_,F_Looker_hold⟩,⟨_,F_Looker_hold_choice⟩,⟨_,F_Looker_want⟩,trivial⟩
 have Av:dh X T.an 0 ⟨2,[],0,[],[],[]⟩ ⟨C_BlameError,[]⟩:=⟨rfl,(fun z=>ZX rfl z),na_BlameError.at,rfl,(show ([]:List ι)=List.map T.an [] by decide +kernel),(show ([]:List ι).Nodup by decide +kernel),fun _=>⟨Aq.fd,Aq.hh⟩⟩
 have AB:dh X T.an 1 ⟨2,[],0,[],[0],[]⟩ ⟨C_NoPart,[]⟩:=⟨rfl,(fun z=>ZX rfl z),na_NoPart.at,rfl,(show ([]:List ι)=List.map T.an [] by decide +kernel),(show ([]:List ι).Nodup by decide +kernel),fun _=>⟨Ar.fd,Ar.hh⟩⟩
 have AA:dh X T.an 2 ⟨2,[0],0,[],[0],[0]⟩ ⟨C_NoName,["place"]⟩:=⟨rfl,(fun z=>ZX rfl z),na_NoName.at,rfl,(show (["place"]:List ι)=List.map T.an [0] by decide +kernel),(show (["place"]:List ι).Nodup by decide +kernel),fun _=>⟨Ao.fd,Ao.hh⟩⟩
 have Az:dh X T.an 3 ⟨2,[0],0,[],[0],[0]⟩ ⟨C_TooDeep,["place"]⟩:=⟨rfl,(fun z=>ZX rfl z),na_TooDeep.at,rfl,(show (["place"]:List ι)=List.map T.an [0] by decide +kernel),(show (["place"]:List ι).Nodup by decide +kernel),fun _=>⟨Am.fd,Am.hh⟩⟩
 have AC:dh X T.an 4 ⟨2,[0,1,2,3,4],0,[],[0],[0,2]⟩ ⟨C_Parted,["place","kind","by","wanted","way"]⟩:=⟨rfl,(fun z=>ZX rfl z),na_Parted.at,rfl,(show (["place","kind","by","wanted","way"]:List ι)=List.map T.an [0,1,2,3,4] by decide +kernel),(show (["place","kind","by","wanted","way"]:List ι).Nodup by decide +kernel),fun _=>⟨Ap.fd,Ap.hh⟩⟩
 have At:dh X T.an 5 ⟨0,[5,3],40,[],[],[]⟩ ⟨C_Looker,["kinds","wanted"]⟩:=⟨rfl,fun _=>Au.cls,na_Looker.at,rfl,(show (["kinds","wanted"]:List ι)=List.map T.an [5,3] by decide +kernel),(show (["kinds","wanted"]:List ι).Nodup by decide +kernel),fun z=>ZX z (by decide)⟩
 have Pg:rx T X (ad ++ [a_Looker___init__,a_Looker_look,a_Looker_hold,a_Looker_hold_choice,a_Looker_want]) 1:=by
  refine ⟨rfl,fun j f e=>vw rfl rfl tx (hF.app hM) e,fun j x e=>?_,fun j x e=>?_,fun j x e=>?_,fun x e=>PySem.W.mg_none_of Y G (T'.bl.at x e),fun c k e=>?_,fun q e=>?_,fun j x e hz=>?_,fun j x e hz=>?_,fun j x e hz=>?_,fun j x e hz=>?_,fun j x e hz=>?_⟩
  ·obtain ⟨f,h1,h2⟩:=oq hG e
   exact ⟨f,Ψ (ο.mp h1).1 ▸ h1,h2⟩
  ·obtain ⟨d,u,h1,h2,h3⟩:=T'.gl.at e
   exact ⟨d,u,h1,Ä Y G h2,h3⟩
  ·obtain ⟨t,a,h1,h2,h3⟩:=T'.tl.at e
   exact ⟨t,a,h1,Ä Y G h2,h3⟩
  ·exact dj (P:=fun (c:Nat) (k:Cl)=>∃ i,dh X T.an c k i) (show eh _ 0 Γ.cl from ⟨⟨_,Av⟩,⟨_,AB⟩,⟨_,AA⟩,⟨_,Az⟩,⟨_,AC⟩,⟨_,At⟩,trivial⟩) e
  ·obtain ⟨i,e⟩:=ϓ.mp e
   exact dj (P:=fun (_:Nat) (q:ι×Nat×Nat)=>∃ f,(ad ++ [a_Looker___init__,a_Looker_look,a_Looker_hold,a_Looker_hold_choice,a_Looker_want])[q.2.2]? = some f∧mL X T.an q.1 q.2.1 f) (show eh _ 0 T.me from ⟨⟨a_Looker_look,fq (n:=40) (k:=1) hF.len,⟨_,_,rfl,At,rfl,M_Looker_look,(show ("look":ι) ∉ (["kinds","wanted"]:List ι) by decide +kernel)⟩⟩,⟨a_Looker_hold,fq (n:=40) (k:=2) hF.len,⟨_,_,rfl,At,rfl,M_Looker_hold,(show ("hold":ι) ∉ (["kinds","wanted"]:List ι) by decide +kernel)⟩⟩,⟨a_Looker_hold_choice,fq (n:=40) (k:=3) hF.len,⟨_,_,rfl,At,rfl,M_Looker_hold_choice,(show ("hold_choice":ι) ∉ (["kinds","wanted"]:List ι) by decide +kernel)⟩⟩,⟨a_Looker_want,fq (n:=40) (k:=4) hF.len,⟨_,_,rfl,At,rfl,M_Looker_want,(show ("want":ι) ∉ (["kinds","wanted"]:List ι) by decide +kernel)⟩⟩,trivial⟩) e
  ·exact dj (P:=fun (j:Nat) (x:ι)=>x≠("":ι)→∃ f i cl,(ad ++ [a_Looker___init__,a_Looker_look,a_Looker_hold,a_Looker_hold_choice,a_Looker_want])[cl.init]? = some f∧Mk K i.ad f∧Γ.cl[j]? = some cl∧cl.what=0∧X.W.ci[j]? = some i∧X.W.what[j]? = some 0∧mg x=some (.ref i.ad)) (show eh _ 0 T.nw from ⟨(fun z=>ZX rfl z),(fun z=>ZX rfl z),(fun z=>ZX rfl z),(fun z=>ZX rfl z),(fun z=>ZX rfl z),(fun _=>⟨a_Looker___init__,⟨C_Looker,_⟩,_,fq (n:=40) (k:=0) hF.len,⟨Au.mks,M_Looker___init__.at_,M_Looker___init__.fn,Au.kp⟩,rfl,rfl,rfl,rfl,Ä Y G Au.a⟩),trivial⟩) e hz
  ·exact dj (P:=fun (j:Nat) (x:ι)=>x≠("":ι)→∃ f fd ps i cl,FnI X 1 f fd ps i.nm none∧bS K fd ps []∧Mk K i.ad f∧Cls K i.ad∧(∀ f∈i.nm,cK K i.ad f)∧Γ.cl[j]? = some cl∧X.W.ci[j]? = some i∧X.W.what[j]? = some 1∧i.nm.length=cl.at_.length∧mg x=some (.ref i.ad)) (show eh _ 0 T.nd from ⟨(fun z=>ZX rfl z),(fun z=>ZX rfl z),(fun z=>ZX rfl z),(fun z=>ZX rfl z),(fun z=>ZX rfl z),(fun z=>ZX rfl z),trivial⟩) e hz
  ·exact dj (P:=fun (j:Nat) (x:ι)=>x≠("":ι)→∃ (k:Cl) (i:CI) (fI:Ε) (fd:ù) (ps:List ι) (Bx nwI iniI:String) (bmB:List ζ),ė Bx nwI iniI bmB∧gq K i.ad fI bmB nwI∧FnJ X 1 fI fd ps i.nm k i.ad∧bS K fd ps []∧fi K i.ad∧(∀ f∈i.nm,Λ K (.ref i.ad) f=some none)∧Γ.cl[j]? = some k∧X.W.ci[j]? = some i∧X.W.what[j]? = some 2∧i.nm.length=k.at_.length∧Ϝ K i.ad (.type "BaseException")=some true∧ò K (.ref i.ad)=some (.type "type")∧Ϟ K (.ref i.ad)=true∧mg x=some (.ref i.ad)∧k.at_.isEmpty=false) (show eh _ 0 T.ex from ⟨(fun z=>ZX rfl z),(fun z=>ZX rfl z),(fun _=>⟨_,⟨C_NoName,_⟩,fi_NoName,Ax,_,_,_,_,_,ô,Ao.own,⟨_,(ey (X:=X) (nm:=["place"]) (some ("BlameError",[0])) Fi_NoName (by kernel_rfl) fun b c e=>hB_BlameError b c (by cases e;rfl)).1,.inr ⟨rfl,Ao.own⟩⟩,(ey (X:=X) (nm:=["place"]) (some ("BlameError",[0])) Fi_NoName (by kernel_rfl) fun b c e=>hB_BlameError b c (by cases e;rfl)).2,Ao.st,na_NoName.at,rfl,rfl,rfl,rfl,Ao.fd.be,Ao.ec.ty,Ao.kp,Ä Y G Ao.a,rfl⟩),(fun _=>⟨_,⟨C_TooDeep,_⟩,fi_TooDeep,Aw,_,_,_,_,_,ô,Am.own,⟨_,(ey (X:=X) (nm:=["place"]) (some ("BlameError",[0])) Fi_TooDeep (by kernel_rfl) fun b c e=>hB_BlameError b c (by cases e;rfl)).1,.inr ⟨rfl,Am.own⟩⟩,(ey (X:=X) (nm:=["place"]) (some ("BlameError",[0])) Fi_TooDeep (by kernel_rfl) fun b c e=>hB_BlameError b c (by cases e;rfl)).2,Am.st,na_TooDeep.at,rfl,rfl,rfl,rfl,Am.fd.be,Am.ec.ty,Am.kp,Ä Y G Am.a,rfl⟩),(fun _=>⟨_,⟨C_Parted,_⟩,fi_Parted,Ay,_,_,_,_,_,ô,Ap.own,⟨_,(ey (X:=X) (nm:=["place","kind","by","wanted","way"]) (some ("BlameError",[0,2])) Fi_Parted (by kernel_rfl) fun b c e=>hB_BlameError b c (by cases e;rfl)).1,.inr ⟨rfl,Ap.own⟩⟩,(ey (X:=X) (nm:=["place","kind","by","wanted","way"]) (some ("BlameError",[0,2])) Fi_Parted (by kernel_rfl) fun b c e=>hB_BlameError b c (by cases e;rfl)).2,Ap.st,na_Parted.at,rfl,rfl,rfl,rfl,Ap.fd.be,Ap.ec.ty,Ap.kp,Ä Y G Ap.a,rfl⟩),(fun z=>ZX rfl z),trivial⟩) e hz
  ·exact dj (P:=fun (j:Nat) (x:ι)=>x≠("":ι)→n7 X j x) (show eh _ 0 T.hx from ⟨(fun z=>ZX rfl z),(fun z=>ZX rfl z),(fun _=>⟨⟨C_NoName,_⟩,rfl,Ä Y G Ao.a,Ao.ec,fun c k ic h1 h2 h3=>dj (P:=fun (c:Nat) (k:Cl)=>∀ ic,X.W.ci[c]? = some ic→X.W.what[c]? = some 2→Ϝ K ic.ad (.ref C_NoName)=some (c == 2 || k.sup.contains 2)) (show eh _ 0 Γ.cl from ⟨(fun _ e _=>by cases e;exact T'.mr.at (by decide +kernel) Aq.a Ao.a),(fun _ e _=>by cases e;exact T'.mr.at (by decide +kernel) Ar.a Ao.a),(fun _ e _=>by cases e;exact T'.mr.at (by decide +kernel) Ao.a Ao.a),(fun _ e _=>by cases e;exact T'.mr.at (by decide +kernel) Am.a Ao.a),(fun _ e _=>by cases e;exact T'.mr.at (by decide +kernel) Ap.a Ao.a),(fun _ _ z=>ZX z (by show some 0≠some 2;decide)),trivial⟩) h1 ic h2 h3⟩),(fun _=>⟨⟨C_TooDeep,_⟩,rfl,Ä Y G Am.a,Am.ec,fun c k ic h1 h2 h3=>dj (P:=fun (c:Nat) (k:Cl)=>∀ ic,X.W.ci[c]? = some ic→X.W.what[c]? = some 2→Ϝ K ic.ad (.ref C_TooDeep)=some (c == 3 || k.sup.contains 3)) (show eh _ 0 Γ.cl from ⟨(fun _ e _=>by cases e;exact T'.mr.at (by decide +kernel) Aq.a Am.a),(fun _ e _=>by cases e;exact T'.mr.at (by decide +kernel) Ar.a Am.a),(fun _ e _=>by cases e;exact T'.mr.at (by decide +kernel) Ao.a Am.a),(fun _ e _=>by cases e;exact T'.mr.at (by decide +kernel) Am.a Am.a),(fun _ e _=>by cases e;exact T'.mr.at (by decide +kernel) Ap.a Am.a),(fun _ _ z=>ZX z (by show some 0≠some 2;decide)),trivial⟩) h1 ic h2 h3⟩),(fun _=>⟨⟨C_Parted,_⟩,rfl,Ä Y G Ap.a,Ap.ec,fun c k ic h1 h2 h3=>dj (P:=fun (c:Nat) (k:Cl)=>∀ ic,X.W.ci[c]? = some ic→X.W.what[c]? = some 2→Ϝ K ic.ad (.ref C_Parted)=some (c == 4 || k.sup.contains 4)) (show eh _ 0 Γ.cl from ⟨(fun _ e _=>by cases e;exact T'.mr.at (by decide +kernel) Aq.a Ap.a),(fun _ e _=>by cases e;exact T'.mr.at (by decide +kernel) Ar.a Ap.a),(fun _ e _=>by cases e;exact T'.mr.at (by decide +kernel) Ao.a Ap.a),(fun _ e _=>by cases e;exact T'.mr.at (by decide +kernel) Am.a Ap.a),(fun _ e _=>by cases e;exact T'.mr.at (by decide +kernel) Ap.a Ap.a),(fun _ _ z=>ZX z (by show some 0≠some 2;decide)),trivial⟩) h1 ic h2 h3⟩),(fun z=>ZX rfl z),trivial⟩) e hz
  ·exact dj (P:=fun (j:Nat) (x:ι)=>x≠("":ι)→RtP X j x) (show eh _ 0 T.xt from ⟨(fun z=>ZX rfl z),(fun z=>ZX rfl z),(fun z=>ZX rfl z),(fun z=>ZX rfl z),(fun z=>ZX rfl z),(fun z=>ZX rfl z),trivial⟩) e hz
 obtain ⟨f,h1,h2⟩:=oq hG (j:=39) (x:="law") rfl
 rw [hfa] at h2
 cases h2
 exact ⟨X,rfl,rfl,rfl,rfl,rfl,rfl,rfl,iX Pg 250 39 fa (Ψ (ο.mp h1).1 ▸ h1)⟩
theorem walk {l:Cv} {q:ϱ} {loose:List ι} {XP:(ι→Option ζ)→ϯ→Prop} {YP:Ð→ϯ→Prop} {d:DefRec} {K:Params→τ} (hn:l.most=some 63) (hdf:d.params.defaults = []) (hd:d.name = "law")
 (hY:∀ (w:Ð) (h:ϯ),YP w h→(K w.params).In h) (F:∀ (w:Ð) (h:ϯ) (Y:(K w.params).In h),Txt (KOf Y)):CW q loose XP YP l.row.toRowW d [] (fun f vs=>Cg f vs):=
 tQ (n:=63) hn (by decide) hdf ⟨rfl,by decide,by decide⟩ hY (fun w mg fa h os Y G e md=>uZ Y G (hd ▸ e) (F w h Y)) (fun ns _=>vQ ns)
end L2.K87
end
section
open PySem PySem.W PyProof.Rows
namespace PySem.W.Fast
def tw12197734770522062329:Nat:=0
def tw11774295101142439440:Nat:=0
def tw3979447908342975797:Nat:=0
def tw14332217892524904490:Nat:=0
def tw5270980961447387637:Nat:=0
def tw5626404390836037793:Nat:=0
def tw9798699029542462320:Nat:=0
def tw3604810600506801484:Nat:=0
def tw743033888502243253:Nat:=0
def tw9581359664520026667:Nat:=0
def tw3219701227303213503:Nat:=0
def tw17218292853431069663:Nat:=0
def tw8032919167502723211:Nat:=0
def tw15324849283779734878:Nat:=0
def tw14113288929095406318:Nat:=0
def tw1341493211247843027:Nat:=0
def tw16358742924594957812:Nat:=0
def tw638407472886925597:Nat:=0
def tw14868635726376070391:Nat:=0
def tw11115763850117739647:Nat:=0
def tw9428954152023526570:Nat:=0
def tw1526516887691765925:Nat:=0
def tw15657512995032366125:Nat:=0
def tw18304517729732971707:Nat:=0
def tw16397326739177955216:Nat:=0
def tw9905472318428818251:Nat:=0
def tw13482444050278895580:Nat:=0
def tw4670503182188177983:Nat:=0
def tw11698578912198229545:Nat:=0
def tw12148112530392074410:Nat:=0
def tw11363206579337103302:Nat:=0
def tw209524490330921621:Nat:=0
def tw3370236763222209986:Nat:=0
def tw14144941030542744505:Nat:=0
def tw4579748955284837439:Nat:=0
def tw7153730466948506278:Nat:=0
def tw57589712345474477:Nat:=0
def tw13307416676824487678:Nat:=0
def tw14965573959469964701:Nat:=0
def tw16480934939003850284:Nat:=0
def tw2298720544944586658:Nat:=0
def tw12615050551603103101:Nat:=0
def tw10715201689552358348:Nat:=0
def tw12313314063818383172:Nat:=0
def tw6420615846614216104:Nat:=0
def tw1525521582806957918:Nat:=0
def tw364232918895720573:Nat:=0
def tw10228381366173284227:Nat:=0
def tw1099899758164606883:Nat:=0
def tw10751880246172026034:Nat:=0
def tw18396387770142579630:Nat:=0
def tw4494922562343119172:Nat:=0
def tw488674061678589127:Nat:=0
def tw2059273940319156712:Nat:=0
def tw4098895095173468786:Nat:=0
def tw13149160607177471342:Nat:=0
def tw7062877696334507167:Nat:=0
def tw15982246594621081463:Nat:=0
def tw10491977178846788899:Nat:=0
def tw3487238286333970105:Nat:=0
def tw3568998596755817282:Nat:=0
def tw1587036908006834770:Nat:=0
def tw1390034907734734553:Nat:=0
def tw11431243601071616660:Nat:=0
def tw9820952660541685279:Nat:=0
def tw3123657615767295813:Nat:=0
def tw10502097833514331014:Nat:=0
def tw6752939794344568398:Nat:=0
def tw8663241483216233134:Nat:=0
def tw2331466154432474218:Nat:=0
def tw2832375460322750971:Nat:=0
def tw6405375764108049773:Nat:=0
def tw7235666941142907601:Nat:=0
def tw10398569873709394383:Nat:=0
def tw2017572742904500056:Nat:=0
def tw16685723146053691250:Nat:=0
def tw5357178599743614462:Nat:=0
def tw15330235248315198182:Nat:=0
def tw3734716382796769148:Nat:=0
def tw22338285383887850:Nat:=0
def tw2487810433675148003:Nat:=0
def tw4568069829034578166:Nat:=0
def tw15682919069432756726:Nat:=0
def tw11902054190570254509:Nat:=0
def tw10722983053075346519:Nat:=0
def tw16876015554142583955:Nat:=0
def tw4713020413974595522:Nat:=0
def tw6065768626330006857:Nat:=0
def tw6169648255563794602:Nat:=0
def tw8286896085649204110:Nat:=0
def tw16987768136290820883:Nat:=0
def tw17207123396955988751:Nat:=0
def tw10602442184049999257:Nat:=0
def tw10424418672933333494:Nat:=0
def tw9405327391877174580:Nat:=0
def tw13936589756731393940:Nat:=0
def tw17756990185435038066:Nat:=0
def tw10840231261133529622:Nat:=0
def tw15808525760751990320:Nat:=0
def tw15834103839776516911:Nat:=0
def tw14127056199643651229:Nat:=0
def tw17084229233629893320:Nat:=0
def tw8785990889068141932:Nat:=0
def tw2970585636715534560:Nat:=0
def tw7984390943563492092:Nat:=0
def tw14396110292571880143:Nat:=0
def tw939861647375799019:Nat:=0
def tw6533644130178624471:Nat:=0
def tw5777574236300232203:Nat:=0
def tw2578353900529450846:Nat:=0
def tw8812671335624200147:Nat:=0
def tw1392104579945037310:Nat:=0
def tw12024827979068382011:Nat:=0
def tw2376525152863256388:Nat:=0
def tw12443704671727940012:Nat:=0
def tw1950706817927924676:Nat:=0
def tw18271161882575862017:Nat:=0
def tw12866337220978895985:Nat:=0
def tw163214471123290080:Nat:=0
def tw5231984950005286313:Nat:=0
def tw13677078035230739099:Nat:=0
def tw1002889392030818913:Nat:=0
def tw13025749935544416798:Nat:=0
def tw14140107187676419703:Nat:=0
def tw2098766863407439470:Nat:=0
def tw15914016067936414886:Nat:=0
def tw4775284055677930188:Nat:=0
def tw13312567767194069909:Nat:=0
def tw17333594709789537366:Nat:=0
def tw1812200873312208507:Nat:=0
def tw17804254372460426345:Nat:=0
def tw3704738423380167912:Nat:=0
def tw4449135063444575736:Nat:=0
def tw13491722469332951618:Nat:=0
def tw1781424002645113817:Nat:=0
def tw16597929947652100416:Nat:=0
def tw9821894869918007029:Nat:=0
def tw16236904892795484088:Nat:=0
def tw15604782635645259084:Nat:=0
def tw11072109200113328836:Nat:=0
def tw165800943642763608:Nat:=0
def tw1892346342787029667:Nat:=0
def tw5347016085417655693:Nat:=0
def tw2744154239569203839:Nat:=0
def tw12940560415712872381:Nat:=0
def tw12465237176654214637:Nat:=0
def tw3824774485143083142:Nat:=0
def tw18137671228592286304:Nat:=0
def tw16091245524422002483:Nat:=0
def tw2406527302467131508:Nat:=0
def tw11579450594821386533:Nat:=0
def tw13080481246687085284:Nat:=0
def tw7588698986548541665:Nat:=0
def tw6712052401799108181:Nat:=0
def tw5250515820233442623:Nat:=0
def tw3568500769006569745:Nat:=0
def tw3302810196095532259:Nat:=0
def tw2277202018129976456:Nat:=0
def tw15803940611891632551:Nat:=0
def tw13018712154102786451:Nat:=0
def tw1877774451781030189:Nat:=0
def tw9226207540657118263:Nat:=0
def tw5003424630410174397:Nat:=0
def tw18211518623637059538:Nat:=0
def tw12885951193421965464:Nat:=0
def tw11234193773697781133:Nat:=0
def tw4082682353091275440:Nat:=0
def tw15764088786897765587:Nat:=0
def tw6615577946631729550:Nat:=0
def tw17283372136790653480:Nat:=0
def tw9318721826680466627:Nat:=0
def tw17502336000583851910:Nat:=0
def tw9659301226006020059:Nat:=0
def tw4509931289798848160:Nat:=0
def tw16000255391242918895:Nat:=0
def tw14831527870252599764:Nat:=0
def tw10798528407954476352:Nat:=0
def tw951869880880819957:Nat:=0
def tw5565064946898461024:Nat:=0
def tw6817744099175253114:Nat:=0
def tw6174178112016979197:Nat:=0
def tw2975869953951268964:Nat:=0
def tw16687032963792433052:Nat:=0
def tw12928575881005727371:Nat:=0
def tw17381217213000731449:Nat:=0
def tw9132501309386567057:Nat:=0
def tw18382794688335862343:Nat:=0
def tw17318154995058905237:Nat:=0
def tw8248187998185937295:Nat:=0
def tw6562438096430645682:Nat:=0
def tw6372716230920378573:Nat:=0
def tw4744237980034661396:Nat:=0
def tw16522510667177552391:Nat:=0
def tw15784309545517897188:Nat:=0
def tw1565893669232073119:Nat:=0
def tw8765761451684417589:Nat:=0
def tw7304865558453157113:Nat:=0
def tw12018917104867518935:Nat:=0
def tw16407080330617674072:Nat:=0
def tw857645853575817063:Nat:=0
def tw7243341417124977361:Nat:=0
def tw5592539569470767917:Nat:=0
def tw3181305672592437514:Nat:=0
def tw12284823111029331915:Nat:=0
def tw11729224196230470479:Nat:=0
def tw16039327626238153609:Nat:=0
def tw14810875648470577856:Nat:=0
def tw14472631326688252866:Nat:=0
def tw9265541427491622695:Nat:=0
def tw17950409329842087965:Nat:=0
def tw15961747482820079703:Nat:=0
def tw334634325013641200:Nat:=0
def tw2799438809069578891:Nat:=0
def tw1564424768407157594:Nat:=0
def tw924529809697765894:Nat:=0
def tw8694313680021862525:Nat:=0
def tw8359931022917115717:Nat:=0
def tw8314446307493264313:Nat:=0
def tw8196426546515229552:Nat:=0
def tw8023589983646716174:Nat:=0
def tw7530027087085857274:Nat:=0
def tw6623240796890481061:Nat:=0
def tw6418924651053699820:Nat:=0
def tw5757413033090958642:Nat:=0
def tw4430138467453962247:Nat:=0
def tw4202154805084790083:Nat:=0
def tw3979127394371421828:Nat:=0
def tw3503168441537649321:Nat:=0
def tw301913450009130667:Nat:=0
def tw2983936067923945263:Nat:=0
def tw2433231954193380690:Nat:=0
def tw2389200687095901646:Nat:=0
def tw1967790871746665394:Nat:=0
def tw17627345834989741792:Nat:=0
def tw17254581339756409726:Nat:=0
def tw16993903115917209647:Nat:=0
def tw16188926258537828803:Nat:=0
def tw15173676430467122388:Nat:=0
def tw15011680729426321218:Nat:=0
def tw14095684938532689585:Nat:=0
def tw14011850485128797611:Nat:=0
def tw11917761313005423253:Nat:=0
def tw10499598054391300645:Nat:=0
def tw10151153219220024903:Nat:=0
def tw10014330188039003429:Nat:=0
def tw10005658640677248293:Nat:=0
def tw15041568355579292436:Nat:=0
def tw3001124224697404432:Nat:=0
def tw17959253988538175514:Nat:=0
def tw17720291939535742958:Nat:=0
def tw14344228464850011094:Nat:=0
def tw7843051210729868672:Nat:=0
def tw14966171330057790509:Nat:=0
def tw12579489815423541223:Nat:=0
def tw18430392465555170929:Nat:=0
def tw8666111925230459724:Nat:=0
def tw6359855439599573765:Nat:=0
def tw5910871730324619944:Nat:=0
def tw2222867453797802175:Nat:=0
def tw17814888801009967735:Nat:=0
def tw16974748299361957536:Nat:=0
def tw15265334252023697912:Nat:=0
def tw13664463986617277930:Nat:=0
def tw12549232844937810113:Nat:=0
def tw11849445002306273606:Nat:=0
def tw11793621553743467108:Nat:=0
def tw11368455989223898533:Nat:=0
def tw10512600545077329474:Nat:=0
def tw12497679624255116624:Nat:=0
def tw3782131337255264522:Nat:=0
def tw5391139851574660243:Nat:=0
def tw13443090438224389696:Nat:=0
def tw3461783304449215019:Nat:=0
def tw15885757429337335184:Nat:=0
def tw6038140996897262816:Nat:=0
def tw3054743608464049855:Nat:=0
def tw15012500399749837462:Nat:=0
def tw12821860627094193147:Nat:=0
def tw12048048858160811898:Nat:=0
def tw9422112413520863673:Nat:=0
def tw4811827503472456004:Nat:=0
def tw10426066065165613987:Nat:=0
def tw866476096764687393:Nat:=0
def tw1046998422647956088:Nat:=0
def tw9442695095335486332:Nat:=0
def tw9285010595866106726:Nat:=0
def tw8869068931586330344:Nat:=0
def tw7589935942322066143:Nat:=0
def tw7556335106507636213:Nat:=0
def tw7441706404565574993:Nat:=0
def tw6936806595242143719:Nat:=0
def tw6778049913789277776:Nat:=0
def tw6569225038120823132:Nat:=0
def tw6312171883688403316:Nat:=0
def tw6277260628827064702:Nat:=0
def tw5442637897456006539:Nat:=0
def tw5081374866785061088:Nat:=0
def tw478738649913888747:Nat:=0
def tw4205057968295552814:Nat:=0
def tw3479038307270896690:Nat:=0
def tw2330188647749554634:Nat:=0
def tw18215150471900406075:Nat:=0
def tw17921403422766497114:Nat:=0
def tw17657648140404814979:Nat:=0
def tw17497190430930246452:Nat:=0
def tw1738175546149576531:Nat:=0
def tw16207623592677123732:Nat:=0
def tw16162301017523671965:Nat:=0
def tw15688645133695763223:Nat:=0
def tw15551423925788478145:Nat:=0
def tw15355336912761421586:Nat:=0
def tw14094095788296522557:Nat:=0
def tw13840346926074411224:Nat:=0
def tw13496527209987029476:Nat:=0
def tw12560790958910300345:Nat:=0
def tw1084012049894461189:Nat:=0
def tw10320250258826767748:Nat:=0
def tw10164816933820813398:Nat:=0
def tw3111410853576175448:Nat:=0
def tw17820997946109696825:Nat:=0
def tw9252439164054307289:Nat:=0
def tw4492578406153854173:Nat:=0
def tw2888270267538277767:Nat:=0
def tw13562657422537309198:Nat:=0
def tw12869627343406763562:Nat:=0
def tw17952538562893224384:Nat:=0
def tw17054760729258958693:Nat:=0
def tw16451964561675547554:Nat:=0
def tw7290878982527681372:Nat:=0
def tw7181503052403698723:Nat:=0
def tw3427636982433665822:Nat:=0
def tw17558227600030415428:Nat:=0
def tw14900344985149336864:Nat:=0
def tw11962600986751976258:Nat:=0
def tw11650781744244339807:Nat:=0
def tw11558655197202684997:Nat:=0
def tw8850485338553236042:Nat:=0
def tw721439438039848430:Nat:=0
def tw6152526445800385538:Nat:=0
def tw5412682163003920729:Nat:=0
def tw2926300018138349045:Nat:=0
def tw2193332086059886827:Nat:=0
def tw18408546928986022256:Nat:=0
def tw15291803775127520603:Nat:=0
def tw13290510690475580066:Nat:=0
def tw12850282816785913138:Nat:=0
def tw11958118331801187494:Nat:=0
def tw8389795163206654608:Nat:=0
def tw16878710421095932947:Nat:=0
def tw9865386561517782647:Nat:=0
def tw9464604171671413763:Nat:=0
def tw9430078602999452560:Nat:=0
def tw926917381652486483:Nat:=0
def tw9220015398379172191:Nat:=0
def tw889292039750844871:Nat:=0
def tw8699695838543095876:Nat:=0
def tw8388978446447538164:Nat:=0
def tw828348365673634067:Nat:=0
def tw7332695723871772571:Nat:=0
def tw7201975340600019353:Nat:=0
def tw7160402491930220987:Nat:=0
def tw7141150202386459146:Nat:=0
def tw7126150839216117498:Nat:=0
def tw7104914032586411533:Nat:=0
def tw7101297754085560688:Nat:=0
def tw7052603428626435837:Nat:=0
def tw6654155954421934275:Nat:=0
def tw6630233463185226921:Nat:=0
def tw6530770596763465778:Nat:=0
def tw6289735983290838861:Nat:=0
def tw6137902159936650197:Nat:=0
def tw576242590968126388:Nat:=0
def tw5657078080981137813:Nat:=0
def tw5332394562851955328:Nat:=0
def tw5154339855902763525:Nat:=0
def tw4837290027998038876:Nat:=0
def tw4811811942719840937:Nat:=0
def tw4663098595242446892:Nat:=0
def tw4601924271156068108:Nat:=0
def tw4546550181617048266:Nat:=0
def tw4475616620817991251:Nat:=0
def tw3990847037566431075:Nat:=0
def tw3944064359774285884:Nat:=0
def tw3902368506772526417:Nat:=0
def tw3532060875573705976:Nat:=0
def tw345856057052262876:Nat:=0
def tw3067304606661247719:Nat:=0
def tw2855142955392541774:Nat:=0
def tw2846940023240994502:Nat:=0
def tw2531224362677850446:Nat:=0
def tw2226783783995624825:Nat:=0
def tw2172689060680971143:Nat:=0
def tw2082881829544732381:Nat:=0
def tw17989102827736228668:Nat:=0
def tw17683749817861575770:Nat:=0
def tw17492394696656162102:Nat:=0
def tw17473588914942775618:Nat:=0
def tw1738711574336286523:Nat:=0
def tw17169808356904576974:Nat:=0
def tw1708174539858578149:Nat:=0
end PySem.W.Fast
set_option maxRecDepth 100000 in
set_option maxHeartbeats 0 in
theorem PySem.Challenge.cw_blamewise_k87_softened_holds : PySem.Challenge.rw_blamewise_k87_softened.Holds := by
 w_on;o_law;k_head;(case hw=>w_witness2)
 k_fill
 refine L2.K87.walk (l:=PySem.Challenge.rw_blamewise_k87_softened) rfl rfl rfl (fun w h Y=>PySem.W.kIn_of Y) ?F
 case F=>
  intro w h KX
  dsimp only [L2.Ev.KOf]
  refine' L2.K87.Txt.mk ?fn ?gl ?tl ?bl ?mr ?bi_BlameError ?x_BlameError ?x_NoPart ?x_NoName ?x_TooDeep ?x_Parted ?x_Looker
  (case fn=>(repeat (apply L2.Ev.hl_cons;(case a=>k_is);(case l=>k_is);(case c=>k_is);(case k=>k_is)));exact trivial)
  (case gl=>(repeat (apply L2.Ev.gl_cons;(case a=>k_is);(case b=>kernel_rfl)));exact trivial)
  (case tl=>(repeat (apply L2.Ev.tb_cons;(case a=>k_is);(case b=>kernel_rfl)));exact trivial)
  (case bl=>(repeat (apply L2.Ev.nl_cons;(case a=>k_is)));exact trivial)
  (case mr=>(repeat (apply L2.Ev.mr_cons;(case a=>k_is);(case b=>k_is);(case c=>k_is)));exact trivial)
  (case bi_BlameError=>(refine' ⟨_,?bi0,?bi1,?bi2,?bi3⟩;(case bi0=>k_is);(case bi1=>k_is);(case bi2=>k_is);(case bi3=>k_is)))
  (case x_BlameError=>(refine' ⟨_,L2.Ev.xb_mk ?a ?ga ?gn ?cl ?sg ?tk ?ob ?be ?is ?tyC ?hh,trivial⟩;(case a=>k_is);(case ga=>k_is);(case gn=>k_is);(case cl=>k_is);(case sg=>k_is);(case tk=>k_is);(case ob=>k_is);(case be=>k_is);(case is=>kernel_rfl);(case tyC=>k_is);(case hh=>k_is)))
  (case x_NoPart=>(refine' ⟨_,L2.Ev.xb_mk ?a ?ga ?gn ?cl ?sg ?tk ?ob ?be ?is ?tyC ?hh,trivial⟩;(case a=>k_is);(case ga=>k_is);(case gn=>k_is);(case cl=>k_is);(case sg=>k_is);(case tk=>k_is);(case ob=>k_is);(case be=>k_is);(case is=>kernel_rfl);(case tyC=>k_is);(case hh=>k_is)))
  (case x_NoName=>(refine' ⟨_,_,L2.Ev.xc_mk ?a ?l ?t ?ini ?fl ?fn ?fc ?fk ?ga ?gn ?cl ?sg ?tk ?ob ?be ?is ?kp ?tyC ?sa ?ov ?hdc ?hh ?me,?n0,trivial⟩;(case a=>k_is);(case l=>k_is);(case t=>kernel_rfl);(case ini=>k_is);(case fl=>k_is);(case fn=>k_is);(case fc=>k_is);(case fk=>k_is);(case ga=>k_is);(case gn=>k_is);(case cl=>k_is);(case sg=>k_is);(case tk=>k_is);(case ob=>k_is);(case be=>k_is);(case is=>kernel_rfl);(case kp=>k_is);(case tyC=>k_is);(case sa=>k_is);(case ov=>kernel_rfl);(case hdc=>kernel_rfl);(case hh=>k_is);(case me=>k_is);(case n0=>k_is)))
  (case x_TooDeep=>(refine' ⟨_,_,L2.Ev.xc_mk ?a ?l ?t ?ini ?fl ?fn ?fc ?fk ?ga ?gn ?cl ?sg ?tk ?ob ?be ?is ?kp ?tyC ?sa ?ov ?hdc ?hh ?me,?n0,trivial⟩;(case a=>k_is);(case l=>k_is);(case t=>kernel_rfl);(case ini=>k_is);(case fl=>k_is);(case fn=>k_is);(case fc=>k_is);(case fk=>k_is);(case ga=>k_is);(case gn=>k_is);(case cl=>k_is);(case sg=>k_is);(case tk=>k_is);(case ob=>k_is);(case be=>k_is);(case is=>kernel_rfl);(case kp=>k_is);(case tyC=>k_is);(case sa=>k_is);(case ov=>kernel_rfl);(case hdc=>kernel_rfl);(case hh=>k_is);(case me=>k_is);(case n0=>k_is)))
  (case x_Parted=>(refine' ⟨_,_,L2.Ev.xc_mk ?a ?l ?t ?ini ?fl ?fn ?fc ?fk ?ga ?gn ?cl ?sg ?tk ?ob ?be ?is ?kp ?tyC ?sa ?ov ?hdc ?hh ?me,?n0,?n1,?n2,?n3,?n4,trivial⟩;(case a=>k_is);(case l=>k_is);(case t=>kernel_rfl);(case ini=>k_is);(case fl=>k_is);(case fn=>k_is);(case fc=>k_is);(case fk=>k_is);(case ga=>k_is);(case gn=>k_is);(case cl=>k_is);(case sg=>k_is);(case tk=>k_is);(case ob=>k_is);(case be=>k_is);(case is=>kernel_rfl);(case kp=>k_is);(case tyC=>k_is);(case sa=>k_is);(case ov=>kernel_rfl);(case hdc=>kernel_rfl);(case hh=>k_is);(case me=>k_is);(case n0=>k_is);(case n1=>k_is);(case n2=>k_is);(case n3=>k_is);(case n4=>k_is)))
  (case x_Looker=>(refine' ⟨_,_,_,_,_,_,L2.Ev.cc_mk ?a ?pg ?hd ?po ?sa ?mk ?kp,⟨?n0,?n1,trivial⟩,L2.Ev.me_mk ?at0 ?fl0 ?fn0 ?fc0 ?fk0,L2.Ev.me_mk ?at1 ?fl1 ?fn1 ?fc1 ?fk1,L2.Ev.me_mk ?at2 ?fl2 ?fn2 ?fc2 ?fk2,L2.Ev.me_mk ?at3 ?fl3 ?fn3 ?fc3 ?fk3,L2.Ev.me_mk ?at4 ?fl4 ?fn4 ?fc4 ?fk4⟩;(case a=>k_is);(case pg=>k_is);(case hd=>k_is);(case po=>k_is);(case sa=>k_is);(case mk=>k_is);(case kp=>k_is);(case n0=>k_is);(case n1=>k_is);(case at0=>k_is);(case fl0=>k_is);(case fn0=>k_is);(case fc0=>k_is);(case fk0=>k_is);(case at1=>k_is);(case fl1=>k_is);(case fn1=>k_is);(case fc1=>k_is);(case fk1=>k_is);(case at2=>k_is);(case fl2=>k_is);(case fn2=>k_is);(case fc2=>k_is);(case fk2=>k_is);(case at3=>k_is);(case fl3=>k_is);(case fn3=>k_is);(case fc3=>k_is);(case fk3=>k_is);(case at4=>k_is);(case fl4=>k_is);(case fn4=>k_is);(case fc4=>k_is);(case fk4=>k_is)))
end
