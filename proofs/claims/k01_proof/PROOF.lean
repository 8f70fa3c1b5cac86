import PyProof.Rows.All
import Wide.All
import OpenK.AllK
import Wide.FinOn
import Lean
import PyProof.EqAt
import PyProof.EqKinds
import PyProof.TupleCall
import PySem.Challenge.RW_facecounts_k01_what_is_a_net
set_option Elab.async false
set_option linter.all false
set_option maxRecDepth 100000
set_option exponentiation.threshold 3000
set_option genSizeOf false
set_option bootstrap.genMatcherCode false
set_option compiler.extract_closed false
set_option genSizeOfSpec false
universe u
open List renaming length→lg
open Option renaming some→yz,none→yy
open Bool renaming true→yx,false→yw
open PySem renaming wpAny_bind→Va,Value→Vb,Shared→Vc,wpAny_pure→Vd,wpAny→Vg,model→Vj,wpAny_mono→Vp,Program→V0,sizeLine→V7,World→V9,starEach→Ue,mainGlobals→Um,wpAny_call_entry→Us,SetTable→Ut,Around→Uu,rawInt→Uv,wpAny_holding→Uy,wpAny_field→U1,wpAny_setField_rec→U2,wpAny_isNot_plain→Vaf,Scope→Vai,wpAny_newObj_type→Vaj,wpAny_callSpecial?_slot→Vap,wpAny_Call_Name_kw→Vaq,codeAny_builtin→Vay,wpAny_is_plain→Vaz,wpAny_setState_of→Va5,sizeLine_eq→Va6,Builtin→Vbb,intKind→Vbh,compareOp→Vbm,cLine→Vbt,backTo→Vby,wpAny_rule→Vbz,Env→Vb0,assignEach→Vb3,Comprehension→Vb4,PyData→Vcc,wpAny_truthy_bool→Vce,cellsFrom→Vcf,foldedSetIterable→Vch,sysModules→Vci,wpAny_typeOf→Vcm,codeAny→Vco,wpAny_seqItems→Vcq,binaryOp→Vct,wpAny_loadPart'→Vcz,mem_of_lookup→Vc1,letOwnedTupleGo→Vdb,FuncData→Vdc,wpAny_attempt→Vdn,pyNext→Vdr,wpAny_askSetting→Vdx,sliceBounds→Vd0,unsupported→Vd2,codeAny_mono→Vd5,holding→Vd6,plainId_quiet→Ved,swapsWithSole→Vef,swappedStores→Veg,bootBuiltins→Veu,pyIter→Vev,Keyword→Ve4,wpAny_standAt→Ve6,call_meets→Ve8,codeAny_of_tree→Vfa,importedModules→Vfd,NameKind→Vff,wpAny_pyIter_list→Vfk,IsPart→Vfm,builtinLookup_eq_fast→Vfo,wpAny_load→Vfx,wpAny_isInstance→Vfy,checkBuiltinCall→Vf0,codeAny_call_builtin→Vf1,wpAny_newList→Vf7,wpAny_of_eq→Vga,swapsWith→Vgp,wpAny_pyIter_tuple→Vgq,builtinsNs→Vgu,wpAny_runValue→Vgz,wpAny_pyIter_slot→Vg7,wpAny_storeSet_of→Vg9,ofAClassStatement→Vhb,keywordEach→Vhg,behindInMarks→Vhk,wpAny_forIn_list→Vhr,typeLookup_type→Vh4,wpAny_updateSeq_pair→Vh6,wpAny_Assign_stores→Vih,firstArgMember→Vin,wpAny_newTuple→Vio,wpAny_assign_Name→Vi6,wpAny_sequenceKey→Vi7,wpAny_binaryOp_repeat_ref→Vjd,wpAny_comprehension_free→Vjl,wpAny_getItem_list_slice→Vjp
open PySem.Heap renaming get?_push_of_some→Ve,get?_push_size→Vm,lt_size→Vy,SameBut→U6,size_push→Vam,get?_update_self→Vc8,get?_update_other→Vfg,size_update→Vhs
open List renaming length_map→Vf,getElem?_eq_some_iff→Vk,replicate→Vn,size_toArray→Vo,range→Vq,mem_map→Vs,mem_cons→Vu,getElem?_append_left→Vx,mem_cons_of_mem→V4,mem_of_getElem?→V5,mem_singleton→V6,mem_cons_self→V8,append_assoc→Ub,length_append→Uc,all_eq_true→Ug,getElem?_map→Ui,map_cons→Uk,mem_append→Uo,take_append_drop→Uq,getElem?_eq_getElem→Uw,getElem?_eq_none_iff→Uz,filterMap_cons→U3,length_cons→U4,getElem?_append_right→U7,length_range→U9,mem_append_right→Vae,length_take→Vag,pairwise_cons→Vah,map_append→Val,pairwise_append→Vao,all_cons→Vas,getElem?_set_self→Vau,getElem?_set_ne→Vav,append_nil→Vaw,replicate_succ→Va1,mem_filter→Va3,mem_range→Va9,getD_eq_getElem?_getD→Vbd,not_mem_nil→Vbe,isEmpty_iff→Vbf,mem_append_left→Vbi,take_of_length_le→Vbk,lookup_cons→Vbo,map_map→Vbq,mem_iff_getElem→Vbx,getElem_mem→Vb1,any_eq_true→Vca,mem_reverse→Vcb,nodup_append→Vcg,extract_eq_drop_take→Vck,getElem?_eq_none→Vcl,forall_mem_cons→Vcr,flatten_cons→Vcu,foldl_cons→Vcy,length_drop→Vc6,drop_drop→Vda,nodup_cons→Vdd,length_set→Vdf,forIn_cons→Vdh,foldl_append→Vdl,getElem?_replicate→Vdp,toList_toArray→Vds,getElem?_range→Vdt,mem_iff_getElem?→Vd9,map→Veb,mem_of_mem_drop→Vem,mem_of_mem_take→Veo,findIdx?_eq_some_iff_getElem→Veq,pairwise_singleton→Ve2,mem_filterMap→Ve7,eq_nil_of_length_eq_zero→Vfi,flatMap_cons→Vfl,length_singleton→Vfn,set_append_right→Vfr,all_map→Vfs,take_length→Vfz,map_take→Vf9,reverse_append→Vgc,length_pos_iff→Vgd,pairwise_iff_getElem→Vgf,map_nil→Vgj,zip_cons_cons→Vgl,drop_zero→Vgw,forIn_nil→Vgy,drop_eq_nil_of_le→Vhh,cons_append→Vhq,take_succ_eq_append_getElem→Vhu,getElem?_toArray→Vhw,singleton_append→Vhy,pairwise_reverse→Vhz,length_filter_le→Vh0,of_mem_zip→Vh1,foldl→Vh2,length_nil→Vh8,length_zip→Vic,filter_map→Vid,flatMap_append→Vii,take_take→Vit,drop_take→Viu,nodup_nil→Viv,filterMap_map→Vix,reverse_perm→Vja,pairwise_map→Vjb,getElem?_zip_eq_some→Vje,drop_eq_getElem_cons→Vjh,getElem?_take_of_lt→Vjj
open PySem.W renaming Frag→Vh,nsIn→Va2,hideAll_none→Vb9,hideAll→Vcx,fnOf→Vc4,mg_of→Vdm,findIn→Ves,keepIn→Vet,hideAll_get→Vez,of_hideAll→Vgh,callWith_K→Vgo,kitOne→Vg1,cellsFrom_some→Vhd,tabIn→Vhj,codeIn→Vij,methodObj→Vi5
open Nat renaming le_refl→Vi,le_trans→V2,lt_of_lt_of_le→Uf,ne_of_lt→Uj,lt_of_le_of_lt→Vaa,zero_le→Van,not_lt_zero→Vba,lt_succ_of_lt→Vbg,min_eq_left→Vc0,le_of_lt→Vc2,ne_of_gt→Vc3,exists_eq_add_of_le→Vdq,lt_succ_self→Vdw,le_succ→Vd1,pow_le_pow_right→Vep,lt_trans→Vex,add_sub_cancel_left→Ve1,lt_irrefl→Ve3,le_add_right→Vf3,lt_of_add_lt_add_left→Vgg,pow_succ→Vgk,zero_add→Vgm,mod_lt→Vgv,lt_of_succ_lt→Vg8,add_assoc→Vhm,succ_le_succ→Vho,le_of_not_lt→Vhp,add_le_add_right→Vie,mul_le_mul_right→Vif,add_right_comm→Viz,lt_trichotomy→Vi8
open PyProof.Rows renaming Keyed→Vl,arrOf→Vt,wpS_bind→Vv,wpS_pure→V1,SortSt→Ua,pendingOf→Up,callWith_type1→Vad,seqObj→Vak,kindOf→Vax,callWith_builtin1→Vbc,spliced_none→Vbj,wpS_forRange→Vbp,slot_tuple_getitem→Vbs,IntsAre→Vbv,spliced_more→Vb2,failedOf→Vc7,wpS_mono→Vdj,SortKind→Vdy,IsTup→Vdz,elem'→Vd4,subscriptTail→Vf5,listItems_at→Vgr,wpS_modify→Vg0,reverseSlice'→Vhn,entry_list_sort→Vh9,entry_tuple_getitem→Vig,slot_list_sort→Vip,args_list_sort→Viq,assignInOrder_cons→Viw,args_tuple_getitem→Viy
open Bool renaming false_eq_true→Vr,false_ne_true→V3,not_eq_true'→Va4,true_and→Vb5,or_eq_true→Vb7,false_and→Vcd,eq_iff_iff→Vcj,not_true→Vc5,and_false→Vc9,and_self→Vdo,eq_false_iff→Vhc,not_false→Vil
open Option.some renaming injEq→Vw,inj→Ur
open Array renaming length_toList→Vz,getElem?_toList→Ud,getElem?_eq_getElem→Ul,getElem?_eq_some_iff→U8,toList_append→Var,getD→Va7,toList_extract→Vcp,toList_push→Vcv,perm_iff_toList_perm→Vee,toList_reverse→Ven,getD_eq_getD_getElem?→Vfv,getElem_toList→Vf2,toList_setIfInBounds→Vf6,toList_filterMap→Vhf,size_setIfInBounds→Vjk
open Option renaming map_eq_some_iff→Uh,map_some→U5,bind_some→Vab,isSome_iff_exists→Vde,getD_some→Vey,bind_eq_some_iff→Vg5
open PySem.Value renaming ref→Ux,none→Vbw,type→Vb8,int→Vfu,bool→Vfw,isInt_shape→Vg6
open PySem.Builtin.SmallTypes renaming nextOf→U0,ownedTupleIsFree→Vat,ownedTupleHandOut→Vcn
open PySem.Obj renaming mapSeq→Vac,putSet→Vd3
open PySem.Str renaming ofString→Va0,length_append→Vi9
open PySem.Around renaming under_plainId→Va8,in1_units→Vhv
open PySem.Calls renaming spliced_cons→Vbl,spliced_nil→Vdk,evalArgs_plain→Vek,call_function_entry→Vel,callWith_builtin→Vfh,Name_function_global→Vi2
open PySem.Builtin.Tuple renaming tupleExact→Vbn,tupleItemsOf→Vf4,tupleTooMany→Vi3
open PySem.Builtin.List renaming listExtendWith→Vbr,listTooLong→Vew,listLengthHint→Vi1,listSameRef→Vjo
open PySem.Builtin.Range renaming rangeSize→Vbu,small→Vdv
open List.Perm renaming refl→Vb6,swap→Vgx,append_left→Vhx
open PyProof.Rows.F renaming plain_set_update_loop→Vcs,entry_set_update_loop→Ve0
open Int renaming toNat_natCast→Vcw,ofNat→Ver,toNat→Ve9,natCast_nonneg→Vgt
open PySem.PyData renaming eqv→Vdg,shownAll→Vdi,showable→Vd8,showableAll→Vfb,depthAll→Vfe,canLayAll0→Vfj,shown→Vfq,depth→Vft,eqvAll→Vf8
open PySem.Heap.SameBut renaming update→Vdu,refl→Vei
open ForInStep renaming yield→Vd7
open PySem.Builtin.Slice renaming sliceApplied→Vea,slicePlaces→Vej,sliceAdjust→Vge,sliceFields→Vjc
open PySem.F renaming slot_tuple_iterator_next→Vec,slot_enumerate_next→Vfp,args_tuple_add_2→Vgi,entry_tuple_add→Vg3,slot_list_index→Vg4,plain_list_iadd→Vha,slot_tuple_add→Vhe,slot_tuple_lt→Vh5,slot_zip_next→Vh7,slot_set_add→Vib,args_tuple_iterator_next_1→Vim,entry_tuple_iterator_next→Vi0,args_list_index_2→Vjf,entry_list_index→Vjm
open List.Pairwise renaming nil→Veh
open Prod.mk renaming injEq→Ve5
open PySem.Heap.IsSliceOf renaming new→Vfc
open PySem.Builtin.Int renaming intBits→Vgb
open PySem.AutoSeq1 renaming sub_tuple_tuple→Vgn
open PySem.Code renaming quiet_builtin→Vgs
open PySem.W.Fast renaming te14364793385576792824→Vg2
open PySem.SetTable renaming fits→Vhi,tooFull→Vht,below→Vir
open PySem.NameKind renaming free→Vhl
open False renaming elim→Vh3
open PyProof.Rows.SortSt renaming mk'→Via
open PySem.Builtin renaming bitAnd→Vik
open PySem.Builtin.Frozenset renaming newClass→Vi4,sizeOf→Vjn
open PySem.Manifest renaming sig_set_iterator→Vjg
open Classical renaming byContradiction→Vji
abbrev LV:=List PySem.Value
abbrev LS:=List PySem.Str
abbrev LX:=List PySem.Expr
abbrev LM:=List PySem.Stmt
abbrev LF:=List (PySem.Str×Nat×Bool)
abbrev LN:=List Nat
abbrev AV:=Array PySem.Value
abbrev OV:=Option PySem.Value
abbrev LL:=List (List Int)
abbrev LI:=List Int
abbrev LA:=List (PySem.Addr×PySem.Obj)
abbrev LR:=List PySem.Addr
abbrev VP:=PySem.Value->PySem.Shared->Prop
set_option hygiene false
section
local macro_rules|`(tactic|omega)=>`(tactic|first|lia|omega+splitNatSub)
open Lean in
local macro_rules|`(mutual $c* end)=>do
 let k:=c[0]!.raw
 unless k.isOfKind ``Parser.Command.check do Macro.throwUnsupported
 let n:=Syntax.node .none
 let o:=n `null #[]
 let y(x:Syntax):=n ``Parser.Tactic.rcasesPatMed #[n `null #[x]]
 let g(s:Syntax):=match s with
  |.ident ..=>y (n ``Parser.Tactic.rcasesPat.one #[s])
  |.node _ k a=>if k== ``Parser.Term.hole then y (n ``Parser.Tactic.rcasesPat.ignore a) else if k== ``Parser.Term.anonymousCtor then y (n ``Parser.Tactic.rcasesPat.tuple #[s[0],n `null (s[1].getArgs.map fun x=>if x.isAtom then x else n ``Parser.Tactic.rcasesPatLo #[x,o]),s[2]]) else s
  |_=>s
 let w(s:Syntax)(k:Name)(a:Array Syntax):Syntax:=
  if k== ``Parser.Tactic.simp||k== ``Parser.Tactic.dsimp then (if s[3].getArgs.isEmpty then n k (a.set! 3 (n `null #[.atom .none "only"])) else s)
  else if k== ``Parser.Tactic.simpAutoUnfold then n ``Parser.Tactic.simp (a.set! 0 (.atom .none "simp"))
  else if k== ``Parser.Tactic.dsimpAutoUnfold then n ``Parser.Tactic.dsimp (a.set! 0 (.atom .none "dsimp"))
  else if k== ``Parser.Tactic.tacticLet__ then (let l:=s[2][0];if l[0].isOfKind ``Parser.Term.anonymousCtor&&l[2].getArgs.isEmpty then n ``Parser.Tactic.obtain #[.atom .none "obtain",n `null #[l[0].rewriteBottomUp g],o,n `null #[l[3],n `null #[l[4]]]] else n ``Parser.Tactic.tacticHave__ (a.set! 0 (.atom .none "have")))
  else if k== ``Parser.Tactic.lia then n ``Parser.Tactic.omega #[.atom .none "omega",n ``Parser.Tactic.optConfig #[n `null #[n ``Parser.Tactic.configItem #[n ``Parser.Tactic.posConfigItem #[.atom .none "+",mkIdent `splitNatSub]]]]]
  else if k== ``Parser.Term.let then n ``Parser.Term.have (a.set! 0 (.atom .none "have"))
  else if k== ``Parser.Tactic.exact||k== ``calcTactic then (let e:=if k== ``calcTactic then s[1][0][0] else s[1];if (e.find? (·.isOfKind ``Parser.Term.syntheticHole)).isSome then n ``Parser.Tactic.refine #[.atom .none "refine",e] else n ``Parser.Tactic.exact #[.atom .none "exact",e])
  else if k== ``Parser.Command.declaration then (let m:=s[0];let d:=s[1];let q:=d.getKind
   let v(x y:Syntax):=n k #[x,y]
   if !m[2].getArgs.isEmpty then v (m.setArg 2 o) d
   else if q== ``Parser.Command.definition then v m (n ``Parser.Command.theorem #[.atom .none "theorem",d[1],n ``Parser.Command.declSig #[d[2][0],d[2][1][0]],d[3]])
   else if q== ``Parser.Command.abbrev then v (m.setArg 4 (n `null #[n ``Parser.Command.noncomputable #[.atom .none "noncomputable"]])) (n ``Parser.Command.definition #[.atom .none "def",d[1],d[2],d[3],o])
   else if q== ``Parser.Command.theorem then v m (n ``Parser.Command.definition #[.atom .none "def",d[1],n ``Parser.Command.optDeclSig #[d[2][0],n `null #[d[2][1]]],d[3],o]) else s)
  else s
 let f(t:Array Syntax)(s:Syntax):Syntax:=s.rewriteBottomUp fun s=>match s with
  |.ident _ w n p=>let s:=.ident .none w n p;match n.components with
   |.str .anonymous x::r=>match x.toList with
    |'Q'::a::b=>if a<'0' then s else match t[a.toNat-48+(b.headD '/').toNat*75-3525]?,r with
     |.some e,[]=>e
     |.some e,[y]=>.node .none ``Parser.Term.proj #[e,.atom .none ".",mkIdent y]
     |_,_=>s
    |_=>s
   |_=>s
  |.atom _ v=>.atom .none v
  |.node _ k a=>w s k a
  |_=>s
 let t:=k[1][1].getSepArgs.foldl (fun t e=>t.push (f t e)) #[]
 pure (mkNullNode ((c.raw.drop 1).map fun s=>if s.isOfKind ``Parser.Command.universe then .node .none ``Parser.Command.end #[.atom .none "end",mkNullNode (if s[1][0].getId==`e then #[] else #[s[1][0],mkNullNode])] else f t s))
mutual
#check[by omega,by decide,Vj X.prog X.w,.var 0,.cst (.int 1),.var 1,Vj prog w,.ref (lg S),.cons (.ret (.cst (.bl yw))) .nil,by decide+kernel,0,0,0,0,0,0,0,.var 2,(by simp!),.ref s.heap.objs.size,.cst (.bl yw),lg S,.var 3,.int 1,Xd I.sr I.inv,.cons (.tup .nil) .nil,.cons (.var 7) .nil,.cst (.int 0),(λx y S h=>by cases x<;>first|calc aB0 rfl h|(cases y<;>first|calc⟨_,_,rfl,rfl⟩|calc aB0 rfl h)),Vt st,.fro (ns.map D.int),{cls:=.type "set_iterator",data:=.fields #[Uv 0,Uv 0,.ref a,Uv es.size,Uv ep]},{cls:=.type "range",data:=.fields #[.int lo t,.int hi u,.int 1 v]},ns.map D.int,Xo prog w,⟨t,rfl⟩,(by simpa using q),lg xs,{s with heap:=h' },.cst (.bl yx),.ref p,{cls:=.type "list",data:=.seq ([]:LV).toArray},l.map D.int,0,0,0,0,0,0,.var 4,.bl yx,.bl yw,["enumerate","zip","dict_itemiterator","dict_reverseitemiterator","odict_iterator","itertools.zip_longest","itertools.pairwise"],.frz (.lst (.cons (.cst (.str "net")) (.cons (.cst (.str "face")) (.cons (.cst (.str "point")) (.cons (.cst (.str "apart")) (.cons (.cst (.str "many")) (.cons (.cst (.str "text")) (.cons (.cst (.str "row")) (.cons (.cst (.str "number")) (.cons (.cst (.str "level")) (.cons (.cst (.str "crowd")) (.cons (.cst (.str "way")) (.cons (.cst (.str "closed")) .nil))))))))))))),.blt .len (.cons Q3 .nil),.cons Q3 .nil,.frz (.cmr yw 2 (.cons (.var 14) (.val QA) (.cons (.cmp .eq (.blt .len (.cons (.var 14) .nil)) QF) .nil) .nil) (.var 14)),.lst (.cons (.cst (.int 16)) (.cons (.neg Q4) (.cons QW (.cons QD (.cons (.cst .non) (.cons (.cst (.str "1")) (.cons (.tup (.cons QK .nil)) (.cons (.frz (.lst (.cons Q4 .nil))) (.cons (.bin .pow (.cst (.int 10)) (.cst (.int 20))) (.cons (.cst (.int 15)) .nil)))))))))),.and (.not (.call iln QJ)) (.cmp .ne (.frz (.lst (.cons (.call itl (.cons QK (.cons (.var 7) (.cons (.var 5) .nil)))) (.cons (.call itl (.cons Q4 (.cons (.var 7) (.cons Qa .nil)))) .nil)))) (.frz (.bin .mul (.lst (.cons (.cst (.str "net")) .nil)) (.cst (.int 2))))),.lst (.cons (.cst (.int 7)) (.cons (.neg Q4) (.cons QW (.cons QD (.cons (.cst .non) (.cons (.cst (.str "1")) (.cons (.tup (.cons Q4 .nil)) (.cons (.bin .pow (.cst (.int 10)) (.cst (.int 20))) (.cons (.frz (.lst (.cons Q4 .nil))) .nil))))))))),.frz (.lst (.cons (.cst .non) (.cons QW (.cons QD (.cons (.neg Q4) (.cons QK (.cons (.cst (.int 16)) (.cons (.bin .pow (.cst (.int 10)) (.cst (.int 30))) (.cons (.cst (.str "")) (.cons (.cst (.str "0,1")) (.cons (.tup .nil) (.cons (.tup QI) (.cons (.frz (.lst QI)) (.cons (.tup (.cons QK .nil)) (.cons (.frz .dct0) (.cons (.tup (.cons (.tup (.cons QK (.cons Q4 .nil))) (.cons (.frz (.lst (.cons (.cst (.int 2)) .nil))) .nil))) (.cons (.tup (.cons QW .nil)) .nil))))))))))))))))),.or (.cmp .isnot (.call 3 (.cons (.blt .tuple (.cons (.sli QA .none (.some (.cst (.int 60)))) .nil)) .nil)) QW) (.cmp .isnot (.call 3 (.cons (.blt .tuple (.cons (.sli QA .none (.some (.cst (.int 61)))) .nil)) .nil)) QD),.frz (.cmr yw 2 (.cons (.var 6) (.rng (.cons (.bin .add QF Q4) (.cons (.cst (.int 16)) .nil))) .nil .nil) (.tup (.cons QF (.cons (.var 6) .nil)))),.cons Q5 .nil,.cons QA .nil,.asg QF (.bin .mod (.bin .mul (.bin .add (.bin .add (.bin .mod Q3 (.cst (.int 2147483629))) (.bin .mul (.cst (.int 7919)) QA)) Q4) (.cst (.int 48271))) (.cst (.int 2147483647))),.cons QF .nil,(qs.map (·.2)),{s with heap:=h',toks:=tk},(·.1),n.map Xa,Vi _,.cons (.cst (.int 16)) .nil,.and (.cmp .is (.call 3 (.cons (.tup QI) .nil)) QW) (.and (.cmp .is (.call 3 QI) QD) (.cmp .eq (.call 5 (.cons (.tup QI) (.cons QK .nil))) (.frz (.lst QI)))),{cls:=.type (Xea k),data:=.fields #[.ref a,.int 0 0]},s.heap.push (Vak "list" #[] 0),{cls:=.type "list",data:=.seq its.toArray n},.frz (.bin .mul (.lst (.cons (.cst (.str "net")) .nil)) (.cst (.int 2))),⟨_,rfl⟩,.ref a,[yz QX,yz (Xa l),yz o,yy,yz (.int c),yz (.int a)],y::ys,k+(d+1),(by rw[q];calc λz=>nomatch z),.asg QF (.bin .mod (.bin .add (.bin .add (.bin .mul QF QF) (.bin .mul (.cst (.int 69621)) QA)) (.cst (.int 7))) (.cst (.int 2147483587))),0,0,0,0,0,0,0,.frz (.lst (.cons (.cst (.str "swap")) (.cons (.cst (.str "places")) (.cons (.cst (.str "deed")) (.cons (.cst (.str "line")) .nil))))),x==("__debug__" : Str),fa env S,⟨rfl,rfl⟩,Vak "list" #[] 0,.int i,(·.2),.cons Qa .nil,∀b o,s.heap.get? b=yz o->h'.get? b=yz o,⟨n,S1,rfl,z⟩,(s.heap.update a (Vac λ_=>(#[]:AV))).push (Vak "tuple" Qs.toArray 0),.cons Q4 (.cons Q5 (.cons (.bin .mod (.bin .add QF Q4) (.cst (.int 7))) .nil)),{s3 with heap:=s3.heap.push {cls:=.type "slice",data:=.fields #[vl,vu,.none]} },{cls:=.type "dict",data:=.dict #[]},[yz QX,yz (Xc n),yz (Xa B),yz b,x4,yz (.int c),yz (.int a)],λw s3 ⟨S3,e3,H3,ρ3,J3,sr3,st3⟩=>⟨S3,e3,H3,ρ3,J3,sr3,L.trans st3⟩,{B with heap:=B.heap.push {cls:=.type "slice",data:=.fields #[vl,.none,vs]} },Vby pos (Ue es X.env),.blt .sorted (.cons (.frz (.cmr yw 2 (.cons (.var jx) (.rng (.cons (.var jw) .nil)) .nil .nil) (.mth .popi (.var jl) (.cons (.call it (.cons (.var jp) (.cons (.blt .len (.cons (.var jl) .nil)) .nil))) .nil)))) .nil),.builtin "object.__class__",Xaj o1 o2 fa fb fc env S,∀c o,c≠z->c≠O->c≠i->c≠j->s.heap.get? c=yz o->h'.get? c=yz o,s.heap.push (nS w),[yz QN,L,yz (.ref (lg S1)),x3,B],⟨rfl,I.turned (t':=s.toks) (λb o B e=>eb b o B e) f0 f1 f3 f4 f5⟩,λ_ _=>False,0,0,0,0,0,0,f env S,.not (.isi Q3 [.tuple]),.or (.cmp .ne (.isi Q5 [.list]) (.isi Q3 [.list])) (.cmp .ne (.isi Q5 [.tuple]) (.isi Q3 [.tuple])),.inl rfl,λenv S=>QC0.bind λx S=>match (kdD S x).bind λk=>Yx k [t] with|some r=>.ok (.bl r) S|none=>.bad,.cst (.int 4),(items.toList.drop (sIx items.size 0 lo)).take (sIx items.size items.size hi-sIx items.size 0 lo),⟨h1,h2⟩,rE p n sz nn f b1 b2 x7 x8 x9 x10 yy yy,sliceAdjust lo yy c (lg its),sIx items.size items.size hi-sIx items.size 0 lo,(Vby cpos (Ue (e::es) X.env)).all (λx=>!x.1)&&(backToKw cpos (Vhg [] X.env)).all (λx=>x.1.isSome)&&decide ((e::es).length+([]:List Ve4).length+(if ([]:List Ve4).isEmpty then 0 else 1)<30),s.heap.objs.size+1,Xm (a:=.var 0) rfl,.expr (.mth .append Q5 (.cons (.blt .tuple (.cons (.frz (.cmr yw 3 (.cons (.tup [4,5]) (.enm Qg) (.cons (.cmp .eq (.bin .band (.bin .shr QA Qa) Q4) Q4) .nil) .nil) (.var 5))) .nil)) .nil)),r.toList.zipIdx.foldl (λa x=>a.setIfInBounds (p+k+x.2) x.1) QM,.try b 0 x (.cons (.ret (.call ik (.cons (.var x) .nil))) .nil),.blt .repr (.cons (.frz (.lst (.cons Q3 (.cons Q5 Qp)))) .nil),{cls:=.type "enumerate",data:=.fields #[.none,.bool yw,.ref s.heap.objs.size,Uv 0,.none,.none]},blk X pc s H sc cl C own fp,(Vt st).toList.drop (p+Q70),Ue es X.env,.val (.frz (.lst (.cons (.var 5) (.cons (.call ibf (.cons Q3 (.cons (.var 5) .nil))) (.cons (.call ibf (.cons Q3 (.cons (.idx Q5 (.neg Q4)) .nil))) (.cons (.call iod Qg) .nil)))))),env++Vn n yy,(Vby cp (Ue Q60 X.env)).all (λx=>!x.1)&&(backToKw cp (Vhg [] X.env)).all (λx=>x.1.isSome)&&decide (Q60.length+([]:List Ve4).length+(if ([]:List Ve4).isEmpty then 0 else 1)<30),(by simpa using hi),X5 λk=>Yo _ k,λt z=>D.noConfusion z,λe p=>e.set p.1 (yz p.2),QR.hash k,Int×Vb,Vc4 nm nm (Xbd st) (Yi st) (Xv st) .none kV L pm an B ct,.cons e .nil,Vd ?_,Vbh prog w,Option Nat,0,0,0,0,0,0,0,.tup xs,.lst xs,λr s'=>r=.ok (.ret (.bool yx))/\OldK B.heap s'.heap/\s'.os=B.os/\AllBare s'.gens,I.inv.tok _,((qs.map (·.2.1)).toArray.zip (qs.map (·.2.2)).toArray),(n.take a).map Xa++[.tup (B.map D.int),.tup (B.map D.int)]++(n.drop (a+1)).map Xa,z.2.1::z.2.2.1,.var 6,(((Yd (ddL n)).take i).filter λf=>n.all λo=>decide (o=f) || !lie f o).map Xa,.or Qb0 (.or (.not (.chn .le .le Q4 Qf (.cst (.int 60)))) (.not (.blt .all (.cons (.frz (.cmr yw 2 (.cons QF (.val Q3) .nil .nil) (.call ia Qr))) .nil)))),{cls:=.type "list",data:=.seq vs.toArray},.var i,rE p n sz nn f b1 b2 x7 yy x9 yy yy yy,.cons (.asg Qa (.call 15 (.cons (.call 14 (.cons Q3 Qo)) .nil))) (.cons (.ite (.not (.call 32 (.cons Qa (.cons (.call 21 QH0) .nil)))) Q8 .nil) .nil),[.str "net",.str "face",.str "point",.str "apart",.str "many",.str "text",.str "row",.str "number",.str "level",.str "crowd",.str "way",.str "closed"],(Q00.update s.heap.objs.size (Vac (·++Qs.toArray))),.ref n,.ref it,.cons Q3 (.cons (.cst (.int 7)) .nil),ev F G e env S,S++[.lst xs],sB X.w,.frz o u,.or Qb0 (.or (.cmp .gt Qf (.cst (.int 6))) (.not (.blt .all (.cons (.frz (.cmr yw 2 (.cons QA (.val Q3) .nil .nil) (.call iw Qp))) .nil)))),.lst (.cons Qf0 (.cons (.cst (.int 9)) (.cons (.cst (.int 15)) .nil))),.cmp .eq (.frz (.cmr yw 2 (.cons Qa (.val Q3) (.cons (.and (.cmp .ne Qa QA) (.call il (.cons QA QH0))) .nil) .nil) Qa)) (.frz (.lst .nil)),0,0,0,0,0,0,.lst (.cons (.cst (.int 3)) (.cons Qf0 (.cons (.cst (.int 6)) .nil))),yz (.builtin "BaseException.__getattribute__"),Xc n,.lst (.cons Qf0 (.cons (.cst (.int 11)) .nil)),.cons (.ite (.or (.not (.call is (.cons (.call isn QJ) (.cons (.call iln QJ) .nil)))) (.cmp .ne (.blt .repr QJ) (.var 9))) Q8 .nil) .nil,(Vq far).map Ver,⟨ok.mod,ok.kind,ok.glob,ok.blt,ok.above,ok.inj,ok.has,ok.cab,ok.hd,ok.frames,ok.stk,ok.exf,ok.bs,ok.bsz,ok.noex,ok.exfs,ok.funs,ok.frf⟩,.ite (.not (.call is (.cons (.call itl (.cons QK (.cons Q5 QJ))) (.cons (.and (.call ilc QJ) (.cmp .isin (.var 7) QA)) .nil)))) Q8 .nil,[D.tup ((n.take a).map Xa++(n.drop (a+1)).map Xa),.tup Qv.reverse,.tup (n.map Xa++Qv.take 1),rwF n,.tup [.tup Qv],Xc (Yd (n++[B.drop 1]))],LI×Addr,upd H2 L.heap.objs.size (uA L.heap.objs.size),rE p n sz nn f b1 b2 (yz d) x8 x9 x10 x11 x12,Vak "list" vs.toArray 0,.int (lv:Nat),.call itl (.cons Q4 (.cons Q5 Qr)),.val (.frz (.lst (.cons Q5 (.cons (.idx QH1 QK) (.cons (.idx QH1 Q4) (.cons (.call ibn (.cons Q3 (.cons (.rev Q5) .nil))) .nil)))))),{cls:=.type "range",data:=.fields #[.int lo t,.int hi u,.int (-1) v]},wpS_lift (Vbz ⟨rfl,?_⟩),k.map D.int,(by simp[RD]),I7.inv.pin (b,o) (Vae _ (Vae _ (Xc2 hb e))),.ext (ExcO C a),.cons Q4 (.cons Q5 Qr),.bin .pow (.cst (.int 10)) (.cst (.int 18)),((prt s).take j).foldl ddR (fcA (n.take i)),⟨_,Vm _ rfl,rfl,rfl⟩,{s with heap:=Q00.update s.heap.objs.size (Vac (·++vs.toArray))},.asg Q5 (.bin .add (.bin .mul Q5 (.cst (.int 2147483587))) QF),evs es env S,.cmp .ne (.blt .len (.cons (.frz (.cmr yw 2 (.cons QF (.val Q3) (.cons (.call il (.cons Q5 Qr)) .nil) .nil) QF)) .nil)) Q4,Vcf (B.objs.size+1) sc.names cl,L.map D.int,.ref T.length,.cons Q5 Qr,.cons (.ite (.not (.call is (.cons (.var 10) (.cons Qh .nil)))) Q8 .nil) (.cons (.expr (.mth .append (.var 10) QI)) .nil),pc++Xa6 fp s5.heap,0,0,0,0,0,0,0,{s with heap:=s.heap.push (nS w)},{s with heap:=h',toks:=t' },i+1,(by simpa using h),(by simpa using L),(by simp[q];calc Xb4 t),.blt .all (.cons (.frz (.cmr yw 3 (.cons (.tup [3,4]) (.zpp (.cons Q3 Qo)) .nil .nil) (.call is (.cons QF QH0)))) .nil),ev a env S,.sli Q5 (.some (.bin .add QH1 Q4)) .none,LeK R,.ref e,.ref C,⟨Xmw w.params,11,Xmx,Array.mk [],boot_drawn,boot_toks,os⟩,∀x c,X.env.cells.lookup x=yz c->c≠b,Uf (Vy e) I.ok.above,⟨_,Vm _ rfl,rfl,_,rfl⟩,λ_=>rfl,(by repeat' first|calc Xde|calc Xdr rfl|calc Xpg|calc Xph|calc Y2 ?_ ?_|calc Xpj ?_ Q1|calc Xe0 ?_ Q1|calc Xpi Q9 Q9),Yg Q0 ?_,Vc4 x qual (Xbd st) (Yi st) (Xv st) .none kV L pm an B ct,.builtin "sorted",envOfC qual scope s.heap.objs.size f L,.cons Q3 (.cons (.cst (.int 10)) .nil),.cmr yw n (.cons QL1 it .nil .nil) elt,⟨tg,iter,ifs,0⟩,(yw,eval a X.env),0,0,0,0,0,0,kat xs (q+i),.builtin id,[D.fro QZ,.tup QZ.reverse,.tup (l.map D.int++l.map D.int),.tup [.tup QZ],w,.tup (QZ.take a++QZ.take 1++QZ.drop a)],⟨h1,h2,h3⟩,t.put j,by assumption,Vd ⟨_,rfl,Vd h⟩,K w.params,(λx q y B=>by rw[Ven,Vcb,Vcp,Vck]at q;let⟨m,m1,m2,m3,e⟩:=Xc8 q;calc L x ⟨m,m1,by omega,e⟩ y (Vcb.mp B)),{s with toks:=s.toks+(lg k+1)},[.lst []],.builtin "getset_descriptor.__get__",[yz QX,yz Qc1,yz (Xa B),yz b,yy,yz (.int c),yz (.int a)],lg vs,⟨λb o e n hb hx=>?_,λb o e n hb hx=>?_,I.base.free,λb o e hx=>?_,I.base.tups,I.base.frzs,I.base.tbls⟩,(by rw[hg.kind];calc hk),.asg Q5 (.frz (.bin .add Q5 (.frz (.cmr yw 2 (.cons Qa (.val Q5) .nil .nil) (.bin .add Qa (.tup Qp)))))),S++[.lst [.int a]],.Call (.Name "isinstance" p0) [a,.Name nm p1] [] pos,λb s'=>∃S',f env S=.ok b S'/\∃H' ρ',Inv X pc σ H' s'/\SR X.K QV1 ρ' S' H'/\Stp X.K ρ ρ' H H',⟨vs,h1,by rw[Xb3 h2];calc h.symm⟩,⟨hg,.inl ⟨_,rfl,h'.lst hl q⟩⟩,rwF (fcs n),cxC cm P w K mg base N qual scope f L A outer s H E,S++[.exc k],.int j,.cons (.cst (.int 2)) .nil,(Vt st).toList.drop p,ns.map V.int,ha.at λo e=>B.extBut _ _ D.a_.1 e,b∈X.ex\/X.s₀.heap.objs.size<=b,∀(s:Vc) (u:Vb),BindsTo s fd ⟨[u],[]⟩ [(x,u)],.cons (.blt .max (.cons Q4 (.cons (.blt .min (.cons Qf (.cons (.cst (.int 12)) .nil))) .nil))) .nil,nxK (h1.at λo e=>c1.extBut _ _ D.iz e) (ha.at λo e=>c1.extBut _ _ D.a_.1 e) hx λg2 i2 c2=>Vd ?_,ds.map yz++Vn (N.length-lg ps) yy,Xan w a ep es,0,0,0,0,0,0,0,(Q00.update s.heap.objs.size (Vac (·++vs.toArray))),Nat×Nat×Nat,FT T G 11,1048576,.lst vs,.cons (.expr (.mth .xtd QA (.cons Qn .nil))) .nil,(fSz n sz).map Xa,((Vq (m+1)).filterMap λj=>(L.getD j yy).map (j,·)),Yl (v:=.bl yw) c rfl,⟨e1,e2⟩,{j:=i,more:=runEnd m i-i,i:=i,perturb:=q,dummy:=yy},[.int i,.int j],∃o,h'.get? e=yz o/\o.cls=.type "StopIteration",h1.at λo e=>B.extBut _ _ D.iz e,{cls:=.type "tuple",data:=.seq #[.int n s.toks,u]},lg ds,.call B (.cons Q3 (.cons (.cst (.int 3)) .nil)),Y1 scope,Vm _ rfl,.ref S3.length,λ_ _=>rfl,t.probeStart Q31,do let v <- B;standAt e.pos;Vd6 [v] (truthy v),Xal tf body,Qx0.set i (yz x),QC0.bind λx S=>match (kdD S x).bind λk=>Yx k [t] with|some r=>R.ok (D.bl r) S|none=>R.bad,0,0,0,0,0,0,(Yl c rfl).trans ?_,(λz=>nomatch z),(by simp!;omega),[isK c 1,isK c 2,isK c 3,isK c 4],[.int w,a,b],(λz st' Qd2=>⟨h1,.inr ⟨h2,by rw[show N+min (max 0 t) 1=N+1 by omega]at h3;calc h3⟩⟩),(· < ·),eval e X.env,env.set i (yz (.ref m)),cE k elt gens scope pos,Vb3 es X.env,⟨It,fp,wr,_,_,St,λi=>(bs[i]?).getD yw,rfl,W,st,λi v s' Q' E' hP hQ=>?_,λh' tk hk=>?_⟩,Vt B,[yz QX,yz Qc1,yy,yy,yy,yy,yy,yy,yy,yy,yy,yy,yy],λv s1 h1=>Vp h1 (λae s2 h2=>?_) λ_ _ z=>z,do callWith pos (<-eval fx env) [] (Vby pos (Ue args env)) (backToKw pos (Vhg [] env)),.exc c,{cls:=.type "tuple",data:=.seq #[.int n tk,x]},xs.map λx=>Expr.Name x.1 x.2,vNm z.1,hs.2 b (Uj (Uf (Vy e) (I.ok.cab x c ac L))),a.toList.drop i,Option D,.type "tuple",.blt .max (.cons Q4 (.cons (.blt .min (.cons Qf (.cons (.cst (.int c)) .nil))) .nil)),(fSz n ((sz+1)%7:Nat)).map Xa,⟨_,Vm _ rfl,rfl⟩,Xth hO hA Qp2 (ma _ (X7 Q0)) Q0 mb (λx y _ h1 h2=>Xff sb h1 Q0) Q0 λm hm a1 a2=>?_,⟨_,e⟩,{s with heap:=h2},∀a,Va2 K Um nm=yz (yz Q40)->mg nm=yz Q40,rE p n sz nn f b1 b2 (yz d) yy x9 yy yy yy,(by kernel_rfl),⟨by rw[Uc,h.1];omega,λi o' hi e=>h.2 i o' (by rwa [Vx (by rw[h.1];calc hi)]at e)⟩,.cons QA (.val Q3) .nil .nil,!t.plain&&decide (es.size>1),0,0,0,0,0,0,0,∃m∈mks,Xfl K m=yx,rE p n sz nn f b1 b2 x7 x8 x9 x10 x11 x12,n.filter λt=>lie s t,e::es,.var 5,.type "BaseException",.ref z,.or (.cmp .ne (.mth .count Q5 (.cons QW .nil)) Q4) (.not (.isi Q3 [.valueError])),.cons Q3 Qo,(Vq j.toNat).map λ(k:Nat)=>D.int (k:Int),((Vq 16).map λk:Nat=>(k:Int)),upd H s.heap.objs.size (.tup [.int n,x]),(g2.update B.objs.size (Vac (·.push Vbw))),X.env::X.outer,Vd6 [.ref h1.objs.size] (call (.builtin "list.sort") [.ref h1.objs.size]) >>= _,(B.filterMap (es[·]?)),.nx env,.done (yy,z.2),((0:Nat):Int),{s1 with heap:=s1.heap.push {cls:=.type "tuple",data:=.seq #[.type T1,.type T2]} },src.most S+1,fc env S,fb env S,X.wish E,Array Vl,.blt .len Qo,0,0,0,0,0,0,⟨1,1,(.cons (.ret (.and (.isi Q3 [.int]) (.not (.isi Q3 [.bool])))) .nil),yx⟩,λx S1 u s1 v H1 aa e1 B I1 rv rd L=>?_,zp5 k1 k2 s.heap a b,o++a.extract i (i+k),leap m p.i p.perturb,ExP X pc σ ρ H Qa0,λb ob q=>Ve _ q,x==("__classdict__" : Str),s.heap.update a (Vd3 B t1),hY pc s H B C fp,evs F G es env S,env.set i (yz x),(by rw[z];rfl),.ref B.objs.size,.ListComp elt gens sc cpos,[yz d,yz Q7,yz (Xa f)],[.lst (Qf1.map D.int)],rE p n sz nn f b1 b2 yy yy yy yy yy yy,blk X pc L H2 sc ap B.objs.size own fp,Vdn (Vap (name:=Va0 "__next__") hT slot_si (Us slot_si hT Xn6 ?_ (Xrm _))),{j:=j,more:=m,i:=i,perturb:=q,dummy:=yy},{cls:=.type "tuple",data:=.seq #[u1,u2]},[yz QX,yz Qc1,yz Qw2,yz (.int (sz:Nat)),yz nn,yz (Xa f),yy,yy,yy,yy,yy,yy,yy],[1,2,3,4,5,6,7,8,9,10,11,12,13,14,15,16],yw||(Vby cpos Qv0).any Qu,snd a X sc N x hN hs B h2,o.push x++(b.extract k (j-1)).reverse,(ha.ex I (by simp[q];rfl) λx s' z=>QJ0),Xjw itl is (Xgt itl is (Xe3 iln itl)),Str×Addr,.sli Q5 .none (.some QH1),.int (aa:Nat),.bl (lie a b),.bl (Xfs n d),setPending s (((Up s).setIfInBounds i (p,n+m,v)).eraseIdxIfInBounds QC2),Vap (name:=Va0 "__next__") B.typeIs Vec (Us Vec B.typeIs Vi0 ?_ (Vim _)),0,0,0,0,0,0,0,⟨oe,vs,a0,t1,t2,t4,t3,(U8.mp t5).1⟩,{s with heap:=h',toks:=s.toks+(lg k+1)},[yz QX,yz (.int far),yz (.int (v%far))],λx1 x2=>x1++x2,x ∉ own/\X.env.cells.lookup x=yz c,kat a (i-1),k+1,insertAt t.place (below t.place j) j,h.bind I nb rfl (λds S1 us s1 vs H1 aa e1 B I1 rv rd L=>?_) λ_ _ z=>z,(by simp[Vo]<;>omega),(by rw[decide_eq_true rfl]),(by rw[Vh4,Vfo];kernel_rfl),Y9 I.sr QD1,LI×Addr×V,.ref t,h pc s σ H ρ S env I L,QM.extract (p+k) (p+Q70),{s with heap:=s.heap.push QP,toks:=tk},[.Tuple [.Name x px,.Name y py] kt pt],(yw,eval e X.env),upd H s.heap.objs.size (.tup [x,y]),((show clausesOf (cE k elt gens sc cpos)=gens by cases k<;>rfl).trans hg),X8 I.inv ak ai (u:=.type "range") Q9 (Vad (Vb2 ?_ hs) hs rfl) Q1 rfl,.and (.cmp .eq Q3 Q5) (.cmp .eq (.isi Q3 [.bool]) (.isi Q5 [.bool])),(λx _ y _=>by simp[X0,List.set_set]),kat a i,0,0,0,0,0,0,insertAt es Qe2.2 (h,x),ha.ex I q λx s' z=>QJ0,g env S,Yt st.2,Xh st.1,Vak "list" Qs.toArray 0,L.ex I q λx s' z=>.of .refl z rfl,prt (l.take i),Ym (i1 1 _ _ y rfl ky |>.trans ?_) (i1 0 _ _ x rfl kx |>.trans ?_),.var 7,.str t,.ref D,.int c,⟨_,rfl,?_⟩,(λz=>by subst z;rw[hd]at h;cases h),upd H a o,lg ps,(k.length:Int),Vak "list" (ts.map QG0).toArray 0,.lst .nil,.call (.ref fa) ⟨[.ref a],[]⟩,wpS_get ?_,o.push x,Xa l,B.blt _ Q1,.cons t2 it2 ifs2 .nil,.cons a (.cons b .nil),⟨λn a h=>by rw[Vx (Vk.mp h).1];calc h,λ_ _ h=>h,λ_ _ _ h=>h⟩,⟨r.nd,by simp!,λx hx y hy=>?_⟩,[yz x,yz y],(by rw[hr];calc nb),((sIx items.size 0 lo:Nat):Int)==0&&(1:Int)==1&&Qk0==items.size,{cls:=.type "set",dict:=yy,data:=.set #[] 0 (.fresh 0 0 (!byT w))},[yz QX,yz Qn1,yz (.int (far:Nat)),yz (.int (siz:Nat)),x4,x5,x6,x7],(by show 4<=1000;decide),λenv S=>tst QC0,0,0,0,0,0,0,0,lg its,hc.ok I QF2 λs2 H2 aa I2 L=>?_,ddL ks,ddI ns,Ys ((Xb8 (a:=.var 0) (b:=.cst (.int 0)) rfl rfl).trans L) rfl,Y2 (Xdr rfl) (Y2 (Xdr rfl) Xde),Xan X.w Da ep es,Xak e,Va (wpAny_onRaise ?_),Option Unit×Nat,.ref g,.int (ab:Nat),.fro ds,(yy,y.2.1,y.2.2.1,y.2.2.2.1,z.2.2.2.2+1,y.2.2.2.2.1,y.2.2.2.2.2),⟨rfl,u,v,rfl,c1,c3,L,.inl Q0⟩,⟨_,rfl,h⟩,⟨_,B,rfl⟩,[isK c 5,isK c 6,isK c 7,isK c 8],k==Vhl&&env.scope.kind == .function&&env.kindOf n==yz .cell,(by simpa using c),(by show (lg zs)-0<lg zs+1;omega),blk X pc s H scope cl C own fp,.frz (.blt .list Qo),.cons (.ret QW) .nil,{s with heap:=h',toks:=s.toks+1},ps.zip us,0,0,0,0,0,0,ps.map Qu,its t k p,hb pc s2 σ H2 aa S1 env I2 B,ha pc s2 σ H2 aa S1 env I2 B,b.toList.drop j,Yn hs h2,.inr rfl,.asg (.var 9) (.blt .repr QJ),⟨boot_heap w.params,Array.mk [],boot_drawn,boot_toks,os⟩,{cls:=.type "set",dict:=yy,data:=.set #[] 0 (.fresh 0 0 ld)},∀b o,b≠e->b≠it->s.heap.get? b=yz o->h'.get? b=yz o,(λz=>B (by simp![z])),λu s' q=>?_,λ_ _ _=>rfl,bits h%(m+1),.ref y,.ref x,.ref (lg S1),.dK [],((sIx n 0 lo:Nat):Int),⟨[.type "tuple",.ref r],[]⟩,[Xa a,Xa b],λz st'=>Glp st0 st'/\∃r,z.1=yz r/\Srt QJ2 W r.toList,λi v=>∃t,v=.int (a+i*c) t,(yy,()),snds es X sc N Q60 hN hs B L,ond h2 rfl,n+1,ap.endLine==cp.line,Xn0 (I.inv.ok.hd hc) hl λIt fp wr St ab W st hf aa=>?_,Vp (L pc s σ H ρ S env I B) (λc s1 z=>?_) λ_ _ z=>z,Vby pos (Ue es env),S++[.lst ((fSz n i).map Xa)],QM.extract (p+Q70) (p+Q70+B),I.ok.hd hc,.val Q3,0,0,0,0,0,0,0,.ref Da,.call f (.cons (.var j) Q61),.bl (Yk d),.Subscript o i spos,.Call (.Name x p) QD4 [] pos,(env++Vn 2 yy).set jx (yz x),X8 I.inv ae (hb _ Q1) (u:=.builtin "isinstance") Q9 ?_,⟨.int (lg ys),H,I.tok _,⟨s.toks+1,by rw[Vo,B]⟩,q⟩,∀x∈zs,X0 t x e=yz (T x),s.heap.push Qz,fcs n,fcA (n.take i),call (.type "set") [.ref l],a::es,Xv st,Vba _,QV4.bind λz S=>Xk o2 y z S,.nx e,.done (yz (Xcm a b Qw5 i (j+1)),o.push x,i,j+1,g,c,d),.bl b,{cls:=.type (X61 k),dict:=dct,data:=.seq xs n,slots:=sl},[.ExceptHandler (yz (.Name x np)) (yz n) (b0::suite) hp],σ++Vn (lg own) yy,lg l,c3.extBut _ _ D.Oz.symm (c2.extBut _ _ D.iz.symm z1),Xsy CX P w K mg base N qual scope f cd A outer s H E,0,0,0,0,0,0,Xm (a:=.var 7) rfl,Vdr (.ref I) >>= _,.call iw (.cons Q5 (.cons QK (.cons (.glb g) .nil))),.builtin "set.add",⟨rfl,yy,rfl⟩,⟨np,nl,.cons Qq0 .nil,yx⟩,{cls:=.type "list",dict:=yy,data:=.seq ([]:LV).toArray},[yz QX,yz Qc1,yy,yy,yy,yy,yy],λ_=>bind_congr λ_=>bind_congr λ_=>Xq rfl λz=>?_,o++(a.extract k i).reverse,kat b (j-1),blk X pc s H sc L C own fp,X.fn x.1=yx\/X.env.scope.names.lookup x.1=yz .local,Stp.upd (ρ:=ρ) (K:=K) hp,.int w,.int a,.cmp .eq (.blt .len Qr) Q5,.bin .fdiv (.idx Q3 QK) Q5,.Name x pos,((Vq 16).map λk:Nat=>.int k),{cls:=.type (Xea k1),data:=.fields #[.ref a,.int 0 0]},rE p n sz nn f b1 b2 x7 x8 x9 x10 (yz Q7) (yz Q62),(by simp[Vhv];omega),a.size-1,.cons Q3 (.cons (.blt .len (.cons QH1 .nil)) .nil),⟨_,_,rfl⟩,λw s3 z=>z.pre L,λe=>Q81.is k e.2,yz d,(yy,z.2.1.push y,z.2.2.1,z.2.2.2.1+1,0,z.2.2.2.2.2+1),(yy,z.2.1.push x,z.2.2.1+1,z.2.2.2.1,z.2.2.2.2.1+1,0),src.most S1+1,lg n,kat Qm3 (p+i),(f0=.none\/∃T:Nat,f0=Uv T),es.map Qu,0,0,0,0,0,0,0,d.nl-d.np,Yv xs l c,Y++[.lst [Xa []]],Xs5 items n dd sl,Xaa iw is,X7 Q0,Vn k.toNat vs,Vk.mp h,Vj Y.prog Y.w,Vi 1,Vef [t] v p.line (Xcw sc),Van _,Vaj (Vd ⟨Ved Vha _,Vay F.entry_list_iadd ?_⟩),U0 (.ref j) >>= _,U0 (.ref i) >>= _,S1++[.lst xs],I.base.keep b o e n hb hx,.yield (yy,x.2.1,x.2.2.1,x.2.2.2.1,x.2.2.2.2.1+1),.str "number",.ref hp.objs.size,.done (yz yy,z.2),.con xs,(n:Int)+1,(is.zip ds).foldl Q21 env,(Xb6 c4).trans ?_,(Vt st).toList.drop (p+k),0,0,0,0,0,0,((Vq (16-QC2)).map λk:Nat=>.int (((i+1:Nat):Int)+k)),λr s'=>match r with|.ok _=>P s'|.error _=>False,hb.at λo e=>u3 b o D.b_.1 D.b_.2.1 D.b_.2.2.1 e,hB pc s1 σ H1 ac S1 env ds vs us QZ0 I1 rd rv B,Vbb.«tuple.__mul__» ⟨[.ref l,.int k u],[]⟩,.done (yz r,x.2.1,x.2.2.1,x.2.2.2.1,x.2.2.2.2.1),.cons Q3 (.cons (.sli Q3 (.some Q4) .none) .nil),.cmp .ne (.frz (.sst Q3)) (.frz (.blt .list Qg)),{s with heap:=QK0.push QE0},[yz QN,yy,yy,yy,yy],[opC o1,opC o2],[.str "swap",.str "places",.str "deed",.str "line"],hb pc s2 σ H1 aa S1 env ⟨J2,I1.sr,I1.er⟩ B,call g [v,.ref y,.ref D],(by simpa using q2),(by rw[Vf];calc hl),Vc4 name qual aa body scope dV kV ak pm an L ct,(ks.getD i []).map V.int,⟨rfl,v,2*v+1,rfl,by omega,by omega,by omega,e⟩,{cls:=.type "tuple",data:=.seq #[.int n s.toks,x]},λenv S=>tst QV4,λd=>match d with|.int x=>decide (x∈l)|_=>yw,yz v,tm m,pth t.mask Q31 N,h2.at λo e=>u3 j o D.jz D.Oj.symm D.ij.symm e,Xl S n,U1 hz rfl (x:=.ref I) rfl (Va (Vcq hI rfl ?_)),Src.con zs,.ref f,.expr (.mth .xtd Q5 (.cons (.call B Qp) .nil)),.done (yz r,y.2.1,y.2.2.1,y.2.2.2.1,z.2.2.2.2),.cons (.ite Qm Q8 .nil) (.cons (.ret Qy) .nil),.bl (Yb d),[λv=>bindName X.env y v,λv=>bindName X.env x v],[yz QX,yz Qx5,yy,yy,yy,yy],0,0,0,0,0,0,0,['r','o','t','a','r','e','t','i','_','t','e','s'],∀b∈l,b≠a->b ∉ frs X.stack->Xkc X pc b,λf vs=>PySem.call f vs,mirror QM i j ((j-i)/2),Xe8 B.heap H,Xc5 (Xag hn),V2 (Vie (Vif _ hl) 3) L,I.inv.wish E,EP X pc σ Q,.rt d,.cons a .nil,.cons Q4 (.cons Q5 QH0),((lpt l).take i).map Xa,⟨g1,g,d,tk,os⟩,⟨.nx env,S,rfl,rfl,σ,H,ρ,I,.refl,λ_=>rfl⟩,[L,x1,B,yz QF0,x4],[.exc c],(λx q y L=>by rw[V6.mp q];calc hx y (Vcb.mp L)),hi pc s σ H ρ S env QZ0 I Q80 λx s' z=>?_,(by simpa using e),(by rw[Va6];omega),(by lia),(by clear L;omega),(Vga (a:=Vbw) (by first|rfl|(simp[Vin];rfl)) ?_),(Vd2 "internal:list.sort.merge-bound" : Sem QY4),.bin .add QE4 (.bin .mod Qa (.cst (.int 2))),0,0,0,0,0,0,⟨rfl,u,v,rfl,c1,c3,L,.inr ⟨by omega,e⟩⟩,⟨rfl,0,1,rfl,by omega,by omega,by omega,e0⟩,[x,y],λb u e=>Ve _ e,xs.map f,w.params.setOrder a ep,t.put (pth t.mask h N),intKind_is prog w k tk,firstIterPos gens cpos,ddL (ks.take i),a.toList.take i,Vp aa (λ_ ab L=>Vd ⟨rfl,L⟩) λ_ _ z=>z,Vfd p.main.body,Va (Vgz (hU _ λs' h=>Vd (Vd ⟨rfl,h⟩))),.ref sl,.isi (.var 12) [.list],.int QU,.fro xs,(p,w)::P.zip vs,{s with heap:=h',gens:=g',drawn:=d',toks:=t' },{cls:=.type "list",data:=.seq its'.toArray B },ha.ok I q λus s1 vs H1 ac I1 rv rd aa=>?_,Xmy zs (λx=>.bl (q x)) hi hl B λ_ _=>rfl,.cons QA (.cons QK (.cons (.glb g1) .nil)),⟨z,H',J,rz,q⟩,⟨[.type "set",a],[]⟩,0,0,0,0,0,0,0,0,0,0,0,0,0,0,0,0,0,0,0,0,0,0,0,0,0,0,0,0,0,0,0,0,0,0,0,0,0,0,0,0,0,0,0,0,0,0,0,0,0,0,0,0,0,0,0,0,0,0,0,0,0,0,0,0,0,0,0,0,0,0,0,0,0,0,0,0,0,0,0,0,0,0,0,0,0,0,0,0,0,0,0,0,0,0,0,0,0,0,0,0,0,0,0,0,0,0,0,0,0,0,0,0,0,0,0,0,0,0,0,0,0,0,0,0,0,0,0,0,0,0,0,0,0,0,0,0,0,0,0,0,0,0,0,0,0,0,0,0,0,0,0,0,0,0,0,0,0,0,0,0,0,0,0,0,0,0,0,0,0,0,0,0,0,0,0,0,0,0,0,0,0,0,0,0,0,0,0,0,0,0,0,0,0,0,0,0,0,0,0,0,0,0,0,0,0,0,0,0,0,0,0,0,0,0,0,0,0,0,0,0,0,0,0,0,0,0,0,0,0,0,0,0,0,0,0,0,0,0,0,0,0,0,0,0,0,0,0,0,0,0,0,0,0,0,0,0,0,0,0,0,0,0,0,0,0,0,0,0,0,0,0,0,0,0,0,0,0,0,0,0,0,0,0,0,0,0,0,0,0,0,0,0,0,0,0,0,0,0,0,0,0,0,0,0,0,0,0,0,0,0,0,0,0,0,0,0,0,0,0,0,0,0,0,0,0,0,0,0,0,0,0,0,0,0,0,0,0,0,0,0,0,0,0,0,0,0,0,0,0,0,0,0,0,0,0,0,0,0,0,0,0,0,0,0,0,0,0,0,0,0,0,0,0,0,0,0,0,0,0,0,0,0,0,0,0,0,0,0,0,0,0,0,0,0,0,0,0,0,0,0,0,0,0,0,0,0,0,0,0,0,0,0,0,0,0,0,0,0,0,0,0,0,0,0,0,0,0,0,0,0,0,0,0,0,0,0,0,0,0,0,0,0,0,0,0,0,0,0,0,0,0,0,0,0,0,0,0,0,0,0,0,0,0,0,0,0,0,0,0,0,0,0,0,0,0,0,0,0,0,0,0,0,0,0,0,0,0,0,0,0,0,0,0,0,0,0,0,0,0,0,0,0,0,0,0,0,0,0,0,0,0,0,0,0,0,0,0,0,0,0,0,0,0,0,0,[Xc n],[.lst Q52],λfin s'=>∃v,fin=.done (.ret v)/\Q v s',xs.map Xj,x::xs,t.advance p,sliceAdjust lo yy c n,sliceAdjust l yy c QU,qs.map λq=>V.ref q.2,lg zs,0,0,0,0,0,0,0,h.fc s hs,fcA n,c==0||c==c',(by show 3<=1000;decide),(by show 2<=1000;decide),(by rw[I.ok.glob];calc I.mod.glob.keeps I.bk),boot_heap P,Yv its lo c,Xgd hA ma g1 Q0 Q0 ?_,X5 λ_=>rfl,Vj P w,V4 _ B,Qn0.trans B,N.take d.np,I.base.free b o e n B,.ret (.blt .tuple (.cons (.frz Q5) .nil)),.ref q,.int 6,.bl r,.Name "isinstance" p0,⟨λb o e=>Vgh _ e,Vb9 _ (.head _),fr,tr⟩,[yz QX,yz Qn1,yz Q55,yz QL6,yz QT3,yy,yy,yy],args_sorted1 _,S1++[O.lst xs],Qu0.take (B+e),J.hok.fresh Qw,0,0,0,0,0,0,IsRange.new ..,I.step J sr st,.type "object",.cons Q3 (.cons (.bin .add QZ4 Q4) .nil),.Assign ts v p,⟨us,[]⟩,⟨_,e,rfl⟩,⟨T,rfl⟩,⟨I.sr.upd hT,st,?_⟩,{s with toks:=s.toks+1},newExc (.type "StopIteration") [] >>= _,ks.map λk=>.tup Qs1,hb.at λo e=>u2 b o D.b_.1 D.b_.2.2.1 e,envOfC qual scope s.heap.objs.size f cd,Xg9 λac aa=>V1 ⟨B.trans aa,rfl,h5⟩,Vfg _ _ (Ne.symm hb),Vd0 lo yy (yz c) QA6,QC0.bind λx S=>QW4.bind λy S=>k x y S,O.lst (ks.map Xa)::X,.ok Q7 (S++[.lst ((Xbt ns).map D.int)]),.cons (.expr (.mth .append Q5 Qp)) .nil,(Ys (a:=.var 3) rfl rfl).trans (Xa0 ..),⟨rfl,x7,rfl⟩,⟨hg,.inl ⟨_,rfl,h'.fin (.inr Q0)⟩⟩,⟨h1,h0,h2,h⟩,λz st' Qd2=>⟨h1,.inr ⟨h2,h3⟩⟩,Vbb.«zip.__next__» ⟨[.ref z],[]⟩,(QR.hash k,Ux x),.cons Q3 (.cons (.cst (.int 13)) .nil),⟨hg,.inl ⟨_,rfl,h'.fin (.inl q)⟩⟩,⟨h',by omega,by omega,j1,hj,by omega⟩,⟨[.type "set"],[]⟩,λy=>match y with|.bool c=>c==b|_=>yw,λfl s1 z=>?_,x∈b,start N vs,0,0,0,0,0,0,0,p.1.map V.int,n.flatMap lpt,m+1,lg ks,kat Qm3 (p+k),k ∉ ps.map Qu/\B.Perm (ps++[(k,x)]),ev e env S,(by rw[Vf];calc Xs Q0),b*b+69621*j+7,Xf4 d li B S3,Xcg w a ep es,Xb (X3 rfl) (Xb rfl (Xb (Xfm hg) Xz)),Up st,QK7.map Xa,I.ok.bs b o e,B.push QN0,B.objs.size+1,2^62,.rt v,.cons ru .nil,.cons QK (.cons Qj5 (.cons QE4 .nil)),.cons Q3 (.cons (.cst (.int 9)) .nil),.con zs,.Tuple [a,b] k2 pt2,(sortRuns').run (Via κ QE1 #[] 7 yy),λd=>d,0,0,0,0,0,0,(λb o B e=>kk b o (by simpa using B) e),(hc.ex I (by simp[q];rfl) λx s' z=>QJ0),h2.at λo e=>u2 j o D.jz D.ij.symm e,fSz n sz,ddR ks k,S++[o],.rfl' hp,.ref l,.cons Q3 (.cons (.blt .len Qp) .nil),.bool yx,⟨⟨q a ha L,q b hb B⟩,by decide⟩,{s with heap:=s.heap.push Qq1,toks:=tk},[yz Qo7,yz a,yz b,yy],[.Subscript o i spos],λh' L kp e=>fin its B hz h' L kp e,λenv S=>Qc5.bind λxs S=>X6 k xs S,(λ_ _ z=>by cases z),qs.map λq=>Ux q.2,p+n,n.all λo=>decide (o=f) || !lie f o,j+1,isTrue e X.env Qh3,(es[·]?),Xa1 (a:=.var 0) (b:=.var 1) rfl rfl,Veg [t] v (Xcw sc),Va5 (s:=Qj2) ho hd (Xai T.toTab) ?_,I.inv.hok.fresh Qw,ExP X pc σ ρ H r,B.inv.hok.fresh Qw,B.heap.objs.size+4,.expr (.sad Q5 Qr),.chn .le .le Q4 Qf (.cst (.int 60)),{cls:=.type "tuple",data:=.seq #[x,y]},[yz QA1],[.ref a],σ.set i Qw8,0,0,0,0,0,0,0,(nm,ar,fl),eval b X.env,eval a X.env,c0==0||c0==c,Xfj l c d S1,Vgz (Vay F.entry_proto_collect ?_),S.set n .ded,Q13.take Q70,.int (w:Nat),.int (i:Int),.cons (.var 9) (.rng QJ) .nil .nil,(Xb6 (t:=yw) (S1:=S) rfl).trans ?_,⟨o,e,λv z=>by rw[d]at z;cases z⟩,⟨Da,rfl,by rw[<-I'.sr.len];simp!⟩,[.lst ((Vq far).map λk:Nat=>.int k)],∀b∈fp,H' b=yy,v+(n:Int),ond h rfl,lg xs<=60,call QU2 [.ref l],(by rw[hB.sz];omega),a::T::frs X.stack,Yi st,Xw ((Xup h1 h2 L h4 hw).trans hF),Xa3 w t i,Vq 16,0,0,0,0,0,0,LpQ R W a b N st0,HpQ R W a b N st0,.lst (xs.set j v),(i:Int)+(m:Int)*1,⟨hg,rfl,h⟩,[yz QQ1,yy,yy],[isK c 9,isK c 10,isK c 11,isK c 12],[.lst ((Vq aa).map λk:Nat=>.int k)],pds_iff.mpr λd hd=>(sm d hd).pd,nxK QN3 Q33 hx λg2 i2 c2=>Vd ?_,hb wh pc s2 σ H2 aa S1 env I2 B,(by size_fits),(by first|calc .inl Q9|calc .inr Q9),Xwd hO hA ma mb sa sb hl h1 L h3,Xwa hO hA ma mb sa sb hl h1 L h3,Vcm (T:="tuple") ⟨o,L,hc⟩ ?_,(Vac (·.pop)),Us Vbs L.typeIs Vig ?_ (Viy _ _),U1 hz rfl (x:=.none) rfl (Vd h1),HT.sIx Qn2 Qn2 B-HT.sIx Qn2 0 li,ExS X pc σ ρ H yw (.ok QJ9 S2),.ite (.cmp .notin QA Q5) Q8 .nil,(.ex k S2:R D),.candidate Qb6.j i (its t QG5 p),.call B (.cons Q3 (.cons Q5 Qp)),.Call (.Name "zip" p) QN7 [] pos,(s.map D.int).all λx=>wi x 0 15,⟨rfl,B⟩,⟨p,vs,k,z,rfl,rfl,L,hz,rfl,rfl⟩,⟨o2,L,ae,n2,ab⟩,⟨o1,B,ac,n1,aa⟩,⟨_,rfl,by rw[<-I.sr.len];simp!⟩,⟨S1,Xb4 t,H2,aa,I2.inv,I2.sr,L⟩,⟨I.sr,.refl,e2⟩,⟨H,I.tok _,by rw[Xi5 r];calc q⟩,[z,I,O,i,j],0,0,0,0,0,0,0,∃r,z=yz r/\Srt QJ2 W r.toList,λenv S=>tst QW4,λ_=>yx,yz x,y::z::r,spliced QR0,sb.2 b (L b u e),qp.mem_iff.mp hq,p.depth<=60,opC op,o.push x++b.extract QuB (j+1+k),ns.getD i 0,loadIfAlive (Ve9 (T:Int)) >>= _,(l.filterMap λj=>(g j).map (j,·)),kat b j,j-1,ha.ok I QF2 λs2 H2 aa I2 L=>?_,ha.bind I nb rfl Qb4 λ_ _ z=>z,f x,evalPart e X.env,(by simpa using hu),(by simpa using hl),(by simpa using hh),(by simpa using h1),bubble (Vt L) (p+k) (p+k-(p+l)),Vt s,0,0,0,0,0,0,Ve _ e,Up s,S1++[o],S++[.lst ((prs.take n).map Xa)],S++[.exc 1],S++X,LI×Vb,.type T,.tup is,.tup ds,.ok (.ret .none),.cons (.var 11) (.cons Qh .nil),.cons (.tup QI) (.cons QK .nil),.call L QI4,.bin .band (.bin .shr QA Qa) Q4,.asg QF (.call B (.cons Q3 Qp)),[(s.heap.push (nS w)).objs.size,l],wpAny_isSame_ref_self (Va Q71),kvs.all λp=>bdD ρ.length p.2,kat (mirror a i j ((j-i)/2)) k,(by rw[isSubtype_type];kernel_rfl),Xdm λd hd=>Xav _ (sm d hd).pd,Vh2 QD5 #[] (Vn k.toNat items),U1 hz rfl (x:=.bool yw) rfl ?_,SqL X.K H p ys\/SqT X.K H p ys,QK4.filter λp=>decide (p∈l),J.laid (t':=s3.toks) Qg4 Qw ?_,.mth .index Q5 (.cons QW .nil),.cons QK (.cons (.glb B) .nil),⟨tg,iter,cs,0⟩,⟨o,ho,hc⟩,{s with heap:=QW0.push (itO b l)},{o with slots:=sl},[s.heap.objs.size],[isK c a,isK c b,isK c d,isK c e],[L.heap.objs.size],0,0,0,0,0,0,0,λv _=>v=.bl yx,λb o B e=>(sb.2 b B).trans e,yz QX,snds es X sc N Q60 hN hs B h4,p.mem_iff.mpr z,(nm,B,fl),mirror QM p (p+k) ((p+k-p)/2),lg ns,lg S1,kat Qm3 (p+x-1),hs.2 b (Uj QO2),hm b _ q λz=>z,getItem QO5 Qo9,fi env S,eval iter X.env,ddL n,ddI (ns.take i),(by rw[Vf];calc B),(by rw[Vag];omega),blk X pc s H scope B C QR3 fp,below t.place j,([]:List Ve4),Xcv N N2,Vk.mp h1,S.keep λo e=>m.heap B o hw e,Qx4.map λx=>(x==0||x==c.val),0,0,0,0,0,0,QMB.setIfInBounds i (p,n+m,v),LI×D,J.laid (t':=B.toks) Qg4 Qw ?_,1<=lg xs,.cmp .eq Qf QZ4,.bin .shl Q4 Qf,.bin .add QF Q4,.BoolOp .And (a::b::rest) pos,(Z.ixN QU k).bind λj=>xs[j]?,!byT X.w,⟨x,p,rfl,h2.1.1,h2.1.2,h2.2⟩,λz hz=>?_,λ_ _ z=>z,λ_ _ e=>e,yz (n:Int),(yy,z.2.1,z.2.2.1,z.2.2.2.1,0,0),upd H a (.ext (StO QV1 a B)),snd e X sc N x hN hs B h.1.2,rs.map QG0,prs.map Xa,m.mono sub,leap m i q,g1.push QO,evs F G es,ac b o e B,ab.trans L,Vy e,Vgp v (yz t) p.line (Xcw sc),Va (Uy ?_),Q13.take Q70++Qu0.take (B+e),N[i]?=yz x,FT T G k f,FT T G QG5,.str "net",.ret (.frz (.sst (.frz Q5))),.ref a::us,0,0,0,0,0,0,0,.ite c a b,.cons e es,.call B Qg,.bl (wh d),.Name x py,.BoolOp .Or (a::b::rest) pos,⟨rfl,rfl,λu B=>hall u QLA⟩,⟨rfl,rfl,rfl⟩,⟨hl,h⟩,⟨ha,λy hy=>?_,Y9 I.sr QD1⟩,{s with heap:=s.heap.push Qv4 },{s with heap:=s.heap.push QO3 },[yz Qm5,yy,yy,yy],(λz=>by subst z;calc hz _ _ h),λx y _ h1 h2=>Xff sa h1 Q0,λa ρ H z=>⟨[],z,.nil⟩,λ_ _ _=>False,λ_ _ _ _=>rfl,x.2.2.endLine==z.2.2.2.line,snds es X sc N xs hN hs B h,pt S p (v/far),hb pc s σ H ρ S env I Q80,h1 pc s σ H ρ S env I Q80,d+1,(by rw[z];calc B),(by rw[size_push'];calc Vbg lb),0,0,0,0,0,0,(by rw[hp];calc λz=>nomatch z),(by rw[Vo];omega),(by rw[Vc6];calc Nat.sub_le ..),Y4 m QQ1 ds S2,Xes ia iw g ic,Vd0 lo hi yy n,V2 (h.dep x) B,OkP X pc σ ρ H (.ex k S2),.yield (yy,z.2.2,2*z.2.2+1),.ref T0.length,.int (if j>i then j else i),.int (if j<i then j else i),.int (far:Nat),.inr (.inl Q9),.frz (.lst QI),.cons (.cst (.int 64)) .nil,.cmp .lt Q5 Qf,.builtin "min",.builtin "max",.builtin "len",.Name "set" p2,.Compare a [opC op] [b] pos,(bA0 _ _).mp h,⟨hg,.inr ⟨rfl,L _ Qw⟩⟩,⟨hg,.inr ⟨rfl,B _ Qw⟩⟩,⟨h1,B,H2,L,h2,st.trans h3⟩,[.lst (QdB.map Xa++[.tup []])],λb u hb=>sortedAll_old hb,yz QM6,x∈ys,snd o X sc N ox hN hs B h5,rs j B,ks.filterMap λk=>xs[B k]?,iN0 V3,hQ _ _ .refl (j1.lst hl L),h pc s σ H ρ S env I Q80,0,0,0,0,0,0,0,grt ks,(by rw[e];calc λz=>nomatch z),a.cps.toList==b.cps.toList,Ym c (Ye (xs:=[]) rfl rfl),Xps ibf iod is itl ilc Q25,Xda h2,X8 I.inv hg hm hv ?_ hn ab,W.done s _ _ st λs' m=>?_,Va5 ho hd (Xai T.toTab) ?_,U1 hz rfl (x:=Uv T) rfl ?_,Qa7.trans (H.ln d S' B.pd),OkP X pc σ ρ H (.ok d S),.var j,.ref T,.cons Q90 (.cons Q12 .nil),.compLoop Qj3 d it acc env,.BoolOp .And (b::rest) pos,⟨c,by omega⟩,λx _=>T.fn x,λfl s' z=>?_,xs.zip ys,x.frz a o u h,wpAny_letGo (Vd (Va QI6)),turns m,tm t.mask,snd a X sc N x hN hs B h5,0,0,0,0,0,0,snd a X sc N x hN hs B h1,rs.map Qu,qs.map λq=>(q.1,q.2,q.2),qs.map Qu,prt s,ow.setIfInBounds j (yz k),ltL xs ys,l.map f,kat Qm3 (p+x),its t d p,i-1,hi-lo,h.2 F G env S,es[i]?.map Qu,es.size+1,env.set i Q28,(by rw[q];simp!),Z.inH X a,Xs Q0,(Xs (by let:=Xpt B sz;omega)),Xm0 hd hx,Xj d,Xd7 Qx8 (i,q),Xd6 QQ1 ds S2,Xcw env.scope,Vk.mp q,Vk.mp L,Vf4 QO5 >>= _,Ve3 _,Vdd.mp nd,Vaj Qg2 B,Va (Va5 B hd (Xai T) Q71),Ux t==Vbw,Up z,Ne.symm L,I.freeC x c e,0,0,0,0,0,0,0,F.args_enumerate_next_1 _,CXd P w,B.push QY,.var 10,.tup QZ,.tail _ B,.sli Q5 .none (.some QE4),.ref fa,.ref Y.length,.ok .next,.lst ys,.lst ws,.int (-i),.for QL1 it b,.done (yz yy,z.2.1,z.2.2),.cons Q3 (.cons QZ4 .nil),.call itl QL0,.bl (liA n f),.Name x p,.BoolOp .Or (b::rest) pos,⟨a,vs,e,h1,rds_lo k h b⟩,⟨Qz1,L.at λo e=>Ve _ e⟩,⟨Qz1,(hl.push _).push _⟩,⟨I.sr,.refl,by simp[RD]⟩,{s with heap:=s.heap.push o},[yz QX,yy,yy,yy,yy,yy,yy,yy],0,0,0,0,0,0,∀E,PGs QX4 es (gNs is),(·<=·),snd b X sc N y hN hs B L,r.drop (HT.sIx Qn2 0 li),qs.map λq=>(q.1,Ux q.2),h pc s σ H ρ S env I B,call Qd7 [.ref a,.ref x],cE k elt gens scope cpos,(by rw[Xdq];calc Xam hn QJ8),Xkg fi t n tf body env S,Vct .Mult QO5 (.int k u),Vad (Vb2 ?_ rfl) rfl rfl,U1 hz rfl (x:=f1) rfl ?_,Option Expr×Option Expr,.sli Q5 .none (.some Q4),.cons Q4 (.cons Qj5 QH0),.Compare a Qk8 [b,c] pos,(is.zip vs).foldl Q21 σ,((Vq n).map λk:Nat=>.int k),((Vq m).map λk:Nat=>.int k),(QZC.take i).flatMap prw,(#[]:AV),⟨o,h⟩,⟨h1,h2,L,B⟩,⟨af,e2⟩,[t1,t2],[a,b],[Xc n,b1,b2,b3],[Xa l],[Xa f,c1,c2,c3],[Ux i,Ux j],[.ded],∀i,i<l->LeK R Q78 QEB,∀b∈fp,Xa5 X pc H' b,λu s' z=>?_,λo e=>m.heap Sa o hw e,0,0,0,0,0,0,0,x.tup a xs h,sizeAbove (grown Q17)-1,rule "list.sort.gallop",ho.ex I q λx s' z=>QJ0,eval o X.env,cut xs lo hi,callAny (.type "set") _,(by with_unfolding_all rfl),(by simpa [Xa7,Xi] using e),(by rw[L];calc⟨_,I',q⟩),apos.endLine==cpos.line,Xim scope sc,Xi9 I.sr QD1,Xc5 (Xd1 hn),Vbm (opC o2),Vbm (opC o1),U2 hi QB λh1 e1 c1=>?_,U1 (s:=Q34) t1 t4 t5 ?_,T.pf.calm h0,T x,(Sum.inr a:Key),(Sum.inl a:Key),S++[.dct []],OkS X pc σ ρ H na Qa0,L2.upd H p u,L2.upd H p o,0,0,0,0,0,0,L2.upd H a u,L2.upd H D u,FT T G (k+9),ExS X pc σ ρ H na Qa0,.frz (.bin .add QA QA0),.Slice lo yy (yz st) p2,(0:Nat) != 0,⟨rfl,l,l,rfl,a2,a4,a5⟩,⟨hp.push QY,g,d,tk,os⟩,∀b∈fp,Xa5 X pc H b,λd hd S=>Xi0 rfl hd S,λ_ q=>q,outer.names.lookup y.1,o.push _,ma _ QF8,fo env S,(by show Qy4=yw;rw[L];rfl),(by show Qy4=yw;rw[B];rfl),(by rw[hj];simpa using ew),(by rw[Vf];calc Xdp _ _ S),(bits h%(t.mask+1),bits h),ab.trans (ae.trans aa),Yn hs h1,Xd B.sr (B.inv.tok tk),Xca hn _,Xb h2 Xz,Xa s,Vea Qo9 (pure (n:Int)),Ve _ QS3,Vd3 L t2,Vcf Qm0 scope.names [],Str×Vff,(QZC.map λk:Nat=>D.int k),I.wish E,FT T G k,ExS X pc σ ρ H yw r0,0,0,0,0,0,0,0,.ref s3.heap.objs.size,.ref Qm0,.isi Q5 [.list,.tuple],.cons QK (.cons Q5 QJ),.cons QF Q97 .nil .nil,.cons (.for t it b) ss,.builtin "set.__new__",.bool yw,(n.take i).flatMap lpt,(ah.trans ab).trans af,(ab.trans ac).trans af,⟨n,S1,B,z⟩,⟨_,oL,rfl⟩,⟨_,ho,rfl⟩,⟨_,ha,rfl⟩,λc v B q=>k c v ?_ q,z.2.2-z.2.1,yz QQ1,yz Q40,(yy,o.push x,i+1,j,g,c,d),(yy,i-1,j,o.push x,g,c,d),(yy,i-1,j,o.push x,c+1,0),(yy,i,j-1,o.push x,0,d+1),xs.all λx=>wi x 0 15,w1++w2,st.trans aa,0,0,0,0,0,0,prs.take 60,p+Q70+(B+e),opA an,lo-hi,lg us<lg vs,ks.map λk=>D.tup Qs1,its t n (its t c QV3),i+k,evit F G it,cE k elt gens sc cpos,a.map D.int,Yj g2 g1 ik,Xgd hA ma hB Q0 Q0 ?_,Xe3 iln itl,Xdw x y v S,Xat X.N QR3,Xag L,Xa0 ..,Vfc ..,Vct .Add QO5 (.ref b),Stp.new1 hp,S++QQ9,LstA X.K Da,List.take_sublist _ _,I.hok b u q,I.cne x c e,F.args_tuple_lt_2 _ _,ExS X pc σ ρ H yw r,.yield (yy,z.2.1+1,0),.str x,.ret (.frz (.srs Q5)),.ref L.heap.objs.size,.ref B.heap.objs.size,.int n,.int (Qs1.length:Int),.inl z,0,0,0,0,0,0,0,.inl h,.idx Q5 QH1,.for QF (.rng Qx) QF3,.cons QF Qr,.cons (.frz QX2) .nil,.call ab Qg,.call aa Qg,.asg QH1 (.lrg yw Qp),.asg Q5 Qt5,.Constant .none j pos,!xs.isEmpty,!t.led && !es.isEmpty,⟨rfl,λ_ _ _ _=>rfl⟩,⟨rfl,l,rfl,c2,c4,c5⟩,⟨_,rfl,λ_=>rfl,rfl⟩,∀v,(x,v) ∉ binds,λd=>.tup [.int i,d],sliceAdjust l yy c n,r.toList++QYA.drop B,o++b.extract j (j+k),nets.fnt 7 (Xet _) _,nets.fnt 7 (Xet _) Y,(by show 6<=1000;decide),Rws.item ⟨hn,rn⟩,QG6.map λe=>Xcf e.2,ExP X pc σ ρ H QwC,0,0,0,0,0,0,18446744073709551616,.mth .append QL1 Q61,.cons (.var jl) .nil,.cons (.tup QI) .nil,.cons (.frz Qa) .nil,.bl (decide (Qr5=i)),.Call fx args [] pos,⟨target,iter,ifs,0⟩,⟨by omega,by omega⟩,⟨_,rfl,r⟩,⟨_,rfl,by omega,h4⟩,⟨_,keep b o' e1 hm⟩,⟨_,L,rfl⟩,⟨_,H,I.kept k,?_,q⟩,[Xc n,d],[.ref p],[.lst B],[.bl b,.bl b],λp=>decide (p∈l),λd=>Xa (Xj d++[y]),yz c,x::y::z::r,x.above y c (Vc1 h),storeName X.env x u,seqItems? QO5 >>= _,qs.any λq=>Vdg q p,q+z.2.1,o.push QZ5,o.push QF5,nets.fcx k B.pd h S,mergeAt' i,lg B,k∈ps.map Qu/\B=ps,kdD S x,kat b 0,kat a k,0,0,0,0,0,0,0,k==0||k==c,k ≥ 2^63,items.isEmpty||k==1,intBits_le_64 h1 h2,hv yy L,hf b hb,ev b env S,(by simp![B]),bs.map Vfw,below xs j,Xp h hp,Xjq _ _,Xhr B L,Xe8 h H,Xcv X.N N2,Xb0 S 4,X2e B _ _ _ _ _ _ _,Vq es.size,Vq (runEnd m i+1-i),Vdr QR1,Vbi _ B,Vaa (Xam hn QJ8) Q1,Ur h,Up B,Stp.upd hp,Sm 5 13500,0,0,0,0,0,0,S'.take QE,QZD.extract q (q+m),QZD.extract (p+k) q,I1.inv.hok.fresh le,I1.inv.hok.fresh Qw,H.bn n B.ne B.len L,F.args_zip_next_1 _,2*x.1+x.2.1+x.2.1+n,.tbl ps,.ref C0,.nx Ql4,.lst es,.int 15,.head _,.fro [],.ext (StO QV1 a ps),.dct [],.cons t it ifs .nil,.cons s ss,.con ds,.call L Qp,.bool b,.UnaryOp .Not a pos,.Name "enumerate" p,.Constant QF0 j pos,(zs.filter p).map f,(Xdh T.tb _).mpr n2,⟨hp,gs,dw,tk+1,os⟩,[.int i,.int 0,.int 6],λx=>Qx0.set i QDD,λw s2 z=>z.pre aa,λenv S=>.ok QQ4 S,(·.setIfInBounds j u),t.place.getD i 0+1,sizeAbove wanted-1,setEntries a >>= _,0,0,0,0,0,0,0,s.heap.objs.size+4,ow.getD QhJ (yz 0),nets.fcn k hn Q1 S,(its.toArray.size:Int),hB.kp.mem ma _ QF8,fieldsOf QR1 >>= _,c1.extBut _ _ e1 e,(by rw[Vo,aa];calc hi),(by let:=hn.len;omega),boot_heap w.params,am.trans QzE.toMon,Xm (a:=.var 2) rfl,Xm (a:=.var 1) rfl,Vq clsNames.length,U.drop k++V.take m,RDs.mono' x _ _ h2,QW0.push (itO b l),B.heap.objs.size+3,B.heap.objs.size+2,B.heap.objs.size+1,.type "ValueError",.Tuple elts x1 pos,.Slice lo hi yy p2,.BoolOp .And QED p,((sIx n n hi:Nat):Int),⟨i,j,rfl,rfl,rfl⟩,0,0,0,0,0,0,⟨hi,λx H' y=>?_⟩,⟨h.1.1,h.1.2,h.2⟩,⟨_,ae,rfl,nl,rfl⟩,⟨[u],[]⟩,⟨?_,λp hp z=>?_⟩,{ A with handled:=yy},[yz QN,yz Qz2,L,B,x4],[yz QN,L,yz Qr6,yy,B],[v,ov,iv],[B++[15]],[.fro QQ],["thing"],λz=>B (V6.mpr z),λi j aa hj e=>?_,(λi j _ _=>by omega),λ_=>T.pf.calm h0,λ_ _ z=>z.pre aa,(· == b),yz Q7,yz (.int (c:Int)),(x,.free),upd H x o,sc.names.lookup x,rd.mono L,r.ob n a ob h1 h2,qp.map Qu,q+z.2.1-(z.2.2+1),prt l,lrN t,lpt l,lo+hi,lg ys,kp b u hb,k < -2^63,h m st hB m1 m2 L,forIn _ _,0,0,0,0,0,0,0,field QR1 1 >>= _,field QR1 0 >>= _,field QK2 2 >>= _,field QG4 3 >>= _,field QG4 2 >>= _,decide_eq_false B,call f us,(by rw[r.len];calc b),(by rw[Vf,Vic];omega),(by let:=Xjv B;omega),bubble QM i (i-j),Xsi nd hs (Xpe s),Xhc a b Qw5 i QPD,Xfc _ _ _ _ _ _ _,Xdz ig it,Xcn a b Qw5 QkG j,Xat N QR3,Xak z.2.1,Xae c,X3 hi,Va (m:=Vbn _) Q4H,S.set n (.st QeB),PySem.W.clsIn K C,PF cm F G fns gns,Option Unit×Unit,B.fc s hs,0,0,0,0,0,0,B.extBut _ _ e1 q,B.extBut _ _ e1 e,B.calm h1,.ref h'.objs.size,.lst (ws.set j v),.list [.tuple []],.int k tk,.idx Q5 (.neg Q4),.done Qy6,.done (yz (),z.2),.cmp .notin QF Q5,.cmp .isin Qj5 QA,.bin .sub QMG Qf0,.Name "sorted" p0,.BoolOp .Or QED p,(Xb6 hc).trans ?_,((QlG.toNat:Nat):Int),((QdJ.toNat:Nat):Int),⟨I4,I3.sr,I3.er⟩,⟨?_,λi d e=>?_⟩,[yz Qo7,yz a,yz b,x],∀i,i<m->b i=yx,λj=>L.getD j yy,λenv S=>tst Qa0,yz m,yz Q62,xs++ys,wpAny_handled ?_,pth t.mask Q31 n,pickOrder Qf9 es,p.append_right _,opB op,ns.map WData.int,nS w,lg x,lg own,0,0,0,0,0,0,0,hf c B,hf b B,he _ rfl rfl Qj4,gcR S (.ex n S1),e3.trans e4.symm,call Qb2 (v::us),(by rw[g1.sz];omega),bits h,assign QEF X.env,Yd QPE,Y2 (Xdr rfl) QF6,Xo1 st,Xat N (Y1 z.2.2),Vn m its.toArray,Vev QC,Vek hA,Vei ..,Ve _ q,Vdi xs,Uv T,U0 QR1,S++[.lst (x++y)],Qx8.probeStart h,PIE X pc σ tg R,L b hb,B++[y],0,0,0,0,0,0,.ref r,.own x,.own a,.ite Qc0 Q8 .nil,.int 0,.int (i^j.toNat),.done (yz (),()),.cmp .isin QA Q3,.blt .sorted Q61,.Name "sorted" p,.Name "range" p2,.IfExp c a b pos,(ab _).trans QY8,(aa _).trans QY8,(((sz+1)%7:Nat):Int),⟨rfl,yy,yy,rfl⟩,⟨rfl,h⟩,⟨o,a,c⟩,⟨hg,rfl,L _ Q0⟩,⟨hg,rfl,B _ Q0⟩,⟨H,I,q⟩,{s1 with heap:=h' },{s' with heap:=h' },[yz Qc1,yy],[yz QA1,yy],∃u,H a=yz QW1,λx hx y hy=>?_,λx B=>hf x QLA,λk=>!k.isEmpty,λi hi Q' L=>?_,λb z=>aB0 z QB,λb o e=>Ve _ e,ys.map f,setItem ov iv v,s.heap.push QN0,p.mem_iff.mp q1,0,0,0,0,0,0,0,p+x,ne b _ z,kdD S1 d,hn.sm Q1,hT o' e1,(h1 λz=>nomatch z),ga env S,(by simpa using q3),(by simpa using hv),(by simpa using h2),(by simpa using c'),(by simp[Xar,h,U5]),(by simp[Vo];omega),(by rw[h.sz];omega),(by rw[Vo]<;>omega),(by rw[Vaw];calc h),b.extract k QPD,ai.empty x c hm,a.toList.drop q,a.toList.drop p,Xcn a b (o) i j,Vd3 B t1,Vcx s'.heap QVC,Va5 ho hd ft ?_,Va (Vfx hi Q71),Str×Pos,0,0,0,0,0,0,S'.take QE++[o],QvH++vs.toArray,QA4->BM mg base,Option V,Itz K k1 k2 a b,I1.inv.ok.hd hc,I.ok.noex b o e,B.map Qu,.zpp s t,.yield (yy,t+n),.tup Qc9,.ref QfD.length,.ok d S',.ite Qj Q8 .nil,.int i t,.frz Qd1,.ext (ExcO C p),.error e,.empty QjG.j yy,.dict [],.cst QS8,.cst QRA,.cst QF0,.cmp .ge Q3 Qx1,.cmp .eq Qr0 QF,.builtin "repr",.bl (wi d B hi),.bl (bs.any id),.bl (!r),.aset Q3 QK Qr7,.Tuple ts x0 tp,.Tuple es x0 tp,.Tuple es k pos,.Name "range" p,.BoolOp op ys p,(n:Int)-(i:Nat),0,0,0,0,0,0,0,⟨x,p,rfl,h2.2⟩,⟨l,hl,rfl,rfl⟩,⟨j-1,by omega⟩,⟨e,by omega,q⟩,[yz Qc1,yz Q7,x,y],[yz QQ1,yz QQA,yy],[d,.int B,.int hi],[.st []],[.int j],λ_ _ _ _ n=>n,(yy,u,v),(yy,l,r),t.probeStart h,sr3.stop I3 g1,runEnd m i-i+1,rnd m 13 (i,q),ks.foldl ddR B,kat QM (p+m-1),execs st X.env,eval Qs7 X.env,ev F G a env S,(by simpa using z),(by rw[B];trivial),(by rw[B];calc V3),a::frs X.stack,Yg Q0 (Vv QS2),0,0,0,0,0,0,Xg9 λaa L=>?_,Xg4 B.units op,Xg4 B.units o2,Xg4 B.units o1,Vbh X.prog X.w,Vaa (Xgq n) hn,Uv B.objs.size,L.inv.ok.hd hc,L.hok.fresh Qw,I.inv.ok.hd hc,.ret (.lst Qo),.ret (.frz Q5),.ref B'.length,.lst (vs++[v]),.frz (.sst Q3),.cons QnD .nil,.cons QfE .nil,.cons QL1 .nil,.cons Q4C .nil,.cmr k n L elt,.cmp .ne Qa QA,.call Q39 args,.builtin "any",⟨o,ho⟩,⟨hg,.inr Q1D⟩,⟨e,?_⟩,⟨_,hf⟩,⟨H,I.tok _,q⟩,⟨B,?_⟩,[yz Qx5,yz Q7,yy],[yz QN,L,yy,yy,B],[d,.int 0,.int 6],[.lst QG3],ρ++[p],ρ++[a],λz=>?_,0,0,0,0,0,0,0,λe=>?_,λ_=>yy,λDa=>LstA.ok,z.2.2.2.2.1-1,yz g,xs.eraseIdx j,x.2.2.2.2.1+1,vNm y.1,vNm e,trk h H,srtC_mem.mp h,setArr st QD9,sB w,rwF n,rnd m r (i,q),ret Vbw,q.1.map V.int,p+k,p+j,nx b,min (t-z.2) m,lg qs,lg is,l.map g,l.foldl ddR B,kat a (p+x-1),0,0,0,0,0,0,k-QuB,k+2,its Qx8 c QK3,hO.as e,forIn its _ _,f v u,drws.kd (k+5),ddR B k,(by rw[z1];omega),(by rw[Vz];omega),(by rw[Vf];omega),ask _ Q0 _ ?_,an b hb,a.size+b.size,Y1 sc,Xp e hD,Xk3 (onx QMA),Xeb B,Xcm a b o i j,Xch _ (Xek _),Xa a,X3 h,Vt L,Vq n,Vn k.toNat xs,Vk.mp e,Viq _,Vh0 _ _,Vgi _ _,Vg8 z,Vf5 a b v' u',Vev Q40,Vdw _,Vd1 _,Vd this,Vcx s1.heap l,0,0,0,0,0,0,0,Vcx s'.heap l,Vbm QJD,Vbh P w,Vat QG4 >>= _,Uo.mp B,Str->OV,S1++X,S1++QQ9,S++[O.dct []],S++[.lst QB8],QG1.length<29,Q29.most S1+1,L rfl,L b B,Itl K a,I.inv.kept k3,ForInStep QJ6,B fr3,B b o e,.type U,.tup ys,.some e,.rng es,.rev Q5,.ret QW,.refl _,0,0,0,0,0,0,.ok d S,.ok (.ret QC),.lst [.int k],.int 60,.int (sz:Nat),.inl Qw,.exc c',.call itl QL9,.call ibn QI4,.blt .repr QJ,((m/2^a:Nat):Int),(#[Ux i,Ux j]:AV),⟨w.2,ab w.1⟩,⟨vs,hD',ra'⟩,⟨siz,hs,rfl⟩,⟨rfl,rfl,on⟩,⟨L,r,rfl,hr⟩,⟨B,r,rfl,hr⟩,[yz Qc1,yz Q7,x],σ.set i QSJ,(λq=>nomatch q),λn s ih=>?_,λ_ _ _ e=>e,wants Q₁ E,pre_splitW L,n.drop (a+1),ks.map V.int,ks.getD i [],kat xs (q+j),items.size-0,hQ r _ hg hr,fl=yx->cm=yx,evts F G ifs,eval c X.env,ev elt env S,call Qd7 Q9F,0,0,0,0,0,0,0,call Qb2 Q9F,below xs j+k,Xim z.2.2 sc,Xe (Xp B hp),Xa n[lg n-1],Vq QlG.toNat,Vn k.toNat x,Vei a s.heap,Ve9 (ep:Int),Vdx (Vd Q71),Vdb tg QR1 u,Vby cpos Qv0,Va0 "0" ++ y,Va (Vdx Q71),T.obj _ _ t5,St->Hp->Prop,S++[.st Qy1],S++[.lst ds],(QvG.length:Int),Qn0.trans ?_,QP1.push Qf5,QK0.push QE0,QC4.length=1,FT T G QG5 f,FT T G (k+3),B b hm h1 h2,0,0,0,0,0,0,A.deeper QV2,.type "list",.rfl' c2.pot,.int (v/far),.int (a:Int),.fro [Xa []],.cons QgE Qx,.cons QF QH0,.cons QA QH0,.cons Q3 Q03,.call it QW2,.call it QS1,.call ilf Qo,.asg QDH Qo1,(h b).mpr V8,⟨z,H,I,L,q⟩,⟨o,h1,h2.1⟩,⟨o,e _ B,r⟩,⟨_,q⟩,⟨_,B⟩,[yz Qc1,yz QF0],[yz Qc1,yz Q0J],[yz QT7,yz QT7],[e,it],[O.lst B],[.tup xs],[.st QL7],[.st QBA],[.int i,.int i],["net","thing"],λz=>q1 QEE,λb u e=>?_,z▸hx,z▸V8,yz z.2,yz Ql2,0,0,0,0,0,0,0,yz QT0,yz QL2,yz QK6,yz (.ref 6),x.pre n a h,upd H p QcC,upd H l QKH,upd H a QE3,st.out h hn,ps++[(k,x)],prs.take 61,p+i,(nm,T),na=yx->B=σ,mb _ (X7 B),k.map V.int,k+4,its Qx8 n p,iN0 hb,i2 x B,i != 0,h1.push Qm1,gNs is,g1.trans h1,g x,fs.lookup f,0,0,0,0,0,0,frs X.stack,e0.bs b o e,ds++aa,collect QhB,c2.trans a2,bs[i]?,bs.map V.bl,bs.map D.bl,a₀.size-t,ah.trans a7,ae.trans ab,aa.trans ai,a=b,a==Vci,Yd (n++QjM),Xw rfl,Xtl X Da ks,Xp q B,Xlf rfl Q01,Xk8 h.dep l,Xjk st,Xiy a b d e,Xi S x,Xhy vs li B,Xfw rn,Xat X.N own,Xag hn,Vq QCB,Vio ?_,Vi5 Q39 Qp6,Ve9 (T:Int),Vcq L hd ?_,Vc7 st,Vbz ?_,Vb3 Qs3 env,Uj Q0F,0,0,0,0,0,0,0,Sm 7 165000,Qn0.trans h,QUG.map prZ,I.hok b u e,F ds S,B++its,2^63-1,2*x.1+x.2.1,(0,.none),.tup (x++y),.rt Q7,.ret v,.ret e,.ref B,.of k2,.mth k o es,.int y,.int x,.int k,.int 7,.int 2,.inr z,.inl q,.frz og Qs6,.frz e,.enm s,0,0,0,0,0,0,.cst d,.cons Q5 Qp,.call ae QJ,.call L Q72,.call B Qw1,.call B QW2,.bl (rzL n),.bl (riz l),.bl (Xgp n),.asg QA Qt5,.asg QA QBK,.Name Q2N p,((i+1:Nat):Int),(h a).mp V8,!vs.isEmpty,!decide Q8B,!byT w,!byT w&&Q94,⟨v,rfl,h1⟩,⟨u',r',?_⟩,⟨hg,rfl,B⟩,⟨h1,h4,h5⟩,⟨_,hi,rfl⟩,[yz d,yz Q7,x],[yz QN,yz Qz2],[eval c X.env],["_law_thing"],λm hm=>?_,λi hi=>?_,λd=>q QvG,λa b=>b=a,yz i,yz e,x="sorted",upd H x o',upd H Da u,0,0,0,0,0,0,0,rd.mono ab,r1.mono st,o.push Qk7,o.push QOD,newList [],lg a,l.map .int,l.filter p,ks.map Xkm,kat QM QAP,hn z,h1.mono' x,h.dat look,eval o env,eval c env,ev o env S,ev c env S,datFs B xs,(by rw[eq,q3]),b::l,ae.trans L,adk hm QJ8,a2 k k1 k2,_&&_,Xew hd rfl,Xb2 c=yz x,0,0,0,0,0,0,Xa b,Vt z,Vq (lg bs),Vq (2^QX7),Vf7 ?_ QU9,Vaj ?_ QlC,Src.con xs,Qh5.map Xa,QaJ.map Xa,QC4.map Xa,QBB.map Xa,Q81.hash k,Ne.symm hj,Ne.symm aa,Expr×Expr,B++.ded::X,A.deeper _,.yield Qy6,.int (i/j),.int (i-j),.int (i+j),.int (i*j),.int (i%j),.frz o Qs6,.frz .dct0,.call B Qr,.call B Qp,.bin o a b,.asg QL1 e,⟨w.2,rfl⟩,⟨w.1,rfl⟩,⟨v,?_,h2⟩,⟨rfl,fin⟩,⟨o,ho,hd⟩,⟨o,h1,h2⟩,⟨_,q,rfl⟩,0,0,0,0,0,0,0,⟨B q,rfl⟩,[yz Qc1,yz d],[opC L,opC B],[Xc n,.int i],[.ref p,Xc n],[.int v],[.int 1],ρ'++[Da],λx=>!x.1,λk'=>Vca,(·.2.1),zs.drop i,xs.take n,xs.take i,xs.drop n,xs.drop 1,v2 Q2G S4,topStub p,t.put Qy8,rnd m r p,q+z.2.1-1,prw j,nl-np,min QHE c,lpt s,ks.map Xa,0,0,0,0,0,0,kat a QSR,kat a QLU,kat a QAP,k2 _ _ aa,j+1+k,its t L p,its t 0 p,ite c t e,ints_of s,h.dat QPL,grt n,grown QoG,frs outer,fc env S2,denote tb,d::ds,cne y c e,cm||Xtu k,b+2,Xuk c3 a3,Xuj b b S,Xtx e,Xpb n,Xoq e,Xo6 x b S,Xk op,Xk o2,Xk o1,Xjm B,Xig m,Xfo il ia,Xeb z.2.1,Xcs ih ic,Xca QyI _,Xb9 io it,Xat N own,0,0,0,0,0,0,0,Xah B,Xae k,Xae c.val,W.sub _ h,Vgx _ _ _,Vfx hz ?_,Vd7 r,Vd (Vd h),Vct .Mult,Vcm ab ?_,Vb6 _,Vb2 ?_ hs,Va3.mp ht,Va ?_,V5 hd,V5 ey,Uj lb,S.set n o,S++X++QqK,Qv.map Xj,Qr5=i,QXF,Ne.symm z,Ne.symm e,N+min x 1,N+min 0 1,0,0,0,0,0,0,L.map QG0,L _,J.ok.hd B,Ite K k a,I.ok.hd L,H.sb _ S',Expr×Pos,B.trans L,B+e,.tuple qs,.sad o es,.rt r,(.none,.none),.fro odds,.fn f2 n2,.fn f1 n1,.bool QgG,.blt k es,.bl x,.bl t,.bl (q x),⟨u,r,?_⟩,⟨_,q,hd⟩,⟨_,_,Xu⟩,⟨[a],[]⟩,⟨Q8C,[]⟩,[yz d],[.Name x py],ρ++[Da],λ_ z=>z,λB h=>h,z.pre aa,typeOf v,pt S p k,ne c _ z,n.take a,0,0,0,0,0,0,0,mx _ QF8,mb _ QF8,lg xs<=6,kat xs j,kat xs i,kat QM y,kat QM x,hO.as lt,h2.1 x L,h1.1 x L,ev F G o,(by cases q),ae b o e,ab x c z,a8 x c h,Xxz hn B,Xlh _ w3,Xd5 n xs,X1l hb.1,Vu.mp hb,Vn k its,Vk.mp hi,Vgv _ Q0,Ve _ Q2J,Vcb.mp B,Vah.mp h,0,0,0,0,0,0,Va3.mp h,Va3.mp B,P.zip vs,List Q35,L y B hf,Itr lo n,Itd lo n,Hp->Prop,H.tk QG5,.val QH1,.type id,.rng Q03,.ok d S1,.of hb.2,.not Qp9,.lst QtE,.lst QG3,.list qs,.int x t,.inr QnF,.inr Qg6,.inr Qd0,.inl Qu2,.frz Qt5,.frz QlL,.frz Qa1,0,0,0,0,0,0,0,0,0,0,0,0,0,0,0,0,0,0,0,0,0,0,0,0,0,0,0,0,0,0,0,0,0,0,0,0,0,0,0,0,0,0,0,0,0,0,0,0,0,0,0,0,0,0,0,0,0,0,0,0,0,0,0,0,0,0,0,0,0,0,0,0,0,0,0,0,0,0,0,0,0,0,0,0,0,0,0,0,0,0,0,0,0,0,0,0,0,0,0,0,0,0,0,0,0,0,0,0,0,0,0,0,0,0,0,0,0,0,0,0,0,0,0,0,0,0,0,0,0,0,0,0,0,0,0,0,0,0,0,0,0,0,0,0,0,0,0,0,0,0,0,0,0,0,0,0,0,0,0,0,0,0,0,0,0,0,0,0,0,0,0,0,0,0,0,0,0,0,0,0,0,0,0,0,0,0,0,0,0,0,0,0,0,0,0,0,0,0,0,0,0,0,0,0,0,0,0,0,0,0,0,0,0,0,0,0,0,0,0,0,0,0,0,0,0,0,0,0,0,0,0,0,0,0,0,0,0,0,0,0,0,0,0,0,0,0,0,0,0,0,0,0,0,0,0,0,0,0,0,0,0,0,0,0,0,0,0,0,0,0,0,0,0,0,0,0,0,0,0,0,0,0,0,0,0,0,0,0,0,0,0,0,0,0,0,0,0,0,0,0,0,0,0,0,0,0,0,0,0,0,0,0,0,0,0,0,0,0,0,0,0,0,0,0,0,0,0,0,0,0,0,0,0,0,0,0,0,0,0,0,0,0,0,0,0,0,0,0,0,0,0,0,0,0,0,0,0,0,0,0,0,0,0,0,0,0,0,0,0,0,0,0,0,0,0,0,0,0,0,0,0,0,0,0,0,0,0,0,0,0,0,0,0,0,0,0,0,0,0,0,0,0,0,0,0,0,0,0,0,0,0,0,0,0,0,0,0,0,0,0,0,0,0,0,0,0,0,0,0,0,0,0,0,0,0,0,0,0,0,0,0,0,0,0,0,0,0,0,0,0,.frz QY1,.frz QL1,.fro Q4A,.ex n S',.cst Q7K,.cnt env,.brk env,.bl (!b),.and a b,⟨r,e,w⟩,0,0,0,0,0,0,0,⟨o,e,d⟩,[yz a,yz d],[b1,b2],[a,b,c],[O.lst [d]],xs++[v],x==n,x<=y,x a o e,tst QU0,tk yy L,rwF Qh5,rwF Q3N,rwF Q1N,rest Q0,q+z.2-1,pkb l i,(p,n,v),p+Q70+x,o=f,na&&na2,m.2 p L,m-1,lo+k,lg m,lg hs+1,0,0,0,0,0,0,kat b k,kat a j,k+6,k+5,k+3,ih _,iP0 QsG,i==j,i+n,hv x4 S,hs x QB,hb _ m1,hb _ Q1,h2 p hp,h.2 x B,(h,x),fiv m x,f0 b hb,dr yy L,al b hb,ab x hx,a++b,([]:LR),Yn hs L,Yg B ?_,Yd n,Yd l,Xxe _ _,Xv4 b l,Xrq b l,Xp q hD,Xor z.1,Xkb k l,Xj7 P w,Xj s,Xic x l,0,0,0,0,0,0,0,Xh L,Xbt QD6,Xbp QMA,Xb0 S k,Xav _ B,Xa2 Qa0,Xa2 QT1,Xa f,Xa B,X3 B,Vu.mp L,Vq k,Vk.mp B,Vjf _ _,Vi 2,Vf3 _ _,Vdr QK2,Vdr QG4,Vct Q5O,Vbi _ z,V5 B,V4 _ hx,Uz.mp q,T y,Str×Vb,S1++Qk2,0,0,0,0,0,0,(R.ok · S),(R.ok · L),Q93[i]?,List α,Itt K a,B.at ?_,B++o::X,B++[15],B'++Q1A,B _ Q0F,.zpp es,.tup es,.tup Qp,.tup Qo,.rng Qx,.ret Q5,.or a b,.int sz,.int 10,.inr hy,.inr hx,.inr Q0,.inl hx,.glb g2,.frz Qk,.frz Qi,.fro w1,.enm es,.dK kvs,.bool r,⟨xs,z⟩,⟨u,h1⟩,⟨t,?_⟩,⟨k,?_⟩,[B.drop 1],[.lst QI1],0,0,0,0,0,0,0,[.int n,x],[.int i,x],[.int i,v],[.int a,_],κ×Vb,(· == yx),z▸hb,yz QmF,yz Qk5,yz Qb2,yz QQA,yz Q39,yx==yx,vs++us,us++ds,sm j B,pc++pl,oD0 h2,oD0 h1,lt a b,lg env,l++[x],hs s h,hb b n,h s QB,gl _ _,0,0,0,0,0,0,f2 b L,ddL rs,c != b,(by rw[z]),(by rw[B]),by rfl,b0::su,ab c z,Xrr lS,Xp q L,Xl4 ?_,Xj QA1,Xig nm,Xhs rn,Xgs gS,Xgn it,Xfw hn,Xfk h5,Xek ks,Xd1 hn,Xcp is,Xc QAG,Xbw ns,Xbp ap,Xbl il,Xbd st,Xag hl,X3 rfl,Vhp h4,Vfa ?_,Vf3 ..,Vdk ?_,Vd7 ok,Vd Qg2,Vc3 aa,Vbg lb,0,0,0,0,0,0,0,Vbg hb,Vb1 hc,Va Q71,V4 _ L,T++Q6R,Str×V,S++[a],S++QqK,S++Qk2,S++QHQ,S++Q5I,Qr5=sz,Q6H=yx,L B h',B++QsA,B++Qq4,.var 9,.var 8,.val e,.tbl q,.str i,.str b,.str a,.rt Qb,.ref b,.nx e2,0,0,0,0,0,0,.not a,.lst _,.int v,.int B,.inr h,.glb L,.cnt e,.brk e,[z.1,z.2],[x,rwF n],[v,u],[p.1,p.2],[O.lst L],[.tup []],[.lst xs],κ×V,(·++[x]),(· == c),z▸e,yz QC,x∈l,x=y,x<=15,(x,c),vs++B,vUn e,v%far,t+n,q+z.2,q+k,q+i,ps++L,prw i,p+m,p+Q70,n-h,0,0,0,0,0,0,0,(n,k),lg fs,lfc n,k-1-i,k+8,j-1-k,(j,·),iP0 L,i-k,(i :: ·),h-v,h+u,h+1,h x,h x B,f y,ddI L,c+n,b+a,aa ha,a<b,Yd ks,Xz5 e,Xxo n,Xw ?_,Xq1 h,0,0,0,0,0,0,Xov B,Xoo e,Xno K,Xn op,Xko _,Xkm k,Xio e,Xhs I,Xh h4,Xgs g,Xfx h,Xfw I,Xfd _,Xfa p,Xet n,Xd1 L,Xbw _,Xbt r,Xbt l,Xb2 c,Xaq n,Xaq _,X3 h1,X3 g1,X1f i,Vy hb,Vt aa,Vq tn,Vja _,Vh1 B,Vem q,Vd h1,Vc7 s,Vax s,Vae _,Vac f,0,0,0,0,0,0,0,V5 e2,Uy ?_,Ur e',Uj ha,QXF+B,(L,nm,ap),H x,AR Da,2^a,10^20,.rt x,.ok f,.nx B,.bl y,.bl c,[opC o2],[Xa f,d],[4,9,15],[.ref n],[.lst L],[.int i],[.int c],[.int 0],yz y,yz u,yz k,0,0,0,0,0,0,(yy,0,1),x=nm,uA a,rc _,qm b,(q,m,v'),o++c,o++_,n'-c,mA f,m=nm,lo-k,lo-i,lo+i,k<=0,he _,hd _,hN w,c==b,a==b,a::l,Y3 L,Xa k,X3 L,Vy q,Vy B,Vd q,Ur B,B<=i,2^64,2^63,0<=x,(-1:Int)]
def oD0{p:Prop}[Decidable p](h:decide p=yx):p:=of_decide_eq_true h
def aB0{a b:Prop}(h:a)(k:¬a):b:=(k h).elim
def iP0{c:Prop}{i:Decidable c}(h:c){α:Sort u}{t e:α}:QhX=t:=if_pos h
def iN0{c:Prop}{i:Decidable c}(h:¬c){α:Sort u}{t e:α}:QhX=e:=if_neg h
def gZ0{α:Type u}{a:α}{l:List α}:Quf[0]?=yz a:=rfl
def gS0{α:Type u}{a:α}{i:Nat}{l:List α}:Quf[i+1]?=l[i]?:=rfl
def bA0(a b:Bool):((a&&b)=yx)=(a=yx∧b=yx):=Bool.and_eq_true a b
section
namespace L2
open PySem PySem.Spec PyProof.Rows
private noncomputable abbrev Key:=Sum Int Str
abbrev X1e:Key->Vb->Bool
 |.inl k,v=>Value.isInt k v|.inr x,v=>Value.isStrOf x v
abbrev Ydc(w:V9):Key->Int
 |.inl k=>hashInt k|.inr x=>hashStr w x
def Yq:∀ {k:Key} {v:Vb},X1e k v=yx->(∃i t,k=Sum.inl i/\v=Vfu i t)\/(∃x t,k=Sum.inr x/\v=Value.str x t)
 |.inl i,v,h=>by let⟨t,e⟩:=Vg6 (k:=i) (v:=v) h;calc .inl ⟨i,t,rfl,e⟩|.inr x,v,h=>by let⟨t,e⟩:=Value.isStrOf_shape (x:=x) (v:=v) h;calc .inr ⟨x,t,rfl,e⟩
def X5w(a b:Int):decide (QVI=Sum.inl b)=Qtf:=by
 by_cases e:a=b;·subst e;simp!
 ·let h:¬ QVI=Sum.inl b:=λq=>e (Sum.inl.inj q);rw[decide_eq_false h];calc(beq_eq_false_iff_ne.mpr e).symm
def X5x(a b:Str):decide (QUI=Sum.inr b)=decide QmU:=by
 by_cases e:a=b;·subst e;simp!
 ·let h:¬ QUI=Sum.inr b:=λq=>e (Sum.inr.inj q);rw[decide_eq_false h,decide_eq_false e]
def X5y(a:Int)(b:Str):decide (QVI=Sum.inr b)=false:=decide_eq_false QuS
def X5z(a:Str)(b:Int):decide (QUI=Sum.inl b)=false:=decide_eq_false QuS
abbrev Xj7(prog:V0)(w:V9):PySem.KeyKind prog w Key where
 is:=X1e
 hash:=Ydc w
 inj:=λv a b ha L=>by
  rcases Yq ha with⟨i,t,rfl,rfl⟩|⟨x,t,rfl,rfl⟩
  ·rcases Yq L with⟨j,u,rfl,e⟩|⟨y,u,rfl,e⟩;·injection e with e1 _;rw[e1]
   ·exact nomatch e
  rcases Yq L with⟨j,u,rfl,e⟩|⟨y,u,rfl,e⟩;·exact nomatch e
  ·injection e with e1 _;rw[e1]
 byValue:=λk v h=>by rcases Yq h with⟨i,t,rfl,rfl⟩|⟨x,t,rfl,rfl⟩<;>rfl
 pyHash:=λB h=>by
  rcases Yq B with⟨i,t,rfl,rfl⟩|⟨x,t,rfl,rfl⟩;·exact wpAny_pyHash_int h
  ·exact wpAny_pyHash_str h
 eqBool:=λhu B h=>by
  rcases Yq hu with⟨i,t,rfl,rfl⟩|⟨x,t,rfl,rfl⟩
  ·rcases Yq B with⟨j,u,rfl,rfl⟩|⟨y,u,rfl,rfl⟩;·rw[X5w]at h;exact wpAny_eqBool_int h
   ·rw[X5y]at h;exact SeqAt.EqAt.int_str i t y u _ _ _ _ h
  rcases Yq B with⟨j,u,rfl,rfl⟩|⟨y,u,rfl,rfl⟩;·rw[X5z]at h;exact SeqAt.EqAt.str_int x t j u _ _ _ _ h
  ·rw[X5x]at h;exact wpAny_eqBool_str h
 «strs»:=λk x t v h=>by
  rcases Yq h with⟨i,u,rfl,e⟩|⟨y,u,rfl,e⟩;·exact nomatch e
  ·injection e with e1 _;subst e1;cases v<;>rfl
universe L2
namespace L2
open PySem PySem.Spec PyProof.Rows
inductive V where
 |non|bl (b:Bool)|int (i:Int)|str (x:Str)|byt (b:Array UInt8)|flt (b:UInt64)|ref (a:Addr)|ty (n:String)
 deriving DecidableEq
private abbrev LW:=List V
theorem RelV:V->Vb->Prop
 |.non,u=>u=Vbw|.bl b,u=>u=Vfw b|.int i,u=>∃t,u=Vfu i t|.str x,u=>∃t,u=Value.str x t|.byt b,u=>∃t,u=Value.bytes b t|.flt b,u=>∃t,u=Value.float b t|.ref a,u=>u=Ux a|.ty n,u=>u=Vb8 n
private abbrev Vals:LW->LV->Prop:=Paired RelV
def Vals.length{xs:LW}{us:LV}(r:Vals xs us):QU=lg us:=Paired.length r
def Vals.get:∀ {xs:LW} {us:LV} {i:Nat} {x:V},Vals xs us->xs[i]?=yz x->∃u,us[i]?=yz u/\RelV x u
 |_,_,_,_,.nil,e=>by simp! at e|_,_,0,_,.cons r _,e=>by simp! at e;subst e;calc QjK|_,_,i+1,x,.cons _ t,e=>by let⟨u,h1,h2⟩:=Vals.get (i:=i) (x:=x) t QT9;calc⟨u,by simpa using h1,h2⟩
def Vals.set{x:V}{u:Vb}(r:RelV x u):∀ {xs:LW} {us:LV} (i:Nat),Vals xs us->Vals (xs.set i x) (us.set i u)
 |_,_,_,.nil=>.nil|_,_,0,.cons _ t=>.cons r t|_,_,i+1,.cons q t=>.cons q (Vals.set r i t)
def Vals.append:∀ {xs ys:LW} {us B:LV},Vals xs us->Vals ys B->Vals Q0O (us++B)
 |_,_,_,_,.nil,s=>s|_,_,_,_,.cons r t,s=>.cons r (Vals.append t s)
def Vals.take:∀ {xs:LW} {us:LV} (n:Nat),Vals xs us->Vals QMX (us.take n)
 |_,_,0,_=>.nil|_,_,_+1,.nil=>.nil|_,_,n+1,.cons r t=>.cons r (Vals.take n t)
def Vals.drop:∀ {xs:LW} {us:LV} (n:Nat),Vals xs us->Vals QOX (us.drop n)
 |_,_,0,r=>r|_,_,_+1,.nil=>.nil|_,_,n+1,.cons _ t=>Vals.drop n t
theorem X50:Option V->OV->Prop
 |some v,yz u=>RelV v u|none,yy=>True|_,_=>False
theorem KV{κ:Type}:List Qpd->List QEc->Prop:=Paired λ(p:κ×V) (q:κ×Vb)=>p.1=q.1/\RelV p.2 q.2
abbrev kV:Key->V
 |.inl i=>.int i|.inr x=>.str x
inductive HO where
 |lst (xs:LW)
 |tup (xs:LW)
 |dK (kvs:List (Key×V))|dT (kvs:List (List Key×V))
 |set (S:Int->Bool) (n:Nat)
 |ins (C dx:Addr) (fs:List QFd)
 |own (x:Addr)
 |xd (fs:List QFd)
 |met (f x:Addr)
 |rng (lo hi:Int)
 |frz (o:Obj) (u:HO)
 |tbl (q:Str)
 |ext (φ:Heap->Prop)
private noncomputable abbrev Hp:=Addr->Option HO
abbrev upd(H:Hp)(a:Addr)(o:HO):Hp:=λb=>if b=a then yz o else H b
def Xu{H:Hp}{a:Addr}{o:HO}:upd H a o a=yz o:=by unfold upd;rw[iP0 rfl]
def Xe{H:Hp}{a b:Addr}{o:HO}(h:b≠a):upd H a o b=H b:=by unfold upd;rw[iN0 h]
def Xdu{H:Hp}{a b:Addr}{o u:HO}(h:H a=yz o)(h':H b=yz u)(d:o≠u):a≠b:=by intro e;subst e;rw[h]at h';calc d (Ur h')
def Xp{H:Hp}{a b:Addr}{o:HO}(h:H a=yz o)(h':H b=yy):a≠b:=by intro e;subst e;rw[h]at h';cases h'
section
variable(P:V0)(w:V9)
theorem ObjOk(H:Hp)(h:Heap)(a:Addr):HO->Prop
 |.lst xs=>lg xs<=V7/\∃(its:LV) (n:Nat),Vals xs its/\h.get? a=yz Q10|.tup xs=>lg xs<=V7/\∃its:LV,Vals xs its/\Vdz h a its.toArray|.dK kvs=>lg kvs<=V7/\QnU=yw/\∃vs,KV kvs vs/\h.DictOf Q7b a vs|.dT kvs=>lg kvs<=V7/\QnU=yw/\∃xs:List (List Key×Addr×Vb),
   Paired (λ(p:List Key×V) (q:List Key×Addr×Vb)=>p.1=q.1/\H q.2.1=yz (.tup (p.1.map kV))/\RelV p.2 q.2.2) kvs xs /\
   ∃o es ep,h.get? a=yz o/\o.ExactDict/\o.data=.dict es ep/\es.toList=xs.map (entryOfKey (tupleKind Q7b))/\(xs.map Qu).Nodup|.set S n=>h.SetOf QCS a S n|.ins C dx fs=>H dx=yz QcO/\QBe<=1000/\dx≠a/\h.get? a=yz (PySem.W.instObj C dx) /\
   ∃mA,h.Ns1 dx mA/\(∀f,X50 QZU Qjf)/\PySem.Within mA (fs.map Qu)|.own _=>∃o,h.get? a=yz o|.xd fs=>∃mA,h.Ns1 a mA/\∀f,X50 QZU Qjf|.rng lo hi=>∃t u v,h.get? a=yz QP|.frz o u=>h.get? a=yz o/\ObjOk H h a u|.tbl q=>∃ps,h.get? a=yz {cls:=.none,data:=.fields ps}/\TriplesOk ps.toList/\∀pos L,codeAmong pos ps.toList=yz L->∃c o u vs t,L=.ref c/\H c=yz QW1/\o.data=.fields vs/\vs[1]?=yz (.str q t)|.met f x=>h.get? a=yz (Vi5 Q39 Qq6)|.ext B=>B h/\(∃o,h.get? a=yz o)/\∀h1 h2:Heap,B h1->(∀o,h1.get? a=yz o->h2.get? a=yz o)->B h2
theorem Fix:HO->Prop
 |.tup _=>True|.frz _ _=>True|_=>False
theorem HOk(H:Hp)(h:Heap):Prop:=∀a o,H a=yz o->ObjOk P w H h a o
universe e
section
variable{P:V0}{w:V9}{H H':Hp}{h h':Heap}{a:Addr}{o:HO}
def ObjOk.lt(x:ObjOk P w H h a o):a<h.objs.size:=by
 cases o with
 |lst xs=>let⟨_,_,_,_,e⟩:=x;calc Vy e|tup xs=>let⟨_,_,_,p⟩:=x;calc p.lt|dK kvs=>let⟨_,_,_,_,o,_,_,e,_⟩:=x;calc Vy e|dT kvs=>let⟨_,_,_,_,o,_,_,e,_⟩:=x;calc Vy e|set S n=>let⟨o,_,_,_,e,_⟩:=x;calc Vy e|ins C dx fs=>let⟨_,_,_,e,_⟩:=x;calc Vy e|own y=>let⟨_,e⟩:=x;calc Vy e|xd fs=>let⟨_,⟨_,_,_,e,_⟩,_⟩:=x;calc Vy e|rng lo hi=>let⟨_,_,_,e⟩:=x;calc Vy e|frz ob u=>let⟨e,_⟩:=x;calc Vy e|tbl q=>let⟨_,e,_⟩:=x;calc Vy e|met f y=>calc Vy (show h.get? a=yz _ from x)|ext B=>let⟨_,⟨_,e⟩,_⟩:=x;calc Vy e
def Paired.mapP{α β:Type}{F G:α->β->Prop}:∀ {l₁:List α} {B:List β},Paired F l₁ B->(∀a b,F a b->G a b)->Paired G l₁ B
 |_,_,.nil,_=>.nil|_,_,.cons r t,f=>.cons (f _ _ r) (Paired.mapP t f)
def ObjOk.stay(x:ObjOk P w H h a o)(k:∀b u,(b=a\/H b=yz QcO)->h.get? b=yz u->h'.get? b=yz u)
  (L:∀b,H b=yz QcO->H' b=yz QcO) (B:∀b u,Fix u->H b=yz u->H' b=yz u):ObjOk P w H' h' a o:=by
 induction o with
 |lst xs=>let⟨z,its,n,r,e⟩:=x;calc⟨z,its,n,r,k _ _ Qd0 e⟩|tup xs=>let⟨z,its,r,ob,e,c⟩:=x;calc⟨z,its,r,ob,k _ _ Qd0 e,c⟩|dK kvs=>let⟨z,y,vs,r,ob,es,ep,e,c⟩:=x;calc⟨z,y,vs,r,ob,es,ep,k _ _ Qd0 e,c⟩|dT kvs=>let⟨z,y,xs,r,ob,es,ep,e,c⟩:=x;calc⟨z,y,xs,Paired.mapP r λp q z=>⟨z.1,B _ _ trivial z.2.1,z.2.2⟩,ob,es,ep,k _ _ Qd0 e,c⟩|set S n=>let⟨ob,es,ep,t,e,c⟩:=x;calc⟨ob,es,ep,t,k _ _ Qd0 e,c⟩|ins C dx fs=>let⟨d,z,ne,e,mA,⟨od,es,ep,e2,c⟩,r⟩:=x;calc⟨L _ d,z,ne,k _ _ Qd0 e,mA,⟨od,es,ep,k _ _ (.inr d) e2,c⟩,r⟩|own y=>let⟨ob,e⟩:=x;calc⟨ob,k _ _ Qd0 e⟩|xd fs=>let⟨mA,⟨od,es,ep,e,c⟩,r⟩:=x;calc⟨mA,⟨od,es,ep,k _ _ Qd0 e,c⟩,r⟩|rng lo hi=>let⟨t,u,v,e⟩:=x;calc⟨t,u,v,k _ _ Qd0 e⟩|frz ob u ih=>let⟨e,q⟩:=x;calc⟨k _ _ Qd0 e,ih q⟩|tbl q=>let⟨ps,e,t,n⟩:=x;calc⟨ps,k _ _ Qd0 e,t,λpos cv z=>let ⟨c,o,u,vs,t,e1,e2,r⟩:=n pos cv z;⟨c,o,u,vs,t,e1,B _ _ trivial e2,r⟩⟩|met f y=>let e:h.get? a=yz Q3V:=x;show h'.get? a=yz Q3V;calc k a _ Qd0 e|ext φ=>let⟨p,⟨o,e⟩,st⟩:=x;calc⟨st _ _ p λo q=>k _ _ Qd0 q,⟨o,k _ _ Qd0 e⟩,st⟩
def HOk.lt(x:HOk P w H h)(e:H a=yz o):a<h.objs.size:=QIa.lt
def HOk.fresh(x:HOk P w H h)(e:h.objs.size<=a):H a=none:=by
 cases q:H a with
 |none=>rfl|some u=>calc aB0 (Uf (x.lt q) e) Q2H
def HOk.kept(x:HOk P w H h)(k:∀b u,h.get? b=yz u->h'.get? b=yz u):HOk P w H h':=λa o e=>QIa.stay (λb u _ q=>k b u q) QlI λ_ _ _ q=>q
def HOk.laid(x:HOk P w H h)(k:∀b u,h.get? b=yz u->h'.get? b=yz u)(hp:h.objs.size<=a)(new:ObjOk P w Qp5 h' a o):HOk P w Qp5 h':=λb u e=>by
 let L:=x.fresh hp;by_cases B:b=a;·subst B;rw[Xu]at e;cases e;exact new
 ·rw[Xe B]at e;calc(x b u e).stay (λc v _ q=>k c v q) (λc q=>by rw[Xe Qjc];calc q) λc xs _ q=>by rw[Xe Qjc];calc q
universe e
theorem Rd(H:Hp)(a:Addr)(u:HO):Prop:=H a=yz u\/∃o,H a=yz QW1
def Rd.ok{P:V0}{w:V9}{H:Hp}{h:Heap}{a:Addr}{u:HO}(r:Rd H a u)(x:HOk P w H h):ObjOk P w H h a u:=by
 rcases r with r|⟨o,r⟩;·exact x a u r
 ·let⟨_,q⟩:=x a _ r;calc q
theorem Mut:Option HO->Prop
 |some Qbd=>True|some (.dK _)=>True|some (.dT _)=>True|some (.set _ _)=>True|some (.ins _ _ _)=>True|some (.ext _)=>True|_=>False
section
variable{P:V0}{w:V9}{H:Hp}{h h':Heap}{x e:Addr}{o':HO}
def HOk.write(ok:HOk P w H h)(mu:Mut QGf)(he:e=x\/H e=yz QbO)(k:∀b u,b≠e->h.get? b=yz u->h'.get? b=yz u)(ab:∃u,h'.get? e=yz u)
  (new:ObjOk P w Q8W h' x o'):HOk P w Q8W h':=λb u q=>by
 let L:∀c y,H c=yz (.own y)->c≠x:=λc y r z=>by subst z;rw[r]at mu;exact mu
 let aa:∀c u,Fix u->H c=yz u->c≠x:=λc u f r z=>by subst z;rw[r]at mu;cases u<;>first|exact mu|exact f
 by_cases hb:b=x;·subst hb;rw[Xu]at q;cases q;exact new
 ·rw[Xe hb]at q;by_cases B:b=e
  ·let q':H b=yz QbO:=by
    rcases he with z|z;·exact aB0 (B.trans z) hb
    ·rw[B];exact z
   rw[q]at q';cases q';let⟨v,hv⟩:=ab;exact⟨v,by rw[B];calc hv⟩
  exact(ok b u q).stay (λc v hc r=>k c v ?_ r) (λc r=>by rw[Xe (L c b r)];calc r) λc xs f r=>by rw[Xe (aa c xs f r)];exact r
  rcases hc with rfl|hc;·exact B
  ·rintro rfl;rcases he with z|z;·exact L c b hc z
   ·rw[hc]at z;cases z;calc hb rfl
universe e
structure Un(fs ex:LR)(H H':Hp)(h h':Heap):Prop where
 keep:∀b o,h.get? b=yz o->H b=yy->b ∉ fs->b ∉ ex->h'.get? b=yz o
 slot:∀b o,h.get? b=yz o->H b=yy->b∈fs->b ∉ ex->∃sl,h'.get? b=yz Q6E
 free:∀b o,h.get? b=yz o->H b=yy->b ∉ ex->H' b=yy
 there:∀b o,h.get? b=yz o->b ∉ ex->∃o',h'.get? b=yz o'
 tups:∀b xs,H b=yz QA1->H' b=yz QA1
 frzs:∀b o u,H b=yz QW1->H' b=yz QW1
 tbls:∀b ps,H b=yz QiL->H' b=yz QiL
section
variable{fs ex:LR}{H H1:Hp}{h h1 h':Heap}{a x e:Addr}{o:HO}
def Un.any(u:Un fs ex H H1 h h1){b:Addr}{ob:Obj}(q:h.get? b=yz ob)(n:H b=yy)(L:b ∉ ex):∃sl,h1.get? b=yz {ob with slots:=sl}:=by
 by_cases B:b∈fs;·exact u.slot b ob q n B L
 ·calc⟨ob.slots,u.keep b ob q n B L⟩
def Un.kept(k:∀b u,h.get? b=yz u->h'.get? b=yz u):Un fs ex H H h h':=
 ⟨λb ob q _ _ _=>k b ob q,λb ob q _ _ _=>⟨ob.slots,k b ob q⟩,λ_ _ _ n _=>n,λb ob q _=>⟨ob,k b ob q⟩,λ_ _ q=>q,λ_ _ _ q=>q,λ_ _ q=>q⟩
def Un.refl:Un fs ex H H h h:=Un.kept λ_ _ q=>q
def Un.laid(k:∀b u,h.get? b=yz u->h'.get? b=yz u)(hp:h.objs.size<=a)(B:H a=yy):Un fs ex H Qp5 h h' where
 keep:=λb u q _ _ _=>k b u q
 slot:=λb u q _ _ _=>⟨u.slots,k b u q⟩
 free:=λb u q n _=>by rw[Xe (Uj (Uf Qyf hp))];exact n
 there:=λb u q _=>⟨u,k b u q⟩
 tups:=λb xs q=>by rw[Xe QrU];exact q
 frzs:=λb u xs q=>by rw[Xe QrU];exact q
 tbls:=λb ps q=>by rw[Xe QrU];calc q
def Un.write(L:Mut QGf)(he:e=x\/H e=yz QbO)(k:∀b u,b≠e->h.get? b=yz u->h'.get? b=yz u)(aa:∃u,h'.get? e=yz u):Un fs ex H QvM h h':=by
 let hx:∀b,H b=yy->b≠x:=λb n z=>by subst z;rw[n]at L;exact L
 let hb:∀b,H b=yy->b≠e:=λb n z=>by
  subst z;rcases he with r|r;·exact hx b n r
  ·rw[n]at r;cases r
 let hm:∀b u,H b=yz u->¬ Mut QYf->b≠x:=λb u q nm z=>by subst z;rw[q]at L;exact nm L
 exact⟨λb u q n _ _=>k b u QXc q,λb u q n _ _=>⟨u.slots,k b u QXc q⟩,λb u q n _=>by rw[Xe (hx b n)];exact n,λb u q _=>?_,
  λb xs q=>by rw[Xe QLE];calc q,λb u xs q=>by rw[Xe QLE];calc q,λb ps q=>by rw[Xe QLE];calc q⟩
 by_cases B:b=e;·subst B;exact aa
 ·calc⟨u,k b u B q⟩
universe e
abbrev trk(h:Heap)(H:Hp):LR:=(Vq h.objs.size).filter λa=>(H a).isSome
abbrev Xe8(h:Heap)(H:Hp):Heap:=Vcx h QJR
def Xu4(h:Heap)(H:Hp):(Xe8 h H).objs.size=h.objs.size:=PySem.W.hideAll_size _ _
def Xyg{h:Heap}{H:Hp}{b:Addr}{o:Obj}(e:h.get? b=yz o)(n:H b=yy):QNL.get? b=yz o:=
 Vez _ e λB=>by let q:(H b).isSome=true:=QbZ.2;rw[n]at q;simp! at q
def X2h{h:Heap}{H:Hp}{b:Addr}{o:Obj}(e:QNL.get? b=yz o):h.get? b=yz o/\H b=none:=by
 let B:h.get? b=yz o:=Vgh QJR e;calc Q2R;cases q:H b with
 |none=>rfl|some x=>let L:b∈trk h H:=Va3.mpr ⟨Va9.mpr Qzf,by simp![q]⟩;let z:QNL.get? b=none:=Vb9 QJR L;rw[z]at e;cases e
universe L2
namespace L2
open PySem PySem.Spec PyProof.Rows
structure Mod(K:Vh)(mg:Str->OV)(base:Heap):Prop where
 kin:K.In base
 glob:base.Ns Um mg
 blt:∃mb,base.Ns Vgu mb/\∀x:Str,x ≠ "__name__" -> mb x=Veu x
 nolimit:base.NoLimit
structure Cx where
 prog:V0
 w:V9
 K:Vh
 mg:Str->OV
 base:Heap
 A:Uu
 N:LS
 s₀:Vc
 H₀:Hp
 env:Env
 outer:List Env
 stack:List Env
 ex:LR
 fn:Str->Bool
 calm:Bool
 pn:LA
 xe:VP
abbrev frs(l:List Env):LR:=l.filterMap (·.frame)
private noncomputable abbrev Cx.fs(X:Cx):LR:=frs X.outer
theorem Vis(sc:Vai)(x:Str):Prop:=sc.names.lookup x=yz .local\/sc.names.lookup x=yz .cell\/sc.names.lookup x=yz .free
theorem Loc(sc:Vai)(x:Str):Prop:=sc.names.lookup x=yz .local\/sc.names.lookup x=yz .cell
theorem Ydd(env:Env)(h:Heap)(m:Str->OV)(x:Str)(u:Vb):Prop:=
 (env.kindOf x=yz .local/\m x=yz u)\/((env.kindOf x=yz .cell\/env.kindOf x=yz .free)/\∃c,env.cells.lookup x=yz c/\h.IsCell c QYf)
structure Cx.Ok(X:Cx):Prop where
 mod:Mod X.K X.mg X.base
 kind:X.env.scope.kind=.function
 glob:X.env.globals=Um
 blt:X.env.builtins=Vgu
 above:X.s₀.heap.objs.size<=X.env.locals
 inj:∀x y c,X.env.cells.lookup x=yz c->X.env.cells.lookup y=yz c->x=y
 has:∀x,(X.env.kindOf x=yz .cell\/X.env.kindOf x=yz .free)->∃c,X.env.cells.lookup x=yz c
 cab:∀x c,X.fn x=yx->X.env.cells.lookup x=yz c->X.s₀.heap.objs.size<=c
 hd:X.calm=yx->X.A.handled=yy
 frames:X.A.frames=yz X.stack
 stk:X.stack=X.outer\/(X.stack=X.env::X.outer/\X.env.frame=yz X.env.locals)
 exf:∀b∈X.ex,b≠X.env.locals/\∀x c,X.env.cells.lookup x=yz c->c≠b
 bs:∀b o,X.base.get? b=yz o->X.s₀.heap.get? b=yz o/\X.H₀ b=yy
 bsz:X.base.objs.size<=X.s₀.heap.objs.size
 noex:∀b o,X.base.get? b=yz o->b ∉ X.ex
 exfs:∀b∈X.ex,b ∉ X.fs
 funs:X.s₀.heap.FunFrames X.base X.outer
 frf:∀b∈X.fs,X.H₀ b=yy
structure Inv(X:Cx)(pc:LA)(σ:List QdP)(H:Hp)(s:Vc):Prop where
 ok:X.Ok
 os:s.os=X.s₀.os
 bare:AllBare s.gens
 base:Un X.fs X.ex X.H₀ H X.s₀.heap s.heap
 loc:∃m,s.heap.Ns X.env.locals m/\∀(i:Nat) (x:Str) (v:V),X.N[i]?=yz x->σ[i]?=yz Qw8->Vis X.env.scope x->∃u,RelV v u/\Ydd X.env s.heap m x u
 cell:∀x c,X.env.cells.lookup x=yz c->∃v,s.heap.IsCell c v
 free:H X.env.locals=yy
 freeC:∀x c,X.env.cells.lookup x=yz c->H c=yy
 pin:∀p∈X.pn++pc,s.heap.get? p.1=yz p.2/\H p.1=yy/\p.1≠X.env.locals/\p.1 ∉ X.fs/\∀v,p.2.data≠.cell v
 hok:HOk X.prog X.w H s.heap
 len:σ.length=X.N.length
section
variable{X:Cx}{pc:LA}{σ:List QdP}{H H':Hp}{s:Vc}{h':Heap}
def Cx.Ok.nofr(ok:X.Ok){b:Addr}{o:Obj}(e:X.base.get? b=yz o):b ∉ X.fs:=λB=>by let:=(ok.funs.mem B).1;rw[e]at this;cases this
def Inv.bs(I:Inv X pc σ H s):∀b o,X.base.get? b=yz o->s.heap.get? b=yz o/\H b=none:=λb o e=>⟨I.base.keep b o QOB.1 QOB.2 (I.ok.nofr e) QgP,I.base.free b o QOB.1 QOB.2 QgP⟩
def Inv.bk(I:Inv X pc σ H s):∀b o,X.base.get? b=yz o->s.heap.get? b=yz o:=λb o e=>(I.bs b o e).1
def Inv.mod(I:Inv X pc σ H s):Mod X.K X.mg X.base:=I.ok.mod
def Inv.kIn(I:Inv X pc σ H s):X.K.In s.heap:=I.ok.mod.kin.keeps I.bk
def Inv.lt(I:Inv X pc σ H s):X.env.locals<s.heap.objs.size:=let ⟨_,hn,_⟩:=I.loc;hn.lt
def Inv.sz(I:Inv X pc σ H s):X.s₀.heap.objs.size<=s.heap.objs.size:=V2 I.ok.above (Vc2 I.lt)
def Inv.nofs(I:Inv X pc σ H s){a:Addr}(h:s.heap.objs.size<=a):a ∉ X.fs:=λL=>by let⟨_,o,B,_⟩:=I.ok.funs.mem L;calc aB0 (Uf Qzf (V2 I.sz h)) Q2H
def Inv.cne(I:Inv X pc σ H s):∀x c,X.env.cells.lookup x=yz c->c≠X.env.locals:=λx c e z=>by let⟨v,o,ho,hd⟩:=I.cell x c e;let⟨m,⟨o',es,ep,L,B,_⟩,_⟩:=I.loc;rw[z,L]at ho;cases ho;rw[B]at hd;cases hd
def Inv.funs(I:Inv X pc σ H s):s.heap.FunFrames X.base X.outer:=by
 let all:∀(l:List Env),(∀b∈frs l,b∈X.fs)->X.s₀.heap.FunFrames X.base l->s.heap.FunFrames X.base l:=by
  intro l;induction l with
  |nil=>intro _ _;trivial|cons env r ih=>intro hs hl;let⟨hk,⟨L,o,hf,hn,ho,hd⟩,hr⟩:=hl;let B:L∈X.fs:=hs L (by unfold frs;rw[U3,hf];calc V8);let⟨sl,e⟩:=I.base.slot L o ho (I.ok.frf L B) B λz=>I.ok.exfs L z B;exact⟨hk,⟨L,_,hf,hn,e,hd⟩,ih (λb hb=>hs b (by unfold frs;rw[U3,hf];calc V4 _ hb)) hr⟩
 calc all X.outer (λ_ hb=>hb) I.ok.funs
def Inv.stack(I:Inv X pc σ H s):s.heap.FunFrames X.base X.stack:=by
 rcases I.ok.stk with e|⟨e,L⟩;·rw[e];exact I.funs
 ·rw[e];let⟨m,B,_⟩:=I.loc;calc .cons (by rw[I.ok.kind];decide) L B ?_ I.funs;calc Heap.get?_none_of_le (V2 I.ok.bsz I.ok.above)
def Inv.stkSub(I:Inv X pc σ H s):∀b∈frs X.stack,b∈X.env.locals::X.fs:=λb B=>by
 rcases I.ok.stk with e|⟨e,L⟩;·rw[e]at B;exact V4 _ B
 ·rw[e]at B;unfold frs at B;rw[U3,L]at B;calc B
def Inv.stkFree(I:Inv X pc σ H s):∀b∈frs X.stack,H b=none:=λb B=>by
 rcases Vu.mp (I.stkSub b B) with e|B;·rw[e];exact I.free
 ·let⟨_,o,L,_⟩:=I.ok.funs.mem B;calc I.base.free b o L (I.ok.frf b B) λz=>I.ok.exfs b z B
def Inv.step{g':Array GenState}{t':Nat}{d':Drawn}{ch:LR}(I:Inv X pc σ H s)
  (ab:∀b∈ch,Q43/\b≠X.env.locals/\QN2/\∀p∈X.pn++pc,p.1≠b)
  (keep:∀b o,b≠X.env.locals->b ∉ X.fs->b ∉ ch->s.heap.get? b=yz o->H b=yy->h'.get? b=yz o)
  (slot:∀b o,b≠X.env.locals->b∈X.fs->b ∉ ch->s.heap.get? b=yz o->H b=yy->∃sl,h'.get? b=yz Q6E) (free:∀b o,b ∉ ch->s.heap.get? b=yz o->H b=yy->H' b=yy)
  (there:∀b o,b ∉ ch->s.heap.get? b=yz o->∃o',h'.get? b=yz o')
  (tups:∀b xs,H b=yz QA1->H' b=yz QA1) (frzs:∀b o u,H b=yz QW1->H' b=yz QW1) (tbls:∀b ps,H b=yz QiL->H' b=yz QiL)
  (ns:∀m,s.heap.Ns X.env.locals m->h'.Ns X.env.locals m) (hok:HOk X.prog X.w H' h') (hg:AllBare g'):
  Inv X pc σ H' Qt9:=by
 let ae:∀b o,X.s₀.heap.get? b=yz o->b≠X.env.locals:=λb o e=>Uj QO2;let ac:∀b o,X.s₀.heap.get? b=yz o->b ∉ X.ex->b ∉ ch:=λb o e B hb=>by
  rcases (ab b hb).1 with z|z;·exact B z
  ·exact aB0 (Uf Q0F z) Q2H
 let aa:∀x c,X.env.cells.lookup x=yz c->∀v,s.heap.IsCell c v->h'.IsCell c v:=λx c e v Q7X=>by
  let L:c ∉ ch:=λz=>Qhc.2.2.1 x c e rfl;by_cases hc:c∈X.fs;·let⟨sl,q⟩:=slot c o QzJ hc L ho Q9H;exact QwY
  ·exact⟨o,keep c o QzJ hc L ho Q9H,hd⟩
 calc⟨I.ok,I.os,hg,⟨λb o e n hb B=>?_,λb o e n hb B=>?_,λb o e n B=>?_,λb o e B=>?_,λb xs e=>tups b xs (I.base.tups b xs e),λb o xs e=>frzs b o xs (I.base.frzs b o xs e),λb ps e=>tbls b ps (I.base.tbls b ps e)⟩,?_,λx c e=>?_,?_,λx c e=>?_,λp hp=>?_,hok,I.len⟩;·exact keep b o QMZ hb QyE (I.base.keep b o e n hb B) QOA
 ·let⟨sl,e1⟩:=I.base.slot b o e n hb B;let⟨af,e2⟩:=slot b _ QMZ hb QyE e1 QOA;exact QyH
 ·let⟨o',e1⟩:=I.base.there b o e B;exact free b o' QyE e1 QOA
 ·let⟨o',e1⟩:=I.base.there b o e B;exact there b o' QyE e1
 ·let⟨m,hn,hl⟩:=I.loc;calc⟨m,ns m hn,λi x v e1 e2 e3=>?_⟩;let⟨u,r,l⟩:=hl i x v e1 e2 e3;calc QvY;rcases l with l|⟨k,c,e,z⟩;·exact .inl l
  ·exact .inr ⟨k,c,e,aa x c e _ z⟩
 ·let⟨v,z⟩:=I.cell x c e;exact⟨v,aa x c e v z⟩
 ·let⟨m,⟨o,_,_,ho,_⟩,_⟩:=I.loc;exact free _ o (λz=>(ab _ z).2.1 rfl) ho I.free
 ·let⟨v,o,ho,hd⟩:=I.cell x c e;exact free c o (λz=>Qhc.2.2.1 x c e rfl) ho Q9H
 ·let⟨e,n,ne,nf,d⟩:=I.pin p hp;let L:p.1 ∉ ch:=λz=>(ab p.1 z).2.2.2 p hp rfl;calc⟨keep p.1 p.2 ne nf L e n,free p.1 p.2 L e n,ne,nf,d⟩
def Inv.un{t':Nat}(I:Inv X pc σ H s)(u:Un X.fs [] H H' s.heap h')(hok:HOk X.prog X.w H' h'):Inv X pc σ H' QB2:=by let⟨m,⟨o,es,ep,ho,r⟩,_⟩:=id I.loc;let⟨sl,hL⟩:=u.any ho I.free QB;calc I.step (g':=s.gens) (d':=s.drawn) (ch:=[]) (λ_ z=>nomatch z) (λb o _ L _ e n=>u.keep b o e n L QB) (λb o _ L _ e n=>u.slot b o e n L QB) (λb o _ e n=>u.free b o e n QB) (λb o _ e=>u.there b o e QB) u.tups u.frzs u.tbls (λm' hm=>by let⟨o',aa,ab,B,r'⟩:=hm;rw[ho]at B;cases B;calc⟨_,aa,ab,hL,r'⟩) hok I.bare
def Inv.call{g':Array GenState}{t':Nat}{d':Drawn}{ch:LR}(I:Inv X pc σ H s)(u:Un QaU ch H H' s.heap h')(hok:HOk X.prog X.w H' h')(hg:AllBare g')
  (aa:∀b∈ch,Q43/\b≠X.env.locals/\QN2/\∀p∈X.pn++pc,p.1≠b):
  Inv X pc σ H' Qt9:=by
 let⟨m,⟨o,es,ep,ho,r⟩,_⟩:=id I.loc;let⟨sl,hL⟩:=u.any ho I.free λz=>(aa _ z).2.1 rfl;calc I.step (ch:=ch) aa (λb o hL hb B e n=>u.keep b o e n (λz=>(Vu.mp (I.stkSub b z)).elim hL hb) B) (λb o _ _ B e n=>u.any e n B) (λb o B e n=>u.free b o e n B) (λb o B e=>u.there b o e B) u.tups u.frzs u.tbls (λm' hm=>by let⟨o',ab,ac,L,r'⟩:=hm;rw[ho]at L;cases L;calc⟨_,ab,ac,hL,r'⟩) hok hg
def Inv.turned{t':Nat}{it:Addr}(I:Inv X pc σ H s)(k:∀b o,b≠it->s.heap.get? b=yz o->h'.get? b=yz o)(hn:H it=yy)(hL:it≠X.env.locals)
  (h1:it∈X.ex\/X.s₀.heap.objs.size<=it) (h2:∀x c,X.env.cells.lookup x=yz c->c≠it) (h3:∀p∈X.pn++pc,p.1≠it):Inv X pc σ H QB2:=by
 let L:∀b u,H b=yz u->b≠it:=λb u e z=>by rw[z,hn]at e;cases e
 exact I.step (g':=s.gens) (d':=s.drawn) (ch:=[it]) (λb hb=>?_) (λb o _ _ B e _=>k b o Ql6 e) (λb o _ _ B e _=>⟨o.slots,k b o Ql6 e⟩) QJQ
  (λb o B e=>⟨o,k b o Ql6 e⟩) QnE QwS QnE Q1W Q5U I.bare
 ·let e:b=it:=by simpa using hb
  subst e;exact⟨h1,hL,h2,h3⟩
 ·let⟨o,es,ep,ho,r⟩:=hm;exact⟨o,es,ep,k _ o (Ne.symm hL) ho,r⟩
 ·exact QDV.stay QPJ QlI λ_ _ _ q=>q;rcases B with z|z;·rw[z];exact L b u e
  ·calc L c _ z
def Inv.tok(I:Inv X pc σ H s)(t:Nat):Inv X pc σ H {s with toks:=t}:=I.un (h':=s.heap) (t':=t) Un.refl I.hok
def Inv.kept{t':Nat}(I:Inv X pc σ H s)(k:∀b u,s.heap.get? b=yz u->h'.get? b=yz u):Inv X pc σ H QB2:=I.un (Un.kept k) (I.hok.kept k)
def Inv.laid{a:Addr}{o:HO}{t':Nat}(I:Inv X pc σ H s)(k:∀b u,s.heap.get? b=yz u->h'.get? b=yz u)(hp:s.heap.objs.size<=a)(new:ObjOk X.prog X.w Qp5 h' a o):
  Inv X pc σ Qp5 QB2:=I.un (Un.laid k hp (I.hok.fresh hp)) (I.hok.laid k hp new)
def Inv.write{x e:Addr}{o:HO}{t':Nat}(I:Inv X pc σ H s)(L:Mut QGf)(he:e=x\/H e=yz QbO)(k:∀b u,b≠e->s.heap.get? b=yz u->h'.get? b=yz u)(B:∃u,h'.get? e=yz u)
  (new:ObjOk X.prog X.w QvM h' x o):Inv X pc σ QvM QB2:=I.un (Un.write L he k B) (I.hok.write L he k B new)
def Inv.pins_of{B:LA}(I:Inv X pc σ H s)(h:∀p∈B,s.heap.get? p.1=yz p.2/\H p.1=yy/\p.1≠X.env.locals/\p.1 ∉ X.fs/\∀v,p.2.data≠.cell v):Inv X B σ H s:=
 ⟨I.ok,I.os,I.bare,I.base,I.loc,I.cell,I.free,I.freeC,λp L=>(Uo.mp L).elim (λz=>I.pin p QTb) (h p),I.hok,I.len⟩
def Xm2{N:LS}(hN:N.Nodup){i j:Nat}{x:Str}(a:N[i]?=yz x)(b:N[j]?=yz x):i=j:=by let⟨h1,e1⟩:=Vk.mp a;let⟨h2,e2⟩:=Vk.mp b;calc(List.getElem_inj hN).mp (e1.trans e2.symm)
def Xlq{M:Model}{A:Uu}{E:VP}{i:Nat}{x:Str}{v:V}{u:Vb}{Q:Unit->Vc->Prop}(I:Inv X pc σ H s)(hN:X.N.Nodup)(hi:X.N[i]?=yz x)(hx:Loc X.env.scope x)(r:RelV v u)
  (h:∀s',Inv X pc Q9C H s'->(∃a,U6 a s.heap s'.heap/\(a=X.env.locals\/X.env.cells.lookup x=yz a))->Q () s') (hf:X.fn x=yx\/X.env.scope.names.lookup x=yz .local:=by first|calc .inl rfl|calc .inr rfl|assumption):Vg M A QxK Q E s:=by
 let⟨m,hn,hl⟩:=id I.loc;let ag:(X.env.scope.kind == .class||(X.env.scope.kind == .module&&X.env.locals != X.env.globals))=false:=by rw[I.ok.kind];rfl
 let ab:i < σ.length:=by rw[I.len];exact QVZ.1
 let cne:=I.cne;let B:∀ {a:Addr} {h':Heap},(∃o,s.heap.get? a=yz o/\H a=yy)->U6 a s.heap h'->HOk X.prog X.w H h':=λ{a h'} ha hs b ob e=>by
  let⟨_,_,aa⟩:=ha;exact(I.hok b ob e).stay (λc w' L q=>(hs.2 c ?_).trans q) QlI λ_ _ _ q=>q;rintro rfl;rcases L with rfl|L;·rw[aa]at e;cases e
  ·rw[aa]at L;cases L
 rcases hx with hk|hk
 ·calc wpAny_storeName_local hk hn (λh' aj hs=>?_) ag;let⟨oL,_,_,ak,_⟩:=id hn;calc h _ ⟨I.ok,I.os,I.bare,Qo2,⟨_,aj,λj y v' e1 e2 e3=>?_⟩,λy c e=>?_,I.free,I.freeC,λp hp=>?_,B ⟨oL,ak,I.free⟩ hs,by simpa using I.len⟩ ⟨_,hs,.inl rfl⟩;·exact QKE.trans QQ8
  ·let⟨sl,e1⟩:=I.base.slot b o e n hb hx;exact⟨sl,QKE.trans e1⟩
  ·let⟨o',e1⟩:=I.base.there b o e hx;exact⟨o',QKE.trans e1⟩
  ·by_cases hj:j=i;·subst hj;rw[hi]at e1;cases e1;rw[Vau ab]at e2;cases e2;exact⟨u,r,.inl ⟨hk,by simp!⟩⟩
   ·rw[Vav QmW]at e2;let⟨u',r',q⟩:=hl j y v' e1 e2 e3;calc QtV;rcases q with⟨k,e⟩|⟨k,c,e,z⟩;·calc .inl Q7c;let:y≠x:=λe=>hj (Xm2 hN e1 (e▸hi));simp![this,e]
    ·exact .inr ⟨k,c,e,z.sameBut hs QqX⟩
  ·let⟨w',z⟩:=I.cell y c e;exact⟨w',z.sameBut hs QqX⟩
  let⟨e,n,ne,nf,d⟩:=I.pin p hp;exact⟨(hs.2 p.1 ne).trans e,n,ne,nf,d⟩
 ·let ac:X.fn x=true:=by
   rcases hf with z|z;·exact z
   ·rw[z]at hk;cases hk
  let⟨c,L⟩:=I.ok.has x (.inl hk);let⟨w',z⟩:=I.cell x c L;calc wpAny_storeName_cell I.ok.kind hk L z (λh' ae hs=>?_);let⟨oc,ah,ai⟩:=id z;calc h QV ⟨I.ok,I.os,I.bare,Qo2,⟨m,hn.sameBut hs (Ne.symm (cne x c L)),λj y v' e1 e2 e3=>?_⟩,λy c' e=>?_,I.free,I.freeC,λp hp=>?_,B ⟨oc,ah,I.freeC x c L⟩ hs,by simpa using I.len⟩ ⟨c,hs,.inr L⟩;·exact Qu3.trans QQ8
  ·let⟨sl,e1⟩:=I.base.slot b o e n hb hx;exact⟨sl,Qu3.trans e1⟩
  ·let⟨o',e1⟩:=I.base.there b o e hx;exact⟨o',Qu3.trans e1⟩
  ·by_cases hj:j=i;·subst hj;rw[hi]at e1;cases e1;rw[Vau ab]at e2;cases e2;exact⟨u,r,.inr ⟨.inl hk,c,L,ae⟩⟩
   ·rw[Vav QmW]at e2;let⟨u',r',q⟩:=hl j y v' e1 e2 e3;calc QtV;rcases q with q|⟨k,c',e,z'⟩;·exact .inl q
    ·calc .inr ⟨k,c',e,z'.sameBut hs ?_⟩;rintro rfl;exact hj (Xm2 hN e1 (I.ok.inj _ _ _ e L▸hi))
  ·by_cases af:c'=c;·subst af;exact⟨_,ae⟩
   ·let⟨w2,z2⟩:=I.cell y c' e;exact⟨w2,z2.sameBut hs af⟩
  let⟨e,n,ne,nf,d⟩:=I.pin p hp;calc⟨(hs.2 p.1 ?_).trans e,n,ne,nf,d⟩;intro q;rw[q,ah]at e;let q':oc=p.2:=Ur e;calc d w' (by rw[<-q'];calc ai)
def Xcb{M:Model}{A:Uu}{E:VP}{i:Nat}{x:Str}{v:V}{u:Vb}{Q:Unit->Vc->Prop}(I:Inv X pc σ H s)(hN:X.N.Nodup)(hi:X.N[i]?=yz x)(L:Loc X.env.scope x)(r:RelV v u)
  (h:∀s',Inv X pc Q9C H s'->Q () s') (hf:X.fn x=yx\/X.env.scope.names.lookup x=yz .local:=by first|calc .inl rfl|calc .inr rfl|assumption):Vg M A QxK Q E s:=
 Xlq I hN hi L r (λs' B _=>h s' B) hf
def Inv.call'{s':Vc}{ch:LR}(I:Inv X pc σ H s)(ho:s'.os=s.os)(u:Un QaU ch H H' s.heap s'.heap)(hok:HOk X.prog X.w H' s'.heap)(hg:AllBare s'.gens)
  (B:∀b∈ch,Q43/\b≠X.env.locals/\QN2/\∀p∈X.pn++pc,p.1≠b):Inv X pc σ H' s':=by
 let⟨h',g',L,t',o'⟩:=s';let e:o'=s.os:=ho;subst e;calc I.call (g':=g') (t':=t') (d':=L) u hok hg B
universe e
private abbrev XK:=Vb->Option Addr->Hp->Prop
private noncomputable abbrev St:=List QdP
private abbrev VK:=V->Hp->Prop
private abbrev TE:=St->Hp->VK->Prop
theorem EP(X:Cx)(pc:LA)(σ:St)(Q:VK)(u:Vb)(s':Vc):Prop:=∃v H',Inv X pc σ H' s'/\RelV v u/\Q v H'
theorem TP(X:Cx)(pc:LA)(σ:St)(Q:Bool->Hp->Prop)(b:Bool)(s':Vc):Prop:=∃H',Inv X pc σ H' s'/\Q b H'
theorem PE(X:Cx)(e:Expr)(t:TE):Prop:=
 ∀(pc:LA) (s:Vc) (σ:St) (H:Hp) (Q:VK),Inv X pc σ H s->t σ H Q->Vg Q2 X.A Qh3 QI9 X.xe s
def thn{α:Type}{t:Sem α}{Q Q':α->Vc->Prop}{M:Model}{A:Uu}{E:VP}{s:Vc}(h:Vg M A t Q E s)(B:∀a s,Q a s->Q' a s):Vg M A t Q' E s:=Vp h B λ_ _ x=>x
universe L2
namespace L2
open PySem PySem.Spec PyProof.Rows
section
variable{X:Cx}
def bin{a b:Expr}{ta tb:TE}(L:PE X a ta)(hb:PE X b tb){pc:LA}{s:Vc}{σ:St}{H:Hp}{R:V->V->Hp->Prop}(I:Inv X pc σ H s)(h:ta σ H λx H1=>tb σ H1 λy H2=>R x y H2)
  {α:Type} {Q:α->Vc->Prop} {f:Vb->Vb->Sem α}
  (hf:∀v u B x y H2,Inv X pc σ H2 B->RelV x v->RelV y u->R x y H2->Vg Q2 X.A QfR Q X.xe B):
  Vg Q2 X.A QCC (λv s₁=>Vg Q2 X.A QBC (λu s₂=>Vg Q2 X.A QfR Q X.xe s₂) X.xe s₁) X.xe s:=by
 calc thn (L pc s σ H _ I h) λv s1 ⟨x,H1,I1,r1,q1⟩=>?_;calc thn (hb pc s1 σ H1 _ I1 q1) λu B ⟨y,H2,I2,r2,q2⟩=>?_;calc hf v u B x y H2 I2 r1 r2 q2
abbrev Yde(i:Nat):TE:=fun σ H Q=>∃v,σ[i]?=yz Qw8/\Q v H
abbrev tC(v:V):TE:=λ_ H Q=>Q v H
def X51 {i:Nat} {x:Str} {pos:Pos} (hN:X.N[i]?=yz x) (hv:Vis X.env.scope x) (hd:QB0=false:=by decide) (L:Qh4=false:=by decide):PE X Qs7 (Yde i):=by
 intro pc s σ H Q I h;let⟨v,e,h⟩:=h;let⟨m,hn,hl⟩:=I.loc;let⟨u,r,l⟩:=hl i x v hN e hv;let fin:EP X pc σ Q u s:=⟨v,H,I,r,h⟩;rcases l with⟨B,hm⟩|⟨B,c,hc,hcell⟩;·exact wpAny_Name (wpAny_loadName_local I.ok.kind B hn hm fin) hd
 ·rcases B with B|B;·exact wpAny_Name (wpAny_loadName_cell I.ok.kind B hc hcell fin) hd
  ·calc wpAny_Name (wpAny_loadName_free I.ok.kind B hc hcell fin L) hd
def X52{i j pos}:PE X QyL (tC QF0):=λ_ _ _ H _ I h=>wpAny_Constant_int ⟨.int i,H,I.tok _,Q30,h⟩
def Ybm{b j pos}:PE X (.Constant QvL j pos) (tC QT7):=λ_ _ _ H _ I h=>Constant_bool ⟨.bl b,H,I,rfl,h⟩
def X53{j pos}:PE X QJK (tC .non):=λ_ _ _ H _ I h=>Constant_none ⟨.non,H,I,rfl,h⟩
def X54{x j pos}:PE X (.Constant Q3K j pos) (tC Q3K):=λ_ _ _ H _ I h=>Calls.Constant_str ⟨.str x,H,I.tok _,Q30,h⟩
theorem Gl(X:Cx)(x:Str):Prop:=X.env.kindOf x=yz .globalImplicit
def Xeh{E:VP}{pc:LA}{s:Vc}{σ:St}{H:Hp}{x:Str}{u:Vb}{pos:Pos}{Q:VP}(I:Inv X pc σ H s)(hg:Gl X x)(B:X.mg x=yz u)(h:Q u s)
  (hd:QB0=false:=by decide):Vg Q2 X.A QTQ Q E s:=
 Vi2 I.ok.kind hg (Calls.loadGlobal_global QFA B h) hd
def X8{E:VP}{pc:LA}{s:Vc}{σ:St}{H:Hp}{x:Str}{u:Vb}{pos:Pos}{Q:VP}(I:Inv X pc σ H s)(hg:Gl X x)(hm:X.mg x=yy)(L:Veu x=yz u)(h:Q u s)
  (B:x ≠ "__name__":=by decide) (hd:QB0=false:=by decide):Vg Q2 X.A QTQ Q E s:=by
 let⟨mb,h1,h2⟩:=I.mod.blt;calc Vi2 I.ok.kind hg (Calls.loadGlobal_builtin QFA hm (by rw[I.ok.blt];calc h1.keeps I.bk) ((h2 x B).trans L) h) hd
universe e
universe L2
namespace L2
open PySem PySem.Spec PyProof.Rows
theorem SqL(K:Vh)(H:Hp)(a:Addr)(xs:LW):Prop:=
 Rd H a QB1 \/
  ∃(o:Obj) (its:AV) (n:Nat),K.lookup a=yz o/\o.cls=.type "list" /\ o.dict=yy/\o.data=.seq its n/\its.size<=V7/\Vals xs its.toList
theorem SqT(K:Vh)(H:Hp)(a:Addr)(xs:LW):Prop:=
 Rd H a QA1 \/
  ∃(o:Obj) (its:AV) (n:Nat),K.lookup a=yz o/\o.cls=.type "tuple" /\ o.data=.seq its n/\its.size<=V7/\Vals xs its.toList
abbrev Ydf:Vb->Option V
 |.none=>yz .non|.bool b=>yz QT7|.int i _=>yz QF0|.str x _=>yz Q3K|.bytes b _=>yz (.byt b)|.float b _=>yz (.flt b)|.ref a=>yz Q40|.type n=>yz (.ty n)|_=>yy
def RelV.abs{x:V}{u:Vb}(r:RelV x u):Ydf u=yz x:=by
 cases x with
 |non=>cases r;rfl|bl _=>cases r;rfl|int _=>let⟨t,rfl⟩:=r;rfl|str _=>let⟨t,rfl⟩:=r;rfl|byt _=>let⟨t,rfl⟩:=r;rfl|flt _=>let⟨t,rfl⟩:=r;rfl|ref _=>cases r;rfl|ty _=>cases r;rfl
def RelV.inj{x y:V}{u:Vb}(r:RelV x u)(q:RelV y u):x=y:=Ur (r.abs.symm.trans q.abs)
def Vals.inj:∀ {xs ys:LW} {us:LV},Vals xs us->Vals ys us->xs=ys
 |_,_,_,.nil,.nil=>rfl|_,_,_,.cons r t,.cons r' t'=>by rw[r.inj r',Vals.inj t t']
section
variable{X:Cx}{pc:LA}{σ:St}{H:Hp}{s:Vc}{a:Addr}{xs ys:LW}
def SqL.of{K:Vh}(h:H a=yz QB1):SqL K H a xs:=.inl QAK
def SqT.of{K:Vh}(h:H a=yz QA1):SqT K H a xs:=.inl QAK
def Inv.list(I:Inv X pc σ H s)(h:SqL X.K H a xs):∃its:LV,Vals xs its/\PlainL s.heap a its.toArray/\QU<=V7:=by
 rcases h with h|⟨o,its,n,B,L,hd,hs,hz,r⟩;·let⟨z,its,n,r,e⟩:=h.ok I.hok;exact⟨its,r,⟨_,n,e,rfl,rfl,rfl⟩,z⟩
 ·calc⟨its.toList,r,⟨o,n,I.kIn a o B,L,hd,by simpa using hs⟩,?_⟩;let e:=r.length;simp[Vz]at e;omega
def Inv.tuple(I:Inv X pc σ H s)(h:SqT X.K H a xs):∃its:LV,Vals xs its/\Vdz s.heap a its.toArray/\QU<=V7:=by
 rcases h with h|⟨o,its,n,B,L,hs,hz,r⟩;·let⟨z,its,r,p⟩:=h.ok I.hok;exact⟨its,r,p,z⟩
 ·calc⟨its.toList,r,⟨o,I.kIn a o B,L,n,by simpa using hs⟩,?_⟩;let e:=r.length;simp[Vz]at e;omega
def Inv.list_inj(I:Inv X pc σ H s)(h:SqL X.K H a xs)(h':SqL X.K H a ys):xs=ys:=by
 let⟨its,r,⟨o,n,e,_,_,d⟩,_⟩:=I.list h;let⟨B,r',⟨o',n',e',_,_,L⟩,_⟩:=I.list h';rw[e]at e';cases e';rw[d]at L;injection L with d1 _;let:its=B:=by simpa using congrArg Array.toList d1
 subst this;calc r.inj r'
def Inv.tuple_inj(I:Inv X pc σ H s)(h:SqT X.K H a xs)(h':SqT X.K H a ys):xs=ys:=by
 let⟨its,r,⟨o,e,_,n,d⟩,_⟩:=I.tuple h;let⟨B,r',⟨o',e',_,n',L⟩,_⟩:=I.tuple h';rw[e]at e';cases e';rw[d]at L;injection L with d1 _;let:its=B:=by simpa using congrArg Array.toList d1
 subst this;calc r.inj r'
universe e
private noncomputable abbrev Cx.wish(X:Cx)(E:VP):Cx:={ X with xe:=E}
def Cx.Ok.wish{X:Cx}(ok:X.Ok)(E:VP):QX4.Ok:=
 Qg1
def Cx.Ok.unwish{X:Cx}{E:VP}(ok:QX4.Ok):X.Ok:=
 Qg1
section
variable{X:Cx}{pc:LA}{σ:St}{H:Hp}{s:Vc}{E:VP}
def Inv.wish(I:Inv X pc σ H s)(E:VP):Inv QX4 pc σ H s:=⟨I.ok.wish E,I.os,I.bare,I.base,I.loc,I.cell,I.free,I.freeC,I.pin,I.hok,I.len⟩
def Inv.unwish(I:Inv QX4 pc σ H s):Inv X pc σ H s:=⟨I.ok.unwish,I.os,I.bare,I.base,I.loc,I.cell,I.free,I.freeC,I.pin,I.hok,I.len⟩
def Inv.quiet{pc:LA}{σ:St}{H:Hp}{s:Vc}(I:Inv X pc σ H s):interactive X.env=false:=by simp![interactive,I.ok.kind]
universe e
private abbrev TG:=V->St->Hp->QPT->Prop
private abbrev TGs:=LW->St->Hp->QPT->Prop
theorem PG(X:Cx)(B:Expr)(t:TG):Prop:=
 ∀(pc:LA) (s:Vc) (σ:St) (H:Hp) (v:V) (u:Vb) (Q:St->Hp->Prop),Inv X pc σ H s->RelV v u->t v σ H Q ->
  Vg Q2 X.A (assign B X.env u) (λ_ s'=>∃ L H',Inv X pc L H' s'/\Q L H') X.xe s
theorem PGs(X:Cx)(L:LX)(t:TGs):Prop:=
 ∀(pc:LA) (s:Vc) (σ:St) (H:Hp) (vs:LW) (us:LV) (Q:St->Hp->Prop),Inv X pc σ H s->Vals vs us->t vs σ H Q ->
  Vg Q2 X.A (assignInOrder ((Vb3 L X.env).map QG0) us) (λ_ s'=>∃ B H',Inv X pc B H' s'/\Q B H') X.xe s
private abbrev Ydg:=V->V->V->Hp->QhZ->Prop
theorem Ydh(X:Cx)(t:Ydg):Prop:=
 ∀(pc:LA) (s:Vc) (σ:St) (H:Hp) (o i v:V) (B L u:Vb) (Q:Hp->Prop),Inv X pc σ H s->RelV o B->RelV i L->RelV v u->t o i v H Q ->
  Vg Q2 X.A (setItem B L u) (λ_ s'=>∃H',Inv X pc σ H' s'/\Q H') X.xe s
section
variable{X:Cx}{pos:Pos}
abbrev X1f(i:Nat):TG:=λv σ H Q=>Q Q9C H
def X2i{i:Nat}{x:Str}(hN:X.N.Nodup)(hi:X.N[i]?=yz x)(L:Loc X.env.scope x)(hf:X.fn x=yx\/X.env.scope.names.lookup x=yz .local:=by first|calc .inl rfl|calc .inr rfl|assumption):PG X Qs7 Qye:=by intro pc s σ H v u Q I r h;calc Vi6 (Xcb I hN hi L r (λs' B=>⟨_,H,B,h⟩) hf)
abbrev X55:TGs:=λvs σ H Q=>vs=[]/\Q σ H
abbrev X1g(t:TG)(u:TGs):TGs:=λvs σ H Q=>∃v r,vs=v::r/\t v σ H λB H'=>u r B H' Q
def X2j:PGs X [] X55:=by intro pc s σ H vs us Q I r h;let⟨e,h⟩:=h;subst e;cases r;calc assignInOrder_nil ⟨σ,H,I,h⟩
def Xyh{e:Expr}{es:LX}{t:TG}{u:TGs}(h1:PG X e t)(h2:PGs X es u)
  (hs:(Vb3 QD4 X.env).map QG0=assign e X.env::Qk3.map QG0:=by rfl):PGs X QD4 (X1g t u):=by
 intro pc s σ H vs us Q I r h;let⟨v,L,e1,h⟩:=h;subst e1;cases r with
 |cons r B=>rw[hs];calc Viw (thn (h1 pc s σ H _ _ _ I r h) λ_ s1 ⟨σ1,H1,I1,q1⟩=>?_);calc h2 pc s1 σ1 H1 _ _ Q I1 B q1
abbrev Ydi(K:Vh)(n:Nat)(t:TGs):TG:=λv σ H Q=>∃a xs,v=.ref a/\SqT K H a xs/\QU=n/\t xs σ H Q
def X56{es:LX}{k:Nat}{t:TGs}{n:Nat}(hc:X.calm=yx)(h:PGs X es t)
  (hn:Qk3.length=n:=by rfl) (B:Qk3.findIdx? Qu=none:=by rfl):PG X Q6Q (Ydi X.K n t):=by
 intro pc s σ H v u Q I r L;let⟨a,xs,e1,hq,hl,L⟩:=L;subst e1;cases r;let⟨its,rv,ht,hz⟩:=I.tuple hq;calc assign_Tuple_tuple Q87 ht (by simp![hn,<-hl,rv.length]) B λh' hx=>?_;let I1:Inv X pc σ H QV:=I.kept (t':=s.toks) λb o e=>hx b o Q9V e;calc h pc _ σ H xs _ Q I1 (by simpa using rv) L
universe e
structure It where
 go:Nat->Hp->Prop
 yld:Nat->Hp->V->Hp->Prop
 stop:Nat->Hp->Prop
theorem Xa5(X:Cx)(pc:LA)(H:Hp)(b:Addr):Prop:=
 H b=yy/\b≠X.env.locals/\b ∉ X.fs/\Q43/\QN2/\∀p∈X.pn++pc,p.1≠b
def Inv.fpOk{X:Cx}{pc:LA}{σ:St}{H H':Hp}{s:Vc}{b:Addr}(I:Inv X pc σ H s)(B:s.heap.objs.size<=b)(hn:H' b=yy):Xa5 X pc H' b:=by
 calc⟨hn,Vc3 (Uf I.lt B),I.nofs B,.inr (V2 I.sz B),λx c e z=>?_,λp L z=>?_⟩;·let⟨v,q⟩:=I.cell x c e;exact aB0 (Uf q.lt QYF) Q2H
 ·calc aB0 (Uf (Vy (I.pin p L).1) QYF) Q2H
structure Turn(P:V0)(w:V9)(K:Vh)(tg:Expr)(J:It)(fp:LR)(it:Addr)(tn:Nat->Heap->Prop):Prop where
 mem:it∈fp
 obj:∀i h,tn i h->∀b∈fp,∃o,h.get? b=yz o/\∀v,o.data≠.cell v
 keep:∀i h h',tn i h->(∀b∈fp,∀o,h.get? b=yz o->h'.get? b=yz o)->tn i h'
 item:∀(X:Cx),X.prog=P->X.w=w->X.K=K->X.calm=yx->∀(i:Nat) (pc:LA) (s:Vc) (σ:St) (H:Hp) (E:VP),Inv X pc σ H s->QjI->tn i s.heap->J.go i H ->
  Vg QKA X.A QTL (λr s1=>∃u,r=yz u /\
   Vg QKA X.A QKT (λ_ s2=>∃x H',Inv X pc σ H' s2/\RelV x u/\J.yld i H x H'/\tn QC2 s2.heap/\∀b∈fp,H' b=yy) E s1) E s
 done:∀(X:Cx),X.prog=P->X.w=w->X.K=K->X.calm=yx->∀(i:Nat) (pc:LA) (s:Vc) (σ:St) (H:Hp) (E:VP),Inv X pc σ H s->QjI->tn i s.heap->J.stop i H ->
  Vg QKA X.A QTL (λr s1=>r=yy/\Inv X pc σ H s1) E s
 self:∀(A:Uu) (i:Nat) (s:Vc) (Q:VP) (E:VP),tn i s.heap->Q QR1 s->Vg QKA A (Vev QR1) Q E s
theorem PIE(X:Cx)(pc:LA)(σ:St)(tg:Expr)(R:It->Hp->Prop)(B:Vb)(L:Vc):Prop:=
 ∃(it:Addr) (fp:LR) (tn:Nat->Heap->Prop) (J:It) (H':Hp),B=.ref it/\Inv X pc σ H' L/\Turn X.prog X.w X.K tg J fp it tn/\tn 0 L.heap/\Q7I/\R J H'
def Xmn{M:Model}{A:Uu}{E:VP}{s:Vc}{tg:Expr}{it:Addr}{u:Vb}{o:Obj}{n:String}{vs:AV}{Q:Unit->Vc->Prop}(L:s.heap.get? it=yz o)(hc:o.cls=.type n)(hd:o.data=.fields vs)
  (hn:Qd.contains n=yw) (B:Q () s):Vg M A QKT Q E s:=by
 unfold Vdb;cases tg<;>first
  |calc Vd B
  | (cases u<;>first
    |calc Vd B
    | (exact Va (Vfx L ?_)
       rw[hc,hd];show Vg M A (if (Qd.contains n&&vs[0]?==yz (Uv _))=yx then _ else _) Q E s;rw[iN0 (by intro h;rw[hn,Vcd]at h;cases h)]
       calc Vd B))
abbrev Itl(K:Vh)(a:Addr):It:=
 ⟨λi H=>∃xs x,SqL K H a xs/\xs[i]?=yz x,λi H x H'=>H'=H/\∀xs,SqL K H a xs->xs[i]?=yz x,λi H=>∃xs,SqL K H a xs/\QU<=i⟩
abbrev Itt(K:Vh)(a:Addr):It:=
 ⟨λi H=>∃xs x,SqT K H a xs/\xs[i]?=yz x,λi H x H'=>H'=H/\∀xs,SqT K H a xs->xs[i]?=yz x,λi H=>∃xs,SqT K H a xs/\QU<=i⟩
abbrev Itr(lo:Int)(n:Nat):It:=⟨λi _=>i<n,λi H x H'=>H'=H/\x=.int Qnf,λi _=>n<=i⟩
def Xlr{P:V0}{w:V9}{K:Vh}{tg:Expr}(a it:Addr):Turn P w K tg QOS [it] it (λi h=>h.IsListIter it a i) where
 mem:=by simp!
 obj:=λi h st b B=>by
  let e:b=it:=by simpa using B
  subst e;let⟨o,e,c,d⟩:=st;exact QMC
 keep:=λi h h' st k=>st.at λo e=>k it QB o e
 item:=by intro X hP hw hK hc i pc s σ H E I hf st hg;subst hP hw hK;let⟨xs,x,hq,hx⟩:=hg;let⟨its,rv,p,hz⟩:=I.list hq;let⟨u,hu,ru⟩:=rv.get hx;let⟨f0,f1,f2,f3,f4,f5⟩:=hf it QB;exact wpAny_pyNext_list_item st p.isList (x:=u) QUD λh' L sb=>?_;let I1:Inv X pc σ H QV:=I.turned (t':=s.toks) QBE f0 f1 f3 f4 f5;let⟨o,e,c,d⟩:=id L;exact⟨u,rfl,Xmn (s:=QV) e c d Q1 ⟨x,H,I1,ru,⟨rfl,λys hy=>by rw[I.list_inj hy hq];calc hx⟩,L,λb B=>QBO.1⟩⟩
 done:=by intro X hP hw hK hc i pc s σ H E I hf st hg;subst hP hw hK;let⟨xs,hq,hx⟩:=hg;let⟨its,rv,p,hz⟩:=I.list hq;let⟨f0,f1,f2,f3,f4,f5⟩:=hf it QB;let hl:=rv.length;exact wpAny_pyNext_list_end Q87 st p.isList Qc3 λh' eb=>QY0
 self:=λ_ _ _ _ _ st h=>wpAny_pyIter_listiter st h
def Xsu{P:V0}{w:V9}{K:Vh}{tg:Expr}(a it:Addr):Turn P w K tg Qeb [it] it (λi h=>h.IsTupleIter it a i) where
 mem:=by simp!
 obj:=λi h st b B=>by
  let e:b=it:=by simpa using B
  subst e;let⟨o,e,c,d⟩:=st;exact QMC
 keep:=λi h h' st k=>st.at λo e=>k it QB o e
 item:=by intro X hP hw hK hc i pc s σ H E I hf st hg;subst hP hw hK;let⟨xs,x,hq,hx⟩:=hg;let⟨its,rv,p,hz⟩:=I.tuple hq;let⟨u,hu,ru⟩:=rv.get hx;let⟨f0,f1,f2,f3,f4,f5⟩:=hf it QB;exact wpAny_pyNext_tuple_item st (show s.heap.IsTuple a its.toArray from p) (x:=u) QUD λh' L sb=>?_;let I1:Inv X pc σ H QV:=I.turned (t':=s.toks) QBE f0 f1 f3 f4 f5;let⟨o,e,c,d⟩:=id L;exact⟨u,rfl,Xmn (s:=QV) e c d Q1 ⟨x,H,I1,ru,⟨rfl,λys hy=>by rw[I.tuple_inj hy hq];calc hx⟩,L,λb B=>QBO.1⟩⟩
 done:=by intro X hP hw hK hc i pc s σ H E I hf st hg;subst hP hw hK;let⟨xs,hq,hx⟩:=hg;let⟨its,rv,p,hz⟩:=I.tuple hq;let⟨f0,f1,f2,f3,f4,f5⟩:=hf it QB;let hl:=rv.length;exact wpAny_pyNext_tuple_end Q87 st (show s.heap.IsTuple a its.toArray from p) Qc3 λh' eb=>QY0
 self:=λ_ _ _ _ _ st h=>wpAny_pyIter_tupleiter st h
def Xsv{P:V0}{w:V9}{K:Vh}{tg:Expr}(it:Addr)(lo:Int)(n:Nat):Turn P w K tg QfZ [it] it (λi h=>IsRangeIter h it (lo+(i:Nat)*1) Q9Q 1) where
 mem:=by simp!
 obj:=λi h st b B=>by
  let e:b=it:=by simpa using B
  subst e;exact⟨_,st,λv z=>by let z':Data.fields _=Data.cell v:=z;cases z'⟩
 keep:=λi h h' st k=>k it QB _ st
 item:=by intro X hP hw hK hc i pc s σ H E I hf st hg;subst hP hw hK;let⟨f0,f1,f2,f3,f4,f5⟩:=hf it QB;let W:=Walks.range (prog:=X.prog) (w:=X.w) Q87 it lo 1 n;exact W.item i s _ _ hg st λv h' tk hv L kk=>?_;let⟨t,rfl⟩:=hv;let I1:Inv X pc σ H Qt:=I.turned QaB f0 f1 f3 f4 f5;calc⟨_,rfl,Xmn (s:=Qt) (n:="range_iterator") L rfl rfl Q1 ⟨.int Qnf,H,I1,Q6c,QD0,L,λb B=>QBO.1⟩⟩;rw[Int.mul_one]
 done:=by intro X hP hw hK hc i pc s σ H E I hf st hg;subst hP hw hK;let⟨f0,f1,f2,f3,f4,f5⟩:=hf it QB;exact wpAny_pyNext_range_end Q87 st (by let:n<=i:=hg;omega) λh' eb=>QY0
 self:=λ_ _ _ _ _ st h=>wpAny_pyIter_rangeiter st h
universe L2
namespace L2
open PySem PySem.Spec PyProof.Rows
section
variable{X:Cx}{tg:Expr}
def Xyi{pc:LA}{σ:St}{H:Hp}{s:Vc}{R:It->Hp->Prop}{E:VP}{lo hi:Int}{t u v:Tok}{tk:Nat}(I:Inv X pc σ H s)(h1:-QRB<=lo)(h2:lo<2^62)(h3:-QRB<=hi)(L:hi<2^62)
  (q:R (Itr lo QlG.toNat) H):Vg Q2 X.A QOO QXO E QR5:=by
 calc wpAny_pyIter_range QaA (small_one h1 h2 h3 L) ?_;let B:Inv X pc σ H QR5:=I.kept λb o e=>Ve _ e
 exact⟨(s.heap.push QP).objs.size,[(s.heap.push QP).objs.size],_,_,H,rfl,
  B.kept (t':=tk) λb o e=>Ve _ e,Xsv _ lo QlG.toNat,?_,λb hb=>?_,q⟩
 ·let e1:lo+QS4*1=lo:=by simp!
  let e2:QqN-QS4=Vbu lo hi 1:=by rw[rangeSize_one];split<;>omega
  show IsRangeIter _ _ (lo+QS4*1) (QqN-QS4) 1;rw[e1,e2];exact Vm _ rfl
 ·let e:b=(s.heap.push QP).objs.size:=by simpa using hb
  subst e;calc B.fpOk Qw (B.hok.fresh Qw)
abbrev Xa6(fp:LR)(h:Heap):LA:=fp.filterMap λb=>(h.get? b).map λo=>(b,o)
def Xc2{fp:LR}{h:Heap}{b:Addr}{o:Obj}(B:b∈fp)(e:h.get? b=yz o):(b,o)∈Xa6 fp h:=Ve7.mpr ⟨b,B,by rw[e];rfl⟩
def Xu5{fp:LR}{h:Heap}{p:Addr×Obj}(hp:p∈Xa6 fp h):p.1∈fp/\h.get? p.1=yz p.2:=by
 let⟨b,B,e⟩:=Ve7.mp hp;cases q:h.get? b with
 |none=>rw[q]at e;cases e|some o=>rw[q]at e;let L:(b,o)=p:=Ur e;subst L;calc⟨B,q⟩
def Inv.pinned{pc:LA}{σ:St}{H:Hp}{s:Vc}{fp:LR}(I:Inv X pc σ H s)(hf:∀b∈fp,Xa5 X pc H b)(ho:∀b∈fp,∃o,s.heap.get? b=yz o/\∀v,o.data≠.cell v):Inv X (pc++Xa6 fp s.heap) σ H s:=
 I.pins_of λp hp=>(Uo.mp hp).elim (λz=>I.pin p (Vae _ z)) λz=>by let⟨B,e⟩:=Xu5 z;let⟨f0,f1,f2,_⟩:=hf p.1 B;let⟨o,L,d⟩:=ho p.1 B;rw[e]at L;cases L;calc⟨e,f0,f1,f2,d⟩
def Inv.unpinned{pc pl:LA}{σ:St}{H:Hp}{s:Vc}(I:Inv X QQc σ H s):Inv X pc σ H s:=I.pins_of λp B=>I.pin p (Vae _ QUL)
universe e
universe L2
namespace L2
open PySem PySem.Spec PyProof.Rows
private abbrev R2:=V->V->Hp->VK->Prop
theorem OpR(X:Cx)(f:Vb->Vb->Sem Vb)(r:R2):Prop:=
 ∀(pc:LA) (s:Vc) (σ:St) (H:Hp) (x y:V) (v u:Vb) (Q:VK),Inv X pc σ H s->RelV x v->RelV y u->r x y H Q ->
  Vg Q2 X.A QfR QI9 X.xe s
theorem Xgy(X:Cx)(f:Vb)(r:LW->Hp->VK->Prop):Prop:=
 ∀(pc:LA) (s:Vc) (σ:St) (H:Hp) (xs:LW) (us:LV) (Q:VK),Inv X pc σ H s->Vals xs us->r xs H Q ->
  Vg Q2 X.A QGN QI9 X.xe s
theorem Ydj(X:Cx)(r:V->Hp->(Bool->Hp->Prop)->Prop):Prop:=
 ∀(pc:LA) (s:Vc) (σ:St) (H:Hp) (x:V) (v:Vb) (Q:Bool->Hp->Prop),Inv X pc σ H s->RelV x v->r x H Q ->
  Vg Q2 X.A (truthy v) (TP X pc σ Q) X.xe s
section
variable{X:Cx}{a b:Expr}
theorem CMul(i j:Int):Prop:=(-Q3g<i/\i<2^64)\/(-Q3g<j/\j<2^64)
def CMul.ok{i j:Int}(h:CMul i j):IntMulOk i j:=by
 rcases h with⟨h1,h2⟩|⟨h1,h2⟩;·exact .of_left QDL
 ·calc .of_right QDL
abbrev Ybn:HO->Bool
 |.lst _=>yx|.ins _ _ _=>yx|_=>yw
def Xcq{pc:LA}{s:Vc}{σ:St}{H:Hp}{a:Addr}{o:HO}(I:Inv X pc σ H s)(h:H a=yz o)(p:Ybn o=yx):∃ob,s.heap.get? a=yz ob/\ob.cls≠.type "tuple":=by
 cases o with
 |lst xs=>obtain⟨_,its,n,_,e⟩:(lg xs)<=V7/\∃(its:LV) (n:Nat),Vals xs its/\s.heap.get? a=yz Q10:=I.hok a _ h;calc⟨_,e,(by show Vb8 "list" ≠ .type "tuple";decide+kernel)⟩|ins C dx fs=>let x:=I.hok a _ h;let⟨_,_,_,e,_⟩:=x;calc⟨_,e,(by show Ux C≠.type "tuple";calc λz=>by cases z)⟩|_=>calc aB0 (show yw=yx from p) V3
theorem X57(K:Vh)(x:V)(H:Hp)(k:Bool):Prop:=
 match x with
 |.non=>k=yw|.bl b=>k=b|.int i=>k=QUU|.str y=>y.length<=V7/\k=((y.length:Int) != 0)|.byt y=>y.size<=V7/\k=((y.size:Int) != 0)|.ref p=>(∃xs,SqL K H p xs/\k = !xs.isEmpty)\/(∃xs,SqT K H p xs/\k = !xs.isEmpty)\/∃kvs,H p=yz Q2c/\k = !kvs.isEmpty|_=>False
def Xsw{κ:Type}{kvs:List Qpd}{vs:List QEc}(r:KV kvs vs):QoV = !kvs.isEmpty:=by cases r<;>rfl
def Xi5{xs:LW}{its:LV}(r:Vals xs its):(!its.toArray.isEmpty) = !xs.isEmpty:=by cases r<;>simp!
def Xf2:(V7:Nat)<2^63:=by rw[Va6];decide
def X58:Ydj X (λx H Q=>∃k,X57 X.K x H k/\Q k H):=by
 intro pc s σ H x v Q I rx h;let⟨k,e,q⟩:=h;let hl:=Xf2;let hs:V7=16777216:=Va6;cases x with
 |non=>cases rx;let B:k=false:=e;subst B;calc truthy_none QuO|bl b=>cases rx;let B:k=b:=e;subst B;exact Vce QuO|int i=>let⟨t,rfl⟩:=rx;let B:k=QUU:=e;subst B;exact PySem.P.truthy_int QuO|str y=>let⟨t,rfl⟩:=rx;obtain⟨hy,B⟩:y.length<=V7/\k=((y.length:Int) != 0):=e;subst B;exact PySem.P.truthy_str Q0 Q1R|byt y=>let⟨t,rfl⟩:=rx;obtain⟨hy,B⟩:y.size<=V7/\k=((y.size:Int) != 0):=e;subst B;exact PySem.W.truthy_bytes Q0 Q1R|ref p=>
  cases rx;let B:(∃xs,SqL X.K H p xs/\k = !xs.isEmpty)\/(∃xs,SqT X.K H p xs/\k = !xs.isEmpty)\/∃kvs,H p=yz Q2c/\k = !kvs.isEmpty:=e;rcases B with⟨xs,hx,B⟩|⟨xs,hx,B⟩|⟨kvs,hx,B⟩;·subst B;let⟨its,r,pl,hz⟩:=I.list hx;let L:=r.length;exact wpAny_truthy_list pl.isList QMP Q8D
  ·subst B;let⟨its,r,pl,hz⟩:=I.tuple hx;let L:=r.length;exact truthy_tuple pl QMP Q8D
  subst B;obtain⟨hz,hS,vs,r,m⟩:(lg kvs)<=V7/\(p==Vci)=yw/\∃vs,KV kvs vs/\s.heap.DictOf (Xj7 X.prog X.w) p vs:=I.hok p _ hx;let L:(lg kvs)=lg vs:=Paired.length r;calc wpAny_truthy_dict hS m Q0 ⟨H,I.tok _,by rw[Xsw r];calc q⟩|_=>calc(show False from e).elim
def Xsx{x:V}{us:LV}(r:Vals [x] us):∃u,us=[u]/\RelV x u:=by
 cases r with
 |cons L B=>cases B;calc⟨_,rfl,L⟩
def X1h{x y:V}{us:LV}(r:Vals Qc9 us):∃u B,us=[u,B]/\RelV x u/\RelV y B:=by
 cases r with
 |cons r1 r2=>
  cases r2 with
  |cons r3 L=>cases L;calc⟨_,_,rfl,r1,r3⟩
def Xu6(L:X.calm=yx):Xgy X QsF (λxs H Q=>∃i j,xs=QL3/\Q QkF H):=by
 intro pc s σ H xs us Q I r h;let⟨i,j,rfl,q⟩:=h;let⟨u,w',rfl,⟨t,rfl⟩,⟨t',rfl⟩⟩:=X1h r;exact max_two_ints QeY λh' tk k=>QnK;by_cases B:j>i;·rw[iP0 B,iP0 B];exact Q30
 ·rw[iN0 B,iN0 B];calc Q30
def Xu7(L:X.calm=yx):Xgy X QrF (λxs H Q=>∃i j,xs=QL3/\Q QlF H):=by
 intro pc s σ H xs us Q I r h;let⟨i,j,rfl,q⟩:=h;let⟨u,w',rfl,⟨t,rfl⟩,⟨t',rfl⟩⟩:=X1h r;exact min_two_ints QeY λh' tk k=>QnK;by_cases B:j<i;·rw[iP0 B,iP0 B];exact Q30
 ·rw[iN0 B,iN0 B];calc Q30
universe e
universe L2
namespace L2
open PySem PySem.Spec PyProof.Rows
structure Cls(K:Vh)(C:Addr):Prop where
 pg:PySem.W.plainGet K C Str.empty=yx
 hd:PySem.W.hasDictIn K C=yx
 po:PySem.W.plainOver K C=yx
 sa:Ves K QL2 "__setattr__"=yz (yz (.builtin "object.__setattr__"))
universe L2
namespace L2
open PySem PySem.Spec PyProof.Rows
structure Room(k:Nat)(A:Uu):Prop where
 gd:A.guards=yz []
 hd:A.handled=yy
 dp:A.depth+3*k+5<recursionLimit
 un:A.units+16*k+200<Vbt
private abbrev Sp:=LW->Hp->VK->XK->Prop
private abbrev CXT:=List Env->Hp->Vc->XK->Vb->Vc->Prop
structure Env0(P:V0)(w:V9)(K:Vh)(mg:Str->OV)(base:Heap)(A:Uu)(outer:List Env)(s:Vc)(H:Hp):Prop where
 frames:A.frames=yz outer
 mod:Mod K mg base
 bs:∀b o,base.get? b=yz o->s.heap.get? b=yz o/\H b=yy
 bsz:base.objs.size<=s.heap.objs.size
 funs:s.heap.FunFrames base outer
 frf:∀b∈frs outer,H b=yy
 hok:HOk P w H s.heap
 bare:AllBare s.gens
theorem CE(outer:List Env)(P:V0)(w:V9)(H:Hp)(s:Vc)(Q:VK)(u:Vb)(s':Vc):Prop:=
 ∃v H',s'.os=s.os/\AllBare s'.gens/\Un QmX [] H H' s.heap s'.heap/\HOk P w H' s'.heap/\RelV v u/\Q v H'
theorem CR(CX:CXT)(outer:List Env)(P:V0)(w:V9)(H:Hp)(s:Vc)(Q:VK)(E:XK)(r:Result)(s':Vc):Prop:=
 match r with
 |.ok (.ret u)=>CE outer P w H s Q u s'|.ok _=>False|.error e=>CX outer H s E e s'
structure FnOk(P:V0)(w:V9)(K:Vh)(mg:Str->OV)(base:Heap)(CX:CXT)(k:Nat)(f:Addr)(fd:Vdc)(ps:LS)(sp:Sp):Prop where
 len:∀vs H Q E,sp vs H Q E->lg vs=lg ps
 run:∀(A:Uu) (outer:List Env) (s:Vc) (H:Hp) (args:Args) (us:LV) (vs:LW) (Q:VK) (E:XK),Room k A->Env0 P w K mg base A outer s H->BindsTo s fd args QZ6->Vals vs us->sp vs H Q E ->
  Vco QKA A QvQ (CR CX outer P w H s Q E) s
section
variable{X:Cx}{pc:LA}{σ:St}{H:Hp}{s s':Vc}
def Inv.env0(I:Inv X pc σ H s):Env0 X.prog X.w X.K X.mg X.base X.A X.stack s H:=
 ⟨I.ok.frames,I.ok.mod,I.bs,V2 I.ok.bsz I.sz,I.stack,I.stkFree,I.hok,I.bare⟩
def Inv.after{Q:VK}{u:Vb}(I:Inv X pc σ H s)(h:CE X.stack X.prog X.w H s Q u s'):EP X pc σ Q u s':=by let⟨v,H',os,bare,un,hok,r,q⟩:=h;let⟨L,g,d,t,B⟩:=s';obtain rfl:B=s.os:=os;calc⟨v,H',I.call (h':=L) (g':=g) (d':=d) (t':=t) (ch:=[]) un hok bare Q4P,r,q⟩
universe e
theorem Binds(K:Vh)(fd:Vdc)(ps:LS)(ds:LV):Prop:=
 ∀(s:Vc) (us:LV),K.In s.heap->QOc.length=lg ps->BindsTo s fd QfA (ps.zip QOc)
def Binds.all{K:Vh}{fd:Vdc}{ps:LS}(h:∀us:LV,lg us=lg ps->bindArgs fd QfA=pure QZ6):Binds K fd ps []:=λs us _ hl=>by rw[Vaw]at hl |-;calc .of_eq (h us hl)
structure FnScope(N P:LS)(sc:Vai):Prop where
 kind:sc.kind=.function
 co:sc.isCoroutine=yw
 gen:sc.isGenerator=yw
 nd:N.Nodup
 pre:N.take P.length=P
 par:∀x∈P,sc.names.lookup x=yz .local\/sc.names.lookup x=yz .cell
 nofree:∀y∈sc.names,y.2≠.free
def Xls{Vax:Str->Option Vff}{x:Str}:∀ {binds:List QYb} {m:Str->OV},QPK->bindL Vax binds m x=m x
 |[],_,_=>rfl| (n,v)::r,m,h=>by
  unfold bindL;rw[Xls λw B=>h w QLA];split
  ·let:x≠n:=by rintro rfl;exact h v V8
   simp![this]
  rfl
def Xlt{Vax:Str->Option Vff}{x:Str}:∀ {binds:List QYb} {m:Str->OV},QPK->bindC Vax binds m x=m x
 |[],_,_=>rfl| (n,v)::r,m,h=>by
  unfold bindC;rw[Xlt λw B=>h w QLA];split;·rfl
  ·let:x≠n:=by rintro rfl;exact h v V8
   simp![this]
def Xlu{Vax:Str->Option Vff}{x:Str}{v:Vb}:∀ {P:LS} {vs:LV} {i:Nat} {m:Str->OV},P.Nodup->P[i]?=yz x->vs[i]?=yz v->Vax x=yz .local ->
  bindL Vax QcZ m x=yz v
 |[],_,_,_,_,h,_,_=>by simp! at h|_::_,[],_,_,_,_,h,_=>by simp! at h|p::P,w::vs,0,m,nd,h1,h2,hk=>by simp! at h1 h2;subst h1;subst h2;show bindL Vax Qs9 m p=_;unfold bindL;rw[Xls λv B=>Q3H.1 Q3f.1,iP0 hk];simp!|p::P,w::vs,i+1,m,nd,h1,h2,hk=>by show bindL Vax Qs9 m x=_;unfold bindL;calc Xlu (i:=i) Q3H.2 QXD QJP hk
def Xlv{Vax:Str->Option Vff}{x:Str}{v:Vb}:∀ {P:LS} {vs:LV} {i:Nat} {m:Str->OV},P.Nodup->P[i]?=yz x->vs[i]?=yz v->Vax x≠yz .local ->
  bindC Vax QcZ m x=yz v
 |[],_,_,_,_,h,_,_=>by simp! at h|_::_,[],_,_,_,_,h,_=>by simp! at h|p::P,w::vs,0,m,nd,h1,h2,hk=>by simp! at h1 h2;subst h1;subst h2;show bindC Vax Qs9 m p=_;unfold bindC;rw[Xlt λv B=>Q3H.1 Q3f.1,iN0 hk];simp!|p::P,w::vs,i+1,m,nd,h1,h2,hk=>by show bindC Vax Qs9 m x=_;unfold bindC;calc Xlv (i:=i) Q3H.2 QXD QJP hk
abbrev start(N:LS)(vs:LW):St:=vs.map yz++Vn (N.length-lg vs) yy
abbrev Xsy(CX:CXT)(P:V0)(w:V9)(K:Vh)(mg:Str->OV)(base:Heap)(N:LS)(qual:Str)(scope:Vai)(f:Addr)(L:Vb)(A:Uu)(outer:List Env)(s:Vc)(H:Hp)(E:XK):Cx where
 prog:=P
 w:=w
 K:=K
 mg:=mg
 base:=base
 A:=A.deeper QV2
 N:=N
 s₀:=s
 H₀:=H
 env:=envOfC qual scope s.heap.objs.size f L
 outer:=outer
 stack:=envOfC qual scope s.heap.objs.size f L::outer
 ex:=[]
 calm:=yx
 fn:=λ_=>yx
 pn:=[]
 xe:=λe s'=>Vg QKA QaT (leaving QV2 e) (λ_ B=>CX outer H s E e B) (λe' B=>CX outer H s E e' B) s'
def Xm3{sc:Vai}{n:Nat}{x:Str}(h:sc.names.lookup x=yz .cell):∃c,(Vcf n sc.names []).lookup x=yz c:=by let q:=Vhd sc.names n [] QAK;calc Vde.mp q
def Xu8{CX:CXT}{P:V0}{w:V9}{K:Vh}{mg:Str->OV}{base:Heap}{N ps:LS}{qual:Str}{scope:Vai}{f:Addr}{cd:Vb}{A:Uu}{outer:List Env}{s s1:Vc}{H:Hp}{E:XK}{us:LV}{vs:LW}
  (S:FnScope N ps scope) (hd:A.handled=yy) (B:Env0 P w K mg base A outer s H) (hl:Qn2=lg ps) (r:Vals vs us)
  (x:InCallC s s.heap.objs.size (bindL QnA.kindOf QZ6 λ_=>yy) Q4J (bindC QnA.kindOf QZ6 λ_=>yy) s1):
  Inv QZ7 [] Q9B H s1:=by
 let ab:Qq5<=N.length:=by let:=congrArg List.length S.pre;rw[Vag]at this;omega
 let⟨h1,tk,rfl,hk⟩:=x.done;let L:∀b:Addr,b ∉ QZ7.ex:=λb z=>aB0 (show b∈Qwa from z) QB
 exact⟨⟨B.mod,S.kind,rfl,rfl,Vi _,λy z c h1 h2=>?_,λy hy=>?_,λy c _ h=>?_,λ_=>hd,Around.frames_deeper B.frames,.inr QD0,λb z=>aB0 z (L b),B.bs,B.bsz,λb _ _=>L b,λb z=>aB0 z (L b),B.funs,B.frf⟩,
  rfl,B.bare,Un.kept hk,⟨_,x.toInCall.ns,λi y v h1 h2 h3=>?_⟩,λy c h=>⟨_,x.cell y c h⟩,B.hok.fresh Qw,λy c h=>?_,λp hp=>aB0 (show p∈([]:LA) from hp) QB,B.hok.kept hk,?_⟩
 ·exact name_of_addr x.apart (Vc1 h1) (Vc1 h2)
 ·let hy:scope.names.lookup y=yz .cell\/scope.names.lookup y=yz .free:=hy;rcases hy with hy|hy;·exact Xm3 hy
  ·exact aB0 rfl (S.nofree _ (Vc1 hy))
 ·exact Vc2 QwK
 ·let hi:i<lg vs:=by
   unfold start at h2;by_cases hi:i<lg vs;·exact hi
   ·rw[U7 Qz0]at h2;rw[Vdp]at h2;split at h2<;>cases h2
  let ha:vs[i]?=yz v:=by
   unfold start at h2;rw[Vx Qz0,Ui]at h2;cases e:vs[i]? with
   |none=>rw[e]at h2;cases h2|some a=>rw[e]at h2;cases h2;rfl
  let⟨u,hu,rv⟩:=r.get ha;let hp:ps[i]?=yz y:=by rw[<-S.pre,Vjj Q0];exact h1
  let aa:ps.Nodup:=by rw[<-S.pre];exact S.nd.sublist QxJ
  calc⟨u,rv,?_⟩;rcases S.par y (V5 hp) with k|k;·exact .inl ⟨k,Xlu aa hp hu k⟩
  ·let⟨c,e⟩:=Xm3 (n:=s.heap.objs.size+1) k;calc .inr ⟨.inl k,c,e,?_⟩;let q:=x.cell y c e;rw[Xlv aa hp hu (by show scope.names.lookup y≠_;rw[k];decide)]at q;exact q
 ·exact B.hok.fresh (Vc2 QwK)
 ·unfold start;show _=N.length;rw[Uc,Vf,List.length_replicate];omega
universe L2
namespace L2
open PySem PySem.Spec PyProof.Rows
universe L2
namespace HT
open PySem PyProof.Rows
section
variable{prog:V0}{w:V9}{A:Uu}{E:VP}{s:Vc}
def cat_tup{t b:Addr}{vs B:LV}{Q:VP}(ht:Vdz s.heap t vs.toArray)(hb:Vdz s.heap b B.toArray)(hv:vs≠[])
  (h1:B=[]->Q QO5 s) (h2:B≠[]->Q QC {s with heap:=s.heap.push {cls:=.type "tuple",data:=.seq Qyd.toArray} })
  (af:Qn2+lg B<=V7):Vg Q6 A QtJ Q E s:=by
 let⟨⟨cls,dd,data,sl⟩,ho,hc,n,hd⟩:=id ht;let⟨⟨ag,aa,data2,ab⟩,L,ac,n2,ae⟩:=id hb;simp at hc hd ac ae;subst hc hd ac ae;let e:vs.toArray++B.toArray=Qyd.toArray:=by simp!
 by_cases hw:B=[]
 ·exact concat_meets QNJ QmK noFill_tuple_add seq_tuple_add Vhe Vg3 Q2S
   (tuple_addW1 t b vs.toArray B.toArray n n2 dd aa sl ab QIP (by simp![hw])) ⟨ho,L,h1 hw⟩
 ·exact concat_meets QNJ QmK noFill_tuple_add seq_tuple_add Vhe Vg3 Q2S
   (tuple_addW2 t b vs.toArray B.toArray n n2 dd aa sl ab QIP (by simpa using hw) (by rw[Vo,Vo];calc af)) ⟨ho,L,?_⟩
  rw[e];calc h2 hw
abbrev sIx(n d:Nat):Option Int->Nat
 |none=>d|some v=>if v<0 then QQC.toNat else min v.toNat n
def X59(n d:Nat)(hd:d<=n)(o:Option Int):sIx n d o<=n:=by
 cases o with
 |none=>exact hd|some v=>
  show(if v<0 then QQC.toNat else min v.toNat n)<=n;by_cases B:v<0;·rw[iP0 B];omega
  ·rw[iN0 B];calc Nat.min_le_right _ _
def Xqu(v:Int)(n d:Nat):(if v<0 then max QQC 0 else min v (n:Int))=((sIx n d Qw8:Nat):Int):=by
 show(if v<0 then max QQC 0 else min v (n:Int))=(((if v<0 then QQC.toNat else min v.toNat n):Nat):Int);by_cases B:v<0;·simp[iP0 B];omega
 ·simp[iN0 B];omega
def Xsz(lo hi:Option Int)(n:Nat):Vge lo hi 1 (n:Int)=(Qt6,QYM):=by
 let h1:¬ ((1:Int)<0):=by omega
 unfold Vge;simp[h1,if_false];exact Prod.ext ?_ ?_
 ·cases lo with
  |none=>rfl|some v=>exact Xqu v n 0
 cases hi with
 |none=>rfl|some v=>calc Xqu v n n
def Xs0(i j:Nat):Vej (i:Int) (j:Int) 1=j-i:=by
 unfold Vej;let h1:(1:Int)>0:=by omega
 simp[h1,if_true,Int.ediv_one];split<;>omega
def slicePart_{v:Vb}{o:Option Int}{Q:Option Int->Vc->Prop}(p:Vfm v o)(h:Q o s):Vg Q6 A (Builtin.Slice.slicePartIndex v) Q E s:=by
 cases p with
 |none=>calc slicePart_none h|int i t=>calc slicePart_int h
def sliceApplied_gen{sl:Addr}{vl vu:Vb}{lo hi:Option Int}{n:Nat}{Q:Int×Int×Nat->Vc->Prop}(hs:s.heap.IsSliceOf sl vl vu .none)(pl:Vfm vl lo)(pu:Vfm vu hi)
  (h:Q (Qt6,1,sIx n n hi-sIx n 0 lo) s):Vg Q6 A Q1J Q E s:=by
 let⟨os,L,aa,B⟩:=id hs;unfold Vea Vjc;calc Va (Va (U1 L B (x:=vl) rfl (Va (U1 L B (x:=vu) rfl (Va (U1 L B (x:=.none) rfl Q71))))));calc Va (slicePart_none ?_);show Vg _ _ (if ((1:Int)==0)=yx then _ else _) _ _ s;rw[iN0 Q1];calc Va (slicePart_ pl (Va (slicePart_ pu QCd)));show Vg _ _ (match Vge lo hi 1 (n:Int) with|(lo,hi)=>pure (lo,(1:Int),Vej lo hi 1)) _ _ s;rw[Xsz lo hi n];show Vg _ _ (pure (Qt6,(1:Int),Vej Qt6 QYM 1)) _ _ s;rw[Xs0];calc Vd h
def Xyj(xs:AV)(i k:Nat):(QLb.filterMap λ(m:Nat)=>xs[QdC.toNat]?).toArray=((xs.toList.drop i).take k).toArray:=by
 let e:(λ(m:Nat)=>xs[QdC.toNat]?)=λm=>xs[i+m]?:=by
  funext m;let:QdC.toNat=i+m:=by omega
  rw[this]
 rw[e];let:=pick_run xs i k;rw[Vix]at this;let e2:((λx=>xs[x]?)∘λx=>i+x)=λm=>xs[i+m]?:=rfl;rw[e2]at this;rw[this]
def getItem_tuple_cut{t sl:Addr}{items:AV}{vl vu:Vb}{lo hi:Option Int}{Q:VP}(L:Vdz s.heap t items)(hs:s.heap.IsSliceOf sl vl vu .none)(pl:Vfm vl lo)(pu:Vfm vu hi)
  (hw:¬ (sIx items.size 0 lo=0/\sIx items.size items.size hi=items.size))
  (h:Q QC {s with heap:=s.heap.push {cls:=.type "tuple",data:=.seq Qg0.toArray} })
  (ag:items.size<=V7):Vg Q6 A QME Q E s:=by
 let B:sizeOk (.seq Qg0.toArray):=by show((items.toList.drop (sIx items.size 0 lo)).take Qk0).toArray.size<=V7;rw[Vo,Vag,Vc6,Vz];omega
 let hj:sIx items.size items.size hi<=items.size:=X59 _ _ Qw hi;let⟨os,ae,ac,af⟩:=id hs;let ab:s.TypeIs Qo9 "slice" := ⟨os,ae,ac⟩;unfold getItem
 try with_reducible exact Uy ?_
 first|exact Va Q71|skip
 exact Va (Vi7 L.typeIs Q1 ?_)
 exact Va (Vap (name:=Va0 "__getitem__") L.typeIs Vbs
  QrC)
 show Vg _ _ Q1H _ _ s;calc Va (tupleItemsOf_ L ?_);calc Va QJY;rw[iP0 Q1];calc Va (sliceApplied_gen hs pl pu ?_);let aa:¬ (Q56=yx):=by intro q;rw[bA0,bA0]at q;let q1:((sIx items.size 0 lo:Nat):Int)=0:=eq_of_beq q.1.1;let q2:sIx items.size items.size hi-sIx items.size 0 lo=items.size:=eq_of_beq q.2;exact hw QiK
 show Vg _ _ (if Q56=yx then _ else _) _ _ s;rw[iN0 aa,Xyj]
 first
  |calc Va (m:=Vbn _) Q4H|calc Va (m:=Vbn _) (Vaj (Va Q7d) B)|calc Va (Va (m:=Vbn _) (Vaj Q7d B))|calc Va QUN
universe e
universe HT
namespace L2
open PySem PySem.Spec PyProof.Rows
section
variable{lo hi:Option Expr}
abbrev Xj8(xs:LW)(lo hi:Option Int):LW:=(xs.drop (HT.sIx QU 0 lo)).take (HT.sIx QU QU hi-HT.sIx QU 0 lo)
def Xhy(xs:LW)(lo hi:Option Int):(Xj8 xs lo hi).length<=lg xs:=by unfold Xj8;rw[Vag,Vc6];omega
universe e
universe L2
namespace L2
open PySem PySem.Spec PyProof.Rows
abbrev ixN(n:Nat)(i:Int):Option Nat:=if 0<=i then (if i<n then yz i.toNat else yy) else if-(n:Int)<=i then yz Qia.toNat else yy
abbrev atI{α:Type}(xs:List α)(i:Int):Option α:=(ixN QU i).bind λj=>xs[j]?
def Xqv{n:Nat}{i:Int}{j:Nat}(h:ixN n i=yz j):seqIndex? i n=yz j/\j<n/\-(n:Int)<=i/\i<n:=by
 unfold ixN at h;by_cases B:0<=i
 ·rw[iP0 B]at h;by_cases h1:i<n;·rw[iP0 h1]at h;let e:i.toNat=j:=Ur h;exact⟨by rw[seqIndex_of B h1,e],by omega,by omega,h1⟩
  ·rw[iN0 h1]at h;cases h
 rw[iN0 B]at h;by_cases h1:-(n:Int)<=i;·rw[iP0 h1]at h;let e:Qia.toNat=j:=Ur h;exact⟨by rw[seqIndex_neg Q0 h1,e],by omega,h1,by omega⟩
 ·rw[iN0 h1]at h;cases h
def Xqw{α:Type}{xs:List α}{i:Int}{v:α}(h:atI xs i=yz v):∃j,seqIndex? i QU=yz j/\xs[j]?=yz v/\j<lg xs/\-(lg xs:Int)<=i/\i<lg xs:=by
 unfold atI at h;cases e:ixN QU i with
 |none=>rw[e]at h;cases h|some j=>rw[e]at h;let⟨h1,h2,L,B⟩:=Xqv e;calc⟨j,h1,h,h2,L,B⟩
theorem Xj9(b:Expr):Prop:=∀o i,subscripted b yw o i=operate [o,i] (getItem o i)
theorem IxR(X:Cx)(r:R2):Prop:=
 ∀(value B:Expr) (pc:LA) (s:Vc) (σ:St) (H:Hp) (x y:V) (v u:Vb) (Q:VK),Inv X pc σ H s->RelV x v->RelV y u->r x y H Q ->
  subscripted B yw v u=operate Qkd (getItem v u)->Vg Q2 X.A (Vf5 value B v u) QI9 X.xe s
section
variable{X:Cx}{a b:Expr}
abbrev Ydk(K:Vh):R2:=λx y H Q=>∃p xs i v,x=.ref p/\y=.int i/\SqL K H p xs/\atI xs i=yz v/\Q v H
abbrev Ydl(K:Vh):R2:=λx y H Q=>∃p xs i v,x=.ref p/\y=.int i/\SqT K H p xs/\atI xs i=yz v/\Q v H
def X2k:IxR X (Ydk X.K):=by
 intro value B pc s σ H x y v u Q I rx ry h hs;let⟨p,xs,i,z,rfl,rfl,hq,he,q⟩:=h;cases rx;let⟨t,rfl⟩:=ry;let⟨its,r,pl,hz⟩:=I.list hq;let⟨j,h1,h2,h3,h4,h5⟩:=Xqw he;let⟨w,ew,L⟩:=r.get h2;let hl:=r.length;let hn:=Xf2;let fin:EP X pc σ Q w s:=QpT;by_cases h0:0<=i
 ·let hj:i.toNat=j:=by
   rw[seqIndex_of h0 h5]at h1;exact Ur h1
  exact item_listR pl.isList h0 Q0 QsI fin hs
 let hj:(i+QDM).toNat=j:=by rw[seqIndex_neg Q0 h4]at h1;rw[Vo,<-hl];exact Ur h1
 exact subscriptTail_builtinR (x:=w) pl.isList.typeIs slot_list_getitem.lookup
  (wpAny_getItem_list_neg (Q:=λr s'=>r=w/\EP X pc σ Q r s') pl.isList Q0 QOP Q0 QsI Q6X) hs
def X6a:IxR X (Ydl X.K):=by
 intro value B pc s σ H x y v u Q I rx ry h hs;let⟨p,xs,i,z,rfl,rfl,hq,he,q⟩:=h;cases rx;let⟨t,rfl⟩:=ry;let⟨its,r,pl,hz⟩:=I.tuple hq;let⟨j,h1,h2,h3,h4,h5⟩:=Xqw he;let⟨w,ew,L⟩:=r.get h2;let hl:=r.length;let hn:=Xf2;let fin:EP X pc σ Q w s:=QpT;exact subscriptTail_builtinR (x:=w) pl.typeIs slot_tuple_getitem.lookup
  (getItem_tuple (j:=j) (Q:=λr s'=>r=w/\EP X pc σ Q r s') pl Q0 Q0 (by rw[Vo,<-hl];calc h1) (by simpa using ew) Q6X) hs
def Xs1(its:LV)(n j:Nat)(u:Vb):Vac Q6M Q10={cls:=.type "list",data:=.seq (its.set j u).toArray n}:=by simp![Vac]
def Inv.lst{pc:LA}{σ:St}{H:Hp}{s:Vc}{p:Addr}{xs:LW}(I:Inv X pc σ H s)(h:H p=yz QB1):
  ∃(its:LV) (n:Nat),Vals xs its/\s.heap.get? p=yz Q10/\QU<=V7:=by
 let⟨z,its,n,r,e⟩:=I.hok p _ h;calc⟨its,n,r,e,z⟩
def Inv.lstUpd{pc:LA}{σ:St}{H:Hp}{s:Vc}{p:Addr}{xs ys:LW}{its its':LV}{n B:Nat}{f:Obj->Obj}(I:Inv X pc σ H s)(h:H p=yz QB1)
  (ho:s.heap.get? p=yz Q10) (L:f Q10=Qu9) (r:Vals ys its') (hz:Q5N<=V7) (t:Nat):
  Inv X pc σ (upd H p QKH) {s with heap:=s.heap.update p f,toks:=t}:=by
 let e:(s.heap.update p f).get? p=yz Qu9:=by rw[Vc8 f ho (by rw[L]<;>rfl),L]
 calc I.write (x:=p) (e:=p) (by rw[h];trivial) Qd0 (λb u hb q=>QpA.trans q) Q24 ?_;calc⟨hz,its',B,r,e⟩
theorem Ybo:V->V->V->Hp->QhZ->Prop:=λo i v H Q=>∃p xs k j,o=.ref p/\i=.int k/\H p=yz QB1/\ixN QU k=yz j/\Q QFU
def Xyk:Ydh X Ybo:=by
 intro pc s σ H o i v ov iv u Q I ro ri rv h;let⟨p,xs,k,j,rfl,rfl,hp,hj,q⟩:=h;cases ro;let⟨t,rfl⟩:=ri;let⟨its,n,r,B,hz⟩:=I.lst hp;let⟨h1,h2,h3,h4⟩:=Xqv hj;let hl:=r.length;let hn:=Xf2;let I':Inv X pc σ QFU {s with heap:=s.heap.update p (Vac Q6M)}:=
  I.lstUpd hp B (Xs1 its n j u) (r.set rv j) (by rw[Vdf];calc hz) s.toks
 by_cases h0:0<=k
 ·let L:k.toNat=j:=by
   rw[seqIndex_of h0 h4]at h1;exact Ur h1
  exact PySem.W.ki_setAt B h0 Q0 (by rw[Vo,<-hl];calc h4) QJI
 let L:(k+QDM).toNat=j:=by rw[seqIndex_neg Q0 h3]at h1;rw[Vo,<-hl];exact Ur h1
 calc PySem.W.ki_setBack B Q0 (by rw[Vo,<-hl];calc h3) Q0 QJI
def X1i(i:Int)(n d:Nat):max 0 (min (if i<0 then i+(n:Int) else i) n)=((HT.sIx n d Q5W:Nat):Int):=by
 show _=(((if i<0 then (i+(n:Int)).toNat else min i.toNat n):Nat):Int);by_cases h:i<0;·rw[iP0 h,iP0 h,Int.min_eq_left Q0,Int.max_comm,<-Int.toNat_eq_max]
 ·rw[iN0 h,iN0 h];omega
def Xm4(lo hi:Option Int)(n:Nat):QfF.1=((HT.sIx n 0 lo:Nat):Int)/\QfF.2.1=((HT.sIx n n hi:Nat):Int)/\QfF.2.2=1:=by
 exact⟨?_,?_,rfl⟩
 ·cases lo with
  |none=>simp![Vd0,HT.sIx]|some i=>exact X1i i n _
 cases hi with
 |none=>simp![Vd0,HT.sIx]|some i=>calc X1i i n _
def Xmi(its:LV)(lo hi:Option Int):slicePick its.toArray lo hi yy=((its.drop (HT.sIx QA6 0 lo)).take (HT.sIx QA6 QA6 hi-HT.sIx QA6 0 lo)).toArray:=by let⟨h1,h2,B⟩:=Xm4 lo hi its.toArray.size;unfold slicePick;rw[h1,h2,B];simp[sliceRange_one,pick_run,Vo]<;>rfl
def Xm5:Xgy X QtF (λxs H Q=>∃p ys,xs=QpK/\QyD/\Q (.int Q5N) H):=by
 intro pc s σ H xs us Q I r h;let⟨p,ys,rfl,L,q⟩:=h;let⟨u,rfl,rx⟩:=Xsx r;cases rx;let hn:=Xf2;rcases L with L|L;·let⟨its,r',pl,hz⟩:=I.list L;let B:=r'.length;exact Calls.call_len_list pl.isList QJ5 QH7
 ·let⟨its,r',pl,hz⟩:=I.tuple L;let B:=r'.length;calc len_tuple pl QJ5 QH7
def Xm6:Xgy X QbT (λxs H Q=>∃p ys,xs=QpK/\QyD/\∀l,H l=yy->Q QhB QGU):=by
 intro pc s σ H xs us Q I r h;let⟨p,ys,rfl,hq,q⟩:=h;let⟨u,rfl,rx⟩:=Xsx r;cases rx;let fin:∀(its:LV),Vals ys its->lg ys<=V7->∀(h':Heap) (L:Nat),(∀b o',s.heap.get? b=yz o'->h'.get? b=yz o') ->
   h'.get? s.heap.objs.size=yz {cls:=.type "list",dict:=yy,data:=.seq its.toArray L,slots:=#[]}->EP X pc σ Q QC QV:=λits B hz h' L kp e=>
  ⟨.ref s.heap.objs.size,_,I.laid (t':=s.toks) kp Qw (show ObjOk X.prog X.w _ h' _ QKH from⟨hz,its,L,B,e⟩),rfl,q _ (I.hok.fresh Qw)⟩
 rcases hq with hq|hq;·let⟨its,B,pl,hz⟩:=I.list hq;let aa:=B.length;let⟨o,ho,hc,n,hd⟩:=pl.isList;exact call_list_seq p Qd0 ho hc hd QoB QJ5
 ·let⟨its,B,pl,hz⟩:=I.tuple hq;let aa:=B.length;let⟨o,ho,hc,n,hd⟩:=pl;calc call_list_seq p Qg6 ho hc hd QoB QJ5
def Xfz:Xgy X Qx3 (λxs H Q=>∃p ys,xs=QpK/\((SqL X.K H p ys/\∀l,H l=yy->Q QhB (upd H l QUS))\/(SqT X.K H p ys/\Q QX H))):=by
 intro pc s σ H xs us Q I r h;let⟨p,ys,rfl,h⟩:=h;let⟨u,rfl,rx⟩:=Xsx r;cases rx;rcases h with⟨hq,q⟩|⟨hq,q⟩
 ·let⟨its,B,pl,hz⟩:=I.list hq;let aa:=B.length;calc call_tuple_list pl.isList (λh' kp=>?_) QJ5;let L:Inv X pc σ H QV:=I.kept (t':=s.toks) kp;let I2:Inv X pc σ (upd H h'.objs.size QUS) {s with heap:=h'.push {cls:=.type "tuple",data:=.seq its.toArray} }:=
   L.laid (t':=s.toks) Q5P Qw (show ObjOk X.prog X.w _ _ _ QUS from⟨hz,its,B,IsTup.new _ _⟩)
  exact⟨.ref h'.objs.size,_,I2,rfl,q _ QiQ⟩
 let⟨its,B,pl,hz⟩:=I.tuple hq;calc call_tuple_same pl ⟨.ref p,H,I,rfl,q⟩
variable{e:Expr}
/- xs.append(e),list.index on a module's tuple .. are MtR facts of 06m -/
universe e
universe L2
namespace L2
open PySem PySem.Spec PyProof.Rows
theorem MtM(X:Cx)(id:String)(r:V->LW->Hp->VK->Prop):Prop:=
 ∀(pc:LA) (s:Vc) (σ:St) (H:Hp) (x:V) (xs:LW) (v:Vb) (us:LV) (Q:VK),Inv X pc σ H s->RelV x v->Vals xs us->r x xs H Q ->
  Vg Q2 X.A QFO QI9 X.xe s
def Vals.one:∀ {x:V} {us:LV},Vals [x] us->∃u,us=[u]/\RelV x u
 |_,_,h=>by cases h with|cons r t=>cases t;calc QjK
def Vals.eraseIdx:∀ {xs:LW} {us:LV} (i:Nat),Vals xs us->Vals (xs.eraseIdx i) (us.eraseIdx i)
 |_,_,_,.nil=>.nil|_,_,0,.cons _ t=>t|_,_,i+1,.cons r t=>.cons r (Vals.eraseIdx i t)
def Vals.rep{xs:LW}{us:LV}(h:Vals xs us):∀k:Nat,Vals (Vn k xs).flatten (Vn k us).flatten
 |0=>.nil|k+1=>by rw[Va1,Va1,Vcu,Vcu];calc Vals.append h (Vals.rep h k)
def Xlw{α:Type}:∀(l:List α) (i:Nat),(l.eraseIdx i).length<=lg l
 |[],_=>Vi _|_::_,0=>Vd1 _|_::r,i+1=>Vho (Xlw r i)
def Xlx(its:LV):∀(k:Nat) (B:LV),
  Vh2 QD5 B.toArray (Vn k its.toArray)=(B++QUZ.flatten).toArray
 |0=>λB=>by simp!|k+1=>λB=>by
  let e:B.toArray++its.toArray=QFV.toArray:=by simp!
  let e2:QFV++QUZ.flatten=B++(Vn QG5 its).flatten:=by rw[Va1,Vcu,Ub]
  rw[<-e2,<-Xlx its k QFV,<-e,Va1,Vcy]
section
variable{X:Cx}{pc:LA}{σ:St}{H:Hp}{s:Vc}{l:Addr}{xs ys:LW}
def Inv.lset{its its':LV}{n:Nat}{f:AV->AV}{t':Nat}(I:Inv X pc σ H s)(hH:H l=yz QB1)
  (e:s.heap.get? l=yz Q10) (hf:f its.toArray=its'.toArray) (B:Vals ys its') (hz:Q5N<=V7):
  Inv X pc σ QGU {s with heap:=s.heap.update l Q9f,toks:=t' }:=by
 let q:=PySem.IsL.update e f;rw[hf]at q;calc I.write (x:=l) (e:=l) (by rw[hH];calc trivial) Qd0 (λb' u L hu=>(Vfg s.heap Q9f Q8H).trans hu) QsT ?_;calc⟨hz,its',_,B,q⟩
def Inv.lnew{its:LV}{t':Nat}(I:Inv X pc σ H s)(B:Vals ys its)(hz:Q5N<=V7):
  Inv X pc σ (upd H s.heap.objs.size QKH) {s with heap:=s.heap.push {cls:=.type "list",data:=.seq its.toArray},toks:=t' }:=
 I.laid (λ_ _ q=>Ve _ q) Qw ⟨hz,its,0,B,Vm _ rfl⟩
def Inv.fresh(I:Inv X pc σ H s):H s.heap.objs.size=none:=I.hok.fresh Qw
def Inv.lstM(I:Inv X pc σ H s)(B:H l=yz QB1):QU<=V7/\∃(its:LV) (n:Nat),Vals xs its/\QU=lg its/\s.heap.get? l=yz Q10:=by let⟨z,its,n,r,e⟩:=I.hok l _ B;calc⟨z,its,n,r,r.length,e⟩
def Xm7{n:Nat}(h:n<=V7):Vew n=false:=by unfold Vew;calc decide_eq_false Q0
theorem X2l:V->LW->Hp->VK->Prop:=λx vs H Q=>∃l xs y,x=.ref l/\vs=[y]/\H l=yz QB1/\QU<V7/\Q .non (upd H l (.lst (xs++[y])))
def Xly:MtM X "list.append" X2l:=by intro pc s σ H x vs v us Q I L rv h;let⟨l,xs,y,rfl,rfl,B,hz,q⟩:=h;cases L;let⟨u,rfl,ru⟩:=rv.one;let⟨z,its,n,r,hl,e⟩:=I.lstM B;calc Ve8 F.slot_list_append QgA F.entry_list_append (F.args_list_append_2 _ _) (PySem.list_append l its.toArray n u QbF) QzQ;calc⟨.non,_,I.lset (its':=its++[u]) B e QB (r.append QTB) ?_,rfl,q⟩;rw[Uc,Vfn];omega
theorem X6b:V->LW->Hp->VK->Prop:=λx vs H Q=>∃l xs i k y,x=.ref l/\vs=QUf/\H l=yz QB1/\-Q4g<=i/\i<2^63/\seqIndex? i QU=yz k/\xs[k]?=yz y/\Q y (upd H l (.lst (xs.eraseIdx k)))
def Xyl:MtM X "list.pop" X6b:=by
 intro pc s σ H x vs v us Q I rx rv h;let⟨l,xs,i,k,y,rfl,rfl,L,h1,h2,hk,hy,q⟩:=h;cases rx;let⟨u,rfl,ru⟩:=rv.one;let⟨t,rfl⟩:=ru;let⟨z,its,n,r,hl,e⟩:=I.lstM L;let⟨w,hw,B⟩:=r.get hy;exact Ve8 F.slot_list_pop QgA F.entry_list_pop (F.args_list_pop_2 _ _)
  (MeetsSeq.list_pop_at l its.toArray n i t k w (fitsIndex_both h1 h2) (by rw[Vo,<-hl];calc hk) (by rw[<-Ud];calc hw) QbF) QzQ
 calc⟨y,_,I.lset (its':=its.eraseIdx k) L e ?_ (r.eraseIdx k) ?_,B,q⟩;·show its.toArray.eraseIdxIfInBounds k=(its.eraseIdx k).toArray;rw[List.eraseIdxIfInBounds_toArray]
 ·let:=Xlw xs k;omega
abbrev Ydm:R2:=λx y H Q=>∃l k xs,x=.ref l/\y=.int k/\H l=yz QB1/\-Q4g<=k/\k<2^63/\QU*k.toNat<=V7 /\
 ∀p,H p=yy->Q QX (upd H p (.lst QyR.flatten))
def Xka{α:Type}(xs:List α)(k:Nat):(Vn k xs).flatten.length=k*lg xs:=by
 induction k with
 |zero=>simp!|succ k ih=>rw[Va1,Vcu,Uc,ih,Nat.succ_mul,Nat.add_comm]
def X6c:OpR X QIY Ydm:=by
 intro pc s σ H x y v u Q I rx ry h;let⟨l,k,xs,rfl,rfl,hH,h1,h2,hz,q⟩:=h;cases rx;let⟨t,rfl⟩:=ry;let⟨z,its,n,r,hl,e⟩:=I.lstM hH;let aa:its.toArray.size*k.toNat<=V7:=by rw[Vo,<-hl];exact hz
 let ab:¬ its.toArray.size*k.toNat>QGV/8:=by
  let:(V7:Nat)<=QGV/8:=by decide
  omega
 let ac:¬ (!Builtin.List.listFitsIndex k)=true:=by rw[fitsIndex_both h1 h2];exact V3
 let B:¬ Vew (its.toArray.size*k.toNat)=true:=by rw[Xm7 aa];exact V3
 let L:Vh2 QD5 #[] (Vn (if its.toArray.isEmpty=yx then 0 else k.toNat) its.toArray)=(Vn k.toNat its).flatten.toArray:=by
  let f0:∀m:Nat,Vh2 QD5 #[] QNO=(Vn m its).flatten.toArray:=λm=>by let:=Xlx its m [];rw[List.nil_append]at this;exact this
  rw[f0];cases its with
  |nil=>simp!|cons a r'=>rw[iN0 QB]
 exact Vjd (T:="list") (U:="int") Q1 QgA (λs'=>typeIs_int s' k t) noFill_list_mul F.fills_int_mul F.slot_int_rmul repeat_list F.slot_int_index.lookup
  (Ve8 F.slot_int_rmul (typeIs_int s k t) F.entry_int_rmul (F.args_int_rmul_2 _ _) (int___rmul___int_list k t l its.toArray n)
   ⟨e,rfl,QgA,Ve8 F.slot_list_mul QgA F.entry_list_mul (F.args_list_mul_2 _ _) (AutoListH.list___mul___list_int_3 l its.toArray n k t ac ab B) QzQ⟩)
 rw[L];calc⟨.ref _,_,I.lnew (t':=s.toks) (r.rep k.toNat) (by rw[Xka,Nat.mul_comm];calc hz),rfl,q _ I.fresh⟩
universe e
universe L2
namespace Att
open PySem PySem.W PySem.Calls PyProof.Rows
def Xi6{P:Params}{h:Heap}:∀(ns:LI) (vs:LV),WellAll P h vs Q6O->Vbv vs ns:=by
 intro ns;induction ns with
 |nil=>intro vs w;rw[Vgj]at w;cases w;exact .nil|cons n ns ih=>
  intro vs w;rw[Uk]at w;cases w with
  |cons a b=>cases a;calc .cons _ _ (ih _ b)
def Xu9{l:OpenLaw}{n:Nat}(hn:l.most=yz n){P:Params}{h:Heap}{args:List WData}{B:LV}
  (L:l.row.toRowW.claim.pre args=yx) (ac:WellAll P h B args):
  ∃a vs ns,B=[Ux a]/\args=[WData.list Q6O]/\h.get? a=yz QK1/\Vbv vs ns/\QHE<=n:=by
 let ae:WShape.hasAll [] args [.list .int]=true:=QyS.1;let hc:l.pre.holds [] {args:=args}=true:=QyS.2;let⟨d,r,rfl,h1,h2⟩:=hasAllW_cons ae;obtain rfl:=hasAllW_nil h2;let⟨xs,rfl,h3⟩:=hasW_list h1;let⟨ns,rfl⟩:=items_int h3;let ab:QHE<=n:=by
  unfold OpenLaw.pre at hc;let h4:(WTm.not (.lt (.lit (.int (n:Int))) (.len (.arg 0)))).holds [] {args:=[.list (ns.map .int)]}=true:=by let h4:=(holds_andW hc).1;rw[hn]at h4;exact h4
  let h5:=condW_of h4 (w_not (w_lt w_lit (w_len_list (w_arg rfl))));rw[Vf]at h5;exact Vhp λq=>?_;let q':(n:Int)<((lg ns:Nat):Int):=by omega
  first
   | (rw[decide_eq_true q']at h5;calc aB0 h5 Q1)| (simp! at h5;omega)
 cases ac with
 |cons w1 w2=>
  cases w2;cases w1 with
  |list ho aa=>calc⟨_,_,ns,rfl,rfl,ho,Xi6 ns _ aa,ab⟩
def Xva(l:OpenLaw)(args:List WData):l.row.toRowW.claim.post args QjB args=true:=
 postW_of (r:=l.row.toRowW) (X:=QMc)
  (show WShape.has [] QjB .bool=yx by first|rfl|decide|simp![WShape.has,WShape.arms,WShape.armsAll])
  (show(WTm.eq .res (.lit QjB)).value [] {args:=args,res:=yz QjB,after:=args}=yz (.bool QMc) from w_eq_bool (w_res rfl) w_lit) rfl
def attach_call{l:OpenLaw}{n:Nat}{q:V0}{loose:LS}{XP:QFS->Heap->Prop}{YP:V9->Heap->Prop}{d:DefRec}
  (hn:l.most=yz n) (ai:d.params.defaults=[])
  (call:∀(w:V9) (s₀ B:Vc) (mg mb:Str->OV) (fa:Addr) (o:Obj) (pm cd L:Vb) (a:Addr) (vs:LV) (ns:LI),
   Ground q loose [] XP w s₀ mg mb B.heap->YP w B.heap ->
   B.heap.get? fa=yz o->o.data=.func (docDef d.name d.params d.body d.scope pm cd L)->B.heap.CodeRec cd d.name->mg d.name=yz QHH ->
   B.heap.get? a=yz QK1->Vbv vs ns->lg ns<=n->B.gens=#[] ->
   Vco (Vj l.prog w) callerA Qu5 QC1 B):
  WalkO q loose XP YP l.row.toRowW d [] QC9:=by
 intro w s₀ B mg mb G Y fa o pm cd L dV kV ho hd ah hD af hg al ak as ac aj am ag an;obtain rfl:dV=.none:=Dflts.none hD ai;obtain rfl:kV=.none:=Dflts.noKw hD;let⟨a,vs,ns,rfl,rfl,ae,aa,ab⟩:=Xu9 hn ac ag;calc enter_call (Vd5 (call w s₀ B mg mb fa o pm cd L a vs ns G Y ho (fd_plain hd) ah af ae aa ab hg) λr s' hq=>?_);let⟨rfl,h2,h3,h4⟩:=hq;calc⟨.inl ⟨.bool yx,.bool yx,[],rfl,λ_=>rfl,.bool yx,Xva l _,λ_=>⟨Veh,λ_ hm=>(nomatch hm)⟩⟩,h2,h3,h4⟩
universe Att
namespace L2
open PySem PySem.Spec PyProof.Rows
def Xdv:∀ {vs:LV} {ns:LI},Vbv vs ns->Vals Q23 vs
 |_,_,.nil=>.nil|_,_,.cons n t h=>.cons QS (Xdv h)
theorem Xym(H:Hp):Prop:=∀b,H b=yy\/∃o xs,H b=yz (.frz o QB1)
def Xyn{P:V0}{w:V9}{K:Vh}{mg mb:Str->OV}{CX:CXT}{k:Nat}{fa a:Addr}{fd:Vdc}{x:Str}{sp:Sp}{B:Vc}{vs:LV}{ns:LI}
  (KX:K.In B.heap) (ae:B.heap.Ns Um mg) (hb:B.heap.Ns Vgu mb) (am:∀x:Str,x ≠ "__name__" -> mb x=Veu x) (af:B.heap.NoLimit) (hg:B.gens=#[])
  (ha:B.heap.get? a=yz QK1) (hi:Vbv vs ns) (hl:QHE<=V7) (hr:Room k callerA)
  (F:∀base:Heap,K.In base->base.Ns Um mg->FnOk P w K mg base CX k fa fd [x] sp) (ac:∀(s:Vc) (u:Vb),BindsTo s fd QdM [(x,u)])
  (ak:∀H:Hp,Xym H->SqL K H a Q23->sp Q8C H QAE λ_ _ _=>False)
  (aj:∀H e s',CX [] H B QQF e s'->False):
  Vco QKA callerA Qu5 QC1 B:=by
 let rv:=Xdv hi;let ah:=hi.length;let ab:∀H:Hp,Xym H->SqL K H a Q23->HOk P w H B.heap->(∀b,H b≠yy->b=a)->(H a≠yy->K.lookup a=yy) ->
   Vco QKA callerA Qu5 QC1 B:=by
  intro H hO hS hok hA hK;let L:∀ {b:Addr} {o:Obj},B.heap.get? b=yz o->H b=yy->QE9.get? b=yz o:=λe n=>Xyg e n;let al:∀ {b:Addr} {o:Obj} {es:Array DictEntry} {ep:Nat},B.heap.get? b=yz o->o.data=.dict es ep->H b=none:=λ{b o es ep} e d=>by
   cases q:H b with
   |none=>rfl|some u=>let e':b=a:=hA b QqG;subst e';rw[ha]at e;cases e;let d':Data.seq vs.toArray _=Data.dict es ep:=d;cases d'
  let aa:∀ {b:Addr} {m:Str->OV},B.heap.Ns b m->QE9.Ns b m:=λ{b m} ⟨o,es,ep,e,d,r⟩=>⟨o,es,ep,L e (al e d),d,r⟩
  let ai:K.In QE9:=λb o e=>L (KX b o e) (by
   cases q:H b with
   |none=>rfl|some u=>
    let e':b=a:=hA b QqG
    subst e';rw[hK QqG]at e;cases e)
  let hM:Mod K mg QE9:=⟨ai,aa ae,⟨mb,aa hb,am⟩,let ⟨mc,h1,h2⟩:=af;⟨mc,aa h1,h2⟩⟩;let e0:Env0 P w K mg QE9 callerA [] B H:=⟨rfl,hM,λb o e=>X2h e,Nat.le_of_eq (Xu4 _ _),trivial,λb hb=>aB0 (show b∈Qwa from hb) QB,hok,.of_eq hg⟩;calc Vd5 ((F _ ai (aa ae)).run callerA [] B H QzY Q8C Q8C _ _ hr e0 (ac B Q40) (.cons rfl .nil) (ak H hO hS)) λr s' h=>?_;cases r with
  |error e=>exact(aj H e s' h).elim|ok fl=>
   cases fl with
   |next=>exact Vh3 h|brk=>exact Vh3 h|cont=>exact Vh3 h|ret u=>
    let⟨v,H',os,bare,un,ag,r',q⟩:=h;let q':v=.bl true:=q;subst q';obtain rfl:u=Vfw true:=r';calc⟨rfl,OldK.of_keep λb o e=>?_,os,bare⟩;cases q:H b with
    |none=>exact un.keep b o e q (by intro z;calc aB0 (show b∈Qwa from z) QB) QB|some u=>
     rcases hO b with z|⟨ob,xs,z⟩;·rw[q]at z;cases z
     ·let z2:=un.frzs b ob _ z;let⟨e1,_⟩:=hok b _ z;let⟨e2,_⟩:=ag b _ z2;rw[e]at e1;cases e1;exact e2
 cases hk:K.lookup a with
 |some o=>let e:=KX a o hk;rw[ha]at e;cases e;exact ab QBR (λ_=>.inl rfl) (.inr ⟨_,vs.toArray,_,hk,rfl,rfl,rfl,by rw[Vo,ah];calc hl,by simpa using rv⟩) (λb u z=>by let z':(yy:Option HO)=yz u:=z;cases z') (λb z=>aB0 rfl z) λz=>aB0 rfl z|none=>
  exact ab (λb=>if b=a then yz (.frz QK1 (.lst Q23)) else yy) (λb=>?_) (.inl (.inr ⟨QK1,iP0 rfl⟩)) (λb u z=>?_) (λb z=>?_) λ_=>hk
  ·by_cases hb:b=a;·exact .inr ⟨_,_,iP0 hb⟩
   ·exact .inl QSU
  ·by_cases hb:b=a;·let z':=(iP0 hb).symm.trans z;cases z';subst hb;exact⟨ha,by rw[Vf];calc hl,vs,_,rv,ha⟩
   ·let z':=(iN0 hb).symm.trans z;cases z'
  by_cases hb:b=a;·exact hb
  ·calc aB0 QSU z
universe L2
namespace L2
open PySem PySem.Spec PyProof.Rows
def walk_of{l:PySem.W.OpenLaw}{n k:Nat}{q:V0}{loose:LS}{XP:QFS->Heap->Prop}{YP:V9->Heap->Prop}{d:DefRec}{K:Params->Vh}{CX:V9->CXT}{sp:V9->Sp}{x:Str}
  (hn:l.most=yz n) (af:n<=V7) (ah:d.params.defaults=[]) (hr:Room k callerA)
  (hY:∀(w:V9) (h:Heap),YP w h->Qh2.In h)
  (F:∀(w:V9) (mg:Str->OV) (fa:Addr) (h:Heap),Qh2.In h->h.Ns Um mg->mg d.name=yz QHH ->
   ∃fd:Vdc,Q53 /\
    ∀base:Heap,Qh2.In base->base.Ns Um mg->FnOk l.prog w Qh2 mg base (CX w) k fa fd [x] (sp w))
  (ag:∀(w:V9) (H:Hp) (a:Addr) (ns:LI),lg ns<=n->Xym H->SqL Qh2 H a Q23->sp w Q8C H QAE λ_ _ _=>False)
  (ae:∀(w:V9) (H:Hp) (s:Vc) (e:Vb) (s':Vc),CX w [] H s QQF e s'->False):
  PySem.W.WalkO q loose XP YP l.row.toRowW d [] QC9:=by
 calc Att.attach_call hn ah λw s₀ aa mg mb fa o pm cd ai a vs ns G Y ho hd aj ac ab L B hg=>?_;let KX:=hY w _ Y;let⟨fd,hb,hF⟩:=F w mg fa _ KX G.T.g ac;calc Xyn KX G.T.g G.T.b G.T.builtins G.T.nolimit hg ab L (V2 B af) hr hF hb (λH hO hS=>ag w H a ns B hO hS) λH e s'=>ae w H aa e s'
universe L2
/- THE LAST THEOREM (shape;LID,My.* are yours):
   My.Adr: a structure of the addresses that your layer names (classes,functions);My.Txt K t: a structure (Prop) of the equations over K;
   My.txt_mk:{K} {implicit addresses ..} (e1:nsIn K Um "law"=yz QLc) (e2:K.lookup f=yz ⟨oc,od,.func (fnOf "law" "law" params body scope dV kV doc pm an cdv ct),sl⟩) (e3:codeIn K cdv "law"=yx) ..:∃t,My.Txt K t
set_option maxRecDepth 100000 in
set_option maxHeartbeats 0 in
def PySem.Challenge.cw_LID_holds : PySem.Challenge.rw_LID.Holds := by
 w_on;o_law;k_head;(case hw=>w_witness2)
 k_fill
 exact L2.walk_of (l:=PySem.Challenge.rw_LID) (n:=63) (k:=40) (x:="script") (CX:=λw=>..) (sp:=λ_=>My.sp_law) rfl Q1 rfl ⟨rfl,by decide,by decide⟩ (λw h Y=>PySem.W.kIn_of Y) ?F ?S ?C
 case F =>
  intro w mg fa h KX G hmg;let T:∃t,My.Txt (L2.KOf KX) t:=by
   dsimp[L2.KOf]                          -- K must stand as «<heap const> w.params» for k_is;refine' My.txt_mk ?e1 ?e2 ?e3 ..
   (case e1=>PySem.W.k_is)                    -- in the order: a name -> its address -> its object -> its parts
   (case e2=>PySem.W.k_is)
   ..
  let⟨t,T⟩:=T;let e0:=hmg.symm.trans (Vdm KX G T.law);cases e0                                       -- fa is the law's own address;exact⟨_,λs u=>.of_eq rfl,λbase kb nb=>My.law_fn T kb nb⟩     -- if «.of_eq rfl» comes too early: refine' ⟨_,?b,λbase kb nb=>My.law_fn T kb nb⟩;exact λs u=>.of_eq rfl
 case S=>exact λw H a ns hl hO hS=>..
 case C=>calc ..
(the tactic k_is has no namespace: write k_is) -/
namespace L2
open PySem PySem.Spec PyProof.Rows
abbrev Xbd(s:Stmt):Arguments:=match s with
 |.FunctionDef _ a _ _ _ _ _ _ _ _=>a|_=>{posonlyargs:=[],args:=[],vararg:=yy,kwonlyargs:=[],kw_defaults:=[],kwarg:=yy,defaults:=[]}
abbrev Yi(s:Stmt):LM:=match s with
 |.FunctionDef _ _ b _ _ _ _ _ _ _=>b|_=>[]
abbrev Xv(s:Stmt):Vai:=match s with
 |.FunctionDef _ _ _ _ _ _ sc _ _ _=>sc|_=>{kind:=.function,names:=[],isGenerator:=yw,isCoroutine:=yw}
structure Fun(K:Vh)(x qual:Str)(st:Stmt)(f:Addr)(fd:Vdc):Prop where
 ex:∃(oc:Vb) (od:Option Addr) (kV doc pm:Vb) (an:Option Addr) (cdv ct:Vb) (osl:Array OV),
  fd=Vc4 x qual Qzc QWC QO7 .none kV doc pm an cdv ct/\K.lookup f=yz ⟨oc,od,.func fd,osl⟩/\Vij K cdv qual=yx
 kp:Vet K Q39=yx
section
variable{K:Vh}
def Fun.binds{x qual:Str}{st:Stmt}{f:Addr}{fd:Vdc}{ps:LS}(F:Fun K x qual st f fd)
  (h:∀(kV L pm:Vb) (an:Option Addr) (B ct:Vb) (us:LV),lg us=lg ps->bindArgs QT2 QfA=pure QZ6):Binds K fd ps []:=by
 let⟨oc,od,kV,L,pm,an,B,ct,ab,rfl,lk,aa⟩:=F.ex;calc .all (h kV L pm an B ct)
def X6d{x qual:Str}{st:Stmt}{f:Addr}{oc:Vb}{od an:Option Addr}{aa:Array (OV)}{kV L pm B ct:Vb}(l:K.lookup f=yz ⟨oc,od,.func QT2,aa⟩)
  (c:Vij K B qual=yx) (k:Vet K Q39=yx):Fun K x qual st f QT2:=⟨⟨oc,od,kV,L,pm,an,B,ct,aa,rfl,l,c⟩,k⟩
universe e
universe L2
universe e
section
namespace Z
open PySem PySem.Spec PyProof.Rows L2
inductive D where
 |non|bl (b:Bool)|int (i:Int)|str (x:Str)|tup (xs:List D)|ref (n:Nat)|fro (xs:List D)|fn (f:Nat) (nm:Str)|edc
 deriving Inhabited
private abbrev LD:=List D
inductive O where
 |lst (xs:LD)|fdc (kvs:List QbE)|dct (kvs:List QbE)|exc (c:Nat)|st (ks:LL)|ded
private noncomputable abbrev Sto:=List O
private noncomputable abbrev En:=List Qw3
inductive R(α:Type) where
 |ok (a:α) (S:Sto)|ex (n:Nat) (S:Sto)|bad
abbrev R.bind{α β:Type}:R α->(α->Sto->R β)->R β
 |.ok a S,f=>f a S|.ex n S,_=>.ex n S|.bad,_=>.bad
@[simp] def Rk0{α β:Type}(a:α)(S:Sto)(f:α->Sto->R β):(R.ok a S).bind f=f a S:=rfl
def ond{α β:Type}{r:R α}{a:α}{S:Sto}{f:α->Sto->R β}{q:R β}(h:r=.ok a S)(k:f a S=q):r.bind f=q:=h▸k
def onx{α β:Type}{r:R α}{n:Nat}{S:Sto}{f:α->Sto->R β}(h:r=.ex n S):r.bind f=.ex n S:=h▸rfl
abbrev big:Nat:=1000000
set_option genInjectivity false
inductive Bo where|add|sub|mul|fdiv|mod|pow|shl|shr|band
 deriving DecidableEq
inductive Co where|eq|ne|lt|le|gt|ge|isin|notin|is|isnot
 deriving DecidableEq
inductive Ty where|int|bool|str|tuple|list|dict|cls(c:Nat)|valueError
 deriving DecidableEq
inductive Bl where
 |len|min|max|sorted|all|anb|tuple|list|repr
 deriving DecidableEq
inductive Mt where
 |append|xtd|index|count|popi
 deriving DecidableEq
inductive Tg where
 |var (i:Nat)
 |tup (is:LN)
mutual
inductive Ex where
 |nev
 |var (i:Nat)
 |cst (d:D)
 |neg (a:Ex)
 |glb (k:Nat)
 |tup (es:Exs)
 |lst (es:Exs)
 |dct0
 |bin (op:Bo) (a b:Ex)
 |cmp (op:Co) (a b:Ex)
 |chn (o1 o2:Co) (a b c:Ex)
 |and (a b:Ex)
 |or (a b:Ex)
 |not (a:Ex)
 |ite (c a b:Ex)
 |idx (a i:Ex)
 |sli (a:Ex) (lo hi:Op)
 |rev (a:Ex)
 |call (f:Nat) (es:Exs)
 |cal (e:Ex) (es:Exs)
 |blt (k:Bl) (es:Exs)
 |mth (k:Mt) (o:Ex) (es:Exs)
 |isi (a:Ex) (ts:List Ty)
 |lrg (t:Bool) (es:Exs)
 |cmr (k:Bool) (n:Nat) (gs:Gens) (elt:Ex)
 |sst (a:Ex)
 |frz (a:Ex)
 |st0
 |sad (o:Ex) (es:Exs)
 |srs (a:Ex)
inductive Op where
 |none|some (e:Ex)
inductive Exs where
 |nil|cons (e:Ex) (es:Exs)
inductive Gens where
 |nil|cons (t:Tg) (it:It) (ifs:Exs) (gs:Gens)
inductive It where
 |val (e:Ex)|rng (es:Exs)|zpp (es:Exs)|enm (es:Exs)
end
mutual
inductive St where
 |nev
 |asg (t:Tg) (e:Ex)
 |par (is:LN) (es:Exs)
 |aset (o i e:Ex)
 |expr (e:Ex)
 |ret (e:Ex)
 |ite (c:Ex) (a b:Sts)
 |for (t:Tg) (it:It) (b:Sts)
 |rse (c:Nat) (e:Ex)
 |try (b:Sts) (c:Nat) (x:Nat) (h:Sts)
 |pass
 |brk
 |cnt
inductive Sts where
 |nil|cons (s:St) (ss:Sts)
end
set_option genInjectivity true
inductive Fl where
 |nx (e:En)|brk (e:En)|cnt (e:En)|rt (d:D)
abbrev Xl(S:Sto)(n:Nat):Option (LD):=
 match S[n]? with
 |some QB1=>yz xs|_=>yy
abbrev lstM(S:Sto)(n:Nat):Option (LD):=
 match S[n]? with
 |some QB1=>yz xs|_=>yy
mutual
abbrev Yc(B:Nat->Option Vcc):D->Option Vcc
 |.non=>yz .none|.bl b=>yz QvL|.int i=>yz QF0|.str x=>yz Q3K|.tup xs=>QRW.map PyData.tuple|.fro xs=>QRW.map PyData.list|.fn _ _=>yy|.edc=>yz QtP|.ref n=>B n
abbrev datFs(B:Nat->Option Vcc):LD->Option (List Vcc)
 |[]=>yz []|x::xs=>match Yc B x,datFs B xs with
  |some p,yz ps=>yz (p::ps)|_,_=>yy
end
abbrev Xb0(S:Sto):Nat->Nat->Option Vcc
 |0,_=>yy|k+1,n=>match S[n]? with
  |some QB1=>(datFs QDb xs).map PyData.list|some QqL=>yz QtP|_=>yy
abbrev Yp(S:Sto)(d:D):Option Vcc:=Yc QPL d
abbrev Xd4(x y:D):Option Bool:=match x with
 |.str a=>(match y with
  |.str b=>yz QCG
  |_=>yy)
 |_=>yy
abbrev lsD(S:Sto):D->Option (LD)
 |.fro xs=>yz xs|.ref n=>Xl S n|_=>yy
abbrev Xib(S:Sto)(x y:D):Option Bool:=match lsD S x,lsD S y with
 |some xs,yz ys=>if QU=lg ys then yy else yz yw|_,_=>yy
abbrev eqD(S:Sto)(x y:D):Option Bool:=match Xd4 x y with
 |some r=>yz r|none=>match Yp S x,Yp S y with
  |some p,yz q=>if p.canLay0&&q.canLay0&&decide QID then yz (Vdg p q) else Xib S x y|_,_=>Xib S x y
abbrev inD(S:Sto)(x y:D):Option Bool:=match Yp S x,Yp S y with
 |some p,yz QrZ=>if p.canLay0&&Vfj qs&&decide QID then yz QzK else yy|some p,yz QjY=>if p.canLay0&&Vfj qs&&decide QID then yz QzK else yy|_,_=>yy
abbrev Xi(S:Sto):D->Option (LD)
 |.tup xs=>yz xs|.fro xs=>yz xs|.ref n=>Xl S n|_=>yy
abbrev Xf:LD->Option (LI)
 |[]=>yz []|.int i::r=>(Xf r).map QJe|_::_=>yy
abbrev X1:LD->Option (List Bool)
 |[]=>yz []|.bl i::r=>(X1 r).map QJe|_::_=>yy
abbrev ltL:LI->LI->Bool
 |[],[]=>yw|[],_::_=>yx|_::_,[]=>yw|x::xs,y::ys=>if x=y then ltL xs ys else decide (x<y)
abbrev ltD:D->D->Option Bool
 |.int i,.int j=>yz (decide (i<j))|.tup xs,.tup ys=>match Xf xs with
  |some a=>match Xf ys with
   |some b=>yz (ltL a b)|none=>yy
  |none=>yy
 |_,_=>yy
abbrev Xic(x:Int):LI->LI
 |[]=>[x]|y::r=>if x<=y then x::y::r else y::Xic x r
abbrev Xbt:LI->LI
 |[]=>[]|x::r=>Xic x Qre
abbrev ddS(B:LI)(x:Int):LI:=if x∈B then B else B++[x]
abbrev ddI(ns:LI):LI:=ns.foldl ddS []
abbrev Y6:LD->Option (LL)
 |[]=>yz []|.tup ds::r=>match Xf ds with
  |some k=>(Y6 r).map (k :: ·)|none=>yy
 |_::_=>yy
abbrev ddR(B:LL)(k:LI):LL:=if k∈B then B else B++[k]
abbrev ddL(ks:LL):LL:=ks.foldl ddR []
abbrev Xkb(k:LI):LL->LL
 |[]=>[k]|y::r=>if ltL k y then k::y::r else y::Xkb k r
abbrev Yd:LL->LL
 |[]=>[]|k::r=>Xkb k (Yd r)
abbrev Xb1(B:LD)(S:Sto):R D:=match Xf B with
 |some L=>if QQe.length<60 then .ok Q7 (S++[.lst ((Xbt QQe).map D.int)]) else .bad|none=>match Y6 B with
  |some ks=>if QC6.length<1000 then .ok Q7 (S++[.lst ((Yd QC6).map λk=>.tup Qs1)]) else .bad|none=>.bad
abbrev Xm8(ks:LL):Option (LL):=if QDB<100000 then yz QVe else yy
abbrev X2(S:Sto):D->Option Bool
 |.non=>yz yw|.bl b=>yz b|.int i=>yz QUU|.str x=>if x.length<=big then yz ((x.length:Int) != 0) else yy|.tup xs=>yz QKK|.fro xs=>yz QKK|.fn _ _=>yy|.edc=>yy|.ref n=>match S[n]? with
  |some QB1=>yz QKK|_=>yy
abbrev Xbe(i j:Int):Bool:=(decide (-QaK<i)&&decide (i<18446744073709551616))||(decide (-QaK<j)&&decide (j<18446744073709551616))||(decide (i.natAbs.log2<100000)&&decide (j.natAbs.log2<100000))
abbrev Xgz(j:Int):Bool:=decide (0<j)&&decide (j.natAbs.log2<9000)
abbrev Xn(op:Bo)(x y:D)(S:Sto):R D:=match op with
 |.add=>match x,y with
  |.int i,.int j=>.ok QuW S|.tup x,.tup y=>if Q8O+lg y<=big then .ok QJV S else .bad|x,y=>match lsD S x,lsD S y with
   |some x,yz y=>if Q8O+lg y<=big then .ok Q7 QVO else .bad|_,_=>.bad
 |.sub=>match x,y with
  |.int i,.int j=>.ok QtW S|_,_=>.bad
 |.mul=>match x,y with
  |.int i,.int j=>if Xbe i j then .ok QvW S else .bad|.tup x,.int k=>if k<1048576/\Q8O*k.toNat<=big/\-QD3<k/\x.isEmpty=yw then .ok (.tup QGT.flatten) S else .bad|.ref n,.int k=>match lstM S n with
   |some x=>if k<1048576/\Q8O*k.toNat<=big/\-QD3<k then .ok Q7 (S++[.lst QGT.flatten]) else .bad|none=>.bad
  |_,_=>.bad
 |.fdiv=>match x,y with
  |.int i,.int j=>if Xgz j then .ok QsW S else .bad|_,_=>.bad
 |.mod=>match x,y with
  |.int i,.int j=>if 0<j then .ok QwW S else .bad|_,_=>.bad
 |.pow=>match x,y with
  |.int i,.int j=>if 0<=j/\j<=1000/\i.natAbs<2^63 then .ok QfO S else .bad|_,_=>.bad
 |.shl=>match x,y with
  |.int i,.int j=>if 0<=j/\j<=1000/\i.natAbs<2^63 then .ok (.int (i*2^j.toNat)) S else .bad|_,_=>.bad
 |.shr=>match x,y with
  |.int i,.int j=>if 0<=j then .ok (.int (i.fdiv (2^j.toNat))) S else .bad|_,_=>.bad
 |.band=>match x,y with
  |.int i,.int j=>.ok (.int (Vik i j)) S|_,_=>.bad
abbrev Xar(op:Co)(x y:D)(S:Sto):Option Bool:=match op with
 |.eq=>eqD S x y|.ne=>(eqD S x y).map (!·)|.lt=>ltD x y|.le=>match x,y with
  |.int i,.int j=>yz (decide (i<=j))|_,_=>yy
 |.gt=>match x,y with
  |.int i,.int j=>yz (decide (j<i))|_,_=>yy
 |.ge=>match x,y with
  |.int i,.int j=>yz (decide (j<=i))|_,_=>yy
 |.isin=>inD S x y|.notin=>(inD S x y).map (!·)|.is=>match y with
  |.non=>yz (match x with|.non=>yx|_=>yw)|.bl b=>yz (match x with|.bl c=>b==c|_=>yw)|_=>yy
 |.isnot=>match y with
  |.non=>yz (match x with|.non=>yw|_=>yx)|.bl b=>yz (match x with|.bl c=>b != c|_=>yx)|_=>yy
abbrev ixN(n:Nat)(i:Int):Option Nat:=if 0<=i then (if i<n then yz i.toNat else yy) else if-(n:Int)<=i then yz Qia.toNat else yy
abbrev Xa7(x:D)(i:D)(S:Sto):Option D:=
 match i with
 |.int k=>match x with
  |_=>QwU.bind λxs=>(ixN QU k).bind λj=>xs[j]?
 |_=>yy
abbrev Xk(op:Co)(x y:D)(S:Sto):R D:=match Xar op x y S with
 |some r=>.ok QSA S|none=>.bad
abbrev Xcu(x i:D)(S:Sto):R D:=match Xa7 x i S with
 |some d=>.ok d S|none=>.bad
abbrev Xal(ifs:En->Sto->R Bool)(body:En->LD->Sto->R LD)(env:En)(B:LD)(S:Sto):R (LD):=(ifs env S).bind λb S=>if b then body env B S else .ok B S
abbrev Xdf(n:Nat)(d:Nat):Option Int->Nat
 |none=>d|some i=>if 0<=i then min i.toNat n else Qia.toNat
abbrev cut{α:Type}(xs:List α)(lo hi:Option Int):List α:=
 (xs.drop (Xdf QU 0 lo)).take (Xdf QU QU hi-Xdf QU 0 lo)
abbrev Xf3:Option D->Option (Option Int)
 |none=>yz yy|some QF0=>yz Q5W|_=>yy
abbrev Xf4(x:D)(lo hi:Option Int)(S:Sto):R D:=
 match x with
 |.tup xs=>.ok (.tup QFI) S|x=>match lsD S x with
  |some xs=>.ok Q7 (S++[.lst QFI])|none=>.bad
abbrev Xyo(x:D)(S:Sto):R D:=
 match x with
 |.tup xs=>.ok (.tup xs.reverse) S|x=>match lsD S x with
  |some xs=>.ok Q7 (S++[.lst xs.reverse])|none=>.bad
abbrev Xbj(f:Nat)(nm:Str):LD->Bool
 |[]=>yw|.fn g m::r=>(g==f&&decide Qkf)||Xbj f nm r|_::r=>Xbj f nm r
abbrev Xd5(n:Nat):LD->LD
 |[]=>[]|x::r=>.tup QAc::Xd5 Q17 r
inductive Kd where|non|bool|int|str|tuple|list|dict|exc(c:Nat)
 deriving DecidableEq
abbrev kdD(S:Sto):D->Option Kd
 |.non=>yz .non|.bl _=>yz .bool|.int _=>yz .int|.str _=>yz .str|.tup _=>yz .tuple|.fro _=>yz .list|.fn _ _=>yy|.edc=>yz .dict|.ref n=>match S[n]? with
  |some Qbd=>yz .list|some QqL=>yz .dict|some Qq3=>yz Qq3|_=>yy
abbrev tyQ(b i s t l d:Bool):Ty->Option Bool
 |.bool=>yz b|.int=>yz i|.str=>yz s|.tuple=>yz t|.list=>yz l|.dict=>yz d|.cls _=>yy|.valueError=>yy
abbrev isT:Kd->Ty->Option Bool
 |.exc c',t=>match t with
  |.cls c=>yz QCA|.valueError=>yz yx|_=>yy
 |.non,t=>tyQ yw yw yw yw yw yw t|.bool,t=>tyQ yx yx yw yw yw yw t|.int,t=>tyQ yw yx yw yw yw yw t|.str,t=>tyQ yw yw yx yw yw yw t|.tuple,t=>tyQ yw yw yw yx yw yw t|.list,t=>tyQ yw yw yw yw yx yw t|.dict,t=>tyQ yw yw yw yw yw yx t
abbrev Yx(k:Kd):List Ty->Option Bool
 |[]=>yz yw|t::r=>match isT k t with
  |some yx=>yz yx|some yw=>Yx k r|none=>yy
abbrev szI(i:Int):Nat:=if i.natAbs<1000 then 4 else 1921
mutual
abbrev szD:Vcc->Nat
 |.none=>4|.bool _=>5|.int i=>szI i|.str x=>(reprText x).length|.list xs=>szDs xs+2|.tuple xs=>szDs xs+3|.dict _=>2
abbrev szDs:List Vcc->Nat
 |[]=>0|x::xs=>szD x+2+szDs xs
end
mutual
abbrev Xdg:Vcc->Bool
 |.none=>yx|.bool _=>yx|.int _=>yx|.str _=>yx|.list xs=>dctEs xs|.tuple xs=>dctEs xs|.dict kvs=>kvs.isEmpty
abbrev dctEs:List Vcc->Bool
 |[]=>yx|x::xs=>Xdg x&&dctEs xs
end
abbrev Xid(S:Sto)(x:D):Option Str:=match Yp S x with
 |some p=>if p.showable&&Xdg p&&decide QID&&decide (szD p<=big) then yz p.shown else yy|none=>yy
abbrev X6(k:Bl)(ds:LD)(S:Sto):R D:=match k with
 |.len=>match ds with
  |[x]=>match x with
   |_=>match Xi S x with
    |some xs=>.ok Qq9 S|none=>.bad
  |_=>.bad
 |.tuple=>match ds with
  |[x]=>match Xi S x with
   |some xs=>.ok QA1 S|none=>.bad
  |_=>.bad
 |.list=>match ds with
  |[x]=>match Xi S x with
   |some xs=>.ok Q7 QU1|none=>.bad
  |_=>.bad
 |.all=>match ds with
  |[x]=>match QwU.bind X1 with
   |some bs=>.ok (.bl (bs.all id)) S|none=>.bad
  |_=>.bad
 |.anb=>match ds with
  |[x]=>match QwU.bind X1 with
   |some bs=>.ok Q1Q S|none=>.bad
  |_=>.bad
 |.max=>match ds with
  |QL3=>.ok QkF S|_=>.bad
 |.min=>match ds with
  |QL3=>.ok QlF S|_=>.bad
 |.sorted=>match ds with
  |[x]=>match Xi S x with
   |some xs=>match Xf xs with
    |some B=>if B.length<64 then .ok Q7 (S++[.lst ((Xbt B).map D.int)]) else .bad|none=>match Y6 xs with
     |some ks=>match Xm8 ks with
      |some r=>.ok Q7 (S++[.lst (r.map λk=>.tup Qs1)])|none=>.bad
     |none=>.bad
   |none=>.bad
  |_=>.bad
 |.repr=>match ds with
  |[x]=>match Xid S x with
   |some t=>.ok Qk5 S|none=>.bad
  |_=>.bad
abbrev Y4(k:Mt)(o:D)(ds:LD)(S:Sto):R D:=match o,ds with
 |.ref n,[x]=>match k with
  |.append=>match lstM S n with
   |some xs=>if QU<big then .ok .non (S.set n (.lst (xs++[x]))) else .bad|none=>.bad
  |.xtd=>match lstM S n with
   |some xs=>match Xi S x with
    |some ys=>if QU+lg ys<=big then .ok .non (S.set n (.lst Q0O)) else .bad|none=>.bad
   |none=>.bad
  |.popi=>match x with
   |.int k=>match lstM S n with
    |some xs=>match ixN QU k with
     |some j=>match xs[j]? with
      |some y=>if QU<big then .ok y (S.set n (.lst QFR)) else .bad|none=>.bad
     |none=>.bad
    |none=>.bad
   |_=>.bad
  |.index=>match x with
   |.bl b=>match Q09.bind X1 with
    |some bs=>match bs.findIdx? QrM with
     |some i=>.ok QF0 S|none=>.bad
    |none=>.bad
   |.int c=>match Q09.bind Xf with
    |some B=>match B.findIdx? Qrd with
     |some i=>.ok QF0 S|none=>.bad
    |none=>.bad
   |_=>.bad
  |.count=>match x with
   |.bl b=>match Q09.bind X1 with
    |some bs=>.ok (.int (bs.countP QrM:Nat)) S|none=>.bad
   |.int c=>match Q09.bind Xf with
    |some B=>.ok (.int (B.countP Qrd:Nat)) S|none=>.bad
   |_=>.bad
 |_,_=>.bad
abbrev Xbf(k:Mt)(x:D)(S:Sto):Bool:=match x with
 |.ref n=>Q09.isSome|_=>yw
abbrev Xdw(o i v:D)(S:Sto):R Unit:=
 match o with
 |.ref n=>match i with
  |.int k=>match lstM S n with
   |some xs=>match ixN QU k with
    |some j=>.ok () (S.set n QcC)|none=>.bad
   |none=>.bad
  |_=>.bad
 |_=>.bad
abbrev Xbg(S:Sto)(n:Nat):Option (LL):=match S[n]? with
 |some (.st ks)=>yz ks|_=>yy
abbrev Xie(S:Sto)(x:D):Bool:=match x with
 |.ref n=>(Xbg S n).isSome|_=>yw
abbrev Xd6(o:D)(ds:LD)(S:Sto):R D:=match o with
 |.ref n=>match ds with
  |QzT=>match Xbg S n with
   |some ks=>match Xf xs with
    |some k=>if QDB<1000 then .ok .non QVN else .bad|none=>.bad
   |none=>.bad
  |_=>.bad
 |_=>.bad
abbrev Xm9(x:D)(S:Sto):R D:=match x with
 |.ref n=>match Xbg S n with
  |some ks=>if QDB<10000 then .ok Q7 (S++[.lst (QVe.map λk=>.tup Qs1)]) else .bad|none=>.bad
 |_=>.bad
abbrev X6e(p:LI×D):D:=.tup [.tup (p.1.map D.int),p.2]
inductive Src where
 |con (xs:LD)|ref (n:Nat)|zpp (a b:Src)|enm (a:Src)
abbrev Src.get:Src->Sto->Nat->Option Qw3
 |.con xs,_,i=>yz xs[i]?|.ref n,S,i=>Q09.map λxs=>xs[i]?|.zpp a b,S,i=>match a.get S i,b.get S i with
  |some QDD,yz QXf=>yz (yz QkP)|some _,yz _=>yz yy|_,_=>yy
 |.enm a,S,i=>match a.get S i with
  |some QDD=>yz (yz (.tup QBc))|r=>r
abbrev Src.most:Src->Sto->Nat
 |.con xs,_=>lg xs|.ref n,S=>(Q09.getD []).length|.zpp a b,S=>min (a.most S) (b.most S)|.enm a,S=>a.most S
abbrev X9(S:Sto):D->Option Src
 |.tup xs=>yz QV8|.fro xs=>yz QV8|.ref n=>Q09.map λ_=>.ref n|_=>yy
abbrev Y5:LD->Option (LD)
 |QIQ=>if-QD3<j/\j<1048576 then yz QJ4 else yy|QL3=>if-QD3<i/\i<1048576/\-QD3<j/\j<1048576 then yz ((Vq (j-i).toNat).map λ(k:Nat)=>D.int QhJ) else yy|[.int i,.int j,.int s]=>if s = -1/\-QD3<i/\i<1048576/\-QD3<j/\j<1048576 then yz ((Vq (i-j).toNat).map λ(k:Nat)=>D.int QIe) else yy|_=>yy
abbrev X0(t:Tg)(d:D)(env:En):Option En:=
 match t with
 |.var i=>yz QpG|.tup is=>match d with
  |.tup ds=>if QWR=lg ds then yz QX8 else yy|_=>yy
abbrev slots:Tg->LN
 |.var i=>[i]|.tup is=>is
abbrev Xvb(t:Tg)(env:En):Bool:=(slots t).all λi=>match env[i]? with
 |some (yz _)=>yw|_=>yx
abbrev Yy(get:Sto->Nat->Option Qw3)(t:Tg)(body:En->LD->Sto->R LD):Nat->Nat->En->LD->Sto->R (LD)
 |0,_,_,_,_=>.bad|k+1,i,env,acc,S=>match get S i with
  |none=>.bad|some yy=>.ok acc S|some Q28=>match X0 t d env with
   |none=>.bad|some B=>match body B acc S with
    |.ok L S'=>Yy get t body k QC2 B L S'|_=>.bad
mutual
abbrev bdD(k:Nat):D->Bool
 |.ref n=>decide (n<k)|.tup xs=>bdDs k xs|.fro xs=>bdDs k xs|_=>yx
abbrev bdDs(k:Nat):LD->Bool
 |[]=>yx|x::xs=>bdD k x&&bdDs k xs
end
abbrev bdO(k:Nat):O->Bool
 |.lst xs=>bdDs k xs|.dct kvs=>kvs.all λp=>bdD k p.2|.fdc kvs=>kvs.all λp=>bdD k p.2|_=>yx
theorem Xe9(S S':Sto):Prop:=lg S<=lg S'/\∀(i:Nat) (o:O),i<lg S->S'[i]?=yz o->S[i]?=yz o\/bdO QE o=yx
abbrev gcR(S:Sto):R D->R D
 |.ok d S'=>open Classical in if Xe9 S S' then (if bdD QE d then .ok d QaL else match d with
  |.ref n=>match S'[n]? with
   |some o=>if bdO QE o then .ok Q7 QaP else .bad|none=>.bad
  |_=>.bad) else .bad
 |.ex n S'=>open Classical in if Xe9 S S'/\QE<=n then match S'[n]? with
  |some Qq3=>.ex QE (S'.take QE++QQ9)|_=>.bad else .bad
 |.bad=>.bad
abbrev Xa2:R D->R D
 |.ok d S=>match d with
  |.ref n=>match S[n]? with
   |some QB1=>.ok Qr9 QGC|some QqL=>.ok .edc QGC|_=>.bad
  |d=>.ok d S
 |r=>r
private noncomputable abbrev Fn:=Nat->LD->Sto->R D
noncomputable section
variable(F:Fn)(G:LD)
mutual
abbrev ev:Ex->En->Sto->R D
 |.nev,_,_=>.bad|.var i,env,S=>match env[i]? with
  |some Q28=>.ok d S|_=>.bad
 |.cst d,_,S=>.ok d S|.neg a,env,S=>QH2.bind λx S=>match x with
  |.int i=>.ok QMH S|_=>.bad
 |.glb k,_,S=>match G[k]? with
  |some d=>.ok d S|none=>.bad
 |.tup es,env,S=>Q22.bind λxs S=>if QU<=big then .ok QA1 S else .bad|.lst es,env,S=>Q22.bind λxs S=>if QU<=big then .ok Q7 QU1 else .bad|.dct0,_,S=>.ok Q7 QWI|.bin op a b,env,S=>QH2.bind λx S=>QGL.bind λy S=>Xn op x y S|.cmp op a b,env,S=>QH2.bind λx S=>QGL.bind λy S=>Xk op x y S|.chn o1 o2 a b c,env,S=>QH2.bind λx S=>QGL.bind λy S=>match Xar o1 x y S with
  |some yx=>QQW.bind λz S=>Xk o2 y z S|some yw=>.ok Qc S|none=>.bad
 |.and a b,env,S=>QH2.bind λx S=>match X2 S x with
  |some yx=>ev b env S|some yw=>.ok x S|none=>.bad
 |.or a b,env,S=>QH2.bind λx S=>match X2 S x with
  |some yx=>.ok x S|some yw=>ev b env S|none=>.bad
 |.not a,env,S=>QH2.bind λx S=>match X2 S x with
  |some r=>.ok Q2Q S|none=>.bad
 |.ite c a b,env,S=>QQW.bind λx S=>match X2 S x with
  |some yx=>ev a env S|some yw=>ev b env S|none=>.bad
 |.idx a i,env,S=>QH2.bind λx S=>(ev i env S).bind λy S=>Xcu x y S|.sli a lo hi,env,S=>QH2.bind λx S=>(evo lo env S).bind λl S=>(evo hi env S).bind λh S=>match Xf3 l,Xf3 h with
  |some l,yz h=>Xf4 x l h S|_,_=>.bad
 |.rev a,env,S=>QH2.bind λx S=>Xyo x S|.call f es,env,S=>Q22.bind λxs S=>F f xs S|.cal e es,env,S=>QGB.bind λx S=>match x with
  |.fn f nm=>if Xbj f nm G then Q22.bind λxs S=>F f xs S else .bad|_=>.bad
 |.blt k es,env,S=>Q22.bind λxs S=>X6 k xs S|.mth k o es,env,S=>QPW.bind λx S=>if Xbf k x S then Q22.bind λxs S=>Y4 k x xs S else .bad|.isi a ts,env,S=>QH2.bind λx S=>match Q7L.bind λk=>Yx k ts with
  |some r=>.ok QSA S|none=>.bad
 |.lrg t es,env,S=>Q22.bind λxs S=>match Y5 xs with
  |some ds=>if t then .ok QjD S else .ok Q7 QRT|none=>.bad
 |.cmr k n gs elt,env,S=>match gs with
  |.nil=>.bad|.cons t it ifs gs=>(evit it env S).bind λsrc S=>
   (Yy (src.get) t (Xal (λenv S=>evts ifs env S) (λenv B S=>
     match gs with
     |.nil=>Q8T.bind λy S=>if Q5L<big then .ok QZO S else .bad|.cons t2 it2 ifs2 aa=>match aa with
      |.nil=>if Xvb t2 env then (evit it2 env S).bind λL S=>Yy (L.get) t2 (Xal (λenv S=>evts ifs2 env S) (λenv B S=>Q8T.bind λy S=>if Q5L<big then .ok QZO S else .bad)) (L.most S+1) 0 env B S else .bad
      |.cons ..=>.bad)) QU4 0 Qx0 [] S).bind λB S=>
   if k then .bad else .ok Q7 QHd
 |.sst a,env,S=>QH2.bind λx S=>match Xi S x with
  |some xs=>Xb1 xs S|none=>.bad
 |.frz a,env,S=>gcR S (Xa2 QH2)|.st0,_,S=>.ok Q7 QJd|.sad o es,env,S=>QPW.bind λx S=>if Xie S x then Q22.bind λxs S=>Xd6 x xs S else .bad|.srs a,env,S=>QH2.bind λx S=>Xm9 x S
abbrev evo:Op->En->Sto->R Qw3
 |.none,_,S=>.ok yy S|.some e,env,S=>QGB.bind λx S=>.ok QDD S
abbrev evs:Exs->En->Sto->R (LD)
 |.nil,_,S=>.ok [] S|.cons e es,env,S=>QGB.bind λx S=>Q22.bind λxs S=>.ok Q4A S
abbrev evts:Exs->En->Sto->R Bool
 |.nil,_,S=>.ok yx S|.cons e es,env,S=>QGB.bind λx S=>match X2 S x with
  |some yx=>evts es env S|some yw=>.ok yw S|none=>.bad
abbrev evit:It->En->Sto->R Src
 |.val e,env,S=>QGB.bind λx S=>match X9 S x with
  |some s=>.ok s S|none=>.bad
 |.rng es,env,S=>Q22.bind λxs S=>match Y5 xs with
  |some ds=>.ok QtL S|none=>.bad
 |.zpp es,env,S=>Q22.bind λxs S=>match xs with
  |Qc9=>match X9 S x,X9 S y with
   |some s,yz t=>.ok QiP S|_,_=>.bad
  |_=>.bad
 |.enm es,env,S=>Q22.bind λxs S=>match xs with
  |[x]=>match X9 S x with
   |some s=>.ok QZV S|none=>.bad
  |_=>.bad
end
mutual
abbrev X6f:St->Bool
 |.expr _=>yx|.ret _=>yx|.pass=>yx|.ite _ a b=>nasgs a&&nasgs b|.rse _ _=>yx|_=>yw
abbrev nasgs:Sts->Bool
 |.nil=>yx|.cons s ss=>X6f s&&nasgs ss
end
abbrev Yz(get:Sto->Nat->Option Qw3)(t:Tg)(body:En->Sto->R Fl):Nat->Nat->En->Sto->R Fl
 |0,_,_,_=>.bad|k+1,i,env,S=>match get S i with
  |none=>.bad|some yy=>.ok QQ4 S|some Q28=>match X0 t d env with
   |none=>.bad|some B=>match body B S with
    |.ok QR7 S'=>Yz get t body k QC2 e S'|.ok Qgd S'=>Yz get t body k QC2 e S'|.ok Qhd S'=>.ok QR7 S'|.ok QJ9 S'=>.ok QJ9 S'|.ex n S'=>.ex n S'|.bad=>.bad
mutual
abbrev exe:St->En->Sto->R Fl
 |.nev,_,_=>.bad|.asg t e,env,S=>QT1.bind λx S=>match X0 t x env with
  |some env=>.ok QQ4 S|none=>.bad
 |.par is es,env,S=>Qk4.bind λxs S=>if QWR=lg xs then .ok (.nx ((is.zip xs).foldl Q21 env)) S else .bad|.aset o i e,env,S=>QT1.bind λv S=>(ev F G o env S).bind λx S=>(ev F G i env S).bind λy S=>QoJ.bind λ_ S=>.ok QQ4 S|.expr e,env,S=>QT1.bind λ_ S=>.ok QQ4 S|.ret e,env,S=>QT1.bind λx S=>.ok QKf S|.ite c a b,env,S=>(ev F G c env S).bind λx S=>match X2 S x with
  |some yx=>pe a env S|some yw=>pe b env S|none=>.bad
 |.for t it b,env,S=>(evit F G it env S).bind λsrc S=>Yz src.get t (λenv S=>pe b env S) QU4 0 env S|.rse c e,env,S=>QT1.bind λ_ S=>.ex QE QvJ|.try b c x h,env,S=>if nasgs b then
   match pe b env S with
   |.ex n S'=>match S'[n]? with
    |some QgS=>if c==0||c==c' then
      match pe h (env.set x QRJ) S' with
      |.ok QJ9 S''=>.ok QJ9 S''|_=>.bad
     else .bad|_=>.bad
   |r=>r
  else .bad|.pass,env,S=>.ok QQ4 S|.brk,env,S=>.ok Q6a S|.cnt,env,S=>.ok Q5a S
abbrev pe:Sts->En->Sto->R Fl
 |.nil,env,S=>.ok QQ4 S|.cons s ss,env,S=>match exe s env S with
  |.ok QR7 S'=>pe ss e S'|r=>r
end
structure Df where
 np:Nat
 nl:Nat
 body:Sts
 gc:Bool:=yx
abbrev Xna:R Fl->R D
 |.ok QSB S=>.ok v S|.ok (.nx _) S=>.ok .non S|.ok _ _=>.bad|.ex n S=>.ex n S|.bad=>.bad
abbrev gcB(b:Bool)(S:Sto)(r:R D):R D:=if b then gcR S r else r
abbrev den(d:Df)(ds:LD)(S:Sto):R D:=
 if QP3=d.np then gcB d.gc S (Xna (pe F G d.body (ds.map yz++Vn QA8 yy) S)) else .bad
universe e
abbrev FT(T:List Df)(G:LD):Nat->Fn
 |0=>λ_ _ _=>.bad|k+1=>λf ds S=>match T[f]? with
  |some d=>den Q8J G d ds S|none=>.bad
universe Z
universe e
section
namespace Z
open PySem PySem.SetTable
def Xqx{xs:Array Nat}{i a b:Nat}(h:i<xs.size):xs.getD i a=xs.getD i b:=by simp![Va7,h]
theorem Ris(xs:Array Nat):Prop:=xs.toList.Pairwise Qg3
def Ris.lt{xs:Array Nat}(h:Ris xs){i j a:Nat}(B:i<j)(L:j<xs.size):xs.getD i a<xs.getD j a:=by let:=Vgf.mp h i j (by simpa using Vex B L) QE2 B;simpa [Va7,L,Vex B L] using this
def Xif{xs:Array Nat}{j:Nat}(L:Ris xs):∀(B lo hi:Nat),hi<=xs.size->lo<=hi->hi-lo<=B->(∀k,k<lo->xs.getD k 0<j)->(∀k,hi<=k->k<xs.size->j<=xs.getD k 0) ->
  below.go xs j B lo hi<=xs.size/\(∀k,k<below.go xs j B lo hi->xs.getD k 0<j)/\∀k,below.go xs j B lo hi<=k->k<xs.size->j<=xs.getD k 0
 |0=>λlo hi h1 h2 h3 h4 h5=>by
  let:lo=hi:=by omega
  subst this;exact QvV|f+1=>λlo hi h1 h2 h3 h4 h5=>by
  unfold below.go;by_cases hl:lo<hi
  ·rw[iP0 hl];dsimp;let hm:Q4N/2<xs.size:=by omega
   by_cases c:xs.getD (Q4N/2) j<j
   ·rw[iP0 c];calc Xif L f _ hi h1 Q0 Q0 (λk hk=>?_) h5;rw[Xqx (b:=0) hm]at c;by_cases e:k=Q4N/2;·rw[e];exact c
    ·exact Vex (L.lt Q0 hm) c
   rw[iN0 c];exact Xif L f lo _ Q0 Q0 Q0 h4 λk hk hs=>?_;rw[Xqx (b:=0) hm]at c;by_cases e:k=Q4N/2;·rw[e];omega
   ·let:=L.lt (a:=0) (show Q4N/2<k by omega) hs;omega
  rw[iN0 hl];let:lo=hi:=by omega
  subst this;calc QvV
def Xcc{xs:Array Nat}(L:Ris xs)(j:Nat):below xs j<=xs.size/\(∀k,k<below xs j->xs.getD k 0<j)/\∀k,below xs j<=k->k<xs.size->j<=xs.getD k 0:=
 Xif L xs.size 0 xs.size Qw QL8 Qw (λk B=>aB0 B QP7) λk h1 h2=>aB0 h2 (Nat.not_lt.mpr h1)
structure Tb(t:Ut):Prop where
 ris:Ris t.place
 dum:t.dummies=#[]
def Xg0{t:Ut}(T:Tb t)(j:Nat):(∃i,t.slot j=.live i/\t.place[i]?=yz j)\/(t.slot j=.empty/\∀k,k<t.place.size->t.place.getD k 0≠j):=by
 let⟨b1,b2,L⟩:=Xcc T.ris j;let hs:t.slot j=if t.place[below t.place j]?==yz j then .live QUE else .empty:=by
  unfold SetTable.slot SetTable.has;rw[T.dum];dsimp;split;·rfl
  ·simp!
 rw[hs];by_cases c:(t.place[below t.place j]?==yz j)=yx;·rw[iP0 c];exact .inl ⟨_,rfl,eq_of_beq c⟩
 ·rw[iN0 c];calc .inr ⟨rfl,λk B e=>c ?_⟩;by_cases q:k<below t.place j;·let:=b2 k q;omega
  ·by_cases q2:k=below t.place j
   ·subst q2;let:t.place[below t.place j]?=yz j:=by
     rw[Ul B];simp![Va7,B]at e;rw[e]
    rw[this];exact beq_self_eq_true _
   let h1:=L _ Qw Q0;let h2:=T.ris.lt (a:=0) (show below t.place j<k by omega) B;omega
def gap{xs:Array Nat}(L:Ris xs):∀n,n<=xs.size->(∀k,k<n->xs.getD k 0=k)\/∃e,e<n/\∀k,k<xs.size->xs.getD k 0≠e
 |0=>λ_=>.inl λk B=>aB0 B QP7|n+1=>λh=>by
  rcases gap L n Q0 with q|⟨e,he,q⟩
  ·by_cases c:xs.getD n 0=n
   ·exact .inl λk B=>by
     by_cases z:k=n;·rw[z,c]
     ·exact q k Q0
   calc .inr ⟨n,by omega,λk B=>?_⟩;let hn:n<=xs.getD n 0:=by
    cases n with
    |zero=>exact Van _|succ m=>let h1:=L.lt (a:=0) (show m<m+1 by omega) Q0;let h2:=q m Q0;omega
   rcases Vi8 k n with z|z|z;·let:=q k z;omega
   ·rw[z];exact c
   let:=L.lt (a:=0) z B;omega
  calc .inr QDQ
def Xs2{t:Ut}(T:Tb t):∃e,e<=t.place.size/\t.slot e=.empty:=by
 let B:∃e,e<=t.place.size/\∀k,k<t.place.size->t.place.getD k 0≠e:=by
  rcases gap T.ris _ Qw with q|⟨e,L,q⟩;·exact⟨t.place.size,Vi _,λk hk z=>by let:=q k hk;omega⟩
  ·exact QDQ
 let⟨e,L,q⟩:=B;calc⟨e,L,?_⟩;rcases Xg0 T e with⟨i,_,h⟩|⟨h,_⟩;·let⟨hi,hx⟩:=U8.mp h;exact aB0 (by simp![Va7,hi,hx]) (q i hi)
 ·calc h
abbrev fiv(m x:Nat):Nat:=(x*5+1)%QCB
abbrev itf(m:Nat):Nat->Nat->Nat
 |0,x=>x|k+1,x=>itf m k Qqa
abbrev orM(m:Nat):Nat->Nat->Nat->Nat
 |0,_,a=>a|n+1,x,a=>orM m n Qqa (a ||| (1 <<< x))
def Xqy(m e:Nat):∀(n x a:Nat),(orM m n x a).testBit e=yx->a.testBit e=yx\/∃k,k<n/\itf m k x=e
 |0=>λx a h=>.inl h|n+1=>λx a h=>by
  rcases Xqy m e n _ _ h with q|⟨k,B,q⟩
  ·rw[Nat.testBit_or,Vb7]at q;rcases q with q|q;·exact .inl q
   ·calc .inr ⟨0,by omega,?_⟩;rw[Nat.one_shiftLeft,Nat.testBit_two_pow]at q;simpa [itf] using q
  calc .inr ⟨k+1,by omega,q⟩
abbrev rnd(m:Nat):Nat->Nat×Nat->Nat×Nat
 |0,p=>p|r+1,p=>rnd m r (leap m p.1 p.2)
def Xqz(m a:Nat):∀(b:Nat) (p:Nat×Nat),rnd m QSe p=rnd m a (rnd m b p)
 |0=>λp=>by simp![rnd]|b+1=>λp=>by rw[Viz];calc Xqz m a b _
def Xq0(m:Nat):∀(r:Nat) (p:Nat×Nat),QTX.2=p.2/32^r
 |0=>λp=>by simp![rnd]|r+1=>λp=>by rw[rnd,Xq0 m r];show p.2/32/32^r=_;rw[Nat.div_div_eq_div_mul,Vgk,Nat.mul_comm]
def Xnb(m:Nat):∀(r i:Nat),rnd m r (i,0)=(itf m r i,0)
 |0=>λi=>rfl|r+1=>λi=>by
  let:leap m i 0=(fiv m i,0):=by simp![leap,fiv]
  rw[rnd];show rnd m r (leap m i 0)=_;rw[this];calc Xnb m r _
def Xvc(m:Nat):∀(r:Nat) (p:Nat×Nat),p.1<m+1->QTX.1<m+1
 |0=>λp h=>h|r+1=>λp h=>Xvc m r _ QWZ
abbrev its(t:Ut):Nat->Probe->Probe
 |0,p=>p|n+1,p=>its t n Q5A
def Xc6(t:Ut)(a:Nat):∀(b:Nat) (p:Probe),its t QSe p=its t a (its t b p)
 |0=>λp=>by simp![its]|b+1=>λp=>by rw[Viz];calc Xc6 t a b _
abbrev Xd7(t:Ut)(p:Nat×Nat):Probe:={j:=p.1,more:=runEnd t.mask p.1-p.1,i:=p.1,perturb:=p.2,dummy:=yy}
def Xf5(t:Ut)(i q:Nat):∀(m j:Nat),its t QCB Qu4=Xd7 t (leap t.mask i q)
 |0,j=>by simp![its,advance,Xd7]|m+1,j=>by
  rw[its];let:t.advance {j:=j,more:=m+1,i:=i,perturb:=q,dummy:=yy}={j:=j+1,more:=m,i:=i,perturb:=q,dummy:=yy}:=by simp![advance]
  rw[this];calc Xf5 t i q m QuB
def X6g(m i:Nat):runEnd m i-i<=9:=by unfold runEnd;split<;>omega
def Xnc(t:Ut):∀(r:Nat) (p:Nat×Nat),∃n,n<=10*r/\its t n (Xd7 t p)=Xd7 t (rnd t.mask r p)
 |0=>λp=>⟨0,Vi _,rfl⟩|r+1=>λp=>by let⟨n,B,e⟩:=Xnc t r (leap t.mask p.1 p.2);calc⟨(runEnd t.mask p.1-p.1+1)+n,by let:=X6g t.mask p.1;omega,?_⟩;rw[Xc6,Xd7,Xf5 t p.1 p.2];calc e
def Xlz(t:Ut)(p:Probe):Q5A.dummy=p.dummy:=by
 unfold advance;split;·rfl
 ·rfl
def Xq1(h:Int):bits h<2^64:=by unfold bits;omega
def Xbu{α:Type}(xs:Array α)(p:Nat)(x:α)(hp:p<=xs.size):(insertAt xs p x).toList=xs.toList.take p++x::xs.toList.drop p:=by unfold insertAt;simp[Var,Vcv,Vcp,List.extract_eq_take_drop,Vgw,Nat.sub_zero];let:List.take (xs.size-p) (List.drop p xs.toList)=List.drop p xs.toList:=Vbk QB;rw[this,Ub];rfl
def X2m{xs:Array Nat}(L:Ris xs){j:Nat}(hj:∀k,k<xs.size->xs.getD k 0≠j):Ris (insertAt xs QJL j):=by
 let⟨b1,b2,b3⟩:=Xcc L j;unfold Ris;rw[Xbu _ _ _ b1];let at_:∀k,(B:k<lg xs.toList)->xs.toList[k]=xs.getD k 0:=λk B=>by
  let aa:k<xs.size:=by simpa using B
  simp![Va7,aa]
 let lo:∀x∈xs.toList.take QJL,x<j:=λx hx=>by let⟨k,B,rfl⟩:=Vbx.mp hx;rw[Vag]at B;rw[List.getElem_take,at_];exact b2 k Q0
 let hi:∀x∈xs.toList.drop QJL,j<x:=λx hx=>by let⟨k,B,rfl⟩:=Vbx.mp hx;rw[Vc6,Vz]at B;rw[List.getElem_drop,at_];let h1:=b3 QBT Q0 Q0;let h2:=hj QBT Q0;omega
 calc Vao.mpr ⟨List.Pairwise.sublist QxJ L,Vah.mpr ⟨hi,List.Pairwise.sublist (List.drop_sublist _ _) L⟩,λa ha b hb=>?_⟩;rcases Vu.mp hb with rfl|hb;·exact lo a ha
 ·calc Vex (lo a ha) (hi b hb)
def Xbh{t:Ut}(T:Tb t):t.fill=t.place.size:=by unfold fill;rw[T.dum];rfl
def Xvd{t:Ut}(T:Tb t){j:Nat}(B:t.slot j=.empty):Tb Qe2.1/\Qe2.1.place.size=t.place.size+1/\Qe2.1.mask=t.mask/\Qe2.1.plain=t.plain/\Qe2.1.led=t.led/\Qe2.2<=t.place.size:=by
 let L:∀k,k<t.place.size->t.place.getD k 0≠j:=by
  rcases Xg0 T j with⟨i,h,_⟩|⟨_,h⟩;·rw[h]at B;cases B
  ·exact h
 let⟨b1,_⟩:=Xcc T.ris j;calc⟨⟨X2m T.ris L,?_⟩,?_,rfl,rfl,rfl,b1⟩;·show(if has t.dummies j=yx then _ else t.dummies)=_;rw[T.dum];simp![has]
 ·show QH5.size=_;rw[<-Vz,Xbu _ _ _ b1];simp!;omega
def Xnd(k:Nat):∀(l:List Q91) (j:Nat),l[j]?=yz yy->((l.set j QZf).filterMap id).Perm (k::l.filterMap id)
 |[],j=>λh=>by simp! at h|o::l,0=>λh=>by simp[gZ0,Vw]at h;subst h;exact Vb6 _|o::l,j+1=>λh=>by
  let ih:=Xnd k l j QD2;cases o with
  |none=>calc ih|some a=>calc(ih.cons a).trans (Vgx k a _)
def Xl0:∀(l:List Q91),(l.filterMap id).length<lg l->∃j:Nat,l[j]?=yz yy
 |[]=>λh=>by simp! at h|o::l=>λh=>by
  cases o with
  |none=>calc⟨0,rfl⟩|some a=>let⟨j,B⟩:=Xl0 l QD2;calc⟨j+1,by simpa using B⟩
def Xne{m:Nat}{ow:Array Q91}:∀(B r i q:Nat),r<B->ow[QOR.1]?=yz yy->∃j,layClean.free m ow B i q=yz j/\ow[j]?=yz yy
 |0=>λr i q hr _=>aB0 hr QP7|f+1=>λr i q hr h=>by
  unfold layClean.free;cases e:QSL.find? λk=>QBM.isNone with
  |some k=>
   calc⟨i+k,rfl,?_⟩;let z:=List.find?_some e;by_cases L:i+k<ow.size;·rw[Ul L];simp[Va7,L,dite_true]at z;simpa using z
   ·simp![Va7,L]at z|none=>
   dsimp;cases r with
   |zero=>let z:=List.find?_eq_none.mp e 0 (Va9.mpr (by unfold runEnd;split<;>omega));let⟨hi,hx⟩:=U8.mp (show ow[i]?=yz yy from h);simp![Va7,hi,hx]at z|succ r=>calc Xne f r _ _ Q0 h
theorem Own(m:Nat)(ow:Array Q91)(k:Nat):Prop:=ow.size=m+1/\(ow.toList.filterMap id).Perm QLb
def Xnf:∀(l:List Q91) (s:Nat) (g:Nat->Option Nat),(∀i,i<lg l->g (s+i)=l.getD i yy)->((List.range' s l.length).filterMap λj=>(g j).map QGe).map QG0=l.filterMap id
 |[]=>λs g h=>rfl|o::l=>λs g h=>by
  let B:=h 0 QB;let ih:=Xnf l (s+1) g λi hi=>by let:=h QC2 Qc3;rw[show s+1+i=s+QC2 by omega,this];rfl
  rw[U4,List.range'_succ,U3];rw[Nat.add_zero]at B;rw[B];cases o with
  |none=>simpa using ih|some a=>simpa using ih
def Xng(g:Nat->Option Nat):∀(l:LN),l.Pairwise Qg3->((QND.map Qu).Pairwise Qg3/\∀x∈QND.map Qu,x∈l)
 |[]=>λ_=>⟨Veh,λx B=>by simp! at B⟩|a::l=>λh=>by
  let⟨h1,h2⟩:=Vah.mp h;let⟨i1,i2⟩:=Xng g l h2;rw[U3];cases e:g a with
  |none=>simp[Option.map_none];exact⟨i1,λx B=>V4 _ QTU⟩|some b=>
   simp[U5,Uk];calc⟨Vah.mpr ⟨λx B=>h1 x QTU,i1⟩,λx B=>?_⟩;rcases Vu.mp B with rfl|B;·exact V8
   ·calc V4 _ QTU
theorem Cy(m:Nat):Prop:=∀x e,x<m+1->e<m+1->∃k,k<m+1/\itf m k x=e
def Xg1(m a:Nat):∀(b x:Nat),itf m QSe x=itf m a (itf m b x)
 |0=>λx=>by simp![itf]|b+1=>λx=>by rw[Viz];calc Xg1 m a b _
abbrev orb(m:Nat):Bool:=orM m QCB 0 0==2^QCB-1&&itf m QCB 0==0
def Ybp{m:Nat}(h:orb m=yx):Cy m:=by
 unfold orb at h;rw[bA0]at h;let L:itf m QCB 0=0:=eq_of_beq h.2;let all:∀e,e<m+1->∃k,k<m+1/\itf m k 0=e:=λe B=>by
  let z:(orM m QCB 0 0).testBit e=true:=by rw[eq_of_beq h.1,Nat.testBit_two_pow_sub_one];exact decide_eq_true B
  rcases Xqy m e _ _ _ z with w|w;·simp! at w
  ·exact w
 intro x e hx B;let⟨a,ha,rfl⟩:=all x hx;let⟨b,hb,rfl⟩:=all e B;by_cases c:a<=b;·exact⟨b-a,by omega,by rw[<-Xg1,show a+(b-a)=b by omega]⟩
 ·calc⟨m+1-a+b,by omega,?_⟩;rw[<-Xg1,show a+(m+1-a+b)=m+1+b by omega,Xg1,L]
theorem Mg(m:Nat):Prop:=m=7\/m=31\/m=127\/m=511\/m=2047\/m=8191
def Mg.cy{m:Nat}(h:Mg m):Cy m:=by rcases h with rfl|rfl|rfl|rfl|rfl|rfl<;>calc Ybp Q9
def Mg.le{m:Nat}(h:Mg m):m<=8191:=by rcases h with rfl|rfl|rfl|rfl|rfl|rfl<;>omega
def Xl1{m:Nat}(hm:Cy m){i q e:Nat}(hi:i<m+1)(B:q<2^64)(L:e<m+1):∃r,r<m+14/\QOR.1=e:=by
 let h1:QPQ.2=0:=by rw[Xq0];exact Nat.div_eq_of_lt (Uf B Q1)
 let h2:=Xvc m 13 (i,q) hi;let⟨k,hk,e1⟩:=hm _ _ h2 L;calc⟨13+k,by omega,?_⟩;rw[Xqz];let:rnd m 13 (i,q)=(QPQ.1,0):=Prod.ext rfl h1;rw[this,Xnb];calc e1
abbrev tm(m:Nat):Ut:={mask:=m,place:=#[],dummies:=#[],finger:=0,led:=yx,moves:=0,plain:=yx}
def Xnh(t:Ut):∀(n:Nat) (p:Probe),its t n p=its QYG n p
 |0=>λp=>rfl|n+1=>λp=>Xnh t n Q5A
abbrev pth(m:Nat)(h:Int)(n:Nat):Nat:=(its Qx8 n QWO).j
def Xdh{t:Ut}(T:Tb t)(j:Nat):t.slot j=.empty ↔ j ∉ t.place.toList:=by
 rcases Xg0 T j with⟨i,h1,h2⟩|⟨h1,h2⟩
 ·rw[h1];rw[<-Ud]at h2;let L:=V5 h2;constructor;·intro z;cases z
  ·intro z;exact aB0 L z
 calc⟨λ_ L=>?_,λ_=>h1⟩;let⟨i,hi,e⟩:=Vbx.mp L;let B:i<t.place.size:=by simpa using hi
 calc h2 i B (by simp![Va7,B];simpa using e)
def Xf6{t:Ut}(T:Tb t){j:Nat}(h:j∈t.place.toList):∃i,t.slot j=.live i/\t.place[i]?=yz j:=by
 rcases Xg0 T j with h1|⟨h1,_⟩;·exact h1
 ·calc aB0 h ((Xdh T j).mp h1)
def Xq2(t:Ut):∀(n:Nat) (p:Probe),(its t n p).dummy=p.dummy
 |0=>λp=>rfl|n+1=>λp=>(Xq2 t n _).trans (Xlz t p)
def Xs3{t:Ut}(T:Tb t)(f:Nat->Int)(h:Int):∀(d B:Nat) (p:Probe),p.dummy=yy->d<B->QjG.j ∉ t.place.toList->(∀k,k<d->Qb6.j∈t.place.toList) ->
  ((∀k,k<d->∀i,t.slot Qb6.j=.live i->f i≠h)/\probe.go t f h B p=yz QsP) \/
  ∃k i,k<d/\t.slot Qb6.j=.live i/\f i=h/\(∀L,L<k->∀i',t.slot QfX.j=.live i'->f i'≠h)/\probe.go t f h B p=yz QxC
 |0,0=>λp _ hf _ _=>aB0 hf QP7|d+1,0=>λp _ hf _ _=>aB0 hf QP7|0,B+1=>λp hd _ he _=>by calc .inl ⟨λk hk=>aB0 hk QP7,?_⟩;unfold probe.go;rw[(Xdh T _).mpr (show p.j ∉ _ from he),hd];rfl|d+1,B+1=>λp hd hf he hl=>by
  let h0:p.j∈t.place.toList:=hl 0 Q0;let⟨i,s1,s2⟩:=Xf6 T h0;by_cases c:f i=h;·calc .inr ⟨0,i,by omega,s1,c,λL hk=>aB0 hk QP7,?_⟩;unfold probe.go;rw[s1];dsimp;rw[c,beq_self_eq_true,iP0 rfl];rfl
  ·let hg:probe.go t f h (B+1) p=probe.go t f h B Q5A:=by
    conv=>lhs;unfold probe.go
    rw[s1];dsimp;rw[iN0 QT6]
   rw[hg];rcases Xs3 T f h d B Q5A (by rw[Xlz];calc hd) Q0 he (λk hk=>hl QG5 Q0) with⟨g1,g2⟩|⟨k,i',g1,g2,g3,g4,g5⟩
   ·calc .inl ⟨λk hk i' hi=>?_,g2⟩;cases k with
    |zero=>rw[show QgX.j=p.j from rfl,s1]at hi;cases hi;exact c|succ k=>exact g1 k Q0 i' hi
   calc .inr ⟨k+1,i',by omega,g2,g3,λL hk aa hi=>?_,g5⟩;cases L with
   |zero=>rw[show QgX.j=p.j from rfl,s1]at hi;cases hi;calc c|succ L=>calc g4 L Q0 aa hi
def Xq3{t:Ut}(T:Tb t)(hm:Cy t.mask)(hn:t.place.size<=t.mask)(h:Int):∃N,N<10*turns t.mask/\pth t.mask h N ∉ t.place.toList/\∀k,k<N->pth t.mask h k∈t.place.toList:=by
 let⟨e,he,hs⟩:=Xs2 T;let⟨r,hr,e1⟩:=Xl1 hm (i:=bits h%(t.mask+1)) (q:=bits h) QWZ QZe (e:=e) Q0;let⟨n,ac,e2⟩:=Xnc QYG r QuI;let st:QYG.probeStart h=Xd7 QYG QuI:=rfl;let q:pth t.mask h n=e:=by unfold pth;rw[st,e2];exact e1
 let B:pth t.mask h n ∉ t.place.toList:=by rw[q];exact(Xdh T e).mp hs
 let ab:∀n,pth t.mask h n ∉ t.place.toList->∃N,N<=n/\pth t.mask h N ∉ t.place.toList/\∀k,k<N->pth t.mask h k∈t.place.toList:=λn=>by
  induction n using Nat.strongRecOn with
  |ind n ih=>
   intro hn;by_cases c:∀k,k<n->pth t.mask h k∈t.place.toList;·exact⟨n,Vi _,hn,c⟩
   ·let⟨k,hk⟩:=Classical.not_forall.mp c;let⟨aa,L⟩:=Classical.not_imp.mp hk;let⟨N,a,b,d⟩:=ih k aa L;exact⟨N,by omega,b,d⟩
 let⟨N,a,b,d⟩:=ab n B;calc⟨N,by unfold turns;omega,b,d⟩
abbrev Ats(t:Ut)(es:Array Q41):List (Nat×Int×Vb):=t.place.toList.zip es.toList
theorem Xs4(t:Ut)(es:Array Q41):Prop:=∀j h x,(j,h,x)∈Ats t es->∃n,pth t.mask h n=j/\∀k,k<n->pth t.mask h k∈t.place.toList
def X6h{t:Ut}{es:Array Q41}{i j:Nat}{e:Int×Vb}(h1:t.place[i]?=yz j)(h2:es[i]?=yz e):(j,e)∈Ats t es:=by
 let:(Ats t es)[i]?=yz (j,e):=by unfold Ats;rw[Vje];exact⟨by rw[Ud];calc h1,by rw[Ud];calc h2⟩
 calc V5 this
def Xq4{α:Type}(l:List α)(p:Nat)(a x:α):x∈l.take p++a::l.drop p ↔ x=a\/x∈l:=by
 conv=>rhs;rw[<-Uq p l]
 simp[Uo,Vu];constructor
 ·rintro (h|h|h);·exact .inr QAK
  ·exact .inl h
  exact .inr Qed
 rintro (h|h|h);·exact .inr QAK
 ·exact .inl h
 calc .inr Qed
def Xq5{α β:Type}:∀(xs:List α) (ys:List β) (p:Nat) (a:α) (b:β),lg xs=lg ys->(xs.take p++a::xs.drop p).zip (ys.take p++b::ys.drop p)=QUG.take p++(a,b)::QUG.drop p
 |xs,ys,0=>λa b _=>by simp!|[],[],p+1=>λa b _=>by simp!|x::xs,y::ys,p+1=>λa b h=>by let ih:=Xq5 xs ys p a b QD2;simp[List.take_succ_cons,List.drop_succ_cons,Vhq,Vgl];rw[ih]|[],_::_,_+1=>λ_ _ h=>by simp! at h|_::_,[],_+1=>λ_ _ h=>by simp! at h
def Xve{t:Ut}(T:Tb t)(j:Nat)(x:Nat):x∈Qe2.1.place.toList ↔ x=j\/x∈t.place.toList:=by let⟨b1,_⟩:=Xcc T.ris j;show x∈QH5.toList ↔ _;rw[Xbu _ _ _ b1];calc Xq4 _ _ _ _
def X2n{t:Ut}{es:Array Q41}(T:Tb t)(hs:t.place.size=es.size)(j:Nat)(e:Int×Vb)(x:Nat×Int×Vb):x∈Ats Qe2.1 (insertAt es Qe2.2 e) ↔ x=(j,e)\/x∈Ats t es:=by let⟨b1,_⟩:=Xcc T.ris j;show x∈(insertAt t.place QUE j).toList.zip (insertAt es QUE e).toList ↔ _;rw[Xbu _ _ _ b1,Xbu _ _ _ (by rw[<-hs];calc b1),Xq5 _ _ _ _ _ (by simpa using hs)];calc Xq4 _ _ _ _
def X2o{t:Ut}{es:Array Q41}(T:Tb t)(hs:t.place.size=es.size)(O:Xs4 t es){h:Int}{x:Vb}{N:Nat}(hN:∀k,k<N->pth t.mask h k∈t.place.toList):
  Xs4 Qg9.1 (insertAt es Qg9.2 Qpa):=by
 intro j h' x' B;rw[X2n T hs]at B;let up:∀y,y∈t.place.toList->y∈Qg9.1.place.toList:=λy hy=>(Xve T _ y).mpr Qtb;rcases B with e|B;·cases e;exact⟨N,rfl,λk L=>up _ (hN k L)⟩
 ·let⟨n,e,q⟩:=O j h' x' B;calc⟨n,e,λk L=>up _ (q k L)⟩
def Xg2(t:Ut)(q:Nat)(i:Nat):∀(k m j:Nat),k<=m->(its t k Qu4)={j:=j+k,more:=m-k,i:=i,perturb:=q,dummy:=yy}
 |0,m,j,_=>by simp![its]|k+1,m,j,h=>by
  let e:t.advance Qu4={j:=j+1,more:=m-1,i:=i,perturb:=q,dummy:=yy}:=by
   let:m>0:=by omega
   simp![advance,this]
  rw[its,e,Xg2 t q i k QWa QuB Q0];congr 1;·omega
  ·omega
def Xni{m i:Nat}(h:i<m+1):runEnd m i<m+1:=by unfold runEnd;split<;>omega
def Xnj(m i:Nat):i<=runEnd m i:=by unfold runEnd;split<;>omega
def Xnk{m:Nat}{ow:Array Q91}(ho:ow.size=m+1):∀(aa i q j:Nat),i<m+1->layClean.free m ow aa i q=yz j->ow[j]?=yz yy/\∃n,(its Qx8 n QwG).j=j/\∀k,k<n->ow[(its Qx8 k QwG).j]?≠yz yy
 |0=>λi q j _ h=>by simp![layClean.free]at h|f+1=>λi q j hi h=>by
  unfold layClean.free at h;let ge:=Xnj m i;let lt:=Xni hi;let B:∀c,c<runEnd m i+1-i->(ow.getD (i+c) (yz 0)).isNone=yw->ow[i+c]?≠yz none:=λc L hz hn=>by let⟨h1,h2⟩:=U8.mp hn;simp![Va7,h1,h2]at hz
  cases e:QSL.find? λk=>QBM.isNone with
  |some k=>
   rw[e]at h;cases h;let z:=List.find?_some e;let kl:k<runEnd m i+1-i:=Va9.mp (List.mem_of_find?_eq_some e);exact⟨?_,k,?_,λc L=>?_⟩
   ·by_cases hk:i+k<ow.size;·rw[Ul hk];simp[Va7,hk,dite_true]at z;simpa using z
    ·simp![Va7,hk]at z
   ·show(its Qx8 k QK3).j=_;rw[Xg2 _ _ _ k _ _ Q0]
   show ow[QcR.j]?≠_;rw[Xg2 _ _ _ c _ _ Q0];calc B c Q0 ?_;let:=(List.find?_range_eq_some.mp e).2.2 c L;rw[Va4]at this;exact this|none=>
   rw[e]at h;let hn:=List.find?_eq_none.mp e;let ab:∀c,c<runEnd m i+1-i->ow[i+c]?≠yz none:=λc L=>B c L (by let:=hn c (Va9.mpr L);rw[Bool.not_eq_true]at this;calc this);let hl:QvE.1<m+1:=Vgv _ Q0;let⟨g1,n,g2,g3⟩:=Xnk ho f QvE.1 QvE.2 j hl h;let re:its Qx8 QOQ QwG=Xd7 Qx8 QvE:=Xf5 Qx8 i q (runEnd m i-i) i;calc⟨g1,runEnd m i-i+1+n,?_,λc L=>?_⟩;·rw[Xc6,re];exact g2
   ·by_cases q':c<runEnd m i-i+1;·show ow[QcR.j]?≠_;rw[Xg2 _ _ _ c _ _ Q0];exact ab c Q0
    ·let e2:c=runEnd m i-i+1+(c-QOQ):=by omega
     rw[e2,Xc6,re];calc g3 _ Q0
def Xvf{m:Nat}:∀(n:Nat) (p:Probe),p.j+p.more<m+1->QRU.j+QRU.more<m+1
 |0=>λp h=>h|n+1=>λp h=>by
  calc Xvf n _ ?_;unfold advance;split;·show p.j+1+(p.more-1)<m+1;omega
  ·let hl:Qe4.1<m+1:=Vgv _ Q0;show Qe4.1+(runEnd m Qe4.1-Qe4.1)<m+1;let:=Xni hl;let:=Xnj m Qe4.1;omega
def X6i(m:Nat)(h:Int)(n:Nat):pth m h n<m+1:=by let B:bits h%QCB<m+1:=Vgv _ Q0;let:=Xvf (m:=m) n QWO (by show bits h%QCB+(runEnd m Qo6-bits h%QCB)<m+1;let:=Xni B;let:=Xnj m Qo6;omega);unfold pth;omega
structure OwnG(m:Nat)(ow:Array Q91)(hs:LI)(k:Nat):Prop where
 own:Own m ow k
 way:∀j c,ow[j]?=yz QuK->∃h,hs[c]?=yz h/\∃n,pth m h n=j/\∀i,i<n->ow[pth m h i]?≠yz yy
def Xvg{m:Nat}(hm:Cy m){ow:Array Q91}{hs:LI}{k:Nat}{h:Int}(O:OwnG m ow hs k)(hk:k<m+1)(hh:hs[k]?=yz h):∃j,layClean.free m ow QXG Qo6 QHO=yz j/\OwnG m QfG hs QG5:=by
 let⟨o1,o2⟩:=O.own;let⟨e,he⟩:=Xl0 ow.toList (by rw[o2.length_eq,U9,Vz,o1];calc hk);let aa:e<m+1:=by let:=(Vk.mp he).1;rw[Vz,o1]at this;exact this
 let B:bits h%QCB<m+1:=Vgv _ Q0;let⟨r,hr,e1⟩:=Xl1 hm (i:=bits h%QCB) (q:=bits h) B QZe aa;let⟨j,f1,f2⟩:=Xne (m:=m) (ow:=ow) QXG r Qo6 QHO (by unfold turns;omega) (by rw[e1,<-Ud];calc he);let⟨_,n,w1,w2⟩:=Xnk o1 QXG _ _ j B f1;let up:∀x,ow[x]?≠yz yy->QfG[x]?≠yz none:=λx hx=>by
  rw[Array.getElem?_setIfInBounds];split
  ·split;·intro z;cases z
   ·intro z;cases z
  exact hx
 calc⟨j,f1,⟨by rw[Vjk,o1],?_⟩,λj' c L=>?_⟩;·rw[Vf6];calc(Xnd k _ j (by rw[Ud];calc f2)).trans ((o2.cons k).trans ?_);rw[List.range_succ];exact(List.perm_append_singleton k QLb).symm
 ·by_cases q:j=j';·subst q;let hj:=(U8.mp f2).1;rw[Array.getElem?_setIfInBounds_self_of_lt hj]at L;cases L;exact⟨h,hh,n,w1,λi hi=>up _ (w2 i hi)⟩
  ·rw[Array.getElem?_setIfInBounds_ne q]at L;let⟨h',g1,n',g2,g3⟩:=O.way j' c L;calc⟨h',g1,n',g2,λi hi=>up _ (g3 i hi)⟩
def Xnl{m:Nat}(L:Cy m)(all:LI):∀(hs:LI) (ow:Array Q91) (k:Nat),OwnG m ow all k->(∀i,hs[i]?=all[k+i]?)->k+lg hs<m+1->∃B,OwnG m B all (k+lg hs) /\
  hs.foldl (λacc h=>do
   let (owner,k) <- acc
   let j <- layClean.free m owner QXG Qo6 QHO
   pure (owner.setIfInBounds j QZf,k+1)) (yz (ow,k))=yz (B,k+lg hs)
 |[]=>λow k O _ _=>⟨ow,O,rfl⟩|h::hs=>λow k O ha hl=>by rw[U4]at hl;let⟨j,f1,f2⟩:=Xvg L O Q0 (by let:=ha 0;simpa using this.symm);let⟨B,O',e⟩:=Xnl L all hs _ QG5 f2 (λi=>by let:=ha QC2;rw[gS0]at this;rw[this,show k+QC2=k+1+i by omega]) Q0;calc⟨B,by rw[U4,show k+QZa=k+1+lg hs by omega];calc O',?_⟩;rw[Vcy,U4,show k+QZa=k+1+lg hs by omega,<-e];congr 1;show(layClean.free m ow QXG Qo6 QHO).bind _=_;rw[f1];rfl
def Xnm{ow:Array Q91}{m:Nat}(L:ow.size=m+1)(j c:Nat):(j,c)∈Q1V.filterMap (λj=>(ow.getD j yy).map QGe) ↔ ow[j]?=yz QuK:=by
 rw[Ve7];constructor
 ·rintro ⟨x,hx,e⟩;rw[Va9]at hx;let B:x<ow.size:=by omega
  simp[Va7,B,dite_true]at e;cases q:ow[x]'B with
  |none=>rw[show ow.getInternal x B=ow[x] from rfl,q]at e;cases e|some y=>rw[show ow.getInternal x B=ow[x] from rfl,q]at e;cases e;rw[Ul B,q]
 intro h;let⟨h1,h2⟩:=U8.mp h;calc⟨j,Va9.mpr Q0,?_⟩;simp[Va7,h1,dite_true];rw[show ow.getInternal j h1=ow[j] from rfl,h2];rfl
def X1j{m f v:Nat}{led pl:Bool}(hm:Cy m)(es:Array Q41)(hl:es.size<m+1):∃t B,laid m f v led pl Q98=yz (t,B)/\Tb t/\t.mask=m/\t.plain=pl/\t.led=led/\t.moves=v/\t.place.size=es.size/\QP4.size=es.size/\(B.filterMap QwB).toList.Perm es.toList/\Xs4 t QP4/\B.toList.Perm QRL:=by
 let O0:OwnG m (Array.replicate QCB yy) Q98.toList 0:=⟨⟨by simp!,by
  rw[Array.toList_replicate];let:∀n,(Vn n (yy:Option Nat)).filterMap id=[]:=λn=>by induction n with
   |zero=>rfl|succ n ih=>rw[Va1,U3];exact ih
  rw[this];calc Vb6 _⟩,λj c hc=>by rw[Array.getElem?_replicate]at hc;split at hc<;>cases hc⟩
 let⟨L,O,e⟩:=Xnl hm Q98.toList Q98.toList _ 0 O0 (λi=>by rw[Vgm]) QVD;let⟨o1,o2⟩:=O.own;rw[Vgm,Vz,Array.size_map]at o2 e;let lc:layClean m Q98=yz L:=by unfold layClean;rw[<-Array.foldl_toList];rw[show((es.map Qu).toList.foldl _ (yz (Array.replicate QCB (yy:Option Nat),0)))=yz (L,es.size) from e];rfl
 let sn:QH3.map QG0=L.toList.filterMap id:=by
  let:=Xnf L.toList 0 QwN λi hi=>by
   let ac:i<L.size:=by simpa using hi
   simp![Va7,ac,Vbd]
  rw[Vz,o1,<-List.range_eq_range']at this;exact this
 let fs:=(Xng QwN Q1V List.pairwise_lt_range).1;let op:(QH3.map QG0).Perm QRL:=by rw[sn];exact o2
 let lt:∀p∈Q1V.filterMap (λj=>(L.getD j yy).map QGe),p.2<es.size:=λp hp=>Va9.mp (op.mem_iff.mp (Vs.mpr ⟨p,hp,rfl⟩));let fm:∀l:List (Nat×Nat),(∀p∈l,p.2<es.size)->(l.map QG0).filterMap QwB=l.map λp=>es.getD p.2 QIV:=λl=>by
  induction l with
  |nil=>intro _;rfl|cons a l ih=>intro h;let ha:=h a V8;rw[Uk,Uk,U3,Ul ha];simp;rw[ih λx hx=>h x QVb];congr 1;simp![Va7,ha]
 unfold laid;rw[lc];calc⟨_,_,rfl,⟨fs,rfl⟩,rfl,rfl,rfl,rfl,?_,?_,?_,?_,by rw[Vds];calc op⟩;·show(Veb _ _).toArray.size=_;let h1:=congrArg List.length sn;rw[Vf,o2.length_eq,U9]at h1;simp[Vo,Vf];exact h1
 ·rw[<-Vz,Vhf,Vds,fm _ lt,Vf];let:=op.length_eq;rw[Vf,U9]at this;exact this
 ·rw[Vhf,Vds];let h1:=op.filterMap QwB;let h2:QRL.filterMap QwB=es.toList:=by
   apply List.ext_getElem?;intro i;let q:∀l:LN,(∀x∈l,x<es.size)->l.filterMap QwB=l.map λx=>es.getD x QIV:=λl=>by
    induction l with
    |nil=>intro _;rfl|cons a l ih=>intro h;let ha:=h a V8;rw[Uk,U3,Ul ha];simp;rw[ih λx hx=>h x QVb];congr 1;simp![Va7,ha]
   rw[q _ λx hx=>Va9.mp hx,Ui];by_cases hi:i<es.size;·rw[Vdt hi,Ud,Ul hi];simp![Va7,hi]
   ·rw[Vcl Qz0,Vcl Qz0];rfl
  rw[h2]at h1;exact h1
 intro j h x aa;unfold Ats at aa;rw[Vhf,Vds,fm _ lt]at aa;rw[List.zip_map']at aa;let⟨⟨j',c⟩,hp,e'⟩:=Vs.mp aa;let hc:c<es.size:=lt _ hp;let⟨h',g1,n,g2,g3⟩:=O.way j' c ((Xnm o1 j' c).mp hp);let e1:j'=j:=congrArg Qu e';let e2:es.getD c QIV=Qpa:=congrArg QG0 e';let eh:h'=h:=by
  rw[Ud,Array.getElem?_map,Ul hc]at g1;let e3:es[c]=Qpa:=by simpa [Va7,hc] using e2
  rw[e3]at g1;exact(Ur g1).symm
 subst eh e1;calc⟨n,g2,λi hi=>?_⟩;let hz:=g3 i hi;let ae:=X6i m h' i;show pth m h' i∈(Veb (λ(x:Nat×Nat)=>x.1) QH3).toArray.toList;rw[Vds];let ab:pth m h' i<L.size:=by omega
 rw[Ul ab]at hz;cases q:L[pth m h' i] with
 |none=>rw[q]at hz;cases hz rfl|some c'=>calc Vs.mpr ⟨(pth m h' i,c'),(Xnm o1 _ _).mpr (by rw[Ul ab,q]),rfl⟩
structure Tab(t:Ut)(n:Nat):Prop where
 tb:Tb t
 pl:t.plain=yx
 sz:t.place.size=n
 mg:Mg t.mask
 room:n*5<t.mask*3
 ln:n<1300
def Tab.le{t:Ut}{n:Nat}(T:Tab t n):n+1<=t.mask:=by let:=T.room;rcases T.mg with e|e|e|e|e|e<;>omega
def Xai{t:Ut}{n:Nat}(T:Tab t n):t.fits n=true:=by let:=T.le;unfold Vhi;rw[Xbh T.tb,T.sz];simp!;omega
def X6j{t:Ut}{es:Array Q41}(T:Tab t es.size)(h:Int)(x:Vb):∃B t',layNew t es h x=(B,t',yw,yw)/\Tb t'/\t'.mask=t.mask/\t'.plain=yx/\t'.led=t.led/\t'.place.size=es.size+1/\B.size=es.size+1:=by
 let le:=T.le;let⟨N,n1,n2,n3⟩:=Xq3 T.tb T.mg.cy (by rw[T.sz];omega) h;let⟨p1,p2,p3,p4,p5,p6⟩:=Xvd T.tb Q0M;let f1:t.freeSlot h=yz (pth t.mask h N,yw):=by
  let pt:∀n,(its t n QMQ).j=pth t.mask h n:=λn=>by rw[Xnh];rfl
  unfold freeSlot probe;rcases Xs3 T.tb (λ_=>h+1) h N _ QMQ rfl n1 (by rw[pt];calc n2) (λk hk=>by rw[pt];calc n3 k hk) with⟨_,g⟩|⟨_,_,_,_,g,_⟩;·rw[g,pt];rfl
  ·omega
 generalize pth t.mask h N=j at *;rw[T.sz]at p2 p6;let L:Qa5.size=es.size+1:=by rw[<-Vz,Xbu _ _ _ p6];simp!;omega
 let ft:Qe2.1.fits Qa5.size=true:=by unfold Vhi;rw[Xbh p1,p2,L,p3];simp!;omega
 calc⟨insertAt es Qe2.2 Qpa,Qe2.1,?_,p1,p3,by rw[p4];calc T.pl,p5,p2,L⟩;unfold layNew;rw[f1];show(insertAt es Qe2.2 Qpa,Qe2.1.orStandIn Qa5.size,yw,! Qe2.1.fits Qa5.size)=_;unfold SetTable.orStandIn;generalize t.put j=pj at ft;rw[ft];rfl
def Xyp{t:Ut}{es:Array Q41}{wanted:Nat}(hp:t.plain=yx)(hm:Mg Q8M)(hl:es.size<=sizeAbove wanted-1):∃L t',relayAll t es wanted=(L,t',yw)/\Tb t'/\t'.mask=sizeAbove wanted-1/\t'.plain=yx/\t'.led=t.led/\t'.place.size=es.size/\L.size=es.size:=by
 let⟨t',B,e,T,h1,h2,h3,_,h4,sz,_,_,h5⟩:=X1j (f:=t.finger) (v:=t.movedTo Q8M) (led:=t.led) (pl:=t.plain) hm.cy es Q0;let rl:t.relaid Q98 wanted=yz (t',B):=e;let cv:coversAll B es.size=true:=List.isPerm_iff.mpr h5;let ft:t'.fits QP4.size=true:=by unfold Vhi;rw[Xbh T,h4,sz,h1];simp!;omega
 calc⟨_,t',?_,T,h1,by rw[h2];calc hp,h3,h4,sz⟩;unfold relayAll;rw[rl];dsimp;rw[cv,ft];rfl
def Xq6{n m:Nat}(B:Mg m)(h0:n*5<m*3)(L:n<1200)(h1:¬ Q17*5<m*3):Mg QBI/\Q17*5<QBI*3/\sizeAbove (grown Q17)<=8192:=by
 rcases B with rfl|rfl|rfl|rfl|rfl|rfl
 ·obtain rfl:n=4:=by omega
  exact⟨.inr (.inl Q9),by decide+kernel,by decide+kernel⟩
 ·obtain rfl:n=18:=by omega
  exact⟨.inr QnF,by decide+kernel,by decide+kernel⟩
 ·obtain rfl:n=76:=by omega
  exact⟨.inr QtZ,by decide+kernel,by decide+kernel⟩
 ·obtain rfl:n=306:=by omega
  exact⟨.inr (.inr QtZ),by decide+kernel,by decide+kernel⟩
 ·omega
 omega
abbrev Xfa(p:LI×Addr):Int×Vb:=(reduceHash (Builtin.Tuple.tupleHashOf (p.1.map hashInt)),.ref p.2)
structure TabG(t:Ut)(es:Array Q41):Prop extends Tab t es.size where
 own:Xs4 t es
universe Z
universe e
section
namespace Z
open PySem PySem.Spec PyProof.Rows L2
theorem FrL(K:Vh)(H:Hp)(a:Addr)(vs:LW):Prop:=
 (∃o,H a=yz (.frz o QE3)) \/
  ∃(o:Obj) (its:AV) (n:Nat),K.lookup a=yz o/\o.cls=.type "list" /\ o.dict=yy/\o.data=.seq its n/\its.size<=V7/\Vals vs its.toList
def FrL.sq{K:Vh}{H:Hp}{a:Addr}{vs:LW}(h:FrL K H a vs):SqL K H a vs:=by
 rcases h with⟨o,h⟩|h;·exact .inl (.inr QwH)
 ·calc .inr h
mutual
theorem RD(K:Vh)(ρ:LR)(H:Hp):D->V->Prop
 |.non,v=>v=.non|.bl b,v=>v=.bl b|.int i,v=>v=.int i|.str x,v=>v=.str x|.tup xs,v=>∃a vs,v=.ref a/\SqT K H a vs/\RDs K ρ H xs vs|.fro xs,v=>∃a vs,v=.ref a/\FrL K H a vs/\RDs K ρ H xs vs|.ref n,v=>∃a,v=.ref a/\ρ[n]?=yz a|.fn _ nm,v=>∃a,v=.ref a/\Va2 K Um nm=yz QSJ|.edc,v=>∃a o,v=.ref a/\H a=yz QxW
theorem RDs(K:Vh)(ρ:LR)(H:Hp):LD->LW->Prop
 |[],vs=>vs=[]|x::xs,vs=>∃v r,vs=v::r/\RD K ρ H x v/\RDs K ρ H xs r
end
abbrev clsNames:LS:=["FaceError","NoNet","NoFace","NoPoint","NotApart","TooMany","NoText","NoRow","NoNumber","NotLevel","NoCrowd","NoWay","NotClosed","NoSwap","NoPlaces","NoDeed","NoLine"]
abbrev Xb2(c:Nat):Option Str:=(clsNames[c]?).filter λx=>!decide (x="")
def Xnn(h:Xb2 c=yz x):c<lg clsNames:=by
 unfold Xb2 at h;cases q:clsNames[c]? with
 |none=>rw[q]at h;cases h|some _=>calc QzG.1
abbrev Y8(K:Vh)(c:Nat):Option Addr:=Qte.bind λnm=>match Va2 K Um nm with
 |some QBU=>yz C|_=>yy
theorem ExcO(C a:Addr)(h:Heap):Prop:=∃B vs L,h.get? a=yz B/\B.cls=.ref C/\B.data=.fields vs/\vs[0]?=yz L/\1<vs.size
def ExcO.ok(x:ExcO C a h):ObjOk P w H h a Qv1:=
 ⟨x,let ⟨oe,_,_,e,_⟩:=x;⟨oe,e⟩,λh1 h2 ⟨oe,vs,a0,e,r⟩ k=>⟨oe,vs,a0,k _ e,r⟩⟩
theorem X6k(a:Addr)(o:Obj)(xs:List QN5):Prop:=QnU=yw/\QU<=V7/\o.ExactDict/\∃(ys:List (LI×Addr×Vb)) (es:Array DictEntry) (ep:Nat),
 Paired (λp q=>p.1=q.1/\p.2.1=q.2.1/\RelV p.2.2 q.2.2) xs ys/\o.data=.dict es ep/\(∀P w,es.toList=ys.map (entryOfKey (tupleKind QCS)))/\(ys.map Qu).Nodup
theorem Ydn(a:Addr)(xs:List QN5)(h:Heap):Prop:=∃o,h.get? a=yz o/\X6k a o xs
private abbrev DX(K:Vh)(ρ:LR)(H:Hp):List QbE->List QN5->Prop:=Paired λp q=>p.1=q.1/\SqT K H q.2.1 QAB/\RD K ρ H p.2 q.2.2
abbrev sB(w:V9):Bool:=!w.params.followText "set-order"
theorem StO(B:Bool)(a:Addr)(ps:List Qj1)(h:Heap):Prop:=∃o es ep t,h.get? a=yz o/\o.ExactSet/\o.data=.set es ep t/\es.toList=ps.map Xfa/\TabG t es/\t.led=B
def StO.ok(x:StO bo a ps h):ObjOk P w H h a (.ext (StO bo a ps)):=
 ⟨x,let ⟨o,_,_,_,e,_⟩:=x;⟨o,e⟩,λh1 h2 ⟨o,es,ep,t,e,r⟩ k=>⟨o,es,ep,t,k _ e,r⟩⟩
theorem OR(K:Vh)(B:Bool)(ρ:LR)(H:Hp)(a:Addr):O->Prop
 |.lst xs=>∃vs,H a=yz QE3/\RDs K ρ H xs vs|.dct kvs=>(kvs=[]/\H a=yz Qs6)\/(kvs≠[]/\∃xs,H a=yz (.ext (Ydn a xs))/\DX K ρ H kvs xs)|.fdc kvs=>∃o u xs,H a=yz QW1/\(∀ys,u≠.tup ys)/\(∀ys,u≠.lst ys)/\X6k a o xs/\DX K ρ H kvs xs|.exc c=>∃C,Y8 K c=yz C/\H a=yz Qv1|.st ks=>∃ps,H a=yz (.ext (StO B a ps))/\(∀p∈ps,SqT K H p.2 QAB)/\Qa6.Perm ks/\ks.Nodup|.ded=>∃o u,H a=yz QW1
def OR.some{K:Vh}{B:Bool}{ρ:LR}{H:Hp}{a:Addr}{o:O}(h:OR K B ρ H a o):∃u,H a=yz u/\∀xs,u≠.tup xs:=by
 cases o with
 |lst xs=>let⟨vs,e,_⟩:=h;exact⟨_,e,λ_ z=>(nomatch z)⟩|dct kvs=>
  rcases h with⟨_,e⟩|⟨_,xs,e,_⟩;·exact⟨_,e,λ_ z=>(nomatch z)⟩
  ·calc⟨_,e,λ_ z=>(nomatch z)⟩|fdc kvs=>let⟨o,u,xs,e,_⟩:=h;calc⟨_,e,λ_ z=>(nomatch z)⟩|exc c=>let⟨C,_,e⟩:=h;calc⟨_,e,λ_ z=>(nomatch z)⟩|st ks=>let⟨ps,e,_⟩:=h;calc⟨_,e,λ_ z=>(nomatch z)⟩|ded=>let⟨o,u,e⟩:=h;calc⟨_,e,λ_ z=>(nomatch z)⟩
def OR.nt{K:Vh}{B:Bool}{ρ:LR}{H:Hp}{a:Addr}{o:O}{q:Str}(h:OR K B ρ H a o):H a≠Option.some (HO.tbl q):=λz=>by
 cases o with
 |lst xs=>let⟨vs,e,_⟩:=h;rw[z]at e;cases e|dct kvs=>rcases h with⟨_,e⟩|⟨_,xs,e,_⟩<;>(rw[z]at e;cases e)
 |fdc kvs=>let⟨o,u,xs,e,_⟩:=h;rw[z]at e;cases e|exc c=>let⟨C,_,e⟩:=h;rw[z]at e;cases e|st ks=>let⟨ps,e,_⟩:=h;rw[z]at e;cases e|ded=>let⟨o,u,e⟩:=h;rw[z]at e;cases e
abbrev mks:LS:=["_law_first_ones","first_wrong"]
abbrev Xig(nm:Str):Str:=nm ++ ".<locals>." ++ "<lambda>"
abbrev Xno(K:Vh):List (Addr×Str):=mks.filterMap λnm=>(Vhj K nm).map λp=>(p.2,Xig nm)
theorem TabH(K:Vh)(H:Hp):Prop:=∀P q,Qce.lookup P=yz q->H P=yz QTd
def TabH.upd{K:Vh}{H:Hp}{p:Addr}{u:HO}(t:TabH K H)(h:∀q,H p≠yz QTd):TabH K QYI:=λP q e=>by rw[Xe λz=>h q (by rw[<-z];calc t P q e)];calc t P q e
structure SR(K:Vh)(bo:Bool)(ρ:LR)(S:Sto)(H:Hp):Prop where
 tab:TabH K H
 len:(lg ρ)=lg S
 nd:ρ.Nodup
 ob:∀(n:Nat) a o,ρ[n]?=yz a->S[n]?=yz o->OR K bo ρ H a o
structure Mon(K:Vh)(ρ ρ':LR)(H H':Hp):Prop where
 pre:∀(n:Nat) a,ρ[n]?=yz a->ρ'[n]?=yz a
 tup:∀a xs,SqT K H a xs->SqT K H' a xs
 frz:∀a o u,H a=yz QW1->H' a=yz QW1
structure Stp(K:Vh)(ρ ρ':LR)(H H':Hp):Prop extends Mon K ρ ρ' H H' where
 new:∀a∈ρ',a∈ρ\/H a=yy
 keep:∀a o,H a=yz o->a ∉ ρ->H' a=yz o
section
variable{K:Vh}{ρ ρ' ρ'':LR}{H H' H'':Hp}{S:Sto}
def Mon.fro(x:Mon K ρ ρ' H H')(a:Addr)(xs:LW)(h:FrL K H a xs):FrL K H' a xs:=by
 rcases h with⟨o,h⟩|h;·exact .inl ⟨o,x.frz _ _ _ h⟩
 ·calc .inr h
def Stp.refl:Stp K ρ ρ H H:=⟨⟨λ_ _ h=>h,λ_ _ h=>h,λ_ _ _ h=>h⟩,λ_ h=>.inl h,λ_ _ h _=>h⟩
def Stp.trans(x:Stp K ρ ρ' H H')(y:Stp K ρ' ρ'' H' H''):Stp K ρ ρ'' H H'' where
 pre:=λn a h=>y.pre n a QEU
 new:=λa h=>by
  rcases y.new a h with h|h;·exact x.new a h
  ·cases e:H a with
   |none=>exact .inr rfl|some o=>
    by_cases B:a∈ρ;·exact .inl B
    ·rw[x.keep a o e B]at h;cases h
 keep:=λa o h n=>y.keep a o (x.keep a o h n) λB=>by
  rcases x.new a B with z|z;·exact n z
  ·rw[h]at z;cases z
 tup:=λa xs h=>y.tup a xs QAI
 frz:=λa o u h=>y.frz a o u QVG
mutual
def RD.mono'(x:Mon K ρ ρ' H H'):∀(d:D) (v:V),RD K ρ H d v->RD K ρ' H' d v
 |.non=>λv h=>by simpa only[RD] using h|.bl b=>λv h=>by simpa only[RD] using h|.int i=>λv h=>by simpa only[RD] using h|.str y=>λv h=>by simpa only[RD] using h|.tup xs=>λv h=>by simp[RD]at h |-;let⟨a,vs,e,h1,h2⟩:=h;exact⟨a,vs,e,x.tup a vs h1,RDs.mono' x xs vs h2⟩|.fro xs=>λv h=>by simp[RD]at h |-;let⟨a,vs,e,h1,h2⟩:=h;exact⟨a,vs,e,x.fro a vs h1,RDs.mono' x xs vs h2⟩|.ref n=>λv h=>by simp[RD]at h |-;let⟨a,e,h⟩:=h;exact⟨a,e,x.pre n a h⟩|.fn f nm=>λv h=>by simpa only[RD] using h|.edc=>λv h=>by simp[RD]at h |-;let⟨a,o,e,h⟩:=h;exact⟨a,o,e,x.frz _ _ _ h⟩
def RDs.mono'(x:Mon K ρ ρ' H H'):∀(ds:LD) (vs:LW),RDs K ρ H ds vs->RDs K ρ' H' ds vs
 |[]=>λvs h=>by simpa only[RDs] using h|d::ds=>λvs h=>by simp[RDs]at h |-;let⟨v,r,e,h1,h2⟩:=h;exact⟨v,r,e,RD.mono' x d v h1,RDs.mono' x ds r h2⟩
end
def RD.mono(x:Stp K ρ ρ' H H')(d:D)(v:V)(h:RD K ρ H d v):RD K ρ' H' d v:=RD.mono' x.toMon d v h
def RDs.mono(x:Stp K ρ ρ' H H')(ds:LD)(vs:LW)(h:RDs K ρ H ds vs):RDs K ρ' H' ds vs:=RDs.mono' x.toMon ds vs h
def RDs.nil:RDs K ρ H [] []:=by simp[RDs]
def RDs.cons(h:RD K ρ H d v)(t:RDs K ρ H ds vs):RDs K ρ H QpX (v::vs):=by simp[RDs];calc⟨v,vs,rfl,h,t⟩
def RDs.length:∀ {ds:LD} {vs:LW},RDs K ρ H ds vs->lg ds=lg vs
 |[],vs,h=>by simp[RDs]at h;subst h;rfl|d::ds,vs,h=>by simp[RDs]at h;let⟨v,r,rfl,_,h2⟩:=h;simp![RDs.length h2]
def RDs.append:∀ {ds es:LD} {vs us:LW},RDs K ρ H ds vs->RDs K ρ H es us->RDs K ρ H (ds++es) QNc
 |[],es,vs,us,h,t=>by simp[RDs]at h;subst h;calc t|d::ds,es,vs,us,h,t=>by simp[RDs]at h;let⟨v,r,rfl,h1,h2⟩:=h;calc RDs.cons h1 (RDs.append h2 t)
def RDs.get:∀ {ds:LD} {vs:LW} {i:Nat} {d:D},RDs K ρ H ds vs->ds[i]?=yz d->∃v,vs[i]?=yz v/\RD K ρ H d v
 |[],vs,i,d,h,e=>by simp! at e|x::ds,vs,0,d,h,e=>by simp[RDs]at h;let⟨v,r,rfl,h1,h2⟩:=h;simp! at e;subst e;calc QsV|x::ds,vs,i+1,d,h,e=>by simp[RDs]at h;let⟨v,r,rfl,h1,h2⟩:=h;let⟨B,L,h'⟩:=RDs.get (i:=i) h2 QT9;calc⟨B,by simpa using L,h'⟩
def RDs.none{ds:LD}{vs:LW}{i:Nat}(h:RDs K ρ H ds vs)(e:ds[i]?=yy):vs[i]?=none:=by let:=h.length;rw[Uz]at e |-;omega
def RDs.set(B:RD K ρ H d v):∀ {ds:LD} {vs:LW} (i:Nat),RDs K ρ H ds vs->RDs K ρ H (ds.set i d) (vs.set i v)
 |[],vs,i,h=>by simp[RDs]at h;subst h;calc RDs.nil|x::ds,vs,0,h=>by simp[RDs]at h;let⟨w,r,rfl,h1,h2⟩:=h;calc RDs.cons B h2|x::ds,vs,i+1,h=>by simp[RDs]at h;let⟨w,r,rfl,h1,h2⟩:=h;calc RDs.cons h1 (RDs.set B i h2)
def RDs.drop:∀ {ds:LD} {vs:LW} (n:Nat),RDs K ρ H ds vs->RDs K ρ H (ds.drop n) (vs.drop n)
 |ds,vs,0,h=>h|[],vs,n+1,h=>by simp[RDs]at h;subst h;calc RDs.nil|x::ds,vs,n+1,h=>by simp[RDs]at h;let⟨w,r,rfl,h1,h2⟩:=h;calc RDs.drop n h2
def RDs.take:∀ {ds:LD} {vs:LW} (n:Nat),RDs K ρ H ds vs->RDs K ρ H (ds.take n) (vs.take n)
 |ds,vs,0,h=>RDs.nil|[],vs,n+1,h=>by simp[RDs]at h;subst h;calc RDs.nil|x::ds,vs,n+1,h=>by simp[RDs]at h;let⟨w,r,rfl,h1,h2⟩:=h;calc RDs.cons h1 (RDs.take n h2)
def RDs.ints:∀(ns:LI),RDs K ρ H QQ Q23
 |[]=>RDs.nil|n::ns=>RDs.cons Qt1 (RDs.ints ns)
def RDs.ints_of:∀ {ns:LI} {vs:LW},RDs K ρ H QQ vs->vs=ns.map V.int
 |[],vs,h=>by simp[Veb,RDs]at h;calc h|n::ns,vs,h=>by simp[Veb,RDs]at h;let⟨v,r,rfl,h1,h2⟩:=h;simp[RD]at h1;subst h1;rw[RDs.ints_of h2];rfl
def DX.mono(x:Mon K ρ ρ' H H')(h:DX K ρ H kvs xs):DX K ρ' H' kvs xs:=Paired.mapP h λp q Qd2=>⟨h1,x.tup _ _ h2,RD.mono' x _ _ h3⟩
def OR.mono'(x:Mon K ρ ρ' H H')(h:OR K bo ρ H a o)(e:H' a=H a):OR K bo ρ' H' a o:=by
 cases o with
 |lst xs=>let⟨vs,h1,h2⟩:=h;exact⟨vs,e.trans h1,RDs.mono' x xs vs h2⟩|dct kvs=>
  rcases h with⟨h1,h2⟩|⟨h0,xs,h1,h2⟩;·exact .inl ⟨h1,e.trans h2⟩
  ·calc .inr ⟨h0,xs,e.trans h1,h2.mono x⟩|fdc kvs=>let⟨o,u,xs,h1,h2,B,L,h5⟩:=h;calc⟨o,u,xs,e.trans h1,h2,B,L,h5.mono x⟩|exc c=>let⟨C,h1,h2⟩:=h;calc⟨C,h1,e.trans h2⟩|st ks=>let⟨ps,h1,h2,B⟩:=h;calc⟨ps,e.trans h1,λp hp=>x.tup _ _ Qna,B⟩|ded=>let⟨o,u,h⟩:=h;calc⟨o,u,e.trans h⟩
def OR.mono(x:Stp K ρ ρ' H H')(h:OR K bo ρ H a o)(e:H' a=H a):OR K bo ρ' H' a o:=OR.mono' x.toMon h e
def SR.at(r:SR K bo ρ S H){n:Nat}{a:Addr}(h:ρ[n]?=yz a):∃o,S[n]?=yz o/\OR K bo ρ H a o:=by
 let B:n<lg S:=by rw[<-r.len];exact QH8.1
 calc⟨S[n],by simp![B],r.ob n a _ h QHL⟩
def SR.adr(r:SR K bo ρ S H){n:Nat}(h:S[n]?=yz o):∃a,ρ[n]?=yz a/\OR K bo ρ H a o:=by
 let B:n < ρ.length:=by rw[r.len];exact QH8.1
 calc⟨ρ[n],by simp![B],r.ob n _ o QHL h⟩
def SR.mem(r:SR K bo ρ S H){a:Addr}(h:a∈ρ):∃u,H a=yz u/\∀xs,u≠.tup xs:=by let⟨n,B,e⟩:=Vbx.mp h;let⟨o,_,q⟩:=r.at (n:=n) (a:=a) (by simp![B,e]);calc q.some
def Stp.upd(hp:H p=yy):Stp K ρ ρ H QZI where
 pre:=λ_ _ h=>h
 new:=λ_ h=>.inl h
 keep:=λa u h _=>by rw[Xe QKL];exact h
 tup:=λa xs h=>by
  rcases h with(h|⟨u,h⟩)|h;·exact .inl (.inl (by rw[Xe QKL];calc h))
  ·exact .inl (.inr ⟨u,by rw[Xe QKL];calc h⟩)
  exact .inr h
 frz:=λa o u h=>by rw[Xe QKL];calc h
def SR.upd(r:SR K bo ρ S H){p:Addr}{o:HO}(hp:H p=yy):SR K bo ρ S QZI:=
 ⟨r.tab.upd λq=>QaF,r.len,r.nd,λn a ob h1 h2=>by let q:=r.ob n a ob h1 h2;let⟨u,B,_⟩:=q.some;calc q.mono QYL QDT⟩
def Stp.new1(hp:H p=yy):Stp K ρ Q7R H QZI where
 pre:=λn a h=>by rw[Vx QH8.1];exact h
 new:=λa h=>by
  rcases Uo.mp h with h|h;·exact .inl h
  ·rw[V6.mp h];exact .inr hp
 keep:=Qn7.keep
 tup:=Qn7.tup
 frz:=Qn7.frz
def SR.new1(r:SR K bo ρ S H){p:Addr}{u:HO}{o:O}(hp:H p=yy)(ho:OR K bo Q7R QYI p o):SR K bo Q7R QfB QYI:=by
 let L:p ∉ ρ:=λh=>by let⟨w,B,_⟩:=r.mem h;rw[hp]at B;cases B
 calc⟨r.tab.upd λq=>QaF,by simp![r.len],?_,λn a ob h1 h2=>?_⟩;·rw[Vcg];calc Q26;rw[V6.mp hy];exact λz=>L Q6U
 ·by_cases hn:n < ρ.length;·rw[Vx hn]at h1;rw[Vx (by rw[<-r.len];calc hn)]at h2;let q:=r.ob n a ob h1 h2;let⟨w,B,_⟩:=q.some;exact q.mono QuJ QDT
  ·let e:n=lg ρ:=by
    let:=QXE.1;simp! at this;omega
   subst e;simp! at h1;rw[r.len]at h2;simp! at h2;subst h1 h2;calc ho
def Stp.chg{n:Nat}{a:Addr}{o:O}{u:HO}(r:SR K bo ρ S H)(L:ρ[n]?=yz a)(hz:∀o u,H a≠yz QW1):Stp K ρ ρ H QaI:=by
 let B:a∈ρ:=V5 L;let⟨w,hw,h1⟩:=r.mem B;exact⟨⟨λ_ _ h=>h,λb xs h=>?_,λb o u h=>?_⟩,λ_ h=>.inl h,λb o h hb=>?_⟩
 ·rcases h with(h|⟨v,h⟩)|h;·exact .inl (.inl (by rw[Xe (λz=>by subst z;rw[hw]at h;calc h1 _ QWL)];calc h))
  ·exact .inl (.inr ⟨v,by rw[Xe QNF];calc h⟩)
  exact .inr h
 ·rw[Xe QNF];exact h
 rw[Xe (λz=>hb QYF)];calc h
def SR.chg{n:Nat}{a:Addr}{o:O}{u:HO}(r:SR K bo ρ S H)(B:ρ[n]?=yz a)(hz:∀o u,H a≠yz QW1)(L:OR K bo ρ QaI a o):SR K bo ρ QRY QaI:=by
 calc⟨r.tab.upd λq=>let ⟨_,_,h⟩:=r.at B;h.nt,by simp![r.len],r.nd,λm b ob h1 h2=>?_⟩;let hn:n<lg S:=by rw[<-r.len];exact QMb.1
 by_cases e:m=n;·subst e;rw[B]at h1;cases h1;rw[Vau hn]at h2;cases h2;exact L
 ·rw[Vav QXY]at h2;let q:=r.ob m b ob h1 h2;calc q.mono (Stp.chg (S:=S) (o:=o) r B hz) (Xe λz=>e ?_);subst z;let⟨h3,e3⟩:=Vk.mp h1;let⟨h4,e4⟩:=Vk.mp B;calc(List.getElem_inj r.nd).mp QEO
def Mon.own{D:Addr}{u:HO}{vs:LW}(hd:H D=yz QE3):Mon K ρ ρ H QbI where
 pre:=λ_ _ h=>h
 tup:=λa xs h=>by
  rcases h with(h|⟨v,h⟩)|h;·exact .inl (.inl (by rw[Xe Qo5];calc h))
  ·exact .inl (.inr ⟨v,by rw[Xe Qo5];calc h⟩)
  exact .inr h
 frz:=λa o u h=>by rw[Xe Qo5];calc h
def SR.own{D:Addr}{u:HO}{vs:LW}(r:SR K bo ρ S H)(hd:H D=yz QE3)(B:D ∉ ρ):SR K bo ρ S QbI:=
 ⟨r.tab.upd λq=>(by rw[hd];calc λz=>nomatch z),r.len,r.nd,λn a ob h1 h2=>QyM.mono' (Mon.own hd) (Xe λz=>B (by rw[<-z];calc V5 h1))⟩
def Stp.own{D:Addr}{u:HO}{vs:LW}{ρ0:LR}(x:Stp K ρ0 ρ H0 H)(B:H0 D=yy)(hd:H D=yz QE3):Stp K ρ0 ρ H0 QbI where
 pre:=x.pre
 tup:=λa xs h=>(Mon.own (ρ:=ρ) hd).tup a xs QAI
 frz:=λa o u h=>(Mon.own (K:=K) (ρ:=ρ) hd).frz a o u QVG
 new:=x.new
 keep:=λa o h L=>by rw[Xe (Xp h B)];calc x.keep a o h L
universe e
structure ER(K:Vh)(ρ:LR)(H:Hp)(env:En)(σ:L2.St):Prop where
 len:QUc=lg σ
 val:∀(i:Nat) d,env[i]?=yz Q28->∃v,σ[i]?=yz Qw8/\RD K ρ H d v
def ER.mono{K:Vh}{ρ ρ':LR}{H H':Hp}{env:En}{σ:L2.St}(r:ER K ρ H env σ)(x:Stp K ρ ρ' H H'):ER K ρ' H' env σ:=
 ⟨r.len,λi d e=>let ⟨v,h1,h2⟩:=r.val i d e;⟨v,h1,h2.mono x⟩⟩
def ER.mono'{K:Vh}{ρ ρ':LR}{H H':Hp}{env:En}{σ:L2.St}(r:ER K ρ H env σ)(x:Mon K ρ ρ' H H'):ER K ρ' H' env σ:=
 ⟨r.len,λi d e=>let ⟨v,h1,h2⟩:=r.val i d e;⟨v,h1,RD.mono' x d v h2⟩⟩
def ER.set{K:Vh}{ρ:LR}{H:Hp}{env:En}{σ:L2.St}(r:ER K ρ H env σ)(i:Nat){d:D}{v:V}(h:RD K ρ H d v):ER K ρ H QpG Q9C:=
 ⟨by simp![r.len],λj e h1=>by
  by_cases z:j=i
  ·subst z;let B:j<lg env:=by
    let:=QXE.1;simpa using this
   rw[Vau B]at h1;cases h1;exact⟨v,by rw[Vau (by rw[<-r.len];calc B)],h⟩
  rw[Vav QWY]at h1
  let⟨v',h2,L⟩:=r.val j e h1;calc⟨v',by rw[Vav QWY];calc h2,L⟩⟩
structure S0(X:Cx)(pc:LA)(σ:L2.St)(H:Hp)(s:Vc)(ρ:LR)(S:Sto)(env:En):Prop where
 inv:Inv X pc σ H s
 sr:SR X.K QV1 ρ S H
 er:ER X.K ρ H env σ
def S0.step(I:S0 X pc σ H s ρ S env)(J:Inv X pc σ H' s')(r:SR X.K QV1 ρ' S' H')(x:Stp X.K ρ ρ' H H'):
  S0 X pc σ H' s' ρ' S' env:=⟨J,r,I.er.mono x⟩
theorem EPd(X:Cx)(pc:LA)(σ:L2.St)(ρ:LR)(H:Hp)(d:D)(S':Sto)(u:Vb)(s':Vc):Prop:=
 ∃v H' ρ',Inv X pc σ H' s'/\RelV v u/\RD X.K ρ' H' d v/\SR X.K QV1 ρ' S' H'/\Stp X.K ρ ρ' H H'
theorem Trc(fl:Vb)(ok:Addr->Prop)(H':Hp)(a:Addr)(h:Heap):Prop:=
 ∃oe vs T L B,h.get? a=yz oe/\oe.data=.fields vs/\vs[1]?=yz QNG/\ok T/\T≠a/\H' T=yy/\h.get? T=yz L/\L.data=.fields B/\B[3]?=yz fl
def Trc.imp(x:Trc fl ok H' a h)(k:∀T,ok T->ok' T):Trc fl ok' H' a h:=by let⟨L,vs,T,oT,B,h1,h2,h3,h4,r⟩:=x;calc⟨L,vs,T,oT,B,h1,h2,h3,k T h4,r⟩
theorem Xkc(X:Cx)(pc:LA)(T:Addr):Prop:=(T∈X.ex\/X.s₀.heap.get? T=yy)/\∀p∈X.pn++pc,p.1≠T
theorem Fly(X:Cx)(pc:LA)(H':Hp)(a:Addr)(h:Heap):Prop:=
 (∃B vs,h.get? a=yz B/\B.data=.fields vs/\vs[1]?=yz .none)\/∃fl,(fl=.none\/fl=Uv X.env.locals)/\Trc fl (Xkc X pc) H' a h
theorem XPd(X:Cx)(pc:LA)(σ:L2.St)(ρ:LR)(H:Hp)(n:Nat)(S':Sto)(e:Vb)(s':Vc):Prop:=
 ∃H' ρ' a c,Inv X pc σ H' s'/\e=.ref a/\ρ'[n]?=yz a/\S'[n]?=yz Qq3/\SR X.K QV1 ρ' S' H'/\Stp X.K ρ ρ' H H'/\Fly X pc H' a s'.heap
theorem OkP(X:Cx)(pc:LA)(σ:L2.St)(ρ:LR)(H:Hp)(r:R D)(u:Vb)(s':Vc):Prop:=∃d S',r=.ok d S'/\EPd X pc σ ρ H d S' u s'
theorem ExP(X:Cx)(pc:LA)(σ:L2.St)(ρ:LR)(H:Hp){α:Type}(r:R α)(e:Vb)(s':Vc):Prop:=∃n S',r=.ex n S'/\XPd X pc σ ρ H n S' e s'
theorem DE(X:Cx)(e:Expr)(f:En->Sto->R D):Prop:=
 ∀(pc:LA) (s:Vc) (σ:L2.St) (H:Hp) (ρ:LR) (S:Sto) (env:En),S0 X pc σ H s ρ S env->f env S≠.bad ->
  Vg Q2 X.A Qh3 (OkP X pc σ ρ H Qa0) Qf4 s
theorem DT(X:Cx)(e:Expr)(f:En->Sto->R Bool):Prop:=
 ∀(pc:LA) (s:Vc) (σ:L2.St) (H:Hp) (ρ:LR) (S:Sto) (env:En),S0 X pc σ H s ρ S env->f env S≠.bad ->
  Vg Q2 X.A QvB Qt2 Qf4 s
section
variable{X:Cx}{pc:LA}{σ:L2.St}{H:Hp}{s:Vc}{ρ:LR}{S S':Sto}{env:En}{e:Expr}{f:En->Sto->R D}{g:En->Sto->R Bool}{Q:VP}{E:VP}
def DE.ok(h:DE X e f)(I:S0 X pc σ H s ρ S env)(r:f env S=.ok d S')(hQ:∀u s' v H' ρ',S0 X pc σ H' s' ρ' S' env->RelV v u->RD X.K ρ' H' d v->Stp X.K ρ ρ' H H'->Q u s'):
  Vg Q2 X.A Qh3 Q E s:=by
 let B:f env S≠.bad:=by rw[r];exact λz=>nomatch z
 exact Vp QfH Qm6 λx s' q=>?_;·let⟨d',S1,e1,v,H',ρ',J,rv,L,sr,st⟩:=q;rw[r]at e1;cases e1;exact hQ u s' v H' ρ' QbA rv L st
 ·let⟨n,S1,e1,_⟩:=q;rw[r]at e1;cases e1
def DE.ex(h:DE X e f)(I:S0 X pc σ H s ρ S env)(r:f env S=.ex n S')(B:∀x s',XPd X pc σ ρ H n S' x s'->E x s'):
  Vg Q2 X.A Qh3 Q E s:=by
 let L:f env S≠.bad:=by rw[r];exact λz=>nomatch z
 exact Vp QP5 Qm6 λx s' q=>?_;·let⟨d',S1,e1,_⟩:=q;rw[r]at e1;cases e1
 ·let⟨m,S1,e1,q⟩:=q;rw[r]at e1;cases e1;calc B x s' q
def DT.ok{Q:Bool->Vc->Prop}{b:Bool}(h:DT X e g)(I:S0 X pc σ H s ρ S env)(r:g env S=.ok b S')(B:∀s' H' ρ',S0 X pc σ H' s' ρ' S' env->Stp X.K ρ ρ' H H'->Q b s'):
  Vg Q2 X.A QvB Q E s:=by
 let L:g env S≠.bad:=by rw[r];exact λz=>nomatch z
 exact Vp QP5 Qm6 λx s' q=>?_;·let⟨S1,e1,H',ρ',J,sr,st⟩:=q;rw[r]at e1;cases e1;exact B s' H' ρ' QbA st
 ·let⟨n,S1,e1,_⟩:=q;rw[r]at e1;cases e1
def DT.ex{Q:Bool->Vc->Prop}{n:Nat}(h:DT X e g)(I:S0 X pc σ H s ρ S env)(r:g env S=.ex n S')(B:∀x s',XPd X pc σ ρ H n S' x s'->E x s'):
  Vg Q2 X.A QvB Q E s:=by
 let L:g env S≠.bad:=by rw[r];exact λz=>nomatch z
 exact Vp QP5 Qm6 λx s' q=>?_;·let⟨S1,e1,_⟩:=q;rw[r]at e1;cases e1
 ·let⟨m,S1,e1,q⟩:=q;rw[r]at e1;cases e1;calc B x s' q
def XPd.pre(st:Stp X.K ρ ρ' H H')(h:XPd X pc σ ρ' H' n S' x s'):XPd X pc σ ρ H n S' x s':=by let⟨H2,ρ2,a,c,J,e,hn,hc,sr,st2,fl⟩:=h;calc⟨H2,ρ2,a,c,J,e,hn,hc,sr,st.trans st2,fl⟩
def ExP.mk{α:Type}(st:Stp X.K ρ ρ' H H')(h:XPd X pc σ ρ' H' n S' x s'):ExP X pc σ ρ H (.ex n S':R α) x s':=⟨n,S',rfl,h.pre st⟩
def OkP.mk(st:Stp X.K ρ ρ' H H')(J:Inv X pc σ H' s')(B:RelV v u)(L:RD X.K ρ' H' d v)(sr:SR X.K QV1 ρ' S' H'):OkP X pc σ ρ H QmP u s':=
 ⟨d,S',rfl,v,H',ρ',J,B,L,sr,st⟩
def OkP.pre(st:Stp X.K ρ ρ' H H')(h:OkP X pc σ ρ' H' r u s'):OkP X pc σ ρ H r u s':=by let⟨d,S1,e,v,H2,B,J,rv,rd,sr,L⟩:=h;calc⟨d,S1,e,v,H2,B,J,rv,rd,sr,st.trans L⟩
def ExP.pre{α:Type}{ρ':LR}{H':Hp}{r:R α}{x:Vb}{s':Vc}(st:Stp X.K ρ ρ' H H')(h:ExP X pc σ ρ' H' r x s'):ExP X pc σ ρ H r x s':=by let⟨n,S1,e,q⟩:=h;calc⟨n,S1,e,q.pre st⟩
def DE.bind{α:Type}(h:DE X e f)(I:S0 X pc σ H s ρ S env){k:D->Sto->R α}(L:Qa0.bind k≠.bad){r:R α}(B:r=Qa0.bind k)
  (hQ:∀d S1 u s' v H' ρ',r=k d S1->k d S1≠.bad->S0 X pc σ H' s' ρ' S1 env->RelV v u->RD X.K ρ' H' d v->Stp X.K ρ ρ' H H'->Q u s') (hE:∀x s',ExP X pc σ ρ H r x s'->E x s'):
  Vg Q2 X.A Qh3 Q E s:=by
 cases q:f env S with
 |bad=>rw[q]at L;cases L rfl|ex n S1=>rw[q]at B;calc h.ex I q λx s' z=>hE x s' QLJ|ok d S1=>rw[q]at B L;calc h.ok I q λu s' v H' ρ' J rv rd st=>hQ d S1 u s' v H' ρ' B L J rv rd st
universe e
def Xi7:big<=V7:=by rw[Va6];decide
def Xbi(h:n<=big):n<=V7:=V2 h Xi7
abbrev tst(r:R D):R Bool:=r.bind λx S=>match X2 S x with
 |some b=>.ok b S|none=>.bad
section
variable{X:Cx}{pc:LA}{σ:L2.St}{H:Hp}{s:Vc}{ρ:LR}{S S':Sto}{env:En}{e a b c:Expr}{f fa fb fc:En->Sto->R D}{Q:VP}{E:VP}{pos:Pos}
def opd{f:Vb->Vb->Sem Vb}(L:OpR QX4 f r)(I:Inv X pc σ H s)(B:RelV x v)(ry:RelV y u)(h:r x y H Q')
  (hQ:∀w s' z H',Inv X pc σ H' s'->RelV z w->Q' z H'->Q w s'):Vg Q2 X.A QfR Q E s:=
 thn (L pc s σ H x y v u Q' Q7J B ry h) λw s' Qy9=>hQ w s' z H' J.unwish rz q
def ped(B:PE QX4 e t)(I:Inv X pc σ H s)(h:t σ H Q')(L:∀w s' z H',Inv X pc σ H' s'->RelV z w->Q' z H'->Q w s'):Vg Q2 X.A Qh3 Q E s:=
 thn (B pc s σ H Q' Q7J h) λw s' Qy9=>L w s' z H' J.unwish rz q
def Xg3{f:Vb}{r:LW->Hp->VK->Prop}{xs:LW}{us:LV}{Q':VK}(L:Xgy QX4 f r)(I:Inv X pc σ H s)(B:Vals xs us)(h:r xs H Q')
  (hQ:∀w s' z H',Inv X pc σ H' s'->RelV z w->Q' z H'->Q w s'):Vg Q2 X.A QGN Q E s:=
 thn (L pc s σ H xs us Q' Q7J B h) λw s' Qy9=>hQ w s' z H' J.unwish rz q
def mtd{id:String}{r:V->LW->Hp->VK->Prop}{x:V}{xs:LW}{v:Vb}{us:LV}{Q':VK}(L:MtM QX4 id r)(I:Inv X pc σ H s)(B:RelV x v)(rs:Vals xs us)(h:r x xs H Q')
  (hQ:∀w s' z H',Inv X pc σ H' s'->RelV z w->Q' z H'->Q w s'):Vg Q2 X.A QFO Q E s:=
 thn (L pc s σ H x xs v us Q' Q7J B rs h) λw s' Qy9=>hQ w s' z H' J.unwish rz q
def S0.list(I:S0 X pc σ H s ρ S env)(h:Xl S n=yz xs):∃a vs,ρ[n]?=yz a/\H a=yz QE3/\RDs X.K ρ H xs vs:=by
 unfold Xl at h;cases e:S[n]? with
 |none=>rw[e]at h;cases h|some o=>
  rw[e]at h;cases o with
  |lst ys=>cases h;let⟨a,ha,vs,B,L⟩:=I.sr.adr e;calc⟨a,vs,ha,B,L⟩|_=>cases h
def S0.seq(I:S0 X pc σ H s ρ S env)(h:Xi S d=yz xs)(r:RD X.K ρ H d v):∃a vs,v=.ref a/\(SqL X.K H a vs\/SqT X.K H a vs)/\RDs X.K ρ H xs vs:=by
 cases d with
 |tup ys=>simp[Xi,Vw]at h;subst h;simp[RD]at r;let⟨a,vs,e,h1,h2⟩:=r;calc⟨a,vs,e,.inr h1,h2⟩|fro ys=>simp[Xi,Vw]at h;subst h;simp[RD]at r;let⟨a,vs,e,h1,h2⟩:=r;calc⟨a,vs,e,.inl h1.sq,h2⟩|ref n=>simp[RD]at r;let⟨a,e,h1⟩:=r;let⟨a',vs,h2,L,B⟩:=I.list (xs:=xs) (n:=n) h;rw[h1]at h2;cases h2;calc⟨a,vs,e,.inl (.of L),B⟩|_=>cases h
def S0.lsR(I:S0 X pc σ H s ρ S env)(h:lsD S d=yz xs)(r:RD X.K ρ H d v):∃a vs,v=.ref a/\SqL X.K H a vs/\RDs X.K ρ H xs vs:=by
 cases d with
 |fro ys=>cases h;simp[RD]at r;let⟨a,vs,e,h1,h2⟩:=r;calc⟨a,vs,e,h1.sq,h2⟩|ref n=>simp[RD]at r;let⟨a,e,h1⟩:=r;let⟨a',vs,h2,L,B⟩:=I.list (xs:=xs) (n:=n) h;rw[h1]at h2;cases h2;calc⟨a,vs,e,.of L,B⟩|_=>cases h
def Xb3(h:RDs X.K ρ H ds vs):QoV = !ds.isEmpty:=by let:=h.length;cases ds<;>cases vs<;>simp_all
def Xmo(I:S0 X pc σ H s ρ S env){k:Bool}{Q:Bool->Vc->Prop}(h:X2 S d=yz k)(B:RD X.K ρ H d v)(rv:RelV v u)(hQ:∀s',Inv X pc σ H s'->Q k s'):
  Vg Q2 X.A (truthy u) Q E s:=by
 let aa:X57 X.K v H k:=by
  cases d with
  |non=>simp[RD]at B;subst B;simp[X2,Vw]at h;calc h.symm|bl b=>simp[RD]at B;subst B;simp[X2,Vw]at h;calc h.symm|int i=>simp[RD]at B;subst B;simp[X2,Vw]at h;exact h.symm|str x=>
   simp[RD]at B;subst B;simp[X2]at h;split at h;·rename_i hb;exact⟨Xbi hb,QWL.symm⟩
   ·cases h|fn _ _=>cases h|edc=>cases h|tup xs=>
   simp[X2,Vw]at h;let⟨a,vs,e,h1,h2⟩:=I.seq (d:=.tup xs) rfl B;subst e;rcases h1 with h1|h1;·exact .inl Qu2
   ·exact .inr QwZ|fro xs=>
   simp[X2,Vw]at h;let⟨a,vs,e,h1,h2⟩:=I.seq (d:=.fro xs) rfl B;subst e;rcases h1 with h1|h1;·exact .inl Qu2
   ·exact .inr QwZ|ref n=>
   simp[X2]at h;cases e:S[n]? with
   |none=>rw[e]at h;cases h|some o=>
    rw[e]at h;cases o with
    |lst ys=>let⟨a,vs,h1,h2,h3⟩:=I.list (n:=n) (xs:=ys) (by unfold Xl;rw[e]);simp[RD]at B;let⟨a',e',L⟩:=B;rw[h1]at L;cases L;subst e';exact .inl ⟨vs,.of h2,by rw[Xb3 h3];calc QWL.symm⟩|_=>cases h
 calc thn (X58 (X:=X.wish E) pc s σ H v u (λk' H'=>k'=k/\H'=H) QH9 rv ⟨k,aa,rfl,rfl⟩) λb s' ⟨H',J,e1,e2⟩=>by subst e1 e2;calc hQ s' J.unwish
def DT.of(h:DE X e f)(he:∀B,isTrue e X.env B=QW3):DT X e QxN:=by
 intro pc s σ H ρ S env I L;dsimp at L |-;cases q:f env S with
 |bad=>rw[q]at L;cases L rfl|ex n S1=>exact isTrue_plain (h.ex I q λx s' z=>QJ0) Qpf|ok d S1=>
  rw[q]at L;cases t:X2 S1 d with
  |none=>simp![tst,t]at L|some k=>calc isTrue_plain (h.ok I q λu s' v H' ρ' J rv rd st=>?_) Qpf;calc Xmo J t rd rv λs2 J2=>⟨S1,by simp![tst,t],H',ρ',J2,J.sr,st⟩
def Ybq {i:Nat} (hN:X.N[i]?=yz x) (hv:Vis X.env.scope x) (hd:QB0=yw) (L:Qh4=yw):
  DE X Qs7 (λenv S=>match env[i]? with|some Q28=>.ok d S|_=>.bad):=by
 intro pc s σ H ρ S env I B;dsimp at B |-;cases q:env[i]? with
 |none=>rw[q]at B;cases B rfl|some o=>
  cases o with
  |none=>rw[q]at B;cases B rfl|some d=>let⟨v,h1,h2⟩:=I.er.val i d q;calc ped (Q':=λz H'=>z=v/\H'=H) (X51 hN hv hd L) I.inv ⟨v,h1,rfl,rfl⟩ λu s' z H' J rz QJ3=>by subst e1 e2;calc .mk .refl J rz h2 I.sr
def d_int:DE X QyL (λ_ S=>.ok QF0 S):=λpc s σ H ρ S env I _=>ped (Q':=λz H'=>z=.int i/\H'=H) X52 I.inv QD0 λu s' z H' J rz QJ3=>by subst e1 e2;calc .mk .refl J rz Qt1 I.sr
def d_bl:DE X (.Constant (.bool i) j pos) (λ_ S=>.ok (.bl i) S):=λpc s σ H ρ S env I _=>ped (Q':=λz H'=>z=.bl i/\H'=H) Ybm I.inv QD0 λu s' z H' J rz QJ3=>by subst e1 e2;calc .mk .refl J rz Qt1 I.sr
def d_non:DE X QJK (λ_ S=>.ok .non S):=λpc s σ H ρ S env I _=>ped (Q':=λz H'=>z=.non/\H'=H) X53 I.inv QD0 λu s' z H' J rz QJ3=>by subst e1 e2;calc .mk .refl J rz Qt1 I.sr
def d_str:DE X (.Constant QUd j pos) (λ_ S=>.ok QUd S):=λpc s σ H ρ S env I _=>ped (Q':=λz H'=>z=.str i/\H'=H) X54 I.inv QD0 λu s' z H' J rz QJ3=>by subst e1 e2;calc .mk .refl J rz Qt1 I.sr
theorem DA(X:Cx)(es:LX)(f:En->Sto->R LD):Prop:=
 ∀(pos:Pos) (pc:LA) (s:Vc) (σ:L2.St) (H:Hp) (ρ:LR) (S:Sto) (env:En),S0 X pc σ H s ρ S env->f env S≠.bad ->
  Vg Q2 X.A QFD
   (λus s'=>∃ds S' vs H' ρ',f env S=.ok ds S'/\Inv X pc σ H' s'/\Vals vs us/\RDs X.K ρ' H' ds vs/\SR X.K QV1 ρ' S' H'/\Stp X.K ρ ρ' H H') Qf4 s
def DA.ok{es:LX}{g:En->Sto->R (LD)}{Q:LV->Vc->Prop}{ds:LD}(h:DA X es g)(I:S0 X pc σ H s ρ S env)(r:g env S=.ok ds S')
  (hQ:∀us s' vs H' ρ',S0 X pc σ H' s' ρ' S' env->Vals vs us->RDs X.K ρ' H' ds vs->Stp X.K ρ ρ' H H'->Q us s'):
  Vg Q2 X.A QFD Q E s:=by
 let B:g env S≠.bad:=by rw[r];exact λz=>nomatch z
 exact Vp (h pos pc s σ H ρ S env I B) Qm6 λx s' q=>?_;·let⟨d',S1,vs,H',ρ',e1,J,rv,L,sr,st⟩:=q;rw[r]at e1;cases e1;exact hQ u s' vs H' ρ' QbA rv L st
 ·let⟨n,S1,e1,_⟩:=q;rw[r]at e1;cases e1
def DA.ex{es:LX}{g:En->Sto->R (LD)}{Q:LV->Vc->Prop}{n:Nat}(h:DA X es g)(I:S0 X pc σ H s ρ S env)(r:g env S=.ex n S')(B:∀x s',XPd X pc σ ρ H n S' x s'->E x s'):
  Vg Q2 X.A QFD Q E s:=by
 let L:g env S≠.bad:=by rw[r];exact λz=>nomatch z
 exact Vp (h pos pc s σ H ρ S env I L) Qm6 λx s' q=>?_;·let⟨d',S1,_,_,_,e1,_⟩:=q;rw[r]at e1;cases e1
 ·let⟨m,S1,e1,q⟩:=q;rw[r]at e1;cases e1;calc B x s' q
def DA.bind{α:Type}{es:LX}{g:En->Sto->R (LD)}{Q:LV->Vc->Prop}(h:DA X es g)(I:S0 X pc σ H s ρ S env){k:LD->Sto->R α}(L:Qc5.bind k≠.bad){r:R α}(B:r=Qc5.bind k)
  (hQ:∀ds S1 us s' vs H' ρ',r=k ds S1->k ds S1≠.bad->S0 X pc σ H' s' ρ' S1 env->Vals vs us->RDs X.K ρ' H' ds vs->Stp X.K ρ ρ' H H'->Q us s') (hE:∀x s',ExP X pc σ ρ H r x s'->E x s'):
  Vg Q2 X.A QFD Q E s:=by
 cases q:g env S with
 |bad=>rw[q]at L;cases L rfl|ex n S1=>rw[q]at B;calc h.ex I q λx s' z=>hE x s' QLJ|ok d S1=>rw[q]at B L;calc h.ok I q λu s' v H' ρ' J rv rd st=>hQ d S1 u s' v H' ρ' B L J rv rd st
def X6l:DA X [] (λ_ S=>.ok [] S):=λ_ pc s σ H ρ S env I _=>Vdk ⟨[],S,[],H,ρ,rfl,I.inv,.nil,.nil,I.sr,.refl⟩
def X2p{es:LX}{g:En->Sto->R (LD)}(ha:DE X a fa)(hr:DA X es g)(hs:Ue QN7 X.env=QZ2::Ue es X.env):
  DA X QN7 (λenv S=>QC0.bind λx S=>Qc5.bind λxs S=>.ok Q4A S):=by
 intro pos pc s σ H ρ S env I nb;dsimp at nb |-;rw[hs];show Vg _ _ (spliced (QZ2::Vby pos Qv0)) _ _ s;calc Vbl (ha.bind I nb rfl (λd S1 u s1 v H1 af e1 ab I1 rv rd B=>?_) λ_ _ z=>z);rw[e1];calc hr.bind I1 ab rfl (λds S2 us s2 vs H2 ac e2 _ I2 ae aa L=>⟨d::ds,S2,v::vs,H2,ac,e2,I2.inv,.cons rv ae,.cons QxM aa,I2.sr,B.trans L⟩) λ_ _ z=>z.pre B
def Xcd(J:Inv X pc σ (upd H p (.tup vs)) s')(hp:H p=yy)(sr:SR X.K QV1 ρ S H)(B:RDs X.K ρ H xs vs):OkP X pc σ ρ H (.ok QA1 S) QX s':=by calc .mk (v:=.ref p) QYL J rfl ?_ (sr.upd hp);simp[RD];calc⟨p,vs,rfl,.of Xu,RDs.mono QYL xs vs B⟩
def Y7(J:Inv X pc σ (upd H p QE3) s')(hp:H p=yy)(sr:SR X.K QV1 ρ S H)(B:RDs X.K ρ H xs vs):OkP X pc σ ρ H (.ok Q7 QU1) QX s':=by calc .mk (v:=.ref p) (ρ':=ρ++[p]) QuJ J rfl ?_ (sr.new1 hp ⟨vs,Xu,RDs.mono QuJ xs vs B⟩);simp[RD];calc⟨p,rfl,by rw[<-sr.len];simp!⟩
def Ybr{es:LX}{x1:Nat}{g:En->Sto->R (LD)}(h:DA X es g):DE X (.Tuple es x1 pos) (λenv S=>Qc5.bind λxs S=>if QU<=big then .ok QA1 S else .bad):=by
 intro pc s σ H ρ S env I nb;dsimp at nb |-;calc wpAny_Tuple_spliced QI5;rw[e1];split at B
 ·rename_i hz;let hl:Qn2<=V7:=by rw[<-rd.length];exact Xbi hz
  rw[iP0 hz];exact⟨by rw[<-rv.length];calc hl,OkP.pre L (Xcd (I1.inv.laid (t':=s1.toks) Qd9 Qw ⟨hl,us,rv,QP2⟩) QeL I1.sr rd)⟩
 cases B rfl
def Ybs{es:LX}{g:En->Sto->R (LD)}(h:DA X es g):DE X (.List es pos) (λenv S=>Qc5.bind λxs S=>if QU<=big then .ok Q7 QU1 else .bad):=by
 intro pc s σ H ρ S env I nb;dsimp at nb |-;calc wpAny_List_spliced QI5;rw[e1];split at B
 ·rename_i hz;let hl:Qn2<=V7:=by rw[<-rd.length];exact Xbi hz
  rw[iP0 hz];exact⟨by rw[<-rv.length];calc hl,OkP.pre L (Y7 (I1.inv.laid (t':=s1.toks) Qd9 Qw ⟨hl,us,0,rv,Vm _ rfl⟩) QeL I1.sr rd)⟩
 cases B rfl
theorem Op2(X:Cx)(m:Vb->Vb->Sem Vb)(k:D->D->Sto->R D):Prop:=
 ∀(pc:LA) (s:Vc) (σ:L2.St) (H:Hp) (ρ:LR) (S:Sto) (env:En) (x y:D) (v u:V) (B L:Vb) (E:VP),S0 X pc σ H s ρ S env->k x y S≠.bad ->
  RD X.K ρ H x v->RelV v B->RD X.K ρ H y u->RelV u L->Vg Q2 X.A (m B L) (OkP X pc σ ρ H (k x y S)) E s
def two(ho:Op2 X m k)(ha:DE X a fa)(hb:DE X b fb)(I:S0 X pc σ H s ρ S env){r:R D}
  (nb:QC0.bind (λx S=>QW4.bind λy S=>k x y S)≠.bad) (hr:r=QC0.bind λx S=>QW4.bind λy S=>k x y S):
  Vg Q2 X.A QCC (λv s₁=>Vg Q2 X.A QBC (λu s₂=>Vg Q2 X.A (m v u)
   (OkP X pc σ ρ H r) Q1C s₂) Q1C s₁) Q1C s:=by
 calc ha.bind I nb hr (λx S1 v' s1 v H1 af e1 ac I1 rv rd B=>?_) λ_ _ z=>z;calc hb.bind I1 ac e1 (λy S2 u' s2 u H2 ae e2 ab I2 ru aa L=>?_) λ_ _ z=>z.pre B;subst e2;calc Vp (ho pc s2 σ H2 ae S2 env x y v u v' u' QZ0 I2 ab QxM rv aa ru) (λw s3 z=>z.pre QhY) λ_ _ z=>z.elim
abbrev opB:Bo->Operator
 |.add=>.Add|.sub=>.Sub|.mul=>.Mult|.fdiv=>.FloorDiv|.mod=>.Mod|.pow=>.Pow|.shl=>.LShift|.shr=>.RShift|.band=>.BitAnd
def Ybt(B:Op2 X QSb Qde)(ha:DE X a fa)(L:DE X b fb):DE X (.BinOp a Q5O b pos) (λenv S=>QC0.bind λx S=>QW4.bind λy S=>Xn op x y S):=
 λpc s σ H ρ S env I nb=>wpAny_BinOp (two B ha L I nb rfl)
abbrev opC:Co->CmpOp
 |.eq=>.Eq|.ne=>.NotEq|.lt=>.Lt|.le=>.LtE|.gt=>.Gt|.ge=>.GtE|.isin=>.In|.notin=>.NotIn|.is=>.Is|.isnot=>.IsNot
def Ybu(ho:Op2 X QBS QzX)(ha:DE X a fa)(hb:DE X b fb)(B:Vhk QJD b=yw):
  DE X QvF (λenv S=>QC0.bind λx S=>QW4.bind λy S=>Xk op x y S):=
 λpc s σ H ρ S env I L=>wpAny_Compare1 (two ho ha hb I L rfl) B
def Xc7(h:Xk op x y S≠.bad):∃r,Xar op x y S=yz r/\Xk op x y S=.ok QSA S:=by
 unfold Xk at h |-;cases e:Xar op x y S with
 |none=>rw[e]at h;cases h rfl|some r=>calc⟨r,rfl,rfl⟩
def Xb4(h:X2 S d=yz r):tst QaS=.ok r S:=by simp![tst,h]
def X2q{op:CmpOp}{k:D->D->Sto->R D}(hk:∀x y S d S',k x y S=.ok d S'->∃r,d=.bl r)(ho:Op2 X (Vbm op) k)(ha:DE X a fa)(hb:DE X b fb)(hm:Vhk op b=yw):
  DT X (.Compare a [op] [b] pos) (λenv S=>tst QrA):=by
 intro pc s σ H ρ S env I nb;dsimp at nb |-;let aa:QrA≠.bad:=λz=>nb Qm4;exact wpAny_isTrue_Compare1 (Vp (two ho ha hb I aa rfl) (λv s1 h1=>Vp h1 (λu s2 h2=>Vp h2 (λw s3 h3=>?_) λx s' z=>?_) λx s' z=>?_) λx s' z=>?_) hm
 ·let⟨d,S1,e,v1,H1,L,J,rv,rd,sr,st⟩:=h3;let ab:∃r,d=.bl r:=by
   cases q:fa env S with
   |bad=>rw[q]at e;cases e|ex n S1=>rw[q]at e;cases e|ok x S1=>
    rw[q]at e;simp[Rk0]at e;cases B:fb env S1 with
    |bad=>rw[B]at e;cases e|ex n S1=>rw[B]at e;cases e|ok y S2=>rw[B]at e;exact hk x y S2 d _ e
  let⟨r,rfl⟩:=ab;simp[RD]at rd;subst rd;cases rv;exact Vce ⟨S1,by rw[e];rfl,H1,L,J,sr,st⟩
 all_goals (let⟨n,S1,e,q⟩:=z;calc⟨n,S1,by rw[e];rfl,q⟩)
def X6m(ho:Op2 X QBS QzX)(L:DE X a fa)(hb:DE X b fb)(B:Vhk QJD b=yw):
  DT X QvF (λenv S=>tst (QC0.bind λx S=>QW4.bind λy S=>Xk op x y S)):=X2q (λx y S d S' e=>by
 let⟨r,_,e2⟩:=Xc7 (op:=op) (x:=x) (y:=y) (S:=S) QBG
 rw[e2]at e;cases e;calc⟨r,rfl⟩) ho L hb B
def X1k{rest:LX}(ha:DE X a fa)(hb:DE X QQG fb):DE X QhE
  (λenv S=>QC0.bind λx S=>match X2 S x with|some yx=>fb env S|some yw=>.ok x S|none=>.bad):=by
 intro pc s σ H ρ S env I nb;dsimp at nb |-;calc BoolOp_and QRD;rw[e1];cases t:X2 S1 x with
 |none=>rw[t]at B;cases B rfl|some r=>
  rw[t]at B;calc Xmo I1 t rd rv λs2 J2=>?_;cases r with
  |true=>calc Vp Qm8 Q08 λx s' z=>z.pre L|false=>calc .mk L J2 rv rd I1.sr
def X6n{rest:LX}(ha:DE X a fa)(hb:DE X QTH fb):DE X QFF
  (λenv S=>QC0.bind λx S=>match X2 S x with|some yx=>.ok x S|some yw=>fb env S|none=>.bad):=by
 intro pc s σ H ρ S env I nb;dsimp at nb |-;calc BoolOp_or QRD;rw[e1];cases t:X2 S1 x with
 |none=>rw[t]at B;cases B rfl|some r=>
  rw[t]at B;calc Xmo I1 t rd rv λs2 J2=>?_;cases r with
  |false=>calc Vp Qm8 Q08 λx s' z=>z.pre L|true=>calc .mk L J2 rv rd I1.sr
def X1l(h:DE X a f):DE X (.BoolOp op [a] pos) f:=λpc s σ H ρ S env I B=>BoolOp_one QfH
def Ybv(ha:DT X a Q96)(hv:DE X a fa):DE X QwL (λenv S=>QC0.bind λx S=>match X2 S x with|some r=>.ok Q2Q S|none=>.bad):=by
 intro pc s σ H ρ S env I nb;dsimp at nb |-;calc UnaryOp_ (hv.bind I nb rfl Qb4 λ_ _ z=>z);rw[e1];cases t:X2 S1 x with
 |none=>rw[t]at B;cases B rfl|some r=>calc not_of (Xmo I1 t rd rv λs2 J2=>.mk (v:=.bl (!r)) L J2 rfl Qt1 I1.sr)
def X6o(ha:DT X a Q96):DT X QwL (λenv S=>tst (QC0.bind λx S=>match X2 S x with|some r=>.ok Q2Q S|none=>.bad)):=by
 intro pc s σ H ρ S env I B;dsimp at B |-;cases q:fa env S with
 |bad=>rw[q]at B;cases B rfl|ex n S1=>exact isTrue_not Q15|ok x S1=>
  rw[q]at B;simp[Rk0]at B |-;cases t:X2 S1 x with
  |none=>rw[t]at B;cases B rfl|some r=>calc isTrue_not (ha.ok I QF2 λs2 H2 aa I2 L=>⟨S1,rfl,H2,aa,I2.inv,I2.sr,L⟩)
def Ybw(hc:DT X c Qu8)(ha:DE X a fa)(hb:DE X b fb):
  DE X QlO (λenv S=>QV4.bind λx S=>match X2 S x with|some yx=>fa env S|some yw=>fb env S|none=>.bad):=by
 intro pc s σ H ρ S env I B;dsimp at B |-;cases q:fc env S with
 |bad=>rw[q]at B;cases B rfl|ex n S1=>exact wpAny_IfExp QbB|ok x S1=>
  rw[q]at B;simp[Rk0]at B |-;cases t:X2 S1 x with
  |none=>rw[t]at B;cases B rfl|some r=>
   rw[t]at B;calc wpAny_IfExp QB6;cases r with
   |true=>calc Vp Qd6 Q08 λx s' z=>z.pre L|false=>calc Vp Qc6 Q08 λx s' z=>z.pre L
theorem DW(X:Cx)(e:Expr)(f:En->Sto->R Bool):Prop:=
 ∀(B:Sem Vb) (pc:LA) (s:Vc) (σ:L2.St) (H:Hp) (ρ:LR) (S:Sto) (env:En),S0 X pc σ H s ρ S env->f env S≠.bad ->
  Vg Q2 X.A (isTrue e X.env B) Qt2 Qf4 s
def DW.dt(h:DW X e g):DT X e g:=h _
def X2r(L:DT X a g):DW X (.BoolOp .And [a] pos) g:=by
 intro wh pc s σ H ρ S env I B;calc isTrue_and Q47;cases c with
 |true=>calc isTrue_and_nil z|false=>calc z
def X6p(L:DT X a g):DW X (.BoolOp .Or [a] pos) g:=by
 intro wh pc s σ H ρ S env I B;calc isTrue_or Q47;cases c with
 |false=>calc isTrue_or_nil z|true=>calc z
def Xvh{rest:LX}(ha:DT X a Q96)(hb:DW X QQG QBD):DW X QhE
  (λenv S=>tst (QC0.bind λx S=>match X2 S x with|some yx=>fb env S|some yw=>.ok x S|none=>.bad)):=by
 intro wh pc s σ H ρ S env I B;dsimp at B |-;cases q:fa env S with
 |bad=>rw[q]at B;cases B rfl|ex n S1=>exact isTrue_and Q15|ok x S1=>
  rw[q]at B;simp[Rk0]at B |-;cases t:X2 S1 x with
  |none=>rw[t]at B;cases B rfl|some r=>
   rw[t]at B;calc isTrue_and QQD;cases r with
   |true=>calc Vp QkC QP0 λx s' z=>z.pre L|false=>calc Q6D
def X1m{rest:LX}(ha:DT X a Q96)(hb:DW X QTH QBD):DW X QFF
  (λenv S=>tst (QC0.bind λx S=>match X2 S x with|some yx=>.ok x S|some yw=>fb env S|none=>.bad)):=by
 intro wh pc s σ H ρ S env I B;dsimp at B |-;cases q:fa env S with
 |bad=>rw[q]at B;cases B rfl|ex n S1=>exact isTrue_or Q15|ok x S1=>
  rw[q]at B;simp[Rk0]at B |-;cases t:X2 S1 x with
  |none=>rw[t]at B;cases B rfl|some r=>
   rw[t]at B;calc isTrue_or QQD;cases r with
   |false=>calc Vp QkC QP0 λx s' z=>z.pre L|true=>calc Q6D
universe e
universe Z
universe e
section
namespace Z
open PySem PySem.Spec PyProof.Rows L2 PySem.SeqAt
open AutoSeq1 (wpAny_loadPart')
def Ydo:fillsNumberSlot Qx3 "mul"=pure false:=
 PySem.fillsNumberSlot_seq (r:=yz (.builtin "tuple.__rmul__")) PySem.F.slot_tuple_mul.lookup Q9 QL5 Q9
def Ydp:seqRepeat? Qx3=pure (yz (.builtin "tuple.__mul__")):=by unfold seqRepeat?;rw[PySem.seqSlot_of (T:="tuple") (name:="__mul__") (id:="tuple.__mul__") PySem.F.slot_tuple_mul.lookup Q9,PySem.seqSlot_of (T:="tuple") (name:="__rmul__") (id:="tuple.__rmul__") QL5 Q9];rfl
private noncomputable abbrev Xs5(items:AV)(n:Nat)(dd:Option Addr)(sl:Array OV):Obj:={cls:=.type "tuple",dict:=dd,data:=.seq items n,slots:=sl}
def Xvi(a:Int)(t:Tok)(l:Addr)(items:AV)(n:Nat)(dd:Option Addr)(sl:Array OV):
  Meets (Vbb.«int.__rmul__» ⟨[.int a t,.ref l],[]⟩) (λ_ R s=>s.heap.get? l=yz QD8/\R (.ok (.ret Value.notImplemented)) s):=
 .of_wp λprog w A R s QIF=>by let⟨B,g,d,tk,os⟩:=s;wp_walk;calc QP6
section
variable(l:Addr)(items:AV)(n:Nat)(dd:Option Addr)(sl:Array OV)(k:Int)(u:Tok)
def Ybx:
  Meets (Vbb.«tuple.__mul__» ⟨[.ref l,.int 1 u],[]⟩) (λ_ R s=>s.heap.get? l=yz QD8/\R (.ok (.ret QhB)) s):=
 .of_wp λprog w A R s QIF=>by let⟨B,g,d,tk,os⟩:=s;let f1:=AutoSeq1.idx_int;let f2:=Vgn;wp_walk using Vcz hl;calc QP6
def Yby(B:¬ (decide Q7N||decide QBL)=yx)(h1:¬ QCL=yx)(h2:(decide Qof||items.isEmpty)=yx):
  Meets Qe8 (λ_ R s=>s.heap.get? l=yz QD8/\R QbS {s with heap:=s.heap.push {cls:=.type "tuple",data:=.seq #[]} }):=
 .of_wp λprog w A R s QIF=>by let⟨L,g,d,tk,os⟩:=s;let f1:=AutoSeq1.idx_int;let f2:=Vgn;wp_walk using Vcz hl;calc wpAny_ite_false QFN ?_;wp_walk using Vcz hl;calc QP6
def Ybz(B:¬ (decide Q7N||decide QBL)=yx)(h1:¬ QCL=yx)(h2:¬ (decide Qof||items.isEmpty)=yx)(L:¬ (items.size:Int)*k>QGV/8)
  (h4:¬ Vi3 (items.size*k)=yx) (h5:QwD.size<=V7):
  Meets Qe8 (λ_ R s=>s.heap.get? l=yz QD8/\R QbS {s with heap:=s.heap.push {cls:=.type "tuple",data:=.seq QwD} }):=
 .of_wp λprog w A R s QIF=>by let⟨hp,g,d,tk,os⟩:=s;let f1:=AutoSeq1.idx_int;let f2:=Vgn;wp_walk using Vcz hl;calc wpAny_ite_false QFN ?_;wp_walk using Vcz hl;calc wpAny_ite_false (decide_eq_false L) ?_;wp_walk using Vcz hl;calc QP6
universe e
section
variable{E:VP}{s:Vc}
def Xl2(its:LV):∀(m:Nat) (B:LV),Vh2 QD5 B.toArray QNO=(B++(Vn m its).flatten).toArray
 |0=>λB=>by simp!|m+1=>λB=>by rw[Va1,Vcy,List.append_toArray,Xl2 its m];simp![Va1]
def X2s(ht:Vdz s.heap t vs.toArray)(hv:vs≠[])(hk:-QD3<k)(ae:k<1048576)(hz:Qn2*k.toNat<=1000000)
  (h1:k=1->Q QO5 s) (h2:k≠1->Q QC {s with heap:=s.heap.push {cls:=.type "tuple",data:=.seq (Vn k.toNat vs).flatten.toArray} }):
  Vg Q6 A QkH Q E s:=by
 let⟨⟨cls,dd,data,sl⟩,B,hc,n,hd⟩:=id ht;simp at hc hd;subst hc hd;let ez:(vs.toArray.isEmpty)=false:=by cases vs with|nil=>exact aB0 rfl hv|cons _ _=>rfl
 let h0:¬ (decide Q7N||decide QBL)=true:=by simp!;lia
 let go:∀ {S:PySem.Spec},Meets (Vbb.«tuple.__mul__» ⟨[.ref t,.int k u],[]⟩) S->S A (wants Q E) s->Vg Q6 A QkH Q E s:=λg hS=>
  Vjd (T:="tuple") (U:="int") Q1 QQ6 (λs'=>typeIs_int s' k u) Ydo PySem.F.fills_int_mul PySem.F.slot_int_rmul Ydp PySem.F.slot_int_index.lookup
   (Ve8 PySem.F.slot_int_rmul (typeIs_int s k u) PySem.F.entry_int_rmul (PySem.F.args_int_rmul_2 _ _) (Xvi k u t vs.toArray n dd sl)
    ⟨B,rfl,QQ6,Ve8 PySem.F.slot_tuple_mul QQ6 PySem.F.entry_tuple_mul (PySem.F.args_tuple_mul_2 _ _) g hS⟩)
 by_cases e1:k=1;·subst e1;exact go (Ybx t vs.toArray n dd sl u) ⟨B,h1 rfl⟩
 ·let L:¬ (vs.toArray.isEmpty||k==1)=true:=by rw[ez];simpa using e1
  by_cases e0:k<=0
  ·calc go (Yby t vs.toArray n dd sl k u h0 L (by simp![e0])) Q2R;let:=h2 e1;let e2:k.toNat=0:=by lia
   rw[e2]at this;exact this
  let ef:=Xl2 vs k.toNat [];rw[List.nil_append]at ef;let hl:(Vn k.toNat vs).flatten.length=k.toNat*lg vs:=Xka vs k.toNat;let aa:Qn2*k.toNat<=V7:=V2 hz Q1;let ac:(lg vs:Int)*k<=1000000:=by
   let ab:(k.toNat:Int)=k:=by lia
   rw[<-ab,<-Int.natCast_mul];exact Int.ofNat_le.mpr hz
  calc go (Ybz t vs.toArray n dd sl k u h0 L (by rw[ez];simpa using e0) ?_ ?_ ?_) Q2R;·rw[Vo];lia
  ·rw[Vo];unfold Vi3;let:(1000000:Int)<=(V7:Int):=by decide
   intro hh;let hh:=oD0 hh;lia
  ·rw[show QvH=([]:LV).toArray from rfl,ef,Vo,hl,Nat.mul_comm];exact aa
  rw[show QvH=([]:LV).toArray from rfl,ef];calc h2 e1
universe e
universe Z
universe e
section
namespace Z
open PySem PySem.Spec PyProof.Rows L2
def Xap:∀ {ns:LI} {us:LV},Vals Q23 us->Vbv us ns
 |[],_,.nil=>.nil|n::ns,_,.cons r t=>by let⟨k,rfl⟩:=r;calc .cons n k (Xap t)
section
variable{prog:V0}{w:V9}{A:Uu}{E:VP}{s:Vc}{x y:Addr}{us vs:LV}{xs ys:LI}
def X2t:∀(xs ys:LI),xs=[]\/ys=[]->ltL xs ys=decide (lg xs<lg ys)
 |[],[]=>λ_=>rfl|[],_::_=>λ_=>rfl|_::_,[]=>λ_=>rfl|_::_,_::_=>λh=>by rcases h with h|h<;>cases h
def Xq7{P:PySem.Fin->Vc->Prop}(hx:Vdz s.heap x us.toArray)(hy:Vdz s.heap y vs.toArray)(ix:Vbv us xs)(iy:Vbv vs ys)(h:P (.done (.ret QqY)) s):
  Vg Q6 A (Vbb.«tuple.__lt__» ⟨[.ref x,.ref y],[]⟩) P E s:=by
 let⟨o1,a1,c1,n1,d1⟩:=hx;let⟨o2,a2,c2,n2,d2⟩:=hy;show Vg _ _ (isInstance Qp6 Qx3 >>= _) _ _ s;calc Va (Vfy (T:="tuple") ⟨o2,a2,c2⟩ isSubtype_tuple_tuple ?_);simp[Vc5,Vr,if_false];calc Va (wpAny_tupleItemsOf a1 d1 (Va (wpAny_tupleItemsOf a2 d2 QNY)));exact Vhr _ (λl r s'=>r.1=yy/\s'=s/\∃ps qs L B,l=L.zip B/\Vbv L ps/\Vbv B qs/\ltL ps qs=ltL xs ys/\decide (lg L<lg B)=decide QeJ) _ ?_ ?_ _ _ ⟨rfl,rfl,xs,ys,us,vs,rfl,ix,iy,rfl,rfl⟩
 ·rintro ⟨p,q⟩ l r s' ⟨hr,rfl,ps,qs,L,B,hz,i1,i2,e1,e2⟩;cases i1 with
  |nil=>simp! at hz|cons a t aa=>
   cases i2 with
   |nil=>simp! at hz|cons b u ab=>
    simp[Vgl,List.cons.injEq,Ve5]at hz;let⟨⟨rfl,rfl⟩,rfl⟩:=hz;calc Va (wpAny_eqBool_int ?_);by_cases c:a=b
    ·subst c;simp[beq_self_eq_true,Vc5,Vr,if_false];calc Vd ⟨rfl,rfl,_,_,_,_,rfl,aa,ab,?_,?_⟩;·rw[<-e1];simp![ltL]
     ·rw[<-e2];simp!
    let:Qtf=false:=by simpa using c
    rw[this];simp[Vil,if_true];let e3:ltL xs ys=decide QUe:=by rw[<-e1];simp![ltL,c]
    rw[e3]at h;exact Va (Vbz (Va (lt_int (Va (Vd QHY)))))
 ·rintro ⟨r1,r2⟩ s' ⟨hr,rfl,ps,qs,L,B,hz,i1,i2,e1,e2⟩;simp at hr;subst hr;calc Vd ?_;show P (.done (.ret (.bool (decide (us.toArray.size<vs.toArray.size))))) s';let e3:ps=[]\/qs=[]:=by
   cases i1 with
   |nil=>exact .inl rfl|cons a t aa=>
    cases i2 with
    |nil=>exact .inr rfl|cons b u ab=>simp! at hz
  rw[Vo,Vo,<-e2,i1.length,i2.length,<-X2t ps qs e3,e1];calc h
def Xq8{Q:VP}(hu:A.units<Vbt)(L:Vdz s.heap x us.toArray)(B:Vdz s.heap y vs.toArray)(ix:Vbv us xs)(iy:Vbv vs ys)(h:Q QqY s):
  Vg Q6 A (richCompare .Lt Qq6 Qp6) Q E s:=by
 let t1:s.TypeIs Qq6 "tuple":=let ⟨o,a,c,_⟩:=L;QrO
 let t2:s.TypeIs Qp6 "tuple":=let ⟨o,a,c,_⟩:=B;QrO
 calc wpAny_richCompare_same_room (op:=.Lt) t1 t2 Vh5 (Us Vh5 t1 F.entry_tuple_lt (Xq7 L B ix iy ⟨_,rfl,(λe=>nomatch e),h⟩) Q0K) hu
def Xnp{b:Bool}{Q:Bool->Vc->Prop}(hu:A.units<Vbt)(B:Vdz s.heap x us.toArray)(L:Vdz s.heap y vs.toArray)(ix:Vbv us xs)(iy:Vbv vs ys)(h:Q QgG s):
  Vg Q6 A (oneLt' b Qq6 Qp6) Q E s:=by
 let t1:s.TypeIs Qq6 "tuple":=let ⟨o,a,c,_⟩:=B;QrO
 rw[oneLt'_eq];cases b with
 |false=>simp[Vr,if_false];calc Va (Xq8 hu B L ix iy (Vce h))|true=>simp[if_true];calc Va (wpAny_cRoomFor hu (Va (wpAny_callSpecialIfBound?_slot t1 Vh5 (Us Vh5 t1 F.entry_tuple_lt (Xq7 B L ix iy Qn5) Q0K))));calc Vce h
universe e
section
variable{X:Cx}{pc:LA}{σ:L2.St}{H:Hp}{s:Vc}{ρ:LR}{S:Sto}{env:En}{Q:VP}{E:VP}
theorem Off(K:Vh)(H:Hp)(b:Addr):Prop:=(∃w,H b=yz w)\/∃o,K.lookup b=yz o/\o.cls=.type "list"
def Xi8{a:Addr}(L:ObjOk P w H s.heap a Qs6):∃as,Reads s.heap Q40 QtP as/\∀b∈as,b=a:=by
 let⟨_,_,vs,r,ob,es,ep,ho,hx,hd,hh⟩:=L;cases r;let B:es.toList=[]:=by
  let z:=hh.2.1;cases q:es.toList with
  |nil=>rfl|cons x r=>rw[q]at z;cases z
 calc⟨_,.dict (kvs:=[]) (as:=[]) (bs:=[]) ho hx.1 hd ?_ ?_,λb hb=>QTZ.elim id Qb3⟩;·rw[B];exact .nil
 ·rw[B];calc .nil
mutual
def Xq9(I:S0 X pc σ H s ρ S env)(hl:∀n p a,look n=yz p->ρ[n]?=yz a->∃as,Reads s.heap Q40 p as/\∀b∈as,Off X.K H b):
  ∀(d:D) (v:V) (u:Vb) (p:Vcc),Yc look d=yz p->RD X.K ρ H d v->RelV v u->∃as,Reads s.heap u p as/\∀b∈as,Off X.K H b
 |.non=>λv u p h B L=>by simp[Yc,Vw]at h;simp[RD]at B;subst h B;cases L;exact⟨_,.none,λ_ z=>nomatch z⟩|.bl b=>λv u p h B L=>by simp[Yc,Vw]at h;simp[RD]at B;subst h B;cases L;exact⟨_,.bool b,λ_ z=>nomatch z⟩|.int i=>λv u p h B L=>by simp[Yc,Vw]at h;simp[RD]at B;subst h B;let⟨t,rfl⟩:=L;exact⟨_,.int i t,λ_ z=>nomatch z⟩|.str i=>λv u p h B L=>by simp[Yc,Vw]at h;simp[RD]at B;subst h B;let⟨t,rfl⟩:=L;exact⟨_,.str i t,λ_ z=>nomatch z⟩|.fro xs=>λv u p h B L=>by
  simp[Yc]at h;cases e:datFs look xs with
  |none=>rw[e]at h;cases h|some ps=>
   rw[e]at h;cases h;simp[RD]at B;let⟨a,vs,rfl,hf,hs⟩:=B;cases L;let⟨its,r,⟨o,n,ho,hc,_,hd⟩,hz⟩:=I.inv.list hf.sq;let⟨as,q,qm⟩:=reads_Fs I hl xs vs its ps e hs r;calc⟨_,.list ho hc hd QT,λb hb=>QTZ.elim (λz=>z▸?_) Qef⟩;rcases hf with⟨_,hf⟩|⟨o',_,_,k1,k2,_⟩;·exact .inl Q0R
   ·calc .inr ⟨o',k1,k2⟩
 |.edc=>λv u p h B L=>by cases h;simp[RD]at B;let⟨a,o,rfl,hf⟩:=B;cases L;let⟨as,q,qm⟩:=Xi8 (show ObjOk X.prog X.w H s.heap a QxW from I.inv.hok a _ hf).2;exact⟨as,q,λb hb=>.inl (qm b hb▸Q0R)⟩|.fn _ _=>λv u p h B L=>by cases h|.tup xs=>λv u p h B L=>by
  simp[Yc]at h;cases e:datFs look xs with
  |none=>rw[e]at h;cases h|some ps=>rw[e]at h;cases h;simp[RD]at B;let⟨a,vs,rfl,ht,hs⟩:=B;cases L;let⟨its,r,⟨o,ho,hc,n,hd⟩,hz⟩:=I.inv.tuple ht;let⟨as,q,qm⟩:=reads_Fs I hl xs vs its ps e hs r;calc⟨_,.tuple ho hc hd QT,qm⟩
 |.ref n=>λv u p h B L=>by simp[Yc]at h;simp[RD]at B;let⟨a,rfl,ha⟩:=B;cases L;exact hl n p a h ha
def reads_Fs(I:S0 X pc σ H s ρ S env)(hl:∀n p a,look n=yz p->ρ[n]?=yz a->∃as,Reads s.heap Q40 p as/\∀b∈as,Off X.K H b):
  ∀(ds:LD) (vs:LW) (us:LV) (ps:List Vcc),datFs look ds=yz ps->RDs X.K ρ H ds vs->Vals vs us->∃as,ReadsAll s.heap us ps as/\∀b∈as,Off X.K H b
 |[]=>λvs us ps h B rv=>by simp[datFs,Vw]at h;simp[RDs]at B;subst h B;cases rv;exact⟨_,.nil,λ_ z=>nomatch z⟩|d::ds=>λvs us ps h B rv=>by
  simp[datFs]at h;simp[RDs]at B;let⟨v,r,rfl,h1,h2⟩:=B;cases e1:Yc look d with
  |none=>rw[e1]at h;cases h|some p=>
   cases e2:datFs look ds with
   |none=>rw[e1,e2]at h;cases h|some ab=>
    rw[e1,e2]at h;cases h;cases rv with
    |cons ru L=>let⟨as,q,qm⟩:=Xq9 I hl d v _ p e1 h1 ru;let⟨bs,q2,aa⟩:=reads_Fs I hl ds r _ ab e2 h2 L;exact⟨_,.cons q q2,λb hb=>(Uo.mp hb).elim Qef (aa b)⟩
end
def Xra(I:S0 X pc σ H s ρ S env):∀(k n:Nat) (p:Vcc) (a:Addr),Xb0 S k n=yz p->ρ[n]?=yz a->∃as,Reads s.heap Q40 p as/\∀b∈as,Off X.K H b
 |0=>λn p a h ha=>by simp[Xb0]at h;cases h|k+1=>λn p a h ha=>by
  simp[Xb0]at h;cases e:S[n]? with
  |none=>rw[e]at h;cases h|some o=>
   rw[e]at h;let q:=I.sr.ob n a o ha e;cases o with
   |lst xs=>
    dsimp at h;cases e2:datFs QDb xs with
    |none=>rw[e2]at h;cases h|some ps=>rw[e2]at h;cases h;let⟨vs,B,hr⟩:=q;let⟨_,its,n',r,ho⟩:=I.inv.hok a _ B;let⟨as,z,zm⟩:=reads_Fs I (Xra I k) xs vs its ps e2 hr r;calc⟨_,.list ho rfl rfl QVQ,λb L=>QKb.elim (λq=>.inl (q▸QtT)) (zm b)⟩
   |dct kvs=>
    rcases q with⟨rfl,B⟩|⟨h0,_⟩
    case inr=>
     cases kvs with
     |nil=>cases h0 rfl|cons _ _=>cases h
    cases h;let⟨as,q,qm⟩:=Xi8 (I.inv.hok a _ B);calc⟨as,q,λb L=>.inl (qm b L▸QtT)⟩|_=>cases h
def Xnq(I:S0 X pc σ H s ρ S env)(h:Yp S d=yz p)(L:RD X.K ρ H d v)(B:RelV v u):∃as,Reads s.heap u p as/\∀b∈as,Off X.K H b:=
 Xq9 I (Xra I 4) d v u p h L B
def Xax(I:S0 X pc σ H s ρ S env)(h:Yp S d=yz p)(L:RD X.K ρ H d v)(B:RelV v u):∃as,Reads s.heap u p as:=
 let ⟨as,r,_⟩:=Xnq I h L B
 ⟨as,r⟩
def Xvj (I:S0 X pc σ H s ρ S env) (B:∃o,X.K.lookup Vci=yz o/\o.cls≠.type "list") (h:Yp S d=yz p) (rd:RD X.K ρ H d v) (rv:RelV v u):∃as,Reads s.heap u p as/\Vci ∉ as:=by
 let⟨as,r,hm⟩:=Xnq I h rd rv;calc⟨as,r,λhb=>?_⟩;let⟨o,L,hc⟩:=B;rcases hm _ hb with⟨w,hw⟩|⟨o',k1,k2⟩;·let:=(I.inv.bs _ _ (I.inv.mod.kin _ _ L)).2;rw[hw]at this;cases this
 ·rw[L]at k1;cases k1;calc hc k2
def Xd(sr:SR X.K QV1 ρ S H)(J:Inv X pc σ H s'):OkP X pc σ ρ H (.ok QSA S) Q3c s':=.mk (v:=.bl r) .refl J rfl Qt1 sr
def Y9(sr:SR X.K QV1 ρ S H)(J:Inv X pc σ H s'):OkP X pc σ ρ H (.ok QF0 S) QoP s':=.mk (v:=.int i) .refl J QS Qt1 sr
def Xi9(sr:SR X.K QV1 ρ S H)(J:Inv X pc σ H s'):OkP X pc σ ρ H (.ok Q3K S) (.str x t) s':=.mk (v:=.str x) .refl J QS Qt1 sr
def Xyq(h:(a&&b&&c)=yx):a=yx/\b=yx/\c=true:=by rw[bA0,bA0]at h;calc QbM
def Xl3(h:Xd4 x y=yz r):∃a b,x=.str a/\y=.str b/\r=QCG:=by
 cases x with
 |str a=>cases y with
  |str b=>calc⟨a,b,rfl,rfl,QWL.symm⟩|_=>cases h
 |_=>cases h
def Xvk(h:Xib S x y=yz r):∃xs ys,lsD S x=yz xs/\lsD S y=yz ys/\QU≠lg ys/\r=false:=by
 unfold Xib at h;cases e1:lsD S x with
 |none=>rw[e1]at h;cases h|some xs=>
  cases e2:lsD S y with
  |none=>rw[e1,e2]at h;cases h|some ys=>
   rw[e1,e2]at h;dsimp at h;split at h;·cases h
   ·cases h;calc⟨xs,ys,rfl,rfl,by assumption,rfl⟩
def Xnr(B:eqD S x y=yz r)(hn:Xd4 x y=yy):(∃p q,Yp S x=yz p/\Yp S y=yz q/\p.canLay0=yx/\q.canLay0=yx/\p.depth<=60/\r=Vdg p q)\/Xib S x y=yz r:=by
 let h:=B;unfold eqD at h;rw[hn]at h;dsimp at h;cases e1:Yp S x with
 |none=>rw[e1]at h;exact .inr h|some p=>
  cases e2:Yp S y with
  |none=>rw[e1,e2]at h;exact .inr h|some q=>
   rw[e1,e2]at h;dsimp at h;split at h;·rename_i L;let⟨h1,h2,h3⟩:=Xyq L;exact .inl ⟨p,q,rfl,rfl,h1,h2,oD0 h3,QWL.symm⟩
   ·calc .inr h
def S0.lstM(I:S0 X pc σ H s ρ S env)(h:lstM S n=yz xs):∃a vs,ρ[n]?=yz a/\H a=yz QE3/\RDs X.K ρ H xs vs:=I.list h
def S0.lstR(I:S0 X pc σ H s ρ S env)(h:Z.lstM S n=yz xs)(r:RD X.K ρ H QQ1 v):∃a vs,v=.ref a/\ρ[n]?=yz a/\H a=yz QE3/\RDs X.K ρ H xs vs:=by simp[RD]at r;let⟨a,e,h1⟩:=r;let⟨a',vs,h2,L,B⟩:=I.lstM h;rw[h1]at h2;cases h2;calc⟨a,vs,e,h1,L,B⟩
def Xns(I:S0 X pc σ H s ρ S env)(h:Xib S x y=yz r)(rx:RD X.K ρ H x v)(rv:RelV v u)(ry:RD X.K ρ H y v')(ru:RelV v' u'):
  r=yw/\∃a b its its',u=.ref a/\u'=.ref b/\s.heap.IsList a its/\s.heap.IsList b its'/\(its.size != its'.size)=true:=by
 let⟨xs,ys,h1,h2,aa,rfl⟩:=Xvk h;let⟨a,vs,rfl,B,ra⟩:=I.lsR h1 rx;let⟨b,us,rfl,L,rb⟩:=I.lsR h2 ry;cases rv;cases ru;let⟨i1,q1,p1,_⟩:=I.inv.list B;let⟨i2,q2,p2,_⟩:=I.inv.list L;calc⟨rfl,a,b,i1.toArray,i2.toArray,rfl,rfl,p1.isList,p2.isList,?_⟩;let e1:(lg i1)=lg xs:=by rw[ra.length];exact q1.length.symm
 let e2:(lg i2)=lg ys:=by rw[rb.length];exact q2.length.symm
 simp[Vo,bne_iff_ne,ne_eq];omega
def Ydq(hu:X.A.units+200<Vbt):Op2 X (Vbm .Eq) (Xk .eq):=by
 intro pc s σ H ρ S env x y v u v' u' E I nb B rv L ru;let⟨r,e,e2⟩:=Xc7 nb;rw[e2];cases hn:Xd4 x y with
 |some r'=>
  let⟨a,b,rfl,rfl,hr⟩:=Xl3 hn;let er:r=r':=by let e':eqD S QWd QVd=yz r:=e;unfold eqD at e';rw[hn]at e';exact QCf.symm
  subst er hr;simp[RD]at B L;subst B L;let⟨t,rfl⟩:=rv;let⟨t',rfl⟩:=ru;exact PySem.P.eq_str QH|none=>
 rcases Xnr e hn with⟨p,q,h1,h2,h3,h4,h5,rfl⟩|hl
 rotate_left
 ·let⟨rfl,a,b,i1,i2,rfl,rfl,l1,l2,l3⟩:=Xns I hl B rv L ru;exact SeqAt.RcAt.lists_lengths l1 l2 l3 Q0 X.prog X.w E _ QH
 let⟨as,ra⟩:=Xax I h1 B rv;let⟨bs,rb⟩:=Xax I h2 L ru;calc SeqAt.rcAt_reads ra rb h3 h4 Q0 X.prog X.w E _ QH
def Ydr(hu:X.A.units+200<Vbt):Op2 X (Vbm .NotEq) (Xk .ne):=by
 intro pc s σ H ρ S env x y v u v' u' E I nb L rv B ru;let⟨r,e,e2⟩:=Xc7 nb;rw[e2];simp[Xar,Uh]at e;let⟨r',e,rfl⟩:=e;cases hn:Xd4 x y with
 |some r2=>
  let⟨a,b,rfl,rfl,hr⟩:=Xl3 hn;let er:r'=r2:=by let e':eqD S QWd QVd=yz r':=e;unfold eqD at e';rw[hn]at e';exact QCf.symm
  subst er hr;simp[RD]at L B;subst L B;let⟨t,rfl⟩:=rv;let⟨t',rfl⟩:=ru;exact PySem.P.ne_str QH|none=>
 rcases Xnr e hn with⟨p,q,h1,h2,h3,h4,h5,rfl⟩|hl
 rotate_left
 ·let⟨rfl,a,b,i1,i2,rfl,rfl,l1,l2,l3⟩:=Xns I hl L rv B ru;exact SeqAt.RcNeAt.lists_lengths l1 l2 l3 Q0 X.prog X.w E _ QH
 let⟨as,ra⟩:=Xax I h1 L rv;let⟨bs,rb⟩:=Xax I h2 B ru;calc SeqAt.rcNeAt_reads ra rb h3 h4 Q0 X.prog X.w E _ QH
def Xnt(h:inD S x y=yz r):∃p qs,Yp S x=yz p/\(Yp S y=yz QrZ\/Yp S y=yz QjY)/\p.canLay0=yx/\Vfj qs=yx/\p.depth<=60/\r=qs.any λq=>Vdg q p:=by
 unfold inD at h;cases e1:Yp S x with
 |none=>rw[e1]at h;cases h|some p=>
  cases e2:Yp S y with
  |none=>rw[e1,e2]at h;cases h|some q=>
   rw[e1,e2]at h;cases q with
   |list qs=>
    dsimp at h;split at h;·rename_i L;let⟨h1,h2,B⟩:=Xyq L;exact⟨p,qs,rfl,.inl rfl,h1,h2,oD0 B,QWL.symm⟩
    ·cases h|tuple qs=>
    dsimp at h;split at h;·rename_i L;let⟨h1,h2,B⟩:=Xyq L;exact⟨p,qs,rfl,.inr rfl,h1,h2,oD0 B,QWL.symm⟩
    ·cases h|none=>cases h|bool _=>cases h|int _=>cases h|str _=>cases h|dict _=>cases h
def Yds(hu:X.A.units+200<Vbt):Op2 X (Vbm .In) (Xk .isin):=by
 intro pc s σ H ρ S env x y v u v' u' E I nb rx rv ry ru;let⟨r,e,e2⟩:=Xc7 nb;rw[e2];let⟨p,qs,h1,h2,h3,h4,h5,rfl⟩:=Xnt e;let⟨as,L⟩:=Xax I h1 rx rv;rcases h2 with h2|h2;·let⟨bs,B⟩:=Xax I h2 ry ru;exact SeqAt.in_list_reads B L h4 h3 Q0 QH
 ·let⟨bs,B⟩:=Xax I h2 ry ru;calc SeqAt.in_tuple_reads B L h4 h3 Q0 QH
def X2u(hu:X.A.units+200<Vbt):Op2 X (Vbm .NotIn) (Xk .notin):=by
 intro pc s σ H ρ S env x y v u v' u' E I nb rx rv ry ru;let⟨r,e,e2⟩:=Xc7 nb;rw[e2];simp[Xar,Uh]at e;let⟨r',e,rfl⟩:=e;let⟨p,qs,h1,h2,h3,h4,h5,rfl⟩:=Xnt e;let⟨as,L⟩:=Xax I h1 rx rv;rcases h2 with h2|h2;·let⟨bs,B⟩:=Xax I h2 ry ru;exact SeqAt.notIn_list_reads B L h4 h3 Q0 QH
 ·let⟨bs,B⟩:=Xax I h2 ry ru;calc SeqAt.notIn_tuple_reads B L h4 h3 Q0 QH
def Xas{f:D->D->Sto->R D}{q:Vb->Vb->Sem Vb}(hf:∀x y S,f x y S≠.bad->∃i j,x=.int i/\y=.int j)
  (hi:∀ {pc s σ H ρ S env i j t t' E},S0 X pc σ H s ρ S env->f QF0 Qz2 S≠.bad->Vg Q2 X.A (q QoP (.int j t')) (OkP X pc σ ρ H (f QF0 Qz2 S)) E s):Op2 X q f:=by
 intro pc s σ H ρ S env x y v u v' u' E I L rx rv B ru;let⟨i,j,rfl,rfl⟩:=hf x y S L;simp[RD]at rx B;subst rx B;let⟨t,rfl⟩:=rv;let⟨t',rfl⟩:=ru;calc hi I L
def Ydt:Op2 X (Vbm .LtE) (Xk .le):=Xas QL λI B=>le_int QH
def Ydu:Op2 X (Vbm .GtE) (Xk .ge):=Xas QL λI B=>ge_int QH
def Yr:∀ {xs:LD} {ns:LI},Xf xs=yz ns->xs=ns.map D.int
 |[],ns,h=>by simp[Xf,Vw]at h;subst h;rfl|.int i::r,ns,h=>by simp[Xf,Uh]at h;let⟨ms,h1,rfl⟩:=h;rw[Yr h1];rfl|.non::_,_,h=>by simp![Xf]at h|.bl _::_,_,h=>by simp![Xf]at h|.str _::_,_,h=>by simp![Xf]at h|.tup _::_,_,h=>by simp![Xf]at h|.ref _::_,_,h=>by simp![Xf]at h|.fro _::_,_,h=>by simp![Xf]at h
def Ydv(hu:X.A.units+200<Vbt):Op2 X (Vbm .Lt) (Xk .lt):=by
 intro pc s σ H ρ S env x y v u v' u' E I B rx rv L ru;cases x with
 |int i=>cases y with
  |int j=>simp[RD]at rx L;subst rx L;let⟨t,rfl⟩:=rv;let⟨t',rfl⟩:=ru;calc lt_int QH|_=>cases B rfl
 |tup xs=>cases y with
  |tup ys=>
   simp[Xk,Xar,ltD]at B |-;cases e1:Xf xs with
   |none=>rw[e1]at B;cases B rfl|some a=>
    cases e2:Xf ys with
    |none=>rw[e1,e2]at B;cases B rfl|some b=>let q1:=Yr e1;let q2:=Yr e2;subst q1;subst q2;simp[RD]at rx L;let⟨b1,ah,rfl,ab,ac⟩:=rx;let⟨b2,ak,rfl,aa,ae⟩:=L;let af:=ac.ints_of;let ag:=ae.ints_of;subst af;subst ag;cases rv;cases ru;let⟨ai,u1,u2,_⟩:=I.inv.tuple ab;let⟨aj,u3,u4,_⟩:=I.inv.tuple aa;calc Xq8 Q0 u2 u4 (Xap u1) (Xap u3) QH
  |_=>cases B rfl
 |_=>cases B rfl
def Ydw(hu:X.A.units+200<Vbt):Op2 X (Vbm .Gt) (Xk .gt):=by
 intro pc s σ H ρ S env x y v u v' u' E I B L rv ry ru;cases x with
 |int i=>cases y with
  |int j=>simp[RD]at L ry;subst L ry;let⟨t,rfl⟩:=rv;let⟨t',rfl⟩:=ru;calc gt_int QH|_=>cases B rfl
 |_=>cases B rfl
def Ydx:Op2 X (Vbm .Is) (Xk .is):=by
 intro pc s σ H ρ S env x y v u v' u' E I nb B L ry ru;cases y with
 |non=>
  simp[RD]at ry;subst ry;cases ru;cases x with
  |non=>simp[RD]at B;subst B;cases L;calc Vaz rfl QH|bl b=>simp[RD]at B;subst B;cases L;calc Vaz rfl QH|int b=>simp[RD]at B;subst B;let⟨t,rfl⟩:=L;calc Vaz rfl QH|str b=>simp[RD]at B;subst B;let⟨t,rfl⟩:=L;calc Vaz rfl QH|tup b=>simp[RD]at B;let⟨a,_,rfl,_⟩:=B;cases L;calc Vaz rfl QH|fro b=>simp[RD]at B;let⟨a,_,rfl,_⟩:=B;cases L;calc Vaz rfl QH|ref b=>simp[RD]at B;let⟨a,rfl,_⟩:=B;cases L;calc Vaz rfl QH|fn _ _=>simp[RD]at B;let⟨a,rfl,_⟩:=B;cases L;calc Vaz rfl QH|edc=>simp[RD]at B;let⟨a,_,rfl,_⟩:=B;cases L;calc Vaz rfl QH
 |bl c=>
  simp[RD]at ry;subst ry;cases ru;cases x with
  |non=>simp[RD]at B;subst B;cases L;exact Vaz rfl QH|bl b=>
   simp[RD]at B;subst B;cases L;calc is_bool ?_;let e:(b==c)=Qsf:=by cases b<;>cases c<;>rfl
   rw[e];calc Xd I.sr I.inv|int b=>simp[RD]at B;subst B;let⟨t,rfl⟩:=L;calc Vaz rfl QH|str b=>simp[RD]at B;subst B;let⟨t,rfl⟩:=L;calc Vaz rfl QH|tup b=>simp[RD]at B;let⟨a,_,rfl,_⟩:=B;cases L;calc Vaz rfl QH|fro b=>simp[RD]at B;let⟨a,_,rfl,_⟩:=B;cases L;calc Vaz rfl QH|ref b=>simp[RD]at B;let⟨a,rfl,_⟩:=B;cases L;calc Vaz rfl QH|fn _ _=>simp[RD]at B;let⟨a,rfl,_⟩:=B;cases L;calc Vaz rfl QH|edc=>simp[RD]at B;let⟨a,_,rfl,_⟩:=B;cases L;calc Vaz rfl QH
 |_=>cases nb rfl
def X2v:Op2 X (Vbm .IsNot) (Xk .isnot):=by
 intro pc s σ H ρ S env x y v u v' u' E I nb B L ry ru;cases y with
 |non=>
  simp[RD]at ry;subst ry;cases ru;cases x with
  |non=>simp[RD]at B;subst B;cases L;calc Vaf rfl QH|bl b=>simp[RD]at B;subst B;cases L;calc Vaf rfl QH|int b=>simp[RD]at B;subst B;let⟨t,rfl⟩:=L;calc Vaf rfl QH|str b=>simp[RD]at B;subst B;let⟨t,rfl⟩:=L;calc Vaf rfl QH|tup b=>simp[RD]at B;let⟨a,_,rfl,_⟩:=B;cases L;calc Vaf rfl QH|fro b=>simp[RD]at B;let⟨a,_,rfl,_⟩:=B;cases L;calc Vaf rfl QH|ref b=>simp[RD]at B;let⟨a,rfl,_⟩:=B;cases L;calc Vaf rfl QH|fn _ _=>simp[RD]at B;let⟨a,rfl,_⟩:=B;cases L;calc Vaf rfl QH|edc=>simp[RD]at B;let⟨a,_,rfl,_⟩:=B;cases L;calc Vaf rfl QH
 |bl c=>
  simp[RD]at ry;subst ry;cases ru;cases x with
  |non=>simp[RD]at B;subst B;cases L;exact Vaf rfl QH|bl b=>
   simp[RD]at B;subst B;cases L;calc isnot_bool ?_;let e:(b != c)=Qcc:=by cases b<;>cases c<;>rfl
   rw[e];calc Xd I.sr I.inv|int b=>simp[RD]at B;subst B;let⟨t,rfl⟩:=L;calc Vaf rfl QH|str b=>simp[RD]at B;subst B;let⟨t,rfl⟩:=L;calc Vaf rfl QH|tup b=>simp[RD]at B;let⟨a,_,rfl,_⟩:=B;cases L;calc Vaf rfl QH|fro b=>simp[RD]at B;let⟨a,_,rfl,_⟩:=B;cases L;calc Vaf rfl QH|ref b=>simp[RD]at B;let⟨a,rfl,_⟩:=B;cases L;calc Vaf rfl QH|fn _ _=>simp[RD]at B;let⟨a,rfl,_⟩:=B;cases L;calc Vaf rfl QH|edc=>simp[RD]at B;let⟨a,_,rfl,_⟩:=B;cases L;calc Vaf rfl QH
 |_=>cases nb rfl
def Xg4(B:X.A.units+200<Vbt):∀op:Co,Op2 X QBS QzX
 |.eq=>Ydq B|.ne=>Ydr B|.lt=>Ydv B|.le=>Ydt|.gt=>Ydw B|.ge=>Ydu|.isin=>Yds B|.notin=>X2u B|.is=>Ydx|.isnot=>X2v
def Xyr{ws:LV}(ht:Vdz s.heap t #[])(hb:Vdz s.heap b ws.toArray)(h:Q QYd s):Vg Q6 A QtJ Q E s:=by
 let⟨⟨cls,dd,af,sl⟩,ho,hc,n,hd⟩:=id ht;let⟨⟨ae,ab,data2,ac⟩,B,aa,n2,L⟩:=id hb;simp at hc hd aa L;subst hc hd aa L;exact concat_meets QNJ QQ6 noFill_tuple_add seq_tuple_add Vhe Vg3 Q2S
   (tuple_addW0 t b #[] ws.toArray n n2 dd ab sl ac rfl) ⟨ho,B,h⟩
def Xvl{x y:D}(hx:Xn .add x y S=match lsD S x,lsD S y with
   |some x,yz y=>if Q8O+lg y<=big then .ok Q7 QVO else .bad
   |_,_=>.bad) (I:S0 X pc σ H s ρ S env) (B:Xn .add x y S≠.bad) (rx:RD X.K ρ H x v) (rv:RelV v v') (ry:RD X.K ρ H y u) (ru:RelV u u'):
  Vg Q2 X.A (Vct .Add v' u') (OkP X pc σ ρ H (Xn .add x y S)) E s:=by
 rw[hx]at B |-;cases h1:lsD S x with
 |none=>rw[h1]at B;cases B rfl|some xs=>
  cases h2:lsD S y with
  |none=>rw[h1,h2]at B;cases B rfl|some ys=>
   rw[h1,h2]at B;dsimp at B |-;split at B
   ·rename_i hz;rw[iP0 hz];let⟨a,vs,rfl,ha,ra⟩:=I.lsR h1 rx;let⟨b,us,rfl,hb,L⟩:=I.lsR h2 ry;cases rv;cases ru;let⟨i1,q1,p1,z1⟩:=I.inv.list ha;let⟨i2,q2,p2,z2⟩:=I.inv.list hb;let⟨⟨c1,d1,t1,l1⟩,o1,e1,n1,f1⟩:=p1.isList;let⟨⟨c2,d2,t2,l2⟩,o2,e2,n2,f2⟩:=p2.isList;simp at e1 f1 e2 f2;subst e1 f1 e2 f2;let hl:Qn2+lg us<=V7:=by rw[<-ra.length,<-L.length];exact Xbi hz
    let e:i1.toArray++i2.toArray=(i1++i2).toArray:=by simp!
    calc concat_meets ⟨_,o1,rfl⟩ ⟨_,o2,rfl⟩ noFill_list_add seq_list_add PySem.F.slot_list_add PySem.F.entry_list_add (PySem.F.args_list_add_2 _ _) (list_addW a b i1.toArray i2.toArray n1 n2 d1 d2 l1 l2 (by rw[Vo,Vo,<-q1.length,<-q2.length];calc hl)) ⟨o1,o2,?_⟩;rw[e];exact Y7 (I.inv.laid (t':=s.toks) Qd9 Qw ⟨by rw[Uc];calc hl,_,0,q1.append q2,Vm _ rfl⟩) Q0C I.sr (ra.append L)
   cases B rfl
def Yb0:Op2 X (Vct .Add) (Xn .add):=by
 intro pc s σ H ρ S env x y v u v' u' E I nb rx rv ry ru;cases x with
 |int i=>cases y with
  |int j=>simp[RD]at rx ry;subst rx ry;let⟨t,rfl⟩:=rv;let⟨t',rfl⟩:=ru;calc add_int QM5|_=>cases nb rfl
 |tup xs=>cases y with
  |tup ys=>
   simp[Xn]at nb |-;split at nb
   ·rename_i hz;rw[iP0 hz];let ae:=rx;let ac:=ry;simp[RD]at rx ry;let⟨a,vs,rfl,s1,r1⟩:=rx;let⟨b,us,rfl,s2,r2⟩:=ry;cases rv;cases ru;let⟨i1,q1,p1,z1⟩:=I.inv.tuple s1;let⟨i2,q2,p2,z2⟩:=I.inv.tuple s2;let B:=r1.length;let L:=r2.length;let ab:=q1.length;let aa:=q2.length;by_cases hx:xs=[]
    ·subst hx;let:vs=[]:=by simpa [RDs] using r1
     subst this;cases q1;calc Xyr p1 p2 ?_;exact .mk (v:=.ref b) .refl I.inv rfl ac I.sr
    calc HT.cat_tup p1 p2 (λz=>hx ?_) Q9R Q9R ?_;·subst z;simp! at ab;rw[ab]at B;simpa using B
    ·let:ys=[]:=by subst z;simp! at aa;rw[aa]at L;simpa using L
     subst this;rw[Vaw];exact .mk (v:=.ref a) .refl I.inv rfl ae I.sr
    ·calc Xcd (I.inv.laid (t':=s.toks) (o:=.tup QNc) Qg4 Qw ?_) Q0C I.sr (r1.append r2);exact⟨by rw[Uc,<-B,<-L];calc Xbi hz,_,q1.append q2,IsTup.new _ _⟩
    rw[<-ab,<-aa,<-B,<-L];exact Xbi hz
   cases nb rfl|_=>cases nb rfl
 |ref n=>calc Xvl rfl I nb rx rv ry ru|fro xs=>calc Xvl rfl I nb rx rv ry ru|_=>cases nb rfl
def Yb1:Op2 X (Vct .Sub) (Xn .sub):=Xas QL λI B=>sub_int QM5
def Xrb(h:i.natAbs.log2<100000):Vgb i<=2^20:=by
 unfold Vgb;split;·exact Van _
 ·omega
def Xys(h:Xbe i j=yx):IntMulOk i j:=by
 simp[Xbe,Vb7,bA0,decide_eq_true_eq]at h;rcases h with h|h;·let:CMul i j:=h;exact this.ok
 ·calc IntMulOk.of_bits (Xrb h.1) (Xrb h.2)
def Yb2:Op2 X QIY (Xn .mul):=by
 intro pc s σ H ρ S env x y v u v' u' E I B rx rv ry ru;cases x with
 |int i=>cases y with
  |int j=>
   simp[RD]at rx ry;subst rx ry;let⟨t,rfl⟩:=rv;let⟨t',rfl⟩:=ru;simp[Xn]at B |-;split at B;·rename_i hz;rw[iP0 hz];exact mul_int QM5 (Xys hz)
   ·cases B rfl|_=>cases B rfl
 |tup xs=>cases y with
  |int k=>
   simp[Xn]at B |-;split at B
   ·rename_i hz;rw[iP0 hz];let ae:=rx;simp[RD]at rx ry;subst ry;let⟨a,vs,rfl,s1,r1⟩:=rx;cases rv;let⟨t',rfl⟩:=ru;let⟨i1,q1,p1,z1⟩:=I.inv.tuple s1;let L:=r1.length;let aa:=q1.length;let ab:i1≠[]:=λz=>by
     subst z;let:xs=[]:=Vfi (by rw[L,aa];rfl);subst this;exact aB0 hz.2.2.2 QB
    exact X2s p1 ab hz.2.2.1 hz.1 (by rw[<-aa,<-L];calc hz.2.1) QAR QAR
    ·subst e;let e1:(Vn (1:Int).toNat xs).flatten=xs:=by simp!
     rw[e1];exact .mk (v:=.ref a) .refl I.inv rfl ae I.sr
    let hr:∀m:Nat,RDs X.K ρ H (Vn m xs).flatten (Vn m vs).flatten:=λm=>by
     induction m with
     |zero=>simpa using RDs.nil|succ m ih=>rw[Va1,Va1,Vcu,Vcu];exact r1.append ih
    calc Xcd (I.inv.laid (t':=s.toks) (o:=.tup QG8.flatten) Qg4 Qw ?_) Q0C I.sr (hr _);exact⟨by rw[Xka,<-L,Nat.mul_comm];calc Xbi hz.2.1,_,q1.rep _,IsTup.new _ _⟩
   cases B rfl|_=>cases B rfl
 |ref n=>cases y with
  |int k=>
   simp[Xn]at B |-;cases h1:Z.lstM S n with
   |none=>rw[h1]at B;cases B rfl|some xs=>
    rw[h1]at B;dsimp at B |-;split at B
    ·rename_i hz;rw[iP0 hz];let⟨a,vs,rfl,ha,ac,ra⟩:=I.lstR h1 rx;simp[RD]at ry;subst ry;let hr:RDs X.K ρ H QyR.flatten QG8.flatten:=by
      induction k.toNat with
      |zero=>simpa using RDs.nil|succ m ih=>rw[Va1,Va1,Vcu,Vcu];exact ra.append ih
     exact opd (Q':=λz H'=>∃p,H p=yy/\z=.ref p/\H'=upd H p (.lst QG8.flatten)) X6c I.inv rv ru
      ⟨a,k,vs,rfl,rfl,ac,by omega,by omega,by rw[<-ra.length];calc Xbi hz.2.1,λp hp=>⟨p,hp,rfl,rfl⟩⟩
      λw s' z H' J rz ⟨p,hp,z1,z2⟩=>by subst z1 z2;cases rz;exact Y7 J hp I.sr hr
    cases B rfl
  |_=>cases B rfl
 |_=>cases B rfl
def X6q:Op2 X (Vct .FloorDiv) (Xn .fdiv):=Xas QL λI B=>by
 simp[Xn]at B |-;split at B;·rename_i j hz;rw[iP0 hz];simp[Xgz,bA0,decide_eq_true_eq]at hz;exact floordiv_int Q0 (by rw[Int.fdiv_eq_ediv_of_nonneg _ Q0];calc Y9 I.sr QD1) (.inl (PyProof.noPylong_of_log2 hz.2))
 ·cases B rfl
def Yb3:Op2 X (Vct .Mod) (Xn .mod):=Xas QL λI B=>by
 simp[Xn]at B |-;split at B;·rename_i hz;rw[iP0 hz];exact mod_int' Q0 (by rw[Int.fmod_eq_emod_of_nonneg _ Q0];calc Y9 I.sr QD1)
 ·cases B rfl
def Yb4:Op2 X (Vct .Pow) (Xn .pow):=Xas QL λI B=>by
 simp[Xn]at B |-;split at B;·rename_i hz;rw[iP0 hz];exact pow_int_small hz.1 Q0 Q0 QM5
 ·cases B rfl
def Xs6{op:Bo}(h:op=.shl\/op=.shr\/op=.band)(x y:D)(S:Sto)(B:Xn op x y S≠.bad):∃i j,x=.int i/\y=.int j:=by rcases h with rfl|rfl|rfl<;>(cases x<;>first|calc aB0 rfl B|(cases y<;>first|calc⟨_,_,rfl,rfl⟩|calc aB0 rfl B))
def Yb5:Op2 X (Vct .LShift) (Xn .shl):=Xas (Xs6 Qd0) λ{_ s _ _ _ _ _ i j _ _ _} I nb=>by
 simp[Xn]at nb |-;split at nb
 ·rename_i hz;rw[iP0 hz];calc lshift_int hz.1 ?_ QM5;let:Vgb i<=2^20:=by
   unfold Vgb;split;·exact Van _
   ·rename_i B;let h1:i.natAbs≠0:=λz=>B QVQ;let:=(Nat.log2_lt h1).mpr hz.2.2;omega
  omega
 cases nb rfl
def Yb6:Op2 X (Vct .RShift) (Xn .shr):=Xas (Xs6 QvZ) λI B=>by
 simp[Xn]at B |-;split at B;·rename_i hz;rw[iP0 hz];exact rshift_int hz QM5
 ·cases B rfl
def X6r:Op2 X (Vct .BitAnd) (Xn .band):=Xas (Xs6 QuZ) λI B=>and_int QM5
def Yb7:∀op:Bo,Op2 X QSb Qde
 |.add=>Yb0|.sub=>Yb1|.mul=>Yb2|.fdiv=>X6q|.mod=>Yb3|.pow=>Yb4|.shl=>Yb5|.shr=>Yb6|.band=>X6r
universe e
def X6s(n:Nat)(i:Int):Z.ixN n i=L2.ixN n i:=rfl
section
variable{X:Cx}{pc:LA}{σ:L2.St}{H:Hp}{s:Vc}{ρ:LR}{S S':Sto}{env:En}{Q:VP}{E:VP}{a b c e:Expr}{f fa fb fc:En->Sto->R D}{pos:Pos}
def X6t(r:RDs X.K ρ H xs vs)(h:QiE=yz d):∃v,atI vs k=yz v/\RD X.K ρ H d v:=by
 cases e:Z.ixN QU k with
 |none=>rw[e]at h;cases h|some j=>rw[e]at h;let⟨v,h1,h2⟩:=r.get (i:=j) (d:=d) h;calc Q5X;show((L2.ixN Qn2 k).bind λj=>vs[j]?)=yz v;rw[<-r.length];rw[X6s]at e;rw[e];calc h1
def Yb8(hs:Xj9 b):Op2 X (Vf5 a b) Xcu:=by
 intro pc s σ H ρ S env x y v u v' u' E I nb rx rv ry ru;unfold Xcu at nb |-;cases e:Xa7 x y S with
 |none=>rw[e]at nb;cases nb rfl|some d=>
  cases y with
  |int k=>
   simp[RD]at ry;subst ry;let B:∀ {r:R2} (hr:IxR QX4 r) (z:V),r v QSV H (λz' H'=>z'=z/\H'=H)->RD X.K ρ H d z->Vg Q2 X.A Q4S QLG E s:=λ{r} hr z h1 h2=>thn (hr a b pc s σ H v QSV v' u' _ QH9 rv ru h1 (hs _ _)) λw s' ⟨z',H',J,rz,e1,e2⟩=>by subst e1 e2;exact .mk .refl J.unwish rz h2 I.sr
   let seq:∀xs,Xi S x=yz xs->QiE=yz d->Vg Q2 X.A Q4S QLG E s:=λxs h1 h2=>by
    let⟨p,vs,rfl,L,hr⟩:=I.seq h1 rx;let⟨z,hz,rz⟩:=X6t hr h2;rcases L with L|L;·exact B X2k z Q2D rz
    ·exact B X6a z Q2D rz
   cases x with
   |str _=>simp![Xa7,Xi]at e|tup xs=>exact seq xs rfl QII|fro xs=>exact seq xs rfl QII|ref n=>
    simp[Xa7,Xi]at e;cases e1:Xl S n with
    |none=>rw[e1]at e;cases e|some xs=>rw[e1]at e;calc seq xs e1 e
   |non=>simp![Xa7,Xi]at e|bl _=>simp![Xa7,Xi]at e|int _=>simp![Xa7,Xi]at e|fn _ _=>simp![Xa7,Xi]at e|edc=>simp![Xa7,Xi]at e
  |_=>simp![Xa7]at e
def Yb9(hs:Xj9 b)(ha:DE X a fa)(B:DE X b fb):DE X (.Subscript a b pos) (λenv S=>QC0.bind λx S=>QW4.bind λy S=>Xcu x y S):=
 λpc s σ H ρ S env I L=>Subscript_ (two (Yb8 hs) ha B I L rfl)
abbrev spD(K:Vh)(B:Bool)(n:Nat)(F:LD->Sto->R D):Sp:=λvs H Q E=>∃ds ρ S,lg vs=n/\RDs K ρ H ds vs/\SR K B ρ S H/\F ds S≠.bad /\
 (∀d S' v H' ρ',F ds S=.ok d S'->RD K ρ' H' d v->SR K B ρ' S' H'->Stp K ρ ρ' H H'->Q v H') /\
 ∀n c S' a H' ρ',F ds S=.ex n S'->ρ'[n]?=yz a->S'[n]?=yz Qq3->SR K B ρ' S' H'->Stp K ρ ρ' H H'->E Q40 yy H'
abbrev CXd(P:V0)(w:V9):CXT:=λouter H s E e s'=>∃H',s'.os=s.os/\AllBare s'.gens/\Un QmX [] H H' s.heap s'.heap/\HOk P w H' s'.heap/\(∃a,e=.ref a/\Trc .none (λT=>s.heap.get? T=yy) H' a s'.heap)/\E e yy H'
structure RoomC(cm:Bool)(k:Nat)(A:Uu):Prop where
 gd:A.guards=yz []
 hd:cm=yx->A.handled=yy
 dp:A.depth+3*k+5<recursionLimit
 un:A.units+16*k+200<Vbt
def RoomC.of(r:Room k A):RoomC cm k A:=⟨r.gd,λ_=>r.hd,r.dp,r.un⟩
def RoomC.less(r:RoomC cm k A)(h:cm2=yx->cm=yx):RoomC cm2 k A:=⟨r.gd,λz=>r.hd (h z),r.dp,r.un⟩
def RoomC.deeper(r:RoomC cm QG5 A)(env:Vb0):RoomC cm k (A.deeper env):=
 ⟨r.gd,r.hd,by let:=r.dp;show A.depth+1+3*k+5<_;omega,by let:=r.un;show A.units+3+16*k+200<_;omega⟩
def RoomC.mark(r:RoomC cm k A):RoomC yw k (A.mark h):=⟨r.gd,Qb3,r.dp,r.un⟩
structure FnD(cm:Bool)(P:V0)(w:V9)(K:Vh)(mg:Str->OV)(base:Heap)(k:Nat)(f:Addr)(fd:Vdc)(ps:LS)(F:LD->Sto->R D):Prop where
 run:∀(A:Uu) (outer:List Vb0) (s:Vc) (H:Hp) (args:Args) (us:LV) (vs:LW) (Q:VK) (E:XK),RoomC cm k A->Env0 P w K mg base A outer s H->BindsTo s fd args QZ6->Vals vs us->spD K QMR Qq5 F vs H Q E ->
  Vco QKA A QvQ (CR QBH outer P w H s Q E) s
def X1n(G:FnD cm X.prog X.w X.K X.mg X.base k g fd ps F)(hr:RoomC cm k X.A)(hb:Binds X.K fd ps [])
  (I:S0 X pc σ H s ρ S env) (rv:Vals vs us) (rd:RDs X.K ρ H ds vs) (hl:QP3=lg ps) (nb:F ds S≠.bad):
  Vg Q2 X.A (call QK6 us) (OkP X pc σ ρ H QEV) (ExP X pc σ ρ H QEV) s:=by
 let aa:Qn2=lg ps:=by rw[<-rd.length];exact hl
 let ab:BindsTo s fd QfA QZ6:=by let:=hb s us I.inv.kIn (by rw[Vaw,<-rv.length];calc aa);rwa [Vaw]at this
 let ac:spD X.K QV1 Qq5 F vs H (λv H'=>∃d S' ρ',F ds S=.ok d S'/\RD X.K ρ' H' d v/\SR X.K QV1 ρ' S' H'/\Stp X.K ρ ρ' H H')
   (λe _ H'=>∃n c S' a ρ',F ds S=.ex n S'/\e=.ref a/\ρ'[n]?=yz a/\S'[n]?=yz Qq3/\SR X.K QV1 ρ' S' H'/\Stp X.K ρ ρ' H H'):=
  ⟨ds,ρ,S,aa,rd,I.sr,nb,λd S' v H' ρ' h1 h2 B L=>⟨d,S',ρ',h1,h2,B,L⟩,λn c S' a H' ρ' h1 h2 B L h5=>⟨n,c,S',a,ρ',h1,rfl,h2,B,L,h5⟩⟩
 calc wpAny_call (Vd5 (G.run X.A X.stack s H QfA us vs _ _ hr I.inv.env0 ab rv ac) λr s' hq=>?_);cases r with
 |error e=>
  let⟨H',os,bare,un,hok,⟨a',h0,tr⟩,n,c,S',a,ρ',h1,h2,B,L,h5,h6⟩:=hq;calc⟨n,S',h1,H',ρ',a,c,I.inv.call' os un hok bare Q4P,h2,B,L,h5,h6,.inr ⟨_,.inl rfl,?_⟩⟩;rw[h2]at h0;cases h0;exact tr.imp λT hT=>QeM
  ·by_cases hx:T∈X.ex;·exact .inl hx
   ·cases q:X.s₀.heap.get? T with
    |none=>exact .inr rfl|some o=>let⟨o',e⟩:=I.inv.base.there T o q hx;rw[hT]at e;cases e
  let:=(I.inv.pin p hp).1;rw[z,hT]at this;cases this|ok fl=>
  cases fl with
  |ret u=>let⟨v,H',J,ae,d,S',ρ',h1,h2,B,L⟩:=I.inv.after hq;calc⟨d,S',h1,v,H',ρ',J,ae,h2,B,L⟩|next=>calc Vh3 hq|brk=>calc Vh3 hq|cont=>calc Vh3 hq
def X6u(G:FnD cm X.prog X.w X.K X.mg X.base k g fd ps F)(hr:RoomC cm k X.A)(hb:Binds X.K fd ps [])
  (hg:Gl X x) (hm:X.mg x=yz QK6) (hk:Vet X.K QK6=yx) (ha:DA X QD4 ga) (hl:∀env S ds S',ga env S=.ok ds S'->lg ds=lg ps)
  (ab:QB0=yw) (he:Ue QD4 X.env=QT5::Ue es X.env) (aa:QR0.any Qu=yw):
  DE X QE7 (λenv S=>QGP.bind λxs S=>F xs S):=by
 intro pc s σ H ρ S env I B;dsimp at B |-;calc Vaq (Xeh I.inv hg hm ?_ ab);cases q:ga env S with
 |bad=>rw[q]at B;cases B rfl|ex n S1=>calc Vgo (h₀:=X.base) I.inv.ok.mod.kin hk Qb5 he aa|ok ds S1=>rw[q]at B;simp[Rk0]at B |-;calc Vgo (h₀:=X.base) I.inv.ok.mod.kin hk (ha.ok I q λus s1 vs H1 ac I1 rv rd L=>⟨I1.inv.kIn,?_⟩) he aa;calc Vp (X1n G hr hb I1 rv rd (hl env S ds S1 q) B) (λu s2 z=>z.pre L) λx s2 z=>z.pre L
theorem FlP(X:Cx)(pc:LA)(σ:L2.St)(ρ:LR)(H:Hp)(na:Bool)(S':Sto)(s':Vc):Fl->Flow->Prop
 |.nx e,fl=>fl=.next/\∃ B H' ρ',S0 X pc B H' s' ρ' S' e/\Stp X.K ρ ρ' H H'/\QNU|.brk e,fl=>fl=.brk/\∃ B H' ρ',S0 X pc B H' s' ρ' S' e/\Stp X.K ρ ρ' H H'|.cnt e,fl=>fl=.cont/\∃ B H' ρ',S0 X pc B H' s' ρ' S' e/\Stp X.K ρ ρ' H H'|.rt d,fl=>∃u v B H' ρ',fl=.ret u/\Inv X pc B H' s'/\RelV v u/\RD X.K ρ' H' d v/\SR X.K QV1 ρ' S' H'/\Stp X.K ρ ρ' H H'
theorem OkS(X:Cx)(pc:LA)(σ:L2.St)(ρ:LR)(H:Hp)(na:Bool)(r:R Fl)(fl:Flow)(s':Vc):Prop:=∃x S',r=.ok x S'/\FlP X pc σ ρ H na S' s' x fl
theorem ExS(X:Cx)(pc:LA)(σ:L2.St)(ρ:LR)(H:Hp)(na:Bool)(r:R Fl)(e:Vb)(s':Vc):Prop:=∃n S' B,r=.ex n S'/\QNU/\XPd X pc B ρ H n S' e s'
theorem DS(X:Cx)(st:Stmt)(na:Bool)(f:En->Sto->R Fl):Prop:=
 ∀(pc:LA) (s:Vc) (σ:L2.St) (H:Hp) (ρ:LR) (S:Sto) (env:En),S0 X pc σ H s ρ S env->f env S≠.bad ->
  Vg Q2 X.A (exec st X.env) QXI QdI s
theorem DSs(X:Cx)(st:LM)(na:Bool)(f:En->Sto->R Fl):Prop:=
 ∀(pc:LA) (s:Vc) (σ:L2.St) (H:Hp) (ρ:LR) (S:Sto) (env:En),S0 X pc σ H s ρ S env->f env S≠.bad ->
  Vg Q2 X.A QSQ QXI QdI s
def FlP.pre{x:Fl}{fl:Flow}{s':Vc}{aa:L2.St}{ρ':LR}{H':Hp}{na na':Bool}(st:Stp X.K ρ ρ' H H')(hn:na'=yx->na=yx/\aa=σ)(h:FlP X pc aa ρ' H' na S' s' x fl):FlP X pc σ ρ H na' S' s' x fl:=by
 cases x with
 |nx e=>let⟨h1,B,H2,L,h2,h3,h4⟩:=h;calc⟨h1,B,H2,L,h2,st.trans h3,λz=>(h4 QKW.1).trans QKW.2⟩|brk e=>let⟨h1,B,H2,L,h2,h3⟩:=h;calc QzF|cnt e=>let⟨h1,B,H2,L,h2,h3⟩:=h;calc QzF|rt d=>let⟨u,v,B,H2,L,h1,h2,h3,h4,h5,h6⟩:=h;calc⟨u,v,B,H2,L,h1,h2,h3,h4,h5,st.trans h6⟩
def OkS.pre{r:R Fl}{fl:Flow}{s':Vc}{B:L2.St}{ρ':LR}{H':Hp}{na na':Bool}(st:Stp X.K ρ ρ' H H')(L:na'=yx->na=yx/\B=σ)(h:OkS X pc B ρ' H' na r fl s'):OkS X pc σ ρ H na' r fl s':=by let⟨x,S1,e,h⟩:=h;calc⟨x,S1,e,h.pre st L⟩
def ExS.of(st:Stp X.K ρ ρ' H H')(h:XPd X pc σ ρ' H' n S' x s')(e:r=.ex n S'):ExS X pc σ ρ H na r x s':=⟨n,S',σ,e,λ_=>rfl,h.pre st⟩
def ExS.pre{na na':Bool}{B:L2.St}{r:R Fl}{x:Vb}{s':Vc}{ρ':LR}{H':Hp}(st:Stp X.K ρ ρ' H H')(hn:na'=yx->na=yx/\B=σ)(h:ExS X pc B ρ' H' na r x s'):ExS X pc σ ρ H na' r x s':=by let⟨n,S1,L,e,h1,h2⟩:=h;calc⟨n,S1,L,e,λz=>(h1 QKW.1).trans QKW.2,h2.pre st⟩
variable{st:Stmt}{rest sa sb:LM}{g g2:En->Sto->R Fl}{na na2:Bool}
def DS.weak(h:DS X st na g)(B:na2=yx->na=yx):DS X st na2 g:=λpc s σ H ρ S env I L=>Vp QP5 (λ_ _ z=>z.pre .refl λq=>QAX) λ_ _ z=>z.pre .refl λq=>QAX
def dss_nil:DSs X [] yx Q5M:=λpc s σ H ρ S env I _=>wpAny_execs_nil QO9
def Xyt(h1:DS X st na g)(h2:DSs X rest na2 g2):DSs X (st::rest) QUa (λenv S=>match g env S with | .ok QR7 S'=>g2 e S'|r=>r):=by
 intro pc s σ H ρ S env I nb;dsimp at nb |-;calc wpAny_execs_cons ?_;cases q:g env S with
 |bad=>rw[q]at nb;cases nb rfl|ex n S1=>
  exact Vp QWF Q7B λx s1 z=>?_;·let⟨x,S2,e,_⟩:=z;rw[q]at e;cases e
  ·rw[q]at z;exact z.pre .refl λw=>⟨by rw[bA0]at w;calc w.1,rfl⟩|ok x S1=>
  rw[q]at nb;exact Vp QWF Q7B λx s1 z=>?_
  ·let⟨y,S2,e,z⟩:=z;rw[q]at e;cases e;cases x with
   |nx e=>let⟨rfl,B,H1,L,I1,aa,ab⟩:=z;exact Vp (h2 pc s1 B H1 L S1 e I1 nb) (λfl s2 z=>z.pre aa λw=>by rw[bA0]at w;calc QmS) λx s2 z=>z.pre aa λw=>by rw[bA0]at w;exact QmS|brk e=>let⟨rfl,B,H1,L,I1,aa⟩:=z;exact⟨.brk e,S1,rfl,rfl,B,H1,L,I1,aa⟩|cnt e=>let⟨rfl,B,H1,L,I1,aa⟩:=z;exact⟨.cnt e,S1,rfl,rfl,B,H1,L,I1,aa⟩|rt d=>let⟨u,v,B,H1,L,rfl,r⟩:=z;exact⟨.rt d,S1,rfl,u,v,B,H1,L,rfl,r⟩
  let⟨k,S2,ac,e,_⟩:=z;rw[q]at e;cases e
def ds_pass:DS X (.Pass pos) yx Q5M:=λpc s σ H ρ S env I _=>wpAny_Pass QO9
def ds_brk:DS X (.Break pos) yw (λenv S=>.ok Q6a S):=λpc s σ H ρ S env I _=>wpAny_Break ⟨.brk env,S,rfl,rfl,σ,H,ρ,I,.refl⟩
def ds_cnt:DS X (.Continue pos) yw (λenv S=>.ok Q5a S):=λpc s σ H ρ S env I _=>wpAny_Continue ⟨.cnt env,S,rfl,rfl,σ,H,ρ,I,.refl⟩
def X2w(L:DE X e f)(hs:Vgp e yy pos.line X.env=pure yw):DS X (.Expr e pos) yx (λenv S=>Qa0.bind λ_ S=>.ok QQ4 S):=by
 intro pc s σ H ρ S env I B;dsimp at B |-;cases q:f env S with
 |bad=>rw[q]at B;cases B rfl|ex n S1=>calc wpAny_Expr_any Qg5 I.inv.quiet hs|ok d S1=>calc wpAny_Expr_any (L.ok I q λu s' v H' ρ' J rv rd st=>⟨.nx env,S1,rfl,rfl,σ,H',ρ',J,st,λ_=>rfl⟩) I.inv.quiet hs
def X6v(L:DE X e f):DS X (.Return Q6W pos) yx (λenv S=>Qa0.bind λx S=>.ok QKf S):=by
 intro pc s σ H ρ S env I B;dsimp at B |-;cases q:f env S with
 |bad=>rw[q]at B;cases B rfl|ex n S1=>calc wpAny_Return_some Qg5|ok d S1=>calc wpAny_Return_some (L.ok I q λu s' v H' ρ' J rv rd st=>⟨.rt d,S1,rfl,u,v,σ,H',ρ',rfl,J.inv,rv,rd,J.sr,st⟩)
def Yca(hc:DT X c Qu8)(ha:DSs X sa na g)(hb:DSs X sb na2 g2):
  DS X (.If c sa sb pos) QUa (λenv S=>QV4.bind λx S=>match X2 S x with|some yx=>g env S|some yw=>g2 env S|none=>.bad):=by
 intro pc s σ H ρ S env I B;dsimp at B |-;cases q:fc env S with
 |bad=>rw[q]at B;cases B rfl|ex n S1=>exact wpAny_If (hc.ex I (by simp[q];rfl) λx s' z=>.of .refl z rfl)|ok x S1=>
  rw[q]at B;simp[Rk0]at B |-;cases t:X2 S1 x with
  |none=>rw[t]at B;cases B rfl|some r=>
   rw[t]at B;calc wpAny_If QB6;cases r with
   |true=>calc Vp Qd6 (λw s3 z=>z.pre L λw=>by rw[bA0]at w;calc Q4X) λx s' z=>z.pre L λw=>by rw[bA0]at w;calc Q4X|false=>calc Vp Qc6 (λw s3 z=>z.pre L λw=>by rw[bA0]at w;calc Q3X) λx s' z=>z.pre L λw=>by rw[bA0]at w;calc Q3X
def X6w(hN:X.N.Nodup)(hi:X.N[i]?=yz x)(hx:Loc X.env.scope x)(hf:X.fn x=yx\/X.env.scope.names.lookup x=yz .local)(L:DE X e f)(hs:Vgp e (yz (.Name x pos')) pos.line X.env=pure yw):
  DS X (.Assign [.Name x pos'] e pos) yw (λenv S=>Qa0.bind λx S=>match X0 QL1 x env with|some env=>.ok QQ4 S|none=>.bad):=by
 intro pc s σ H ρ S env I B;dsimp at B |-;cases q:f env S with
 |bad=>rw[q]at B;cases B rfl|ex n S1=>calc wpAny_Assign_Name Qg5 hs|ok d S1=>calc wpAny_Assign_Name (L.ok I q λu s' v H' ρ' J rv rd st=>?_) hs;calc Xcb J.inv hN hi hx rv (λs2 I2=>⟨.nx QpG,S1,rfl,rfl,_,H',ρ',⟨I2,J.sr,J.er.set i rd⟩,st,λz=>nomatch z⟩) hf
def Xcq{b:Addr}{u:HO}(x:ObjOk P w H h b u):∃o,h.get? b=yz o:=by
 cases u with
 |lst xs=>let⟨_,_,_,_,e⟩:=x;calc Q24|tup xs=>let⟨_,_,_,o,e,_⟩:=x;calc Q24|dK kvs=>let⟨_,_,_,_,o,_,_,e,_⟩:=x;calc Q24|dT kvs=>let⟨_,_,_,_,o,_,_,e,_⟩:=x;calc Q24|set S n=>let⟨o,_,_,_,e,_⟩:=x;calc Q24|ins C dx fs=>let⟨_,_,_,e,_⟩:=x;calc Q24|own y=>calc x|xd fs=>let⟨_,⟨_,_,_,e,_⟩,_⟩:=x;calc Q24|rng lo hi=>let⟨_,_,_,e⟩:=x;calc Q24|frz ob u=>let⟨e,_⟩:=x;calc Q24|tbl ps=>let⟨_,e,_⟩:=x;calc Q24|met f y=>calc⟨_,(show h.get? b=yz _ from x)⟩|ext B=>calc x.2.1
def Xd8{h g g':Heap}:∀ {l:List Vb0},h.FunFrames g l->(∀b∈frs l,g'.get? b=yy)->h.FunFrames g' l
 |[],_,_=>trivial|env::r,⟨hk,⟨L,o,hf,_,ho,hd⟩,hr⟩,k=>by
  let e:frs (env::r)=L::frs r:=by unfold frs;rw[U3,hf]
  rw[e]at k;calc⟨hk,⟨L,o,hf,k L QnL,ho,hd⟩,Xd8 hr λb B=>k b QFH⟩
structure Hid(X:Cx)(H':Hp)(a:Addr)(h:Heap)(l:LR):Prop where
 er:a∈l
 fr:∀b∈frs X.stack,b∈l
 of:∀b∈l,b=a\/b∈frs X.stack\/(H' b=yy/\∃o vs,h.get? b=yz o/\o.data=.fields vs)
def Xrc{pc:LA}{σ:L2.St}{a C:Addr}{l:LR}(I:Inv X pc σ H' s')(ha:H' a=yz Qv1)(hl:Hid X H' a s'.heap l)
  (keep:∀b o,s'.heap.get? b=yz o->b ∉ l->h'.get? b=yz o) (he:ExcO C a h'):HOk X.prog X.w H' h':=by
 let out:∀b u,b≠a->H' b=yz u->b ∉ l:=λb u L q hm=>by
  rcases hl.of b hm with z|z|⟨z,_⟩;·exact L z
  ·rw[I.stkFree b z]at q;cases q
  rw[z]at q;cases q
 intro b u q;by_cases L:b=a;·subst L;rw[ha]at q;cases q;exact he.ok
 ·exact QyJ.stay (λc v B e=>?_) Q3Z λ_ _ _ z=>z;rcases B with rfl|B;·exact keep c v e (out c u L q)
  ·calc keep c v e (out c _ (λz=>by rw[z,ha]at B;cases B) B)
def Inv.fly{X:Cx}{pc:LA}{σ:L2.St}{H:Hp}{s:Vc}{a:Addr}(I:Inv X pc σ H s)(ha:H a=yz Qv1)(hl:Hid X H a s.heap l)
  (B:∀b∈l,b≠a->b ∉ frs X.stack->Xkc X pc b) (k1:(Vcx s.heap l).StaysIn h') (k4:s.heap.UpToSlots h') (he:ExcO C a h'):
  Inv X pc σ H QV:=by
 let keep:∀b o,s.heap.get? b=yz o->b ∉ l->h'.get? b=yz o:=λb o e hb=>k1 b o (Vez l e hb);let ae:∀b∈frs X.stack,∃o,s.heap.get? b=yz o/\∀vs,o.data≠.fields vs:=λb hb=>(I.stack.mem hb).2;let aa:∀b o,X.s₀.heap.get? b=yz o->b≠X.env.locals:=λb o e=>Uj QO2;let L:∀x c,X.env.cells.lookup x=yz c->∀v,s.heap.IsCell c v->h'.IsCell c v:=λx c e v Q7X=>by
  let⟨sl,q⟩:=k4 c o ho λvs z=>by rw[hd]at z;cases z
  exact QwY
 exact⟨I.ok,I.os,I.bare,⟨λb o e n hb hx=>?_,λb o e n hb hx=>?_,λb o e n hx=>I.base.free b o e n hx,λb o e hx=>?_,I.base.tups,I.base.frzs,I.base.tbls⟩,?_,λx c e=>?_,I.free,I.freeC,λp hp=>?_,Xrc I ha hl keep he,I.len⟩
 ·exact keep b o QQ8 λhm=>?_;let fb:=I.base.free b o e n hx;by_cases h1:b=a;·rw[h1,ha]at fb;cases fb
  ·by_cases h2:b∈frs X.stack
   ·rcases Vu.mp (I.stkSub b h2) with z|z;·exact aa b o e z
    ·exact hb z
   rcases QZT.1 with z|z;·exact hx z
   ·rw[z]at e;cases e
 ·let⟨sl,e1⟩:=I.base.slot b o e n hb hx;let⟨_,o',e',nd⟩:=I.funs.mem hb;rw[e1]at e';cases e';let⟨ac,e2⟩:=k4 b _ e1 nd;exact⟨ac,e2⟩
 ·let⟨o',e1⟩:=I.base.there b o e hx;by_cases hm:b∈l
  ·by_cases h1:b=a;·subst h1;let⟨oe,_,_,q,_⟩:=he;exact QsT
   ·by_cases h2:b∈frs X.stack;·let⟨o2,e2,nd⟩:=ae b h2;rw[e1]at e2;cases e2;let⟨sl,e3⟩:=k4 b _ e1 nd;exact⟨_,e3⟩
    ·rcases QZT.1 with z|z;·exact aB0 z hx
     ·rw[z]at e;cases e
  exact QlK
 ·let⟨m,hn,ab⟩:=I.loc;calc⟨m,k4.ns hn,λi x v e1 e2 e3=>?_⟩;let⟨u,r,lk⟩:=ab i x v e1 e2 e3;calc QvY;rcases lk with lk|⟨kd,c,e,z⟩;·exact .inl lk
  ·exact .inr ⟨kd,c,e,L x c e _ z⟩
 ·let⟨v,z⟩:=I.cell x c e;exact⟨v,L x c e v z⟩
 ·let⟨e,n,ne,nf,d⟩:=I.pin p hp;calc⟨keep p.1 p.2 e λhm=>?_,n,ne,nf,d⟩;by_cases h1:p.1=a;·rw[h1,ha]at n;cases n
  ·by_cases h2:p.1∈frs X.stack
   ·rcases Vu.mp (I.stkSub p.1 h2) with z|z;·exact ne z
    ·exact nf z
   calc(B p.1 hm h1 h2).2 p hp rfl
def Xih{X:Cx}{pc:LA}{σ:L2.St}{H':Hp}{s':Vc}{a C:Addr}{Q:Unit->Vc->Prop}{E:VP}(I:Inv X pc σ H' s')(hs:X.stack=X.env::X.outer)(hf:X.env.frame=yz X.env.locals)
  (ha:H' a=yz Qv1) (fl:Fly X pc H' a s'.heap)
  (hQ:∀l h2 a0,Hid X H' a s'.heap l->QB9->Heap.HeldW QAS QN4 a QL2 a0 X.env.locals h2->s'.heap.UpToSlots h2->Q () {s' with heap:=h2}):
  Vg Q2 X.A (noteFrame Q40 X.env) Q E s':=by
 let hA:X.A.frames=yz QN4:=by rw[<-hs];exact I.ok.frames
 let hI:=I.stack;let⟨⟨oa,va,a0,ea,ca,da,v0,vz⟩,_,_⟩:=(show ObjOk X.prog X.w H' s'.heap a Qv1 from I.hok a _ ha);rcases fl with⟨oe,vs,e1,e2,e3⟩|⟨fl,hfl,oe,vs,T,oT,ts,e1,e2,e3,e4,e6,e7,e8,e9,e10⟩
 ·let hid:Hid X H' a s'.heap QYQ:=⟨.head _,λb B=>.tail _ B,λb B=>by
   rcases Vu.mp B with z|z;·exact .inl z
   ·calc .inr Q9K⟩
  rw[ea]at e1;cases e1;rw[da]at e2;cases e2;unfold noteFrame;simp[hf];calc Va (U1 ea da e3 ?_);rw[iN0 Q1];exact wpAny_entryW (base:=Vcx s'.heap QYQ) hA (by rw[<-hs];calc Xd8 hI λb B=>Vb9 _ QFH) hf ea (λb o e=>Vgh _ e) (Vb9 _ QnL) da vz v0 λh2 ⟨k1,k2,k3,k4⟩=>?_
  rw[ca]at k3;exact hQ _ h2 a0 hid (λb B h1 h2=>by
   rcases Vu.mp B with z|z;·exact aB0 z h1
   ·calc aB0 z h2) ⟨k1,Vb9 _ QnL,k2,k3⟩ k4
 ·let hid:Hid X H' a s'.heap QVC:=⟨.head _,λb B=>.tail _ QFH,λb B=>by
   rcases Vu.mp B with z|z;·exact .inl z
   ·rcases Vu.mp z with z|z;·subst z;exact .inr (.inr ⟨e7,oT,ts,e8,e9⟩)
    ·calc .inr Q9K⟩
  let L:∀b∈a::T::frs X.stack,b≠a->b ∉ frs X.stack->Xkc X pc b:=λb B h1 h2=>by
   rcases Vu.mp B with z|z;·exact aB0 z h1
   ·rcases Vu.mp z with z|z;·subst z;exact e4
    ·exact aB0 z h2
  rw[ea]at e1;cases e1;rw[da]at e2;cases e2;let fr:s'.heap.FunFrames QWP QN4:=by rw[<-hs];exact Xd8 hI λb B=>Vb9 _ (.tail _ QFH)
  let tr:s'.heap.TracedAtW QWP a QL2 a0 fl:=⟨oa,va,T,oT,ts,ea,⟨ca,v0⟩,da,e3,Vb9 _ (.tail _ QnL),e6,e8,e9,e10⟩;rcases hfl with rfl|rfl;·exact wpAny_looks_onW hA hf QUA λh2 aa ab=>hQ _ h2 a0 hid L aa ab
  ·calc wpAny_noteFrame_againW hf tr (hQ _ s'.heap a0 hid L QUA QZS)
def X2x{X:Cx}{pc:LA}{σ:L2.St}{H':Hp}{s':Vc}{a C:Addr}{Q:Unit->Vc->Prop}{E:VP}(I:Inv X pc σ H' s')(hs:X.stack=X.env::X.outer)(hf:X.env.frame=yz X.env.locals)(hx:X.ex=[])
  (ha:H' a=yz Qv1) (fl:Fly X pc H' a s'.heap)
  (hQ:∀h',Un X.fs [] X.H₀ H' X.s₀.heap h'->HOk X.prog X.w H' h'->Trc .none (λT=>X.s₀.heap.get? T=yy) H' a h'->Q () QwO):Vg Q2 X.A (leaving X.env Q40) Q E s':=by
 let aa:frs X.stack=X.env.locals::X.fs:=by rw[hs];unfold frs;rw[U3,hf];rfl
 let hA:X.A.frames=yz QN4:=by rw[<-hs];exact I.ok.frames
 let hI:=I.stack;let fin:∀(l:LR) (h':Heap) (a0:Vb),Hid X H' a s'.heap l->(∀b∈l,b≠a->b ∉ frs X.stack->X.s₀.heap.get? b=yy)->Heap.LeftW QAS QN4 a QL2 a0 s'.heap h'->Q () QwO:=by
  intro l h' a0 hl B k0;let⟨k1,k2,⟨oe,vs,T,oT,ts,t1,⟨t2,t3⟩,t4,t5,t6,t7,t8,t9,ag⟩,k4⟩:=k0;let keep:∀b o,s'.heap.get? b=yz o->b ∉ l->h'.get? b=yz o:=λb o e L=>k1 b o (Vez l e L);let ac:∀b∈frs X.stack,∃o,s'.heap.get? b=yz o/\∀vs,o.data≠.fields vs:=λb L=>(hI.mem L).2;let ab:∀b∈frs X.stack,∀o,s'.heap.get? b=yz o->∃sl,h'.get? b=yz Q6E:=λb L o e=>by let⟨o',e',nd⟩:=ac b L;rw[e]at e';cases e';exact k4 b o e nd
  let ae:∀b o,X.s₀.heap.get? b=yz o->b≠X.env.locals:=λb o e=>Uj QO2;let nx:∀b:Addr,b ∉ X.ex:=λb z=>by rw[hx]at z;cases z
  let hT:∀o,s'.heap.get? T=yz o->T∈l:=λo e=>by
   by_cases hm:T∈l;·exact hm
   ·rw[Vez l e hm]at t6;cases t6
  let nT:T ∉ frs X.stack:=λhm=>by let⟨o,e,nd⟩:=ac T hm;let⟨sl,e'⟩:=ab T hm o e;rw[t8]at e';cases e';exact nd ts t9
  exact hQ h' ⟨λb o e n L _=>?_,λb o e n L _=>?_,λb o e n _=>I.base.free b o e n QTR,λb o e _=>?_,I.base.tups,I.base.frzs,I.base.tbls⟩ (Xrc I ha hl keep QA5) ⟨oe,vs,T,oT,ts,t1,t4,t5,?_,t7,?_,t8,t9,ag⟩
  ·exact keep b o (I.base.keep b o e n L QTR) λhm=>?_;let fb:=I.base.free b o e n QTR;by_cases h1:b=a;·rw[h1,ha]at fb;cases fb
   ·by_cases h2:b∈frs X.stack
    ·rw[aa]at h2;rcases Vu.mp h2 with z|z;·exact ae b o e z
     ·exact L z
    rw[B b hm h1 h2]at e;cases e
  ·let⟨sl,e1⟩:=I.base.slot b o e n L QTR;let⟨af,e2⟩:=ab b (by rw[aa];calc .tail _ L) _ e1;exact QyH
  ·let⟨o',e1⟩:=I.base.there b o e QTR;by_cases hm:b∈l
   ·by_cases h1:b=a;·subst h1;exact⟨_,t1⟩
    ·by_cases h2:b∈frs X.stack;·let⟨sl,e2⟩:=ab b h2 o' e1;exact⟨_,e2⟩
     ·rw[B b hm h1 h2]at e;cases e
   exact QlK
  ·cases q:X.s₀.heap.get? T with
   |none=>exact q|some o=>let⟨o',e1⟩:=I.base.there T o q (nx T);rw[B T QEP t7 nT]at q;cases q
  cases q:H' T with
  |none=>rfl|some u=>
   let⟨o',e1⟩:=Xcq (I.hok T u q);rcases hl.of T QEP with z|z|⟨z,_⟩;·exact aB0 z t7
   ·exact aB0 z nT
   rw[z]at q;cases q
 unfold leaving;calc Va (Xih I hs hf ha fl λl h2 a0 hid B hh up=>?_);exact wpAny_setFlight_noneW hh.1 hh.2.2.1 hh.2.2.2 λh' k1 k2 k3 k4=>?_;exact fin l h' a0 hid (λb L h1 h2=>?_) ⟨k1,k2,k3,λb o e nd=>?_⟩
 ·rcases (B b L h1 h2).1 with z|z;·rw[hx]at z;cases z
  ·exact z
 ·let⟨sl,e2⟩:=up b o e nd;calc⟨sl,k4 b _ e2 nd⟩
abbrev cxC(cm:Bool)(P:V0)(w:V9)(K:Vh)(mg:Str->OV)(base:Heap)(N:LS)(qual:Str)(scope:Vai)(f:Addr)(B:Vb)(A:Uu)(outer:List Vb0)(s:Vc)(H:Hp)(E:XK):Cx:=
 { Xsy QBH P w K mg base N qual scope f B A outer s H E with calm:=cm}
def X6x{cm:Bool}{P:V0}{w:V9}{K:Vh}{mg:Str->OV}{base:Heap}{k:Nat}{f:Addr}{name qual:Str}{aa:Arguments}{body:LM}{scope:Vai}{dV kV ak pm L ct oc:Vb}{an od:Option Addr}
  {am:Array (OV)} {N ps:LS} {G:En->Sto->R Fl} {na:Bool} (lk:K.lookup f=yz ⟨oc,od,.func Qq8,am⟩) (ar:Vij K L qual=yx) (S:FnScope N ps scope)
  (af:∀(A:Uu) (outer:List Vb0) (s:Vc) (H:Hp) (E:XK),RoomC cm k QaT->DSs Qx2 body na G):
  FnD cm P w K mg base QG5 f Qq8 ps (λds S=>if QP3=lg ps then Xna (G Q83 S) else .bad):=by
 calc⟨λA outer s H av us vs Q E hr e0 hb r aq=>?_⟩;let⟨ds,ρ,ag,hl,rd,sr,nb,hok,ac⟩:=aq;let aj:QP3=lg ps:=by rw[rd.length];exact hl
 dsimp at nb hok ac;rw[iP0 aj]at nb;simp[iP0 aj]at hok ac;let KX:K.In s.heap:=e0.mod.kin.keeps λb o e=>QbU.1;let ap:s.heap.NoLimit:=e0.mod.nolimit.keeps λb o e=>QbU.1;let ah:∀y∈ps.zip us,scope.names.lookup y.1=yz .local\/(scope.names.lookup y.1=yz .cell/\(Q4J.lookup y.1).isSome=yx):=λ⟨n,v⟩ hy=>by
  rcases S.par n (Vh1 hy).1 with q|q;·exact .inl q
  ·exact .inr ⟨q,Vhd _ _ _ QWV⟩
 calc codeAny_call_function (by let:=hr.dp;omega) (KX _ _ lk) rfl S.co S.gen rfl (PySem.W.codeRec_of KX ar) (hb _ _ _ _ ?_);exact wpAny_newFunctionEnv_cells S.kind ah λenv he s1 x=>?_;subst he;calc⟨ap.keeps x.toInCall.keep,codeAny_func ?_⟩;let hD:=af A outer s H E (hr.deeper _);let au:Env0 P w K mg base QfM outer s H:=⟨e0.frames,e0.mod,e0.bs,e0.bsz,e0.funs,e0.frf,e0.hok,e0.bare⟩;let I:Inv Qx2 [] Q9B H s1:=by let B:Inv (Xsy QBH P w K mg base N qual scope f L QfM outer s H E) [] Q9B H s1:=Xu8 S rfl au hl r x;exact⟨⟨B.ok.mod,B.ok.kind,B.ok.glob,B.ok.blt,B.ok.above,B.ok.inj,B.ok.has,B.ok.cab,(λz=>hr.hd z),B.ok.frames,B.ok.stk,B.ok.exf,B.ok.bs,B.ok.bsz,B.ok.noex,B.ok.exfs,B.ok.funs,B.ok.frf⟩,B.os,B.bare,B.base,B.loc,B.cell,B.free,B.freeC,B.pin,B.hok,B.len⟩
 let J:S0 Qx2 [] Q9B H s1 ρ ag Q83:=by
  calc⟨I,sr,QtN⟩;·unfold L2.start;simp![rd.length,hl]
  ·by_cases hi:i<lg ds
   ·rw[Vx Qz0,Ui]at e;cases q:ds[i]? with
    |none=>rw[q]at e;cases e|some d'=>rw[q]at e;cases e;let⟨v,h1,h2⟩:=rd.get q;calc Q5X;unfold L2.start;rw[Vx (by rw[Vf,<-rd.length];calc hi),Ui,h1];rfl
   rw[U7 Qz0,Vdp]at e;split at e<;>cases e
 let ao:G Q83 ag≠.bad:=λz=>nb Qm4;exact Vp (hD [] s1 Q9B H ρ ag _ J ao) (λfl s' hs=>?_) λe s' hs=>?_
 ·let⟨y,S1,e1,hs⟩:=hs;rw[e1]at nb hok;cases y with
  |nx e=>let⟨rfl,ai,H',ρ',J',ab,_⟩:=hs;exact⟨.non,H',J'.inv.os,J'.inv.bare,J'.inv.base,J'.inv.hok,rfl,hok .non S1 .non H' ρ' rfl Qt1 J'.sr ab⟩|rt d=>let⟨u,v,ai,H',ρ',rfl,J',rv,al,ae,ab⟩:=hs;exact⟨v,H',J'.os,J'.bare,J'.base,J'.hok,rv,hok d S1 v H' ρ' rfl al ae ab⟩|brk e=>cases nb rfl|cnt e=>cases nb rfl
 ·let⟨n,S1,ai,e1,_,H',ρ',a,c,J',rfl,hn,hc,ae,ab,fl⟩:=hs;rw[e1]at ac;let⟨C,_,ha⟩:=(show ∃C,Y8 K c=yz C/\H' a=yz Qv1 from ae.ob n a _ hn hc);calc X2x J' rfl rfl rfl ha fl λh' un hok tr=>⟨H',J'.os,J'.bare,un,hok,⟨a,rfl,tr⟩,ac n c S1 a H' ρ' rfl hn hc ae ab⟩
universe e
def Xg5{pc:LA}{t':Nat}{fp:LR}(I:Inv X pc σ H s)(L:∀b∈fp,Xa5 X pc H b)
  (k:∀b o,b ∉ fp->s.heap.get? b=yz o->h'.get? b=yz o):Inv X pc σ H QB2:=by
 let aa:∀b u,H b=yz u->b ∉ fp:=λb u e z=>by rw[(L b z).1]at e;cases e
 exact I.step (g':=s.gens) (d':=s.drawn) (ch:=fp) (λb hb=>⟨QYO.2.2.2.1,QYO.2.1,QYO.2.2.2.2.1,QYO.2.2.2.2.2⟩)
  (λb o _ _ B e _=>k b o B e) (λb o _ _ B e _=>⟨o.slots,k b o B e⟩) QJQ
  (λb o B e=>⟨o,k b o B e⟩) QnE QwS QnE Q1W Q5U I.bare
 ·let⟨o,es,ep,ho,r⟩:=hm;exact⟨o,es,ep,k _ o (λz=>(L _ z).2.1 rfl) ho,r⟩
 ·exact QDV.stay QPJ QlI λ_ _ _ q=>q;rcases B with z|z;·rw[z];exact aa b u e
  ·calc aa c _ z
theorem SqK(k:Bool)(h:Heap)(a:Addr)(xs:AV):Prop:=match k with
 |true=>h.IsList a xs|false=>h.IsTuple a xs
theorem ItK(k:Bool)(h:Heap)(i a:Addr)(n:Nat):Prop:=match k with
 |true=>h.IsListIter i a n|false=>h.IsTupleIter i a n
theorem SqH(k:Bool)(K:Vh)(H:Hp)(a:Addr)(vs:LW):Prop:=match k with
 |true=>SqL K H a vs|false=>SqT K H a vs
section
variable{k:Bool}{h h':Heap}{a i:Addr}{n:Nat}{xs:AV}
def SqK.at(x:SqK k h a xs)(e:∀o,h.get? a=yz o->h'.get? a=yz o):SqK k h' a xs:=by cases k<;>(let⟨o,B,r⟩:=x;calc QrT)
def ItK.at(x:ItK k h i a n)(e:∀o,h.get? i=yz o->h'.get? i=yz o):ItK k h' i a n:=by cases k<;>(let⟨o,B,r⟩:=x;calc QrT)
def SqK.obj(x:SqK k h a xs):∃o,h.get? a=yz o/\(o.cls=.type "list" \/ o.cls=.type "tuple"):=by
 cases k;·let⟨o,e,c,_⟩:=x;exact⟨o,e,.inr c⟩
 ·let⟨o,e,c,_⟩:=x;calc⟨o,e,.inl c⟩
def ItK.obj(x:ItK k h i a n):∃o,h.get? i=yz o/\(o.cls=.type "list_iterator" \/ o.cls=.type "tuple_iterator")/\∀v,o.data≠.cell v:=by
 cases k;·let⟨o,e,c,d⟩:=x;exact⟨o,e,.inr c,λv z=>by rw[d]at z;cases z⟩
 ·let⟨o,e,c,d⟩:=x;calc⟨o,e,.inl c,λv z=>by rw[d]at z;cases z⟩
universe e
def Xd9(I:Inv X pc σ H s)(h:SqH k X.K H a vs):∃its:LV,Vals vs its/\SqK k s.heap a its.toArray:=by
 cases k;·let⟨its,B,p,_⟩:=I.tuple h;exact⟨its,B,show s.heap.IsTuple a its.toArray from p⟩
 ·let⟨its,B,p,_⟩:=I.list h;calc⟨its,B,p.isList⟩
def Xii(I:Inv X pc σ H s)(h:SqH k X.K H a vs)(h':SqH k X.K H a us):vs=us:=by
 cases k;·exact I.tuple_inj h h'
 ·calc I.list_inj h h'
section
variable{prog:V0}{w:V9}{A:Uu}{E:VP}{s:Vc}
def Xyu(B:s.heap.IsTupleIter it t i)(ht:s.heap.IsTuple t items)(hx:items[i]?=yz x)
  (hQ:∀h',h'.IsTupleIter it t QC2->U6 it s.heap h'->Q x QV):Vg Q6 A QUO Q E s:=by
 let⟨o,L,hc,hd⟩:=id B;let⟨ol,aa,_,nl,ab⟩:=ht;unfold U0;calc Va Q95;show Vg _ _ QBN _ _ s;calc Va (U1 L hd (x:=.ref t) rfl ?_);show Vg _ _ (if Q6H=yx then _ else _) _ _ s;rw[iN0 (show ¬ QMd from V3)];show Vg _ _ QAN _ _ s;calc Va (U1 L hd (x:=.int i 0) rfl ?_);show Vg _ _ QyK _ _ s;calc Va (Vcq aa ab ?_);simp[Vcw,hx];calc Va (wpAny_setField L hd QB (Vd ⟨x,rfl,Vd (hQ _ ⟨_,Vc8 _ L (Obj.isFreed_of_fields (Obj.data_mapFields hd _)),(Obj.cls_mapFields ..).trans hc,by rw[Obj.data_mapFields hd];simp![Uv]⟩ (Vdu ..))⟩))
def X2y(hh:A.handled=yy)(B:s.heap.IsTupleIter it t i)(ht:s.heap.IsTuple t items)(hx:items[i]?=yy)
  (hE:∀h' e,Heap.ExtBut it s.heap h'->QM3->E QK2 QV):Vg Q6 A QUO Q E s:=by
 let⟨o,ho,hc,hd⟩:=id B;let⟨ol,L,_,nl,aa⟩:=ht;unfold U0;calc Va Q95;show Vg _ _ QBN _ _ s;calc Va (U1 ho hd (x:=.ref t) rfl ?_);show Vg _ _ (if Q6H=yx then _ else _) _ _ s;rw[iN0 (show ¬ QMd from V3)];show Vg _ _ QAN _ _ s;calc Va (U1 ho hd (x:=.int i 0) rfl ?_);show Vg _ _ QyK _ _ s;calc Va (Vcq L aa ?_);simp[Vcw,hx];calc Va (Vbz (Va (wpAny_setField ho hd QB ?_)));show Vg _ _ QkA _ _ _;calc Va ?_;simp[newExc,newTuple];calc Va QfW;calc Va (m:=Vin _ _) QX9;calc Vaj ?_ QlC;simp[raiseNew];exact Va Q1O
 first|rw[show A.in1.handled=yy from hh]|rw[hh]
 calc Va (Vd (wpAny_throw (hE _ _ (((Vdu ..).extBut.push _).push _) Q04)))
def nxK(B:ItK k s.heap it t i)(L:SqK k s.heap t items)(hx:items[i]?=yz x)
  (hQ:∀h',ItK k h' it t QC2->U6 it s.heap h'->Q x QV):Vg Q6 A QUO Q E s:=by
 cases k;·exact Xyu B L hx hQ
 ·calc wpAny_nextOf_list_item B L hx hQ
def Xnu(hh:A.handled=yy)(B:ItK k s.heap it t i)(L:SqK k s.heap t items)(hx:items[i]?=yy)
  (hE:∀h' e,Heap.ExtBut it s.heap h'->QM3->E QK2 QV):Vg Q6 A QUO Q E s:=by
 cases k;·exact X2y hh B L hx hE
 ·calc wpAny_nextOf_list_end hh B L hx hE
abbrev Xea(k:Bool):String:=match k with
 |true => "list_iterator"|false => "tuple_iterator"
def Xmp(h:SqK k s.heap a xs)(B:Q QC {s with heap:=s.heap.push Qz }):
  Vg Q6 A Q5S Q E s:=by
 cases k;·exact Vgq h B
 ·calc Vfk h B
def Xkd(e:h.get? i=yz Qz):ItK k h i a 0:=by cases k<;>calc⟨_,e,rfl,rfl⟩
universe e
structure ZAp(z I O i j a b:Addr):Prop where
 Iz:I≠z
 Oz:O≠z
 iz:i≠z
 jz:j≠z
 IO:I≠O
 Ii:I≠i
 Ij:I≠j
 Oi:O≠i
 Oj:O≠j
 ij:i≠j
 a_:a≠z/\a≠O/\a≠i/\a≠j
 b_:b≠z/\b≠O/\b≠i/\b≠j
private abbrev IsZ(h:Heap)(z I O:Addr)(f0 f1:Vb):Prop :=
 h.get? z=yz {cls:=.type "zip",dict:=yy,data:=.fields #[f0,f1,.bool yw,.ref I,.ref O],slots:=#[]}
structure ZSa(k1 k2:Bool)(z I O i j a b:Addr)(n m:Nat)(h:Heap):Prop where
 zo:∃f0 f1,IsZ h z I O f0 f1/\Q88
 io:IsPair h I (.ref i) (.ref j)
 oo:∃x y,IsPair h O x y
 i1:ItK k1 h i a n
 i2:ItK k2 h j b m
section
variable(k1 k2:Bool)(h:Heap)(a b:Addr)
private noncomputable abbrev zp1:Heap:=h.push Qu7
private noncomputable abbrev zp2:Heap:=(zp1 k1 h a).push {cls:=.type (Xea k2),data:=.fields #[.ref b,.int 0 0]}
private noncomputable abbrev zp3:Heap:=(zp2 k1 k2 h a b).push {cls:=.type "tuple",data:=.seq #[.ref h.objs.size,.ref (zp1 k1 h a).objs.size]}
private noncomputable abbrev zp4:Heap:=(zp3 k1 k2 h a b).push {cls:=.type "tuple",data:=.seq #[.none,.none]}
private noncomputable abbrev zp5:Heap:=(zp4 k1 k2 h a b).push {cls:=.type "zip",data:=.fields #[.none,.bool yw,.bool yw,.ref (zp2 k1 k2 h a b).objs.size,.ref (zp3 k1 k2 h a b).objs.size]}
universe e
def Xvm(k1 k2:Bool)(a b:Addr)(xs ys:AV):Meets (Vbb.«zip.__new__» ⟨[.type "zip",.ref a,.ref b],[]⟩) (λ_ R s=>SqK k1 s.heap a xs/\SqK k2 s.heap b ys/\R (.ok (.ret (.ref (zp4 k1 k2 s.heap a b).objs.size))) {s with heap:=zp5 k1 k2 s.heap a b}):=
 .of_wp λprog w A R s h=>by let⟨B,g,d,tk,os⟩:=s;let⟨h1,h2,h⟩:=h;let L:=sub_zip;let L1:SqK k1 (Shared.heap ⟨B,g,d,tk,os⟩) a xs:=h1;let L2:SqK k2 (Shared.heap ⟨B.push Qu7,g,d,tk,os⟩) b ys:=h2.at λo e=>Ve _ e;wp_walk using Xmp L1,Xmp L2;calc QP6
def Xyv(h1:SqK k1 s.heap a xs)(h2:SqK k2 s.heap b ys)
  (h:∀h',ZSa k1 k2 QAM (s.heap.objs.size+2) (s.heap.objs.size+3) s.heap.objs.size Qm0 a b 0 0 h'->(∀c o,s.heap.get? c=yz o->h'.get? c=yz o)->Q (.ref QAM) QV):
  Vg Q6 A (call (.type "zip") [.ref a,.ref b]) Q E s:=by
 calc callType_new F.called_zip Q1 (F.typeCall_zip_2 _ _) (F.newCall_zip_2 _ _) (λobj=>F.args_object_init_3 obj _ _) F.entry_zip_new (Xvm k1 k2 a b xs ys) ⟨h1,h2,?_⟩;let B:(zp1 k1 s.heap a).objs.size=s.heap.objs.size+1:=Vam ..;let L:(zp2 k1 k2 s.heap a b).objs.size=s.heap.objs.size+2:=by rw[Vam,B]
 let z3:(zp3 k1 k2 s.heap a b).objs.size=s.heap.objs.size+3:=by rw[Vam,L]
 let z4:(zp4 k1 k2 s.heap a b).objs.size=s.heap.objs.size+4:=by rw[Vam,z3]
 let g5:Qc4.get? (zp4 k1 k2 s.heap a b).objs.size=yz _:=Vm _ rfl;let g4:Qc4.get? (zp3 k1 k2 s.heap a b).objs.size=yz _:=Ve _ QS3;let g3:Qc4.get? (zp2 k1 k2 s.heap a b).objs.size=yz _:=Ve _ Q2J;let g2:Qc4.get? (zp1 k1 s.heap a).objs.size=yz _:=Ve _ QXZ;let g1:Qc4.get? s.heap.objs.size=yz _:=Ve _ (Ve _ QXZ);show _/\_;rw[L,z3,z4]at g5;rw[B,L]at g3;rw[z3]at g4;rw[B]at g2;rw[z4];calc⟨⟨_,g5,rfl⟩,h _ ⟨⟨_,_,g5,.inl rfl⟩,g3,⟨_,_,g4⟩,Xkd g1,Xkd g2⟩ λc o q=>Ve _ (Ve _ (Ve _ (Ve _ QRO)))⟩
abbrev Itz(K:Vh)(k1 k2:Bool)(a b:Addr):L2.It:=
 ⟨λn H=>∃xs x ys y,SqH k1 K H a xs/\xs[n]?=yz x/\SqH k2 K H b ys/\ys[n]?=yz y,
   λn H v H'=>∃T x y,v=.ref T/\H T=yy/\H'=upd H T QkP/\(∀xs,SqH k1 K H a xs->xs[n]?=yz x)/\∀ys,SqH k2 K H b ys->ys[n]?=yz y,
   λn H=>∃xs ys,SqH k1 K H a xs/\SqH k2 K H b ys/\(lg xs<=n\/lg ys<=n)⟩
def Xnv{h:Heap}{o u:Obj}{c:Addr}(e:(h.push o).get? c=yz u)(B:c≠h.objs.size):h.get? c=yz u:=by rw[Heap.get?_push_ne h c o B]at e;calc e
section
variable{prog:V0}{w:V9}{A:Uu}{E:VP}{s:Vc}{k1 k2:Bool}{z I O i j a b:Addr}{f0 f1:Vb}{n:Nat}{xs ys:AV}{x y:Vb}
def Xl4(h:Q (s.heap.get? a) s):Vg M A (loadIfAlive a) Q E s:=λ_ _ _=>h
def Xnw(hz:IsZ s.heap z I O f0 f1)(B:f0=.none\/∃T:Nat,f0=Uv T)(h1:Q' yx s)(h2:∀h' (T:Nat),IsZ h' z I O QTO QjB->U6 z s.heap h'->Q' yw QV):Vg Q6 A (Vat QG4) Q' E s:=by
 unfold Vat;rcases B with rfl|⟨T,rfl⟩;·exact Va QsC
 ·calc Va QJG;show Vg _ _ QMD _ _ _;calc Va Qkc;cases s.heap.get? Q4V with
  |none=>simp[Option.isNone_none,if_true];exact Vd h1|some o=>
   simp[Option.isNone_some,Vr,if_false];calc Va QmH;split;·exact Va (U2 hz QB λg5 e5 L=>Vd (h2 g5 T e5 L))
   ·rename_i B;let:f1=.bool true:=by simpa using B
    subst this;calc Vd (h2 s.heap T hz QQO)
def X2z{Q:VP}(D:ZAp z I O i j a b)(st:ZSa k1 k2 z I O i j a b n n s.heap)(ha:SqK k1 s.heap a xs)(hb:SqK k2 s.heap b ys)(hx:xs[n]?=yz x)(hy:ys[n]?=yz y)
  (hQ:∀h',h'.objs.size=s.heap.objs.size+1->ZSa k1 k2 z I O i j a b Q17 Q17 h'->IsPair h' s.heap.objs.size x y->QV0->Q QC QV):
  Vg Q6 A Q0B Q2A E s:=by
 let⟨⟨f0,f1,hz,hf⟩,hI,⟨a0,b0,hO⟩,h1,h2⟩:=st;show Vg _ _ QEN _ _ _;calc Va QxD;show Vg _ _ QDN _ _ _;calc Va Q19;show Vg _ _ QDS _ _ _;exact Va (Xnw hz hf ?_ λg1 T z1 c1=>?_)
 ·simp[if_true];calc Va (Vbz (Va (U1 hz rfl (x:=.ref O) rfl (Va (U2 hz QB λg1 z1 c1=>?_)))));replace z1:IsZ g1 z I O .ellipsis f1:=z1;calc Va ?_;simp[List.zipIdx_cons,List.zipIdx_nil,Vdh,Vgy];calc Va QI6;show Vg _ _ QO8 _ _ _;calc Va Q73;let o2:IsPair g2 O a0 b0:=c2.extBut _ _ D.Oi (c1.extBut _ _ D.Oz hO);calc Va (Vcq o2 rfl (Va (Vh6 o2 λg3 o3 c3=>?_)));replace o3:IsPair g3 O x b0:=o3;calc Va QWG;show Vg _ _ QN8 _ _ _;let u3:∀c o,c≠z->c≠O->c≠i->s.heap.get? c=yz o->g3.get? c=yz o:=λc o e1 e2 e3 e=>c3.extBut _ _ e2 (c2.extBut _ _ e3 QGM);calc Va (nxK Qz8 Qc8 hy λg4 j4 L=>Vd ?_);let o4:IsPair g4 O x b0:=L.extBut _ _ D.Oj o3;calc Va (Vcq o4 rfl (Va (Vh6 o4 λB o5 c5=>?_)));replace o5:IsPair B O x y:=o5;calc Va (wpAny_letGo (Vd (Vd (Va (Vcq o5 rfl (Va Q2V))))));let sz:B.objs.size=s.heap.objs.size:=by rw[c5.1,L.1,c3.1,c2.1,c1.1]
  let z5:IsZ B z I O .ellipsis f1:=c5.extBut _ _ D.Oz.symm (L.extBut _ _ D.jz.symm QY7);let u5:∀c o,c≠z->c≠O->c≠i->c≠j->s.heap.get? c=yz o->B.get? c=yz o:=λc o e1 e2 e3 e4 e=>c5.extBut _ _ e2 (L.extBut _ _ e4 (u3 c o e1 e2 e3 e));let i5:ItK k1 B i a Q17:=i2.at λo e=>c5.extBut _ _ D.Oi.symm (L.extBut _ _ D.ij (c3.extBut _ _ D.Oi.symm e));let j5:ItK k2 B j b Q17:=j4.at λo e=>c5.extBut _ _ D.Oj.symm e;let aa:z<B.objs.size:=Vy z5;show Vg _ _ (Vcn QG4 Qn4 >>= _) _ _ _;calc Va ?_;unfold Vcn;calc Va (U2 (Ve _ z5:IsZ (B.push Q6C) z I O .ellipsis f1) QB λg7 z7 c7=>?_);replace z7:IsZ g7 z I O QgQ f1:=z7;exact U2 z7 QB λg8 z8 c8=>?_;replace z8:IsZ g8 z I O QgQ QHJ:=z8;let up:∀c o,c≠z->B.get? c=yz o->g8.get? c=yz o:=λc o e1 e=>c8.extBut _ _ e1 (c7.extBut _ _ e1 QaD);let t8:IsPair g8 B.objs.size x y:=c8.extBut _ _ Q8d (c7.extBut _ _ Q8d QS3);rw[sz]at z8 t8;calc Vd Qn5;show Q Qn4 _;rw[sz];exact hQ g8 (by rw[c8.1,c7.1,Vam,sz]) ⟨⟨_,_,z8,.inr Q30⟩,up _ _ D.Iz (u5 _ _ D.Iz D.IO D.Ii D.Ij hI),⟨_,_,up _ _ D.Oz o5⟩,i5.at λo e=>up _ o D.iz e,j5.at λo e=>up _ o D.jz e⟩ t8 λc o e1 e2 e3 e4 e=>up c o e1 (u5 c o e1 e2 e3 e4 e)
 ·replace c1:U6 z s.heap g1:=c1;simp[Vr,if_false];rw[show QlS=Q4I.toArray from rfl];calc Va ?_;simp[List.forIn_toArray,Vdh,Vgy];calc Va Q2F;show Vg _ _ QO8 _ _ _;calc Va Q73;replace c2:U6 i g1 g2:=c2;calc Vd ?_;dsimp;calc Va Q2F;show Vg _ _ QN8 _ _ _;let u2:∀c o,c≠z->c≠i->s.heap.get? c=yz o->g2.get? c=yz o:=λc o e1 e3 e=>c2.extBut _ _ e3 QGM;calc Va (nxK QcB QmA hy λg4 j4 L=>Vd ?_);replace L:U6 j g2 g4:=L;calc Vd ?_;dsimp;calc Vd ?_;dsimp;show Vg _ _ (newTuple Qc9 >>= _) _ _ _;calc Va Q2V;let sz:g4.objs.size=s.heap.objs.size:=by rw[L.1,c2.1,c1.1]
  let z4:IsZ g4 z I O QTO QjB:=L.extBut _ _ D.jz.symm (c2.extBut _ _ D.iz.symm z1);let u4:∀c o,c≠z->c≠i->c≠j->s.heap.get? c=yz o->g4.get? c=yz o:=λc o e1 e3 e4 e=>L.extBut _ _ e4 (u2 c o e1 e3 e);let i4:ItK k1 g4 i a Q17:=i2.at λo e=>L.extBut _ _ D.ij e;calc Vd Qn5;show Q (.ref g4.objs.size) _;rw[sz];calc hQ _ (by rw[Vam,sz]) ⟨⟨_,_,Ve _ z4,.inr QhA⟩,Ve _ (u4 _ _ D.Iz D.Ii D.Ij hI),⟨_,_,Ve _ (u4 _ _ D.Oz D.Oi D.Oj hO)⟩,i4.at λo e=>Ve _ e,j4.at λo e=>Ve _ e⟩ ?_ λc o e1 _ e3 e4 e=>Ve _ (u4 c o e1 e3 e4 e);let:IsPair (g4.push Q6C) g4.objs.size x y:=Vm _ rfl;rw[sz]at this;calc this
def Xyw(hh:A.handled=yy)(D:ZAp z I O i j a b)(st:ZSa k1 k2 z I O i j a b n n s.heap)(ha:SqK k1 s.heap a xs)(hb:SqK k2 s.heap b ys)(ab:xs[n]?=yy\/ys[n]?=yy)
  (hE:∀h' e,QV0->QM3->E QK2 QV):
  Vg Q6 A Q0B Q E s:=by
 let⟨⟨f0,f1,hz,hf⟩,hI,⟨a0,b0,hO⟩,h1,h2⟩:=st;show Vg _ _ QEN _ _ _;calc Va QxD;show Vg _ _ QDN _ _ _;calc Va Q19;show Vg _ _ QDS _ _ _;exact Va (Xnw hz hf ?_ λg1 T z1 B=>?_)
 ·simp[if_true];calc Va (Vbz (Va (U1 hz rfl (x:=.ref O) rfl (Va (U2 hz QB λg1 z1 B=>?_)))));replace z1:IsZ g1 z I O .ellipsis f1:=z1;calc Va ?_;simp[List.zipIdx_cons,List.zipIdx_nil,Vdh,Vgy];calc Va QI6;show Vg _ _ QO8 _ _ _;cases hx:xs[n]? with
  |none=>
   calc Va (Xnu hh QN3 Q33 hx λg2 e c2 he=>?_);let⟨oe,L,aa⟩:=he;let z2:IsZ g2 z I O .ellipsis f1:=c2 _ _ D.iz.symm z1;let ez:e≠z:=λq=>by subst q;rw[z2]at L;cases L;simp! at aa
   exact U2 z2 QB λg3 _ c3=>hE g3 e (λc o e1 _ e3 _ q=>c3.extBut _ _ e1 (c2 _ _ e3 QaN)) ⟨oe,c3.extBut _ _ ez L,aa⟩|some x=>
   let hy:ys[n]?=none:=by rcases ab with q|q;rw[hx]at q;cases q;exact q
   calc Va QjC;let o2:IsPair g2 O a0 b0:=c2.extBut _ _ D.Oi (B.extBut _ _ D.Oz hO);calc Va (Vcq o2 rfl (Va (Vh6 o2 λg3 o3 c3=>Va QWG)));show Vg _ _ QN8 _ _ _;let u3:∀c o,c≠z->c≠O->c≠i->s.heap.get? c=yz o->g3.get? c=yz o:=λc o e1 e2 e3 e=>c3.extBut _ _ e2 (c2.extBut _ _ e3 QbN);calc Va (Xnu hh Qz8 Qc8 hy λg4 e c4 he=>?_);let⟨oe,L,aa⟩:=he;let z4:IsZ g4 z I O .ellipsis f1:=c4 _ _ D.jz.symm QY7;let ez:e≠z:=λq=>by subst q;rw[z4]at L;cases L;simp! at aa
   exact U2 z4 QB λg5 _ c5=>hE g5 e (λc o e1 e2 e3 e4 q=>c5.extBut _ _ e1 (c4 _ _ e4 (u3 c o e1 e2 e3 q))) ⟨oe,c5.extBut _ _ ez L,aa⟩
 ·replace B:U6 z s.heap g1:=B;simp[Vr,if_false];rw[show QlS=Q4I.toArray from rfl];calc Va ?_;simp[List.forIn_toArray,Vdh,Vgy];calc Va Q2F;show Vg _ _ QO8 _ _ _;cases hx:xs[n]? with
  |none=>exact Va (Xnu hh QN3 Q33 hx λg2 e c2 he=>hE g2 e (λc o e1 _ e3 _ q=>c2 _ _ e3 QaN) he)|some x=>
   let hy:ys[n]?=none:=by rcases ab with q|q;rw[hx]at q;cases q;exact q
   calc Va QjC;replace c2:U6 i g1 g2:=c2;calc Vd ?_;dsimp;calc Va Q2F;show Vg _ _ QN8 _ _ _;let u2:∀c o,c≠z->c≠i->s.heap.get? c=yz o->g2.get? c=yz o:=λc o e1 e3 e=>c2.extBut _ _ e3 QbN;calc Va (Xnu hh QcB QmA hy λg4 e c4 he=>hE g4 e (λc o e1 _ e3 e4 q=>c4 _ _ e4 (u2 c o e1 e3 q)) he)
def ZSa.ty(st:ZSa k1 k2 z I O i j a b n n s.heap):s.TypeIs QG4 "zip":=let ⟨_,_,q,_⟩:=st.zo;Q9X
def Xyx(D:ZAp z I O i j a b)(st:ZSa k1 k2 z I O i j a b n n s.heap)(ha:SqK k1 s.heap a xs)(hb:SqK k2 s.heap b ys)(hx:xs[n]?=yz x)(hy:ys[n]?=yz y)
  (hQ:∀h',ZSa k1 k2 z I O i j a b Q17 Q17 h'->IsPair h' s.heap.objs.size x y->QV0->Q Qtd QV):
  Vg Q6 A QRb Q E s:=by
 unfold Vdr;calc Va (Vdn (Vap (name:=Va0 "__next__") st.ty Vh7 (Us Vh7 st.ty F.entry_zip_next (X2z D st ha hb hx hy λh' _ B L q3=>Vd (hQ h' B L q3)) QgL)))
def Xyy(hh:A.handled=yy)(D:ZAp z I O i j a b)(st:ZSa k1 k2 z I O i j a b n n s.heap)(L:SqK k1 s.heap a xs)(hb:SqK k2 s.heap b ys)(B:xs[n]?=yy\/ys[n]?=yy)
  (hQ:∀h',QV0->Q yy QV):Vg Q6 A QRb Q E s:=by
 unfold Vdr;calc Va (Vdn (Vap (name:=Va0 "__next__") st.ty Vh7 (Us Vh7 st.ty F.entry_zip_next (Xyw hh D st L hb B λh' e hk he=>?_) QgL)));let⟨o,ho,hc⟩:=he;calc Va (Vfy (T:="StopIteration") (b:=yx) Q4E isSubtype_stop (Vd (hQ _ hk)))
def X6y(hz:∃f0 f1,IsZ s.heap z I O f0 f1/\Q88)(B:∀h',(∃f0 f1,IsZ h' z I O f0 f1/\Q88)->U6 z s.heap h'->Q () QV):
  Vg Q6 A (Vdb QVM QG4 QNG) Q E s:=by
 let⟨f0,f1,hz,hf⟩:=hz;unfold Vdb;calc Va QFY;show Vg _ _ (if (Qd.contains "zip" && (#[f0,f1,.bool yw,.ref I,.ref O]:AV)[0]?==yz QTO)=yx then _ else _) Q E s;split;·calc Va Q7V;show Vg _ _ (setField QG4 0 .none) Q E s;exact U2 hz QB λh' z' L=>B h' ⟨_,_,z',.inl rfl⟩ L
 ·calc Vd (B s.heap ⟨f0,f1,hz,hf⟩ QQO)
def Xnx(hz:IsZ s.heap z I O f0 f1)(h:Q QG4 s):Vg Q6 A (Vev QG4) Q E s:=by let ty:s.TypeIs QG4 "zip" := ⟨_,hz,rfl⟩;calc Vg7 ty F.slot_zip_iter (Us F.slot_zip_iter ty F.entry_zip_iter (show Vg _ _ (ret QG4) _ _ s from Vd ⟨_,rfl,"zip",_,ty,F.slot_zip_next.lookup,h⟩) (F.args_zip_iter_1 _))
universe e
def ZSa.at{k1 k2:Bool}{z I O i j a b:Addr}{n m:Nat}(x:ZSa k1 k2 z I O i j a b n m h)(k:∀c∈Q9D,∀o,h.get? c=yz o->h'.get? c=yz o):ZSa k1 k2 z I O i j a b n m h':=
 ⟨let ⟨f0,f1,q,r⟩:=x.zo;⟨f0,f1,k z QB _ q,r⟩,k I QB _ x.io,let ⟨p,q,e⟩:=x.oo;⟨p,q,k O QB _ e⟩,x.i1.at λo e=>k i QB o e,x.i2.at λo e=>k j QB o e⟩
def ZSa.some{k1 k2:Bool}{z I O i j a b:Addr}{n m:Nat}(x:ZSa k1 k2 z I O i j a b n m h):∀c∈Q9D,∃o,h.get? c=yz o/\∀v,o.data≠.cell v:=λc B=>by
 simp[Vu,Vbe,or_false]at B;rcases B with e|e|e|e|e<;>subst e
 ·let⟨f0,f1,q,_⟩:=x.zo;exact⟨_,q,λv q=>nomatch q⟩
 ·exact⟨_,x.io,λv q=>nomatch q⟩
 ·let⟨p,q,e⟩:=x.oo;exact⟨_,e,λv q=>nomatch q⟩
 ·let⟨o,e,_,d⟩:=x.i1.obj;exact QAa
 let⟨o,e,_,d⟩:=x.i2.obj;calc QAa
def Xyz{P:V0}{w:V9}{K:Vh}{es:LX}{x0:Nat}{tp:Pos}{k1 k2:Bool}{z I O i j a b:Addr}(D:ZAp z I O i j a b):
  Turn P w K Q5Q QeP Q9D z (λn h=>ZSa k1 k2 z I O i j a b n n h) where
 mem:=by simp!
 obj:=λn h st c B=>st.some c B
 keep:=λn h h' st k=>st.at k
 item:=by
  intro X hP hw hK B n pc s σ H E J hf st hg;subst hP hw hK;let⟨xs,x,ys,y,q1,hx,q2,hy⟩:=hg;let⟨af,ab,p1⟩:=Xd9 J q1;let⟨ag,ac,p2⟩:=Xd9 J q2;let⟨u1,al,aj⟩:=ab.get hx;let⟨u2,ah,ak⟩:=ac.get hy;let hT:H s.heap.objs.size=none:=J.hok.fresh Qw;let ai:∀c∈Q9D,c≠s.heap.objs.size:=λc B=>by let⟨o,e,_⟩:=st.some c B;exact Uj Q0F
  exact Xyx D st p1 p2 (x:=u1) (y:=u2) (by simpa using al) (by simpa using ah) λh' L pr kp=>⟨_,rfl,X6y L.zo λh2 z2 c2=>?_⟩;let J1:Inv X pc σ QU5 QKF:=J.laid (t':=s.toks) (λc o e=>Ve _ e) Qw ⟨by show 2<=V7;decide,[u1,u2],.cons aj (.cons ak .nil),QP2⟩;let ae:∀c∈Q9D,Xa5 X pc QU5 c:=λc B=>⟨by rw[Xe (ai c B)];calc QAO.1,QAO.2⟩;let J2:Inv X pc σ QU5 Q34:=Xg5 (s:=QKF) (h':=h2) (t':=s.toks) J1 ae λc o B e=>by
   simp[Vu,Vbe,or_false,not_or]at B;calc c2.extBut _ _ B.1 ?_;by_cases q:c=s.heap.objs.size;·subst q;let e':=(Vm s.heap (o:=Qv4) rfl).symm.trans e;rw[<-e'];exact pr
   ·exact kp c o B.1 B.2.2.1 B.2.2.2.1 B.2.2.2.2 (Xnv e q)
  calc⟨.ref s.heap.objs.size,_,J2,rfl,⟨s.heap.objs.size,x,y,rfl,hT,rfl,λzs hz=>?_,λzs hz=>?_⟩,?_,λc B=>(ae c B).1⟩;·rw[Xii J hz q1];exact hx
  ·rw[Xii J hz q2];exact hy
  let aa:∀c o,c≠z->h'.get? c=yz o->h2.get? c=yz o:=λc o e1 e=>c2.extBut _ _ e1 e;exact⟨z2,aa _ _ D.Iz L.io,let ⟨p,q,e⟩:=L.oo;⟨p,q,aa _ _ D.Oz e⟩,L.i1.at λo e=>aa _ o D.iz e,L.i2.at λo e=>aa _ o D.jz e⟩
 done:=by
  intro X hP hw hK B n pc s σ H E J hf st hg;subst hP hw hK;let⟨xs,ys,q1,q2,hl⟩:=hg;let⟨af,ab,p1⟩:=Xd9 J q1;let⟨ag,ac,p2⟩:=Xd9 J q2;let l1:=ab.length;let l2:=ac.length;exact Xyy QcY D st p1 p2 ?_ λh' kp=>⟨rfl,Xg5 (t':=s.toks) J hf λc o B e=>?_⟩
  ·rcases hl with hl|hl;·exact .inl Qc3
   ·exact .inr Qc3
  simp[Vu,Vbe,or_false,not_or]at B;exact kp c o B.1 B.2.2.1 B.2.2.2.1 B.2.2.2.2 e
 self:=λ_ _ _ _ _ st h=>let ⟨_,_,q,_⟩:=st.zo;Xnx q h
private abbrev Xdi(h:Heap)(e it:Addr)(i:Int)(f0 f1 B:Vb):Prop :=
 h.get? e=yz {cls:=.type "enumerate",dict:=yy,data:=.fields #[f0,f1,.ref it,Uv i,.none,B],slots:=#[]}
theorem EnA(h:Heap)(e it:Addr)(i:Int):Prop:=∃f0 f1 B,Xdi h e it i f0 f1 B/\(f0=.none\/∃a:Nat,f0=Uv a)
structure NSt(k:Bool)(e it a:Addr)(n:Nat)(h:Heap):Prop where
 eo:EnA h e it n
 io:ItK k h it a n
section
variable{prog:V0}{w:V9}{A:Uu}{E:VP}{s:Vc}{k:Bool}{e it a:Addr}{n:Nat}{xs:AV}{x:Vb}
def X6z{i:Int}{f0 f1 B:Vb}{Q':Bool->Vc->Prop}(hz:Xdi s.heap e it i f0 f1 B)(hf:f0=.none\/∃a:Nat,f0=Uv a)(h1:Q' yx s)(h2:∀h' (f:Vb),EnA h' e it i->U6 e s.heap h'->Q' yw QV):Vg Q6 A (Vat QK2) Q' E s:=by
 unfold Vat;rcases hf with rfl|⟨T,rfl⟩;·exact Va QsC
 ·calc Va QJG;show Vg _ _ QMD _ _ _;calc Va Qkc;cases s.heap.get? Q4V with
  |none=>simp[Option.isNone_none,if_true];exact Vd h1|some o=>
   simp[Option.isNone_some,Vr,if_false];calc Va QmH;split;·exact Va (U2 hz QB λg5 e5 L=>Vd (h2 g5 f1 ⟨_,_,_,e5,.inr QhA⟩ L))
   ·calc Vd (h2 s.heap f1 ⟨_,_,_,hz,.inr QhA⟩ QQO)
def X20{hp g4:Heap}{g d tk os}{i:Int}{f0 f1 B:Vb}{T:Addr}{Q:Fin->Vc->Prop}(e4:Xdi g4 e it i f0 f1 B)
  (hQ:∀L,EnA L e it i->(∀b o,b≠e->g4.get? b=yz o->L.get? b=yz o)->Q (.done (.ret QNG)) ⟨L,g,d,tk,os⟩):
  Vg Q6 A (do
   rule "enumerate.__next__.owned-tuple-again"
   let B <- field QK2 5
   setField QK2 5 x
   Vcn QK2 QNG
   letGo [B] [.ref T]
   ret QNG) Q E ⟨g4,g,d,tk,os⟩:=by
 calc Va (Vbz (Va (U1 e4 rfl (x:=B) rfl (Va (U2 e4 QB λg5 e5 c5=>?_)))));replace c5:U6 e g4 g5:=c5;replace e5:Xdi g5 e it i f0 f1 x:=e5;calc Va ?_;unfold Vcn;calc Va (U2 e5 QB λg6 e6 c6=>?_);replace c6:U6 e g5 g6:=c6;replace e6:Xdi g6 e it i QTO f1 x:=e6;calc U2 e6 QB λL e7 c7=>?_;replace c7:U6 e g6 L:=c7;replace e7:Xdi L e it i QTO QHJ x:=e7;calc Va (wpAny_letGo (Vd (hQ L ⟨_,_,_,e7,.inr QhA⟩ λb o h1 q=>c7.extBut b o h1 (c6.extBut b o h1 (c5.extBut b o h1 q)))))
def Xy0{Q:VP}(L:e≠it)(he:EnA s.heap e it n)(hi:ItK k s.heap it a n)(ha:SqK k s.heap a xs)(hx:xs[n]?=yz x)
  (hQ:∀h',EnA h' e it QW8->ItK k h' it a Q17->h'.get? s.heap.objs.size=yz Qt8 ->
   Qk6->Q QC QY6):
  Vg Q6 A (Vbb.«enumerate.__next__» ⟨[.ref e],[]⟩) Q2A E s:=by
 let⟨f0,f1,B,he,hf⟩:=he;let⟨hp,g,d,tk,os⟩:=s;show Vg _ _ QCN _ _ _;calc Va (U1 he rfl (x:=.ref it) rfl (Va (nxK hi ha hx λg1 i1 c1=>?_)));replace c1:U6 it hp g1:=c1;let e1:Xdi g1 e it n f0 f1 B:=(c1.2 e L).trans he;show Vg _ _ (field QK2 3 >>= _) _ _ QN9;calc Va (U1 e1 rfl (x:=Uv n) rfl ?_);show Vg _ _ (field QK2 4 >>= _) _ _ QN9;calc Va (U1 e1 rfl (x:=.none) rfl ?_);show Vg _ _ (mkInt n >>= _) _ _ QN9;calc Va (wpAny_mkInt ?_);show Vg _ _ (setField QK2 3 (Uv QW8) >>= _) _ _ ⟨g1,g,d,tk+1,os⟩;calc Va (U2 e1 QB λg2 e2 c2=>?_);replace c2:U6 e g1 g2:=c2;replace e2:Xdi g2 e it QW8 f0 f1 B:=e2;show Vg _ _ (setField QK2 4 .none >>= _) _ _ ⟨g2,g,d,tk+1,os⟩;calc Va (U2 e2 QB λg3 e3 c3=>?_);replace c3:U6 e g2 g3:=c3;replace e3:Xdi g3 e it QW8 f0 f1 B:=e3;show Vg _ _ (newTuple [.int n tk,x] >>= _) _ _ ⟨g3,g,d,tk+1,os⟩;calc Va Q2V;let e4:Xdi (g3.push Qr3) e it QW8 f0 f1 B:=Ve _ e3;generalize q4:g3.push Qr3=g4 at e4;let sz:g3.objs.size=hp.objs.size:=by rw[c3.1,c2.1,c1.1]
 let el:e<hp.objs.size:=Vy he;let t4:g4.get? hp.objs.size=yz Qr3:=by rw[<-q4,<-sz];exact Vm _ rfl
 let k4:∀b o,b≠e->b≠it->hp.get? b=yz o->g4.get? b=yz o:=λb o h1 h2 hb=>by rw[<-q4];exact Ve _ (c3.extBut b o h1 (c2.extBut b o h1 (c1.extBut b o h2 hb)))
 let i4:ItK k g4 it a Q17:=i1.at λo q=>by rw[<-q4];exact Ve _ (c3.extBut _ _ Q8H (c2.extBut _ _ Q8H q))
 show Vg _ _ (Vat QK2 >>= _) _ _ ⟨g4,g,d,tk+1,os⟩;rw[sz];clear q4 e3 c3 e2 c2 e1 c1 i1 sz g3 g2 g1;let fin:∀g7,EnA g7 e it QW8->(∀b o,b≠e->g4.get? b=yz o->g7.get? b=yz o)->∃v,(Fin.done (.ret QT8))=.done QLV/\Q v ⟨g7,g,d,tk+1,os⟩:=λg7 e7 up=>⟨_,rfl,hQ g7 e7 (i4.at λo q=>up _ o Q8H q) (up _ _ (Vc3 el) t4) λb o h1 h2 hb=>up b o h1 (k4 b o h1 h2 hb)⟩;calc Va (X6z e4 hf ?_ λg5 f5 e5 c5=>?_);·simp[if_true];exact X20 (hp:=hp) e4 fin
 ·simp[Vr,if_false];calc Vd (fin g5 e5 λb o h1 q=>c5.extBut b o h1 q)
def Xy1(L:e≠it)(B:EnA s.heap e it n)(hi:ItK k s.heap it a n)(ha:SqK k s.heap a xs)(hx:xs[n]?=yz x)
  (hQ:∀h',EnA h' e it QW8->ItK k h' it a Q17->h'.get? s.heap.objs.size=yz Qt8 ->
   Qk6->Q Qtd QY6):Vg Q6 A QQb Q E s:=by
 let hT:s.TypeIs QK2 "enumerate":=by let⟨f0,f1,aa,B,_⟩:=B;exact QQ6
 unfold Vdr;calc Va (Vdn (Vap (name:=Va0 "__next__") hT Vfp (Us Vfp hT F.entry_enumerate_next (Xy0 L B hi ha hx λh' q1 q2 q3 q4=>Vd (hQ h' q1 q2 q3 q4)) QAH)))
def Xy2(hh:A.handled=yy)(B:EnA s.heap e it n)(hi:ItK k s.heap it a n)(ha:SqK k s.heap a xs)(hx:xs[n]?=yy)
  (hQ:∀h',Heap.ExtBut it s.heap h'->Q yy QV):Vg Q6 A QQb Q E s:=by
 let⟨f0,f1,ab,B,_⟩:=B;let hT:s.TypeIs QK2 "enumerate" := QQ6;unfold Vdr;calc Va (Vdn (Vap (name:=Va0 "__next__") hT Vfp (Us Vfp hT F.entry_enumerate_next ?_ QAH)));show Vg _ _ QCN _ _ _;calc Va (U1 B rfl (x:=.ref it) rfl (Va (Xnu hh hi ha hx λh' x aa L=>?_)));let⟨o,ho,hc⟩:=L;calc Va (Vfy (T:="StopIteration") (b:=yx) Q4E isSubtype_stop (Vd (hQ _ aa)))
def X60(hz:EnA s.heap e it i)(L:∀h',EnA h' e it i->U6 e s.heap h'->Q () QV):
  Vg Q6 A (Vdb QVM QK2 QNG) Q E s:=by
 let⟨f0,f1,B,hz,hf⟩:=hz;unfold Vdb;calc Va QFY;show Vg _ _ (if (Qd.contains "enumerate" && (#[f0,f1,.ref it,Uv i,.none,B]:AV)[0]?==yz QTO)=yx then _ else _) Q E s;split;·calc Va Q7V;show Vg _ _ (setField QK2 0 .none) Q E s;exact U2 hz QB λh' z' c'=>L h' ⟨_,_,_,z',.inl rfl⟩ c'
 ·calc Vd (L s.heap ⟨f0,f1,B,hz,hf⟩ QQO)
universe e
def Xny(B:EnA s.heap e it i)(h:Q QK2 s):Vg Q6 A (Vev QK2) Q E s:=by let⟨f0,f1,L,q,_⟩:=B;let ty:s.TypeIs QK2 "enumerate" := Q9X;exact Vg7 ty F.slot_enumerate_iter (Us F.slot_enumerate_iter ty F.entry_enumerate_iter (show Vg _ _ (ret QK2) _ _ s from Vd ⟨_,rfl,"enumerate",_,ty,F.slot_enumerate_next.lookup,h⟩) (F.args_enumerate_iter_1 _))
open AutoSeq1 (wpAny_loadPart')
abbrev X61(k:Bool):String:=match k with
 |true => "list"|false => "tuple"
def Xy3(k:Bool)(a:Addr)(xs:AV)(n:Nat)(dct:Option Addr)(sl:Array OV):Meets (Vbb.«enumerate.__new__» ⟨[.type "enumerate",.ref a],[]⟩) (λ_ R s=>s.heap.get? a=yz QU7 /\
   R (.ok (.ret (.ref (s.heap.push Qz).objs.size))) {s with heap:=QJ7.push Qs0 }):=
 .of_wp λprog w A R s h=>by
  let⟨hp,g,d,tk,os⟩:=s;let⟨hl,h⟩:=h;let B:=sub_enumerate;let L:SqK k (Shared.heap ⟨hp,g,d,tk,os⟩) a xs:=by cases k<;>exact⟨_,hl,rfl,n,rfl⟩
  wp_walk using Vcz hl;exact wpAny_stack_any λst=>Vd ?_;split;·rename_i c _ _ _ _ _;cases (c==Vb8 "enumerate")<;>(wp_walk using Vcz hl,Xmp L;calc QP6)
  ·wp_walk using Vcz hl,Xmp L;calc QP6
def X21(L:SqK k s.heap a xs)
  (h:∀h',NSt k Qm0 s.heap.objs.size a 0 h'->QI0->Q QBJ QV):
  Vg Q6 A (call (.type "enumerate") Q8C) Q E s:=by
 obtain⟨n,dct,sl,hl⟩:∃n dct sl,s.heap.get? a=yz QU7:=by cases k<;>(let⟨⟨c,dct,dt,sl⟩,hl,hc,n,hd⟩:=L;cases hc;cases hd;calc⟨n,dct,sl,hl⟩)
 calc callType_new F.called_enumerate Q1 (F.typeCall_enumerate_1 _) (F.newCall_enumerate_1 _) (λobj=>F.args_object_init_2 obj _) F.entry_enumerate_new (Xy3 k a xs n dct sl) ⟨hl,?_⟩;let hz:(s.heap.push Qz).objs.size=s.heap.objs.size+1:=Vam ..;show _/\_;rw[hz];let B:Xdi (QJ7.push Qs0) Qm0 s.heap.objs.size 0 .none QHJ .none:=by let:=Vm QJ7 (o:=Qs0) rfl;rw[hz]at this;exact this
 calc⟨QQ6,h _ ⟨⟨_,_,_,B,.inl rfl⟩,Xkd Q2J⟩ λb o q=>Ve _ QRO⟩
abbrev Ite(K:Vh)(k:Bool)(a:Addr):L2.It:=
 ⟨λn H=>∃xs x,SqH k K H a xs/\xs[n]?=yz x,
   λn H v H'=>∃T x,v=.ref T/\H T=yy/\H'=upd H T (.tup QAc)/\∀xs,SqH k K H a xs->xs[n]?=yz x,
   λn H=>∃xs,SqH k K H a xs/\QU<=n⟩
def NSt.at(x:NSt k e it a n h)(q:∀c∈QxT,∀o,h.get? c=yz o->h'.get? c=yz o):NSt k e it a n h':=
 ⟨let ⟨f0,f1,old,z,r⟩:=x.eo;⟨f0,f1,old,q e QB _ z,r⟩,x.io.at λo z=>q it QB o z⟩
def NSt.some(x:NSt k e it a n h):∀c∈QxT,∃o,h.get? c=yz o/\∀v,o.data≠.cell v:=λc B=>by
 simp[Vu,Vbe,or_false]at B;rcases B with z|z<;>subst z
 ·let⟨f0,f1,L,z,_⟩:=x.eo;exact⟨_,z,λv q=>nomatch q⟩
 let⟨o,z,_,d⟩:=x.io.obj;calc⟨o,z,d⟩
def X22{P:V0}{w:V9}{K:Vh}{es:LX}{x0:Nat}{tp:Pos}{k:Bool}{e it a:Addr}(aa:e≠it):
  Turn P w K Q5Q QdY QxT e (λn h=>NSt k e it a n h) where
 mem:=by simp!
 obj:=λn h st c B=>st.some c B
 keep:=λn h h' st q=>st.at q
 item:=by
  intro X hP hw hK B n pc s σ H E J hf st hg;subst hP hw hK;let⟨xs,x,q1,hx⟩:=hg;let⟨its,rv,p⟩:=Xd9 J q1;let⟨u,hu,ru⟩:=rv.get hx;let hT:H s.heap.objs.size=none:=J.hok.fresh Qw;let ab:∀c∈QxT,c≠s.heap.objs.size:=λc B=>by let⟨o,z,_⟩:=st.some c B;exact Uj (Vy z)
  exact Xy1 aa st.eo st.io p (x:=u) QUD λh' ae ac pr kp=>⟨_,rfl,X60 ae λh2 e2 c2=>?_⟩;let J1:Inv X pc σ QL4 QLF:=J.laid (t':=s.toks) (λc o z=>Ve _ z) Qw ⟨by show 2<=V7;decide,[.int n s.toks,u],.cons Q30 QTB,QP2⟩;let L:∀c∈QxT,Xa5 X pc QL4 c:=λc B=>⟨by rw[Xe (ab c B)];calc QAO.1,QAO.2⟩;let J2:Inv X pc σ QL4 {s with heap:=h2,toks:=s.toks+1}:=Xg5 (s:=QLF) (h':=h2) (t':=s.toks+1) J1 L λc o B z=>by
   simp[Vu,Vbe,or_false,not_or]at B;calc c2.extBut _ _ B.1 ?_;by_cases q:c=s.heap.objs.size;·subst q;let z':=(Vm s.heap (o:=QO3) rfl).symm.trans z;rw[<-z'];exact pr
   ·exact kp c o B.1 B.2 (Xnv z q)
  calc⟨.ref s.heap.objs.size,_,J2,rfl,⟨s.heap.objs.size,x,rfl,hT,rfl,λzs hz=>?_⟩,?_,λc B=>(L c B).1⟩;·rw[Xii J hz q1];exact hx
  ·exact⟨e2,ac.at λo z=>c2.extBut _ _ QnW z⟩
 done:=by intro X hP hw hK B n pc s σ H E J hf st hg;subst hP hw hK;let⟨xs,q1,hl⟩:=hg;let⟨its,rv,p⟩:=Xd9 J q1;let l1:=rv.length;exact Xy2 QcY st.eo st.io p Qc3 λh' kp=>⟨rfl,Xg5 (t':=s.toks) J hf λc o B z=>?_⟩;simp[Vu,Vbe,or_false,not_or]at B;exact kp c o B.2 z
 self:=λ_ _ _ _ _ st h=>Xny st.eo h
def Xl5(a b:Int):Vbu a b (-1)=if a>b then a-b else 0:=by unfold Vbu;rw[iN0 Q1];split<;>simp!<;>omega
def Xs7(ha:-QRB<=a)(L:a<2^62)(hb:-QRB<=b)(B:b<2^62):Vdv a b (-1)=true:=by
 unfold Vdv;rw[Xl5];simp[Builtin.Range.rangeFitsLong,bA0,Vb7,decide_eq_true_eq,beq_iff_eq,show ¬ Q6g>0 by decide,if_false];let q:∀x:Int,-QRB<=x->x<2^62->-2^63<=x/\x<2^63:=λx h1 h2=>QiK;split;·exact⟨⟨QkB,by omega,by omega⟩,.inr (by rw[show Q6g+1=0 from rfl,Int.add_zero];calc q b hb B)⟩
 ·calc⟨⟨QkB,by decide⟩,.inl rfl⟩
abbrev Itd(lo:Int)(n:Nat):L2.It where
 go:=λi _=>i<n
 yld:=λi H x H'=>H'=H/\x=.int Qmf
 stop:=λi _=>n<=i
def Xvn{P:V0}{w:V9}{K:Vh}{tg:Expr}(it:Addr)(lo:Int)(n:Nat):Turn P w K tg QgZ [it] it (λi h=>IsRangeIter h it (lo+(i:Nat)*(-1)) Q9Q (-1)) where
 mem:=by simp!
 obj:=λi h st b B=>by
  obtain rfl:b=it:=by simpa using B
  exact⟨_,st,λv z=>nomatch z⟩
 keep:=λi h h' st k=>k it QB _ st
 item:=by
  intro X hP hw hK hc i pc s σ H E I hf st hg;subst hP hw hK;let⟨f0,f1,f2,f3,f4,f5⟩:=hf it QB;exact(Walks.range (prog:=X.prog) (w:=X.w) Q87 it lo (-1) n).item i s _ _ hg st λv h' tk hv L kk=>?_;let⟨t,rfl⟩:=hv;let I1:Inv X pc σ H Qt:=I.turned QaB f0 f1 f3 f4 f5;calc⟨_,rfl,Xmn (s:=Qt) (n:="range_iterator") L rfl rfl Q1 ⟨.int Qmf,H,I1,Q6c,QD0,L,λb B=>QBO.1⟩⟩;let e:lo+(i:Int)*(-1)=lo-i:=by omega
  rw[e]
 done:=by intro X hP hw hK hc i pc s σ H E I hf st hg;subst hP hw hK;let⟨f0,f1,f2,f3,f4,f5⟩:=hf it QB;let hn:n<=i:=hg;exact wpAny_pyNext_range_end Q87 st Q0 λh' eb=>QY0
 self:=λ_ _ _ _ _ st h=>wpAny_pyIter_rangeiter st h
section
variable{X:Cx}{tg:Expr}
def X23{pc:LA}{R:L2.It->Hp->Prop}{E:VP}{lo hi:Int}{tk:Nat}(I:Inv X pc σ H s)(h1:-QRB<=lo)(h2:lo<2^62)(h3:-QRB<=hi)(h4:hi<2^62)
  (q:R (Itd lo QdJ.toNat) H):Vg Q2 X.A QOO QXO E QlB:=by
 calc wpAny_pyIter_range QaA (Xs7 h1 h2 h3 h4) ?_;generalize hR:(Qq1:Obj)=B;let L:Inv X pc σ H {s with heap:=s.heap.push B,toks:=tk}:=I.kept λb o e=>Ve _ e;exact⟨(s.heap.push B).objs.size,[(s.heap.push B).objs.size],_,_,H,rfl,L.kept (t':=tk) λb o e=>Ve _ e,Xvn _ lo QdJ.toNat,?_,λb hb=>?_,q⟩
 ·let e1:lo+QS4*(-1)=lo:=by simp!
  let e2:QrN-QS4=Vbu lo hi (-1):=by rw[Xl5];split<;>omega
  show IsRangeIter _ _ (lo+QS4*(-1)) (QrN-QS4) (-1);rw[e1,e2];exact Vm _ rfl
 ·obtain rfl:b=(s.heap.push B).objs.size:=by simpa using hb
  calc L.fpOk Qw QiQ
universe e
section
variable{X:Cx}{pc:LA}{σ:L2.St}{H:Hp}{s:Vc}{ρ:LR}
def Xja{P:V0}{w:V9}:∀ {ks:LI} {us:LV},Vals Q0T us->ItemsAre QCS ks us
 |[],_,r=>by rw[Vgj]at r;cases r;exact .nil|k::ks,_,r=>by
  rw[Uk]at r;cases r with
  |cons h t=>let⟨B,rfl⟩:=h;calc .cons (by simp![Vbh,Value.isInt]) (Xja t)
def Xke(I:Inv X pc σ H s)(h:SqT X.K H b QPU):(tupleKind QeQ).is s.heap k b:=by let⟨its,r,⟨o,e,c,n,dt⟩,_⟩:=I.tuple h;calc⟨o,its.toArray,n,e,c,dt,by simpa using Xja r⟩
def X1o:∀ {ds:LD} {ks:LI},Xf ds=yz ks->ds=ks.map D.int
 |[],ks,h=>by cases h;rfl|.int i::r,ks,h=>by simp[Xf,Uh]at h;let⟨B,h1,rfl⟩:=h;rw[X1o h1];rfl|.non::r,ks,h=>by cases h|.bl _::r,ks,h=>by cases h|.str _::r,ks,h=>by cases h|.tup _::r,ks,h=>by cases h|.ref _::r,ks,h=>by cases h|.fro _::r,ks,h=>by cases h|.fn _ _::r,ks,h=>by cases h|.edc::r,ks,h=>by cases h
def X62{K:Vh}(h:Xf ds=yz ks)(r:RD K ρ H QjD v):∃b,v=.ref b/\SqT K H b Q0T:=by simp[RD]at r;let⟨b,vs,rfl,h1,h2⟩:=r;rw[X1o h]at h2;rw[RDs.ints_of h2]at h1;calc⟨b,rfl,h1⟩
universe e
abbrev Itx(a:Addr)(o:Obj)(xs:List QN5):L2.It:=
 ⟨λi H=>QzO/\i<lg xs,
   λi H v H'=>∃T p,xs[i]?=yz p/\v=.ref T/\H T=yy/\H'=upd H T (.tup [.ref p.2.1,p.2.2]),
   λi H=>QzO/\QU<=i⟩
section
variable{X:Cx}{pc:LA}{σ:L2.St}{H:Hp}{s:Vc}{ρ:LR}{S S':Sto}{env:En}{Q:VP}{E:VP}{a b c e tg iter:Expr}{f:En->Sto->R D}{pos:Pos}
theorem DG(X:Cx)(tg:Expr)(t:Tg):Prop:=
 ∀(pc:LA) (s:Vc) (σ:L2.St) (H:Hp) (ρ:LR) (S:Sto) (env:En) (d:D) (v:V) (u:Vb) (B:En) (Q:Unit->Vc->Prop) (E:VP),S0 X pc σ H s ρ S env->X0 t d env=yz B->RD X.K ρ H d v->RelV v u ->
  (∀s' L,S0 X pc L H s' ρ S B->Q () s')->Vg Q2 X.A (assign tg X.env u) Q E s
def X24(hN:X.N.Nodup)(hi:X.N[i]?=yz x)(hx:Loc X.env.scope x)(hf:X.fn x=yx\/X.env.scope.names.lookup x=yz .local):DG X Qs7 QL1:=by intro pc s σ H ρ S env d v u B Q E I h rd rv hQ;simp[X0,Vw]at h;subst h;calc Vi6 (Xcb I.inv hN hi hx rv (λs' L=>hQ s' _ ⟨L,I.sr,I.er.set i rd⟩) hf)
abbrev gNs:LN->TGs
 |[]=>X55|i::is=>X1g Qye QWU
def Xvo:∀(is:LN) (vs:LW) (σ:L2.St) (H:Hp) (Q:L2.St->Hp->Prop),lg is=lg vs->Q QrH H->gNs is vs σ H Q
 |[],vs=>fun σ H Q hl h=>by
  let:vs=[]:=by simpa using hl.symm
  subst this;calc QqO|i::is,[]=>fun σ H Q hl h=>by simp! at hl|i::is,v::vs=>fun σ H Q hl h=>⟨v,vs,rfl,Xvo is vs _ H Q QVD h⟩
def ER.sets{K:Vh}:∀(is:LN) (ds:LD) (vs:LW) (env:En) (σ:L2.St),RDs K ρ H ds vs->ER K ρ H env σ->ER K ρ H QX8 QrH
 |[],ds=>λvs env σ r e=>by simpa using e|i::is,[]=>λvs env σ r e=>by simp[RDs]at r;subst r;simpa using e|i::is,d::ds=>λvs env σ r e=>by simp[RDs]at r;let⟨v,B,rfl,h1,h2⟩:=r;calc ER.sets is ds B _ _ h2 (e.set i h1)
def X63(hc:X.calm=yx)(h:∀E,PGs QX4 es QWU)(hn:Qk3.length=lg is)(aa:Qk3.findIdx? Qu=yy):DG X Q6Q QiD:=by
 intro pc s σ H ρ S env d v u ab Q E I hd rd rv hQ;cases d with
 |tup ds=>
  simp[X0]at hd;split at hd
  ·rename_i hl;cases hd;simp[RD]at rd;let⟨a,vs,rfl,hs,hr⟩:=rd;let L:QWR=lg vs:=by rw[hl,hr.length]
   exact thn (X56 (X:=X.wish E) (n:=lg is) hc (h E) hn aa pc s σ H Q40 u (λB H'=>H'=H/\B=(is.zip vs).foldl Q21 σ) QH9 rv ⟨a,vs,rfl,hs,L.symm,Xvo is vs σ H _ L QD0⟩) λ_ s' zz=>?_;let⟨B,H',J,e1,e2⟩:=zz;subst e1 e2;exact hQ s' _ ⟨J.unwish,I.sr,ER.sets is ds vs env σ hr I.er⟩
  cases hd|_=>cases hd
def Xvp:∀(is:LN) (xs:List QZP),X.N.Nodup->lg is=lg xs->(∀(j i:Nat) (x:Str×Pos),is[j]?=yz i->xs[j]?=yz x->X.N[i]?=yz x.1/\Loc X.env.scope x.1/\Qm7) ->
  PGs X Qs3 QWU
 |[],xs=>λ_ hl _=>by
  let:xs=[]:=by simpa using hl.symm
  subst this;calc X2j|i::is,[]=>λ_ hl _=>by simp! at hl|i::is,x::xs=>λhN hl h=>by let⟨h1,h2,B⟩:=h 0 i x rfl rfl;calc Xyh (X2i hN h1 h2 B) (Xvp is xs hN QVD λj L x' e1 e2=>h QuB L x' (by simpa using e1) (by simpa using e2)) rfl
def Xjb:∀(xs:List QZP) (env:Vb0),Q8V.length=lg xs/\Q8V.findIdx? Qu=yy
 |[]=>λenv=>QD0|x::xs=>λenv=>by let h:=Xjb xs env;let e:Vb3 (Q4A.map λx=>Expr.Name x.1 x.2) env=(yw,assign (.Name x.1 x.2) env)::Vb3 Qs3 env:=rfl;rw[e];calc⟨by simp![h.1],?_⟩;rw[List.findIdx?_cons];simp![h.2]
theorem SrcK(K:Vh)(ρ:LR)(H:Hp):Src->Bool->Addr->Prop
 |.con xs,yw,a=>∃vs,SqT K H a vs/\RDs K ρ H xs vs|.con xs,yx,a=>∃vs,FrL K H a vs/\RDs K ρ H xs vs|.ref n,yx,a=>ρ[n]?=yz a|_,_,_=>False
def SrcK.mono'{K:Vh}{ρ':LR}{H':Hp}{src:Src}{k:Bool}{a:Addr}(x:Mon K ρ ρ' H H')(h:SrcK K ρ H src k a):SrcK K ρ' H' src k a:=by
 cases src with
 |con xs=>cases k with
  |false=>let⟨vs,h1,h2⟩:=h;calc⟨vs,x.tup _ _ h1,RDs.mono' x _ _ h2⟩|true=>let⟨vs,h1,h2⟩:=h;calc⟨vs,x.fro _ _ h1,RDs.mono' x _ _ h2⟩
 |ref n=>cases k with
  |false=>calc h.elim|true=>calc x.pre _ _ h
 |zpp _ _=>calc h.elim|enm _=>calc h.elim
def SrcK.get{src:Src}{k:Bool}{a:Addr}{i:Nat}{o:Option D}(h:SrcK X.K ρ H src k a)(I:S0 X pc σ H s ρ S env)(g:src.get S i=yz o):∃vs,SqH k X.K H a vs/\match o with
  |some d=>∃v,vs[i]?=yz v/\RD X.K ρ H d v|none=>lg vs<=i:=by
 cases src with
 |con xs=>
  obtain⟨vs,h1,h2⟩:∃vs,SqH k X.K H a vs/\RDs X.K ρ H xs vs:=by
   cases k with
   |false=>exact h|true=>let⟨vs,h1,h2⟩:=h;exact⟨vs,h1.sq,h2⟩
  simp[Src.get,Vw]at g;calc⟨vs,h1,?_⟩;cases o with
  |some d=>calc h2.get g|none=>let:=h2.none g;rw[Uz]at this;calc this
 |ref n=>cases k with
  |false=>exact h.elim|true=>
   simp[Src.get,Uh]at g;let⟨xs,g1,g2⟩:=g;let⟨a',vs,k1,k2,B⟩:=I.list g1;let h':ρ[n]?=yz a:=h;rw[h']at k1;cases k1;calc⟨vs,.of k2,?_⟩;cases o with
   |some d=>calc B.get g2|none=>let:=B.none g2;rw[Uz]at this;calc this
 |zpp _ _=>calc h.elim|enm _=>calc h.elim
inductive SrcR(K:Vh)(ρ:LR)(H:Hp):Src->L2.It->Prop where
 |tup {a:Addr} {xs:LD} {vs:LW}:SqT K H a vs->RDs K ρ H xs vs->SrcR K ρ H QV8 Qeb
 |rng (lo:Int) (n:Nat):SrcR K ρ H (.con (QxR.map λ(k:Nat)=>D.int QXa)) QfZ
 |lst {n:Nat} {a:Addr}:ρ[n]?=yz a->SrcR K ρ H QQ1 QOS
 |frl {a:Addr} {xs:LD} {vs:LW}:FrL K H a vs->RDs K ρ H xs vs->SrcR K ρ H QV8 QOS
 |zpp {s1 s2:Src} {k1 k2:Bool} {a b:Addr}:SrcK K ρ H s1 k1 a->SrcK K ρ H s2 k2 b->SrcR K ρ H (.zpp s1 s2) QeP
 |dwn (lo:Int) (n:Nat):SrcR K ρ H (.con (QxR.map λ(k:Nat)=>D.int Qlf)) QgZ
 |enm {s1:Src} {k:Bool} {a:Addr}:SrcK K ρ H s1 k a->SrcR K ρ H (.enm s1) QdY
 |dic {a:Addr} {o:Obj} {u:HO} {kvs:List QbE} {xs:List QN5}:H a=yz QW1->DX K ρ H kvs xs->SrcR K ρ H (.con (kvs.map X6e)) (Itx a o xs)
def X1p{K:Vh}{ρ:LR}{H:Hp}:∀ {kvs:List QbE} {xs:List QN5} {i:Nat} {p:LI×D},DX K ρ H kvs xs->kvs[i]?=yz p->∃q,xs[i]?=yz q/\p.1=q.1/\SqT K H q.2.1 QAB/\RD K ρ H p.2 q.2.2
 |_,_,i,_,.nil,h=>by simp! at h|_,_,0,_,.cons r _,h=>by simp! at h;subst h;calc QjK|_,_,i+1,_,.cons _ t,h=>by let⟨q,h1,h2⟩:=X1p (i:=i) t QD2;calc⟨q,by simpa using h1,h2⟩
def SrcR.mono'{K:Vh}{ρ':LR}{H':Hp}{src:Src}{J:L2.It}(x:Mon K ρ ρ' H H')(h:SrcR K ρ H src J):SrcR K ρ' H' src J:=by
 cases h with
 |tup h1 h2=>calc .tup (x.tup _ _ h1) QPM|rng lo n=>calc .rng lo n|lst h=>calc .lst (x.pre _ _ h)|frl h1 h2=>calc .frl (x.fro _ _ h1) QPM|zpp h1 h2=>calc .zpp QLW (h2.mono' x)|dwn lo n=>calc .dwn lo n|enm h1=>calc .enm QLW|dic h1 h2=>calc .dic (x.frz _ _ _ h1) (h2.mono x)
def SrcR.mono{K:Vh}{ρ':LR}{H':Hp}{src:Src}{J:L2.It}(x:Stp K ρ ρ' H H')(h:SrcR K ρ H src J):SrcR K ρ' H' src J:=h.mono' x.toMon
def Xrd{s1 s2:Src}{i:Nat}{o:Option D}(g:(Src.zpp s1 s2).get S i=yz o):∃L B,s1.get S i=yz L/\s2.get S i=yz B/\match o with
  |some d=>∃x y,L=yz x/\B=yz y/\d=.tup Qc9|none=>L=yy\/B=none:=by
 simp[Src.get]at g;split at g;·rename_i x y e1 e2;cases g;exact⟨_,_,e1,e2,x,y,rfl,rfl,rfl⟩
 ·rename_i L B hn e1 e2;cases g;calc⟨L,B,e1,e2,?_⟩;cases L with
  |none=>exact .inl rfl|some x=>
   cases B with
   |none=>exact .inr rfl|some y=>exact(hn x y rfl rfl).elim
 ·cases g
def Xre(g:(Src.enm s1).get S i=yz o):∃B,s1.get S i=yz B/\match o with
  |some d=>∃x,B=yz x/\d=.tup QBc|none=>B=none:=by
 simp[Src.get]at g;split at g;·rename_i x e1;cases g;exact⟨_,e1,x,rfl,rfl⟩
 ·rename_i L;calc⟨o,g,?_⟩;cases o with
  |none=>rfl|some x=>calc(L x g).elim
def SrcR.go(h:SrcR X.K ρ H src J)(I:S0 X pc σ H s ρ S env)(g:src.get S i=yz Q28):
  J.go i H/\∀x H',J.yld i H x H'->SR X.K QV1 ρ S H'/\Stp X.K ρ ρ H H'/\RD X.K ρ H' d x:=by
 cases h with
 |@tup a xs vs h1 h2=>simp[Src.get,Vw]at g;let⟨v,e1,e2⟩:=h2.get g;calc⟨⟨vs,v,h1,e1⟩,λx H' y=>?_⟩;let⟨rfl,y⟩:=y;let:=y vs h1;rw[e1]at this;cases this;exact Q7D|rng lo n=>
  simp[Src.get,Vw]at g;rw[Ui]at g;let hi:i<n:=by
   by_cases hi:i<n;·exact hi
   ·rw[Vcl Qz0]at g;cases g
  rw[Vdt hi]at g;simp[U5,Vw]at g;subst g;calc QaM;let⟨rfl,rfl⟩:=y;calc QXH|@lst n a h=>simp[Src.get,Uh]at g;let⟨xs,g1,g2⟩:=g;let⟨a',vs,k1,k2,k3⟩:=I.list g1;rw[h]at k1;cases k1;let⟨v,e1,e2⟩:=k3.get g2;calc⟨⟨vs,v,.of k2,e1⟩,λx H' y=>?_⟩;let⟨rfl,y⟩:=y;let:=y vs QOV;rw[e1]at this;cases this;calc Q7D|@frl a xs vs h1 h2=>simp[Src.get,Vw]at g;let⟨v,e1,e2⟩:=h2.get g;calc⟨⟨vs,v,h1.sq,e1⟩,λx H' y=>?_⟩;let⟨rfl,y⟩:=y;let:=y vs h1.sq;rw[e1]at this;cases this;exact Q7D|@zpp s1 s2 k1 k2 a b h1 h2=>let⟨o1,o2,g1,g2,x,y,rfl,rfl,rfl⟩:=Xrd g;let⟨vs,L,v,e1,r1⟩:=h1.get I g1;let⟨us,q2,u,e2,r2⟩:=h2.get I g2;calc⟨⟨vs,v,us,u,L,e1,q2,e2⟩,λw H' yd=>?_⟩;let⟨T,v',u',rfl,hT,rfl,z1,z2⟩:=yd;let B:=z1 vs L;let aa:=z2 us q2;rw[e1]at B;cases B;rw[e2]at aa;cases aa;let st:Stp X.K ρ ρ H (upd H T (.tup Qkd)):=Stp.upd hT;calc QiA;simp[RD];exact⟨T,Qkd,rfl,.of Xu,.cons QBW (.cons (r2.mono st) .nil)⟩|dwn lo n=>
  simp[Src.get,Vw]at g;rw[Ui]at g;let hi:i<n:=by
   by_cases hi:i<n;·exact hi
   ·rw[Vcl Qz0]at g;cases g
  rw[Vdt hi]at g;simp[U5,Vw]at g;subst g;calc QaM;let⟨rfl,rfl⟩:=y;calc QXH|@enm s1 k a h1=>let⟨o1,g1,x,rfl,rfl⟩:=Xre g;let⟨vs,L,v,e1,r1⟩:=h1.get I g1;calc⟨⟨vs,v,L,e1⟩,λw H' yd=>?_⟩;let⟨T,v',rfl,hT,rfl,z1⟩:=yd;let B:=z1 vs L;rw[e1]at B;cases B;let st:Stp X.K ρ ρ H (upd H T (.tup QCc)):=Stp.upd hT;calc QiA;simp[RD];calc⟨T,QCc,rfl,.of Xu,.cons Qt1 (.cons QBW .nil)⟩|@dic a o u kvs xs h1 h2=>simp[Src.get,Vw,Ui,Uh]at g;let⟨p,g1,rfl⟩:=g;let⟨q,L,q2,q3,q4⟩:=X1p h2 g1;calc⟨⟨Q5c,Q0H.1⟩,λw H' yd=>?_⟩;let⟨T,q',e1,rfl,hT,rfl⟩:=yd;rw[L]at e1;cases e1;let st:Stp X.K ρ ρ H (upd H T (.tup [.ref q.2.1,q.2.2])):=Stp.upd hT;calc QiA;unfold X6e;rw[RD];calc⟨T,_,rfl,.of Xu,.cons ?_ (.cons (q4.mono st) .nil)⟩;rw[RD];calc⟨_,_,rfl,st.tup _ _ q3,.ints _⟩
def SrcR.stop(h:SrcR X.K ρ H src J)(I:S0 X pc σ H s ρ S env)(g:src.get S i=yz yy):J.stop i H:=by
 cases h with
 |@tup a xs vs h1 h2=>simp[Src.get,Vw]at g;calc⟨vs,h1,by let:=h2.none g;rw[Uz]at this;calc this⟩|rng lo n=>simp[Src.get,Vw]at g;rw[Uz]at g;show n<=i;simpa using g|@lst n a h=>simp[Src.get,Uh]at g;let⟨xs,g1,g2⟩:=g;let⟨a',vs,k1,k2,k3⟩:=I.list g1;rw[h]at k1;cases k1;calc⟨vs,.of k2,by let:=k3.none g2;rw[Uz]at this;calc this⟩|@frl a xs vs h1 h2=>simp[Src.get,Vw]at g;exact⟨vs,h1.sq,by let:=h2.none g;rw[Uz]at this;calc this⟩|@zpp s1 s2 k1 k2 a b h1 h2=>
  let⟨o1,o2,g1,g2,L⟩:=Xrd g;let⟨vs,B,r1⟩:=h1.get I g1;let⟨us,q2,r2⟩:=h2.get I g2;calc⟨vs,us,B,q2,?_⟩;rcases L with e|e<;>subst e
  ·exact .inl r1
  calc .inr r2|dwn lo n=>simp[Src.get,Vw]at g;rw[Uz]at g;show n<=i;simpa using g|@enm s1 k a h1=>let⟨o1,g1,L⟩:=Xre g;let⟨vs,B,r1⟩:=h1.get I g1;cases L;calc⟨vs,B,r1⟩|@dic a o u kvs xs h1 h2=>simp[Src.get,Vw,Ui,Option.map_eq_none_iff,Uz]at g;calc⟨Q5c,by rw[<-Paired.length h2];calc g⟩
theorem ItP(X:Cx)(pc:LA)(σ:L2.St)(ρ:LR)(H:Hp)(tg:Expr)(r:R Src)(B:Vb)(L:Vc):Prop:=
 ∃src S' it fp tn J H' ρ',r=.ok src S'/\B=.ref it/\Inv X pc σ H' L/\Turn X.prog X.w X.K tg J fp it tn/\tn 0 L.heap/\Q7I/\SrcR X.K ρ' H' src J/\SR X.K QV1 ρ' S' H'/\Stp X.K ρ ρ' H H'
def ItP.pre{L:LR}{H1:Hp}{r:R Src}{B:Vb}{s2:Vc}(h:ItP X pc σ L H1 tg r B s2)(st:Stp X.K ρ L H H1):ItP X pc σ ρ H tg r B s2:=by let⟨src,S2,it,fp,tn,J,H2,aa,z1,z2,z3,z4,z5,z6,z7,z8,z9⟩:=h;calc⟨src,S2,it,fp,tn,J,H2,aa,z1,z2,z3,z4,z5,z6,z7,z8,st.trans z9⟩
theorem DI(X:Cx)(tg iter:Expr)(f:En->Sto->R Src):Prop:=
 ∀(pc:LA) (s:Vc) (σ:L2.St) (H:Hp) (ρ:LR) (S:Sto) (env:En) (E:VP),S0 X pc σ H s ρ S env->f env S≠.bad->(∀x s',ExP X pc σ ρ H Qa0 x s'->E x s') ->
  Vg Q2 X.A QOE (λv B=>Vg Q2 X.A (Vev v) (ItP X pc σ ρ H tg Qa0) E B) E s
def X64(he:DE X iter f):DI X tg iter (λenv S=>Qa0.bind λx S=>match X9 S x with|some r=>.ok r S|none=>.bad):=by
 intro pc s σ H ρ S env E I nb hE;dsimp at nb hE |-;cases q:f env S with
 |bad=>rw[q]at nb;cases nb rfl|ex n S1=>rw[q]at hE;exact he.ex I q λx s' z=>hE x s' QJ0|ok d S1=>
  rw[q]at nb;simp[Rk0]at nb |-;calc he.ok I q λu L v H1 ab B rv rd aa=>?_;cases d with
  |tup xs=>
   simp[RD]at rd;let⟨a,vs,rfl,h1,h2⟩:=rd;cases rv;let⟨its,ac,p,hz⟩:=B.inv.tuple h1;calc Vgq (show L.heap.IsTuple a its.toArray from p) ?_;calc⟨_,S1,L.heap.objs.size,Q9E,_,_,H1,ab,rfl,rfl,B.inv.kept (t':=L.toks) λb o e=>Ve _ e,Xsu a _,Qz1,λb hb=>?_,.tup h1 h2,B.sr,aa⟩;let e:b=L.heap.objs.size:=by simpa using hb
   subst e;exact B.inv.fpOk Qw Q2C|ref n=>
   cases e1:Xl S1 n with
   |none=>simp![X9,e1]at nb|some xs=>
    let⟨a,vs,k1,k2,k3⟩:=B.list e1;simp[RD]at rd;let⟨a',rfl,k4⟩:=rd;rw[k1]at k4;cases k4;cases rv;let⟨its,ac,p,hz⟩:=B.inv.list QOV;calc Vfk p.isList ?_;calc⟨.ref n,S1,L.heap.objs.size,Q9E,_,_,H1,ab,by simp![X9,e1],rfl,B.inv.kept (t':=L.toks) λb o e=>Ve _ e,Xlr a _,Qz1,λb hb=>?_,.lst k1,B.sr,aa⟩;let e:b=L.heap.objs.size:=by simpa using hb
    subst e;calc B.inv.fpOk Qw Q2C
  |non=>simp![X9]at nb|bl _=>simp![X9]at nb|int _=>simp![X9]at nb|str _=>simp![X9]at nb|fro xs=>
   simp[RD]at rd;let⟨a,vs,rfl,h1,h2⟩:=rd;cases rv;let⟨its,ac,p,hz⟩:=B.inv.list h1.sq;calc Vfk p.isList ?_;calc⟨_,S1,L.heap.objs.size,Q9E,_,_,H1,ab,rfl,rfl,B.inv.kept (t':=L.toks) λb o e=>Ve _ e,Xlr a _,Qz1,λb hb=>?_,.frl h1 h2,B.sr,aa⟩;let e:b=L.heap.objs.size:=by simpa using hb
   subst e;calc B.inv.fpOk Qw Q2C|fn _ _=>simp![X9]at nb|edc=>simp![X9]at nb
def Xvq{tk:Nat}{lo hi:Int}{ds:LD}(I:S0 X pc σ H s ρ S env)(h1:-QRB<=lo)(h2:lo<2^62)(h3:-QRB<=hi)(h4:hi<2^62)(B:ds=QFT.map λ(k:Nat)=>D.int QXa):
  Vg Q2 X.A QOO (ItP X pc σ ρ H tg (.ok QtL S)) E QR5:=by
 calc thn (Xyi (X:=X.wish E) (tg:=tg) (R:=λJ H'=>J=Itr lo QlG.toNat/\H'=H) QH9 h1 h2 h3 h4 QD0) λL s2 z=>?_;let⟨it,fp,tn,J,H',e1,J',T,t0,fo,e2,e3⟩:=z;subst e2 e3;calc⟨_,S,it,fp,tn,_,H',ρ,rfl,e1,J'.unwish,T,t0,fo,by rw[B];calc .rng _ _,I.sr,.refl⟩
def Xy4{tk:Nat}{lo hi:Int}(I:S0 X pc σ H s ρ S env)(h1:-QRB<=lo)(h2:lo<2^62)(h3:-QRB<=hi)(h4:hi<2^62):
  Vg Q2 X.A QOO (ItP X pc σ ρ H tg (.ok (.con ((Vq QdJ.toNat).map λ(k:Nat)=>D.int Qlf)) S)) E QlB:=by
 calc thn (X23 (X:=X.wish E) (tg:=tg) (R:=λJ H'=>J=Itd lo QdJ.toNat/\H'=H) QH9 h1 h2 h3 h4 QD0) λB s2 z=>?_;let⟨it,fp,tn,J,H',e1,L,T,t0,fo,e2,e3⟩:=z;subst e2 e3;calc⟨_,S,it,fp,tn,_,H',ρ,rfl,e1,L.unwish,T,t0,fo,.dwn _ _,I.sr,.refl⟩
def X25{ds:LD}(h:Y5 ds≠yy):(∃j,ds=QIQ)\/(∃i j,ds=QL3)\/∃i j c,ds=[.int i,.int j,.int c]:=by
 unfold Y5 at h;split at h;·exact .inl Q30
 ·exact .inr (.inl Qz7)
 ·exact .inr (.inr ⟨_,_,_,rfl⟩)
 cases h rfl
def X65 {es:LX} {g:En->Sto->R (LD)} (hg:Gl X "range") (hm:X.mg "range"=yy) (ha:DA X QN7 g) (hs:Ue QN7 X.env=QZ2::Ue es X.env) (ab:QR0.any Qu=yw):
  DI X tg (.Call Q7Q QN7 [] pos) (λenv S=>Qc5.bind λxs S=>match Y5 xs with|some ds=>.ok QtL S|none=>.bad):=by
 intro pc s σ H ρ S env E I B hE;dsimp at B hE |-;calc Call_ (X8 I.inv hg hm boot_range (Vad ?_ hs ab));cases q:g env S with
 |bad=>rw[q]at B;cases B rfl|ex n S1=>rw[q]at hE;exact ha.ex I q λx s' z=>hE x s' QJ0|ok ds S1=>
  rw[q]at B;simp[Rk0]at B |-;exact ha.ok I q λus s1 vs H1 ac I1 rv rd aa=>?_;let fin:∀ {tk:Nat} {lo hi:Int} {t u v:Tok} {xs:LD},-QRB<=lo->lo<2^62->-QRB<=hi->hi<2^62->xs=QFT.map (λ(k:Nat)=>D.int QXa) ->
    Vg Q2 X.A (Vev (.ref s1.heap.objs.size)) (ItP X pc σ ρ H tg (.ok QV8 S1)) E {s1 with heap:=s1.heap.push QP,toks:=tk}:=λh1 h2 h3 h4 h5=>
   Vp (Xvq I1 h1 h2 h3 h4 h5) QqM λ_ _ z=>z
  let nr:Y5 ds≠none:=λz=>B Qdc;rcases X25 nr with⟨j,rfl⟩|⟨i,j,rfl⟩|⟨i,j,c,rfl⟩
  ·simp[Y5]at B |-;by_cases hz:-QD3<j/\j<1048576
   ·rw[iP0 hz]at B |-;simp[RDs]at rd;let⟨v,r,rfl,L,rfl⟩:=rd;simp[RD]at L;subst L;cases rv with
    |cons q1 q2=>cases q2;let⟨t,rfl⟩:=q1;calc call_range_1 (fin Q0 Q0 Q0 Q0 ?_);simp!
   rw[iN0 hz]at B;cases B rfl
  ·simp[Y5]at B |-;by_cases hz:-QD3<i/\i<1048576/\-QD3<j/\j<1048576
   ·rw[iP0 hz]at B |-;simp[RDs]at rd;let⟨v,r,rfl,L,v2,r2,rfl,r3,rfl⟩:=rd;simp[RD]at L r3;subst L r3;cases rv with
    |cons q1 q2=>
     cases q2 with
     |cons q3 q4=>cases q4;let⟨t,rfl⟩:=q1;let⟨t',rfl⟩:=q3;exact call_range_2 (fin Q0 Q0 Q0 Q0 rfl)
   rw[iN0 hz]at B;cases B rfl
  simp[Y5]at B |-;by_cases hz:c = -1/\-QD3<i/\i<1048576/\-QD3<j/\j<1048576
  ·rw[iP0 hz]at B |-;simp[RDs]at rd;let⟨v,r,rfl,L,v2,r2,rfl,r3,v3,r4,rfl,r5,rfl⟩:=rd;simp[RD]at L r3 r5;subst L r3 r5;let⟨rfl,hz⟩:=hz;cases rv with
   |cons q1 q2=>
    cases q2 with
    |cons q3 q4=>
     cases q4 with
     |cons q5 q6=>cases q6;let⟨t,rfl⟩:=q1;let⟨t',rfl⟩:=q3;let⟨ae,rfl⟩:=q5;exact call_range_3 Q1 (Vp (Xy4 I1 Q0 Q0 Q0 Q0) QqM λ_ _ z=>z)
  rw[iN0 hz]at B;cases B rfl
def Xs8(I:S0 X pc σ H s ρ S env)(e:X9 S d=yz src)(B:RD X.K ρ H d v)(L:RelV v u):∃k a vs,u=.ref a/\SqH k X.K H a vs/\SrcK X.K ρ H src k a:=by
 cases d with
 |tup xs=>let e':yz QgW=yz src:=e;cases e';simp[RD]at B;let⟨a,vs,rfl,h1,h2⟩:=B;cases L;exact⟨yw,a,vs,rfl,h1,vs,h1,h2⟩|ref n=>
  cases e1:Xl S n with
  |none=>simp![X9,e1]at e|some xs=>simp[X9,e1,U5,Vw]at e;subst e;let⟨a,vs,k1,k2,k3⟩:=I.list e1;simp[RD]at B;let⟨a',rfl,k4⟩:=B;rw[k1]at k4;cases k4;cases L;calc⟨yx,a,vs,rfl,.of k2,k1⟩
 |fro xs=>let e':yz QgW=yz src:=e;cases e';simp[RD]at B;let⟨a,vs,rfl,h1,h2⟩:=B;cases L;calc⟨yx,a,vs,rfl,h1.sq,vs,h1,h2⟩|_=>cases e
def X26{n a b:Nat}(h1:a<n)(h2:b<n):ZAp (n+4) (n+2) (n+3) n Q17 a b:=by constructor<;>(try calc⟨?_,?_,?_,?_⟩)<;>(intro z;first|omega|(let B:(_:Nat)=_:=z;omega))
def X66{n b:Nat}(h:b∈[n+4,n+2,n+3,n,n+1]):n<=b:=by simp[Vu,Vbe,or_false]at h;omega
def Xrf{k:Bool}{a:Addr}{vs:LW}(I:Inv X pc σ H s)(h:SqH k X.K H a vs):a<s.heap.objs.size:=by let⟨its,_,q⟩:=Xd9 I h;let⟨o,e,_⟩:=q.obj;calc Vy e
def X67 {es:LX} {g:En->Sto->R (LD)} {sx sy:Src} (hg:Gl X "zip") (hm:X.mg "zip"=yy) (ha:DA X QN7 g) (hs:Ue QN7 X.env=QZ2::Ue es X.env) (ae:QR0.any Qu=yw) (I:S0 X pc σ H s ρ S env) (q:g env S=.ok Qc9 S1) (e1:X9 S1 x=yz sx) (e2:X9 S1 y=yz sy)
  (hQ:∀B h' H1 L k1 k2 b1 b2,S0 X pc σ H1 B L S1 env->ZAp Q3C QSM QRM B.heap.objs.size QTM b1 b2->ZSa k1 k2 Q3C QSM QRM B.heap.objs.size QTM b1 b2 0 0 h'->SrcK X.K L H1 sx k1 b1->SrcK X.K L H1 sy k2 b2->Stp X.K ρ L H H1->(∀c o,B.heap.get? c=yz o->h'.get? c=yz o)->Q (.ref Q3C) {B with heap:=h' }):
  Vg Q2 X.A (eval QzC X.env) Q E s:=by
 calc Call_ (X8 I.inv hg hm (u:=.type "zip") Q9 (Vad (ha.ok I q λus B vs H1 L I1 rv rd ab=>?_) hs ae));simp[RDs]at rd;let⟨v1,r1,rfl,aa,v2,r2,rfl,ac,rfl⟩:=rd;cases rv with
 |cons q1 q2=>
  cases q2 with
  |cons q3 q4=>cases q4;let⟨k1,b1,w1,rfl,m1,c1⟩:=Xs8 I1 e1 aa q1;let⟨k2,b2,w2,rfl,m2,c2⟩:=Xs8 I1 e2 ac q3;let⟨af,_,p1⟩:=Xd9 I1.inv m1;let⟨ag,_,p2⟩:=Xd9 I1.inv m2;calc Xyv p1 p2 λh' zs kp=>hQ B h' H1 L k1 k2 b1 b2 I1 (X26 (Xrf I1.inv m1) (Xrf I1.inv m2)) zs c1 c2 ab kp
def X68 {x0:Nat} {ts es:LX} {g:En->Sto->R (LD)} (hg:Gl X "zip") (hm:X.mg "zip"=yy) (ha:DA X QN7 g) (hs:Ue QN7 X.env=QZ2::Ue es X.env) (ab:QR0.any Qu=yw):
  DI X Q4Q QzC (λenv S=>Qc5.bind λxs S=>match xs with
   |Qc9=>match X9 S x,X9 S y with
    |some s,yz t=>.ok QiP S|_,_=>.bad
   |_=>.bad):=by
 intro pc s σ H ρ S env E I B hE;dsimp at B hE |-;cases q:g env S with
 |bad=>rw[q]at B;cases B rfl|ex n S1=>rw[q]at hE;exact Call_ (X8 I.inv hg hm (u:=.type "zip") Q9 (Vad (ha.ex I q λx s' z=>hE x s' QJ0) hs ab))|ok ds S1=>
  rw[q]at B;simp[Rk0]at B |-;match ds,q,B with
  |[],q,B=>cases B rfl|[_],q,B=>cases B rfl|_::_::_::_,q,B=>cases B rfl|Qc9,q,B=>
   cases e1:X9 S1 x with
   |none=>simp[e1]at B;cases B rfl|some sx=>
    cases e2:X9 S1 y with
    |none=>simp[e1,e2]at B;cases B rfl|some sy=>
     exact X67 hg hm ha hs ab I q e1 e2 λL h' H1 ae k1 k2 b1 b2 I1 za zs c1 c2 ac kp=>let ⟨_,_,zq,_⟩:=zs.zo;Xnx zq ?_
     calc⟨.zpp sx sy,S1,_,[L.heap.objs.size+4,L.heap.objs.size+2,L.heap.objs.size+3,L.heap.objs.size,L.heap.objs.size+1],_,_,H1,ae,by simp[e1,e2],rfl,I1.inv.kept (t':=L.toks) kp,Xyz za,zs,λb hb=>?_,.zpp c1 c2,I1.sr,ac⟩;let aa:L.heap.objs.size<=b:=X66 hb;calc I1.inv.fpOk aa (I1.inv.hok.fresh aa)
def X69 (hg:Gl X "enumerate") (hm:X.mg "enumerate"=yy) (ha:DA X QN7 g) (hs:Ue QN7 X.env=QZ2::Ue es X.env) (af:QR0.any Qu=yw):
  DI X Q4Q (.Call QxL QN7 [] pos) (λenv S=>Qc5.bind λxs S=>match xs with
   |[x]=>match X9 S x with
    |some s=>.ok QZV S|none=>.bad
   |_=>.bad):=by
 intro pc s σ H ρ S env E I B hE;dsimp at B hE |-;calc Call_ (X8 I.inv hg hm (u:=.type "enumerate") Q9 (Vad ?_ hs af));cases q:g env S with
 |bad=>rw[q]at B;cases B rfl|ex n S1=>rw[q]at hE;exact ha.ex I q λx s' z=>hE x s' QJ0|ok ds S1=>
  rw[q]at B;simp[Rk0]at B |-;calc ha.ok I q λus s1 vs H1 ab L rv rd ae=>?_;match ds,rd,B with
  |[],rd,B=>cases B rfl|_::_::_,rd,B=>cases B rfl|[x],rd,B=>
   cases e1:X9 S1 x with
   |none=>simp[e1]at B;cases B rfl|some sx=>
    simp[RDs]at rd;let⟨v1,r1,rfl,ac,rfl⟩:=rd;cases rv with
    |cons q1 q2=>
     cases q2;let⟨k1,b1,w1,rfl,m1,c1⟩:=Xs8 L e1 ac q1;let⟨ag,_,p1⟩:=Xd9 L.inv m1;exact X21 p1 λh' ns kp=>by
      calc Xny ns.eo ?_;let J:Inv X pc σ H1 QvO:=L.inv.kept (t':=s1.toks) kp;calc⟨.enm sx,S1,_,[s1.heap.objs.size+1,s1.heap.objs.size],_,_,H1,ab,by simp[e1],rfl,J,X22 (λz=>by let z':(_:Nat)=_:=z;omega),ns,λb hb=>?_,.enm c1,L.sr,ae⟩;let aa:s1.heap.objs.size<=b:=by simp[Vu,Vbe,or_false]at hb;rcases hb with z|z<;>(let z':(_:Nat)=_:=z;omega)
      calc L.inv.fpOk aa (L.inv.hok.fresh aa)
def Xjc{a:Addr}{o:Obj}{u:HO}(I:Inv X pc σ H s)(mu:Mut (H a))(ho:s.heap.get? a=yz o)(B:H a=yz u)(hk:u=.dK []\/(∃ L,u=.ext L)\/∃vs,u=.lst vs):Inv X pc σ (upd H a QW1) s:=by
 calc I.write (x:=a) (e:=a) (h':=s.heap) (t':=s.toks) mu Qd0 (λb w hb z=>z) QxQ ⟨ho,?_⟩;rcases hk with rfl|⟨L,rfl⟩|⟨vs,rfl⟩;·exact(show ObjOk X.prog X.w H s.heap a Qs6 from I.hok a _ B)
 ·exact(show ObjOk X.prog X.w H s.heap a (.ext L) from I.hok a _ B)
 calc(show ObjOk X.prog X.w H s.heap a QE3 from I.hok a _ B)
def DSs.ok{st:LM}{na:Bool}{g:En->Sto->R Fl}{Q:Flow->Vc->Prop}(h:DSs X st na g)(I:S0 X pc σ H s ρ S env)(r:g env S=.ok x S')(B:∀fl s',FlP X pc σ ρ H na S' s' x fl->Q fl s'):
  Vg Q2 X.A QSQ Q E s:=by
 exact Vp (h pc s σ H ρ S env I (by rw[r];calc λz=>nomatch z)) QTG λx s' z=>?_;·let⟨y,S1,e,z⟩:=z;rw[r]at e;cases e;exact B fl s' z
 ·let⟨n,S1,_,e,_⟩:=z;rw[r]at e;cases e
def S0.rep(I:S0 X pc σ H s ρ S env)(J:Inv X pl σ H s):S0 X pl σ H s ρ S env:=⟨J,I.sr,I.er⟩
def X7a{pl:LA}{σ B:L2.St}{ρ ρ':LR}{H H':Hp}{s:Vc}{x:Vb}{n:Nat}{r:R Fl}(ab:X.stack=X.env::X.outer)(hf:X.env.frame=yz X.env.locals)(st:Stp X.K ρ ρ' H H')(h:XPd X QQc B ρ' H' n S' x s)(e:r=.ex n S'):
  notedBy Q2 X.A X.env (cameBackBy Q2 X.A X.env Q1K) x s:=by
 let⟨H2,af,a,c,J,rfl,hn,hc,sr,ae,fl⟩:=h.pre st;let⟨C,_,ha⟩:=(show ∃C,Y8 X.K c=yz C/\H2 a=yz Qv1 from sr.ob n a _ hn hc);let J':Inv X pc B H2 s:=J.pins_of λp hp=>J.pin p (Vae _ (Vbi _ hp));let ac:Fly X pc H2 a s.heap:=by
  rcases fl with fl|⟨f,hf,tr⟩;·exact .inl fl
  ·exact .inr ⟨f,hf,tr.imp λT Qh0=>⟨h1,λp hp=>h2 p (by
    rcases Uo.mp hp with z|z;·exact Vbi _ z
    ·calc Vae _ QTb)⟩⟩
 exact Xih J' ab hf ha ac λl h2 a0 hid L hh up=>?_;let⟨k1,k2,k3,oe,vs,T,oT,ts,t1,⟨t2,t3⟩,t4,t5,t6,t7,t8,t9,aa⟩:=hh;let J2:Inv X pc B H2 Q34:=Inv.fly J' ha hid L k1 up QA5;let nT:T ∉ frs X.stack:=λhm=>by let⟨_,o,e,nd⟩:=J2.stack.mem hm;let e':h2.get? T=yz o:=e;rw[t8]at e';cases e';exact nd ts t9
 let hT:∀o,s.heap.get? T=yz o->T∈l:=λo e=>by
  by_cases hm:T∈l;·exact hm
  ·rw[Vez l e hm]at t6;cases t6
 let nw:Xkc X pc T:=by
  cases q:s.heap.get? T with
  |some o=>exact L T (hT o q) t7 nT|none=>
   exact QeM
   ·by_cases hx:T∈X.ex;·exact .inl hx
    ·cases w:X.s₀.heap.get? T with
     |none=>exact .inr rfl|some o=>let⟨o',e⟩:=J'.base.there T o w hx;rw[q]at e;cases e
   let:=(J'.pin p hp).1;rw[z,q]at this;cases this
 let hH:H2 T=none:=by
  cases q:H2 T with
  |none=>rfl|some u=>
   let⟨o',e1⟩:=Xcq (J'.hok T u q);rcases hid.of T QEP with z|z|⟨z,_⟩;·exact aB0 z t7
   ·exact aB0 z nT
   rw[z]at q;cases q
 let fin:ExS X pc σ ρ H yw r Q40 Q34:=
  ⟨n,S',B,e,Qb3,H2,af,a,c,J2,rfl,hn,hc,sr,ae,.inr ⟨_,.inr rfl,oe,vs,T,oT,ts,t1,t4,t5,nw,t7,hH,t8,t9,aa⟩⟩
 show Vg _ _ (do {if (<-field Q40 1) == .none then {Vd2 _};setFlight Q40 X.env.frame}) _ _ _;calc Va QRI;rw[iN0 (show ¬ ((Ux T==Vbw)=yx) from by simp!)];let step:Vg Q2 X.A (setFlight Q40 X.env.frame) (λ_ s2=>ExS X pc σ ρ H yw r Q40 s2) Q1K Q34:=by rw[hf];unfold setFlight;calc Va QRI;rw[iP0 (show(Ux T != Vbw)=yx from by simp!)];calc wpAny_setField (s:=Q34) t8 t9 (U8.mp aa).1 ?_;rw[show((yz X.env.locals).elim Vbw λf=>Uv f)=Uv X.env.locals from rfl,Heap.update_setField_same h2 T oT ts 3 _ t8 t9 aa];exact fin
 first
  |calc Va (Vd step)|calc step
inductive ForI(X:Cx)(pc:LA)(fp:LR)(tn:Nat->Heap->Prop)(src:Src)(J:L2.It)(t:Tg)(g:En->Sto->R Fl)(ρ:LR)(H:Hp)(r0:R Fl)(n:Nat)(s':Vc):Prop
 |mk (i:Nat) (σ':L2.St) (H':Hp) (ρ':LR) (S':Sto) (env':En) (h1:S0 X pc σ' H' s' ρ' S' env') (h2:tn i s'.heap) (h3:∀b∈fp,H' b=yy) (h4:SrcR X.K ρ' H' src J) (h5:Stp X.K ρ ρ' H H') (h6:Yz src.get t g n i env' S'≠.bad) (h7:Yz src.get t g n i env' S'=r0)
def Xvr{X:Cx}{tg:Expr}{it:Addr}{pc:LA}{fp:LR}{tn:Nat->Heap->Prop}{src:Src}{J:L2.It}{t:Tg}{g:En->Sto->R Fl}{ρ L aa:LR}{H H3 H5 H7:Hp}{r0:R Fl}{n i:Nat}{S7:Sto}{s5 s7:Vc}{ac:L2.St}{B:En}(T:Turn X.prog X.w X.K tg J fp it tn)(t5:tn QC2 s5.heap)(ai:SrcR X.K L H3 src J)(ah:Stp X.K ρ L H H3)(ae:Stp X.K L L H3 H5)
  (I7:S0 X Q92 ac H7 s7 aa S7 B) (ab:Stp X.K L aa H5 H7) (af:Yz src.get t g n QC2 B S7≠.bad) (ag:Yz src.get t g n QC2 B S7=r0):∃m,m<n+1/\ForI X pc fp tn src J t g ρ H r0 m s7:=by
 calc⟨n,Vdw _,i+1,ac,H7,aa,S7,B,I7.rep I7.inv.unpinned,T.keep _ _ _ t5 λb hb o e=>Qu1.1,λb hb=>?_,ai.mono QkU,ah.trans QkU,af,ag⟩;let⟨o,e,_⟩:=T.obj _ _ t5 b hb;calc Qu1.2.1
def Xy5{X:Cx}{tg:Expr}{it:Addr}{body:LM}{na:Bool}{pc:LA}{fp:LR}{tn:Nat->Heap->Prop}{src:Src}{J:L2.It}{t:Tg}{g:En->Sto->R Fl}{ρ ac:LR}{H H3 H5:Hp}{r0:R Fl}{n i:Nat}{S3:Sto}{s5 s6:Vc}{σ ak:L2.St}{af env6:En}{d:D}{Rr:Result->Vc->Prop}(hR:∀f s',OkS X pc σ ρ H yw r0 f s'->Rr QLf s')(hE:∀e s',cameBackBy Q2 X.A X.env Q9J e s'->Rr QrP s')(aj:X.stack=X.env::X.outer)(hf:X.env.frame=yz X.env.locals)(hb:DSs X body na g)
  (T:Turn X.prog X.w X.K tg J fp it tn) (t5:tn QC2 s5.heap) (ai:SrcR X.K ac H3 src J) (ah:Stp X.K ρ ac H H3) (ae:Stp X.K ac ac H3 H5) (I6:S0 X Q92 ak H5 s6 ac S3 env6) (g1:src.get S3 i=yz Q28) (e6:X0 t d af=yz env6)
  (ab:Yz src.get t g Q17 i af S3≠.bad) (B:Yz src.get t g Q17 i af S3=r0):
  Vg Q2 X.A (execs body X.env) (λf s'=>match f with
   |.next=>∃m,m<n+1/\ForI X pc fp tn src J t g ρ H r0 m s'|.cont=>∃m,m<n+1/\ForI X pc fp tn src J t g ρ H r0 m s'|.brk=>Rr QJH s'
   |.ret v=>Rr (.ok QLV) s') (notedBy Q2 X.A X.env λe s'=>Rr QrP s') s6:=by
 simp[Yz,g1,e6]at ab B;cases e7:g env6 S3 with
 |bad=>rw[e7]at ab;cases ab rfl|ex m S7=>
  rw[e7]at B;exact Vp (hb _ _ _ _ _ _ _ I6 (by rw[e7];calc λz=>nomatch z)) (λfl s7 z7=>?_) λx7 s7 z7=>?_;·let⟨_,_,e,_⟩:=z7;rw[e7]at e;cases e
  ·let⟨m',S8,aa,e,_,z⟩:=z7;rw[e7]at e;cases e;exact Vp (X7a aj hf (ah.trans ae) z B.symm) (λ_ _ z=>hE _ _ z) λ_ _ z=>hE _ _ z|ok x7 S7=>
  rw[e7]at ab B;calc hb.ok I6 e7 λfl s7 z7=>?_;cases x7 with
  |nx e=>let⟨rfl,aa,H7,ag,I7,L,_⟩:=z7;calc Xvr T t5 ai ah ae I7 L ab B|cnt e=>let⟨rfl,aa,H7,ag,I7,L⟩:=z7;calc Xvr T t5 ai ah ae I7 L ab B|brk e=>let⟨rfl,aa,H7,ag,I7,L⟩:=z7;calc hR _ _ ⟨.nx e,S7,B.symm,rfl,aa,H7,ag,I7.rep I7.inv.unpinned,ah.trans QUW,λz=>nomatch z⟩|rt d'=>let⟨u',v',aa,H7,ag,rfl,I7,am,an,al,L⟩:=z7;calc hR _ _ ⟨.rt d',S7,B.symm,u',v',aa,H7,ag,rfl,I7.unpinned,am,an,al,ah.trans QUW⟩
def X27{X:Cx}{tg:Expr}{it:Addr}{body:LM}{na:Bool}{pc:LA}{fp:LR}{tn:Nat->Heap->Prop}{src:Src}{J:L2.It}{t:Tg}{g:En->Sto->R Fl}{ρ:LR}{H:Hp}{r0:R Fl}{n0:Nat}{s:Vc}{σ:L2.St}{Rr:Result->Vc->Prop}(hR:∀f s',OkS X pc σ ρ H yw r0 f s'->Rr QLf s')(hE:∀e s',cameBackBy Q2 X.A X.env Q9J e s'->Rr QrP s')
  (ab:X.stack=X.env::X.outer) (hf:X.env.frame=yz X.env.locals) (hc:X.calm=yx) (hg:DG X tg t) (hb:DSs X body na g) (T:Turn X.prog X.w X.K tg J fp it tn) (B:∀ {H':Hp},QPC->∀b∈fp,Xa5 X pc H' b) (h:ForI X pc fp tn src J t g ρ H r0 n0 s):Vco Q2 X.A (.forLoop tg QR1 body [] X.env) Rr s:=by
 calc codeAny_forLoop_any (ForI X pc fp tn src J t g ρ H r0) ?_ n0 h;rintro n s3 ⟨i,σ3,H3,ρ3,S3,env3,I3,t3,fr3,sr3,st3,nb3,eq3⟩;cases n with
 |zero=>cases nb3 rfl|succ n=>
  let ac:=nb3;simp[Yz]at nb3;cases g1:src.get S3 i with
  |none=>rw[g1]at nb3;cases nb3 rfl|some o=>
   rw[g1]at nb3;cases o with
   |none=>exact thn (T.done X rfl rfl rfl hc i pc s3 σ3 H3 _ I3.inv QRS t3 QNQ) λr s4 L=>?_;let⟨hr,I4⟩:=L;subst hr;exact wpAny_execs_nil (hR _ _ ⟨.nx env3,S3,by rw[<-eq3];simp[Yz,g1],rfl,σ3,H3,ρ3,QsN,st3,λz=>nomatch z⟩)|some d=>
    dsimp at nb3;let⟨go,yl⟩:=sr3.go I3 g1;calc thn (T.item X rfl rfl rfl hc i pc s3 σ3 H3 _ I3.inv QRS t3 go) λr s4 L=>?_;let⟨u,hr,h4⟩:=L;subst hr;calc thn h4 λ_ s5 L=>?_;let⟨x,H5,I5,r5,y5,t5,ae⟩:=L;let⟨ag,aa,ah⟩:=yl x H5 y5;let af:=I5.pinned (B ae) QOT;cases e6:X0 t d env3 with
    |none=>rw[e6]at nb3;cases nb3 rfl|some env6=>rw[e6]at nb3;dsimp at nb3;calc hg Q92 s5 σ3 H5 ρ3 S3 env3 d x u env6 _ _ ⟨af,ag,I3.er.mono aa⟩ e6 ah r5 λs6 ai I6=>?_;calc Xy5 hR hE ab hf hb T t5 sr3 st3 aa I6 g1 e6 ac eq3
def X7b(ac:X.stack=X.env::X.outer)(hf:X.env.frame=yz X.env.locals)(hc:X.calm=yx)(hi:DI X tg iter fi)(hg:DG X tg t)(L:DSs X body na g)(hs:∀x,Vch iter X.env x=pure x):
  DS X (.For tg iter body [] pos) yw (λenv S=>QNE.bind λsrc S=>Yz src.get t g QU4 0 env S):=by
 intro pc s σ H ρ S env I B;dsimp at B |-;cases q:fi env S with
 |bad=>rw[q]at B;cases B rfl|ex n S1=>
  calc wpAny_For (Vp (hi pc s σ H ρ S env _ I Q80 λx s' z=>?_) Qo3 λ_ _ z=>z) hs;·rw[q]at z;let⟨m,S2,e,z⟩:=z;cases e;exact .of .refl z rfl
  ·let⟨src,S2,_,_,_,_,_,_,e,_⟩:=h2;rw[q]at e;cases e|ok src S1=>
  rw[q]at B;simp[Rk0]at B |-;calc wpAny_For (Vp (hi pc s σ H ρ S env (ExS X pc σ ρ H yw (Yz src.get t g Q58 0 env S1)) I Q80 λx s' z=>?_) Qo3 λ_ _ z=>z) hs;·rw[q]at z;let⟨m,S2,e,z⟩:=z;cases e
  ·let⟨ai,S2,it,fp,tn,J,H2,ag,e1,rfl,I2,T,t0,f2,af,ah,aa⟩:=h2;rw[q]at e1;cases e1;let ab:∀ {H':Hp},QPC->∀b∈fp,Xa5 X pc H' b:=λhn b L=>⟨hn b L,Qac.2⟩;calc X27 QmE QmE ac hf hc hg L T ab ⟨0,σ,H2,ag,S1,env,I.step I2 ah aa,t0,λb L=>Qac.1,af,aa,B,rfl⟩
universe e
def Xfb(env:Vb0)(P:Str->Addr->Prop):∀(names:List Q5J) (cs:List Q35),(∀x∈names,x.2=.free->∃c,env.cells.lookup x.1=yz c/\P x.1 c)->(∀x c,cs.lookup x=yz c->P x c) ->
  ∃cl,(forIn names cs λ(x:Str×Vff) (r:List Q35)=>(match x with
   | (name,kind)=>if (kind==Vhl)=yx then do
     let a <- cellOf env name
     pure (Vd7 ((name,a)::r))
    else pure QGY:Sem (ForInStep QdZ)))=(pure cl:Sem QdZ)/\(∀x c,cl.lookup x=yz c->P x c)/\(∀x c,cs.lookup x=yz c->∃c',cl.lookup x=yz c')/\∀x∈names,x.2=.free->∃c,cl.lookup x.1=yz c
 |[],cs,_,hc=>⟨cs,rfl,hc,λx c h=>⟨c,h⟩,λ_ h=>nomatch h⟩| QAe::r,cs,hf,hc=>by
  by_cases hk:k=.free
  ·subst hk
   let⟨c,aa,ac⟩:=hf (n,.free) V8 rfl;let⟨cl,e,h1,h2,h3⟩:=Xfb env P r ((n,c)::cs) Q1P (λx d h=>by
    rw[Vbo]at h;by_cases B:x==n;·rw[B]at h;cases h;rw[eq_of_beq B];exact ac
    ·let ab:QGa=false:=by simpa using B
     rw[ab]at h;calc hc x d h)
   calc⟨cl,?_,h1,λx d h=>?_,λx B L=>?_⟩;·rw[Vdh];simp[beq_self_eq_true,if_true,cellOf,aa,pure_bind];exact e
   ·by_cases B:x==n;·exact h2 x c (by rw[Vbo,B])
    ·let ab:QGa=false:=by simpa using B
     exact h2 x d (by rw[Vbo,ab];calc h)
   rcases Vu.mp B with rfl|B;·exact h2 n c (by rw[Vbo,beq_self_eq_true])
   ·exact h3 x B L
  let⟨cl,e,h1,h2,h3⟩:=Xfb env P r cs Q1P hc;exact⟨cl,?_,h1,h2,λx B L=>?_⟩
  ·rw[Vdh];let ae:(k==Vhl)=false:=by simpa using hk
   simp[ae,Vr,if_false,pure_bind];exact e
  rcases Vu.mp B with rfl|B;·exact aB0 L hk
  ·calc h3 x B L
def Xjd(hf:∀x∈scope.names,x.2=.free->∃c,env.cells.lookup x.1=yz c):
  ∃B,closureFor scope env=pure B/\(∀x c,B.lookup x=yz c->env.cells.lookup x=yz c/\QuM∈scope.names)/\∀x∈scope.names,x.2=.free->∃c,B.lookup x.1=yz c:=by
 let⟨B,e,h1,_,h3⟩:=Xfb env (λx c=>env.cells.lookup x=yz c/\QuM∈scope.names) scope.names [] (λx L hk=>let ⟨c,hc⟩:=hf x L hk;⟨c,hc,hc,hk▸L⟩) (λx c h=>by simp! at h);calc⟨B,?_,h1,h3⟩;unfold closureFor;simp[bind_pure];calc e
private noncomputable abbrev Xmq(ifs:LX)(env:Vb0):Sem Bool:=forIn ifs yx λc r=>if r=yx then do let ok <- isTrue c env QOW;pure Q6d else pure QGY
abbrev cE(k:Bool)(elt:Expr)(gens:List Vb4)(scope:Vai)(pos:Pos):Expr:=match k with
 |false=>.ListComp elt gens scope pos|true=>.SetComp elt gens scope pos
abbrev aN(k:Bool):String:=match k with
 |false => "list.append"|true => "set.add"
theorem Xkf(k:Bool)(M:Model)(A:Uu)(elt:Expr)(gens:List Vb4)(scope:Vai)(pos:Pos)(d:Nat)(B:Vb)(env:Vb0)(P:Vc->Prop)(s:Vc):Prop:=
 match gens[d+1]? with
 |none=>Vg M A (eval elt env) (λx L=>Vg M A (call (.builtin (aN k)) [B,x]) (λ_ s5=>P s5) QZ0 L) QZ0 s|some g'=>g'.is_async=0/\(∀x,Vch g'.iter env x=pure x)/\Vg M A (eval g'.iter env) (λx L=>Vg M A (Vev x) (λaa s5=>Vco M A (.compStart Qj3 QXF aa B env) (λr s6=>match r with|.ok _=>P s6|.error _=>False) s5) QZ0 L) QZ0 s
section
variable{prog:V0}{w:V9}{A:Uu}{s:Vc}{R:Result->Vc->Prop}
def Xvs(hg:gens[d]?=yz QhK)(hm:A.mark yy=A)(I:Nat->Vc->Prop)
  (turn:∀n s,I n s->Vg Q6 A (Vdr it) (λr s₁=>match r with
   |none=>R QJH s₁
   |some v=>Vg Q6 A (Vdb target it v) (λ_ ac=>Vg Q6 A (assign target env v) (λ_ ai=>Vg Q6 A (Xmq ifs env) (λok ae=>if ok=yx then Xkf k Q6 A elt gens scope pos d acc env (λab=>∃m,m<n/\I m ab) ae else ∃m,m<n/\I m ae) QZ0 ai) QZ0 ac) QZ0 s₁) QZ0 s)
  (n:Nat) (h:I n s):Vco Q6 A QPG R s:=by
 cases k
 all_goals
  calc codeAny_loop rfl I (λn s hI=>?_) n h;show Vg _ A ((compTurn _ d it acc env).onRaise (λx=>do noteFrame x env;theTreesLotGoes x)) _ _ s;calc wpAny_noted (Vp (E:=λ_ _=>False) ?_ QmE λ_ _ z=>z.elim);unfold compTurn;simp[cE,hg,show QgI=yw from rfl,Vr,if_false];calc Va (Ve6 (Va (Vp (turn n s hI) (λr s₁ af=>?_) λ_ _ z=>z)));cases r with
  |none=>exact Vd af|some v=>
   calc Va (Vp af (λ_ ac aj=>Va (Vp aj (λ_ ai ak=>Va (Vp ak (λok ae B=>?_) λ_ _ z=>z)) λ_ _ z=>z)) λ_ _ z=>z);cases ok with
   |false=>rw[iN0 V3]at B;simp[Vr,if_false];exact Vd Q1D|true=>
    rw[iP0 rfl]at B;simp[if_true];unfold Xkf at B;cases hq:gens[d+1]? with
    |none=>
     rw[hq]at B;simp[bind_assoc,pure_bind]
     first
      |calc Va (Vp B (λx ah aa=>Va Ql9) λ_ _ z=>z)
      |calc Va (Vp B (λx ah aa=>Va (Ve6 (Va Ql9))) λ_ _ z=>z)
    |some g'=>
     rw[hq]at B;let⟨ha,hf,B⟩:=B;simp[ha,show QgI=yw from rfl,Vr,if_false];calc Va (Vp B (λx ah aa=>Va (Ve6 (Va (Vga (hf x) (Va (Uy (Vp aa (λam ab L=>?_) λ_ _ z=>z))))))) λ_ _ z=>z);calc Va (wpAny_runOwn ?_);rw[hm];calc Vd5 L λr al ag=>?_;cases r with
     |ok f=>calc Vd ⟨rfl,ag⟩|error e=>calc ag.elim
def Xs9(hg:gens[d]?=yz QhK)
  (B:Vco Q6 A QPG R s)
  (h:Vg Q6 A (Vev it) (λit' s'=>Vco Q6 A (.compLoop Qj3 d it' acc env) R s') QZ0 s):
  Vco Q6 A (.compStart Qj3 d it acc env) R s:=by
 cases k
 all_goals
  calc Vfa ?_;show Vg _ _ ((compStart _ d it acc env).onRaise (λx=>do noteFrame x env;standAt theWindowsPlace)) _ _ s;calc wpAny_notedAt ?_;unfold compStart;simp[cE,clausesOf,hg,Option.elim,show QgI=yw from rfl,Vr,if_false];calc Va (Vdx (wpAny_ite ?_));split
  ·first
    |exact Va (Vd (Vd (And.intro rfl B)))|exact Vd (And.intro rfl B)
  ·calc Va Q7V;calc Va (Ve6 (Va (Vp h (λit' s' h'=>Vd (And.intro rfl h')) λ_ _ x=>x.elim)))
universe e
section
variable{X:Cx}{pc:LA}{σ:L2.St}{H:Hp}{s:Vc}{ρ:LR}{S S':Sto}{env:En}{Q:VP}{E:VP}
theorem DTs(X:Cx)(ifs:LX)(f:En->Sto->R Bool):Prop:=
 ∀(pc:LA) (s:Vc) (σ:L2.St) (H:Hp) (ρ:LR) (S:Sto) (env:En) (b:Bool) (S':Sto) (Q:Bool->Vc->Prop) (E:VP),S0 X pc σ H s ρ S env->f env S=.ok b S' ->
  (∀s' H' ρ',S0 X pc σ H' s' ρ' S' env->Stp X.K ρ ρ' H H'->Q b s')->Vg Q2 X.A (Xmq ifs X.env) Q E s
def Xhz{M:Model}{A:Uu}{env:Vb0}{s:Vc}{Q:Bool->Vc->Prop}{E:VP}(h:Q yw s):∀ifs:LX,
  Vg M A (forIn ifs yw λc r=>if r=yx then do let ok <- isTrue c env QOW;pure Q6d else pure QGY) Q E s
 |[]=>Vd h|c::r=>by rw[Vdh];simp[Vr,if_false];calc Va (Vd (Xhz h r))
def X28:DTs X [] (λ_ S=>.ok yx S):=by intro pc s σ H ρ S env b S' Q E I h B;cases h;calc Vd (B s H ρ I .refl)
def Xy6{cs:LX}{fc:En->Sto->R D}{g:En->Sto->R Bool}(hc:DT X c Qu8)(hr:DTs X cs g):
  DTs X (c::cs) (λenv S=>QV4.bind λx S=>match X2 S x with|some yx=>g env S|some yw=>.ok yw S|none=>.bad):=by
 intro pc s σ H ρ S env b S' Q E I h hQ;dsimp at h;cases q:fc env S with
 |bad=>rw[q]at h;cases h|ex n S1=>rw[q]at h;cases h|ok x S1=>
  rw[q]at h;simp[Rk0]at h;unfold Xmq;rw[Vdh];simp[if_true];cases t:X2 S1 x with
  |none=>rw[t]at h;cases h|some r=>
   rw[t]at h;calc Va (Va (hc.ok I QF2 λs2 H2 L I2 B=>Vd ?_));cases r with
   |true=>calc hr pc s2 σ H2 L S1 env b S' Q E I2 h λs3 H3 ab I3 aa=>hQ s3 H3 ab I3 (B.trans aa)|false=>cases h;calc Xhz (hQ s2 H2 L I2 B) cs
def Mon.trans{K:Vh}{ρ' ρ'':LR}{H' H'':Hp}(x:Mon K ρ ρ' H H')(y:Mon K ρ' ρ'' H' H''):Mon K ρ ρ'' H H'':=
 ⟨λn a h=>y.pre n a QEU,λa xs h=>y.tup a xs QAI,λa o u h=>y.frz a o u QVG⟩
def Xta:∀(is:LN) (ds:LD) (env:En),i ∉ is->QX8[i]?=env[i]?:=by
 intro is;induction is with
 |nil=>intro ds env _;simp!|cons j L ih=>
  intro ds env B;cases ds with
  |nil=>simp!|cons d ds=>simp[Vgl,Vcy];rw[ih ds _ (λz=>B (V4 _ z)),Vav Ql6]
def Xp3{t:Tg}{d:D}{env B:En}(h:X0 t d env=yz B){i:Nat}(hi:i ∉ slots t):B[i]?=env[i]?:=by
 cases t with
 |var j=>simp[X0,Vw]at h;subst h;let:j≠i:=λz=>hi (by simp![slots,z]);rw[Vav this]|tup is=>
  cases d with
  |tup ds=>
   simp[X0]at h;split at h;·cases h;exact Xta is ds env hi
   ·cases h|_=>cases h
theorem Xf7:Type:=LR->Hp->LD->Prop
theorem Xje(K:Vh)(Da:Addr)(AR:Xf7):Prop:=∀(ρ ρ':LR) (H H':Hp) (B:LD),AR ρ H B->Da ∉ ρ->Stp K ρ ρ' H H'->Da ∉ ρ'/\AR ρ' H' B
abbrev LstA(K:Vh)(Da:Addr):Xf7:=fun ρ H B=>∃vs,H Da=yz QE3/\RDs K ρ H B vs
theorem Xc3(k:Bool)(AR:Xf7)(Y:Cx)(Da:Addr)(elt:Expr)(gens:List Vb4)(scope:Vai)(cpos:Pos)(d:Nat)(body:En->LD->Sto->R LD):Prop:=
 ∀(pc:LA) (s:Vc) (σ:L2.St) (H:Hp) (ρ:LR) (S S':Sto) (env:En) (L B:LD) (H0:Hp) (ρ0:LR) (P:Vc->Prop),S0 Y pc σ H s ρ S env->Da ∉ ρ->AR ρ H L->H0 Da=yy->Stp Y.K ρ0 ρ H0 H ->
  body env L S=.ok B S'->(∀s' aa H' ρ',S0 Y pc aa H' s' ρ' S' env->Da ∉ ρ'->AR ρ' H' B->Stp Y.K ρ0 ρ' H0 H'->Mon Y.K ρ ρ' H H'->P s') ->
  Xkf k QI8 Y.A elt gens scope cpos d QA7 Y.env P s
def Stp.out{K:Vh}{ρ':LR}{H':Hp}{Da:Addr}{o:HO}(st:Stp K ρ ρ' H H')(L:H Da=yz o)(B:Da ∉ ρ):Da ∉ ρ'/\H' Da=yz o:=
 ⟨λhm=>(st.new Da hm).elim B (λz=>by rw[L]at z;cases z),st.keep Da o L B⟩
def LstA.ok{K:Vh}{Da:Addr}:Xje K Da (LstA K Da):=fun ρ ρ' H H' acc ⟨vs,h,r⟩ hn st=>⟨QIU.1,vs,QIU.2,r.mono st⟩
inductive ClI(Y:Cx)(pc:LA)(Da:Addr)(AR:Xf7)(fp:LR)(tn:Nat->Heap->Prop)(src:Src)(J:L2.It)(t:Tg)(f:En->LD->Sto->R LD)(ρ ρ0:LR)(H H0:Hp)(env:En)(accf:LD)(Sf:Sto)(n:Nat)(s':Vc):Prop
 |mk (i:Nat) (σ':L2.St) (H':Hp) (ρ':LR) (S':Sto) (env':En) (acc':LD) (h1:S0 Y pc σ' H' s' ρ' S' env') (h2:tn i s'.heap) (h3:∀b∈fp,H' b=yy) (h4:SrcR Y.K ρ' H' src J) (h5:Mon Y.K ρ ρ' H H') (h6:Stp Y.K ρ0 ρ' H0 H') (h7:Da ∉ ρ') (h8:AR ρ' H' acc') (h9:∀i,i ∉ slots t->env'[i]?=env[i]?) (h10:Yy src.get t f n i env' acc' S'=.ok accf Sf)
section
variable{AR:Xf7}{Y:Cx}{Da it:Addr}{tg:Expr}{t:Tg}{src:Src}{J:L2.It}{fp:LR}{tn:Nat->Heap->Prop}{f:En->LD->Sto->R (LD)}{pc:LA}{H H0:Hp}{ρ ρ0:LR}{Sf S7:Sto}{env env6:En}{accf acc7:LD}{n i:Nat}{s5:Vc}
def X1q{s7:Vc}{aa:L2.St}{L:Hp}{B:LR}(T:Turn Y.prog Y.w Y.K tg J fp it tn)(t5:tn QC2 s5.heap)(ai:∀i,i ∉ slots t->env6[i]?=env[i]?)(ac:Yy src.get t f n QC2 env6 acc7 S7=.ok accf Sf)
  (I7:S0 Y Q92 aa L s7 B S7 env6) (ae:SrcR Y.K B L src J) (ah:Mon Y.K ρ B H L) (ag:Stp Y.K ρ0 B H0 L) (ab:Da ∉ B) (af:AR B L acc7):∃m,m<n+1/\ClI Y pc Da AR fp tn src J t f ρ ρ0 H H0 env accf Sf m s7:=by
 calc⟨n,Vdw _,i+1,aa,L,B,S7,env6,acc7,I7.rep I7.inv.unpinned,T.keep _ _ _ t5 λb hb o e=>Qu1.1,λb hb=>?_,ae,ah,ag,ab,af,ai,ac⟩;let⟨o,e,_⟩:=T.obj _ _ t5 b hb;calc Qu1.2.1
def X29{k:Bool}{elt:Expr}{gens:List Vb4}{ifs:LX}{scope:Vai}{cpos:Pos}{d:Nat}{tf:En->Sto->R Bool}{body:En->LD->Sto->R (LD)}{S3:Sto}{aa:LD}{s6:Vc}{ae:L2.St}{H3 H5:Hp}{B:LR}(hA:Xje Y.K Da AR)(hT:DTs Y ifs tf)(hB:Xc3 k AR Y Da elt gens scope cpos d body)(h0:H0 Da=yy)
  (T:Turn Y.prog Y.w Y.K tg J fp it tn) (t5:tn QC2 s5.heap) (av:SrcR Y.K B H3 src J) (ab:Stp Y.K B B H3 H5) (au:Stp Y.K ρ0 B H0 H3) (am:Mon Y.K ρ B H H3) (ao:Da ∉ B) (aq:AR B H5 aa) (aj:∀i,i ∉ slots t->env6[i]?=env[i]?) (I6:S0 Y Q92 ae H5 s6 B S3 env6) (e7:Xal tf body env6 aa S3=.ok acc7 S7)
  (af:Yy src.get t QX3 n QC2 env6 acc7 S7=.ok accf Sf):
  Vg QI8 Y.A (Xmq ifs Y.env) (λok s'=>if ok=yx then Xkf k QI8 Y.A elt gens scope cpos d QA7 Y.env (λs'=>∃m,m<n+1/\ClI Y pc Da AR fp tn src J t QX3 ρ ρ0 H H0 env accf Sf m s') s' else ∃m,m<n+1/\ClI Y pc Da AR fp tn src J t QX3 ρ ρ0 H H0 env accf Sf m s') QZ0 s6:=by
 unfold Xal at e7;cases e8:tf env6 S3 with
 |bad=>rw[e8]at e7;cases e7|ex m S8=>rw[e8]at e7;cases e7|ok b8 S8=>
  rw[e8]at e7;simp[Rk0]at e7;calc hT Q92 s6 ae H5 B S3 env6 b8 S8 _ _ I6 e8 λs8 H8 ak I8 L=>?_;let⟨ah,al⟩:=hA _ _ _ _ _ aq ao L;let ac:=au.trans QzE;let ag:SrcR Y.K ak H8 src J:=av.mono QzE;cases b8 with
  |false=>rw[iN0 V3]at e7 |-;cases e7;calc X1q T t5 aj af I8 ag QKM ac ah al|true=>rw[iP0 rfl]at e7 |-;calc hB Q92 s8 ae H8 ak S8 S7 env6 aa acc7 H0 ρ0 _ I8 ah al h0 ac e7 λs9 ax H9 aw I9 ap ar an ai=>X1q T t5 aj af I9 (ag.mono' ai) (QKM.trans ai) an ap ar
universe e
def Xvt{k:Bool}{AR:Xf7}{Y:Cx}{Da it:Addr}{elt tg iter:Expr}{gens:List Vb4}{ifs:LX}{scope:Vai}{cpos:Pos}{d:Nat}{t:Tg}{src:Src}{J:L2.It}{fp:LR}{tn:Nat->Heap->Prop}{tf:En->Sto->R Bool}{body:En->LD->Sto->R (LD)}
  {pc:LA} {σ:L2.St} {H H0:Hp} {s:Vc} {ρ ρ0:LR} {S Sf:Sto} {env:En} {ab accf:LD} {P:Vc->Prop} (hA:Xje Y.K Da AR) (hc:Y.calm=yx) (hg:gens[d]?=yz QY2)
  (T:Turn Y.prog Y.w Y.K tg J fp it tn) (hG:DG Y tg t) (hT:DTs Y ifs tf) (hB:Xc3 k AR Y Da elt gens scope cpos d body) (h0:H0 Da=yy)
  (I:S0 Y pc σ H s ρ S env) (t0:tn 0 s.heap) (f0:∀b∈fp,Xa5 Y pc H b) (sr:SrcR Y.K ρ H src J) (hn:Da ∉ ρ) (ha:AR ρ H ab) (st0:Stp Y.K ρ0 ρ H0 H)
  (hr:Yy src.get t QX3 QU4 0 env ab S=.ok accf Sf)
  (hP:∀s' ae H' ρ' L,S0 Y pc ae H' s' ρ' Sf L->(∀i,i ∉ slots t->L[i]?=env[i]?)->Da ∉ ρ'->AR ρ' H' accf->Stp Y.K ρ0 ρ' H0 H'->Mon Y.K ρ ρ' H H'->P s'):
  Vco QI8 Y.A (.compStart QhH d QR1 QA7 Y.env) Qb8 s:=by
 let aa:Vco QI8 Y.A (.compLoop QhH d QR1 QA7 Y.env) Qb8 s:=by
  let B:∀ {H':Hp},QPC->∀b∈fp,Xa5 Y pc H' b:=λhn b hb=>⟨hn b hb,Qra.2⟩;calc Xvs hg rfl (ClI Y pc Da AR fp tn src J t QX3 ρ ρ0 H H0 env accf Sf) ?_ QU4 ⟨0,σ,H,ρ,S,env,ab,I,t0,λb hb=>Qra.1,sr,Stp.refl.toMon,st0,hn,ha,λ_ _=>rfl,hr⟩;rintro n s3 ⟨i,σ3,H3,ρ3,S3,env3,acc3,I3,t3,fr3,sr3,mo3,st3,hn3,ha3,hs3,eq3⟩;cases n with
  |zero=>cases eq3|succ n=>
   simp[Yy]at eq3;cases g1:src.get S3 i with
   |none=>rw[g1]at eq3;cases eq3|some o=>
    rw[g1]at eq3;cases o with
    |none=>cases eq3;exact thn (T.done Y rfl rfl rfl hc i pc s3 σ3 H3 _ I3.inv QRS t3 QNQ) λr s4 zz=>?_;let⟨hr,I4⟩:=zz;subst hr;exact hP s4 σ3 H3 ρ3 env3 QsN hs3 hn3 ha3 st3 mo3|some dd=>
     dsimp at eq3;let⟨go,yl⟩:=sr3.go I3 g1;calc thn (T.item Y rfl rfl rfl hc i pc s3 σ3 H3 _ I3.inv QRS t3 go) λr s4 zz=>?_;let⟨u,hr,h4⟩:=zz;subst hr;calc thn h4 λ_ s5 zz=>?_;let⟨x,H5,I5,r5,y5,t5,af⟩:=zz;let⟨ai,ac,ak⟩:=yl x H5 y5;let ag:=I5.pinned (B af) QOT;cases e6:X0 t dd env3 with
     |none=>rw[e6]at eq3;cases eq3|some env6=>
      rw[e6]at eq3;dsimp at eq3;calc hG Q92 s5 σ3 H5 ρ3 S3 env3 dd x u env6 _ _ ⟨ag,ai,I3.er.mono ac⟩ e6 ak r5 λs6 al I6=>?_;let⟨_,aj⟩:=hA _ _ _ _ _ ha3 hn3 ac;cases e7:Xal tf body env6 acc3 S3 with
      |bad=>rw[e7]at eq3;cases eq3|ex m S7=>rw[e7]at eq3;cases eq3|ok acc7 S7=>rw[e7]at eq3;dsimp at eq3;let ah:∀i,i ∉ slots t->env6[i]?=env[i]?:=λi hi=>(Xp3 e6 hi).trans (hs3 i hi);exact X29 hA hT hB h0 T t5 sr3 ac st3 mo3 hn3 aj ah I6 e7 eq3
 calc Xs9 hg aa (T.self Y.A 0 s _ _ t0 aa)
def Xl6(hg:gens[d+1]?=yy)(he:DE Y elt fe):
  Xc3 yw (LstA Y.K Da) Y Da elt gens scope cpos d (λenv acc S=>(fe env S).bind λy S=>if (lg acc)<big then .ok (acc++[y]) S else .bad):=by
 intro pc s σ H ρ S S' env acc ae H0 ρ0 P I hn ⟨vs,hD,ra⟩ h0 st0 hb hP;unfold Xkf;rw[hg];dsimp at hb |-;cases q:fe env S with
 |bad=>rw[q]at hb;cases hb|ex n S1=>rw[q]at hb;cases hb|ok y S1=>
  rw[q]at hb;simp[Rk0]at hb;split at hb
  ·rename_i hz;cases hb;exact he.ok I q λu s1 v H1 aa I1 rv rd B=>?_;let⟨ab,L⟩:=B.out hD hn;let ac:Qn2<V7:=by rw[<-ra.length];exact Uf hz Xi7
   exact mtd (X:=Y) (Q':=λz H'=>z=.non/\H'=upd H1 Da QnQ) Xly I1.inv (show RelV QA7 QA7 from rfl) (.cons rv .nil) ⟨Da,vs,v,rfl,rfl,L,ac,rfl,rfl⟩ λw s2 z H2 J rz zz=>?_;let⟨e1,e2⟩:=zz;subst e1 e2;let mo:Mon Y.K aa aa H1 (upd H1 Da QnQ):=Mon.own L;exact hP s2 σ _ aa ⟨J,I1.sr.own L ab,I1.er.mono' mo⟩ ab ⟨vs++[v],Xu,(RDs.mono' mo _ _ (ra.mono B)).append (.cons (RD.mono' mo _ _ rd) .nil)⟩ ((st0.trans B).own h0 L) ⟨λn a h=>B.pre n a h,λa xs h=>mo.tup a xs (B.tup a xs h),λa o u h=>mo.frz a o u (B.frz a o u h)⟩
  cases hb
def Xvu{k:Bool}{AR:Xf7}(hA:Xje Y.K Da AR)(hc:Y.calm=yx)
  (hg:gens[d+1]?=yz ⟨tg2,iter2,ifs2,0⟩) (hi:DI Y tg2 iter2 fi) (hs:∀x,Vch iter2 Y.env x=pure x) (hG:DG Y tg2 t2) (hT:DTs Y ifs2 tf) (hB:Xc3 k AR Y Da elt gens scope cpos QXF body):
  Xc3 k AR Y Da elt gens scope cpos d (λenv acc S=>if Xvb t2 env then QNE.bind λsrc S=>Yy src.get t2 QX3 QU4 0 env acc S else .bad):=by
 intro pc s σ H ρ S S' env acc ao H0 ρ0 P I hn ha h0 st0 B hP;unfold Xkf;rw[hg];dsimp at B |-;split at B
 ·rename_i ac;calc⟨rfl,hs,?_⟩;cases q:fi env S with
  |bad=>rw[q]at B;cases B|ex n S1=>rw[q]at B;cases B|ok src S1=>
   rw[q]at B;simp[Rk0]at B;exact Vp QS9 (λv s1 h1=>Vp h1 (λap s2 h2=>?_) λ_ _ z=>z) λ_ _ z=>z;·rw[q]at z;let⟨m,S2,e,z⟩:=z;cases e
   ·let⟨am,S2,it,fp,tn,J,H2,aq,e1,rfl,I2,T,t0,f2,ae,al,L⟩:=h2;rw[q]at e1;cases e1;let⟨ag,aj⟩:=hA _ _ _ _ _ ha hn L;exact Xvt (ρ0:=ρ0) (H0:=H0) hA hc hg T hG hT hB h0 (I.step I2 al L) t0 f2 ae ag aj (st0.trans L) B λs' aa H' ρ' an I' ah ab ak af ai=>?_;calc hP s' aa H' ρ' ⟨I'.inv,I'.sr,QtN⟩ ab ak af (L.toMon.trans ai);·let h1:=I.er.len;let h2:=I.inv.len;let h3:=I'.inv.len;omega
    ·by_cases hi:i∈slots t2;·let z:=Ug.mp ac i hi;rw[e]at z;cases z
     ·exact I'.er.val i d ((ah i hi).trans e)
 ·cases B
universe e
abbrev hid(own:LS)(y:Str):Str:=if own.contains y then Va0 "0" ++ y else y
abbrev Xat(N own:LS):LS:=N.map (hid own)++own
structure ScOk(outer sc:Vai)(N own:LS):Prop where
 kind:sc.kind=.function
 okind:outer.kind=.function
 nd:Q9Y.Nodup
 cel:∀y∈sc.names,y.2=.cell->y.1∈own
 apart:∀y∈sc.names,y.2=.free->y.1 ∉ own
 free:∀y∈sc.names,y.2=.free->outer.names.lookup y.1=yz .cell\/outer.names.lookup y.1=yz .free
 loc:∀y,sc.names.lookup y=yz .local->y∈own
 names:∀x∈sc.names,x.2=.local->sc.names.lookup x.1=yz .local
 hidn:∀y∈N,own.contains y=yx->sc.names.lookup QMT=yy
section
variable{X:Cx}{pc:LA}{σ:L2.St}{H:Hp}{s:Vc}{ρ:LR}{S:Sto}{env:En}{Q:VP}{E:VP}
abbrev blk(X:Cx)(pc:LA)(s:Vc)(H:Hp)(sc:Vai)(B:List Q35)(C:Addr)(own:LS)(fp:LR):Cx:=
 { X with N:=Xat X.N own,s₀:=s,H₀:=H,env:=compEnvC sc B C X.env,outer:=X.stack,stack:=X.stack,ex:=fp,fn:=λx=>own.contains x,pn:=X.pn++pc}
def Xc4{names:List Q5J}(h:names.lookup x=yz k):(x,k)∈names:=Vc1 h
def Xp4{B:List Q35}(h:B.lookup x=yz c):Qxd∈B:=Vc1 h
def Xce(sc:Vai)(env:Vb0)(x:Str):(relabel sc env).names.lookup x=QwM.map λk=>if (k == .free&&env.scope.kind == .function&&env.kindOf x==yz .cell)=yx then .cell else k:=by
 unfold relabel;dsimp;induction sc.names with
 |nil=>rfl|cons y r ih=>
  let⟨n,k⟩:=y;show List.lookup x ((if QS6=yx then (n,NameKind.cell) else QAe)::_)=_;by_cases hx:x==n
  ·let e:=eq_of_beq hx;subst e;by_cases L:(k==Vhl&&env.scope.kind == .function&&env.kindOf x==yz .cell)=yx;·rw[iP0 L,Vbo,beq_self_eq_true,Vbo,beq_self_eq_true];exact congrArg yz QHe.symm
   ·rw[iN0 L,Vbo,beq_self_eq_true,Vbo,beq_self_eq_true];exact congrArg yz (iN0 L).symm
  let B:QGa=false:=by simpa using hx
  by_cases L:QS6=yx;·rw[iP0 L,Vbo,B,Vbo,B];exact ih
  ·rw[iN0 L,Vbo,B,Vbo,B];calc ih
def X7c{own:LS}{cl:List Q35}{fp:LR}{m:Str->OV}(so:ScOk X.env.scope sc X.N own)(I:Inv X pc σ H s)(hf:∀b∈fp,Xa5 X pc H b)
  (ae:∀x c,cl.lookup x=yz c->QE5\/(x∈own/\C<c/\s4.heap.IsCell c yy)) (aj:∀x y c,cl.lookup x=yz c->cl.lookup y=yz c->x=y) (ag:∀x,sc.names.lookup x=yz .cell\/sc.names.lookup x=yz .free->∃c,cl.lookup x=yz c)
  (af:Da=s.heap.objs.size) (hC:C=s.heap.objs.size+1) (aq:s4.os=s.os) (ah:s4.gens=s.gens) (keep:∀b o,s.heap.get? b=yz o->s4.heap.get? b=yz o)
  (an:s4.heap.Ns C m) (ak:ObjOk X.prog X.w Q9W s4.heap Da u) (al:∀b∈fp,b<s.heap.objs.size):
  Inv Qt0 [] QW7 Q9W s4:=by
 let hD:H Da=none:=by rw[af];exact I.hok.fresh Qw
 let au:H C=none:=by rw[hC];exact I.hok.fresh Q7S
 let ap:C≠Da:=by rw[hC,af];exact Vc3 Q6S
 let B:∀b,b<s.heap.objs.size->b≠C/\b≠Da:=λb hb=>⟨by rw[hC];calc Uj QAd,by rw[af];calc Uj hb⟩;let ab:∀x c,X.env.cells.lookup x=yz c->c<s.heap.objs.size:=λx c e=>by let⟨v,q⟩:=I.cell x c e;exact q.lt
 calc⟨⟨I.ok.mod,so.kind,I.ok.glob,I.ok.blt,?_,?_,?_,?_,I.ok.hd,I.ok.frames,.inl rfl,?_,I.bs,?_,?_,?_,I.stack,I.stkFree⟩,aq,?_,?_,?_,?_,?_,?_,?_,?_,?_⟩;·show s.heap.objs.size<=C;rw[hC];exact Vd1 _
 ·exact aj
 ·intro x hx;let ac:(relabel sc X.env).names.lookup x=yz .cell\/(relabel sc X.env).names.lookup x=yz .free:=hx;rw[Xce]at ac;cases e:sc.names.lookup x with
  |none=>rw[e]at ac;simp! at ac|some k=>
   rw[e]at ac;let hk:k=.cell\/k=.free:=by
    rcases ac with h|h
    ·simp[U5,Vw]at h;split at h;·rename_i hc;simp[bA0,beq_iff_eq]at hc;exact .inr hc.1.1
     ·exact .inl h
    simp[U5,Vw]at h;split at h;·cases h
    ·exact .inr h
   exact ag x (hk.elim (λz=>.inl Qsd) λz=>.inr Qsd)
 ·intro x c h e;let hx:x∈own:=by simpa using (show own.contains x=yx from h)
  rcases ae x c e with⟨z,_⟩|⟨_,z,_⟩;·exact aB0 hx z
  ·show s.heap.objs.size<=c;rw[hC]at z;exact Vc2 Q3S
 ·intro b hb;calc⟨(B b Qta).1,λx c h=>?_⟩;rcases ae x c h with⟨_,z⟩|⟨_,z,_⟩;·exact QFL.2.2.2.2.1 x c z
  ·rw[hC]at z;exact Vc3 (Vex Qta Q3S)
 ·exact V2 I.ok.bsz I.sz
 ·intro b o e hb;rcases QFL.2.2.2.1 with z|z;·exact I.ok.noex b o e z
  ·exact aB0 (Uf Q0F (V2 I.ok.bsz z)) Q2H
 ·intro b hb hm;rcases Vu.mp (I.stkSub b hm) with z|z;·exact QFL.2.1 z
  ·exact QFL.2.2.1 z
 ·rw[ah];exact I.bare
 ·calc⟨λb o e _ _ _=>keep b o e,λb o e _ _ _=>⟨o.slots,keep b o e⟩,λb o e n _=>?_,λb o e _=>⟨o,keep b o e⟩,λb xs e=>?_,λb o u e=>?_,λb ps e=>?_⟩;·show upd H Da _ b=yy;rw[Xe (B b Q0F).2];exact n
  ·rw[Xe QpR];exact e
  ·rw[Xe QpR];exact e
  rw[Xe QpR];exact e
 ·calc⟨m,an,λi x v h1 h2 h3=>?_⟩;let hi:i<X.N.length:=by
   by_cases hi:i < σ.length;·rw[I.len]at hi;exact hi
   ·rw[U7 Q0,Vdp]at h2;split at h2<;>cases h2
  let L:QzU[i]?=yz x:=h1;unfold Xat at L;rw[Vx Qz0,Ui]at L;rw[Vx (by rw[I.len];calc hi)]at h2;cases ey:X.N[i]? with
  |none=>rw[ey]at L;cases L|some y=>
   rw[ey]at L;simp[U5,Vw]at L;let ar:Vis (relabel sc X.env) x:=h3;let am:=so.loc;let ai:x ∉ own:=λhm=>by let nd:=so.nd;unfold Xat at nd;rw[Vcg]at nd;exact nd.2.2 x (Vs.mpr ⟨y,V5 ey,L⟩) x hm rfl
   let aa:sc.names.lookup x=yz .free:=by
    let:(relabel sc X.env).names.lookup x=yz .local\/(relabel sc X.env).names.lookup x=yz .cell\/(relabel sc X.env).names.lookup x=yz .free:=ar;rw[Xce]at this;cases e:sc.names.lookup x with
    |none=>rw[e]at this;simp! at this|some k=>
     cases k with
     |free=>rfl|«local»=>calc aB0 (am x e) ai|cell=>calc aB0 (so.cel _ (Xc4 e) rfl) ai|_=>rw[e]at this;simp! at this
   let av:x=y:=by
    unfold hid at L;split at L;·rename_i hc;let z:=so.hidn y QPY hc;rw[L,aa]at z;cases z
    ·exact L.symm
   subst av;let⟨c,hc⟩:=ag x (.inr aa);let ao:=((ae x c hc).resolve_right λz=>ai z.1).2;let kx:=so.free QuM (Xc4 aa) rfl;let⟨m0,aw,hl⟩:=I.loc;let⟨u,ru,lk⟩:=hl i x v ey h2 (kx.elim (λz=>.inr Q9K) λz=>.inr QVV);exact⟨u,ru,.inr ⟨?_,c,hc,?_⟩⟩
   ·show(relabel sc X.env).names.lookup x=yz .cell\/(relabel sc X.env).names.lookup x=yz .free;rw[Xce,aa];simp[U5];split;·exact .inl rfl
    ·exact .inr rfl
   rcases lk with⟨k,_⟩|⟨_,c',hc',hcell⟩;·let k':X.env.scope.names.lookup x=yz .local:=k;rcases kx with z|z<;>(rw[k']at z;cases z)
   ·rw[ao]at hc';cases hc';exact⟨_,keep _ _ hcell.choose_spec.1,hcell.choose_spec.2⟩
 ·intro x c h;rcases ae x c h with⟨_,z⟩|⟨_,_,z⟩;·let⟨v,o,ho,hd⟩:=I.cell x c z;exact⟨v,o,keep _ _ ho,hd⟩
  ·exact⟨yy,z⟩
 ·show upd H Da _ C=yy;rw[Xe ap];exact au
 ·intro x c h;rcases ae x c h with⟨_,z⟩|⟨_,z,_⟩;·rw[Xe (B c QNZ).2];exact I.freeC x c z
  ·rw[hC]at z;rw[Xe (by rw[af];calc Vc3 Q3S)];exact I.hok.fresh (Vc2 Q3S)
 ·intro p hp;rw[Vaw]at hp;let⟨e,n,ne,nf,d⟩:=I.pin p hp;calc⟨keep _ _ e,?_,Qjb.1,λhm=>?_,d⟩;·rw[Xe Qjb.2];exact n
  ·rcases Vu.mp (I.stkSub _ hm) with z|z;·exact ne z
   ·exact nf z
 ·intro b o e;by_cases hb:b=Da;·subst hb;rw[Xu]at e;cases e;exact ak
  ·rw[Xe hb]at e;exact(I.hok b o e).stay (λc v _ q=>keep c v q) (λc q=>by rw[Xe Q4b];calc q) λc xs _ q=>by rw[Xe Q4b];exact q
 ·show QW7.length=QzU.length;unfold Xat;simp![I.len]
def X3a(I:Inv X pc σ H s)(L:∀b∈fp,Xa5 X pc H b)(J:Inv Qt0 [] σ' H' s'):
  Inv X pc σ H' s':=
 I.call' J.os J.base J.hok J.bare λb B=>⟨QNS.2.2.2.1,QNS.2.1,QNS.2.2.2.2.1,QNS.2.2.2.2.2⟩
def Xf8:∀(names:List Q5J) (n:Nat) (B:List Q35),Vcf n names B=Vcf n names []++B
 |[]=>λ_ _=>rfl| (x,k)::r=>λn B=>by
  unfold Vcf;split;·rw[Xf8 r Q17 ((x,n)::B),Xf8 r Q17 [(x,n)],Ub];rfl
  ·calc Xf8 r n B
def Xnz:∀(names:List Q5J) (n:Nat),Qxd∈Vcf n names []->(x,.cell)∈names
 |[]=>λ_ h=>nomatch h| (y,k)::r=>λn h=>by
  unfold Vcf at h;split at h
  ·rename_i B;rw[Xf8]at h;rcases Uo.mp h with h|h;·exact V4 _ (Xnz r Q17 h)
   ·let e:=V6.mp h;cases e;rw[eq_of_beq B];exact V8
  calc V4 _ (Xnz r n h)
def X3b {M:Model} {sc:Vai} {g:Addr} {L:List Q35} {q:Str} {env:Vb0} {R:Vb0->Vc->Prop} (h:R {scope:=sc,locals:=s.heap.objs.size,globals:=g,cells:=Vcf Qm0 sc.names L,qual:=q,func:=yy,code:=env.code,frame:=env.frame,builtins:=env.builtins} {s with heap:=pushCells Q8P sc.names}):
  Vg M A (newFunctionEnv sc g L [] q yy .none (yz env)) R E s:=by
 simp[newFunctionEnv,Option.isSome_some,if_true];calc Va (wpAny_alloc ?_);calc Va (wpAny_layCells _ (λname kind cells=>by cases B:kind==NameKind.cell<;>simp![B]) _ _ _ _ ?_);rw[show({s with heap:=s.heap.push QN0 }:Vc).heap.objs.size=s.heap.objs.size+1 from Vam ..];calc Va (by rw[Vgy];calc Vd (Vd h))
def Xl7{k:Bool}{AR:Addr->Xf7}{ar:Sem Vb}{oA:Obj}{uA:Addr->HO}(hA:∀Da,Xje X.K Da QHf)(bm:∀(A:Uu) (E:VP) (s:Vc) (Q:VP),Q QC {s with heap:=s.heap.push oA}->Vg Q2 A ar Q E s)(bt:oA.isFreed=yw)
  (bq:∀(H:Hp) (h:Heap) (a:Addr),h.get? a=yz oA->ObjOk X.prog X.w H h a Qcf) (bo:∀a ρ (H:Hp),H a=yz Qcf->AR a ρ H [])
  (hc:X.calm=yx) (so:ScOk X.env.scope sc X.N own) (bx:Q9O=n) (hg:gens=QY2::gens.tail) (hi:DI X tg iter fi) (hs:∀x,Vch iter X.env x=pure x)
  (hG:∀pc s H cl C fp,DG Qt0 tg t) (hT:∀pc s H cl C fp,DTs Qt0 ifs tf) (hB:∀pc s H cl C fp Da,Xc3 k QHf Qt0 Da elt gens sc cpos 0 body)
  (I:S0 X pc σ H s ρ S env) (q:fi env S=.ok src S1) (hr:Yy src.get t QX3 Q58 0 Qx0 [] S1=.ok accf Sf)
  (hQ:∀s' H' ρ' Da C m,S0 X pc σ H' s' ρ' Sf env->Stp X.K ρ ρ' H H'->Da ∉ ρ'->H Da=yy->AR Da ρ' H' accf->s'.heap.Ns C m->(∀x c,X.env.cells.lookup x=yz c->c≠C)->C≠X.env.locals->H' C=yy->(∀ag am H'' h',Inv X pc am H'' ag->H'' C=yy->U6 C ag.heap h'->Inv X pc am H'' {ag with heap:=h' }) ->
   compPost Q2 X.A E use Q QA7 C QJH s'):
  Vg Q2 X.A (comprehension QjJ sc X.env Qi9 ar yw QOE use) Q E s:=by
 let ay:∀x∈sc.names,x.2=.free->∃c,X.env.cells.lookup x.1=yz c:=λx hx hf=>by
  rcases so.free x hx hf with z|z;·exact I.inv.ok.has x.1 Q9K
  ·exact I.inv.ok.has x.1 QVV
 let⟨cl,aw,a8,bh⟩:=Xjd ay;calc Vjl (g:=QY2) (gs:=gens.tail) QV5 hs aw so.kind so.names ?_;exact Vp (E:=λ_ _=>False) QS9 (λv s1 h1=>Vp h1 (λb4 L h2=>?_) λ_ _ z=>z.elim) λ_ _ z=>z.elim;·rw[q]at z;let⟨k,S2,e,z⟩:=z;cases e
 ·let⟨bz,S2,it,fp,tn,J,H2,ak,e1,rfl,I2,T,t0,f2,br,a0,ah⟩:=h2;rw[q]at e1;cases e1;let J2:=I.step I2 a0 ah;calc bm _ _ _ _ (X3b ?_);dsimp;generalize ax:L.heap.push oA=B;let hC:B.objs.size=L.heap.objs.size+1:=by rw[<-ax,Vam]
  let below:∀b,b<L.heap.objs.size->b≠B.objs.size:=λb hb=>by rw[hC];exact Uj QAd
  let ai:=cellsFrom_ok sc.names QPB QQB [] ⟨λ_ _ hm=>(nomatch hm),Veh⟩ (by rw[Vam];calc Vi _);rw[Vam]at ai;obtain⟨m1,ac⟩:∃m1,(pushCells (B.push QN0) sc.names).Ns B.objs.size m1:=by let⟨o,es,ep,ho,rest⟩:=(Heap.Ns.new ..:QPB.Ns B.objs.size _);exact⟨_,o,es,ep,pushCells_keeps _ _ _ _ ho,rest⟩
  let az:∀b o,B.get? b=yz o->(pushCells QPB sc.names).get? b=yz o:=λb o e=>pushCells_keeps _ _ b o QaD;generalize pushCells QPB sc.names=aa at ai ac az |-;let ba:∀b o,L.heap.get? b=yz o->aa.get? b=yz o:=λb o e=>az b o (ax▸Ve _ e);let bd:aa.get? L.heap.objs.size=yz oA:=az _ _ (ax▸Vm _ bt);let ab:∀x c,Qxd∈Vcf QQB sc.names []->x∈own/\B.objs.size<c/\aa.IsCell c none:=λx c hm=>⟨so.cel _ (Xnz _ _ hm) rfl,QRP.2,QRP.1⟩;let two:∀x c,Q42.lookup x=yz c->Qxd∈Vcf QQB sc.names []\/QE5:=λx c h=>by
   rw[Xf8,List.lookup_append,Option.or_eq_some_iff]at h;rcases h with h|⟨_,h⟩;·exact .inl (Xp4 h)
   ·exact .inr ⟨so.apart _ QOZ.2 rfl,QOZ.1⟩
  let aj:∀x c,Q42.lookup x=yz c->QE5\/(x∈own/\B.objs.size<c/\aa.IsCell c yy):=λx c h=>(two x c h).elim (λz=>.inr QNZ) .inl;let ae:∀x c,X.env.cells.lookup x=yz c->c<B.objs.size:=λx c e=>by let⟨v,z⟩:=I2.cell x c e;rw[hC];exact Vbg z.lt
  let aq:∀x y c,Q42.lookup x=yz c->Q42.lookup y=yz c->x=y:=λx y c h1 h2=>by
   rcases two x c h1 with a|⟨_,a⟩<;>rcases two y c h2 with b|⟨_,b⟩
   ·exact name_of_addr ai.apart a b
   ·exact aB0 (ae y c b) (Nat.lt_asymm (ab x c a).2.1)
   ·exact aB0 (ae x c a) (Nat.lt_asymm (ab y c b).2.1)
   exact I2.ok.inj x y c a b
  let al:∀x,sc.names.lookup x=yz .cell\/sc.names.lookup x=yz .free->∃c,Q42.lookup x=yz c:=λx h=>Vde.mp (Vhd sc.names _ cl (h.imp id λz=>by let⟨c,hc⟩:=bh QuM (Xc4 z) rfl;calc Vde.mpr ⟨c,hc⟩));generalize Vcf QQB sc.names cl=ap at aj aq al two |-;let an:∀b∈fp,b<L.heap.objs.size:=λb hb=>by let⟨o,e,_⟩:=T.obj _ _ t0 b hb;exact Vy e
  let af:H2 L.heap.objs.size=none:=I2.hok.fresh Qw;let bb:L.heap.objs.size ∉ ak:=λhm=>by let⟨w,hw,_⟩:=a0.mem hm;rw[af]at hw;cases hw
  generalize bc:({L with heap:=aa}:Vc)=s4;let IY:Inv Qs4 [] QW7 Qk1 s4:=by subst bc;exact X7c so I2 f2 aj aq al rfl hC rfl rfl ba ac (bq _ _ _ bd) an
  let av:Stp X.K ak ak H2 Qk1:=Stp.upd af;let SY:S0 Qs4 [] QW7 Qk1 s4 ak S1 Qx0:=by
   calc⟨IY,a0.upd af,⟨by simp![J2.er.len,bx],λi d e=>?_⟩⟩;let hi:i<lg env:=by
    by_cases hi:i<lg env;·exact hi
    ·rw[U7 Q0,Vdp]at e;split at e<;>cases e
   rw[Vx hi]at e;let⟨v,h1,h2⟩:=J2.er.val i d e;exact⟨v,by rw[Vx (by rw[<-J2.er.len];calc hi)];calc h1,h2.mono av⟩
  let t4:tn 0 s4.heap:=by subst bc;exact T.keep 0 _ _ t0 λb hb o e=>ba b o e
  let fY:∀b∈fp,Xa5 Qs4 [] Qk1 b:=λb hb=>by
   let⟨a1,a2,a3,a4,a5,a6⟩:=f2 b hb;exact⟨by rw[Xe (Uj QmR)];calc a1,below b QmR,λhm=>?_,.inl hb,λx c h=>(aj x c h).elim (λz=>a5 x c z.2) (λz=>Vc3 (Vex (by rw[hC];calc Vbg QmR) z.2.1)),λp hp=>?_⟩
   ·rcases Vu.mp (I2.stkSub b hm) with z|z;·exact a2 z
    ·exact a3 z
   rw[Vaw]at hp;exact a6 p hp
  exact Vd5 (Xvt (hA L.heap.objs.size) (Y:=blk X pc L H2 sc ap B.objs.size own fp) (H0:=H2) (ρ0:=ak) (P:=compPost Q2 X.A E use Q Q5K B.objs.size QJH) hc (by rw[hg];rfl) T (hG _ _ _ _ _ _) (hT _ _ _ _ _ _) (hB _ _ _ _ _ _ _) af SY t4 fY (br.mono av) bb (bo _ _ _ Xu) av hr
   λs' b3 H' ρ' b0 I' _ bp bv a7 _=>?_) λr s' h=>?_
  ·let JX:=X3a I2 f2 I'.inv;let a9:H' B.objs.size=none:=I'.inv.free;let bg:L.heap.objs.size<=B.objs.size:=by rw[hC];exact Vd1 _
   let⟨m',bj,_⟩:=I'.inv.loc;let fo:=I2.fpOk (H':=H') bg a9;let bw:H L.heap.objs.size=none:=by
    cases e:H L.heap.objs.size with
    |none=>rfl|some o=>
     by_cases hm:L.heap.objs.size∈ρ;·let⟨k,hk,ek⟩:=Vbx.mp hm;exact aB0 (V5 (ah.pre k _ (by simp![hk,ek]))) bb
     ·rw[ah.keep _ o e hm]at af;cases af
   exact hQ s' H' ρ' L.heap.objs.size B.objs.size m' ⟨JX,I'.sr,I.er.mono QjU⟩ QjU bp bw bv bj fo.2.2.2.2.1 (λz=>fo.2.1 z) a9 λag am H'' h' bu au be=>?_;let ao:Xa5 X pc H'' B.objs.size:=⟨au,fo.2⟩;exact bu.turned (t':=ag.toks) (λb o hb e=>(be.2 b hb).trans e) au ao.2.1 ao.2.2.2.1 ao.2.2.2.2.1 ao.2.2.2.2.2
  cases r with
  |ok f=>cases use<;>calc h|error e=>calc h.elim
universe e
def Xfc{get:Sto->Nat->Option Qw3}{body:En->LD->Sto->R (LD)}:∀(k i:Nat) (env:En) (B:LD) (S:Sto) (n:Nat) (S':Sto),Yy get t body k i env B S≠.ex n S'
 |0=>λi env B S n S'=>λz=>nomatch z|k+1=>λi env B S n S'=>by
  simp[Yy];cases get S i with
  |none=>exact λz=>nomatch z|some o=>
   cases o with
   |none=>exact λz=>nomatch z|some d=>
    dsimp;cases X0 t d env with
    |none=>exact λz=>nomatch z|some L=>
     dsimp;cases body L B S with
     |ok a S1=>calc Xfc k QC2 L a S1 n S'|ex _ _=>calc λz=>nomatch z|bad=>calc λz=>nomatch z
section
variable{X:Cx}{pc:LA}{σ:L2.St}{H:Hp}{s:Vc}{ρ:LR}{S:Sto}{env:En}{Q:VP}{E:VP}
def SR.adopt{K:Vh}{Da:Addr}{vs:LW}{xs:LD}(r:SR K bo ρ S H)(hn:Da ∉ ρ)(hD:H Da=yz QE3)(rd:RDs K ρ H xs vs):SR K bo Q2Z QU1 H:=by
 let B:Mon K ρ Q2Z H H:=Q16;calc⟨r.tab,by simp![r.len],?_,λn a ob h1 h2=>?_⟩;·rw[Vcg];calc Q26;rw[V6.mp hy];exact λz=>hn Q6U
 ·by_cases L:n < ρ.length;·rw[Vx L]at h1;rw[Vx (by rw[<-r.len];calc L)]at h2;exact QyM.mono' B rfl
  ·let e:n=lg ρ:=by
    let:=QXE.1;simp! at this;omega
   subst e;simp! at h1;rw[r.len]at h2;simp! at h2;subst h1 h2;calc⟨vs,hD,RDs.mono' B _ _ rd⟩
def Stp.adopt{K:Vh}{Da:Addr}{ρ':LR}{H':Hp}(st:Stp K ρ ρ' H H')(B:H Da=yy):Stp K ρ QHX H H' where
 pre:=λn a h=>by let z:=st.pre n a h;rw[Vx (Vk.mp z).1];exact z
 tup:=st.tup
 frz:=st.frz
 new:=λa h=>by
  rcases Uo.mp h with h|h;·exact st.new a h
  ·rw[V6.mp h];exact .inr B
 keep:=st.keep
variable{elt:Expr}{gens:List Vb4}{sc:Vai}{cpos:Pos}{tg iter:Expr}{ifs:LX}{own:LS}{t:Tg}{n:Nat}{fi:En->Sto->R Src}{tf:En->Sto->R Bool}{body:En->LD->Sto->R (LD)}
abbrev Xkg(fi:En->Sto->R Src)(t:Tg)(n:Nat)(tf:En->Sto->R Bool)(body:En->LD->Sto->R LD)(env:En)(S:Sto):R D:=
 QNE.bind λsrc S=>(Yy src.get t QX3 QU4 0 Qx0 [] S).bind λB S=>.ok Q7 QHd
def Xrg{k:Bool}{aa:Sem Vb}{use:Option (Vb->Sem Unit)}{m:Nat}(so:ScOk X.env.scope sc X.N own)(hg:gens=QY2::gens.tail)(hi:DI X tg iter fi)(hs:∀x,Vch iter X.env x=pure x)
  (I:S0 X pc σ H s ρ S env) (q:fi env S=.ex m S1) (hE:∀x s',XPd X pc σ ρ H m S1 x s'->E x s'):
  Vg Q2 X.A (comprehension QjJ sc X.env Qi9 aa yw QOE use) Q E s:=by
 let B:∀x∈sc.names,x.2=.free->∃c,X.env.cells.lookup x.1=yz c:=λx hx hf=>by
  rcases so.free x hx hf with z|z;·exact I.inv.ok.has x.1 Q9K
  ·exact I.inv.ok.has x.1 QVV
 let⟨cl,L,af,ab⟩:=Xjd B;calc Vjl (g:=QY2) (gs:=gens.tail) QV5 hs L so.kind so.names ?_;exact Vp (hi pc s σ H ρ S env E I Q80 λx s' z=>?_) Qo3 λ_ _ z=>z;·rw[q]at z;let⟨k,S2,e,z⟩:=z;cases e;exact hE x s' z
 ·let⟨ac,S2,_,_,_,_,_,_,e1,_⟩:=h2;rw[q]at e1;cases e1
def Xrh (A:Uu) (E:VP) (s:Vc) (Q:VP) (h:Q QC {s with heap:=s.heap.push Qg7 }):Vg Q2 A QEW Q E s:=Vaj h
def Xvv (H:Hp) (h:Heap) (a:Addr) (e:h.get? a=yz Qg7):ObjOk X.prog X.w H h a (.lst []):=⟨Van _,[],0,.nil,e⟩
def X7d(hc:X.calm=yx)(so:ScOk X.env.scope sc X.N own)(ae:Q9O=n)(hg:gens=QY2::gens.tail)(hi:DI X tg iter fi)(hs:∀x,Vch iter X.env x=pure x)
  (hG:∀pc s H L C fp,DG Ql7 tg t) (hT:∀pc s H L C fp,DTs Ql7 ifs tf) (hB:∀pc s H L C fp Da,Xc3 yw QwJ Ql7 Da elt gens sc cpos 0 body):
  DE X Qo4 (Xkg fi t n tf body):=by
 intro pc s σ H ρ S env I B;let ac:firstIter gens X.env=eval iter X.env:=by rw[hg];rfl
 let ab:firstAsync gens=false:=by rw[hg];rfl
 rw[eval_ListComp,ac,ab];unfold Xkg at B |-;cases q:fi env S with
 |bad=>rw[q]at B;cases B rfl|ex m S1=>exact Xrg (k:=yw) so hg hi hs I q λx s' z=>⟨m,S1,rfl,z⟩|ok src S1=>
  rw[q]at B;simp[Rk0]at B |-;cases q2:Yy src.get t QX3 Q58 0 Qx0 [] S1 with
  |bad=>rw[q2]at B;cases B rfl|ex m S2=>calc aB0 q2 QNN|ok accf Sf=>calc Xl7 (k:=yw) (AR:=λDa=>LstA X.K Da) (uA:=λ_=>.lst []) QCR Xrh rfl Xvv QPF hc so ae hg hi hs hG hT hB I q q2 λs' H' ρ' Da C m I' st' hn' h0 QnS hns hcells hCl hCn back=>?_;calc⟨m,hns,λh' aa=>?_⟩;calc .mk (v:=.ref Da) (st'.adopt h0) (back s' σ H' h' I'.inv hCn aa) rfl ?_ (I'.sr.adopt hn' hD' ra');simp[RD];calc QNC
def X3c{i:Nat}(hN:X.N.Nodup)(ah:X.N[i]?=yz x)(hx:X.env.scope.names.lookup x=yz .local)(af:Vgp Qo4 (yz QEF) spos.line X.env=pure yx)
  (hc:X.calm=yx) (so:ScOk X.env.scope sc X.N own) (ab:Q9O=n) (hg:gens=QY2::gens.tail) (hi:DI X tg iter fi) (hs:∀x,Vch iter X.env x=pure x)
  (hG:∀pc s H cl C fp,DG Qt0 tg t) (hT:∀pc s H cl C fp,DTs Qt0 ifs tf) (hB:∀pc s H cl C fp Da,Xc3 yw QwJ Qt0 Da elt gens sc cpos 0 body):
  DS X (.Assign Q1Z Qo4 spos) yw (λenv S=>QjH.bind λd S=>match X0 QL1 d env with|some env=>.ok QQ4 S|none=>.bad):=by
 intro pc s σ H ρ S env I B;dsimp at B |-;let ai:firstIter gens X.env=eval iter X.env:=by rw[hg];rfl
 let aa:firstAsync gens=false:=by rw[hg];rfl
 rw[exec_Assign_Name_used _ _ _ _ af];calc Va (Ve6 QNY);show Vg _ X.A (do let _ <- comprehension Qo4 sc X.env Qi9 QEW (firstAsync gens) (firstIter gens X.env) (yz QIO)) _ _ s;rw[ai,aa];calc Va (Vp (Q:=λ_ s'=>OkS X pc σ ρ H yw (QjH.bind λd S=>match X0 QL1 d env with|some env=>.ok QQ4 S|none=>.bad) .next s') ?_ (λ_ s' hq=>Vd (Vd hq)) λ_ _ z=>z);unfold Xkg at B |-;cases q:fi env S with
 |bad=>rw[q]at B;cases B rfl|ex m S1=>exact Xrg (k:=yw) so hg hi hs I q λx s' z=>.of .refl z rfl|ok src S1=>
  rw[q]at B;simp[Rk0]at B |-;cases q2:Yy src.get t QX3 Q58 0 Qx0 [] S1 with
  |bad=>rw[q2]at B;cases B rfl|ex m S2=>exact aB0 q2 QNN|ok accf Sf=>
   exact Xl7 (k:=yw) (AR:=λDa=>LstA X.K Da) (uA:=λ_=>.lst []) (use:=yz QIO) QCR Xrh rfl Xvv QPF hc so ab hg hi hs hG hT hB I q q2 λs' H' ρ' Da C m I' st' hn' h0 QnS hns hcells hCl hCn back=>?_;show Vg _ X.A (assign QEF X.env QA7) _ _ s';calc Vi6 (Xlq I'.inv hN ah Qwb (show RelV QA7 QA7 from rfl) (λs2 I2 L=>?_) Qub);let⟨ad,L,ac⟩:=L;let ae:ad≠C:=by
    rcases ac with z|z;·rw[z];exact Ne.symm hCl
    ·exact hcells x ad z
   calc⟨m,hns.sameBut L (Ne.symm ae),λh' ag=>?_⟩;let J:=back s2 _ H' h' I2 hCn ag;calc⟨.nx (env.set i (yz (.ref Sf.length))),Sf++[.lst accf],rfl,rfl,_,H',ρ'++[Da],⟨J,I'.sr.adopt hn' hD' ra',?_⟩,st'.adopt h0,λz=>nomatch z⟩;let mo:Mon X.K ρ' QHX H' H':=Q16;calc(I'.er.mono' mo).set i ?_;simp[RD];calc QNC
universe e
section
variable{X:Cx}{pc:LA}{σ:L2.St}{H:Hp}{s:Vc}{ρ:LR}{S:Sto}{env:En}{Q:VP}{E:VP}
theorem BlR(X:Cx)(k:Bl)(f:Vb):Prop:=
 ∀(pc:LA) (s:Vc) (σ:L2.St) (H:Hp) (ρ:LR) (S:Sto) (env:En) (ds:LD) (vs:LW) (us:LV) (E:VP),S0 X pc σ H s ρ S env->RDs X.K ρ H ds vs->Vals vs us->X6 k ds S≠.bad ->
  Vg Q2 X.A QGN (OkP X pc σ ρ H (X6 k ds S)) E s
def RDs.one{K:Vh}{d:D}{vs:LW}(h:RDs K ρ H [d] vs):∃v,vs=[v]/\RD K ρ H d v:=by simp[RDs]at h;let⟨v,r,rfl,h1,rfl⟩:=h;calc QsV
def RDs.two{K:Vh}{d e:D}{vs:LW}(h:RDs K ρ H [d,e] vs):∃v u,vs=Qkd/\RD K ρ H d v/\RD K ρ H e u:=by simp[RDs]at h;let⟨v,r,rfl,h1,u,B,rfl,h2,rfl⟩:=h;calc⟨v,u,rfl,h1,h2⟩
def Ycb:BlR X .len QtF:=by
 intro pc s σ H ρ S env ds vs us E I L rv B;match ds,L,B with
 |[],_,B=>cases B rfl|_::_::_,_,B=>cases B rfl|[d],L,B=>
  let⟨v,rfl,r1⟩:=L.one;let go:∀xs,Xi S d=yz xs->Vg Q2 X.A (call QtF us) (OkP X pc σ ρ H (.ok Qq9 S)) E s:=λxs h=>by let⟨a,ws,rfl,hq,hr⟩:=I.seq h r1;exact Xg3 (Q':=λz H'=>z=.int ws.length/\H'=H) Xm5 I.inv rv ⟨a,ws,rfl,hq,rfl,rfl⟩ λw s' z H' J rz zz=>?_;let⟨e1,e2⟩:=zz;subst e1 e2;let⟨t,rfl⟩:=rz;rw[<-hr.length];exact Y9 I.sr J
  cases d with
  |str _=>cases B rfl|tup xs=>exact go xs rfl|fro xs=>exact go xs rfl|ref n=>
   simp[X6,Xi]at B |-;cases e:Xl S n with
   |none=>rw[e]at B;cases B rfl|some xs=>calc go xs e
  |non=>cases B rfl|bl _=>cases B rfl|int _=>cases B rfl|fn _ _=>cases B rfl|edc=>cases B rfl
def X3d:BlR X .tuple Qx3:=by
 intro pc s σ H ρ S env ds vs us E I rd rv B;match ds,rd,B with
 |[],_,B=>cases B rfl|_::_::_,_,B=>cases B rfl|[d],rd,B=>
  let⟨v,rfl,r1⟩:=rd.one;simp[X6]at B |-;cases e:Xi S d with
  |none=>rw[e]at B;cases B rfl|some xs=>
   dsimp;let⟨a,ws,rfl,L,hr⟩:=I.seq e r1;rcases L with L|L;·exact Xg3 (Q':=λz H'=>∃p,H p=yy/\z=.ref p/\H'=upd H p (.tup ws)) Xfz I.inv rv ⟨a,ws,rfl,.inl ⟨L,λl hl=>QBQ⟩⟩ λw s' z H' J rz zz=>?_;let⟨p,hp,e1,e2⟩:=zz;subst e1 e2;cases rz;exact Xcd J hp I.sr hr
   ·calc Xg3 (Q':=λz H'=>z=.ref a/\H'=H) Xfz I.inv rv ⟨a,ws,rfl,.inr ⟨L,rfl,rfl⟩⟩ λw s' z H' J rz zz=>?_;let⟨e1,e2⟩:=zz;subst e1 e2;calc .mk .refl J rz ?_ I.sr;simp[RD];calc⟨a,ws,rfl,L,hr⟩
def X7e:BlR X .list QbT:=by
 intro pc s σ H ρ S env ds vs us E I L rv B;match ds,L,B with
 |[],_,B=>cases B rfl|_::_::_,_,B=>cases B rfl|[d],L,B=>
  let⟨v,rfl,r1⟩:=L.one;simp[X6]at B |-;cases e:Xi S d with
  |none=>rw[e]at B;cases B rfl|some xs=>dsimp;let⟨a,ws,rfl,hq,hr⟩:=I.seq e r1;calc Xg3 (Q':=λz H'=>∃p,H p=yy/\z=.ref p/\H'=upd H p QLH) Xm6 I.inv rv ⟨a,ws,rfl,hq,λl hl=>QBQ⟩ λw s' z H' J rz zz=>?_;let⟨p,hp,e1,e2⟩:=zz;subst e1 e2;cases rz;calc Y7 J hp I.sr hr
def Xbm:∀ {xs:LD} {bs:List Bool},X1 xs=yz bs->xs=bs.map D.bl
 |[],ns,h=>by simp[X1,Vw]at h;subst h;rfl|.bl i::r,ns,h=>by simp[X1,Uh]at h;let⟨ms,h1,rfl⟩:=h;rw[Xbm h1];rfl|.non::_,_,h=>by simp![X1]at h|.int _::_,_,h=>by simp![X1]at h|.str _::_,_,h=>by simp![X1]at h|.tup _::_,_,h=>by simp![X1]at h|.ref _::_,_,h=>by simp![X1]at h|.fro _::_,_,h=>by simp![X1]at h|.fn _ _::_,_,h=>by simp![X1]at h|.edc::_,_,h=>by simp![X1]at h
def Xvw(bs:List Bool)(f:Nat->Bool)(h:∀i,f i=QfU.getD yw):QcW.all f=bs.all id:=by
 rw[Vcj,Ug,Ug];constructor;·intro q b L;let⟨i,hi,rfl⟩:=Vbx.mp L;let:=q i Qz0;rw[h i]at this;simpa [hi] using this
 ·intro q i hi;let B:i<lg bs:=by simpa using hi
  rw[h i];simp[B,getElem?_pos,Vey];calc q _ (Vb1 B)
def Xvx(bs:List Bool)(f:Nat->Bool)(h:∀i,f i=QfU.getD yw):QcW.any f=bs.any id:=by
 rw[Vcj,Vca,Vca];constructor
 ·rintro ⟨i,hi,q⟩;let B:i<lg bs:=by simpa using hi
  rw[h i]at q;simp[B,getElem?_pos,Vey]at q;exact⟨_,Vb1 B,q⟩
 rintro ⟨b,hb,q⟩;let⟨i,hi,rfl⟩:=Vbx.mp hb;calc⟨i,by simpa using hi,?_⟩;rw[h i];simpa [hi] using q
def Xtb{K:Vh}:∀ {bs:List Bool} {vs:LW},RDs K ρ H QhU vs->vs=bs.map V.bl
 |[],vs,h=>by simp[Veb,RDs]at h;calc h|n::ns,vs,h=>by simp[Veb,RDs]at h;let⟨v,r,rfl,h1,h2⟩:=h;simp[RD]at h1;subst h1;rw[Xtb h2];rfl
def S0.its(I:S0 X pc σ H s ρ S env)(h:Xl S n=yz xs)(L:RD X.K ρ H QQ1 v)(B:RelV v u):∃a vs its,u=.ref a/\s.heap.IsList a its.toArray/\RDs X.K ρ H xs vs/\Vals vs its/\Qn2<=V7:=by let⟨a,vs,rfl,h1,h2,h3⟩:=I.lstR h L;cases B;let⟨its,r,p,hz⟩:=I.inv.list (.of h2);calc⟨a,vs,its,rfl,p.isList,h3,r,hz⟩
def Xn0{its:LV}{Q:VP}(hh:A.handled=yy)(L:s.heap.IsList a its.toArray\/s.heap.IsTuple a its.toArray)
  (h:∀I fp wr St B,Walks prog w A I fp wr QA6 (λi v=>its[i]?=yz v) St->St 0 B.heap->(∀b∈fp,b<B.heap.objs.size) ->
   (∀h' tk,(∀b o,b ∉ wr->B.heap.get? b=yz o->h'.get? b=yz o)->({B with heap:=h',toks:=tk}:Vc)=Qt/\∀b o,s.heap.get? b=yz o->h'.get? b=yz o)->Q (.ref I) B):
  Vg Q6 A Q5S Q E s:=by
 let ab:∀ {o:Obj},∀h' tk,(∀b ob,b ∉ Q7E->(QYH:Vc).heap.get? b=yz ob->h'.get? b=yz ob)->({ (QYH:Vc) with heap:=h',toks:=tk}:Vc)=Qt/\∀b ob,s.heap.get? b=yz ob->h'.get? b=yz ob:=
  λ{o} h' tk hk=>⟨rfl,λb ob e=>hk b ob (by simp!;calc Uj Q0F) QaD⟩
 let aa:∀ {o:Obj} (ha:a<s.heap.objs.size),∀b∈[s.heap.objs.size,a],b<(s.heap.push o).objs.size:=λ{o} ha b hb=>by
  rw[Vam];simp! at hb;rcases hb with rfl|rfl;·exact Vdw _
  ·exact Vbg ha
 rcases L with L|L;·let ha:a<s.heap.objs.size:=Vy L.choose_spec.1;calc Vfk L ?_;let W:=Walks.list (prog:=prog) (w:=w) hh s.heap.objs.size a QDf its.toArray;simp[Vo,Vhw]at W;exact h _ _ _ _ _ W QVH QTe ab
 ·let ha:a<s.heap.objs.size:=Vy L.choose_spec.1;calc Vgq L ?_;let W:=Walks.tuple (prog:=prog) (w:=w) hh s.heap.objs.size a QDf its.toArray;simp[Vo,Vhw]at W;calc h _ _ _ _ _ W QVH QTe ab
def S0.seqI(I:S0 X pc σ H s ρ S env)(h:Xi S d=yz xs)(rd:RD X.K ρ H d v)(rv:RelV v u):∃a vs its,u=.ref a/\(s.heap.IsList a its.toArray\/s.heap.IsTuple a its.toArray)/\RDs X.K ρ H xs vs/\Vals vs its/\Qn2<=V7:=by
 let⟨a,vs,rfl,B,L⟩:=I.seq h rd;cases rv;rcases B with B|B;·let⟨its,r,p,hz⟩:=I.inv.list B;exact⟨a,vs,its,rfl,.inl p.isList,L,r,hz⟩
 ·let⟨its,r,p,hz⟩:=I.inv.tuple B;calc⟨a,vs,its,rfl,.inr p,L,r,hz⟩
def Xri{i:Nat}{v:Vb}:∀ {bs:List Bool} {its:LV},Vals QgU its->its[i]?=yz v->v=.bool (QfU.getD yw):=λ{bs its} hv e=>by
 let hl:i<lg bs:=by let h1:=hv.length;let h2:=QzR.1;simp! at h1;omega
 let⟨u,h1,h2⟩:=hv.get (i:=i) (x:=.bl bs[i]) (by simp![hl]);rw[e]at h1;cases h1;simp![hl];calc h2
def Ycc(hc:X.calm=yx):BlR X .all (.builtin "all"):=by
 intro pc s σ H ρ S env ds vs us E I rd rv B;match ds,rd,B with
 |[],_,B=>cases B rfl|_::_::_,_,B=>cases B rfl|[d],rd,B=>
  let⟨v,rfl,r1⟩:=rd.one;simp[X6]at B |-;cases e:Xi S d with
  |none=>rw[e]at B;cases B rfl|some xs=>
   rw[e]at B;simp[Vab]at B |-;cases e2:X1 xs with
   |none=>rw[e2]at B;cases B rfl|some bs=>
    dsimp;let q:=Xbm e2;subst q;cases rv with
    |cons ru rr=>
     cases rr;let⟨a,ws,its,rfl,hl,hr,hv,hz⟩:=I.seqI e r1 ru;let hw:=Xtb hr;subst hw;let L:QA6=lg bs:=by rw[<-hv.length];simp!
     calc call_all_walk Q37;calc Ql3;·rw[Xri hv hP];exact Vce hQ
     ·let⟨e3,k3⟩:=aa h' tk hk;rw[e3,L,Xvw bs _ λ_=>rfl];calc Xd I.sr QPS
def X3e{d:D}(hc:X.calm=yx)(hb:X6 .anb [d] S=match (Xi S d).bind X1 with
   |some bs=>.ok Q1Q S
   |none=>.bad) (I:S0 X pc σ H s ρ S env) (rd:RD X.K ρ H d v) (ru:RelV v u) (B:X6 .anb [d] S≠.bad):Vg Q2 X.A (call QwQ [u]) (OkP X pc σ ρ H (X6 .anb [d] S)) E s:=by
 rw[hb]at B |-;cases e:Xi S d with
 |none=>rw[e]at B;cases B rfl|some xs=>
  rw[e]at B;simp[Vab]at B |-;cases e2:X1 xs with
  |none=>rw[e2]at B;cases B rfl|some bs=>
   dsimp;let q:=Xbm e2;subst q;let⟨a,ws,its,rfl,hl,hr,hv,hz⟩:=I.seqI e rd ru;let hw:=Xtb hr;subst hw;let L:QA6=lg bs:=by rw[<-hv.length];simp!
   calc call_any_walk Q37;calc Ql3;·rw[Xri hv hP];exact Vce hQ
   ·let⟨e3,k3⟩:=aa h' tk hk;rw[e3,L,Xvx bs _ λ_=>rfl];calc Xd I.sr QPS
def Ycd(hc:X.calm=yx):BlR X .anb QwQ:=by
 intro pc s σ H ρ S env ds vs us E I L rv B;match ds,L,B with
 |[],_,B=>cases B rfl|d::_::_,_,B=>cases d<;>cases B rfl|[d],L,B=>
  let⟨v,rfl,r1⟩:=L.one;let⟨u,rfl,ru⟩:=rv.one;cases d with
  |_=>calc X3e hc rfl I r1 ru B
def X7f(L:X.calm=yx)(I:S0 X pc σ H s ρ S env)(B:RelV QF0 v')(ru:RelV Qz2 u'):Vg Q2 X.A (call QsF [v',u']) (OkP X pc σ ρ H (X6 .max QL3 S)) E s:=
 Xg3 (Q':=λz H'=>z=.int (if j>i then j else i)/\H'=H) (Xu6 L) I.inv (.cons B QTB) QZM λw s' z H' J rz QJ3=>by subst e1 e2;let⟨t,rfl⟩:=rz;calc Y9 I.sr J
def X7g(hc:X.calm=yx){i j:Int}{v' B:Vb}(I:S0 X pc σ H s ρ S env)(L:RelV QF0 v')(ru:RelV Qz2 B):Vg Q2 X.A (call QrF [v',B]) (OkP X pc σ ρ H (X6 .min QL3 S)) E s:=
 Xg3 (Q':=λz H'=>z=.int (if j<i then j else i)/\H'=H) (Xu7 hc) I.inv (.cons L QTB) QZM λw s' z H' J rz QJ3=>by subst e1 e2;let⟨t,rfl⟩:=rz;calc Y9 I.sr J
def Xvy{k:Bl}{S:Sto}(L:k=.max\/k=.min)(B:X6 k ds S≠.bad):∃i j,ds=QL3:=by
 rcases L with rfl|rfl
 ·simp[X6]at B;split at B;·exact Qz7
  ·cases B rfl
 simp[X6]at B;split at B;·exact Qz7
 ·cases B rfl
def Yce(hc:X.calm=yx):BlR X .max QsF:=by
 intro pc s σ H ρ S env ds vs us E I rd rv nb;let⟨i,j,rfl⟩:=Xvy Qd0 nb;let⟨v,u,rfl,r1,r2⟩:=rd.two;simp[RD]at r1 r2;subst r1 r2;cases rv with
 |cons ru L=>cases L with
  |cons B L=>cases L;calc X7f hc I ru B
def Ycf(hc:X.calm=yx):BlR X .min QrF:=by
 intro pc s σ H ρ S env ds vs us E I rd rv nb;let⟨i,j,rfl⟩:=Xvy Qg6 nb;let⟨v,u,rfl,r1,r2⟩:=rd.two;simp[RD]at r1 r2;subst r1 r2;cases rv with
 |cons ru L=>cases L with
  |cons B L=>cases L;calc X7g hc I ru B
theorem MtD(X:Cx)(k:Mt)(id:String):Prop:=
 ∀(pc:LA) (s:Vc) (σ:L2.St) (H:Hp) (ρ:LR) (S:Sto) (env:En) (d:D) (v:V) (u:Vb) (ds:LD) (vs:LW) (us:LV) (E:VP),S0 X pc σ H s ρ S env->RD X.K ρ H d v->RelV v u->RDs X.K ρ H ds vs->Vals vs us->Y4 k d ds S≠.bad ->
  Vg Q2 X.A (call Qb2 (u::us)) (OkP X pc σ ρ H (Y4 k d ds S)) E s
def Xkh{n:Nat}{a:Addr}{xs:LD}{vs:LW}{s':Vc}{d:D}{v:V}{u:Vb}(I:S0 X pc σ H s ρ S env)(L:ρ[n]?=yz a)(hv:H a=yz QLH)(J:Inv X pc σ QHU s')(rd:RDs X.K ρ H xs vs)(rv:RelV v u)(B:RD X.K ρ H d v):
  OkP X pc σ ρ H (.ok d (S.set n QB1)) u s':=by
 let nf:∀o u,H a≠yz QW1:=λo u z=>by rw[hv]at z;cases z
 let st:Stp X.K ρ ρ H QHU:=Stp.chg (S:=S) (o:=.lst xs) I.sr L nf;calc .mk st J rv (B.mono st) (I.sr.chg L nf ⟨vs,Xu,rd.mono st⟩)
def Xy7:MtD X .append "list.append":=by
 intro pc s σ H ρ S env d v u ds vs us E I rd rv L aa B;cases d with
 |ref n=>
  match ds,L,B with
  |[x],L,B=>
   let⟨y,rfl,r1⟩:=L.one;simp[Y4]at B |-;cases e:Z.lstM S n with
   |none=>rw[e]at B;cases B rfl|some xs=>
    rw[e]at B;dsimp at B |-;split at B;·rename_i hz;rw[iP0 hz];let⟨a,ws,rfl,ha,hv,hr⟩:=I.lstR e rd;exact mtd (Q':=λz H'=>z=.non/\H'=upd H a (.lst (ws++[y]))) Xly I.inv rv aa ⟨a,ws,y,rfl,rfl,hv,by rw[<-hr.length];calc Uf hz Xi7,rfl,rfl⟩ λw s' z H' J rz zz=>?_;let⟨e1,e2⟩:=zz;subst e1 e2;exact Xkh I ha hv J (hr.append (.cons r1 .nil)) rz Qt1
    ·cases B rfl
  |[],_,B=>cases B rfl|_::_::_,_,B=>cases B rfl
 |_=>cases B rfl
def Ycg:MtD X .xtd "list.extend":=by
 intro pc s σ H ρ S env d v u ds vs us E I rd rv ae ak L;cases d with
 |ref n=>
  match ds,ae,L with
  |[x],ae,L=>
   let⟨y,rfl,r1⟩:=ae.one;simp[Y4]at L |-;cases e:Z.lstM S n with
   |none=>rw[e]at L;cases L rfl|some xs=>
    rw[e]at L;dsimp at L |-;cases e2:Xi S x with
    |none=>rw[e2]at L;cases L rfl|some ys=>
     rw[e2]at L;dsimp at L |-;split at L
     ·rename_i hz;rw[iP0 hz];let⟨a,ws,rfl,ha,hv,hr⟩:=I.lstR e rd;cases rv;let⟨u2,rfl,ah⟩:=ak.one;let⟨b,zs,aa,rfl,hs,hq,r2,an⟩:=I.seqI e2 r1 ah;let ag:(lg ws)+lg zs<=V7:=by rw[<-hr.length,<-hq.length];exact V2 hz Xi7
      let⟨z,its,c,ai,hl,eo⟩:=I.inv.lstM hv;obtain⟨T,hT,o2,e2,ac,n2,ab⟩:∃T:String,(T="tuple" \/ T="list")/\∃o2,s.heap.get? b=yz o2/\o2.cls=.type T/\∃n2,o2.data=.seq aa.toArray n2:=by
       rcases hs with⟨o2,e2,ac,n2,ab⟩|⟨o2,e2,ac,n2,ab⟩;·exact⟨_,.inr rfl,o2,e2,ac,n2,ab⟩
       ·exact⟨_,.inl rfl,o2,e2,ac,n2,ab⟩
      let ao:=r2.length;let aj:its.toArray.size+aa.toArray.size<=V7:=by rw[Vo,Vo];omega
      let af:¬ (!its.toArray.isEmpty&&Vew (its.toArray.size+aa.toArray.size))=true:=by rw[Xm7 aj,Vc9];exact V3
      calc Us F.slot_list_extend ⟨_,eo,rfl⟩ F.entry_list_extend ?_ (F.args_list_extend_2 _ _);show Vg _ _ (Vbr Q40 QYd .none) _ _ s;unfold Vbr;calc Va (Vcm (T:=T) ⟨o2,e2,ac⟩ ?_);rw[iP0 (by rcases hT with rfl|rfl<;>calc(Bool.or_assoc _ _ _).trans (Bool.or_true _))];calc Va (Vgr e2 ab (Va (Vgr eo rfl ?_)));rw[iN0 af];calc Va (listUpdate_at eo rfl (Vd Qn5) QbF (by rw[Array.size_append];omega));exact Xkh I ha hv (I.inv.lset (its':=its++aa) hv eo QB (ai.append r2) (by rw[Uc];calc ag)) (hr.append hq) (show RelV .non Vbw from rfl) Qt1
     cases L rfl
  |[],_,L=>cases L rfl|_::_::_,_,L=>cases L rfl
 |_=>cases L rfl
def Ych(n:Nat)(i:Int)(k:Nat)(h:Z.ixN n i=yz k):seqIndex? i n=yz k:=by
 unfold Z.ixN at h;unfold seqIndex?;dsimp;by_cases B:0<=i
 ·rw[iP0 B]at h;split at h;·rename_i hl;rw[iN0 (Int.not_lt.mpr B),decide_eq_true B,decide_eq_true hl];exact h
  ·cases h
 rw[iN0 B]at h;split at h;·rw[iP0 (Int.not_le.mp B),decide_eq_true (show 0<=i+(n:Int) by omega),decide_eq_true (show i+(n:Int)<n by omega)];exact h
 ·cases h
def RDs.erase{K:Vh}{ρ:LR}{H:Hp}:∀ {xs:LD} {vs:LW} (j:Nat),RDs K ρ H xs vs->RDs K ρ H QFR (vs.eraseIdx j)
 |[],vs,j,h=>by simp[RDs]at h;subst h;simp[List.eraseIdx_nil,RDs]|x::xs,vs,0,h=>by simp[RDs]at h;let⟨v,B,rfl,_,h2⟩:=h;calc h2|x::xs,vs,j+1,h=>by simp[RDs]at h;let⟨v,B,rfl,h1,h2⟩:=h;simp[List.eraseIdx_cons_succ,RDs];calc⟨_,_,rfl,h1,RDs.erase j h2⟩
def X7h:MtD X .popi "list.pop":=by
 intro pc s σ H ρ S env d v u ds vs us E I rd rv L ac B;cases d with
 |ref n=>
  match ds,L,B with
  |[x],L,B=>
   let⟨y,rfl,r1⟩:=L.one;cases x with
   |int k=>
    simp[Y4]at B |-;cases e:Z.lstM S n with
    |none=>rw[e]at B;cases B rfl|some xs=>
     rw[e]at B;dsimp at B |-;cases e2:Z.ixN QU k with
     |none=>rw[e2]at B;cases B rfl|some j=>
      rw[e2]at B;dsimp at B |-;cases e3:xs[j]? with
      |none=>rw[e3]at B;cases B rfl|some z=>
       rw[e3]at B;dsimp at B |-;split at B
       ·rename_i hz;rw[iP0 hz];let⟨a,ws,rfl,ha,hv,hr⟩:=I.lstR e rd;simp[RD]at r1;subst r1;let⟨zv,aa,ab⟩:=hr.get e3;let bd:-(2^63:Int)<=k/\k<2^63:=by
         let b1:QU<1000000:=hz;unfold Z.ixN at e2;split at e2
         ·split at e2;·omega
          ·cases e2
         split at e2;·omega
         ·cases e2
        exact mtd (Q':=λz' H'=>z'=zv/\H'=upd H a (.lst (ws.eraseIdx j))) Xyl I.inv rv ac ⟨a,ws,k,j,zv,rfl,rfl,hv,bd.1,bd.2,by rw[<-hr.length];calc Ych _ _ _ e2,aa,rfl,rfl⟩ λw s' z' H' J rz zz=>?_;let⟨e4,e5⟩:=zz;subst e4 e5;exact Xkh I ha hv J (hr.erase j) rz ab
       cases B rfl
   |_=>cases B rfl
  |[],_,B=>cases B rfl|_::_::_,_,B=>cases B rfl
 |_=>cases B rfl
universe e
section
variable{X:Cx}{pc:LA}{σ:L2.St}{H:Hp}{s:Vc}{ρ:LR}{S S':Sto}{env:En}{a b c e:Expr}{fa fb fc:En->Sto->R D}{pos:Pos}
def X1r(ha:DE X a fa):DE X (.UnaryOp .USub a pos) (λenv S=>QC0.bind λx S=>match x with | .int i=>.ok QMH S|_=>.bad):=by
 intro pc s σ H ρ S env I B;dsimp at B |-;cases q:fa env S with
 |bad=>rw[q]at B;cases B rfl|ex n S1=>exact UnaryOp_ Qb5|ok x S1=>
  rw[q]at B;simp[Rk0]at B |-;calc UnaryOp_ (ha.ok I q λu s1 v H1 aa I1 rv rd L=>?_);cases x with
  |int i=>simp[RD]at rd;subst rd;let⟨t,rfl⟩:=rv;calc neg_int (OkP.pre L (Y9 I1.sr (I1.inv.tok _)))|_=>cases B rfl
def X7i(hc:DT X c Qu8)(ha:DT X a Q96)(hb:DT X b QBD):
  DT X QlO (λenv S=>tst (QV4.bind λx S=>match X2 S x with|some yx=>fa env S|some yw=>fb env S|none=>.bad)):=by
 intro pc s σ H ρ S env I B;dsimp at B |-;show Vg _ _ (do if <- isTrue c X.env Q7T then isTrue a X.env QCC else isTrue b X.env QBC) _ _ s;cases q:fc env S with
 |bad=>rw[q]at B;cases B rfl|ex n S1=>exact Va QbB|ok x S1=>
  rw[q]at B;simp[Rk0]at B |-;cases t:X2 S1 x with
  |none=>rw[t]at B;cases B rfl|some r=>
   rw[t]at B;calc Va QB6;cases r with
   |true=>calc Vp Qd6 QP0 λx s' z=>z.pre L|false=>calc Vp Qc6 QP0 λx s' z=>z.pre L
abbrev Xaj(L B:Co)(fa fb fc:En->Sto->R D)(env:En)(S:Sto):R D:=QC0.bind λx S=>QW4.bind λy S=>match Xar L x y S with
  |some yx=>QV4.bind λz S=>Xk B y z S|some yw=>.ok Qc S|none=>.bad
def Xn1(ah:Op2 X QPI Q1Y)(ha:DE X a fa)(hb:DE X b fb)(I:S0 X pc σ H s ρ S env)(nb:Xaj o1 o2 fa fb fc env S≠.bad)
  {W:Vb->Vb->Bool->Vc->Prop} (hE:∀x s',ExP X pc σ ρ H QU0 x s'->Ev x s')
  (hF:∀v u L S2 H2 B,Xaj o1 o2 fa fb fc env S=.ok Qc S2->S0 X pc σ H2 L B S2 env->Stp X.K ρ B H H2->W v u yw L)
  (hT:∀v u L S2 y vy H2 B,Xaj o1 o2 fa fb fc env S=(QnX.bind λz S=>Xk o2 y z S)->S0 X pc σ H2 L B S2 env->RelV vy u->RD X.K B H2 y vy->Stp X.K ρ B H H2->W v u yx L):
  Vg Q2 X.A QCC (λv s1=>Vg Q2 X.A QBC (λu s2=>Vg Q2 X.A (Vbm (opC o1) v u) (λd L=>∃r,d=.bool r/\W v u r L) Ev s2) Ev s1) Ev s:=by
 cases q:fa env S with
 |bad=>rw[Xaj,q]at nb;cases nb rfl|ex n S1=>exact ha.ex I q λx s' z=>hE x s' ⟨n,S1,by rw[Xaj,q];rfl,z⟩|ok x S1=>
  calc ha.ok I q λv s1 vx H1 ak I1 rv rd ab=>?_;cases q2:fb env S1 with
  |bad=>rw[Xaj,q]at nb;simp[Rk0]at nb;rw[q2]at nb;cases nb rfl|ex n S2=>exact hb.ex I1 q2 λx s' z=>hE x s' ⟨n,S2,by rw[Xaj,q];simp[Rk0];rw[q2];rfl,z.pre ab⟩|ok y S2=>
   exact hb.ok I1 q2 λu s2 vy H2 B I2 ru ag ae=>?_
   let eq:Xaj o1 o2 fa fb fc env S=(match Xar o1 x y S2 with
     |some yx=>QnX.bind λz S=>Xk o2 y z S|some yw=>.ok Qc S2
     |none=>.bad):=by rw[Xaj,q];simp[Rk0];rw[q2];rfl
   cases q3:Xar o1 x y S2 with
   |none=>rw[eq,q3]at nb;cases nb rfl|some r=>
    let e3:Xk o1 x y S2=.ok QSA S2:=by unfold Xk;rw[q3]
    calc Vp (ah pc s2 σ H2 B S2 env x y vx vy v u QZ0 I2 (by rw[e3];calc λz=>nomatch z) (rd.mono ae) rv ag ru) (λd L z=>?_) λ_ _ z=>z.elim;rw[e3]at z;let⟨d',S3,e4,w,H3,ac,J3,ai,af,aj,aa⟩:=z;cases e4;simp[RD]at af;subst af;cases ai;calc⟨r,rfl,?_⟩;let I3:S0 X pc σ H3 L ac S2 env:=I2.step J3 aj aa;cases r with
    |false=>calc hF v u L S2 H3 ac QSW I3 QvI|true=>calc hT v u L S2 y vy H3 ac QSW I3 ru (ag.mono aa) QvI
def Xn2(ag:Op2 X QOI Q0Y)(hc:DE X c fc)(I:S0 X pc σ H s ρ S env)(ru:RelV vy u)(rd:RD X.K ρ H y vy)(st0:Stp X.K ρ0 ρ H0 H)
  (L:QQ7≠.bad) (hE:∀x s',ExP X pc σ ρ0 H0 QQ7 x s'->Ev x s')
  (hW:∀r S3 s3 H3 B,QQ7=.ok QSA S3->S0 X pc σ H3 s3 B S3 env->Stp X.K ρ0 B H0 H3->W Q3c s3):
  Vg Q2 X.A Q7T (λw s1=>Vg Q2 X.A (Vbm (opC o2) u w) W Ev s1) Ev s:=by
 cases q:fc env S with
 |bad=>rw[q]at L;cases L rfl|ex n S1=>calc hc.ex I q λx s' z=>hE x s' ⟨n,S1,by rw[q];rfl,z.pre st0⟩|ok z S1=>rw[q]at L;simp[Rk0]at L;calc hc.ok I q λw s1 vz H1 af I1 rv ah ab=>?_;let⟨r,e1,e2⟩:=Xc7 L;calc Vp (ag pc s1 σ H1 af S1 env y z vy vz u w QZ0 I1 L QAW ru ah rv) (λd s3 zz=>?_) λ_ _ z=>z.elim;rw[e2]at zz;let⟨d',S3,e4,w',H3,B,J3,ae,aa,ai,ac⟩:=zz;cases e4;simp[RD]at aa;subst aa;cases ae;calc hW r S1 s3 H3 B (by rw[q];calc e2) (I1.step J3 ai ac) (st0.trans (ab.trans ac))
def Yci(aa:Op2 X QPI Q1Y)(ab:Op2 X QOI Q0Y)(ha:DE X a fa)(hb:DE X b fb)(hc:DE X c fc)(hm:lastMarks Qk8 [b,c]=yw):
  DE X QqH (Xaj o1 o2 fa fb fc):=by
 intro pc s σ H ρ S env I nb;exact Compare_chain (Vp (Xn1 (W:=λv u r L=>if r=yx then Vg Q2 X.A (compareChain pos u QPf QzV) (OkP X pc σ ρ H QU0) (ExP X pc σ ρ H QU0) L else OkP X pc σ ρ H QU0 QHJ L) aa ha hb I nb QmE ?_ ?_)
  (λv s1 h1=>chain_link (Vp h1 (λu s2 h2=>Vp h2 (λd L Q9a=>?_) λ_ _ z=>z) λ_ _ z=>z)) λ_ _ z=>z) hm
 ·intro v u L S2 H2 ac e I2 B;rw[iN0 V3,e];exact OkP.pre B (Xd I2.sr I2.inv)
 ·intro v u L S2 y vy H2 ac e I2 ru rd B;rw[iP0 rfl];calc chain_last (Xn2 ab hc I2 ru rd B (by rw[<-e];calc nb) (λx s' z=>by rw[e];calc z) λr S3 s4 H3 af e3 I3 ae=>?_);rw[e,e3];exact OkP.pre ae (Xd I3.sr I3.inv)
 ·subst e;calc Vce ?_;cases r with
  |true=>rw[iP0 rfl]at w;calc ite_tt w|false=>rw[iN0 V3]at w;calc ite_ff w
def X7j(ab:Op2 X QPI Q1Y)(ac:Op2 X QOI Q0Y)(ha:DE X a fa)(hb:DE X b fb)(hc:DE X c fc)(hm:lastMarks Qk8 [b,c]=yw):
  DT X QqH (λenv S=>tst QU0):=by
 intro pc s σ H ρ S env I nb;dsimp at nb |-;let L:Xaj o1 o2 fa fb fc env S≠.bad:=λz=>nb Qm4;let ex:∀x s',ExP X pc σ ρ H QU0 x s'->ExP X pc σ ρ H QJa x s':=λx s' ⟨n,S1,e,z⟩=>⟨n,S1,by rw[e];rfl,z⟩
 exact isTrue_chain (Vp (Xn1 (W:=λv u r s3=>if r=yx then Vg Q2 X.A (testChain pos u QPf QzV) (λb s'=>∃S',tst QU0=.ok b S'/\∃H' ρ',Inv X pc σ H' s'/\SR X.K QV1 ρ' S' H'/\Stp X.K ρ ρ' H H') (ExP X pc σ ρ H QJa) s3
   else ∃S',tst QU0=.ok yw S'/\∃H' ρ',Inv X pc σ H' s3/\SR X.K QV1 ρ' S' H'/\Stp X.K ρ ρ' H H') ab ha hb I L ex ?_ ?_)
  (λv s1 h1=>test_link (Vp h1 (λu s2 h2=>Vp h2 (λd s3 Q9a=>?_) λ_ _ z=>z) λ_ _ z=>z)) λ_ _ z=>z) hm
 ·intro v u s3 S2 H2 aa e I2 B;rw[iN0 V3,e];exact⟨S2,rfl,H2,aa,I2.inv,I2.sr,B⟩
 ·intro v u s3 S2 y vy H2 aa e I2 ru rd B;rw[iP0 rfl];calc test_last (Xn2 ac hc I2 ru rd B (by rw[<-e];calc L) (λx s' z=>ex x s' (by rw[e];calc z)) λr S3 s4 H3 ae e3 I3 af=>?_);exact Vce ⟨S3,by rw[e,e3];rfl,H3,ae,I3.inv,I3.sr,af⟩
 ·subst e;calc Vce ?_;cases r with
  |true=>rw[iP0 rfl]at w;calc ite_tt w|false=>rw[iN0 V3]at w;calc ite_ff w
variable{x:Str}{p:Pos}{es:LX}{g:En->Sto->R (LD)}{k:Bl}{id T:String}
def X7k (hB:BlR X k Qb2) (hg:Gl X x) (hm:X.mg x=yy) (hv:Veu x=yz Qb2) (ha:DA X QD4 g) (hn:x ≠ "__name__") (ab:QB0=yw)
  (he:Ue QD4 X.env=QT5::Ue es X.env) (L:QR0.any Qu=yw):DE X QE7 QpB:=by
 intro pc s σ H ρ S env I B;dsimp at B |-;calc Vaq QGG;cases q:g env S with
 |bad=>rw[q]at B;cases B rfl|ex n S1=>calc Vbc Qb5 he L|ok ds S1=>rw[q]at B;calc Vbc Qv9 he L;calc Vp Qd8 Q4M λ_ _ z=>z.elim
def X7l (hB:BlR X k QhD) (hg:Gl X x) (hm:X.mg x=yy) (hv:Veu x=yz QhD) (ha:DA X QD4 g) (hn:x ≠ "__name__") (ab:QB0=yw)
  (he:Ue QD4 X.env=QT5::Ue es X.env) (L:QR0.any Qu=yw):DE X QE7 QpB:=by
 intro pc s σ H ρ S env I B;dsimp at B |-;calc Vaq QGG;cases q:g env S with
 |bad=>rw[q]at B;cases B rfl|ex n S1=>calc Vad Qb5 he L|ok ds S1=>rw[q]at B;calc Vad Qv9 he L;calc Vp Qd8 Q4M λ_ _ z=>z.elim
def Ycj (hg:Gl X x) (L:X.mg x=yz u) (hd:∀ ρ H,∃v,RelV v u/\RD X.K ρ H d v) (B:QB0=yw):DE X QSH (λ_ S=>.ok d S):=by intro pc s σ H ρ S env I nb;let⟨v,rv,rd⟩:=hd ρ H;calc Xeh I.inv hg L (.mk .refl I.inv rv rd I.sr) B
def Xf9 (slot:Slot "list" name id) (ah:typeOf Qb2=pure (.type "method_descriptor")) (hM:MtD X m id) (hr:∀x S,Xbf m x S=yx->∃n xs,x=.ref n/\Xl S n=yz xs) (ho:DE X o fo) (ha:DA X QD4 g)
  (aa:attributeBase o name X.env QEI=eval o X.env)
  (ac:Ql0=yx)
  (ab:QKI=yx) (hs:Ue QD4 X.env=QT5::Ue es X.env) (B:QLT.any Qu=yw):
  DE X (.Call (.Attribute o name apos) QD4 [] cpos) (λenv S=>QpI.bind λx S=>if Xbf m x S then Qc5.bind λxs S=>Y4 m x xs S else .bad):=by
 intro pc s σ H ρ S env I L;dsimp at L |-;cases q:fo env S with
 |bad=>rw[q]at L;cases L rfl|ex n S1=>exact wpAny_Call_method_late aa ac ab rfl QDI|ok x S1=>
  rw[q]at L;simp[Rk0]at L |-;split at L
  ·rename_i hk;rw[iP0 hk];let⟨n,xs,rfl,hx⟩:=hr x S1 hk;calc wpAny_Call_method_late aa ac ab rfl (ho.ok I q λv s1 vx H1 ak I1 rv rd ae=>?_);let⟨a,ws,rfl,k1,k2,k3⟩:=I1.lstR hx rd;cases rv;let⟨its,_,pl,_⟩:=I1.inv.list QOV;calc⟨"list",id,PySem.F.plainAttrs_list,slot,ah,pl.isList.typeIs,λb eb=>?_,?_⟩;·cases eb;let⟨ob,n',e1,c1,hd,_⟩:=pl;exact⟨ob,e1,hd⟩
   ·cases q2:g env S1 with
    |bad=>rw[q2]at L;cases L rfl|ex k S2=>let hA:=ha.ex (pos:=cpos) (E:=ExP X pc σ ρ H QwC) (Q:=λus s2=>Vg Q2 X.A QAT QhF QZK s2) I1 q2 λx s' z=>.mk ae z;rw[hs]at hA |-;calc Vfh QrI QPO|ok ds S2=>rw[q2]at L;simp[Rk0]at L |-;let hA:=ha.ok (pos:=cpos) (E:=ExP X pc σ ρ H QdF) (Q:=λus s2=>Vg Q2 X.A QAT (OkP X pc σ ρ H QdF) (ExP X pc σ ρ H QdF) s2) I1 q2 λus s2 vs H2 ai I2 aj ag af=>Vp (hM pc s2 σ H2 ai S2 env QQ1 Q40 Q40 ds vs us QZ0 I2 (rd.mono af) rfl ag aj L) (λw s3 z=>z.pre (ae.trans af)) λ_ _ z=>z.elim;rw[hs]at hA |-;exact Vfh QrI QPO
  cases L rfl
def Xn3:∀(L:LS) (k:Nat) (B:Str),(textFrom k B L).length<=B.length+piled L
 |[]=>λk B=>by simp![textFrom,piled]|t::L=>λk B=>by
  let ih:=Xn3 L QG5 (B++(if k>0 then ", " else "" : String)++t);let e:(Va0 (if k>0 then ", " else "")).length<=2:=by split<;>decide
  rw[textFrom,piled_cons];simp[Vi9]at ih;omega
mutual
def Xn4:∀p:Vcc,p.showable=yx->Xdg p=yx->p.shown.length<=szD p
 |.none=>λ_ _=>by simp[Vfq,szD];decide|.bool b=>λ_ _=>by simp[Vfq,szD];cases b<;>decide|.int i=>λh _=>by
  simp[Vd8,decide_eq_true_eq]at h;simp[Vfq,szD,szI];rw[PySem.ofString_length];split;·rename_i c;exact int_text_length_le10 (k:=3) Q1 c
  ·let:=int_text_length_le Q1 h;omega|.str x=>λ_ _=>by simp[Vfq,szD];exact Vi _|.list xs=>λh h2=>by
  simp[Vd8]at h;simp[Xdg]at h2;let ih:=shownAll_le xs h h2;simp[Vfq,szD,listText,Vi9];let:=Xn3 QSO 0 "[";let e1:(Va0 "[").length=1:=by decide
  let e2:(Va0 "]").length=1:=by decide
  omega|.tuple xs=>λh h2=>by
  simp[Vd8]at h;simp[Xdg]at h2;let ih:=shownAll_le xs h h2;simp[Vfq,szD,tupleText,Vi9];let e1:(Va0 "(").length=1:=by decide
  let e2:(Va0 (if QSO.length==1 then ",)" else ")")).length<=2:=by split<;>decide
  let e3:(Str.join ", " QSO).length<=piled QSO:=by
   cases e:Vdi xs with
   |nil=>decide|cons t B=>let:=join_length_add (t::B) QB;omega
  omega|.dict kvs=>λ_ h2=>by
  simp[Xdg]at h2;cases kvs with
  |nil=>simp[Vfq,PyData.shownKv,szD];decide|cons x r=>cases h2
def shownAll_le:∀ps:List Vcc,Vfb ps=yx->dctEs ps=yx->piled (Vdi ps)<=szDs ps
 |[]=>λ_ _=>by simp![Vdi,szDs,piled]|p::ps=>λh h2=>by simp[Vfb,bA0]at h;simp[dctEs,bA0]at h2;let i1:=Xn4 p h.1 h2.1;let i2:=shownAll_le ps h.2 h2.2;rw[Vdi,piled_cons,szDs];omega
end
def X7m (ab:∃o,X.K.lookup Vci=yz o/\o.cls≠.type "list") (hg:X.A.guards=yz []) (hu:X.A.units+200<Vbt):BlR X .repr QzP:=by
 intro pc s σ H ρ S env ds vs us E I rd rv B;match ds,rd,B with
 |[],_,B=>cases B rfl|d::_::_,_,B=>cases B rfl|[d],rd,B=>
  let⟨v,rfl,r1⟩:=rd.one;let⟨u,rfl,ru⟩:=rv.one;simp[X6]at B |-;cases e:Xid S d with
  |none=>rw[e]at B;cases B rfl|some t=>
   dsimp;unfold Xid at e;cases e1:Yp S d with
   |none=>rw[e1]at e;cases e|some p=>
    rw[e1]at e;dsimp at e;split at e
    ·rename_i hz;simp[bA0,decide_eq_true_eq]at hz;let⟨⟨⟨z1,z2⟩,z3⟩,z4⟩:=hz;cases e;let⟨as,rr,L⟩:=Xvj I ab e1 r1 ru;let aa:p.shown.length<=V7:=Xbi (V2 (Xn4 p z1 z2) z4);let ref:∀a,u=.ref a->Vg Q2 X.A (call QzP [u]) (OkP X pc σ ρ H (.ok (.str p.shown) S)) E s:=λa ea=>by
      subst ea;exact repr_of_reads' rr z1 (λ_=>L) hg Q0 (λ_ _ q=>q) (λh' u tk hk=>Xi9 I.sr (I.inv.kept hk)) aa
     cases rr with
     |none=>exact PySem.P.repr_of_none QMI|bool b=>exact PySem.P.repr_of_bool (by cases b<;>calc Xi9 I.sr QD1)|int i t=>exact PySem.P.repr_of_int (by simpa only[Vd8,decide_eq_true_eq] using z1) QMI|str x t=>exact PySem.P.repr_of_str QMI aa|_=>exact ref _ rfl
    cases e
def Xga(x:Int):∀l:LI,Q9b.Perm (x::l)
 |[]=>.refl _|y::r=>by
  simp[Xic];split;·exact .refl _
  ·calc(List.Perm.cons y (Xga x r)).trans (Vgx x y r)
def Xbw:∀l:LI,Qse.Perm l
 |[]=>.refl _|x::r=>(Xga x Qre).trans (List.Perm.cons x (Xbw r))
def Xrj(x:Int):∀l:LI,l.Pairwise QbH->Q9b.Pairwise QbH
 |[]=>λ_=>by simp![Xic]|y::r=>λh=>by
  let ⟨h1,h2⟩:=Vah.mp h;simp[Xic];split
  ·rename_i e;calc Vah.mpr ⟨λz hz=>?_,h⟩;rcases Vu.mp hz with rfl|hz;·exact e
   ·exact Int.le_trans e (h1 z hz)
  rename_i e;calc Vah.mpr ⟨λz hz=>?_,Xrj x r h2⟩;rcases Vu.mp ((Xga x r).mem_iff.mp hz) with rfl|hz;·omega
  ·calc h1 z hz
def Xg6:∀l:LI,Qse.Pairwise QbH
 |[]=>Veh|x::r=>Xrj x _ (Xg6 r)
def Xfd{K:Vh}{ρ:LR}{H:Hp}:∀ns:LI,RDs K ρ H QQ Q23
 |[]=>by simp[Veb,RDs]|n::ns=>by simp[Veb,RDs];calc⟨_,_,rfl,by simp[RD],Xfd ns⟩
def Xh0{prog:V0}{w:V9}{A:Uu}{E:VP}{s:Vc}{l:Addr}{vs:LV}{Q:LV->Vc->Prop}(hl:Vdz s.heap l vs.toArray)(aa:Qn2<=V7)
  (h:Q vs Q02):Vg Q6 A QdU Q E s:=by
 let⟨o,ho,hc,n,hd⟩:=id hl;unfold collect;calc Va (Vgz (Vay entry_proto_collect' ?_));show Vg _ _ (do again (.builtin "list.__iadd__" ⟨[<-newList [],.ref l],[]⟩)) _ _ s;calc Va (Vf7 (Vd ⟨Vgs _ Q9,Vay entry_list_iadd' ?_⟩));show Vg _ _ (Vbr QC QhB QC) _ _ {s with heap:=s.heap.push QE0};unfold Vbr;let B:Q00.get? l=yz o:=Ve _ ho;calc Va (Vcm (T:="tuple") ⟨o,B,hc⟩ ?_);let L:(Vb8 "tuple" == Vb8 "tuple")=true:=by rfl
 rw[iP0 (by rw[L];simp!)];calc Va (Vgr B hd (Va (Vgr (xs:=#[]) (n:=0) QS3 rfl ?_)));rw[iN0 QB];calc Va (listUpdate_at (xs:=#[]) (n:=0) QS3 rfl Q71 QL8 (by show(#[]++vs.toArray).size<=V7+1;simp[Array.size_append,Vo,Vh8];omega));show Vg Q6 A (load s.heap.objs.size >>= _) Q E Q02;calc Va (Vfx (get?_update_seq QS3 _) ?_);show Vg _ _ (pure QbP.toList) Q E _;rw[show QbP.toList=vs by simp!];calc Vd h
def Xtc{prog:V0}{w:V9}{A:Uu}{E:VP}{s:Vc}{l:Addr}{vs:LV}{ns:LI}{Q:VP}(hl:Vdz s.heap l vs.toArray)(hI:Vbv vs ns)(ab:Qn2<64)
  (h:∀(out:AV) (B:LI),Vbv out.toList B->B.Perm ns->B.Pairwise QbH->Q QBJ {s with heap:=sortedAll s.heap vs out}):Vg Q6 A QTC Q E s:=by
 calc Vel kind_sorted plain_sorted entry_sorted QWA ?_;unfold Vbb.«sorted»;calc Va (m:=checkCount "sorted" 1 1 _) (Vd (Va (Xh0 hl QU9 (Va QeW))));let aa:(Q00.update s.heap.objs.size (Vac (·++vs.toArray))).objs.size=s.heap.objs.size+1:=by rw[Vhs,size_push']
 let L:(QA3.push Qm1).get? Qm0=yz Qm1:=by rw[<-aa];exact Vm _ rfl
 show Vg _ _ _ _ _ {s with heap:=QA3.push Qm1};rw[aa];calc Va (Uy (Us Vip QmK Vh9 (list_sort_tree L hI ab λout B a1 a2 a3=>⟨_,rfl,Vd ⟨_,rfl,h out B a1 a2 a3⟩⟩) Q0S))
def Xvz{d:D}{ns:LI}{E:VP}(I:S0 X pc σ H s ρ S env)(e:Xi S d=yz QQ)(hz:QHE<64)(r1:RD X.K ρ H d v)(ru:RelV v u):
  Vg Q2 X.A (call QU2 [u]) (OkP X pc σ ρ H QtA) E s:=by
 let⟨a,ws,its,rfl,hs,hr,aa,ae⟩:=I.seqI e r1 ru;let hw:=hr.ints_of;subst hw;let hI:=Xap aa;let af:QA6=lg ns:=by rw[<-aa.length];simp!
 let fin:∀out B,Vbv out.toList B->B.Perm ns->B.Pairwise QbH->OkP X pc σ ρ H QtA QBJ {s with heap:=sortedAll s.heap its out}:=λout B a1 a2 a3=>by
  let ab:B=Xbt ns:=PySem.W.ksm_same (a2.trans Qwc.symm) a3 (Xg6 ns);subst ab;let⟨e3,ac⟩:=sortedAll_at s.heap its out;let L:s.heap.objs.size<=s.heap.objs.size+1:=Vd1 _;let J:=I.inv.laid (o:=.lst ((Xbt ns).map V.int)) (t':=s.toks) (h':=sortedAll s.heap its out) Q1G L
   ⟨by rw[Vf,Qwc.length_eq];simpa using ae,out.toList,e3,Xdv a1,by simpa [Vak] using ac⟩
  exact Y7 J (I.inv.hok.fresh L) I.sr Qme
 rcases hs with hs|hs;·exact sorted_ints hs hI Q0 fin
 ·calc Xtc hs hI Q0 fin
def Xn5:∀ {bs:List Bool} {us:LV},Vals QgU us->us=bs.map Vfw
 |[],_,.nil=>rfl|b::bs,_,.cons r t=>by cases r;rw[Xn5 t];rfl
def Xrk{K:Vh}{ρ:LR}{H:Hp}:∀ {bs:List Bool} {B:LW},RDs K ρ H QhU B->B=bs.map V.bl
 |[],B,h=>by simp[Veb,RDs]at h;calc h|b::bs,B,h=>by simp[Veb,RDs]at h;let⟨v,r,rfl,h1,h2⟩:=h;simp[RD]at h1;subst h1;rw[Xrk h2];rfl
def Xv0(I:S0 X pc σ H s ρ S env){n:Nat}{xs:LD}{bs:List Bool}{v:V}(h:Xl S n=yz xs)(hb:X1 xs=yz bs)(r:RD X.K ρ H QQ1 v):∃a k,v=.ref a/\s.heap.get? a=yz {cls:=.type "list",data:=.seq QIL.toArray k}:=by let⟨a,ws,rfl,ha,B,L⟩:=I.lstR h r;let⟨_,its,k,rv,e⟩:=(show ObjOk X.prog X.w H s.heap a QLH from I.inv.hok a _ B);let e1:=Xbm hb;subst e1;let e2:=Xrk L;subst e2;rw[Xn5 rv]at e;calc⟨a,k,rfl,e⟩
def X3f:MtD X .count "list.count":=by
 intro pc s σ H ρ S env d v u ds vs us E I rd rv L ac B;cases d with
 |ref n=>
  match ds,L,B with
  |[],_,B=>cases B rfl|_::_::_,_,B=>cases B rfl|[x],L,B=>
   let⟨y,rfl,r1⟩:=L.one;let⟨w,rfl,aa⟩:=ac.one;cases x with
   |bl b=>
    simp[RD]at r1;subst r1;cases aa;simp[Y4]at B |-;cases e:Xl S n with
    |none=>rw[e]at B;cases B rfl|some xs=>
     rw[e]at B;simp[Vab]at B |-;cases e2:X1 xs with
     |none=>rw[e2]at B;cases B rfl|some bs=>
      dsimp;let⟨a,k,rfl,ha⟩:=Xv0 I e e2 rd;cases rv;exact Ve8 PySem.F.slot_list_count QOJ PySem.F.entry_list_count (PySem.F.args_list_count_2 _ _) (SeqAt.list_countAt a _ k yy #[] QvL λy=>match y with|.bool c=>c==b|_=>yw) ⟨ha,λy hy=>?_,?_⟩
      ·let ab:y∈bs.map Vfw:=by simpa using hy
       let⟨c,_,rfl⟩:=Vs.mp ab;exact SeqAt.EqAt.bool_bool c b
      let ec:QIL.countP Q6B=bs.countP QrM:=by rw[List.countP_map];rfl
      simp[Vds]at *;rw[ec];calc Y9 I.sr QD1
   |int c=>
    simp[RD]at r1;subst r1;let⟨t,rfl⟩:=aa;simp[Y4]at B |-;cases e:Xl S n with
    |none=>rw[e]at B;cases B rfl|some xs=>
     rw[e]at B;simp[Vab]at B |-;cases e2:Xf xs with
     |none=>rw[e2]at B;cases B rfl|some ns=>dsimp;let q:=Yr e2;subst q;let⟨a,ws,its,rfl,hl,hr,hv,_⟩:=I.its e rd rv;let hw:=hr.ints_of;subst hw;calc count_list_ints hl (Xap hv) QM5
   |_=>cases B rfl
 |_=>cases B rfl
def X7n(B:Y4 .index d ds S≠.bad):∃n x,d=.ref n/\ds=[x]/\((∃b,x=.bl b)\/∃i,x=.int i):=by
 cases d with
 |ref n=>
  cases ds with
  |nil=>cases B rfl|cons x r=>
   cases r with
   |nil=>
    cases x with
    |bl b=>calc⟨n,_,rfl,rfl,.inl ⟨b,rfl⟩⟩|int i=>calc⟨n,_,rfl,rfl,.inr ⟨i,rfl⟩⟩|_=>cases B rfl
   |cons _ _=>cases B rfl
 |_=>cases B rfl
def Xl8:∀ {us:LV} {ns:LI} {i:Nat} {v:Vb},Vbv us ns->us[i]?=yz v->∃c t,ns[i]?=yz c/\v=.int c t
 |_,_,i,v,.nil,h=>by simp! at h|_,_,0,v,.cons n t r,h=>by cases h;calc⟨n,t,rfl,rfl⟩|_,_,i+1,v,.cons n t r,h=>by let⟨c,B,h1,h2⟩:=Xl8 (i:=i) r QD2;calc⟨c,B,by simpa using h1,h2⟩
def X3g:MtD X .index "list.index":=by
 intro pc s σ H ρ S env d v u ds vs us E I rd rv ah aj B;let⟨n,x,rfl,rfl,hx⟩:=X7n B;rcases hx with⟨b,rfl⟩|⟨i0,rfl⟩
 ·let⟨y,rfl,r1⟩:=ah.one;simp[RD]at r1;subst r1;let⟨w,rfl,ab⟩:=aj.one;cases ab;simp[Y4]at B |-;cases e:Xl S n with
  |none=>rw[e]at B;cases B rfl|some xs=>
   rw[e]at B;simp[Vab]at B |-;cases e2:X1 xs with
   |none=>rw[e2]at B;cases B rfl|some bs=>
    rw[e2]at B;dsimp at B |-;cases e3:bs.findIdx? QrM with
    |none=>rw[e3]at B;cases B rfl|some i=>
     dsimp;let⟨a,k,rfl,ha⟩:=Xv0 I e e2 rd;cases rv;let⟨hi,h1,h2⟩:=Veq.mp e3;let ai:(lg bs)<=V7:=by let⟨a',ws,_,_,hv,hr⟩:=I.lstR e rd;let⟨z,_⟩:=(show ObjOk X.prog X.w H s.heap a' QLH from I.inv.hok a' _ hv);rw[<-hr.length,Xbm e2,Vf]at z;exact z
     let ag:(i:Int)<2^63-1:=by
      let:V7<2^62:=by decide
      let am:(2:Int)^63-1=9223372036854775807:=by decide
      let ak:(2:Nat)^62=4611686018427387904:=by decide
      omega
     calc Ve8 Vg4 QOJ Vjm QNb (SeqAt.list_indexAt a QIL.toArray k yy #[] QvL Q6B i Qz0 ag QXD λm hm af=>?_) QJF;·let:=h2 m af;simpa using this
     ·let al:y∈bs.map Vfw:=by simpa using hy
      let⟨c,_,rfl⟩:=Vs.mp al;exact SeqAt.EqAt.bool_bool c b
 let⟨y,rfl,r1⟩:=ah.one;simp[RD]at r1;subst r1;let⟨w,rfl,ab⟩:=aj.one;let⟨tk,rfl⟩:=ab;simp[Y4]at B |-;cases e:Xl S n with
 |none=>rw[e]at B;cases B rfl|some xs=>
  rw[e]at B;simp[Vab]at B |-;cases e2:Xf xs with
  |none=>rw[e2]at B;cases B rfl|some ns=>
   rw[e2]at B;dsimp at B |-;cases e3:ns.findIdx? (· == i0) with
   |none=>rw[e3]at B;cases B rfl|some i=>
    dsimp;let⟨a,ws,rfl,_,hv,hr⟩:=I.lstR e rd;let⟨ai,its,k,an,ha⟩:=(show ObjOk X.prog X.w H s.heap a QLH from I.inv.hok a _ hv);let q:=Yr e2;subst q;let ew:=hr.ints_of;subst ew;let hI:=Xap an;let aa:QA6=lg ns:=hI.length;rw[Vf]at ai;cases rv;let⟨hi,h1,h2⟩:=Veq.mp e3;let ag:(i:Int)<2^63-1:=by
     let:V7<2^62:=by decide
     let am:(2:Int)^63-1=9223372036854775807:=by decide
     let ak:(2:Nat)^62=4611686018427387904:=by decide
     omega
    let ae:∀m (hm:m<its.toArray.size),∃c t,ns[m]?=yz c/\its.toArray[m]=.int c t:=λm hm=>by
     let ac:m<lg its:=by simpa using hm
     let⟨c,t,L,z2⟩:=Xl8 hI (Uw ac);exact⟨c,t,L,by simpa using z2⟩
    calc Ve8 Vg4 QOJ Vjm QNb (SeqAt.list_indexAt a its.toArray k yy #[] (.int i0 tk) (λy=>match y with|.int c _=>c==i0|_=>yw) i QHM ag ?_ λm hm af=>?_) QJF;·let⟨c,t,L,z2⟩:=ae i QHM;rw[z2];rw[Uw hi]at L;cases L;exact h1
    ·let⟨c,t,L,z2⟩:=ae m hm;rw[z2];let ac:m<lg ns:=by omega
     rw[Uw ac]at L;cases L;let:=h2 m af;simpa using this
    let⟨m,hm,rfl⟩:=Vbx.mp (show y∈its by simpa using hy);let⟨c,t,L,z2⟩:=ae m (by simpa using hm);let z3:its[m]=.int c t:=by simpa using z2
    rw[z3];calc SeqAt.EqAt.int_int c t i0 tk
universe e
abbrev Xcf:Vb->Int
 |.int i _=>i|_=>0
theorem SetI(prog:V0)(w:V9)(h:Heap)(a:Addr)(ld:Bool)(ks:LI):Prop:=∃o es ep t,h.get? a=yz o/\o.ExactSet/\o.data=.set es ep t/\ElemsOf Q81 es.toList/\ks=es.toList.map (λe=>Xcf e.2)/\Tab t es.size/\t.led=ld
def SetI.keep{prog:V0}{w:V9}{h h':Heap}{a:Addr}{ld:Bool}{ks:LI}(S:SetI prog w h a ld ks)(k:∀o,h.get? a=yz o->h'.get? a=yz o):SetI prog w h' a ld ks:=by let⟨o,es,ep,t,B,r⟩:=S;calc⟨o,es,ep,t,k _ B,r⟩
section
variable{prog:V0}{w:V9}{A:Uu}{E:VP}{s:Vc}
def Xrl{es:List Q41}(h:ElemsOf Q81 es){e:Int×Vb}(L:e∈es):∃i t,e.2=.int i t:=by let⟨⟨k,B,_⟩,_⟩:=h e L;let⟨t,q⟩:=Vg6 B;calc⟨k,t,q⟩
def Xy8{es:List Q41}(h:ElemsOf Q81 es)(k:Int):(es.findIdx? Q18).isSome=decide (k∈es.map λe=>Xcf e.2):=by
 let B:∀e∈es,(Q81.is k e.2=yx ↔ Xcf e.2=k):=λe L=>by let⟨i,t,q⟩:=Xrl h L;rw[q,KeyKind.is_eq_decide (intKind_is prog w i t),decide_eq_true_eq];exact eq_comm
 by_cases c:k∈es.map λe=>Xcf e.2
 ·rw[decide_eq_true c];let⟨e,L,q⟩:=Vs.mp c;cases f:es.findIdx? Q18 with
  |some _=>rfl|none=>let:=List.findIdx?_eq_none_iff.mp f e L;rw[(B e L).mpr q]at this;cases this
 rw[decide_eq_false c];cases f:es.findIdx? Q18 with
 |none=>rfl|some j=>let⟨hj,hp,_⟩:=Veq.mp f;calc aB0 (Vs.mpr ⟨_,Vb1 hj,(B _ (Vb1 hj)).mp hp⟩) c
def X3h{a:Addr}{ld:Bool}{ks:LI}{k:Int}{tk:Tok}{Q:Bool->Vc->Prop}(S:SetI prog w s.heap a ld ks)(hn:QDB<60)
  (h:∀h' ak,U6 a s.heap h'->SetI prog w h' a ld ak->(k∈ks/\ak=ks)\/(k ∉ ks/\ak.Perm (ks++[k]))->Q (decide (k ∉ ks)) QY6):
  Vg Q6 A (setAdd a QgN) Q E s:=by
 let⟨o,es,ep,t,ho,ab,hd,ac,rfl,T,hl⟩:=S;rw[Vf,Vz]at hn;let hb:es.size<scanBound:=Vex hn Q1;let ft:=Xai T;let fi:=Xy8 ac k;unfold setAdd setAddHashed setAddHashedIn;calc Uy (Va (Q81.pyHash (k:=k) Qh9 (Uy (Va (Va5 (s:=QjA) ho hd ft ?_)))));dsimp;rw[byScan_of (knd:=Vbh prog w) rfl hb ac];simp[if_true];unfold setAddByScan;calc Va (Va (Vbz (Va (wpAny_setScan_of (knd:=Vbh prog w) (k:=k) (s:=QjA) Qh9 ho hd ft ac ?_))));cases f:es.toList.findIdx? Q18 with
 |some j=>rw[f]at fi;let c:=oD0 fi.symm;let:=h s.heap _ QHT ⟨o,es,ep,t,ho,ab,hd,ac,rfl,T,hl⟩ (.inl ⟨c,rfl⟩);rw[decide_eq_false (λz=>z c)]at this;exact Vd Q8S|none=>
  rw[f]at fi;let c:=of_decide_eq_false fi.symm;let⟨B,t1,e1,T1,m1,aj,l1,ae,z1⟩:=X6j T QlW QgN;let pm:=layNew_perm t es QlW QgN;rw[e1,Vcv]at pm;let aa:ElemsOf Q81 B.toList:=(ac.push Qh9 rfl).perm pm;let kp:(B.toList.map λe=>Xcf e.2).Perm ((es.toList.map λe=>Xcf e.2)++[k]):=by let:=pm.map λe=>Xcf e.2;rwa [Val]at this
  dsimp;rw[e1];dsimp;calc Va Q71;rw[aj];simp[if_true];rw[hashByValue_scannable 8 rfl];calc Va Q71;simp[plainKind,if_true];let ao:t1.fits B.size=true:=by unfold Vhi;rw[Xbh T1,ae,z1,m1];let:=T.le;simp!;omega
  let af:B.size<=V7:=by rw[z1,Va6];omega
  calc Va (Vg9 ho hd ?_ af);let⟨g1,_⟩:=SetOf_store (knd:=Vbh prog w) (S':=λk'=>B.toList.any λe=>Q81.is k' e.2) ho ab hd aa QJX (by rw[z1];calc Vaa hn Q1) ao;let al:=Vdu s.heap a QVP;by_cases c5:QoG*5<t.mask*3
  ·let q:t1.tooFull=false:=by unfold Vht;rw[Xbh T1,ae,m1];exact decide_eq_false Q0
   rw[q];simp[Vc9,Vr,if_false];let:=h _ _ al ⟨_,B,ep+1,t1,g1,ab,rfl,aa,rfl,by rw[z1];calc⟨T1,aj,ae,by rw[m1];calc T.mg,by rw[m1];calc c5,by omega⟩,l1.trans hl⟩ (.inr ⟨c,kp⟩);rw[decide_eq_true c]at this;exact Vd Q8S
  let q:t1.tooFull=true:=by unfold Vht;rw[Xbh T1,ae,m1];exact decide_eq_true Q0
  let⟨mk,rm,_⟩:=Xq6 T.mg T.room Q0 c5;rw[q];simp[Vil,Vdo,if_true];let⟨L,t2,e2,T2,m2,am,l2,an,z2⟩:=Xyp (t:=t1) (es:=B) (wanted:=SetTable.grown B.size) aj (by rw[z1];calc mk) QiR;let ai:=relayAll_perm t1 B (SetTable.grown B.size);rw[e2]at ai;rw[e2];dsimp;let ah:L.size<=V7:=by rw[z2];exact af
  calc Va (Vd (Va (Vg9 g1 rfl ?_ ah)));let ag:ElemsOf Q81 L.toList:=aa.perm ai;let TT:Tab t2 L.size:=⟨T2,am,by rw[an,z2],by rw[m2,z1];calc mk,by rw[m2,z2,z1];calc rm,by omega⟩;let⟨g2,_⟩:=SetOf_store (knd:=Vbh prog w) (S':=λk'=>L.toList.any λe=>Q81.is k' e.2) g1 ab rfl ag QJX (by rw[z2,z1];calc Vaa hn Q1) (Xai TT);let:=h _ _ (al.trans (Vdu _ a Q3J)) ⟨_,L,ep+2,t2,g2,ab,rfl,ag,rfl,TT,l2.trans (l1.trans hl)⟩ (.inr ⟨c,(ai.map λe=>Xcf e.2).trans kp⟩);rw[decide_eq_true c]at this;calc Vd Q8S
universe e
def slot_si:PySem.Slot "set_iterator" "__next__" "set_iterator.__next__":=
 .of (owner:="set_iterator") (n:="__next__") QL5 Q9 Q9 Q9 QmC QuD
def Xn6:entryFor table "set_iterator.__next__"=yz Vbb.«set_iterator.__next__»:=entryFor_of_tree Q64
def Xrm(a:Vb):argsOk "set_iterator.__next__" QyY:=by unfold argsOk;rw[signature?_of (id:="set_iterator.__next__") (n:=['_','_','t','x','e','n','_','_']) (o:=QA9) Q64 (show Manifest.owners.lookup _=yz Vjg by kernel_rfl)];kernel_rfl
def Xn7:entryFor table "set.__iter__"=yz Vbb.«frozenset.__iter__»:=entryFor_alias (id' := "frozenset.__iter__") Q64 rfl Q9 Q64
def Xn8:PySem.Slot "set_iterator" "__iter__" "set_iterator.__iter__":=
 .of (owner:="set_iterator") (n:="__iter__") QL5 Q9 Q9 Q9 QmC QuD
def Xv1:entryFor table "set_iterator.__iter__"=yz Vbb.«dict_keyiterator.__iter__»:=entryFor_alias (id' := "dict_keyiterator.__iter__") Q64 rfl Q9 Q64
def Xy9(a:Vb):argsOk "set_iterator.__iter__" QyY:=by unfold argsOk;rw[signature?_of (id:="set_iterator.__iter__") (n:=['_','_','r','e','t','i','_','_']) (o:=QA9) Q64 (show Manifest.owners.lookup _=yz Vjg by kernel_rfl)];kernel_rfl
abbrev byT(w:V9):Bool:=w.params.followText "set-order"
def Xl9{α:Type}(f:Nat->Nat):∀(n k:Nat) (l:List α) (out:Array α),lg l=n->(pickOrder.go f n k l out).toList.Perm (out.toList++l)
 |0=>λk l out h=>by let:l=[]:=Vfi h;subst this;simp![pickOrder.go]|n+1=>λk l out h=>by
  let hl:f k%lg l<lg l:=Vgv _ Q0;unfold pickOrder.go;rw[Uw hl];dsimp;calc(Xl9 f n QG5 _ _ (by rw[List.length_eraseIdx_of_lt hl];omega)).trans ?_;rw[Vcv,Ub];calc Vhx _ ?_;let e:l=l.take (f k%lg l)++l[f k%lg l]::l.drop (f k%lg l+1):=by rw[List.getElem_cons_drop,Uq]
  rw[List.eraseIdx_eq_take_drop_succ];exact List.Perm.symm (by
   conv=>lhs;rw[e]
   calc List.perm_middle)
abbrev Xan(w:V9)(a ep:Nat)(es:Array Q41):List Q41:=if byT w then Q3O.toList else es.toList
def Xcg(w:V9)(a ep:Nat)(es:Array Q41):Q93.Perm es.toList:=by
 unfold Xan;split;·unfold pickOrder;let:=Xl9 Qf9 es.size 0 es.toList #[] QB;simpa using this
 ·calc Vb6 _
abbrev Xa3(w:V9)(t:Ut)(i:Nat):Nat:=if byT w then 0 else match i with
 |0=>0|i+1=>t.place.getD i 0+1
section
variable{prog:V0}{w:V9}{A:Uu}{E:VP}{s:Vc}
def Xza{t:Ut}(T:Tb t)(i:Nat)(hi:i<=t.place.size)(L:byT w=yw):Vir t.place QYC=i:=by
 let⟨b1,b2,B⟩:=Xcc T.ris QYC;unfold Xa3 at b1 b2 B |-;rw[L]at b1 b2 B |-;simp[Vr,if_false]at b1 b2 B |-;cases i with
 |zero=>
  dsimp at b1 b2 B |-;rcases Nat.eq_zero_or_pos (Vir t.place 0) with h|h;·exact h
  ·exact aB0 (b2 0 h) QP7|succ i=>
  dsimp at b1 b2 B |-;let h1:¬ Vir t.place Q7M<=i:=λh=>by let:=B i h Q0;omega
  let h2:¬ i+1<Vir t.place Q7M:=λh=>by let:=b2 QC2 h;let:=T.ris.lt (a:=0) (show i<i+1 by omega) Q0;omega
  omega
def Xrn{a:Addr}{o:Obj}{es:Array Q41}{ep i:Nat}{t:Ut}{Q:Option (Vb×Nat)->Vc->Prop}(ho:s.heap.get? a=yz o)(hd:o.data=.set es ep t)(T:Tab t es.size)(hl:t.led = !byT w)(hi:i<=es.size)
  (h:Q (Qcb.map λe=>(e.2,Xa3 w t QC2)) s):Vg Q6 A (setNext a QYC i ep) Q E s:=by
 let ft:=Xai T;unfold setNext;calc Va QXP;dsimp;unfold setsByText;calc Va QNT;show Vg _ _ (if byT w=yx then _ else _) _ _ _;cases B:byT w with
 |true=>
  simp[if_true,bne_self_eq_false,Vr,if_false];unfold setWalk;calc Va (Va QXP);dsimp;unfold setsByText;calc Va QNT;show Vg _ _ (if byT w=yx then _ else _) _ _ _;rw[B,iP0 rfl];calc Va QJT;let e1:Xan w a ep es=Q3O.toList:=by unfold Xan;rw[iP0 B]
  let e2:Xa3 w t QC2=Xa3 w t i:=by unfold Xa3;rw[iP0 B,iP0 B]
  rw[e1,e2,Ud]at h;exact h|false=>
  simp[Vr,if_false];let L:Q94=false:=by rw[T.pl];rfl
  let aa:QLK=false:=by rw[hl,B];rfl
  show Vg _ _ (if Q94=yx then _ else _) _ _ _;rw[L];simp[Vr,if_false];calc Va ?_;show Vg _ _ (if QLK=yx then _ else _) _ _ _;rw[aa];simp[Vr,if_false];calc Vd ?_;rw[Xza T.tb i (by rw[T.sz];calc hi) B];let e1:Xan w a ep es=es.toList:=by unfold Xan;rw[iN0 QXQ]
  rw[e1,Ud]at h;by_cases c:i<es.size
  ·let c2:i<t.place.size:=by rw[T.sz];exact c
   rw[Ul c]at h;rw[Ul c,Ul c2];let e2:Xa3 w t QC2=t.place[i]+1:=by unfold Xa3;rw[iN0 QXQ];simp![Va7,c2]
   rw[e2]at h;exact Vd h
  rw[Array.getElem?_eq_none Q0]at h;rw[Array.getElem?_eq_none Q0];calc Vd h
private abbrev Xtd(h:Heap)(it a:Addr)(f0 f1 n ep:Nat):Prop:=h.get? it=yz {cls:=.type "set_iterator",dict:=yy,data:=.fields #[Uv f0,Uv f1,.ref a,Uv n,Uv ep],slots:=#[]}
variable{it a:Addr}{o:Obj}{es:Array Q41}{ep i:Nat}{t:Ut}
def X3i{Q:OV->Vc->Prop}{e:Int×Vb}(hi:Xtd s.heap it a QYC i es.size ep)(B:s.heap.get? a=yz o)(hd:o.data=.set es ep t)(T:Tab t es.size)(hl:t.led = !byT w)(L:Q93[i]?=yz e)
  (hQ:∀h',Xtd h' it a (Xa3 w t QC2) QC2 es.size ep->U6 it s.heap h'->Q (yz e.2) QV):Vg Q6 A QTL Q E s:=by
 let hT:s.TypeIs QR1 "set_iterator" := QwV;let hn:i<=es.size:=by let:=Q0H.1;rw[QKB.length_eq,Vz]at this;exact Vc2 this
 unfold Vdr;calc Va Qt4;show Vg _ _ QFM _ _ _;unfold fieldsOf;calc Va QYP;show Vg _ _ Q9M _ _ _;unfold setEntries;calc Va Q5H;dsimp;simp[bne_self_eq_false,Vr,if_false];show Vg _ _ (setNext a (Ve9 (Xa3 w t i:Int)) (Ve9 (i:Int)) QIT >>= _) _ _ _;simp[Vcw];calc Va (Xrn B hd T hl hn ?_);rw[L];dsimp[U5];calc Va QQI;calc Va (U2 e1 QB λh2 e2 c2=>?_);calc Vd ⟨_,rfl,Vd (hQ h2 ?_ (c1.trans c2))⟩;calc e2
def X3j{Q:OV->Vc->Prop}(L:A.handled=yy)(hi:Xtd s.heap it a (Xa3 w t es.size) es.size es.size ep)(B:s.heap.get? a=yz o)(hd:o.data=.set es ep t)(T:Tab t es.size)(hl:t.led = !byT w)
  (hQ:∀h',Heap.ExtBut it s.heap h'->Q yy QV):Vg Q6 A QTL Q E s:=by
 let hT:s.TypeIs QR1 "set_iterator" := QwV;let hx:Q93[es.size]?=none:=Vcl (by rw[QKB.length_eq,Vz];calc Vi _);unfold Vdr;calc Va Qt4;show Vg _ _ QFM _ _ _;unfold fieldsOf;calc Va QYP;show Vg _ _ Q9M _ _ _;unfold setEntries;calc Va Q5H;dsimp;simp[bne_self_eq_false,Vr,if_false];show Vg _ _ (setNext a (Ve9 (Xa3 w t es.size:Int)) (Ve9 (es.size:Int)) QIT >>= _) _ _ _;simp[Vcw];calc Va (Xrn B hd T hl Qw ?_);rw[hx];dsimp[Option.map_none];calc Va QQI;show Vg _ _ QkA _ _ _;calc Va ?_;simp[newExc,newTuple];calc Va QfW;calc Va (m:=Vin _ _) QX9;calc Vaj ?_ QlC;simp[raiseNew];exact Va Q1O
 first|rw[show A.in1.handled=yy from L]|rw[L]
 calc Va (Vd (wpAny_throw ?_));calc Va (Vfy (T:="StopIteration") (b:=yx) Q04 isSubtype_stop ?_);calc Vd (hQ _ ((c1.extBut.push _).push _))
theorem Ydy(w:V9)(it a:Addr)(o:Obj)(es:Array Q41)(ep:Nat)(t:Ut)(i:Nat)(s:Vc):Prop:=Xtd s.heap it a QYC i es.size ep/\s.heap.get? a=yz o
def X3k(hh:A.handled=yy)(aa:it≠a)(hd:o.data=.set es ep t)(T:Tab t es.size)(hl:t.led = !byT w):WalksS prog w A it [it,a] [it] Eq es.size (λi v=>Qcb.map QG0=yz v) (Ydy w it a o es ep t) where
 sub:=λb B=>by rw[V6.mp B];exact V8
 grefl:=λ_=>rfl
 gtrans:=λ_ _ _ x y=>x.trans y
 frame:=λi s h' tk st _ k=>⟨k it V8 _ st.1,k a (V4 _ V8) _ st.2⟩
 item:=λi s Q E hi st hQ=>by
  let L:i<Q93.length:=by rw[QKB.length_eq,Vz];exact hi
  exact X3i st.1 st.2 hd T hl (Uw L) λh' q c=>hQ _ _ (by rw[Uw L];rfl) ⟨q,(c.2 a QnW).trans st.2⟩ ⟨λb o' B e'=>?_,rfl,rfl,rfl,Vi _⟩;exact(c.2 b QmM).trans e'
 done:=λs Q E st hQ=>X3j hh st.1 st.2 hd T hl λh' c=>hQ _ ⟨λb o' B e'=>c b o' QmM e',rfl,rfl,rfl,Vi _⟩
 self:=λi s Q E st hQ=>by let hT:s.TypeIs QR1 "set_iterator" := ⟨_,st.1,rfl⟩;calc Vg7 hT Xn8 (Us Xn8 hT Xv1 (show Vg _ _ (ret QR1) _ _ s from Vd ⟨_,rfl,"set_iterator",_,hT,slot_si.lookup,hQ⟩) (Xy9 _))
def Xzb{Q:VP}(B:s.heap.get? a=yz o)(L:o.ExactSet)(hd:o.data=.set es ep t)(T:Tab t es.size)
  (hQ:Q QC {s with heap:=s.heap.push QO }):Vg Q6 A Q5S Q E s:=by
 let hT:s.TypeIs Q40 "set" := ⟨o,B,L.1⟩;let ft:=Xai T;calc Vg7 hT F.slot_set_iter (Us F.slot_set_iter hT Xn7 ?_ (F.args_set_iter_1 _));show Vg _ _ (Vjn a >>= _) _ _ _;unfold Vjn setEntries;calc Va (Va (Va (Va5 B hd ft (Vd Q71))));show Vg _ _ (setDrawn a >>= _) _ _ _;unfold setDrawn setsByText;calc Va (Va (Va5 B hd ft (Va (Va QJT))));let aa:QrV=false:=by rw[T.pl];simp!
 show Vg _ _ (ite (QrV=yx) _ _) _ _ _;rw[aa,iN0 V3];calc Va Q71;unfold setEpoch;calc Va (Va (Va5 B hd ft Q71));calc Va (Vaj (Vd ⟨_,rfl,"set_iterator",_,Q04,slot_si.lookup,hQ⟩))
def Xzc{Q:Bool->Vc->Prop}(L:s.heap.get? a=yz o)(B:o.ExactSet)(hQ:Q yw s):Vg Q6 A (Vi1 Q40) Q E s:=by
 let hT:s.TypeIs Q40 "set" := ⟨o,L,B.1⟩;unfold Vi1;calc Va (wpAny_specialOf hT F.slot_set_len.lookup ?_);let e1:splitId "set.__len__"=yz ("set","__len__"):=by decide+kernel
 dsimp;rw[e1];dsimp;calc Va (Vfy hT sub_set_self ?_);simp[Vc5,Vr,if_false];calc Va (Vcm hT (Vd hQ))
def Xh1{Q:LV->Vc->Prop}(hh:A.handled=yy)(ho:s.heap.get? a=yz o)(ae:o.ExactSet)(hd:o.data=.set es ep t)(T:Tab t es.size)(hl:t.led = !byT w)
  (hQ:∀h' tk,(∀b u,s.heap.get? b=yz u->h'.get? b=yz u)->s.heap.objs.size<=h'.objs.size->Q (Q93.map QG0) Qt):Vg Q6 A (collect Q40) Q E s:=by
 unfold collect;calc Va QFC;rw[Va8 F.plain_proto_collect _];show Vg _ A.in1 (newList [] >>= λl=>again (.builtin "list.__iadd__" ⟨[l,.ref a],[]⟩)) _ _ s;calc Va QM8;rw[Va8 Vha _];let⟨B,g,d,tk,os⟩:=s;replace ho:B.get? a=yz o:=ho;let la:a<B.objs.size:=Vy ho;let aa:QCH.get? a=yz o:=Ve _ ho;show Vg _ A.in1 (Vbr Qn4 Q40 Qn4) _ _ ⟨B.push QY,g,d,tk,os⟩;let n1:QCH.get? B.objs.size=yz QY:=Vm _ rfl;let k1:∀b u,B.get? b=yz u->QCH.get? b=yz u:=λb u e=>Ve _ e;let z1:(B.push QY).objs.size=B.objs.size+1:=Vam ..;generalize B.push QY=g1 at aa n1 k1 z1;unfold Vbr;calc Va (Vcm (T:="set") ⟨o,aa,ae.1⟩ ?_);let hS:Vjo Qn4 Q40=false:=by simp![Vjo,Vc3 la]
 simp[hS,show(Vb8 "set" == Vb8 "list")=yw by decide,show(Vb8 "set" == Vb8 "tuple")=yw by decide,Bool.or_false,Vr,if_false];calc Va (Xzb (s:=QN9) aa ae hd T ?_);let n2:QwE.get? B.objs.size=yz QY:=Ve _ n1;let i2:QwE.get? g1.objs.size=yz QO:=Vm _ rfl;let k2:∀b u,g1.get? b=yz u->QwE.get? b=yz u:=λb u e=>Ve _ e;let z2:(g1.push QO).objs.size=g1.objs.size+1:=Vam ..;generalize g1.push QO=g2 at n2 i2 k2 z2;calc Va (Uy (Xzc (s:=⟨g2,g,d,tk,os⟩) QdX ae ?_));show Vg _ A.in1 (rule "list.extend.makes-room" >>= λ_=>Builtin.List.listTouch Qn4 >>= λ_=>again (.builtin "list.extend.loop" ⟨[.ref B.objs.size,.ref g1.objs.size,.ref B.objs.size],[]⟩)) _ _ _;calc Va (Vbz QNY);show Vg _ A.in1 (updateSeq B.objs.size (·.push .none) >>= λ_=>updateSeq B.objs.size (·.pop)) _ _ _;calc Va (wpAny_updateSeq n2 rfl ?_);let n3:=Vc8 (Vac (·.push Vbw)) n2 rfl;calc wpAny_updateSeq n3 rfl ?_;let n4:=Vc8 QqC n3 rfl;let ac:∀b u,b≠B.objs.size->g2.get? b=yz u->(QM4.update B.objs.size QqC).get? b=yz u:=λb u hb e=>QpA.trans (QpA.trans e);let z4:(QM4.update B.objs.size QqC).objs.size=g2.objs.size:=by rw[Vhs,Vhs]
 generalize QM4.update B.objs.size QqC=g4 at n4 ac z4;let al:g1.objs.size≠a:=by rw[z1];exact Vc3 (Vbg la)
 let af:a≠B.objs.size:=Uj la;let ah:g1.objs.size≠B.objs.size:=by rw[z1];exact Nat.succ_ne_self _
 let W:=X3k (prog:=prog) (w:=w) (A:=A.in1) (it:=g1.objs.size) (a:=a) (o:=o) (es:=es) (ep:=ep) (t:=t) QWD al hd T hl
 exact Vd ⟨Ved F.plain_extend_loop _,codeAny_extend_loopS W (by let:=T.ln;rw[Va6];omega) B.objs.size (by
  intro hm;rcases Vu.mp hm with e|hm;·exact ah e.symm
  ·calc af (V6.mp hm).symm) _ es.size 0 _ _ _ rfl QL8 ⟨?_,ac _ _ af QdX⟩ n4 (ItemsOf.nil _) λs' ab c hm ai L=>?_⟩
 ·let e0:Xa3 w t 0=0:=by unfold Xa3;split<;>rfl
  rw[e0];exact ac _ _ ah i2
 ·show Vg _ A (load B.objs.size >>= _) _ _ s';calc Va (Vfx ai Q71);let⟨h',g',d',aj,ak⟩:=s';let⟨m1,m2,m3,m4,m5⟩:=hm;replace m2:g=g':=m2;replace m3:d'=d:=m3;replace m4:ak=os:=m4;subst m2;subst m3;subst m4;let ea:ab.toList=Q93.map QG0:=by
   exact List.ext_getElem? λi=>?_;let ag:Q93.length=es.size:=by rw[QKB.length_eq,Vz]
   by_cases c:i<es.size
   ·let hz:i<ab.size:=by rw[L.1];exact c
    let h1:ab[i]?=yz ab[i]:=Ul hz;rw[Ud,h1,Ui];exact(L.2 i _ h1).symm
   rw[Vcl (by rw[Vz,L.1];omega),Vcl (by rw[Vf,ag];omega)]
  rw[ea];let kk:∀b u,B.get? b=yz u->h'.get? b=yz u:=λb u e=>by let lb:=Vy e;exact m1 b u (by simp[Vu,Vbe,or_false,not_or];calc⟨Uj lb,by rw[z1];calc Uj Q9d⟩) (ac b u QQY (k2 b u (k1 b u e)))
  calc hQ h' aj kk ?_;calc Vc2 (Vy ai)
universe e
def Xv2:∀(l B:LI),lg B<=(l.foldl ddS B).length
 |[]=>λB=>Vi _|x::l=>λB=>by
  calc V2 ?_ (Xv2 l (ddS B x));unfold ddS;split;·exact Vi _
  ·simp!
def X3l(ns:LI)(i:Nat)(hi:i<lg ns):ddI (ns.take QC2)=ddS QQE QLD:=by unfold ddI;rw[List.take_succ,Uw hi,Vdl];simp![List.getD,hi]
def Yck(ns:LI)(i:Nat):QQE.length<=QD6.length:=by
 let:ns=ns.take i++ns.drop i:=(Uq i ns).symm;unfold ddI
 conv=>rhs;rw[this,Vdl]
 calc Xv2 _ _
section
variable{prog:V0}{w:V9}{A:Uu}{R:Result->Vc->Prop}{I:Addr}{fp wr:LR}{G:Array GenState->Array GenState->Prop}{n:Nat}{P:Nat->Vb->Prop}{St:Nat->Vc->Prop}{ld:Bool}
def Xzd(W:WalksS prog w A.in1 I fp wr G n P St)(B:Addr)(hf:B ∉ fp)(ns:LI)(hn:QHE=n)(hP:∀i v,P i v->∃t,v=.int QLD t)(hb:QD6.length<60):
  ∀(k i:Nat) (s:Vc) (ks:LI),n-i=k->i<=n->St i s->SetI prog w s.heap B ld ks->ks.Perm QQE ->
   (∀s' L,Moved (B::wr) G s s'->SetI prog w s'.heap B ld L->L.Perm QD6->R QkD s')->Vco Q6 A (.builtin "set.update.loop" ⟨[.ref B,.ref I],[]⟩) R s:=by
 let hw:B ∉ wr:=λh=>hf QDY;let sub:∀b∈wr,b∈B::wr:=λb hb=>V4 _ hb;intro k;induction k with
 |zero=>
  intro i s ks hk hi st S p hR;obtain rfl:i=n:=by omega
  calc Vay Ve0 ?_;rw[Va8 Vcs _];show Vg _ A.in1 Qb7 _ _ s;calc Va QHG;show Vg _ A.in1 QPR _ _ s';calc Vd (hR s' ks QuE QYE ?_);rwa [<-hn,Vfz]at p|succ k ih=>
  intro i s ks hk hi st S p hR;let lt:i<n:=by omega
  calc Vay Ve0 ?_;rw[Va8 Vcs _];show Vg _ A.in1 Qb7 _ _ s;calc Va (W.item i s _ _ lt st λv s' hv ae m=>?_);let⟨t,rfl⟩:=hP i v hv;show Vg _ A.in1 (Vd6 [Vfu QLD t] (setAdd B (.int QLD t)) >>= _) _ _ s';let le:=Yck ns i;calc Va (Uy (X3h QYE (by rw[p.length_eq];omega) λh' L sb S' q=>?_));calc Vd ⟨Ved Vcs _,ih QC2 _ L Q0 lt (W.frame _ s' _ _ ae Q7S λb hb o e=>?_) S' ?_ λac aa ag af ab=>?_⟩;·rw[sb.2 b (λz:b=B=>hf QGc)];exact e
  ·rw[X3l ns i Q0];unfold ddS;rcases q with⟨q1,rfl⟩|⟨q1,q2⟩;·rw[iP0 Q9P];exact p
   ·rw[iN0 Q4U];exact q2.trans Q4O
  calc hR ac aa (Moved.trans W.gtrans (QuE.then_heap Q7S λb o hb e=>?_) ag) af ab;rw[sb.2 b (λz:b=B=>hb Q7U)];calc e
variable{E:VP}{s:Vc}
def X3m(a:Vb){Q₁:VP}
  (h:Q₁ QC {s with heap:=s.heap.push Q66 }):
  Vco Q6 A (.call QGJ Qz9) QxS s:=by
 calc Vfa ?_;show Vg _ A.in1 (do Vf0 "set.__new__" Qz9;again (.builtin "set.__new__" Qz9)) _ _ s;calc Va (Vga (F.newCall_set_1 a) (Vd ⟨Ved F.plain_set_new _,Vay F.entry_set_new ?_⟩));rw[Va8 F.plain_set_new _];unfold Vbb.«set.__new__» Vi4;let B:=sub_set_self;let⟨L,g,d,tk,os⟩:=s;dsimp;wp_walk;calc Vdx Q71;dsimp;simp[newObj];calc Va (wpAny_alloc QHY)
def Xro(ld:Bool):Tab (.fresh 0 0 ld) 0:=⟨⟨Veh,rfl⟩,rfl,rfl,.inl rfl,show 0*5<7*3 by decide,by decide⟩
def Xze {h:Heap} {ld:Bool} {a:Addr} (e:h.get? a=yz Qj6):SetI prog w h a ld []:=
 ⟨_,#[],0,.fresh 0 0 ld,e,QHF,rfl,λx B=>by simp! at B,rfl,Xro ld,rfl⟩
private noncomputable abbrev nS(w:V9):Obj:=Q66
abbrev itO(b:Bool)(l:Addr):Obj:={cls:=.type (if b then "list_iterator" else "tuple_iterator"),data:=.fields #[.ref l,.int 0 0]}
theorem Xn9(b:Bool)(h:Heap)(l:Addr)(items:AV):Prop:=if b then h.IsList l items else h.IsTuple l items
set_option maxHeartbeats 3200000 in
def Xma(b:Bool){l:Addr}{items:AV}{R:Vc->Prop}{Q:VP}(hl:Xn9 b s.heap l items)(hR:∀aa,R aa->Q QC aa)
  (hU:∀R':Except Vb Flow->Vc->Prop,(∀s',R s'->R' QkD s')->Vco Q6 A.in1.in1 (.builtin "set.update.loop" ⟨[.ref s.heap.objs.size,.ref (s.heap.push Q7O).objs.size],[]⟩) R' Q5E):
  Vg Q6 A QM7 Q E s:=by
 let⟨c,tl,ar⟩:=F.called_set.mro;let ap:=F.called_set.made;let au:=F.called_set.sub;calc wpAny_call Q3d;show Vg _ _ QGI _ _ _;calc Vd ⟨Vgs _ Q9,Vay F.entry_type_call ?_⟩;rw[Around.under_plain (weight_type_call_type "set" [.ref l] []) rfl];let h1:=F.called_set.notType;let h2:=F.called_set.canCreate;let ax:=F.typeCall_set_1 QhB
 repeat (any_goals (first|assumption|wp_step))
 calc Vd5 (X3m QhB (E:=E) (Q₁:=λobj ag=>obj=.ref s.heap.objs.size/\ag=QA2) QD0) λr ag hr=>?_;cases r with
 |error e=>exact hr|ok fl=>
  cases fl with
  |ret obj=>
   let⟨rfl,rfl⟩:=hr;let hT:Shared.TypeIs QA2 QC "set" := Q04;let av:=F.called_set.init.lookup;let aw:=F.called_set.init.bind QC
   repeat (any_goals (first|assumption|wp_step))
   exact Vd5 (Vf1 (R:=wants (λr aa=>r=.none/\R aa) E) F.called_set.init.plain F.entry_set_init (check_set_init_1 hT ?_)) λao aa B=>?_
   ·unfold Vbb.«set.__init__» noKeywords Builtin.Frozenset.updateFrom;cases b with
    |true=>
     let⟨⟨al,ab,ah,L⟩,ak,ac,nl,af⟩:=show s.heap.IsList l items from hl;simp at ac af;subst ac;subst af;let ae:QW0.get? l=yz {cls:=.type "list",dict:=ab,data:=.seq items nl,slots:=L}:=Ve _ ak;let an:=F.sub_list_set;let am:=F.sub_list_frozenset;let aq:(Vb8 "list" == Vb8 "dict")=false:=by decide
     generalize aj:Vev=PI;wp_walk;subst aj;exact Vfk QcM Qn9|false=>
     let⟨⟨al,ab,ah,L⟩,ak,ac,nl,af⟩:=show s.heap.IsTuple l items from hl;simp at ac af;subst ac;subst af;let ae:QW0.get? l=yz {cls:=.type "tuple",dict:=ab,data:=.seq items nl,slots:=L}:=Ve _ ak;let an:=F.sub_tuple_set;let am:=F.sub_tuple_frozenset;let aq:(Vb8 "tuple" == Vb8 "dict")=false:=by decide
     generalize aj:Vev=PI;wp_walk;subst aj;exact Vgq QcM Qn9
   cases ao with
   |error e=>exact B|ok ai=>
    cases ai with
    |ret r=>
     let⟨rfl,B⟩:=B
     repeat (any_goals (first|assumption|wp_step))
     calc hR _ B|_=>calc B.elim
  |_=>calc hr.elim
def Xrp(b:Bool){l:Addr}{items:AV}(hh:A.handled=yy)(hl:Xn9 b s.heap l items):
  l<s.heap.objs.size/\∃St:Nat->Vc->Prop,WalksS prog w A.in1.in1.in1 (s.heap.push Q7O).objs.size QqD [(s.heap.push Q7O).objs.size] Q4W items.size (λi v=>items[i]?=yz v) St/\St 0 Q5E:=by
 let lS:l<s.heap.objs.size:=by
  cases b with
  |true=>let⟨o,L,_⟩:=show s.heap.IsList l items from hl;exact Vy L|false=>let⟨o,L,_⟩:=show s.heap.IsTuple l items from hl;exact Vy L
 let B:l≠(s.heap.push Q7O).objs.size:=by rw[Vam];exact Uj (Vbg lS)
 calc⟨lS,?_⟩;cases b with
 |true=>let hl:s.heap.IsList l items:=hl;calc⟨_,(Walks.list (A:=A.in1.in1.in1) QWD _ l B items).toS,QWH⟩|false=>let hl:s.heap.IsTuple l items:=hl;calc⟨_,(Walks.tuple (A:=A.in1.in1.in1) QWD _ l B items).toS,QWH⟩
def Xv3{S I:Addr}{h1:Heap}{s':Vc}(m:Moved [S,I] Q4W {s with heap:=h1} s')(B:∀b o,s.heap.get? b=yz o->b≠S/\b≠I/\h1.get? b=yz o):∃h' tk,s'=Qt/\∀b o,s.heap.get? b=yz o->h'.get? b=yz o:=by let⟨h',g',d',L,aa⟩:=s';let eg:g'=s.gens:=m.gens;let ed:d'=s.drawn:=m.drawn;let eo:aa=s.os:=m.os;subst eg;subst ed;subst eo;calc⟨h',L,rfl,λb o e=>m.heap b o ?_ QSS.2.2⟩;simp[Vu,Vbe,or_false,not_or];calc⟨QSS.1,QSS.2.1⟩
def Xrq(b:Bool)(l:Addr):∀c o,s.heap.get? c=yz o->c≠s.heap.objs.size/\c≠(s.heap.push Q7O).objs.size/\QQM.get? c=yz o:=λc o e=>by let lb:=Vy e;rw[Vam];calc⟨Uj lb,Uj Q9d,Ve _ QaD⟩
def Xv4(b:Bool)(l:Addr):QQM.get? s.heap.objs.size=yz Q7O:=Ve _ QS3
def Xrr{l:Addr}(h:l<s.heap.objs.size):s.heap.objs.size ∉ QqD:=by rw[Vam];simp[Vu,Vbe,or_false,not_or];calc⟨Uj Q6S,Vc3 h⟩
def Xv5(b:Bool){l:Addr}{items:AV}{ns:LI}{Q:VP}(hh:A.handled=yy)(hl:Xn9 b s.heap l items)(hi:Vbv items.toList ns)(hb:QD6.length<60)
  (h:∀(h':Heap) (tk:Nat) (ks:LI),SetI prog w h' s.heap.objs.size QqV ks->ks.Perm QD6->QI0->Q QC Qt):
  Vg Q6 A QM7 Q E s:=by
 let⟨lS,St,W,st⟩:=Xrp (prog:=prog) (w:=w) b hh hl;calc Xma b hl (R:=λB=>Q QC B) Q4Z λR' L=>Xzd W s.heap.objs.size Qic ns (by rw[<-hi.length];simp!) (λi v hv=>IntsAre.int_at hi i v (by rw[Ud];calc hv)) hb Q3T 0 _ [] rfl QL8 st (Xze Q2b) QKY λs' ks m S' p=>L s' ?_;let⟨h',tk,rfl,k'⟩:=Xv3 m Q3b;calc h _ _ ks S' p k'
universe e
universe Z
universe e
section
namespace Z
open PySem PySem.SetTable PySem.Spec PyProof.Rows
def Xv6{t:Ut}{es:Array Q41}{f:Nat->Int}{h:Int}{p:Probe}{r:Option Met}{d:Nat}(T:Tb t)(hf:∀i,f i=QnG.getD 0)(hp:p.dummy=yy)(hd:d<10*turns t.mask)(he:QjG.j ∉ t.place.toList)(hl:∀k,k<d->Qb6.j∈t.place.toList)(e:t.probe f h p=r):
  ((∀k,k<d->∀i,t.slot Qb6.j=.live i->QnG.getD 0≠h)/\r=yz QsP) \/
  ∃k i,k<d/\t.slot Qb6.j=.live i/\QnG.getD 0=h/\(∀L,L<k->∀B,t.slot QfX.j=.live B->(es[B]?.map Qu).getD 0≠h)/\r=yz QxC:=by
 rcases Xs3 T f h d (10*turns t.mask) p hp hd he hl with⟨g1,g2⟩|⟨k,i,g1,g2,g3,g4,g5⟩;·exact .inl ⟨λk hk i hi=>by rw[<-hf];calc g1 k hk i hi,e.symm.trans g2⟩
 ·calc .inr ⟨k,i,g1,g2,by rw[<-hf];calc g3,λL hk B hi=>by rw[<-hf];calc g4 L hk B hi,e.symm.trans g5⟩
private noncomputable abbrev Xo(prog:V0)(w:V9):HeapKind prog w (LI):=tupleKind Q81
def TabG.odd{t:Ut}{es:Array Q41}(T:TabG t es):t.gaveWay=false:=by unfold SetTable.gaveWay;rcases T.mg with e|e|e|e|e|e<;>rw[e]<;>rfl
section
variable{prog:V0}{w:V9}{A:Uu}{E:VP}{s:Vc}
def X3n(n:Nat){v:Vb}(h:carriedByValue v=yx):Vhb n v=pure false:=by
 cases v with
 |ref a=>simp![carriedByValue]at h|_=>cases n<;>(unfold Vhb;rfl)
def Xv7{k:LI}{a:Addr}{Q:Bool->Vc->Prop}(hk:QR.is s.heap k a)(h:Q yw s):Vg Q6 A (Vhb 8 Q40) Q E s:=by
 let⟨o,its,m,L,hc,hd,hi⟩:=hk;unfold Vhb;calc Va QpC;dsimp;calc Va Q71;simp[Vc5,Vr,if_false];calc Va Q5V;dsimp;calc Va ?_;show Vg _ _ QeR _ _ s;rw[<-Array.forIn_toList];calc Vhr _ (λrest r s'=>r.1=yy/\s'=s/\∀v∈rest,carriedByValue v=yx) _ ?_ ?_ _ _ ⟨rfl,rfl,hi.byValue⟩;·rintro v rest r s' ⟨hr,rfl,hall⟩;rw[X3n _ (hall v V8)];calc Va Q71;simp[Vr,if_false];exact Vd QGF
 ·rintro ⟨r1,r2⟩ s' ⟨hr,rfl,_⟩;simp at hr;subst hr;calc Vd h
def Xzf{ks:LI}{vs:LV}(h:ItemsAre Q81 ks vs):∀v∈vs,∃i t,v=.int i t:=by
 induction h with
 |nil=>intro v B;simp! at B|@cons k L ks vs h1 _ ih=>
  intro v B;rcases Vu.mp B with rfl|B;·let⟨t,q⟩:=Vg6 h1;exact⟨_,t,q⟩
  ·calc ih v B
def Xzg{k:LI}{a:Addr}{Q:Bool->Vc->Prop}(hk:QR.is s.heap k a)(h:Q yx s):Vg Q6 A (hashByValue 8 Q40) Q E s:=by
 let⟨o,its,m,L,hc,hd,hi⟩:=hk;unfold hashByValue;calc Va (wpAny_specialOf (T:="tuple") ⟨o,L,hc⟩ F.slot_tuple_hash.lookup ?_);dsimp;calc Va Q5V;calc Va ?_;show Vg _ _ QeR _ _ s;rw[<-Array.forIn_toList];calc Vhr _ (λrest r s'=>r.1=yy/\s'=s/\∀v∈rest,∃i t,v=Vfu i t) _ ?_ ?_ _ _ ⟨rfl,rfl,Xzf hi⟩;·rintro v rest r s' ⟨hr,rfl,hall⟩;let⟨i,t,rfl⟩:=hall v V8;rw[show hashByValue 7 (Vfu i t)=pure yx by unfold hashByValue;rfl];calc Va Q71;simp[Vc5,Vr,if_false];exact Vd QGF
 ·rintro ⟨r1,r2⟩ s' ⟨hr,rfl,_⟩;simp at hr;subst hr;calc Vd h
def X3o{k:LI}{a:Addr}(hk:QR.is s.heap k a){Q:Bool->Vc->Prop}(h:Q yw s)(ys:LV)(hy:∀y∈ys,∃B b,y=Ux b/\QR.is s.heap B b):Vg Q6 A (searchCouldBeSeen Q40 ys) Q E s:=by
 unfold searchCouldBeSeen;calc Va ?_;exact Vhr _ (λrest r s'=>r.1=yy/\s'=s/\∀y∈rest,∃B b,y=Ux b/\QR.is s.heap B b) _ ?_ ?_ _ _ ⟨rfl,rfl,hy⟩
 ·rintro y rest r s' ⟨hr,rfl,hall⟩;let⟨B,b,rfl,L⟩:=hall y V8;let on:∀u∈rest,∃B b,u=Ux b/\QR.is s'.heap B b:=λu hu=>hall u (V4 _ hu);dsimp;split;·exact Vd QpS
  ·calc Va (QR.quiet hk ?_);simp[Vc5,Vr,if_false];calc Va (QR.quiet L ?_);simp[Vc5,Vr,if_false];calc Va (Xv7 hk ?_);simp[Vr,if_false];calc Va (Xv7 L ?_);simp[Vr,if_false];exact Vd QpS
 rintro ⟨r1,r2⟩ s' ⟨hr,rfl,_⟩;simp at hr;subst hr;calc Vd h
theorem Mem(prog:V0)(w:V9)(h:Heap)(es:Array Q41)(ps:List Qj1):Prop:=es.toList=ps.map Xfa/\∀p∈ps,QR.is h p.1 p.2
def Mem.get{h:Heap}{es:Array Q41}{ps:List Qj1}(m:Mem prog w h es ps){i:Nat}{e:Int×Vb}(B:es[i]?=yz e):∃p,ps[i]?=yz p/\e=Xfa p/\QR.is h p.1 p.2:=by
 rw[<-Ud,m.1,Ui]at B;cases L:ps[i]? with
 |none=>rw[L]at B;cases B|some p=>rw[L]at B;calc⟨p,rfl,Q1g.symm,m.2 p (V5 L)⟩
def Xoa(t:Ut):t.sameMemory t.moves t.mask=yz true:=by unfold SetTable.sameMemory;simp!
def X7o{h:Heap}{t:Ut}{es:Array Q41}{ps:List Qj1}(T:TabG t es)(m:Mem prog w h es ps){k:LI}(hk:k∈ps.map Qu){N:Nat}(he:pth t.mask Q31 N ∉ t.place.toList):
  ∃n i p,n<N/\t.slot Q2O=.live i/\ps[i]?=yz p/\p.1=k:=by
 let⟨p,hp,rfl⟩:=Vs.mp hk;let⟨i,hi⟩:=Vd9.mp hp;let e1:es[i]?=yz Qne:=by rw[<-Ud,m.1,Ui,hi];rfl
 let B:i<t.place.size:=by rw[T.sz];exact(U8.mp e1).1
 let e2:t.place[i]?=yz t.place[i]:=Ul B;let⟨n,hn,hl⟩:=T.own _ _ _ (X6h e2 e1);let L:pth t.mask (QR.hash p.1) n=t.place[i]:=hn;let mem:t.place[i]∈t.place.toList:=by simp!
 exact⟨n,i,p,?_,?_,hi,rfl⟩
 ·rcases Vi8 n N with c|c|c;·exact c
  ·subst c;exact aB0 (L▸mem) he
  exact aB0 (hl N c) he
 ·rw[L];let⟨i',s1,s2⟩:=Xf6 T.tb mem;let:i'=i:=by
   let⟨l1,v1⟩:=U8.mp s2;rcases Vi8 i' i with c|c|c;·let:=T.tb.ris.lt (a:=0) c B;simp![Va7,l1,B,v1]at this
   ·exact c
   let:=T.tb.ris.lt (a:=0) c l1;simp![Va7,l1,B,v1]at this
  rw[s1,this]
def Ycl{ad:Bool}{a:Addr}{o:Obj}{es:Array Q41}{ep:Nat}{t:Ut}{ps:List Qj1}{x:Addr}{k:LI}{N:Nat}{Q:SetFound->Vc->Prop}(hu:A.units<Vbt)(ho:s.heap.get? a=yz o)(hd:o.data=.set es ep t)(T:TabG t es)(m:Mem prog w s.heap es ps)(hk:QR.is s.heap k x)
  (hN:N<10*turns t.mask) (he:pth t.mask Q31 N ∉ t.place.toList) (hl:∀i,i<N->pth t.mask Q31 i∈t.place.toList)
  (h1:k∈ps.map Qu->∀r:Option Nat,(ad=yw->r.isSome=yx)->Q (.there r) s) (h2:k ∉ ps.map Qu->Q (.free Qy8 yw) s):
  ∀(d c B:Nat) (aa:Option Probe),c+d=N->d<B->aa.getD QV3=its t c QV3 ->
   (∀n i p,n<c->t.slot Q2O=.live i->ps[i]?=yz p->p.1≠k) ->
   Vg Q6 A (setSearchFrom a Qq6 Q31 ad B aa) Q E s:=by
 let pt:∀n,(its t n QV3).j=pth t.mask Q31 n:=λn=>by rw[Xnh];rfl
 let L:∀c n,QgJ.j=pth t.mask Q31 QRe:=λc n=>by rw[<-Xc6];exact pt QRe
 intro d;induction d using Nat.strongRecOn with
 |_ d ih=>
  intro c B aa hc hf hs no;obtain⟨B,rfl⟩:∃f,B=f+1:=⟨B-1,by lia⟩;unfold setSearchFrom;calc Va QIG;dsimp;rw[T.odd];simp[Vr,if_false];rw[hs];let ah:=λr e=>Xv6 (t:=t) (es:=es) (h:=QR.hash k) (p:=its t c QV3) (r:=r) (d:=d) T.tb QQ2 (by rw[Xq2];rfl) QV9 (by rw[L,hc];calc he) (λn hn=>by rw[L];calc hl _ QV9) e;split
  ·rename_i met ag;rcases ah _ ag with⟨g1,g2⟩|⟨n,i,g1,g2,g3,g4,g5⟩
   ·cases g2;dsimp;rw[L,hc];calc Vd (h2 λac=>?_);let⟨n,i,p,hn,aj,hp,ai⟩:=X7o T m ac he;by_cases cn:n<c;·exact no n i p cn aj hp ai
    ·calc g1 (n-c) QV9 i (by rw[L,show c+(n-c)=n by lia];calc aj) ?_;let:es[i]?=yz Qne:=by rw[<-Ud,m.1,Ui,hp];rfl
     rw[this,<-ai];rfl
   cases g5;let an:i<es.size:=by let⟨_,z⟩:=Xf6 T.tb (hl QRe QV9);rw[L]at g2;rw[g2]at z;let:=(U8.mp z.2).1;cases z.1;rw[<-T.sz];exact this
   let e1:es[i]?=yz es[i]:=Ul an;let⟨p,hp,al,am⟩:=m.get e1;rw[al]at e1;let rest:Vg Q6 A (do
     let yz (_,y):=es[i]?|Vd2 "internal:set-entry"
     let equal <- Vd6 [y] (eqBool y Qq6)
     let (es',_,t') <- setState a
     if ad&&equal then return .there yy
     let yz same:=t'.sameMemory t.moves t.mask|Vd2 "set.changed-during-lookup:is-the-new-block-at-the-old-address"
     let still <- match (if same then t'.slot QgJ.j else .empty) with
      |.live i'=>match es'[i']? with
       |some (_,y')=>do pure (if <- isSame y' y then yz i' else yy)|none=>pure yy
      |_=>pure yy
     match still with
     |none=>rule "set.search.anew";setSearchFrom a Qq6 Q31 ad B yy
     |some i'=>if equal then return .there (yz i') else setSearchFrom a Qq6 Q31 ad B (yz (its t Q17 (its t c QV3)))) Q E s:=by
    rw[e1];calc Va (Uy (QR.eqBool hu am hk ?_));calc Va QIG;dsimp;by_cases ce:p.1=k
    ·let ac:=h1 (Vs.mpr ⟨p,V5 hp,ce⟩);cases ad with
     |true=>simp[Vb5,decide_eq_true ce,if_true];calc Vd (ac yy λz=>nomatch z)|false=>simp[Vcd,decide_eq_true ce,Vr,if_false];rw[Xoa];simp[if_true];rw[g2];dsimp;rw[e1];dsimp[Xfa];calc Va QrD;simp[if_true];exact Vd (ac Q5W λ_=>rfl)
    ·simp[Vc9,decide_eq_false ce,Vr,if_false];rw[Xoa];simp[if_true];rw[g2];dsimp;rw[e1];dsimp[Xfa];calc Va QrD;simp[if_true];exact ih (d-Q17) QV9 (c+Q17) B _ QV9 QV9 (by rw[Vey,<-Xc6]) λn' i' p' ap ae ab=>?_;by_cases q1:n'<c;·exact no n' i' p' q1 ae ab
     ·by_cases q2:n'=c+n;·subst q2;rw[L,ae]at g2;cases g2;rw[hp]at ab;cases ab;exact ce
      ·intro q3;calc g4 Qif QV9 i' (by rw[L,show c+Qif=n' by lia];calc ae) ?_;let:es[i']?=yz (Xfa p'):=by rw[<-Ud,m.1,Ui,ab];rfl
       rw[this,<-q3];rfl
   dsimp;cases ao:t.led with
   |true=>simp[Vc5,Vr,if_false];exact rest|false=>
    simp[Vil,if_true];calc Va (X3o hk ?_ _ λy hy=>?_);·simp[Vr,if_false];exact rest
    ·let⟨e,ak,rfl⟩:=Vs.mp hy;let:e∈es.toList:=by
      let:=(Array.mem_toList_iff.mp ak);exact Array.mem_toList_iff.mpr (Array.mem_filter.mp this).1
     rw[m.1]at this;let⟨p',ab,rfl⟩:=Vs.mp this;exact⟨p'.1,p'.2,rfl,m.2 p' ab⟩
  rename_i af;rcases ah _ rfl with⟨_,g2⟩|⟨n,i,g1,g2,g3,g4,g5⟩;·exact(af _ g2).elim
  ·calc(af _ g5).elim
universe e
universe Z
universe e
section
namespace Z
open PySem PySem.Spec PyProof.Rows L2
abbrev Xay:Bool->Vl->Array Vl->Nat->Nat->Nat->StateT Ua Sem Q91:=sortPriv% PySem.Builtin.gallop
abbrev byd(lf:Bool)(k:Vl)(xs:Array Vl)(i:Nat):StateT Ua Sem (Option Bool):=do
 let x <- Vd4 xs i
 if lf then lt' x k else do
  let r <- lt' k x
  pure (r.map (!·))
private noncomputable abbrev G3:=Option Q91×Nat×Nat
abbrev gUp(lf:Bool)(k:Vl)(xs:Array Vl)(q n h m:Nat):StateT Ua Sem G3:=forIn [0:n] Qaf λ_ z=>
 if z.2.2 ≥ m then pure QR4 else do
  let r <- byd lf k xs (q+(h+z.2.2))
  match r with
  |some y=>if !y then pure QR4 else pure QiF|_=>pure QU8
abbrev gDn(lf:Bool)(k:Vl)(xs:Array Vl)(q n h m:Nat):StateT Ua Sem G3:=forIn [0:n] Qaf λ_ z=>
 if z.2.2 ≥ m then pure QR4 else do
  let r <- byd lf k xs (q+(h-z.2.2))
  match r with
  |some y=>if y then pure QR4 else pure QiF|_=>pure QU8
abbrev Xmr(lf:Bool)(k:Vl)(xs:Array Vl)(q n l r:Nat):StateT Ua Sem Q91:=do
 let c <- forIn [0:n] (QLQ:G3) λ_ z=>
  if z.2.1 ≥ z.2.2 then pure QR4 else do
   let r <- byd lf k xs (q+(z.2.1+QQJ/2))
   match r with
   |some y=>if y then pure (.yield (yy,z.2.1+QQJ/2+1,z.2.2)) else pure (.yield (yy,z.2.1,z.2.1+QQJ/2))|_=>pure QU8
 match c.1 with
 |some r=>pure r|none=>pure (yz c.2.2)
def Xq{α β:Type}{m L:StateT Ua Sem α}{f B:α->StateT Ua Sem β}(h:m=L)(k:∀x,f x=B x):(m >>= f)=(L >>= B):=by rw[h,show f=B from funext k]
def X7p(lf:Bool)(k:Vl)(xs:Array Vl)(q n h:Nat):Xay lf k xs q n h=(do
  let r <- byd lf k xs (q+h)
  match r with
  |some z=>
   if z then do
    let c <- gUp lf k xs q n h Q9e
    match c.1 with
    |some r=>pure r|none=>Xmr lf k xs q n (h+c.2.1+1) (h+min c.2.2 Q9e)
   else do
    let c <- gDn lf k xs q n h QMe
    match c.1 with
    |some r=>pure r|none=>Xmr lf k xs q n (h+1-min c.2.2 QMe) (h-c.2.1)
  |_=>pure yy):=by
 calc Xq rfl λr=>?_;cases r with
 |none=>rfl|some z=>
  exact ite_congr rfl (λ_=>Xq rfl λc=>?_) λ_=>Xq rfl λc=>?_
  ·let⟨B,c2⟩:=c;cases B with
   |some r=>rfl|none=>exact Xq rfl λd=>?_;let⟨L,d2⟩:=d;cases L<;>rfl
  let⟨B,c2⟩:=c;cases B with
  |some r=>rfl|none=>calc Xq rfl λd=>?_;let⟨L,d2⟩:=d;cases L<;>rfl
section
variable{prog:V0}{w:V9}{A:Uu}{E:VP}{s:Vc}{lf:Bool}{k:Vl}{xs:Array Vl}{q n:Nat}{st:Ua}{Q:Option Nat->Ua->Prop}(b:Nat->Bool)
  (ask:∀i,i<n->∀Q':Option Bool->Ua->Prop,Q' (yz (b i)) st->wpS Q6 A E s (byd lf k xs Q4e) Q' st)
  (mono:∀i j,i<=j->j<n->b j=yx->b i=yx)
  (hQ:∀m,m<=n->QvN->(∀i,m<=i->i<n->b i=yw)->Q QyN st)
include ask mono hQ
def Xob{l r:Nat}(hl:l<=r)(L:r<=n)(h1:∀i,i<l->b i=yx)(h2:∀i,r<=i->i<n->b i=yw):wpS Q6 A E s (Xmr lf k xs q n l r) Q st:=by
 unfold Xmr;exact Vv (Vdj (Vbp (I:=λx c B=>B=st/\∃l r,c=QLQ/\l<=r/\r<=n/\r+x<=n+l/\(∀i,i<l->b i=yx)/\∀i,r<=i->i<n->b i=yw)
  (Q:=λc B=>B=st/\∃m,c=(yy,m,m)/\m<=n/\QvN/\∀i,m<=i->i<n->b i=yw) ?step ?fin ⟨rfl,l,r,rfl,hl,L,by omega,h1,h2⟩) ?post)
 case post=>rintro c B ⟨rfl,m,rfl,hm,a1,a2⟩;exact V1 (hQ m hm a1 a2)
 case fin=>
  rintro c B ⟨rfl,l,r,rfl,c1,c2,c3,c4,c5⟩;let:l=r:=by omega
  subst this;exact QNK
 case step=>
  rintro x c B _ hx ⟨rfl,l,r,rfl,c1,c2,c3,c4,c5⟩;dsimp;by_cases g:l ≥ r
  ·rw[iP0 g];let:l=r:=by omega
   subst this;exact V1 QNK
  rw[iN0 g];calc Vv QlR;cases e:b (l+(r-l)/2) with
  |true=>exact V1 ⟨rfl,_,r,rfl,by omega,c2,by omega,λi hi=>mono i _ Q0 Q0 e,c5⟩|false=>
   calc V1 ⟨rfl,l,_,rfl,by omega,by omega,by omega,c4,λi hi hn=>?_⟩;cases e':b i with
   |false=>rfl|true=>rw[mono _ i hi hn e']at e;cases e
def Xrs{h:Nat}(hh:h<n):wpS Q6 A E s (Xay lf k xs q n h) Q st:=by
 rw[X7p];calc Vv (ask h hh _ ?_);dsimp;cases e0:b h with
 |true=>
  rw[iP0 rfl];unfold gUp;exact Vv (Vdj (Vbp (I:=λx c B=>B=st/\∃u v,c=QKQ/\u<v/\x<v/\h+u<n/\b QLe=yx)
   (Q:=λc B=>B=st/\∃u v,c=QKQ/\u<v/\h+u<n/\b QLe=yx/\(n<=h+v\/h+v<n/\b (h+v)=yw)) ?step ?fin Qb9) ?post)
  case post=>
   rintro c B ⟨rfl,u,v,rfl,c1,c2,c3,L⟩;exact Xob b ask mono hQ (l:=h+u+1) (r:=h+min v Q9e) QW9 QW9 (λi hi=>mono i QLe Q0 c2 c3) λi hi hn=>?_;rcases L with L|⟨L,c5⟩;·omega
   ·cases e':b i with
    |false=>rfl|true=>rw[mono _ i Q0 hn e']at c5;cases c5
  case fin=>rintro c B ⟨rfl,u,v,rfl,c1,c2,c3,L⟩;exact QO6
  case step=>
   rintro x c B _ hx ⟨rfl,u,v,rfl,c1,c2,c3,L⟩;dsimp;by_cases g:v ≥ n-h;·rw[iP0 g];exact V1 QO6
   ·rw[iN0 g];let g:h+v<n:=by omega
    calc Vv (ask _ g _ ?_);cases e:b (h+v) with
    |true=>calc V1 Qs8|false=>calc V1 Qa9
 |false=>
  rw[iN0 Q1]
  unfold gDn;exact Vv (Vdj (Vbp (I:=λx c B=>B=st/\∃u v,c=QKQ/\u<v/\x<v/\u<=h/\b (h-u)=yw)
   (Q:=λc B=>B=st/\∃u v,c=QKQ/\u<v/\u<=h/\b (h-u)=yw/\(h+1<=v\/v<=h/\b QKe=yx)) ?step2 ?fin2 Qb9) ?post2)
  case post2=>
   rintro c B ⟨rfl,u,v,rfl,c1,c2,c3,L⟩;exact Xob b ask mono hQ (l:=h+1-min v QMe) (r:=h-u) QW9 QW9 Q2W λi hi hn=>?_
   ·rcases L with L|⟨L,c5⟩;·rw[Nat.min_eq_right L,Nat.sub_self]at hi;exact aB0 hi QP7
    ·rw[Vc0 (Nat.le_succ_of_le L)]at hi;exact mono i QKe (by clear mono hQ ask;omega) (Vaa (Nat.sub_le _ _) hh) c5
   cases e':b i with
   |false=>rfl|true=>rw[mono _ i hi hn e']at c3;cases c3
  case fin2=>rintro c B ⟨rfl,u,v,rfl,c1,c2,c3,L⟩;exact QO6
  case step2=>
   rintro x c B _ hx ⟨rfl,u,v,rfl,c1,c2,c3,L⟩;dsimp;by_cases g:v ≥ h+1;·rw[iP0 g];exact V1 ⟨rfl,u,v,rfl,c1,c3,L,.inl g⟩
   ·rw[iN0 g];calc Vv QlR;cases e:b QKe with
    |false=>calc V1 Qs8|true=>calc V1 Qa9
universe e
section
variable{le:α->α->Prop}{W o c la lb:List α}
structure JnK(le:α->α->Prop)(W o la lb:List α):Prop where
 pm:(o++(la++lb)).Perm W
 so:o.Pairwise le
 sx:∀x∈o,∀y,y∈la\/y∈lb->le x y
 sa:la.Pairwise le
 sb:lb.Pairwise le
def JnK.ta(h:JnK le W o (c++la) lb)(L:∀x∈c,∀y∈lb,le x y):JnK le W Qgf la lb:=by
 let⟨s1,s2,s3⟩:=Vao.mp h.sa;calc⟨?_,Vao.mpr ⟨h.so,s1,λx L y B=>h.sx x L y (.inl QUL)⟩,λx q y B=>?_,s2,h.sb⟩;·let:=h.pm;simpa only[Ub] using this
 ·rcases Uo.mp q with q|q;·exact h.sx x q y (B.imp Q8f id)
  ·rcases B with B|B;·exact s3 x q y B
   ·calc L x q y B
def JnK.tb(h:JnK le W o la (c++lb))(L:∀x∈c,∀y∈la,le x y):JnK le W Qgf la lb:=by
 let⟨s1,s2,s3⟩:=Vao.mp h.sb;calc⟨?_,Vao.mpr ⟨h.so,s1,λx L y B=>h.sx x L y (.inr QUL)⟩,λx q y B=>?_,h.sa,s2⟩;·calc List.Perm.trans ?_ h.pm;rw[Ub];calc Vhx o ?_;rw[<-Ub,<-Ub];exact List.perm_append_comm.append_right lb
 ·rcases Uo.mp q with q|q;·exact h.sx x q y (B.imp id Q8f)
  ·rcases B with B|B;·exact L x q y B
   ·calc s3 x q y B
theorem Srt(le:α->α->Prop)(W l:List α):Prop:=l.Perm W/\l.Pairwise le
def JnK.fin(h:JnK le W o la lb)(L:∀x∈la,∀y∈lb,le x y):Srt le W (o++la++lb):=by calc⟨by rw[Ub];calc h.pm,?_⟩;rw[Ub];calc Vao.mpr ⟨h.so,Vao.mpr ⟨h.sa,h.sb,L⟩,λx q y B=>h.sx x q y QES⟩
def JnK.fin'(h:JnK le W o la lb)(L:∀x∈lb,∀y∈la,le x y):Srt le W (o++lb++la):=by calc⟨by rw[Ub];calc(List.perm_append_comm.append_left o).trans h.pm,?_⟩;rw[Ub];calc Vao.mpr ⟨h.so,Vao.mpr ⟨h.sb,h.sa,L⟩,λx q y B=>h.sx x q y QES.symm⟩
universe e
abbrev Xfe:Array Vl->Array Vl->StateT Ua Sem QY4:=sortPriv% PySem.Builtin.mergeLo
abbrev Xg7:Nat->StateT Ua Sem Unit:=sortPriv% PySem.Builtin.setMinGallop
def X3p(g:Nat):Xg7 g=modify λs=>Via Q7f QZD QbD g Q6f:=rfl
private noncomputable abbrev Xte:=Option QY4×Array Vl×Nat×Nat×Nat×Nat×Nat
private noncomputable abbrev LpM:=StateT Ua Sem (ForInStep Xte)
section
variable(a b:Array Vl)
abbrev Xcm(o:Array Vl)(i j:Nat):Array Vl:=o++a.extract i a.size++b.extract j b.size
abbrev Xg8(o:Array Vl)(i j:Nat):Array Vl:=o++b.extract j b.size++a.extract i a.size
abbrev lo3(o:Array Vl)(i j g c d:Nat):LpM:=do
 let x <- Vd4 a i
 if i+1+1==a.size then pure (.done (yz (Xg8 a b Qw5 QC2 j),o.push x,i+1,j,g,c,d))
 else if c<7&&d<7 then pure (.done QTJ)
 else pure (.yield QTJ)
abbrev lo2(o:Array Vl)(i j g c d:Nat):LpM:=do
 let x <- Vd4 b j
 if j+1==b.size then pure QS7
 else
  let y <- Vd4 a i
  let r <- Xay yx y b QuB (b.size-QuB) 0
  match r with
  |some k=>
   if k>0 then
    if j+1+k==b.size then pure (.done (yz (Xcm a b QKD i QeX),o.push x++b.extract QuB QeX,i,j+1+k,g,c,k))
    else lo3 a b QKD i QeX g c k
   else lo3 a b Qw5 i QuB g c k|_=>pure QS7
abbrev lo1(o:Array Vl)(i j g c d:Nat):LpM:=do
 Xg7 g
 let x <- Vd4 b j
 let r <- Xay yw x a i (a.size-i) 0
 match r with
 |some k=>
  if k>0 then
   if i+k+1==a.size then pure (.done (yz (Xg8 a b Qd4 QhJ j),o++a.extract i QhJ,i+k,j,g,k,d))
   else if i+k==a.size then pure (.done (yz (Xcm a b Qd4 QhJ j),o++a.extract i QhJ,i+k,j,g,k,d))
   else lo2 a b Qd4 QhJ j g k d
  else lo2 a b o i j g k d|_=>pure (.done (yz QsR,o,i,j,g,c,d))
abbrev Xzh(t:Nat)(z:Xte):StateT Ua Sem Xte:=forIn [0:t] z λ_ z=>if z.2.2.2.2.1>1 then lo1 a b z.2.1 z.2.2.1 z.2.2.2.1 QDR z.2.2.2.2.2.1 z.2.2.2.2.2.2 else lo1 a b z.2.1 z.2.2.1 z.2.2.2.1 z.2.2.2.2.1 z.2.2.2.2.2.1 z.2.2.2.2.2.2
private noncomputable abbrev X7q:=Option QY4×Array Vl×Nat×Nat×Nat×Nat
abbrev Xzi(t g:Nat)(z:X7q):StateT Ua Sem X7q:=forIn [0:t] z λ_ z=>do
 let y <- Vd4 b z.2.2.2.1
 let x <- Vd4 a z.2.2.1
 let r <- lt' y x
 match r with
 |some q=>
  if q then do
   let y <- Vd4 b z.2.2.2.1
   if z.2.2.2.1+1==b.size then pure (.done (yz (Xcm a b (z.2.1.push y) z.2.2.1 (z.2.2.2.1+1)),z.2.1.push y,z.2.2.1,z.2.2.2.1+1,0,z.2.2.2.2.2+1))
   else if z.2.2.2.2.2+1 ≥ g then pure (.done Q38)
   else pure (.yield Q38)
  else do
   let x <- Vd4 a z.2.2.1
   if z.2.2.1+1+1==a.size then pure (.done (yz (Xg8 a b (z.2.1.push x) (z.2.2.1+1) z.2.2.2.1),z.2.1.push x,z.2.2.1+1,z.2.2.2.1,z.2.2.2.2.1+1,0))
   else if z.2.2.2.2.1+1 ≥ g then pure (.done Q48)
   else pure (.yield Q48)|_=>pure (.done (yz (Xcm a b z.2.1 z.2.2.1 z.2.2.2.1),z.2.1,z.2.2.1,z.2.2.2.1,z.2.2.2.2.1,z.2.2.2.2.2))
private noncomputable abbrev X7r:=Option QY4×Array Vl×Nat×Nat×Nat
abbrev Xtf(t:Nat)(z:X7r):StateT Ua Sem X7r:=forIn [0:t] z λ_ z=>do
 let y <- Xzi a b t z.2.2.2.2 QpE
 match y.1 with
 |some r=>pure Q59|none=>do
  liftM QCI
  let x <- Xzh a b t QN6
  match x.1 with
  |some r=>pure Qf8|none=>do
   Xg7 QGR
   pure QR8
universe e
def X7s(a b:Array Vl):Xfe a b=(do
  liftM (rule "list.sort.merge-lo")
  let x <- Vd4 b 0
  if (1==b.size)=yx then pure (Xcm a b #[x] 0 1)
  else if (0+1==a.size)=yx then pure (Xg8 a b #[x] 0 1)
  else do
   let g <- get
   let z <- Xtf a b QnR (yy,#[x],0,1,gallopOf g)
   match z.1 with
   |some r=>pure r
   |none=>liftM QY9):=by
 unfold Xtf;exact bind_congr λ_=>bind_congr λx=>?_;exact ite_congr rfl QQ2 λ_=>ite_congr rfl QQ2 λ_=>?_;exact bind_congr λg=>Xq ?_ λz=>?_
 ·calc congrArg Q9N ?_;funext _ z;calc Xq rfl λy=>?_;let⟨L,y2⟩:=y;cases L with
  |some r=>rfl|none=>exact bind_congr λ_=>Xq rfl λx=>?_;let⟨x1,x2⟩:=x;cases x1<;>rfl
 ·let⟨B,z2⟩:=z;cases B<;>rfl
structure Ord(R:Vl->Vl->Bool):Prop where
 tr:∀ {x y z},R y x=yw->R z y=yw->R z x=yw
 as:∀ {x y},R x y=yx->R y x=yw
private abbrev LeK(R:Vl->Vl->Bool)(x y:Vl):Prop:=R y x=yw
theorem Xgb(prog:V0)(w:V9)(A:Uu)(E:VP)(s:Vc)(κ:Vdy)(R:Vl->Vl->Bool)(mem:Vl->Prop):Prop:=
 ∀(x y:Vl) (st:Ua) (Q:Option Bool->Ua->Prop),mem x->mem y->Vax st=κ->Q (yz (R x y)) st->wpS Q6 A E s (lt' x y) Q st
theorem Glp(st B:Ua):Prop:=∃g,B=Via (Vax st) QM QMB g Q6V
def Glp.refl{st:Ua}:Glp st st:=⟨gallopOf st,rfl⟩
def Glp.kind{st B:Ua}(h:Glp st B):Vax B=Vax st:=by let⟨g,rfl⟩:=h;rfl
def Glp.trans{st B L:Ua}(h:Glp st B)(h':Glp B L):Glp st L:=by let⟨g,rfl⟩:=h;let⟨g',rfl⟩:=h';calc⟨g',rfl⟩
abbrev kat(a:Array Vl)(i:Nat):Vl:=a.getD i QmY
def Xbx{a:Array Vl}{i:Nat}(h:i<a.size):kat a i=a[i]:=by simp![kat,h]
def Xjf{a:Array Vl}{i:Nat}(h:i<a.size):a[i]?=yz QZ5:=by rw[getElem?_pos a i h];simp![kat,h]
def X7{a:Array Vl}{i:Nat}(h:i<a.size):kat a i∈a.toList:=by let:=Xjf h;rw[<-Ud]at this;calc V5 this
def Xmb{a:Array Vl}{i:Nat}(h:i<a.size):a.toList.drop i=kat a i::a.toList.drop QC2:=by rw[Vjh QD2,Xbx h,Vf2]
def Xdj{a:Array Vl}{i:Nat}{y:Vl}(h:y∈a.toList.drop i):∃k,i<=k/\k<a.size/\y=kat a k:=by
 let⟨k,L⟩:=Vd9.mp h;rw[List.getElem?_drop]at L;let hl:=Q0H.1;let B:i+k<a.size:=by simpa using hl
 calc⟨i+k,by omega,B,?_⟩;let:=Xjf B;rw[<-Ud,L]at this;cases this;rfl
def Xc8{a:Array Vl}{i n:Nat}{y:Vl}(h:y∈Qv3.take n):∃k,i<=k/\k<i+n/\k<a.size/\y=kat a k:=by
 let⟨k,B⟩:=Vd9.mp h;rw[List.getElem?_take]at B;split at B
 ·rename_i q;let⟨m,_,_⟩:=Xdj QUb;rw[List.getElem?_drop]at B;let hl:=QMb.1;let L:i+k<a.size:=by simpa using hl
  calc⟨i+k,by omega,by omega,L,?_⟩;let:=Xjf L;rw[<-Ud,B]at this;cases this;rfl
 cases B
def Xff{R:Vl->Vl->Bool}{a:Array Vl}(h:a.toList.Pairwise QJ2){i j:Nat}(B:i<j)(L:j<a.size):LeK R QZ5 Qba:=by let:=Vgf.mp h i j Qc3 QE2 B;rw[Vf2,Vf2]at this;rw[Xbx Q0,Xbx L];calc this
section
variable{prog:V0}{w:V9}{A:Uu}{E:VP}{s:Vc}{κ:Vdy}{R:Vl->Vl->Bool}{mem:Vl->Prop}
def Yg{a:Array Vl}{i:Nat}{st:Ua}{Q:Vl->Ua->Prop}(h:i<a.size)(B:Q QZ5 st):wpS Q6 A E s (Vd4 a i) Q st:=by rw[elem'_eq,Xjf h];calc V1 B
def Xg9{g:Nat}{st:Ua}{Q:Unit->Ua->Prop}(L:∀B,Glp st B->Q () B):wpS Q6 A E s (Xg7 g) Q st:=by rw[X3p];calc Vg0 (L _ ⟨g,rfl⟩)
variable(hO:Ord R)(hA:Xgb prog w A E s κ R mem)
include hO hA
def Xtg{B:Vl}{xs:Array Vl}{q n h:Nat}{st:Ua}{Q:Option Nat->Ua->Prop}(hk:Vax st=κ)(mk:mem B)(hq:q+n<=xs.size)(mx:∀x∈xs.toList,mem x)
  (so:∀i j,q<=i->i<j->j<q+n->LeK R QEZ QDZ) (hh:h<n)
  (hQ:∀m,m<=n->(∀i,i<m->LeK R Qa2 B)->(∀i,m<=i->i<n->R B Qa2=yx)->Q QyN st):wpS Q6 A E s (Xay yw B xs q n h) Q st:=by
 calc Xrs (λi=>!R B Qa2) Q3P QnM (λm hm a1 a2=>hQ m hm Q2W λi hi hn=>?_) hh;·unfold byd;calc Vv QS2;show wpS _ _ _ _ (do let __x <- lt' B Qa2;pure (__x.map (!·))) _ _;exact Vv (hA _ _ _ _ mk QAZ hk (V1 L))
 ·let e':R B Q2T=false:=by simpa using e
  show(!R B Qa2)=yx;by_cases c:i=j;·subst c;exact e
  ·let:=so Q4e (q+j) Q0 Q0 Q0;rw[hO.tr this e'];rfl
 ·let:=a1 i hi;simpa using this
 ·let:=a2 i hi hn;simpa using this
def Xth{B:Vl}{xs:Array Vl}{q n h:Nat}{st:Ua}{Q:Option Nat->Ua->Prop}(hk:Vax st=κ)(mk:mem B)(hq:q+n<=xs.size)(mx:∀x∈xs.toList,mem x)
  (so:∀i j,q<=i->i<j->j<q+n->LeK R QEZ QDZ) (hh:h<n)
  (hQ:∀m,m<=n->(∀i,i<m->R Qa2 B=yx)->(∀i,m<=i->i<n->LeK R B Qa2)->Q QyN st):wpS Q6 A E s (Xay yx B xs q n h) Q st:=by
 calc Xrs (λi=>R Qa2 B) Q3P QnM (λm hm a1 a2=>hQ m hm a1 a2) hh;·unfold byd;calc Vv QS2;show wpS _ _ _ _ (lt' Qa2 B) _ _;exact hA _ _ _ _ QAZ mk hk L
 ·show R Qa2 B=yx;by_cases c:i=j;·subst c;exact e
  ·let:=so Q4e (q+j) Q0 Q0 Q0;cases e2:R Qa2 B with
   |true=>rfl|false=>let e3:R Q2T B=true:=e;rw[hO.tr e2 this]at e3;cases e3
universe e
section
variable{R:Vl->Vl->Bool}{W:List Vl}{a b o:Array Vl}{i j k:Nat}
private abbrev Jo(R:Vl->Vl->Bool)(W:List Vl)(a b o:Array Vl)(i j:Nat):Prop:=JnK QJ2 W o.toList Qv3 Qe6
def Xha(a:Array Vl)(i:Nat):(a.extract i a.size).toList=a.toList.drop i:=by rw[Vcp,Vck];calc Vbk QB
def Xhb(a:Array Vl)(i k:Nat):(a.extract i QhJ).toList=Qv3.take k:=by rw[Vcp,Vck,show i+k-i=k by omega]
def Jo.fin(h:Jo R W a b o i j)(q:a.size<=i\/b.size<=j):Srt QJ2 W QsR.toList:=by
 let:=JnK.fin h (λx L y B=>by
  rcases q with q|q;·rw[List.drop_of_length_le QT]at L;cases L
  ·rw[List.drop_of_length_le QT]at B;cases B)
 unfold Xcm;rw[Var,Var,Xha,Xha];calc this
def Jo.lst(h:Jo R W a b o i j)(hl:∀x∈b.toList,∀y∈a.toList.drop Qx7,LeK R x y)(q:i+1=a.size):Srt QJ2 W (Xg8 a b o i j).toList:=by let:=JnK.fin' h (λx L y B=>hl x (Vem L) y (by rw[<-q];calc B));unfold Xg8;rw[Var,Var,Xha,Xha];calc this
def Jo.ca(h:Jo R W a b o i j)(B:∀x∈Qv3.take k,∀y∈b.toList.drop j,LeK R x y):Jo R W a b Qd4 QhJ j:=by
 let h':JnK QJ2 W o.toList (Qv3.take k++a.toList.drop QhJ) Qe6:=by rw[<-Vda,Uq];exact h
 let:=h'.ta B;show JnK _ _ Qd4.toList _ _;rw[Var,Xhb];calc this
def Jo.cb(h:Jo R W a b o i j)(B:∀x∈Qe6.take k,∀y∈a.toList.drop i,LeK R x y):Jo R W a b QTK i (j+k):=by
 let h':JnK QJ2 W o.toList Qv3 (Qe6.take k++b.toList.drop (j+k)):=by rw[<-Vda,Uq];exact h
 let:=h'.tb B;show JnK _ _ QTK.toList _ _;rw[Var,Xhb];calc this
def Jo.pa(h:Jo R W a b o i j)(hi:i<a.size)(L:∀y∈b.toList.drop j,LeK R QZ5 y):Jo R W a b Q1L QC2 j:=by
 let h':JnK QJ2 W o.toList ([kat a i]++a.toList.drop QC2) Qe6:=by rw[Vhy,<-Xmb hi];exact h
 let:=h'.ta (λx q y B=>by rw[V6.mp q];calc L y B);show JnK _ _ QnI.toList _ _;rw[Vcv];calc this
def Jo.pb(h:Jo R W a b o i j)(L:j<b.size)(hx:∀y∈a.toList.drop i,LeK R QOD y):Jo R W a b QDW i QuB:=by
 let h':JnK QJ2 W o.toList Qv3 ([kat b j]++b.toList.drop QuB):=by rw[Vhy,<-Xmb L];exact h
 let:=h'.tb (λx q y B=>by rw[V6.mp q];calc hx y B);show JnK _ _ QnI.toList _ _;rw[Vcv];calc this
theorem JJ(R:Vl->Vl->Bool)(W:List Vl)(a b:Array Vl)(N:Nat)(o:Array Vl)(i j:Nat):Prop:=Jo R W a b o i j/\i+1<a.size/\j<b.size/\N<=i+j
theorem Out(R:Vl->Vl->Bool)(W:List Vl)(a b:Array Vl)(N:Nat)(z:Option QY4)(o:Array Vl)(i j:Nat):Prop:=QAD\/(z=yy/\JJ R W a b N o i j)
theorem LpQ(R:Vl->Vl->Bool)(W:List Vl)(a b:Array Vl)(N:Nat)(st:Ua)(r:ForInStep Xte)(B:Ua):Prop:=Glp st B/\match r with
 |.done z=>Out R W a b N z.1 z.2.1 z.2.2.1 z.2.2.2.1|.yield z=>z.1=yy/\JJ R W a b N z.2.1 z.2.2.1 z.2.2.2.1
def Xgc(hO:Ord R)(sa:a.toList.Pairwise QJ2){x:Vl}(B:LeK R x QZ5):∀y∈a.toList.drop i,LeK R x y:=λy L=>by
 let⟨m,h1,h2,rfl⟩:=Xdj L;by_cases c:i=m;·subst c;exact B
 ·calc hO.tr B (Xff sa Q0 h2)
universe e
section
variable{prog:V0}{w:V9}{A:Uu}{E:VP}{s:Vc}{κ:Vdy}{R:Vl->Vl->Bool}{mem:Vl->Prop}{W:List Vl}{a b o:Array Vl}{i j N g c d:Nat}{st st0:Ua}
variable(hO:Ord R)(hA:Xgb prog w A E s κ R mem)(ma:∀x∈a.toList,mem x)(mb:∀x∈b.toList,mem x)(sa:a.toList.Pairwise QJ2)(sb:b.toList.Pairwise QJ2)(hl:∀x∈b.toList,∀y∈a.toList.drop Qx7,LeK R x y)
include hl
def Xv8(hg:Glp st0 st)(h:Jo R W a b o i j)(hi:i+1<a.size)(L:j<b.size)(hN:N<=i+j)(hx:∀y∈b.toList.drop j,LeK R QZ5 y):wpS Q6 A E s (lo3 a b o i j g c d) QaC st:=by
 unfold lo3;calc Vv QS2;let h':=h.pa Q0 hx;by_cases q:i+1+1=a.size;·rw[iP0 QT];exact V1 Qv2
 ·rw[iN0 QT];let B:JJ R W a b N Q1L QC2 j:=⟨h',by omega,L,by omega⟩;split;·exact V1 QyQ
  ·calc V1 QuV
include hO hA ma mb sa sb
def Xv9(hg:Glp st0 st)(hk:Vax st0=κ)(h:Jo R W a b o i j)(hi:i+1<a.size)(hj:j<b.size)(hN:N<=i+j)(L:∀y∈a.toList.drop i,LeK R QOD y):wpS Q6 A E s (lo2 a b o i j g c d) QaC st:=by
 unfold lo2;calc Vv (Yg hj ?_);let h':=h.pb hj L;by_cases q:j+1=b.size;·rw[iP0 QT];exact V1 QxA
 ·rw[iN0 QT];calc Vv QS2;calc Vv Q14;dsimp;let rest:∀y∈b.toList.drop (j+1+m),LeK R QZ5 y:=λy B=>by
   let⟨k,k1,k2,rfl⟩:=Xdj B;let:=a2 QaR Q0 Q0;rw[show j+1+QaR=k by omega]at this;exact this
  by_cases z:m>0
  ·rw[iP0 z]
   let h2:=Jo.cb (k:=m) h' (λx L y B=>by
    let⟨k,k1,k2,k3,rfl⟩:=Xc8 L;let:=a1 QaR Q0;rw[show j+1+QaR=k by omega]at this
    calc Xgc hO sa (hO.as this) y B)
   by_cases q2:j+1+m=b.size;·rw[iP0 Qo8];exact V1 ⟨hg,.inl ⟨_,rfl,h2.fin Qvb⟩⟩
   ·rw[iN0 Qo8];exact Xv8 hl hg h2 hi Q0 Q0 rest
  rw[iN0 z];let:m=0:=by omega
  subst this;calc Xv8 hl hg h' hi Q0 Q0 rest
def Xwa(hg:Glp st0 st)(hk:Vax st0=κ)(h:JJ R W a b N o i j):wpS Q6 A E s (lo1 a b o i j g c d) QaC st:=by
 let⟨h,hi,B,hN⟩:=h;unfold lo1;calc Vv QaQ;let hg:=hg.trans L;calc Vv Qya;calc Vv (Xtg hO hA Qp2 QOU Q0 ma QOF Q0 λm hm a1 a2=>?_);dsimp;let rest:i+m<a.size->∀y∈a.toList.drop (i+m),LeK R QOD y:=λab=>Xgc hO sa (hO.as (a2 m Qw Q0));by_cases z:m>0
 ·rw[iP0 z]
  let h2:=Jo.ca (k:=m) h (λx hx y hy=>by
   let⟨k,k1,k2,k3,rfl⟩:=Xc8 hx;let:=a1 (k-i) Q0;rw[show i+(k-i)=k by omega]at this;let⟨n,n1,n2,rfl⟩:=Xdj hy;by_cases e:j=n;·subst e;exact this
   ·calc hO.tr this (Xff sb Q0 n2))
  by_cases q:i+m+1=a.size;·rw[iP0 QT];exact V1 ⟨hg,.inl ⟨_,rfl,h2.lst hl q⟩⟩
  ·rw[iN0 QT];by_cases q2:i+m=a.size;·rw[iP0 Qo8];exact V1 ⟨hg,.inl ⟨_,rfl,h2.fin (.inl Q0)⟩⟩
   ·rw[iN0 Qo8];exact Xv9 hO hA ma mb sa sb hl hg hk h2 Q0 B Q0 QOa
 rw[iN0 z];let:m=0:=by omega
 subst this;calc Xv9 hO hA ma mb sa sb hl hg hk h hi B hN QOa
def X3q{t:Nat}(hg:Glp st0 st)(L:Vax st0=κ)(h:JJ R W a b N o i j):wpS Q6 A E s (Xzh a b t (yy,o,i,j,g,c,d)) (λz st'=>Glp st0 st'/\Out R W a b N z.1 z.2.1 z.2.2.1 z.2.2.2.1) st:=by
 unfold Xzh;calc Vbp (I:=λ_ z st'=>Glp st0 st'/\z.1=yy/\JJ R W a b N z.2.1 z.2.2.1 z.2.2.2.1) ?_ QzA QeC;rintro _ z st' _ _ ⟨h1,h2,h3⟩;split;·exact Vdj QoC λr B q=>?_;cases r<;>exact q
 ·calc Vdj QoC λr B q=>?_;cases r<;>calc q
def X3r{t:Nat}(hg:Glp st0 st)(hk:Vax st0=κ)(ht:0<t)(h:JJ R W a b N o i j):wpS Q6 A E s (Xzi a b t g (yy,o,i,j,0,0)) (λz st'=>Glp st0 st'/\Out R W a b (N+1) z.1 z.2.1 z.2.2.1 z.2.2.2.1) st:=by
 unfold Xzi;calc Vbp (I:=λx z st'=>Glp st0 st'/\z.1=yy/\JJ R W a b QYY z.2.1 z.2.2.1 z.2.2.2.1) ?_ Qf3 ⟨hg,rfl,(by simpa using h:JJ R W a b QZY o i j)⟩;rintro x ⟨z0,o,i,j,c,d⟩ st' _ _ ⟨hg,h2,h3⟩;let⟨h,hi,B,hN⟩:=h3;dsimp at h hi B hN |-;calc Vv (Yg B (Vv QS2));calc Vv (hA _ _ _ _ QOU QoI Qp2 ?_);cases e:R QOD QZ5 with
 |true=>
  dsimp;rw[iP0 rfl];calc Vv Qya;let h':=h.pb B (Xgc hO sa QdR);by_cases q:j+1=b.size;·rw[iP0 QT];exact V1 QxA
  ·rw[iN0 QT];let L:∀m,m<=N+1->JJ R W a b m QDW i QuB:=λm hm=>⟨h',hi,by omega,by omega⟩;split;·exact V1 QxF
   ·exact V1 QsO|false=>
  dsimp;rw[iN0 Q1];calc Vv QS2;let h':=h.pa Q0 (Xgc (a:=b) hO sb e);by_cases q:i+1+1=a.size;·rw[iP0 QT];exact V1 Qv2
  ·rw[iN0 QT];let L:∀m,m<=N+1->JJ R W a b m Q1L QC2 j:=λm hm=>⟨h',by omega,B,by omega⟩;split;·exact V1 QxF
   ·calc V1 QsO
def X3s{t:Nat}(hg:Glp st0 st)(hk:Vax st0=κ)(ht:a.size+b.size<=t)(h:JJ R W a b 0 o i j):wpS Q6 A E s (Xtf a b t (yy,o,i,j,g)) Qw6 st:=by
 unfold Xtf;calc Vbp (I:=λx z st'=>Glp st0 st'/\z.1=yy/\JJ R W a b x z.2.1 z.2.2.1 z.2.2.2.1) ?_ (λz st' Qd2=>by let:=h3.2.1;let:=h3.2.2.1;let:=h3.2.2.2;omega) QeC;rintro x ⟨z0,o,i,j,g⟩ st' _ _ ⟨hg,h2,h3⟩;let hp:0<t:=by let:=h3.2.1;omega
 calc Vv (Vdj (X3r hO hA ma mb sa sb hl hg hk hp h3) λy ab q=>?_);let⟨L,q⟩:=q;let⟨y0,y1,y2,y3,y4,y5⟩:=y;rcases q with⟨r,e,hr⟩|⟨e,h4⟩;·subst e;exact V1 QqS
 ·subst e;calc Vv Qr1;calc Vv (Vdj (X3q hO hA ma mb sa sb hl L hk h4) λz ae q=>?_);let⟨B,q⟩:=q;let⟨z0,z1,z2,z3,z4,z5,z6⟩:=z;rcases q with⟨r,e,hr⟩|⟨e,h5⟩;·subst e;exact V1 QrS
  ·subst e;calc Vv QoA
def X7t{Q:Array Vl->Ua->Prop}(hk:Vax st=κ)(ha:0<a.size)(hb:0<b.size)(h0:LeK R Q8L (kat a 0))(hW:W=a.toList++b.toList)
  (hQ:∀r B,Glp st B->Srt QJ2 W r.toList->Q r B):wpS Q6 A E s (Xfe a b) Q st:=by
 rw[X7s];calc Vv Qr1;calc Vv (Yg hb ?_);let j0:Jo R W a b #[] 0 0:=⟨by rw[hW];calc .refl _,.nil,λx q=>QLZ,sa,sb⟩;let j1:Jo R W a b #[kat b 0] 0 1:=j0.pb hb (Xgc hO sa h0);by_cases q:1=b.size;·rw[iP0 QT];exact V1 (hQ _ _ .refl (j1.fin Qvb))
 ·rw[iN0 QT];by_cases L:0+1=a.size;·rw[iP0 QE2];exact V1 Q8G
  ·rw[iN0 QE2];calc Vv Qv5;calc Vv (Vdj (X3s hO hA ma mb sa sb hl .refl hk Qw ⟨j1,by omega,by omega,by omega⟩) λz B q=>?_);let⟨hg,r,e,hr⟩:=q;let⟨z0,z1⟩:=z;subst e;calc V1 Q4T
universe e
abbrev Xfg:Array Vl->Array Vl->StateT Ua Sem QY4:=sortPriv% PySem.Builtin.mergeHi
section
variable(a b:Array Vl)
abbrev Xcn(o:Array Vl)(i j:Nat):Array Vl:=a.extract 0 i++b.extract 0 j++o.reverse
abbrev Xhc(o:Array Vl)(i j:Nat):Array Vl:=b.extract 0 j++a.extract 0 i++o.reverse
private noncomputable abbrev Xti:=Option QY4×Nat×Nat×Array Vl×Nat×Nat×Nat
private noncomputable abbrev HpM:=StateT Ua Sem (ForInStep Xti)
private noncomputable abbrev Xzj:=Option QY4×Nat×Nat×Array Vl×Nat×Nat
private noncomputable abbrev X7u:=Option QY4×Nat×Nat×Array Vl×Nat
abbrev hi3(o:Array Vl)(i j g c d:Nat):HpM:=do
 let x <- Vd4 a QkG
 if i-1==0 then pure (.done (yz QPN,i-1,j,o.push x,g,c,d))
 else if c<7&&d<7 then pure (.done QUJ)
 else pure (.yield QUJ)
abbrev hi2(o:Array Vl)(i j g c d:Nat):HpM:=do
 let x <- Vd4 b QPD
 if j-1==1 then pure (.done (yz QMN,i,j-1,o.push x,g,c,d))
 else
  let y <- Vd4 a QkG
  let r <- Xay yx y b 0 QPD (j-1-1)
  match r with
  |some k=>
   if j-1-k>0 then
    if k==1 then pure (.done (yz (Xhc a b Q05 i k),i,k,o.push x++QQP.reverse,g,c,j-1-k))
    else if k==0 then pure (.done (yz (Xcn a b Q05 i k),i,k,o.push x++QQP.reverse,g,c,j-1-k))
    else hi3 a b Q05 i k g c QFe
   else hi3 a b Qw5 i QPD g c QFe|_=>pure (.done (yz (Xcn a b Qw5 i QPD),i,j-1,o.push x,g,c,d))
abbrev hi1(o:Array Vl)(i j g c d:Nat):HpM:=do
 Xg7 g
 let x <- Vd4 b QPD
 let r <- Xay yw x a 0 i QkG
 match r with
 |some k=>
  if i-k>0 then
   if k==0 then pure (.done (yz (Xcn a b Qj7 k j),k,j,o++(a.extract k i).reverse,g,i-k,d))
   else hi2 a b Qj7 k j g QIe d
  else hi2 a b o i j g QIe d|_=>pure (.done (yz QUP,i,j,o,g,c,d))
abbrev Xzk(t:Nat)(z:Xti):StateT Ua Sem Xti:=forIn [0:t] z λ_ z=>if z.2.2.2.2.1>1 then hi1 a b z.2.2.2.1 z.2.1 z.2.2.1 QDR z.2.2.2.2.2.1 z.2.2.2.2.2.2 else hi1 a b z.2.2.2.1 z.2.1 z.2.2.1 z.2.2.2.2.1 z.2.2.2.2.2.1 z.2.2.2.2.2.2
abbrev X7v(g:Nat)(o:Array Vl)(i j c d:Nat):StateT Ua Sem (ForInStep Xzj):=do
 let y <- Vd4 b QPD
 let x <- Vd4 a QkG
 let r <- lt' y x
 match r with
 |some q=>
  if q then do
   let x <- Vd4 a QkG
   if i-1==0 then pure (.done (yz QPN,i-1,j,o.push x,c+1,0))
   else if c+1 ≥ g then pure (.done QVJ)
   else pure (.yield QVJ)
  else do
   let x <- Vd4 b QPD
   if j-1==1 then pure (.done (yz QMN,i,j-1,o.push x,0,d+1))
   else if d+1 ≥ g then pure (.done QWJ)
   else pure (.yield QWJ)|_=>pure (.done (yz QUP,i,j,o,c,d))
abbrev Xzl(t g:Nat)(z:Xzj):StateT Ua Sem Xzj:=forIn [0:t] z λ_ z=>X7v a b g z.2.2.2.1 z.2.1 z.2.2.1 z.2.2.2.2.1 z.2.2.2.2.2
abbrev Xtj(t:Nat)(z:X7u):StateT Ua Sem X7u:=forIn [0:t] z λ_ z=>do
 let y <- Xzl a b t z.2.2.2.2 QpE
 match y.1 with
 |some r=>pure Q59|none=>do
  liftM QCI
  let x <- Xzk a b t QN6
  match x.1 with
  |some r=>pure Qf8|none=>do
   Xg7 QGR
   pure QR8
universe e
def X7w(a b:Array Vl):Xfg a b=(do
  liftM (rule "list.sort.merge-hi")
  let x <- Vd4 a Qx7
  if (a.size-1==0)=yx then pure (Xcn a b #[x] Qx7 b.size)
  else if (b.size==1)=yx then pure (Xhc a b #[x] Qx7 b.size)
  else do
   let g <- get
   let z <- Xtj a b QnR (yy,a.size-1,b.size,#[x],gallopOf g)
   match z.1 with
   |some r=>pure r
   |none=>liftM QY9):=by
 unfold Xtj;exact bind_congr λ_=>bind_congr λx=>?_;exact ite_congr rfl QQ2 λ_=>ite_congr rfl QQ2 λ_=>?_;exact bind_congr λg=>Xq ?_ λz=>?_
 ·calc congrArg Q9N ?_;funext _ z;calc Xq rfl λy=>?_;let⟨L,y2⟩:=y;cases L with
  |some r=>rfl|none=>exact bind_congr λ_=>Xq rfl λx=>?_;let⟨x1,x2⟩:=x;cases x1<;>rfl
 ·let⟨B,z2⟩:=z;cases B<;>rfl
section
variable{R:Vl->Vl->Bool}{W:List Vl}{a b o:Array Vl}{i j k:Nat}
def Srt.rev{α:Type}{le:α->α->Prop}{W l:List α}(h:Srt (λx y=>le y x) W l):Srt le W l.reverse:=⟨(Vja l).trans h.1,Vhz.mpr h.2⟩
private abbrev Jh(R:Vl->Vl->Bool)(W:List Vl)(a b o:Array Vl)(i j:Nat):Prop:=JnK (λx y=>LeK R y x) W o.toList Qk9.reverse (b.toList.take j).reverse
def Xms(a:Array Vl)(i:Nat):(a.extract 0 i).toList=a.toList.take i:=by rw[Vcp,Vck];simp!
def Xfh{y:Vl}(h:y∈a.toList.take i):∃k,k<i/\k<a.size/\y=kat a k:=by let h':y∈(a.toList.drop 0).take i:=h;let⟨k,_,h2,B,e⟩:=Xc8 h';calc⟨k,by omega,B,e⟩
def Xoc(B:0<i)(h:i<=a.size):Qk9.reverse=[kat a QkG]++(a.toList.take QkG).reverse:=by obtain⟨m,rfl⟩:∃m,i=m+1:=⟨i-1,by omega⟩;rw[Nat.add_sub_cancel,Vhu QjR,Vgc,Xbx Q0,Vf2];rfl
def Xrt(B:k<=i):Qk9.reverse=(a.extract k i).reverse.toList++(a.toList.take k).reverse:=by rw[Ven,Vcp,Vck,<-Vgc];congr 1;rw[<-Uq k Qk9,Vit,Vc0 B,Viu]
def Jh.fin(h:Jh R W a b o i j)(q:i=0\/j=0):Srt QJ2 W (Xcn a b o i j).toList:=by
 let:=(JnK.fin' h (λx L y B=>by
  rcases q with q|q;·subst q;simp! at B
  ·subst q;simp! at L)).rev
 unfold Xcn;rw[Var,Var,Xms,Xms,Ven];simpa [Vgc] using this
def Jh.lst(h:Jh R W a b o i j)(hl:∀x∈a.toList,LeK R Q8L x)(q:j=1):Srt QJ2 W (Xhc a b o i j).toList:=by
 let:=(JnK.fin h (λx L y B=>by
  subst q;let⟨m,h1,h2,rfl⟩:=Xfh QYZ;obtain rfl:m=0:=by omega
  calc hl x (Veo (Vcb.mp L)))).rev
 unfold Xhc;rw[Var,Var,Xms,Xms,Ven];simpa [Vgc] using this
def Jh.pa(h:Jh R W a b o i j)(B:0<i)(hi:i<=a.size)(hx:∀y∈b.toList.take j,LeK R y QF5):Jh R W a b Q2L QkG j:=by let h':=h;unfold Jh at h';rw[Xoc B hi]at h';let:=h'.ta QR9;show JnK _ _ QnI.toList _ _;rw[Vcv];calc this
def Jh.pb(h:Jh R W a b o i j)(B:0<j)(hj:j<=b.size)(hx:∀y∈a.toList.take i,LeK R y Qk7):Jh R W a b QCW i QPD:=by let h':=h;unfold Jh at h';rw[Xoc (a:=b) B hj]at h';let:=h'.tb QR9;show JnK _ _ QnI.toList _ _;rw[Vcv];calc this
def Jh.ca(h:Jh R W a b o i j)(hk:k<=i)(L:∀x,(∃m,k<=m/\m<i/\x=kat a m)->∀y∈b.toList.take j,LeK R y x):Jh R W a b Qj7 k j:=by let h':=h;unfold Jh at h';rw[Xrt hk]at h';let:=h'.ta Qi2;show JnK _ _ Qhf.toList _ _;rw[Var];calc this
def Jh.cb(h:Jh R W a b o i j)(hk:k<=j)(L:∀x,(∃m,k<=m/\m<j/\x=kat b m)->∀y∈a.toList.take i,LeK R y x):Jh R W a b (o++(b.extract k j).reverse) i k:=by let h':=h;unfold Jh at h';rw[Xrt (a:=b) hk]at h';let:=h'.tb Qi2;show JnK _ _ Qhf.toList _ _;rw[Var];calc this
theorem JK(R:Vl->Vl->Bool)(W:List Vl)(a b:Array Vl)(N:Nat)(o:Array Vl)(i j:Nat):Prop:=Jh R W a b o i j/\0<i/\i<=a.size/\1<j/\j<=b.size/\i+j+N<=a.size+b.size
theorem Xzm(R:Vl->Vl->Bool)(W:List Vl)(a b:Array Vl)(N:Nat)(z:Option QY4)(o:Array Vl)(i j:Nat):Prop:=QAD\/(z=yy/\JK R W a b N o i j)
theorem HpQ(R:Vl->Vl->Bool)(W:List Vl)(a b:Array Vl)(N:Nat)(st:Ua)(r:ForInStep Xti)(B:Ua):Prop:=Glp st B/\match r with
 |.done z=>Xzm R W a b N z.1 z.2.2.2.1 z.2.1 z.2.2.1|.yield z=>z.1=yy/\JK R W a b N z.2.2.2.1 z.2.1 z.2.2.1
def Xjg(hO:Ord R)(sa:a.toList.Pairwise QJ2)(h0:0<i)(hi:i<=a.size){x:Vl}(B:LeK R QF5 x):∀y∈a.toList.take i,LeK R y x:=λy L=>by
 let⟨m,h1,h2,rfl⟩:=Xfh L;by_cases c:m=i-1;·subst c;exact B
 ·calc hO.tr (Xff sa Q0 Q0) B
universe e
section
variable{prog:V0}{w:V9}{A:Uu}{E:VP}{s:Vc}{κ:Vdy}{R:Vl->Vl->Bool}{mem:Vl->Prop}{W:List Vl}{a b o:Array Vl}{i j N g c d:Nat}{st st0:Ua}
variable(hO:Ord R)(hA:Xgb prog w A E s κ R mem)(ma:∀x∈a.toList,mem x)(mb:∀x∈b.toList,mem x)(sa:a.toList.Pairwise QJ2)(sb:b.toList.Pairwise QJ2)(hl:∀x∈a.toList,LeK R Q8L x)
def Xwb(hg:Glp st0 st)(h:Jh R W a b o i j)(L:0<i)(hi:i<=a.size)(j1:1<j)(hj:j<=b.size)(hN:i+j+N<=a.size+b.size)(hx:∀y∈b.toList.take j,LeK R y QF5):wpS Q6 A E s (hi3 a b o i j g c d) QbC st:=by
 unfold hi3;calc Vv QS2;let h':=h.pa L hi hx;by_cases q:i-1=0;·rw[iP0 QT];exact V1 Q3B
 ·rw[iN0 QT];let B:JK R W a b N Q2L QkG j:=Q4B;split;·exact V1 QyQ
  ·calc V1 QuV
include hl hO hA ma mb sa sb
def Xwc(hg:Glp st0 st)(hk:Vax st0=κ)(h:Jh R W a b o i j)(B:0<i)(hi:i<=a.size)(j1:1<j)(hj:j<=b.size)(hN:i+j+N<=a.size+b.size)(hx:∀y∈a.toList.take i,LeK R y Qk7):wpS Q6 A E s (hi2 a b o i j g c d) QbC st:=by
 unfold hi2;calc Vv QS2;let h':=h.pb Q0 hj hx;by_cases q:j-1=1;·rw[iP0 QT];exact V1 Qv2
 ·rw[iN0 QT];calc Vv QS2;calc Vv Q14;simp[Vgm]at a1 a2;dsimp;let rest:∀y∈b.toList.take m,LeK R y QF5:=λy hy=>by
   let⟨k,k1,k2,rfl⟩:=Xfh hy;exact hO.as (a1 k k1)
  by_cases z:j-1-m>0
  ·rw[iP0 z];let h2:=Jh.cb (k:=m) h' Q0 (λx hx y hy=>by let⟨k,k1,k2,rfl⟩:=hx;calc Xjg hO sa B hi QWW y hy);by_cases L:m=1;·rw[iP0 QE2];exact V1 ⟨hg,.inl ⟨_,rfl,h2.lst hl L⟩⟩
   ·rw[iN0 QE2];by_cases q3:m=0;·rw[iP0 QHP];exact V1 ⟨hg,.inl ⟨_,rfl,h2.fin (.inr q3)⟩⟩
    ·rw[iN0 QHP];exact Xwb hg h2 B hi Q0 Q0 Q0 rest
  rw[iN0 z];obtain rfl:m=j-1:=by omega
  calc Xwb hg h' B hi Q0 Q0 Q0 rest
def Xwd(hg:Glp st0 st)(hk:Vax st0=κ)(h:JK R W a b N o i j):wpS Q6 A E s (hi1 a b o i j g c d) QbC st:=by
 let⟨h,h0,hi,j1,hj,hN⟩:=h;unfold hi1;calc Vv QaQ;let hg:=hg.trans L;calc Vv QS2;calc Vv (Xtg hO hA Qp2 QBZ Q0 ma QOF Q0 λm hm a1 a2=>?_);simp[Vgm]at a1 a2;dsimp;let rest:∀y∈a.toList.take m,LeK R y Qk7:=λy B=>by let⟨k,k1,k2,rfl⟩:=Xfh B;exact a1 k k1
 by_cases z:i-m>0
 ·rw[iP0 z];let h2:=Jh.ca (k:=m) h Q0 (λx hx y B=>by let⟨k,k1,k2,rfl⟩:=hx;calc Xjg (a:=b) hO sb Q0 hj (hO.as QWW) y B);by_cases q:m=0;·rw[iP0 QT];exact V1 ⟨hg,.inl ⟨_,rfl,h2.fin QWV⟩⟩
  ·rw[iN0 QT];exact Xwc hO hA ma mb sa sb hl hg hk h2 Q0 Q0 j1 hj Q0 rest
 rw[iN0 z];obtain rfl:m=i:=by omega
 calc Xwc hO hA ma mb sa sb hl hg hk h h0 hi j1 hj hN rest
def X3t{t:Nat}(hg:Glp st0 st)(L:Vax st0=κ)(h:JK R W a b N o i j):wpS Q6 A E s (Xzk a b t (yy,i,j,o,g,c,d)) (λz st'=>Glp st0 st'/\Xzm R W a b N z.1 z.2.2.2.1 z.2.1 z.2.2.1) st:=by
 unfold Xzk;calc Vbp (I:=λ_ z st'=>Glp st0 st'/\z.1=yy/\JK R W a b N z.2.2.2.1 z.2.1 z.2.2.1) ?_ QzA QeC;rintro _ z st' _ _ ⟨h1,h2,h3⟩;split;·exact Vdj QnC λr B q=>?_;cases r<;>exact q
 ·calc Vdj QnC λr B q=>?_;cases r<;>calc q
universe e
section
variable{prog:V0}{w:V9}{A:Uu}{E:VP}{s:Vc}{κ:Vdy}{R:Vl->Vl->Bool}{mem:Vl->Prop}{W:List Vl}{a b o:Array Vl}{i j N g c d:Nat}{st st0:Ua}
variable(hO:Ord R)(hA:Xgb prog w A E s κ R mem)(ma:∀x∈a.toList,mem x)(mb:∀x∈b.toList,mem x)(sa:a.toList.Pairwise QJ2)(sb:b.toList.Pairwise QJ2)(hl:∀x∈a.toList,LeK R Q8L x)
include hl hO hA ma mb sa sb
def X3u{t:Nat}(hg:Glp st0 st)(hk:Vax st0=κ)(ht:0<t)(h:JK R W a b N o i j):wpS Q6 A E s (Xzl a b t g (yy,i,j,o,0,0)) (λz st'=>Glp st0 st'/\Xzm R W a b (N+1) z.1 z.2.2.2.1 z.2.1 z.2.2.1) st:=by
 unfold Xzl;calc Vbp (I:=λx z st'=>Glp st0 st'/\z.1=yy/\JK R W a b QYY z.2.2.2.1 z.2.1 z.2.2.1) ?_ Qf3 ⟨hg,rfl,(by simpa using h:JK R W a b QZY o i j)⟩;rintro x ⟨z0,i,j,o,c,d⟩ st' _ _ ⟨hg,h2,h3⟩;let⟨h,L,hi,j1,hj,hN⟩:=h3;dsimp at h L hi j1 hj hN |-;unfold X7v;calc Vv QZQ;calc Vv (hA _ _ _ _ QBZ QoI Qp2 ?_);cases e:R Qk7 QF5 with
 |true=>
  dsimp;rw[iP0 rfl];calc Vv QS2;let h':=h.pa L hi (Xjg (a:=b) hO sb Q0 hj QdR);by_cases q:i-1=0;·rw[iP0 QT];exact V1 Q3B
  ·rw[iN0 QT];let B:∀m,m<=N+1->JK R W a b m Q2L QkG j:=λm hm=>Q4B;split;·exact V1 QyF
   ·exact V1 QtO|false=>
  dsimp;rw[iN0 Q1];calc Vv QS2;let h':=h.pb Q0 hj (Xjg hO sa L hi e);by_cases q:j-1=1;·rw[iP0 QT];exact V1 Qv2
  ·rw[iN0 QT];let B:∀m,m<=N+1->JK R W a b m QCW i QPD:=λm hm=>⟨h',L,hi,by omega,by omega,by omega⟩;split;·exact V1 QyF
   ·calc V1 QtO
def X3v{t:Nat}(hg:Glp st0 st)(hk:Vax st0=κ)(ht:a.size+b.size<=t)(h:JK R W a b 0 o i j):wpS Q6 A E s (Xtj a b t (yy,i,j,o,g)) Qw6 st:=by
 unfold Xtj;calc Vbp (I:=λx z st'=>Glp st0 st'/\z.1=yy/\JK R W a b x z.2.2.2.1 z.2.1 z.2.2.1) ?_ (λz st' Qd2=>by let:=h3.2.1;let:=h3.2.2.2.1;let:=h3.2.2.2.2.2;omega) QeC;rintro x ⟨z0,i,j,o,g⟩ st' _ _ ⟨hg,h2,h3⟩;let hp:0<t:=by let h5:=h3.2.1;let h6:=h3.2.2.1;dsimp at h5 h6;omega
 calc Vv (Vdj (X3u hO hA ma mb sa sb hl hg hk hp h3) λy ab q=>?_);let⟨L,q⟩:=q;let⟨y0,y1,y2,y3,y4,y5⟩:=y;rcases q with⟨r,e,hr⟩|⟨e,h4⟩;·subst e;exact V1 QqS
 ·subst e;calc Vv Qr1;calc Vv (Vdj (X3t hO hA ma mb sa sb hl L hk h4) λz ae q=>?_);let⟨B,q⟩:=q;let⟨z0,z1,z2,z3,z4,z5,z6⟩:=z;rcases q with⟨r,e,hr⟩|⟨e,h5⟩;·subst e;exact V1 QrS
  ·subst e;calc Vv QoA
def X7x{Q:Array Vl->Ua->Prop}(hk:Vax st=κ)(ha:0<a.size)(hb:0<b.size)(hz:LeK R (kat b (b.size-1)) (kat a Qx7))(hW:W=a.toList++b.toList)
  (hQ:∀r B,Glp st B->Srt QJ2 W r.toList->Q r B):wpS Q6 A E s (Xfg a b) Q st:=by
 rw[X7w];calc Vv Qr1;calc Vv QS2;let j0:Jh R W a b #[] a.size b.size:=by
  calc⟨?_,.nil,λx q=>QLZ,?_,?_⟩;·rw[hW,Vbk QB,Vbk QB];exact Q2f.append Q2f
  ·rw[Vbk QB];exact Vhz.mpr sa
  rw[Vbk QB];exact Vhz.mpr sb
 let j1:Jh R W a b #[kat a Qx7] Qx7 b.size:=j0.pa ha Qw (Xjg (a:=b) hO sb hb Qw hz);by_cases q:a.size-1=0;·rw[iP0 QT];exact V1 (hQ _ _ .refl (j1.fin QWV))
 ·rw[iN0 QT];by_cases L:b.size=1;·rw[iP0 QE2];exact V1 Q8G
  ·rw[iN0 QE2];calc Vv Qv5;calc Vv (Vdj (X3v hO hA ma mb sa sb hl .refl hk Qw ⟨j1,by omega,by omega,by omega,by omega,by omega⟩) λz B q=>?_);let⟨hg,r,e,hr⟩:=q;let⟨z0,z1⟩:=z;subst e;calc V1 Q4T
universe e
abbrev X7y(p:Nat)(r:Array Vl):StateT Ua Sem Bool:=do
 modify λs=>setArr s (r.toList.zipIdx.foldl (λa (z,j)=>a.setIfInBounds QSR z) QZD)
 let s <- get
 pure Q6f.isNone
abbrev Xzn(s:Ua)(p n q m:Nat):StateT Ua Sem Bool:=do
 let x <- Vd4 QZD q
 let r <- Xay yw x QZD p n 0
 match r with
 |some k=>
  if (n-k==0)=yx then pure yx else do
   let x <- Vd4 QZD (p+k+(n-k)-1)
   let r <- Xay yx x QZD q m QWa
   match r with
   |some m=>if (m==0)=yx then pure yx else if n-k<=m then Xfe QcL QbL >>= X7y QRR else Xfg QcL QbL >>= X7y QRR|_=>pure yw
 |_=>pure yw
def X7z(i p n v q m v':Nat)(s:Ua)(e1:QbD[i]?=yz QRa)(e2:QbD[i+1]?=yz Qff):Q4L.run s=(do
  set Q85
  Xzn s p n q m:StateT Ua Sem Bool).run s:=by
 let h:mergeAt' i=(get >>= λs=>match QbD[i]?,QbD[i+1]? with
  |some QRa,yz (q,m,_)=>(do
   set Q85
   Xzn s p n q m:StateT Ua Sem Bool)
  |_,_=>liftM (Vd2 "internal:list.sort.pending" : Sem Bool)):=by
  calc bind_congr λs=>?_;cases QbD[i]? with
  |none=>rfl|some x=>
   let⟨p,n,v⟩:=x;cases QbD[i+1]? with
   |none=>rfl|some y=>
    let⟨q,m,v'⟩:=y;calc bind_congr λ_=>Xq rfl λx=>Xq rfl λr=>?_;cases r with
    |none=>rfl|some k=>
     calc ite_congr rfl QQ2 λ_=>Xq rfl λx=>Xq rfl λr=>?_;cases r with
     |none=>rfl|some m=>exact ite_congr rfl QQ2 λ_=>ite_congr rfl QQ2 λ_=>rfl
 rw[h,StateT.run_bind,StateT.run_get,pure_bind];simp[e1,e2]
def Xod(q:Nat):∀(l:List Vl) (k:Nat) (a:Array Vl),q+k+lg l<=a.size->((l.zipIdx k).foldl (λa p=>a.setIfInBounds (q+p.2) p.1) a).toList=a.toList.take Q3e++l++a.toList.drop (q+k+lg l)
 |[]=>λk a h=>by simp!|x::l=>λk a h=>by
  rw[U4]at h;rw[List.zipIdx_cons,Vcy,Xod q l QG5 _ (by rw[Vjk];omega),Vf6];let hl:q+k<lg a.toList:=by rw[Vz];omega
  let e1:(a.toList.set Q3e x).take (q+QG5)=a.toList.take Q3e++[x]:=by rw[show q+QG5=q+k+1 by omega,Vhu (by rw[Vdf];calc hl),List.getElem_set_self,List.take_set_of_le Qw]
  rw[e1,List.drop_set_of_lt Q0,U4,show q+QG5+lg l=q+k+(lg l+1) by omega];simp!
section
variable{le:α->α->Prop}{U V Z':List α}{k m:Nat}
def Ydz(hU:U.Pairwise le)(hV:V.Pairwise le)(h1:∀x∈U.take k,∀y∈V,le x y)(h2:∀x∈U,∀y∈V.drop m,le x y)(hZ:Srt le QOM Z'):Srt le (U++V) (U.take k++(Z'++V.drop m)):=by
 let⟨z1,z2⟩:=hZ;let aa:(U.take k++U.drop k).Pairwise le:=by rw[Uq];exact hU
 let ab:(V.take m++V.drop m).Pairwise le:=by rw[Uq];exact hV
 let⟨u1,u2,u3⟩:=Vao.mp aa;let⟨v1,v2,v3⟩:=Vao.mp ab;exact⟨?_,Vao.mpr ⟨u1,Vao.mpr ⟨z2,v2,λx B y L=>?_⟩,λx B y L=>?_⟩⟩
 ·let e:U++V=U.take k++(QOM++V.drop m):=by
   rw[Ub,Uq,<-Ub,Uq]
  rw[e];exact(z1.append_right _).append_left _
 ·rcases Uo.mp (z1.mem_iff.mp B) with q|q;·exact h2 x Q4f y L
  ·exact v3 x q y L
 rcases Uo.mp L with q|q
 ·rcases Uo.mp (z1.mem_iff.mp q) with q|q;·exact u3 x B y q
  ·exact h1 x B y (Veo q)
 calc h1 x B y Q4f
universe e
theorem KeepK(a a':Array Vl)(p q:Nat):Prop:=a'.Perm a/\∀k,k<p\/q<=k->kat a' k=kat a k
theorem SegS(R:Vl->Vl->Bool)(a:Array Vl)(p n:Nat):Prop:=∀i j,i<j->j<n->LeK R QbX QaX
def Xc9{a:Array Vl}{q n:Nat}(h:q+n<=a.size):(QSP.take n).length=n:=by rw[Vag,Vc6,Vz];omega
def Xwe{R:Vl->Vl->Bool}{a:Array Vl}{p n:Nat}(h:SegS R a p n)(x y:Nat)(h1:p<=x)(h2:x<y)(B:y<p+n):LeK R (kat a x) (kat a y):=by let⟨x,rfl⟩:=Vdq h1;let⟨y,rfl⟩:=Vdq (V2 h1 (Vc2 h2));calc h x y (Vgg h2) (Vgg B)
def Xei{a:Array Vl}{q n:Nat}{z:Vl}(h:z∈QSP.take n):∃x,x<n/\q+x<a.size/\z=kat a (q+x):=by let⟨j,j1,L,B,rfl⟩:=Xc8 h;let⟨x,rfl⟩:=Vdq j1;calc⟨x,Vgg L,B,rfl⟩
def Ord.rf{R:Vl->Vl->Bool}(h:Ord R)(x:Vl):LeK R x x:=by
 cases e:R x x with
 |false=>calc e|true=>let:=h.as e;rw[e]at this;cases this
def KeepK.size{a a':Array Vl}{p q:Nat}(h:KeepK a a' p q):a'.size=a.size:=h.1.size_eq
def KeepK.rf{a:Array Vl}{p q:Nat}:KeepK a a p q:=⟨.refl _,λ_ _=>rfl⟩
def KeepK.trans{a b c:Array Vl}{p q:Nat}(h:KeepK a b p q)(h':KeepK b c p q):KeepK a c p q:=⟨h'.1.trans h.1,λk B=>(h'.2 k B).trans (h.2 k B)⟩
def KeepK.seg{R:Vl->Vl->Bool}{a b:Array Vl}{p q i n:Nat}(h:KeepK a b p q)(B:i+n<=p\/q<=i)(hs:SegS R a i n):SegS R b i n:=λx y h1 h2=>by rw[h.2 (i+x) Q0,h.2 (i+y) Q0];calc hs x y h1 h2
def KeepK.mem{mem:Vl->Prop}{a b:Array Vl}{p q:Nat}(h:KeepK a b p q)(B:∀x∈a.toList,mem x):∀x∈b.toList,mem x:=λx L=>B x ((Vee.mp h.1).mem_iff.mp L)
def Xij{a:Array Vl}{i:Nat}:kat a i=a.toList.getD i QmY:=by unfold kat;rw[Vfv,Vbd,Ud]
def Xoe{R:Vl->Vl->Bool}{a:Array Vl}{A U B:List Vl}(e:a.toList=A++(U++B)):SegS R a A.length U.length ↔ U.Pairwise QJ2:=by
 let hk:∀i (h:i<lg U),kat a (lg A+i)=U[i]:=λi h=>by rw[Xij,e,Vbd,U7 Q0,show (lg A)+i-lg A=i by omega,Vx h,Uw h];rfl
 rw[Vgf];calc⟨λh i j hi hj L=>?_,λh i j L hj=>?_⟩;·let:=h i j L hj;rw[hk i hi,hk j hj]at this;exact this
 ·rw[hk i Q0,hk j hj];calc h i j Q0 hj L
def Yd0(a:Array Vl)(p n:Nat):a.toList=a.toList.take p++(QTP.take n++a.toList.drop QsB):=by rw[<-Vda,Uq,Uq]
def Xej{R:Vl->Vl->Bool}{a:Array Vl}{p n:Nat}(h:p+n<=a.size):SegS R a p n ↔ (QTP.take n).Pairwise QJ2:=by let:=Xoe (R:=R) (Yd0 a p n);rwa [Vag,Vag,Vc6,Vz,show min p a.size=p by lia,show min n (a.size-p)=n by lia]at this
section
variable{prog:V0}{w:V9}{A:Uu}{E:VP}{s:Vc}{κ:Vdy}{R:Vl->Vl->Bool}{mem:Vl->Prop}{st:Ua}
variable(hO:Ord R)(hA:Xgb prog w A E s κ R mem)
include hO hA
def X70{β:Type}{f:Array Vl->StateT Ua Sem β}{x y:Array Vl}{n m:Nat}{W:List Vl}{Q:β->Ua->Prop}(hk:Vax st=κ)(mx:∀z∈x.toList,mem z)(my:∀z∈y.toList,mem z)(sx:x.toList.Pairwise QJ2)(sy:y.toList.Pairwise QJ2)(L:0<x.size)(y0:0<y.size)
  (h1:∀z∈x.toList,LeK R (kat y 0) z) (h2:∀z∈y.toList,LeK R z (kat x (x.size-1))) (hW:W=x.toList++y.toList) (hQ:∀r B,Glp st B->Srt QJ2 W r.toList->wpS Q6 A E s (f r) Q B):
  wpS Q6 A E s (if n<=m then Xfe x y >>= f else Xfg x y >>= f) Q st:=by
 split;·calc Vv (X7t hO hA mx my sx sy (λz hz u hu=>?_) hk L y0 (h1 _ (X7 L)) hW hQ);let⟨k,k1,k2,rfl⟩:=Xdj hu;rw[show k=x.size-1 by omega];exact h2 z hz
 ·calc Vv (X7x hO hA mx my sx sy h1 hk L y0 (h2 _ QF8) hW hQ)
def X71{i p n v q m v':Nat}{Q:Bool->Ua->Prop}(hk:Vax st=κ)(hf:Vc7 st=yy)(ma:∀x∈QM.toList,mem x)(e1:QMB[i]?=yz QRa)(e2:QMB[i+1]?=yz Qff)
  (hq:q=p+n) (hn:0<n) (hm:0<m) (hz:q+m<=QM.size) (s1:SegS R QM p n) (s2:SegS R QM q m)
  (hQ:∀aa,Vax aa=κ->Vc7 aa=yy->Up aa=QaE.eraseIdxIfInBounds QC2->KeepK QM Q0f p (q+m)->SegS R Q0f p (n+m)->Q yx aa):
  wpS Q6 A E s Q4L Q st:=by
 subst hq;unfold wpS;rw[X7z i p n v QsB m v' st e1 e2];show wpS Q6 A E s (_:StateT Ua Sem Bool) Q st;calc Vv (Vg0 (f:=λ_=>setPending st (QaE.eraseIdxIfInBounds QC2)) ?_);unfold Xzn;calc Vv QS2;let ac:∀x y,p<=x->x<y->y<p+n->LeK R QGZ QFZ:=Xwe s1;let ab:∀x y,p+n<=x->x<y->y<p+n+m->LeK R QGZ QFZ:=Xwe s2;calc Vv (Xtg hO hA hk QoI Q0 ma ac hn λk ae a1 a2=>?_);dsimp;let fin:(∀x,x<n->LeK R QJW (kat QM QsB))->SegS R QM p (n+m):=λh x y h1 h2=>by
  by_cases c1:y<n;·exact s1 x y h1 c1
  ·by_cases c2:n<=x;·let:=ab QAP (p+y) Q0 Q0 Q0;exact this
   ·let g1:=h x Q0;by_cases c3:y=n;·subst c3;exact g1
    ·exact hO.tr g1 (ab QsB (p+y) Q0 Q0 Q0)
 let⟨d,rfl⟩:=Vdq ae;rw[Ve1];by_cases c:d=0;·rw[iP0 QT6];exact V1 (hQ _ hk hf rfl .rf (fin λx hx=>a1 x Q0))
 ·rw[iN0 QT6];obtain⟨d,rfl⟩:∃e,d=e+1:=⟨d-1,by omega⟩;clear c;rw[show p+k+QXF-1=p+k+d from rfl];calc Vv QS2;calc Vv (Xth hO hA hk QoI Q0 ma ab Q0 λB ah b1 b2=>?_);dsimp;let⟨e,rfl⟩:=Vdq ah;let L:∀x,x<Q70->LeK R QJW (kat QM (p+k+d)):=λx hx=>by
   by_cases dd:x=k+d;·subst dd;rw[<-Vhm];exact hO.rf _
   ·exact ac _ _ Q0 Q0 Q0
  by_cases c':B=0;·rw[iP0 QKP];exact V1 (hQ _ hk hf rfl .rf (fin λx hx=>hO.tr (L x hx) (b2 0 Q0 hm)))
  ·rw[iN0 QKP];let ex:QQ5.toList=QZ8.take QVY:=by
    let:=Xhb QM QRR QVY;rwa [show p+k+QVY=p+Q70 by omega]at this
   let ey:=Xhb QM Q8e B;let zx:QQ5.size=QXF:=by rw[<-Vz,ex,Xc9 Q0]
   let zy:Q77.size=B:=by rw[<-Vz,ey,Xc9 Q0]
   let kx:∀x,x<QXF->kat QQ5 x=kat QM (p+k+x):=λx hx=>by rw[Xbx (by rw[zx];calc hx),Xbx Q0,Array.getElem_extract]
   let ky:∀x,x<B->kat Q77 x=kat QM QSa:=λx hx=>by rw[Xbx (by rw[zy];calc hx),Xbx Q0,Array.getElem_extract]
   let af:∀z∈QQ5.toList,∃x,k<=x/\x<Q70/\z=kat QM QAP:=λz hz=>by rw[ex]at hz;let⟨x,j2,_,rfl⟩:=Xei hz;exact⟨k+x,Vf3 ..,Nat.add_lt_add_left j2 k,by rw[Vhm]⟩
   let ag:∀z∈Q77.toList,∃x,x<B/\z=kat QM QSa:=λz hz=>by rw[ey]at hz;let⟨x,j2,_,e⟩:=Xei hz;exact⟨x,j2,e⟩
   exact X70 hO hA (W:=QZ8.take QVY++Qu0.take B) hk QlE QlE ?_ ?_ (by rw[zx];omega) (by rw[zy];omega) QlE QlE (by rw[ex,ey]) λr aj hg hr=>?_;·let⟨x,x1,x2,rfl⟩:=af z hz;exact ma _ QF8
   ·let⟨x,x1,rfl⟩:=ag z hz;exact ma _ QF8
   ·rw[ex,<-Xej Q0];exact λx y h1 h2=>ac _ _ Q0 Q0 Q0
   ·rw[ey,<-Xej Q0];exact λx y h1 h2=>ab _ _ Q0 Q0 Q0
   ·let⟨x,x1,x2,rfl⟩:=af z hz;rw[ky 0 Q0];exact hO.as (a2 x x1 x2)
   ·let⟨x,x1,rfl⟩:=ag z hz;rw[zx,kx _ Q0,show p+k+(QXF-1)=p+k+d from rfl];exact hO.as (b1 x x1)
   -- what is laid back
   let⟨g,rfl⟩:=hg;calc Vv (Vg0 (Vv Qv5));let ai:Q6V.isNone=true:=by rw[hf];rfl
   calc V1 (show Q Q6V.isNone _ from ?_);rw[ai];let lr:(lg r.toList)=QXF+B:=by rw[hr.1.length_eq,Uc,Xc9 Q0,Xc9 Q0]
   let lay:=Xod QRR r.toList 0 QM (by rw[lr];omega);let hU:=(Xej (R:=R) (a:=Vt st) (p:=p) (n:=Q70) Q0).mp s1;let hV:=(Xej (R:=R) (a:=Vt st) (p:=p+Q70) (n:=QiY) Q0).mp s2;let eU:QZ8.take QVY=QHC.drop k:=by rw[Viu,Vda,Ve1]
   let eV:Qu0.take B=QYA.take B:=by rw[Vit,Vc0 ah]
   let gl:=Ydz (k:=k) (m:=B) hU hV Q0P Q0P (Z':=r.toList) (by rw[<-eU,<-eV];calc hr)
   ·let eA:Qp0.toList=(Vt st).toList.take p++(QHC.take k++QSK++(Vt st).toList.drop QbJ):=by
     rw[lay,lr,Ub];let t1:(Vt st).toList.take (p+k+0)=(Vt st).toList.take p++QHC.take k:=by rw[Nat.add_zero,Vit,Vc0 ae,List.take_add]
     let t2:(Vt st).toList.drop (p+k+0+QEf)=QYA.drop B++(Vt st).toList.drop QbJ:=by rw[Viu,Vda,show p+k+0+QEf=p+Q70+B by omega,Ve1];let:=(Uq e ((Vt st).toList.drop (p+Q70+B))).symm;rwa [Vda,Vhm Q8e B e]at this
     rw[t1,t2];simp[Ub]
    let eB:QM.toList=(Vt st).toList.take p++(Q3F++(Vt st).toList.drop QbJ):=by rw[Ub,<-Vda (i:=QiY),Uq,<-Vda,Uq,Uq]
    let lU:(QHC.take k++QSK).length=Q70+QiY:=by rw[gl.1.length_eq,Uc,Xc9 Q0,Xc9 Q0]
    let lA:((Vt st).toList.take p).length=p:=by rw[Vag,Vz];omega
    calc hQ _ hk hf rfl ⟨?_,λj hj=>?_⟩ ?_;·show Array.Perm Qp0 _;rw[Vee,eA];exact(((gl.1.append_right _).append_left _).trans (by rw[<-eB]))
    ·show kat Qp0 j=_;rw[Xij,Xij,eA];let lW:Q3F.length=Q70+QiY:=by rw[<-gl.1.length_eq,lU]
     rw[Vbd,Vbd]
     conv=>rhs;rw[eB]
     rcases hj with hj|hj;·rw[Vx Q0,Vx Q0]
     ·rw[U7 Q0,U7 Q0,U7 Q0,U7 Q0,lU,lW]
    show SegS R Qp0 p (Q70+QiY);let:=(Xoe (R:=R) eA).mpr gl.2;rwa [lA,lU]at this
   ·rw[Vit,Vc0 ae]at hx;let⟨j,j2,_,rfl⟩:=Xei hx;let⟨l,l2,_,rfl⟩:=Xei hy;let g:=a1 j j2;by_cases dd:l=0;·subst dd;exact g
    ·exact hO.tr g (ab _ _ Qw Q0 Q0)
   rw[Viu,Vda]at hy;let⟨j,j2,_,rfl⟩:=Xei hx;let⟨l,l2,_,rfl⟩:=Xei hy;rw[Ve1]at l2;let g:=b2 (B+l) Q4d (Nat.add_lt_add_left l2 _);rw[<-Vhm]at g;calc hO.tr (L j j2) g
universe e
abbrev upL(q a n:Nat):StateT Ua Sem (Option Q91×Nat):=forIn [a:n] (yy,a) λ_ z=>do
 let x <- ltAt' Q2e QPa
 match x with
 |some y=>if y=yx then pure QR4 else pure (.yield (yy,z.2+1))|_=>pure QU8
abbrev upE(q m n:Nat):StateT Ua Sem Q91:=do
 Vhn q (q+m)
 let z <- upL q m n
 match z.1 with
 |some r=>pure r|none=>pure Q8U
abbrev dnL(q a n:Nat):StateT Ua Sem (Option Q91×Nat×Nat):=forIn [a:n] (yy,a,0) λ_ z=>do
 let x <- ltAt' Q0L QUX
 match x with
 |some y=>
  if y=yx then
   if z.2.2>0 then do
    Vhn Q0N Q0L
    pure Q2K
   else pure Q2K
  else do
   let x <- ltAt' QUX Q0L
   match x with
   |some y=>if y=yx then pure (.done (yy,z.2.1,z.2.2)) else pure (.yield (yy,z.2.1+1,z.2.2+1))|_=>pure QOH
 |_=>pure QOH
abbrev dnE(q m n:Nat):StateT Ua Sem Q91:=do
 liftM (rule "list.sort.descending-run")
 let z <- dnL q QCB n
 match z.1 with
 |some r=>pure r|none=>
  if z.2.2>0 then do
   Vhn Q0N Q0L
   upE q z.2.1 n
  else upE q z.2.1 n
def X72(q n:Nat):countRun' q n=(do
  let z <- upL q 1 n
  match z.1 with
  |some r=>pure r|none=>
   if (z.2==n)=yx then pure Q8U
   else if z.2>1 then do
    let x <- ltAt' q QPa
    match x with
    |some y=>if y=yx then pure Q8U else do
      Vhn q Q2e
      dnE q z.2 n|_=>pure yy
   else dnE q z.2 n):=by
 calc Xq rfl λz=>?_;let⟨B,z2⟩:=z;cases B with
 |some r=>rfl|none=>
  exact ite_congr rfl QQ2 λ_=>ite_congr rfl (λ_=>Xq rfl λx=>?_) λ_=>?_
  ·cases x with
   |none=>rfl|some y=>
    calc ite_congr rfl QQ2 λ_=>bind_congr λ_=>?_;calc bind_congr λ_=>Xq rfl λc=>?_;let⟨L,c2,c3⟩:=c;cases L with
    |some r=>rfl|none=>
     exact ite_congr rfl Qi7 λ_=>bind_congr λ_=>Xq rfl λz=>?_
     all_goals (let⟨B,z2⟩:=z;cases B<;>rfl)
  calc bind_congr λ_=>Xq rfl λc=>?_;let⟨L,c2,c3⟩:=c;cases L with
  |some r=>rfl|none=>
   exact ite_congr rfl Qi7 λ_=>bind_congr λ_=>Xq rfl λz=>?_
   all_goals (let⟨B,z2⟩:=z;cases B<;>rfl)
def Xwf(p:Nat){k i:Nat}(h:i<k):p+QDe=p+QRR-1-QLU:=by omega
def Xhd{xs:Array Vl}{i j:Nat}(B:j<=xs.size)(k:Nat):kat (mirror xs i j ((j-i)/2)) k=if i<=k/\k<j then kat xs (i+j-1-k) else kat xs k:=by simp[kat,Vfv,getElem?_mirror_all B];split<;>rfl
def Xki{xs:Array Vl}{a d:Nat}(h:a<xs.size)(hd:d<=a)(k:Nat):kat (bubble xs a d) k=if k=a-d then kat xs a else if a-d<k/\k<=a then kat xs (k-1) else kat xs k:=by
 simp[kat,Vfv,getElem?_bubble h d hd];split;·rfl
 ·split<;>rfl
structure Bs(κ:Vdy)(P:Array QB3)(a:Array Vl)(p q:Nat)(st:Ua):Prop where
 kd:Vax st=κ
 fl:Vc7 st=yy
 pn:Up st=P
 kp:KeepK a QM p q
section
variable{κ:Vdy}{P:Array QB3}{a:Array Vl}{p q:Nat}{st:Ua}{R:Vl->Vl->Bool}
def Bs.sz(h:Bs κ P a p q st):QM.size=a.size:=h.kp.size
def Bs.rev{i j:Nat}(h:Bs κ P a p q st)(hi:p<=i)(hj:j<=q)(B:q<=a.size):Bs κ P a p q QLR:=
 ⟨h.kd,h.fl,h.pn,h.kp.trans ⟨mirror_perm _ _ _ _,λk L=>by show kat QD9 k=_;rw[Xhd QNP,iN0 Q0]⟩⟩
def Bs.bub{i j:Nat}(h:Bs κ P a p q st)(hi:p<=j)(B:j<=i)(hj:i<q)(L:q<=a.size):Bs κ P a p q (setArr st QKN):=
 ⟨h.kd,h.fl,h.pn,h.kp.trans ⟨bubble_perm _ _ _,λk hk=>by show kat QKN k=_;rw[Xki QNP Q0,iN0 Q0,iN0 Q0]⟩⟩
theorem DecS(R:Vl->Vl->Bool)(a:Array Vl)(p n:Nat):Prop:=∀i j,i<j->j<n->LeK R QaX QbX
theorem Xof(R:Vl->Vl->Bool)(a:Array Vl)(p q:Nat):Prop:=∀i j,p<=i->i<q->p<=j->j<q->LeK R QZ5 Qba
def SegS.more(hO:Ord R){x:Nat}(h:SegS R a p x)(h1:1<=x)(hl:LeK R QZR QcX):SegS R a p (x+1):=λi j B L=>by
 by_cases c:j<x;·exact h i j B c
 ·obtain rfl:j=x:=by omega
  obtain⟨j,rfl⟩:∃k,j=k+1:=QCQ;by_cases d:i=j;·subst d;exact hl
  ·let:=h i j Q0 Q6S;calc hO.tr this hl
def DecS.more(hO:Ord R){x:Nat}(h:DecS R a p x)(h1:1<=x)(hl:LeK R QcX QZR):DecS R a p (x+1):=λi j B L=>by
 by_cases c:j<x;·exact h i j B c
 ·obtain rfl:j=x:=by omega
  obtain⟨j,rfl⟩:∃k,j=k+1:=QCQ;by_cases d:i=j;·subst d;exact hl
  ·let:=h i j Q0 Q6S;calc hO.tr hl this
def Xkj(hO:Ord R){i j:Nat}(L:j<=a.size)(B:Xof R a i j)(k:Nat):LeK R QtD Q9L/\LeK R Q9L QtD:=by
 rw[Xhd L];split;·exact⟨B _ _ Q0 Q0 Q0 Q0,B _ _ Q0 Q0 Q0 Q0⟩
 ·calc⟨hO.rf _,hO.rf _⟩
def DecS.eqv(hO:Ord R){b:Array Vl}{n:Nat}(h:DecS R a p n)(L:∀k,LeK R Qaa Q9L/\LeK R Q9L Qaa):DecS R b p n:=λi j B hj=>hO.tr (QbY.1) (hO.tr (h i j B hj) QbY.2)
universe e
section
variable{prog:V0}{w:V9}{A:Uu}{E:VP}{s:Vc}{κ:Vdy}{R:Vl->Vl->Bool}{mem:Vl->Prop}{st:Ua}{P:Array QB3}{a₀:Array Vl}{p n:Nat}
def Xjh{i j:Nat}{Q:Unit->Ua->Prop}(h:Q () QLR):wpS Q6 A E s (Vhn i j) Q st:=by rw[reverseSlice'_eq];calc Vg0 h
variable(hO:Ord R)(hA:Xgb prog w A E s κ R mem)(ma:∀x∈a₀.toList,mem x)(hz:p+n<=a₀.size)
include hA ma
def Xgd{i j lo hi:Nat}{Q:Option Bool->Ua->Prop}(hB:Bs κ P a₀ lo hi st)(h1:i<a₀.size)(h2:j<a₀.size)(h:Q (yz (R (kat QM i) (kat QM j))) st):wpS Q6 A E s (ltAt' i j) Q st:=by rw[ltAt'_eq];calc Vv Qv5;let z:=hB.sz;calc Vv QZQ;calc hA _ _ _ _ QEM QEM hB.kd h
include hO hz
def Xwg{k:Nat}{Q:Option Q91×Nat->Ua->Prop}(h1:1<=k)(L:k<=n)(hB:Bs κ P a₀ p QsB st)(hs:SegS R QM p k)
  (h:∀m,k<=m->m<=n->SegS R QM p m->(m=n\/R (kat QM Q7e) QRQ=yx)->Q (yy,m) st):wpS Q6 A E s (upL p k n) Q st:=by
 unfold upL;exact Vbp (I:=λx c B=>B=st/\c=(yy,x)/\SegS R QM p x) ?step ?fin ⟨rfl,rfl,hs⟩
 case fin=>rintro c B ⟨rfl,rfl,g⟩;rw[Nat.max_eq_right L]at g |-;exact h n L Qw g Qd0
 case step=>
  rintro x c B hx hxn ⟨rfl,rfl,g⟩;calc Vv QmJ;cases e:R QiG QJE with
  |true=>calc V1 (h x hx Q0 g (.inr e))|false=>calc V1 ⟨rfl,rfl,g.more hO Q0 e⟩
def Xwh{k:Nat}{Q:Option Nat->Ua->Prop}(h1:1<=k)(hk:k<=n)(hB:Bs κ P a₀ p QsB st)(hs:DecS R QM p k)
  (h:∀m B,Bs κ P a₀ p QsB B->1<=m->m<=n->SegS R Qm3 p m->Q QyN B):wpS Q6 A E s (upE p k n) Q st:=by
 unfold upE;calc Vv (Xjh ?_);let L:=hB.rev (i:=p) (j:=p+k) Qw Q0 hz;calc Vv (Xwg hO hA ma hz h1 hk L (λi j aa hj=>?_) λm m1 m2 m3 _=>V1 (h m _ L Q0 m2 m3));show LeK R (kat QGE QLU) (kat QGE QSR);rw[Xhd QUC,Xhd QUC,iP0 Q0,iP0 Q0];let:=hs (k-1-j) QDe Q0 Q0;rwa [Xwf p (Vex aa hj),Xwf p hj]at this
def X73{k:Nat}{Q:Option Q91×Nat×Nat->Ua->Prop}(h1:1<=k)(hk:k<=n)(hB:Bs κ P a₀ p QsB st)(hs:DecS R QM p k)
  (h:∀m e B,Bs κ P a₀ p QsB B->k<=m->m<=n->DecS R Qm3 p m->e+1<=m->Xof R Qm3 (p+m-(e+1)) Q7e->Q (yy,m,e) B):wpS Q6 A E s (dnL p k n) Q st:=by
 unfold dnL;let one:∀(b:Array Vl) x,Xof R b (p+x-(0+1)) QAP:=λb x i j _ _ _ _=>by rw[show i=j by omega];exact hO.rf _
 exact Vbp (I:=λx c B=>∃e,c=(yy,x,e)/\Bs κ P a₀ p QsB B/\DecS R Qm3 p x/\e+1<=x/\Xof R Qm3 (p+x-(e+1)) QAP) ?step ?fin ⟨0,rfl,hB,hs,by omega,one _ _⟩
 case fin=>rintro c B ⟨e,rfl,g1,g2,g3,g4⟩;rw[Nat.max_eq_right hk]at g2 g3 g4 |-;exact h n e B g1 hk Qw g2 g3 g4
 case step=>
  rintro x c B hx hxn ⟨e,rfl,g1,g2,g3,g4⟩;dsimp;calc Vv QIA;dsimp;cases u:R QiG QJE with
  |true=>
   rw[iP0 rfl];let d:=g2.more hO Q0 (hO.as u);split;·calc Vv (Xjh (V1 ⟨0,rfl,g1.rev Q0 Q0 hz,?_,by omega,one _ _⟩));exact d.eqv hO (Xkj hO QGO g4)
   ·exact V1 ⟨0,rfl,g1,d,by omega,one _ _⟩|false=>
   rw[iN0 Q1];calc Vv QIA;dsimp;cases v:R QJE QiG with
   |true=>exact V1 (h x e B g1 hx Q0 g2 g3 g4)|false=>
    calc V1 ⟨e+1,rfl,g1,g2.more hO Q0 v,by omega,λi j i1 i2 j1 j2=>?_⟩;by_cases ci:i=p+x
    ·by_cases L:j=p+x;·rw[ci,L];exact hO.rf _
     ·rw[ci];exact hO.tr v (g4 _ j Q0 Q0 Q0 Q0)
    by_cases L:j=p+x;·rw[L];exact hO.tr (g4 i (p+x-1) Q0 Q0 Q0 Q0) u
    ·calc g4 i j Q0 Q0 Q0 Q0
def Xwi{k:Nat}{Q:Option Nat->Ua->Prop}(hk:k+1<=n)(hB:Bs κ P a₀ p QsB st)(hs:DecS R QM p QG5)
  (h:∀m B,Bs κ P a₀ p QsB B->1<=m->m<=n->SegS R Qm3 p m->Q QyN B):wpS Q6 A E s (dnE p k n) Q st:=by
 unfold dnE;calc Vv Qr1;calc Vv (X73 hO hA ma hz Q0 hk hB hs λm e B g1 g2 g3 L g5 g6=>?_);dsimp;split;·exact Vv (Xjh (Xwh hO hA ma hz Q0 g3 (g1.rev Q0 Q0 hz) (L.eqv hO (Xkj hO QGO g6)) h))
 ·calc Xwh hO hA ma hz Q0 g3 g1 L h
def X74{Q:Option Nat->Ua->Prop}(h1:1<=n)(hB:Bs κ P a₀ p QsB st)
  (h:∀m B,Bs κ P a₀ p QsB B->1<=m->m<=n->SegS R Qm3 p m->Q QyN B):wpS Q6 A E s (countRun' p n) Q st:=by
 rw[X72];calc Vv (Xwg hO hA ma hz QJ8 h1 hB QoM λm m1 m2 L m4=>?_);dsimp;by_cases c:m=n;·rw[iP0 QT6];exact V1 Q8N
 ·rw[iN0 QT6];let lt:=m4.resolve_left c;by_cases d:m>1
  ·rw[iP0 d];calc Vv QmJ;dsimp;cases u:R (kat QM p) QRQ with
   |true=>exact V1 Q8N|false=>
    rw[iN0 Q1];let le:∀i j,i<=j->j<m->LeK R (kat QM QLU) (kat QM QSR):=λi j aa hj=>by
     by_cases c:i=j;·rw[c];exact hO.rf _
     ·exact L i j Q0 hj
    let all:Xof R QM p Q7e:=λi j i1 i2 j1 j2=>by let g1:=le (i-p) QWa Q0 Q0;let g2:=le 0 (j-p) Q0 Q0;rw[show p+(i-p)=i by omega,show p+QWa=p+m-1 by omega]at g1;rw[show p+(j-p)=j by omega,Nat.add_zero]at g2;exact hO.tr g1 (hO.tr u g2)
    let dc:DecS R QM p m:=λi j aa hj=>all _ _ Q0 Q0 Q0 Q0;calc Vv (Xjh (Xwi hO hA ma hz Q0 (hB.rev Qw Q0 hz) ?_ h));exact(dc.more hO Q0 QHZ).eqv hO (Xkj hO QUC all)
  rw[iN0 d];obtain rfl:m=1:=by omega
  calc Xwi hO hA ma hz Q0 hB (DecS.more hO QoM Qw QHZ) h
def X75{k:Nat}{Q:Bool->Ua->Prop}(hk:k<=n)(hB:Bs κ P a₀ p QsB st)(hs:SegS R QM p k)
  (h:∀B,Bs κ P a₀ p QsB B->SegS R Qm3 p n->Q yx B):wpS Q6 A E s (binarySort' p n k) Q st:=by
 rw[binarySort'_eq];exact Vv (Vdj (Vbp (I:=λk c B=>c=Qy6/\Bs κ P a₀ p QsB B/\SegS R Qm3 p (min k n))
  (Q:=λc B=>c=Qy6/\Bs κ P a₀ p QsB B/\SegS R Qm3 p n) ?step ?fin ?init) ?post)
 case post=>rintro c B ⟨rfl,g1,g2⟩;exact V1 (h B g1 g2)
 case init=>exact⟨rfl,hB,λi j aa hj=>hs i j aa Q0⟩
 case fin=>rintro c B ⟨g1,g2,g3⟩;rw[show min (max (max k 1) n) n=n by omega]at g3;exact⟨g1,g2,g3⟩
 case step=>
  rintro k c B h1 h2 ⟨rfl,g1,g2⟩;rw[show min k n=k by omega]at g2;let le:∀i j,i<=j->j<k->LeK R Q78 (kat Qm3 QSR):=λi j aa hj=>by
   by_cases c:i=j;·rw[c];exact hO.rf _
   ·exact g2 i j Q0 hj
  exact Vv (Vdj (Vbp (I:=λx c L=>L=B/\∃l r,c=QLQ/\l<=r/\r<=k/\r+x<=k+l /\
    Q6I/\∀i,r<=i->i<k->LeK R QEB Q78)
   (Q:=λc L=>L=B/\∃l r,c=QLQ/\l<=k/\Q6I/\∀i,l<=i->i<k->LeK R QEB Q78) ?sx ?fi ⟨rfl,0,k,rfl,by omega,by omega,by omega,λi hi=>by omega,λi _ _=>by omega⟩) ?po)
  case fi=>
   rintro c L ⟨rfl,l,r,rfl,a1,a2,a3,a4,a5⟩;obtain rfl:l=r:=by omega
   exact QhI
  case sx=>
   rintro x c L _ hx ⟨rfl,l,r,rfl,a1,a2,a3,a4,a5⟩;dsimp;by_cases d:l ≥ r
   ·rw[iP0 d];obtain rfl:l=r:=by omega
    exact V1 QhI
   rw[iN0 d];calc Vv QIA;dsimp;cases e:R (kat QwR QRR) (kat QwR (p+(l+r)/2)) with
   |true=>exact V1 ⟨rfl,l,_,rfl,by omega,by omega,by omega,a4,λi i1 i2=>hO.tr QdR (le _ _ i1 i2)⟩|false=>exact V1 ⟨rfl,_,r,rfl,by omega,a2,by omega,λi i1=>hO.tr (le _ _ Q0 Q0) e,a5⟩
  case po=>
   rintro c L ⟨rfl,l,r,rfl,a1,a2,a3⟩;show wpS _ _ _ _ (do moveDown' QRR (p+l);pure (Vd7 Qy6)) _ _;rw[moveDown'_eq];calc Vv (Vg0 (V1 ⟨rfl,g1.bub Q0 Q0 Q0 hz,?_⟩));rw[show min QG5 n=k+1 by omega];let zk:p+k<QwR.size:=by rw[g1.sz];omega
   intro i j aa hj;show LeK R (kat QYD QLU) (kat QYD QSR);let el:p+k-(p+k-(p+l))=p+l:=by omega
   rw[Xki zk Q0,Xki zk Q0,el];clear el zk;by_cases i1:i<l
   ·rw[iN0 Q0,iN0 Q0];by_cases j1:j<l;·rw[iN0 Q0,iN0 Q0];exact le _ _ Q0 Q0
    ·by_cases j2:j=l;·rw[iP0 Q0];exact a2 i i1
     ·rw[iN0 Q0,iP0 Q0,show p+j-1=p+QPD by omega];exact le _ _ Q0 Q0
   by_cases i2:i=l;·rw[iP0 Q0,iN0 Q0,iP0 Q0,show p+j-1=p+QPD by omega];exact a3 _ Q0 Q0
   ·rw[iN0 Q0,iP0 Q0,iN0 Q0,iP0 Q0,show p+j-1=p+QPD by omega,show p+i-1=p+QkG by omega];calc le _ _ Q0 Q0
universe e
private noncomputable abbrev Pn:=Array QB3
abbrev prL(t w:Nat):StateT Ua Sem QYN:=forIn [0:t] Qy6 λ_ _=>do
 let z <- get
 match (if Q7H.size>1 then Q7H[Q7H.size-2]? else yy) with
 |some (_,_,v)=>if v<=w then pure QiN else do
   let b <- mergeAt' (Q7H.size-2)
   if !b then pure QgO else pure QrW|_=>pure QiN
abbrev laL(q n:Nat):StateT Ua Sem QQS:=do
 modify λs=>setPending s (QbD.push (q,n,0))
 pure (.yield (yy,q+n))
abbrev bhL(t q n:Nat):StateT Ua Sem QQS:=do
 let z <- get
 match Q7H.back? with
 |some x=>do
  let y <- prL t (power' t QHV QhL t)
  match y.1 with
  |some r=>pure (.done (yz r,q))|none=>do
   modify λs=>setPending s (QbD.modify (QbD.size-1) λ(u,v,_)=>(u,v,power' t QHV QhL t))
   laL q n
 |_=>laL q n
abbrev rnL(t m:Nat):StateT Ua Sem QJ6:=forIn [0:t] (yy,0) λ_ z=>
 if z.2 ≥ t then pure QR4 else do
  let x <- countRun' z.2 (t-z.2)
  match x with
  |some k=>
   if k<m then do
    liftM (rule "list.sort.binary-insertion")
    let b <- binarySort' z.2 QUR k
    if !b then pure QjN else bhL t z.2 QUR
   else bhL t z.2 k|_=>pure QjN
abbrev laP(p:Pn):Nat:=if ((if p.size-2>0 then p[p.size-2-1]?.map QKX else yy).any (· < (p[p.size-2+1]?.elim 0 QKX)))=yx then p.size-2-1 else p.size-2
abbrev enL(t:Nat):StateT Ua Sem QYN:=forIn [0:t] Qy6 λ_ _=>do
 let z <- get
 if Q7H.size<=1 then pure QiN else do
  let b <- mergeAt' (laP Q7H)
  if !b then pure QgO else pure QrW
def X76:sortRuns'=(do
  let z <- get
  let x <- rnL QbW.size (minRun' QbW.size QbW.size 0)
  match x.1 with
  |some r=>pure r|none=>do
   let y <- enL QbW.size
   match y.1 with
   |some r=>pure r
   |none=>pure ()):=by
 rw[sortRuns'_eq];exact bind_congr λz=>Xq ?_ λx=>?_
 ·unfold rnL;calc congrArg Q9N ?_;funext _ y;calc ite_congr rfl QQ2 λ_=>?_;calc Xq rfl λx=>?_;cases x with
  |none=>rfl|some k=>
   exact ite_congr rfl (λ_=>bind_congr λ_=>Xq rfl λb=>?_) λ_=>?_
   ·calc ite_congr rfl QQ2 λ_=>?_;unfold bhL;calc Xq rfl λz=>?_;cases Q7H.back? with
    |none=>rfl|some x=>let⟨L,x2,x3⟩:=x;exact Xq rfl λy=>?_;let⟨B,y2⟩:=y;cases B<;>rfl
   unfold bhL;calc Xq rfl λz=>?_;cases Q7H.back? with
   |none=>rfl|some x=>let⟨L,x2,x3⟩:=x;exact Xq rfl λy=>?_;let⟨B,y2⟩:=y;cases B<;>rfl
 ·let⟨L,x2⟩:=x;cases L with
  |some r=>rfl|none=>calc Xq rfl λy=>?_;let⟨B,y2⟩:=y;cases B<;>rfl
def Xby{α β:Type}{f:α->β}{l m:List β}(h:l.Perm m):∀ps:List α,m=ps.map f->∃B:List α,B.Perm ps/\l=B.map f:=by
 induction h with
 |nil=>
  intro ps e;cases ps with
  |nil=>calc⟨[],Vb6 _,rfl⟩|cons _ _=>cases e
 |@cons x l m _ ih=>
  intro ps e;cases ps with
  |nil=>cases e|cons p ps=>injection e with e1 e2;let⟨B,L,q2⟩:=ih ps e2;calc⟨p::B,L.cons p,by rw[Uk,<-q2,e1]⟩
 |swap x y l=>
  intro ps e;rcases ps with _|⟨p,_|⟨q,ps⟩⟩;·cases e
  ·cases e
  injection e with e1 e2;injection e2 with e2 e3;calc⟨q::p::ps,Vgx _ _ _,by simp![e1,e2,e3]⟩|trans _ _ ab aa=>intro ps e;let⟨p2,L,q2⟩:=aa ps e;let⟨p1,q3,q4⟩:=ab p2 q2;calc⟨p1,q3.trans L,q4⟩
theorem Runs(R:Vl->Vl->Bool)(a:Array Vl):List QB3->Nat->Nat->Prop
 |[],b,e=>b=e|x::l,b,e=>x.1=b/\0<x.2.1/\SegS R a x.1 x.2.1/\Runs R a l (b+x.2.1) e
section
variable{R:Vl->Vl->Bool}{a a':Array Vl}
def Runs.le:∀ {l:List QB3} {b e:Nat},Runs R a l b e->b+lg l<=e
 |[],b,e,h=>by cases h;calc Vi _|x::l,b,e,⟨_,h0,_,h⟩=>by let:=h.le;rw[U4];omega
def Runs.keep{p q:Nat}(k:KeepK a a' p q):∀ {l:List QB3} {b e:Nat},Runs R a l b e->e<=p\/q<=b->Runs R a' l b e
 |[],b,e,h,_=>h|x::l,b,e,QyA,c=>⟨h1,h0,k.seg (by let:=h.le;omega) h2,h.keep k Q0⟩
def Runs.app:∀ {l m:List QB3} {b e:Nat},Runs R a (l++m) b e ↔ ∃c,Runs R a l b c/\Runs R a m c e
 |[],m,b,e=>⟨λh=>⟨b,rfl,h⟩,λ⟨c,h1,h2⟩=>by cases h1;calc h2⟩|x::l,m,b,e=>by calc⟨λ QxH=>?_,λ⟨c,QxH,h5⟩=>⟨h1,h2,L,Runs.app.mpr ⟨c,B,h5⟩⟩⟩;let⟨c,h5,h6⟩:=Runs.app.mp B;calc⟨c,⟨h1,h2,L,h5⟩,h6⟩
def Runs.pw{w:Nat}:∀ {l:List QB3} {i b e:Nat},Runs R a l b e->Runs R a (l.modify i λx=>(x.1,x.2.1,w)) b e
 |[],i,b,e,h=>by rw[List.modify_nil];calc h|x::l,0,b,e,QyA=>QyA|x::l,i+1,b,e,QyA=>by rw[List.modify_succ_cons];calc⟨h1,h0,h2,h.pw⟩
def Xwj{α:Type}:∀ {l:List α} {i:Nat},i+1<lg l->∃m x y r,l=m++x::y::r/\QYa=i
 |x::y::r,0,_=>⟨[],x,y,r,rfl,rfl⟩|x::l,i+1,h=>by let⟨m,y,z,r,e,hl⟩:=Xwj (l:=l) (i:=i) QD2;calc⟨x::m,y,z,r,by rw[e];rfl,by rw[U4,hl]⟩
universe e
structure Rn(κ:Vdy)(R:Vl->Vl->Bool)(a₀:Array Vl)(t n:Nat)(st:Ua):Prop where
 kd:Vax st=κ
 fl:Vc7 st=yy
 pm:QM.Perm a₀
 rn:Runs R QM QMB.toList 0 t
 sg:SegS R QM t n
 le:t+n<=a₀.size
section
variable{prog:V0}{w:V9}{A:Uu}{E:VP}{s:Vc}{κ:Vdy}{R:Vl->Vl->Bool}{mem:Vl->Prop}{st:Ua}{a₀:Array Vl}{t n:Nat}
def Rn.sz(h:Rn κ R a₀ t n st):QM.size=a₀.size:=h.pm.size_eq
def Rn.mm(h:Rn κ R a₀ t n st)(ma:∀x∈a₀.toList,mem x):∀x∈QM.toList,mem x:=λx B=>ma x ((Vee.mp h.pm).mem_iff.mp B)
variable(hO:Ord R)(hA:Xgb prog w A E s κ R mem)(ma:∀x∈a₀.toList,mem x)
include hO hA ma
def Xwk{i:Nat}{Q:Bool->Ua->Prop}(h:Rn κ R a₀ t n st)(hi:i+1<QMB.size)(hQ:∀B,Rn κ R a₀ t n B->QXL.size+1=QMB.size->Q yx B):wpS Q6 A E s Q4L Q st:=by
 let⟨m,⟨p,k,v⟩,⟨q,k',v'⟩,r,e,hl⟩:=Xwj (l:=QMB.toList) (i:=i) Qz0;subst hl;let hr:=h.rn;rw[e]at hr;let⟨c,r1,r2,r3,r4,r5,r6,r7,r8⟩:=Runs.app.mp hr;dsimp at r2 r3 r4 r5 r6 r7 r8;subst r2 r5;let l8:=r8.le;let hz:=h.sz;let aa:=h.le;exact X71 hO hA (p:=p) (n:=k) (v:=v) (q:=p+k) (m:=k') (v':=v') h.kd h.fl (h.mm ma) ?_ ?_ rfl r3 r6 Q0 r4 r7 λB k1 k2 k3 L k5=>?_;·rw[<-Ud,e];simp!
 ·rw[<-Ud,e];simp!
 let e3:QXL.toList=m++(p,k+k',v)::r:=by rw[k3,Array.toList_eraseIdxIfInBounds,Vf6,e,Vfr _ _ Qw,Nat.sub_self,List.set_cons_zero,List.eraseIdx_append_of_length_le Q0,show QYa+1-lg m=1 by omega];rfl
 calc hQ B ⟨k1,k2,L.1.trans h.pm,?_,L.seg Q0 h.sg,aa⟩ ?_;·rw[e3];exact Runs.app.mpr ⟨p,r1.keep L QfS,rfl,by dsimp;omega,k5,by rw[<-Vhm];calc r8.keep L (.inr Qw)⟩
 ·rw[<-Vz,<-Vz,e3,e];simp[Uc,U4];omega
def X77{u v:Nat}{Q:Option Unit×Unit->Ua->Prop}(h:Rn κ R a₀ t n st)(L:∀B,Rn κ R a₀ t n B->Q Qy6 B):wpS Q6 A E s (prL u v) Q st:=by
 unfold prL;calc Vbp (I:=λ_ c B=>c=Qy6/\Rn κ R a₀ t n B) ?_ (λc B Qh0=>by rw[h1];calc L B h2) QqO;rintro x c B _ _ ⟨rfl,h'⟩;calc Vv Qv5;split
 ·rename_i q;split;·exact V1 QNd
  ·by_cases c:QXL.size>1;·exact Vv (Xwk hO hA ma h' Q0 λaa h2 _=>V1 ⟨rfl,h2⟩)
   ·rw[iN0 c]at q;cases q
 calc V1 QNd
omit hO hA ma in
def Xwl(h:Rn κ R a₀ t n st)(hn:0<n){Q:ForInStep QJ6->Ua->Prop}(L:∀B,Rn κ R a₀ Q1e 0 B->Q QjP B):wpS Q6 A E s (laL t n) Q st:=by unfold laL;calc Vv (Vg0 (V1 (L _ ⟨h.kd,h.fl,h.pm,?_,λi j _ hj=>by omega,h.le⟩)));show Runs R QM (QMB.push (t,n,0)).toList 0 Q1e;rw[Vcv];calc Runs.app.mpr ⟨t,h.rn,rfl,hn,h.sg,rfl⟩
def Xwm{u:Nat}(h:Rn κ R a₀ t n st)(hn:0<n){Q:ForInStep QJ6->Ua->Prop}(hQ:∀B,Rn κ R a₀ Q1e 0 B->Q QjP B):wpS Q6 A E s (bhL u t n) Q st:=by
 unfold bhL;calc Vv Qv5;split;·calc Vv (X77 hO hA ma h λL h2=>?_);calc Vv (Vg0 ?_);calc Xwl ?_ hn hQ;calc⟨h2.kd,h2.fl,h2.pm,?_,h2.sg,h2.le⟩;show Runs R QwR ((Up L).modify _ _).toList 0 t;rw[Array.toList_modify];exact h2.rn.pw
 ·calc Xwl h hn hQ
def X78{m:Nat}{Q:Option Unit×Nat->Ua->Prop}(h:Rn κ R a₀ 0 0 st)(hQ:∀B,Rn κ R a₀ a₀.size 0 B->Q (yy,a₀.size) B):wpS Q6 A E s (rnL a₀.size m) Q st:=by
 unfold rnL;exact Vbp (I:=λx c B=>∃t,c=(yy,t)/\x<=t/\Rn κ R a₀ t 0 B) ?_ (λc B ⟨t,h1,h2,h3⟩=>?_) ⟨0,rfl,Vi _,h⟩
 ·rintro x c B _ hx ⟨t,rfl,h1,h2⟩;dsimp;let ac:=h2.le;by_cases c:t ≥ a₀.size
  ·rw[iP0 c];obtain rfl:t=a₀.size:=by omega
   exact V1 (hQ _ h2)
  rw[iN0 c];let hz:t+QiU<=Qm3.size:=by rw[h2.sz];omega
  calc Vv (X74 hO hA (h2.mm ma) hz Q0 ⟨h2.kd,h2.fl,rfl,.rf⟩ λk aa b1 b2 b3 b4=>?_);dsimp;let L:Rn κ R a₀ t k aa:=⟨b1.kd,b1.fl,b1.kp.1.trans h2.pm,by rw[b1.pn];calc h2.rn.keep b1.kp QfS,b4,by omega⟩;split;·rename_i ck;calc Vv Qr1;calc Vv (X75 hO hA (L.mm ma) (p:=t) (n:=min QiU m) (by rw[L.sz];omega) Q0 ⟨L.kd,L.fl,rfl,.rf⟩ L.sg λae d1 d2=>?_);exact Xwm hO hA ma ⟨d1.kd,d1.fl,d1.kp.1.trans L.pm,by rw[d1.pn];calc L.rn.keep d1.kp QfS,d2,by omega⟩ Q0 λab h4=>QkK
  ·exact Xwm hO hA ma L Q0 λab h4=>QkK
 let:=h3.le;obtain rfl:t=a₀.size:=by omega
 rw[h1];calc hQ B h3
omit hO hA ma in
def X79{p:Pn}(h:¬ p.size<=1):laP p+1<p.size:=by
 unfold laP;generalize Option.any _ _=c;cases c;·show p.size-2+1<p.size;lia
 ·show p.size-2-1+1<p.size;lia
def X8a{Q:Option Unit×Unit->Ua->Prop}(h:Rn κ R a₀ a₀.size 0 st)(hQ:∀B,Qm3.Perm a₀->Vc7 B=yy->SegS R Qm3 0 a₀.size->Q Qy6 B):wpS Q6 A E s (enL a₀.size) Q st:=by
 let fin:∀B,Rn κ R a₀ a₀.size 0 B->QXL.size<=1->Q Qy6 B:=λB h1 h2=>by
  calc hQ B h1.pm h1.fl ?_;let L:=h1.rn;rw[<-Vz]at h2;cases e:QXL.toList with
  |nil=>rw[e]at L;rw[<-L];exact λi j _ hj=>by omega|cons x l=>
   rw[e]at L h2;cases l with
   |cons y l=>simp! at h2|nil=>let⟨g1,g2,g3,g4⟩:=L;rw[g1]at g3;rwa [<-g4,Vgm]
 unfold enL;exact Vbp (I:=λx c B=>c=Qy6/\QXL.size<=max 1 (a₀.size-x)/\Rn κ R a₀ a₀.size 0 B) ?_ (λc B Qd2=>by rw[h1];calc fin B h3 Q0) ⟨rfl,?_,h⟩
 ·rintro x c B _ hx ⟨rfl,h1,h2⟩;calc Vv Qv5;by_cases c:QXL.size<=1;·rw[iP0 c];exact V1 (fin B h2 c)
  ·rw[iN0 c];exact Vv (Xwk hO hA ma h2 (X79 c) λaa h3 h4=>V1 ⟨rfl,by omega,h3⟩)
 let:=h.rn.le;rw[Vz]at this;omega
def X8b{Q:Unit->Ua->Prop}(hk:Vax st=κ)(hf:Vc7 st=yy)(hp:Up st=#[])(ha:Vt st=a₀)(hQ:∀L,Vc7 L=yy->Srt QJ2 a₀.toList QwR.toList->Q () L):wpS Q6 A E s sortRuns' Q st:=by rw[X76];calc Vv Qv5;rw[ha];calc Vv (X78 hO hA ma ⟨hk,hf,by rw[ha],by rw[hp];rfl,λi j _ hj=>by omega,by omega⟩ λaa h1=>?_);calc Vv (X8a hO hA ma h1 λB h2 h3 h4=>V1 (hQ B h3 ⟨Vee.mp h2,?_⟩));let hz:Qm3.size=a₀.size:=h2.size_eq;let:=(Xej (R:=R) (a:=Vt B) (p:=0) (n:=a₀.size) Q0).mp h4;rwa [Vgw,Vbk QjR]at this
universe e
universe Z
universe e
section
namespace Z
open PySem PySem.SetTable PySem.Spec PyProof.Rows
section
variable{prog:V0}{w:V9}{A:Uu}{E:VP}{s:Vc}
theorem SetR(prog:V0)(w:V9)(h:Heap)(a:Addr)(ld:Bool)(ps:List Qj1):Prop:=∃o es ep t,h.get? a=yz o/\o.ExactSet/\o.data=.set es ep t/\Mem prog w h es ps/\TabG t es/\t.led=ld
def Xzo{h h':Heap}{k:LI}{x a:Addr}{o:Obj}{es:Array Q41}{ep:Nat}{t:Ut}(hx:QR.is h k x)(ho:h.get? a=yz o)(hd:o.data=.set es ep t)(sb:U6 a h h'):QR.is h' k x:=by
 let⟨o',its,m,L,hc,B,hi⟩:=hx;calc⟨o',its,m,?_,hc,B,hi⟩;rw[sb.2 x ?_];·exact L
 ·rintro rfl;rw[ho]at L;cases L;rw[hd]at B;cases B
def Mem.keep{h h':Heap}{a:Addr}{o:Obj}{es B:Array Q41}{ep:Nat}{t:Ut}{ps:List Qj1}(m:Mem prog w h B ps)(ho:h.get? a=yz o)(hd:o.data=.set es ep t)(sb:U6 a h h'):Mem prog w h' B ps:=
 ⟨m.1,λp L=>Xzo QVa ho hd sb⟩
def Mem.len{h:Heap}{es:Array Q41}{ps:List Qj1}(m:Mem prog w h es ps):es.size=lg ps:=by rw[<-Vz,m.1,Vf]
def reo{es:Array Q41}{t:Ut}{B:Array Nat}{Q:Array Q41×Ut->Vc->Prop}(hz:QP4.size=es.size)(h:Q (B.filterMap QwB,t) s):
  Vg Q6 A (do
   let yz (t,B):=yz (t,B)|Vd2 "internal:set-table-without-room"
   let es':=B.filterMap QwB
   if es'.size != es.size then Vd2 "internal:set-table-lost-an-element"
   pure (es',t)) Q E s:=by
 dsimp;rw[hz,bne_self_eq_false];simp[Vr,if_false];calc Vd h
def Xru{a:Addr}{ld:Bool}{ps:List Qj1}{k:LI}{x:Addr}{Q:Bool->Vc->Prop}(hu:A.units<Vbt)(S:SetR prog w s.heap a ld ps)(hk:QR.is s.heap k x)(hn:Qq5<1200)
  (h:∀h' ai,U6 a s.heap h'->SetR prog w h' a ld ai->(k∈ps.map Qu/\ai=ps)\/(k ∉ ps.map Qu/\ai.Perm QJU)->Q (decide (k ∉ ps.map Qu)) QB5):
  Vg Q6 A (setAdd a Qq6) Q E s:=by
 let⟨o,es,ep,t,ho,ag,hd,m,T,hl⟩:=S;let ln:=m.len;unfold setAdd setAddHashed setAddHashedIn;calc Uy (Va (QR.pyHash hu hk (Uy (Va QzB))));dsimp;rw[show byScan (Ux x) es=yw from rfl];simp[Vr,if_false];let⟨N,n1,n2,n3⟩:=Xq3 T.tb T.mg.cy (by rw[T.sz];let:=T.room;omega) Q31;unfold setSearch;calc Va (Ycl (s:=Qj2) hu ho hd T m hk n1 n2 n3 ?_ ?_ N 0 100000 yy Q0 ?_ rfl (λn _ _ aq=>aB0 aq QP7));·intro aa r _;let:=h s.heap ps QHT ⟨o,es,ep,t,ho,ag,hd,m,T,hl⟩ (.inl ⟨aa,rfl⟩);rw[decide_eq_false (λz=>z aa)]at this;exact Vd this
 ·intro aa;dsimp;calc Va QzB;dsimp;let⟨p1,p2,p3,p4,p5,p6⟩:=Xvd T.tb Q0M;let own:=X2o (x:=Ux x) T.tb T.sz T.own n3;let am:QSX.1.moves=t.moves:=rfl;rw[T.sz]at p2 p6;let il:=Xbu es QSX.2 Q1B p6;generalize t.put Qy8=pj at p1 p2 p3 p4 p5 p6 own il am;let⟨t1,q⟩:=pj;dsimp at p1 p2 p3 p4 p5 p6 own il am |-;generalize aw:insertAt es q Q1B=B at own il |-;let z1:B.size=es.size+1:=by
   rw[<-Vz,il];simp!;omega
  rw[p4,T.pl];simp[if_true];calc Va (Xzg (s:=Qj2) hk ?_);simp[if_true];let ac:B.size<=V7:=by rw[z1,Va6];omega
  calc Va (Vg9 (s:=Qj2) ho hd ?_ ac);let ae:=Vdu s.heap a QVP;let g1:Qi4.get? a=yz {o with data:=.set B (ep+1) t1}:=by let:=Vc8 QVP ho (by rw[putSet_of B t1 hd];rfl);rw[putSet_of B t1 hd]at this;exact this
  let pm:B.toList.Perm (QJU.map Xfa):=by
   rw[il,Val,<-m.1];let:(es.toList.take q++es.toList.drop q++[Q1B]).Perm (es.toList++[Q1B]):=by rw[Uq]
   calc List.Perm.trans ?_ this;rw[Ub];exact Vhx _ (List.perm_append_comm (l₁:=[_]))
  let⟨ao,af,aj⟩:=Xby pm _ rfl;let m1:Mem prog w s.heap B ao:=⟨aj,λp hp=>by
   rcases Uo.mp (af.mem_iff.mp hp) with c|c;·exact m.2 p c
   ·rw[V6]at c;subst c;calc hk⟩
  let al:=m1.keep ho hd ae;by_cases c:QoG*5<t.mask*3
  ·let tf:t1.tooFull=false:=by unfold Vht;rw[Xbh p1,p2,p3];exact decide_eq_false Q0
   rw[tf];simp[Vc9,Vr,if_false];let T1:TabG t1 B:=⟨⟨p1,by rw[p4];calc T.pl,by rw[p2,z1],by rw[p3];calc T.mg,by rw[z1,p3];calc c,by omega⟩,own⟩;let:=h _ ao ae ⟨_,B,ep+1,t1,g1,ag,rfl,al,T1,p5.trans hl⟩ (.inr ⟨aa,af⟩);rw[decide_eq_true aa]at this;exact Vd this
  let tf:t1.tooFull=true:=by unfold Vht;rw[Xbh p1,p2,p3];exact decide_eq_true Q0
  rw[tf];simp[Vil,Vdo,if_true];let⟨u1,u2,u3⟩:=Xq6 T.mg T.room Q0 c;unfold setRelay;let ar:t1.fits B.size=true:=by
   let r:=T.room;let le:es.size+1<=t.mask:=by rcases T.mg with e|e|e|e|e|e<;>rw[e]at r |- <;> omega
   unfold Vhi;rw[Xbh p1,p2,z1,p3];simpa using le
  calc Va (Va (Va5 g1 rfl ar ?_));dsimp;rw[iN0 QU9];let⟨t2,ab,e,T2,h1,h2,h3,ax,h4,h5,h6,h7,_⟩:=X1j (f:=t1.finger) (v:=t1.movedTo (sizeAbove QlX-1)) (led:=t1.led) (pl:=t1.plain) u1.cy B QiR;let rl:t1.relaid QhP QlX=yz (t2,ab):=e;rw[rl];calc Va (reo h5 ?_);dsimp;generalize ab.filterMap (B[·]?)=L at h5 h6 h7 |-;let ah:L.size<=V7:=by rw[h5];exact ac
  calc Vg9 g1 rfl ?_ ah;let g2:(Qi4.update a Q3J).get? a=yz {o with data:=.set L (ep+2) t2}:=by let:=Vc8 Q3J g1 (by rw[putSet_of L t2 rfl];rfl);rw[putSet_of L t2 rfl]at this;exact this
  let ap:=Vdu Qi4 a Q3J;let⟨ak,an,au⟩:=Xby h6 _ aj;let m2:Mem prog w Qi4 L ak:=⟨au,λp hp=>al.2 p (an.mem_iff.mp hp)⟩;let av:=m2.keep g1 rfl ap;let TT:TabG t2 L:=⟨⟨T2,by rw[h2,p4];calc T.pl,by rw[h4,h5],by rw[h1];calc u1,by rw[h5,z1,h1];calc u2,by omega⟩,h7⟩;let:=h _ ak (ae.trans ap) ⟨_,L,ep+2,t2,g2,ag,rfl,av,TT,by rw[h3,p5];calc hl⟩ (.inr ⟨aa,an.trans af⟩);rw[decide_eq_true aa]at this;exact Vd this
 ·let:=T.mg.le;rw[show turns t.mask=t.mask+15 from rfl]at n1;omega
universe e
universe Z
universe e
section
namespace Z
open PySem PySem.Spec PyProof.Rows L2
section
variable{prog:V0}{w:V9}{A:Uu}{E:VP}{s:Vc}
def X8c(h:Q (decide (x<y)) s):Vg Q6 A (oneLt' b QsZ (.int y u)) Q E s:=by
 cases b with
 |true=>calc PySem.W.kat_lt_int h|false=>calc PySem.W.kat_one _ _ (lt_int (show PySem.W.BoolBack Q _ s from h))
def X8d(L:Vbv us xs):∀(ys:LI) (vs:LV) (i:Nat),Vbv vs ys->Q QgG s->PySem.W.KatLex prog w A yx (decide QeJ) Q (us.zip vs) i s:=by
 induction L with
 |nil=>intro ys vs i B h;cases B<;>exact h|@cons x t us xs L ih=>
  intro ys vs i B h;cases B with
  |nil=>exact h|@cons y u vs ys B=>
   let hl:decide (lg us+1<lg vs+1)=decide QeJ:=decide_eq_decide.mpr Nat.add_lt_add_iff_right;simp[U4,Vgl,hl];simp[ltL]at h;calc PySem.W.kat_cons (wpAny_eqBool_int (PySem.W.kat_go QAR λe=>?_));·rw[iP0 (eq_of_beq e)]at h;exact PySem.W.kat_yes (ih ys vs QC2 B h)
   ·rw[iN0 (λz=>by rw[z,beq_self_eq_true]at e;cases e)]at h;calc PySem.W.kat_no (X8c h)
universe e
theorem Row(h:Heap)(k:LI)(u:Vb):Prop:=∃a us,u=.ref a/\Vdz h a us.toArray/\Vbv us k
def Row.keep(r:Row h k u)(kp:∀b o,h.get? b=yz o->h'.get? b=yz o):Row h' k u:=by let⟨a,us,e,⟨o,B,L⟩,hi⟩:=r;calc⟨a,us,e,⟨o,kp _ _ B,L⟩,hi⟩
def Xdk:∀ {xs:LD} {ks:LL},Y6 xs=yz ks->xs=ks.map λk=>.tup Qs1
 |[],ks,h=>by cases h;rfl|x::xs,ks,h=>by
  cases x with
  |tup ds=>
   simp[Y6]at h;cases e:Xf ds with
   |none=>rw[e]at h;cases h|some k=>
    rw[e]at h;dsimp at h;cases e2:Y6 xs with
    |none=>rw[e2]at h;cases h|some r=>rw[e2]at h;cases h;rw[Yr e,Xdk e2];rfl
  |_=>cases h
inductive RowsV(h:Heap):LL->LV->Prop
 |nil:RowsV h [] []
 |cons {k:LI} {u:Vb} {ks:LL} {vs:LV}:Row h k u->RowsV h ks vs->RowsV h (k::ks) (u::vs)
def Xzp{h:Heap}{ks:LL}{its:LV}(r:RowsV h ks its):ks.all Q2P=yx->∃fs,PySem.W.KatTups h its fs/\QBe=lg its/\∀v∈fs,∃n t,v=Vfu n t:=by
 induction r with
 |nil=>exact λ_=>⟨[],.nil,rfl,λv B=>by cases B⟩|cons hr _ ih=>
  intro L;rw[Vas,bA0]at L;let⟨a,us,rfl,⟨o,ho,hc,n,hd⟩,hi⟩:=hr;let⟨fs,f1,f2,f3⟩:=ih L.2;cases hi with
  |nil=>simp! at L|cons x t aa=>
   calc⟨.int x t::fs,.cons ho hc hd rfl f1,by simp![f2],λv B=>?_⟩;rcases Vu.mp B with rfl|B;·exact⟨x,t,rfl⟩
   ·calc f3 v B
inductive FsV:LL->List (OV)->Prop
 |nil:FsV [] []
 |non {ks:LL} {fs:List (OV)}:FsV ks fs->FsV ([]::ks) (yy::fs)
 |som {x:Int} {t:Tok} {k:LI} {ks:LL} {fs:List (OV)}:FsV ks fs->FsV ((x::k)::ks) (yz QsZ::fs)
def RowsV.of{α:Type}{h:Heap}{f:α->LI}{g:α->Vb}:∀(l:List α),(∀q∈l,Row h (f q) (g q))->RowsV h QhG QXR
 |[],_=>.nil|q::l,hr=>.cons (hr q V8) (RowsV.of l λp B=>hr p QLA)
def FsV.all{ks:LL}{fs:List (OV)}(f:FsV ks fs):(fs.all λx=>x.isSome)=ks.all Q2P:=by
 induction f with
 |nil=>rfl|non _ ih=>simp!|som _ ih=>simp![ih]
section
variable{M:Model}{A:Uu}{E:VP}{s:Vc}
def Xzq {k:LI} {u:Vb} (r:Row s.heap k u) {Q:VP} (h:Q Qx3 s):Vg M A (typeOf u) Q E s:=by let⟨a,us,rfl,⟨o,B,L,_⟩,_⟩:=r;calc Vcm (T:="tuple") ⟨o,B,L⟩ h
def Xp5{ks:LL}{vs:LV}(r:RowsV s.heap ks vs):∀ {Q:List (OV)->Vc->Prop},(∀fs,FsV ks fs->Q fs s)->Vg M A (vs.mapM firstOfTuple') Q E s:=by
 induction r with
 |nil=>intro Q h;rw[List.mapM_nil];exact Vd (h _ .nil)|cons hr _ ih=>
  intro Q h;rw[List.mapM_cons];calc Va ?_;let⟨a,us,rfl,⟨o,L,hc,n,hd⟩,hi⟩:=hr;rw[PySem.W.kas_first_eq];calc Va QpC;rw[iN0 Q1];calc Va (Vgr L hd Q71);cases hi with
  |nil=>calc Va (ih λfs B=>Vd (h _ (.non B)))|cons x t aa=>calc Va (ih λfs B=>Vd (h _ (.som B)))
def Xtk{ks:LL}{vs:LV}(r:RowsV s.heap ks vs)(h2:0<lg ks)(aa:(ks.all λk=>!k.isEmpty)=yw){Q:Vdy->Vc->Prop}(h1:Q general' s)(h3:Q oneType' s):Vg M A (keyKind' vs.toArray) Q E s:=by
 rw[PyProof.Rows.kat_kind_eq,List.mapM_toArray,map_eq_pure_bind];calc Va (Va (Xp5 r λfs hf=>Vd ?_));let B:(fs.toArray.all λx=>x.isSome)=false:=by rw[List.all_toArray,hf.all];exact aa
 rw[B];simp[Vr,if_false];split;·exact Vd h1
 ·rw[oneTypeOnly'_eq,List.mapM_toArray,map_eq_pure_bind];let ty:∀v∈vs,∀(Q':VP),Q' Qx3 s->Vg M A Q6Z Q' E s:=by
   clear h1 h3 hf B aa;induction r with
   |nil=>intro v L;cases L|cons hr _ ih=>
    intro v L Q' hq;rcases Vu.mp L with rfl|L;·exact Xzq hr hq
    ·rename_i ab ac _ _;cases hk:ab with
     |nil=>subst hk;rename_i r';cases r';cases L|cons _ _=>exact ih (by rw[hk];simp!) v L Q' hq
  calc Va (Va (Va (PySem.W.kas_mapM (r:=Vb8 "tuple") _ ty Q71)));split
  ·split;·exact Vd (Vd h3)
   ·exact Vd Q5f
  calc Vd Q5f
universe e
def Xhe:∀a:LI,ltL a a=yw
 |[]=>rfl|x::a=>by simp![ltL,Xhe a]
def Xge:∀a b c:LI,ltL a b=yx->ltL b c=yx->ltL a c=yx
 |[],[],_=>λh _=>by cases h|[],_::_,[]=>λ_ h=>by cases h|[],_::_,_::_=>λ_ _=>rfl|_::_,[],_=>λh _=>by cases h|_::_,_::_,[]=>λ_ h=>by cases h|x::a,y::b,z::c=>λh1 h2=>by
  simp[ltL]at h1 h2 |-;split at h1
  ·rename_i e;subst e;split at h2;·rename_i e;subst e;rw[iP0 rfl];exact Xge a b c h1 h2
   ·rename_i e;rw[iN0 e];exact h2
  rename_i e;split at h2;·rename_i e2;subst e2;rw[iN0 e];exact h1
  ·rw[decide_eq_true_eq]at h1 h2;rw[iN0 Q0];calc decide_eq_true Q0
def Xhf:∀a b:LI,a≠b->ltL a b=yw->ltL b a=yx
 |[],[]=>λh _=>aB0 rfl h|[],_::_=>λ_ h=>by cases h|_::_,[]=>λ_ _=>rfl|x::a,y::b=>λh h1=>by
  simp[ltL]at h1 |-;split at h1;·rename_i e;subst e;rw[iP0 rfl];exact Xhf a b (λz=>h Qdc) h1
  ·rename_i e;rw[decide_eq_false_iff_not]at h1;rw[iN0 QXY];calc decide_eq_true Q0
def Xji{a b:LI}(h:ltL a b=yx):ltL b a=false:=by
 cases e:ltL b a with
 |false=>rfl|true=>let:=Xge _ _ _ h e;rw[Xhe]at this;cases this
def Xrv{a b c:LI}(h1:ltL b a=yw)(h2:ltL c b=yw):ltL c a=false:=by
 cases e:ltL c a with
 |false=>rfl|true=>
  by_cases q:c=b;·subst q;rw[e]at h1;cases h1
  ·rw[Xge _ _ _ (Xhf _ _ q h2) e]at h1;cases h1
private abbrev leL(a b:LI):Prop:=ltL b a=yw
theorem WkL(l:LL):Prop:=l.Pairwise leL
def X8e{α:Type}(f:α->LI):∀ {l:List α},lg l<2->WkL QhG
 |[],_=>.nil|[_],_=>Ve2 _ _
def Xkk:∀ {l m:LL},l.Perm m->WkL l->WkL m->l=m
 |[],m,p,_,_=>(List.Perm.nil_eq p)|a::l,[],p,_,_=>aB0 p.length_eq QB|a::l,b::m,p,h1,h2=>by
  unfold WkL at h1 h2;rw[Vah]at h1 h2;let e:a=b:=by
   rcases Vu.mp (p.mem_iff.mp V8) with e|ha;·exact e
   ·rcases Vu.mp (p.mem_iff.mpr V8) with e|L;·exact e.symm
    ·let B:ltL b a=false:=h1.1 b L;let x2:ltL a b=false:=h2.1 a ha;exact Vji λq=>by rw[Xhf _ _ q x2]at B;cases B
  subst e;rw[Xkk ((List.perm_cons a).mp p) h1.2 h2.2]
def Xgf(k:LI):∀l,Q6b.Perm (k::l)
 |[]=>Vb6 _|y::r=>by
  unfold Xkb;split;·exact Vb6 _
  ·calc((Xgf k r).cons y).trans QEY
def Xaq:∀l,Q0b.Perm l
 |[]=>Vb6 _|k::r=>(Xgf k _).trans ((Xaq r).cons k)
def Xrw(k:LI):∀l,WkL l->WkL Q6b
 |[]=>λ_=>Ve2 _ _|y::r=>λh=>by
  unfold WkL at h;rw[Vah]at h;unfold Xkb;split
  ·rename_i c;calc Vah.mpr ⟨λz hz=>?_,Vah.mpr h⟩;rcases Vu.mp hz with rfl|hz;·exact Xji c
   ·exact Xrv (Xji c) (h.1 z hz)
  rename_i c;calc Vah.mpr ⟨λz hz=>?_,Xrw k r h.2⟩;rcases Vu.mp ((Xgf k r).mem_iff.mp hz) with rfl|hz;·exact Vhc.mpr c
  ·calc h.1 z hz
def Xkl:∀l,WkL Q0b
 |[]=>Veh|k::r=>Xrw k _ (Xkl r)
def X8f{l m:LL}(p:l.Perm m)(h:WkL l):l=Yd m:=Xkk (p.trans (Xaq m).symm) h (Xkl m)
def Xwn{us:LV}{k:LI}(h:Vbv us k):∀ {k'},Vbv us k'->k=k':=by
 induction h with
 |nil=>intro k' h;cases h;rfl|cons x t _ ih=>intro k' h;cases h with|cons _ _ h=>rw[ih h]
def Row.same{h:Heap}{k k':LI}{u:Vb}(r:Row h k u)(r':Row h k' u):k=k':=by let⟨a,us,rfl,⟨o,ho,_,n,hd⟩,hi⟩:=r;let⟨a',ab,e,⟨o',L,_,n',B⟩,aa⟩:=r';cases e;rw[ho]at L;cases L;rw[hd]at B;cases B;exact Xwn hi aa
open Classical in
abbrev rk(h:Heap)(u:Vb):LI:=if q:∃k,Row h k u then choose q else []
def Xmt{h:Heap}{k:LI}{u:Vb}(r:Row h k u):rk h u=k:=by let q:∃k,Row h k u:=⟨k,r⟩;unfold rk;rw[dif_pos q];calc(Classical.choose_spec q).same r
section
variable{prog:V0}{w:V9}{A:Uu}{E:VP}{s:Vc}
def Xzr(h:Heap):Ord λx y=>ltL (rk h x.1) (rk h y.1):=⟨λa b=>Xrv a b,λa=>Xji a⟩
theorem Kd3(κ:Vdy):Prop:=κ=tuples' yx\/κ=general'\/κ=oneType'
def Xwo{κ:Vdy}(hu:A.units<Vbt)(af:Kd3 κ):Xgb prog w A E s κ (λx y=>ltL (rk s.heap x.1) (rk s.heap y.1)) λx=>∃k,Row s.heap k x.1:=by
 rintro ⟨x,x'⟩ ⟨y,y'⟩ st Q ⟨k,hx⟩ ⟨k',hy⟩ hk hQ;dsimp at hx hy hQ;rw[Xmt hx,Xmt hy]at hQ;rw[lt'_eq];calc Vv (wpS_get (Vv ?_));rw[hk];let⟨a1,ah,rfl,⟨o1,B,ac,n1,aa⟩,hi1⟩:=hx;let⟨a2,ag,rfl,⟨o2,L,ae,n2,ab⟩,hi2⟩:=hy;calc wpS_lift (Vdn ?_);let fin:(λ(c:Bool) s'=>s'=s/\wpS Q6 A E s (match (Except.ok c:Except Vb Bool) with|.ok b=>pure (yz b)|.error e=>do modify (λs=>Via Q7f QZD QbD (gallopOf s) Q6W);pure yy) Q st) (ltL k k') s:=⟨rfl,V1 hQ⟩;rcases af with rfl|rfl|rfl;·calc PySem.W.kat_lt B aa L ab ?_;simp[Vo];exact X8d hi1 k' ag 0 hi2 fin
 ·exact Xnp (b:=yw) hu Q4D Q3D hi1 hi2 fin
 calc Xnp (b:=yx) hu Q4D Q3D hi1 hi2 fin
private noncomputable abbrev Kvs:=List (LI×Vb×Vb)
def Xrx(qs:Kvs):QE1.toList=qs.map QG0:=by
 rw[Array.toList_zip];induction qs with
 |nil=>rfl|cons q qs ih=>show _::_=_::_;congr 1
def Xzs{β:Type}{qs:Kvs}{f:Ua->Sem β}{Q:β->Vc->Prop}(hu:A.units<Vbt)(hq:∀q∈qs,Row s.heap q.1 q.2.1)(h0:0<lg qs)
  (h:∀st (rs:Kvs),rs.Perm qs->WkL QbG->QM.map QG0=(rs.map (·.2.2)).toArray->Vc7 st=yy->Vg Q6 A (f st) Q E s):
  Vg Q6 A (keyKind' (qs.map QKX).toArray >>= fun κ=>QYB >>= λx=>f x.2) Q E s:=by
 let run:∀ κ,Kd3 κ->Vg Q6 A (QYB >>= λx=>f x.2) Q E s:=fun κ aa=>by
  let mm:∀x∈QE1.toList,∃q∈qs,x=q.2:=λx hx=>by rw[Xrx]at hx;let⟨q,h1,h2⟩:=Vs.mp hx;exact⟨q,h1,h2.symm⟩
  let ez:=Xrx qs;generalize (qs.map λq:LI×Vb×Vb=>q.2.1).toArray.zip (qs.map λq=>q.2.2).toArray=a0 at ez mm |-;let sr:=X8b (prog:=prog) (w:=w) (A:=A) (E:=E) (s:=s) (κ:=κ) (Xzr s.heap) (Xwo hu aa) (a₀:=a0) (λx hx=>?m) (st:=Via κ a0 #[] 7 yy) rfl rfl rfl rfl
   (Q:=λ_ st=>∃rs:Kvs,rs.Perm qs/\WkL (rs.map λq=>q.1)/\QM.map QG0=(rs.map λq=>q.2.2).toArray/\Vc7 st=yy) λst hf hs=>?f
  unfold wpS at sr;exact Va (Vp sr (λr s' hr=>?r) λ_ _ e=>e)
  case m=>let⟨q,h1,rfl⟩:=mm x hx;exact⟨q.1,hq q h1⟩
  case f=>
   let⟨p,pw⟩:=hs;rw[ez]at p;let⟨rs,L,r2⟩:=Xby p qs rfl;calc⟨rs,L,?_,?_,hf⟩;·rw[r2,Vjb]at pw;unfold WkL;rw[Vjb];exact pw.imp_of_mem λ{a b} ha hb z=>?_;let z':ltL (rk s.heap b.2.1) (rk s.heap a.2.1)=false:=z;rw[Xmt (hq a (L.mem_iff.mp ha)),Xmt (hq b (L.mem_iff.mp hb))]at z';exact z'
   ·apply Array.toList_inj.mp;rw[Array.toList_map,r2,Vbq];rfl
  case r=>let⟨rfl,rs,L,r2,r3,r4⟩:=hr;exact h r.2 rs L r2 r3 r4
 let B:∀(M:Model) (h:Heap) (v:Vb),(∃n t,v=Vfu n t)->PySem.W.Looks M h Q6Z (.type "int"):=λM h v z=>by let⟨n,t,rfl⟩:=z;exact .now
 let rv:=RowsV.of (f:=λq:LI×Vb×Vb=>q.1) (g:=λq=>q.2.1) qs hq;cases en:(QdG.all λk=>!k.isEmpty) with
 |true=>let⟨fs,f1,f2,f3⟩:=Xzp rv en;calc Va (PySem.W.kat_kind (T:=.type "int") f1 (by rw[f2,Vf];calc h0) (λv hv=>B _ _ v (f3 v hv)) rfl (run _ Qd0))|false=>calc Va (Xtk rv (by rw[Vf];calc h0) en (run _ QvZ) (run _ QuZ))
def Row.ne {h:Heap} {a:Addr} {xs:AV} {n:Nat} {k:LI} {u:Vb} {h':Heap} (ho:h.get? a=yz (Vak "list" xs n)) (kp:∀b o,b≠a->h.get? b=yz o->h'.get? b=yz o) (r:Row h k u):Row h' k u:=by let⟨b,us,e,⟨o,B,L⟩,hi⟩:=r;calc⟨b,us,e,⟨o,kp _ _ Q9R B,L⟩,hi⟩;rw[z,ho]at B;cases B;calc aB0 (show Vb8 "list"=Vb8 "tuple" from L.1) Q1
abbrev Xzt(x e:Nat):Sem PySem.Fin:=if x != e then do
  rule "list.sort.modified"
  (raiseError "ValueError" "list modified during sort" : Sem PUnit)
  ret .none
 else ret .none
abbrev Xzu(a:Addr)(e:Nat)(st:Ua):Sem PySem.Fin:=do
 let x <- seqEpoch a
 Builtin.List.listUpdate Q40 λ_=>QM.map QG0
 match Vc7 st with
 |some v=>do
  rule "list.sort.comparison-raised"
  (throw v:Sem PUnit)
  Xzt x e|_=>Xzt x e
def Xwp {a:Addr} {qs:List QgD} {n:Nat} {P:PySem.Fin->Vc->Prop} (hu:A.units<Vbt) (ho:s.heap.get? a=yz (Vak "list" Qs.toArray n)) (hl:QVR<100000) (hq:∀q∈qs,Row s.heap q.1 q.2)
  (h:∀rs:List QgD,rs.Perm qs->WkL QbG->P (.done (.ret .none)) {s with heap:=sortedHeap s.heap a Qs QsE.toArray}):Vg Q6 A (Vbb.«list.sort» QzY) P E s:=by
 let sl:=Va6;let L:(qs.map QG0).toArray.size<=V7:=by rw[Vo,Vf];omega
 obtain⟨e1,o1⟩:∃e1,(s.heap.update a (Vac λ_=>(#[]:AV))).get? a=yz (Vak "list" #[] e1):=⟨_,get?_update_seq ho λ_=>#[]⟩;let up:∀b o,(s.heap.update a (Vac λ_=>QvH)).get? b=yz o->QVT.get? b=yz o:=λb o q=>Ve _ QRO;let kp:∀b o,b≠a->s.heap.get? b=yz o->QVT.get? b=yz o:=λb o hb q=>up b o ((Heap.get?_update_ne _ _ _ _ hb).trans q);let o2:=up a _ o1;rw[list_sort_plain];calc Va (Vgr ho rfl (Va (listUpdate_at ho rfl (Va (seqEpoch_at o1 rfl (Va (Vio (Va (Vf7 QBf QL8)) L)))) L QL8)));change Vg Q6 A _ P E Qi8;let fin:∀(st:Ua) (rs:List QgD),rs.Perm qs->WkL QbG->QM.map QG0=QsE.toArray->Vc7 st=yy->Vg Q6 A (Xzu a e1 st) P E Qi8:=λst rs r1 r2 B r4=>by unfold Xzu;calc Va (seqEpoch_at o2 rfl (Va (listUpdate_at o2 rfl ?_ QL8 (by rw[B,Vo,Vf,r1.length_eq];omega))));rw[B,r4];dsimp;unfold Xzt;rw[bne_self_eq_false];exact Vd (h rs r1 r2)
 let zz:(qs.map QG0).toArray.size=lg qs:=by rw[Vo,Vf]
 by_cases q:QVR<2
 ·let q':(qs.map QG0).toArray.size<2:=by rw[zz];exact q
  dsimp;rw[iP0 q',iP0 q'];calc Va Q71;rw[StateT.run_pure];calc Va (Vd (fin _ qs QZS ?_ ?_ rfl));·exact X8e _ q
  ·show((qs.map QG0).toArray.zip Qs.toArray).map QG0=_;apply Array.toList_inj.mp;rw[Array.toList_map,Array.toList_zip,List.map_snd_zip Qw]
 ·let q':¬ (qs.map QG0).toArray.size<2:=by rw[zz];exact q
  dsimp;rw[iN0 q',iN0 q'];let e2:QcG.map (λq:LI×Vb×Vb=>q.2.1)=qs.map QG0:=by rw[Vbq];rfl
  let e3:QcG.map (λq:LI×Vb×Vb=>q.2.2)=qs.map QG0:=by rw[Vbq];rfl
  let:=Xzs (prog:=prog) (w:=w) (A:=A) (E:=E) (s:=Qi8) (qs:=qs.map λq=>(q.1,q.2,q.2)) (Q:=P) (f:=Xzu a e1) hu (λp hp=>by
    let⟨q,aa,rfl⟩:=Vs.mp hp;calc(hq q aa).ne ho kp) QkR λst rs r1 r2 B r4=>by
    let⟨ts,t1,rfl⟩:=Xby r1 _ rfl;rw[Vbq]at r2 B;exact fin st ts t1 r2 B r4
  rw[e2,e3]at this;calc this
def Xp6{l:Addr}{vs:LV}{Q:LV->Vc->Prop}(hl:s.heap.IsList l vs.toArray\/Vdz s.heap l vs.toArray)(B:Qn2<=V7)
  (h:Q vs Q02):Vg Q6 A QdU Q E s:=by
 rcases hl with hl|hl;·exact collect_list hl h B
 ·calc Xh0 hl B h
def Xwq{l:Addr}{qs:List QgD}{Q:VP}(hu:A.units+9<Vbt)(hl:s.heap.IsList l Qs.toArray\/Vdz s.heap l Qs.toArray)(h5:QVR<100000)(hq:∀q∈qs,Row s.heap q.1 q.2)
  (h:∀rs:List QgD,rs.Perm qs->WkL QbG->Q QBJ {s with heap:=sortedAll s.heap Qs QsE.toArray}):Vg Q6 A QTC Q E s:=by
 let sl:=Va6;let B:Qs.length<=V7:=by rw[Vf];omega
 let sz:(Q00.update s.heap.objs.size (Vac (·++Qs.toArray))).objs.size=s.heap.objs.size+1:=by rw[Vhs,size_push']
 let oL:QUT.get? Qm0=yz Qf5:=sz▸Vm _ rfl;let aa:∀b o,s.heap.get? b=yz o->QUT.get? b=yz o:=λb o q=>Ve _ ((Heap.get?_update_ne _ _ _ _ (Uj Qyf)).trans QRO);calc Vel kind_sorted plain_sorted entry_sorted QWA ?_;unfold Vbb.«sorted»;calc Va (m:=checkCount "sorted" 1 1 _) (Vd (Va (Xp6 hl B (Va (Vf7 ?_ B)))));change Vg _ _ _ _ _ {s with heap:=QP1.push Qf5};rw[sz];calc Va (Uy (Us Vip QMJ Vh9 (Xwp Qw7 oL h5 (λq L=>(hq q L).keep aa) λrs r1 r2=>Qn5) Q0S));calc Vd ⟨_,rfl,h rs r1 r2⟩
universe e
private noncomputable abbrev Xkm(k:LI):D:=.tup Qs1
section
variable{X:Cx}{pc:LA}{σ:L2.St}{H:Hp}{s:Vc}{ρ:LR}{S:Sto}{env:En}
theorem X8g(X:Cx)(ρ:LR)(H:Hp)(k:LI)(u:Vb):Prop:=∃v,RD X.K ρ H Qfe v/\RelV v u
def X8h{k:LI}{v:V}{u:Vb}(I:Inv X pc σ H s)(hd:RD X.K ρ H Qfe v)(B:RelV v u):Row s.heap k u:=by simp[RD]at hd;let⟨b,zs,rfl,hs,hz⟩:=hd;let L:=hz.ints_of;subst L;cases B;let⟨us,h1,h2,_⟩:=I.tuple hs;calc⟨b,us,rfl,h2,Xap h1⟩
def Xry(I:Inv X pc σ H s):∀(ks:LL) (L:LW) (its:LV),RDs X.K ρ H QIW L->Vals L its->∃qs:List QgD,qs.map Qu=ks/\qs.map QG0=its/\∀q∈qs,Row s.heap q.1 q.2/\X8g X ρ H q.1 q.2
 |[],L,its,hr,rv=>by simp[Vgj,RDs]at hr;subst hr;cases rv;exact⟨[],rfl,rfl,λq B=>by cases B⟩|k::ks,L,its,hr,rv=>by
  simp[Uk,RDs]at hr;let⟨v,r,rfl,h1,h2⟩:=hr;cases rv with
  |@cons _ u _ us h3 h4=>
   let⟨qs,e1,e2,e3⟩:=Xry I ks r us h2 h4;calc⟨(k,u)::qs,by rw[Uk,e1],by rw[Uk,e2],λq B=>?_⟩;rcases Vu.mp B with rfl|B;·exact⟨X8h I h1 h3,v,h1,h3⟩
   ·calc e3 q B
def Xrz{f:LI->LI}:∀(rs:List QgD),(∀q∈rs,X8g X ρ H (f q.1) q.2)->∃zs,RDs X.K ρ H ((rs.map λq=>f q.1).map Xkm) zs/\Vals zs QsE
 |[],_=>⟨[],.nil,.nil⟩|q::rs,h=>by let⟨zs,B,L⟩:=Xrz rs λp hp=>h p (V4 _ hp);let⟨v,h1,h2⟩:=h q V8;calc⟨v::zs,.cons h1 B,.cons h2 L⟩
def Xzv{E:VP}{l:Addr}{ws:LW}{its:LV}{ks r:LL}(hu:X.A.units+200<Vbt)(I:S0 X pc σ H s ρ S env)(hl:s.heap.IsList l its.toArray\/Vdz s.heap l its.toArray)(hr:RDs X.K ρ H QIW ws)(ab:Vals ws its)(e3:Xm8 ks=yz r):
  Vg Q2 X.A QTC (OkP X pc σ ρ H (.ok Q7 (S++[.lst (r.map Xkm)]))) E s:=by
 let⟨qs,rfl,rfl,hq⟩:=Xry I.inv ks ws its hr ab;unfold Xm8 at e3;obtain⟨h5,rfl⟩:(lg qs)<100000/\r=Yd (qs.map (·.1)):=by
  by_cases c:(qs.map λq=>q.1).length<100000;·rw[iP0 c,Vw]at e3;rw[Vf]at c;exact⟨c,e3.symm⟩
  ·rw[iN0 c]at e3;cases e3
 exact Xwq Q0 hl h5 (λq h=>(hq q h).1) λL r1 r2=>?_;let e4:=X8f (r1.map Qu) r2;let⟨zs,z1,z2⟩:=Xrz (f:=id) L λq h=>(hq q (r1.mem_iff.mp h)).2;rw[show(L.map λq=>id q.1)=L.map Qu from rfl,e4]at z1;let⟨e8,aa⟩:=sortedAll_at s.heap Qs QaY.toArray;let B:s.heap.objs.size<=s.heap.objs.size+1:=Vd1 _;let J:=I.inv.laid (o:=.lst zs) (t':=s.toks) (h':=sortedAll s.heap Qs QaY.toArray) Q1G B
  ⟨by rw[z2.length,Vf,r1.length_eq,Va6];omega,L.map QG0,e8,z2,by simpa [Vak] using aa⟩
 calc Y7 J (I.inv.hok.fresh B) I.sr z1
def Xzw(hu:X.A.units+200<Vbt):BlR X .sorted QU2:=by
 intro pc s σ H ρ S env ds vs us E I L rv B;match ds,L,B with
 |[],_,B=>cases B rfl|_::_::_,_,B=>cases B rfl|[d],L,B=>
  let⟨v,rfl,r1⟩:=L.one;let⟨u,rfl,ru⟩:=rv.one;simp[X6]at B |-;cases e:Xi S d with
  |none=>rw[e]at B;cases B rfl|some xs=>
   rw[e]at B;dsimp at B |-;cases e0:Xf xs with
   |some ns=>
    rw[e0]at B;dsimp at B |-;split at B;·rename_i hz;rw[iP0 hz];let q:=Yr e0;subst q;exact Xvz I e hz r1 ru
    ·cases B rfl|none=>
    rw[e0]at B;dsimp at B |-;cases e2:Y6 xs with
    |none=>rw[e2]at B;cases B rfl|some ks=>
     rw[e2]at B;dsimp at B |-;cases e3:Xm8 ks with
     |none=>rw[e3]at B;cases B rfl|some r=>dsimp;let q:=Xdk e2;subst q;let⟨a,ws,its,rfl,hs,hr,aa,ab⟩:=I.seqI e r1 ru;calc Xzv hu I hs hr aa e3
universe e
theorem PwL(l:LL):Prop:=l.Pairwise λa b=>ltL a b=yx
def WkL.pw{l:LL}(h:WkL l)(n:l.Nodup):PwL l:=by unfold PwL;let:=List.pairwise_and_iff.mpr ⟨h,n⟩;calc this.imp λ{a b} Qh0=>Xhf b a (Ne.symm h2) h1
def PwL.wk{l:LL}(h:PwL l):WkL l:=List.Pairwise.imp (λ{a b} z=>Xji z) h
def Xkn{l m:LL}(p:l.Perm m)(h1:PwL l)(h2:PwL m):l=m:=Xkk p h1.wk h2.wk
def Xch(l:LL)(h:l.Nodup):PwL Q0b:=(Xkl l).pw ((Xaq l).nodup_iff.mpr h)
universe Z
universe e
section
namespace Z
open PySem PySem.SetTable PySem.Spec PyProof.Rows L2
def X8i{B:LL}{k:LI}(h:B.Nodup):QhR.Nodup:=by
 unfold ddR;split;·exact h
 ·rename_i c;rw[Vcg];calc⟨h,by simp!,λa ha b L e=>c (by rw[V6]at L;rw[<-L,<-e];calc ha)⟩
def Xek(ks:LL):QC6.Nodup:=by
 let:∀(l B:LL),B.Nodup->QYR.Nodup:=λl=>by
  induction l with
  |nil=>intro B h;calc h|cons k l ih=>intro B h;exact ih _ (X8i h)
 calc this ks [] Viv
def Xr0:∀(l B:LL),lg B<=QYR.length
 |[]=>λB=>Vi _|x::l=>λB=>by
  calc V2 ?_ (Xr0 l (ddR B x));unfold ddR;split;·exact Vi _
  ·simp!
def Xzx(ks:LL)(i:Nat)(hi:i<lg ks):ddL (ks.take QC2)=ddR Qj9 Q1T:=by unfold ddL;rw[List.take_succ,Uw hi,Vdl];simp![List.getD,hi]
def X8j(ks:LL)(i:Nat):Qj9.length<=QC6.length:=by
 let:ks=ks.take i++ks.drop i:=(Uq i ks).symm;unfold ddL
 conv=>rhs;rw[this,Vdl]
 calc Xr0 _ _
def Xel{prog:V0}{w:V9}{h h':Heap}{k:LI}{x:Addr}(r:QR.is h k x)(e:∀o,h.get? x=yz o->h'.get? x=yz o):QR.is h' k x:=by let⟨o,its,m,B,r⟩:=r;calc⟨o,its,m,e _ B,r⟩
def SetR.mov{prog:V0}{w:V9}{h h':Heap}{a:Addr}{ld:Bool}{ps:List Qj1}(S:SetR prog w h a ld ps)(e:∀o,h.get? a=yz o->h'.get? a=yz o)(e2:∀p∈ps,∀o,h.get? p.2=yz o->h'.get? p.2=yz o):SetR prog w h' a ld ps:=by let⟨o,es,ep,t,ho,B,hd,m,r⟩:=S;calc⟨o,es,ep,t,e _ ho,B,hd,⟨m.1,λp L=>Xel QVa (e2 p L)⟩,r⟩
section
variable{prog:V0}{w:V9}{A:Uu}{R:Result->Vc->Prop}{I:Addr}{fp wr:LR}{G:Array GenState->Array GenState->Prop}{n:Nat}{P:Nat->Vb->Prop}{St:Nat->Vc->Prop}{ld:Bool}
def Xzy(W:WalksS prog w A.in1 I fp wr G n P St)(Sa:Addr)(hf:Sa ∉ fp)(ks:LL)(xs:LR)(hn:QDB=n)(hP:∀i v,P i v->∃x,v=.ref x/\xs[i]?=yz x)(hx:∀x∈xs,x≠Sa/\x ∉ wr)(hu:A.units+1<Vbt)(hb:QC6.length<1200):
  ∀(k i:Nat) (s:Vc) (ps:List Qj1),n-i=k->i<=n->St i s->SetR prog w s.heap Sa ld ps->Qa6.Perm Qj9->(∀p∈ps,∃i:Nat,ks[i]?=yz p.1/\xs[i]?=yz p.2)->(∀(i:Nat) (x:Addr),xs[i]?=yz x->QR.is s.heap Q1T x) ->
   (∀s' L,Moved (Sa::wr) G s s'->SetR prog w s'.heap Sa ld L->(L.map Qu).Perm QC6->(∀p∈L,∃i:Nat,ks[i]?=yz p.1/\xs[i]?=yz p.2)->R QkD s')->Vco Q6 A (.builtin "set.update.loop" ⟨[.ref Sa,.ref I],[]⟩) R s:=by
 let hw:Sa ∉ wr:=λh=>hf QDY;let sub:∀b∈wr,b∈Sa::wr:=λb hb=>V4 _ hb;intro k;induction k with
 |zero=>
  intro i s ps hk hi st S p B hr hR;obtain rfl:i=n:=by omega
  calc Vay Ve0 ?_;rw[Va8 Vcs _];show Vg _ A.in1 Qb7 _ _ s;calc Va QHG;show Vg _ A.in1 QPR _ _ s';calc Vd (hR s' ps QuE (S.mov Q9I λp hp o e=>?_) (by rwa [<-hn,Vfz]at p) B);let⟨j,_,e2⟩:=B p hp;exact m.heap _ o (hx _ QAf).2 e|succ k ih=>
  intro i s ps hk hi st S p B hr hR;let lt:i<n:=by omega
  calc Vay Ve0 ?_;rw[Va8 Vcs _];show Vg _ A.in1 Qb7 _ _ s;calc Va (W.item i s _ _ lt st λv s' hv af m=>?_);let⟨x,rfl,ex⟩:=hP i v hv;let aa:∀y∈xs,∀o,s.heap.get? y=yz o->s'.heap.get? y=yz o:=λy hy o e=>m.heap y o (hx y hy).2 e;let S1:=S.mov Q9I (λq hq o e=>by let⟨j,_,e2⟩:=B q hq;calc aa _ QAf o e);show Vg _ A.in1 (Vd6 [Ux x] (setAdd Sa Qq6) >>= _) _ _ s';let le:=X8j ks i;let pl:Qq5=Qj9.length:=by rw[<-p.length_eq,Vf]
  calc Va (Uy (Xru (show A.in1.units<Vbt from hu) S1 (Xel (hr i x ex) (aa x (V5 ex))) Q0 λh' L sb S' q=>?_));let ab:∀q∈L,∃i:Nat,ks[i]?=yz q.1/\xs[i]?=yz q.2:=λz hz=>by
   rcases q with⟨_,rfl⟩|⟨_,q2⟩;·exact B z hz
   ·rcases Uo.mp (q2.mem_iff.mp hz) with hz|hz;·exact B z hz
    ·rw[V6]at hz;subst hz;exact⟨i,by simp![List.getD,show i<lg ks by omega],ex⟩
  calc Vd ⟨Ved Vcs _,ih QC2 _ L Q0 lt (W.frame _ s' _ _ af QPb λb hb o e=>?_) S' ?_ ab (λj y ey=>Xel (Xel (hr j y ey) (aa y QPY)) λo e=>?_) λah ac ag ai aj ae=>?_⟩;·rw[sb.2 b (λz:b=Sa=>hf QGc)];exact e
  ·rw[Xzx ks i Q0];unfold ddR;rcases q with⟨q1,rfl⟩|⟨q1,q2⟩;·rw[iP0 Q9P];exact p
   ·rw[iN0 Q4U];let:=q2.map Qu;rw[Val]at this;exact this.trans Q4O
  ·rw[sb.2 y (hx y QPY).1];exact e
  calc hR ah ac (Moved.trans W.gtrans (QuE.then_heap QPb λb o hb e=>?_) ag) ai aj ae;rw[sb.2 b (λz:b=Sa=>hb Q7U)];calc e
universe e
universe Z
universe e
section
namespace Z
open PySem PySem.SetTable PySem.Spec PyProof.Rows
section
variable{prog:V0}{w:V9}{A:Uu}{E:VP}{s:Vc}
def Xog {h:Heap} {ld:Bool} {a:Addr} (e:h.get? a=yz Qj6):SetR prog w h a ld []:=
 ⟨_,#[],0,.fresh 0 0 ld,e,QHF,rfl,⟨rfl,λp B=>by cases B⟩,⟨Xro ld,λj h x L=>by simp![Ats,SetTable.fresh]at L⟩,rfl⟩
def Xwr(b:Bool){l:Addr}{items:AV}{rs:LL}{xs:LR}{Q:VP}(hh:A.handled=yy)(hu:A.units+9<Vbt)(hl:Xn9 b s.heap l items)(hi:items.toList=xs.map Ux)(aa:(lg rs)=lg xs)(L:∀(i:Nat) (x:Addr),xs[i]?=yz x->QR.is s.heap (rs.getD i []) x)(hb:Qbc.length<1200)
  (h:∀(h':Heap) (tk:Nat) (ps:List Qj1),SetR prog w h' s.heap.objs.size QqV ps->Qa6.Perm Qbc->(∀p∈ps,∃i:Nat,rs[i]?=yz p.1/\xs[i]?=yz p.2)->QI0->Q QC Qt):
  Vg Q6 A QM7 Q E s:=by
 let⟨lS,St,W,st⟩:=Xrp (prog:=prog) (w:=w) b hh hl;let hz:items.size=lg rs:=by rw[<-Vz,hi,Vf,aa]
 let ab:∀x∈xs,x<s.heap.objs.size:=λx hx=>by let⟨i,e⟩:=Vd9.mp hx;let⟨o,_,_,ho,_⟩:=L i x e;exact Vy ho
 exact Xma b hl (R:=λB=>Q QC B) Q4Z λR' ae=>Xzy W s.heap.objs.size Qic rs xs hz.symm (λi v hv=>?_) (λx hx=>⟨Uj Qua,?_⟩) Qw7 hb Q3T 0 _ [] rfl QL8 st (Xog Q2b) QKY (λp hp=>by cases hp) (λi x e=>Xel (L i x e) λo ho=>Ve _ (Ve _ ho)) λs' ps m S' p ac=>ae s' ?_
 ·rw[<-Ud,hi,Ui]at hv;cases e:xs[i]? with
  |none=>rw[e]at hv;cases hv|some x=>rw[e]at hv;cases hv;exact⟨x,rfl,rfl⟩
 ·rw[Vam];simp[Vu,Vbe,or_false];exact Uj (Vbg Qua)
 let⟨h',tk,rfl,k'⟩:=Xv3 m Q3b;calc h _ _ ps S' p ac k'
universe e
universe Z
universe e
section
namespace Z
open PySem PySem.SetTable PySem.Spec PyProof.Rows L2
def Xzz{prog:V0}{w:V9}{ks:LI}{vs:LV}(h:ItemsAre Q81 ks vs):Vbv vs ks:=by
 induction h with
 |nil=>calc .nil|@cons k v ks vs h1 _ ih=>let⟨t,rfl⟩:=Vg6 h1;calc .cons k t ih
def X8k{prog:V0}{w:V9}{h:Heap}{k:LI}{x:Addr}(r:QR.is h k x):Row h k Qq6:=by let⟨o,its,m,B,L,hd,hi⟩:=r;calc⟨x,its.toList,rfl,⟨o,B,L,m,by rw[hd]⟩,Xzz hi⟩
section
variable{prog:V0}{w:V9}{A:Uu}{E:VP}{s:Vc}
def Xjj{Sa:Addr}{ps:List Qj1}{Q:VP}(hh:A.handled=yy)(hu:A.units+9<Vbt)(S:SetR prog w s.heap Sa QqV ps)(ae:Qa6.Nodup)(hn:Qq5<100000)
  (h:∀(qs:List Qj1) (h':Heap) (tk r e:Nat),qs.Perm ps->PwL QdG->QI0->s.heap.objs.size<=r->h'.get? r=yz (Vak "list" QrB.toArray e)->Q QaO Qt):
  Vg Q6 A (call QU2 [.ref Sa]) Q E s:=by
 let⟨o,es,ep,t,ho,ac,hd,m,T,hl⟩:=S;let ln:=m.len;calc Vel kind_sorted plain_sorted entry_sorted QWA ?_;unfold Vbb.«sorted»;calc Va (m:=checkCount "sorted" 1 1 _) (Vd (Va (Xh1 (show A.in1.handled=yy from hh) ho ac hd T.toTab hl λh1 tk kp le=>?_)));let⟨qs,qp,qe⟩:=Xby (Xcg w Sa ep es) ps m.1;let ev:(Xan w Sa ep es).map QG0=qs.map λq=>Ux q.2:=by rw[qe,Vbq];rfl
 rw[ev];let aa:∀q∈qs,Row h1 q.1 (.ref q.2):=λq hq=>(X8k (m.2 q QHD)).keep kp;let ab:QdG.Nodup:=(qp.map Qu).nodup_iff.mpr ae;let lq:=qp.length_eq;let ez:QrB=QeH.map QG0:=by rw[Vbq];rfl
 calc Va (Vf7 ?_ (by rw[Va6,Vf];omega));let⟨hp,g,dr,ag,os⟩:=s;replace kp:∀b u,hp.get? b=yz u->h1.get? b=yz u:=kp;replace le:hp.objs.size<=h1.objs.size:=le;rw[ez];generalize B:QeH=ts;show Vg _ _ QO4 _ _ ⟨h1.push Qs5,g,dr,tk,os⟩;let oL:(h1.push Qs5).get? h1.objs.size=yz Qs5:=Vm _ rfl;calc Va (Uy (Us Vip QMJ Vh9 (Xwp (qs:=ts) Qw7 oL (by rw[<-B,Vf];omega) (λq hq=>?_) λrs r1 r2=>Qn5) Q0S));·rw[<-B]at hq;let⟨p,af,rfl⟩:=Vs.mp hq;exact(aa p af).keep λb o q=>Ve _ q
 ·rw[<-B]at r1;let⟨zs,z1,rfl⟩:=Xby r1 _ rfl;let⟨e3,L⟩:=sortedHeap_at (out:=((zs.map λq=>(q.1,Ux q.2)).map QG0).toArray) oL;rw[Vbq]at r2;calc Vd ⟨_,rfl,h zs _ tk _ e3 (z1.trans qp) (WkL.pw r2 ((z1.map Qu).nodup_iff.mpr ab)) (λb u hb=>?_) le ?_⟩;·let lb:b<h1.objs.size:=Uf Qze le;rw[sortedHeap_old QQY QZF];exact Ve _ Q6N
  ·rw[Vbq]at L |-;calc L
universe e
universe Z
universe e
section
namespace Z
open PySem PySem.Spec PyProof.Rows L2
section
variable{X:Cx}{pc:LA}{σ:L2.St}{H:Hp}{s:Vc}{ρ:LR}{S:Sto}{env:En}{K:Vh}{Da:Addr}
abbrev Xtl(X:Cx)(Da:Addr)(ks:LI):HO:=.ext λh=>SetI X.prog X.w h Da QjE ks
def X3w{ks:LI}{h:Heap}(S:SetI X.prog X.w h Da QjE ks):ObjOk X.prog X.w H h Da QqU:=
 ⟨S,let ⟨o,_,_,_,ho,_⟩:=S;QxQ,λh1 h2 x k=>SetI.keep x k⟩
def Xa8:∀l:LI,Xf QZ=yz l
 |[]=>rfl|x::l=>by rw[Uk,Xf,Xa8 l];rfl
variable{d:Nat}
def Xoh{prog:V0}{w:V9}:∀ {es:List Q41},ElemsOf Q81 es->Vbv (es.map QG0) (es.map λe=>Xcf e.2)
 |[],_=>.nil|e::es,h=>by let⟨i,t,q⟩:=Xrl h V8;simp[Uk,q];calc .cons i t (Xoh h.tail)
def Xtm{E:VP}{ns ks:LI}(hh:X.A.handled=yy)(I:S0 X pc σ H s ρ S env)(hD:H Da=yz QqU)(p:ks.Perm QD6)(hz:QD6.length<60):
  Vg Q2 X.A (call QU2 [.ref Da]) (λw s'=>OkP X pc σ ρ H (Xb1 QQ S) w s') E s:=by
 let⟨o,es,ep,t,ho,ae,hd,ag,L,T,hl⟩:=(show SetI X.prog X.w s.heap Da QjE ks from(I.inv.hok Da _ hD).1);calc Vel kind_sorted plain_sorted entry_sorted QWA ?_;unfold Vbb.«sorted»;calc Va (m:=checkCount "sorted" 1 1 _) (Vd (Va (Xh1 (show X.A.in1.handled=yy from hh) ho ae hd T hl λh1 tk kp le=>?_)));let op:=Xcg X.w Da ep es;let len:QG6.length<60:=by rw[op.length_eq,<-Vf (f:=λe=>Xcf e.2),<-L,p.length_eq];exact hz
 let aa:ElemsOf QeQ QG6:=ag.perm op;let hI:=Xoh aa;let pk:QYK.Perm QD6:=(op.map λe=>Xcf e.2).trans (L▸p);generalize QG6.map QG0=vs at hI;let lv:Qn2<60:=by rw[hI.length,Vf];exact len
 generalize QYK=ms at hI pk;calc Va QeW;let⟨hp,g,dr,ah,os⟩:=s;replace kp:∀b u,hp.get? b=yz u->h1.get? b=yz u:=kp;replace le:hp.objs.size<=h1.objs.size:=le;show Vg _ _ _ _ _ ⟨h1.push Qm1,g,dr,tk,os⟩;let oL:QVU.get? h1.objs.size=yz Qm1:=Vm _ rfl;show Vg _ _ QO4 _ _ _;exact Va (Uy (Us Vip QMJ Vh9 (list_sort_tree oL hI Q0 λout af a1 a2 a3=>⟨_,rfl,Vd Qn5⟩) Q0S))
 let ab:af=Xbt QD6:=PySem.W.ksm_same ((a2.trans pk).trans Qqe.symm) a3 (Xg6 _);subst ab;let⟨e3,ac⟩:=sortedHeap_at (out:=out) oL;let J:=I.inv.laid (o:=.lst (QBb.map V.int)) (t':=tk) (h':=sortedHeap QVU h1.objs.size vs out) (λb u hb=>by
  let lb:b<h1.objs.size:=Uf Qze le;rw[sortedHeap_old QQY QZF]
  calc Ve _ Q6N) le
  ⟨by rw[Vf,Qqe.length_eq,Va6];omega,out.toList,e3,Xdv a1,by simpa [Vak] using ac⟩
 let B:Xb1 QQ S=.ok Q7 (S++[.lst (QBb.map D.int)]):=by simp[Xb1,Xa8,hz,if_true]
 rw[B];calc Y7 J (I.inv.hok.fresh le) I.sr Qme
variable{t:Tg}
def Xmc{K:Vh}:∀ {ks:LL} {B:LW} {its:LV},RDs K ρ H QlA B->Vals B its->∃xa:LR,its=xa.map Ux/\QDB=lg xa/\∀(i:Nat) (x:Addr),xa[i]?=yz x->SqT K H x Qr8
 |[],B,its,h,v=>by simp[Vgj,RDs]at h;subst h;cases v;exact⟨[],rfl,rfl,λi x e=>by simp! at e⟩|k::ks,B,its,h,v=>by
  simp[Uk,RDs]at h;let⟨v1,aa,rfl,h1,h2⟩:=h;cases v with
  |cons r L=>
   let⟨xa,e1,e2,e3⟩:=Xmc h2 L;simp[RD]at h1;let⟨b,zs,rfl,hs,hz⟩:=h1;let ez:=hz.ints_of;subst ez;cases r;calc⟨b::xa,by rw[e1];rfl,by simp![e2],λi x e=>?_⟩;cases i with
   |zero=>cases e;calc hs|succ i=>calc e3 i x QT9
def Xik{K:Vh}:∀(qs:List Qj1),(∀q∈qs,SqT K H q.2 QQR)->RDs K ρ H (QdG.map λk=>.tup Qs1) Q8A
 |[]=>λ_=>by simp[Vgj,RDs]|q::qs=>λh=>by simp[Uk,RDs];calc⟨_,_,rfl,?_,Xik qs λz hz=>h z (V4 _ hz)⟩;simp[RD];calc⟨q.2,_,rfl,h q V8,Xfd q.1⟩
def Xgg:∀qs:List Qj1,Vals Q8A QrB
 |[]=>.nil|q::qs=>.cons rfl (Xgg qs)
def Xoi:∀ks:LL,Y6 QfJ=yz ks
 |[]=>rfl|k::ks=>by rw[Uk,Y6,Xa8,Xoi ks];rfl
def Xz0{E:VP}{h':Heap}{tk:Nat}{ks:LL}{xa:LR}{ps:List Qj1}(hu:X.A.units+200<Vbt)(hh:X.A.handled=yy)(I:S0 X pc σ H s ρ S env)(hx:∀(i:Nat) (x:Addr),xa[i]?=yz x->SqT X.K H x Qr8)
  (S2:SetR X.prog X.w h' s.heap.objs.size QjE ps) (p:Qa6.Perm QC6) (ac:∀p∈ps,∃i:Nat,ks[i]?=yz p.1/\xa[i]?=yz p.2) (kp:∀b o,s.heap.get? b=yz o->h'.get? b=yz o) (hz:QC6.length<1000) (ab:Xf QfJ=yy):
  Vg Q2 X.A (call QU2 [.ref s.heap.objs.size]) (λw s'=>OkP X pc σ ρ H (Xb1 QlA S) w s') E Qt:=by
 let lp:Qq5<100000:=by rw[<-Vf (f:=Qu),p.length_eq];omega
 let lt:s.heap.objs.size<h'.objs.size:=by let⟨o,_,_,_,ho,_⟩:=S2;exact Vy ho
 exact Xjj (s:=Qt) hh Q0 S2 (p.nodup_iff.mpr Qsc) lp λB h2 ae r e qp pw k2 le he=>?_;let e1:B.map Qu=Yd QC6:=Xkn ((QzM.trans p).trans Qve.symm) pw (Xch _ Qsc);let hq:∀q∈B,SqT X.K H q.2 QQR:=λq hq=>by let⟨i,a1,a2⟩:=ac q QHD;let:=hx i q.2 a2;rwa [Vbd,a1]at this
 let aa:s.heap.objs.size<=r:=V2 (Vc2 lt) le;let J:=I.inv.laid (o:=.lst (B.map λq=>V.ref q.2)) (t':=ae) (h':=h2) (λb u hb=>k2 b u Q6N) aa
  ⟨by rw[Vf,qp.length_eq,Va6];omega,B.map λq=>Ux q.2,e,Xgg B,by simpa [Vak] using he⟩
 let L:Xb1 QlA S=.ok Q7 (S++[.lst (QhP.map λk=>.tup Qs1)]):=by simp[Xb1,ab,Xoi,hz,if_true,e1]
 rw[L];calc Y7 J (I.inv.hok.fresh aa) I.sr (Xik B hq)
def S0.seqB{d:D}{xs:LD}{v:V}{u:Vb}(I:S0 X pc σ H s ρ S env)(h:Xi S d=yz xs)(rd:RD X.K ρ H d v)(rv:RelV v u):∃b a vs its,u=.ref a/\Xn9 b s.heap a its.toArray/\RDs X.K ρ H xs vs/\Vals vs its:=by
 let⟨a,vs,its,rfl,hs,L,B,_⟩:=I.seqI h rd rv;rcases hs with hs|hs;·exact⟨yx,a,vs,its,rfl,hs,L,B⟩
 ·calc⟨yw,a,vs,its,rfl,hs,L,B⟩
def Ycm {a:Expr} {f:En->Sto->R D} {p0 p2 pos ac:Pos} (hu:X.A.units+200<Vbt) (hc:X.calm=yx) (ah:Gl X "sorted") (ag:X.mg "sorted"=yy) (ak:Gl X "set") (aj:X.mg "set"=yy) (ha:DE X a f) (hs:Ue [a] X.env=QZ2::Ue [] X.env):
  DE X (.Call QnN [.Call QuF [a] [] ac] [] pos) (λenv S=>Qa0.bind λx S=>match Xi S x with
   |some xs=>Xb1 xs S
   |none=>.bad):=by
 intro pc s σ H ρ S env I nb;dsimp at nb |-;calc Vaq (X8 I.inv ah ag (u:=.builtin "sorted") Q9 (Vbc (Vb2 ?_ rfl) rfl rfl) Q1 rfl);calc Vaq (X8 I.inv ak aj (u:=.type "set") Q9 (Vad QLY hs rfl) Q1 rfl);calc ha.bind I nb rfl (λd S1 u s1 v H1 aa e1 B L rv rd ab=>Vbj ?_) λ_ _ z=>z;rw[e1];cases e:Xi S1 d with
 |none=>rw[e]at B;cases B rfl|some xs=>
  rw[e]at B;dsimp at B |-;let⟨b,p,ws,its,rfl,hq,hr,af⟩:=L.seqB e rd rv;cases e2:Xf xs with
  |none=>
   cases e3:Y6 xs with
   |none=>simp[Xb1,e2,e3]at B;cases B rfl|some ks=>
    let hz:QC6.length<1000:=by
     by_cases c:QC6.length<1000;·exact c
     ·simp[Xb1,e2,e3,c,if_false]at B;cases B rfl
    let qx:=Xdk e3;subst qx;let⟨xa,x1,x2,x3⟩:=Xmc hr af;calc Xwr b (s:=s1) (rs:=ks) (xs:=xa) (show X.A.handled=yy from L.inv.ok.hd hc) Q0 hq (by simpa using x1) x2 (λi x e=>Xke L.inv (x3 i x e)) Q0 λh' tk ps S2 p ai kp=>Vbj ?_;calc Vp (Xz0 (E:=λ_ _=>False) hu QhQ L x3 S2 p ai kp hz e2) (λw s2 z=>z.pre ab) λ_ _ z=>z.elim
  |some ns=>
   let hz:QD6.length<60:=by
    by_cases c:QD6.length<60;·exact c
    ·simp[Xb1,e2,c,if_false]at B;cases B rfl
   let qx:=Yr e2;subst qx;let hw:=hr.ints_of;subst hw;calc Xv5 b (s:=s1) (show X.A.handled=yy from L.inv.ok.hd hc) hq (by simpa using Xap af) hz λh' tk ks S2 p kp=>Vbj ?_;let hp:H1 s1.heap.objs.size=none:=L.inv.hok.fresh Qw;let J:=L.inv.laid (o:=Xtl X s1.heap.objs.size ks) (t':=tk) kp Qw (X3w S2);let ae:Stp X.K aa aa H1 (upd H1 s1.heap.objs.size (Xtl X s1.heap.objs.size ks)):=Stp.upd hp;calc Vp (Xtm (E:=λ_ _=>False) QhQ ⟨J,L.sr.upd hp,L.er.mono ae⟩ Xu p hz) (λw s2 z=>z.pre (ab.trans ae)) λ_ _ z=>z.elim
def X8l{h':Heap}{tk:Nat}{ks:LL}{xa:LR}{ps:List Qj1}(I:S0 X pc σ H s ρ S env)(hx:∀(i:Nat) (x:Addr),xa[i]?=yz x->SqT X.K H x Qr8)
  (S2:SetR X.prog X.w h' s.heap.objs.size QjE ps) (p:Qa6.Perm QC6) (aa:∀p∈ps,∃i:Nat,ks[i]?=yz p.1/\xa[i]?=yz p.2) (kp:∀b o,s.heap.get? b=yz o->h'.get? b=yz o):
  OkP X pc σ ρ H (.ok Q7 (S++[.st QC6])) QC Qt:=by
 let L:H s.heap.objs.size=none:=I.inv.hok.fresh Qw;let⟨o,es,ep,t,ho,B,hd,m,T,hl⟩:=S2;let J:=I.inv.laid (o:=.ext (StO QV1 s.heap.objs.size ps)) (t':=tk) kp Qw (StO.ok ⟨o,es,ep,t,ho,B,hd,m.1,T,hl⟩);calc .mk (v:=.ref s.heap.objs.size) (ρ':=ρ++Q7E) (Stp.new1 L) J rfl ?_ (I.sr.new1 L ⟨ps,Xu,λq hq=>?_,p,Xek ks⟩);·simp[RD];exact Q5D
 ·let⟨i,a1,a2⟩:=aa q hq;let:=hx i q.2 a2;rw[Vbd,a1]at this;calc(Stp.new1 (K:=X.K) (ρ:=ρ) L).tup _ _ this
universe e
universe Z
universe e
section
namespace Z
open PySem PySem.SetTable PySem.Spec PyProof.Rows L2
section
variable{prog:V0}{w:V9}{A:Uu}{E:VP}{s:Vc}
set_option maxHeartbeats 1000000 in
def Xws{Q:VP}(h:Q QC QA2):Vg Q6 A (call (.type "set") []) Q E s:=by
 let⟨c,tl,ag⟩:=PySem.F.called_set.mro;let af:=PySem.F.called_set.made;let ac:=PySem.F.called_set.sub;calc wpAny_call Q3d;show Vg _ _ QGI _ _ _;calc Vd ⟨Vgs _ Q9,Vay PySem.F.entry_type_call ?_⟩;rw[Around.under_plain (weight_type_call_type "set" [] []) rfl];let h1:=PySem.F.called_set.notType;let h2:=PySem.F.called_set.canCreate;let aj:=PySem.F.typeCall_set_0
 repeat (any_goals (first|assumption|wp_step))
 exact Vd5 (show Vco Q6 _ (.call QGJ Q5B) (wants (λobj aa=>obj=.ref s.heap.objs.size/\aa=QA2) E) s from ?_) λr aa hr=>?_;·calc Vfa ?_;show Vg _ _ (do Vf0 "set.__new__" Q5B;again (.builtin "set.__new__" Q5B)) _ _ s;calc Va (Vga PySem.F.newCall_set_0 (Vd ⟨Ved PySem.F.plain_set_new _,Vay PySem.F.entry_set_new ?_⟩));rw[Va8 PySem.F.plain_set_new _];unfold Vbb.«set.__new__» Vi4;let ac:=sub_set_self;let⟨hp,g,d,tk,os⟩:=s;dsimp;wp_walk;calc Vdx Q71;dsimp;simp[newObj];exact Va (wpAny_alloc (Vd (Vd QD0)))
 cases r with
 |error e=>exact hr|ok fl=>
  cases fl with
  |ret obj=>
   let⟨rfl,rfl⟩:=hr;let hT:Shared.TypeIs QA2 QC "set" := Q04;let ai:=PySem.F.called_set.init.lookup;let ah:=PySem.F.called_set.init.bind QC
   repeat (any_goals (first|assumption|wp_step))
   exact Vd5 (Vf1 (R:=wants (λr L=>r=.none/\Q QC L) E) PySem.F.called_set.init.plain PySem.F.entry_set_init (check_set_init hT ?_)) λae L B=>?_;·unfold Vbb.«set.__init__» noKeywords;wp_walk;exact QqO
   ·cases ae with
    |error e=>exact B|ok ab=>
     cases ab with
     |ret r=>
      let⟨rfl,hq⟩:=B
      repeat (any_goals (first|assumption|wp_step))|_=>calc B.elim
  |_=>calc hr.elim
def Xwt{a x:Addr}{ld:Bool}{ps:List Qj1}{k:LI}{Q:VP}(hu:A.units+1<Vbt)(S:SetR prog w s.heap a ld ps)(hk:QR.is s.heap k x)(hn:Qq5<1200)
  (h:∀h' B,U6 a s.heap h'->SetR prog w h' a ld B->Q6L\/QFB->Q .none QB5):
  Vg Q6 A QgH Q E s:=by
 let⟨o,es,ep,t,ho,L,hd,m,T,hl⟩:=id S;calc Us Vib ⟨o,ho,L.1⟩ PySem.F.entry_set_add ?_ (PySem.F.args_set_add_2 _ _);unfold Vbb.«set.add» Builtin.Frozenset.oneOther;simp[List.isEmpty_nil,bind_assoc];unfold Builtin.Frozenset.addrOf;exact Va Q71
 try dsimp
 exact Va Q71
 try dsimp
 calc Va (Xru Qw7 S hk hn λh' B sb S' q=>?_);show Vg _ _ QPR _ _ _;calc Vd ⟨_,rfl,h h' B sb S' q⟩
variable{X:Cx}{pc:LA}{σ:L2.St}{H:Hp}{ρ:LR}{S:Sto}{env:En}
def S0.sett{n:Nat}{ks:LL}(I:S0 X pc σ H s ρ S env)(h:Xbg S n=yz ks):∃a ps,ρ[n]?=yz a/\H a=yz QpL/\(∀p∈ps,SqT X.K H p.2 QAB)/\Qa6.Perm ks/\ks.Nodup/\SetR X.prog X.w s.heap a QV1 ps:=by
 unfold Xbg at h;cases e:S[n]? with
 |none=>rw[e]at h;cases h|some ob=>
  rw[e]at h;cases ob with
  |st aa=>cases h;let⟨a,L,ps,h1,h2,h3,h4⟩:=I.sr.adr e;let⟨⟨o,es,ep,t,ho,B,hd,he,T,hl⟩,_,_⟩:=(show ObjOk X.prog X.w H s.heap a QpL from I.inv.hok a _ h1);calc⟨a,ps,L,h1,h2,h3,h4,o,es,ep,t,ho,B,hd,⟨he,λp hp=>Xke I.inv Qna⟩,T,hl⟩|_=>cases h
def Ycn {p2 B:Pos} (L:Gl X "set") (aa:X.mg "set"=yy):DE X (.Call QuF [] [] B) (λ_ S=>.ok Q7 QJd):=by intro pc s σ H ρ S env I nb;dsimp at nb |-;calc Vaq (X8 I.inv L aa (u:=.type "set") Q9 (PyProof.Rows.callWith_type0 (Xws ?_)) Q1 rfl);calc X8l (ks:=[]) (xa:=[]) (ps:=[]) I (λi x e=>by simp! at e) (Xog QS3) QKY (λp hp=>nomatch hp) Q5P
def Xz1{ps B:List Qj1}{ks:LL}{k:LI}{x:Addr}(p:Qa6.Perm ks)(nd:ks.Nodup)(q:Q6L\/QFB):QhP.Perm QeB/\QeB.Nodup:=by
 unfold ddR;rcases q with⟨q,rfl⟩|⟨q,r⟩;·rw[iP0 (p.mem_iff.mp q)];exact⟨p,nd⟩
 ·let L:k ∉ ks:=λz=>q QEE;rw[iN0 L];calc⟨(r.map Qu).trans ?_,?_⟩;·rw[Val];exact p.append QZS
  ·rw[Vcg];calc⟨nd,by simp!,λa ha b hb z=>L (by rw[V6.mp hb]at z;calc z▸ha)⟩
def X3x{n:Nat}{ks:LL}{k:LI}{a x:Addr}{v:V}{E:VP}(hu:X.A.units+1<Vbt)(I:S0 X pc σ H s ρ S env)(h:Xbg S n=yz ks)(hn:QDB<1000)(rd:RD X.K ρ H QQ1 Q40)(hk:SqT X.K H x QPU):
  Vg Q2 X.A QgH (OkP X pc σ ρ H (.ok .non QVN)) E s:=by
 let⟨a',ps,ha,h1,h2,h3,h4,S2⟩:=I.sett h;rw[RD]at rd;let⟨b,e,L⟩:=rd;cases e;rw[ha]at L;cases L;let lp:Qq5<1200:=by rw[<-Vf (f:=Qu),h3.length_eq];omega
 exact Xwt hu S2 (Xke I.inv hk) lp λh' B sb S' q=>?_;let⟨o,es,ep,t,ho,aa,hd,m,T,hl⟩:=S';let nf:∀o u,H a≠yz QW1:=λo u z=>by rw[h1]at z;cases z
 let⟨p1,p2⟩:=Xz1 h3 h4 q;let J:Inv X pc σ QqE QB5:=by exact I.inv.write (x:=a) (e:=a) (by rw[h1];trivial) Qd0 (λb w hb z=>by rw[sb.2 b hb];calc z) QxQ (StO.ok ⟨o,es,ep,t,ho,aa,hd,m.1,T,hl⟩)
 let st:Stp X.K ρ ρ H QqE:=Stp.chg (S:=S) (o:=.st QeB) I.sr ha nf;calc .mk (v:=.non) st J rfl Qt1 (I.sr.chg ha nf ⟨B,Xu,λp hp=>st.tup _ _ ?_,p1,p2⟩);rcases q with⟨_,rfl⟩|⟨_,r⟩;·exact h2 p hp
 ·rcases Uo.mp (r.mem_iff.mp hp) with z|z;·exact h2 p z
  ·rw[V6.mp z];calc hk
def Yco{o e:Expr}{es:LX}{apos cpos:Pos}{fo:En->Sto->R D}{g:En->Sto->R (LD)}(hu:X.A.units+1<Vbt)(ho:DE X o fo)(ha:DA X QD4 g)
  (aa:attributeBase o "add" X.env QEI=eval o X.env)
  (ac:Ql0=yx)
  (ab:QKI=yx) (hs:Ue QD4 X.env=QT5::Ue es X.env) (L:QLT.any Qu=yw):
  DE X (.Call (.Attribute o "add" apos) QD4 [] cpos) (λenv S=>QpI.bind λx S=>if Xie S x then Qc5.bind λxs S=>Xd6 x xs S else .bad):=by
 intro pc s σ H ρ S env I B;dsimp at B |-;cases q:fo env S with
 |bad=>rw[q]at B;cases B rfl|ex n S1=>exact wpAny_Call_method aa ac ab PySem.F.plainAttrs_set Vib PySem.F.type_set_add QDI|ok x S1=>
  rw[q]at B;simp[Rk0]at B |-;let hk:Xie S1 x=true:=by
   cases c:Xie S1 x with
   |true=>rfl|false=>rw[c]at B;cases B rfl
  rw[iP0 hk]at B |-;obtain⟨n,ks,rfl,e1⟩:∃n ks,x=.ref n/\Xbg S1 n=yz ks:=by
   cases x with
   |ref n=>let⟨ks,e⟩:=Vde.mp (show(Xbg S1 n).isSome=yx from hk);exact⟨n,ks,rfl,e⟩|_=>cases hk
  calc wpAny_Call_method aa ac ab PySem.F.plainAttrs_set Vib PySem.F.type_set_add (ho.ok I q λu s1 v H1 an I1 rv rd ag=>?_);let⟨a,ps,ak,_,_,_,_,⟨ob,_,_,_,af,ah,_⟩⟩:=I1.sett e1;let ae:=rd;rw[RD]at ae;let⟨a',rfl,aj⟩:=ae;rw[ak]at aj;cases aj;cases rv;calc⟨⟨ob,af,ah.1⟩,λb eb=>by cases eb;calc⟨ob,af,ah.2.1⟩,?_⟩;cases q2:g env S1 with
  |bad=>rw[q2]at B;cases B rfl|ex k S2=>let hA:=ha.ex (pos:=cpos) (E:=ExP X pc σ ρ H QwC) (Q:=λus s2=>Vg Q2 X.A Q9T QhF QZK s2) I1 q2 λx s' z=>.mk ag z;rw[hs]at hA |-;exact Vfh QqI QPO|ok ds S2=>
   rw[q2]at B;simp[Rk0]at B |-;let hA:=ha.ok (pos:=cpos) (E:=ExP X pc σ ρ H QxG) (Q:=λus s2=>Vg Q2 X.A Q9T (OkP X pc σ ρ H QxG) (ExP X pc σ ρ H QxG) s2) I1 q2 λus s2 vs H2 ao I2 am al ai=>by
    let hd:∃xs k ks,ds=QzT/\Xbg S2 n=yz ks/\Xf xs=yz k/\QDB<1000/\Xd6 QQ1 ds S2=.ok .non (S2.set n (.st QeB)):=by
     unfold Xd6 at B;dsimp at B;split at B
     ·rename_i xs;cases w1:Xbg S2 n with
      |none=>rw[w1]at B;cases B rfl|some ks=>
       rw[w1]at B;dsimp at B;cases w2:Xf xs with
       |none=>rw[w2]at B;cases B rfl|some k=>
        rw[w2]at B;dsimp at B;split at B;·rename_i hz;exact⟨xs,k,ks,rfl,rfl,w2,hz,by simp[Xd6,w1,w2,hz,if_true]⟩
        ·cases B rfl
     cases B rfl
    let⟨xs,k,ks,rfl,w1,w2,hz,er⟩:=hd;rw[er];let⟨y,rfl,r1⟩:=al.one;let⟨u,rfl,ru⟩:=am.one;let⟨b,rfl,hb⟩:=X62 w2 r1;cases ru;exact Vp (X3x (v:=.non) (E:=λ_ _=>False) hu I2 w1 hz (rd.mono ai) hb) (λw s3 z=>z.pre (ag.trans ai)) λ_ _ z=>z.elim
   rw[hs]at hA |-;calc Vfh QqI QPO
def Ycp {a:Expr} {f:En->Sto->R D} {p0 pos:Pos} (hu:X.A.units+200<Vbt) (hc:X.calm=yx) (ac:Gl X "sorted") (ab:X.mg "sorted"=yy) (ha:DE X a f) (hs:Ue [a] X.env=QZ2::Ue [] X.env):
  DE X (.Call QnN [a] [] pos) (λenv S=>Qa0.bind λx S=>Xm9 x S):=by
 intro pc s σ H ρ S env I nb;dsimp at nb |-;calc Vaq (X8 I.inv ac ab (u:=.builtin "sorted") Q9 (Vbc QLY hs rfl) Q1 rfl);calc ha.bind I nb rfl (λd S1 u s1 v H1 ah e1 B L rv rd ae=>Vbj ?_) λ_ _ z=>z;rw[e1];cases d with
 |ref n=>
  unfold Xm9 at B |-;dsimp at B |-;cases w1:Xbg S1 n with
  |none=>rw[w1]at B;cases B rfl|some ks=>
   rw[w1]at B;dsimp at B |-;split at B
   ·rename_i hz;rw[iP0 hz];let⟨b,ps,af,h1,h2,h3,h4,S2⟩:=L.sett w1;rw[RD]at rd;let⟨b',rfl,aa⟩:=rd;rw[af]at aa;cases aa;cases rv;let lp:Qq5<100000:=by rw[<-Vf (f:=Qu),h3.length_eq];omega
    exact Xjj (show X.A.handled=yy from L.inv.ok.hd hc) Q0 S2 (h3.nodup_iff.mpr h4) lp λqs h' tk r e qp pw k2 le he=>?_;let ag:qs.map Qu=Yd ks:=Xkn ((QzM.trans h3).trans Qve.symm) pw (Xch _ h4);let J:=L.inv.laid (o:=.lst Q8A) (t':=tk) (h':=h') k2 le
     ⟨by rw[Vf,qp.length_eq,Va6];omega,qs.map λq=>Ux q.2,e,Xgg qs,by simpa [Vak] using he⟩
    rw[<-ag];exact OkP.pre ae (Y7 J (L.inv.hok.fresh le) L.sr (Xik qs λq hq=>h2 q QHD))
   cases B rfl
 |_=>cases B rfl
universe e
universe Z
universe e
section
namespace Z
open PySem PySem.Spec PyProof.Rows L2
section
variable{K:Vh}{ρ ρ':LR}{H H':Hp}{S S':Sto}
mutual
def Xtn:∀ {d:D} {v:V},RD K ρ H d v->bdD ρ.length d=yx
 |.ref n=>λh=>by simp[RD]at h;let⟨a,_,h⟩:=h;exact decide_eq_true QH8.1|.tup xs=>λh=>by simp[RD]at h;let⟨_,_,_,_,h⟩:=h;exact rds_bd h|.fro xs=>λh=>by simp[RD]at h;let⟨_,_,_,_,h⟩:=h;exact rds_bd h|.non=>λ_=>rfl|.bl _=>λ_=>rfl|.int _=>λ_=>rfl|.str _=>λ_=>rfl|.fn _ _=>λ_=>rfl|.edc=>λ_=>rfl
def rds_bd:∀ {ds:LD} {vs:LW},RDs K ρ H ds vs->bdDs ρ.length ds=yx
 |[]=>λ_=>rfl|d::ds=>λh=>by simp[RDs]at h;let⟨_,_,_,h1,h2⟩:=h;rw[bdDs,Xtn h1,rds_bd h2];rfl
end
mutual
def Xmu(k:∀(n:Nat) a,n < ρ.length->ρ'[n]?=yz a->ρ[n]?=yz a):∀ {d:D} {v:V},RD K ρ' H d v->bdD ρ.length d=yx->RD K ρ H d v
 |.ref n=>λh b=>by simp[RD]at h |-;let⟨a,e,h⟩:=h;exact⟨a,e,k n a (oD0 b) h⟩|.tup xs=>λh b=>by simp[RD]at h |-;let⟨a,vs,e,h1,h⟩:=h;exact QUH|.fro xs=>λh b=>by simp[RD]at h |-;let⟨a,vs,e,h1,h⟩:=h;exact QUH|.non=>λh _=>by simpa only[RD] using h|.bl _=>λh _=>by simpa only[RD] using h|.int _=>λh _=>by simpa only[RD] using h|.str _=>λh _=>by simpa only[RD] using h|.fn _ _=>λh _=>by simpa only[RD] using h|.edc=>λh _=>by simpa only[RD] using h
def rds_lo(k:∀(n:Nat) a,n < ρ.length->ρ'[n]?=yz a->ρ[n]?=yz a):∀ {ds:LD} {vs:LW},RDs K ρ' H ds vs->bdDs ρ.length ds=yx->RDs K ρ H ds vs
 |[]=>λh _=>by simpa only[RDs] using h|d::ds=>λh b=>by simp[RDs]at h |-;let⟨v,r,e,h1,h2⟩:=h;rw[bdDs,bA0]at b;exact⟨v,r,e,Xmu k h1 b.1,rds_lo k h2 b.2⟩
end
def X1s{kvs:List QbE}{xs:List QN5}(h:DX K ρ H kvs xs):QsD=true:=by
 induction h with
 |nil=>rfl|cons r _ ih=>rw[Vas,Xtn r.2.2,ih];rfl
def X1t(k:∀(n:Nat) a,n < ρ.length->ρ'[n]?=yz a->ρ[n]?=yz a){kvs:List QbE}{xs:List QN5}(h:DX K ρ' H kvs xs)(b:QsD=yx):DX K ρ H kvs xs:=by
 induction h with
 |nil=>calc .nil|cons r _ ih=>rw[Vas,bA0]at b;calc .cons ⟨r.1,r.2.1,Xmu k r.2.2 b.1⟩ (ih b.2)
def Ycq{a:Addr}{o:O}(h:OR K bo ρ H a o):bdO ρ.length o=true:=by
 cases o with
 |lst xs=>let⟨vs,_,h⟩:=h;exact rds_bd h|dct kvs=>
  rcases h with⟨rfl,_⟩|⟨_,xs,_,h⟩;·rfl
  ·calc X1s h|fdc kvs=>let⟨_,_,_,_,_,_,_,h⟩:=h;calc X1s h|_=>rfl
def X1u(k:∀(n:Nat) a,n < ρ.length->ρ'[n]?=yz a->ρ[n]?=yz a){a:Addr}{o:O}(h:OR K bo ρ' H a o)(b:bdO ρ.length o=yx):OR K bo ρ H a o:=by
 cases o with
 |lst xs=>let⟨vs,h1,h⟩:=h;exact⟨vs,h1,rds_lo k h b⟩|dct kvs=>
  rcases h with h|⟨L,xs,h1,h⟩;·exact .inl h
  ·calc .inr ⟨L,xs,h1,X1t k h b⟩|fdc kvs=>let⟨o,u,xs,h1,h2,h3,B,h⟩:=h;calc⟨o,u,xs,h1,h2,h3,B,X1t k h b⟩|_=>calc h
def Xjk(st:Stp K ρ ρ' H H')(n:Nat)(a:Addr)(B:n < ρ.length)(h:ρ'[n]?=yz a):ρ[n]?=yz a:=by let e:=Uw B;rw[st.pre n _ e]at h;rw[e];calc h
def X1v(r:SR K bo ρ S H)(B:SR K bo ρ' S' H')(st:Stp K ρ ρ' H H')(k:Xe9 S S'):SR K bo ρ QaL H':=by
 calc⟨B.tab,by rw[Vag,r.len];calc(Vc0 k.1).symm,r.nd,λn a o h1 h2=>?_⟩;let L:n<lg S:=by rw[<-r.len];exact QXE.1
 rw[Vjj L]at h2;calc X1u QuU (B.ob n a o (st.pre n a h1) h2) ?_;rcases k.2 n o L h2 with e|e;·exact Ycq (r.ob n a o h1 e)
 ·rw[r.len];calc e
def Ycr(st:Stp K ρ ρ' H H'):Stp K ρ ρ H H':=⟨⟨λ_ _ h=>h,st.tup,st.frz⟩,λ_ h=>.inl h,st.keep⟩
def Ycs{B:LR}(st:Stp K ρ B H H'):Mon K ρ B H' H':=⟨st.pre,λ_ _ h=>h,λ_ _ _ h=>h⟩
def Xwu{n:Nat}{a:Addr}{o:O}(r:SR K bo ρ S H)(L:SR K bo ρ' S' H')(st:Stp K ρ ρ' H H')(k:Xe9 S S')(hn:QE<=n)(B:ρ'[n]?=yz a)(ho:S'[n]?=yz o)(b:bdO QE o=yx):
  SR K bo Q8R QaP H'/\Stp K ρ Q8R H H':=by
 let mo:Mon K ρ Q8R H' H':=⟨λn b h=>by rw[Vx QH8.1];calc h,λ_ _ h=>h,λ_ _ _ h=>h⟩;let g:=X1v r L st k;let na:a ∉ ρ:=λh=>by let⟨i,hi,e⟩:=Vbx.mp h;let e1:=st.pre i a (by rw[Uw hi,e]);let⟨h3,e3⟩:=Vk.mp e1;let⟨h4,e4⟩:=Vk.mp B;let:=(List.getElem_inj L.nd).mp QEO;let:=r.len;omega
 calc⟨⟨g.tab,by rw[Uc,Uc,g.len];rfl,?_,λm b ob h1 h2=>?_⟩,⟨mo.pre,λa xs h=>st.tup a xs h,st.frz⟩,λb hb=>?_,st.keep⟩;·rw[Vcg];calc Q26;rw[V6.mp hy];exact λz=>na Q6U
 ·by_cases hm:m < ρ.length;·rw[Vx hm]at h1;rw[Vx (by rw[<-g.len];calc hm)]at h2;exact(g.ob m b ob h1 h2).mono' mo rfl
  ·let e:m=lg ρ:=by
    let:=QXE.1;simp! at this;omega
   subst e;simp! at h1;rw[g.len]at h2;simp! at h2;subst h1 h2;exact(X1u QuU (L.ob n a o B ho) QHN).mono' mo rfl
 ·rcases Uo.mp hb with h|h;·exact .inl h
  ·rw[V6.mp h];calc st.new a QUb
def Xto(r:SR K bo ρ S H)(r':SR K bo ρ' S' H')(st:Stp K ρ ρ' H H')(rd:RD K ρ' H' d v)(B:gcR S QmP≠.bad):∃d1 S1 L,gcR S QmP=.ok d1 S1/\RD K L H' d1 v/\SR K bo L S1 H'/\Stp K ρ L H H':=by
 simp[gcR]at B |-;by_cases k:Xe9 S S'
 ·rw[iP0 k]at B |-;by_cases b:bdD QE d=yx;·rw[iP0 b];exact⟨d,_,ρ,rfl,Xmu QuU rd QHN,X1v r r' st k,Ycr st⟩
  ·rw[iN0 b]at B |-;cases d with
   |ref n=>
    dsimp at B |-;simp[RD]at rd;let⟨a,rfl,ha⟩:=rd;let⟨o,ho,_⟩:=r'.at ha;rw[ho]at B |-;dsimp at B |-;by_cases c:bdO QE o=yx;·rw[iP0 c];let⟨g1,g2⟩:=Xwu r r' st k (Vhp λz=>b (decide_eq_true z)) ha ho c;calc⟨_,_,_,rfl,?_,g1,g2⟩;simp[RD];exact⟨a,rfl,by rw[<-r.len];simp!⟩
    ·rw[iN0 c]at B;cases B rfl|_=>cases B rfl
 rw[iN0 k]at B;cases B rfl
def Xtp{n c:Nat}{a:Addr}(r:SR K bo ρ S H)(r':SR K bo ρ' S' H')(st:Stp K ρ ρ' H H')(ha:ρ'[n]?=yz a)(hc:S'[n]?=yz Qq3)(L:gcR S Q3a≠.bad):
  ∃S1 B,gcR S Q3a=.ex QE S1/\B[lg S]?=yz a/\S1[lg S]?=yz Qq3/\SR K bo B S1 H'/\Stp K ρ B H H':=by
 simp[gcR]at L |-;by_cases k:Xe9 S S'/\QE<=n
 ·rw[iP0 k]at L |-;rw[hc];let⟨g1,g2⟩:=Xwu r r' st k.1 k.2 ha hc rfl;calc⟨_,_,rfl,by rw[<-r.len];simp!,?_,g1,g2⟩;let:QaL.length=lg S:=by rw[Vag];exact Vc0 k.1.1
  rw[U7 Q0,this];simp!
 ·rw[iN0 k]at L;cases L rfl
variable{X:Cx}{pc:LA}{σ:L2.St}{s:Vc}{env:En}{e:Expr}{f:En->Sto->R D}
def X1w(I:S0 X pc σ H s ρ S env)(rd:RD X.K ρ H d v)(nb:Xa2 QaS≠.bad):∃d1 S1 H1,Xa2 QaS=.ok d1 S1/\Inv X pc σ H1 s/\RD X.K ρ H1 d1 v/\SR X.K QV1 ρ S1 H1/\Stp X.K ρ ρ H H1:=by
 cases d with
 |ref n=>
  simp[RD]at rd;let⟨a,rfl,ha⟩:=rd;let⟨ob,ho,q⟩:=I.sr.at ha;unfold Xa2 at nb |-;dsimp at nb |-;rw[ho]at nb |-;cases ob with
  |lst xs=>
   let⟨vs,B,hr⟩:=q;let nf:∀o u,H a≠yz QW1:=λo u z=>by rw[B]at z;cases z
   obtain⟨og,hg⟩:∃og,s.heap.get? a=yz og:=by let⟨_,its,n',r,hg⟩:=(show ObjOk X.prog X.w H s.heap a QE3 from I.inv.hok a _ B);exact⟨_,hg⟩
   let st:Stp X.K ρ ρ H (upd H a (.frz og QE3)):=Stp.chg (S:=S) (o:=.ded) I.sr ha nf;calc⟨_,_,_,rfl,Xjc I.inv QWQ hg B (.inr (.inr ⟨vs,rfl⟩)),?_,I.sr.chg ha nf QxY,st⟩;simp[RD];exact⟨a,vs,rfl,.inl ⟨_,Xu⟩,hr.mono st⟩|dct kvs=>
   cases kvs with
   |cons _ _=>cases nb rfl|nil=>
    rcases q with⟨_,B⟩|⟨h0,_⟩
    ·let nf:∀o u,H a≠yz QW1:=λo u z=>by rw[B]at z;cases z
     let⟨_,_,vs,r,og,es,ep,hg,_⟩:=(show ObjOk X.prog X.w H s.heap a Qs6 from I.inv.hok a _ B);let st:Stp X.K ρ ρ H (upd H a QXV):=Stp.chg (S:=S) (o:=.ded) I.sr ha nf;calc⟨_,_,_,rfl,Xjc I.inv QWQ hg B Qd0,?_,I.sr.chg ha nf QxY,st⟩;simp[RD];exact⟨a,_,rfl,Xu⟩
    cases h0 rfl
  |_=>cases nb rfl
 |_=>calc⟨_,_,H,rfl,I.inv,rd,I.sr,.refl⟩
def DE.frz(h:DE X e f):DE X e (λenv S=>gcR S QFb):=by
 intro pc s σ H ρ S env I B;dsimp at B |-;cases q:f env S with
 |bad=>rw[q]at B;cases B rfl|ex n S1=>rw[q]at B;calc h.ex I q λx s' z=>?_;let⟨H',ρ',a,c,J,e,hn,hc,sr,st,fl⟩:=z;let⟨S2,ab,g1,g2,g3,L,g5⟩:=Xtp I.sr sr st hn hc B;calc⟨_,S2,g1,H',ab,a,c,J,e,g2,g3,L,g5,fl⟩|ok d S1=>rw[q]at B;calc h.ok I q λu s' v H' ρ' J rv rd st=>?_;let nf:Xa2 QmZ≠.bad:=λz=>B Qm4;let⟨d1,S2,H2,e1,J2,ae,ac,aa⟩:=X1w J rd nf;rw[e1]at B;let⟨d3,S3,af,g1,g2,g3,L⟩:=Xto I.sr ac QZJ ae B;rw[e1];calc⟨d3,S3,g1,v,H2,af,J2,rv,g2,g3,L⟩
def DS.frzA{i:Nat}{x:Str}{st:Stmt}(hi:X.N[i]?=yz x)(h:DS X st yw (λenv S=>Qa0.bind λx S=>.ok QkL S)):DS X st yw (λenv S=>(gcR S QFb).bind λx S=>.ok QkL S):=by
 intro pc s σ H ρ S env I L;let h1:=h pc s σ H ρ S env I;dsimp at L h1 |-;let li:i<lg env:=by let h2:=QVZ.1;let h3:=I.inv.len;let h4:=I.er.len;omega
 cases q:f env S with
 |bad=>rw[q]at L;cases L rfl|ex n S1=>
  rw[q]at L h1;let ng:gcR S (.ex n S1)≠.bad:=λz=>L (by show QDO.bind _=_;rw[z];rfl);exact Vp QFP QTG λe s' z=>?_;·let⟨y,S2,e,_⟩:=z;cases e
  ·let⟨m,S2,B,e,hn,H',ρ',a,c,J,e2,hm,hc,sr,st,fl⟩:=z;cases e;let⟨S3,ab,g1,g2,g3,g4,g5⟩:=Xtp I.sr sr st hm hc ng;exact⟨_,S3,B,by show QDO.bind _=_;rw[g1];rfl,hn,H',ab,a,c,J,e2,g2,g3,g4,g5,fl⟩|ok d S1=>
  rw[q]at L h1;exact Vp QFP QTG λe s' z=>?_
  ·let⟨y,S2,e,z⟩:=z;cases e;let⟨rfl,B,H',ρ',J,st,_⟩:=z;let⟨v,v1,rd⟩:=J.er.val i d (Vau li);let nf:Xa2 QmZ≠.bad:=λz=>L Qm4;let⟨d1,S2,H2,e1,J2,ag,ac,aa⟩:=X1w J rd nf;rw[e1]at L |-;let ng:gcR S (.ok d1 S2)≠.bad:=λz=>L Qm4;let⟨d3,S3,af,g1,g2,g3,g4⟩:=Xto I.sr ac QZJ ag ng;rw[g1];calc⟨_,S3,rfl,rfl,B,H2,af,⟨J2,g3,by rw[Vdf];calc(Vdf (as:=env) (i:=i) (a:=yz d)).symm.trans J.er.len,λj b hb=>?_⟩,g4,λz=>nomatch z⟩;by_cases ij:i=j;·subst ij;rw[Vau li]at hb;cases hb;exact⟨v,v1,g2⟩
   ·rw[Vav ij]at hb;let⟨w,w1,ae⟩:=J.er.val j b (by rw[Vav ij];calc hb);let⟨_,_,r0⟩:=I.er.val j b hb;exact⟨w,w1,(Xmu (Xjk QZJ) (ae.mono aa) (Xtn r0)).mono' (Ycs g4)⟩
  let⟨n,S2,B,e,_⟩:=z;cases e
def FnD.gcF{cm:Bool}{P:V0}{w:V9}{K:Vh}{mg:Str->OV}{base:Heap}{k:Nat}{g:Addr}{fd:Vdc}{ps:LS}{F:LD->Sto->R D}(b:Bool)(h:FnD cm P w K mg base k g fd ps F):FnD cm P w K mg base k g fd ps (λds S=>gcB b S QEV):=by
 cases b with
 |false=>exact h|true=>
  calc⟨λA outer s H ab us vs Q E hr e0 hb r ae=>h.run A outer s H ab us vs Q E hr e0 hb r ?_⟩;let⟨ds,ρ,af,hl,rd,sr,nb,hok,B⟩:=ae;simp[gcB,if_true]at nb hok B;calc⟨ds,ρ,af,hl,rd,sr,λz=>nb Qm4,λd S' v H' ρ' q ac L st=>?_,λn c S' a H' ρ' q ha hc L st=>?_⟩;·rw[q]at nb hok;let⟨d1,S1,aa,g1,g2,g3,g4⟩:=Xto sr L st ac nb;exact hok d1 S1 v H' aa g1 g2 g3 g4
  ·rw[q]at nb B;let⟨S1,aa,g1,g2,g3,g4,g5⟩:=Xtp sr L st ha hc nb;calc B _ c S1 a H' aa g1 g2 g3 g4 g5
variable{prog:V0}{w:V9}{A:Uu}{E:VP}
def Xp7{Q:LV->Vc->Prop}{r:Addr}{a b c:Int}{t u v:Tok}{n:Nat}(hh:A.handled=yy)(hr:IsRange s.heap r a b c t u v)(L:Vdv a b c=yx)(hn:Vbu a b c=n)(aa:n<=2^24)
  (hQ:∀(h':Heap) (tk:Nat) (B:AV),QI0->ItemsOf Qx6 B n->Q B.toList Qt):Vg Q6 A (collect QaO) Q E s:=by
 unfold collect;calc Va QFC;rw[Va8 F.plain_proto_collect _];show Vg _ A.in1 (newList [] >>= λl=>again (.builtin "list.__iadd__" ⟨[l,.ref r],[]⟩)) _ _ s
 calc Va QM8;rw[Va8 Vha _];let⟨hp,g,d,tk,os⟩:=s;show Vg _ A.in1 (Vbr QT8 QaO QT8) _ _ QiI;exact wpAny_extend_range (R:=λr s'=>match r with
  |.ok QLV=>Vg Q6 A (match v with
   |.ref a=>do match (<-load a).data with
    |.seq xs _=>pure xs.toList|_=>Vd2 "internal:collect"
   |_=>Vd2 "internal:collect") Q E s'
  |.ok _=>False
  |.error e=>E e s') (s:=QiI) hh (Ve _ hr) L hn aa hp.objs.size QT8 0 QS3 λh' ac B c' k hS ab=>?_
 show Vg _ A (load hp.objs.size >>= _) _ _ _;calc Va (Vfx hS (Vd (hQ h' ac B (λb o e=>k b o Q9V QaD) ab)))
def Xp8{Q₁:VP}{r:Addr}{a b c:Int}{t u v:Tok}{n:Nat}(hh:A.handled=yy)(hr:IsRange s.heap r a b c t u v)(L:Vdv a b c=yx)(hn:Vbu a b c=n)(ab:n<=2^24)
  (h:∀(h':Heap) (tk:Nat) (B:AV),QI0->ItemsOf Qx6 B n->Q₁ QdN {s with heap:=h'.push {cls:=.type "tuple",data:=.seq B},toks:=tk}):
  Vco Q6 A (.call (.builtin "tuple.__new__") Qu6) QxS s:=by
 calc Vfa ?_;show Vg _ A.in1 (do Vf0 "tuple.__new__" Qu6;again (.builtin "tuple.__new__" Qu6)) _ _ s;calc Va (Vga (F.newCall_tuple_1 _) (Vd ⟨Ved F.plain_tuple_new _,Vay F.entry_tuple_new ?_⟩));rw[Va8 F.plain_tuple_new _];let af:=sub_tuple_self;let ac:=init_tuple_lookup;let ag:=madeHere_tuple;let ae:s.TypeIs QaO "range" := ⟨_,hr,rfl⟩;wp_walk using Vcm ae,Xp7 (A:=A.in1) hh hr L hn ab;intro h' tk B k aa;show Vg _ _ (Vbn B.toList.toArray >>= λv=>ret v) _ _ _;unfold Vbn;calc Va (Vaj ?_ (by show B.toList.toArray.size<=V7;simp[Array.toArray_toList];rw[aa.1,Va6];omega));calc Vd ?_;let e:B.toList.toArray=B:=by simp!
 rw[e];calc h h' tk B k aa
def Xoj{Q:VP}{r:Addr}{a b c:Int}{t u v:Tok}{n:Nat}(hh:A.handled=yy)(hr:IsRange s.heap r a b c t u v)(ab:Vdv a b c=yx)(hn:Vbu a b c=n)(ac:n<=2^24)
  (h:∀(h':Heap) (tk:Nat) (aa:AV),QI0->ItemsOf Qx6 aa n->Q QdN {s with heap:=h'.push {cls:=.type "tuple",data:=.seq aa},toks:=tk}):
  Vg Q6 A (call Qx3 [.ref r]) Q E s:=by
 exact callType_codes (Q₁:=λobj B=>B.TypeIs obj "tuple" /\ Q obj B) F.called_tuple (F.typeCall_tuple_1 _) F.entry_object_init
  (Xp8 hh hr ab hn ac λh' tk aa k ae=>⟨Q04,h h' tk aa k ae⟩) λobj B L=>?_
 calc⟨L.1,F.args_object_init_2 obj _,object_init_meets F.called_tuple.init.lookup F.called_tuple.made Q1 prog w A.in1 _ B ⟨L.1,rfl,L.2⟩⟩
def Xjl{B:AV}{n:Nat}(h:ItemsOf (λi v=>∃t,v=Vfu ((0:Int)+i*1) t) B n):∃us:LV,B=us.toArray/\Vals (QxR.map λ(k:Nat)=>V.int (k:Int)) us:=by
 calc⟨B.toList,by simp!,?_⟩;let L:∀(us:LV) (m:Nat),(∀(i:Nat) (v:Vb),us[i]?=yz v->∃t,v=Vfu ((m+i:Nat):Int) t)->Vals ((List.range' m (lg us)).map λ(k:Nat)=>V.int (k:Int)) us:=λus=>by
  induction us with
  |nil=>intro m _;calc .nil|cons u us ih=>intro m hu;rw[U4,List.range'_succ,Uk];calc .cons (hu 0 u rfl) (ih QCB λi v e=>?_);let:=hu QC2 v QT9;rwa [show m+QC2=m+1+i by omega]at this
 let:=L B.toList 0 λi v e=>by let⟨t,q⟩:=h.2 i v (by rw[<-Ud];calc e);exact⟨t,by rw[q];congr 1;simp!⟩
 rwa [Vz,h.1,<-List.range_eq_range']at this
def Xko{K:Vh}{ρ:LR}{H:Hp}:∀l:LN,RDs K ρ H (l.map λ(k:Nat)=>D.int (k:Int)) (l.map λ(k:Nat)=>V.int (k:Int))
 |[]=>by simp[Veb,RDs]|n::ns=>by simp[Veb,RDs];calc⟨_,_,rfl,by simp[RD],Xko ns⟩
abbrev lrN(t:Bool):Str:=match t with
 |true => "tuple"|false => "list"
def Yct {t:Bool} {a:Expr} {f:En->Sto->R D} {p p2 pos aj:Pos} (hc:X.calm=yx) (ah:Gl X Q2N) (ag:X.mg Q2N=yy) (ak:Gl X "range") (ai:X.mg "range"=yy) (ha:DE X a f) (hs:Ue [a] X.env=QZ2::Ue [] X.env):
  DE X (.Call QlV [.Call QkO [a] [] aj] [] pos) (λenv S=>Qa0.bind λx S=>match Y5 [x] with
   |some ds=>if t then .ok QjD S else .ok Q7 QRT
   |none=>.bad):=by
 intro pc s σ H ρ S env I nb;dsimp at nb |-;let sm:∀j:Int,-QD3<j/\j<1048576->Vdv 0 j 1=true:=λj h=>small_one Q1 Q1 Q0 Q0;let rs:∀j:Int,-QD3<j/\j<1048576->Vbu 0 j 1=(j.toNat:Int)/\j.toNat<=2^24:=λj h=>by
  rw[rangeSize_one];constructor;·split<;>omega
  ·omega
 let ab:∀ {d:D} {S1:Sto},(match Y5 [d] with
   |some ds=>if t then R.ok (D.tup ds) S1 else R.ok (D.ref QIE) (S1++[O.lst ds])
   |none=>R.bad)≠R.bad->∃j,d=.int j/\(-QD3<j/\j<1048576):=λ{d S1} h=>by
  cases d with
  |int j=>
   by_cases c:-QD3<j/\j<1048576;·exact⟨j,rfl,c⟩
   ·simp[Y5,c,if_false]at h;cases h rfl|_=>cases h rfl
 cases t with
 |true=>
  calc Vaq (X8 I.inv ah ag (u:=.type "tuple") Q9 QlH Q1 rfl);calc Vaq QW5;cases q:f env S with
  |bad=>rw[q]at nb;cases nb rfl|ex n S1=>exact ha.ex I q λx s' z=>QJ0|ok d S1=>
   rw[q]at nb;simp[Rk0]at nb |-;let⟨j,rfl,B⟩:=ab nb;exact ha.ok I q λu s1 v H1 am I1 rv rd ae=>Vbj ?_;simp[RD]at rd;subst rd;let⟨tk,rfl⟩:=rv;calc call_range_1 (Vbj (Xoj QfP QaA QPc Q5G.1 Q5G.2 λh' ac al k L=>?_));let⟨us,rfl,aa⟩:=Xjl L;let keep:∀b o,s1.heap.get? b=yz o->h'.get? b=yz o:=λb o e=>k b o QaD;let le:s1.heap.objs.size<=h'.objs.size:=Vc2 (Vy (k _ _ QS3));let af:Y5 QIQ=yz QJ4:=by simp[Y5,B,and_self,if_true]
   rw[af];simp[if_true];calc OkP.pre ae (Xcd (I1.inv.laid (t':=ac) (λb u e=>Ve _ (keep b u e)) le ?_) QdL I1.sr Qee);calc⟨by rw[Vf,U9,Va6];let:=Q5G.2;omega,us,aa,QP2⟩
 |false=>
  calc Vaq (X8 I.inv ah ag (u:=.type "list") Q9 QlH Q1 rfl);calc Vaq QW5;cases q:f env S with
  |bad=>rw[q]at nb;cases nb rfl|ex n S1=>exact ha.ex I q λx s' z=>QJ0|ok d S1=>
   rw[q]at nb;simp[Rk0]at nb |-;let⟨j,rfl,B⟩:=ab nb;exact ha.ok I q λu s1 v H1 am I1 rv rd ae=>Vbj ?_;simp[RD]at rd;subst rd;let⟨tk,rfl⟩:=rv;calc call_range_1 (Vbj (call_list_range QfP QaA QPc Q5G.1 Q5G.2 λh' ac al c k hS L=>?_));let⟨us,rfl,aa⟩:=Xjl L;let keep:∀b o,s1.heap.get? b=yz o->h'.get? b=yz o:=λb o e=>k b o QaD;let le:s1.heap.objs.size<=(s1.heap.push {cls:=.type "range",data:=.fields #[.int 0 s1.toks,.int j tk,.int 1 (s1.toks+1)]}).objs.size:=by rw[Vam];exact Vd1 _
   let af:Y5 QIQ=yz QJ4:=by simp[Y5,B,and_self,if_true]
   rw[af];simp[Vr,if_false];calc OkP.pre ae (Y7 (I1.inv.laid (t':=ac) keep le ?_) QdL I1.sr Qee);calc⟨by rw[Vf,U9,Va6];let:=Q5G.2;omega,us,c,aa,hS⟩
universe e
abbrev Xtq(sc:Vai)(x:Str):Bool:=match sc.names.lookup x with
 |some .local=>yx|some .cell=>yx|some .free=>yx|_=>yw
abbrev glB(sc:Vai)(x:Str):Bool:=match sc.names.lookup x with
 |some .globalImplicit=>yx|_=>yw
abbrev Xok(top:Str->Bool)(sc:Vai)(x:Str):Bool:=match sc.names.lookup x with
 |some .local=>yx|some .cell=>top x|_=>yw
abbrev Y0(x:Str):Bool:=! QB0 && ! Qh4 && !decide (x="__name__")
def X3y(h:Xtq sc x=yx):Vis sc x:=by
 unfold Xtq at h;split at h;·exact .inl Qf2
 ·exact .inr (.inl Qf2)
 ·exact .inr (.inr Qf2)
 cases h
def Yn(hs:X.env.scope=sc)(h:glB sc x=yx):Gl X x:=by
 subst hs;unfold glB at h;split at h;·assumption
 ·cases h
def Xkp{X:Cx}{top:Str->Bool}{sc:Vai}{x:Str}(hs:X.env.scope=sc)(B:∀x,top x=yx->X.fn x=yx)(h:Xok top sc x=yx):Loc X.env.scope x/\(X.fn x=yx\/X.env.scope.names.lookup x=yz .local):=by
 subst hs;unfold Xok at h;split at h;·exact⟨.inl Qf2,.inr Qf2⟩
 ·exact⟨.inr Qf2,.inl (B x h)⟩
 cases h
def Xaz(h:Y0 x=yx):QB0=yw/\Qh4=yw/\x ≠ "__name__":=by simp[Y0,bA0,Va4,decide_eq_false_iff_not]at h;calc QbM
abbrev Xy:Expr->Bool
 |.Starred _ _=>yw|_=>yx
def Xh(h:Xy e=yx):Ue QD4 env=(yw,eval e env)::Ue es env:=by cases e<;>first|rfl|cases h
def Yt(h:es.all Xy=yx):Q57.any Qu=false:=by
 induction es with
 |nil=>rfl|cons e es ih=>rw[Vas,bA0]at h;rw[Xh h.1];show(yw||Q57.any Qu)=yw;rw[ih h.2];rfl
def Xol(h:es.all Xy=yx):Q57.all QIX=true:=by
 induction es with
 |nil=>rfl|cons e es ih=>rw[Vas,bA0]at h;rw[Xh h.1];show(yx&&Q57.all QIX)=yx;rw[ih h.2];rfl
abbrev Xem:Expr->Bool
 |.Name _ _=>yx|.Constant _ _ _=>yx|.BinOp _ _ _ _=>yx|.UnaryOp _ _ _=>yx|.Call _ _ _ _=>yx|.Subscript _ _ _=>yx|.List _ _=>yx|.IfExp _ _ _ _=>yx|.Compare _ _ _ _=>yx|_=>yw
def Xtr(h:Xem b=yx):Xj9 b:=by cases b<;>first|(intro o i;rfl)|cases h
abbrev Xco:Expr->Bool
 |.Set _ _ _=>yw|_=>yx
def Xfi(h:Xco e=yx)(x:Vb):Vch e env x=pure x:=by cases e<;>first|rfl|cases h
abbrev Xil:Expr->Bool
 |.Name _ _=>yx|.Subscript _ _ _=>yx|.List _ _=>yx|.Constant _ _ _=>yx|_=>yw
def ff{P:Prop}(h:yw=yx):P:=nomatch h
def Xda(h:Xil o=yx):attributeBase o name env QNW=eval o env:=by cases o<;>first|rfl|calc ff h
abbrev Xts(c:Co)(o:CmpOp):Bool:=decide (o=opC c)
def Xkq{c:Co}{o:CmpOp}(h:Xts c o=yx):o=opC c:=oD0 h
abbrev X8m(c:Bo)(o:Operator):Bool:=decide (o=opB c)
def X3z{c:Bo}{o:Operator}(h:X8m c o=yx):o=opB c:=oD0 h
abbrev Xz2(d:D)(c:Const):Bool:=match d with
 |.int i=>(match c with
  |.int j=>i==j
  |_=>yw)
 |.bl i=>(match c with
  |.bool j=>i==j
  |_=>yw)
 |.non=>(match c with
  |.none=>yx
  |_=>yw)
 |.str i=>(match c with
  |.str j=>decide (i=j)
  |_=>yw)
 |_=>yw
abbrev Xtt:Bl->Option (Str×Bool×String)
 |.len=>yz ("len",yx,"len")|.tuple=>yz ("tuple",yw,"tuple")|.list=>yz ("list",yw,"list")|.all=>yz ("all",yx,"all")|.anb=>yz ("any",yx,"any")|.max=>yz ("max",yx,"max")|.min=>yz ("min",yx,"min")|.repr=>yz ("repr",yx,"repr")|.sorted=>yz ("sorted",yx,"sorted")
abbrev Xtu:Bl->Bool
 |.len=>yx|.tuple=>yx|.list=>yx|.repr=>yx|.sorted=>yx|_=>yw
abbrev X8n:Tg->Bool
 |.var _=>yx|_=>yw
abbrev tyB(sc:Vai)(t:Ty)(nm:Str):Bool:=match t with
 |.cls c=>decide (Xb2 c=yz nm)|.int=>decide (nm="int")|.bool=>decide (nm="bool")|.str=>decide (nm="str")|.tuple=>decide (nm="tuple")|.list=>decide (nm="list")|.dict=>decide (nm="dict")|.valueError=>decide (nm="ValueError")
abbrev Xom:Ty->Bool
 |.cls _=>yw|.valueError=>yw|_=>yx
abbrev tyM(sc:Vai)(B:List Ty)(y:Expr):Bool:=match y with
 |.Name nm _=>glB sc nm&&Y0 nm&&(match B with|[t]=>tyB sc t nm|_=>yw)
 |.Tuple ys _ _=>(match ys with
  |[.Name n1 _,.Name n2 _]=>glB sc n1&&Y0 n1&&glB sc n2&&Y0 n2&&(match B with|QzH=>Xom t1&&Xom t2&&tyB sc t1 n1&&tyB sc t2 n2|_=>yw)
  |_=>yw)
 |_=>yw
abbrev Yd1:Mt->Option Str
 |.append=>yz "append"|.xtd=>yz "extend"|.count=>yz "count"|.index=>yz "index"|.popi=>yz "pop"
abbrev Xim(scope sc:Vai):Vai:={scope with names:=scope.names.map λ QAe=>if (k == .free&&sc.kind == .function&&sc.names.lookup n==yz .cell) then (n,.cell) else QAe}
abbrev Y1(scope:Vai):LS:=scope.names.filterMap λx=>match x.2 with
 |.local=>yz x.1|.cell=>yz x.1|_=>yy
abbrev Xcv(N N2:LS)(x:Str):Bool:=(N2.drop N.length).contains x
def X30(h:Xcv N Q9Y x=yx):own.contains x=true:=by unfold Xcv Xat at h;rw[List.drop_left' QB]at h;calc h
abbrev Xtv(k:ScopeKind):Bool:=match k with
 |.function=>yx|_=>yw
def Xkr(h:Xtv k=yx):k=.function:=by cases k<;>first|rfl|cases h
abbrev Xon(k:Option Vff):Bool:=match k with
 |some .cell=>yx|some .free=>yx|_=>yw
abbrev Xdx(k:Option Vff):Bool:=match k with
 |some .local=>yx|_=>yw
abbrev Xgh:LS->Bool
 |[]=>yx|x::r=>!(r.contains x)&&Xgh r
def Xgi:∀ {l:LS},Xgh l=yx->l.Nodup
 |[],_=>Viv|x::r,h=>by simp[Xgh,bA0,Va4,List.contains_eq_mem]at h;calc Vdd.mpr ⟨by simpa using h.1,Xgi h.2⟩
abbrev scB(outer sc:Vai)(N:LS):Bool:=
 Xtv sc.kind&&Xtv outer.kind&&Xgh (Xat N QoR) &&
 sc.names.all (λy=>match y.2 with|.free=>Xon QmI && ! QoR.contains y.1|.local=>Xdx (sc.names.lookup y.1)|_=>yx) &&
 N.all (λy=>!(QoR.contains y)||(sc.names.lookup QMT).isNone)
def Xwv(h:scB outer sc N=yx):ScOk outer sc N QoR:=by
 simp[scB,bA0]at h;let⟨⟨⟨⟨h1,h2⟩,h3⟩,h5⟩,h6⟩:=h;let L:∀y∈sc.names,y.2=.free->Xon QmI=yx/\y.1 ∉ Y1 sc:=λy B hf=>by let:=Ug.mp h5 y B;rw[hf]at this;simpa using this
 let aa:∀y∈sc.names,y.2=.cell->y.1∈Y1 sc:=λy B hk=>Ve7.mpr ⟨y,B,by rw[hk]⟩;exact⟨Xkr h1,Xkr h2,Xgi h3,aa,λy B hf=>QeZ.2,λy B hf=>?_,λy B=>?_,λx hx hl=>?_,λy B hc=>?_⟩
 ·let:=QeZ.1;unfold Xon at this;split at this;·exact .inl Qf2
  ·exact .inr Qf2
  cases this
 ·exact Ve7.mpr ⟨(y,.local),Xc4 B,rfl⟩
 ·let:=Ug.mp h5 x hx;rw[hl]at this;dsimp at this;unfold Xdx at this;split at this;·assumption
  ·cases this
 let:=Ug.mp h6 y B;rw[hc]at this;simp[Vc5,Bool.false_or,Option.isNone_iff_eq_none]at this;calc this
abbrev Xtw:It->Bool
 |.zpp _=>yx|.enm _=>yx|_=>yw
abbrev Xgj(t:Tg)(it:It):Bool:=!Xtw it || !X8n t
abbrev Xz3:Expr->Bool
 |.Name _ _=>yx|.Subscript _ _ _=>yx|.List _ _=>yx|_=>yw
abbrev mnC(i:Int)(e:Expr):Bool:=match e with
 |.UnaryOp o x _=>(match o with
  |.USub=>(match x with
   |.Constant c _ _=>(match c with
    |.int j=>i==j
    |_=>yw)
   |_=>yw)
  |_=>yw)
 |_=>yw
abbrev X8o(l:Option Int)(lo:Option Expr):Bool:=match l with
 |none=>lo.isNone|some k=>lo.any λx=>mnC k x
abbrev Xz4(i:Int)(l:Option Int)(e:Expr):Bool:=match e with
 |.Slice lo hi st _=>hi.isNone&&st.any λst=>mnC i st&&X8o l lo|_=>yw
def any_some{α:Type}{o:Option α}{p:α->Bool}(h:o.any p=yx):∃x,o=yz x/\p x=true:=by
 cases o with
 |none=>cases h|some x=>calc⟨x,rfl,h⟩
def Yu{α:Type}{z:α}{P:Prop}(h:(yy:Option α)=yz z):P:=nomatch h
abbrev vNm(e:Expr):Option Str:=match e with
 |.Name x _=>yz x|_=>yy
def Xbn{e:Expr}{x:Str}(h:vNm e=yz x):∃p,e=.Name x p:=by
 cases e with
 |Name _ _=>cases h;calc Q30|_=>calc Yu h
abbrev X8p(e:Expr):Option Const:=match e with
 |.Constant c _ _=>yz c|_=>yy
def X31{e:Expr}{x:Const}(h:X8p e=yz x):∃k p,e=.Constant x k p:=by
 cases e with
 |Constant _ _ _=>cases h;calc Qz7|_=>calc Yu h
abbrev vUn(e:Expr):Option (UnaryOp×Expr):=match e with
 |.UnaryOp o x _=>yz (o,x)|_=>yy
def Xww{e:Expr}{z:UnaryOp×Expr}(h:vUn e=yz z):∃p,e=.UnaryOp z.1 z.2 p:=by
 cases e with
 |UnaryOp _ _ _=>cases h;calc Q30|_=>calc Yu h
abbrev X8q(o:UnaryOp):Bool:=decide (o=.USub)
def X32(h:X8q o=yx):o=.USub:=oD0 h
abbrev X8r(o:UnaryOp):Bool:=decide (o=.Not)
def X33(h:X8r o=yx):o=.Not:=oD0 h
abbrev Xoo(e:Expr):Option (LX):=match e with
 |.Tuple xs _ _=>yz xs|_=>yy
def Xdb{e:Expr}{x:LX}(h:Xoo e=yz x):∃k p,e=.Tuple x k p:=by
 cases e with
 |Tuple _ _ _=>cases h;calc Qz7|_=>calc Yu h
abbrev X8s(e:Expr):Option (LX):=match e with
 |.List xs _=>yz xs|_=>yy
def X34{e:Expr}{x:LX}(h:X8s e=yz x):∃p,e=.List x p:=by
 cases e with
 |List _ _=>cases h;calc Q30|_=>calc Yu h
abbrev X8t(e:Expr):Bool:=match e with
 |.Dict ks vs _=>ks.isEmpty&&vs.isEmpty|_=>yw
def X35{e:Expr}(h:X8t e=yx):∃p,e=.Dict [] [] p:=by
 cases e with
 |Dict ks vs p=>let h:(ks.isEmpty&&vs.isEmpty)=true:=h;rw[bA0,Vbf,Vbf]at h;let⟨rfl,rfl⟩:=h;calc Q30|_=>calc ff h
abbrev X8u(e:Expr):Option (Expr×Operator×Expr):=match e with
 |.BinOp x o y _=>yz (x,o,y)|_=>yy
def X36{e:Expr}{z:Expr×Operator×Expr}(h:X8u e=yz z):∃p,e=.BinOp z.1 z.2.1 z.2.2 p:=by
 cases e with
 |BinOp _ _ _ _=>cases h;calc Q30|_=>calc Yu h
abbrev Xeb{α:Type}(l:List α):Option α:=match l with
 |[x]=>yz x|_=>yy
def Xbz{α:Type}{l:List α}{x:α}(h:Xeb l=yz x):l=[x]:=by
 unfold Xeb at h;split at h;·cases h;rfl
 ·cases h
abbrev Xin{α:Type}(l:List α):Option (α×α):=match l with
 |Qc9=>yz (x,y)|_=>yy
def Xen{α:Type}{l:List α}{z:α×α}(h:Xin l=yz z):l=Qid:=by
 unfold Xin at h;split at h;·cases h;rfl
 ·cases h
abbrev Xz5(e:Expr):Option (Expr×List CmpOp×LX):=match e with
 |.Compare x os ys _=>yz (x,os,ys)|_=>yy
def Xr1{e:Expr}{z:Expr×List CmpOp×LX}(h:Xz5 e=yz z):∃p,e=.Compare z.1 z.2.1 z.2.2 p:=by
 cases e with
 |Compare _ _ _ _=>cases h;calc Q30|_=>calc Yu h
abbrev Xtx(e:Expr):Option (BoolOp×LX×Pos):=match e with
 |.BoolOp o xs p=>yz (o,xs,p)|_=>yy
def X37{e:Expr}{z:BoolOp×LX×Pos}(h:Xtx e=yz z):e=.BoolOp z.1 z.2.1 z.2.2:=by
 cases e with
 |BoolOp _ _ _=>cases h;rfl|_=>calc Yu h
abbrev opA(an:Bool):BoolOp:=if an then .And else .Or
abbrev Xty(an:Bool)(o:BoolOp):Bool:=decide (o=opA an)
def X38{an:Bool}{o:BoolOp}(h:Xty an o=yx):o=opA an:=oD0 h
abbrev Xop(an:Bool)(p:Pos)(l:LX):Option QoW:=match l with
 |Qc9=>yz (x,y)|x::y::z::r=>yz (x,.BoolOp QcJ QED p)|_=>yy
def X39(h:Xop an p l=yz z):l=Qid\/∃y B r,l=z.1::y::B::r/\z.2=.BoolOp QcJ (y::B::r) p:=by
 unfold Xop at h;split at h;·cases h;exact .inl rfl
 ·cases h;exact .inr ⟨_,_,_,rfl,rfl⟩
 cases h
abbrev vIf(e:Expr):Option (Expr×Expr×Expr):=match e with
 |.IfExp x y z _=>yz (x,y,z)|_=>yy
def X8v{e:Expr}{z:Expr×Expr×Expr}(h:vIf e=yz z):∃p,e=.IfExp z.1 z.2.1 z.2.2 p:=by
 cases e with
 |IfExp _ _ _ _=>cases h;calc Q30|_=>calc Yu h
abbrev Xoq(e:Expr):Option QoW:=match e with
 |.Subscript x y _=>yz (x,y)|_=>yy
def Xhg{e:Expr}{z:Expr×Expr}(h:Xoq e=yz z):∃p,e=.Subscript z.1 z.2 p:=by
 cases e with
 |Subscript _ _ _=>cases h;calc Q30|_=>calc Yu h
abbrev X8w(e:Expr):Option QnH:=match e with
 |.Slice l h yy _=>yz (l,h)|_=>yy
def X4a(h:X8w e=yz z):∃p,e=.Slice z.1 z.2 yy p:=by
 cases e with
 |Slice l u st p=>
  cases st with
  |none=>cases h;calc Q30|some _=>cases h
 |_=>calc Yu h
abbrev Xak(e:Expr):Option (Expr×Expr×LX×Pos):=match e with
 |.Call f Q60 [] p=>yz (f,y,ys,p)|_=>yy
def Xhh{e:Expr}{z:Expr×Expr×LX×Pos}(h:Xak e=yz z):e=.Call z.1 QG1 [] z.2.2.2:=by
 cases e with
 |Call f xs ks p=>
  cases xs with
  |nil=>cases h|cons y ys=>
   cases ks with
   |nil=>cases h;rfl|cons _ _=>cases h
 |_=>calc Yu h
abbrev X8x(e:Expr):Option QgY:=match e with
 |.Call f [] [] p=>yz (f,p)|_=>yy
def X4b{e:Expr}{z:Expr×Pos}(h:X8x e=yz z):e=.Call z.1 [] [] z.2:=by
 cases e with
 |Call f xs ks p=>
  cases xs with
  |cons _ _=>cases h|nil=>
   cases ks with
   |nil=>cases h;rfl|cons _ _=>cases h
 |_=>calc Yu h
abbrev Xor(e:Expr):Option (Expr×Str×Pos):=match e with
 |.Attribute o nm p=>yz (o,nm,p)|_=>yy
def Xr2(h:Xor e=yz z):e=.Attribute z.1 z.2.1 z.2.2:=by
 cases e with
 |Attribute _ _ _=>cases h;rfl|_=>calc Yu h
abbrev vLC(e:Expr):Option (Expr×List Vb4×Vai):=match e with
 |.ListComp e gens scope _=>yz (e,gens,scope)|_=>yy
def X8y{e:Expr}{z:Expr×List Vb4×Vai}(h:vLC e=yz z):∃p,e=.ListComp z.1 z.2.1 z.2.2 p:=by
 cases e with
 |ListComp _ _ _ _=>cases h;calc Q30|_=>calc Yu h
abbrev nfz:Ex->Bool
 |.frz _=>yw|_=>yx
abbrev pln(e:Expr):Bool:=match e with
 |.Call ..=>yx|.List ..=>yx|.ListComp ..=>yx|.Dict ..=>yx|.Name ..=>yx|.Subscript ..=>yx|.BinOp ..=>yx|.Tuple ..=>yx|_=>yw
def X8z{e:Expr}(h:pln e=yx)(env:Vb0)(B:Sem Vb):isTrue e env B=QW3:=by
 cases e with
 |Call=>rfl|List=>rfl|ListComp=>rfl|Dict=>rfl|Name=>rfl|Subscript=>rfl|BinOp=>rfl|Tuple=>rfl|_=>cases h
section
variable(cm:Bool)(fns:LF)(gns:LS)
abbrev mtT(top:Str->Bool)(sc:Vai)(N:LS):Tg->Expr->Bool
 |.var i,e=>QIR.any λx=>decide Q4F&&Xok top sc x|.tup is,e=>Qbe.any λes=>namesB is es
where namesB:LN->LX->Bool
 |[],[]=>yx
 |i::is,e::es=>(QIR.any λx=>decide Q4F&&Xok top sc x)&&namesB is es
 |_,_=>yw
abbrev fnB(f:Nat)(x:Str)(n:Nat):Bool:=match fns[f]? with
 |some QAC=>decide (nm=x)&&decide (ar=n)&&(cm || !fl)|none=>yw
abbrev blB(k:Bl)(x:Str):Bool:=match Xtt k with
 |some (nm,_,_)=>decide Qbf|none=>yw
abbrev mtB(k:Mt)(nm:Str):Bool:=match Yd1 k with
 |some m=>decide (nm=m)|none=>yw
mutual
abbrev mt(sc:Vai)(N:LS):Ex->Expr->Bool
 |.nev,_=>yx|.var i,e=>QIR.any λx=>decide Q4F&&Xtq sc x&&Y0 x|.cst d,e=>(X8p e).any λc=>Xz2 d c|.neg a,e=>Qzd.any λz=>X8q z.1&&mt sc N a z.2|.glb k,e=>QIR.any λx=>decide (gns[k]?=yz x)&&glB sc x&&Y0 x|.tup es,e=>Qbe.any λxs=>mts sc N es xs|.lst es,e=>(X8s e).any λxs=>mts sc N es xs|.dct0,e=>X8t e|.isi a ts,e=>QH6.any λz=>Qt3.any λ(f:Str)=>decide (f="isinstance")&&glB sc f&&Xy z.2.1&&mt sc N a z.2.1&&(Xeb z.2.2.1).any λy=>tyM sc ts y|.bin op a b,e=>(X8u e).any λz=>X8m op z.2.1&&mt sc N a z.1&&mt sc N b z.2.2|.cmp op a b,e=>QWe.any λz=>Q5Y.any λo=>(Xeb z.2.2).any λy=>Xts op o && !(Vhk QJD y)&&mt sc N a z.1&&mt sc N b y|.chn o1 o2 a b c,e=>QWe.any λz=>(Xin z.2.1).any λo=>(Xin z.2.2).any λy=>Xts o1 o.1&&Xts o2 o.2 && !(lastMarks Qk8 [y.1,y.2])&&mt sc N a z.1&&mt sc N b y.1&&mt sc N c y.2|.and a b,e=>QvX.any λz=>Xty yx z.1&&(Xop yx z.2.2 z.2.1).any λy=>mt sc N a y.1&&mt sc N b y.2|.or a b,e=>QvX.any λz=>Xty yw z.1&&(Xop yw z.2.2 z.2.1).any λy=>mt sc N a y.1&&mt sc N b y.2|.not a,e=>Qzd.any λz=>X8r z.1&&mt sc N a z.2|.ite c a b,e=>(vIf e).any λz=>mt sc N c z.1&&mt sc N a z.2.1&&mt sc N b z.2.2|.idx a i,e=>QxX.any λz=>Xem z.2&&mt sc N a z.1&&mt sc N i z.2|.call f es,e=>QH6.any λz=>Qt3.any λx=>fnB cm fns f x QG1.length&&glB sc x&&Y0 x&&mts sc N es QG1|.blt k es,e=>QH6.any λz=>Qt3.any λx=>blB k x&&QrX&&glB sc x&&Y0 x&&mts sc N es QG1|.mth k o es,e=>QH6.any λz=>Q5b.any λx=>mtB k x.2.1&&Xil x.1&&QSF&&decide QKS&&mt sc N o x.1&&mts sc N es QG1|.cmr k n gs elt,e=>(vLC e).any λz=>cm && !k&&decide ((Y1 z.2.2).length=n)&&scB sc z.2.2 N&&mtG sc N QCT QMO gs z.2.1&&mt QCT QMO elt z.1|.sli a lo hi,e=>QxX.any λz=>(X8w z.2).any λy=>mt sc N a z.1&&mto sc N lo y.1&&mto sc N hi y.2|.cal f es,e=>QH6.any λz=>cm&&Xz3 z.1&&mt sc N f z.1&&mts sc N es QG1|.rev a,e=>QxX.any λz=>Xz4 1 yy z.2&&mt sc N a z.1|.sst a,e=>QH6.any λz=>Qt3.any λ(x:Str)=>decide Q7W&&cm&&glB sc x&&z.2.2.1.isEmpty&&QRN.any λy=>QHR.any λ(B:Str)=>decide (B="set")&&glB sc B&&y.2.2.1.isEmpty&&Xy y.2.1&&mt sc N a y.2.1|.frz a,e=>nfz a&&pln e&&mt sc N a e|.st0,e=>(X8x e).any λz=>Qt3.any λ(x:Str)=>decide (x="set")&&glB sc x|.sad o es,e=>QH6.any λz=>Q5b.any λx=>decide (x.2.1=("add" : Str))&&Xil x.1&&QSF&&decide QKS&&mt sc N o x.1&&mts sc N es QG1|.srs a,e=>QH6.any λz=>Qt3.any λ(x:Str)=>decide Q7W&&cm&&glB sc x&&z.2.2.1.isEmpty&&Xy z.2.1&&mt sc N a z.2.1|.lrg t QK9,e=>QH6.any λz=>Qt3.any λ(x:Str)=>decide (x=lrN t)&&cm&&glB sc x&&z.2.2.1.isEmpty&&QRN.any λy=>QHR.any λ(B:Str)=>decide (B="range")&&glB sc B&&y.2.2.1.isEmpty&&Xy y.2.1&&mt sc N a y.2.1|.lrg _ _,_=>yw
abbrev mto(sc:Vai)(N:LS):Op->Option Expr->Bool
 |.none,yy=>yx|.some e,yz x=>mt sc N e x|_,_=>yw
abbrev mts(sc:Vai)(N:LS):Exs->LX->Bool
 |.nil,[]=>yx|.cons e es,x::xs=>Xy x&&mt sc N e x&&mts sc N es xs|_,_=>yw
abbrev mtG(sc:Vai)(N:LS)(sc2:Vai)(N2:LS):Gens->List Vb4->Bool
 |.nil,_=>yw|.cons t it ifs gs,l=>match l with
  |[]=>yw|c::r=>(c.is_async==0)&&Xco c.iter&&mtT QWE sc2 N2 t c.target&&mtI sc N it c.iter&&mts sc2 N2 ifs c.ifs&&Xgj t it&&match gs with
   |.nil=>r.isEmpty|.cons t2 it2 ifs2 g3=>match r with
    |[]=>yw|c2::r2=>(c2.is_async==0)&&Xco c2.iter&&mtT QWE sc2 N2 t2 c2.target&&mtI sc2 N2 it2 c2.iter&&mts sc2 N2 ifs2 c2.ifs&&Xgj t2 it2&&r2.isEmpty&&match g3 with
     |.nil=>yx|.cons ..=>yw
abbrev mtI(sc:Vai)(N:LS):It->Expr->Bool
 |.val e,x=>mt sc N e x|.rng es,e=>QH6.any λz=>Qt3.any λ(x:Str)=>decide (x="range")&&glB sc x&&mts sc N es QG1|.zpp es,e=>QH6.any λz=>Qt3.any λ(x:Str)=>decide (x="zip")&&glB sc x&&mts sc N es QG1|.enm es,e=>QH6.any λz=>Qt3.any λ(x:Str)=>decide (x="enumerate")&&glB sc x&&mts sc N es QG1
end
universe e
section
variable{cm:Bool}{fns:LF}{gns:LS}{sc sc2:Vai}{N N2:LS}{t t2:Tg}{it it2:It}{ifs ifs2:Exs}
def Ycu(h:mtG cm fns gns sc N sc2 N2 .nil gens=yx):False:=by cases h
def Ycv(h:mtG cm fns gns sc N sc2 N2 QrL gens=yx):∃tg iter B,gens=[⟨tg,iter,B,0⟩]/\Xco iter=yx/\mtT QWE sc2 N2 t tg=yx/\mtI cm fns gns sc N it iter=yx/\mts cm fns gns sc2 N2 ifs B=yx/\Xgj t it=true:=by
 cases gens with
 |nil=>cases h|cons c r=>let⟨tg,iter,B,a⟩:=c;let h:QXW=true:=h;simp[bA0,beq_iff_eq,Vbf]at h;let⟨⟨⟨⟨⟨⟨h1,h2⟩,h3⟩,h4⟩,h5⟩,L⟩,h7⟩:=h;subst h1 h7;calc⟨tg,iter,B,rfl,h2,h3,h4,h5,L⟩
def Ycw(h:mtG cm fns gns sc N sc2 N2 (.cons t it ifs Qz5) gens=yx):∃tg iter cs L B aa,gens=[Q3E,⟨L,B,aa,0⟩]/\Xco iter=yx/\Xco B=yx/\mtT QWE sc2 N2 t tg=yx/\mtI cm fns gns sc N it iter=yx/\mts cm fns gns sc2 N2 ifs cs=yx/\mtT QWE sc2 N2 t2 L=yx/\mtI cm fns gns sc2 N2 it2 B=yx/\mts cm fns gns sc2 N2 ifs2 aa=yx/\Xgj t it=yx/\Xgj t2 it2=true:=by
 cases gens with
 |nil=>cases h|cons c r=>
  let⟨tg,iter,cs,a⟩:=c;cases r with
  |nil=>let h:QXW=true:=h;simp[Vc9,Vr]at h|cons c2 r=>let⟨L,B,aa,a2⟩:=c2;let h:QXW=true:=h;simp[bA0,beq_iff_eq,Vbf]at h;let⟨⟨⟨⟨⟨⟨h1,h3⟩,h5⟩,h6⟩,h7⟩,ab⟩,⟨⟨⟨⟨⟨⟨h2,h4⟩,h8⟩,h9⟩,ae⟩,ac⟩,af⟩,_⟩:=h;subst h1 h2 af;calc⟨tg,iter,cs,L,B,aa,rfl,h3,h4,h5,h6,h7,h8,h9,ae,ab,ac⟩
def Ycx(h:mtG cm fns gns sc N sc2 N2 (.cons t it ifs (.cons t2 it2 ifs2 (.cons t3 it3 ifs3 gs3))) gens=yx):False:=by
 cases gens with
 |nil=>cases h|cons c r=>cases r<;>(let h:QXW=true:=h;simp[Vc9,Vr]at h)
def Xcr{e:Expr}{q:Expr×Expr×LX×Pos->Str->Bool}(h:(QH6.any λz=>Qt3.any λx=>q z x)=yx):∃x p y ys B,e=.Call QSH Q60 [] B/\q (.Name x p,y,ys,B) x=true:=by let⟨⟨f,y,ys,B⟩,h1,h2⟩:=any_some h;let⟨x,h3,h4⟩:=any_some h2;let e1:=Xhh h1;subst e1;let L:vNm f=yz x:=h3;let⟨p,e2⟩:=Xbn L;subst e2;calc⟨x,p,y,ys,B,rfl,h4⟩
def X80{i:Nat}{e:Expr}(h:mt cm fns gns sc N QL1 e=yx):∃x p,e=.Name x p/\N[i]?=yz x/\Xtq sc x=yx/\Y0 x=true:=by let⟨x,h1,h2⟩:=any_some h;let⟨p,rfl⟩:=Xbn h1;simp[bA0,decide_eq_true_eq]at h2;calc QkE
def X81{d:D}{e:Expr}(h:mt cm fns gns sc N QaV e=yx):∃c k p,e=.Constant c k p/\Xz2 d c=true:=by let⟨c,h1,h2⟩:=any_some h;let⟨k,p,rfl⟩:=X31 h1;calc⟨c,k,p,rfl,h2⟩
def X82{a:Ex}{e:Expr}(h:mt cm fns gns sc N (.neg a) e=yx):∃x p,e=.UnaryOp .USub x p/\mt cm fns gns sc N a x=true:=by let⟨⟨o,x⟩,h1,h2⟩:=any_some h;let⟨p,rfl⟩:=Xww h1;rw[bA0]at h2;let e1:=X32 h2.1;dsimp at e1;subst e1;calc QAQ
def X83{a:Ex}{e:Expr}(h:mt cm fns gns sc N Qad e=yx):∃x p,e=.UnaryOp .Not x p/\mt cm fns gns sc N a x=true:=by let⟨⟨o,x⟩,h1,h2⟩:=any_some h;let⟨p,rfl⟩:=Xww h1;rw[bA0]at h2;let e1:=X33 h2.1;dsimp at e1;subst e1;calc QAQ
def X84{k:Nat}{e:Expr}(h:mt cm fns gns sc N (.glb k) e=yx):∃x p,e=.Name x p/\gns[k]?=yz x/\glB sc x=yx/\Y0 x=true:=by let⟨x,h1,h2⟩:=any_some h;let⟨p,rfl⟩:=Xbn h1;simp[bA0,decide_eq_true_eq]at h2;calc QkE
def X85{es:Exs}{e:Expr}(h:mt cm fns gns sc N Qlb e=yx):∃xs k p,e=.Tuple xs k p/\mts cm fns gns sc N es xs=true:=by let⟨x,h1,h2⟩:=any_some h;let⟨k,p,rfl⟩:=Xdb h1;calc⟨x,k,p,rfl,h2⟩
def X86{es:Exs}{e:Expr}(h:mt cm fns gns sc N QlL e=yx):∃xs p,e=.List xs p/\mts cm fns gns sc N es xs=true:=by let⟨x,h1,h2⟩:=any_some h;let⟨p,rfl⟩:=X34 h1;calc⟨x,p,rfl,h2⟩
def X4c(h:mt cm fns gns sc N .dct0 e=yx):∃p,e=.Dict [] [] p:=by calc X35 h
def X87{op:Bo}{a b:Ex}{e:Expr}(h:mt cm fns gns sc N (.bin op a b) e=yx):∃x y p,e=.BinOp x Q5O y p/\mt cm fns gns sc N a x=yx/\mt cm fns gns sc N b y=true:=by let⟨⟨x,o,y⟩,h1,h2⟩:=any_some h;let⟨p,rfl⟩:=X36 h1;simp[bA0]at h2;let e1:=X3z h2.1.1;subst e1;calc⟨x,y,p,rfl,h2.1.2,h2.2⟩
def X88{op:Co}{a b:Ex}{e:Expr}(h:mt cm fns gns sc N (.cmp op a b) e=yx):∃x y p,e=.Compare x [opC op] [y] p/\Vhk QJD y=yw/\mt cm fns gns sc N a x=yx/\mt cm fns gns sc N b y=true:=by let⟨⟨x,os,ys⟩,h1,h2⟩:=any_some h;let⟨o,h3,L⟩:=any_some h2;let⟨y,h5,B⟩:=any_some L;let⟨p,rfl⟩:=Xr1 h1;let e1:os=[o]:=Xbz h3;let e2:ys=[y]:=Xbz h5;subst e1 e2;simp[bA0,Va4]at B;let e3:=Xkq B.1.1.1;subst e3;calc⟨x,y,p,rfl,B.1.1.2,B.1.2,B.2⟩
def X89{L B:Co}{a b c:Ex}{e:Expr}(h:mt cm fns gns sc N (.chn L B a b c) e=yx):∃x y z p,e=.Compare x QCX [y,z] p/\lastMarks QCX [y,z]=yw/\mt cm fns gns sc N a x=yx/\mt cm fns gns sc N b y=yx/\mt cm fns gns sc N c z=true:=by let⟨⟨x,os,ys⟩,h1,h2⟩:=any_some h;let⟨⟨p1,p2⟩,h3,h4⟩:=any_some h2;let⟨⟨y,z⟩,h5,h6⟩:=any_some h4;let⟨p,rfl⟩:=Xr1 h1;let e1:os=[p1,p2]:=Xen h3;let e2:ys=[y,z]:=Xen h5;subst e1 e2;rw[bA0,bA0,bA0,bA0,bA0,Va4]at h6;let⟨⟨⟨⟨⟨k1,k2⟩,k3⟩,k4⟩,k5⟩,k6⟩:=h6;let e3:=Xkq k1;let e4:=Xkq k2;dsimp at e3 e4;subst e3 e4;calc⟨x,y,z,p,rfl,k3,k4,k5,k6⟩
def Xr3{an:Bool}{a b:Ex}{e:Expr}(h:(QvX.any λz=>Xty an z.1&&(Xop an z.2.2 z.2.1).any λy=>mt cm fns gns sc N a y.1&&mt cm fns gns sc N b y.2)=yx):
  (∃x y p,e=.BoolOp QcJ Qc9 p/\mt cm fns gns sc N a x=yx/\mt cm fns gns sc N b y=yx)\/∃x y z r p,e=.BoolOp QcJ QvK p/\mt cm fns gns sc N a x=yx/\mt cm fns gns sc N b (.BoolOp QcJ QED p)=true:=by
 let⟨⟨o,xs,p⟩,h1,h2⟩:=any_some h;let e1:=X37 h1;subst e1;rw[bA0]at h2;let e2:=X38 h2.1;dsimp at e2;subst e2;let⟨⟨x,y⟩,h3,B⟩:=any_some h2.2;rw[bA0]at B;rcases X39 h3 with e3|⟨y1,y2,r,e3,L⟩;·dsimp at e3;subst e3;exact .inl ⟨x,y,p,rfl,B.1,B.2⟩
 ·dsimp at e3 L;subst e3 L;calc .inr ⟨x,y1,y2,r,p,rfl,B.1,B.2⟩
def X9a(h:mt cm fns gns sc N Q8a e=yx):(∃x y p,e=.BoolOp .And Qc9 p/\mt cm fns gns sc N a x=yx/\mt cm fns gns sc N b y=yx)\/∃x y z r p,e=.BoolOp .And QvK p/\mt cm fns gns sc N a x=yx/\mt cm fns gns sc N b QXM=true:=by calc Xr3 (an:=yx) h
def Ycy(h:mt cm fns gns sc N Qqb e=yx):(∃x y p,e=.BoolOp .Or Qc9 p/\mt cm fns gns sc N a x=yx/\mt cm fns gns sc N b y=yx)\/∃x y z r p,e=.BoolOp .Or QvK p/\mt cm fns gns sc N a x=yx/\mt cm fns gns sc N b QoN=true:=by calc Xr3 (an:=yw) h
def X9b{c a b:Ex}{e:Expr}(h:mt cm fns gns sc N QAF e=yx):∃x y z p,e=.IfExp x y z p/\mt cm fns gns sc N c x=yx/\mt cm fns gns sc N a y=yx/\mt cm fns gns sc N b z=true:=by let⟨⟨x,y,z⟩,h1,h2⟩:=any_some h;let⟨p,rfl⟩:=X8v h1;simp[bA0]at h2;calc⟨x,y,z,p,rfl,h2.1.1,h2.1.2,h2.2⟩
def X9c{a i:Ex}{e:Expr}(h:mt cm fns gns sc N (.idx a i) e=yx):∃x y p,e=.Subscript x y p/\Xem y=yx/\mt cm fns gns sc N a x=yx/\mt cm fns gns sc N i y=true:=by let⟨⟨x,y⟩,h1,h2⟩:=any_some h;let⟨p,rfl⟩:=Xhg h1;simp[bA0]at h2;calc⟨x,y,p,rfl,h2.1.1,h2.1.2,h2.2⟩
def Xwx{k:Bool}{n:Nat}{gs:Gens}{elt:Ex}{e:Expr}(h:mt cm fns gns sc N (.cmr k n gs elt) e=yx):∃B gens scope p,e=.ListComp B gens scope p/\cm=yx/\k=yw/\QR3.length=n/\scB sc scope N=yx/\mtG cm fns gns sc N QLI QQN gs gens=yx/\mt cm fns gns QLI QQN elt B=true:=by let⟨⟨B,gens,scope⟩,h1,h2⟩:=any_some h;let⟨p,rfl⟩:=X8y h1;simp[bA0,decide_eq_true_eq,Va4]at h2;let⟨⟨⟨⟨⟨L,h1⟩,h2⟩,h3⟩,h4⟩,h5⟩:=h2;calc⟨B,gens,scope,p,rfl,L,h1,h2,h3,h4,h5⟩
def X1x{n1 n2:Str}{cm:Bool}{M:Expr->Bool}(h:(QH6.any λz=>Qt3.any λ(x:Str)=>decide (x=n1)&&cm&&glB sc x&&z.2.2.1.isEmpty&&QRN.any λy=>QHR.any λ(x2:Str)=>decide (x2=n2)&&glB sc x2&&y.2.2.1.isEmpty&&Xy y.2.1&&M y.2.1)=yx):
  ∃p p2 x cp B,e=.Call (.Name n1 p) [.Call (.Name n2 p2) [x] [] B] [] cp/\cm=yx/\glB sc n1=yx/\glB sc n2=yx/\Xy x=yx/\M x=true:=by
 let⟨x,p,y,ys,cp,rfl,h1⟩:=Xcr h;rw[bA0,bA0,bA0,bA0]at h1;let⟨⟨⟨⟨e1,e2⟩,e3⟩,e4⟩,h2⟩:=h1;let⟨x2,p2,y2,ae,B,rfl,h3⟩:=Xcr h2;rw[bA0,bA0,bA0,bA0]at h3;let⟨⟨⟨⟨f1,f2⟩,f3⟩,f4⟩,f5⟩:=h3;let ab:=oD0 e1;let ac:=oD0 f1;subst ab ac;let aa:=Vbf.mp e4;let L:=Vbf.mp f3;dsimp at aa L;subst aa L;calc⟨p,p2,y2,cp,B,rfl,e2,e3,f2,f4,f5⟩
def X9d{t:Bool}(h:mt cm fns gns sc N (.lrg t QK9) e=yx):∃p p2 x L B,e=.Call QlV [.Call QkO [x] [] B] [] L/\cm=yx/\glB sc Q2N=yx/\glB sc "range"=yx/\Xy x=yx/\mt cm fns gns sc N a x=true:=by calc X1x h
def X9e(h:mt cm fns gns sc N (.sst a) e=yx):∃p p2 x L B,e=.Call QjO [.Call QuF [x] [] B] [] L/\cm=yx/\glB sc "sorted"=yx/\glB sc "set"=yx/\Xy x=yx/\mt cm fns gns sc N a x=true:=by calc X1x h
def Ycz{nm:Str}{cm:Bool}{M:Expr->Bool}(h:(QH6.any λz=>Qt3.any λ(x:Str)=>decide Qbf&&cm&&glB sc x&&z.2.2.1.isEmpty&&Xy z.2.1&&M z.2.1)=yx):∃p x cp,e=.Call (.Name nm p) [x] [] cp/\cm=yx/\glB sc nm=yx/\Xy x=yx/\M x=true:=by let⟨x,p,y,ys,cp,rfl,h1⟩:=Xcr h;rw[bA0,bA0,bA0,bA0,bA0]at h1;let⟨⟨⟨⟨⟨e1,e2⟩,e3⟩,e4⟩,e5⟩,h2⟩:=h1;let L:=oD0 e1;let B:=Vbf.mp e4;dsimp at B;subst L B;calc⟨p,y,cp,rfl,e2,e3,e5,h2⟩
def Xjm(h:mt cm fns gns sc N (.frz a) e=yx):(nfz a=yx/\pln e=yx)/\mt cm fns gns sc N a e=true:=QwF.imp (bA0 _ _).mp id
def X9f(h:mt cm fns gns sc N QrY e=yx):∃x p y ys B,e=.Call QSH Q60 [] B/\blB k x=yx/\QrX=yx/\glB sc x=yx/\Y0 x=yx/\mts cm fns gns sc N es Q60=true:=by let⟨x,p,y,ys,B,rfl,h1⟩:=Xcr h;rw[bA0,bA0,bA0,bA0]at h1;calc⟨x,p,y,ys,B,rfl,h1.1.1.1.1,h1.1.1.1.2,h1.1.1.2,h1.1.2,h1.2⟩
def X4d{k:Nat}(h:mt cm fns gns sc N (.call k es) e=yx):∃x p y ys B,e=.Call QSH Q60 [] B/\(∃fl,fns[k]?=yz (x,Q60.length,fl)/\Q5T)/\glB sc x=yx/\Y0 x=yx/\mts cm fns gns sc N es Q60=true:=by
 let⟨x,p,y,ys,B,rfl,h1⟩:=Xcr h;rw[bA0,bA0,bA0]at h1;calc⟨x,p,y,ys,B,rfl,?_,h1.1.1.2,h1.1.2,h1.2⟩;let h2:=h1.1.1.1;unfold fnB at h2;split at h2;·rename_i nm L fl e;simp[bA0,decide_eq_true_eq,Vb7,Va4]at h2;let⟨⟨rfl,rfl⟩,h2⟩:=h2;exact⟨fl,e,λz=>by rcases h2 with h2|h2;calc h2;rw[z]at h2;cases h2⟩
 ·cases h2
def X9g{k:Mt}{o:Ex}{es:Exs}{e:Expr}(h:mt cm fns gns sc N QPV e=yx):∃L nm ap y ys cp,e=.Call (.Attribute L nm ap) Q60 [] cp/\mtB k nm=yx/\Xil L=yx/\Q27=yx/\Q60.length<29/\mt cm fns gns sc N o L=yx/\mts cm fns gns sc N es Q60=true:=by let⟨⟨f,y,ys,cp⟩,h1,h2⟩:=any_some h;let⟨⟨L,nm,ap⟩,h3,B⟩:=any_some h2;let e1:=Xhh h1;subst e1;let aa:Xor f=yz QFf:=h3;let e2:=Xr2 aa;subst e2;rw[bA0,bA0,bA0,bA0,bA0]at B;calc⟨L,nm,ap,y,ys,cp,rfl,B.1.1.1.1.1,B.1.1.1.1.2,B.1.1.1.2,oD0 B.1.1.2,B.1.2,B.2⟩
def X9h{o:Ex}{es:Exs}{e:Expr}(h:mt cm fns gns sc N QkY e=yx):∃L ap y ys cp,e=.Call (.Attribute L "add" ap) Q60 [] cp/\Xil L=yx/\Q27=yx/\Q60.length<29/\mt cm fns gns sc N o L=yx/\mts cm fns gns sc N es Q60=true:=by let⟨⟨f,y,ys,cp⟩,h1,h2⟩:=any_some h;let⟨⟨L,nm,ap⟩,h3,B⟩:=any_some h2;let e1:=Xhh h1;subst e1;let aa:Xor f=yz QFf:=h3;let e2:=Xr2 aa;subst e2;rw[bA0,bA0,bA0,bA0,bA0]at B;let e3:nm="add":=oD0 B.1.1.1.1.1;subst e3;calc⟨L,ap,y,ys,cp,rfl,B.1.1.1.1.2,B.1.1.1.2,oD0 B.1.1.2,B.1.2,B.2⟩
def X9i(h:mt cm fns gns sc N .st0 e=yx):∃p B,e=.Call (.Name "set" p) [] [] B/\glB sc "set"=true:=by let⟨⟨f,B⟩,h1,h2⟩:=any_some h;let⟨x,h3,L⟩:=any_some h2;let e1:=X4b h1;subst e1;let⟨p,e2⟩:=Xbn h3;cases e2;rw[bA0,decide_eq_true_eq]at L;let⟨rfl,h5⟩:=L;calc⟨p,B,rfl,h5⟩
def X9j(h:mt cm fns gns sc N (.srs a) e=yx):∃p x B,e=.Call QjO [x] [] B/\cm=yx/\glB sc "sorted"=yx/\Xy x=yx/\mt cm fns gns sc N a x=true:=
 Ycz h
def X9k{a:Ex}{L:List Ty}{e:Expr}(h:mt cm fns gns sc N (.isi a L) e=yx):∃p0 x y B,e=.Call QTA Qc9 [] B/\glB sc "isinstance"=yx/\Xy x=yx/\mt cm fns gns sc N a x=yx/\tyM sc L y=true:=by let⟨f,p,y,ys,B,rfl,h1⟩:=Xcr h;rw[bA0,bA0,bA0,bA0]at h1;let⟨⟨⟨⟨h2,h3⟩,h4⟩,h5⟩,h6⟩:=h1;let e1:f="isinstance":=oD0 h2;subst e1;let⟨y2,h7,h8⟩:=any_some h6;let e2:ys=[y2]:=Xbz h7;subst e2;calc⟨p,y,y2,B,rfl,h3,h4,h5,h8⟩
def X9l(h:tyM sc ts y=yx):(∃t nm p,ts=[t]/\y=.Name nm p/\glB sc nm=yx/\Y0 nm=yx/\tyB sc t nm=yx) \/
  ∃t1 t2 n1 n2 p1 p2 k p,ts=QzH/\y=.Tuple [.Name n1 p1,.Name n2 p2] k p/\glB sc n1=yx/\Y0 n1=yx/\glB sc n2=yx/\Y0 n2=yx/\Xom t1=yx/\Xom t2=yx/\tyB sc t1 n1=yx/\tyB sc t2 n2=true:=by
 unfold tyM at h;split at h
 ·simp[bA0]at h;let⟨⟨h1,h2⟩,B⟩:=h;split at B;·exact .inl ⟨_,_,_,rfl,rfl,h1,h2,B⟩
  ·cases B
 ·split at h
  ·simp[bA0]at h;let⟨⟨⟨⟨h1,h2⟩,B⟩,h4⟩,L⟩:=h;split at L;·simp[bA0]at L;let⟨⟨⟨h6,h7⟩,h8⟩,h9⟩:=L;exact .inr ⟨_,_,_,_,_,_,_,_,rfl,rfl,h1,h2,B,h4,h6,h7,h8,h9⟩
   ·cases L
  cases h
 ·cases h
def X9m{a:Ex}{lo hi:Op}{e:Expr}(h:mt cm fns gns sc N (.sli a lo hi) e=yx):∃x l u p2 p,e=.Subscript x (.Slice l u yy p2) p/\mt cm fns gns sc N a x=yx/\mto cm fns gns sc N lo l=yx/\mto cm fns gns sc N hi u=true:=by let⟨⟨x,y⟩,h1,h2⟩:=any_some h;let⟨⟨l,u⟩,L,B⟩:=any_some h2;let⟨p,rfl⟩:=Xhg h1;let⟨p2,e2⟩:=X4a L;dsimp at e2;subst e2;simp[bA0]at B;calc⟨x,l,u,p2,p,rfl,B.1.1,B.1.2,B.2⟩
def Xtz{w:Str}{es:Exs}{e:Expr}(h:(QH6.any λz=>Qt3.any λx=>decide (x=w)&&glB sc x&&mts cm fns gns sc N es QG1)=yx):∃p y ys B,e=.Call (.Name w p) Q60 [] B/\glB sc w=yx/\mts cm fns gns sc N es Q60=true:=by let⟨x,p,y,ys,B,rfl,h1⟩:=Xcr h;rw[bA0,bA0]at h1;let e1:x=w:=oD0 h1.1.1;subst e1;calc⟨p,y,ys,B,rfl,h1.1.2,h1.2⟩
def X4e(h:mtI cm fns gns sc N Qkb e=yx):∃p y ys B,e=.Call (.Name "zip" p) Q60 [] B/\glB sc "zip"=yx/\mts cm fns gns sc N es Q60=true:=by calc Xtz h
def X4f(h:mtI cm fns gns sc N Q1c e=yx):∃p y ys B,e=.Call QxL Q60 [] B/\glB sc "enumerate"=yx/\mts cm fns gns sc N es Q60=true:=by calc Xtz h
def X4g(h:mtI cm fns gns sc N QWS e=yx):∃p y ys B,e=.Call Q7Q Q60 [] B/\glB sc "range"=yx/\mts cm fns gns sc N es Q60=true:=by calc Xtz h
def X9n{f:Ex}{es:Exs}{e:Expr}(h:mt cm fns gns sc N (.cal f es) e=yx):∃B y ys L,e=.Call B Q60 [] L/\cm=yx/\Xz3 B=yx/\mt cm fns gns sc N f B=yx/\mts cm fns gns sc N es Q60=true:=by let⟨⟨B,y,ys,L⟩,h1,h2⟩:=any_some h;let e1:=Xhh h1;subst e1;rw[bA0,bA0,bA0]at h2;calc⟨B,y,ys,L,rfl,h2.1.1.1,h2.1.1.2,h2.1.2,h2.2⟩
def X9o{a:Ex}{e:Expr}(h:mt cm fns gns sc N (.rev a) e=yx):∃x y p,e=.Subscript x y p/\Xz4 1 yy y=yx/\mt cm fns gns sc N a x=true:=by let⟨⟨x,y⟩,h1,h2⟩:=any_some h;let⟨p,rfl⟩:=Xhg h1;rw[bA0]at h2;calc⟨x,y,p,rfl,h2.1,h2.2⟩
def Xjn{top:Str->Bool}{tg:Expr}(h1:Xgj t it=yx)(h2:mtT top sc N t tg=yx)(L:Xtw it=yx):∃es k p,tg=.Tuple es k p:=by
 unfold Xgj at h1;rw[L]at h1;cases t with
 |var i=>cases h1|tup is=>simp[mtT]at h2;let⟨es,B,_⟩:=any_some h2;let⟨k,p,rfl⟩:=Xdb B;calc⟨es,k,p,rfl⟩
universe e
abbrev blts:LS:=["len","tuple","list","all","any","sum","max","min","range","isinstance","sorted","set","str","repr","zip","enumerate","abs","ValueError","int","bool","dict"]
abbrev bmV:LV:=[.type "ValueError",.type "Exception",.type "BaseException",.type "object"]
abbrev Xz6:Data->Option ClassData
 |.cls B=>yz B|_=>yy
def X4h{d:Data}{B:ClassData}(h:Xz6 d=yz B):d=.cls B:=by cases d<;>cases h<;>rfl
abbrev Xos(K:Vh)(C:Addr):Bool:=match K.lookup C with
 |none=>yw|some o=>match Xz6 o.data with
  |none=>yw|some B=>o.cls == .type "type" && B.mro == .ref C::B.mro.tail&&o.slots == #[o.slots.getD 0 yy,o.slots.getD 1 yy,o.slots.getD 2 yy,o.slots.getD 3 yy,yz (.builtin "ValueError.__new__"),o.slots.getD 5 yy] && !B.hasDel&&PySem.W.tailIn K bmV B.mro.tail&&PySem.W.nsOkIn K B.ns&&Va2 K B.ns "__init__" == yz yy
abbrev Xz7(K:Vh):Bool:=
 ((K.lookup Vci).any λo=>!(o.cls == .type "list"))&&PySem.W.specialIn K QT0 "__get__" == yz Q9U&&PySem.W.takesIn K QT0==yz yx &&
 QNM.all λc=>match Y8 K c with
  |some C=>Xos K C&&(Ves K QL2 "__getattribute__" == yz Qb1&&Ves K QL2 "__getattr__" == yz yy&&PySem.W.mroIn K C QF4==yz yx)&&QWN.isSome&&Ves K QL2 "__class__" == yz QAU&&PySem.W.mroIn K C QcA==yz yx &&
   Vg1 K QL2 QUM==yz yx&&QNM.all λc0=>match Y8 K c0 with
    |some B=>Vg1 K QL2 QNV==yz QDC&&(! QDC||PySem.W.exmOne K QL2 QNV==yz yx)|none=>yx
  |none=>Qte.isNone
structure ErrOk(K:Vh):Prop where
 sm:∃o,K.lookup Vci=yz o/\o.cls≠.type "list"
 gt:PySem.W.specialIn K QT0 "__get__"=yz Q9U
 tk:PySem.W.takesIn K QT0=yz yx
 at_:∀c nm,Xb2 c=yz nm->∃C,Y8 K c=yz C/\Va2 K Um nm=yz QBU
 cls:∀c C,Y8 K c=yz C->Xos K C=yx/\(Ves K QL2 "__getattribute__"=yz Qb1/\Ves K QL2 "__getattr__"=yz yy/\PySem.W.mroIn K C QF4=yz yx)/\QWN.isSome=yx/\Ves K QL2 "__class__"=yz QAU/\PySem.W.mroIn K C QcA=yz yx/\Vg1 K QL2 QUM=yz yx
 sub:∀c C c0 C0,Y8 K c=yz C->Y8 K c0=yz C0->Vg1 K QL2 QjL=yz QDC/\(QDC=yx->PySem.W.exmOne K QL2 QjL=yz yx)
def Xio{K:Vh}{c:Nat}{C:Addr}(h:Y8 K c=yz C):c<lg clsNames:=by
 unfold Y8 at h;cases q:Xb2 c with
 |none=>rw[q]at h;cases h|some _=>calc Xnn q
def X4i{K:Vh}(h:Xz7 K=yx):ErrOk K:=by
 simp[Xz7,bA0,beq_iff_eq,Ug,Va9]at h;let⟨⟨⟨B,h1⟩,h2⟩,h3⟩:=h;let aa:∃o,K.lookup Vci=yz o/\o.cls≠.type "list":=by
  cases q:K.lookup Vci with
  |none=>rw[q]at B;cases B|some o=>rw[q]at B;calc⟨o,rfl,λz=>?_⟩;rw[Option.any_some,z]at B;cases B
 exact⟨aa,h1,h2,λc nm e=>?_,λc C e=>?_,λc C c0 C0 e e0=>?_⟩
 ·let:=h3 c (Xnn e);split at this
  ·rename_i C q;calc⟨C,q,?_⟩;unfold Y8 at q;rw[e,Vab]at q;split at q;·rename_i q2;cases q;exact q2
   ·cases q
  rw[e]at this;cases this
 ·let:=h3 c Qge;rw[e]at this;simp[bA0,beq_iff_eq]at this;let⟨⟨⟨⟨⟨⟨a1,⟨⟨a2,ab⟩,L⟩⟩,a3⟩,a4⟩,a5⟩,a6⟩,_⟩:=this;exact⟨a1,⟨a2,ab,L⟩,a3,a4,a5,a6⟩
 let:=h3 c Qge;rw[e]at this;simp[bA0,beq_iff_eq,Ug,Va9]at this;let z:=this.2 c0 (Xio e0);rw[e0]at z;simp[bA0,beq_iff_eq,Vb7,Va4]at z;calc⟨z.1,λy=>?_⟩;rcases z.2 with z2|z2;·rw[y]at z2;cases z2
 ·calc z2
universe Z
universe e
section
namespace Z
open PySem PySem.Spec PySem.Calls PyProof.Rows L2 PySem.W Builtin Builtin.ObjectAttr Builtin.Getset_descriptor
section
variable{prog:V0}{w:V9}{A:Uu}{E:VP}{K:Frag}{y D:Addr}
def Xdl(e:ExcO D y h):Looks M h (typeOf Qp6) Ql5:=by let⟨ob,_,_,q,B,_⟩:=e;calc B▸(Looks.ld q).andThen .now
def X4j {R:Result->Vc->Prop} (B:K.In s.heap) (e:ExcO D y s.heap) (L:mroIn K D QcA=yz yx) (q:R (.ok (.ret Ql5)) s):
  Vco Q6 A (.call Ql2 ⟨[.builtin "object.__class__",.ref y,tv],[]⟩) R s:=by
 let⟨hp,gn,dw,tk,os⟩:=s;let T0:=Xdl (M:=Vj prog w) e;let T1:=looks_mroIn (M:=Vj prog w) B L;calc Vf1 KF.slot_gs.plain KF.entry_gs (KF.slot_gs.check _ _ _ _ _ _ _ _ KF.type_class (KF.args_gs _ _ _) ?_);unfold Vbb.«getset_descriptor.__get__» descrGet;rw[dga_obj];calc Va Q71;unfold descrGetter descrCheckInstance descrNameAndClass isInstance;simp[KF.owner_class]
 repeat lk
 calc⟨Vgs _ Q9,Vay KF.entry_class ?_⟩;unfold Vbb.«object.__class__» shownTypeOf
 repeat lk
 calc q
def Xz8 (B:K.In h) (h1:findIn K Ql5 nm=yz Qw8) (h2:specialIn K v "__get__"=yz QER) (h3:takesIn K v=yz yx):Looks M h (find Qp6 Ql5 nm) (.bind g v):=by let L:=looks_findIn (M:=M) B h1;let a2:Looks M h (getOf Qw8) QER:=looks_specialIn B h2;let a3:=looks_takesIn (M:=M) B h3;calc L.andThen (a2.andThen ((show Looks M h (dataDescriptor? Qw8 QER) (yz (g,v)) from a3.andThen .now).andThen (Looks.tag .now)))
def Xwy (L:K.In s.heap) (e:ExcO D y s.heap) (h1:findIn K Ql5 nm=yz Qw8) (h2:specialIn K v "__get__"=yz QER) (h3:takesIn K v=yz yx)
  (z:Vg Q6 A Qn8 (λr s1=>Q (.done (.ret r)) s1) E s):
  Vg Q6 A (Vbb.«object.__getattribute__» ⟨[.ref y,.str nm tk],[]⟩) Q E s:=by
 let⟨hp,gn,dw,t0,os⟩:=s;let T0:=Xdl (M:=Vj prog w) e;let B:=Xz8 (M:=Vj prog w) (y:=y) L h1 h2 h3;unfold Vbb.«object.__getattribute__»;calc Va Q71;calc Va Q71;calc Va (T0.at (Va Qfb));show Vg Q6 A (Vd6 [v] Qn8 >>= ret) _ _ _;calc Va (Uy (Vp z (λr s1 q=>Vd q) λ_ _ q=>q))
def Xwz (hK:K.In s.heap) (e:ExcO D y s.heap) (L:mroIn K D QF4=yz yx) (q:Q () s):
  Vg Q6 A (Vf0 "BaseException.__getattribute__" ⟨[.ref y,nv],[]⟩) Q E s:=by
 let⟨hp,gn,dw,t0,os⟩:=s;let T0:=Xdl (M:=Vj prog w) e;let B:=looks_mroIn (M:=Vj prog w) hK L;let kd:builtinKind "BaseException.__getattribute__"=yz .slot:=by decide+kernel
 let sp:splitId "BaseException.__getattribute__"=yz ("BaseException","__getattribute__"):=by decide+kernel
 let ao:=PySem.F.args_bexc_ga Qp6 nv;simp[Vf0,kd,sp];unfold isInstance;calc Va (Va (T0.at Qfb));rw[iN0 Q1];calc Vga ao q
def Xz9 (B:K.In s.heap) (e:ExcO D y s.heap) (ga:findIn K Ql5 "__getattribute__"=yz Qb1) (gn:findIn K Ql5 "__getattr__"=yz yy)
  (hm:mroIn K D QF4=yz yx) (h1:findIn K Ql5 nm=yz Qw8) (h2:specialIn K v "__get__"=yz QER) (h3:takesIn K v=yz yx) (hh:handedIn Ql5=yx)
  (z:∀A':Uu,Vg Q6 A' Qn8 (λr s1=>r=.ref D/\Q (yz Ql5) s1) QZ0 QjA):
  Vg Q6 A (getAttr? Qp6 nm) Q E s:=by
 let⟨hp,gs,dw,tk,os⟩:=s;let T0:=Xdl (M:=Vj prog w) e;let T1:=looks_findIn (M:=Vj prog w) B ga;let T2:=looks_findIn (M:=Vj prog w) B gn;let T3:=looks_mroIn (M:=Vj prog w) B hm;unfold getAttr? getAttrBy? getAttrBy;calc Va (wpAny_mkText (Va (Vdn (Uy (Va (T0.at (Va (T1.at ?_))))))));let L:(onTheHeap (Ux D)&&Value.builtin "BaseException.__getattribute__" == Value.builtin "object.__getattribute__")=false:=by
  let:(Value.builtin "BaseException.__getattribute__" == Value.builtin "object.__getattribute__")=false:=by decide+kernel
  rw[this,Vc9]
 dsimp;rw[iN0 (by rw[L];calc V3)];unfold getAttrByItsOwn hookBefore;rw[iP0 Qfc];calc Va (T2.at (Va (Vdn QBf)));unfold callGetattribute boundAndCalled;rw[iN0 QB];let f3:=PySem.F.excAttr_ValueError.ga.bind Qp6;rw[f3];calc Va Q71;calc wpAny_call (Vf1 PySem.F.excAttr_ValueError.ga.plain PySem.F.entry_bexc_ga (Xwz (s:=Q1M) B e hm ?_));calc Xwy (s:=Q1M) B e h1 h2 h3 (Vp (z _) (λr s1 q=>?_) λ_ _ q=>q.elim);let⟨rfl,q⟩:=q;calc handed_on hh Q0g
def X0a (p1:findIn K Ql5 "__getattribute__"=yz Qb1) (p0:findIn K Ql5 "__getattr__"=yz yy) (p7:mroIn K D QF4=yz yx) (p2:(clsIn K D).isSome=yx) (p3:findIn K Ql5 "__class__"=yz QAU)
  (p4:specialIn K QT0 "__get__"=yz Q9U) (p5:takesIn K QT0=yz yx) (p6:mroIn K D QcA=yz yx):KitX K Qp6 Ql5 (ExcO D y) where
 ty:=λ_ _ _ e=>Xdl e
 it:=λ_ _ L _=>by
  unfold clsIn at p2;split at p2;·rename_i lk;intro B Q' E' s' k q;unfold isType loadHead;exact Va (wpAny_loadPart (k _ _ (L _ _ lk)) Q0g)
  ·cases p2
 ne:=λhp tp dd its n sl L ht=>by
  exact Vhc.mpr λq=>?_;let q':D=tp:=Value.ref.inj (beq_iff_eq.mp q);subst q';unfold clsIn at p2;split at p2;·rename_i lk;cases (L _ _ lk).symm.trans ht
  ·cases p2
 ca:=λ{prog w B E' Q' s'} L e k=>Xz9 L e p1 p0 p7 p3 p4 p5 rfl λA'=>wpAny_call (X4j (s:={s' with toks:=s'.toks+1}) L e p6 ⟨rfl,k⟩)
universe e
universe Z
universe e
section
namespace Z
open PySem PySem.Spec PyProof.Rows L2
abbrev Xb5:Ty->Option (Str×String)
 |.int=>yz ("int","int")|.bool=>yz ("bool","bool")|.str=>yz ("str","str")|.tuple=>yz ("tuple","tuple")|.list=>yz ("list","list")|.dict=>yz ("dict","dict")|_=>yy
abbrev Xip:Kd->Option String
 |.non=>yz "NoneType"|.bool=>yz "bool"|.int=>yz "int"|.str=>yz "str"|.tuple=>yz "tuple"|.list=>yz "list"|.dict=>yz "dict"|.exc _=>yy
def Xgk(h:Xb5 t=yz QMU):Veu nm=yz QhD:=by cases t<;>simp[Xb5,Vw,Ve5,reduceCtorEq]at h<;>let⟨rfl,rfl⟩:=h<;>decide+kernel
def Xiq(h:Xb5 t=yz QMU):nm∈blts:=by cases t<;>simp[Xb5,Vw,Ve5,reduceCtorEq]at h<;>let⟨rfl,rfl⟩:=h<;>decide
def Xks(B:Xb5 t=yz QMU)(L:Xip k=yz U)(h:isT k t=yz b)(K:Vh):Vg1 K QTS QhD=yz b:=by cases k<;>simp[Xip,Vw,reduceCtorEq]at L<;>subst L<;>cases t<;>simp[Xb5,Vw,Ve5,reduceCtorEq]at B<;>let⟨rfl,rfl⟩:=B<;>simp[isT,tyQ,Vw]at h<;>subst h<;>kernel_rfl
section
variable{X:Cx}{pc:LA}{σ:L2.St}{H:Hp}{s:Vc}{ρ:LR}{S:Sto}{env:En}{a:Expr}{fa:En->Sto->R D}{pos:Pos}
def X1y(I:S0 X pc σ H s ρ S env)(h:kdD S d=yz k)(L:Xip k=yz U)(B:RD X.K ρ H d v)(rv:RelV v u):
  ∃P:Heap->Prop,PySem.W.KitX X.K u QTS P/\P s.heap/\u≠.builtin "__main__.__loader__#opaque":=by
 cases d with
 |non=>cases h;cases L;simp[RD]at B;subst B;cases rv;calc⟨_,PySem.W.kitx_none,trivial,λz=>nomatch z⟩|bl b=>cases h;cases L;simp[RD]at B;subst B;cases rv;calc⟨_,PySem.W.kitx_bool,trivial,λz=>nomatch z⟩|int i=>cases h;cases L;simp[RD]at B;subst B;let⟨t,rfl⟩:=rv;calc⟨_,PySem.W.kitx_int,trivial,λz=>nomatch z⟩|str x=>cases h;cases L;simp[RD]at B;subst B;let⟨t,rfl⟩:=rv;calc⟨_,PySem.W.kitx_str,trivial,λz=>nomatch z⟩|tup xs=>cases h;cases L;simp[RD]at B;let⟨p,vs,rfl,hq,_⟩:=B;cases rv;let⟨its,_,pl,_⟩:=I.inv.tuple hq;let⟨o,h1,h2,_⟩:=pl;calc⟨_,PySem.W.kitx_tuple,Q8X,λz=>nomatch z⟩|fro xs=>cases h;cases L;simp[RD]at B;let⟨p,vs,rfl,hq,_⟩:=B;cases rv;let⟨its,_,pl,_⟩:=I.inv.list hq.sq;let⟨o,n,h1,h2,_⟩:=pl;calc⟨_,PySem.W.kitx_list,Q8X,λz=>nomatch z⟩|fn _ _=>cases h|edc=>cases h;cases L;simp[RD]at B;let⟨p,og,rfl,hv⟩:=B;cases rv;let⟨_,_,_,vs,_,o,es,ep,h1,h2,_⟩:=(show ObjOk X.prog X.w H s.heap p QXV from I.inv.hok p _ hv);exact⟨_,PySem.W.kitx_dict,QqT,λz=>nomatch z⟩|ref n=>
  simp[kdD]at h;simp[RD]at B;let⟨p,rfl,hp⟩:=B;cases rv;split at h;·rename_i xs e;cases h;cases L;let⟨vs,hv,_⟩:=I.sr.ob n p _ hp e;let⟨_,its,n',_,h1⟩:=(show ObjOk X.prog X.w H s.heap p QE3 from I.inv.hok p _ hv);exact⟨_,PySem.W.kitx_list,⟨_,h1,rfl⟩,λz=>nomatch z⟩
  ·rename_i xs e;cases h;cases L;let⟨_,hv⟩:=(show(([]:List QbE)=[]/\H p=yz Qs6)\/_ from I.sr.ob n p _ hp e).resolve_right λz=>z.1 rfl;let⟨_,_,vs,_,o,es,ep,h1,h2,_⟩:=(show ObjOk X.prog X.w H s.heap p Qs6 from I.inv.hok p _ hv);exact⟨_,PySem.W.kitx_dict,QqT,λz=>nomatch z⟩
  ·cases h;cases L
  cases h
def Xeo (ht:Xb5 t=yz QMU) (hb:∀x∈blts,X.mg x=yy) (ac:Gl X "isinstance") (hg:Gl X nm) (hok:Y0 nm=yx) (ha:DE X a fa) (L:Xy a=yx):
  DE X Qs2 Qe0:=by
 intro pc s σ H ρ S env I nb;dsimp at nb |-;let⟨o1,_,o3⟩:=Xaz hok;calc Vaq (X8 I.inv ac Qma (u:=.builtin "isinstance") Q9 ?_);calc Vbc ?_ QAb rfl;rw[Xh L];generalize hr:QZ3=r at nb |-;calc Vbl (ha.bind I Q46 hr.symm (λd S1 u s1 v H1 ae e1 aa I1 rv rd ab=>?_) λ_ _ z=>z);calc Vbl (X8 I1.inv hg (hb _ (Xiq ht)) (Xgk ht) ?_ o3 o1);calc Vdk ?_;cases q:QCP.bind λk=>Yx k [t] with
 |none=>rw[q]at aa;cases aa rfl|some b=>
  let⟨k,q1,B⟩:=Vg5.mp q;let q3:isT k t=yz b:=by
   unfold Yx at B;cases e:isT k t with
   |none=>rw[e]at B;cases B|some c=>rw[e]at B;cases c<;>simp![Yx]at B<;>rw[B]
  rw[e1,q];cases hU:Xip k with
  |none=>cases k<;>simp[Xip,reduceCtorEq]at hU;cases t<;>simp[Xb5,reduceCtorEq]at ht<;>simp[isT,tyQ,reduceCtorEq]at q3|some U=>let⟨P,k1,k2,k3⟩:=X1y I1 q1 hU rd rv;calc PySem.W.kia_one k1 I1.inv.kIn k2 (Xks ht hU q3 X.K) k3 λtk=>OkP.pre ab (Xd I1.sr (I1.inv.tok tk))
def Xw0 (er:ErrOk X.K) (ht:(∃c,t=.cls c/\Xb2 c=yz nm)\/(t=.valueError/\nm="ValueError")) (hb:∀x∈blts,X.mg x=yy) (ae:Gl X "isinstance") (hg:Gl X nm) (hok:Y0 nm=yx) (ha:DE X a fa) (aa:Xy a=yx):
  DE X Qs2 Qe0:=by
 intro pc s σ H ρ S env I nb;dsimp at nb |-;let⟨o1,_,o3⟩:=Xaz hok;calc Vaq QG7;calc Vbc ?_ (Xh aa) rfl;rw[Xh aa];generalize hr:QZ3=r at nb |-;exact Vbl (ha.bind I Q46 hr.symm (λd S1 u s1 v H1 af e1 ac B rv rd ab=>?_) λ_ _ z=>z)
 /- the value is an error -/
 cases q:QCP.bind λk=>Yx k [t] with
 |none=>rw[q]at ac;cases ac rfl|some b=>
  rw[e1,q];let⟨k,L,q2⟩:=Vg5.mp q;let q3:isT k t=yz b:=by
   unfold Yx at q2;cases e:isT k t with
   |none=>rw[e]at q2;cases q2|some c=>rw[e]at q2;cases c<;>simp![Yx]at q2<;>rw[q2]
  obtain⟨c',rfl⟩:∃c',k=.exc c':=by rcases ht with⟨c,rfl,_⟩|⟨rfl,_⟩<;>cases k<;>first|exact Q30|(simp[isT,tyQ,reduceCtorEq]at q3)
  obtain⟨n,rfl,hS⟩:∃n,d=.ref n/\S1[n]?=yz (.exc c'):=by
   cases d with
   |ref n=>
    calc⟨n,rfl,?_⟩;simp[kdD]at L;split at L;·cases L
    ·cases L
    ·rename_i c2 e;cases L;exact e
    cases L|_=>cases L
  simp[RD]at rd;let⟨p,rfl,hp⟩:=rd;cases rv;let⟨C,hC,hH⟩:=(show ∃C,Y8 X.K c'=yz C/\H1 p=yz QqP from B.sr.ob n p _ hp hS);let⟨_,⟨b1,b2,b3⟩,a3,a4,a5,a6⟩:=er.cls c' C hC;let hE:ExcO C p s1.heap:=(show ObjOk X.prog X.w H1 s1.heap p QqP from B.inv.hok p _ hH).1;let kx:=X0a (y:=p) b1 b2 b3 a3 a4 er.gt er.tk a5;rcases ht with⟨c,rfl,hc⟩|⟨rfl,rfl⟩
  ·let⟨C0,h1,h2⟩:=er.at_ c nm hc;let e3:b=QCA:=by simp[isT,Vw]at q3;exact q3.symm
   subst e3;calc Vbl (Xeh B.inv hg (Vdm B.inv.mod.kin B.inv.mod.glob h2) Q5d o1);exact PySem.W.kia_one kx B.inv.kIn hE (er.sub c' C c C0 hC h1).1 Qb3 λtk=>OkP.pre ab QxI
  let e3:b=true:=by simp[isT,Vw]at q3;exact q3.symm
  subst e3;calc Vbl (X8 B.inv hg Qma (u:=.type "ValueError") Q9 Q5d o3 o1);calc PySem.W.kia_one kx B.inv.kIn hE a6 Qb3 λtk=>OkP.pre ab QxI
universe e
def X0b(I:Inv X pc σ H s):Vci<s.heap.objs.size:=by let B:=(I.mod.glob.keeps I.bk).lt;calc Uf (show Vci<Um from by decide) (Vc2 B)
def d_dct0:DE X (.Dict [] [] pos) (λ_ S=>.ok Q7 QWI):=by
 intro pc s σ H ρ S env I _;let B:H s.heap.objs.size=none:=I.inv.hok.fresh Qw;let L:=X0b I.inv;let new:ObjOk X.prog X.w (upd H s.heap.objs.size Qs6) Q8P s.heap.objs.size Qs6:=
  ⟨Van _,beq_eq_false_iff_ne.mpr (λz=>by rw[z]at L;calc aB0 L Q2H),[],.nil,Heap.DictOf.new s.heap⟩
 let J:=I.inv.laid (t':=s.toks) Qd9 Qw new;calc wpAny_Dict_empty ?_;calc .mk (v:=.ref s.heap.objs.size) (ρ':=ρ++Q7E) (Stp.new1 B) J rfl ?_ (I.sr.new1 (o:=.dct []) B (.inl ⟨rfl,Xu⟩));simp[RD];calc Q5D
def Xhi(n d:Nat)(o:Option Int):Xdf n d o=HT.sIx n d o:=by
 cases o with
 |none=>rfl|some i=>
  simp[Xdf,HT.sIx];by_cases h:i<0;·rw[iP0 h,iN0 QV9]
  ·rw[iN0 h,iP0 QV9]
def Xw1{K:Vh}{ρ:LR}{H:Hp}{xs:LD}{vs:LW}(h:RDs K ρ H xs vs)(lo hi:Option Int):RDs K ρ H QFI (Xj8 vs lo hi):=by unfold cut Xj8;rw[Xhi,Xhi,h.length];calc(h.drop _).take _
section
variable{prog:V0}{w:V9}{A:Uu}{E:VP}{s:Vc}
def Xp9{items:AV}{lo hi:Option Int}{Q:VP}(B:Vdz s.heap t items)(hs:s.heap.IsSliceOf sl vl vu .none)(pl:Vfm vl lo)(pu:Vfm vu hi)
  (h1:HT.sIx items.size 0 lo=0) (h2:HT.sIx items.size items.size hi=items.size) (h:Q QO5 s):Vg Q6 A QME Q E s:=by
 let⟨os,ab,aa,ac⟩:=id hs;let L:s.TypeIs Qo9 "slice" := ⟨os,ab,aa⟩;unfold getItem
 try with_reducible exact Uy ?_
 first|exact Va Q71|skip
 calc Va (Vi7 B.typeIs Q1 (Va (Vap (name:=Va0 "__getitem__") B.typeIs Vbs (Us Vbs B.typeIs Vig ?_ (Viy _ _)))));show Vg _ _ Q1H _ _ s;calc Va (tupleItemsOf_ B (Va (Vcm L ?_)));rw[iP0 Q1];calc Va (HT.sliceApplied_gen hs pl pu ?_);show Vg _ _ (if (((HT.sIx items.size 0 lo:Nat):Int)==0&&(1:Int)==1&&(HT.sIx items.size items.size hi-HT.sIx items.size 0 lo)==items.size)=yx then _ else _) _ _ s;rw[h1,h2,iP0 QB];calc Va ?_;unfold Builtin.Tuple.tupleIsExact;calc Va (Vcm B.typeIs Q71);rw[iP0 Q1];calc Va (Vbz Qg2)
universe e
theorem Xmv(K:Vh)(ρ:LR)(H:Hp)(o:Option D)(u:Vb):Prop:=match o with
 |none=>u=.none|some d=>∃v,RelV v u/\RD K ρ H d v
theorem DO(X:Cx)(e:Option Expr)(f:En->Sto->R Qw3):Prop:=
 ∀(pc:LA) (s:Vc) (σ:L2.St) (H:Hp) (ρ:LR) (S:Sto) (env:En),S0 X pc σ H s ρ S env->f env S≠.bad ->
  Vg Q2 X.A QTD (λu s'=>∃o S',f env S=.ok o S'/\∃H' ρ',Inv X pc σ H' s'/\SR X.K QV1 ρ' S' H'/\Stp X.K ρ ρ' H H'/\Xmv X.K ρ' H' o u) Qf4 s
section
variable{X:Cx}{pc:LA}{σ:L2.St}{H:Hp}{s:Vc}{ρ:LR}{S:Sto}{env:En}{a:Expr}{fa:En->Sto->R D}{pos p2:Pos}
def Xr4:DO X yy (λ_ S=>.ok yy S):=by intro pc s σ H ρ S env I B;rw[evalPart_none];calc Vd ⟨yy,S,rfl,H,ρ,I.inv,I.sr,.refl,rfl⟩
def Xr5(h:DE X a fa):DO X (yz a) (λenv S=>QC0.bind λx S=>.ok QDD S):=by intro pc s σ H ρ S env I nb;dsimp at nb |-;rw[evalPart_some];calc h.bind I nb rfl (λd S1 u s1 v H1 L e1 aa I1 rv rd B=>?_) λ_ _ z=>z;calc⟨yz d,S1,e1,H1,L,I1.inv,I1.sr,B,v,rv,rd⟩
def DO.bind{α:Type}{e:Option Expr}{f:En->Sto->R Qw3}(h:DO X e f)(I:S0 X pc σ H s ρ S env){k:Option D->Sto->R α}{r:R α}{Q:VP}{E:VP}(L:Qa0.bind k≠.bad)(B:r=Qa0.bind k)
  (hQ:∀o S1 u s' H' ρ',r=k o S1->k o S1≠.bad->S0 X pc σ H' s' ρ' S1 env->Xmv X.K ρ' H' o u->Stp X.K ρ ρ' H H'->Q u s') (hE:∀x s',ExP X pc σ ρ H r x s'->E x s'):Vg Q2 X.A QTD Q E s:=by
 cases q:f env S with
 |bad=>rw[q]at L;cases L rfl|ex n S1=>
  rw[q]at B;exact Vp Q9G Q8I λx s' z=>?_;·let⟨o,S2,e,_⟩:=z;rw[q]at e;cases e
  ·let⟨m,S2,e,z⟩:=z;rw[q]at e;cases e;exact hE x s' QLJ|ok o S1=>
  rw[q]at B L;exact Vp Q9G Q8I λx s' z=>?_;·let⟨o',S2,e,H',ρ',J,sr,st,pr⟩:=z;rw[q]at e;cases e;exact hQ o S1 u s' H' ρ' B L QbA pr st
  ·let⟨m,S2,e,z⟩:=z;rw[q]at e;cases e
def Xhj{K:Vh}{o:Option D}{u:Vb}{B:Option Int}(h:Xmv K ρ H o u)(e:Xf3 o=yz B):Vfm u B:=by
 cases o with
 |none=>let L:yz yy=yz B:=e;cases L;let h':u=.none:=h;subst h';exact .none|some d=>
  cases d with
  |int i=>let L:yz Q5W=yz B:=e;cases L;let⟨v,rv,rd⟩:=h;simp[RD]at rd;subst rd;let⟨t,rfl⟩:=rv;calc .int i t|_=>cases e
def X9p{d:D}{l h:Option Int}{S:Sto}(hd:∀xs,d≠.tup xs):Xf4 d l h S=match lsD S d with
  |some xs=>.ok Q7 (S++[.lst (cut xs l h)])|none=>.bad:=by cases d<;>first|rfl|calc aB0 rfl Qqf
def Yc0{lo hi:Option Expr}{fl fh:En->Sto->R Qw3}(ha:DE X a fa)(hl:DO X lo fl)(hh:DO X hi fh):
  DE X (.Subscript a QWM pos) (λenv S=>QC0.bind λx S=>(fl env S).bind λl S=>(fh env S).bind λh S=>match Xf3 l,Xf3 h with
   |some l,yz h=>Xf4 x l h S
   |_,_=>.bad):=by
 intro pc s σ H ρ S env I nb;dsimp at nb |-;calc Subscript_ (ha.bind I nb rfl (λd S1 u s1 v H1 aj e1 ai I1 rv rd ab=>?_) λ_ _ z=>z);rw[e1];calc wpAny_Slice (hl.bind I1 ai rfl (λl S2 vl s2 H2 ak e2 ah I2 pl ac=>?_) λx s' z=>z.pre ab);rw[e2];calc hh.bind I2 ah rfl (λh S3 vu s3 H3 ag e3 aa I3 pu af=>?_) λx s' z=>(z.pre ac).pre ab;rw[e3];cases q1:Xf3 l with
 |none=>rw[q1]at aa;cases aa rfl|some li=>
  cases q2:Xf3 h with
  |none=>rw[q1,q2]at aa;cases aa rfl|some B=>
   rw[q1,q2]at aa;dsimp at aa |-;rw[evalPart_none];calc Vd ?_;let P1:=Xhj pl q1;let P2:=Xhj pu q2;let ae:=(rd.mono ac).mono af;let J:Inv X pc σ H3 QM0:=I3.inv.kept (t':=s3.toks) λb ob q=>Ve _ q;let fin:∀ {T id:String},typeLookup QhD "__getitem__"=pure QJc->(QM0:Vc).TypeIs u T ->
     Vg Q2 X.A (getItem u QAJ) (OkP X pc σ ag H3 QJB) (ExP X pc σ ag H3 QJB) QM0 ->
     Vg Q2 X.A (Vf5 a QWM u QAJ) (OkP X pc σ ρ H QJB) (ExP X pc σ ρ H QJB) QM0:=λt1 t2 g=>
    tail_any (ops:=[.ref s3.heap.objs.size,u]) t2 t1 (Vp g (λ_ _ z=>OkP.pre QKJ z) λ_ _ z=>ExP.pre QKJ z) QHI
   by_cases ht:∃xs,d=.tup xs
   ·let⟨xs,rfl⟩:=ht;simp[RD]at ae;let⟨p,vs,rfl,hq,hr⟩:=ae;cases rv;let⟨its,r,ht,hz⟩:=J.tuple hq;let L:its.toArray.size=lg vs:=by rw[Vo];exact r.length.symm
    calc fin PyProof.Rows.slot_tuple_getitem.lookup ht.typeIs ?_;by_cases hw:HT.sIx Qn2 0 li=0/\HT.sIx Qn2 Qn2 B=lg vs
    ·calc Xp9 ht QsJ P1 P2 (by rw[L];calc hw.1) (by rw[L];calc hw.2) ?_;let e:cut xs li B=xs:=by
      unfold cut;rw[Xhi,Xhi,hr.length,hw.1,hw.2,Vgw,Nat.sub_zero,<-hr.length,Vfz]
     calc .mk (v:=.ref p) .refl J rfl ?_ I3.sr;rw[e];simp[RD];exact⟨p,vs,rfl,hq,hr⟩
    calc HT.getItem_tuple_cut ht QsJ P1 P2 (by rw[L];calc hw) ?_ (by rw[L];calc hz);rw[L];calc Xcd (vs:=Xj8 vs li B) Q0E QZA I3.sr (Xw1 hr li B);exact⟨V2 QxU hz,_,QdH.take QtC,QP2⟩
   rw[X9p λxs z=>ht Q4c]at aa fin |-;cases e4:lsD S3 d with
   |none=>rw[e4]at aa;cases aa rfl|some xs=>rw[e4]at fin;dsimp at fin |-;let⟨b,vs,rfl,k2,k3⟩:=I3.lsR e4 ae;cases rv;let⟨its,r,ht,hz⟩:=J.list k2;let L:=r.length;calc fin slot_list_getitem.lookup ht.isList.typeIs ?_;calc Vjp ht.isList QsJ P1 P2 .none QB ?_ (by rw[Vo]<;>lia);rw[Xmi,<-L];calc Y7 (vs:=Xj8 vs li B) Q0E QZA I3.sr (Xw1 k3 li B);calc⟨V2 QxU hz,_,0,QdH.take QtC,Vm _ rfl⟩
universe e
def X4k{K:Vh}{k:Kd}{t1 t2:Ty}{n1 n2:Str}{B T2 U:String}{b:Bool}(h1:Xb5 t1=yz (n1,B))(h2:Xb5 t2=yz (n2,T2))(L:Xip k=yz U)(h:Yx k QzH=yz b):
  PySem.W.kitAny K QTS [.type B,.type T2]=yz b:=by
 simp[Yx]at h;unfold PySem.W.kitAny;cases e1:isT k t1 with
 |none=>rw[e1]at h;cases h|some c1=>
  rw[e1]at h;rw[Xks h1 L e1 K];cases c1 with
  |true=>cases h;rfl|false=>
   dsimp at h |-;unfold PySem.W.kitAny;cases e2:isT k t2 with
   |none=>rw[e2]at h;cases h|some c2=>
    rw[e2]at h;rw[Xks h2 L e2 K];cases c2 with
    |true=>cases h;rfl|false=>cases h;rfl
section
variable{X:Cx}{pc:LA}{σ:L2.St}{H:Hp}{s:Vc}{ρ:LR}{S:Sto}{env:En}{a:Expr}{fa:En->Sto->R D}{pos:Pos}
def X9q (h1:Xb5 t1=yz (n1,T1)) (h2:Xb5 t2=yz (n2,T2)) (hb:∀x∈blts,X.mg x=yy) (ae:Gl X "isinstance") (g1:Gl X n1) (g2:Gl X n2) (o1:Y0 n1=yx) (o2:Y0 n2=yx) (ha:DE X a fa) (L:Xy a=yx):
  DE X (.Call QTA [a,.Tuple [.Name n1 q1,.Name n2 q2] k3 p3] [] pos) (λenv S=>QC0.bind λx S=>match Q7L.bind λk=>Yx k QzH with|some r=>.ok QSA S|none=>.bad):=by
 intro pc s σ H ρ S env I nb;dsimp at nb |-;let⟨a1,_,a3⟩:=Xaz o1;let⟨b1,_,b3⟩:=Xaz o2;calc Vaq QG7;calc Vbc ?_ QAb rfl;rw[Xh L];generalize hr:(QC0.bind λx S=>match Q7L.bind λk=>Yx k QzH with|some r=>R.ok (D.bl r) S|none=>R.bad)=r at nb |-;calc Vbl (ha.bind I Q46 hr.symm (λd S1 u s1 v H1 ab e1 aa B rv rd ac=>?_) λ_ _ z=>z);calc Vbl (wpAny_Tuple_spliced (x1:=k3) (Vbl (X8 B.inv g1 (hb _ (Xiq h1)) (Xgk h1) (Vbl (X8 B.inv g2 (hb _ (Xiq h2)) (Xgk h2) (Vdk ⟨by show 2<=V7;decide,?_⟩) b3 b1)) a3 a1)));calc Vdk ?_;cases q:QCP.bind λk=>Yx k QzH with
 |none=>rw[q]at aa;cases aa rfl|some b=>
  let⟨k,k1,k2⟩:=Vg5.mp q;rw[e1,q];let J:Inv X pc σ H1 QT4:=B.inv.kept (t':=s1.toks) λb ob q=>Ve _ q;let I2:S0 X pc σ H1 QT4 ab S1 env:=⟨J,B.sr,B.er⟩;cases hU:Xip k with
  |none=>
   cases k with
   |exc c=>
    simp[Yx]at k2;let z:isT Qq3 t1=none:=by cases t1<;>simp[Xb5,reduceCtorEq]at h1<;>rfl
    rw[z]at k2;cases k2|_=>cases hU
  |some U=>let⟨P,z1,z2,z3⟩:=X1y I2 k1 hU rd rv;calc PySem.W.kia_tup (its:=[.type T1,.type T2]) z1 J.kIn z2 QS3 (X4k h1 h2 hU k2) z3 λtk=>OkP.pre ac (Xd B.sr (J.tok tk))
universe e
universe Z
universe e
section
namespace Z
open PySem PySem.Spec PyProof.Rows L2
open Builtin.Slice (sliceAdjust slicePlaces)
abbrev Xot{α:Type}(lo c:Int)(n:Nat)(xs:List α):List α:=QxR.filterMap λ(k:Nat)=>xs[(lo+(k:Int)*c).toNat]?
abbrev Yv{α:Type}(xs:List α)(l:Option Int)(c:Int):List α:=Xot Q7A.1 c (slicePlaces Q7A.1 Q7A.2 c) xs
def Xt0{K:Vh}{ρ:LR}{H:Hp}{xs:LD}{vs:LW}(h:RDs K ρ H xs vs)(B:Nat->Nat):∀ks:LN,RDs K ρ H Q6G (ks.filterMap λk=>vs[B k]?)
 |[]=>.nil|k::ks=>by
  cases e:xs[B k]? with
  |none=>let e2:=h.none e;simp[U3,e,e2];calc Xt0 h B ks|some d=>let⟨v,e2,r⟩:=h.get e;simp[U3,e,e2];calc .cons r (Xt0 h B ks)
def Xkt{xs:LW}{us:LV}(h:Vals xs us)(B:Nat->Nat):∀ks:LN,Vals Q6G (ks.filterMap λk=>us[B k]?)
 |[]=>.nil|k::ks=>by
  cases e:xs[B k]? with
  |none=>
   let e2:us[B k]?=none:=by rw[Uz]at e |-;rw[<-h.length];exact e
   simp[U3,e,e2];calc Xkt h B ks|some d=>let⟨v,e2,r⟩:=h.get e;simp[U3,e,e2];calc .cons r (Xkt h B ks)
def Xw2{K:Vh}{ρ:LR}{H:Hp}{xs:LD}{vs:LW}(h:RDs K ρ H xs vs)(l:Option Int)(c:Int):RDs K ρ H QB8 (Yv vs l c):=by unfold Yv;rw[h.length];calc Xt0 h _ _
def Xou(h:Vals xs us)(l:Option Int)(c:Int):Vals QB8 (Yv us l c):=by unfold Yv;rw[h.length];calc Xkt h _ _
def Xw3{lo hi c:Int}{n:Nat}(B:c<0)(h1:lo<=(n:Int)-1)(h2:-1<=hi):slicePlaces lo hi c<=n:=by
 unfold slicePlaces;rw[iN0 Q0];split;·let:(lo-hi-1)/(-c)<=lo-hi-1:=Int.ediv_le_self _ Q0;omega
 ·simp!
def Xov{l:Option Int}{c:Int}{n:Nat}(B:c<0):QRK.1<=(n:Int)-1/\QRK.2 = -1:=by
 unfold sliceAdjust;simp[B,if_true,and_true];cases l with
 |none=>calc Int.le_refl _|some v=>dsimp;split<;>omega
def X4l{α:Type}(xs:List α){l:Option Int}{c:Int}(B:c<0):QB8.length<=lg xs:=by unfold Yv Xot;calc V2 (List.length_filterMap_le _ _) ?_;rw[U9];calc Xw3 B Qae.1 (by rw[Qae.2];omega)
section
variable{prog:V0}{w:V9}{A:Uu}{E:VP}{s:Vc}
def Xow{lo:Option Int}{c:Int}{n:Nat}{Q:Int×Int×Nat->Vc->Prop}(hc:c≠0)(hs:s.heap.IsSliceOf sl vl .none vs)(pl:Vfm vl lo)(ps:Vfm vs QuK)
  (h:Q (Q6A.1,c,slicePlaces Q6A.1 Q6A.2 c) s):Vg Q6 A Q1J Q E s:=by
 let⟨os,B,aa,L⟩:=id hs;unfold Vea Vjc;calc Va (Va (U1 B L (x:=vl) rfl (Va (U1 B L (x:=.none) rfl (Va (U1 B L (x:=vs) rfl Q71))))));calc Va (HT.slicePart_ ps ?_);show Vg _ _ (if (c==0)=yx then _ else _) _ _ s;rw[iN0 Qc3];calc Va (HT.slicePart_ pl (Va (HT.slicePart_ .none QCd)));calc Vd h
def Xt1{its:LV}{lo:Option Int}{c:Int}{Q:VP}(hc:c≠0)(ag:c≠1)(aa:QHA.length<=lg its)(L:Vdz s.heap t its.toArray)(hs:s.heap.IsSliceOf sl vl .none vs)(pl:Vfm vl lo)(ps:Vfm vs QuK)
  (h:Q QC {s with heap:=s.heap.push {cls:=.type "tuple",data:=.seq QHA.toArray} }) (ae:QA6<=V7):Vg Q6 A QME Q E s:=by
 let B:sizeOk (.seq QHA.toArray):=by show(Yv its lo c).toArray.size<=V7;rw[Vo];exact V2 aa ae
 let⟨os,af,ac,ah⟩:=id hs;let ab:s.TypeIs Qo9 "slice" := ⟨os,af,ac⟩;unfold getItem
 try with_reducible exact Uy ?_
 first|exact Va Q71|skip
 calc Va (Vi7 L.typeIs Q1 (Va (Vap (name:=Va0 "__getitem__") L.typeIs Vbs QrC)));show Vg _ _ Q1H _ _ s;calc Va (tupleItemsOf_ L (Va QJY));rw[iP0 Q1,Vo];calc Va (Xow hc hs pl ps ?_);show Vg _ _ (if (Qj0.1==0&&c==1&&slicePlaces Qj0.1 Qj0.2 c==lg its)=yx then _ else _) _ _ s;let hn:(c==1)=false:=by simp!;omega
 rw[iN0 (by rw[hn];simp!)];let e:((Vq (slicePlaces Qj0.1 Qj0.2 c)).filterMap λ(k:Nat)=>its.toArray[(Qj0.1+(k:Int)*c).toNat]?)=Yv its lo c:=by unfold Yv Xot;simp!
 rw[e]
 first
  |calc Va (m:=Vbn _) Q4H|calc Va QUN
universe e
def Xw4(its:LV)(lo:Option Int)(L:c<0):slicePick its.toArray lo yy QuK=QHA.toArray:=by
 let B:¬ c>0:=by omega
 let e1:QqA.1=Qj0.1:=by
  unfold Vd0 sliceAdjust;simp[Vey,B,L,if_true,if_false];cases lo with
  |none=>rfl|some v=>dsimp;split<;>omega
 let e2:QqA.2.1 = -1:=by unfold Vd0;simp[Vey,B,if_false]
 let e3:QqA.2.2=c:=rfl;unfold slicePick Yv Xot;rw[Vo,e1,e2,e3,(Xov L).2];generalize Qj0.1=a;let e4:slicePlaces a (-1) c=(if a > -1 then (a - -1-c-1)/(-c) else 0).toNat:=by
  unfold slicePlaces;rw[iN0 B];congr 1;split
  ·let:a - -1-c-1=(a - -1-1)+1*(-c):=by omega
   rw[this,Int.add_mul_ediv_right _ _ Q0]
  rfl
 unfold sliceRange;simp[B,if_false];rw[e4,Vix];congr 2;funext k;simp[Function.comp,Vhw];rw[Int.mul_comm]
def Xox{α β:Type}{f g:α->Option β}:∀ {l:List α},(∀x∈l,f x=g x)->l.filterMap f=l.filterMap g
 |[],_=>rfl|x::l,h=>by rw[U3,U3,h x QB,Xox λy B=>h y QHL]
def X4m{α:Type}(xs:List α):Yv xs yy (-1)=xs.reverse:=by
 unfold Yv Xot;let e1:(sliceAdjust yy yy (-1) (lg xs:Int))=((lg xs:Int)-1,-1):=rfl;rw[e1];let e2:slicePlaces ((lg xs:Int)-1) (-1) (-1)=lg xs:=by
  unfold slicePlaces;rw[iN0 Q1];split;·simp!
  ·omega
 dsimp;rw[e2];let:∀(n:Nat) (ys:List α),lg ys=n->QxR.filterMap (λk=>ys[k]?)=ys:=by
  intro n;induction n with
  |zero=>intro ys h;rw[Vfi h];rfl|succ n ih=>
   intro ys h;cases ys with
   |nil=>cases h|cons y ys=>rw[List.range_succ_eq_map,U3,Vix];simp[gZ0];congr 1;exact ih ys QD2
 rw[<-this QU xs.reverse QB];calc Xox λk B=>?_;let B:=Va9.mp B;rw[List.getElem?_reverse B];congr 1;omega
abbrev Xfj(l:Option Int)(c:Int)(x:D)(S:Sto):R D:=
 match x with
 |.tup xs=>.ok (.tup QB8) S|x=>match lsD S x with
  |some xs=>.ok Q7 QJS|none=>.bad
def X9r{d:D}{l:Option Int}{c:Int}{S:Sto}(hd:∀xs,d≠.tup xs):Xfj l c d S=match lsD S d with
  |some xs=>.ok Q7 QJS|none=>.bad:=by cases d<;>first|rfl|calc aB0 rfl Qqf
def X0c(x:D)(S:Sto):Xfj yy (-1) x S=Xyo x S:=by cases x<;>simp[Xfj,Xyo,X4m]<;>rfl
section
variable{X:Cx}{pc:LA}{σ:L2.St}{H:Hp}{s:Vc}{ρ:LR}{S:Sto}{env:En}{a:Expr}{fa:En->Sto->R D}{pos p2:Pos}
theorem X9s(l:Option Int)(c:Int):Prop:=c≠0/\c≠1/\(∀ {α:Type} (xs:List α),QB8.length<=lg xs)/\∀its:LV,slicePick its.toArray l yy QuK=(Yv its l c).toArray
def X9t{l:Option Int}{c:Int}(B:c<0):X9s l c:=⟨by omega,by omega,λxs=>X4l xs B,λits=>Xw4 its l B⟩
def Yc1{lo:Option Expr}{st:Expr}{l:Option Int}{c:Int}(L:X9s l c)(ha:DE X a fa)(hl:DO X lo (λ_ S=>.ok QZ S))(hh:DO X (yz st) (λ_ S=>.ok (yz Qm5) S)):
  DE X (.Subscript a QfI pos) (λenv S=>QC0.bind λx S=>Xfj l c x S):=by
 intro pc s σ H ρ S env I nb;dsimp at nb |-;calc Subscript_ (ha.bind I nb rfl (λd S1 u s1 v H1 aj e1 ac I1 rv rd ah=>?_) λ_ _ z=>z);rw[e1];let cst:∀ {e:Option Expr} {o:Option D} {s2:Vc} {H2:Hp} {ae:LR} {Q:VP} {E:VP},DO X e (λ_ S=>.ok o S)->S0 X pc σ H2 s2 ae S1 env->(∀u s' H' ρ',S0 X pc σ H' s' ρ' S1 env->Xmv X.K ρ' H' o u->Stp X.K ae ρ' H2 H'->Q u s') ->
   Vg Q2 X.A QTD Q E s2:=λhe I2 hQ=>by
  exact Vp (he pc _ σ _ _ S1 env I2 Qb3) Q8I λx s' z=>?_;·let⟨o',S2,e,H',ρ',J,sr,st,pr⟩:=z;cases e;exact hQ u s' H' ρ' (I2.step J sr st) pr st
  ·let⟨_,_,e,_⟩:=z;cases e
 calc wpAny_Slice (cst hl I1 λvl s2 H2 ae I2 pl ab=>?_);rw[evalPart_none];calc Vd ?_;exact cst hh I2 λvs B H3 ai I3 ps af=>?_;let P1:Vfm vl l:=Xhj pl (by cases l<;>rfl);let P2:Vfm vs QuK:=Xhj ps rfl;let aa:=QAW.mono af;let J:Inv X pc σ H3 QQ0:=I3.inv.kept (t':=B.toks) λb ob q=>Ve _ q;let fin:∀ {T id:String},typeLookup QhD "__getitem__"=pure QJc->(QQ0:Vc).TypeIs u T ->
   Vg Q2 X.A (getItem u Q6K) (OkP X pc σ ai H3 QEC) (ExP X pc σ ai H3 QEC) QQ0 ->
   Vg Q2 X.A (Vf5 a QfI u Q6K) (OkP X pc σ ρ H QEC) (ExP X pc σ ρ H QEC) QQ0:=λt1 t2 g=>
  tail_any (ops:=[u,.ref B.heap.objs.size]) t2 t1 (Vp g (λ_ _ z=>OkP.pre QJJ z) λ_ _ z=>ExP.pre QJJ z) QHI
 by_cases ht:∃xs,d=.tup xs;·let⟨xs,rfl⟩:=ht;simp[RD]at aa;let⟨p,ws,rfl,hq,hr⟩:=aa;cases rv;let⟨its,r,ht,hz⟩:=J.tuple hq;let ag:=r.length;calc fin PyProof.Rows.slot_tuple_getitem.lookup ht.typeIs ?_;calc Xt1 L.1 L.2.1 (by first|calc L.2.2.1 _|calc L.2.2 _) ht QsJ P1 P2 ?_ Q0;calc Xcd (vs:=Yv ws l c) QcE QZA I3.sr (Xw2 hr l c);exact⟨V2 (by first|calc L.2.2.1 ws|calc L.2.2 ws) hz,_,Xou r l c,QP2⟩
 ·rw[X9r λxs z=>ht Q4c]at ac fin |-;cases e4:lsD S1 d with
  |none=>rw[e4]at ac;cases ac rfl|some xs=>rw[e4]at fin;dsimp at fin |-;let⟨b,ws,rfl,k2,k3⟩:=I3.lsR e4 aa;cases rv;let⟨its,r,ht,hz⟩:=J.list k2;let ag:=r.length;calc fin slot_list_getitem.lookup ht.isList.typeIs ?_;calc Vjp ht.isList QsJ P1 .none P2 (by intro z;cases z;calc L.1 rfl) ?_ QOP;rw[L.2.2.2];calc Y7 (vs:=Yv ws l c) QcE QZA I3.sr (Xw2 k3 l c);calc⟨V2 (L.2.2.1 ws) hz,_,0,Xou r l c,Vm _ rfl⟩
def X1z{i:Int}{e:Expr}(h:mnC i e=yx):DO X Q6W (λ_ S=>.ok (yz QMH) S):=by
 cases e with
 |UnaryOp o x p=>
  cases o with
  |USub=>
   cases x with
   |Constant c k q=>
    cases c with
    |int j=>cases eq_of_beq (show Qha=yx from h);calc Xr5 (X1r (fa:=λ_ S=>.ok QF0 S) d_int)|_=>calc ff h
   |_=>calc ff h
  |_=>calc ff h
 |_=>calc ff h
def X9u{i:Int}{l:Option Int}{e:Expr}(hi:0<i)(B:DE X a fa)(h:Xz4 i l e=yx):DE X (.Subscript a e pos) (λenv S=>QC0.bind λx S=>Xfj (l.map (- ·)) (-i) x S):=by
 cases e with
 |Slice lo hi st p=>
  let h:(hi.isNone&&st.any λst=>mnC i st&&X8o l lo)=true:=h;rw[bA0]at h;cases hi with
  |some _=>exact ff h.1|none=>
   cases st with
   |none=>exact ff h.2|some st=>
    let h:=h.2;rw[Option.any_some,bA0]at h;calc Yc1 (X9t Q0) B ?_ (X1z h.1);cases l with
    |none=>cases lo with
     |none=>calc Xr4|some _=>calc ff h.2
    |some k=>cases lo with
     |none=>calc ff h.2|some x=>calc X1z h.2
 |_=>calc ff h
universe e
universe Z
universe e
section
namespace Z
open PySem PySem.Spec PyProof.Rows L2
section
variable(cm:Bool)(F:Fn)(G:LD)(fns:LF)(gns:LS)
structure PF(X:Cx):Prop where
 blt:∀x∈blts,X.mg x=yy
 fn:∀(f:Nat) nm ar fl,fns[f]?=yz QAC->Q5T->∃g fd ps k,FnD fl X.prog X.w X.K X.mg X.base k g fd ps (F f)/\RoomC fl k X.A/\Binds X.K fd ps []/\X.mg nm=yz QK6/\Vet X.K QK6=yx/\Qq5=ar
 glb:∀(k:Nat) nm,gns[k]?=yz nm->∃u d,X.mg nm=yz u/\G[k]?=yz d/\∀ ρ H,∃v,RelV v u/\RD X.K ρ H d v
 clf:∀(f:Nat) (nm:Str),Xbj f nm G=yx->∃ar fl,fns[f]?=yz QAC/\(∀a,Va2 X.K Um nm=yz QSJ->X.mg nm=yz Q40)/\∀xs S,F f xs S≠.bad->lg xs=ar
 units:X.A.units+200<Vbt
 gd:X.A.guards=yz []
 calm:cm=yx->X.calm=yx
 err:ErrOk X.K
def PF.blk(h:PF cm F G fns gns X)(pc:LA)(s:Vc)(H:Hp)(sc:Vai)(B:List Q35)(C:Addr)(own:LS)(fp:LR):PF cm F G fns gns (blk X pc s H sc B C own fp):=
 ⟨h.blt,h.fn,h.glb,h.clf,h.units,h.gd,h.calm,h.err⟩
variable{X:Cx}{e:Expr}{f g:En->Sto->R D}
def DE.congr(h:DE X e f)(q:∀env S,g env S=f env S):DE X e g:=by let:g=f:=funext λenv=>funext λS=>q env S;rw[this];calc h
def DT.congr{f g:En->Sto->R Bool}(h:DT X e f)(q:∀env S,g env S=f env S):DT X e g:=by let:g=f:=funext λenv=>funext λS=>q env S;rw[this];calc h
def Yd2(aa:X.N.Nodup)(ht:∀x,top x=yx->X.fn x=yx)(is:LN)(es:LX)(h:mtT.namesB top X.env.scope X.N is es=yx):QaH/\Qk3.length=lg is/\Qk3.findIdx? Qu=none:=by
 let ab:∀(is:LN) (es:LX),mtT.namesB top X.env.scope X.N is es=yx->∃xs:List QZP,es=xs.map (λx=>Expr.Name x.1 x.2)/\QWR=lg xs/\∀(j i:Nat) (x:Str×Pos),is[j]?=yz i->xs[j]?=yz x->X.N[i]?=yz x.1/\Loc X.env.scope x.1/\Qm7:=by
  intro is;induction is with
  |nil=>
   intro es h;cases es with
   |nil=>calc⟨[],rfl,rfl,λj i x e1 _=>by simp! at e1⟩|cons _ _=>simp![mtT.namesB]at h
  |cons i is ih=>
   intro es h;cases es with
   |nil=>simp![mtT.namesB]at h|cons e es=>
    simp[mtT.namesB,bA0]at h;let⟨x,h1,h2⟩:=any_some h.1;let⟨p,rfl⟩:=Xbn h1;rw[bA0,decide_eq_true_eq]at h2;let⟨xs,e1,e2,e3⟩:=ih es h.2;let⟨l1,l2⟩:=Xkp rfl ht h2.2;calc⟨(x,p)::xs,by rw[e1];rfl,by simp![e2],λj i' x' B L=>?_⟩;cases j with
    |zero=>simp! at B L;subst B L;exact⟨h2.1,l1,l2⟩|succ j=>exact e3 j i' x' (by simpa using B) QE2
 let⟨xs,e1,e2,e3⟩:=ab is es h;subst e1;let nm:=Xjb xs X.env;calc⟨λE=>Xvp (X:=X.wish E) is xs aa e2 e3,by rw[nm.1,e2],nm.2⟩
def Yd3(B:X.N.Nodup)(L:∀x,top x=yx->X.fn x=yx)(h:mtT top X.env.scope X.N QiD tg=yx):∃es k p,tg=.Tuple es k p/\QaH/\Qk3.length=lg is/\Qk3.findIdx? Qu=none:=by simp[mtT]at h;let⟨es,h1,h⟩:=any_some h;let⟨k,p,rfl⟩:=Xdb h1;calc⟨es,k,p,rfl,Yd2 B L is es h⟩
def dgB(hN:X.N=N)(hs:X.env.scope=sc)(B:N.Nodup)(hc:X8n t=yw->X.calm=yx)(L:∀x,top x=yx->X.fn x=yx)(h:mtT top sc N t tg=yx):DG X tg t:=by
 subst hN hs;cases t with
 |var i=>simp[mtT]at h;let⟨x,h1,h2⟩:=any_some h;let⟨p,rfl⟩:=Xbn h1;rw[bA0,decide_eq_true_eq]at h2;let⟨l1,l2⟩:=Xkp rfl L h2.2;calc X24 B h2.1 l1 l2|tup is=>let⟨es,k,p,rfl,q1,q2,q3⟩:=Yd3 B L h;calc X63 (hc rfl) q1 q2 q3
universe e
def Xr6:∀(es:Exs) (xs:LX),mts cm fns gns sc N es xs=yx->∀env S ds S',evs F G es env S=.ok ds S'->lg ds=lg xs
 |.nil,[]=>λ_ env S ds S' h=>by cases (show R.ok [] S=.ok ds S' from h);rfl|.nil,_::_=>λh _ _ _ _ _=>by simp![mts]at h|.cons _ _,[]=>λh _ _ _ _ _=>by simp![mts]at h|.cons e es,x::xs=>λh env S ds S' q=>by
  simp[mts,bA0]at h;let q:(QT1.bind λx S=>Qk4.bind λxs S=>.ok Q4A S)=.ok ds S':=q;cases q1:ev F G e env S with
  |bad=>rw[q1]at q;cases q|ex _ _=>rw[q1]at q;cases q|ok d S1=>
   rw[q1]at q;simp[Rk0]at q;cases B:evs F G es env S1 with
   |bad=>rw[B]at q;cases q|ex _ _=>rw[B]at q;cases q|ok L S2=>rw[B]at q;simp[Rk0]at q;cases q;simp![Xr6 es xs h.2 env S1 L _ B]
def Xau:∀(es:Exs) (xs:LX),mts cm fns gns sc N es xs=yx->xs.all Xy=yx
 |.nil,[]=>λ_=>rfl|.nil,_::_=>λh=>by simp![mts]at h|.cons _ _,[]=>λh=>by simp![mts]at h|.cons e es,x::xs=>λh=>by simp[mts,bA0]at h;rw[Vas,h.1.1,Xau es xs h.2];rfl
def X4n {k:Bl} {nm:Str} {b:Bool} {id:String} (h:Xtt k=yz (nm,b,id)) (aa:∃o,X.K.lookup Vci=yz o/\o.cls≠.type "list") (ab:X.A.guards=yz []) (B:X.A.units+200<Vbt) (L:Xtu k=yw->X.calm=yx):nm∈blts/\(if b then Veu nm=yz Qb2/\BlR X k Qb2 else Veu nm=yz QkZ/\BlR X k QkZ):=by
 cases k<;>simp[Xtt,Vw,Ve5,reduceCtorEq]at h<;>let⟨rfl,rfl,rfl⟩:=h
 case len=>exact⟨by decide,PySem.boot_len,Ycb⟩
 case min=>exact⟨by decide,by decide+kernel,Ycf QMS⟩
 case max=>exact⟨by decide,by decide+kernel,Yce QMS⟩
 case sorted=>exact⟨by decide,by decide+kernel,Xzw B⟩
 case all=>exact⟨by decide,by decide+kernel,Ycc QMS⟩
 case anb=>exact⟨by decide,by decide+kernel,Ycd QMS⟩
 case tuple=>exact⟨by decide,by decide+kernel,X3d⟩
 case list=>exact⟨by decide,by decide+kernel,X7e⟩
 case repr=>calc⟨by decide,by decide+kernel,X7m aa ab B⟩
section
variable{F:Fn}{G:LD}{cm:Bool}{fns:LF}{gns:LS}
def X4o(h:Xz3 fx=yx)(args:LX)(pos:Pos)(env:Vb0):eval QgK env=Qp3:=by cases fx<;>first|rfl|calc ff h
def Yc2(hp:PF cm F G fns gns X)(hc:cm=yx)(hx:∀(args:LX) (pos:Pos) (env:Vb0),eval QgK env=Qp3)
  (hf:DE X fx f) (ha:DA X QD4 ga) (he:Ue QD4 X.env=QT5::Ue es X.env) (ab:QR0.any Qu=yw):
  DE X (.Call fx QD4 [] pos) (λenv S=>Qa0.bind λx S=>match x with
   |.fn k nm=>if Xbj k nm G then QGP.bind λxs S=>F k xs S else .bad
   |_=>.bad):=by
 intro pc s σ H ρ S env I nb;dsimp at nb |-;rw[hx];calc Va (hf.bind I nb rfl (λd S1 u s1 v H1 af e1 B I1 rv rd L=>?_) λ_ _ z=>z);rw[e1];cases d with
 |fn k nm=>
  dsimp at B |-;by_cases hi:Xbj k nm G=yx
  ·rw[iP0 hi]at B |-;let⟨ar,fl,q1,q2,q3⟩:=hp.clf k nm hi;let⟨g,fd,ps,kk,c1,c2,c3,c4,c5,c6⟩:=hp.fn k nm ar fl q1 λ_=>hc;simp[RD]at rd;let⟨a,rfl,hn⟩:=rd;let:=(q2 a hn).symm.trans c4;cases this;cases rv;cases q:ga env S1 with
   |bad=>rw[q]at B;cases B rfl|ex n S2=>calc Vgo (h₀:=X.base) I1.inv.ok.mod.kin c5 (ha.ex I1 q λx s' z=>⟨n,S2,rfl,z.pre L⟩) he ab|ok ds S2=>rw[q]at B;simp[Rk0]at B |-;calc Vgo (h₀:=X.base) I1.inv.ok.mod.kin c5 (ha.ok I1 q λus s2 vs H2 ag I2 ac ae aa=>⟨I2.inv.kIn,?_⟩) he ab;exact Vp (X1n c1 c2 c3 I2 ac ae (by rw[c6];calc q3 _ _ B) B) (λu s2 z=>Q5Z.pre L) λx s2 z=>Q5Z.pre L
  rw[iN0 hi]at B;cases B rfl|_=>cases B rfl
def X4(h:DE X e f)(L:∀B,isTrue e X.env B=QW3):DE X e f/\DT X e QxN:=⟨h,.of h L⟩
def DW.of(h:DT X Q8Q g):DW X Q8Q g:=λ_=>h
theorem X9v(F:Fn)(G:LD)(X:Cx)(sc2:Vai)(N2:LS)(L:Cx->Prop):Gens->List Vb4->Prop
 |.cons t it ifs .nil,gens=>∃tg iter cs,gens=[Q3E]/\Xco iter=yx/\mtT QOL sc2 N2 t tg=yx/\DI X tg iter QiJ/\∀Y:Cx,Y.N=N2->Y.env.scope=sc2->L Y->DTs Y cs Q6T|.cons t it ifs Qz5,gens=>∃tg iter cs aa B ab,gens=[Q3E,⟨aa,B,ab,0⟩]/\Xco iter=yx/\Xco B=yx/\mtT QOL sc2 N2 t tg=yx/\mtT QOL sc2 N2 t2 aa=yx/\DI X tg iter QiJ /\
   (∀Y:Cx,Y.N=N2->Y.env.scope=sc2->L Y->DTs Y cs Q6T)/\(∀Y:Cx,Y.N=N2->Y.env.scope=sc2->L Y->DI Y aa B (evit F G it2))/\∀Y:Cx,Y.N=N2->Y.env.scope=sc2->L Y->DTs Y ab (evts F G ifs2)|_,_=>False
set_option genInjectivity false in
structure CompP(X:Cx)(elt:Expr)(gens:List Vb4)(scope:Vai)(cpos:Pos)(own:LS)(f:En->Sto->R D) where
 tg:Expr
 iter:Expr
 ifs:LX
 t:Tg
 fi:En->Sto->R Src
 tf:En->Sto->R Bool
 body:En->LD->Sto->R (LD)
 hg:gens=QY2::gens.tail
 hi:DI X tg iter fi
 hs:∀x,Vch iter X.env x=pure x
 hG:∀pc s H cl C fp,DG QV6 tg t
 hT:∀pc s H cl C fp,DTs QV6 ifs tf
 hB:∀pc s H cl C fp Da,Xc3 yw QwJ QV6 Da elt gens scope cpos 0 body
 eq:f=Xkg fi t Q9O tf body
def Xr7(hN:X.N=N)(hs:X.env.scope=sc)(hp:PF cm F G fns gns X)(hc:X.calm=yx)(so:ScOk sc scope N QR3)
  (hg:X9v F G X QLI QQN QXN gs gens) (he:∀Y:Cx,Y.N=Xat N QR3->Y.env.scope=Xim scope sc->PF cm F G fns gns Y->DE Y elt (ev F G xe)):
  Nonempty (CompP X elt gens scope p QR3 (ev F G (.cmr yw QR3.length gs xe))):=by
 subst hN hs;let hY:∀pc s H B C fp,PF cm F G fns gns QTE:=λpc s H B C fp=>PF.blk cm F G fns gns hp pc s H scope B C QR3 fp;let L:∀ {t:Tg} {tg:Expr},mtT (Xcv X.N QpJ) (Xim scope X.env.scope) QpJ t tg=yx->∀pc s H B C fp,DG QTE tg t:=λh pc s H B C fp=>dgB (top:=Xcv X.N QpJ) rfl rfl so.nd (λ_=>hc) (λ_ z=>X30 z) h;match gs,hg with
 |.cons t it ifs .nil,hg=>let⟨tg,iter,cs,rfl,n1,m1,i1,t1⟩:=hg;calc⟨⟨tg,iter,cs,t,evit F G it,evts F G ifs,_,rfl,i1,Xfi n1,L m1,λpc s H B C fp=>t1 _ rfl rfl Qj4,λpc s H B C fp Da=>Xl6 rfl QCO,?_⟩⟩;rfl|.cons t it ifs Qz5,hg=>
  let⟨tg,iter,cs,ac,aa,ae,rfl,n1,n2,m1,m2,i1,t1,i2,ab⟩:=hg;exact⟨⟨tg,iter,cs,t,evit F G it,evts F G ifs,_,rfl,i1,Xfi n1,L m1,λpc s H B C fp=>t1 _ rfl rfl Qj4,
   λpc s H B C fp Da=>Xvu LstA.ok hc rfl (i2 _ rfl rfl Qj4) (Xfi n2) (L m2 pc s H B C fp) (ab _ rfl rfl Qj4) (Xl6 rfl QCO),?_⟩⟩
  rfl
def X0d {k:Bl} {es:Exs} {x:Str} {ys:LX} (ac:∃o,X.K.lookup Vci=yz o/\o.cls≠.type "list") (aa:X.A.guards=yz []) (ab:X.A.units+200<Vbt) (hg:Gl X x) (hb:∀x∈blts,X.mg x=yy) (hc:Xtu k=yw->X.calm=yx) (h1:blB k x=yx) (o1:QB0=yw) (o3:x ≠ "__name__") (ih:DA X Q60 QxE)
  (he:Ue Q60 X.env=(yw,eval y X.env)::Ue ys X.env) (L:(Vby p (Ue ys X.env)).any Qu=yw):DE X (.Call (.Name x p0) Q60 [] p) (ev F G QrY):=by
 unfold blB at h1;cases q:Xtt k with
 |none=>rw[q]at h1;cases h1|some z=>
  let⟨nm,b,id⟩:=z;rw[q]at h1;dsimp at h1;let e1:x=nm:=oD0 h1;subst e1;let⟨m1,B⟩:=X4n q ac aa ab hc;cases b with
  |true=>rw[iP0 rfl]at B;calc(X7k B.2 hg Qla B.1 ih o3 o1 he L).congr λ_ _=>rfl|false=>rw[iN0 V3]at B;calc(X7l B.2 hg Qla B.1 ih o3 o1 he L).congr λ_ _=>rfl
def X0e(h1:mtB k nm=yx)(h2:Xil ox=yx)(h3:Q27=yx)(h4:Q60.length<29)(io:DE X ox QKZ)(ih:DA X Q60 QxE)(st:Q60.all Xy=yx):
  DE X (.Call (.Attribute ox nm ap) Q60 [] cp) (ev F G QPV):=by
 let B:Qy0=true:=by
  rw[Xol st];let:Q60.length+QVE.length+(if QVE.isEmpty then 0 else 1)<30:=by simp[Vh8,List.isEmpty_nil,if_true];omega
  rw[decide_eq_true this];rfl
 rw[Vas,bA0]at st;let L:∀ {m:Mt} (x:D) (S:Sto),Xbf m x S=yx->∃n xs,x=.ref n/\Xl S n=yz xs:=λ{m} x S h=>by
  cases x with
  |ref n=>let h':Q09.isSome=true:=h;let⟨xs,e⟩:=Vde.mp h';exact⟨n,xs,rfl,e⟩|_=>cases h
 cases k with
 |append=>let e1:nm="append":=oD0 h1;subst e1;calc(Xf9 (m:=.append) (id:="list.append") PySem.F.slot_list_append PySem.F.type_list_append Xy7 L io ih QFG B h3 Qe5 Qd5).congr λ_ _=>rfl|xtd=>let e1:nm="extend":=oD0 h1;subst e1;calc(Xf9 (m:=.xtd) (id:="list.extend") PySem.F.slot_list_extend PySem.F.type_list_extend Ycg L io ih QFG B h3 Qe5 Qd5).congr λ_ _=>rfl|popi=>let e1:nm="pop":=oD0 h1;subst e1;calc(Xf9 (m:=.popi) (id:="list.pop") PySem.F.slot_list_pop PySem.F.type_list_pop X7h L io ih QFG B h3 Qe5 Qd5).congr λ_ _=>rfl|count=>let e1:nm="count":=oD0 h1;subst e1;calc(Xf9 (m:=.count) (id:="list.count") PySem.F.slot_list_count PySem.F.type_list_count X3f L io ih QFG B h3 Qe5 Qd5).congr λ_ _=>rfl|index=>let e1:nm="index":=oD0 h1;subst e1;calc(Xf9 (m:=.index) (id:="list.index") Vg4 PySem.F.type_list_index X3g L io ih QFG B h3 Qe5 Qd5).congr λ_ _=>rfl
def X0f(hu:X.A.units+1<Vbt)(h2:Xil ox=yx)(L:Q27=yx)(h4:Q60.length<29)(io:DE X ox QKZ)(ih:DA X Q60 QxE)(st:Q60.all Xy=yx):
  DE X (.Call (.Attribute ox "add" ap) Q60 [] cp) (ev F G QkY):=by
 let B:Qy0=true:=by
  rw[Xol st];let:Q60.length+QVE.length+(if QVE.isEmpty then 0 else 1)<30:=by simp[Vh8,List.isEmpty_nil,if_true];omega
  rw[decide_eq_true this];rfl
 rw[Vas,bA0]at st;calc(Yco hu io ih QFG B L Qe5 Qd5).congr λ_ _=>rfl
def X0g (er:ErrOk X.K) (hb:∀x∈blts,X.mg x=yy) (L:Gl X "isinstance") (hg:Gl X nm) (hok:Y0 nm=yx) (ht:tyB sc t nm=yx) (ha:DE X a fa) (B:Xy a=yx):
  DE X Qs2 Qe0:=by
 cases t with
 |cls c=>calc Xw0 er (.inl ⟨c,rfl,oD0 ht⟩) hb L hg hok ha B|valueError=>calc Xw0 er (.inr ⟨rfl,oD0 ht⟩) hb L hg hok ha B|int=>let e:=oD0 ht;subst e;calc Xeo (t:=.int) rfl hb L hg hok ha B|bool=>let e:=oD0 ht;subst e;calc Xeo (t:=.bool) rfl hb L hg hok ha B|str=>let e:=oD0 ht;subst e;calc Xeo (t:=.str) rfl hb L hg hok ha B|tuple=>let e:=oD0 ht;subst e;calc Xeo (t:=.tuple) rfl hb L hg hok ha B|list=>let e:=oD0 ht;subst e;calc Xeo (t:=.list) rfl hb L hg hok ha B|dict=>let e:=oD0 ht;subst e;calc Xeo (t:=.dict) rfl hb L hg hok ha B
def X10(B:Xom t=yx)(h:tyB sc t nm=yx):∃T,Xb5 t=yz QMU:=by
 cases t with
 |cls c=>cases B|valueError=>cases B|_=>let e:=oD0 h;subst e;calc Q30
def X4p (er:ErrOk X.K) (hb:∀x∈blts,X.mg x=yy) (hs:X.env.scope=sc) (L:Gl X "isinstance") (ht:tyM sc ts y=yx) (ha:DE X a fa) (B:Xy a=yx):
  DE X (.Call QTA [a,y] [] pos) (λenv S=>QC0.bind λx S=>match Q7L.bind λk=>Yx k ts with|some r=>.ok QSA S|none=>.bad):=by
 rcases X9l ht with⟨t,nm,p,rfl,rfl,h1,h2,h3⟩|⟨t1,t2,n1,n2,p1,p2,k,p,rfl,rfl,h1,h2,h3,h4,h5,h6,h7,h8⟩;·exact X0g er hb L QwI h2 h3 ha B
 ·let⟨T1,q1⟩:=X10 h5 h7;let⟨T2,q2⟩:=X10 h6 h8;exact X9q q1 q2 hb L QwI (Yn hs h3) h2 h4 ha B
set_option maxHeartbeats 0 in
def X9w{k:Nat}(h:Xz2 d c=yx):DE X (.Constant c k p) (ev F G QaV):=by
 cases d with
 |int i=>cases c with
  |int j=>cases eq_of_beq (show Qha=yx from h);calc d_int.congr λ_ _=>rfl|_=>cases h
 |bl i=>cases c with
  |bool j=>cases eq_of_beq (show Qha=yx from h);calc d_bl.congr λ_ _=>rfl|_=>cases h
 |non=>cases c with
  |none=>calc d_non.congr λ_ _=>rfl|_=>cases h
 |str i=>cases c with
  |str j=>cases oD0 (show decide (i=j)=yx from h);calc d_str.congr λ_ _=>rfl|_=>cases h
 |_=>cases h
mutual
def snd:∀(x:Ex) (X:Cx) (sc:Vai) (N:LS) (e:Expr),X.N=N->X.env.scope=sc->PF cm F G fns gns X->mt cm fns gns sc N x e=yx->DE X e (ev F G x)/\DT X e (λenv S=>tst (ev F G x env S))
 |.nev=>λX sc N e hN hs B h=>⟨λ_ _ _ _ _ _ _ _ nb=>aB0 rfl nb,λ_ _ _ _ _ _ _ _ nb=>aB0 rfl nb⟩|.var i=>λX sc N e hN hs B h=>by let⟨x,p,rfl,h1,h2,L⟩:=X80 h;subst hN hs;let⟨o1,o2,_⟩:=Xaz L;exact X4 ((Ybq h1 (X3y h2) o1 o2).congr λ_ _=>rfl) λ_=>rfl|.cst d=>λX sc N e hN hs B h=>by let⟨c,k,p,rfl,h⟩:=X81 h;exact X4 (X9w h) λ_=>rfl|.neg a=>λX sc N e hN hs B h=>by let⟨x,p,rfl,h⟩:=X82 h;exact X4 ((X1r (snd a X sc N x hN hs B h).1).congr λ_ _=>rfl) λ_=>rfl|.glb k=>λX sc N e hN hs B h=>by let⟨x,p,rfl,h1,h2,L⟩:=X84 h;let⟨o1,o2,_⟩:=Xaz L;let⟨u,d,q1,q2,q3⟩:=B.glb k x h1;exact X4 ((Ycj Qf6 q1 q3 o1).congr λenv S=>by show(match G[k]? with|some d=>R.ok d S|none=>.bad)=_;rw[q2]) λ_=>rfl|.tup es=>λX sc N e hN hs B h=>by let⟨xs,k,p,rfl,h⟩:=X85 h;exact X4 ((Ybr QTF).congr λ_ _=>rfl) λ_=>rfl|.lst es=>λX sc N e hN hs B h=>by let⟨xs,p,rfl,h⟩:=X86 h;exact X4 ((Ybs QTF).congr λ_ _=>rfl) λ_=>rfl|.dct0=>λX sc N e hN hs B h=>by let⟨p,rfl⟩:=X4c h;exact X4 (d_dct0.congr λ_ _=>rfl) λ_=>rfl|.bin op a b=>λX sc N e hN hs B h=>by let⟨x,y,p,rfl,h1,h2⟩:=X87 h;exact X4 ((Ybt (Yb7 op) QaG.1 (snd b X sc N y hN hs B h2).1).congr λ_ _=>rfl) λ_=>rfl|.cmp op a b=>λX sc N e hN hs B h=>by let⟨x,y,p,rfl,h1,h2,L⟩:=X88 h;let ha:=Qz4.1;let hb:=QcH.1;exact⟨(Ybu QbQ ha hb h1).congr λ_ _=>rfl,(X6m QbQ ha hb h1).congr λ_ _=>rfl⟩|.chn o1 o2 a b c=>λX sc N e hN hs B h=>by let⟨x,y,z,p,rfl,h1,h2,L,h4⟩:=X89 h;let ha:=Qz4.1;let hb:=QcH.1;let hc:=(snd c X sc N z hN hs B h4).1;exact⟨(Yci QdQ QcQ ha hb hc h1).congr λ_ _=>rfl,(X7j QdQ QcQ ha hb hc h1).congr λ_ _=>rfl⟩|.and a b=>λX sc N e hN hs B h=>by
  rcases X9a h with⟨x,y,p,rfl,h1,h2⟩|⟨x,y,z,r,p,rfl,h1,h2⟩;·let ha:=snd a X sc N x hN hs B h1;let hb:=snd b X sc N y hN hs B h2;exact⟨(X1k ha.1 QSZ).congr λ_ _=>rfl,((Xvh ha.2 (X2r hb.2)).dt).congr λ_ _=>rfl⟩
  ·let ha:=snd a X sc N x hN hs B h1;let hb:=snd b X sc N QXM hN hs B h2;exact⟨(X1k ha.1 hb.1).congr λ_ _=>rfl,((Xvh ha.2 QnZ).dt).congr λ_ _=>rfl⟩|.or a b=>λX sc N e hN hs B h=>by
  rcases Ycy h with⟨x,y,p,rfl,h1,h2⟩|⟨x,y,z,r,p,rfl,h1,h2⟩;·let ha:=snd a X sc N x hN hs B h1;let hb:=snd b X sc N y hN hs B h2;exact⟨(X6n ha.1 QSZ).congr λ_ _=>rfl,((X1m ha.2 (X6p hb.2)).dt).congr λ_ _=>rfl⟩
  ·let ha:=snd a X sc N x hN hs B h1;let hb:=snd b X sc N QoN hN hs B h2;exact⟨(X6n ha.1 hb.1).congr λ_ _=>rfl,((X1m ha.2 QnZ).dt).congr λ_ _=>rfl⟩|.not a=>λX sc N e hN hs B h=>by let⟨x,p,rfl,h⟩:=X83 h;let ha:=snd a X sc N x hN hs B h;exact⟨(Ybv ha.2 ha.1).congr λ_ _=>rfl,(X6o ha.2).congr λ_ _=>rfl⟩|.ite c a b=>λX sc N e hN hs B h=>by let⟨x,y,z,p,rfl,h1,h2,L⟩:=X9b h;let hc:=snd c X sc N x hN hs B h1;let ha:=snd a X sc N y hN hs B h2;let hb:=snd b X sc N z hN hs B L;exact⟨(Ybw hc.2 ha.1 hb.1).congr λ_ _=>rfl,(X7i hc.2 ha.2 hb.2).congr λ_ _=>rfl⟩|.idx a i=>λX sc N e hN hs B h=>by let⟨x,y,p,rfl,h1,h2,L⟩:=X9c h;exact X4 ((Yb9 (Xtr h1) Qz4.1 (snd i X sc N y hN hs B L).1).congr λ_ _=>rfl) λ_=>rfl|.sli a lo hi=>λX sc N e hN hs B h=>by let⟨x,l,u,p2,p,rfl,h1,h2,L⟩:=X9m h;exact X4 ((Yc0 QaG.1 (sndo lo X sc N l hN hs B h2) (sndo hi X sc N u hN hs B L)).congr λ_ _=>rfl) λ_=>rfl|.rev a=>λX sc N e hN hs B h=>by let⟨x,y,p,rfl,h1,h2⟩:=X9o h;exact X4 ((X9u Q1 Qz4.1 h1).congr λenv S=>congrArg (R.bind _) (funext λx=>funext λS=>(X0c x S).symm)) λ_=>rfl|.cal f es=>λX sc N e hN hs B h=>by let⟨fx,y,ys,p,rfl,h1,h2,L,h4⟩:=X9n h;let st:=Xau es Q60 h4;rw[Vas,bA0]at st;exact X4 ((Yc2 B h1 (X4o h2) (snd f X sc N fx hN hs B L).1 QDE Qe5 Qd5).congr λ_ _=>rfl) λ_=>rfl|.isi a ts=>λX sc N e hN hs B h=>by let⟨p0,x,y,cp,rfl,h1,h2,L,h4⟩:=X9k h;let ih:=(snd a X sc N x hN hs B L).1;exact X4 ((X4p B.err B.blt hs QwI h4 ih h2).congr λ_ _=>rfl) λ_=>rfl|.lrg t .nil=>λX sc N e hN hs B h=>by cases h|.lrg t QK9=>λX sc N e hN hs B h=>by
  let⟨p,p2,x,cp,ac,rfl,h1,h2,L,h4,h5⟩:=X9d h;let ih:=QZG.1;exact X4 ((Yct QcN Qf6 (B.blt _ (by cases t<;>decide)) Qxa Qy5 ih Qie).congr λenv S=>by
   show(QUQ.bind λx S=>(evs F G .nil env S).bind λxs S=>.ok Q4A S).bind _=QUQ.bind _
   cases ev F G a env S<;>rfl) λ_=>by cases t<;>rfl
 |.lrg t (.cons _ (.cons _ _))=>λX sc N e hN hs B h=>by cases h|.call f es=>λX sc N e hN hs B h=>by let⟨x,p0,y,ys,p,rfl,h1,h2,L,h4⟩:=X4d h;let⟨o1,o2,_⟩:=Xaz L;let⟨fl,h1,ab⟩:=h1;let⟨g,fd,ps,k,c1,c2,c3,c4,c5,c6⟩:=B.fn f x _ fl h1 ab;let st:=Xau es Q60 h4;rw[Vas,bA0]at st;exact X4 ((X6u c1 c2 c3 Qf6 c4 c5 QDE (λenv S ds S' q=>by rw[c6];calc Xr6 es Q60 h4 env S ds S' q) o1 Qe5 Qd5).congr λ_ _=>rfl) λ_=>rfl|.blt k es=>λX sc N e hN hs B h=>by let⟨x,p0,y,ys,p,rfl,h1,hq,h2,L,h4⟩:=X9f h;let⟨o1,o2,o3⟩:=Xaz L;let st:=Xau es Q60 h4;rw[Vas,bA0]at st;let ih:=snds es X sc N Q60 hN hs B h4;exact X4 (X0d B.err.sm B.gd B.units Qf6 B.blt (λz=>B.calm (by rw[z,Bool.or_false]at hq;calc hq)) h1 o1 o3 ih Qe5 Qd5) λ_=>rfl|.mth k o es=>λX sc N e hN hs B h=>by let⟨ox,nm,ap,y,ys,cp,rfl,h1,h2,L,h4,h5,h6⟩:=X9g h;let st:=Xau es Q60 h6;let ih:=snds es X sc N Q60 hN hs B h6;let io:=Q4G.1;exact X4 (X0e h1 h2 L h4 io ih st) λ_=>rfl|.sst a=>λX sc N e hN hs B h=>by let⟨p,p2,x,cp,ac,rfl,h1,h2,L,h4,h5⟩:=X9e h;let ih:=QZG.1;exact X4 ((Ycm B.units QcN Qf6 Qy5 Qxa Qy5 ih Qie).congr λ_ _=>rfl) λ_=>rfl|.st0=>λX sc N e hN hs B h=>by let⟨p,cp,rfl,h1⟩:=X9i h;exact X4 ((Ycn QwI Qy5).congr λ_ _=>rfl) λ_=>rfl|.sad o es=>λX sc N e hN hs B h=>by let⟨ox,ap,y,ys,cp,rfl,h2,L,h4,h5,h6⟩:=X9h h;let st:=Xau es Q60 h6;let ih:=snds es X sc N Q60 hN hs B h6;let io:=Q4G.1;exact X4 (X0f (by let:=B.units;omega) h2 L h4 io ih st) λ_=>rfl|.srs a=>λX sc N e hN hs B h=>by let⟨p,x,cp,rfl,h1,h2,L,h4⟩:=X9j h;let ih:=(snd a X sc N x hN hs B h4).1;exact X4 ((Ycp B.units QcN Qf6 Qy5 ih QAb).congr λ_ _=>rfl) λ_=>rfl|.frz a=>λX sc N e hN hs B h=>by let⟨h1,h2⟩:=Xjm h;exact X4 ((snd a X sc N e hN hs B h2).1.frz.congr λ_ _=>rfl) λw=>X8z h1.2 _ w|.cmr k n gs elt=>λX sc N e hN hs B h=>by let⟨ee,gens,scope,p,rfl,h0,h1,h2,L,h4,h5⟩:=Xwx h;subst h1 h2;let so:=Xwv L;let aa:=B.calm h0;let⟨c⟩:=Xr7 (p:=p) hN hs B aa so (sndg gs X sc N _ _ gens hN hs B h4) (λY y1 y2 y3=>(snd elt Y _ _ ee y1 y2 y3 h5).1);subst hN hs;exact X4 ?_ λ_=>rfl;rw[c.eq];exact X7d aa so rfl c.hg c.hi c.hs c.hG c.hT c.hB
def sndo:∀(o:Op) (X:Cx) (sc:Vai) (N:LS) (x:Option Expr),X.N=N->X.env.scope=sc->PF cm F G fns gns X->mto cm fns gns sc N o x=yx->DO X x (evo F G o)
 |.none=>λX sc N x hN hs B h=>by
  cases x with
  |none=>let:evo F G .none=λ_ S=>.ok yy S:=rfl;rw[this];calc Xr4|some _=>cases h
 |.some e=>λX sc N x hN hs B h=>by
  cases x with
  |none=>cases h|some x=>let h':mt cm fns gns sc N e x=true:=h;let:evo F G QVS=λenv S=>QT1.bind λx S=>.ok QDD S:=rfl;rw[this];exact Xr5 (snd e X sc N x hN hs B h').1
def snds:∀(es:Exs) (X:Cx) (sc:Vai) (N:LS) (xs:LX),X.N=N->X.env.scope=sc->PF cm F G fns gns X->mts cm fns gns sc N es xs=yx->DA X xs QxE
 |.nil,X,sc,N,[]=>λhN hs B h=>by let:evs F G .nil=λ_ S=>.ok [] S:=rfl;rw[this];exact X6l|.cons e es,X,sc,N,x::xs=>λhN hs B h=>by simp[mts,bA0]at h;let:evs F G QBF=λenv S=>QT1.bind λx S=>Qk4.bind λxs S=>.ok Q4A S:=rfl;rw[this];exact X2p QrE.1 (snds es X sc N xs hN hs B h.2) (Xh h.1.1)|.nil,X,sc,N,_::_=>λhN hs B h=>by simp![mts]at h|.cons _ _,X,sc,N,[]=>λhN hs B h=>by simp![mts]at h
def Xt2:∀(es:Exs) (X:Cx) (sc:Vai) (N:LS) (xs:LX),X.N=N->X.env.scope=sc->PF cm F G fns gns X->mts cm fns gns sc N es xs=yx->DTs X xs (evts F G es)
 |.nil,X,sc,N,[]=>λhN hs B h=>by let:evts F G .nil=λ_ S=>.ok yx S:=rfl;rw[this];exact X28|.cons e es,X,sc,N,x::xs=>λhN hs B h=>by
  simp[mts,bA0]at h;let:evts F G QBF=λenv S=>QT1.bind λx S=>match X2 S x with|some yx=>evts F G es env S|some yw=>.ok yw S|none=>.bad:=rfl
  rw[this];exact Xy6 QrE.2 (Xt2 es X sc N xs hN hs B h.2)|.nil,X,sc,N,_::_=>λhN hs B h=>by simp![mts]at h|.cons _ _,X,sc,N,[]=>λhN hs B h=>by simp![mts]at h
def Xt3:∀(it:It) (X:Cx) (sc:Vai) (N:LS) (tg x:Expr),X.N=N->X.env.scope=sc->PF cm F G fns gns X->(Xtw it=yx->∃es k p,tg=.Tuple es k p)->mtI cm fns gns sc N it x=yx->DI X tg x QiJ
 |.val e=>λX sc N tg x hN hs B _ h=>by
  simp[mtI]at h;let:evit F G QSd=λenv S=>QT1.bind λx S=>match X9 S x with|some r=>.ok r S|none=>.bad:=rfl
  rw[this];exact X64 (snd e X sc N x hN hs B h).1|.rng es=>λX sc N tg x hN hs B _ h=>by
  let⟨p0,y,ys,p,rfl,h2,L⟩:=X4g h;let st:=Xau es Q60 L;rw[Vas,bA0]at st;let:evit F G QWS=λenv S=>Qk4.bind λxs S=>match Y5 xs with|some ds=>.ok QtL S|none=>.bad:=rfl
  rw[this];exact X65 Qf6 Qy5 Qz6 Qe5 Qd5|.zpp es=>λX sc N tg x hN hs B ht h=>by
  let⟨p0,y,ys,p,rfl,h2,L⟩:=X4e h;let⟨ts,k,tp,rfl⟩:=ht rfl;let st:=Xau es Q60 L;rw[Vas,bA0]at st;let:evit F G Qkb=λenv S=>Qk4.bind λxs S=>match xs with
   |Qc9=>match X9 S x,X9 S y with
    |some s,yz t=>.ok QiP S|_,_=>.bad
   |_=>.bad:=rfl
  rw[this];exact X68 Qf6 Qy5 Qz6 Qe5 Qd5|.enm es=>λX sc N tg x hN hs B ht h=>by
  let⟨p0,y,ys,p,rfl,h2,L⟩:=X4f h;let⟨ts,k,tp,rfl⟩:=ht rfl;let st:=Xau es Q60 L;rw[Vas,bA0]at st;let:evit F G Q1c=λenv S=>Qk4.bind λxs S=>match xs with
   |[x]=>match X9 S x with
    |some s=>.ok QZV S|none=>.bad
   |_=>.bad:=rfl
  rw[this];exact X69 Qf6 Qy5 Qz6 Qe5 Qd5
def sndg:∀(gs:Gens) (X:Cx) (sc:Vai) (N:LS) (sc2:Vai) (N2:LS) (gens:List Vb4),X.N=N->X.env.scope=sc->PF cm F G fns gns X->mtG cm fns gns sc N sc2 N2 gs gens=yx->X9v F G X sc2 N2 QXN gs gens
 |.nil=>λX sc N sc2 N2 gens hN hs hp h=>(Ycu h).elim|.cons t it ifs .nil=>λX sc N sc2 N2 gens hN hs hp h=>by let⟨tg,iter,cs,rfl,h2,h3,h4,h5,h6⟩:=Ycv h;exact⟨tg,iter,cs,rfl,h2,hN▸h3,Xt3 it X sc N tg iter hN hs hp (Xjn h6 h3) h4,λY L y2 y3=>Xt2 ifs Y sc2 N2 cs L y2 y3 h5⟩|.cons t it ifs Qz5=>λX sc N sc2 N2 gens hN hs hp h=>by let⟨tg,iter,cs,aa,B,ab,rfl,h3,h4,h5,h6,h7,h8,h9,af,ac,ae⟩:=Ycw h;exact⟨tg,iter,cs,aa,B,ab,rfl,h3,h4,hN▸h5,hN▸h8,Xt3 it X sc N tg iter hN hs hp (Xjn ac h5) h6,λY L y2 y3=>Xt2 ifs Y sc2 N2 cs L y2 y3 h7,λY L y2 y3=>Xt3 it2 Y sc2 N2 aa B L y2 y3 (Xjn ae h8) h9,λY L y2 y3=>Xt2 ifs2 Y sc2 N2 ab L y2 y3 af⟩|.cons t it ifs (.cons t2 it2 ifs2 (.cons _ _ _ _))=>λX sc N sc2 N2 gens hN hs hp h=>(Ycx h).elim
end
variable{X:Cx}{pc:LA}{σ:L2.St}{H:Hp}{s:Vc}{ρ:LR}{S S':Sto}{env:En}{a b e tg:Expr}{f:En->Sto->R D}{pos:Pos}
def X9x(he:DE X e f)(hg:DG X tg t)(hs:Vef [tg] e pos.line X.env=pure yw)(hw:Veg [tg] e X.env=pure yy)(h1:(Vb3 [tg] X.env).map QG0=[assign tg X.env]):
  DS X (.Assign [tg] e pos) yw (λenv S=>Qa0.bind λx S=>match X0 t x env with|some env=>.ok QQ4 S|none=>.bad):=by
 intro pc s σ H ρ S env I L;dsimp at L |-;cases q:f env S with
 |bad=>rw[q]at L;cases L rfl|ex n S1=>exact Vih (he.ex I q λx s' z=>.of .refl z rfl) hs hw|ok d S1=>
  rw[q]at L;simp[Rk0]at L |-;cases q2:X0 t d env with
  |none=>rw[q2]at L;cases L rfl|some B=>calc Vih (he.ok I q λu s' v H' ρ' J rv rd st=>?_) hs hw;rw[h1];calc hg pc s' σ H' ρ' S1 env d v u B _ _ J q2 rd rv λs2 aa I2=>⟨.nx B,S1,rfl,rfl,aa,H',ρ',I2,st,λz=>nomatch z⟩
def X4q{kt k2 pt2}(hc:X.calm=yx)(hN:X.N.Nodup)(hi:X.N[i]?=yz x)(hj:X.N[j]?=yz y)(ag:i≠j)
  (hx:X.env.scope.names.lookup x=yz .local) (hy:X.env.scope.names.lookup y=yz .local) (ha:DA X Q0I ga)
  (hw:Veg QS5 QXB X.env=pure (yz Qc9))
  (hs:Vef QS5 QXB pos.line X.env=pure yw):
  DS X (.Assign QS5 QXB pos) yw (λenv S=>QGP.bind λxs S=>if [i,j].length=lg xs then .ok (.nx (([i,j].zip xs).foldl Q21 env)) S else .bad):=by
 intro pc s σ H ρ S env I B;dsimp at B |-;rw[exec_Assign_arm];calc Va (Ve6 ?_);rw[hs];calc Va Q71;rw[iN0 Q1];cases q:ga env S with
 |bad=>rw[q]at B;cases B rfl|ex n S1=>exact Va (Tuple_ (ha.ex I q λx s' z=>.of .refl z rfl))|ok ds S1=>
  rw[q]at B;simp[Rk0]at B |-;split at B
  ·rename_i hl;rw[iP0 hl];obtain⟨d1,d2,rfl⟩:∃d1 d2,ds=[d1,d2]:=by
    match ds,hl with
    |[d1,d2],_=>exact⟨d1,d2,rfl⟩
   calc Va (Tuple_ (ha.ok I q λus L vs H1 aa I1 aj ae ac=>?_));let⟨v,w,rfl,ab,ah⟩:=ae.two;obtain⟨u1,u2,rfl,rv,ai⟩:∃u1 u2,us=[u1,u2]/\RelV v u1/\RelV w u2:=by
    cases aj with
    |cons p q=>
     cases q with
     |cons p' q'=>cases q';exact⟨_,_,rfl,p,p'⟩
   calc Vaj ?_ (by show 2<=V7;decide);let I2:Inv X pc σ H1 {L with heap:=L.heap.push {cls:=.type "tuple",data:=.seq [u1,u2].toArray} }:=I1.inv.kept (t':=L.toks) λb o e=>Ve _ e;rw[hw];calc Va Q71;show Vg Q2 X.A (do rule "assign.swapped-stores";let items <- unpackItems Q5K 2 yy;assignInOrder Q89 items.reverse;pure Flow.next) _ _ _;calc Va (Vbz (Va (unpackItems_tuple (items:=#[u1,u2]) QjQ (IsTup.new L.heap _) λh' af=>?_)));let I3:=I2.kept (h':=h') (t':=L.toks) λb o e=>af b o Q9V e;show Vg _ _ (assignInOrder Q89 [u2,u1] >>= λ_=>pure Flow.next) _ _ _;calc Va (Viw (wpAny_bindName (Xcb I3 hN hj (.inl hy) ai (λs2 I4=>?_) Qtb)));calc Viw (wpAny_bindName (Xcb I4 hN hi Qwb rv (λs3 I5=>assignInOrder_nil Q71) Qub));rw[List.set_comm _ _ (Ne.symm ag)]at I5;exact⟨.nx ((env.set i (yz d1)).set j (yz d2)),S1,rfl,rfl,_,H1,aa,⟨I5,I1.sr,(I1.er.set i ab).set j ah⟩,ac,λz=>nomatch z⟩
  cases B rfl
def X9y(hu:X.A.units+1<Vbt)(I:S0 X pc σ H s ρ S env)(B:Xdw x y d S≠.bad)(rx:RD X.K ρ H x vx)(qx:RelV vx ux)(ry:RD X.K ρ H y vy)(qy:RelV vy uy)(rd:RD X.K ρ H d v)(rv:RelV v u)
  (L:∀S' s' H',Xdw x y d S=.ok () S'->S0 X pc σ H' s' ρ S' env->Stp X.K ρ ρ H H'->Q () s'):Vg Q2 X.A (setItem ux uy u) Q Ev s:=by
 unfold Xdw at B L;cases x with
 |ref n=>dsimp at B L;cases y with
  |int k=>
   dsimp at B L;cases e:Z.lstM S n with
   |none=>rw[e]at B;cases B rfl|some xs=>
    rw[e]at B L;dsimp at B L;cases e2:Z.ixN QU k with
    |none=>rw[e2]at B;cases B rfl|some j=>
     rw[e2]at L;let⟨a,ws,rfl,ha,hv,hr⟩:=I.lstR e rx;simp[RD]at ry;subst ry;let hl:L2.ixN ws.length k=yz j:=by rw[<-hr.length];exact e2
     exact thn (Xyk (X:=X.wish Ev) pc s σ H Q40 QSV v ux uy u (λH'=>H'=upd H a QeN) (I.inv.wish Ev) qx qy rv ⟨a,ws,k,j,rfl,rfl,hv,hl,rfl⟩) λ_ s' ⟨H',J,e3⟩=>?_;subst e3;let nf:∀o u,H a≠yz QW1:=λo u z=>by rw[hv]at z;cases z
     let st:Stp X.K ρ ρ H (upd H a QeN):=Stp.chg (S:=S) (o:=.lst (xs.set j d)) I.sr ha nf;calc L _ s' _ rfl ⟨J.unwish,I.sr.chg ha nf ⟨ws.set j v,Xu,(hr.set rd j).mono st⟩,I.er.mono st⟩ st
  |_=>cases B rfl
 |_=>cases B rfl
variable{o i:Expr}{fo fi:En->Sto->R D}{spos:Pos}
def X4r(hu:X.A.units+1<Vbt)(he:DE X e f)(ho:DE X o fo)(hi:DE X i fi)(hs:Vef QnB e pos.line X.env=pure yw)(hw:Veg QnB e X.env=pure yy)
  (hA:∀v,assign QD7 X.env v=(do
   let ov <- Vd6 [v] QEI
   let iv <- Vd6 [v,ov] (eval i X.env)
   standAt spos
   Vd6 QiM Q7P
   release QiM [])):
  DS X (.Assign QnB e pos) yx (λenv S=>Qa0.bind λv S=>QpI.bind λx S=>QNE.bind λy S=>QoJ.bind λ_ S=>.ok QQ4 S):=by
 intro pc s σ H ρ S env I nb;dsimp at nb |-;generalize hr:Qa0.bind (λv S=>QpI.bind λx S=>QNE.bind λy S=>QoJ.bind λ_ S=>R.ok (Fl.nx env) S)=r at nb |-;let h1:(Vb3 [Expr.Subscript o i spos] X.env).map QG0=[assign QD7 X.env]:=rfl;calc Vih (he.bind I Q46 hr.symm (λd S1 u s1 v H1 al e1 ag I1 rv rd B=>?_) λx s' ⟨n,S2,e2,z⟩=>.of .refl z e2) hs hw;rw[h1];show Vg _ _ (assign QD7 X.env u) _ _ _;rw[hA];calc Va (Uy (ho.bind I1 ag e1 (λx S2 ux s2 vx H2 am e2 af I2 ak ai L=>?_) λx s' ⟨n,S3,e3,z⟩=>.of B z e3));calc Va (Uy (hi.bind I2 af e2 (λy S3 uy s3 vy H3 ac e3 aj I3 ae ab aa=>?_) λx s' ⟨n,S4,e4,z⟩=>.of QhY z e4));calc Va (Ve6 (Va (Uy (X9y hu I3 (λz=>aj Qm4) (ai.mono aa) ak ab ae (QxM.mono aa) rv λS4 s4 H4 e4 I4 ah=>?_))));calc wpAny_release ⟨.nx env,S4,by rw[e3,e4];rfl,rfl,σ,H4,ac,I4,B.trans (L.trans (aa.trans ah)),λ_=>rfl⟩
universe e
theorem X9z(C:Addr)(h:Heap):Prop:=∃tl N nm qn bs hd sn sub ab B dd k0 k1 k2 k3 k5 L,
 h.get? C=yz (excClassObj nm qn C N bs tl hd sn sub ab B dd k0 k1 k2 k3 k5 "ValueError.__new__")/\h.Ns N L/\L "__init__"=yy/\OwnTail h bmV tl
def X4s{K:Vh}{h:Heap}{C:Addr}(L:K.In h)(B:Xos K C=yx):X9z C h:=by
 unfold Xos at B;cases lk:K.lookup C with
 |none=>rw[lk]at B;cases B|some o=>
  rw[lk]at B;dsimp at B;cases dc:Xz6 o.data with
  |none=>rw[dc]at B;cases B|some cd=>rw[dc]at B;simp[bA0,beq_iff_eq,Va4]at B;let⟨⟨⟨⟨⟨⟨e0,e1⟩,e2⟩,e3⟩,e4⟩,e5⟩,e6⟩:=B;let⟨cl,dct,dt,aa⟩:=o;let⟨nm,bs,ac,ns,qn,hd,sn,sub,ab,ae,af⟩:=cd;dsimp at e0 e1 e2 e3 e4 e5 e6 dc;obtain rfl:=X4h dc;obtain⟨tl,e7⟩:∃tl,ac=.ref C::tl:=⟨_,e1⟩;obtain⟨k0,k1,k2,k3,k5,e8⟩:∃k0 k1 k2 k3 k5,aa=#[k0,k1,k2,k3,yz (.builtin "ValueError.__new__"),k5]:=⟨_,_,_,_,_,e2⟩;clear e1 e2;subst e0 e3 e7 e8;calc⟨tl,_,_,_,_,_,_,_,_,_,_,_,_,_,_,_,_,L _ _ lk,.of_isNs (PySem.W.isNs_of_in L e5),PySem.W.nsMap_none_of_in L e5 e6,PySem.W.tail_of_in L e4⟩
def _root_.L2.Inv.newX(I:Inv X pc σ H s)(k:∀b u,s.heap.get? b=yz u->h'.get? b=yz u)(L:s.heap.get? a=yy)
  (new:ObjOk X.prog X.w Qp5 h' a o):Inv X pc σ Qp5 QV/\HOk X.prog X.w Qp5 h':=by
 let B:H a=none:=by
  cases z:H a with
  |none=>rfl|some w=>let⟨q,e⟩:=Xcq (I.hok a w z);rw[L]at e;cases e
 let ne:∀b u,H b=yz u->b≠a:=λb u q=>Xp q B;let hok:HOk X.prog X.w Qp5 h':=λb u q=>by
  by_cases hb:b=a;·subst hb;rw[Xu]at q;cases q;exact new
  ·rw[Xe hb]at q;exact QyJ.stay (λc v _ e=>k c v e) (λc z=>by rw[Xe Q8Z];calc z) λc xs _ z=>by rw[Xe Q8Z];exact z
 calc⟨I.un (t':=s.toks) ⟨λb u e _ _ _=>k b u e,λb u e _ _ _=>⟨u.slots,k b u e⟩,λb u e n _=>?_,λb u e _=>⟨u,k b u e⟩,λb xs z=>by rw[Xe QBP];calc z,λb u xs z=>by rw[Xe QBP];calc z,λb ps z=>by rw[Xe QBP];calc z⟩ hok,hok⟩;rw[Xe (λz=>by rw[z,L]at e;cases e)];calc n
section
variable{X:Cx}{pc:LA}{σ:L2.St}{H:Hp}{s:Vc}{ρ:LR}{S:Sto}{env:En}{e:Expr}{f:En->Sto->R D}{pos np cpos:Pos}
def X90{c:Nat}{x:Str}{C:Addr}(hc:X.calm=yx)(hx:Xb2 c=yz x)(hn:Va2 X.K Um x=yz QBU)(hq:Xos X.K C=yx)
  (hg:Gl X x) (aj:QB0=yw) (he:DE X e f) (aa:Xy e=yx):DS X (.Raise (yz (.Call (.Name x np) [e] [] cpos)) yy pos) yx (λenv S=>Qa0.bind λ_ S=>.ex QE QvJ):=by
 intro pc s σ H ρ S env I nb;dsimp at nb |-;let hm:X.mg x=yz QL2:=Vdm I.inv.mod.kin I.inv.mod.glob hn;let ai:Y8 X.K c=yz C:=by unfold Y8;rw[hx];simp[Vab,hn]
 let⟨tl,N,nm,qn,bs,hd,sn,sub,ab,ac,dd,k0,k1,k2,k3,k5,mN,hC,hN,ag,T⟩:=X4s I.inv.mod.kin hq;exact wpAny_Raise_call_subT (C:=C) (nm:=nm) (q:=qn) (N:=N) (bs:=bs) (bm:=tl) (hdct:=hd) (sn:=sn) (sub:=sub) (ab:=ab) (col:=ac) (dd:=dd) (k0:=k0) (k1:=k1) (k2:=k2) (k3:=k3) (k5:=k5)
  PySem.F.excBase_ValueError (mN:=mN) (T.hasType PySem.F.excBase_ValueError.hasBase) QjQ (by rw[Xh aa];rfl) ag (Xeh I.inv hg hm ⟨rfl,?_⟩ aj)
 rw[Xh aa];calc Vek ?_;generalize hr:(Qa0.bind λ_ S=>(R.ex QE QvJ:R Fl))=r at nb |-;calc Vbl (he.bind I Q46 hr.symm (λd S1 u s1 v H1 af e1 ak L rv rd ah=>Vdk ?_) λy s' ⟨n,S2,z1,z2⟩=>⟨n,S2,σ,z1,λ_=>rfl,z2⟩);calc⟨rfl,by simp![V7],L.inv.bk _ _ hC,hN.keeps L.inv.bk,T.keeps L.inv.bk,λh' a B=>?_⟩;let⟨t,h1,h2,h3⟩:=B.there;let ae:H1 a=none:=by
  cases z:H1 a with
  |none=>rfl|some w=>let⟨o,e⟩:=Xcq (L.inv.hok a w z);rw[B.new]at e;cases e
 let xo:ExcO C a h':=⟨_,_,_,h1,rfl,rfl,rfl,by simp!⟩;let⟨J,hok⟩:=L.inv.newX B.keeps B.new xo.ok;calc⟨QIE,S1++QQ9,σ,e1,λ_=>rfl,_,af++[a],a,c,J,rfl,?_,by simp!,L.sr.new1 (o:=.exc c) ae ⟨C,ai,Xu⟩,ah.trans (Stp.new1 ae),.inl ⟨_,_,h1,rfl,rfl⟩⟩;rw[<-L.sr.len];simp!
universe e
abbrev inH(X:Cx)(a:Addr):Cx:={ X with A:=X.A.mark QSJ,calm:=yw}
section
variable{X:Cx}{pc:LA}{σ:L2.St}{H:Hp}{s:Vc}{a:Addr}
def Inv.inH(I:Inv X pc σ H s)(a:Addr):Inv (inH X a) pc σ H s:=
 ⟨⟨I.ok.mod,I.ok.kind,I.ok.glob,I.ok.blt,I.ok.above,I.ok.inj,I.ok.has,I.ok.cab,Qb3,I.ok.frames,I.ok.stk,I.ok.exf,I.ok.bs,I.ok.bsz,I.ok.noex,I.ok.exfs,I.ok.funs,I.ok.frf⟩,I.os,I.bare,I.base,I.loc,I.cell,I.free,I.freeC,I.pin,I.hok,I.len⟩
def Inv.outH(I:Inv QrG pc σ H s)(ok:X.Ok):Inv X pc σ H s:=⟨ok,I.os,I.bare,I.base,I.loc,I.cell,I.free,I.freeC,I.pin,I.hok,I.len⟩
def Inv.goes(I:Inv X pc σ H s)(hl:X.env.scope.names.lookup n=yz .local)
  (h:∀s',Inv X pc (Vn σ.length yy) H s'->Q () s'):Vg M A (do bindName X.env n .none;unbindBehindTheSuite X.env n p) Q E s:=by
 let⟨m,hn,_⟩:=I.loc;exact wpAny_nameGoes hl hn (by rw[I.ok.kind];rfl) λh' m' aa sb=>h _ ?_;let⟨o,es,ep,ho,r⟩:=id hn;let⟨o',ab,ac,ae,r'⟩:=id aa;let L:∀b u,X.s₀.heap.get? b=yz u->b≠X.env.locals:=λb u e=>Uj QO2;let B:∀x c,X.env.cells.lookup x=yz c->∀v,s.heap.IsCell c v->h'.IsCell c v:=λx c e v ⟨u,hu,hd⟩=>⟨u,(sb.2 c QzJ).trans hu,hd⟩;calc⟨I.ok,I.os,I.bare,⟨λb u e q hb hx=>QGD.trans (I.base.keep b u e q hb hx),λb u e q hb hx=>?_,I.base.free,λb u e hx=>?_,I.base.tups,I.base.frzs,I.base.tbls⟩,⟨m',aa,λi x v _ e2 _=>?_⟩,λx c e=>?_,I.free,I.freeC,λp hp=>?_,λb u q=>?_,by rw[List.length_replicate];calc I.len⟩;·let⟨sl,z⟩:=I.base.slot b u e q hb hx;exact⟨sl,QGD.trans z⟩
 ·let⟨w,z⟩:=I.base.there b u e hx;exact⟨w,QGD.trans z⟩
 ·rw[Vdp]at e2;split at e2<;>cases e2
 ·let⟨v,z⟩:=I.cell x c e;exact⟨v,B x c e v z⟩
 ·let⟨e,n,ne,r⟩:=I.pin p hp;exact⟨(sb.2 _ ne).trans e,n,ne,r⟩
 ·let ne:∀c v,H c=yz v->c≠X.env.locals:=λc v z=>Xp z I.free;exact QyJ.stay (λc v hc e=>?_) Q3Z λ_ _ _ z=>z;rcases hc with rfl|hc;·exact(sb.2 _ (ne _ _ q)).trans e
  ·calc(sb.2 _ (ne _ _ hc)).trans e
abbrev X91(c i:Nat)(g B:En->Sto->R Fl)(env:En)(S:Sto):R Fl:=match g env S with
 |.ex m S'=>match S'[m]? with
  |some QgS=>if c==0||c==c' then
    match B Qi3 S' with
    |.ok QJ9 S''=>.ok QJ9 S''|_=>.bad
   else .bad|_=>.bad
 |r=>r
def X92(hs:X.stack=X.env::X.outer)(hf:X.env.frame=yz X.env.locals)
  (hN:X.N.Nodup) (hi:X.N[i]?=yz n) (hl:X.env.scope.names.lookup n=yz .local) (hn:Va2 X.K Um x=yz (yz QjL)) (hg:Gl X x) (ar:QB0=yw)
  (hm:∀c' C,Y8 X.K c'=yz C->QCA=yx->PySem.W.exmOne X.K QL2 QjL=yz yx) (hb:DSs X body yx g) (hh:∀a,DSs QrG (b0::suite) na gh):
  DS X (.Try body QV7 [] [] pos) yw (X91 c i g gh):=by
 intro pc s σ H ρ S env I B;unfold X91 at B |-;calc wpAny_Try_except ?_;cases q:g env S with
 |bad=>rw[q]at B;cases B rfl|ok y S1=>
  exact Vp QVF Q7B λx s1 z=>?_
  ·rw[q]at z;let z':=z.pre (σ:=σ) (na':=yw) .refl λw=>nomatch w;let⟨y',S2,e,z2⟩:=z;cases e;cases y with
   |nx e=>let⟨rfl,_⟩:=z2;exact wpAny_execs_nil z'|brk e=>let⟨rfl,_⟩:=z2;exact z'|cnt e=>let⟨rfl,_⟩:=z2;exact z'|rt d=>let⟨u,v,al,H',ρ',rfl,_⟩:=z2;exact z'
  let⟨k,S2,ay,e,_⟩:=z;rw[q]at e;cases e|ex m S1=>
  rw[q]at B;dsimp at B |-;exact Vp QVF Q7B λx1 s1 z=>?_;·let⟨y,S2,e,_⟩:=z;rw[q]at e;cases e
  let⟨m',S2,al,e,aw,H1,af,a,c',J,rfl,ak,hc,sr,st,fl⟩:=z;rw[q]at e;cases e;cases aw rfl;rw[hc]at B |-;dsimp at B |-;let ah:QCA=true:=by
   cases z:QCA with
   |true=>rfl|false=>rw[z]at B;cases B rfl
  rw[iP0 ah]at B |-;obtain⟨d,S2,ab⟩:∃d S2,gh (env.set i (yz (.ref m))) S1=.ok (.rt d) S2:=by
   cases z:gh Qi3 S1 with
   |bad=>rw[z]at B;cases B rfl|ex _ _=>rw[z]at B;cases B rfl|ok y S2=>
    rw[z]at B;cases y with
    |rt d=>exact⟨d,S2,rfl⟩|nx _=>cases B rfl|brk _=>cases B rfl|cnt _=>cases B rfl
  rw[ab];dsimp;let⟨C,hC,ha⟩:=(show ∃C,Y8 X.K c'=yz C/\H1 a=yz Qv1 from sr.ob m a _ ak hc);let an:=hm c' C hC ah;let aj:∀(l:LR) (a0:Vb),Hid X H1 a s1.heap l->QB9 ->
    ∀h2,Heap.HeldW Q9S QN4 a QL2 a0 X.env.locals h2->s1.heap.UpToSlots h2 ->
    Vg Q2 X.A (setFlight Q40 yy) (λ_ s3=>Vg Q2 X.A (handleBy Q40 X.env QV7)
     (OkS X pc σ ρ H yw (.ok QJ9 S2)) QuC s3) QuC {s1 with heap:=h2}:=by
   intro l a0 hid L h2 ac aa;let inv:∀ {h':Heap},Heap.FlyingW Q9S QN4 a QL2 a0 h'->s1.heap.UpToSlots h'->Inv X pc σ H1 QvO:=λ{h'} fw up=>by let⟨f1,_,_,oe,vs,T,oT,ts,t1,⟨t2,t3⟩,t4,t5,_⟩:=fw;exact Inv.fly J ha hid L f1 up QA5
   exact wpAny_landsW ac λh3 ae ai=>?_;let J3:=inv ae QlU;let⟨ob,am,ag⟩:=ae.there;calc wpAny_handleBy_cons (codeAny_handlers_test (Xeh (Inv.inH J3 a) hg (Vdm J.mod.kin J.mod.glob hn) ?_ ar)) (by intro z;cases z);let LT:PySem.W.Looks Q2 h3 (typeOf Q40) QL2:=ag▸(PySem.W.Looks.ld am).andThen .now;calc(PySem.W.exm_one J3.kIn LT an).at ?_;calc codeAny_handlers_suite_as (lands_againW ae λh4 aq av=>?_);let J4:=inv aq (QlU.trans av);calc Xcb (X:=Z.inH X a) (v:=.ref a) (Inv.inH J4 a) hN hi (.inl hl) rfl (λs5 J5=>?_) (.inr hl);let er:ER X.K af H1 Qi3 QtS:=(I.er.mono st).set i (by simp[RD];calc⟨a,rfl,ak⟩);exact Vp (hh a pc s5 QtS H1 af S1 Qi3 ⟨J5,sr,er⟩ (by rw[ab];calc λz=>nomatch z)) (λf6 s6 z=>?_) λy s6 z=>?_;·rw[ab]at z;let⟨y,S3,e,z⟩:=z;cases e;let⟨u,v,ax,H6,ao,rfl,J6,rv,rd,au,ap⟩:=z;exact Inv.goes (Inv.outH J6 J.ok) hl λs7 J7=>⟨.rt d,S2,rfl,u,v,_,H6,ao,rfl,J7,rv,rd,au,st.trans ap⟩
   ·rw[ab]at z;let⟨_,_,_,e,_⟩:=z;cases e
  calc Xih J hs hf ha fl λl h2 a0 hid L ac aa=>aj l a0 hid L h2 ac aa
universe e
universe Z
universe e
section
namespace Z
open PySem PySem.Spec PyProof.Rows L2
open PySem.W (CodeHd kla_obj kla_fn kla_eval kla_makeFunction kla_makeFunctionHit kla_callFunE kla_codeExpr tabObj)
structure LamAt(X:Cx)(nm:Str):Prop where
 qual:X.env.qual ++ "<lambda>"=Xig nm
 dep:X.A.depth+5<recursionLimit
 cod:∃c P,X.env.code=.ref c/\CodeHd X.base c P/\(Xno X.K).lookup P=yz Qmc
 blt:∃bm ob,X.mg "__builtins__"=yz (.ref bm)/\bm≠Vgu/\X.base.get? bm=yz ob/\ob.cls=.type "module" /\ ob.dict=yz Vgu/\ob.data=.plain
universe Z
universe e
section
namespace Z
open PySem PySem.Spec PyProof.Rows L2
abbrev Xcw(sc:Vai):Vb0:={scope:=sc,locals:=0,globals:=0,cells:=[]}
abbrev Xgl(b:Bool):Sem Bool->Bool
 |.pure c=>b==c|_=>yw
abbrev Xoy(l:Option LS):Sem (Option LS)->Bool
 |.pure m=>decide (l=m)|_=>yw
def Xdc(h:Xgl b m=yx):m=pure b:=by
 cases m<;>first|exact ff h|skip
 simp[Xgl,beq_iff_eq]at h;subst h;rfl
def Xku(h:Xoy b m=yx):m=pure b:=by
 cases m<;>first|exact ff h|skip
 simp[Xoy,decide_eq_true_eq]at h;subst h;rfl
def Xoz(v:Expr)(t:Option Expr)(l:Nat)(env:Vb0):Vgp v t l env=Vgp v t l QyG:=rfl
def Xkv(t v:Expr)(l:Nat)(env:Vb0):Vef [t] v l env=Vef [t] v l QyG:=rfl
def Xkw(B:LX)(v:Expr)(env:Vb0):Veg B v env=Veg B v QyG:=rfl
def Xo0(h:Xem i=yx)(v:Vb):assign QD7 env v=(do
   let ov <- Vd6 [v] QNW
   let iv <- Vd6 [v,ov] (eval i env)
   standAt spos
   Vd6 QiM Q7P
   release QiM []):=by
 cases i<;>first|rfl|cases h
abbrev X93:Expr->Bool
 |.ListComp _ _ _ _=>yx|_=>yw
abbrev Xdy(N ps:LS)(sc:Vai):Bool:=Xtv sc.kind && !sc.isCoroutine && !sc.isGenerator&&Xgh N&&decide (N.take Qq5=ps)&&ps.all (λx=>match sc.names.lookup x with|some .local=>yx|some .cell=>yx|_=>yw)&&sc.names.all (λy=>match y.2 with|.free=>yw|_=>yx)
def X0h(h:Xdy N ps sc=yx):FnScope N ps sc:=by
 simp[Xdy,bA0,Va4,decide_eq_true_eq]at h;let⟨⟨⟨⟨⟨⟨h1,h2⟩,h3⟩,h4⟩,h5⟩,B⟩,h7⟩:=h;exact⟨Xkr h1,h2,h3,Xgi h4,h5,λx hx=>?_,λy L e=>?_⟩
 ·let:=Ug.mp B x hx;split at this;·exact .inl Qf2
  ·exact .inr Qf2
  cases this
 let:=Ug.mp h7 y L;rw[e]at this;cases this
abbrev Xo1(s:Stmt):Option (LX×Expr×Pos):=match s with
 |.Assign B v p=>yz (B,v,p)|_=>yy
def Xhk(h:Xo1 s=yz z):s=.Assign z.1 z.2.1 z.2.2:=by
 cases s with
 |Assign _ _ _=>cases h;rfl|_=>calc Yu h
abbrev X94(s:Stmt):Option QgY:=match s with
 |.Expr v p=>yz (v,p)|_=>yy
def X4t(h:X94 s=yz z):s=.Expr z.1 z.2:=by
 cases s with
 |Expr _ _=>cases h;rfl|_=>calc Yu h
abbrev X95(s:Stmt):Option (Option Expr):=match s with
 |.Return v _=>yz v|_=>yy
def X4u(h:X95 s=yz z):∃p,s=.Return z p:=by
 cases s with
 |Return _ _=>cases h;calc Q30|_=>calc Yu h
abbrev X96(s:Stmt):Option (Expr×LM×LM):=match s with
 |.If c a b _=>yz (c,a,b)|_=>yy
def X4v{s:Stmt}{z:Expr×LM×LM}(h:X96 s=yz z):∃p,s=.If z.1 z.2.1 z.2.2 p:=by
 cases s with
 |If _ _ _ _=>cases h;calc Q30|_=>calc Yu h
abbrev X97(s:Stmt):Option (Expr×Expr×LM×LM):=match s with
 |.For t i b B _=>yz (t,i,b,B)|_=>yy
def X4w(h:X97 s=yz z):∃p,s=.For z.1 z.2.1 z.2.2.1 z.2.2.2 p:=by
 cases s with
 |For _ _ _ _ _=>cases h;calc Q30|_=>calc Yu h
abbrev X98(s:Stmt):Option QnH:=match s with
 |.Raise v w _=>yz (v,w)|_=>yy
def X4x(h:X98 s=yz z):∃p,s=.Raise z.1 z.2 p:=by
 cases s with
 |Raise _ _ _=>cases h;calc Q30|_=>calc Yu h
abbrev X99(s:Stmt):Option (LM×List ExceptHandler×LM×LM):=match s with
 |.Try b hs B fb _=>yz (b,hs,B,fb)|_=>yy
def X4y(h:X99 s=yz z):∃p,s=.Try z.1 z.2.1 z.2.2.1 z.2.2.2 p:=by
 cases s with
 |Try _ _ _ _ _=>cases h;calc Q30|_=>calc Yu h
abbrev Yaa(h:ExceptHandler):Option (Expr×Str×Stmt×LM):=match h with
 |.ExceptHandler Q6W (yz n) (b::su) _=>yz (e,n,b,su)|_=>yy
def X4z(q:Yaa h=yz z):∃p,h=.ExceptHandler (yz z.1) (yz z.2.1) (z.2.2.1::z.2.2.2) p:=by
 cases h with
 |ExceptHandler e n b p=>
  cases e with
  |none=>exact Yu q|some e=>
   cases n with
   |none=>exact Yu q|some n=>
    cases b with
    |nil=>calc Yu q|cons b B=>cases q;calc Q30
abbrev Xkx(s:Stmt):Nat:=match s with
 |.Pass _=>1|.Break _=>2|.Continue _=>3|_=>0
def vEnd_ok:(Xkx s=1->∃p,s=.Pass p)/\(Xkx s=2->∃p,s=.Break p)/\(Xkx s=3->∃p,s=.Continue p):=by
 let B:∀ {k:Nat} {P:Prop},0=k+1->P:=λz=>nomatch z;cases s with
 |Pass p=>calc⟨λ_=>Q30,λz=>(nomatch z),λz=>(nomatch z)⟩|Break p=>calc⟨λz=>(nomatch z),λ_=>Q30,λz=>(nomatch z)⟩|Continue p=>calc⟨λz=>(nomatch z),λz=>(nomatch z),λ_=>Q30⟩|_=>calc⟨B,B,B⟩
section
variable(cm:Bool)(fns:LF)(gns:LS)(sc:Vai)(N:LS)
abbrev Yab(i:Nat)(e:Ex)(v:Expr)(p:Pos)(B:LX):Bool:=QrR.any λt=>(vNm t).any λx=>decide Q4F&&Xok QCD sc x&&mt cm fns gns sc N e v&&(Xgl yw Q1F||(X93 v&&Xdx QwM&&Xgl yx Q1F))
abbrev X11(is:LN)(e:Ex)(v:Expr)(p:Pos)(B:LX):Bool:=QrR.any λt=>cm&&mtT QCD sc N QiD t&&mt cm fns gns sc N e v&&Xgl yw QK8&&Xoy yy QyB
abbrev Yc3(es:Exs)(p:Pos)(i j:Nat)(a b x y t v:Expr):Bool:=(vNm x).any λB=>(vNm y).any λL=>cm&&decide (N[i]?=yz B)&&decide (N[j]?=yz L)&&decide (i≠j)&&Xdx (sc.names.lookup B)&&Xdx (sc.names.lookup L)&&mts cm fns gns sc N es Q0I &&
   Xoy (yz [B,L]) QyB&&Xgl yw QK8
abbrev Yac(es:Exs)(p:Pos)(is:LN)(B:LX)(v:Expr):Bool:=QrR.any λt=>(Xoo t).any λtn=>(Xoo v).any λvs=>(Xin is).any λi=>(Xin tn).any λx=>(Xin vs).any λa=>Yc3 cm fns gns sc N es p i.1 i.2 a.1 a.2 x.1 x.2 t v
abbrev X12(o i e:Ex)(v:Expr)(p:Pos)(B:LX):Bool:=QrR.any λt=>(Xoq t).any λz=>Xem z.2&&mt cm fns gns sc N o z.1&&mt cm fns gns sc N i z.2&&mt cm fns gns sc N e v&&Xgl yw QK8&&Xoy yy QyB
abbrev X0i(c:Nat)(e:Ex)(v w:Option Expr):Bool:=w.isNone&&v.any λr=>(Xak r).any λz=>Qt3.any λx=>decide QZW&&glB sc x&&Y0 x&&Xy z.2.1&&z.2.2.1.isEmpty&&mt cm fns gns sc N e z.2.1
mutual
abbrev mtS(cm:Bool):St->Stmt->Bool
 |.nev,_=>yx|.asg QL1 e,st=>QLO.any λz=>Yab cm fns gns sc N i e z.2.1 z.2.2 z.1|.asg QiD e,st=>QLO.any λz=>X11 cm fns gns sc N is e z.2.1 z.2.2 z.1|.par is es,st=>QLO.any λz=>Yac cm fns gns sc N es z.2.2 is z.1 z.2.1|.aset o i e,st=>QLO.any λz=>X12 cm fns gns sc N o i e z.2.1 z.2.2 z.1|.expr e,st=>(X94 st).any λz=>Xgl yw (Vgp z.1 yy z.2.line (Xcw sc))&&mt cm fns gns sc N e z.1|.ret e,st=>(X95 st).any λz=>z.any λv=>mt cm fns gns sc N e v|.ite c a b,st=>(X96 st).any λz=>mt cm fns gns sc N c z.1&&mtSs cm a z.2.1&&mtSs cm b z.2.2|.for t it b,st=>(X97 st).any λz=>cm&&z.2.2.2.isEmpty&&Xco z.2.1&&mtT QCD sc N t z.1&&mtI cm fns gns sc N it z.2.1&&mtSs cm b z.2.2.1&&Xgj t it|.rse c e,st=>(X98 st).any λz=>cm&&X0i cm fns gns sc N c e z.1 z.2|.try b c i h,st=>(X99 st).any λz=>Q5Y.any λy=>(Yaa y).any λq=>(vNm q.1).any λx=>z.2.2.1.isEmpty&&z.2.2.2.isEmpty&&nasgs b&&decide QZW&&glB sc x&&Y0 x&&decide (N[i]?=yz q.2.1)&&Xdx (sc.names.lookup q.2.1)&&mtSs cm b z.1&&mtSs yw h (q.2.2.1::q.2.2.2)|.pass,st=>Xkx st==1|.brk,st=>Xkx st==2|.cnt,st=>Xkx st==3
abbrev mtSs(cm:Bool):Sts->LM->Bool
 |.nil,[]=>yx|.cons s ss,x::xs=>mtS cm s x&&mtSs cm ss xs|_,_=>yw
end
universe e
def Xfk(h:Xdx k=yx):k=yz .local:=by
 unfold Xdx at h;split at h;·rfl
 ·cases h
section
variable{F:Fn}{G:LD}{cm:Bool}{fns:LF}{gns:LS}{X:Cx}
def DS.congr{st:Stmt}{na:Bool}{f g:En->Sto->R Fl}(h:DS X st na f)(q:∀env S,g env S=f env S):DS X st na g:=by let:g=f:=funext λenv=>funext λS=>q env S;rw[this];calc h
def DSs.congr{st:LM}{na:Bool}{f g:En->Sto->R Fl}(h:DSs X st na f)(q:∀env S,g env S=f env S):DSs X st na g:=by let:g=f:=funext λenv=>funext λS=>q env S;rw[this];calc h
def Yad{st:Stmt}{na:Bool}:DS X st na (exe F G .nev):=λ_ _ _ _ _ _ _ _ B=>aB0 rfl B
structure TopOk(cm:Bool)(F:Fn)(G:LD)(fns:LF)(gns:LS)(X:Cx)(sc:Vai)(N:LS):Prop where
 hN:X.N=N
 hs:X.env.scope=sc
 nd:N.Nodup
 fn:∀x,X.fn x=yx
 pf:PF cm F G fns gns X
 stk:X.stack=X.env::X.outer
 frm:X.env.frame=yz X.env.locals
 lam:∀m∈mks,N.getLast?=yz Q3Y->LamAt X m
def TopOk.inH(T:TopOk cm F G fns gns X sc N)(a:Addr):TopOk yw F G fns gns QrG sc N:=
 ⟨T.hN,T.hs,T.nd,T.fn,⟨T.pf.blt,λf nm ar fl h B=>by
  let⟨g,fd,ps,k,L,c2,r⟩:=T.pf.fn f nm ar fl h (λz=>nomatch (B z));calc⟨g,fd,ps,k,L,?_,r⟩;cases fl with
  |true=>calc nomatch (B rfl)
  |false=>calc c2.mark,T.pf.glb,T.pf.clf,T.pf.units,T.pf.gd,Qb3,T.pf.err⟩,T.stk,T.frm,λm hm h=>let l:=T.lam m hm h;⟨l.qual,l.dep,l.cod,l.blt⟩⟩
variable{sc:Vai}{N:LS}
abbrev isC:Ex->Bool
 |.nev=>yx|.cmr _ _ _ _=>yx|.frz _=>yx|_=>yw
def X13(L:X93 v=yx)(B:isC e=yw)(h:mt cm fns gns sc N e v=yx):False:=by
 cases v with
 |ListComp ee gens scope cp=>
  cases e with
  |nev=>cases B|cmr _ _ _ _=>cases B|frz _=>cases B|lrg _ es=>
   cases es with
   |nil=>cases h|cons _ es=>cases es<;>cases h
  |_=>calc ff h
 |_=>calc ff L
def X0j{i:Nat}{e:Ex}{ts:LX}(T:TopOk cm F G fns gns X sc N)(h:Yab cm fns gns sc N i e v p ts=yx):DS X QeA yw (exe F G Q2X):=by
 let⟨t,k1,aa⟩:=any_some h;let⟨x,k2,ae⟩:=any_some aa;clear h aa;let h:=ae;clear ae;let k3:=Xbz k1;let⟨py,k4⟩:=Xbn k2;subst k4 k3
 ·rw[bA0,bA0,bA0,decide_eq_true_eq,Vb7,bA0,bA0]at h;let⟨⟨⟨h1,h2⟩,B⟩,h4⟩:=h;let⟨l1,l2⟩:=Xkp (X:=X) T.hs QSG h2;let af:=(snd e X sc N v T.hN T.hs T.pf B).1;let hN:=T.hN;let hs:=T.hs;subst hN hs;rcases h4 with h4|⟨⟨h4,h5⟩,h6⟩;·let hw:=Xdc h4;rw[<-Xoz]at hw;exact(X6w T.nd h1 l1 l2 af hw).congr λ_ _=>rfl
  ·let hw:=Xdc h6;rw[<-Xoz]at hw;let ab:∀k n L elt,mt cm fns gns X.env.scope X.N QtQ v=yx->DS X (.Assign Q1Z v p) yw (λenv S=>(ev F G QtQ env S).bind λx S=>.ok QkL S):=λk n L elt B=>by
    let⟨ee,gens,scope,cp,rfl,m0,m1,m2,m3,m4,m5⟩:=Xwx B;subst m1 m2;let so:=Xwv m3;let ac:=T.pf.calm m0;let⟨c⟩:=Xr7 (p:=cp) rfl rfl T.pf ac so (sndg L X _ _ _ _ gens rfl rfl T.pf m4) (λY y1 y2 y3=>(snd elt Y _ _ ee y1 y2 y3 m5).1);exact(X3c (py:=py) (spos:=p) T.nd h1 Qrc hw ac so rfl c.hg c.hi c.hs c.hG c.hT c.hB).congr λenv S=>?_;let:=congrFun (congrFun c.eq env) S;rw[this]
    all_goals rfl
   cases e with
   |nev=>exact λ_ _ _ _ _ _ _ _ nb=>aB0 rfl nb|cmr k n L elt=>exact(ab k n L elt B).congr λ_ _=>rfl|frz a=>
    cases a with
    |nev=>calc λ_ _ _ _ _ _ _ _ nb=>aB0 rfl nb|cmr k n L elt=>calc((ab k n L elt Q2Y.2).frzA h1).congr λ_ _=>rfl|frz a=>calc ff Q2Y.1.1|_=>calc(X13 h4 rfl Q2Y.2).elim
   |_=>calc(X13 h4 rfl B).elim
def X0k{is:LN}{e:Ex}{ts:LX}(T:TopOk cm F G fns gns X sc N)(h:X11 cm fns gns sc N is e v p ts=yx):DS X QeA yw (exe F G (.asg QiD e)):=by let⟨t,k1,B⟩:=any_some h;clear h;let h:=B;clear B;let k3:=Xbz k1;subst k3;·rw[bA0,bA0,bA0,bA0]at h;let⟨⟨⟨⟨h0,h1⟩,h2⟩,h3⟩,h4⟩:=h;let L:=h1;simp[mtT]at L;let⟨ac,q1,_⟩:=any_some L;let⟨ae,ab,q2⟩:=Xdb q1;subst q2;let aa:=(snd e X sc N v T.hN T.hs T.pf h2).1;let hg:=dgB (top:=λ_=>yx) T.hN T.hs T.nd QpM QSG h1;let w1:=Xdc h3;let w2:=Xku h4;rw[<-T.hs]at w1 w2;rw[<-Xkv]at w1;rw[<-Xkw]at w2;calc(X9x aa hg w1 w2 rfl).congr λ_ _=>rfl
def X40{is:LN}{es:Exs}{ts:LX}(T:TopOk cm F G fns gns X sc N)(h:Yac cm fns gns sc N es p is ts v=yx):DS X QeA yw (exe F G (.par is es)):=by
 let⟨t,k1,B⟩:=any_some h;clear h;let h:=B;clear B;let⟨tn,k2,B⟩:=any_some h;clear h;let h:=B;clear B;let⟨vs,k3,B⟩:=any_some h;clear h;let h:=B;clear B;let e1:=Xbz k1;let⟨kt,pt,e2⟩:=Xdb k2;let⟨kv,pv,e3⟩:=Xdb k3;subst e1 e2 e3;let⟨⟨i,j⟩,k4,B⟩:=any_some h;clear h;let h:=B;clear B;let⟨⟨x,y⟩,k5,B⟩:=any_some h;clear h;let h:=B;clear B;let⟨⟨a,b⟩,k6,B⟩:=any_some h;clear h;let h:=B;clear B;let e4:=Xen k4;let e5:=Xen k5;let e6:=Xen k6;subst e4 e5 e6;let⟨xn,k7,B⟩:=any_some h;clear h;let h:=B;clear B;let⟨yn,k8,B⟩:=any_some h;clear h;let h:=B;clear B;let⟨px,e7⟩:=Xbn k7;let⟨py,e8⟩:=Xbn k8;dsimp at e7 e8;subst e7 e8
 iterate 8 rw[bA0]at h
 let⟨⟨⟨⟨⟨⟨⟨⟨h0,h1⟩,h2⟩,h3⟩,h4⟩,h5⟩,h6⟩,h7⟩,h8⟩:=h;let L:=snds es X sc N _ T.hN T.hs T.pf h6;let hN:=T.hN;let hs:=T.hs;subst hN hs;let w1:=Xdc h8;let w2:=Xku h7;rw[<-Xkv]at w1;rw[<-Xkw]at w2;calc(X4q QSI T.nd QSc QRc (oD0 h3) (Xfk h4) Qrc L w2 w1).congr λ_ _=>rfl
def X0l{o i e:Ex}{ts:LX}(T:TopOk cm F G fns gns X sc N)(h:X12 cm fns gns sc N o i e v p ts=yx):DS X QeA yw (exe F G (.aset o i e)):=by
 let⟨t,k1,L⟩:=any_some h;let⟨⟨ox,ix⟩,k2,B⟩:=any_some L;clear h L;let h:=B;clear B;let k3:=Xbz k1;let⟨sp,k4⟩:=Xhg k2;dsimp at k4;subst k4 k3
 ·iterate 5 rw[bA0]at h
  let⟨⟨⟨⟨⟨h1,h2⟩,h3⟩,h4⟩,h5⟩,h6⟩:=h;let w1:=Xdc h5;let w2:=Xku h6;rw[<-T.hs]at w1 w2;rw[<-Xkv]at w1;rw[<-Xkw]at w2;calc((X4r (by let:=T.pf.units;omega) (snd e X sc N v T.hN T.hs T.pf h4).1 (snd o X sc N _ T.hN T.hs T.pf h2).1 (snd i X sc N _ T.hN T.hs T.pf h3).1 w1 w2 (Xo0 h1)).weak (na2:=yw) λz=>nomatch z).congr λ_ _=>rfl
def X41{e:Ex}{v:Option Expr}(T:TopOk cm F G fns gns X sc N)(h:(v.any λv=>mt cm fns gns sc N e v)=yx):DS X (.Return v p) yx (exe F G QMV):=by let⟨v,rfl,h⟩:=any_some h;calc(X6v (snd e X sc N v T.hN T.hs T.pf h).1).congr λ_ _=>rfl
def X42{c:Nat}{e:Ex}{v w:Option Expr}(T:TopOk cm F G fns gns X sc N)(h0:cm=yx)(h:X0i cm fns gns sc N c e v w=yx):DS X (.Raise v w p) yx (exe F G (.rse c e)):=by
 unfold X0i at h;rw[bA0]at h;let⟨hw,h⟩:=h;cases w with
 |some _=>cases hw|none=>
  let⟨r,er,hq⟩:=any_some h;let⟨x,px,y,ys,cp,L,B⟩:=Xcr hq;clear h hq;let h:=B;clear B;subst L er
  iterate 5 rw[bA0]at h
  let⟨⟨⟨⟨⟨h1,h2⟩,h3⟩,h4⟩,h6⟩,h5⟩:=h;let h1:=oD0 h1;let e6:=Vbf.mp h6;dsimp at e6;subst e6;let⟨C,k1,k2⟩:=T.pf.err.at_ c x h1;calc(X90 QSI h1 k2 (T.pf.err.cls c C k1).1 (Yn T.hs h2) (Xaz h3).1 (snd e X sc N y T.hN T.hs T.pf h5).1 h4).congr λ_ _=>rfl
mutual
def Yd4{cm:Bool}{X:Cx}:∀(x:St) (st:Stmt),TopOk cm F G fns gns X sc N->mtS fns gns sc N cm x st=yx->DS X st (X6f x) (exe F G x)
 |.nev=>λst T h=>Yad|.asg QL1 e=>λst T h=>by let⟨z,h1,B⟩:=any_some h;clear h;let h:=B;clear B;rw[Xhk h1];exact X0j T h|.asg QiD e=>λst T h=>by let⟨z,h1,B⟩:=any_some h;clear h;let h:=B;clear B;rw[Xhk h1];exact X0k T h|.par is es=>λst T h=>by let⟨z,h1,B⟩:=any_some h;clear h;let h:=B;clear B;rw[Xhk h1];exact X40 T h|.aset o i e=>λst T h=>by let⟨z,h1,B⟩:=any_some h;clear h;let h:=B;clear B;rw[Xhk h1];exact X0l T h|.expr e=>λst T h=>by let⟨z,h1,B⟩:=any_some h;clear h;let h:=B;clear B;rw[X4t h1];rw[bA0]at h;let w1:=Xdc h.1;rw[<-T.hs,<-Xoz]at w1;exact(X2w (snd e X sc N z.1 T.hN T.hs T.pf h.2).1 w1).congr λ_ _=>rfl|.ret e=>λst T h=>by let⟨z,h1,B⟩:=any_some h;clear h;let h:=B;clear B;let⟨p,rfl⟩:=X4u h1;exact X41 T h|.ite c a b=>λst T h=>by let⟨z,h1,B⟩:=any_some h;clear h;let h:=B;clear B;let⟨p,rfl⟩:=X4v h1;rw[bA0,bA0]at h;exact(Yca (snd c X sc N z.1 T.hN T.hs T.pf h.1.1).2 (sndSs a z.2.1 T h.1.2) (sndSs b z.2.2 T h.2)).congr λ_ _=>rfl|.for t it b=>λst T h=>by
  let⟨⟨tg,iter,body,oe⟩,h1,B⟩:=any_some h;clear h;let h:=B;clear B;let⟨p,rfl⟩:=X4w h1
  iterate 6 rw[bA0]at h
  let⟨⟨⟨⟨⟨⟨h0,h1⟩,h2⟩,L⟩,h4⟩,h5⟩,h6⟩:=h;let e1:=Vbf.mp h1;dsimp at e1;subst e1;let hg:=dgB (top:=λ_=>yx) T.hN T.hs T.nd QpM QSG L;exact(X7b T.stk T.frm QSI (Xt3 it X sc N tg iter T.hN T.hs T.pf (Xjn h6 L) h4) hg (sndSs b body T h5) (Xfi h2)).congr λ_ _=>rfl|.rse c e=>λst T h=>by let⟨z,h1,B⟩:=any_some h;clear h;let h:=B;clear B;let⟨p,rfl⟩:=X4x h1;rw[bA0]at h;exact X42 T h.1 h.2|.try b c i hd=>λst T h=>by
  let⟨⟨body,hs,oe,fb⟩,k1,B⟩:=any_some h;clear h;let h:=B;clear B;let⟨y,k2,B⟩:=any_some h;clear h;let h:=B;clear B;let⟨⟨te,n,b0,su⟩,k3,B⟩:=any_some h;clear h;let h:=B;clear B;let⟨x,k4,B⟩:=any_some h;clear h;let h:=B;clear B;let⟨p,e1⟩:=X4y k1;let e2:=Xbz k2;let⟨hp,e3⟩:=X4z k3;let⟨np,e4⟩:=Xbn k4;dsimp at e1 e2 e3 e4;subst e4 e3 e2 e1
  iterate 9 rw[bA0]at h
  let⟨⟨⟨⟨⟨⟨⟨⟨⟨h1,h2⟩,L⟩,h4⟩,h5⟩,h6⟩,h7⟩,h8⟩,h9⟩,aa⟩:=h;let e1:=Vbf.mp h1;let e2:=Vbf.mp h2;let h4:=oD0 h4;let h7:=oD0 h7;dsimp at e1 e2 h7;subst e1 e2;let ib:=sndSs b body T h9;rw[L]at ib;let ih:∀a,DSs QrG Qgc (nasgs hd) (pe F G hd):=λa=>sndSs hd Qgc (T.inH a) aa;let⟨C0,k1,k2⟩:=T.pf.err.at_ c x h4;let hN:=T.hN;let hs:=T.hs;subst hN hs;exact(X92 (c:=c) T.stk T.frm T.nd h7 (Xfk h8) k2 (Yn rfl h5) (Xaz h6).1 (λc' C e1 e2=>(T.pf.err.sub c' C c C0 e1 k1).2 e2) ib ih).congr λenv S=>by show(if nasgs b=yx then _ else _)=_;rw[iP0 L];rfl|.pass=>λst T h=>by let h:=beq_iff_eq.mp h;let⟨p,rfl⟩:=vEnd_ok.1 h;exact ds_pass.congr λ_ _=>rfl|.brk=>λst T h=>by let h:=beq_iff_eq.mp h;let⟨p,rfl⟩:=vEnd_ok.2.1 h;exact ds_brk.congr λ_ _=>rfl|.cnt=>λst T h=>by let h:=beq_iff_eq.mp h;let⟨p,rfl⟩:=vEnd_ok.2.2 h;exact ds_cnt.congr λ_ _=>rfl
def sndSs{cm:Bool}{X:Cx}:∀(x:Sts) (st:LM),TopOk cm F G fns gns X sc N->mtSs fns gns sc N cm x st=yx->DSs X st (nasgs x) (pe F G x)
 |.nil,[]=>λT h=>dss_nil.congr λ_ _=>rfl|.cons s ss,x::xs=>λT h=>by let h':(mtS fns gns sc N cm s x&&mtSs fns gns sc N cm ss xs)=true:=h;rw[bA0]at h';exact(Xyt (Yd4 s x T h'.1) (sndSs ss xs T h'.2)).congr λ_ _=>rfl|.nil,_::_=>λT h=>by cases h|.cons _ _,[]=>λT h=>by cases h
end
universe e
theorem BM(mg:Str->OV)(base:Heap):Prop:=∃B ob,mg "__builtins__"=yz QNV/\B≠Vgu/\base.get? B=yz ob/\ob.cls=.type "module" /\ ob.dict=yz Vgu/\ob.data=.plain
abbrev Xfl(K:Vh)(nm:Str):Bool:=match Vhj K nm with
 |some (c,P)=>PySem.W.codeHdIn K c P&&decide (Qce.lookup P=yz Qmc)|none=>yw
theorem Xky(K:Vh)(N:LS)(nm:Str):Prop:=∀m∈mks,N.getLast?=yz Q3Y->m=nm/\Xfl K m=yx
structure DefOk(K:Vh)(mg:Str->OV)(fns:LF)(gns:LS)(d:Df)(nm:Str)(ar:Nat)(fl:Bool):Prop where
 ex:∃g fd st N ps,Fun K nm nm st g fd/\Va2 K Um nm=yz QCU/\Xky K N nm/\mg nm=yz QK6/\Xdy N ps QO7=yx/\mtSs fns gns QO7 N fl d.body QWC=yx/\d.np=lg ps/\d.nl=N.length/\Qq5=ar/\Binds K fd ps []
section
variable{P:V0}{w:V9}{K:Vh}{mg:Str->OV}{base:Heap}{T:List Df}{G:LD}{fns:LF}{gns:LS}
def Xo2(ag:∀(f:Nat) (nm:Str),Xbj f nm G=yx->∃B fl,fns[f]?=yz QFE/\Q44/\∀k xs S,FT T G k f xs S≠.bad->lg xs=B)(er:ErrOk K)(hb:∀x∈blts,mg x=yy)(hg:∀(k:Nat) nm,gns[k]?=yz nm->∃u d,mg nm=yz u/\G[k]?=yz d/\∀ ρ H,∃v,RelV v u/\RD K ρ H d v){k:Nat}
  (ih:∀(f:Nat) nm B fl,fns[f]?=yz QFE->∃g fd ps,FnD fl P w K mg base k g fd ps Q5F/\Binds K fd ps []/\mg nm=yz QK6/\Vet K QK6=yx/\Qq5=B)
  {f:Nat} {nm:Str} {fl:Bool} {d:Df} {g:Addr} {fd:Vdc} {st:Stmt} {N ps:LS} (aj:QA4->K.In base/\BM mg base) (ah:Va2 K Um nm=yz QCU) (ab:Xky K N nm) (hT:T[f]?=yz d) (F:Fun K nm nm st g fd) (hS:Xdy N ps QO7=yx) (hM:mtSs fns gns QO7 N fl d.body QWC=yx) (hp:d.np=lg ps) (hn:d.nl=N.length):
  FnD fl P w K mg base QG5 g fd ps QXT:=by
 let⟨oc,od,kV,al,pm,an,am,ct,ak,rfl,lk,ai⟩:=F.ex;let aa:=X0h hS;let ae:=X6x (cm:=fl) (P:=P) (w:=w) (mg:=mg) (base:=base) (k:=k) (G:=pe Q8J G d.body) (na:=nasgs d.body) lk ai aa λA outer s H E hr=>by
  exact sndSs (fns:=fns) (gns:=gns) (sc:=Xv st) (N:=N) d.body QWC ⟨rfl,rfl,aa.nd,λ_=>rfl,⟨hb,λf nm B af h ac=>?_,hg,λf nm h=>let ⟨B,fl,h1,h2,h3⟩:=ag f nm h;⟨B,fl,h1,h2,h3 k⟩,?_,hr.gd,id,er⟩,rfl,rfl,?lam⟩ hM
  case lam=>
   intro m hm hN;let⟨rfl,hl⟩:=ab m hm hN;let hb:=aj ⟨m,hm,hl⟩;unfold Xfl at hl;split at hl
   ·rename_i c P L;rw[bA0,decide_eq_true_eq]at hl;calc⟨rfl,by let:=hr.dp;show QqW.depth+5<_;omega,⟨c,P,?_,PySem.W.codeHd_of_K hb.1 hl.1,hl.2⟩,hb.2⟩;simp[Vhj,ah,lk]at L;split at L
    ·split at L
     ·split at L;·cases L;rfl
      ·cases L
     cases L
    cases L
   cases hl
  ·let⟨g,fd,ps,h1,h2,h3,h4,h5⟩:=ih f nm B af h;exact⟨g,fd,ps,k,h1,hr.less ac,h2,h3,h4,h5⟩
  let:=hr.un;show QqW.units+200<Vbt;omega
 let e:FT T G QG5 f=(λds S=>gcB d.gc S (if QP3=lg ps then Xna (pe Q8J G d.body Q83 S) else .bad)):=by
  funext ds S;simp[FT,hT,den,hp,hn];split;·rfl
  ·cases d.gc<;>rfl
 rw[e];calc ae.gcF d.gc
def table(aa:∀(f:Nat) (nm:Str),Xbj f nm G=yx->∃B fl,fns[f]?=yz QFE/\Q44/\∀k xs S,FT T G k f xs S≠.bad->lg xs=B)(er:ErrOk K)(hb:∀x∈blts,mg x=yy)(hg:∀(k:Nat) nm,gns[k]?=yz nm->∃u d,mg nm=yz u/\G[k]?=yz d/\∀ ρ H,∃v,RelV v u/\RD K ρ H d v)
  (ab:QA4->K.In base/\BM mg base) (hd:∀(f:Nat) nm B fl,fns[f]?=yz QFE->∃d,T[f]?=yz d/\DefOk K mg fns gns d nm B fl):
  ∀(k f:Nat) nm B fl,fns[f]?=yz QFE->∃g fd ps,FnD fl P w K mg base k g fd ps Q5F/\Binds K fd ps []/\mg nm=yz QK6/\Vet K QK6=yx/\Qq5=B:=by
 intro k;induction k with
 |zero=>intro f nm B fl h;let⟨d,_,⟨g,fd,st,N,ps,F,_,_,L,_,_,_,_,hl,hB⟩⟩:=hd f nm B fl h;calc⟨g,fd,ps,⟨λA outer s H ag us vs Q E _ _ _ _ ae=>?_⟩,hB,L,F.kp,hl⟩;let⟨ds,ρ,S',_,_,_,nb,_⟩:=ae;cases nb rfl|succ k ih=>intro f nm B fl h;let⟨d,hT,⟨g,fd,st,N,ps,F,af,ac,L,hS,hM,hp,hn,hl,hB⟩⟩:=hd f nm B fl h;calc⟨g,fd,ps,Xo2 aa er hb hg ih ab af ac hT F hS hM hp hn,hB,L,F.kp,hl⟩
universe e
structure FunAt(K:Vh)(nm:Str)(st:Stmt):Prop where
 ex:∃g fd,Fun K nm nm st g fd/\Va2 K Um nm=yz QCU
def funAt_mk{K:Vh}{nm:Str}{st:Stmt}{f:Addr}{oc:Vb}{od an:Option Addr}{L:Array (OV)}{kV aa pm B ct:Vb}(a:Va2 K Um nm=yz QLc)
  (l:K.lookup f=yz ⟨oc,od,.func (Vc4 nm nm Qzc QWC QO7 .none kV aa pm an B ct),L⟩) (c:Vij K B nm=yx) (k:Vet K Q39=yx):FunAt K nm st:=⟨⟨f,_,X6d l c k,a⟩⟩
theorem Xhl(nm:Str)(st:Stmt)(ps:LS):Prop:=∀(kV L pm:Vb) (an:Option Addr) (B ct:Vb) (us:LV),lg us=lg ps->bindArgs Q51 QfA=pure QZ6
def Xao{nm a:Str}{st:Stmt}(h:∀kV L pm an B ct u,bindArgs Q51 QdM=pure [(a,u)]:=by intros;rfl):Xhl nm st [a]:=λkV L pm an B ct us hl=>by rcases us with _|⟨u,_|_⟩<;>first|calc h .. | cases hl
def Xcx{nm a b:Str}{st:Stmt}(h:∀kV L pm an B ct u v,bindArgs Q51 ⟨[u,v],[]⟩=pure [(a,u),(b,v)]:=by intros;rfl):Xhl nm st Q0I:=λkV L pm an B ct us hl=>by rcases us with _|⟨u,_|⟨v,_|_⟩⟩<;>first|calc h .. | cases hl
def X0m{nm a b c:Str}{st:Stmt}(h:∀kV L pm an B ct u v x,bindArgs Q51 ⟨[u,v,x],[]⟩=pure [(a,u),(b,v),(c,x)]:=by intros;rfl):Xhl nm st QDa:=λkV L pm an B ct us hl=>by rcases us with _|⟨u,_|⟨v,_|⟨x,_|_⟩⟩⟩<;>first|calc h .. | cases hl
def X14{K:Vh}{N:LS}{nm:Str}(h:(mks.all λm=>!decide (N.getLast?=yz Q3Y))=yx):Xky K N nm:=λm B e=>by let:=Ug.mp h m B;rw[decide_eq_true e]at this;cases this
def X0n{K:Vh}{h:Heap}{mg:Str->OV}{fns:LF}{gns:LS}{d:Df}{nm:Str}{L:Nat}{fl:Bool}{st:Stmt}{N ps:LS}(X:K.In h)(Gm:h.Ns Um mg)(F:FunAt K nm st)
  (hS:Xdy N ps QO7=yx) (hM:mtSs fns gns QO7 N fl d.body QWC=yx) (hp:d.np=lg ps) (hn:d.nl=N.length) (hl:Qq5=L) (hB:Xhl nm st ps) (B:Xky K N nm):DefOk K mg fns gns d nm L fl:=by
 let⟨g,fd,h1,h2⟩:=F.ex;calc⟨g,fd,st,N,ps,h1,h2,B,Vdm X Gm h2,hS,hM,hp,hn,hl,h1.binds hB⟩
private abbrev MD(fns:LF)(gns:LS)(st:Stmt)(N:LS)(fl:Bool)(d:Df):Prop:=(mtSs fns gns QO7 N fl d.body QWC&&Xdy N QNA QO7)=yx
def mm{fns:LF}{gns:LS}{st:Stmt}{N:LS}{fl:Bool}{d:Df}(h:MD fns gns st N fl d):mtSs fns gns QO7 N fl d.body QWC=true:=QwF.1
def ms{fns:LF}{gns:LS}{st:Stmt}{N:LS}{fl:Bool}{d:Df}(h:MD fns gns st N fl d):Xdy N QNA QO7=true:=QwF.2
def dk{K:Vh}{h:Heap}{mg:Str->OV}{fns:LF}{gns:LS}{d:Df}{nm:Str}{L:Nat}{fl:Bool}{st:Stmt}{N:LS}(X:K.In h)(Gm:h.Ns Um mg)(F:FunAt K nm st)
  (hM:MD fns gns st N fl d) (hB:Xhl nm st QNA) (B:Xky K N nm:=by calc X14 Q9) (hp:d.np=QNA.length:=by rfl) (hn:d.nl=N.length:=by rfl) (hl:QNA.length=L:=by rfl):DefOk K mg fns gns d nm L fl:=X0n X Gm F (ms hM) (mm hM) hp hn hl hB B
theorem AllD(K:Vh)(mg:Str->OV)(fns:LF)(gns:LS):LF->List Df->Prop
 |[],[]=>True|x::r,d::ds=>DefOk K mg fns gns d x.1 x.2.1 x.2.2/\AllD K mg fns gns r ds|_,_=>False
def AllD.c{K:Vh}{mg:Str->OV}{fns:LF}{gns:LS}{x:Str×Nat×Bool}{r:LF}{d:Df}{ds:List Df}(h:DefOk K mg fns gns d x.1 x.2.1 x.2.2)(t:AllD K mg fns gns r ds):AllD K mg fns gns (x::r) QpX:=⟨h,t⟩
def AllD.get{K:Vh}{mg:Str->OV}{fns:LF}{gns:LS}:∀ {fs:LF} {ds:List Df},AllD K mg fns gns fs ds->∀(f:Nat) nm ar fl,fs[f]?=yz QAC->∃d,ds[f]?=yz d/\DefOk K mg fns gns d nm ar fl
 |[],[],_,f,nm,ar,fl,e=>by cases e|x::r,d::ds,h,0,nm,ar,fl,e=>by cases e;calc⟨d,rfl,h.1⟩|x::r,d::ds,h,f+1,nm,ar,fl,e=>AllD.get h.2 f nm ar fl e
abbrev Yae(K:Vh):Bool:=blts.all λx=>match Va2 K Um x with
 |some yy=>yx|_=>yw
def X43{K:Vh}{h:Heap}{mg:Str->OV}(X:K.In h)(B:h.Ns Um mg)(e:Yae K=yx):∀x∈blts,mg x=none:=λx L=>by
 let:=Ug.mp e x L;split at this;·rename_i q;exact PySem.W.mg_none_of X B q
 ·cases this
def Xkz{K:Vh}{h:Heap}{mg:Str->OV}{nm:Str}{i:Int}{t:Tok}(X:K.In h)(B:h.Ns Um mg)(e:Va2 K Um nm=yz (yz QoP)):∃u d,mg nm=yz u/\yz (D.int i)=yz d/\∀ ρ H,∃v,RelV v u/\RD K ρ H d v:=
 ⟨_,_,Vdm X B e,rfl,λ_ _=>⟨.int i,QS,by simp[RD]⟩⟩
def Xw5{K:Vh}{h:Heap}{mg:Str->OV}{nm:Str}{st:Stmt}{f:Nat}(X:K.In h)(B:h.Ns Um mg)(F:FunAt K nm st):∃u d,mg nm=yz u/\yz (D.fn f nm)=yz d/\∀ ρ H,∃v,RelV v u/\RD K ρ H d v:=by let⟨g,fd,_,h2⟩:=F.ex;calc⟨_,_,Vdm X B h2,rfl,λ_ _=>⟨.ref g,rfl,by simp[RD];calc⟨g,rfl,h2⟩⟩⟩
abbrev Xk0(fns:LF):LD->Bool
 |[]=>yx|.fn f nm::r=>(match fns[f]? with|some (m,_,_)=>decide Qkf|none=>yw)&&Xk0 fns r|_::r=>Xk0 fns r
def Xk1:∀ {G:LD},Xk0 fns G=yx->Xbj f nm G=yx->∃B fl,fns[f]?=yz QFE
 |[],_,h=>by cases h|d::r,hc,h=>by
  cases d with
  |fn g m=>
   simp[Xk0,bA0]at hc;simp[Xbj,Vb7,bA0,beq_iff_eq,decide_eq_true_eq]at h;rcases h with⟨rfl,rfl⟩|h
   ·let h1:=hc.1;split at h1;·rename_i L B fl e;let:=oD0 h1;subst this;exact⟨B,fl,e⟩
    ·cases h1
   calc Xk1 hc.2 h|_=>calc Xk1 (by simpa only[Xk0] using hc) (by simpa only[Xbj] using h)
def Yaf(hT:T[f]?=yz d):∀(k:Nat) (xs:LD) (S:Sto),FT T G k f xs S≠.bad->lg xs=d.np
 |0=>λxs S h=>aB0 rfl h|k+1=>λxs S h=>by
  simp[FT,hT,den]at h;split at h;·assumption
  ·cases h rfl
def law_fn {P:V0} {w:V9} {K:Vh} {h:Heap} {mg:Str->OV} {T:List Df} {G:LD} {fns:LF} {gns:LS} {fa:Addr} {k f:Nat} {d:Df} {st:Stmt} {N:LS} {x:Str} (X:K.In h) (Gm:h.Ns Um mg) (ab:mg "law"=yz QHH)
  (er:ErrOk K) (hb:∀x∈blts,mg x=yy) (hg:∀(k:Nat) nm,gns[k]?=yz nm->∃u d,mg nm=yz u/\G[k]?=yz d/\∀ ρ H,∃v,RelV v u/\RD K ρ H d v)
  (hd:∀(f:Nat) nm ar fl,fns[f]?=yz QAC->∃d,T[f]?=yz d/\DefOk K mg fns gns d nm ar fl)
  (hT:T[f]?=yz d) (F:FunAt K "law" st) (hS:Xdy N [x] QO7=yx) (hM:mtSs fns gns QO7 N yx d.body QWC=yx) (hp:d.np=1) (hn:d.nl=N.length) (hB:Xhl "law" st [x]) (ag:Xk0 fns G=true:=by rfl) (ac:Xky K N "law":=by calc X14 Q9):
  ∃fd:Vdc,Q53/\∀base:Heap,K.In base->QcP->FnOk P w K mg base QBH QG5 fa fd [x] (spD K QMR 1 QXT):=by
 let⟨g,fd,h1,h2⟩:=F.ex;let e:=ab.symm.trans (Vdm X Gm h2);cases e;calc⟨fd,λs u=>?_,λbase kb bm=>?_⟩;·let⟨oc,od,kV,ae,pm,an,af,ct,ai,rfl,_⟩:=h1.ex;exact .of_eq (hB kV ae pm an af ct [u] rfl)
 ·let B:∀(f:Nat) (nm:Str),Xbj f nm G=yx->∃ar fl,fns[f]?=yz QAC/\Q44/\∀k xs S,FT T G k f xs S≠.bad->lg xs=ar:=λf nm h=>by
   let⟨ar,fl,q⟩:=Xk1 ag h;let⟨d',ah,⟨_,_,_,_,aj,_,_,_,_,_,_,e1,_,e2,_⟩⟩:=hd f nm ar fl q;exact⟨ar,fl,q,λa z=>Vdm X Gm z,λk xs S z=>by rw[Yaf ah k xs S z,e1,e2]⟩
  let aa:QA4->K.In base/\BM mg base:=λz=>⟨kb,bm z⟩;let:=Xo2 (P:=P) (w:=w) (base:=base) B er hb hg (λf nm ar fl q=>table B er hb hg aa hd k f nm ar fl q) aa h2 ac hT h1 hS hM hp hn;calc⟨λvs H Q E z=>let ⟨_,_,_,q,_⟩:=z;q,λA outer s H L us vs Q E hr=>this.run A outer s H L us vs Q E (.of hr)⟩
def Yag{K:Vh}{bo:Bool}{F:LD->Sto->R D}{H:Hp}{a:Addr}{ns:LI}(hO:∀xs,H a≠yz QB1)(hT:TabH K H)(L:SqL K H a Q23)(hF:∃S',F QkM []=.ok Qb S'):
  spD K bo 1 F Q8C H QAE λ_ _ _=>False:=by
 let⟨S',e⟩:=hF;let B:FrL K H a Q23:=by
  rcases L with(h|⟨o,h⟩)|h;·exact aB0 h (hO _)
  ·exact .inl QwH
  exact .inr h
 calc⟨QkM,[],[],rfl,.cons ?_ .nil,⟨hT,rfl,Viv,λn a o q=>by simp! at q⟩,QBG,λd S2 v H' ρ' q rd _ _=>?_,λn c S2 a H' ρ' q=>?_⟩;·simp[RD];exact⟨a,_,rfl,B,RDs.ints ns⟩
 ·rw[e]at q;cases q;simpa only[RD] using rd
 ·rw[e]at q;cases q
def Yah(H:Hp)(s:Vc)(e:Vb)(s':Vc)(z:CXd P w [] H s QQF e s'):False:=by let⟨_,_,_,_,_,_,q⟩:=z;calc q
abbrev Xt4(K:Vh):Bool:=mks.all λm=>(Vhj K m).isNone
def Xo3{K:Vh}(h:Xt4 K=yx){m:Str}(B:m∈mks):Vhj K m=none:=by let:=Ug.mp h m B;simpa using this
def X44{K:Vh}(h:Xt4 K=yx):Xno K=[]:=by unfold Xno;rw[List.filterMap_eq_nil_iff];intro m B;rw[Xo3 h B];rfl
def walk_z{l:PySem.W.OpenLaw}{loose:LS}{XP:QFS->Heap->Prop}{YP:V9->Heap->Prop}{d:DefRec}{K:Params->Vh}{T:List Df}{G:LD}{k f:Nat}{x:Str}(hn:l.most=yz 63)(L:d.params.defaults=[])(hr:Room k callerA)
  (hY:∀(w:V9) (h:Heap),YP w h->Qh2.In h) (hN:∀w:V9,Xt4 Qh2=yx)
  (F:∀(w:V9) (mg:Str->OV) (fa:Addr) (h:Heap),Qh2.In h->h.Ns Um mg->mg d.name=yz QHH ->
   ∃fd:Vdc,Q53/\∀base:Heap,Qh2.In base->((∃m∈mks,Xfl Qh2 m=yx)->BM mg base)->FnOk l.prog w Qh2 mg base (CXd l.prog w) k fa fd [x] (spD Qh2 QMR 1 Q5F))
  (hL:∀ns:LI,lg ns<=63->∃S',FT T G k f QkM []=.ok Qb S'):
  PySem.W.WalkO q loose XP YP l.row.toRowW d [] QC9:=
 L2.walk_of (n:=63) (k:=k) (x:=x) (CX:=λw=>CXd l.prog w) (sp:=λw=>spD Qh2 QMR 1 Q5F) hn Q1 L hr hY (λw mg fa h hk hg B=>let ⟨fd,h1,h2⟩:=F w mg fa h hk hg B;⟨fd,h1,λbase kb _=>h2 base kb λ⟨m,B,z⟩=>by unfold Xfl at z;rw[Xo3 Qrf B]at z;cases z⟩) (λw H a ns hl hO hS=>Yag (λxs z=>by rcases hO a with q|⟨o,ys,q⟩<;>(rw[z]at q;cases q)) (λP q z=>by rw[X44 Qrf]at z;cases z) hS (hL ns hl)) λ_ H s e s' z=>Yah H s e s' z
section
variable{F:Fn}{G:LD}{s:St}{ss:Sts}{env e:En}{S S1:Sto}
def Xep(h:exe F G s env S=.ok QR7 S1):pe F G QsL env S=pe F G ss e S1:=by show(match exe F G s env S with | .ok QR7 S'=>pe F G ss e S'|r=>r)=_;rw[h]
def Xk2(h:exe F G s env S=.ok QJ9 S1):pe F G QsL env S=.ok QJ9 S1:=by show(match exe F G s env S with | .ok QR7 S'=>pe F G ss e S'|r=>r)=_;rw[h]
def Xk3(h:exe F G s env S=.ex n S1):pe F G QsL env S=.ex n S1:=by show(match exe F G s env S with | .ok QR7 S'=>pe F G ss e S'|r=>r)=_;rw[h]
universe e
def Xa0(i j:Int)(S:Sto):Xn .add QF0 Qz2 S=.ok QuW S:=rfl
def Xr8(i j:Int)(S:Sto):Xn .sub QF0 Qz2 S=.ok QtW S:=rfl
def Xeq(h:Xbe i j=yx)(S:Sto):Xn .mul QF0 Qz2 S=.ok QvW S:=by simp[Xn,h,if_true]
def X0o(h:Xgz j=yx)(S:Sto):Xn .fdiv QF0 Qz2 S=.ok QsW S:=by simp[Xn,h,if_true]
def Xdd(h:0<j)(S:Sto):Xn .mod QF0 Qz2 S=.ok QwW S:=by simp[Xn,h,if_true]
def Xr9(h:0<=j/\j<=1000/\i.natAbs<2^63)(S:Sto):Xn .pow QF0 Qz2 S=.ok QfO S:=by simp[Xn,h,and_self,if_true]
def Xk4(h1:-1000000000000000<j)(h2:j<1000000000000000):Xbe i j=true:=by unfold Xbe;simp[Vb7,bA0,decide_eq_true_eq];left;right;constructor<;>omega
def Xsa(h1:-1000000000000000<i)(h2:i<1000000000000000):Xbe i j=true:=by unfold Xbe;simp[Vb7,bA0,decide_eq_true_eq];left;left;constructor<;>omega
universe Z
universe e
section
namespace Z
open PySem PySem.W
section
variable(tb:String->Option Vbb)(p:V0)(w:V9)(m:Nat)(ann:OV)
abbrev topT:Nat->SharedT->Thread->Option SharedT
 |0,_,_=>yy|n+1,s,t=>match through t with
  |true=>yz s|false=>match stepOk m ann t with
   |false=>yy|true=>match stepT QoX p w s t with
    |some (s',t')=>topT n s' t'|none=>yy
universe e
def Xsb{tb:String->Option Vbb}{p:V0}{w:V9}{m:Nat}{ann:OV}:∀ {n:Nat} {s s':SharedT} {t:Thread},topT tb p w m ann n s t=yz s'->topRun tb p w m ann n s.abs t=yz s'.abs
 |0,_,_,_,h=>by cases h|n+1,s,s',t,h=>by
  unfold topT at h;unfold topRun;cases B:through t with
  |true=>rw[B]at h;cases h;rfl|false=>
   rw[B]at h;cases L:stepOk m ann t with
   |false=>rw[L]at h;cases h|true=>
    rw[L]at h;cases hs:stepT QoX p w s t with
    |none=>rw[hs]at h;cases h|some r=>let⟨a,b⟩:=r;rw[hs]at h;rw[stepT_spec hs];calc Xsb h
abbrev Xmw(P:Params):BT:=
 .node (boot_o_0 P) (.node (boot_o_1 P) (.node (boot_o_3 P) (.node (boot_o_7 P) .nil .nil) .nil) (.node (boot_o_5 P) (.node (boot_o_9 P) .nil .nil) .nil))
  (.node (boot_o_2 P) (.node (boot_o_4 P) (.node (boot_o_8 P) .nil .nil) .nil) (.node (boot_o_6 P) (.node (boot_o_10 P) .nil .nil) .nil))
abbrev Xmx:Life:={debug:=0,thresholds:=[2000,10,10]}
def X0p(P:Params):absHeap (Xmw P) 11 Xmx=boot_heap P:=by kernel_rfl
def Xw6(P:Params):(QGA.isNs Um&&(Array.mk ([]:List GenState)).size==0,(boot_heap P).objs.size,QGA.nsMap Um "__annotations__")=(yx,11,yz (.ref 6)):=by kernel_rfl
abbrev Xw7{α:Type}(p q:V0)(loose:LS)(Xt:Vc->Bool)(Yf:Vc->α)(P:Params)(s:Vc):=((staticsOk Qm9 QGA s.heap&&namesBound p s.heap&&gensDone s&&laidKept QGA s.heap),openSeen q loose Qm9 Xt yx s,Yf s)
def Xw8{p q:V0}{loose:LS}{Xt:Vc->Bool}{α:Type}{Yf:Vc->α}{Ya:V9->α}{N:Nat}
  (e:opening p=plainProg p.main.scope.names) (hN:Nat.ble 600 N=yx) (f:∀s,fenceModules? p s=yz s)
  (all:∀w os,(topT treeTable p w 11 QDU N QM2 QRX).map (λs=>Xw7 p q loose Xt Yf w.params s.abs)=yz (yx,openGood q loose,Ya w)):
  LeftO p q loose Xt Yf Ya N:=λw=>by
 let⟨⟨h,gs,d,k,os⟩,e1,e2⟩:=Uh.mp (boot_open e hN f w);obtain⟨rfl,rfl,rfl,rfl⟩:h=boot_heap w.params/\gs=Array.mk []/\d=boot_drawn/\k=boot_toks:=by simpa using e2
 obtain⟨L,z2,z3⟩:_/\_/\_:=by simpa only[Ve5] using Xw6 w.params
 let⟨s,r,l⟩:=Uh.mp (all w os);let B:=Xsb r;let e0:SharedT.abs QM2=Qi6:=by unfold SharedT.abs;dsimp;rw[X0p]
 rw[e0]at B;unfold Xw7 at l;obtain⟨l1,l2,l3⟩:_/\_/\_:=by simpa only[Ve5] using l
 let t:topFrom treeTable p w N Qi6=yz s.abs:=by unfold topFrom;dsimp;rw[L,z2,z3,B];dsimp[Option.bind];rw[l1]
 unfold openEnds;rw[e1];show(topFrom treeTable p w N _).map _=_;rw[t];calc congrArg yz (Prod.ext l2 l3)
private abbrev RunT{β:Type}(p:V0)(g:V9->SharedT->β)(r:V9->β):Prop:=∀w os,(topT treeTable p w 11 QDU 40000 QM2 QRX).map (g w)=yz (r w)
def left_tree3{p q:V0}{loose:LS}{Xt:Vc->Bool}{α:Type}{Yf:Vc->α}{Ya:V9->α}(e:opening p=plainProg p.main.scope.names)(f:∀s,fenceModules? p s=yz s)
  (a1:RunT p (λw s=>staticsOk Qm9 QJM s.abs.heap&&namesBound p s.abs.heap&&gensDone s.abs&&laidKept QJM s.abs.heap) λ_=>yx)
  (a2:RunT p (λ_ s=>openSeen q loose Qm9 Xt yx s.abs) λ_=>openGood q loose) (a3:RunT p (λ_ s=>Yf s.abs) Ya):LeftO p q loose Xt Yf Ya 40000:=Xw8 e rfl f λw os=>by
 let⟨s,h,x1⟩:=Uh.mp (a1 w os);let L:=a2 w os;let B:=a3 w os;rw[h]at L B |-;calc congrArg yz (Prod.ext x1 (Prod.ext (Ur L) Q1g))
universe Z
universe e
section
namespace Z
open PySem PySem.Spec PyProof.Rows L2
def Xs{n:Nat}(h:n<=100000):n<=big:=V2 h Q1
def Xsc(k:Nat):∀xs:LD,bdDs k xs=xs.all (bdD k)
 |[]=>rfl|x::xs=>by rw[bdDs,Vas,Xsc k xs]
def Xdm{k:Nat}{xs:LD}(h:∀x∈xs,bdD k x=yx):bdDs k xs=true:=by rw[Xsc];calc Ug.mpr h
def X5{α:Type}{k:Nat}{f:α->D}{xs:List α}(h:∀x,bdD k QSD=yx):bdDs k Qe9=true:=Xdm λy B=>by let⟨x,_,rfl⟩:=Vs.mp B;calc h x
theorem Sim(S S1:Sto):Prop:=lg S1=lg S/\∀(i:Nat) o,S1[i]?=yz o->S[i]?=yz o\/bdO QE o=yx
def Sim.rfl'{S:Sto}:Sim S S:=⟨rfl,λ_ _ h=>.inl h⟩
def Xdn{S S1:Sto}{d:D}(h:Sim S S1)(B:bdD QE d=yx)(X:Sto):gcR S (.ok d QGS)=.ok d S1:=by let k:Xe9 S QGS:=⟨by rw[Uc,h.1];omega,λi o hi e=>h.2 i o (by rwa [Vx (by rw[h.1];calc hi)]at e)⟩;simp[gcR,iP0 k,B,if_true];rw[<-h.1,List.take_left'];rfl
def Yai{S S1:Sto}{o:O}(h:Sim S S1)(B:bdO QE o=yx):gcR S (.ok Q7 QcD)=.ok Q7 QcD:=by
 let k:Xe9 S QcD:=Q74;let b:¬ bdD QE Q7=true:=by simp![bdD]
 let e:QcD[lg S]?=yz o:=by rw[<-h.1];simp!
 simp[gcR,iP0 k,b,if_false,e,B,if_true];rw[<-h.1,List.take_left' rfl];rfl
def Yaj{S S1:Sto}{c:Nat}(h:Sim S S1):gcR S (.ex QE QHS)=.ex QE QHS:=by
 let k:Xe9 S QHS:=Q74;let e:(S1++[O.exc c])[lg S]?=yz Qq3:=by rw[<-h.1];simp!
 simp[gcR,iP0 (And.intro k (Vi _)),e];rw[<-h.1,List.take_left'];rfl
abbrev pt(S:Sto)(p:Nat)(k:Int):Sto:=S.set p QcS
def Yak(S:Sto)(p:Nat)(k:Int):Sim S Q7Z:=⟨Vdf,λi o e=>by
 unfold pt at e;by_cases h:p=i;·subst h;let:=QzR.1;rw[Vdf]at this;rw[Vau this]at e;cases e;exact .inr rfl
 ·rw[Vav h]at e
  calc .inl e⟩
def Yc4(S:Sto)(p:Nat)(a b:Int):pt (pt S p a) p b=pt S p b:=List.set_set ..
theorem Pot(S:Sto)(p:Nat):Prop:=∃k:Int,S[p]?=yz QcS
def Pot.pt{S:Sto}{p:Nat}(h:Pot S p)(k:Int):Pot Q7Z p:=⟨k,by let⟨_,h⟩:=h;calc Vau QH8.1⟩
def Pot.app{S:Sto}{p:Nat}(h:Pot S p)(X:Sto):Pot QfD p:=by let⟨k,h⟩:=h;calc⟨k,by rw[Vx QH8.1];calc h⟩
def Xw9{S:Sto}{p:Nat}(h:Pot S p)(X:Sto)(k:Int):Z.pt QfD p k=Z.pt S p k++X:=by let⟨_,h⟩:=h;calc List.set_append_left _ _ QH8.1
section
variable{F:Fn}{G:LD}{S S1:Sto}{env:En}
def Xer{e:Ex}{xs:LD}(h:ev F G e env S=.ok Qr6 QP8)(hs:Sim S S1)(B:bdDs QE xs=yx):ev F G QYV env S=.ok Qr9 S1:=by
 let e1:QXA[lg S1]?=yz QB1:=by simp!
 let e2:QXA.set QIE .ded=S1++Q5I:=by rw[Vfr _ _ Qw];simp!
 show gcR S QGb=_;rw[h];simp[Xa2,e1,e2];calc Xdn (d:=.fro xs) hs B _
def Ye{e:Ex}{xs:LD}(h:ev F G e env S=.ok Q7 QU1)(B:bdDs QE xs=yx):ev F G QYV env S=.ok Qr9 S:=Xer h .rfl' B
def Xbo{d:Df}{ds:LD}{env0:En}{v:D}{X:Sto}(L:ds.map yz++Vn QA8 yy=env0)(h:pe F G d.body env0 S=.ok QSB QGS)(hs:Sim S S1)(B:bdD QE v=yx)(hn:QP3=d.np:=by rfl)(hg:d.gc=true:=by rfl):den F G d ds S=.ok v S1:=by subst L;unfold den;rw[iP0 hn,h,hg];calc Xdn hs B X
def Xx{d:Df}{ds:LD}{env0:En}{v:D}(L:ds.map yz++Vn QA8 yy=env0)(h:pe F G d.body env0 S=.ok QSB S)(B:bdD QE v=yx)(hn:QP3=d.np:=by rfl)(hg:d.gc=true:=by rfl):den F G d ds S=.ok v S:=
 Xbo (X:=[]) L QPP .rfl' B hn hg
def Yal{d:Df}{ds:LD}{env0:En}(B:ds.map yz++Vn QA8 yy=env0){e:En}(h:pe F G d.body env0 S=.ok QR7 S)(L:QP3=d.np:=by rfl)(hg:d.gc=true:=by rfl):den F G d ds S=.ok .non S:=by subst B;unfold den;rw[iP0 L,h,hg];let:=Xdn (S:=S) .rfl' (show bdD QE .non=yx from rfl) [];rw[Vaw]at this;calc this
def Xjo{d:Df}{ds:LD}{env0:En}{c:Nat}(B:ds.map yz++Vn QA8 yy=env0)(h:pe F G d.body env0 S=.ex QE QvJ)(L:QP3=d.np:=by rfl)(hg:d.gc=true:=by rfl):den F G d ds S=.ex QE QvJ:=by subst B;unfold den;rw[iP0 L,h,hg];calc Yaj .rfl'
def Xg{T:List Df}{f k:Nat}{d:Df}(h:T[f]?=yz d)(ds:LD):FT T G QG5 f ds S=den Q8J G d ds S:=by simp[FT,h]
def Xr{e:Ex}{i:Nat}{v:D}{ss:Sts}(h:ev F G e env S=.ok v S1):pe F G (.cons Q2X ss) env S=pe F G ss (env.set i Qw8) S1:=Xep QRC
def Xw{e:Ex}{v:D}{ss:Sts}(h:ev F G e env S=.ok v S1):pe F G (.cons QMV ss) env S=.ok QSB S1:=Xk2 QRC
def Xbp{e:Ex}{v:D}{ss:Sts}(h:ev F G e env S=.ok v S1):pe F G (.cons (.expr e) ss) env S=pe F G ss env S1:=Xep QRC
def Xb6{c:Ex}{t:Bool}{a b ss:Sts}(h:ev F G c env S=.ok QtY S1):pe F G (.cons QAF ss) env S=match (if t then pe F G a env S1 else pe F G b env S1) with
  |.ok QR7 S'=>pe F G ss e S'|r=>r:=by
 show(match exe F G QAF env S with|.ok QR7 S'=>pe F G ss e S'|r=>r)=_;rw[show exe F G QAF env S=if t then pe F G a env S1 else pe F G b env S1 from ond h (by cases t<;>rfl)]
def Yl{c e:Ex}{t:Bool}{v:D}{ss:Sts}(h:ev F G c env S=.ok QtY S1)(B:ev F G e env S1=.ok v S1):pe F G (.cons (.ite c (.cons QMV .nil) .nil) ss) env S=if t then .ok QSB S1 else pe F G ss env S1:=by
 rw[Xb6 h];cases t;·rfl
 ·rw[iP0 rfl,iP0 rfl,Xw B]
def Xt5{c:Ex}{t:Bool}{k:Nat}{s:Str}{ss:Sts}(h:ev F G c env S=.ok QtY S):pe F G (.cons (.ite c (.cons (.rse k (.cst (.str s))) .nil) .nil) ss) env S=if t then .ex QE Qy2 else pe F G ss env S:=by rw[Xb6 h];cases t<;>rfl
def X3{i:Nat}{d:D}(h:env[i]?=yz Q28):ev F G QL1 env S=.ok d S:=by show(match env[i]? with|some Q28=>R.ok d S|_=>_)=_;rw[h]
def Xfm{i:Nat}{d:D}(h:G[i]?=yz d):ev F G (.glb i) env S=.ok d S:=by show(match G[i]? with|some d=>R.ok d S|none=>_)=_;rw[h]
def Xz:evs F G .nil env S=.ok [] S:=rfl
def Xb{S2:Sto}{e:Ex}{es:Exs}{x:D}{xs:LD}(h1:ev F G e env S=.ok x S1)(h2:evs F G es env S1=.ok xs S2):evs F G QBF env S=.ok Q4A S2:=ond h1 Q07
def Xxa{S2:Sto}{k:Bl}{a b:Ex}{x y:D}(h:ev F G a env S=.ok x S1)(h2:ev F G b env S1=.ok y S2):ev F G (.blt k Q06) env S=X6 k Qc9 S2:=ond (Xb h QzI) rfl
def Xhm{S2:Sto}{k:Mt}{o e:Ex}{x y:D}(h1:ev F G o env S=.ok x S1)(r:Xbf k x S1=yx)(h2:ev F G e env S1=.ok y S2):ev F G (.mth k o Q61) env S=Y4 k x [y] S2:=ond h1 ((iP0 r).trans (ond QzI rfl))
def Xt6{a:Ex}{x:D}{k:Kd}{B:List Ty}(h:ev F G a env S=.ok x S1)(L:kdD S1 x=yz k):ev F G (.isi a B) env S=match Yx k B with|some r=>.ok QSA S1|none=>.bad:=ond h (by rw[L];rfl)
def Xb7{a b:Ex}{x y:Bool}(h:ev F G a env S=.ok QsY S)(h2:x=yx->ev F G b env S=.ok QNf S):ev F G Q8a env S=.ok (.bl (x&&y)) S:=ond h (by
 cases x;·rfl
 ·calc h2 rfl)
def Xa4{a b:Ex}{x y:Bool}(h:ev F G a env S=.ok QsY S)(h2:x=yw->ev F G b env S=.ok QNf S):ev F G Qqb env S=.ok (.bl (x||y)) S:=ond h (by
 cases x;·exact h2 rfl
 ·rfl)
def Y3{a:Ex}{x:Bool}(h:ev F G a env S=.ok QsY S1):ev F G Qad env S=.ok (.bl (!x)) S1:=ond h rfl
def Xm{f:Nat}{a:Ex}{x:D}(h:ev F G a env S=.ok x S1):ev F G (.call f QK9) env S=F f [x] S1:=ond QRC rfl
def Xa1{f:Nat}{a b:Ex}{x y:D}{S2:Sto}(h:ev F G a env S=.ok x S1)(h2:ev F G b env S1=.ok y S2):ev F G (.call f Q06) env S=F f Qc9 S2:=ond (ond h (ond Q07 rfl)) rfl
def Yw{k:Bl}{a:Ex}{x:D}(h:ev F G a env S=.ok x S1):ev F G (.blt k QK9) env S=X6 k [x] S1:=ond QRC rfl
def Xb8{a b:Ex}{x y:D}{S2:Sto}(h:ev F G a env S=.ok x S1)(h2:ev F G b env S1=.ok y S2):ev F G (.idx a b) env S=Xcu x y S2:=ond h Q07
def Ys{o:Bo}{a b:Ex}{x y:D}{S2:Sto}(h:ev F G a env S=.ok x S1)(h2:ev F G b env S1=.ok y S2):ev F G Q1X env S=Xn o x y S2:=ond h Q07
def bi{o:Bo}{a b:Ex}{x y z:D}{S2:Sto}(h:ev F G a env S=.ok x S1)(h2:ev F G b env S1=.ok y S2)(B:Xn o x y S2=.ok z S2):ev F G Q1X env S=.ok z S2:=(Ys h h2).trans B
def Ym{o:Co}{a b:Ex}{x y:D}{S2:Sto}(h:ev F G a env S=.ok x S1)(h2:ev F G b env S1=.ok y S2):ev F G (.cmp o a b) env S=Xk o x y S2:=ond h Q07
def Xxb{α:Type}{xs:List α}{i:Nat}{x:α}(h:xs[i]?=yz x):xs.drop i=x::xs.drop QC2:=by let⟨hi,rfl⟩:=Vk.mp h;calc Vjh hi
def Xsd{get:Sto->Nat->Option Qw3}{t:Tg}{body:En->LD->Sto->R (LD)}(zs:LD)(T:D->En)(p:D->Bool)(f:D->D)(hs:∀i,get S i=yz zs[i]?)(hT:∀x∈zs,∀y∈zs,X0 t x QXb=yz QTI)(hl:Q9A<=big)
  (hb:∀x∈zs,∀B,lg B<big->body QTI B S=.ok (if p x then B++[f x] else B) S):
  ∀(n i:Nat) (e:En) (B:LD),lg zs-i<n->i<=lg zs->lg B<=i->QI7->Yy get t body n i e B S=.ok (B++(QLX.filter p).map f) S
 |0=>λi e B h=>aB0 h QP7|n+1=>λi e B h hi ha h0=>by
  rw[Yy,hs];cases q:zs[i]? with
  |none=>dsimp;rw[Vhh QWb];simp!|some x=>let L:=V5 q;let lt:=QzG.1;dsimp;rw[h0 x L];dsimp;rw[hb x L B Q0];dsimp;rw[Xsd zs T p f hs hT hl hb n QC2 _ _ Q0 Q0 (by cases p x<;>simp!<;>omega) (λy hy=>hT y hy x L),Xxb q,List.filter_cons];cases p x<;>simp!
def Xjp{n:Nat}{t:Tg}{it:It}{ifs:Exs}{elt:Ex}{src:Src}(zs:LD)(T:D->En)(p:D->Bool)(f:D->D)(hi:evit F G it env S=.ok src S)(hs:∀i,src.get S i=yz zs[i]?)(hm:Q9A<=src.most S)(hl:Q9A<=big)
  (L:∀x∈zs,X0 t x Qx0=yz QTI) (hT:∀x∈zs,∀y∈zs,X0 t x QXb=yz QTI) (ht:∀x∈zs,evts F G ifs QTI S=.ok (p x) S) (he:∀x∈zs,p x=yx->ev F G elt QTI S=.ok QSD S):
  ev F G (.cmr yw n QrL elt) env S=.ok Q7 (S++[.lst QzL]):=by
 calc ond hi (ond (Xsd zs T p f hs hT hl (λx B aa ha=>ond (ht x B) ?_) QU4 0 _ [] Q0 QL8 QL8 L) rfl);cases q:p x with
 |false=>rfl|true=>calc ond (he x B q) (iP0 ha)
def Xhn{n i:Nat}{it:It}{ifs:Exs}{elt:Ex}(zs:LD)(p:D->Bool)(f:D->D)(hi:evit F G it env S=.ok QWB S)(hl:Q9A<=big)(B:∀x∈zs,evts F G ifs QY3 S=.ok (p x) S)
  (he:∀x∈zs,p x=yx->ev F G elt QY3 S=.ok QSD S) (hb:∀x∈zs,p x=yx->bdD QE QSD=yx):
  ev F G (.frz (.cmr yw n (.cons QL1 it ifs .nil) elt)) env S=.ok (.fro QzL) S:=by
 calc Ye (Xjp zs Q3M p f hi QQ2 Qw hl QU3 QY5 B he) (Xdm λy L=>?_);let⟨x,hx,rfl⟩:=Vs.mp L;let⟨h1,h2⟩:=Va3.mp hx;calc hb x h1 h2
def Xmy{n i:Nat}{it:It}{elt:Ex}(zs:LD)(f:D->D)(hi:evit F G it env S=.ok QWB S)(hl:Q9A<=big)(he:∀x∈zs,ev F G elt QY3 S=.ok QSD S)(L:∀x∈zs,bdD QE QSD=yx):
  ev F G (.frz QX2) env S=.ok (.fro (zs.map f)) S:=by
 let:=Xhn (F:=F) (G:=G) (ifs:=.nil) zs QCD f hi hl QU3 (λx B _=>he x B) (λx B _=>L x B);rwa [List.filter_eq_self.mpr λ_ _=>rfl]at this
def Xho{α:Type}(zs:List α)(q:α->Bool):X1 (zs.map λx=>.bl (q x))=yz (zs.map q):=by
 induction zs with
 |nil=>rfl|cons x zs ih=>rw[Uk,X1,ih];rfl
def Xmz{n i:Nat}{it:It}{elt:Ex}(zs:LD)(q:D->Bool)(hi:evit F G it env S=.ok QWB S)(hl:Q9A<=big)(B:∀x∈zs,ev F G elt QY3 S=.ok QuY S):
  ev F G (.blt .all QEK) env S=.ok (.bl (zs.all q)) S:=by
 rw[Yw Qw9];simp[X6,Xi,Vab,Xho,Vfs];rfl
def Xt7{n i:Nat}{it:It}{elt:Ex}(zs:LD)(q:D->Bool)(hi:evit F G it env S=.ok QWB S)(hl:Q9A<=big)(B:∀x∈zs,ev F G elt QY3 S=.ok QuY S):
  ev F G (.blt .anb QEK) env S=.ok (.bl (zs.any q)) S:=by
 rw[Yw Qw9];simp[X6,Xi,Vab,Xho,List.any_map];rfl
def Xse{get:Sto->Nat->Option Qw3}{t:Tg}{body:En->Sto->R Fl}(zs:LD)(P:Nat->En->Sto->Prop)(hs:∀i e S,P i e S->get S i=yz zs[i]?)
  (L:∀i x e S,zs[i]?=yz x->P i e S->∃e1 e2 S',X0 t x e=yz e1/\body e1 S=.ok QZd S'/\P QC2 e2 S'):
  ∀(n i:Nat) (e:En) (S:Sto),lg zs-i<n->i<=lg zs->P i e S->∃e' S',Yz get t body n i e S=.ok (.nx e') S'/\P Q9A e' S'
 |0=>λi e S h=>aB0 h QP7|n+1=>λi e S h hi B=>by
  rw[Yz,hs i e S B];cases q:zs[i]? with
  |none=>
   let:i=lg zs:=by let:=Uz.mp q;omega
   subst this;calc⟨e,S,rfl,B⟩|some x=>let lt:=QzG.1;let⟨e1,e2,S',h1,h2,h3⟩:=L i x e S q B;dsimp;rw[h1];dsimp;rw[h2];calc Xse zs P hs L n QC2 e2 S' Q0 Q0 h3
def Xxc{get:Sto->Nat->Option Qw3}{t:Tg}{body:En->Sto->R Fl}{r:R Fl}(zs:LD)(T:D->En)(p:D->Bool)(hr:∀e S',r≠.ok QR7 S')(aa:∀e S',r≠.ok Qgd S')(L:∀e S',r≠.ok Qhd S')(hs:∀i,get S i=yz zs[i]?)(hT:∀x∈zs,∀y∈zs,X0 t x QXb=yz QTI)
  (hb:∀x∈zs,body QTI S=if p x then .ok (.nx QTI) S else r):
  ∀(n i:Nat) (e:En),lg zs-i<n->i<=lg zs->QI7->∃B,(B=e\/∃x∈zs,B=T x)/\Yz get t body n i e S=if QLX.all p then .ok QMf S else r
 |0=>λi e h=>aB0 h QP7|n+1=>λi e h hi h0=>by
  rw[Yz,hs];cases q:zs[i]? with
  |none=>rw[Vhh QWb];exact⟨e,.inl rfl,rfl⟩|some x=>
   let hx:=V5 q;let lt:=QzG.1;dsimp;rw[h0 x hx];dsimp;rw[hb x hx,Xxb q,Vas];cases p x with
   |true=>let⟨B,h1,h2⟩:=Xxc zs T p hr aa L hs hT hb n QC2 QTI Q0 Q0 λy hy=>hT y hy x hx;calc⟨B,.inr (h1.elim (λz=>⟨x,hx,z⟩) id),?_⟩;rw[Vb5];exact h2|false=>
    calc⟨e,.inl rfl,?_⟩;simp[Vcd,Vr,if_false];cases r with
    |ok y S'=>
     cases y with
     |nx B=>calc aB0 rfl (hr B S')|cnt B=>calc aB0 rfl (aa B S')|brk B=>calc aB0 rfl (L B S')|rt d=>rfl
    |ex=>rfl|bad=>rfl
def Xxd{i:Nat}{it:It}{b ss:Sts}{v:D}(zs:LD)(p:D->Bool)(hi:evit F G it env S=.ok QWB S)(L:∀x∈zs,pe F G b Ql4 S=if p x then .ok QkL S else .ok QSB S):
  ∃B,(B=env\/∃x∈zs,B=env.set i QDD)/\pe F G (.cons QNH ss) env S=if zs.all p then pe F G ss B S else .ok QSB S:=by
 let⟨B,h1,h2⟩:=Xxc (t:=.var i) (get:=Q29.get) (body:=λenv S=>pe F G b env S) zs (λx=>env.set i QDD) p (r:=.ok QSB S) QqB QqB QqB QQ2 QY5 L (Q29.most S+1) 0 env QU6 QL8 λ_ _=>rfl;calc⟨B,h1,?_⟩;rw[Vgw]at h2;show(match exe F G QNH env S with|.ok QR7 S'=>pe F G ss e S'|r=>r)=_;rw[show exe F G QNH env S=_ from ond hi h2];cases zs.all p<;>rfl
universe e
abbrev Xfn:Df:=Qa4
abbrev Xbk(B:Nat):Df:=⟨3,3,(.cons (.ret (.and QCF (.chn .le .le Q5 Q3 QA))) .nil),yx⟩
abbrev Xbq:Df:=⟨1,1,(.cons (.ret (.blt .all (.cons (.frz (.cmr yw 3 (.cons (.tup [2,3]) (.zpp Qg8) .nil .nil) (.cmp .lt QA QF))) .nil))) .nil),yx⟩
abbrev Xir(aa ab L B:Nat):Df:=⟨1,1,(.cons (.ite (.or Qb0 (.not (.chn .le .le Q4 Qf (.glb B)))) Q8 .nil) (.cons (.ite (.not (.blt .all (.cons (.frz (.cmr yw 2 Q84 QuL)) .nil))) Q8 .nil) (.cons (.ret (.and QFK (.not QGK))) .nil))),yx⟩
abbrev Xcs(L B:Nat):Df:=⟨2,2,(.cons (.expr QCF) (.cons (.ret QnD) .nil)),yx⟩
abbrev Xes(aa L B ab:Nat):Df:=⟨2,2,(.cons (.expr QFK) (.cons (.ite (.not (.call L (.cons Q5 Q2E))) (.cons (.rse 8 (.cst (.str "a size from 0 to 6 is due"))) .nil) .nil) (.cons (.ret (.cmr yw 2 (.cons QF (.val QGK) (.cons Qq7 .nil) .nil) QF)) .nil))),yx⟩
abbrev Xcp(B:Nat):Df:=⟨1,1,(.cons (.ite (.not QCF) (.cons (.rse 1 (.cst (.str "a net is due"))) .nil) .nil) .nil),yx⟩
abbrev Xcy(ab aa B L:Nat):Df:=⟨1,1,(.cons (.ite (.or Qb0 (.cmp .gt Qf Qfd)) Q8 .nil) (.cons (.ret (.and (.blt .all (.cons (.frz (.cmr yw 2 Q84 (.call aa (.cons QA Q2E)))) .nil)) QFK)) .nil)),yx⟩
abbrev Xec(B:Nat):Df:=⟨1,1,(.cons (.ret (.blt .anb (.cons (.frz (.cmr yw 2 Q84 (.call B (.cons QA Qg)))) .nil))) .nil),yx⟩
abbrev Xbl(B:Nat):Df:=⟨2,2,(.cons (.ret (.blt .anb (.cons (.frz (.cmr yw 2 (.cons QF (.val Q5) .nil .nil) (.and (.call B (.cons Q3 Qr)) (.cmp .ne Q3 QF)))) .nil))) .nil),yx⟩
abbrev Xgm:Df:=⟨2,3,(.cons (.for QA Q97 (.cons QvC .nil)) QX6),yx⟩
abbrev Xfo(L B:Nat):Df:=⟨2,2,(.cons (.ret (.and (.call B Qo) (.blt .anb (.cons (.frz (.cmr yw 2 QEJ QdV)) .nil)))) .nil),yx⟩
abbrev Xed(B:Nat):Df:=⟨1,4,(.cons (.asg Q5 .st0) (.cons (.for QA Q97 (.cons (.for QF (.val Q0X) QsQ) .nil)) (.cons Q4K .nil))),yx⟩
abbrev Xfp:Df:=⟨1,3,(.cons (.asg Q5 QoF) (.cons (.for QA Q97 (.cons Qq2 .nil)) (.cons Qpb .nil))),yx⟩
abbrev Xcz:Df:=⟨2,2,(.cons (.ite QqF (.cons (.ret (.idx Q3 Q5)) .nil) .nil) (.cons (.ret QK) .nil)),yx⟩
abbrev t_law_pot:Df:=⟨1,4,(.cons (.ite QxP (.cons (.ret (.lst (.cons (.bin .sub Q3 Qx1) .nil))) .nil) .nil) (.cons (.asg Q5 QK) (.cons (.for QA (.rng QpF) (.cons Qq QOG)) (.cons QkQ .nil)))),yw⟩
abbrev t_law_take:Df:=⟨2,3,(.cons (.asg QA (.bin .mod (.idx Q3 QK) Q5)) (.cons Q3Q (.cons (.ret QA) .nil))),yx⟩
abbrev Xbr:Df:=Qa4
abbrev Xaa(B L:Nat):Df:=⟨2,2,(.cons (.ite QCJ (.cons QdO (.cons (.ret (.and QeE (.blt .all (.cons (.frz (.cmr yw 3 (.cons (.tup [3,4]) (.zpp QI4) .nil .nil) (.call L QhT))) .nil)))) .nil)) .nil) (.cons (.ite (.or (.cmp .is Q5 (.cst .non)) (.or (.isi Q5 [.bool]) (.isi Q5 [.str]))) (.cons (.ret QX5) .nil) .nil) (.cons (.ret (.and QCF (.cmp .eq Q3 Q5))) .nil))),yx⟩
abbrev Xfq:Df:=⟨2,2,(.cons (.ret (.cmp .eq (.frz (.cmr yw 2 (.cons QF Q97 (.cons QkN .nil) .nil) QF)) QxZ)) .nil),yx⟩
abbrev Xci(B:Nat):Df:=⟨1,3,(.cons QIK (.cons (.for QA (.val QoQ) (.cons (.ite (.cmp .eq (.frz (.cmr yw 2 (.cons Qa Q97 (.cons (.and QuQ (.call B QiT)) .nil) .nil) Qa)) QxZ) QuA .nil) .nil)) (.cons QPA .nil))),yx⟩
abbrev Xdz(L B:Nat):Df:=⟨1,8,(.cons (.asg Q5 QQ3) (.cons (.asg QA (.bin .add (.cst QUV) (.call B (.cons Q3 (.cons (.idx Q0a QQ3) .nil))))) (.cons (.asg QF (.bin .add Q4 (.call B (.cons Q3 (.cons (.idx QzZ QQ3) .nil))))) (.cons (.asg Qa Qt5) (.cons (.for QE4 (.rng (.cons (.bin .add Q4 (.call B (.cons Q3 (.cons (.idx QpP (.call B QjT)) .nil)))) .nil)) (.cons QHK (.cons (.asg Qj5 (.blt .min (.cons QA (.cons (.idx (.frz (.lst (.cons (.call B QS1) QDK))) Q5) .nil)))) (.cons (.expr (.mth .append Qa (.cons (.blt .tuple (.cons (.frz (.blt .sorted (.cons (.frz (.cmr yw 2 QKC (.mth .popi QH1 (.cons (.call B Qy7) .nil)))) .nil))) .nil)) .nil))) .nil)))) (.cons (.ret (.call L QeK)) .nil)))))),yx⟩
abbrev Xbs(B:Nat):Df:=⟨1,1,(.cons (.ite (.or Qb0 (.or (.cmp .gt Qf QvP) (.not (.blt .all (.cons (.frz (.cmr yw 2 Q84 Q0X)) .nil))))) Q8 .nil) (.cons (.ret (.cmp .eq (.frz (.cmr yw 2 (.cons QA Qob (.cons QhO .nil) .nil) QA)) (.frz (.blt .list Qg)))) .nil)),yx⟩
abbrev Xdo(L B:Nat):Df:=⟨1,2,(.cons (.ite (.or Qb0 (.or (.not Q5C) (.not (.blt .all (.cons (.frz (.cmr yw 2 QEJ QzW)) .nil))))) Q8 .nil) (.cons (.ite Qh8 Q8 .nil) (.cons (.for Q5 Q97 (.cons (.ite (.cmp .ne (.blt .len (.cons (.frz (.cmr yw 2 (.cons QF Q97 (.cons QdV .nil) .nil) QF)) .nil)) Q4) Q8 .nil) .nil)) QX6))),yx⟩
abbrev Xee:Df:=⟨1,3,(.cons QIK (.cons (.for QA (.rng QqQ) (.cons Qo0 .nil)) (.cons QlQ .nil))),yx⟩
abbrev Xef(B:Nat):Df:=⟨1,3,(.cons QIK (.cons (.for QA Q97 (.cons Q49 .nil)) (.cons Q8F .nil))),yx⟩
abbrev Xgn(B:Nat):Df:=⟨1,2,(.cons (.asg Q5 Ql) (.cons (.ret (.idx Q5 (.call B (.cons Q3 Qx)))) .nil)),yx⟩
abbrev Xb9(L B:Nat):Df:=⟨2,6,(.cons (.par [4,5] (.cons QfV (.cons (.call B QdA) .nil))) (.cons (.asg QA (.idx Qzb QfV)) (.cons (.ite (.cmp .lt Qa Qf0) (.cons (.ret (.bin .add (.bin .add QGH Qmb) (.sli Q5 (.some QZ9) .none))) .nil) .nil) (.cons (.asg QF (.frz (.lst (.cons QW6 (.cons QXS (.cons (.bin .add Q5 Q5) (.cons Qnb (.cons (.call L Qg) (.cons (.bin .add (.bin .add QGH QoH) (.sli Q5 (.some QE4) .none)) .nil))))))))) (.cons (.ret (.idx QF (.bin .sub Qa Qf0))) .nil))))),yx⟩
abbrev Xcj(aa B L:Nat):Df:=⟨2,7,(.cons (.par [5,6] (.cons (.call L Q2B) (.cons (.call L QPH) .nil))) (.cons QkV (.cons QpD (.cons (.ite (.cmp .lt QE4 Qf0) (.cons (.ret (.bin .add (.bin .add Q45 (.tup Qr)) QI2)) .nil) .nil) (.cons (.asg Qa (.frz (.lst (.cons (.bin .add Q45 QI2) (.cons QXS (.cons (.bin .add Q5 QoH) (.cons QW6 (.cons Qnb (.cons (.blt .tuple (.cons (.frz (.blt .sorted (.cons (.bin .add Q5 (.tup (.cons (.sli QA (.some Q4) .none) .nil))) .nil))) .nil)) .nil))))))))) (.cons (.asg Qa (.frz (.bin .add Qa (.frz (.lst (.cons (.blt .tuple (.cons (.frz (.blt .sorted (.cons (.bin .add Q5 (.tup (.cons (.bin .add QA (.tup (.cons (.cst QmL) .nil))) .nil))) .nil))) .nil)) (.cons QGK (.cons (.bin .add (.bin .add Q45 (.tup (.cons QA Qp))) QI2) .nil)))))))) (.cons (.ret (.idx Qa (.bin .sub QE4 Qf0))) .nil))))))),yx⟩
abbrev t_law_kind_of:Df:=⟨1,3,(.cons (.asg Q5 (.lst (.cons (.isi Q3 [.cls 1]) (.cons (.isi Q3 [.cls 2]) (.cons (.isi Q3 [.cls 3]) (.cons (.isi Q3 [.cls 4]) .nil)))))) (.cons (.asg Q5 (.bin .add Q5 (.frz (.lst (.cons (.isi Q3 [.cls 5]) (.cons (.isi Q3 [.cls 6]) (.cons (.isi Q3 [.cls 7]) (.cons (.isi Q3 [.cls 8]) .nil)))))))) (.cons (.asg Q5 (.bin .add Q5 (.frz (.lst (.cons (.isi Q3 [.cls 9]) (.cons (.isi Q3 [.cls 10]) (.cons (.isi Q3 [.cls 11]) (.cons (.isi Q3 [.cls 12]) .nil)))))))) (.cons (.asg Q5 (.bin .add Q5 (.frz (.lst (.cons (.isi Q3 [.cls 13]) (.cons (.isi Q3 [.cls 14]) (.cons (.isi Q3 [.cls 15]) (.cons (.isi Q3 [.cls 16]) .nil)))))))) (.cons (.ite QH4 (.cons (.ret (.cst (.str "other"))) .nil) .nil) (.cons (.asg QA Qe) (.cons (.ret (.idx QeI Q1E)) .nil))))))),yx⟩
mutual
abbrev pd:D->Bool
 |.ref _=>yw|.fn _ _=>yw|.tup xs=>pds xs|.fro xs=>pds xs|_=>yx
abbrev pds:LD->Bool
 |[]=>yx|x::xs=>pd x&&pds xs
end
mutual
def Xav(k:Nat):∀ {d:D},pd d=yx->bdD k d=yx
 |.ref _=>λh=>by cases h|.fn _ _=>λ_=>rfl|.tup xs=>λh=>pds_bd k (xs:=xs) h|.fro xs=>λh=>pds_bd k (xs:=xs) h|.non=>λ_=>rfl|.bl _=>λ_=>rfl|.int _=>λ_=>rfl|.str _=>λ_=>rfl|.edc=>λ_=>rfl
def pds_bd(k:Nat):∀ {xs:LD},pds xs=yx->bdDs k xs=yx
 |[]=>λ_=>rfl|x::xs=>λh=>by rw[pds,bA0]at h;rw[bdDs,Xav k h.1,pds_bd k h.2];rfl
end
def pds_iff:∀ {xs:LD},pds xs=yx ↔ ∀x∈xs,pd x=yx
 |[]=>by simp![pds]|x::xs=>by rw[pds,bA0,pds_iff,Vcr]
def Xk5{α:Type}{f:α->D}{xs:List α}(h:∀x,pd QSD=yx):pds Qe9=true:=pds_iff.mpr λy B=>by let⟨x,_,rfl⟩:=Vs.mp B;calc h x
abbrev Xa(l:LI):D:=.tup QZ
abbrev Xc(n:LL):D:=.tup Qv
abbrev rwF(n:LL):D:=.fro Qv
def Xo4(l:LI):pd Qx5=true:=Xk5 λ_=>rfl
def Xet(n:LL):pd Qc1=true:=Xk5 Xo4
def Yam(n:LL):pd QNR=true:=Xk5 Xo4
def Yo(k:Nat)(l:LI):bdD k Qx5=true:=Xav k (Xo4 l)
def Xxe(k:Nat)(n:LL):bdD k Qc1=true:=Xav k Qoe
def Xjq(k:Nat)(n:LL):bdD k QNR=true:=Xav k (Yam n)
def Xfr:∀n:LL,Y6 Qv=yz n
 |[]=>rfl|x::n=>by rw[Uk,Xa,Y6,Xa8,Xfr n];rfl
def Xk6{n:LL}(h:n≠[]):Xf Qv=none:=by
 cases n with
 |nil=>cases h rfl|cons x n=>rfl
abbrev Xj:D->LI
 |.tup xs=>(Xf xs).getD []|_=>[]
def ints_of(l:LI):Xj Qx5=l:=by unfold Xj Xa;dsimp;rw[Xa8];rfl
def Xk7{α:Type}[DecidableEq α]{f:α->Vcc}(h:∀x y,Vdg QSD QPe=decide Qvd):∀xs ys:List α,Vf8 Qe9 Q6P=decide (xs=ys)
 |[],[]=>by simp![Vf8]|[],_::_=>by simp![Vf8]|_::_,[]=>by simp![Vf8]|x::xs,y::ys=>by rw[Uk,Uk,Vf8,h,Xk7 h xs ys,Vcj];simp!
def Xeu{α:Type}{f:α->Vcc}(h:∀x,QSD.canLay0=yx):∀xs:List α,Vfj Qe9=yx
 |[]=>rfl|x::xs=>by rw[Uk,Vfj,h,Xeu h xs];rfl
def Xk8{α:Type}{f:α->Vcc}{k:Nat}(h:∀x,QSD.depth<=k):∀xs:List α,Vfe Qe9<=k
 |[]=>by rw[Vgj,Vfe];calc Van _|x::xs=>by rw[Uk,Vfe];calc Nat.max_le.mpr ⟨h x,Xk8 h xs⟩
def Xev{α:Type}{f:α->D}{g:α->Vcc}{B:Nat->Option Vcc}(h:∀x,Yc B QSD=yz QYU):∀xs:List α,datFs B Qe9=yz (xs.map g)
 |[]=>rfl|x::xs=>by rw[Uk,datFs,h,Xev h xs];rfl
structure Enc(α:Type)[DecidableEq α](f:α->D)(g:α->Vcc)(k:Nat):Prop where
 dat:∀look x,Yc look QSD=yz QYU
 lay:∀x,QYU.canLay0=yx
 dep:∀x,QYU.depth<=k
 eqv:∀x y,Vdg QYU (g y)=decide Qvd
def enc_int:Enc Int D.int PyData.int 0:=⟨λ_ _=>rfl,λ_=>rfl,λ_=>by simp![Vft],λx y=>by rw[Vdg];calc Vcj.mpr QB⟩
def Enc.tup{α:Type}[DecidableEq α]{f:α->D}{g:α->Vcc}{k:Nat}(h:Enc α f g k):Enc Qdb (λl=>.tup QhG) (λl=>.tuple QXR) QG5 where
 dat look l:=by simp[Yc,Xev QMW,U5]
 lay l:=by rw[PyData.canLay0];exact Xeu h.lay l
 dep l:=by rw[Vft];exact Vho QtU
 eqv l m:=by rw[Vdg];calc Xk7 h.eqv l m
def Enc.fro{α:Type}[DecidableEq α]{f:α->D}{g:α->Vcc}{k:Nat}(h:Enc α f g k):Enc Qdb (λl=>.fro QhG) (λl=>.list QXR) QG5 where
 dat look l:=by simp[Yc,Xev QMW,U5]
 lay l:=by rw[PyData.canLay0];exact Xeu h.lay l
 dep l:=by rw[Vft];exact Vho QtU
 eqv l m:=by rw[Vdg];calc Xk7 h.eqv l m
def enc_row:Enc (LI) Xa (λl=>.tuple QGW) 1:=enc_int.tup
def enc_rwF:Enc (LL) rwF (λn=>.list (n.map λl=>.tuple QGW)) 2:=enc_row.fro
section
variable{α:Type}[DecidableEq α]{f:α->D}{g:α->Vcc}{k:Nat}
def Enc.eq(h:Enc α f g k)(B:k<=60)(hs:∀x y,Xd4 QSD QPe=yy)(x y:α)(S:Sto):eqD S QSD QPe=yz (decide Qvd):=by unfold eqD;rw[hs];simp[Yp,h.dat,h.lay,Vdo,Vb5,decide_eq_true QgF,if_true,h.eqv]
def Xsf(h:Enc α f g k)(x:α)(ys:List α)[Decidable Q3G]:((ys.map g).any λq=>Vdg q QYU)=decide Q3G:=by
 rw[Vcj,List.any_map,Vca,decide_eq_true_eq];constructor;·rintro ⟨y,hy,e⟩;let B:=(h.eqv y x).symm.trans e;exact oD0 B▸hy
 ·calc λL=>⟨x,L,(h.eqv x x).trans (decide_eq_true rfl)⟩
def Enc.inT(h:Enc α f g k)(B:k<=60)(x:α)(ys:List α)[Decidable Q3G](S:Sto):inD S QSD (.tup Q6P)=yz (decide Q3G):=by simp[inD,Yp,h.dat,Yc,Xev QjX,U5,h.lay,Xeu h.lay,Vdo,Vb5,decide_eq_true QgF,if_true,Xsf h]
def Enc.inF(h:Enc α f g k)(B:k<=60)(x:α)(ys:List α)[Decidable Q3G](S:Sto):inD S QSD (.fro Q6P)=yz (decide Q3G):=by simp[inD,Yp,h.dat,Yc,Xev QjX,U5,h.lay,Xeu h.lay,Vdo,Vb5,decide_eq_true QgF,if_true,Xsf h]
universe e
def Xab{o:Co}{x y:D}{S:Sto}{b:Bool}(h:Xar o x y S=yz b):Xk o x y S=.ok QT7 S:=by unfold Xk;rw[h]
def Xdu{x y:D}{S:Sto}{b:Bool}(h:eqD S x y=yz b):Xk .ne x y S=.ok Q7a S:=Xab QLP
def Xo5{x y:D}{S:Sto}{b:Bool}(h:inD S x y=yz b):Xk .notin x y S=.ok Q7a S:=Xab QLP
def Xxf(a b:LI)(S:Sto):eqD S QuR QaW=yz (decide QmU):=enc_row.eq Q1 QU3 a b S
def Xxg(a b:LL)(S:Sto):eqD S (rwF a) (rwF b)=yz (decide QmU):=enc_rwF.eq Q1 QU3 a b S
def Xdp(a b:Int)(S:Sto):eqD S Qp7 (.int b)=yz (decide QmU):=enc_int.eq Q1 QU3 a b S
def X45(a b:LI)(S:Sto):eqD S (.fro QkJ) (.fro (b.map D.int))=yz (decide QmU):=enc_int.fro.eq Q1 QU3 a b S
def Xo6(x:Int)(l:LI)(S:Sto):inD S QRV Qx5=yz (decide Qud):=enc_int.inT Q1 x l S
def Yan(a:LI)(n:LL)(S:Sto):inD S QuR QNR=yz (decide (a∈n)):=enc_row.inF Q1 a n S
def Xxh(xs:LD)(S:Sto):eqD S Qr9 QoL=yz xs.isEmpty:=by
 cases xs with
 |nil=>exact Xxg [] [] S|cons x xs=>
  let hl:Xib S Q2a QoL=yz false:=rfl;unfold eqD;rw[show Xd4 Q2a QoL=yy from rfl];dsimp;split
  ·rename_i p q e1 e2;split
   ·let:q=.list []:=by
     let:Yp S QoL=yz (.list []):=rfl;rw[this]at e2;cases e2;rfl
    subst this;cases e:datFs QPL Q4A with
    |none=>simp[Yp,Yc,e,Option.map_none]at e1;cases e1|some ps=>
     simp[Yp,Yc,e,U5]at e1;cases e1;cases ps with
     |nil=>simp[datFs]at e;split at e<;>cases e|cons q ps=>rw[Vdg,Vf8];rfl
   exact hl
  calc hl
abbrev wh:D->Bool
 |.int _=>yx|_=>yw
abbrev wi(d:D)(B hi:Int):Bool:=match d with
 |.int i=>decide Q2g&&decide (i<=hi)|_=>yw
section
variable{F:Fn}{G:LD}
def Xmd{d:D}(h:pd d=yx)(S:Sto):den F G Xfn [d] S=.ok QDF S:=by
 calc Xx rfl ?_ rfl;cases d with
 |ref _=>cases h|fn _ _=>cases h|_=>rfl
def Xt8{i:Nat}{d:D}{B hi:Int}{S:Sto}(h:F i [d] S=.ok QDF S):den F G (Xbk i) QGQ S=.ok Q0Q S:=by
 let:=Xb7 (F:=F) (G:=G) (env:=[yz d,yz Qdd,yz (.int hi)]) (b:=.chn .le .le Q5 Q3 QA) (y:=wi d B hi) QBV λL=>by
  cases d with
  |int i=>show(match Xar .le Qdd QF0 S with|some yx=>_|some yw=>_|none=>_:R D)=_;simp[Xar,wi];cases decide Q2g<;>rfl|_=>cases L
 calc Xx rfl (Xw (this.trans ?_)) rfl;cases d<;>rfl
universe e
abbrev chn{α:Type}(r:α->α->Bool):List α->Bool
 |a::b::l=>r a b&&chn r QTW|_=>yx
def Xk9{α β:Type}{r:β->β->Bool}(f:α->β):∀l:List α,chn r QhG=chn (λa b=>r (f a) (f b)) l
 |[]=>rfl|[_]=>rfl|a::b::l=>by let:=Xk9 (r:=r) f QTW;rw[Uk]at this;rw[Uk,Uk,chn,this,chn]
def Xsg{α:Type}{r:α->α->Bool}:∀l:List α,((l.zip (l.drop 1)).all λp=>r p.1 p.2)=chn r l
 |[]=>rfl|[_]=>rfl|a::b::l=>by let:=Xsg (r:=r) QTW;rw[chn,<-this];rfl
abbrev riz:LI->Bool:=chn λa b=>decide QUe
abbrev rzL:LL->Bool:=chn ltL
def Xo7{α:Type}(xs:List α)(n:Nat):cut xs QoE yy=xs.drop n:=by
 unfold cut;let h1:Xdf QU 0 QoE=min n QU:=by simp![Xdf]
 rw[h1];simp[Xdf];by_cases c:n<=lg xs;·rw[Vc0 c];exact Vbk QB
 ·rw[Nat.min_eq_right Q0,List.drop_length,Vhh Q0];simp!
abbrev prZ(p:D×D):D:=.tup Qld
def Xsh(xs ys:LD)(S:Sto)(i:Nat):(Src.zpp QV8 (.con ys)).get S i=yz QCV[i]?:=by
 simp[Src.get];induction xs generalizing ys i with
 |nil=>cases ys[i]?<;>rfl|cons x xs ih=>
  cases ys with
  |nil=>cases Q4A[i]?<;>rfl|cons y ys=>
   cases i with
   |zero=>rfl|succ i=>calc ih ys i
section
variable{F:Fn}{G:LD}
def Xjr(xs:LD)(lt:D->D->Bool)(h:∀x∈xs,∀y∈xs,ltD x y=yz (lt x y))(hl:QU<=big)(S:Sto):den F G Xbq QzT S=.ok (.bl (chn lt xs)) S:=by
 calc Xx rfl QYe rfl;let aa:=Ye (F:=F) (G:=G) (env:=Q7C) (S:=S) (Xjp (n:=3) (t:=.tup [2,3]) (it:=.zpp Qg8) (ifs:=.nil) (elt:=.cmp .lt QA QF) (src:=.zpp QV8 (.con QPX)) ((xs.zip QPX).map prZ)
  (λd=>match d with|.tup Q0I=>[yz QA1,yy,yz a,yz b]|_=>[]) QCD (λd=>match d with|.tup Q0I=>.bl QTc|_=>.non)
  (by rw[<-Xo7 xs 1];rfl) (Xsh xs _ S) (by rw[Vf,Vic];calc Vi _) QIN
  (λx B=>by let⟨p,_,rfl⟩:=Vs.mp B;rfl) (λx B y L=>by let⟨p,_,rfl⟩:=Vs.mp B;let⟨q,_,rfl⟩:=Vs.mp L;rfl)
  QU3 (λx B _=>by
   let⟨p,hp,rfl⟩:=Vs.mp B;let:=Vh1 (show(p.1,p.2)∈_ from hp);calc Xab (h p.1 this.1 p.2 (Vem this.2)))) (Xdm λy L=>by
   let⟨x,B,rfl⟩:=Vs.mp L;let⟨p,_,rfl⟩:=Vs.mp QbZ.1;rfl)
 calc(Yw aa).trans ?_;rw[List.filter_eq_self.mpr λ_ _=>rfl,Vbq];let e:(λd:D=>match d with|.tup Q0I=>D.bl QTc|_=>.non)∘prZ=λp=>.bl (lt p.1 p.2):=rfl;rw[e];simp[X6,Xi,Vab,Xho,Vfs,<-Xsg];rfl
def Xxi(l:LI)(hl:QX7<=big)(S:Sto):den F G Xbq Q2I S=.ok QhV S:=by let:=Xjr (F:=F) (G:=G) QZ (λa b=>match a,b with | .int i,.int j=>decide (i<j)|_,_=>yw) (λx L y B=>by let⟨i,_,rfl⟩:=Vs.mp L;let⟨j,_,rfl⟩:=Vs.mp B;rfl) Qp8 S;rw[Xk9]at this;calc this
def Xxj(n:LL)(hl:Q68<=big)(S:Sto):den F G Xbq Q0A S=.ok QgV S:=by let:=Xjr (F:=F) (G:=G) Qv (λa b=>ltL (Xj a) (Xj b)) (λx L y B=>by let⟨i,_,rfl⟩:=Vs.mp L;let⟨j,_,rfl⟩:=Vs.mp B;rw[ints_of,ints_of];simp[Xa,ltD,Xa8]) Qp8 S;rw[Xk9]at this;simp[ints_of]at this;calc this
abbrev Yk(d:D):Bool:=match d with
 |.tup xs=>decide QCZ&&(QXJ&&riz Qlc)|_=>yw
def Xla:∀ {xs:LD} {B hi:Int},(xs.all λx=>wi x B hi)=yx->∃l:LI,xs=l.map D.int/\∀x∈l,B<=x/\x<=hi
 |[],_,_,_=>⟨[],rfl,λx hx=>by cases hx⟩|x::xs,B,hi,h=>by
  rw[Vas,bA0]at h;let⟨l,rfl,hl⟩:=Xla h.2;cases x with
  |int i=>let:=h.1;simp[wi,bA0,decide_eq_true_eq]at this;calc⟨i::l,rfl,λy L=>QKb.elim (λz=>z▸this) (hl y)⟩|_=>cases h.1
def Xm0{xs:LD}{x:D}(h:pd QA1=yx)(B:x∈xs):pd x=true:=pds_iff.mp h x B
def Xqa{ir iw g1 g2:Nat}{d:D}(h1:G[g1]?=yz QmL)(h2:G[g2]?=yz QRA)(hw:∀d,pd d=yx->∀S,F iw [d,.int 0,.int 15] S=.ok (.bl (wi d 0 15)) S)(L:∀l S,lg l<=big->F ir Q2I S=.ok QhV S)(hd:pd d=yx)(S:Sto):
  den F G (Xcy ir iw g1 g2) [d] S=.ok QC7 S:=by
 cases d with
 |ref _=>cases hd|fn _ _=>cases hd|tup xs=>
  let c:ev F G (.or Qb0 (.cmp .gt Qf Qxb)) Q7C S=.ok (.bl (!decide QCZ)) S:=by calc(Xa4 (x:=yw) (y:=decide ((6:Int)<lg xs)) rfl λ_=>Ym (S1:=S) (S2:=S) (y:=.int 6) (x:=.int QU) rfl (Xfm h2)).trans ?_;congr 2;rw[Bool.false_or,<-decide_not,decide_eq_decide];omega
  calc Xx rfl Qa3 rfl;by_cases B:QU<=6
  ·rw[decide_eq_true B]
   calc Xw ?_;let a:=Xb7 (F:=F) (G:=G) (env:=Q7C) (b:=.call ir Qg) (y:=riz Qlc) (Xmz (n:=2) (i:=2) (it:=.val Q3) (elt:=.call iw Qx9) xs (λx=>wi x 0 15) (S:=S) rfl QsG λx hx=>by
    let:ev F G (.call iw Qx9) [yz QA1,yy,yz x] S=F iw [x,.int 0,.int 15] S:=ond (Xb Q1d (Xb rfl (Xb (Xfm h1) Xz))) rfl;calc this.trans (hw x QuG S)) λha=>by
    let⟨l,rfl,_⟩:=Xla ha;exact Qn0.trans ((L l S (by rw[<-Vf (f:=D.int)];calc Xs Q0)).trans (by rw[show Xj QEH=l from ints_of l]))
   calc a.trans ?_;simp[Yk,decide_eq_true B,Vb5]
  rw[decide_eq_false B];simp[Yk,decide_eq_false B,Vcd];rfl|_=>calc Xx rfl rfl rfl
abbrev lie(a b:LI):Bool:=a.all λx=>decide Q8B
def X0q(a b:LI)(S:Sto):den F G Xgm Qv6 S=.ok Q65 S:=by
 let⟨B,_,h⟩:=Xxd (F:=F) (G:=G) (env:=[yz QuR,yz QaW,yy]) (S:=S) (i:=2) (it:=.val Q3) (ss:=.cons QYS .nil) (v:=.bl yw) (b:=.cons QvC .nil) QkJ (λd=>match d with|.int x=>decide Q8B|_=>yw) rfl λd hd=>by
  let⟨x,_,rfl⟩:=Vs.mp hd;calc(Yl (v:=.bl yw) (S1:=S) (t:=!decide Q8B) (by calc Xo5 QyX) rfl).trans ?_;show(if QpV=yx then _ else _)=if decide Q8B=yx then _ else _;by_cases h:x∈b;·rw[decide_eq_true h];rfl
  ·rw[decide_eq_false h];rfl
 calc Xx rfl (h.trans ?_) rfl;rw[Vfs];unfold lie;show(if (a.all λx=>decide Q8B)=yx then _ else _)=_;cases a.all λx=>decide Q8B<;>rfl
abbrev liA(n:LL)(f:LI):Bool:=n.any λs=>lie f s && !decide (f=s)
theorem Xgo(d:D)(n:LL):Prop:=d=Xc n\/d=rwF n
def Xew{d:D}{n:LL}{e:Ex}{env:En}{S:Sto}(h:Xgo d n)(B:ev F G e env S=.ok d S):evit F G QSd env S=.ok (.con Qv) S:=by calc ond B ?_;rcases h with rfl|rfl<;>rfl
def Xis(n:LL)(q:LI->Bool):Qv.any Q3W=n.any q:=by rw[List.any_map];congr 1;funext s;calc congrArg q QiX
def X0r(n:LL)(q:LI->Bool):Qv.all Q3W=n.all q:=by rw[Vfs];congr 1;funext s;calc congrArg q QiX
def X46{il:Nat}{f:LI}{n:LL}{d:D}{S:Sto}(hd:Xgo d n)(hl:∀a b S,F il Qv6 S=.ok Q65 S)(B:Q68<=big):den F G Qyc QQf S=.ok QRH S:=by
 calc Xx rfl (Xw ((Xt7 (n:=2) (i:=3) (it:=.val Q5) Qv (λs=>lie f Q8b && !decide (f=Xj s)) QYW QRE λs hs=>?_).trans ?_)) rfl;·let⟨r,_,rfl⟩:=Vs.mp hs;rw[ints_of];exact Xb7 (hl f r S) λ_=>Xdu (Xxf f r S)
 ·rw[Xis n λs=>lie f s && !decide (f=s)];rfl
abbrev Xgp(n:LL):Bool:=n.any (liA n)
def Xt9{il:Nat}{n:LL}{S:Sto}(hl:∀f S,F il [Xa f,Xc n] S=.ok QRH S)(B:Q68<=big):den F G (Xec il) Q0A S=.ok QiV S:=by
 calc Xx rfl (Xw ((Xt7 (n:=2) (i:=2) (it:=.val Q3) Qv (λs=>liA n Q8b) rfl QRE λs hs=>?_).trans ?_)) rfl;·let⟨r,_,rfl⟩:=Vs.mp hs;rw[ints_of];exact hl r S
 ·rw[Xis];rfl
abbrev Yb(d:D):Bool:=match d with
 |.tup xs=>(decide QdE&&decide QSC)&&(xs.all Yk&&(rzL Q3A && !Xgp Q3A))|_=>yw
def Xex{d:D}(h:Yk d=yx):∃l,d=Xa l/\QX7<=6/\(∀x∈l,0<=x/\x<=15)/\riz l=true:=by
 cases d with
 |tup xs=>simp[Yk,bA0,decide_eq_true_eq]at h;let⟨l,rfl,hl⟩:=Xla h.2.1;calc⟨l,rfl,by simpa using h.1,hl,?_⟩;let:=h.2.2;rwa [show Xj QEH=l from ints_of l]at this|_=>cases h
def Xit:∀ {xs:LD},xs.all Yk=yx->xs=Q3A.map Xa
 |[],_=>rfl|x::xs,h=>by rw[Vas,bA0]at h;let⟨l,rfl,_⟩:=Xex h.1;rw[Uk,Uk,<-Xit h.2,ints_of]
def X15{a b c:Ex}{env:En}{S:Sto}{x y z:Int}(ha:ev F G a env S=.ok QRV S)(B:ev F G b env S=.ok QQV S)(L:ev F G c env S=.ok (.int z) S):ev F G (.chn .le .le a b c) env S=.ok (.bl (decide QHa&&decide (y<=z))) S:=by
 calc ond ha (ond B ?_);show(match yz (decide QHa) with|some yx=>_|some yw=>_|none=>_)=_;cases decide QHa;·rfl
 ·calc ond L rfl
def Xxk{ia ir is g:Nat}{d:D}(hg:G[g]?=yz QdS)(ha:∀d,pd d=yx->∀S,F ia [d] S=.ok QC7 S)(hr:∀n S,lg n<=big->F ir Q0A S=.ok QgV S)(hs:∀n S,lg n<=big->F is Q0A S=.ok QiV S)(hd:pd d=yx)(S:Sto):
  den F G (Xir is ir ia g) [d] S=.ok Q79 S:=by
 cases d with
 |ref _=>cases hd|fn _ _=>cases hd|tup xs=>
  let c:ev F G (.or Qb0 (.not (.chn .le .le Q4 Qf (.glb g)))) Q7C S=.ok (.bl (!(decide QdE&&decide QSC))) S:=by calc(Xa4 (x:=yw) rfl λ_=>Y3 (X15 rfl (show ev F G Qf Q7C S=.ok Qq9 S from rfl) (z:=60) (Xfm hg))).trans ?_;rw[Bool.false_or];congr 4<;>exact decide_eq_decide.mpr Q0
  calc Xx rfl Qa3 rfl;cases hz:(decide QdE&&decide QSC) with
  |false=>simp[Yb,hz,Vcd];rfl|true=>
   let hl:QU<=60:=by rw[bA0]at hz;exact oD0 hz.2
   calc(Yl (F:=F) (G:=G) (env:=Q7C) (S:=S) (Y3 (Xmz (n:=2) (i:=2) (it:=.val Q3) (elt:=.call ia Qp) xs Yk rfl QsG λx hx=>ha x QuG S)) rfl).trans ?_;cases e:xs.all Yk with
   |false=>simp[Yb,hz,e,Vcd];rfl|true=>
    let en:=Xit e;let B:Q3A.length<=big:=by rw[Vf];exact Xs Q0
    let L:D.tup xs=Xc Q3A:=congrArg D.tup en;simp[Yb,hz,e,Vb5];calc Xw (Xb7 (x:=rzL Q3A) QTT λ_=>Y3 QTT);·rw[L];exact hr _ S B
    ·rw[L];calc hs _ S B
 |_=>calc Xx rfl rfl rfl
def Xxl{is:Nat}{d:D}{S:Sto}(h:F is [d] S=.ok Q79 S):den F G Quc [d] S=if Yb d then .ok .non S else .ex QE QeD:=by
 let c:pe F G Quc.body Q0Z S=if !Yb d then .ex QE QeD else pe F G .nil Q0Z S:=Xt5 (Y3 QBV);cases e:Yb d with
 |true=>rw[e]at c;calc Yal (env0:=Q0Z) rfl c|false=>rw[e]at c;calc Xjo (env0:=Q0Z) rfl c
abbrev Xfs(n:LL)(d:D):Bool:=Yk d&&n.any λs=>lie QvG s
def Xqb{il ia:Nat}{n:LL}{d:D}{S:Sto}(hl:∀a b S,F il Qv6 S=.ok Q65 S)(B:F ia [d] S=.ok QC7 S)(L:Q68<=big):den F G Q4Y QoK S=.ok Q75 S:=by
 calc Xx rfl (Xw (Xb7 (x:=Yk d) (y:=n.any λs=>lie QvG s) (QMM.trans B) λhf=>?_)) rfl;let⟨l,rfl,_⟩:=Xex hf;calc(Xt7 (n:=2) (i:=3) (it:=.val Q3) Qv (λs=>lie l Q8b) rfl (by rw[Vf];calc L) λs hs=>?_).trans ?_;·let⟨r,_,rfl⟩:=Vs.mp hs;rw[ints_of];exact hl l r S
 ·rw[Xis n λs=>lie l s,ints_of]
def Xua{ih ic:Nat}{n:LL}{d:D}{S:Sto}(B:F ic Q0A S=.ok .non S)(L:F ih QoK S=.ok Q75 S):den F G Q6Y QoK S=.ok Q75 S:=
 Xx rfl (QCb.trans (Xw (QxB.trans L))) rfl
def Xqc{ih ic:Nat}{a d:D}{S:Sto}{k:Nat}(B:F ic [a] S=.ex QE Qy2):den F G Q6Y [a,d] S=.ex QE Qy2:=
 Xjo (env0:=QBa) rfl QqR
variable{S S1:Sto}{env:En}
def Yc5{t:Tg}{it:It}{b ss:Sts}{src:Src}{B:En}{S':Sto}(hi:evit F G it env S=.ok src S1)(h:Yz src.get t (λenv S=>pe F G b env S) Q58 0 env S1=.ok QMf S'):pe F G QFJ env S=pe F G ss B S':=Xep (ond hi h)
def Xac{t:Tg}{it:It}{b ss:Sts}(zs:LD)(P:Nat->En->Sto->Prop)(hi:evit F G it env S=.ok QWB S1)(L:P 0 env S1)
  (hb:∀i x e S,zs[i]?=yz x->P i e S->∃e1 e2 S',X0 t x e=yz e1/\pe F G b e1 S=.ok QZd S'/\P QC2 e2 S'):∃B S',pe F G QFJ env S=pe F G ss B S'/\P Q9A B S':=by
 let⟨B,S',h1,h2⟩:=Xse (get:=Q29.get) (t:=t) (body:=λenv S=>pe F G b env S) zs P QRF hb QLS 0 env S1 QU6 QL8 L;calc⟨B,S',Yc5 hi h1,h2⟩
def Xlb{d:Df}{ds:LD}{env0:En}{o:O}(L:ds.map yz++Vn QA8 yy=env0)(h:pe F G d.body env0 S=.ok QKV QcD)(hs:Sim S S1)(B:bdO QE o=yx)(hn:QP3=d.np:=by rfl)(hg:d.gc=true:=by rfl):den F G d ds S=.ok Q7 QcD:=by subst L;unfold den;rw[iP0 hn,h,hg];calc Yai hs B
universe e
def Xey{α:Type}{P:List α->Prop}(B:P [])(h1:∀l x,P l->P QVc)(l:List α):P l:=by
 rw[<-List.reverse_reverse l];induction l.reverse with
 |nil=>calc B|cons x r ih=>rw[List.reverse_cons];calc h1 _ _ ih
abbrev prt(l:LI):LL:=l.foldl (λps x=>ps++ps.map Qqd) [[]]
def Xiu(l:LI)(x:Int):prt QVc=prt l++Q1N.map Qqd:=by unfold prt;rw[Vdl];rfl
def Xlc(l:LI):Q1N.length=2^QX7:=by calc Xey (P:=λl=>Q1N.length=2^QX7) rfl (λl x ih=>?_) l;·rw[Xiu,Uc,Vf,ih,Uc,Vfn,Vgk];omega
def mem_prt{k l:LI}:k∈prt l ↔ k.Sublist l:=by
 calc Xey (P:=λl=>∀k:LI,k∈prt l ↔ k.Sublist l) (λk=>?_) (λl x ih k=>?_) l k;·rw[List.sublist_nil];exact V6
 ·rw[Xiu,Uo,Vs,ih];constructor
  ·rintro (h|⟨a,h,rfl⟩);·exact h.trans (List.sublist_append_left l [x])
   ·exact(Qfa.mp h).append (List.Sublist.refl _)
  intro h;let⟨a,b,rfl,B,L⟩:=List.sublist_append_iff.mp h;cases L with
  |cons _ h=>cases h;calc .inl (by rw[Vaw];calc B)|cons_cons _ h=>cases h;calc .inr ⟨a,(ih a).mpr B,rfl⟩
def Xa9{α:Type}{xs:List α}{i:Nat}{x:α}(h:xs[i]?=yz x):xs.take QC2=xs.take i++[x]:=by rw[List.take_add_one,h];rfl
def Xba{α:Type}(xs:List α):xs.take QU=xs:=Vfz
section
variable{F:Fn}{G:LD}
def X47(a b:LI)(h:QFW+lg b<=big)(S:Sto):Xn .add QuR QaW S=.ok (Xa Qva) S:=by unfold Xa;simp[Xn,Vf,iP0 h,Val]
def Xld(a b:LD)(h:QFW+lg b<=big)(S:Sto):Xn .add (.fro a) (.fro b) S=.ok Q7 (S++[.lst Qva]):=by simp[Xn,lsD,iP0 h]
def Xxm(l:LI)(hl:QX7<=6)(S:Sto):den F G Xfp Q2I S=.ok QNa S:=by
 let⟨e',S',h1,rfl,x,rfl⟩:=Xac (F:=F) (G:=G) (env:=[yz Qx5,yz (rwF [[]]),yy]) (S:=S) (S1:=S) (t:=.var 2) (it:=.val Q3) (ss:=.cons Qpb .nil)
  (b:=.cons Qq2 .nil)
  QZ (λi e S'=>S'=S/\∃x,e=[yz Qx5,yz QLa,x]) rfl Qe7 (λi d e S' hd he=>by
   let⟨rfl,x,rfl⟩:=he;rw[Ui]at hd;let⟨y,L,rfl⟩:=Uh.mp hd;let hi:=Q0H.1;let hz:Qh5.length<=64:=by rw[Xlc,Vag];exact Vep (n:=2) Q1 (show min i QX7<=6 by omega)
   let hm:∀k∈prt (l.take i),lg k<=6:=λk B=>V2 (mem_prt.mp B).length_le QSE;let c:=Xmy (F:=F) (G:=G) (env:=[yz Qx5,yz QLa,yz QQV]) (S:=S') (n:=2) (i:=4) (it:=.val Q5) (elt:=.bin .add Qa Qmb) QhW QtK rfl QHB (λd hd=>by let⟨k,B,rfl⟩:=Vs.mp hd;rw[ints_of];let:=hm k B;calc X47 k [y] (Xs (by rw[Vfn];omega)) S') (λd _=>Yo _ _);let e2:QhW.map QtK=(Qh5.map (·++[y])).map Xa:=by rw[Vbq,Vbq];congr 1;funext k;simp[Function.comp,ints_of]
   rw[e2]at c;calc⟨_,_,S',rfl,Xr (Ye (xs:=(prt (l.take QC2)).map Xa) ((Ys (a:=.var 1) rfl c).trans ((Xld _ _ ?_ S').trans ?_)) Q01),rfl,_,rfl⟩;·simp[Vf];exact Xs Q0
   ·rw[Xa9 L,Xiu,Val])
 rw[Vf,Xba]at h1;calc Xx rfl ((Xr (i:=1) (e:=.frz (.lst QI)) (v:=rwF [[]]) (Ye rfl rfl)).trans (h1.trans QpU)) QLL
abbrev fcA(n:LL):LL:=n.foldl (λB s=>QeG.foldl ddR B) []
abbrev fcs(n:LL):LL:=Yd QBA
def X48(B:LL)(k:LI):QhR.length<=lg B+1:=by
 unfold ddR;split;·omega
 ·rw[Uc];calc Vi _
def Xhp:∀(ks B:LL),QQQ.length<=lg B+lg ks
 |[]=>λB=>Vi _|k::ks=>λB=>by let h1:=Xhp ks QhR;let h2:=X48 B k;rw[Vcy,U4];omega
def Xft(n:LL)(s:LI):fcA (n++[s])=QeG.foldl ddR QBA:=by unfold fcA;rw[Vdl];rfl
def Xle{n:LL}(h:∀s∈n,lg s<=6):QBA.length<=64*lg n:=by
 revert h;exact Xey (P:=λn=>(∀s∈n,lg s<=6)->QBA.length<=64*lg n) (λ_=>Van _) (λn s ih h=>?_) n
 ·let h1:=ih λt B=>h t QUL;let h2:=Xhp QeG QBA;let L:QeG.length<=64:=by rw[Xlc];exact Vep (n:=2) Q1 QYc
  rw[Xft,Uc,Vfn];omega
def Xbb(S:Sto)(a b:O):QGd.set QE b=S++[b]:=by rw[Vfr _ _ Qw];simp!
def Yh(S:Sto)(a:O):QGd[lg S]?=yz a:=by simp!
def Xo8{L:Nat}{n:LL}(hp:∀l S,lg l<=6->F L Q2I S=.ok QNa S)(hs:∀s∈n,lg s<=6)(hn:Q68<=15)(S:Sto):den F G (Xed L) Q0A S=.ok Qw2 S:=by
 let sa:∀(ks:LL) (k:LI),Xbg (S++[.st ks]) QE=yz ks:=λks _=>by unfold Xbg;rw[Yh]
 let⟨e',S',h1,rfl,x,y,rfl⟩:=Xac (F:=F) (G:=G) (env:=[yz Qc1,yz Q7,yy,yy]) (S:=S++QHQ) (S1:=S++QHQ) (t:=.var 2) (it:=.val Q3) (ss:=.cons Q4K .nil)
  (b:=.cons (.for QF (.val QuL) QsQ) .nil)
  Qv (λi e S'=>S'=S++Q0U/\∃x y,e=QEQ) rfl QpO (λi d e S' hd he=>by
   let⟨rfl,x,y,rfl⟩:=he;rw[Ui]at hd;let⟨s,hy,rfl⟩:=Uh.mp hd;let B:=hs s (V5 hy);let hi:=(Vk.mp hy).1;let b1:QL7.length<=64*i:=V2 (Xle λt ht=>hs t (Veo ht)) QSE;let b2:QeG.length<=64:=by rw[Xlc];exact Vep (n:=2) Q1 B
   let⟨e2,S2,g1,rfl,z,rfl⟩:=Xac (F:=F) (G:=G) (env:=[yz Qc1,yz Q7,yz Q0J,y]) (S:=S++Q0U) (S1:=S++Q0U) (t:=.var 3) (it:=.val QuL) (ss:=.nil) (b:=.cons Q4C .nil)
    (QeG.map Xa) (λj e S'=>S'=S++[.st Qy1]/\∃z,e=[yz Qc1,yz Q7,yz Q0J,z]) (Xew Qg6 (QLM.trans (hp s _ B))) ⟨rfl,y,rfl⟩ (λj d e S' hd he=>by
     let⟨rfl,z,rfl⟩:=he;rw[Ui]at hd;let⟨k,hk,rfl⟩:=Uh.mp hd;let hj:=(Vk.mp hk).1;let b3:=Xhp (QeG.take j) QL7;rw[Vag]at b3;calc⟨_,[yz Qc1,yz Q7,yz Q0J,yz Qwf],_,rfl,Xbp (v:=.non) ?_,by rw[Xa9 hk,Vdl],_,rfl⟩;let e1:Xie QQT Q7=true:=by unfold Xie;dsimp;rw[sa _ k];rfl
     let e2:Xd6 Q7 [Xa k] QQT=.ok .non (S++[.st (ddR Qy1 k)]):=by simp[Xd6,Xa,sa _ k,Xa8];rw[iP0 Q0,Xbb]
     show(if Xie _ _=yx then _ else _:R D)=_
     rw[iP0 e1];calc e2)
   rw[Vf,Xba]at g1;calc⟨_,_,_,rfl,g1,by rw[Xa9 hy,Xft],_,_,rfl⟩)
 rw[Vf,Xba]at h1;let b:=Xle hs;let r:ev F G (.srs Q5) QEQ (S++Q1U)=.ok (.ref (S++[O.st QBA]).length) (S++Q1U++[.lst QNB]):=by show Xm9 Q7 _=_;unfold Xm9;dsimp;rw[sa _ []];dsimp;rw[iP0 Q0];rfl
 calc Xbo (X:=Q1U) rfl (h1.trans (Xw (Ye r Q01))) .rfl' QLL
abbrev fSz(n:LL)(i:Int):LL:=QK7.filter λk=>decide QUY
def Xd0(n:LL)(q:LI->Bool):(Qv.filter λd=>q QvG).map QZB=(n.filter q).map Xa:=by rw[List.map_id',Vid];congr 1;apply List.filter_congr;intro s _;simp[Function.comp,ints_of]
def Xdq(n:LL):Qza.length=lg n:=Que.length_eq
def Xxn{ia iw ic g:Nat}{n:LL}{i:Int}{S:Sto}(hg:G[g]?=yz QRA)(L:F ic Q0A S=.ok .non S)(B:F iw Q2M S=.ok (.bl (wi QF0 0 6)) S)(ha:F ia Q0A S=.ok Qw2 S)(hi:0<=i/\i<=6)(hl:QK7.length<=big):
  den F G QeF QDX S=.ok Q7 Q67:=by
 let w:wi QF0 0 6=true:=by simp[wi,decide_eq_true hi.1,decide_eq_true hi.2,Vdo]
 let c:=Xjp (F:=F) (G:=G) (env:=QuT) (S:=S) (n:=2) (t:=.var 3) (it:=.val (.call ia Qg)) (ifs:=.cons Qq7 .nil) (elt:=.var 3) (src:=.con QNB) QNB
  (λd=>[yz Qc1,yz QF0,yy,yz d]) (λd=>decide (QST=i)) QZB (Xew Qg6 (Qn0.trans ha)) QQ2 Qw Qp8 QU3 QRF (λd hd=>by
   let⟨k,_,rfl⟩:=Vs.mp hd;rw[ints_of];let:ev F G Qq7 [yz Qc1,yz QF0,yy,yz Qwf] S=.ok QfK S:=by let q:Xk .eq Q8K QF0 S=.ok QfK S:=Xab QtI;exact q
   calc ond this (by cases decide QUY<;>rfl)) Qn6
 rw[Xd0 QK7 λk=>decide QUY]at c;calc Xlb rfl ((Xbp (Qn0.trans L)).trans ((Xt5 (t:=yw) ?_).trans (Xw c))) .rfl' Q01;let:ev F G Qc7 QuT S=F iw Q2M S:=ond QLB rfl;rw[w]at B;calc Y3 (x:=yx) (this.trans B)
def Xub{ia iw ic g:Nat}{a d:D}{S:Sto}{k:Nat}(B:F ic [a] S=.ex QE Qy2):den F G QeF [a,d] S=.ex QE Qy2:=
 Xjo (env0:=QBa) rfl QqR
def Xuc{ia iw ic g:Nat}{n:LL}{d:D}{S:Sto}(hg:G[g]?=yz QRA)(B:F ic Q0A S=.ok .non S)(L:F iw Q5R S=.ok Qc S):den F G QeF QoK S=.ex QE (S++[.exc 8]):=by calc Xjo (env0:=QBX) rfl (QCb.trans (Xt5 (t:=yx) ?_));let:ev F G Qc7 QBX S=F iw Q5R S:=ond QLB rfl;calc Y3 (x:=yw) (this.trans L)
universe e
def Xo9{α:Type}{r:α->α->Bool}(tr:∀a b c,r a b=yx->r b c=yx->r a c=yx):∀l:List α,chn r l=yx ↔ l.Pairwise λa b=>r a b=yx
 |[]=>⟨λ_=>.nil,λ_=>rfl⟩|[a]=>⟨λ_=>Ve2 _ _,λ_=>rfl⟩|a::b::l=>by
  rw[chn,bA0,Xo9 tr QTW];constructor
  ·rintro ⟨h1,h2⟩;calc Vah.mpr ⟨λz hz=>?_,h2⟩;rcases Vu.mp hz with rfl|hz;·exact h1
   ·exact tr _ _ _ h1 ((Vah.mp h2).1 z hz)
  intro h;calc⟨QZZ.1 b V8,QZZ.2⟩
def Xpa(l:LI):riz l=yx ↔ l.Pairwise Qg3:=by calc(Xo9 (r:=λa b:Int=>decide QUe) (λa b c h1 h2=>decide_eq_true (Int.lt_trans QSc QRc)) l).trans ?_;calc⟨λh=>h.imp oD0,λh=>h.imp decide_eq_true⟩
def Xpb(l:LL):rzL l=yx ↔ PwL l:=Xo9 Xge l
def PwL.nodup{l:LL}(h:PwL l):l.Nodup:=h.imp λ{a b} h e=>by subst e;rw[Xhe]at h;cases h
def Xpc:∀(l B:LL),(B++l).Nodup->l.foldl ddR B=B++l
 |[]=>λB _=>by simp!|k::l=>λB h=>by
  let L:k ∉ B:=λz=>by rw[Vcg]at h;exact h.2.2 k z k V8 rfl
  rw[Vcy];let e:ddR B k=B++[k]:=by unfold ddR;rw[iN0 L]
  rw[e,Xpc l (B++[k]) (by rw[Ub];calc h),Ub];rfl
def Xxo(l:LL):PwL l ↔ Yd (ddL l)=l:=by
 constructor;·intro h;let e:ddL l=l:=Xpc l [] h.nodup;rw[e];exact Xkn (Xaq l) (Xch l h.nodup) h
 ·intro h;rw[<-h];calc Xch _ (Xek l)
def Xpd{α:Type}{r:α->α->Prop}(as:∀a b,r a b->r b a->False):∀ {l m:List α},l.Pairwise r->m.Pairwise r->(∀x,x∈l ↔ x∈m)->l=m
 |[],[],_,_,_=>rfl|[],b::m,_,_,h=>aB0 QoT QB|a::l,[],_,_,h=>aB0 QnV QB|a::l,b::m,h1,h2,h=>by
  rw[Vah]at h1 h2;let e:a=b:=by
   rcases Vu.mp QnV with e|ha;·exact e
   ·rcases Vu.mp QoT with e|hb;·exact e.symm
    ·exact(as _ _ (h1.1 b hb) (h2.1 a ha)).elim
  subst e;rw[Xpd as h1.2 h2.2 λx=>⟨λL=>?_,λL=>?_⟩]
  ·rcases Vu.mp (QNe.mp QDd) with e|B;·subst e;exact(as _ _ QJZ QJZ).elim
   ·exact B
  rcases Vu.mp (QNe.mpr QDd) with e|B;·subst e;exact(as _ _ QIZ QIZ).elim
  ·calc B
def Xiv{l m:LI}(h1:l.Pairwise Qg3)(h2:m.Pairwise Qg3)(h:∀x,x∈l ↔ x∈m):l=m:=Xpd (λa b h1 h2=>by omega) h1 h2 h
def X49{l m:LL}(h1:PwL l)(h2:PwL m)(h:∀x,x∈l ↔ x∈m):l=m:=Xpd (λa b h1 h2=>by let:=Xge a b a h1 h2;rw[Xhe]at this;cases this) h1 h2 h
def X5a(l:LI):(QK4.filter QsK=l) ↔ ((l.all λx=>decide Q5g&&decide Qwd)&&riz l)=true:=by
 let pw:QzD.Pairwise Qg3:=(Vjb.mpr (List.pairwise_lt_range.imp λh=>Int.ofNat_lt.mpr h)).filter _;let mem:∀x,x∈QK4.filter QsK ↔ (0<=x/\x<=15)/\x∈l:=λx=>by
  rw[Va3,Vs,decide_eq_true_eq];constructor;·rintro ⟨⟨n,hn,rfl⟩,h⟩;let:=Va9.mp hn;exact⟨⟨Vgt n,by omega⟩,h⟩
  ·rintro ⟨⟨B,h1⟩,h⟩;exact⟨⟨x.toNat,Va9.mpr Q0,by omega⟩,h⟩
 rw[bA0,Ug,Xpa];constructor;·intro e;rw[e]at pw mem;calc⟨λx L=>?_,pw⟩;let⟨⟨B,h1⟩,_⟩:=(mem x).mp L;rw[decide_eq_true B,decide_eq_true h1];rfl
 ·rintro ⟨h1,h2⟩;calc Xiv pw h2 λx=>?_;rw[mem];calc⟨λh=>h.2,λh=>⟨?_,h⟩⟩;let:=h1 x h;rw[bA0,decide_eq_true_eq,decide_eq_true_eq]at this;calc this
abbrev Xud(l:LL):Bool:=l.all λs=>decide ((l.filter λt=>lie s t).length=1)
def Xsi{α:Type}{p:α->Bool}{a:α}{l:List α}(nd:l.Nodup)(ha:a∈l)(hp:p a=yx):QHW.length=1 ↔ ∀t∈l,p t=yx->t=a:=by
 let hm:a∈l.filter p:=Va3.mpr ⟨ha,hp⟩;let nf:QHW.Nodup:=nd.filter _;constructor;·intro h t ht aa;let⟨x,e⟩:=List.length_eq_one_iff.mp h;let B:t∈l.filter p:=Va3.mpr ⟨ht,aa⟩;rw[e,V6]at hm B;rw[hm,B]
 ·intro h;let L:∀t∈l.filter p,t=a:=λt ht=>h t QMY.1 QMY.2;revert hm nf L;cases l.filter p with
  |nil=>intro h;cases h|cons x r=>
   cases r with
   |nil=>intros;rfl|cons y r=>intro _ nf L;calc aB0 ((L x QB).trans (L y QB).symm) λz=>(Vdd.mp nf).1 Q7U
def Xpe(s:LI):lie s s=true:=Ug.mpr λx B=>decide_eq_true B
def X5b{l:LL}(nd:l.Nodup):Xud l = !Xgp l:=by
 rw[Vcj];unfold Xud Xgp;rw[Ug,Va4,Vhc,ne_eq,Vca];constructor;·rintro h ⟨s,hs,h2⟩;let⟨t,B,L⟩:=Vca.mp h2;rw[bA0,Va4,decide_eq_false_iff_not]at L;exact L.2 (QLN.mp (oD0 (h s hs)) t B L.1).symm
 ·intro h s hs;calc decide_eq_true (QLN.mpr λt B h1=>Vji λz=>h ⟨s,hs,Vca.mpr ⟨t,B,?_⟩⟩);rw[bA0,Va4,decide_eq_false_iff_not];calc⟨h1,λe=>z e.symm⟩
section
variable{F:Fn}{G:LD}{S S1:Sto}{env:En}
def Xhq{e:Ex}{b:Bool}(h:ev F G e env S=.ok QT7 S):evts F G Q61 env S=.ok b S:=ond h (by cases b<;>rfl)
def Xck(S:Sto)(xs:LD):Xl QU1 QE=yz xs:=by unfold Xl;rw[Yh]
def Xue{i:Nat}{e:Ex}{v:D}{xs:LD}(hi:env[i]?=yz QsM)(hl:QIE=lg S)(B:ev F G e env QU1=.ok v QP8)(hz:QU<big):ev F G QbK env QU1=.ok .non (S1++[.lst QFa]):=by
 let L:Xl QP8 QE=yz xs:=by rw[<-hl];exact Xck S1 xs
 let r:Xbf .append Q7 QU1=true:=by unfold Xbf;dsimp;rw[Xck];rfl
 rw[Xhm QTN r B];simp[Y4,lstM];let g:QXA[lg S]?=yz QB1:=by rw[<-hl];exact Yh S1 _
 simp[g,iP0 hz];rw[<-hl,Xbb]
def X16{i:Nat}{e:Ex}{v:D}{xs ys:LD}(hi:env[i]?=yz QsM)(hl:QIE=lg S)(L:ev F G e env QU1=.ok v QP8)(B:Xi QP8 v=yz ys)(hz:QU+lg ys<=big):ev F G (.mth .xtd QL1 Q61) env QU1=.ok .non (S1++[.lst Q0O]):=by
 let r:Xbf .xtd Q7 QU1=true:=by unfold Xbf;dsimp;rw[Xck];rfl
 rw[Xhm QTN r L];simp[Y4,lstM];let g:QXA[lg S]?=yz QB1:=by rw[<-hl];exact Yh S1 _
 simp[g,B,iP0 hz];rw[<-hl,Xbb]
def Xsj(S:Sto)(o:O):Sim QfB QKd:=⟨by simp!,λj o e=>by
 by_cases h:j<lg S;·rw[Vx h]at e |-;exact .inl e
 ·rw[U7 Q0]at e;cases q:j-lg S with
  |zero=>rw[q]at e;cases e;calc .inr rfl
  |succ m=>rw[q]at e;simp! at e⟩
def Xlf{i:Nat}{xs:LD}(hi:env[i]?=yz QsM)(B:bdDs (lg S+1) xs=yx):ev F G Q1a env QU1=.ok Qr9 QKd:=by let:=Xdn (d:=.fro xs) (Xsj S QB1) (by simpa [bdD] using B) [];rw[Vaw]at this;show gcR _ (Xa2 (ev F G QL1 env _))=_;rw[X3 hi];simp[Xa2,Yh,Xbb];calc this
def Xxp(a b:LI)(B:QFW<=big)(S:Sto):den F G Xfq Qv6 S=.ok Q65 S:=by let c:=Xhn (F:=F) (G:=G) (env:=[yz QuR,yz QaW]) (S:=S) (n:=2) (i:=3) (it:=.val Q3) (ifs:=.cons QkN .nil) (elt:=.var 3) QkJ (λd=>match d with | .int x=>!decide Q8B|_=>yw) QZB rfl QRE (λd hd=>by let⟨x,_,rfl⟩:=Vs.mp hd;calc Xhq (e:=.cmp .notin QF Q5) (Xo5 QyX)) Qn6 (λd hd _=>by let⟨x,_,rfl⟩:=Vs.mp hd;rfl);calc Xx rfl (Xw (QDG.trans (Xab ((Xxh _ S).trans ?_)))) rfl;congr 1;rw[List.map_id',Vid];rw[Vcj,Vbf,List.map_eq_nil_iff,List.filter_eq_nil_iff];unfold lie;rw[Ug];calc forall_congr' λx=>forall_congr' λ_=>?_;show ¬ QpV=yx ↔ _;cases decide Q8B<;>simp!
def X17{d:D}{n:LL}{e:Ex}{env:En}{S:Sto}(h:Xi S d=yz Qv)(hl:QPE.length<1000)(B:ev F G e env S=.ok d S):ev F G (.frz (.sst e)) env S=.ok (rwF QJO) S:=by
 calc Ye ?_ Q01;calc ond B ?_;rw[h];cases n with
 |nil=>rfl|cons r n=>simp[Xb1,Xk6 (List.cons_ne_nil r n),Xfr,iP0 hl];rfl
def Xpf{d:D}{n:LL}{S:Sto}(h:Xgo d n):Xi S d=yz Qv:=by rcases h with rfl|rfl<;>rfl
abbrev grt(n:LL):LL:=QJO.filter λf=>n.all λo=>decide QTa || !lie f o
def ddL_mem{n:LL}{k:LI}:k∈ddL n ↔ k∈n:=by
 let L:∀(n B:LL),k∈n.foldl ddR B ↔ k∈B\/k∈n:=by
  intro n;induction n with
  |nil=>intro B;simp!|cons x n ih=>
   intro B;rw[Vcy,ih];unfold ddR;split
   ·rename_i h;constructor
    ·rintro (h|h);·exact .inl h
     ·exact .inr (V4 _ h)
    rintro (h'|h');·exact .inl h'
    ·rcases Vu.mp h' with rfl|h';·exact .inl h
     ·exact .inr h'
   simp[Uo,V6,Vu,Vbe,or_false];exact or_assoc
 calc(L n []).trans QB
def srtC_mem{n:LL}{k:LI}:k∈Yd n ↔ k∈n:=Que.mem_iff
def Xgq(n:LL):QPE.length<=lg n:=V2 (Xhp n []) QB
def Xqd{α:Type}{q:α->Bool}{xs:List α}{i:Nat}{x:α}(h:xs[i]?=yz x):(xs.take QC2).filter q=if q x then QNX.filter q++[x] else QNX.filter q:=by rw[Xa9 h,List.filter_append];cases e:q x<;>simp![List.filter,e]
def X5c{il:Nat}{d:D}{n:LL}(hd:Xgo d n)(hn:Q68<1000)(hr:∀s∈n,lg s<=big)(hl:∀a b S,lg a<=big->F il Qv6 S=.ok Q65 S)(S:Sto):den F G (Xci il) [d] S=.ok (Xc QkX) S:=by
 let hq:∀(f:LI) (xs:LD) (S':Sto),lg f<=big->ev F G QZ1 Qp4 S'=.ok (.bl QtB) S':=λf xs S' B=>by let c:=Xhn (F:=F) (G:=G) (env:=Qp4) (S:=S') (n:=2) (i:=4) (it:=.val Q3) (ifs:=.cons (.and QuQ (.call il QiT)) .nil) (elt:=.var 4) Qv (λo=>!decide (Xj o=f)&&lie f (Xj o)) QZB QYW QHB (λo L=>by let⟨r,_,rfl⟩:=Vs.mp L;rw[ints_of];calc Xhq (Xb7 (a:=.cmp .ne Qa QA) (Xdu (Xxf r f S')) λ_=>hl f r S' B)) Qn6 (λo L _=>by let⟨r,_,rfl⟩:=Vs.mp L;calc Yo _ r);calc QDG.trans (Xab ((Xxh _ S').trans (congrArg yz ?_)));rw[Xd0 n λo=>!decide QTa&&lie f o,Vcj,Vbf,List.map_eq_nil_iff,List.filter_eq_nil_iff,Ug];exact forall_congr' λo=>forall_congr' λ_=>?_;cases decide QTa<;>cases lie f o<;>simp!
 let⟨e',S',h1,rfl,x,rfl⟩:=Xac (F:=F) (G:=G) (env:=[yz d,yz Q7,yy]) (S:=S++Qk2) (S1:=S++Qk2) (t:=.var 2) (it:=.val QoQ) (ss:=.cons QPA .nil)
  (b:=.cons (.ite QZ1 QuA .nil) .nil)
  (QJO.map Xa) (λi e S'=>S'=S++Q9c/\∃x,e=QxV) (Xew Qg6 (X17 (Xpf hd) QfQ rfl)) Qe7 (λi y e S' hy he=>by
   let⟨rfl,x,rfl⟩:=he;rw[Ui]at hy;let⟨f,B,rfl⟩:=Uh.mp hy;let mf:f∈n:=ddL_mem.mp (srtC_mem.mp QUb);let hc:=hq f [] (S++Q9c) (hr f mf);calc⟨Qp4,Qp4,S++[.lst (((QJO.take QC2).filter λf=>n.all λo=>decide QTa || !lie f o).map Xa)],rfl,(Xb6 hc).trans ?_,rfl,_,rfl⟩;rw[Xqd B];cases q:QtB with
   |false=>rfl|true=>
    simp[if_true];let lz:QI1.length<big:=by rw[Vf];calc Vaa Q1S (Vaa (List.length_take_le' _ _) ?_);rw[Xdq];exact Uf QfQ Q1
    let a:=Xbp (ss:=.nil) (Xue (F:=F) (G:=G) (S:=S) (S1:=S) (env:=Qp4) (i:=1) (e:=.var 2) (v:=Xa f) rfl rfl rfl lz);rw[a,Val];rfl)
 rw[Vf,Xba]at h1;let fz:=Xlf (F:=F) (G:=G) (S:=S) (env:=QxV) (i:=1) (xs:=QkX.map Xa) rfl Q01;let r:=(Xr (F:=F) (G:=G) (env:=[yz d,yy,yy]) (i:=1) (e:=.lst .nil) (v:=.ref QE) (S1:=S++Qk2) rfl).trans (h1.trans (Xw (v:=Xc QkX) (S1:=S++Q5I) (Yw fz)));calc Xbo (X:=Q5I) rfl r .rfl' Q1b
def Xfu{x y:D}{S:Sto}{b:Bool}(h:eqD S x y=yz b):Xk .eq x y S=.ok QT7 S:=Xab h
def Xsk(n:Nat)(h:n<1048576):Y5 [.int n]=yz QsH:=by simp[Y5,Vcw];rw[iP0 Q0]
def Xct{e:Ex}{n:Nat}{env:En}{S S1:Sto}(B:ev F G e env S=.ok Q7K S1)(h:n<1048576):evit F G (.rng Q61) env S=.ok (.con QsH) S1:=ond (Xb B Xz) (by rw[Xsk n h])
def Xh2{iw:Nat}{d:D}(hw:∀d,pd d=yx->∀S,F iw [d] S=.ok QDF S)(hd:pd d=yx)(S:Sto):den F G (Xbs iw) [d] S=.ok QC7 S:=by
 cases d with
 |ref _=>cases hd|fn _ _=>cases hd|tup xs=>
  by_cases L:QU<=6
  ·let c:ev F G QX1 Q7C S=.ok (.bl (!xs.all wh)) S:=
    Xa4 (x:=yw) rfl λ_=>Xa4 (x:=yw) (a:=.cmp .gt Qf QvP) (by show Xk .gt Qq9 QRA S=_;calc Xab (by rw[Xar,decide_eq_false Q0])) λ_=>Y3 (Xmz (n:=2) (i:=2) (it:=.val Q3) xs wh rfl QsG λx hx=>hw x QuG S)
   calc Xx rfl Qa3 rfl;cases hz:xs.all wh with
   |false=>
    let:QXJ=false:=by rw[List.all_eq_false]at hz |-;let⟨x,hx,q⟩:=hz;exact⟨x,hx,by cases x<;>first|calc aB0 rfl q|calc q|(intro z;cases z)⟩
    simp[Yk,this,Vcd,Vc9];rfl|true=>
    obtain⟨l,rfl⟩:∃l:LI,xs=l.map D.int:=by
     clear c L hd;induction xs with
     |nil=>exact⟨[],rfl⟩|cons x xs ih=>
      rw[Vas,bA0]at hz;let⟨l,rfl⟩:=ih hz.2;cases x with
      |int i=>exact⟨i::l,rfl⟩|_=>cases hz.1
    let e1:=Xhn (F:=F) (G:=G) (env:=[yz Qx5]) (S:=S) (n:=2) (i:=2) (it:=.rng Qx) (ifs:=.cons QhO .nil) (elt:=.var 2) Qt7 Qv8 QZB (Xct (n:=16) rfl Q1) (by rw[Vf,U9];decide) (λd hd=>by let⟨k,_,rfl⟩:=Vs.mp hd;calc Xhq (e:=.cmp .isin QA Q3) (Xab (Xo6 (k:Int) l S))) Qn6 (λd hd _=>by let⟨k,_,rfl⟩:=Vs.mp hd;rfl);let e2:(Q6J.filter Qv8).map QZB=QzD.map D.int:=by rw[List.map_id',Vid,Vid,Vbq];rfl
    rw[e2]at e1;calc Xw ((Ym e1 (Ye (xs:=l.map D.int) rfl QJA)).trans ((Xfu (X45 _ l S)).trans ?_));congr 2;let q:(decide (QZ.length<=6))=true:=decide_eq_true L;let q2:(QZ.all λx=>wi x 0 15)=l.all λx=>decide Q5g&&decide Qwd:=by rw[Vfs];rfl
    simp[Yk,q,q2,Vb5,show Xj QEH=l from ints_of l];rw[Vcj,decide_eq_true_eq];exact X5a l
  let c:ev F G QX1 Q7C S=.ok Qb S:=
   Xa4 (x:=yw) rfl λ_=>Xa4 (x:=yx) (y:=yx) (a:=.cmp .gt Qf QvP) (by show Xk .gt Qq9 QRA S=_;calc Xab (by rw[Xar,decide_eq_true Q0])) λz=>nomatch z
  calc Xx rfl Qa3 rfl;simp[Yk,decide_eq_false L,Vcd];rfl|_=>calc Xx rfl rfl rfl
def Xuf{il ia:Nat}{d:D}(hl:∀a b S,lg a<=big->F il Qv6 S=.ok Q65 S)(ha:∀d,pd d=yx->∀S,F ia [d] S=.ok QC7 S)(hd:pd d=yx)(S:Sto):den F G (Xdo il ia) [d] S=.ok Q79 S:=by
 cases d with
 |ref _=>cases hd|fn _ _=>cases hd|tup xs=>
  let L:ev F G Q5C QyO S=.ok (.bl (decide QdE&&decide QSC)) S:=by calc(X15 (x:=1) (y:=lg xs) (z:=60) rfl rfl rfl).trans ?_;congr 3<;>exact decide_eq_decide.mpr Q0
  cases hz:(decide QdE&&decide QSC) with
  |false=>
   rw[hz]at L;let c:ev F G QJ1 QyO S=.ok Qb S:=
    Xa4 (x:=yw) rfl λ_=>Xa4 (x:=yx) (y:=yx) Qvf λz=>nomatch z
   calc Xx rfl Qa3 rfl;simp[Yb,hz,Vcd];rfl|true=>
   rw[hz]at L;let aa:1<=lg xs/\QU<=60:=by rw[bA0,decide_eq_true_eq,decide_eq_true_eq]at hz;exact hz
   let c:ev F G QJ1 QyO S=.ok (.bl (!xs.all Yk)) S:=
    Xa4 (x:=yw) rfl λ_=>Xa4 (x:=yw) Qvf λ_=>Y3 (Xmz (n:=2) (i:=3) (it:=.val Q3) xs Yk rfl QsG λx hx=>ha x QuG S)
   calc Xx rfl Qa3 rfl;cases e:xs.all Yk with
   |false=>simp[Yb,hz,e,Vcd];rfl|true=>
    let en:=Xit e;simp[Yb,hz,e,Vb5];generalize hn:xs.map Xj=n at en |-;let ln:Q68=lg xs:=by rw[<-hn,Vf]
    let l6:∀s∈n,lg s<=6:=λs hs=>by rw[<-hn]at hs;let⟨x,hx,rfl⟩:=Vs.mp hs;let⟨l,rfl,q,_⟩:=Xex (Ug.mp e x hx);rw[ints_of];exact q
    subst en;let c2:ev F G Qh8 QxO S=.ok (.bl (!decide (Yd QPE=n))) S:=by let s1:=X17 (F:=F) (G:=G) (env:=QxO) (S:=S) (e:=.var 0) (n:=n) (Xpf Qd0) (Vaa (Xgq n) Q0) rfl;exact(Ym s1 (Ye (xs:=n.map Xa) rfl Q01)).trans (Xdu (Xxg _ n S))
    calc(Yl c2 rfl).trans ?_;by_cases pw:Yd QPE=n
    ·let B:=QXe.mpr pw;rw[decide_eq_true pw,QwX.mpr B,Vb5,<-X5b B.nodup];let⟨e',_,h⟩:=Xxd (F:=F) (G:=G) (env:=QxO) (S:=S) (i:=1) (it:=.val Q3) (ss:=.cons QYS .nil) (v:=.bl yw)
      (b:=.cons (.ite Q32 Q8 .nil) .nil)
      Qv (λd=>decide ((n.filter λt=>lie QvG t).length=1)) rfl λd hd=>by
       let⟨s,hs,rfl⟩:=Vs.mp hd;rw[ints_of];let k:=Xhn (F:=F) (G:=G) (env:=QvT) (S:=S) (n:=2) (i:=3) (it:=.val Q3) (ifs:=.cons (.call il Q72) .nil) (elt:=.var 3) Qv (λd=>lie s QvG) QZB rfl QHB (λd hd=>by let⟨t,_,rfl⟩:=Vs.mp hd;rw[ints_of];calc Xhq (e:=.call il Q72) (hl s t S (Xs (V2 (l6 s hs) Q1)))) Qn6 (λd hd _=>by let⟨t,_,rfl⟩:=Vs.mp hd;calc Yo _ t);rw[Xd0 n λt=>lie s t]at k;let k2:ev F G Q32 QvT S=.ok (.bl (!decide QWT)) S:=by calc(Ym ((Yw k).trans (show X6 .len [.fro QjW] S=.ok (.int QjW.length) S from rfl)) rfl).trans ((Xdu (Xdp _ 1 S)).trans ?_);rw[Vf];congr 3;exact decide_eq_decide.mpr Q0
       calc(Yl k2 rfl).trans ?_;by_cases z:QC4.length=1;·rw[decide_eq_true z];rfl
       ·rw[decide_eq_false z];rfl
     calc h.trans ?_;rw[X0r n λs=>decide QWT];show(if Xud n=yx then _ else _)=_;cases Xud n<;>rfl
    let:rzL n=false:=by rw[Vhc];exact λz=>pw (QXe.mp (QwX.mp z))
    rw[decide_eq_false pw,this,Vcd];rfl
 |_=>calc Xx rfl rfl rfl
abbrev pkb:LI->Nat->LI
 |[],_=>[]|x::l,m=>if m%2=1 then x::pkb l (m/2) else pkb l (m/2)
abbrev lpt(l:LI):LL:=QdW.map (pkb l)
def Xsl{k:LI}:∀ {l:LI},k∈lpt l ↔ k.Sublist l
 |[]=>by rw[List.sublist_nil];exact V6|x::l=>by
  let ih:=λk=>Xsl (k:=k) (l:=l);unfold lpt at ih |-;simp[Vs,Va9,U4]at ih |-;constructor
  ·rintro ⟨m,B,rfl⟩;rw[pkb];let h2:m/2<2^QX7:=by rw[Vgk]at B;omega
   let hs:=Qfa.mp ⟨m/2,h2,rfl⟩;split;·exact hs.cons_cons x
   ·exact hs.cons x
  intro h;cases h with
  |cons _ h=>let⟨m,B,rfl⟩:=(ih k).mpr h;calc⟨2*m,by rw[Vgk];omega,?_⟩;rw[pkb,iN0 Q0];congr 1;omega|cons_cons _ h=>let⟨m,B,rfl⟩:=Qfa.mpr h;calc⟨2*m+1,by rw[Vgk];omega,?_⟩;rw[pkb,iP0 Q0];congr 2;omega
def Xsm(l:LI):Q3N.length=2^QX7:=by unfold lpt;rw[Vf,U9]
abbrev Xiw(m B:Nat):Bool:=decide (m/2^B%2=1)
def X5d(m a:Nat):Vik ((m:Int).fdiv QIf) 1=((m/2^a%2:Nat):Int):=by
 let e:(m:Int).fdiv QIf=QkS:=by rw[show((2:Int)^a)=((2^a:Nat):Int) by simp!,Int.ofNat_fdiv]
 rw[e];unfold Vik;rw[decide_eq_true (Vgt _)];show(((QkS.toNat &&& (1:Int).toNat:Nat)):Int)=_;rw[Vcw];calc congrArg Ver (Nat.and_one_is_mod _)
def X5e(xs:LD)(S:Sto)(i:Nat):(Src.enm QV8).get S i=yz (Xd5 0 xs)[i]?:=by
 let B:∀(xs:LD) (i n:Nat),(match xs[i]? with|some x=>yz (D.tup [.int ((n+i:Nat):Int),x])|none=>yy)=QRZ[i]?:=by
  intro xs;induction xs with
  |nil=>intro i n;rfl|cons x xs ih=>
   intro i n;cases i with
   |zero=>rfl|succ i=>let:=ih i Q17;rw[show n+1+i=n+QC2 by omega]at this;exact this
 let:=B xs i 0;rw[Vgm]at this;rw[<-this];simp[Src.get];cases xs[i]?<;>rfl
def Xix(n:Nat):∀xs:LD,QRZ.length=lg xs
 |[]=>rfl|x::xs=>by rw[Xd5,U4,Xix Q17 xs];rfl
def Xbv{n:Nat}{d:D}:∀ {l:LI},d∈Xd5 n QZ->∃(a:Nat) (x:Int),d=.tup [.int a,.int x]
 |[],h=>by cases h|x::l,h=>by
  rw[Uk,Xd5]at h;rcases Vu.mp h with rfl|h;·exact⟨n,x,rfl⟩
  ·calc Xbv h
def Xme(m:Nat):∀(l:LI) (n:Nat),((Xd5 n QZ).filter λd=>match d with | .tup QDc=>Xiw m a.toNat|_=>yw).map (λd=>match d with | .tup [_,x]=>x|_=>.non)=(pkb l (m/2^n)).map D.int
 |[],n=>rfl|x::l,n=>by
  let ih:=Xme m l Q17;rw[Vgk,<-Nat.div_div_eq_div_mul]at ih;rw[Uk,Xd5,List.filter_cons,pkb];show Veb _ (if Xiw m n=yx then _ else _)=_;by_cases h:m/2^n%2=1;·rw[iP0 (show Xiw m n=yx from decide_eq_true h),iP0 h,Uk,Uk,ih]
  ·rw[iN0 (show ¬ Xiw m n=yx from λz=>h (oD0 z)),iN0 h,ih]
def Xug(l:LI)(hl:QX7<=6)(S:Sto):den F G Xee Q2I S=.ok QMa S:=by
 let hp:(2:Nat)^QX7<=64:=Vep (n:=2) Q1 hl;let sh:ev F G QfE Q3R QId=.ok (.int ((2^QX7:Nat):Int)) QId:=by show Xn .shl QG (.int (QZ.length:Int)) _=_;rw[Vf];simp[Xn];rw[iP0 ⟨by omega,by omega,by decide⟩];simp!
 let⟨e',S',h1,rfl,x,rfl⟩:=Xac (F:=F) (G:=G) (env:=Q3R) (S:=S++Qk2) (S1:=S++Qk2) (t:=.var 2) (it:=.rng QqQ) (ss:=.cons QlQ .nil)
  (b:=.cons Qo0 .nil)
  (QdW.map λk:Nat=>.int k) (λi e S'=>S'=S++[.lst QM9]/\∃x,e=[yz Qx5,yz Q7,x]) (Xct sh Q0) Qe7 (λi y e S' B he=>by
   let⟨rfl,x,rfl⟩:=he;rw[Ui]at B;let⟨m,L,rfl⟩:=Uh.mp B;let hi:i<2^QX7:=by let:=Q0H.1;rwa [U9]at this
   rw[Vdt hi]at L;cases L;let gi:Q3N[i]?=yz QQa:=by unfold lpt;rw[Ui,Vdt hi];rfl
   generalize hS:S++[O.lst QM9]=S2;let c:=Ye (F:=F) (G:=G) (env:=[yz Qx5,yz Q7,yz QJC]) (S:=S2) (Xjp (n:=3) (t:=.tup [4,5]) (it:=.enm Qg) (ifs:=.cons (.cmp .eq QoD Q4) .nil) (elt:=.var 5) (src:=.enm (.con QZ)) (Xd5 0 QZ)
    (λd=>match d with|.tup Q0I=>[yz Qx5,yz Q7,yz QJC,yy,yz a,yz b]|_=>[]) (λd=>match d with|.tup QDc=>Xiw i a.toNat|_=>yw) (λd=>match d with|.tup [_,x]=>x|_=>.non) rfl (X5e _ S2) (by rw[Xix];calc Vi _) (by rw[Xix,Vf];calc Xs Q0)
    (λd hd=>by let⟨a,x,rfl⟩:=Xbv hd;rfl) (λd hd d' aa=>by let⟨a,x,rfl⟩:=Xbv hd;let⟨a',x',rfl⟩:=Xbv aa;rfl) (λd hd=>by
     let⟨a,x,rfl⟩:=Xbv hd;calc Xhq ?_;let q:ev F G QoD [yz Qx5,yz Q7,yz QJC,yy,yz QeT,yz QRV] S2=.ok (.int ((i/2^a%2:Nat):Int)) S2:=by calc(Ys (Ys (a:=.var 2) (b:=.var 4) rfl rfl |>.trans (show Xn .shr QJC QeT S2=.ok (.int ((i:Int).fdiv QIf)) S2 by simp[Xn];rw[iP0 (Vgt a),Vcw])) rfl).trans ?_;show R.ok (D.int (Vik _ 1)) S2=_;rw[X5d]
     calc(Ym q rfl).trans (Xfu ((Xdp _ 1 S2).trans ?_));show _=yz (Xiw i a);unfold Xiw;congr 1;calc decide_eq_decide.mpr Q0) (λd hd _=>by let⟨a,x,rfl⟩:=Xbv hd;rfl)) (Xdm λy B=>by
     let⟨d,hd,rfl⟩:=Vs.mp B;let⟨a,x,rfl⟩:=Xbv (Va3.mp hd).1;rfl)
   rw[Xme i l 0,Nat.pow_zero,Nat.div_one]at c;subst hS;let lz:QM9.length<big:=by rw[Vf,Vag];exact Uf (show min i Q3N.length<64 by omega) Q1
   calc⟨_,_,_,rfl,Xbp (Xue (S:=S) (S1:=S) (i:=1) (v:=Xa QQa) rfl rfl (Yw c) lz),?_,_,rfl⟩;rw[Xa9 gi,Val];rfl)
 rw[Vf,U9,<-Xsm,Xba]at h1;let r:=(Xr (F:=F) (G:=G) (env:=[yz Qx5,yy,yy]) (i:=1) (e:=.lst .nil) (v:=.ref QE) (S1:=S++Qk2) rfl).trans (h1.trans (Xw QsU));calc Xbo (X:=Q5I) rfl r .rfl' QLL
abbrev lfc(n:LL):LL:=Yd (ddL QBB)
def Yao{n:LL}(h:∀s∈n,lg s<=6):QBB.length<=64*lg n:=by
 induction n with
 |nil=>exact Van _|cons s n ih=>
  let h1:=ih λt B=>h t QLA;let h2:QYX.length<=64:=by rw[Xsm];exact Vep (n:=2) Q1 QYc
  rw[Vfl,Uc,U4];omega
def Xuh{B:Nat}{n:LL}(hp:∀l S,lg l<=6->F B Q2I S=.ok QMa S)(hs:∀s∈n,lg s<=6)(hn:Q68<=15)(S:Sto):den F G (Xef B) Q0A S=.ok (rwF QCe) S:=by
 let tk:∀i,QIJ.length<=960:=λi=>V2 (Yao λs h=>hs s (Veo h)) QSE;let⟨e',S',h1,rfl,x,rfl⟩:=Xac (F:=F) (G:=G) (env:=[yz Qc1,yz Q7,yy]) (S:=S++Qk2) (S1:=S++Qk2) (t:=.var 2) (it:=.val Q3) (ss:=.cons Q8F .nil)
  (b:=.cons Q49 .nil)
  Qv (λi e S'=>S'=S++[.lst (QIJ.map Xa)]/\∃x,e=QsS) rfl Qe7 (λi y e S' hy he=>by
   let⟨rfl,x,rfl⟩:=he;rw[Ui]at hy;let⟨s,hg,rfl⟩:=Uh.mp hy;let L:=hs s (V5 hg);let t1:=tk QC2;rw[Xa9 hg,Vii,Uc]at t1;calc⟨_,_,_,rfl,Xbp (X16 (S:=S) (S1:=S) (i:=1) (v:=rwF QYX) (ys:=QYX.map Xa) rfl rfl (QLM.trans (hp s _ L)) rfl ?_),?_,_,rfl⟩;·rw[Vf,Vf];simp[Vfl,List.flatMap_nil,Vaw]at t1;exact Xs Q0
   ·rw[Xa9 hg,Vii,Val]
    simp[Vfl,List.flatMap_nil,Vaw])
 rw[Vf,Xba]at h1;let t2:=tk n.length;rw[Xba]at t2;let r1:ev F G (.sst (.frz Q5)) QsS (S++[.lst QkW])=.ok (.ref (S++[O.ded]).length) (S++Q5I++[.lst (QCe.map Xa)]):=by
  calc ond QsU ?_;show Xb1 QkW _=_;unfold lfc;cases hq:n.flatMap lpt with
  |nil=>rfl|cons r m=>
   let hl:(ddL (r::m)).length<1000:=by rw[<-hq];exact Vaa (Xgq _) Q0
   simp[Xb1,Xk6 (List.cons_ne_nil r m),Xfr,iP0 hl];rfl
 let r:=(Xr (F:=F) (G:=G) (env:=[yz Qc1,yy,yy]) (i:=1) (e:=.lst .nil) (v:=.ref QE) (S1:=S++Qk2) rfl).trans (h1.trans (Xw (Xer r1 (Xsj S _) Q01)));calc Xbo (X:=Q5I) rfl r .rfl' QLL
universe e
def X5f{k:LI}(n:LL):k∈fcA n ↔ ∃s∈n,k.Sublist s:=by
 let L:∀(ks B:LL),k∈ks.foldl ddR B ↔ k∈B\/k∈ks:=by
  intro ks;induction ks with
  |nil=>intro B;simp!|cons x ks ih=>
   intro B;rw[Vcy,ih];let:k∈ddR B x ↔ k∈B\/k=x:=by
    unfold ddR;split;·rename_i h;exact⟨.inl,λz=>z.elim id λe=>e▸h⟩
    ·rw[Uo,V6]
   rw[this,Vu,or_assoc]
 calc Xey (P:=λn=>k∈fcA n ↔ ∃s∈n,k.Sublist s) ⟨(λh=>nomatch h),(λ⟨s,h,_⟩=>nomatch h)⟩ QvS n;rw[Xft,L,ih,mem_prt];constructor
 ·rintro (⟨t,h1,h2⟩|h);·exact⟨t,Vbi _ h1,h2⟩
  ·exact⟨s,by simp!,h⟩
 rintro ⟨t,h1,h2⟩;rcases Uo.mp h1 with h1|h1;·exact .inl ⟨t,h1,h2⟩
 ·rw[V6]at h1;calc .inr (h1▸h2)
def Xxq:∀(ks B:LL),B.Nodup->QQQ.Nodup
 |[]=>λ_ h=>h|k::ks=>λB h=>by
  calc Xxq ks _ ?_;unfold ddR;split;·exact h
  ·rename_i hk;rw[Vcg];calc⟨h,by simp!,λa L b hb z=>hk (by rw[V6.mp hb]at z;calc z▸L)⟩
def Yap(n:LL):QBA.Nodup:=by calc Xey (P:=λn=>QBA.Nodup) Viv QvS n;rw[Xft];calc Xxq _ _ ih
def mem_fcs{k:LI}{n:LL}:k∈fcs n ↔ ∃s∈n,k.Sublist s:=srtC_mem.trans (X5f n)
def X5g(n:LL):lfc n=fcs n:=X49 QtR (Xch _ (Yap n)) λk=>by rw[mem_fcs];unfold lfc;rw[srtC_mem,ddL_mem,List.mem_flatMap];calc exists_congr λs=>and_congr_right λ_=>Xsl
theorem Dw(p:Nat)(S S1:Sto):Prop:=Pot S p/\∃k,S1=pt S p k
section
variable{p:Nat}{S S1 S2 X:Sto}
def Dw.rfl'(h:Pot S p):Dw p S S:=⟨h,by let⟨k,e⟩:=h;calc Q7c;unfold Z.pt;let⟨hl,e⟩:=Vk.mp e;rw[<-e,List.set_getElem_self]⟩
def Dw.pot(h:Dw p S S1):Pot S1 p:=by let⟨h,k,rfl⟩:=h;calc h.pt k
def Dw.trans(a:Dw p S S1)(b:Dw p S1 S2):Dw p S S2:=by let⟨h,k,rfl⟩:=a;let⟨_,j,rfl⟩:=b;calc⟨h,j,Yc4 ..⟩
def Dw.sim(h:Dw p S S1):Sim S S1:=by let⟨_,k,rfl⟩:=h;calc Yak S p k
def Dw.len(h:Dw p S S1):QIE=lg S:=h.sim.1
def Dw.app(h:Dw p S S1)(X:Sto):Dw p QfD QGS:=by let⟨h,k,rfl⟩:=h;calc⟨h.app X,k,(Xw9 h X k).symm⟩
def Dw.inv(h:Pot S p)(d:Dw p QfD S2):∃S1,S2=S1++X/\Dw p S S1:=by let⟨_,k,rfl⟩:=d;calc⟨pt S p k,Xw9 h X k,h,k,rfl⟩
variable{F:Fn}{G:LD}{env:En}
def Xez{d:Df}{ds:LD}{env0:En}{v:D}(L:ds.map yz++Vn QA8 yy=env0)(h:pe F G d.body env0 S=.ok QSB S1)(hd:Dw p S S1)(B:pd v=yx)(hn:QP3=d.np:=by rfl)(hg:d.gc=true:=by rfl):den F G d ds S=.ok v S1:=
 Xbo (X:=[]) L QPP hd.sim QEb hn hg
def X0s(ns:LI)(j:Nat)(S:Sto):∃c,den F G Xcz [.fro QQ,.int j] S=.ok Qm5 S:=by
 let B:ev F G QqF QyV S=.ok (.bl (decide (j<lg ns))) S:=by let:ev F G QqF QyV S=.ok (.bl (decide ((j:Int)<(QQ.length:Int)))) S:=rfl;rw[this,Vf];congr 2;exact decide_eq_decide.mpr Q0
 by_cases h:j<lg ns
 ·let hi:Xcu QN Qz2 S=.ok (.int ns[j]) S:=by
   simp[Xcu,Xa7,Xi,Vab,Z.ixN,Vf];rw[iP0 Q0,iP0 Q0];simp![h]
  calc⟨ns[j],Xx rfl ((Yl (v:=.int ns[j]) B ((Xb8 (a:=.var 0) (b:=.var 1) rfl rfl).trans hi)).trans ?_) rfl⟩;rw[decide_eq_true h];rfl
 calc⟨0,Xx rfl ((Xb6 B).trans ?_) rfl⟩;rw[decide_eq_false h];rfl
def X0t{p:Nat}{v far:Int}{S:Sto}(h:S[p]?=yz (.lst QFX))(h0:0<far)(hd:Xgz far=yx):den F G t_law_take [.ref p,.int far] S=.ok (.int Q0e) QUF:=by
 let B:Xl S p=yz QFX:=by unfold Xl;rw[h]
 let L:Xcu QX QeO S=.ok Qcd S:=by simp[Xcu,Xa7,Xi,B,Vab,Z.ixN,List.length];rfl
 let a0:Xdw QX QeO QdT S=.ok () QUF:=by let h':lstM S p=yz QFX:=B;simp[Xdw,h',Z.ixN,List.length];rfl
 calc Xez (p:=p) rfl (?_:pe F G t_law_take.body [yz QX,yz (.int far),yy] S=_) ⟨⟨v,h⟩,_,rfl⟩ rfl;calc(Xr (v:=.int Q0e) (S1:=S) ?_).trans ?_;·exact QE6.trans (Xdd h0 S)
 ·let hx:exe F G Q3Q QC5 S=.ok (.nx QC5) QUF:=by
   let e1:ev F G Qr7 QC5 S=.ok QdT S:=QE6.trans (X0o hd S);exact ond e1 (ond rfl (ond rfl (ond a0 rfl)))
  calc(Xep hx).trans QpU
def Xxr{m:Nat}(B:0<m)(h1:m<=2000):Xgz (m:Int)=true:=by unfold Xgz;rw[decide_eq_true Q0,Vb5];calc decide_eq_true (Vaa (m:=2000) ?_ Q1);rw[Int.natAbs_natCast];calc V2 (Nat.log2_le_self m) h1
theorem Tks(F:Fn)(f:Nat):Prop:=∀(p:Nat) (S:Sto) (m:Nat),Pot S p->0<m->m<=2000->∃(i:Nat) (S1:Sto),i<m/\Dw p S S1/\F f [.ref p,.int m] S=.ok QF0 S1
def Yaq{T:List Df}{f:Nat}(hf:T[f]?=yz t_law_take)(k:Nat):Tks Q6F f:=λp S m hp L h1=>by let⟨v,B⟩:=hp;let n0:=Int.emod_nonneg v (show(m:Int)≠0 by omega);let n1:=Int.emod_lt_of_pos v (show(0:Int)<(m:Int) by omega);obtain⟨a,ha⟩:∃a:Nat,v%(m:Int)=(a:Int):=⟨(v%(m:Int)).toNat,by omega⟩;calc⟨a,_,by omega,⟨⟨v,B⟩,v/m,rfl⟩,?_⟩;rw[Xg hf,X0t B Q0 (Xxr L h1),ha]
def Xbc{f j:Nat}{e:Ex}{m:Nat}{S1:Sto}(hF:Tks F f)(L:env[j]?=yz QCE)(he:ev F G e env S=.ok (.int m) S1)(hd:Dw p S S1)(hm:0<m)(B:m<=2000):∃(i:Nat) (S2:Sto),i<m/\Dw p S S2/\ev F G QB7 env S=.ok QF0 S2:=by let⟨i,S2,h1,h2,h3⟩:=hF p S1 m hd.pot hm B;calc⟨i,S2,h1,hd.trans h2,(Xa1 Qxf he).trans h3⟩
def Xcl{x:D}{xs:LD}{i:Nat}(h:Xi S x=yz xs)(hs:∀t,x≠.str t)(hi:i<lg xs):Xcu x QF0 S=.ok xs[i] S:=by
 let B:Z.ixN QU (i:Int)=yz i:=by unfold Z.ixN;rw[iP0 Q0,iP0 Q0,Vcw]
 let:Xa7 x QF0 S=yz xs[i]:=by
  cases x with
  |str t=>exact aB0 rfl (hs t)|_=>simp[Xa7,h,Vab,B,Uw hi]
 unfold Xcu;rw[this]
def Xxs{f j:Nat}{a e:Ex}{xs:LD}{x:D}(hF:Tks F f)(hp:Pot S p)(L:env[j]?=yz QCE)(ha:ev F G a env S=.ok x S)(hx:∀S,Xi S x=yz xs)(hs:∀t,x≠.str t)(he:ev F G e env S=.ok Qq9 S)(hm:0<lg xs)(B:QU<=2000):
  ∃v∈xs,∃S1,Dw p S S1/\ev F G (.idx a QB7) env S=.ok v S1:=by
 let⟨i,S1,h1,h2,h3⟩:=Xbc hF L he QgB hm B;calc⟨xs[i],Vb1 h1,S1,h2,(Xb8 ha h3).trans (Xcl (hx S1) hs h1)⟩
def X0u(c a j:Int)(x:Option D)(S:Sto){ss:Sts}:∃a' b',pe F G (.cons Qq
  (.cons Q90
  (.cons Q12 ss))) [yz Qm5,yz Qp7,yz Qz2,x] S=pe F G ss [yz Qm5,yz (.int a'),yz Qz2,yz (.int b')] S:=by
 let m1:Xbe 7919 j=true:=Xsa Q1 Q1;let m2:∀y,Xbe y 48271=true:=λy=>Xk4 Q1 Q1;let m3:Xbe 69621 j=true:=Xsa Q1 Q1;let L:∀y,Xbe y 2147483587=true:=λy=>Xk4 Q1 Q1;let p1:(0:Int)<2147483629:=by decide
 let p2:(0:Int)<2147483647:=by decide
 let p3:(0:Int)<2147483587:=by decide
 generalize B:((c%2147483629+7919*j+1)*48271)%2147483647=b;let b1:0<=b:=by rw[<-B];exact Int.emod_nonneg _ Q1
 let b2:b<2147483647:=by rw[<-B];exact Int.emod_lt_of_pos _ Q1
 let m5:Xbe b b=true:=Xk4 Q0 Q0;calc⟨a*2147483587+QIB%2147483587,QIB%2147483587,?_⟩;rw[Xr (v:=.int b) (S1:=S) ((bi (bi (bi (bi (bi Q1d rfl (Xdd p1 S)) (bi rfl rfl (Xeq m1 S)) QrJ) rfl QrJ) rfl (Xeq (m2 _) S)) rfl (Xdd p2 S)).trans Qec)];dsimp[List.set];rw[Xr (v:=.int (QIB%2147483587)) (S1:=S) (bi (bi (bi (bi rfl rfl (Xeq m5 S)) (bi rfl rfl (Xeq m3 S)) QrJ) rfl QrJ) rfl (Xdd p3 S))];dsimp[List.set];rw[Xr (v:=.int (a*2147483587+QIB%2147483587)) (S1:=S) (bi (bi rfl rfl (Xeq QbY S)) rfl QrJ)];rfl
def X5h(c:Int)(S:Sto):∃a,den F G t_law_pot QVf S=.ok Q7 Qr2:=by
 let hp:Xn .pow Qsb (.int 18) S=.ok (.int (10^(18:Int).toNat)) S:=Xr9 Q9 S;generalize (10:Int)^(18:Int).toNat=w at hp;let L:∀env,ev F G Qx1 env S=.ok Qo7 S:=λenv=>hp;let B:∀(e:Ex) (env:En) (a:Int),ev F G e env S=.ok Qp7 S->ev F G (.lst Q61) env S=.ok Q7 Qr2:=λe env a h=>ond (Xb h Xz) (iP0 (Xs QB));let fin:∀ {a},pe F G t_law_pot.body QMF S=.ok QKV Qr2->den F G t_law_pot QVf S=.ok Q7 Qr2:=λ{a} h=>by show gcB yw S (Xna (pe F G t_law_pot.body QMF S))=_;rw[h];rfl
 let hc:ev F G QxP QMF S=.ok (.bl (decide (w<=c))) S:=(Ym (a:=.var 0) rfl QbY).trans (Xab rfl);by_cases h:w<=c;·calc⟨c-w,fin QpN⟩;rw[decide_eq_true h,iP0 rfl,Xw (B _ _ (c-w) ((Ys (a:=.var 0) rfl QbY).trans (Xr8 ..)))]
 ·let⟨e',S',h1,rfl,a,x,y,rfl⟩:=Xac (F:=F) (G:=G) (env:=[yz Qm5,yz QeO,yy,yy]) (S:=S) (S1:=S) (t:=.var 2) (it:=.rng QpF) (ss:=.cons QkQ .nil)
   (b:=.cons Qq QOG)
   ((Vq 64).map λk:Nat=>.int k) (λi e S'=>S'=S/\∃a x y,e=[yz Qm5,yz Qp7,x,y]) (Xct (n:=64) rfl Q1) ⟨rfl,0,yy,yy,rfl⟩ (λi d e S' hd hP=>by let⟨rfl,a,x,y,rfl⟩:=hP;rw[Ui]at hd;let⟨m,_,rfl⟩:=Uh.mp hd;let⟨a',b',st⟩:=X0u (F:=F) (G:=G) c a m y S' (ss:=.nil);calc⟨_,_,S',rfl,st,rfl,a',_,_,rfl⟩)
  calc⟨a,fin QpN⟩;rw[decide_eq_false h];calc(Xr (i:=1) (e:=.cst QeO) (v:=.int 0) (S1:=S') rfl).trans (h1.trans (Xw (B _ _ a rfl)))
def turns{ns:LI}(c:Nat)(h1:1<=c)(h2:c<1000000)(B:env[0]?=yz (yz QN)):
  ∃m:Nat,evit F G (.rng (.cons Qy3 .nil)) env S=.ok (.con QtH) S/\m<=c:=by
 let hl:ev F G Qf env S=.ok (.int (lg ns:Nat)) S:=(Yw QJb).trans (by show R.ok (D.int QQ.length) S=_;rw[Vf]);let L:ev F G Qy3 env S=.ok (.int ((max 1 QXX:Nat):Int)) S:=by calc(Xxa (a:=.cst QG) (x:=.int 1) (S1:=S) rfl (y:=.int (if (c:Int)<(lg ns:Int) then (c:Int) else (lg ns:Int))) (S2:=S) (Xxa (b:=.cst Qm5) (y:=.int c) hl rfl)).trans ?_;show R.ok (D.int (if (if (c:Int)<(lg ns:Int) then (c:Int) else (lg ns:Int))>1 then _ else _)) S=_;congr 2;split<;>split<;>omega
 calc⟨max 1 QXX,Xct L Q0,by omega⟩
universe e
def Xui{P:D->Prop}{a b:D}(h1:P a)(h2:P b):∀d∈Q0I,P d:=Vcr.mpr ⟨h1,Vcr.mpr ⟨h2,λ_ h=>nomatch h⟩⟩
def X0v{P:D->Prop}{a b c:D}(h1:P a)(h2:P b)(B:P c):∀d∈QDa,P d:=Vcr.mpr ⟨h1,Xui h2 B⟩
def X0w{P:D->Prop}{a b c d:D}(h1:P a)(h2:P b)(L:P c)(B:P d):∀x∈[a,b,c,d],P x:=Vcr.mpr ⟨h1,X0v h2 L B⟩
def Yar{P:D->Prop}{a b c d e f:D}(h1:P a)(h2:P b)(L:P c)(B:P d)(h5:P e)(h6:P f):∀x∈[a,b,c,d,e,f],P x:=Vcr.mpr ⟨h1,Vcr.mpr ⟨h2,X0w L B h5 h6⟩⟩
theorem Sm(dep siz:Nat)(d:D):Prop:=pd d=yx/\∃p,(∀B,Yc B d=yz p)/\p.showable=yx/\Xdg p=yx/\p.depth<=dep/\szD p<=siz
def Sm.mono{a b a' B:Nat}{d:D}(h:Sm a b d)(h1:a<=a')(h2:b<=B):Sm a' B d:=by let⟨q0,p,L,q2,q3,q4,q5⟩:=h;calc⟨q0,p,L,q2,q3,V2 q4 h1,V2 q5 h2⟩
def Xfv(i:Int)(h:i.natAbs<1000):Sm 0 4 QF0:=⟨rfl,.int i,λ_=>by simp[Yc],by
  let:i.natAbs.log2<1920:=Vaa (Nat.log2_le_self _) Q0
  simp[Vd8,decide_eq_true this],by simp[Xdg],by simp[Vft];calc Vi _,by simp[szD,szI,iP0 h];calc Vi _⟩
def sms{a b:Nat}:∀ds:LD,(∀d∈ds,Sm a b d)->pds ds=yx/\∃ps,(∀B,datFs B ds=yz ps)/\Vfb ps=yx/\dctEs ps=yx/\Vfe ps<=a/\szDs ps<=lg ds*QsX
 |[]=>λ_=>⟨rfl,[],λ_=>by simp[datFs],by simp[Vfb],by simp[dctEs],by simp[Vfe];calc Van _,by simp[szDs];calc Van _⟩|d::ds=>λh=>by let⟨p0,p,p1,p2,p3,p4,p5⟩:=h d QB;let⟨q0,ps,L,q2,q3,q4,q5⟩:=sms ds λx hx=>h x (by simp![hx]);calc⟨by simp[pds,p0,q0,Vdo],p::ps,λB=>by simp[datFs,p1,L],by simp[Vfb,p2,q2,Vdo],by simp[dctEs,p3,q3,Vdo],by simp[Vfe];calc Nat.max_le.mpr ⟨p4,q4⟩,?_⟩;simp[szDs,U4,Nat.succ_mul];omega
def Xxt{a b a' L:Nat}{ds:LD}(h:∀d∈ds,Sm a b d)(ha:a+1<=a')(hb:QP3*QsX+3<=L):Sm a' L QjD:=by let⟨q0,ps,q1,q2,q3,q4,q5⟩:=sms ds h;calc⟨q0,.tuple ps,λB=>by simp[Yc,q1,U5],by simp[Vd8,q2],by simp[Xdg,q3],by simp[Vft];omega,by simp[szD];omega⟩
def Xxu{a b a' L:Nat}{ds:LD}(h:∀d∈ds,Sm a b d)(ha:a+1<=a')(hb:QP3*QsX+3<=L):Sm a' L QM6:=by let⟨q0,ps,q1,q2,q3,q4,q5⟩:=sms ds h;calc⟨q0,.list ps,λB=>by simp[Yc,q1,U5],by simp[Vd8,q2],by simp[Xdg,q3],by simp[Vft];omega,by simp[szD];omega⟩
def Xxv{l:LI}(h:∀x∈l,x.natAbs<1000):Sm 1 (lg l*6+3) Qx5:=Xxt (a:=0) (b:=4) (λd hd=>by let⟨x,B,rfl⟩:=Vs.mp hd;calc Xfv x QOe) Qw (by rw[Vf];calc Vi _)
def Xxw{d:D}(h:Sm 60 big d):∃t,∀S,Xid S d=yz t:=by let⟨_,p,B,L,q3,q4,q5⟩:=h;calc⟨p.shown,λS=>?_⟩;simp[Xid,Yp,B,L,q3,decide_eq_true q4,decide_eq_true q5];rfl
def Yd5{a b c:D}(h1:Sm 50 200000 a)(h2:Sm 50 200000 b)(B:Sm 50 200000 c):∃t,∀S,Xid S (.fro QDa)=yz t:=
 Xxw (Xxu (a:=50) (b:=200000) (by
  calc X0v ?_ ?_ ?_;·exact h1
  ·exact h2
  calc B) Q0 (by show 3*(200000+2)+3<=big;decide))
def eq_str(t:Str)(S:Sto):Xk .eq Qk5 Qk5 S=.ok Qb S:=by simp[Xk,Xar,eqD,Xd4,beq_self_eq_true]
def Xxx(t:Str)(S:Sto):Xk .ne Qk5 Qk5 S=.ok Qc S:=by simp[Xk,Xar,eqD,Xd4,beq_self_eq_true,U5,Vc5]
section
variable{F:Fn}{G:LD}{S S1:Sto}{env:En}
def X18{es:Exs}{ds:LD}(h:evs F G es env S=.ok ds S1)(hl:QP3<=1000):ev F G QlL env S=.ok Qr6 (S1++[.lst ds]):=ond h Qga
def Xad{es:Exs}{ds:LD}(h:evs F G es env S=.ok ds S1)(hl:QP3<=1000)(hs:Sim S S1)(B:bdDs QE ds=yx):ev F G QyZ env S=.ok QM6 S1:=Xer (X18 h hl) hs B
def Xxy{e:Ex}{d:D}{t:Str}(h:ev F G e env S=.ok d S1)(B:Xid S1 d=yz t):ev F G (.blt .repr Q61) env S=.ok Qk5 S1:=by rw[Yw h];simp[X6,B]
abbrev Xae(c:Nat):D:=([.str "net",.str "face",.str "point",.str "apart",.str "many",.str "text",.str "row",.str "number",.str "level",.str "crowd",.str "way",.str "closed",.str "swap",.str "places",.str "deed",.str "line"]:LD).getD (c-1) .non
def Xhr{n c k:Nat}{i:Nat}(hi:env[i]?=yz QRJ)(B:S[n]?=yz Qq3):ev F G (.isi QL1 [.cls k]) env S=.ok (.bl QAL) S:=by
 let:kdD S QQ1=yz Qq3:=by simp[kdD,B]
 rw[Xt6 QTN this];simp[Yx,isT];cases QAL<;>rfl
abbrev Xiy(k1 k2 k3 B:Nat):Exs:=.cons (.isi Q3 [.cls k1]) (.cons (.isi Q3 [.cls k2]) (.cons (.isi Q3 [.cls k3]) (.cons (.isi Q3 [.cls B]) .nil)))
abbrev isK(c k:Nat):D:=.bl QAL
def Xsn{n c:Nat}(B:env[0]?=yz QRJ)(L:S[n]?=yz Qq3)(a b d e:Nat):evs F G QvU env S=.ok Q8E S:=by unfold Xiy isK;calc Xb QML (Xb QML (Xb QML (Xb QML Xz)))
def Xca{n:Nat}{o:O}(h:S[n]?=yz o)(X:Sto):QfD[n]?=yz o:=by rw[Vx QH8.1];calc h
def Xiz{n c:Nat}{xs:LD}{w:Option D}{q:Nat}{ss:Sts}(hn:S[n]?=yz Qq3)(B:S[q]?=yz QB1)(hx:QU<=100)(a b d e:Nat):
  pe F G (.cons (.asg Q5 (.bin .add Q5 (.frz (.lst QvU)))) ss) [yz QQ1,yz QQA,w] S=pe F G ss [yz QQ1,yz Q7,w] (S++[.lst (xs++Q8E)]):=by
 calc Xr ((Ys (a:=.var 1) rfl (Xad (Xsn rfl hn a b d e) Q86 .rfl' rfl)).trans ?_);let l:Xl S q=yz xs:=by simp[Xl,B]
 let L:QU+4<=big:=Xs Q0;simp[Xn,lsD,l,U4,Vh8];calc iP0 L
def X0x{n c:Nat}(hn:S[n]?=yz Qq3)(h1:1<=c)(h2:c<=16):den F G t_law_kind_of QSf S=.ok QSN S:=by
 let pw:pd QSN=true:=by
  let:∀c:Fin 17,pd QCY=true:=by decide+kernel
  exact this QRG
 generalize hB:Qd3++QR6++QgC++[isK c 13,isK c 14,isK c 15,isK c 16]=B;let ab:X1 B=yz (Qx4.map λx=>(x==0||x==c)):=by rw[<-hB];rfl
 let af:∀c:Fin 17,1<=c.val->QZE.countP QFc=1/\QZE.findIdx? QFc=yz (c.val-1):=by decide+kernel
 let⟨k1,k2⟩:=af QRG h1;let s1:=X18 (F:=F) (G:=G) (env:=QfC) (S:=S) (Xsn rfl hn 1 2 3 4) Q86;generalize hX:([.lst Qd3]++[.lst (Qd3++QR6)]++[.lst (Qd3++QR6++QgC)]:Sto)=X;let gl:∀(A:Sto) (xs:LD),(A++[O.lst xs])[A.length]?=yz QB1:=λA xs=>Yh A _;let body:∀ss,pe F G (.cons (.asg Q5 (.lst (Xiy 1 2 3 4))) (.cons (.asg Q5 (.bin .add Q5 (.frz (.lst (Xiy 5 6 7 8))))) (.cons (.asg Q5 (.bin .add Q5 (.frz (.lst (Xiy 9 10 11 12))))) (.cons (.asg Q5 (.bin .add Q5 (.frz (.lst (Xiy 13 14 15 16))))) ss)))) QfC S=pe F G ss [yz QQ1,yz QlP,yy] QSY:=λss=>by calc(Xr s1).trans ((Xiz QyI (gl S _) (by show 4<=100;decide) 5 6 7 8).trans ((Xiz Q7Y QZc (by show 8<=100;decide) 9 10 11 12).trans ((Xiz (Xca Q7Y _) QZc (by show 12<=100;decide) 13 14 15 16).trans ?_)));rw[<-hB,<-hX];simp[Ub]
 let ae:(S++X++QyT)[n]?=yz Qq3:=Xca QyI _;let l4:Xl QSY QfD.length=yz B:=Xck _ _;generalize ag:S++X++QyT=L at ae l4 body;generalize QfD.length=q at l4 body;let rc:∀k,Xbf k QQA L=true:=λk=>by simp[Xbf,l4,Option.isSome]
 let c1:∀env:En,env[1]?=yz QKc->ev F G (.mth .count Q5 (.cons QW .nil)) env L=.ok QG L:=λenv h=>by rw[Xhm QvR Qdf rfl];simp[Y4,l4,Vab,ab,k1];rfl
 let c2:∀env:En,env[1]?=yz QKc->ev F G Q1E env L=.ok (.int (c-1:Nat)) L:=λenv h=>by rw[Xhm QvR Qdf rfl];simp[Y4,l4,Vab,ab,k2]
 let t5:ev F G QH4 QFQ L=.ok Qc L:=by
  let hk:kdD L QQ1=yz Qq3:=by simp[kdD,ae]
  exact Xa4 (x:=yw) (y:=yw) ((Ym (c1 _ rfl) rfl).trans (Xdu (Xdp 1 1 L))) λ_=>Y3 (x:=yx) ?_;exact Xt6 rfl hk
 let wd:Xae c=(QO1++Ql8:LD).getD (c-1) .non:=rfl;generalize ac:(QO1:LD)=w1 at wd;generalize aa:(Ql8:LD)=w2 at wd;let l1:w1.length=12:=by rw[<-ac];rfl
 let l2:w2.length=4:=by rw[<-aa];rfl
 let b1:bdDs L.length w1=true:=by rw[<-ac];rfl
 let b2:bdDs L.length w2=true:=by rw[<-aa];rfl
 let e1:∀env,ev F G Qe env L=.ok Q0c L:=λenv=>Xad (by subst ac;rfl) Q0 .rfl' b1;let e2:∀env,ev F G QA0 env L=.ok (.fro w2) L:=λenv=>Xad (by subst aa;rfl) Q0 .rfl' b2;let b3:bdDs L.length QYJ=true:=by rw[<-ac,<-aa];rfl
 let e3:ev F G QeI [yz QQ1,yz QQA,yz Q0c] L=.ok (.fro QYJ) L:=Ye ((Ys (a:=.var 2) rfl (e2 _)).trans (Xld _ _ QsG L)) b3;let hi:c-1<QYJ.length:=by rw[Uc];omega
 let hv:QYJ[c-1]=Xae c:=by rw[wd,Vbd,Uw hi];rfl
 let e4:=(Xb8 e3 (c2 _ rfl)).trans (Xcl (x:=.fro QYJ) (xs:=w1++w2) rfl Q11 hi);rw[hv]at e4;let r:pe F G t_law_kind_of.body QfC S=.ok (.rt QSN) (S++(X++QqK)):=by rw[<-Ub,ag];calc(body _).trans ((Yl t5 (v:=.str "other") rfl).trans ?_);rw[iN0 V3];exact(Xr (i:=2) (env:=QFQ) (e1 _)).trans (Xw e4)
 calc Xbo (X:=X++QyT) (env0:=QfC) rfl r .rfl' (Xav _ pw)
theorem Kds(F:Fn)(f:Nat):Prop:=∀(n c:Nat) (S:Sto),S[n]?=yz Qq3->1<=c->c<=16->F f QSf S=.ok QSN S
def Yas{T:List Df}{f:Nat}(B:T[f]?=yz t_law_kind_of)(k:Nat):Kds Q6F f:=λn c S h h1 h2=>by rw[Xg B,X0x h h1 h2]
def Xxz{b h ss:Sts}{c x:Nat}{r:D}(L:nasgs b=yx)(B:pe F G b env S=.ok QlY S1):pe F G (.cons (.try b c x h) ss) env S=.ok QlY S1:=Xk2 (QHe.trans Qec)
def Yat{b ss:Sts}{x ik k:Nat}(hn:nasgs b=yx)(L:pe F G b env S=.ex QE Qy2)(hx:x<lg env)(hk:Kds F ik)(h1:1<=k)(h2:k<=16):pe F G (.cons Qq0 ss) env S=.ok (.rt QBY) Qy2:=Xk2 (by let hg:(S++[O.exc k])[lg S]?=yz (.exc k):=Yh ..;let B:ev F G (.var x) (env.set x QsM) Qy2=.ok Q7 Qy2:=X3 (Vau hx);calc(iP0 hn).trans ?_;rw[L];dsimp;rw[hg];dsimp;rw[iP0 Qfc,Xw ((Xm B).trans (hk _ _ _ hg h1 h2))])
def X5i{c:Nat}(h:c<=16):pd QSN=true:=by
 let:∀c:Fin 17,pd QCY=true:=by decide+kernel
 calc this QRG
def X0y{ds:LD}{env0:En}{np nl x ik:Nat}{b:Sts}{r:D}(he:ds.map yz++Vn QWX yy=env0)(hd:QP3=np)(hn:nasgs b=yx)(B:pe F G b env0 S=.ok QlY S)(L:bdD QE r=yx):den F G Qf7 ds S=.ok r S:=
 Xx he QPZ L hd
def X0z{ds:LD}{env0:En}{np nl x ik k:Nat}{b:Sts}(L:ds.map yz++Vn QWX yy=env0)(hd:QP3=np)(hn:nasgs b=yx)(B:pe F G b env0 S=.ex QE Qy2)(hx:x<lg env0)(hk:Kds F ik)(h1:1<=k)(h2:k<=16):den F G Qf7 ds S=.ok QBY S:=
 Xbo L (Yat hn B hx hk h1 h2) .rfl' (Xav _ (X5i h2)) hd
def X00{ds:LD}{env0:En}{np nl x ik:Nat}{b:Sts}{o:O}(he:ds.map yz++Vn QWX yy=env0)(hd:QP3=np)(hn:nasgs b=yx)(B:pe F G b env0 S=.ok QKV QfB)(L:bdO QE o=yx):den F G Qf7 ds S=.ok Q7 QfB:=
 Xlb he QPZ .rfl' L hd
universe e
def X5j{F:Fn}{G:LD}{env:En}(S:Sto):ev F G QyW env S=.ok .edc S:=by
 let e1:QIS[lg S]?=yz QqL:=by simp!
 let e2:QIS.set QE .ded=S++Q5I:=Xbb S _ _;show gcR S (Xa2 (.ok Q7 QWI))=_;simp[Xa2,e1,e2];calc Xdn (d:=.edc) .rfl' rfl _
theorem Cl(e:Ex)(d:D):Prop:=pd d=yx/\∀(F:Fn) (G:LD) (env:En) (S:Sto),ev F G e env S=.ok d S
theorem Cls(es:Exs)(ds:LD):Prop:=pds ds=yx/\∀(F:Fn) (G:LD) (env:En) (S:Sto),evs F G es env S=.ok ds S
def Xdr{d:D}(h:pd d=yx):Cl QaV d:=⟨h,λ_ _ _ _=>rfl⟩
def Xpg{i:Int}:Cl (.neg QwP) QMH:=QMK
def Xph:Cl QyW .edc:=⟨rfl,λ_ _ _ S=>X5j S⟩
def Xpi{i j v:Int}(h:0<=j/\j<=1000/\i.natAbs<2^63)(B:i^j.toNat=v):Cl (.bin .pow QwP (.cst Qz2)) Qcd:=⟨rfl,λ_ _ _ S=>by subst B;calc Xr9 h S⟩
def Xpj{es:Exs}{ds:LD}(h:Cls es ds)(hl:QP3<=1000):Cl Qlb QjD:=⟨h.1,λF G env S=>ond QmG Qga⟩
def Xe0{es:Exs}{ds:LD}(h:Cls es ds)(hl:QP3<=1000):Cl QyZ QM6:=⟨h.1,λF G env S=>Xad QmG hl .rfl' (pds_bd _ h.1)⟩
def Xde:Cls .nil []:=QMK
def Y2{e:Ex}{es:Exs}{d:D}{ds:LD}(h:Cl e d)(t:Cls es ds):Cls QBF QpX:=⟨by rw[pds,h.1,t.1];rfl,λF G env S=>Xb QmG (t.2 F G env S)⟩
section
variable{F:Fn}{G:LD}{env:En}
def X19{e:Ex}{d:D}(h:Cl e d)(S:Sto):ev F G e env S=.ok d S:=h.2 F G env S
universe e
mutual
def Xx0(k l:Nat->Option Vcc):∀ {d:D},pd d=yx->Yc k d=Yc l d
 |.ref _=>λh=>by cases h|.fn _ _=>λh=>by cases h|.tup xs=>λh=>by rw[Yc,Yc,dats_pd k l (xs:=xs) h]|.fro xs=>λh=>by rw[Yc,Yc,dats_pd k l (xs:=xs) h]|.non=>λ_=>rfl|.bl _=>λ_=>rfl|.int _=>λ_=>rfl|.str _=>λ_=>rfl|.edc=>λ_=>rfl
def dats_pd(k l:Nat->Option Vcc):∀ {xs:LD},pds xs=yx->datFs k xs=datFs l xs
 |[]=>λ_=>rfl|x::xs=>λh=>by rw[pds,bA0]at h;rw[datFs,datFs,Xx0 k l h.1,dats_pd k l h.2]
end
abbrev smB(dep siz:Nat)(d:D):Bool:=pd d&&match Yc QBR d with
 |some p=>p.showable&&Xdg p&&decide (p.depth<=dep)&&decide (szD p<=siz)|none=>yw
def Yc6{a b:Nat}{d:D}(h:smB a b d=yx):Sm a b d:=by
 unfold smB at h;rw[bA0]at h;cases e:Yc QBR d with
 |none=>rw[e]at h;cases h.2|some p=>rw[e]at h;let⟨L,h⟩:=h;simp[bA0,decide_eq_true_eq]at h;calc⟨L,p,λB=>(Xx0 _ _ L).trans e,h.1.1.1,h.1.1.2,h.1.2,h.2⟩
def Xpk{a b:Nat}{ds:LD}(h:ds.all (smB a b)=yx):∀d∈ds,Sm a b d:=λd hd=>Yc6 (Ug.mp h d hd)
def Sm.pd{a b:Nat}{d:D}(h:Sm a b d):Z.pd d=true:=h.1
def enc_bl:Enc Bool D.bl PyData.bool 0:=⟨λ_ _=>rfl,λ_=>rfl,λ_=>by simp![Vft],λx y=>by cases x<;>cases y<;>rfl⟩
def Xuj(a b:Bool)(S:Sto):eqD S (.bl a) QT7=yz (decide QmU):=enc_bl.eq Q1 QU3 a b S
section
variable{F:Fn}{G:LD}{S:Sto}{iw is:Nat}
def Xx1{x:D}{xs:LD}(h:Xi S x=yz xs):∃s,X9 S x=yz s/\(∀i,s.get S i=yz xs[i]?)/\s.most S=lg xs:=by
 cases x with
 |tup ys=>cases h;calc QOK|fro ys=>cases h;calc QOK|ref n=>let h':Xl S n=yz xs:=h;calc⟨.ref n,by simp[X9,h',U5],λi=>by simp[Src.get,h',U5],by simp[Src.most,h',Vey]⟩|_=>cases h
def Yau{a b:Src}{xs ys:LD}(L:∀i,a.get S i=yz xs[i]?)(B:∀i,b.get S i=yz ys[i]?)(i:Nat):(Src.zpp a b).get S i=yz QCV[i]?:=by rw[<-Xsh xs ys S i];simp[Src.get,L,B]
def Xpl{x y:D}{xs:LD}(k:Kd)(L:k=.tuple\/k=.list)(kx:kdD S x=yz k)(ky:kdD S y=yz k)(hx:Xi S x=yz xs)(hy:Xi S y=yz xs)(hl:QU<=big)(h:∀z∈xs,F is [z,z] S=.ok Qb S):den F G QE8 Qc9 S=.ok Qb S:=by
 let⟨s1,a1,a2,a3⟩:=Xx1 hx;let⟨s2,b1,b2,b3⟩:=Xx1 hy;let i1:∀(i:Nat) (env:En) (ts:List Ty) (v:D),env[i]?=yz Qw8->kdD S v=yz k->ev F G (.isi QL1 ts) env S=match Yx k ts with|some r=>.ok QSA S|none=>.bad:=λi env ts v h1 h2=>Xt6 Qwe h2
 let c:ev F G QCJ Q36 S=.ok Qb S:=by rw[i1 1 _ _ y rfl ky];rcases L with rfl|rfl<;>rfl
 let aa:∀b:Bool,Xk .ne QT7 QT7 S=.ok Qc S:=λb=>(Xdu QuX).trans (by rw[decide_eq_true rfl];rfl);let c2:ev F G Qc0 Q36 S=.ok Qc S:=by
  exact Xa4 (x:=yw) (y:=yw) ?_ λ_=>?_
  ·calc Qi5.trans (aa (k == .list));·rcases L with rfl|rfl<;>rfl
   ·rcases L with rfl|rfl<;>rfl
  calc Qi5.trans (aa (k == .tuple));·rcases L with rfl|rfl<;>rfl
  ·rcases L with rfl|rfl<;>rfl
 let ln:∀(i:Nat) (v:D),(Q36:En)[i]?=yz Qw8->Xi S v=yz xs->ev F G (.blt .len QrQ) Q36 S=.ok Qq9 S:=λi v h1 h2=>by
  rw[Yw Qwe];cases v with
  |str z=>cases h2|_=>simp[X6,h2]
 let ac:=Ye (F:=F) (G:=G) (env:=Q36) (S:=S) (Xjp (n:=3) (t:=.tup [3,4]) (it:=.zpp QI4) (ifs:=.nil) (elt:=.call is QhT) (src:=.zpp s1 s2) ((xs.zip xs).map prZ)
  (λd=>match d with|.tup Q0I=>[yz x,yz y,yy,yz a,yz b]|_=>[]) QCD (λ_=>.bl yx)
  (by show(match X9 S x,X9 S y with|some s,yz t=>R.ok (Src.zpp s t) S|_,_=>.bad)=_;rw[a1,b1]) (Yau a2 b2) (by rw[Vf,Vic];simp[Src.most,a3,b3];calc Vi _) QIN
  (λz hz=>by let⟨p,_,rfl⟩:=Vs.mp hz;rfl) (λz hz w hw=>by let⟨p,_,rfl⟩:=Vs.mp hz;let⟨q,_,rfl⟩:=Vs.mp hw;rfl)
  QU3 (λz hz _=>by
   let⟨p,hp,rfl⟩:=Vs.mp hz;let ab:p.1=p.2/\p.1∈xs:=by let⟨i,hi⟩:=Vd9.mp hp;rw[Vje]at hi;let e1:=hi.1;let e2:=hi.2;rw[e1]at e2;exact⟨Ur e2,V5 e1⟩
   let:=h p.1 ab.2;show F is Qld S=_;rw[<-ab.1];calc this)) (Xdm λz hz=>by
   let⟨w,_,rfl⟩:=Vs.mp hz;rfl)
 let al:ev F G QG2 Q36 S=.ok Qb S:=by calc(Yw ac).trans ?_;simp[X6,Xi,Vab,Xho];congr 2;rw[Ug];intro b hb;let⟨_,_,rfl⟩:=Vs.mp hb;rfl
 let q:ev F G QeE Q36 S=.ok Qb S:=(Ym (ln 0 x rfl hx) (ln 1 y rfl hy)).trans (Xfu ((Xdp _ _ S).trans QK5));calc Xx (env0:=Q36) rfl ?_ rfl;calc(Xb6 c).trans ?_;rw[iP0 rfl];let B:∀ss,pe F G (.cons QdO (.cons (.ret (.and QeE QG2)) ss)) Q36 S=.ok QXd S:=λss=>by calc(Yl (v:=.bl yw) c2 rfl).trans ?_;rw[iN0 V3];exact Xw (Xb7 (x:=yx) (y:=yx) q λ_=>al)
 rw[B .nil]
def X5k(b:Bool):den F G QE8 QrK S=.ok Qb S:=by calc Xx (env0:=QwT) rfl QLC rfl;rw[iN0 V3];let r:ev F G QX5 QwT S=.ok Qb S:=Xb7 (x:=yx) (y:=yx) (Xfu (QuX.trans QK5)) λ_=>Xfu ((Xuj yx yx S).trans QK5);calc(Yl (t:=yx) (v:=.bl yx) ?_ r).trans (iP0 rfl);calc Xa4 (x:=yw) (y:=yx) rfl λ_=>Xa4 (x:=yx) (y:=yx) rfl λz=>by cases z
def X01(i:Int)(B:F iw QUf S=.ok Qb S):den F G QE8 Q2U S=.ok Qb S:=by
 calc Xx (env0:=[yz QF0,yz QF0]) rfl QLC rfl;rw[iN0 V3];calc(Xb6 (t:=yw) (S1:=S) ?_).trans ?_;·exact Xa4 (x:=yw) (y:=yw) rfl λ_=>Xa4 (x:=yw) (y:=yw) rfl λ_=>rfl
 ·rw[iN0 V3];calc Xw (Xb7 (x:=yx) (y:=yx) QMA λ_=>Xfu ((Xdp i i S).trans QK5))
universe e
def Xi0{T:List Df}{G:LD}{iw k:Nat}(B:T[iw]?=yz Xbr){d:D}(h:pd d=yx)(S:Sto):FT T G QG5 iw [d] S=.ok QDF S:=by rw[Xg B];calc Xmd h S
section
variable{T:List Df}{G:LD}{iw is k:Nat}
def X02(hs:T[is]?=yz QE8)(b:Bool)(S:Sto):FT T G QG5 is QrK S=.ok Qb S:=by rw[Xg hs];calc X5k b
def X03(hs:T[is]?=yz QE8)(B:T[iw]?=yz Xbr)(i:Int)(S:Sto):FT T G QbR is Q2U S=.ok Qb S:=by rw[Xg hs];calc X01 i (Xi0 B rfl S)
def X04(hs:T[is]?=yz QE8)(B:T[iw]?=yz Xbr){l:LI}(hl:QX7<=big)(S:Sto):FT T G Qea is [Xa l,Xa l] S=.ok Qb S:=by rw[Xg hs];calc Xpl .tuple Qd0 rfl rfl rfl rfl Qp8 λz hz=>by let⟨i,_,rfl⟩:=Vs.mp hz;calc X03 hs B i S
def X05(hs:T[is]?=yz QE8)(L:T[iw]?=yz Xbr){x:D}{n:LL}{S:Sto}(B:kdD S x=yz .list)(hx:Xi S x=yz Qv)(hn:Q68<=big)(hl:∀l∈n,lg l<=big):FT T G QQU is Qjd S=.ok Qb S:=by rw[Xg hs];calc Xpl .list Qg6 B rfl hx rfl (by rw[Vf];calc hn) λz hz=>by let⟨l,h,rfl⟩:=Vs.mp hz;calc X04 hs L (hl l h) S
universe e
def Xpm{α:Type}(xs:List α)(n:Nat):cut xs yy QoE=xs.take n:=by
 unfold cut;let h1:Xdf QU QU QoE=min n QU:=by simp![Xdf]
 rw[h1];simp[Xdf,Vgw,Nat.sub_zero];by_cases c:n<=lg xs;·rw[Vc0 c]
 ·rw[Nat.min_eq_right Q0,Vfz,Vbk Q0]
section
variable{F:Fn}{G:LD}{S S1 S2:Sto}{env:En}{p it io:Nat}
def Xuk{i j:Nat}{a b:Ex}{x y:D}{ss:Sts}(h1:ev F G a env S=.ok x S1)(h2:ev F G b env S1=.ok y S2):pe F G (.cons (.par [i,j] Q06) ss) env S=pe F G ss (Ql4.set j QXf) S2:=Xep (ond (Xb h1 QzI) rfl)
def Xpn{a:Ex}{e:Ex}{xs:LD}{n:Nat}(h1:ev F G a env S=.ok QA1 S)(h2:ev F G e env S=.ok Q7K S):ev F G (.sli a .none QVS) env S=.ok (.tup QMX) S:=ond h1 (ond rfl (ond Q07 (congrArg Qab (congrArg D.tup (Xpm xs n)))))
def Xjs{a:Ex}{e:Ex}{xs:LD}{n:Nat}(h1:ev F G a env S=.ok QA1 S)(h2:ev F G e env S=.ok Q7K S):ev F G (.sli a QVS .none) env S=.ok (.tup QOX) S:=ond h1 (ond Q07 (ond rfl (congrArg Qab (congrArg D.tup (Xo7 xs n)))))
def Xaf{a b:Ex}{x y:LD}(h1:ev F G a env S=.ok (.tup x) S)(h2:ev F G b env S=.ok (.tup y) S)(h:Q8O+lg y<=100000):ev F G (.bin .add a b) env S=.ok QJV S:=by rw[Ys h1 h2];simp[Xn];calc iP0 (Xs h)
def Xds{e:Ex}{x:D}(h:ev F G e env S=.ok x S1):ev F G (.tup Q61) env S=.ok (.tup [x]) S1:=ond (Xb h rfl) (iP0 (show 1<=big by decide))
def Xx2{a b:Ex}{x y:D}(h:ev F G a env S=.ok x S1)(h2:ev F G b env S1=.ok y S2):ev F G (.tup Q06) env S=.ok QkP S2:=ond (Xb h (Xb h2 rfl)) (iP0 (show 2<=big by decide))
def Xul{e:Ex}{x:D}{xs:LD}(h:ev F G e env S=.ok x S1)(B:Xi S1 x=yz xs):ev F G (.blt .len Q61) env S=.ok Qq9 S1:=by
 rw[Yw h];cases x with
 |str z=>cases B|_=>simp[X6,B]
def X2a{i c:Nat}(h:env[i]?=yz QtM):ev F G (.cmp .lt QL1 Qf0) env S=.ok (.bl (decide (c<4))) S:=by calc(Ym QvR rfl).trans (Xab ?_);show yz (decide ((c:Int)<4))=_;congr 1;calc decide_eq_decide.mpr Q0
def Xx3{i j c:Nat}{x:D}{ds:LD}(hi:env[i]?=yz QDD)(hx:Xi S x=yz ds)(hs:∀t,x≠.str t)(L:env[j]?=yz QtM)(h4:4<=c)(B:c-4<lg ds):ev F G (.idx QL1 QmN) env S=.ok ds[c-4] S:=by
 let e:ev F G QmN env S=.ok (.int ((c-4:Nat):Int)) S:=by calc(Ys Qxf rfl).trans ?_;rw[Xr8];congr 2;omega
 calc(Xb8 QTN e).trans (Xcl hx hs B)
theorem Drs(F:Fn)(f:Nat)(args:LD)(P:D->Prop):Prop:=∀p S,Pot S p->∃v S1,Dw p S S1/\F f (.ref p::args) S=.ok v S1/\P v
def Xum{f j:Nat}{P:D->Prop}(L:Drs F f [] P)(hp:Pot S p)(B:env[j]?=yz QCE):∃v S1,Dw p S S1/\ev F G (.call f (.cons QMG .nil)) env S=.ok v S1/\P v:=by let⟨v,S1,h1,h2,h3⟩:=L p S hp;calc⟨v,S1,h1,(Xm QJb).trans h2,h3⟩
def Xe1{f j:Nat}{P:D->Prop}{e:Ex}{x:D}(hF:Drs F f [x] P)(hp:Pot S p)(B:env[j]?=yz QCE)(L:ev F G e env S=.ok x S):∃v S1,Dw p S S1/\ev F G QB7 env S=.ok v S1/\P v:=by let⟨v,S1,h1,h2,h3⟩:=hF p S hp;calc⟨v,S1,h1,(Xa1 QJb L).trans h2,h3⟩
def Xlg{f j n:Nat}{a:Ex}{xs:LD}(hF:Tks F f)(hp:Pot S p)(L:env[j]?=yz QCE)(ha:Cl a Qr9)(hn:QU=n)(hm:0<n)(B:n<=2000):
  ∃v∈xs,∃S1,Dw p S S1/\ev F G (.idx a (.call f (.cons QMG (.cons Q4a .nil)))) env S=.ok v S1:=by
 subst hn;calc Xxs (x:=.fro xs) hF hp L (X19 ha S) QQ2 Q11 rfl hm B
def Xag{α:Type}{xs:List α}{a k:Nat}(h:QU<=k):(xs.take a).length<=k:=V2 (List.length_take_le' ..) h
def Xd1{α:Type}{xs:List α}{a k:Nat}(h:QU<=k):(xs.drop a).length<=k:=V2 QcF h
def Xam{α:Type}{xs ys:List α}{k m:Nat}(h:QU<=k)(h2:Q5N<=m):Q0O.length<=k+m:=by rw[Uc];calc Nat.add_le_add h h2
def Xc5{α β:Type}{xs:List α}{f:α->β}{k:Nat}(h:QU<=k):Qe9.length<=k:=by rwa [Vf]
def Xx4{α:Type}{xs m:List α}{a b k j:Nat}(h:a<=b)(B:QU<=k)(L:QYa<=j):(xs.take a++m++xs.drop b).length<=k+j:=by simp[Uc,Vag,Vc6];omega
def adk{x y i j:Nat}(h:x<=i)(h2:y<=j)(B:i+j<=100000:=by decide):x+y<=100000:=V2 (Nat.add_le_add h h2) B
def sb4{c n:Nat}(h:¬ c<4)(h2:c<n+4):c-4<n:=by omega
def Xaw{α:Type}{P:α->Prop}{xs ys:List α}(h:∀x∈xs,P x)(h2:∀x∈ys,P x):∀x∈xs++ys,P x:=λx B=>QES.elim QNe (h2 x)
def Xfw{α:Type}{P:α->Prop}{xs:List α}{a:Nat}(h:∀x∈xs,P x):∀x∈xs.take a,P x:=λx B=>h x (Veo B)
def Xhs{α:Type}{P:α->Prop}{xs:List α}{a:Nat}(h:∀x∈xs,P x):∀x∈xs.drop a,P x:=λx B=>h x (Vem B)
def Xfx{α:Type}{P:α->Prop}{y:α}(h:P y):∀x∈[y],P x:=λx B=>by rw[V6.mp B];calc h
def Yd6{α:Type}{P:α->Prop}{y:α}(h:P y):∀x∈[y,y],P x:=Xaw (xs:=[y]) Qke Qke
def X2b{α:Type}{P:α->Prop}{xs:List α}(h:∀x∈xs,P x):∀x∈xs.reverse,P x:=λx B=>h x QYZ
def X2c{α:Type}{xs:List α}{k:Nat}(h:QU<=k):(lg xs.reverse)<=k:=by rwa [List.length_reverse]
def Xfy{k a b a' B:Nat}{ds:LD}(h:∀d∈ds,Sm a b d)(hl:QP3<=k)(ha:a+1<=a':=by decide)(L:k*QsX+3<=B:=by decide):Sm a' B QjD:=Xxt h ha QG9
def X2d{k a b a' B:Nat}{ds:LD}(h:∀d∈ds,Sm a b d)(hl:QP3<=k)(ha:a+1<=a':=by decide)(L:k*QsX+3<=B:=by decide):Sm a' B QM6:=Xxu h ha QG9
def Xm1{k B:Nat}{l:LI}(h:∀x∈l,x.natAbs<1000)(hl:QX7<=k)(L:k*6+3<=B:=by decide){a':Nat}(ha:1<=a':=by decide):Sm a' B Qx5:=(Xxv h).mono ha QG9
abbrev odds:LD:=[.non,.bl yx,.bl yw,.int (-1),.int 0,.int 16,.int (10^30),.str "",.str "0,1",.tup [],.tup Qnd,.fro Qnd,.tup QWf,.edc,.tup [.tup [.int 0,.int 1],.fro [.int 2]],.tup [.bl yx]]
def X5l:Cl Ql QnY:=by repeat' first|calc Xde|calc Xdr rfl|calc Xpg|calc Xph|calc Y2 ?_ ?_|calc Xpj ?_ Q1|calc Xe0 ?_ Q1|calc Xpi Q9 Q9
def X5m(hF:Tks F it):∀p S,Pot S p->∃v S1,Dw p S S1/\den F G Qpc QpK S=.ok v S1/\v∈odds:=λp S B=>by
 let hl:(lg odds)=16:=rfl;let⟨i,S1,h1,h2,L⟩:=Xbc (G:=G) (env:=[yz QX,yz QnY]) (S:=S) (S1:=S) (j:=0) (m:=16) (e:=.cst (.int 16)) hF rfl rfl (.rfl' B) Q1 Q1;calc⟨odds[i],S1,h2,Xez (p:=p) (env0:=[yz QX,yy]) rfl ((Xr (i:=1) (v:=.fro odds) (S1:=S) (X19 X5l S)).trans (Xw ((Xb8 (a:=.var 1) (x:=.fro odds) rfl L).trans (Xcl (xs:=odds) rfl Q11 Q0)))) h2 ?_,Vb1 _⟩;let:odds.all pd=true:=by decide+kernel
 calc Ug.mp this _ (Vb1 _)
def Xlh:∀d∈odds,Sm 5 2000 d:=Xpk Q9
abbrev bfD:LD:=[.int 16,.int (-1),.bl yx,.bl yw,.non,.str "1",.tup QWf,.fro QGX,.int QJf,.int 15]
def Yav:∀d∈bfD,Sm 2 1921 d:=Xpk Q9
theorem Smn(l:LI):Prop:=∀x∈l,x.natAbs<1000
def Smn.item{l:LI}(h:Smn l){d:D}(hd:d∈l.map D.int):Sm 2 1921 d:=by let⟨x,B,rfl⟩:=Vs.mp hd;calc(Xfv x QOe).mono Q1 Q1
abbrev Yaw(it:Nat)(ss:Sts):Sts:=.cons (.par [4,5] (.cons QkT (.cons (.call it QdA) .nil))) (.cons (.asg QA (.idx Qzb QkT)) ss)
def Yax{l:LI}(hF:Tks F it)(hO:Drs F io [] (·∈odds))(hn:Smn l)(hl:l.length<=6):∀p S,Pot S p->∃v S1,Dw p S S1/\den F G Q8Y [.ref p,Xa l] S=.ok v S1/\Sm 5 13500 v:=λp S hp=>by
 let ll:QZ.length=l.length:=Vf ..;let L:QZ.length<=6:=ll▸hl;let I:∀d∈l.map D.int,Sm 2 1921 d:=λd hd=>hn.item hd;let⟨c,S1,c1,c2,c3⟩:=Xbc (G:=G) (env:=Q99) (S:=S) (S1:=S) (j:=0) (m:=10) (e:=.cst Qsb) hF rfl rfl QgB Q1 Q1;let⟨a,S2,a1,a2,a3⟩:=Xbc (G:=G) (env:=Q99) (S:=S1) (S1:=S1) (j:=0) (m:=l.length+1) (e:=.bin .add QZ4 Q4) hF rfl (by calc(Ys (Xul (e:=.var 1) (xs:=l.map D.int) rfl rfl) rfl).trans ?_;rw[Xa0,ll];rfl) QcT (Nat.succ_pos _) (V2 (Vho hl) Q1);let⟨o,o1,B,o2,o3⟩:=Xlg (G:=G) (env:=[yz QX,yz Qx5,yy,yy,yz Qm5,yz Qp7]) (S:=S2) (j:=0) (a:=.frz Qi) (xs:=bfD) (n:=10) hF a2.pot rfl QR2 rfl Q1 Q1;let d3:Dw p S B:=QeU.trans o2;let so:=Yav o o1;let aa:∀ss,pe F G (Yaw it ss) Q99 S=pe F G ss Q50 B:=λss=>QtX.trans (Xr o3);let hv:ev F G Q5 Q50 B=.ok QEH B:=rfl;let tk:=Xpn hv (show ev F G QE4 _ B=.ok Qp7 B from rfl);let c4:=X2a (F:=F) (G:=G) (env:=Q50) (S:=B) (i:=4) (c:=c) rfl;by_cases h4:c<4
 ·rw[decide_eq_true h4]at c4;let m2:ev F G QZ9 Q50 B=.ok (.int ((a+c%2:Nat):Int)) B:=by
   calc(Ys rfl ((Ys rfl rfl).trans (Xdd (i:=c) (show(0:Int)<2 by decide) B))).trans ?_;rw[Xa0];rfl
  let r:=Xaf (Xaf tk (Xds (show ev F G QA _ B=.ok o B from rfl)) (adk QqJ QJ8)) (Xjs hv m2) (adk (Xam QqJ QJ8) Qpe);let sm:Sm 5 13500 (.tup (QZ.take a++[o]++QZ.drop (a+c%2))):=Xfy (Xaw (Xaw Qle (Xfx so)) Qhe) (Xx4 Q4d L QJ8);calc⟨_,B,d3,Xez (p:=p) rfl QnO d3 sm.pd,sm⟩;rw[iP0 rfl,Xw r]
 rw[decide_eq_false h4]at c4;let⟨w,S4,w1,w2,w3⟩:=Xum (G:=G) (env:=Q50) (j:=0) hO d3.pot rfl;let d4:=d3.trans w1;let ab:ev F G Q5 Q50 S4=.ok QEH S4:=rfl;let ae:=Xaf (Xaf (Xpn ab (show ev F G QE4 _ S4=.ok Qp7 S4 from rfl)) (Xpn (n:=1) (e:=.cst QG) ab rfl) (adk QqJ QqJ)) (Xjs ab (show ev F G QE4 _ S4=.ok Qp7 S4 from rfl)) (adk (Xam QqJ QqJ) Qpe);let fr:ev F G QW6 Q50 B=.ok (.fro QZ) B:=Ye (show _=_ from rfl) QJA;let all:=Xb fr (Xb (e:=.rev Q5) (x:=.tup QZ.reverse) (S1:=B) rfl (Xb (Xaf hv hv (adk L L)) (Xb (Xds hv) (Xb w2 (Xb ae Xz)))));let sm:∀d∈Qc2,Sm 5 13500 d:=by
  calc Yar ?_ ?_ ?_ ?_ ?_ ?_;·exact X2d I L
  ·exact Xfy (X2b I) (X2c L)
  ·rw[<-Val];exact Xm1 (Xaw hn hn) (Xam hl hl)
  ·exact Xfy (a:=1) (b:=39) (Xfx (Xm1 hn hl)) QJ8
  ·exact QQZ.mono Q1 Q1
  rw[<-Vf9,<-Vf9,<-List.map_drop,<-Val,<-Val];exact Xm1 (Xaw (Xaw Qqc Qqc) (Xhs hn)) (Xam (Xam Q0d Q0d) (Xd1 hl))
 let hb:=pds_bd B.length QiC;let fl:=Xad all QWK w1.sim hb;generalize af:Qc2=ds at sm hb fl;let h6:QP3=6:=by rw[<-af];rfl
 let hc:c-4<lg ds:=h6▸sb4 h4 c1;let ac:=sm _ QBd;calc⟨ds[c-4],S4,d4,Xez (p:=p) rfl QnO d4 ac.pd,ac⟩;rw[iN0 V3];calc(Xr (i:=3) fl).trans (Xw (Xx3 (x:=.fro ds) rfl rfl Q11 rfl Q2d hc))
def Xpo{e:Ex}{n:LL}(B:n≠[])(hl:Q68<100000)(L:ev F G e env S=.ok Qc1 S):ev F G (.blt .tuple (.cons (.frz QiO) .nil)) env S=.ok (Xc Qza) S:=by
 let s:ev F G QiO env S=.ok Q7 (S++[.lst (Qza.map Xa)]):=by rw[Yw L];show X6 .sorted [.tup Qv] S=_;simp[X6,Xi,Xk6 B,Xfr,Xm8,iP0 hl];rfl
 rw[Yw (Ye s Q01)];rfl
def Xe2(a b:LL):D.tup (a.map Xa++b.map Xa)=Xc Qva:=by rw[<-Val];rfl
theorem Rws(k:Nat)(n:LL):Prop:=lg n<=k/\∀s∈n,lg s<=7/\Smn s
def Rws.item{k:Nat}{n:LL}(h:Rws k n):∀d∈n.map Xa,Sm 1 45 d:=λd hd=>by let⟨x,B,rfl⟩:=Vs.mp hd;calc Xm1 Qoa.2 Qoa.1
def Rws.net{k:Nat}{n:LL}(h:Rws k n)(B:k<=100):Sm 7 165000 Qc1:=Xfy h.item (k:=100) (by rw[Vf];calc V2 h.1 B)
abbrev Yay(it B:Nat)(ss:Sts):Sts:=.cons (.par [5,6] (.cons (.call it Q2B) (.cons (.call it QPH) .nil))) (.cons QkV (.cons QpD ss))
def Yaz{ib:Nat}{n:LL}(hF:Tks F it)(hO:Drs F io [] (·∈odds))(hB:∀l,Smn l->lg l<=6->Drs F ib Q2I QZL)(h0:n≠[])(hn:Q68<=11)(hs:∀s∈n,lg s<=6/\Smn s):
  ∀p S,Pot S p->∃v S1,Dw p S S1/\den F G (Xcj io ib it) QEX S=.ok v S1/\Sm 7 165000 v:=λp S hp=>by
 let ah:0<lg n:=Vgd.mpr h0;let ll:Qv.length=lg n:=Vf ..;let hm:Qv.length<=11:=ll▸hn;let⟨c,S1,c1,c2,c3⟩:=Xbc (G:=G) (env:=Qh7) (S:=S) (S1:=S) (j:=0) (m:=13) (e:=.cst (.int 13)) hF rfl rfl QgB Q1 Q1;let⟨a,S2,a1,a2,a3⟩:=Xbc (G:=G) (env:=Qh7) (S:=S1) (S1:=S1) (j:=0) (m:=n.length) (e:=.blt .len Qo) hF rfl (by rw[Xul (e:=.var 1) (xs:=n.map Xa) rfl rfl,ll]) QcT ah (V2 hn Q1);let ma:=Vb1 a1;let ac:=hs _ ma;generalize aj:n[a]=B at ac ma;let ix:ev F G QBK [yz QX,yz Qc1,yy,yy,yy,yz Qm5,yz Qp7] S2=.ok QIb S2:=by calc(Xb8 (a:=.var 1) (b:=.var 6) rfl rfl).trans ((Xcl (x:=Xc n) (xs:=n.map Xa) rfl Q11 (i:=a) (ll▸a1)).trans ?_);rw[List.getElem_map,aj]
 let⟨b,L,b1,b2,b3⟩:=Xe1 (G:=G) (env:=[yz QX,yz Qc1,yz QIb,yy,yy,yz Qm5,yz Qp7]) (S:=S2) (j:=0) (e:=.var 2) (hB B ac.2 ac.1) a2.pot rfl rfl;let d3:Dw p S L:=QeU.trans b1;let ab:∀ss,pe F G (Yay it ib ss) Qh7 S=pe F G ss Qm2 L:=λss=>QtX.trans ((Xr (i:=2) ix).trans (Xr (i:=3) b2));let c4:=X2a (F:=F) (G:=G) (env:=Qm2) (S:=L) (i:=5) (c:=c) rfl;let up:∀(x4:Option D) (S:Sto),ev F G (.bin .add QH1 Q4) QO0 S=.ok (.int ((a+1:Nat):Int)) S:=λ_ _=>rfl;let hv:∀(x4:Option D) (S:Sto),ev F G Q5 QO0 S=.ok (.tup Qv) S:=λ_ _=>rfl;let tk:∀(x4:Option D) (S:Sto),ev F G Q45 QO0 S=.ok (.tup (Q9Z.map Xa)) S:=λx4 S=>by rw[Vf9];exact Xpn Qja rfl
 let dr:∀(x4:Option D) (S:Sto),ev F G QI2 QO0 S=.ok (.tup (QzS.map Xa)) S:=λx4 S=>by rw[List.map_drop];exact Xjs Qja (up x4 S)
 let rn:∀s∈n,lg s<=7/\Smn s:=λs h=>⟨Nat.le_succ_of_le QWc.1,QWc.2⟩;let rd:Q5L<=7/\Smn B:=rn _ ma;let rs:∀ {m:LL} {k:Nat},(∀s∈m,lg s<=7/\Smn s)->lg m<=k->(h:k<=100:=by decide)->Sm 7 165000 (Xc m):=λh1 h2 h3=>Rws.net ⟨h2,h1⟩ h3;by_cases h4:c<4
 ·rw[decide_eq_true h4]at c4;let r:=Xaf (Xaf QKa (Xds (show ev F G QF _ L=.ok b L from rfl)) (adk QF9 QJ8)) Qsa (adk (Xam QF9 QJ8) QNI);let sm:Sm 7 165000 (.tup (Q9Z.map Xa++[b]++QzS.map Xa)):=by
   rw[Vf9,List.map_drop];let I:∀d∈n.map Xa,Sm 5 13500 d:=λd hd=>(Rws.item ⟨hn,rn⟩ d hd).mono Q1 Q1;exact Xfy (Xaw (Xaw Qle (Xfx b3)) Qhe) (Xx4 Q7S hm QJ8)
  calc⟨_,L,d3,Xez (p:=p) rfl QmO d3 sm.pd,sm⟩;rw[iP0 rfl,Xw r]
 ·rw[decide_eq_false h4]at c4;let v2:∀(x4:Option D) (S:Sto),ev F G QA QO0 S=.ok (.tup (B.map D.int)) S:=λ_ _=>rfl;let l1:=Xaf QKa Qsa (adk QF9 QNI);let l3:=Xaf QEL (Xpn (n:=1) (e:=.cst QG) QEL rfl) (adk hm (Xag hm));let l4:ev F G QW6 Qm2 L=.ok QNR L:=Ye (show _=_ from rfl) Q01;let l5:=Xds QEL;let l6:=Xpo (n:=n++Q8c) QB QVL ((Xaf QEL (Xds (Xjs (n:=1) (e:=.cst QG) (v2 yy L) rfl)) QVW).trans (by rw[<-List.map_drop];calc congrArg Qbb (Xe2 n Q8c)));let all1:=Xb l1 (Xb (e:=.rev Q5) (x:=.tup Qv.reverse) (S1:=L) rfl (Xb l3 (Xb l4 (Xb l5 (Xb l6 Xz)))));let ae:∀d∈Qi1,Sm 7 165000 d:=by
   calc Yar ?_ ?_ ?_ ?_ ?_ ?_;·rw[Xe2];exact rs (Xaw QyU Qnc) (Xam Q0V Qtc)
   ·rw[<-List.map_reverse];exact rs (X2b rn) (X2c hn)
   ·rw[<-Vf9,Xe2];exact rs (Xaw rn QyU) (Xam hn Q0V)
   ·exact X2d QXK hm
   ·exact Xfy (a:=6) (b:=1000) (Xfx (Xfy QXK hm)) QJ8
   exact rs (λs h=>Xaw rn (Xfx ⟨V2 QcF rd.1,Xhs rd.2⟩) s QKR) QiH
  let f1:=Xad all1 QWK .rfl' (pds_bd L.length (pds_iff.mpr λd hd=>(ae d hd).pd));generalize ai:Qi1=ds at ae f1;let h6:QP3=6:=by rw[<-ai];rfl
  let⟨w,S4,w1,w2,w3⟩:=Xum (G:=G) (env:=[yz QX,yz Qc1,yz QIb,yz b,yz QM6,yz Qm5,yz Qp7]) (j:=0) hO d3.pot rfl;let d4:=d3.trans w1;let k1:=Xpo (n:=n++QjM) QB QVL ((Xaf (hv Q2G L) (Xds (Xaf (v2 Q2G L) (Xds (e:=.cst QmL) (x:=.int 15) rfl) (adk (Xc5 rd.1) QJ8))) QVW).trans (by rw[show D.tup (B.map D.int++[.int 15])=Xa Qhb by unfold Xa;rw[Val];rfl];calc congrArg Qbb (Xe2 n QjM)));let k3:=Xaf (Xaf (tk Q2G S4) (Xx2 QQX QQX) (adk QF9 QOb)) (dr Q2G S4) (adk (Xam QF9 QOb) QNI);let Xui:=Xb k1 (Xb w2 (Xb k3 Xz));let af:∀d∈[Xc QoU,w,.tup QF1],Sm 7 165000 d:=by
   calc X0v ?_ ?_ ?_;·exact rs (λs h=>Xaw rn (Xfx ⟨show Qhb.length<=6+1 from Xam ac.1 QJ8,Xaw rd.2 (Xfx Q1)⟩) s QKR) QiH
   ·exact QQZ.mono Q1 Q1
   let e:D.tup QF1=Xc (n.take a++[B,B]++n.drop (a+1)):=by rw[<-Xe2,Val];rfl
   rw[e];exact rs (Xaw (Xaw QyU (Yd6 rd)) Qnc) (Xam (Xam Q0V QOb) Qtc)
  let f2:=Xad Xui QDA w1.sim (pds_bd L.length (pds_iff.mpr λd hd=>(af d hd).pd));generalize ak:[Xc QoU,w,D.tup QF1]=aa at af f2;let h3:(lg aa)=3:=by rw[<-ak];rfl
  let sm:∀d∈ds++aa,Sm 7 165000 d:=λd hd=>(Uo.mp hd).elim (ae d) (af d);let f3:=Xer (xs:=ds++aa) ((Ys (a:=.var 4) rfl f2).trans (Xld ds aa (Xs (by rw[h6,h3];decide)) S4)) w1.sim (pds_bd L.length QiC);let hc:c-4<QcU.length:=by rw[Uc,h6,h3];exact sb4 h4 c1
  let ag:=sm _ QBd;calc⟨QcU[c-4],S4,d4,Xez (p:=p) rfl QmO d4 ag.pd,ag⟩;rw[iN0 V3];calc(Xr (i:=4) f1).trans ((Xr (i:=4) f3).trans (Xw (Xx3 (x:=.fro QcU) rfl rfl Q11 rfl Q2d hc)))
universe e
structure Fc(s:LI):Prop where
 pw:s.Pairwise Qg3
 l6:(lg s)<=6
 r15:∀x∈s,0<=x/\x<=15
def Fc.smn{s:LI}(h:Fc s):Smn s:=λx B=>by let:=h.r15 x B;omega
def Fc.fac{s:LI}(h:Fc s):Yk Q0J=true:=by
 let e:Q0D=true:=by rw[Vfs,Ug];intro x B;let:=h.r15 x B;simp[Function.comp,wi,bA0,decide_eq_true_eq];exact this
 show(decide ((s.map D.int).length<=6)&&(Q0D&&riz (Xj Q0J)))=yx;rw[e,ints_of,Vf,decide_eq_true h.l6,(Xpa s).mpr h.pw];rfl
def lie_sub{a b:LI}:lie a b=yx ↔ ∀x∈a,x∈b:=by unfold lie;rw[Ug];calc forall_congr' λx=>forall_congr' λ_=>decide_eq_true_iff
def Xmf:∀(l m:LI),l.Nodup->(∀x∈l,x∈m)->lg l<=lg m
 |[],_=>λ_ _=>Van _|x::l,m=>λh hs=>by let⟨h1,h2⟩:=Vdd.mp h;let:=Xmf l (m.erase x) h2 λy B=>(List.mem_erase_of_ne λe=>h1 (by rw[<-e];calc B)).mpr (hs y QLA);let e:=List.length_erase_of_mem Qka;let:=List.length_pos_of_mem Qka;rw[U4];omega
def Ya0{f o:LI}(L:f.Pairwise Qg3)(ho:o.Pairwise Qg3)(h:∀x∈f,x∈o)(hl:(lg o)<=lg f):o=f:=by
 let nd:f.Nodup:=L.imp λh=>Int.ne_of_lt h;exact Xiv ho L λx=>⟨λhx=>?_,h x⟩;by_cases c:x∈f;·exact c
 ·let:=Xmf (x::f) o (Vdd.mpr ⟨c,nd⟩) (λy B=>by
   rcases Vu.mp B with rfl|B;·exact hx
   ·calc h y B)
  rw[U4]at this;omega
def Xx5:∀ {ks:LL},ks≠[]->∃f∈ks,∀o∈ks,lg o<=lg f
 |[],h=>aB0 rfl h|[k],_=>⟨k,by simp!,λo B=>by rw[V6.mp B];calc Vi _⟩|k::l::r,_=>by
  let⟨f,h1,h2⟩:=Xx5 (ks:=l::r) QB;by_cases c:(lg k)<=lg f
  ·exact⟨f,V4 _ h1,λo B=>by
    rcases Vu.mp B with rfl|B;·exact c
    ·calc h2 o B⟩
  exact⟨k,V8 ..,λo B=>by
   rcases Vu.mp B with rfl|B;·exact Vi _
   ·let:=h2 o B;omega⟩
def Xso{ks:LL}{y:LI}(h:y∈grt ks):y∈ks:=ddL_mem.mp (srtC_mem.mp QaZ.1)
def X5n(ks:LL):QAG.length<=lg ks:=V2 Q1S (by rw[Xdq];calc Xgq ks)
def Ya1{ks:LL}(h0:ks≠[])(L:∀s∈ks,s.Pairwise Qg3):grt ks≠[]:=by
 let⟨f,h1,h2⟩:=Xx5 h0;calc List.ne_nil_of_mem (Va3.mpr ⟨srtC_mem.mpr (ddL_mem.mpr h1),Ug.mpr λo B=>?_⟩);rw[Vb7];cases q:lie f o with
 |false=>calc .inr rfl|true=>calc .inl (decide_eq_true (Ya0 (L f h1) (L o B) (lie_sub.mp q) (h2 o B)))
def Ya2(ks:LL):PwL QAG:=QtR.filter _
structure Nt(k:Nat)(n:LL):Prop where
 ne:n≠[]
 len:Q68<=k
 fc:∀s∈n,Fc s
 pw:PwL n
 nsn:Xgp n=yw
def Ya3{k:Nat}{ks:LL}(L:ks≠[])(hk:QDB<=k)(B:∀s∈ks,Fc s):Nt k QAG where
 ne:=Ya1 L λs h=>(B s h).pw
 len:=V2 (X5n ks) hk
 fc:=λs h=>B s (Xso h)
 pw:=Ya2 ks
 nsn:=by
  unfold Xgp;rw[List.any_eq_false];intro f hf z;unfold liA at z;let⟨o,ho,z⟩:=Vca.mp z;rw[bA0]at z;let:=Ug.mp (Va3.mp hf).2 o (Xso ho);rw[Vb7,z.1,decide_eq_true_eq]at this;rcases this with e|e;·rw[e]at z;simp! at z
  ·cases e
def Nt.isN{k:Nat}{n:LL}(h:Nt k n)(hk:k<=60):Yb Qc1=true:=by
 let e:Qv.map Xj=n:=by rw[Vbq];exact(List.map_congr_left λs _=>ints_of s).trans (List.map_id n)
 let hl:=h.len;let L:=Vgd.mpr h.ne;let B:Qv.all Yk=true:=by rw[Vfs,Ug];exact λs hs=>QAA.fac
 show((decide (1<=Qv.length)&&decide (Qv.length<=60))&&(Qv.all Yk&&(rzL QTY && !Xgp QTY)))=yx;rw[e,B,Vf,decide_eq_true (show 1<=lg n by omega),decide_eq_true (show Q68<=60 by omega),QwX.mpr h.pw,h.nsn];rfl
def Nt.rws{k:Nat}{n:LL}(h:Nt k n):Rws k n:=⟨h.len,λs hs=>⟨by let:=QAA.l6;omega,QAA.smn⟩⟩
section
variable{F:Fn}{G:LD}{S S1 S2:Sto}{env:En}{p it:Nat}
def Xsp(n:Nat)(o:O)(h:bdO QE o=yx):Sim S QRY:=⟨Vdf,λj q e=>by
 by_cases c:n=j;·subst c;let hl:=QzR.1;rw[Vdf]at hl;rw[Vau hl]at e;cases e;exact .inr h
 ·rw[Vav c]at e
  calc .inl e⟩
def Sim.trans(a:Sim S S1)(b:Sim S1 S2):Sim S S2:=⟨b.1.trans a.1,λi o e=>by
 rcases b.2 i o e with h|h;·exact a.2 i o h
 ·calc .inr (by rw[<-a.1];calc h)⟩
def Xjt{n:Nat}{xs:LD}(h:S[n]?=yz QB1):Xl S n=yz xs:=by unfold Xl;rw[h]
def Ya4{i n:Nat}{xs:LD}(hi:env[i]?=yz QRJ)(L:S[n]?=yz QB1)(B:bdDs QE xs=yx):ev F G Q1a env S=.ok Qr9 QGC:=by show gcR S (Xa2 (ev F G QL1 env S))=_;rw[X3 hi];simp[Xa2,L];let hs:Sim S QGC:=Xsp _ _ rfl;let:=Xdn (d:=.fro xs) hs B [];rw[Vaw]at this;calc this
def Ya5{i n:Nat}{e:Ex}{v:D}{xs:LD}(hi:env[i]?=yz QRJ)(h1:Q09.isSome=yx)(B:ev F G e env S=.ok v S1)(L:S1[n]?=yz QB1)(hz:QU<big):ev F G QbK env S=.ok .non (S1.set n (.lst QFa)):=by let l:lstM S1 n=yz xs:=Xjt L;rw[Xhm QTN h1 B];simp[Y4,l,iP0 hz]
def Xsq{get:Sto->Nat->Option Qw3}{t:Tg}{body:En->LD->Sto->R (LD)}(zs:LD)(T:D->En)(P:Nat->LD->Sto->Prop)(hs:∀i B S,P i B S->get S i=yz zs[i]?)(hT:∀x∈zs,∀y∈zs,X0 t x QXb=yz QTI)
  (hb:∀i x B S,zs[i]?=yz x->P i B S->∃L S',body QTI B S=.ok L S'/\P QC2 L S'):
  ∀(n i:Nat) (e:En) (B:LD) (S:Sto),lg zs-i<n->i<=lg zs->QI7->P i B S->∃L S',Yy get t body n i e B S=.ok L S'/\P Q9A L S'
 |0=>λi e B S h=>aB0 h QP7|n+1=>λi e B S h hi h0 hP=>by
  rw[Yy,hs i B S hP];cases q:zs[i]? with
  |none=>
   let:i=lg zs:=by let:=Uz.mp q;omega
   subst this;calc⟨B,S,rfl,hP⟩|some x=>let hx:=V5 q;let lt:=QzG.1;let⟨L,S',h1,h2⟩:=hb i x B S q hP;dsimp;rw[h0 x hx];dsimp;rw[h1];calc Xsq zs T P hs hT hb n QC2 _ L S' Q0 Q0 (λy hy=>hT y hy x hx) h2
def Ya6{n i:Nat}{it:It}{elt:Ex}(zs:LD)(P:Nat->LD->Sto->Prop)(hi:evit F G it env S=.ok QWB S1)(h0:P 0 [] S1)
  (hb:∀j x B S,zs[j]?=yz x->P j B S->lg B<big/\∃y S',ev F G elt QY3 S=.ok y S'/\P QuB QZO S'):
  ∃L S',ev F G QX2 env S=.ok (.ref (lg S')) (S'++QTf)/\P Q9A L S':=by
 let⟨L,S',h1,h2⟩:=Xsq (get:=Q29.get) (t:=.var i) (body:=Xal (λenv S=>evts F G .nil env S) λenv B S=>(ev F G elt env S).bind λy S=>if Q5L<big then .ok QZO S else .bad) zs Q3M P QRF QY5
  (λj x B S hx hP=>by let⟨hz,y,S',e1,e2⟩:=hb j x B S hx hP;calc⟨B++[y],S',?_,e2⟩;show(ev F G elt QY3 S).bind _=_;rw[e1,Rk0,iP0 hz]) QLS 0 Qx0 [] S1 QU6 QL8 QU3 h0
 calc⟨L,S',?_,h2⟩;calc ond hi (ond h1 rfl)
def Xx6:∀(l:LI) (a:Nat),QZ.eraseIdx a=(l.eraseIdx a).map D.int
 |[],_=>rfl|_::_,0=>rfl|x::l,a+1=>congrArg _ (Xx6 l a)
def Xju:∀(l:LI) (a:Nat) (h:a<lg l),(l[a]::l.eraseIdx a).Perm l
 |x::l,0,h=>Vb6 _|x::l,a+1,h=>by let ih:=Xju l a QD2;rw[List.eraseIdx_cons_succ,List.getElem_cons_succ];calc QEY.trans (List.Perm.cons x ih)
def Xun{far:Nat}{ps L:LI}(h:Q5e.Perm Qf1):ps.Nodup/\∀x∈ps,0<=x/\x<far:=by
 let nd:Qf1.Nodup:=by calc List.Pairwise.map _ (λa b h=>?_) List.nodup_range;intro z;exact h (Int.ofNat.inj z)
 let B:=h.nodup_iff.mpr nd;calc⟨(Vcg.mp B).1,λx hx=>?_⟩;let hm:=h.mem_iff.mp (Vbi L hx);let⟨i,hi,rfl⟩:=Vs.mp hm;let:=Va9.mp hi;constructor;·exact Vgt i
 ·calc Int.ofNat_lt.mpr this
def Ya7{l:LI}(h:l.Pairwise QbH)(nd:l.Nodup):l.Pairwise Qg3:=(h.and nd).imp λh=>by omega
def X5o{jp jl jw jx:Nat}{far w:Nat}{B:Sto}(hF:Tks F it)(hp:Pot B p)(h0:env[jp]?=yz QCE)(hl:env[jl]?=yz (yz (.ref B.length)))(hw:env[jw]?=yz (yz Qo7))(hx:jp<lg env/\jl<lg env)(hj:QUc<jx)(al:w<=far)(am:w<=6)(hf:far<=16):
  ∃s L B',Fc s/\Dw p B B'/\ev F G (.blt .tuple (.cons (.frz QS0) .nil)) env (B++QOC)=.ok Q0J (B'++QTf):=by
 let ai:((Vq far).map λk:Nat=>D.int k)=Qf1.map D.int:=by rw[Vbq];rfl
 rw[ai];let ab:∀(j:Nat) (x:D) (v:Option D),j<lg env->QF7[j]?=env[j]?:=λj x v h=>by rw[Vav Q0,Vx h]
 let⟨aj,S',e1,B',L,ps,rfl,d1,rfl,l1,pm⟩:=Ya6 (F:=F) (G:=G) (env:=env) (S:=B++Qq4) (S1:=B++Qq4) (n:=2) (i:=jx) (it:=.rng (.cons (.var jw) .nil)) (elt:=.mth .popi (.var jl) (.cons (.call it (.cons (.var jp) (.cons (.blt .len QcK) .nil))) .nil))
  ((Vq w).map λk:Nat=>.int k) (λi af S'=>∃B' L ps,S'=B'++Q1A/\Dw p B B'/\af=ps.map D.int/\Qq5=i/\Q5e.Perm Qf1)
  (Xct (n:=w) (by rw[X3 hw]) Q0) ⟨B,_,[],rfl,.rfl' hp,rfl,rfl,Vb6 _⟩ (λj x af S' ah hP=>by
   let⟨B',L,ps,rfl,d1,rfl,l1,pm⟩:=hP;let ak:j<w:=by let:=(Vk.mp ah).1;simpa using this
   let aa:=pm.length_eq;rw[Uc,Vf,U9]at aa;let g0:QF7[jp]?=yz QCE:=by rw[ab jp x yy hx.1];exact h0
   let g1:QF7[jl]?=yz (yz QmQ):=by rw[ab jl x yy hx.2,hl,d1.len]
   let la:∀(B:Sto) (xs:LD),Xl (B++Qod) Q5L=yz xs:=λB xs=>Xck B xs;let⟨a,S2,a1,a2,a3⟩:=Xbc (G:=G) (env:=(env++Vn 2 yy).set jx QDD) (S:=B'++Q1A) (S1:=B'++Q1A) (j:=jp) (m:=L.length) (e:=.blt .len QcK) hF g0 (by rw[Xul (xs:=L.map D.int) Qxe (la B' _),Vf]) (.rfl' (d1.pot.app _)) Q0 Q0;let⟨B2,rfl,d2⟩:=Dw.inv d1.pot a2;let ag:Z.ixN Q52.length (a:Int)=yz a:=by unfold Z.ixN;rw[iP0 Q0,iP0 QkR];simp!
   let hg:Q52[a]?=yz (.int L[a]):=by rw[Ui,Uw a1];rfl
   let hb:Q52.length<big:=Vaa (show _<=99 by rw[Vf];omega) Q1;let lm:lstM (B2++Q1A) (lg B')=yz Q52:=by rw[<-d2.len];exact la B2 _
   exact⟨Vaa (show _<=99 by rw[Vf];omega) Q1,.int L[a],B2++[.lst ((L.eraseIdx a).map D.int)],?_,B2,L.eraseIdx a,ps++[L[a]],rfl,d1.trans d2,by rw[Val];rfl,by rw[Uc,l1];rfl,?_⟩
   ·let rc:Xbf .popi QmQ Qib=true:=by simp[Xbf,la,Option.isSome]
    rw[Xhm Qxe rc a3];simp[Y4,lm,ag,hg,iP0 hb];rw[Xx6,<-d2.len,Xbb]
   rw[Ub,Vhy]
   calc((Xju L a a1).append_left ps).trans pm)
 let⟨nd,mm⟩:=Xun pm;rw[Vf,U9]at l1;let aa:=pm.length_eq;rw[Uc,Vf,U9]at aa;let ac:Sim QPd Qib:=(d1.app Qq4).sim.trans (by rw[<-Xbb B' (.lst (Qf1.map D.int)) (.lst Q52)];calc Xsp _ _ QJA);let f1:=Xer e1 ac QJA;let hs:ev F G QS0 env QPd=.ok (.ref (B'++[O.lst Q52]).length) (B'++Q1A++[.lst ((Xbt ps).map D.int)]):=by rw[Yw f1];simp[X6,Xi,Xa8];rw[iP0 Q0]
 let ae:=Xbw ps;calc⟨Xbt ps,L.map D.int,B',⟨Ya7 (Xg6 ps) (ae.nodup_iff.mpr nd),by rw[ae.length_eq];omega,λx hx=>by let:=mm x (ae.mem_iff.mp hx);omega⟩,d1,?_⟩;rw[Yw (Xer hs ac QJA)];rfl
universe e
def Xht(B:Sto)(o:O)(X:Sto):Qgb[B.length]?=yz o:=by rw[U7 Qw,Nat.sub_self];rfl
def Xsr(B:Sto)(o o':O)(X:Sto):Qgb.set B.length o'=B++o'::X:=by rw[Vfr _ _ Qw,Nat.sub_self];rfl
section
variable{F:Fn}{G:LD}{S S1 S2:Sto}{env:En}{p it:Nat}
def Xuo{f j n c M:Nat}{ci ni:Int}{a:Ex}{ms:LN}(hF:Tks F f)(hp:Pot S p)(h0:env[j]?=yz QCE)(ha:Cl a (.fro (ms.map λm:Nat=>.int m)))(hn:(lg ms)=n)(h1:0<n)(h2:n<=2000)(hm:∀m∈ms,0<m/\m<=M)(hM:M<=2000)(L:ci=(c:Int):=by rfl)(B:ni=(n:Int):=by rfl):
  ∃(y:Nat) (S1:Sto),(c<=y/\y<c+M)/\Dw p S S1/\ev F G (.bin .add (.cst (.int ci)) (.call f (.cons QMG (.cons (.idx a (.call f (.cons QMG (.cons (.cst (.int ni)) .nil)))) .nil)))) env S=.ok QQV S1:=by
 subst L B;let⟨v,hv,S2,b1,b2⟩:=Xlg (G:=G) hF hp h0 ha (by rw[Vf,hn]) h1 h2;let⟨m,aa,rfl⟩:=Vs.mp hv;let:=hm m aa;let⟨x,S3,c1,c2,c3⟩:=Xbc (G:=G) (m:=m) hF h0 b2 b1 this.1 Q0;calc⟨c+x,S3,by omega,c2,(Ys rfl c3).trans ?_⟩;rw[Xa0];rfl
def Yc7{lv y siz:Nat}(h:lv<3)(B:y<=6)(hs:siz<=6):∃z:Nat,z<=6/\([D.int (y:Nat),.int (siz:Nat),.int (siz:Nat)])[lv]=.int (z:Nat):=by
 rcases (by omega:lv=0\/lv=1\/lv=2) with rfl|rfl|rfl;·exact⟨y,B,rfl⟩
 ·exact QoS
 calc QoS
def Ya8{f lv far siz:Nat}{x4 x5 x6 x7:Option D}(hF:Tks F f)(hp:Pot S p)(B:lv<3)(h6:siz<=6):
  ∃w S1,w<=far/\w<=6/\Dw p S S1/\ev F G (.blt .min (.cons QA (.cons (.idx (.frz (.lst (.cons (.call f QS1) QDK))) Q5) .nil))) Q76 S=.ok QIC S1:=by
 let⟨y,S1,a1,a2,a3⟩:=Xbc (G:=G) (env:=Q76) (j:=0) (m:=7) (e:=.cst QTV) hF rfl rfl QgB Q1 Q1;let fl:=Xad (Xb a3 (Xb (e:=.var 3) (x:=.int (siz:Nat)) (S1:=S1) rfl (Xb (e:=.var 3) (x:=.int (siz:Nat)) (S1:=S1) rfl Xz))) QDA a2.sim rfl;let L:=(Xb8 fl (show ev F G Q5 _ S1=.ok Qn1 S1 from rfl)).trans (Xcl (xs:=[.int (y:Nat),.int (siz:Nat),.int (siz:Nat)]) rfl Q11 B);obtain⟨z,hz,ez⟩:∃z:Nat,z<=6/\([D.int (y:Nat),.int (siz:Nat),.int (siz:Nat)])[lv]=.int (z:Nat):=Yc7 B Q0 h6;rw[ez]at L;calc⟨if z<far then z else far,S1,by split<;>omega,by split<;>omega,a2,?_⟩;let e1:∀env:En,env[2]?=yz QHc->∀e,ev F G e env S=.ok (.int (z:Nat)) S1->ev F G (.blt .min (.cons QA Q61)) env S=.ok (.int (if (z:Int)<(far:Int) then (z:Int) else (far:Int))) S1:=λenv h e he=>ond (Xb QvR (Xb he Xz)) rfl;rw[e1 _ rfl _ L];congr 2;split<;>split<;>omega
def Ya9:Cl Q0a (.fro (QRf.map λm:Nat=>.int m)):=Xe0 QKO Q1
def Yba:Cl QzZ (.fro ([3,4,6].map λm:Nat=>.int m)):=Xe0 QKO Q1
def Ybb:Cl QpP (.fro ([4,11].map λm:Nat=>.int m)):=Xe0 QF6 Q1
def Yc8{i far:Nat}(h:env[i]?=yz QHc)(B:far<1048576):ev F G (.lrg yw QrQ) env S=.ok Q7 (S++QOC):=ond (Xb QvR Xz) (by rw[Xsk far B];rfl)
inductive LnI(p lv far siz:Nat)(S3:Sto):Nat->En->Sto->Prop
 |mk {B:Sto} {ks:LL} {i:Nat} (X:Sto) (x5 x6 x7:Option D) (dB:Dw p S3 B) (lk:QDB=i) (fk:∀s∈ks,Fc s):LnI p lv far siz S3 i [yz QX,yz Qn1,yz QmF,yz (.int (siz:Nat)),yz QT3,x5,x6,x7] QOd
def X06{ig:Nat}(hF:Tks F it)(hG:∀ks S,lg ks<1000->(∀s∈ks,lg s<=big)->F ig [rwF ks] S=.ok Qvc S):∀p S,Pot S p->∃v S1,Dw p S S1/\den F G QON QpK S=.ok v S1/\∃n,v=Xc n/\Nt 11 n:=λp S hp=>by
 let⟨lv,S1,a1,a2,a3⟩:=Xbc (G:=G) (env:=QZH) (S:=S) (S1:=S) (j:=0) (m:=3) (e:=.cst (.int 3)) hF rfl rfl QgB Q1 Q1;let⟨aa,S2,b1,b2,b3⟩:=Xuo (G:=G) (env:=[yz QX,yz Qn1,yy,yy,yy,yy,yy,yy]) (S:=S1) (j:=0) (c:=2) (n:=3) (ci:=2) (ni:=3) (M:=15) (a:=.frz QY1) (ms:=QRf) hF a2.pot rfl Ya9 rfl Q1 Q1 Q1 Q1;let⟨ab,S3,c1,c2,c3⟩:=Xuo (G:=G) (env:=[yz QX,yz Qn1,yz Q55,yy,yy,yy,yy,yy]) (S:=S2) (j:=0) (c:=1) (n:=3) (ci:=1) (ni:=3) (M:=6) (a:=.frz Qa1) (ms:=[3,4,6]) hF b2.pot rfl Yba rfl Q1 Q1 Q1 Q1;let d3:Dw p S S3:=(a2.trans b2).trans c2;let l3:(lg S3)=lg S:=d3.len;let⟨tn,S4,t1,t2,t3⟩:=Xuo (G:=G) (env:=QVA) (S:=S3++Qk2) (j:=0) (c:=1) (n:=2) (ci:=1) (ni:=2) (M:=11) (a:=.frz Qd1) (ms:=[4,11]) hF (d3.pot.app _) rfl Ybb rfl Q1 Q1 Q1 Q1;let⟨B4,rfl,d4⟩:=Dw.inv d3.pot t2;let aj:=Xct t3 Q0;let fp:=Xac (F:=F) (G:=G) (env:=QVA) (S:=S3++Qk2) (S1:=B4++Qk2) (t:=.var 5) (it:=.rng (.cons (.bin .add Q4 (.call it (.cons Q3 (.cons (.idx QpP (.call it QjT)) .nil)))) .nil)) (ss:=.cons (.ret (.call ig QeK)) .nil)
  (b:=.cons QHK (.cons (.asg Qj5 (.blt .min (.cons QA (.cons (.idx (.frz (.lst (.cons QlT QDK))) Q5) .nil)))) (.cons (.expr (.mth .append Qa (.cons (.blt .tuple (.cons (.frz (.blt .sorted (.cons (.frz (.cmr yw 2 QKC (.mth .popi QH1 (.cons (.call it Qy7) .nil)))) .nil))) .nil)) .nil))) .nil)))
  (Q1f.map λk:Nat=>.int k) (LnI p lv aa ab S3)
 let⟨e',S',h1,hP⟩:=fp aj (.mk (ks:=[]) [] yy yy yy d4 rfl λs h=>nomatch h) (λi d e S' hd hP=>by
   let⟨X,x5,x6,x7,dB,lk,fk⟩:=hP;rename_i B ks;let hi:i<tn:=by let:=(Vk.mp hd).1;simpa using this
   generalize ag:B++QsA=T0;let pT:Pot T0 p:=ag▸dB.pot.app _;let r1:ev F G (.lrg yw Qp) [yz QX,yz Qn1,yz Q55,yz QL6,yz QT3,yz d,x6,x7] T0=.ok QjF (T0++QhC):=Yc8 rfl Q0;let⟨w,S5,w1,w2,w3,w4⟩:=Ya8 (G:=G) (S:=T0++QhC) (p:=p) (lv:=lv) (far:=aa) (siz:=ab) (x4:=yz QT3) (x5:=yz d) (x6:=yz QjF) (x7:=x7) hF (pT.app _) a1 Q0;let⟨T1,rfl,dT⟩:=Dw.inv pT w3;let lT:(lg T1)=lg T0:=dT.len;let⟨s,L,B',fs,ai,fe⟩:=X5o (G:=G) (env:=[yz QX,yz Qn1,yz Q55,yz QL6,yz QT3,yz d,yz QjF,yz QIC]) (jp:=0) (jl:=6) (jw:=7) (jx:=9) (far:=aa) (w:=w) (B:=T1) hF dT.pot rfl (by rw[lT];rfl) rfl ⟨by show 0<8;decide,by show 6<8;decide⟩ (by show 8<9;decide) w1 w2 Q0;subst ag;let⟨B1,rfl,ac⟩:=Dw.inv dB.pot dT;let⟨B2,rfl,af⟩:=Dw.inv ac.pot ai;let lb:Q5L=lg S3:=dB.len;let ah:(lg B1)=lg S3:=ac.len.trans lb;let ae:(lg B2)=lg S3:=af.len.trans ah;let ap:=Ya5 (F:=F) (G:=G) (env:=[yz QX,yz Qn1,yz Q55,yz QL6,yz QT3,yz d,yz (.ref QOd.length),yz QIC]) (i:=4) (n:=S3.length) (xs:=ks.map Xa) rfl (by rw[Ub,Vhq,Xjt (by rw[<-ah];calc Xht _ _ _)];rfl) fe (by rw[Ub,Vhq,<-ae];calc Xht _ _ _) (by rw[Vf];calc Vaa (show _<=99 by omega) Q1);let hS:(B2++O.lst QZX::X++Qmd).set S3.length (O.lst (ks.map Xa++[Xa s]))=B2++(O.lst ((ks++[s]).map Xa)::(X++Qmd)):=by rw[Ub,Vhq,<-ae,Xsr,Val];rfl
   rw[hS]at ap;calc⟨_,_,_,rfl,(Xr (i:=6) r1).trans ((Xr (i:=7) w4).trans Qxc),.mk _ _ _ _ ((dB.trans ac).trans af) (by rw[Uc,lk];rfl) λt ht=>(Uo.mp ht).elim (fk t) λh=>by rw[V6.mp h];calc fs⟩)
 generalize hL:(Q1f.map λk:Nat=>D.int k).length=N at hP;rw[Vf,U9]at hL;let⟨X,x5,x6,x7,dB,lk,fk⟩:=hP;rename_i B ks;rw[<-hL]at lk;let lb:Q5L=lg S3:=dB.len;let fz:=Ya4 (F:=F) (G:=G) (S:=B++(.lst QZX::X)) (env:=[yz QX,yz Qn1,yz Q55,yz QL6,yz QT3,x5,x6,x7]) (i:=4) (n:=S3.length) (xs:=ks.map Xa) rfl (by rw[<-lb];calc Xht _ _ _) Q01;rw[<-lb,Xsr]at fz;rw[<-lb]at h1;let r:=Xw (ss:=.nil) ((Xm fz).trans (hG ks QpW Q0 λs h=>Xs (by let:=(fk s h).l6;omega)));let nt:Nt 11 QAG:=Ya3 (by intro z;rw[z]at lk;simp! at lk;omega) Q0 fk;let d5:Dw p S B:=d3.trans dB;let body:pe F G QON.body QZH S=.ok (.rt Qvc) QpW:=by calc(Xr (i:=1) a3).trans ((Xr (i:=2) b3).trans ((Xr (i:=3) c3).trans ((Xr (i:=4) (v:=.ref B.length) (S1:=S3++Qk2) (by rw[lb];rfl)).trans ?_)));exact h1.trans r
 calc⟨_,B,d5,Xbo (X:=.ded::X) rfl body d5.sim Q1b,_,rfl,nt⟩
universe e
def Ybc{l s:LI}(hl:l.Pairwise Qg3)(hs:s.Pairwise Qg3)(h:∀x∈l,x∈s):l.Sublist s:=by
 let e:s.filter (λx=>decide Qud)=l:=Xiv (hs.filter _) hl λx=>by rw[Va3,decide_eq_true_eq];exact⟨λz=>z.2,λz=>⟨h x z,z⟩⟩
 rw[<-e];calc List.filter_sublist
def Ybd{l s:LI}(hl:l.Pairwise Qg3)(hs:s.Pairwise Qg3):lie l s=yx ↔ l.Sublist s:=lie_sub.trans ⟨Ybc hl hs,λh x B=>h.subset B⟩
def Ybe{k:Nat}{n:LL}(h:Nt k n)(d:D):Xfs n d=(Yk d&&decide (Xj d∈fcs n)):=by
 unfold Xfs;cases e:Yk d with
 |false=>rfl|true=>let⟨l,rfl,_,_,B⟩:=Xex e;rw[Vb5,Vb5,ints_of,Vcj,Vca,decide_eq_true_eq,mem_fcs];calc exists_congr λs=>and_congr_right λhs=>Ybd ((Xpa l).mp B) QAA.pw
def Fc.sub{l s:LI}(h:Fc s)(hl:l.Sublist s):Fc l:=⟨h.pw.sublist hl,V2 hl.length_le h.l6,λx B=>h.r15 x (hl.subset B)⟩
def Xpp{k:Nat}{n:LL}(h:Nt k n){l:LI}(hl:l∈fcs n):Fc l:=by let⟨s,hs,h2⟩:=mem_fcs.mp hl;calc QAA.sub h2
def Ybf{k:Nat}{n:LL}(h:Nt k n):fcs n≠[]:=by let⟨s,hs⟩:=List.exists_mem_of_ne_nil n h.ne;calc List.ne_nil_of_mem (mem_fcs.mpr ⟨s,hs,List.nil_sublist s⟩)
def Xjv{k:Nat}{n:LL}(h:Nt k n):QK7.length<=64*k:=by unfold fcs;rw[Xdq];calc V2 (Xle λs hs=>QAA.l6) (by let:=h.len;omega)
def Fc.sm{l:LI}(h:Fc l):Sm 1 39 Qx5:=(Xxv h.smn).mono Q0 (by let:=h.l6;omega)
def Nt.sm{k:Nat}{n:LL}(h:Nt k n)(B:k<=60):Sm 50 200000 Qc1:=(h.rws.net Q0).mono Q0 Q0
structure Two(G:LD)(g1 g2 f1 f2:Nat):Prop where
 ex:∃n1 n2,G[g1]?=yz QpY/\G[g2]?=yz QoY/\Xbj f1 n1 G=yx/\Xbj f2 n2 G=yx
section
variable{F:Fn}{G:LD}{S:Sto}
def X5p{e:Ex}{env:En}{xs:LD}{X:Sto}(h:ev F G e env S=.ok QlP (S++X++Qod))(B:bdDs QE xs=yx):ev F G QYV env S=.ok Qr9 S:=by show gcR S QGb=_;rw[h];simp[Xa2,Yh,Xbb];rw[Ub];calc Xdn (d:=.fro xs) .rfl' B _
def X5q(S:Sto)(d:D):Xn .mul Q7 QUV (S++[.lst [d]])=.ok (.ref (S++QEa).length) (S++QEa++[.lst [d,d]]):=by simp[Xn,lstM,Yh];calc iP0 ⟨by decide,(by show 2<=big;decide),by decide⟩
universe e
abbrev Yj(aa L B:Nat):Df:=⟨3,4,(.cons (.try (.cons (.ret (.cal (.idx (.frz (.lst (.cons Qfd (.cons (.glb aa) .nil)))) Q3) QbV)) .nil) 0 3 (.cons (.ret QzW) .nil)) .nil),yx⟩
abbrev Xah(B:Nat):Df:=⟨3,5,(.cons (.asg QF Qr0) (.cons (.asg Qa QyC) (.cons (.ret (.ite QyP Qa (.cst (.str "changed")))) .nil))),yx⟩
abbrev Xeg(B ae aa ah ab af L ai ac ag:Nat):Df:=⟨2,13,(.cons (.asg QA (.call ag Qo)) (.cons (.asg QF (.call ac QS1)) (.cons (.asg Qa (.idx Qyb (.call ac QVB))) (.cons (.asg QE4 (.idx QA (.call ac QiB))) (.cons (.asg QH1 (.frz (.lst (.cons QnD QpQ)))) (.cons (.for Qj5 (.val (.frz (.lst (.cons Q5 (.cons (.idx QH1 QK) (.cons (.idx QH1 Q4) (.cons (.call L (.cons Q3 (.cons QXS .nil))) .nil))))))) (.cons Qh6 (.cons (.ite (.or (.not (.call aa (.cons (.call ai QJ) (.cons QcV .nil)))) (.cmp .ne QjS QQd)) Q8 .nil) .nil))) (.cons (.for Qj5 (.val (.frz (.lst (.cons QE4 (.cons (.call ab (.cons Q3 (.cons QE4 .nil))) (.cons (.call ab (.cons Q3 (.cons QhN .nil))) (.cons (.call ah Qg) .nil))))))) (.cons (.ite (.not (.call aa (.cons (.call B QDJ) (.cons (.and (.call af QJ) QlN) .nil)))) Q8 .nil) .nil)) (.cons (.for QRd QlZ (.cons (.asg QDH QeV) (.cons (.ite (.not (.call aa (.cons QDH (.cons Qh .nil)))) Q8 .nil) (.cons (.expr (.mth .append QDH QI)) .nil)))) (.cons (.par [11,12] (.cons QeV (.cons (.call B QL0) .nil))) (.cons (.ite (.or (.not (.call aa QlD)) QoZ) Q8 .nil) (.cons (.ite (.cmp .ne (.call B QL9) QuP) Q8 .nil) (.cons (.for Qj5 QjZ (.cons (.ite (.and (.not QcV) (.cmp .ne (.frz (.lst (.cons (.call B QUB) (.cons (.call B QpH) .nil)))) Q20)) Q8 .nil) .nil)) QX6)))))))))))),yx⟩
abbrev Xgr(ae B aa ab ac L:Nat):Df:=⟨1,5,(.cons (.for Q5 (.rng Q63) (.cons (.asg Qa (.call ac QpQ)) (.cons (.ite (.not (.call aa (.cons Qa (.cons (.call ab QH0) .nil)))) Q8 .nil) .nil))) (.cons QjV (.cons QCK (.cons (.ite (.or (.cmp .isnot (.call B (.cons (.blt .tuple (.cons (.sli QA .none (.some (.cst QdS))) .nil)) .nil)) QW) (.cmp .isnot (.call B (.cons (.blt .tuple (.cons (.sli QA .none (.some (.cst (.int 61)))) .nil)) .nil)) QD)) Q8 .nil) (.cons (.ret (.and (.cmp .is (.call B QdK) QW) (.and (.cmp .is (.call B QI) QD) (.cmp .eq (.call ae QmD) QoF)))) .nil))))),yw⟩
section
variable{F:Fn}{G:LD}{S S1:Sto}{env:En}
def Xup{f1 f2 g1 g2 w:Nat}{n1 n2:Str}{a b:D}{x:Option D}(B:G[g1]?=yz QpY)(L:G[g2]?=yz QoY)(h1:Xbj f1 n1 G=yx)(h2:Xbj f2 n2 G=yx)(hw:w<2):
  ev F G (.cal (.idx (.frz (.lst (.cons (.glb g1) (.cons Qxb .nil)))) Q3) QbV) QuN S=F (if w=0 then f1 else f2) Q0I S:=by
 let fl:=Xad (S:=S) (Xb (F:=F) (env:=QuN) (Xfm B) (Xb (Xfm L) Xz)) QEA .rfl' rfl;let ix:=(Xb8 fl (show ev F G Q3 _ S=.ok QIC S from rfl)).trans (Xcl (xs:=[.fn f1 n1,.fn f2 n2]) rfl Q11 hw);calc ond ix ?_;match w,hw with
 |0,_=>simp[List.getElem_cons_zero,h1,if_true];rfl|1,_=>simp[List.getElem_cons_succ,List.getElem_cons_zero,h2,if_true];rfl
variable{f1 f2 g1 g2 ik:Nat}{n1 n2:Str}{a b:D}
def X5r(h:Two G g1 g2 f1 f2){w:Nat}(hw:w<2){r:D}(hF:F (if w=0 then f1 else f2) Q0I S=.ok r S)(B:pd r=yx):den F G QlJ Qe3 S=.ok r S:=by let⟨n1,n2,h1,h2,L,h4⟩:=h.ex;calc X0y (env0:=QmB) rfl rfl rfl QXC QEb
def Xss(h:Two G g1 g2 f1 f2){w k:Nat}(hw:w<2)(L:Kds F ik)(hF:F (if w=0 then f1 else f2) Q0I S=.ex QE Qy2)(hk:1<=k)(B:k<=16):den F G QlJ Qe3 S=.ok QBY S:=by let⟨n1,n2,h1,h2,h3,h4⟩:=h.ex;calc X0z (env0:=QmB) rfl rfl rfl ?_ (by show 3<4;decide) L hk B;show pe F G (.cons (.ret _) .nil) _ S=_;calc Xk3 (by show(ev F G _ _ S).bind _=_;rw[Xup h1 h2 h3 h4 hw,hF];rfl)
def X5s(h:Two G g1 g2 f1 f2){w:Nat}(hw:w<2){o:O}(hF:F (if w=0 then f1 else f2) Q0I S=.ok Q7 QfB)(B:bdO QE o=yx):den F G QlJ Qe3 S=.ok Q7 QfB:=by let⟨n1,n2,h1,h2,L,h4⟩:=h.ex;calc X00 (env0:=QmB) rfl rfl rfl QXC B
def Xpq{B:Nat}{w:Nat}{v:D}(hw:w<1000)(ha:Sm 50 200000 a)(hb:Sm 50 200000 b)(hF:F B Qe3 S=.ok v S1):pe F G QAY.body [yz Qo7,yz a,yz b,yy,yy] S=.ok QSB S1:=by
 let⟨t,ht⟩:=Yd5 ((Xfv (w:Nat) Q0).mono Q0 Q0) ha hb;let L:∀(x y:Option D) (S:Sto),ev F G Qr0 [yz Qo7,yz a,yz b,x,y] S=.ok Qk5 S:=λx y S=>Xxy (Xad (ds:=Qe3) rfl QDA .rfl' (by rw[bdDs,bdDs,bdDs,Xav _ ha.pd,Xav _ hb.pd];rfl)) (ht S);calc(Xr (i:=3) (L yy yy S)).trans ((Xr (i:=4) (v:=v) (S1:=S1) ?_).trans QYe);·let:ev F G QyC [yz Qo7,yz a,yz b,yz Qk5,yy] S=F B Qe3 S:=rfl;exact this.trans hF
 ·let c:ev F G QyP [yz Qo7,yz a,yz b,yz Qk5,yz v] S1=.ok Qb S1:=(Ym (L _ _ S1) rfl).trans (eq_str t S1);calc ond c rfl
def Xi1{B:Nat}{w:Nat}{v:D}(hw:w<1000)(ha:Sm 50 200000 a)(hb:Sm 50 200000 b)(hF:F B Qe3 S=.ok v S)(L:pd v=yx):den F G QAY Qe3 S=.ok v S:=
 Xx rfl (Xpq hw ha hb hF) (Xav _ L)
def X07{B:Nat}{w:Nat}{o:O}(hw:w<1000)(L:Sm 50 200000 a)(hb:Sm 50 200000 b)(hF:F B Qe3 S=.ok Q7 QfB)(ho:bdO QE o=yx):den F G QAY Qe3 S=.ok Q7 QfB:=
 Xlb rfl (Xpq hw L hb hF) .rfl' ho
universe e
abbrev nones:LD:=[.int 7,.int (-1),.bl yx,.bl yw,.non,.str "1",.tup QGX,.int QJf,.fro QGX]
def Xpr:∀d∈nones,Sm 5 2000 d:=Xpk Q9
def X08:∀d∈nones,wi d 0 6=false:=by
 let:nones.all (λd=>!wi d 0 6)=true:=by decide+kernel
 calc λd hd=>by simpa using Ug.mp this d hd
structure R01(F:Fn)(itl iln is iod ibf ilc ibn isn it ilf:Nat):Prop where
 tk:Tks F it
 lf:∀n S,Nt 11 n->F ilf Q0A S=.ok Qw2 S
 bn:∀n,n≠[]->lg n<=11->(∀s∈n,lg s<=6/\Smn s)->Drs F ibn Q0A QAV
 bf:∀l,Smn l->lg l<=6->Drs F ibf Q2I QZL
 od:Drs F iod [] (·∈odds)
 sn:∀d S,pd d=yx->F isn [d] S=.ok Q79 S
 ln:∀d S,pd d=yx->F iln [d] S=.ok Q79 S
 lc:∀d S,pd d=yx->F ilc [d] S=.ok QC7 S
 sb:∀b S,F is QrK S=.ok Qb S
 sl:∀x n S,kdD S x=yz .list->Xi S x=yz Qv->lg n<=big->(∀l∈n,lg l<=big)->F is Qjd S=.ok Qb S
 t0:∀n d S,Nt 11 n->Sm 50 200000 d->F itl [.int 0,Xc n,d] S=.ok Q75 S
 t1:∀n (i:Nat) S,Nt 11 n->i<=6->F itl [.int 1,Xc n,.int i] S=.ok Q7 Q67
 t8:∀n d S,Nt 11 n->Sm 50 200000 d->wi d 0 6=yw->F itl [.int 1,Xc n,d] S=.ok (Xae 8) S
 tn:∀(w:Nat) a b S,w<2->Sm 50 200000 a->Sm 50 200000 b->Yb a=yw->F itl Qe3 S=.ok (Xae 1) S
private noncomputable abbrev rE(p:Nat)(n:LL)(sz:Nat)(nn:D)(f:LI)(b1 b2:D)(x7 x8 x9 x10 x11 x12:Option D):En:=[yz QX,yz Qc1,yz Qw2,yz Qrb,yz nn,yz QHb,yz (.fro QCa),x7,x8,x9,x10,x11,x12]
section
variable{F:Fn}{G:LD}{S S1 S2:Sto}{p itl iln is iod ibf ilc ibn isn it ilf:Nat}{n:LL}{sz:Nat}{nn b1 b2:D}{f:LI}{x7 x8 x9 x10 x11 x12:Option D}
abbrev Ybg(ilf it ibn:Nat)(ss:Sts):Sts:=.cons (.asg QA QmT) (.cons (.asg QF QlT) (.cons (.asg Qa (.idx Qyb (.call it QVB))) (.cons (.asg QE4 (.idx QA (.call it QiB))) (.cons (.asg QH1 (.frz (.lst (.cons QiS (.cons QiS .nil))))) ss))))
def X09(H:R01 F itl iln is iod ibf ilc ibn isn it ilf)(B:Nt 11 n)(hp:Pot S p)(ss:Sts):
  ∃sz nn f b1 b2 S1,sz<=6/\nn∈nones/\f∈fcs n/\Sm 7 165000 b1/\Sm 7 165000 b2/\Dw p S S1 /\
   pe F G (Ybg ilf it ibn ss)
    Qn3 S=pe F G ss Qr4 S1:=by
 let a0:ev F G QmT Qn3 S=.ok Qw2 S:=QMM.trans (H.lf n S B);let⟨sz,S1,a1,a2,a3⟩:=Xbc (G:=G) (env:=[yz QX,yz Qc1,yz Qw2,yy,yy,yy,yy,yy,yy,yy,yy,yy,yy]) (S:=S) (S1:=S) (j:=0) (m:=7) (e:=.cst QTV) H.tk rfl rfl QgB Q1 Q1;let⟨nn,ab,S2,c1,c2⟩:=Xlg (G:=G) (env:=[yz QX,yz Qc1,yz Qw2,yz QeS,yy,yy,yy,yy,yy,yy,yy,yy,yy]) (S:=S1) (j:=0) (a:=.frz Qk) (xs:=nones) (n:=9) H.tk a2.pot rfl QR2 rfl Q1 Q1;let hl:QNB.length=QK7.length:=Vf ..;let ae:=Xjv B;let ac:=Vgd.mpr (Ybf B);let⟨fd,aa,S3,e1,e2⟩:=Xxs (G:=G) (env:=[yz QX,yz Qc1,yz Qw2,yz QeS,yz nn,yy,yy,yy,yy,yy,yy,yy,yy]) (S:=S2) (j:=0) (a:=.var 2) (e:=.blt .len Qp) (x:=rwF QK7) (xs:=QK7.map Xa) H.tk c1.pot rfl rfl QQ2 Q11 rfl Q0 Q0;let⟨f,hf,rfl⟩:=Vs.mp aa;let L:∀s∈n,s.length<=6/\Smn s:=λs hs=>⟨QZN.l6,QZN.smn⟩;let⟨b1,S4,g1,g2,g3⟩:=Xe1 (G:=G) (env:=Qw4) (S:=S3) (j:=0) (e:=.var 1) QfL e1.pot rfl rfl;let⟨b2,S5,h1,h2,h3⟩:=Xe1 (G:=G) (env:=Qw4) (S:=S4) (j:=0) (e:=.var 1) QfL g1.pot rfl rfl;let fl:=Xad (Xb g2 QzI) QEA QXU.sim (by rw[bdDs,bdDs,Xav _ g3.pd,Xav _ h3.pd];rfl);calc⟨sz,nn,f,b1,b2,S5,by omega,ab,hf,g3,h3,((a2.trans c1).trans e1).trans QXU,(Xr a0).trans ((Xr (i:=3) a3).trans ((Xr (i:=4) c2).trans ((Xr (i:=5) e2).trans (Xr (i:=6) fl))))⟩
abbrev Xx7(ibn is isn iln:Nat)(ss:Sts):Sts:=.cons (.for Qj5 Qp1 (.cons Qh6 Qe1)) ss
abbrev Ybh(is isn iln:Nat):Sts:=.cons Qh6 Qe1
def X1a(H:R01 F itl iln is iod ibf ilc ibn isn it ilf)(L:Nt 11 n)(hp:Pot S p)(h1:Sm 7 165000 b1)(h2:Sm 7 165000 b2)(ss:Sts):
  ∃x7 x9 S1,Dw p S S1/\pe F G (Xx7 ibn is isn iln ss)
   Qr4 S=pe F G ss QM1 S1:=by
 let ab:∀s∈n.reverse,s.length<=6/\Smn s:=λs hs=>by let:=L.fc s (Vcb.mp hs);exact⟨this.l6,this.smn⟩
 let⟨b3,S1,g1,g2,g3⟩:=Xe1 (G:=G) (env:=rE p n sz nn f b1 b2 yy yy yy yy yy yy) (S:=S) (j:=0) (e:=.rev Q5) (H.bn n.reverse (by rw[ne_eq,List.reverse_eq_nil_iff];calc L.ne) (by rw[List.length_reverse];calc L.len) ab) hp rfl (by show R.ok (D.tup Qv.reverse) S=_;rw[<-List.map_reverse];rfl);let sm:∀d∈Q1I,Sm 50 200000 d:=by
  calc X0w ?_ ?_ ?_ ?_;·exact L.sm Q1
  ·exact h1.mono Q0 Q0
  ·exact h2.mono Q0 Q0
  exact g3.mono Q0 Q0
 let fl:=Xad (Xb (e:=.var 1) (x:=Xc n) (S1:=S) rfl (Xb (e:=.idx QH1 QK) (x:=b1) (S1:=S) rfl (Xb (e:=.idx QH1 Q4) (x:=b2) (S1:=S) rfl (Xb g2 Xz)))) Q86 g1.sim QvD;let hi:evit F G Qp1 Qr4 S=.ok (.con Q1I) S1:=ond fl rfl;let⟨e',S',q1,ac,x7,x9,rfl⟩:=Xac (F:=F) (G:=G) (t:=.var 7) (ss:=ss) (b:=Ybh is isn iln)
  Q1I (λi e S'=>S'=S1/\∃x7 x9,e=rE p n sz nn f b1 b2 x7 yy x9 yy yy yy) hi QpO (λi d e S' hd hP=>by
   let⟨rfl,x7,x9,rfl⟩:=hP;let B:=sm d QOY;let⟨t,ht⟩:=Xxw (B.mono Q0 Q1);let rp:∀x9,ev F G QjS Q54 S'=.ok Qk5 S':=λx9=>Xxy rfl (ht S');let aa:ev F G (.call is (.cons (.call isn QJ) (.cons (.call iln QJ) .nil))) (rE p n sz nn f b1 b2 Q28 yy QIc yy yy yy) S'=.ok Qb S':=
    (Xa1 (Qa7.trans (H.sn d S' B.pd)) QKG).trans QfY
   let c:=Xa4 (Y3 aa) λ_=>(Ym (o:=.ne) (rp QIc) (show ev F G QQd _ S'=.ok Qk5 S' from rfl)).trans (Xxx t S')
   calc⟨_,_,S',rfl,(Xr (i:=9) (rp x9)).trans (QI3.trans ?_),rfl,yz d,yz Qk5,rfl⟩;calc iN0 V3)
 rw[ac]at q1;calc⟨x7,x9,S1,g1,q1⟩
abbrev Xps(ibf iod is itl ilc:Nat)(ss:Sts):Sts:=.cons (.for Qj5 Qw0 (.cons Qh1 .nil)) ss
abbrev Ybi(is itl ilc:Nat):Sts:=.cons Qh1 .nil
def Xx8(H:R01 F itl iln is iod ibf ilc ibn isn it ilf)(L:Nt 11 n)(hp:Pot S p)(hf:f∈fcs n)(x7 x9:Option D)(ss:Sts):
  ∃B S1,Dw p S S1/\pe F G (Xps ibf iod is itl ilc ss)
   QM1 S=pe F G ss (rE p n sz nn f b1 b2 B yy x9 yy yy yy) S1:=by
 let ff:=Xpp L hf;let⟨c1,S1,g1,g2,g3⟩:=Xe1 (G:=G) (env:=rE p n sz nn f b1 b2 x7 yy x9 yy yy yy) (S:=S) (j:=0) (e:=.var 5) (H.bf f ff.smn ff.l6) hp rfl rfl;let ae:=Vgd.mpr L.ne;let hz:Q68-1<lg n:=by omega
 let fz:=L.fc _ (Vb1 hz);let ix:∀S,ev F G QhN QM1 S=.ok QET S:=λS=>by
  calc(Xb8 (a:=.var 1) (x:=Xc n) (y:=.int (-1)) rfl rfl).trans ?_;let hx:Z.ixN Qv.length (-1)=yz (lg n-1):=by unfold Z.ixN;rw[Vf,iN0 Q1,iP0 Q0];congr 1;omega
  let:Xa7 Qc1 (.int (-1)) S=yz QET:=by show((yz Qv).bind λxs=>(Z.ixN QU (-1)).bind λj=>xs[j]?)=_;rw[Vab,hx,Vab,Ui,Uw hz];rfl
  unfold Xcu;rw[this]
 let⟨c2,S2,k1,k2,k3⟩:=Xe1 (G:=G) (env:=rE p n sz nn f b1 b2 x7 yy x9 yy yy yy) (S:=S1) (j:=0) (e:=.idx Q5 (.neg Q4)) (H.bf n[lg n-1] fz.smn fz.l6) g1.pot rfl (ix S1);let⟨c3,S3,m1,m2,m3⟩:=Xum (G:=G) (env:=rE p n sz nn f b1 b2 x7 yy x9 yy yy yy) (S:=S2) (j:=0) H.od k1.pot rfl;let sm:∀d∈Q3I,Sm 50 200000 d:=by
  calc X0w ?_ ?_ ?_ ?_;·exact ff.sm.mono Q0 Q0
  ·exact g3.mono Q0 Q0
  ·exact k3.mono Q0 Q0
  exact(Xlh _ m3).mono Q0 Q0
 let dw:Dw p S S3:=(g1.trans k1).trans m1;let fl:=Xad (Xb (e:=.var 5) (x:=Xa f) (S1:=S) rfl (Xb g2 (Xb k2 (Xb m2 Xz)))) Q86 dw.sim QvD;let hi:evit F G Qw0 QM1 S=.ok (.con Q3I) S3:=ond fl rfl;let⟨e',S',q1,ac,B,rfl⟩:=Xac (F:=F) (G:=G) (t:=.var 7) (ss:=ss) (b:=Ybi is itl ilc)
  Q3I (λi e S'=>S'=S3/\∃x7,e=rE p n sz nn f b1 b2 x7 yy x9 yy yy yy) hi QwA (λi d e S' hd hP=>by
   let⟨rfl,x7,rfl⟩:=hP;let aa:=sm d QOY;let t:ev F G (.call itl QDJ) Q54 S'=.ok Q75 S':=H.t0 n d S' L aa;let a:ev F G (.and (.call ilc QJ) QlN) Q54 S'=.ok Q75 S':=by rw[Ybe L];exact Xb7 (Qa7.trans (H.lc d S' aa.pd)) λab=>?_;let⟨l,rfl,_⟩:=Xex ab;rw[ints_of];exact Xab (Yan l QK7 S')
   let c:=Y3 ((Xa1 t a).trans QfY);calc⟨_,_,S',rfl,QI3.trans Q7G,rfl,yz d,rfl⟩)
 rw[ac]at q1;calc⟨B,S3,dw,q1⟩
def X2e(B:Nt 11 n)(x7 x8 x9 x10 x11 x12:Option D)(S:Sto):ev F G Qh QB4 S=.ok (rwF QdB) S:=by
 let c:=Xhn (F:=F) (G:=G) (env:=rE p n sz nn f b1 b2 x7 x8 x9 x10 x11 x12) (S:=S) (n:=2) (i:=14) (it:=.val QA) (ifs:=.cons (.cmp .eq (.blt .len (.cons (.var 14) .nil)) QF) .nil) (elt:=.var 14) QNB (λd=>decide (QST=sz)) QZB rfl (by rw[Vf];calc Xs QJN) (λd hd=>by
  let⟨k,_,rfl⟩:=Vs.mp hd;rw[ints_of];calc Xhq ?_;let q:Xk .eq Q8K Qrb S=.ok (.bl (decide QLd)) S:=Xab QtI
  calc q) Qn6 (λd hd _=>by let⟨k,_,rfl⟩:=Vs.mp hd;calc Yo _ k)
 rw[Xd0 QK7 λk=>decide QLd]at c;calc c
def Xpt(B:Nt 11 n)(i:Int):(fSz n i).length<=704:=V2 Q1S (Xjv B)
def Xx9(B:Nt 11 n){i:Int}{l:LI}(h:l∈fSz n i):QX7<=big:=Xs (by let:=(Xpp B QaZ.1).l6;omega)
def Xgs{q:Nat}{xs:LD}(h:S[q]?=yz QB1):kdD S QQA=yz .list/\Xi S QQA=yz xs:=by
 constructor;·simp[kdD,h]
 ·show Xl S q=_;calc Xjt h
abbrev Xjw(itl is:Nat)(ss:Sts):Sts:=.cons (.for QRd QlZ (.cons QnT Q82)) ss
abbrev Ybj(itl is:Nat):Sts:=.cons QnT Q82
def Xya(H:R01 F itl iln is iod ibf ilc ibn isn it ilf)(B:Nt 11 n)(hz:sz<=6)(x7 x9:Option D)(ss:Sts):
  ∃x8 x10 X,pe F G (Xjw itl is ss)
   QM1 S=pe F G ss Qi0 QfD:=by
 let⟨e',S',L,⟨X,rfl⟩,x8,x10,rfl⟩:=Xac (F:=F) (G:=G) (S:=S) (S1:=S) (t:=.var 8) (it:=.rng Q03) (ss:=ss) (env:=rE p n sz nn f b1 b2 x7 yy x9 yy yy yy) (b:=Ybj itl is)
  ((Vq 2).map λk:Nat=>.int k) (λi e S'=>(∃X,S'=S++X)/\∃x8 x10,e=rE p n sz nn f b1 b2 x7 x8 x9 x10 yy yy) (Xct (n:=2) rfl Q1) ⟨⟨[],(Vaw S).symm⟩,yy,yy,rfl⟩ (λi d e S' hd hP=>by
   let⟨⟨X,rfl⟩,x8,x10,rfl⟩:=hP;generalize hT:S++X=T;let a:ev F G Qo1 (rE p n sz nn f b1 b2 x7 Q28 x9 x10 yy yy) T=.ok Q62 QEd:=H.t1 n sz T B hz;let g:=Yh T QqZ;let s:=H.sl Q62 QdB QEd Qje.1 Qje.2 QtG λl h=>Xx9 B h;let c:=Y3 (F:=F) (G:=G) (env:=rE p n sz nn f b1 b2 x7 Q28 x9 QzN yy yy) ((Xa1 (a:=.var 10) rfl QQL).trans s);let ap:=Xue (F:=F) (G:=G) (S:=T) (S1:=T) (env:=rE p n sz nn f b1 b2 x7 Q28 x9 QzN yy yy) (i:=10) (e:=.tup .nil) (v:=.tup []) (xs:=QdB.map Xa) rfl rfl rfl (by rw[Vf];calc Vaa (Xpt B sz) Q1)
   calc⟨_,rE p n sz nn f b1 b2 x7 Q28 x9 QzN yy yy,T++Q0G,rfl,(Xr (i:=10) a).trans (QI3.trans (Q7G.trans Qxc)),⟨X++Q0G,by rw[<-hT,Ub]⟩,yz d,_,rfl⟩)
 calc⟨x8,x10,X,L⟩
abbrev Xgt(itl is:Nat)(ss:Sts):Sts:=.cons (.par [11,12] (.cons Qo1 (.cons QQH .nil))) (.cons (.ite (.or (.not (.call is QlD)) QoZ) Q8 .nil) (.cons (.ite (.cmp .ne QhS QuP) Q8 .nil) ss))
def X1b(H:R01 F itl iln is iod ibf ilc ibn isn it ilf)(B:Nt 11 n)(hz:sz<=6)(L:nn∈nones)(x7 x8 x9 x10:Option D)(ss:Sts):
  ∃x11 x12 X,pe F G (Xgt itl is ss)
   Qi0 S=pe F G ss QB4 QfD:=by
 let a:ev F G Qo1 Qi0 S=.ok Q7 (S++Q6R):=H.t1 n sz S B hz;generalize hT:S++[O.lst QG3]=T at a;let m:ev F G (.bin .mod QgE (.cst QTV)) Qi0 T=.ok (.int QoO) T:=by calc(Ys QvA rfl).trans ((Xdd (show(0:Int)<7 by decide) T).trans ?_);congr 2
 let b:ev F G QQH Qi0 T=.ok Q62 (T++[.lst Qz3]):=by let:ev F G QQH Qi0 T=F itl [.int 1,Xc n,.int QoO] T:=ond (Xb (e:=.cst QG) rfl (Xb (e:=.var 1) rfl (Xb m Xz))) rfl;rw[this,H.t1 n ((sz+1)%7) T B Q0]
 generalize hU:T++[O.lst Qz3]=U at b;let gS:U[lg S]?=yz QqZ:=by rw[<-hU,<-hT,Ub];exact Xht _ _ _
 let gT:U[T.length]?=yz (.lst Qz3):=by rw[<-hU];exact Yh _ _
 let s:=H.sl Q7 QdB U Qoc.1 Qoc.2 QtG λl h=>Xx9 B h;let c1:=Y3 (F:=F) (G:=G) (env:=rE p n sz nn f b1 b2 x7 x8 x9 x10 QsM QzN) ((Xa1 (a:=.var 11) rfl QQL).trans s);let c2:ev F G Qp9 Qv7 U=.ok Qb U:=by show(match (kdD U Q62).bind λk=>Yx k [.list] with|some r=>.ok QSA U|none=>.bad:R D)=_;rw[(Xgs gT).1];rfl
 let c:=Xa4 c1 λ_=>Y3 c2;let w:ev F G QhS Qv7 U=.ok QS8 U:=H.t8 n nn U B ((Xpr nn L).mono Q0 Q0) (X08 nn L);let c3:=(Ym (o:=.ne) w (show ev F G QuP _ U=.ok QS8 U from rfl)).trans (Xxx _ U);calc⟨yz Q7,yz Q62,[.lst QG3,.lst Qz3],(Xuk a b).trans (QI3.trans (Q7G.trans ((Yl (v:=.bl yw) c3 rfl).trans (Q7G.trans ?_))))⟩;rw[<-hU,<-hT,Ub];rfl
abbrev Xe3(iln itl:Nat):Sts:=.cons (.for Qj5 QjZ (.cons QnP .nil)) QX6
abbrev Ybk(iln itl:Nat):Sts:=.cons QnP .nil
def X5t(H:R01 F itl iln is iod ibf ilc ibn isn it ilf)(hn:Nt 11 n)(hf:f∈fcs n)(aa:nn∈nones)(h1:Sm 7 165000 b1)(h2:Sm 7 165000 b2)(x7 x8 x9 x10 x11 x12:Option D):
  pe F G QnJ
   QB4 S=.ok QXd S:=by
 let sm:∀d∈QCa,Sm 50 200000 d:=by
  calc Xui ?_ ?_;·exact h1.mono Q0 Q0
  ·exact h2.mono Q0 Q0
 let ac:Sm 50 200000 QHb:=(Xpp hn hf).sm.mono Q0 Q0;let ab:Sm 50 200000 nn:=(Xpr nn aa).mono Q0 Q0;let⟨e',S',q1,ae,af,rfl⟩:=Xac (F:=F) (G:=G) (S:=S) (S1:=S) (env:=rE p n sz nn f b1 b2 x7 x8 x9 x10 x11 x12) (t:=.var 7) (it:=.val QH1) (ss:=.cons QYS .nil) (b:=Ybk iln itl)
  QCa (λi e S'=>S'=S/\∃x7,e=rE p n sz nn f b1 b2 x7 x8 x9 x10 x11 x12) rfl QwA (λi d e S' hd hP=>by
   let⟨rfl,x7,rfl⟩:=hP;let B:=sm d QOY;let c:ev F G Qj Ql1 S'=.ok (.bl (!Yb d&&yw)) S':=by
    exact Xb7 (Y3 QKG) λhx=>?_;let L:Yb d=false:=by simpa using hx
    let t0:ev F G (.call itl QUB) Ql1 S'=.ok Q7F S':=H.tn 0 d QHb S' Q1 B ac L;let t1:ev F G (.call itl QpH) Ql1 S'=.ok Q7F S':=H.tn 1 d nn S' Q1 B ab L;let l:=Xad (Xb t0 (Xb t1 Xz)) QEA .rfl' rfl;let r:ev F G Q20 Ql1 S'=.ok (.fro [.str "net",.str "net"]) S':=by exact X5p (X:=[.lst [.str "net"]]) ((Ys (a:=.lst (.cons (.cst Q7F) .nil)) (b:=.cst QUV) rfl rfl).trans (X5q S' Q7F)) rfl
    exact(Ym l r).trans (Xdu (b:=yx) Q64)
   calc⟨_,_,S',rfl,QI3.trans ?_,rfl,yz d,rfl⟩;rw[Vc9];calc iN0 V3)
 rw[ae]at q1;calc q1.trans QpU
def Xyb(H:R01 F itl iln is iod ibf ilc ibn isn it ilf)(B:Nt 11 n)(hp:Pot S p):∃S1,Dw p S S1/\den F G (Xeg itl iln is iod ibf ilc ibn isn it ilf) QEX S=.ok Qb S1:=by let⟨sz,nn,f,b1,b2,S1,hz,L,hf,ab,aa,d1,q1⟩:=X09 (G:=G) H B hp (Xx7 ibn is isn iln QEG);let⟨x7,x9,S2,d2,q2⟩:=X1a (G:=G) (sz:=sz) (nn:=nn) (f:=f) H B d1.pot ab aa QEG;let⟨y7,S3,d3,q3⟩:=Xx8 (G:=G) (sz:=sz) (nn:=nn) (b1:=b1) (b2:=b2) H B d2.pot hf x7 x9 Q25;let⟨x8,x10,X,q4⟩:=Xya (G:=G) (S:=S3) (p:=p) (nn:=nn) (f:=f) (b1:=b1) (b2:=b2) H B hz y7 x9 (Xgt itl is QnJ);let⟨x11,x12,Y,q5⟩:=X1b (G:=G) (S:=S3++X) (p:=p) (f:=f) (b1:=b1) (b2:=b2) H B hz L y7 x8 x9 x10 QnJ;let q6:=X5t (G:=G) (S:=S3++X++Y) (p:=p) (sz:=sz) H B hf L ab aa y7 x8 x9 x10 x11 x12;let dw:=(d1.trans d2).trans d3;calc⟨S3,dw,Xbo (X:=X++Y) (env0:=Qn3) rfl ?_ dw.sim rfl⟩;rw[<-Ub];calc q1.trans (q2.trans (q3.trans (q4.trans (q5.trans q6))))
universe e
structure TNet(T:List Df)(G:LD)(iw ii ir isn ia ins ila il ih ic g1 g2 g3:Nat):Prop where
 w:T[iw]?=yz Xfn
 i:T[ii]?=yz (Xbk iw)
 r:T[ir]?=yz Xbq
 n:T[isn]?=yz (Xir ins ir ia g3)
 a:T[ia]?=yz (Xcy ir ii g1 g2)
 s:T[ins]?=yz (Xec ila)
 la:T[ila]?=yz Qyc
 l:T[il]?=yz Xgm
 h:T[ih]?=yz Q4Y
 c:T[ic]?=yz (Xcp isn)
 e1:G[g1]?=yz QmL
 e2:G[g2]?=yz QRA
 e3:G[g3]?=yz QdS
section
variable{T:List Df}{G:LD}{iw ii ir isn ia ins ila il ih ic g1 g2 g3:Nat}
def TNet.fwi(H:TNet T G iw ii ir isn ia ins ila il ih ic g1 g2 g3)(k:Nat){d:D}(hd:pd d=yx)(B hi:Int)(S:Sto):FT T G QbR ii QGQ S=.ok Q0Q S:=by rw[Xg H.i];calc Xt8 (by rw[Xg H.w];calc Xmd hd S)
def TNet.fli(H:TNet T G iw ii ir isn ia ins ila il ih ic g1 g2 g3)(k:Nat)(a b:LI)(S:Sto):FT T G QG5 il Qv6 S=.ok Q65 S:=by rw[Xg H.l];calc X0q a b S
def TNet.fan(H:TNet T G iw ii ir isn ia ins ila il ih ic g1 g2 g3)(k:Nat){d:D}(hd:pd d=yx)(S:Sto):FT T G Qea ia [d] S=.ok QC7 S:=by rw[Xg H.a];calc Xqa H.e1 H.e2 (λd h S=>H.fwi k h 0 15 S) (λl S hl=>by rw[Xg H.r];calc Xxi l hl S) hd S
def TNet.fla(H:TNet T G iw ii ir isn ia ins ila il ih ic g1 g2 g3)(k:Nat)(f:LI){n:LL}{d:D}(hd:Xgo d n)(B:Q68<=big)(S:Sto):FT T G QbR ila QQf S=.ok QRH S:=by rw[Xg H.la];calc X46 hd (λa b S=>H.fli k a b S) B
def TNet.fnt(H:TNet T G iw ii ir isn ia ins ila il ih ic g1 g2 g3)(k:Nat){d:D}(hd:pd d=yx)(S:Sto):FT T G QQU isn [d] S=.ok Q79 S:=by rw[Xg H.n];calc Xxk H.e3 (λd h S=>H.fan k h S) (λn S B=>by rw[Xg H.r];calc Xxj n B S) (λn S B=>?_) hd S;rw[Xg H.s];calc Xt9 (λf S=>H.fla k f Qd0 B S) B
def TNet.fck(H:TNet T G iw ii ir isn ia ins ila il ih ic g1 g2 g3)(k:Nat){d:D}(hd:pd d=yx)(S:Sto):FT T G Qda ic [d] S=if Yb d then .ok .non S else .ex QE QeD:=by rw[Xg H.c];calc Xxl (H.fnt k hd S)
def TNet.fcn(H:TNet T G iw ii ir isn ia ins ila il ih ic g1 g2 g3)(k:Nat){m:Nat}{n:LL}(B:Nt m n)(L:m<=60)(S:Sto):FT T G Qda ic Q0A S=.ok .non S:=by rw[H.fck k Qoe S,iP0 (B.isN L)]
def TNet.fcx(H:TNet T G iw ii ir isn ia ins ila il ih ic g1 g2 g3)(k:Nat){d:D}(hd:pd d=yx)(h:Yb d=yw)(S:Sto):FT T G Qda ic [d] S=.ex QE QeD:=by rw[H.fck k hd S,h];calc iN0 V3
def TNet.fhs(H:TNet T G iw ii ir isn ia ins ila il ih ic g1 g2 g3)(k:Nat){d:D}(hd:pd d=yx){n:LL}(B:Q68<=big)(S:Sto):FT T G QQU ih QoK S=.ok Q75 S:=by rw[Xg H.h];calc Xqb (λa b S=>H.fli QbR a b S) (H.fan k hd S) B
universe e
structure TDrw(T:List Df)(it io ibf ibn ig ill iln ik:Nat):Prop where
 t:T[it]?=yz t_law_take
 o:T[io]?=yz Qpc
 f:T[ibf]?=yz Q8Y
 n:T[ibn]?=yz (Xcj io ibf it)
 g:T[ig]?=yz (Xci ill)
 l:T[ill]?=yz Xfq
 d:T[iln]?=yz QON
 k:T[ik]?=yz t_law_kind_of
section
variable{T:List Df}{G:LD}{it io ibf ibn ig ill iln ik:Nat}
def TDrw.tk(H:TDrw T it io ibf ibn ig ill iln ik)(k:Nat):Tks Q6F it:=Yaq H.t k
def TDrw.od(H:TDrw T it io ibf ibn ig ill iln ik)(k:Nat):Drs (FT T G QbR) io [] (·∈odds):=λp S B=>by rw[Xg H.o];calc X5m (H.tk k) p S B
def TDrw.bf(H:TDrw T it io ibf ibn ig ill iln ik)(k:Nat){l:LI}(L:Smn l)(hl:QX7<=6):Drs QYT ibf Q2I QZL:=λp S B=>by rw[Xg H.f];calc Yax QiZ (H.od k) L hl p S B
def TDrw.bn(H:TDrw T it io ibf ibn ig ill iln ik)(k:Nat){n:LL}(L:n≠[])(hn:Q68<=11)(hs:∀s∈n,lg s<=6/\Smn s):Drs (FT T G QQU) ibn Q0A QAV:=λp S B=>by rw[Xg H.n];calc Yaz (H.tk QbR) (H.od QG5) (λl h1 h2=>H.bf k h1 h2) L hn hs p S B
def TDrw.lie(H:TDrw T it io ibf ibn ig ill iln ik)(k:Nat){a:LI}(b:LI)(B:QFW<=big)(S:Sto):FT T G QG5 ill Qv6 S=.ok (.bl (Z.lie a b)) S:=by rw[Xg H.l];calc Xxp a b B S
def TDrw.net(H:TDrw T it io ibf ibn ig ill iln ik)(k:Nat):Drs QYT iln [] (λd=>∃n,d=Xc n/\Nt 11 n):=λp S B=>by rw[Xg H.d];calc X06 QiZ (λks S h1 h2=>by rw[Xg H.g];calc X5c Qg6 h1 h2 (λa b S L=>H.lie k b L S) S) p S B
def TDrw.kd(H:TDrw T it io ibf ibn ig ill iln ik)(k:Nat):Kds Q6F ik:=Yas H.k k
universe e
universe Z
universe e
section
namespace K01
open PySem PySem.Spec PyProof.Rows L2 Z
abbrev top(i:Nat):Stmt:=PySem.Challenge.pw_facecounts_k01_what_is_a_net.main.body.getD i (.Pass ⟨0,0,0,0⟩)
abbrev gns:LS:=["GREATEST_POINT","GREATEST_SIZE","MOST_SIDES","is_face","faces"]
abbrev G:LD:=[.int 15,.int 6,.int 60,.fn 4 "is_face",.fn 5 "faces"]
abbrev fns:LF:=([("is_whole",1,yx),("is_whole_within",3,yx),("is_rising",1,yx),("is_net",1,yx),("is_face",2,yx),("faces",2,yx),("check_net",1,yx),("is_any_face",1,yx),("is_nested",1,yx),("lies_in_another",2,yx),("lies_in",2,yx),("has_face",2,yx),("all_faces",1,yx),("parts_of",1,yx),("_law_cell_at",2,yx),("_law_pot",1,yx),("_law_take",2,yx),("_law_whole",1,yx),("_law_same",2,yx),("_law_lies",2,yx)]:LF)++([("_law_greatest",1,yx),("_law_net",1,yx),("_law_is_face",1,yx),("_law_is_net",1,yx),("_law_parts",1,yx),("_law_faces",1,yx),("_law_odd",1,yx),("_law_bent_face",2,yx),("_law_bent_net",2,yx),("_law_kind_of",1,yw),("_law_told_by",3,yx),("_law_told",3,yx),("_law_right",2,yx),("law",1,yx)]:LF)
private noncomputable abbrev Xjx:Df:=Xfn
abbrev Xuq:LS:=QlM
private noncomputable abbrev Xc0:Df:=Xbk 0
abbrev Xhu:LS:=["thing","low","high"]
private noncomputable abbrev Xh3:Df:=Xbq
abbrev Xqe:LS:=["things"]
private noncomputable abbrev Xpu:Df:=Xir 8 2 7 2
abbrev X1c:LS:=QlM
private noncomputable abbrev Xmg:Df:=Xcs 11 6
abbrev Xyc:LS:=Q3U
private noncomputable abbrev Xst:Df:=Xes 12 1 1 6
abbrev X5u:LS:=["net","size"]
private noncomputable abbrev Xh4:Df:=Xcp 3
abbrev Xqf:LS:=QlM
private noncomputable abbrev Xf0:Df:=Xcy 2 1 0 1
abbrev Xmj:LS:=QlM
private noncomputable abbrev Xh5:Df:=Xec 9
abbrev Xqg:LS:=["sides"]
private noncomputable abbrev Xc1:Df:=Xbl 10
abbrev Xhv:LS:=["face","sides"]
private noncomputable abbrev Xmh:Df:=Xgm
abbrev Xyd:LS:=["inner","outer","point"]
private noncomputable abbrev Xjy:Df:=Xfo 10 7
abbrev Xur:LS:=Q3U
private noncomputable abbrev Xh6:Df:=Xed 13
abbrev Xqh:LS:=["net","found","side","part"]
private noncomputable abbrev Xjz:Df:=Xfp
abbrev Xus:LS:=["side","parts","point"]
private noncomputable abbrev Xe4:Df:=Xcz
abbrev Xli:LS:=["_law_script","_law_k"]
private noncomputable abbrev Xj0:Df:=t_law_pot
abbrev Xut:LS:=["_law_cell","_law_number","_law_j","_law_more"]
private noncomputable abbrev Xh7:Df:=t_law_take
abbrev Xqi:LS:=["_law_pot_here","_law_far","_law_found"]
private noncomputable abbrev Xgu:Df:=Xbr
abbrev Xpv:LS:=Q0W
private noncomputable abbrev Xh8:Df:=Xaa 17 18
abbrev Xqj:LS:=["_law_found","_law_due"]
private noncomputable abbrev Xh9:Df:=Xfq
abbrev Xqk:LS:=["_law_one","_law_other"]
private noncomputable abbrev Xd2:Df:=Xci 19
abbrev Xj1:LS:=["_law_some","_law_found","_law_face"]
private noncomputable abbrev Xj2:Df:=Xdz 20 16
abbrev Xuu:LS:=["_law_pot_here","_law_level","_law_far","_law_size","_law_some","_law_turn","_law_left","_law_wide"]
private noncomputable abbrev Xe5:Df:=Xbs 17
abbrev Xlj:LS:=Q0W
private noncomputable abbrev Xf1:Df:=Xdo 19 22
abbrev Xmk:LS:=["_law_thing","_law_side"]
private noncomputable abbrev Xgv:Df:=Xee
abbrev Xpw:LS:=["_law_face","_law_found","_law_number"]
private noncomputable abbrev Xgw:Df:=Xef 24
abbrev Xpx:LS:=["_law_net_here","_law_found","_law_side"]
private noncomputable abbrev Xj3:Df:=Xgn 16
abbrev Xuv:LS:=["_law_pot_here","_law_some"]
private noncomputable abbrev Xdt:Df:=Xb9 26 16
abbrev Xi2:LS:=["_law_pot_here","_law_face","_law_odd_here","_law_some","_law_way","_law_at"]
private noncomputable abbrev Xd3:Df:=Xcj 26 27 16
abbrev Xj4:LS:=["_law_pot_here","_law_net_here","_law_side","_law_bent","_law_some","_law_way","_law_at"]
private noncomputable abbrev Xe6:Df:=t_law_kind_of
abbrev Xlk:LS:=["_law_e","_law_some","_law_words"]
private noncomputable abbrev Xe7:Df:=Yj 4 3 29
abbrev Xll:LS:=["_law_way","_law_net_here","_law_thing","_law_e"]
private noncomputable abbrev Xia:Df:=Xah 30
abbrev Xql:LS:=["_law_way","_law_net_here","_law_thing","_law_kept","_law_found"]
private noncomputable abbrev Xgx:Df:=Xeg 31 23 18 26 27 22 28 3 16 25
abbrev Xpy:LS:=["_law_pot_here","_law_net_here","_law_every","_law_size","_law_none","_law_face","_law_bad","_law_thing","_law_turn","_law_kept","_law_found","_law_first","_law_later"]
private noncomputable abbrev Xuw:Df:=Xgr 5 3 32 21 15 14
abbrev X2f:LS:=["_law_script","_law_k","_law_pairs","_law_one","_law_pot_here"]
abbrev T:List Df:=[Xjx,Xc0,Xh3,Xpu,Xmg,Xst,Xh4,Xf0,Xh5,Xc1,Xmh,Xjy,Xh6,Xjz,Xe4,Xj0,Xh7,Xgu,Xh8,Xh9,Xd2,Xj2,Xe5,Xf1,Xgv,Xgw,Xj3,Xdt,Xd3,Xe6,Xe7,Xia,Xgx,Xuw]
private abbrev MS(p:Nat)(N:LS)(fl:Bool)(d:Df):Prop:=Z.MD fns gns (top p) N fl d
def Xux:MS 19 Xuq yx Xjx:=by decide+kernel
def Xhw:MS 20 Xhu yx Xc0:=by decide+kernel
def Xqm:MS 21 Xqe yx Xh3:=by decide+kernel
def X1d:MS 26 X1c yx Xpu:=by decide+kernel
def Xye:MS 27 Xyc yx Xmg:=by decide+kernel
def X5v:MS 28 X5u yx Xst:=by decide+kernel
def Xqn:MS 29 Xqf yx Xh4:=by decide+kernel
def Xml:MS 30 Xmj yx Xf0:=by decide+kernel
def Xqo:MS 31 Xqg yx Xh5:=by decide+kernel
def Xhx:MS 32 Xhv yx Xc1:=by decide+kernel
def Xyf:MS 33 Xyd yx Xmh:=by decide+kernel
def Xuy:MS 34 Xur yx Xjy:=by decide+kernel
def Xqp:MS 35 Xqh yx Xh6:=by decide+kernel
def Xuz:MS 36 Xus yx Xjz:=by decide+kernel
def Xlm:MS 38 Xli yx Xe4:=by decide+kernel
def Xu0:MS 39 Xut yx Xj0:=by decide+kernel
def Xqq:MS 40 Xqi yx Xh7:=by decide+kernel
def Xpz:MS 41 Xpv yx Xgu:=by decide+kernel
def Xqr:MS 42 Xqj yx Xh8:=by decide+kernel
def Xqs:MS 43 Xqk yx Xh9:=by decide+kernel
def Xj5:MS 44 Xj1 yx Xd2:=by decide+kernel
def Xu1:MS 45 Xuu yx Xj2:=by decide+kernel
def Xln:MS 46 Xlj yx Xe5:=by decide+kernel
def Xmm:MS 47 Xmk yx Xf1:=by decide+kernel
def Xp0:MS 48 Xpw yx Xgv:=by decide+kernel
def Xp1:MS 49 Xpx yx Xgw:=by decide+kernel
def Xu2:MS 50 Xuv yx Xj3:=by decide+kernel
def Xi3:MS 51 Xi2 yx Xdt:=by decide+kernel
def Xj6:MS 52 Xj4 yx Xd3:=by decide+kernel
def Xlo:MS 53 Xlk yw Xe6:=by decide+kernel
def Xlp:MS 54 Xll yx Xe7:=by decide+kernel
def Xqt:MS 55 Xql yx Xia:=by decide+kernel
def Xp2:MS 56 Xpy yx Xgx:=by decide+kernel
def Xu3:MS 57 X2f yx Xuw:=by decide+kernel
universe K01
universe e
section
namespace K01
open PySem Z
def nets:TNet T G 0 1 2 3 7 8 9 10 11 6 0 1 2:=⟨rfl,rfl,rfl,rfl,rfl,rfl,rfl,rfl,rfl,rfl,rfl,rfl,rfl⟩
def drws:TDrw T 16 26 27 28 20 19 21 29:=⟨rfl,rfl,rfl,rfl,rfl,rfl,rfl,rfl⟩
def two:Two G 3 4 4 5:=⟨_,_,rfl,rfl,by decide+kernel,by decide+kernel⟩
def Xi4:T[5]?=yz (Xes 12 1 1 6):=rfl
def Yc9{k:Nat}{n:LL}(B:Nt 11 n)(S:Sto):FT T G QbR 12 Q0A S=.ok Qw2 S:=by rw[Xg (d:=Xed 13) rfl];calc Xo8 (λl S hl=>by rw[Xg (d:=Xfp) rfl];calc Xxm l hl S) (λs hs=>QZN.l6) (by let:=B.len;omega) S
def X2g{k:Nat}{n:LL}(B:Nt 11 n){i:Nat}(hi:i<=6)(S:Sto):FT T G Qca 5 QDX S=.ok Q7 Q67:=by rw[Xg Xi4];calc Xxn rfl (nets.fcn k B Q1 S) (nets.fwi Qea rfl 0 6 S) (Yc9 B S) Q0 (Xs QJN)
def Ybl(k:Nat):R01 (FT T G QEe) 31 23 18 26 27 22 28 3 16 25 where
 tk:=drws.tk (k+7)
 lf n S hn:=by rw[Xg (d:=Xef 24) rfl,<-X5g];exact Xuh (λl S hl=>by rw[Xg (d:=Xee) rfl];calc Xug l hl S) (λs hs=>(hn.fc s hs).l6) QIM S
 bn n h0 hl hs:=drws.bn QQU h0 hl hs
 bf l h1 h2:=drws.bf Qda h1 h2
 od:=drws.od Qca
 sn d S hd:=nets.fnt QQU hd S
 ln d S hd:=by rw[Xg (d:=Xdo 19 22) rfl];exact Xuf (λa b S B=>drws.lie Qca b B S) (λd hd S=>by rw[Xg (d:=Xbs 17) rfl];calc Xh2 QkI hd S) hd S
 lc d S hd:=by rw[Xg (d:=Xbs 17) rfl];exact Xh2 QkI hd S
 sb b S:=X02 (iw:=17) rfl b S
 sl x n S h1 h2 h3 h4:=X05 (iw:=17) rfl rfl h1 h2 h3 h4
 t0 n d S hn hd:=by rw[Xg (d:=Xah 30) rfl];calc Xi1 (w:=0) Q1 QDP hd ?_ rfl;rw[Xg (d:=Yj 4 3 29) rfl];calc X5r two (w:=0) Q1 ?_ rfl;rw[iP0 rfl,Xg (d:=Xcs 11 6) rfl];exact Xua QCM (nets.fhs QG5 hd.pd (Xs QIM) S)
 t1 n i S hn hi:=by rw[Xg (d:=Xah 30) rfl];calc X07 (w:=1) Q1 QDP ((Xfv i Q0).mono Q0 Q0) ?_ Q01;rw[Xg (d:=Yj 4 3 29) rfl];calc X5s two (w:=1) Q1 ?_ Q01;rw[iN0 Q1];exact X2g (k:=k) hn hi S
 t8 n d S hn hd hw:=by rw[Xg (d:=Xah 30) rfl];calc Xi1 (w:=1) Q1 QDP hd ?_ rfl;rw[Xg (d:=Yj 4 3 29) rfl];calc Xss two (w:=1) Q1 QgR ?_ Q1 Q1;rw[iN0 Q1,Xg Xi4];exact Xuc rfl QCM (by rw[<-hw];calc nets.fwi Qea hd.pd 0 6 S)
 tn w a b S hw B hb h:=by
  rw[Xg (d:=Xah 30) rfl];calc Xi1 (w:=w) Q0 B hb ?_ rfl;rw[Xg (d:=Yj 4 3 29) rfl];calc Xss two hw QgR ?_ Q1 Q1;match w,hw with
  |0,_=>rw[iP0 rfl,Xg (d:=Xcs 11 6) rfl];calc Xqc Q3L|1,_=>rw[iN0 Q1,Xg Xi4];calc Xub Q3L
abbrev prw(i:Nat):LL:=(Vq (15-i)).map λk:Nat=>[(i:Int),(i:Int)+1+k]
abbrev prs:LL:=QZC.flatMap prw
def n60:Yb (Xc QaJ)=true:=by decide+kernel
def n61:Yb (Xc QKU)=false:=by decide+kernel
def n1:Yb (Xc [[]])=true:=by decide+kernel
def n0:Yb (Xc [])=false:=by decide+kernel
def nt1:Nt 11 [[]]:=⟨by simp!,by decide,λs hs=>by rw[V6.mp hs];calc⟨.nil,by decide,λx B=>by cases B⟩,Ve2 _ _,by decide+kernel⟩
def sz0:fSz [[]] 0=[[]]:=by decide+kernel
section
variable{F:Fn}{S S1:Sto}{env:En}
def Yda{F:Fn}{G:LD}{es:Exs}{ds xs:LD}{env:En}{S S1:Sto}(B:evs F G es env S=.ok ds S1)(h:Y5 ds=yz xs):evit F G QWS env S=.ok QV8 S1:=ond B (by rw[h])
def Yd7{a b:Nat}(L:a<100000)(B:b<100000):Y5 [.int a,.int b]=yz ((Vq (b-a)).map λk:Nat=>.int ((a:Int)+k)):=by simp[Y5];rw[iP0 Q0,show((b:Int)-(a:Int)).toNat=b-a by omega]
def Ydb{i:Nat}(hi:i<16)(L x1 B x4:Option D):ev F G Qn QP9 S=.ok (rwF Q6e) S:=by
 let es:evs F G QgT QP9 S=.ok [.int QmV,.int ((16:Nat):Int)] S:=Xb QvA (Xb rfl Xz);let hi2:evit F G (.rng QgT) QP9 S=.ok (.con Qa8) S:=Yda es (Yd7 Q0 Q0);let c:=Xmy (F:=F) (G:=G) (env:=QP9) (S:=S) (n:=2) (i:=6) (elt:=.tup (.cons QF (.cons QH1 .nil))) Qa8 QQK hi2 (by rw[Vf,U9];calc Xs Q0) (λd _=>Xx2 (a:=.var 3) (b:=.var 6) rfl rfl) (λd hd=>by let⟨k,_,rfl⟩:=Vs.mp hd;rfl);let e:((Vq (16-QC2)).map λk:Nat=>D.int (QmV+k)).map QQK=Q6e.map Xa:=by unfold prw;rw[Vbq,Vbq,show 16-QC2=15-i by omega];rfl
 rw[c,e];rfl
def turn{ns:LI}{k:Nat}(j:Nat)(x1 L B x4:Option D)(S:Sto):∃e S',(∃aa,e=[yz QN,yz Qz2,L,B,aa])/\pe QcI G QN1
  QgM S=.ok QR7 S':=by
 let⟨c,hc⟩:=X0s (F:=FT T G QEe) (G:=G) ns j S;let⟨a,ha⟩:=X5h (F:=FT T G QEe) (G:=G) c S;let h1:ev QcI G (.call 15 (.cons (.call 14 QI4) .nil)) QgM S=.ok Q7 Qr2:=by
  calc(Xm (x:=.int c) (S1:=S) (QxB.trans ?_)).trans ?_;·rw[Xg (d:=Xcz) rfl];exact hc
  ·rw[Xg (d:=t_law_pot) rfl];exact ha
 let hp:Pot Qr2 QE:=⟨a,Yh _ _⟩;let⟨v,S2,d2,hn,n,rfl,nt⟩:=drws.net (G:=G) Qca _ _ hp;let⟨S3,d3,hr⟩:=Xyb (G:=G) (Ybl k) nt d2.pot;let h2:ev QcI G (.not (.call 32 (.cons Qa (.cons (.call 21 QH0) .nil)))) [yz QN,yz Qz2,L,B,yz Q7] Qr2=.ok Qc S3:=by calc Y3 (x:=yx) ((Xa1 (a:=.var 4) rfl ((Xm (a:=.var 4) rfl).trans hn)).trans ?_);rw[Xg (d:=Xeg 31 23 18 26 27 22 28 3 16 25) rfl];exact hr
 calc⟨_,S3,Q30,(Xr (i:=4) h1).trans ((Yl (v:=.bl yw) h2 rfl).trans Q7G)⟩
universe e
def law_true(ns:LI)(hl:QHE<=63):∃S',FT T G 12 33 QkM []=.ok Qb S':=by
 rw[Xg (d:=Xgr 5 3 32 21 15 14) rfl];let⟨m,hm,_⟩:=turns (F:=FT T G 11) (G:=G) (S:=[]) (ns:=ns) (env:=Qj8) 12 Q1 Q1 rfl;let f1:=Xac (F:=FT T G 11) (G:=G) (S:=[]) (S1:=[]) (env:=Qj8) (it:=.rng Q63) (t:=.var 1) (ss:=(.cons QjV (.cons QCK Q69)))
  (b:=QN1)
  QtH (λi e S'=>∃(L B:Option D),e=Q4R)
 let⟨e1,S1,q1,L,B,rfl⟩:=f1 hm ⟨yy,yy,rfl⟩ (λi d e S' hd hP=>by let⟨L,B,rfl⟩:=hP;rw[Ui]at hd;let⟨j,_,rfl⟩:=Uh.mp hd;let⟨e',S2,⟨ag,rfl⟩,h⟩:=turn (ns:=ns) (k:=2) j L yy yy B S';calc⟨_,_,S2,rfl,h,_,_,rfl⟩);let aa:evit QC3 G Qob QhM QZb=.ok (.con Qt7) QZb:=Xct (n:=16) rfl Q1;let f2:=Xac (F:=FT T G 11) (G:=G) (S:=S1++Qk2) (S1:=S1++Qk2) (env:=QhM) (it:=.rng Qx) (t:=.var 3) (ss:=Q69)
  (b:=QF3)
  Qt7 (λi e S'=>S'=S1++[.lst (QuH.map Xa)]/\∃(x3:Option D),e=QX0)
 let⟨e2,S2,q2,rfl,x3,rfl⟩:=f2 aa Qe7 (λi d e S' hd hP=>by
  let⟨rfl,x3,rfl⟩:=hP;rw[Ui]at hd;let⟨j,hj,rfl⟩:=Uh.mp hd;let hi:i<16:=by simpa using (Vk.mp hj).1
  let af:j=i:=by rw[Vdt hi]at hj;exact(Ur hj).symm
  subst af;let tk:QZC.take QuB=QZC.take j++[j]:=Xa9 hj;let le:∀i,QuH.length<=240:=λi=>by
   let ac:∀l:LN,(l.flatMap prw).length<=15*lg l:=λl=>by
    induction l with
    |nil=>exact Vi _|cons a l ih=>
     let:(prw a).length<=15:=by unfold prw;rw[Vf,U9];omega
     rw[Vfl,Uc,U4];omega
   exact V2 (ac _) (by rw[Vag,U9];omega)
  let h:=X16 (F:=FT T G 11) (G:=G) (S:=S1) (S1:=S1) (env:=[yz QN,L,yz Qr6,yz Qz2,B]) (i:=2) (v:=rwF QVX) (ys:=QVX.map Xa) (xs:=((QZC.take j).flatMap prw).map Xa) rfl rfl (Ydb hi _ _ _ _) rfl (by
   rw[Vf,Vf];let:=le j;let:QVX.length<=15:=by unfold prw;rw[Vf,U9];omega
   calc Xs Q0)
  calc⟨_,_,_,rfl,Xbp h,?_,_,rfl⟩;rw[tk,Vii,Val];simp[Vfl,List.flatMap_nil,Vaw])
 let hP:(QZC.take Q6J.length).flatMap prw=prs:=by rw[Vf,Xba];rfl
 rw[hP]at q2;let sl:∀(S:Sto) (n:Nat) (i:Int),i=(n:Int)->S[lg S1]?=yz QpZ->ev QC3 G (.blt .tuple (.cons (.sli QA .none (.some QwP)) .nil)) QX0 S=.ok (Xc (prs.take n)) QdD:=λS n i hi h=>by
  subst hi;let hl:Xl S QIE=yz QtE:=Xjt h;let e:ev QC3 G (.sli QA .none (.some Q4a)) QX0 S=.ok Q7 QdD:=by calc ond (X3 (d:=.ref QIE) rfl) (ond rfl (ond (ond rfl rfl) ?_));simp[Xf3,Xf4,lsD,hl,Xpm,Vf9]
  rw[Yw e];simp[X6,Xi,Xck];rfl
 let isn:∀(b c:Bool) (S:Sto),Xk .isnot QT7 QOf S=.ok (.bl Qcc) S:=λb c S=>rfl;let ab:∀(b c:Bool) (S:Sto),Xk .is QT7 QOf S=.ok (.bl Qsf) S:=λb c S=>rfl;generalize hX:S1++[O.lst QtE]=X at q2;let gX:X[lg S1]?=yz QpZ:=by rw[<-hX];exact Yh _ _
 let c1:=(Ym (o:=.isnot) ((Xm (f:=3) (sl X 60 60 rfl gX)).trans (QUK.trans (by rw[n60]))) (show ev QC3 G QW _ _=.ok Qb _ from rfl)).trans (isn yx yx _);let c2:=(Ym (o:=.isnot) ((Xm (f:=3) (sl (X++[.lst QiW]) 61 61 rfl (Xca gX _))).trans (QUK.trans (by rw[n61]))) (show ev QC3 G QD _ _=.ok Qc _ from rfl)).trans (isn yw yw _);generalize hY:X++[O.lst QiW]++[O.lst (QKU.map Xa)]=Y at c2;let c:ev QC3 G Qm QX0 X=.ok Qc Y:=ond c1 c2;let a1:ev QC3 G (.cmp .is (.call 3 QdK) QW) QX0 Y=.ok Qb Y:=(Ym (o:=.is) ((Xm (f:=3) (x:=Xc [[]]) rfl).trans (QVK.trans (by rw[n1]))) rfl).trans (ab yx yx Y);let a2:ev QC3 G (.cmp .is (.call 3 QI) QD) QX0 Y=.ok Qb Y:=(Ym (o:=.is) ((Xm (f:=3) (x:=Xc []) rfl).trans (QVK.trans (by rw[n0]))) rfl).trans (ab yw yw Y);let a3:∃Z,ev QC3 G (.cmp .eq (.call 5 QmD) QoF) QX0 Y=.ok Qb Z:=by
  let f:FT T G 11 5 [Xc [[]],.int 0] Y=.ok QIH QC8:=by let f:=X2g (k:=5) nt1 (i:=0) Q1 Y;rw[show fSz [[]] QS4=[[]] from sz0]at f;exact f
  calc⟨Y++[.lst [Xa []]],(Ym ((Xa1 (f:=5) (x:=Xc [[]]) (y:=.int 0) rfl rfl).trans f) (Ye (xs:=[Xa []]) rfl rfl)).trans (Xfu ?_)⟩;let hd:Yp QC8 QIH=yz QfN:=by show Xb0 QC8 4 (lg Y)=_;rw[Xb0,Yh];rfl
  let ae:Yp QC8 QfT=yz QfN:=rfl;unfold eqD;rw[show Xd4 QIH QfT=yy from rfl];dsimp;rw[hd,ae];kernel_rfl
 let⟨Z,a3⟩:=a3;let a:ev QC3 G Qy QX0 Y=.ok Qb Z:=ond a1 (ond a2 a3);calc⟨Z,?_⟩;show gcB yw [] (Xna (pe QC3 G _ Qj8 []))=_;let e0:ev QC3 G Qt5 Q4R S1=.ok Qr6 (S1++[O.lst []]):=rfl;let body:=q1.trans ((Xr (i:=2) e0).trans (q2.trans (QI3.trans (Q7G.trans (Xw a)))));rw[show pe QC3 G (Xgr 5 3 32 21 15 14).body Qj8 []=_ from body];rfl
universe K01
universe e
section
namespace K01
open PySem PySem.Spec PyProof.Rows L2 Z
set_option maxHeartbeats 0 in
def all_mk {P:V0} {w:V9} {K:Vh} {h:Heap} {mg:Str->OV} {fa:Addr} {t0 t1 t2:Tok} (X:K.In h) (B:h.Ns Um mg) (ac:mg "law"=yz QHH)
  (er:Xz7 K=yx) (bl:Yae K=yx) (g0:Va2 K Um "GREATEST_POINT"=yz (yz (.int 15 t0))) (g1:Va2 K Um "GREATEST_SIZE"=yz (yz (.int 6 t1))) (g2:Va2 K Um "MOST_SIDES"=yz (yz (.int 60 t2)))
  (f0:FunAt K "is_whole" (top 19)) (f1:FunAt K "is_whole_within" (top 20)) (f2:FunAt K "is_rising" (top 21)) (f3:FunAt K "is_net" (top 26)) (f4:FunAt K "is_face" (top 27)) (f5:FunAt K "faces" (top 28)) (f6:FunAt K "check_net" (top 29)) (f7:FunAt K "is_any_face" (top 30)) (f8:FunAt K "is_nested" (top 31)) (f9:FunAt K "lies_in_another" (top 32)) (ai:FunAt K "lies_in" (top 33)) (ax:FunAt K "has_face" (top 34)) (aa:FunAt K "all_faces" (top 35)) (aq:FunAt K "parts_of" (top 36)) (af:FunAt K "_law_cell_at" (top 38)) (av:FunAt K "_law_pot" (top 39)) (ay:FunAt K "_law_take" (top 40)) (ag:FunAt K "_law_whole" (top 41)) (ar:FunAt K "_law_same" (top 42)) (az:FunAt K "_law_lies" (top 43)) (ap:FunAt K "_law_greatest" (top 44)) (al:FunAt K "_law_net" (top 45)) (an:FunAt K "_law_is_face" (top 46)) (ab:FunAt K "_law_is_net" (top 47)) (a2:FunAt K "_law_parts" (top 48)) (aj:FunAt K "_law_faces" (top 49)) (aw:FunAt K "_law_odd" (top 50)) (ah:FunAt K "_law_bent_face" (top 51)) (ao:FunAt K "_law_bent_net" (top 52)) (am:FunAt K "_law_kind_of" (top 53)) (a1:FunAt K "_law_told_by" (top 54)) (ae:FunAt K "_law_told" (top 55)) (a0:FunAt K "_law_right" (top 56)) (L:FunAt K "law" (top 57)):
  ∃fd:Vdc,(∀(s:Vc) (u:Vb),BindsTo s fd QdM [("_law_script",u)])/\∀base:Heap,K.In base->QcP->FnOk P w K mg base QBH 12 fa fd ["_law_script"] (spD K QMR 1 (FT T G 12 33)):=by
 let au:=X4i er;let ak:=X43 X B bl;let hg:∀(k:Nat) nm,gns[k]?=yz nm->∃u d,mg nm=yz u/\G[k]?=yz d/\∀ ρ H,∃v,RelV v u/\RD K ρ H d v:=λk nm e=>by
  match k,e with
  |0,e=>cases e;calc Xkz X B g0|1,e=>cases e;calc Xkz X B g1|2,e=>cases e;calc Xkz X B g2|3,e=>cases e;calc Xw5 X B f4|4,e=>cases e;exact Xw5 X B f5|k+5,e=>cases e
 let hD:AllD K mg fns gns fns T:=AllD.c (dk X B f0 Xux Xao) <| AllD.c (dk X B f1 Xhw X0m) <| AllD.c (dk X B f2 Xqm Xao) <| AllD.c (dk X B f3 X1d Xao) <| AllD.c (dk X B f4 Xye Xcx) <| AllD.c (dk X B f5 X5v Xcx) <| AllD.c (dk X B f6 Xqn Xao) <| AllD.c (dk X B f7 Xml Xao) <| AllD.c (dk X B f8 Xqo Xao) <| AllD.c (dk X B f9 Xhx Xcx) <| AllD.c (dk X B ai Xyf Xcx) <| AllD.c (dk X B ax Xuy Xcx) <| AllD.c (dk X B aa Xqp Xao) <| AllD.c (dk X B aq Xuz Xao) <| AllD.c (dk X B af Xlm Xcx) <| AllD.c (dk X B av Xu0 Xao) <| AllD.c (dk X B ay Xqq Xcx) <| AllD.c (dk X B ag Xpz Xao) <| AllD.c (dk X B ar Xqr Xcx) <| AllD.c (dk X B az Xqs Xcx) <| AllD.c (dk X B ap Xj5 Xao) <| AllD.c (dk X B al Xu1 Xao) <| AllD.c (dk X B an Xln Xao) <| AllD.c (dk X B ab Xmm Xao) <| AllD.c (dk X B a2 Xp0 Xao) <| AllD.c (dk X B aj Xp1 Xao) <| AllD.c (dk X B aw Xu2 Xao) <| AllD.c (dk X B ah Xi3 Xcx) <| AllD.c (dk X B ao Xj6 Xcx) <| AllD.c (dk X B am Xlo Xao) <| AllD.c (dk X B a1 Xlp X0m) <| AllD.c (dk X B ae Xqt X0m) <| AllD.c (dk X B a0 Xp2 Xcx) <| AllD.c (dk X B L Xu3 Xao) <| True.intro;calc law_fn (k:=11) (d:=Xuw) (st:=top 57) (N:=X2f) X B ac au ak hg hD.get rfl L (ms Xu3) (mm Xu3) rfl rfl Xao
abbrev kept:LM:=[top 1,top 2,top 3,top 4,top 5,top 6,top 7,top 8,top 9,top 10,top 11,top 12,top 13,top 14,top 15,top 16,top 17,top 19,top 20,top 21,top 23,top 24,top 25,top 26,top 27,top 28,top 29,top 30,top 31,top 32,top 33,top 34,top 35,top 36,top 38,top 39,top 40,top 41,top 42,top 43,top 44,top 45,top 46,top 47,top 48,top 49,top 50,top 51,top 52,top 53,top 54,top 55,top 56,top 57]
abbrev Q:V0:={ PySem.Challenge.pw_facecounts_k01_what_is_a_net with main:={ PySem.Challenge.pw_facecounts_k01_what_is_a_net.main with body:=kept} }
universe K01
end
end
open PySem PySem.W PyProof.Rows
noncomputable def PySem.W.Fast.tw11694126871185662986:PySem.Program:=PySem.Challenge.pw_facecounts_k01_what_is_a_net
theorem PySem.W.Fast.te11694126871185662986:PySem.Challenge.pw_facecounts_k01_what_is_a_net=PySem.W.Fast.tw11694126871185662986:=rfl
lay_quick Z.topT PySem.W.topStub
set_option maxRecDepth 100000 in
set_option maxHeartbeats 0 in
theorem K01.st_ok:Z.RunT PySem.Challenge.pw_facecounts_k01_what_is_a_net (λw s=>staticsOk (Vfd PySem.Challenge.pw_facecounts_k01_what_is_a_net.main.body) (boot_heap w.params) s.abs.heap&&namesBound PySem.Challenge.pw_facecounts_k01_what_is_a_net s.abs.heap&&gensDone s.abs&&laidKept (boot_heap w.params) s.abs.heap) λ_=>true:=by intro w os;rw[PySem.W.Fast.te15842407815417585275,PySem.W.Fast.te2530740449226627131,Vg2];kernel_rfl
set_option maxRecDepth 100000 in
set_option maxHeartbeats 0 in
theorem K01.seen_ok:Z.RunT PySem.Challenge.pw_facecounts_k01_what_is_a_net (λ_ s=>openSeen K01.Q [] (Vfd PySem.Challenge.pw_facecounts_k01_what_is_a_net.main.body) (λs=>PySem.W.xlAt K01.Q [] s&&PySem.W.recOk [] s) yx s.abs) λ_=>openGood K01.Q []:=by intro w os;unfold K01.Q K01.kept K01.top;rw[PySem.W.Fast.te4187177175401517315,PySem.W.Fast.te15842407815417585275,PySem.W.Fast.te2530740449226627131,Vg2];kernel_rfl
local macro_rules | `(tactic| o_head $H)=>`(tactic|
 refine PySem.W.holds_open (q:=K01.Q) (loose:=[]) (Xt:=λs=>PySem.W.xlAt K01.Q [] s&&PySem.W.recOk [] s)
  (XP:=PySem.W.XL K01.Q []) (Yf:=PySem.W.Hook.obs $H) (Ya:=PySem.W.Hook.val $H)
  (YP:=PySem.W.Hook.says $H) (N:=40000) ?hl (PySem.W.Hook.of $H) (PySem.W.Hook.keeps $H)
  (λs e=>PySem.W.xl_of s (Bool.and_eq_true_iff.mp e).1) PySem.W.XL.keeps
  (by rfl) (by rfl) (by rfl)
  (λs e=>PySem.W.recFacts_of (Bool.and_eq_true_iff.mp e).2)
  (by rfl) (by first|assumption|decide+kernel) (by decide+kernel)
  ⟨rfl,rfl,rfl,rfl,rfl,by decide+kernel⟩ ?hw ?hc)
set_option maxRecDepth 100000 in
set_option maxHeartbeats 0 in
theorem PySem.Challenge.cw_facecounts_k01_what_is_a_net_holds : PySem.Challenge.rw_facecounts_k01_what_is_a_net.Holds := by
 w_on;o_law;x_head
 (case hl =>
  refine Z.left_tree3 (p:=PySem.Challenge.pw_facecounts_k01_what_is_a_net) (by kernel_rfl) (λs=>by kernel_rfl) K01.st_ok K01.seen_ok ?_
  intro w os;dsimp only[PySem.W.kHook];rw[PySem.W.Fast.te15842407815417585275,PySem.W.Fast.te2530740449226627131,PySem.W.Fast.te14364793385576792824]
  kernel_rfl)
 (case hw=>w_witness2)
 k_fill
 refine Z.walk_z (l:=PySem.Challenge.rw_facecounts_k01_what_is_a_net) (T:=K01.T) (G:=K01.G) (k:=12) (f:=33) (x:="_law_script") rfl rfl ⟨rfl,rfl,by decide,by decide⟩ (λw h Y=>PySem.W.kIn_of Y) (λw=>by kernel_rfl) ?F K01.law_true
 case F =>
  as_aux_lemma =>
   intro w mg fa h KX G hmg;refine' K01.all_mk KX G hmg ?er ?bl ?g0 ?g1 ?g2 ?f0 ?f1 ?f2 ?f3 ?f4 ?f5 ?f6 ?f7 ?f8 ?f9 ?f10 ?f11 ?f12 ?f13 ?f14 ?f15 ?f16 ?f17 ?f18 ?f19 ?f20 ?f21 ?f22 ?f23 ?f24 ?f25 ?f26 ?f27 ?f28 ?f29 ?f30 ?f31 ?f32 ?f33
   (case g0=>k_is)
   (case g1=>k_is)
   (case g2=>k_is)
   (case er=>kernel_rfl)
   (case bl=>kernel_rfl)
   all_goals (refine' Z.funAt_mk ?a ?l ?c ?k;(case a=>k_is);(case l=>k_is);(case c=>k_is);(case k=>k_is))
end
