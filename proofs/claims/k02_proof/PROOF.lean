import PyProof.Rows.All
import Wide.All
import OpenK.AllK
import Wide.FinOn
import Lean
import PyProof.EqAt
import PyProof.EqKinds
import PyProof.TupleCall
import PySem.Challenge.RW_facecounts_k02_counts_tallies_and_rings
set_option Elab.async false
set_option linter.all false
set_option maxRecDepth 100000
set_option exponentiation.threshold 3000
set_option genSizeOf false
set_option bootstrap.genMatcherCode false
set_option compiler.extract_closed false
set_option genSizeOfSpec false
universe u
open List renaming length→lg
open Option renaming some→yz,none→yy
open Bool renaming true→yx,false→yw
open PySem renaming wpAny_bind→Va,Value→Vb,Shared→Vc,wpAny_pure→Vd,wpAny→Vg,model→Vj,wpAny_mono→Vp,Program→V3,sizeLine→V8,World→Ua,starEach→Uf,mainGlobals→Up,wpAny_call_entry→Uv,SetTable→Uw,Around→Uz,rawInt→U0,wpAny_holding→U2,wpAny_field→U8,wpAny_setField_rec→U9,Scope→Vaj,wpAny_newObj_type→Val,wpAny_callSpecial?_slot→Vat,wpAny_Call_Name_kw→Vau,codeAny_builtin→Va0,wpAny_setState_of→Va6,sizeLine_eq→Va7,Builtin→Vbd,intKind→Vbj,compareOp→Vbr,cLine→Vbw,backTo→Vb2,wpAny_rule→Vb3,Env→Vb4,assignEach→Vb8,Comprehension→Vca,wpAny_truthy_bool→Vch,cellsFrom→Vci,foldedSetIterable→Vcj,wpAny_typeOf→Vcm,PyData→Vcn,codeAny→Vcq,wpAny_seqItems→Vcs,binaryOp→Vcw,wpAny_loadPart'→Vc0,mem_of_lookup→Vc2,wpAny_is_plain→Vdc,sysModules→Vdf,letOwnedTupleGo→Vdg,FuncData→Vdh,holding→Vdp,wpAny_attempt→Vds,pyNext→Vdx,wpAny_askSetting→Vd3,unsupported→Vd7,codeAny_mono→Vea,plainId_quiet→Veg,swapsWithSole→Vei,swappedStores→Vej,bootBuiltins→Vew,Keyword→Ve5,wpAny_standAt→Ve7,call_meets→Ve9,codeAny_of_tree→Vfb,importedModules→Vfc,NameKind→Vfe,wpAny_pyIter_list→Vfj,pyIter→Vfl,IsPart→Vfm,builtinLookup_eq_fast→Vfn,wpAny_load→Vfv,wpAny_isInstance→Vfw,checkBuiltinCall→Vfy,codeAny_call_builtin→Vfz,wpAny_newList→Vf5,getItem→Vf7,wpAny_of_eq→Vf8,swapsWith→Vgq,wpAny_pyIter_tuple→Vgr,builtinsNs→Vgw,wpAny_runValue→Vg2,wpAny_pyIter_slot→Vhb,wpAny_storeSet_of→Vhd,ofAClassStatement→Vhf,keywordEach→Vhk,behindInMarks→Vhq,wpAny_forIn_list→Vh1,typeLookup_type→Vic,wpAny_updateSeq_pair→Vie,wpAny_Assign_stores→Vip,firstArgMember→Vix,wpAny_newTuple→Viy,wpAny_assign_Name→Vjh,wpAny_sequenceKey→Vji,wpAny_binaryOp_repeat_ref→Vjo,wpAny_comprehension_free→Vjx
open List renaming length_map→Ve,getElem?_eq_some_iff→Vk,mem_map→Vm,replicate→Vn,size_toArray→Vq,mem_cons→Vr,range→Vv,mem_singleton→Vw,getElem?_append_left→Vy,mem_cons_of_mem→V2,mem_cons_self→V6,mem_of_getElem?→V7,length_append→Ub,all_eq_true→Uc,getElem?_map→Ud,map_cons→Uh,mem_filter→Ui,append_assoc→Uj,mem_append→Um,take_append_drop→Ut,length_cons→Ux,getElem?_eq_none_iff→U3,filterMap_cons→U5,length_range→U6,getElem?_eq_getElem→U7,getElem?_append_right→Vac,mem_append_right→Vag,length_take→Vah,pairwise_cons→Vai,map_append→Vak,replicate_succ→Van,getElem?_set_self→Vap,map_map→Var,pairwise_append→Vas,all_cons→Vaw,getElem?_set_ne→Vay,mem_range→Va1,getElem?_eq_none→Va2,append_nil→Va4,not_mem_nil→Va5,take_of_length_le→Va9,getD_eq_getElem?_getD→Vbf,isEmpty_iff→Vbh,mem_append_left→Vbk,lookup_cons→Vbo,any_eq_true→Vbp,flatten_cons→Vbt,pairwise_singleton→Vbx,foldl_cons→Vb0,mem_iff_getElem→Vb1,length_drop→Vb5,getElem_mem→Vb6,nodup_append→Vb9,length_set→Vck,extract_eq_drop_take→Vcl,mem_reverse→Vcp,forall_mem_cons→Vcu,foldl_append→Vcy,getElem?_range→Vc3,take_succ_eq_append_getElem→Vc8,length_singleton→Vdb,drop_drop→Vdd,length_filter_le→Vde,nodup_cons→Vdi,forIn_cons→Vdl,mem_of_mem_take→Vdn,filter_map→Vdo,getElem?_replicate→Vdv,toList_toArray→Vdy,map_eq_nil_iff→Vd0,map→Vd1,mem_iff_getElem?→Ved,mem_of_mem_drop→Veq,findIdx?_eq_some_iff_getElem→Vet,take_length→Vez,length_pos_iff→Ve1,mem_filterMap→Ve8,eq_nil_of_length_eq_zero→Vfh,set_append_right→Vfp,all_map→Vfq,reverse_append→Vga,filter_eq_self→Vgc,pairwise_iff_getElem→Vge,filterMap_map→Vgj,map_nil→Vgk,zip_cons_cons→Vgm,map_id'→Vgu,foldl→Vgx,drop_zero→Vgz,forIn_nil→Vg1,nodup_nil→Vg4,ext_getElem?→Vha,pairwise_map→Vhg,range_succ_eq_map→Vhl,drop_eq_nil_of_le→Vhm,filter_eq_nil_iff→Vhn,map_take→Vhv,map_drop→Vhw,sum_cons→Vhx,cons_append→Vh0,length_replicate→Vh5,getElem?_toArray→Vh6,singleton_append→Vh8,pairwise_reverse→Vh9,of_mem_zip→Via,length_nil→Vig,set_set→Vik,length_zip→Vil,map_congr_left→Viq,filter_sublist→Vir,take_take→Vi2,drop_take→Vi3,getElem?_drop→Vi9,ne_nil_of_mem→Vjc,reverse_perm→Vjk,flatMap_cons→Vjl,any_eq_false→Vjm,getElem?_zip_eq_some→Vjp,drop_eq_getElem_cons→Vjs,exists_mem_of_ne_nil→Vju,getElem?_take_of_lt→Vjv
open PySem.Heap renaming get?_push_of_some→Vf,get?_push_size→Vo,lt_size→Vz,SameBut→Vab,size_push→Vao,get?_update_self→Vda,get?_update_other→Vff,size_update→Vh2
open PySem.W renaming Frag→Vh,nsIn→Va3,hideAll_none→Vcf,hideAll→Vcz,fnOf→Vc6,mg_of→Vdr,findIn→Veu,keepIn→Vev,hideAll_get→Ve0,of_hideAll→Vgh,callWith_K→Vgp,kitOne→Vg5,cellsFrom_some→Vhh,tabIn→Vhp,codeIn→Vit,methodObj→Vjg
open Nat renaming le_refl→Vi,le_trans→V5,lt_of_lt_of_le→Uk,ne_of_lt→Ul,lt_of_le_of_lt→Uu,zero_le→Vaq,not_lt_zero→Vbb,lt_succ_of_lt→Vbi,min_eq_left→Vc1,le_of_lt→Vc4,ne_of_gt→Vc5,exists_eq_add_of_le→Vdw,lt_succ_self→Vd2,le_succ→Vd6,pow_le_pow_right→Ves,lt_trans→Vey,add_sub_cancel_left→Ve3,lt_irrefl→Ve4,le_add_right→Vf1,lt_of_add_lt_add_left→Vgf,pow_succ→Vgl,zero_add→Vgn,mod_lt→Vgy,lt_of_succ_lt→Vhc,add_assoc→Vhs,succ_le_succ→Vhy,le_of_not_lt→Vhz,add_le_add_right→Vim,mul_le_mul_right→Vin,add_right_comm→Vi6,lt_trichotomy→Vjj
open PyProof.Rows renaming Keyed→Vl,arrOf→Vt,wpS_bind→Vu,wpS_pure→V4,SortSt→V9,pendingOf→Us,callWith_type1→Vaf,seqObj→Vam,kindOf→Vaz,callWith_builtin1→Vbe,spliced_none→Vbl,wpS_forRange→Vbq,slot_tuple_getitem→Vbv,IntsAre→Vby,spliced_more→Vb7,failedOf→Vc9,wpS_mono→Vdm,SortKind→Vd4,IsTup→Vd5,elem'→Vd9,subscriptTail→Vf3,listItems_at→Vgs,wpS_modify→Vg3,reverseSlice'→Vht,entry_list_sort→Vih,entry_tuple_getitem→Vio,slot_list_sort→Viz,args_list_sort→Vi0,assignInOrder_cons→Vi4,args_tuple_getitem→Vi5
open Bool renaming false_eq_true→Vs,false_ne_true→V0,not_eq_true'→Uq,or_eq_true→Vbc,true_and→Vbg,eq_iff_iff→Vcd,false_and→Vcg,and_false→Vct,not_true→Vc7,and_self→Vdt,eq_false_iff→Vem,not_false→Viv
open Option.some renaming injEq→Vx,inj→Ur
open Array renaming length_toList→V1,getElem?_toList→Ue,getElem?_eq_getElem→Uo,getElem?_eq_some_iff→Vad,toList_append→Vav,getD→Va8,toList_extract→Vcr,toList_push→Vcx,perm_iff_toList_perm→Veh,toList_reverse→Ver,getD_eq_getD_getElem?→Vft,getElem_toList→Vf0,toList_setIfInBounds→Vf4,toList_filterMap→Vhj,size_setIfInBounds→Vjw
open Option renaming map_eq_some_iff→Ug,bind_some→Uy,map_some→Vaa,isSome_iff_exists→Vdj,getD_some→Vfx,bind_eq_some_iff→Vg8,isNone_iff_eq_none→Vjt
open PySem.Value renaming ref→U1,none→Vbz,type→Vce,int→Vfs,bool→Vfu,isInt_shape→Vg9
open PySem.Builtin.SmallTypes renaming nextOf→U4,ownedTupleIsFree→Vax,ownedTupleHandOut→Vco
open PySem.Obj renaming mapSeq→Vae,putSet→Vd8
open PySem.Around renaming under_plainId→Vba,in1_units→Vh4
open PySem.Calls renaming spliced_cons→Vbm,spliced_nil→Vdq,evalArgs_plain→Veo,call_function_entry→Vep,callWith_builtin→Vfg,Name_function_global→Vjd
open PySem.Builtin.Tuple renaming tupleExact→Vbn,tupleItemsOf→Vf2,tupleTooMany→Vje
open PySem.Builtin.List renaming listExtendWith→Vbs,listTooLong→Vex,listLengthHint→Vi8,listSameRef→Vj0
open Int renaming toNat_natCast→Vbu,ofNat→Veb,toNat→Vfa,natCast_nonneg→Vgv
open PySem.Str renaming ofString→Vcb
open List.Perm renaming refl→Vcc,swap→Vg0,append_left→Vh7
open PyProof.Rows.F renaming plain_set_update_loop→Vcv,entry_set_update_loop→Ve2
open PySem.PyData renaming eqv→Vdk,depthAll→Vfd,canLayAll0→Vfi,depth→Vfr,eqvAll→Vf6,showableAll→Vjb
open PySem.Builtin.Range renaming rangeSize→Vdu,small→Vgb
open PySem.Heap.SameBut renaming update→Vdz,refl→Vel
open ForInStep renaming yield→Vec
open PySem.Builtin.Slice renaming sliceApplied→Vee,slicePlaces→Ven,sliceAdjust→Vgd,sliceFields→Vjn
open PySem.F renaming slot_tuple_iterator_next→Vef,slot_enumerate_next→Vfo,args_tuple_add_2→Vgi,entry_tuple_add→Vg6,slot_list_index→Vg7,plain_list_iadd→Vhe,slot_tuple_add→Vhi,slot_tuple_lt→Vid,slot_zip_next→Vif,slot_set_add→Vij,args_tuple_iterator_next_1→Viw,entry_tuple_iterator_next→Vi7,args_list_index_2→Vjq,entry_list_index→Vjy
open List.Pairwise renaming nil→Vek
open Prod.mk renaming injEq→Ve6
open List.Sublist renaming refl→Vfk
open PySem.Builtin.Int renaming intBits→Vf9
open Classical renaming byContradiction→Vgg
open PySem.AutoSeq1 renaming sub_tuple_tuple→Vgo
open PySem.Code renaming quiet_builtin→Vgt
open PySem.SetTable renaming fits→Vho,tooFull→Vh3,below→Vi1
open PySem.NameKind renaming free→Vhr
open Function renaming comp→Vhu
open False renaming elim→Vib
open PyProof.Rows.SortSt renaming mk'→Vii
open PySem.Builtin renaming bitAnd→Viu
open PySem.Heap.IsSliceOf renaming new→Vja
open PySem.Builtin.Frozenset renaming newClass→Vjf,sizeOf→Vjz
open PySem.Manifest renaming sig_set_iterator→Vjr
abbrev LV:=List PySem.Value
abbrev LS:=List PySem.Str
abbrev LX:=List PySem.Expr
abbrev LM:=List PySem.Stmt
abbrev LF:=List (PySem.Str×Nat×Bool)
abbrev LN:=List Nat
abbrev AV:=Array PySem.Value
abbrev OV:=Option PySem.Value
abbrev LL:=List (List Int)
abbrev LI:=List Int
abbrev LA:=List (PySem.Addr×PySem.Obj)
abbrev LR:=List PySem.Addr
abbrev VP:=PySem.Value->PySem.Shared->Prop
set_option hygiene false
section
local macro_rules|`(tactic|omega)=>`(tactic|first|lia|omega+splitNatSub)
open Lean in
local macro_rules|`(mutual $c* end)=>do
 let k:=c[0]!.raw
 unless k.isOfKind ``Parser.Command.check do Macro.throwUnsupported
 let n:=Syntax.node .none
 let o:=n `null #[]
 let y(x:Syntax):=n ``Parser.Tactic.rcasesPatMed #[n `null #[x]]
 let g(s:Syntax):=match s with
  |.ident ..=>y (n ``Parser.Tactic.rcasesPat.one #[s])
  |.node _ k a=>if k== ``Parser.Term.hole then y (n ``Parser.Tactic.rcasesPat.ignore a) else if k== ``Parser.Term.anonymousCtor then y (n ``Parser.Tactic.rcasesPat.tuple #[s[0],n `null (s[1].getArgs.map fun x=>if x.isAtom then x else n ``Parser.Tactic.rcasesPatLo #[x,o]),s[2]]) else s
  |_=>s
 let w(s:Syntax)(k:Name)(a:Array Syntax):Syntax:=
  if k== ``Parser.Tactic.simp||k== ``Parser.Tactic.dsimp then (if s[3].getArgs.isEmpty then n k (a.set! 3 (n `null #[.atom .none "only"])) else s)
  else if k== ``Parser.Tactic.simpAutoUnfold then n ``Parser.Tactic.simp (a.set! 0 (.atom .none "simp"))
  else if k== ``Parser.Tactic.dsimpAutoUnfold then n ``Parser.Tactic.dsimp (a.set! 0 (.atom .none "dsimp"))
  else if k== ``Parser.Tactic.tacticLet__ then (let l:=s[2][0];if l[0].isOfKind ``Parser.Term.anonymousCtor&&l[2].getArgs.isEmpty then n ``Parser.Tactic.obtain #[.atom .none "obtain",n `null #[l[0].rewriteBottomUp g],o,n `null #[l[3],n `null #[l[4]]]] else n ``Parser.Tactic.tacticHave__ (a.set! 0 (.atom .none "have")))
  else if k== ``Parser.Tactic.lia then n ``Parser.Tactic.omega #[.atom .none "omega",n ``Parser.Tactic.optConfig #[n `null #[n ``Parser.Tactic.configItem #[n ``Parser.Tactic.posConfigItem #[.atom .none "+",mkIdent `splitNatSub]]]]]
  else if k== ``Parser.Term.let then n ``Parser.Term.have (a.set! 0 (.atom .none "have"))
  else if k== ``Parser.Tactic.exact||k== ``calcTactic then (let e:=if k== ``calcTactic then s[1][0][0] else s[1];if (e.find? (·.isOfKind ``Parser.Term.syntheticHole)).isSome then n ``Parser.Tactic.refine #[.atom .none "refine",e] else n ``Parser.Tactic.exact #[.atom .none "exact",e])
  else if k== ``Parser.Command.declaration then (let m:=s[0];let d:=s[1];let q:=d.getKind
   let v(x y:Syntax):=n k #[x,y]
   if !m[2].getArgs.isEmpty then v (m.setArg 2 o) d
   else if q== ``Parser.Command.definition then v m (n ``Parser.Command.theorem #[.atom .none "theorem",d[1],n ``Parser.Command.declSig #[d[2][0],d[2][1][0]],d[3]])
   else if q== ``Parser.Command.abbrev then v (m.setArg 4 (n `null #[n ``Parser.Command.noncomputable #[.atom .none "noncomputable"]])) (n ``Parser.Command.definition #[.atom .none "def",d[1],d[2],d[3],o])
   else if q== ``Parser.Command.theorem then v m (n ``Parser.Command.definition #[.atom .none "def",d[1],n ``Parser.Command.optDeclSig #[d[2][0],n `null #[d[2][1]]],d[3],o]) else s)
  else s
 let f(t:Array Syntax)(s:Syntax):Syntax:=s.rewriteBottomUp fun s=>match s with
  |.ident _ w n p=>let s:=.ident .none w n p;match n.components with
   |.str .anonymous x::r=>match x.toList with
    |'Q'::a::b=>if a<'0' then s else match t[a.toNat-48+(b.headD '/').toNat*75-3525]?,r with
     |.some e,[]=>e
     |.some e,[y]=>.node .none ``Parser.Term.proj #[e,.atom .none ".",mkIdent y]
     |_,_=>s
    |_=>s
   |_=>s
  |.atom _ v=>.atom .none v
  |.node _ k a=>w s k a
  |_=>s
 let t:=k[1][1].getSepArgs.foldl (fun t e=>t.push (f t e)) #[]
 pure (mkNullNode ((c.raw.drop 1).map fun s=>if s.isOfKind ``Parser.Command.universe then .node .none ``Parser.Command.end #[.atom .none "end",mkNullNode (if s[1][0].getId==`e then #[] else #[s[1][0],mkNullNode])] else f t s))
mutual
#check[by omega,by decide,.var 1,Vj X.prog X.w,.var 0,Vj prog w,.cst (.int 1),.ref (lg S),by decide+kernel,.var 2,0,0,0,0,0,0,0,(by simp!),.cons (.ret (.cst (.bl yw))) .nil,.ref s.heap.objs.size,lg S,.var 3,(λx y S h=>by cases x<;>first|calc aB0 rfl h|(cases y<;>first|calc⟨_,_,rfl,rfl⟩|calc aB0 rfl h)),Vt st,.int 1,{cls:=.type "set_iterator",data:=.fields #[U0 0,U0 0,.ref a,U0 es.size,U0 ep]},{cls:=.type "range",data:=.fields #[.int lo t,.int hi u,.int 1 v]},Xo prog w,lg xs,(by simpa using q),.cst (.int 0),{s with heap:=h' },.tup (.cons (.tup .nil) .nil),l.map D.int,.cons (.tup .nil) .nil,{cls:=.type "list",data:=.seq ([]:LV).toArray},.cst (.int 2),⟨t,rfl⟩,.ref p,["enumerate","zip","dict_itemiterator","dict_reverseitemiterator","odict_iterator","itertools.zip_longest","itertools.pairwise"],ns.map D.int,.frz (.lst (.cons (.cst (.str "net")) (.cons (.cst (.str "face")) (.cons (.cst (.str "point")) (.cons (.cst (.str "apart")) (.cons (.cst (.str "many")) (.cons (.cst (.str "text")) (.cons (.cst (.str "row")) (.cons (.cst (.str "number")) (.cons (.cst (.str "level")) (.cons (.cst (.str "crowd")) (.cons (.cst (.str "way")) (.cons (.cst (.str "closed")) .nil))))))))))))),.cst (.bl yw),0,0,0,0,0,0,(qs.map (·.2)),(·.1),Xg (a:=.var 0) rfl,Vi _,⟨_,rfl⟩,.cons Q4 .nil,.cons Q2 .nil,.frz (.lst (.cons (.cst .non) (.cons (.cst (.bl yx)) (.cons QZ (.cons (.neg Q6) (.cons QN (.cons (.cst (.int 16)) (.cons (.bin .pow (.cst (.int 10)) (.cst (.int 30))) (.cons (.cst (.str "")) (.cons (.cst (.str "0,1")) (.cons (.tup .nil) (.cons QP (.cons (.frz (.lst QR)) (.cons (.tup (.cons QN .nil)) (.cons (.frz .dct0) (.cons (.tup (.cons (.tup (.cons QN (.cons Q6 .nil))) (.cons (.frz (.lst (.cons QT .nil))) .nil))) (.cons (.tup (.cons (.cst (.bl yx)) .nil)) .nil))))))))))))))))),.cons Q9 .nil,.asg QE (.bin .mod (.bin .mul (.bin .add (.bin .add (.bin .mod Q4 (.cst (.int 2147483629))) (.bin .mul (.cst (.int 7919)) Q9)) Q6) (.cst (.int 48271))) (.cst (.int 2147483647))),.cons QE .nil,{cls:=.type (Xe2 k),data:=.fields #[.ref a,.int 0 0]},n.map Xa,s.heap.push (Vam "list" #[] 0),Xq I.sr I.inv,fa env S,.var 4,{cls:=.type "list",data:=.seq its.toArray n},{s with heap:=h',toks:=tk},.ref a,.lst (.cons (.cst (.int 16)) (.cons (.neg Q6) (.cons (.cst (.bl yx)) (.cons QZ (.cons (.cst .non) (.cons (.cst (.str "1")) (.cons (.tup (.cons QN .nil)) (.cons (.frz (.lst (.cons Q6 .nil))) (.cons (.bin .pow (.cst (.int 10)) (.cst (.int 20))) (.cons (.cst (.int 15)) .nil)))))))))),[yz QV,yz (Xa l),yz o,yy,yz (.int c),yz (.int a)],y::ys,k+(d+1),(by rw[q];calc λz=>nomatch z),(s.heap.update a (Vae λ_=>(#[]:AV))).push (Vam "tuple" Qa.toArray 0),.asg QE (.bin .mod (.bin .add (.bin .add (.bin .mul QE QE) (.bin .mul (.cst (.int 69621)) Q9)) (.cst (.int 7))) (.cst (.int 2147483587))),.cons (.cst (.int 16)) .nil,.bl yx,.frz (.lst (.cons (.cst (.str "swap")) (.cons (.cst (.str "places")) (.cons (.cst (.str "deed")) (.cons (.cst (.str "line")) .nil))))),λt z=>D.noConfusion z,x==("__debug__" : Str),env++Vn n yy,Xb n,.cst (.int 4),yz (.int (Y3 n)),0,0,0,0,0,0,0,Vam "list" #[] 0,.ite (.not (.call is (.cons (.call itl (.cons (.cst (.int 3)) (.cons Q2 (.cons (.var 12) .nil)))) (.cons (.call ig (.cons (.frz (.cmr yw 2 (.cons (.var 14) (.val Q9) (.cons (.cmp .notin (.var 12) (.var 14)) .nil) .nil) (.var 14))) .nil)) .nil)))) QB .nil,((Vv 16).map λk:Nat=>(k:Int)),∀b o,s.heap.get? b=yz o->h'.get? b=yz o,f env S,.var 14,⟨rfl,rfl⟩,⟨n,S1,rfl,z⟩,.cst (.int 3),.inl rfl,.blt .len Qf,.lst (.cons (.cst (.int 16)) (.cons (.neg Q6) (.cons (.cst Q20) (.cons QZ (.cons (.cst .non) (.cons (.cst (.str "1")) (.cons (.tup (.cons Q6 .nil)) (.cons (.frz (.lst (.cons QN .nil))) (.cons (.bin .pow (.cst (.int 10)) (.cst (.int 20))) .nil))))))))),λw s3 ⟨S3,e3,H3,ρ3,J3,sr3,st3⟩=>⟨S3,e3,H3,ρ3,J3,sr3,st2.trans st3⟩,{s3 with heap:=s3.heap.push {cls:=.type "slice",data:=.fields #[vl,vu,.none]} },{cls:=.type "dict",data:=.dict #[]},{B with heap:=B.heap.push {cls:=.type "slice",data:=.fields #[vl,.none,vs]} },Vb2 pos (Uf es X.env),.blt .sorted (.cons (.frz (.cmr yw 2 (.cons (.var jx) (.rng (.cons (.var jw) .nil)) .nil .nil) (.mth .popi (.var jl) (.cons (.call it (.cons (.var jp) (.cons (.blt .len (.cons (.var jl) .nil)) .nil))) .nil)))) .nil),[yz QV,yz Q70,yz (Xa B),yz b,x4,yz (.int c),yz (.int a)],.builtin "object.__class__",Xah o1 o2 fa fb fc env S,∀c o,c≠z->c≠O->c≠i->c≠j->s.heap.get? c=yz o->h'.get? c=yz o,s.heap.push (nS w),qE p n f x5 x6 x7 x8 (yz (Xb (rgF n f))) x10 x11 yy,Ym I.sr (I.inv.tok _),⟨h1,h2⟩,0,0,0,0,0,0,λ_ _=>False,.not (.isi Q4 [.tuple]),.or (.cmp .ne (.isi Q2 [.list]) (.isi Q4 [.list])) (.cmp .ne (.isi Q2 [.tuple]) (.isi Q4 [.tuple])),qE p n f (yz nn) Q90 x7 x8 x9 (yz bd) (yz st) x12,(items.toList.drop (sIx items.size 0 lo)).take (sIx items.size items.size hi-sIx items.size 0 lo),λenv S=>Qp.bind λx S=>match (kdD S x).bind λk=>Y4 k [t] with|some r=>.ok (.bl r) S|none=>.bad,sIx items.size items.size hi-sIx items.size 0 lo,(Vb2 cpos (Uf (e::es) X.env)).all (λx=>!x.1)&&(backToKw cpos (Vhk [] X.env)).all (λx=>x.1.isSome)&&decide ((e::es).length+([]:List Ve5).length+(if ([]:List Ve5).isEmpty then 0 else 1)<30),s.heap.objs.size+1,.expr (.mth .append Q2 (.cons (.blt .tuple (.cons (.frz (.cmr yw 3 (.cons (.tup [4,5]) (.enm Qf) (.cons (.cmp .eq (.bin .band (.bin .shr Q9 Qq) Q6) Q6) .nil) .nil) (.var 5))) .nil)) .nil)),.cons e .nil,r.toList.zipIdx.foldl (λa x=>a.setIfInBounds (p+k+x.2) x.1) QG,{cls:=.type "enumerate",data:=.fields #[.none,.bool yw,.ref s.heap.objs.size,U0 0,.none,.none]},blk X pc s H sc cl C own fp,Uf es X.env,.frz (.lst (.cons (.cst .non) (.cons (.cst .non) (.cons (.var 10) (.cons (.var 5) .nil))))),(Vt st).toList.drop (p+Qx),(by simpa using hi),(Vb2 cp (Uf Qw X.env)).all (λx=>!x.1)&&(backToKw cp (Vhk [] X.env)).all (λx=>x.1.isSome)&&decide (Qw.length+([]:List Ve5).length+(if ([]:List Ve5).isEmpty then 0 else 1)<30),ev F G e env S,λe p=>e.set p.1 (yz p.2),QK.hash k,Int×Vb,.and (.not (.and (.call ilc (.cons (.var 10) .nil)) (.cmp .isin (.var 10) Q9))) (.cmp .ne (.call itl (.cons QT (.cons Q2 (.cons (.var 10) .nil)))) (.cst (.str "face"))),Vc6 nm nm (Xbk st) (Yl st) (Xv st) .none kV B pm an L ct,Vd ?_,Vbj prog w,Option Nat,.tup xs,.frz (.cmr yw 2 (.cons QF0 (.rng Q10) (.cons (.cmp .notin QF0 QE) .nil) .nil) QF0),.cons Q9 (.val Q4) .nil .nil,λr s'=>r=.ok (.ret (.bool yx))/\OldK B.heap s'.heap/\s'.os=B.os/\AllBare s'.gens,.int i,((qs.map (·.2.1)).toArray.zip (qs.map (·.2.2)).toArray),(n.take a).map Xa++[.tup (B.map D.int),.tup (B.map D.int)]++(n.drop (a+1)).map Xa,(by simpa using q2),0,0,0,0,0,0,0,z.2.1::z.2.2.1,fcs n,.val Q4,.lst xs,.cons Qq .nil,(((Xy (ddL n)).take i).filter λf=>n.all λo=>decide (o=f) || !lie f o).map Xa,.blt .smB (.cons (.frz (.cmr yw 3 (.cons (.tup [14,15]) (.enm (.cons (.var 7) .nil)) (.cons (.cmp .eq (.bin .mod QF0 QT) Q6) .nil) .nil) (.var 15))) .nil),qE p n f x5 x6 x7 x8 x9 (yz bd) x11 x12,{cls:=.type "list",data:=.seq vs.toArray},.var i,.cons (.asg Q9 (.call 21 (.cons (.call 20 (.cons Q4 Qg)) .nil))) (.cons (.ite (.not (.call 40 (.cons Q9 (.cons (.call 27 Qi) .nil)))) QB .nil) .nil),[.str "net",.str "face",.str "point",.str "apart",.str "many",.str "text",.str "row",.str "number",.str "level",.str "crowd",.str "way",.str "closed"],.ref n,.ref it,(pts n).map D.int,X0 λk=>Yb _ k,S++[.lst xs],(Qn.update s.heap.objs.size (Vae (·++Qa.toArray))),S++[.exc k],.frz o u,upd H2 s2.heap.objs.size (uA s2.heap.objs.size),.lst (.cons Q80 (.cons (.cst (.int 9)) (.cons (.cst (.int 15)) .nil))),yz (.builtin "BaseException.__getattribute__"),sliceAdjust lo yy c (lg its),sB X.w,.lst (.cons Q80 (.cons (.cst (.int 11)) .nil)),0,0,0,0,0,0,(Vv far).map Veb,⟨ok.mod,ok.kind,ok.glob,ok.blt,ok.above,ok.inj,ok.has,ok.cab,ok.hd,ok.frames,ok.stk,ok.exf,ok.bs,ok.bsz,ok.noex,ok.exfs,ok.funs,ok.frf⟩,Xky ig ill ile is itl (Xhl ilc itl (Xfq it is itl ig (Xen itl iln))),[D.tup ((n.take a).map Xa++(n.drop (a+1)).map Xa),.tup Qm.reverse,.tup (n.map Xa++Qm.take 1),rwF n,.tup [.tup Qm],Xb (Xy (n++[B.drop 1]))],.or Qb0 (.or (.not (.chn .le .le Q6 QK0 (.cst (.int 60)))) (.not (.blt .all (.cons (.frz (.cmr yw 2 (.cons QE QC1 .nil .nil) (.call ia Qk))) .nil)))),LI×Addr,⟨rfl,I.turned (t':=s.toks) (λb o B e=>eb b o B e) f0 f1 f3 f4 f5⟩,Vam "list" vs.toArray 0,.sli Q2 (.some (.bin .add (.var 6) Q6)) .none,.int (lv:Nat),.cmp .eq (.frz (.cmr yw 2 (.cons Qq QC1 (.cons (.and (.cmp .ne Qq Q9) (.call il (.cons Q9 QE1))) .nil) .nil) Qq)) (.frz (.lst .nil)),wpS_lift (Vb3 ⟨rfl,?_⟩),k.map D.int,.cons (.tup (.cons (.tup (.cons QI0 .nil)) .nil)) (.cons QI0 .nil),ev a env S,I7.inv.pin (b,o) (Vag _ (Vag _ (Xdi hb e))),.ext (ExcO C a),.bin .pow (.cst (.int 10)) (.cst (.int 18)),((prt s).take j).foldl ddR (fcA (n.take i)),⟨_,Vo _ rfl,rfl,rfl⟩,(· < ·),.try b 0 x (.cons (.ret (.call ik (.cons (.var x) .nil))) .nil),.asg Q2 (.bin .add (.bin .mul Q2 (.cst (.int 2147483587))) QE),(·.2),evs es env S,{s with heap:=Qn.update s.heap.objs.size (Vae (·++vs.toArray))},Vci (B.objs.size+1) sc.names cl,L.map D.int,.ret (.blt .tuple (.cons (.frz Q2) .nil)),λ_=>rfl,pc++Xbd fp s5.heap,{s with heap:=s.heap.push (nS w)},{s with heap:=h',toks:=t' },(by simpa using h),(by simp[q];calc Xcf t),(by simp[RD]),0,0,0,0,0,0,0,.blt .all (.cons (.frz (.cmr yw 3 (.cons (.tup [3,4]) (.zpp (.cons Q4 Qg)) .nil .nil) (.call is (.cons QE QE1)))) .nil),λ_ _=>rfl,LeK R,.ref e,.ref C,.int j,.cmp .ne (.blt .len (.cons (.frz (.cmr yw 2 (.cons QE QC1 (.cons (.call il (.cons Q2 Qk)) .nil) .nil) QE)) .nil)) Q6,⟨Xn6 w.params,11,Xn7,Array.mk [],boot_drawn,boot_toks,os⟩,∀x c,X.env.cells.lookup x=yz c->c≠b,Uk (Vz e) I.ok.above,⟨_,Vo _ rfl,rfl,_,rfl⟩,(by repeat' first|calc Xdy|calc Xej rfl|calc Xqi|calc Xqj|calc Y9 ?_ ?_|calc Xql ?_ Q1|calc Xfm ?_ Q1|calc Xqk Q8 Q8),Yj Q0 ?_,.or Qb0 (.or (.cmp .gt QK0 (.cst (.int 6))) (.not (.blt .all (.cons (.frz (.cmr yw 2 Q41 (.call iw Qi))) .nil)))),.lst (.cons QI0 (.cons Q80 (.cons (.cst (.int 6)) .nil))),.call itl (.cons QT (.cons Q2 (.cons (.idx Q2 QN) .nil))),.builtin "sorted",envOfC qual scope s.heap.objs.size f L,.cmr yw n (.cons QJ1 it .nil .nil) elt,⟨tg,iter,ifs,0⟩,(yw,eval a X.env),ns.map V.int,kat xs (q+i),i+1,.builtin id,[D.fro QQ,.tup QQ.reverse,.tup (l.map D.int++l.map D.int),.tup [.tup QQ],w,.tup (QQ.take a++QQ.take 1++QQ.drop a)],0,0,0,0,0,0,[yz (.int w),yz a,yz b,x],t.put j,by assumption,Xfz (I.inv.ok.hd hc) hl λIt fp wr St ab W st hf aa=>?_,Vd ⟨_,rfl,Vd h⟩,K w.params,(λx q y hy=>by rw[Ver,Vcp,Vcr,Vcl]at q;let⟨m,L,m2,m3,e⟩:=Xdr q;calc B x ⟨m,L,by omega,e⟩ y (Vcp.mp hy)),{s with toks:=s.toks+(lg k+1)},(cnt (ks.take i) k.length:Nat),Ye I.inv ae (hb _ Q1) (u:=.builtin "isinstance") Q8 ?_,.builtin "getset_descriptor.__get__",[yz QV,yz Q70,yz (Xa B),yz b,yy,yz (.int c),yz (.int a)],⟨λb o e n hb hx=>?_,λb o e n hb hx=>?_,I.base.free,λb o e hx=>?_,I.base.tups,I.base.frzs,I.base.tbls⟩,.asg Q2 (.frz (.bin .add Q2 (.frz (.cmr yw 2 (.cons Qq (.val Q2) .nil .nil) (.bin .add Qq (.tup Qi)))))),(Xu3 hO hA (by rw[hg.kind];calc hk) (ma _ (Yc Q0)) Q0 mb (λx y _ h1 h2=>Xf3 sb h1 Q0) Q0 λm hm a1 a2=>?_),QC0.filter λp=>!decide (p∈pts n),.Call (.Name "isinstance" p0) [a,.Name nm p1] [] pos,λb s'=>∃S',f env S=.ok b S'/\∃H' ρ',Inv X pc σ H' s'/\SR X.K QY1 ρ' S' H'/\Stp X.K ρ ρ' H H',⟨vs,h1,by rw[Xce h2];calc h.symm⟩,⟨hg,.inl ⟨_,rfl,h'.lst hl q⟩⟩,cxC cm P w K mg base N qual scope f L A outer s H E,.Name "isinstance" p0,(Vt st).toList.drop p,(λz st' ⟨h1,h2,h3⟩=>⟨h1,.inr ⟨h2,by rw[show N+min (max 0 t) 1=N+1 by omega]at h3;calc h3⟩⟩),qE p n f x5 x6 x7 x8 x9 x10 x11 yy,ha.at λo e=>B.extBut _ _ D.a_.1 e,b∈X.ex\/X.s₀.heap.objs.size<=b,X9 (a:=.var 0) (b:=.var 1) rfl rfl,.cons (.blt .max (.cons Q6 (.cons (.blt .min (.cons QK0 (.cons (.cst (.int 10)) .nil))) .nil))) .nil,∀(s:Vc) (u:Vb),BindsTo s fd ⟨[u],[]⟩ [(x,u)],(by rw[z];rfl),snd a X sc N x hN hs B h2,ds.map yz++Vn (N.length-lg ps) yy,Xam w a ep es,Nat×Nat×Nat,.lst vs,0,0,0,0,0,0,0,.fro QX,.bl (lie a b),((Vv (m+1)).filterMap λj=>(L.getD j yy).map (j,·)),nxK (h1.at λo e=>L.extBut _ _ D.iz e) (ha.at λo e=>L.extBut _ _ D.a_.1 e) hx λg2 i2 c2=>Vd ?_,⟨e1,e2⟩,{j:=i,more:=runEnd m i-i,i:=i,perturb:=q,dummy:=yy},∃o,h'.get? e=yz o/\o.cls=.type "StopIteration",(by kernel_rfl),(Qn.update s.heap.objs.size (Vae (·++vs.toArray))),h1.at λo e=>B.extBut _ _ D.iz e,{cls:=.type "tuple",data:=.seq #[.int n s.toks,u]},h pc s σ H ρ S env I B,Y7 scope,Vo _ rfl,.ref S3.length,.inr rfl,yz x,vNm z.1,t.probeStart Qv0,do let v <- B;standAt e.pos;Vdp [v] (truthy v),Xak tf body,X0 λ_=>rfl,.nx env,(Yu c rfl).trans ?_,(λz=>nomatch z),(by simp!;omega),0,0,0,0,0,0,Qp.bind λx S=>match (kdD S x).bind λk=>Y4 k [t] with|some r=>R.ok (D.bl r) S|none=>R.bad,[isK c 1,isK c 2,isK c 3,isK c 4],lg vs,ks.map Xa,k+1,eval e X.env,env.set i (yz (.ref m)),cE k elt gens scope pos,Vb8 es X.env,.or (.cmp .ne (.mth .count Q2 (.cons (.cst Q20) .nil)) Q6) (.not (.isi Q4 [.valueError])),⟨It,fp,wr,_,_,St,λi=>(bs[i]?).getD yw,rfl,W,st,λi v s' Q' E' hP hQ=>?_,λh' tk hk=>?_⟩,Vt B,.sli Q2 .none (.some (.var 6)),[yz QV,yz Q70,yy,yy,yy,yy,yy,yy,yy,yy,yy,yy,yy],do callWith pos (<-eval fx env) [] (Vb2 pos (Uf args env)) (backToKw pos (Vhk [] env)),.exc c,.blt .max (.cons Q6 (.cons (.blt .min (.cons QK0 (.cons (.cst (.int c)) .nil))) .nil)),{cls:=.type "tuple",data:=.seq #[.int n tk,x]},xs.map λx=>Expr.Name x.1 x.2,lg ds,hs.2 b (Ul (Uk (Vz e) (I.ok.cab x c ac L))),a.toList.drop i,Option D,.type "tuple",.ref T.length,.cons QP .nil,⟨_,Vo _ rfl,rfl⟩,⟨_,e⟩,{s with heap:=h2},[Xb n],[.lst []],.ret (.frz (.sst (.frz Q2))),.bin .sub (.bin .add (.bin .mul QT (.var 8)) Q6) (.blt .smB (.cons (.var 7) .nil)),!t.plain&&decide (es.size>1),∃m∈mks,Xf8 K m=yx,n.filter λt=>lie s t,0,0,0,0,0,0,0,e::es,ddL ks,.type "BaseException",.ref z,.cons (.cst Q20) .nil,(Vv j.toNat).map λ(k:Nat)=>D.int (k:Int),[Xa a,Xa b],∀a,Va3 K Up nm=yz (yz Qt)->mg nm=yz Qt,upd H s.heap.objs.size (.tup [.int n,x]),(g2.update B.objs.size (Vae (·.push Vbz))),(by rw[hr];calc nb),X.env::X.outer,Vdp [.ref h1.objs.size] (call (.builtin "list.sort") [.ref h1.objs.size]) >>= _,(B.filterMap (es[·]?)),.done (yy,z.2),{s1 with heap:=s1.heap.push {cls:=.type "tuple",data:=.seq #[.type T1,.type T2]} },src.most S+1,fc env S,fb env S,X.wish E,Array Vl,⟨1,1,(.cons (.ret (.and (.isi Q4 [.int]) (.not (.isi Q4 [.bool])))) .nil),yx⟩,[O.lst [.int 0]],λx S1 u s1 v H1 aa e1 B I1 rv rd L=>?_,zp5 k1 k2 s.heap a b,o++a.extract i (i+k),0,0,0,0,0,0,leap m p.i p.perturb,blk X pc s2 H2 sc al B.objs.size own fp,ExP X pc σ ρ H QE0,⟨h1,h2,h3⟩,x==("__classdict__" : Str),s.heap.update a (Vd8 B t1),hY pc s H B C fp,evs F G es env S,.ref B.objs.size,.call is (.cons (.call itl (.cons QT (.cons Q2 QE1))) (.cons (.var 9) .nil)),.ListComp elt gens sc cpos,[yz d,yz Q7,yz (Xa f)],[.lst (Qa1.map D.int)],(λx _ y _=>by simp[Xx,Vik]),Vds (Vat (name:=Vcb "__next__") hT slot_si (Uv slot_si hT Xpd ?_ (Xsx _))),⟨oe,vs,a0,t1,t2,t4,t3,(Vad.mp t5).1⟩,{j:=j,more:=m,i:=i,perturb:=q,dummy:=yy},{cls:=.type "tuple",data:=.seq #[u1,u2]},[1,2,3,4,5,6,7,8,9,10,11,12,13,14,15,16],yw||(Vb2 cpos Qo0).any Qb,o.push x++(b.extract k (j-1)).reverse,lstAt S n,(ha.ex I (by simp[q];rfl) λx s' z=>QH0),Str×Addr,Q60.set i QQ3,.lst .nil,.int (aa:Nat),.cons Q4 (.cons (.cst (.int 7)) .nil),.Subscript o i spos,setPending s (((Us s).setIfInBounds i (p,n+m,v)).eraseIdxIfInBounds QX2),Vat (name:=Vcb "__next__") B.typeIs Vef (Uv Vef B.typeIs Vi7 ?_ (Viw _)),.frz (.cmr yw 2 (.cons QE QC1 (.cons (.cmp .notin QE Q2) .nil) .nil) QE),{s with heap:=h',toks:=s.toks+(lg k+1)},[yz QV,yz (.int far),yz (.int (v%far))],[.int i,.int j],λx1 x2=>x1++x2,0,0,0,0,0,0,0,x ∉ own/\X.env.cells.lookup x=yz c,rd.mono st2,kat a (i-1),insertAt t.place (below t.place j) j,h.bind I nb rfl (λds S1 us s1 vs H1 ab e1 B L rv rd aa=>?_) λ_ _ z=>z,(by simp[Vq]<;>omega),(by rw[Vic,Vfn];kernel_rfl),LI×Addr×V,.ref t,Vp h1 (λu s2 h2=>Vp h2 (λd B ⟨r,e,w⟩=>?_) λ_ _ z=>z) λ_ _ z=>z,{s with heap:=s.heap.push QJ,toks:=tk},[.Tuple [.Name x px,.Name y py] kt pt],(yw,eval e X.env),upd H s.heap.objs.size (.tup [x,y]),.call B (.cons Q4 (.cons QI0 .nil)),((show clausesOf (cE k elt gens sc cpos)=gens by cases k<;>rfl).trans hg),(λd=>match d with|.int i=>.int ((lns ks).countP (· == i):Nat)|_=>.non),Ye I.inv aj ag (u:=.type "range") Q8 (Vaf (Vb7 ?_ hs) hs rfl) Q1 rfl,λ_ _ _=>rfl,kat a i,insertAt es Qb2.2 (h,x),ha.ex I q λx s' z=>QH0,g env S,Yx st.2,Xj st.1,Vam "list" Qa.toArray 0,0,0,0,0,0,0,QG.extract (p+k) (p+Qx),L.ex I q λx s' z=>.of .refl z rfl,.int (w:Nat),(λd hd d' L=>by let⟨a,x,rfl⟩:=Yp hd;let⟨a',x',rfl⟩:=Yp L;rfl),prt (l.take i),lg its,Yn (i1 1 _ _ y rfl ky |>.trans ?_) (i1 0 _ _ x rfl kx |>.trans ?_),.var 5,.ref D,.int c,.frz (.sst Q4),⟨_,rfl,?_⟩,[yz Q70,yy,yy],(λz=>by subst z;rw[hd]at h;cases h),upd H a o,lg ps,Xv st,Vam "list" (ts.map Qx1).toArray 0,.call (.ref fa) ⟨[.ref a],[]⟩,⟨rfl,yy,rfl⟩,yz (v:Int),wpS_get ?_,wh d&&Xaa n (.tup [d]),o.push x,ns[argBest (λi j=>decide ((ns[i]?).getD 0>(ns[j]?).getD 0)) k]?,lg n,hn.fc s hs,Xid (onx (Qc.trans B)),B.blt _ Q1,.cons t2 it2 ifs2 .nil,.cons a (.cons b .nil),.call B Qf,⟨λn a h=>by rw[Vy (Vk.mp h).1];calc h,λ_ _ h=>h,λ_ _ _ h=>h⟩,⟨r.nd,by simp!,λx hx y hy=>?_⟩,[yz x,yz y],hc.ok I Q82 λs2 H2 L I2 st2=>?_,0,0,0,0,0,0,0,(by rw[Ve];calc hl),.cons (.cst (.str "point")) .nil,((sIx items.size 0 lo:Nat):Int)==0&&(1:Int)==1&&Qg0==items.size,{cls:=.type "set",dict:=yy,data:=.set #[] 0 (.fresh 0 0 (!byT w))},[yz QV,yz Qj1,yz (.int (far:Nat)),yz (.int (siz:Nat)),x4,x5,x6,x7],n+1,env.set i QQ3,ddI ns,Y9 (Xej rfl) (Y9 (Xej rfl) Xdy),Xam X.w Da ep es,Xai e,Xa l,X7 ((Xbq (a:=.var 0) (b:=.cst (.int 0)) rfl rfl).trans L) rfl,Va (wpAny_onRaise ?_),T++[.lst X],QB1.filter λg=>!decide (p∈g),Option Unit×Nat,.var j,.ref g,.int (ab:Nat),.fro ds,.cons Q4 Qg,.augi Q2 (.blt .len Qi) .add Q6,(yy,y.2.1,y.2.2.1,y.2.2.2.1,z.2.2.2.2+1,y.2.2.2.2.1,y.2.2.2.2.2),.frz (.bin .mul (.lst (.cons (.cst (.str "net")) .nil)) Q80),⟨rfl,u,v,rfl,c1,c3,L,.inl Q0⟩,0,0,0,0,0,0,⟨_,rfl,h⟩,[isK c 5,isK c 6,isK c 7,isK c 8],k==Vhr&&env.scope.kind == .function&&env.kindOf n==yz .cell,(by simpa using c),(by show (lg zs)-0<lg zs+1;omega),blk X pc s H scope cl C own fp,.frz (.blt .list Qg),.cons (.tup Qg) .nil,{s with heap:=h',toks:=s.toks+1},λenv S=>tst Qp,ps.zip us,ps.map Qb,n.take i,its t k p,cts ks w,b.toList.drop j,Yo hs h2,.ret (.cst Q20),.nx e,(Z.ixN QL k).bind λj=>xs[j]?,⟨boot_heap w.params,Array.mk [],boot_drawn,boot_toks,os⟩,{cls:=.type "set",dict:=yy,data:=.set #[] 0 (.fresh 0 0 ld)},∀b o,b≠e->b≠it->s.heap.get? b=yz o->h'.get? b=yz o,(λz=>B (by simp![z])),λu s' q=>?_,(by let:=hn.len;omega),bits h%(m+1),V2 _ B,.var 6,.ref y,.ref x,.dK [],.blt .len Qg,((sIx n 0 lo:Nat):Int),⟨[.type "tuple",.ref r],[]⟩,⟨L,g,d,tk,os⟩,0,0,0,0,0,0,0,λz st'=>Glp st0 st'/\∃r,z.1=yz r/\Srt QC2 W r.toList,λi v=>∃t,v=.int (a+i*c) t,(yy,()),ond h2 rfl,hb pc s2 σ H2 L S1 env I2 B,ha pc s2 σ H2 L S1 env I2 B,ap.endLine==cp.line,Vp (B pc s σ H ρ S env I L) (λc s1 z=>?_) λ_ _ z=>z,Vb2 pos (Uf es env),.ref Da,.cons QF0 (.cons (.var 11) (.cons (.idx Qp0 QF0) .nil)),.bl (Yk d),.Call (.Name x p) QA4 [] pos,(by lia),⟨.int (lg ys),H,I.tok _,⟨s.toks+1,by rw[Vq,B]⟩,q⟩,∀x∈zs,Xx t x e=yz (T x),snds es X sc N Qw hN hs B L,s.heap.push Ql,lg ks,call (.type "set") [.ref l],a::es,Vc6 x qual (Xbk st) (Yl st) Qq5 .none kV L pm an B ct,Vbb _,QR4.bind λz S=>Xw o2 y z S,.done (yz (Xc0 a b Qx5 i (j+1)),o.push x,i,j+1,g,c,d),.cons (.var 9) (.rng (.cons (.var 7) .nil)) .nil .nil,0,0,0,0,0,0,.builtin "max",.bin .add (.blt .mxl Qg) Q6,{cls:=.type (X80 k),dict:=dct,data:=.seq xs n,slots:=sl},[.ExceptHandler (yz (.Name x np)) (yz n) (b0::suite) hp],σ++Vn (lg own) yy,c3.extBut _ _ D.Oz.symm (c2.extBut _ _ D.iz.symm z1),Xul CX P w K mg base N qual scope f cd A outer s H E,Xg (a:=.var 1) rfl,Vdx (.ref I) >>= _,S++[.lst [.int a]],.builtin "set.add",(lns ks).map D.int,{cls:=.type "list",dict:=yy,data:=.seq ([]:LV).toArray},[yz QV,yz Q70,yy,yy,yy,yy,yy],[.lst ((cts [] w).map D.int)],λd=>match d with|.int x=>!decide (x∈pts n)|_=>yw,λd=>d,λ_=>bind_congr λ_=>bind_congr λ_=>Xr rfl λz=>?_,o++(a.extract k i).reverse,kat b (j-1),blk X pc s H sc L C own fp,Xbl x y v S,X.fn x.1=yx\/X.env.scope.names.lookup x.1=yz .local,Stp.upd (ρ:=ρ) (K:=K) hp,QG.extract (p+Qx) (p+Qx+B),.int a,.cons Q2 Qk,.bin .fdiv (.idx Q4 QN) Q2,.Name x pos,{cls:=.type (Xe2 k1),data:=.fields #[.ref a,.int 0 0]},(by simp[Vh4];omega),a.size-1,.cons Q4 (.cons (.blt .len (.cons Q27 .nil)) .nil),.blt .tuple (.cons (.frz (.blt .sorted Qk0)) .nil),⟨_,_,rfl⟩,⟨_,B,rfl⟩,0,0,0,0,0,0,0,λe=>Q01.is k e.2,yz nn,(yy,z.2.1.push y,z.2.2.1,z.2.2.2.1+1,0,z.2.2.2.2.2+1),(yy,z.2.1.push x,z.2.2.1+1,z.2.2.2.1,z.2.2.2.2.1+1,0),src.most S1+1,lg l,ks.take i,kat Ql3 (p+i),h.fc s hs,(f0=.none\/∃T:Nat,f0=U0 T),es.map Qb,Yc Q0,Xus items n dd sl,Vn k.toNat vs,Vk.mp h,Vj Y.prog Y.w,Vi 1,Vei [t] v p.line (Xdc sc),Vaq _,Val (Vd ⟨Veg Vhe _,Va0 F.entry_list_iadd ?_⟩),U4 (.ref j) >>= _,U4 (.ref i) >>= _,S1++[.lst xs],I.base.keep b o e n hb hx,1048576,.yield (yy,x.2.1,x.2.2.1,x.2.2.2.1,x.2.2.2.2.1+1),0,0,0,0,0,0,.ref hp.objs.size,.done (yz yy,z.2),.call itl (.cons QI0 (.cons Q2 (.cons Qh5 .nil))),.call itl (.cons QI0 (.cons Q2 (.cons Q27 .nil))),.call it (.cons Q4 (.cons (.cst (.int 10)) .nil)),(n:Int)+1,(is.zip ds).foldl Qu0 env,(env++Vn 2 yy).set jx QQ3,(Xbu c4).trans ?_,(Vt st).toList.drop (p+k),λr s'=>match r with|.ok _=>P s'|.error _=>False,hb.at λo e=>u3 b o D.b_.1 D.b_.2.1 D.b_.2.2.1 e,hB pc s1 σ H1 aa S1 env ds vs us Qa0 I1 rd rv B,Vbd.«tuple.__mul__» ⟨[.ref l,.int k u],[]⟩,.idx (.frz (.bin .add Q31 (.frz (.lst Q10)))) QN,.done (yz r,x.2.1,x.2.2.1,x.2.2.2.1,x.2.2.2.2.1),.cons Q4 (.cons (.sli Q4 (.some Q6) .none) .nil),⟨_,_,rfl,rfl,by decide+kernel,by decide+kernel⟩,[opC o1,opC o2],[.str "swap",.str "places",.str "deed",.str "line"],hb pc s2 σ H1 aa S1 env ⟨J2,I1.sr,I1.er⟩ B,call g [v,.ref y,.ref D],Vc6 name qual aa body scope dV kV ak pm an L ct,V5 (Vim (Vin _ hl) 3) hb,(ks.getD i []).map V.int,⟨rfl,v,2*v+1,rfl,by omega,by omega,by omega,e⟩,{cls:=.type "tuple",data:=.seq #[.int n s.toks,x]},(λl S hl=>by rw[Xd (d:=Xc4) rfl];calc Xks l hl S),λenv S=>tst QR4,λd=>match d with|.int x=>decide (x∈l)|_=>yw,λb ob q=>Vf _ q,yz v,tm m,pth t.mask Qv0 N,h2.at λo e=>u3 j o D.jz D.Oj.symm D.ij.symm e,U8 hz rfl (x:=.ref I) rfl (Va (Vcs hI rfl ?_)),0,0,0,0,0,0,0,Src.con zs,.ref f,.done (yz r,y.2.1,y.2.2.1,y.2.2.2.1,z.2.2.2.2),.bl yw,.bl (wh d),{s with heap:=Qz.push QA0},[λv=>bindName X.env y v,λv=>bindName X.env x v],[yz QV,yz QL6,yy,yy,yy,yy],['r','o','t','a','r','e','t','i','_','t','e','s'],∀b∈l,b≠a->b ∉ frs X.stack->Xlj X pc b,λf vs=>PySem.call f vs,yz st,mirror QG i j ((j-i)/2),ks.getD i [],Xk Q0,Xfv B.heap H,Xdo (Xae hn),QB1.filter λg=>lie f g,EP X pc σ Q,.rt d,.cons a .nil,.cons QF0 (.cons Q2 (.cons (.cst .non) .nil)),.cmp .eq (.call 4 Qz3) (.tup (.cons Q6 .nil)),.call f (.cons QR6 Qk0),((lpt l).take i).map Xa,⟨g1,g,d,tk,os⟩,0,0,0,0,0,0,⟨.nx env,S,rfl,rfl,σ,H,ρ,I,.refl,λ_=>rfl⟩,[.exc c],λv s1 h1=>Vp h1 (λag s2 h2=>?_) λ_ _ z=>z,(by simpa using e),(by rw[Vah];omega),(by rw[Va7];omega),(by clear L;omega),(Vf8 (a:=Vbz) (by first|rfl|(simp[Vix];rfl)) ?_),(Vd7 "internal:list.sort.merge-bound" : Sem QU4),⟨rfl,u,v,rfl,c1,c3,L,.inr ⟨by omega,e⟩⟩,⟨rfl,0,1,rfl,by omega,by omega,by omega,e0⟩,[yz Q70,yz Qy3,yz (Xa k)],[x,y],(λx q y L=>by rw[Vw.mp q];calc B y (Vcp.mp L)),λb u e=>Vf _ e,λ_=>yx,xs.map f,w.params.setOrder a ep,t.put (pth t.mask h N),lft s f,intKind_is prog w k tk,hi pc s σ H ρ S env Qa0 I Qy λx s' z=>?_,firstIterPos gens cpos,fi env S,a.toList.take i,Xh d,0,0,0,0,0,0,0,0,0,0,0,0,0,0,0,0,0,0,0,0,0,0,0,0,0,0,0,0,0,0,0,0,0,0,0,0,0,0,0,0,0,0,0,0,0,0,0,0,0,0,0,0,0,0,0,0,0,0,0,0,0,0,0,0,0,0,0,0,0,0,0,0,0,0,0,0,0,0,0,0,0,0,0,0,0,0,0,0,0,0,0,0,0,0,0,0,0,0,0,0,0,0,0,0,0,0,0,0,0,0,0,0,0,0,0,0,0,0,0,0,0,0,0,0,0,0,0,0,0,0,0,0,0,0,0,0,0,0,0,0,0,0,0,0,0,0,0,0,0,0,0,0,0,0,0,0,0,0,0,0,0,0,0,0,0,0,0,0,0,0,0,0,0,0,0,0,0,0,0,0,0,0,0,0,0,0,0,0,0,0,0,0,0,0,0,0,0,0,0,0,0,0,0,0,0,0,0,0,0,0,0,0,0,0,0,0,0,0,0,0,0,0,0,0,0,0,0,0,0,0,0,0,0,0,0,0,0,0,0,0,0,0,0,0,0,0,0,0,0,0,0,0,0,0,0,0,0,0,0,0,0,0,0,0,0,0,0,0,0,0,0,0,0,0,0,0,0,0,0,0,0,0,0,0,0,0,0,0,0,0,0,0,0,0,0,0,0,0,0,0,0,0,0,0,0,0,0,0,0,0,0,0,0,0,0,0,0,0,0,0,0,0,0,0,0,0,0,0,0,0,0,0,0,0,0,0,0,0,0,0,0,0,0,0,0,0,0,0,0,0,0,0,0,0,0,0,0,0,0,0,0,0,0,0,0,0,0,0,0,0,0,0,0,0,0,0,0,0,0,0,0,0,0,0,0,0,0,0,0,0,0,0,0,0,0,0,0,0,0,0,0,0,0,0,0,0,0,0,0,0,0,0,0,0,0,0,0,0,0,0,0,0,0,0,0,0,0,0,0,0,0,0,0,0,0,0,0,0,0,0,0,0,0,0,0,0,0,0,0,0,0,0,0,0,0,0,0,0,0,0,0,0,0,0,0,0,0,0,0,0,0,0,0,0,0,0,0,0,0,0,0,0,0,0,0,0,0,0,0,0,0,0,0,0,0,0,0,0,0,0,0,0,0,0,0,0,0,0,0,0,0,0,0,0,0,0,0,0,0,0,0,0,0,0,0,Vp aa (λ_ ab L=>Vd ⟨rfl,L⟩) λ_ _ z=>z,Vfc p.main.body,Va (Vg2 (hU _ λs' h=>Vd (Vd ⟨rfl,h⟩))),.ref sl,.int QL,.fro xs,.cons QE QC1 .nil .nil,.con xs,(p,w)::P.zip vs,{s with heap:=h',gens:=g',drawn:=d',toks:=t' },0,0,0,0,0,0,0,{cls:=.type "list",data:=.seq its'.toArray B },ha.ok I q λus s1 vs H1 aa I1 rv rd ac=>?_,Xif zs (λx=>.bl (q x)) hi hl B λ_ _=>rfl,.cons Q9 (.cons QN (.cons (.glb g1) .nil)),⟨z,H',J,rz,q⟩,⟨[.type "set",a],[]⟩,[.lst Q12],λfin s'=>∃v,fin=.done (.ret v)/\Q v s',λd=>match d with | .tup [_,x]=>x|_=>.non,(λd hd _=>by let⟨x,_,rfl⟩:=Vm.mp hd;rfl),(λd hd _=>by let⟨k,_,rfl⟩:=Vm.mp hd;rfl),xs.map Xh,x::xs,t.advance p,sliceAdjust lo yy c n,sliceAdjust l yy c QL,s.map D.int,qs.map λq=>V.ref q.2,mem_fcs.mpr ⟨s,hs,List.nil_sublist s⟩,lg zs,grt ks,fcA n,d.nl-d.np,cts QB1 w,(by show 4<=1000;decide),(by show 2<=1000;decide),0,0,0,0,0,0,(by rw[hg.kind];calc hk),(by rw[I.ok.glob];calc I.mod.glob.keeps I.bk),boot_heap P,Xg2 hA ma g1 Q0 Q0 ?_,Vj P w,T++[.lst (X.set k.length (.int (Qi2+1)))],N.take d.np,I.inv.tok _,I.base.free b o e n B,FT T G 11,.rt v,⟨λb o e=>Vgh _ e,Vcf _ (.head _),fr,tr⟩,[yz QV,yz Qj1,yz Q05,yz QT6,yz QO3,yy,yy,yy],qE p n f QB8 Q90 yy yy yy (yz bd) QL9 yy,args_sorted1 _,StO.ok ⟨o,es,ep,t,ho,aa,hd,m.1,T,hl⟩,S1++[O.lst xs],Qq0.take (B+e),I.step J sr st,.type "object",.Assign ts v p,⟨us,[]⟩,⟨_,e,rfl⟩,⟨T,rfl⟩,⟨I.sr.upd hT,st,?_⟩,{s with toks:=s.toks+1},[yz QA3,B,x2],[yz Q70,yy],λd=>match d with|.tup [_,x]=>x|_=>.non,newExc (.type "StopIteration") [] >>= _,nets.fcn Qe3 hn Q1 S,ks.map λk=>.tup Qm1,hb.at λo e=>u2 b o D.b_.1 D.b_.2.2.1 e,envOfC qual scope s.heap.objs.size f cd,(by show 2<=big;decide),Yu (v:=.bl yw) c rfl,0,0,0,0,0,0,0,Xh1 λab aa=>V4 ⟨L.trans aa,rfl,h5⟩,Vff _ _ (Ne.symm hb),.ok Q7 (S++[.lst ((Xbr ns).map D.int)]),.frz (.blt .list Qf),.cons (.expr (.mth .append Q2 Qi)) .nil,((0:Nat):Int),⟨hg,.inl ⟨_,rfl,h'.fin (.inr Q0)⟩⟩,⟨h1,h0,h2,h⟩,[yz Q70,yz Q7,x],λz st' Qd4=>⟨h1,.inr ⟨h2,h3⟩⟩,(λd hd _=>by let⟨a,x,rfl⟩:=Yp hd;rfl),Vbd.«zip.__next__» ⟨[.ref z],[]⟩,Qp.bind λx S=>QS4.bind λy S=>k x y S,(QK.hash k,U1 x),⟨hg,.inl ⟨_,rfl,h'.fin (.inl q)⟩⟩,⟨h',by omega,by omega,j1,hj,by omega⟩,⟨[.type "set"],[]⟩,λy=>match y with|.bool c=>c==b|_=>yw,λfl s1 z=>?_,x∈b,start N vs,rwF QB1,p.1.map V.int,n.flatMap lpt,m+1,kat Ql3 (p+k),0,0,0,0,0,0,k ∉ ps.map Qb/\B.Perm (ps++[(k,x)]),(its.toArray.size:Int),ev e env S,(by rw[Ve];calc Xk Q0),b*b+69621*j+7,Yl st,Xlh d li B S3,Xcp w a ep es,X1 (xs:=[]) rfl rfl,Us st,S++[O.lst [.int a]],I.ok.hd hc,I.ok.bs b o e,I.inv.kept k3,B.push QO0,B.objs.size+1,.int (k.length:Nat),.cons QT .nil,.con zs,.call ill (.cons Qq (.cons QF0 .nil)),.bl r,.bl (Y2 d),.Tuple [a,b] k2 pt2,(sortRuns').run (Vii κ Q71 #[] 7 yy),(Xg (a:=.var 2) rfl).trans (hp s _ B),(λd hd=>by let⟨a,x,rfl⟩:=Yp hd;rfl),(hc.ex I (by simp[q];rfl) λx s' z=>QH0),h2.at λo e=>u2 j o D.jz D.ij.symm e,fo env S,ddR ks k,.ref l,.chn .le .le Q6 QK0 (.cst (.int 60)),.bool yx,[.Subscript o i spos],λh' B kp e=>fin its L hz h' B kp e,λenv S=>QW5.bind λxs S=>X2 k xs S,0,0,0,0,0,0,0,(λ_ _ z=>by cases z),qs.map λq=>U1 q.2,qE p n f x5 x6 x7 x8 x9 x10 x11 x12,p+n,nets.fcx Qe3 B h S,n.all λo=>decide (o=f) || !lie f o,isTrue e X.env Qf3,(es[·]?),(by rw[Ve,U6];decide),(by cases d<;>first|rfl|calc aB0 Qe ht),Xbj io il ih iw ic,Vej [t] v (Xdc sc),Va6 (s:=Qh2) ho hd (Xag T.toTab) ?_,I.inv.hok.fresh Qd,ExP X pc σ ρ H r,B.inv.hok.fresh Qd,B.heap.objs.size+4,.int (odL 0 B).sum,.expr (.sad Q2 Qk),{cls:=.type "tuple",data:=.seq #[x,y]},[yz Q21],[.ref a],["_law_some","_law_found","_law_face"],σ.set i Q59,(λx q y L=>by rw[Vw.mp q];calc B y L),yz d,0,0,0,0,0,0,(nm,ar,fl),eval b X.env,eval a X.env,c0==0||c0==c,(by rwa [Vy (by rw[h.1];calc hi)]at e),ab.trans st2,Xd7 l c d S1,Vg2 (Va0 F.entry_proto_collect ?_),S.set n .ded,I.inv.wish E,.int (i:Int),⟨o2,aa,ae,n2,ab⟩,⟨o,e,λv z=>by rw[d]at z;cases z⟩,⟨Da,rfl,by rw[<-I'.sr.len];simp!⟩,[.lst ((Vv far).map λk:Nat=>.int k)],∀b∈fp,H' b=yy,yz (Xa B),yz ((if k then 2 else 1:Nat):Int),v+(n:Int),ond h rfl,o.push x++b.extract (j+1) (j+1+k),lg xs<=60,j+1,call QQ2 [.ref l],(by rw[hB.sz];omega),bubble (Vt st2) (p+k) (p+k-(p+l)),a::T::frs X.stack,Y1 xs l c,Xv4 fc ft fr fw w,Xbb w t i,Xax iw is,LpQ R W a b N st0,HpQ R W a b N st0,.lst (xs.set j v),(i:Int)+(m:Int)*1,⟨hg,rfl,h⟩,0,0,0,0,0,0,0,⟨S1,Xcf t,H2,L,I2.inv,I2.sr,st2⟩,⟨.inl,λz=>z.elim id λe=>e▸h⟩,[yz QM1,yy,yy],[yz QA3,yy,yy],[isK c 9,isK c 10,isK c 11,isK c 12],[.lst ((Vv aa).map λk:Nat=>.int k)],(s.length:Int),pds_iff.mpr λd hd=>(sm d hd).pd,nxK QJ3 Qz2 hx λg2 i2 c2=>Vd ?_,ha.ok I Q82 λs2 H2 L I2 st2=>?_,(by size_fits),(by first|calc .inl Q8|calc .inr Q8),Xxx hO hA ma mb sa sb hl h1 B h3,Xxu hO hA ma mb sa sb hl h1 B h3,Vcm (T:="tuple") ⟨o,L,hc⟩ ?_,(Vae (·.pop)),Uv Vbv L.typeIs Vio ?_ (Vi5 _ _),U8 hz rfl (x:=.none) rfl (Vd h1),ExS X pc σ ρ H yw (.ok QT9 S2),.ite (.cmp .notin Q9 Q2) QB .nil,(.ex k S2:R D),.candidate Qn6.j i (its t Qe3 p),.Call (.Name "zip" p) QU7 [] pos,⟨rfl,B⟩,⟨p,vs,k,z,rfl,rfl,B,hz,rfl,rfl⟩,⟨_,rfl,by rw[<-I.sr.len];simp!⟩,0,0,0,0,0,0,⟨I.sr,.refl,e2⟩,⟨H,I.tok _,by rw[Xj4 r];calc q⟩,[z,I,O,i,j],[Xb n,Xa f],[O.lst [d]],∃r,z=yz r/\Srt QC2 W r.toList,λenv S=>tst QS4,λa b S B=>drws.lie (k+6) b B S,y::z::r,spliced QQ0,sb.2 b (B b u e),rs j hj,qp.mem_iff.mp hq,opC op,ns.getD i 0,loadIfAlive (Vfa (T:Int)) >>= _,l.map f,(l.filterMap λj=>(g j).map (j,·)),kat b j,j-1,iN0 V0,hb wh pc s2 σ H2 L S1 env I2 B,ha.bind I nb rfl QX4 λ_ _ z=>z,f x,evalPart e X.env,c==0||c==c',(by simpa using hu),(by simpa using hl),(by simpa using hh),(by simpa using h1),ac.trans aa,Y1 its lo c,Xen itl iln,Xao ..,Vt s,Vfa (T:Int),0,0,0,0,0,0,0,Vf _ e,Vde _ _,Us s,S++[.exc 1],Qw2.take Qx,QB1.filter λg=>!decide (q∈g),LI×Vb,B.map D.int,.type T,.tup is,.tup ds,.ref q,.ok d S,.ok (.ret .none),.int 6,.cmp .eq QK0 Q67,.bin .shl Q6 QK0,.bin .band (.bin .shr Q9 Qq) Q6,.bin .add Qh5 (.bin .mod Qq QT),.asg Q2 Qz4,[(s.heap.push (nS w)).objs.size,l],λw s3 z=>z.pre (ae.trans st2),wpAny_isSame_ref_self (Va Qz0),n.map λl=>.tuple (l.map .int),kvs.all λp=>bdD ρ.length p.2,kat (mirror a i j ((j-i)/2)) k,0,0,0,0,0,0,(by rw[isSubtype_type];kernel_rfl),Vgx Q95 #[] (Vn k.toNat items),U8 hz rfl (x:=.bool yw) rfl ?_,SqL X.K H p ys\/SqT X.K H p ys,QC0.filter λp=>decide (p∈l),.frz (.bin .mul (.lst QB6) QT),⟨tg,iter,cs,0⟩,⟨o1,B,ac,n1,L⟩,⟨o,ho,hc⟩,⟨_,L,rfl⟩,{s with heap:=QW0.push (itO b l)},{o with slots:=sl},[s.heap.objs.size],[isK c a,isK c b,isK c d,isK c e],[Xb n,d],[L.heap.objs.size],[.ded],λv _=>v=.bl yx,λd=>Xa (g Qz9),λb o B e=>(sb.2 b B).trans e,yz QV,p.mem_iff.mpr z,(nm,B,fl),mirror QG p (p+k) ((p+k-p)/2),lg ns,lg S1,kat Ql3 (p+x-1),hs.2 b (Ul QJ2),hm b _ q λz=>z,eval iter X.env,ddL n,ddI (ns.take i),(by simpa using L),(by rw[Vw.mp hb]at z;calc z▸ha),(by rw[Ve];calc B),blk X pc s H scope B C QM3 fp,0,0,0,0,0,0,0,below t.place j,([]:List Ve5),Xdb N N2,Vk.mp h1,S.keep λo e=>m.heap B o hw e,Qs4.map λx=>(x==0||x==c.val),QjB.setIfInBounds i (p,n+m,v),LI×D,1<=lg xs,.rfl' hp,.fro QO1,.cmp .lt Q2 QK0,.bl b,.BoolOp .And (a::b::rest) pos,!byT X.w,⟨x,p,rfl,h2.1.1,h2.1.2,h2.2⟩,λz hz=>?_,λd=>q Qz9,λ_ _ z=>z,λ_ _ e=>e,yz (n:Int),(yy,z.2.1,z.2.2.1,z.2.2.2.1,0,0),upd H a (.ext (StO QY1 a B)),snds es X sc N Qw hN hs B h4,snd e X sc N x hN hs B h.1.2,rs.map Qx1,0,0,0,0,0,0,m.mono sub,leap m i q,h pos pc s σ H ρ S env I B,g1.push QI,evs F G es,ac b o e B,Vz e,Vgq v (yz t) p.line (Xdc sc),Va (U2 ?_),N[i]?=yz x,FT T G k f,FT T G Qe3,.ref a::us,.ite c a b,.int (i*j),.cons e es,.call L Qi,.Name x py,.BoolOp .Or (a::b::rest) pos,⟨rfl,rfl,λu B=>hall u Q17⟩,⟨rfl,rfl,rfl⟩,⟨hl,h⟩,⟨ha,λy hy=>?_,Ym I.sr QhA⟩,{s with heap:=s.heap.push Qr4 },{s with heap:=s.heap.push QK3 },[yz Qj5,yy,yy,yy],[.non,.non,bd,nn],(λz=>by subst z;calc hz _ _ h),λx y _ h1 h2=>Xf3 sa h1 Q0,λa ρ H z=>⟨[],z,.nil⟩,λ_ _ _=>False,x.2.2.endLine==z.2.2.2.line,snds es X sc N xs hN hs B h,pt S p (v/far),ks.filterMap λk=>xs[ix k]?,d+1,0,0,0,0,0,0,0,(by rw[z];calc B),(by rw[size_push'];calc Vbi lb),(by rw[hp];calc λz=>nomatch z),(by rw[Vq];omega),(by rw[Vb5];calc Nat.sub_le ..),Y5 m QM1 ds S2,V5 (h.dep x) B,Qw2.take Qx++Qq0.take (B+e),OkP X pc σ ρ H (.ex k S2),IsRange.new ..,I.inv.ok.hd hc,.yield (yy,z.2.2,2*z.2.2+1),.ref T0.length,.int (if j>i then j else i),.int (if j<i then j else i),.int (far:Nat),.inr (.inl Q8),.cons Qr6 .nil,.cons QR6 .nil,.cons (.cst (.int 64)) .nil,.cmp .lt Q4 QT,.builtin "min",.builtin "len",.Name "set" p2,.Compare a [opC op] [b] pos,(bA0 _ _).mp h,0,0,0,0,0,0,⟨hg,.inr ⟨rfl,L _ Qd⟩⟩,⟨hg,.inr ⟨rfl,B _ Qd⟩⟩,⟨h1,B,H2,L,h2,st.trans h3⟩,λb u hb=>sortedAll_old hb,yz QU6,x∈ys,snd o X sc N ox hN hs B h5,opB op,hb pc s σ H ρ S env I Qy,hQ _ _ .refl (L.lst hl q2),h1 pc s σ H ρ S env I Qy,(by rw[e];calc λz=>nomatch z),a.cps.toList==b.cps.toList,Ye I.inv hg hm hv ?_ hn ab,Xdt h2,W.done s _ _ st λs' m=>?_,Va6 ho hd (Xag T.toTab) ?_,U8 hz rfl (x:=U0 T) rfl ?_,.ref T,.int 0,.cons Q00 (.cons Qw1 .nil),.compLoop Qh3 d it acc env,.bin .add (.call iw Qf) Q6,.BoolOp .And (b::rest) pos,((Vv 16).map λk:Nat=>D.int k),⟨s,hs,Vfk s⟩,⟨np,nl,.cons Qv1 .nil,yx⟩,⟨c,by omega⟩,[a,b],λx _=>T.fn x,λfl s' z=>?_,xs.zip ys,x.frz a o u h,wpAny_letGo (Vd (Va QN6)),turns m,tm t.mask,0,0,0,0,0,0,0,snd a X sc N x hN hs B h5,snd a X sc N x hN hs B h1,rs.map Qb,qs.map λq=>(q.1,q.2,q.2),qs.map Qb,prt s,ow.setIfInBounds j (yz k),ltL xs ys,lg B,kat Ql3 (p+x),its t d p,i-1,hi-lo,h.2 F G env S,h pc s σ H ρ S env I Qy,fcA Qm6,es[i]?.map Qb,es.size+1,env.set i QZC,drws.kd (k+6),(by rw[q];simp!),Z.inH X a,Xn9 hd hx,Xgr x y S,Xfg _ _,Xez Q69 (i,q),0,0,0,0,0,0,Xey QM1 ds S2,Xdc env.scope,Xa s,Vk.mp q,Vf2 QI5 >>= _,Ve4 _,Vdi.mp nd,Val Qe2 B,Us z,U1 t==Vbz,S++[.lst ((Xy n).map Xa)],S++X,Ne.symm L,I.freeC x c e,F.args_enumerate_next_1 _,CXd P w,B.push QS,B rfl,.tup QQ,.tail _ B,.sli Q2 .none (.some Qh5),.ref fa,.ok .next,.lst ys,.lst ws,.int (-i),.for QJ1 it b,.done (yz yy,z.2.1,z.2.2),.cons ru .nil,.cons QN .nil,.cmp .eq (.call 7 Qn1) QP,.cmp .eq (.call 5 Qz3) QN,.bl (liA n f),.Name x p,.BoolOp .Or (b::rest) pos,((Vv 16).map λk:Nat=>.int k),0,0,0,0,0,0,0,⟨a,vs,e,h1,rds_lo k h b⟩,⟨Qt1,L.at λo e=>Vf _ e⟩,⟨Qt1,(hl.push _).push _⟩,⟨I.sr,.refl,by simp[RD]⟩,{s with heap:=s.heap.push o},[yz QV,yy,yy,yy,yy,yy,yy,yy],∀E,PGs QT4 es (gNs is),(·<=·),snd b X sc N y hN hs B L,qs.map λq=>(q.1,U1 q.2),call Qk7 [.ref a,.ref x],cE k elt gens scope cpos,(by rw[Xcx];calc Xal hn QQ8),Xln fi t n tf body env S,Vcw .Mult QI5 (.int k u),Vaf (Vb7 ?_ rfl) rfl rfl,U8 hz rfl (x:=f1) rfl ?_,Option Expr×Option Expr,.sli Q2 .none (.some Q6),.ref (S++[O.ded]).length,.fro [Xa B,.int (tly B)],.call is (.cons QP2 Qz3),.Compare a Qs8 [b,c] pos,(is.zip vs).foldl Qu0 σ,((Vv n).map λk:Nat=>.int k),((Vv m).map λk:Nat=>.int k),0,0,0,0,0,0,(#[]:AV),⟨o,h⟩,[Xa l],[U1 i,U1 j],∀i,i<l->LeK R QH8 QZB,∀b∈fp,Xbc X pc H' b,λu s' z=>?_,λo e=>m.heap Sa o hw e,x.tup a xs h,st.trans st2,sizeAbove (grown QF6)-1,rule "list.sort.gallop",l.map D.int++[D.int 16],ho.ex I q λx s' z=>QH0,eval o X.env,callAny (.type "set") _,(by with_unfolding_all rfl),(by simpa [Xbt,Xi] using e),(by rw[decide_eq_true rfl]),(by rw[B];calc⟨_,I',q⟩),apos.endLine==cpos.line,ab.trans (st2.trans aa),Xlg op a z S,Xjl scope sc,Xek io ih ic,Xdo (Xev hn),Vbr (opC o2),Vbr (opC o1),U9 hi QA λh1 e1 c1=>?_,U8 (s:=Q24) t1 t4 t5 ?_,T.pf.calm h0,T x,(Sum.inr a:Key),(Sum.inl a:Key),S++[.dct []],OkS X pc σ ρ H na QE0,0,0,0,0,0,0,0,O.lst Qd3::X,L2.upd H p u,L2.upd H p o,L2.upd H a u,L2.upd H D u,FT T G (k+9),ExS X pc σ ρ H na QE0,.str "point",.frz (.bin .add Q9 Q30),.expr (.mth .xtd Q2 Qi),.blt .len Qi,(0:Nat) != 0,⟨rfl,l,l,rfl,a2,a4,a5⟩,⟨hp.push QS,g,d,tk,os⟩,[yz (.int w),yz a,yz b,yy],∀b∈fp,Xbc X pc H b,λd hd S=>Xj0 rfl hd S,λ_ q=>q,outer.names.lookup y.1,o.push _,ma _ QL8,(by show Qt4=yw;rw[L];rfl),(by show Qt4=yw;rw[B];rfl),(by rw[hj];simpa using ew),(by rw[Xeh,Ve];calc Xk Q0),(by let:=T.pf.units;omega),0,0,0,0,0,0,(bits h%(t.mask+1),bits h),Yo hs h1,Xq B.sr (B.inv.tok tk),Xc9 hn _,Vf _ QN3,Vee Q3A (pure (n:Int)),Vd8 L t2,Vci Qi0 scope.names [],Str×Vfe,QQA.all λx=>wi x 0 15,I.wish E,FT T G k,ExS X pc σ ρ H yw r0,.tup [d],.ref s3.heap.objs.size,.ref s1.heap.objs.size,.ref Qi0,.isi Q2 [.list,.tuple],.frz Qz4,.cons (.for t it b) ss,.builtin "set.__new__",.bool yw,⟨n,S1,L,z⟩,⟨_,oL,rfl⟩,⟨_,ho,rfl⟩,⟨_,ha,rfl⟩,λc v B q=>k c v ?_ q,z.2.2-z.2.1,yz bd,yz QM1,(yy,o.push x,i+1,j,g,c,d),(yy,i-1,j,o.push x,g,c,d),(yy,i-1,j,o.push x,c+1,0),(yy,i,j-1,o.push x,0,d+1),xs.all λx=>wi x 0 15,w1++w2,0,0,0,0,0,0,0,p.depth<=60,opA an,ns.take Qe3,lg us<lg vs,ks.map λk=>D.tup Qm1,k+7,k+2,its t n (its t c QS3),evit F G it,cE k elt gens sc cpos,(by rw[L];simpa using ew),a.map D.int,Xy QB4,Xp q B,Xi S x,Xg2 hA ma hB Q0 Q0 ?_,Xav X.N QM3,Xae L,Vt st2,Vf7 QI5 Q3A,Vcw .Add QI5 (.ref b),Stp.new1 hp,S++Qb9,Q60.set j (yz (Xa k)),LstA X.K Da,List.take_sublist _ _,0,0,0,0,0,0,I.hok b u q,I.cne x c e,F.args_tuple_lt_2 _ _,ExS X pc σ ρ H yw r,.yield (yy,z.2.1+1,0),.var 7,.str "face",.ret (.frz (.srs Q2)),.ref B.heap.objs.size,.inl z,.inl h,.cons QE Qk,.cons Q9 Qf,.cons (.frz QS2) .nil,.call aa Qf,.asg Q27 (.lrg yw Qi),.Constant .none j pos,!xs.isEmpty,!t.led && !es.isEmpty,⟨rfl,λ_ _ _ _=>rfl⟩,⟨rfl,l,rfl,c2,c4,c5⟩,⟨_,rfl,λ_=>rfl,rfl⟩,[.int a,_],∀v,(x,v) ∉ binds,λg=>!decide (q∈g),sliceAdjust l yy c n,r.toList++QrA.drop B,ow.getD (i+k) (yz 0),o++b.extract j (j+k),n.map λs=>lft s [p],(by show 6<=1000;decide),(by show 3<=1000;decide),Xn ((X8 c).trans ?_),Xfq it is itl ig Q6E,Rws.item ⟨hn,rn⟩,QR9.map λg=>lft g f,0,0,0,0,0,0,0,QJ6.map λe=>Xco e.2,OkP X pc σ ρ H QME,ExP X pc σ ρ H QUD,18446744073709551616,.ref (S++QeD).length,.mth .append QJ1 Qk0,.int ((w+1:Nat):Int),.cons (.var jl) .nil,.cons (.var 10) .nil,.cons (.frz Qq) .nil,.Call fx args [] pos,⟨target,iter,ifs,0⟩,⟨_,rfl,r⟩,⟨_,rfl,by omega,h4⟩,⟨_,keep b o' e1 hm⟩,⟨_,H,I.kept k,?_,q⟩,[yz Q70,yz d],[t1,t2],[.ref p],[.lst B],λw s3 z=>z.pre st2,λp=>decide (p∈l),λd=>Xa (Xh d++[y]),λb hb=>?_,x::y::z::r,x.above y c (Vc2 h),0,0,0,0,0,0,storeName X.env x u,seqItems? QI5 >>= _,qs.any λq=>Vdk q p,q+z.2.1,p+Qx+(B+e),o.push QT5,o.push QC5,n.flatten.map D.int,mergeAt' i,k∈ps.map Qb/\B=ps,kdD S x,kat b 0,kat a k,k==0||k==c,k ≥ 2^63,items.isEmpty||k==1,intBits_le_64 h1 h2,hv yy L,hf b hb,ev b env S,ddL QG8,(by simp![B]),(by show 4<=big;decide),(by rw[<-r.len];calc B),bs.map Vfu,below xs j,Xp h hp,Xkq _ _,Xil L B,Xfv h H,Xdj S 4,Xdb X.N N2,Xb3 (e:=.var 1) rfl,Xb [[]],Vv es.size,Vv (runEnd m i+1-i),0,0,0,0,0,0,0,Vk.mp e,Vk.mp L,Vdx QN1,Vbk _ B,Us B,Ur h,Stp.upd hp,Sm 5 13500,S'.take QD,Qc.trans L,Q8E.extract q (q+m),Q8E.extract (p+k) q,I1.inv.hok.fresh le,F.args_zip_next_1 _,2*x.1+x.2.1+x.2.1+n,.var 12,.tbl ps,.str "net",.ref C0,.nx QG6,.lst es,.int 15,.int (i-j),.int (i+j),.head _,.frz Q2,0,0,0,0,0,0,.fro [],.ext (StO QY1 a ps),.dct [],.cons t it ifs .nil,.cons s ss,.cons (.ret e) .nil,.con ds,.call B Qi,.bool b,.UnaryOp .Not a pos,.Slice lo yy QL9 p2,.Name "enumerate" p,.Constant Q61 j pos,(zs.filter p).map f,(ks.filter q).map g,(Xd1 T.tb _).mpr n2,⟨hp,gs,dw,tk+1,os⟩,λx=>Q60.set i QQ3,λw s2 z=>z.pre ac,λenv S=>.ok QW3 S,(·.setIfInBounds j u),t.place.getD i 0+1,sizeAbove wanted-1,setEntries a >>= _,s.heap.objs.size+4,hB.kp.mem ma _ QL8,fieldsOf QN1 >>= _,decide_eq_true rfl,(by rw[Xeh];calc Vi _),(by rw[Vq,aa];calc hi),boot_heap w.params,al.trans Q4E.toMon,Xqy ict is itl Qc1,Xb1 (n:=16) rfl Q1,Vv clsNames.length,Uu (Xal hn QQ8) Q1,0,0,0,0,0,0,0,U.drop k++V.take m,RDs.mono' x _ _ h2,QW0.push (itO b l),L.inv.hok.fresh Qd,B.heap.objs.size+3,B.heap.objs.size+2,B.heap.objs.size+1,.type "ValueError",.mth .index Q2 QE4,.Tuple elts x1 pos,.Subscript a e pos,.Slice lo hi yy p2,.BoolOp .And QiD p,((sIx n n hi:Nat):Int),⟨i,j,rfl,rfl,rfl⟩,⟨hi,λx H' y=>?_⟩,⟨h.1.1,h.1.2,h.2⟩,⟨_,ac,rfl,nl,rfl⟩,⟨[u],[]⟩,⟨?_,λp hp z=>?_⟩,{ A with handled:=yy},[v,ov,iv],[B++[15]],[.int w,a,b],[.fro QX],["thing"],0,0,0,0,0,0,λz=>L (Vw.mpr z),λw s3 z=>z.pre L,λi j aa hj e=>?_,(λi j _ _=>by omega),λ_=>T.pf.calm h0,(· == b),z.pre st2,yz Qt,yz (.int (c:Int)),(x,.free),upd H x o,sc.names.lookup x,rwF n,r.ob n a ob h1 h2,qp.map Qb,q+z.2.1-(z.2.2+1),prt l,lrN t,lpt l,lo+hi,lg ys,kp b u hb,k < -2^63,h m st hB m1 m2 L,forIn _ _,field QN1 1 >>= _,field QN1 0 >>= _,field QD4 3 >>= _,field QD4 2 >>= _,field QD2 2 >>= _,decide_eq_false B,call f us,(by rw[r.len];calc b),(by rw[Ve,Vil];omega),(by let:=B.len;omega),bubble QG i (i-j),0,0,0,0,0,0,0,Yr gw gr gt gc ik,Xv5 w a b,Xmm nd hs (Xcy s),Xh4 a b Qx5 i QtD,Xfy _ _ _ _ _ _ _,Xet ig it,Xc1 a b Qx5 QLH j,Xav N QM3,Xai z.2.1,X5 hi,Va (m:=Vbn _) QhH,S.set n (.st Q3C),PySem.W.clsIn K C,PF cm F G fns gns,Option Unit×Unit,L.extBut _ _ e1 e,I.inv.hok.fresh L,B.extBut _ _ e1 q,B.extBut _ _ e1 e,B.calm h1,.ref h'.objs.size,.lst (ws.set j v),.int k tk,.done QC7,.done (yz (),z.2),.cmp .notin QE Q2,0,0,0,0,0,0,.bin .sub QR6 Q80,.Name "sorted" p0,.BoolOp .Or QiD p,(Xbu hc).trans ?_,((QMH.toNat:Nat):Int),⟨I4,I3.sr,I3.er⟩,⟨?_,λi d e=>?_⟩,∀i,i<m->b i=yx,λj=>L.getD j yy,λenv S=>tst QE0,yz m,xs++ys,wpAny_handled ?_,rwF ks,pth t.mask Qv0 n,pickOrder Qr9 es,p.append_right _,ns.map WData.int,nS w,n::L,lg x,lg own,hf c B,he _ rfl rfl Qg4,gcR S (.ex n S1),e3.trans e4.symm,decide_eq_true z,call QY2 (v::us),(by simp[Xa9,h,Vaa]),(by rw[g1.sz];omega),bits h,assign QrF X.env,Y9 (Xej rfl) QI6,Xy Q4F,Xp3 st,Xb QUA,0,0,0,0,0,0,0,Xav N (Y7 z.2.2),Vn m its.toArray,Vf _ q,Veo hA,Vel ..,U4 QN1,U0 T,S++[.lst (x++y)],Q69.probeStart h,L b hb,B++[y],2^62,.var 9,.str x,.ref r,.own x,.own a,.ite Qc0 QB .nil,.int n,.int 2,.int (i^j.toNat),.done (yz (),()),.cmp .ne Qk5 QDB,.cmp .isin Q9 Q4,.blt .sorted Qk0,.Name "sorted" p,0,0,0,0,0,0,.Name "range" p2,.IfExp c a b pos,(ab _).trans Qi8,(aa _).trans Qi8,⟨v,L x c e v z⟩,⟨rfl,h⟩,⟨o,a,c⟩,⟨hg,rfl,L _ Q0⟩,⟨hg,rfl,B _ Q0⟩,⟨H,I,q⟩,{s1 with heap:=h' },{s' with heap:=h' },[yz Q21,yy],[Xa s,Xa f],∃u,H a=yz QT1,λx hx y hy=>?_,λx B=>hf x Q17,λk=>!k.isEmpty,λi hi Q' L=>?_,λb z=>aB0 z QA,λb o e=>Vf _ e,ys.map f,setItem ov iv v,s.heap.push QO0,r.drop 1,p.mem_iff.mp q1,p+x,ne b _ z,l.drop 1,kdD S1 d,i+k,hn b o e,hT o' e1,(h1 λz=>nomatch z),ga env S,(by simpa using q3),0,0,0,0,0,0,0,(by simpa using hv),(by simpa using h2),(by simpa using c'),(by simp[Vq];omega),(by rw[h.sz];omega),(by rw[Vq]<;>omega),(by rw[Ve];calc hn),(by rw[Va4];calc h),b.extract k QtD,ag.empty x c hm,a.toList.drop q,a.toList.drop p,Xc1 a b (o) i j,Xc h2 Yd,Vv (w+1),Vd8 B t1,Vcz s'.heap Q0D,Va6 ho hd ft ?_,Va (Vfv hi Qz0),Str×Pos,S'.take QD++[o],Qm6.flatMap lpt,QaI++vs.toArray,Q84->BM mg base,Option V,Itz K k1 k2 a b,0,0,0,0,0,0,I1.inv.ok.hd hc,I.ok.noex b o e,B.map Qb,.zpp s t,.yield (yy,t+n),.tup Qm9,.ref QlH.length,.ok d S',.isi Q2 [.bool],.int i t,.frz QZ1,.ext (ExcO C p),.error e,.empty QKH.j yy,.dict [],.cst QOE,.cmp .ne QE QsJ,.cmp .ge Q4 Qr1,.bl (wi d B hi),.bl (bs.any id),.bl (Xaa n QnJ),.bl (!r),.bin .sub Q4 QT,.aset Q4 QN Q18,.Tuple ts x0 tp,.Tuple es x0 tp,.Tuple es k pos,.Name "range" p,.BoolOp op ys p,(ns[0]?).getD 0,⟨x,p,rfl,h2.2⟩,⟨l,hl,rfl,rfl⟩,⟨j-1,by omega⟩,⟨e,by omega,q⟩,[yz QM1,yz QLE,yy],[yz QA3,yz QF2,x2],0,0,0,0,0,0,0,[yz Q70,yz Q7,x,y],[d,.int B,.int hi],[D.non,.non,bd,nn],[.st []],[.int j],λs hs=>Q06.l6,λ_ _ _ _=>rfl,λ_ _ _ _ n=>n,(yy,u,v),(yy,l,r),t.probeStart h,sr3.stop I3 g1,runEnd m i-i+1,rnd m 13 (i,q),ks.foldl ddR B,kat QG (p+m-1),execs st X.env,eval Q28 X.env,ev F G o env S,ev F G i env S,ev F G a env S,(by simpa using z),(by rw[B];trivial),(by rw[B];calc V0),a::frs X.stack,Yj Q0 (Vu QM2),0,0,0,0,0,0,Xzw ibf ibn ss,Xhw B.units op,Xhw B.units o2,Xhw B.units o1,Vbj X.prog X.w,U0 B.objs.size,L.inv.ok.hd hc,J.hok.fresh Qd,.ret (.lst Qg),.ref B'.length,.lst (vs++[v]),.int (tly QXA),.cons Qb7 .nil,.cons QSC .nil,.cons QQE .nil,.cons QJ1 .nil,.cons Q80 .nil,.cons Q54 .nil,.cons Q22 .nil,.cmr k n B elt,.cmp .ne Qq Q9,.cmp .eq Q4 Q2,.call QB9 args,.builtin "any",⟨o,ho⟩,⟨hg,.inr QXD⟩,⟨e,?_⟩,⟨_,hf⟩,⟨H,I.tok _,q⟩,⟨B,?_⟩,[yz QL6,yz Q7,yy],[yz Q70,yz Qy3,x],[yz Q70,yz Q7,yy],[O.lst []],ρ++[p],ρ++[a],0,0,0,0,0,0,0,λz=>?_,λe=>?_,λ_=>yy,λDa=>LstA.ok,z.2.2.2.2.1-1,yz g,yz c,yz Q7,xs.eraseIdx j,x.2.2.2.2.1+1,vNm y.1,vNm e,trk h H,tly B,srtC_mem.mp h,setArr st QM9,sB w,rnd m r (i,q),rgL n f,ret Vbz,q.1.map V.int,pts n,p+k,p+j,nx b,min (t-z.2) m,0,0,0,0,0,0,lns QB1,lg qs,lg k,lg is,l.map g,l.foldl ddS B,l.foldl ddR B,ks++[k],kat a (p+x-1),k-QwC,k+4,its Q69 c QF3,hO.as e,g x,forIn its _ _,f v u,ddR B k,ddI n.flatten,(by rw[z1];omega),(by rw[Ve];omega),(by rw[V1];omega),ask _ Q0 _ ?_,an b hb,a=b,a.size+b.size,Y8 c,Y7 sc,Xp e hD,Xjm e,Xd5 B,Xc0 a b o i j,Xbo _ (Xy9 n),Xbo _ (Xfb _),Xb m,Xar _,Xa a,0,0,0,0,0,0,0,Xa B,X5 h,Vv n,Vn k.toNat xs,Vk.mp B,Vi0 _,Vhc z,Vgi _ _,Vf3 a b v' u',Vd6 _,Vd2 _,Vd this,Vcz s1.heap l,Vcz s'.heap l,Vbr QnD,Vbj P w,Vax QD4 >>= _,Va (T1.at ?_),V5 (Xmp _) Q0,Uu (Xeg n) hn,Um.mp L,Str->OV,S1++X,S1++Qb9,S++[O.dct []],QA9.most S1+1,0,0,0,0,0,0,QA1.length<29,Itl K a,ForInStep QQ6,B fr3,B b L,.type U,.tup ys,.tup [.int p],.some e,.refl _,.ok (.ret QC),.lst [.int k],.inl Qd,.cons QF0 QE1,.bl (Xaa n d),((m/2^a:Nat):Int),(#[U1 i,U1 j]:AV),⟨w.2,ab w.1⟩,⟨vs,hD',ra'⟩,⟨siz,hs,rfl⟩,⟨rfl,rfl,on⟩,⟨h1,h2,L,h4⟩,⟨L,r,rfl,hr⟩,⟨B,r,rfl,hr⟩,σ.set i QhN,λs=>lie f s,(λq=>nomatch q),λn s ih=>?_,λg=>lft g f,λ_ _ _ e=>e,wants Q₁ E,st2.trans a8,pre_splitW B,n.drop (a+1),ks.map V.int,kat xs (q+j),0,0,0,0,0,0,0,items.size-0,hQ r _ hg hr,fl=yx->cm=yx,evts F G ifs,eval c X.env,ev elt env S,cut xs lo hi,call Qk7 QmF,call QY2 QmF,below xs j+k,Xjl z.2.2 sc,Xe (Xp B hp),Xcz ia iw ic,Xb (rgF n f),Xb (grt QP6),Vv QMH.toNat,Vn k.toNat x,Vfa (ep:Int),Vel a s.heap,Vdg tg QN1 u,Vd3 (Vd Qz0),Vcb "0" ++ y,Vb2 cpos Qo0,Va (Vd3 Qz0),T.obj _ _ t5,St->Hp->Prop,0,0,0,0,0,0,S++[.st Qs1],S++[.lst ds],QfC.trans ac,QR1.push QZ5,Q94.length=1,L b hm h1 h2,FT T G Qe3 f,FT T G (k+3),A.deeper QR2,.type "list",.rfl' c2.pot,.int (v/far),.int (a:Int),.cons QE Qh6,.cons QE QE1,.cons Q9 QE1,.cons Q4 QrB,.cons Q4 Qh6,.call ipt Qg,.call ilf Qg,.call il Q08,.blt .len Qk,(h b).mpr V6,("max",yx,"max"),⟨z,H,I,L,q⟩,⟨o,h1,h2.1⟩,⟨o,e _ B,r⟩,⟨n,S3,e3,z⟩,⟨n,S2,e2,z⟩,⟨_,q⟩,⟨_,B⟩,[yz QA3,yz QF2],[yz Q70,yz QcH],[e,it],[Xb n,.tup [d]],[O.lst B],0,0,0,0,0,0,0,[O.ded],[.tup xs],[.st QVA],[.st QPH],[.int i,.int i],[.int 0,.int 1],λz=>q1 QvE,λb u e=>?_,(· == (s:Int)),z▸hx,z▸V6,yz z.2,yz Qk2,yz QT0,yz QS6,yz QE2,yz (.ref 6),yz (.int q),x.pre n a h,upd H p Q7D,upd H l QxH,upd H a Q93,st.out h hn,ps++[(k,x)],p+i,ns[i]?,0,0,0,0,0,0,(nm,T),na=yx->B=σ,mb _ (Yc B),lns ks,k.map V.int,its Q69 n p,iN0 hb,i2 x B,i != 0,hf b B,h1.push Qh1,gNs is,fs.lookup f,frs X.stack,e0.bs b o e,ds++aa,collect Q4C,c2.trans a2,by rfl,bs[i]?,bs.map V.bl,bs.map D.bl,a₀.size-t,ac.trans ab,ab.trans ah,ab.trans ae,a==Vdf,Xy (n++QWN),Xu7 X Da ks,Xmh h.dep l,Xki st,Xjx a b d e,Xgh rn,Xfl rfl QP1,Xfe ..,Xep hn,0,0,0,0,0,0,0,Xbk st,Xav X.N own,Xae hn,Xa Qt9,Xa QXA,X5 rfl,Vv QYB,Vjg QB9 Q37,Vja ..,Viy ?_,Vfl Qt,Vcs L hd ?_,Vc9 st,Vb8 Qs3 env,Vb3 ?_,Ul QgF,Sm 7 165000,S++QW4,Qz.push QA0,Qm6.flatten,QfC.trans L,Qc.trans ?_,Q5H.map prZ,L x hx,I.hok b u e,F ds S,0,0,0,0,0,0,B.trans st2,B++its,2^63-1,2*x.1+x.2.1,(0,.none),.tup (x++y),.ret v,.ref B,.of k2,.mth k o es,.int y,.int x,.int w,.int k,.int (Y3 n),.inr z,.inl q,.idx Q2 Q27,.frz og Q57,.frz e,.enm s,.cst d,.cons QE Qg,.cons Q2 Qi,.call ab Qf,.call L Q08,.call B QmK,.bl (rzL n),.bl (riz l),.bl (Xge n),.Name QrN p,(h a).mp V6,!vs.isEmpty,!decide QTB,!byT w,!byT w&&Q74,0,0,0,0,0,0,0,⟨v,rfl,h1⟩,⟨u',r',?_⟩,⟨os,ae,ac⟩,⟨hg,rfl,B⟩,⟨h1,h4,h5⟩,⟨_,hi,rfl⟩,[yz d,yz Q7,x],[yz Q70,yz Q7],[eval c X.env],["net","face"],["_law_thing"],λm hm=>?_,λi hi=>?_,λa b=>b=a,yz e,x="sorted",upd H x o',upd H Da u,(t.length:Int),r1.mono st,o.push Qt7,o.push QsD,newList [],lg s,lg a,l.filter p,0,0,0,0,0,0,ks.map Xlt,kat QG Q0Q,hn z,h1.mono' x,h.dat look,eval o env,eval c env,ev o env S,ev c env S,datFs B xs,(by simp![hl]),(by rw[eq,q3]),b::l,ag.trans L,adk hm QQ8,a2 k k1 k2,_&&_,Xcw hd rfl,Xcd c=yz x,Xa f,Xa b,Vv (lg bs),Vv (2^QF8),Vt z,Vf5 ?_ Qf9,Val ?_ QKD,Stp.new1 B,Src.con xs,Qe5.map Xa,Qc.trans h,Qc.trans B,QXB.map Xa,QB1.map Xa,Q94.map Xa,Q01.hash k,Ne.symm hj,0,0,0,0,0,0,0,Ne.symm ab,Expr×Expr,B++.ded::X,A.deeper _,.yield QC7,.int (i/j),.int (i%j),.frz o Q57,.frz .dct0,.call L Qf,.call B Qk,.bin o a b,.asg QJ1 e,⟨w.2,rfl⟩,⟨w.1,rfl⟩,⟨v,?_,h2⟩,⟨rfl,fin⟩,⟨o,ho,hd⟩,⟨o,h1,h2⟩,⟨_,q,rfl⟩,⟨B q,rfl⟩,[rwF ks],[opC B,opC L],[Xb n,.int p],[Xa r,.int i],[.ref p,Xb n],0,0,0,0,0,0,[.int v],[.int 0],ρ'++[Da],λx=>!x.1,λk'=>Vbp,λb L=>?_,λa L=>?_,λa B=>?_,(·.2.1),zs.drop i,x∈f,xs.take n,xs.take i,xs.drop v,xs.drop n,xs.drop 1,v2 QeG S4,topStub p,t.put Q79,rnd m r p,q+z.2.1-1,p∈pts n,min QyE c,lpt s,lns n,kat a QYV,kat a QXS,kat a Q0Q,k2 _ _ aa,k+5,j+1+k,its t 0 p,ite c t e,ints_of s,ints_of k,h.dat Q4M,0,0,0,0,0,0,0,grt n,grown QRH,frs outer,fc env S2,denote tb,ddI l,d::ds,cts QG8 w,cne y c e,cm||Xvh k,b+2,alt r,Xw op,Xw o2,Xw o1,Xvk e,Xqc n,Xkk L,Xjf m,Xhd x b S,Xgb il ia,Xff _,Xep B,Xef _ 1 S,Xd5 z.2.1,Xch io it,0,0,0,0,0,0,Xc9 QdJ _,Xbu c,Xb (Xy n),Xav N own,X37 c3 a3,W.sub _ h,Vg0 _ _ _,Vfv hz ?_,Vec r,Vd (Vd h),Vcw .Mult,Vcm ab ?_,Vcc _,Vb7 ?_ hs,Va ?_,V7 hg,V7 ey,Ul lb,S.set n o,S++X++QTL,Qm.map Xh,Q9G,Ne.symm z,Ne.symm e,N+min x 1,N+min 0 1,0,0,0,0,0,0,0,0,0,0,0,0,0,0,0,0,0,0,0,0,0,0,0,0,0,0,0,0,0,0,0,0,0,0,0,0,0,0,0,0,0,0,0,0,0,0,0,0,0,0,0,0,0,0,0,0,0,0,0,0,0,0,0,0,0,0,0,0,0,0,0,0,0,0,0,0,0,0,0,0,0,0,0,0,0,0,0,0,0,0,0,0,0,0,0,0,0,0,0,0,0,0,0,0,0,0,0,0,0,0,0,0,0,0,0,0,0,0,0,0,0,0,0,0,0,0,0,0,0,0,0,0,0,0,0,0,0,0,0,0,0,0,0,0,0,0,0,0,0,0,0,0,0,0,0,0,0,0,0,0,0,0,0,0,0,0,0,0,0,0,0,0,0,0,0,0,0,0,0,0,0,0,0,0,0,0,0,0,0,0,0,0,0,0,0,0,0,0,0,0,0,0,0,0,0,0,0,0,0,0,0,0,0,0,0,0,0,0,0,0,0,0,0,0,0,0,0,0,0,0,0,0,0,0,0,0,0,0,0,0,0,0,0,0,0,0,0,0,0,0,0,0,0,0,0,0,0,0,0,0,0,0,0,0,0,0,0,0,0,0,0,0,0,0,0,0,0,0,0,0,0,0,0,0,0,0,0,0,0,0,0,0,0,0,0,0,0,0,0,0,0,0,0,0,0,0,0,0,0,0,0,0,0,0,0,0,0,0,0,0,0,0,0,0,0,0,0,0,0,0,0,0,0,0,0,0,0,0,0,0,0,0,0,0,0,0,0,0,0,0,0,0,0,0,0,0,0,0,0,0,0,0,0,0,0,0,0,0,0,0,0,0,0,0,0,0,0,0,0,0,0,0,0,0,0,0,0,0,0,0,0,0,0,0,0,0,0,0,0,0,0,0,0,0,0,0,0,0,0,0,0,0,0,0,0,0,0,0,0,0,0,0,0,0,0,0,0,0,0,0,0,0,0,0,0,0,0,0,0,0,0,0,0,0,0,0,0,0,0,0,L.map Qx1,J.ok.hd B,Ite K k a,I.ok.hd L,Fl.nx env,Expr×Pos,B.fc s hs,B+e,.tuple qs,.sad o es,0,0,0,0,0,0,0,.rt r,(.none,.none),.fro odds,.expr Q56,.bool QHH,.blt k es,.bl x,.bl t,.bl (q x),(2:Int)<0,⟨u,r,?_⟩,⟨_,q,hd⟩,⟨_,_,Xu⟩,⟨[a],[]⟩,⟨QVC,[]⟩,[yz d],[.Name x py],ρ++[Da],λ_ z=>z,λB h=>h,yz D.non,typeOf v,pt S p k,ns[k+1]?,ne c _ z,n.take a,0,0,0,0,0,0,mx _ QL8,mb _ QL8,lg xs<=6,kat xs j,kat xs i,kat QG y,kat QG x,ixN QL k,hO.as lt,h2.1 x B,h1.1 x B,ev F G o,(by cases q),be x c h,ae b o e,ab y B L,Yn c QiB,Y8 c.val,Xt0 _ w3,Xdw m1 S,Xck n xs,Xck n QQ,Xc ix Yd,X3g hb.1,X1 s QP1,Vr.mp hb,Vn k its,Vk.mp hi,Vgy _ Q0,Vf _ QeJ,Vcp.mp B,Vai.mp h,Ui.mp ht,Ui.mp hg,Ui.mp hd,P.zip vs,0,0,0,0,0,0,0,List Qx4,Itr lo n,Hp->Prop,H.tk Qe3,.val Qk5,.val Q56,.type id,.tup QHE,.sst QZM,.ret QZM,.ref QzE,.ok d S1,.of hb.2,.lst Q3I,.list qs,.int x t,.int Qi2,.int QNS,.inr QQG,.inr QP3,.inr QJ0,.inl Qs2,.frz QV1,.frz QUM,.frz QO2,.frz QJ1,0,0,0,0,0,0,.fro QMA,.ex n S',.cst Q61,.con Qd3,.cnt env,.brk env,.bl (!b),.and a b,⟨o,e,d⟩,[yz a,yz d],[new,ov,iv],[[3]],[Xb n,Xb n],[O.lst Ql7],yz i,xs++[v],x==n,x<=y,x::y::r,x a o e,tst QU0,tk yy L,sm j hj,rwF QsN,rwF QqN,rwF Qe5,rest Q0,q+z.2-1,pkb l i,(p,n,v),odL 0 B,o=f,na&&na2,mxf r n,max n m,m-1,0,0,0,0,0,0,0,lo+k,lg m,lg hs+1,lft t f,kat b k,kat a j,k+3,ih _,iP0 rfl,iP0 QO9,i==j,i+n,hv x4 S,hs x QA,hq q aa,hb _ m1,h2 p hp,h.2 x B,(h,x),fiv m x,f0 b hb,dr yy L,am b hb,alt QyP,aa b,a++b,0,0,0,0,0,0,([]:LR),Yo hs L,Yj B ?_,Y8 k,Xy l,Xxo b l,Xs1 b l,Xpw z.1,Xp7 _ S,Xp q hD,Xmn S _,Xle k l,Xla P w,Xjb x l,Xh s,Xdj S k,Xbr QH6,Xbg QJM,Xba Qt0,Xba QE0,Vv k,Vjq _ _,Vi 2,Vf1 _ _,Vdx QD4,Vdx QD2,Vcw QhG,Vbk _ z,V7 B,V2 _ hx,Ui.mp B,U3.mp q,T y,Str×Vb,(R.ok · S),(R.ok · L),0,0,0,0,0,0,0,Q73[i]?,List α,L _,Itt K a,B++o::X,B++[15],B'++QGA,B _ QgF,.zpp es,.tup es,.tup Qi,.tup Qg,.rt Q20,.rng es,.rev Q2,.ret Q2,.or a b,.lst QR,.int 60,.int 13,.int 10,.inr hy,.inr hx,.inr Q0,.inl hx,.glb g2,0,0,0,0,0,0,.glb aa,.fro w1,.exc c',.enm es,.dK kvs,.bool r,⟨u,h1⟩,⟨k,?_⟩,[B.drop 1],[.lst QF1],[.int n,x],[.int i,x],[.int i,v],κ×Vb,(· == yx),z▸hb,yz QY2,yz QRC,yz QPG,yz QLE,yz QB9,yx==yx,vs++us,us++ds,pc++pl,p+Qx+x,oD0 h2,oD0 h1,lt a b,lg env,l++[x],hs s h,hb b n,h s hs,h s QA,gl _ _,0,0,0,0,0,0,0,f2 b L,ddL rs,(by rw[z]),b0::su,ab c z,Yb _ _,Xs2 lS,Xnd ?_,Xn rfl,Xjf nm,Xin hs,Xim rn,Xhc it,Xh Q21,Xgh hn,Xfo ic,Xfb ks,Xf7 h5,Xev hn,Xc3 is,Xbx il,Xar ns,Xap ?_,Xae hl,Xa [p],Xa Qo6,0,0,0,0,0,0,Vhz h4,Vfl QC,Vfb ?_,Vf1 ..,Vec ok,Vdq ?_,Vd Qe2,Vc5 aa,Vbi lb,Vbi hb,Vb6 hc,Va Qz0,Str×V,S++[o],S++[a],S++QqE,S++QTL,S++QDR,S++Q44,QjH=yx,L B h',B++Qm4,B++QAJ,.val e,.tbl q,.str t,.str i,.str b,.str a,.ret e,.ref b,.nx e2,.not a,.lst _,.int v,.int B,0,0,0,0,0,0,0,.int 4,.inr h,.glb B,.cnt e,.brk e,[z.1,z.2],[v,u],[p.1,p.2],[new,L,B],[Xb [[]]],[O.lst L],[.tup []],[.lst xs],κ×V,(·++[x]),(· == c),z▸e,yz QC,x∈l,x=y,x<=15,(x,c),vs++B,vUn e,vNm y,v%far,0,0,0,0,0,0,t+n,q+z.2,q+k,q+i,ps++L,p+m,nl-np,n-h,(n,k),lg fs,lfc n,k-1-i,k+QbB,k+8,j-1-k,(j,·),iP0 L,iN0 L,(i :: ·),h-v,h+u,h+1,h x,h x B,f y,ddI L,c+n,b+a,alt l,ab ha,a<b,a%2=1,Xym B,Xy6 n,Xy ks,Xsc h,0,0,0,0,0,0,0,Xoy K,Xlz e,Xlv _,Xlt k,Xl op,Xkp n,Xkp _,Xjn e,Xjm t,Xj h4,Xim I,Xhh A,Xgi h,Xgh I,Xfw p,Xfu B,Xf1 _,Xev L,Xcd c,Xbr r,Xbr l,Xas n,Xas _,Xag T,X8 fz,X5 h1,0,0,0,0,0,0,X5 h0,X5 g1,X3b i,X1y e,Vz hb,Vv tn,Vt aa,Vjk _,Via B,Veq q,Veq B,Vd h1,Vc9 s,Vaz s,Vag _,Vae f,V7 e2,Ur e',Ul ha,U2 ?_,Q9G+B,(L,nm,ap),H x,AR Da,2^a,10^20,.rt x,.ok f,.nx B,.bl y,[yz QnO],[opC o2],[Xa f,d],[4,9,15],[.ref n],[.lst L],0,0,0,0,0,0,0,[.int i],[.int c],[.int 1],yz y,yz u,yz k,yz 2,(yy,0,1),x=nm,uA a,rc _,qm b,(q,m,v'),p+Qx,o++c,o++_,n'-c,mA f,m=nm,lo+i,k<=0,he _,hN w,a==b,a::l,Yv L,0,0,0,0,0,0,Y3 n,X8 c,X5 L,Vz q,Vz B,Vv w,Vd q,B<=i,2^64,2^63,0<=x]
def oD0{p:Prop}[Decidable p](h:decide p=yx):p:=of_decide_eq_true h
def aB0{a b:Prop}(h:a)(k:¬a):b:=(k h).elim
def iP0{c:Prop}{i:Decidable c}(h:c){α:Sort u}{t e:α}:Q6Z=t:=if_pos h
def iN0{c:Prop}{i:Decidable c}(h:¬c){α:Sort u}{t e:α}:Q6Z=e:=if_neg h
def gZ0{α:Type u}{a:α}{l:List α}:QYh[0]?=yz a:=rfl
def gS0{α:Type u}{a:α}{i:Nat}{l:List α}:QYh[i+1]?=l[i]?:=rfl
def bA0(a b:Bool):((a&&b)=yx)=(a=yx∧b=yx):=Bool.and_eq_true a b
section
namespace L2
open PySem PySem.Spec PyProof.Rows
private noncomputable abbrev Key:=Sum Int Str
abbrev X3a:Key->Vb->Bool
 |.inl k,v=>Value.isInt k v|.inr x,v=>Value.isStrOf x v
abbrev Yfm(w:Ua):Key->Int
 |.inl k=>hashInt k|.inr x=>hashStr w x
def Yq:∀ {k:Key} {v:Vb},X3a k v=yx->(∃i t,k=Sum.inl i/\v=Vfs i t)\/(∃x t,k=Sum.inr x/\v=Value.str x t)
 |.inl i,v,h=>by let⟨t,e⟩:=Vg9 (k:=i) (v:=v) h;calc .inl ⟨i,t,rfl,e⟩|.inr x,v,h=>by let⟨t,e⟩:=Value.isStrOf_shape (x:=x) (v:=v) h;calc .inr ⟨x,t,rfl,e⟩
def X7w(a b:Int):decide (Q7J=Sum.inl b)=QXh:=by
 by_cases e:a=b;·subst e;simp!
 ·let h:¬ Q7J=Sum.inl b:=λq=>e (Sum.inl.inj q);rw[decide_eq_false h];calc(beq_eq_false_iff_ne.mpr e).symm
def X7x(a b:Str):decide (Q6J=Sum.inr b)=decide QxS:=by
 by_cases e:a=b;·subst e;simp!
 ·let h:¬ Q6J=Sum.inr b:=λq=>e (Sum.inr.inj q);rw[decide_eq_false h,decide_eq_false e]
def X7y(a:Int)(b:Str):decide (Q7J=Sum.inr b)=false:=decide_eq_false Q0U
def X7z(a:Str)(b:Int):decide (Q6J=Sum.inl b)=false:=decide_eq_false Q0U
abbrev Xla(prog:V3)(w:Ua):PySem.KeyKind prog w Key where
 is:=X3a
 hash:=Yfm w
 inj:=λv a b ha L=>by
  rcases Yq ha with⟨i,t,rfl,rfl⟩|⟨x,t,rfl,rfl⟩
  ·rcases Yq L with⟨j,u,rfl,e⟩|⟨y,u,rfl,e⟩;·injection e with e1 _;rw[e1]
   ·exact nomatch e
  rcases Yq L with⟨j,u,rfl,e⟩|⟨y,u,rfl,e⟩;·exact nomatch e
  ·injection e with e1 _;rw[e1]
 byValue:=λk v h=>by rcases Yq h with⟨i,t,rfl,rfl⟩|⟨x,t,rfl,rfl⟩<;>rfl
 pyHash:=λB h=>by
  rcases Yq B with⟨i,t,rfl,rfl⟩|⟨x,t,rfl,rfl⟩;·exact wpAny_pyHash_int h
  ·exact wpAny_pyHash_str h
 eqBool:=λhu B h=>by
  rcases Yq hu with⟨i,t,rfl,rfl⟩|⟨x,t,rfl,rfl⟩
  ·rcases Yq B with⟨j,u,rfl,rfl⟩|⟨y,u,rfl,rfl⟩;·rw[X7w]at h;exact wpAny_eqBool_int h
   ·rw[X7y]at h;exact SeqAt.EqAt.int_str i t y u _ _ _ _ h
  rcases Yq B with⟨j,u,rfl,rfl⟩|⟨y,u,rfl,rfl⟩;·rw[X7z]at h;exact SeqAt.EqAt.str_int x t j u _ _ _ _ h
  ·rw[X7x]at h;exact wpAny_eqBool_str h
 «strs»:=λk x t v h=>by
  rcases Yq h with⟨i,u,rfl,e⟩|⟨y,u,rfl,e⟩;·exact nomatch e
  ·injection e with e1 _;subst e1;cases v<;>rfl
universe L2
namespace L2
open PySem PySem.Spec PyProof.Rows
inductive V where
 |non|bl (b:Bool)|int (i:Int)|str (x:Str)|byt (b:Array UInt8)|flt (b:UInt64)|ref (a:Addr)|ty (n:String)
 deriving DecidableEq
private abbrev LW:=List V
theorem RelV:V->Vb->Prop
 |.non,u=>u=Vbz|.bl b,u=>u=Vfu b|.int i,u=>∃t,u=Vfs i t|.str x,u=>∃t,u=Value.str x t|.byt b,u=>∃t,u=Value.bytes b t|.flt b,u=>∃t,u=Value.float b t|.ref a,u=>u=U1 a|.ty n,u=>u=Vce n
private abbrev Vals:LW->LV->Prop:=Paired RelV
def Vals.length{xs:LW}{us:LV}(r:Vals xs us):QL=lg us:=Paired.length r
def Vals.get:∀ {xs:LW} {us:LV} {i:Nat} {x:V},Vals xs us->xs[i]?=yz x->∃u,us[i]?=yz u/\RelV x u
 |_,_,_,_,.nil,e=>by simp! at e|_,_,0,_,.cons r _,e=>by simp! at e;subst e;calc QML|_,_,i+1,x,.cons _ t,e=>by let⟨u,h1,h2⟩:=Vals.get (i:=i) (x:=x) t Qd9;calc⟨u,by simpa using h1,h2⟩
def Vals.set{x:V}{u:Vb}(r:RelV x u):∀ {xs:LW} {us:LV} (i:Nat),Vals xs us->Vals (xs.set i x) (us.set i u)
 |_,_,_,.nil=>.nil|_,_,0,.cons _ t=>.cons r t|_,_,i+1,.cons q t=>.cons q (Vals.set r i t)
def Vals.append:∀ {xs ys:LW} {us B:LV},Vals xs us->Vals ys B->Vals QlO (us++B)
 |_,_,_,_,.nil,s=>s|_,_,_,_,.cons r t,s=>.cons r (Vals.append t s)
def Vals.take:∀ {xs:LW} {us:LV} (n:Nat),Vals xs us->Vals QlY (us.take n)
 |_,_,0,_=>.nil|_,_,_+1,.nil=>.nil|_,_,n+1,.cons r t=>.cons r (Vals.take n t)
def Vals.drop:∀ {xs:LW} {us:LV} (n:Nat),Vals xs us->Vals QoY (us.drop n)
 |_,_,0,r=>r|_,_,_+1,.nil=>.nil|_,_,n+1,.cons _ t=>Vals.drop n t
theorem X70:Option V->OV->Prop
 |some v,yz u=>RelV v u|none,yy=>True|_,_=>False
theorem KV{κ:Type}:List QNf->List Qnd->Prop:=Paired λ(p:κ×V) (q:κ×Vb)=>p.1=q.1/\RelV p.2 q.2
abbrev kV:Key->V
 |.inl i=>.int i|.inr x=>.str x
inductive HO where
 |lst (xs:LW)
 |tup (xs:LW)
 |dK (kvs:List (Key×V))|dT (kvs:List (List Key×V))
 |set (S:Int->Bool) (n:Nat)
 |ins (C dx:Addr) (fs:List Qme)
 |own (x:Addr)
 |xd (fs:List Qme)
 |met (f x:Addr)
 |rng (lo hi:Int)
 |frz (o:Obj) (u:HO)
 |tbl (q:Str)
 |ext (φ:Heap->Prop)
private noncomputable abbrev Hp:=Addr->Option HO
abbrev upd(H:Hp)(a:Addr)(o:HO):Hp:=λb=>if b=a then yz o else H b
def Xu{H:Hp}{a:Addr}{o:HO}:upd H a o a=yz o:=by unfold upd;rw[iP0 rfl]
def Xe{H:Hp}{a b:Addr}{o:HO}(h:b≠a):upd H a o b=H b:=by unfold upd;rw[iN0 h]
def Xdh{H:Hp}{a b:Addr}{o u:HO}(h:H a=yz o)(h':H b=yz u)(d:o≠u):a≠b:=by intro e;subst e;rw[h]at h';calc d (Ur h')
def Xp{H:Hp}{a b:Addr}{o:HO}(h:H a=yz o)(h':H b=yy):a≠b:=by intro e;subst e;rw[h]at h';cases h'
section
variable(P:V3)(w:Ua)
theorem ObjOk(H:Hp)(h:Heap)(a:Addr):HO->Prop
 |.lst xs=>lg xs<=V8/\∃(its:LV) (n:Nat),Vals xs its/\h.get? a=yz Qr|.tup xs=>lg xs<=V8/\∃its:LV,Vals xs its/\Vd5 h a its.toArray|.dK kvs=>lg kvs<=V8/\Q0W=yw/\∃vs,KV kvs vs/\h.DictOf Qmc a vs|.dT kvs=>lg kvs<=V8/\Q0W=yw/\∃xs:List (List Key×Addr×Vb),
   Paired (λ(p:List Key×V) (q:List Key×Addr×Vb)=>p.1=q.1/\H q.2.1=yz (.tup (p.1.map kV))/\RelV p.2 q.2.2) kvs xs /\
   ∃o es ep,h.get? a=yz o/\o.ExactDict/\o.data=.dict es ep/\es.toList=xs.map (entryOfKey (tupleKind Qmc))/\(xs.map Qb).Nodup|.set S n=>h.SetOf QPT a S n|.ins C dx fs=>H dx=yz QQP/\Qjf<=1000/\dx≠a/\h.get? a=yz (PySem.W.instObj C dx) /\
   ∃mA,h.Ns1 dx mA/\(∀f,X70 QmV QRh)/\PySem.Within mA (fs.map Qb)|.own _=>∃o,h.get? a=yz o|.xd fs=>∃mA,h.Ns1 a mA/\∀f,X70 QmV QRh|.rng lo hi=>∃t u v,h.get? a=yz QJ|.frz o u=>h.get? a=yz o/\ObjOk H h a u|.tbl q=>∃ps,h.get? a=yz {cls:=.none,data:=.fields ps}/\TriplesOk ps.toList/\∀pos L,codeAmong pos ps.toList=yz L->∃c o u vs t,L=.ref c/\H c=yz QT1/\o.data=.fields vs/\vs[1]?=yz (.str q t)|.met f x=>h.get? a=yz (Vjg QB9 Q47)|.ext B=>B h/\(∃o,h.get? a=yz o)/\∀h1 h2:Heap,B h1->(∀o,h1.get? a=yz o->h2.get? a=yz o)->B h2
theorem Fix:HO->Prop
 |.tup _=>True|.frz _ _=>True|_=>False
theorem HOk(H:Hp)(h:Heap):Prop:=∀a o,H a=yz o->ObjOk P w H h a o
universe e
section
variable{P:V3}{w:Ua}{H H':Hp}{h h':Heap}{a:Addr}{o:HO}
def ObjOk.lt(x:ObjOk P w H h a o):a<h.objs.size:=by
 cases o with
 |lst xs=>let⟨_,_,_,_,e⟩:=x;calc Vz e|tup xs=>let⟨_,_,_,p⟩:=x;calc p.lt|dK kvs=>let⟨_,_,_,_,o,_,_,e,_⟩:=x;calc Vz e|dT kvs=>let⟨_,_,_,_,o,_,_,e,_⟩:=x;calc Vz e|set S n=>let⟨o,_,_,_,e,_⟩:=x;calc Vz e|ins C dx fs=>let⟨_,_,_,e,_⟩:=x;calc Vz e|own y=>let⟨_,e⟩:=x;calc Vz e|xd fs=>let⟨_,⟨_,_,_,e,_⟩,_⟩:=x;calc Vz e|rng lo hi=>let⟨_,_,_,e⟩:=x;calc Vz e|frz ob u=>let⟨e,_⟩:=x;calc Vz e|tbl q=>let⟨_,e,_⟩:=x;calc Vz e|met f y=>calc Vz (show h.get? a=yz _ from x)|ext B=>let⟨_,⟨_,e⟩,_⟩:=x;calc Vz e
def Paired.mapP{α β:Type}{F G:α->β->Prop}:∀ {l₁:List α} {B:List β},Paired F l₁ B->(∀a b,F a b->G a b)->Paired G l₁ B
 |_,_,.nil,_=>.nil|_,_,.cons r t,f=>.cons (f _ _ r) (Paired.mapP t f)
def ObjOk.stay(x:ObjOk P w H h a o)(k:∀b u,(b=a\/H b=yz QQP)->h.get? b=yz u->h'.get? b=yz u)
  (L:∀b,H b=yz QQP->H' b=yz QQP) (B:∀b u,Fix u->H b=yz u->H' b=yz u):ObjOk P w H' h' a o:=by
 induction o with
 |lst xs=>let⟨z,its,n,r,e⟩:=x;calc⟨z,its,n,r,k _ _ QJ0 e⟩|tup xs=>let⟨z,its,r,ob,e,c⟩:=x;calc⟨z,its,r,ob,k _ _ QJ0 e,c⟩|dK kvs=>let⟨z,y,vs,r,ob,es,ep,e,c⟩:=x;calc⟨z,y,vs,r,ob,es,ep,k _ _ QJ0 e,c⟩|dT kvs=>let⟨z,y,xs,r,ob,es,ep,e,c⟩:=x;calc⟨z,y,xs,Paired.mapP r λp q z=>⟨z.1,B _ _ trivial z.2.1,z.2.2⟩,ob,es,ep,k _ _ QJ0 e,c⟩|set S n=>let⟨ob,es,ep,t,e,c⟩:=x;calc⟨ob,es,ep,t,k _ _ QJ0 e,c⟩|ins C dx fs=>let⟨d,z,ne,e,mA,⟨od,es,ep,e2,c⟩,r⟩:=x;calc⟨L _ d,z,ne,k _ _ QJ0 e,mA,⟨od,es,ep,k _ _ (.inr d) e2,c⟩,r⟩|own y=>let⟨ob,e⟩:=x;calc⟨ob,k _ _ QJ0 e⟩|xd fs=>let⟨mA,⟨od,es,ep,e,c⟩,r⟩:=x;calc⟨mA,⟨od,es,ep,k _ _ QJ0 e,c⟩,r⟩|rng lo hi=>let⟨t,u,v,e⟩:=x;calc⟨t,u,v,k _ _ QJ0 e⟩|frz ob u ih=>let⟨e,q⟩:=x;calc⟨k _ _ QJ0 e,ih q⟩|tbl q=>let⟨ps,e,t,n⟩:=x;calc⟨ps,k _ _ QJ0 e,t,λpos cv z=>let ⟨c,o,u,vs,t,e1,e2,r⟩:=n pos cv z;⟨c,o,u,vs,t,e1,B _ _ trivial e2,r⟩⟩|met f y=>let e:h.get? a=yz QHW:=x;show h'.get? a=yz QHW;calc k a _ QJ0 e|ext φ=>let⟨p,⟨o,e⟩,st⟩:=x;calc⟨st _ _ p λo q=>k _ _ QJ0 q,⟨o,k _ _ QJ0 e⟩,st⟩
def HOk.lt(x:HOk P w H h)(e:H a=yz o):a<h.objs.size:=Qtb.lt
def HOk.fresh(x:HOk P w H h)(e:h.objs.size<=a):H a=none:=by
 cases q:H a with
 |none=>rfl|some u=>calc aB0 (Uk (x.lt q) e) QfH
def HOk.kept(x:HOk P w H h)(k:∀b u,h.get? b=yz u->h'.get? b=yz u):HOk P w H h':=λa o e=>Qtb.stay (λb u _ q=>k b u q) QRJ λ_ _ _ q=>q
def HOk.laid(x:HOk P w H h)(k:∀b u,h.get? b=yz u->h'.get? b=yz u)(hp:h.objs.size<=a)(new:ObjOk P w Qo5 h' a o):HOk P w Qo5 h':=λb u e=>by
 let B:=x.fresh hp;by_cases L:b=a;·subst L;rw[Xu]at e;cases e;exact new
 ·rw[Xe L]at e;calc(x b u e).stay (λc v _ q=>k c v q) (λc q=>by rw[Xe QNK];calc q) λc xs _ q=>by rw[Xe QNK];calc q
universe e
theorem Rd(H:Hp)(a:Addr)(u:HO):Prop:=H a=yz u\/∃o,H a=yz QT1
def Rd.ok{P:V3}{w:Ua}{H:Hp}{h:Heap}{a:Addr}{u:HO}(r:Rd H a u)(x:HOk P w H h):ObjOk P w H h a u:=by
 rcases r with r|⟨o,r⟩;·exact x a u r
 ·let⟨_,q⟩:=x a _ r;calc q
theorem Mut:Option HO->Prop
 |some Q7f=>True|some (.dK _)=>True|some (.dT _)=>True|some (.set _ _)=>True|some (.ins _ _ _)=>True|some (.ext _)=>True|_=>False
section
variable{P:V3}{w:Ua}{H:Hp}{h h':Heap}{x e:Addr}{o':HO}
def HOk.write(ok:HOk P w H h)(mu:Mut Qwg)(he:e=x\/H e=yz QPP)(k:∀b u,b≠e->h.get? b=yz u->h'.get? b=yz u)(ab:∃u,h'.get? e=yz u)
  (new:ObjOk P w QQX h' x o'):HOk P w QQX h':=λb u q=>by
 let L:∀c y,H c=yz (.own y)->c≠x:=λc y r z=>by subst z;rw[r]at mu;exact mu
 let aa:∀c u,Fix u->H c=yz u->c≠x:=λc u f r z=>by subst z;rw[r]at mu;cases u<;>first|exact mu|exact f
 by_cases hb:b=x;·subst hb;rw[Xu]at q;cases q;exact new
 ·rw[Xe hb]at q;by_cases B:b=e
  ·let q':H b=yz QPP:=by
    rcases he with z|z;·exact aB0 (B.trans z) hb
    ·rw[B];exact z
   rw[q]at q';cases q';let⟨v,hv⟩:=ab;exact⟨v,by rw[B];calc hv⟩
  exact(ok b u q).stay (λc v hc r=>k c v ?_ r) (λc r=>by rw[Xe (L c b r)];calc r) λc xs f r=>by rw[Xe (aa c xs f r)];exact r
  rcases hc with rfl|hc;·exact B
  ·rintro rfl;rcases he with z|z;·exact L c b hc z
   ·rw[hc]at z;cases z;calc hb rfl
universe e
structure Un(fs ex:LR)(H H':Hp)(h h':Heap):Prop where
 keep:∀b o,h.get? b=yz o->H b=yy->b ∉ fs->b ∉ ex->h'.get? b=yz o
 slot:∀b o,h.get? b=yz o->H b=yy->b∈fs->b ∉ ex->∃sl,h'.get? b=yz QlE
 free:∀b o,h.get? b=yz o->H b=yy->b ∉ ex->H' b=yy
 there:∀b o,h.get? b=yz o->b ∉ ex->∃o',h'.get? b=yz o'
 tups:∀b xs,H b=yz Q21->H' b=yz Q21
 frzs:∀b o u,H b=yz QT1->H' b=yz QT1
 tbls:∀b ps,H b=yz QQM->H' b=yz QQM
section
variable{fs ex:LR}{H H1:Hp}{h h1 h':Heap}{a x e:Addr}{o:HO}
def Un.any(u:Un fs ex H H1 h h1){b:Addr}{ob:Obj}(q:h.get? b=yz ob)(n:H b=yy)(B:b ∉ ex):∃sl,h1.get? b=yz {ob with slots:=sl}:=by
 by_cases L:b∈fs;·exact u.slot b ob q n L B
 ·calc⟨ob.slots,u.keep b ob q n L B⟩
def Un.kept(k:∀b u,h.get? b=yz u->h'.get? b=yz u):Un fs ex H H h h':=
 ⟨λb ob q _ _ _=>k b ob q,λb ob q _ _ _=>⟨ob.slots,k b ob q⟩,λ_ _ _ n _=>n,λb ob q _=>⟨ob,k b ob q⟩,λ_ _ q=>q,λ_ _ _ q=>q,λ_ _ q=>q⟩
def Un.refl:Un fs ex H H h h:=Un.kept λ_ _ q=>q
def Un.laid(k:∀b u,h.get? b=yz u->h'.get? b=yz u)(hp:h.objs.size<=a)(B:H a=yy):Un fs ex H Qo5 h h' where
 keep:=λb u q _ _ _=>k b u q
 slot:=λb u q _ _ _=>⟨u.slots,k b u q⟩
 free:=λb u q n _=>by rw[Xe (Ul (Uk Qdh hp))];exact n
 there:=λb u q _=>⟨u,k b u q⟩
 tups:=λb xs q=>by rw[Xe QNK];exact q
 frzs:=λb u xs q=>by rw[Xe QNK];exact q
 tbls:=λb ps q=>by rw[Xe QNK];calc q
def Un.write(L:Mut Qwg)(he:e=x\/H e=yz QPP)(k:∀b u,b≠e->h.get? b=yz u->h'.get? b=yz u)(aa:∃u,h'.get? e=yz u):Un fs ex H QkN h h':=by
 let hx:∀b,H b=yy->b≠x:=λb n z=>by subst z;rw[n]at L;exact L
 let hb:∀b,H b=yy->b≠e:=λb n z=>by
  subst z;rcases he with r|r;·exact hx b n r
  ·rw[n]at r;cases r
 let hm:∀b u,H b=yz u->¬ Mut QEh->b≠x:=λb u q nm z=>by subst z;rw[q]at L;exact nm L
 exact⟨λb u q n _ _=>k b u Q6e q,λb u q n _ _=>⟨u.slots,k b u Q6e q⟩,λb u q n _=>by rw[Xe (hx b n)];exact n,λb u q _=>?_,
  λb xs q=>by rw[Xe Q2F];calc q,λb u xs q=>by rw[Xe Q2F];calc q,λb ps q=>by rw[Xe Q2F];calc q⟩
 by_cases B:b=e;·subst B;exact aa
 ·calc⟨u,k b u B q⟩
universe e
abbrev trk(h:Heap)(H:Hp):LR:=(Vv h.objs.size).filter λa=>(H a).isSome
abbrev Xfv(h:Heap)(H:Hp):Heap:=Vcz h QMS
def Xwp(h:Heap)(H:Hp):(Xfv h H).objs.size=h.objs.size:=PySem.W.hideAll_size _ _
def X0a{h:Heap}{H:Hp}{b:Addr}{o:Obj}(e:h.get? b=yz o)(n:H b=yy):Q3M.get? b=yz o:=
 Ve0 _ e λB=>by let q:(H b).isSome=true:=Q4d.2;rw[n]at q;simp! at q
def X4h{h:Heap}{H:Hp}{b:Addr}{o:Obj}(e:Q3M.get? b=yz o):h.get? b=yz o/\H b=none:=by
 let B:h.get? b=yz o:=Vgh QMS e;calc Q3S;cases q:H b with
 |none=>rfl|some x=>let L:b∈trk h H:=Ui.mpr ⟨Va1.mpr Qeh,by simp![q]⟩;let z:Q3M.get? b=none:=Vcf QMS L;rw[z]at e;cases e
universe L2
namespace L2
open PySem PySem.Spec PyProof.Rows
structure Mod(K:Vh)(mg:Str->OV)(base:Heap):Prop where
 kin:K.In base
 glob:base.Ns Up mg
 blt:∃mb,base.Ns Vgw mb/\∀x:Str,x ≠ "__name__" -> mb x=Vew x
 nolimit:base.NoLimit
structure Cx where
 prog:V3
 w:Ua
 K:Vh
 mg:Str->OV
 base:Heap
 A:Uz
 N:LS
 s₀:Vc
 H₀:Hp
 env:Env
 outer:List Env
 stack:List Env
 ex:LR
 fn:Str->Bool
 calm:Bool
 pn:LA
 xe:VP
abbrev frs(l:List Env):LR:=l.filterMap (·.frame)
private noncomputable abbrev Cx.fs(X:Cx):LR:=frs X.outer
theorem Vis(sc:Vaj)(x:Str):Prop:=sc.names.lookup x=yz .local\/sc.names.lookup x=yz .cell\/sc.names.lookup x=yz .free
theorem Loc(sc:Vaj)(x:Str):Prop:=sc.names.lookup x=yz .local\/sc.names.lookup x=yz .cell
theorem Yfn(env:Env)(h:Heap)(m:Str->OV)(x:Str)(u:Vb):Prop:=
 (env.kindOf x=yz .local/\m x=yz u)\/((env.kindOf x=yz .cell\/env.kindOf x=yz .free)/\∃c,env.cells.lookup x=yz c/\h.IsCell c QEh)
structure Cx.Ok(X:Cx):Prop where
 mod:Mod X.K X.mg X.base
 kind:X.env.scope.kind=.function
 glob:X.env.globals=Up
 blt:X.env.builtins=Vgw
 above:X.s₀.heap.objs.size<=X.env.locals
 inj:∀x y c,X.env.cells.lookup x=yz c->X.env.cells.lookup y=yz c->x=y
 has:∀x,(X.env.kindOf x=yz .cell\/X.env.kindOf x=yz .free)->∃c,X.env.cells.lookup x=yz c
 cab:∀x c,X.fn x=yx->X.env.cells.lookup x=yz c->X.s₀.heap.objs.size<=c
 hd:X.calm=yx->X.A.handled=yy
 frames:X.A.frames=yz X.stack
 stk:X.stack=X.outer\/(X.stack=X.env::X.outer/\X.env.frame=yz X.env.locals)
 exf:∀b∈X.ex,b≠X.env.locals/\∀x c,X.env.cells.lookup x=yz c->c≠b
 bs:∀b o,X.base.get? b=yz o->X.s₀.heap.get? b=yz o/\X.H₀ b=yy
 bsz:X.base.objs.size<=X.s₀.heap.objs.size
 noex:∀b o,X.base.get? b=yz o->b ∉ X.ex
 exfs:∀b∈X.ex,b ∉ X.fs
 funs:X.s₀.heap.FunFrames X.base X.outer
 frf:∀b∈X.fs,X.H₀ b=yy
structure Inv(X:Cx)(pc:LA)(σ:List QYQ)(H:Hp)(s:Vc):Prop where
 ok:X.Ok
 os:s.os=X.s₀.os
 bare:AllBare s.gens
 base:Un X.fs X.ex X.H₀ H X.s₀.heap s.heap
 loc:∃m,s.heap.Ns X.env.locals m/\∀(i:Nat) (x:Str) (v:V),X.N[i]?=yz x->σ[i]?=yz Q59->Vis X.env.scope x->∃u,RelV v u/\Yfn X.env s.heap m x u
 cell:∀x c,X.env.cells.lookup x=yz c->∃v,s.heap.IsCell c v
 free:H X.env.locals=yy
 freeC:∀x c,X.env.cells.lookup x=yz c->H c=yy
 pin:∀p∈X.pn++pc,s.heap.get? p.1=yz p.2/\H p.1=yy/\p.1≠X.env.locals/\p.1 ∉ X.fs/\∀v,p.2.data≠.cell v
 hok:HOk X.prog X.w H s.heap
 len:σ.length=X.N.length
section
variable{X:Cx}{pc:LA}{σ:List QYQ}{H H':Hp}{s:Vc}{h':Heap}
def Cx.Ok.nofr(ok:X.Ok){b:Addr}{o:Obj}(e:X.base.get? b=yz o):b ∉ X.fs:=λB=>by let:=(ok.funs.mem B).1;rw[e]at this;cases this
def Inv.bs(I:Inv X pc σ H s):∀b o,X.base.get? b=yz o->s.heap.get? b=yz o/\H b=none:=λb o e=>⟨I.base.keep b o QmB.1 QmB.2 (I.ok.nofr e) QbQ,I.base.free b o QmB.1 QmB.2 QbQ⟩
def Inv.bk(I:Inv X pc σ H s):∀b o,X.base.get? b=yz o->s.heap.get? b=yz o:=λb o e=>(I.bs b o e).1
def Inv.mod(I:Inv X pc σ H s):Mod X.K X.mg X.base:=I.ok.mod
def Inv.kIn(I:Inv X pc σ H s):X.K.In s.heap:=I.ok.mod.kin.keeps I.bk
def Inv.lt(I:Inv X pc σ H s):X.env.locals<s.heap.objs.size:=let ⟨_,hn,_⟩:=I.loc;hn.lt
def Inv.sz(I:Inv X pc σ H s):X.s₀.heap.objs.size<=s.heap.objs.size:=V5 I.ok.above (Vc4 I.lt)
def Inv.nofs(I:Inv X pc σ H s){a:Addr}(h:s.heap.objs.size<=a):a ∉ X.fs:=λL=>by let⟨_,o,B,_⟩:=I.ok.funs.mem L;calc aB0 (Uk Qeh (V5 I.sz h)) QfH
def Inv.cne(I:Inv X pc σ H s):∀x c,X.env.cells.lookup x=yz c->c≠X.env.locals:=λx c e z=>by let⟨v,o,ho,hd⟩:=I.cell x c e;let⟨m,⟨o',es,ep,L,B,_⟩,_⟩:=I.loc;rw[z,L]at ho;cases ho;rw[B]at hd;cases hd
def Inv.funs(I:Inv X pc σ H s):s.heap.FunFrames X.base X.outer:=by
 let all:∀(l:List Env),(∀b∈frs l,b∈X.fs)->X.s₀.heap.FunFrames X.base l->s.heap.FunFrames X.base l:=by
  intro l;induction l with
  |nil=>intro _ _;trivial|cons env r ih=>intro hs hl;let⟨hk,⟨L,o,B,hn,ho,hd⟩,hr⟩:=hl;let hL:L∈X.fs:=hs L (by unfold frs;rw[U5,B];calc V6);let⟨sl,e⟩:=I.base.slot L o ho (I.ok.frf L hL) hL λz=>I.ok.exfs L z hL;exact⟨hk,⟨L,_,B,hn,e,hd⟩,ih (λb hb=>hs b (by unfold frs;rw[U5,B];calc V2 _ hb)) hr⟩
 calc all X.outer (λ_ hb=>hb) I.ok.funs
def Inv.stack(I:Inv X pc σ H s):s.heap.FunFrames X.base X.stack:=by
 rcases I.ok.stk with e|⟨e,B⟩;·rw[e];exact I.funs
 ·rw[e];let⟨m,L,_⟩:=I.loc;calc .cons (by rw[I.ok.kind];decide) B L ?_ I.funs;calc Heap.get?_none_of_le (V5 I.ok.bsz I.ok.above)
def Inv.stkSub(I:Inv X pc σ H s):∀b∈frs X.stack,b∈X.env.locals::X.fs:=λb B=>by
 rcases I.ok.stk with e|⟨e,L⟩;·rw[e]at B;exact V2 _ B
 ·rw[e]at B;unfold frs at B;rw[U5,L]at B;calc B
def Inv.stkFree(I:Inv X pc σ H s):∀b∈frs X.stack,H b=none:=λb B=>by
 rcases Vr.mp (I.stkSub b B) with e|B;·rw[e];exact I.free
 ·let⟨_,o,L,_⟩:=I.ok.funs.mem B;calc I.base.free b o L (I.ok.frf b B) λz=>I.ok.exfs b z B
def Inv.step{g':Array GenState}{t':Nat}{d':Drawn}{ch:LR}(I:Inv X pc σ H s)
  (ab:∀b∈ch,Q03/\b≠X.env.locals/\QI2/\∀p∈X.pn++pc,p.1≠b)
  (keep:∀b o,b≠X.env.locals->b ∉ X.fs->b ∉ ch->s.heap.get? b=yz o->H b=yy->h'.get? b=yz o)
  (slot:∀b o,b≠X.env.locals->b∈X.fs->b ∉ ch->s.heap.get? b=yz o->H b=yy->∃sl,h'.get? b=yz QlE) (free:∀b o,b ∉ ch->s.heap.get? b=yz o->H b=yy->H' b=yy)
  (there:∀b o,b ∉ ch->s.heap.get? b=yz o->∃o',h'.get? b=yz o')
  (tups:∀b xs,H b=yz Q21->H' b=yz Q21) (frzs:∀b o u,H b=yz QT1->H' b=yz QT1) (tbls:∀b ps,H b=yz QQM->H' b=yz QQM)
  (ns:∀m,s.heap.Ns X.env.locals m->h'.Ns X.env.locals m) (hok:HOk X.prog X.w H' h') (hg:AllBare g'):
  Inv X pc σ H' Q9A:=by
 let ae:∀b o,X.s₀.heap.get? b=yz o->b≠X.env.locals:=λb o e=>Ul QJ2;let ac:∀b o,X.s₀.heap.get? b=yz o->b ∉ X.ex->b ∉ ch:=λb o e B hb=>by
  rcases (ab b hb).1 with z|z;·exact B z
  ·exact aB0 (Uk QgF z) QfH
 let L:∀x c,X.env.cells.lookup x=yz c->∀v,s.heap.IsCell c v->h'.IsCell c v:=λx c e v QRY=>by
  let aa:c ∉ ch:=λz=>QEe.2.2.1 x c e rfl;by_cases hc:c∈X.fs;·let⟨sl,q⟩:=slot c o QbK hc aa ho QnH;exact QLa
  ·exact⟨o,keep c o QbK hc aa ho QnH,hd⟩
 calc⟨I.ok,I.os,hg,⟨λb o e n hb B=>?_,λb o e n hb B=>?_,λb o e n B=>?_,λb o e B=>?_,λb xs e=>tups b xs (I.base.tups b xs e),λb o xs e=>frzs b o xs (I.base.frzs b o xs e),λb ps e=>tbls b ps (I.base.tbls b ps e)⟩,?_,λx c e=>?_,?_,λx c e=>?_,λp hp=>?_,hok,I.len⟩;·exact keep b o Qoa hb QfF (I.base.keep b o e n hb B) QiA
 ·let⟨sl,e1⟩:=I.base.slot b o e n hb B;let⟨af,e2⟩:=slot b _ Qoa hb QfF e1 QiA;exact⟨af,e2⟩
 ·let⟨o',e1⟩:=I.base.there b o e B;exact free b o' QfF e1 QiA
 ·let⟨o',e1⟩:=I.base.there b o e B;exact there b o' QfF e1
 ·let⟨m,hn,hl⟩:=I.loc;calc⟨m,ns m hn,λi x v e1 e2 e3=>?_⟩;let⟨u,r,l⟩:=hl i x v e1 e2 e3;calc QKa;rcases l with l|⟨k,c,e,z⟩;·exact .inl l
  ·exact .inr ⟨k,c,e,L x c e _ z⟩
 ·let⟨v,z⟩:=I.cell x c e;exact QeP
 ·let⟨m,⟨o,_,_,ho,_⟩,_⟩:=I.loc;exact free _ o (λz=>(ab _ z).2.1 rfl) ho I.free
 ·let⟨v,o,ho,hd⟩:=I.cell x c e;exact free c o (λz=>QEe.2.2.1 x c e rfl) ho QnH
 ·let⟨e,n,ne,nf,d⟩:=I.pin p hp;let aa:p.1 ∉ ch:=λz=>(ab p.1 z).2.2.2 p hp rfl;calc⟨keep p.1 p.2 ne nf aa e n,free p.1 p.2 aa e n,ne,nf,d⟩
def Inv.un{t':Nat}(I:Inv X pc σ H s)(u:Un X.fs [] H H' s.heap h')(hok:HOk X.prog X.w H' h'):Inv X pc σ H' Q62:=by let⟨m,⟨o,es,ep,ho,r⟩,_⟩:=id I.loc;let⟨sl,hL⟩:=u.any ho I.free QA;calc I.step (g':=s.gens) (d':=s.drawn) (ch:=[]) (λ_ z=>nomatch z) (λb o _ hb _ e n=>u.keep b o e n hb QA) (λb o _ hb _ e n=>u.slot b o e n hb QA) (λb o _ e n=>u.free b o e n QA) (λb o _ e=>u.there b o e QA) u.tups u.frzs u.tbls (λm' hm=>by let⟨o',L,aa,B,r'⟩:=hm;rw[ho]at B;cases B;calc⟨_,L,aa,hL,r'⟩) hok I.bare
def Inv.call{g':Array GenState}{t':Nat}{d':Drawn}{ch:LR}(I:Inv X pc σ H s)(u:Un QnV ch H H' s.heap h')(hok:HOk X.prog X.w H' h')(hg:AllBare g')
  (aa:∀b∈ch,Q03/\b≠X.env.locals/\QI2/\∀p∈X.pn++pc,p.1≠b):
  Inv X pc σ H' Q9A:=by
 let⟨m,⟨o,es,ep,ho,r⟩,_⟩:=id I.loc;let⟨sl,hL⟩:=u.any ho I.free λz=>(aa _ z).2.1 rfl;calc I.step (ch:=ch) aa (λb o hL hb B e n=>u.keep b o e n (λz=>(Vr.mp (I.stkSub b z)).elim hL hb) B) (λb o _ _ B e n=>u.any e n B) (λb o B e n=>u.free b o e n B) (λb o B e=>u.there b o e B) u.tups u.frzs u.tbls (λm' hm=>by let⟨o',ab,ac,L,r'⟩:=hm;rw[ho]at L;cases L;calc⟨_,ab,ac,hL,r'⟩) hok hg
def Inv.turned{t':Nat}{it:Addr}(I:Inv X pc σ H s)(k:∀b o,b≠it->s.heap.get? b=yz o->h'.get? b=yz o)(hn:H it=yy)(hL:it≠X.env.locals)
  (h1:it∈X.ex\/X.s₀.heap.objs.size<=it) (h2:∀x c,X.env.cells.lookup x=yz c->c≠it) (h3:∀p∈X.pn++pc,p.1≠it):Inv X pc σ H Q62:=by
 let L:∀b u,H b=yz u->b≠it:=λb u e z=>by rw[z,hn]at e;cases e
 exact I.step (g':=s.gens) (d':=s.drawn) (ch:=[it]) QXL (λb o _ _ B e _=>k b o Qx6 e) (λb o _ _ B e _=>⟨o.slots,k b o Qx6 e⟩) QHR
  (λb o B e=>⟨o,k b o Qx6 e⟩) QTF Q3U QTF QLX QHV I.bare
 ·let e:b=it:=by simpa using hb
  subst e;exact⟨h1,hL,h2,h3⟩
 ·let⟨o,es,ep,ho,r⟩:=hm;exact⟨o,es,ep,k _ o (Ne.symm hL) ho,r⟩
 ·exact QYW.stay Q0K QRJ λ_ _ _ q=>q;rcases B with z|z;·rw[z];exact L b u e
  ·calc L c _ z
def Inv.tok(I:Inv X pc σ H s)(t:Nat):Inv X pc σ H {s with toks:=t}:=I.un (h':=s.heap) (t':=t) Un.refl I.hok
def Inv.kept{t':Nat}(I:Inv X pc σ H s)(k:∀b u,s.heap.get? b=yz u->h'.get? b=yz u):Inv X pc σ H Q62:=I.un (Un.kept k) (I.hok.kept k)
def Inv.laid{a:Addr}{o:HO}{t':Nat}(I:Inv X pc σ H s)(k:∀b u,s.heap.get? b=yz u->h'.get? b=yz u)(hp:s.heap.objs.size<=a)(new:ObjOk X.prog X.w Qo5 h' a o):
  Inv X pc σ Qo5 Q62:=I.un (Un.laid k hp (I.hok.fresh hp)) (I.hok.laid k hp new)
def Inv.write{x e:Addr}{o:HO}{t':Nat}(I:Inv X pc σ H s)(mu:Mut Qwg)(L:e=x\/H e=yz QPP)(k:∀b u,b≠e->s.heap.get? b=yz u->h'.get? b=yz u)(B:∃u,h'.get? e=yz u)
  (new:ObjOk X.prog X.w QkN h' x o):Inv X pc σ QkN Q62:=I.un (Un.write mu L k B) (I.hok.write mu L k B new)
def Inv.pins_of{B:LA}(I:Inv X pc σ H s)(h:∀p∈B,s.heap.get? p.1=yz p.2/\H p.1=yy/\p.1≠X.env.locals/\p.1 ∉ X.fs/\∀v,p.2.data≠.cell v):Inv X B σ H s:=
 ⟨I.ok,I.os,I.bare,I.base,I.loc,I.cell,I.free,I.freeC,λp L=>QUT.elim (λz=>I.pin p Q1d) (h p),I.hok,I.len⟩
def Xod{N:LS}(hN:N.Nodup){i j:Nat}{x:Str}(a:N[i]?=yz x)(b:N[j]?=yz x):i=j:=by let⟨h1,e1⟩:=Vk.mp a;let⟨h2,e2⟩:=Vk.mp b;calc(List.getElem_inj hN).mp (e1.trans e2.symm)
def Xmz{M:Model}{A:Uz}{E:VP}{i:Nat}{x:Str}{v:V}{u:Vb}{Q:Unit->Vc->Prop}(I:Inv X pc σ H s)(hN:X.N.Nodup)(hi:X.N[i]?=yz x)(hx:Loc X.env.scope x)(r:RelV v u)
  (h:∀s',Inv X pc QXC H s'->(∃a,Vab a s.heap s'.heap/\(a=X.env.locals\/X.env.cells.lookup x=yz a))->Q () s') (hf:X.fn x=yx\/X.env.scope.names.lookup x=yz .local:=by first|calc .inl rfl|calc .inr rfl|assumption):Vg M A QaL Q E s:=by
 let⟨m,hn,hl⟩:=id I.loc;let ag:(X.env.scope.kind == .class||(X.env.scope.kind == .module&&X.env.locals != X.env.globals))=false:=by rw[I.ok.kind];rfl
 let ab:i < σ.length:=by rw[I.len];exact Q1b.1
 let cne:=I.cne;let B:∀ {a:Addr} {h':Heap},(∃o,s.heap.get? a=yz o/\H a=yy)->Vab a s.heap h'->HOk X.prog X.w H h':=λ{a h'} ha hs b ob e=>by
  let⟨_,_,aa⟩:=ha;exact(I.hok b ob e).stay (λc w' L q=>(hs.2 c ?_).trans q) QRJ λ_ _ _ q=>q;rintro rfl;rcases L with rfl|L;·rw[aa]at e;cases e
  ·rw[aa]at L;cases L
 rcases hx with hk|hk
 ·calc wpAny_storeName_local hk hn (λh' ak hs=>?_) ag;let⟨oL,_,_,aj,_⟩:=id hn;calc h _ ⟨I.ok,I.os,I.bare,Qm2,⟨_,ak,λj y v' e1 e2 e3=>?_⟩,λy c e=>?_,I.free,I.freeC,λp hp=>?_,B ⟨oL,aj,I.free⟩ hs,by simpa using I.len⟩ ⟨_,hs,.inl rfl⟩;·exact Q1F.trans QX8
  ·let⟨sl,e1⟩:=I.base.slot b o e n hb hx;exact⟨sl,Q1F.trans e1⟩
  ·let⟨o',e1⟩:=I.base.there b o e hx;exact⟨o',Q1F.trans e1⟩
  ·by_cases hj:j=i;·subst hj;rw[hi]at e1;cases e1;rw[Vap ab]at e2;cases e2;exact⟨u,r,.inl ⟨hk,by simp!⟩⟩
   ·rw[Vay Q9Y]at e2;let⟨u',r',q⟩:=hl j y v' e1 e2 e3;calc QBX;rcases q with⟨k,e⟩|⟨k,c,e,z⟩;·calc .inl Qhd;let:y≠x:=λe=>hj (Xod hN e1 (e▸hi));simp![this,e]
    ·exact .inr ⟨k,c,e,z.sameBut hs QIZ⟩
  ·let⟨w',z⟩:=I.cell y c e;exact⟨w',z.sameBut hs QIZ⟩
  let⟨e,n,ne,nf,d⟩:=I.pin p hp;exact⟨(hs.2 p.1 ne).trans e,n,ne,nf,d⟩
 ·let ac:X.fn x=true:=by
   rcases hf with z|z;·exact z
   ·rw[z]at hk;cases hk
  let⟨c,L⟩:=I.ok.has x (.inl hk);let⟨w',z⟩:=I.cell x c L;calc wpAny_storeName_cell I.ok.kind hk L z (λh' af hs=>?_);let⟨oc,ae,ah⟩:=id z;calc h QO ⟨I.ok,I.os,I.bare,Qm2,⟨m,hn.sameBut hs (Ne.symm (cne x c L)),λj y v' e1 e2 e3=>?_⟩,λy c' e=>?_,I.free,I.freeC,λp hp=>?_,B ⟨oc,ae,I.freeC x c L⟩ hs,by simpa using I.len⟩ ⟨c,hs,.inr L⟩;·exact Qu3.trans QX8
  ·let⟨sl,e1⟩:=I.base.slot b o e n hb hx;exact⟨sl,Qu3.trans e1⟩
  ·let⟨o',e1⟩:=I.base.there b o e hx;exact⟨o',Qu3.trans e1⟩
  ·by_cases hj:j=i;·subst hj;rw[hi]at e1;cases e1;rw[Vap ab]at e2;cases e2;exact⟨u,r,.inr ⟨.inl hk,c,L,af⟩⟩
   ·rw[Vay Q9Y]at e2;let⟨u',r',q⟩:=hl j y v' e1 e2 e3;calc QBX;rcases q with q|⟨k,c',e,z'⟩;·exact .inl q
    ·calc .inr ⟨k,c',e,z'.sameBut hs ?_⟩;rintro rfl;exact hj (Xod hN e1 (I.ok.inj _ _ _ e L▸hi))
  ·by_cases ai:c'=c;·subst ai;exact⟨_,af⟩
   ·let⟨w2,z2⟩:=I.cell y c' e;exact⟨w2,z2.sameBut hs ai⟩
  let⟨e,n,ne,nf,d⟩:=I.pin p hp;calc⟨(hs.2 p.1 ?_).trans e,n,ne,nf,d⟩;intro q;rw[q,ae]at e;let q':oc=p.2:=Ur e;calc d w' (by rw[<-q'];calc ah)
def Xcj{M:Model}{A:Uz}{E:VP}{i:Nat}{x:Str}{v:V}{u:Vb}{Q:Unit->Vc->Prop}(I:Inv X pc σ H s)(hN:X.N.Nodup)(hi:X.N[i]?=yz x)(B:Loc X.env.scope x)(r:RelV v u)
  (h:∀s',Inv X pc QXC H s'->Q () s') (hf:X.fn x=yx\/X.env.scope.names.lookup x=yz .local:=by first|calc .inl rfl|calc .inr rfl|assumption):Vg M A QaL Q E s:=
 Xmz I hN hi B r (λs' L _=>h s' L) hf
def Inv.call'{s':Vc}{ch:LR}(I:Inv X pc σ H s)(ho:s'.os=s.os)(u:Un QnV ch H H' s.heap s'.heap)(hok:HOk X.prog X.w H' s'.heap)(hg:AllBare s'.gens)
  (B:∀b∈ch,Q03/\b≠X.env.locals/\QI2/\∀p∈X.pn++pc,p.1≠b):Inv X pc σ H' s':=by
 let⟨h',L,d',t',o'⟩:=s';let e:o'=s.os:=ho;subst e;calc I.call (g':=L) (t':=t') (d':=d') u hok hg B
universe e
private abbrev XK:=Vb->Option Addr->Hp->Prop
private noncomputable abbrev St:=List QYQ
private abbrev VK:=V->Hp->Prop
private abbrev TE:=St->Hp->VK->Prop
theorem EP(X:Cx)(pc:LA)(σ:St)(Q:VK)(u:Vb)(s':Vc):Prop:=∃v H',Inv X pc σ H' s'/\RelV v u/\Q v H'
theorem TP(X:Cx)(pc:LA)(σ:St)(Q:Bool->Hp->Prop)(b:Bool)(s':Vc):Prop:=∃H',Inv X pc σ H' s'/\Q b H'
theorem PE(X:Cx)(e:Expr)(t:TE):Prop:=
 ∀(pc:LA) (s:Vc) (σ:St) (H:Hp) (Q:VK),Inv X pc σ H s->t σ H Q->Vg Q3 X.A Qf3 QS9 X.xe s
def thn{α:Type}{t:Sem α}{Q Q':α->Vc->Prop}{M:Model}{A:Uz}{E:VP}{s:Vc}(h:Vg M A t Q E s)(B:∀a s,Q a s->Q' a s):Vg M A t Q' E s:=Vp h B λ_ _ x=>x
universe L2
namespace L2
open PySem PySem.Spec PyProof.Rows
section
variable{X:Cx}
def bin{a b:Expr}{ta tb:TE}(L:PE X a ta)(hb:PE X b tb){pc:LA}{s:Vc}{σ:St}{H:Hp}{R:V->V->Hp->Prop}(I:Inv X pc σ H s)(h:ta σ H λx H1=>tb σ H1 λy H2=>R x y H2)
  {α:Type} {Q:α->Vc->Prop} {f:Vb->Vb->Sem α}
  (B:∀v u s2 x y H2,Inv X pc σ H2 s2->RelV x v->RelV y u->R x y H2->Vg Q3 X.A QpS Q X.xe s2):
  Vg Q3 X.A QcC (λv s₁=>Vg Q3 X.A QbC (λu s₂=>Vg Q3 X.A QpS Q X.xe s₂) X.xe s₁) X.xe s:=by
 calc thn (L pc s σ H _ I h) λv s1 ⟨x,H1,I1,r1,q1⟩=>?_;calc thn (hb pc s1 σ H1 _ I1 q1) λu s2 ⟨y,H2,I2,r2,q2⟩=>?_;calc B v u s2 x y H2 I2 r1 r2 q2
abbrev Yfo(i:Nat):TE:=fun σ H Q=>∃v,σ[i]?=yz Q59/\Q v H
abbrev tC(v:V):TE:=λ_ H Q=>Q v H
def X71 {i:Nat} {x:Str} {pos:Pos} (hN:X.N[i]?=yz x) (hv:Vis X.env.scope x) (hd:Q50=false:=by decide) (L:Qe4=false:=by decide):PE X Q28 (Yfo i):=by
 intro pc s σ H Q I h;let⟨v,e,h⟩:=h;let⟨m,hn,hl⟩:=I.loc;let⟨u,r,l⟩:=hl i x v hN e hv;let fin:EP X pc σ Q u s:=⟨v,H,I,r,h⟩;rcases l with⟨B,hm⟩|⟨B,c,hc,hcell⟩;·exact wpAny_Name (wpAny_loadName_local I.ok.kind B hn hm fin) hd
 ·rcases B with B|B;·exact wpAny_Name (wpAny_loadName_cell I.ok.kind B hc hcell fin) hd
  ·calc wpAny_Name (wpAny_loadName_free I.ok.kind B hc hcell fin L) hd
def X72{i j pos}:PE X QmM (tC Q61):=λ_ _ _ H _ I h=>wpAny_Constant_int ⟨.int i,H,I.tok _,Qe,h⟩
def Ydp{b j pos}:PE X (.Constant QiM j pos) (tC QMF):=λ_ _ _ H _ I h=>Constant_bool ⟨.bl b,H,I,rfl,h⟩
def X73{j pos}:PE X QqK (tC .non):=λ_ _ _ H _ I h=>Constant_none ⟨.non,H,I,rfl,h⟩
def X74{x j pos}:PE X (.Constant QNP j pos) (tC QNP):=λ_ _ _ H _ I h=>Calls.Constant_str ⟨.str x,H,I.tok _,Qe,h⟩
theorem Gl(X:Cx)(x:Str):Prop:=X.env.kindOf x=yz .globalImplicit
def Xe7{E:VP}{pc:LA}{s:Vc}{σ:St}{H:Hp}{x:Str}{u:Vb}{pos:Pos}{Q:VP}(I:Inv X pc σ H s)(hg:Gl X x)(B:X.mg x=yz u)(h:Q u s)
  (hd:Q50=false:=by decide):Vg Q3 X.A QRR Q E s:=
 Vjd I.ok.kind hg (Calls.loadGlobal_global QbA B h) hd
def Ye{E:VP}{pc:LA}{s:Vc}{σ:St}{H:Hp}{x:Str}{u:Vb}{pos:Pos}{Q:VP}(I:Inv X pc σ H s)(hg:Gl X x)(B:X.mg x=yy)(hv:Vew x=yz u)(h:Q u s)
  (L:x ≠ "__name__":=by decide) (hd:Q50=false:=by decide):Vg Q3 X.A QRR Q E s:=by
 let⟨mb,h1,h2⟩:=I.mod.blt;calc Vjd I.ok.kind hg (Calls.loadGlobal_builtin QbA B (by rw[I.ok.blt];calc h1.keeps I.bk) ((h2 x L).trans hv) h) hd
universe e
universe L2
namespace L2
open PySem PySem.Spec PyProof.Rows
theorem SqL(K:Vh)(H:Hp)(a:Addr)(xs:LW):Prop:=
 Rd H a QD1 \/
  ∃(o:Obj) (its:AV) (n:Nat),K.lookup a=yz o/\o.cls=.type "list" /\ o.dict=yy/\o.data=.seq its n/\its.size<=V8/\Vals xs its.toList
theorem SqT(K:Vh)(H:Hp)(a:Addr)(xs:LW):Prop:=
 Rd H a Q21 \/
  ∃(o:Obj) (its:AV) (n:Nat),K.lookup a=yz o/\o.cls=.type "tuple" /\ o.data=.seq its n/\its.size<=V8/\Vals xs its.toList
abbrev Yfp:Vb->Option V
 |.none=>yz .non|.bool b=>yz QMF|.int i _=>yz Q61|.str x _=>yz QNP|.bytes b _=>yz (.byt b)|.float b _=>yz (.flt b)|.ref a=>yz Qt|.type n=>yz (.ty n)|_=>yy
def RelV.abs{x:V}{u:Vb}(r:RelV x u):Yfp u=yz x:=by
 cases x with
 |non=>cases r;rfl|bl _=>cases r;rfl|int _=>let⟨t,rfl⟩:=r;rfl|str _=>let⟨t,rfl⟩:=r;rfl|byt _=>let⟨t,rfl⟩:=r;rfl|flt _=>let⟨t,rfl⟩:=r;rfl|ref _=>cases r;rfl|ty _=>cases r;rfl
def RelV.inj{x y:V}{u:Vb}(r:RelV x u)(q:RelV y u):x=y:=Ur (r.abs.symm.trans q.abs)
def Vals.inj:∀ {xs ys:LW} {us:LV},Vals xs us->Vals ys us->xs=ys
 |_,_,_,.nil,.nil=>rfl|_,_,_,.cons r t,.cons r' t'=>by rw[r.inj r',Vals.inj t t']
section
variable{X:Cx}{pc:LA}{σ:St}{H:Hp}{s:Vc}{a:Addr}{xs ys:LW}
def SqL.of{K:Vh}(h:H a=yz QD1):SqL K H a xs:=.inl QkK
def SqT.of{K:Vh}(h:H a=yz Q21):SqT K H a xs:=.inl QkK
def Inv.list(I:Inv X pc σ H s)(h:SqL X.K H a xs):∃its:LV,Vals xs its/\PlainL s.heap a its.toArray/\QL<=V8:=by
 rcases h with h|⟨o,its,n,B,L,hd,hs,hz,r⟩;·let⟨z,its,n,r,e⟩:=h.ok I.hok;exact⟨its,r,⟨_,n,e,rfl,rfl,rfl⟩,z⟩
 ·calc⟨its.toList,r,⟨o,n,I.kIn a o B,L,hd,by simpa using hs⟩,?_⟩;let e:=r.length;simp[V1]at e;omega
def Inv.tuple(I:Inv X pc σ H s)(h:SqT X.K H a xs):∃its:LV,Vals xs its/\Vd5 s.heap a its.toArray/\QL<=V8:=by
 rcases h with h|⟨o,its,n,B,L,hs,hz,r⟩;·let⟨z,its,r,p⟩:=h.ok I.hok;exact⟨its,r,p,z⟩
 ·calc⟨its.toList,r,⟨o,I.kIn a o B,L,n,by simpa using hs⟩,?_⟩;let e:=r.length;simp[V1]at e;omega
def Inv.list_inj(I:Inv X pc σ H s)(h:SqL X.K H a xs)(h':SqL X.K H a ys):xs=ys:=by
 let⟨its,r,⟨o,n,e,_,_,d⟩,_⟩:=I.list h;let⟨B,r',⟨o',n',L,_,_,d'⟩,_⟩:=I.list h';rw[e]at L;cases L;rw[d]at d';injection d' with d1 _;let:its=B:=by simpa using congrArg Array.toList d1
 subst this;calc r.inj r'
def Inv.tuple_inj(I:Inv X pc σ H s)(h:SqT X.K H a xs)(h':SqT X.K H a ys):xs=ys:=by
 let⟨its,r,⟨o,e,_,n,d⟩,_⟩:=I.tuple h;let⟨B,r',⟨o',L,_,n',d'⟩,_⟩:=I.tuple h';rw[e]at L;cases L;rw[d]at d';injection d' with d1 _;let:its=B:=by simpa using congrArg Array.toList d1
 subst this;calc r.inj r'
universe e
private noncomputable abbrev Cx.wish(X:Cx)(E:VP):Cx:={ X with xe:=E}
def Cx.Ok.wish{X:Cx}(ok:X.Ok)(E:VP):QT4.Ok:=
 Qb1
def Cx.Ok.unwish{X:Cx}{E:VP}(ok:QT4.Ok):X.Ok:=
 Qb1
section
variable{X:Cx}{pc:LA}{σ:St}{H:Hp}{s:Vc}{E:VP}
def Inv.wish(I:Inv X pc σ H s)(E:VP):Inv QT4 pc σ H s:=⟨I.ok.wish E,I.os,I.bare,I.base,I.loc,I.cell,I.free,I.freeC,I.pin,I.hok,I.len⟩
def Inv.unwish(I:Inv QT4 pc σ H s):Inv X pc σ H s:=⟨I.ok.unwish,I.os,I.bare,I.base,I.loc,I.cell,I.free,I.freeC,I.pin,I.hok,I.len⟩
def Inv.quiet{pc:LA}{σ:St}{H:Hp}{s:Vc}(I:Inv X pc σ H s):interactive X.env=false:=by simp![interactive,I.ok.kind]
universe e
private abbrev TG:=V->St->Hp->QZU->Prop
private abbrev TGs:=LW->St->Hp->QZU->Prop
theorem PG(X:Cx)(B:Expr)(t:TG):Prop:=
 ∀(pc:LA) (s:Vc) (σ:St) (H:Hp) (v:V) (u:Vb) (Q:St->Hp->Prop),Inv X pc σ H s->RelV v u->t v σ H Q ->
  Vg Q3 X.A (assign B X.env u) (λ_ s'=>∃ L H',Inv X pc L H' s'/\Q L H') X.xe s
theorem PGs(X:Cx)(L:LX)(t:TGs):Prop:=
 ∀(pc:LA) (s:Vc) (σ:St) (H:Hp) (vs:LW) (us:LV) (Q:St->Hp->Prop),Inv X pc σ H s->Vals vs us->t vs σ H Q ->
  Vg Q3 X.A (assignInOrder ((Vb8 L X.env).map Qx1) us) (λ_ s'=>∃ B H',Inv X pc B H' s'/\Q B H') X.xe s
private abbrev Yfq:=V->V->V->Hp->QCb->Prop
theorem Yfr(X:Cx)(t:Yfq):Prop:=
 ∀(pc:LA) (s:Vc) (σ:St) (H:Hp) (o i v:V) (L B u:Vb) (Q:Hp->Prop),Inv X pc σ H s->RelV o L->RelV i B->RelV v u->t o i v H Q ->
  Vg Q3 X.A (setItem L B u) (λ_ s'=>∃H',Inv X pc σ H' s'/\Q H') X.xe s
section
variable{X:Cx}{pos:Pos}
abbrev X3b(i:Nat):TG:=λv σ H Q=>Q QXC H
def X4i{i:Nat}{x:Str}(hN:X.N.Nodup)(hi:X.N[i]?=yz x)(B:Loc X.env.scope x)(hf:X.fn x=yx\/X.env.scope.names.lookup x=yz .local:=by first|calc .inl rfl|calc .inr rfl|assumption):PG X Q28 Qcg:=by intro pc s σ H v u Q I r h;calc Vjh (Xcj I hN hi B r (λs' L=>⟨_,H,L,h⟩) hf)
abbrev X75:TGs:=λvs σ H Q=>vs=[]/\Q σ H
abbrev X3c(t:TG)(u:TGs):TGs:=λvs σ H Q=>∃v r,vs=v::r/\t v σ H λB H'=>u r B H' Q
def X4j:PGs X [] X75:=by intro pc s σ H vs us Q I r h;let⟨e,h⟩:=h;subst e;cases r;calc assignInOrder_nil ⟨σ,H,I,h⟩
def X0b{e:Expr}{es:LX}{t:TG}{u:TGs}(h1:PG X e t)(h2:PGs X es u)
  (hs:(Vb8 QA4 X.env).map Qx1=assign e X.env::Qi3.map Qx1:=by rfl):PGs X QA4 (X3c t u):=by
 intro pc s σ H vs us Q I r h;let⟨v,L,e1,h⟩:=h;subst e1;cases r with
 |cons r B=>rw[hs];calc Vi4 (thn (h1 pc s σ H _ _ _ I r h) λ_ s1 ⟨σ1,H1,I1,q1⟩=>?_);calc h2 pc s1 σ1 H1 _ _ Q I1 B q1
abbrev Yfs(K:Vh)(n:Nat)(t:TGs):TG:=λv σ H Q=>∃a xs,v=.ref a/\SqT K H a xs/\QL=n/\t xs σ H Q
def X76{es:LX}{k:Nat}{t:TGs}{n:Nat}(hc:X.calm=yx)(h:PGs X es t)
  (hn:Qi3.length=n:=by rfl) (L:Qi3.findIdx? Qb=none:=by rfl):PG X Q0R (Yfs X.K n t):=by
 intro pc s σ H v u Q I r B;let⟨a,xs,e1,hq,hl,B⟩:=B;subst e1;cases r;let⟨its,rv,ht,hz⟩:=I.tuple hq;calc assign_Tuple_tuple QlB ht (by simp![hn,<-hl,rv.length]) L λh' hx=>?_;let I1:Inv X pc σ H QO:=I.kept (t':=s.toks) λb o e=>hx b o QPW e;calc h pc _ σ H xs _ Q I1 (by simpa using rv) B
universe e
structure It where
 go:Nat->Hp->Prop
 yld:Nat->Hp->V->Hp->Prop
 stop:Nat->Hp->Prop
theorem Xbc(X:Cx)(pc:LA)(H:Hp)(b:Addr):Prop:=
 H b=yy/\b≠X.env.locals/\b ∉ X.fs/\Q03/\QI2/\∀p∈X.pn++pc,p.1≠b
def Inv.fpOk{X:Cx}{pc:LA}{σ:St}{H H':Hp}{s:Vc}{b:Addr}(I:Inv X pc σ H s)(B:s.heap.objs.size<=b)(L:H' b=yy):Xbc X pc H' b:=by
 calc⟨L,Vc5 (Uk I.lt B),I.nofs B,.inr (V5 I.sz B),λx c e z=>?_,λp hp z=>?_⟩;·let⟨v,q⟩:=I.cell x c e;exact aB0 (Uk q.lt QAG) QfH
 ·calc aB0 (Uk (Vz (I.pin p hp).1) QAG) QfH
structure Turn(P:V3)(w:Ua)(K:Vh)(tg:Expr)(J:It)(fp:LR)(it:Addr)(tn:Nat->Heap->Prop):Prop where
 mem:it∈fp
 obj:∀i h,tn i h->∀b∈fp,∃o,h.get? b=yz o/\∀v,o.data≠.cell v
 keep:∀i h h',tn i h->(∀b∈fp,∀o,h.get? b=yz o->h'.get? b=yz o)->tn i h'
 item:∀(X:Cx),X.prog=P->X.w=w->X.K=K->X.calm=yx->∀(i:Nat) (pc:LA) (s:Vc) (σ:St) (H:Hp) (E:VP),Inv X pc σ H s->QPJ->tn i s.heap->J.go i H ->
  Vg QeA X.A QCM (λr s1=>∃u,r=yz u /\
   Vg QeA X.A QTU (λ_ s2=>∃x H',Inv X pc σ H' s2/\RelV x u/\J.yld i H x H'/\tn QX2 s2.heap/\∀b∈fp,H' b=yy) E s1) E s
 done:∀(X:Cx),X.prog=P->X.w=w->X.K=K->X.calm=yx->∀(i:Nat) (pc:LA) (s:Vc) (σ:St) (H:Hp) (E:VP),Inv X pc σ H s->QPJ->tn i s.heap->J.stop i H ->
  Vg QeA X.A QCM (λr s1=>r=yy/\Inv X pc σ H s1) E s
 self:∀(A:Uz) (i:Nat) (s:Vc) (Q:VP) (E:VP),tn i s.heap->Q QN1 s->Vg QeA A (Vfl QN1) Q E s
theorem PIE(X:Cx)(pc:LA)(σ:St)(tg:Expr)(R:It->Hp->Prop)(B:Vb)(s2:Vc):Prop:=
 ∃(it:Addr) (fp:LR) (tn:Nat->Heap->Prop) (J:It) (H':Hp),B=.ref it/\Inv X pc σ H' s2/\Turn X.prog X.w X.K tg J fp it tn/\tn 0 s2.heap/\QfI/\R J H'
def Xug{M:Model}{A:Uz}{E:VP}{s:Vc}{tg:Expr}{it:Addr}{u:Vb}{o:Obj}{n:String}{vs:AV}{Q:Unit->Vc->Prop}(L:s.heap.get? it=yz o)(hc:o.cls=.type n)(hd:o.data=.fields vs)
  (hn:QW.contains n=yw) (B:Q () s):Vg M A QTU Q E s:=by
 unfold Vdg;cases tg<;>first
  |calc Vd B
  | (cases u<;>first
    |calc Vd B
    | (exact Va (Vfv L ?_)
       rw[hc,hd];show Vg M A (if (QW.contains n&&vs[0]?==yz (U0 _))=yx then _ else _) Q E s;rw[iN0 (by intro h;rw[hn,Vcg]at h;cases h)]
       calc Vd B))
abbrev Itl(K:Vh)(a:Addr):It:=
 ⟨λi H=>∃xs x,SqL K H a xs/\xs[i]?=yz x,λi H x H'=>H'=H/\∀xs,SqL K H a xs->xs[i]?=yz x,λi H=>∃xs,SqL K H a xs/\QL<=i⟩
abbrev Itt(K:Vh)(a:Addr):It:=
 ⟨λi H=>∃xs x,SqT K H a xs/\xs[i]?=yz x,λi H x H'=>H'=H/\∀xs,SqT K H a xs->xs[i]?=yz x,λi H=>∃xs,SqT K H a xs/\QL<=i⟩
abbrev Itr(lo:Int)(n:Nat):It:=⟨λi _=>i<n,λi H x H'=>H'=H/\x=.int QTh,λi _=>n<=i⟩
def Xm0{P:V3}{w:Ua}{K:Vh}{tg:Expr}(a it:Addr):Turn P w K tg QbT [it] it (λi h=>h.IsListIter it a i) where
 mem:=by simp!
 obj:=λi h st b B=>by
  let e:b=it:=by simpa using B
  subst e;let⟨o,e,c,d⟩:=st;exact QmC
 keep:=λi h h' st k=>st.at λo e=>k it QA o e
 item:=by intro X hP hw hK hc i pc s σ H E I hf st hg;subst hP hw hK;let⟨xs,x,hq,hx⟩:=hg;let⟨its,rv,p,hz⟩:=I.list hq;let⟨u,hu,ru⟩:=rv.get hx;let⟨f0,f1,f2,f3,f4,f5⟩:=hf it QA;exact wpAny_pyNext_list_item st p.isList (x:=u) Q0E λh' L sb=>?_;let I1:Inv X pc σ H QO:=I.turned (t':=s.toks) QtE f0 f1 f3 f4 f5;let⟨o,e,c,d⟩:=id L;exact⟨u,rfl,Xug (s:=QO) e c d Q1 ⟨x,H,I1,ru,⟨rfl,λys hy=>by rw[I.list_inj hy hq];calc hx⟩,L,λb B=>QjV.1⟩⟩
 done:=by intro X hP hw hK hc i pc s σ H E I hf st hg;subst hP hw hK;let⟨xs,hq,hx⟩:=hg;let⟨its,rv,p,hz⟩:=I.list hq;let⟨f0,f1,f2,f3,f4,f5⟩:=hf it QA;let hl:=rv.length;exact wpAny_pyNext_list_end QlB st p.isList QZ3 λh' eb=>Qg1
 self:=λ_ _ _ _ _ st h=>wpAny_pyIter_listiter st h
def Xuh{P:V3}{w:Ua}{K:Vh}{tg:Expr}(a it:Addr):Turn P w K tg QDd [it] it (λi h=>h.IsTupleIter it a i) where
 mem:=by simp!
 obj:=λi h st b B=>by
  let e:b=it:=by simpa using B
  subst e;let⟨o,e,c,d⟩:=st;exact QmC
 keep:=λi h h' st k=>st.at λo e=>k it QA o e
 item:=by intro X hP hw hK hc i pc s σ H E I hf st hg;subst hP hw hK;let⟨xs,x,hq,hx⟩:=hg;let⟨its,rv,p,hz⟩:=I.tuple hq;let⟨u,hu,ru⟩:=rv.get hx;let⟨f0,f1,f2,f3,f4,f5⟩:=hf it QA;exact wpAny_pyNext_tuple_item st (show s.heap.IsTuple a its.toArray from p) (x:=u) Q0E λh' L sb=>?_;let I1:Inv X pc σ H QO:=I.turned (t':=s.toks) QtE f0 f1 f3 f4 f5;let⟨o,e,c,d⟩:=id L;exact⟨u,rfl,Xug (s:=QO) e c d Q1 ⟨x,H,I1,ru,⟨rfl,λys hy=>by rw[I.tuple_inj hy hq];calc hx⟩,L,λb B=>QjV.1⟩⟩
 done:=by intro X hP hw hK hc i pc s σ H E I hf st hg;subst hP hw hK;let⟨xs,hq,hx⟩:=hg;let⟨its,rv,p,hz⟩:=I.tuple hq;let⟨f0,f1,f2,f3,f4,f5⟩:=hf it QA;let hl:=rv.length;exact wpAny_pyNext_tuple_end QlB st (show s.heap.IsTuple a its.toArray from p) QZ3 λh' eb=>Qg1
 self:=λ_ _ _ _ _ st h=>wpAny_pyIter_tupleiter st h
def Xui{P:V3}{w:Ua}{K:Vh}{tg:Expr}(it:Addr)(lo:Int)(n:Nat):Turn P w K tg QBb [it] it (λi h=>IsRangeIter h it (lo+(i:Nat)*1) ((n:Int)-(i:Nat)) 1) where
 mem:=by simp!
 obj:=λi h st b B=>by
  let e:b=it:=by simpa using B
  subst e;exact⟨_,st,λv z=>by let z':Data.fields _=Data.cell v:=z;cases z'⟩
 keep:=λi h h' st k=>k it QA _ st
 item:=by intro X hP hw hK hc i pc s σ H E I hf st hg;subst hP hw hK;let⟨f0,f1,f2,f3,f4,f5⟩:=hf it QA;let W:=Walks.range (prog:=X.prog) (w:=X.w) QlB it lo 1 n;exact W.item i s _ _ hg st λv h' tk hv L kk=>?_;let⟨t,rfl⟩:=hv;let I1:Inv X pc σ H Qs:=I.turned (λb o B e=>kk b o (by simpa using B) e) f0 f1 f3 f4 f5;calc⟨_,rfl,Xug (s:=Qs) (n:="range_iterator") L rfl rfl Q1 ⟨.int QTh,H,I1,⟨t,?_⟩,QG0,L,λb B=>QjV.1⟩⟩;rw[Int.mul_one]
 done:=by intro X hP hw hK hc i pc s σ H E I hf st hg;subst hP hw hK;let⟨f0,f1,f2,f3,f4,f5⟩:=hf it QA;exact wpAny_pyNext_range_end QlB st (by let:n<=i:=hg;omega) λh' eb=>Qg1
 self:=λ_ _ _ _ _ st h=>wpAny_pyIter_rangeiter st h
universe L2
namespace L2
open PySem PySem.Spec PyProof.Rows
section
variable{X:Cx}{tg:Expr}
def X0c{pc:LA}{σ:St}{H:Hp}{s:Vc}{R:It->Hp->Prop}{E:VP}{lo hi:Int}{t u v:Tok}{tk:Nat}(I:Inv X pc σ H s)(h1:-QLP<=lo)(h2:lo<2^62)(L:-QLP<=hi)(h4:hi<2^62)
  (q:R (Itr lo QMH.toNat) H):Vg Q3 X.A Qbe (PIE X pc σ tg R) E QK5:=by
 calc wpAny_pyIter_range QJG (small_one h1 h2 L h4) ?_;let B:Inv X pc σ H QK5:=I.kept λb o e=>Vf _ e
 exact⟨(s.heap.push QJ).objs.size,[(s.heap.push QJ).objs.size],_,_,H,rfl,
  B.kept (t':=tk) λb o e=>Vf _ e,Xui _ lo QMH.toNat,?_,λb hb=>?_,q⟩
 ·let e1:lo+QFB*1=lo:=by simp!
  let e2:QeO-QFB=Vdu lo hi 1:=by rw[rangeSize_one];split<;>omega
  show IsRangeIter _ _ (lo+QFB*1) (QeO-QFB) 1;rw[e1,e2];exact Vo _ rfl
 ·let e:b=(s.heap.push QJ).objs.size:=by simpa using hb
  subst e;calc B.fpOk Qd (B.hok.fresh Qd)
abbrev Xbd(fp:LR)(h:Heap):LA:=fp.filterMap λb=>(h.get? b).map λo=>(b,o)
def Xdi{fp:LR}{h:Heap}{b:Addr}{o:Obj}(B:b∈fp)(e:h.get? b=yz o):(b,o)∈Xbd fp h:=Ve8.mpr ⟨b,B,by rw[e];rfl⟩
def Xwq{fp:LR}{h:Heap}{p:Addr×Obj}(hp:p∈Xbd fp h):p.1∈fp/\h.get? p.1=yz p.2:=by
 let⟨b,B,e⟩:=Ve8.mp hp;cases q:h.get? b with
 |none=>rw[q]at e;cases e|some o=>rw[q]at e;let L:(b,o)=p:=Ur e;subst L;calc⟨B,q⟩
def Inv.pinned{pc:LA}{σ:St}{H:Hp}{s:Vc}{fp:LR}(I:Inv X pc σ H s)(hf:∀b∈fp,Xbc X pc H b)(ho:∀b∈fp,∃o,s.heap.get? b=yz o/\∀v,o.data≠.cell v):Inv X (pc++Xbd fp s.heap) σ H s:=
 I.pins_of λp hp=>(Um.mp hp).elim (λz=>I.pin p (Vag _ z)) λz=>by let⟨L,e⟩:=Xwq z;let⟨f0,f1,f2,_⟩:=hf p.1 L;let⟨o,B,d⟩:=ho p.1 L;rw[e]at B;cases B;calc⟨e,f0,f1,f2,d⟩
def Inv.unpinned{pc pl:LA}{σ:St}{H:Hp}{s:Vc}(I:Inv X Qyd σ H s):Inv X pc σ H s:=I.pins_of λp B=>I.pin p (Vag _ QDM)
universe e
universe L2
namespace L2
open PySem PySem.Spec PyProof.Rows
private abbrev R2:=V->V->Hp->VK->Prop
theorem OpR(X:Cx)(f:Vb->Vb->Sem Vb)(r:R2):Prop:=
 ∀(pc:LA) (s:Vc) (σ:St) (H:Hp) (x y:V) (v u:Vb) (Q:VK),Inv X pc σ H s->RelV x v->RelV y u->r x y H Q ->
  Vg Q3 X.A QpS QS9 X.xe s
theorem Xhq(X:Cx)(f:Vb)(r:LW->Hp->VK->Prop):Prop:=
 ∀(pc:LA) (s:Vc) (σ:St) (H:Hp) (xs:LW) (us:LV) (Q:VK),Inv X pc σ H s->Vals xs us->r xs H Q ->
  Vg Q3 X.A Q5O QS9 X.xe s
theorem Yft(X:Cx)(r:V->Hp->(Bool->Hp->Prop)->Prop):Prop:=
 ∀(pc:LA) (s:Vc) (σ:St) (H:Hp) (x:V) (v:Vb) (Q:Bool->Hp->Prop),Inv X pc σ H s->RelV x v->r x H Q ->
  Vg Q3 X.A (truthy v) (TP X pc σ Q) X.xe s
section
variable{X:Cx}{a b:Expr}
theorem CMul(i j:Int):Prop:=(-Qih<i/\i<2^64)\/(-Qih<j/\j<2^64)
def CMul.ok{i j:Int}(h:CMul i j):IntMulOk i j:=by
 rcases h with⟨h1,h2⟩|⟨h1,h2⟩;·exact .of_left QqL
 ·calc .of_right QqL
abbrev Ydq:HO->Bool
 |.lst _=>yx|.ins _ _ _=>yx|_=>yw
def Xc7{pc:LA}{s:Vc}{σ:St}{H:Hp}{a:Addr}{o:HO}(I:Inv X pc σ H s)(h:H a=yz o)(p:Ydq o=yx):∃ob,s.heap.get? a=yz ob/\ob.cls≠.type "tuple":=by
 cases o with
 |lst xs=>obtain⟨_,its,n,_,e⟩:(lg xs)<=V8/\∃(its:LV) (n:Nat),Vals xs its/\s.heap.get? a=yz Qr:=I.hok a _ h;calc⟨_,e,(by show Vce "list" ≠ .type "tuple";decide+kernel)⟩|ins C dx fs=>let x:=I.hok a _ h;let⟨_,_,_,e,_⟩:=x;calc⟨_,e,(by show U1 C≠.type "tuple";calc λz=>by cases z)⟩|_=>calc aB0 (show yw=yx from p) V0
theorem X77(K:Vh)(x:V)(H:Hp)(k:Bool):Prop:=
 match x with
 |.non=>k=yw|.bl b=>k=b|.int i=>k=QiV|.str y=>y.length<=V8/\k=((y.length:Int) != 0)|.byt y=>y.size<=V8/\k=((y.size:Int) != 0)|.ref p=>(∃xs,SqL K H p xs/\k = !xs.isEmpty)\/(∃xs,SqT K H p xs/\k = !xs.isEmpty)\/∃kvs,H p=yz Qed/\k = !kvs.isEmpty|_=>False
def Xuj{κ:Type}{kvs:List QNf}{vs:List Qnd}(r:KV kvs vs):Q6X = !kvs.isEmpty:=by cases r<;>rfl
def Xj4{xs:LW}{its:LV}(r:Vals xs its):(!its.toArray.isEmpty) = !xs.isEmpty:=by cases r<;>simp!
def Xe8:(V8:Nat)<2^63:=by rw[Va7];decide
def X78:Yft X (λx H Q=>∃k,X77 X.K x H k/\Q k H):=by
 intro pc s σ H x v Q I rx h;let⟨k,e,q⟩:=h;let hl:=Xe8;let hs:V8=16777216:=Va7;cases x with
 |non=>cases rx;let B:k=false:=e;subst B;calc truthy_none QjP|bl b=>cases rx;let B:k=b:=e;subst B;exact Vch QjP|int i=>let⟨t,rfl⟩:=rx;let B:k=QiV:=e;subst B;exact PySem.P.truthy_int QjP|str y=>let⟨t,rfl⟩:=rx;obtain⟨hy,B⟩:y.length<=V8/\k=((y.length:Int) != 0):=e;subst B;exact PySem.P.truthy_str Q0 Q2S|byt y=>let⟨t,rfl⟩:=rx;obtain⟨hy,B⟩:y.size<=V8/\k=((y.size:Int) != 0):=e;subst B;exact PySem.W.truthy_bytes Q0 Q2S|ref p=>
  cases rx;let B:(∃xs,SqL X.K H p xs/\k = !xs.isEmpty)\/(∃xs,SqT X.K H p xs/\k = !xs.isEmpty)\/∃kvs,H p=yz Qed/\k = !kvs.isEmpty:=e;rcases B with⟨xs,hx,B⟩|⟨xs,hx,B⟩|⟨kvs,hx,B⟩;·subst B;let⟨its,r,pl,hz⟩:=I.list hx;let L:=r.length;exact wpAny_truthy_list pl.isList QDQ QbD
  ·subst B;let⟨its,r,pl,hz⟩:=I.tuple hx;let L:=r.length;exact truthy_tuple pl QDQ QbD
  subst B;obtain⟨hz,hS,vs,r,m⟩:(lg kvs)<=V8/\(p==Vdf)=yw/\∃vs,KV kvs vs/\s.heap.DictOf (Xla X.prog X.w) p vs:=I.hok p _ hx;let L:(lg kvs)=lg vs:=Paired.length r;calc wpAny_truthy_dict hS m Q0 ⟨H,I.tok _,by rw[Xuj r];calc q⟩|_=>calc(show False from e).elim
def Xuk{x:V}{us:LV}(r:Vals [x] us):∃u,us=[u]/\RelV x u:=by
 cases r with
 |cons L B=>cases B;calc⟨_,rfl,L⟩
def X3d{x y:V}{us:LV}(r:Vals Qm9 us):∃u B,us=[u,B]/\RelV x u/\RelV y B:=by
 cases r with
 |cons L r2=>
  cases r2 with
  |cons r3 r4=>cases r4;calc⟨_,_,rfl,L,r3⟩
def Xwr(L:X.calm=yx):Xhq X Qa7 (λxs H Q=>∃i j,xs=Q85/\Q QNG H):=by
 intro pc s σ H xs us Q I r h;let⟨i,j,rfl,q⟩:=h;let⟨u,w',rfl,⟨t,rfl⟩,⟨t',rfl⟩⟩:=X3d r;exact max_two_ints Q3a λh' tk k=>QPL;by_cases B:j>i;·rw[iP0 B,iP0 B];exact Qe
 ·rw[iN0 B,iN0 B];calc Qe
def Xws(L:X.calm=yx):Xhq X QVG (λxs H Q=>∃i j,xs=Q85/\Q QOG H):=by
 intro pc s σ H xs us Q I r h;let⟨i,j,rfl,q⟩:=h;let⟨u,w',rfl,⟨t,rfl⟩,⟨t',rfl⟩⟩:=X3d r;exact min_two_ints Q3a λh' tk k=>QPL;by_cases B:j<i;·rw[iP0 B,iP0 B];exact Qe
 ·rw[iN0 B,iN0 B];calc Qe
universe e
universe L2
namespace L2
open PySem PySem.Spec PyProof.Rows
structure Cls(K:Vh)(C:Addr):Prop where
 pg:PySem.W.plainGet K C Str.empty=yx
 hd:PySem.W.hasDictIn K C=yx
 po:PySem.W.plainOver K C=yx
 sa:Veu K QE2 "__setattr__"=yz (yz (.builtin "object.__setattr__"))
universe L2
namespace L2
open PySem PySem.Spec PyProof.Rows
structure Room(k:Nat)(A:Uz):Prop where
 gd:A.guards=yz []
 hd:A.handled=yy
 dp:A.depth+3*k+5<recursionLimit
 un:A.units+16*k+200<Vbw
private abbrev Sp:=LW->Hp->VK->XK->Prop
private abbrev CXT:=List Env->Hp->Vc->XK->Vb->Vc->Prop
structure Env0(P:V3)(w:Ua)(K:Vh)(mg:Str->OV)(base:Heap)(A:Uz)(outer:List Env)(s:Vc)(H:Hp):Prop where
 frames:A.frames=yz outer
 mod:Mod K mg base
 bs:∀b o,base.get? b=yz o->s.heap.get? b=yz o/\H b=yy
 bsz:base.objs.size<=s.heap.objs.size
 funs:s.heap.FunFrames base outer
 frf:∀b∈frs outer,H b=yy
 hok:HOk P w H s.heap
 bare:AllBare s.gens
theorem CE(outer:List Env)(P:V3)(w:Ua)(H:Hp)(s:Vc)(Q:VK)(u:Vb)(s':Vc):Prop:=
 ∃v H',s'.os=s.os/\AllBare s'.gens/\Un QCZ [] H H' s.heap s'.heap/\HOk P w H' s'.heap/\RelV v u/\Q v H'
theorem CR(CX:CXT)(outer:List Env)(P:V3)(w:Ua)(H:Hp)(s:Vc)(Q:VK)(E:XK)(r:Result)(s':Vc):Prop:=
 match r with
 |.ok (.ret u)=>CE outer P w H s Q u s'|.ok _=>False|.error e=>CX outer H s E e s'
structure FnOk(P:V3)(w:Ua)(K:Vh)(mg:Str->OV)(base:Heap)(CX:CXT)(k:Nat)(f:Addr)(fd:Vdh)(ps:LS)(sp:Sp):Prop where
 len:∀vs H Q E,sp vs H Q E->lg vs=lg ps
 run:∀(A:Uz) (outer:List Env) (s:Vc) (H:Hp) (args:Args) (us:LV) (vs:LW) (Q:VK) (E:XK),Room k A->Env0 P w K mg base A outer s H->BindsTo s fd args Qk6->Vals vs us->sp vs H Q E ->
  Vcq QeA A QwR (CR CX outer P w H s Q E) s
section
variable{X:Cx}{pc:LA}{σ:St}{H:Hp}{s s':Vc}
def Inv.env0(I:Inv X pc σ H s):Env0 X.prog X.w X.K X.mg X.base X.A X.stack s H:=
 ⟨I.ok.frames,I.ok.mod,I.bs,V5 I.ok.bsz I.sz,I.stack,I.stkFree,I.hok,I.bare⟩
def Inv.after{Q:VK}{u:Vb}(I:Inv X pc σ H s)(h:CE X.stack X.prog X.w H s Q u s'):EP X pc σ Q u s':=by let⟨v,H',os,bare,un,hok,r,q⟩:=h;let⟨L,g,d,t,B⟩:=s';obtain rfl:B=s.os:=os;calc⟨v,H',I.call (h':=L) (g':=g) (d':=d) (t':=t) (ch:=[]) un hok bare QtP,r,q⟩
universe e
theorem Binds(K:Vh)(fd:Vdh)(ps:LS)(ds:LV):Prop:=
 ∀(s:Vc) (us:LV),K.In s.heap->Qxd.length=lg ps->BindsTo s fd QvA (ps.zip Qxd)
def Binds.all{K:Vh}{fd:Vdh}{ps:LS}(h:∀us:LV,lg us=lg ps->bindArgs fd QvA=pure Qk6):Binds K fd ps []:=λs us _ hl=>by rw[Va4]at hl |-;calc .of_eq (h us hl)
structure FnScope(N P:LS)(sc:Vaj):Prop where
 kind:sc.kind=.function
 co:sc.isCoroutine=yw
 gen:sc.isGenerator=yw
 nd:N.Nodup
 pre:N.take P.length=P
 par:∀x∈P,sc.names.lookup x=yz .local\/sc.names.lookup x=yz .cell
 nofree:∀y∈sc.names,y.2≠.free
def Xm1{Vaz:Str->Option Vfe}{x:Str}:∀ {binds:List Q7d} {m:Str->OV},QxK->bindL Vaz binds m x=m x
 |[],_,_=>rfl| (n,v)::r,m,h=>by
  unfold bindL;rw[Xm1 λw B=>h w Q17];split
  ·let:x≠n:=by rintro rfl;exact h v V6
   simp![this]
  rfl
def Xm2{Vaz:Str->Option Vfe}{x:Str}:∀ {binds:List Q7d} {m:Str->OV},QxK->bindC Vaz binds m x=m x
 |[],_,_=>rfl| (n,v)::r,m,h=>by
  unfold bindC;rw[Xm2 λw B=>h w Q17];split;·rfl
  ·let:x≠n:=by rintro rfl;exact h v V6
   simp![this]
def Xm3{Vaz:Str->Option Vfe}{x:Str}{v:Vb}:∀ {P:LS} {vs:LV} {i:Nat} {m:Str->OV},P.Nodup->P[i]?=yz x->vs[i]?=yz v->Vaz x=yz .local ->
  bindL Vaz Q9b m x=yz v
 |[],_,_,_,_,h,_,_=>by simp! at h|_::_,[],_,_,_,_,h,_=>by simp! at h|p::P,w::vs,0,m,nd,h1,h2,hk=>by simp! at h1 h2;subst h1;subst h2;show bindL Vaz Q8A m p=_;unfold bindL;rw[Xm1 λv B=>QgH.1 Qig.1,iP0 hk];simp!|p::P,w::vs,i+1,m,nd,h1,h2,hk=>by show bindL Vaz Q8A m x=_;unfold bindL;calc Xm3 (i:=i) QgH.2 Q3E QBQ hk
def Xm4{Vaz:Str->Option Vfe}{x:Str}{v:Vb}:∀ {P:LS} {vs:LV} {i:Nat} {m:Str->OV},P.Nodup->P[i]?=yz x->vs[i]?=yz v->Vaz x≠yz .local ->
  bindC Vaz Q9b m x=yz v
 |[],_,_,_,_,h,_,_=>by simp! at h|_::_,[],_,_,_,_,h,_=>by simp! at h|p::P,w::vs,0,m,nd,h1,h2,hk=>by simp! at h1 h2;subst h1;subst h2;show bindC Vaz Q8A m p=_;unfold bindC;rw[Xm2 λv B=>QgH.1 Qig.1,iN0 hk];simp!|p::P,w::vs,i+1,m,nd,h1,h2,hk=>by show bindC Vaz Q8A m x=_;unfold bindC;calc Xm4 (i:=i) QgH.2 Q3E QBQ hk
abbrev start(N:LS)(vs:LW):St:=vs.map yz++Vn (N.length-lg vs) yy
abbrev Xul(CX:CXT)(P:V3)(w:Ua)(K:Vh)(mg:Str->OV)(base:Heap)(N:LS)(qual:Str)(scope:Vaj)(f:Addr)(L:Vb)(A:Uz)(outer:List Env)(s:Vc)(H:Hp)(E:XK):Cx where
 prog:=P
 w:=w
 K:=K
 mg:=mg
 base:=base
 A:=A.deeper QR2
 N:=N
 s₀:=s
 H₀:=H
 env:=envOfC qual scope s.heap.objs.size f L
 outer:=outer
 stack:=envOfC qual scope s.heap.objs.size f L::outer
 ex:=[]
 calm:=yx
 fn:=λ_=>yx
 pn:=[]
 xe:=λe s'=>Vg QeA QiU (leaving QR2 e) (λ_ B=>CX outer H s E e B) (λe' B=>CX outer H s E e' B) s'
def Xoe{sc:Vaj}{n:Nat}{x:Str}(h:sc.names.lookup x=yz .cell):∃c,(Vci n sc.names []).lookup x=yz c:=by let q:=Vhh sc.names n [] QkK;calc Vdj.mp q
def Xwt{CX:CXT}{P:V3}{w:Ua}{K:Vh}{mg:Str->OV}{base:Heap}{N ps:LS}{qual:Str}{scope:Vaj}{f:Addr}{cd:Vb}{A:Uz}{outer:List Env}{s s1:Vc}{H:Hp}{E:XK}{us:LV}{vs:LW}
  (S:FnScope N ps scope) (hd:A.handled=yy) (B:Env0 P w K mg base A outer s H) (hl:Qc3=lg ps) (r:Vals vs us)
  (x:InCallC s s.heap.objs.size (bindL Q7B.kindOf Qk6 λ_=>yy) QhJ (bindC Q7B.kindOf Qk6 λ_=>yy) s1):
  Inv Qg7 [] QUB H s1:=by
 let ac:Qp5<=N.length:=by let:=congrArg List.length S.pre;rw[Vah]at this;omega
 let⟨h1,tk,rfl,hk⟩:=x.done;let aa:∀b:Addr,b ∉ Qg7.ex:=λb z=>aB0 (show b∈Qac from z) QA
 exact⟨⟨B.mod,S.kind,rfl,rfl,Vi _,λy z c h1 h2=>?_,λy L=>?_,λy c _ h=>?_,λ_=>hd,Around.frames_deeper B.frames,.inr QG0,λb z=>aB0 z QYc,B.bs,B.bsz,λb _ _=>aa b,λb z=>aB0 z QYc,B.funs,B.frf⟩,
  rfl,B.bare,Un.kept hk,⟨_,x.toInCall.ns,λi y v h1 h2 h3=>?_⟩,λy c h=>⟨_,x.cell y c h⟩,B.hok.fresh Qd,λy c h=>?_,λp hp=>aB0 (show p∈([]:LA) from hp) QA,B.hok.kept hk,?_⟩
 ·exact name_of_addr x.apart (Vc2 h1) (Vc2 h2)
 ·let L:scope.names.lookup y=yz .cell\/scope.names.lookup y=yz .free:=L;rcases L with L|L;·exact Xoe L
  ·exact aB0 rfl (S.nofree _ (Vc2 L))
 ·exact Vc4 QZL
 ·let hi:i<lg vs:=by
   unfold start at h2;by_cases hi:i<lg vs;·exact hi
   ·rw[Vac Qr0]at h2;rw[Vdv]at h2;split at h2<;>cases h2
  let ha:vs[i]?=yz v:=by
   unfold start at h2;rw[Vy Qr0,Ud]at h2;cases e:vs[i]? with
   |none=>rw[e]at h2;cases h2|some a=>rw[e]at h2;cases h2;rfl
  let⟨u,hu,rv⟩:=r.get ha;let hp:ps[i]?=yz y:=by rw[<-S.pre,Vjv Q0];exact h1
  let ab:ps.Nodup:=by rw[<-S.pre];exact S.nd.sublist QZK
  calc⟨u,rv,?_⟩;rcases S.par y (V7 hp) with k|k;·exact .inl ⟨k,Xm3 ab hp hu k⟩
  ·let⟨c,e⟩:=Xoe (n:=s.heap.objs.size+1) k;calc .inr ⟨.inl k,c,e,?_⟩;let q:=x.cell y c e;rw[Xm4 ab hp hu (by show scope.names.lookup y≠_;rw[k];decide)]at q;exact q
 ·exact B.hok.fresh (Vc4 QZL)
 ·unfold start;show _=N.length;rw[Ub,Ve,Vh5];omega
universe L2
namespace L2
open PySem PySem.Spec PyProof.Rows
universe L2
namespace HT
open PySem PyProof.Rows
section
variable{prog:V3}{w:Ua}{A:Uz}{E:VP}{s:Vc}
def cat_tup{t b:Addr}{vs B:LV}{Q:VP}(ht:Vd5 s.heap t vs.toArray)(hb:Vd5 s.heap b B.toArray)(hv:vs≠[])
  (h1:B=[]->Q QI5 s) (h2:B≠[]->Q QC {s with heap:=s.heap.push {cls:=.type "tuple",data:=.seq QWf.toArray} })
  (af:Qc3+lg B<=V8):Vg Q5 A QUK Q E s:=by
 let⟨⟨cls,dd,data,sl⟩,ho,hc,n,hd⟩:=id ht;let⟨⟨ag,ab,data2,ac⟩,L,aa,n2,ae⟩:=id hb;simp at hc hd aa ae;subst hc hd aa ae;let e:vs.toArray++B.toArray=QWf.toArray:=by simp!
 by_cases hw:B=[]
 ·exact concat_meets QyJ QjE noFill_tuple_add seq_tuple_add Vhi Vg6 QHT
   (tuple_addW1 t b vs.toArray B.toArray n n2 dd ab sl ac QAQ (by simp![hw])) ⟨ho,L,h1 hw⟩
 ·exact concat_meets QyJ QjE noFill_tuple_add seq_tuple_add Vhi Vg6 QHT
   (tuple_addW2 t b vs.toArray B.toArray n n2 dd ab sl ac QAQ (by simpa using hw) (by rw[Vq,Vq];calc af)) ⟨ho,L,?_⟩
  rw[e];calc h2 hw
abbrev sIx(n d:Nat):Option Int->Nat
 |none=>d|some v=>if v<0 then QsC.toNat else min v.toNat n
def X79(n d:Nat)(hd:d<=n)(o:Option Int):sIx n d o<=n:=by
 cases o with
 |none=>exact hd|some v=>
  show(if v<0 then QsC.toNat else min v.toNat n)<=n;by_cases B:v<0;·rw[iP0 B];omega
  ·rw[iN0 B];calc Nat.min_le_right _ _
def Xr6(v:Int)(n d:Nat):(if v<0 then max QsC 0 else min v (n:Int))=((sIx n d Q59:Nat):Int):=by
 show(if v<0 then max QsC 0 else min v (n:Int))=(((if v<0 then QsC.toNat else min v.toNat n):Nat):Int);by_cases B:v<0;·simp[iP0 B];omega
 ·simp[iN0 B];omega
def Xum(lo hi:Option Int)(n:Nat):Vgd lo hi 1 (n:Int)=(Q77,QNN):=by
 let h1:¬ ((1:Int)<0):=by omega
 unfold Vgd;simp[h1,if_false];exact Prod.ext ?_ ?_
 ·cases lo with
  |none=>rfl|some v=>exact Xr6 v n 0
 cases hi with
 |none=>rfl|some v=>calc Xr6 v n n
def Xun(i j:Nat):Ven (i:Int) (j:Int) 1=j-i:=by
 unfold Ven;let h1:(1:Int)>0:=by omega
 simp[h1,if_true,Int.ediv_one];split<;>omega
def slicePart_{v:Vb}{o:Option Int}{Q:Option Int->Vc->Prop}(p:Vfm v o)(h:Q o s):Vg Q5 A (Builtin.Slice.slicePartIndex v) Q E s:=by
 cases p with
 |none=>calc slicePart_none h|int i t=>calc slicePart_int h
def sliceApplied_gen{sl:Addr}{vl vu:Vb}{lo hi:Option Int}{n:Nat}{Q:Int×Int×Nat->Vc->Prop}(hs:s.heap.IsSliceOf sl vl vu .none)(pl:Vfm vl lo)(pu:Vfm vu hi)
  (h:Q (Q77,1,sIx n n hi-sIx n 0 lo) s):Vg Q5 A QfJ Q E s:=by
 let⟨os,L,aa,B⟩:=id hs;unfold Vee Vjn;calc Va (Va (U8 L B (x:=vl) rfl (Va (U8 L B (x:=vu) rfl (Va (U8 L B (x:=.none) rfl Qz0))))));calc Va (slicePart_none ?_);show Vg _ _ (if ((1:Int)==0)=yx then _ else _) _ _ s;rw[iN0 Q1];calc Va (slicePart_ pl (Va (slicePart_ pu Qle)));show Vg _ _ (match Vgd lo hi 1 (n:Int) with|(lo,hi)=>pure (lo,(1:Int),Ven lo hi 1)) _ _ s;rw[Xum lo hi n];show Vg _ _ (pure (Q77,(1:Int),Ven Q77 QNN 1)) _ _ s;rw[Xun];calc Vd h
def X0d(xs:AV)(i k:Nat):(Quc.filterMap λ(m:Nat)=>xs[Q8D.toNat]?).toArray=((xs.toList.drop i).take k).toArray:=by
 let e:(λ(m:Nat)=>xs[Q8D.toNat]?)=λm=>xs[i+m]?:=by
  funext m;let:Q8D.toNat=i+m:=by omega
  rw[this]
 rw[e];let:=pick_run xs i k;rw[Vgj]at this;let e2:((λx=>xs[x]?)∘λx=>i+x)=λm=>xs[i+m]?:=rfl;rw[e2]at this;rw[this]
def getItem_tuple_cut{t sl:Addr}{items:AV}{vl vu:Vb}{lo hi:Option Int}{Q:VP}(L:Vd5 s.heap t items)(hs:s.heap.IsSliceOf sl vl vu .none)(pl:Vfm vl lo)(pu:Vfm vu hi)
  (hw:¬ (sIx items.size 0 lo=0/\sIx items.size items.size hi=items.size))
  (h:Q QC {s with heap:=s.heap.push {cls:=.type "tuple",data:=.seq Qe0.toArray} })
  (ag:items.size<=V8):Vg Q5 A QTK Q E s:=by
 let B:sizeOk (.seq Qe0.toArray):=by show((items.toList.drop (sIx items.size 0 lo)).take Qg0).toArray.size<=V8;rw[Vq,Vah,Vb5,V1];omega
 let hj:sIx items.size items.size hi<=items.size:=X79 _ _ Qd hi;let⟨os,ae,ac,af⟩:=id hs;let ab:s.TypeIs Q3A "slice" := QCX;unfold Vf7
 try with_reducible exact U2 ?_
 first|exact Va Qz0|skip
 exact Va (Vji L.typeIs Q1 ?_)
 exact Va (Vat (name:=Vcb "__getitem__") L.typeIs Vbv
  QQD)
 show Vg _ _ QeH _ _ s;calc Va (tupleItemsOf_ L ?_);calc Va QlZ;rw[iP0 Q1];calc Va (sliceApplied_gen hs pl pu ?_);let aa:¬ (QC6=yx):=by intro q;rw[bA0,bA0]at q;let q1:((sIx items.size 0 lo:Nat):Int)=0:=eq_of_beq q.1.1;let q2:sIx items.size items.size hi-sIx items.size 0 lo=items.size:=eq_of_beq q.2;exact hw ⟨by omega,by omega⟩
 show Vg _ _ (if QC6=yx then _ else _) _ _ s;rw[iN0 aa,X0d]
 first
  |calc Va (m:=Vbn _) QhH|calc Va (m:=Vbn _) (Val (Va Qge) B)|calc Va (Va (m:=Vbn _) (Val Qge B))|calc Va QKO
universe e
universe HT
namespace L2
open PySem PySem.Spec PyProof.Rows
section
variable{lo hi:Option Expr}
abbrev Xof(xs:LW)(lo hi:Option Int):LW:=(xs.drop (HT.sIx QL 0 lo)).take (HT.sIx QL QL hi-HT.sIx QL 0 lo)
def Xq9(xs:LW)(lo hi:Option Int):(Xof xs lo hi).length<=lg xs:=by unfold Xof;rw[Vah,Vb5];omega
universe e
universe L2
namespace L2
open PySem PySem.Spec PyProof.Rows
abbrev ixN(n:Nat)(i:Int):Option Nat:=if 0<=i then (if i<n then yz i.toNat else yy) else if-(n:Int)<=i then yz QLc.toNat else yy
abbrev atI{α:Type}(xs:List α)(i:Int):Option α:=(ixN QL i).bind λj=>xs[j]?
def Xr7{n:Nat}{i:Int}{j:Nat}(h:ixN n i=yz j):seqIndex? i n=yz j/\j<n/\-(n:Int)<=i/\i<n:=by
 unfold ixN at h;by_cases B:0<=i
 ·rw[iP0 B]at h;by_cases h1:i<n;·rw[iP0 h1]at h;let e:i.toNat=j:=Ur h;exact⟨by rw[seqIndex_of B h1,e],by omega,by omega,h1⟩
  ·rw[iN0 h1]at h;cases h
 rw[iN0 B]at h;by_cases h1:-(n:Int)<=i;·rw[iP0 h1]at h;let e:QLc.toNat=j:=Ur h;exact⟨by rw[seqIndex_neg Q0 h1,e],by omega,h1,by omega⟩
 ·rw[iN0 h1]at h;cases h
def Xlb{α:Type}{xs:List α}{i:Int}{v:α}(h:atI xs i=yz v):∃j,seqIndex? i QL=yz j/\xs[j]?=yz v/\j<lg xs/\-(lg xs:Int)<=i/\i<lg xs:=by
 unfold atI at h;cases e:ixN QL i with
 |none=>rw[e]at h;cases h|some j=>rw[e]at h;let⟨h1,h2,B,L⟩:=Xr7 e;calc⟨j,h1,h,h2,B,L⟩
theorem Xlc(b:Expr):Prop:=∀o i,subscripted b yw o i=operate [o,i] (Vf7 o i)
theorem IxR(X:Cx)(r:R2):Prop:=
 ∀(value B:Expr) (pc:LA) (s:Vc) (σ:St) (H:Hp) (x y:V) (v u:Vb) (Q:VK),Inv X pc σ H s->RelV x v->RelV y u->r x y H Q ->
  subscripted B yw v u=operate QGf (Vf7 v u)->Vg Q3 X.A (Vf3 value B v u) QS9 X.xe s
section
variable{X:Cx}{a b:Expr}
abbrev Yfu(K:Vh):R2:=λx y H Q=>∃p xs i v,x=.ref p/\y=.int i/\SqL K H p xs/\atI xs i=yz v/\Q v H
abbrev Yfv(K:Vh):R2:=λx y H Q=>∃p xs i v,x=.ref p/\y=.int i/\SqT K H p xs/\atI xs i=yz v/\Q v H
def X4k:IxR X (Yfu X.K):=by
 intro value B pc s σ H x y v u Q I rx ry h hs;let⟨p,xs,i,z,rfl,rfl,hq,he,q⟩:=h;cases rx;let⟨t,rfl⟩:=ry;let⟨its,r,pl,hz⟩:=I.list hq;let⟨j,h1,h2,h3,h4,h5⟩:=Xlb he;let⟨w,ew,L⟩:=r.get h2;let hl:=r.length;let hn:=Xe8;let fin:EP X pc σ Q w s:=QyU;by_cases h0:0<=i
 ·let hj:i.toNat=j:=by
   rw[seqIndex_of h0 h5]at h1;exact Ur h1
  exact item_listR pl.isList h0 Q0 QXJ fin hs
 let hj:(i+QbB).toNat=j:=by rw[seqIndex_neg Q0 h4]at h1;rw[Vq,<-hl];exact Ur h1
 exact subscriptTail_builtinR (x:=w) pl.isList.typeIs slot_list_getitem.lookup
  (wpAny_getItem_list_neg (Q:=λr s'=>r=w/\EP X pc σ Q r s') pl.isList Q0 QFQ Q0 QXJ QQY) hs
def X8a:IxR X (Yfv X.K):=by
 intro value B pc s σ H x y v u Q I rx ry h hs;let⟨p,xs,i,z,rfl,rfl,hq,he,q⟩:=h;cases rx;let⟨t,rfl⟩:=ry;let⟨its,r,pl,hz⟩:=I.tuple hq;let⟨j,h1,h2,h3,h4,h5⟩:=Xlb he;let⟨w,ew,L⟩:=r.get h2;let hl:=r.length;let hn:=Xe8;let fin:EP X pc σ Q w s:=QyU;exact subscriptTail_builtinR (x:=w) pl.typeIs slot_tuple_getitem.lookup
  (getItem_tuple (j:=j) (Q:=λr s'=>r=w/\EP X pc σ Q r s') pl Q0 Q0 (by rw[Vq,<-hl];calc h1) (by simpa using ew) QQY) hs
def Xuo(its:LV)(n j:Nat)(u:Vb):Vae QuM Qr={cls:=.type "list",data:=.seq (its.set j u).toArray n}:=by simp![Vae]
def Inv.lst{pc:LA}{σ:St}{H:Hp}{s:Vc}{p:Addr}{xs:LW}(I:Inv X pc σ H s)(h:H p=yz QD1):
  ∃(its:LV) (n:Nat),Vals xs its/\s.heap.get? p=yz Qr/\QL<=V8:=by
 let⟨z,its,n,r,e⟩:=I.hok p _ h;calc⟨its,n,r,e,z⟩
def Inv.lstUpd{pc:LA}{σ:St}{H:Hp}{s:Vc}{p:Addr}{xs ys:LW}{its its':LV}{n B:Nat}{f:Obj->Obj}(I:Inv X pc σ H s)(h:H p=yz QD1)
  (ho:s.heap.get? p=yz Qr) (L:f Qr=QAA) (r:Vals ys its') (hz:QuN<=V8) (t:Nat):
  Inv X pc σ (upd H p QxH) {s with heap:=s.heap.update p f,toks:=t}:=by
 let e:(s.heap.update p f).get? p=yz QAA:=by rw[Vda f ho (by rw[L]<;>rfl),L]
 calc I.write (x:=p) (e:=p) (by rw[h];trivial) QJ0 (λb u hb q=>QBB.trans q) Q14 ?_;calc⟨hz,its',B,r,e⟩
theorem Ydr:V->V->V->Hp->QCb->Prop:=λo i v H Q=>∃p xs k j,o=.ref p/\i=.int k/\H p=yz QD1/\ixN QL k=yz j/\Q QTV
def X0e:Yfr X Ydr:=by
 intro pc s σ H o i v ov iv u Q I ro ri rv h;let⟨p,xs,k,j,rfl,rfl,hp,hj,q⟩:=h;cases ro;let⟨t,rfl⟩:=ri;let⟨its,n,r,L,hz⟩:=I.lst hp;let⟨h1,h2,h3,h4⟩:=Xr7 hj;let hl:=r.length;let hn:=Xe8;let I':Inv X pc σ QTV {s with heap:=s.heap.update p (Vae QuM)}:=
  I.lstUpd hp L (Xuo its n j u) (r.set rv j) (by rw[Vck];calc hz) s.toks
 by_cases h0:0<=k
 ·let B:k.toNat=j:=by
   rw[seqIndex_of h0 h4]at h1;exact Ur h1
  exact PySem.W.ki_setAt L h0 Q0 (by rw[Vq,<-hl];calc h4) QtI
 let B:Qmf.toNat=j:=by rw[seqIndex_neg Q0 h3]at h1;rw[Vq,<-hl];exact Ur h1
 calc PySem.W.ki_setBack L Q0 (by rw[Vq,<-hl];calc h3) Q0 QtI
def Xog:Xhq X QWG (λxs H Q=>∃p ys,xs=QSL/\QdE/\Q (.int QuN) H):=by
 intro pc s σ H xs us Q I r h;let⟨p,ys,rfl,L,q⟩:=h;let⟨u,rfl,rx⟩:=Xuk r;cases rx;let hn:=Xe8;rcases L with L|L;·let⟨its,r',pl,hz⟩:=I.list L;let B:=r'.length;exact Calls.call_len_list pl.isList QF5 QO7
 ·let⟨its,r',pl,hz⟩:=I.tuple L;let B:=r'.length;calc len_tuple pl QF5 QO7
def Xoh:Xhq X QjU (λxs H Q=>∃p ys,xs=QSL/\QdE/\∀l,H l=yy->Q Q4C QUV):=by
 intro pc s σ H xs us Q I r h;let⟨p,ys,rfl,hq,q⟩:=h;let⟨u,rfl,rx⟩:=Xuk r;cases rx;let fin:∀(its:LV),Vals ys its->lg ys<=V8->∀(h':Heap) (B:Nat),(∀b o',s.heap.get? b=yz o'->h'.get? b=yz o') ->
   h'.get? s.heap.objs.size=yz {cls:=.type "list",dict:=yy,data:=.seq its.toArray B,slots:=#[]}->EP X pc σ Q QC QO:=λits L hz h' B kp e=>
  ⟨.ref s.heap.objs.size,_,I.laid (t':=s.toks) kp Qd (show ObjOk X.prog X.w _ h' _ QxH from⟨hz,its,B,L,e⟩),rfl,q _ (I.hok.fresh Qd)⟩
 rcases hq with hq|hq;·let⟨its,L,pl,hz⟩:=I.list hq;let aa:=L.length;let⟨o,ho,hc,n,hd⟩:=pl.isList;exact call_list_seq p QJ0 ho hc hd Q8C QF5
 ·let⟨its,L,pl,hz⟩:=I.tuple hq;let aa:=L.length;let⟨o,ho,hc,n,hd⟩:=pl;calc call_list_seq p QP3 ho hc hd Q8C QF5
def Xgl:Xhq X Qx3 (λxs H Q=>∃p ys,xs=QSL/\((SqL X.K H p ys/\∀l,H l=yy->Q Q4C (upd H l QgT))\/(SqT X.K H p ys/\Q QV H))):=by
 intro pc s σ H xs us Q I r h;let⟨p,ys,rfl,h⟩:=h;let⟨u,rfl,rx⟩:=Xuk r;cases rx;rcases h with⟨hq,q⟩|⟨hq,q⟩
 ·let⟨its,B,pl,hz⟩:=I.list hq;let aa:=B.length;calc call_tuple_list pl.isList (λh' kp=>?_) QF5;let L:Inv X pc σ H QO:=I.kept (t':=s.toks) kp;let I2:Inv X pc σ (upd H h'.objs.size QgT) {s with heap:=h'.push {cls:=.type "tuple",data:=.seq its.toArray} }:=
   L.laid (t':=s.toks) QuP Qd (show ObjOk X.prog X.w _ _ _ QgT from⟨hz,its,B,IsTup.new _ _⟩)
  exact⟨.ref h'.objs.size,_,I2,rfl,q _ (L.hok.fresh Qd)⟩
 let⟨its,B,pl,hz⟩:=I.tuple hq;calc call_tuple_same pl ⟨.ref p,H,I,rfl,q⟩
variable{e:Expr}
/- xs.append(e),list.index on a module's tuple .. are MtR facts of 06m -/
universe e
universe L2
namespace L2
open PySem PySem.Spec PyProof.Rows
theorem MtM(X:Cx)(id:String)(r:V->LW->Hp->VK->Prop):Prop:=
 ∀(pc:LA) (s:Vc) (σ:St) (H:Hp) (x:V) (xs:LW) (v:Vb) (us:LV) (Q:VK),Inv X pc σ H s->RelV x v->Vals xs us->r x xs H Q ->
  Vg Q3 X.A Q1P QS9 X.xe s
def Vals.one:∀ {x:V} {us:LV},Vals [x] us->∃u,us=[u]/\RelV x u
 |_,_,h=>by cases h with|cons r t=>cases t;calc QML
def Vals.eraseIdx:∀ {xs:LW} {us:LV} (i:Nat),Vals xs us->Vals (xs.eraseIdx i) (us.eraseIdx i)
 |_,_,_,.nil=>.nil|_,_,0,.cons _ t=>t|_,_,i+1,.cons r t=>.cons r (Vals.eraseIdx i t)
def Vals.rep{xs:LW}{us:LV}(h:Vals xs us):∀k:Nat,Vals (Vn k xs).flatten (Vn k us).flatten
 |0=>.nil|k+1=>by rw[Van,Van,Vbt,Vbt];calc Vals.append h (Vals.rep h k)
def Xm5{α:Type}:∀(l:List α) (i:Nat),(l.eraseIdx i).length<=lg l
 |[],_=>Vi _|_::_,0=>Vd6 _|_::r,i+1=>Vhy (Xm5 r i)
def Xm6(its:LV):∀(k:Nat) (B:LV),
  Vgx Q95 B.toArray (Vn k its.toArray)=(B++Q0b.flatten).toArray
 |0=>λB=>by simp!|k+1=>λB=>by
  let e:B.toArray++its.toArray=QbW.toArray:=by simp!
  let e2:QbW++Q0b.flatten=B++(Vn Qe3 its).flatten:=by rw[Van,Vbt,Uj]
  rw[<-e2,<-Xm6 its k QbW,<-e,Van,Vb0]
section
variable{X:Cx}{pc:LA}{σ:St}{H:Hp}{s:Vc}{l:Addr}{xs ys:LW}
def Inv.lset{its its':LV}{n:Nat}{f:AV->AV}{t':Nat}(I:Inv X pc σ H s)(L:H l=yz QD1)
  (e:s.heap.get? l=yz Qr) (hf:f its.toArray=its'.toArray) (hv:Vals ys its') (hz:QuN<=V8):
  Inv X pc σ QUV {s with heap:=s.heap.update l Qpg,toks:=t' }:=by
 let q:=PySem.IsL.update e f;rw[hf]at q;calc I.write (x:=l) (e:=l) (by rw[L];calc trivial) QJ0 (λb' u hb B=>(Vff s.heap Qpg (Ne.symm hb)).trans B) Q3V ?_;calc⟨hz,its',_,hv,q⟩
def Inv.lnew{its:LV}{t':Nat}(I:Inv X pc σ H s)(B:Vals ys its)(hz:QuN<=V8):
  Inv X pc σ (upd H s.heap.objs.size QxH) {s with heap:=s.heap.push {cls:=.type "list",data:=.seq its.toArray},toks:=t' }:=
 I.laid (λ_ _ q=>Vf _ q) Qd ⟨hz,its,0,B,Vo _ rfl⟩
def Inv.fresh(I:Inv X pc σ H s):H s.heap.objs.size=none:=I.hok.fresh Qd
def Inv.lstM(I:Inv X pc σ H s)(B:H l=yz QD1):QL<=V8/\∃(its:LV) (n:Nat),Vals xs its/\QL=lg its/\s.heap.get? l=yz Qr:=by let⟨z,its,n,r,e⟩:=I.hok l _ B;calc⟨z,its,n,r,r.length,e⟩
def Xoi{n:Nat}(h:n<=V8):Vex n=false:=by unfold Vex;calc decide_eq_false Q0
theorem X4l:V->LW->Hp->VK->Prop:=λx vs H Q=>∃l xs y,x=.ref l/\vs=[y]/\H l=yz QD1/\QL<V8/\Q .non (upd H l (.lst (xs++[y])))
def Xm7:MtM X "list.append" X4l:=by intro pc s σ H x vs v us Q I L rv h;let⟨l,xs,y,rfl,rfl,B,hz,q⟩:=h;cases L;let⟨u,rfl,ru⟩:=rv.one;let⟨z,its,n,r,hl,e⟩:=I.lstM B;calc Ve9 F.slot_list_append QwA F.entry_list_append (F.args_list_append_2 _ _) (PySem.list_append l its.toArray n u QDG) Q0S;calc⟨.non,_,I.lset (its':=its++[u]) B e QA (r.append Q2I) ?_,rfl,q⟩;rw[Ub,Vdb];omega
theorem X8b:V->LW->Hp->VK->Prop:=λx vs H Q=>∃l xs i k y,x=.ref l/\vs=QAh/\H l=yz QD1/\-Qjh<=i/\i<2^63/\seqIndex? i QL=yz k/\xs[k]?=yz y/\Q y (upd H l (.lst (xs.eraseIdx k)))
def X0f:MtM X "list.pop" X8b:=by
 intro pc s σ H x vs v us Q I rx rv h;let⟨l,xs,i,k,y,rfl,rfl,L,h1,h2,hk,hy,q⟩:=h;cases rx;let⟨u,rfl,ru⟩:=rv.one;let⟨t,rfl⟩:=ru;let⟨z,its,n,r,hl,e⟩:=I.lstM L;let⟨w,hw,B⟩:=r.get hy;exact Ve9 F.slot_list_pop QwA F.entry_list_pop (F.args_list_pop_2 _ _)
  (MeetsSeq.list_pop_at l its.toArray n i t k w (fitsIndex_both h1 h2) (by rw[Vq,<-hl];calc hk) (by rw[<-Ue];calc hw) QDG) Q0S
 calc⟨y,_,I.lset (its':=its.eraseIdx k) L e ?_ (r.eraseIdx k) ?_,B,q⟩;·show its.toArray.eraseIdxIfInBounds k=(its.eraseIdx k).toArray;rw[List.eraseIdxIfInBounds_toArray]
 ·let:=Xm5 xs k;omega
abbrev Yfw:R2:=λx y H Q=>∃l k xs,x=.ref l/\y=.int k/\H l=yz QD1/\-Qjh<=k/\k<2^63/\QL*k.toNat<=V8 /\
 ∀p,H p=yy->Q QV (upd H p (.lst QDT.flatten))
def Xld{α:Type}(xs:List α)(k:Nat):(Vn k xs).flatten.length=k*lg xs:=by
 induction k with
 |zero=>simp!|succ k ih=>rw[Van,Vbt,Ub,ih,Nat.succ_mul,Nat.add_comm]
def X8c:OpR X QkZ Yfw:=by
 intro pc s σ H x y v u Q I rx ry h;let⟨l,k,xs,rfl,rfl,hH,h1,h2,hz,q⟩:=h;cases rx;let⟨t,rfl⟩:=ry;let⟨z,its,n,r,hl,e⟩:=I.lstM hH;let L:its.toArray.size*k.toNat<=V8:=by rw[Vq,<-hl];exact hz
 let ab:¬ its.toArray.size*k.toNat>QcW/8:=by
  let:(V8:Nat)<=QcW/8:=by decide
  omega
 let aa:¬ (!Builtin.List.listFitsIndex k)=true:=by rw[fitsIndex_both h1 h2];exact V0
 let B:¬ Vex (its.toArray.size*k.toNat)=true:=by rw[Xoi L];exact V0
 let ac:Vgx Q95 #[] (Vn (if its.toArray.isEmpty=yx then 0 else k.toNat) its.toArray)=(Vn k.toNat its).flatten.toArray:=by
  let f0:∀m:Nat,Vgx Q95 #[] QBP=(Vn m its).flatten.toArray:=λm=>by let:=Xm6 its m [];rw[List.nil_append]at this;exact this
  rw[f0];cases its with
  |nil=>simp!|cons a r'=>rw[iN0 QA]
 exact Vjo (T:="list") (U:="int") Q1 QwA (λs'=>typeIs_int s' k t) noFill_list_mul F.fills_int_mul F.slot_int_rmul repeat_list F.slot_int_index.lookup
  (Ve9 F.slot_int_rmul (typeIs_int s k t) F.entry_int_rmul (F.args_int_rmul_2 _ _) (int___rmul___int_list k t l its.toArray n)
   ⟨e,rfl,QwA,Ve9 F.slot_list_mul QwA F.entry_list_mul (F.args_list_mul_2 _ _) (AutoListH.list___mul___list_int_3 l its.toArray n k t aa ab B) Q0S⟩)
 rw[ac];calc⟨.ref _,_,I.lnew (t':=s.toks) (r.rep k.toNat) (by rw[Xld,Nat.mul_comm];calc hz),rfl,q _ I.fresh⟩
universe e
universe L2
namespace Att
open PySem PySem.W PySem.Calls PyProof.Rows
def Xj5{P:Params}{h:Heap}:∀(ns:LI) (vs:LV),WellAll P h vs QrO->Vby vs ns:=by
 intro ns;induction ns with
 |nil=>intro vs w;rw[Vgk]at w;cases w;exact .nil|cons n ns ih=>
  intro vs w;rw[Uh]at w;cases w with
  |cons a b=>cases a;calc .cons _ _ (ih _ b)
def Xwu{l:OpenLaw}{n:Nat}(hn:l.most=yz n){P:Params}{h:Heap}{args:List WData}{L:LV}
  (B:l.row.toRowW.claim.pre args=yx) (ae:WellAll P h L args):
  ∃a vs ns,L=[U1 a]/\args=[WData.list QrO]/\h.get? a=yz QI1/\Vby vs ns/\QyE<=n:=by
 let ac:WShape.hasAll [] args [.list .int]=true:=Q6U.1;let hc:l.pre.holds [] {args:=args}=true:=Q6U.2;let⟨d,r,rfl,h1,h2⟩:=hasAllW_cons ac;obtain rfl:=hasAllW_nil h2;let⟨xs,rfl,h3⟩:=hasW_list h1;let⟨ns,rfl⟩:=items_int h3;let aa:QyE<=n:=by
  unfold OpenLaw.pre at hc;let h4:(WTm.not (.lt (.lit (.int (n:Int))) (.len (.arg 0)))).holds [] {args:=[.list (ns.map .int)]}=true:=by let h4:=(holds_andW hc).1;rw[hn]at h4;exact h4
  let h5:=condW_of h4 (w_not (w_lt w_lit (w_len_list (w_arg rfl))));rw[Ve]at h5;exact Vhz λq=>?_;let q':(n:Int)<((lg ns:Nat):Int):=by omega
  first
   | (rw[decide_eq_true q']at h5;calc aB0 h5 Q1)| (simp! at h5;omega)
 cases ae with
 |cons w1 w2=>
  cases w2;cases w1 with
  |list ho ab=>calc⟨_,_,ns,rfl,rfl,ho,Xj5 ns _ ab,aa⟩
def Xwv(l:OpenLaw)(args:List WData):l.row.toRowW.claim.post args Q6C args=true:=
 postW_of (r:=l.row.toRowW) (X:=Qvd)
  (show WShape.has [] Q6C .bool=yx by first|rfl|decide|simp![WShape.has,WShape.arms,WShape.armsAll])
  (show(WTm.eq .res (.lit Q6C)).value [] {args:=args,res:=yz Q6C,after:=args}=yz (.bool Qvd) from w_eq_bool (w_res rfl) w_lit) rfl
def attach_call{l:OpenLaw}{n:Nat}{q:V3}{loose:LS}{XP:QVT->Heap->Prop}{YP:Ua->Heap->Prop}{d:DefRec}
  (hn:l.most=yz n) (af:d.params.defaults=[])
  (call:∀(w:Ua) (s₀ B:Vc) (mg mb:Str->OV) (fa:Addr) (o:Obj) (pm cd L:Vb) (a:Addr) (vs:LV) (ns:LI),
   Ground q loose [] XP w s₀ mg mb B.heap->YP w B.heap ->
   B.heap.get? fa=yz o->o.data=.func (docDef d.name d.params d.body d.scope pm cd L)->B.heap.CodeRec cd d.name->mg d.name=yz QvH ->
   B.heap.get? a=yz QI1->Vby vs ns->lg ns<=n->B.gens=#[] ->
   Vcq (Vj l.prog w) callerA Qs5 Q51 B):
  WalkO q loose XP YP l.row.toRowW d [] QK9:=by
 intro w s₀ B mg mb G Y fa o pm cd L dV kV ho hd ah hD ai hg ak aj as ac al an ag am;obtain rfl:dV=.none:=Dflts.none hD af;obtain rfl:kV=.none:=Dflts.noKw hD;let⟨a,vs,ns,rfl,rfl,ab,aa,ae⟩:=Xwu hn ac ag;calc enter_call (Vea (call w s₀ B mg mb fa o pm cd L a vs ns G Y ho (fd_plain hd) ah ai ab aa ae hg) λr s' hq=>?_);let⟨rfl,h2,h3,h4⟩:=hq;calc⟨.inl ⟨.bool yx,.bool yx,[],rfl,λ_=>rfl,.bool yx,Xwv l _,λ_=>⟨Vek,λ_ hm=>(nomatch hm)⟩⟩,h2,h3,h4⟩
universe Att
namespace L2
open PySem PySem.Spec PyProof.Rows
def Xeq:∀ {vs:LV} {ns:LI},Vby vs ns->Vals QV2 vs
 |_,_,.nil=>.nil|_,_,.cons n t h=>.cons QU (Xeq h)
theorem X0g(H:Hp):Prop:=∀b,H b=yy\/∃o xs,H b=yz (.frz o QD1)
def X0h{P:V3}{w:Ua}{K:Vh}{mg mb:Str->OV}{CX:CXT}{k:Nat}{fa a:Addr}{fd:Vdh}{x:Str}{sp:Sp}{B:Vc}{vs:LV}{ns:LI}
  (KX:K.In B.heap) (ae:B.heap.Ns Up mg) (hb:B.heap.Ns Vgw mb) (ak:∀x:Str,x ≠ "__name__" -> mb x=Vew x) (af:B.heap.NoLimit) (hg:B.gens=#[])
  (ha:B.heap.get? a=yz QI1) (hi:Vby vs ns) (hl:QyE<=V8) (hr:Room k callerA)
  (F:∀base:Heap,K.In base->base.Ns Up mg->FnOk P w K mg base CX k fa fd [x] sp) (ac:∀(s:Vc) (u:Vb),BindsTo s fd QSN [(x,u)])
  (aj:∀H:Hp,X0g H->SqL K H a QV2->sp QVC H QrE λ_ _ _=>False)
  (al:∀H e s',CX [] H B Q4G e s'->False):
  Vcq QeA callerA Qs5 Q51 B:=by
 let rv:=Xeq hi;let ai:=hi.length;let ab:∀H:Hp,X0g H->SqL K H a QV2->HOk P w H B.heap->(∀b,H b≠yy->b=a)->(H a≠yy->K.lookup a=yy) ->
   Vcq QeA callerA Qs5 Q51 B:=by
  intro H hO hS hok hA hK;let L:∀ {b:Addr} {o:Obj},B.heap.get? b=yz o->H b=yy->QP9.get? b=yz o:=λe n=>X0a e n;let am:∀ {b:Addr} {o:Obj} {es:Array DictEntry} {ep:Nat},B.heap.get? b=yz o->o.data=.dict es ep->H b=none:=λ{b o es ep} e d=>by
   cases q:H b with
   |none=>rfl|some u=>let e':b=a:=hA b QUH;subst e';rw[ha]at e;cases e;let d':Data.seq vs.toArray _=Data.dict es ep:=d;cases d'
  let aa:∀ {b:Addr} {m:Str->OV},B.heap.Ns b m->QP9.Ns b m:=λ{b m} ⟨o,es,ep,e,d,r⟩=>⟨o,es,ep,L e (am e d),d,r⟩
  let ah:K.In QP9:=λb o e=>L (KX b o e) (by
   cases q:H b with
   |none=>rfl|some u=>
    let e':b=a:=hA b QUH
    subst e';rw[hK QUH]at e;cases e)
  let hM:Mod K mg QP9:=⟨ah,aa ae,⟨mb,aa hb,ak⟩,let ⟨mc,h1,h2⟩:=af;⟨mc,aa h1,h2⟩⟩;let e0:Env0 P w K mg QP9 callerA [] B H:=⟨rfl,hM,λb o e=>X4h e,Nat.le_of_eq (Xwp _ _),trivial,λb hb=>aB0 (show b∈Qac from hb) QA,hok,.of_eq hg⟩;calc Vea ((F _ ah (aa ae)).run callerA [] B H QOa QVC QVC _ _ hr e0 (ac B Qt) (.cons rfl .nil) (aj H hO hS)) λr s' h=>?_;cases r with
  |error e=>exact(al H e s' h).elim|ok fl=>
   cases fl with
   |next=>exact Vib h|brk=>exact Vib h|cont=>exact Vib h|ret u=>
    let⟨v,H',os,bare,un,ag,r',q⟩:=h;let q':v=.bl true:=q;subst q';obtain rfl:u=Vfu true:=r';calc⟨rfl,OldK.of_keep λb o e=>?_,os,bare⟩;cases q:H b with
    |none=>exact un.keep b o e q (by intro z;calc aB0 (show b∈Qac from z) QA) QA|some u=>
     rcases hO b with z|⟨ob,xs,z⟩;·rw[q]at z;cases z
     ·let z2:=un.frzs b ob _ z;let⟨e1,_⟩:=hok b _ z;let⟨e2,_⟩:=ag b _ z2;rw[e]at e1;cases e1;exact e2
 cases hk:K.lookup a with
 |some o=>let e:=KX a o hk;rw[ha]at e;cases e;exact ab QCS (λ_=>.inl rfl) (.inr ⟨_,vs.toArray,_,hk,rfl,rfl,rfl,by rw[Vq,ai];calc hl,by simpa using rv⟩) (λb u z=>by let z':(yy:Option HO)=yz u:=z;cases z') (λb z=>aB0 rfl z) λz=>aB0 rfl z|none=>
  exact ab (λb=>if b=a then yz (.frz QI1 (.lst QV2)) else yy) (λb=>?_) (.inl (.inr ⟨QI1,iP0 rfl⟩)) (λb u z=>?_) (λb z=>?_) λ_=>hk
  ·by_cases hb:b=a;·exact .inr ⟨_,_,iP0 hb⟩
   ·exact .inl QgV
  ·by_cases hb:b=a;·let z':=(iP0 hb).symm.trans z;cases z';subst hb;exact⟨ha,by rw[Ve];calc hl,vs,_,rv,ha⟩
   ·let z':=(iN0 hb).symm.trans z;cases z'
  by_cases hb:b=a;·exact hb
  ·calc aB0 QgV z
universe L2
namespace L2
open PySem PySem.Spec PyProof.Rows
def walk_of{l:PySem.W.OpenLaw}{n k:Nat}{q:V3}{loose:LS}{XP:QVT->Heap->Prop}{YP:Ua->Heap->Prop}{d:DefRec}{K:Params->Vh}{CX:Ua->CXT}{sp:Ua->Sp}{x:Str}
  (hn:l.most=yz n) (ae:n<=V8) (af:d.params.defaults=[]) (hr:Room k callerA)
  (hY:∀(w:Ua) (h:Heap),YP w h->Qf2.In h)
  (F:∀(w:Ua) (mg:Str->OV) (fa:Addr) (h:Heap),Qf2.In h->h.Ns Up mg->mg d.name=yz QvH ->
   ∃fd:Vdh,Q33 /\
    ∀base:Heap,Qf2.In base->base.Ns Up mg->FnOk l.prog w Qf2 mg base (CX w) k fa fd [x] (sp w))
  (ac:∀(w:Ua) (H:Hp) (a:Addr) (ns:LI),lg ns<=n->X0g H->SqL Qf2 H a QV2->sp w QVC H QrE λ_ _ _=>False)
  (ah:∀(w:Ua) (H:Hp) (s:Vc) (e:Vb) (s':Vc),CX w [] H s Q4G e s'->False):
  PySem.W.WalkO q loose XP YP l.row.toRowW d [] QK9:=by
 calc Att.attach_call hn af λw s₀ ab mg mb fa o pm cd aj a vs ns G Y ho hd ai ag aa L B hg=>?_;let KX:=hY w _ Y;let⟨fd,hb,hF⟩:=F w mg fa _ KX G.T.g ag;calc X0h KX G.T.g G.T.b G.T.builtins G.T.nolimit hg aa L (V5 B ae) hr hF hb (λH hO hS=>ac w H a ns B hO hS) λH e s'=>ah w H ab e s'
universe L2
/- THE LAST THEOREM (shape;LID,My.* are yours):
   My.Adr: a structure of the addresses that your layer names (classes,functions);My.Txt K t: a structure (Prop) of the equations over K;
   My.txt_mk:{K} {implicit addresses ..} (e1:nsIn K Up "law"=yz Qud) (e2:K.lookup f=yz ⟨oc,od,.func (fnOf "law" "law" params body scope dV kV doc pm an cdv ct),sl⟩) (e3:codeIn K cdv "law"=yx) ..:∃t,My.Txt K t
set_option maxRecDepth 100000 in
set_option maxHeartbeats 0 in
def PySem.Challenge.cw_LID_holds : PySem.Challenge.rw_LID.Holds := by
 w_on;o_law;k_head;(case hw=>w_witness2)
 k_fill
 exact L2.walk_of (l:=PySem.Challenge.rw_LID) (n:=63) (k:=40) (x:="script") (CX:=λw=>..) (sp:=λ_=>My.sp_law) rfl Q1 rfl ⟨rfl,by decide,by decide⟩ (λw h Y=>PySem.W.kIn_of Y) ?F ?S ?C
 case F =>
  intro w mg fa h KX G hmg;let T:∃t,My.Txt (L2.KOf KX) t:=by
   dsimp[L2.KOf]                          -- K must stand as «<heap const> w.params» for k_is;refine' My.txt_mk ?e1 ?e2 ?e3 ..
   (case e1=>PySem.W.k_is)                    -- in the order: a name -> its address -> its object -> its parts
   (case e2=>PySem.W.k_is)
   ..
  let⟨t,T⟩:=T;let e0:=hmg.symm.trans (Vdr KX G T.law);cases e0                                       -- fa is the law's own address;exact⟨_,λs u=>.of_eq rfl,λbase kb nb=>My.law_fn T kb nb⟩     -- if «.of_eq rfl» comes too early: refine' ⟨_,?b,λbase kb nb=>My.law_fn T kb nb⟩;exact λs u=>.of_eq rfl
 case S=>exact λw H a ns hl hO hS=>..
 case C=>calc ..
(the tactic k_is has no namespace: write k_is) -/
namespace L2
open PySem PySem.Spec PyProof.Rows
abbrev Xbk(s:Stmt):Arguments:=match s with
 |.FunctionDef _ a _ _ _ _ _ _ _ _=>a|_=>{posonlyargs:=[],args:=[],vararg:=yy,kwonlyargs:=[],kw_defaults:=[],kwarg:=yy,defaults:=[]}
abbrev Yl(s:Stmt):LM:=match s with
 |.FunctionDef _ _ b _ _ _ _ _ _ _=>b|_=>[]
abbrev Xv(s:Stmt):Vaj:=match s with
 |.FunctionDef _ _ _ _ _ _ sc _ _ _=>sc|_=>{kind:=.function,names:=[],isGenerator:=yw,isCoroutine:=yw}
structure Fun(K:Vh)(x qual:Str)(st:Stmt)(f:Addr)(fd:Vdh):Prop where
 ex:∃(oc:Vb) (od:Option Addr) (kV doc pm:Vb) (an:Option Addr) (cdv ct:Vb) (osl:Array OV),
  fd=Vc6 x qual QAW QfB Qq5 .none kV doc pm an cdv ct/\K.lookup f=yz ⟨oc,od,.func fd,osl⟩/\Vit K cdv qual=yx
 kp:Vev K QB9=yx
section
variable{K:Vh}
def Fun.binds{x qual:Str}{st:Stmt}{f:Addr}{fd:Vdh}{ps:LS}(F:Fun K x qual st f fd)
  (h:∀(kV B pm:Vb) (an:Option Addr) (L ct:Vb) (us:LV),lg us=lg ps->bindArgs (Vc6 x qual QAW QfB Qq5 .none kV B pm an L ct) QvA=pure Qk6):Binds K fd ps []:=by
 let⟨oc,od,kV,B,pm,an,L,ct,ab,rfl,lk,aa⟩:=F.ex;calc .all (h kV B pm an L ct)
def X8d{x qual:Str}{st:Stmt}{f:Addr}{oc:Vb}{od an:Option Addr}{aa:Array (OV)}{kV L pm B ct:Vb}(l:K.lookup f=yz ⟨oc,od,.func QV7,aa⟩)
  (c:Vit K B qual=yx) (k:Vev K QB9=yx):Fun K x qual st f QV7:=⟨⟨oc,od,kV,L,pm,an,B,ct,aa,rfl,l,c⟩,k⟩
universe e
universe L2
universe e
section
namespace Z
open PySem PySem.Spec PyProof.Rows L2
inductive D where
 |non|bl (b:Bool)|int (i:Int)|str (x:Str)|tup (xs:List D)|ref (n:Nat)|fro (xs:List D)|fn (f:Nat) (nm:Str)|edc
 deriving Inhabited
private abbrev LD:=List D
inductive O where
 |lst (xs:LD)|fdc (kvs:List QHF)|dct (kvs:List QHF)|exc (c:Nat)|st (ks:LL)|ded
private noncomputable abbrev Sto:=List O
private noncomputable abbrev En:=List Qw3
inductive R(α:Type) where
 |ok (a:α) (S:Sto)|ex (n:Nat) (S:Sto)|bad
abbrev R.bind{α β:Type}:R α->(α->Sto->R β)->R β
 |.ok a S,f=>f a S|.ex n S,_=>.ex n S|.bad,_=>.bad
@[simp] def Rk0{α β:Type}(a:α)(S:Sto)(f:α->Sto->R β):(R.ok a S).bind f=f a S:=rfl
def ond{α β:Type}{r:R α}{a:α}{S:Sto}{f:α->Sto->R β}{q:R β}(h:r=.ok a S)(k:f a S=q):r.bind f=q:=h▸k
def onx{α β:Type}{r:R α}{n:Nat}{S:Sto}{f:α->Sto->R β}(h:r=.ex n S):r.bind f=.ex n S:=h▸rfl
abbrev big:Nat:=1000000
set_option genInjectivity false
inductive Bo where|add|sub|mul|fdiv|mod|pow|shl|shr|band
 deriving DecidableEq
inductive Co where|eq|ne|lt|le|gt|ge|isin|notin|is
 deriving DecidableEq
inductive Ty where|int|bool|str|tuple|list|dict|cls(c:Nat)|valueError
 deriving DecidableEq
inductive Bl where
 |len|min|max|mxl|smB|sorted|all|anb|tuple|list
 deriving DecidableEq
inductive Mt where
 |append|xtd|index|count|popi
 deriving DecidableEq
inductive Tg where
 |var (i:Nat)
 |tup (is:LN)
mutual
inductive Ex where
 |nev
 |var (i:Nat)
 |cst (d:D)
 |neg (a:Ex)
 |glb (k:Nat)
 |tup (es:Exs)
 |lst (es:Exs)
 |dct0
 |bin (op:Bo) (a b:Ex)
 |cmp (op:Co) (a b:Ex)
 |chn (o1 o2:Co) (a b c:Ex)
 |and (a b:Ex)
 |or (a b:Ex)
 |not (a:Ex)
 |ite (c a b:Ex)
 |idx (a i:Ex)
 |sli (a:Ex) (lo hi:Op)
 |rev (a:Ex)
 |call (f:Nat) (es:Exs)
 |cal (e:Ex) (es:Exs)
 |blt (k:Bl) (es:Exs)
 |mth (k:Mt) (o:Ex) (es:Exs)
 |isi (a:Ex) (ts:List Ty)
 |lrg (t:Bool) (es:Exs)
 |cmr (k:Bool) (n:Nat) (gs:Gens) (elt:Ex)
 |sst (a:Ex)
 |frz (a:Ex)
 |st0
 |sad (o:Ex) (es:Exs)
 |srs (a:Ex)
 |st2 (k:Bool) (a:Ex)
inductive Op where
 |none|some (e:Ex)
inductive Exs where
 |nil|cons (e:Ex) (es:Exs)
inductive Gens where
 |nil|cons (t:Tg) (it:It) (ifs:Exs) (gs:Gens)
inductive It where
 |val (e:Ex)|rng (es:Exs)|zpp (es:Exs)|enm (es:Exs)
end
mutual
inductive St where
 |nev
 |asg (t:Tg) (e:Ex)
 |par (is:LN) (es:Exs)
 |aset (o i e:Ex)
 |augi (o i:Ex) (op:Bo) (e:Ex)
 |expr (e:Ex)
 |ret (e:Ex)
 |ite (c:Ex) (a b:Sts)
 |for (t:Tg) (it:It) (b:Sts)
 |rse (c:Nat) (e:Ex)
 |try (b:Sts) (c:Nat) (x:Nat) (h:Sts)
 |pass
 |brk
 |cnt
inductive Sts where
 |nil|cons (s:St) (ss:Sts)
end
set_option genInjectivity true
inductive Fl where
 |nx (e:En)|brk (e:En)|cnt (e:En)|rt (d:D)
abbrev lstAt(S:Sto)(n:Nat):Option (LD):=
 match S[n]? with
 |some QD1=>yz xs|_=>yy
abbrev lstM(S:Sto)(n:Nat):Option (LD):=
 match S[n]? with
 |some QD1=>yz xs|_=>yy
mutual
abbrev Yi(B:Nat->Option Vcn):D->Option Vcn
 |.non=>yz .none|.bl b=>yz QiM|.int i=>yz Q61|.str x=>yz QNP|.tup xs=>QjX.map PyData.tuple|.fro xs=>QjX.map PyData.list|.fn _ _=>yy|.edc=>yz QoQ|.ref n=>B n
abbrev datFs(B:Nat->Option Vcn):LD->Option (List Vcn)
 |[]=>yz []|x::xs=>match Yi B x,datFs B xs with
  |some p,yz ps=>yz (p::ps)|_,_=>yy
end
abbrev Xdj(S:Sto):Nat->Nat->Option Vcn
 |0,_=>yy|k+1,n=>match S[n]? with
  |some QD1=>(datFs Qpc xs).map PyData.list|some QcM=>yz QoQ|_=>yy
abbrev Xaf(S:Sto)(d:D):Option Vcn:=Yi Q4M d
abbrev Xgq(x y:D):Option Bool:=match x with
 |.str a=>(match y with
  |.str b=>yz QmG
  |_=>yy)
 |_=>yy
abbrev lsD(S:Sto):D->Option (LD)
 |.fro xs=>yz xs|.ref n=>lstAt S n|_=>yy
abbrev Xja(S:Sto)(x y:D):Option Bool:=match lsD S x,lsD S y with
 |some xs,yz ys=>if QL=lg ys then yy else yz yw|_,_=>yy
abbrev eqD(S:Sto)(x y:D):Option Bool:=match Xgq x y with
 |some r=>yz r|none=>match Xaf S x,Xaf S y with
  |some p,yz q=>if p.canLay0&&q.canLay0&&decide QAK then yz (Vdk p q) else Xja S x y|_,_=>Xja S x y
abbrev inD(S:Sto)(x y:D):Option Bool:=match Xaf S x,Xaf S y with
 |some p,yz QOb=>if p.canLay0&&Vfi qs&&decide QAK then yz QcL else yy|some p,yz Q8a=>if p.canLay0&&Vfi qs&&decide QAK then yz QcL else yy|_,_=>yy
abbrev Xi(S:Sto):D->Option (LD)
 |.tup xs=>yz xs|.fro xs=>yz xs|.ref n=>lstAt S n|_=>yy
abbrev Xf:LD->Option (LI)
 |[]=>yz []|.int i::r=>(Xf r).map Qsf|_::_=>yy
abbrev X3:LD->Option (List Bool)
 |[]=>yz []|.bl i::r=>(X3 r).map Qsf|_::_=>yy
abbrev ltL:LI->LI->Bool
 |[],[]=>yw|[],_::_=>yx|_::_,[]=>yw|x::xs,y::ys=>if x=y then ltL xs ys else decide (x<y)
abbrev ltD:D->D->Option Bool
 |.int i,.int j=>yz (decide (i<j))|.tup xs,.tup ys=>match Xf xs with
  |some a=>match Xf ys with
   |some b=>yz (ltL a b)|none=>yy
  |none=>yy
 |_,_=>yy
abbrev Xjb(x:Int):LI->LI
 |[]=>[x]|y::r=>if x<=y then x::y::r else y::Xjb x r
abbrev Xbr:LI->LI
 |[]=>[]|x::r=>Xjb x QTg
abbrev ddS(B:LI)(x:Int):LI:=if x∈B then B else B++[x]
abbrev ddI(ns:LI):LI:=ns.foldl ddS []
abbrev Xab:LD->Option (LL)
 |[]=>yz []|.tup ds::r=>match Xf ds with
  |some k=>(Xab r).map (k :: ·)|none=>yy
 |_::_=>yy
abbrev ddR(B:LL)(k:LI):LL:=if k∈B then B else B++[k]
abbrev ddL(ks:LL):LL:=ks.foldl ddR []
abbrev Xle(k:LI):LL->LL
 |[]=>[k]|y::r=>if ltL k y then k::y::r else y::Xle k r
abbrev Xy:LL->LL
 |[]=>[]|k::r=>Xle k (Xy r)
abbrev Xbs(B:LD)(S:Sto):R D:=match Xf B with
 |some L=>if Qzf.length<60 then .ok Q7 (S++[.lst ((Xbr Qzf).map D.int)]) else .bad|none=>match Xab B with
  |some ks=>if QB4.length<1000 then .ok Q7 (S++[.lst (QMK.map λk=>.tup Qm1)]) else .bad|none=>.bad
abbrev Xlf(ks:LL):Option (LL):=if QS7<100000 then yz Q8g else yy
abbrev X4(S:Sto):D->Option Bool
 |.non=>yz yw|.bl b=>yz b|.int i=>yz QiV|.str x=>if x.length<=big then yz ((x.length:Int) != 0) else yy|.tup xs=>yz QrK|.fro xs=>yz QrK|.fn _ _=>yy|.edc=>yy|.ref n=>match S[n]? with
  |some QD1=>yz QrK|_=>yy
abbrev Xaj(i j:Int):Bool:=(decide (-QDL<i)&&decide (i<18446744073709551616))||(decide (-QDL<j)&&decide (j<18446744073709551616))||(decide (i.natAbs.log2<100000)&&decide (j.natAbs.log2<100000))
abbrev Xhr(j:Int):Bool:=decide (0<j)&&decide (j.natAbs.log2<9000)
abbrev Xl(op:Bo)(x y:D)(S:Sto):R D:=match op with
 |.add=>match x,y with
  |.int i,.int j=>.ok QXM S|.tup x,.tup y=>if QuO+lg y<=big then .ok QfW S else .bad|x,y=>match lsD S x,lsD S y with
   |some x,yz y=>if QuO+lg y<=big then .ok Q7 QHP else .bad|_,_=>.bad
 |.sub=>match x,y with
  |.int i,.int j=>.ok QWM S|_,_=>.bad
 |.mul=>match x,y with
  |.int i,.int j=>if Xaj i j then .ok QoF S else .bad|.tup x,.int k=>if k<1048576/\QuO*k.toNat<=big/\-QY8<k/\x.isEmpty=yw then .ok (.tup QQU.flatten) S else .bad|.ref n,.int k=>match lstM S n with
   |some x=>if k<1048576/\QuO*k.toNat<=big/\-QY8<k then .ok Q7 (S++[.lst QQU.flatten]) else .bad|none=>.bad
  |_,_=>.bad
 |.fdiv=>match x,y with
  |.int i,.int j=>if Xhr j then .ok QFY S else .bad|_,_=>.bad
 |.mod=>match x,y with
  |.int i,.int j=>if 0<j then .ok QGY S else .bad|_,_=>.bad
 |.pow=>match x,y with
  |.int i,.int j=>if 0<=j/\j<=1000/\i.natAbs<2^63 then .ok QUP S else .bad|_,_=>.bad
 |.shl=>match x,y with
  |.int i,.int j=>if 0<=j/\j<=1000/\i.natAbs<2^63 then .ok (.int (i*2^j.toNat)) S else .bad|_,_=>.bad
 |.shr=>match x,y with
  |.int i,.int j=>if 0<=j then .ok (.int (i.fdiv (2^j.toNat))) S else .bad|_,_=>.bad
 |.band=>match x,y with
  |.int i,.int j=>.ok (.int (Viu i j)) S|_,_=>.bad
abbrev Xlg(op:Bo)(x y:D)(S:Sto):R D:=match x with
 |.int i=>(match y with
  |.int j=>(match op with
   |.add=>.ok QXM S|.sub=>.ok QWM S|.mul=>if Xaj i j then .ok QoF S else .bad
   |_=>.bad)
  |_=>.bad)
 |_=>.bad
abbrev Xa9(op:Co)(x y:D)(S:Sto):Option Bool:=match op with
 |.eq=>eqD S x y|.ne=>(eqD S x y).map (!·)|.lt=>ltD x y|.le=>match x,y with
  |.int i,.int j=>yz (decide (i<=j))|_,_=>yy
 |.gt=>match x,y with
  |.int i,.int j=>yz (decide (j<i))|_,_=>yy
 |.ge=>match x,y with
  |.int i,.int j=>yz (decide (j<=i))|_,_=>yy
 |.isin=>inD S x y|.notin=>(inD S x y).map (!·)|.is=>match y with
  |.non=>yz (match x with|.non=>yx|_=>yw)|_=>yy
abbrev ixN(n:Nat)(i:Int):Option Nat:=if 0<=i then (if i<n then yz i.toNat else yy) else if-(n:Int)<=i then yz QLc.toNat else yy
abbrev Xbt(x:D)(i:D)(S:Sto):Option D:=
 match i with
 |.int k=>match x with
  |_=>QOK.bind λxs=>Qha.bind λj=>xs[j]?
 |_=>yy
abbrev Xw(op:Co)(x y:D)(S:Sto):R D:=match Xa9 op x y S with
 |some r=>.ok QuB S|none=>.bad
abbrev Xdz(x i:D)(S:Sto):R D:=match Xbt x i S with
 |some d=>.ok d S|none=>.bad
abbrev Xgr(x i:D)(S:Sto):R D:=match x,i with
 |.ref n,.int k=>match lstAt S n with
  |some xs=>match Qha.bind λj=>xs[j]? with
   |some d=>.ok d S|none=>.bad
  |none=>.bad
 |_,_=>.bad
abbrev Xak(ifs:En->Sto->R Bool)(body:En->LD->Sto->R LD)(env:En)(B:LD)(S:Sto):R (LD):=(ifs env S).bind λb S=>if b then body env B S else .ok B S
abbrev Xd0(n:Nat)(d:Nat):Option Int->Nat
 |none=>d|some i=>if 0<=i then min i.toNat n else QLc.toNat
abbrev cut{α:Type}(xs:List α)(lo hi:Option Int):List α:=
 (xs.drop (Xd0 QL 0 lo)).take (Xd0 QL QL hi-Xd0 QL 0 lo)
abbrev Xjc:Option D->Option (Option Int)
 |none=>yz yy|some Q61=>yz Qob|_=>yy
abbrev Xlh(x:D)(lo hi:Option Int)(S:Sto):R D:=
 match x with
 |.tup xs=>.ok (.tup QGU) S|_=>.bad
abbrev X0i(x:D)(S:Sto):R D:=
 match x with
 |.tup xs=>.ok (.tup xs.reverse) S|_=>.bad
abbrev alt{α:Type}:List α->List α
 |[]=>[]|[x]=>[x]|x::_::r=>x::alt r
abbrev Xcc(f:Nat)(nm:Str):LD->Bool
 |[]=>yw|.fn g m::r=>(g==f&&decide QSh)||Xcc f nm r|_::r=>Xcc f nm r
abbrev Xck(n:Nat):LD->LD
 |[]=>[]|x::r=>.tup Qkd::Xck QF6 r
inductive Kd where|non|bool|int|str|tuple|list|dict|exc(c:Nat)
 deriving DecidableEq
abbrev kdD(S:Sto):D->Option Kd
 |.non=>yz .non|.bl _=>yz .bool|.int _=>yz .int|.str _=>yz .str|.tup _=>yz .tuple|.fro _=>yz .list|.fn _ _=>yy|.edc=>yz .dict|.ref n=>match S[n]? with
  |some Q7f=>yz .list|some QcM=>yz .dict|some Qp3=>yz Qp3|_=>yy
abbrev tyQ(b i s t l d:Bool):Ty->Option Bool
 |.bool=>yz b|.int=>yz i|.str=>yz s|.tuple=>yz t|.list=>yz l|.dict=>yz d|.cls _=>yy|.valueError=>yy
abbrev isT:Kd->Ty->Option Bool
 |.exc c',t=>match t with
  |.cls c=>yz QzD|.valueError=>yz yx|_=>yy
 |.non,t=>tyQ yw yw yw yw yw yw t|.bool,t=>tyQ yx yx yw yw yw yw t|.int,t=>tyQ yw yx yw yw yw yw t|.str,t=>tyQ yw yw yx yw yw yw t|.tuple,t=>tyQ yw yw yw yx yw yw t|.list,t=>tyQ yw yw yw yw yx yw t|.dict,t=>tyQ yw yw yw yw yw yx t
abbrev Y4(k:Kd):List Ty->Option Bool
 |[]=>yz yw|t::r=>match isT k t with
  |some yx=>yz yx|some yw=>Y4 k r|none=>yy
abbrev szI(i:Int):Nat:=if i.natAbs<1000 then 4 else 1921
mutual
abbrev szD:Vcn->Nat
 |.none=>4|.bool _=>5|.int i=>szI i|.str x=>(reprText x).length|.list xs=>szDs xs+2|.tuple xs=>szDs xs+3|.dict _=>2
abbrev szDs:List Vcn->Nat
 |[]=>0|x::xs=>szD x+2+szDs xs
end
mutual
abbrev Xli:Vcn->Bool
 |.none=>yx|.bool _=>yx|.int _=>yx|.str _=>yx|.list xs=>dctEs xs|.tuple xs=>dctEs xs|.dict kvs=>kvs.isEmpty
abbrev dctEs:List Vcn->Bool
 |[]=>yx|x::xs=>Xli x&&dctEs xs
end
abbrev X2(k:Bl)(ds:LD)(S:Sto):R D:=match k with
 |.len=>match ds with
  |[x]=>match x with
   |_=>match Xi S x with
    |some xs=>.ok Q4A S|none=>.bad
  |_=>.bad
 |.tuple=>match ds with
  |[x]=>match Xi S x with
   |some xs=>.ok Q21 S|none=>.bad
  |_=>.bad
 |.list=>match ds with
  |[x]=>match Xi S x with
   |some xs=>.ok Q7 QQ1|none=>.bad
  |_=>.bad
 |.all=>match ds with
  |[x]=>match QOK.bind X3 with
   |some bs=>.ok (.bl (bs.all id)) S|none=>.bad
  |_=>.bad
 |.anb=>match ds with
  |[x]=>match QOK.bind X3 with
   |some bs=>.ok QtQ S|none=>.bad
  |_=>.bad
 |.smB=>match ds with
  |[x]=>match QOK.bind Xf with
   |some B=>.ok (.int B.sum) S|none=>.bad
  |_=>.bad
 |.max=>match ds with
  |Q85=>.ok QNG S|_=>.bad
 |.min=>match ds with
  |Q85=>.ok QOG S|_=>.bad
 |.sorted=>match ds with
  |[x]=>match Xi S x with
   |some xs=>match Xf xs with
    |some B=>if QIH<64 then .ok Q7 (S++[.lst ((Xbr B).map D.int)]) else .bad|none=>match Xab xs with
     |some ks=>match Xlf ks with
      |some r=>.ok Q7 (S++[.lst (r.map λk=>.tup Qm1)])|none=>.bad
     |none=>.bad
   |none=>.bad
  |_=>.bad
 |.mxl=>match ds with
  |[x]=>match QOK.bind Xf with
   |some B=>match B with
    |n::r=>.ok (.int (r.foldl max n)) S|[]=>.bad
   |none=>.bad
  |_=>.bad
abbrev Y5(k:Mt)(o:D)(ds:LD)(S:Sto):R D:=match o,ds with
 |.ref n,[x]=>match k with
  |.append=>match lstM S n with
   |some xs=>if QL<big then .ok .non (S.set n (.lst (xs++[x]))) else .bad|none=>.bad
  |.xtd=>match lstM S n with
   |some xs=>match Xi S x with
    |some ys=>if QL+lg ys<=big then .ok .non (S.set n (.lst QlO)) else .bad|none=>.bad
   |none=>.bad
  |.popi=>match x with
   |.int k=>match lstM S n with
    |some xs=>match ixN QL k with
     |some j=>match xs[j]? with
      |some y=>if QL<big then .ok y (S.set n (.lst QIS)) else .bad|none=>.bad
     |none=>.bad
    |none=>.bad
   |_=>.bad
  |.index=>match x with
   |.bl b=>match Qv4.bind X3 with
    |some bs=>match bs.findIdx? QfN with
     |some i=>.ok Q61 S|none=>.bad
    |none=>.bad
   |.int c=>match Qv4.bind Xf with
    |some B=>match B.findIdx? QPf with
     |some i=>.ok Q61 S|none=>.bad
    |none=>.bad
   |_=>.bad
  |.count=>match x with
   |.bl b=>match Qv4.bind X3 with
    |some bs=>.ok (.int (bs.countP QfN:Nat)) S|none=>.bad
   |.int c=>match Qv4.bind Xf with
    |some B=>.ok (.int (B.countP QPf:Nat)) S|none=>.bad
   |_=>.bad
 |_,_=>.bad
abbrev Xat(k:Mt)(x:D)(S:Sto):Bool:=match x with
 |.ref n=>Qv4.isSome|_=>yw
abbrev Xbl(o i v:D)(S:Sto):R Unit:=
 match o with
 |.ref n=>match i with
  |.int k=>match lstM S n with
   |some xs=>match ixN QL k with
    |some j=>.ok () (S.set n Q7D)|none=>.bad
   |none=>.bad
  |_=>.bad
 |_=>.bad
abbrev Xbm(S:Sto)(n:Nat):Option (LL):=match S[n]? with
 |some (.st ks)=>yz ks|_=>yy
abbrev Xjd(S:Sto)(x:D):Bool:=match x with
 |.ref n=>(Xbm S n).isSome|_=>yw
abbrev Xey(o:D)(ds:LD)(S:Sto):R D:=match o with
 |.ref n=>match ds with
  |QBV=>match Xbm S n with
   |some ks=>match Xf xs with
    |some k=>if QS7<1000 then .ok .non QLO else .bad|none=>.bad
   |none=>.bad
  |_=>.bad
 |_=>.bad
abbrev Xoj(x:D)(S:Sto):R D:=match x with
 |.ref n=>match Xbm S n with
  |some ks=>if QS7<10000 then .ok Q7 (S++[.lst (Q8g.map λk=>.tup Qm1)]) else .bad|none=>.bad
 |_=>.bad
abbrev Xgs(k:Bool)(x:D)(S:Sto):R D:=match x with
 |.tup xs=>.ok (.tup (alt (xs.drop (if k then 2 else 1)))) S|_=>.bad
abbrev X8e(p:LI×D):D:=.tup [.tup (p.1.map D.int),p.2]
inductive Src where
 |con (xs:LD)|ref (n:Nat)|zpp (a b:Src)|enm (a:Src)
abbrev Src.get:Src->Sto->Nat->Option Qw3
 |.con xs,_,i=>yz xs[i]?|.ref n,S,i=>Qv4.map λxs=>xs[i]?|.zpp a b,S,i=>match a.get S i,b.get S i with
  |some QQ3,yz QDh=>yz (yz QfQ)|some _,yz _=>yz yy|_,_=>yy
 |.enm a,S,i=>match a.get S i with
  |some QQ3=>yz (yz (.tup Qld))|r=>r
abbrev Src.most:Src->Sto->Nat
 |.con xs,_=>lg xs|.ref n,S=>(Qv4.getD []).length|.zpp a b,S=>min (a.most S) (b.most S)|.enm a,S=>a.most S
abbrev Yg(S:Sto):D->Option Src
 |.tup xs=>yz Q7A|.fro xs=>yz Q7A|.ref n=>Qv4.map λ_=>.ref n|_=>yy
abbrev Xbe:LD->Option (LD)
 |QER=>if-QY8<j/\j<1048576 then yz QF4 else yy|_=>yy
abbrev Xx(t:Tg)(d:D)(env:En):Option En:=
 match t with
 |.var i=>yz QSH|.tup is=>match d with
  |.tup ds=>if QdS=lg ds then yz Qg8 else yy|_=>yy
abbrev slots:Tg->LN
 |.var i=>[i]|.tup is=>is
abbrev Xww(t:Tg)(env:En):Bool:=(slots t).all λi=>match env[i]? with
 |some (yz _)=>yw|_=>yx
abbrev Yz(get:Sto->Nat->Option Qw3)(t:Tg)(body:En->LD->Sto->R LD):Nat->Nat->En->LD->Sto->R (LD)
 |0,_,_,_,_=>.bad|k+1,i,env,acc,S=>match get S i with
  |none=>.bad|some yy=>.ok acc S|some QZC=>match Xx t d env with
   |none=>.bad|some B=>match body B acc S with
    |.ok L S'=>Yz get t body k QX2 B L S'|_=>.bad
mutual
abbrev bdD(k:Nat):D->Bool
 |.ref n=>decide (n<k)|.tup xs=>bdDs k xs|.fro xs=>bdDs k xs|_=>yx
abbrev bdDs(k:Nat):LD->Bool
 |[]=>yx|x::xs=>bdD k x&&bdDs k xs
end
abbrev bdO(k:Nat):O->Bool
 |.lst xs=>bdDs k xs|.dct kvs=>kvs.all λp=>bdD k p.2|.fdc kvs=>kvs.all λp=>bdD k p.2|_=>yx
theorem Xgt(S S':Sto):Prop:=lg S<=lg S'/\∀(i:Nat) (o:O),i<lg S->S'[i]?=yz o->S[i]?=yz o\/bdO QD o=yx
abbrev gcR(S:Sto):R D->R D
 |.ok d S'=>open Classical in if Xgt S S' then (if bdD QD d then .ok d QIM else match d with
  |.ref n=>match S'[n]? with
   |some o=>if bdO QD o then .ok Q7 QUQ else .bad|none=>.bad
  |_=>.bad) else .bad
 |.ex n S'=>open Classical in if Xgt S S'/\QD<=n then match S'[n]? with
  |some Qp3=>.ex QD (S'.take QD++Qb9)|_=>.bad else .bad
 |.bad=>.bad
abbrev Xba:R D->R D
 |.ok d S=>match d with
  |.ref n=>match S[n]? with
   |some QD1=>.ok Q5A QiC|some QcM=>.ok .edc QiC|_=>.bad
  |d=>.ok d S
 |r=>r
private noncomputable abbrev Fn:=Nat->LD->Sto->R D
noncomputable section
variable(F:Fn)(G:LD)
mutual
abbrev ev:Ex->En->Sto->R D
 |.nev,_,_=>.bad|.var i,env,S=>match env[i]? with
  |some QZC=>.ok d S|_=>.bad
 |.cst d,_,S=>.ok d S|.neg a,env,S=>Qo1.bind λx S=>match x with
  |.int i=>.ok QzH S|_=>.bad
 |.glb k,_,S=>match G[k]? with
  |some d=>.ok d S|none=>.bad
 |.tup es,env,S=>Qy1.bind λxs S=>if QL<=big then .ok Q21 S else .bad|.lst es,env,S=>Qy1.bind λxs S=>if QL<=big then .ok Q7 QQ1 else .bad|.dct0,_,S=>.ok Q7 Q8J|.bin op a b,env,S=>Qo1.bind λx S=>QtL.bind λy S=>Xl op x y S|.cmp op a b,env,S=>Qo1.bind λx S=>QtL.bind λy S=>Xw op x y S|.chn o1 o2 a b c,env,S=>Qo1.bind λx S=>QtL.bind λy S=>match Xa9 o1 x y S with
  |some yx=>QiX.bind λz S=>Xw o2 y z S|some yw=>.ok QD9 S|none=>.bad
 |.and a b,env,S=>Qo1.bind λx S=>match X4 S x with
  |some yx=>ev b env S|some yw=>.ok x S|none=>.bad
 |.or a b,env,S=>Qo1.bind λx S=>match X4 S x with
  |some yx=>.ok x S|some yw=>ev b env S|none=>.bad
 |.not a,env,S=>Qo1.bind λx S=>match X4 S x with
  |some r=>.ok QvQ S|none=>.bad
 |.ite c a b,env,S=>QiX.bind λx S=>match X4 S x with
  |some yx=>ev a env S|some yw=>ev b env S|none=>.bad
 |.idx a i,env,S=>Qo1.bind λx S=>(ev i env S).bind λy S=>Xdz x y S|.sli a lo hi,env,S=>Qo1.bind λx S=>(evo lo env S).bind λl S=>(evo hi env S).bind λh S=>match Xjc l,Xjc h with
  |some l,yz h=>Xlh x l h S|_,_=>.bad
 |.rev a,env,S=>Qo1.bind λx S=>X0i x S|.call f es,env,S=>Qy1.bind λxs S=>F f xs S|.cal e es,env,S=>QcB.bind λx S=>match x with
  |.fn f nm=>if Xcc f nm G then Qy1.bind λxs S=>F f xs S else .bad|_=>.bad
 |.blt k es,env,S=>Qy1.bind λxs S=>X2 k xs S|.mth k o es,env,S=>QhX.bind λx S=>if Xat k x S then Qy1.bind λxs S=>Y5 k x xs S else .bad|.isi a ts,env,S=>Qo1.bind λx S=>match QkL.bind λk=>Y4 k ts with
  |some r=>.ok QuB S|none=>.bad
 |.lrg t es,env,S=>Qy1.bind λxs S=>match Xbe xs with
  |some ds=>if t then .ok QKE S else .ok Q7 QbU|none=>.bad
 |.cmr k n gs elt,env,S=>match gs with
  |.nil=>.bad|.cons t it ifs gs=>(evit it env S).bind λsrc S=>
   (Yz (src.get) t (Xak (λenv S=>evts ifs env S) (λenv B S=>
     match gs with
     |.nil=>QFU.bind λy S=>if QIH<big then .ok QKP S else .bad|.cons t2 it2 ifs2 aa=>match aa with
      |.nil=>if Xww t2 env then (evit it2 env S).bind λL S=>Yz (L.get) t2 (Xak (λenv S=>evts ifs2 env S) (λenv B S=>QFU.bind λy S=>if QIH<big then .ok QKP S else .bad)) (L.most S+1) 0 env B S else .bad
      |.cons ..=>.bad)) QQ4 0 Q60 [] S).bind λB S=>
   if k then .bad else .ok Q7 Qqe
 |.sst a,env,S=>Qo1.bind λx S=>match Xi S x with
  |some xs=>Xbs xs S|none=>.bad
 |.frz a,env,S=>gcR S (Xba Qo1)|.st0,_,S=>.ok Q7 Qre|.sad o es,env,S=>QhX.bind λx S=>if Xjd S x then Qy1.bind λxs S=>Xey x xs S else .bad|.srs a,env,S=>Qo1.bind λx S=>Xoj x S|.st2 k a,env,S=>Qo1.bind λx S=>Xgs k x S
abbrev evo:Op->En->Sto->R Qw3
 |.none,_,S=>.ok yy S|.some e,env,S=>QcB.bind λx S=>.ok QQ3 S
abbrev evs:Exs->En->Sto->R (LD)
 |.nil,_,S=>.ok [] S|.cons e es,env,S=>QcB.bind λx S=>Qy1.bind λxs S=>.ok QMA S
abbrev evts:Exs->En->Sto->R Bool
 |.nil,_,S=>.ok yx S|.cons e es,env,S=>QcB.bind λx S=>match X4 S x with
  |some yx=>evts es env S|some yw=>.ok yw S|none=>.bad
abbrev evit:It->En->Sto->R Src
 |.val e,env,S=>QcB.bind λx S=>match Yg S x with
  |some s=>.ok s S|none=>.bad
 |.rng es,env,S=>Qy1.bind λxs S=>match Xbe xs with
  |some ds=>.ok QgM S|none=>.bad
 |.zpp es,env,S=>Qy1.bind λxs S=>match xs with
  |Qm9=>match Yg S x,Yg S y with
   |some s,yz t=>.ok QdQ S|_,_=>.bad
  |_=>.bad
 |.enm es,env,S=>Qy1.bind λxs S=>match xs with
  |[x]=>match Yg S x with
   |some s=>.ok QuW S|none=>.bad
  |_=>.bad
end
mutual
abbrev X8f:St->Bool
 |.expr _=>yx|.ret _=>yx|.pass=>yx|.ite _ a b=>nasgs a&&nasgs b|.rse _ _=>yx|_=>yw
abbrev nasgs:Sts->Bool
 |.nil=>yx|.cons s ss=>X8f s&&nasgs ss
end
abbrev Y0(get:Sto->Nat->Option Qw3)(t:Tg)(body:En->Sto->R Fl):Nat->Nat->En->Sto->R Fl
 |0,_,_,_=>.bad|k+1,i,env,S=>match get S i with
  |none=>.bad|some yy=>.ok QW3 S|some QZC=>match Xx t d env with
   |none=>.bad|some B=>match body B S with
    |.ok Qs6 S'=>Y0 get t body k QX2 e S'|.ok QDf S'=>Y0 get t body k QX2 e S'|.ok QEf S'=>.ok Qs6 S'|.ok QT9 S'=>.ok QT9 S'|.ex n S'=>.ex n S'|.bad=>.bad
mutual
abbrev exe:St->En->Sto->R Fl
 |.nev,_,_=>.bad|.asg t e,env,S=>Qt0.bind λx S=>match Xx t x env with
  |some env=>.ok QW3 S|none=>.bad
 |.par is es,env,S=>Qh4.bind λxs S=>if QdS=lg xs then .ok (.nx ((is.zip xs).foldl Qu0 env)) S else .bad|.aset o i e,env,S=>Qt0.bind λv S=>QSR.bind λx S=>QTR.bind λy S=>Qv7.bind λ_ S=>.ok QW3 S|.augi o i op e,env,S=>QSR.bind λx S=>QTR.bind λy S=>QXH.bind λa S=>Qt0.bind λz S=>QwI.bind λv S=>Qv7.bind λ_ S=>.ok QW3 S|.expr e,env,S=>Qt0.bind λ_ S=>.ok QW3 S|.ret e,env,S=>Qt0.bind λx S=>.ok Q0h S|.ite c a b,env,S=>(ev F G c env S).bind λx S=>match X4 S x with
  |some yx=>pe a env S|some yw=>pe b env S|none=>.bad
 |.for t it b,env,S=>(evit F G it env S).bind λsrc S=>Y0 src.get t (λenv S=>pe b env S) QQ4 0 env S|.rse c e,env,S=>Qt0.bind λ_ S=>.ex QD QWK|.try b c x h,env,S=>if nasgs b then
   match pe b env S with
   |.ex n S'=>match S'[n]? with
    |some Qcd=>if c==0||c==c' then
      match pe h (env.set x Q3K) S' with
      |.ok QT9 S''=>.ok QT9 S''|_=>.bad
     else .bad|_=>.bad
   |r=>r
  else .bad|.pass,env,S=>.ok QW3 S|.brk,env,S=>.ok Qfb S|.cnt,env,S=>.ok Qeb S
abbrev pe:Sts->En->Sto->R Fl
 |.nil,env,S=>.ok QW3 S|.cons s ss,env,S=>match exe s env S with
  |.ok Qs6 S'=>pe ss e S'|r=>r
end
structure Df where
 np:Nat
 nl:Nat
 body:Sts
 gc:Bool:=yx
abbrev Xok:R Fl->R D
 |.ok QkA S=>.ok v S|.ok (.nx _) S=>.ok .non S|.ok _ _=>.bad|.ex n S=>.ex n S|.bad=>.bad
abbrev gcB(b:Bool)(S:Sto)(r:R D):R D:=if b then gcR S r else r
abbrev den(d:Df)(ds:LD)(S:Sto):R D:=
 if Qt3=d.np then gcB d.gc S (Xok (pe F G d.body (ds.map yz++Vn QWA yy) S)) else .bad
universe e
abbrev FT(T:List Df)(G:LD):Nat->Fn
 |0=>λ_ _ _=>.bad|k+1=>λf ds S=>match T[f]? with
  |some d=>den QlJ G d ds S|none=>.bad
universe Z
universe e
section
namespace Z
open PySem PySem.SetTable
def Xr8{xs:Array Nat}{i a b:Nat}(h:i<xs.size):xs.getD i a=xs.getD i b:=by simp![Va8,h]
theorem Ris(xs:Array Nat):Prop:=xs.toList.Pairwise Qu1
def Ris.lt{xs:Array Nat}(h:Ris xs){i j a:Nat}(B:i<j)(L:j<xs.size):xs.getD i a<xs.getD j a:=by let:=Vge.mp h i j (by simpa using Vey B L) Q6F B;simpa [Va8,L,Vey B L] using this
def Xje{xs:Array Nat}{j:Nat}(L:Ris xs):∀(B lo hi:Nat),hi<=xs.size->lo<=hi->hi-lo<=B->(∀k,k<lo->xs.getD k 0<j)->(∀k,hi<=k->k<xs.size->j<=xs.getD k 0) ->
  below.go xs j B lo hi<=xs.size/\(∀k,k<below.go xs j B lo hi->xs.getD k 0<j)/\∀k,below.go xs j B lo hi<=k->k<xs.size->j<=xs.getD k 0
 |0=>λlo hi h1 h2 h3 h4 h5=>by
  let:lo=hi:=by omega
  subst this;exact QEX|f+1=>λlo hi h1 h2 h3 h4 h5=>by
  unfold below.go;by_cases hl:lo<hi
  ·rw[iP0 hl];dsimp;let hm:QtN/2<xs.size:=by omega
   by_cases c:xs.getD (QtN/2) j<j
   ·rw[iP0 c];calc Xje L f _ hi h1 Q0 Q0 (λk hk=>?_) h5;rw[Xr8 (b:=0) hm]at c;by_cases e:k=QtN/2;·rw[e];exact c
    ·exact Vey (L.lt Q0 hm) c
   rw[iN0 c];exact Xje L f lo _ Q0 Q0 Q0 h4 λk hk hs=>?_;rw[Xr8 (b:=0) hm]at c;by_cases e:k=QtN/2;·rw[e];omega
   ·let:=L.lt (a:=0) (show QtN/2<k by omega) hs;omega
  rw[iN0 hl];let:lo=hi:=by omega
  subst this;calc QEX
def Xcl{xs:Array Nat}(L:Ris xs)(j:Nat):below xs j<=xs.size/\(∀k,k<below xs j->xs.getD k 0<j)/\∀k,below xs j<=k->k<xs.size->j<=xs.getD k 0:=
 Xje L xs.size 0 xs.size Qd QS8 Qd (λk B=>aB0 B QW7) λk h1 h2=>aB0 h2 (Nat.not_lt.mpr h1)
structure Tb(t:Uw):Prop where
 ris:Ris t.place
 dum:t.dummies=#[]
def Xhs{t:Uw}(T:Tb t)(j:Nat):(∃i,t.slot j=.live i/\t.place[i]?=yz j)\/(t.slot j=.empty/\∀k,k<t.place.size->t.place.getD k 0≠j):=by
 let⟨b1,L,b3⟩:=Xcl T.ris j;let hs:t.slot j=if t.place[below t.place j]?==yz j then .live QAF else .empty:=by
  unfold SetTable.slot SetTable.has;rw[T.dum];dsimp;split;·rfl
  ·simp!
 rw[hs];by_cases c:(t.place[below t.place j]?==yz j)=yx;·rw[iP0 c];exact .inl ⟨_,rfl,eq_of_beq c⟩
 ·rw[iN0 c];calc .inr ⟨rfl,λk B e=>c ?_⟩;by_cases q:k<below t.place j;·let:=L k q;omega
  ·by_cases q2:k=below t.place j
   ·subst q2;let:t.place[below t.place j]?=yz j:=by
     rw[Uo B];simp![Va8,B]at e;rw[e]
    rw[this];exact beq_self_eq_true _
   let h1:=b3 _ Qd Q0;let h2:=T.ris.lt (a:=0) (show below t.place j<k by omega) B;omega
def gap{xs:Array Nat}(L:Ris xs):∀n,n<=xs.size->(∀k,k<n->xs.getD k 0=k)\/∃e,e<n/\∀k,k<xs.size->xs.getD k 0≠e
 |0=>λ_=>.inl λk B=>aB0 B QW7|n+1=>λh=>by
  rcases gap L n Q0 with q|⟨e,he,q⟩
  ·by_cases c:xs.getD n 0=n
   ·exact .inl λk B=>by
     by_cases z:k=n;·rw[z,c]
     ·exact q k Q0
   calc .inr ⟨n,by omega,λk B=>?_⟩;let hn:n<=xs.getD n 0:=by
    cases n with
    |zero=>exact Vaq _|succ m=>let h1:=L.lt (a:=0) (show m<m+1 by omega) Q0;let h2:=q m Q0;omega
   rcases Vjj k n with z|z|z;·let:=q k z;omega
   ·rw[z];exact c
   let:=L.lt (a:=0) z B;omega
  calc .inr Q7R
def Xup{t:Uw}(T:Tb t):∃e,e<=t.place.size/\t.slot e=.empty:=by
 let B:∃e,e<=t.place.size/\∀k,k<t.place.size->t.place.getD k 0≠e:=by
  rcases gap T.ris _ Qd with q|⟨e,L,q⟩;·exact⟨t.place.size,Vi _,λk hk z=>by let:=q k hk;omega⟩
  ·exact Q7R
 let⟨e,L,q⟩:=B;calc⟨e,L,?_⟩;rcases Xhs T e with⟨i,_,h⟩|⟨h,_⟩;·let⟨hi,hx⟩:=Vad.mp h;exact aB0 (by simp![Va8,hi,hx]) (q i hi)
 ·calc h
abbrev fiv(m x:Nat):Nat:=(x*5+1)%QYB
abbrev itf(m:Nat):Nat->Nat->Nat
 |0,x=>x|k+1,x=>itf m k QTc
abbrev orM(m:Nat):Nat->Nat->Nat->Nat
 |0,_,a=>a|n+1,x,a=>orM m n QTc (a ||| (1 <<< x))
def Xr9(m e:Nat):∀(n x a:Nat),(orM m n x a).testBit e=yx->a.testBit e=yx\/∃k,k<n/\itf m k x=e
 |0=>λx a h=>.inl h|n+1=>λx a h=>by
  rcases Xr9 m e n _ _ h with q|⟨k,B,q⟩
  ·rw[Nat.testBit_or,Vbc]at q;rcases q with q|q;·exact .inl q
   ·calc .inr ⟨0,by omega,?_⟩;rw[Nat.one_shiftLeft,Nat.testBit_two_pow]at q;simpa [itf] using q
  calc .inr ⟨k+1,by omega,q⟩
abbrev rnd(m:Nat):Nat->Nat×Nat->Nat×Nat
 |0,p=>p|r+1,p=>rnd m r (leap m p.1 p.2)
def Xsa(m a:Nat):∀(b:Nat) (p:Nat×Nat),rnd m Q1g p=rnd m a (rnd m b p)
 |0=>λp=>by simp![rnd]|b+1=>λp=>by rw[Vi6];calc Xsa m a b _
def Xsb(m:Nat):∀(r:Nat) (p:Nat×Nat),QtY.2=p.2/32^r
 |0=>λp=>by simp![rnd]|r+1=>λp=>by rw[rnd,Xsb m r];show p.2/32/32^r=_;rw[Nat.div_div_eq_div_mul,Vgl,Nat.mul_comm]
def Xol(m:Nat):∀(r i:Nat),rnd m r (i,0)=(itf m r i,0)
 |0=>λi=>rfl|r+1=>λi=>by
  let:leap m i 0=(fiv m i,0):=by simp![leap,fiv]
  rw[rnd];show rnd m r (leap m i 0)=_;rw[this];calc Xol m r _
def Xwx(m:Nat):∀(r:Nat) (p:Nat×Nat),p.1<m+1->QtY.1<m+1
 |0=>λp h=>h|r+1=>λp h=>Xwx m r _ Q2b
abbrev its(t:Uw):Nat->Probe->Probe
 |0,p=>p|n+1,p=>its t n QNA
def Xdp(t:Uw)(a:Nat):∀(b:Nat) (p:Probe),its t Q1g p=its t a (its t b p)
 |0=>λp=>by simp![its]|b+1=>λp=>by rw[Vi6];calc Xdp t a b _
abbrev Xez(t:Uw)(p:Nat×Nat):Probe:={j:=p.1,more:=runEnd t.mask p.1-p.1,i:=p.1,perturb:=p.2,dummy:=yy}
def Xgu(t:Uw)(i q:Nat):∀(m j:Nat),its t QYB Qq4=Xez t (leap t.mask i q)
 |0,j=>by simp![its,advance,Xez]|m+1,j=>by
  rw[its];let:t.advance {j:=j,more:=m+1,i:=i,perturb:=q,dummy:=yy}={j:=j+1,more:=m,i:=i,perturb:=q,dummy:=yy}:=by simp![advance]
  rw[this];calc Xgu t i q m QwC
def X8g(m i:Nat):runEnd m i-i<=9:=by unfold runEnd;split<;>omega
def Xom(t:Uw):∀(r:Nat) (p:Nat×Nat),∃n,n<=10*r/\its t n (Xez t p)=Xez t (rnd t.mask r p)
 |0=>λp=>⟨0,Vi _,rfl⟩|r+1=>λp=>by let⟨n,B,e⟩:=Xom t r (leap t.mask p.1 p.2);calc⟨(runEnd t.mask p.1-p.1+1)+n,by let:=X8g t.mask p.1;omega,?_⟩;rw[Xdp,Xez,Xgu t p.1 p.2];calc e
def Xm8(t:Uw)(p:Probe):QNA.dummy=p.dummy:=by
 unfold advance;split;·rfl
 ·rfl
def Xsc(h:Int):bits h<2^64:=by unfold bits;omega
def Xb7{α:Type}(xs:Array α)(p:Nat)(x:α)(hp:p<=xs.size):(insertAt xs p x).toList=xs.toList.take p++x::xs.toList.drop p:=by unfold insertAt;simp[Vav,Vcx,Vcr,List.extract_eq_take_drop,Vgz,Nat.sub_zero];let:List.take (xs.size-p) (List.drop p xs.toList)=List.drop p xs.toList:=Va9 QA;rw[this,Uj];rfl
def X4m{xs:Array Nat}(L:Ris xs){j:Nat}(hj:∀k,k<xs.size->xs.getD k 0≠j):Ris (insertAt xs QzL j):=by
 let⟨b1,b2,b3⟩:=Xcl L j;unfold Ris;rw[Xb7 _ _ _ b1];let at_:∀k,(B:k<lg xs.toList)->xs.toList[k]=xs.getD k 0:=λk B=>by
  let aa:k<xs.size:=by simpa using B
  simp![Va8,aa]
 let lo:∀x∈xs.toList.take QzL,x<j:=λx hx=>by let⟨k,B,rfl⟩:=Vb1.mp hx;rw[Vah]at B;rw[List.getElem_take,at_];exact b2 k Q0
 let hi:∀x∈xs.toList.drop QzL,j<x:=λx hx=>by let⟨k,B,rfl⟩:=Vb1.mp hx;rw[Vb5,V1]at B;rw[List.getElem_drop,at_];let h1:=b3 QJU Q0 Q0;let h2:=hj QJU Q0;omega
 calc Vas.mpr ⟨List.Pairwise.sublist QZK L,Vai.mpr ⟨hi,List.Pairwise.sublist (List.drop_sublist _ _) L⟩,λa ha b hb=>?_⟩;rcases Vr.mp hb with rfl|hb;·exact lo a ha
 ·calc Vey (lo a ha) (hi b hb)
def Xbn{t:Uw}(T:Tb t):t.fill=t.place.size:=by unfold fill;rw[T.dum];rfl
def Xwy{t:Uw}(T:Tb t){j:Nat}(L:t.slot j=.empty):Tb Qb2.1/\Qb2.1.place.size=t.place.size+1/\Qb2.1.mask=t.mask/\Qb2.1.plain=t.plain/\Qb2.1.led=t.led/\Qb2.2<=t.place.size:=by
 let hk:∀k,k<t.place.size->t.place.getD k 0≠j:=by
  rcases Xhs T j with⟨i,h,_⟩|⟨_,h⟩;·rw[h]at L;cases L
  ·exact h
 let⟨B,_⟩:=Xcl T.ris j;calc⟨⟨X4m T.ris hk,?_⟩,?_,rfl,rfl,rfl,B⟩;·show(if has t.dummies j=yx then _ else t.dummies)=_;rw[T.dum];simp![has]
 ·show QD5.size=_;rw[<-V1,Xb7 _ _ _ B];simp!;omega
def Xon(k:Nat):∀(l:List Q11) (j:Nat),l[j]?=yz yy->((l.set j QFh).filterMap id).Perm (k::l.filterMap id)
 |[],j=>λh=>by simp! at h|o::l,0=>λh=>by simp[gZ0,Vx]at h;subst h;exact Vcc _|o::l,j+1=>λh=>by
  let ih:=Xon k l j Q72;cases o with
  |none=>calc ih|some a=>calc(ih.cons a).trans (Vg0 k a _)
def Xm9:∀(l:List Q11),(l.filterMap id).length<lg l->∃j:Nat,l[j]?=yz yy
 |[]=>λh=>by simp! at h|o::l=>λh=>by
  cases o with
  |none=>calc⟨0,rfl⟩|some a=>let⟨j,B⟩:=Xm9 l Q72;calc⟨j+1,by simpa using B⟩
def Xoo{m:Nat}{ow:Array Q11}:∀(B r i q:Nat),r<B->ow[QRS.1]?=yz yy->∃j,layClean.free m ow B i q=yz j/\ow[j]?=yz yy
 |0=>λr i q hr _=>aB0 hr QW7|f+1=>λr i q hr h=>by
  unfold layClean.free;cases e:Q9M.find? λk=>Q1L.isNone with
  |some k=>
   calc⟨i+k,rfl,?_⟩;let z:=List.find?_some e;by_cases L:i+k<ow.size;·rw[Uo L];simp[Va8,L,dite_true]at z;simpa using z
   ·simp![Va8,L]at z|none=>
   dsimp;cases r with
   |zero=>let z:=List.find?_eq_none.mp e 0 (Va1.mpr (by unfold runEnd;split<;>omega));let⟨hi,hx⟩:=Vad.mp (show ow[i]?=yz yy from h);simp![Va8,hi,hx]at z|succ r=>calc Xoo f r _ _ Q0 h
theorem Own(m:Nat)(ow:Array Q11)(k:Nat):Prop:=ow.size=m+1/\(ow.toList.filterMap id).Perm Quc
def Xop:∀(l:List Q11) (s:Nat) (g:Nat->Option Nat),(∀i,i<lg l->g (s+i)=l.getD i yy)->((List.range' s l.length).filterMap λj=>(g j).map Qpf).map Qx1=l.filterMap id
 |[]=>λs g h=>rfl|o::l=>λs g h=>by
  let B:=h 0 QA;let ih:=Xop l (s+1) g λi hi=>by let:=h QX2 QZ3;rw[show s+1+i=s+QX2 by omega,this];rfl
  rw[Ux,List.range'_succ,U5];rw[Nat.add_zero]at B;rw[B];cases o with
  |none=>simpa using ih|some a=>simpa using ih
def Xoq(g:Nat->Option Nat):∀(l:LN),l.Pairwise Qu1->((QrD.map Qb).Pairwise Qu1/\∀x∈QrD.map Qb,x∈l)
 |[]=>λ_=>⟨Vek,λx B=>by simp! at B⟩|a::l=>λh=>by
  let⟨h1,h2⟩:=Vai.mp h;let⟨i1,i2⟩:=Xoq g l h2;rw[U5];cases e:g a with
  |none=>simp[Option.map_none];exact⟨i1,λx B=>V2 _ QhV⟩|some b=>
   simp[Vaa,Uh];calc⟨Vai.mpr ⟨λx B=>h1 x QhV,i1⟩,λx B=>?_⟩;rcases Vr.mp B with rfl|B;·exact V6
   ·calc V2 _ QhV
theorem Cy(m:Nat):Prop:=∀x e,x<m+1->e<m+1->∃k,k<m+1/\itf m k x=e
def Xht(m a:Nat):∀(b x:Nat),itf m Q1g x=itf m a (itf m b x)
 |0=>λx=>by simp![itf]|b+1=>λx=>by rw[Vi6];calc Xht m a b _
abbrev orb(m:Nat):Bool:=orM m QYB 0 0==2^QYB-1&&itf m QYB 0==0
def Yds{m:Nat}(h:orb m=yx):Cy m:=by
 unfold orb at h;rw[bA0]at h;let B:itf m QYB 0=0:=eq_of_beq h.2;let all:∀e,e<m+1->∃k,k<m+1/\itf m k 0=e:=λe L=>by
  let z:(orM m QYB 0 0).testBit e=true:=by rw[eq_of_beq h.1,Nat.testBit_two_pow_sub_one];exact decide_eq_true L
  rcases Xr9 m e _ _ _ z with w|w;·simp! at w
  ·exact w
 intro x e hx L;let⟨a,ha,rfl⟩:=all x hx;let⟨b,hb,rfl⟩:=all e L;by_cases c:a<=b;·exact⟨b-a,by omega,by rw[<-Xht,show a+(b-a)=b by omega]⟩
 ·calc⟨m+1-a+b,by omega,?_⟩;rw[<-Xht,show a+(m+1-a+b)=m+1+b by omega,Xht,B]
theorem Mg(m:Nat):Prop:=m=7\/m=31\/m=127\/m=511\/m=2047\/m=8191
def Mg.cy{m:Nat}(h:Mg m):Cy m:=by rcases h with rfl|rfl|rfl|rfl|rfl|rfl<;>calc Yds Q8
def Mg.le{m:Nat}(h:Mg m):m<=8191:=by rcases h with rfl|rfl|rfl|rfl|rfl|rfl<;>omega
def Xna{m:Nat}(B:Cy m){i q e:Nat}(hi:i<m+1)(hq:q<2^64)(L:e<m+1):∃r,r<m+14/\QRS.1=e:=by
 let h1:QNR.2=0:=by rw[Xsb];exact Nat.div_eq_of_lt (Uk hq Q1)
 let h2:=Xwx m 13 (i,q) hi;let⟨k,hk,e1⟩:=B _ _ h2 L;calc⟨13+k,by omega,?_⟩;rw[Xsa];let:rnd m 13 (i,q)=(QNR.1,0):=Prod.ext rfl h1;rw[this,Xol];calc e1
abbrev tm(m:Nat):Uw:={mask:=m,place:=#[],dummies:=#[],finger:=0,led:=yx,moves:=0,plain:=yx}
def Xor(t:Uw):∀(n:Nat) (p:Probe),its t n p=its Q9H n p
 |0=>λp=>rfl|n+1=>λp=>Xor t n QNA
abbrev pth(m:Nat)(h:Int)(n:Nat):Nat:=(its Q69 n QIP).j
def Xd1{t:Uw}(T:Tb t)(j:Nat):t.slot j=.empty ↔ j ∉ t.place.toList:=by
 rcases Xhs T j with⟨i,h1,h2⟩|⟨h1,h2⟩
 ·rw[h1];rw[<-Ue]at h2;let L:=V7 h2;constructor;·intro z;cases z
  ·intro z;exact aB0 L z
 calc⟨λ_ L=>?_,λ_=>h1⟩;let⟨i,hi,e⟩:=Vb1.mp L;let B:i<t.place.size:=by simpa using hi
 calc h2 i B (by simp![Va8,B];simpa using e)
def Xgv{t:Uw}(T:Tb t){j:Nat}(h:j∈t.place.toList):∃i,t.slot j=.live i/\t.place[i]?=yz j:=by
 rcases Xhs T j with h1|⟨h1,_⟩;·exact h1
 ·calc aB0 h ((Xd1 T j).mp h1)
def Xsd(t:Uw):∀(n:Nat) (p:Probe),(its t n p).dummy=p.dummy
 |0=>λp=>rfl|n+1=>λp=>(Xsd t n _).trans (Xm8 t p)
def Xuq{t:Uw}(T:Tb t)(f:Nat->Int)(h:Int):∀(d B:Nat) (p:Probe),p.dummy=yy->d<B->QKH.j ∉ t.place.toList->(∀k,k<d->Qn6.j∈t.place.toList) ->
  ((∀k,k<d->∀i,t.slot Qn6.j=.live i->f i≠h)/\probe.go t f h B p=yz QnQ) \/
  ∃k i,k<d/\t.slot Qn6.j=.live i/\f i=h/\(∀L,L<k->∀i',t.slot (its t L p).j=.live i'->f i'≠h)/\probe.go t f h B p=yz QVD
 |0,0=>λp _ hf _ _=>aB0 hf QW7|d+1,0=>λp _ hf _ _=>aB0 hf QW7|0,B+1=>λp hd _ he _=>by calc .inl ⟨λk hk=>aB0 hk QW7,?_⟩;unfold probe.go;rw[(Xd1 T _).mpr (show p.j ∉ _ from he),hd];rfl|d+1,B+1=>λp hd hf he hl=>by
  let h0:p.j∈t.place.toList:=hl 0 Q0;let⟨i,s1,s2⟩:=Xgv T h0;by_cases c:f i=h;·calc .inr ⟨0,i,by omega,s1,c,λL hk=>aB0 hk QW7,?_⟩;unfold probe.go;rw[s1];dsimp;rw[c,beq_self_eq_true,iP0 rfl];rfl
  ·let hg:probe.go t f h (B+1) p=probe.go t f h B QNA:=by
    conv=>lhs;unfold probe.go
    rw[s1];dsimp;rw[iN0 Qd6]
   rw[hg];rcases Xuq T f h d B QNA (by rw[Xm8];calc hd) Q0 he (λk hk=>hl Qe3 Q0) with⟨g1,g2⟩|⟨k,i',g1,g2,g3,g4,g5⟩
   ·calc .inl ⟨λk hk i' hi=>?_,g2⟩;cases k with
    |zero=>rw[show Q5Z.j=p.j from rfl,s1]at hi;cases hi;exact c|succ k=>exact g1 k Q0 i' hi
   calc .inr ⟨k+1,i',by omega,g2,g3,λL hk aa hi=>?_,g5⟩;cases L with
   |zero=>rw[show Q5Z.j=p.j from rfl,s1]at hi;cases hi;calc c|succ L=>calc g4 L Q0 aa hi
def Xse{t:Uw}(T:Tb t)(hm:Cy t.mask)(hn:t.place.size<=t.mask)(h:Int):∃N,N<10*turns t.mask/\pth t.mask h N ∉ t.place.toList/\∀k,k<N->pth t.mask h k∈t.place.toList:=by
 let⟨e,he,hs⟩:=Xup T;let⟨r,hr,e1⟩:=Xna hm (i:=bits h%(t.mask+1)) (q:=bits h) Q2b Q9g (e:=e) Q0;let⟨n,ac,e2⟩:=Xom Q9H r QaJ;let st:Q9H.probeStart h=Xez Q9H QaJ:=rfl;let q:pth t.mask h n=e:=by unfold pth;rw[st,e2];exact e1
 let ab:pth t.mask h n ∉ t.place.toList:=by rw[q];exact(Xd1 T e).mp hs
 let B:∀n,pth t.mask h n ∉ t.place.toList->∃N,N<=n/\pth t.mask h N ∉ t.place.toList/\∀k,k<N->pth t.mask h k∈t.place.toList:=λn=>by
  induction n using Nat.strongRecOn with
  |ind n ih=>
   intro hn;by_cases c:∀k,k<n->pth t.mask h k∈t.place.toList;·exact⟨n,Vi _,hn,c⟩
   ·let⟨k,hk⟩:=Classical.not_forall.mp c;let⟨aa,L⟩:=Classical.not_imp.mp hk;let⟨N,a,b,d⟩:=ih k aa L;exact⟨N,by omega,b,d⟩
 let⟨N,a,b,d⟩:=B n ab;calc⟨N,by unfold turns;omega,b,d⟩
abbrev Ats(t:Uw)(es:Array Qw0):List (Nat×Int×Vb):=t.place.toList.zip es.toList
theorem Xur(t:Uw)(es:Array Qw0):Prop:=∀j h x,(j,h,x)∈Ats t es->∃n,pth t.mask h n=j/\∀k,k<n->pth t.mask h k∈t.place.toList
def X8h{t:Uw}{es:Array Qw0}{i j:Nat}{e:Int×Vb}(h1:t.place[i]?=yz j)(h2:es[i]?=yz e):(j,e)∈Ats t es:=by
 let:(Ats t es)[i]?=yz (j,e):=by unfold Ats;rw[Vjp];exact⟨by rw[Ue];calc h1,by rw[Ue];calc h2⟩
 calc V7 this
def Xsf{α:Type}(l:List α)(p:Nat)(a x:α):x∈l.take p++a::l.drop p ↔ x=a\/x∈l:=by
 conv=>rhs;rw[<-Ut p l]
 simp[Um,Vr];constructor
 ·rintro (h|h|h);·exact .inr QkK
  ·exact .inl h
  exact .inr QBf
 rintro (h|h|h);·exact .inr QkK
 ·exact .inl h
 calc .inr QBf
def Xsg{α β:Type}:∀(xs:List α) (ys:List β) (p:Nat) (a:α) (b:β),lg xs=lg ys->(xs.take p++a::xs.drop p).zip (ys.take p++b::ys.drop p)=Q5H.take p++(a,b)::Q5H.drop p
 |xs,ys,0=>λa b _=>by simp!|[],[],p+1=>λa b _=>by simp!|x::xs,y::ys,p+1=>λa b h=>by let ih:=Xsg xs ys p a b Q72;simp[List.take_succ_cons,List.drop_succ_cons,Vh0,Vgm];rw[ih]|[],_::_,_+1=>λ_ _ h=>by simp! at h|_::_,[],_+1=>λ_ _ h=>by simp! at h
def Xwz{t:Uw}(T:Tb t)(j:Nat)(x:Nat):x∈Qb2.1.place.toList ↔ x=j\/x∈t.place.toList:=by let⟨B,_⟩:=Xcl T.ris j;show x∈QD5.toList ↔ _;rw[Xb7 _ _ _ B];calc Xsf _ _ _ _
def X4n{t:Uw}{es:Array Qw0}(T:Tb t)(hs:t.place.size=es.size)(j:Nat)(e:Int×Vb)(x:Nat×Int×Vb):x∈Ats Qb2.1 (insertAt es Qb2.2 e) ↔ x=(j,e)\/x∈Ats t es:=by let⟨B,_⟩:=Xcl T.ris j;show x∈(insertAt t.place QAF j).toList.zip (insertAt es QAF e).toList ↔ _;rw[Xb7 _ _ _ B,Xb7 _ _ _ (by rw[<-hs];calc B),Xsg _ _ _ _ _ (by simpa using hs)];calc Xsf _ _ _ _
def X4o{t:Uw}{es:Array Qw0}(T:Tb t)(hs:t.place.size=es.size)(O:Xur t es){h:Int}{x:Vb}{N:Nat}(hN:∀k,k<N->pth t.mask h k∈t.place.toList):
  Xur Qs9.1 (insertAt es Qs9.2 QSc):=by
 intro j h' x' B;rw[X4n T hs]at B;let up:∀y,y∈t.place.toList->y∈Qs9.1.place.toList:=λy hy=>(Xwz T _ y).mpr QVd;rcases B with e|B;·cases e;exact⟨N,rfl,λk L=>up _ (hN k L)⟩
 ·let⟨n,e,q⟩:=O j h' x' B;calc⟨n,e,λk L=>up _ (q k L)⟩
def Xhu(t:Uw)(q:Nat)(i:Nat):∀(k m j:Nat),k<=m->(its t k Qq4)={j:=j+k,more:=m-k,i:=i,perturb:=q,dummy:=yy}
 |0,m,j,_=>by simp![its]|k+1,m,j,h=>by
  let e:t.advance Qq4={j:=j+1,more:=m-1,i:=i,perturb:=q,dummy:=yy}:=by
   let:m>0:=by omega
   simp![advance,this]
  rw[its,e,Xhu t q i k Q9c QwC Q0];congr 1;·omega
  ·omega
def Xos{m i:Nat}(h:i<m+1):runEnd m i<m+1:=by unfold runEnd;split<;>omega
def Xot(m i:Nat):i<=runEnd m i:=by unfold runEnd;split<;>omega
def Xou{m:Nat}{ow:Array Q11}(ho:ow.size=m+1):∀(ab i q j:Nat),i<m+1->layClean.free m ow ab i q=yz j->ow[j]?=yz yy/\∃n,(its Q69 n QZH).j=j/\∀k,k<n->ow[(its Q69 k QZH).j]?≠yz yy
 |0=>λi q j _ h=>by simp![layClean.free]at h|f+1=>λi q j hi h=>by
  unfold layClean.free at h;let ge:=Xot m i;let lt:=Xos hi;let B:∀c,c<runEnd m i+1-i->(ow.getD (i+c) (yz 0)).isNone=yw->ow[i+c]?≠yz none:=λc L hz hn=>by let⟨h1,h2⟩:=Vad.mp hn;simp![Va8,h1,h2]at hz
  cases e:Q9M.find? λk=>Q1L.isNone with
  |some k=>
   rw[e]at h;cases h;let z:=List.find?_some e;let kl:k<runEnd m i+1-i:=Va1.mp (List.mem_of_find?_eq_some e);exact⟨?_,k,?_,λc L=>?_⟩
   ·by_cases hk:i+k<ow.size;·rw[Uo hk];simp[Va8,hk,dite_true]at z;simpa using z
    ·simp![Va8,hk]at z
   ·show(its Q69 k QF3).j=_;rw[Xhu _ _ _ k _ _ Q0]
   show ow[QlS.j]?≠_;rw[Xhu _ _ _ c _ _ Q0];calc B c Q0 ?_;let:=(List.find?_range_eq_some.mp e).2.2 c L;rw[Uq]at this;exact this|none=>
   rw[e]at h;let hn:=List.find?_eq_none.mp e;let aa:∀c,c<runEnd m i+1-i->ow[i+c]?≠yz none:=λc L=>B c L (by let:=hn c (Va1.mpr L);rw[Bool.not_eq_true]at this;calc this);let hl:QbF.1<m+1:=Vgy _ Q0;let⟨g1,n,g2,g3⟩:=Xou ho f QbF.1 QbF.2 j hl h;let re:its Q69 QMR QZH=Xez Q69 QbF:=Xgu Q69 i q (runEnd m i-i) i;calc⟨g1,runEnd m i-i+1+n,?_,λc L=>?_⟩;·rw[Xdp,re];exact g2
   ·by_cases q':c<runEnd m i-i+1;·show ow[QlS.j]?≠_;rw[Xhu _ _ _ c _ _ Q0];exact aa c Q0
    ·let e2:c=runEnd m i-i+1+(c-QMR):=by omega
     rw[e2,Xdp,re];calc g3 _ Q0
def Xw0{m:Nat}:∀(n:Nat) (p:Probe),p.j+p.more<m+1->QfV.j+QfV.more<m+1
 |0=>λp h=>h|n+1=>λp h=>by
  calc Xw0 n _ ?_;unfold advance;split;·show p.j+1+(p.more-1)<m+1;omega
  ·let hl:Qa4.1<m+1:=Vgy _ Q0;show Qa4.1+(runEnd m Qa4.1-Qa4.1)<m+1;let:=Xos hl;let:=Xot m Qa4.1;omega
def X8i(m:Nat)(h:Int)(n:Nat):pth m h n<m+1:=by let B:bits h%QYB<m+1:=Vgy _ Q0;let:=Xw0 (m:=m) n QIP (by show bits h%QYB+(runEnd m Q07-bits h%QYB)<m+1;let:=Xos B;let:=Xot m Q07;omega);unfold pth;omega
structure OwnG(m:Nat)(ow:Array Q11)(hs:LI)(k:Nat):Prop where
 own:Own m ow k
 way:∀j c,ow[j]?=yz QGS->∃h,hs[c]?=yz h/\∃n,pth m h n=j/\∀i,i<n->ow[pth m h i]?≠yz yy
def Xw1{m:Nat}(hm:Cy m){ow:Array Q11}{hs:LI}{k:Nat}{h:Int}(O:OwnG m ow hs k)(hk:k<m+1)(hh:hs[k]?=yz h):∃j,layClean.free m ow Q8H Q07 Q4P=yz j/\OwnG m QGH hs Qe3:=by
 let⟨L,o2⟩:=O.own;let⟨e,he⟩:=Xm9 ow.toList (by rw[o2.length_eq,U6,V1,L];calc hk);let aa:e<m+1:=by let:=(Vk.mp he).1;rw[V1,L]at this;exact this
 let B:bits h%QYB<m+1:=Vgy _ Q0;let⟨r,hr,e1⟩:=Xna hm (i:=bits h%QYB) (q:=bits h) B Q9g aa;let⟨j,f1,f2⟩:=Xoo (m:=m) (ow:=ow) Q8H r Q07 Q4P (by unfold turns;omega) (by rw[e1,<-Ue];calc he);let⟨_,n,w1,w2⟩:=Xou L Q8H _ _ j B f1;let up:∀x,ow[x]?≠yz yy->QGH[x]?≠yz none:=λx hx=>by
  rw[Array.getElem?_setIfInBounds];split
  ·split;·intro z;cases z
   ·intro z;cases z
  exact hx
 calc⟨j,f1,⟨by rw[Vjw,L],?_⟩,λj' c hc=>?_⟩;·rw[Vf4];calc(Xon k _ j (by rw[Ue];calc f2)).trans ((o2.cons k).trans ?_);rw[List.range_succ];exact(List.perm_append_singleton k Quc).symm
 ·by_cases q:j=j';·subst q;let hj:=(Vad.mp f2).1;rw[Array.getElem?_setIfInBounds_self_of_lt hj]at hc;cases hc;exact⟨h,hh,n,w1,λi hi=>up _ (w2 i hi)⟩
  ·rw[Array.getElem?_setIfInBounds_ne q]at hc;let⟨h',g1,n',g2,g3⟩:=O.way j' c hc;calc⟨h',g1,n',g2,λi hi=>up _ (g3 i hi)⟩
def Xov{m:Nat}(hm:Cy m)(all:LI):∀(hs:LI) (ow:Array Q11) (k:Nat),OwnG m ow all k->(∀i,hs[i]?=all[k+i]?)->k+lg hs<m+1->∃B,OwnG m B all (k+lg hs) /\
  hs.foldl (λacc h=>do
   let (owner,k) <- acc
   let j <- layClean.free m owner Q8H Q07 Q4P
   pure (owner.setIfInBounds j QFh,k+1)) (yz (ow,k))=yz (B,k+lg hs)
 |[]=>λow k O _ _=>⟨ow,O,rfl⟩|h::hs=>λow k O L hl=>by rw[Ux]at hl;let⟨j,f1,f2⟩:=Xw1 hm O Q0 (by let:=L 0;simpa using this.symm);let⟨B,O',e⟩:=Xov hm all hs _ Qe3 f2 (λi=>by let:=L QX2;rw[gS0]at this;rw[this,show k+QX2=k+1+i by omega]) Q0;calc⟨B,by rw[Ux,show k+QCc=k+1+lg hs by omega];calc O',?_⟩;rw[Vb0,Ux,show k+QCc=k+1+lg hs by omega,<-e];congr 1;show(layClean.free m ow Q8H Q07 Q4P).bind _=_;rw[f1];rfl
def Xow{ow:Array Q11}{m:Nat}(L:ow.size=m+1)(j c:Nat):(j,c)∈QGW.filterMap (λj=>(ow.getD j yy).map Qpf) ↔ ow[j]?=yz QGS:=by
 rw[Ve8];constructor
 ·rintro ⟨x,hx,e⟩;rw[Va1]at hx;let B:x<ow.size:=by omega
  simp[Va8,B,dite_true]at e;cases q:ow[x]'B with
  |none=>rw[show ow.getInternal x B=ow[x] from rfl,q]at e;cases e|some y=>rw[show ow.getInternal x B=ow[x] from rfl,q]at e;cases e;rw[Uo B,q]
 intro h;let⟨h1,h2⟩:=Vad.mp h;calc⟨j,Va1.mpr Q0,?_⟩;simp[Va8,h1,dite_true];rw[show ow.getInternal j h1=ow[j] from rfl,h2];rfl
def X3e{m f v:Nat}{led pl:Bool}(hm:Cy m)(es:Array Qw0)(hl:es.size<m+1):∃t B,laid m f v led pl QK8=yz (t,B)/\Tb t/\t.mask=m/\t.plain=pl/\t.led=led/\t.moves=v/\t.place.size=es.size/\QN4.size=es.size/\(B.filterMap QHC).toList.Perm es.toList/\Xur t QN4/\B.toList.Perm Q8M:=by
 let O0:OwnG m (Array.replicate QYB yy) QK8.toList 0:=⟨⟨by simp!,by
  rw[Array.toList_replicate];let:∀n,(Vn n (yy:Option Nat)).filterMap id=[]:=λn=>by induction n with
   |zero=>rfl|succ n ih=>rw[Van,U5];exact ih
  rw[this];calc Vcc _⟩,λj c hc=>by rw[Array.getElem?_replicate]at hc;split at hc<;>cases hc⟩
 let⟨L,O,e⟩:=Xov hm QK8.toList QK8.toList _ 0 O0 (λi=>by rw[Vgn]) Q1E;let⟨o1,o2⟩:=O.own;rw[Vgn,V1,Array.size_map]at o2 e;let lc:layClean m QK8=yz L:=by unfold layClean;rw[<-Array.foldl_toList];rw[show((es.map Qb).toList.foldl _ (yz (Array.replicate QYB (yy:Option Nat),0)))=yz (L,es.size) from e];rfl
 let sn:QC3.map Qx1=L.toList.filterMap id:=by
  let:=Xop L.toList 0 QiO λi hi=>by
   let ac:i<L.size:=by simpa using hi
   simp![Va8,ac,Vbf]
  rw[V1,o1,<-List.range_eq_range']at this;exact this
 let fs:=(Xoq QiO QGW List.pairwise_lt_range).1;let op:(QC3.map Qx1).Perm Q8M:=by rw[sn];exact o2
 let lt:∀p∈QGW.filterMap (λj=>(L.getD j yy).map Qpf),p.2<es.size:=λp hp=>Va1.mp (op.mem_iff.mp (Vm.mpr ⟨p,hp,rfl⟩));let fm:∀l:List (Nat×Nat),(∀p∈l,p.2<es.size)->(l.map Qx1).filterMap QHC=l.map λp=>es.getD p.2 QeW:=λl=>by
  induction l with
  |nil=>intro _;rfl|cons a l ih=>intro h;let ha:=h a V6;rw[Uh,Uh,U5,Uo ha];simp;rw[ih λx hx=>h x Q3d];congr 1;simp![Va8,ha]
 unfold laid;rw[lc];calc⟨_,_,rfl,⟨fs,rfl⟩,rfl,rfl,rfl,rfl,?_,?_,?_,?_,by rw[Vdy];calc op⟩;·show(Vd1 _ _).toArray.size=_;let h1:=congrArg List.length sn;rw[Ve,o2.length_eq,U6]at h1;simp[Vq,Ve];exact h1
 ·rw[<-V1,Vhj,Vdy,fm _ lt,Ve];let:=op.length_eq;rw[Ve,U6]at this;exact this
 ·rw[Vhj,Vdy];let h1:=op.filterMap QHC;let h2:Q8M.filterMap QHC=es.toList:=by
   apply Vha;intro i;let q:∀l:LN,(∀x∈l,x<es.size)->l.filterMap QHC=l.map λx=>es.getD x QeW:=λl=>by
    induction l with
    |nil=>intro _;rfl|cons a l ih=>intro h;let ha:=h a V6;rw[Uh,U5,Uo ha];simp;rw[ih λx hx=>h x Q3d];congr 1;simp![Va8,ha]
   rw[q _ λx hx=>Va1.mp hx,Ud];by_cases hi:i<es.size;·rw[Vc3 hi,Ue,Uo hi];simp![Va8,hi]
   ·rw[Va2 Qr0,Va2 Qr0];rfl
  rw[h2]at h1;exact h1
 intro j h x aa;unfold Ats at aa;rw[Vhj,Vdy,fm _ lt]at aa;rw[List.zip_map']at aa;let⟨⟨j',c⟩,hp,e'⟩:=Vm.mp aa;let hc:c<es.size:=lt _ hp;let⟨h',g1,n,g2,g3⟩:=O.way j' c ((Xow o1 j' c).mp hp);let e1:j'=j:=congrArg Qb e';let e2:es.getD c QeW=QSc:=congrArg Qx1 e';let eh:h'=h:=by
  rw[Ue,Array.getElem?_map,Uo hc]at g1;let e3:es[c]=QSc:=by simpa [Va8,hc] using e2
  rw[e3]at g1;exact(Ur g1).symm
 subst eh e1;calc⟨n,g2,λi hi=>?_⟩;let hz:=g3 i hi;let ae:=X8i m h' i;show pth m h' i∈(Vd1 (λ(x:Nat×Nat)=>x.1) QC3).toArray.toList;rw[Vdy];let ab:pth m h' i<L.size:=by omega
 rw[Uo ab]at hz;cases q:L[pth m h' i] with
 |none=>rw[q]at hz;cases hz rfl|some c'=>calc Vm.mpr ⟨(pth m h' i,c'),(Xow o1 _ _).mpr (by rw[Uo ab,q]),rfl⟩
structure Tab(t:Uw)(n:Nat):Prop where
 tb:Tb t
 pl:t.plain=yx
 sz:t.place.size=n
 mg:Mg t.mask
 room:n*5<t.mask*3
 ln:n<1300
def Tab.le{t:Uw}{n:Nat}(T:Tab t n):n+1<=t.mask:=by let:=T.room;rcases T.mg with e|e|e|e|e|e<;>omega
def Xag{t:Uw}{n:Nat}(T:Tab t n):t.fits n=true:=by let:=T.le;unfold Vho;rw[Xbn T.tb,T.sz];simp!;omega
def X8j{t:Uw}{es:Array Qw0}(T:Tab t es.size)(h:Int)(x:Vb):∃B t',layNew t es h x=(B,t',yw,yw)/\Tb t'/\t'.mask=t.mask/\t'.plain=yx/\t'.led=t.led/\t'.place.size=es.size+1/\B.size=es.size+1:=by
 let le:=T.le;let⟨N,n1,n2,n3⟩:=Xse T.tb T.mg.cy (by rw[T.sz];omega) h;let⟨p1,p2,p3,p4,p5,p6⟩:=Xwy T.tb QpM;let f1:t.freeSlot h=yz (pth t.mask h N,yw):=by
  let pt:∀n,(its t n QKR).j=pth t.mask h n:=λn=>by rw[Xor];rfl
  unfold freeSlot probe;rcases Xuq T.tb (λ_=>h+1) h N _ QKR rfl n1 (by rw[pt];calc n2) (λk hk=>by rw[pt];calc n3 k hk) with⟨_,g⟩|⟨_,_,_,_,g,_⟩;·rw[g,pt];rfl
  ·omega
 generalize pth t.mask h N=j at *;rw[T.sz]at p2 p6;let L:QU5.size=es.size+1:=by rw[<-V1,Xb7 _ _ _ p6];simp!;omega
 let ft:Qb2.1.fits QU5.size=true:=by unfold Vho;rw[Xbn p1,p2,L,p3];simp!;omega
 calc⟨insertAt es Qb2.2 QSc,Qb2.1,?_,p1,p3,by rw[p4];calc T.pl,p5,p2,L⟩;unfold layNew;rw[f1];show(insertAt es Qb2.2 QSc,Qb2.1.orStandIn QU5.size,yw,! Qb2.1.fits QU5.size)=_;unfold SetTable.orStandIn;generalize t.put j=pj at ft;rw[ft];rfl
def X0j{t:Uw}{es:Array Qw0}{wanted:Nat}(hp:t.plain=yx)(hm:Mg QwM)(hl:es.size<=sizeAbove wanted-1):∃L t',relayAll t es wanted=(L,t',yw)/\Tb t'/\t'.mask=sizeAbove wanted-1/\t'.plain=yx/\t'.led=t.led/\t'.place.size=es.size/\L.size=es.size:=by
 let⟨t',B,e,T,h1,h2,h3,_,h4,sz,_,_,h5⟩:=X3e (f:=t.finger) (v:=t.movedTo QwM) (led:=t.led) (pl:=t.plain) hm.cy es Q0;let rl:t.relaid QK8 wanted=yz (t',B):=e;let cv:coversAll B es.size=true:=List.isPerm_iff.mpr h5;let ft:t'.fits QN4.size=true:=by unfold Vho;rw[Xbn T,h4,sz,h1];simp!;omega
 calc⟨_,t',?_,T,h1,by rw[h2];calc hp,h3,h4,sz⟩;unfold relayAll;rw[rl];dsimp;rw[cv,ft];rfl
def Xsh{n m:Nat}(B:Mg m)(h0:n*5<m*3)(L:n<1200)(h1:¬ QF6*5<m*3):Mg QkI/\QF6*5<QkI*3/\sizeAbove (grown QF6)<=8192:=by
 rcases B with rfl|rfl|rfl|rfl|rfl|rfl
 ·obtain rfl:n=4:=by omega
  exact⟨.inr (.inl Q8),by decide+kernel,by decide+kernel⟩
 ·obtain rfl:n=18:=by omega
  exact⟨.inr QQG,by decide+kernel,by decide+kernel⟩
 ·obtain rfl:n=76:=by omega
  exact⟨.inr QSb,by decide+kernel,by decide+kernel⟩
 ·obtain rfl:n=306:=by omega
  exact⟨.inr (.inr QSb),by decide+kernel,by decide+kernel⟩
 ·omega
 omega
abbrev Xfw(p:LI×Addr):Int×Vb:=(reduceHash (Builtin.Tuple.tupleHashOf (p.1.map hashInt)),.ref p.2)
structure TabG(t:Uw)(es:Array Qw0):Prop extends Tab t es.size where
 own:Xur t es
universe Z
universe e
section
namespace Z
open PySem PySem.Spec PyProof.Rows L2
theorem FrL(K:Vh)(H:Hp)(a:Addr)(vs:LW):Prop:=
 (∃o,H a=yz (.frz o Q93)) \/
  ∃(o:Obj) (its:AV) (n:Nat),K.lookup a=yz o/\o.cls=.type "list" /\ o.dict=yy/\o.data=.seq its n/\its.size<=V8/\Vals vs its.toList
def FrL.sq{K:Vh}{H:Hp}{a:Addr}{vs:LW}(h:FrL K H a vs):SqL K H a vs:=by
 rcases h with⟨o,h⟩|h;·exact .inl (.inr QbI)
 ·calc .inr h
mutual
theorem RD(K:Vh)(ρ:LR)(H:Hp):D->V->Prop
 |.non,v=>v=.non|.bl b,v=>v=.bl b|.int i,v=>v=.int i|.str x,v=>v=.str x|.tup xs,v=>∃a vs,v=.ref a/\SqT K H a vs/\RDs K ρ H xs vs|.fro xs,v=>∃a vs,v=.ref a/\FrL K H a vs/\RDs K ρ H xs vs|.ref n,v=>∃a,v=.ref a/\ρ[n]?=yz a|.fn _ nm,v=>∃a,v=.ref a/\Va3 K Up nm=yz QhN|.edc,v=>∃a o,v=.ref a/\H a=yz QHY
theorem RDs(K:Vh)(ρ:LR)(H:Hp):LD->LW->Prop
 |[],vs=>vs=[]|x::xs,vs=>∃v r,vs=v::r/\RD K ρ H x v/\RDs K ρ H xs r
end
abbrev clsNames:LS:=["FaceError","NoNet","NoFace","NoPoint","NotApart","TooMany","NoText","NoRow","NoNumber","NotLevel","NoCrowd","NoWay","NotClosed","NoSwap","NoPlaces","NoDeed","NoLine"]
abbrev Xcd(c:Nat):Option Str:=(clsNames[c]?).filter λx=>!decide (x="")
def Xox(h:Xcd c=yz x):c<lg clsNames:=by
 unfold Xcd at h;cases q:clsNames[c]? with
 |none=>rw[q]at h;cases h|some _=>calc QdH.1
abbrev Xac(K:Vh)(c:Nat):Option Addr:=QSg.bind λnm=>match Va3 K Up nm with
 |some QPV=>yz C|_=>yy
theorem ExcO(C a:Addr)(h:Heap):Prop:=∃B vs L,h.get? a=yz B/\B.cls=.ref C/\B.data=.fields vs/\vs[0]?=yz L/\1<vs.size
def ExcO.ok(x:ExcO C a h):ObjOk P w H h a Qq1:=
 ⟨x,let ⟨oe,_,_,e,_⟩:=x;⟨oe,e⟩,λh1 h2 ⟨oe,vs,a0,e,r⟩ k=>⟨oe,vs,a0,k _ e,r⟩⟩
theorem X8k(a:Addr)(o:Obj)(xs:List QH5):Prop:=Q0W=yw/\QL<=V8/\o.ExactDict/\∃(ys:List (LI×Addr×Vb)) (es:Array DictEntry) (ep:Nat),
 Paired (λp q=>p.1=q.1/\p.2.1=q.2.1/\RelV p.2.2 q.2.2) xs ys/\o.data=.dict es ep/\(∀P w,es.toList=ys.map (entryOfKey (tupleKind QPT)))/\(ys.map Qb).Nodup
theorem Yfx(a:Addr)(xs:List QH5)(h:Heap):Prop:=∃o,h.get? a=yz o/\X8k a o xs
private abbrev DX(K:Vh)(ρ:LR)(H:Hp):List QHF->List QH5->Prop:=Paired λp q=>p.1=q.1/\SqT K H q.2.1 QWB/\RD K ρ H p.2 q.2.2
abbrev sB(w:Ua):Bool:=!w.params.followText "set-order"
theorem StO(B:Bool)(a:Addr)(ps:List Qf1)(h:Heap):Prop:=∃o es ep t,h.get? a=yz o/\o.ExactSet/\o.data=.set es ep t/\es.toList=ps.map Xfw/\TabG t es/\t.led=B
def StO.ok(x:StO bo a ps h):ObjOk P w H h a (.ext (StO bo a ps)):=
 ⟨x,let ⟨o,_,_,_,e,_⟩:=x;⟨o,e⟩,λh1 h2 ⟨o,es,ep,t,e,r⟩ k=>⟨o,es,ep,t,k _ e,r⟩⟩
theorem OR(K:Vh)(B:Bool)(ρ:LR)(H:Hp)(a:Addr):O->Prop
 |.lst xs=>∃vs,H a=yz Q93/\RDs K ρ H xs vs|.dct kvs=>(kvs=[]/\H a=yz Q57)\/(kvs≠[]/\∃xs,H a=yz (.ext (Yfx a xs))/\DX K ρ H kvs xs)|.fdc kvs=>∃o u xs,H a=yz QT1/\(∀ys,u≠.tup ys)/\(∀ys,u≠.lst ys)/\X8k a o xs/\DX K ρ H kvs xs|.exc c=>∃C,Xac K c=yz C/\H a=yz Qq1|.st ks=>∃ps,H a=yz (.ext (StO B a ps))/\(∀p∈ps,SqT K H p.2 QWB)/\Ql6.Perm ks/\ks.Nodup|.ded=>∃o u,H a=yz QT1
def OR.some{K:Vh}{B:Bool}{ρ:LR}{H:Hp}{a:Addr}{o:O}(h:OR K B ρ H a o):∃u,H a=yz u/\∀xs,u≠.tup xs:=by
 cases o with
 |lst xs=>let⟨vs,e,_⟩:=h;exact⟨_,e,λ_ z=>(nomatch z)⟩|dct kvs=>
  rcases h with⟨_,e⟩|⟨_,xs,e,_⟩;·exact⟨_,e,λ_ z=>(nomatch z)⟩
  ·calc⟨_,e,λ_ z=>(nomatch z)⟩|fdc kvs=>let⟨o,u,xs,e,_⟩:=h;calc⟨_,e,λ_ z=>(nomatch z)⟩|exc c=>let⟨C,_,e⟩:=h;calc⟨_,e,λ_ z=>(nomatch z)⟩|st ks=>let⟨ps,e,_⟩:=h;calc⟨_,e,λ_ z=>(nomatch z)⟩|ded=>let⟨o,u,e⟩:=h;calc⟨_,e,λ_ z=>(nomatch z)⟩
def OR.nt{K:Vh}{B:Bool}{ρ:LR}{H:Hp}{a:Addr}{o:O}{q:Str}(h:OR K B ρ H a o):H a≠Option.some (HO.tbl q):=λz=>by
 cases o with
 |lst xs=>let⟨vs,e,_⟩:=h;rw[z]at e;cases e|dct kvs=>rcases h with⟨_,e⟩|⟨_,xs,e,_⟩<;>(rw[z]at e;cases e)
 |fdc kvs=>let⟨o,u,xs,e,_⟩:=h;rw[z]at e;cases e|exc c=>let⟨C,_,e⟩:=h;rw[z]at e;cases e|st ks=>let⟨ps,e,_⟩:=h;rw[z]at e;cases e|ded=>let⟨o,u,e⟩:=h;rw[z]at e;cases e
abbrev mks:LS:=["_law_first_ones","first_wrong"]
abbrev Xjf(nm:Str):Str:=nm ++ ".<locals>." ++ "<lambda>"
abbrev Xoy(K:Vh):List (Addr×Str):=mks.filterMap λnm=>(Vhp K nm).map λp=>(p.2,Xjf nm)
theorem TabH(K:Vh)(H:Hp):Prop:=∀P q,QAg.lookup P=yz q->H P=yz Qye
def TabH.upd{K:Vh}{H:Hp}{p:Addr}{u:HO}(t:TabH K H)(h:∀q,H p≠yz Qye):TabH K QBJ:=λP q e=>by rw[Xe λz=>h q (by rw[<-z];calc t P q e)];calc t P q e
structure SR(K:Vh)(bo:Bool)(ρ:LR)(S:Sto)(H:Hp):Prop where
 tab:TabH K H
 len:(lg ρ)=lg S
 nd:ρ.Nodup
 ob:∀(n:Nat) a o,ρ[n]?=yz a->S[n]?=yz o->OR K bo ρ H a o
structure Mon(K:Vh)(ρ ρ':LR)(H H':Hp):Prop where
 pre:∀(n:Nat) a,ρ[n]?=yz a->ρ'[n]?=yz a
 tup:∀a xs,SqT K H a xs->SqT K H' a xs
 frz:∀a o u,H a=yz QT1->H' a=yz QT1
structure Stp(K:Vh)(ρ ρ':LR)(H H':Hp):Prop extends Mon K ρ ρ' H H' where
 new:∀a∈ρ',a∈ρ\/H a=yy
 keep:∀a o,H a=yz o->a ∉ ρ->H' a=yz o
section
variable{K:Vh}{ρ ρ' ρ'':LR}{H H' H'':Hp}{S:Sto}
def Mon.fro(x:Mon K ρ ρ' H H')(a:Addr)(xs:LW)(h:FrL K H a xs):FrL K H' a xs:=by
 rcases h with⟨o,h⟩|h;·exact .inl ⟨o,x.frz _ _ _ h⟩
 ·calc .inr h
def Stp.refl:Stp K ρ ρ H H:=⟨⟨λ_ _ h=>h,λ_ _ h=>h,λ_ _ _ h=>h⟩,λ_ h=>.inl h,λ_ _ h _=>h⟩
def Stp.trans(x:Stp K ρ ρ' H H')(y:Stp K ρ' ρ'' H' H''):Stp K ρ ρ'' H H'' where
 pre:=λn a h=>y.pre n a QSV
 new:=λa h=>by
  rcases y.new a h with h|h;·exact x.new a h
  ·cases e:H a with
   |none=>exact .inr rfl|some o=>
    by_cases B:a∈ρ;·exact .inl B
    ·rw[x.keep a o e B]at h;cases h
 keep:=λa o h n=>y.keep a o (x.keep a o h n) λB=>by
  rcases x.new a B with z|z;·exact n z
  ·rw[h]at z;cases z
 tup:=λa xs h=>y.tup a xs QiI
 frz:=λa o u h=>y.frz a o u Q6H
mutual
def RD.mono'(x:Mon K ρ ρ' H H'):∀(d:D) (v:V),RD K ρ H d v->RD K ρ' H' d v
 |.non=>λv h=>by simpa only[RD] using h|.bl b=>λv h=>by simpa only[RD] using h|.int i=>λv h=>by simpa only[RD] using h|.str y=>λv h=>by simpa only[RD] using h|.tup xs=>λv h=>by simp[RD]at h |-;let⟨a,vs,e,h1,h2⟩:=h;exact⟨a,vs,e,x.tup a vs h1,RDs.mono' x xs vs h2⟩|.fro xs=>λv h=>by simp[RD]at h |-;let⟨a,vs,e,h1,h2⟩:=h;exact⟨a,vs,e,x.fro a vs h1,RDs.mono' x xs vs h2⟩|.ref n=>λv h=>by simp[RD]at h |-;let⟨a,e,h⟩:=h;exact⟨a,e,x.pre n a h⟩|.fn f nm=>λv h=>by simpa only[RD] using h|.edc=>λv h=>by simp[RD]at h |-;let⟨a,o,e,h⟩:=h;exact⟨a,o,e,x.frz _ _ _ h⟩
def RDs.mono'(x:Mon K ρ ρ' H H'):∀(ds:LD) (vs:LW),RDs K ρ H ds vs->RDs K ρ' H' ds vs
 |[]=>λvs h=>by simpa only[RDs] using h|d::ds=>λvs h=>by simp[RDs]at h |-;let⟨v,r,e,h1,h2⟩:=h;exact⟨v,r,e,RD.mono' x d v h1,RDs.mono' x ds r h2⟩
end
def RD.mono(x:Stp K ρ ρ' H H')(d:D)(v:V)(h:RD K ρ H d v):RD K ρ' H' d v:=RD.mono' x.toMon d v h
def RDs.mono(x:Stp K ρ ρ' H H')(ds:LD)(vs:LW)(h:RDs K ρ H ds vs):RDs K ρ' H' ds vs:=RDs.mono' x.toMon ds vs h
def RDs.nil:RDs K ρ H [] []:=by simp[RDs]
def RDs.cons(h:RD K ρ H d v)(t:RDs K ρ H ds vs):RDs K ρ H QGZ (v::vs):=by simp[RDs];calc⟨v,vs,rfl,h,t⟩
def RDs.length:∀ {ds:LD} {vs:LW},RDs K ρ H ds vs->lg ds=lg vs
 |[],vs,h=>by simp[RDs]at h;subst h;rfl|d::ds,vs,h=>by simp[RDs]at h;let⟨v,r,rfl,_,h2⟩:=h;simp![RDs.length h2]
def RDs.append:∀ {ds es:LD} {vs us:LW},RDs K ρ H ds vs->RDs K ρ H es us->RDs K ρ H (ds++es) Qwd
 |[],es,vs,us,h,t=>by simp[RDs]at h;subst h;calc t|d::ds,es,vs,us,h,t=>by simp[RDs]at h;let⟨v,r,rfl,h1,h2⟩:=h;calc RDs.cons h1 (RDs.append h2 t)
def RDs.get:∀ {ds:LD} {vs:LW} {i:Nat} {d:D},RDs K ρ H ds vs->ds[i]?=yz d->∃v,vs[i]?=yz v/\RD K ρ H d v
 |[],vs,i,d,h,e=>by simp! at e|x::ds,vs,0,d,h,e=>by simp[RDs]at h;let⟨v,r,rfl,h1,h2⟩:=h;simp! at e;subst e;calc QAX|x::ds,vs,i+1,d,h,e=>by simp[RDs]at h;let⟨v,r,rfl,h1,h2⟩:=h;let⟨B,L,h'⟩:=RDs.get (i:=i) h2 Qd9;calc⟨B,by simpa using L,h'⟩
def RDs.none{ds:LD}{vs:LW}{i:Nat}(h:RDs K ρ H ds vs)(e:ds[i]?=yy):vs[i]?=none:=by let:=h.length;rw[U3]at e |-;omega
def RDs.set(B:RD K ρ H d v):∀ {ds:LD} {vs:LW} (i:Nat),RDs K ρ H ds vs->RDs K ρ H (ds.set i d) (vs.set i v)
 |[],vs,i,h=>by simp[RDs]at h;subst h;calc RDs.nil|x::ds,vs,0,h=>by simp[RDs]at h;let⟨w,r,rfl,h1,h2⟩:=h;calc RDs.cons B h2|x::ds,vs,i+1,h=>by simp[RDs]at h;let⟨w,r,rfl,h1,h2⟩:=h;calc RDs.cons h1 (RDs.set B i h2)
def RDs.drop:∀ {ds:LD} {vs:LW} (n:Nat),RDs K ρ H ds vs->RDs K ρ H (ds.drop n) (vs.drop n)
 |ds,vs,0,h=>h|[],vs,n+1,h=>by simp[RDs]at h;subst h;calc RDs.nil|x::ds,vs,n+1,h=>by simp[RDs]at h;let⟨w,r,rfl,h1,h2⟩:=h;calc RDs.drop n h2
def RDs.take:∀ {ds:LD} {vs:LW} (n:Nat),RDs K ρ H ds vs->RDs K ρ H (ds.take n) (vs.take n)
 |ds,vs,0,h=>RDs.nil|[],vs,n+1,h=>by simp[RDs]at h;subst h;calc RDs.nil|x::ds,vs,n+1,h=>by simp[RDs]at h;let⟨w,r,rfl,h1,h2⟩:=h;calc RDs.cons h1 (RDs.take n h2)
def RDs.ints:∀(ns:LI),RDs K ρ H QX QV2
 |[]=>RDs.nil|n::ns=>RDs.cons Q92 (RDs.ints ns)
def RDs.ints_of:∀ {ns:LI} {vs:LW},RDs K ρ H QX vs->vs=ns.map V.int
 |[],vs,h=>by simp[Vd1,RDs]at h;calc h|n::ns,vs,h=>by simp[Vd1,RDs]at h;let⟨v,r,rfl,h1,h2⟩:=h;simp[RD]at h1;subst h1;rw[RDs.ints_of h2];rfl
def DX.mono(x:Mon K ρ ρ' H H')(h:DX K ρ H kvs xs):DX K ρ' H' kvs xs:=Paired.mapP h λp q Qd4=>⟨h1,x.tup _ _ h2,RD.mono' x _ _ h3⟩
def OR.mono'(x:Mon K ρ ρ' H H')(h:OR K bo ρ H a o)(e:H' a=H a):OR K bo ρ' H' a o:=by
 cases o with
 |lst xs=>let⟨vs,h1,h2⟩:=h;exact⟨vs,e.trans h1,RDs.mono' x xs vs h2⟩|dct kvs=>
  rcases h with⟨h1,h2⟩|⟨h0,xs,h1,h2⟩;·exact .inl ⟨h1,e.trans h2⟩
  ·calc .inr ⟨h0,xs,e.trans h1,h2.mono x⟩|fdc kvs=>let⟨o,u,xs,h1,h2,B,h4,L⟩:=h;calc⟨o,u,xs,e.trans h1,h2,B,h4,L.mono x⟩|exc c=>let⟨C,h1,h2⟩:=h;calc⟨C,h1,e.trans h2⟩|st ks=>let⟨ps,h1,h2,B⟩:=h;calc⟨ps,e.trans h1,λp hp=>x.tup _ _ QQc,B⟩|ded=>let⟨o,u,h⟩:=h;calc⟨o,u,e.trans h⟩
def OR.mono(x:Stp K ρ ρ' H H')(h:OR K bo ρ H a o)(e:H' a=H a):OR K bo ρ' H' a o:=OR.mono' x.toMon h e
def SR.at(r:SR K bo ρ S H){n:Nat}{a:Addr}(h:ρ[n]?=yz a):∃o,S[n]?=yz o/\OR K bo ρ H a o:=by
 let B:n<lg S:=by rw[<-r.len];exact QO8.1
 calc⟨S[n],by simp![B],r.ob n a _ h QvL⟩
def SR.adr(r:SR K bo ρ S H){n:Nat}(h:S[n]?=yz o):∃a,ρ[n]?=yz a/\OR K bo ρ H a o:=by
 let B:n < ρ.length:=by rw[r.len];exact QO8.1
 calc⟨ρ[n],by simp![B],r.ob n _ o QvL h⟩
def SR.mem(r:SR K bo ρ S H){a:Addr}(h:a∈ρ):∃u,H a=yz u/\∀xs,u≠.tup xs:=by let⟨n,B,e⟩:=Vb1.mp h;let⟨o,_,q⟩:=r.at (n:=n) (a:=a) (by simp![B,e]);calc q.some
def Stp.upd(hp:H p=yy):Stp K ρ ρ H QCJ where
 pre:=λ_ _ h=>h
 new:=λ_ h=>.inl h
 keep:=λa u h _=>by rw[Xe Q0M];exact h
 tup:=λa xs h=>by
  rcases h with(h|⟨u,h⟩)|h;·exact .inl (.inl (by rw[Xe Q0M];calc h))
  ·exact .inl (.inr ⟨u,by rw[Xe Q0M];calc h⟩)
  exact .inr h
 frz:=λa o u h=>by rw[Xe Q0M];calc h
def SR.upd(r:SR K bo ρ S H){p:Addr}{o:HO}(hp:H p=yy):SR K bo ρ S QCJ:=
 ⟨r.tab.upd λq=>QCG,r.len,r.nd,λn a ob h1 h2=>by let q:=r.ob n a ob h1 h2;let⟨u,B,_⟩:=q.some;calc q.mono QGM QLU⟩
def Stp.new1(hp:H p=yy):Stp K ρ Q8S H QCJ where
 pre:=λn a h=>by rw[Vy QO8.1];exact h
 new:=λa h=>by
  rcases Um.mp h with h|h;·exact .inl h
  ·rw[Vw.mp h];exact .inr hp
 keep:=Qx7.keep
 tup:=Qx7.tup
 frz:=Qx7.frz
def SR.new1(r:SR K bo ρ S H){p:Addr}{u:HO}{o:O}(hp:H p=yy)(ho:OR K bo Q8S QBJ p o):SR K bo Q8S Qne QBJ:=by
 let L:p ∉ ρ:=λh=>by let⟨w,B,_⟩:=r.mem h;rw[hp]at B;cases B
 calc⟨r.tab.upd λq=>QCG,by simp![r.len],?_,λn a ob h1 h2=>?_⟩;·rw[Vb9];calc Q76;rw[Vw.mp hy];exact λz=>L QJV
 ·by_cases hn:n < ρ.length;·rw[Vy hn]at h1;rw[Vy (by rw[<-r.len];calc hn)]at h2;let q:=r.ob n a ob h1 h2;let⟨w,B,_⟩:=q.some;exact q.mono QVK QLU
  ·let e:n=lg ρ:=by
    let:=QDF.1;simp! at this;omega
   subst e;simp! at h1;rw[r.len]at h2;simp! at h2;subst h1 h2;calc ho
def Stp.chg{n:Nat}{a:Addr}{o:O}{u:HO}(r:SR K bo ρ S H)(L:ρ[n]?=yz a)(hz:∀o u,H a≠yz QT1):Stp K ρ ρ H QDJ:=by
 let B:a∈ρ:=V7 L;let⟨w,hw,h1⟩:=r.mem B;exact⟨⟨λ_ _ h=>h,λb xs h=>?_,λb o u h=>?_⟩,λ_ h=>.inl h,λb o h hb=>?_⟩
 ·rcases h with(h|⟨v,h⟩)|h;·exact .inl (.inl (by rw[Xe (λz=>by subst z;rw[hw]at h;calc h1 _ QFM)];calc h))
  ·exact .inl (.inr ⟨v,by rw[Xe Q1G];calc h⟩)
  exact .inr h
 ·rw[Xe Q1G];exact h
 rw[Xe (λz=>hb QAG)];calc h
def SR.chg{n:Nat}{a:Addr}{o:O}{u:HO}(r:SR K bo ρ S H)(B:ρ[n]?=yz a)(hz:∀o u,H a≠yz QT1)(L:OR K bo ρ QDJ a o):SR K bo ρ QsZ QDJ:=by
 calc⟨r.tab.upd λq=>let ⟨_,_,h⟩:=r.at B;h.nt,by simp![r.len],r.nd,λm b ob h1 h2=>?_⟩;let hn:n<lg S:=by rw[<-r.len];exact QET.1
 by_cases e:m=n;·subst e;rw[B]at h1;cases h1;rw[Vap hn]at h2;cases h2;exact L
 ·rw[Vay QxZ]at h2;let q:=r.ob m b ob h1 h2;calc q.mono (Stp.chg (S:=S) (o:=o) r B hz) (Xe λz=>e ?_);subst z;let⟨h3,e3⟩:=Vk.mp h1;let⟨h4,e4⟩:=Vk.mp B;calc(List.getElem_inj r.nd).mp QzO
def Mon.own{D:Addr}{u:HO}{vs:LW}(hd:H D=yz Q93):Mon K ρ ρ H QEJ where
 pre:=λ_ _ h=>h
 tup:=λa xs h=>by
  rcases h with(h|⟨v,h⟩)|h;·exact .inl (.inl (by rw[Xe Qn5];calc h))
  ·exact .inl (.inr ⟨v,by rw[Xe Qn5];calc h⟩)
  exact .inr h
 frz:=λa o u h=>by rw[Xe Qn5];calc h
def SR.own{D:Addr}{u:HO}{vs:LW}(r:SR K bo ρ S H)(hd:H D=yz Q93)(B:D ∉ ρ):SR K bo ρ S QEJ:=
 ⟨r.tab.upd λq=>(by rw[hd];calc λz=>nomatch z),r.len,r.nd,λn a ob h1 h2=>QnN.mono' (Mon.own hd) (Xe λz=>B (by rw[<-z];calc V7 h1))⟩
def Stp.own{D:Addr}{u:HO}{vs:LW}{ρ0:LR}(x:Stp K ρ0 ρ H0 H)(L:H0 D=yy)(hd:H D=yz Q93):Stp K ρ0 ρ H0 QEJ where
 pre:=x.pre
 tup:=λa xs h=>(Mon.own (ρ:=ρ) hd).tup a xs QiI
 frz:=λa o u h=>(Mon.own (K:=K) (ρ:=ρ) hd).frz a o u Q6H
 new:=x.new
 keep:=λa o h B=>by rw[Xe (Xp h L)];calc x.keep a o h B
universe e
structure ER(K:Vh)(ρ:LR)(H:Hp)(env:En)(σ:L2.St):Prop where
 len:Q3e=lg σ
 val:∀(i:Nat) d,env[i]?=yz QZC->∃v,σ[i]?=yz Q59/\RD K ρ H d v
def ER.mono{K:Vh}{ρ ρ':LR}{H H':Hp}{env:En}{σ:L2.St}(r:ER K ρ H env σ)(x:Stp K ρ ρ' H H'):ER K ρ' H' env σ:=
 ⟨r.len,λi d e=>let ⟨v,h1,h2⟩:=r.val i d e;⟨v,h1,h2.mono x⟩⟩
def ER.mono'{K:Vh}{ρ ρ':LR}{H H':Hp}{env:En}{σ:L2.St}(r:ER K ρ H env σ)(x:Mon K ρ ρ' H H'):ER K ρ' H' env σ:=
 ⟨r.len,λi d e=>let ⟨v,h1,h2⟩:=r.val i d e;⟨v,h1,RD.mono' x d v h2⟩⟩
def ER.set{K:Vh}{ρ:LR}{H:Hp}{env:En}{σ:L2.St}(r:ER K ρ H env σ)(i:Nat){d:D}{v:V}(h:RD K ρ H d v):ER K ρ H QSH QXC:=
 ⟨by simp![r.len],λj e h1=>by
  by_cases z:j=i
  ·subst z;let B:j<lg env:=by
    let:=QDF.1;simpa using this
   rw[Vap B]at h1;cases h1;exact⟨v,by rw[Vap QxL],h⟩
  rw[Vay QwZ]at h1
  let⟨v',h2,L⟩:=r.val j e h1;calc⟨v',by rw[Vay QwZ];calc h2,L⟩⟩
structure S0(X:Cx)(pc:LA)(σ:L2.St)(H:Hp)(s:Vc)(ρ:LR)(S:Sto)(env:En):Prop where
 inv:Inv X pc σ H s
 sr:SR X.K QY1 ρ S H
 er:ER X.K ρ H env σ
def S0.step(I:S0 X pc σ H s ρ S env)(J:Inv X pc σ H' s')(r:SR X.K QY1 ρ' S' H')(x:Stp X.K ρ ρ' H H'):
  S0 X pc σ H' s' ρ' S' env:=⟨J,r,I.er.mono x⟩
theorem EPd(X:Cx)(pc:LA)(σ:L2.St)(ρ:LR)(H:Hp)(d:D)(S':Sto)(u:Vb)(s':Vc):Prop:=
 ∃v H' ρ',Inv X pc σ H' s'/\RelV v u/\RD X.K ρ' H' d v/\SR X.K QY1 ρ' S' H'/\Stp X.K ρ ρ' H H'
theorem Trc(fl:Vb)(ok:Addr->Prop)(H':Hp)(a:Addr)(h:Heap):Prop:=
 ∃oe vs T L B,h.get? a=yz oe/\oe.data=.fields vs/\vs[1]?=yz QsG/\ok T/\T≠a/\H' T=yy/\h.get? T=yz L/\L.data=.fields B/\B[3]?=yz fl
def Trc.imp(x:Trc fl ok H' a h)(k:∀T,ok T->ok' T):Trc fl ok' H' a h:=by let⟨L,vs,T,oT,B,h1,h2,h3,h4,r⟩:=x;calc⟨L,vs,T,oT,B,h1,h2,h3,k T h4,r⟩
theorem Xlj(X:Cx)(pc:LA)(T:Addr):Prop:=(T∈X.ex\/X.s₀.heap.get? T=yy)/\∀p∈X.pn++pc,p.1≠T
theorem Fly(X:Cx)(pc:LA)(H':Hp)(a:Addr)(h:Heap):Prop:=
 (∃B vs,h.get? a=yz B/\B.data=.fields vs/\vs[1]?=yz .none)\/∃fl,(fl=.none\/fl=U0 X.env.locals)/\Trc fl (Xlj X pc) H' a h
theorem XPd(X:Cx)(pc:LA)(σ:L2.St)(ρ:LR)(H:Hp)(n:Nat)(S':Sto)(e:Vb)(s':Vc):Prop:=
 ∃H' ρ' a c,Inv X pc σ H' s'/\e=.ref a/\ρ'[n]?=yz a/\S'[n]?=yz Qp3/\SR X.K QY1 ρ' S' H'/\Stp X.K ρ ρ' H H'/\Fly X pc H' a s'.heap
theorem OkP(X:Cx)(pc:LA)(σ:L2.St)(ρ:LR)(H:Hp)(r:R D)(u:Vb)(s':Vc):Prop:=∃d S',r=.ok d S'/\EPd X pc σ ρ H d S' u s'
theorem ExP(X:Cx)(pc:LA)(σ:L2.St)(ρ:LR)(H:Hp){α:Type}(r:R α)(e:Vb)(s':Vc):Prop:=∃n S',r=.ex n S'/\XPd X pc σ ρ H n S' e s'
theorem DE(X:Cx)(e:Expr)(f:En->Sto->R D):Prop:=
 ∀(pc:LA) (s:Vc) (σ:L2.St) (H:Hp) (ρ:LR) (S:Sto) (env:En),S0 X pc σ H s ρ S env->f env S≠.bad ->
  Vg Q3 X.A Qf3 (OkP X pc σ ρ H QE0) Qc4 s
theorem DT(X:Cx)(e:Expr)(f:En->Sto->R Bool):Prop:=
 ∀(pc:LA) (s:Vc) (σ:L2.St) (H:Hp) (ρ:LR) (S:Sto) (env:En),S0 X pc σ H s ρ S env->f env S≠.bad ->
  Vg Q3 X.A QGC Qr2 Qc4 s
section
variable{X:Cx}{pc:LA}{σ:L2.St}{H:Hp}{s:Vc}{ρ:LR}{S S':Sto}{env:En}{e:Expr}{f:En->Sto->R D}{g:En->Sto->R Bool}{Q:VP}{E:VP}
def DE.ok(h:DE X e f)(I:S0 X pc σ H s ρ S env)(r:f env S=.ok d S')(hQ:∀u s' v H' ρ',S0 X pc σ H' s' ρ' S' env->RelV v u->RD X.K ρ' H' d v->Stp X.K ρ ρ' H H'->Q u s'):
  Vg Q3 X.A Qf3 Q E s:=by
 let B:f env S≠.bad:=by rw[r];exact λz=>nomatch z
 exact Vp QL3 Qy6 λx s' q=>?_;·let⟨d',S1,e1,v,H',ρ',J,L,rd,sr,st⟩:=q;rw[r]at e1;cases e1;exact hQ u s' v H' ρ' QsA L rd st
 ·let⟨n,S1,e1,_⟩:=q;rw[r]at e1;cases e1
def DE.ex(h:DE X e f)(I:S0 X pc σ H s ρ S env)(r:f env S=.ex n S')(L:∀x s',XPd X pc σ ρ H n S' x s'->E x s'):
  Vg Q3 X.A Qf3 Q E s:=by
 let B:f env S≠.bad:=by rw[r];exact λz=>nomatch z
 exact Vp QL3 Qy6 λx s' q=>?_;·let⟨d',S1,e1,_⟩:=q;rw[r]at e1;cases e1
 ·let⟨m,S1,e1,q⟩:=q;rw[r]at e1;cases e1;calc L x s' q
def DT.ok{Q:Bool->Vc->Prop}{b:Bool}(h:DT X e g)(I:S0 X pc σ H s ρ S env)(r:g env S=.ok b S')(L:∀s' H' ρ',S0 X pc σ H' s' ρ' S' env->Stp X.K ρ ρ' H H'->Q b s'):
  Vg Q3 X.A QGC Q E s:=by
 let B:g env S≠.bad:=by rw[r];exact λz=>nomatch z
 exact Vp QL3 Qy6 λx s' q=>?_;·let⟨S1,e1,H',ρ',J,sr,st⟩:=q;rw[r]at e1;cases e1;exact L s' H' ρ' QsA st
 ·let⟨n,S1,e1,_⟩:=q;rw[r]at e1;cases e1
def DT.ex{Q:Bool->Vc->Prop}{n:Nat}(h:DT X e g)(I:S0 X pc σ H s ρ S env)(r:g env S=.ex n S')(L:∀x s',XPd X pc σ ρ H n S' x s'->E x s'):
  Vg Q3 X.A QGC Q E s:=by
 let B:g env S≠.bad:=by rw[r];exact λz=>nomatch z
 exact Vp QL3 Qy6 λx s' q=>?_;·let⟨S1,e1,_⟩:=q;rw[r]at e1;cases e1
 ·let⟨m,S1,e1,q⟩:=q;rw[r]at e1;cases e1;calc L x s' q
def XPd.pre(st:Stp X.K ρ ρ' H H')(h:XPd X pc σ ρ' H' n S' x s'):XPd X pc σ ρ H n S' x s':=by let⟨H2,ρ2,a,c,J,e,hn,hc,sr,st2,fl⟩:=h;calc⟨H2,ρ2,a,c,J,e,hn,hc,sr,st.trans st2,fl⟩
def ExP.mk{α:Type}(st:Stp X.K ρ ρ' H H')(h:XPd X pc σ ρ' H' n S' x s'):ExP X pc σ ρ H (.ex n S':R α) x s':=⟨n,S',rfl,h.pre st⟩
def OkP.mk(st:Stp X.K ρ ρ' H H')(J:Inv X pc σ H' s')(L:RelV v u)(B:RD X.K ρ' H' d v)(sr:SR X.K QY1 ρ' S' H'):OkP X pc σ ρ H QhQ u s':=
 ⟨d,S',rfl,v,H',ρ',J,L,B,sr,st⟩
def OkP.pre(st:Stp X.K ρ ρ' H H')(h:OkP X pc σ ρ' H' r u s'):OkP X pc σ ρ H r u s':=by let⟨d,S1,e,v,H2,B,J,rv,L,sr,st2⟩:=h;calc⟨d,S1,e,v,H2,B,J,rv,L,sr,st.trans st2⟩
def ExP.pre{α:Type}{ρ':LR}{H':Hp}{r:R α}{x:Vb}{s':Vc}(st:Stp X.K ρ ρ' H H')(h:ExP X pc σ ρ' H' r x s'):ExP X pc σ ρ H r x s':=by let⟨n,S1,e,q⟩:=h;calc⟨n,S1,e,q.pre st⟩
def DE.bind{α:Type}(h:DE X e f)(I:S0 X pc σ H s ρ S env){k:D->Sto->R α}(B:QE0.bind k≠.bad){r:R α}(L:r=QE0.bind k)
  (hQ:∀d S1 u s' v H' ρ',r=k d S1->k d S1≠.bad->S0 X pc σ H' s' ρ' S1 env->RelV v u->RD X.K ρ' H' d v->Stp X.K ρ ρ' H H'->Q u s') (hE:∀x s',ExP X pc σ ρ H r x s'->E x s'):
  Vg Q3 X.A Qf3 Q E s:=by
 cases q:f env S with
 |bad=>rw[q]at B;cases B rfl|ex n S1=>rw[q]at L;calc h.ex I q λx s' z=>hE x s' QwJ|ok d S1=>rw[q]at L B;calc h.ok I q λu s' v H' ρ' J rv rd st=>hQ d S1 u s' v H' ρ' L B J rv rd st
universe e
def Xj6:big<=V8:=by rw[Va7];decide
def Xb9(h:n<=big):n<=V8:=V5 h Xj6
abbrev tst(r:R D):R Bool:=r.bind λx S=>match X4 S x with
 |some b=>.ok b S|none=>.bad
section
variable{X:Cx}{pc:LA}{σ:L2.St}{H:Hp}{s:Vc}{ρ:LR}{S S':Sto}{env:En}{e a b c:Expr}{f fa fb fc:En->Sto->R D}{Q:VP}{E:VP}{pos:Pos}
def opd{f:Vb->Vb->Sem Vb}(B:OpR QT4 f r)(I:Inv X pc σ H s)(rx:RelV x v)(ry:RelV y u)(h:r x y H Q')
  (L:∀w s' z H',Inv X pc σ H' s'->RelV z w->Q' z H'->Q w s'):Vg Q3 X.A QpS Q E s:=
 thn (B pc s σ H x y v u Q' QkJ rx ry h) λw s' QEA=>L w s' z H' J.unwish rz q
def ped(L:PE QT4 e t)(I:Inv X pc σ H s)(h:t σ H Q')(B:∀w s' z H',Inv X pc σ H' s'->RelV z w->Q' z H'->Q w s'):Vg Q3 X.A Qf3 Q E s:=
 thn (L pc s σ H Q' QkJ h) λw s' QEA=>B w s' z H' J.unwish rz q
def Xhv{f:Vb}{r:LW->Hp->VK->Prop}{xs:LW}{us:LV}{Q':VK}(L:Xhq QT4 f r)(I:Inv X pc σ H s)(rx:Vals xs us)(h:r xs H Q')
  (B:∀w s' z H',Inv X pc σ H' s'->RelV z w->Q' z H'->Q w s'):Vg Q3 X.A Q5O Q E s:=
 thn (L pc s σ H xs us Q' QkJ rx h) λw s' QEA=>B w s' z H' J.unwish rz q
def mtd{id:String}{r:V->LW->Hp->VK->Prop}{x:V}{xs:LW}{v:Vb}{us:LV}{Q':VK}(L:MtM QT4 id r)(I:Inv X pc σ H s)(rx:RelV x v)(rs:Vals xs us)(h:r x xs H Q')
  (B:∀w s' z H',Inv X pc σ H' s'->RelV z w->Q' z H'->Q w s'):Vg Q3 X.A Q1P Q E s:=
 thn (L pc s σ H x xs v us Q' QkJ rx rs h) λw s' QEA=>B w s' z H' J.unwish rz q
def S0.list(I:S0 X pc σ H s ρ S env)(h:lstAt S n=yz xs):∃a vs,ρ[n]?=yz a/\H a=yz Q93/\RDs X.K ρ H xs vs:=by
 unfold lstAt at h;cases e:S[n]? with
 |none=>rw[e]at h;cases h|some o=>
  rw[e]at h;cases o with
  |lst ys=>cases h;let⟨a,B,vs,L,hr⟩:=I.sr.adr e;calc⟨a,vs,B,L,hr⟩|_=>cases h
def S0.seq(I:S0 X pc σ H s ρ S env)(h:Xi S d=yz xs)(r:RD X.K ρ H d v):∃a vs,v=.ref a/\(SqL X.K H a vs\/SqT X.K H a vs)/\RDs X.K ρ H xs vs:=by
 cases d with
 |tup ys=>simp[Xi,Vx]at h;subst h;simp[RD]at r;let⟨a,vs,e,h1,h2⟩:=r;calc⟨a,vs,e,.inr h1,h2⟩|fro ys=>simp[Xi,Vx]at h;subst h;simp[RD]at r;let⟨a,vs,e,h1,h2⟩:=r;calc⟨a,vs,e,.inl h1.sq,h2⟩|ref n=>simp[RD]at r;let⟨a,e,h1⟩:=r;let⟨a',vs,h2,B,L⟩:=I.list (xs:=xs) (n:=n) h;rw[h1]at h2;cases h2;calc⟨a,vs,e,.inl (.of B),L⟩|_=>cases h
def S0.lsR(I:S0 X pc σ H s ρ S env)(h:lsD S d=yz xs)(r:RD X.K ρ H d v):∃a vs,v=.ref a/\SqL X.K H a vs/\RDs X.K ρ H xs vs:=by
 cases d with
 |fro ys=>cases h;simp[RD]at r;let⟨a,vs,e,h1,h2⟩:=r;calc⟨a,vs,e,h1.sq,h2⟩|ref n=>simp[RD]at r;let⟨a,e,h1⟩:=r;let⟨a',vs,h2,B,L⟩:=I.list (xs:=xs) (n:=n) h;rw[h1]at h2;cases h2;calc⟨a,vs,e,.of B,L⟩|_=>cases h
def Xce(h:RDs X.K ρ H ds vs):Q6X = !ds.isEmpty:=by let:=h.length;cases ds<;>cases vs<;>simp_all
def Xny(I:S0 X pc σ H s ρ S env){k:Bool}{Q:Bool->Vc->Prop}(h:X4 S d=yz k)(B:RD X.K ρ H d v)(rv:RelV v u)(hQ:∀s',Inv X pc σ H s'->Q k s'):
  Vg Q3 X.A (truthy u) Q E s:=by
 let aa:X77 X.K v H k:=by
  cases d with
  |non=>simp[RD]at B;subst B;simp[X4,Vx]at h;calc h.symm|bl b=>simp[RD]at B;subst B;simp[X4,Vx]at h;calc h.symm|int i=>simp[RD]at B;subst B;simp[X4,Vx]at h;exact h.symm|str x=>
   simp[RD]at B;subst B;simp[X4]at h;split at h;·rename_i hb;exact⟨Xb9 hb,QFM.symm⟩
   ·cases h|fn _ _=>cases h|edc=>cases h|tup xs=>
   simp[X4,Vx]at h;let⟨a,vs,e,h1,h2⟩:=I.seq (d:=.tup xs) rfl B;subst e;rcases h1 with h1|h1;·exact .inl Qs2
   ·exact .inr QVb|fro xs=>
   simp[X4,Vx]at h;let⟨a,vs,e,h1,h2⟩:=I.seq (d:=.fro xs) rfl B;subst e;rcases h1 with h1|h1;·exact .inl Qs2
   ·exact .inr QVb|ref n=>
   simp[X4]at h;cases e:S[n]? with
   |none=>rw[e]at h;cases h|some o=>
    rw[e]at h;cases o with
    |lst ys=>let⟨a,vs,h1,h2,h3⟩:=I.list (n:=n) (xs:=ys) (by unfold lstAt;rw[e]);simp[RD]at B;let⟨a',e',L⟩:=B;rw[h1]at L;cases L;subst e';exact .inl ⟨vs,.of h2,by rw[Xce h3];calc QFM.symm⟩|_=>cases h
 calc thn (X78 (X:=X.wish E) pc s σ H v u (λk' H'=>k'=k/\H'=H) QjC rv ⟨k,aa,rfl,rfl⟩) λb s' ⟨H',J,e1,e2⟩=>by subst e1 e2;calc hQ s' J.unwish
def DT.of(h:DE X e f)(he:∀B,isTrue e X.env B=QT3):DT X e QjO:=by
 intro pc s σ H ρ S env I L;dsimp at L |-;cases q:f env S with
 |bad=>rw[q]at L;cases L rfl|ex n S1=>exact isTrue_plain (h.ex I q λx s' z=>QH0) QVh|ok d S1=>
  rw[q]at L;cases t:X4 S1 d with
  |none=>simp![tst,t]at L|some k=>calc isTrue_plain (h.ok I q λu s' v H' ρ' J rv rd st=>?_) QVh;calc Xny J t rd rv λs2 J2=>⟨S1,by simp![tst,t],H',ρ',J2,J.sr,st⟩
def Ydt {i:Nat} (hN:X.N[i]?=yz x) (hv:Vis X.env.scope x) (hd:Q50=yw) (L:Qe4=yw):
  DE X Q28 (λenv S=>match env[i]? with|some QZC=>.ok d S|_=>.bad):=by
 intro pc s σ H ρ S env I B;dsimp at B |-;cases q:env[i]? with
 |none=>rw[q]at B;cases B rfl|some o=>
  cases o with
  |none=>rw[q]at B;cases B rfl|some d=>let⟨v,h1,h2⟩:=I.er.val i d q;calc ped (Q':=λz H'=>z=v/\H'=H) (X71 hN hv hd L) I.inv ⟨v,h1,rfl,rfl⟩ λu s' z H' J rz QE3=>by subst e1 e2;calc .mk .refl J rz h2 I.sr
def d_int:DE X QmM (λ_ S=>.ok Q61 S):=λpc s σ H ρ S env I _=>ped (Q':=λz H'=>z=.int i/\H'=H) X72 I.inv QG0 λu s' z H' J rz QE3=>by subst e1 e2;calc .mk .refl J rz Q92 I.sr
def d_bl:DE X (.Constant (.bool i) j pos) (λ_ S=>.ok (.bl i) S):=λpc s σ H ρ S env I _=>ped (Q':=λz H'=>z=.bl i/\H'=H) Ydp I.inv QG0 λu s' z H' J rz QE3=>by subst e1 e2;calc .mk .refl J rz Q92 I.sr
def d_non:DE X QqK (λ_ S=>.ok .non S):=λpc s σ H ρ S env I _=>ped (Q':=λz H'=>z=.non/\H'=H) X73 I.inv QG0 λu s' z H' J rz QE3=>by subst e1 e2;calc .mk .refl J rz Q92 I.sr
def d_str:DE X (.Constant Q0f j pos) (λ_ S=>.ok Q0f S):=λpc s σ H ρ S env I _=>ped (Q':=λz H'=>z=.str i/\H'=H) X74 I.inv QG0 λu s' z H' J rz QE3=>by subst e1 e2;calc .mk .refl J rz Q92 I.sr
theorem DA(X:Cx)(es:LX)(f:En->Sto->R LD):Prop:=
 ∀(pos:Pos) (pc:LA) (s:Vc) (σ:L2.St) (H:Hp) (ρ:LR) (S:Sto) (env:En),S0 X pc σ H s ρ S env->f env S≠.bad ->
  Vg Q3 X.A QjD
   (λus s'=>∃ds S' vs H' ρ',f env S=.ok ds S'/\Inv X pc σ H' s'/\Vals vs us/\RDs X.K ρ' H' ds vs/\SR X.K QY1 ρ' S' H'/\Stp X.K ρ ρ' H H') Qc4 s
def DA.ok{es:LX}{g:En->Sto->R (LD)}{Q:LV->Vc->Prop}{ds:LD}(h:DA X es g)(I:S0 X pc σ H s ρ S env)(r:g env S=.ok ds S')
  (hQ:∀us s' vs H' ρ',S0 X pc σ H' s' ρ' S' env->Vals vs us->RDs X.K ρ' H' ds vs->Stp X.K ρ ρ' H H'->Q us s'):
  Vg Q3 X.A QjD Q E s:=by
 let B:g env S≠.bad:=by rw[r];exact λz=>nomatch z
 exact Vp QcF Qy6 λx s' q=>?_;·let⟨d',S1,vs,H',ρ',e1,J,L,rd,sr,st⟩:=q;rw[r]at e1;cases e1;exact hQ u s' vs H' ρ' QsA L rd st
 ·let⟨n,S1,e1,_⟩:=q;rw[r]at e1;cases e1
def DA.ex{es:LX}{g:En->Sto->R (LD)}{Q:LV->Vc->Prop}{n:Nat}(h:DA X es g)(I:S0 X pc σ H s ρ S env)(r:g env S=.ex n S')(L:∀x s',XPd X pc σ ρ H n S' x s'->E x s'):
  Vg Q3 X.A QjD Q E s:=by
 let B:g env S≠.bad:=by rw[r];exact λz=>nomatch z
 exact Vp QcF Qy6 λx s' q=>?_;·let⟨d',S1,_,_,_,e1,_⟩:=q;rw[r]at e1;cases e1
 ·let⟨m,S1,e1,q⟩:=q;rw[r]at e1;cases e1;calc L x s' q
def DA.bind{α:Type}{es:LX}{g:En->Sto->R (LD)}{Q:LV->Vc->Prop}(h:DA X es g)(I:S0 X pc σ H s ρ S env){k:LD->Sto->R α}(B:QW5.bind k≠.bad){r:R α}(L:r=QW5.bind k)
  (hQ:∀ds S1 us s' vs H' ρ',r=k ds S1->k ds S1≠.bad->S0 X pc σ H' s' ρ' S1 env->Vals vs us->RDs X.K ρ' H' ds vs->Stp X.K ρ ρ' H H'->Q us s') (hE:∀x s',ExP X pc σ ρ H r x s'->E x s'):
  Vg Q3 X.A QjD Q E s:=by
 cases q:g env S with
 |bad=>rw[q]at B;cases B rfl|ex n S1=>rw[q]at L;calc h.ex I q λx s' z=>hE x s' QwJ|ok d S1=>rw[q]at L B;calc h.ok I q λu s' v H' ρ' J rv rd st=>hQ d S1 u s' v H' ρ' L B J rv rd st
def X8l:DA X [] (λ_ S=>.ok [] S):=λ_ pc s σ H ρ S env I _=>Vdq ⟨[],S,[],H,ρ,rfl,I.inv,.nil,.nil,I.sr,.refl⟩
def X4p{es:LX}{g:En->Sto->R (LD)}(ha:DE X a fa)(hr:DA X es g)(hs:Uf QU7 X.env=QU2::Uf es X.env):
  DA X QU7 (λenv S=>Qp.bind λx S=>QW5.bind λxs S=>.ok QMA S):=by
 intro pos pc s σ H ρ S env I nb;dsimp at nb |-;rw[hs];show Vg _ _ (spliced (QU2::Vb2 pos Qo0)) _ _ s;calc Vbm (ha.bind I nb rfl (λd S1 u s1 v H1 ae e1 ab I1 rv rd B=>?_) λ_ _ z=>z);rw[e1];calc hr.bind I1 ab rfl (λds S2 us s2 vs H2 aa e2 _ I2 L ac st2=>⟨d::ds,S2,v::vs,H2,aa,e2,I2.inv,.cons rv L,.cons QB5 ac,I2.sr,B.trans st2⟩) λ_ _ z=>z.pre B
def Xcm(J:Inv X pc σ (upd H p (.tup vs)) s')(hp:H p=yy)(sr:SR X.K QY1 ρ S H)(B:RDs X.K ρ H xs vs):OkP X pc σ ρ H (.ok Q21 S) QV s':=by calc .mk (v:=.ref p) QGM J rfl ?_ (sr.upd hp);simp[RD];calc⟨p,vs,rfl,.of Xu,RDs.mono QGM xs vs B⟩
def Xa4(J:Inv X pc σ (upd H p Q93) s')(hp:H p=yy)(sr:SR X.K QY1 ρ S H)(B:RDs X.K ρ H xs vs):OkP X pc σ ρ H (.ok Q7 QQ1) QV s':=by calc .mk (v:=.ref p) (ρ':=ρ++[p]) QVK J rfl ?_ (sr.new1 hp ⟨vs,Xu,RDs.mono QVK xs vs B⟩);simp[RD];calc⟨p,rfl,by rw[<-sr.len];simp!⟩
def Ydu{es:LX}{x1:Nat}{g:En->Sto->R (LD)}(h:DA X es g):DE X (.Tuple es x1 pos) (λenv S=>QW5.bind λxs S=>if QL<=big then .ok Q21 S else .bad):=by
 intro pc s σ H ρ S env I nb;dsimp at nb |-;calc wpAny_Tuple_spliced QE5;rw[e1];split at B
 ·rename_i hz;let hl:Qc3<=V8:=by rw[<-rd.length];exact Xb9 hz
  rw[iP0 hz];exact⟨by rw[<-rv.length];calc hl,OkP.pre aa (Xcm (L.inv.laid (t':=s1.toks) Qo9 Qd ⟨hl,us,rv,QK2⟩) QDN L.sr rd)⟩
 cases B rfl
def Ydv{es:LX}{g:En->Sto->R (LD)}(h:DA X es g):DE X (.List es pos) (λenv S=>QW5.bind λxs S=>if QL<=big then .ok Q7 QQ1 else .bad):=by
 intro pc s σ H ρ S env I nb;dsimp at nb |-;calc wpAny_List_spliced QE5;rw[e1];split at B
 ·rename_i hz;let hl:Qc3<=V8:=by rw[<-rd.length];exact Xb9 hz
  rw[iP0 hz];exact⟨by rw[<-rv.length];calc hl,OkP.pre aa (Xa4 (L.inv.laid (t':=s1.toks) Qo9 Qd ⟨hl,us,0,rv,Vo _ rfl⟩) QDN L.sr rd)⟩
 cases B rfl
theorem Op2(X:Cx)(m:Vb->Vb->Sem Vb)(k:D->D->Sto->R D):Prop:=
 ∀(pc:LA) (s:Vc) (σ:L2.St) (H:Hp) (ρ:LR) (S:Sto) (env:En) (x y:D) (v u:V) (B L:Vb) (E:VP),S0 X pc σ H s ρ S env->k x y S≠.bad ->
  RD X.K ρ H x v->RelV v B->RD X.K ρ H y u->RelV u L->Vg Q3 X.A (m B L) (OkP X pc σ ρ H (k x y S)) E s
def two(ho:Op2 X m k)(ha:DE X a fa)(hb:DE X b fb)(I:S0 X pc σ H s ρ S env){r:R D}
  (nb:Qp.bind (λx S=>QS4.bind λy S=>k x y S)≠.bad) (hr:r=Qp.bind λx S=>QS4.bind λy S=>k x y S):
  Vg Q3 X.A QcC (λv s₁=>Vg Q3 X.A QbC (λu s₂=>Vg Q3 X.A (m v u)
   (OkP X pc σ ρ H r) QOC s₂) QOC s₁) QOC s:=by
 calc ha.bind I nb hr (λx S1 v' s1 v H1 ae e1 L I1 rv rd B=>?_) λ_ _ z=>z;calc hb.bind I1 L e1 (λy S2 u' s2 u H2 ac e2 ab I2 ru aa st2=>?_) λ_ _ z=>z.pre B;subst e2;calc Vp (ho pc s2 σ H2 ac S2 env x y v u v' u' Qa0 I2 ab QB5 rv aa ru) (λw s3 z=>z.pre QaW) λ_ _ z=>z.elim
abbrev opB:Bo->Operator
 |.add=>.Add|.sub=>.Sub|.mul=>.Mult|.fdiv=>.FloorDiv|.mod=>.Mod|.pow=>.Pow|.shl=>.LShift|.shr=>.RShift|.band=>.BitAnd
def Ydw(L:Op2 X Q0d QEg)(B:DE X a fa)(hb:DE X b fb):DE X (.BinOp a QhG b pos) (λenv S=>Qp.bind λx S=>QS4.bind λy S=>Xl op x y S):=
 λpc s σ H ρ S env I nb=>wpAny_BinOp (two L B hb I nb rfl)
abbrev opC:Co->CmpOp
 |.eq=>.Eq|.ne=>.NotEq|.lt=>.Lt|.le=>.LtE|.gt=>.Gt|.ge=>.GtE|.isin=>.In|.notin=>.NotIn|.is=>.Is
def Ydx(ho:Op2 X QOT QMZ)(B:DE X a fa)(hb:DE X b fb)(hm:Vhq QnD b=yw):
  DE X QYG (λenv S=>Qp.bind λx S=>QS4.bind λy S=>Xw op x y S):=
 λpc s σ H ρ S env I L=>wpAny_Compare1 (two ho B hb I L rfl) hm
def Xdq(h:Xw op x y S≠.bad):∃r,Xa9 op x y S=yz r/\Xw op x y S=.ok QuB S:=by
 unfold Xw at h |-;cases e:Xa9 op x y S with
 |none=>rw[e]at h;cases h rfl|some r=>calc⟨r,rfl,rfl⟩
def Xcf(h:X4 S d=yz r):tst QME=.ok r S:=by simp![tst,h]
def X4q{op:CmpOp}{k:D->D->Sto->R D}(hk:∀x y S d S',k x y S=.ok d S'->∃r,d=.bl r)(ho:Op2 X (Vbr op) k)(ha:DE X a fa)(hb:DE X b fb)(hm:Vhq op b=yw):
  DT X (.Compare a [op] [b] pos) (λenv S=>tst QMB):=by
 intro pc s σ H ρ S env I nb;dsimp at nb |-;let aa:QMB≠.bad:=λz=>nb Q43;exact wpAny_isTrue_Compare1 (Vp (two ho ha hb I aa rfl) (λv s1 h1=>Vp h1 (λu s2 h2=>Vp h2 (λw s3 h3=>?_) λx s' z=>?_) λx s' z=>?_) λx s' z=>?_) hm
 ·let⟨d,S1,e,v1,H1,L,J,rv,rd,sr,st⟩:=h3;let B:∃r,d=.bl r:=by
   cases q:fa env S with
   |bad=>rw[q]at e;cases e|ex n S1=>rw[q]at e;cases e|ok x S1=>
    rw[q]at e;simp[Rk0]at e;cases q2:fb env S1 with
    |bad=>rw[q2]at e;cases e|ex n S1=>rw[q2]at e;cases e|ok y S2=>rw[q2]at e;exact hk x y S2 d _ e
  let⟨r,rfl⟩:=B;simp[RD]at rd;subst rd;cases rv;exact Vch ⟨S1,by rw[e];rfl,H1,L,J,sr,st⟩
 all_goals (let⟨n,S1,e,q⟩:=z;calc⟨n,S1,by rw[e];rfl,q⟩)
def X8m(L:Op2 X QOT QMZ)(B:DE X a fa)(hb:DE X b fb)(hm:Vhq QnD b=yw):
  DT X QYG (λenv S=>tst (Qp.bind λx S=>QS4.bind λy S=>Xw op x y S)):=X4q (λx y S d S' e=>by
 let⟨r,_,e2⟩:=Xdq (op:=op) (x:=x) (y:=y) (S:=S) QlG
 rw[e2]at e;cases e;calc⟨r,rfl⟩) L B hb hm
def X3f{rest:LX}(ha:DE X a fa)(hb:DE X QxG fb):DE X QNF
  (λenv S=>Qp.bind λx S=>match X4 S x with|some yx=>fb env S|some yw=>.ok x S|none=>.bad):=by
 intro pc s σ H ρ S env I nb;dsimp at nb |-;calc BoolOp_and QwD;rw[e1];cases t:X4 S1 x with
 |none=>rw[t]at B;cases B rfl|some r=>
  rw[t]at B;calc Xny I1 t rd rv λs2 J2=>?_;cases r with
  |true=>calc Vp Qu8 QbN λx s' z=>z.pre L|false=>calc .mk L J2 rv rd I1.sr
def X8n{rest:LX}(ha:DE X a fa)(hb:DE X Q8I fb):DE X QsF
  (λenv S=>Qp.bind λx S=>match X4 S x with|some yx=>.ok x S|some yw=>fb env S|none=>.bad):=by
 intro pc s σ H ρ S env I nb;dsimp at nb |-;calc BoolOp_or QwD;rw[e1];cases t:X4 S1 x with
 |none=>rw[t]at B;cases B rfl|some r=>
  rw[t]at B;calc Xny I1 t rd rv λs2 J2=>?_;cases r with
  |false=>calc Vp Qu8 QbN λx s' z=>z.pre L|true=>calc .mk L J2 rv rd I1.sr
def X3g(h:DE X a f):DE X (.BoolOp op [a] pos) f:=λpc s σ H ρ S env I B=>BoolOp_one QL3
def Ydy(ha:DT X a Qj6)(hv:DE X a fa):DE X QjM (λenv S=>Qp.bind λx S=>match X4 S x with|some r=>.ok QvQ S|none=>.bad):=by
 intro pc s σ H ρ S env I nb;dsimp at nb |-;calc UnaryOp_ (hv.bind I nb rfl QX4 λ_ _ z=>z);rw[e1];cases t:X4 S1 x with
 |none=>rw[t]at B;cases B rfl|some r=>calc not_of (Xny I1 t rd rv λs2 J2=>.mk (v:=.bl (!r)) L J2 rfl Q92 I1.sr)
def X8o(ha:DT X a Qj6):DT X QjM (λenv S=>tst (Qp.bind λx S=>match X4 S x with|some r=>.ok QvQ S|none=>.bad)):=by
 intro pc s σ H ρ S env I B;dsimp at B |-;cases q:fa env S with
 |bad=>rw[q]at B;cases B rfl|ex n S1=>exact isTrue_not Qw4|ok x S1=>
  rw[q]at B;simp[Rk0]at B |-;cases t:X4 S1 x with
  |none=>rw[t]at B;cases B rfl|some r=>calc isTrue_not (ha.ok I Q82 λs2 H2 L I2 st2=>⟨S1,rfl,H2,L,I2.inv,I2.sr,st2⟩)
def Ydz(hc:DT X c Q29)(ha:DE X a fa)(hb:DE X b fb):
  DE X QbP (λenv S=>QR4.bind λx S=>match X4 S x with|some yx=>fa env S|some yw=>fb env S|none=>.bad):=by
 intro pc s σ H ρ S env I B;dsimp at B |-;cases q:fc env S with
 |bad=>rw[q]at B;cases B rfl|ex n S1=>exact wpAny_IfExp Q0C|ok x S1=>
  rw[q]at B;simp[Rk0]at B |-;cases t:X4 S1 x with
  |none=>rw[t]at B;cases B rfl|some r=>
   rw[t]at B;calc wpAny_IfExp Q96;cases r with
   |true=>calc Vp QF7 QUL λx s' z=>z.pre st2|false=>calc Vp QE7 QUL λx s' z=>z.pre st2
theorem DW(X:Cx)(e:Expr)(f:En->Sto->R Bool):Prop:=
 ∀(B:Sem Vb) (pc:LA) (s:Vc) (σ:L2.St) (H:Hp) (ρ:LR) (S:Sto) (env:En),S0 X pc σ H s ρ S env->f env S≠.bad ->
  Vg Q3 X.A (isTrue e X.env B) Qr2 Qc4 s
def DW.dt(h:DW X e g):DT X e g:=h _
def X4r(B:DT X a g):DW X (.BoolOp .And [a] pos) g:=by
 intro wh pc s σ H ρ S env I L;calc isTrue_and QH7;cases c with
 |true=>calc isTrue_and_nil z|false=>calc z
def X8p(B:DT X a g):DW X (.BoolOp .Or [a] pos) g:=by
 intro wh pc s σ H ρ S env I L;calc isTrue_or QH7;cases c with
 |false=>calc isTrue_or_nil z|true=>calc z
def Xw2{rest:LX}(ha:DT X a Qj6)(hb:DW X QxG QgD):DW X QNF
  (λenv S=>tst (Qp.bind λx S=>match X4 S x with|some yx=>fb env S|some yw=>.ok x S|none=>.bad)):=by
 intro wh pc s σ H ρ S env I B;dsimp at B |-;cases q:fa env S with
 |bad=>rw[q]at B;cases B rfl|ex n S1=>exact isTrue_and Qw4|ok x S1=>
  rw[q]at B;simp[Rk0]at B |-;cases t:X4 S1 x with
  |none=>rw[t]at B;cases B rfl|some r=>
   rw[t]at B;calc isTrue_and QJD;cases r with
   |true=>calc Vp QvD QM0 λx s' z=>z.pre st2|false=>calc QAD
def X3h{rest:LX}(ha:DT X a Qj6)(hb:DW X Q8I QgD):DW X QsF
  (λenv S=>tst (Qp.bind λx S=>match X4 S x with|some yx=>.ok x S|some yw=>fb env S|none=>.bad)):=by
 intro wh pc s σ H ρ S env I B;dsimp at B |-;cases q:fa env S with
 |bad=>rw[q]at B;cases B rfl|ex n S1=>exact isTrue_or Qw4|ok x S1=>
  rw[q]at B;simp[Rk0]at B |-;cases t:X4 S1 x with
  |none=>rw[t]at B;cases B rfl|some r=>
   rw[t]at B;calc isTrue_or QJD;cases r with
   |false=>calc Vp QvD QM0 λx s' z=>z.pre st2|true=>calc QAD
universe e
universe Z
universe e
section
namespace Z
open PySem PySem.Spec PyProof.Rows L2 PySem.SeqAt
open AutoSeq1 (wpAny_loadPart')
def Yfy:fillsNumberSlot Qx3 "mul"=pure false:=
 PySem.fillsNumberSlot_seq (r:=yz (.builtin "tuple.__rmul__")) PySem.F.slot_tuple_mul.lookup Q8 QG5 Q8
def Yfz:seqRepeat? Qx3=pure (yz (.builtin "tuple.__mul__")):=by unfold seqRepeat?;rw[PySem.seqSlot_of (T:="tuple") (name:="__mul__") (id:="tuple.__mul__") PySem.F.slot_tuple_mul.lookup Q8,PySem.seqSlot_of (T:="tuple") (name:="__rmul__") (id:="tuple.__rmul__") QG5 Q8];rfl
private noncomputable abbrev Xus(items:AV)(n:Nat)(dd:Option Addr)(sl:Array OV):Obj:={cls:=.type "tuple",dict:=dd,data:=.seq items n,slots:=sl}
def Xw3(a:Int)(t:Tok)(l:Addr)(items:AV)(n:Nat)(dd:Option Addr)(sl:Array OV):
  Meets (Vbd.«int.__rmul__» ⟨[.int a t,.ref l],[]⟩) (λ_ R s=>s.heap.get? l=yz QM8/\R (.ok (.ret Value.notImplemented)) s):=
 .of_wp λprog w A R s QvF=>by let⟨B,g,d,tk,os⟩:=s;wp_walk;calc Qa6
section
variable(l:Addr)(items:AV)(n:Nat)(dd:Option Addr)(sl:Array OV)(k:Int)(u:Tok)
def Yd0:
  Meets (Vbd.«tuple.__mul__» ⟨[.ref l,.int 1 u],[]⟩) (λ_ R s=>s.heap.get? l=yz QM8/\R (.ok (.ret Q4C)) s):=
 .of_wp λprog w A R s QvF=>by let⟨L,g,d,tk,os⟩:=s;let f1:=AutoSeq1.idx_int;let B:=Vgo;wp_walk using Vc0 hl;calc Qa6
def Yd1(B:¬ (decide QwN||decide QoL)=yx)(h1:¬ QpL=yx)(h2:(decide QUh||items.isEmpty)=yx):
  Meets Qn8 (λ_ R s=>s.heap.get? l=yz QM8/\R QkT {s with heap:=s.heap.push {cls:=.type "tuple",data:=.seq #[]} }):=
 .of_wp λprog w A R s QvF=>by let⟨hp,g,d,tk,os⟩:=s;let f1:=AutoSeq1.idx_int;let L:=Vgo;wp_walk using Vc0 hl;calc wpAny_ite_false Q4O ?_;wp_walk using Vc0 hl;calc Qa6
def Yd2(B:¬ (decide QwN||decide QoL)=yx)(h1:¬ QpL=yx)(h2:¬ (decide QUh||items.isEmpty)=yx)(L:¬ (items.size:Int)*k>QcW/8)
  (h4:¬ Vje (items.size*k)=yx) (h5:QbE.size<=V8):
  Meets Qn8 (λ_ R s=>s.heap.get? l=yz QM8/\R QkT {s with heap:=s.heap.push {cls:=.type "tuple",data:=.seq QbE} }):=
 .of_wp λprog w A R s QvF=>by let⟨hp,g,d,tk,os⟩:=s;let f1:=AutoSeq1.idx_int;let f2:=Vgo;wp_walk using Vc0 hl;calc wpAny_ite_false Q4O ?_;wp_walk using Vc0 hl;calc wpAny_ite_false (decide_eq_false L) ?_;wp_walk using Vc0 hl;calc Qa6
universe e
section
variable{E:VP}{s:Vc}
def Xnb(its:LV):∀(m:Nat) (B:LV),Vgx Q95 B.toArray QBP=(B++(Vn m its).flatten).toArray
 |0=>λB=>by simp!|m+1=>λB=>by rw[Van,Vb0,List.append_toArray,Xnb its m];simp![Van]
def X4s(ht:Vd5 s.heap t vs.toArray)(hv:vs≠[])(hk:-QY8<k)(ae:k<1048576)(hz:Qc3*k.toNat<=1000000)
  (h1:k=1->Q QI5 s) (h2:k≠1->Q QC {s with heap:=s.heap.push {cls:=.type "tuple",data:=.seq (Vn k.toNat vs).flatten.toArray} }):
  Vg Q5 A QOI Q E s:=by
 let⟨⟨cls,dd,data,sl⟩,B,hc,n,hd⟩:=id ht;simp at hc hd;subst hc hd;let ez:(vs.toArray.isEmpty)=false:=by cases vs with|nil=>exact aB0 rfl hv|cons _ _=>rfl
 let h0:¬ (decide QwN||decide QoL)=true:=by simp!;lia
 let go:∀ {S:PySem.Spec},Meets (Vbd.«tuple.__mul__» ⟨[.ref t,.int k u],[]⟩) S->S A (wants Q E) s->Vg Q5 A QOI Q E s:=λg hS=>
  Vjo (T:="tuple") (U:="int") Q1 Q98 (λs'=>typeIs_int s' k u) Yfy PySem.F.fills_int_mul PySem.F.slot_int_rmul Yfz PySem.F.slot_int_index.lookup
   (Ve9 PySem.F.slot_int_rmul (typeIs_int s k u) PySem.F.entry_int_rmul (PySem.F.args_int_rmul_2 _ _) (Xw3 k u t vs.toArray n dd sl)
    ⟨B,rfl,Q98,Ve9 PySem.F.slot_tuple_mul Q98 PySem.F.entry_tuple_mul (PySem.F.args_tuple_mul_2 _ _) g hS⟩)
 by_cases e1:k=1;·subst e1;exact go (Yd0 t vs.toArray n dd sl u) ⟨B,h1 rfl⟩
 ·let L:¬ (vs.toArray.isEmpty||k==1)=true:=by rw[ez];simpa using e1
  by_cases e0:k<=0
  ·calc go (Yd1 t vs.toArray n dd sl k u h0 L (by simp![e0])) Q3S;let:=h2 e1;let e2:k.toNat=0:=by lia
   rw[e2]at this;exact this
  let ef:=Xnb vs k.toNat [];rw[List.nil_append]at ef;let hl:(Vn k.toNat vs).flatten.length=k.toNat*lg vs:=Xld vs k.toNat;let aa:Qc3*k.toNat<=V8:=V5 hz Q1;let ac:(lg vs:Int)*k<=1000000:=by
   let ab:(k.toNat:Int)=k:=by lia
   rw[<-ab,<-Int.natCast_mul];exact Int.ofNat_le.mpr hz
  calc go (Yd2 t vs.toArray n dd sl k u h0 L (by rw[ez];simpa using e0) ?_ ?_ ?_) Q3S;·rw[Vq];lia
  ·rw[Vq];unfold Vje;let:(1000000:Int)<=(V8:Int):=by decide
   intro hh;let hh:=oD0 hh;lia
  ·rw[show QaI=([]:LV).toArray from rfl,ef,Vq,hl,Nat.mul_comm];exact aa
  rw[show QaI=([]:LV).toArray from rfl,ef];calc h2 e1
universe e
universe Z
universe e
section
namespace Z
open PySem PySem.Spec PyProof.Rows L2
def Xaq:∀ {ns:LI} {us:LV},Vals QV2 us->Vby us ns
 |[],_,.nil=>.nil|n::ns,_,.cons r t=>by let⟨k,rfl⟩:=r;calc .cons n k (Xaq t)
section
variable{prog:V3}{w:Ua}{A:Uz}{E:VP}{s:Vc}{x y:Addr}{us vs:LV}{xs ys:LI}
def X4t:∀(xs ys:LI),xs=[]\/ys=[]->ltL xs ys=decide (lg xs<lg ys)
 |[],[]=>λ_=>rfl|[],_::_=>λ_=>rfl|_::_,[]=>λ_=>rfl|_::_,_::_=>λh=>by rcases h with h|h<;>cases h
def Xsi{P:PySem.Fin->Vc->Prop}(hx:Vd5 s.heap x us.toArray)(hy:Vd5 s.heap y vs.toArray)(ix:Vby us xs)(iy:Vby vs ys)(h:P (.done (.ret QEa)) s):
  Vg Q5 A (Vbd.«tuple.__lt__» ⟨[.ref x,.ref y],[]⟩) P E s:=by
 let⟨o1,a1,c1,n1,d1⟩:=hx;let⟨o2,a2,c2,n2,d2⟩:=hy;show Vg _ _ (isInstance Q37 Qx3 >>= _) _ _ s;calc Va (Vfw (T:="tuple") ⟨o2,a2,c2⟩ isSubtype_tuple_tuple ?_);simp[Vc7,Vs,if_false];calc Va (wpAny_tupleItemsOf a1 d1 (Va (wpAny_tupleItemsOf a2 d2 QoZ)));exact Vh1 _ (λl r s'=>r.1=yy/\s'=s/\∃ps qs L B,l=L.zip B/\Vby L ps/\Vby B qs/\ltL ps qs=ltL xs ys/\decide (lg L<lg B)=decide QDK) _ ?_ ?_ _ _ ⟨rfl,rfl,xs,ys,us,vs,rfl,ix,iy,rfl,rfl⟩
 ·rintro ⟨p,q⟩ l r s' ⟨hr,rfl,ps,qs,L,B,hz,i1,i2,e1,e2⟩;cases i1 with
  |nil=>simp! at hz|cons a t aa=>
   cases i2 with
   |nil=>simp! at hz|cons b u ab=>
    simp[Vgm,List.cons.injEq,Ve6]at hz;let⟨⟨rfl,rfl⟩,rfl⟩:=hz;calc Va (wpAny_eqBool_int ?_);by_cases c:a=b
    ·subst c;simp[beq_self_eq_true,Vc7,Vs,if_false];calc Vd ⟨rfl,rfl,_,_,_,_,rfl,aa,ab,?_,?_⟩;·rw[<-e1];simp![ltL]
     ·rw[<-e2];simp!
    let:QXh=false:=by simpa using c
    rw[this];simp[Viv,if_true];let e3:ltL xs ys=decide Q4g:=by rw[<-e1];simp![ltL,c]
    rw[e3]at h;exact Va (Vb3 (Va (lt_int (Va (Vd QjZ)))))
 ·rintro ⟨r1,r2⟩ s' ⟨hr,rfl,ps,qs,L,B,hz,i1,i2,e1,e2⟩;simp at hr;subst hr;calc Vd ?_;show P (.done (.ret (.bool (decide (us.toArray.size<vs.toArray.size))))) s';let e3:ps=[]\/qs=[]:=by
   cases i1 with
   |nil=>exact .inl rfl|cons a t aa=>
    cases i2 with
    |nil=>exact .inr rfl|cons b u ab=>simp! at hz
  rw[Vq,Vq,<-e2,i1.length,i2.length,<-X4t ps qs e3,e1];calc h
def Xsj{Q:VP}(hu:A.units<Vbw)(B:Vd5 s.heap x us.toArray)(L:Vd5 s.heap y vs.toArray)(ix:Vby us xs)(iy:Vby vs ys)(h:Q QEa s):
  Vg Q5 A (richCompare .Lt Q47 Q37) Q E s:=by
 let t1:s.TypeIs Q47 "tuple":=let ⟨o,a,c,_⟩:=B;QgP
 let t2:s.TypeIs Q37 "tuple":=let ⟨o,a,c,_⟩:=L;QgP
 calc wpAny_richCompare_same_room (op:=.Lt) t1 t2 Vid (Uv Vid t1 F.entry_tuple_lt (Xsi B L ix iy ⟨_,rfl,(λe=>nomatch e),h⟩) QcK) hu
def Xoz{b:Bool}{Q:Bool->Vc->Prop}(hu:A.units<Vbw)(B:Vd5 s.heap x us.toArray)(L:Vd5 s.heap y vs.toArray)(ix:Vby us xs)(iy:Vby vs ys)(h:Q QHH s):
  Vg Q5 A (oneLt' b Q47 Q37) Q E s:=by
 let t1:s.TypeIs Q47 "tuple":=let ⟨o,a,c,_⟩:=B;QgP
 rw[oneLt'_eq];cases b with
 |false=>simp[Vs,if_false];calc Va (Xsj hu B L ix iy (Vch h))|true=>simp[if_true];calc Va (wpAny_cRoomFor hu (Va (wpAny_callSpecialIfBound?_slot t1 Vid (Uv Vid t1 F.entry_tuple_lt (Xsi B L ix iy Ql5) QcK))));calc Vch h
universe e
section
variable{X:Cx}{pc:LA}{σ:L2.St}{H:Hp}{s:Vc}{ρ:LR}{S:Sto}{env:En}{Q:VP}{E:VP}
theorem Off(K:Vh)(H:Hp)(b:Addr):Prop:=(∃w,H b=yz w)\/∃o,K.lookup b=yz o/\o.cls=.type "list"
def Xj7{a:Addr}(hv:ObjOk P w H s.heap a Q57):∃as,Reads s.heap Qt QoQ as/\∀b∈as,b=a:=by
 let⟨_,_,vs,r,ob,es,ep,ho,L,hd,hh⟩:=hv;cases r;let B:es.toList=[]:=by
  let z:=hh.2.1;cases q:es.toList with
  |nil=>rfl|cons x r=>rw[q]at z;cases z
 calc⟨_,.dict (kvs:=[]) (as:=[]) (bs:=[]) ho L.1 hd ?_ ?_,λb hb=>Qza.elim id QY3⟩;·rw[B];exact .nil
 ·rw[B];calc .nil
mutual
def Xsk(I:S0 X pc σ H s ρ S env)(hl:∀n p a,look n=yz p->ρ[n]?=yz a->∃as,Reads s.heap Qt p as/\∀b∈as,Off X.K H b):
  ∀(d:D) (v:V) (u:Vb) (p:Vcn),Yi look d=yz p->RD X.K ρ H d v->RelV v u->∃as,Reads s.heap u p as/\∀b∈as,Off X.K H b
 |.non=>λv u p h B L=>by simp[Yi,Vx]at h;simp[RD]at B;subst h B;cases L;exact⟨_,.none,λ_ z=>nomatch z⟩|.bl b=>λv u p h B L=>by simp[Yi,Vx]at h;simp[RD]at B;subst h B;cases L;exact⟨_,.bool b,λ_ z=>nomatch z⟩|.int i=>λv u p h B L=>by simp[Yi,Vx]at h;simp[RD]at B;subst h B;let⟨t,rfl⟩:=L;exact⟨_,.int i t,λ_ z=>nomatch z⟩|.str i=>λv u p h B L=>by simp[Yi,Vx]at h;simp[RD]at B;subst h B;let⟨t,rfl⟩:=L;exact⟨_,.str i t,λ_ z=>nomatch z⟩|.fro xs=>λv u p h B L=>by
  simp[Yi]at h;cases e:datFs look xs with
  |none=>rw[e]at h;cases h|some ps=>
   rw[e]at h;cases h;simp[RD]at B;let⟨a,vs,rfl,hf,hs⟩:=B;cases L;let⟨its,r,⟨o,n,ho,hc,_,hd⟩,hz⟩:=I.inv.list hf.sq;let⟨as,q,qm⟩:=reads_Fs I hl xs vs its ps e hs r;calc⟨_,.list ho hc hd QM,λb hb=>Qza.elim (λz=>z▸?_) QLh⟩;rcases hf with⟨_,hf⟩|⟨o',_,_,k1,k2,_⟩;·exact .inl Q1S
   ·calc .inr ⟨o',k1,k2⟩
 |.edc=>λv u p h B L=>by cases h;simp[RD]at B;let⟨a,o,rfl,hf⟩:=B;cases L;let⟨as,q,qm⟩:=Xj7 (show ObjOk X.prog X.w H s.heap a QHY from I.inv.hok a _ hf).2;exact⟨as,q,λb hb=>.inl (qm b hb▸Q1S)⟩|.fn _ _=>λv u p h B L=>by cases h|.tup xs=>λv u p h B L=>by
  simp[Yi]at h;cases e:datFs look xs with
  |none=>rw[e]at h;cases h|some ps=>rw[e]at h;cases h;simp[RD]at B;let⟨a,vs,rfl,ht,hs⟩:=B;cases L;let⟨its,r,⟨o,ho,hc,n,hd⟩,hz⟩:=I.inv.tuple ht;let⟨as,q,qm⟩:=reads_Fs I hl xs vs its ps e hs r;calc⟨_,.tuple ho hc hd QM,qm⟩
 |.ref n=>λv u p h B L=>by simp[Yi]at h;simp[RD]at B;let⟨a,rfl,ha⟩:=B;cases L;exact hl n p a h ha
def reads_Fs(I:S0 X pc σ H s ρ S env)(hl:∀n p a,look n=yz p->ρ[n]?=yz a->∃as,Reads s.heap Qt p as/\∀b∈as,Off X.K H b):
  ∀(ds:LD) (vs:LW) (us:LV) (ps:List Vcn),datFs look ds=yz ps->RDs X.K ρ H ds vs->Vals vs us->∃as,ReadsAll s.heap us ps as/\∀b∈as,Off X.K H b
 |[]=>λvs us ps h B rv=>by simp[datFs,Vx]at h;simp[RDs]at B;subst h B;cases rv;exact⟨_,.nil,λ_ z=>nomatch z⟩|d::ds=>λvs us ps h B rv=>by
  simp[datFs]at h;simp[RDs]at B;let⟨v,r,rfl,h1,h2⟩:=B;cases e1:Yi look d with
  |none=>rw[e1]at h;cases h|some p=>
   cases e2:datFs look ds with
   |none=>rw[e1,e2]at h;cases h|some L=>
    rw[e1,e2]at h;cases h;cases rv with
    |cons ru ab=>let⟨as,q,qm⟩:=Xsk I hl d v _ p e1 h1 ru;let⟨bs,q2,aa⟩:=reads_Fs I hl ds r _ L e2 h2 ab;exact⟨_,.cons q q2,λb hb=>(Um.mp hb).elim QLh QYc⟩
end
def Xsl(I:S0 X pc σ H s ρ S env):∀(k n:Nat) (p:Vcn) (a:Addr),Xdj S k n=yz p->ρ[n]?=yz a->∃as,Reads s.heap Qt p as/\∀b∈as,Off X.K H b
 |0=>λn p a h ha=>by simp[Xdj]at h;cases h|k+1=>λn p a h ha=>by
  simp[Xdj]at h;cases e:S[n]? with
  |none=>rw[e]at h;cases h|some o=>
   rw[e]at h;let q:=I.sr.ob n a o ha e;cases o with
   |lst xs=>
    dsimp at h;cases e2:datFs Qpc xs with
    |none=>rw[e2]at h;cases h|some ps=>rw[e2]at h;cases h;let⟨vs,B,hr⟩:=q;let⟨_,its,n',r,ho⟩:=I.inv.hok a _ B;let⟨as,z,zm⟩:=reads_Fs I (Xsl I k) xs vs its ps e2 hr r;calc⟨_,.list ho rfl rfl QVR,λb L=>(Vr.mp L).elim (λq=>.inl (q▸Q4V)) (zm b)⟩
   |dct kvs=>
    rcases q with⟨rfl,B⟩|⟨h0,_⟩
    case inr=>
     cases kvs with
     |nil=>cases h0 rfl|cons _ _=>cases h
    cases h;let⟨as,q,qm⟩:=Xj7 (I.inv.hok a _ B);calc⟨as,q,λb L=>.inl (qm b L▸Q4V)⟩|_=>cases h
def X0k(I:S0 X pc σ H s ρ S env)(h:Xaf S d=yz p)(B:RD X.K ρ H d v)(L:RelV v u):∃as,Reads s.heap u p as/\∀b∈as,Off X.K H b:=
 Xsk I (Xsl I 4) d v u p h B L
def Xa5(I:S0 X pc σ H s ρ S env)(h:Xaf S d=yz p)(B:RD X.K ρ H d v)(L:RelV v u):∃as,Reads s.heap u p as:=
 let ⟨as,r,_⟩:=X0k I h B L
 ⟨as,r⟩
def Xq(sr:SR X.K QY1 ρ S H)(J:Inv X pc σ H s'):OkP X pc σ ρ H (.ok QuB S) Qfd s':=.mk (v:=.bl r) .refl J rfl Q92 sr
def Ym(sr:SR X.K QY1 ρ S H)(J:Inv X pc σ H s'):OkP X pc σ ρ H (.ok Q61 S) QjQ s':=.mk (v:=.int i) .refl J QU Q92 sr
def X0l(h:(a&&b&&c)=yx):a=yx/\b=yx/\c=true:=by rw[bA0,bA0]at h;calc QQN
def Xnc(h:Xgq x y=yz r):∃a b,x=.str a/\y=.str b/\r=QmG:=by
 cases x with
 |str a=>cases y with
  |str b=>calc⟨a,b,rfl,rfl,QFM.symm⟩|_=>cases h
 |_=>cases h
def Xw4(h:Xja S x y=yz r):∃xs ys,lsD S x=yz xs/\lsD S y=yz ys/\QL≠lg ys/\r=false:=by
 unfold Xja at h;cases e1:lsD S x with
 |none=>rw[e1]at h;cases h|some xs=>
  cases e2:lsD S y with
  |none=>rw[e1,e2]at h;cases h|some ys=>
   rw[e1,e2]at h;dsimp at h;split at h;·cases h
   ·cases h;calc⟨xs,ys,rfl,rfl,by assumption,rfl⟩
def Xo0(h0:eqD S x y=yz r)(hn:Xgq x y=yy):(∃p q,Xaf S x=yz p/\Xaf S y=yz q/\p.canLay0=yx/\q.canLay0=yx/\p.depth<=60/\r=Vdk p q)\/Xja S x y=yz r:=by
 let h:=h0;unfold eqD at h;rw[hn]at h;dsimp at h;cases e1:Xaf S x with
 |none=>rw[e1]at h;exact .inr h|some p=>
  cases e2:Xaf S y with
  |none=>rw[e1,e2]at h;exact .inr h|some q=>
   rw[e1,e2]at h;dsimp at h;split at h;·rename_i B;let⟨h1,h2,L⟩:=X0l B;exact .inl ⟨p,q,rfl,rfl,h1,h2,oD0 L,QFM.symm⟩
   ·calc .inr h
def S0.lstM(I:S0 X pc σ H s ρ S env)(h:lstM S n=yz xs):∃a vs,ρ[n]?=yz a/\H a=yz Q93/\RDs X.K ρ H xs vs:=I.list h
def S0.lstR(I:S0 X pc σ H s ρ S env)(h:Z.lstM S n=yz xs)(r:RD X.K ρ H QM1 v):∃a vs,v=.ref a/\ρ[n]?=yz a/\H a=yz Q93/\RDs X.K ρ H xs vs:=by simp[RD]at r;let⟨a,e,h1⟩:=r;let⟨a',vs,h2,B,L⟩:=I.lstM h;rw[h1]at h2;cases h2;calc⟨a,vs,e,h1,B,L⟩
def Xo1(I:S0 X pc σ H s ρ S env)(h:Xja S x y=yz r)(rx:RD X.K ρ H x v)(rv:RelV v u)(ry:RD X.K ρ H y v')(ru:RelV v' u'):
  r=yw/\∃a b its its',u=.ref a/\u'=.ref b/\s.heap.IsList a its/\s.heap.IsList b its'/\(its.size != its'.size)=true:=by
 let⟨xs,ys,h1,h2,aa,rfl⟩:=Xw4 h;let⟨a,vs,rfl,B,ra⟩:=I.lsR h1 rx;let⟨b,us,rfl,L,rb⟩:=I.lsR h2 ry;cases rv;cases ru;let⟨i1,q1,p1,_⟩:=I.inv.list B;let⟨i2,q2,p2,_⟩:=I.inv.list L;calc⟨rfl,a,b,i1.toArray,i2.toArray,rfl,rfl,p1.isList,p2.isList,?_⟩;let e1:(lg i1)=lg xs:=by rw[ra.length];exact q1.length.symm
 let e2:(lg i2)=lg ys:=by rw[rb.length];exact q2.length.symm
 simp[Vq,bne_iff_ne,ne_eq];omega
def Yf0(hu:X.A.units+200<Vbw):Op2 X (Vbr .Eq) (Xw .eq):=by
 intro pc s σ H ρ S env x y v u v' u' E I nb B rv L ru;let⟨r,e,e2⟩:=Xdq nb;rw[e2];cases hn:Xgq x y with
 |some r'=>
  let⟨a,b,rfl,rfl,hr⟩:=Xnc hn;let er:r=r':=by let e':eqD S Q2f Q1f=yz r:=e;unfold eqD at e';rw[hn]at e';exact Qrg.symm
  subst er hr;simp[RD]at B L;subst B L;let⟨t,rfl⟩:=rv;let⟨t',rfl⟩:=ru;exact PySem.P.eq_str Qo|none=>
 rcases Xo0 e hn with⟨p,q,h1,h2,h3,h4,h5,rfl⟩|hl
 rotate_left
 ·let⟨rfl,a,b,i1,i2,rfl,rfl,l1,l2,l3⟩:=Xo1 I hl B rv L ru;exact SeqAt.RcAt.lists_lengths l1 l2 l3 Q0 X.prog X.w E _ Qo
 let⟨as,ra⟩:=Xa5 I h1 B rv;let⟨bs,rb⟩:=Xa5 I h2 L ru;calc SeqAt.rcAt_reads ra rb h3 h4 Q0 X.prog X.w E _ Qo
def Yf1(hu:X.A.units+200<Vbw):Op2 X (Vbr .NotEq) (Xw .ne):=by
 intro pc s σ H ρ S env x y v u v' u' E I nb L rv B ru;let⟨r,e,e2⟩:=Xdq nb;rw[e2];simp[Xa9,Ug]at e;let⟨r',e,rfl⟩:=e;cases hn:Xgq x y with
 |some r2=>
  let⟨a,b,rfl,rfl,hr⟩:=Xnc hn;let er:r'=r2:=by let e':eqD S Q2f Q1f=yz r':=e;unfold eqD at e';rw[hn]at e';exact Qrg.symm
  subst er hr;simp[RD]at L B;subst L B;let⟨t,rfl⟩:=rv;let⟨t',rfl⟩:=ru;exact PySem.P.ne_str Qo|none=>
 rcases Xo0 e hn with⟨p,q,h1,h2,h3,h4,h5,rfl⟩|hl
 rotate_left
 ·let⟨rfl,a,b,i1,i2,rfl,rfl,l1,l2,l3⟩:=Xo1 I hl L rv B ru;exact SeqAt.RcNeAt.lists_lengths l1 l2 l3 Q0 X.prog X.w E _ Qo
 let⟨as,ra⟩:=Xa5 I h1 L rv;let⟨bs,rb⟩:=Xa5 I h2 B ru;calc SeqAt.rcNeAt_reads ra rb h3 h4 Q0 X.prog X.w E _ Qo
def Xo2(h:inD S x y=yz r):∃p qs,Xaf S x=yz p/\(Xaf S y=yz QOb\/Xaf S y=yz Q8a)/\p.canLay0=yx/\Vfi qs=yx/\p.depth<=60/\r=qs.any λq=>Vdk q p:=by
 unfold inD at h;cases e1:Xaf S x with
 |none=>rw[e1]at h;cases h|some p=>
  cases e2:Xaf S y with
  |none=>rw[e1,e2]at h;cases h|some q=>
   rw[e1,e2]at h;cases q with
   |list qs=>
    dsimp at h;split at h;·rename_i L;let⟨h1,h2,B⟩:=X0l L;exact⟨p,qs,rfl,.inl rfl,h1,h2,oD0 B,QFM.symm⟩
    ·cases h|tuple qs=>
    dsimp at h;split at h;·rename_i L;let⟨h1,h2,B⟩:=X0l L;exact⟨p,qs,rfl,.inr rfl,h1,h2,oD0 B,QFM.symm⟩
    ·cases h|none=>cases h|bool _=>cases h|int _=>cases h|str _=>cases h|dict _=>cases h
def Yf2(hu:X.A.units+200<Vbw):Op2 X (Vbr .In) (Xw .isin):=by
 intro pc s σ H ρ S env x y v u v' u' E I nb rx rv L ru;let⟨r,e,e2⟩:=Xdq nb;rw[e2];let⟨p,qs,h1,h2,h3,h4,h5,rfl⟩:=Xo2 e;let⟨as,ra⟩:=Xa5 I h1 rx rv;rcases h2 with h2|h2;·let⟨bs,B⟩:=Xa5 I h2 L ru;exact SeqAt.in_list_reads B ra h4 h3 Q0 Qo
 ·let⟨bs,B⟩:=Xa5 I h2 L ru;calc SeqAt.in_tuple_reads B ra h4 h3 Q0 Qo
def X4u(hu:X.A.units+200<Vbw):Op2 X (Vbr .NotIn) (Xw .notin):=by
 intro pc s σ H ρ S env x y v u v' u' E I nb rx rv L ru;let⟨r,e,e2⟩:=Xdq nb;rw[e2];simp[Xa9,Ug]at e;let⟨r',e,rfl⟩:=e;let⟨p,qs,h1,h2,h3,h4,h5,rfl⟩:=Xo2 e;let⟨as,ra⟩:=Xa5 I h1 rx rv;rcases h2 with h2|h2;·let⟨bs,B⟩:=Xa5 I h2 L ru;exact SeqAt.notIn_list_reads B ra h4 h3 Q0 Qo
 ·let⟨bs,B⟩:=Xa5 I h2 L ru;calc SeqAt.notIn_tuple_reads B ra h4 h3 Q0 Qo
def Xau{f:D->D->Sto->R D}{q:Vb->Vb->Sem Vb}(hf:∀x y S,f x y S≠.bad->∃i j,x=.int i/\y=.int j)
  (hi:∀ {pc s σ H ρ S env i j t t' E},S0 X pc σ H s ρ S env->f Q61 QF2 S≠.bad->Vg Q3 X.A (q QjQ (.int j t')) (OkP X pc σ ρ H (f Q61 QF2 S)) E s):Op2 X q f:=by
 intro pc s σ H ρ S env x y v u v' u' E I B rx rv L ru;let⟨i,j,rfl,rfl⟩:=hf x y S B;simp[RD]at rx L;subst rx L;let⟨t,rfl⟩:=rv;let⟨t',rfl⟩:=ru;calc hi I B
def Yf3:Op2 X (Vbr .LtE) (Xw .le):=Xau QF λI B=>le_int Qo
def Yf4:Op2 X (Vbr .GtE) (Xw .ge):=Xau QF λI B=>ge_int Qo
def Yh:∀ {xs:LD} {ns:LI},Xf xs=yz ns->xs=ns.map D.int
 |[],ns,h=>by simp[Xf,Vx]at h;subst h;rfl|.int i::r,ns,h=>by simp[Xf,Ug]at h;let⟨ms,h1,rfl⟩:=h;rw[Yh h1];rfl|.non::_,_,h=>by simp![Xf]at h|.bl _::_,_,h=>by simp![Xf]at h|.str _::_,_,h=>by simp![Xf]at h|.tup _::_,_,h=>by simp![Xf]at h|.ref _::_,_,h=>by simp![Xf]at h|.fro _::_,_,h=>by simp![Xf]at h
def Yf5(hu:X.A.units+200<Vbw):Op2 X (Vbr .Lt) (Xw .lt):=by
 intro pc s σ H ρ S env x y v u v' u' E I B rx rv L ru;cases x with
 |int i=>cases y with
  |int j=>simp[RD]at rx L;subst rx L;let⟨t,rfl⟩:=rv;let⟨t',rfl⟩:=ru;calc lt_int Qo|_=>cases B rfl
 |tup xs=>cases y with
  |tup ys=>
   simp[Xw,Xa9,ltD]at B |-;cases e1:Xf xs with
   |none=>rw[e1]at B;cases B rfl|some a=>
    cases e2:Xf ys with
    |none=>rw[e1,e2]at B;cases B rfl|some b=>let q1:=Yh e1;let q2:=Yh e2;subst q1;subst q2;simp[RD]at rx L;let⟨b1,ak,rfl,ag,aa⟩:=rx;let⟨b2,aj,rfl,ac,af⟩:=L;let ae:=aa.ints_of;let ab:=af.ints_of;subst ae;subst ab;cases rv;cases ru;let⟨ai,u1,u2,_⟩:=I.inv.tuple ag;let⟨ah,u3,u4,_⟩:=I.inv.tuple ac;calc Xsj Q0 u2 u4 (Xaq u1) (Xaq u3) Qo
  |_=>cases B rfl
 |_=>cases B rfl
def Yf6(hu:X.A.units+200<Vbw):Op2 X (Vbr .Gt) (Xw .gt):=by
 intro pc s σ H ρ S env x y v u v' u' E I B rx rv L ru;cases x with
 |int i=>cases y with
  |int j=>simp[RD]at rx L;subst rx L;let⟨t,rfl⟩:=rv;let⟨t',rfl⟩:=ru;calc gt_int Qo|_=>cases B rfl
 |_=>cases B rfl
def Yf7:Op2 X (Vbr .Is) (Xw .is):=by
 intro pc s σ H ρ S env x y v u v' u' E I nb B L ry ru;cases y with
 |non=>
  simp[RD]at ry;subst ry;cases ru;cases x with
  |non=>simp[RD]at B;subst B;cases L;calc Vdc rfl Qo|bl b=>simp[RD]at B;subst B;cases L;calc Vdc rfl Qo|int b=>simp[RD]at B;subst B;let⟨t,rfl⟩:=L;calc Vdc rfl Qo|str b=>simp[RD]at B;subst B;let⟨t,rfl⟩:=L;calc Vdc rfl Qo|tup b=>simp[RD]at B;let⟨a,_,rfl,_⟩:=B;cases L;calc Vdc rfl Qo|fro b=>simp[RD]at B;let⟨a,_,rfl,_⟩:=B;cases L;calc Vdc rfl Qo|ref b=>simp[RD]at B;let⟨a,rfl,_⟩:=B;cases L;calc Vdc rfl Qo|fn _ _=>simp[RD]at B;let⟨a,rfl,_⟩:=B;cases L;calc Vdc rfl Qo|edc=>simp[RD]at B;let⟨a,_,rfl,_⟩:=B;cases L;calc Vdc rfl Qo
 |_=>cases nb rfl
def Xhw(B:X.A.units+200<Vbw):∀op:Co,Op2 X QOT QMZ
 |.eq=>Yf0 B|.ne=>Yf1 B|.lt=>Yf5 B|.le=>Yf3|.gt=>Yf6 B|.ge=>Yf4|.isin=>Yf2 B|.notin=>X4u B|.is=>Yf7
def X0m{ws:LV}(ht:Vd5 s.heap t #[])(hb:Vd5 s.heap b ws.toArray)(h:Q Q4f s):Vg Q5 A QUK Q E s:=by
 let⟨⟨cls,dd,ae,sl⟩,ho,hc,n,hd⟩:=id ht;let⟨⟨af,ab,data2,ac⟩,L,B,n2,aa⟩:=id hb;simp at hc hd B aa;subst hc hd B aa;exact concat_meets QyJ QjE noFill_tuple_add seq_tuple_add Vhi Vg6 QHT
   (tuple_addW0 t b #[] ws.toArray n n2 dd ab sl ac rfl) ⟨ho,L,h⟩
def Xw5{x y:D}(hx:Xl .add x y S=match lsD S x,lsD S y with
   |some x,yz y=>if QuO+lg y<=big then .ok Q7 QHP else .bad
   |_,_=>.bad) (I:S0 X pc σ H s ρ S env) (B:Xl .add x y S≠.bad) (rx:RD X.K ρ H x v) (rv:RelV v v') (ry:RD X.K ρ H y u) (ru:RelV u u'):
  Vg Q3 X.A (Vcw .Add v' u') (OkP X pc σ ρ H (Xl .add x y S)) E s:=by
 rw[hx]at B |-;cases h1:lsD S x with
 |none=>rw[h1]at B;cases B rfl|some xs=>
  cases h2:lsD S y with
  |none=>rw[h1,h2]at B;cases B rfl|some ys=>
   rw[h1,h2]at B;dsimp at B |-;split at B
   ·rename_i hz;rw[iP0 hz];let⟨a,vs,rfl,ha,ra⟩:=I.lsR h1 rx;let⟨b,us,rfl,hb,rb⟩:=I.lsR h2 ry;cases rv;cases ru;let⟨i1,q1,p1,z1⟩:=I.inv.list ha;let⟨i2,q2,p2,z2⟩:=I.inv.list hb;let⟨⟨c1,d1,t1,l1⟩,o1,e1,n1,f1⟩:=p1.isList;let⟨⟨c2,d2,t2,l2⟩,o2,e2,n2,L⟩:=p2.isList;simp at e1 f1 e2 L;subst e1 f1 e2 L;let hl:Qc3+lg us<=V8:=by rw[<-ra.length,<-rb.length];exact Xb9 hz
    let e:i1.toArray++i2.toArray=(i1++i2).toArray:=by simp!
    calc concat_meets ⟨_,o1,rfl⟩ ⟨_,o2,rfl⟩ noFill_list_add seq_list_add PySem.F.slot_list_add PySem.F.entry_list_add (PySem.F.args_list_add_2 _ _) (list_addW a b i1.toArray i2.toArray n1 n2 d1 d2 l1 l2 (by rw[Vq,Vq,<-q1.length,<-q2.length];calc hl)) ⟨o1,o2,?_⟩;rw[e];exact Xa4 (I.inv.laid (t':=s.toks) Qo9 Qd ⟨by rw[Ub];calc hl,_,0,q1.append q2,Vo _ rfl⟩) QNC I.sr (ra.append rb)
   cases B rfl
def Yd3:Op2 X (Vcw .Add) (Xl .add):=by
 intro pc s σ H ρ S env x y v u v' u' E I nb rx rv ry ru;cases x with
 |int i=>cases y with
  |int j=>simp[RD]at rx ry;subst rx ry;let⟨t,rfl⟩:=rv;let⟨t',rfl⟩:=ru;calc add_int QY0|_=>cases nb rfl
 |tup xs=>cases y with
  |tup ys=>
   simp[Xl]at nb |-;split at nb
   ·rename_i hz;rw[iP0 hz];let ae:=rx;let ac:=ry;simp[RD]at rx ry;let⟨a,vs,rfl,s1,r1⟩:=rx;let⟨b,us,rfl,s2,r2⟩:=ry;cases rv;cases ru;let⟨i1,q1,p1,z1⟩:=I.inv.tuple s1;let⟨i2,q2,p2,z2⟩:=I.inv.tuple s2;let B:=r1.length;let L:=r2.length;let ab:=q1.length;let aa:=q2.length;by_cases hx:xs=[]
    ·subst hx;let:vs=[]:=by simpa [RDs] using r1
     subst this;cases q1;calc X0m p1 p2 ?_;exact .mk (v:=.ref b) .refl I.inv rfl ac I.sr
    calc HT.cat_tup p1 p2 (λz=>hx ?_) QAS QAS ?_;·subst z;simp! at ab;rw[ab]at B;simpa using B
    ·let:ys=[]:=by subst z;simp! at aa;rw[aa]at L;simpa using L
     subst this;rw[Va4];exact .mk (v:=.ref a) .refl I.inv rfl ae I.sr
    ·calc Xcm (I.inv.laid (t':=s.toks) (o:=.tup Qwd) Q49 Qd ?_) QNC I.sr (r1.append r2);exact⟨by rw[Ub,<-B,<-L];calc Xb9 hz,_,q1.append q2,IsTup.new _ _⟩
    rw[<-ab,<-aa,<-B,<-L];exact Xb9 hz
   cases nb rfl|_=>cases nb rfl
 |ref n=>calc Xw5 rfl I nb rx rv ry ru|fro xs=>calc Xw5 rfl I nb rx rv ry ru|_=>cases nb rfl
def Yd4:Op2 X (Vcw .Sub) (Xl .sub):=Xau QF λI B=>sub_int QY0
def Xsm(h:i.natAbs.log2<100000):Vf9 i<=2^20:=by
 unfold Vf9;split;·exact Vaq _
 ·omega
def Xo3(h:Xaj i j=yx):IntMulOk i j:=by
 simp[Xaj,Vbc,bA0,decide_eq_true_eq]at h;rcases h with h|h;·let:CMul i j:=h;exact this.ok
 ·calc IntMulOk.of_bits (Xsm h.1) (Xsm h.2)
def Yd5:Op2 X QkZ (Xl .mul):=by
 intro pc s σ H ρ S env x y v u v' u' E I B rx rv ry ru;cases x with
 |int i=>cases y with
  |int j=>
   simp[RD]at rx ry;subst rx ry;let⟨t,rfl⟩:=rv;let⟨t',rfl⟩:=ru;simp[Xl]at B |-;split at B;·rename_i hz;rw[iP0 hz];exact mul_int QY0 (Xo3 hz)
   ·cases B rfl|_=>cases B rfl
 |tup xs=>cases y with
  |int k=>
   simp[Xl]at B |-;split at B
   ·rename_i hz;rw[iP0 hz];let ae:=rx;simp[RD]at rx ry;subst ry;let⟨a,vs,rfl,s1,r1⟩:=rx;cases rv;let⟨t',rfl⟩:=ru;let⟨i1,q1,p1,z1⟩:=I.inv.tuple s1;let L:=r1.length;let aa:=q1.length;let ac:i1≠[]:=λz=>by
     subst z;let:xs=[]:=Vfh (by rw[L,aa];rfl);subst this;exact aB0 hz.2.2.2 QA
    exact X4s p1 ac hz.2.2.1 hz.1 (by rw[<-aa,<-L];calc hz.2.1) QBS QBS
    ·subst e;let e1:(Vn (1:Int).toNat xs).flatten=xs:=by simp!
     rw[e1];exact .mk (v:=.ref a) .refl I.inv rfl ae I.sr
    let hr:∀m:Nat,RDs X.K ρ H (Vn m xs).flatten (Vn m vs).flatten:=λm=>by
     induction m with
     |zero=>simpa using RDs.nil|succ m ih=>rw[Van,Van,Vbt,Vbt];exact r1.append ih
    calc Xcm (I.inv.laid (t':=s.toks) (o:=.tup QN8.flatten) Q49 Qd ?_) QNC I.sr (hr _);exact⟨by rw[Xld,<-L,Nat.mul_comm];calc Xb9 hz.2.1,_,q1.rep _,IsTup.new _ _⟩
   cases B rfl|_=>cases B rfl
 |ref n=>cases y with
  |int k=>
   simp[Xl]at B |-;cases h1:Z.lstM S n with
   |none=>rw[h1]at B;cases B rfl|some xs=>
    rw[h1]at B;dsimp at B |-;split at B
    ·rename_i hz;rw[iP0 hz];let⟨a,vs,rfl,ha,ab,ra⟩:=I.lstR h1 rx;simp[RD]at ry;subst ry;let hr:RDs X.K ρ H QDT.flatten QN8.flatten:=by
      induction k.toNat with
      |zero=>simpa using RDs.nil|succ m ih=>rw[Van,Van,Vbt,Vbt];exact ra.append ih
     exact opd (Q':=λz H'=>∃p,H p=yy/\z=.ref p/\H'=upd H p (.lst QN8.flatten)) X8c I.inv rv ru
      ⟨a,k,vs,rfl,rfl,ab,by omega,by omega,by rw[<-ra.length];calc Xb9 hz.2.1,λp hp=>⟨p,hp,rfl,rfl⟩⟩
      λw s' z H' J rz ⟨p,hp,z1,z2⟩=>by subst z1 z2;cases rz;exact Xa4 J hp I.sr hr
    cases B rfl
  |_=>cases B rfl
 |_=>cases B rfl
def X8q:Op2 X (Vcw .FloorDiv) (Xl .fdiv):=Xau QF λI B=>by
 simp[Xl]at B |-;split at B;·rename_i j hz;rw[iP0 hz];simp[Xhr,bA0,decide_eq_true_eq]at hz;exact floordiv_int Q0 (by rw[Int.fdiv_eq_ediv_of_nonneg _ Q0];calc Ym I.sr QhA) (.inl (PyProof.noPylong_of_log2 hz.2))
 ·cases B rfl
def Yd6:Op2 X (Vcw .Mod) (Xl .mod):=Xau QF λI B=>by
 simp[Xl]at B |-;split at B;·rename_i hz;rw[iP0 hz];exact mod_int' Q0 (by rw[Int.fmod_eq_emod_of_nonneg _ Q0];calc Ym I.sr QhA)
 ·cases B rfl
def Yd7:Op2 X (Vcw .Pow) (Xl .pow):=Xau QF λI B=>by
 simp[Xl]at B |-;split at B;·rename_i hz;rw[iP0 hz];exact pow_int_small hz.1 Q0 Q0 QY0
 ·cases B rfl
def Xut{op:Bo}(h:op=.shl\/op=.shr\/op=.band)(x y:D)(S:Sto)(B:Xl op x y S≠.bad):∃i j,x=.int i/\y=.int j:=by rcases h with rfl|rfl|rfl<;>(cases x<;>first|calc aB0 rfl B|(cases y<;>first|calc⟨_,_,rfl,rfl⟩|calc aB0 rfl B))
def Yd8:Op2 X (Vcw .LShift) (Xl .shl):=Xau (Xut QJ0) λ{_ s _ _ _ _ _ i j _ _ _} I nb=>by
 simp[Xl]at nb |-;split at nb
 ·rename_i hz;rw[iP0 hz];calc lshift_int hz.1 ?_ QY0;let:Vf9 i<=2^20:=by
   unfold Vf9;split;·exact Vaq _
   ·rename_i B;let h1:i.natAbs≠0:=λz=>B QVR;let:=(Nat.log2_lt h1).mpr hz.2.2;omega
  omega
 cases nb rfl
def Yd9:Op2 X (Vcw .RShift) (Xl .shr):=Xau (Xut QUb) λI B=>by
 simp[Xl]at B |-;split at B;·rename_i hz;rw[iP0 hz];exact rshift_int hz QY0
 ·cases B rfl
def X8r:Op2 X (Vcw .BitAnd) (Xl .band):=Xau (Xut QTb) λI B=>and_int QY0
def Yea:∀op:Bo,Op2 X Q0d QEg
 |.add=>Yd3|.sub=>Yd4|.mul=>Yd5|.fdiv=>X8q|.mod=>Yd6|.pow=>Yd7|.shl=>Yd8|.shr=>Yd9|.band=>X8r
universe e
def X8s(n:Nat)(i:Int):Z.ixN n i=L2.ixN n i:=rfl
section
variable{X:Cx}{pc:LA}{σ:L2.St}{H:Hp}{s:Vc}{ρ:LR}{S S':Sto}{env:En}{Q:VP}{E:VP}{a b c e:Expr}{f fa fb fc:En->Sto->R D}{pos:Pos}
def Xw6(r:RDs X.K ρ H xs vs)(h:Qt6=yz d):∃v,atI vs k=yz v/\RD X.K ρ H d v:=by
 cases e:Z.ixN QL k with
 |none=>rw[e]at h;cases h|some j=>rw[e]at h;let⟨v,h1,h2⟩:=r.get (i:=j) (d:=d) h;calc QPY;show((L2.ixN Qc3 k).bind λj=>vs[j]?)=yz v;rw[<-r.length];rw[X8s]at e;rw[e];calc h1
def Yeb(hs:Xlc b):Op2 X (Vf3 a b) Xdz:=by
 intro pc s σ H ρ S env x y v u v' u' E I nb rx rv ry ru;unfold Xdz at nb |-;cases e:Xbt x y S with
 |none=>rw[e]at nb;cases nb rfl|some d=>
  cases y with
  |int k=>
   simp[RD]at ry;subst ry;let L:∀ {r:R2} (hr:IxR QT4 r) (z:V),r v QnW H (λz' H'=>z'=z/\H'=H)->RD X.K ρ H d z->Vg Q3 X.A QIT QBL E s:=λ{r} hr z h1 h2=>thn (hr a b pc s σ H v QnW v' u' _ QjC rv ru h1 (hs _ _)) λw s' ⟨z',H',J,rz,e1,e2⟩=>by subst e1 e2;exact .mk .refl J.unwish rz h2 I.sr
   let seq:∀xs,Xi S x=yz xs->Qt6=yz d->Vg Q3 X.A QIT QBL E s:=λxs h1 h2=>by
    let⟨p,vs,rfl,B,hr⟩:=I.seq h1 rx;let⟨z,hz,rz⟩:=Xw6 hr h2;rcases B with B|B;·exact L X4k z QYD rz
    ·exact L X8a z QYD rz
   cases x with
   |str _=>simp![Xbt,Xi]at e|tup xs=>exact seq xs rfl QrI|fro xs=>exact seq xs rfl QrI|ref n=>
    simp[Xbt,Xi]at e;cases e1:lstAt S n with
    |none=>rw[e1]at e;cases e|some xs=>rw[e1]at e;calc seq xs e1 e
   |non=>simp![Xbt,Xi]at e|bl _=>simp![Xbt,Xi]at e|int _=>simp![Xbt,Xi]at e|fn _ _=>simp![Xbt,Xi]at e|edc=>simp![Xbt,Xi]at e
  |_=>simp![Xbt]at e
def Yec(hs:Xlc b)(B:DE X a fa)(hb:DE X b fb):DE X (.Subscript a b pos) (λenv S=>Qp.bind λx S=>QS4.bind λy S=>Xdz x y S):=
 λpc s σ H ρ S env I L=>Subscript_ (two (Yeb hs) B hb I L rfl)
abbrev spD(K:Vh)(B:Bool)(n:Nat)(F:LD->Sto->R D):Sp:=λvs H Q E=>∃ds ρ S,lg vs=n/\RDs K ρ H ds vs/\SR K B ρ S H/\F ds S≠.bad /\
 (∀d S' v H' ρ',F ds S=.ok d S'->RD K ρ' H' d v->SR K B ρ' S' H'->Stp K ρ ρ' H H'->Q v H') /\
 ∀n c S' a H' ρ',F ds S=.ex n S'->ρ'[n]?=yz a->S'[n]?=yz Qp3->SR K B ρ' S' H'->Stp K ρ ρ' H H'->E Qt yy H'
abbrev CXd(P:V3)(w:Ua):CXT:=λouter H s E e s'=>∃H',s'.os=s.os/\AllBare s'.gens/\Un QCZ [] H H' s.heap s'.heap/\HOk P w H' s'.heap/\(∃a,e=.ref a/\Trc .none (λT=>s.heap.get? T=yy) H' a s'.heap)/\E e yy H'
structure RoomC(cm:Bool)(k:Nat)(A:Uz):Prop where
 gd:A.guards=yz []
 hd:cm=yx->A.handled=yy
 dp:A.depth+3*k+5<recursionLimit
 un:A.units+16*k+200<Vbw
def RoomC.of(r:Room k A):RoomC cm k A:=⟨r.gd,λ_=>r.hd,r.dp,r.un⟩
def RoomC.less(r:RoomC cm k A)(h:cm2=yx->cm=yx):RoomC cm2 k A:=⟨r.gd,λz=>r.hd (h z),r.dp,r.un⟩
def RoomC.deeper(r:RoomC cm Qe3 A)(env:Vb4):RoomC cm k (A.deeper env):=
 ⟨r.gd,r.hd,by let:=r.dp;show A.depth+1+3*k+5<_;omega,by let:=r.un;show A.units+3+16*k+200<_;omega⟩
def RoomC.mark(r:RoomC cm k A):RoomC yw k (A.mark h):=⟨r.gd,QY3,r.dp,r.un⟩
structure FnD(cm:Bool)(P:V3)(w:Ua)(K:Vh)(mg:Str->OV)(base:Heap)(k:Nat)(f:Addr)(fd:Vdh)(ps:LS)(F:LD->Sto->R D):Prop where
 run:∀(A:Uz) (outer:List Vb4) (s:Vc) (H:Hp) (args:Args) (us:LV) (vs:LW) (Q:VK) (E:XK),RoomC cm k A->Env0 P w K mg base A outer s H->BindsTo s fd args Qk6->Vals vs us->spD K QQS Qp5 F vs H Q E ->
  Vcq QeA A QwR (CR QpH outer P w H s Q E) s
def X3i(G:FnD cm X.prog X.w X.K X.mg X.base k g fd ps F)(hr:RoomC cm k X.A)(hb:Binds X.K fd ps [])
  (I:S0 X pc σ H s ρ S env) (rv:Vals vs us) (rd:RDs X.K ρ H ds vs) (hl:Qt3=lg ps) (nb:F ds S≠.bad):
  Vg Q3 X.A (call QS6 us) (OkP X pc σ ρ H QZW) (ExP X pc σ ρ H QZW) s:=by
 let aa:Qc3=lg ps:=by rw[<-rd.length];exact hl
 let ab:BindsTo s fd QvA Qk6:=by let:=hb s us I.inv.kIn (by rw[Va4,<-rv.length];calc aa);rwa [Va4]at this
 let ac:spD X.K QY1 Qp5 F vs H (λv H'=>∃d S' ρ',F ds S=.ok d S'/\RD X.K ρ' H' d v/\SR X.K QY1 ρ' S' H'/\Stp X.K ρ ρ' H H')
   (λe _ H'=>∃n c S' a ρ',F ds S=.ex n S'/\e=.ref a/\ρ'[n]?=yz a/\S'[n]?=yz Qp3/\SR X.K QY1 ρ' S' H'/\Stp X.K ρ ρ' H H'):=
  ⟨ds,ρ,S,aa,rd,I.sr,nb,λd S' v H' ρ' h1 h2 B L=>⟨d,S',ρ',h1,h2,B,L⟩,λn c S' a H' ρ' h1 h2 B L h5=>⟨n,c,S',a,ρ',h1,rfl,h2,B,L,h5⟩⟩
 calc wpAny_call (Vea (G.run X.A X.stack s H QvA us vs _ _ hr I.inv.env0 ab rv ac) λr s' hq=>?_);cases r with
 |error e=>
  let⟨H',os,bare,un,hok,⟨a',h0,tr⟩,n,c,S',a,ρ',h1,h2,B,L,h5,h6⟩:=hq;calc⟨n,S',h1,H',ρ',a,c,I.inv.call' os un hok bare QtP,h2,B,L,h5,h6,.inr ⟨_,.inl rfl,?_⟩⟩;rw[h2]at h0;cases h0;exact tr.imp λT hT=>QTN
  ·by_cases hx:T∈X.ex;·exact .inl hx
   ·cases q:X.s₀.heap.get? T with
    |none=>exact .inr rfl|some o=>let⟨o',e⟩:=I.inv.base.there T o q hx;rw[hT]at e;cases e
  let:=(I.inv.pin p hp).1;rw[z,hT]at this;cases this|ok fl=>
  cases fl with
  |ret u=>let⟨v,H',J,ae,d,S',ρ',h1,h2,B,L⟩:=I.inv.after hq;calc⟨d,S',h1,v,H',ρ',J,ae,h2,B,L⟩|next=>calc Vib hq|brk=>calc Vib hq|cont=>calc Vib hq
def X8t(G:FnD cm X.prog X.w X.K X.mg X.base k g fd ps F)(hr:RoomC cm k X.A)(hb:Binds X.K fd ps [])
  (hg:Gl X x) (hm:X.mg x=yz QS6) (hk:Vev X.K QS6=yx) (ha:DA X QA4 ga) (hl:∀env S ds S',ga env S=.ok ds S'->lg ds=lg ps)
  (ab:Q50=yw) (he:Uf QA4 X.env=QM5::Uf es X.env) (L:QQ0.any Qb=yw):
  DE X QM7 (λenv S=>Q8Q.bind λxs S=>F xs S):=by
 intro pc s σ H ρ S env I B;dsimp at B |-;calc Vau (Xe7 I.inv hg hm ?_ ab);cases q:ga env S with
 |bad=>rw[q]at B;cases B rfl|ex n S1=>calc Vgp (h₀:=X.base) I.inv.ok.mod.kin hk QV5 he L|ok ds S1=>rw[q]at B;simp[Rk0]at B |-;calc Vgp (h₀:=X.base) I.inv.ok.mod.kin hk (ha.ok I q λus s1 vs H1 ac I1 rv rd aa=>⟨I1.inv.kIn,?_⟩) he L;calc Vp (X3i G hr hb I1 rv rd (hl env S ds S1 q) B) (λu s2 z=>z.pre aa) λx s2 z=>z.pre aa
theorem FlP(X:Cx)(pc:LA)(σ:L2.St)(ρ:LR)(H:Hp)(na:Bool)(S':Sto)(s':Vc):Fl->Flow->Prop
 |.nx e,fl=>fl=.next/\∃ B H' ρ',S0 X pc B H' s' ρ' S' e/\Stp X.K ρ ρ' H H'/\QbV|.brk e,fl=>fl=.brk/\∃ B H' ρ',S0 X pc B H' s' ρ' S' e/\Stp X.K ρ ρ' H H'|.cnt e,fl=>fl=.cont/\∃ B H' ρ',S0 X pc B H' s' ρ' S' e/\Stp X.K ρ ρ' H H'|.rt d,fl=>∃u v B H' ρ',fl=.ret u/\Inv X pc B H' s'/\RelV v u/\RD X.K ρ' H' d v/\SR X.K QY1 ρ' S' H'/\Stp X.K ρ ρ' H H'
theorem OkS(X:Cx)(pc:LA)(σ:L2.St)(ρ:LR)(H:Hp)(na:Bool)(r:R Fl)(fl:Flow)(s':Vc):Prop:=∃x S',r=.ok x S'/\FlP X pc σ ρ H na S' s' x fl
theorem ExS(X:Cx)(pc:LA)(σ:L2.St)(ρ:LR)(H:Hp)(na:Bool)(r:R Fl)(e:Vb)(s':Vc):Prop:=∃n S' B,r=.ex n S'/\QbV/\XPd X pc B ρ H n S' e s'
theorem DS(X:Cx)(st:Stmt)(na:Bool)(f:En->Sto->R Fl):Prop:=
 ∀(pc:LA) (s:Vc) (σ:L2.St) (H:Hp) (ρ:LR) (S:Sto) (env:En),S0 X pc σ H s ρ S env->f env S≠.bad ->
  Vg Q3 X.A (exec st X.env) Q9J QGJ s
theorem DSs(X:Cx)(st:LM)(na:Bool)(f:En->Sto->R Fl):Prop:=
 ∀(pc:LA) (s:Vc) (σ:L2.St) (H:Hp) (ρ:LR) (S:Sto) (env:En),S0 X pc σ H s ρ S env->f env S≠.bad ->
  Vg Q3 X.A QQR Q9J QGJ s
def FlP.pre{x:Fl}{fl:Flow}{s':Vc}{aa:L2.St}{ρ':LR}{H':Hp}{na na':Bool}(st:Stp X.K ρ ρ' H H')(hn:na'=yx->na=yx/\aa=σ)(h:FlP X pc aa ρ' H' na S' s' x fl):FlP X pc σ ρ H na' S' s' x fl:=by
 cases x with
 |nx e=>let⟨h1,B,H2,L,h2,h3,h4⟩:=h;calc⟨h1,B,H2,L,h2,st.trans h3,λz=>(h4 QcX.1).trans QcX.2⟩|brk e=>let⟨h1,B,H2,L,h2,h3⟩:=h;calc QcG|cnt e=>let⟨h1,B,H2,L,h2,h3⟩:=h;calc QcG|rt d=>let⟨u,v,B,H2,L,h1,h2,h3,h4,h5,h6⟩:=h;calc⟨u,v,B,H2,L,h1,h2,h3,h4,h5,st.trans h6⟩
def OkS.pre{r:R Fl}{fl:Flow}{s':Vc}{B:L2.St}{ρ':LR}{H':Hp}{na na':Bool}(st:Stp X.K ρ ρ' H H')(L:na'=yx->na=yx/\B=σ)(h:OkS X pc B ρ' H' na r fl s'):OkS X pc σ ρ H na' r fl s':=by let⟨x,S1,e,h⟩:=h;calc⟨x,S1,e,h.pre st L⟩
def ExS.of(st:Stp X.K ρ ρ' H H')(h:XPd X pc σ ρ' H' n S' x s')(e:r=.ex n S'):ExS X pc σ ρ H na r x s':=⟨n,S',σ,e,λ_=>rfl,h.pre st⟩
def ExS.pre{na na':Bool}{B:L2.St}{r:R Fl}{x:Vb}{s':Vc}{ρ':LR}{H':Hp}(st:Stp X.K ρ ρ' H H')(hn:na'=yx->na=yx/\B=σ)(h:ExS X pc B ρ' H' na r x s'):ExS X pc σ ρ H na' r x s':=by let⟨n,S1,L,e,h1,h2⟩:=h;calc⟨n,S1,L,e,λz=>(h1 QcX.1).trans QcX.2,h2.pre st⟩
variable{st:Stmt}{rest sa sb:LM}{g g2:En->Sto->R Fl}{na na2:Bool}
def DS.weak(h:DS X st na g)(B:na2=yx->na=yx):DS X st na2 g:=λpc s σ H ρ S env I L=>Vp (h pc s σ H ρ S env I L) (λ_ _ z=>z.pre .refl λq=>QUY) λ_ _ z=>z.pre .refl λq=>QUY
def dss_nil:DSs X [] yx QtM:=λpc s σ H ρ S env I _=>wpAny_execs_nil Qa9
def X0n(h1:DS X st na g)(h2:DSs X rest na2 g2):DSs X (st::rest) Q6c (λenv S=>match g env S with | .ok Qs6 S'=>g2 e S'|r=>r):=by
 intro pc s σ H ρ S env I nb;dsimp at nb |-;calc wpAny_execs_cons ?_;cases q:g env S with
 |bad=>rw[q]at nb;cases nb rfl|ex n S1=>
  exact Vp QkG QSB λx s1 z=>?_;·let⟨x,S2,e,_⟩:=z;rw[q]at e;cases e
  ·rw[q]at z;exact z.pre .refl λw=>⟨by rw[bA0]at w;calc w.1,rfl⟩|ok x S1=>
  rw[q]at nb;exact Vp QkG QSB λx s1 z=>?_
  ·let⟨y,S2,e,z⟩:=z;rw[q]at e;cases e;cases x with
   |nx e=>let⟨rfl,L,H1,B,I1,aa,ab⟩:=z;exact Vp (h2 pc s1 L H1 B S1 e I1 nb) (λfl s2 z=>z.pre aa λw=>by rw[bA0]at w;calc QrT) λx s2 z=>z.pre aa λw=>by rw[bA0]at w;exact QrT|brk e=>let⟨rfl,L,H1,B,I1,aa⟩:=z;exact⟨.brk e,S1,rfl,rfl,L,H1,B,I1,aa⟩|cnt e=>let⟨rfl,L,H1,B,I1,aa⟩:=z;exact⟨.cnt e,S1,rfl,rfl,L,H1,B,I1,aa⟩|rt d=>let⟨u,v,L,H1,B,rfl,r⟩:=z;exact⟨.rt d,S1,rfl,u,v,L,H1,B,rfl,r⟩
  let⟨k,S2,ac,e,_⟩:=z;rw[q]at e;cases e
def ds_pass:DS X (.Pass pos) yx QtM:=λpc s σ H ρ S env I _=>wpAny_Pass Qa9
def ds_brk:DS X (.Break pos) yw (λenv S=>.ok Qfb S):=λpc s σ H ρ S env I _=>wpAny_Break ⟨.brk env,S,rfl,rfl,σ,H,ρ,I,.refl⟩
def ds_cnt:DS X (.Continue pos) yw (λenv S=>.ok Qeb S):=λpc s σ H ρ S env I _=>wpAny_Continue ⟨.cnt env,S,rfl,rfl,σ,H,ρ,I,.refl⟩
def X4v(L:DE X e f)(hs:Vgq e yy pos.line X.env=pure yw):DS X (.Expr e pos) yx (λenv S=>QE0.bind λ_ S=>.ok QW3 S):=by
 intro pc s σ H ρ S env I B;dsimp at B |-;cases q:f env S with
 |bad=>rw[q]at B;cases B rfl|ex n S1=>calc wpAny_Expr_any Qb5 I.inv.quiet hs|ok d S1=>calc wpAny_Expr_any (L.ok I q λu s' v H' ρ' J rv rd st=>⟨.nx env,S1,rfl,rfl,σ,H',ρ',J,st,λ_=>rfl⟩) I.inv.quiet hs
def X8u(L:DE X e f):DS X (.Return QOX pos) yx (λenv S=>QE0.bind λx S=>.ok Q0h S):=by
 intro pc s σ H ρ S env I B;dsimp at B |-;cases q:f env S with
 |bad=>rw[q]at B;cases B rfl|ex n S1=>calc wpAny_Return_some Qb5|ok d S1=>calc wpAny_Return_some (L.ok I q λu s' v H' ρ' J rv rd st=>⟨.rt d,S1,rfl,u,v,σ,H',ρ',rfl,J.inv,rv,rd,J.sr,st⟩)
def Yed(hc:DT X c Q29)(ha:DSs X sa na g)(hb:DSs X sb na2 g2):
  DS X (.If c sa sb pos) Q6c (λenv S=>QR4.bind λx S=>match X4 S x with|some yx=>g env S|some yw=>g2 env S|none=>.bad):=by
 intro pc s σ H ρ S env I B;dsimp at B |-;cases q:fc env S with
 |bad=>rw[q]at B;cases B rfl|ex n S1=>exact wpAny_If (hc.ex I (by simp[q];rfl) λx s' z=>.of .refl z rfl)|ok x S1=>
  rw[q]at B;simp[Rk0]at B |-;cases t:X4 S1 x with
  |none=>rw[t]at B;cases B rfl|some r=>
   rw[t]at B;calc wpAny_If Q96;cases r with
   |true=>calc Vp QF7 (λw s3 z=>z.pre st2 λw=>by rw[bA0]at w;calc QOY) λx s' z=>z.pre st2 λw=>by rw[bA0]at w;calc QOY|false=>calc Vp QE7 (λw s3 z=>z.pre st2 λw=>by rw[bA0]at w;calc QNY) λx s' z=>z.pre st2 λw=>by rw[bA0]at w;calc QNY
def X8v(hN:X.N.Nodup)(hi:X.N[i]?=yz x)(hx:Loc X.env.scope x)(hf:X.fn x=yx\/X.env.scope.names.lookup x=yz .local)(L:DE X e f)(hs:Vgq e (yz (.Name x pos')) pos.line X.env=pure yw):
  DS X (.Assign [.Name x pos'] e pos) yw (λenv S=>QE0.bind λx S=>match Xx QJ1 x env with|some env=>.ok QW3 S|none=>.bad):=by
 intro pc s σ H ρ S env I B;dsimp at B |-;cases q:f env S with
 |bad=>rw[q]at B;cases B rfl|ex n S1=>calc wpAny_Assign_Name Qb5 hs|ok d S1=>calc wpAny_Assign_Name (L.ok I q λu s' v H' ρ' J rv rd st=>?_) hs;calc Xcj J.inv hN hi hx rv (λs2 I2=>⟨.nx QSH,S1,rfl,rfl,_,H',ρ',⟨I2,J.sr,J.er.set i rd⟩,st,λz=>nomatch z⟩) hf
def Xc7{b:Addr}{u:HO}(x:ObjOk P w H h b u):∃o,h.get? b=yz o:=by
 cases u with
 |lst xs=>let⟨_,_,_,_,e⟩:=x;calc Q14|tup xs=>let⟨_,_,_,o,e,_⟩:=x;calc Q14|dK kvs=>let⟨_,_,_,_,o,_,_,e,_⟩:=x;calc Q14|dT kvs=>let⟨_,_,_,_,o,_,_,e,_⟩:=x;calc Q14|set S n=>let⟨o,_,_,_,e,_⟩:=x;calc Q14|ins C dx fs=>let⟨_,_,_,e,_⟩:=x;calc Q14|own y=>calc x|xd fs=>let⟨_,⟨_,_,_,e,_⟩,_⟩:=x;calc Q14|rng lo hi=>let⟨_,_,_,e⟩:=x;calc Q14|frz ob u=>let⟨e,_⟩:=x;calc Q14|tbl ps=>let⟨_,e,_⟩:=x;calc Q14|met f y=>calc⟨_,(show h.get? b=yz _ from x)⟩|ext B=>calc x.2.1
def Xe0{h g g':Heap}:∀ {l:List Vb4},h.FunFrames g l->(∀b∈frs l,g'.get? b=yy)->h.FunFrames g' l
 |[],_,_=>trivial|env::r,⟨hk,⟨L,o,hf,_,ho,hd⟩,hr⟩,k=>by
  let e:frs (env::r)=L::frs r:=by unfold frs;rw[U5,hf]
  rw[e]at k;calc⟨hk,⟨L,o,hf,k L QYM,ho,hd⟩,Xe0 hr λb B=>k b QtH⟩
structure Hid(X:Cx)(H':Hp)(a:Addr)(h:Heap)(l:LR):Prop where
 er:a∈l
 fr:∀b∈frs X.stack,b∈l
 of:∀b∈l,b=a\/b∈frs X.stack\/(H' b=yy/\∃o vs,h.get? b=yz o/\o.data=.fields vs)
def Xsn{pc:LA}{σ:L2.St}{a C:Addr}{l:LR}(I:Inv X pc σ H' s')(ha:H' a=yz Qq1)(hl:Hid X H' a s'.heap l)
  (keep:∀b o,s'.heap.get? b=yz o->b ∉ l->h'.get? b=yz o) (he:ExcO C a h'):HOk X.prog X.w H' h':=by
 let out:∀b u,b≠a->H' b=yz u->b ∉ l:=λb u L q hm=>by
  rcases hl.of b hm with z|z|⟨z,_⟩;·exact L z
  ·rw[I.stkFree b z]at q;cases q
  rw[z]at q;cases q
 intro b u q;by_cases L:b=a;·subst L;rw[ha]at q;cases q;exact he.ok
 ·exact QaK.stay (λc v B e=>?_) QSa λ_ _ _ z=>z;rcases B with rfl|B;·exact keep c v e (out c u L q)
  ·calc keep c v e (out c _ (λz=>by rw[z,ha]at B;cases B) B)
def Inv.fly{X:Cx}{pc:LA}{σ:L2.St}{H:Hp}{s:Vc}{a:Addr}(I:Inv X pc σ H s)(ha:H a=yz Qq1)(hl:Hid X H a s.heap l)
  (L:∀b∈l,b≠a->b ∉ frs X.stack->Xlj X pc b) (k1:(Vcz s.heap l).StaysIn h') (k4:s.heap.UpToSlots h') (he:ExcO C a h'):
  Inv X pc σ H QO:=by
 let keep:∀b o,s.heap.get? b=yz o->b ∉ l->h'.get? b=yz o:=λb o e hb=>k1 b o (Ve0 l e hb);let ab:∀b∈frs X.stack,∃o,s.heap.get? b=yz o/\∀vs,o.data≠.fields vs:=λb hb=>(I.stack.mem hb).2;let aa:∀b o,X.s₀.heap.get? b=yz o->b≠X.env.locals:=λb o e=>Ul QJ2;let B:∀x c,X.env.cells.lookup x=yz c->∀v,s.heap.IsCell c v->h'.IsCell c v:=λx c e v QRY=>by
  let⟨sl,q⟩:=k4 c o ho λvs z=>by rw[hd]at z;cases z
  exact QLa
 exact⟨I.ok,I.os,I.bare,⟨λb o e n hb hx=>?_,λb o e n hb hx=>?_,λb o e n hx=>I.base.free b o e n hx,λb o e hx=>?_,I.base.tups,I.base.frzs,I.base.tbls⟩,?_,λx c e=>?_,I.free,I.freeC,λp hp=>?_,Xsn I ha hl keep he,I.len⟩
 ·exact keep b o QX8 λhm=>?_;let fb:=I.base.free b o e n hx;by_cases h1:b=a;·rw[h1,ha]at fb;cases fb
  ·by_cases h2:b∈frs X.stack
   ·rcases Vr.mp (I.stkSub b h2) with z|z;·exact aa b o e z
    ·exact hb z
   rcases QfU.1 with z|z;·exact hx z
   ·rw[z]at e;cases e
 ·let⟨sl,e1⟩:=I.base.slot b o e n hb hx;let⟨_,o',e',nd⟩:=I.funs.mem hb;rw[e1]at e';cases e';let⟨ac,e2⟩:=k4 b _ e1 nd;exact⟨ac,e2⟩
 ·let⟨o',e1⟩:=I.base.there b o e hx;by_cases hm:b∈l
  ·by_cases h1:b=a;·subst h1;let⟨oe,_,_,q,_⟩:=he;exact Q3V
   ·by_cases h2:b∈frs X.stack;·let⟨o2,e2,nd⟩:=ab b h2;rw[e1]at e2;cases e2;let⟨sl,e3⟩:=k4 b _ e1 nd;exact⟨_,e3⟩
    ·rcases QfU.1 with z|z;·exact aB0 z hx
     ·rw[z]at e;cases e
  exact QOL
 ·let⟨m,hn,ae⟩:=I.loc;calc⟨m,k4.ns hn,λi x v e1 e2 e3=>?_⟩;let⟨u,r,lk⟩:=ae i x v e1 e2 e3;calc QKa;rcases lk with lk|⟨kd,c,e,z⟩;·exact .inl lk
  ·exact .inr ⟨kd,c,e,B x c e _ z⟩
 ·let⟨v,z⟩:=I.cell x c e;exact⟨v,B x c e v z⟩
 ·let⟨e,n,ne,nf,d⟩:=I.pin p hp;calc⟨keep p.1 p.2 e λhm=>?_,n,ne,nf,d⟩;by_cases h1:p.1=a;·rw[h1,ha]at n;cases n
  ·by_cases h2:p.1∈frs X.stack
   ·rcases Vr.mp (I.stkSub p.1 h2) with z|z;·exact ne z
    ·exact nf z
   calc(L p.1 hm h1 h2).2 p hp rfl
def Xjg{X:Cx}{pc:LA}{σ:L2.St}{H':Hp}{s':Vc}{a C:Addr}{Q:Unit->Vc->Prop}{E:VP}(I:Inv X pc σ H' s')(hs:X.stack=X.env::X.outer)(hf:X.env.frame=yz X.env.locals)
  (ha:H' a=yz Qq1) (fl:Fly X pc H' a s'.heap)
  (hQ:∀l h2 a0,Hid X H' a s'.heap l->QJ9->Heap.HeldW QNT QL4 a QE2 a0 X.env.locals h2->s'.heap.UpToSlots h2->Q () {s' with heap:=h2}):
  Vg Q3 X.A (noteFrame Qt X.env) Q E s':=by
 let hA:X.A.frames=yz QL4:=by rw[<-hs];exact I.ok.frames
 let hI:=I.stack;let⟨⟨oa,va,a0,ea,ca,da,v0,vz⟩,_,_⟩:=(show ObjOk X.prog X.w H' s'.heap a Qq1 from I.hok a _ ha);rcases fl with⟨oe,vs,e1,e2,e3⟩|⟨fl,hfl,oe,vs,T,oT,ts,e1,e2,e3,e4,e6,e7,e8,e9,e10⟩
 ·let hid:Hid X H' a s'.heap QYR:=⟨.head _,λb B=>.tail _ B,λb B=>by
   rcases Vr.mp B with z|z;·exact .inl z
   ·calc .inr QjK⟩
  rw[ea]at e1;cases e1;rw[da]at e2;cases e2;unfold noteFrame;simp[hf];calc Va (U8 ea da e3 ?_);rw[iN0 Q1];exact wpAny_entryW (base:=Vcz s'.heap QYR) hA (by rw[<-hs];calc Xe0 hI λb B=>Vcf _ QtH) hf ea (λb o e=>Vgh _ e) (Vcf _ QYM) da vz v0 λh2 ⟨k1,k2,k3,k4⟩=>?_
  rw[ca]at k3;exact hQ _ h2 a0 hid (λb B h1 h2=>by
   rcases Vr.mp B with z|z;·exact aB0 z h1
   ·calc aB0 z h2) ⟨k1,Vcf _ QYM,k2,k3⟩ k4
 ·let hid:Hid X H' a s'.heap Q0D:=⟨.head _,λb B=>.tail _ QtH,λb B=>by
   rcases Vr.mp B with z|z;·exact .inl z
   ·rcases Vr.mp z with z|z;·subst z;exact .inr (.inr ⟨e7,oT,ts,e8,e9⟩)
    ·calc .inr QjK⟩
  let L:∀b∈a::T::frs X.stack,b≠a->b ∉ frs X.stack->Xlj X pc b:=λb B h1 h2=>by
   rcases Vr.mp B with z|z;·exact aB0 z h1
   ·rcases Vr.mp z with z|z;·subst z;exact e4
    ·exact aB0 z h2
  rw[ea]at e1;cases e1;rw[da]at e2;cases e2;let fr:s'.heap.FunFrames QQQ QL4:=by rw[<-hs];exact Xe0 hI λb B=>Vcf _ (.tail _ QtH)
  let tr:s'.heap.TracedAtW QQQ a QE2 a0 fl:=⟨oa,va,T,oT,ts,ea,⟨ca,v0⟩,da,e3,Vcf _ (.tail _ QYM),e6,e8,e9,e10⟩;rcases hfl with rfl|rfl;·exact wpAny_looks_onW hA hf QlA λh2 aa ab=>hQ _ h2 a0 hid L aa ab
  ·calc wpAny_noteFrame_againW hf tr (hQ _ s'.heap a0 hid L QlA QjT)
def X4w{X:Cx}{pc:LA}{σ:L2.St}{H':Hp}{s':Vc}{a C:Addr}{Q:Unit->Vc->Prop}{E:VP}(I:Inv X pc σ H' s')(hs:X.stack=X.env::X.outer)(hf:X.env.frame=yz X.env.locals)(hx:X.ex=[])
  (ha:H' a=yz Qq1) (fl:Fly X pc H' a s'.heap)
  (hQ:∀h',Un X.fs [] X.H₀ H' X.s₀.heap h'->HOk X.prog X.w H' h'->Trc .none (λT=>X.s₀.heap.get? T=yy) H' a h'->Q () QlP):Vg Q3 X.A (leaving X.env Qt) Q E s':=by
 let aa:frs X.stack=X.env.locals::X.fs:=by rw[hs];unfold frs;rw[U5,hf];rfl
 let hA:X.A.frames=yz QL4:=by rw[<-hs];exact I.ok.frames
 let hI:=I.stack;let fin:∀(l:LR) (h':Heap) (a0:Vb),Hid X H' a s'.heap l->(∀b∈l,b≠a->b ∉ frs X.stack->X.s₀.heap.get? b=yy)->Heap.LeftW QNT QL4 a QE2 a0 s'.heap h'->Q () QlP:=by
  intro l h' a0 hl B k0;let⟨k1,k2,⟨oe,vs,T,oT,ts,t1,⟨t2,t3⟩,t4,t5,t6,t7,t8,t9,af⟩,k4⟩:=k0;let keep:∀b o,s'.heap.get? b=yz o->b ∉ l->h'.get? b=yz o:=λb o e L=>k1 b o (Ve0 l e L);let ac:∀b∈frs X.stack,∃o,s'.heap.get? b=yz o/\∀vs,o.data≠.fields vs:=λb L=>(hI.mem L).2;let ab:∀b∈frs X.stack,∀o,s'.heap.get? b=yz o->∃sl,h'.get? b=yz QlE:=λb L o e=>by let⟨o',e',nd⟩:=ac b L;rw[e]at e';cases e';exact k4 b o e nd
  let ae:∀b o,X.s₀.heap.get? b=yz o->b≠X.env.locals:=λb o e=>Ul QJ2;let nx:∀b:Addr,b ∉ X.ex:=λb z=>by rw[hx]at z;cases z
  let hT:∀o,s'.heap.get? T=yz o->T∈l:=λo e=>by
   by_cases hm:T∈l;·exact hm
   ·rw[Ve0 l e hm]at t6;cases t6
  let nT:T ∉ frs X.stack:=λhm=>by let⟨o,e,nd⟩:=ac T hm;let⟨sl,e'⟩:=ab T hm o e;rw[t8]at e';cases e';exact nd ts t9
  exact hQ h' ⟨λb o e n L _=>?_,λb o e n L _=>?_,λb o e n _=>I.base.free b o e n QYS,λb o e _=>?_,I.base.tups,I.base.frzs,I.base.tbls⟩ (Xsn I ha hl keep Qp4) ⟨oe,vs,T,oT,ts,t1,t4,t5,?_,t7,?_,t8,t9,af⟩
  ·exact keep b o (I.base.keep b o e n L QYS) λhm=>?_;let fb:=I.base.free b o e n QYS;by_cases h1:b=a;·rw[h1,ha]at fb;cases fb
   ·by_cases h2:b∈frs X.stack
    ·rw[aa]at h2;rcases Vr.mp h2 with z|z;·exact ae b o e z
     ·exact L z
    rw[B b hm h1 h2]at e;cases e
  ·let⟨sl,e1⟩:=I.base.slot b o e n L QYS;let⟨ag,e2⟩:=ab b (by rw[aa];calc .tail _ L) _ e1;exact⟨ag,e2⟩
  ·let⟨o',e1⟩:=I.base.there b o e QYS;by_cases hm:b∈l
   ·by_cases h1:b=a;·subst h1;exact⟨_,t1⟩
    ·by_cases h2:b∈frs X.stack;·let⟨sl,e2⟩:=ab b h2 o' e1;exact⟨_,e2⟩
     ·rw[B b hm h1 h2]at e;cases e
   exact QOL
  ·cases q:X.s₀.heap.get? T with
   |none=>exact q|some o=>let⟨o',e1⟩:=I.base.there T o q (nx T);rw[B T Q6Q t7 nT]at q;cases q
  cases q:H' T with
  |none=>rfl|some u=>
   let⟨o',e1⟩:=Xc7 (I.hok T u q);rcases hl.of T Q6Q with z|z|⟨z,_⟩;·exact aB0 z t7
   ·exact aB0 z nT
   rw[z]at q;cases q
 unfold leaving;calc Va (Xjg I hs hf ha fl λl h2 a0 hid B hh up=>?_);exact wpAny_setFlight_noneW hh.1 hh.2.2.1 hh.2.2.2 λh' k1 k2 k3 k4=>?_;exact fin l h' a0 hid (λb L h1 h2=>?_) ⟨k1,k2,k3,λb o e nd=>?_⟩
 ·rcases (B b L h1 h2).1 with z|z;·rw[hx]at z;cases z
  ·exact z
 ·let⟨sl,e2⟩:=up b o e nd;calc⟨sl,k4 b _ e2 nd⟩
abbrev cxC(cm:Bool)(P:V3)(w:Ua)(K:Vh)(mg:Str->OV)(base:Heap)(N:LS)(qual:Str)(scope:Vaj)(f:Addr)(B:Vb)(A:Uz)(outer:List Vb4)(s:Vc)(H:Hp)(E:XK):Cx:=
 { Xul QpH P w K mg base N qual scope f B A outer s H E with calm:=cm}
def X8w{cm:Bool}{P:V3}{w:Ua}{K:Vh}{mg:Str->OV}{base:Heap}{k:Nat}{f:Addr}{name qual:Str}{aa:Arguments}{body:LM}{scope:Vaj}{dV kV ak pm L ct oc:Vb}{an od:Option Addr}
  {ar:Array (OV)} {N ps:LS} {G:En->Sto->R Fl} {na:Bool} (lk:K.lookup f=yz ⟨oc,od,.func Qw8,ar⟩) (ao:Vit K L qual=yx) (S:FnScope N ps scope)
  (af:∀(A:Uz) (outer:List Vb4) (s:Vc) (H:Hp) (E:XK),RoomC cm k QiU->DSs Qu2 body na G):
  FnD cm P w K mg base Qe3 f Qw8 ps (λds S=>if Qt3=lg ps then Xok (G Q63 S) else .bad):=by
 calc⟨λA outer s H av us vs Q E hr e0 hb r al=>?_⟩;let⟨ds,ρ,ag,hl,rd,sr,nb,hok,ae⟩:=al;let ai:Qt3=lg ps:=by rw[rd.length];exact hl
 dsimp at nb hok ae;rw[iP0 ai]at nb;simp[iP0 ai]at hok ae;let KX:K.In s.heap:=e0.mod.kin.keeps λb o e=>QoV.1;let am:s.heap.NoLimit:=e0.mod.nolimit.keeps λb o e=>QoV.1;let ah:∀y∈ps.zip us,scope.names.lookup y.1=yz .local\/(scope.names.lookup y.1=yz .cell/\(QhJ.lookup y.1).isSome=yx):=λ⟨n,v⟩ hy=>by
  rcases S.par n (Via hy).1 with q|q;·exact .inl q
  ·exact .inr ⟨q,Vhh _ _ _ QqW⟩
 calc codeAny_call_function (by let:=hr.dp;omega) (KX _ _ lk) rfl S.co S.gen rfl (PySem.W.codeRec_of KX ao) (hb _ _ _ _ ?_);exact wpAny_newFunctionEnv_cells S.kind ah λenv he s1 x=>?_;subst he;calc⟨am.keeps x.toInCall.keep,codeAny_func ?_⟩;let hD:=af A outer s H E (hr.deeper _);let au:Env0 P w K mg base QUN outer s H:=⟨e0.frames,e0.mod,e0.bs,e0.bsz,e0.funs,e0.frf,e0.hok,e0.bare⟩;let I:Inv Qu2 [] QUB H s1:=by let B:Inv (Xul QpH P w K mg base N qual scope f L QUN outer s H E) [] QUB H s1:=Xwt S rfl au hl r x;exact⟨⟨B.ok.mod,B.ok.kind,B.ok.glob,B.ok.blt,B.ok.above,B.ok.inj,B.ok.has,B.ok.cab,(λz=>hr.hd z),B.ok.frames,B.ok.stk,B.ok.exf,B.ok.bs,B.ok.bsz,B.ok.noex,B.ok.exfs,B.ok.funs,B.ok.frf⟩,B.os,B.bare,B.base,B.loc,B.cell,B.free,B.freeC,B.pin,B.hok,B.len⟩
 let J:S0 Qu2 [] QUB H s1 ρ ag Q63:=by
  calc⟨I,sr,QgO⟩;·unfold L2.start;simp![rd.length,hl]
  ·by_cases hi:i<lg ds
   ·rw[Vy Qr0,Ud]at e;cases q:ds[i]? with
    |none=>rw[q]at e;cases e|some d'=>rw[q]at e;cases e;let⟨v,h1,h2⟩:=rd.get q;calc QPY;unfold L2.start;rw[Vy (by rw[Ve,<-rd.length];calc hi),Ud,h1];rfl
   rw[Vac Qr0,Vdv]at e;split at e<;>cases e
 let aq:G Q63 ag≠.bad:=λz=>nb Q43;exact Vp (hD [] s1 QUB H ρ ag _ J aq) (λfl s' hs=>?_) λe s' hs=>?_
 ·let⟨y,S1,e1,hs⟩:=hs;rw[e1]at nb hok;cases y with
  |nx e=>let⟨rfl,aj,H',ρ',J',ab,_⟩:=hs;exact⟨.non,H',J'.inv.os,J'.inv.bare,J'.inv.base,J'.inv.hok,rfl,hok .non S1 .non H' ρ' rfl Q92 J'.sr ab⟩|rt d=>let⟨u,v,aj,H',ρ',rfl,J',rv,ap,ac,ab⟩:=hs;exact⟨v,H',J'.os,J'.bare,J'.base,J'.hok,rv,hok d S1 v H' ρ' rfl ap ac ab⟩|brk e=>cases nb rfl|cnt e=>cases nb rfl
 ·let⟨n,S1,aj,e1,_,H',ρ',a,c,J',rfl,hn,hc,ac,ab,fl⟩:=hs;rw[e1]at ae;let⟨C,_,ha⟩:=(show ∃C,Xac K c=yz C/\H' a=yz Qq1 from ac.ob n a _ hn hc);calc X4w J' rfl rfl rfl ha fl λh' un hok tr=>⟨H',J'.os,J'.bare,un,hok,⟨a,rfl,tr⟩,ae n c S1 a H' ρ' rfl hn hc ac ab⟩
universe e
def Xhx{pc:LA}{t':Nat}{fp:LR}(I:Inv X pc σ H s)(L:∀b∈fp,Xbc X pc H b)
  (k:∀b o,b ∉ fp->s.heap.get? b=yz o->h'.get? b=yz o):Inv X pc σ H Q62:=by
 let aa:∀b u,H b=yz u->b ∉ fp:=λb u e z=>by rw[(L b z).1]at e;cases e
 exact I.step (g':=s.gens) (d':=s.drawn) (ch:=fp) (λb hb=>⟨QJP.2.2.2.1,QJP.2.1,QJP.2.2.2.2.1,QJP.2.2.2.2.2⟩)
  (λb o _ _ B e _=>k b o B e) (λb o _ _ B e _=>⟨o.slots,k b o B e⟩) QHR
  (λb o B e=>⟨o,k b o B e⟩) QTF Q3U QTF QLX QHV I.bare
 ·let⟨o,es,ep,ho,r⟩:=hm;exact⟨o,es,ep,k _ o (λz=>(L _ z).2.1 rfl) ho,r⟩
 ·exact QYW.stay Q0K QRJ λ_ _ _ q=>q;rcases B with z|z;·rw[z];exact aa b u e
  ·calc aa c _ z
theorem SqK(k:Bool)(h:Heap)(a:Addr)(xs:AV):Prop:=match k with
 |true=>h.IsList a xs|false=>h.IsTuple a xs
theorem ItK(k:Bool)(h:Heap)(i a:Addr)(n:Nat):Prop:=match k with
 |true=>h.IsListIter i a n|false=>h.IsTupleIter i a n
theorem SqH(k:Bool)(K:Vh)(H:Hp)(a:Addr)(vs:LW):Prop:=match k with
 |true=>SqL K H a vs|false=>SqT K H a vs
section
variable{k:Bool}{h h':Heap}{a i:Addr}{n:Nat}{xs:AV}
def SqK.at(x:SqK k h a xs)(e:∀o,h.get? a=yz o->h'.get? a=yz o):SqK k h' a xs:=by cases k<;>(let⟨o,B,r⟩:=x;calc Q0V)
def ItK.at(x:ItK k h i a n)(e:∀o,h.get? i=yz o->h'.get? i=yz o):ItK k h' i a n:=by cases k<;>(let⟨o,B,r⟩:=x;calc Q0V)
def SqK.obj(x:SqK k h a xs):∃o,h.get? a=yz o/\(o.cls=.type "list" \/ o.cls=.type "tuple"):=by
 cases k;·let⟨o,e,c,_⟩:=x;exact⟨o,e,.inr c⟩
 ·let⟨o,e,c,_⟩:=x;calc⟨o,e,.inl c⟩
def ItK.obj(x:ItK k h i a n):∃o,h.get? i=yz o/\(o.cls=.type "list_iterator" \/ o.cls=.type "tuple_iterator")/\∀v,o.data≠.cell v:=by
 cases k;·let⟨o,e,c,d⟩:=x;exact⟨o,e,.inr c,λv z=>by rw[d]at z;cases z⟩
 ·let⟨o,e,c,d⟩:=x;calc⟨o,e,.inl c,λv z=>by rw[d]at z;cases z⟩
universe e
def Xe1(I:Inv X pc σ H s)(h:SqH k X.K H a vs):∃its:LV,Vals vs its/\SqK k s.heap a its.toArray:=by
 cases k;·let⟨its,B,p,_⟩:=I.tuple h;exact⟨its,B,show s.heap.IsTuple a its.toArray from p⟩
 ·let⟨its,B,p,_⟩:=I.list h;calc⟨its,B,p.isList⟩
def Xjh(I:Inv X pc σ H s)(h:SqH k X.K H a vs)(h':SqH k X.K H a us):vs=us:=by
 cases k;·exact I.tuple_inj h h'
 ·calc I.list_inj h h'
section
variable{prog:V3}{w:Ua}{A:Uz}{E:VP}{s:Vc}
def X0o(B:s.heap.IsTupleIter it t i)(ht:s.heap.IsTuple t items)(hx:items[i]?=yz x)
  (hQ:∀h',h'.IsTupleIter it t QX2->Vab it s.heap h'->Q x QO):Vg Q5 A QFP Q E s:=by
 let⟨o,L,hc,hd⟩:=id B;let⟨ol,aa,_,nl,ab⟩:=ht;unfold U4;calc Va Q45;show Vg _ _ Q0O _ _ s;calc Va (U8 L hd (x:=.ref t) rfl ?_);show Vg _ _ (if QjH=yx then _ else _) _ _ s;rw[iN0 (show ¬ Qte from V0)];show Vg _ _ QzN _ _ s;calc Va (U8 L hd (x:=.int i 0) rfl ?_);show Vg _ _ QbL _ _ s;calc Va (Vcs aa ab ?_);simp[Vbu,hx];calc Va (wpAny_setField L hd QA (Vd ⟨x,rfl,Vd (hQ _ ⟨_,Vda _ L (Obj.isFreed_of_fields (Obj.data_mapFields hd _)),(Obj.cls_mapFields ..).trans hc,by rw[Obj.data_mapFields hd];simp![U0]⟩ (Vdz ..))⟩))
def X4x(hh:A.handled=yy)(B:s.heap.IsTupleIter it t i)(ht:s.heap.IsTuple t items)(hx:items[i]?=yy)
  (hE:∀h' e,Heap.ExtBut it s.heap h'->QG3->E QD2 QO):Vg Q5 A QFP Q E s:=by
 let⟨o,ho,hc,hd⟩:=id B;let⟨ol,L,_,nl,aa⟩:=ht;unfold U4;calc Va Q45;show Vg _ _ Q0O _ _ s;calc Va (U8 ho hd (x:=.ref t) rfl ?_);show Vg _ _ (if QjH=yx then _ else _) _ _ s;rw[iN0 (show ¬ Qte from V0)];show Vg _ _ QzN _ _ s;calc Va (U8 ho hd (x:=.int i 0) rfl ?_);show Vg _ _ QbL _ _ s;calc Va (Vcs L aa ?_);simp[Vbu,hx];calc Va (Vb3 (Va (wpAny_setField ho hd QA ?_)));show Vg _ _ Q3B _ _ _;calc Va ?_;simp[newExc,newTuple];calc Va QzX;calc Va (m:=Vix _ _) Qh9;calc Val ?_ QKD;simp[raiseNew];exact Va QmO
 first|rw[show A.in1.handled=yy from hh]|rw[hh]
 calc Va (Vd (wpAny_throw (hE _ _ (((Vdz ..).extBut.push _).push _) Q04)))
def nxK(B:ItK k s.heap it t i)(ht:SqK k s.heap t items)(L:items[i]?=yz x)
  (hQ:∀h',ItK k h' it t QX2->Vab it s.heap h'->Q x QO):Vg Q5 A QFP Q E s:=by
 cases k;·exact X0o B ht L hQ
 ·calc wpAny_nextOf_list_item B ht L hQ
def Xo4(hh:A.handled=yy)(B:ItK k s.heap it t i)(ht:SqK k s.heap t items)(L:items[i]?=yy)
  (hE:∀h' e,Heap.ExtBut it s.heap h'->QG3->E QD2 QO):Vg Q5 A QFP Q E s:=by
 cases k;·exact X4x hh B ht L hE
 ·calc wpAny_nextOf_list_end hh B ht L hE
abbrev Xe2(k:Bool):String:=match k with
 |true => "list_iterator"|false => "tuple_iterator"
def Xnz(h:SqK k s.heap a xs)(B:Q QC {s with heap:=s.heap.push Ql }):
  Vg Q5 A QKW Q E s:=by
 cases k;·exact Vgr h B
 ·calc Vfj h B
def Xlk(e:h.get? i=yz Ql):ItK k h i a 0:=by cases k<;>calc⟨_,e,rfl,rfl⟩
universe e
structure ZAp(z I O i j a b:Addr):Prop where
 Iz:I≠z
 Oz:O≠z
 iz:i≠z
 jz:j≠z
 IO:I≠O
 Ii:I≠i
 Ij:I≠j
 Oi:O≠i
 Oj:O≠j
 ij:i≠j
 a_:a≠z/\a≠O/\a≠i/\a≠j
 b_:b≠z/\b≠O/\b≠i/\b≠j
private abbrev IsZ(h:Heap)(z I O:Addr)(f0 f1:Vb):Prop :=
 h.get? z=yz {cls:=.type "zip",dict:=yy,data:=.fields #[f0,f1,.bool yw,.ref I,.ref O],slots:=#[]}
structure ZSa(k1 k2:Bool)(z I O i j a b:Addr)(n m:Nat)(h:Heap):Prop where
 zo:∃f0 f1,IsZ h z I O f0 f1/\QJ8
 io:IsPair h I (.ref i) (.ref j)
 oo:∃x y,IsPair h O x y
 i1:ItK k1 h i a n
 i2:ItK k2 h j b m
section
variable(k1 k2:Bool)(h:Heap)(a b:Addr)
private noncomputable abbrev zp1:Heap:=h.push Q38
private noncomputable abbrev zp2:Heap:=(zp1 k1 h a).push {cls:=.type (Xe2 k2),data:=.fields #[.ref b,.int 0 0]}
private noncomputable abbrev zp3:Heap:=(zp2 k1 k2 h a b).push {cls:=.type "tuple",data:=.seq #[.ref h.objs.size,.ref (zp1 k1 h a).objs.size]}
private noncomputable abbrev zp4:Heap:=(zp3 k1 k2 h a b).push {cls:=.type "tuple",data:=.seq #[.none,.none]}
private noncomputable abbrev zp5:Heap:=(zp4 k1 k2 h a b).push {cls:=.type "zip",data:=.fields #[.none,.bool yw,.bool yw,.ref (zp2 k1 k2 h a b).objs.size,.ref (zp3 k1 k2 h a b).objs.size]}
universe e
def Xw7(k1 k2:Bool)(a b:Addr)(xs ys:AV):Meets (Vbd.«zip.__new__» ⟨[.type "zip",.ref a,.ref b],[]⟩) (λ_ R s=>SqK k1 s.heap a xs/\SqK k2 s.heap b ys/\R (.ok (.ret (.ref (zp4 k1 k2 s.heap a b).objs.size))) {s with heap:=zp5 k1 k2 s.heap a b}):=
 .of_wp λprog w A R s h=>by let⟨L,g,d,tk,os⟩:=s;let⟨h1,h2,h⟩:=h;let B:=sub_zip;let L1:SqK k1 (Shared.heap Q97) a xs:=h1;let L2:SqK k2 (Shared.heap ⟨L.push Q38,g,d,tk,os⟩) b ys:=h2.at λo e=>Vf _ e;wp_walk using Xnz L1,Xnz L2;calc Qa6
def X0p(h1:SqK k1 s.heap a xs)(h2:SqK k2 s.heap b ys)
  (h:∀h',ZSa k1 k2 QyM (s.heap.objs.size+2) (s.heap.objs.size+3) s.heap.objs.size Qi0 a b 0 0 h'->(∀c o,s.heap.get? c=yz o->h'.get? c=yz o)->Q (.ref QyM) QO):
  Vg Q5 A (call (.type "zip") [.ref a,.ref b]) Q E s:=by
 calc callType_new F.called_zip Q1 (F.typeCall_zip_2 _ _) (F.newCall_zip_2 _ _) (λobj=>F.args_object_init_3 obj _ _) F.entry_zip_new (Xw7 k1 k2 a b xs ys) ⟨h1,h2,?_⟩;let z1:(zp1 k1 s.heap a).objs.size=s.heap.objs.size+1:=Vao ..;let B:(zp2 k1 k2 s.heap a b).objs.size=s.heap.objs.size+2:=by rw[Vao,z1]
 let L:(zp3 k1 k2 s.heap a b).objs.size=s.heap.objs.size+3:=by rw[Vao,B]
 let z4:(zp4 k1 k2 s.heap a b).objs.size=s.heap.objs.size+4:=by rw[Vao,L]
 let g5:QY4.get? (zp4 k1 k2 s.heap a b).objs.size=yz _:=Vo _ rfl;let g4:QY4.get? (zp3 k1 k2 s.heap a b).objs.size=yz _:=Vf _ QN3;let g3:QY4.get? (zp2 k1 k2 s.heap a b).objs.size=yz _:=Vf _ QeJ;let g2:QY4.get? (zp1 k1 s.heap a).objs.size=yz _:=Vf _ Q3b;let g1:QY4.get? s.heap.objs.size=yz _:=Vf _ (Vf _ Q3b);show _/\_;rw[B,L,z4]at g5;rw[z1,B]at g3;rw[L]at g4;rw[z1]at g2;rw[z4];calc⟨⟨_,g5,rfl⟩,h _ ⟨⟨_,_,g5,.inl rfl⟩,g3,⟨_,_,g4⟩,Xlk g1,Xlk g2⟩ λc o q=>Vf _ (Vf _ (Vf _ (Vf _ QCP)))⟩
abbrev Itz(K:Vh)(k1 k2:Bool)(a b:Addr):L2.It:=
 ⟨λn H=>∃xs x ys y,SqH k1 K H a xs/\xs[n]?=yz x/\SqH k2 K H b ys/\ys[n]?=yz y,
   λn H v H'=>∃T x y,v=.ref T/\H T=yy/\H'=upd H T QfQ/\(∀xs,SqH k1 K H a xs->xs[n]?=yz x)/\∀ys,SqH k2 K H b ys->ys[n]?=yz y,
   λn H=>∃xs ys,SqH k1 K H a xs/\SqH k2 K H b ys/\(lg xs<=n\/lg ys<=n)⟩
def Xo5{h:Heap}{o u:Obj}{c:Addr}(e:(h.push o).get? c=yz u)(B:c≠h.objs.size):h.get? c=yz u:=by rw[Heap.get?_push_ne h c o B]at e;calc e
section
variable{prog:V3}{w:Ua}{A:Uz}{E:VP}{s:Vc}{k1 k2:Bool}{z I O i j a b:Addr}{f0 f1:Vb}{n:Nat}{xs ys:AV}{x y:Vb}
def Xnd(h:Q (s.heap.get? a) s):Vg M A (loadIfAlive a) Q E s:=λ_ _ _=>h
def Xo6(hz:IsZ s.heap z I O f0 f1)(B:f0=.none\/∃T:Nat,f0=U0 T)(h1:Q' yx s)(h2:∀h' (T:Nat),IsZ h' z I O QGP Q6C->Vab z s.heap h'->Q' yw QO):Vg Q5 A (Vax QD4) Q' E s:=by
 unfold Vax;rcases B with rfl|⟨T,rfl⟩;·exact Va QRD
 ·calc Va QrG;show Vg _ _ QpD _ _ _;calc Va QHe;cases s.heap.get? Q9E with
  |none=>simp[Option.isNone_none,if_true];exact Vd h1|some o=>
   simp[Option.isNone_some,Vs,if_false];calc Va QQI;split;·exact Va (U9 hz QA λg5 e5 L=>Vd (h2 g5 T e5 L))
   ·rename_i B;let:f1=.bool true:=by simpa using B
    subst this;calc Vd (h2 s.heap T hz QEP)
def X4y{Q:VP}(D:ZAp z I O i j a b)(st:ZSa k1 k2 z I O i j a b n n s.heap)(ha:SqK k1 s.heap a xs)(hb:SqK k2 s.heap b ys)(hx:xs[n]?=yz x)(hy:ys[n]?=yz y)
  (hQ:∀h',h'.objs.size=s.heap.objs.size+1->ZSa k1 k2 z I O i j a b QF6 QF6 h'->IsPair h' s.heap.objs.size x y->QV0->Q QC QO):
  Vg Q5 A QLB QHA E s:=by
 let⟨⟨f0,f1,hz,hf⟩,hI,⟨a0,b0,hO⟩,h1,h2⟩:=st;show Vg _ _ Q2O _ _ _;calc Va QcE;show Vg _ _ Q1O _ _ _;calc Va Q99;show Vg _ _ QQT _ _ _;exact Va (Xo6 hz hf ?_ λg1 T z1 L=>?_)
 ·simp[if_true];calc Va (Vb3 (Va (U8 hz rfl (x:=.ref O) rfl (Va (U9 hz QA λg1 z1 L=>?_)))));replace z1:IsZ g1 z I O .ellipsis f1:=z1;calc Va ?_;simp[List.zipIdx_cons,List.zipIdx_nil,Vdl,Vg1];calc Va QN6;show Vg _ _ QV8 _ _ _;calc Va QD3;let o2:IsPair g2 O a0 b0:=c2.extBut _ _ D.Oi (L.extBut _ _ D.Oz hO);calc Va (Vcs o2 rfl (Va (Vie o2 λg3 o3 c3=>?_)));replace o3:IsPair g3 O x b0:=o3;calc Va Q7H;show Vg _ _ QU8 _ _ _;let u3:∀c o,c≠z->c≠O->c≠i->s.heap.get? c=yz o->g3.get? c=yz o:=λc o e1 e2 e3 e=>c3.extBut _ _ e2 (c2.extBut _ _ e3 QPO);calc Va (nxK Q89 Ql8 hy λg4 j4 c4=>Vd ?_);let o4:IsPair g4 O x b0:=c4.extBut _ _ D.Oj o3;calc Va (Vcs o4 rfl (Va (Vie o4 λB o5 c5=>?_)));replace o5:IsPair B O x y:=o5;calc Va (wpAny_letGo (Vd (Vd (Va (Vcs o5 rfl (Va QJW))))));let sz:B.objs.size=s.heap.objs.size:=by rw[c5.1,c4.1,c3.1,c2.1,L.1]
  let z5:IsZ B z I O .ellipsis f1:=c5.extBut _ _ D.Oz.symm (c4.extBut _ _ D.jz.symm Qf7);let u5:∀c o,c≠z->c≠O->c≠i->c≠j->s.heap.get? c=yz o->B.get? c=yz o:=λc o e1 e2 e3 e4 e=>c5.extBut _ _ e2 (c4.extBut _ _ e4 (u3 c o e1 e2 e3 e));let i5:ItK k1 B i a QF6:=i2.at λo e=>c5.extBut _ _ D.Oi.symm (c4.extBut _ _ D.ij (c3.extBut _ _ D.Oi.symm e));let j5:ItK k2 B j b QF6:=j4.at λo e=>c5.extBut _ _ D.Oj.symm e;let aa:z<B.objs.size:=Vz z5;show Vg _ _ (Vco QD4 Qi4 >>= _) _ _ _;calc Va ?_;unfold Vco;calc Va (U9 (Vf _ z5:IsZ (B.push QTC) z I O .ellipsis f1) QA λg7 z7 c7=>?_);replace z7:IsZ g7 z I O QfR f1:=z7;exact U9 z7 QA λg8 z8 c8=>?_;replace z8:IsZ g8 z I O QfR QvJ:=z8;let up:∀c o,c≠z->B.get? c=yz o->g8.get? c=yz o:=λc o e1 e=>c8.extBut _ _ e1 (c7.extBut _ _ e1 QAE);let t8:IsPair g8 B.objs.size x y:=c8.extBut _ _ Qhe (c7.extBut _ _ Qhe QN3);rw[sz]at z8 t8;calc Vd Ql5;show Q Qi4 _;rw[sz];exact hQ g8 (by rw[c8.1,c7.1,Vao,sz]) ⟨⟨_,_,z8,.inr Qe⟩,up _ _ D.Iz (u5 _ _ D.Iz D.IO D.Ii D.Ij hI),⟨_,_,up _ _ D.Oz o5⟩,i5.at λo e=>up _ o D.iz e,j5.at λo e=>up _ o D.jz e⟩ t8 λc o e1 e2 e3 e4 e=>up c o e1 (u5 c o e1 e2 e3 e4 e)
 ·replace L:Vab z s.heap g1:=L;simp[Vs,if_false];rw[show QqT=QdI.toArray from rfl];calc Va ?_;simp[List.forIn_toArray,Vdl,Vg1];calc Va QiF;show Vg _ _ QV8 _ _ _;calc Va QD3;replace c2:Vab i g1 g2:=c2;calc Vd ?_;dsimp;calc Va QiF;show Vg _ _ QU8 _ _ _;let u2:∀c o,c≠z->c≠i->s.heap.get? c=yz o->g2.get? c=yz o:=λc o e1 e3 e=>c2.extBut _ _ e3 QPO;calc Va (nxK Q1C Q6B hy λg4 j4 c4=>Vd ?_);replace c4:Vab j g2 g4:=c4;calc Vd ?_;dsimp;calc Vd ?_;dsimp;show Vg _ _ (newTuple Qm9 >>= _) _ _ _;calc Va QJW;let sz:g4.objs.size=s.heap.objs.size:=by rw[c4.1,c2.1,L.1]
  let z4:IsZ g4 z I O QGP Q6C:=c4.extBut _ _ D.jz.symm (c2.extBut _ _ D.iz.symm z1);let u4:∀c o,c≠z->c≠i->c≠j->s.heap.get? c=yz o->g4.get? c=yz o:=λc o e1 e3 e4 e=>c4.extBut _ _ e4 (u2 c o e1 e3 e);let i4:ItK k1 g4 i a QF6:=i2.at λo e=>c4.extBut _ _ D.ij e;calc Vd Ql5;show Q (.ref g4.objs.size) _;rw[sz];calc hQ _ (by rw[Vao,sz]) ⟨⟨_,_,Vf _ z4,.inr QxA⟩,Vf _ (u4 _ _ D.Iz D.Ii D.Ij hI),⟨_,_,Vf _ (u4 _ _ D.Oz D.Oi D.Oj hO)⟩,i4.at λo e=>Vf _ e,j4.at λo e=>Vf _ e⟩ ?_ λc o e1 _ e3 e4 e=>Vf _ (u4 c o e1 e3 e4 e);let:IsPair (g4.push QTC) g4.objs.size x y:=Vo _ rfl;rw[sz]at this;calc this
def X0q(hh:A.handled=yy)(D:ZAp z I O i j a b)(st:ZSa k1 k2 z I O i j a b n n s.heap)(ha:SqK k1 s.heap a xs)(hb:SqK k2 s.heap b ys)(ab:xs[n]?=yy\/ys[n]?=yy)
  (hE:∀h' e,QV0->QG3->E QD2 QO):
  Vg Q5 A QLB Q E s:=by
 let⟨⟨f0,f1,hz,hf⟩,hI,⟨a0,b0,hO⟩,h1,h2⟩:=st;show Vg _ _ Q2O _ _ _;calc Va QcE;show Vg _ _ Q1O _ _ _;calc Va Q99;show Vg _ _ QQT _ _ _;exact Va (Xo6 hz hf ?_ λg1 T z1 B=>?_)
 ·simp[if_true];calc Va (Vb3 (Va (U8 hz rfl (x:=.ref O) rfl (Va (U9 hz QA λg1 z1 B=>?_)))));replace z1:IsZ g1 z I O .ellipsis f1:=z1;calc Va ?_;simp[List.zipIdx_cons,List.zipIdx_nil,Vdl,Vg1];calc Va QN6;show Vg _ _ QV8 _ _ _;cases hx:xs[n]? with
  |none=>
   calc Va (Xo4 hh QJ3 Qz2 hx λg2 e c2 he=>?_);let⟨oe,L,aa⟩:=he;let z2:IsZ g2 z I O .ellipsis f1:=c2 _ _ D.iz.symm z1;let ez:e≠z:=λq=>by subst q;rw[z2]at L;cases L;simp! at aa
   exact U9 z2 QA λg3 _ c3=>hE g3 e (λc o e1 _ e3 _ q=>c3.extBut _ _ e1 (c2 _ _ e3 QRO)) ⟨oe,c3.extBut _ _ ez L,aa⟩|some x=>
   let hy:ys[n]?=none:=by rcases ab with q|q;rw[hx]at q;cases q;exact q
   calc Va QID;let o2:IsPair g2 O a0 b0:=c2.extBut _ _ D.Oi (B.extBut _ _ D.Oz hO);calc Va (Vcs o2 rfl (Va (Vie o2 λg3 o3 c3=>Va Q7H)));show Vg _ _ QU8 _ _ _;let u3:∀c o,c≠z->c≠O->c≠i->s.heap.get? c=yz o->g3.get? c=yz o:=λc o e1 e2 e3 e=>c3.extBut _ _ e2 (c2.extBut _ _ e3 QSO);calc Va (Xo4 hh Q89 Ql8 hy λg4 e c4 he=>?_);let⟨oe,L,aa⟩:=he;let z4:IsZ g4 z I O .ellipsis f1:=c4 _ _ D.jz.symm Qf7;let ez:e≠z:=λq=>by subst q;rw[z4]at L;cases L;simp! at aa
   exact U9 z4 QA λg5 _ c5=>hE g5 e (λc o e1 e2 e3 e4 q=>c5.extBut _ _ e1 (c4 _ _ e4 (u3 c o e1 e2 e3 q))) ⟨oe,c5.extBut _ _ ez L,aa⟩
 ·replace B:Vab z s.heap g1:=B;simp[Vs,if_false];rw[show QqT=QdI.toArray from rfl];calc Va ?_;simp[List.forIn_toArray,Vdl,Vg1];calc Va QiF;show Vg _ _ QV8 _ _ _;cases hx:xs[n]? with
  |none=>exact Va (Xo4 hh QJ3 Qz2 hx λg2 e c2 he=>hE g2 e (λc o e1 _ e3 _ q=>c2 _ _ e3 QRO) he)|some x=>
   let hy:ys[n]?=none:=by rcases ab with q|q;rw[hx]at q;cases q;exact q
   calc Va QID;replace c2:Vab i g1 g2:=c2;calc Vd ?_;dsimp;calc Va QiF;show Vg _ _ QU8 _ _ _;let u2:∀c o,c≠z->c≠i->s.heap.get? c=yz o->g2.get? c=yz o:=λc o e1 e3 e=>c2.extBut _ _ e3 QSO;calc Va (Xo4 hh Q1C Q6B hy λg4 e c4 he=>hE g4 e (λc o e1 _ e3 e4 q=>c4 _ _ e4 (u2 c o e1 e3 q)) he)
def ZSa.ty(st:ZSa k1 k2 z I O i j a b n n s.heap):s.TypeIs QD4 "zip":=let ⟨_,_,q,_⟩:=st.zo;QTY
def X0r(D:ZAp z I O i j a b)(st:ZSa k1 k2 z I O i j a b n n s.heap)(B:SqK k1 s.heap a xs)(hb:SqK k2 s.heap b ys)(L:xs[n]?=yz x)(hy:ys[n]?=yz y)
  (hQ:∀h',ZSa k1 k2 z I O i j a b QF6 QF6 h'->IsPair h' s.heap.objs.size x y->QV0->Q QRf QO):
  Vg Q5 A Qyc Q E s:=by
 unfold Vdx;calc Va (Vds (Vat (name:=Vcb "__next__") st.ty Vif (Uv Vif st.ty F.entry_zip_next (X4y D st B hb L hy λh' _ q1 q2 q3=>Vd (hQ h' q1 q2 q3)) QNM)))
def X0s(hh:A.handled=yy)(D:ZAp z I O i j a b)(st:ZSa k1 k2 z I O i j a b n n s.heap)(L:SqK k1 s.heap a xs)(hb:SqK k2 s.heap b ys)(B:xs[n]?=yy\/ys[n]?=yy)
  (hQ:∀h',QV0->Q yy QO):Vg Q5 A Qyc Q E s:=by
 unfold Vdx;calc Va (Vds (Vat (name:=Vcb "__next__") st.ty Vif (Uv Vif st.ty F.entry_zip_next (X0q hh D st L hb B λh' e hk he=>?_) QNM)));let⟨o,ho,hc⟩:=he;calc Va (Vfw (T:="StopIteration") (b:=yx) QiE isSubtype_stop (Vd (hQ _ hk)))
def X8x(hz:∃f0 f1,IsZ s.heap z I O f0 f1/\QJ8)(B:∀h',(∃f0 f1,IsZ h' z I O f0 f1/\QJ8)->Vab z s.heap h'->Q () QO):
  Vg Q5 A (Vdg QJN QD4 QsG) Q E s:=by
 let⟨f0,f1,hz,L⟩:=hz;unfold Vdg;calc Va QhZ;show Vg _ _ (if (QW.contains "zip" && (#[f0,f1,.bool yw,.ref I,.ref O]:AV)[0]?==yz QGP)=yx then _ else _) Q E s;split;·calc Va QOW;show Vg _ _ (setField QD4 0 .none) Q E s;exact U9 hz QA λh' z' c'=>B h' ⟨_,_,z',.inl rfl⟩ c'
 ·calc Vd (B s.heap ⟨f0,f1,hz,L⟩ QEP)
def Xo7(hz:IsZ s.heap z I O f0 f1)(h:Q QD4 s):Vg Q5 A (Vfl QD4) Q E s:=by let ty:s.TypeIs QD4 "zip" := ⟨_,hz,rfl⟩;calc Vhb ty F.slot_zip_iter (Uv F.slot_zip_iter ty F.entry_zip_iter (show Vg _ _ (ret QD4) _ _ s from Vd ⟨_,rfl,"zip",_,ty,F.slot_zip_next.lookup,h⟩) (F.args_zip_iter_1 _))
universe e
def ZSa.at{k1 k2:Bool}{z I O i j a b:Addr}{n m:Nat}(x:ZSa k1 k2 z I O i j a b n m h)(k:∀c∈QcD,∀o,h.get? c=yz o->h'.get? c=yz o):ZSa k1 k2 z I O i j a b n m h':=
 ⟨let ⟨f0,f1,q,r⟩:=x.zo;⟨f0,f1,k z QA _ q,r⟩,k I QA _ x.io,let ⟨p,q,e⟩:=x.oo;⟨p,q,k O QA _ e⟩,x.i1.at λo e=>k i QA o e,x.i2.at λo e=>k j QA o e⟩
def ZSa.some{k1 k2:Bool}{z I O i j a b:Addr}{n m:Nat}(x:ZSa k1 k2 z I O i j a b n m h):∀c∈QcD,∃o,h.get? c=yz o/\∀v,o.data≠.cell v:=λc B=>by
 simp[Vr,Va5,or_false]at B;rcases B with e|e|e|e|e<;>subst e
 ·let⟨f0,f1,q,_⟩:=x.zo;exact⟨_,q,λv q=>nomatch q⟩
 ·exact⟨_,x.io,λv q=>nomatch q⟩
 ·let⟨p,q,e⟩:=x.oo;exact⟨_,e,λv q=>nomatch q⟩
 ·let⟨o,e,_,d⟩:=x.i1.obj;exact Qib
 let⟨o,e,_,d⟩:=x.i2.obj;calc Qib
def X0t{P:V3}{w:Ua}{K:Vh}{es:LX}{x0:Nat}{tp:Pos}{k1 k2:Bool}{z I O i j a b:Addr}(D:ZAp z I O i j a b):
  Turn P w K QzQ QZQ QcD z (λn h=>ZSa k1 k2 z I O i j a b n n h) where
 mem:=by simp!
 obj:=λn h st c B=>st.some c B
 keep:=λn h h' st k=>st.at k
 item:=by
  intro X hP hw hK B n pc s σ H E J hf st hg;subst hP hw hK;let⟨xs,x,ys,y,q1,hx,q2,hy⟩:=hg;let⟨af,ab,p1⟩:=Xe1 J q1;let⟨ae,ac,p2⟩:=Xe1 J q2;let⟨u1,aj,al⟩:=ab.get hx;let⟨u2,ak,ai⟩:=ac.get hy;let hT:H s.heap.objs.size=none:=J.hok.fresh Qd;let ah:∀c∈QcD,c≠s.heap.objs.size:=λc B=>by let⟨o,e,_⟩:=st.some c B;exact Ul QgF
  exact X0r D st p1 p2 (x:=u1) (y:=u2) (by simpa using aj) (by simpa using ak) λh' L pr kp=>⟨_,rfl,X8x L.zo λh2 z2 c2=>?_⟩;let J1:Inv X pc σ QN5 QxF:=J.laid (t':=s.toks) (λc o e=>Vf _ e) Qd ⟨by show 2<=V8;decide,[u1,u2],.cons al (.cons ai .nil),QK2⟩;let ag:∀c∈QcD,Xbc X pc QN5 c:=λc B=>⟨by rw[Xe (ah c B)];calc QwO.1,QwO.2⟩;let J2:Inv X pc σ QN5 Q24:=Xhx (s:=QxF) (h':=h2) (t':=s.toks) J1 ag λc o B e=>by
   simp[Vr,Va5,or_false,not_or]at B;calc c2.extBut _ _ B.1 ?_;by_cases q:c=s.heap.objs.size;·subst q;let e':=(Vo s.heap (o:=Qr4) rfl).symm.trans e;rw[<-e'];exact pr
   ·exact kp c o B.1 B.2.2.1 B.2.2.2.1 B.2.2.2.2 (Xo5 e q)
  calc⟨.ref s.heap.objs.size,_,J2,rfl,⟨s.heap.objs.size,x,y,rfl,hT,rfl,λzs hz=>?_,λzs hz=>?_⟩,?_,λc B=>(ag c B).1⟩;·rw[Xjh J hz q1];exact hx
  ·rw[Xjh J hz q2];exact hy
  let aa:∀c o,c≠z->h'.get? c=yz o->h2.get? c=yz o:=λc o e1 e=>c2.extBut _ _ e1 e;exact⟨z2,aa _ _ D.Iz L.io,let ⟨p,q,e⟩:=L.oo;⟨p,q,aa _ _ D.Oz e⟩,L.i1.at λo e=>aa _ o D.iz e,L.i2.at λo e=>aa _ o D.jz e⟩
 done:=by
  intro X hP hw hK B n pc s σ H E J hf st hg;subst hP hw hK;let⟨xs,ys,q1,q2,hl⟩:=hg;let⟨af,ab,p1⟩:=Xe1 J q1;let⟨ae,ac,p2⟩:=Xe1 J q2;let l1:=ab.length;let l2:=ac.length;exact X0s Q1a D st p1 p2 ?_ λh' kp=>⟨rfl,Xhx (t':=s.toks) J hf λc o B e=>?_⟩
  ·rcases hl with hl|hl;·exact .inl QZ3
   ·exact .inr QZ3
  simp[Vr,Va5,or_false,not_or]at B;exact kp c o B.1 B.2.2.1 B.2.2.2.1 B.2.2.2.2 e
 self:=λ_ _ _ _ _ st h=>let ⟨_,_,q,_⟩:=st.zo;Xo7 q h
private abbrev Xd2(h:Heap)(e it:Addr)(i:Int)(f0 f1 B:Vb):Prop :=
 h.get? e=yz {cls:=.type "enumerate",dict:=yy,data:=.fields #[f0,f1,.ref it,U0 i,.none,B],slots:=#[]}
theorem EnA(h:Heap)(e it:Addr)(i:Int):Prop:=∃f0 f1 B,Xd2 h e it i f0 f1 B/\(f0=.none\/∃a:Nat,f0=U0 a)
structure NSt(k:Bool)(e it a:Addr)(n:Nat)(h:Heap):Prop where
 eo:EnA h e it n
 io:ItK k h it a n
section
variable{prog:V3}{w:Ua}{A:Uz}{E:VP}{s:Vc}{k:Bool}{e it a:Addr}{n:Nat}{xs:AV}{x:Vb}
def X8y{i:Int}{f0 f1 B:Vb}{Q':Bool->Vc->Prop}(hz:Xd2 s.heap e it i f0 f1 B)(hf:f0=.none\/∃a:Nat,f0=U0 a)(h1:Q' yx s)(h2:∀h' (f:Vb),EnA h' e it i->Vab e s.heap h'->Q' yw QO):Vg Q5 A (Vax QD2) Q' E s:=by
 unfold Vax;rcases hf with rfl|⟨T,rfl⟩;·exact Va QRD
 ·calc Va QrG;show Vg _ _ QpD _ _ _;calc Va QHe;cases s.heap.get? Q9E with
  |none=>simp[Option.isNone_none,if_true];exact Vd h1|some o=>
   simp[Option.isNone_some,Vs,if_false];calc Va QQI;split;·exact Va (U9 hz QA λg5 e5 L=>Vd (h2 g5 f1 ⟨_,_,_,e5,.inr QxA⟩ L))
   ·calc Vd (h2 s.heap f1 ⟨_,_,_,hz,.inr QxA⟩ QEP)
def X4z{hp g4:Heap}{g d tk os}{i:Int}{f0 f1 B:Vb}{T:Addr}{Q:Fin->Vc->Prop}(e4:Xd2 g4 e it i f0 f1 B)
  (hQ:∀L,EnA L e it i->(∀b o,b≠e->g4.get? b=yz o->L.get? b=yz o)->Q (.done (.ret QsG)) Q97):
  Vg Q5 A (do
   rule "enumerate.__next__.owned-tuple-again"
   let B <- field QD2 5
   setField QD2 5 x
   Vco QD2 QsG
   letGo [B] [.ref T]
   ret QsG) Q E ⟨g4,g,d,tk,os⟩:=by
 calc Va (Vb3 (Va (U8 e4 rfl (x:=B) rfl (Va (U9 e4 QA λg5 e5 c5=>?_)))));replace c5:Vab e g4 g5:=c5;replace e5:Xd2 g5 e it i f0 f1 x:=e5;calc Va ?_;unfold Vco;calc Va (U9 e5 QA λg6 e6 c6=>?_);replace c6:Vab e g5 g6:=c6;replace e6:Xd2 g6 e it i QGP f1 x:=e6;calc U9 e6 QA λL e7 c7=>?_;replace c7:Vab e g6 L:=c7;replace e7:Xd2 L e it i QGP QvJ x:=e7;calc Va (wpAny_letGo (Vd (hQ L ⟨_,_,_,e7,.inr QxA⟩ λb o h1 q=>c7.extBut b o h1 (c6.extBut b o h1 (c5.extBut b o h1 q)))))
def X0u{Q:VP}(L:e≠it)(he:EnA s.heap e it n)(hi:ItK k s.heap it a n)(ha:SqK k s.heap a xs)(hx:xs[n]?=yz x)
  (hQ:∀h',EnA h' e it Qf8->ItK k h' it a QF6->h'.get? s.heap.objs.size=yz Q09 ->
   Qw6->Q QC Qi6):
  Vg Q5 A (Vbd.«enumerate.__next__» ⟨[.ref e],[]⟩) QHA E s:=by
 let⟨f0,f1,B,he,hf⟩:=he;let⟨hp,g,d,tk,os⟩:=s;show Vg _ _ Q3O _ _ _;calc Va (U8 he rfl (x:=.ref it) rfl (Va (nxK hi ha hx λg1 i1 c1=>?_)));replace c1:Vab it hp g1:=c1;let e1:Xd2 g1 e it n f0 f1 B:=(c1.2 e L).trans he;show Vg _ _ (field QD2 3 >>= _) _ _ QZ9;calc Va (U8 e1 rfl (x:=U0 n) rfl ?_);show Vg _ _ (field QD2 4 >>= _) _ _ QZ9;calc Va (U8 e1 rfl (x:=.none) rfl ?_);show Vg _ _ (mkInt n >>= _) _ _ QZ9;calc Va (wpAny_mkInt ?_);show Vg _ _ (setField QD2 3 (U0 Qf8) >>= _) _ _ ⟨g1,g,d,tk+1,os⟩;calc Va (U9 e1 QA λg2 e2 c2=>?_);replace c2:Vab e g1 g2:=c2;replace e2:Xd2 g2 e it Qf8 f0 f1 B:=e2;show Vg _ _ (setField QD2 4 .none >>= _) _ _ ⟨g2,g,d,tk+1,os⟩;calc Va (U9 e2 QA λg3 e3 c3=>?_);replace c3:Vab e g2 g3:=c3;replace e3:Xd2 g3 e it Qf8 f0 f1 B:=e3;show Vg _ _ (newTuple [.int n tk,x] >>= _) _ _ ⟨g3,g,d,tk+1,os⟩;calc Va QJW;let e4:Xd2 (g3.push Qr3) e it Qf8 f0 f1 B:=Vf _ e3;generalize q4:g3.push Qr3=g4 at e4;let sz:g3.objs.size=hp.objs.size:=by rw[c3.1,c2.1,c1.1]
 let el:e<hp.objs.size:=Vz he;let t4:g4.get? hp.objs.size=yz Qr3:=by rw[<-q4,<-sz];exact Vo _ rfl
 let k4:∀b o,b≠e->b≠it->hp.get? b=yz o->g4.get? b=yz o:=λb o h1 h2 hb=>by rw[<-q4];exact Vf _ (c3.extBut b o h1 (c2.extBut b o h1 (c1.extBut b o h2 hb)))
 let i4:ItK k g4 it a QF6:=i1.at λo q=>by rw[<-q4];exact Vf _ (c3.extBut _ _ QmH (c2.extBut _ _ QmH q))
 show Vg _ _ (Vax QD2 >>= _) _ _ ⟨g4,g,d,tk+1,os⟩;rw[sz];clear q4 e3 c3 e2 c2 e1 c1 i1 sz g3 g2 g1;let fin:∀g7,EnA g7 e it Qf8->(∀b o,b≠e->g4.get? b=yz o->g7.get? b=yz o)->∃v,(Fin.done (.ret Qa8))=.done QgW/\Q v ⟨g7,g,d,tk+1,os⟩:=λg7 e7 up=>⟨_,rfl,hQ g7 e7 (i4.at λo q=>up _ o QmH q) (up _ _ (Vc5 el) t4) λb o h1 h2 hb=>up b o h1 (k4 b o h1 h2 hb)⟩;calc Va (X8y e4 hf ?_ λg5 f5 e5 c5=>?_);·simp[if_true];exact X4z (hp:=hp) e4 fin
 ·simp[Vs,if_false];calc Vd (fin g5 e5 λb o h1 q=>c5.extBut b o h1 q)
def X0v(L:e≠it)(B:EnA s.heap e it n)(hi:ItK k s.heap it a n)(ha:SqK k s.heap a xs)(hx:xs[n]?=yz x)
  (hQ:∀h',EnA h' e it Qf8->ItK k h' it a QF6->h'.get? s.heap.objs.size=yz Q09 ->
   Qw6->Q QRf Qi6):Vg Q5 A Qzc Q E s:=by
 let hT:s.TypeIs QD2 "enumerate":=by let⟨f0,f1,aa,B,_⟩:=B;exact Q98
 unfold Vdx;calc Va (Vds (Vat (name:=Vcb "__next__") hT Vfo (Uv Vfo hT F.entry_enumerate_next (X0u L B hi ha hx λh' q1 q2 q3 q4=>Vd (hQ h' q1 q2 q3 q4)) QoH)))
def X0w(hh:A.handled=yy)(B:EnA s.heap e it n)(hi:ItK k s.heap it a n)(ha:SqK k s.heap a xs)(hx:xs[n]?=yy)
  (hQ:∀h',Heap.ExtBut it s.heap h'->Q yy QO):Vg Q5 A Qzc Q E s:=by
 let⟨f0,f1,ab,B,_⟩:=B;let hT:s.TypeIs QD2 "enumerate" := Q98;unfold Vdx;calc Va (Vds (Vat (name:=Vcb "__next__") hT Vfo (Uv Vfo hT F.entry_enumerate_next ?_ QoH)));show Vg _ _ Q3O _ _ _;calc Va (U8 B rfl (x:=.ref it) rfl (Va (Xo4 hh hi ha hx λh' x L aa=>?_)));let⟨o,ho,hc⟩:=aa;calc Va (Vfw (T:="StopIteration") (b:=yx) QiE isSubtype_stop (Vd (hQ _ L)))
def X8z(hz:EnA s.heap e it i)(L:∀h',EnA h' e it i->Vab e s.heap h'->Q () QO):
  Vg Q5 A (Vdg QJN QD2 QsG) Q E s:=by
 let⟨f0,f1,B,hz,hf⟩:=hz;unfold Vdg;calc Va QhZ;show Vg _ _ (if (QW.contains "enumerate" && (#[f0,f1,.ref it,U0 i,.none,B]:AV)[0]?==yz QGP)=yx then _ else _) Q E s;split;·calc Va QOW;show Vg _ _ (setField QD2 0 .none) Q E s;exact U9 hz QA λh' z' c'=>L h' ⟨_,_,_,z',.inl rfl⟩ c'
 ·calc Vd (L s.heap ⟨f0,f1,B,hz,hf⟩ QEP)
universe e
def Xo8(L:EnA s.heap e it i)(h:Q QD2 s):Vg Q5 A (Vfl QD2) Q E s:=by let⟨f0,f1,B,q,_⟩:=L;let ty:s.TypeIs QD2 "enumerate" := QTY;exact Vhb ty F.slot_enumerate_iter (Uv F.slot_enumerate_iter ty F.entry_enumerate_iter (show Vg _ _ (ret QD2) _ _ s from Vd ⟨_,rfl,"enumerate",_,ty,F.slot_enumerate_next.lookup,h⟩) (F.args_enumerate_iter_1 _))
open AutoSeq1 (wpAny_loadPart')
abbrev X80(k:Bool):String:=match k with
 |true => "list"|false => "tuple"
def X0x(k:Bool)(a:Addr)(xs:AV)(n:Nat)(dct:Option Addr)(sl:Array OV):Meets (Vbd.«enumerate.__new__» ⟨[.type "enumerate",.ref a],[]⟩) (λ_ R s=>s.heap.get? a=yz Qc7 /\
   R (.ok (.ret (.ref (s.heap.push Ql).objs.size))) {s with heap:=QR7.push Qm0 }):=
 .of_wp λprog w A R s h=>by
  let⟨hp,g,d,tk,os⟩:=s;let⟨hl,h⟩:=h;let B:=sub_enumerate;let L:SqK k (Shared.heap ⟨hp,g,d,tk,os⟩) a xs:=by cases k<;>exact⟨_,hl,rfl,n,rfl⟩
  wp_walk using Vc0 hl;exact wpAny_stack_any λst=>Vd ?_;split;·rename_i c _ _ _ _ _;cases (c==Vce "enumerate")<;>(wp_walk using Vc0 hl,Xnz L;calc Qa6)
  ·wp_walk using Vc0 hl,Xnz L;calc Qa6
def X40(L:SqK k s.heap a xs)
  (h:∀h',NSt k Qi0 s.heap.objs.size a 0 h'->QD0->Q QqJ QO):
  Vg Q5 A (call (.type "enumerate") QVC) Q E s:=by
 obtain⟨n,dct,sl,hl⟩:∃n dct sl,s.heap.get? a=yz Qc7:=by cases k<;>(let⟨⟨c,dct,dt,sl⟩,hl,hc,n,hd⟩:=L;cases hc;cases hd;calc⟨n,dct,sl,hl⟩)
 calc callType_new F.called_enumerate Q1 (F.typeCall_enumerate_1 _) (F.newCall_enumerate_1 _) (λobj=>F.args_object_init_2 obj _) F.entry_enumerate_new (X0x k a xs n dct sl) ⟨hl,?_⟩;let hz:(s.heap.push Ql).objs.size=s.heap.objs.size+1:=Vao ..;show _/\_;rw[hz];let B:Xd2 (QR7.push Qm0) Qi0 s.heap.objs.size 0 .none QvJ .none:=by let:=Vo QR7 (o:=Qm0) rfl;rw[hz]at this;exact this
 calc⟨Q98,h _ ⟨⟨_,_,_,B,.inl rfl⟩,Xlk QeJ⟩ λb o q=>Vf _ QCP⟩
abbrev Ite(K:Vh)(k:Bool)(a:Addr):L2.It:=
 ⟨λn H=>∃xs x,SqH k K H a xs/\xs[n]?=yz x,
   λn H v H'=>∃T x,v=.ref T/\H T=yy/\H'=upd H T (.tup Qkd)/\∀xs,SqH k K H a xs->xs[n]?=yz x,
   λn H=>∃xs,SqH k K H a xs/\QL<=n⟩
def NSt.at(x:NSt k e it a n h)(q:∀c∈Q7V,∀o,h.get? c=yz o->h'.get? c=yz o):NSt k e it a n h':=
 ⟨let ⟨f0,f1,old,z,r⟩:=x.eo;⟨f0,f1,old,q e QA _ z,r⟩,x.io.at λo z=>q it QA o z⟩
def NSt.some(x:NSt k e it a n h):∀c∈Q7V,∃o,h.get? c=yz o/\∀v,o.data≠.cell v:=λc B=>by
 simp[Vr,Va5,or_false]at B;rcases B with z|z<;>subst z
 ·let⟨f0,f1,L,z,_⟩:=x.eo;exact⟨_,z,λv q=>nomatch q⟩
 let⟨o,z,_,d⟩:=x.io.obj;calc⟨o,z,d⟩
def X41{P:V3}{w:Ua}{K:Vh}{es:LX}{x0:Nat}{tp:Pos}{k:Bool}{e it a:Addr}(L:e≠it):
  Turn P w K QzQ Q2a Q7V e (λn h=>NSt k e it a n h) where
 mem:=by simp!
 obj:=λn h st c B=>st.some c B
 keep:=λn h h' st q=>st.at q
 item:=by
  intro X hP hw hK B n pc s σ H E J hf st hg;subst hP hw hK;let⟨xs,x,q1,hx⟩:=hg;let⟨its,rv,p⟩:=Xe1 J q1;let⟨u,hu,ru⟩:=rv.get hx;let hT:H s.heap.objs.size=none:=J.hok.fresh Qd;let aa:∀c∈Q7V,c≠s.heap.objs.size:=λc B=>by let⟨o,z,_⟩:=st.some c B;exact Ul (Vz z)
  exact X0v L st.eo st.io p (x:=u) Q0E λh' ac ae pr kp=>⟨_,rfl,X8z ac λh2 e2 c2=>?_⟩;let J1:Inv X pc σ QI4 QyF:=J.laid (t':=s.toks) (λc o z=>Vf _ z) Qd ⟨by show 2<=V8;decide,[.int n s.toks,u],.cons Qe Q2I,QK2⟩;let ab:∀c∈Q7V,Xbc X pc QI4 c:=λc B=>⟨by rw[Xe (aa c B)];calc QwO.1,QwO.2⟩;let J2:Inv X pc σ QI4 {s with heap:=h2,toks:=s.toks+1}:=Xhx (s:=QyF) (h':=h2) (t':=s.toks+1) J1 ab λc o B z=>by
   simp[Vr,Va5,or_false,not_or]at B;calc c2.extBut _ _ B.1 ?_;by_cases q:c=s.heap.objs.size;·subst q;let z':=(Vo s.heap (o:=QK3) rfl).symm.trans z;rw[<-z'];exact pr
   ·exact kp c o B.1 B.2 (Xo5 z q)
  calc⟨.ref s.heap.objs.size,_,J2,rfl,⟨s.heap.objs.size,x,rfl,hT,rfl,λzs hz=>?_⟩,?_,λc B=>(ab c B).1⟩;·rw[Xjh J hz q1];exact hx
  ·exact⟨e2,ae.at λo z=>c2.extBut _ _ QmH z⟩
 done:=by intro X hP hw hK B n pc s σ H E J hf st hg;subst hP hw hK;let⟨xs,q1,hl⟩:=hg;let⟨its,rv,p⟩:=Xe1 J q1;let l1:=rv.length;exact X0w Q1a st.eo st.io p QZ3 λh' kp=>⟨rfl,Xhx (t':=s.toks) J hf λc o B z=>?_⟩;simp[Vr,Va5,or_false,not_or]at B;exact kp c o B.2 z
 self:=λ_ _ _ _ _ st h=>Xo8 st.eo h
abbrev Itd(lo:Int)(n:Nat):L2.It where
 go:=λi _=>i<n
 yld:=λi H x H'=>H'=H/\x=.int (lo-i)
 stop:=λi _=>n<=i
section
variable{X:Cx}{pc:LA}{σ:L2.St}{H:Hp}{s:Vc}{ρ:LR}
def Xj8{P:V3}{w:Ua}:∀ {ks:LI} {us:LV},Vals Q8U us->ItemsAre QPT ks us
 |[],_,r=>by rw[Vgk]at r;cases r;exact .nil|k::ks,_,r=>by
  rw[Uh]at r;cases r with
  |cons h t=>let⟨B,rfl⟩:=h;calc .cons (by simp![Vbj,Value.isInt]) (Xj8 t)
def Xll(I:Inv X pc σ H s)(h:SqT X.K H b QeV):(tupleKind QeR).is s.heap k b:=by let⟨its,r,⟨o,e,c,n,dt⟩,_⟩:=I.tuple h;calc⟨o,its.toArray,n,e,c,dt,by simpa using Xj8 r⟩
def X3j:∀ {ds:LD} {ks:LI},Xf ds=yz ks->ds=ks.map D.int
 |[],ks,h=>by cases h;rfl|.int i::r,ks,h=>by simp[Xf,Ug]at h;let⟨B,h1,rfl⟩:=h;rw[X3j h1];rfl|.non::r,ks,h=>by cases h|.bl _::r,ks,h=>by cases h|.str _::r,ks,h=>by cases h|.tup _::r,ks,h=>by cases h|.ref _::r,ks,h=>by cases h|.fro _::r,ks,h=>by cases h|.fn _ _::r,ks,h=>by cases h|.edc::r,ks,h=>by cases h
def X81{K:Vh}(h:Xf ds=yz ks)(r:RD K ρ H QKE v):∃b,v=.ref b/\SqT K H b Q8U:=by simp[RD]at r;let⟨b,vs,rfl,h1,h2⟩:=r;rw[X3j h]at h2;rw[RDs.ints_of h2]at h1;calc⟨b,rfl,h1⟩
universe e
abbrev Itx(a:Addr)(o:Obj)(xs:List QH5):L2.It:=
 ⟨λi H=>QoP/\i<lg xs,
   λi H v H'=>∃T p,xs[i]?=yz p/\v=.ref T/\H T=yy/\H'=upd H T (.tup [.ref p.2.1,p.2.2]),
   λi H=>QoP/\QL<=i⟩
section
variable{X:Cx}{pc:LA}{σ:L2.St}{H:Hp}{s:Vc}{ρ:LR}{S S':Sto}{env:En}{Q:VP}{E:VP}{a b c e tg iter:Expr}{f:En->Sto->R D}{pos:Pos}
theorem DG(X:Cx)(tg:Expr)(t:Tg):Prop:=
 ∀(pc:LA) (s:Vc) (σ:L2.St) (H:Hp) (ρ:LR) (S:Sto) (env:En) (d:D) (v:V) (u:Vb) (B:En) (Q:Unit->Vc->Prop) (E:VP),S0 X pc σ H s ρ S env->Xx t d env=yz B->RD X.K ρ H d v->RelV v u ->
  (∀s' L,S0 X pc L H s' ρ S B->Q () s')->Vg Q3 X.A (assign tg X.env u) Q E s
def X42(hN:X.N.Nodup)(hi:X.N[i]?=yz x)(L:Loc X.env.scope x)(hf:X.fn x=yx\/X.env.scope.names.lookup x=yz .local):DG X Q28 QJ1:=by intro pc s σ H ρ S env d v u B Q E I h rd rv hQ;simp[Xx,Vx]at h;subst h;calc Vjh (Xcj I.inv hN hi L rv (λs' I'=>hQ s' _ ⟨I',I.sr,I.er.set i rd⟩) hf)
abbrev gNs:LN->TGs
 |[]=>X75|i::is=>X3c Qcg QlV
def Xw8:∀(is:LN) (vs:LW) (σ:L2.St) (H:Hp) (Q:L2.St->Hp->Prop),lg is=lg vs->Q QXI H->gNs is vs σ H Q
 |[],vs=>fun σ H Q hl h=>by
  let:vs=[]:=by simpa using hl.symm
  subst this;calc QfP|i::is,[]=>fun σ H Q hl h=>by simp! at hl|i::is,v::vs=>fun σ H Q hl h=>⟨v,vs,rfl,Xw8 is vs _ H Q Q1E h⟩
def ER.sets{K:Vh}:∀(is:LN) (ds:LD) (vs:LW) (env:En) (σ:L2.St),RDs K ρ H ds vs->ER K ρ H env σ->ER K ρ H Qg8 QXI
 |[],ds=>λvs env σ r e=>by simpa using e|i::is,[]=>λvs env σ r e=>by simp[RDs]at r;subst r;simpa using e|i::is,d::ds=>λvs env σ r e=>by simp[RDs]at r;let⟨v,B,rfl,h1,h2⟩:=r;calc ER.sets is ds B _ _ h2 (e.set i h1)
def X82(hc:X.calm=yx)(h:∀E,PGs QT4 es QlV)(hn:Qi3.length=lg is)(aa:Qi3.findIdx? Qb=yy):DG X Q0R QJE:=by
 intro pc s σ H ρ S env d v u ab Q E I hd rd rv hQ;cases d with
 |tup ds=>
  simp[Xx]at hd;split at hd
  ·rename_i hl;cases hd;simp[RD]at rd;let⟨a,vs,rfl,hs,hr⟩:=rd;let L:QdS=lg vs:=by rw[hl,hr.length]
   exact thn (X76 (X:=X.wish E) (n:=lg is) hc (h E) hn aa pc s σ H Qt u (λB H'=>H'=H/\B=(is.zip vs).foldl Qu0 σ) QjC rv ⟨a,vs,rfl,hs,L.symm,Xw8 is vs σ H _ L QG0⟩) λ_ s' zz=>?_;let⟨B,H',J,e1,e2⟩:=zz;subst e1 e2;exact hQ s' _ ⟨J.unwish,I.sr,ER.sets is ds vs env σ hr I.er⟩
  cases hd|_=>cases hd
def Xw9:∀(is:LN) (xs:List QTQ),X.N.Nodup->lg is=lg xs->(∀(j i:Nat) (x:Str×Pos),is[j]?=yz i->xs[j]?=yz x->X.N[i]?=yz x.1/\Loc X.env.scope x.1/\Qw7) ->
  PGs X Qs3 QlV
 |[],xs=>λ_ hl _=>by
  let:xs=[]:=by simpa using hl.symm
  subst this;calc X4j|i::is,[]=>λ_ hl _=>by simp! at hl|i::is,x::xs=>λhN hl h=>by let⟨h1,h2,L⟩:=h 0 i x rfl rfl;calc X0b (X4i hN h1 h2 L) (Xw9 is xs hN Q1E λj B x' e1 e2=>h QwC B x' (by simpa using e1) (by simpa using e2)) rfl
def Xj9:∀(xs:List QTQ) (env:Vb4),QNW.length=lg xs/\QNW.findIdx? Qb=yy
 |[]=>λenv=>QG0|x::xs=>λenv=>by let h:=Xj9 xs env;let e:Vb8 (QMA.map λx=>Expr.Name x.1 x.2) env=(yw,assign (.Name x.1 x.2) env)::Vb8 Qs3 env:=rfl;rw[e];calc⟨by simp![h.1],?_⟩;rw[List.findIdx?_cons];simp![h.2]
theorem SrcK(K:Vh)(ρ:LR)(H:Hp):Src->Bool->Addr->Prop
 |.con xs,yw,a=>∃vs,SqT K H a vs/\RDs K ρ H xs vs|.con xs,yx,a=>∃vs,FrL K H a vs/\RDs K ρ H xs vs|.ref n,yx,a=>ρ[n]?=yz a|_,_,_=>False
def SrcK.mono'{K:Vh}{ρ':LR}{H':Hp}{src:Src}{k:Bool}{a:Addr}(x:Mon K ρ ρ' H H')(h:SrcK K ρ H src k a):SrcK K ρ' H' src k a:=by
 cases src with
 |con xs=>cases k with
  |false=>let⟨vs,h1,h2⟩:=h;calc⟨vs,x.tup _ _ h1,RDs.mono' x _ _ h2⟩|true=>let⟨vs,h1,h2⟩:=h;calc⟨vs,x.fro _ _ h1,RDs.mono' x _ _ h2⟩
 |ref n=>cases k with
  |false=>calc h.elim|true=>calc x.pre _ _ h
 |zpp _ _=>calc h.elim|enm _=>calc h.elim
def SrcK.get{src:Src}{k:Bool}{a:Addr}{i:Nat}{o:Option D}(h:SrcK X.K ρ H src k a)(I:S0 X pc σ H s ρ S env)(g:src.get S i=yz o):∃vs,SqH k X.K H a vs/\match o with
  |some d=>∃v,vs[i]?=yz v/\RD X.K ρ H d v|none=>lg vs<=i:=by
 cases src with
 |con xs=>
  obtain⟨vs,h1,h2⟩:∃vs,SqH k X.K H a vs/\RDs X.K ρ H xs vs:=by
   cases k with
   |false=>exact h|true=>let⟨vs,h1,h2⟩:=h;exact⟨vs,h1.sq,h2⟩
  simp[Src.get,Vx]at g;calc⟨vs,h1,?_⟩;cases o with
  |some d=>calc h2.get g|none=>let:=h2.none g;rw[U3]at this;calc this
 |ref n=>cases k with
  |false=>exact h.elim|true=>
   simp[Src.get,Ug]at g;let⟨xs,g1,g2⟩:=g;let⟨a',vs,k1,k2,B⟩:=I.list g1;let h':ρ[n]?=yz a:=h;rw[h']at k1;cases k1;calc⟨vs,.of k2,?_⟩;cases o with
   |some d=>calc B.get g2|none=>let:=B.none g2;rw[U3]at this;calc this
 |zpp _ _=>calc h.elim|enm _=>calc h.elim
inductive SrcR(K:Vh)(ρ:LR)(H:Hp):Src->L2.It->Prop where
 |tup {a:Addr} {xs:LD} {vs:LW}:SqT K H a vs->RDs K ρ H xs vs->SrcR K ρ H Q7A QDd
 |rng (lo:Int) (n:Nat):SrcR K ρ H (.con (QCT.map λ(k:Nat)=>D.int QAc)) QBb
 |lst {n:Nat} {a:Addr}:ρ[n]?=yz a->SrcR K ρ H QM1 QbT
 |frl {a:Addr} {xs:LD} {vs:LW}:FrL K H a vs->RDs K ρ H xs vs->SrcR K ρ H Q7A QbT
 |zpp {s1 s2:Src} {k1 k2:Bool} {a b:Addr}:SrcK K ρ H s1 k1 a->SrcK K ρ H s2 k2 b->SrcR K ρ H (.zpp s1 s2) QZQ
 |dwn (lo:Int) (n:Nat):SrcR K ρ H (.con (QCT.map λ(k:Nat)=>D.int (lo-k))) (Itd lo n)
 |enm {s1:Src} {k:Bool} {a:Addr}:SrcK K ρ H s1 k a->SrcR K ρ H (.enm s1) Q2a
 |dic {a:Addr} {o:Obj} {u:HO} {kvs:List QHF} {xs:List QH5}:H a=yz QT1->DX K ρ H kvs xs->SrcR K ρ H (.con (kvs.map X8e)) (Itx a o xs)
def X3k{K:Vh}{ρ:LR}{H:Hp}:∀ {kvs:List QHF} {xs:List QH5} {i:Nat} {p:LI×D},DX K ρ H kvs xs->kvs[i]?=yz p->∃q,xs[i]?=yz q/\p.1=q.1/\SqT K H q.2.1 QWB/\RD K ρ H p.2 q.2.2
 |_,_,i,_,.nil,h=>by simp! at h|_,_,0,_,.cons r _,h=>by simp! at h;subst h;calc QML|_,_,i+1,_,.cons _ t,h=>by let⟨q,h1,h2⟩:=X3k (i:=i) t Q72;calc⟨q,by simpa using h1,h2⟩
def SrcR.mono'{K:Vh}{ρ':LR}{H':Hp}{src:Src}{J:L2.It}(x:Mon K ρ ρ' H H')(h:SrcR K ρ H src J):SrcR K ρ' H' src J:=by
 cases h with
 |tup h1 h2=>calc .tup (x.tup _ _ h1) QBN|rng lo n=>calc .rng lo n|lst h=>calc .lst (x.pre _ _ h)|frl h1 h2=>calc .frl (x.fro _ _ h1) QBN|zpp h1 h2=>calc .zpp QdX (h2.mono' x)|dwn lo n=>calc .dwn lo n|enm h1=>calc .enm QdX|dic h1 h2=>calc .dic (x.frz _ _ _ h1) (h2.mono x)
def SrcR.mono{K:Vh}{ρ':LR}{H':Hp}{src:Src}{J:L2.It}(x:Stp K ρ ρ' H H')(h:SrcR K ρ H src J):SrcR K ρ' H' src J:=h.mono' x.toMon
def Xso{s1 s2:Src}{i:Nat}{o:Option D}(g:(Src.zpp s1 s2).get S i=yz o):∃B L,s1.get S i=yz B/\s2.get S i=yz L/\match o with
  |some d=>∃x y,B=yz x/\L=yz y/\d=.tup Qm9|none=>B=yy\/L=none:=by
 simp[Src.get]at g;split at g;·rename_i x y e1 e2;cases g;exact⟨_,_,e1,e2,x,y,rfl,rfl,rfl⟩
 ·rename_i B L hn e1 e2;cases g;calc⟨B,L,e1,e2,?_⟩;cases B with
  |none=>exact .inl rfl|some x=>
   cases L with
   |none=>exact .inr rfl|some y=>exact(hn x y rfl rfl).elim
 ·cases g
def Xsp(g:(Src.enm s1).get S i=yz o):∃B,s1.get S i=yz B/\match o with
  |some d=>∃x,B=yz x/\d=.tup Qld|none=>B=none:=by
 simp[Src.get]at g;split at g;·rename_i x e1;cases g;exact⟨_,e1,x,rfl,rfl⟩
 ·rename_i L;calc⟨o,g,?_⟩;cases o with
  |none=>rfl|some x=>calc(L x g).elim
def SrcR.go(h:SrcR X.K ρ H src J)(I:S0 X pc σ H s ρ S env)(g:src.get S i=yz QZC):
  J.go i H/\∀x H',J.yld i H x H'->SR X.K QY1 ρ S H'/\Stp X.K ρ ρ H H'/\RD X.K ρ H' d x:=by
 cases h with
 |@tup a xs vs h1 h2=>simp[Src.get,Vx]at g;let⟨v,e1,e2⟩:=h2.get g;calc⟨⟨vs,v,h1,e1⟩,λx H' y=>?_⟩;let⟨rfl,y⟩:=y;let:=y vs h1;rw[e1]at this;cases this;exact QaD|rng lo n=>
  simp[Src.get,Vx]at g;rw[Ud]at g;let hi:i<n:=by
   by_cases hi:i<n;·exact hi
   ·rw[Va2 Qr0]at g;cases g
  rw[Vc3 hi]at g;simp[Vaa,Vx]at g;subst g;calc QPN;let⟨rfl,rfl⟩:=y;calc QDI|@lst n a h=>simp[Src.get,Ug]at g;let⟨xs,g1,g2⟩:=g;let⟨a',vs,k1,k2,k3⟩:=I.list g1;rw[h]at k1;cases k1;let⟨v,e1,e2⟩:=k3.get g2;calc⟨⟨vs,v,.of k2,e1⟩,λx H' y=>?_⟩;let⟨rfl,y⟩:=y;let:=y vs QiW;rw[e1]at this;cases this;calc QaD|@frl a xs vs h1 h2=>simp[Src.get,Vx]at g;let⟨v,e1,e2⟩:=h2.get g;calc⟨⟨vs,v,h1.sq,e1⟩,λx H' y=>?_⟩;let⟨rfl,y⟩:=y;let:=y vs h1.sq;rw[e1]at this;cases this;exact QaD|@zpp s1 s2 k1 k2 a b h1 h2=>let⟨o1,o2,g1,g2,x,y,rfl,rfl,rfl⟩:=Xso g;let⟨vs,L,v,e1,r1⟩:=h1.get I g1;let⟨us,q2,u,e2,r2⟩:=h2.get I g2;calc⟨⟨vs,v,us,u,L,e1,q2,e2⟩,λw H' yd=>?_⟩;let⟨T,v',u',rfl,hT,rfl,z1,z2⟩:=yd;let B:=z1 vs L;let aa:=z2 us q2;rw[e1]at B;cases B;rw[e2]at aa;cases aa;let st:Stp X.K ρ ρ H (upd H T (.tup QGf)):=Stp.upd hT;calc QyA;simp[RD];exact⟨T,QGf,rfl,.of Xu,.cons QTX (.cons (r2.mono st) .nil)⟩|dwn lo n=>
  simp[Src.get,Vx]at g;rw[Ud]at g;let hi:i<n:=by
   by_cases hi:i<n;·exact hi
   ·rw[Va2 Qr0]at g;cases g
  rw[Vc3 hi]at g;simp[Vaa,Vx]at g;subst g;calc QPN;let⟨rfl,rfl⟩:=y;calc QDI|@enm s1 k a h1=>let⟨o1,g1,x,rfl,rfl⟩:=Xsp g;let⟨vs,L,v,e1,r1⟩:=h1.get I g1;calc⟨⟨vs,v,L,e1⟩,λw H' yd=>?_⟩;let⟨T,v',rfl,hT,rfl,z1⟩:=yd;let B:=z1 vs L;rw[e1]at B;cases B;let st:Stp X.K ρ ρ H (upd H T (.tup Qmd)):=Stp.upd hT;calc QyA;simp[RD];calc⟨T,Qmd,rfl,.of Xu,.cons Q92 (.cons QTX .nil)⟩|@dic a o u kvs xs h1 h2=>simp[Src.get,Vx,Ud,Ug]at g;let⟨p,g1,rfl⟩:=g;let⟨q,L,q2,q3,q4⟩:=X3k h2 g1;calc⟨⟨Qgd,QBM.1⟩,λw H' yd=>?_⟩;let⟨T,q',e1,rfl,hT,rfl⟩:=yd;rw[L]at e1;cases e1;let st:Stp X.K ρ ρ H (upd H T (.tup [.ref q.2.1,q.2.2])):=Stp.upd hT;calc QyA;unfold X8e;rw[RD];calc⟨T,_,rfl,.of Xu,.cons ?_ (.cons (q4.mono st) .nil)⟩;rw[RD];calc⟨_,_,rfl,st.tup _ _ q3,.ints _⟩
def SrcR.stop(h:SrcR X.K ρ H src J)(I:S0 X pc σ H s ρ S env)(g:src.get S i=yz yy):J.stop i H:=by
 cases h with
 |@tup a xs vs h1 h2=>simp[Src.get,Vx]at g;calc⟨vs,h1,by let:=h2.none g;rw[U3]at this;calc this⟩|rng lo n=>simp[Src.get,Vx]at g;rw[U3]at g;show n<=i;simpa using g|@lst n a h=>simp[Src.get,Ug]at g;let⟨xs,g1,g2⟩:=g;let⟨a',vs,k1,k2,k3⟩:=I.list g1;rw[h]at k1;cases k1;calc⟨vs,.of k2,by let:=k3.none g2;rw[U3]at this;calc this⟩|@frl a xs vs h1 h2=>simp[Src.get,Vx]at g;exact⟨vs,h1.sq,by let:=h2.none g;rw[U3]at this;calc this⟩|@zpp s1 s2 k1 k2 a b h1 h2=>
  let⟨o1,o2,g1,g2,L⟩:=Xso g;let⟨vs,q1,B⟩:=h1.get I g1;let⟨us,q2,r2⟩:=h2.get I g2;calc⟨vs,us,q1,q2,?_⟩;rcases L with e|e<;>subst e
  ·exact .inl B
  calc .inr r2|dwn lo n=>simp[Src.get,Vx]at g;rw[U3]at g;show n<=i;simpa using g|@enm s1 k a h1=>let⟨o1,g1,L⟩:=Xsp g;let⟨vs,q1,B⟩:=h1.get I g1;cases L;calc⟨vs,q1,B⟩|@dic a o u kvs xs h1 h2=>simp[Src.get,Vx,Ud,Option.map_eq_none_iff,U3]at g;calc⟨Qgd,by rw[<-Paired.length h2];calc g⟩
theorem ItP(X:Cx)(pc:LA)(σ:L2.St)(ρ:LR)(H:Hp)(tg:Expr)(r:R Src)(B:Vb)(s2:Vc):Prop:=
 ∃src S' it fp tn J H' ρ',r=.ok src S'/\B=.ref it/\Inv X pc σ H' s2/\Turn X.prog X.w X.K tg J fp it tn/\tn 0 s2.heap/\QfI/\SrcR X.K ρ' H' src J/\SR X.K QY1 ρ' S' H'/\Stp X.K ρ ρ' H H'
def ItP.pre{B:LR}{H1:Hp}{r:R Src}{L:Vb}{s2:Vc}(h:ItP X pc σ B H1 tg r L s2)(st:Stp X.K ρ B H H1):ItP X pc σ ρ H tg r L s2:=by let⟨src,S2,it,fp,tn,J,H2,aa,z1,z2,z3,z4,z5,z6,z7,z8,z9⟩:=h;calc⟨src,S2,it,fp,tn,J,H2,aa,z1,z2,z3,z4,z5,z6,z7,z8,st.trans z9⟩
theorem DI(X:Cx)(tg iter:Expr)(f:En->Sto->R Src):Prop:=
 ∀(pc:LA) (s:Vc) (σ:L2.St) (H:Hp) (ρ:LR) (S:Sto) (env:En) (E:VP),S0 X pc σ H s ρ S env->f env S≠.bad->(∀x s',ExP X pc σ ρ H QE0 x s'->E x s') ->
  Vg Q3 X.A Q3F (λv B=>Vg Q3 X.A (Vfl v) (ItP X pc σ ρ H tg QE0) E B) E s
def X83(he:DE X iter f):DI X tg iter (λenv S=>QE0.bind λx S=>match Yg S x with|some r=>.ok r S|none=>.bad):=by
 intro pc s σ H ρ S env E I nb hE;dsimp at nb hE |-;cases q:f env S with
 |bad=>rw[q]at nb;cases nb rfl|ex n S1=>rw[q]at hE;exact he.ex I q λx s' z=>hE x s' QH0|ok d S1=>
  rw[q]at nb;simp[Rk0]at nb |-;calc he.ok I q λu L v H1 aa B rv rd ab=>?_;cases d with
  |tup xs=>
   simp[RD]at rd;let⟨a,vs,rfl,h1,h2⟩:=rd;cases rv;let⟨its,ac,p,hz⟩:=B.inv.tuple h1;calc Vgr (show L.heap.IsTuple a its.toArray from p) ?_;calc⟨_,S1,L.heap.objs.size,QpE,_,_,H1,aa,rfl,rfl,B.inv.kept (t':=L.toks) λb o e=>Vf _ e,Xuh a _,Qt1,λb hb=>?_,.tup h1 h2,B.sr,ab⟩;let e:b=L.heap.objs.size:=by simpa using hb
   subst e;exact B.inv.fpOk Qd QPC|ref n=>
   cases e1:lstAt S1 n with
   |none=>simp![Yg,e1]at nb|some xs=>
    let⟨a,vs,k1,k2,k3⟩:=B.list e1;simp[RD]at rd;let⟨a',rfl,k4⟩:=rd;rw[k1]at k4;cases k4;cases rv;let⟨its,ac,p,hz⟩:=B.inv.list QiW;calc Vfj p.isList ?_;calc⟨.ref n,S1,L.heap.objs.size,QpE,_,_,H1,aa,by simp![Yg,e1],rfl,B.inv.kept (t':=L.toks) λb o e=>Vf _ e,Xm0 a _,Qt1,λb hb=>?_,.lst k1,B.sr,ab⟩;let e:b=L.heap.objs.size:=by simpa using hb
    subst e;calc B.inv.fpOk Qd QPC
  |non=>simp![Yg]at nb|bl _=>simp![Yg]at nb|int _=>simp![Yg]at nb|str _=>simp![Yg]at nb|fro xs=>
   simp[RD]at rd;let⟨a,vs,rfl,h1,h2⟩:=rd;cases rv;let⟨its,ac,p,hz⟩:=B.inv.list h1.sq;calc Vfj p.isList ?_;calc⟨_,S1,L.heap.objs.size,QpE,_,_,H1,aa,rfl,rfl,B.inv.kept (t':=L.toks) λb o e=>Vf _ e,Xm0 a _,Qt1,λb hb=>?_,.frl h1 h2,B.sr,ab⟩;let e:b=L.heap.objs.size:=by simpa using hb
   subst e;calc B.inv.fpOk Qd QPC|fn _ _=>simp![Yg]at nb|edc=>simp![Yg]at nb
def Xxa{tk:Nat}{lo hi:Int}{ds:LD}(I:S0 X pc σ H s ρ S env)(h1:-QLP<=lo)(h2:lo<2^62)(h3:-QLP<=hi)(h4:hi<2^62)(B:ds=QPU.map λ(k:Nat)=>D.int QAc):
  Vg Q3 X.A Qbe (ItP X pc σ ρ H tg (.ok QgM S)) E QK5:=by
 calc thn (X0c (X:=X.wish E) (tg:=tg) (R:=λJ H'=>J=Itr lo QMH.toNat/\H'=H) QjC h1 h2 h3 h4 QG0) λaa s2 z=>?_;let⟨it,fp,tn,J,H',e1,L,T,t0,fo,e2,e3⟩:=z;subst e2 e3;calc⟨_,S,it,fp,tn,_,H',ρ,rfl,e1,L.unwish,T,t0,fo,by rw[B];calc .rng _ _,I.sr,.refl⟩
def X43{ds:LD}(h:Xbe ds≠yy):(∃j,ds=QER):=by
 unfold Xbe at h;split at h;·exact Qe
 ·cases h rfl
def X84 {es:LX} {g:En->Sto->R (LD)} (hg:Gl X "range") (hm:X.mg "range"=yy) (ha:DA X QU7 g) (hs:Uf QU7 X.env=QU2::Uf es X.env) (L:QQ0.any Qb=yw):
  DI X tg (.Call Q1R QU7 [] pos) (λenv S=>QW5.bind λxs S=>match Xbe xs with|some ds=>.ok QgM S|none=>.bad):=by
 intro pc s σ H ρ S env E I B hE;dsimp at B hE |-;calc Call_ (Ye I.inv hg hm boot_range (Vaf ?_ hs L));cases q:g env S with
 |bad=>rw[q]at B;cases B rfl|ex n S1=>rw[q]at hE;exact ha.ex I q λx s' z=>hE x s' QH0|ok ds S1=>
  rw[q]at B;simp[Rk0]at B |-;exact ha.ok I q λus s1 vs H1 ab I1 rv rd aa=>?_;let fin:∀ {tk:Nat} {lo hi:Int} {t u v:Tok} {xs:LD},-QLP<=lo->lo<2^62->-QLP<=hi->hi<2^62->xs=QPU.map (λ(k:Nat)=>D.int QAc) ->
    Vg Q3 X.A (Vfl QpJ) (ItP X pc σ ρ H tg (.ok Q7A S1)) E {s1 with heap:=s1.heap.push QJ,toks:=tk}:=λh1 h2 h3 h4 h5=>
   Vp (Xxa I1 h1 h2 h3 h4 h5) (λ_ _ z=>z.pre aa) λ_ _ z=>z
  let nr:Xbe ds≠none:=λz=>B QCe;let⟨j,rfl⟩:=X43 nr
  ·simp[Xbe]at B |-;by_cases hz:-QY8<j/\j<1048576
   ·rw[iP0 hz]at B |-;simp[RDs]at rd;let⟨v,r,rfl,r1,rfl⟩:=rd;simp[RD]at r1;subst r1;cases rv with
    |cons q1 q2=>cases q2;let⟨t,rfl⟩:=q1;calc call_range_1 (fin Q0 Q0 Q0 Q0 ?_);simp!
   rw[iN0 hz]at B;cases B rfl
def Xuu(I:S0 X pc σ H s ρ S env)(e:Yg S d=yz src)(B:RD X.K ρ H d v)(rv:RelV v u):∃k a vs,u=.ref a/\SqH k X.K H a vs/\SrcK X.K ρ H src k a:=by
 cases d with
 |tup xs=>let L:yz Q1Y=yz src:=e;cases L;simp[RD]at B;let⟨a,vs,rfl,h1,h2⟩:=B;cases rv;exact⟨yw,a,vs,rfl,h1,vs,h1,h2⟩|ref n=>
  cases e1:lstAt S n with
  |none=>simp![Yg,e1]at e|some xs=>simp[Yg,e1,Vaa,Vx]at e;subst e;let⟨a,vs,k1,k2,k3⟩:=I.list e1;simp[RD]at B;let⟨a',rfl,k4⟩:=B;rw[k1]at k4;cases k4;cases rv;calc⟨yx,a,vs,rfl,.of k2,k1⟩
 |fro xs=>let L:yz Q1Y=yz src:=e;cases L;simp[RD]at B;let⟨a,vs,rfl,h1,h2⟩:=B;cases rv;calc⟨yx,a,vs,rfl,h1.sq,vs,h1,h2⟩|_=>cases e
def X44{n a b:Nat}(h1:a<n)(h2:b<n):ZAp (n+4) (n+2) (n+3) n QF6 a b:=by constructor<;>(try calc⟨?_,?_,?_,?_⟩)<;>(intro z;first|omega|(let B:(_:Nat)=_:=z;omega))
def X85{n b:Nat}(h:b∈[n+4,n+2,n+3,n,n+1]):n<=b:=by simp[Vr,Va5,or_false]at h;omega
def Xsq{k:Bool}{a:Addr}{vs:LW}(I:Inv X pc σ H s)(h:SqH k X.K H a vs):a<s.heap.objs.size:=by let⟨its,_,q⟩:=Xe1 I h;let⟨o,e,_⟩:=q.obj;calc Vz e
def X86 {es:LX} {g:En->Sto->R (LD)} {sx sy:Src} (hg:Gl X "zip") (hm:X.mg "zip"=yy) (ha:DA X QU7 g) (hs:Uf QU7 X.env=QU2::Uf es X.env) (aa:QQ0.any Qb=yw) (I:S0 X pc σ H s ρ S env) (q:g env S=.ok Qm9 S1) (e1:Yg S1 x=yz sx) (e2:Yg S1 y=yz sy)
  (hQ:∀B h' H1 L k1 k2 b1 b2,S0 X pc σ H1 B L S1 env->ZAp QQC QFN QEN B.heap.objs.size QGN b1 b2->ZSa k1 k2 QQC QFN QEN B.heap.objs.size QGN b1 b2 0 0 h'->SrcK X.K L H1 sx k1 b1->SrcK X.K L H1 sy k2 b2->Stp X.K ρ L H H1->(∀c o,B.heap.get? c=yz o->h'.get? c=yz o)->Q (.ref QQC) {B with heap:=h' }):
  Vg Q3 X.A (eval QWD X.env) Q E s:=by
 calc Call_ (Ye I.inv hg hm (u:=.type "zip") Q8 (Vaf (ha.ok I q λus B vs H1 L I1 rv rd ab=>?_) hs aa));simp[RDs]at rd;let⟨v1,r1,rfl,ac,v2,r2,rfl,ae,rfl⟩:=rd;cases rv with
 |cons q1 q2=>
  cases q2 with
  |cons q3 q4=>cases q4;let⟨k1,b1,w1,rfl,m1,c1⟩:=Xuu I1 e1 ac q1;let⟨k2,b2,w2,rfl,m2,c2⟩:=Xuu I1 e2 ae q3;let⟨ag,_,p1⟩:=Xe1 I1.inv m1;let⟨af,_,p2⟩:=Xe1 I1.inv m2;calc X0p p1 p2 λh' zs kp=>hQ B h' H1 L k1 k2 b1 b2 I1 (X44 (Xsq I1.inv m1) (Xsq I1.inv m2)) zs c1 c2 ab kp
def X87 {x0:Nat} {ts es:LX} {g:En->Sto->R (LD)} (hg:Gl X "zip") (hm:X.mg "zip"=yy) (ha:DA X QU7 g) (hs:Uf QU7 X.env=QU2::Uf es X.env) (aa:QQ0.any Qb=yw):
  DI X QyQ QWD (λenv S=>QW5.bind λxs S=>match xs with
   |Qm9=>match Yg S x,Yg S y with
    |some s,yz t=>.ok QdQ S|_,_=>.bad
   |_=>.bad):=by
 intro pc s σ H ρ S env E I B hE;dsimp at B hE |-;cases q:g env S with
 |bad=>rw[q]at B;cases B rfl|ex n S1=>rw[q]at hE;exact Call_ (Ye I.inv hg hm (u:=.type "zip") Q8 (Vaf (ha.ex I q λx s' z=>hE x s' QH0) hs aa))|ok ds S1=>
  rw[q]at B;simp[Rk0]at B |-;match ds,q,B with
  |[],q,B=>cases B rfl|[_],q,B=>cases B rfl|_::_::_::_,q,B=>cases B rfl|Qm9,q,B=>
   cases e1:Yg S1 x with
   |none=>simp[e1]at B;cases B rfl|some sx=>
    cases e2:Yg S1 y with
    |none=>simp[e1,e2]at B;cases B rfl|some sy=>
     exact X86 hg hm ha hs aa I q e1 e2 λL h' H1 ae k1 k2 b1 b2 I1 za zs c1 c2 ac kp=>let ⟨_,_,zq,_⟩:=zs.zo;Xo7 zq ?_
     calc⟨.zpp sx sy,S1,_,[L.heap.objs.size+4,L.heap.objs.size+2,L.heap.objs.size+3,L.heap.objs.size,L.heap.objs.size+1],_,_,H1,ae,by simp[e1,e2],rfl,I1.inv.kept (t':=L.toks) kp,X0t za,zs,λb hb=>?_,.zpp c1 c2,I1.sr,ac⟩;let ab:L.heap.objs.size<=b:=X85 hb;calc I1.inv.fpOk ab (I1.inv.hok.fresh ab)
def X88 (hg:Gl X "enumerate") (hm:X.mg "enumerate"=yy) (ha:DA X QU7 g) (hs:Uf QU7 X.env=QU2::Uf es X.env) (ab:QQ0.any Qb=yw):
  DI X QyQ (.Call QlM QU7 [] pos) (λenv S=>QW5.bind λxs S=>match xs with
   |[x]=>match Yg S x with
    |some s=>.ok QuW S|none=>.bad
   |_=>.bad):=by
 intro pc s σ H ρ S env E I B hE;dsimp at B hE |-;calc Call_ (Ye I.inv hg hm (u:=.type "enumerate") Q8 (Vaf ?_ hs ab));cases q:g env S with
 |bad=>rw[q]at B;cases B rfl|ex n S1=>rw[q]at hE;exact ha.ex I q λx s' z=>hE x s' QH0|ok ds S1=>
  rw[q]at B;simp[Rk0]at B |-;calc ha.ok I q λus s1 vs H1 ae L rv rd ac=>?_;match ds,rd,B with
  |[],rd,B=>cases B rfl|_::_::_,rd,B=>cases B rfl|[x],rd,B=>
   cases e1:Yg S1 x with
   |none=>simp[e1]at B;cases B rfl|some sx=>
    simp[RDs]at rd;let⟨v1,r1,rfl,af,rfl⟩:=rd;cases rv with
    |cons q1 q2=>
     cases q2;let⟨k1,b1,w1,rfl,m1,c1⟩:=Xuu L e1 af q1;let⟨ag,_,p1⟩:=Xe1 L.inv m1;exact X40 p1 λh' ns kp=>by
      calc Xo8 ns.eo ?_;let J:Inv X pc σ H1 QkP:=L.inv.kept (t':=s1.toks) kp;calc⟨.enm sx,S1,_,[s1.heap.objs.size+1,s1.heap.objs.size],_,_,H1,ae,by simp[e1],rfl,J,X41 (λz=>by let z':(_:Nat)=_:=z;omega),ns,λb hb=>?_,.enm c1,L.sr,ac⟩;let aa:s1.heap.objs.size<=b:=by simp[Vr,Va5,or_false]at hb;rcases hb with z|z<;>(let z':(_:Nat)=_:=z;omega)
      calc L.inv.fpOk aa (L.inv.hok.fresh aa)
def Xka{a:Addr}{o:Obj}{u:HO}(I:Inv X pc σ H s)(mu:Mut (H a))(ho:s.heap.get? a=yz o)(B:H a=yz u)(hk:u=.dK []\/(∃ L,u=.ext L)\/∃vs,u=.lst vs):Inv X pc σ (upd H a QT1) s:=by
 calc I.write (x:=a) (e:=a) (h':=s.heap) (t':=s.toks) mu QJ0 (λb w hb z=>z) QyR ⟨ho,?_⟩;rcases hk with rfl|⟨L,rfl⟩|⟨vs,rfl⟩;·exact(show ObjOk X.prog X.w H s.heap a Q57 from I.hok a _ B)
 ·exact(show ObjOk X.prog X.w H s.heap a (.ext L) from I.hok a _ B)
 calc(show ObjOk X.prog X.w H s.heap a Q93 from I.hok a _ B)
def DSs.ok{st:LM}{na:Bool}{g:En->Sto->R Fl}{Q:Flow->Vc->Prop}(h:DSs X st na g)(I:S0 X pc σ H s ρ S env)(r:g env S=.ok x S')(B:∀fl s',FlP X pc σ ρ H na S' s' x fl->Q fl s'):
  Vg Q3 X.A QQR Q E s:=by
 exact Vp (h pc s σ H ρ S env I (by rw[r];calc λz=>nomatch z)) Q4H λx s' z=>?_;·let⟨y,S1,e,z⟩:=z;rw[r]at e;cases e;exact B fl s' z
 ·let⟨n,S1,_,e,_⟩:=z;rw[r]at e;cases e
def S0.rep(I:S0 X pc σ H s ρ S env)(J:Inv X pl σ H s):S0 X pl σ H s ρ S env:=⟨J,I.sr,I.er⟩
def X89{pl:LA}{σ B:L2.St}{ρ ρ':LR}{H H':Hp}{s:Vc}{x:Vb}{n:Nat}{r:R Fl}(ae:X.stack=X.env::X.outer)(hf:X.env.frame=yz X.env.locals)(st:Stp X.K ρ ρ' H H')(h:XPd X Qyd B ρ' H' n S' x s)(e:r=.ex n S'):
  notedBy Q3 X.A X.env (cameBackBy Q3 X.A X.env QdK) x s:=by
 let⟨H2,ab,a,c,J,rfl,hn,hc,sr,st2,fl⟩:=h.pre st;let⟨C,_,ha⟩:=(show ∃C,Xac X.K c=yz C/\H2 a=yz Qq1 from sr.ob n a _ hn hc);let J':Inv X pc B H2 s:=J.pins_of λp hp=>J.pin p (Vag _ (Vbk _ hp));let ac:Fly X pc H2 a s.heap:=by
  rcases fl with fl|⟨f,hf,tr⟩;·exact .inl fl
  ·exact .inr ⟨f,hf,tr.imp λT QZ0=>⟨h1,λp hp=>h2 p (by
    rcases Um.mp hp with z|z;·exact Vbk _ z
    ·calc Vag _ Q1d)⟩⟩
 exact Xjg J' ae hf ha ac λl h2 a0 hid L hh up=>?_;let⟨k1,k2,k3,oe,vs,T,oT,ts,t1,⟨t2,t3⟩,t4,t5,t6,t7,t8,t9,aa⟩:=hh;let J2:Inv X pc B H2 Q24:=Inv.fly J' ha hid L k1 up Qp4;let nT:T ∉ frs X.stack:=λhm=>by let⟨_,o,e,nd⟩:=J2.stack.mem hm;let e':h2.get? T=yz o:=e;rw[t8]at e';cases e';exact nd ts t9
 let hT:∀o,s.heap.get? T=yz o->T∈l:=λo e=>by
  by_cases hm:T∈l;·exact hm
  ·rw[Ve0 l e hm]at t6;cases t6
 let nw:Xlj X pc T:=by
  cases q:s.heap.get? T with
  |some o=>exact L T (hT o q) t7 nT|none=>
   exact QTN
   ·by_cases hx:T∈X.ex;·exact .inl hx
    ·cases w:X.s₀.heap.get? T with
     |none=>exact .inr rfl|some o=>let⟨o',e⟩:=J'.base.there T o w hx;rw[q]at e;cases e
   let:=(J'.pin p hp).1;rw[z,q]at this;cases this
 let hH:H2 T=none:=by
  cases q:H2 T with
  |none=>rfl|some u=>
   let⟨o',e1⟩:=Xc7 (J'.hok T u q);rcases hid.of T Q6Q with z|z|⟨z,_⟩;·exact aB0 z t7
   ·exact aB0 z nT
   rw[z]at q;cases q
 let fin:ExS X pc σ ρ H yw r Qt Q24:=
  ⟨n,S',B,e,QY3,H2,ab,a,c,J2,rfl,hn,hc,sr,st2,.inr ⟨_,.inr rfl,oe,vs,T,oT,ts,t1,t4,t5,nw,t7,hH,t8,t9,aa⟩⟩
 show Vg _ _ (do {if (<-field Qt 1) == .none then {Vd7 _};setFlight Qt X.env.frame}) _ _ _;calc Va Q3J;rw[iN0 (show ¬ ((U1 T==Vbz)=yx) from by simp!)];let step:Vg Q3 X.A (setFlight Qt X.env.frame) (λ_ s2=>ExS X pc σ ρ H yw r Qt s2) QdK Q24:=by rw[hf];unfold setFlight;calc Va Q3J;rw[iP0 (show(U1 T != Vbz)=yx from by simp!)];calc wpAny_setField (s:=Q24) t8 t9 (Vad.mp aa).1 ?_;rw[show((yz X.env.locals).elim Vbz λf=>U0 f)=U0 X.env.locals from rfl,Heap.update_setField_same h2 T oT ts 3 _ t8 t9 aa];exact fin
 first
  |calc Va (Vd step)|calc step
inductive ForI(X:Cx)(pc:LA)(fp:LR)(tn:Nat->Heap->Prop)(src:Src)(J:L2.It)(t:Tg)(g:En->Sto->R Fl)(ρ:LR)(H:Hp)(r0:R Fl)(n:Nat)(s':Vc):Prop
 |mk (i:Nat) (σ':L2.St) (H':Hp) (ρ':LR) (S':Sto) (env':En) (h1:S0 X pc σ' H' s' ρ' S' env') (h2:tn i s'.heap) (h3:∀b∈fp,H' b=yy) (h4:SrcR X.K ρ' H' src J) (h5:Stp X.K ρ ρ' H H') (h6:Y0 src.get t g n i env' S'≠.bad) (h7:Y0 src.get t g n i env' S'=r0)
def Xxb{X:Cx}{tg:Expr}{it:Addr}{pc:LA}{fp:LR}{tn:Nat->Heap->Prop}{src:Src}{J:L2.It}{t:Tg}{g:En->Sto->R Fl}{ρ L aa:LR}{H H3 H5 H7:Hp}{r0:R Fl}{n i:Nat}{S7:Sto}{s5 s7:Vc}{ae:L2.St}{B:En}(T:Turn X.prog X.w X.K tg J fp it tn)(t5:tn QX2 s5.heap)(ah:SrcR X.K L H3 src J)(ag:Stp X.K ρ L H H3)(ac:Stp X.K L L H3 H5)
  (I7:S0 X Q42 ae H7 s7 aa S7 B) (ab:Stp X.K L aa H5 H7) (ai:Y0 src.get t g n QX2 B S7≠.bad) (af:Y0 src.get t g n QX2 B S7=r0):∃m,m<n+1/\ForI X pc fp tn src J t g ρ H r0 m s7:=by
 calc⟨n,Vd2 _,i+1,ae,H7,aa,S7,B,I7.rep I7.inv.unpinned,T.keep _ _ _ t5 λb hb o e=>Qp1.1,λb hb=>?_,ah.mono QxV,ag.trans QxV,ai,af⟩;let⟨o,e,_⟩:=T.obj _ _ t5 b hb;calc Qp1.2.1
def X0y{X:Cx}{tg:Expr}{it:Addr}{body:LM}{na:Bool}{pc:LA}{fp:LR}{tn:Nat->Heap->Prop}{src:Src}{J:L2.It}{t:Tg}{g:En->Sto->R Fl}{ρ af:LR}{H H3 H5:Hp}{r0:R Fl}{n i:Nat}{S3:Sto}{s5 s6:Vc}{σ al:L2.St}{ae env6:En}{d:D}{Rr:Result->Vc->Prop}(hR:∀f s',OkS X pc σ ρ H yw r0 f s'->Rr Q1h s')(hE:∀e s',cameBackBy Q3 X.A X.env QmJ e s'->Rr QmQ s')(am:X.stack=X.env::X.outer)(hf:X.env.frame=yz X.env.locals)(hb:DSs X body na g)
  (T:Turn X.prog X.w X.K tg J fp it tn) (t5:tn QX2 s5.heap) (ai:SrcR X.K af H3 src J) (ac:Stp X.K ρ af H H3) (ag:Stp X.K af af H3 H5) (I6:S0 X Q42 al H5 s6 af S3 env6) (g1:src.get S3 i=yz QZC) (e6:Xx t d ae=yz env6)
  (ab:Y0 src.get t g QF6 i ae S3≠.bad) (B:Y0 src.get t g QF6 i ae S3=r0):
  Vg Q3 X.A (execs body X.env) (λf s'=>match f with
   |.next=>∃m,m<n+1/\ForI X pc fp tn src J t g ρ H r0 m s'|.cont=>∃m,m<n+1/\ForI X pc fp tn src J t g ρ H r0 m s'|.brk=>Rr QwH s'
   |.ret v=>Rr (.ok QgW) s') (notedBy Q3 X.A X.env λe s'=>Rr QmQ s') s6:=by
 simp[Y0,g1,e6]at ab B;cases e7:g env6 S3 with
 |bad=>rw[e7]at ab;cases ab rfl|ex m S7=>
  rw[e7]at B;exact Vp (hb _ _ _ _ _ _ _ I6 (by rw[e7];calc λz=>nomatch z)) (λfl s7 z7=>?_) λx7 s7 z7=>?_;·let⟨_,_,e,_⟩:=z7;rw[e7]at e;cases e
  ·let⟨m',S8,aa,e,_,z⟩:=z7;rw[e7]at e;cases e;exact Vp (X89 am hf (ac.trans ag) z B.symm) (λ_ _ z=>hE _ _ z) λ_ _ z=>hE _ _ z|ok x7 S7=>
  rw[e7]at ab B;calc hb.ok I6 e7 λfl s7 z7=>?_;cases x7 with
  |nx e=>let⟨rfl,aa,H7,ah,I7,L,_⟩:=z7;calc Xxb T t5 ai ac ag I7 L ab B|cnt e=>let⟨rfl,aa,H7,ah,I7,L⟩:=z7;calc Xxb T t5 ai ac ag I7 L ab B|brk e=>let⟨rfl,aa,H7,ah,I7,L⟩:=z7;calc hR _ _ ⟨.nx e,S7,B.symm,rfl,aa,H7,ah,I7.rep I7.inv.unpinned,ac.trans QnX,λz=>nomatch z⟩|rt d'=>let⟨u',v',aa,H7,ah,rfl,I7,aj,ak,an,L⟩:=z7;calc hR _ _ ⟨.rt d',S7,B.symm,u',v',aa,H7,ah,rfl,I7.unpinned,aj,ak,an,ac.trans QnX⟩
def X45{X:Cx}{tg:Expr}{it:Addr}{body:LM}{na:Bool}{pc:LA}{fp:LR}{tn:Nat->Heap->Prop}{src:Src}{J:L2.It}{t:Tg}{g:En->Sto->R Fl}{ρ:LR}{H:Hp}{r0:R Fl}{n0:Nat}{s:Vc}{σ:L2.St}{Rr:Result->Vc->Prop}(hR:∀f s',OkS X pc σ ρ H yw r0 f s'->Rr Q1h s')(hE:∀e s',cameBackBy Q3 X.A X.env QmJ e s'->Rr QmQ s')
  (af:X.stack=X.env::X.outer) (hf:X.env.frame=yz X.env.locals) (hc:X.calm=yx) (hg:DG X tg t) (hb:DSs X body na g) (T:Turn X.prog X.w X.K tg J fp it tn) (B:∀ {H':Hp},QpC->∀b∈fp,Xbc X pc H' b) (h:ForI X pc fp tn src J t g ρ H r0 n0 s):Vcq Q3 X.A (.forLoop tg QN1 body [] X.env) Rr s:=by
 calc codeAny_forLoop_any (ForI X pc fp tn src J t g ρ H r0) ?_ n0 h;rintro n s3 ⟨i,σ3,H3,ρ3,S3,env3,I3,t3,fr3,sr3,st3,nb3,eq3⟩;cases n with
 |zero=>cases nb3 rfl|succ n=>
  let ah:=nb3;simp[Y0]at nb3;cases g1:src.get S3 i with
  |none=>rw[g1]at nb3;cases nb3 rfl|some o=>
   rw[g1]at nb3;cases o with
   |none=>exact thn (T.done X rfl rfl rfl hc i pc s3 σ3 H3 _ I3.inv QdT t3 QLR) λr s4 L=>?_;let⟨hr,I4⟩:=L;subst hr;exact wpAny_execs_nil (hR _ _ ⟨.nx env3,S3,by rw[<-eq3];simp[Y0,g1],rfl,σ3,H3,ρ3,QfO,st3,λz=>nomatch z⟩)|some d=>
    dsimp at nb3;let⟨go,yl⟩:=sr3.go I3 g1;calc thn (T.item X rfl rfl rfl hc i pc s3 σ3 H3 _ I3.inv QdT t3 go) λr s4 L=>?_;let⟨u,hr,h4⟩:=L;subst hr;calc thn h4 λ_ s5 L=>?_;let⟨x,H5,I5,r5,y5,t5,ac⟩:=L;let⟨ae,aa,ab⟩:=yl x H5 y5;let ag:=I5.pinned (B ac) QYU;cases e6:Xx t d env3 with
    |none=>rw[e6]at nb3;cases nb3 rfl|some env6=>rw[e6]at nb3;dsimp at nb3;calc hg Q42 s5 σ3 H5 ρ3 S3 env3 d x u env6 _ _ ⟨ag,ae,I3.er.mono aa⟩ e6 ab r5 λs6 ai I6=>?_;calc X0y hR hE af hf hb T t5 sr3 st3 aa I6 g1 e6 ah eq3
def X9a(ae:X.stack=X.env::X.outer)(hf:X.env.frame=yz X.env.locals)(hc:X.calm=yx)(hi:DI X tg iter fi)(hg:DG X tg t)(L:DSs X body na g)(hs:∀x,Vcj iter X.env x=pure x):
  DS X (.For tg iter body [] pos) yw (λenv S=>Qx9.bind λsrc S=>Y0 src.get t g QQ4 0 env S):=by
 intro pc s σ H ρ S env I B;dsimp at B |-;cases q:fi env S with
 |bad=>rw[q]at B;cases B rfl|ex n S1=>
  calc wpAny_For (Vp (hi pc s σ H ρ S env _ I Qy λx s' z=>?_) Qc9 λ_ _ z=>z) hs;·rw[q]at z;let⟨m,S2,e,z⟩:=z;cases e;exact .of .refl z rfl
  ·let⟨src,S2,_,_,_,_,_,_,e,_⟩:=h2;rw[q]at e;cases e|ok src S1=>
  rw[q]at B;simp[Rk0]at B |-;calc wpAny_For (Vp (hi pc s σ H ρ S env (ExS X pc σ ρ H yw (Y0 src.get t g QE8 0 env S1)) I Qy λx s' z=>?_) Qc9 λ_ _ z=>z) hs;·rw[q]at z;let⟨m,S2,e,z⟩:=z;cases e
  ·let⟨ah,S2,it,fp,tn,J,H2,af,e1,rfl,I2,T,t0,f2,ac,ab,st2⟩:=h2;rw[q]at e1;cases e1;let aa:∀ {H':Hp},QpC->∀b∈fp,Xbc X pc H' b:=λhn b L=>⟨hn b L,QAe.2⟩;calc X45 QSF QSF ae hf hc hg L T aa ⟨0,σ,H2,af,S1,env,I.step I2 ab st2,t0,λb L=>QAe.1,ac,st2,B,rfl⟩
universe e
def Xfx(env:Vb4)(P:Str->Addr->Prop):∀(names:List QiJ) (cs:List Qx4),(∀x∈names,x.2=.free->∃c,env.cells.lookup x.1=yz c/\P x.1 c)->(∀x c,cs.lookup x=yz c->P x c) ->
  ∃cl,(forIn names cs λ(x:Str×Vfe) (r:List Qx4)=>(match x with
   | (name,kind)=>if (kind==Vhr)=yx then do
     let a <- cellOf env name
     pure (Vec ((name,a)::r))
    else pure QiZ:Sem (ForInStep QAb)))=(pure cl:Sem QAb)/\(∀x c,cl.lookup x=yz c->P x c)/\(∀x c,cs.lookup x=yz c->∃c',cl.lookup x=yz c')/\∀x∈names,x.2=.free->∃c,cl.lookup x.1=yz c
 |[],cs,_,hc=>⟨cs,rfl,hc,λx c h=>⟨c,h⟩,λ_ h=>nomatch h⟩| Qif::r,cs,hf,hc=>by
  by_cases hk:k=.free
  ·subst hk
   let⟨c,ab,ae⟩:=hf (n,.free) V6 rfl;let⟨cl,e,h1,h2,h3⟩:=Xfx env P r ((n,c)::cs) QqP (λx d h=>by
    rw[Vbo]at h;by_cases B:x==n;·rw[B]at h;cases h;rw[eq_of_beq B];exact ae
    ·let aa:Qqb=false:=by simpa using B
     rw[aa]at h;calc hc x d h)
   calc⟨cl,?_,h1,λx d h=>?_,λx B L=>?_⟩;·rw[Vdl];simp[beq_self_eq_true,if_true,cellOf,ab,pure_bind];exact e
   ·by_cases B:x==n;·exact h2 x c (by rw[Vbo,B])
    ·let aa:Qqb=false:=by simpa using B
     exact h2 x d (by rw[Vbo,aa];calc h)
   rcases Vr.mp B with rfl|B;·exact h2 n c (by rw[Vbo,beq_self_eq_true])
   ·exact h3 x B L
  let⟨cl,e,h1,h2,h3⟩:=Xfx env P r cs QqP hc;exact⟨cl,?_,h1,h2,λx B L=>?_⟩
  ·rw[Vdl];let ac:(k==Vhr)=false:=by simpa using hk
   simp[ac,Vs,if_false,pure_bind];exact e
  rcases Vr.mp B with rfl|B;·exact aB0 L hk
  ·calc h3 x B L
def Xkb(hf:∀x∈scope.names,x.2=.free->∃c,env.cells.lookup x.1=yz c):
  ∃B,closureFor scope env=pure B/\(∀x c,B.lookup x=yz c->env.cells.lookup x=yz c/\QjN∈scope.names)/\∀x∈scope.names,x.2=.free->∃c,B.lookup x.1=yz c:=by
 let⟨B,e,h1,_,h3⟩:=Xfx env (λx c=>env.cells.lookup x=yz c/\QjN∈scope.names) scope.names [] (λx L hk=>let ⟨c,hc⟩:=hf x L hk;⟨c,hc,hc,hk▸L⟩) (λx c h=>by simp! at h);calc⟨B,?_,h1,h3⟩;unfold closureFor;simp[bind_pure];calc e
private noncomputable abbrev Xn0(ifs:LX)(env:Vb4):Sem Bool:=forIn ifs yx λc r=>if r=yx then do let ok <- isTrue c env QgX;pure Qee else pure QiZ
abbrev cE(k:Bool)(elt:Expr)(gens:List Vca)(scope:Vaj)(pos:Pos):Expr:=match k with
 |false=>.ListComp elt gens scope pos|true=>.SetComp elt gens scope pos
abbrev aN(k:Bool):String:=match k with
 |false => "list.append"|true => "set.add"
theorem Xlm(k:Bool)(M:Model)(A:Uz)(elt:Expr)(gens:List Vca)(scope:Vaj)(pos:Pos)(d:Nat)(B:Vb)(env:Vb4)(P:Vc->Prop)(s:Vc):Prop:=
 match gens[d+1]? with
 |none=>Vg M A (eval elt env) (λx L=>Vg M A (call (.builtin (aN k)) [B,x]) (λ_ s5=>P s5) Qa0 L) Qa0 s|some g'=>g'.is_async=0/\(∀x,Vcj g'.iter env x=pure x)/\Vg M A (eval g'.iter env) (λx L=>Vg M A (Vfl x) (λaa s5=>Vcq M A (.compStart Qh3 Q9G aa B env) (λr s6=>match r with|.ok _=>P s6|.error _=>False) s5) Qa0 L) Qa0 s
section
variable{prog:V3}{w:Ua}{A:Uz}{s:Vc}{R:Result->Vc->Prop}
def Xxc(hg:gens[d]?=yz QLL)(hm:A.mark yy=A)(I:Nat->Vc->Prop)
  (turn:∀n s,I n s->Vg Q5 A (Vdx it) (λr s₁=>match r with
   |none=>R QwH s₁
   |some v=>Vg Q5 A (Vdg target it v) (λ_ ae=>Vg Q5 A (assign target env v) (λ_ af=>Vg Q5 A (Xn0 ifs env) (λok ac=>if ok=yx then Xlm k Q5 A elt gens scope pos d acc env (λab=>∃m,m<n/\I m ab) ac else ∃m,m<n/\I m ac) Qa0 af) Qa0 ae) Qa0 s₁) Qa0 s)
  (n:Nat) (h:I n s):Vcq Q5 A QvG R s:=by
 cases k
 all_goals
  calc codeAny_loop rfl I (λn s hI=>?_) n h;show Vg _ A ((compTurn _ d it acc env).onRaise (λx=>do noteFrame x env;theTreesLotGoes x)) _ _ s;calc wpAny_noted (Vp (E:=λ_ _=>False) ?_ QSF λ_ _ z=>z.elim);unfold compTurn;simp[cE,hg,show QLJ=yw from rfl,Vs,if_false];calc Va (Ve7 (Va (Vp (turn n s hI) (λr s₁ ai=>?_) λ_ _ z=>z)));cases r with
  |none=>exact Vd ai|some v=>
   calc Va (Vp ai (λ_ ae aj=>Va (Vp aj (λ_ af ak=>Va (Vp ak (λok ac B=>?_) λ_ _ z=>z)) λ_ _ z=>z)) λ_ _ z=>z);cases ok with
   |false=>rw[iN0 V0]at B;simp[Vs,if_false];exact Vd QXD|true=>
    rw[iP0 rfl]at B;simp[if_true];unfold Xlm at B;cases hq:gens[d+1]? with
    |none=>
     rw[hq]at B;simp[bind_assoc,pure_bind]
     first
      |calc Va (Vp B (λx ag aa=>Va Q0A) λ_ _ z=>z)
      |calc Va (Vp B (λx ag aa=>Va (Ve7 (Va Q0A))) λ_ _ z=>z)
    |some g'=>
     rw[hq]at B;let⟨ha,hf,B⟩:=B;simp[ha,show QLJ=yw from rfl,Vs,if_false];calc Va (Vp B (λx ag aa=>Va (Ve7 (Va (Vf8 (hf x) (Va (U2 (Vp aa (λam ab L=>?_) λ_ _ z=>z))))))) λ_ _ z=>z);calc Va (wpAny_runOwn ?_);rw[hm];calc Vea L λr al ah=>?_;cases r with
     |ok f=>calc Vd ⟨rfl,ah⟩|error e=>calc ah.elim
def Xuv(hg:gens[d]?=yz QLL)
  (B:Vcq Q5 A QvG R s)
  (h:Vg Q5 A (Vfl it) (λit' s'=>Vcq Q5 A (.compLoop Qh3 d it' acc env) R s') Qa0 s):
  Vcq Q5 A (.compStart Qh3 d it acc env) R s:=by
 cases k
 all_goals
  calc Vfb ?_;show Vg _ _ ((compStart _ d it acc env).onRaise (λx=>do noteFrame x env;standAt theWindowsPlace)) _ _ s;calc wpAny_notedAt ?_;unfold compStart;simp[cE,clausesOf,hg,Option.elim,show QLJ=yw from rfl,Vs,if_false];calc Va (Vd3 (wpAny_ite ?_));split
  ·first
    |exact Va (Vd (Vd (And.intro rfl B)))|exact Vd (And.intro rfl B)
  ·calc Va QOW;calc Va (Ve7 (Va (Vp h (λit' s' h'=>Vd (And.intro rfl h')) λ_ _ x=>x.elim)))
universe e
section
variable{X:Cx}{pc:LA}{σ:L2.St}{H:Hp}{s:Vc}{ρ:LR}{S S':Sto}{env:En}{Q:VP}{E:VP}
theorem DTs(X:Cx)(ifs:LX)(f:En->Sto->R Bool):Prop:=
 ∀(pc:LA) (s:Vc) (σ:L2.St) (H:Hp) (ρ:LR) (S:Sto) (env:En) (b:Bool) (S':Sto) (Q:Bool->Vc->Prop) (E:VP),S0 X pc σ H s ρ S env->f env S=.ok b S' ->
  (∀s' H' ρ',S0 X pc σ H' s' ρ' S' env->Stp X.K ρ ρ' H H'->Q b s')->Vg Q3 X.A (Xn0 ifs X.env) Q E s
def Xit{M:Model}{A:Uz}{env:Vb4}{s:Vc}{Q:Bool->Vc->Prop}{E:VP}(h:Q yw s):∀ifs:LX,
  Vg M A (forIn ifs yw λc r=>if r=yx then do let ok <- isTrue c env QgX;pure Qee else pure QiZ) Q E s
 |[]=>Vd h|c::r=>by rw[Vdl];simp[Vs,if_false];calc Va (Vd (Xit h r))
def X46:DTs X [] (λ_ S=>.ok yx S):=by intro pc s σ H ρ S env b S' Q E I h B;cases h;calc Vd (B s H ρ I .refl)
def X0z{L:LX}{fc:En->Sto->R D}{g:En->Sto->R Bool}(hc:DT X c Q29)(hr:DTs X L g):
  DTs X (c::L) (λenv S=>QR4.bind λx S=>match X4 S x with|some yx=>g env S|some yw=>.ok yw S|none=>.bad):=by
 intro pc s σ H ρ S env b S' Q E I h hQ;dsimp at h;cases q:fc env S with
 |bad=>rw[q]at h;cases h|ex n S1=>rw[q]at h;cases h|ok x S1=>
  rw[q]at h;simp[Rk0]at h;unfold Xn0;rw[Vdl];simp[if_true];cases t:X4 S1 x with
  |none=>rw[t]at h;cases h|some r=>
   rw[t]at h;calc Va (Va (hc.ok I Q82 λs2 H2 B I2 st2=>Vd ?_));cases r with
   |true=>calc hr pc s2 σ H2 B S1 env b S' Q E I2 h λs3 H3 aa I3 ab=>hQ s3 H3 aa I3 (st2.trans ab)|false=>cases h;calc Xit (hQ s2 H2 B I2 st2) L
def Mon.trans{K:Vh}{ρ' ρ'':LR}{H' H'':Hp}(x:Mon K ρ ρ' H H')(y:Mon K ρ' ρ'' H' H''):Mon K ρ ρ'' H H'':=
 ⟨λn a h=>y.pre n a QSV,λa xs h=>y.tup a xs QiI,λa o u h=>y.frz a o u Q6H⟩
def Xuw:∀(is:LN) (ds:LD) (env:En),i ∉ is->Qg8[i]?=env[i]?:=by
 intro is;induction is with
 |nil=>intro ds env _;simp!|cons j L ih=>
  intro ds env B;cases ds with
  |nil=>simp!|cons d ds=>simp[Vgm,Vb0];rw[ih ds _ (λz=>B (V2 _ z)),Vay Qx6]
def Xra{t:Tg}{d:D}{env B:En}(h:Xx t d env=yz B){i:Nat}(hi:i ∉ slots t):B[i]?=env[i]?:=by
 cases t with
 |var j=>simp[Xx,Vx]at h;subst h;let:j≠i:=λz=>hi (by simp![slots,z]);rw[Vay this]|tup is=>
  cases d with
  |tup ds=>
   simp[Xx]at h;split at h;·cases h;exact Xuw is ds env hi
   ·cases h|_=>cases h
theorem Xgw:Type:=LR->Hp->LD->Prop
theorem Xkc(K:Vh)(Da:Addr)(AR:Xgw):Prop:=∀(ρ ρ':LR) (H H':Hp) (B:LD),AR ρ H B->Da ∉ ρ->Stp K ρ ρ' H H'->Da ∉ ρ'/\AR ρ' H' B
abbrev LstA(K:Vh)(Da:Addr):Xgw:=fun ρ H B=>∃vs,H Da=yz Q93/\RDs K ρ H B vs
theorem Xdk(k:Bool)(AR:Xgw)(Y:Cx)(Da:Addr)(elt:Expr)(gens:List Vca)(scope:Vaj)(cpos:Pos)(d:Nat)(body:En->LD->Sto->R LD):Prop:=
 ∀(pc:LA) (s:Vc) (σ:L2.St) (H:Hp) (ρ:LR) (S S':Sto) (env:En) (L B:LD) (H0:Hp) (ρ0:LR) (P:Vc->Prop),S0 Y pc σ H s ρ S env->Da ∉ ρ->AR ρ H L->H0 Da=yy->Stp Y.K ρ0 ρ H0 H ->
  body env L S=.ok B S'->(∀s' aa H' ρ',S0 Y pc aa H' s' ρ' S' env->Da ∉ ρ'->AR ρ' H' B->Stp Y.K ρ0 ρ' H0 H'->Mon Y.K ρ ρ' H H'->P s') ->
  Xlm k QP8 Y.A elt gens scope cpos d QJ7 Y.env P s
def Stp.out{K:Vh}{ρ':LR}{H':Hp}{Da:Addr}{o:HO}(st:Stp K ρ ρ' H H')(B:H Da=yz o)(L:Da ∉ ρ):Da ∉ ρ'/\H' Da=yz o:=
 ⟨λhm=>(st.new Da hm).elim L (λz=>by rw[B]at z;cases z),st.keep Da o B L⟩
def LstA.ok{K:Vh}{Da:Addr}:Xkc K Da (LstA K Da):=fun ρ ρ' H H' acc ⟨vs,h,r⟩ hn st=>⟨QWV.1,vs,QWV.2,r.mono st⟩
inductive ClI(Y:Cx)(pc:LA)(Da:Addr)(AR:Xgw)(fp:LR)(tn:Nat->Heap->Prop)(src:Src)(J:L2.It)(t:Tg)(f:En->LD->Sto->R LD)(ρ ρ0:LR)(H H0:Hp)(env:En)(accf:LD)(Sf:Sto)(n:Nat)(s':Vc):Prop
 |mk (i:Nat) (σ':L2.St) (H':Hp) (ρ':LR) (S':Sto) (env':En) (acc':LD) (h1:S0 Y pc σ' H' s' ρ' S' env') (h2:tn i s'.heap) (h3:∀b∈fp,H' b=yy) (h4:SrcR Y.K ρ' H' src J) (h5:Mon Y.K ρ ρ' H H') (h6:Stp Y.K ρ0 ρ' H0 H') (h7:Da ∉ ρ') (h8:AR ρ' H' acc') (h9:∀i,i ∉ slots t->env'[i]?=env[i]?) (h10:Yz src.get t f n i env' acc' S'=.ok accf Sf)
section
variable{AR:Xgw}{Y:Cx}{Da it:Addr}{tg:Expr}{t:Tg}{src:Src}{J:L2.It}{fp:LR}{tn:Nat->Heap->Prop}{f:En->LD->Sto->R (LD)}{pc:LA}{H H0:Hp}{ρ ρ0:LR}{Sf S7:Sto}{env env6:En}{accf acc7:LD}{n i:Nat}{s5:Vc}
def X3l{s7:Vc}{aa:L2.St}{L:Hp}{B:LR}(T:Turn Y.prog Y.w Y.K tg J fp it tn)(t5:tn QX2 s5.heap)(af:∀i,i ∉ slots t->env6[i]?=env[i]?)(ac:Yz src.get t f n QX2 env6 acc7 S7=.ok accf Sf)
  (I7:S0 Y Q42 aa L s7 B S7 env6) (ai:SrcR Y.K B L src J) (ae:Mon Y.K ρ B H L) (ah:Stp Y.K ρ0 B H0 L) (ag:Da ∉ B) (ab:AR B L acc7):∃m,m<n+1/\ClI Y pc Da AR fp tn src J t f ρ ρ0 H H0 env accf Sf m s7:=by
 calc⟨n,Vd2 _,i+1,aa,L,B,S7,env6,acc7,I7.rep I7.inv.unpinned,T.keep _ _ _ t5 λb hb o e=>Qp1.1,λb hb=>?_,ai,ae,ah,ag,ab,af,ac⟩;let⟨o,e,_⟩:=T.obj _ _ t5 b hb;calc Qp1.2.1
def X47{k:Bool}{elt:Expr}{gens:List Vca}{ifs:LX}{scope:Vaj}{cpos:Pos}{d:Nat}{tf:En->Sto->R Bool}{body:En->LD->Sto->R (LD)}{S3:Sto}{ab:LD}{s6:Vc}{af:L2.St}{H3 H5:Hp}{B:LR}(hA:Xkc Y.K Da AR)(hT:DTs Y ifs tf)(hB:Xdk k AR Y Da elt gens scope cpos d body)(h0:H0 Da=yy)
  (T:Turn Y.prog Y.w Y.K tg J fp it tn) (t5:tn QX2 s5.heap) (au:SrcR Y.K B H3 src J) (ac:Stp Y.K B B H3 H5) (aq:Stp Y.K ρ0 B H0 H3) (al:Mon Y.K ρ B H H3) (ap:Da ∉ B) (aw:AR B H5 ab) (ah:∀i,i ∉ slots t->env6[i]?=env[i]?) (I6:S0 Y Q42 af H5 s6 B S3 env6) (L:Xak tf body env6 ab S3=.ok acc7 S7)
  (am:Yz src.get t QU3 n QX2 env6 acc7 S7=.ok accf Sf):
  Vg QP8 Y.A (Xn0 ifs Y.env) (λok s'=>if ok=yx then Xlm k QP8 Y.A elt gens scope cpos d QJ7 Y.env (λs'=>∃m,m<n+1/\ClI Y pc Da AR fp tn src J t QU3 ρ ρ0 H H0 env accf Sf m s') s' else ∃m,m<n+1/\ClI Y pc Da AR fp tn src J t QU3 ρ ρ0 H H0 env accf Sf m s') Qa0 s6:=by
 unfold Xak at L;cases e8:tf env6 S3 with
 |bad=>rw[e8]at L;cases L|ex m S8=>rw[e8]at L;cases L|ok b8 S8=>
  rw[e8]at L;simp[Rk0]at L;calc hT Q42 s6 af H5 B S3 env6 b8 S8 _ _ I6 e8 λs8 H8 an I8 aa=>?_;let⟨ak,ai⟩:=hA _ _ _ _ _ aw ap aa;let ae:=aq.trans Q4E;let ag:SrcR Y.K an H8 src J:=au.mono Q4E;cases b8 with
  |false=>rw[iN0 V0]at L |-;cases L;calc X3l T t5 ah am I8 ag Q5N ae ak ai|true=>rw[iP0 rfl]at L |-;calc hB Q42 s8 af H8 an S8 S7 env6 ab acc7 H0 ρ0 _ I8 ak ai h0 ae L λs9 ay H9 ax I9 ar av ao aj=>X3l T t5 ah am I9 (ag.mono' aj) (Q5N.trans aj) ao ar av
universe e
def Xxd{k:Bool}{AR:Xgw}{Y:Cx}{Da it:Addr}{elt tg iter:Expr}{gens:List Vca}{ifs:LX}{scope:Vaj}{cpos:Pos}{d:Nat}{t:Tg}{src:Src}{J:L2.It}{fp:LR}{tn:Nat->Heap->Prop}{tf:En->Sto->R Bool}{body:En->LD->Sto->R (LD)}
  {pc:LA} {σ:L2.St} {H H0:Hp} {s:Vc} {ρ ρ0:LR} {S Sf:Sto} {env:En} {ab accf:LD} {P:Vc->Prop} (hA:Xkc Y.K Da AR) (hc:Y.calm=yx) (hg:gens[d]?=yz QT2)
  (T:Turn Y.prog Y.w Y.K tg J fp it tn) (hG:DG Y tg t) (hT:DTs Y ifs tf) (hB:Xdk k AR Y Da elt gens scope cpos d body) (h0:H0 Da=yy)
  (I:S0 Y pc σ H s ρ S env) (t0:tn 0 s.heap) (f0:∀b∈fp,Xbc Y pc H b) (sr:SrcR Y.K ρ H src J) (hn:Da ∉ ρ) (ha:AR ρ H ab) (st0:Stp Y.K ρ0 ρ H0 H)
  (hr:Yz src.get t QU3 QQ4 0 env ab S=.ok accf Sf)
  (hP:∀s' ag H' ρ' L,S0 Y pc ag H' s' ρ' Sf L->(∀i,i ∉ slots t->L[i]?=env[i]?)->Da ∉ ρ'->AR ρ' H' accf->Stp Y.K ρ0 ρ' H0 H'->Mon Y.K ρ ρ' H H'->P s'):
  Vcq QP8 Y.A (.compStart QLI d QN1 QJ7 Y.env) Qk8 s:=by
 let aa:Vcq QP8 Y.A (.compLoop QLI d QN1 QJ7 Y.env) Qk8 s:=by
  let B:∀ {H':Hp},QpC->∀b∈fp,Xbc Y pc H' b:=λhn b hb=>⟨hn b hb,QUc.2⟩;calc Xxc hg rfl (ClI Y pc Da AR fp tn src J t QU3 ρ ρ0 H H0 env accf Sf) ?_ QQ4 ⟨0,σ,H,ρ,S,env,ab,I,t0,λb hb=>QUc.1,sr,Stp.refl.toMon,st0,hn,ha,λ_ _=>rfl,hr⟩;rintro n s3 ⟨i,σ3,H3,ρ3,S3,env3,acc3,I3,t3,fr3,sr3,mo3,st3,hn3,ha3,hs3,eq3⟩;cases n with
  |zero=>cases eq3|succ n=>
   simp[Yz]at eq3;cases g1:src.get S3 i with
   |none=>rw[g1]at eq3;cases eq3|some o=>
    rw[g1]at eq3;cases o with
    |none=>cases eq3;exact thn (T.done Y rfl rfl rfl hc i pc s3 σ3 H3 _ I3.inv QdT t3 QLR) λr s4 zz=>?_;let⟨hr,I4⟩:=zz;subst hr;exact hP s4 σ3 H3 ρ3 env3 QfO hs3 hn3 ha3 st3 mo3|some dd=>
     dsimp at eq3;let⟨go,yl⟩:=sr3.go I3 g1;calc thn (T.item Y rfl rfl rfl hc i pc s3 σ3 H3 _ I3.inv QdT t3 go) λr s4 zz=>?_;let⟨u,hr,h4⟩:=zz;subst hr;calc thn h4 λ_ s5 zz=>?_;let⟨x,H5,I5,r5,y5,t5,ah⟩:=zz;let⟨aj,ac,af⟩:=yl x H5 y5;let ak:=I5.pinned (B ah) QYU;cases e6:Xx t dd env3 with
     |none=>rw[e6]at eq3;cases eq3|some env6=>
      rw[e6]at eq3;dsimp at eq3;calc hG Q42 s5 σ3 H5 ρ3 S3 env3 dd x u env6 _ _ ⟨ak,aj,I3.er.mono ac⟩ e6 af r5 λs6 al I6=>?_;let⟨_,ai⟩:=hA _ _ _ _ _ ha3 hn3 ac;cases e7:Xak tf body env6 acc3 S3 with
      |bad=>rw[e7]at eq3;cases eq3|ex m S7=>rw[e7]at eq3;cases eq3|ok acc7 S7=>rw[e7]at eq3;dsimp at eq3;let ae:∀i,i ∉ slots t->env6[i]?=env[i]?:=λi hi=>(Xra e6 hi).trans (hs3 i hi);exact X47 hA hT hB h0 T t5 sr3 ac st3 mo3 hn3 ai ae I6 e7 eq3
 calc Xuv hg aa (T.self Y.A 0 s _ _ t0 aa)
def Xne(hg:gens[d+1]?=yy)(he:DE Y elt fe):
  Xdk yw (LstA Y.K Da) Y Da elt gens scope cpos d (λenv acc S=>(fe env S).bind λy S=>if (lg acc)<big then .ok (acc++[y]) S else .bad):=by
 intro pc s σ H ρ S S' env acc ae H0 ρ0 P I hn ⟨vs,hD,ra⟩ h0 st0 hb hP;unfold Xlm;rw[hg];dsimp at hb |-;cases q:fe env S with
 |bad=>rw[q]at hb;cases hb|ex n S1=>rw[q]at hb;cases hb|ok y S1=>
  rw[q]at hb;simp[Rk0]at hb;split at hb
  ·rename_i hz;cases hb;exact he.ok I q λu s1 v H1 aa I1 rv rd B=>?_;let⟨ab,L⟩:=B.out hD hn;let ac:Qc3<V8:=by rw[<-ra.length];exact Uk hz Xj6
   exact mtd (X:=Y) (Q':=λz H'=>z=.non/\H'=upd H1 Da QkR) Xm7 I1.inv (show RelV QJ7 QJ7 from rfl) (.cons rv .nil) ⟨Da,vs,v,rfl,rfl,L,ac,rfl,rfl⟩ λw s2 z H2 J rz zz=>?_;let⟨e1,e2⟩:=zz;subst e1 e2;let mo:Mon Y.K aa aa H1 (upd H1 Da QkR):=Mon.own L;exact hP s2 σ _ aa ⟨J,I1.sr.own L ab,I1.er.mono' mo⟩ ab ⟨vs++[v],Xu,(RDs.mono' mo _ _ (ra.mono B)).append (.cons (RD.mono' mo _ _ rd) .nil)⟩ ((st0.trans B).own h0 L) ⟨λn a h=>B.pre n a h,λa xs h=>mo.tup a xs (B.tup a xs h),λa o u h=>mo.frz a o u (B.frz a o u h)⟩
  cases hb
def Xxe{k:Bool}{AR:Xgw}(hA:Xkc Y.K Da AR)(hc:Y.calm=yx)
  (hg:gens[d+1]?=yz ⟨tg2,iter2,ifs2,0⟩) (hi:DI Y tg2 iter2 fi) (hs:∀x,Vcj iter2 Y.env x=pure x) (hG:DG Y tg2 t2) (hT:DTs Y ifs2 tf) (hB:Xdk k AR Y Da elt gens scope cpos Q9G body):
  Xdk k AR Y Da elt gens scope cpos d (λenv acc S=>if Xww t2 env then Qx9.bind λsrc S=>Yz src.get t2 QU3 QQ4 0 env acc S else .bad):=by
 intro pc s σ H ρ S S' env acc an H0 ρ0 P I hn ha h0 st0 B hP;unfold Xlm;rw[hg];dsimp at B |-;split at B
 ·rename_i aj;calc⟨rfl,hs,?_⟩;cases q:fi env S with
  |bad=>rw[q]at B;cases B|ex n S1=>rw[q]at B;cases B|ok src S1=>
   rw[q]at B;simp[Rk0]at B;exact Vp Qv9 (λv s1 h1=>Vp h1 (λaq s2 h2=>?_) λ_ _ z=>z) λ_ _ z=>z;·rw[q]at z;let⟨m,S2,e,z⟩:=z;cases e
   ·let⟨am,S2,it,fp,tn,J,H2,ap,e1,rfl,I2,T,t0,f2,ag,ae,st2⟩:=h2;rw[q]at e1;cases e1;let⟨ab,al⟩:=hA _ _ _ _ _ ha hn st2;exact Xxd (ρ0:=ρ0) (H0:=H0) hA hc hg T hG hT hB h0 (I.step I2 ae st2) t0 f2 ag ab al (st0.trans st2) B λs' ai H' ρ' ao L aa ah ac ak af=>?_;calc hP s' ai H' ρ' ⟨L.inv,L.sr,QgO⟩ ah ac ak (st2.toMon.trans af);·let h1:=I.er.len;let h2:=I.inv.len;let h3:=L.inv.len;omega
    ·by_cases hi:i∈slots t2;·let z:=Uc.mp aj i hi;rw[e]at z;cases z
     ·exact L.er.val i d ((aa i hi).trans e)
 ·cases B
universe e
abbrev hid(own:LS)(y:Str):Str:=if own.contains y then Vcb "0" ++ y else y
abbrev Xav(N own:LS):LS:=N.map (hid own)++own
structure ScOk(outer sc:Vaj)(N own:LS):Prop where
 kind:sc.kind=.function
 okind:outer.kind=.function
 nd:QdZ.Nodup
 cel:∀y∈sc.names,y.2=.cell->y.1∈own
 apart:∀y∈sc.names,y.2=.free->y.1 ∉ own
 free:∀y∈sc.names,y.2=.free->outer.names.lookup y.1=yz .cell\/outer.names.lookup y.1=yz .free
 loc:∀y,sc.names.lookup y=yz .local->y∈own
 names:∀x∈sc.names,x.2=.local->sc.names.lookup x.1=yz .local
 hidn:∀y∈N,own.contains y=yx->sc.names.lookup QVU=yy
section
variable{X:Cx}{pc:LA}{σ:L2.St}{H:Hp}{s:Vc}{ρ:LR}{S:Sto}{env:En}{Q:VP}{E:VP}
abbrev blk(X:Cx)(pc:LA)(s:Vc)(H:Hp)(sc:Vaj)(B:List Qx4)(C:Addr)(own:LS)(fp:LR):Cx:=
 { X with N:=Xav X.N own,s₀:=s,H₀:=H,env:=compEnvC sc B C X.env,outer:=X.stack,stack:=X.stack,ex:=fp,fn:=λx=>own.contains x,pn:=X.pn++pc}
def Xdl{names:List QiJ}(h:names.lookup x=yz k):(x,k)∈names:=Vc2 h
def Xrb{B:List Qx4}(h:B.lookup x=yz c):QVf∈B:=Vc2 h
def Xcn(sc:Vaj)(env:Vb4)(x:Str):(relabel sc env).names.lookup x=QlN.map λk=>if (k == .free&&env.scope.kind == .function&&env.kindOf x==yz .cell)=yx then .cell else k:=by
 unfold relabel;dsimp;induction sc.names with
 |nil=>rfl|cons y r ih=>
  let⟨n,k⟩:=y;show List.lookup x ((if Qc6=yx then (n,NameKind.cell) else Qif)::_)=_;by_cases hx:x==n
  ·let e:=eq_of_beq hx;subst e;by_cases L:(k==Vhr&&env.scope.kind == .function&&env.kindOf x==yz .cell)=yx;·rw[iP0 L,Vbo,beq_self_eq_true,Vbo,beq_self_eq_true];exact congrArg yz Qqf.symm
   ·rw[iN0 L,Vbo,beq_self_eq_true,Vbo,beq_self_eq_true];exact congrArg yz Qrf.symm
  let B:Qqb=false:=by simpa using hx
  by_cases L:Qc6=yx;·rw[iP0 L,Vbo,B,Vbo,B];exact ih
  ·rw[iN0 L,Vbo,B,Vbo,B];calc ih
def X9b{own:LS}{cl:List Qx4}{fp:LR}{m:Str->OV}(so:ScOk X.env.scope sc X.N own)(I:Inv X pc σ H s)(hf:∀b∈fp,Xbc X pc H b)
  (ac:∀x c,cl.lookup x=yz c->QA5\/(x∈own/\C<c/\s4.heap.IsCell c yy)) (ak:∀x y c,cl.lookup x=yz c->cl.lookup y=yz c->x=y) (ag:∀x,sc.names.lookup x=yz .cell\/sc.names.lookup x=yz .free->∃c,cl.lookup x=yz c)
  (af:Da=s.heap.objs.size) (hC:C=s.heap.objs.size+1) (aq:s4.os=s.os) (ah:s4.gens=s.gens) (keep:∀b o,s.heap.get? b=yz o->s4.heap.get? b=yz o)
  (ao:s4.heap.Ns C m) (al:ObjOk X.prog X.w QRX s4.heap Da u) (am:∀b∈fp,b<s.heap.objs.size):
  Inv Qn0 [] Qe7 QRX s4:=by
 let hD:H Da=none:=by rw[af];exact I.hok.fresh Qd
 let ap:H C=none:=by rw[hC];exact I.hok.fresh QJT
 let av:C≠Da:=by rw[hC,af];exact Vc5 QKT
 let B:∀b,b<s.heap.objs.size->b≠C/\b≠Da:=λb hb=>⟨by rw[hC];calc Ul Qje,by rw[af];calc Ul hb⟩;let ab:∀x c,X.env.cells.lookup x=yz c->c<s.heap.objs.size:=λx c e=>by let⟨v,q⟩:=I.cell x c e;exact q.lt
 calc⟨⟨I.ok.mod,so.kind,I.ok.glob,I.ok.blt,?_,?_,?_,?_,I.ok.hd,I.ok.frames,.inl rfl,?_,I.bs,?_,?_,?_,I.stack,I.stkFree⟩,aq,?_,?_,?_,?_,?_,?_,?_,?_,?_⟩;·show s.heap.objs.size<=C;rw[hC];exact Vd6 _
 ·exact ak
 ·intro x hx;let ae:(relabel sc X.env).names.lookup x=yz .cell\/(relabel sc X.env).names.lookup x=yz .free:=hx;rw[Xcn]at ae;cases e:sc.names.lookup x with
  |none=>rw[e]at ae;simp! at ae|some k=>
   rw[e]at ae;let hk:k=.cell\/k=.free:=by
    rcases ae with h|h
    ·simp[Vaa,Vx]at h;split at h;·rename_i hc;simp[bA0,beq_iff_eq]at hc;exact .inr hc.1.1
     ·exact .inl h
    simp[Vaa,Vx]at h;split at h;·cases h
    ·exact .inr h
   exact ag x (hk.elim (λz=>.inl QQf) λz=>.inr QQf)
 ·intro x c h e;let hx:x∈own:=by simpa using (show own.contains x=yx from h)
  rcases ac x c e with⟨z,_⟩|⟨_,z,_⟩;·exact aB0 hx z
  ·show s.heap.objs.size<=c;rw[hC]at z;exact Vc4 QGT
 ·intro b hb;calc⟨(B b QWc).1,λx c h=>?_⟩;rcases ac x c h with⟨_,z⟩|⟨_,z,_⟩;·exact QsL.2.2.2.2.1 x c z
  ·rw[hC]at z;exact Vc5 (Vey QWc QGT)
 ·exact V5 I.ok.bsz I.sz
 ·intro b o e hb;rcases QsL.2.2.2.1 with z|z;·exact I.ok.noex b o e z
  ·exact aB0 (Uk QgF (V5 I.ok.bsz z)) QfH
 ·intro b hb hm;rcases Vr.mp (I.stkSub b hm) with z|z;·exact QsL.2.1 z
  ·exact QsL.2.2.1 z
 ·rw[ah];exact I.bare
 ·calc⟨λb o e _ _ _=>keep b o e,λb o e _ _ _=>⟨o.slots,keep b o e⟩,λb o e n _=>?_,λb o e _=>⟨o,keep b o e⟩,λb xs e=>?_,λb o u e=>?_,λb ps e=>?_⟩;·show upd H Da _ b=yy;rw[Xe (B b QgF).2];exact n
  ·rw[Xe Q1T];exact e
  ·rw[Xe Q1T];exact e
  rw[Xe Q1T];exact e
 ·calc⟨m,ao,λi x v h1 h2 h3=>?_⟩;let hi:i<X.N.length:=by
   by_cases hi:i < σ.length;·rw[I.len]at hi;exact hi
   ·rw[Vac Q0,Vdv]at h2;split at h2<;>cases h2
  let L:QBW[i]?=yz x:=h1;unfold Xav at L;rw[Vy Qr0,Ud]at L;rw[Vy (by rw[I.len];calc hi)]at h2;cases ey:X.N[i]? with
  |none=>rw[ey]at L;cases L|some y=>
   rw[ey]at L;simp[Vaa,Vx]at L;let au:Vis (relabel sc X.env) x:=h3;let aj:=so.loc;let ai:x ∉ own:=λhm=>by let nd:=so.nd;unfold Xav at nd;rw[Vb9]at nd;exact nd.2.2 x (Vm.mpr ⟨y,V7 ey,L⟩) x hm rfl
   let aa:sc.names.lookup x=yz .free:=by
    let:(relabel sc X.env).names.lookup x=yz .local\/(relabel sc X.env).names.lookup x=yz .cell\/(relabel sc X.env).names.lookup x=yz .free:=au;rw[Xcn]at this;cases e:sc.names.lookup x with
    |none=>rw[e]at this;simp! at this|some k=>
     cases k with
     |free=>rfl|«local»=>calc aB0 (aj x e) ai|cell=>calc aB0 (so.cel _ (Xdl e) rfl) ai|_=>rw[e]at this;simp! at this
   let ar:x=y:=by
    unfold hid at L;split at L;·rename_i hc;let z:=so.hidn y QqZ hc;rw[L,aa]at z;cases z
    ·exact L.symm
   subst ar;let⟨c,hc⟩:=ag x (.inr aa);let an:=((ac x c hc).resolve_right λz=>ai z.1).2;let kx:=so.free QjN (Xdl aa) rfl;let⟨m0,aw,hl⟩:=I.loc;let⟨u,ru,lk⟩:=hl i x v ey h2 (kx.elim (λz=>.inr QjK) λz=>.inr QpW);exact⟨u,ru,.inr ⟨?_,c,hc,?_⟩⟩
   ·show(relabel sc X.env).names.lookup x=yz .cell\/(relabel sc X.env).names.lookup x=yz .free;rw[Xcn,aa];simp[Vaa];split;·exact .inl rfl
    ·exact .inr rfl
   rcases lk with⟨k,_⟩|⟨_,c',hc',hcell⟩;·let k':X.env.scope.names.lookup x=yz .local:=k;rcases kx with z|z<;>(rw[k']at z;cases z)
   ·rw[an]at hc';cases hc';exact⟨_,keep _ _ hcell.choose_spec.1,hcell.choose_spec.2⟩
 ·intro x c h;rcases ac x c h with⟨_,z⟩|⟨_,_,z⟩;·let⟨v,o,ho,hd⟩:=I.cell x c z;exact⟨v,o,keep _ _ ho,hd⟩
  ·exact⟨yy,z⟩
 ·show upd H Da _ C=yy;rw[Xe av];exact ap
 ·intro x c h;rcases ac x c h with⟨_,z⟩|⟨_,z,_⟩;·rw[Xe (B c (ab x c z)).2];exact I.freeC x c z
  ·rw[hC]at z;rw[Xe (by rw[af];calc Vc5 QGT)];exact I.hok.fresh (Vc4 QGT)
 ·intro p hp;rw[Va4]at hp;let⟨e,n,ne,nf,d⟩:=I.pin p hp;calc⟨keep _ _ e,?_,QHd.1,λhm=>?_,d⟩;·rw[Xe QHd.2];exact n
  ·rcases Vr.mp (I.stkSub _ hm) with z|z;·exact ne z
   ·exact nf z
 ·intro b o e;by_cases hb:b=Da;·subst hb;rw[Xu]at e;cases e;exact al
  ·rw[Xe hb]at e;exact(I.hok b o e).stay (λc v _ q=>keep c v q) (λc q=>by rw[Xe Qjc];calc q) λc xs _ q=>by rw[Xe Qjc];exact q
 ·show Qe7.length=QBW.length;unfold Xav;simp![I.len]
def X48(I:Inv X pc σ H s)(B:∀b∈fp,Xbc X pc H b)(J:Inv Qn0 [] σ' H' s'):
  Inv X pc σ H' s':=
 I.call' J.os J.base J.hok J.bare λb L=>⟨QeT.2.2.2.1,QeT.2.1,QeT.2.2.2.2.1,QeT.2.2.2.2.2⟩
def Xgx:∀(names:List QiJ) (n:Nat) (B:List Qx4),Vci n names B=Vci n names []++B
 |[]=>λ_ _=>rfl| (x,k)::r=>λn B=>by
  unfold Vci;split;·rw[Xgx r QF6 ((x,n)::B),Xgx r QF6 [(x,n)],Uj];rfl
  ·calc Xgx r n B
def Xo9:∀(names:List QiJ) (n:Nat),QVf∈Vci n names []->(x,.cell)∈names
 |[]=>λ_ h=>nomatch h| (y,k)::r=>λn h=>by
  unfold Vci at h;split at h
  ·rename_i B;rw[Xgx]at h;rcases Um.mp h with h|h;·exact V2 _ (Xo9 r QF6 h)
   ·let e:=Vw.mp h;cases e;rw[eq_of_beq B];exact V6
  calc V2 _ (Xo9 r n h)
def X49 {M:Model} {sc:Vaj} {g:Addr} {L:List Qx4} {q:Str} {env:Vb4} {R:Vb4->Vc->Prop} (h:R {scope:=sc,locals:=s.heap.objs.size,globals:=g,cells:=Vci Qi0 sc.names L,qual:=q,func:=yy,code:=env.code,frame:=env.frame,builtins:=env.builtins} {s with heap:=pushCells QxP sc.names}):
  Vg M A (newFunctionEnv sc g L [] q yy .none (yz env)) R E s:=by
 simp[newFunctionEnv,Option.isSome_some,if_true];calc Va (wpAny_alloc ?_);calc Va (wpAny_layCells _ (λname kind cells=>by cases B:kind==NameKind.cell<;>simp![B]) _ _ _ _ ?_);rw[show({s with heap:=s.heap.push QO0 }:Vc).heap.objs.size=s.heap.objs.size+1 from Vao ..];calc Va (by rw[Vg1];calc Vd (Vd h))
def Xnf{k:Bool}{AR:Addr->Xgw}{ap:Sem Vb}{oA:Obj}{uA:Addr->HO}(hA:∀Da,Xkc X.K Da Qxg)(bu:∀(A:Uz) (E:VP) (s:Vc) (Q:VP),Q QC {s with heap:=s.heap.push oA}->Vg Q3 A ap Q E s)(br:oA.isFreed=yw)
  (bq:∀(H:Hp) (h:Heap) (a:Addr),h.get? a=yz oA->ObjOk X.prog X.w H h a QJh) (bm:∀a ρ (H:Hp),H a=yz QJh->AR a ρ H [])
  (hc:X.calm=yx) (so:ScOk X.env.scope sc X.N own) (bt:QvO=n) (hg:gens=QT2::gens.tail) (hi:DI X tg iter fi) (hs:∀x,Vcj iter X.env x=pure x)
  (hG:∀pc s H cl C fp,DG Qn0 tg t) (hT:∀pc s H cl C fp,DTs Qn0 ifs tf) (hB:∀pc s H cl C fp Da,Xdk k Qxg Qn0 Da elt gens sc cpos 0 body)
  (I:S0 X pc σ H s ρ S env) (q:fi env S=.ok src S1) (hr:Yz src.get t QU3 QE8 0 Q60 [] S1=.ok accf Sf)
  (hQ:∀s' H' ρ' Da C m,S0 X pc σ H' s' ρ' Sf env->Stp X.K ρ ρ' H H'->Da ∉ ρ'->H Da=yy->AR Da ρ' H' accf->s'.heap.Ns C m->(∀x c,X.env.cells.lookup x=yz c->c≠C)->C≠X.env.locals->H' C=yy->(∀ak aj H'' h',Inv X pc aj H'' ak->H'' C=yy->Vab C ak.heap h'->Inv X pc aj H'' {ak with heap:=h' }) ->
   compPost Q3 X.A E use Q QJ7 C QwH s'):
  Vg Q3 X.A (comprehension QJK sc X.env Qw9 ap yw Q3F use) Q E s:=by
 let aw:∀x∈sc.names,x.2=.free->∃c,X.env.cells.lookup x.1=yz c:=λx hx hf=>by
  rcases so.free x hx hf with z|z;·exact I.inv.ok.has x.1 QjK
  ·exact I.inv.ok.has x.1 QpW
 let⟨cl,ar,be,bc⟩:=Xkb aw;calc Vjx (g:=QT2) (gs:=gens.tail) QP5 hs ar so.kind so.names ?_;exact Vp (E:=λ_ _=>False) Qv9 (λv s1 h1=>Vp h1 (λb1 s2 h2=>?_) λ_ _ z=>z.elim) λ_ _ z=>z.elim;·rw[q]at z;let⟨k,S2,e,z⟩:=z;cases e
 ·let⟨bz,S2,it,fp,tn,J,H2,ah,e1,rfl,I2,T,t0,f2,bv,au,st2⟩:=h2;rw[q]at e1;cases e1;let J2:=I.step I2 au st2;calc bu _ _ _ _ (X49 ?_);dsimp;generalize ax:s2.heap.push oA=B;let hC:B.objs.size=s2.heap.objs.size+1:=by rw[<-ax,Vao]
  let below:∀b,b<s2.heap.objs.size->b≠B.objs.size:=λb hb=>by rw[hC];exact Ul Qje
  let ag:=cellsFrom_ok sc.names QoB QpB [] ⟨λ_ _ hm=>(nomatch hm),Vek⟩ (by rw[Vao];calc Vi _);rw[Vao]at ag;obtain⟨m1,ab⟩:∃m1,(pushCells (B.push QO0) sc.names).Ns B.objs.size m1:=by let⟨o,es,ep,ho,rest⟩:=(Heap.Ns.new ..:QoB.Ns B.objs.size _);exact⟨_,o,es,ep,pushCells_keeps _ _ _ _ ho,rest⟩
  let av:∀b o,B.get? b=yz o->(pushCells QoB sc.names).get? b=yz o:=λb o e=>pushCells_keeps _ _ b o QAE;generalize pushCells QoB sc.names=L at ag ab av |-;let ba:∀b o,s2.heap.get? b=yz o->L.get? b=yz o:=λb o e=>av b o (ax▸Vf _ e);let a9:L.get? s2.heap.objs.size=yz oA:=av _ _ (ax▸Vo _ br);let aa:∀x c,QVf∈Vci QpB sc.names []->x∈own/\B.objs.size<c/\L.IsCell c none:=λx c hm=>⟨so.cel _ (Xo9 _ _ hm) rfl,QJQ.2,QJQ.1⟩;let two:∀x c,Q02.lookup x=yz c->QVf∈Vci QpB sc.names []\/QA5:=λx c h=>by
   rw[Xgx,List.lookup_append,Option.or_eq_some_iff]at h;rcases h with h|⟨_,h⟩;·exact .inl (Xrb h)
   ·exact .inr ⟨so.apart _ Qna.2 rfl,Qna.1⟩
  let ai:∀x c,Q02.lookup x=yz c->QA5\/(x∈own/\B.objs.size<c/\L.IsCell c yy):=λx c h=>(two x c h).elim (λz=>.inr (aa x c z)) .inl;let ac:∀x c,X.env.cells.lookup x=yz c->c<B.objs.size:=λx c e=>by let⟨v,z⟩:=I2.cell x c e;rw[hC];exact Vbi z.lt
  let aq:∀x y c,Q02.lookup x=yz c->Q02.lookup y=yz c->x=y:=λx y c h1 h2=>by
   rcases two x c h1 with a|⟨_,a⟩<;>rcases two y c h2 with b|⟨_,b⟩
   ·exact name_of_addr ag.apart a b
   ·exact aB0 (ac y c b) (Nat.lt_asymm (aa x c a).2.1)
   ·exact aB0 (ac x c a) (Nat.lt_asymm (aa y c b).2.1)
   exact I2.ok.inj x y c a b
  let af:∀x,sc.names.lookup x=yz .cell\/sc.names.lookup x=yz .free->∃c,Q02.lookup x=yz c:=λx h=>Vdj.mp (Vhh sc.names _ cl (h.imp id λz=>by let⟨c,hc⟩:=bc QjN (Xdl z) rfl;calc Vdj.mpr ⟨c,hc⟩));generalize Vci QpB sc.names cl=al at ai aq af two |-;let an:∀b∈fp,b<s2.heap.objs.size:=λb hb=>by let⟨o,e,_⟩:=T.obj _ _ t0 b hb;exact Vz e
  let ae:H2 s2.heap.objs.size=none:=I2.hok.fresh Qd;let az:s2.heap.objs.size ∉ ah:=λhm=>by let⟨w,hw,_⟩:=au.mem hm;rw[ae]at hw;cases hw
  generalize bb:({s2 with heap:=L}:Vc)=s4;let IY:Inv Qb4 [] Qe7 QU1 s4:=by subst bb;exact X9b so I2 f2 ai aq af rfl hC rfl rfl ba ab (bq _ _ _ a9) an
  let ay:Stp X.K ah ah H2 QU1:=Stp.upd ae;let SY:S0 Qb4 [] Qe7 QU1 s4 ah S1 Q60:=by
   calc⟨IY,au.upd ae,⟨by simp![J2.er.len,bt],λi d e=>?_⟩⟩;let hi:i<lg env:=by
    by_cases hi:i<lg env;·exact hi
    ·rw[Vac Q0,Vdv]at e;split at e<;>cases e
   rw[Vy hi]at e;let⟨v,h1,h2⟩:=J2.er.val i d e;exact⟨v,by rw[Vy (by rw[<-J2.er.len];calc hi)];calc h1,h2.mono ay⟩
  let t4:tn 0 s4.heap:=by subst bb;exact T.keep 0 _ _ t0 λb hb o e=>ba b o e
  let fY:∀b∈fp,Xbc Qb4 [] QU1 b:=λb hb=>by
   let⟨a1,a2,a3,a4,a5,a6⟩:=f2 b hb;exact⟨by rw[Xe (Ul QwS)];calc a1,below b QwS,λhm=>?_,.inl hb,λx c h=>(ai x c h).elim (λz=>a5 x c z.2) (λz=>Vc5 (Vey (by rw[hC];calc Vbi QwS) z.2.1)),λp hp=>?_⟩
   ·rcases Vr.mp (I2.stkSub b hm) with z|z;·exact a2 z
    ·exact a3 z
   rw[Va4]at hp;exact a6 p hp
  exact Vea (Xxd (hA s2.heap.objs.size) (Y:=blk X pc s2 H2 sc al B.objs.size own fp) (H0:=H2) (ρ0:=ah) (P:=compPost Q3 X.A E use Q (.ref s2.heap.objs.size) B.objs.size QwH) hc (by rw[hg];rfl) T (hG _ _ _ _ _ _) (hT _ _ _ _ _ _) (hB _ _ _ _ _ _ _) ae SY t4 fY (bv.mono ay) az (bm _ _ _ Xu) ay hr
   λs' b0 H' ρ' bx I' _ bw bo a8 _=>?_) λr s' h=>?_
  ·let JX:=X48 I2 f2 I'.inv;let a0:H' B.objs.size=none:=I'.inv.free;let a7:s2.heap.objs.size<=B.objs.size:=by rw[hC];exact Vd6 _
   let⟨m',bh,_⟩:=I'.inv.loc;let fo:=I2.fpOk (H':=H') a7 a0;let bp:H s2.heap.objs.size=none:=by
    cases e:H s2.heap.objs.size with
    |none=>rfl|some o=>
     by_cases hm:s2.heap.objs.size∈ρ;·let⟨k,hk,ek⟩:=Vb1.mp hm;exact aB0 (V7 (st2.pre k _ (by simp![hk,ek]))) az
     ·rw[st2.keep _ o e hm]at ae;cases ae
   exact hQ s' H' ρ' s2.heap.objs.size B.objs.size m' ⟨JX,I'.sr,I.er.mono Q5U⟩ Q5U bw bp bo bh fo.2.2.2.2.1 (λz=>fo.2.1 z) a0 λak aj H'' h' bj ao bg=>?_;let am:Xbc X pc H'' B.objs.size:=⟨ao,fo.2⟩;exact bj.turned (t':=ak.toks) (λb o hb e=>(bg.2 b hb).trans e) ao am.2.1 am.2.2.2.1 am.2.2.2.2.1 am.2.2.2.2.2
  cases r with
  |ok f=>cases use<;>calc h|error e=>calc h.elim
universe e
def Xfy{get:Sto->Nat->Option Qw3}{body:En->LD->Sto->R (LD)}:∀(k i:Nat) (env:En) (B:LD) (S:Sto) (n:Nat) (S':Sto),Yz get t body k i env B S≠.ex n S'
 |0=>λi env B S n S'=>λz=>nomatch z|k+1=>λi env B S n S'=>by
  simp[Yz];cases get S i with
  |none=>exact λz=>nomatch z|some o=>
   cases o with
   |none=>exact λz=>nomatch z|some d=>
    dsimp;cases Xx t d env with
    |none=>exact λz=>nomatch z|some L=>
     dsimp;cases body L B S with
     |ok a S1=>calc Xfy k QX2 L a S1 n S'|ex _ _=>calc λz=>nomatch z|bad=>calc λz=>nomatch z
section
variable{X:Cx}{pc:LA}{σ:L2.St}{H:Hp}{s:Vc}{ρ:LR}{S:Sto}{env:En}{Q:VP}{E:VP}
def SR.adopt{K:Vh}{Da:Addr}{vs:LW}{xs:LD}(r:SR K bo ρ S H)(hn:Da ∉ ρ)(hD:H Da=yz Q93)(rd:RDs K ρ H xs vs):SR K bo QRa QQ1 H:=by
 let L:Mon K ρ QRa H H:=Q66;calc⟨r.tab,by simp![r.len],?_,λn a ob h1 h2=>?_⟩;·rw[Vb9];calc Q76;rw[Vw.mp hy];exact λz=>hn QJV
 ·by_cases B:n < ρ.length;·rw[Vy B]at h1;rw[Vy QxL]at h2;exact QnN.mono' L rfl
  ·let e:n=lg ρ:=by
    let:=QDF.1;simp! at this;omega
   subst e;simp! at h1;rw[r.len]at h2;simp! at h2;subst h1 h2;calc⟨vs,hD,RDs.mono' L _ _ rd⟩
def Stp.adopt{K:Vh}{Da:Addr}{ρ':LR}{H':Hp}(st:Stp K ρ ρ' H H')(B:H Da=yy):Stp K ρ QcY H H' where
 pre:=λn a h=>by let z:=st.pre n a h;rw[Vy (Vk.mp z).1];exact z
 tup:=st.tup
 frz:=st.frz
 new:=λa h=>by
  rcases Um.mp h with h|h;·exact st.new a h
  ·rw[Vw.mp h];exact .inr B
 keep:=st.keep
variable{elt:Expr}{gens:List Vca}{sc:Vaj}{cpos:Pos}{tg iter:Expr}{ifs:LX}{own:LS}{t:Tg}{n:Nat}{fi:En->Sto->R Src}{tf:En->Sto->R Bool}{body:En->LD->Sto->R (LD)}
abbrev Xln(fi:En->Sto->R Src)(t:Tg)(n:Nat)(tf:En->Sto->R Bool)(body:En->LD->Sto->R LD)(env:En)(S:Sto):R D:=
 Qx9.bind λsrc S=>(Yz src.get t QU3 QQ4 0 Q60 [] S).bind λB S=>.ok Q7 Qqe
def Xsr{k:Bool}{aa:Sem Vb}{use:Option (Vb->Sem Unit)}{m:Nat}(so:ScOk X.env.scope sc X.N own)(hg:gens=QT2::gens.tail)(hi:DI X tg iter fi)(hs:∀x,Vcj iter X.env x=pure x)
  (I:S0 X pc σ H s ρ S env) (q:fi env S=.ex m S1) (hE:∀x s',XPd X pc σ ρ H m S1 x s'->E x s'):
  Vg Q3 X.A (comprehension QJK sc X.env Qw9 aa yw Q3F use) Q E s:=by
 let L:∀x∈sc.names,x.2=.free->∃c,X.env.cells.lookup x.1=yz c:=λx hx hf=>by
  rcases so.free x hx hf with z|z;·exact I.inv.ok.has x.1 QjK
  ·exact I.inv.ok.has x.1 QpW
 let⟨cl,B,ae,ab⟩:=Xkb L;calc Vjx (g:=QT2) (gs:=gens.tail) QP5 hs B so.kind so.names ?_;exact Vp (hi pc s σ H ρ S env E I Qy λx s' z=>?_) (λv s1 h1=>Vp h1 (λaf s2 h2=>?_) λ_ _ z=>z) λ_ _ z=>z;·rw[q]at z;let⟨k,S2,e,z⟩:=z;cases e;exact hE x s' z
 ·let⟨ac,S2,_,_,_,_,_,_,e1,_⟩:=h2;rw[q]at e1;cases e1
def Xss (A:Uz) (E:VP) (s:Vc) (Q:VP) (h:Q QC {s with heap:=s.heap.push Qm7 }):Vg Q3 A QWX Q E s:=Val h
def Xxf (H:Hp) (h:Heap) (a:Addr) (e:h.get? a=yz Qm7):ObjOk X.prog X.w H h a (.lst []):=⟨Vaq _,[],0,.nil,e⟩
def X9c(hc:X.calm=yx)(so:ScOk X.env.scope sc X.N own)(ac:QvO=n)(hg:gens=QT2::gens.tail)(hi:DI X tg iter fi)(hs:∀x,Vcj iter X.env x=pure x)
  (hG:∀pc s H L C fp,DG Qu7 tg t) (hT:∀pc s H L C fp,DTs Qu7 ifs tf) (hB:∀pc s H L C fp Da,Xdk yw QYK Qu7 Da elt gens sc cpos 0 body):
  DE X Qk4 (Xln fi t n tf body):=by
 intro pc s σ H ρ S env I B;let ab:firstIter gens X.env=eval iter X.env:=by rw[hg];rfl
 let ae:firstAsync gens=false:=by rw[hg];rfl
 rw[eval_ListComp,ab,ae];unfold Xln at B |-;cases q:fi env S with
 |bad=>rw[q]at B;cases B rfl|ex m S1=>exact Xsr (k:=yw) so hg hi hs I q λx s' z=>⟨m,S1,rfl,z⟩|ok src S1=>
  rw[q]at B;simp[Rk0]at B |-;cases q2:Yz src.get t QU3 QE8 0 Q60 [] S1 with
  |bad=>rw[q2]at B;cases B rfl|ex m S2=>calc aB0 q2 QEO|ok accf Sf=>calc Xnf (k:=yw) (AR:=λDa=>LstA X.K Da) (uA:=λ_=>.lst []) QDS Xss rfl Xxf Q3G hc so ac hg hi hs hG hT hB I q q2 λs' H' ρ' Da C m I' st' hn' h0 QsT hns hcells hCl hCn back=>?_;calc⟨m,hns,λh' aa=>?_⟩;calc .mk (v:=.ref Da) (st'.adopt h0) (back s' σ H' h' I'.inv hCn aa) rfl ?_ (I'.sr.adopt hn' hD' ra');simp[RD];calc QnC
def X5a{i:Nat}(hN:X.N.Nodup)(ae:X.N[i]?=yz x)(hx:X.env.scope.names.lookup x=yz .local)(ah:Vgq Qk4 (yz QrF) spos.line X.env=pure yx)
  (hc:X.calm=yx) (so:ScOk X.env.scope sc X.N own) (af:QvO=n) (hg:gens=QT2::gens.tail) (hi:DI X tg iter fi) (hs:∀x,Vcj iter X.env x=pure x)
  (hG:∀pc s H cl C fp,DG Qn0 tg t) (hT:∀pc s H cl C fp,DTs Qn0 ifs tf) (hB:∀pc s H cl C fp Da,Xdk yw QYK Qn0 Da elt gens sc cpos 0 body):
  DS X (.Assign QQa Qk4 spos) yw (λenv S=>QNI.bind λd S=>match Xx QJ1 d env with|some env=>.ok QW3 S|none=>.bad):=by
 intro pc s σ H ρ S env I B;dsimp at B |-;let ab:firstIter gens X.env=eval iter X.env:=by rw[hg];rfl
 let ai:firstAsync gens=false:=by rw[hg];rfl
 rw[exec_Assign_Name_used _ _ _ _ ah];calc Va (Ve7 QoZ);show Vg _ X.A (do let _ <- comprehension Qk4 sc X.env Qw9 QWX (firstAsync gens) (firstIter gens X.env) (yz Q5P)) _ _ s;rw[ab,ai];calc Va (Vp (Q:=λ_ s'=>OkS X pc σ ρ H yw (QNI.bind λd S=>match Xx QJ1 d env with|some env=>.ok QW3 S|none=>.bad) .next s') ?_ (λ_ s' hq=>Vd (Vd hq)) λ_ _ z=>z);unfold Xln at B |-;cases q:fi env S with
 |bad=>rw[q]at B;cases B rfl|ex m S1=>exact Xsr (k:=yw) so hg hi hs I q λx s' z=>.of .refl z rfl|ok src S1=>
  rw[q]at B;simp[Rk0]at B |-;cases q2:Yz src.get t QU3 QE8 0 Q60 [] S1 with
  |bad=>rw[q2]at B;cases B rfl|ex m S2=>exact aB0 q2 QEO|ok accf Sf=>
   exact Xnf (k:=yw) (AR:=λDa=>LstA X.K Da) (uA:=λ_=>.lst []) (use:=yz Q5P) QDS Xss rfl Xxf Q3G hc so af hg hi hs hG hT hB I q q2 λs' H' ρ' Da C m I' st' hn' h0 QsT hns hcells hCl hCn back=>?_;show Vg _ X.A (assign QrF X.env QJ7) _ _ s';calc Vjh (Xmz I'.inv hN ae QYd (show RelV QJ7 QJ7 from rfl) (λs2 I2 L=>?_) QWd);let⟨ad,L,ac⟩:=L;let ag:ad≠C:=by
    rcases ac with z|z;·rw[z];exact Ne.symm hCl
    ·exact hcells x ad z
   calc⟨m,hns.sameBut L (Ne.symm ag),λh' aa=>?_⟩;let J:=back s2 _ H' h' I2 hCn aa;calc⟨.nx (env.set i (yz (.ref Sf.length))),Sf++[.lst accf],rfl,rfl,_,H',ρ'++[Da],⟨J,I'.sr.adopt hn' hD' ra',?_⟩,st'.adopt h0,λz=>nomatch z⟩;let mo:Mon X.K ρ' QcY H' H':=Q66;calc(I'.er.mono' mo).set i ?_;simp[RD];calc QnC
universe e
section
variable{X:Cx}{pc:LA}{σ:L2.St}{H:Hp}{s:Vc}{ρ:LR}{S:Sto}{env:En}{Q:VP}{E:VP}
theorem BlR(X:Cx)(k:Bl)(f:Vb):Prop:=
 ∀(pc:LA) (s:Vc) (σ:L2.St) (H:Hp) (ρ:LR) (S:Sto) (env:En) (ds:LD) (vs:LW) (us:LV) (E:VP),S0 X pc σ H s ρ S env->RDs X.K ρ H ds vs->Vals vs us->X2 k ds S≠.bad ->
  Vg Q3 X.A Q5O (OkP X pc σ ρ H (X2 k ds S)) E s
def RDs.one{K:Vh}{d:D}{vs:LW}(h:RDs K ρ H [d] vs):∃v,vs=[v]/\RD K ρ H d v:=by simp[RDs]at h;let⟨v,r,rfl,h1,rfl⟩:=h;calc QAX
def RDs.two{K:Vh}{d e:D}{vs:LW}(h:RDs K ρ H [d,e] vs):∃v u,vs=QGf/\RD K ρ H d v/\RD K ρ H e u:=by simp[RDs]at h;let⟨v,r,rfl,h1,u,B,rfl,h2,rfl⟩:=h;calc⟨v,u,rfl,h1,h2⟩
def Yee:BlR X .len QWG:=by
 intro pc s σ H ρ S env ds vs us E I L rv B;match ds,L,B with
 |[],_,B=>cases B rfl|_::_::_,_,B=>cases B rfl|[d],L,B=>
  let⟨v,rfl,r1⟩:=L.one;let go:∀xs,Xi S d=yz xs->Vg Q3 X.A (call QWG us) (OkP X pc σ ρ H (.ok Q4A S)) E s:=λxs h=>by let⟨a,ws,rfl,hq,hr⟩:=I.seq h r1;exact Xhv (Q':=λz H'=>z=.int ws.length/\H'=H) Xog I.inv rv ⟨a,ws,rfl,hq,rfl,rfl⟩ λw s' z H' J rz zz=>?_;let⟨e1,e2⟩:=zz;subst e1 e2;let⟨t,rfl⟩:=rz;rw[<-hr.length];exact Ym I.sr J
  cases d with
  |str _=>cases B rfl|tup xs=>exact go xs rfl|fro xs=>exact go xs rfl|ref n=>
   simp[X2,Xi]at B |-;cases e:lstAt S n with
   |none=>rw[e]at B;cases B rfl|some xs=>calc go xs e
  |non=>cases B rfl|bl _=>cases B rfl|int _=>cases B rfl|fn _ _=>cases B rfl|edc=>cases B rfl
def X5b:BlR X .tuple Qx3:=by
 intro pc s σ H ρ S env ds vs us E I rd rv B;match ds,rd,B with
 |[],_,B=>cases B rfl|_::_::_,_,B=>cases B rfl|[d],rd,B=>
  let⟨v,rfl,r1⟩:=rd.one;simp[X2]at B |-;cases e:Xi S d with
  |none=>rw[e]at B;cases B rfl|some xs=>
   dsimp;let⟨a,ws,rfl,L,hr⟩:=I.seq e r1;rcases L with L|L;·exact Xhv (Q':=λz H'=>∃p,H p=yy/\z=.ref p/\H'=upd H p (.tup ws)) Xgl I.inv rv ⟨a,ws,rfl,.inl ⟨L,λl hl=>Q5R⟩⟩ λw s' z H' J rz zz=>?_;let⟨p,hp,e1,e2⟩:=zz;subst e1 e2;cases rz;exact Xcm J hp I.sr hr
   ·calc Xhv (Q':=λz H'=>z=.ref a/\H'=H) Xgl I.inv rv ⟨a,ws,rfl,.inr ⟨L,rfl,rfl⟩⟩ λw s' z H' J rz zz=>?_;let⟨e1,e2⟩:=zz;subst e1 e2;calc .mk .refl J rz ?_ I.sr;simp[RD];calc⟨a,ws,rfl,L,hr⟩
def X9d:BlR X .list QjU:=by
 intro pc s σ H ρ S env ds vs us E I L rv B;match ds,L,B with
 |[],_,B=>cases B rfl|_::_::_,_,B=>cases B rfl|[d],L,B=>
  let⟨v,rfl,r1⟩:=L.one;simp[X2]at B |-;cases e:Xi S d with
  |none=>rw[e]at B;cases B rfl|some xs=>dsimp;let⟨a,ws,rfl,hq,hr⟩:=I.seq e r1;calc Xhv (Q':=λz H'=>∃p,H p=yy/\z=.ref p/\H'=upd H p QyH) Xoh I.inv rv ⟨a,ws,rfl,hq,λl hl=>Q5R⟩ λw s' z H' J rz zz=>?_;let⟨p,hp,e1,e2⟩:=zz;subst e1 e2;cases rz;calc Xa4 J hp I.sr hr
def Xby:∀ {xs:LD} {bs:List Bool},X3 xs=yz bs->xs=bs.map D.bl
 |[],ns,h=>by simp[X3,Vx]at h;subst h;rfl|.bl i::r,ns,h=>by simp[X3,Ug]at h;let⟨ms,h1,rfl⟩:=h;rw[Xby h1];rfl|.non::_,_,h=>by simp![X3]at h|.int _::_,_,h=>by simp![X3]at h|.str _::_,_,h=>by simp![X3]at h|.tup _::_,_,h=>by simp![X3]at h|.ref _::_,_,h=>by simp![X3]at h|.fro _::_,_,h=>by simp![X3]at h|.fn _ _::_,_,h=>by simp![X3]at h|.edc::_,_,h=>by simp![X3]at h
def Xxg(bs:List Bool)(f:Nat->Bool)(h:∀i,f i=QtV.getD yw):QvX.all f=bs.all id:=by
 rw[Vcd,Uc,Uc];constructor;·intro q b L;let⟨i,hi,rfl⟩:=Vb1.mp L;let:=q i Qr0;rw[h i]at this;simpa [hi] using this
 ·intro q i hi;let B:i<lg bs:=by simpa using hi
  rw[h i];simp[B,getElem?_pos,Vfx];calc q _ (Vb6 B)
def Xxh(bs:List Bool)(f:Nat->Bool)(h:∀i,f i=QtV.getD yw):QvX.any f=bs.any id:=by
 rw[Vcd,Vbp,Vbp];constructor
 ·rintro ⟨i,hi,q⟩;let B:i<lg bs:=by simpa using hi
  rw[h i]at q;simp[B,getElem?_pos,Vfx]at q;exact⟨_,Vb6 B,q⟩
 rintro ⟨b,hb,q⟩;let⟨i,hi,rfl⟩:=Vb1.mp hb;calc⟨i,by simpa using hi,?_⟩;rw[h i];simpa [hi] using q
def Xux{K:Vh}:∀ {bs:List Bool} {vs:LW},RDs K ρ H QvV vs->vs=bs.map V.bl
 |[],vs,h=>by simp[Vd1,RDs]at h;calc h|n::ns,vs,h=>by simp[Vd1,RDs]at h;let⟨v,r,rfl,h1,h2⟩:=h;simp[RD]at h1;subst h1;rw[Xux h2];rfl
def S0.its(I:S0 X pc σ H s ρ S env)(h:lstAt S n=yz xs)(B:RD X.K ρ H QM1 v)(rv:RelV v u):∃a vs its,u=.ref a/\s.heap.IsList a its.toArray/\RDs X.K ρ H xs vs/\Vals vs its/\Qc3<=V8:=by let⟨a,vs,rfl,h1,h2,L⟩:=I.lstR h B;cases rv;let⟨its,r,p,hz⟩:=I.inv.list (.of h2);calc⟨a,vs,its,rfl,p.isList,L,r,hz⟩
def Xfz{its:LV}{Q:VP}(hh:A.handled=yy)(L:s.heap.IsList a its.toArray\/s.heap.IsTuple a its.toArray)
  (h:∀I fp wr St B,Walks prog w A I fp wr Qf5 (λi v=>its[i]?=yz v) St->St 0 B.heap->(∀b∈fp,b<B.heap.objs.size) ->
   (∀h' tk,(∀b o,b ∉ wr->B.heap.get? b=yz o->h'.get? b=yz o)->({B with heap:=h',toks:=tk}:Vc)=Qs/\∀b o,s.heap.get? b=yz o->h'.get? b=yz o)->Q (.ref I) B):
  Vg Q5 A QKW Q E s:=by
 let aa:∀ {o:Obj},∀h' tk,(∀b ob,b ∉ QmE->(QEI:Vc).heap.get? b=yz ob->h'.get? b=yz ob)->({ (QEI:Vc) with heap:=h',toks:=tk}:Vc)=Qs/\∀b ob,s.heap.get? b=yz ob->h'.get? b=yz ob:=
  λ{o} h' tk hk=>⟨rfl,λb ob e=>hk b ob (by simp!;calc Ul QgF) QAE⟩
 let ab:∀ {o:Obj} (ha:a<s.heap.objs.size),∀b∈[s.heap.objs.size,a],b<(s.heap.push o).objs.size:=λ{o} ha b hb=>by
  rw[Vao];simp! at hb;rcases hb with rfl|rfl;·exact Vd2 _
  ·exact Vbi ha
 rcases L with L|L;·let ha:a<s.heap.objs.size:=Vz L.choose_spec.1;calc Vfj L ?_;let W:=Walks.list (prog:=prog) (w:=w) hh s.heap.objs.size a Qsg its.toArray;simp[Vq,Vh6]at W;exact h _ _ _ _ _ W QBI Q3g aa
 ·let ha:a<s.heap.objs.size:=Vz L.choose_spec.1;calc Vgr L ?_;let W:=Walks.tuple (prog:=prog) (w:=w) hh s.heap.objs.size a Qsg its.toArray;simp[Vq,Vh6]at W;calc h _ _ _ _ _ W QBI Q3g aa
def S0.seqI(I:S0 X pc σ H s ρ S env)(h:Xi S d=yz xs)(rd:RD X.K ρ H d v)(rv:RelV v u):∃a vs its,u=.ref a/\(s.heap.IsList a its.toArray\/s.heap.IsTuple a its.toArray)/\RDs X.K ρ H xs vs/\Vals vs its/\Qc3<=V8:=by
 let⟨a,vs,rfl,B,L⟩:=I.seq h rd;cases rv;rcases B with B|B;·let⟨its,r,p,hz⟩:=I.inv.list B;exact⟨a,vs,its,rfl,.inl p.isList,L,r,hz⟩
 ·let⟨its,r,p,hz⟩:=I.inv.tuple B;calc⟨a,vs,its,rfl,.inr p,L,r,hz⟩
def Xst{i:Nat}{v:Vb}:∀ {bs:List Bool} {its:LV},Vals QuV its->its[i]?=yz v->v=.bool (QtV.getD yw):=λ{bs its} hv e=>by
 let hl:i<lg bs:=by let h1:=hv.length;let h2:=QAM.1;simp! at h1;omega
 let⟨u,h1,h2⟩:=hv.get (i:=i) (x:=.bl bs[i]) QkX;rw[e]at h1;cases h1;simp![hl];calc h2
def Yef(hc:X.calm=yx):BlR X .all (.builtin "all"):=by
 intro pc s σ H ρ S env ds vs us E I rd rv B;match ds,rd,B with
 |[],_,B=>cases B rfl|_::_::_,_,B=>cases B rfl|[d],rd,B=>
  let⟨v,rfl,r1⟩:=rd.one;simp[X2]at B |-;cases e:Xi S d with
  |none=>rw[e]at B;cases B rfl|some xs=>
   rw[e]at B;simp[Uy]at B |-;cases e2:X3 xs with
   |none=>rw[e2]at B;cases B rfl|some bs=>
    dsimp;let q:=Xby e2;subst q;cases rv with
    |cons ru rr=>
     cases rr;let⟨a,ws,its,rfl,hl,hr,hv,hz⟩:=I.seqI e r1 ru;let hw:=Xux hr;subst hw;let L:Qf5=lg bs:=by rw[<-hv.length];simp!
     calc call_all_walk Qd2;calc Qk3;·rw[Xst hv hP];exact Vch hQ
     ·let⟨e3,k3⟩:=aa h' tk hk;rw[e3,L,Xxg bs _ λ_=>rfl];calc Xq I.sr QnB
def Xf0{i:Nat}{v:Vb}{ns:LI}{its:LV}(B:Vals QV2 its)(e:its[i]?=yz v):∃t,v=.int (QZV.getD 0) t:=by
 let hl:i<lg ns:=by let h1:=B.length;let h2:=QAM.1;simp! at h1;omega
 let⟨u,h1,h2⟩:=B.get (i:=i) (x:=.int ns[i]) QkX;rw[e]at h1;cases h1;simp![hl];calc h2
def X5c{d:D}(hc:X.calm=yx)(hb:X2 .anb [d] S=match (Xi S d).bind X3 with
   |some bs=>.ok QtQ S
   |none=>.bad) (I:S0 X pc σ H s ρ S env) (rd:RD X.K ρ H d v) (ru:RelV v u) (B:X2 .anb [d] S≠.bad):Vg Q3 X.A (call QxR [u]) (OkP X pc σ ρ H (X2 .anb [d] S)) E s:=by
 rw[hb]at B |-;cases e:Xi S d with
 |none=>rw[e]at B;cases B rfl|some xs=>
  rw[e]at B;simp[Uy]at B |-;cases e2:X3 xs with
  |none=>rw[e2]at B;cases B rfl|some bs=>
   dsimp;let q:=Xby e2;subst q;let⟨a,ws,its,rfl,hl,hr,hv,hz⟩:=I.seqI e rd ru;let hw:=Xux hr;subst hw;let L:Qf5=lg bs:=by rw[<-hv.length];simp!
   calc call_any_walk Qd2;calc Qk3;·rw[Xst hv hP];exact Vch hQ
   ·let⟨e3,k3⟩:=aa h' tk hk;rw[e3,L,Xxh bs _ λ_=>rfl];calc Xq I.sr QnB
def Yeg(hc:X.calm=yx):BlR X .anb QxR:=by
 intro pc s σ H ρ S env ds vs us E I L rv B;match ds,L,B with
 |[],_,B=>cases B rfl|d::_::_,_,B=>cases d<;>cases B rfl|[d],L,B=>
  let⟨v,rfl,r1⟩:=L.one;let⟨u,rfl,ru⟩:=rv.one;cases d with
  |_=>calc X5c hc rfl I r1 ru B
def Xiu(ns:LI):∀k,k<=lg ns->preSum (λi=>QZV.getD 0) k=(ns.take k).sum
 |0=>λ_=>by simp![preSum]|k+1=>λh=>by
  let B:k<lg ns:=by omega
  rw[preSum,Xiu ns k Q0,Vc8 B,List.sum_append];simp![B]
def Yeh(hc:X.calm=yx):BlR X .smB (.builtin "sum"):=by
 intro pc s σ H ρ S env ds vs us E I rd rv B;match ds,rd,B with
 |[],_,B=>cases B rfl|_::_::_,_,B=>cases B rfl|[d],rd,B=>
  let⟨v,rfl,r1⟩:=rd.one;simp[X2]at B |-;cases e:Xi S d with
  |none=>rw[e]at B;cases B rfl|some xs=>
   rw[e]at B;simp[Uy]at B |-;cases e2:Xf xs with
   |none=>rw[e2]at B;cases B rfl|some ns=>
    dsimp;let q:=Yh e2;subst q;cases rv with
    |cons ru rr=>
     cases rr;let⟨a,ws,its,rfl,hl,hr,hv,hz⟩:=I.seqI e r1 ru;let hw:=hr.ints_of;subst hw;let aa:Qf5=lg ns:=by rw[<-hv.length];simp!
     calc call_sum_walkAnyS (Xfz QKG hl λIt fp wr St L W st hf ab=>?_);calc⟨It,fp,wr,_,_,_,_,λi=>QZV.getD 0,rfl,W.toS,st,hf,λi v hP=>Xf0 hv hP,λs' t' hm=>?_⟩;let⟨h1,h2,h3,h4,h5⟩:=hm;let⟨e3,k3⟩:=ab s'.heap s'.toks h1;let e4:s'={L with heap:=s'.heap,toks:=s'.toks}:=by cases s';cases L;simp at h2 h3 h4;subst h2 h3 h4;rfl
     rw[e4,e3,aa,Xiu ns _ Qd,Vez];calc Ym I.sr QnB
def X9e(L:X.calm=yx)(I:S0 X pc σ H s ρ S env)(rv:RelV Q61 v')(B:RelV QF2 u'):Vg Q3 X.A (call Qa7 [v',u']) (OkP X pc σ ρ H (X2 .max Q85 S)) E s:=
 Xhv (Q':=λz H'=>z=.int (if j>i then j else i)/\H'=H) (Xwr L) I.inv (.cons rv (.cons B .nil)) QON λw s' z H' J rz QE3=>by subst e1 e2;let⟨t,rfl⟩:=rz;calc Ym I.sr J
def X9f(L:X.calm=yx){i j:Int}{v' B:Vb}(I:S0 X pc σ H s ρ S env)(rv:RelV Q61 v')(ru:RelV QF2 B):Vg Q3 X.A (call QVG [v',B]) (OkP X pc σ ρ H (X2 .min Q85 S)) E s:=
 Xhv (Q':=λz H'=>z=.int (if j<i then j else i)/\H'=H) (Xws L) I.inv (.cons rv Q2I) QON λw s' z H' J rz QE3=>by subst e1 e2;let⟨t,rfl⟩:=rz;calc Ym I.sr J
def Xxi{k:Bl}{S:Sto}(L:k=.max\/k=.min)(B:X2 k ds S≠.bad):∃i j,ds=Q85:=by
 rcases L with rfl|rfl
 ·simp[X2]at B;split at B;·exact Q88
  ·cases B rfl
 simp[X2]at B;split at B;·exact Q88
 ·cases B rfl
def Yei(hc:X.calm=yx):BlR X .max Qa7:=by
 intro pc s σ H ρ S env ds vs us E I rd rv nb;let⟨i,j,rfl⟩:=Xxi QJ0 nb;let⟨v,u,rfl,r1,r2⟩:=rd.two;simp[RD]at r1 r2;subst r1 r2;cases rv with
 |cons ru L=>cases L with
  |cons B L=>cases L;calc X9e hc I ru B
def Yej(hc:X.calm=yx):BlR X .min QVG:=by
 intro pc s σ H ρ S env ds vs us E I rd rv nb;let⟨i,j,rfl⟩:=Xxi QP3 nb;let⟨v,u,rfl,r1,r2⟩:=rd.two;simp[RD]at r1 r2;subst r1 r2;cases rv with
 |cons ru L=>cases L with
  |cons B L=>cases L;calc X9f hc I ru B
def Xiv(ns:LI):∀k,k<lg ns->Qy5.getD 0=(ns.take Qe3).tail.foldl max Q3R
 |0=>λh=>by
  cases ns with
  |nil=>simp! at h|cons n r=>simp![argBest]
 |k+1=>λh=>by
  let ih:=Xiv ns k Q0;simp[argBest];let ht:(ns.take (k+1+1)).tail=QCK.tail++[ns[k+1]]:=by
   rw[Vc8 h];cases ns with
   |nil=>simp! at h|cons n r=>simp!
  rw[ht,Vcy];simp[Vb0,List.foldl_nil];generalize hm:Vgx max Q3R QCK.tail=m at ih |-;let h1:QXa.getD 0=ns[k+1]:=by simp![h]
  split;·rename_i L;let B:=oD0 L;rw[ih,h1]at B;rw[h1];omega
  ·rename_i L;let B:¬ (QXa.getD 0>Qy5.getD 0):=λz=>L Q0P;rw[ih,h1]at B;rw[ih];omega
def X9g(hc:X.calm=yx){d:D}{v:V}{u:Vb}(I:S0 X pc σ H s ρ S env)(rd:RD X.K ρ H d v)(rv:RelV v u)(nb:X2 .mxl [d] S≠.bad):Vg Q3 X.A (call Qa7 [u]) (OkP X pc σ ρ H (X2 .mxl [d] S)) E s:=by
 simp[X2]at nb |-;cases e:Xi S d with
 |none=>rw[e]at nb;cases nb rfl|some xs=>
  rw[e]at nb;simp[Uy]at nb |-;cases e2:Xf xs with
  |none=>rw[e2]at nb;cases nb rfl|some L=>
   rw[e2]at nb;cases L with
   |nil=>cases nb rfl|cons n L=>
    dsimp;let q:=Yh e2;subst q;let⟨a,ws,its,rfl,hl,hr,hv,hz⟩:=I.seqI e rd rv;let hw:=hr.ints_of;subst hw;let B:Qf5=QtO.length:=by rw[<-hv.length];simp!
    calc call_max_walk Qd2;calc⟨It,fp,wr,_,_,St,λi j=>decide ((QtO[i]?).getD 0>(QtO[j]?).getD 0),rfl,W,st,hf,by rw[B];simp!,λi j vi vj s' Q' E' hi hj hQ=>?_,λv' h' tk hP hk=>?_⟩;·let⟨t,rfl⟩:=Xf0 hv hi;let⟨t',rfl⟩:=Xf0 hv hj;exact gt_int hQ
    ·let⟨t,rfl⟩:=Xf0 hv hP;let⟨e3,k3⟩:=aa h' tk hk;rw[e3];let:=Xiv QtO (lg its-1) (by rw[B];simp!);rw[this,B];simp[Ux,Nat.add_sub_cancel,Va9 (Vi QtO.length),List.tail_cons];let e5:List.take (lg L+1) QtO=n::L:=by simp!
     rw[e5];calc Ym I.sr QnB
def Yek(hc:X.calm=yx):BlR X .mxl Qa7:=by
 intro pc s σ H ρ S env ds vs us E I L rv B;match ds,L,B with
 |[],_,B=>cases B rfl|_::_::_,_,B=>cases B rfl|[d],L,B=>let⟨v,rfl,r1⟩:=L.one;let⟨u,rfl,ru⟩:=rv.one;calc X9g hc I r1 ru B
theorem MtD(X:Cx)(k:Mt)(id:String):Prop:=
 ∀(pc:LA) (s:Vc) (σ:L2.St) (H:Hp) (ρ:LR) (S:Sto) (env:En) (d:D) (v:V) (u:Vb) (ds:LD) (vs:LW) (us:LV) (E:VP),S0 X pc σ H s ρ S env->RD X.K ρ H d v->RelV v u->RDs X.K ρ H ds vs->Vals vs us->Y5 k d ds S≠.bad ->
  Vg Q3 X.A (call QY2 (u::us)) (OkP X pc σ ρ H (Y5 k d ds S)) E s
def Xlo{n:Nat}{a:Addr}{xs:LD}{vs:LW}{s':Vc}{d:D}{v:V}{u:Vb}(I:S0 X pc σ H s ρ S env)(L:ρ[n]?=yz a)(hv:H a=yz QyH)(J:Inv X pc σ QVV s')(rd:RDs X.K ρ H xs vs)(rv:RelV v u)(B:RD X.K ρ H d v):
  OkP X pc σ ρ H (.ok d (S.set n QD1)) u s':=by
 let nf:∀o u,H a≠yz QT1:=λo u z=>by rw[hv]at z;cases z
 let st:Stp X.K ρ ρ H QVV:=Stp.chg (S:=S) (o:=.lst xs) I.sr L nf;calc .mk st J rv (B.mono st) (I.sr.chg L nf ⟨vs,Xu,rd.mono st⟩)
def X00:MtD X .append "list.append":=by
 intro pc s σ H ρ S env d v u ds vs us E I rd rv L aa B;cases d with
 |ref n=>
  match ds,L,B with
  |[x],L,B=>
   let⟨y,rfl,r1⟩:=L.one;simp[Y5]at B |-;cases e:Z.lstM S n with
   |none=>rw[e]at B;cases B rfl|some xs=>
    rw[e]at B;dsimp at B |-;split at B;·rename_i hz;rw[iP0 hz];let⟨a,ws,rfl,ha,hv,hr⟩:=I.lstR e rd;exact mtd (Q':=λz H'=>z=.non/\H'=upd H a (.lst (ws++[y]))) Xm7 I.inv rv aa ⟨a,ws,y,rfl,rfl,hv,by rw[<-hr.length];calc Uk hz Xj6,rfl,rfl⟩ λw s' z H' J rz zz=>?_;let⟨e1,e2⟩:=zz;subst e1 e2;exact Xlo I ha hv J (hr.append (.cons r1 .nil)) rz Q92
    ·cases B rfl
  |[],_,B=>cases B rfl|_::_::_,_,B=>cases B rfl
 |_=>cases B rfl
def Yel:MtD X .xtd "list.extend":=by
 intro pc s σ H ρ S env d v u ds vs us E I rd rv af aj L;cases d with
 |ref n=>
  match ds,af,L with
  |[x],af,L=>
   let⟨y,rfl,r1⟩:=af.one;simp[Y5]at L |-;cases e:Z.lstM S n with
   |none=>rw[e]at L;cases L rfl|some xs=>
    rw[e]at L;dsimp at L |-;cases e2:Xi S x with
    |none=>rw[e2]at L;cases L rfl|some ys=>
     rw[e2]at L;dsimp at L |-;split at L
     ·rename_i hz;rw[iP0 hz];let⟨a,ws,rfl,ha,hv,hr⟩:=I.lstR e rd;cases rv;let⟨u2,rfl,ah⟩:=aj.one;let⟨b,zs,aa,rfl,hs,hq,r2,ao⟩:=I.seqI e2 r1 ah;let ai:(lg ws)+lg zs<=V8:=by rw[<-hr.length,<-hq.length];exact V5 hz Xj6
      let⟨z,its,c,ak,hl,eo⟩:=I.inv.lstM hv;obtain⟨T,hT,o2,e2,ab,n2,ac⟩:∃T:String,(T="tuple" \/ T="list")/\∃o2,s.heap.get? b=yz o2/\o2.cls=.type T/\∃n2,o2.data=.seq aa.toArray n2:=by
       rcases hs with⟨o2,e2,ab,n2,ac⟩|⟨o2,e2,ab,n2,ac⟩;·exact⟨_,.inr rfl,o2,e2,ab,n2,ac⟩
       ·exact⟨_,.inl rfl,o2,e2,ab,n2,ac⟩
      let an:=r2.length;let ag:its.toArray.size+aa.toArray.size<=V8:=by rw[Vq,Vq];omega
      let ae:¬ (!its.toArray.isEmpty&&Vex (its.toArray.size+aa.toArray.size))=true:=by rw[Xoi ag,Vct];exact V0
      calc Uv F.slot_list_extend ⟨_,eo,rfl⟩ F.entry_list_extend ?_ (F.args_list_extend_2 _ _);show Vg _ _ (Vbs Qt Q4f .none) _ _ s;unfold Vbs;calc Va (Vcm (T:=T) ⟨o2,e2,ab⟩ ?_);rw[iP0 (by rcases hT with rfl|rfl<;>calc(Bool.or_assoc _ _ _).trans (Bool.or_true _))];calc Va (Vgs e2 ac (Va (Vgs eo rfl ?_)));rw[iN0 ae];calc Va (listUpdate_at eo rfl (Vd Ql5) QDG (by rw[Array.size_append];omega));exact Xlo I ha hv (I.inv.lset (its':=its++aa) hv eo QA (ak.append r2) (by rw[Ub];calc ai)) (hr.append hq) (show RelV .non Vbz from rfl) Q92
     cases L rfl
  |[],_,L=>cases L rfl|_::_::_,_,L=>cases L rfl
 |_=>cases L rfl
def Yem(n:Nat)(i:Int)(k:Nat)(h:Z.ixN n i=yz k):seqIndex? i n=yz k:=by
 unfold Z.ixN at h;unfold seqIndex?;dsimp;by_cases B:0<=i
 ·rw[iP0 B]at h;split at h;·rename_i hl;rw[iN0 (Int.not_lt.mpr B),decide_eq_true B,decide_eq_true hl];exact h
  ·cases h
 rw[iN0 B]at h;split at h;·rw[iP0 (Int.not_le.mp B),decide_eq_true (show 0<=i+(n:Int) by omega),decide_eq_true (show i+(n:Int)<n by omega)];exact h
 ·cases h
def RDs.erase{K:Vh}{ρ:LR}{H:Hp}:∀ {xs:LD} {vs:LW} (j:Nat),RDs K ρ H xs vs->RDs K ρ H QIS (vs.eraseIdx j)
 |[],vs,j,h=>by simp[RDs]at h;subst h;simp[List.eraseIdx_nil,RDs]|x::xs,vs,0,h=>by simp[RDs]at h;let⟨v,B,rfl,_,h2⟩:=h;calc h2|x::xs,vs,j+1,h=>by simp[RDs]at h;let⟨v,B,rfl,h1,h2⟩:=h;simp[List.eraseIdx_cons_succ,RDs];calc⟨_,_,rfl,h1,RDs.erase j h2⟩
def X9h:MtD X .popi "list.pop":=by
 intro pc s σ H ρ S env d v u ds vs us E I rd rv L ab B;cases d with
 |ref n=>
  match ds,L,B with
  |[x],L,B=>
   let⟨y,rfl,r1⟩:=L.one;cases x with
   |int k=>
    simp[Y5]at B |-;cases e:Z.lstM S n with
    |none=>rw[e]at B;cases B rfl|some xs=>
     rw[e]at B;dsimp at B |-;cases e2:Z.ixN QL k with
     |none=>rw[e2]at B;cases B rfl|some j=>
      rw[e2]at B;dsimp at B |-;cases e3:xs[j]? with
      |none=>rw[e3]at B;cases B rfl|some z=>
       rw[e3]at B;dsimp at B |-;split at B
       ·rename_i hz;rw[iP0 hz];let⟨a,ws,rfl,ha,hv,hr⟩:=I.lstR e rd;simp[RD]at r1;subst r1;let⟨zv,aa,ac⟩:=hr.get e3;let bd:-(2^63:Int)<=k/\k<2^63:=by
         let b1:QL<1000000:=hz;unfold Z.ixN at e2;split at e2
         ·split at e2;·omega
          ·cases e2
         split at e2;·omega
         ·cases e2
        exact mtd (Q':=λz' H'=>z'=zv/\H'=upd H a (.lst (ws.eraseIdx j))) X0f I.inv rv ab ⟨a,ws,k,j,zv,rfl,rfl,hv,bd.1,bd.2,by rw[<-hr.length];calc Yem _ _ _ e2,aa,rfl,rfl⟩ λw s' z' H' J rz zz=>?_;let⟨e4,e5⟩:=zz;subst e4 e5;exact Xlo I ha hv J (hr.erase j) rz ac
       cases B rfl
   |_=>cases B rfl
  |[],_,B=>cases B rfl|_::_::_,_,B=>cases B rfl
 |_=>cases B rfl
universe e
section
variable{X:Cx}{pc:LA}{σ:L2.St}{H:Hp}{s:Vc}{ρ:LR}{S S':Sto}{env:En}{a b c e:Expr}{fa fb fc:En->Sto->R D}{pos:Pos}
def X3m(ha:DE X a fa):DE X (.UnaryOp .USub a pos) (λenv S=>Qp.bind λx S=>match x with | .int i=>.ok QzH S|_=>.bad):=by
 intro pc s σ H ρ S env I B;dsimp at B |-;cases q:fa env S with
 |bad=>rw[q]at B;cases B rfl|ex n S1=>exact UnaryOp_ QV5|ok x S1=>
  rw[q]at B;simp[Rk0]at B |-;calc UnaryOp_ (ha.ok I q λu s1 v H1 aa I1 rv rd L=>?_);cases x with
  |int i=>simp[RD]at rd;subst rd;let⟨t,rfl⟩:=rv;calc neg_int (OkP.pre L (Ym I1.sr (I1.inv.tok _)))|_=>cases B rfl
def X9i(hc:DT X c Q29)(ha:DT X a Qj6)(hb:DT X b QgD):
  DT X QbP (λenv S=>tst (QR4.bind λx S=>match X4 S x with|some yx=>fa env S|some yw=>fb env S|none=>.bad)):=by
 intro pc s σ H ρ S env I B;dsimp at B |-;show Vg _ _ (do if <- isTrue c X.env QEU then isTrue a X.env QcC else isTrue b X.env QbC) _ _ s;cases q:fc env S with
 |bad=>rw[q]at B;cases B rfl|ex n S1=>exact Va Q0C|ok x S1=>
  rw[q]at B;simp[Rk0]at B |-;cases t:X4 S1 x with
  |none=>rw[t]at B;cases B rfl|some r=>
   rw[t]at B;calc Va Q96;cases r with
   |true=>calc Vp QF7 QM0 λx s' z=>z.pre st2|false=>calc Vp QE7 QM0 λx s' z=>z.pre st2
abbrev Xah(B L:Co)(fa fb fc:En->Sto->R D)(env:En)(S:Sto):R D:=Qp.bind λx S=>QS4.bind λy S=>match Xa9 B x y S with
  |some yx=>QR4.bind λz S=>Xw L y z S|some yw=>.ok QD9 S|none=>.bad
def Xpa(ai:Op2 X Q1J QOZ)(ha:DE X a fa)(hb:DE X b fb)(I:S0 X pc σ H s ρ S env)(nb:Xah o1 o2 fa fb fc env S≠.bad)
  {W:Vb->Vb->Bool->Vc->Prop} (hE:∀x s',ExP X pc σ ρ H QU0 x s'->Ev x s')
  (hF:∀v u L S2 H2 B,Xah o1 o2 fa fb fc env S=.ok QD9 S2->S0 X pc σ H2 L B S2 env->Stp X.K ρ B H H2->W v u yw L)
  (hT:∀v u L S2 y vy H2 B,Xah o1 o2 fa fb fc env S=(QDZ.bind λz S=>Xw o2 y z S)->S0 X pc σ H2 L B S2 env->RelV vy u->RD X.K B H2 y vy->Stp X.K ρ B H H2->W v u yx L):
  Vg Q3 X.A QcC (λv s1=>Vg Q3 X.A QbC (λu s2=>Vg Q3 X.A (Vbr (opC o1) v u) (λd L=>∃r,d=.bool r/\W v u r L) Ev s2) Ev s1) Ev s:=by
 cases q:fa env S with
 |bad=>rw[Xah,q]at nb;cases nb rfl|ex n S1=>exact ha.ex I q λx s' z=>hE x s' ⟨n,S1,by rw[Xah,q];rfl,z⟩|ok x S1=>
  calc ha.ok I q λv s1 vx H1 aj I1 rv rd ab=>?_;cases q2:fb env S1 with
  |bad=>rw[Xah,q]at nb;simp[Rk0]at nb;rw[q2]at nb;cases nb rfl|ex n S2=>exact hb.ex I1 q2 λx s' z=>hE x s' ⟨n,S2,by rw[Xah,q];simp[Rk0];rw[q2];rfl,z.pre ab⟩|ok y S2=>
   exact hb.ok I1 q2 λu s2 vy H2 B I2 ru ae st2=>?_
   let eq:Xah o1 o2 fa fb fc env S=(match Xa9 o1 x y S2 with
     |some yx=>QDZ.bind λz S=>Xw o2 y z S|some yw=>.ok QD9 S2
     |none=>.bad):=by rw[Xah,q];simp[Rk0];rw[q2];rfl
   cases q3:Xa9 o1 x y S2 with
   |none=>rw[eq,q3]at nb;cases nb rfl|some r=>
    let e3:Xw o1 x y S2=.ok QuB S2:=by unfold Xw;rw[q3]
    calc Vp (ai pc s2 σ H2 B S2 env x y vx vy v u Qa0 I2 (by rw[e3];calc λz=>nomatch z) QB5 rv ae ru) (λd L z=>?_) λ_ _ z=>z.elim;rw[e3]at z;let⟨d',S3,e4,w,H3,ac,J3,ag,af,ah,aa⟩:=z;cases e4;simp[RD]at af;subst af;cases ag;calc⟨r,rfl,?_⟩;let I3:S0 X pc σ H3 L ac S2 env:=I2.step J3 ah aa;cases r with
    |false=>calc hF v u L S2 H3 ac QlX I3 QvI|true=>calc hT v u L S2 y vy H3 ac QlX I3 ru (ae.mono aa) QvI
def Xpb(ag:Op2 X Q0J QNZ)(hc:DE X c fc)(I:S0 X pc σ H s ρ S env)(ru:RelV vy u)(rd:RD X.K ρ H y vy)(st0:Stp X.K ρ0 ρ H0 H)
  (L:QX7≠.bad) (hE:∀x s',ExP X pc σ ρ0 H0 QX7 x s'->Ev x s')
  (hW:∀r S3 s3 H3 B,QX7=.ok QuB S3->S0 X pc σ H3 s3 B S3 env->Stp X.K ρ0 B H0 H3->W Qfd s3):
  Vg Q3 X.A QEU (λw s1=>Vg Q3 X.A (Vbr (opC o2) u w) W Ev s1) Ev s:=by
 cases q:fc env S with
 |bad=>rw[q]at L;cases L rfl|ex n S1=>calc hc.ex I q λx s' z=>hE x s' ⟨n,S1,by rw[q];rfl,z.pre st0⟩|ok z S1=>rw[q]at L;simp[Rk0]at L;calc hc.ok I q λw s1 vz H1 ai I1 rv ah aa=>?_;let⟨r,e1,e2⟩:=Xdq L;calc Vp (ag pc s1 σ H1 ai S1 env y z vy vz u w Qa0 I1 L (rd.mono aa) ru ah rv) (λd s3 zz=>?_) λ_ _ z=>z.elim;rw[e2]at zz;let⟨d',S3,e4,w',H3,B,J3,ae,ac,af,ab⟩:=zz;cases e4;simp[RD]at ac;subst ac;cases ae;calc hW r S1 s3 H3 B (by rw[q];calc e2) (I1.step J3 af ab) (st0.trans (aa.trans ab))
def Yen(ae:Op2 X Q1J QOZ)(ac:Op2 X Q0J QNZ)(ha:DE X a fa)(hb:DE X b fb)(hc:DE X c fc)(hm:lastMarks Qs8 [b,c]=yw):
  DE X QWI (Xah o1 o2 fa fb fc):=by
 intro pc s σ H ρ S env I nb;exact Compare_chain (Vp (Xpa (W:=λv u r B=>if r=yx then Vg Q3 X.A (compareChain pos u Q5h QIX) (OkP X pc σ ρ H QU0) (ExP X pc σ ρ H QU0) B else OkP X pc σ ρ H QU0 QvJ B) ae ha hb I nb QSF ?_ ?_)
  (λv s1 h1=>chain_link QJ5) λ_ _ z=>z) hm
 ·intro v u B S2 H2 ab e L st2;rw[iN0 V0,e];exact OkP.pre st2 (Xq L.sr L.inv)
 ·intro v u B S2 y vy H2 ab e L ru rd st2;rw[iP0 rfl];calc chain_last (Xpb ac hc L ru rd st2 (by rw[<-e];calc nb) (λx s' z=>by rw[e];calc z) λr S3 s4 H3 af e3 I3 aa=>?_);rw[e,e3];exact OkP.pre aa (Xq I3.sr I3.inv)
 ·subst e;calc Vch ?_;cases r with
  |true=>rw[iP0 rfl]at w;calc ite_tt w|false=>rw[iN0 V0]at w;calc ite_ff w
def X9j(af:Op2 X Q1J QOZ)(ae:Op2 X Q0J QNZ)(ha:DE X a fa)(hb:DE X b fb)(hc:DE X c fc)(hm:lastMarks Qs8 [b,c]=yw):
  DT X QWI (λenv S=>tst QU0):=by
 intro pc s σ H ρ S env I nb;dsimp at nb |-;let aa:Xah o1 o2 fa fb fc env S≠.bad:=λz=>nb Q43;let ex:∀x s',ExP X pc σ ρ H QU0 x s'->ExP X pc σ ρ H Qub x s':=λx s' ⟨n,S1,e,z⟩=>⟨n,S1,by rw[e];rfl,z⟩
 exact isTrue_chain (Vp (Xpa (W:=λv u r B=>if r=yx then Vg Q3 X.A (testChain pos u Q5h QIX) (λb s'=>∃S',tst QU0=.ok b S'/\∃H' ρ',Inv X pc σ H' s'/\SR X.K QY1 ρ' S' H'/\Stp X.K ρ ρ' H H') (ExP X pc σ ρ H Qub) B
   else ∃S',tst QU0=.ok yw S'/\∃H' ρ',Inv X pc σ H' B/\SR X.K QY1 ρ' S' H'/\Stp X.K ρ ρ' H H') af ha hb I aa ex ?_ ?_)
  (λv s1 h1=>test_link QJ5) λ_ _ z=>z) hm
 ·intro v u B S2 H2 L e I2 st2;rw[iN0 V0,e];exact⟨S2,rfl,H2,L,I2.inv,I2.sr,st2⟩
 ·intro v u B S2 y vy H2 L e I2 ru rd st2;rw[iP0 rfl];calc test_last (Xpb ae hc I2 ru rd st2 (by rw[<-e];calc aa) (λx s' z=>ex x s' (by rw[e];calc z)) λr S3 s4 H3 ac e3 I3 ab=>?_);exact Vch ⟨S3,by rw[e,e3];rfl,H3,ac,I3.inv,I3.sr,ab⟩
 ·subst e;calc Vch ?_;cases r with
  |true=>rw[iP0 rfl]at w;calc ite_tt w|false=>rw[iN0 V0]at w;calc ite_ff w
variable{x:Str}{p:Pos}{es:LX}{g:En->Sto->R (LD)}{k:Bl}{id T:String}
def X9k (hB:BlR X k QY2) (hg:Gl X x) (hm:X.mg x=yy) (hv:Vew x=yz QY2) (ha:DA X QA4 g) (hn:x ≠ "__name__") (ab:Q50=yw)
  (he:Uf QA4 X.env=QM5::Uf es X.env) (L:QQ0.any Qb=yw):DE X QM7 Q9C:=by
 intro pc s σ H ρ S env I B;dsimp at B |-;calc Vau QnG;cases q:g env S with
 |bad=>rw[q]at B;cases B rfl|ex n S1=>calc Vbe QV5 he L|ok ds S1=>rw[q]at B;calc Vbe QBA he L;calc Vp Qm8 QsM λ_ _ z=>z.elim
def X9l (hB:BlR X k QIE) (hg:Gl X x) (hm:X.mg x=yy) (hv:Vew x=yz QIE) (ha:DA X QA4 g) (hn:x ≠ "__name__") (ab:Q50=yw)
  (he:Uf QA4 X.env=QM5::Uf es X.env) (L:QQ0.any Qb=yw):DE X QM7 Q9C:=by
 intro pc s σ H ρ S env I B;dsimp at B |-;calc Vau QnG;cases q:g env S with
 |bad=>rw[q]at B;cases B rfl|ex n S1=>calc Vaf QV5 he L|ok ds S1=>rw[q]at B;calc Vaf QBA he L;calc Vp Qm8 QsM λ_ _ z=>z.elim
def Yeo (hg:Gl X x) (hm:X.mg x=yz u) (hd:∀ ρ H,∃v,RelV v u/\RD X.K ρ H d v) (B:Q50=yw):DE X Q7I (λ_ S=>.ok d S):=by intro pc s σ H ρ S env I nb;let⟨v,L,rd⟩:=hd ρ H;calc Xe7 I.inv hg hm (.mk .refl I.inv L rd I.sr) B
def Xgy (slot:Slot "list" name id) (af:typeOf QY2=pure (.type "method_descriptor")) (hM:MtD X m id) (hr:∀x S,Xat m x S=yx->∃n xs,x=.ref n/\lstAt S n=yz xs) (ho:DE X o fo) (ha:DA X QA4 g)
  (ab:attributeBase o name X.env QoI=eval o X.env)
  (ac:Qh0=yx)
  (aa:QuI=yx) (hs:Uf QA4 X.env=QM5::Uf es X.env) (B:QWU.any Qb=yw):
  DE X (.Call (.Attribute o name apos) QA4 [] cpos) (λenv S=>Q2C.bind λx S=>if Xat m x S then QW5.bind λxs S=>Y5 m x xs S else .bad):=by
 intro pc s σ H ρ S env I L;dsimp at L |-;cases q:fo env S with
 |bad=>rw[q]at L;cases L rfl|ex n S1=>exact wpAny_Call_method_late ab ac aa rfl QnI|ok x S1=>
  rw[q]at L;simp[Rk0]at L |-;split at L
  ·rename_i hk;rw[iP0 hk];let⟨n,xs,rfl,hx⟩:=hr x S1 hk;calc wpAny_Call_method_late ab ac aa rfl (ho.ok I q λv s1 vx H1 aj I1 rv rd ae=>?_);let⟨a,ws,rfl,k1,k2,k3⟩:=I1.lstR hx rd;cases rv;let⟨its,_,pl,_⟩:=I1.inv.list QiW;calc⟨"list",id,PySem.F.plainAttrs_list,slot,af,pl.isList.typeIs,λb eb=>?_,?_⟩;·cases eb;let⟨ob,n',e1,c1,hd,_⟩:=pl;exact⟨ob,e1,hd⟩
   ·cases q2:g env S1 with
    |bad=>rw[q2]at L;cases L rfl|ex k S2=>let hA:=ha.ex (pos:=cpos) (E:=ExP X pc σ ρ H QUD) (Q:=λus s2=>Vg Q3 X.A QIU QIG QCL s2) I1 q2 λx s' z=>.mk ae z;rw[hs]at hA |-;calc Vfg QWJ QDP|ok ds S2=>rw[q2]at L;simp[Rk0]at L |-;let hA:=ha.ok (pos:=cpos) (E:=ExP X pc σ ρ H QFG) (Q:=λus s2=>Vg Q3 X.A QIU (OkP X pc σ ρ H QFG) (ExP X pc σ ρ H QFG) s2) I1 q2 λus s2 vs H2 ah I2 ag ai st2=>Vp (hM pc s2 σ H2 ah S2 env QM1 Qt Qt ds vs us Qa0 I2 QB5 rfl ai ag L) QVE λ_ _ z=>z.elim;rw[hs]at hA |-;exact Vfg QWJ QDP
  cases L rfl
def Xgz(x:Int):∀l:LI,Qnc.Perm (x::l)
 |[]=>.refl _|y::r=>by
  simp[Xjb];split;·exact .refl _
  ·calc(List.Perm.cons y (Xgz x r)).trans (Vg0 x y r)
def Xar:∀l:LI,QUg.Perm l
 |[]=>.refl _|x::r=>(Xgz x QTg).trans (List.Perm.cons x (Xar r))
def Xsu(x:Int):∀l:LI,l.Pairwise QHI->Qnc.Pairwise QHI
 |[]=>λ_=>by simp![Xjb]|y::r=>λh=>by
  let ⟨h1,h2⟩:=Vai.mp h;simp[Xjb];split
  ·rename_i e;calc Vai.mpr ⟨λz hz=>?_,h⟩;rcases Vr.mp hz with rfl|hz;·exact e
   ·exact Int.le_trans e (h1 z hz)
  rename_i e;calc Vai.mpr ⟨λz hz=>?_,Xsu x r h2⟩;rcases Vr.mp ((Xgz x r).mem_iff.mp hz) with rfl|hz;·omega
  ·calc h1 z hz
def Xhy:∀l:LI,QUg.Pairwise QHI
 |[]=>Vek|x::r=>Xsu x _ (Xhy r)
def Xf1{K:Vh}{ρ:LR}{H:Hp}:∀ns:LI,RDs K ρ H QX QV2
 |[]=>by simp[Vd1,RDs]|n::ns=>by simp[Vd1,RDs];calc⟨_,_,rfl,by simp[RD],Xf1 ns⟩
def Xiw{prog:V3}{w:Ua}{A:Uz}{E:VP}{s:Vc}{l:Addr}{vs:LV}{Q:LV->Vc->Prop}(hl:Vd5 s.heap l vs.toArray)(aa:Qc3<=V8)
  (h:Q vs Qz1):Vg Q5 A QqV Q E s:=by
 let⟨o,ho,hc,n,hd⟩:=id hl;unfold collect;calc Va (Vg2 (Va0 entry_proto_collect' ?_));show Vg _ _ (do again (.builtin "list.__iadd__" ⟨[<-newList [],.ref l],[]⟩)) _ _ s;calc Va (Vf5 (Vd ⟨Vgt _ Q8,Va0 entry_list_iadd' ?_⟩));show Vg _ _ (Vbs QC Q4C QC) _ _ {s with heap:=s.heap.push QA0};unfold Vbs;let B:Qn.get? l=yz o:=Vf _ ho;calc Va (Vcm (T:="tuple") ⟨o,B,hc⟩ ?_);let L:(Vce "tuple" == Vce "tuple")=true:=by rfl
 rw[iP0 (by rw[L];simp!)];calc Va (Vgs B hd (Va (Vgs (xs:=#[]) (n:=0) QN3 rfl ?_)));rw[iN0 QA];calc Va (listUpdate_at (xs:=#[]) (n:=0) QN3 rfl Qz0 QS8 (by show(#[]++vs.toArray).size<=V8+1;simp[Array.size_append,Vq,Vig];omega));show Vg Q5 A (load s.heap.objs.size >>= _) Q E Qz1;calc Va (Vfv (get?_update_seq QN3 _) ?_);show Vg _ _ (pure QWQ.toList) Q E _;rw[show QWQ.toList=vs by simp!];calc Vd h
def Xuy{prog:V3}{w:Ua}{A:Uz}{E:VP}{s:Vc}{l:Addr}{vs:LV}{ns:LI}{Q:VP}(hl:Vd5 s.heap l vs.toArray)(hI:Vby vs ns)(ab:Qc3<64)
  (h:∀(out:AV) (B:LI),Vby out.toList B->B.Perm ns->B.Pairwise QHI->Q QqJ {s with heap:=sortedAll s.heap vs out}):Vg Q5 A QxC Q E s:=by
 calc Vep kind_sorted plain_sorted entry_sorted QoA ?_;unfold Vbd.«sorted»;calc Va (m:=checkCount "sorted" 1 1 _) (Vd (Va (Xiw hl Qf9 (Va QyX))));let aa:(Qn.update s.heap.objs.size (Vae (·++vs.toArray))).objs.size=s.heap.objs.size+1:=by rw[Vh2,size_push']
 let L:(QI3.push Qh1).get? Qi0=yz Qh1:=by rw[<-aa];exact Vo _ rfl
 show Vg _ _ _ _ _ {s with heap:=QI3.push Qh1};rw[aa];calc Va (U2 (Uv Viz QjE Vih (list_sort_tree L hI ab λout B a1 a2 a3=>⟨_,rfl,Vd ⟨_,rfl,h out B a1 a2 a3⟩⟩) QFT))
def Xxj{d:D}{ns:LI}{E:VP}(I:S0 X pc σ H s ρ S env)(e:Xi S d=yz QX)(hz:QyE<64)(r1:RD X.K ρ H d v)(ru:RelV v u):
  Vg Q3 X.A (call QQ2 [u]) (OkP X pc σ ρ H QCB) E s:=by
 let⟨a,ws,its,rfl,hs,hr,aa,ab⟩:=I.seqI e r1 ru;let hw:=hr.ints_of;subst hw;let hI:=Xaq aa;let af:Qf5=lg ns:=by rw[<-aa.length];simp!
 let fin:∀out B,Vby out.toList B->B.Perm ns->B.Pairwise QHI->OkP X pc σ ρ H QCB QqJ {s with heap:=sortedAll s.heap its out}:=λout B a1 a2 a3=>by
  let ac:B=Xbr ns:=PySem.W.ksm_same (a2.trans QVe.symm) a3 (Xhy ns);subst ac;let⟨e3,ae⟩:=sortedAll_at s.heap its out;let L:s.heap.objs.size<=s.heap.objs.size+1:=Vd6 _;let J:=I.inv.laid (o:=.lst ((Xbr ns).map V.int)) (t':=s.toks) (h':=sortedAll s.heap its out) QdG L
   ⟨by rw[Ve,QVe.length_eq];simpa using ab,out.toList,e3,Xeq a1,by simpa [Vam] using ae⟩
  exact Xa4 J QQO I.sr QQg
 rcases hs with hs|hs;·exact sorted_ints hs hI Q0 fin
 ·calc Xuy hs hI Q0 fin
def Xpc:∀ {bs:List Bool} {us:LV},Vals QuV us->us=bs.map Vfu
 |[],_,.nil=>rfl|b::bs,_,.cons r t=>by cases r;rw[Xpc t];rfl
def Xsv{K:Vh}{ρ:LR}{H:Hp}:∀ {bs:List Bool} {B:LW},RDs K ρ H QvV B->B=bs.map V.bl
 |[],B,h=>by simp[Vd1,RDs]at h;calc h|b::bs,B,h=>by simp[Vd1,RDs]at h;let⟨v,r,rfl,h1,h2⟩:=h;simp[RD]at h1;subst h1;rw[Xsv h2];rfl
def Xxk(I:S0 X pc σ H s ρ S env){n:Nat}{xs:LD}{bs:List Bool}{v:V}(h:lstAt S n=yz xs)(hb:X3 xs=yz bs)(r:RD X.K ρ H QM1 v):∃a k,v=.ref a/\s.heap.get? a=yz {cls:=.type "list",data:=.seq QyL.toArray k}:=by let⟨a,ws,rfl,ha,hv,B⟩:=I.lstR h r;let⟨_,its,k,L,e⟩:=(show ObjOk X.prog X.w H s.heap a QyH from I.inv.hok a _ hv);let e1:=Xby hb;subst e1;let e2:=Xsv B;subst e2;rw[Xpc L]at e;calc⟨a,k,rfl,e⟩
def X5d:MtD X .count "list.count":=by
 intro pc s σ H ρ S env d v u ds vs us E I rd rv L ac B;cases d with
 |ref n=>
  match ds,L,B with
  |[],_,B=>cases B rfl|_::_::_,_,B=>cases B rfl|[x],L,B=>
   let⟨y,rfl,r1⟩:=L.one;let⟨w,rfl,aa⟩:=ac.one;cases x with
   |bl b=>
    simp[RD]at r1;subst r1;cases aa;simp[Y5]at B |-;cases e:lstAt S n with
    |none=>rw[e]at B;cases B rfl|some xs=>
     rw[e]at B;simp[Uy]at B |-;cases e2:X3 xs with
     |none=>rw[e2]at B;cases B rfl|some bs=>
      dsimp;let⟨a,k,rfl,ha⟩:=Xxk I e e2 rd;cases rv;exact Ve9 PySem.F.slot_list_count QzJ PySem.F.entry_list_count (PySem.F.args_list_count_2 _ _) (SeqAt.list_countAt a _ k yy #[] QiM λy=>match y with|.bool c=>c==b|_=>yw) ⟨ha,λy hy=>?_,?_⟩
      ·let ab:y∈bs.map Vfu:=by simpa using hy
       let⟨c,_,rfl⟩:=Vm.mp ab;exact SeqAt.EqAt.bool_bool c b
      let ec:QyL.countP QRB=bs.countP QfN:=by rw[List.countP_map];rfl
      simp[Vdy]at *;rw[ec];calc Ym I.sr QhA
   |int c=>
    simp[RD]at r1;subst r1;let⟨t,rfl⟩:=aa;simp[Y5]at B |-;cases e:lstAt S n with
    |none=>rw[e]at B;cases B rfl|some xs=>
     rw[e]at B;simp[Uy]at B |-;cases e2:Xf xs with
     |none=>rw[e2]at B;cases B rfl|some ns=>dsimp;let q:=Yh e2;subst q;let⟨a,ws,its,rfl,hl,hr,hv,_⟩:=I.its e rd rv;let hw:=hr.ints_of;subst hw;calc count_list_ints hl (Xaq hv) QY0
   |_=>cases B rfl
 |_=>cases B rfl
def X9m(B:Y5 .index d ds S≠.bad):∃n x,d=.ref n/\ds=[x]/\((∃b,x=.bl b)\/∃i,x=.int i):=by
 cases d with
 |ref n=>
  cases ds with
  |nil=>cases B rfl|cons x r=>
   cases r with
   |nil=>
    cases x with
    |bl b=>calc⟨n,_,rfl,rfl,.inl ⟨b,rfl⟩⟩|int i=>calc⟨n,_,rfl,rfl,.inr ⟨i,rfl⟩⟩|_=>cases B rfl
   |cons _ _=>cases B rfl
 |_=>cases B rfl
def Xng:∀ {us:LV} {ns:LI} {i:Nat} {v:Vb},Vby us ns->us[i]?=yz v->∃c t,ns[i]?=yz c/\v=.int c t
 |_,_,i,v,.nil,h=>by simp! at h|_,_,0,v,.cons n t r,h=>by cases h;calc⟨n,t,rfl,rfl⟩|_,_,i+1,v,.cons n t r,h=>by let⟨c,B,h1,h2⟩:=Xng (i:=i) r Q72;calc⟨c,B,by simpa using h1,h2⟩
def X5e:MtD X .index "list.index":=by
 intro pc s σ H ρ S env d v u ds vs us E I rd rv aj ai B;let⟨n,x,rfl,rfl,hx⟩:=X9m B;rcases hx with⟨b,rfl⟩|⟨i0,rfl⟩
 ·let⟨y,rfl,r1⟩:=aj.one;simp[RD]at r1;subst r1;let⟨w,rfl,ag⟩:=ai.one;cases ag;simp[Y5]at B |-;cases e:lstAt S n with
  |none=>rw[e]at B;cases B rfl|some xs=>
   rw[e]at B;simp[Uy]at B |-;cases e2:X3 xs with
   |none=>rw[e2]at B;cases B rfl|some bs=>
    rw[e2]at B;dsimp at B |-;cases e3:bs.findIdx? QfN with
    |none=>rw[e3]at B;cases B rfl|some i=>
     dsimp;let⟨a,k,rfl,ha⟩:=Xxk I e e2 rd;cases rv;let⟨hi,h1,h2⟩:=Vet.mp e3;let ah:(lg bs)<=V8:=by let⟨a',ws,_,_,hv,hr⟩:=I.lstR e rd;let⟨z,_⟩:=(show ObjOk X.prog X.w H s.heap a' QyH from I.inv.hok a' _ hv);rw[<-hr.length,Xby e2,Ve]at z;exact z
     let af:(i:Int)<2^63-1:=by
      let:V8<2^62:=by decide
      let ak:(2:Int)^63-1=9223372036854775807:=by decide
      let am:(2:Nat)^62=4611686018427387904:=by decide
      omega
     calc Ve9 Vg7 QzJ Vjy Qvc (SeqAt.list_indexAt a QyL.toArray k yy #[] QiM QRB i Qr0 af Q3E λm hm ab=>?_) QwF;·let:=h2 m ab;simpa using this
     ·let al:y∈bs.map Vfu:=by simpa using hy
      let⟨c,_,rfl⟩:=Vm.mp al;exact SeqAt.EqAt.bool_bool c b
 let⟨y,rfl,r1⟩:=aj.one;simp[RD]at r1;subst r1;let⟨w,rfl,ag⟩:=ai.one;let⟨tk,rfl⟩:=ag;simp[Y5]at B |-;cases e:lstAt S n with
 |none=>rw[e]at B;cases B rfl|some xs=>
  rw[e]at B;simp[Uy]at B |-;cases e2:Xf xs with
  |none=>rw[e2]at B;cases B rfl|some ns=>
   rw[e2]at B;dsimp at B |-;cases e3:ns.findIdx? (· == i0) with
   |none=>rw[e3]at B;cases B rfl|some i=>
    dsimp;let⟨a,ws,rfl,_,hv,hr⟩:=I.lstR e rd;let⟨ah,its,k,an,ha⟩:=(show ObjOk X.prog X.w H s.heap a QyH from I.inv.hok a _ hv);let q:=Yh e2;subst q;let ew:=hr.ints_of;subst ew;let hI:=Xaq an;let aa:Qf5=lg ns:=hI.length;rw[Ve]at ah;cases rv;let⟨hi,h1,h2⟩:=Vet.mp e3;let af:(i:Int)<2^63-1:=by
     let:V8<2^62:=by decide
     let ak:(2:Int)^63-1=9223372036854775807:=by decide
     let am:(2:Nat)^62=4611686018427387904:=by decide
     omega
    let ae:∀m (hm:m<its.toArray.size),∃c t,ns[m]?=yz c/\its.toArray[m]=.int c t:=λm hm=>by
     let ac:m<lg its:=by simpa using hm
     let⟨c,t,L,z2⟩:=Xng hI (U7 ac);exact⟨c,t,L,by simpa using z2⟩
    calc Ve9 Vg7 QzJ Vjy Qvc (SeqAt.list_indexAt a its.toArray k yy #[] (.int i0 tk) (λy=>match y with|.int c _=>c==i0|_=>yw) i Q3N af ?_ λm hm ab=>?_) QwF;·let⟨c,t,L,z2⟩:=ae i Q3N;rw[z2];rw[U7 hi]at L;cases L;exact h1
    ·let⟨c,t,L,z2⟩:=ae m hm;rw[z2];let ac:m<lg ns:=by omega
     rw[U7 ac]at L;cases L;let:=h2 m ab;simpa using this
    let⟨m,hm,rfl⟩:=Vb1.mp (show y∈its by simpa using hy);let⟨c,t,L,z2⟩:=ae m (by simpa using hm);let z3:its[m]=.int c t:=by simpa using z2
    rw[z3];calc SeqAt.EqAt.int_int c t i0 tk
universe e
abbrev Xco:Vb->Int
 |.int i _=>i|_=>0
theorem SetI(prog:V3)(w:Ua)(h:Heap)(a:Addr)(ld:Bool)(ks:LI):Prop:=∃o es ep t,h.get? a=yz o/\o.ExactSet/\o.data=.set es ep t/\ElemsOf Q01 es.toList/\ks=es.toList.map (λe=>Xco e.2)/\Tab t es.size/\t.led=ld
def SetI.keep{prog:V3}{w:Ua}{h h':Heap}{a:Addr}{ld:Bool}{ks:LI}(S:SetI prog w h a ld ks)(k:∀o,h.get? a=yz o->h'.get? a=yz o):SetI prog w h' a ld ks:=by let⟨o,es,ep,t,B,r⟩:=S;calc⟨o,es,ep,t,k _ B,r⟩
section
variable{prog:V3}{w:Ua}{A:Uz}{E:VP}{s:Vc}
def Xsw{es:List Qw0}(h:ElemsOf Q01 es){e:Int×Vb}(B:e∈es):∃i t,e.2=.int i t:=by let⟨⟨k,L,_⟩,_⟩:=h e B;let⟨t,q⟩:=Vg9 L;calc⟨k,t,q⟩
def X01{es:List Qw0}(h:ElemsOf Q01 es)(k:Int):(es.findIdx? QA8).isSome=decide (k∈es.map λe=>Xco e.2):=by
 let B:∀e∈es,(Q01.is k e.2=yx ↔ Xco e.2=k):=λe L=>by let⟨i,t,q⟩:=Xsw h L;rw[q,KeyKind.is_eq_decide (intKind_is prog w i t),decide_eq_true_eq];exact eq_comm
 by_cases c:k∈es.map λe=>Xco e.2
 ·rw[decide_eq_true c];let⟨e,L,q⟩:=Vm.mp c;cases f:es.findIdx? QA8 with
  |some _=>rfl|none=>let:=List.findIdx?_eq_none_iff.mp f e L;rw[(B e L).mpr q]at this;cases this
 rw[decide_eq_false c];cases f:es.findIdx? QA8 with
 |none=>rfl|some j=>let⟨hj,hp,_⟩:=Vet.mp f;calc aB0 (Vm.mpr ⟨_,Vb6 hj,(B _ (Vb6 hj)).mp hp⟩) c
def X5f{a:Addr}{ld:Bool}{ks:LI}{k:Int}{tk:Tok}{Q:Bool->Vc->Prop}(S:SetI prog w s.heap a ld ks)(hn:QS7<60)
  (h:∀h' ah,Vab a s.heap h'->SetI prog w h' a ld ah->(k∈ks/\ah=ks)\/(k ∉ ks/\ah.Perm QhS)->Q (decide (k ∉ ks)) Qi6):
  Vg Q5 A (setAdd a QWO) Q E s:=by
 let⟨o,es,ep,t,ho,ac,hd,aa,rfl,T,hl⟩:=S;rw[Ve,V1]at hn;let hb:es.size<scanBound:=Vey hn Q1;let ft:=Xag T;let fi:=X01 aa k;unfold setAdd setAddHashed setAddHashedIn;calc U2 (Va (Q01.pyHash (k:=k) Qu9 (U2 (Va (Va6 (s:=QzA) ho hd ft ?_)))));dsimp;rw[byScan_of (knd:=Vbj prog w) rfl hb aa];simp[if_true];unfold setAddByScan;calc Va (Va (Vb3 (Va (wpAny_setScan_of (knd:=Vbj prog w) (k:=k) (s:=QzA) Qu9 ho hd ft aa ?_))));cases f:es.toList.findIdx? QA8 with
 |some j=>rw[f]at fi;let c:=oD0 fi.symm;let:=h s.heap _ QSU ⟨o,es,ep,t,ho,ac,hd,aa,rfl,T,hl⟩ (.inl ⟨c,rfl⟩);rw[decide_eq_false (λz=>z c)]at this;exact Vd QLT|none=>
  rw[f]at fi;let c:=of_decide_eq_false fi.symm;let⟨B,t1,e1,T1,m1,ai,l1,ae,z1⟩:=X8j T Q8Y QWO;let pm:=layNew_perm t es Q8Y QWO;rw[e1,Vcx]at pm;let ab:ElemsOf Q01 B.toList:=(aa.push Qu9 rfl).perm pm;let kp:(B.toList.map λe=>Xco e.2).Perm ((es.toList.map λe=>Xco e.2)++[k]):=by let:=pm.map λe=>Xco e.2;rwa [Vak]at this
  dsimp;rw[e1];dsimp;calc Va Qz0;rw[ai];simp[if_true];rw[hashByValue_scannable 8 rfl];calc Va Qz0;simp[plainKind,if_true];let ao:t1.fits B.size=true:=by unfold Vho;rw[Xbn T1,ae,z1,m1];let:=T.le;simp!;omega
  let af:B.size<=V8:=by rw[z1,Va7];omega
  calc Va (Vhd ho hd ?_ af);let⟨g1,_⟩:=SetOf_store (knd:=Vbj prog w) (S':=λk'=>B.toList.any λe=>Q01.is k' e.2) ho ac hd ab QeY (by rw[z1];calc Uu hn Q1) ao;let al:=Vdz s.heap a QPQ;by_cases c5:QRH*5<t.mask*3
  ·let q:t1.tooFull=false:=by unfold Vh3;rw[Xbn T1,ae,m1];exact decide_eq_false Q0
   rw[q];simp[Vct,Vs,if_false];let:=h _ _ al ⟨_,B,ep+1,t1,g1,ac,rfl,ab,rfl,by rw[z1];calc⟨T1,ai,ae,by rw[m1];calc T.mg,by rw[m1];calc c5,by omega⟩,l1.trans hl⟩ (.inr ⟨c,kp⟩);rw[decide_eq_true c]at this;exact Vd QLT
  let q:t1.tooFull=true:=by unfold Vh3;rw[Xbn T1,ae,m1];exact decide_eq_true Q0
  let⟨mk,rm,_⟩:=Xsh T.mg T.room Q0 c5;rw[q];simp[Viv,Vdt,if_true];let⟨L,t2,e2,T2,m2,am,l2,an,z2⟩:=X0j (t:=t1) (es:=B) (wanted:=SetTable.grown B.size) ai (by rw[z1];calc mk) QsS;let ak:=relayAll_perm t1 B (SetTable.grown B.size);rw[e2]at ak;rw[e2];dsimp;let aj:L.size<=V8:=by rw[z2];exact af
  calc Va (Vd (Va (Vhd g1 rfl ?_ aj)));let ag:ElemsOf Q01 L.toList:=ab.perm ak;let TT:Tab t2 L.size:=⟨T2,am,by rw[an,z2],by rw[m2,z1];calc mk,by rw[m2,z2,z1];calc rm,by omega⟩;let⟨g2,_⟩:=SetOf_store (knd:=Vbj prog w) (S':=λk'=>L.toList.any λe=>Q01.is k' e.2) g1 ac rfl ag QeY (by rw[z2,z1];calc Uu hn Q1) (Xag TT);let:=h _ _ (al.trans (Vdz _ a QgJ)) ⟨_,L,ep+2,t2,g2,ac,rfl,ag,rfl,TT,l2.trans (l1.trans hl)⟩ (.inr ⟨c,(ak.map λe=>Xco e.2).trans kp⟩);rw[decide_eq_true c]at this;calc Vd QLT
universe e
def slot_si:PySem.Slot "set_iterator" "__next__" "set_iterator.__next__":=
 .of (owner:="set_iterator") (n:="__next__") QG5 Q8 Q8 Q8 QLD QaE
def Xpd:entryFor table "set_iterator.__next__"=yz Vbd.«set_iterator.__next__»:=entryFor_of_tree QH3
def Xsx(a:Vb):argsOk "set_iterator.__next__" QNa:=by unfold argsOk;rw[signature?_of (id:="set_iterator.__next__") (n:=['_','_','t','x','e','n','_','_']) (o:=QI9) QH3 (show Manifest.owners.lookup _=yz Vjr by kernel_rfl)];kernel_rfl
def Xpe:entryFor table "set.__iter__"=yz Vbd.«frozenset.__iter__»:=entryFor_alias (id' := "frozenset.__iter__") QH3 rfl Q8 QH3
def Xpf:PySem.Slot "set_iterator" "__iter__" "set_iterator.__iter__":=
 .of (owner:="set_iterator") (n:="__iter__") QG5 Q8 Q8 Q8 QLD QaE
def Xxl:entryFor table "set_iterator.__iter__"=yz Vbd.«dict_keyiterator.__iter__»:=entryFor_alias (id' := "dict_keyiterator.__iter__") QH3 rfl Q8 QH3
def X02(a:Vb):argsOk "set_iterator.__iter__" QNa:=by unfold argsOk;rw[signature?_of (id:="set_iterator.__iter__") (n:=['_','_','r','e','t','i','_','_']) (o:=QI9) QH3 (show Manifest.owners.lookup _=yz Vjr by kernel_rfl)];kernel_rfl
abbrev byT(w:Ua):Bool:=w.params.followText "set-order"
def Xnh{α:Type}(f:Nat->Nat):∀(n k:Nat) (l:List α) (out:Array α),lg l=n->(pickOrder.go f n k l out).toList.Perm (out.toList++l)
 |0=>λk l out h=>by let:l=[]:=Vfh h;subst this;simp![pickOrder.go]|n+1=>λk l out h=>by
  let hl:f k%lg l<lg l:=Vgy _ Q0;unfold pickOrder.go;rw[U7 hl];dsimp;calc(Xnh f n Qe3 _ _ (by rw[List.length_eraseIdx_of_lt hl];omega)).trans ?_;rw[Vcx,Uj];calc Vh7 _ ?_;let e:l=l.take (f k%lg l)++l[f k%lg l]::l.drop (f k%lg l+1):=by rw[List.getElem_cons_drop,Ut]
  rw[List.eraseIdx_eq_take_drop_succ];exact List.Perm.symm (by
   conv=>lhs;rw[e]
   calc List.perm_middle)
abbrev Xam(w:Ua)(a ep:Nat)(es:Array Qw0):List Qw0:=if byT w then QpO.toList else es.toList
def Xcp(w:Ua)(a ep:Nat)(es:Array Qw0):Q73.Perm es.toList:=by
 unfold Xam;split;·unfold pickOrder;let:=Xnh Qr9 es.size 0 es.toList #[] QA;simpa using this
 ·calc Vcc _
abbrev Xbb(w:Ua)(t:Uw)(i:Nat):Nat:=if byT w then 0 else match i with
 |0=>0|i+1=>t.place.getD i 0+1
section
variable{prog:V3}{w:Ua}{A:Uz}{E:VP}{s:Vc}
def X03{t:Uw}(T:Tb t)(i:Nat)(hi:i<=t.place.size)(hb:byT w=yw):Vi1 t.place Q3D=i:=by
 let⟨b1,B,L⟩:=Xcl T.ris Q3D;unfold Xbb at b1 B L |-;rw[hb]at b1 B L |-;simp[Vs,if_false]at b1 B L |-;cases i with
 |zero=>
  dsimp at b1 B L |-;rcases Nat.eq_zero_or_pos (Vi1 t.place 0) with h|h;·exact h
  ·exact aB0 (B 0 h) QW7|succ i=>
  dsimp at b1 B L |-;let h1:¬ Vi1 t.place QvM<=i:=λh=>by let:=L i h Q0;omega
  let h2:¬ i+1<Vi1 t.place QvM:=λh=>by let:=B QX2 h;let:=T.ris.lt (a:=0) (show i<i+1 by omega) Q0;omega
  omega
def Xsy{a:Addr}{o:Obj}{es:Array Qw0}{ep i:Nat}{t:Uw}{Q:Option (Vb×Nat)->Vc->Prop}(ho:s.heap.get? a=yz o)(hd:o.data=.set es ep t)(T:Tab t es.size)(hl:t.led = !byT w)(hi:i<=es.size)
  (h:Q (QAd.map λe=>(e.2,Xbb w t QX2)) s):Vg Q5 A (setNext a Q3D i ep) Q E s:=by
 let ft:=Xag T;unfold setNext;calc Va QRQ;dsimp;unfold setsByText;calc Va QXU;show Vg _ _ (if byT w=yx then _ else _) _ _ _;cases B:byT w with
 |true=>
  simp[if_true,bne_self_eq_false,Vs,if_false];unfold setWalk;calc Va (Va QRQ);dsimp;unfold setsByText;calc Va QXU;show Vg _ _ (if byT w=yx then _ else _) _ _ _;rw[B,iP0 rfl];calc Va QUU;let e1:Xam w a ep es=QpO.toList:=by unfold Xam;rw[iP0 B]
  let e2:Xbb w t QX2=Xbb w t i:=by unfold Xbb;rw[iP0 B,iP0 B]
  rw[e1,e2,Ue]at h;exact h|false=>
  simp[Vs,if_false];let aa:Q74=false:=by rw[T.pl];rfl
  let L:QsK=false:=by rw[hl,B];rfl
  show Vg _ _ (if Q74=yx then _ else _) _ _ _;rw[aa];simp[Vs,if_false];calc Va ?_;show Vg _ _ (if QsK=yx then _ else _) _ _ _;rw[L];simp[Vs,if_false];calc Vd ?_;rw[X03 T.tb i (by rw[T.sz];calc hi) B];let e1:Xam w a ep es=es.toList:=by unfold Xam;rw[iN0 QXR]
  rw[e1,Ue]at h;by_cases c:i<es.size
  ·let c2:i<t.place.size:=by rw[T.sz];exact c
   rw[Uo c]at h;rw[Uo c,Uo c2];let e2:Xbb w t QX2=t.place[i]+1:=by unfold Xbb;rw[iN0 QXR];simp![Va8,c2]
   rw[e2]at h;exact Vd h
  rw[Array.getElem?_eq_none Q0]at h;rw[Array.getElem?_eq_none Q0];calc Vd h
private abbrev Xuz(h:Heap)(it a:Addr)(f0 f1 n ep:Nat):Prop:=h.get? it=yz {cls:=.type "set_iterator",dict:=yy,data:=.fields #[U0 f0,U0 f1,.ref a,U0 n,U0 ep],slots:=#[]}
variable{it a:Addr}{o:Obj}{es:Array Qw0}{ep i:Nat}{t:Uw}
def X5g{Q:OV->Vc->Prop}{e:Int×Vb}(hi:Xuz s.heap it a Q3D i es.size ep)(L:s.heap.get? a=yz o)(hd:o.data=.set es ep t)(T:Tab t es.size)(hl:t.led = !byT w)(B:Q73[i]?=yz e)
  (hQ:∀h',Xuz h' it a (Xbb w t QX2) QX2 es.size ep->Vab it s.heap h'->Q (yz e.2) QO):Vg Q5 A QCM Q E s:=by
 let hT:s.TypeIs QN1 "set_iterator" := QFX;let hn:i<=es.size:=by let:=QET.1;rw[QhB.length_eq,V1]at this;exact Vc4 this
 unfold Vdx;calc Va Qo4;show Vg _ _ Q0N _ _ _;unfold fieldsOf;calc Va QSQ;show Vg _ _ QxM _ _ _;unfold setEntries;calc Va (Va (Va6 L hd QXg Qz0));dsimp;simp[bne_self_eq_false,Vs,if_false];show Vg _ _ (setNext a (Vfa (Xbb w t i:Int)) (Vfa (i:Int)) QRU >>= _) _ _ _;simp[Vbu];calc Va (Xsy L hd T hl hn ?_);rw[B];dsimp[Vaa];calc Va Q2J;calc Va (U9 e1 QA λh2 e2 c2=>?_);calc Vd ⟨_,rfl,Vd (hQ h2 ?_ (c1.trans c2))⟩;calc e2
def X5h{Q:OV->Vc->Prop}(L:A.handled=yy)(hi:Xuz s.heap it a (Xbb w t es.size) es.size es.size ep)(B:s.heap.get? a=yz o)(hd:o.data=.set es ep t)(T:Tab t es.size)(hl:t.led = !byT w)
  (hQ:∀h',Heap.ExtBut it s.heap h'->Q yy QO):Vg Q5 A QCM Q E s:=by
 let hT:s.TypeIs QN1 "set_iterator" := QFX;let hx:Q73[es.size]?=none:=Va2 (by rw[QhB.length_eq,V1];calc Vi _);unfold Vdx;calc Va Qo4;show Vg _ _ Q0N _ _ _;unfold fieldsOf;calc Va QSQ;show Vg _ _ QxM _ _ _;unfold setEntries;calc Va (Va (Va6 B hd QXg Qz0));dsimp;simp[bne_self_eq_false,Vs,if_false];show Vg _ _ (setNext a (Vfa (Xbb w t es.size:Int)) (Vfa (es.size:Int)) QRU >>= _) _ _ _;simp[Vbu];calc Va (Xsy B hd T hl Qd ?_);rw[hx];dsimp[Option.map_none];calc Va Q2J;show Vg _ _ Q3B _ _ _;calc Va ?_;simp[newExc,newTuple];calc Va QzX;calc Va (m:=Vix _ _) Qh9;calc Val ?_ QKD;simp[raiseNew];exact Va QmO
 first|rw[show A.in1.handled=yy from L]|rw[L]
 calc Va (Vd (wpAny_throw ?_));calc Va (Vfw (T:="StopIteration") (b:=yx) Q04 isSubtype_stop ?_);calc Vd (hQ _ ((c1.extBut.push _).push _))
theorem Yf8(w:Ua)(it a:Addr)(o:Obj)(es:Array Qw0)(ep:Nat)(t:Uw)(i:Nat)(s:Vc):Prop:=Xuz s.heap it a Q3D i es.size ep/\s.heap.get? a=yz o
def X5i(hh:A.handled=yy)(ab:it≠a)(hd:o.data=.set es ep t)(T:Tab t es.size)(hl:t.led = !byT w):WalksS prog w A it [it,a] [it] Eq es.size (λi v=>QAd.map Qx1=yz v) (Yf8 w it a o es ep t) where
 sub:=λb L=>by rw[Vw.mp L];exact V6
 grefl:=λ_=>rfl
 gtrans:=λ_ _ _ x y=>x.trans y
 frame:=λi s h' tk st _ k=>⟨k it V6 _ st.1,k a (V2 _ V6) _ st.2⟩
 item:=λi s Q E hi st B=>by
  let aa:i<Q73.length:=by rw[QhB.length_eq,V1];exact hi
  exact X5g st.1 st.2 hd T hl (U7 aa) λh' q c=>B _ _ (by rw[U7 aa];rfl) ⟨q,(c.2 a QAY).trans st.2⟩ ⟨λb o' L e'=>?_,rfl,rfl,rfl,Vi _⟩;exact(c.2 b QaN).trans e'
 done:=λs Q E st B=>X5h hh st.1 st.2 hd T hl λh' c=>B _ ⟨λb o' L e'=>c b o' QaN e',rfl,rfl,rfl,Vi _⟩
 self:=λi s Q E st B=>by let hT:s.TypeIs QN1 "set_iterator" := ⟨_,st.1,rfl⟩;calc Vhb hT Xpf (Uv Xpf hT Xxl (show Vg _ _ (ret QN1) _ _ s from Vd ⟨_,rfl,"set_iterator",_,hT,slot_si.lookup,B⟩) (X02 _))
def X04{Q:VP}(B:s.heap.get? a=yz o)(aa:o.ExactSet)(hd:o.data=.set es ep t)(T:Tab t es.size)
  (hQ:Q QC {s with heap:=s.heap.push QI }):Vg Q5 A QKW Q E s:=by
 let hT:s.TypeIs Qt "set" := ⟨o,B,aa.1⟩;let ft:=Xag T;calc Vhb hT F.slot_set_iter (Uv F.slot_set_iter hT Xpe ?_ (F.args_set_iter_1 _));show Vg _ _ (Vjz a >>= _) _ _ _;unfold Vjz setEntries;calc Va (Va (Va (Va6 B hd ft (Vd Qz0))));show Vg _ _ (setDrawn a >>= _) _ _ _;unfold setDrawn setsByText;calc Va (Va (Va6 B hd ft (Va (Va QUU))));let L:Q9X=false:=by rw[T.pl];simp!
 show Vg _ _ (ite (Q9X=yx) _ _) _ _ _;rw[L,iN0 V0];calc Va Qz0;unfold setEpoch;calc Va (Va (Va6 B hd ft Qz0));calc Va (Val (Vd ⟨_,rfl,"set_iterator",_,Q04,slot_si.lookup,hQ⟩))
def X05{Q:Bool->Vc->Prop}(ho:s.heap.get? a=yz o)(B:o.ExactSet)(L:Q yw s):Vg Q5 A (Vi8 Qt) Q E s:=by
 let hT:s.TypeIs Qt "set" := ⟨o,ho,B.1⟩;unfold Vi8;calc Va (wpAny_specialOf hT F.slot_set_len.lookup ?_);let e1:splitId "set.__len__"=yz ("set","__len__"):=by decide+kernel
 dsimp;rw[e1];dsimp;calc Va (Vfw hT sub_set_self ?_);simp[Vc7,Vs,if_false];calc Va (Vcm hT (Vd L))
def Xix{Q:LV->Vc->Prop}(hh:A.handled=yy)(ho:s.heap.get? a=yz o)(ae:o.ExactSet)(hd:o.data=.set es ep t)(T:Tab t es.size)(hl:t.led = !byT w)
  (hQ:∀h' tk,(∀b u,s.heap.get? b=yz u->h'.get? b=yz u)->s.heap.objs.size<=h'.objs.size->Q (Q73.map Qx1) Qs):Vg Q5 A (collect Qt) Q E s:=by
 unfold collect;calc Va QhC;rw[Vba F.plain_proto_collect _];show Vg _ A.in1 (newList [] >>= λl=>again (.builtin "list.__iadd__" ⟨[l,.ref a],[]⟩)) _ _ s;calc Va QT8;rw[Vba Vhe _];let⟨B,g,d,tk,os⟩:=s;replace ho:B.get? a=yz o:=ho;let la:a<B.objs.size:=Vz ho;let aa:QqH.get? a=yz o:=Vf _ ho;show Vg _ A.in1 (Vbs Qi4 Qt Qi4) _ _ ⟨B.push QS,g,d,tk,os⟩;let n1:QqH.get? B.objs.size=yz QS:=Vo _ rfl;let k1:∀b u,B.get? b=yz u->QqH.get? b=yz u:=λb u e=>Vf _ e;let z1:(B.push QS).objs.size=B.objs.size+1:=Vao ..;generalize B.push QS=g1 at aa n1 k1 z1;unfold Vbs;calc Va (Vcm (T:="set") ⟨o,aa,ae.1⟩ ?_);let hS:Vj0 Qi4 Qt=false:=by simp![Vj0,Vc5 la]
 simp[hS,show(Vce "set" == Vce "list")=yw by decide,show(Vce "set" == Vce "tuple")=yw by decide,Bool.or_false,Vs,if_false];calc Va (X04 (s:=QZ9) aa ae hd T ?_);let n2:QdF.get? B.objs.size=yz QS:=Vf _ n1;let i2:QdF.get? g1.objs.size=yz QI:=Vo _ rfl;let k2:∀b u,g1.get? b=yz u->QdF.get? b=yz u:=λb u e=>Vf _ e;let z2:(g1.push QI).objs.size=g1.objs.size+1:=Vao ..;generalize g1.push QI=g2 at n2 i2 k2 z2;calc Va (U2 (X05 (s:=⟨g2,g,d,tk,os⟩) Q2Z ae ?_));show Vg _ A.in1 (rule "list.extend.makes-room" >>= λ_=>Builtin.List.listTouch Qi4 >>= λ_=>again (.builtin "list.extend.loop" ⟨[.ref B.objs.size,.ref g1.objs.size,.ref B.objs.size],[]⟩)) _ _ _;calc Va (Vb3 QoZ);show Vg _ A.in1 (updateSeq B.objs.size (·.push .none) >>= λ_=>updateSeq B.objs.size (·.pop)) _ _ _;calc Va (wpAny_updateSeq n2 rfl ?_);let n3:=Vda (Vae (·.push Vbz)) n2 rfl;calc wpAny_updateSeq n3 rfl ?_;let n4:=Vda QPD n3 rfl;let ac:∀b u,b≠B.objs.size->g2.get? b=yz u->(QJ4.update B.objs.size QPD).get? b=yz u:=λb u hb e=>QBB.trans (QBB.trans e);let z4:(QJ4.update B.objs.size QPD).objs.size=g2.objs.size:=by rw[Vh2,Vh2]
 generalize QJ4.update B.objs.size QPD=g4 at n4 ac z4;let aj:g1.objs.size≠a:=by rw[z1];exact Vc5 (Vbi la)
 let af:a≠B.objs.size:=Ul la;let ag:g1.objs.size≠B.objs.size:=by rw[z1];exact Nat.succ_ne_self _
 let W:=X5i (prog:=prog) (w:=w) (A:=A.in1) (it:=g1.objs.size) (a:=a) (o:=o) (es:=es) (ep:=ep) (t:=t) Q2E aj hd T hl
 exact Vd ⟨Veg F.plain_extend_loop _,codeAny_extend_loopS W (by let:=T.ln;rw[Va7];omega) B.objs.size (by
  intro hm;rcases Vr.mp hm with e|hm;·exact ag e.symm
  ·calc af (Vw.mp hm).symm) _ es.size 0 _ _ _ rfl QS8 ⟨?_,ac _ _ af Q2Z⟩ n4 (ItemsOf.nil _) λs' ab c hm ah L=>?_⟩
 ·let e0:Xbb w t 0=0:=by unfold Xbb;split<;>rfl
  rw[e0];exact ac _ _ ag i2
 ·show Vg _ A (load B.objs.size >>= _) _ _ s';calc Va (Vfv ah Qz0);let⟨h',g',d',al,ak⟩:=s';let⟨m1,m2,m3,m4,m5⟩:=hm;replace m2:g=g':=m2;replace m3:d'=d:=m3;replace m4:ak=os:=m4;subst m2;subst m3;subst m4;let ea:ab.toList=Q73.map Qx1:=by
   exact Vha λi=>?_;let ai:Q73.length=es.size:=by rw[QhB.length_eq,V1]
   by_cases c:i<es.size
   ·let hz:i<ab.size:=by rw[L.1];exact c
    let h1:ab[i]?=yz ab[i]:=Uo hz;rw[Ue,h1,Ud];exact(L.2 i _ h1).symm
   rw[Va2 (by rw[V1,L.1];omega),Va2 (by rw[Ve,ai];omega)]
  rw[ea];let kk:∀b u,B.get? b=yz u->h'.get? b=yz u:=λb u e=>by let lb:=Vz e;exact m1 b u (by simp[Vr,Va5,or_false,not_or];calc⟨Ul lb,by rw[z1];calc Ul Qie⟩) (ac b u QrZ (k2 b u (k1 b u e)))
  calc hQ h' al kk ?_;calc Vc4 (Vz ah)
universe e
def Xxm:∀(l B:LI),lg B<=QfS.length
 |[]=>λB=>Vi _|x::l=>λB=>by
  calc V5 ?_ (Xxm l (ddS B x));unfold ddS;split;·exact Vi _
  ·simp!
def X5j(ns:LI)(i:Nat)(hi:i<lg ns):ddI (ns.take QX2)=ddS Q5F QoD:=by unfold ddI;rw[List.take_succ,U7 hi,Vcy];simp![List.getD,hi]
def Yep(ns:LI)(i:Nat):Q5F.length<=QH6.length:=by
 let:ns=ns.take i++ns.drop i:=(Ut i ns).symm;unfold ddI
 conv=>rhs;rw[this,Vcy]
 calc Xxm _ _
section
variable{prog:V3}{w:Ua}{A:Uz}{R:Result->Vc->Prop}{I:Addr}{fp wr:LR}{G:Array GenState->Array GenState->Prop}{n:Nat}{P:Nat->Vb->Prop}{St:Nat->Vc->Prop}{ld:Bool}
def X06(W:WalksS prog w A.in1 I fp wr G n P St)(B:Addr)(hf:B ∉ fp)(ns:LI)(hn:QyE=n)(hP:∀i v,P i v->∃t,v=.int QoD t)(hb:QH6.length<60):
  ∀(k i:Nat) (s:Vc) (ks:LI),n-i=k->i<=n->St i s->SetI prog w s.heap B ld ks->ks.Perm Q5F ->
   (∀s' L,Moved (B::wr) G s s'->SetI prog w s'.heap B ld L->L.Perm QH6->R QNE s')->Vcq Q5 A (.builtin "set.update.loop" ⟨[.ref B,.ref I],[]⟩) R s:=by
 let hw:B ∉ wr:=λh=>hf QfZ;let sub:∀b∈wr,b∈B::wr:=λb hb=>V2 _ hb;intro k;induction k with
 |zero=>
  intro i s ks hk hi st S p hR;obtain rfl:i=n:=by omega
  calc Va0 Ve2 ?_;rw[Vba Vcv _];show Vg _ A.in1 Qi7 _ _ s;calc Va QpG;show Vg _ A.in1 QTS _ _ s';calc Vd (hR s' ks QaF QEF ?_);rwa [<-hn,Vez]at p|succ k ih=>
  intro i s ks hk hi st S p hR;let lt:i<n:=by omega
  calc Va0 Ve2 ?_;rw[Vba Vcv _];show Vg _ A.in1 Qi7 _ _ s;calc Va (W.item i s _ _ lt st λv s' hv ac m=>?_);let⟨t,rfl⟩:=hP i v hv;show Vg _ A.in1 (Vdp [Vfs QoD t] (setAdd B (.int QoD t)) >>= _) _ _ s';let le:=Yep ns i;calc Va (U2 (X5f QEF (by rw[p.length_eq];omega) λh' L sb S' q=>?_));calc Vd ⟨Veg Vcv _,ih QX2 _ L Q0 lt (W.frame _ s' _ _ ac QJT λb hb o e=>?_) S' ?_ λag aa ab ae af=>?_⟩;·rw[sb.2 b (λz:b=B=>hf Qpd)];exact e
  ·rw[X5j ns i Q0];unfold ddS;rcases q with⟨q1,rfl⟩|⟨q1,q2⟩;·rw[iP0 QzP];exact p
   ·rw[iN0 QGV];exact q2.trans QqO
  calc hR ag aa (Moved.trans W.gtrans (QaF.then_heap QJT λb o hb e=>?_) ab) ae af;rw[sb.2 b (λz:b=B=>hb QKV)];calc e
variable{E:VP}{s:Vc}
def X5k(a:Vb){Q₁:VP}
  (h:Q₁ QC {s with heap:=s.heap.push QD6 }):
  Vcq Q5 A (.call QuJ QFA) Q4U s:=by
 calc Vfb ?_;show Vg _ A.in1 (do Vfy "set.__new__" QFA;again (.builtin "set.__new__" QFA)) _ _ s;calc Va (Vf8 (F.newCall_set_1 a) (Vd ⟨Veg F.plain_set_new _,Va0 F.entry_set_new ?_⟩));rw[Vba F.plain_set_new _];unfold Vbd.«set.__new__» Vjf;let B:=sub_set_self;let⟨L,g,d,tk,os⟩:=s;dsimp;wp_walk;calc Vd3 Qz0;dsimp;simp[newObj];calc Va (wpAny_alloc QjZ)
def Xsz(ld:Bool):Tab (.fresh 0 0 ld) 0:=⟨⟨Vek,rfl⟩,rfl,rfl,.inl rfl,show 0*5<7*3 by decide,by decide⟩
def X07 {h:Heap} {ld:Bool} {a:Addr} (e:h.get? a=yz Qv6):SetI prog w h a ld []:=
 ⟨_,#[],0,.fresh 0 0 ld,e,QuF,rfl,λx B=>by simp! at B,rfl,Xsz ld,rfl⟩
private noncomputable abbrev nS(w:Ua):Obj:=QD6
abbrev itO(b:Bool)(l:Addr):Obj:={cls:=.type (if b then "list_iterator" else "tuple_iterator"),data:=.fields #[.ref l,.int 0 0]}
theorem Xpg(b:Bool)(h:Heap)(l:Addr)(items:AV):Prop:=if b then h.IsList l items else h.IsTuple l items
set_option maxHeartbeats 3200000 in
def Xni(b:Bool){l:Addr}{items:AV}{R:Vc->Prop}{Q:VP}(hl:Xpg b s.heap l items)(hR:∀aa,R aa->Q QC aa)
  (hU:∀R':Except Vb Flow->Vc->Prop,(∀s',R s'->R' QNE s')->Vcq Q5 A.in1.in1 (.builtin "set.update.loop" ⟨[.ref s.heap.objs.size,.ref (s.heap.push QsO).objs.size],[]⟩) R' QkE):
  Vg Q5 A QT7 Q E s:=by
 let⟨c,tl,ar⟩:=F.called_set.mro;let ap:=F.called_set.made;let au:=F.called_set.sub;calc wpAny_call Qce;show Vg _ _ QpI _ _ _;calc Vd ⟨Vgt _ Q8,Va0 F.entry_type_call ?_⟩;rw[Around.under_plain (weight_type_call_type "set" [.ref l] []) rfl];let h1:=F.called_set.notType;let h2:=F.called_set.canCreate;let ax:=F.typeCall_set_1 Q4C
 repeat (any_goals (first|assumption|wp_step))
 calc Vea (X5k Q4C (E:=E) (Q₁:=λobj ag=>obj=.ref s.heap.objs.size/\ag=Q52) QG0) λr ag hr=>?_;cases r with
 |error e=>exact hr|ok fl=>
  cases fl with
  |ret obj=>
   let⟨rfl,rfl⟩:=hr;let hT:Shared.TypeIs Q52 QC "set" := Q04;let av:=F.called_set.init.lookup;let aw:=F.called_set.init.bind QC
   repeat (any_goals (first|assumption|wp_step))
   exact Vea (Vfz (R:=wants (λr aa=>r=.none/\R aa) E) F.called_set.init.plain F.entry_set_init (check_set_init_1 hT ?_)) λao aa B=>?_
   ·unfold Vbd.«set.__init__» noKeywords Builtin.Frozenset.updateFrom;cases b with
    |true=>
     let⟨⟨an,ab,ai,L⟩,aj,af,nl,ae⟩:=show s.heap.IsList l items from hl;simp at af ae;subst af;subst ae;let ac:QW0.get? l=yz {cls:=.type "list",dict:=ab,data:=.seq items nl,slots:=L}:=Vf _ aj;let al:=F.sub_list_set;let am:=F.sub_list_frozenset;let aq:(Vce "list" == Vce "dict")=false:=by decide
     generalize ak:Vfl=PI;wp_walk;subst ak;exact Vfj QRN Q2A|false=>
     let⟨⟨an,ab,ai,L⟩,aj,af,nl,ae⟩:=show s.heap.IsTuple l items from hl;simp at af ae;subst af;subst ae;let ac:QW0.get? l=yz {cls:=.type "tuple",dict:=ab,data:=.seq items nl,slots:=L}:=Vf _ aj;let al:=F.sub_tuple_set;let am:=F.sub_tuple_frozenset;let aq:(Vce "tuple" == Vce "dict")=false:=by decide
     generalize ak:Vfl=PI;wp_walk;subst ak;exact Vgr QRN Q2A
   cases ao with
   |error e=>exact B|ok ah=>
    cases ah with
    |ret r=>
     let⟨rfl,B⟩:=B
     repeat (any_goals (first|assumption|wp_step))
     calc hR _ B|_=>calc B.elim
  |_=>calc hr.elim
def Xs0(b:Bool){l:Addr}{items:AV}(hh:A.handled=yy)(hl:Xpg b s.heap l items):
  l<s.heap.objs.size/\∃St:Nat->Vc->Prop,WalksS prog w A.in1.in1.in1 (s.heap.push QsO).objs.size QUE [(s.heap.push QsO).objs.size] QNX items.size (λi v=>items[i]?=yz v) St/\St 0 QkE:=by
 let lS:l<s.heap.objs.size:=by
  cases b with
  |true=>let⟨o,L,_⟩:=show s.heap.IsList l items from hl;exact Vz L|false=>let⟨o,L,_⟩:=show s.heap.IsTuple l items from hl;exact Vz L
 let B:l≠(s.heap.push QsO).objs.size:=by rw[Vao];exact Ul (Vbi lS)
 calc⟨lS,?_⟩;cases b with
 |true=>let hl:s.heap.IsList l items:=hl;calc⟨_,(Walks.list (A:=A.in1.in1.in1) Q2E _ l B items).toS,QCI⟩|false=>let hl:s.heap.IsTuple l items:=hl;calc⟨_,(Walks.tuple (A:=A.in1.in1.in1) Q2E _ l B items).toS,QCI⟩
def Xxn{S I:Addr}{h1:Heap}{s':Vc}(m:Moved [S,I] QNX {s with heap:=h1} s')(hn:∀b o,s.heap.get? b=yz o->b≠S/\b≠I/\h1.get? b=yz o):∃h' tk,s'=Qs/\∀b o,s.heap.get? b=yz o->h'.get? b=yz o:=by let⟨h',g',d',L,B⟩:=s';let eg:g'=s.gens:=m.gens;let ed:d'=s.drawn:=m.drawn;let eo:B=s.os:=m.os;subst eg;subst ed;subst eo;calc⟨h',L,rfl,λb o e=>m.heap b o ?_ Q5Q.2.2⟩;simp[Vr,Va5,or_false,not_or];calc⟨Q5Q.1,Q5Q.2.1⟩
def Xs1(b:Bool)(l:Addr):∀c o,s.heap.get? c=yz o->c≠s.heap.objs.size/\c≠(s.heap.push QsO).objs.size/\QCN.get? c=yz o:=λc o e=>by let lb:=Vz e;rw[Vao];calc⟨Ul lb,Ul Qie,Vf _ QAE⟩
def Xxo(b:Bool)(l:Addr):QCN.get? s.heap.objs.size=yz QsO:=Vf _ QN3
def Xs2{l:Addr}(h:l<s.heap.objs.size):s.heap.objs.size ∉ QUE:=by rw[Vao];simp[Vr,Va5,or_false,not_or];calc⟨Ul QKT,Vc5 h⟩
def Xxp(b:Bool){l:Addr}{items:AV}{ns:LI}{Q:VP}(hh:A.handled=yy)(hl:Xpg b s.heap l items)(hi:Vby items.toList ns)(hb:QH6.length<60)
  (h:∀(h':Heap) (tk:Nat) (ks:LI),SetI prog w h' s.heap.objs.size Q8X ks->ks.Perm QH6->QD0->Q QC Qs):
  Vg Q5 A QT7 Q E s:=by
 let⟨lS,St,W,st⟩:=Xs0 (prog:=prog) (w:=w) b hh hl;calc Xni b hl (R:=λB=>Q QC B) QTa λR' L=>X06 W s.heap.objs.size QGe ns (by rw[<-hi.length];simp!) (λi v hv=>IntsAre.int_at hi i v (by rw[Ue];calc hv)) hb QAU 0 _ [] rfl QS8 st (X07 Qfc) QmZ λs' ks m S' p=>L s' ?_;let⟨h',tk,rfl,k'⟩:=Xxn m Qgc;calc h _ _ ks S' p k'
universe e
universe Z
universe e
section
namespace Z
open PySem PySem.SetTable PySem.Spec PyProof.Rows
def Xxq{t:Uw}{es:Array Qw0}{f:Nat->Int}{h:Int}{p:Probe}{r:Option Met}{d:Nat}(T:Tb t)(hf:∀i,f i=QQH.getD 0)(hp:p.dummy=yy)(hd:d<10*turns t.mask)(he:QKH.j ∉ t.place.toList)(hl:∀k,k<d->Qn6.j∈t.place.toList)(e:t.probe f h p=r):
  ((∀k,k<d->∀i,t.slot Qn6.j=.live i->QQH.getD 0≠h)/\r=yz QnQ) \/
  ∃k i,k<d/\t.slot Qn6.j=.live i/\QQH.getD 0=h/\(∀B,B<k->∀L,t.slot (its t B p).j=.live L->(es[L]?.map Qb).getD 0≠h)/\r=yz QVD:=by
 rcases Xuq T f h d (10*turns t.mask) p hp hd he hl with⟨g1,g2⟩|⟨k,i,g1,g2,g3,g4,g5⟩;·exact .inl ⟨λk hk i hi=>by rw[<-hf];calc g1 k hk i hi,e.symm.trans g2⟩
 ·calc .inr ⟨k,i,g1,g2,by rw[<-hf];calc g3,λB hk L hi=>by rw[<-hf];calc g4 B hk L hi,e.symm.trans g5⟩
private noncomputable abbrev Xo(prog:V3)(w:Ua):HeapKind prog w (LI):=tupleKind Q01
def TabG.odd{t:Uw}{es:Array Qw0}(T:TabG t es):t.gaveWay=false:=by unfold SetTable.gaveWay;rcases T.mg with e|e|e|e|e|e<;>rw[e]<;>rfl
section
variable{prog:V3}{w:Ua}{A:Uz}{E:VP}{s:Vc}
def X5l(n:Nat){v:Vb}(h:carriedByValue v=yx):Vhf n v=pure false:=by
 cases v with
 |ref a=>simp![carriedByValue]at h|_=>cases n<;>(unfold Vhf;rfl)
def Xxr{k:LI}{a:Addr}{Q:Bool->Vc->Prop}(hk:QK.is s.heap k a)(h:Q yw s):Vg Q5 A (Vhf 8 Qt) Q E s:=by
 let⟨o,its,m,L,hc,hd,hi⟩:=hk;unfold Vhf;calc Va QOD;dsimp;calc Va Qz0;simp[Vc7,Vs,if_false];calc Va QLW;dsimp;calc Va ?_;show Vg _ _ QoS _ _ s;rw[<-Array.forIn_toList];calc Vh1 _ (λrest r s'=>r.1=yy/\s'=s/\∀v∈rest,carriedByValue v=yx) _ ?_ ?_ _ _ ⟨rfl,rfl,hi.byValue⟩;·rintro v rest r s' ⟨hr,rfl,hall⟩;rw[X5l _ (hall v V6)];calc Va Qz0;simp[Vs,if_false];exact Vd QtF
 ·rintro ⟨r1,r2⟩ s' ⟨hr,rfl,_⟩;simp at hr;subst hr;calc Vd h
def X08{ks:LI}{vs:LV}(h:ItemsAre Q01 ks vs):∀v∈vs,∃i t,v=.int i t:=by
 induction h with
 |nil=>intro v B;simp! at B|@cons k L ks vs h1 _ ih=>
  intro v B;rcases Vr.mp B with rfl|B;·let⟨t,q⟩:=Vg9 h1;exact⟨_,t,q⟩
  ·calc ih v B
def X09{k:LI}{a:Addr}{Q:Bool->Vc->Prop}(hk:QK.is s.heap k a)(h:Q yx s):Vg Q5 A (hashByValue 8 Qt) Q E s:=by
 let⟨o,its,m,L,hc,hd,hi⟩:=hk;unfold hashByValue;calc Va (wpAny_specialOf (T:="tuple") ⟨o,L,hc⟩ F.slot_tuple_hash.lookup ?_);dsimp;calc Va QLW;calc Va ?_;show Vg _ _ QoS _ _ s;rw[<-Array.forIn_toList];calc Vh1 _ (λrest r s'=>r.1=yy/\s'=s/\∀v∈rest,∃i t,v=Vfs i t) _ ?_ ?_ _ _ ⟨rfl,rfl,X08 hi⟩;·rintro v rest r s' ⟨hr,rfl,hall⟩;let⟨i,t,rfl⟩:=hall v V6;rw[show hashByValue 7 (Vfs i t)=pure yx by unfold hashByValue;rfl];calc Va Qz0;simp[Vc7,Vs,if_false];exact Vd QtF
 ·rintro ⟨r1,r2⟩ s' ⟨hr,rfl,_⟩;simp at hr;subst hr;calc Vd h
def X5m{k:LI}{a:Addr}(L:QK.is s.heap k a){Q:Bool->Vc->Prop}(h:Q yw s)(ys:LV)(hy:∀y∈ys,∃B b,y=U1 b/\QK.is s.heap B b):Vg Q5 A (searchCouldBeSeen Qt ys) Q E s:=by
 unfold searchCouldBeSeen;calc Va ?_;exact Vh1 _ (λrest r s'=>r.1=yy/\s'=s/\∀y∈rest,∃B b,y=U1 b/\QK.is s.heap B b) _ ?_ ?_ _ _ ⟨rfl,rfl,hy⟩
 ·rintro y rest r s' ⟨hr,rfl,hall⟩;let⟨B,b,rfl,hb⟩:=hall y V6;let on:∀u∈rest,∃B b,u=U1 b/\QK.is s'.heap B b:=λu hu=>hall u (V2 _ hu);dsimp;split;·exact Vd QuT
  ·calc Va (QK.quiet L ?_);simp[Vc7,Vs,if_false];calc Va (QK.quiet hb ?_);simp[Vc7,Vs,if_false];calc Va (Xxr L ?_);simp[Vs,if_false];calc Va (Xxr hb ?_);simp[Vs,if_false];exact Vd QuT
 rintro ⟨r1,r2⟩ s' ⟨hr,rfl,_⟩;simp at hr;subst hr;calc Vd h
theorem Mem(prog:V3)(w:Ua)(h:Heap)(es:Array Qw0)(ps:List Qf1):Prop:=es.toList=ps.map Xfw/\∀p∈ps,QK.is h p.1 p.2
def Mem.get{h:Heap}{es:Array Qw0}{ps:List Qf1}(m:Mem prog w h es ps){i:Nat}{e:Int×Vb}(B:es[i]?=yz e):∃p,ps[i]?=yz p/\e=Xfw p/\QK.is h p.1 p.2:=by
 rw[<-Ue,m.1,Ud]at B;cases L:ps[i]? with
 |none=>rw[L]at B;cases B|some p=>rw[L]at B;calc⟨p,rfl,(Ur B).symm,m.2 p (V7 L)⟩
def Xph(t:Uw):t.sameMemory t.moves t.mask=yz true:=by unfold SetTable.sameMemory;simp!
def X9n{h:Heap}{t:Uw}{es:Array Qw0}{ps:List Qf1}(T:TabG t es)(m:Mem prog w h es ps){k:LI}(hk:k∈ps.map Qb){N:Nat}(he:pth t.mask Qv0 N ∉ t.place.toList):
  ∃n i p,n<N/\t.slot QoO=.live i/\ps[i]?=yz p/\p.1=k:=by
 let⟨p,hp,rfl⟩:=Vm.mp hk;let⟨i,hi⟩:=Ved.mp hp;let e1:es[i]?=yz QOg:=by rw[<-Ue,m.1,Ud,hi];rfl
 let B:i<t.place.size:=by rw[T.sz];exact(Vad.mp e1).1
 let e2:t.place[i]?=yz t.place[i]:=Uo B;let⟨n,hn,hl⟩:=T.own _ _ _ (X8h e2 e1);let L:pth t.mask (QK.hash p.1) n=t.place[i]:=hn;let mem:t.place[i]∈t.place.toList:=by simp!
 exact⟨n,i,p,?_,?_,hi,rfl⟩
 ·rcases Vjj n N with c|c|c;·exact c
  ·subst c;exact aB0 (L▸mem) he
  exact aB0 (hl N c) he
 ·rw[L];let⟨i',s1,s2⟩:=Xgv T.tb mem;let:i'=i:=by
   let⟨l1,v1⟩:=Vad.mp s2;rcases Vjj i' i with c|c|c;·let:=T.tb.ris.lt (a:=0) c B;simp![Va8,l1,B,v1]at this
   ·exact c
   let:=T.tb.ris.lt (a:=0) c l1;simp![Va8,l1,B,v1]at this
  rw[s1,this]
def Yeq{ad:Bool}{a:Addr}{o:Obj}{es:Array Qw0}{ep:Nat}{t:Uw}{ps:List Qf1}{x:Addr}{k:LI}{N:Nat}{Q:SetFound->Vc->Prop}(hu:A.units<Vbw)(ho:s.heap.get? a=yz o)(hd:o.data=.set es ep t)(T:TabG t es)(m:Mem prog w s.heap es ps)(hk:QK.is s.heap k x)
  (hN:N<10*turns t.mask) (he:pth t.mask Qv0 N ∉ t.place.toList) (hl:∀i,i<N->pth t.mask Qv0 i∈t.place.toList)
  (h1:k∈ps.map Qb->∀r:Option Nat,(ad=yw->r.isSome=yx)->Q (.there r) s) (h2:k ∉ ps.map Qb->Q (.free Q79 yw) s):
  ∀(d c B:Nat) (L:Option Probe),c+d=N->d<B->L.getD QS3=its t c QS3 ->
   (∀n i p,n<c->t.slot QoO=.live i->ps[i]?=yz p->p.1≠k) ->
   Vg Q5 A (setSearchFrom a Q47 Qv0 ad B L) Q E s:=by
 let pt:∀n,(its t n QS3).j=pth t.mask Qv0 n:=λn=>by rw[Xor];rfl
 let aa:∀c n,QHK.j=pth t.mask Qv0 Q0g:=λc n=>by rw[<-Xdp];exact pt Q0g
 intro d;induction d using Nat.strongRecOn with
 |_ d ih=>
  intro c B L hc hf hs no;obtain⟨B,rfl⟩:∃f,B=f+1:=⟨B-1,by lia⟩;calc Va (m:=setState a) QqG;dsimp;rw[T.odd];simp[Vs,if_false];rw[hs];let ag:=λr e=>Xxq (t:=t) (es:=es) (h:=QK.hash k) (p:=its t c QS3) (r:=r) (d:=d) T.tb Q32 (by rw[Xsd];rfl) QN7 (by rw[aa,hc];calc he) (λn hn=>by rw[aa];calc hl _ QN7) e;split
  ·rename_i met aj;rcases ag _ aj with⟨g1,g2⟩|⟨n,i,g1,g2,g3,g4,g5⟩
   ·cases g2;dsimp;rw[aa,hc];calc Vd (h2 λac=>?_);let⟨n,i,p,hn,af,hp,ah⟩:=X9n T m ac he;by_cases cn:n<c;·exact no n i p cn af hp ah
    ·calc g1 (n-c) QN7 i (by rw[aa,show c+(n-c)=n by lia];calc af) ?_;let:es[i]?=yz QOg:=by rw[<-Ue,m.1,Ud,hp];rfl
     rw[this,<-ah];rfl
   cases g5;let ak:i<es.size:=by let⟨_,z⟩:=Xgv T.tb (hl Q0g QN7);rw[aa]at g2;rw[g2]at z;let:=(Vad.mp z.2).1;cases z.1;rw[<-T.sz];exact this
   let e1:es[i]?=yz es[i]:=Uo ak;let⟨p,hp,an,am⟩:=m.get e1;rw[an]at e1;let rest:Vg Q5 A (do
     let yz (_,y):=es[i]?|Vd7 "internal:set-entry"
     let equal <- Vdp [y] (eqBool y Q47)
     let (es',_,t') <- setState a
     if ad&&equal then return .there yy
     let yz same:=t'.sameMemory t.moves t.mask|Vd7 "set.changed-during-lookup:is-the-new-block-at-the-old-address"
     let still <- match (if same then t'.slot QHK.j else .empty) with
      |.live i'=>match es'[i']? with
       |some (_,y')=>do pure (if <- isSame y' y then yz i' else yy)|none=>pure yy
      |_=>pure yy
     match still with
     |none=>rule "set.search.anew";setSearchFrom a Q47 Qv0 ad B yy
     |some i'=>if equal then return .there (yz i') else setSearchFrom a Q47 Qv0 ad B (yz (its t QF6 (its t c QS3)))) Q E s:=by
    rw[e1];calc Va (U2 (QK.eqBool hu am hk ?_));calc Va QqG;dsimp;by_cases ce:p.1=k
    ·let ac:=h1 (Vm.mpr ⟨p,V7 hp,ce⟩);cases ad with
     |true=>simp[Vbg,decide_eq_true ce,if_true];calc Vd (ac yy λz=>nomatch z)|false=>simp[Vcg,decide_eq_true ce,Vs,if_false];rw[Xph];simp[if_true];rw[g2];dsimp;rw[e1];dsimp[Xfw];calc Va QWE;simp[if_true];exact Vd (ac Qob λ_=>rfl)
    ·simp[Vct,decide_eq_false ce,Vs,if_false];rw[Xph];simp[if_true];rw[g2];dsimp;rw[e1];dsimp[Xfw];calc Va QWE;simp[if_true];exact ih (d-QF6) QN7 (c+QF6) B _ QN7 QN7 (by rw[Vfx,<-Xdp]) λn' i' p' ap ae ab=>?_;by_cases q1:n'<c;·exact no n' i' p' q1 ae ab
     ·by_cases q2:n'=c+n;·subst q2;rw[aa,ae]at g2;cases g2;rw[hp]at ab;cases ab;exact ce
      ·intro q3;calc g4 QQh QN7 i' (by rw[aa,show c+QQh=n' by lia];calc ae) ?_;let:es[i']?=yz (Xfw p'):=by rw[<-Ue,m.1,Ud,ab];rfl
       rw[this,<-q3];rfl
   dsimp;cases ao:t.led with
   |true=>simp[Vc7,Vs,if_false];exact rest|false=>
    simp[Viv,if_true];calc Va (X5m hk ?_ _ λy hy=>?_);·simp[Vs,if_false];exact rest
    ·let⟨e,al,rfl⟩:=Vm.mp hy;let:e∈es.toList:=by
      let:=(Array.mem_toList_iff.mp al);exact Array.mem_toList_iff.mpr (Array.mem_filter.mp this).1
     rw[m.1]at this;let⟨p',ab,rfl⟩:=Vm.mp this;exact⟨p'.1,p'.2,rfl,m.2 p' ab⟩
  rename_i ai;rcases ag _ rfl with⟨_,g2⟩|⟨n,i,g1,g2,g3,g4,g5⟩;·exact(ai _ g2).elim
  ·calc(ai _ g5).elim
universe e
universe Z
universe e
section
namespace Z
open PySem PySem.Spec PyProof.Rows L2
abbrev Xa6:Bool->Vl->Array Vl->Nat->Nat->Nat->StateT V9 Sem Q11:=sortPriv% PySem.Builtin.gallop
abbrev byd(lf:Bool)(k:Vl)(xs:Array Vl)(i:Nat):StateT V9 Sem (Option Bool):=do
 let x <- Vd9 xs i
 if lf then lt' x k else do
  let r <- lt' k x
  pure (r.map (!·))
private noncomputable abbrev G3:=Option Q11×Nat×Nat
abbrev gUp(lf:Bool)(k:Vl)(xs:Array Vl)(q n h m:Nat):StateT V9 Sem G3:=forIn [0:n] QHh λ_ z=>
 if z.2.2 ≥ m then pure QO4 else do
  let r <- byd lf k xs (q+(h+z.2.2))
  match r with
  |some y=>if !y then pure QO4 else pure QLG|_=>pure Qb8
abbrev gDn(lf:Bool)(k:Vl)(xs:Array Vl)(q n h m:Nat):StateT V9 Sem G3:=forIn [0:n] QHh λ_ z=>
 if z.2.2 ≥ m then pure QO4 else do
  let r <- byd lf k xs (q+(h-z.2.2))
  match r with
  |some y=>if y then pure QO4 else pure QLG|_=>pure Qb8
abbrev Xn1(lf:Bool)(k:Vl)(xs:Array Vl)(q n l r:Nat):StateT V9 Sem Q11:=do
 let c <- forIn [0:n] (QJR:G3) λ_ z=>
  if z.2.1 ≥ z.2.2 then pure QO4 else do
   let r <- byd lf k xs (q+(z.2.1+Q1K/2))
   match r with
   |some y=>if y then pure (.yield (yy,z.2.1+Q1K/2+1,z.2.2)) else pure (.yield (yy,z.2.1,z.2.1+Q1K/2))|_=>pure Qb8
 match c.1 with
 |some r=>pure r|none=>pure (yz c.2.2)
def Xr{α β:Type}{m L:StateT V9 Sem α}{f B:α->StateT V9 Sem β}(h:m=L)(k:∀x,f x=B x):(m >>= f)=(L >>= B):=by rw[h,show f=B from funext k]
def X9o(lf:Bool)(k:Vl)(xs:Array Vl)(q n h:Nat):Xa6 lf k xs q n h=(do
  let r <- byd lf k xs (q+h)
  match r with
  |some z=>
   if z then do
    let c <- gUp lf k xs q n h Qhf
    match c.1 with
    |some r=>pure r|none=>Xn1 lf k xs q n (h+c.2.1+1) (h+min c.2.2 Qhf)
   else do
    let c <- gDn lf k xs q n h Qvf
    match c.1 with
    |some r=>pure r|none=>Xn1 lf k xs q n (h+1-min c.2.2 Qvf) (h-c.2.1)
  |_=>pure yy):=by
 calc Xr rfl λr=>?_;cases r with
 |none=>rfl|some z=>
  exact ite_congr rfl (λ_=>Xr rfl λc=>?_) λ_=>Xr rfl λc=>?_
  ·let⟨L,c2⟩:=c;cases L with
   |some r=>rfl|none=>exact Xr rfl λd=>?_;let⟨B,d2⟩:=d;cases B<;>rfl
  let⟨L,c2⟩:=c;cases L with
  |some r=>rfl|none=>calc Xr rfl λd=>?_;let⟨B,d2⟩:=d;cases B<;>rfl
section
variable{prog:V3}{w:Ua}{A:Uz}{E:VP}{s:Vc}{lf:Bool}{k:Vl}{xs:Array Vl}{q n:Nat}{st:V9}{Q:Option Nat->V9->Prop}(b:Nat->Bool)
  (ask:∀i,i<n->∀Q':Option Bool->V9->Prop,Q' (yz (b i)) st->wpS Q5 A E s (byd lf k xs Qdf) Q' st)
  (mono:∀i j,i<=j->j<n->b j=yx->b i=yx)
  (hQ:∀m,m<=n->QhO->(∀i,m<=i->i<n->b i=yw)->Q QkO st)
include ask mono hQ
def Xpi{l r:Nat}(hl:l<=r)(hr:r<=n)(h1:∀i,i<l->b i=yx)(h2:∀i,r<=i->i<n->b i=yw):wpS Q5 A E s (Xn1 lf k xs q n l r) Q st:=by
 unfold Xn1;exact Vu (Vdm (Vbq (I:=λx c B=>B=st/\∃l r,c=QJR/\l<=r/\r<=n/\r+x<=n+l/\(∀i,i<l->b i=yx)/\∀i,r<=i->i<n->b i=yw)
  (Q:=λc B=>B=st/\∃m,c=(yy,m,m)/\m<=n/\QhO/\∀i,m<=i->i<n->b i=yw) ?step ?fin ⟨rfl,l,r,rfl,hl,hr,by omega,h1,h2⟩) ?post)
 case post=>rintro c B ⟨rfl,m,rfl,hm,a1,a2⟩;exact V4 (hQ m hm a1 a2)
 case fin=>
  rintro c B ⟨rfl,l,r,rfl,c1,c2,c3,c4,c5⟩;let:l=r:=by omega
  subst this;exact QuK
 case step=>
  rintro x c B _ hx ⟨rfl,l,r,rfl,c1,c2,c3,c4,c5⟩;dsimp;by_cases g:l ≥ r
  ·rw[iP0 g];let:l=r:=by omega
   subst this;exact V4 QuK
  rw[iN0 g];calc Vu QvS;cases e:b (l+(r-l)/2) with
  |true=>exact V4 ⟨rfl,_,r,rfl,by omega,c2,by omega,λi hi=>mono i _ Q0 Q0 e,c5⟩|false=>
   calc V4 ⟨rfl,l,_,rfl,by omega,by omega,by omega,c4,λi hi L=>?_⟩;cases e':b i with
   |false=>rfl|true=>rw[mono _ i hi L e']at e;cases e
def Xs3{h:Nat}(hh:h<n):wpS Q5 A E s (Xa6 lf k xs q n h) Q st:=by
 rw[X9o];calc Vu (ask h hh _ ?_);dsimp;cases e0:b h with
 |true=>
  rw[iP0 rfl];unfold gUp;exact Vu (Vdm (Vbq (I:=λx c B=>B=st/\∃u v,c=QIR/\u<v/\x<v/\h+u<n/\b Quf=yx)
   (Q:=λc B=>B=st/\∃u v,c=QIR/\u<v/\h+u<n/\b Quf=yx/\(n<=h+v\/h+v<n/\b (h+v)=yw)) ?step ?fin Qk9) ?post)
  case post=>
   rintro c B ⟨rfl,u,v,rfl,c1,c2,c3,L⟩;exact Xpi b ask mono hQ (l:=h+u+1) (r:=h+min v Qhf) Qg9 Qg9 (λi hi=>mono i Quf Q0 c2 c3) λi hi hn=>?_;rcases L with L|⟨L,c5⟩;·omega
   ·cases e':b i with
    |false=>rfl|true=>rw[mono _ i Q0 hn e']at c5;cases c5
  case fin=>rintro c B ⟨rfl,u,v,rfl,c1,c2,c3,L⟩;exact QZ6
  case step=>
   rintro x c B _ hx ⟨rfl,u,v,rfl,c1,c2,c3,L⟩;dsimp;by_cases g:v ≥ n-h;·rw[iP0 g];exact V4 QZ6
   ·rw[iN0 g];let g:h+v<n:=by omega
    calc Vu (ask _ g _ ?_);cases e:b (h+v) with
    |true=>calc V4 Qz8|false=>calc V4 Qj9
 |false=>
  rw[iN0 Q1]
  unfold gDn;exact Vu (Vdm (Vbq (I:=λx c B=>B=st/\∃u v,c=QIR/\u<v/\x<v/\u<=h/\b (h-u)=yw)
   (Q:=λc B=>B=st/\∃u v,c=QIR/\u<v/\u<=h/\b (h-u)=yw/\(h+1<=v\/v<=h/\b Qtf=yx)) ?step2 ?fin2 Qk9) ?post2)
  case post2=>
   rintro c B ⟨rfl,u,v,rfl,c1,c2,c3,L⟩;exact Xpi b ask mono hQ (l:=h+1-min v Qvf) (r:=h-u) Qg9 Qg9 QMX λi hi hn=>?_
   ·rcases L with L|⟨L,c5⟩;·rw[Nat.min_eq_right L,Nat.sub_self]at hi;exact aB0 hi QW7
    ·rw[Vc1 (Nat.le_succ_of_le L)]at hi;exact mono i Qtf (by clear mono hQ ask;omega) (Uu (Nat.sub_le _ _) hh) c5
   cases e':b i with
   |false=>rfl|true=>rw[mono _ i hi hn e']at c3;cases c3
  case fin2=>rintro c B ⟨rfl,u,v,rfl,c1,c2,c3,L⟩;exact QZ6
  case step2=>
   rintro x c B _ hx ⟨rfl,u,v,rfl,c1,c2,c3,L⟩;dsimp;by_cases g:v ≥ h+1;·rw[iP0 g];exact V4 ⟨rfl,u,v,rfl,c1,c3,L,.inl g⟩
   ·rw[iN0 g];calc Vu QvS;cases e:b Qtf with
    |false=>calc V4 Qz8|true=>calc V4 Qj9
universe e
section
variable{le:α->α->Prop}{W o c la lb:List α}
structure JnK(le:α->α->Prop)(W o la lb:List α):Prop where
 pm:(o++(la++lb)).Perm W
 so:o.Pairwise le
 sx:∀x∈o,∀y,y∈la\/y∈lb->le x y
 sa:la.Pairwise le
 sb:lb.Pairwise le
def JnK.ta(h:JnK le W o (c++la) lb)(L:∀x∈c,∀y∈lb,le x y):JnK le W QOh la lb:=by
 let⟨s1,s2,s3⟩:=Vas.mp h.sa;calc⟨?_,Vas.mpr ⟨h.so,s1,λx L y B=>h.sx x L y (.inl QDM)⟩,λx q y B=>?_,s2,h.sb⟩;·let:=h.pm;simpa only[Uj] using this
 ·rcases Um.mp q with q|q;·exact h.sx x q y (B.imp Qog id)
  ·rcases B with B|B;·exact s3 x q y B
   ·calc L x q y B
def JnK.tb(h:JnK le W o la (c++lb))(L:∀x∈c,∀y∈la,le x y):JnK le W QOh la lb:=by
 let⟨s1,s2,s3⟩:=Vas.mp h.sb;calc⟨?_,Vas.mpr ⟨h.so,s1,λx L y B=>h.sx x L y (.inr QDM)⟩,λx q y B=>?_,h.sa,s2⟩;·calc List.Perm.trans ?_ h.pm;rw[Uj];calc Vh7 o ?_;rw[<-Uj,<-Uj];exact List.perm_append_comm.append_right lb
 ·rcases Um.mp q with q|q;·exact h.sx x q y (B.imp id Qog)
  ·rcases B with B|B;·exact L x q y B
   ·calc s3 x q y B
theorem Srt(le:α->α->Prop)(W l:List α):Prop:=l.Perm W/\l.Pairwise le
def JnK.fin(h:JnK le W o la lb)(B:∀x∈la,∀y∈lb,le x y):Srt le W (o++la++lb):=by calc⟨by rw[Uj];calc h.pm,?_⟩;rw[Uj];calc Vas.mpr ⟨h.so,Vas.mpr ⟨h.sa,h.sb,B⟩,λx q y L=>h.sx x q y QUT⟩
def JnK.fin'(h:JnK le W o la lb)(B:∀x∈lb,∀y∈la,le x y):Srt le W (o++lb++la):=by calc⟨by rw[Uj];calc(List.perm_append_comm.append_left o).trans h.pm,?_⟩;rw[Uj];calc Vas.mpr ⟨h.so,Vas.mpr ⟨h.sb,h.sa,B⟩,λx q y L=>h.sx x q y QUT.symm⟩
universe e
abbrev Xf2:Array Vl->Array Vl->StateT V9 Sem QU4:=sortPriv% PySem.Builtin.mergeLo
abbrev Xhz:Nat->StateT V9 Sem Unit:=sortPriv% PySem.Builtin.setMinGallop
def X5n(g:Nat):Xhz g=modify λs=>Vii Qng Q8E QCE g Qmg:=rfl
private noncomputable abbrev Xu0:=Option QU4×Array Vl×Nat×Nat×Nat×Nat×Nat
private noncomputable abbrev LpM:=StateT V9 Sem (ForInStep Xu0)
section
variable(a b:Array Vl)
abbrev Xc0(o:Array Vl)(i j:Nat):Array Vl:=o++a.extract i a.size++b.extract j b.size
abbrev Xh0(o:Array Vl)(i j:Nat):Array Vl:=o++b.extract j b.size++a.extract i a.size
abbrev lo3(o:Array Vl)(i j g c d:Nat):LpM:=do
 let x <- Vd9 a i
 if i+1+1==a.size then pure (.done (yz (Xh0 a b Qx5 QX2 j),o.push x,i+1,j,g,c,d))
 else if c<7&&d<7 then pure (.done Q4K)
 else pure (.yield Q4K)
abbrev lo2(o:Array Vl)(i j g c d:Nat):LpM:=do
 let x <- Vd9 b j
 if j+1==b.size then pure QY7
 else
  let y <- Vd9 a i
  let r <- Xa6 yx y b QwC (b.size-QwC) 0
  match r with
  |some k=>
   if k>0 then
    if j+1+k==b.size then pure (.done (yz (Xc0 a b QuC i Q4Z),o.push x++b.extract QwC Q4Z,i,j+1+k,g,c,k))
    else lo3 a b QuC i Q4Z g c k
   else lo3 a b Qx5 i QwC g c k|_=>pure QY7
abbrev lo1(o:Array Vl)(i j g c d:Nat):LpM:=do
 Xhz g
 let x <- Vd9 b j
 let r <- Xa6 yw x a i (a.size-i) 0
 match r with
 |some k=>
  if k>0 then
   if i+k+1==a.size then pure (.done (yz (Xh0 a b QZ4 Q4Q j),o++a.extract i Q4Q,i+k,j,g,k,d))
   else if i+k==a.size then pure (.done (yz (Xc0 a b QZ4 Q4Q j),o++a.extract i Q4Q,i+k,j,g,k,d))
   else lo2 a b QZ4 Q4Q j g k d
  else lo2 a b o i j g k d|_=>pure (.done (yz Q4T,o,i,j,g,c,d))
abbrev X1a(t:Nat)(z:Xu0):StateT V9 Sem Xu0:=forIn [0:t] z λ_ z=>if z.2.2.2.2.1>1 then lo1 a b z.2.1 z.2.2.1 z.2.2.2.1 QES z.2.2.2.2.2.1 z.2.2.2.2.2.2 else lo1 a b z.2.1 z.2.2.1 z.2.2.2.1 z.2.2.2.2.1 z.2.2.2.2.2.1 z.2.2.2.2.2.2
private noncomputable abbrev X9p:=Option QU4×Array Vl×Nat×Nat×Nat×Nat
abbrev X1b(t g:Nat)(z:X9p):StateT V9 Sem X9p:=forIn [0:t] z λ_ z=>do
 let y <- Vd9 b z.2.2.2.1
 let x <- Vd9 a z.2.2.1
 let r <- lt' y x
 match r with
 |some q=>
  if q then do
   let y <- Vd9 b z.2.2.2.1
   if z.2.2.2.1+1==b.size then pure (.done (yz (Xc0 a b (z.2.1.push y) z.2.2.1 (z.2.2.2.1+1)),z.2.1.push y,z.2.2.1,z.2.2.2.1+1,0,z.2.2.2.2.2+1))
   else if z.2.2.2.2.2+1 ≥ g then pure (.done QC8)
   else pure (.yield QC8)
  else do
   let x <- Vd9 a z.2.2.1
   if z.2.2.1+1+1==a.size then pure (.done (yz (Xh0 a b (z.2.1.push x) (z.2.2.1+1) z.2.2.2.1),z.2.1.push x,z.2.2.1+1,z.2.2.2.1,z.2.2.2.2.1+1,0))
   else if z.2.2.2.2.1+1 ≥ g then pure (.done QD8)
   else pure (.yield QD8)|_=>pure (.done (yz (Xc0 a b z.2.1 z.2.2.1 z.2.2.2.1),z.2.1,z.2.2.1,z.2.2.2.1,z.2.2.2.2.1,z.2.2.2.2.2))
private noncomputable abbrev X9q:=Option QU4×Array Vl×Nat×Nat×Nat
abbrev Xu1(t:Nat)(z:X9q):StateT V9 Sem X9q:=forIn [0:t] z λ_ z=>do
 let y <- X1b a b t z.2.2.2.2 QVF
 match y.1 with
 |some r=>pure QC9|none=>do
  liftM QlI
  let x <- X1a a b t QX6
  match x.1 with
  |some r=>pure Qp8|none=>do
   Xhz QJS
   pure QZ8
universe e
def X9r(a b:Array Vl):Xf2 a b=(do
  liftM (rule "list.sort.merge-lo")
  let x <- Vd9 b 0
  if (1==b.size)=yx then pure (Xc0 a b #[x] 0 1)
  else if (0+1==a.size)=yx then pure (Xh0 a b #[x] 0 1)
  else do
   let g <- get
   let z <- Xu1 a b QyS (yy,#[x],0,1,gallopOf g)
   match z.1 with
   |some r=>pure r
   |none=>liftM Qi9):=by
 unfold Xu1;exact bind_congr λ_=>bind_congr λx=>?_;exact ite_congr rfl Q32 λ_=>ite_congr rfl Q32 λ_=>?_;exact bind_congr λg=>Xr ?_ λz=>?_
 ·calc congrArg QyN ?_;funext _ z;calc Xr rfl λy=>?_;let⟨L,y2⟩:=y;cases L with
  |some r=>rfl|none=>exact bind_congr λ_=>Xr rfl λx=>?_;let⟨B,x2⟩:=x;cases B<;>rfl
 ·let⟨z1,z2⟩:=z;cases z1<;>rfl
structure Ord(R:Vl->Vl->Bool):Prop where
 tr:∀ {x y z},R y x=yw->R z y=yw->R z x=yw
 as:∀ {x y},R x y=yx->R y x=yw
private abbrev LeK(R:Vl->Vl->Bool)(x y:Vl):Prop:=R y x=yw
theorem Xg0(prog:V3)(w:Ua)(A:Uz)(E:VP)(s:Vc)(κ:Vd4)(R:Vl->Vl->Bool)(mem:Vl->Prop):Prop:=
 ∀(x y:Vl) (st:V9) (Q:Option Bool->V9->Prop),mem x->mem y->Vaz st=κ->Q (yz (R x y)) st->wpS Q5 A E s (lt' x y) Q st
theorem Glp(st B:V9):Prop:=∃g,B=Vii (Vaz st) QG QjB g QMW
def Glp.refl{st:V9}:Glp st st:=⟨gallopOf st,rfl⟩
def Glp.kind{st B:V9}(h:Glp st B):Vaz B=Vaz st:=by let⟨g,rfl⟩:=h;rfl
def Glp.trans{st B st2:V9}(h:Glp st B)(h':Glp B st2):Glp st st2:=by let⟨g,rfl⟩:=h;let⟨L,rfl⟩:=h';calc⟨L,rfl⟩
abbrev kat(a:Array Vl)(i:Nat):Vl:=a.getD i QBa
def Xca{a:Array Vl}{i:Nat}(h:i<a.size):kat a i=a[i]:=by simp![kat,h]
def Xkd{a:Array Vl}{i:Nat}(h:i<a.size):a[i]?=yz QT5:=by rw[getElem?_pos a i h];simp![kat,h]
def Yc{a:Array Vl}{i:Nat}(h:i<a.size):kat a i∈a.toList:=by let:=Xkd h;rw[<-Ue]at this;calc V7 this
def Xnj{a:Array Vl}{i:Nat}(h:i<a.size):a.toList.drop i=kat a i::a.toList.drop QX2:=by rw[Vjs Q72,Xca h,Vf0]
def Xd3{a:Array Vl}{i:Nat}{y:Vl}(h:y∈a.toList.drop i):∃k,i<=k/\k<a.size/\y=kat a k:=by
 let⟨k,L⟩:=Ved.mp h;rw[Vi9]at L;let hl:=QBM.1;let B:i+k<a.size:=by simpa using hl
 calc⟨i+k,by omega,B,?_⟩;let:=Xkd B;rw[<-Ue,L]at this;cases this;rfl
def Xdr{a:Array Vl}{i n:Nat}{y:Vl}(h:y∈Qv3.take n):∃k,i<=k/\k<i+n/\k<a.size/\y=kat a k:=by
 let⟨k,B⟩:=Ved.mp h;rw[List.getElem?_take]at B;split at B
 ·rename_i q;let⟨m,_,_⟩:=Xd3 Q2d;rw[Vi9]at B;let hl:=QET.1;let L:i+k<a.size:=by simpa using hl
  calc⟨i+k,by omega,by omega,L,?_⟩;let:=Xkd L;rw[<-Ue,B]at this;cases this;rfl
 cases B
def Xf3{R:Vl->Vl->Bool}{a:Array Vl}(h:a.toList.Pairwise QC2){i j:Nat}(B:i<j)(L:j<a.size):LeK R QT5 QFc:=by let:=Vge.mp h i j QZ3 Q6F B;rw[Vf0,Vf0]at this;rw[Xca Q0,Xca L];calc this
section
variable{prog:V3}{w:Ua}{A:Uz}{E:VP}{s:Vc}{κ:Vd4}{R:Vl->Vl->Bool}{mem:Vl->Prop}
def Yj{a:Array Vl}{i:Nat}{st:V9}{Q:Vl->V9->Prop}(h:i<a.size)(B:Q QT5 st):wpS Q5 A E s (Vd9 a i) Q st:=by rw[elem'_eq,Xkd h];calc V4 B
def Xh1{g:Nat}{st:V9}{Q:Unit->V9->Prop}(L:∀B,Glp st B->Q () B):wpS Q5 A E s (Xhz g) Q st:=by rw[X5n];calc Vg3 (L _ ⟨g,rfl⟩)
variable(hO:Ord R)(hA:Xg0 prog w A E s κ R mem)
include hO hA
def Xu2{B:Vl}{xs:Array Vl}{q n h:Nat}{st:V9}{Q:Option Nat->V9->Prop}(hk:Vaz st=κ)(mk:mem B)(hq:q+n<=xs.size)(mx:∀x∈xs.toList,mem x)
  (so:∀i j,q<=i->i<j->j<q+n->LeK R Qea Qda) (hh:h<n)
  (hQ:∀m,m<=n->(∀i,i<m->LeK R QW2 B)->(∀i,m<=i->i<n->R B QW2=yx)->Q QkO st):wpS Q5 A E s (Xa6 yw B xs q n h) Q st:=by
 calc Xs3 (λi=>!R B QW2) QsP QcN (λm hm a1 a2=>hQ m hm QMX λi hi hn=>?_) hh;·unfold byd;calc Vu QM2;show wpS _ _ _ _ (do let __x <- lt' B QW2;pure (__x.map (!·))) _ _;exact Vu (hA _ _ _ _ mk Qaa hk (V4 L))
 ·let e':R B Q9U=false:=by simpa using e
  show(!R B QW2)=yx;by_cases c:i=j;·subst c;exact e
  ·let:=so Qdf (q+j) Q0 Q0 Q0;rw[hO.tr this e'];rfl
 ·let:=a1 i hi;simpa using this
 ·let:=a2 i hi hn;simpa using this
def Xu3{B:Vl}{xs:Array Vl}{q n h:Nat}{st:V9}{Q:Option Nat->V9->Prop}(hk:Vaz st=κ)(mk:mem B)(hq:q+n<=xs.size)(mx:∀x∈xs.toList,mem x)
  (so:∀i j,q<=i->i<j->j<q+n->LeK R Qea Qda) (hh:h<n)
  (hQ:∀m,m<=n->(∀i,i<m->R QW2 B=yx)->(∀i,m<=i->i<n->LeK R B QW2)->Q QkO st):wpS Q5 A E s (Xa6 yx B xs q n h) Q st:=by
 calc Xs3 (λi=>R QW2 B) QsP QcN (λm hm a1 a2=>hQ m hm a1 a2) hh;·unfold byd;calc Vu QM2;show wpS _ _ _ _ (lt' QW2 B) _ _;exact hA _ _ _ _ Qaa mk hk L
 ·show R QW2 B=yx;by_cases c:i=j;·subst c;exact e
  ·let:=so Qdf (q+j) Q0 Q0 Q0;cases e2:R QW2 B with
   |true=>rfl|false=>let e3:R Q9U B=true:=e;rw[hO.tr e2 this]at e3;cases e3
universe e
section
variable{R:Vl->Vl->Bool}{W:List Vl}{a b o:Array Vl}{i j k:Nat}
private abbrev Jo(R:Vl->Vl->Bool)(W:List Vl)(a b o:Array Vl)(i j:Nat):Prop:=JnK QC2 W o.toList Qv3 Qp6
def Xh2(a:Array Vl)(i:Nat):(a.extract i a.size).toList=a.toList.drop i:=by rw[Vcr,Vcl];calc Va9 QA
def Xh3(a:Array Vl)(i k:Nat):(a.extract i Q4Q).toList=Qv3.take k:=by rw[Vcr,Vcl,show i+k-i=k by omega]
def Jo.fin(h:Jo R W a b o i j)(q:a.size<=i\/b.size<=j):Srt QC2 W Q4T.toList:=by
 let:=JnK.fin h (λx B y L=>by
  rcases q with q|q;·rw[List.drop_of_length_le QM]at B;cases B
  ·rw[List.drop_of_length_le QM]at L;cases L)
 unfold Xc0;rw[Vav,Vav,Xh2,Xh2];calc this
def Jo.lst(h:Jo R W a b o i j)(hl:∀x∈b.toList,∀y∈a.toList.drop Q58,LeK R x y)(q:i+1=a.size):Srt QC2 W (Xh0 a b o i j).toList:=by let:=JnK.fin' h (λx B y L=>hl x Qkg y (by rw[<-q];calc L));unfold Xh0;rw[Vav,Vav,Xh2,Xh2];calc this
def Jo.ca(h:Jo R W a b o i j)(B:∀x∈Qv3.take k,∀y∈b.toList.drop j,LeK R x y):Jo R W a b QZ4 Q4Q j:=by
 let h':JnK QC2 W o.toList (Qv3.take k++a.toList.drop Q4Q) Qp6:=by rw[<-Vdd,Ut];exact h
 let:=h'.ta B;show JnK _ _ QZ4.toList _ _;rw[Vav,Xh3];calc this
def Jo.cb(h:Jo R W a b o i j)(B:∀x∈Qp6.take k,∀y∈a.toList.drop i,LeK R x y):Jo R W a b Q2L i (j+k):=by
 let h':JnK QC2 W o.toList Qv3 (Qp6.take k++b.toList.drop (j+k)):=by rw[<-Vdd,Ut];exact h
 let:=h'.tb B;show JnK _ _ Q2L.toList _ _;rw[Vav,Xh3];calc this
def Jo.pa(h:Jo R W a b o i j)(hi:i<a.size)(B:∀y∈b.toList.drop j,LeK R QT5 y):Jo R W a b QfL QX2 j:=by
 let h':JnK QC2 W o.toList ([kat a i]++a.toList.drop QX2) Qp6:=by rw[Vh8,<-Xnj hi];exact h
 let:=h'.ta QYC;show JnK _ _ QTJ.toList _ _;rw[Vcx];calc this
def Jo.pb(h:Jo R W a b o i j)(hj:j<b.size)(B:∀y∈a.toList.drop i,LeK R QsD y):Jo R W a b QVX i QwC:=by
 let h':JnK QC2 W o.toList Qv3 ([kat b j]++b.toList.drop QwC):=by rw[Vh8,<-Xnj hj];exact h
 let:=h'.tb QYC;show JnK _ _ QTJ.toList _ _;rw[Vcx];calc this
theorem JJ(R:Vl->Vl->Bool)(W:List Vl)(a b:Array Vl)(N:Nat)(o:Array Vl)(i j:Nat):Prop:=Jo R W a b o i j/\i+1<a.size/\j<b.size/\N<=i+j
theorem Out(R:Vl->Vl->Bool)(W:List Vl)(a b:Array Vl)(N:Nat)(z:Option QU4)(o:Array Vl)(i j:Nat):Prop:=QfD\/(z=yy/\JJ R W a b N o i j)
theorem LpQ(R:Vl->Vl->Bool)(W:List Vl)(a b:Array Vl)(N:Nat)(st:V9)(r:ForInStep Xu0)(B:V9):Prop:=Glp st B/\match r with
 |.done z=>Out R W a b N z.1 z.2.1 z.2.2.1 z.2.2.2.1|.yield z=>z.1=yy/\JJ R W a b N z.2.1 z.2.2.1 z.2.2.2.1
def Xg1(hO:Ord R)(sa:a.toList.Pairwise QC2){x:Vl}(B:LeK R x QT5):∀y∈a.toList.drop i,LeK R x y:=λy L=>by
 let⟨m,h1,h2,rfl⟩:=Xd3 L;by_cases c:i=m;·subst c;exact B
 ·calc hO.tr B (Xf3 sa Q0 h2)
universe e
section
variable{prog:V3}{w:Ua}{A:Uz}{E:VP}{s:Vc}{κ:Vd4}{R:Vl->Vl->Bool}{mem:Vl->Prop}{W:List Vl}{a b o:Array Vl}{i j N g c d:Nat}{st st0:V9}
variable(hO:Ord R)(hA:Xg0 prog w A E s κ R mem)(ma:∀x∈a.toList,mem x)(mb:∀x∈b.toList,mem x)(sa:a.toList.Pairwise QC2)(sb:b.toList.Pairwise QC2)(hl:∀x∈b.toList,∀y∈a.toList.drop Q58,LeK R x y)
include hl
def Xxs(hg:Glp st0 st)(h:Jo R W a b o i j)(hi:i+1<a.size)(hj:j<b.size)(hN:N<=i+j)(L:∀y∈b.toList.drop j,LeK R QT5 y):wpS Q5 A E s (lo3 a b o i j g c d) Q5D st:=by
 unfold lo3;calc Vu QM2;let h':=h.pa Q0 L;by_cases q:i+1+1=a.size;·rw[iP0 QM];exact V4 Qt2
 ·rw[iN0 QM];let B:JJ R W a b N QfL QX2 j:=⟨h',by omega,hj,by omega⟩;split;·exact V4 QzR
  ·calc V4 QDX
include hO hA ma mb sa sb
def Xxt(hg:Glp st0 st)(hk:Vaz st0=κ)(h:Jo R W a b o i j)(hi:i+1<a.size)(hj:j<b.size)(hN:N<=i+j)(B:∀y∈a.toList.drop i,LeK R QsD y):wpS Q5 A E s (lo2 a b o i j g c d) Q5D st:=by
 unfold lo2;calc Vu (Yj hj ?_);let h':=h.pb hj B;by_cases q:j+1=b.size;·rw[iP0 QM];exact V4 QGB
 ·rw[iN0 QM];calc Vu QM2;calc Vu Qo2;dsimp;let rest:∀y∈b.toList.drop (j+1+m),LeK R QT5 y:=λy L=>by
   let⟨k,k1,k2,rfl⟩:=Xd3 L;let:=a2 QjS Q0 Q0;rw[show j+1+QjS=k by omega]at this;exact this
  by_cases z:m>0
  ·rw[iP0 z]
   let h2:=Jo.cb (k:=m) h' (λx B y L=>by
    let⟨k,k1,k2,k3,rfl⟩:=Xdr B;let:=a1 QjS Q0;rw[show j+1+QjS=k by omega]at this
    calc Xg1 hO sa (hO.as this) y L)
   by_cases q2:j+1+m=b.size;·rw[iP0 Q91];exact V4 ⟨hg,.inl ⟨_,rfl,h2.fin QXd⟩⟩
   ·rw[iN0 Q91];exact Xxs hl hg h2 hi Q0 Q0 rest
  rw[iN0 z];let:m=0:=by omega
  subst this;calc Xxs hl hg h' hi Q0 Q0 rest
def Xxu(hg:Glp st0 st)(hk:Vaz st0=κ)(h:JJ R W a b N o i j):wpS Q5 A E s (lo1 a b o i j g c d) Q5D st:=by
 let⟨h,hi,B,hN⟩:=h;unfold lo1;calc Vu (Xh1 λaa L=>?_);let hg:=hg.trans L;calc Vu Qcc;calc Vu (Xu2 hO hA QaA QcV Q0 ma Q2G Q0 λm hm a1 a2=>?_);dsimp;let rest:i+m<a.size->∀y∈a.toList.drop (i+m),LeK R QsD y:=λab=>Xg1 hO sa (hO.as (a2 m Qd Q0));by_cases z:m>0
 ·rw[iP0 z]
  let h2:=Jo.ca (k:=m) h (λx hx y hy=>by
   let⟨k,k1,k2,k3,rfl⟩:=Xdr hx;let:=a1 (k-i) Q0;rw[show i+(k-i)=k by omega]at this;let⟨n,n1,n2,rfl⟩:=Xd3 hy;by_cases e:j=n;·subst e;exact this
   ·calc hO.tr this (Xf3 sb Q0 n2))
  by_cases q:i+m+1=a.size;·rw[iP0 QM];exact V4 ⟨hg,.inl ⟨_,rfl,h2.lst hl q⟩⟩
  ·rw[iN0 QM];by_cases q2:i+m=a.size;·rw[iP0 Q91];exact V4 ⟨hg,.inl ⟨_,rfl,h2.fin (.inl Q0)⟩⟩
   ·rw[iN0 Q91];exact Xxt hO hA ma mb sa sb hl hg hk h2 Q0 B Q0 Q0c
 rw[iN0 z];let:m=0:=by omega
 subst this;calc Xxt hO hA ma mb sa sb hl hg hk h hi B hN Q0c
def X5o{t:Nat}(hg:Glp st0 st)(B:Vaz st0=κ)(h:JJ R W a b N o i j):wpS Q5 A E s (X1a a b t (yy,o,i,j,g,c,d)) (λz st'=>Glp st0 st'/\Out R W a b N z.1 z.2.1 z.2.2.1 z.2.2.2.1) st:=by
 unfold X1a;calc Vbq (I:=λ_ z st'=>Glp st0 st'/\z.1=yy/\JJ R W a b N z.2.1 z.2.2.1 z.2.2.2.1) ?_ QJB Q9D;rintro _ z st' _ _ ⟨h1,h2,h3⟩;split;·exact Vdm QND λr st2 q=>?_;cases r<;>exact q
 ·calc Vdm QND λr st2 q=>?_;cases r<;>calc q
def X5p{t:Nat}(hg:Glp st0 st)(hk:Vaz st0=κ)(ht:0<t)(h:JJ R W a b N o i j):wpS Q5 A E s (X1b a b t g (yy,o,i,j,0,0)) (λz st'=>Glp st0 st'/\Out R W a b (N+1) z.1 z.2.1 z.2.2.1 z.2.2.2.1) st:=by
 unfold X1b;calc Vbq (I:=λx z st'=>Glp st0 st'/\z.1=yy/\JJ R W a b QyZ z.2.1 z.2.2.1 z.2.2.2.1) ?_ Qx2 ⟨hg,rfl,(by simpa using h:JJ R W a b QzZ o i j)⟩;rintro x ⟨z0,o,i,j,c,d⟩ st' _ _ ⟨hg,h2,h3⟩;let⟨h,hi,B,hN⟩:=h3;dsimp at h hi B hN |-;calc Vu (Yj B (Vu QM2));calc Vu (hA _ _ _ _ QcV QUJ QaA ?_);cases e:R QsD QT5 with
 |true=>
  dsimp;rw[iP0 rfl];calc Vu Qcc;let h':=h.pb B (Xg1 hO sa QmS);by_cases q:j+1=b.size;·rw[iP0 QM];exact V4 QGB
  ·rw[iN0 QM];let L:∀m,m<=N+1->JJ R W a b m QVX i QwC:=λm hm=>⟨h',hi,by omega,by omega⟩;split;·exact V4 QaG
   ·exact V4 QhP|false=>
  dsimp;rw[iN0 Q1];calc Vu QM2;let h':=h.pa Q0 (Xg1 (a:=b) hO sb e);by_cases q:i+1+1=a.size;·rw[iP0 QM];exact V4 Qt2
  ·rw[iN0 QM];let L:∀m,m<=N+1->JJ R W a b m QfL QX2 j:=λm hm=>⟨h',by omega,B,by omega⟩;split;·exact V4 QaG
   ·calc V4 QhP
def X5q{t:Nat}(hg:Glp st0 st)(hk:Vaz st0=κ)(ht:a.size+b.size<=t)(h:JJ R W a b 0 o i j):wpS Q5 A E s (Xu1 a b t (yy,o,i,j,g)) QA7 st:=by
 unfold Xu1;calc Vbq (I:=λx z st'=>Glp st0 st'/\z.1=yy/\JJ R W a b x z.2.1 z.2.2.1 z.2.2.2.1) ?_ (λz st' Qd4=>by let:=h3.2.1;let:=h3.2.2.1;let:=h3.2.2.2;omega) Q9D;rintro x ⟨z0,o,i,j,g⟩ st' _ _ ⟨hg,h2,h3⟩;let hp:0<t:=by let:=h3.2.1;omega
 calc Vu (Vdm (X5p hO hA ma mb sa sb hl hg hk hp h3) λy st2 q=>?_);let⟨B,q⟩:=q;let⟨y0,y1,y2,y3,y4,y5⟩:=y;rcases q with⟨r,e,hr⟩|⟨e,h4⟩;·subst e;exact V4 QxT
 ·subst e;calc Vu Ql1;calc Vu (Vdm (X5o hO hA ma mb sa sb hl B hk h4) λz ac q=>?_);let⟨L,q⟩:=q;let⟨z0,z1,z2,z3,z4,z5,z6⟩:=z;rcases q with⟨r,e,hr⟩|⟨e,h5⟩;·subst e;exact V4 QwT
  ·subst e;calc Vu QAB
def X9s{Q:Array Vl->V9->Prop}(hk:Vaz st=κ)(ha:0<a.size)(hb:0<b.size)(h0:LeK R QlL (kat a 0))(hW:W=a.toList++b.toList)
  (hQ:∀r B,Glp st B->Srt QC2 W r.toList->Q r B):wpS Q5 A E s (Xf2 a b) Q st:=by
 rw[X9r];calc Vu Ql1;calc Vu (Yj hb ?_);let j0:Jo R W a b #[] 0 0:=⟨by rw[hW];calc .refl _,.nil,λx q=>Qma,sa,sb⟩;let L:Jo R W a b #[kat b 0] 0 1:=j0.pb hb (Xg1 hO sa h0);by_cases q:1=b.size;·rw[iP0 QM];exact V4 (hQ _ _ .refl (L.fin QXd))
 ·rw[iN0 QM];by_cases q2:0+1=a.size;·rw[iP0 Q91];exact V4 QjG
  ·rw[iN0 Q91];calc Vu Qv5;calc Vu (Vdm (X5q hO hA ma mb sa sb hl .refl hk Qd ⟨L,by omega,by omega,by omega⟩) λz B q=>?_);let⟨hg,r,e,hr⟩:=q;let⟨z0,z1⟩:=z;subst e;calc V4 QBU
universe e
abbrev Xf4:Array Vl->Array Vl->StateT V9 Sem QU4:=sortPriv% PySem.Builtin.mergeHi
section
variable(a b:Array Vl)
abbrev Xc1(o:Array Vl)(i j:Nat):Array Vl:=a.extract 0 i++b.extract 0 j++o.reverse
abbrev Xh4(o:Array Vl)(i j:Nat):Array Vl:=b.extract 0 j++a.extract 0 i++o.reverse
private noncomputable abbrev Xu4:=Option QU4×Nat×Nat×Array Vl×Nat×Nat×Nat
private noncomputable abbrev HpM:=StateT V9 Sem (ForInStep Xu4)
private noncomputable abbrev X1c:=Option QU4×Nat×Nat×Array Vl×Nat×Nat
private noncomputable abbrev X9t:=Option QU4×Nat×Nat×Array Vl×Nat
abbrev hi3(o:Array Vl)(i j g c d:Nat):HpM:=do
 let x <- Vd9 a QLH
 if i-1==0 then pure (.done (yz QGO,i-1,j,o.push x,g,c,d))
 else if c<7&&d<7 then pure (.done Q5K)
 else pure (.yield Q5K)
abbrev hi2(o:Array Vl)(i j g c d:Nat):HpM:=do
 let x <- Vd9 b QtD
 if j-1==1 then pure (.done (yz QDO,i,j-1,o.push x,g,c,d))
 else
  let y <- Vd9 a QLH
  let r <- Xa6 yx y b 0 QtD (j-1-1)
  match r with
  |some k=>
   if j-1-k>0 then
    if k==1 then pure (.done (yz (Xh4 a b Qu4 i k),i,k,o.push x++QIQ.reverse,g,c,j-1-k))
    else if k==0 then pure (.done (yz (Xc1 a b Qu4 i k),i,k,o.push x++QIQ.reverse,g,c,j-1-k))
    else hi3 a b Qu4 i k g c Qof
   else hi3 a b Qx5 i QtD g c Qof|_=>pure (.done (yz (Xc1 a b Qx5 i QtD),i,j-1,o.push x,g,c,d))
abbrev hi1(o:Array Vl)(i j g c d:Nat):HpM:=do
 Xhz g
 let x <- Vd9 b QtD
 let r <- Xa6 yw x a 0 i QLH
 match r with
 |some k=>
  if i-k>0 then
   if k==0 then pure (.done (yz (Xc1 a b Qs7 k j),k,j,o++(a.extract k i).reverse,g,i-k,d))
   else hi2 a b Qs7 k j g (i-k) d
  else hi2 a b o i j g (i-k) d|_=>pure (.done (yz QMQ,i,j,o,g,c,d))
abbrev X1d(t:Nat)(z:Xu4):StateT V9 Sem Xu4:=forIn [0:t] z λ_ z=>if z.2.2.2.2.1>1 then hi1 a b z.2.2.2.1 z.2.1 z.2.2.1 QES z.2.2.2.2.2.1 z.2.2.2.2.2.2 else hi1 a b z.2.2.2.1 z.2.1 z.2.2.1 z.2.2.2.2.1 z.2.2.2.2.2.1 z.2.2.2.2.2.2
abbrev X9u(g:Nat)(o:Array Vl)(i j c d:Nat):StateT V9 Sem (ForInStep X1c):=do
 let y <- Vd9 b QtD
 let x <- Vd9 a QLH
 let r <- lt' y x
 match r with
 |some q=>
  if q then do
   let x <- Vd9 a QLH
   if i-1==0 then pure (.done (yz QGO,i-1,j,o.push x,c+1,0))
   else if c+1 ≥ g then pure (.done Q6K)
   else pure (.yield Q6K)
  else do
   let x <- Vd9 b QtD
   if j-1==1 then pure (.done (yz QDO,i,j-1,o.push x,0,d+1))
   else if d+1 ≥ g then pure (.done Q7K)
   else pure (.yield Q7K)|_=>pure (.done (yz QMQ,i,j,o,c,d))
abbrev X1e(t g:Nat)(z:X1c):StateT V9 Sem X1c:=forIn [0:t] z λ_ z=>X9u a b g z.2.2.2.1 z.2.1 z.2.2.1 z.2.2.2.2.1 z.2.2.2.2.2
abbrev Xu5(t:Nat)(z:X9t):StateT V9 Sem X9t:=forIn [0:t] z λ_ z=>do
 let y <- X1e a b t z.2.2.2.2 QVF
 match y.1 with
 |some r=>pure QC9|none=>do
  liftM QlI
  let x <- X1d a b t QX6
  match x.1 with
  |some r=>pure Qp8|none=>do
   Xhz QJS
   pure QZ8
universe e
def X9v(a b:Array Vl):Xf4 a b=(do
  liftM (rule "list.sort.merge-hi")
  let x <- Vd9 a Q58
  if (a.size-1==0)=yx then pure (Xc1 a b #[x] Q58 b.size)
  else if (b.size==1)=yx then pure (Xh4 a b #[x] Q58 b.size)
  else do
   let g <- get
   let z <- Xu5 a b QyS (yy,a.size-1,b.size,#[x],gallopOf g)
   match z.1 with
   |some r=>pure r
   |none=>liftM Qi9):=by
 unfold Xu5;exact bind_congr λ_=>bind_congr λx=>?_;exact ite_congr rfl Q32 λ_=>ite_congr rfl Q32 λ_=>?_;exact bind_congr λg=>Xr ?_ λz=>?_
 ·calc congrArg QyN ?_;funext _ z;calc Xr rfl λy=>?_;let⟨L,y2⟩:=y;cases L with
  |some r=>rfl|none=>exact bind_congr λ_=>Xr rfl λx=>?_;let⟨B,x2⟩:=x;cases B<;>rfl
 ·let⟨z1,z2⟩:=z;cases z1<;>rfl
section
variable{R:Vl->Vl->Bool}{W:List Vl}{a b o:Array Vl}{i j k:Nat}
def Srt.rev{α:Type}{le:α->α->Prop}{W l:List α}(h:Srt (λx y=>le y x) W l):Srt le W l.reverse:=⟨(Vjk l).trans h.1,Vh9.mpr h.2⟩
private abbrev Jh(R:Vl->Vl->Bool)(W:List Vl)(a b o:Array Vl)(i j:Nat):Prop:=JnK (λx y=>LeK R y x) W o.toList Qy9.reverse (b.toList.take j).reverse
def Xn2(a:Array Vl)(i:Nat):(a.extract 0 i).toList=a.toList.take i:=by rw[Vcr,Vcl];simp!
def Xf5{y:Vl}(h:y∈a.toList.take i):∃k,k<i/\k<a.size/\y=kat a k:=by let h':y∈(a.toList.drop 0).take i:=h;let⟨k,_,h2,B,e⟩:=Xdr h';calc⟨k,by omega,B,e⟩
def Xpj(B:0<i)(h:i<=a.size):Qy9.reverse=[kat a QLH]++(a.toList.take QLH).reverse:=by obtain⟨m,rfl⟩:∃m,i=m+1:=⟨i-1,by omega⟩;rw[Nat.add_sub_cancel,Vc8 QuS,Vga,Xca Q0,Vf0];rfl
def Xs4(B:k<=i):Qy9.reverse=(a.extract k i).reverse.toList++(a.toList.take k).reverse:=by rw[Ver,Vcr,Vcl,<-Vga];congr 1;rw[<-Ut k Qy9,Vi2,Vc1 B,Vi3]
def Jh.fin(h:Jh R W a b o i j)(q:i=0\/j=0):Srt QC2 W (Xc1 a b o i j).toList:=by
 let:=(JnK.fin' h (λx B y L=>by
  rcases q with q|q;·subst q;simp! at L
  ·subst q;simp! at B)).rev
 unfold Xc1;rw[Vav,Vav,Xn2,Xn2,Ver];simpa [Vga] using this
def Jh.lst(h:Jh R W a b o i j)(hl:∀x∈a.toList,LeK R QlL x)(q:j=1):Srt QC2 W (Xh4 a b o i j).toList:=by
 let:=(JnK.fin h (λx B y L=>by
  subst q;let⟨m,h1,h2,rfl⟩:=Xf5 (Vcp.mp L);obtain rfl:m=0:=by omega
  calc hl x (Vdn Q4b))).rev
 unfold Xh4;rw[Vav,Vav,Xn2,Xn2,Ver];simpa [Vga] using this
def Jh.pa(h:Jh R W a b o i j)(h0:0<i)(hi:i<=a.size)(B:∀y∈b.toList.take j,LeK R y QC5):Jh R W a b QgL QLH j:=by let h':=h;unfold Jh at h';rw[Xpj h0 hi]at h';let:=h'.ta Qn9;show JnK _ _ QTJ.toList _ _;rw[Vcx];calc this
def Jh.pb(h:Jh R W a b o i j)(h0:0<j)(hj:j<=b.size)(B:∀y∈a.toList.take i,LeK R y Qt7):Jh R W a b QUX i QtD:=by let h':=h;unfold Jh at h';rw[Xpj (a:=b) h0 hj]at h';let:=h'.tb Qn9;show JnK _ _ QTJ.toList _ _;rw[Vcx];calc this
def Jh.ca(h:Jh R W a b o i j)(hk:k<=i)(B:∀x,(∃m,k<=m/\m<i/\x=kat a m)->∀y∈b.toList.take j,LeK R y x):Jh R W a b Qs7 k j:=by let h':=h;unfold Jh at h';rw[Xs4 hk]at h';let:=h'.ta Qg2;show JnK _ _ QPh.toList _ _;rw[Vav];calc this
def Jh.cb(h:Jh R W a b o i j)(hk:k<=j)(B:∀x,(∃m,k<=m/\m<j/\x=kat b m)->∀y∈a.toList.take i,LeK R y x):Jh R W a b (o++(b.extract k j).reverse) i k:=by let h':=h;unfold Jh at h';rw[Xs4 (a:=b) hk]at h';let:=h'.tb Qg2;show JnK _ _ QPh.toList _ _;rw[Vav];calc this
theorem JK(R:Vl->Vl->Bool)(W:List Vl)(a b:Array Vl)(N:Nat)(o:Array Vl)(i j:Nat):Prop:=Jh R W a b o i j/\0<i/\i<=a.size/\1<j/\j<=b.size/\i+j+N<=a.size+b.size
theorem X1f(R:Vl->Vl->Bool)(W:List Vl)(a b:Array Vl)(N:Nat)(z:Option QU4)(o:Array Vl)(i j:Nat):Prop:=QfD\/(z=yy/\JK R W a b N o i j)
theorem HpQ(R:Vl->Vl->Bool)(W:List Vl)(a b:Array Vl)(N:Nat)(st:V9)(r:ForInStep Xu4)(B:V9):Prop:=Glp st B/\match r with
 |.done z=>X1f R W a b N z.1 z.2.2.2.1 z.2.1 z.2.2.1|.yield z=>z.1=yy/\JK R W a b N z.2.2.2.1 z.2.1 z.2.2.1
def Xke(hO:Ord R)(sa:a.toList.Pairwise QC2)(h0:0<i)(hi:i<=a.size){x:Vl}(B:LeK R QC5 x):∀y∈a.toList.take i,LeK R y x:=λy L=>by
 let⟨m,h1,h2,rfl⟩:=Xf5 L;by_cases c:m=i-1;·subst c;exact B
 ·calc hO.tr (Xf3 sa Q0 Q0) B
universe e
section
variable{prog:V3}{w:Ua}{A:Uz}{E:VP}{s:Vc}{κ:Vd4}{R:Vl->Vl->Bool}{mem:Vl->Prop}{W:List Vl}{a b o:Array Vl}{i j N g c d:Nat}{st st0:V9}
variable(hO:Ord R)(hA:Xg0 prog w A E s κ R mem)(ma:∀x∈a.toList,mem x)(mb:∀x∈b.toList,mem x)(sa:a.toList.Pairwise QC2)(sb:b.toList.Pairwise QC2)(hl:∀x∈a.toList,LeK R QlL x)
def Xxv(hg:Glp st0 st)(h:Jh R W a b o i j)(L:0<i)(hi:i<=a.size)(j1:1<j)(hj:j<=b.size)(hN:i+j+N<=a.size+b.size)(hx:∀y∈b.toList.take j,LeK R y QC5):wpS Q5 A E s (hi3 a b o i j g c d) Q6D st:=by
 unfold hi3;calc Vu QM2;let h':=h.pa L hi hx;by_cases q:i-1=0;·rw[iP0 QM];exact V4 QOB
 ·rw[iN0 QM];let B:JK R W a b N QgL QLH j:=QPB;split;·exact V4 QzR
  ·calc V4 QDX
include hl hO hA ma mb sa sb
def Xxw(hg:Glp st0 st)(hk:Vaz st0=κ)(h:Jh R W a b o i j)(B:0<i)(hi:i<=a.size)(j1:1<j)(hj:j<=b.size)(hN:i+j+N<=a.size+b.size)(L:∀y∈a.toList.take i,LeK R y Qt7):wpS Q5 A E s (hi2 a b o i j g c d) Q6D st:=by
 unfold hi2;calc Vu QM2;let h':=h.pb Q0 hj L;by_cases q:j-1=1;·rw[iP0 QM];exact V4 Qt2
 ·rw[iN0 QM];calc Vu QM2;calc Vu Qo2;simp[Vgn]at a1 a2;dsimp;let rest:∀y∈b.toList.take m,LeK R y QC5:=λy hy=>by
   let⟨k,k1,k2,rfl⟩:=Xf5 hy;exact hO.as (a1 k k1)
  by_cases z:j-1-m>0
  ·rw[iP0 z];let h2:=Jh.cb (k:=m) h' Q0 (λx L y hy=>by let⟨k,k1,k2,rfl⟩:=L;calc Xke hO sa B hi QpX y hy);by_cases q2:m=1;·rw[iP0 Q91];exact V4 ⟨hg,.inl ⟨_,rfl,h2.lst hl q2⟩⟩
   ·rw[iN0 Q91];by_cases q3:m=0;·rw[iP0 Q9Q];exact V4 ⟨hg,.inl ⟨_,rfl,h2.fin (.inr q3)⟩⟩
    ·rw[iN0 Q9Q];exact Xxv hg h2 B hi Q0 Q0 Q0 rest
  rw[iN0 z];obtain rfl:m=j-1:=by omega
  calc Xxv hg h' B hi Q0 Q0 Q0 rest
def Xxx(hg:Glp st0 st)(B:Vaz st0=κ)(h:JK R W a b N o i j):wpS Q5 A E s (hi1 a b o i j g c d) Q6D st:=by
 let⟨h,h0,hi,j1,L,hN⟩:=h;unfold hi1;calc Vu (Xh1 λab aa=>?_);let hg:=hg.trans aa;calc Vu QM2;calc Vu (Xu2 hO hA (by rw[hg.kind];calc B) Qba Q0 ma Q2G Q0 λm hm a1 a2=>?_);simp[Vgn]at a1 a2;dsimp;let rest:∀y∈a.toList.take m,LeK R y Qt7:=λy hy=>by let⟨k,k1,k2,rfl⟩:=Xf5 hy;exact a1 k k1
 by_cases z:i-m>0
 ·rw[iP0 z];let h2:=Jh.ca (k:=m) h Q0 (λx hx y hy=>by let⟨k,k1,k2,rfl⟩:=hx;calc Xke (a:=b) hO sb Q0 L (hO.as QpX) y hy);by_cases q:m=0;·rw[iP0 QM];exact V4 ⟨hg,.inl ⟨_,rfl,h2.fin QqW⟩⟩
  ·rw[iN0 QM];exact Xxw hO hA ma mb sa sb hl hg B h2 Q0 Q0 j1 L Q0 rest
 rw[iN0 z];obtain rfl:m=i:=by omega
 calc Xxw hO hA ma mb sa sb hl hg B h h0 hi j1 L hN rest
def X5r{t:Nat}(hg:Glp st0 st)(B:Vaz st0=κ)(h:JK R W a b N o i j):wpS Q5 A E s (X1d a b t (yy,i,j,o,g,c,d)) (λz st'=>Glp st0 st'/\X1f R W a b N z.1 z.2.2.2.1 z.2.1 z.2.2.1) st:=by
 unfold X1d;calc Vbq (I:=λ_ z st'=>Glp st0 st'/\z.1=yy/\JK R W a b N z.2.2.2.1 z.2.1 z.2.2.1) ?_ QJB Q9D;rintro _ z st' _ _ ⟨h1,h2,h3⟩;split;·exact Vdm QMD λr st2 q=>?_;cases r<;>exact q
 ·calc Vdm QMD λr st2 q=>?_;cases r<;>calc q
universe e
section
variable{prog:V3}{w:Ua}{A:Uz}{E:VP}{s:Vc}{κ:Vd4}{R:Vl->Vl->Bool}{mem:Vl->Prop}{W:List Vl}{a b o:Array Vl}{i j N g c d:Nat}{st st0:V9}
variable(hO:Ord R)(hA:Xg0 prog w A E s κ R mem)(ma:∀x∈a.toList,mem x)(mb:∀x∈b.toList,mem x)(sa:a.toList.Pairwise QC2)(sb:b.toList.Pairwise QC2)(hl:∀x∈a.toList,LeK R QlL x)
include hl hO hA ma mb sa sb
def X5s{t:Nat}(hg:Glp st0 st)(hk:Vaz st0=κ)(ht:0<t)(h:JK R W a b N o i j):wpS Q5 A E s (X1e a b t g (yy,i,j,o,0,0)) (λz st'=>Glp st0 st'/\X1f R W a b (N+1) z.1 z.2.2.2.1 z.2.1 z.2.2.1) st:=by
 unfold X1e;calc Vbq (I:=λx z st'=>Glp st0 st'/\z.1=yy/\JK R W a b QyZ z.2.2.2.1 z.2.1 z.2.2.1) ?_ Qx2 ⟨hg,rfl,(by simpa using h:JK R W a b QzZ o i j)⟩;rintro x ⟨z0,i,j,o,c,d⟩ st' _ _ ⟨hg,h2,h3⟩;let⟨h,L,hi,j1,hj,hN⟩:=h3;dsimp at h L hi j1 hj hN |-;unfold X9u;calc Vu QZR;calc Vu (hA _ _ _ _ Qba QUJ QaA ?_);cases e:R Qt7 QC5 with
 |true=>
  dsimp;rw[iP0 rfl];calc Vu QM2;let h':=h.pa L hi (Xke (a:=b) hO sb Q0 hj QmS);by_cases q:i-1=0;·rw[iP0 QM];exact V4 QOB
  ·rw[iN0 QM];let B:∀m,m<=N+1->JK R W a b m QgL QLH j:=λm hm=>QPB;split;·exact V4 QbG
   ·exact V4 QiP|false=>
  dsimp;rw[iN0 Q1];calc Vu QM2;let h':=h.pb Q0 hj (Xke hO sa L hi e);by_cases q:j-1=1;·rw[iP0 QM];exact V4 Qt2
  ·rw[iN0 QM];let B:∀m,m<=N+1->JK R W a b m QUX i QtD:=λm hm=>⟨h',L,hi,by omega,by omega,by omega⟩;split;·exact V4 QbG
   ·calc V4 QiP
def X5t{t:Nat}(hg:Glp st0 st)(hk:Vaz st0=κ)(ht:a.size+b.size<=t)(h:JK R W a b 0 o i j):wpS Q5 A E s (Xu5 a b t (yy,i,j,o,g)) QA7 st:=by
 unfold Xu5;calc Vbq (I:=λx z st'=>Glp st0 st'/\z.1=yy/\JK R W a b x z.2.2.2.1 z.2.1 z.2.2.1) ?_ (λz st' Qd4=>by let:=h3.2.1;let:=h3.2.2.2.1;let:=h3.2.2.2.2.2;omega) Q9D;rintro x ⟨z0,i,j,o,g⟩ st' _ _ ⟨hg,h2,h3⟩;let hp:0<t:=by let h5:=h3.2.1;let h6:=h3.2.2.1;dsimp at h5 h6;omega
 calc Vu (Vdm (X5s hO hA ma mb sa sb hl hg hk hp h3) λy st2 q=>?_);let⟨B,q⟩:=q;let⟨y0,y1,y2,y3,y4,y5⟩:=y;rcases q with⟨r,e,hr⟩|⟨e,h4⟩;·subst e;exact V4 QxT
 ·subst e;calc Vu Ql1;calc Vu (Vdm (X5r hO hA ma mb sa sb hl B hk h4) λz ac q=>?_);let⟨L,q⟩:=q;let⟨z0,z1,z2,z3,z4,z5,z6⟩:=z;rcases q with⟨r,e,hr⟩|⟨e,h5⟩;·subst e;exact V4 QwT
  ·subst e;calc Vu QAB
def X9w{Q:Array Vl->V9->Prop}(hk:Vaz st=κ)(ha:0<a.size)(hb:0<b.size)(hz:LeK R (kat b (b.size-1)) (kat a Q58))(hW:W=a.toList++b.toList)
  (hQ:∀r B,Glp st B->Srt QC2 W r.toList->Q r B):wpS Q5 A E s (Xf4 a b) Q st:=by
 rw[X9v];calc Vu Ql1;calc Vu QM2;let j0:Jh R W a b #[] a.size b.size:=by
  calc⟨?_,.nil,λx q=>Qma,?_,?_⟩;·rw[hW,Va9 QA,Va9 QA];exact Qhg.append Qhg
  ·rw[Va9 QA];exact Vh9.mpr sa
  rw[Va9 QA];exact Vh9.mpr sb
 let L:Jh R W a b #[kat a Q58] Q58 b.size:=j0.pa ha Qd (Xke (a:=b) hO sb hb Qd hz);by_cases q:a.size-1=0;·rw[iP0 QM];exact V4 (hQ _ _ .refl (L.fin QqW))
 ·rw[iN0 QM];by_cases q2:b.size=1;·rw[iP0 Q91];exact V4 QjG
  ·rw[iN0 Q91];calc Vu Qv5;calc Vu (Vdm (X5t hO hA ma mb sa sb hl .refl hk Qd ⟨L,by omega,by omega,by omega,by omega,by omega⟩) λz B q=>?_);let⟨hg,r,e,hr⟩:=q;let⟨z0,z1⟩:=z;subst e;calc V4 QBU
universe e
abbrev X9x(p:Nat)(r:Array Vl):StateT V9 Sem Bool:=do
 modify λs=>setArr s (r.toList.zipIdx.foldl (λa (z,j)=>a.setIfInBounds QXS z) Q8E)
 let s <- get
 pure Qmg.isNone
abbrev X1g(s:V9)(p n q m:Nat):StateT V9 Sem Bool:=do
 let x <- Vd9 Q8E q
 let r <- Xa6 yw x Q8E p n 0
 match r with
 |some k=>
  if (n-k==0)=yx then pure yx else do
   let x <- Vd9 Q8E (p+k+(n-k)-1)
   let r <- Xa6 yx x Q8E q m Q9c
   match r with
   |some m=>if (m==0)=yx then pure yx else if n-k<=m then Xf2 QLM QKM >>= X9x QWS else Xf4 QLM QKM >>= X9x QWS|_=>pure yw
 |_=>pure yw
def X9y(i p n v q m v':Nat)(s:V9)(e1:QCE[i]?=yz Q3c)(e2:QCE[i+1]?=yz QMh):QiL.run s=(do
  set Q35
  X1g s p n q m:StateT V9 Sem Bool).run s:=by
 let h:mergeAt' i=(get >>= λs=>match QCE[i]?,QCE[i+1]? with
  |some Q3c,yz (q,m,_)=>(do
   set Q35
   X1g s p n q m:StateT V9 Sem Bool)
  |_,_=>liftM (Vd7 "internal:list.sort.pending" : Sem Bool)):=by
  calc bind_congr λs=>?_;cases QCE[i]? with
  |none=>rfl|some x=>
   let⟨p,n,v⟩:=x;cases QCE[i+1]? with
   |none=>rfl|some y=>
    let⟨q,m,v'⟩:=y;calc bind_congr λ_=>Xr rfl λx=>Xr rfl λr=>?_;cases r with
    |none=>rfl|some k=>
     calc ite_congr rfl Q32 λ_=>Xr rfl λx=>Xr rfl λr=>?_;cases r with
     |none=>rfl|some m=>exact ite_congr rfl Q32 λ_=>ite_congr rfl Q32 λ_=>rfl
 rw[h,StateT.run_bind,StateT.run_get,pure_bind];simp[e1,e2]
def Xpk(q:Nat):∀(l:List Vl) (k:Nat) (a:Array Vl),q+k+lg l<=a.size->((l.zipIdx k).foldl (λa p=>a.setIfInBounds (q+p.2) p.1) a).toList=a.toList.take Qcf++l++a.toList.drop (q+k+lg l)
 |[]=>λk a h=>by simp!|x::l=>λk a h=>by
  rw[Ux]at h;rw[List.zipIdx_cons,Vb0,Xpk q l Qe3 _ (by rw[Vjw];omega),Vf4];let hl:q+k<lg a.toList:=by rw[V1];omega
  let e1:(a.toList.set Qcf x).take (q+Qe3)=a.toList.take Qcf++[x]:=by rw[show q+Qe3=q+k+1 by omega,Vc8 (by rw[Vck];calc hl),List.getElem_set_self,List.take_set_of_le Qd]
  rw[e1,List.drop_set_of_lt Q0,Ux,show q+Qe3+lg l=q+k+(lg l+1) by omega];simp!
section
variable{le:α->α->Prop}{U V Z':List α}{k m:Nat}
def Yf9(hU:U.Pairwise le)(hV:V.Pairwise le)(h1:∀x∈U.take k,∀y∈V,le x y)(h2:∀x∈U,∀y∈V.drop m,le x y)(hZ:Srt le QAN Z'):Srt le (U++V) (U.take k++(Z'++V.drop m)):=by
 let⟨z1,z2⟩:=hZ;let aa:(U.take k++U.drop k).Pairwise le:=by rw[Ut];exact hU
 let ab:(V.take m++V.drop m).Pairwise le:=by rw[Ut];exact hV
 let⟨u1,u2,u3⟩:=Vas.mp aa;let⟨v1,v2,v3⟩:=Vas.mp ab;exact⟨?_,Vas.mpr ⟨u1,Vas.mpr ⟨z2,v2,λx B y L=>?_⟩,λx B y L=>?_⟩⟩
 ·let e:U++V=U.take k++(QAN++V.drop m):=by
   rw[Uj,Ut,<-Uj,Ut]
  rw[e];exact(z1.append_right _).append_left _
 ·rcases Um.mp (z1.mem_iff.mp B) with q|q;·exact h2 x Qjg y L
  ·exact v3 x q y L
 rcases Um.mp L with q|q
 ·rcases Um.mp (z1.mem_iff.mp q) with q|q;·exact u3 x B y q
  ·exact h1 x B y (Vdn q)
 calc h1 x B y Qjg
universe e
theorem KeepK(a a':Array Vl)(p q:Nat):Prop:=a'.Perm a/\∀k,k<p\/q<=k->kat a' k=kat a k
theorem SegS(R:Vl->Vl->Bool)(a:Array Vl)(p n:Nat):Prop:=∀i j,i<j->j<n->LeK R QzY Q0Z
def Xds{a:Array Vl}{q n:Nat}(h:q+n<=a.size):(QKQ.take n).length=n:=by rw[Vah,Vb5,V1];omega
def Xxy{R:Vl->Vl->Bool}{a:Array Vl}{p n:Nat}(h:SegS R a p n)(x y:Nat)(h1:p<=x)(h2:x<y)(B:y<p+n):LeK R (kat a x) (kat a y):=by let⟨x,rfl⟩:=Vdw h1;let⟨y,rfl⟩:=Vdw (V5 h1 (Vc4 h2));calc h x y (Vgf h2) (Vgf B)
def Xe9{a:Array Vl}{q n:Nat}{z:Vl}(h:z∈QKQ.take n):∃x,x<n/\q+x<a.size/\z=kat a (q+x):=by let⟨j,j1,B,L,rfl⟩:=Xdr h;let⟨x,rfl⟩:=Vdw j1;calc⟨x,Vgf B,L,rfl⟩
def Ord.rf{R:Vl->Vl->Bool}(h:Ord R)(x:Vl):LeK R x x:=by
 cases e:R x x with
 |false=>calc e|true=>let:=h.as e;rw[e]at this;cases this
def KeepK.size{a a':Array Vl}{p q:Nat}(h:KeepK a a' p q):a'.size=a.size:=h.1.size_eq
def KeepK.rf{a:Array Vl}{p q:Nat}:KeepK a a p q:=⟨.refl _,λ_ _=>rfl⟩
def KeepK.trans{a b c:Array Vl}{p q:Nat}(h:KeepK a b p q)(h':KeepK b c p q):KeepK a c p q:=⟨h'.1.trans h.1,λk B=>(h'.2 k B).trans (h.2 k B)⟩
def KeepK.seg{R:Vl->Vl->Bool}{a b:Array Vl}{p q i n:Nat}(h:KeepK a b p q)(B:i+n<=p\/q<=i)(hs:SegS R a i n):SegS R b i n:=λx y h1 h2=>by rw[h.2 (i+x) Q0,h.2 (i+y) Q0];calc hs x y h1 h2
def KeepK.mem{mem:Vl->Prop}{a b:Array Vl}{p q:Nat}(h:KeepK a b p q)(L:∀x∈a.toList,mem x):∀x∈b.toList,mem x:=λx B=>L x ((Veh.mp h.1).mem_iff.mp B)
def Xji{a:Array Vl}{i:Nat}:kat a i=a.toList.getD i QBa:=by unfold kat;rw[Vft,Vbf,Ue]
def Xpl{R:Vl->Vl->Bool}{a:Array Vl}{A U B:List Vl}(e:a.toList=A++(U++B)):SegS R a A.length U.length ↔ U.Pairwise QC2:=by
 let hk:∀i (h:i<lg U),kat a (lg A+i)=U[i]:=λi h=>by rw[Xji,e,Vbf,Vac Q0,show (lg A)+i-lg A=i by omega,Vy h,U7 h];rfl
 rw[Vge];calc⟨λh i j hi hj L=>?_,λh i j L hj=>?_⟩;·let:=h i j L hj;rw[hk i hi,hk j hj]at this;exact this
 ·rw[hk i Q0,hk j hj];calc h i j Q0 hj L
def Yga(a:Array Vl)(p n:Nat):a.toList=a.toList.take p++(QLQ.take n++a.toList.drop QDC):=by rw[<-Vdd,Ut,Ut]
def Xfa{R:Vl->Vl->Bool}{a:Array Vl}{p n:Nat}(h:p+n<=a.size):SegS R a p n ↔ (QLQ.take n).Pairwise QC2:=by let:=Xpl (R:=R) (Yga a p n);rwa [Vah,Vah,Vb5,V1,show min p a.size=p by lia,show min n (a.size-p)=n by lia]at this
section
variable{prog:V3}{w:Ua}{A:Uz}{E:VP}{s:Vc}{κ:Vd4}{R:Vl->Vl->Bool}{mem:Vl->Prop}{st:V9}
variable(hO:Ord R)(hA:Xg0 prog w A E s κ R mem)
include hO hA
def X9z{β:Type}{f:Array Vl->StateT V9 Sem β}{x y:Array Vl}{n m:Nat}{W:List Vl}{Q:β->V9->Prop}(hk:Vaz st=κ)(mx:∀z∈x.toList,mem z)(my:∀z∈y.toList,mem z)(sx:x.toList.Pairwise QC2)(sy:y.toList.Pairwise QC2)(L:0<x.size)(y0:0<y.size)
  (h1:∀z∈x.toList,LeK R (kat y 0) z) (h2:∀z∈y.toList,LeK R z (kat x (x.size-1))) (hW:W=x.toList++y.toList) (hQ:∀r B,Glp st B->Srt QC2 W r.toList->wpS Q5 A E s (f r) Q B):
  wpS Q5 A E s (if n<=m then Xf2 x y >>= f else Xf4 x y >>= f) Q st:=by
 split;·calc Vu (X9s hO hA mx my sx sy (λz hz u hu=>?_) hk L y0 (h1 _ (Yc L)) hW hQ);let⟨k,k1,k2,rfl⟩:=Xd3 hu;rw[show k=x.size-1 by omega];exact h2 z hz
 ·calc Vu (X9w hO hA mx my sx sy h1 hk L y0 (h2 _ QL8) hW hQ)
def X90{i p n v q m v':Nat}{Q:Bool->V9->Prop}(hk:Vaz st=κ)(hf:Vc9 st=yy)(ma:∀x∈QG.toList,mem x)(e1:QjB[i]?=yz Q3c)(e2:QjB[i+1]?=yz QMh)
  (hq:q=p+n) (hn:0<n) (hm:0<m) (hz:q+m<=QG.size) (s1:SegS R QG p n) (s2:SegS R QG q m)
  (hQ:∀aa,Vaz aa=κ->Vc9 aa=yy->Us aa=QGF.eraseIdxIfInBounds QX2->KeepK QG Qgg p (q+m)->SegS R Qgg p (n+m)->Q yx aa):
  wpS Q5 A E s QiL Q st:=by
 subst hq;unfold wpS;rw[X9y i p n v QDC m v' st e1 e2];show wpS Q5 A E s (_:StateT V9 Sem Bool) Q st;calc Vu (Vg3 (f:=λ_=>setPending st (QGF.eraseIdxIfInBounds QX2)) ?_);unfold X1g;calc Vu QM2;let ac:∀x y,p<=x->x<y->y<p+n->LeK R Qga Qfa:=Xxy s1;let ab:∀x y,p+n<=x->x<y->y<p+n+m->LeK R Qga Qfa:=Xxy s2;calc Vu (Xu2 hO hA hk QUJ Q0 ma ac hn λk ae a1 a2=>?_);dsimp;let fin:(∀x,x<n->LeK R QbX (kat QG QDC))->SegS R QG p (n+m):=λh x y h1 h2=>by
  by_cases c1:y<n;·exact s1 x y h1 c1
  ·by_cases c2:n<=x;·let:=ab Q0Q (p+y) Q0 Q0 Q0;exact this
   ·let g1:=h x Q0;by_cases c3:y=n;·subst c3;exact g1
    ·exact hO.tr g1 (ab QDC (p+y) Q0 Q0 Q0)
 let⟨d,rfl⟩:=Vdw ae;rw[Ve3];by_cases c:d=0;·rw[iP0 Qd6];exact V4 (hQ _ hk hf rfl .rf (fin λx hx=>a1 x Q0))
 ·rw[iN0 Qd6];obtain⟨d,rfl⟩:∃e,d=e+1:=⟨d-1,by omega⟩;clear c;rw[show p+k+Q9G-1=p+k+d from rfl];calc Vu QM2;calc Vu (Xu3 hO hA hk QUJ Q0 ma ab Q0 λB af b1 b2=>?_);dsimp;let⟨e,rfl⟩:=Vdw af;let L:∀x,x<Qx->LeK R QbX (kat QG (p+k+d)):=λx hx=>by
   by_cases dd:x=k+d;·subst dd;rw[<-Vhs];exact hO.rf _
   ·exact ac _ _ Q0 Q0 Q0
  by_cases c':B=0;·rw[iP0 QCQ];exact V4 (hQ _ hk hf rfl .rf (fin λx hx=>hO.tr QXW (b2 0 Q0 hm)))
  ·rw[iN0 QCQ];let ex:Qa5.toList=Qj8.take QvZ:=by
    let:=Xh3 QG QWS QvZ;rwa [show p+k+QvZ=p+Qx by omega]at this
   let ey:=Xh3 QG QNh B;let zx:Qa5.size=Q9G:=by rw[<-V1,ex,Xds Q0]
   let zy:Qy7.size=B:=by rw[<-V1,ey,Xds Q0]
   let kx:∀x,x<Q9G->kat Qa5 x=kat QG (p+k+x):=λx hx=>by rw[Xca (by rw[zx];calc hx),Xca Q0,Array.getElem_extract]
   let ky:∀x,x<B->kat Qy7 x=kat QG Qzd:=λx hx=>by rw[Xca (by rw[zy];calc hx),Xca Q0,Array.getElem_extract]
   let ag:∀z∈Qa5.toList,∃x,k<=x/\x<Qx/\z=kat QG Q0Q:=λz hz=>by rw[ex]at hz;let⟨x,j2,_,rfl⟩:=Xe9 hz;exact⟨k+x,Vf1 ..,Nat.add_lt_add_left j2 k,by rw[Vhs]⟩
   let ah:∀z∈Qy7.toList,∃x,x<B/\z=kat QG Qzd:=λz hz=>by rw[ey]at hz;let⟨x,j2,_,e⟩:=Xe9 hz;exact⟨x,j2,e⟩
   exact X9z hO hA (W:=Qj8.take QvZ++Qq0.take B) hk QQF QQF ?_ ?_ (by rw[zx];omega) (by rw[zy];omega) QQF QQF (by rw[ex,ey]) λr st2 hg hr=>?_;·let⟨x,x1,x2,rfl⟩:=ag z hz;exact ma _ QL8
   ·let⟨x,x1,rfl⟩:=ah z hz;exact ma _ QL8
   ·rw[ex,<-Xfa Q0];exact λx y h1 h2=>ac _ _ Q0 Q0 Q0
   ·rw[ey,<-Xfa Q0];exact λx y h1 h2=>ab _ _ Q0 Q0 Q0
   ·let⟨x,x1,x2,rfl⟩:=ag z hz;rw[ky 0 Q0];exact hO.as (a2 x x1 x2)
   ·let⟨x,x1,rfl⟩:=ah z hz;rw[zx,kx _ Q0,show p+k+(Q9G-1)=p+k+d from rfl];exact hO.as (b1 x x1)
   -- what is laid back
   let⟨g,rfl⟩:=hg;calc Vu (Vg3 (Vu Qv5));let ai:QMW.isNone=true:=by rw[hf];rfl
   calc V4 (show Q QMW.isNone _ from ?_);rw[ai];let lr:(lg r.toList)=Q9G+B:=by rw[hr.1.length_eq,Ub,Xds Q0,Xds Q0]
   let lay:=Xpk QWS r.toList 0 QG (by rw[lr];omega);let hU:=(Xfa (R:=R) (a:=Vt st) (p:=p) (n:=Qx) Q0).mp s1;let hV:=(Xfa (R:=R) (a:=Vt st) (p:=p+Qx) (n:=Q7a) Q0).mp s2;let eU:Qj8.take QvZ=QEE.drop k:=by rw[Vi3,Vdd,Ve3]
   let eV:Qq0.take B=QrA.take B:=by rw[Vi2,Vc1 af]
   let gl:=Yf9 (k:=k) (m:=B) hU hV QpP QpP (Z':=r.toList) (by rw[<-eU,<-eV];calc hr)
   ·let eA:Ql0.toList=(Vt st).toList.take p++(QEE.take k++Q0L++(Vt st).toList.drop QeL):=by
     rw[lay,lr,Uj];let t1:(Vt st).toList.take (p+k+0)=(Vt st).toList.take p++QEE.take k:=by rw[Nat.add_zero,Vi2,Vc1 ae,List.take_add]
     let t2:(Vt st).toList.drop (p+k+0+Qug)=QrA.drop B++(Vt st).toList.drop QeL:=by rw[Vi3,Vdd,show p+k+0+Qug=p+Qx+B by omega,Ve3];let:=(Ut e ((Vt st).toList.drop (p+Qx+B))).symm;rwa [Vdd,Vhs QNh B e]at this
     rw[t1,t2];simp[Uj]
    let eB:QG.toList=(Vt st).toList.take p++(QHG++(Vt st).toList.drop QeL):=by rw[Uj,<-Vdd (i:=Q7a),Ut,<-Vdd,Ut,Ut]
    let lU:(QEE.take k++Q0L).length=Qx+Q7a:=by rw[gl.1.length_eq,Ub,Xds Q0,Xds Q0]
    let lA:((Vt st).toList.take p).length=p:=by rw[Vah,V1];omega
    calc hQ _ hk hf rfl ⟨?_,λj hj=>?_⟩ ?_;·show Array.Perm Ql0 _;rw[Veh,eA];exact(((gl.1.append_right _).append_left _).trans (by rw[<-eB]))
    ·show kat Ql0 j=_;rw[Xji,Xji,eA];let lW:QHG.length=Qx+Q7a:=by rw[<-gl.1.length_eq,lU]
     rw[Vbf,Vbf]
     conv=>rhs;rw[eB]
     rcases hj with hj|hj;·rw[Vy Q0,Vy Q0]
     ·rw[Vac Q0,Vac Q0,Vac Q0,Vac Q0,lU,lW]
    show SegS R Ql0 p (Qx+Q7a);let:=(Xpl (R:=R) eA).mpr gl.2;rwa [lA,lU]at this
   ·rw[Vi2,Vc1 ae]at hx;let⟨j,j2,_,rfl⟩:=Xe9 hx;let⟨l,l2,_,rfl⟩:=Xe9 hy;let g:=a1 j j2;by_cases dd:l=0;·subst dd;exact g
    ·exact hO.tr g (ab _ _ Qd Q0 Q0)
   rw[Vi3,Vdd]at hy;let⟨j,j2,_,rfl⟩:=Xe9 hx;let⟨l,l2,_,rfl⟩:=Xe9 hy;rw[Ve3]at l2;let g:=b2 (B+l) Qde (Nat.add_lt_add_left l2 _);rw[<-Vhs]at g;calc hO.tr (L j j2) g
universe e
abbrev upL(q a n:Nat):StateT V9 Sem (Option Q11×Nat):=forIn [a:n] (yy,a) λ_ z=>do
 let x <- ltAt' Qbf Q1c
 match x with
 |some y=>if y=yx then pure QO4 else pure (.yield (yy,z.2+1))|_=>pure Qb8
abbrev upE(q m n:Nat):StateT V9 Sem Q11:=do
 Vht q (q+m)
 let z <- upL q m n
 match z.1 with
 |some r=>pure r|none=>pure QLV
abbrev dnL(q a n:Nat):StateT V9 Sem (Option Q11×Nat×Nat):=forIn [a:n] (yy,a,0) λ_ z=>do
 let x <- ltAt' QdL QuY
 match x with
 |some y=>
  if y=yx then
   if z.2.2>0 then do
    Vht QpN QdL
    pure QeK
   else pure QeK
  else do
   let x <- ltAt' QuY QdL
   match x with
   |some y=>if y=yx then pure (.done (yy,z.2.1,z.2.2)) else pure (.yield (yy,z.2.1+1,z.2.2+1))|_=>pure Q1I
 |_=>pure Q1I
abbrev dnE(q m n:Nat):StateT V9 Sem Q11:=do
 liftM (rule "list.sort.descending-run")
 let z <- dnL q QYB n
 match z.1 with
 |some r=>pure r|none=>
  if z.2.2>0 then do
   Vht QpN QdL
   upE q z.2.1 n
  else upE q z.2.1 n
def X91(q n:Nat):countRun' q n=(do
  let z <- upL q 1 n
  match z.1 with
  |some r=>pure r|none=>
   if (z.2==n)=yx then pure QLV
   else if z.2>1 then do
    let x <- ltAt' q Q1c
    match x with
    |some y=>if y=yx then pure QLV else do
      Vht q Qbf
      dnE q z.2 n|_=>pure yy
   else dnE q z.2 n):=by
 calc Xr rfl λz=>?_;let⟨B,z2⟩:=z;cases B with
 |some r=>rfl|none=>
  exact ite_congr rfl Q32 λ_=>ite_congr rfl (λ_=>Xr rfl λx=>?_) λ_=>?_
  ·cases x with
   |none=>rfl|some y=>
    calc ite_congr rfl Q32 λ_=>bind_congr λ_=>?_;calc bind_congr λ_=>Xr rfl λc=>?_;let⟨L,c2,c3⟩:=c;cases L with
    |some r=>rfl|none=>
     exact ite_congr rfl Qr7 λ_=>bind_congr λ_=>Xr rfl λz=>?_
     all_goals (let⟨B,z2⟩:=z;cases B<;>rfl)
  calc bind_congr λ_=>Xr rfl λc=>?_;let⟨L,c2,c3⟩:=c;cases L with
  |some r=>rfl|none=>
   exact ite_congr rfl Qr7 λ_=>bind_congr λ_=>Xr rfl λz=>?_
   all_goals (let⟨B,z2⟩:=z;cases B<;>rfl)
def Xxz(p:Nat){k i:Nat}(h:i<k):p+Qlf=p+QWS-1-QYV:=by omega
def Xh5{xs:Array Vl}{i j:Nat}(B:j<=xs.size)(k:Nat):kat (mirror xs i j ((j-i)/2)) k=if i<=k/\k<j then kat xs (i+j-1-k) else kat xs k:=by simp[kat,Vft,getElem?_mirror_all B];split<;>rfl
def Xlp{xs:Array Vl}{a d:Nat}(h:a<xs.size)(hd:d<=a)(k:Nat):kat (bubble xs a d) k=if k=a-d then kat xs a else if a-d<k/\k<=a then kat xs (k-1) else kat xs k:=by
 simp[kat,Vft,getElem?_bubble h d hd];split;·rfl
 ·split<;>rfl
structure Bs(κ:Vd4)(P:Array Q83)(a:Array Vl)(p q:Nat)(st:V9):Prop where
 kd:Vaz st=κ
 fl:Vc9 st=yy
 pn:Us st=P
 kp:KeepK a QG p q
section
variable{κ:Vd4}{P:Array Q83}{a:Array Vl}{p q:Nat}{st:V9}{R:Vl->Vl->Bool}
def Bs.sz(h:Bs κ P a p q st):QG.size=a.size:=h.kp.size
def Bs.rev{i j:Nat}(h:Bs κ P a p q st)(hi:p<=i)(L:j<=q)(hq:q<=a.size):Bs κ P a p q QPS:=
 ⟨h.kd,h.fl,h.pn,h.kp.trans ⟨mirror_perm _ _ _ _,λk B=>by show kat QM9 k=_;rw[Xh5 QEQ,iN0 Q0]⟩⟩
def Bs.bub{i j:Nat}(h:Bs κ P a p q st)(hi:p<=j)(B:j<=i)(L:i<q)(hq:q<=a.size):Bs κ P a p q (setArr st Q9O):=
 ⟨h.kd,h.fl,h.pn,h.kp.trans ⟨bubble_perm _ _ _,λk hk=>by show kat Q9O k=_;rw[Xlp QEQ Q0,iN0 Q0,iN0 Q0]⟩⟩
theorem DecS(R:Vl->Vl->Bool)(a:Array Vl)(p n:Nat):Prop:=∀i j,i<j->j<n->LeK R Q0Z QzY
theorem Xpm(R:Vl->Vl->Bool)(a:Array Vl)(p q:Nat):Prop:=∀i j,p<=i->i<q->p<=j->j<q->LeK R QT5 QFc
def SegS.more(hO:Ord R){x:Nat}(h:SegS R a p x)(h1:1<=x)(hl:LeK R QiS Q1Z):SegS R a p (x+1):=λi j B L=>by
 by_cases c:j<x;·exact h i j B c
 ·obtain rfl:j=x:=by omega
  obtain⟨j,rfl⟩:∃k,j=k+1:=Q6R;by_cases d:i=j;·subst d;exact hl
  ·let:=h i j Q0 QKT;calc hO.tr this hl
def DecS.more(hO:Ord R){x:Nat}(h:DecS R a p x)(h1:1<=x)(hl:LeK R Q1Z QiS):DecS R a p (x+1):=λi j B L=>by
 by_cases c:j<x;·exact h i j B c
 ·obtain rfl:j=x:=by omega
  obtain⟨j,rfl⟩:∃k,j=k+1:=Q6R;by_cases d:i=j;·subst d;exact hl
  ·let:=h i j Q0 QKT;calc hO.tr hl this
def Xlq(hO:Ord R){i j:Nat}(L:j<=a.size)(B:Xpm R a i j)(k:Nat):LeK R QZE QmL/\LeK R QmL QZE:=by
 rw[Xh5 L];split;·exact⟨B _ _ Q0 Q0 Q0 Q0,B _ _ Q0 Q0 Q0 Q0⟩
 ·calc⟨hO.rf _,hO.rf _⟩
def DecS.eqv(hO:Ord R){b:Array Vl}{n:Nat}(h:DecS R a p n)(L:∀k,LeK R QEc QmL/\LeK R QmL QEc):DecS R b p n:=λi j B hj=>hO.tr (QCd.1) (hO.tr (h i j B hj) QCd.2)
universe e
section
variable{prog:V3}{w:Ua}{A:Uz}{E:VP}{s:Vc}{κ:Vd4}{R:Vl->Vl->Bool}{mem:Vl->Prop}{st:V9}{P:Array Q83}{a₀:Array Vl}{p n:Nat}
def Xkf{i j:Nat}{Q:Unit->V9->Prop}(h:Q () QPS):wpS Q5 A E s (Vht i j) Q st:=by rw[reverseSlice'_eq];calc Vg3 h
variable(hO:Ord R)(hA:Xg0 prog w A E s κ R mem)(ma:∀x∈a₀.toList,mem x)(hz:p+n<=a₀.size)
include hA ma
def Xg2{i j lo hi:Nat}{Q:Option Bool->V9->Prop}(hB:Bs κ P a₀ lo hi st)(h1:i<a₀.size)(h2:j<a₀.size)(h:Q (yz (R (kat QG i) (kat QG j))) st):wpS Q5 A E s (ltAt' i j) Q st:=by rw[ltAt'_eq];calc Vu Qv5;let z:=hB.sz;calc Vu QZR;calc hA _ _ _ _ QzM QzM hB.kd h
include hO hz
def Xx0{k:Nat}{Q:Option Q11×Nat->V9->Prop}(h1:1<=k)(L:k<=n)(hB:Bs κ P a₀ p QDC st)(hs:SegS R QG p k)
  (h:∀m,k<=m->m<=n->SegS R QG p m->(m=n\/R (kat QG Qff) QPR=yx)->Q (yy,m) st):wpS Q5 A E s (upL p k n) Q st:=by
 unfold upL;exact Vbq (I:=λx c B=>B=st/\c=(yy,x)/\SegS R QG p x) ?step ?fin ⟨rfl,rfl,hs⟩
 case fin=>rintro c B ⟨rfl,rfl,g⟩;rw[Nat.max_eq_right L]at g |-;exact h n L Qd g QJ0
 case step=>
  rintro x c B hx hxn ⟨rfl,rfl,g⟩;calc Vu QPK;cases e:R QJH Q0F with
  |true=>calc V4 (h x hx Q0 g (.inr e))|false=>calc V4 ⟨rfl,rfl,g.more hO Q0 e⟩
def Xx1{k:Nat}{Q:Option Nat->V9->Prop}(h1:1<=k)(hk:k<=n)(hB:Bs κ P a₀ p QDC st)(hs:DecS R QG p k)
  (h:∀m B,Bs κ P a₀ p QDC B->1<=m->m<=n->SegS R Ql3 p m->Q QkO B):wpS Q5 A E s (upE p k n) Q st:=by
 unfold upE;calc Vu (Xkf ?_);let L:=hB.rev (i:=p) (j:=p+k) Qd Q0 hz;calc Vu (Xx0 hO hA ma hz h1 hk L (λi j aa hj=>?_) λm m1 m2 m3 _=>V4 (h m _ L Q0 m2 m3));show LeK R (kat QxE QYV) (kat QxE QXS);rw[Xh5 QyC,Xh5 QyC,iP0 Q0,iP0 Q0];let:=hs (k-1-j) Qlf Q0 Q0;rwa [Xxz p (Vey aa hj),Xxz p hj]at this
def X92{k:Nat}{Q:Option Q11×Nat×Nat->V9->Prop}(h1:1<=k)(hk:k<=n)(hB:Bs κ P a₀ p QDC st)(hs:DecS R QG p k)
  (h:∀m e B,Bs κ P a₀ p QDC B->k<=m->m<=n->DecS R Ql3 p m->e+1<=m->Xpm R Ql3 (p+m-(e+1)) Qff->Q (yy,m,e) B):wpS Q5 A E s (dnL p k n) Q st:=by
 unfold dnL;let one:∀(b:Array Vl) x,Xpm R b (p+x-(0+1)) Q0Q:=λb x i j _ _ _ _=>by rw[show i=j by omega];exact hO.rf _
 exact Vbq (I:=λx c B=>∃e,c=(yy,x,e)/\Bs κ P a₀ p QDC B/\DecS R Ql3 p x/\e+1<=x/\Xpm R Ql3 (p+x-(e+1)) Q0Q) ?step ?fin ⟨0,rfl,hB,hs,by omega,one _ _⟩
 case fin=>rintro c B ⟨e,rfl,g1,g2,g3,g4⟩;rw[Nat.max_eq_right hk]at g2 g3 g4 |-;exact h n e B g1 hk Qd g2 g3 g4
 case step=>
  rintro x c B hx hxn ⟨e,rfl,g1,g2,g3,g4⟩;dsimp;calc Vu QdA;dsimp;cases u:R QJH Q0F with
  |true=>
   rw[iP0 rfl];let d:=g2.more hO Q0 (hO.as u);split;·calc Vu (Xkf (V4 ⟨0,rfl,g1.rev Q0 Q0 hz,?_,by omega,one _ _⟩));exact d.eqv hO (Xlq hO Q3P g4)
   ·exact V4 ⟨0,rfl,g1,d,by omega,one _ _⟩|false=>
   rw[iN0 Q1];calc Vu QdA;dsimp;cases v:R Q0F QJH with
   |true=>exact V4 (h x e B g1 hx Q0 g2 g3 g4)|false=>
    calc V4 ⟨e+1,rfl,g1,g2.more hO Q0 v,by omega,λi j i1 i2 j1 j2=>?_⟩;by_cases ci:i=p+x
    ·by_cases L:j=p+x;·rw[ci,L];exact hO.rf _
     ·rw[ci];exact hO.tr v (g4 _ j Q0 Q0 Q0 Q0)
    by_cases L:j=p+x;·rw[L];exact hO.tr (g4 i (p+x-1) Q0 Q0 Q0 Q0) u
    ·calc g4 i j Q0 Q0 Q0 Q0
def Xx2{k:Nat}{Q:Option Nat->V9->Prop}(hk:k+1<=n)(hB:Bs κ P a₀ p QDC st)(hs:DecS R QG p Qe3)
  (h:∀m B,Bs κ P a₀ p QDC B->1<=m->m<=n->SegS R Ql3 p m->Q QkO B):wpS Q5 A E s (dnE p k n) Q st:=by
 unfold dnE;calc Vu Ql1;calc Vu (X92 hO hA ma hz Q0 hk hB hs λm e B g1 g2 g3 L g5 g6=>?_);dsimp;split;·exact Vu (Xkf (Xx1 hO hA ma hz Q0 g3 (g1.rev Q0 Q0 hz) (L.eqv hO (Xlq hO Q3P g6)) h))
 ·calc Xx1 hO hA ma hz Q0 g3 g1 L h
def X93{Q:Option Nat->V9->Prop}(h1:1<=n)(hB:Bs κ P a₀ p QDC st)
  (h:∀m B,Bs κ P a₀ p QDC B->1<=m->m<=n->SegS R Ql3 p m->Q QkO B):wpS Q5 A E s (countRun' p n) Q st:=by
 rw[X91];calc Vu (Xx0 hO hA ma hz QQ8 h1 hB QdN λm m1 m2 L m4=>?_);dsimp;by_cases c:m=n;·rw[iP0 Qd6];exact V4 QxN
 ·rw[iN0 Qd6];let lt:=m4.resolve_left c;by_cases d:m>1
  ·rw[iP0 d];calc Vu QPK;dsimp;cases u:R (kat QG p) QPR with
   |true=>exact V4 QxN|false=>
    rw[iN0 Q1];let le:∀i j,i<=j->j<m->LeK R (kat QG QYV) (kat QG QXS):=λi j aa hj=>by
     by_cases c:i=j;·rw[c];exact hO.rf _
     ·exact L i j Q0 hj
    let all:Xpm R QG p Qff:=λi j i1 i2 j1 j2=>by let g1:=le (i-p) Q9c Q0 Q0;let g2:=le 0 (j-p) Q0 Q0;rw[show p+(i-p)=i by omega,show p+Q9c=p+m-1 by omega]at g1;rw[show p+(j-p)=j by omega,Nat.add_zero]at g2;exact hO.tr g1 (hO.tr u g2)
    let dc:DecS R QG p m:=λi j aa hj=>all _ _ Q0 Q0 Q0 Q0;calc Vu (Xkf (Xx2 hO hA ma hz Q0 (hB.rev Qd Q0 hz) ?_ h));exact(dc.more hO Q0 Qia).eqv hO (Xlq hO QyC all)
  rw[iN0 d];obtain rfl:m=1:=by omega
  calc Xx2 hO hA ma hz Q0 hB (DecS.more hO QdN Qd Qia) h
def X94{k:Nat}{Q:Bool->V9->Prop}(hk:k<=n)(hB:Bs κ P a₀ p QDC st)(hs:SegS R QG p k)
  (h:∀B,Bs κ P a₀ p QDC B->SegS R Ql3 p n->Q yx B):wpS Q5 A E s (binarySort' p n k) Q st:=by
 rw[binarySort'_eq];exact Vu (Vdm (Vbq (I:=λk c B=>c=QC7/\Bs κ P a₀ p QDC B/\SegS R Ql3 p (min k n))
  (Q:=λc B=>c=QC7/\Bs κ P a₀ p QDC B/\SegS R Ql3 p n) ?step ?fin ?init) ?post)
 case post=>rintro c B ⟨rfl,g1,g2⟩;exact V4 (h B g1 g2)
 case init=>exact⟨rfl,hB,λi j L hj=>hs i j L Q0⟩
 case fin=>rintro c B ⟨g1,g2,g3⟩;rw[show min (max (max k 1) n) n=n by omega]at g3;exact⟨g1,g2,g3⟩
 case step=>
  rintro k c B h1 h2 ⟨rfl,g1,g2⟩;rw[show min k n=k by omega]at g2;let le:∀i j,i<=j->j<k->LeK R QH8 (kat Ql3 QXS):=λi j L hj=>by
   by_cases c:i=j;·rw[c];exact hO.rf _
   ·exact g2 i j Q0 hj
  exact Vu (Vdm (Vbq (I:=λx c st2=>st2=B/\∃l r,c=QJR/\l<=r/\r<=k/\r+x<=k+l /\
    QeI/\∀i,r<=i->i<k->LeK R QZB QH8)
   (Q:=λc st2=>st2=B/\∃l r,c=QJR/\l<=k/\QeI/\∀i,l<=i->i<k->LeK R QZB QH8) ?sx ?fi ⟨rfl,0,k,rfl,by omega,by omega,by omega,λi hi=>by omega,λi _ _=>by omega⟩) ?po)
  case fi=>
   rintro c st2 ⟨rfl,l,r,rfl,a1,a2,a3,a4,a5⟩;obtain rfl:l=r:=by omega
   exact QMJ
  case sx=>
   rintro x c st2 _ hx ⟨rfl,l,r,rfl,a1,a2,a3,a4,a5⟩;dsimp;by_cases d:l ≥ r
   ·rw[iP0 d];obtain rfl:l=r:=by omega
    exact V4 QMJ
   rw[iN0 d];calc Vu QdA;dsimp;cases e:R (kat QSK QWS) (kat QSK (p+(l+r)/2)) with
   |true=>exact V4 ⟨rfl,l,_,rfl,by omega,by omega,by omega,a4,λi i1 i2=>hO.tr QmS (le _ _ i1 i2)⟩|false=>exact V4 ⟨rfl,_,r,rfl,by omega,a2,by omega,λi i1=>hO.tr (le _ _ Q0 Q0) e,a5⟩
  case po=>
   rintro c st2 ⟨rfl,l,r,rfl,a1,a2,a3⟩;show wpS _ _ _ _ (do moveDown' QWS (p+l);pure (Vec QC7)) _ _;rw[moveDown'_eq];calc Vu (Vg3 (V4 ⟨rfl,g1.bub Q0 Q0 Q0 hz,?_⟩));rw[show min Qe3 n=k+1 by omega];let zk:p+k<QSK.size:=by rw[g1.sz];omega
   intro i j L hj;show LeK R (kat QzC QYV) (kat QzC QXS);let el:p+k-(p+k-(p+l))=p+l:=by omega
   rw[Xlp zk Q0,Xlp zk Q0,el];clear el zk;by_cases i1:i<l
   ·rw[iN0 Q0,iN0 Q0];by_cases j1:j<l;·rw[iN0 Q0,iN0 Q0];exact le _ _ Q0 Q0
    ·by_cases j2:j=l;·rw[iP0 Q0];exact a2 i i1
     ·rw[iN0 Q0,iP0 Q0,show p+j-1=p+QtD by omega];exact le _ _ Q0 Q0
   by_cases i2:i=l;·rw[iP0 Q0,iN0 Q0,iP0 Q0,show p+j-1=p+QtD by omega];exact a3 _ Q0 Q0
   ·rw[iN0 Q0,iP0 Q0,iN0 Q0,iP0 Q0,show p+j-1=p+QtD by omega,show p+i-1=p+QLH by omega];calc le _ _ Q0 Q0
universe e
private noncomputable abbrev Pn:=Array Q83
abbrev prL(t w:Nat):StateT V9 Sem QOO:=forIn [0:t] QC7 λ_ _=>do
 let z <- get
 match (if QiH.size>1 then QiH[QiH.size-2]? else yy) with
 |some (_,_,v)=>if v<=w then pure QXO else do
   let b <- mergeAt' (QiH.size-2)
   if !b then pure QVP else pure QEY|_=>pure QXO
abbrev laL(q n:Nat):StateT V9 Sem QcT:=do
 modify λs=>setPending s (QCE.push (q,n,0))
 pure (.yield (yy,q+n))
abbrev bhL(t q n:Nat):StateT V9 Sem QcT:=do
 let z <- get
 match QiH.back? with
 |some x=>do
  let y <- prL t (power' t QdW QOM t)
  match y.1 with
  |some r=>pure (.done (yz r,q))|none=>do
   modify λs=>setPending s (QCE.modify (QCE.size-1) λ(u,v,_)=>(u,v,power' t QdW QOM t))
   laL q n
 |_=>laL q n
abbrev rnL(t m:Nat):StateT V9 Sem QQ6:=forIn [0:t] (yy,0) λ_ z=>
 if z.2 ≥ t then pure QO4 else do
  let x <- countRun' z.2 (t-z.2)
  match x with
  |some k=>
   if k<m then do
    liftM (rule "list.sort.binary-insertion")
    let b <- binarySort' z.2 QZS k
    if !b then pure QYO else bhL t z.2 QZS
   else bhL t z.2 k|_=>pure QYO
abbrev laP(p:Pn):Nat:=if ((if p.size-2>0 then p[p.size-2-1]?.map QiY else yy).any (· < (p[p.size-2+1]?.elim 0 QiY)))=yx then p.size-2-1 else p.size-2
abbrev enL(t:Nat):StateT V9 Sem QOO:=forIn [0:t] QC7 λ_ _=>do
 let z <- get
 if QiH.size<=1 then pure QXO else do
  let b <- mergeAt' (laP QiH)
  if !b then pure QVP else pure QEY
def X95:sortRuns'=(do
  let z <- get
  let x <- rnL QxX.size (minRun' QxX.size QxX.size 0)
  match x.1 with
  |some r=>pure r|none=>do
   let y <- enL QxX.size
   match y.1 with
   |some r=>pure r
   |none=>pure ()):=by
 rw[sortRuns'_eq];exact bind_congr λz=>Xr ?_ λx=>?_
 ·unfold rnL;calc congrArg QyN ?_;funext _ y;calc ite_congr rfl Q32 λ_=>?_;calc Xr rfl λx=>?_;cases x with
  |none=>rfl|some k=>
   exact ite_congr rfl (λ_=>bind_congr λ_=>Xr rfl λb=>?_) λ_=>?_
   ·calc ite_congr rfl Q32 λ_=>?_;unfold bhL;calc Xr rfl λz=>?_;cases QiH.back? with
    |none=>rfl|some x=>let⟨L,x2,x3⟩:=x;exact Xr rfl λy=>?_;let⟨B,y2⟩:=y;cases B<;>rfl
   unfold bhL;calc Xr rfl λz=>?_;cases QiH.back? with
   |none=>rfl|some x=>let⟨L,x2,x3⟩:=x;exact Xr rfl λy=>?_;let⟨B,y2⟩:=y;cases B<;>rfl
 ·let⟨L,x2⟩:=x;cases L with
  |some r=>rfl|none=>calc Xr rfl λy=>?_;let⟨B,y2⟩:=y;cases B<;>rfl
def Xcb{α β:Type}{f:α->β}{l m:List β}(h:l.Perm m):∀ps:List α,m=ps.map f->∃B:List α,B.Perm ps/\l=B.map f:=by
 induction h with
 |nil=>
  intro ps e;cases ps with
  |nil=>calc⟨[],Vcc _,rfl⟩|cons _ _=>cases e
 |@cons x l m _ ih=>
  intro ps e;cases ps with
  |nil=>cases e|cons p ps=>injection e with e1 e2;let⟨B,q1,q2⟩:=ih ps e2;calc⟨p::B,q1.cons p,by rw[Uh,<-q2,e1]⟩
 |swap x y l=>
  intro ps e;rcases ps with _|⟨p,_|⟨q,ps⟩⟩;·cases e
  ·cases e
  injection e with e1 e2;injection e2 with e2 e3;calc⟨q::p::ps,Vg0 _ _ _,by simp![e1,e2,e3]⟩|trans _ _ L aa=>intro ps e;let⟨p2,q1,q2⟩:=aa ps e;let⟨p1,q3,q4⟩:=L p2 q2;calc⟨p1,q3.trans q1,q4⟩
theorem Runs(R:Vl->Vl->Bool)(a:Array Vl):List Q83->Nat->Nat->Prop
 |[],b,e=>b=e|x::l,b,e=>x.1=b/\0<x.2.1/\SegS R a x.1 x.2.1/\Runs R a l (b+x.2.1) e
section
variable{R:Vl->Vl->Bool}{a a':Array Vl}
def Runs.le:∀ {l:List Q83} {b e:Nat},Runs R a l b e->b+lg l<=e
 |[],b,e,h=>by cases h;calc Vi _|x::l,b,e,⟨_,h0,_,h⟩=>by let:=h.le;rw[Ux];omega
def Runs.keep{p q:Nat}(k:KeepK a a' p q):∀ {l:List Q83} {b e:Nat},Runs R a l b e->e<=p\/q<=b->Runs R a' l b e
 |[],b,e,h,_=>h|x::l,b,e,QHB,c=>⟨h1,h0,k.seg (by let:=h.le;omega) h2,h.keep k Q0⟩
def Runs.app:∀ {l m:List Q83} {b e:Nat},Runs R a (l++m) b e ↔ ∃c,Runs R a l b c/\Runs R a m c e
 |[],m,b,e=>⟨λh=>⟨b,rfl,h⟩,λ⟨c,h1,h2⟩=>by cases h1;calc h2⟩|x::l,m,b,e=>by calc⟨λ QvT=>?_,λ⟨c,QvT,B⟩=>⟨h1,h2,L,Runs.app.mpr ⟨c,h4,B⟩⟩⟩;let⟨c,B,h6⟩:=Runs.app.mp h4;calc⟨c,⟨h1,h2,L,B⟩,h6⟩
def Runs.pw{w:Nat}:∀ {l:List Q83} {i b e:Nat},Runs R a l b e->Runs R a (l.modify i λx=>(x.1,x.2.1,w)) b e
 |[],i,b,e,h=>by rw[List.modify_nil];calc h|x::l,0,b,e,QHB=>QHB|x::l,i+1,b,e,QHB=>by rw[List.modify_succ_cons];calc⟨h1,h0,h2,h.pw⟩
def Xx3{α:Type}:∀ {l:List α} {i:Nat},i+1<lg l->∃m x y r,l=m++x::y::r/\QBc=i
 |x::y::r,0,_=>⟨[],x,y,r,rfl,rfl⟩|x::l,i+1,h=>by let⟨m,y,z,r,e,hl⟩:=Xx3 (l:=l) (i:=i) Q72;calc⟨x::m,y,z,r,by rw[e];rfl,by rw[Ux,hl]⟩
universe e
structure Rn(κ:Vd4)(R:Vl->Vl->Bool)(a₀:Array Vl)(t n:Nat)(st:V9):Prop where
 kd:Vaz st=κ
 fl:Vc9 st=yy
 pm:QG.Perm a₀
 rn:Runs R QG QjB.toList 0 t
 sg:SegS R QG t n
 le:t+n<=a₀.size
section
variable{prog:V3}{w:Ua}{A:Uz}{E:VP}{s:Vc}{κ:Vd4}{R:Vl->Vl->Bool}{mem:Vl->Prop}{st:V9}{a₀:Array Vl}{t n:Nat}
def Rn.sz(h:Rn κ R a₀ t n st):QG.size=a₀.size:=h.pm.size_eq
def Rn.mm(h:Rn κ R a₀ t n st)(ma:∀x∈a₀.toList,mem x):∀x∈QG.toList,mem x:=λx B=>ma x ((Veh.mp h.pm).mem_iff.mp B)
variable(hO:Ord R)(hA:Xg0 prog w A E s κ R mem)(ma:∀x∈a₀.toList,mem x)
include hO hA ma
def Xx4{i:Nat}{Q:Bool->V9->Prop}(h:Rn κ R a₀ t n st)(hi:i+1<QjB.size)(hQ:∀B,Rn κ R a₀ t n B->QEM.size+1=QjB.size->Q yx B):wpS Q5 A E s QiL Q st:=by
 let⟨m,⟨p,k,v⟩,⟨q,k',v'⟩,r,e,hl⟩:=Xx3 (l:=QjB.toList) (i:=i) Qr0;subst hl;let hr:=h.rn;rw[e]at hr;let⟨c,r1,r2,r3,r4,r5,r6,r7,r8⟩:=Runs.app.mp hr;dsimp at r2 r3 r4 r5 r6 r7 r8;subst r2 r5;let l8:=r8.le;let hz:=h.sz;let aa:=h.le;exact X90 hO hA (p:=p) (n:=k) (v:=v) (q:=p+k) (m:=k') (v':=v') h.kd h.fl (h.mm ma) ?_ ?_ rfl r3 r6 Q0 r4 r7 λB k1 k2 k3 L k5=>?_;·rw[<-Ue,e];simp!
 ·rw[<-Ue,e];simp!
 let e3:QEM.toList=m++(p,k+k',v)::r:=by rw[k3,Array.toList_eraseIdxIfInBounds,Vf4,e,Vfp _ _ Qd,Nat.sub_self,List.set_cons_zero,List.eraseIdx_append_of_length_le Q0,show QBc+1-lg m=1 by omega];rfl
 calc hQ B ⟨k1,k2,L.1.trans h.pm,?_,L.seg Q0 h.sg,aa⟩ ?_;·rw[e3];exact Runs.app.mpr ⟨p,r1.keep L QmT,rfl,by dsimp;omega,k5,by rw[<-Vhs];calc r8.keep L (.inr Qd)⟩
 ·rw[<-V1,<-V1,e3,e];simp[Ub,Ux];omega
def X96{u v:Nat}{Q:Option Unit×Unit->V9->Prop}(h:Rn κ R a₀ t n st)(L:∀B,Rn κ R a₀ t n B->Q QC7 B):wpS Q5 A E s (prL u v) Q st:=by
 unfold prL;calc Vbq (I:=λ_ c B=>c=QC7/\Rn κ R a₀ t n B) ?_ (λc B QZ0=>by rw[h1];calc L B h2) QfP;rintro x c B _ _ ⟨rfl,h'⟩;calc Vu Qv5;split
 ·rename_i q;split;·exact V4 Que
  ·by_cases c:QEM.size>1;·exact Vu (Xx4 hO hA ma h' Q0 λst2 h2 _=>V4 ⟨rfl,h2⟩)
   ·rw[iN0 c]at q;cases q
 calc V4 Que
omit hO hA ma in
def Xx5(h:Rn κ R a₀ t n st)(hn:0<n){Q:ForInStep QQ6->V9->Prop}(L:∀B,Rn κ R a₀ Qaf 0 B->Q QeQ B):wpS Q5 A E s (laL t n) Q st:=by unfold laL;calc Vu (Vg3 (V4 (L _ ⟨h.kd,h.fl,h.pm,?_,λi j _ hj=>by omega,h.le⟩)));show Runs R QG (QjB.push (t,n,0)).toList 0 Qaf;rw[Vcx];calc Runs.app.mpr ⟨t,h.rn,rfl,hn,h.sg,rfl⟩
def Xx6{u:Nat}(h:Rn κ R a₀ t n st)(hn:0<n){Q:ForInStep QQ6->V9->Prop}(L:∀B,Rn κ R a₀ Qaf 0 B->Q QeQ B):wpS Q5 A E s (bhL u t n) Q st:=by
 unfold bhL;calc Vu Qv5;split;·calc Vu (X96 hO hA ma h λst2 h2=>?_);calc Vu (Vg3 ?_);calc Xx5 ?_ hn L;calc⟨h2.kd,h2.fl,h2.pm,?_,h2.sg,h2.le⟩;show Runs R QSK ((Us st2).modify _ _).toList 0 t;rw[Array.toList_modify];exact h2.rn.pw
 ·calc Xx5 h hn L
def X97{m:Nat}{Q:Option Unit×Nat->V9->Prop}(h:Rn κ R a₀ 0 0 st)(hQ:∀B,Rn κ R a₀ a₀.size 0 B->Q (yy,a₀.size) B):wpS Q5 A E s (rnL a₀.size m) Q st:=by
 unfold rnL;exact Vbq (I:=λx c B=>∃t,c=(yy,t)/\x<=t/\Rn κ R a₀ t 0 B) ?_ (λc B ⟨t,h1,h2,h3⟩=>?_) ⟨0,rfl,Vi _,h⟩
 ·rintro x c B _ hx ⟨t,rfl,h1,h2⟩;dsimp;let ab:=h2.le;by_cases c:t ≥ a₀.size
  ·rw[iP0 c];obtain rfl:t=a₀.size:=by omega
   exact V4 (hQ _ h2)
  rw[iN0 c];let hz:t+QwV<=Ql3.size:=by rw[h2.sz];omega
  calc Vu (X93 hO hA (h2.mm ma) hz Q0 ⟨h2.kd,h2.fl,rfl,.rf⟩ λk st2 b1 b2 b3 b4=>?_);dsimp;let L:Rn κ R a₀ t k st2:=⟨b1.kd,b1.fl,b1.kp.1.trans h2.pm,by rw[b1.pn];calc h2.rn.keep b1.kp QmT,b4,by omega⟩;split;·rename_i ck;calc Vu Ql1;calc Vu (X94 hO hA (L.mm ma) (p:=t) (n:=min QwV m) (by rw[L.sz];omega) Q0 ⟨L.kd,L.fl,rfl,.rf⟩ L.sg λac d1 d2=>?_);exact Xx6 hO hA ma ⟨d1.kd,d1.fl,d1.kp.1.trans L.pm,by rw[d1.pn];calc L.rn.keep d1.kp QmT,d2,by omega⟩ Q0 λaa h4=>QNL
  ·exact Xx6 hO hA ma L Q0 λaa h4=>QNL
 let:=h3.le;obtain rfl:t=a₀.size:=by omega
 rw[h1];calc hQ B h3
omit hO hA ma in
def X98{p:Pn}(h:¬ p.size<=1):laP p+1<p.size:=by
 unfold laP;generalize Option.any _ _=c;cases c;·show p.size-2+1<p.size;lia
 ·show p.size-2-1+1<p.size;lia
def X99{Q:Option Unit×Unit->V9->Prop}(h:Rn κ R a₀ a₀.size 0 st)(hQ:∀B,Ql3.Perm a₀->Vc9 B=yy->SegS R Ql3 0 a₀.size->Q QC7 B):wpS Q5 A E s (enL a₀.size) Q st:=by
 let fin:∀B,Rn κ R a₀ a₀.size 0 B->QEM.size<=1->Q QC7 B:=λB h1 h2=>by
  calc hQ B h1.pm h1.fl ?_;let L:=h1.rn;rw[<-V1]at h2;cases e:QEM.toList with
  |nil=>rw[e]at L;rw[<-L];exact λi j _ hj=>by omega|cons x l=>
   rw[e]at L h2;cases l with
   |cons y l=>simp! at h2|nil=>let⟨g1,g2,g3,g4⟩:=L;rw[g1]at g3;rwa [<-g4,Vgn]
 unfold enL;exact Vbq (I:=λx c B=>c=QC7/\QEM.size<=max 1 (a₀.size-x)/\Rn κ R a₀ a₀.size 0 B) ?_ (λc B Qd4=>by rw[h1];calc fin B h3 Q0) ⟨rfl,?_,h⟩
 ·rintro x c B _ hx ⟨rfl,h1,h2⟩;calc Vu Qv5;by_cases c:QEM.size<=1;·rw[iP0 c];exact V4 (fin B h2 c)
  ·rw[iN0 c];exact Vu (Xx4 hO hA ma h2 (X98 c) λst2 h3 h4=>V4 ⟨rfl,by omega,h3⟩)
 let:=h.rn.le;rw[V1]at this;omega
def Yaa{Q:Unit->V9->Prop}(hk:Vaz st=κ)(hf:Vc9 st=yy)(hp:Us st=#[])(L:Vt st=a₀)(hQ:∀B,Vc9 B=yy->Srt QC2 a₀.toList Ql3.toList->Q () B):wpS Q5 A E s sortRuns' Q st:=by rw[X95];calc Vu Qv5;rw[L];calc Vu (X97 hO hA ma ⟨hk,hf,by rw[L],by rw[hp];rfl,λi j _ hj=>by omega,by omega⟩ λaa h1=>?_);calc Vu (X99 hO hA ma h1 λst2 h2 h3 h4=>V4 (hQ st2 h3 ⟨Veh.mp h2,?_⟩));let hz:QSK.size=a₀.size:=h2.size_eq;let:=(Xfa (R:=R) (a:=Vt st2) (p:=0) (n:=a₀.size) Q0).mp h4;rwa [Vgz,Va9 QuS]at this
universe e
universe Z
universe e
section
namespace Z
open PySem PySem.SetTable PySem.Spec PyProof.Rows
section
variable{prog:V3}{w:Ua}{A:Uz}{E:VP}{s:Vc}
theorem SetR(prog:V3)(w:Ua)(h:Heap)(a:Addr)(ld:Bool)(ps:List Qf1):Prop:=∃o es ep t,h.get? a=yz o/\o.ExactSet/\o.data=.set es ep t/\Mem prog w h es ps/\TabG t es/\t.led=ld
def X1h{h h':Heap}{k:LI}{x a:Addr}{o:Obj}{es:Array Qw0}{ep:Nat}{t:Uw}(hx:QK.is h k x)(ho:h.get? a=yz o)(hd:o.data=.set es ep t)(sb:Vab a h h'):QK.is h' k x:=by
 let⟨o',its,m,B,hc,L,hi⟩:=hx;calc⟨o',its,m,?_,hc,L,hi⟩;rw[sb.2 x ?_];·exact B
 ·rintro rfl;rw[ho]at B;cases B;rw[hd]at L;cases L
def Mem.keep{h h':Heap}{a:Addr}{o:Obj}{es B:Array Qw0}{ep:Nat}{t:Uw}{ps:List Qf1}(m:Mem prog w h B ps)(L:h.get? a=yz o)(hd:o.data=.set es ep t)(sb:Vab a h h'):Mem prog w h' B ps:=
 ⟨m.1,λp hp=>X1h (m.2 p hp) L hd sb⟩
def Mem.len{h:Heap}{es:Array Qw0}{ps:List Qf1}(m:Mem prog w h es ps):es.size=lg ps:=by rw[<-V1,m.1,Ve]
def reo{es:Array Qw0}{t:Uw}{B:Array Nat}{Q:Array Qw0×Uw->Vc->Prop}(hz:QN4.size=es.size)(h:Q (B.filterMap QHC,t) s):
  Vg Q5 A (do
   let yz (t,B):=yz (t,B)|Vd7 "internal:set-table-without-room"
   let es':=B.filterMap QHC
   if es'.size != es.size then Vd7 "internal:set-table-lost-an-element"
   pure (es',t)) Q E s:=by
 dsimp;rw[hz,bne_self_eq_false];simp[Vs,if_false];calc Vd h
def Xs5{a:Addr}{ld:Bool}{ps:List Qf1}{k:LI}{x:Addr}{Q:Bool->Vc->Prop}(hu:A.units<Vbw)(S:SetR prog w s.heap a ld ps)(hk:QK.is s.heap k x)(hn:Qp5<1200)
  (h:∀h' af,Vab a s.heap h'->SetR prog w h' a ld af->(k∈ps.map Qb/\af=ps)\/(k ∉ ps.map Qb/\af.Perm QXV)->Q (decide (k ∉ ps.map Qb)) Q65):
  Vg Q5 A (setAdd a Q47) Q E s:=by
 let⟨o,es,ep,t,ho,ah,hd,m,T,hl⟩:=S;let ln:=m.len;unfold setAdd setAddHashed setAddHashedIn;calc U2 (Va (QK.pyHash hu hk (U2 (Va QMC))));dsimp;rw[show byScan (U1 x) es=yw from rfl];simp[Vs,if_false];let⟨N,n1,n2,n3⟩:=Xse T.tb T.mg.cy (by rw[T.sz];let:=T.room;omega) Qv0;unfold setSearch;calc Va (Yeq (s:=Qh2) hu ho hd T m hk n1 n2 n3 ?_ ?_ N 0 100000 yy Q0 ?_ rfl (λn _ _ au=>aB0 au QW7));·intro aa r _;let:=h s.heap ps QSU ⟨o,es,ep,t,ho,ah,hd,m,T,hl⟩ (.inl ⟨aa,rfl⟩);rw[decide_eq_false (λz=>z aa)]at this;exact Vd this
 ·intro aa;dsimp;calc Va QMC;dsimp;let⟨p1,p2,p3,p4,p5,p6⟩:=Xwy T.tb QpM;let own:=X4o (x:=U1 x) T.tb T.sz T.own n3;let am:QsY.1.moves=t.moves:=rfl;rw[T.sz]at p2 p6;let il:=Xb7 es QsY.2 QNB p6;generalize t.put Q79=pj at p1 p2 p3 p4 p5 p6 own il am;let⟨t1,q⟩:=pj;dsimp at p1 p2 p3 p4 p5 p6 own il am |-;generalize aw:insertAt es q QNB=B at own il |-;let z1:B.size=es.size+1:=by
   rw[<-V1,il];simp!;omega
  rw[p4,T.pl];simp[if_true];calc Va (X09 (s:=Qh2) hk ?_);simp[if_true];let ac:B.size<=V8:=by rw[z1,Va7];omega
  calc Va (Vhd (s:=Qh2) ho hd ?_ ac);let ag:=Vdz s.heap a QPQ;let g1:Qf4.get? a=yz {o with data:=.set B (ep+1) t1}:=by let:=Vda QPQ ho (by rw[putSet_of B t1 hd];rfl);rw[putSet_of B t1 hd]at this;exact this
  let pm:B.toList.Perm (QXV.map Xfw):=by
   rw[il,Vak,<-m.1];let:(es.toList.take q++es.toList.drop q++[QNB]).Perm (es.toList++[QNB]):=by rw[Ut]
   calc List.Perm.trans ?_ this;rw[Uj];exact Vh7 _ (List.perm_append_comm (l₁:=[_]))
  let⟨an,ai,ak⟩:=Xcb pm _ rfl;let m1:Mem prog w s.heap B an:=⟨ak,λp hp=>by
   rcases Um.mp (ai.mem_iff.mp hp) with c|c;·exact m.2 p c
   ·rw[Vw]at c;subst c;calc hk⟩
  let al:=m1.keep ho hd ag;by_cases c:QRH*5<t.mask*3
  ·let tf:t1.tooFull=false:=by unfold Vh3;rw[Xbn p1,p2,p3];exact decide_eq_false Q0
   rw[tf];simp[Vct,Vs,if_false];let T1:TabG t1 B:=⟨⟨p1,by rw[p4];calc T.pl,by rw[p2,z1],by rw[p3];calc T.mg,by rw[z1,p3];calc c,by omega⟩,own⟩;let:=h _ an ag ⟨_,B,ep+1,t1,g1,ah,rfl,al,T1,p5.trans hl⟩ (.inr ⟨aa,ai⟩);rw[decide_eq_true aa]at this;exact Vd this
  let tf:t1.tooFull=true:=by unfold Vh3;rw[Xbn p1,p2,p3];exact decide_eq_true Q0
  rw[tf];simp[Viv,Vdt,if_true];let⟨u1,u2,u3⟩:=Xsh T.mg T.room Q0 c;unfold setRelay;let av:t1.fits B.size=true:=by
   let r:=T.room;let le:es.size+1<=t.mask:=by rcases T.mg with e|e|e|e|e|e<;>rw[e]at r |- <;> omega
   unfold Vho;rw[Xbn p1,p2,z1,p3];simpa using le
  calc Va (Va (Va6 g1 rfl av ?_));dsimp;rw[iN0 Qf9];let⟨t2,ab,e,T2,h1,h2,h3,ax,h4,h5,h6,h7,_⟩:=X3e (f:=t1.finger) (v:=t1.movedTo (sizeAbove QBZ-1)) (led:=t1.led) (pl:=t1.plain) u1.cy B QsS;let rl:t1.relaid QcQ QBZ=yz (t2,ab):=e;rw[rl];calc Va (reo h5 ?_);dsimp;generalize ab.filterMap (B[·]?)=L at h5 h6 h7 |-;let ae:L.size<=V8:=by rw[h5];exact ac
  calc Vhd g1 rfl ?_ ae;let g2:(Qf4.update a QgJ).get? a=yz {o with data:=.set L (ep+2) t2}:=by let:=Vda QgJ g1 (by rw[putSet_of L t2 rfl];rfl);rw[putSet_of L t2 rfl]at this;exact this
  let aj:=Vdz Qf4 a QgJ;let⟨ap,ao,aq⟩:=Xcb h6 _ ak;let m2:Mem prog w Qf4 L ap:=⟨aq,λp hp=>al.2 p (ao.mem_iff.mp hp)⟩;let ar:=m2.keep g1 rfl aj;let TT:TabG t2 L:=⟨⟨T2,by rw[h2,p4];calc T.pl,by rw[h4,h5],by rw[h1];calc u1,by rw[h5,z1,h1];calc u2,by omega⟩,h7⟩;let:=h _ ap (ag.trans aj) ⟨_,L,ep+2,t2,g2,ah,rfl,ar,TT,by rw[h3,p5];calc hl⟩ (.inr ⟨aa,ao.trans ai⟩);rw[decide_eq_true aa]at this;exact Vd this
 ·let:=T.mg.le;rw[show turns t.mask=t.mask+15 from rfl]at n1;omega
universe e
universe Z
universe e
section
namespace Z
open PySem PySem.Spec PyProof.Rows L2
section
variable{prog:V3}{w:Ua}{A:Uz}{E:VP}{s:Vc}
def Yab(h:Q (decide (x<y)) s):Vg Q5 A (oneLt' b QPb (.int y u)) Q E s:=by
 cases b with
 |true=>calc PySem.W.kat_lt_int h|false=>calc PySem.W.kat_one _ _ (lt_int (show PySem.W.BoolBack Q _ s from h))
def Yac(L:Vby us xs):∀(ys:LI) (vs:LV) (i:Nat),Vby vs ys->Q QHH s->PySem.W.KatLex prog w A yx (decide QDK) Q (us.zip vs) i s:=by
 induction L with
 |nil=>intro ys vs i B h;cases B<;>exact h|@cons x t us xs L ih=>
  intro ys vs i B h;cases B with
  |nil=>exact h|@cons y u vs ys B=>
   let hl:decide (lg us+1<lg vs+1)=decide QDK:=decide_eq_decide.mpr Nat.add_lt_add_iff_right;simp[Ux,Vgm,hl];simp[ltL]at h;calc PySem.W.kat_cons (wpAny_eqBool_int (PySem.W.kat_go QBS λe=>?_));·rw[iP0 (eq_of_beq e)]at h;exact PySem.W.kat_yes (ih ys vs QX2 B h)
   ·rw[iN0 (λz=>by rw[z,beq_self_eq_true]at e;cases e)]at h;calc PySem.W.kat_no (Yab h)
universe e
theorem Row(h:Heap)(k:LI)(u:Vb):Prop:=∃a us,u=.ref a/\Vd5 h a us.toArray/\Vby us k
def Row.keep(r:Row h k u)(kp:∀b o,h.get? b=yz o->h'.get? b=yz o):Row h' k u:=by let⟨a,us,e,⟨o,B,L⟩,hi⟩:=r;calc⟨a,us,e,⟨o,kp _ _ B,L⟩,hi⟩
def Xd4:∀ {xs:LD} {ks:LL},Xab xs=yz ks->xs=ks.map λk=>.tup Qm1
 |[],ks,h=>by cases h;rfl|x::xs,ks,h=>by
  cases x with
  |tup ds=>
   simp[Xab]at h;cases e:Xf ds with
   |none=>rw[e]at h;cases h|some k=>
    rw[e]at h;dsimp at h;cases e2:Xab xs with
    |none=>rw[e2]at h;cases h|some r=>rw[e2]at h;cases h;rw[Yh e,Xd4 e2];rfl
  |_=>cases h
inductive RowsV(h:Heap):LL->LV->Prop
 |nil:RowsV h [] []
 |cons {k:LI} {u:Vb} {ks:LL} {vs:LV}:Row h k u->RowsV h ks vs->RowsV h (k::ks) (u::vs)
def X1i{h:Heap}{ks:LL}{its:LV}(r:RowsV h ks its):ks.all QrP=yx->∃fs,PySem.W.KatTups h its fs/\Qjf=lg its/\∀v∈fs,∃n t,v=Vfs n t:=by
 induction r with
 |nil=>exact λ_=>⟨[],.nil,rfl,λv B=>by cases B⟩|cons hr _ ih=>
  intro L;rw[Vaw,bA0]at L;let⟨a,us,rfl,⟨o,ho,hc,n,hd⟩,hi⟩:=hr;let⟨fs,f1,f2,f3⟩:=ih L.2;cases hi with
  |nil=>simp! at L|cons x t aa=>
   calc⟨.int x t::fs,.cons ho hc hd rfl f1,by simp![f2],λv B=>?_⟩;rcases Vr.mp B with rfl|B;·exact⟨x,t,rfl⟩
   ·calc f3 v B
inductive FsV:LL->List (OV)->Prop
 |nil:FsV [] []
 |non {ks:LL} {fs:List (OV)}:FsV ks fs->FsV ([]::ks) (yy::fs)
 |som {x:Int} {t:Tok} {k:LI} {ks:LL} {fs:List (OV)}:FsV ks fs->FsV ((x::k)::ks) (yz QPb::fs)
def RowsV.of{α:Type}{h:Heap}{f:α->LI}{g:α->Vb}:∀(l:List α),(∀q∈l,Row h (f q) (g q))->RowsV h QqD QeS
 |[],_=>.nil|q::l,hr=>.cons (hr q V6) (RowsV.of l λp B=>hr p Q17)
def FsV.all{ks:LL}{fs:List (OV)}(f:FsV ks fs):(fs.all λx=>x.isSome)=ks.all QrP:=by
 induction f with
 |nil=>rfl|non _ ih=>simp!|som _ ih=>simp![ih]
section
variable{M:Model}{A:Uz}{E:VP}{s:Vc}
def X1j {k:LI} {u:Vb} (r:Row s.heap k u) {Q:VP} (h:Q Qx3 s):Vg M A (typeOf u) Q E s:=by let⟨a,us,rfl,⟨o,B,L,_⟩,_⟩:=r;calc Vcm (T:="tuple") ⟨o,B,L⟩ h
def Xrc{ks:LL}{vs:LV}(r:RowsV s.heap ks vs):∀ {Q:List (OV)->Vc->Prop},(∀fs,FsV ks fs->Q fs s)->Vg M A (vs.mapM firstOfTuple') Q E s:=by
 induction r with
 |nil=>intro Q h;rw[List.mapM_nil];exact Vd (h _ .nil)|cons hr _ ih=>
  intro Q h;rw[List.mapM_cons];calc Va ?_;let⟨a,us,rfl,⟨o,L,hc,n,hd⟩,hi⟩:=hr;rw[PySem.W.kas_first_eq];calc Va QOD;rw[iN0 Q1];calc Va (Vgs L hd Qz0);cases hi with
  |nil=>calc Va (ih λfs B=>Vd (h _ (.non B)))|cons x t aa=>calc Va (ih λfs B=>Vd (h _ (.som B)))
def Xu6{ks:LL}{vs:LV}(r:RowsV s.heap ks vs)(h2:0<lg ks)(aa:(ks.all λk=>!k.isEmpty)=yw){Q:Vd4->Vc->Prop}(h1:Q general' s)(h3:Q oneType' s):Vg M A (keyKind' vs.toArray) Q E s:=by
 rw[PyProof.Rows.kat_kind_eq,List.mapM_toArray,map_eq_pure_bind];calc Va (Va (Xrc r λfs hf=>Vd ?_));let B:(fs.toArray.all λx=>x.isSome)=false:=by rw[List.all_toArray,hf.all];exact aa
 rw[B];simp[Vs,if_false];split;·exact Vd h1
 ·rw[oneTypeOnly'_eq,List.mapM_toArray,map_eq_pure_bind];let ty:∀v∈vs,∀(Q':VP),Q' Qx3 s->Vg M A QVa Q' E s:=by
   clear h1 h3 hf B aa;induction r with
   |nil=>intro v L;cases L|cons hr _ ih=>
    intro v L Q' hq;rcases Vr.mp L with rfl|L;·exact X1j hr hq
    ·rename_i ab ac _ _;cases hk:ab with
     |nil=>subst hk;rename_i r';cases r';cases L|cons _ _=>exact ih (by rw[hk];simp!) v L Q' hq
  calc Va (Va (Va (PySem.W.kas_mapM (r:=Vce "tuple") _ ty Qz0)));split
  ·split;·exact Vd (Vd h3)
   ·exact Vd Qlg
  calc Vd Qlg
universe e
def Xh6:∀a:LI,ltL a a=yw
 |[]=>rfl|x::a=>by simp![ltL,Xh6 a]
def Xg3:∀a b c:LI,ltL a b=yx->ltL b c=yx->ltL a c=yx
 |[],[],_=>λh _=>by cases h|[],_::_,[]=>λ_ h=>by cases h|[],_::_,_::_=>λ_ _=>rfl|_::_,[],_=>λh _=>by cases h|_::_,_::_,[]=>λ_ h=>by cases h|x::a,y::b,z::c=>λh1 h2=>by
  simp[ltL]at h1 h2 |-;split at h1
  ·rename_i e;subst e;split at h2;·rename_i e;subst e;rw[iP0 rfl];exact Xg3 a b c h1 h2
   ·rename_i e;rw[iN0 e];exact h2
  rename_i e;split at h2;·rename_i e2;subst e2;rw[iN0 e];exact h1
  ·rw[decide_eq_true_eq]at h1 h2;rw[iN0 Q0];calc decide_eq_true Q0
def Xh7:∀a b:LI,a≠b->ltL a b=yw->ltL b a=yx
 |[],[]=>λh _=>aB0 rfl h|[],_::_=>λ_ h=>by cases h|_::_,[]=>λ_ _=>rfl|x::a,y::b=>λh h1=>by
  simp[ltL]at h1 |-;split at h1;·rename_i e;subst e;rw[iP0 rfl];exact Xh7 a b (λz=>h QCe) h1
  ·rename_i e;rw[decide_eq_false_iff_not]at h1;rw[iN0 QxZ];calc decide_eq_true Q0
def Xkg{a b:LI}(h:ltL a b=yx):ltL b a=false:=by
 cases e:ltL b a with
 |false=>rfl|true=>let:=Xg3 _ _ _ h e;rw[Xh6]at this;cases this
def Xs6{a b c:LI}(h1:ltL b a=yw)(h2:ltL c b=yw):ltL c a=false:=by
 cases e:ltL c a with
 |false=>rfl|true=>
  by_cases q:c=b;·subst q;rw[e]at h1;cases h1
  ·rw[Xg3 _ _ _ (Xh7 _ _ q h2) e]at h1;cases h1
private abbrev leL(a b:LI):Prop:=ltL b a=yw
theorem WkL(l:LL):Prop:=l.Pairwise leL
def Yad{α:Type}(f:α->LI):∀ {l:List α},lg l<2->WkL QqD
 |[],_=>.nil|[_],_=>Vbx _ _
def Xlr:∀ {l m:LL},l.Perm m->WkL l->WkL m->l=m
 |[],m,p,_,_=>(List.Perm.nil_eq p)|a::l,[],p,_,_=>aB0 p.length_eq QA|a::l,b::m,p,h1,h2=>by
  unfold WkL at h1 h2;rw[Vai]at h1 h2;let e:a=b:=by
   rcases Vr.mp (p.mem_iff.mp V6) with e|L;·exact e
   ·rcases Vr.mp (p.mem_iff.mpr V6) with e|hb;·exact e.symm
    ·let B:ltL b a=false:=h1.1 b hb;let x2:ltL a b=false:=h2.1 a L;exact Vgg λq=>by rw[Xh7 _ _ q x2]at B;cases B
  subst e;rw[Xlr ((List.perm_cons a).mp p) h1.2 h2.2]
def Xg4(k:LI):∀l,Qlc.Perm (k::l)
 |[]=>Vcc _|y::r=>by
  unfold Xle;split;·exact Vcc _
  ·calc((Xg4 k r).cons y).trans QgZ
def Xas:∀l,Qec.Perm l
 |[]=>Vcc _|k::r=>(Xg4 k _).trans ((Xas r).cons k)
def Xs7(k:LI):∀l,WkL l->WkL Qlc
 |[]=>λ_=>Vbx _ _|y::r=>λh=>by
  unfold WkL at h;rw[Vai]at h;unfold Xle;split
  ·rename_i c;calc Vai.mpr ⟨λz hz=>?_,Vai.mpr h⟩;rcases Vr.mp hz with rfl|hz;·exact Xkg c
   ·exact Xs6 (Xkg c) (h.1 z hz)
  rename_i c;calc Vai.mpr ⟨λz hz=>?_,Xs7 k r h.2⟩;rcases Vr.mp ((Xg4 k r).mem_iff.mp hz) with rfl|hz;·exact Vem.mpr c
  ·calc h.1 z hz
def Xls:∀l,WkL Qec
 |[]=>Vek|k::r=>Xs7 k _ (Xls r)
def Yae{l m:LL}(p:l.Perm m)(h:WkL l):l=Xy m:=Xlr (p.trans (Xas m).symm) h (Xls m)
def Xx7{us:LV}{k:LI}(h:Vby us k):∀ {k'},Vby us k'->k=k':=by
 induction h with
 |nil=>intro k' h;cases h;rfl|cons x t _ ih=>intro k' h;cases h with|cons _ _ h=>rw[ih h]
def Row.same{h:Heap}{k k':LI}{u:Vb}(r:Row h k u)(r':Row h k' u):k=k':=by let⟨a,us,rfl,⟨o,ho,_,n,hd⟩,hi⟩:=r;let⟨a',ab,e,⟨o',B,_,n',L⟩,aa⟩:=r';cases e;rw[ho]at B;cases B;rw[hd]at L;cases L;exact Xx7 hi aa
open Classical in
abbrev rk(h:Heap)(u:Vb):LI:=if q:∃k,Row h k u then choose q else []
def Xn3{h:Heap}{k:LI}{u:Vb}(r:Row h k u):rk h u=k:=by let q:∃k,Row h k u:=⟨k,r⟩;unfold rk;rw[dif_pos q];calc(Classical.choose_spec q).same r
section
variable{prog:V3}{w:Ua}{A:Uz}{E:VP}{s:Vc}
def X1k(h:Heap):Ord λx y=>ltL (rk h x.1) (rk h y.1):=⟨λa b=>Xs6 a b,λa=>Xkg a⟩
theorem Kd3(κ:Vd4):Prop:=κ=tuples' yx\/κ=general'\/κ=oneType'
def Xx8{κ:Vd4}(hu:A.units<Vbw)(ag:Kd3 κ):Xg0 prog w A E s κ (λx y=>ltL (rk s.heap x.1) (rk s.heap y.1)) λx=>∃k,Row s.heap k x.1:=by
 rintro ⟨x,x'⟩ ⟨y,y'⟩ st Q ⟨k,hx⟩ ⟨k',hy⟩ hk hQ;dsimp at hx hy hQ;rw[Xn3 hx,Xn3 hy]at hQ;rw[lt'_eq];calc Vu (wpS_get (Vu ?_));rw[hk];let⟨a1,ah,rfl,⟨o1,B,ac,n1,L⟩,hi1⟩:=hx;let⟨a2,af,rfl,⟨o2,aa,ae,n2,ab⟩,hi2⟩:=hy;calc wpS_lift (Vds ?_);let fin:(λ(c:Bool) s'=>s'=s/\wpS Q5 A E s (match (Except.ok c:Except Vb Bool) with|.ok b=>pure (yz b)|.error e=>do modify (λs=>Vii Qng Q8E QCE (gallopOf s) QOX);pure yy) Q st) (ltL k k') s:=⟨rfl,V4 hQ⟩;rcases ag with rfl|rfl|rfl;·calc PySem.W.kat_lt B L aa ab ?_;simp[Vq];exact Yac hi1 k' af 0 hi2 fin
 ·exact Xoz (b:=yw) hu QhE QlC hi1 hi2 fin
 calc Xoz (b:=yx) hu QhE QlC hi1 hi2 fin
private noncomputable abbrev Kvs:=List (LI×Vb×Vb)
def Xs8(qs:Kvs):Q71.toList=qs.map Qx1:=by
 rw[Array.toList_zip];induction qs with
 |nil=>rfl|cons q qs ih=>show _::_=_::_;congr 1
def X1l{β:Type}{qs:Kvs}{f:V9->Sem β}{Q:β->Vc->Prop}(hu:A.units<Vbw)(hq:∀q∈qs,Row s.heap q.1 q.2.1)(h0:0<lg qs)
  (h:∀st (rs:Kvs),rs.Perm qs->WkL QCH->QG.map Qx1=(rs.map (·.2.2)).toArray->Vc9 st=yy->Vg Q5 A (f st) Q E s):
  Vg Q5 A (keyKind' (qs.map QiY).toArray >>= fun κ=>QxB >>= λx=>f x.2) Q E s:=by
 let run:∀ κ,Kd3 κ->Vg Q5 A (QxB >>= λx=>f x.2) Q E s:=fun κ aa=>by
  let mm:∀x∈Q71.toList,∃q∈qs,x=q.2:=λx hx=>by rw[Xs8]at hx;let⟨q,h1,h2⟩:=Vm.mp hx;exact⟨q,h1,h2.symm⟩
  let ez:=Xs8 qs;generalize (qs.map λq:LI×Vb×Vb=>q.2.1).toArray.zip (qs.map λq=>q.2.2).toArray=a0 at ez mm |-;let sr:=Yaa (prog:=prog) (w:=w) (A:=A) (E:=E) (s:=s) (κ:=κ) (X1k s.heap) (Xx8 hu aa) (a₀:=a0) (λx hx=>?m) (st:=Vii κ a0 #[] 7 yy) rfl rfl rfl rfl
   (Q:=λ_ st=>∃rs:Kvs,rs.Perm qs/\WkL (rs.map λq=>q.1)/\QG.map Qx1=(rs.map λq=>q.2.2).toArray/\Vc9 st=yy) λst hf hs=>?f
  unfold wpS at sr;exact Va (Vp sr (λr s' hr=>?r) λ_ _ e=>e)
  case m=>let⟨q,h1,rfl⟩:=mm x hx;exact⟨q.1,hq q h1⟩
  case f=>
   let⟨p,pw⟩:=hs;rw[ez]at p;let⟨rs,L,r2⟩:=Xcb p qs rfl;calc⟨rs,L,?_,?_,hf⟩;·rw[r2,Vhg]at pw;unfold WkL;rw[Vhg];exact pw.imp_of_mem λ{a b} ha hb z=>?_;let z':ltL (rk s.heap b.2.1) (rk s.heap a.2.1)=false:=z;rw[Xn3 (hq a (L.mem_iff.mp ha)),Xn3 (hq b (L.mem_iff.mp hb))]at z';exact z'
   ·apply Array.toList_inj.mp;rw[Array.toList_map,r2,Var];rfl
  case r=>let⟨rfl,rs,L,r2,r3,r4⟩:=hr;exact h r.2 rs L r2 r3 r4
 let B:∀(M:Model) (h:Heap) (v:Vb),(∃n t,v=Vfs n t)->PySem.W.Looks M h QVa (.type "int"):=λM h v z=>by let⟨n,t,rfl⟩:=z;exact .now
 let rv:=RowsV.of (f:=λq:LI×Vb×Vb=>q.1) (g:=λq=>q.2.1) qs hq;cases en:(QEH.all λk=>!k.isEmpty) with
 |true=>let⟨fs,f1,f2,f3⟩:=X1i rv en;calc Va (PySem.W.kat_kind (T:=.type "int") f1 (by rw[f2,Ve];calc h0) (λv hv=>B _ _ v (f3 v hv)) rfl (run _ QJ0))|false=>calc Va (Xu6 rv (by rw[Ve];calc h0) en (run _ QUb) (run _ QTb))
def Row.ne {h:Heap} {a:Addr} {xs:AV} {n:Nat} {k:LI} {u:Vb} {h':Heap} (ho:h.get? a=yz (Vam "list" xs n)) (kp:∀b o,b≠a->h.get? b=yz o->h'.get? b=yz o) (r:Row h k u):Row h' k u:=by let⟨b,us,e,⟨o,B,L⟩,hi⟩:=r;calc⟨b,us,e,⟨o,kp _ _ QAS B,L⟩,hi⟩;rw[z,ho]at B;cases B;calc aB0 (show Vce "list"=Vce "tuple" from L.1) Q1
abbrev X1m(x e:Nat):Sem PySem.Fin:=if x != e then do
  rule "list.sort.modified"
  (raiseError "ValueError" "list modified during sort" : Sem PUnit)
  ret .none
 else ret .none
abbrev X1n(a:Addr)(e:Nat)(st:V9):Sem PySem.Fin:=do
 let x <- seqEpoch a
 Builtin.List.listUpdate Qt λ_=>QG.map Qx1
 match Vc9 st with
 |some v=>do
  rule "list.sort.comparison-raised"
  (throw v:Sem PUnit)
  X1m x e|_=>X1m x e
def Xx9 {a:Addr} {qs:List QGE} {n:Nat} {P:PySem.Fin->Vc->Prop} (hu:A.units<Vbw) (ho:s.heap.get? a=yz (Vam "list" Qa.toArray n)) (hl:QbS<100000) (hq:∀q∈qs,Row s.heap q.1 q.2)
  (h:∀rs:List QGE,rs.Perm qs->WkL QCH->P (.done (.ret .none)) {s with heap:=sortedHeap s.heap a Qa QZF.toArray}):Vg Q5 A (Vbd.«list.sort» QOa) P E s:=by
 let sl:=Va7;let L:(qs.map Qx1).toArray.size<=V8:=by rw[Vq,Ve];omega
 obtain⟨e1,o1⟩:∃e1,(s.heap.update a (Vae λ_=>(#[]:AV))).get? a=yz (Vam "list" #[] e1):=⟨_,get?_update_seq ho λ_=>#[]⟩;let up:∀b o,(s.heap.update a (Vae λ_=>QaI)).get? b=yz o->QSW.get? b=yz o:=λb o q=>Vf _ QCP;let kp:∀b o,b≠a->s.heap.get? b=yz o->QSW.get? b=yz o:=λb o hb q=>up b o ((Heap.get?_update_ne _ _ _ _ hb).trans q);let o2:=up a _ o1;rw[list_sort_plain];calc Va (Vgs ho rfl (Va (listUpdate_at ho rfl (Va (seqEpoch_at o1 rfl (Va (Viy (Va (Vf5 Qtg QS8)) L)))) L QS8)));change Vg Q5 A _ P E QF9;let fin:∀(st:V9) (rs:List QGE),rs.Perm qs->WkL QCH->QG.map Qx1=QZF.toArray->Vc9 st=yy->Vg Q5 A (X1n a e1 st) P E QF9:=λst rs r1 r2 r3 r4=>by unfold X1n;calc Va (seqEpoch_at o2 rfl (Va (listUpdate_at o2 rfl ?_ QS8 (by rw[r3,Vq,Ve,r1.length_eq];omega))));rw[r3,r4];dsimp;unfold X1m;rw[bne_self_eq_false];exact Vd (h rs r1 r2)
 let zz:(qs.map Qx1).toArray.size=lg qs:=by rw[Vq,Ve]
 by_cases q:QbS<2
 ·let B:(qs.map Qx1).toArray.size<2:=by rw[zz];exact q
  dsimp;rw[iP0 B,iP0 B];calc Va Qz0;rw[StateT.run_pure];calc Va (Vd (fin _ qs QjT ?_ ?_ rfl));·exact Yad _ q
  ·show((qs.map Qx1).toArray.zip Qa.toArray).map Qx1=_;apply Array.toList_inj.mp;rw[Array.toList_map,Array.toList_zip,List.map_snd_zip Qd]
 ·let B:¬ (qs.map Qx1).toArray.size<2:=by rw[zz];exact q
  dsimp;rw[iN0 B,iN0 B];let e2:QDH.map (λq:LI×Vb×Vb=>q.2.1)=qs.map Qx1:=by rw[Var];rfl
  let e3:QDH.map (λq:LI×Vb×Vb=>q.2.2)=qs.map Qx1:=by rw[Var];rfl
  let:=X1l (prog:=prog) (w:=w) (A:=A) (E:=E) (s:=QF9) (qs:=qs.map λq=>(q.1,q.2,q.2)) (Q:=P) (f:=X1n a e1) hu (λp hp=>by
    let⟨q,aa,rfl⟩:=Vm.mp hp;calc QOc.ne ho kp) QtS λst rs r1 r2 r3 r4=>by
    let⟨ts,t1,rfl⟩:=Xcb r1 _ rfl;rw[Var]at r2 r3;exact fin st ts t1 r2 r3 r4
  rw[e2,e3]at this;calc this
def Xrd{l:Addr}{vs:LV}{Q:LV->Vc->Prop}(hl:s.heap.IsList l vs.toArray\/Vd5 s.heap l vs.toArray)(B:Qc3<=V8)
  (h:Q vs Qz1):Vg Q5 A QqV Q E s:=by
 rcases hl with hl|hl;·exact collect_list hl h B
 ·calc Xiw hl B h
def Xya{l:Addr}{qs:List QGE}{Q:VP}(hu:A.units+9<Vbw)(hl:s.heap.IsList l Qa.toArray\/Vd5 s.heap l Qa.toArray)(h5:QbS<100000)(hq:∀q∈qs,Row s.heap q.1 q.2)
  (h:∀rs:List QGE,rs.Perm qs->WkL QCH->Q QqJ {s with heap:=sortedAll s.heap Qa QZF.toArray}):Vg Q5 A QxC Q E s:=by
 let sl:=Va7;let B:Qa.length<=V8:=by rw[Ve];omega
 let sz:(Qn.update s.heap.objs.size (Vae (·++Qa.toArray))).objs.size=s.heap.objs.size+1:=by rw[Vh2,size_push']
 let oL:QdU.get? Qi0=yz QZ5:=sz▸Vo _ rfl;let L:∀b o,s.heap.get? b=yz o->QdU.get? b=yz o:=λb o q=>Vf _ ((Heap.get?_update_ne _ _ _ _ (Ul Qdh)).trans QCP);calc Vep kind_sorted plain_sorted entry_sorted QoA ?_;unfold Vbd.«sorted»;calc Va (m:=checkCount "sorted" 1 1 _) (Vd (Va (Xrd hl B (Va (Vf5 ?_ B)))));change Vg _ _ _ _ _ {s with heap:=QR1.push QZ5};rw[sz];calc Va (U2 (Uv Viz QxJ Vih (Xx9 Q48 oL h5 (λq aa=>QOc.keep L) λrs r1 r2=>Ql5) QFT));calc Vd ⟨_,rfl,h rs r1 r2⟩
universe e
private noncomputable abbrev Xlt(k:LI):D:=.tup Qm1
section
variable{X:Cx}{pc:LA}{σ:L2.St}{H:Hp}{s:Vc}{ρ:LR}{S:Sto}{env:En}
theorem Yaf(X:Cx)(ρ:LR)(H:Hp)(k:LI)(u:Vb):Prop:=∃v,RD X.K ρ H QDg v/\RelV v u
def Yag{k:LI}{v:V}{u:Vb}(I:Inv X pc σ H s)(hd:RD X.K ρ H QDg v)(L:RelV v u):Row s.heap k u:=by simp[RD]at hd;let⟨b,zs,rfl,hs,hz⟩:=hd;let B:=hz.ints_of;subst B;cases L;let⟨us,h1,h2,_⟩:=I.tuple hs;calc⟨b,us,rfl,h2,Xaq h1⟩
def Xs9(I:Inv X pc σ H s):∀(ks:LL) (L:LW) (its:LV),RDs X.K ρ H QaX L->Vals L its->∃qs:List QGE,qs.map Qb=ks/\qs.map Qx1=its/\∀q∈qs,Row s.heap q.1 q.2/\Yaf X ρ H q.1 q.2
 |[],L,its,hr,rv=>by simp[Vgk,RDs]at hr;subst hr;cases rv;exact⟨[],rfl,rfl,λq B=>by cases B⟩|k::ks,L,its,hr,rv=>by
  simp[Uh,RDs]at hr;let⟨v,r,rfl,h1,h2⟩:=hr;cases rv with
  |@cons _ u _ us h3 h4=>
   let⟨qs,e1,e2,e3⟩:=Xs9 I ks r us h2 h4;calc⟨(k,u)::qs,by rw[Uh,e1],by rw[Uh,e2],λq B=>?_⟩;rcases Vr.mp B with rfl|B;·exact⟨Yag I h1 h3,v,h1,h3⟩
   ·calc e3 q B
def Xta{f:LI->LI}:∀(rs:List QGE),(∀q∈rs,Yaf X ρ H (f q.1) q.2)->∃zs,RDs X.K ρ H ((rs.map λq=>f q.1).map Xlt) zs/\Vals zs QZF
 |[],_=>⟨[],.nil,.nil⟩|q::rs,h=>by let⟨zs,z1,B⟩:=Xta rs λp L=>h p (V2 _ L);let⟨v,h1,h2⟩:=h q V6;calc⟨v::zs,.cons h1 z1,.cons h2 B⟩
def X1o{E:VP}{l:Addr}{ws:LW}{its:LV}{ks r:LL}(hu:X.A.units+200<Vbw)(I:S0 X pc σ H s ρ S env)(hl:s.heap.IsList l its.toArray\/Vd5 s.heap l its.toArray)(hr:RDs X.K ρ H QaX ws)(ab:Vals ws its)(e3:Xlf ks=yz r):
  Vg Q3 X.A QxC (OkP X pc σ ρ H (.ok Q7 (S++[.lst (r.map Xlt)]))) E s:=by
 let⟨qs,rfl,rfl,hq⟩:=Xs9 I.inv ks ws its hr ab;unfold Xlf at e3;obtain⟨h5,rfl⟩:(lg qs)<100000/\r=Xy (qs.map (·.1)):=by
  by_cases c:(qs.map λq=>q.1).length<100000;·rw[iP0 c,Vx]at e3;rw[Ve]at c;exact⟨c,e3.symm⟩
  ·rw[iN0 c]at e3;cases e3
 exact Xya Q0 hl h5 (λq h=>(hq q h).1) λL r1 r2=>?_;let e4:=Yae (r1.map Qb) r2;let⟨zs,z1,z2⟩:=Xta (f:=id) L λq h=>(hq q (r1.mem_iff.mp h)).2;rw[show(L.map λq=>id q.1)=L.map Qb from rfl,e4]at z1;let⟨e8,aa⟩:=sortedAll_at s.heap Qa Q0a.toArray;let B:s.heap.objs.size<=s.heap.objs.size+1:=Vd6 _;let J:=I.inv.laid (o:=.lst zs) (t':=s.toks) (h':=sortedAll s.heap Qa Q0a.toArray) QdG B
  ⟨by rw[z2.length,Ve,r1.length_eq,Va7];omega,L.map Qx1,e8,z2,by simpa [Vam] using aa⟩
 calc Xa4 J (I.inv.hok.fresh B) I.sr z1
def X1p(hu:X.A.units+200<Vbw):BlR X .sorted QQ2:=by
 intro pc s σ H ρ S env ds vs us E I rd rv B;match ds,rd,B with
 |[],_,B=>cases B rfl|_::_::_,_,B=>cases B rfl|[d],rd,B=>
  let⟨v,rfl,r1⟩:=rd.one;let⟨u,rfl,ru⟩:=rv.one;simp[X2]at B |-;cases e:Xi S d with
  |none=>rw[e]at B;cases B rfl|some xs=>
   rw[e]at B;dsimp at B |-;cases e0:Xf xs with
   |some ns=>
    rw[e0]at B;dsimp at B |-;split at B;·rename_i hz;rw[iP0 hz];let q:=Yh e0;subst q;exact Xxj I e hz r1 ru
    ·cases B rfl|none=>
    rw[e0]at B;dsimp at B |-;cases e2:Xab xs with
    |none=>rw[e2]at B;cases B rfl|some ks=>
     rw[e2]at B;dsimp at B |-;cases e3:Xlf ks with
     |none=>rw[e3]at B;cases B rfl|some r=>dsimp;let q:=Xd4 e2;subst q;let⟨a,ws,its,rfl,hs,hr,L,aa⟩:=I.seqI e r1 ru;calc X1o hu I hs hr L e3
universe e
theorem PwL(l:LL):Prop:=l.Pairwise λa b=>ltL a b=yx
def WkL.pw{l:LL}(h:WkL l)(n:l.Nodup):PwL l:=by unfold PwL;let:=List.pairwise_and_iff.mpr ⟨h,n⟩;calc this.imp λ{a b} QZ0=>Xh7 b a (Ne.symm h2) h1
def PwL.wk{l:LL}(h:PwL l):WkL l:=List.Pairwise.imp (λ{a b} z=>Xkg z) h
def Xlu{l m:LL}(p:l.Perm m)(h1:PwL l)(h2:PwL m):l=m:=Xlr p h1.wk h2.wk
def Xbo(l:LL)(h:l.Nodup):PwL Qec:=(Xls l).pw ((Xas l).nodup_iff.mpr h)
universe Z
universe e
section
namespace Z
open PySem PySem.SetTable PySem.Spec PyProof.Rows L2
def Yah{B:LL}{k:LI}(h:B.Nodup):QqS.Nodup:=by
 unfold ddR;split;·exact h
 ·rename_i c;rw[Vb9];calc⟨h,by simp!,λa ha b L e=>c (by rw[Vw]at L;rw[<-L,<-e];calc ha)⟩
def Xfb(ks:LL):QB4.Nodup:=by
 let:∀(l B:LL),B.Nodup->QgS.Nodup:=λl=>by
  induction l with
  |nil=>intro B h;calc h|cons k l ih=>intro B h;exact ih _ (Yah h)
 calc this ks [] Vg4
def Xtb:∀(l B:LL),lg B<=QgS.length
 |[]=>λB=>Vi _|x::l=>λB=>by
  calc V5 ?_ (Xtb l (ddR B x));unfold ddR;split;·exact Vi _
  ·simp!
def X1q(ks:LL)(i:Nat)(hi:i<lg ks):ddL (ks.take QX2)=ddR QuL QN9:=by unfold ddL;rw[List.take_succ,U7 hi,Vcy];simp![List.getD,hi]
def Yai(ks:LL)(i:Nat):QuL.length<=QB4.length:=by
 let:ks=ks.take i++ks.drop i:=(Ut i ks).symm;unfold ddL
 conv=>rhs;rw[this,Vcy]
 calc Xtb _ _
def Xfc{prog:V3}{w:Ua}{h h':Heap}{k:LI}{x:Addr}(r:QK.is h k x)(e:∀o,h.get? x=yz o->h'.get? x=yz o):QK.is h' k x:=by let⟨o,its,m,B,r⟩:=r;calc⟨o,its,m,e _ B,r⟩
def SetR.mov{prog:V3}{w:Ua}{h h':Heap}{a:Addr}{ld:Bool}{ps:List Qf1}(S:SetR prog w h a ld ps)(e:∀o,h.get? a=yz o->h'.get? a=yz o)(e2:∀p∈ps,∀o,h.get? p.2=yz o->h'.get? p.2=yz o):SetR prog w h' a ld ps:=by let⟨o,es,ep,t,ho,B,hd,m,r⟩:=S;calc⟨o,es,ep,t,e _ ho,B,hd,⟨m.1,λp L=>Xfc (m.2 p L) (e2 p L)⟩,r⟩
section
variable{prog:V3}{w:Ua}{A:Uz}{R:Result->Vc->Prop}{I:Addr}{fp wr:LR}{G:Array GenState->Array GenState->Prop}{n:Nat}{P:Nat->Vb->Prop}{St:Nat->Vc->Prop}{ld:Bool}
def X1r(W:WalksS prog w A.in1 I fp wr G n P St)(Sa:Addr)(hf:Sa ∉ fp)(ks:LL)(xs:LR)(hn:QS7=n)(hP:∀i v,P i v->∃x,v=.ref x/\xs[i]?=yz x)(hx:∀x∈xs,x≠Sa/\x ∉ wr)(hu:A.units+1<Vbw)(hb:QB4.length<1200):
  ∀(k i:Nat) (s:Vc) (ps:List Qf1),n-i=k->i<=n->St i s->SetR prog w s.heap Sa ld ps->Ql6.Perm QuL->(∀p∈ps,∃i:Nat,ks[i]?=yz p.1/\xs[i]?=yz p.2)->(∀(i:Nat) (x:Addr),xs[i]?=yz x->QK.is s.heap QN9 x) ->
   (∀s' L,Moved (Sa::wr) G s s'->SetR prog w s'.heap Sa ld L->(L.map Qb).Perm QB4->(∀p∈L,∃i:Nat,ks[i]?=yz p.1/\xs[i]?=yz p.2)->R QNE s')->Vcq Q5 A (.builtin "set.update.loop" ⟨[.ref Sa,.ref I],[]⟩) R s:=by
 let hw:Sa ∉ wr:=λh=>hf QfZ;let sub:∀b∈wr,b∈Sa::wr:=λb hb=>V2 _ hb;intro k;induction k with
 |zero=>
  intro i s ps hk hi st S p B hr hR;obtain rfl:i=n:=by omega
  calc Va0 Ve2 ?_;rw[Vba Vcv _];show Vg _ A.in1 Qi7 _ _ s;calc Va QpG;show Vg _ A.in1 QTS _ _ s';calc Vd (hR s' ps QaF (S.mov QhI λp hp o e=>?_) (by rwa [<-hn,Vez]at p) B);let⟨j,_,e2⟩:=B p hp;exact m.heap _ o (hx _ Qqg).2 e|succ k ih=>
  intro i s ps hk hi st S p B hr hR;let lt:i<n:=by omega
  calc Va0 Ve2 ?_;rw[Vba Vcv _];show Vg _ A.in1 Qi7 _ _ s;calc Va (W.item i s _ _ lt st λv s' hv ai m=>?_);let⟨x,rfl,ex⟩:=hP i v hv;let aa:∀y∈xs,∀o,s.heap.get? y=yz o->s'.heap.get? y=yz o:=λy hy o e=>m.heap y o (hx y hy).2 e;let S1:=S.mov QhI (λq hq o e=>by let⟨j,_,e2⟩:=B q hq;calc aa _ Qqg o e);show Vg _ A.in1 (Vdp [U1 x] (setAdd Sa Q47) >>= _) _ _ s';let le:=Yai ks i;let pl:Qp5=QuL.length:=by rw[<-p.length_eq,Ve]
  calc Va (U2 (Xs5 (show A.in1.units<Vbw from hu) S1 (Xfc (hr i x ex) (aa x (V7 ex))) Q0 λh' L sb S' q=>?_));let ac:∀q∈L,∃i:Nat,ks[i]?=yz q.1/\xs[i]?=yz q.2:=λz hz=>by
   rcases q with⟨_,rfl⟩|⟨_,q2⟩;·exact B z hz
   ·rcases Um.mp (q2.mem_iff.mp hz) with hz|hz;·exact B z hz
    ·rw[Vw]at hz;subst hz;exact⟨i,by simp![List.getD,show i<lg ks by omega],ex⟩
  calc Vd ⟨Veg Vcv _,ih QX2 _ L Q0 lt (W.frame _ s' _ _ ai Qxc λb hb o e=>?_) S' ?_ ac (λj y ey=>Xfc (Xfc (hr j y ey) (aa y QqZ)) λo e=>?_) λaj ab af ag ah ae=>?_⟩;·rw[sb.2 b (λz:b=Sa=>hf Qpd)];exact e
  ·rw[X1q ks i Q0];unfold ddR;rcases q with⟨q1,rfl⟩|⟨q1,q2⟩;·rw[iP0 QzP];exact p
   ·rw[iN0 QGV];let:=q2.map Qb;rw[Vak]at this;exact this.trans QqO
  ·rw[sb.2 y (hx y QqZ).1];exact e
  calc hR aj ab (Moved.trans W.gtrans (QaF.then_heap Qxc λb o hb e=>?_) af) ag ah ae;rw[sb.2 b (λz:b=Sa=>hb QKV)];calc e
universe e
universe Z
universe e
section
namespace Z
open PySem PySem.SetTable PySem.Spec PyProof.Rows
section
variable{prog:V3}{w:Ua}{A:Uz}{E:VP}{s:Vc}
def Xpn {h:Heap} {ld:Bool} {a:Addr} (e:h.get? a=yz Qv6):SetR prog w h a ld []:=
 ⟨_,#[],0,.fresh 0 0 ld,e,QuF,rfl,⟨rfl,λp L=>by cases L⟩,⟨Xsz ld,λj h x B=>by simp![Ats,SetTable.fresh]at B⟩,rfl⟩
def Xyb(b:Bool){l:Addr}{items:AV}{rs:LL}{xs:LR}{Q:VP}(hh:A.handled=yy)(hu:A.units+9<Vbw)(hl:Xpg b s.heap l items)(hi:items.toList=xs.map U1)(aa:(lg rs)=lg xs)(ab:∀(i:Nat) (x:Addr),xs[i]?=yz x->QK.is s.heap (rs.getD i []) x)(hb:QBe.length<1200)
  (h:∀(h':Heap) (tk:Nat) (ps:List Qf1),SetR prog w h' s.heap.objs.size Q8X ps->Ql6.Perm QBe->(∀p∈ps,∃i:Nat,rs[i]?=yz p.1/\xs[i]?=yz p.2)->QD0->Q QC Qs):
  Vg Q5 A QT7 Q E s:=by
 let⟨lS,St,W,st⟩:=Xs0 (prog:=prog) (w:=w) b hh hl;let hz:items.size=lg rs:=by rw[<-V1,hi,Ve,aa]
 let L:∀x∈xs,x<s.heap.objs.size:=λx hx=>by let⟨i,e⟩:=Ved.mp hx;let⟨o,_,_,ho,_⟩:=ab i x e;exact Vz ho
 exact Xni b hl (R:=λB=>Q QC B) QTa λR' ac=>X1r W s.heap.objs.size QGe rs xs hz.symm (λi v hv=>?_) (λx hx=>⟨Ul QXW,?_⟩) Q48 hb QAU 0 _ [] rfl QS8 st (Xpn Qfc) QmZ (λp hp=>by cases hp) (λi x e=>Xfc (ab i x e) λo ho=>Vf _ (Vf _ ho)) λs' ps m S' p ae=>ac s' ?_
 ·rw[<-Ue,hi,Ud]at hv;cases e:xs[i]? with
  |none=>rw[e]at hv;cases hv|some x=>rw[e]at hv;cases hv;exact⟨x,rfl,rfl⟩
 ·rw[Vao];simp[Vr,Va5,or_false];exact Ul (Vbi QXW)
 let⟨h',tk,rfl,k'⟩:=Xxn m Qgc;calc h _ _ ps S' p ae k'
universe e
universe Z
universe e
section
namespace Z
open PySem PySem.SetTable PySem.Spec PyProof.Rows L2
def X1s{prog:V3}{w:Ua}{ks:LI}{vs:LV}(h:ItemsAre Q01 ks vs):Vby vs ks:=by
 induction h with
 |nil=>calc .nil|@cons k v ks vs h1 _ ih=>let⟨t,rfl⟩:=Vg9 h1;calc .cons k t ih
def Yaj{prog:V3}{w:Ua}{h:Heap}{k:LI}{x:Addr}(r:QK.is h k x):Row h k Q47:=by let⟨o,its,m,B,L,hd,hi⟩:=r;calc⟨x,its.toList,rfl,⟨o,B,L,m,by rw[hd]⟩,X1s hi⟩
section
variable{prog:V3}{w:Ua}{A:Uz}{E:VP}{s:Vc}
def Xkh{Sa:Addr}{ps:List Qf1}{Q:VP}(hh:A.handled=yy)(hu:A.units+9<Vbw)(S:SetR prog w s.heap Sa Q8X ps)(ac:Ql6.Nodup)(hn:Qp5<100000)
  (h:∀(qs:List Qf1) (h':Heap) (tk r e:Nat),qs.Perm ps->PwL QEH->QD0->s.heap.objs.size<=r->h'.get? r=yz (Vam "list" QBC.toArray e)->Q QOP Qs):
  Vg Q5 A (call QQ2 [.ref Sa]) Q E s:=by
 let⟨o,es,ep,t,ho,ae,hd,m,T,hl⟩:=S;let ln:=m.len;calc Vep kind_sorted plain_sorted entry_sorted QoA ?_;unfold Vbd.«sorted»;calc Va (m:=checkCount "sorted" 1 1 _) (Vd (Va (Xix (show A.in1.handled=yy from hh) ho ae hd T.toTab hl λh1 tk kp le=>?_)));let⟨qs,qp,qe⟩:=Xcb (Xcp w Sa ep es) ps m.1;let ev:(Xam w Sa ep es).map Qx1=qs.map λq=>U1 q.2:=by rw[qe,Var];rfl
 rw[ev];let aa:∀q∈qs,Row h1 q.1 (.ref q.2):=λq hq=>(Yaj (m.2 q QmD)).keep kp;let af:QEH.Nodup:=(qp.map Qb).nodup_iff.mpr ac;let lq:=qp.length_eq;let ez:QBC=QJI.map Qx1:=by rw[Var];rfl
 calc Va (Vf5 ?_ (by rw[Va7,Ve];omega));let⟨hp,g,dr,ag,os⟩:=s;replace kp:∀b u,hp.get? b=yz u->h1.get? b=yz u:=kp;replace le:hp.objs.size<=h1.objs.size:=le;rw[ez];generalize B:QJI=ts;show Vg _ _ QM4 _ _ ⟨h1.push Qr5,g,dr,tk,os⟩;let oL:(h1.push Qr5).get? h1.objs.size=yz Qr5:=Vo _ rfl;calc Va (U2 (Uv Viz QxJ Vih (Xx9 (qs:=ts) Q48 oL (by rw[<-B,Ve];omega) (λq hq=>?_) λrs r1 r2=>Ql5) QFT));·rw[<-B]at hq;let⟨p,ab,rfl⟩:=Vm.mp hq;exact(aa p ab).keep λb o q=>Vf _ q
 ·rw[<-B]at r1;let⟨zs,z1,rfl⟩:=Xcb r1 _ rfl;let⟨e3,L⟩:=sortedHeap_at (out:=((zs.map λq=>(q.1,U1 q.2)).map Qx1).toArray) oL;rw[Var]at r2;calc Vd ⟨_,rfl,h zs _ tk _ e3 (z1.trans qp) (WkL.pw r2 ((z1.map Qb).nodup_iff.mpr af)) (λb u hb=>?_) le ?_⟩;·let lb:b<h1.objs.size:=Uk Qeg le;rw[sortedHeap_old QrZ QBG];exact Vf _ QvN
  ·rw[Var]at L |-;calc L
universe e
universe Z
universe e
section
namespace Z
open PySem PySem.Spec PyProof.Rows L2
section
variable{X:Cx}{pc:LA}{σ:L2.St}{H:Hp}{s:Vc}{ρ:LR}{S:Sto}{env:En}{K:Vh}{Da:Addr}
abbrev Xu7(X:Cx)(Da:Addr)(ks:LI):HO:=.ext λh=>SetI X.prog X.w h Da QOF ks
def X5u{ks:LI}{h:Heap}(S:SetI X.prog X.w h Da QOF ks):ObjOk X.prog X.w H h Da Q2W:=
 ⟨S,let ⟨o,_,_,_,ho,_⟩:=S;QyR,λh1 h2 x k=>SetI.keep x k⟩
def Yw:∀l:LI,Xf QQ=yz l
 |[]=>rfl|x::l=>by rw[Uh,Xf,Yw l];rfl
variable{d:Nat}
def Xpo{prog:V3}{w:Ua}:∀ {es:List Qw0},ElemsOf Q01 es->Vby (es.map Qx1) (es.map λe=>Xco e.2)
 |[],_=>.nil|e::es,h=>by let⟨i,t,q⟩:=Xsw h V6;simp[Uh,q];calc .cons i t (Xpo h.tail)
def Xu8{E:VP}{ns ks:LI}(hh:X.A.handled=yy)(I:S0 X pc σ H s ρ S env)(hD:H Da=yz Q2W)(p:ks.Perm QH6)(hz:QH6.length<60):
  Vg Q3 X.A (call QQ2 [.ref Da]) (λw s'=>OkP X pc σ ρ H (Xbs QX S) w s') E s:=by
 let⟨o,es,ep,t,ho,ag,hd,ae,aa,T,hl⟩:=(show SetI X.prog X.w s.heap Da QOF ks from(I.inv.hok Da _ hD).1);calc Vep kind_sorted plain_sorted entry_sorted QoA ?_;unfold Vbd.«sorted»;calc Va (m:=checkCount "sorted" 1 1 _) (Vd (Va (Xix (show X.A.in1.handled=yy from hh) ho ag hd T hl λh1 tk kp le=>?_)));let op:=Xcp X.w Da ep es;let len:QJ6.length<60:=by rw[op.length_eq,<-Ve (f:=λe=>Xco e.2),<-aa,p.length_eq];exact hz
 let B:ElemsOf QeR QJ6:=ae.perm op;let hI:=Xpo B;let pk:QAL.Perm QH6:=(op.map λe=>Xco e.2).trans (aa▸p);generalize QJ6.map Qx1=vs at hI;let lv:Qc3<60:=by rw[hI.length,Ve];exact len
 generalize QAL=ms at hI pk;calc Va QyX;let⟨hp,g,dr,ah,os⟩:=s;replace kp:∀b u,hp.get? b=yz u->h1.get? b=yz u:=kp;replace le:hp.objs.size<=h1.objs.size:=le;show Vg _ _ _ _ _ ⟨h1.push Qh1,g,dr,tk,os⟩;let oL:QkV.get? h1.objs.size=yz Qh1:=Vo _ rfl;show Vg _ _ QM4 _ _ _;exact Va (U2 (Uv Viz QxJ Vih (list_sort_tree oL hI Q0 λout af a1 a2 a3=>⟨_,rfl,Vd Ql5⟩) QFT))
 let ab:af=Xbr QH6:=PySem.W.ksm_same ((a2.trans pk).trans Q8T.symm) a3 (Xhy _);subst ab;let⟨e3,ac⟩:=sortedHeap_at (out:=out) oL;let J:=I.inv.laid (o:=.lst (Qqc.map V.int)) (t':=tk) (h':=sortedHeap QkV h1.objs.size vs out) (λb u hb=>by
  let lb:b<h1.objs.size:=Uk Qeg le;rw[sortedHeap_old QrZ QBG]
  calc Vf _ QvN) le
  ⟨by rw[Ve,Q8T.length_eq,Va7];omega,out.toList,e3,Xeq a1,by simpa [Vam] using ac⟩
 let L:Xbs QX S=.ok Q7 (S++[.lst (Qqc.map D.int)]):=by simp[Xbs,Yw,hz,if_true]
 rw[L];calc Xa4 J (I.inv.hok.fresh le) I.sr QQg
variable{t:Tg}
def Xnk{K:Vh}:∀ {ks:LL} {B:LW} {its:LV},RDs K ρ H Q5B B->Vals B its->∃xa:LR,its=xa.map U1/\QS7=lg xa/\∀(i:Nat) (x:Addr),xa[i]?=yz x->SqT K H x Qy8
 |[],B,its,h,v=>by simp[Vgk,RDs]at h;subst h;cases v;exact⟨[],rfl,rfl,λi x e=>by simp! at e⟩|k::ks,B,its,h,v=>by
  simp[Uh,RDs]at h;let⟨v1,aa,rfl,h1,h2⟩:=h;cases v with
  |cons r v'=>
   let⟨xa,e1,e2,e3⟩:=Xnk h2 v';simp[RD]at h1;let⟨b,zs,rfl,hs,hz⟩:=h1;let L:=hz.ints_of;subst L;cases r;calc⟨b::xa,by rw[e1];rfl,by simp![e2],λi x e=>?_⟩;cases i with
   |zero=>cases e;calc hs|succ i=>calc e3 i x Qd9
def Xjj{K:Vh}:∀(qs:List Qf1),(∀q∈qs,SqT K H q.2 QUS)->RDs K ρ H (QEH.map λk=>.tup Qm1) QRA
 |[]=>λ_=>by simp[Vgk,RDs]|q::qs=>λh=>by simp[Uh,RDs];calc⟨_,_,rfl,?_,Xjj qs λz hz=>h z (V2 _ hz)⟩;simp[RD];calc⟨q.2,_,rfl,h q V6,Xf1 q.1⟩
def Xg5:∀qs:List Qf1,Vals QRA QBC
 |[]=>.nil|q::qs=>.cons rfl (Xg5 qs)
def Xpp:∀ks:LL,Xab QEK=yz ks
 |[]=>rfl|k::ks=>by rw[Uh,Xab,Yw,Xpp ks];rfl
def X1t{E:VP}{h':Heap}{tk:Nat}{ks:LL}{xa:LR}{ps:List Qf1}(hu:X.A.units+200<Vbw)(hh:X.A.handled=yy)(I:S0 X pc σ H s ρ S env)(hx:∀(i:Nat) (x:Addr),xa[i]?=yz x->SqT X.K H x Qy8)
  (S2:SetR X.prog X.w h' s.heap.objs.size QOF ps) (p:Ql6.Perm QB4) (ae:∀p∈ps,∃i:Nat,ks[i]?=yz p.1/\xa[i]?=yz p.2) (kp:∀b o,s.heap.get? b=yz o->h'.get? b=yz o) (hz:QB4.length<1000) (ac:Xf QEK=yy):
  Vg Q3 X.A (call QQ2 [.ref s.heap.objs.size]) (λw s'=>OkP X pc σ ρ H (Xbs Q5B S) w s') E Qs:=by
 let lp:Qp5<100000:=by rw[<-Ve (f:=Qb),p.length_eq];omega
 let lt:s.heap.objs.size<h'.objs.size:=by let⟨o,_,_,_,ho,_⟩:=S2;exact Vz ho
 exact Xkh (s:=Qs) hh Q0 S2 (p.nodup_iff.mpr QQe) lp λB h2 ab r e qp pw k2 le he=>?_;let e1:B.map Qb=Xy QB4:=Xlu ((QoN.trans p).trans QWg.symm) pw (Xbo _ QQe);let hq:∀q∈B,SqT X.K H q.2 QUS:=λq hq=>by let⟨i,a1,a2⟩:=ae q QmD;let:=hx i q.2 a2;rwa [Vbf,a1]at this
 let L:s.heap.objs.size<=r:=V5 (Vc4 lt) le;let J:=I.inv.laid (o:=.lst (B.map λq=>V.ref q.2)) (t':=ab) (h':=h2) (λb u hb=>k2 b u QvN) L
  ⟨by rw[Ve,qp.length_eq,Va7];omega,B.map λq=>U1 q.2,e,Xg5 B,by simpa [Vam] using he⟩
 let aa:Xbs Q5B S=.ok Q7 (S++[.lst (QcQ.map λk=>.tup Qm1)]):=by simp[Xbs,ac,Xpp,hz,if_true,e1]
 rw[aa];calc Xa4 J QQO I.sr (Xjj B hq)
def S0.seqB{d:D}{xs:LD}{v:V}{u:Vb}(I:S0 X pc σ H s ρ S env)(h:Xi S d=yz xs)(rd:RD X.K ρ H d v)(rv:RelV v u):∃b a vs its,u=.ref a/\Xpg b s.heap a its.toArray/\RDs X.K ρ H xs vs/\Vals vs its:=by
 let⟨a,vs,its,rfl,hs,L,B,_⟩:=I.seqI h rd rv;rcases hs with hs|hs;·exact⟨yx,a,vs,its,rfl,hs,L,B⟩
 ·calc⟨yw,a,vs,its,rfl,hs,L,B⟩
def Yer {a:Expr} {f:En->Sto->R D} {p0 p2 pos ac:Pos} (hu:X.A.units+200<Vbw) (hc:X.calm=yx) (ai:Gl X "sorted") (ak:X.mg "sorted"=yy) (aj:Gl X "set") (ah:X.mg "set"=yy) (ha:DE X a f) (hs:Uf [a] X.env=QU2::Uf [] X.env):
  DE X (.Call QbO [.Call QXG [a] [] ac] [] pos) (λenv S=>QE0.bind λx S=>match Xi S x with
   |some xs=>Xbs xs S
   |none=>.bad):=by
 intro pc s σ H ρ S env I nb;dsimp at nb |-;calc Vau (Ye I.inv ai ak (u:=.builtin "sorted") Q8 (Vbe (Vb7 ?_ rfl) rfl rfl) Q1 rfl);calc Vau (Ye I.inv aj ah (u:=.type "set") Q8 (Vaf QnZ hs rfl) Q1 rfl);calc ha.bind I nb rfl (λd S1 u s1 v H1 ae e1 B L rv rd aa=>Vbl ?_) λ_ _ z=>z;rw[e1];cases e:Xi S1 d with
 |none=>rw[e]at B;cases B rfl|some xs=>
  rw[e]at B;dsimp at B |-;let⟨b,p,ws,its,rfl,hq,hr,ab⟩:=L.seqB e rd rv;cases e2:Xf xs with
  |none=>
   cases e3:Xab xs with
   |none=>simp[Xbs,e2,e3]at B;cases B rfl|some ks=>
    let hz:QB4.length<1000:=by
     by_cases c:QB4.length<1000;·exact c
     ·simp[Xbs,e2,e3,c,if_false]at B;cases B rfl
    let qx:=Xd4 e3;subst qx;let⟨xa,x1,x2,x3⟩:=Xnk hr ab;calc Xyb b (s:=s1) (rs:=ks) (xs:=xa) (show X.A.handled=yy from L.inv.ok.hd hc) Q0 hq (by simpa using x1) x2 (λi x e=>Xll L.inv (x3 i x e)) Q0 λh' tk ps S2 p ag kp=>Vbl ?_;calc Vp (X1t (E:=λ_ _=>False) hu QgR L x3 S2 p ag kp hz e2) (λw s2 z=>z.pre aa) λ_ _ z=>z.elim
  |some ns=>
   let hz:QH6.length<60:=by
    by_cases c:QH6.length<60;·exact c
    ·simp[Xbs,e2,c,if_false]at B;cases B rfl
   let qx:=Yh e2;subst qx;let hw:=hr.ints_of;subst hw;calc Xxp b (s:=s1) (show X.A.handled=yy from L.inv.ok.hd hc) hq (by simpa using Xaq ab) hz λh' tk ks S2 p kp=>Vbl ?_;let hp:H1 s1.heap.objs.size=none:=L.inv.hok.fresh Qd;let J:=L.inv.laid (o:=Xu7 X s1.heap.objs.size ks) (t':=tk) kp Qd (X5u S2);let af:Stp X.K ae ae H1 (upd H1 s1.heap.objs.size (Xu7 X s1.heap.objs.size ks)):=Stp.upd hp;calc Vp (Xu8 (E:=λ_ _=>False) QgR ⟨J,L.sr.upd hp,L.er.mono af⟩ Xu p hz) (λw s2 z=>z.pre (aa.trans af)) λ_ _ z=>z.elim
def Yak{h':Heap}{tk:Nat}{ks:LL}{xa:LR}{ps:List Qf1}(I:S0 X pc σ H s ρ S env)(hx:∀(i:Nat) (x:Addr),xa[i]?=yz x->SqT X.K H x Qy8)
  (S2:SetR X.prog X.w h' s.heap.objs.size QOF ps) (p:Ql6.Perm QB4) (L:∀p∈ps,∃i:Nat,ks[i]?=yz p.1/\xa[i]?=yz p.2) (kp:∀b o,s.heap.get? b=yz o->h'.get? b=yz o):
  OkP X pc σ ρ H (.ok Q7 (S++[.st QB4])) QC Qs:=by
 let B:H s.heap.objs.size=none:=I.inv.hok.fresh Qd;let⟨o,es,ep,t,ho,aa,hd,m,T,hl⟩:=S2;let J:=I.inv.laid (o:=.ext (StO QY1 s.heap.objs.size ps)) (t':=tk) kp Qd QpA;calc .mk (v:=.ref s.heap.objs.size) (ρ':=ρ++QmE) Q0Y J rfl ?_ (I.sr.new1 B ⟨ps,Xu,λq hq=>?_,p,Xfb ks⟩);·simp[RD];exact QZD
 ·let⟨i,a1,a2⟩:=L q hq;let:=hx i q.2 a2;rw[Vbf,a1]at this;calc(Stp.new1 (K:=X.K) (ρ:=ρ) B).tup _ _ this
universe e
universe Z
universe e
section
namespace Z
open PySem PySem.SetTable PySem.Spec PyProof.Rows L2
section
variable{prog:V3}{w:Ua}{A:Uz}{E:VP}{s:Vc}
set_option maxHeartbeats 1000000 in
def Xyc{Q:VP}(h:Q QC Q52):Vg Q5 A (call (.type "set") []) Q E s:=by
 let⟨c,tl,ag⟩:=PySem.F.called_set.mro;let af:=PySem.F.called_set.made;let ac:=PySem.F.called_set.sub;calc wpAny_call Qce;show Vg _ _ QpI _ _ _;calc Vd ⟨Vgt _ Q8,Va0 PySem.F.entry_type_call ?_⟩;rw[Around.under_plain (weight_type_call_type "set" [] []) rfl];let h1:=PySem.F.called_set.notType;let h2:=PySem.F.called_set.canCreate;let aj:=PySem.F.typeCall_set_0
 repeat (any_goals (first|assumption|wp_step))
 exact Vea (show Vcq Q5 _ (.call QuJ QQB) (wants (λobj aa=>obj=.ref s.heap.objs.size/\aa=Q52) E) s from ?_) λr aa hr=>?_;·calc Vfb ?_;show Vg _ _ (do Vfy "set.__new__" QQB;again (.builtin "set.__new__" QQB)) _ _ s;calc Va (Vf8 PySem.F.newCall_set_0 (Vd ⟨Veg PySem.F.plain_set_new _,Va0 PySem.F.entry_set_new ?_⟩));rw[Vba PySem.F.plain_set_new _];unfold Vbd.«set.__new__» Vjf;let ac:=sub_set_self;let⟨hp,g,d,tk,os⟩:=s;dsimp;wp_walk;calc Vd3 Qz0;dsimp;simp[newObj];exact Va (wpAny_alloc (Vd (Vd QG0)))
 cases r with
 |error e=>exact hr|ok fl=>
  cases fl with
  |ret obj=>
   let⟨rfl,rfl⟩:=hr;let hT:Shared.TypeIs Q52 QC "set" := Q04;let ah:=PySem.F.called_set.init.lookup;let ai:=PySem.F.called_set.init.bind QC
   repeat (any_goals (first|assumption|wp_step))
   exact Vea (Vfz (R:=wants (λr L=>r=.none/\Q QC L) E) PySem.F.called_set.init.plain PySem.F.entry_set_init (check_set_init hT ?_)) λae L B=>?_;·unfold Vbd.«set.__init__» noKeywords;wp_walk;exact QfP
   ·cases ae with
    |error e=>exact B|ok ab=>
     cases ab with
     |ret r=>
      let⟨rfl,hq⟩:=B
      repeat (any_goals (first|assumption|wp_step))|_=>calc B.elim
  |_=>calc hr.elim
def Xyd{a x:Addr}{ld:Bool}{ps:List Qf1}{k:LI}{Q:VP}(hu:A.units+1<Vbw)(S:SetR prog w s.heap a ld ps)(hk:QK.is s.heap k x)(hn:Qp5<1200)
  (h:∀h' B,Vab a s.heap h'->SetR prog w h' a ld B->QjL\/QaB->Q .none Q65):
  Vg Q5 A QKI Q E s:=by
 let⟨o,es,ep,t,ho,L,hd,m,T,hl⟩:=id S;calc Uv Vij ⟨o,ho,L.1⟩ PySem.F.entry_set_add ?_ (PySem.F.args_set_add_2 _ _);unfold Vbd.«set.add» Builtin.Frozenset.oneOther;simp[List.isEmpty_nil,bind_assoc];unfold Builtin.Frozenset.addrOf;exact Va Qz0
 try dsimp
 exact Va Qz0
 try dsimp
 calc Va (Xs5 Q48 S hk hn λh' B sb S' q=>?_);show Vg _ _ QTS _ _ _;calc Vd ⟨_,rfl,h h' B sb S' q⟩
variable{X:Cx}{pc:LA}{σ:L2.St}{H:Hp}{ρ:LR}{S:Sto}{env:En}
def S0.sett{n:Nat}{ks:LL}(I:S0 X pc σ H s ρ S env)(h:Xbm S n=yz ks):∃a ps,ρ[n]?=yz a/\H a=yz QbM/\(∀p∈ps,SqT X.K H p.2 QWB)/\Ql6.Perm ks/\ks.Nodup/\SetR X.prog X.w s.heap a QY1 ps:=by
 unfold Xbm at h;cases e:S[n]? with
 |none=>rw[e]at h;cases h|some ob=>
  rw[e]at h;cases ob with
  |st aa=>cases h;let⟨a,L,ps,h1,h2,h3,h4⟩:=I.sr.adr e;let⟨⟨o,es,ep,t,ho,B,hd,he,T,hl⟩,_,_⟩:=(show ObjOk X.prog X.w H s.heap a QbM from I.inv.hok a _ h1);calc⟨a,ps,L,h1,h2,h3,h4,o,es,ep,t,ho,B,hd,⟨he,λp hp=>Xll I.inv QQc⟩,T,hl⟩|_=>cases h
def Yes {p2 B:Pos} (aa:Gl X "set") (L:X.mg "set"=yy):DE X (.Call QXG [] [] B) (λ_ S=>.ok Q7 Qre):=by intro pc s σ H ρ S env I nb;dsimp at nb |-;calc Vau (Ye I.inv aa L (u:=.type "set") Q8 (PyProof.Rows.callWith_type0 (Xyc ?_)) Q1 rfl);calc Yak (ks:=[]) (xa:=[]) (ps:=[]) I (λi x e=>by simp! at e) (Xpn QN3) QmZ (λp hp=>nomatch hp) QuP
def X1u{ps B:List Qf1}{ks:LL}{k:LI}{x:Addr}(p:Ql6.Perm ks)(nd:ks.Nodup)(q:QjL\/QaB):QcQ.Perm Q3C/\Q3C.Nodup:=by
 unfold ddR;rcases q with⟨q,rfl⟩|⟨q,r⟩;·rw[iP0 (p.mem_iff.mp q)];exact⟨p,nd⟩
 ·let L:k ∉ ks:=λz=>q QvE;rw[iN0 L];calc⟨(r.map Qb).trans ?_,?_⟩;·rw[Vak];exact p.append QjT
  ·rw[Vb9];calc⟨nd,by simp!,λa ha b hb z=>L Q7F⟩
def X5v{n:Nat}{ks:LL}{k:LI}{a x:Addr}{v:V}{E:VP}(hu:X.A.units+1<Vbw)(I:S0 X pc σ H s ρ S env)(h:Xbm S n=yz ks)(hn:QS7<1000)(rd:RD X.K ρ H QM1 Qt)(hk:SqT X.K H x QeV):
  Vg Q3 X.A QKI (OkP X pc σ ρ H (.ok .non QLO)) E s:=by
 let⟨a',ps,ha,h1,h2,h3,h4,S2⟩:=I.sett h;rw[RD]at rd;let⟨b,e,L⟩:=rd;cases e;rw[ha]at L;cases L;let lp:Qp5<1200:=by rw[<-Ve (f:=Qb),h3.length_eq];omega
 exact Xyd hu S2 (Xll I.inv hk) lp λh' B sb S' q=>?_;let⟨o,es,ep,t,ho,aa,hd,m,T,hl⟩:=S';let nf:∀o u,H a≠yz QT1:=λo u z=>by rw[h1]at z;cases z
 let⟨p1,p2⟩:=X1u h3 h4 q;let J:Inv X pc σ QWF Q65:=by exact I.inv.write (x:=a) (e:=a) (by rw[h1];trivial) QJ0 (λb w hb z=>by rw[sb.2 b hb];calc z) QyR QpA
 let st:Stp X.K ρ ρ H QWF:=Stp.chg (S:=S) (o:=.st Q3C) I.sr ha nf;calc .mk (v:=.non) st J rfl Q92 (I.sr.chg ha nf ⟨B,Xu,λp hp=>st.tup _ _ ?_,p1,p2⟩);rcases q with⟨_,rfl⟩|⟨_,r⟩;·exact h2 p hp
 ·rcases Um.mp (r.mem_iff.mp hp) with z|z;·exact h2 p z
  ·rw[Vw.mp z];calc hk
def Yet{o e:Expr}{es:LX}{apos cpos:Pos}{fo:En->Sto->R D}{g:En->Sto->R (LD)}(hu:X.A.units+1<Vbw)(ho:DE X o fo)(ha:DA X QA4 g)
  (ab:attributeBase o "add" X.env QoI=eval o X.env)
  (ac:Qh0=yx)
  (aa:QuI=yx) (hs:Uf QA4 X.env=QM5::Uf es X.env) (L:QWU.any Qb=yw):
  DE X (.Call (.Attribute o "add" apos) QA4 [] cpos) (λenv S=>Q2C.bind λx S=>if Xjd S x then QW5.bind λxs S=>Xey x xs S else .bad):=by
 intro pc s σ H ρ S env I B;dsimp at B |-;cases q:fo env S with
 |bad=>rw[q]at B;cases B rfl|ex n S1=>exact wpAny_Call_method ab ac aa PySem.F.plainAttrs_set Vij PySem.F.type_set_add QnI|ok x S1=>
  rw[q]at B;simp[Rk0]at B |-;let hk:Xjd S1 x=true:=by
   cases c:Xjd S1 x with
   |true=>rfl|false=>rw[c]at B;cases B rfl
  rw[iP0 hk]at B |-;obtain⟨n,ks,rfl,e1⟩:∃n ks,x=.ref n/\Xbm S1 n=yz ks:=by
   cases x with
   |ref n=>let⟨ks,e⟩:=Vdj.mp (show(Xbm S1 n).isSome=yx from hk);exact⟨n,ks,rfl,e⟩|_=>cases hk
  calc wpAny_Call_method ab ac aa PySem.F.plainAttrs_set Vij PySem.F.type_set_add (ho.ok I q λu s1 v H1 an I1 rv rd ae=>?_);let⟨a,ps,ak,_,_,_,_,⟨ob,_,_,_,ag,ai,_⟩⟩:=I1.sett e1;let ah:=rd;rw[RD]at ah;let⟨a',rfl,af⟩:=ah;rw[ak]at af;cases af;cases rv;calc⟨⟨ob,ag,ai.1⟩,λb eb=>by cases eb;calc⟨ob,ag,ai.2.1⟩,?_⟩;cases q2:g env S1 with
  |bad=>rw[q2]at B;cases B rfl|ex k S2=>let hA:=ha.ex (pos:=cpos) (E:=ExP X pc σ ρ H QUD) (Q:=λus s2=>Vg Q3 X.A QHU QIG QCL s2) I1 q2 λx s' z=>.mk ae z;rw[hs]at hA |-;exact Vfg QVJ QDP|ok ds S2=>
   rw[q2]at B;simp[Rk0]at B |-;let hA:=ha.ok (pos:=cpos) (E:=ExP X pc σ ρ H QaH) (Q:=λus s2=>Vg Q3 X.A QHU (OkP X pc σ ρ H QaH) (ExP X pc σ ρ H QaH) s2) I1 q2 λus s2 vs H2 am I2 aj al st2=>by
    let hd:∃xs k ks,ds=QBV/\Xbm S2 n=yz ks/\Xf xs=yz k/\QS7<1000/\Xey QM1 ds S2=.ok .non (S2.set n (.st Q3C)):=by
     unfold Xey at B;dsimp at B;split at B
     ·rename_i xs;cases w1:Xbm S2 n with
      |none=>rw[w1]at B;cases B rfl|some ks=>
       rw[w1]at B;dsimp at B;cases w2:Xf xs with
       |none=>rw[w2]at B;cases B rfl|some k=>
        rw[w2]at B;dsimp at B;split at B;·rename_i hz;exact⟨xs,k,ks,rfl,rfl,w2,hz,by simp[Xey,w1,w2,hz,if_true]⟩
        ·cases B rfl
     cases B rfl
    let⟨xs,k,ks,rfl,w1,w2,hz,er⟩:=hd;rw[er];let⟨y,rfl,r1⟩:=al.one;let⟨u,rfl,ru⟩:=aj.one;let⟨b,rfl,hb⟩:=X81 w2 r1;cases ru;exact Vp (X5v (v:=.non) (E:=λ_ _=>False) hu I2 w1 hz QB5 hb) QVE λ_ _ z=>z.elim
   rw[hs]at hA |-;calc Vfg QVJ QDP
def Yeu {a:Expr} {f:En->Sto->R D} {p0 pos:Pos} (hu:X.A.units+200<Vbw) (hc:X.calm=yx) (ae:Gl X "sorted") (ag:X.mg "sorted"=yy) (ha:DE X a f) (hs:Uf [a] X.env=QU2::Uf [] X.env):
  DE X (.Call QbO [a] [] pos) (λenv S=>QE0.bind λx S=>Xoj x S):=by
 intro pc s σ H ρ S env I nb;dsimp at nb |-;calc Vau (Ye I.inv ae ag (u:=.builtin "sorted") Q8 (Vbe QnZ hs rfl) Q1 rfl);calc ha.bind I nb rfl (λd S1 u s1 v H1 ah e1 B L rv rd ab=>Vbl ?_) λ_ _ z=>z;rw[e1];cases d with
 |ref n=>
  unfold Xoj at B |-;dsimp at B |-;cases w1:Xbm S1 n with
  |none=>rw[w1]at B;cases B rfl|some ks=>
   rw[w1]at B;dsimp at B |-;split at B
   ·rename_i hz;rw[iP0 hz];let⟨b,ps,af,h1,h2,h3,h4,S2⟩:=L.sett w1;rw[RD]at rd;let⟨b',rfl,aa⟩:=rd;rw[af]at aa;cases aa;cases rv;let lp:Qp5<100000:=by rw[<-Ve (f:=Qb),h3.length_eq];omega
    exact Xkh (show X.A.handled=yy from L.inv.ok.hd hc) Q0 S2 (h3.nodup_iff.mpr h4) lp λqs h' tk r e qp pw k2 le he=>?_;let ac:qs.map Qb=Xy ks:=Xlu ((QoN.trans h3).trans QWg.symm) pw (Xbo _ h4);let J:=L.inv.laid (o:=.lst QRA) (t':=tk) (h':=h') k2 le
     ⟨by rw[Ve,qp.length_eq,Va7];omega,qs.map λq=>U1 q.2,e,Xg5 qs,by simpa [Vam] using he⟩
    rw[<-ac];exact OkP.pre ab (Xa4 J (L.inv.hok.fresh le) L.sr (Xjj qs λq hq=>h2 q QmD))
   cases B rfl
 |_=>cases B rfl
universe e
universe Z
universe e
section
namespace Z
open PySem PySem.Spec PyProof.Rows L2
section
variable{K:Vh}{ρ ρ':LR}{H H':Hp}{S S':Sto}
mutual
def Xu9:∀ {d:D} {v:V},RD K ρ H d v->bdD ρ.length d=yx
 |.ref n=>λh=>by simp[RD]at h;let⟨a,_,h⟩:=h;exact decide_eq_true QO8.1|.tup xs=>λh=>by simp[RD]at h;let⟨_,_,_,_,h⟩:=h;exact rds_bd h|.fro xs=>λh=>by simp[RD]at h;let⟨_,_,_,_,h⟩:=h;exact rds_bd h|.non=>λ_=>rfl|.bl _=>λ_=>rfl|.int _=>λ_=>rfl|.str _=>λ_=>rfl|.fn _ _=>λ_=>rfl|.edc=>λ_=>rfl
def rds_bd:∀ {ds:LD} {vs:LW},RDs K ρ H ds vs->bdDs ρ.length ds=yx
 |[]=>λ_=>rfl|d::ds=>λh=>by simp[RDs]at h;let⟨_,_,_,h1,h2⟩:=h;rw[bdDs,Xu9 h1,rds_bd h2];rfl
end
mutual
def Xn4(k:∀(n:Nat) a,n < ρ.length->ρ'[n]?=yz a->ρ[n]?=yz a):∀ {d:D} {v:V},RD K ρ' H d v->bdD ρ.length d=yx->RD K ρ H d v
 |.ref n=>λh b=>by simp[RD]at h |-;let⟨a,e,h⟩:=h;exact⟨a,e,k n a (oD0 b) h⟩|.tup xs=>λh b=>by simp[RD]at h |-;let⟨a,vs,e,h1,h⟩:=h;exact QAI|.fro xs=>λh b=>by simp[RD]at h |-;let⟨a,vs,e,h1,h⟩:=h;exact QAI|.non=>λh _=>by simpa only[RD] using h|.bl _=>λh _=>by simpa only[RD] using h|.int _=>λh _=>by simpa only[RD] using h|.str _=>λh _=>by simpa only[RD] using h|.fn _ _=>λh _=>by simpa only[RD] using h|.edc=>λh _=>by simpa only[RD] using h
def rds_lo(k:∀(n:Nat) a,n < ρ.length->ρ'[n]?=yz a->ρ[n]?=yz a):∀ {ds:LD} {vs:LW},RDs K ρ' H ds vs->bdDs ρ.length ds=yx->RDs K ρ H ds vs
 |[]=>λh _=>by simpa only[RDs] using h|d::ds=>λh b=>by simp[RDs]at h |-;let⟨v,r,e,h1,h2⟩:=h;rw[bdDs,bA0]at b;exact⟨v,r,e,Xn4 k h1 b.1,rds_lo k h2 b.2⟩
end
def X3n{kvs:List QHF}{xs:List QH5}(h:DX K ρ H kvs xs):QYE=true:=by
 induction h with
 |nil=>rfl|cons r _ ih=>rw[Vaw,Xu9 r.2.2,ih];rfl
def X3o(k:∀(n:Nat) a,n < ρ.length->ρ'[n]?=yz a->ρ[n]?=yz a){kvs:List QHF}{xs:List QH5}(h:DX K ρ' H kvs xs)(b:QYE=yx):DX K ρ H kvs xs:=by
 induction h with
 |nil=>calc .nil|cons r _ ih=>rw[Vaw,bA0]at b;calc .cons ⟨r.1,r.2.1,Xn4 k r.2.2 b.1⟩ (ih b.2)
def Yev{a:Addr}{o:O}(h:OR K bo ρ H a o):bdO ρ.length o=true:=by
 cases o with
 |lst xs=>let⟨vs,_,h⟩:=h;exact rds_bd h|dct kvs=>
  rcases h with⟨rfl,_⟩|⟨_,xs,_,h⟩;·rfl
  ·calc X3n h|fdc kvs=>let⟨_,_,_,_,_,_,_,h⟩:=h;calc X3n h|_=>rfl
def X3p(k:∀(n:Nat) a,n < ρ.length->ρ'[n]?=yz a->ρ[n]?=yz a){a:Addr}{o:O}(h:OR K bo ρ' H a o)(b:bdO ρ.length o=yx):OR K bo ρ H a o:=by
 cases o with
 |lst xs=>let⟨vs,h1,h⟩:=h;exact⟨vs,h1,rds_lo k h b⟩|dct kvs=>
  rcases h with h|⟨h0,xs,h1,h⟩;·exact .inl h
  ·calc .inr ⟨h0,xs,h1,X3o k h b⟩|fdc kvs=>let⟨o,u,xs,h1,h2,B,L,h⟩:=h;calc⟨o,u,xs,h1,h2,B,L,X3o k h b⟩|_=>calc h
def Xki(st:Stp K ρ ρ' H H')(n:Nat)(a:Addr)(B:n < ρ.length)(h:ρ'[n]?=yz a):ρ[n]?=yz a:=by let e:=U7 B;rw[st.pre n _ e]at h;rw[e];calc h
def X3q(r:SR K bo ρ S H)(L:SR K bo ρ' S' H')(st:Stp K ρ ρ' H H')(k:Xgt S S'):SR K bo ρ QIM H':=by
 calc⟨L.tab,by rw[Vah,r.len];calc(Vc1 k.1).symm,r.nd,λn a o h1 h2=>?_⟩;let B:n<lg S:=by rw[<-r.len];exact QDF.1
 rw[Vjv B]at h2;calc X3p Q4W (L.ob n a o (st.pre n a h1) h2) ?_;rcases k.2 n o B h2 with e|e;·exact Yev (r.ob n a o h1 e)
 ·rw[r.len];calc e
def Yew(st:Stp K ρ ρ' H H'):Stp K ρ ρ H H':=⟨⟨λ_ _ h=>h,st.tup,st.frz⟩,λ_ h=>.inl h,st.keep⟩
def Yex{B:LR}(st:Stp K ρ B H H'):Mon K ρ B H' H':=⟨st.pre,λ_ _ h=>h,λ_ _ _ h=>h⟩
def Xye{n:Nat}{a:Addr}{o:O}(r:SR K bo ρ S H)(L:SR K bo ρ' S' H')(st:Stp K ρ ρ' H H')(k:Xgt S S')(hn:QD<=n)(B:ρ'[n]?=yz a)(ho:S'[n]?=yz o)(b:bdO QD o=yx):
  SR K bo Q9S QUQ H'/\Stp K ρ Q9S H H':=by
 let mo:Mon K ρ Q9S H' H':=⟨λn b h=>by rw[Vy QO8.1];calc h,λ_ _ h=>h,λ_ _ _ h=>h⟩;let g:=X3q r L st k;let na:a ∉ ρ:=λh=>by let⟨i,hi,e⟩:=Vb1.mp h;let e1:=st.pre i a (by rw[U7 hi,e]);let⟨h3,e3⟩:=Vk.mp e1;let⟨h4,e4⟩:=Vk.mp B;let:=(List.getElem_inj L.nd).mp QzO;let:=r.len;omega
 calc⟨⟨g.tab,by rw[Ub,Ub,g.len];rfl,?_,λm b ob h1 h2=>?_⟩,⟨mo.pre,λa xs h=>st.tup a xs h,st.frz⟩,λb hb=>?_,st.keep⟩;·rw[Vb9];calc Q76;rw[Vw.mp hy];exact λz=>na QJV
 ·by_cases hm:m < ρ.length;·rw[Vy hm]at h1;rw[Vy (by rw[<-g.len];calc hm)]at h2;exact(g.ob m b ob h1 h2).mono' mo rfl
  ·let e:m=lg ρ:=by
    let:=QDF.1;simp! at this;omega
   subst e;simp! at h1;rw[g.len]at h2;simp! at h2;subst h1 h2;exact(X3p Q4W (L.ob n a o B ho) Q6O).mono' mo rfl
 ·rcases Um.mp hb with h|h;·exact .inl h
  ·rw[Vw.mp h];calc st.new a Q2d
def Xva(r:SR K bo ρ S H)(r':SR K bo ρ' S' H')(st:Stp K ρ ρ' H H')(rd:RD K ρ' H' d v)(B:gcR S QhQ≠.bad):∃d1 S1 L,gcR S QhQ=.ok d1 S1/\RD K L H' d1 v/\SR K bo L S1 H'/\Stp K ρ L H H':=by
 simp[gcR]at B |-;by_cases k:Xgt S S'
 ·rw[iP0 k]at B |-;by_cases b:bdD QD d=yx;·rw[iP0 b];exact⟨d,_,ρ,rfl,Xn4 Q4W rd Q6O,X3q r r' st k,Yew st⟩
  ·rw[iN0 b]at B |-;cases d with
   |ref n=>
    dsimp at B |-;simp[RD]at rd;let⟨a,rfl,ha⟩:=rd;let⟨o,ho,_⟩:=r'.at ha;rw[ho]at B |-;dsimp at B |-;by_cases c:bdO QD o=yx;·rw[iP0 c];let⟨g1,g2⟩:=Xye r r' st k (Vhz λz=>b Q0P) ha ho c;calc⟨_,_,_,rfl,?_,g1,g2⟩;simp[RD];exact⟨a,rfl,by rw[<-r.len];simp!⟩
    ·rw[iN0 c]at B;cases B rfl|_=>cases B rfl
 rw[iN0 k]at B;cases B rfl
def Xvb{n c:Nat}{a:Addr}(r:SR K bo ρ S H)(r':SR K bo ρ' S' H')(st:Stp K ρ ρ' H H')(ha:ρ'[n]?=yz a)(hc:S'[n]?=yz Qp3)(L:gcR S Qbb≠.bad):
  ∃S1 B,gcR S Qbb=.ex QD S1/\B[lg S]?=yz a/\S1[lg S]?=yz Qp3/\SR K bo B S1 H'/\Stp K ρ B H H':=by
 simp[gcR]at L |-;by_cases k:Xgt S S'/\QD<=n
 ·rw[iP0 k]at L |-;rw[hc];let⟨g1,g2⟩:=Xye r r' st k.1 k.2 ha hc rfl;calc⟨_,_,rfl,by rw[<-r.len];simp!,?_,g1,g2⟩;let:QIM.length=lg S:=by rw[Vah];exact Vc1 k.1.1
  rw[Vac Q0,this];simp!
 ·rw[iN0 k]at L;cases L rfl
variable{X:Cx}{pc:LA}{σ:L2.St}{s:Vc}{env:En}{e:Expr}{f:En->Sto->R D}
def X3r(I:S0 X pc σ H s ρ S env)(rd:RD X.K ρ H d v)(nb:Xba QME≠.bad):∃d1 S1 H1,Xba QME=.ok d1 S1/\Inv X pc σ H1 s/\RD X.K ρ H1 d1 v/\SR X.K QY1 ρ S1 H1/\Stp X.K ρ ρ H H1:=by
 cases d with
 |ref n=>
  simp[RD]at rd;let⟨a,rfl,ha⟩:=rd;let⟨ob,ho,q⟩:=I.sr.at ha;unfold Xba at nb |-;dsimp at nb |-;rw[ho]at nb |-;cases ob with
  |lst xs=>
   let⟨vs,B,hr⟩:=q;let nf:∀o u,H a≠yz QT1:=λo u z=>by rw[B]at z;cases z
   obtain⟨og,hg⟩:∃og,s.heap.get? a=yz og:=by let⟨_,its,n',r,hg⟩:=(show ObjOk X.prog X.w H s.heap a Q93 from I.inv.hok a _ B);exact⟨_,hg⟩
   let st:Stp X.K ρ ρ H (upd H a (.frz og Q93)):=Stp.chg (S:=S) (o:=.ded) I.sr ha nf;calc⟨_,_,_,rfl,Xka I.inv QWR hg B (.inr (.inr ⟨vs,rfl⟩)),?_,I.sr.chg ha nf QMa,st⟩;simp[RD];exact⟨a,vs,rfl,.inl ⟨_,Xu⟩,hr.mono st⟩|dct kvs=>
   cases kvs with
   |cons _ _=>cases nb rfl|nil=>
    rcases q with⟨_,B⟩|⟨h0,_⟩
    ·let nf:∀o u,H a≠yz QT1:=λo u z=>by rw[B]at z;cases z
     let⟨_,_,vs,r,og,es,ep,hg,_⟩:=(show ObjOk X.prog X.w H s.heap a Q57 from I.inv.hok a _ B);let st:Stp X.K ρ ρ H (upd H a QsW):=Stp.chg (S:=S) (o:=.ded) I.sr ha nf;calc⟨_,_,_,rfl,Xka I.inv QWR hg B QJ0,?_,I.sr.chg ha nf QMa,st⟩;simp[RD];exact⟨a,_,rfl,Xu⟩
    cases h0 rfl
  |_=>cases nb rfl
 |_=>calc⟨_,_,H,rfl,I.inv,rd,I.sr,.refl⟩
def DE.frz(h:DE X e f):DE X e (λenv S=>gcR S Qtc):=by
 intro pc s σ H ρ S env I B;dsimp at B |-;cases q:f env S with
 |bad=>rw[q]at B;cases B rfl|ex n S1=>rw[q]at B;calc h.ex I q λx s' z=>?_;let⟨H',ρ',a,c,J,e,hn,hc,sr,st,fl⟩:=z;let⟨S2,L,g1,g2,g3,g4,g5⟩:=Xvb I.sr sr st hn hc B;calc⟨_,S2,g1,H',L,a,c,J,e,g2,g3,g4,g5,fl⟩|ok d S1=>rw[q]at B;calc h.ok I q λu s' v H' ρ' J rv rd st=>?_;let nf:Xba QLb≠.bad:=λz=>B Q43;let⟨d1,S2,H2,e1,J2,ab,aa,st2⟩:=X3r J rd nf;rw[e1]at B;let⟨d3,S3,ac,g1,g2,g3,g4⟩:=Xva I.sr aa QjI ab B;rw[e1];calc⟨d3,S3,g1,v,H2,ac,J2,rv,g2,g3,g4⟩
def DS.frzA{i:Nat}{x:Str}{st:Stmt}(hi:X.N[i]?=yz x)(h:DS X st yw (λenv S=>QE0.bind λx S=>.ok QTM S)):DS X st yw (λenv S=>(gcR S Qtc).bind λx S=>.ok QTM S):=by
 intro pc s σ H ρ S env I B;let h1:=h pc s σ H ρ S env I;dsimp at B h1 |-;let li:i<lg env:=by let h2:=Q1b.1;let h3:=I.inv.len;let h4:=I.er.len;omega
 cases q:f env S with
 |bad=>rw[q]at B;cases B rfl|ex n S1=>
  rw[q]at B h1;let ng:gcR S (.ex n S1)≠.bad:=λz=>B (by show QyO.bind _=_;rw[z];rfl);exact Vp Q7Q Q4H λe s' z=>?_;·let⟨y,S2,e,_⟩:=z;cases e
  ·let⟨m,S2,L,e,hn,H',ρ',a,c,J,e2,hm,hc,sr,st,fl⟩:=z;cases e;let⟨S3,ae,g1,g2,g3,g4,g5⟩:=Xvb I.sr sr st hm hc ng;exact⟨_,S3,L,by show QyO.bind _=_;rw[g1];rfl,hn,H',ae,a,c,J,e2,g2,g3,g4,g5,fl⟩|ok d S1=>
  rw[q]at B h1;exact Vp Q7Q Q4H λe s' z=>?_
  ·let⟨y,S2,e,z⟩:=z;cases e;let⟨rfl,L,H',ρ',J,st,_⟩:=z;let⟨v,v1,rd⟩:=J.er.val i d (Vap li);let nf:Xba QLb≠.bad:=λz=>B Q43;let⟨d1,S2,H2,e1,J2,af,aa,st2⟩:=X3r J rd nf;rw[e1]at B |-;let ng:gcR S (.ok d1 S2)≠.bad:=λz=>B Q43;let⟨d3,S3,ac,g1,g2,g3,g4⟩:=Xva I.sr aa QjI af ng;rw[g1];calc⟨_,S3,rfl,rfl,L,H2,ac,⟨J2,g3,by rw[Vck];calc(Vck (as:=env) (i:=i) (a:=yz d)).symm.trans J.er.len,λj b hb=>?_⟩,g4,λz=>nomatch z⟩;by_cases ij:i=j;·subst ij;rw[Vap li]at hb;cases hb;exact⟨v,v1,g2⟩
   ·rw[Vay ij]at hb;let⟨w,w1,ab⟩:=J.er.val j b (by rw[Vay ij];calc hb);let⟨_,_,r0⟩:=I.er.val j b hb;exact⟨w,w1,(Xn4 (Xki QjI) (ab.mono st2) (Xu9 r0)).mono' (Yex g4)⟩
  let⟨n,S2,L,e,_⟩:=z;cases e
def FnD.gcF{cm:Bool}{P:V3}{w:Ua}{K:Vh}{mg:Str->OV}{base:Heap}{k:Nat}{g:Addr}{fd:Vdh}{ps:LS}{F:LD->Sto->R D}(b:Bool)(h:FnD cm P w K mg base k g fd ps F):FnD cm P w K mg base k g fd ps (λds S=>gcB b S QZW):=by
 cases b with
 |false=>exact h|true=>
  calc⟨λA outer s H ab us vs Q E hr e0 hb r ac=>h.run A outer s H ab us vs Q E hr e0 hb r ?_⟩;let⟨ds,ρ,ae,hl,rd,sr,nb,hok,aa⟩:=ac;simp[gcB,if_true]at nb hok aa;calc⟨ds,ρ,ae,hl,rd,sr,λz=>nb Q43,λd S' v H' ρ' q af B st=>?_,λn c S' a H' ρ' q ha hc B st=>?_⟩;·rw[q]at nb hok;let⟨d1,S1,L,g1,g2,g3,g4⟩:=Xva sr B st af nb;exact hok d1 S1 v H' L g1 g2 g3 g4
  ·rw[q]at nb aa;let⟨S1,L,g1,g2,g3,g4,g5⟩:=Xvb sr B st ha hc nb;calc aa _ c S1 a H' L g1 g2 g3 g4 g5
variable{prog:V3}{w:Ua}{A:Uz}{E:VP}
def Xre{Q:LV->Vc->Prop}{r:Addr}{a b c:Int}{t u v:Tok}{n:Nat}(hh:A.handled=yy)(hr:IsRange s.heap r a b c t u v)(L:Vgb a b c=yx)(hn:Vdu a b c=n)(ab:n<=2^24)
  (hQ:∀(h':Heap) (tk:Nat) (B:AV),QD0->ItemsOf QB7 B n->Q B.toList Qs):Vg Q5 A (collect QOP) Q E s:=by
 unfold collect;calc Va QhC;rw[Vba F.plain_proto_collect _];show Vg _ A.in1 (newList [] >>= λl=>again (.builtin "list.__iadd__" ⟨[l,.ref r],[]⟩)) _ _ s
 calc Va QT8;rw[Vba Vhe _];let⟨hp,g,d,tk,os⟩:=s;show Vg _ A.in1 (Vbs Qa8 QOP Qa8) _ _ QNJ;exact wpAny_extend_range (R:=λr s'=>match r with
  |.ok QgW=>Vg Q5 A (match v with
   |.ref a=>do match (<-load a).data with
    |.seq xs _=>pure xs.toList|_=>Vd7 "internal:collect"
   |_=>Vd7 "internal:collect") Q E s'
  |.ok _=>False
  |.error e=>E e s') (s:=QNJ) hh (Vf _ hr) L hn ab hp.objs.size Qa8 0 QN3 λh' ac B c' k hS aa=>?_
 show Vg _ A (load hp.objs.size >>= _) _ _ _;calc Va (Vfv hS (Vd (hQ h' ac B (λb o e=>k b o QPW QAE) aa)))
def Xrf{Q₁:VP}{r:Addr}{a b c:Int}{t u v:Tok}{n:Nat}(hh:A.handled=yy)(hr:IsRange s.heap r a b c t u v)(L:Vgb a b c=yx)(hn:Vdu a b c=n)(ab:n<=2^24)
  (h:∀(h':Heap) (tk:Nat) (B:AV),QD0->ItemsOf QB7 B n->Q₁ QUO {s with heap:=h'.push {cls:=.type "tuple",data:=.seq B},toks:=tk}):
  Vcq Q5 A (.call (.builtin "tuple.__new__") Q87) Q4U s:=by
 calc Vfb ?_;show Vg _ A.in1 (do Vfy "tuple.__new__" Q87;again (.builtin "tuple.__new__" Q87)) _ _ s;calc Va (Vf8 (F.newCall_tuple_1 _) (Vd ⟨Veg F.plain_tuple_new _,Va0 F.entry_tuple_new ?_⟩));rw[Vba F.plain_tuple_new _];let af:=sub_tuple_self;let ae:=init_tuple_lookup;let ag:=madeHere_tuple;let ac:s.TypeIs QOP "range" := ⟨_,hr,rfl⟩;wp_walk using Vcm ac,Xre (A:=A.in1) hh hr L hn ab;intro h' tk B k aa;show Vg _ _ (Vbn B.toList.toArray >>= λv=>ret v) _ _ _;unfold Vbn;calc Va (Val ?_ (by show B.toList.toArray.size<=V8;simp[Array.toArray_toList];rw[aa.1,Va7];omega));calc Vd ?_;let e:B.toList.toArray=B:=by simp!
 rw[e];calc h h' tk B k aa
def Xpq{Q:VP}{r:Addr}{a b c:Int}{t u v:Tok}{n:Nat}(hh:A.handled=yy)(hr:IsRange s.heap r a b c t u v)(ab:Vgb a b c=yx)(hn:Vdu a b c=n)(ae:n<=2^24)
  (h:∀(h':Heap) (tk:Nat) (aa:AV),QD0->ItemsOf QB7 aa n->Q QUO {s with heap:=h'.push {cls:=.type "tuple",data:=.seq aa},toks:=tk}):
  Vg Q5 A (call Qx3 [.ref r]) Q E s:=by
 exact callType_codes (Q₁:=λobj B=>B.TypeIs obj "tuple" /\ Q obj B) F.called_tuple (F.typeCall_tuple_1 _) F.entry_object_init
  (Xrf hh hr ab hn ae λh' tk aa k ac=>⟨Q04,h h' tk aa k ac⟩) λobj B L=>?_
 calc⟨L.1,F.args_object_init_2 obj _,object_init_meets F.called_tuple.init.lookup F.called_tuple.made Q1 prog w A.in1 _ B ⟨L.1,rfl,L.2⟩⟩
def Xkj{B:AV}{n:Nat}(h:ItemsOf (λi v=>∃t,v=Vfs ((0:Int)+i*1) t) B n):∃us:LV,B=us.toArray/\Vals (QCT.map λ(k:Nat)=>V.int (k:Int)) us:=by
 calc⟨B.toList,by simp!,?_⟩;let L:∀(us:LV) (m:Nat),(∀(i:Nat) (v:Vb),us[i]?=yz v->∃t,v=Vfs ((m+i:Nat):Int) t)->Vals ((List.range' m (lg us)).map λ(k:Nat)=>V.int (k:Int)) us:=λus=>by
  induction us with
  |nil=>intro m _;calc .nil|cons u us ih=>intro m hu;rw[Ux,List.range'_succ,Uh];calc .cons (hu 0 u rfl) (ih QYB λi v e=>?_);let:=hu QX2 v Qd9;rwa [show m+QX2=m+1+i by omega]at this
 let:=L B.toList 0 λi v e=>by let⟨t,q⟩:=h.2 i v (by rw[<-Ue];calc e);exact⟨t,by rw[q];congr 1;simp!⟩
 rwa [V1,h.1,<-List.range_eq_range']at this
def Xlv{K:Vh}{ρ:LR}{H:Hp}:∀l:LN,RDs K ρ H (l.map λ(k:Nat)=>D.int (k:Int)) (l.map λ(k:Nat)=>V.int (k:Int))
 |[]=>by simp[Vd1,RDs]|n::ns=>by simp[Vd1,RDs];calc⟨_,_,rfl,by simp[RD],Xlv ns⟩
abbrev lrN(t:Bool):Str:=match t with
 |true => "tuple"|false => "list"
def Yey {t:Bool} {a:Expr} {f:En->Sto->R D} {p p2 pos ai:Pos} (hc:X.calm=yx) (ah:Gl X QrN) (ak:X.mg QrN=yy) (aj:Gl X "range") (ag:X.mg "range"=yy) (ha:DE X a f) (hs:Uf [a] X.env=QU2::Uf [] X.env):
  DE X (.Call Q4X [.Call QaP [a] [] ai] [] pos) (λenv S=>QE0.bind λx S=>match Xbe [x] with
   |some ds=>if t then .ok QKE S else .ok Q7 QbU
   |none=>.bad):=by
 intro pc s σ H ρ S env I B;dsimp at B |-;let sm:∀j:Int,-QY8<j/\j<1048576->Vgb 0 j 1=true:=λj h=>small_one Q1 Q1 Q0 Q0;let rs:∀j:Int,-QY8<j/\j<1048576->Vdu 0 j 1=(j.toNat:Int)/\j.toNat<=2^24:=λj h=>by
  rw[rangeSize_one];constructor;·split<;>omega
  ·omega
 let ab:∀ {d:D} {S1:Sto},(match Xbe [d] with
   |some ds=>if t then R.ok (D.tup ds) S1 else R.ok (D.ref QzE) (S1++[O.lst ds])
   |none=>R.bad)≠R.bad->∃j,d=.int j/\(-QY8<j/\j<1048576):=λ{d S1} h=>by
  cases d with
  |int j=>
   by_cases c:-QY8<j/\j<1048576;·exact⟨j,rfl,c⟩
   ·simp[Xbe,c,if_false]at h;cases h rfl|_=>cases h rfl
 cases t with
 |true=>
  calc Vau (Ye I.inv ah ak (u:=.type "tuple") Q8 QPI Q1 rfl);calc Vau QR5;cases q:f env S with
  |bad=>rw[q]at B;cases B rfl|ex n S1=>exact ha.ex I q λx s' z=>QH0|ok d S1=>
   rw[q]at B;simp[Rk0]at B |-;let⟨j,rfl,hj⟩:=ab B;exact ha.ok I q λu s1 v H1 am I1 rv rd ac=>Vbl ?_;simp[RD]at rd;subst rd;let⟨tk,rfl⟩:=rv;calc call_range_1 (Vbl (Xpq QaQ QJG Qwb QlD.1 QlD.2 λh' ae al k aa=>?_));let⟨us,rfl,L⟩:=Xkj aa;let keep:∀b o,s1.heap.get? b=yz o->h'.get? b=yz o:=λb o e=>k b o QAE;let le:s1.heap.objs.size<=h'.objs.size:=Vc4 (Vz (k _ _ QN3));let af:Xbe QER=yz QF4:=by simp[Xbe,hj,and_self,if_true]
   rw[af];simp[if_true];calc OkP.pre ac (Xcm (I1.inv.laid (t':=ae) (λb u e=>Vf _ (keep b u e)) le ?_) QMM I1.sr QCg);calc⟨by rw[Ve,U6,Va7];let:=QlD.2;omega,us,L,QK2⟩
 |false=>
  calc Vau (Ye I.inv ah ak (u:=.type "list") Q8 QPI Q1 rfl);calc Vau QR5;cases q:f env S with
  |bad=>rw[q]at B;cases B rfl|ex n S1=>exact ha.ex I q λx s' z=>QH0|ok d S1=>
   rw[q]at B;simp[Rk0]at B |-;let⟨j,rfl,hj⟩:=ab B;exact ha.ok I q λu s1 v H1 am I1 rv rd ac=>Vbl ?_;simp[RD]at rd;subst rd;let⟨tk,rfl⟩:=rv;calc call_range_1 (Vbl (call_list_range QaQ QJG Qwb QlD.1 QlD.2 λh' ae al c k hS aa=>?_));let⟨us,rfl,L⟩:=Xkj aa;let keep:∀b o,s1.heap.get? b=yz o->h'.get? b=yz o:=λb o e=>k b o QAE;let le:s1.heap.objs.size<=(s1.heap.push {cls:=.type "range",data:=.fields #[.int 0 s1.toks,.int j tk,.int 1 (s1.toks+1)]}).objs.size:=by rw[Vao];exact Vd6 _
   let af:Xbe QER=yz QF4:=by simp[Xbe,hj,and_self,if_true]
   rw[af];simp[Vs,if_false];calc OkP.pre ac (Xa4 (I1.inv.laid (t':=ae) keep le ?_) QMM I1.sr QCg);calc⟨by rw[Ve,U6,Va7];let:=QlD.2;omega,us,c,L,hS⟩
universe e
abbrev Xvc(sc:Vaj)(x:Str):Bool:=match sc.names.lookup x with
 |some .local=>yx|some .cell=>yx|some .free=>yx|_=>yw
abbrev glB(sc:Vaj)(x:Str):Bool:=match sc.names.lookup x with
 |some .globalImplicit=>yx|_=>yw
abbrev Xpr(top:Str->Bool)(sc:Vaj)(x:Str):Bool:=match sc.names.lookup x with
 |some .local=>yx|some .cell=>top x|_=>yw
abbrev Y6(x:Str):Bool:=! Q50 && ! Qe4 && !decide (x="__name__")
def X5w(h:Xvc sc x=yx):Vis sc x:=by
 unfold Xvc at h;split at h;·exact .inl Qc2
 ·exact .inr (.inl Qc2)
 ·exact .inr (.inr Qc2)
 cases h
def Yo(hs:X.env.scope=sc)(h:glB sc x=yx):Gl X x:=by
 subst hs;unfold glB at h;split at h;·assumption
 ·cases h
def Xlw{X:Cx}{top:Str->Bool}{sc:Vaj}{x:Str}(hs:X.env.scope=sc)(B:∀x,top x=yx->X.fn x=yx)(h:Xpr top sc x=yx):Loc X.env.scope x/\(X.fn x=yx\/X.env.scope.names.lookup x=yz .local):=by
 subst hs;unfold Xpr at h;split at h;·exact⟨.inl Qc2,.inr Qc2⟩
 ·exact⟨.inr Qc2,.inl (B x h)⟩
 cases h
def Xa7(h:Y6 x=yx):Q50=yw/\Qe4=yw/\x ≠ "__name__":=by simp[Y6,bA0,Uq,decide_eq_false_iff_not]at h;calc QQN
abbrev Xz:Expr->Bool
 |.Starred _ _=>yw|_=>yx
def Xj(h:Xz e=yx):Uf QA4 env=(yw,eval e env)::Uf es env:=by cases e<;>first|rfl|cases h
def Yx(h:es.all Xz=yx):QI7.any Qb=false:=by
 induction es with
 |nil=>rfl|cons e es ih=>rw[Vaw,bA0]at h;rw[Xj h.1];show(yw||QI7.any Qb)=yw;rw[ih h.2];rfl
def Xps(h:es.all Xz=yx):QI7.all QdY=true:=by
 induction es with
 |nil=>rfl|cons e es ih=>rw[Vaw,bA0]at h;rw[Xj h.1];show(yx&&QI7.all QdY)=yx;rw[ih h.2];rfl
abbrev Xcq:Expr->Bool
 |.Name _ _=>yx|.Constant _ _ _=>yx|.BinOp _ _ _ _=>yx|.UnaryOp _ _ _=>yx|.Call _ _ _ _=>yx|.Subscript _ _ _=>yx|.List _ _=>yx|.IfExp _ _ _ _=>yx|.Compare _ _ _ _=>yx|_=>yw
def Xvd(h:Xcq b=yx):Xlc b:=by cases b<;>first|(intro o i;rfl)|cases h
abbrev Xc2:Expr->Bool
 |.Set _ _ _=>yw|_=>yx
def Xf6(h:Xc2 e=yx)(x:Vb):Vcj e env x=pure x:=by cases e<;>first|rfl|cases h
abbrev Xjk:Expr->Bool
 |.Name _ _=>yx|.Subscript _ _ _=>yx|.List _ _=>yx|.Constant _ _ _=>yx|_=>yw
def ff{P:Prop}(h:yw=yx):P:=nomatch h
def Xdt(h:Xjk o=yx):attributeBase o name env QfX=eval o env:=by cases o<;>first|rfl|calc ff h
abbrev Xve(c:Co)(o:CmpOp):Bool:=decide (o=opC c)
def Xlx{c:Co}{o:CmpOp}(h:Xve c o=yx):o=opC c:=oD0 h
abbrev Xvf(c:Bo)(o:Operator):Bool:=decide (o=opB c)
def Xtc{c:Bo}{o:Operator}(h:Xvf c o=yx):o=opB c:=oD0 h
abbrev X1v(d:D)(c:Const):Bool:=match d with
 |.int i=>(match c with
  |.int j=>i==j
  |_=>yw)
 |.bl i=>(match c with
  |.bool j=>i==j
  |_=>yw)
 |.non=>(match c with
  |.none=>yx
  |_=>yw)
 |.str i=>(match c with
  |.str j=>decide (i=j)
  |_=>yw)
 |_=>yw
abbrev Xvg:Bl->Option (Str×Bool×String)
 |.len=>yz ("len",yx,"len")|.tuple=>yz ("tuple",yw,"tuple")|.list=>yz ("list",yw,"list")|.all=>yz ("all",yx,"all")|.anb=>yz ("any",yx,"any")|.smB=>yz ("sum",yx,"sum")|.max=>yz QxU|.mxl=>yz QxU|.min=>yz ("min",yx,"min")|.sorted=>yz ("sorted",yx,"sorted")
abbrev Xvh:Bl->Bool
 |.len=>yx|.tuple=>yx|.list=>yx|.sorted=>yx|_=>yw
abbrev Yal:Tg->Bool
 |.var _=>yx|_=>yw
abbrev tyB(sc:Vaj)(t:Ty)(nm:Str):Bool:=match t with
 |.cls c=>decide (Xcd c=yz nm)|.int=>decide (nm="int")|.bool=>decide (nm="bool")|.str=>decide (nm="str")|.tuple=>decide (nm="tuple")|.list=>decide (nm="list")|.dict=>decide (nm="dict")|.valueError=>decide (nm="ValueError")
abbrev Xpt:Ty->Bool
 |.cls _=>yw|.valueError=>yw|_=>yx
abbrev Ygb:Mt->Option Str
 |.append=>yz "append"|.xtd=>yz "extend"|.count=>yz "count"|.index=>yz "index"|.popi=>yz "pop"
abbrev Xjl(scope sc:Vaj):Vaj:={scope with names:=scope.names.map λ Qif=>if (k == .free&&sc.kind == .function&&sc.names.lookup n==yz .cell) then (n,.cell) else Qif}
abbrev Y7(scope:Vaj):LS:=scope.names.filterMap λx=>match x.2 with
 |.local=>yz x.1|.cell=>yz x.1|_=>yy
abbrev Xdb(N N2:LS)(x:Str):Bool:=(N2.drop N.length).contains x
def X5x(h:Xdb N QdZ x=yx):own.contains x=true:=by unfold Xdb Xav at h;rw[List.drop_left' QA]at h;calc h
abbrev Xvi(k:ScopeKind):Bool:=match k with
 |.function=>yx|_=>yw
def Xly(h:Xvi k=yx):k=.function:=by cases k<;>first|rfl|cases h
abbrev Xpu(k:Option Vfe):Bool:=match k with
 |some .cell=>yx|some .free=>yx|_=>yw
abbrev Xer(k:Option Vfe):Bool:=match k with
 |some .local=>yx|_=>yw
abbrev Xg6:LS->Bool
 |[]=>yx|x::r=>!(r.contains x)&&Xg6 r
def Xg7:∀ {l:LS},Xg6 l=yx->l.Nodup
 |[],_=>Vg4|x::r,h=>by simp[Xg6,bA0,Uq,List.contains_eq_mem]at h;calc Vdi.mpr ⟨by simpa using h.1,Xg7 h.2⟩
abbrev scB(outer sc:Vaj)(N:LS):Bool:=
 Xvi sc.kind&&Xvi outer.kind&&Xg6 (Xav N Q0T) &&
 sc.names.all (λy=>match y.2 with|.free=>Xpu QSJ && ! Q0T.contains y.1|.local=>Xer (sc.names.lookup y.1)|_=>yx) &&
 N.all (λy=>!(Q0T.contains y)||(sc.names.lookup QVU).isNone)
def Xyf(h:scB outer sc N=yx):ScOk outer sc N Q0T:=by
 simp[scB,bA0]at h;let⟨⟨⟨⟨h1,h2⟩,h3⟩,h5⟩,h6⟩:=h;let ab:∀y∈sc.names,y.2=.free->Xpu QSJ=yx/\y.1 ∉ Y7 sc:=λy B L=>by let:=Uc.mp h5 y B;rw[L]at this;simpa using this
 let aa:∀y∈sc.names,y.2=.cell->y.1∈Y7 sc:=λy B hk=>Ve8.mpr ⟨y,B,by rw[hk]⟩;exact⟨Xly h1,Xly h2,Xg7 h3,aa,λy B L=>Qpa.2,λy B L=>?_,λy B=>?_,λx hx hl=>?_,λy B hc=>?_⟩
 ·let:=Qpa.1;unfold Xpu at this;split at this;·exact .inl Qc2
  ·exact .inr Qc2
  cases this
 ·exact Ve8.mpr ⟨(y,.local),Xdl B,rfl⟩
 ·let:=Uc.mp h5 x hx;rw[hl]at this;dsimp at this;unfold Xer at this;split at this;·assumption
  ·cases this
 let:=Uc.mp h6 y B;rw[hc]at this;simp[Vc7,Bool.false_or,Vjt]at this;calc this
abbrev Xvj:It->Bool
 |.zpp _=>yx|.enm _=>yx|_=>yw
abbrev Xg8(t:Tg)(it:It):Bool:=!Xvj it || !Yal t
abbrev X1w:Expr->Bool
 |.Name _ _=>yx|.Subscript _ _ _=>yx|.List _ _=>yx|_=>yw
abbrev mnC(i:Int)(e:Expr):Bool:=match e with
 |.UnaryOp o x _=>(match o with
  |.USub=>(match x with
   |.Constant c _ _=>(match c with
    |.int j=>i==j
    |_=>yw)
   |_=>yw)
  |_=>yw)
 |_=>yw
abbrev Yam(l:Option Int)(lo:Option Expr):Bool:=match l with
 |none=>lo.isNone|some k=>lo.any λx=>mnC k x
abbrev X1x(i:Int)(l:Option Int)(e:Expr):Bool:=match e with
 |.Slice lo hi st _=>hi.isNone&&st.any λst=>mnC i st&&Yam l lo|_=>yw
def any_some{α:Type}{o:Option α}{p:α->Bool}(h:o.any p=yx):∃x,o=yz x/\p x=true:=by
 cases o with
 |none=>cases h|some x=>calc⟨x,rfl,h⟩
def Ys{α:Type}{z:α}{P:Prop}(h:(yy:Option α)=yz z):P:=nomatch h
abbrev vNm(e:Expr):Option Str:=match e with
 |.Name x _=>yz x|_=>yy
def Xan{e:Expr}{x:Str}(h:vNm e=yz x):∃p,e=.Name x p:=by
 cases e with
 |Name _ _=>cases h;calc Qe|_=>calc Ys h
abbrev Yan(e:Expr):Option Const:=match e with
 |.Constant c _ _=>yz c|_=>yy
def X5y{e:Expr}{x:Const}(h:Yan e=yz x):∃k p,e=.Constant x k p:=by
 cases e with
 |Constant _ _ _=>cases h;calc Q88|_=>calc Ys h
abbrev vUn(e:Expr):Option (UnaryOp×Expr):=match e with
 |.UnaryOp o x _=>yz (o,x)|_=>yy
def Xyg{e:Expr}{z:UnaryOp×Expr}(h:vUn e=yz z):∃p,e=.UnaryOp z.1 z.2 p:=by
 cases e with
 |UnaryOp _ _ _=>cases h;calc Qe|_=>calc Ys h
abbrev Yao(o:UnaryOp):Bool:=decide (o=.USub)
def X5z(h:Yao o=yx):o=.USub:=oD0 h
abbrev Yap(o:UnaryOp):Bool:=decide (o=.Not)
def X50(h:Yap o=yx):o=.Not:=oD0 h
abbrev Xlz(e:Expr):Option (LX):=match e with
 |.Tuple xs _ _=>yz xs|_=>yy
def Xcr{e:Expr}{x:LX}(h:Xlz e=yz x):∃k p,e=.Tuple x k p:=by
 cases e with
 |Tuple _ _ _=>cases h;calc Q88|_=>calc Ys h
abbrev Yaq(e:Expr):Option (LX):=match e with
 |.List xs _=>yz xs|_=>yy
def X51{e:Expr}{x:LX}(h:Yaq e=yz x):∃p,e=.List x p:=by
 cases e with
 |List _ _=>cases h;calc Qe|_=>calc Ys h
abbrev Yar(e:Expr):Bool:=match e with
 |.Dict ks vs _=>ks.isEmpty&&vs.isEmpty|_=>yw
def X52{e:Expr}(h:Yar e=yx):∃p,e=.Dict [] [] p:=by
 cases e with
 |Dict ks vs p=>let h:(ks.isEmpty&&vs.isEmpty)=true:=h;rw[bA0,Vbh,Vbh]at h;let⟨rfl,rfl⟩:=h;calc Qe|_=>calc ff h
abbrev Yas(e:Expr):Option (Expr×Operator×Expr):=match e with
 |.BinOp x o y _=>yz (x,o,y)|_=>yy
def X53{e:Expr}{z:Expr×Operator×Expr}(h:Yas e=yz z):∃p,e=.BinOp z.1 z.2.1 z.2.2 p:=by
 cases e with
 |BinOp _ _ _ _=>cases h;calc Qe|_=>calc Ys h
abbrev Xbf{α:Type}(l:List α):Option (α×α):=match l with
 |Qm9=>yz (x,y)|_=>yy
def Xcs{α:Type}{l:List α}{z:α×α}(h:Xbf l=yz z):l=QFf:=by
 unfold Xbf at h;split at h;·cases h;rfl
 ·cases h
abbrev Xd5{α:Type}(l:List α):Option α:=match l with
 |[x]=>yz x|_=>yy
def Xbp{α:Type}{l:List α}{x:α}(h:Xd5 l=yz x):l=[x]:=by
 unfold Xd5 at h;split at h;·cases h;rfl
 ·cases h
abbrev tyM(sc:Vaj)(ts:List Ty)(y:Expr):Bool:=((Xd5 ts).any λt=>QYf.any λnm=>glB sc nm&&Y6 nm&&tyB sc t nm)||((Xbf ts).any λt=>(Xlz y).any λys=>(Xbf ys).any λz=>QR3.any λB=>(vNm z.2).any λL=>glB sc B&&Y6 B&&glB sc L&&Y6 L&&((Xpt t.1&&Xpt t.2)&&(tyB sc t.1 B&&tyB sc t.2 L)))
abbrev X1y(e:Expr):Option (Expr×List CmpOp×LX):=match e with
 |.Compare x os ys _=>yz (x,os,ys)|_=>yy
def Xtd{e:Expr}{z:Expr×List CmpOp×LX}(h:X1y e=yz z):∃p,e=.Compare z.1 z.2.1 z.2.2 p:=by
 cases e with
 |Compare _ _ _ _=>cases h;calc Qe|_=>calc Ys h
abbrev Xvk(e:Expr):Option (BoolOp×LX×Pos):=match e with
 |.BoolOp o xs p=>yz (o,xs,p)|_=>yy
def X54{e:Expr}{z:BoolOp×LX×Pos}(h:Xvk e=yz z):e=.BoolOp z.1 z.2.1 z.2.2:=by
 cases e with
 |BoolOp _ _ _=>cases h;rfl|_=>calc Ys h
abbrev opA(an:Bool):BoolOp:=if an then .And else .Or
abbrev Xvl(an:Bool)(o:BoolOp):Bool:=decide (o=opA an)
def X55{an:Bool}{o:BoolOp}(h:Xvl an o=yx):o=opA an:=oD0 h
abbrev Xpv(an:Bool)(p:Pos)(l:LX):Option QBY:=match l with
 |Qm9=>yz (x,y)|x::y::z::r=>yz (x,.BoolOp QBK QiD p)|_=>yy
def X56(h:Xpv an p l=yz z):l=QFf\/∃y B r,l=z.1::y::B::r/\z.2=.BoolOp QBK (y::B::r) p:=by
 unfold Xpv at h;split at h;·cases h;exact .inl rfl
 ·cases h;exact .inr ⟨_,_,_,rfl,rfl⟩
 cases h
abbrev vIf(e:Expr):Option (Expr×Expr×Expr):=match e with
 |.IfExp x y z _=>yz (x,y,z)|_=>yy
def Yat{e:Expr}{z:Expr×Expr×Expr}(h:vIf e=yz z):∃p,e=.IfExp z.1 z.2.1 z.2.2 p:=by
 cases e with
 |IfExp _ _ _ _=>cases h;calc Qe|_=>calc Ys h
abbrev Xjm(e:Expr):Option QBY:=match e with
 |.Subscript x y _=>yz (x,y)|_=>yy
def Xdu{e:Expr}{z:Expr×Expr}(h:Xjm e=yz z):∃p,e=.Subscript z.1 z.2 p:=by
 cases e with
 |Subscript _ _ _=>cases h;calc Qe|_=>calc Ys h
abbrev Yau(e:Expr):Option QRI:=match e with
 |.Slice l h yy _=>yz (l,h)|_=>yy
def X57(h:Yau e=yz z):∃p,e=.Slice z.1 z.2 yy p:=by
 cases e with
 |Slice l u st p=>
  cases st with
  |none=>cases h;calc Qe|some _=>cases h
 |_=>calc Ys h
abbrev Xai(e:Expr):Option (Expr×Expr×LX×Pos):=match e with
 |.Call f Qw [] p=>yz (f,y,ys,p)|_=>yy
def Xh8{e:Expr}{z:Expr×Expr×LX×Pos}(h:Xai e=yz z):e=.Call z.1 QA1 [] z.2.2.2:=by
 cases e with
 |Call f xs ks p=>
  cases xs with
  |nil=>cases h|cons y ys=>
   cases ks with
   |nil=>cases h;rfl|cons _ _=>cases h
 |_=>calc Ys h
abbrev Yav(e:Expr):Option Q5a:=match e with
 |.Call f [] [] p=>yz (f,p)|_=>yy
def X58{e:Expr}{z:Expr×Pos}(h:Yav e=yz z):e=.Call z.1 [] [] z.2:=by
 cases e with
 |Call f xs ks p=>
  cases xs with
  |cons _ _=>cases h|nil=>
   cases ks with
   |nil=>cases h;rfl|cons _ _=>cases h
 |_=>calc Ys h
abbrev Xpw(e:Expr):Option (Expr×Str×Pos):=match e with
 |.Attribute o nm p=>yz (o,nm,p)|_=>yy
def Xte(h:Xpw e=yz z):e=.Attribute z.1 z.2.1 z.2.2:=by
 cases e with
 |Attribute _ _ _=>cases h;rfl|_=>calc Ys h
abbrev vLC(e:Expr):Option (Expr×List Vca×Vaj):=match e with
 |.ListComp e gens scope _=>yz (e,gens,scope)|_=>yy
def Yaw{e:Expr}{z:Expr×List Vca×Vaj}(h:vLC e=yz z):∃p,e=.ListComp z.1 z.2.1 z.2.2 p:=by
 cases e with
 |ListComp _ _ _ _=>cases h;calc Qe|_=>calc Ys h
abbrev Xvm(k:Bool)(e:Expr):Bool:=match e with
 |.Slice lo hi st _=>hi.isNone&&(st.any λx=>match x with|.Constant QF2 _ _=>decide (j=2)|_=>yw)&&(lo.any λx=>match x with|.Constant QF2 _ _=>decide (j=if k then 2 else 1)|_=>yw)|_=>yw
abbrev nfz:Ex->Bool
 |.frz _=>yw|_=>yx
abbrev pln(e:Expr):Bool:=match e with
 |.Call ..=>yx|.List ..=>yx|.ListComp ..=>yx|.Dict ..=>yx|.Name ..=>yx|.Subscript ..=>yx|.BinOp ..=>yx|.Tuple ..=>yx|_=>yw
def Yax{e:Expr}(h:pln e=yx)(env:Vb4)(B:Sem Vb):isTrue e env B=QT3:=by
 cases e with
 |Call=>rfl|List=>rfl|ListComp=>rfl|Dict=>rfl|Name=>rfl|Subscript=>rfl|BinOp=>rfl|Tuple=>rfl|_=>cases h
section
variable(cm:Bool)(fns:LF)(gns:LS)
abbrev mtT(top:Str->Bool)(sc:Vaj)(N:LS):Tg->Expr->Bool
 |.var i,e=>QLS.any λx=>decide QjF&&Xpr top sc x|.tup is,e=>QBg.any λes=>namesB is es
where namesB:LN->LX->Bool
 |[],[]=>yx
 |i::is,e::es=>(QLS.any λx=>decide QjF&&Xpr top sc x)&&namesB is es
 |_,_=>yw
abbrev fnB(f:Nat)(x:Str)(n:Nat):Bool:=match fns[f]? with
 |some QaC=>decide (nm=x)&&decide (ar=n)&&(cm || !fl)|none=>yw
abbrev blB(k:Bl)(x:Str):Bool:=match Xvg k with
 |some (nm,_,_)=>decide QIh|none=>yw
abbrev mtB(k:Mt)(nm:Str):Bool:=match Ygb k with
 |some m=>decide (nm=m)|none=>yw
mutual
abbrev mt(sc:Vaj)(N:LS):Ex->Expr->Bool
 |.nev,_=>yx|.var i,e=>QLS.any λx=>decide QjF&&Xvc sc x&&Y6 x|.cst d,e=>(Yan e).any λc=>X1v d c|.neg a,e=>QXf.any λz=>Yao z.1&&mt sc N a z.2|.glb k,e=>QLS.any λx=>decide (gns[k]?=yz x)&&glB sc x&&Y6 x|.tup es,e=>QBg.any λxs=>mts sc N es xs|.lst es,e=>(Yaq e).any λxs=>mts sc N es xs|.dct0,e=>Yar e|.isi a ts,e=>QK6.any λz=>QR3.any λ(f:Str)=>decide (f="isinstance")&&glB sc f&&Xz z.2.1&&mt sc N a z.2.1&&(Xd5 z.2.2.1).any λy=>tyM sc ts y|.bin op a b,e=>(Yas e).any λz=>Xvf op z.2.1&&mt sc N a z.1&&mt sc N b z.2.2|.cmp op a b,e=>Qdg.any λz=>QYZ.any λo=>(Xd5 z.2.2).any λy=>Xve op o && !(Vhq QnD y)&&mt sc N a z.1&&mt sc N b y|.chn o1 o2 a b c,e=>Qdg.any λz=>(Xbf z.2.1).any λo=>(Xbf z.2.2).any λy=>Xve o1 o.1&&Xve o2 o.2 && !(lastMarks Qs8 [y.1,y.2])&&mt sc N a z.1&&mt sc N b y.1&&mt sc N c y.2|.and a b,e=>QPZ.any λz=>Xvl yx z.1&&(Xpv yx z.2.2 z.2.1).any λy=>mt sc N a y.1&&mt sc N b y.2|.or a b,e=>QPZ.any λz=>Xvl yw z.1&&(Xpv yw z.2.2 z.2.1).any λy=>mt sc N a y.1&&mt sc N b y.2|.not a,e=>QXf.any λz=>Yap z.1&&mt sc N a z.2|.ite c a b,e=>(vIf e).any λz=>mt sc N c z.1&&mt sc N a z.2.1&&mt sc N b z.2.2|.idx a i,e=>Q2T.any λz=>Xcq z.2&&mt sc N a z.1&&mt sc N i z.2|.call f es,e=>QK6.any λz=>QR3.any λx=>fnB cm fns f x QA1.length&&glB sc x&&Y6 x&&mts sc N es QA1|.blt k es,e=>QK6.any λz=>QR3.any λx=>blB k x&&QJZ&&glB sc x&&Y6 x&&mts sc N es QA1|.mth k o es,e=>QK6.any λz=>Qhc.any λx=>mtB k x.2.1&&Xjk x.1&&Q5G&&decide QaT&&mt sc N o x.1&&mts sc N es QA1|.cmr k n gs elt,e=>(vLC e).any λz=>cm && !k&&decide ((Y7 z.2.2).length=n)&&scB sc z.2.2 N&&mtG sc N QKU QAP gs z.2.1&&mt QKU QAP elt z.1|.sli a lo hi,e=>Q2T.any λz=>(Yau z.2).any λy=>mt sc N a z.1&&mto sc N lo y.1&&mto sc N hi y.2|.cal f es,e=>QK6.any λz=>cm&&X1w z.1&&mt sc N f z.1&&mts sc N es QA1|.rev a,e=>Q2T.any λz=>X1x 1 yy z.2&&mt sc N a z.1|.sst a,e=>QK6.any λz=>QR3.any λ(x:Str)=>decide QPX&&cm&&glB sc x&&z.2.2.1.isEmpty&&QIO.any λy=>QKS.any λ(x2:Str)=>decide (x2="set")&&glB sc x2&&y.2.2.1.isEmpty&&Xz y.2.1&&mt sc N a y.2.1|.frz a,e=>nfz a&&pln e&&mt sc N a e|.st0,e=>(Yav e).any λz=>QR3.any λ(x:Str)=>decide (x="set")&&glB sc x|.sad o es,e=>QK6.any λz=>Qhc.any λx=>decide (x.2.1=("add" : Str))&&Xjk x.1&&Q5G&&decide QaT&&mt sc N o x.1&&mts sc N es QA1|.srs a,e=>QK6.any λz=>QR3.any λ(x:Str)=>decide QPX&&cm&&glB sc x&&z.2.2.1.isEmpty&&Xz z.2.1&&mt sc N a z.2.1|.st2 k a,e=>Q2T.any λz=>Xvm k z.2&&mt sc N a z.1|.lrg t QU9,e=>QK6.any λz=>QR3.any λ(x:Str)=>decide (x=lrN t)&&cm&&glB sc x&&z.2.2.1.isEmpty&&QIO.any λy=>QKS.any λ(x2:Str)=>decide (x2="range")&&glB sc x2&&y.2.2.1.isEmpty&&Xz y.2.1&&mt sc N a y.2.1|.lrg _ _,_=>yw
abbrev mto(sc:Vaj)(N:LS):Op->Option Expr->Bool
 |.none,yy=>yx|.some e,yz x=>mt sc N e x|_,_=>yw
abbrev mts(sc:Vaj)(N:LS):Exs->LX->Bool
 |.nil,[]=>yx|.cons e es,x::xs=>Xz x&&mt sc N e x&&mts sc N es xs|_,_=>yw
abbrev mtG(sc:Vaj)(N:LS)(sc2:Vaj)(N2:LS):Gens->List Vca->Bool
 |.nil,_=>yw|.cons t it ifs gs,l=>match l with
  |[]=>yw|c::r=>(c.is_async==0)&&Xc2 c.iter&&mtT QCF sc2 N2 t c.target&&mtI sc N it c.iter&&mts sc2 N2 ifs c.ifs&&Xg8 t it&&match gs with
   |.nil=>r.isEmpty|.cons t2 it2 ifs2 g3=>match r with
    |[]=>yw|c2::r2=>(c2.is_async==0)&&Xc2 c2.iter&&mtT QCF sc2 N2 t2 c2.target&&mtI sc2 N2 it2 c2.iter&&mts sc2 N2 ifs2 c2.ifs&&Xg8 t2 it2&&r2.isEmpty&&match g3 with
     |.nil=>yx|.cons ..=>yw
abbrev mtI(sc:Vaj)(N:LS):It->Expr->Bool
 |.val e,x=>mt sc N e x|.rng es,e=>QK6.any λz=>QR3.any λ(x:Str)=>decide (x="range")&&glB sc x&&mts sc N es QA1|.zpp es,e=>QK6.any λz=>QR3.any λ(x:Str)=>decide (x="zip")&&glB sc x&&mts sc N es QA1|.enm es,e=>QK6.any λz=>QR3.any λ(x:Str)=>decide (x="enumerate")&&glB sc x&&mts sc N es QA1
end
universe e
section
variable{cm:Bool}{fns:LF}{gns:LS}{sc sc2:Vaj}{N N2:LS}{t t2:Tg}{it it2:It}{ifs ifs2:Exs}
def Yez(h:mtG cm fns gns sc N sc2 N2 .nil gens=yx):False:=by cases h
def Ye0(h:mtG cm fns gns sc N sc2 N2 QdM gens=yx):∃tg iter B,gens=[⟨tg,iter,B,0⟩]/\Xc2 iter=yx/\mtT QCF sc2 N2 t tg=yx/\mtI cm fns gns sc N it iter=yx/\mts cm fns gns sc2 N2 ifs B=yx/\Xg8 t it=true:=by
 cases gens with
 |nil=>cases h|cons c r=>let⟨tg,iter,B,a⟩:=c;let h:QqX=true:=h;simp[bA0,beq_iff_eq,Vbh]at h;let⟨⟨⟨⟨⟨⟨h1,h2⟩,h3⟩,h4⟩,h5⟩,L⟩,h7⟩:=h;subst h1 h7;calc⟨tg,iter,B,rfl,h2,h3,h4,h5,L⟩
def Ye1(h:mtG cm fns gns sc N sc2 N2 (.cons t it ifs Q36) gens=yx):∃tg iter cs aa B L,gens=[QgE,⟨aa,B,L,0⟩]/\Xc2 iter=yx/\Xc2 B=yx/\mtT QCF sc2 N2 t tg=yx/\mtI cm fns gns sc N it iter=yx/\mts cm fns gns sc2 N2 ifs cs=yx/\mtT QCF sc2 N2 t2 aa=yx/\mtI cm fns gns sc2 N2 it2 B=yx/\mts cm fns gns sc2 N2 ifs2 L=yx/\Xg8 t it=yx/\Xg8 t2 it2=true:=by
 cases gens with
 |nil=>cases h|cons c r=>
  let⟨tg,iter,cs,a⟩:=c;cases r with
  |nil=>let h:QqX=true:=h;simp[Vct,Vs]at h|cons c2 r=>let⟨aa,B,L,a2⟩:=c2;let h:QqX=true:=h;simp[bA0,beq_iff_eq,Vbh]at h;let⟨⟨⟨⟨⟨⟨h1,h3⟩,h5⟩,h6⟩,h7⟩,ae⟩,⟨⟨⟨⟨⟨⟨h2,h4⟩,h8⟩,h9⟩,af⟩,ac⟩,ab⟩,_⟩:=h;subst h1 h2 ab;calc⟨tg,iter,cs,aa,B,L,rfl,h3,h4,h5,h6,h7,h8,h9,af,ae,ac⟩
def Ye2(h:mtG cm fns gns sc N sc2 N2 (.cons t it ifs (.cons t2 it2 ifs2 (.cons t3 it3 ifs3 gs3))) gens=yx):False:=by
 cases gens with
 |nil=>cases h|cons c r=>cases r<;>(let h:QqX=true:=h;simp[Vct,Vs]at h)
def Xc8{e:Expr}{q:Expr×Expr×LX×Pos->Str->Bool}(h:(QK6.any λz=>QR3.any λx=>q z x)=yx):∃x p y ys B,e=.Call Q7I Qw [] B/\q (.Name x p,y,ys,B) x=true:=by let⟨⟨f,y,ys,B⟩,h1,h2⟩:=any_some h;let⟨x,h3,h4⟩:=any_some h2;let e1:=Xh8 h1;subst e1;let L:vNm f=yz x:=h3;let⟨p,e2⟩:=Xan L;subst e2;calc⟨x,p,y,ys,B,rfl,h4⟩
def Yay{i:Nat}{e:Expr}(h:mt cm fns gns sc N QJ1 e=yx):∃x p,e=.Name x p/\N[i]?=yz x/\Xvc sc x=yx/\Y6 x=true:=by let⟨x,h1,h2⟩:=any_some h;let⟨p,rfl⟩:=Xan h1;simp[bA0,decide_eq_true_eq]at h2;calc QPF
def Yaz{d:D}{e:Expr}(h:mt cm fns gns sc N QvW e=yx):∃c k p,e=.Constant c k p/\X1v d c=true:=by let⟨c,h1,h2⟩:=any_some h;let⟨k,p,rfl⟩:=X5y h1;calc⟨c,k,p,rfl,h2⟩
def Ya0{a:Ex}{e:Expr}(h:mt cm fns gns sc N (.neg a) e=yx):∃x p,e=.UnaryOp .USub x p/\mt cm fns gns sc N a x=true:=by let⟨⟨o,x⟩,h1,h2⟩:=any_some h;let⟨p,rfl⟩:=Xyg h1;rw[bA0]at h2;let e1:=X5z h2.1;dsimp at e1;subst e1;calc Q4R
def Ya1{a:Ex}{e:Expr}(h:mt cm fns gns sc N Q6f e=yx):∃x p,e=.UnaryOp .Not x p/\mt cm fns gns sc N a x=true:=by let⟨⟨o,x⟩,h1,h2⟩:=any_some h;let⟨p,rfl⟩:=Xyg h1;rw[bA0]at h2;let e1:=X50 h2.1;dsimp at e1;subst e1;calc Q4R
def Ya2{k:Nat}{e:Expr}(h:mt cm fns gns sc N (.glb k) e=yx):∃x p,e=.Name x p/\gns[k]?=yz x/\glB sc x=yx/\Y6 x=true:=by let⟨x,h1,h2⟩:=any_some h;let⟨p,rfl⟩:=Xan h1;simp[bA0,decide_eq_true_eq]at h2;calc QPF
def Ya3{es:Exs}{e:Expr}(h:mt cm fns gns sc N QJd e=yx):∃xs k p,e=.Tuple xs k p/\mts cm fns gns sc N es xs=true:=by let⟨x,h1,h2⟩:=any_some h;let⟨k,p,rfl⟩:=Xcr h1;calc⟨x,k,p,rfl,h2⟩
def Ya4{es:Exs}{e:Expr}(h:mt cm fns gns sc N QUM e=yx):∃xs p,e=.List xs p/\mts cm fns gns sc N es xs=true:=by let⟨x,h1,h2⟩:=any_some h;let⟨p,rfl⟩:=X51 h1;calc⟨x,p,rfl,h2⟩
def X59(h:mt cm fns gns sc N .dct0 e=yx):∃p,e=.Dict [] [] p:=by calc X52 h
def Ya5{op:Bo}{a b:Ex}{e:Expr}(h:mt cm fns gns sc N (.bin op a b) e=yx):∃x y p,e=.BinOp x QhG y p/\mt cm fns gns sc N a x=yx/\mt cm fns gns sc N b y=true:=by let⟨⟨x,o,y⟩,h1,h2⟩:=any_some h;let⟨p,rfl⟩:=X53 h1;simp[bA0]at h2;let e1:=Xtc h2.1.1;subst e1;calc⟨x,y,p,rfl,h2.1.2,h2.2⟩
def Ya6{op:Co}{a b:Ex}{e:Expr}(h:mt cm fns gns sc N (.cmp op a b) e=yx):∃x y p,e=.Compare x [opC op] [y] p/\Vhq QnD y=yw/\mt cm fns gns sc N a x=yx/\mt cm fns gns sc N b y=true:=by let⟨⟨x,os,ys⟩,h1,h2⟩:=any_some h;let⟨o,h3,h4⟩:=any_some h2;let⟨y,L,B⟩:=any_some h4;let⟨p,rfl⟩:=Xtd h1;let e1:os=[o]:=Xbp h3;let e2:ys=[y]:=Xbp L;subst e1 e2;simp[bA0,Uq]at B;let e3:=Xlx B.1.1.1;subst e3;calc⟨x,y,p,rfl,B.1.1.2,B.1.2,B.2⟩
def Ya7{B L:Co}{a b c:Ex}{e:Expr}(h:mt cm fns gns sc N (.chn B L a b c) e=yx):∃x y z p,e=.Compare x QWY [y,z] p/\lastMarks QWY [y,z]=yw/\mt cm fns gns sc N a x=yx/\mt cm fns gns sc N b y=yx/\mt cm fns gns sc N c z=true:=by let⟨⟨x,os,ys⟩,h1,h2⟩:=any_some h;let⟨⟨p1,p2⟩,h3,h4⟩:=any_some h2;let⟨⟨y,z⟩,h5,h6⟩:=any_some h4;let⟨p,rfl⟩:=Xtd h1;let e1:os=[p1,p2]:=Xcs h3;let e2:ys=[y,z]:=Xcs h5;subst e1 e2;rw[bA0,bA0,bA0,bA0,bA0,Uq]at h6;let⟨⟨⟨⟨⟨k1,k2⟩,k3⟩,k4⟩,k5⟩,k6⟩:=h6;let e3:=Xlx k1;let e4:=Xlx k2;dsimp at e3 e4;subst e3 e4;calc⟨x,y,z,p,rfl,k3,k4,k5,k6⟩
def Xtf{an:Bool}{a b:Ex}{e:Expr}(h:(QPZ.any λz=>Xvl an z.1&&(Xpv an z.2.2 z.2.1).any λy=>mt cm fns gns sc N a y.1&&mt cm fns gns sc N b y.2)=yx):
  (∃x y p,e=.BoolOp QBK Qm9 p/\mt cm fns gns sc N a x=yx/\mt cm fns gns sc N b y=yx)\/∃x y z r p,e=.BoolOp QBK QYL p/\mt cm fns gns sc N a x=yx/\mt cm fns gns sc N b (.BoolOp QBK QiD p)=true:=by
 let⟨⟨o,xs,p⟩,h1,h2⟩:=any_some h;let e1:=X54 h1;subst e1;rw[bA0]at h2;let e2:=X55 h2.1;dsimp at e2;subst e2;let⟨⟨x,y⟩,h3,B⟩:=any_some h2.2;rw[bA0]at B;rcases X56 h3 with e3|⟨y1,y2,r,e3,L⟩;·dsimp at e3;subst e3;exact .inl ⟨x,y,p,rfl,B.1,B.2⟩
 ·dsimp at e3 L;subst e3 L;calc .inr ⟨x,y1,y2,r,p,rfl,B.1,B.2⟩
def Ya8(h:mt cm fns gns sc N Qhb e=yx):(∃x y p,e=.BoolOp .And Qm9 p/\mt cm fns gns sc N a x=yx/\mt cm fns gns sc N b y=yx)\/∃x y z r p,e=.BoolOp .And QYL p/\mt cm fns gns sc N a x=yx/\mt cm fns gns sc N b QMN=true:=by calc Xtf (an:=yx) h
def Ye3(h:mt cm fns gns sc N QQd e=yx):(∃x y p,e=.BoolOp .Or Qm9 p/\mt cm fns gns sc N a x=yx/\mt cm fns gns sc N b y=yx)\/∃x y z r p,e=.BoolOp .Or QYL p/\mt cm fns gns sc N a x=yx/\mt cm fns gns sc N b QcO=true:=by calc Xtf (an:=yw) h
def Ya9{c a b:Ex}{e:Expr}(h:mt cm fns gns sc N QnF e=yx):∃x y z p,e=.IfExp x y z p/\mt cm fns gns sc N c x=yx/\mt cm fns gns sc N a y=yx/\mt cm fns gns sc N b z=true:=by let⟨⟨x,y,z⟩,h1,h2⟩:=any_some h;let⟨p,rfl⟩:=Yat h1;simp[bA0]at h2;calc⟨x,y,z,p,rfl,h2.1.1,h2.1.2,h2.2⟩
def Yba{a i:Ex}{e:Expr}(h:mt cm fns gns sc N (.idx a i) e=yx):∃x y p,e=.Subscript x y p/\Xcq y=yx/\mt cm fns gns sc N a x=yx/\mt cm fns gns sc N i y=true:=by let⟨⟨x,y⟩,h1,h2⟩:=any_some h;let⟨p,rfl⟩:=Xdu h1;simp[bA0]at h2;calc⟨x,y,p,rfl,h2.1.1,h2.1.2,h2.2⟩
def Xyh{k:Bool}{n:Nat}{gs:Gens}{elt:Ex}{e:Expr}(h:mt cm fns gns sc N (.cmr k n gs elt) e=yx):∃B gens scope p,e=.ListComp B gens scope p/\cm=yx/\k=yw/\QM3.length=n/\scB sc scope N=yx/\mtG cm fns gns sc N QxI QHO gs gens=yx/\mt cm fns gns QxI QHO elt B=true:=by let⟨⟨B,gens,scope⟩,h1,h2⟩:=any_some h;let⟨p,rfl⟩:=Yaw h1;simp[bA0,decide_eq_true_eq,Uq]at h2;let⟨⟨⟨⟨⟨L,h1⟩,h2⟩,h3⟩,h4⟩,h5⟩:=h2;calc⟨B,gens,scope,p,rfl,L,h1,h2,h3,h4,h5⟩
def X3s{n1 n2:Str}{cm:Bool}{M:Expr->Bool}(h:(QK6.any λz=>QR3.any λ(x:Str)=>decide (x=n1)&&cm&&glB sc x&&z.2.2.1.isEmpty&&QIO.any λy=>QKS.any λ(x2:Str)=>decide (x2=n2)&&glB sc x2&&y.2.2.1.isEmpty&&Xz y.2.1&&M y.2.1)=yx):
  ∃p p2 x cp B,e=.Call (.Name n1 p) [.Call (.Name n2 p2) [x] [] B] [] cp/\cm=yx/\glB sc n1=yx/\glB sc n2=yx/\Xz x=yx/\M x=true:=by
 let⟨x,p,y,ys,cp,rfl,h1⟩:=Xc8 h;rw[bA0,bA0,bA0,bA0]at h1;let⟨⟨⟨⟨e1,e2⟩,e3⟩,e4⟩,h2⟩:=h1;let⟨x2,p2,y2,ae,B,rfl,h3⟩:=Xc8 h2;rw[bA0,bA0,bA0,bA0]at h3;let⟨⟨⟨⟨f1,f2⟩,f3⟩,f4⟩,f5⟩:=h3;let ac:=oD0 e1;let ab:=oD0 f1;subst ac ab;let L:=Vbh.mp e4;let aa:=Vbh.mp f3;dsimp at L aa;subst L aa;calc⟨p,p2,y2,cp,B,rfl,e2,e3,f2,f4,f5⟩
def Ybb{t:Bool}(h:mt cm fns gns sc N (.lrg t QU9) e=yx):∃p p2 x L B,e=.Call Q4X [.Call QaP [x] [] B] [] L/\cm=yx/\glB sc QrN=yx/\glB sc "range"=yx/\Xz x=yx/\mt cm fns gns sc N a x=true:=by calc X3s h
def Ybc(h:mt cm fns gns sc N (.sst a) e=yx):∃p p2 x L B,e=.Call QZP [.Call QXG [x] [] B] [] L/\cm=yx/\glB sc "sorted"=yx/\glB sc "set"=yx/\Xz x=yx/\mt cm fns gns sc N a x=true:=by calc X3s h
def Ye4{nm:Str}{cm:Bool}{M:Expr->Bool}(h:(QK6.any λz=>QR3.any λ(x:Str)=>decide QIh&&cm&&glB sc x&&z.2.2.1.isEmpty&&Xz z.2.1&&M z.2.1)=yx):∃p x L,e=.Call (.Name nm p) [x] [] L/\cm=yx/\glB sc nm=yx/\Xz x=yx/\M x=true:=by let⟨x,p,y,ys,L,rfl,h1⟩:=Xc8 h;rw[bA0,bA0,bA0,bA0,bA0]at h1;let⟨⟨⟨⟨⟨e1,e2⟩,e3⟩,e4⟩,e5⟩,h2⟩:=h1;let aa:=oD0 e1;let B:=Vbh.mp e4;dsimp at B;subst aa B;calc⟨p,y,L,rfl,e2,e3,e5,h2⟩
def Xkk(h:mt cm fns gns sc N (.frz a) e=yx):(nfz a=yx/\pln e=yx)/\mt cm fns gns sc N a e=true:=QZG.imp (bA0 _ _).mp id
def Ybd(h:mt cm fns gns sc N QFa e=yx):∃x p y ys B,e=.Call Q7I Qw [] B/\blB k x=yx/\QJZ=yx/\glB sc x=yx/\Y6 x=yx/\mts cm fns gns sc N es Qw=true:=by let⟨x,p,y,ys,B,rfl,h1⟩:=Xc8 h;rw[bA0,bA0,bA0,bA0]at h1;calc⟨x,p,y,ys,B,rfl,h1.1.1.1.1,h1.1.1.1.2,h1.1.1.2,h1.1.2,h1.2⟩
def X6a{k:Nat}(h:mt cm fns gns sc N (.call k es) e=yx):∃x p y ys B,e=.Call Q7I Qw [] B/\(∃fl,fns[k]?=yz (x,Qw.length,fl)/\QCU)/\glB sc x=yx/\Y6 x=yx/\mts cm fns gns sc N es Qw=true:=by
 let⟨x,p,y,ys,B,rfl,h1⟩:=Xc8 h;rw[bA0,bA0,bA0]at h1;calc⟨x,p,y,ys,B,rfl,?_,h1.1.1.2,h1.1.2,h1.2⟩;let h2:=h1.1.1.1;unfold fnB at h2;split at h2;·rename_i nm L fl e;simp[bA0,decide_eq_true_eq,Vbc,Uq]at h2;let⟨⟨rfl,rfl⟩,h2⟩:=h2;exact⟨fl,e,λz=>by rcases h2 with h2|h2;calc h2;rw[z]at h2;cases h2⟩
 ·cases h2
def Ybe{k:Mt}{o:Ex}{es:Exs}{e:Expr}(h:mt cm fns gns sc N QjW e=yx):∃L nm ap y ys cp,e=.Call (.Attribute L nm ap) Qw [] cp/\mtB k nm=yx/\Xjk L=yx/\QG7=yx/\Qw.length<29/\mt cm fns gns sc N o L=yx/\mts cm fns gns sc N es Qw=true:=by let⟨⟨f,y,ys,cp⟩,h1,h2⟩:=any_some h;let⟨⟨L,nm,ap⟩,h3,B⟩:=any_some h2;let e1:=Xh8 h1;subst e1;let aa:Xpw f=yz Qvg:=h3;let e2:=Xte aa;subst e2;rw[bA0,bA0,bA0,bA0,bA0]at B;calc⟨L,nm,ap,y,ys,cp,rfl,B.1.1.1.1.1,B.1.1.1.1.2,B.1.1.1.2,oD0 B.1.1.2,B.1.2,B.2⟩
def Ybf{o:Ex}{es:Exs}{e:Expr}(h:mt cm fns gns sc N Q9a e=yx):∃L ap y ys cp,e=.Call (.Attribute L "add" ap) Qw [] cp/\Xjk L=yx/\QG7=yx/\Qw.length<29/\mt cm fns gns sc N o L=yx/\mts cm fns gns sc N es Qw=true:=by let⟨⟨f,y,ys,cp⟩,h1,h2⟩:=any_some h;let⟨⟨L,nm,ap⟩,h3,B⟩:=any_some h2;let e1:=Xh8 h1;subst e1;let aa:Xpw f=yz Qvg:=h3;let e2:=Xte aa;subst e2;rw[bA0,bA0,bA0,bA0,bA0]at B;let e3:nm="add":=oD0 B.1.1.1.1.1;subst e3;calc⟨L,ap,y,ys,cp,rfl,B.1.1.1.1.2,B.1.1.1.2,oD0 B.1.1.2,B.1.2,B.2⟩
def Ybg(h:mt cm fns gns sc N .st0 e=yx):∃p B,e=.Call (.Name "set" p) [] [] B/\glB sc "set"=true:=by let⟨⟨f,B⟩,h1,h2⟩:=any_some h;let⟨x,h3,L⟩:=any_some h2;let e1:=X58 h1;subst e1;let⟨p,e2⟩:=Xan h3;cases e2;rw[bA0,decide_eq_true_eq]at L;let⟨rfl,h5⟩:=L;calc⟨p,B,rfl,h5⟩
def Ybh(h:mt cm fns gns sc N (.srs a) e=yx):∃p x B,e=.Call QZP [x] [] B/\cm=yx/\glB sc "sorted"=yx/\Xz x=yx/\mt cm fns gns sc N a x=true:=
 Ye4 h
def Ybi{k:Bool}(h:mt cm fns gns sc N (.st2 k a) e=yx):∃x y p,e=.Subscript x y p/\Xvm k y=yx/\mt cm fns gns sc N a x=true:=by let⟨⟨x,y⟩,h1,h2⟩:=any_some h;let⟨p,rfl⟩:=Xdu h1;rw[bA0]at h2;calc⟨x,y,p,rfl,h2⟩
def Ybj{a:Ex}{ts:List Ty}{e:Expr}(h:mt cm fns gns sc N (.isi a ts) e=yx):∃p0 x y B,e=.Call Qv2 Qm9 [] B/\glB sc "isinstance"=yx/\Xz x=yx/\mt cm fns gns sc N a x=yx/\tyM sc ts y=true:=by let⟨f,p,y,ys,B,rfl,h1⟩:=Xc8 h;rw[bA0,bA0,bA0,bA0]at h1;let⟨⟨⟨⟨h2,h3⟩,h4⟩,h5⟩,h6⟩:=h1;let e1:f="isinstance":=oD0 h2;subst e1;let⟨L,h7,h8⟩:=any_some h6;let e2:ys=[L]:=Xbp h7;subst e2;calc⟨p,y,L,B,rfl,h3,h4,h5,h8⟩
def Ybk(h:tyM sc ts y=yx):(∃t nm p,ts=[t]/\y=.Name nm p/\glB sc nm=yx/\Y6 nm=yx/\tyB sc t nm=yx) \/
  ∃t1 t2 B L p1 p2 k p,ts=QRL/\y=.Tuple [.Name B p1,.Name L p2] k p/\glB sc B=yx/\Y6 B=yx/\glB sc L=yx/\Y6 L=yx/\Xpt t1=yx/\Xpt t2=yx/\tyB sc t1 B=yx/\tyB sc t2 L=true:=by
 unfold tyM at h;rw[Vbc]at h;rcases h with h|h;·let⟨t,h1,h⟩:=any_some h;let⟨nm,h2,k⟩:=any_some h;let⟨p,rfl⟩:=Xan h2;simp[bA0]at k;exact .inl ⟨t,nm,p,Xbp h1,rfl,k.1.1,k.1.2,k.2⟩
 ·let⟨t,h1,h⟩:=any_some h;let⟨ys,h2,h⟩:=any_some h;let⟨z,h3,h⟩:=any_some h;let⟨B,h4,h⟩:=any_some h;let⟨L,h5,k⟩:=any_some h;let⟨kn,p,rfl⟩:=Xcr h2;let⟨p1,e1⟩:=Xan h4;let⟨p2,e2⟩:=Xan h5;let e3:=Xcs h3;rw[e1,e2]at e3;simp[bA0]at k;calc .inr ⟨t.1,t.2,B,L,p1,p2,kn,p,Xcs h1,by rw[e3],k.1.1.1.1,k.1.1.1.2,k.1.1.2,k.1.2,k.2.1.1,k.2.1.2,k.2.2.1,k.2.2.2⟩
def Ybl{a:Ex}{lo hi:Op}{e:Expr}(h:mt cm fns gns sc N (.sli a lo hi) e=yx):∃x l u p2 p,e=.Subscript x (.Slice l u yy p2) p/\mt cm fns gns sc N a x=yx/\mto cm fns gns sc N lo l=yx/\mto cm fns gns sc N hi u=true:=by let⟨⟨x,y⟩,h1,h2⟩:=any_some h;let⟨⟨l,u⟩,L,B⟩:=any_some h2;let⟨p,rfl⟩:=Xdu h1;let⟨p2,e2⟩:=X57 L;dsimp at e2;subst e2;simp[bA0]at B;calc⟨x,l,u,p2,p,rfl,B.1.1,B.1.2,B.2⟩
def Xvn{w:Str}{es:Exs}{e:Expr}(h:(QK6.any λz=>QR3.any λx=>decide (x=w)&&glB sc x&&mts cm fns gns sc N es QA1)=yx):∃p y ys B,e=.Call (.Name w p) Qw [] B/\glB sc w=yx/\mts cm fns gns sc N es Qw=true:=by let⟨x,p,y,ys,B,rfl,h1⟩:=Xc8 h;rw[bA0,bA0]at h1;let e1:x=w:=oD0 h1.1.1;subst e1;calc⟨p,y,ys,B,rfl,h1.1.2,h1.2⟩
def X6b(h:mtI cm fns gns sc N QId e=yx):∃p y ys B,e=.Call (.Name "zip" p) Qw [] B/\glB sc "zip"=yx/\mts cm fns gns sc N es Qw=true:=by calc Xvn h
def X6c(h:mtI cm fns gns sc N Qdd e=yx):∃p y ys B,e=.Call QlM Qw [] B/\glB sc "enumerate"=yx/\mts cm fns gns sc N es Qw=true:=by calc Xvn h
def X6d(h:mtI cm fns gns sc N QNd e=yx):∃p y ys B,e=.Call Q1R Qw [] B/\glB sc "range"=yx/\mts cm fns gns sc N es Qw=true:=by calc Xvn h
def Ybm{f:Ex}{es:Exs}{e:Expr}(h:mt cm fns gns sc N (.cal f es) e=yx):∃B y ys L,e=.Call B Qw [] L/\cm=yx/\X1w B=yx/\mt cm fns gns sc N f B=yx/\mts cm fns gns sc N es Qw=true:=by let⟨⟨B,y,ys,L⟩,h1,h2⟩:=any_some h;let e1:=Xh8 h1;subst e1;rw[bA0,bA0,bA0]at h2;calc⟨B,y,ys,L,rfl,h2.1.1.1,h2.1.1.2,h2.1.2,h2.2⟩
def Ybn{a:Ex}{e:Expr}(h:mt cm fns gns sc N (.rev a) e=yx):∃x y p,e=.Subscript x y p/\X1x 1 yy y=yx/\mt cm fns gns sc N a x=true:=by let⟨⟨x,y⟩,h1,h2⟩:=any_some h;let⟨p,rfl⟩:=Xdu h1;rw[bA0]at h2;calc⟨x,y,p,rfl,h2.1,h2.2⟩
def Xkl{top:Str->Bool}{tg:Expr}(h1:Xg8 t it=yx)(h2:mtT top sc N t tg=yx)(B:Xvj it=yx):∃es k p,tg=.Tuple es k p:=by
 unfold Xg8 at h1;rw[B]at h1;cases t with
 |var i=>cases h1|tup is=>simp[mtT]at h2;let⟨es,L,_⟩:=any_some h2;let⟨k,p,rfl⟩:=Xcr L;calc⟨es,k,p,rfl⟩
universe e
abbrev blts:LS:=["len","tuple","list","all","any","sum","max","min","range","isinstance","sorted","set","str","repr","zip","enumerate","abs","ValueError","int","bool","dict"]
abbrev bmV:LV:=[.type "ValueError",.type "Exception",.type "BaseException",.type "object"]
abbrev X1z:Data->Option ClassData
 |.cls B=>yz B|_=>yy
def X6e{d:Data}{B:ClassData}(h:X1z d=yz B):d=.cls B:=by cases d<;>cases h<;>rfl
abbrev Xpx(K:Vh)(C:Addr):Bool:=match K.lookup C with
 |none=>yw|some o=>match X1z o.data with
  |none=>yw|some B=>o.cls == .type "type" && B.mro == .ref C::B.mro.tail&&o.slots == #[o.slots.getD 0 yy,o.slots.getD 1 yy,o.slots.getD 2 yy,o.slots.getD 3 yy,yz (.builtin "ValueError.__new__"),o.slots.getD 5 yy] && !B.hasDel&&PySem.W.tailIn K bmV B.mro.tail&&PySem.W.nsOkIn K B.ns&&Va3 K B.ns "__init__" == yz yy
abbrev X10(K:Vh):Bool:=
 ((K.lookup Vdf).any λo=>!(o.cls == .type "list"))&&PySem.W.specialIn K QT0 "__get__" == yz QMV&&PySem.W.takesIn K QT0==yz yx &&
 Q8N.all λc=>match Xac K c with
  |some C=>Xpx K C&&(Veu K QE2 "__getattribute__" == yz QW1&&Veu K QE2 "__getattr__" == yz yy&&PySem.W.mroIn K C QC4==yz yx)&&QMO.isSome&&Veu K QE2 "__class__" == yz QNV&&PySem.W.mroIn K C QtA==yz yx &&
   Vg5 K QE2 QHN==yz yx&&Q8N.all λc0=>match Xac K c0 with
    |some B=>Vg5 K QE2 QhW==yz QdC&&(! QdC||PySem.W.exmOne K QE2 QhW==yz yx)|none=>yx
  |none=>QSg.isNone
structure ErrOk(K:Vh):Prop where
 sm:∃o,K.lookup Vdf=yz o/\o.cls≠.type "list"
 gt:PySem.W.specialIn K QT0 "__get__"=yz QMV
 tk:PySem.W.takesIn K QT0=yz yx
 at_:∀c nm,Xcd c=yz nm->∃C,Xac K c=yz C/\Va3 K Up nm=yz QPV
 cls:∀c C,Xac K c=yz C->Xpx K C=yx/\(Veu K QE2 "__getattribute__"=yz QW1/\Veu K QE2 "__getattr__"=yz yy/\PySem.W.mroIn K C QC4=yz yx)/\QMO.isSome=yx/\Veu K QE2 "__class__"=yz QNV/\PySem.W.mroIn K C QtA=yz yx/\Vg5 K QE2 QHN=yz yx
 sub:∀c C c0 C0,Xac K c=yz C->Xac K c0=yz C0->Vg5 K QE2 QSM=yz QdC/\(QdC=yx->PySem.W.exmOne K QE2 QSM=yz yx)
def Xjn{K:Vh}{c:Nat}{C:Addr}(h:Xac K c=yz C):c<lg clsNames:=by
 unfold Xac at h;cases q:Xcd c with
 |none=>rw[q]at h;cases h|some _=>calc Xox q
def X6f{K:Vh}(h:X10 K=yx):ErrOk K:=by
 simp[X10,bA0,beq_iff_eq,Uc,Va1]at h;let⟨⟨⟨B,h1⟩,h2⟩,h3⟩:=h;let ab:∃o,K.lookup Vdf=yz o/\o.cls≠.type "list":=by
  cases q:K.lookup Vdf with
  |none=>rw[q]at B;cases B|some o=>rw[q]at B;calc⟨o,rfl,λz=>?_⟩;rw[Option.any_some,z]at B;cases B
 exact⟨ab,h1,h2,λc nm e=>?_,λc C e=>?_,λc C c0 C0 e e0=>?_⟩
 ·let:=h3 c (Xox e);split at this
  ·rename_i C q;calc⟨C,q,?_⟩;unfold Xac at q;rw[e,Uy]at q;split at q;·rename_i q2;cases q;exact q2
   ·cases q
  rw[e]at this;cases this
 ·let:=h3 c QHg;rw[e]at this;simp[bA0,beq_iff_eq]at this;let⟨⟨⟨⟨⟨⟨a1,⟨⟨a2,aa⟩,L⟩⟩,a3⟩,a4⟩,a5⟩,a6⟩,_⟩:=this;exact⟨a1,⟨a2,aa,L⟩,a3,a4,a5,a6⟩
 let:=h3 c QHg;rw[e]at this;simp[bA0,beq_iff_eq,Uc,Va1]at this;let z:=this.2 c0 (Xjn e0);rw[e0]at z;simp[bA0,beq_iff_eq,Vbc,Uq]at z;calc⟨z.1,λy=>?_⟩;rcases z.2 with z2|z2;·rw[y]at z2;cases z2
 ·calc z2
universe Z
universe e
section
namespace Z
open PySem PySem.Spec PySem.Calls PyProof.Rows L2 PySem.W Builtin Builtin.ObjectAttr Builtin.Getset_descriptor
section
variable{prog:V3}{w:Ua}{A:Uz}{E:VP}{K:Frag}{y D:Addr}
def Xd6(e:ExcO D y h):Looks M h (typeOf Q37) Qi5:=by let⟨ob,_,_,q,B,_⟩:=e;calc B▸(Looks.ld q).andThen .now
def X6g {R:Result->Vc->Prop} (L:K.In s.heap) (e:ExcO D y s.heap) (B:mroIn K D QtA=yz yx) (q:R (.ok (.ret Qi5)) s):
  Vcq Q5 A (.call Qk2 ⟨[.builtin "object.__class__",.ref y,tv],[]⟩) R s:=by
 let⟨hp,gn,dw,tk,os⟩:=s;let T0:=Xd6 (M:=Vj prog w) e;let T1:=looks_mroIn (M:=Vj prog w) L B;calc Vfz KF.slot_gs.plain KF.entry_gs (KF.slot_gs.check _ _ _ _ _ _ _ _ KF.type_class (KF.args_gs _ _ _) ?_);unfold Vbd.«getset_descriptor.__get__» descrGet;rw[dga_obj];calc Va Qz0;unfold descrGetter descrCheckInstance descrNameAndClass isInstance;simp[KF.owner_class]
 repeat lk
 calc⟨Vgt _ Q8,Va0 KF.entry_class ?_⟩;unfold Vbd.«object.__class__» shownTypeOf
 repeat lk
 calc q
def X11 (B:K.In h) (h1:findIn K Qi5 nm=yz Q59) (h2:specialIn K v "__get__"=yz QFS) (h3:takesIn K v=yz yx):Looks M h (find Q37 Qi5 nm) (.bind g v):=by let L:=looks_findIn (M:=M) B h1;let a2:Looks M h (getOf Q59) QFS:=looks_specialIn B h2;let a3:=looks_takesIn (M:=M) B h3;calc L.andThen (a2.andThen ((show Looks M h (dataDescriptor? Q59 QFS) (yz (g,v)) from a3.andThen .now).andThen (Looks.tag .now)))
def Xyi (hK:K.In s.heap) (e:ExcO D y s.heap) (h1:findIn K Qi5 nm=yz Q59) (h2:specialIn K v "__get__"=yz QFS) (B:takesIn K v=yz yx)
  (z:Vg Q5 A Qv8 (λr s1=>Q (.done (.ret r)) s1) E s):
  Vg Q5 A (Vbd.«object.__getattribute__» ⟨[.ref y,.str nm tk],[]⟩) Q E s:=by
 let⟨hp,gn,dw,t0,os⟩:=s;let L:=Xd6 (M:=Vj prog w) e;let T1:=X11 (M:=Vj prog w) (y:=y) hK h1 h2 B;unfold Vbd.«object.__getattribute__»;calc Va Qz0;calc Va Qz0;calc Va (L.at QRT);show Vg Q5 A (Vdp [v] Qv8 >>= ret) _ _ _;calc Va (U2 (Vp z (λr s1 q=>Vd q) λ_ _ q=>q))
def Xyj (hK:K.In s.heap) (e:ExcO D y s.heap) (hm:mroIn K D QC4=yz yx) (q:Q () s):
  Vg Q5 A (Vfy "BaseException.__getattribute__" ⟨[.ref y,nv],[]⟩) Q E s:=by
 let⟨hp,gn,dw,t0,os⟩:=s;let L:=Xd6 (M:=Vj prog w) e;let B:=looks_mroIn (M:=Vj prog w) hK hm;let kd:builtinKind "BaseException.__getattribute__"=yz .slot:=by decide+kernel
 let sp:splitId "BaseException.__getattribute__"=yz ("BaseException","__getattribute__"):=by decide+kernel
 let ao:=PySem.F.args_bexc_ga Q37 nv;simp[Vfy,kd,sp];unfold isInstance;calc Va (Va (L.at (B.at ?_)));rw[iN0 Q1];calc Vf8 ao q
def X12 (B:K.In s.heap) (e:ExcO D y s.heap) (L:findIn K Qi5 "__getattribute__"=yz QW1) (gn:findIn K Qi5 "__getattr__"=yz yy)
  (hm:mroIn K D QC4=yz yx) (h1:findIn K Qi5 nm=yz Q59) (h2:specialIn K v "__get__"=yz QFS) (h3:takesIn K v=yz yx) (hh:handedIn Qi5=yx)
  (z:∀A':Uz,Vg Q5 A' Qv8 (λr s1=>r=.ref D/\Q (yz Qi5) s1) Qa0 QzA):
  Vg Q5 A (getAttr? Q37 nm) Q E s:=by
 let⟨hp,gs,dw,tk,os⟩:=s;let T0:=Xd6 (M:=Vj prog w) e;let T1:=looks_findIn (M:=Vj prog w) B L;let T2:=looks_findIn (M:=Vj prog w) B gn;let T3:=looks_mroIn (M:=Vj prog w) B hm;unfold getAttr? getAttrBy? getAttrBy;calc Va (wpAny_mkText (Va (Vds (U2 (Va (T0.at QRT))))));let aa:(onTheHeap (U1 D)&&Value.builtin "BaseException.__getattribute__" == Value.builtin "object.__getattribute__")=false:=by
  let:(Value.builtin "BaseException.__getattribute__" == Value.builtin "object.__getattribute__")=false:=by decide+kernel
  rw[this,Vct]
 dsimp;rw[iN0 (by rw[aa];calc V0)];unfold getAttrByItsOwn hookBefore;rw[iP0 QsV];calc Va (T2.at (Va (Vds Qtg)));unfold callGetattribute boundAndCalled;rw[iN0 QA];let f3:=PySem.F.excAttr_ValueError.ga.bind Q37;rw[f3];calc Va Qz0;calc wpAny_call (Vfz PySem.F.excAttr_ValueError.ga.plain PySem.F.entry_bexc_ga (Xyj (s:=QqM) B e hm ?_));calc Xyi (s:=QqM) B e h1 h2 h3 (Vp (z _) (λr s1 q=>?_) λ_ _ q=>q.elim);let⟨rfl,q⟩:=q;calc handed_on hh Qgh
def X13 (p1:findIn K Qi5 "__getattribute__"=yz QW1) (p0:findIn K Qi5 "__getattr__"=yz yy) (p7:mroIn K D QC4=yz yx) (p2:(clsIn K D).isSome=yx) (p3:findIn K Qi5 "__class__"=yz QNV)
  (p4:specialIn K QT0 "__get__"=yz QMV) (p5:takesIn K QT0=yz yx) (p6:mroIn K D QtA=yz yx):KitX K Q37 Qi5 (ExcO D y) where
 ty:=λ_ _ _ e=>Xd6 e
 it:=λ_ _ L _=>by
  unfold clsIn at p2;split at p2;·rename_i lk;intro B Q' E' s' k q;unfold isType loadHead;exact Va (wpAny_loadPart (k _ _ (L _ _ lk)) Qgh)
  ·cases p2
 ne:=λhp tp dd its n sl L ht=>by
  exact Vem.mpr λq=>?_;let q':D=tp:=Value.ref.inj (beq_iff_eq.mp q);subst q';unfold clsIn at p2;split at p2;·rename_i lk;cases (L _ _ lk).symm.trans ht
  ·cases p2
 ca:=λ{prog w B E' Q' s'} L e k=>X12 L e p1 p0 p7 p3 p4 p5 rfl λA'=>wpAny_call (X6g (s:={s' with toks:=s'.toks+1}) L e p6 ⟨rfl,k⟩)
universe e
universe Z
universe e
section
namespace Z
open PySem PySem.Spec PyProof.Rows L2
abbrev Xcg:Ty->Option (Str×String)
 |.int=>yz ("int","int")|.bool=>yz ("bool","bool")|.str=>yz ("str","str")|.tuple=>yz ("tuple","tuple")|.list=>yz ("list","list")|.dict=>yz ("dict","dict")|_=>yy
abbrev Xjo:Kd->Option String
 |.non=>yz "NoneType"|.bool=>yz "bool"|.int=>yz "int"|.str=>yz "str"|.tuple=>yz "tuple"|.list=>yz "list"|.dict=>yz "dict"|.exc _=>yy
def Xg9(h:Xcg t=yz QaV):Vew nm=yz QIE:=by cases t<;>simp[Xcg,Vx,Ve6,reduceCtorEq]at h<;>let⟨rfl,rfl⟩:=h<;>decide+kernel
def Xjp(h:Xcg t=yz QaV):nm∈blts:=by cases t<;>simp[Xcg,Vx,Ve6,reduceCtorEq]at h<;>let⟨rfl,rfl⟩:=h<;>decide
def Xl0(B:Xcg t=yz QaV)(L:Xjo k=yz U)(h:isT k t=yz b)(K:Vh):Vg5 K QfT QIE=yz b:=by cases k<;>simp[Xjo,Vx,reduceCtorEq]at L<;>subst L<;>cases t<;>simp[Xcg,Vx,Ve6,reduceCtorEq]at B<;>let⟨rfl,rfl⟩:=B<;>simp[isT,tyQ,Vx]at h<;>subst h<;>kernel_rfl
section
variable{X:Cx}{pc:LA}{σ:L2.St}{H:Hp}{s:Vc}{ρ:LR}{S:Sto}{env:En}{a:Expr}{fa:En->Sto->R D}{pos:Pos}
def X3t(I:S0 X pc σ H s ρ S env)(h:kdD S d=yz k)(L:Xjo k=yz U)(B:RD X.K ρ H d v)(rv:RelV v u):
  ∃P:Heap->Prop,PySem.W.KitX X.K u QfT P/\P s.heap/\u≠.builtin "__main__.__loader__#opaque":=by
 cases d with
 |non=>cases h;cases L;simp[RD]at B;subst B;cases rv;calc⟨_,PySem.W.kitx_none,trivial,λz=>nomatch z⟩|bl b=>cases h;cases L;simp[RD]at B;subst B;cases rv;calc⟨_,PySem.W.kitx_bool,trivial,λz=>nomatch z⟩|int i=>cases h;cases L;simp[RD]at B;subst B;let⟨t,rfl⟩:=rv;calc⟨_,PySem.W.kitx_int,trivial,λz=>nomatch z⟩|str x=>cases h;cases L;simp[RD]at B;subst B;let⟨t,rfl⟩:=rv;calc⟨_,PySem.W.kitx_str,trivial,λz=>nomatch z⟩|tup xs=>cases h;cases L;simp[RD]at B;let⟨p,vs,rfl,hq,_⟩:=B;cases rv;let⟨its,_,pl,_⟩:=I.inv.tuple hq;let⟨o,h1,h2,_⟩:=pl;calc⟨_,PySem.W.kitx_tuple,QSY,λz=>nomatch z⟩|fro xs=>cases h;cases L;simp[RD]at B;let⟨p,vs,rfl,hq,_⟩:=B;cases rv;let⟨its,_,pl,_⟩:=I.inv.list hq.sq;let⟨o,n,h1,h2,_⟩:=pl;calc⟨_,PySem.W.kitx_list,QSY,λz=>nomatch z⟩|fn _ _=>cases h|edc=>cases h;cases L;simp[RD]at B;let⟨p,og,rfl,hv⟩:=B;cases rv;let⟨_,_,_,vs,_,o,es,ep,h1,h2,_⟩:=(show ObjOk X.prog X.w H s.heap p QsW from I.inv.hok p _ hv);exact⟨_,PySem.W.kitx_dict,QzU,λz=>nomatch z⟩|ref n=>
  simp[kdD]at h;simp[RD]at B;let⟨p,rfl,hp⟩:=B;cases rv;split at h;·rename_i xs e;cases h;cases L;let⟨vs,hv,_⟩:=I.sr.ob n p _ hp e;let⟨_,its,n',_,h1⟩:=(show ObjOk X.prog X.w H s.heap p Q93 from I.inv.hok p _ hv);exact⟨_,PySem.W.kitx_list,⟨_,h1,rfl⟩,λz=>nomatch z⟩
  ·rename_i xs e;cases h;cases L;let⟨_,hv⟩:=(show(([]:List QHF)=[]/\H p=yz Q57)\/_ from I.sr.ob n p _ hp e).resolve_right λz=>z.1 rfl;let⟨_,_,vs,_,o,es,ep,h1,h2,_⟩:=(show ObjOk X.prog X.w H s.heap p Q57 from I.inv.hok p _ hv);exact⟨_,PySem.W.kitx_dict,QzU,λz=>nomatch z⟩
  ·cases h;cases L
  cases h
def Xfd (ht:Xcg t=yz QaV) (hb:∀x∈blts,X.mg x=yy) (ae:Gl X "isinstance") (hg:Gl X nm) (hok:Y6 nm=yx) (ha:DE X a fa) (ab:Xz a=yx):
  DE X Qq2 Qf0:=by
 intro pc s σ H ρ S env I nb;dsimp at nb |-;let⟨o1,_,o3⟩:=Xa7 hok;calc Vau Qj2;calc Vbe ?_ (Xj ab) rfl;rw[Xj ab];generalize hr:Qa3=r at nb |-;calc Vbm (ha.bind I QK4 hr.symm (λd S1 u s1 v H1 af e1 aa L rv rd ac=>?_) λ_ _ z=>z);calc Vbm (Ye L.inv hg (hb _ (Xjp ht)) (Xg9 ht) ?_ o3 o1);calc Vdq ?_;cases q:Q3Q.bind λk=>Y4 k [t] with
 |none=>rw[q]at aa;cases aa rfl|some b=>
  let⟨k,q1,B⟩:=Vg8.mp q;let q3:isT k t=yz b:=by
   unfold Y4 at B;cases e:isT k t with
   |none=>rw[e]at B;cases B|some c=>rw[e]at B;cases c<;>simp![Y4]at B<;>rw[B]
  rw[e1,q];cases hU:Xjo k with
  |none=>cases k<;>simp[Xjo,reduceCtorEq]at hU;cases t<;>simp[Xcg,reduceCtorEq]at ht<;>simp[isT,tyQ,reduceCtorEq]at q3|some U=>let⟨P,k1,k2,k3⟩:=X3t L q1 hU rd rv;calc PySem.W.kia_one k1 L.inv.kIn k2 (Xl0 ht hU q3 X.K) k3 λtk=>OkP.pre ac (Xq L.sr (L.inv.tok tk))
def Xyk (er:ErrOk X.K) (ht:(∃c,t=.cls c/\Xcd c=yz nm)\/(t=.valueError/\nm="ValueError")) (hb:∀x∈blts,X.mg x=yy) (ae:Gl X "isinstance") (hg:Gl X nm) (hok:Y6 nm=yx) (ha:DE X a fa) (ac:Xz a=yx):
  DE X Qq2 Qf0:=by
 intro pc s σ H ρ S env I nb;dsimp at nb |-;let⟨o1,_,o3⟩:=Xa7 hok;calc Vau Qj2;calc Vbe ?_ (Xj ac) rfl;rw[Xj ac];generalize hr:Qa3=r at nb |-;exact Vbm (ha.bind I QK4 hr.symm (λd S1 u s1 v H1 af e1 ab B rv rd aa=>?_) λ_ _ z=>z)
 /- the value is an error -/
 cases q:Q3Q.bind λk=>Y4 k [t] with
 |none=>rw[q]at ab;cases ab rfl|some b=>
  rw[e1,q];let⟨k,q1,q2⟩:=Vg8.mp q;let q3:isT k t=yz b:=by
   unfold Y4 at q2;cases e:isT k t with
   |none=>rw[e]at q2;cases q2|some c=>rw[e]at q2;cases c<;>simp![Y4]at q2<;>rw[q2]
  obtain⟨L,rfl⟩:∃L,k=.exc L:=by rcases ht with⟨c,rfl,_⟩|⟨rfl,_⟩<;>cases k<;>first|exact Qe|(simp[isT,tyQ,reduceCtorEq]at q3)
  obtain⟨n,rfl,hS⟩:∃n,d=.ref n/\S1[n]?=yz (.exc L):=by
   cases d with
   |ref n=>
    calc⟨n,rfl,?_⟩;simp[kdD]at q1;split at q1;·cases q1
    ·cases q1
    ·rename_i c2 e;cases q1;exact e
    cases q1|_=>cases q1
  simp[RD]at rd;let⟨p,rfl,hp⟩:=rd;cases rv;let⟨C,hC,hH⟩:=(show ∃C,Xac X.K L=yz C/\H1 p=yz QlQ from B.sr.ob n p _ hp hS);let⟨_,⟨b1,b2,b3⟩,a3,a4,a5,a6⟩:=er.cls L C hC;let hE:ExcO C p s1.heap:=(show ObjOk X.prog X.w H1 s1.heap p QlQ from B.inv.hok p _ hH).1;let kx:=X13 (y:=p) b1 b2 b3 a3 a4 er.gt er.tk a5;rcases ht with⟨c,rfl,hc⟩|⟨rfl,rfl⟩
  ·let⟨C0,h1,h2⟩:=er.at_ c nm hc;let e3:b=(c==0||c==L):=by simp[isT,Vx]at q3;exact q3.symm
   subst e3;calc Vbm (Xe7 B.inv hg (Vdr B.inv.mod.kin B.inv.mod.glob h2) Qfe o1);exact PySem.W.kia_one kx B.inv.kIn hE (er.sub L C c C0 hC h1).1 QY3 λtk=>OkP.pre aa QcJ
  let e3:b=true:=by simp[isT,Vx]at q3;exact q3.symm
  subst e3;calc Vbm (Ye B.inv hg (hb _ Q1) (u:=.type "ValueError") Q8 Qfe o3 o1);calc PySem.W.kia_one kx B.inv.kIn hE a6 QY3 λtk=>OkP.pre aa QcJ
universe e
def X14(I:Inv X pc σ H s):Vdf<s.heap.objs.size:=by let B:=(I.mod.glob.keeps I.bk).lt;calc Uk (show Vdf<Up from by decide) (Vc4 B)
def d_dct0:DE X (.Dict [] [] pos) (λ_ S=>.ok Q7 Q8J):=by
 intro pc s σ H ρ S env I _;let B:H s.heap.objs.size=none:=I.inv.hok.fresh Qd;let L:=X14 I.inv;let new:ObjOk X.prog X.w (upd H s.heap.objs.size Q57) QxP s.heap.objs.size Q57:=
  ⟨Vaq _,beq_eq_false_iff_ne.mpr (λz=>by rw[z]at L;calc aB0 L QfH),[],.nil,Heap.DictOf.new s.heap⟩
 let J:=I.inv.laid (t':=s.toks) Qo9 Qd new;calc wpAny_Dict_empty ?_;calc .mk (v:=.ref s.heap.objs.size) (ρ':=ρ++QmE) Q0Y J rfl ?_ (I.sr.new1 (o:=.dct []) B (.inl ⟨rfl,Xu⟩));simp[RD];calc QZD
def Xh9(n d:Nat)(o:Option Int):Xd0 n d o=HT.sIx n d o:=by
 cases o with
 |none=>rfl|some i=>
  simp[Xd0,HT.sIx];by_cases h:i<0;·rw[iP0 h,iN0 QN7]
  ·rw[iN0 h,iP0 QN7]
def Ybo{K:Vh}{ρ:LR}{H:Hp}{xs:LD}{vs:LW}(h:RDs K ρ H xs vs)(lo hi:Option Int):RDs K ρ H QGU (Xof vs lo hi):=by unfold cut Xof;rw[Xh9,Xh9,h.length];calc(h.drop _).take _
section
variable{prog:V3}{w:Ua}{A:Uz}{E:VP}{s:Vc}
def Xrg{items:AV}{lo hi:Option Int}{Q:VP}(B:Vd5 s.heap t items)(hs:s.heap.IsSliceOf sl vl vu .none)(pl:Vfm vl lo)(pu:Vfm vu hi)
  (h1:HT.sIx items.size 0 lo=0) (h2:HT.sIx items.size items.size hi=items.size) (h:Q QI5 s):Vg Q5 A QTK Q E s:=by
 let⟨os,ab,aa,ac⟩:=id hs;let L:s.TypeIs Q3A "slice" := ⟨os,ab,aa⟩;unfold Vf7
 try with_reducible exact U2 ?_
 first|exact Va Qz0|skip
 calc Va (Vji B.typeIs Q1 (Va (Vat (name:=Vcb "__getitem__") B.typeIs Vbv (Uv Vbv B.typeIs Vio ?_ (Vi5 _ _)))));show Vg _ _ QeH _ _ s;calc Va (tupleItemsOf_ B (Va (Vcm L ?_)));rw[iP0 Q1];calc Va (HT.sliceApplied_gen hs pl pu ?_);show Vg _ _ (if (((HT.sIx items.size 0 lo:Nat):Int)==0&&(1:Int)==1&&(HT.sIx items.size items.size hi-HT.sIx items.size 0 lo)==items.size)=yx then _ else _) _ _ s;rw[h1,h2,iP0 QA];calc Va ?_;unfold Builtin.Tuple.tupleIsExact;calc Va (Vcm B.typeIs Qz0);rw[iP0 Q1];calc Va (Vb3 Qe2)
universe e
theorem Xn5(K:Vh)(ρ:LR)(H:Hp)(o:Option D)(u:Vb):Prop:=match o with
 |none=>u=.none|some d=>∃v,RelV v u/\RD K ρ H d v
theorem DO(X:Cx)(e:Option Expr)(f:En->Sto->R Qw3):Prop:=
 ∀(pc:LA) (s:Vc) (σ:L2.St) (H:Hp) (ρ:LR) (S:Sto) (env:En),S0 X pc σ H s ρ S env->f env S≠.bad ->
  Vg Q3 X.A QyD (λu s'=>∃o S',f env S=.ok o S'/\∃H' ρ',Inv X pc σ H' s'/\SR X.K QY1 ρ' S' H'/\Stp X.K ρ ρ' H H'/\Xn5 X.K ρ' H' o u) Qc4 s
section
variable{X:Cx}{pc:LA}{σ:L2.St}{H:Hp}{s:Vc}{ρ:LR}{S:Sto}{env:En}{a:Expr}{fa:En->Sto->R D}{pos p2:Pos}
def Xtg:DO X yy (λ_ S=>.ok yy S):=by intro pc s σ H ρ S env I B;rw[evalPart_none];calc Vd ⟨yy,S,rfl,H,ρ,I.inv,I.sr,.refl,rfl⟩
def Xl1(h:DE X a fa):DO X (yz a) (λenv S=>Qp.bind λx S=>.ok QQ3 S):=by intro pc s σ H ρ S env I nb;dsimp at nb |-;rw[evalPart_some];calc h.bind I nb rfl (λd S1 u s1 v H1 B e1 aa I1 rv rd L=>?_) λ_ _ z=>z;calc⟨yz d,S1,e1,H1,B,I1.inv,I1.sr,L,v,rv,rd⟩
def DO.bind{α:Type}{e:Option Expr}{f:En->Sto->R Qw3}(h:DO X e f)(I:S0 X pc σ H s ρ S env){k:Option D->Sto->R α}{r:R α}{Q:VP}{E:VP}(B:QE0.bind k≠.bad)(L:r=QE0.bind k)
  (hQ:∀o S1 u s' H' ρ',r=k o S1->k o S1≠.bad->S0 X pc σ H' s' ρ' S1 env->Xn5 X.K ρ' H' o u->Stp X.K ρ ρ' H H'->Q u s') (hE:∀x s',ExP X pc σ ρ H r x s'->E x s'):Vg Q3 X.A QyD Q E s:=by
 cases q:f env S with
 |bad=>rw[q]at B;cases B rfl|ex n S1=>
  rw[q]at L;exact Vp QOH QgI λx s' z=>?_;·let⟨o,S2,e,_⟩:=z;rw[q]at e;cases e
  ·let⟨m,S2,e,z⟩:=z;rw[q]at e;cases e;exact hE x s' QwJ|ok o S1=>
  rw[q]at L B;exact Vp QOH QgI λx s' z=>?_;·let⟨o',S2,e,H',ρ',J,sr,st,pr⟩:=z;rw[q]at e;cases e;exact hQ o S1 u s' H' ρ' L B QsA pr st
  ·let⟨m,S2,e,z⟩:=z;rw[q]at e;cases e
def Xia{K:Vh}{o:Option D}{u:Vb}{B:Option Int}(h:Xn5 K ρ H o u)(e:Xjc o=yz B):Vfm u B:=by
 cases o with
 |none=>let L:yz yy=yz B:=e;cases L;let h':u=.none:=h;subst h';exact .none|some d=>
  cases d with
  |int i=>let L:yz Qob=yz B:=e;cases L;let⟨v,rv,rd⟩:=h;simp[RD]at rd;subst rd;let⟨t,rfl⟩:=rv;calc .int i t|_=>cases e
def Ye5{lo hi:Option Expr}{fl fh:En->Sto->R Qw3}(ha:DE X a fa)(hl:DO X lo fl)(hh:DO X hi fh):
  DE X (.Subscript a QLN pos) (λenv S=>Qp.bind λx S=>(fl env S).bind λl S=>(fh env S).bind λh S=>match Xjc l,Xjc h with
   |some l,yz h=>Xlh x l h S
   |_,_=>.bad):=by
 intro pc s σ H ρ S env I nb;dsimp at nb |-;calc Subscript_ (ha.bind I nb rfl (λd S1 u s1 v H1 aj e1 ag I1 rv rd ab=>?_) λ_ _ z=>z);rw[e1];calc wpAny_Slice (hl.bind I1 ag rfl (λl S2 vl s2 H2 ai e2 ah I2 pl st2=>?_) λx s' z=>z.pre ab);rw[e2];calc hh.bind I2 ah rfl (λh S3 vu s3 H3 ae e3 aa I3 pu ac=>?_) λx s' z=>QgN.pre ab;rw[e3];cases q1:Xjc l with
 |none=>rw[q1]at aa;cases aa rfl|some li=>
  cases q2:Xjc h with
  |none=>rw[q1,q2]at aa;cases aa rfl|some B=>
   rw[q1,q2]at aa;dsimp at aa |-;rw[evalPart_none];calc Vd ?_;let P1:=Xia pl q1;let P2:=Xia pu q2;let af:=QB5.mono ac;let J:Inv X pc σ H3 QN0:=I3.inv.kept (t':=s3.toks) λb ob q=>Vf _ q;let fin:∀ {T id:String},typeLookup QIE "__getitem__"=pure Qqd->(QN0:Vc).TypeIs u T ->
     Vg Q3 X.A (Vf7 u QoJ) (OkP X pc σ ae H3 QgB) (ExP X pc σ ae H3 QgB) QN0 ->
     Vg Q3 X.A (Vf3 a QLN u QoJ) (OkP X pc σ ρ H QgB) (ExP X pc σ ρ H QgB) QN0:=λt1 t2 g=>
    tail_any (ops:=[.ref s3.heap.objs.size,u]) t2 t1 (Vp g (λ_ _ z=>OkP.pre QcU z) λ_ _ z=>ExP.pre QcU z) QqI
   by_cases ht:∃xs,d=.tup xs
   ·let⟨xs,rfl⟩:=ht;simp[RD]at af;let⟨p,vs,rfl,hq,hr⟩:=af;cases rv;let⟨its,r,ht,hz⟩:=J.tuple hq;let L:its.toArray.size=lg vs:=by rw[Vq];exact r.length.symm
    calc fin PyProof.Rows.slot_tuple_getitem.lookup ht.typeIs ?_;by_cases hw:HT.sIx Qc3 0 li=0/\HT.sIx Qc3 Qc3 B=lg vs
    ·calc Xrg ht QIW P1 P2 (by rw[L];calc hw.1) (by rw[L];calc hw.2) ?_;let e:cut xs li B=xs:=by
      unfold cut;rw[Xh9,Xh9,hr.length,hw.1,hw.2,Vgz,Nat.sub_zero,<-hr.length,Vez]
     calc .mk (v:=.ref p) .refl J rfl ?_ I3.sr;rw[e];simp[RD];exact⟨p,vs,rfl,hq,hr⟩
    calc HT.getItem_tuple_cut ht QIW P1 P2 (by rw[L];calc hw) ?_ (by rw[L];calc hz);rw[L];calc Xcm (vs:=Xof vs li B) (J.laid (t':=s3.toks) Q49 Qd ?_) QhR I3.sr (Ybo hr li B);exact⟨V5 (Xq9 vs li B) hz,_,(r.drop (HT.sIx Qc3 0 li)).take (HT.sIx Qc3 Qc3 B-HT.sIx Qc3 0 li),QK2⟩
   calc aB0 QJC aa
universe e
def X6h{K:Vh}{k:Kd}{t1 t2:Ty}{n1 n2:Str}{T1 L U:String}{b:Bool}(h1:Xcg t1=yz (n1,T1))(h2:Xcg t2=yz (n2,L))(B:Xjo k=yz U)(h:Y4 k QRL=yz b):
  PySem.W.kitAny K QfT [.type T1,.type L]=yz b:=by
 simp[Y4]at h;unfold PySem.W.kitAny;cases e1:isT k t1 with
 |none=>rw[e1]at h;cases h|some c1=>
  rw[e1]at h;rw[Xl0 h1 B e1 K];cases c1 with
  |true=>cases h;rfl|false=>
   dsimp at h |-;unfold PySem.W.kitAny;cases e2:isT k t2 with
   |none=>rw[e2]at h;cases h|some c2=>
    rw[e2]at h;rw[Xl0 h2 B e2 K];cases c2 with
    |true=>cases h;rfl|false=>cases h;rfl
section
variable{X:Cx}{pc:LA}{σ:L2.St}{H:Hp}{s:Vc}{ρ:LR}{S:Sto}{env:En}{a:Expr}{fa:En->Sto->R D}{pos:Pos}
def Ybp (h1:Xcg t1=yz (n1,T1)) (h2:Xcg t2=yz (n2,T2)) (hb:∀x∈blts,X.mg x=yy) (ae:Gl X "isinstance") (g1:Gl X n1) (g2:Gl X n2) (o1:Y6 n1=yx) (o2:Y6 n2=yx) (ha:DE X a fa) (aa:Xz a=yx):
  DE X (.Call Qv2 [a,.Tuple [.Name n1 q1,.Name n2 q2] k3 p3] [] pos) (λenv S=>Qp.bind λx S=>match QkL.bind λk=>Y4 k QRL with|some r=>.ok QuB S|none=>.bad):=by
 intro pc s σ H ρ S env I nb;dsimp at nb |-;let⟨a1,_,a3⟩:=Xa7 o1;let⟨b1,_,b3⟩:=Xa7 o2;calc Vau Qj2;calc Vbe ?_ (Xj aa) rfl;rw[Xj aa];generalize hr:(Qp.bind λx S=>match QkL.bind λk=>Y4 k QRL with|some r=>R.ok (D.bl r) S|none=>R.bad)=r at nb |-;calc Vbm (ha.bind I QK4 hr.symm (λd S1 u s1 v H1 ac e1 L B rv rd ab=>?_) λ_ _ z=>z);calc Vbm (wpAny_Tuple_spliced (x1:=k3) (Vbm (Ye B.inv g1 (hb _ (Xjp h1)) (Xg9 h1) (Vbm (Ye B.inv g2 (hb _ (Xjp h2)) (Xg9 h2) (Vdq ⟨by show 2<=V8;decide,?_⟩) b3 b1)) a3 a1)));calc Vdq ?_;cases q:Q3Q.bind λk=>Y4 k QRL with
 |none=>rw[q]at L;cases L rfl|some b=>
  let⟨k,k1,k2⟩:=Vg8.mp q;rw[e1,q];let J:Inv X pc σ H1 QP4:=B.inv.kept (t':=s1.toks) λb ob q=>Vf _ q;let I2:S0 X pc σ H1 QP4 ac S1 env:=⟨J,B.sr,B.er⟩;cases hU:Xjo k with
  |none=>
   cases k with
   |exc c=>
    simp[Y4]at k2;let z:isT Qp3 t1=none:=by cases t1<;>simp[Xcg,reduceCtorEq]at h1<;>rfl
    rw[z]at k2;cases k2|_=>cases hU
  |some U=>let⟨P,z1,z2,z3⟩:=X3t I2 k1 hU rd rv;calc PySem.W.kia_tup (its:=[.type T1,.type T2]) z1 J.kIn z2 QN3 (X6h h1 h2 hU k2) z3 λtk=>OkP.pre ab (Xq B.sr (J.tok tk))
universe e
universe Z
universe e
section
namespace Z
open PySem PySem.Spec PyProof.Rows L2
open Builtin.Slice (sliceAdjust slicePlaces)
abbrev Xl2{α:Type}(lo c:Int)(n:Nat)(xs:List α):List α:=QCT.filterMap λ(k:Nat)=>xs[(lo+(k:Int)*c).toNat]?
abbrev Y1{α:Type}(xs:List α)(l:Option Int)(c:Int):List α:=Xl2 QPA.1 c (slicePlaces QPA.1 QPA.2 c) xs
def Xvo{K:Vh}{ρ:LR}{H:Hp}{xs:LD}{vs:LW}(h:RDs K ρ H xs vs)(ix:Nat->Nat):∀ks:LN,RDs K ρ H Q8G (ks.filterMap λk=>vs[ix k]?)
 |[]=>.nil|k::ks=>by
  cases e:xs[ix k]? with
  |none=>let e2:=h.none e;simp[U5,e,e2];calc Xvo h ix ks|some d=>let⟨v,e2,r⟩:=h.get e;simp[U5,e,e2];calc .cons r (Xvo h ix ks)
def Xl3{xs:LW}{us:LV}(h:Vals xs us)(ix:Nat->Nat):∀ks:LN,Vals Q8G (ks.filterMap λk=>us[ix k]?)
 |[]=>.nil|k::ks=>by
  cases e:xs[ix k]? with
  |none=>
   let e2:us[ix k]?=none:=by rw[U3]at e |-;rw[<-h.length];exact e
   simp[U5,e,e2];calc Xl3 h ix ks|some d=>let⟨v,e2,r⟩:=h.get e;simp[U5,e,e2];calc .cons r (Xl3 h ix ks)
def Ybq{K:Vh}{ρ:LR}{H:Hp}{xs:LD}{vs:LW}(h:RDs K ρ H xs vs)(l:Option Int)(c:Int):RDs K ρ H Q1D (Y1 vs l c):=by unfold Y1;rw[h.length];calc Xvo h _ _
def X15(h:Vals xs us)(l:Option Int)(c:Int):Vals Q1D (Y1 us l c):=by unfold Y1;rw[h.length];calc Xl3 h _ _
def Xyl{lo hi c:Int}{n:Nat}(B:c<0)(h1:lo<=(n:Int)-1)(h2:-1<=hi):slicePlaces lo hi c<=n:=by
 unfold slicePlaces;rw[iN0 Q0];split;·let:(lo-hi-1)/(-c)<=lo-hi-1:=Int.ediv_le_self _ Q0;omega
 ·simp!
def Xym{l:Option Int}{c:Int}{n:Nat}(B:c<0):QzK.1<=(n:Int)-1/\QzK.2 = -1:=by
 unfold sliceAdjust;simp[B,if_true,and_true];cases l with
 |none=>calc Int.le_refl _|some v=>dsimp;split<;>omega
def X6i{α:Type}(xs:List α){l:Option Int}{c:Int}(B:c<0):Q1D.length<=lg xs:=by unfold Y1 Xl2;calc V5 (List.length_filterMap_le _ _) ?_;rw[U6];calc Xyl B Q6g.1 (by rw[Q6g.2];omega)
section
variable{prog:V3}{w:Ua}{A:Uz}{E:VP}{s:Vc}
def Xpy{lo:Option Int}{c:Int}{n:Nat}{Q:Int×Int×Nat->Vc->Prop}(hc:c≠0)(hs:s.heap.IsSliceOf sl vl .none vs)(pl:Vfm vl lo)(ps:Vfm vs QGS)
  (h:Q (QOA.1,c,slicePlaces QOA.1 QOA.2 c) s):Vg Q5 A QfJ Q E s:=by
 let⟨os,L,aa,B⟩:=id hs;unfold Vee Vjn;calc Va (Va (U8 L B (x:=vl) rfl (Va (U8 L B (x:=.none) rfl (Va (U8 L B (x:=vs) rfl Qz0))))));calc Va (HT.slicePart_ ps ?_);show Vg _ _ (if (c==0)=yx then _ else _) _ _ s;rw[iN0 QZ3];calc Va (HT.slicePart_ pl (Va (HT.slicePart_ .none Qle)));calc Vd h
def Xvp{its:LV}{lo:Option Int}{c:Int}{Q:VP}(hc:c≠0)(ag:c≠1)(aa:Q5E.length<=lg its)(L:Vd5 s.heap t its.toArray)(hs:s.heap.IsSliceOf sl vl .none vs)(pl:Vfm vl lo)(ps:Vfm vs QGS)
  (h:Q QC {s with heap:=s.heap.push {cls:=.type "tuple",data:=.seq Q5E.toArray} }) (af:Qf5<=V8):Vg Q5 A QTK Q E s:=by
 let B:sizeOk (.seq Q5E.toArray):=by show(Y1 its lo c).toArray.size<=V8;rw[Vq];exact V5 aa af
 let⟨os,ae,ac,ah⟩:=id hs;let ab:s.TypeIs Q3A "slice" := QCX;unfold Vf7
 try with_reducible exact U2 ?_
 first|exact Va Qz0|skip
 calc Va (Vji L.typeIs Q1 (Va (Vat (name:=Vcb "__getitem__") L.typeIs Vbv QQD)));show Vg _ _ QeH _ _ s;calc Va (tupleItemsOf_ L (Va QlZ));rw[iP0 Q1,Vq];calc Va (Xpy hc hs pl ps ?_);show Vg _ _ (if (QX1.1==0&&c==1&&slicePlaces QX1.1 QX1.2 c==lg its)=yx then _ else _) _ _ s;let hn:(c==1)=false:=by simp!;omega
 rw[iN0 (by rw[hn];simp!)];let e:((Vv (slicePlaces QX1.1 QX1.2 c)).filterMap λ(k:Nat)=>its.toArray[(QX1.1+(k:Int)*c).toNat]?)=Y1 its lo c:=by unfold Y1 Xl2;simp!
 rw[e]
 first
  |calc Va (m:=Vbn _) QhH|calc Va QKO
universe e
def Xjq{α β:Type}{f g:α->Option β}:∀ {l:List α},(∀x∈l,f x=g x)->l.filterMap f=l.filterMap g
 |[],_=>rfl|x::l,h=>by rw[U5,U5,h x QA,Xjq λy B=>h y QvL]
def Xpz{α:Type}:∀(zs:List α),(Vv ((lg zs+1)/2)).filterMap (λj=>zs[2*j]?)=alt zs
 |[]=>by simp![alt]|[x]=>by simp![alt,List.range_succ]|x::y::r=>by
  let e:(Qsb.length+1)/2=(lg r+1)/2+1:=by simp[Ux];omega
  rw[e,Vhl,U5,Vgj];simp[Nat.mul_zero,gZ0,alt];congr 1;rw[<-Xpz r];congr 1
def X6j{α:Type}(xs:List α):Y1 xs yy (-1)=xs.reverse:=by
 unfold Y1 Xl2;let e1:(sliceAdjust yy yy (-1) (lg xs:Int))=((lg xs:Int)-1,-1):=rfl;rw[e1];let e2:slicePlaces ((lg xs:Int)-1) (-1) (-1)=lg xs:=by
  unfold slicePlaces;rw[iN0 Q1];split;·simp!
  ·omega
 dsimp;rw[e2];let:∀(n:Nat) (ys:List α),lg ys=n->QCT.filterMap (λk=>ys[k]?)=ys:=by
  intro n;induction n with
  |zero=>intro ys h;rw[Vfh h];rfl|succ n ih=>
   intro ys h;cases ys with
   |nil=>cases h|cons y ys=>rw[Vhl,U5,Vgj];simp[gZ0];congr 1;exact ih ys Q72
 rw[<-this QL xs.reverse QA];calc Xjq λk B=>?_;let B:=Va1.mp B;rw[List.getElem?_reverse B];congr 1;omega
abbrev Xd7(l:Option Int)(c:Int)(x:D)(S:Sto):R D:=
 match x with
 |.tup xs=>.ok (.tup Q1D) S|_=>.bad
def X16(x:D)(S:Sto):Xd7 yy (-1) x S=X0i x S:=by cases x<;>simp[Xd7,X0i,X6j]<;>rfl
section
variable{X:Cx}{pc:LA}{σ:L2.St}{H:Hp}{s:Vc}{ρ:LR}{S:Sto}{env:En}{a:Expr}{fa:En->Sto->R D}{pos p2:Pos}
theorem X17(l:Option Int)(c:Int):Prop:=c≠0/\c≠1/\(∀ {α:Type} (xs:List α),Q1D.length<=lg xs)
def Ybr{l:Option Int}{c:Int}(B:c<0):X17 l c:=⟨by omega,by omega,λxs=>X6i xs B⟩
def X3u{lo:Option Expr}{st:Expr}{l:Option Int}{c:Int}(hc:X17 l c)(ha:DE X a fa)(hl:DO X lo (λ_ S=>.ok QQ S))(hh:DO X QL9 (λ_ S=>.ok (yz Qj5) S)):
  DE X (.Subscript a QkM pos) (λenv S=>Qp.bind λx S=>Xd7 l c x S):=by
 intro pc s σ H ρ S env I nb;dsimp at nb |-;calc Subscript_ (ha.bind I nb rfl (λd S1 u s1 v H1 ah e1 af I1 rv rd ab=>?_) λ_ _ z=>z);rw[e1];let cst:∀ {e:Option Expr} {o:Option D} {s2:Vc} {H2:Hp} {aa:LR} {Q:VP} {E:VP},DO X e (λ_ S=>.ok o S)->S0 X pc σ H2 s2 aa S1 env->(∀u s' H' ρ',S0 X pc σ H' s' ρ' S1 env->Xn5 X.K ρ' H' o u->Stp X.K aa ρ' H2 H'->Q u s') ->
   Vg Q3 X.A QyD Q E s2:=λhe I2 hQ=>by
  exact Vp (he pc _ σ _ _ S1 env I2 QY3) QgI λx s' z=>?_;·let⟨o',S2,e,H',ρ',J,sr,st,pr⟩:=z;cases e;exact hQ u s' H' ρ' (I2.step J sr st) pr st
  ·let⟨_,_,e,_⟩:=z;cases e
 calc wpAny_Slice (cst hl I1 λvl s2 H2 aa I2 pl st2=>?_);rw[evalPart_none];calc Vd ?_;exact cst hh I2 λvs B H3 ac I3 ps L=>?_;let P1:Vfm vl l:=Xia pl (by cases l<;>rfl);let P2:Vfm vs QGS:=Xia ps rfl;let ae:=QB5.mono L;let J:Inv X pc σ H3 QP0:=I3.inv.kept (t':=B.toks) λb ob q=>Vf _ q;let fin:∀ {T id:String},typeLookup QIE "__getitem__"=pure Qqd->(QP0:Vc).TypeIs u T ->
   Vg Q3 X.A (Vf7 u QiK) (OkP X pc σ ac H3 QgC) (ExP X pc σ ac H3 QgC) QP0 ->
   Vg Q3 X.A (Vf3 a QkM u QiK) (OkP X pc σ ρ H QgC) (ExP X pc σ ρ H QgC) QP0:=λt1 t2 g=>
  tail_any (ops:=[u,.ref B.heap.objs.size]) t2 t1 (Vp g (λ_ _ z=>OkP.pre QUW z) λ_ _ z=>ExP.pre QUW z) QqI
 by_cases ht:∃xs,d=.tup xs;·let⟨xs,rfl⟩:=ht;simp[RD]at ae;let⟨p,ws,rfl,hq,hr⟩:=ae;cases rv;let⟨its,r,ht,hz⟩:=J.tuple hq;let ag:=r.length;calc fin PyProof.Rows.slot_tuple_getitem.lookup ht.typeIs ?_;calc Xvp hc.1 hc.2.1 (by first|calc hc.2.2.1 _|calc hc.2.2 _) ht QIW P1 P2 ?_ Q0;calc Xcm (vs:=Y1 ws l c) (J.laid (t':=B.toks) Q49 Qd ?_) QhR I3.sr (Ybq hr l c);exact⟨V5 (by first|calc hc.2.2.1 ws|calc hc.2.2 ws) hz,_,X15 r l c,QK2⟩
 ·calc aB0 QJC af
def X3v{i:Int}{e:Expr}(h:mnC i e=yx):DO X QOX (λ_ S=>.ok (yz QzH) S):=by
 cases e with
 |UnaryOp o x p=>
  cases o with
  |USub=>
   cases x with
   |Constant c k q=>
    cases c with
    |int j=>cases eq_of_beq (show QKc=yx from h);calc Xl1 (X3m (fa:=λ_ S=>.ok Q61 S) d_int)|_=>calc ff h
   |_=>calc ff h
  |_=>calc ff h
 |_=>calc ff h
def Ybs{i:Int}{l:Option Int}{e:Expr}(hi:0<i)(B:DE X a fa)(h:X1x i l e=yx):DE X QKN (λenv S=>Qp.bind λx S=>Xd7 (l.map (- ·)) (-i) x S):=by
 cases e with
 |Slice lo hi st p=>
  let h:(hi.isNone&&st.any λst=>mnC i st&&Yam l lo)=true:=h;rw[bA0]at h;cases hi with
  |some _=>exact ff h.1|none=>
   cases st with
   |none=>exact ff h.2|some st=>
    let h:=h.2;rw[Option.any_some,bA0]at h;calc X3u (Ybr Q0) B ?_ (X3v h.1);cases l with
    |none=>cases lo with
     |none=>calc Xtg|some _=>calc ff h.2
    |some k=>cases lo with
     |none=>calc ff h.2|some x=>calc X3v h.2
 |_=>calc ff h
def Xth{α:Type}(xs:List α)(v:Nat):Y1 xs Qu5 2=alt QnY:=by
 rw[<-Xpz];unfold Y1 Xl2;let e1:sliceAdjust Qu5 yy 2 (lg xs:Int)=(min (v:Int) QL,(lg xs:Int)):=by unfold sliceAdjust;simp[show ¬ QJa by decide,if_false];congr 1
 rw[e1];let e2:slicePlaces (min (v:Int) QL) (lg xs:Int) 2=(QnY.length+1)/2:=by unfold slicePlaces;rw[iP0 Q1,Vb5];split<;>omega
 rw[e2];calc Xjq λj B=>?_;let B:=Va1.mp B;rw[Vb5]at B;rw[Vi9];congr 1;omega
def Xti{α:Type}:∀xs:List α,(alt xs).length<=lg xs
 |[]=>Vi _|[x]=>Vi _|x::y::r=>by simp[alt,Ux];let:=Xti r;omega
def Ybt(v:Nat):X17 Qu5 2:=by
 let A:∀ {α:Type} (xs:List α),(Y1 xs Qu5 2).length<=lg xs:=λxs=>by rw[Xth];exact V5 (Xti _) (by rw[Vb5];omega)
 let B:∀its:LV,slicePick its.toArray Qu5 yy QGh=(Y1 its Qu5 2).toArray:=λits=>by
  unfold slicePick Y1 Xl2 sliceRange;let e1:sliceAdjust Qu5 yy 2 (lg its:Int)=(min (v:Int) Qf5,(lg its:Int)):=by unfold sliceAdjust;simp[show ¬ QJa by decide,if_false];congr 1
  let e3:sliceBounds Qu5 yy QGh Qf5=(min (v:Int) Qf5,(lg its:Int),2):=by unfold sliceBounds;simp[Vfx,show(2:Int)>0 by decide,if_true];split<;>simp!<;>omega
  rw[Vq,e1,e3];dsimp;rw[iP0 Q1,Vgj];let L:slicePlaces (min (v:Int) Qf5) (lg its:Int) 2=(if min (v:Int) Qf5<(lg its:Int) then ((lg its:Int)-min (v:Int) Qf5+2-1)/2 else 0).toNat:=by unfold slicePlaces;rw[iP0 Q1];congr 1;split<;>omega
  rw[L];congr 2;funext k;simp[Vhu,Vh6];rw[Int.mul_comm]
 first|calc⟨by decide,by decide,A,B⟩|calc⟨by decide,by decide,A⟩
def Xyn{x:Expr}{i:Int}(h:(match x with | .Constant QF2 _ _=>decide (j=i)|_=>yw)=yx):DO X QQ3 (λ_ S=>.ok (yz Q61) S):=by
 cases x with
 |Constant c k p=>
  cases c with
  |int j=>cases oD0 h;calc Xl1 d_int|_=>calc ff h
 |_=>calc ff h
def Ye6{k:Bool}{e:Expr}(ha:DE X a fa)(h:Xvm k e=yx):DE X QKN (λenv S=>Qp.bind λx S=>Xgs k x S):=by
 cases e with
 |Slice lo hi st p=>
  simp[Xvm,bA0,Vjt]at h;let⟨⟨rfl,h1⟩,h2⟩:=h;cases st with
  |none=>exact ff h1|some st=>
   cases lo with
   |none=>exact ff h2|some lo=>
    let L:=X3u (X:=X) (pos:=pos) (p2:=p) (Ybt (if k then 2 else 1)) ha (lo:=yz lo) (by cases k<;>calc Xyn h2) (Xyn h1);intro pc s σ H ρ S env I B;let e1:∀x S,Xgs k x S≠.bad->Xd7 QrC 2 x S=Xgs k x S:=λx S B=>by
     cases x with
     |tup xs=>simp[Xd7,Xgs,Xth]|_=>cases B rfl
    dsimp at B |-;let e2:(Qp.bind λx S=>Xd7 QrC 2 x S)=Qp.bind λx S=>Xgs k x S:=by
     cases q:fa env S with
     |ok x S1=>rw[q]at B;exact e1 x S1 B|_=>rfl
    let:=L pc s σ H ρ S env I (by show(Qp.bind λx S=>_)≠_;rw[e2];calc B);dsimp at this;rw[e2]at this;calc this
 |_=>calc ff h
universe e
universe Z
universe e
section
namespace Z
open PySem PySem.Spec PyProof.Rows L2
section
variable(cm:Bool)(F:Fn)(G:LD)(fns:LF)(gns:LS)
structure PF(X:Cx):Prop where
 blt:∀x∈blts,X.mg x=yy
 fn:∀(f:Nat) nm ar fl,fns[f]?=yz QaC->QCU->∃g fd ps k,FnD fl X.prog X.w X.K X.mg X.base k g fd ps (F f)/\RoomC fl k X.A/\Binds X.K fd ps []/\X.mg nm=yz QS6/\Vev X.K QS6=yx/\Qp5=ar
 glb:∀(k:Nat) nm,gns[k]?=yz nm->∃u d,X.mg nm=yz u/\G[k]?=yz d/\∀ ρ H,∃v,RelV v u/\RD X.K ρ H d v
 clf:∀(f:Nat) (nm:Str),Xcc f nm G=yx->∃ar fl,fns[f]?=yz QaC/\(∀a,Va3 X.K Up nm=yz QhN->X.mg nm=yz Qt)/\∀xs S,F f xs S≠.bad->lg xs=ar
 units:X.A.units+200<Vbw
 gd:X.A.guards=yz []
 calm:cm=yx->X.calm=yx
 err:ErrOk X.K
def PF.blk(h:PF cm F G fns gns X)(pc:LA)(s:Vc)(H:Hp)(sc:Vaj)(B:List Qx4)(C:Addr)(own:LS)(fp:LR):PF cm F G fns gns (blk X pc s H sc B C own fp):=
 ⟨h.blt,h.fn,h.glb,h.clf,h.units,h.gd,h.calm,h.err⟩
variable{X:Cx}{e:Expr}{f g:En->Sto->R D}
def DE.congr(h:DE X e f)(q:∀env S,g env S=f env S):DE X e g:=by let:g=f:=funext λenv=>funext λS=>q env S;rw[this];calc h
def DT.congr{f g:En->Sto->R Bool}(h:DT X e f)(q:∀env S,g env S=f env S):DT X e g:=by let:g=f:=funext λenv=>funext λS=>q env S;rw[this];calc h
def Ygc(aa:X.N.Nodup)(ht:∀x,top x=yx->X.fn x=yx)(is:LN)(es:LX)(h:mtT.namesB top X.env.scope X.N is es=yx):QGI/\Qi3.length=lg is/\Qi3.findIdx? Qb=none:=by
 let B:∀(is:LN) (es:LX),mtT.namesB top X.env.scope X.N is es=yx->∃xs:List QTQ,es=xs.map (λx=>Expr.Name x.1 x.2)/\QdS=lg xs/\∀(j i:Nat) (x:Str×Pos),is[j]?=yz i->xs[j]?=yz x->X.N[i]?=yz x.1/\Loc X.env.scope x.1/\Qw7:=by
  intro is;induction is with
  |nil=>
   intro es h;cases es with
   |nil=>calc⟨[],rfl,rfl,λj i x e1 _=>by simp! at e1⟩|cons _ _=>simp![mtT.namesB]at h
  |cons i is ih=>
   intro es h;cases es with
   |nil=>simp![mtT.namesB]at h|cons e es=>
    simp[mtT.namesB,bA0]at h;let⟨x,h1,h2⟩:=any_some h.1;let⟨p,rfl⟩:=Xan h1;rw[bA0,decide_eq_true_eq]at h2;let⟨xs,e1,e2,e3⟩:=ih es h.2;let⟨l1,l2⟩:=Xlw rfl ht h2.2;calc⟨(x,p)::xs,by rw[e1];rfl,by simp![e2],λj i' x' L q2=>?_⟩;cases j with
    |zero=>simp! at L q2;subst L q2;exact⟨h2.1,l1,l2⟩|succ j=>exact e3 j i' x' Q6F Q91
 let⟨xs,e1,e2,e3⟩:=B is es h;subst e1;let nm:=Xj9 xs X.env;calc⟨λE=>Xw9 (X:=X.wish E) is xs aa e2 e3,by rw[nm.1,e2],nm.2⟩
def Ygd(B:X.N.Nodup)(L:∀x,top x=yx->X.fn x=yx)(h:mtT top X.env.scope X.N QJE tg=yx):∃es k p,tg=.Tuple es k p/\QGI/\Qi3.length=lg is/\Qi3.findIdx? Qb=none:=by simp[mtT]at h;let⟨es,h1,h⟩:=any_some h;let⟨k,p,rfl⟩:=Xcr h1;calc⟨es,k,p,rfl,Ygc B L is es h⟩
def dgB(hN:X.N=N)(hs:X.env.scope=sc)(B:N.Nodup)(hc:Yal t=yw->X.calm=yx)(L:∀x,top x=yx->X.fn x=yx)(h:mtT top sc N t tg=yx):DG X tg t:=by
 subst hN hs;cases t with
 |var i=>simp[mtT]at h;let⟨x,h1,h2⟩:=any_some h;let⟨p,rfl⟩:=Xan h1;rw[bA0,decide_eq_true_eq]at h2;let⟨l1,l2⟩:=Xlw rfl L h2.2;calc X42 B h2.1 l1 l2|tup is=>let⟨es,k,p,rfl,q1,q2,q3⟩:=Ygd B L h;calc X82 (hc rfl) q1 q2 q3
universe e
def Xtj:∀(es:Exs) (xs:LX),mts cm fns gns sc N es xs=yx->∀env S ds S',evs F G es env S=.ok ds S'->lg ds=lg xs
 |.nil,[]=>λ_ env S ds S' h=>by cases (show R.ok [] S=.ok ds S' from h);rfl|.nil,_::_=>λh _ _ _ _ _=>by simp![mts]at h|.cons _ _,[]=>λh _ _ _ _ _=>by simp![mts]at h|.cons e es,x::xs=>λh env S ds S' q=>by
  simp[mts,bA0]at h;let q:(Qt0.bind λx S=>Qh4.bind λxs S=>.ok QMA S)=.ok ds S':=q;cases q1:ev F G e env S with
  |bad=>rw[q1]at q;cases q|ex _ _=>rw[q1]at q;cases q|ok d S1=>
   rw[q1]at q;simp[Rk0]at q;cases B:evs F G es env S1 with
   |bad=>rw[B]at q;cases q|ex _ _=>rw[B]at q;cases q|ok L S2=>rw[B]at q;simp[Rk0]at q;cases q;simp![Xtj es xs h.2 env S1 L _ B]
def Xaw:∀(es:Exs) (xs:LX),mts cm fns gns sc N es xs=yx->xs.all Xz=yx
 |.nil,[]=>λ_=>rfl|.nil,_::_=>λh=>by simp![mts]at h|.cons _ _,[]=>λh=>by simp![mts]at h|.cons e es,x::xs=>λh=>by simp[mts,bA0]at h;rw[Vaw,h.1.1,Xaw es xs h.2];rfl
def X6k {k:Bl} {nm:Str} {b:Bool} {id:String} (h:Xvg k=yz (nm,b,id)) (aa:∃o,X.K.lookup Vdf=yz o/\o.cls≠.type "list") (ab:X.A.guards=yz []) (L:X.A.units+200<Vbw) (B:Xvh k=yw->X.calm=yx):nm∈blts/\(if b then Vew nm=yz QY2/\BlR X k QY2 else Vew nm=yz QGb/\BlR X k QGb):=by
 cases k<;>simp[Xvg,Vx,Ve6,reduceCtorEq]at h<;>let⟨rfl,rfl,rfl⟩:=h
 case len=>exact⟨by decide,PySem.boot_len,Yee⟩
 case min=>exact⟨by decide,by decide+kernel,Yej QrH⟩
 case max=>exact⟨by decide,by decide+kernel,Yei QrH⟩
 case mxl=>exact⟨by decide,by decide+kernel,Yek QrH⟩
 case smB=>exact⟨by decide,by decide+kernel,Yeh QrH⟩
 case sorted=>exact⟨by decide,by decide+kernel,X1p L⟩
 case all=>exact⟨by decide,by decide+kernel,Yef QrH⟩
 case anb=>exact⟨by decide,by decide+kernel,Yeg QrH⟩
 case tuple=>exact⟨by decide,by decide+kernel,X5b⟩
 case list=>calc⟨by decide,by decide+kernel,X9d⟩
section
variable{F:Fn}{G:LD}{cm:Bool}{fns:LF}{gns:LS}
def X6l(h:X1w fx=yx)(args:LX)(pos:Pos)(env:Vb4):eval QKL env=Qo3:=by cases fx<;>first|rfl|calc ff h
def Ye7(hp:PF cm F G fns gns X)(hc:cm=yx)(hx:∀(args:LX) (pos:Pos) (env:Vb4),eval QKL env=Qo3)
  (hf:DE X fx f) (ha:DA X QA4 ga) (he:Uf QA4 X.env=QM5::Uf es X.env) (aa:QQ0.any Qb=yw):
  DE X (.Call fx QA4 [] pos) (λenv S=>QE0.bind λx S=>match x with
   |.fn k nm=>if Xcc k nm G then Q8Q.bind λxs S=>F k xs S else .bad
   |_=>.bad):=by
 intro pc s σ H ρ S env I nb;dsimp at nb |-;rw[hx];calc Va (hf.bind I nb rfl (λd S1 u s1 v H1 af e1 B I1 rv rd L=>?_) λ_ _ z=>z);rw[e1];cases d with
 |fn k nm=>
  dsimp at B |-;by_cases hi:Xcc k nm G=yx
  ·rw[iP0 hi]at B |-;let⟨ar,fl,q1,q2,q3⟩:=hp.clf k nm hi;let⟨g,fd,ps,kk,c1,c2,c3,c4,c5,c6⟩:=hp.fn k nm ar fl q1 λ_=>hc;simp[RD]at rd;let⟨a,rfl,hn⟩:=rd;let:=(q2 a hn).symm.trans c4;cases this;cases rv;cases q:ga env S1 with
   |bad=>rw[q]at B;cases B rfl|ex n S2=>calc Vgp (h₀:=X.base) I1.inv.ok.mod.kin c5 (ha.ex I1 q λx s' z=>⟨n,S2,rfl,z.pre L⟩) he aa|ok ds S2=>rw[q]at B;simp[Rk0]at B |-;calc Vgp (h₀:=X.base) I1.inv.ok.mod.kin c5 (ha.ok I1 q λus s2 vs H2 ae I2 ab ac st2=>⟨I2.inv.kIn,?_⟩) he aa;exact Vp (X3i c1 c2 c3 I2 ab ac (by rw[c6];calc q3 _ _ B) B) (λu s2 z=>QgN.pre L) λx s2 z=>QgN.pre L
  rw[iN0 hi]at B;cases B rfl|_=>cases B rfl
def X6(h:DE X e f)(L:∀B,isTrue e X.env B=QT3):DE X e f/\DT X e QjO:=⟨h,.of h L⟩
def DW.of(h:DT X Q2R g):DW X Q2R g:=λ_=>h
theorem Ybu(F:Fn)(G:LD)(X:Cx)(sc2:Vaj)(N2:LS)(L:Cx->Prop):Gens->List Vca->Prop
 |.cons t it ifs .nil,gens=>∃tg iter cs,gens=[QgE]/\Xc2 iter=yx/\mtT Q5M sc2 N2 t tg=yx/\DI X tg iter QIK/\∀Y:Cx,Y.N=N2->Y.env.scope=sc2->L Y->DTs Y cs QDU|.cons t it ifs Q36,gens=>∃tg iter cs aa B ab,gens=[QgE,⟨aa,B,ab,0⟩]/\Xc2 iter=yx/\Xc2 B=yx/\mtT Q5M sc2 N2 t tg=yx/\mtT Q5M sc2 N2 t2 aa=yx/\DI X tg iter QIK /\
   (∀Y:Cx,Y.N=N2->Y.env.scope=sc2->L Y->DTs Y cs QDU)/\(∀Y:Cx,Y.N=N2->Y.env.scope=sc2->L Y->DI Y aa B (evit F G it2))/\∀Y:Cx,Y.N=N2->Y.env.scope=sc2->L Y->DTs Y ab (evts F G ifs2)|_,_=>False
set_option genInjectivity false in
structure CompP(X:Cx)(elt:Expr)(gens:List Vca)(scope:Vaj)(cpos:Pos)(own:LS)(f:En->Sto->R D) where
 tg:Expr
 iter:Expr
 ifs:LX
 t:Tg
 fi:En->Sto->R Src
 tf:En->Sto->R Bool
 body:En->LD->Sto->R (LD)
 hg:gens=QT2::gens.tail
 hi:DI X tg iter fi
 hs:∀x,Vcj iter X.env x=pure x
 hG:∀pc s H cl C fp,DG Qf6 tg t
 hT:∀pc s H cl C fp,DTs Qf6 ifs tf
 hB:∀pc s H cl C fp Da,Xdk yw QYK Qf6 Da elt gens scope cpos 0 body
 eq:f=Xln fi t QvO tf body
def Xtk(hN:X.N=N)(hs:X.env.scope=sc)(hp:PF cm F G fns gns X)(hc:X.calm=yx)(so:ScOk sc scope N QM3)
  (hg:Ybu F G X QxI QHO QNO gs gens) (he:∀Y:Cx,Y.N=Xav N QM3->Y.env.scope=Xjl scope sc->PF cm F G fns gns Y->DE Y elt (ev F G xe)):
  Nonempty (CompP X elt gens scope p QM3 (ev F G (.cmr yw QM3.length gs xe))):=by
 subst hN hs;let hY:∀pc s H B C fp,PF cm F G fns gns Q9F:=λpc s H B C fp=>PF.blk cm F G fns gns hp pc s H scope B C QM3 fp;let L:∀ {t:Tg} {tg:Expr},mtT (Xdb X.N QQK) (Xjl scope X.env.scope) QQK t tg=yx->∀pc s H B C fp,DG Q9F tg t:=λh pc s H B C fp=>dgB (top:=Xdb X.N QQK) rfl rfl so.nd (λ_=>hc) (λ_ z=>X5x z) h;match gs,hg with
 |.cons t it ifs .nil,hg=>let⟨tg,iter,cs,rfl,n1,m1,i1,t1⟩:=hg;calc⟨⟨tg,iter,cs,t,evit F G it,evts F G ifs,_,rfl,i1,Xf6 n1,L m1,λpc s H B C fp=>t1 _ rfl rfl Qg4,λpc s H B C fp Da=>Xne rfl QxO,?_⟩⟩;rfl|.cons t it ifs Q36,hg=>
  let⟨tg,iter,cs,ac,aa,ae,rfl,n1,n2,m1,m2,i1,t1,i2,ab⟩:=hg;exact⟨⟨tg,iter,cs,t,evit F G it,evts F G ifs,_,rfl,i1,Xf6 n1,L m1,λpc s H B C fp=>t1 _ rfl rfl Qg4,
   λpc s H B C fp Da=>Xxe LstA.ok hc rfl (i2 _ rfl rfl Qg4) (Xf6 n2) (L m2 pc s H B C fp) (ab _ rfl rfl Qg4) (Xne rfl QxO),?_⟩⟩
  rfl
def X18 {k:Bl} {es:Exs} {x:Str} {ys:LX} (ab:∃o,X.K.lookup Vdf=yz o/\o.cls≠.type "list") (ac:X.A.guards=yz []) (aa:X.A.units+200<Vbw) (hg:Gl X x) (hb:∀x∈blts,X.mg x=yy) (hc:Xvh k=yw->X.calm=yx) (h1:blB k x=yx) (o1:Q50=yw) (o3:x ≠ "__name__") (ih:DA X Qw QeF)
  (he:Uf Qw X.env=(yw,eval y X.env)::Uf ys X.env) (L:(Vb2 p (Uf ys X.env)).any Qb=yw):DE X (.Call (.Name x p0) Qw [] p) (ev F G QFa):=by
 unfold blB at h1;cases q:Xvg k with
 |none=>rw[q]at h1;cases h1|some z=>
  let⟨nm,b,id⟩:=z;rw[q]at h1;dsimp at h1;let e1:x=nm:=oD0 h1;subst e1;let⟨m1,B⟩:=X6k q ab ac aa hc;cases b with
  |true=>rw[iP0 rfl]at B;calc(X9k B.2 hg QPc B.1 ih o3 o1 he L).congr λ_ _=>rfl|false=>rw[iN0 V0]at B;calc(X9l B.2 hg QPc B.1 ih o3 o1 he L).congr λ_ _=>rfl
def X19(h1:mtB k nm=yx)(h2:Xjk ox=yx)(h3:QG7=yx)(h4:Qw.length<29)(io:DE X ox Qla)(ih:DA X Qw QeF)(st:Qw.all Xz=yx):
  DE X (.Call (.Attribute ox nm ap) Qw [] cp) (ev F G QjW):=by
 let B:Qs0=true:=by
  rw[Xps st];let:Qw.length+QBF.length+(if QBF.isEmpty then 0 else 1)<30:=by simp[Vig,List.isEmpty_nil,if_true];omega
  rw[decide_eq_true this];rfl
 rw[Vaw,bA0]at st;let L:∀ {m:Mt} (x:D) (S:Sto),Xat m x S=yx->∃n xs,x=.ref n/\lstAt S n=yz xs:=λ{m} x S h=>by
  cases x with
  |ref n=>let h':Qv4.isSome=true:=h;let⟨xs,e⟩:=Vdj.mp h';exact⟨n,xs,rfl,e⟩|_=>cases h
 cases k with
 |append=>let e1:nm="append":=oD0 h1;subst e1;calc(Xgy (m:=.append) (id:="list.append") PySem.F.slot_list_append PySem.F.type_list_append X00 L io ih QoG B h3 QY5 QX5).congr λ_ _=>rfl|xtd=>let e1:nm="extend":=oD0 h1;subst e1;calc(Xgy (m:=.xtd) (id:="list.extend") PySem.F.slot_list_extend PySem.F.type_list_extend Yel L io ih QoG B h3 QY5 QX5).congr λ_ _=>rfl|popi=>let e1:nm="pop":=oD0 h1;subst e1;calc(Xgy (m:=.popi) (id:="list.pop") PySem.F.slot_list_pop PySem.F.type_list_pop X9h L io ih QoG B h3 QY5 QX5).congr λ_ _=>rfl|count=>let e1:nm="count":=oD0 h1;subst e1;calc(Xgy (m:=.count) (id:="list.count") PySem.F.slot_list_count PySem.F.type_list_count X5d L io ih QoG B h3 QY5 QX5).congr λ_ _=>rfl|index=>let e1:nm="index":=oD0 h1;subst e1;calc(Xgy (m:=.index) (id:="list.index") Vg7 PySem.F.type_list_index X5e L io ih QoG B h3 QY5 QX5).congr λ_ _=>rfl
def X2a(L:X.A.units+1<Vbw)(h2:Xjk ox=yx)(h3:QG7=yx)(h4:Qw.length<29)(io:DE X ox Qla)(ih:DA X Qw QeF)(st:Qw.all Xz=yx):
  DE X (.Call (.Attribute ox "add" ap) Qw [] cp) (ev F G Q9a):=by
 let B:Qs0=true:=by
  rw[Xps st];let:Qw.length+QBF.length+(if QBF.isEmpty then 0 else 1)<30:=by simp[Vig,List.isEmpty_nil,if_true];omega
  rw[decide_eq_true this];rfl
 rw[Vaw,bA0]at st;calc(Yet L io ih QoG B h3 QY5 QX5).congr λ_ _=>rfl
def X2b (er:ErrOk X.K) (hb:∀x∈blts,X.mg x=yy) (L:Gl X "isinstance") (hg:Gl X nm) (hok:Y6 nm=yx) (ht:tyB sc t nm=yx) (ha:DE X a fa) (B:Xz a=yx):
  DE X Qq2 Qf0:=by
 cases t with
 |cls c=>calc Xyk er (.inl ⟨c,rfl,oD0 ht⟩) hb L hg hok ha B|valueError=>calc Xyk er (.inr ⟨rfl,oD0 ht⟩) hb L hg hok ha B|int=>let e:=oD0 ht;subst e;calc Xfd (t:=.int) rfl hb L hg hok ha B|bool=>let e:=oD0 ht;subst e;calc Xfd (t:=.bool) rfl hb L hg hok ha B|str=>let e:=oD0 ht;subst e;calc Xfd (t:=.str) rfl hb L hg hok ha B|tuple=>let e:=oD0 ht;subst e;calc Xfd (t:=.tuple) rfl hb L hg hok ha B|list=>let e:=oD0 ht;subst e;calc Xfd (t:=.list) rfl hb L hg hok ha B|dict=>let e:=oD0 ht;subst e;calc Xfd (t:=.dict) rfl hb L hg hok ha B
def X3w(B:Xpt t=yx)(h:tyB sc t nm=yx):∃T,Xcg t=yz QaV:=by
 cases t with
 |cls c=>cases B|valueError=>cases B|_=>let e:=oD0 h;subst e;calc Qe
def X6m (er:ErrOk X.K) (hb:∀x∈blts,X.mg x=yy) (hs:X.env.scope=sc) (L:Gl X "isinstance") (ht:tyM sc ts y=yx) (ha:DE X a fa) (B:Xz a=yx):
  DE X (.Call Qv2 [a,y] [] pos) (λenv S=>Qp.bind λx S=>match QkL.bind λk=>Y4 k ts with|some r=>.ok QuB S|none=>.bad):=by
 rcases Ybk ht with⟨t,nm,p,rfl,rfl,h1,h2,h3⟩|⟨t1,t2,n1,n2,p1,p2,k,p,rfl,rfl,h1,h2,h3,h4,h5,h6,h7,h8⟩;·exact X2b er hb L QbJ h2 h3 ha B
 ·let⟨T1,q1⟩:=X3w h5 h7;let⟨T2,q2⟩:=X3w h6 h8;exact Ybp q1 q2 hb L QbJ (Yo hs h3) h2 h4 ha B
set_option maxHeartbeats 0 in
def Ybv{k:Nat}(h:X1v d c=yx):DE X (.Constant c k p) (ev F G QvW):=by
 cases d with
 |int i=>cases c with
  |int j=>cases eq_of_beq (show QKc=yx from h);calc d_int.congr λ_ _=>rfl|_=>cases h
 |bl i=>cases c with
  |bool j=>cases eq_of_beq (show QKc=yx from h);calc d_bl.congr λ_ _=>rfl|_=>cases h
 |non=>cases c with
  |none=>calc d_non.congr λ_ _=>rfl|_=>cases h
 |str i=>cases c with
  |str j=>cases oD0 (show decide (i=j)=yx from h);calc d_str.congr λ_ _=>rfl|_=>cases h
 |_=>cases h
mutual
def snd:∀(x:Ex) (X:Cx) (sc:Vaj) (N:LS) (e:Expr),X.N=N->X.env.scope=sc->PF cm F G fns gns X->mt cm fns gns sc N x e=yx->DE X e (ev F G x)/\DT X e (λenv S=>tst (ev F G x env S))
 |.nev=>λX sc N e hN hs B h=>⟨λ_ _ _ _ _ _ _ _ nb=>aB0 rfl nb,λ_ _ _ _ _ _ _ _ nb=>aB0 rfl nb⟩|.var i=>λX sc N e hN hs B h=>by let⟨x,p,rfl,h1,h2,L⟩:=Yay h;subst hN hs;let⟨o1,o2,_⟩:=Xa7 L;exact X6 ((Ydt h1 (X5w h2) o1 o2).congr λ_ _=>rfl) λ_=>rfl|.cst d=>λX sc N e hN hs B h=>by let⟨c,k,p,rfl,h⟩:=Yaz h;exact X6 (Ybv h) λ_=>rfl|.neg a=>λX sc N e hN hs B h=>by let⟨x,p,rfl,h⟩:=Ya0 h;exact X6 ((X3m (snd a X sc N x hN hs B h).1).congr λ_ _=>rfl) λ_=>rfl|.glb k=>λX sc N e hN hs B h=>by let⟨x,p,rfl,h1,h2,L⟩:=Ya2 h;let⟨o1,o2,_⟩:=Xa7 L;let⟨u,d,q1,q2,q3⟩:=B.glb k x h1;exact X6 ((Yeo Qq6 q1 q3 o1).congr λenv S=>by show(match G[k]? with|some d=>R.ok d S|none=>.bad)=_;rw[q2]) λ_=>rfl|.tup es=>λX sc N e hN hs B h=>by let⟨xs,k,p,rfl,h⟩:=Ya3 h;exact X6 ((Ydu Q6G).congr λ_ _=>rfl) λ_=>rfl|.lst es=>λX sc N e hN hs B h=>by let⟨xs,p,rfl,h⟩:=Ya4 h;exact X6 ((Ydv Q6G).congr λ_ _=>rfl) λ_=>rfl|.dct0=>λX sc N e hN hs B h=>by let⟨p,rfl⟩:=X59 h;exact X6 (d_dct0.congr λ_ _=>rfl) λ_=>rfl|.bin op a b=>λX sc N e hN hs B h=>by let⟨x,y,p,rfl,h1,h2⟩:=Ya5 h;exact X6 ((Ydw (Yea op) QBH.1 (snd b X sc N y hN hs B h2).1).congr λ_ _=>rfl) λ_=>rfl|.cmp op a b=>λX sc N e hN hs B h=>by let⟨x,y,p,rfl,h1,h2,L⟩:=Ya6 h;let ha:=Q53.1;let hb:=QII.1;exact⟨(Ydx QbR ha hb h1).congr λ_ _=>rfl,(X8m QbR ha hb h1).congr λ_ _=>rfl⟩|.chn o1 o2 a b c=>λX sc N e hN hs B h=>by let⟨x,y,z,p,rfl,h1,h2,L,h4⟩:=Ya7 h;let ha:=Q53.1;let hb:=QII.1;let hc:=(snd c X sc N z hN hs B h4).1;exact⟨(Yen QdR QcR ha hb hc h1).congr λ_ _=>rfl,(X9j QdR QcR ha hb hc h1).congr λ_ _=>rfl⟩|.and a b=>λX sc N e hN hs B h=>by
  rcases Ya8 h with⟨x,y,p,rfl,h1,h2⟩|⟨x,y,z,r,p,rfl,h1,h2⟩;·let ha:=snd a X sc N x hN hs B h1;let hb:=snd b X sc N y hN hs B h2;exact⟨(X3f ha.1 Qxa).congr λ_ _=>rfl,((Xw2 ha.2 (X4r hb.2)).dt).congr λ_ _=>rfl⟩
  ·let ha:=snd a X sc N x hN hs B h1;let hb:=snd b X sc N QMN hN hs B h2;exact⟨(X3f ha.1 hb.1).congr λ_ _=>rfl,((Xw2 ha.2 QMb).dt).congr λ_ _=>rfl⟩|.or a b=>λX sc N e hN hs B h=>by
  rcases Ye3 h with⟨x,y,p,rfl,h1,h2⟩|⟨x,y,z,r,p,rfl,h1,h2⟩;·let ha:=snd a X sc N x hN hs B h1;let hb:=snd b X sc N y hN hs B h2;exact⟨(X8n ha.1 Qxa).congr λ_ _=>rfl,((X3h ha.2 (X8p hb.2)).dt).congr λ_ _=>rfl⟩
  ·let ha:=snd a X sc N x hN hs B h1;let hb:=snd b X sc N QcO hN hs B h2;exact⟨(X8n ha.1 hb.1).congr λ_ _=>rfl,((X3h ha.2 QMb).dt).congr λ_ _=>rfl⟩|.not a=>λX sc N e hN hs B h=>by let⟨x,p,rfl,h⟩:=Ya1 h;let ha:=snd a X sc N x hN hs B h;exact⟨(Ydy ha.2 ha.1).congr λ_ _=>rfl,(X8o ha.2).congr λ_ _=>rfl⟩|.ite c a b=>λX sc N e hN hs B h=>by let⟨x,y,z,p,rfl,h1,h2,L⟩:=Ya9 h;let hc:=snd c X sc N x hN hs B h1;let ha:=snd a X sc N y hN hs B h2;let hb:=snd b X sc N z hN hs B L;exact⟨(Ydz hc.2 ha.1 hb.1).congr λ_ _=>rfl,(X9i hc.2 ha.2 hb.2).congr λ_ _=>rfl⟩|.idx a i=>λX sc N e hN hs B h=>by let⟨x,y,p,rfl,h1,h2,L⟩:=Yba h;exact X6 ((Yec (Xvd h1) Q53.1 (snd i X sc N y hN hs B L).1).congr λ_ _=>rfl) λ_=>rfl|.sli a lo hi=>λX sc N e hN hs B h=>by let⟨x,l,u,p2,p,rfl,h1,h2,L⟩:=Ybl h;exact X6 ((Ye5 QBH.1 (sndo lo X sc N l hN hs B h2) (sndo hi X sc N u hN hs B L)).congr λ_ _=>rfl) λ_=>rfl|.rev a=>λX sc N e hN hs B h=>by let⟨x,y,p,rfl,h1,h2⟩:=Ybn h;exact X6 ((Ybs Q1 Q53.1 h1).congr λenv S=>congrArg (R.bind _) (funext λx=>funext λS=>(X16 x S).symm)) λ_=>rfl|.cal f es=>λX sc N e hN hs B h=>by let⟨fx,y,ys,p,rfl,h1,h2,L,h4⟩:=Ybm h;let st:=Xaw es Qw h4;rw[Vaw,bA0]at st;exact X6 ((Ye7 B h1 (X6l h2) (snd f X sc N fx hN hs B L).1 QXF QY5 QX5).congr λ_ _=>rfl) λ_=>rfl|.isi a ts=>λX sc N e hN hs B h=>by let⟨p0,x,y,cp,rfl,h1,h2,L,h4⟩:=Ybj h;let ih:=(snd a X sc N x hN hs B L).1;exact X6 ((X6m B.err B.blt hs QbJ h4 ih h2).congr λ_ _=>rfl) λ_=>rfl|.lrg t .nil=>λX sc N e hN hs B h=>by cases h|.lrg t QU9=>λX sc N e hN hs B h=>by
  let⟨p,p2,x,cp,ab,rfl,h1,h2,L,h4,h5⟩:=Ybb h;let ih:=QAH.1;exact X6 ((Yey QTO Qq6 (B.blt _ (by cases t<;>decide)) Qbc Q26 ih QJg).congr λenv S=>by
   show(QUR.bind λx S=>(evs F G .nil env S).bind λxs S=>.ok QMA S).bind _=QUR.bind _
   cases ev F G a env S<;>rfl) λ_=>by cases t<;>rfl
 |.lrg t (.cons _ (.cons _ _))=>λX sc N e hN hs B h=>by cases h|.call f es=>λX sc N e hN hs B h=>by let⟨x,p0,y,ys,p,rfl,h1,h2,L,h4⟩:=X6a h;let⟨o1,o2,_⟩:=Xa7 L;let⟨fl,h1,ac⟩:=h1;let⟨g,fd,ps,k,c1,c2,c3,c4,c5,c6⟩:=B.fn f x _ fl h1 ac;let st:=Xaw es Qw h4;rw[Vaw,bA0]at st;exact X6 ((X8t c1 c2 c3 Qq6 c4 c5 QXF (λenv S ds S' q=>by rw[c6];calc Xtj es Qw h4 env S ds S' q) o1 QY5 QX5).congr λ_ _=>rfl) λ_=>rfl|.blt k es=>λX sc N e hN hs B h=>by let⟨x,p0,y,ys,p,rfl,h1,hq,h2,L,h4⟩:=Ybd h;let⟨o1,o2,o3⟩:=Xa7 L;let st:=Xaw es Qw h4;rw[Vaw,bA0]at st;let ih:=snds es X sc N Qw hN hs B h4;exact X6 (X18 B.err.sm B.gd B.units Qq6 B.blt (λz=>B.calm (by rw[z,Bool.or_false]at hq;calc hq)) h1 o1 o3 ih QY5 QX5) λ_=>rfl|.mth k o es=>λX sc N e hN hs B h=>by let⟨ox,nm,ap,y,ys,cp,rfl,h1,h2,L,h4,h5,h6⟩:=Ybe h;let st:=Xaw es Qw h6;let ih:=snds es X sc N Qw hN hs B h6;let io:=QgG.1;exact X6 (X19 h1 h2 L h4 io ih st) λ_=>rfl|.sst a=>λX sc N e hN hs B h=>by let⟨p,p2,x,cp,ab,rfl,h1,h2,L,h4,h5⟩:=Ybc h;let ih:=QAH.1;exact X6 ((Yer B.units QTO Qq6 Q26 Qbc Q26 ih QJg).congr λ_ _=>rfl) λ_=>rfl|.st0=>λX sc N e hN hs B h=>by let⟨p,cp,rfl,h1⟩:=Ybg h;exact X6 ((Yes QbJ Q26).congr λ_ _=>rfl) λ_=>rfl|.sad o es=>λX sc N e hN hs B h=>by let⟨ox,ap,y,ys,cp,rfl,h2,L,h4,h5,h6⟩:=Ybf h;let st:=Xaw es Qw h6;let ih:=snds es X sc N Qw hN hs B h6;let io:=QgG.1;exact X6 (X2a (by let:=B.units;omega) h2 L h4 io ih st) λ_=>rfl|.srs a=>λX sc N e hN hs B h=>by let⟨p,x,cp,rfl,h1,h2,L,h4⟩:=Ybh h;let ih:=(snd a X sc N x hN hs B h4).1;exact X6 ((Yeu B.units QTO Qq6 Q26 ih (Xj L)).congr λ_ _=>rfl) λ_=>rfl|.st2 k a=>λX sc N e hN hs B h=>by let⟨x,y,p,rfl,h1,h2⟩:=Ybi h;exact X6 ((Ye6 Q53.1 h1).congr λ_ _=>rfl) λ_=>rfl|.frz a=>λX sc N e hN hs B h=>by let⟨h1,h2⟩:=Xkk h;exact X6 ((snd a X sc N e hN hs B h2).1.frz.congr λ_ _=>rfl) λw=>Yax h1.2 _ w|.cmr k n gs elt=>λX sc N e hN hs B h=>by let⟨ee,gens,scope,p,rfl,h0,h1,h2,L,h4,h5⟩:=Xyh h;subst h1 h2;let so:=Xyf L;let aa:=B.calm h0;let⟨c⟩:=Xtk (p:=p) hN hs B aa so (sndg gs X sc N _ _ gens hN hs B h4) (λY y1 y2 y3=>(snd elt Y _ _ ee y1 y2 y3 h5).1);subst hN hs;exact X6 ?_ λ_=>rfl;rw[c.eq];exact X9c aa so rfl c.hg c.hi c.hs c.hG c.hT c.hB
def sndo:∀(o:Op) (X:Cx) (sc:Vaj) (N:LS) (x:Option Expr),X.N=N->X.env.scope=sc->PF cm F G fns gns X->mto cm fns gns sc N o x=yx->DO X x (evo F G o)
 |.none=>λX sc N x hN hs B h=>by
  cases x with
  |none=>let:evo F G .none=λ_ S=>.ok yy S:=rfl;rw[this];calc Xtg|some _=>cases h
 |.some e=>λX sc N x hN hs B h=>by
  cases x with
  |none=>cases h|some x=>let h':mt cm fns gns sc N e x=true:=h;let:evo F G QiT=λenv S=>Qt0.bind λx S=>.ok QQ3 S:=rfl;rw[this];exact Xl1 (snd e X sc N x hN hs B h').1
def snds:∀(es:Exs) (X:Cx) (sc:Vaj) (N:LS) (xs:LX),X.N=N->X.env.scope=sc->PF cm F G fns gns X->mts cm fns gns sc N es xs=yx->DA X xs QeF
 |.nil,X,sc,N,[]=>λhN hs B h=>by let:evs F G .nil=λ_ S=>.ok [] S:=rfl;rw[this];exact X8l|.cons e es,X,sc,N,x::xs=>λhN hs B h=>by simp[mts,bA0]at h;let:evs F G QpF=λenv S=>Qt0.bind λx S=>Qh4.bind λxs S=>.ok QMA S:=rfl;rw[this];exact X4p QYF.1 (snds es X sc N xs hN hs B h.2) (Xj h.1.1)|.nil,X,sc,N,_::_=>λhN hs B h=>by simp![mts]at h|.cons _ _,X,sc,N,[]=>λhN hs B h=>by simp![mts]at h
def Xvq:∀(es:Exs) (X:Cx) (sc:Vaj) (N:LS) (xs:LX),X.N=N->X.env.scope=sc->PF cm F G fns gns X->mts cm fns gns sc N es xs=yx->DTs X xs (evts F G es)
 |.nil,X,sc,N,[]=>λhN hs B h=>by let:evts F G .nil=λ_ S=>.ok yx S:=rfl;rw[this];exact X46|.cons e es,X,sc,N,x::xs=>λhN hs B h=>by
  simp[mts,bA0]at h;let:evts F G QpF=λenv S=>Qt0.bind λx S=>match X4 S x with|some yx=>evts F G es env S|some yw=>.ok yw S|none=>.bad:=rfl
  rw[this];exact X0z QYF.2 (Xvq es X sc N xs hN hs B h.2)|.nil,X,sc,N,_::_=>λhN hs B h=>by simp![mts]at h|.cons _ _,X,sc,N,[]=>λhN hs B h=>by simp![mts]at h
def Xvr:∀(it:It) (X:Cx) (sc:Vaj) (N:LS) (tg x:Expr),X.N=N->X.env.scope=sc->PF cm F G fns gns X->(Xvj it=yx->∃es k p,tg=.Tuple es k p)->mtI cm fns gns sc N it x=yx->DI X tg x QIK
 |.val e=>λX sc N tg x hN hs B _ h=>by
  simp[mtI]at h;let:evit F G Qxe=λenv S=>Qt0.bind λx S=>match Yg S x with|some r=>.ok r S|none=>.bad:=rfl
  rw[this];exact X83 (snd e X sc N x hN hs B h).1|.rng es=>λX sc N tg x hN hs B _ h=>by
  let⟨p0,y,ys,p,rfl,h2,L⟩:=X6d h;let st:=Xaw es Qw L;rw[Vaw,bA0]at st;let:evit F G QNd=λenv S=>Qh4.bind λxs S=>match Xbe xs with|some ds=>.ok QgM S|none=>.bad:=rfl
  rw[this];exact X84 Qq6 Q26 QQ7 QY5 QX5|.zpp es=>λX sc N tg x hN hs B ht h=>by
  let⟨p0,y,ys,p,rfl,h2,L⟩:=X6b h;let⟨ts,k,tp,rfl⟩:=ht rfl;let st:=Xaw es Qw L;rw[Vaw,bA0]at st;let:evit F G QId=λenv S=>Qh4.bind λxs S=>match xs with
   |Qm9=>match Yg S x,Yg S y with
    |some s,yz t=>.ok QdQ S|_,_=>.bad
   |_=>.bad:=rfl
  rw[this];exact X87 Qq6 Q26 QQ7 QY5 QX5|.enm es=>λX sc N tg x hN hs B ht h=>by
  let⟨p0,y,ys,p,rfl,h2,L⟩:=X6c h;let⟨ts,k,tp,rfl⟩:=ht rfl;let st:=Xaw es Qw L;rw[Vaw,bA0]at st;let:evit F G Qdd=λenv S=>Qh4.bind λxs S=>match xs with
   |[x]=>match Yg S x with
    |some s=>.ok QuW S|none=>.bad
   |_=>.bad:=rfl
  rw[this];exact X88 Qq6 Q26 QQ7 QY5 QX5
def sndg:∀(gs:Gens) (X:Cx) (sc:Vaj) (N:LS) (sc2:Vaj) (N2:LS) (gens:List Vca),X.N=N->X.env.scope=sc->PF cm F G fns gns X->mtG cm fns gns sc N sc2 N2 gs gens=yx->Ybu F G X sc2 N2 QNO gs gens
 |.nil=>λX sc N sc2 N2 gens hN hs hp h=>(Yez h).elim|.cons t it ifs .nil=>λX sc N sc2 N2 gens hN hs hp h=>by let⟨tg,iter,cs,rfl,h2,h3,h4,h5,h6⟩:=Ye0 h;exact⟨tg,iter,cs,rfl,h2,hN▸h3,Xvr it X sc N tg iter hN hs hp (Xkl h6 h3) h4,λY y1 L y3=>Xvq ifs Y sc2 N2 cs y1 L y3 h5⟩|.cons t it ifs Q36=>λX sc N sc2 N2 gens hN hs hp h=>by let⟨tg,iter,cs,ab,B,aa,rfl,h3,h4,h5,h6,h7,h8,h9,af,ae,ac⟩:=Ye1 h;exact⟨tg,iter,cs,ab,B,aa,rfl,h3,h4,hN▸h5,hN▸h8,Xvr it X sc N tg iter hN hs hp (Xkl ae h5) h6,λY y1 L y3=>Xvq ifs Y sc2 N2 cs y1 L y3 h7,λY y1 L y3=>Xvr it2 Y sc2 N2 ab B y1 L y3 (Xkl ac h8) h9,λY y1 L y3=>Xvq ifs2 Y sc2 N2 aa y1 L y3 af⟩|.cons t it ifs (.cons t2 it2 ifs2 (.cons _ _ _ _))=>λX sc N sc2 N2 gens hN hs hp h=>(Ye2 h).elim
end
variable{X:Cx}{pc:LA}{σ:L2.St}{H:Hp}{s:Vc}{ρ:LR}{S S':Sto}{env:En}{a b e tg:Expr}{f:En->Sto->R D}{pos:Pos}
def Ybw(he:DE X e f)(hg:DG X tg t)(hs:Vei [tg] e pos.line X.env=pure yw)(hw:Vej [tg] e X.env=pure yy)(h1:(Vb8 [tg] X.env).map Qx1=[assign tg X.env]):
  DS X (.Assign [tg] e pos) yw (λenv S=>QE0.bind λx S=>match Xx t x env with|some env=>.ok QW3 S|none=>.bad):=by
 intro pc s σ H ρ S env I L;dsimp at L |-;cases q:f env S with
 |bad=>rw[q]at L;cases L rfl|ex n S1=>exact Vip (he.ex I q λx s' z=>.of .refl z rfl) hs hw|ok d S1=>
  rw[q]at L;simp[Rk0]at L |-;cases q2:Xx t d env with
  |none=>rw[q2]at L;cases L rfl|some B=>calc Vip (he.ok I q λu s' v H' ρ' J rv rd st=>?_) hs hw;rw[h1];calc hg pc s' σ H' ρ' S1 env d v u B _ _ J q2 rd rv λs2 aa I2=>⟨.nx B,S1,rfl,rfl,aa,H',ρ',I2,st,λz=>nomatch z⟩
def X6n{kt k2 pt2}(hc:X.calm=yx)(hN:X.N.Nodup)(hi:X.N[i]?=yz x)(hj:X.N[j]?=yz y)(ab:i≠j)
  (hx:X.env.scope.names.lookup x=yz .local) (hy:X.env.scope.names.lookup y=yz .local) (ha:DA X Q2H ga)
  (hw:Vej QL5 QwB X.env=pure (yz Qm9))
  (hs:Vei QL5 QwB pos.line X.env=pure yw):
  DS X (.Assign QL5 QwB pos) yw (λenv S=>Q8Q.bind λxs S=>if [i,j].length=lg xs then .ok (.nx (([i,j].zip xs).foldl Qu0 env)) S else .bad):=by
 intro pc s σ H ρ S env I B;dsimp at B |-;rw[exec_Assign_arm];calc Va (Ve7 ?_);rw[hs];calc Va Qz0;rw[iN0 Q1];cases q:ga env S with
 |bad=>rw[q]at B;cases B rfl|ex n S1=>exact Va (Tuple_ (ha.ex I q λx s' z=>.of .refl z rfl))|ok ds S1=>
  rw[q]at B;simp[Rk0]at B |-;split at B
  ·rename_i hl;rw[iP0 hl];obtain⟨d1,d2,rfl⟩:∃d1 d2,ds=[d1,d2]:=by
    match ds,hl with
    |[d1,d2],_=>exact⟨d1,d2,rfl⟩
   calc Va (Tuple_ (ha.ok I q λus s1 vs H1 af I1 ac ae aa=>?_));let⟨v,w,rfl,ag,ah⟩:=ae.two;obtain⟨u1,L,rfl,rv,ai⟩:∃u1 L,us=[u1,L]/\RelV v u1/\RelV w L:=by
    cases ac with
    |cons p q=>
     cases q with
     |cons p' q'=>cases q';exact⟨_,_,rfl,p,p'⟩
   calc Val ?_ (by show 2<=V8;decide);let I2:Inv X pc σ H1 {s1 with heap:=s1.heap.push {cls:=.type "tuple",data:=.seq [u1,L].toArray} }:=I1.inv.kept (t':=s1.toks) λb o e=>Vf _ e;rw[hw];calc Va Qz0;show Vg Q3 X.A (do rule "assign.swapped-stores";let items <- unpackItems QpJ 2 yy;assignInOrder QG9 items.reverse;pure Flow.next) _ _ _;calc Va (Vb3 (Va (unpackItems_tuple (items:=#[u1,L]) QKG (IsTup.new s1.heap _) λh' aj=>?_)));let I3:=I2.kept (h':=h') (t':=s1.toks) λb o e=>aj b o QPW e;show Vg _ _ (assignInOrder QG9 [L,u1] >>= λ_=>pure Flow.next) _ _ _;calc Va (Vi4 (wpAny_bindName (Xcj I3 hN hj (.inl hy) ai (λs2 I4=>?_) QVd)));calc Vi4 (wpAny_bindName (Xcj I4 hN hi QYd rv (λs3 I5=>assignInOrder_nil Qz0) QWd));rw[List.set_comm _ _ QAY]at I5;exact⟨.nx ((env.set i (yz d1)).set j (yz d2)),S1,rfl,rfl,_,H1,af,⟨I5,I1.sr,(I1.er.set i ag).set j ah⟩,aa,λz=>nomatch z⟩
  cases B rfl
def Xyo(hu:X.A.units+1<Vbw)(I:S0 X pc σ H s ρ S env)(B:Xbl x y d S≠.bad)(rx:RD X.K ρ H x vx)(qx:RelV vx ux)(ry:RD X.K ρ H y vy)(qy:RelV vy uy)(rd:RD X.K ρ H d v)(rv:RelV v u)
  (L:∀S' s' H',Xbl x y d S=.ok () S'->S0 X pc σ H' s' ρ S' env->Stp X.K ρ ρ H H'->Q () s'):Vg Q3 X.A (setItem ux uy u) Q Ev s:=by
 unfold Xbl at B L;cases x with
 |ref n=>dsimp at B L;cases y with
  |int k=>
   dsimp at B L;cases e:Z.lstM S n with
   |none=>rw[e]at B;cases B rfl|some xs=>
    rw[e]at B L;dsimp at B L;cases e2:Z.ixN QL k with
    |none=>rw[e2]at B;cases B rfl|some j=>
     rw[e2]at L;let⟨a,ws,rfl,ha,hv,hr⟩:=I.lstR e rx;simp[RD]at ry;subst ry;let hl:L2.ixN ws.length k=yz j:=by rw[<-hr.length];exact e2
     exact thn (X0e (X:=X.wish Ev) pc s σ H Qt QnW v ux uy u (λH'=>H'=upd H a QVO) (I.inv.wish Ev) qx qy rv ⟨a,ws,k,j,rfl,rfl,hv,hl,rfl⟩) λ_ s' ⟨H',J,e3⟩=>?_;subst e3;let nf:∀o u,H a≠yz QT1:=λo u z=>by rw[hv]at z;cases z
     let st:Stp X.K ρ ρ H (upd H a QVO):=Stp.chg (S:=S) (o:=.lst (xs.set j d)) I.sr ha nf;calc L _ s' _ rfl ⟨J.unwish,I.sr.chg ha nf ⟨ws.set j v,Xu,(hr.set rd j).mono st⟩,I.er.mono st⟩ st
  |_=>cases B rfl
 |_=>cases B rfl
variable{o i:Expr}{fo fi:En->Sto->R D}{spos:Pos}
def X6o(hu:X.A.units+1<Vbw)(he:DE X e f)(ho:DE X o fo)(hi:DE X i fi)(hs:Vei Q7C e pos.line X.env=pure yw)(hw:Vej Q7C e X.env=pure yy)
  (hA:∀v,assign Q25 X.env v=(do
   let ov <- Vdp [v] QoI
   let iv <- Vdp [v,ov] (eval i X.env)
   standAt spos
   Vdp QVN QwP
   release QVN [])):
  DS X (.Assign Q7C e pos) yx (λenv S=>QE0.bind λv S=>Q2C.bind λx S=>Qx9.bind λy S=>Qv7.bind λ_ S=>.ok QW3 S):=by
 intro pc s σ H ρ S env I nb;dsimp at nb |-;generalize hr:QE0.bind (λv S=>Q2C.bind λx S=>Qx9.bind λy S=>Qv7.bind λ_ S=>R.ok Q4a S)=r at nb |-;let h1:(Vb8 [Expr.Subscript o i spos] X.env).map Qx1=[assign Q25 X.env]:=rfl;calc Vip (he.bind I QK4 hr.symm (λd S1 u s1 v H1 al e1 aa I1 rv rd B=>?_) λx s' Q2V=>.of .refl z e2) hs hw;rw[h1];show Vg _ _ (assign Q25 X.env u) _ _ _;rw[hA];calc Va (U2 (ho.bind I1 aa e1 (λx S2 ux s2 vx H2 ak e2 ae I2 ag ac st2=>?_) λx s' Q1V=>.of B z e3));calc Va (U2 (hi.bind I2 ae e2 (λy S3 uy s3 vy H3 ah e3 aj I3 ai ab L=>?_) λx s' ⟨n,S4,e4,z⟩=>.of QaW z e4));calc Va (Ve7 (Va (U2 (Xyo hu I3 (λz=>aj Q43) (ac.mono L) ag ab ai (QB5.mono L) rv λS4 s4 H4 e4 I4 af=>?_))));calc wpAny_release ⟨.nx env,S4,by rw[e3,e4];rfl,rfl,σ,H4,ah,I4,B.trans (st2.trans (L.trans af)),λ_=>rfl⟩
def Ye8(I:S0 X pc σ H s ρ S env)(B:Xlg op x y S≠.bad)(rx:RD X.K ρ H x vx)(qx:RelV vx ux)(ry:RD X.K ρ H y vy)(qy:RelV vy uy):
  Vg Q3 X.A (inplaceOp QhG ux uy) (OkP X pc σ ρ H (Xlg op x y S)) Ev s:=by
 cases x with
 |int i=>
  cases y with
  |int j=>
   simp[RD]at rx ry;subst rx ry;let⟨t,rfl⟩:=qx;let⟨t',rfl⟩:=qy;cases op with
   |add=>exact iadd_int QY0|sub=>exact isub_int QY0|mul=>
    by_cases L:Xaj i j=yx;·rw[show Xlg .mul Q61 QF2 S=.ok QoF S from iP0 L];exact imul_int QY0 (Xo3 L)
    ·calc aB0 Qrf B|_=>cases B rfl
  |_=>cases B rfl
 |_=>cases B rfl
def Ye9(I:S0 X pc σ H s ρ S env)(B:Xgr x y S≠.bad)(rx:RD X.K ρ H x vx)(qx:RelV vx ux)(ry:RD X.K ρ H y vy)(qy:RelV vy uy):
  Vg Q3 X.A (Vf7 ux uy) (OkP X pc σ ρ H QXH) Ev s:=by
 unfold Xgr at B |-;split at B
 ·rename_i n k;cases e:Z.lstAt S n with
  |none=>rw[e]at B;cases B rfl|some xs=>
   rw[e]at B;dsimp at B |-;cases e2:Qt6 with
   |none=>rw[e2]at B;cases B rfl|some d=>
    dsimp;simp[RD]at ry;subst ry;let⟨p,vs,rfl,ha,hv,hr⟩:=I.lstR e rx;let⟨z,hz,rz⟩:=Xw6 hr e2;cases qx;let⟨t,rfl⟩:=qy;let⟨its,r,pl,ab⟩:=I.inv.list (.of hv);let⟨j,h1,h2,h3,h4,h5⟩:=Xlb hz;let⟨w,ew,aa⟩:=r.get h2;let hl:=r.length;let hn:=Xe8;let fin:OkP X pc σ ρ H QME w s:=.mk .refl I.inv aa rz I.sr;by_cases h0:0<=k
    ·let L:k.toNat=j:=by
      rw[seqIndex_of h0 h5]at h1;exact Ur h1
     exact wpAny_getItem_list pl.isList h0 Q0 QKK fin
    let L:Qmf.toNat=j:=by rw[seqIndex_neg Q0 h4]at h1;rw[Vq,<-hl];exact Ur h1
    exact wpAny_getItem_list_neg pl.isList Q0 QFQ Q0 QKK fin
 ·cases B rfl
def X6p(hu:X.A.units+1<Vbw)(ho:DE X o fo)(hi:DE X i fi)(he:DE X e f)(hA:∀ov iv new,augStore i ov iv new=(do Vdp Qkb (setItem ov iv new);release Qkb [];pure .next)):
  DS X (.AugAssign Q25 QhG e pos) yx (λenv S=>Q2C.bind λx S=>Qx9.bind λy S=>QXH.bind λa S=>QE0.bind λz S=>QwI.bind λv S=>Qv7.bind λ_ S=>.ok QW3 S):=by
 intro pc s σ H ρ S env I nb;dsimp at nb |-;generalize hr:(Q2C.bind λx S=>Qx9.bind λy S=>QXH.bind λa S=>QE0.bind λz S=>QwI.bind λv S=>Qv7.bind λ_ S=>R.ok Q4a S)=r at nb |-;calc wpAny_AugAssign_SubscriptAny (ho.bind I QK4 hr.symm (λx S1 ux s1 vx H1 a1 e1 ao I1 aj ah L=>?_) λx s' Q2V=>.of .refl z e2) hA;calc hi.bind I1 ao e1 (λy S2 uy s2 vy H2 az e2 aa I2 ak ag st2=>?_) λx s' Q1V=>.of L z e3;calc Vp (Ye9 (Ev:=λ_ _=>False) I2 (λz=>aa Q43) (ah.mono st2) aj ag ak) (λua s3 hz=>?_) λ_ _ z=>z.elim;let⟨a,S3,e3,va,H3,au,J3,aq,an,ar,B⟩:=hz;rw[e3]at e2 aa;let I3:S0 X pc σ H3 s3 au S3 env:=I2.step J3 ar B;calc he.bind I3 aa e2 (λz S4 uz s4 vz H4 a0 e4 ac I4 ay aw ab=>?_) λx s' ⟨n,S5,e5,z⟩=>.of (L.trans (st2.trans B)) z e5;calc Vp (Ye8 (Ev:=λ_ _=>False) I4 (λz=>ac Q43) (an.mono ab) aq aw ay) (λun s5 hz=>?_) λ_ _ z=>z.elim;let⟨v,S5,e5,vv,H5,ai,J5,am,av,ax,ae⟩:=hz;rw[e5]at e4 ac;let I5:S0 X pc σ H5 s5 ai S5 env:=I4.step J5 ax ae;let af:=st2.trans (B.trans QzV);let al:=B.trans QzV;calc Xyo hu I5 (λz=>ac (by simp[Rk0];rw[z];rfl)) (ah.mono af) aj (ag.mono al) ak av am λS6 s6 H6 e6 I6 ap=>?_;calc⟨.nx env,S6,by rw[e4];simp[Rk0];rw[e6];rfl,rfl,σ,H6,ai,I6,L.trans (af.trans ap),λ_=>rfl⟩
universe e
theorem Ybx(C:Addr)(h:Heap):Prop:=∃tl N nm qn bs hd sn sub ab B dd k0 k1 k2 k3 k5 L,
 h.get? C=yz (excClassObj nm qn C N bs tl hd sn sub ab B dd k0 k1 k2 k3 k5 "ValueError.__new__")/\h.Ns N L/\L "__init__"=yy/\OwnTail h bmV tl
def X6q{K:Vh}{h:Heap}{C:Addr}(hK:K.In h)(B:Xpx K C=yx):Ybx C h:=by
 unfold Xpx at B;cases lk:K.lookup C with
 |none=>rw[lk]at B;cases B|some o=>
  rw[lk]at B;dsimp at B;cases L:X1z o.data with
  |none=>rw[L]at B;cases B|some cd=>rw[L]at B;simp[bA0,beq_iff_eq,Uq]at B;let⟨⟨⟨⟨⟨⟨e0,e1⟩,e2⟩,e3⟩,e4⟩,e5⟩,e6⟩:=B;let⟨cl,dct,dt,aa⟩:=o;let⟨nm,bs,ac,ns,qn,hd,sn,sub,ab,af,ae⟩:=cd;dsimp at e0 e1 e2 e3 e4 e5 e6 L;obtain rfl:=X6e L;obtain⟨tl,e7⟩:∃tl,ac=.ref C::tl:=⟨_,e1⟩;obtain⟨k0,k1,k2,k3,k5,e8⟩:∃k0 k1 k2 k3 k5,aa=#[k0,k1,k2,k3,yz (.builtin "ValueError.__new__"),k5]:=⟨_,_,_,_,_,e2⟩;clear e1 e2;subst e0 e3 e7 e8;calc⟨tl,_,_,_,_,_,_,_,_,_,_,_,_,_,_,_,_,hK _ _ lk,.of_isNs (PySem.W.isNs_of_in hK e5),PySem.W.nsMap_none_of_in hK e5 e6,PySem.W.tail_of_in hK e4⟩
def _root_.L2.Inv.newX(I:Inv X pc σ H s)(k:∀b u,s.heap.get? b=yz u->h'.get? b=yz u)(L:s.heap.get? a=yy)
  (new:ObjOk X.prog X.w Qo5 h' a o):Inv X pc σ Qo5 QO/\HOk X.prog X.w Qo5 h':=by
 let B:H a=none:=by
  cases z:H a with
  |none=>rfl|some w=>let⟨q,e⟩:=Xc7 (I.hok a w z);rw[L]at e;cases e
 let ne:∀b u,H b=yz u->b≠a:=λb u q=>Xp q B;let hok:HOk X.prog X.w Qo5 h':=λb u q=>by
  by_cases hb:b=a;·subst hb;rw[Xu]at q;cases q;exact new
  ·rw[Xe hb]at q;exact QaK.stay (λc v _ e=>k c v e) (λc z=>by rw[Xe QYa];calc z) λc xs _ z=>by rw[Xe QYa];exact z
 calc⟨I.un (t':=s.toks) ⟨λb u e _ _ _=>k b u e,λb u e _ _ _=>⟨u.slots,k b u e⟩,λb u e n _=>?_,λb u e _=>⟨u,k b u e⟩,λb xs z=>by rw[Xe Q1Q];calc z,λb u xs z=>by rw[Xe Q1Q];calc z,λb ps z=>by rw[Xe Q1Q];calc z⟩ hok,hok⟩;rw[Xe (λz=>by rw[z,L]at e;cases e)];calc n
section
variable{X:Cx}{pc:LA}{σ:L2.St}{H:Hp}{s:Vc}{ρ:LR}{S:Sto}{env:En}{e:Expr}{f:En->Sto->R D}{pos np cpos:Pos}
def Yby{c:Nat}{x:Str}{C:Addr}(hc:X.calm=yx)(hx:Xcd c=yz x)(hn:Va3 X.K Up x=yz QPV)(hq:Xpx X.K C=yx)
  (hg:Gl X x) (af:Q50=yw) (he:DE X e f) (ac:Xz e=yx):DS X (.Raise (yz (.Call (.Name x np) [e] [] cpos)) yy pos) yx (λenv S=>QE0.bind λ_ S=>.ex QD QWK):=by
 intro pc s σ H ρ S env I nb;dsimp at nb |-;let hm:X.mg x=yz QE2:=Vdr I.inv.mod.kin I.inv.mod.glob hn;let ah:Xac X.K c=yz C:=by unfold Xac;rw[hx];simp[Uy,hn]
 let⟨tl,N,nm,qn,bs,hd,sn,sub,ab,ae,dd,k0,k1,k2,k3,k5,mN,hC,hN,aj,T⟩:=X6q I.inv.mod.kin hq;exact wpAny_Raise_call_subT (C:=C) (nm:=nm) (q:=qn) (N:=N) (bs:=bs) (bm:=tl) (hdct:=hd) (sn:=sn) (sub:=sub) (ab:=ab) (col:=ae) (dd:=dd) (k0:=k0) (k1:=k1) (k2:=k2) (k3:=k3) (k5:=k5)
  PySem.F.excBase_ValueError (mN:=mN) (T.hasType PySem.F.excBase_ValueError.hasBase) QKG (by rw[Xj ac];rfl) aj (Xe7 I.inv hg hm ⟨rfl,?_⟩ af)
 rw[Xj ac];calc Veo ?_;generalize hr:(QE0.bind λ_ S=>(R.ex QD QWK:R Fl))=r at nb |-;calc Vbm (he.bind I QK4 hr.symm (λd S1 u s1 v H1 ai e1 ak L rv rd ag=>Vdq ?_) λy s' ⟨n,S2,z1,z2⟩=>⟨n,S2,σ,z1,λ_=>rfl,z2⟩);calc⟨rfl,by simp![V8],L.inv.bk _ _ hC,hN.keeps L.inv.bk,T.keeps L.inv.bk,λh' a B=>?_⟩;let⟨t,h1,h2,h3⟩:=B.there;let aa:H1 a=none:=by
  cases z:H1 a with
  |none=>rfl|some w=>let⟨o,e⟩:=Xc7 (L.inv.hok a w z);rw[B.new]at e;cases e
 let xo:ExcO C a h':=⟨_,_,_,h1,rfl,rfl,rfl,by simp!⟩;let⟨J,hok⟩:=L.inv.newX B.keeps B.new xo.ok;calc⟨QzE,S1++Qb9,σ,e1,λ_=>rfl,_,ai++[a],a,c,J,rfl,?_,by simp!,L.sr.new1 (o:=.exc c) aa ⟨C,ah,Xu⟩,ag.trans (Stp.new1 aa),.inl ⟨_,_,h1,rfl,rfl⟩⟩;rw[<-L.sr.len];simp!
universe e
abbrev inH(X:Cx)(a:Addr):Cx:={ X with A:=X.A.mark QhN,calm:=yw}
section
variable{X:Cx}{pc:LA}{σ:L2.St}{H:Hp}{s:Vc}{a:Addr}
def Inv.inH(I:Inv X pc σ H s)(a:Addr):Inv (inH X a) pc σ H s:=
 ⟨⟨I.ok.mod,I.ok.kind,I.ok.glob,I.ok.blt,I.ok.above,I.ok.inj,I.ok.has,I.ok.cab,QY3,I.ok.frames,I.ok.stk,I.ok.exf,I.ok.bs,I.ok.bsz,I.ok.noex,I.ok.exfs,I.ok.funs,I.ok.frf⟩,I.os,I.bare,I.base,I.loc,I.cell,I.free,I.freeC,I.pin,I.hok,I.len⟩
def Inv.outH(I:Inv QVH pc σ H s)(ok:X.Ok):Inv X pc σ H s:=⟨ok,I.os,I.bare,I.base,I.loc,I.cell,I.free,I.freeC,I.pin,I.hok,I.len⟩
def Inv.goes(I:Inv X pc σ H s)(hl:X.env.scope.names.lookup n=yz .local)
  (h:∀s',Inv X pc (Vn σ.length yy) H s'->Q () s'):Vg M A (do bindName X.env n .none;unbindBehindTheSuite X.env n p) Q E s:=by
 let⟨m,hn,_⟩:=I.loc;exact wpAny_nameGoes hl hn (by rw[I.ok.kind];rfl) λh' m' aa sb=>h _ ?_;let⟨o,es,ep,ho,r⟩:=id hn;let⟨o',ae,ac,ab,r'⟩:=id aa;let B:∀b u,X.s₀.heap.get? b=yz u->b≠X.env.locals:=λb u e=>Ul QJ2;let L:∀x c,X.env.cells.lookup x=yz c->∀v,s.heap.IsCell c v->h'.IsCell c v:=λx c e v ⟨u,hu,hd⟩=>⟨u,(sb.2 c QbK).trans hu,hd⟩;calc⟨I.ok,I.os,I.bare,⟨λb u e q hb hx=>QkD.trans (I.base.keep b u e q hb hx),λb u e q hb hx=>?_,I.base.free,λb u e hx=>?_,I.base.tups,I.base.frzs,I.base.tbls⟩,⟨m',aa,λi x v _ e2 _=>?_⟩,λx c e=>?_,I.free,I.freeC,λp hp=>?_,λb u q=>?_,by rw[Vh5];calc I.len⟩;·let⟨sl,z⟩:=I.base.slot b u e q hb hx;exact⟨sl,QkD.trans z⟩
 ·let⟨w,z⟩:=I.base.there b u e hx;exact⟨w,QkD.trans z⟩
 ·rw[Vdv]at e2;split at e2<;>cases e2
 ·let⟨v,z⟩:=I.cell x c e;exact QeP
 ·let⟨e,n,ne,r⟩:=I.pin p hp;exact⟨(sb.2 _ ne).trans e,n,ne,r⟩
 ·let ne:∀c v,H c=yz v->c≠X.env.locals:=λc v z=>Xp z I.free;exact QaK.stay (λc v hc e=>?_) QSa λ_ _ _ z=>z;rcases hc with rfl|hc;·exact(sb.2 _ (ne _ _ q)).trans e
  ·calc(sb.2 _ (ne _ _ hc)).trans e
abbrev Ybz(c i:Nat)(g B:En->Sto->R Fl)(env:En)(S:Sto):R Fl:=match g env S with
 |.ex m S'=>match S'[m]? with
  |some Qcd=>if c==0||c==c' then
    match B Qg3 S' with
    |.ok QT9 S''=>.ok QT9 S''|_=>.bad
   else .bad|_=>.bad
 |r=>r
def Yb0(hs:X.stack=X.env::X.outer)(hf:X.env.frame=yz X.env.locals)
  (hN:X.N.Nodup) (hi:X.N[i]?=yz n) (hl:X.env.scope.names.lookup n=yz .local) (hn:Va3 X.K Up x=yz (yz QSM)) (hg:Gl X x) (al:Q50=yw)
  (hm:∀c' C,Xac X.K c'=yz C->QzD=yx->PySem.W.exmOne X.K QE2 QSM=yz yx) (hb:DSs X body yx g) (hh:∀a,DSs QVH (b0::suite) na gh):
  DS X (.Try body Qd7 [] [] pos) yw (Ybz c i g gh):=by
 intro pc s σ H ρ S env I B;unfold Ybz at B |-;calc wpAny_Try_except ?_;cases q:g env S with
 |bad=>rw[q]at B;cases B rfl|ok y S1=>
  exact Vp QiG QSB λx s1 z=>?_
  ·rw[q]at z;let z':=z.pre (σ:=σ) (na':=yw) .refl λw=>nomatch w;let⟨y',S2,e,z2⟩:=z;cases e;cases y with
   |nx e=>let⟨rfl,_⟩:=z2;exact wpAny_execs_nil z'|brk e=>let⟨rfl,_⟩:=z2;exact z'|cnt e=>let⟨rfl,_⟩:=z2;exact z'|rt d=>let⟨u,v,aq,H',ρ',rfl,_⟩:=z2;exact z'
  let⟨k,S2,ax,e,_⟩:=z;rw[q]at e;cases e|ex m S1=>
  rw[q]at B;dsimp at B |-;exact Vp QiG QSB λx1 s1 z=>?_;·let⟨y,S2,e,_⟩:=z;rw[q]at e;cases e
  let⟨m',S2,aq,e,an,H1,ag,a,c',J,rfl,ak,hc,sr,st,fl⟩:=z;rw[q]at e;cases e;cases an rfl;rw[hc]at B |-;dsimp at B |-;let aj:QzD=true:=by
   cases z:QzD with
   |true=>rfl|false=>rw[z]at B;cases B rfl
  rw[iP0 aj]at B |-;obtain⟨d,S2,aa⟩:∃d S2,gh (env.set i (yz (.ref m))) S1=.ok (.rt d) S2:=by
   cases z:gh Qg3 S1 with
   |bad=>rw[z]at B;cases B rfl|ex _ _=>rw[z]at B;cases B rfl|ok y S2=>
    rw[z]at B;cases y with
    |rt d=>exact⟨d,S2,rfl⟩|nx _=>cases B rfl|brk _=>cases B rfl|cnt _=>cases B rfl
  rw[aa];dsimp;let⟨C,hC,ha⟩:=(show ∃C,Xac X.K c'=yz C/\H1 a=yz Qq1 from sr.ob m a _ ak hc);let av:=hm c' C hC aj;let ai:∀(l:LR) (a0:Vb),Hid X H1 a s1.heap l->QJ9 ->
    ∀h2,Heap.HeldW QMT QL4 a QE2 a0 X.env.locals h2->s1.heap.UpToSlots h2 ->
    Vg Q3 X.A (setFlight Qt yy) (λ_ s3=>Vg Q3 X.A (handleBy Qt X.env Qd7)
     (OkS X pc σ ρ H yw (.ok QT9 S2)) QSD s3) QSD {s1 with heap:=h2}:=by
   intro l a0 hid L h2 ac ab;let inv:∀ {h':Heap},Heap.FlyingW QMT QL4 a QE2 a0 h'->s1.heap.UpToSlots h'->Inv X pc σ H1 QkP:=λ{h'} fw up=>by let⟨f1,_,_,oe,vs,T,oT,ts,t1,⟨t2,t3⟩,t4,t5,_⟩:=fw;exact Inv.fly J ha hid L f1 up Qp4
   exact wpAny_landsW ac λh3 ae ah=>?_;let J3:=inv ae QyV;let⟨ob,ar,af⟩:=ae.there;calc wpAny_handleBy_cons (codeAny_handlers_test (Xe7 (Inv.inH J3 a) hg (Vdr J.mod.kin J.mod.glob hn) ?_ al)) (by intro z;cases z);let LT:PySem.W.Looks Q3 h3 (typeOf Qt) QE2:=af▸(PySem.W.Looks.ld ar).andThen .now;calc(PySem.W.exm_one J3.kIn LT av).at ?_;calc codeAny_handlers_suite_as (lands_againW ae λh4 ap aw=>?_);let J4:=inv ap (QyV.trans aw);calc Xcj (X:=Z.inH X a) (v:=.ref a) (Inv.inH J4 a) hN hi (.inl hl) rfl (λs5 J5=>?_) (.inr hl);let er:ER X.K ag H1 Qg3 QyT:=(I.er.mono st).set i (by simp[RD];calc⟨a,rfl,ak⟩);exact Vp (hh a pc s5 QyT H1 ag S1 Qg3 ⟨J5,sr,er⟩ (by rw[aa];calc λz=>nomatch z)) (λf6 s6 z=>?_) λy s6 z=>?_;·rw[aa]at z;let⟨y,S3,e,z⟩:=z;cases e;let⟨u,v,ay,H6,au,rfl,J6,rv,rd,am,ao⟩:=z;exact Inv.goes (Inv.outH J6 J.ok) hl λs7 J7=>⟨.rt d,S2,rfl,u,v,_,H6,au,rfl,J7,rv,rd,am,st.trans ao⟩
   ·rw[aa]at z;let⟨_,_,_,e,_⟩:=z;cases e
  calc Xjg J hs hf ha fl λl h2 a0 hid L ac ab=>ai l a0 hid L h2 ac ab
universe e
universe Z
universe e
section
namespace Z
open PySem PySem.Spec PyProof.Rows L2
open PySem.W (CodeHd kla_obj kla_fn kla_eval kla_makeFunction kla_makeFunctionHit kla_callFunE kla_codeExpr tabObj)
structure LamAt(X:Cx)(nm:Str):Prop where
 qual:X.env.qual ++ "<lambda>"=Xjf nm
 dep:X.A.depth+5<recursionLimit
 cod:∃c P,X.env.code=.ref c/\CodeHd X.base c P/\(Xoy X.K).lookup P=yz QJe
 blt:∃bm ob,X.mg "__builtins__"=yz (.ref bm)/\bm≠Vgw/\X.base.get? bm=yz ob/\ob.cls=.type "module" /\ ob.dict=yz Vgw/\ob.data=.plain
universe Z
universe e
section
namespace Z
open PySem PySem.Spec PyProof.Rows L2
abbrev Xdc(sc:Vaj):Vb4:={scope:=sc,locals:=0,globals:=0,cells:=[]}
abbrev Xha(b:Bool):Sem Bool->Bool
 |.pure c=>b==c|_=>yw
abbrev Xp0(l:Option LS):Sem (Option LS)->Bool
 |.pure m=>decide (l=m)|_=>yw
def Xdv(h:Xha b m=yx):m=pure b:=by
 cases m<;>first|exact ff h|skip
 simp[Xha,beq_iff_eq]at h;subst h;rfl
def Xl4(h:Xp0 b m=yx):m=pure b:=by
 cases m<;>first|exact ff h|skip
 simp[Xp0,decide_eq_true_eq]at h;subst h;rfl
def Xp1(v:Expr)(t:Option Expr)(l:Nat)(env:Vb4):Vgq v t l env=Vgq v t l QbH:=rfl
def Xl5(t v:Expr)(l:Nat)(env:Vb4):Vei [t] v l env=Vei [t] v l QbH:=rfl
def Xl6(B:LX)(v:Expr)(env:Vb4):Vej B v env=Vej B v QbH:=rfl
def Xp2(h:Xcq i=yx)(v:Vb):assign Q25 env v=(do
   let ov <- Vdp [v] QfX
   let iv <- Vdp [v,ov] (eval i env)
   standAt spos
   Vdp QVN QwP
   release QVN []):=by
 cases i<;>first|rfl|cases h
def Xyp(h:Xcq i=yx)(L B new:Vb):augStore i L B new=(do Vdp QIf (setItem L B new);release QIf [];pure .next):=by cases i<;>first|rfl|cases h
abbrev Yb1:Expr->Bool
 |.ListComp _ _ _ _=>yx|_=>yw
abbrev Xes(N ps:LS)(sc:Vaj):Bool:=Xvi sc.kind && !sc.isCoroutine && !sc.isGenerator&&Xg6 N&&decide (N.take Qp5=ps)&&ps.all (λx=>match sc.names.lookup x with|some .local=>yx|some .cell=>yx|_=>yw)&&sc.names.all (λy=>match y.2 with|.free=>yw|_=>yx)
def X2c(h:Xes N ps sc=yx):FnScope N ps sc:=by
 simp[Xes,bA0,Uq,decide_eq_true_eq]at h;let⟨⟨⟨⟨⟨⟨h1,h2⟩,h3⟩,h4⟩,h5⟩,B⟩,h7⟩:=h;exact⟨Xly h1,h2,h3,Xg7 h4,h5,λx L=>?_,λy hy e=>?_⟩
 ·let:=Uc.mp B x L;split at this;·exact .inl Qc2
  ·exact .inr Qc2
  cases this
 let:=Uc.mp h7 y hy;rw[e]at this;cases this
abbrev Xp3(s:Stmt):Option (LX×Expr×Pos):=match s with
 |.Assign B v p=>yz (B,v,p)|_=>yy
def Xib(h:Xp3 s=yz z):s=.Assign z.1 z.2.1 z.2.2:=by
 cases s with
 |Assign _ _ _=>cases h;rfl|_=>calc Ys h
abbrev Yb2(s:Stmt):Option (Expr×Operator×Expr×Pos):=match s with
 |.AugAssign t o v p=>yz (t,o,v,p)|_=>yy
def X6r(h:Yb2 s=yz z):s=.AugAssign z.1 z.2.1 z.2.2.1 z.2.2.2:=by
 cases s with
 |AugAssign _ _ _ _=>cases h;rfl|_=>calc Ys h
abbrev Yb3(s:Stmt):Option Q5a:=match s with
 |.Expr v p=>yz (v,p)|_=>yy
def X6s(h:Yb3 s=yz z):s=.Expr z.1 z.2:=by
 cases s with
 |Expr _ _=>cases h;rfl|_=>calc Ys h
abbrev Yb4(s:Stmt):Option (Option Expr):=match s with
 |.Return v _=>yz v|_=>yy
def X6t(h:Yb4 s=yz z):∃p,s=.Return z p:=by
 cases s with
 |Return _ _=>cases h;calc Qe|_=>calc Ys h
abbrev Yb5(s:Stmt):Option (Expr×LM×LM):=match s with
 |.If c a b _=>yz (c,a,b)|_=>yy
def X6u{s:Stmt}{z:Expr×LM×LM}(h:Yb5 s=yz z):∃p,s=.If z.1 z.2.1 z.2.2 p:=by
 cases s with
 |If _ _ _ _=>cases h;calc Qe|_=>calc Ys h
abbrev Yb6(s:Stmt):Option (Expr×Expr×LM×LM):=match s with
 |.For t i b B _=>yz (t,i,b,B)|_=>yy
def X6v(h:Yb6 s=yz z):∃p,s=.For z.1 z.2.1 z.2.2.1 z.2.2.2 p:=by
 cases s with
 |For _ _ _ _ _=>cases h;calc Qe|_=>calc Ys h
abbrev Yb7(s:Stmt):Option QRI:=match s with
 |.Raise v w _=>yz (v,w)|_=>yy
def X6w(h:Yb7 s=yz z):∃p,s=.Raise z.1 z.2 p:=by
 cases s with
 |Raise _ _ _=>cases h;calc Qe|_=>calc Ys h
abbrev Yb8(s:Stmt):Option (LM×List ExceptHandler×LM×LM):=match s with
 |.Try b hs B fb _=>yz (b,hs,B,fb)|_=>yy
def X6x(h:Yb8 s=yz z):∃p,s=.Try z.1 z.2.1 z.2.2.1 z.2.2.2 p:=by
 cases s with
 |Try _ _ _ _ _=>cases h;calc Qe|_=>calc Ys h
abbrev Yb9(h:ExceptHandler):Option (Expr×Str×Stmt×LM):=match h with
 |.ExceptHandler QOX (yz n) (b::su) _=>yz (e,n,b,su)|_=>yy
def X6y(q:Yb9 h=yz z):∃p,h=.ExceptHandler (yz z.1) (yz z.2.1) (z.2.2.1::z.2.2.2) p:=by
 cases h with
 |ExceptHandler e n b p=>
  cases e with
  |none=>exact Ys q|some e=>
   cases n with
   |none=>exact Ys q|some n=>
    cases b with
    |nil=>calc Ys q|cons b B=>cases q;calc Qe
abbrev Xl7(s:Stmt):Nat:=match s with
 |.Pass _=>1|.Break _=>2|.Continue _=>3|_=>0
def vEnd_ok:(Xl7 s=1->∃p,s=.Pass p)/\(Xl7 s=2->∃p,s=.Break p)/\(Xl7 s=3->∃p,s=.Continue p):=by
 let B:∀ {k:Nat} {P:Prop},0=k+1->P:=λz=>nomatch z;cases s with
 |Pass p=>calc⟨λ_=>Qe,λz=>(nomatch z),λz=>(nomatch z)⟩|Break p=>calc⟨λz=>(nomatch z),λ_=>Qe,λz=>(nomatch z)⟩|Continue p=>calc⟨λz=>(nomatch z),λz=>(nomatch z),λ_=>Qe⟩|_=>calc⟨B,B,B⟩
section
variable(cm:Bool)(fns:LF)(gns:LS)(sc:Vaj)(N:LS)
abbrev Yca(i:Nat)(e:Ex)(v:Expr)(p:Pos)(B:LX):Bool:=Q3T.any λt=>(vNm t).any λx=>decide QjF&&Xpr Qp9 sc x&&mt cm fns gns sc N e v&&(Xha yw QhF||(Yb1 v&&Xer QlN&&Xha yx QhF))
abbrev X3x(is:LN)(e:Ex)(v:Expr)(p:Pos)(B:LX):Bool:=Q3T.any λt=>cm&&mtT Qp9 sc N QJE t&&mt cm fns gns sc N e v&&Xha yw QR8&&Xp0 yy QLC
abbrev Yfa(es:Exs)(p:Pos)(i j:Nat)(a b x y t v:Expr):Bool:=(vNm x).any λL=>QYf.any λB=>cm&&decide (N[i]?=yz L)&&decide (N[j]?=yz B)&&decide (i≠j)&&Xer (sc.names.lookup L)&&Xer (sc.names.lookup B)&&mts cm fns gns sc N es Q2H &&
   Xp0 (yz [L,B]) QLC&&Xha yw QR8
abbrev Ycb(es:Exs)(p:Pos)(is:LN)(B:LX)(v:Expr):Bool:=Q3T.any λt=>(Xlz t).any λtn=>(Xlz v).any λvs=>(Xbf is).any λi=>(Xbf tn).any λx=>(Xbf vs).any λa=>Yfa cm fns gns sc N es p i.1 i.2 a.1 a.2 x.1 x.2 t v
abbrev X3y(o i e:Ex)(v:Expr)(p:Pos)(B:LX):Bool:=Q3T.any λt=>QIg.any λz=>Xcq z.2&&mt cm fns gns sc N o z.1&&mt cm fns gns sc N i z.2&&mt cm fns gns sc N e v&&Xha yw QR8&&Xp0 yy QLC
abbrev X3z(o i:Ex)(t:Expr):Bool:=QIg.any λz=>Xcq z.2&&mt cm fns gns sc N o z.1&&mt cm fns gns sc N i z.2
abbrev X2d(c:Nat)(e:Ex)(v w:Option Expr):Bool:=w.isNone&&v.any λr=>(Xai r).any λz=>QR3.any λx=>decide QsX&&glB sc x&&Y6 x&&Xz z.2.1&&z.2.2.1.isEmpty&&mt cm fns gns sc N e z.2.1
mutual
abbrev mtS(cm:Bool):St->Stmt->Bool
 |.nev,_=>yx|.asg QJ1 e,st=>Q8P.any λz=>Yca cm fns gns sc N i e z.2.1 z.2.2 z.1|.asg QJE e,st=>Q8P.any λz=>X3x cm fns gns sc N is e z.2.1 z.2.2 z.1|.par is es,st=>Q8P.any λz=>Ycb cm fns gns sc N es z.2.2 is z.1 z.2.1|.aset o i e,st=>Q8P.any λz=>X3y cm fns gns sc N o i e z.2.1 z.2.2 z.1|.augi o i op e,st=>(Yb2 st).any λz=>X3z cm fns gns sc N o i z.1&&Xvf op z.2.1&&mt cm fns gns sc N e z.2.2.1|.expr e,st=>(Yb3 st).any λz=>Xha yw (Vgq z.1 yy z.2.line (Xdc sc))&&mt cm fns gns sc N e z.1|.ret e,st=>(Yb4 st).any λz=>z.any λv=>mt cm fns gns sc N e v|.ite c a b,st=>(Yb5 st).any λz=>mt cm fns gns sc N c z.1&&mtSs cm a z.2.1&&mtSs cm b z.2.2|.for t it b,st=>(Yb6 st).any λz=>cm&&z.2.2.2.isEmpty&&Xc2 z.2.1&&mtT Qp9 sc N t z.1&&mtI cm fns gns sc N it z.2.1&&mtSs cm b z.2.2.1&&Xg8 t it|.rse c e,st=>(Yb7 st).any λz=>cm&&X2d cm fns gns sc N c e z.1 z.2|.try b c i h,st=>(Yb8 st).any λz=>QYZ.any λy=>(Yb9 y).any λq=>(vNm q.1).any λx=>z.2.2.1.isEmpty&&z.2.2.2.isEmpty&&nasgs b&&decide QsX&&glB sc x&&Y6 x&&decide (N[i]?=yz q.2.1)&&Xer (sc.names.lookup q.2.1)&&mtSs cm b z.1&&mtSs yw h (q.2.2.1::q.2.2.2)|.pass,st=>Xl7 st==1|.brk,st=>Xl7 st==2|.cnt,st=>Xl7 st==3
abbrev mtSs(cm:Bool):Sts->LM->Bool
 |.nil,[]=>yx|.cons s ss,x::xs=>mtS cm s x&&mtSs cm ss xs|_,_=>yw
end
universe e
def Xf7(h:Xer k=yx):k=yz .local:=by
 unfold Xer at h;split at h;·rfl
 ·cases h
section
variable{F:Fn}{G:LD}{cm:Bool}{fns:LF}{gns:LS}{X:Cx}
def DS.congr{st:Stmt}{na:Bool}{f g:En->Sto->R Fl}(h:DS X st na f)(q:∀env S,g env S=f env S):DS X st na g:=by let:g=f:=funext λenv=>funext λS=>q env S;rw[this];calc h
def DSs.congr{st:LM}{na:Bool}{f g:En->Sto->R Fl}(h:DSs X st na f)(q:∀env S,g env S=f env S):DSs X st na g:=by let:g=f:=funext λenv=>funext λS=>q env S;rw[this];calc h
def Ycc{st:Stmt}{na:Bool}:DS X st na (exe F G .nev):=λ_ _ _ _ _ _ _ _ B=>aB0 rfl B
structure TopOk(cm:Bool)(F:Fn)(G:LD)(fns:LF)(gns:LS)(X:Cx)(sc:Vaj)(N:LS):Prop where
 hN:X.N=N
 hs:X.env.scope=sc
 nd:N.Nodup
 fn:∀x,X.fn x=yx
 pf:PF cm F G fns gns X
 stk:X.stack=X.env::X.outer
 frm:X.env.frame=yz X.env.locals
 lam:∀m∈mks,N.getLast?=yz QSZ->LamAt X m
def TopOk.inH(T:TopOk cm F G fns gns X sc N)(a:Addr):TopOk yw F G fns gns QVH sc N:=
 ⟨T.hN,T.hs,T.nd,T.fn,⟨T.pf.blt,λf nm L fl h B=>by
  let⟨g,fd,ps,k,c1,c2,r⟩:=T.pf.fn f nm L fl h (λz=>nomatch (B z));calc⟨g,fd,ps,k,c1,?_,r⟩;cases fl with
  |true=>calc nomatch QrH
  |false=>calc c2.mark,T.pf.glb,T.pf.clf,T.pf.units,T.pf.gd,QY3,T.pf.err⟩,T.stk,T.frm,λm hm h=>let l:=T.lam m hm h;⟨l.qual,l.dep,l.cod,l.blt⟩⟩
variable{sc:Vaj}{N:LS}
abbrev isC:Ex->Bool
 |.nev=>yx|.cmr _ _ _ _=>yx|.frz _=>yx|_=>yw
def X30(L:Yb1 v=yx)(B:isC e=yw)(h:mt cm fns gns sc N e v=yx):False:=by
 cases v with
 |ListComp ee gens scope cp=>
  cases e with
  |nev=>cases B|cmr _ _ _ _=>cases B|frz _=>cases B|lrg _ es=>
   cases es with
   |nil=>cases h|cons _ es=>cases es<;>cases h
  |_=>calc ff h
 |_=>calc ff L
def X2e{i:Nat}{e:Ex}{ts:LX}(T:TopOk cm F G fns gns X sc N)(h:Yca cm fns gns sc N i e v p ts=yx):DS X QuA yw (exe F G QMY):=by
 let⟨t,k1,aa⟩:=any_some h;let⟨x,k2,ab⟩:=any_some aa;clear h aa;let h:=ab;clear ab;let k3:=Xbp k1;let⟨py,k4⟩:=Xan k2;subst k4 k3
 ·rw[bA0,bA0,bA0,decide_eq_true_eq,Vbc,bA0,bA0]at h;let⟨⟨⟨h1,h2⟩,L⟩,h4⟩:=h;let⟨l1,l2⟩:=Xlw (X:=X) T.hs Q3H h2;let af:=(snd e X sc N v T.hN T.hs T.pf L).1;let hN:=T.hN;let hs:=T.hs;subst hN hs;rcases h4 with h4|⟨⟨h4,h5⟩,h6⟩;·let hw:=Xdv h4;rw[<-Xp1]at hw;exact(X8v T.nd h1 l1 l2 af hw).congr λ_ _=>rfl
  ·let hw:=Xdv h6;rw[<-Xp1]at hw;let ae:∀k n B elt,mt cm fns gns X.env.scope X.N QtR v=yx->DS X (.Assign QQa v p) yw (λenv S=>(ev F G QtR env S).bind λx S=>.ok QTM S):=λk n B elt L=>by
    let⟨ee,gens,scope,cp,rfl,m0,m1,m2,m3,m4,m5⟩:=Xyh L;subst m1 m2;let so:=Xyf m3;let ac:=T.pf.calm m0;let⟨c⟩:=Xtk (p:=cp) rfl rfl T.pf ac so (sndg B X _ _ _ _ gens rfl rfl T.pf m4) (λY y1 y2 y3=>(snd elt Y _ _ ee y1 y2 y3 m5).1);exact(X5a (py:=py) (spos:=p) T.nd h1 QRe hw ac so rfl c.hg c.hi c.hs c.hG c.hT c.hB).congr λenv S=>?_;let:=congrFun (congrFun c.eq env) S;rw[this]
    all_goals rfl
   cases e with
   |nev=>exact λ_ _ _ _ _ _ _ _ nb=>aB0 rfl nb|cmr k n B elt=>exact(ae k n B elt L).congr λ_ _=>rfl|frz a=>
    cases a with
    |nev=>calc λ_ _ _ _ _ _ _ _ nb=>aB0 rfl nb|cmr k n B elt=>calc((ae k n B elt QRZ.2).frzA h1).congr λ_ _=>rfl|frz a=>calc ff QRZ.1.1|_=>calc(X30 h4 rfl QRZ.2).elim
   |_=>calc(X30 h4 rfl L).elim
def X2f{is:LN}{e:Ex}{ts:LX}(T:TopOk cm F G fns gns X sc N)(h:X3x cm fns gns sc N is e v p ts=yx):DS X QuA yw (exe F G (.asg QJE e)):=by let⟨t,k1,B⟩:=any_some h;clear h;let h:=B;clear B;let k3:=Xbp k1;subst k3;·rw[bA0,bA0,bA0,bA0]at h;let⟨⟨⟨⟨h0,h1⟩,h2⟩,h3⟩,h4⟩:=h;let L:=h1;simp[mtT]at L;let⟨ae,q1,_⟩:=any_some L;let⟨ac,ab,q2⟩:=Xcr q1;subst q2;let aa:=(snd e X sc N v T.hN T.hs T.pf h2).1;let hg:=dgB (top:=λ_=>yx) T.hN T.hs T.nd QeN Q3H h1;let w1:=Xdv h3;let w2:=Xl4 h4;rw[<-T.hs]at w1 w2;rw[<-Xl5]at w1;rw[<-Xl6]at w2;calc(Ybw aa hg w1 w2 rfl).congr λ_ _=>rfl
def X6z{is:LN}{es:Exs}{ts:LX}(T:TopOk cm F G fns gns X sc N)(h:Ycb cm fns gns sc N es p is ts v=yx):DS X QuA yw (exe F G (.par is es)):=by
 let⟨t,k1,B⟩:=any_some h;clear h;let h:=B;clear B;let⟨tn,k2,B⟩:=any_some h;clear h;let h:=B;clear B;let⟨vs,k3,B⟩:=any_some h;clear h;let h:=B;clear B;let e1:=Xbp k1;let⟨kt,pt,e2⟩:=Xcr k2;let⟨kv,pv,e3⟩:=Xcr k3;subst e1 e2 e3;let⟨⟨i,j⟩,k4,B⟩:=any_some h;clear h;let h:=B;clear B;let⟨⟨x,y⟩,k5,B⟩:=any_some h;clear h;let h:=B;clear B;let⟨⟨a,b⟩,k6,B⟩:=any_some h;clear h;let h:=B;clear B;let e4:=Xcs k4;let e5:=Xcs k5;let e6:=Xcs k6;subst e4 e5 e6;let⟨xn,k7,B⟩:=any_some h;clear h;let h:=B;clear B;let⟨yn,k8,B⟩:=any_some h;clear h;let h:=B;clear B;let⟨px,e7⟩:=Xan k7;let⟨py,e8⟩:=Xan k8;dsimp at e7 e8;subst e7 e8
 iterate 8 rw[bA0]at h
 let⟨⟨⟨⟨⟨⟨⟨⟨h0,h1⟩,h2⟩,h3⟩,h4⟩,h5⟩,h6⟩,h7⟩,h8⟩:=h;let L:=snds es X sc N _ T.hN T.hs T.pf h6;let hN:=T.hN;let hs:=T.hs;subst hN hs;let w1:=Xdv h8;let w2:=Xl4 h7;rw[<-Xl5]at w1;rw[<-Xl6]at w2;calc(X6n Q4J T.nd Q1e Q0e (oD0 h3) (Xf7 h4) QRe L w2 w1).congr λ_ _=>rfl
def X2g{o i e:Ex}{ts:LX}(T:TopOk cm F G fns gns X sc N)(h:X3y cm fns gns sc N o i e v p ts=yx):DS X QuA yw (exe F G (.aset o i e)):=by
 let⟨t,k1,B⟩:=any_some h;let⟨⟨ox,ix⟩,k2,L⟩:=any_some B;clear h B;let h:=L;clear L;let k3:=Xbp k1;let⟨sp,k4⟩:=Xdu k2;dsimp at k4;subst k4 k3
 ·iterate 5 rw[bA0]at h
  let⟨⟨⟨⟨⟨h1,h2⟩,h3⟩,h4⟩,h5⟩,h6⟩:=h;let w1:=Xdv h5;let w2:=Xl4 h6;rw[<-T.hs]at w1 w2;rw[<-Xl5]at w1;rw[<-Xl6]at w2;calc((X6o QZJ (snd e X sc N v T.hN T.hs T.pf h4).1 (snd o X sc N _ T.hN T.hs T.pf h2).1 (snd i X sc N _ T.hN T.hs T.pf h3).1 w1 w2 (Xp2 h1)).weak (na2:=yw) λz=>nomatch z).congr λ_ _=>rfl
def X2h{o i:Ex}{op:Bo}{e:Ex}{oo:Operator}(T:TopOk cm F G fns gns X sc N)(h:(X3z cm fns gns sc N o i t&&Xvf op oo&&mt cm fns gns sc N e v)=yx):DS X (.AugAssign t oo v p) yw (exe F G (.augi o i op e)):=by simp[bA0]at h;let⟨⟨h1,h2⟩,h3⟩:=h;let⟨⟨ox,ix⟩,k1,B⟩:=any_some h1;clear h1;let h1:=B;clear B;let⟨px,k2⟩:=Xdu k1;dsimp at k2;subst k2;let e1:=Xtc h2;subst e1;·rw[bA0,bA0]at h1;let⟨⟨L,m2⟩,m3⟩:=h1;calc((X6p QZJ (snd o X sc N _ T.hN T.hs T.pf m2).1 (snd i X sc N _ T.hN T.hs T.pf m3).1 (snd e X sc N v T.hN T.hs T.pf h3).1 (Xyp L)).weak (na2:=yw) λz=>nomatch z).congr λ_ _=>rfl
def X60{e:Ex}{v:Option Expr}(T:TopOk cm F G fns gns X sc N)(h:(v.any λv=>mt cm fns gns sc N e v)=yx):DS X (.Return v p) yx (exe F G Q3f):=by let⟨v,rfl,h⟩:=any_some h;calc(X8u (snd e X sc N v T.hN T.hs T.pf h).1).congr λ_ _=>rfl
def X61{c:Nat}{e:Ex}{v w:Option Expr}(T:TopOk cm F G fns gns X sc N)(h0:cm=yx)(h:X2d cm fns gns sc N c e v w=yx):DS X (.Raise v w p) yx (exe F G (.rse c e)):=by
 unfold X2d at h;rw[bA0]at h;let⟨hw,h⟩:=h;cases w with
 |some _=>cases hw|none=>
  let⟨r,er,hq⟩:=any_some h;let⟨x,px,y,ys,cp,L,B⟩:=Xc8 hq;clear h hq;let h:=B;clear B;subst L er
  iterate 5 rw[bA0]at h
  let⟨⟨⟨⟨⟨h1,h2⟩,h3⟩,h4⟩,h6⟩,h5⟩:=h;let h1:=oD0 h1;let e6:=Vbh.mp h6;dsimp at e6;subst e6;let⟨C,k1,k2⟩:=T.pf.err.at_ c x h1;calc(Yby Q4J h1 k2 (T.pf.err.cls c C k1).1 (Yo T.hs h2) (Xa7 h3).1 (snd e X sc N y T.hN T.hs T.pf h5).1 h4).congr λ_ _=>rfl
mutual
def Yge{cm:Bool}{X:Cx}:∀(x:St) (st:Stmt),TopOk cm F G fns gns X sc N->mtS fns gns sc N cm x st=yx->DS X st (X8f x) (exe F G x)
 |.nev=>λst T h=>Ycc|.asg QJ1 e=>λst T h=>by let⟨z,h1,B⟩:=any_some h;clear h;let h:=B;clear B;rw[Xib h1];exact X2e T h|.asg QJE e=>λst T h=>by let⟨z,h1,B⟩:=any_some h;clear h;let h:=B;clear B;rw[Xib h1];exact X2f T h|.par is es=>λst T h=>by let⟨z,h1,B⟩:=any_some h;clear h;let h:=B;clear B;rw[Xib h1];exact X6z T h|.aset o i e=>λst T h=>by let⟨z,h1,B⟩:=any_some h;clear h;let h:=B;clear B;rw[Xib h1];exact X2g T h|.augi o i op e=>λst T h=>by let⟨z,h1,B⟩:=any_some h;clear h;let h:=B;clear B;rw[X6r h1];exact X2h T h|.expr e=>λst T h=>by let⟨z,h1,B⟩:=any_some h;clear h;let h:=B;clear B;rw[X6s h1];rw[bA0]at h;let w1:=Xdv h.1;rw[<-T.hs,<-Xp1]at w1;exact(X4v (snd e X sc N z.1 T.hN T.hs T.pf h.2).1 w1).congr λ_ _=>rfl|.ret e=>λst T h=>by let⟨z,h1,B⟩:=any_some h;clear h;let h:=B;clear B;let⟨p,rfl⟩:=X6t h1;exact X60 T h|.ite c a b=>λst T h=>by let⟨z,h1,B⟩:=any_some h;clear h;let h:=B;clear B;let⟨p,rfl⟩:=X6u h1;rw[bA0,bA0]at h;exact(Yed (snd c X sc N z.1 T.hN T.hs T.pf h.1.1).2 (sndSs a z.2.1 T h.1.2) (sndSs b z.2.2 T h.2)).congr λ_ _=>rfl|.for t it b=>λst T h=>by
  let⟨⟨tg,iter,body,oe⟩,h1,B⟩:=any_some h;clear h;let h:=B;clear B;let⟨p,rfl⟩:=X6v h1
  iterate 6 rw[bA0]at h
  let⟨⟨⟨⟨⟨⟨h0,h1⟩,h2⟩,L⟩,h4⟩,h5⟩,h6⟩:=h;let e1:=Vbh.mp h1;dsimp at e1;subst e1;let hg:=dgB (top:=λ_=>yx) T.hN T.hs T.nd QeN Q3H L;exact(X9a T.stk T.frm Q4J (Xvr it X sc N tg iter T.hN T.hs T.pf (Xkl h6 L) h4) hg (sndSs b body T h5) (Xf6 h2)).congr λ_ _=>rfl|.rse c e=>λst T h=>by let⟨z,h1,B⟩:=any_some h;clear h;let h:=B;clear B;let⟨p,rfl⟩:=X6w h1;rw[bA0]at h;exact X61 T h.1 h.2|.try b c i hd=>λst T h=>by
  let⟨⟨body,hs,oe,fb⟩,k1,B⟩:=any_some h;clear h;let h:=B;clear B;let⟨y,k2,B⟩:=any_some h;clear h;let h:=B;clear B;let⟨⟨te,n,b0,su⟩,k3,B⟩:=any_some h;clear h;let h:=B;clear B;let⟨x,k4,B⟩:=any_some h;clear h;let h:=B;clear B;let⟨p,e1⟩:=X6x k1;let e2:=Xbp k2;let⟨hp,e3⟩:=X6y k3;let⟨np,e4⟩:=Xan k4;dsimp at e1 e2 e3 e4;subst e4 e3 e2 e1
  iterate 9 rw[bA0]at h
  let⟨⟨⟨⟨⟨⟨⟨⟨⟨h1,h2⟩,L⟩,h4⟩,h5⟩,h6⟩,h7⟩,h8⟩,h9⟩,aa⟩:=h;let e1:=Vbh.mp h1;let e2:=Vbh.mp h2;let h4:=oD0 h4;let h7:=oD0 h7;dsimp at e1 e2 h7;subst e1 e2;let ib:=sndSs b body T h9;rw[L]at ib;let ih:∀a,DSs QVH QDe (nasgs hd) (pe F G hd):=λa=>sndSs hd QDe (T.inH a) aa;let⟨C0,k1,k2⟩:=T.pf.err.at_ c x h4;let hN:=T.hN;let hs:=T.hs;subst hN hs;exact(Yb0 (c:=c) T.stk T.frm T.nd h7 (Xf7 h8) k2 (Yo rfl h5) (Xa7 h6).1 (λc' C e1 e2=>(T.pf.err.sub c' C c C0 e1 k1).2 e2) ib ih).congr λenv S=>by show(if nasgs b=yx then _ else _)=_;rw[iP0 L];rfl|.pass=>λst T h=>by let h:=beq_iff_eq.mp h;let⟨p,rfl⟩:=vEnd_ok.1 h;exact ds_pass.congr λ_ _=>rfl|.brk=>λst T h=>by let h:=beq_iff_eq.mp h;let⟨p,rfl⟩:=vEnd_ok.2.1 h;exact ds_brk.congr λ_ _=>rfl|.cnt=>λst T h=>by let h:=beq_iff_eq.mp h;let⟨p,rfl⟩:=vEnd_ok.2.2 h;exact ds_cnt.congr λ_ _=>rfl
def sndSs{cm:Bool}{X:Cx}:∀(x:Sts) (st:LM),TopOk cm F G fns gns X sc N->mtSs fns gns sc N cm x st=yx->DSs X st (nasgs x) (pe F G x)
 |.nil,[]=>λT h=>dss_nil.congr λ_ _=>rfl|.cons s ss,x::xs=>λT h=>by let h':(mtS fns gns sc N cm s x&&mtSs fns gns sc N cm ss xs)=true:=h;rw[bA0]at h';exact(X0n (Yge s x T h'.1) (sndSs ss xs T h'.2)).congr λ_ _=>rfl|.nil,_::_=>λT h=>by cases h|.cons _ _,[]=>λT h=>by cases h
end
universe e
theorem BM(mg:Str->OV)(base:Heap):Prop:=∃B ob,mg "__builtins__"=yz QhW/\B≠Vgw/\base.get? B=yz ob/\ob.cls=.type "module" /\ ob.dict=yz Vgw/\ob.data=.plain
abbrev Xf8(K:Vh)(nm:Str):Bool:=match Vhp K nm with
 |some (c,P)=>PySem.W.codeHdIn K c P&&decide (QAg.lookup P=yz QJe)|none=>yw
theorem Xl8(K:Vh)(N:LS)(nm:Str):Prop:=∀m∈mks,N.getLast?=yz QSZ->m=nm/\Xf8 K m=yx
structure DefOk(K:Vh)(mg:Str->OV)(fns:LF)(gns:LS)(d:Df)(nm:Str)(ar:Nat)(fl:Bool):Prop where
 ex:∃g fd st N ps,Fun K nm nm st g fd/\Va3 K Up nm=yz QOV/\Xl8 K N nm/\mg nm=yz QS6/\Xes N ps Qq5=yx/\mtSs fns gns Qq5 N fl d.body QfB=yx/\d.np=lg ps/\d.nl=N.length/\Qp5=ar/\Binds K fd ps []
section
variable{P:V3}{w:Ua}{K:Vh}{mg:Str->OV}{base:Heap}{T:List Df}{G:LD}{fns:LF}{gns:LS}
def Xp4(ac:∀(f:Nat) (nm:Str),Xcc f nm G=yx->∃B fl,fns[f]?=yz QwE/\QH4/\∀k xs S,FT T G k f xs S≠.bad->lg xs=B)(er:ErrOk K)(hb:∀x∈blts,mg x=yy)(hg:∀(k:Nat) nm,gns[k]?=yz nm->∃u d,mg nm=yz u/\G[k]?=yz d/\∀ ρ H,∃v,RelV v u/\RD K ρ H d v){k:Nat}
  (ih:∀(f:Nat) nm B fl,fns[f]?=yz QwE->∃g fd ps,FnD fl P w K mg base k g fd ps QkF/\Binds K fd ps []/\mg nm=yz QS6/\Vev K QS6=yx/\Qp5=B)
  {f:Nat} {nm:Str} {fl:Bool} {d:Df} {g:Addr} {fd:Vdh} {st:Stmt} {N ps:LS} (ab:Q84->K.In base/\BM mg base) (aj:Va3 K Up nm=yz QOV) (ag:Xl8 K N nm) (hT:T[f]?=yz d) (F:Fun K nm nm st g fd) (hS:Xes N ps Qq5=yx) (hM:mtSs fns gns Qq5 N fl d.body QfB=yx) (hp:d.np=lg ps) (hn:d.nl=N.length):
  FnD fl P w K mg base Qe3 g fd ps QgU:=by
 let⟨oc,od,kV,ak,pm,an,am,ct,al,rfl,lk,af⟩:=F.ex;let aa:=X2c hS;let ae:=X8w (cm:=fl) (P:=P) (w:=w) (mg:=mg) (base:=base) (k:=k) (G:=pe QlJ G d.body) (na:=nasgs d.body) lk af aa λA outer s H E hr=>by
  exact sndSs (fns:=fns) (gns:=gns) (sc:=Xv st) (N:=N) d.body QfB ⟨rfl,rfl,aa.nd,λ_=>rfl,⟨hb,λf nm B ah h ai=>?_,hg,λf nm h=>let ⟨B,fl,h1,h2,h3⟩:=ac f nm h;⟨B,fl,h1,h2,h3 k⟩,?_,hr.gd,id,er⟩,rfl,rfl,?lam⟩ hM
  case lam=>
   intro m hm hN;let⟨rfl,hl⟩:=ag m hm hN;let hb:=ab ⟨m,hm,hl⟩;unfold Xf8 at hl;split at hl
   ·rename_i c P L;rw[bA0,decide_eq_true_eq]at hl;calc⟨rfl,by let:=hr.dp;show QDY.depth+5<_;omega,⟨c,P,?_,PySem.W.codeHd_of_K hb.1 hl.1,hl.2⟩,hb.2⟩;simp[Vhp,aj,lk]at L;split at L
    ·split at L
     ·split at L;·cases L;rfl
      ·cases L
     cases L
    cases L
   cases hl
  ·let⟨g,fd,ps,h1,h2,h3,h4,h5⟩:=ih f nm B ah h;exact⟨g,fd,ps,k,h1,hr.less ai,h2,h3,h4,h5⟩
  let:=hr.un;show QDY.units+200<Vbw;omega
 let e:FT T G Qe3 f=(λds S=>gcB d.gc S (if Qt3=lg ps then Xok (pe QlJ G d.body Q63 S) else .bad)):=by
  funext ds S;simp[FT,hT,den,hp,hn];split;·rfl
  ·cases d.gc<;>rfl
 rw[e];calc ae.gcF d.gc
def table(L:∀(f:Nat) (nm:Str),Xcc f nm G=yx->∃B fl,fns[f]?=yz QwE/\QH4/\∀k xs S,FT T G k f xs S≠.bad->lg xs=B)(er:ErrOk K)(hb:∀x∈blts,mg x=yy)(hg:∀(k:Nat) nm,gns[k]?=yz nm->∃u d,mg nm=yz u/\G[k]?=yz d/\∀ ρ H,∃v,RelV v u/\RD K ρ H d v)
  (ac:Q84->K.In base/\BM mg base) (hd:∀(f:Nat) nm B fl,fns[f]?=yz QwE->∃d,T[f]?=yz d/\DefOk K mg fns gns d nm B fl):
  ∀(k f:Nat) nm B fl,fns[f]?=yz QwE->∃g fd ps,FnD fl P w K mg base k g fd ps QkF/\Binds K fd ps []/\mg nm=yz QS6/\Vev K QS6=yx/\Qp5=B:=by
 intro k;induction k with
 |zero=>intro f nm B fl h;let⟨d,_,⟨g,fd,st,N,ps,F,_,_,hm,_,_,_,_,hl,hB⟩⟩:=hd f nm B fl h;calc⟨g,fd,ps,⟨λA outer s H af us vs Q E _ _ _ _ aa=>?_⟩,hB,hm,F.kp,hl⟩;let⟨ds,ρ,S',_,_,_,nb,_⟩:=aa;cases nb rfl|succ k ih=>intro f nm B fl h;let⟨d,hT,⟨g,fd,st,N,ps,F,ae,ab,hm,hS,hM,hp,hn,hl,hB⟩⟩:=hd f nm B fl h;calc⟨g,fd,ps,Xp4 L er hb hg ih ac ae ab hT F hS hM hp hn,hB,hm,F.kp,hl⟩
universe e
structure FunAt(K:Vh)(nm:Str)(st:Stmt):Prop where
 ex:∃g fd,Fun K nm nm st g fd/\Va3 K Up nm=yz QOV
def funAt_mk{K:Vh}{nm:Str}{st:Stmt}{f:Addr}{oc:Vb}{od an:Option Addr}{aa:Array (OV)}{kV L pm B ct:Vb}(a:Va3 K Up nm=yz Qud)
  (l:K.lookup f=yz ⟨oc,od,.func (Vc6 nm nm QAW QfB Qq5 .none kV L pm an B ct),aa⟩) (c:Vit K B nm=yx) (k:Vev K QB9=yx):FunAt K nm st:=⟨⟨f,_,X8d l c k,a⟩⟩
theorem Xic(nm:Str)(st:Stmt)(ps:LS):Prop:=∀(kV B pm:Vb) (an:Option Addr) (L ct:Vb) (us:LV),lg us=lg ps->bindArgs Qy0 QvA=pure Qk6
def Yt{nm a:Str}{st:Stmt}(h:∀kV B pm an L ct u,bindArgs Qy0 QSN=pure [(a,u)]:=by intros;rfl):Xic nm st [a]:=λkV B pm an L ct us hl=>by rcases us with _|⟨u,_|_⟩<;>first|calc h .. | cases hl
def Xb8{nm a b:Str}{st:Stmt}(h:∀kV B pm an L ct u v,bindArgs Qy0 ⟨[u,v],[]⟩=pure [(a,u),(b,v)]:=by intros;rfl):Xic nm st Q2H:=λkV B pm an L ct us hl=>by rcases us with _|⟨u,_|⟨v,_|_⟩⟩<;>first|calc h .. | cases hl
def Ycd{nm a b c:Str}{st:Stmt}(h:∀kV B pm an L ct u v x,bindArgs Qy0 ⟨[u,v,x],[]⟩=pure [(a,u),(b,v),(c,x)]:=by intros;rfl):Xic nm st [a,b,c]:=λkV B pm an L ct us hl=>by rcases us with _|⟨u,_|⟨v,_|⟨x,_|_⟩⟩⟩<;>first|calc h .. | cases hl
def X31{K:Vh}{N:LS}{nm:Str}(h:(mks.all λm=>!decide (N.getLast?=yz QSZ))=yx):Xl8 K N nm:=λm B e=>by let:=Uc.mp h m B;rw[decide_eq_true e]at this;cases this
def X2i{K:Vh}{h:Heap}{mg:Str->OV}{fns:LF}{gns:LS}{d:Df}{nm:Str}{L:Nat}{fl:Bool}{st:Stmt}{N ps:LS}(X:K.In h)(Gm:h.Ns Up mg)(F:FunAt K nm st)
  (hS:Xes N ps Qq5=yx) (hM:mtSs fns gns Qq5 N fl d.body QfB=yx) (hp:d.np=lg ps) (hn:d.nl=N.length) (hl:Qp5=L) (hB:Xic nm st ps) (B:Xl8 K N nm):DefOk K mg fns gns d nm L fl:=by
 let⟨g,fd,h1,h2⟩:=F.ex;calc⟨g,fd,st,N,ps,h1,h2,B,Vdr X Gm h2,hS,hM,hp,hn,hl,h1.binds hB⟩
private abbrev MD(fns:LF)(gns:LS)(st:Stmt)(N:LS)(fl:Bool)(d:Df):Prop:=(mtSs fns gns Qq5 N fl d.body QfB&&Xes N QgA Qq5)=yx
def mm{fns:LF}{gns:LS}{st:Stmt}{N:LS}{fl:Bool}{d:Df}(h:MD fns gns st N fl d):mtSs fns gns Qq5 N fl d.body QfB=true:=QZG.1
def ms{fns:LF}{gns:LS}{st:Stmt}{N:LS}{fl:Bool}{d:Df}(h:MD fns gns st N fl d):Xes N QgA Qq5=true:=QZG.2
def dk{K:Vh}{h:Heap}{mg:Str->OV}{fns:LF}{gns:LS}{d:Df}{nm:Str}{ar:Nat}{fl:Bool}{st:Stmt}{N:LS}(X:K.In h)(Gm:h.Ns Up mg)(F:FunAt K nm st)
  (L:MD fns gns st N fl d) (hB:Xic nm st QgA) (B:Xl8 K N nm:=by calc X31 Q8) (hp:d.np=QgA.length:=by rfl) (hn:d.nl=N.length:=by rfl) (hl:QgA.length=ar:=by rfl):DefOk K mg fns gns d nm ar fl:=X2i X Gm F (ms L) (mm L) hp hn hl hB B
theorem AllD(K:Vh)(mg:Str->OV)(fns:LF)(gns:LS):LF->List Df->Prop
 |[],[]=>True|x::r,d::ds=>DefOk K mg fns gns d x.1 x.2.1 x.2.2/\AllD K mg fns gns r ds|_,_=>False
def AllD.c{K:Vh}{mg:Str->OV}{fns:LF}{gns:LS}{x:Str×Nat×Bool}{r:LF}{d:Df}{ds:List Df}(h:DefOk K mg fns gns d x.1 x.2.1 x.2.2)(t:AllD K mg fns gns r ds):AllD K mg fns gns (x::r) QGZ:=⟨h,t⟩
def AllD.get{K:Vh}{mg:Str->OV}{fns:LF}{gns:LS}:∀ {fs:LF} {ds:List Df},AllD K mg fns gns fs ds->∀(f:Nat) nm ar fl,fs[f]?=yz QaC->∃d,ds[f]?=yz d/\DefOk K mg fns gns d nm ar fl
 |[],[],_,f,nm,ar,fl,e=>by cases e|x::r,d::ds,h,0,nm,ar,fl,e=>by cases e;calc⟨d,rfl,h.1⟩|x::r,d::ds,h,f+1,nm,ar,fl,e=>AllD.get h.2 f nm ar fl e
abbrev Yce(K:Vh):Bool:=blts.all λx=>match Va3 K Up x with
 |some yy=>yx|_=>yw
def X62{K:Vh}{h:Heap}{mg:Str->OV}(X:K.In h)(L:h.Ns Up mg)(e:Yce K=yx):∀x∈blts,mg x=none:=λx B=>by
 let:=Uc.mp e x B;split at this;·rename_i q;exact PySem.W.mg_none_of X L q
 ·cases this
def Xl9{K:Vh}{h:Heap}{mg:Str->OV}{nm:Str}{i:Int}{t:Tok}(X:K.In h)(B:h.Ns Up mg)(e:Va3 K Up nm=yz (yz QjQ)):∃u d,mg nm=yz u/\yz (D.int i)=yz d/\∀ ρ H,∃v,RelV v u/\RD K ρ H d v:=
 ⟨_,_,Vdr X B e,rfl,λ_ _=>⟨.int i,QU,by simp[RD]⟩⟩
def Xkm{K:Vh}{h:Heap}{mg:Str->OV}{nm:Str}{st:Stmt}{f:Nat}(X:K.In h)(B:h.Ns Up mg)(F:FunAt K nm st):∃u d,mg nm=yz u/\yz (D.fn f nm)=yz d/\∀ ρ H,∃v,RelV v u/\RD K ρ H d v:=by let⟨g,fd,_,h2⟩:=F.ex;calc⟨_,_,Vdr X B h2,rfl,λ_ _=>⟨.ref g,rfl,by simp[RD];calc⟨g,rfl,h2⟩⟩⟩
abbrev Xma(fns:LF):LD->Bool
 |[]=>yx|.fn f nm::r=>(match fns[f]? with|some (m,_,_)=>decide QSh|none=>yw)&&Xma fns r|_::r=>Xma fns r
def Xmb:∀ {G:LD},Xma fns G=yx->Xcc f nm G=yx->∃B fl,fns[f]?=yz QwE
 |[],_,h=>by cases h|d::r,hc,h=>by
  cases d with
  |fn g m=>
   simp[Xma,bA0]at hc;simp[Xcc,Vbc,bA0,beq_iff_eq,decide_eq_true_eq]at h;rcases h with⟨rfl,rfl⟩|h
   ·let h1:=hc.1;split at h1;·rename_i L B fl e;let:=oD0 h1;subst this;exact⟨B,fl,e⟩
    ·cases h1
   calc Xmb hc.2 h|_=>calc Xmb (by simpa only[Xma] using hc) (by simpa only[Xcc] using h)
def Ycf(hT:T[f]?=yz d):∀(k:Nat) (xs:LD) (S:Sto),FT T G k f xs S≠.bad->lg xs=d.np
 |0=>λxs S h=>aB0 rfl h|k+1=>λxs S h=>by
  simp[FT,hT,den]at h;split at h;·assumption
  ·cases h rfl
def law_fn {P:V3} {w:Ua} {K:Vh} {h:Heap} {mg:Str->OV} {T:List Df} {G:LD} {fns:LF} {gns:LS} {fa:Addr} {k f:Nat} {d:Df} {st:Stmt} {N:LS} {x:Str} (X:K.In h) (Gm:h.Ns Up mg) (ab:mg "law"=yz QvH)
  (er:ErrOk K) (hb:∀x∈blts,mg x=yy) (hg:∀(k:Nat) nm,gns[k]?=yz nm->∃u d,mg nm=yz u/\G[k]?=yz d/\∀ ρ H,∃v,RelV v u/\RD K ρ H d v)
  (hd:∀(f:Nat) nm ar fl,fns[f]?=yz QaC->∃d,T[f]?=yz d/\DefOk K mg fns gns d nm ar fl)
  (hT:T[f]?=yz d) (F:FunAt K "law" st) (hS:Xes N [x] Qq5=yx) (hM:mtSs fns gns Qq5 N yx d.body QfB=yx) (hp:d.np=1) (hn:d.nl=N.length) (hB:Xic "law" st [x]) (ae:Xma fns G=true:=by rfl) (ah:Xl8 K N "law":=by calc X31 Q8):
  ∃fd:Vdh,Q33/\∀base:Heap,K.In base->QXQ->FnOk P w K mg base QpH Qe3 fa fd [x] (spD K QQS 1 QgU):=by
 let⟨g,fd,h1,h2⟩:=F.ex;let e:=ab.symm.trans (Vdr X Gm h2);cases e;calc⟨fd,λs u=>?_,λbase kb bm=>?_⟩;·let⟨oc,od,kV,ag,pm,an,ac,ct,aj,rfl,_⟩:=h1.ex;exact .of_eq (hB kV ag pm an ac ct [u] rfl)
 ·let aa:∀(f:Nat) (nm:Str),Xcc f nm G=yx->∃ar fl,fns[f]?=yz QaC/\QH4/\∀k xs S,FT T G k f xs S≠.bad->lg xs=ar:=λf nm h=>by
   let⟨ar,fl,q⟩:=Xmb ae h;let⟨d',af,⟨_,_,_,_,ai,_,_,_,_,_,_,e1,_,e2,_⟩⟩:=hd f nm ar fl q;exact⟨ar,fl,q,λa z=>Vdr X Gm z,λk xs S z=>by rw[Ycf af k xs S z,e1,e2]⟩
  let L:Q84->K.In base/\BM mg base:=λz=>⟨kb,bm z⟩;let:=Xp4 (P:=P) (w:=w) (base:=base) aa er hb hg (λf nm ar fl q=>table aa er hb hg L hd k f nm ar fl q) L h2 ah hT h1 hS hM hp hn;calc⟨λvs H Q E z=>let ⟨_,_,_,q,_⟩:=z;q,λA outer s H B us vs Q E hr=>this.run A outer s H B us vs Q E (.of hr)⟩
def Ycg{K:Vh}{bo:Bool}{F:LD->Sto->R D}{H:Hp}{a:Addr}{ns:LI}(hO:∀xs,H a≠yz QD1)(hT:TabH K H)(hS:SqL K H a QV2)(L:∃S',F QYN []=.ok Q20 S'):
  spD K bo 1 F QVC H QrE λ_ _ _=>False:=by
 let⟨S',e⟩:=L;let B:FrL K H a QV2:=by
  rcases hS with(h|⟨o,h⟩)|h;·exact aB0 h (hO _)
  ·exact .inl QbI
  exact .inr h
 calc⟨QYN,[],[],rfl,.cons ?_ .nil,⟨hT,rfl,Vg4,λn a o q=>by simp! at q⟩,QlG,λd S2 v H' ρ' q rd _ _=>?_,λn c S2 a H' ρ' q=>?_⟩;·simp[RD];exact⟨a,_,rfl,B,RDs.ints ns⟩
 ·rw[e]at q;cases q;simpa only[RD] using rd
 ·rw[e]at q;cases q
def Ych(H:Hp)(s:Vc)(e:Vb)(s':Vc)(z:CXd P w [] H s Q4G e s'):False:=by let⟨_,_,_,_,_,_,q⟩:=z;calc q
abbrev Xvs(K:Vh):Bool:=mks.all λm=>(Vhp K m).isNone
def Xp5{K:Vh}(h:Xvs K=yx){m:Str}(B:m∈mks):Vhp K m=none:=by let:=Uc.mp h m B;simpa using this
def X63{K:Vh}(h:Xvs K=yx):Xoy K=[]:=by unfold Xoy;rw[List.filterMap_eq_nil_iff];intro m B;rw[Xp5 h B];rfl
def walk_z{l:PySem.W.OpenLaw}{loose:LS}{XP:QVT->Heap->Prop}{YP:Ua->Heap->Prop}{d:DefRec}{K:Params->Vh}{T:List Df}{G:LD}{k f:Nat}{x:Str}(hn:l.most=yz 63)(B:d.params.defaults=[])(hr:Room k callerA)
  (hY:∀(w:Ua) (h:Heap),YP w h->Qf2.In h) (hN:∀w:Ua,Xvs Qf2=yx)
  (F:∀(w:Ua) (mg:Str->OV) (fa:Addr) (h:Heap),Qf2.In h->h.Ns Up mg->mg d.name=yz QvH ->
   ∃fd:Vdh,Q33/\∀base:Heap,Qf2.In base->((∃m∈mks,Xf8 Qf2 m=yx)->BM mg base)->FnOk l.prog w Qf2 mg base (CXd l.prog w) k fa fd [x] (spD Qf2 QQS 1 QkF))
  (hL:∀ns:LI,lg ns<=63->∃S',FT T G k f QYN []=.ok Q20 S'):
  PySem.W.WalkO q loose XP YP l.row.toRowW d [] QK9:=
 L2.walk_of (n:=63) (k:=k) (x:=x) (CX:=λw=>CXd l.prog w) (sp:=λw=>spD Qf2 QQS 1 QkF) hn Q1 B hr hY (λw mg fa h hk hg L=>let ⟨fd,h1,h2⟩:=F w mg fa h hk hg L;⟨fd,h1,λbase kb _=>h2 base kb λ⟨m,L,z⟩=>by unfold Xf8 at z;rw[Xp5 QWh L]at z;cases z⟩) (λw H a ns hl hO hS=>Ycg (λxs z=>by rcases hO a with q|⟨o,ys,q⟩<;>(rw[z]at q;cases q)) (λP q z=>by rw[X63 QWh]at z;cases z) hS (hL ns hl)) λ_ H s e s' z=>Ych H s e s' z
section
variable{F:Fn}{G:LD}{s:St}{ss:Sts}{env e:En}{S S1:Sto}
def Xct(h:exe F G s env S=.ok Qs6 S1):pe F G QeM env S=pe F G ss e S1:=by show(match exe F G s env S with | .ok Qs6 S'=>pe F G ss e S'|r=>r)=_;rw[h]
def Xmc(h:exe F G s env S=.ok QT9 S1):pe F G QeM env S=.ok QT9 S1:=by show(match exe F G s env S with | .ok Qs6 S'=>pe F G ss e S'|r=>r)=_;rw[h]
def Xid(h:exe F G s env S=.ex n S1):pe F G QeM env S=.ex n S1:=by show(match exe F G s env S with | .ok Qs6 S'=>pe F G ss e S'|r=>r)=_;rw[h]
universe e
def Xao(i j:Int)(S:Sto):Xl .add Q61 QF2 S=.ok QXM S:=rfl
def Xfe(i j:Int)(S:Sto):Xl .sub Q61 QF2 S=.ok QWM S:=rfl
def Xdw(h:Xaj i j=yx)(S:Sto):Xl .mul Q61 QF2 S=.ok QoF S:=by simp[Xl,h,if_true]
def X2j(h:Xhr j=yx)(S:Sto):Xl .fdiv Q61 QF2 S=.ok QFY S:=by simp[Xl,h,if_true]
def Xdx(h:0<j)(S:Sto):Xl .mod Q61 QF2 S=.ok QGY S:=by simp[Xl,h,if_true]
def Xtl(h:0<=j/\j<=1000/\i.natAbs<2^63)(S:Sto):Xl .pow Q61 QF2 S=.ok QUP S:=by simp[Xl,h,and_self,if_true]
def Xmd(h1:-1000000000000000<j)(h2:j<1000000000000000):Xaj i j=true:=by unfold Xaj;simp[Vbc,bA0,decide_eq_true_eq];left;right;constructor<;>omega
def Xme(h1:-1000000000000000<i)(h2:i<1000000000000000):Xaj i j=true:=by unfold Xaj;simp[Vbc,bA0,decide_eq_true_eq];left;left;constructor<;>omega
universe Z
universe e
section
namespace Z
open PySem PySem.W
section
variable(tb:String->Option Vbd)(p:V3)(w:Ua)(m:Nat)(ann:OV)
abbrev topT:Nat->SharedT->Thread->Option SharedT
 |0,_,_=>yy|n+1,s,t=>match through t with
  |true=>yz s|false=>match stepOk m ann t with
   |false=>yy|true=>match stepT QEZ p w s t with
    |some (s',t')=>topT n s' t'|none=>yy
universe e
def Xtm{tb:String->Option Vbd}{p:V3}{w:Ua}{m:Nat}{ann:OV}:∀ {n:Nat} {s s':SharedT} {t:Thread},topT tb p w m ann n s t=yz s'->topRun tb p w m ann n s.abs t=yz s'.abs
 |0,_,_,_,h=>by cases h|n+1,s,s',t,h=>by
  unfold topT at h;unfold topRun;cases B:through t with
  |true=>rw[B]at h;cases h;rfl|false=>
   rw[B]at h;cases L:stepOk m ann t with
   |false=>rw[L]at h;cases h|true=>
    rw[L]at h;cases hs:stepT QEZ p w s t with
    |none=>rw[hs]at h;cases h|some r=>let⟨a,b⟩:=r;rw[hs]at h;rw[stepT_spec hs];calc Xtm h
abbrev Xn6(P:Params):BT:=
 .node (boot_o_0 P) (.node (boot_o_1 P) (.node (boot_o_3 P) (.node (boot_o_7 P) .nil .nil) .nil) (.node (boot_o_5 P) (.node (boot_o_9 P) .nil .nil) .nil))
  (.node (boot_o_2 P) (.node (boot_o_4 P) (.node (boot_o_8 P) .nil .nil) .nil) (.node (boot_o_6 P) (.node (boot_o_10 P) .nil .nil) .nil))
abbrev Xn7:Life:={debug:=0,thresholds:=[2000,10,10]}
def X2k(P:Params):absHeap (Xn6 P) 11 Xn7=boot_heap P:=by kernel_rfl
def Xyq(P:Params):(QcA.isNs Up&&(Array.mk ([]:List GenState)).size==0,(boot_heap P).objs.size,QcA.nsMap Up "__annotations__")=(yx,11,yz (.ref 6)):=by kernel_rfl
abbrev Xyr{α:Type}(p q:V3)(loose:LS)(Xt:Vc->Bool)(Yf:Vc->α)(P:Params)(s:Vc):=((staticsOk Q1A QcA s.heap&&namesBound p s.heap&&gensDone s&&laidKept QcA s.heap),openSeen q loose Q1A Xt yx s,Yf s)
def Xys{p q:V3}{loose:LS}{Xt:Vc->Bool}{α:Type}{Yf:Vc->α}{Ya:Ua->α}{N:Nat}
  (e:opening p=plainProg p.main.scope.names) (hN:Nat.ble 600 N=yx) (f:∀s,fenceModules? p s=yz s)
  (all:∀w os,(topT treeTable p w 11 QQV N QH2 QrY).map (λs=>Xyr p q loose Xt Yf w.params s.abs)=yz (yx,openGood q loose,Ya w)):
  LeftO p q loose Xt Yf Ya N:=λw=>by
 let⟨⟨h,gs,d,k,os⟩,e1,e2⟩:=Ug.mp (boot_open e hN f w);obtain⟨rfl,rfl,rfl,rfl⟩:h=boot_heap w.params/\gs=Array.mk []/\d=boot_drawn/\k=boot_toks:=by simpa using e2
 obtain⟨z1,L,z3⟩:_/\_/\_:=by simpa only[Ve6] using Xyq w.params
 let⟨s,r,l⟩:=Ug.mp (all w os);let B:=Xtm r;let e0:SharedT.abs QH2=Qu6:=by unfold SharedT.abs;dsimp;rw[X2k]
 rw[e0]at B;unfold Xyr at l;obtain⟨l1,l2,l3⟩:_/\_/\_:=by simpa only[Ve6] using l
 let t:topFrom treeTable p w N Qu6=yz s.abs:=by unfold topFrom;dsimp;rw[z1,L,z3,B];dsimp[Option.bind];rw[l1]
 unfold openEnds;rw[e1];show(topFrom treeTable p w N _).map _=_;rw[t];calc congrArg yz (Prod.ext l2 l3)
private abbrev RunT{β:Type}(p:V3)(g:Ua->SharedT->β)(r:Ua->β):Prop:=∀w os,(topT treeTable p w 11 QQV 40000 QH2 QrY).map (g w)=yz (r w)
def left_tree3{p q:V3}{loose:LS}{Xt:Vc->Bool}{α:Type}{Yf:Vc->α}{Ya:Ua->α}(e:opening p=plainProg p.main.scope.names)(f:∀s,fenceModules? p s=yz s)
  (a1:RunT p (λw s=>staticsOk Q1A Q4N s.abs.heap&&namesBound p s.abs.heap&&gensDone s.abs&&laidKept Q4N s.abs.heap) λ_=>yx)
  (B:RunT p (λ_ s=>openSeen q loose Q1A Xt yx s.abs) λ_=>openGood q loose) (a3:RunT p (λ_ s=>Yf s.abs) Ya):LeftO p q loose Xt Yf Ya 40000:=Xys e rfl f λw os=>by
 let⟨s,h,L⟩:=Ug.mp (a1 w os);let x2:=B w os;let x3:=a3 w os;rw[h]at x2 x3 |-;calc congrArg yz (Prod.ext L (Prod.ext (Ur x2) (Ur x3)))
universe Z
universe e
section
namespace Z
open PySem PySem.Spec PyProof.Rows L2
def Xk{n:Nat}(h:n<=100000):n<=big:=V5 h Q1
def Xtn(k:Nat):∀xs:LD,bdDs k xs=xs.all (bdD k)
 |[]=>rfl|x::xs=>by rw[bdDs,Vaw,Xtn k xs]
def Xd8{k:Nat}{xs:LD}(h:∀x∈xs,bdD k x=yx):bdDs k xs=true:=by rw[Xtn];calc Uc.mpr h
def X0{α:Type}{k:Nat}{f:α->D}{xs:List α}(h:∀x,bdD k QxD=yx):bdDs k Qq9=true:=Xd8 λy B=>by let⟨x,_,rfl⟩:=Vm.mp B;calc h x
theorem Sim(S S1:Sto):Prop:=lg S1=lg S/\∀(i:Nat) o,S1[i]?=yz o->S[i]?=yz o\/bdO QD o=yx
def Sim.rfl'{S:Sto}:Sim S S:=⟨rfl,λ_ _ h=>.inl h⟩
def Xd9{S S1:Sto}{d:D}(h:Sim S S1)(B:bdD QD d=yx)(X:Sto):gcR S (.ok d QWT)=.ok d S1:=by let k:Xgt S QWT:=⟨by rw[Ub,h.1];omega,λi o hi e=>h.2 i o QeC⟩;simp[gcR,iP0 k,B,if_true];rw[<-h.1,List.take_left'];rfl
def Yci{S S1:Sto}{c:Nat}(h:Sim S S1):gcR S (.ex QD QXT)=.ex QD QXT:=by
 let k:Xgt S QXT:=⟨by rw[Ub,h.1];omega,λi o' hi e=>h.2 i o' QeC⟩;let e:(S1++[O.exc c])[lg S]?=yz Qp3:=by rw[<-h.1];simp!
 simp[gcR,iP0 (And.intro k (Vi _)),e];rw[<-h.1,List.take_left'];rfl
abbrev pt(S:Sto)(p:Nat)(k:Int):Sto:=S.set p QlT
def Ycj(S:Sto)(p:Nat)(k:Int):Sim S QWa:=⟨Vck,λi o e=>by
 unfold pt at e;by_cases h:p=i;·subst h;let:=QAM.1;rw[Vck]at this;rw[Vap this]at e;cases e;exact .inr rfl
 ·rw[Vay h]at e
  calc .inl e⟩
def Yfb(S:Sto)(p:Nat)(a b:Int):pt (pt S p a) p b=pt S p b:=Vik ..
theorem Pot(S:Sto)(p:Nat):Prop:=∃k:Int,S[p]?=yz QlT
def Pot.pt{S:Sto}{p:Nat}(h:Pot S p)(k:Int):Pot QWa p:=⟨k,by let⟨_,h⟩:=h;calc Vap QO8.1⟩
def Pot.app{S:Sto}{p:Nat}(h:Pot S p)(X:Sto):Pot QlH p:=by let⟨k,h⟩:=h;calc⟨k,by rw[Vy QO8.1];calc h⟩
def Xyt{S:Sto}{p:Nat}(h:Pot S p)(X:Sto)(k:Int):Z.pt QlH p k=Z.pt S p k++X:=by let⟨_,h⟩:=h;calc List.set_append_left _ _ QO8.1
section
variable{F:Fn}{G:LD}{S S1:Sto}{env:En}
def Xea{e:Ex}{xs:LD}(h:ev F G e env S=.ok QKb QW8)(hs:Sim S S1)(B:bdDs QD xs=yx):ev F G QtW env S=.ok Q5A S1:=by
 let e1:QqA[lg S1]?=yz QD1:=by simp!
 let e2:QqA.set QzE .ded=S1++QqE:=by rw[Vfp _ _ Qd];simp!
 show gcR S Qsc=_;rw[h];simp[Xba,e1,e2];calc Xd9 (d:=.fro xs) hs B _
def X1{e:Ex}{xs:LD}(h:ev F G e env S=.ok Q7 QQ1)(B:bdDs QD xs=yx):ev F G QtW env S=.ok Q5A S:=Xea h .rfl' B
def Xa2{d:Df}{ds:LD}{env0:En}{v:D}{X:Sto}(B:ds.map yz++Vn QWA yy=env0)(h:pe F G d.body env0 S=.ok QkA QWT)(hs:Sim S S1)(hb:bdD QD v=yx)(L:Qt3=d.np:=by rfl)(hg:d.gc=true:=by rfl):den F G d ds S=.ok v S1:=by subst B;unfold den;rw[iP0 L,h,hg];calc Xd9 hs hb X
def Xs{d:Df}{ds:LD}{env0:En}{v:D}(B:ds.map yz++Vn QWA yy=env0)(h:pe F G d.body env0 S=.ok QkA S)(hb:bdD QD v=yx)(L:Qt3=d.np:=by rfl)(hg:d.gc=true:=by rfl):den F G d ds S=.ok v S:=
 Xa2 (X:=[]) B QHQ .rfl' hb L hg
def Yck{d:Df}{ds:LD}{env0:En}(B:ds.map yz++Vn QWA yy=env0){e:En}(h:pe F G d.body env0 S=.ok Qs6 S)(L:Qt3=d.np:=by rfl)(hg:d.gc=true:=by rfl):den F G d ds S=.ok .non S:=by subst B;unfold den;rw[iP0 L,h,hg];let:=Xd9 (S:=S) .rfl' (show bdD QD .non=yx from rfl) [];rw[Va4]at this;calc this
def Xeb{d:Df}{ds:LD}{env0:En}{c:Nat}(B:ds.map yz++Vn QWA yy=env0)(h:pe F G d.body env0 S=.ex QD QWK)(L:Qt3=d.np:=by rfl)(hg:d.gc=true:=by rfl):den F G d ds S=.ex QD QWK:=by subst B;unfold den;rw[iP0 L,h,hg];calc Yci .rfl'
def Xd{T:List Df}{f k:Nat}{d:Df}(h:T[f]?=yz d)(ds:LD):FT T G Qe3 f ds S=den QlJ G d ds S:=by simp[FT,h]
def Xm{e:Ex}{i:Nat}{v:D}{ss:Sts}(h:ev F G e env S=.ok v S1):pe F G (.cons QMY ss) env S=pe F G ss (env.set i Q59) S1:=Xct QtC
def Xn{e:Ex}{v:D}{ss:Sts}(h:ev F G e env S=.ok v S1):pe F G (.cons Q3f ss) env S=.ok QkA S1:=Xmc QtC
def Xbg{e:Ex}{v:D}{ss:Sts}(h:ev F G e env S=.ok v S1):pe F G (.cons (.expr e) ss) env S=pe F G ss env S1:=Xct QtC
def Xbu{c:Ex}{t:Bool}{a b ss:Sts}(h:ev F G c env S=.ok QHa S1):pe F G (.cons QnF ss) env S=match (if t then pe F G a env S1 else pe F G b env S1) with
  |.ok Qs6 S'=>pe F G ss e S'|r=>r:=by
 show(match exe F G QnF env S with|.ok Qs6 S'=>pe F G ss e S'|r=>r)=_;rw[show exe F G QnF env S=if t then pe F G a env S1 else pe F G b env S1 from ond h (by cases t<;>rfl)]
def Yu{c e:Ex}{t:Bool}{v:D}{ss:Sts}(h:ev F G c env S=.ok QHa S1)(B:ev F G e env S1=.ok v S1):pe F G (.cons (.ite c QfM .nil) ss) env S=if t then .ok QkA S1 else pe F G ss env S1:=by
 rw[Xbu h];cases t;·rfl
 ·rw[iP0 rfl,iP0 rfl,Xn B]
def Xkn{c:Ex}{t:Bool}{k:Nat}{s:Str}{ss:Sts}(h:ev F G c env S=.ok QHa S):pe F G (.cons (.ite c (.cons (.rse k (.cst (.str s))) .nil) .nil) ss) env S=if t then .ex QD QS1 else pe F G ss env S:=by rw[Xbu h];cases t<;>rfl
def X5{i:Nat}{d:D}(h:env[i]?=yz QZC):ev F G QJ1 env S=.ok d S:=by show(match env[i]? with|some QZC=>R.ok d S|_=>_)=_;rw[h]
def Xko{i:Nat}{d:D}(h:G[i]?=yz d):ev F G (.glb i) env S=.ok d S:=by show(match G[i]? with|some d=>R.ok d S|none=>_)=_;rw[h]
def Yd:evs F G .nil env S=.ok [] S:=rfl
def Xc{S2:Sto}{e:Ex}{es:Exs}{x:D}{xs:LD}(h1:ev F G e env S=.ok x S1)(h2:evs F G es env S1=.ok xs S2):evs F G QpF env S=.ok QMA S2:=ond h1 QD7
def Xyu{S2:Sto}{k:Bl}{a b:Ex}{x y:D}(h:ev F G a env S=.ok x S1)(h2:ev F G b env S1=.ok y S2):ev F G (.blt k Q46) env S=X2 k Qm9 S2:=ond (Xc h QNQ) rfl
def Xf9{S2:Sto}{k:Mt}{o e:Ex}{x y:D}(h1:ev F G o env S=.ok x S1)(r:Xat k x S1=yx)(h2:ev F G e env S1=.ok y S2):ev F G (.mth k o Qk0) env S=Y5 k x [y] S2:=ond h1 ((iP0 r).trans (ond QNQ rfl))
def Xvt{a:Ex}{x:D}{k:Kd}{B:List Ty}(h:ev F G a env S=.ok x S1)(L:kdD S1 x=yz k):ev F G (.isi a B) env S=match Y4 k B with|some r=>.ok QuB S1|none=>.bad:=ond h (by rw[L];rfl)
def Xb4{a b:Ex}{x y:Bool}(h:ev F G a env S=.ok QGa S)(h2:x=yx->ev F G b env S=.ok Q3h S):ev F G Qhb env S=.ok (.bl (x&&y)) S:=ond h (by
 cases x;·rfl
 ·calc h2 rfl)
def Xbv{a b:Ex}{x y:Bool}(h:ev F G a env S=.ok QGa S)(h2:x=yw->ev F G b env S=.ok Q3h S):ev F G QQd env S=.ok (.bl (x||y)) S:=ond h (by
 cases x;·exact h2 rfl
 ·rfl)
def Yv{a:Ex}{x:Bool}(h:ev F G a env S=.ok QGa S1):ev F G Q6f env S=.ok (.bl (!x)) S1:=ond h rfl
def Xg{f:Nat}{a:Ex}{x:D}(h:ev F G a env S=.ok x S1):ev F G (.call f QU9) env S=F f [x] S1:=ond QtC rfl
def X9{f:Nat}{a b:Ex}{x y:D}{S2:Sto}(h:ev F G a env S=.ok x S1)(h2:ev F G b env S1=.ok y S2):ev F G (.call f Q46) env S=F f Qm9 S2:=ond (ond h (ond QD7 rfl)) rfl
def X8{k:Bl}{a:Ex}{x:D}(h:ev F G a env S=.ok x S1):ev F G (.blt k QU9) env S=X2 k [x] S1:=ond QtC rfl
def Xbq{a b:Ex}{x y:D}{S2:Sto}(h:ev F G a env S=.ok x S1)(h2:ev F G b env S1=.ok y S2):ev F G (.idx a b) env S=Xdz x y S2:=ond h QD7
def X7{o:Bo}{a b:Ex}{x y:D}{S2:Sto}(h:ev F G a env S=.ok x S1)(h2:ev F G b env S1=.ok y S2):ev F G QLY env S=Xl o x y S2:=ond h QD7
def bi{o:Bo}{a b:Ex}{x y z:D}{S2:Sto}(h:ev F G a env S=.ok x S1)(h2:ev F G b env S1=.ok y S2)(B:Xl o x y S2=.ok z S2):ev F G QLY env S=.ok z S2:=(X7 h h2).trans B
def Yn{o:Co}{a b:Ex}{x y:D}{S2:Sto}(h:ev F G a env S=.ok x S1)(h2:ev F G b env S1=.ok y S2):ev F G (.cmp o a b) env S=Xw o x y S2:=ond h QD7
def Xyv{α:Type}{xs:List α}{i:Nat}{x:α}(h:xs[i]?=yz x):xs.drop i=x::xs.drop QX2:=by let⟨hi,rfl⟩:=Vk.mp h;calc Vjs hi
def Xto{get:Sto->Nat->Option Qw3}{t:Tg}{body:En->LD->Sto->R (LD)}(zs:LD)(T:D->En)(p:D->Bool)(f:D->D)(hs:∀i,get S i=yz zs[i]?)(hT:∀x∈zs,∀y∈zs,Xx t x Q6d=yz Q5J)(hl:QTA<=big)
  (hb:∀x∈zs,∀B,lg B<big->body Q5J B S=.ok (if p x then B++[f x] else B) S):
  ∀(n i:Nat) (e:En) (B:LD),lg zs-i<n->i<=lg zs->lg B<=i->QP7->Yz get t body n i e B S=.ok (B++(QjY.filter p).map f) S
 |0=>λi e B h=>aB0 h QW7|n+1=>λi e B h hi ha h0=>by
  rw[Yz,hs];cases q:zs[i]? with
  |none=>dsimp;rw[Vhm Q5d];simp!|some x=>let L:=V7 q;let lt:=QdH.1;dsimp;rw[h0 x L];dsimp;rw[hb x L B Q0];dsimp;rw[Xto zs T p f hs hT hl hb n QX2 _ _ Q0 Q0 (by cases p x<;>simp!<;>omega) (λy hy=>hT y hy x L),Xyv q,List.filter_cons];cases p x<;>simp!
def Xie{n:Nat}{t:Tg}{it:It}{ifs:Exs}{elt:Ex}{src:Src}(zs:LD)(T:D->En)(p:D->Bool)(f:D->D)(hi:evit F G it env S=.ok src S)(hs:∀i,src.get S i=yz zs[i]?)(hm:QTA<=src.most S)(hl:QTA<=big)
  (h0:∀x∈zs,Xx t x Q60=yz Q5J) (hT:∀x∈zs,∀y∈zs,Xx t x Q6d=yz Q5J) (ht:∀x∈zs,evts F G ifs Q5J S=.ok (p x) S) (he:∀x∈zs,p x=yx->ev F G elt Q5J S=.ok QxD S):
  ev F G (.cmr yw n QdM elt) env S=.ok Q7 (S++[.lst QnM]):=by
 calc ond hi (ond (Xto zs T p f hs hT hl (λx B aa L=>ond (ht x B) ?_) QQ4 0 _ [] Q0 QS8 QS8 h0) rfl);cases q:p x with
 |false=>rfl|true=>calc ond (he x B q) Qqf
def Xdm{n i:Nat}{it:It}{ifs:Exs}{elt:Ex}(zs:LD)(p:D->Bool)(f:D->D)(hi:evit F G it env S=.ok QsB S)(hl:QTA<=big)(L:∀x∈zs,evts F G ifs Qy4 S=.ok (p x) S)
  (he:∀x∈zs,p x=yx->ev F G elt Qy4 S=.ok QxD S) (hb:∀x∈zs,p x=yx->bdD QD QxD=yx):
  ev F G (.frz (.cmr yw n (.cons QJ1 it ifs .nil) elt)) env S=.ok (.fro QnM) S:=by
 calc X1 (Xie zs QrM p f hi Q32 Qd hl QB2 Qn4 L he) (Xd8 λy hy=>?_);let⟨x,B,rfl⟩:=Vm.mp hy;let⟨h1,h2⟩:=Ui.mp B;calc hb x h1 h2
def Xif{n i:Nat}{it:It}{elt:Ex}(zs:LD)(f:D->D)(hi:evit F G it env S=.ok QsB S)(hl:QTA<=big)(L:∀x∈zs,ev F G elt Qy4 S=.ok QxD S)(hb:∀x∈zs,bdD QD QxD=yx):
  ev F G (.frz QS2) env S=.ok (.fro (zs.map f)) S:=by
 let:=Xdm (F:=F) (G:=G) (ifs:=.nil) zs Qp9 f hi hl QB2 (λx B _=>L x B) (λx B _=>hb x B);rwa [Vgc.mpr λ_ _=>rfl]at this
def Xig{α:Type}(zs:List α)(q:α->Bool):X3 (zs.map λx=>.bl (q x))=yz (zs.map q):=by
 induction zs with
 |nil=>rfl|cons x zs ih=>rw[Uh,X3,ih];rfl
def Xn8{n i:Nat}{it:It}{elt:Ex}(zs:LD)(q:D->Bool)(hi:evit F G it env S=.ok QsB S)(hl:QTA<=big)(B:∀x∈zs,ev F G elt Qy4 S=.ok QIa S):
  ev F G (.blt .all QnK) env S=.ok (.bl (zs.all q)) S:=by
 rw[X8 QCA];simp[X2,Xi,Uy,Xig,Vfq];rfl
def Xvu{n i:Nat}{it:It}{elt:Ex}(zs:LD)(q:D->Bool)(hi:evit F G it env S=.ok QsB S)(hl:QTA<=big)(B:∀x∈zs,ev F G elt Qy4 S=.ok QIa S):
  ev F G (.blt .anb QnK) env S=.ok (.bl (zs.any q)) S:=by
 rw[X8 QCA];simp[X2,Xi,Uy,Xig,List.any_map];rfl
def Xtp{get:Sto->Nat->Option Qw3}{t:Tg}{body:En->Sto->R Fl}(zs:LD)(P:Nat->En->Sto->Prop)(hs:∀i e S,P i e S->get S i=yz zs[i]?)
  (L:∀i x e S,zs[i]?=yz x->P i e S->∃e1 e2 S',Xx t x e=yz e1/\body e1 S=.ok Q5f S'/\P QX2 e2 S'):
  ∀(n i:Nat) (e:En) (S:Sto),lg zs-i<n->i<=lg zs->P i e S->∃e' S',Y0 get t body n i e S=.ok (.nx e') S'/\P QTA e' S'
 |0=>λi e S h=>aB0 h QW7|n+1=>λi e S h hi B=>by
  rw[Y0,hs i e S B];cases q:zs[i]? with
  |none=>
   let:i=lg zs:=by let:=U3.mp q;omega
   subst this;calc⟨e,S,rfl,B⟩|some x=>let lt:=QdH.1;let⟨e1,e2,S',h1,h2,h3⟩:=L i x e S q B;dsimp;rw[h1];dsimp;rw[h2];calc Xtp zs P hs L n QX2 e2 S' Q0 Q0 h3
def Xyw{get:Sto->Nat->Option Qw3}{t:Tg}{body:En->Sto->R Fl}{r:R Fl}(zs:LD)(T:D->En)(p:D->Bool)(hr:∀e S',r≠.ok Qs6 S')(aa:∀e S',r≠.ok QDf S')(L:∀e S',r≠.ok QEf S')(hs:∀i,get S i=yz zs[i]?)(hT:∀x∈zs,∀y∈zs,Xx t x Q6d=yz Q5J)
  (hb:∀x∈zs,body Q5J S=if p x then .ok (.nx Q5J) S else r):
  ∀(n i:Nat) (e:En),lg zs-i<n->i<=lg zs->QP7->∃B,(B=e\/∃x∈zs,B=T x)/\Y0 get t body n i e S=if QjY.all p then .ok Q2h S else r
 |0=>λi e h=>aB0 h QW7|n+1=>λi e h hi h0=>by
  rw[Y0,hs];cases q:zs[i]? with
  |none=>rw[Vhm Q5d];exact⟨e,.inl rfl,rfl⟩|some x=>
   let hx:=V7 q;let lt:=QdH.1;dsimp;rw[h0 x hx];dsimp;rw[hb x hx,Xyv q,Vaw];cases p x with
   |true=>let⟨B,h1,h2⟩:=Xyw zs T p hr aa L hs hT hb n QX2 Q5J Q0 Q0 λy hy=>hT y hy x hx;calc⟨B,.inr (h1.elim (λz=>⟨x,hx,z⟩) id),?_⟩;rw[Vbg];exact h2|false=>
    calc⟨e,.inl rfl,?_⟩;simp[Vcg,Vs,if_false];cases r with
    |ok y S'=>
     cases y with
     |nx B=>calc aB0 rfl (hr B S')|cnt B=>calc aB0 rfl (aa B S')|brk B=>calc aB0 rfl (L B S')|rt d=>rfl
    |ex=>rfl|bad=>rfl
def Xyx{i:Nat}{it:It}{b ss:Sts}{v:D}(zs:LD)(p:D->Bool)(hi:evit F G it env S=.ok QsB S)(L:∀x∈zs,pe F G b QG6 S=if p x then .ok QTM S else .ok QkA S):
  ∃B,(B=env\/∃x∈zs,B=env.set i QQ3)/\pe F G (.cons Q0I ss) env S=if zs.all p then pe F G ss B S else .ok QkA S:=by
 let⟨B,h1,h2⟩:=Xyw (t:=.var i) (get:=QA9.get) (body:=λenv S=>pe F G b env S) zs (λx=>env.set i QQ3) p (r:=.ok QkA S) QAC QAC QAC Q32 Qn4 L (QA9.most S+1) 0 env Qe6 QS8 λ_ _=>rfl;calc⟨B,h1,?_⟩;rw[Vgz]at h2;show(match exe F G Q0I env S with|.ok Qs6 S'=>pe F G ss e S'|r=>r)=_;rw[show exe F G Q0I env S=_ from ond hi h2];cases zs.all p<;>rfl
universe e
abbrev Xga:Df:=QV4
abbrev Xbw(B:Nat):Df:=⟨3,3,(.cons (.ret (.and Q56 (.chn .le .le Q2 Q4 Q9))) .nil),yx⟩
abbrev Xbz:Df:=⟨1,1,(.cons (.ret (.blt .all (.cons (.frz (.cmr yw 3 (.cons (.tup [2,3]) (.zpp Qq8) .nil .nil) (.cmp .lt Q9 QE))) .nil))) .nil),yx⟩
abbrev Xjr(ab aa L B:Nat):Df:=⟨1,1,(.cons (.ite (.or Qb0 (.not (.chn .le .le Q6 QK0 QCf))) QB .nil) (.cons (.ite (.not (.blt .all (.cons (.frz (.cmr yw 2 Q41 QqF)) .nil))) QB .nil) (.cons (.ret (.and QoK (.not QyW))) .nil))),yx⟩
abbrev Xc3(B:Nat):Df:=⟨1,1,(.cons (.ite (.not Q56) (.cons (.rse 1 (.cst (.str "a net is due"))) .nil) .nil) .nil),yx⟩
abbrev Xdd(ab L B aa:Nat):Df:=⟨1,1,(.cons (.ite (.or Qb0 (.cmp .gt QK0 Qad)) QB .nil) (.cons (.ret (.and (.blt .all (.cons (.frz (.cmr yw 2 Q41 (.call L (.cons Q9 (.cons QN (.cons QCf .nil)))))) .nil)) QyW)) .nil)),yx⟩
abbrev Xe3(B:Nat):Df:=⟨1,1,(.cons (.ret (.blt .anb (.cons (.frz (.cmr yw 2 Q41 Q0X)) .nil))) .nil),yx⟩
abbrev Xbx(B:Nat):Df:=⟨2,2,(.cons (.ret (.blt .anb (.cons (.frz (.cmr yw 2 (.cons QE (.val Q2) .nil .nil) (.and (.call B (.cons Q4 Qk)) (.cmp .ne Q4 QE)))) .nil))) .nil),yx⟩
abbrev Xhb:Df:=⟨2,3,(.cons (.for Q9 QC1 (.cons QTD .nil)) QRG),yx⟩
abbrev Xgb(L B:Nat):Df:=⟨2,2,(.cons (.ret (.and (.call B Qg) (.blt .anb (.cons (.frz (.cmr yw 2 Q6A QzW)) .nil)))) .nil),yx⟩
abbrev Xe4(B:Nat):Df:=⟨1,4,(.cons (.asg Q2 .st0) (.cons (.for Q9 QC1 (.cons (.for QE (.val QhM) QnR) .nil)) (.cons QhK .nil))),yx⟩
abbrev Xgc:Df:=⟨1,3,(.cons (.asg Q2 (.frz QRd)) (.cons (.for Q9 QC1 (.cons Qn2 .nil)) (.cons QPd .nil))),yx⟩
abbrev Xde:Df:=⟨2,2,(.cons (.ite QLF (.cons (.ret (.idx Q4 Q2)) .nil) .nil) (.cons (.ret QN) .nil)),yx⟩
abbrev t_law_pot:Df:=⟨1,4,(.cons (.ite QrQ (.cons (.ret (.lst (.cons (.bin .sub Q4 Qr1) .nil))) .nil) .nil) (.cons (.asg Q2 QN) (.cons (.for Q9 (.rng QTG) (.cons Qj QuG)) (.cons QiR .nil)))),yw⟩
abbrev t_law_take:Df:=⟨2,3,(.cons (.asg Q9 (.bin .mod (.idx Q4 QN) Q2)) (.cons QxQ (.cons (.ret Q9) .nil))),yx⟩
abbrev Xb0:Df:=QV4
abbrev Xax(B L:Nat):Df:=⟨2,2,(.cons (.ite QrJ (.cons QRP (.cons (.ret (.and QPE (.blt .all (.cons (.frz (.cmr yw 3 (.cons (.tup [3,4]) (.zpp QV6) .nil .nil) (.call L QoU))) .nil)))) .nil)) .nil) (.cons (.ite (.or (.cmp .is Q2 (.cst .non)) (.or QiQ (.isi Q2 [.str]))) (.cons (.ret (.and QvR (.cmp .eq (.isi Q4 [.bool]) QiQ))) .nil) .nil) (.cons (.ret (.and Q56 QvR)) .nil))),yx⟩
abbrev Xgd:Df:=⟨2,2,(.cons (.ret (.cmp .eq Q55 QsJ)) .nil),yx⟩
abbrev Xcu(B:Nat):Df:=⟨1,3,(.cons QTE (.cons (.for Q9 QEb (.cons (.ite (.cmp .eq (.frz (.cmr yw 2 (.cons Qq QC1 (.cons (.and QuR (.call B QpU)) .nil) .nil) Qq)) QsJ) QEB .nil) .nil)) QsR)),yx⟩
abbrev Xet(L B:Nat):Df:=⟨1,8,(.cons (.asg Q2 QO5) (.cons (.asg Q9 (.bin .add QT (.call B (.cons Q4 (.cons (.idx QWb QO5) .nil))))) (.cons (.asg QE (.bin .add Q6 (.call B (.cons Q4 (.cons (.idx QYb QO5) .nil))))) (.cons (.asg Qq Qz4) (.cons (.for Qh5 (.rng (.cons (.bin .add Q6 (.call B (.cons Q4 (.cons (.idx QkQ (.call B QqU)) .nil)))) .nil)) (.cons QpK (.cons (.asg QfK (.blt .min (.cons Q9 (.cons (.idx (.frz (.lst (.cons (.call B Q15) QlK))) Q2) .nil)))) (.cons (.expr (.mth .append Qq (.cons (.blt .tuple (.cons (.frz (.blt .sorted (.cons (.frz (.cmr yw 2 QZ7 (.mth .popi Q27 (.cons (.call B Q68) .nil)))) .nil))) .nil)) .nil))) .nil)))) (.cons (.ret (.call L QJL)) .nil)))))),yx⟩
abbrev Xb5(B:Nat):Df:=⟨1,1,(.cons (.ite (.or Qb0 (.or (.cmp .gt QK0 QpQ) (.not (.blt .all (.cons (.frz (.cmr yw 2 Q41 QhM)) .nil))))) QB .nil) (.cons (.ret (.cmp .eq (.frz (.cmr yw 2 (.cons Q9 (.rng Q10) (.cons QXP .nil) .nil) Q9)) QDB)) .nil)),yx⟩
abbrev Xec(L B:Nat):Df:=⟨1,2,(.cons (.ite (.or Qb0 (.or (.not Q5C) (.not (.blt .all (.cons (.frz (.cmr yw 2 Q6A QKY)) .nil))))) QB .nil) (.cons (.ite QWP QB .nil) (.cons (.for Q2 QC1 (.cons (.ite (.cmp .ne (.blt .len (.cons (.frz (.cmr yw 2 (.cons QE QC1 (.cons QzW .nil) .nil) QE)) .nil)) Q6) QB .nil) .nil)) QRG))),yx⟩
abbrev Xc4:Df:=⟨1,3,(.cons QTE (.cons (.for Q9 (.rng QoR) (.cons Qj0 .nil)) (.cons QJb .nil))),yx⟩
abbrev Xc5(B:Nat):Df:=⟨1,3,(.cons QTE (.cons (.for Q9 QC1 (.cons (.expr (.mth .xtd Q2 (.cons QhM .nil))) .nil)) QrR)),yx⟩
abbrev Xhc(B:Nat):Df:=⟨1,2,(.cons (.asg Q2 Qh) (.cons (.ret (.idx Q2 (.call B (.cons Q4 Q10)))) .nil)),yx⟩
abbrev Xyy(it:Nat)(ss:Sts):Sts:=.cons (.par [4,5] (.cons Qe8 (.cons (.call it (.cons Q4 (.cons (.bin .add Q67 Q6) .nil))) .nil))) (.cons (.asg Q9 (.idx (.frz Qu) Qe8)) ss)
abbrev Xch(L B:Nat):Df:=⟨2,6,(Xyy B (.cons (.ite (.cmp .lt Qq Q80) (.cons (.ret (.bin .add (.bin .add QuH QKd) (.sli Q2 (.some QSE) .none))) .nil) .nil) (.cons (.asg QE (.frz (.lst (.cons Qg6 (.cons QOd (.cons (.bin .add Q2 Q2) (.cons QLd (.cons QJY (.cons (.bin .add (.bin .add QuH QSI) (.sli Q2 (.some Qh5) .none)) .nil))))))))) (.cons (.ret (.idx QE (.bin .sub Qq Q80))) .nil)))),yx⟩
abbrev Xyz(it B:Nat)(ss:Sts):Sts:=.cons (.par [5,6] (.cons (.call it (.cons Q4 (.cons (.cst QTd) .nil))) (.cons (.call it (.cons Q4 (.cons Q67 .nil))) .nil))) (.cons (.asg Q9 QrW) (.cons (.asg QE (.call B (.cons Q4 Qi))) ss))
abbrev Xcv(aa B L:Nat):Df:=⟨2,7,(Xyz L B (.cons (.ite (.cmp .lt Qh5 Q80) (.cons (.ret (.bin .add (.bin .add Qm3 (.tup Qk)) Qi1)) .nil) .nil) (.cons (.asg Qq (.frz (.lst (.cons (.bin .add Qm3 Qi1) (.cons QOd (.cons (.bin .add Q2 QSI) (.cons Qg6 (.cons QLd (.cons (.blt .tuple (.cons (.frz (.blt .sorted (.cons (.bin .add Q2 (.tup (.cons (.sli Q9 (.some Q6) .none) .nil))) .nil))) .nil)) .nil))))))))) (.cons (.asg Qq (.frz (.bin .add Qq (.frz (.lst (.cons (.blt .tuple (.cons (.frz (.blt .sorted (.cons (.bin .add Q2 (.tup (.cons (.bin .add Q9 (.tup (.cons (.cst QVM) .nil))) .nil))) .nil))) .nil)) (.cons QoK (.cons (.bin .add (.bin .add Qm3 (.tup (.cons Q9 Qi))) Qi1) .nil)))))))) (.cons (.ret (.idx Qq (.bin .sub Qh5 Q80))) .nil))))),yx⟩
abbrev t_law_kind_of:Df:=⟨1,3,(.cons (.asg Q2 (.lst (.cons (.isi Q4 [.cls 1]) (.cons (.isi Q4 [.cls 2]) (.cons (.isi Q4 [.cls 3]) (.cons (.isi Q4 [.cls 4]) .nil)))))) (.cons (.asg Q2 (.bin .add Q2 (.frz (.lst (.cons (.isi Q4 [.cls 5]) (.cons (.isi Q4 [.cls 6]) (.cons (.isi Q4 [.cls 7]) (.cons (.isi Q4 [.cls 8]) .nil)))))))) (.cons (.asg Q2 (.bin .add Q2 (.frz (.lst (.cons (.isi Q4 [.cls 9]) (.cons (.isi Q4 [.cls 10]) (.cons (.isi Q4 [.cls 11]) (.cons (.isi Q4 [.cls 12]) .nil)))))))) (.cons (.asg Q2 (.bin .add Q2 (.frz (.lst (.cons (.isi Q4 [.cls 13]) (.cons (.isi Q4 [.cls 14]) (.cons (.isi Q4 [.cls 15]) (.cons (.isi Q4 [.cls 16]) .nil)))))))) (.cons (.ite Qj3 (.cons (.ret (.cst (.str "other"))) .nil) .nil) (.cons (.asg Q9 QY) (.cons (.ret (.idx QIJ QIN)) .nil))))))),yx⟩
mutual
abbrev pd:D->Bool
 |.ref _=>yw|.fn _ _=>yw|.tup xs=>pds xs|.fro xs=>pds xs|_=>yx
abbrev pds:LD->Bool
 |[]=>yx|x::xs=>pd x&&pds xs
end
mutual
def Xc6(k:Nat):∀ {d:D},pd d=yx->bdD k d=yx
 |.ref _=>λh=>by cases h|.fn _ _=>λ_=>rfl|.tup xs=>λh=>pds_bd k (xs:=xs) h|.fro xs=>λh=>pds_bd k (xs:=xs) h|.non=>λ_=>rfl|.bl _=>λ_=>rfl|.int _=>λ_=>rfl|.str _=>λ_=>rfl|.edc=>λ_=>rfl
def pds_bd(k:Nat):∀ {xs:LD},pds xs=yx->bdDs k xs=yx
 |[]=>λ_=>rfl|x::xs=>λh=>by rw[pds,bA0]at h;rw[bdDs,Xc6 k h.1,pds_bd k h.2];rfl
end
def pds_iff:∀ {xs:LD},pds xs=yx ↔ ∀x∈xs,pd x=yx
 |[]=>by simp![pds]|x::xs=>by rw[pds,bA0,pds_iff,Vcu]
def Xmf{α:Type}{f:α->D}{xs:List α}(h:∀x,pd QxD=yx):pds Qq9=true:=pds_iff.mpr λy B=>by let⟨x,_,rfl⟩:=Vm.mp B;calc h x
abbrev Xa(l:LI):D:=.tup QQ
abbrev Xb(n:LL):D:=.tup Qm
abbrev rwF(n:LL):D:=.fro Qm
def Xff(l:LI):pd QL6=true:=Xmf λ_=>rfl
def Xkp(n:LL):pd Q70=true:=Xmf Xff
def Ycl(n:LL):pd QmN=true:=Xmf Xff
def Yb(k:Nat)(l:LI):bdD k QL6=true:=Xc6 k (Xff l)
def Xfg(k:Nat)(n:LL):bdD k Q70=true:=Xc6 k QFg
def Xkq(k:Nat)(n:LL):bdD k QmN=true:=Xc6 k (Ycl n)
def Xed:∀n:LL,Xab Qm=yz n
 |[]=>rfl|x::n=>by rw[Uh,Xa,Xab,Yw,Xed n];rfl
def Xih{n:LL}(h:n≠[]):Xf Qm=none:=by
 cases n with
 |nil=>cases h rfl|cons x n=>rfl
abbrev Xh:D->LI
 |.tup xs=>(Xf xs).getD []|_=>[]
def ints_of(l:LI):Xh QL6=l:=by unfold Xh Xa;dsimp;rw[Yw];rfl
def Xmg{α:Type}[DecidableEq α]{f:α->Vcn}(h:∀x y,Vdk QxD Qyf=decide QTf):∀xs ys:List α,Vf6 Qq9 QvP=decide (xs=ys)
 |[],[]=>by simp![Vf6]|[],_::_=>by simp![Vf6]|_::_,[]=>by simp![Vf6]|x::xs,y::ys=>by rw[Uh,Uh,Vf6,h,Xmg h xs ys,Vcd];simp!
def Xfh{α:Type}{f:α->Vcn}(h:∀x,QxD.canLay0=yx):∀xs:List α,Vfi Qq9=yx
 |[]=>rfl|x::xs=>by rw[Uh,Vfi,h,Xfh h xs];rfl
def Xmh{α:Type}{f:α->Vcn}{k:Nat}(h:∀x,QxD.depth<=k):∀xs:List α,Vfd Qq9<=k
 |[]=>by rw[Vgk,Vfd];calc Vaq _|x::xs=>by rw[Uh,Vfd];calc Nat.max_le.mpr ⟨h x,Xmh h xs⟩
def Xfi{α:Type}{f:α->D}{g:α->Vcn}{B:Nat->Option Vcn}(h:∀x,Yi B QxD=yz QnS):∀xs:List α,datFs B Qq9=yz (xs.map g)
 |[]=>rfl|x::xs=>by rw[Uh,datFs,h,Xfi h xs];rfl
structure Enc(α:Type)[DecidableEq α](f:α->D)(g:α->Vcn)(k:Nat):Prop where
 dat:∀look x,Yi look QxD=yz QnS
 lay:∀x,QnS.canLay0=yx
 dep:∀x,QnS.depth<=k
 eqv:∀x y,Vdk QnS (g y)=decide QTf
def enc_int:Enc Int D.int PyData.int 0:=⟨λ_ _=>rfl,λ_=>rfl,λ_=>by simp![Vfr],λx y=>by rw[Vdk];calc Vcd.mpr QA⟩
def Enc.tup{α:Type}[DecidableEq α]{f:α->D}{g:α->Vcn}{k:Nat}(h:Enc α f g k):Enc QBd (λl=>.tup QqD) (λl=>.tuple QeS) Qe3 where
 dat look l:=by simp[Yi,Xfi QeX,Vaa]
 lay l:=by rw[PyData.canLay0];exact Xfh h.lay l
 dep l:=by rw[Vfr];exact Vhy Q3W
 eqv l m:=by rw[Vdk];calc Xmg h.eqv l m
def Enc.fro{α:Type}[DecidableEq α]{f:α->D}{g:α->Vcn}{k:Nat}(h:Enc α f g k):Enc QBd (λl=>.fro QqD) (λl=>.list QeS) Qe3 where
 dat look l:=by simp[Yi,Xfi QeX,Vaa]
 lay l:=by rw[PyData.canLay0];exact Xfh h.lay l
 dep l:=by rw[Vfr];exact Vhy Q3W
 eqv l m:=by rw[Vdk];calc Xmg h.eqv l m
def enc_row:Enc (LI) Xa (λl=>.tuple (l.map .int)) 1:=enc_int.tup
def enc_rwF:Enc (LL) rwF (λn=>.list QXE) 2:=enc_row.fro
def enc_net:Enc (LL) Xb (λn=>.tuple QXE) 2:=enc_row.tup
section
variable{α:Type}[DecidableEq α]{f:α->D}{g:α->Vcn}{k:Nat}
def Enc.eq(h:Enc α f g k)(B:k<=60)(hs:∀x y,Xgq QxD Qyf=yy)(x y:α)(S:Sto):eqD S QxD Qyf=yz (decide QTf):=by unfold eqD;rw[hs];simp[Xaf,h.dat,h.lay,Vdt,Vbg,decide_eq_true QGG,if_true,h.eqv]
def Xtq(h:Enc α f g k)(x:α)(ys:List α)[Decidable QfG]:((ys.map g).any λq=>Vdk q QnS)=decide QfG:=by
 rw[Vcd,List.any_map,Vbp,decide_eq_true_eq];constructor;·rintro ⟨y,hy,e⟩;let L:=(h.eqv y x).symm.trans e;exact oD0 L▸hy
 ·calc λB=>⟨x,B,(h.eqv x x).trans Q1N⟩
def Enc.inT(h:Enc α f g k)(B:k<=60)(x:α)(ys:List α)[Decidable QfG](S:Sto):inD S QxD (.tup QvP)=yz (decide QfG):=by simp[inD,Xaf,h.dat,Yi,Xfi Q9Z,Vaa,h.lay,Xfh h.lay,Vdt,Vbg,decide_eq_true QGG,if_true,Xtq h]
def Enc.inF(h:Enc α f g k)(B:k<=60)(x:α)(ys:List α)[Decidable QfG](S:Sto):inD S QxD (.fro QvP)=yz (decide QfG):=by simp[inD,Xaf,h.dat,Yi,Xfi Q9Z,Vaa,h.lay,Xfh h.lay,Vdt,Vbg,decide_eq_true QGG,if_true,Xtq h]
universe e
def Xap{o:Co}{x y:D}{S:Sto}{b:Bool}(h:Xa9 o x y S=yz b):Xw o x y S=.ok QMF S:=by unfold Xw;rw[h]
def Xdh{x y:D}{S:Sto}{b:Bool}(h:eqD S x y=yz b):Xw .ne x y S=.ok Qgb S:=Xap Q2P
def Xee{x y:D}{S:Sto}{b:Bool}(h:inD S x y=yz b):Xw .notin x y S=.ok Qgb S:=Xap Q2P
def Xp6(a b:LI)(S:Sto):eqD S Q9T QuX=yz (decide QxS):=enc_row.eq Q1 QB2 a b S
def Xy0(a b:LL)(S:Sto):eqD S (rwF a) (rwF b)=yz (decide QxS):=enc_rwF.eq Q1 QB2 a b S
def Ycm(a b:LL)(S:Sto):eqD S (Xb a) (Xb b)=yz (decide QxS):=enc_net.eq Q1 QB2 a b S
def Xef(a b:Int)(S:Sto):eqD S Qz7 (.int b)=yz (decide QxS):=enc_int.eq Q1 QB2 a b S
def X64(a b:LI)(S:Sto):eqD S (.fro QLK) (.fro (b.map D.int))=yz (decide QxS):=enc_int.fro.eq Q1 QB2 a b S
def Xhd(x:Int)(l:LI)(S:Sto):inD S QlW QL6=yz (decide QSf):=enc_int.inT Q1 x l S
def Ycn(a:LI)(n:LL)(S:Sto):inD S Q9T QmN=yz (decide (a∈n)):=enc_row.inF Q1 a n S
def Xp7(xs:LD)(S:Sto):eqD S Q5A QaM=yz xs.isEmpty:=by
 cases xs with
 |nil=>exact Xy0 [] [] S|cons x xs=>
  let hl:Xja S Qab QaM=yz false:=rfl;unfold eqD;rw[show Xgq Qab QaM=yy from rfl];dsimp;split
  ·rename_i p q e1 e2;split
   ·let:q=.list []:=by
     let:Xaf S QaM=yz (.list []):=rfl;rw[this]at e2;cases e2;rfl
    subst this;cases e:datFs Q4M QMA with
    |none=>simp[Xaf,Yi,e,Option.map_none]at e1;cases e1|some ps=>
     simp[Xaf,Yi,e,Vaa]at e1;cases e1;cases ps with
     |nil=>simp[datFs]at e;split at e<;>cases e|cons q ps=>rw[Vdk,Vf6];rfl
   exact hl
  calc hl
abbrev wh:D->Bool
 |.int _=>yx|_=>yw
abbrev wi(d:D)(B hi:Int):Bool:=match d with
 |.int i=>decide Qhh&&decide (i<=hi)|_=>yw
section
variable{F:Fn}{G:LD}
def Xeu{d:D}(h:pd d=yx)(S:Sto):den F G Xga [d] S=.ok QE9 S:=by
 calc Xs rfl ?_ rfl;cases d with
 |ref _=>cases h|fn _ _=>cases h|_=>rfl
def Xvv{i:Nat}{d:D}{B hi:Int}{S:Sto}(h:F i [d] S=.ok QE9 S):den F G (Xbw i) QBR S=.ok QsQ S:=by
 let:=Xb4 (F:=F) (G:=G) (env:=[yz d,yz Q9f,yz (.int hi)]) (b:=.chn .le .le Q2 Q4 Q9) (y:=wi d B hi) Q3Y λL=>by
  cases d with
  |int i=>show(match Xa9 .le Q9f Q61 S with|some yx=>_|some yw=>_|none=>_:R D)=_;simp[Xa9,wi];cases decide Qhh<;>rfl|_=>cases L
 calc Xs rfl (Xn (this.trans ?_)) rfl;cases d<;>rfl
universe e
abbrev chn{α:Type}(r:α->α->Bool):List α->Bool
 |a::b::l=>r a b&&chn r QmX|_=>yx
def Xmi{α β:Type}{r:β->β->Bool}(f:α->β):∀l:List α,chn r QqD=chn (λa b=>r (f a) (f b)) l
 |[]=>rfl|[_]=>rfl|a::b::l=>by let:=Xmi (r:=r) f QmX;rw[Uh]at this;rw[Uh,Uh,chn,this,chn]
def Xtr{α:Type}{r:α->α->Bool}:∀l:List α,((l.zip Q2Q).all λp=>r p.1 p.2)=chn r l
 |[]=>rfl|[_]=>rfl|a::b::l=>by let:=Xtr (r:=r) QmX;rw[chn,<-this];rfl
abbrev riz:LI->Bool:=chn λa b=>decide Q4g
abbrev rzL:LL->Bool:=chn ltL
def Xp8{α:Type}(xs:List α)(n:Nat):cut xs QUF yy=xs.drop n:=by
 unfold cut;let h1:Xd0 QL 0 QUF=min n QL:=by simp![Xd0]
 rw[h1];simp[Xd0];by_cases c:n<=lg xs;·rw[Vc1 c];exact Va9 QA
 ·rw[Nat.min_eq_right Q0,List.drop_length,Vhm Q0];simp!
abbrev prZ(p:D×D):D:=.tup QHf
def Xts(xs ys:LD)(S:Sto)(i:Nat):(Src.zpp Q7A (.con ys)).get S i=yz QWW[i]?:=by
 simp[Src.get];induction xs generalizing ys i with
 |nil=>cases ys[i]?<;>rfl|cons x xs ih=>
  cases ys with
  |nil=>cases QMA[i]?<;>rfl|cons y ys=>
   cases i with
   |zero=>rfl|succ i=>calc ih ys i
section
variable{F:Fn}{G:LD}
def Xkr(xs:LD)(lt:D->D->Bool)(h:∀x∈xs,∀y∈xs,ltD x y=yz (lt x y))(hl:QL<=big)(S:Sto):den F G Xbz QBV S=.ok (.bl (chn lt xs)) S:=by
 calc Xs rfl (Xn ?_) rfl;let L:=X1 (F:=F) (G:=G) (env:=QUC) (S:=S) (Xie (n:=3) (t:=.tup [2,3]) (it:=.zpp Qq8) (ifs:=.nil) (elt:=.cmp .lt Q9 QE) (src:=.zpp Q7A (.con QpY)) ((xs.zip QpY).map prZ)
  (λd=>match d with|.tup Q2H=>[yz Q21,yy,yz a,yz b]|_=>[]) Qp9 (λd=>match d with|.tup Q2H=>.bl Q2e|_=>.non)
  (by rw[<-Xp8 xs 1];rfl) (Xts xs _ S) (by rw[Ve,Vil];calc Vi _) Q7O
  (λx B=>by let⟨p,_,rfl⟩:=Vm.mp B;rfl) (λx B y hy=>by let⟨p,_,rfl⟩:=Vm.mp B;let⟨q,_,rfl⟩:=Vm.mp hy;rfl)
  QB2 (λx B _=>by
   let⟨p,hp,rfl⟩:=Vm.mp B;let:=Via (show(p.1,p.2)∈_ from hp);calc Xap (h p.1 this.1 p.2 (Veq this.2)))) (Xd8 λy hy=>by
   let⟨x,B,rfl⟩:=Vm.mp hy;let⟨p,_,rfl⟩:=Vm.mp Q4d.1;rfl)
 calc(X8 L).trans ?_;rw[Vgc.mpr λ_ _=>rfl,Var];let e:(λd:D=>match d with|.tup Q2H=>D.bl Q2e|_=>.non)∘prZ=λp=>.bl (lt p.1 p.2):=rfl;rw[e];simp[X2,Xi,Uy,Xig,Vfq,<-Xtr];rfl
def Xy1(l:LI)(hl:QF8<=big)(S:Sto):den F G Xbz QcI S=.ok Q2X S:=by let:=Xkr (F:=F) (G:=G) QQ (λa b=>match a,b with | .int i,.int j=>decide (i<j)|_,_=>yw) (λx B y L=>by let⟨i,_,rfl⟩:=Vm.mp B;let⟨j,_,rfl⟩:=Vm.mp L;rfl) QA6 S;rw[Xmi]at this;calc this
def Xy2(n:LL)(hl:Qz5<=big)(S:Sto):den F G Xbz Q34 S=.ok Q1X S:=by let:=Xkr (F:=F) (G:=G) Qm (λa b=>ltL (Xh a) (Xh b)) (λx B y L=>by let⟨i,_,rfl⟩:=Vm.mp B;let⟨j,_,rfl⟩:=Vm.mp L;rw[ints_of,ints_of];simp[Xa,ltD,Yw]) QA6 S;rw[Xmi]at this;simp[ints_of]at this;calc this
abbrev Yk(d:D):Bool:=match d with
 |.tup xs=>decide Qca&&(Q8K&&riz QNe)|_=>yw
def Xmj:∀ {xs:LD} {B hi:Int},(xs.all λx=>wi x B hi)=yx->∃l:LI,xs=l.map D.int/\∀x∈l,B<=x/\x<=hi
 |[],_,_,_=>⟨[],rfl,λx L=>by cases L⟩|x::xs,B,hi,h=>by
  rw[Vaw,bA0]at h;let⟨l,rfl,hl⟩:=Xmj h.2;cases x with
  |int i=>let:=h.1;simp[wi,bA0,decide_eq_true_eq]at this;calc⟨i::l,rfl,λy hy=>(Vr.mp hy).elim (λz=>z▸this) (hl y)⟩|_=>cases h.1
def Xn9{xs:LD}{x:D}(h:pd Q21=yx)(B:x∈xs):pd x=true:=pds_iff.mp h x B
def Xrh{ir iw g1 g2:Nat}{d:D}(h1:G[g1]?=yz QVM)(h2:G[g2]?=yz QOE)(hw:∀d,pd d=yx->∀S,F iw [d,.int 0,.int 15] S=.ok (.bl (wi d 0 15)) S)(hr:∀l S,lg l<=big->F ir QcI S=.ok Q2X S)(hd:pd d=yx)(S:Sto):
  den F G (Xdd ir iw g1 g2) [d] S=.ok QL7 S:=by
 cases d with
 |ref _=>cases hd|fn _ _=>cases hd|tup xs=>
  let c:ev F G (.or Qb0 (.cmp .gt QK0 QZd)) QUC S=.ok (.bl (!decide Qca)) S:=by calc(Xbv (x:=yw) (y:=decide ((6:Int)<lg xs)) rfl λ_=>Yn (S1:=S) (S2:=S) (y:=.int 6) (x:=.int QL) rfl (Xko h2)).trans ?_;congr 2;rw[Bool.false_or,<-decide_not,decide_eq_decide];omega
  calc Xs rfl QX3 rfl;by_cases B:QL<=6
  ·rw[decide_eq_true B]
   calc Xn ?_;let a:=Xb4 (F:=F) (G:=G) (env:=QUC) (b:=.call ir Qf) (y:=riz QNe) (Xn8 (n:=2) (i:=2) (it:=.val Q4) (elt:=.call iw QDA) xs (λx=>wi x 0 15) (S:=S) rfl QO9 λx hx=>by
    let:ev F G (.call iw QDA) [yz Q21,yy,yz x] S=F iw [x,.int 0,.int 15] S:=ond (Xc QFW (Xc rfl (Xc (Xko h1) Yd))) rfl;calc this.trans (hw x QWH S)) λL=>by
    let⟨l,rfl,_⟩:=Xmj L;exact Qc.trans ((hr l S (by rw[<-Ve (f:=D.int)];calc Xk Q0)).trans (by rw[show Xh QsH=l from ints_of l]))
   calc a.trans ?_;simp[Yk,decide_eq_true B,Vbg]
  rw[decide_eq_false B];simp[Yk,decide_eq_false B,Vcg];rfl|_=>calc Xs rfl rfl rfl
abbrev lie(a b:LI):Bool:=a.all λx=>decide QTB
def X2l(a b:LI)(S:Sto):den F G Xhb QG4 S=.ok QB3 S:=by
 let⟨B,_,h⟩:=Xyx (F:=F) (G:=G) (env:=[yz Q9T,yz QuX,yy]) (S:=S) (i:=2) (it:=.val Q4) (ss:=.cons Qr6 .nil) (v:=.bl yw) (b:=.cons QTD .nil) QLK (λd=>match d with|.int x=>decide QTB|_=>yw) rfl λd hd=>by
  let⟨x,_,rfl⟩:=Vm.mp hd;calc(Yu (v:=.bl yw) (S1:=S) (t:=!decide QTB) (by calc Xee QTZ) rfl).trans ?_;show(if Q7X=yx then _ else _)=if decide QTB=yx then _ else _;by_cases h:x∈b;·rw[decide_eq_true h];rfl
  ·rw[decide_eq_false h];rfl
 calc Xs rfl (h.trans ?_) rfl;rw[Vfq];unfold lie;show(if (a.all λx=>decide QTB)=yx then _ else _)=_;cases a.all λx=>decide QTB<;>rfl
abbrev liA(n:LL)(f:LI):Bool:=n.any λs=>lie f s && !decide (f=s)
theorem Xhe(d:D)(n:LL):Prop:=d=Xb n\/d=rwF n
def Xcw{d:D}{n:LL}{e:Ex}{env:En}{S:Sto}(h:Xhe d n)(B:ev F G e env S=.ok d S):evit F G Qxe env S=.ok (.con Qm) S:=by calc ond B ?_;rcases h with rfl|rfl<;>rfl
def Xjs(n:LL)(q:LI->Bool):Qm.any QRF=n.any q:=by rw[List.any_map];congr 1;funext s;calc congrArg q Q7Z
def X2m(n:LL)(q:LI->Bool):Qm.all QRF=n.all q:=by rw[Vfq];congr 1;funext s;calc congrArg q Q7Z
def X65{il:Nat}{f:LI}{n:LL}{d:D}{S:Sto}(hd:Xhe d n)(hl:∀a b S,F il QG4 S=.ok QB3 S)(B:Qz5<=big):den F G QUe Q6h S=.ok Q6I S:=by
 calc Xs rfl (Xn ((Xvu (n:=2) (i:=3) (it:=.val Q2) Qm (λs=>lie f Qoc && !decide (f=Xh s)) QrX Q8F λs hs=>?_).trans ?_)) rfl;·let⟨r,_,rfl⟩:=Vm.mp hs;rw[ints_of];exact Xb4 (hl f r S) λ_=>Xdh (Xp6 f r S)
 ·rw[Xjs n λs=>lie f s && !decide (f=s)];rfl
abbrev Xge(n:LL):Bool:=n.any (liA n)
def Xvw{il:Nat}{n:LL}{S:Sto}(hl:∀f S,F il [Xa f,Xb n] S=.ok Q6I S)(B:Qz5<=big):den F G (Xe3 il) Q34 S=.ok Q3X S:=by
 calc Xs rfl (Xn ((Xvu (n:=2) (i:=2) (it:=.val Q4) Qm (λs=>liA n Qoc) rfl Q8F λs hs=>?_).trans ?_)) rfl;·let⟨r,_,rfl⟩:=Vm.mp hs;rw[ints_of];exact hl r S
 ·rw[Xjs];rfl
abbrev Y2(d:D):Bool:=match d with
 |.tup xs=>(decide QIF&&decide QvC)&&(xs.all Yk&&(rzL QLA && !Xge QLA))|_=>yw
def Xfj{d:D}(h:Yk d=yx):∃l,d=Xa l/\QF8<=6/\(∀x∈l,0<=x/\x<=15)/\riz l=true:=by
 cases d with
 |tup xs=>simp[Yk,bA0,decide_eq_true_eq]at h;let⟨l,rfl,hl⟩:=Xmj h.2.1;calc⟨l,rfl,by simpa using h.1,hl,?_⟩;let:=h.2.2;rwa [show Xh QsH=l from ints_of l]at this|_=>cases h
def Xjt:∀ {xs:LD},xs.all Yk=yx->xs=QLA.map Xa
 |[],_=>rfl|x::xs,h=>by rw[Vaw,bA0]at h;let⟨l,rfl,_⟩:=Xfj h.1;rw[Uh,Uh,<-Xjt h.2,ints_of]
def X32{a b c:Ex}{env:En}{S:Sto}{x y z:Int}(B:ev F G a env S=.ok QlW S)(hb:ev F G b env S=.ok QkW S)(L:ev F G c env S=.ok (.int z) S):ev F G (.chn .le .le a b c) env S=.ok (.bl (decide Qrb&&decide (y<=z))) S:=by
 calc ond B (ond hb ?_);show(match yz (decide Qrb) with|some yx=>_|some yw=>_|none=>_)=_;cases decide Qrb;·rfl
 ·calc ond L rfl
def Xy3{ia ir is g:Nat}{d:D}(hg:G[g]?=yz QSd)(ha:∀d,pd d=yx->∀S,F ia [d] S=.ok QL7 S)(hr:∀n S,lg n<=big->F ir Q34 S=.ok Q1X S)(hs:∀n S,lg n<=big->F is Q34 S=.ok Q3X S)(hd:pd d=yx)(S:Sto):
  den F G (Xjr is ir ia g) [d] S=.ok QvB S:=by
 cases d with
 |ref _=>cases hd|fn _ _=>cases hd|tup xs=>
  let c:ev F G (.or Qb0 (.not (.chn .le .le Q6 QK0 (.glb g)))) QUC S=.ok (.bl (!(decide QIF&&decide QvC))) S:=by calc(Xbv (x:=yw) rfl λ_=>Yv (X32 rfl (show ev F G QK0 QUC S=.ok Q4A S from rfl) (z:=60) (Xko hg))).trans ?_;rw[Bool.false_or];congr 4<;>exact decide_eq_decide.mpr Q0
  calc Xs rfl QX3 rfl;cases hz:(decide QIF&&decide QvC) with
  |false=>simp[Y2,hz,Vcg];rfl|true=>
   let hl:QL<=60:=by rw[bA0]at hz;exact oD0 hz.2
   calc(Yu (F:=F) (G:=G) (env:=QUC) (S:=S) (Yv (Xn8 (n:=2) (i:=2) (it:=.val Q4) (elt:=.call ia Qi) xs Yk rfl QO9 λx hx=>ha x QWH S)) rfl).trans ?_;cases e:xs.all Yk with
   |false=>simp[Y2,hz,e,Vcg];rfl|true=>
    let en:=Xjt e;let L:QLA.length<=big:=by rw[Ve];exact Xk Q0
    let B:D.tup xs=Xb QLA:=congrArg D.tup en;simp[Y2,hz,e,Vbg];calc Xn (Xb4 (x:=rzL QLA) QVW λ_=>Yv QVW);·rw[B];exact hr _ S L
    ·rw[B];calc hs _ S L
 |_=>calc Xs rfl rfl rfl
def Xy4{is:Nat}{d:D}{S:Sto}(h:F is [d] S=.ok QvB S):den F G QTe [d] S=if Y2 d then .ok .non S else .ex QD QDE:=by
 let c:pe F G QTe.body QPa S=if !Y2 d then .ex QD QDE else pe F G .nil QPa S:=Xkn (Yv Q3Y);cases e:Y2 d with
 |true=>rw[e]at c;calc Yck (env0:=QPa) rfl c|false=>rw[e]at c;calc Xeb (env0:=QPa) rfl c
abbrev Xaa(n:LL)(d:D):Bool:=Yk d&&n.any λs=>lie Qz9 s
def Xri{il ia:Nat}{n:LL}{d:D}{S:Sto}(hl:∀a b S,F il QG4 S=.ok QB3 S)(L:F ia [d] S=.ok QL7 S)(hn:Qz5<=big):den F G QUZ QoE S=.ok QoT S:=by
 calc Xs rfl (Xn (Xb4 (x:=Yk d) (y:=n.any λs=>lie Qz9 s) (Qh7.trans L) λB=>?_)) rfl;let⟨l,rfl,_⟩:=Xfj B;calc(Xvu (n:=2) (i:=3) (it:=.val Q4) Qm (λs=>lie l Qoc) rfl QGQ λs hs=>?_).trans ?_;·let⟨r,_,rfl⟩:=Vm.mp hs;rw[ints_of];exact hl l r S
 ·rw[Xjs n λs=>lie l s,ints_of]
variable{S S1:Sto}{env:En}
def Yfc{t:Tg}{it:It}{b ss:Sts}{src:Src}{B:En}{S':Sto}(hi:evit F G it env S=.ok src S1)(h:Y0 src.get t (λenv S=>pe F G b env S) QE8 0 env S1=.ok Q2h S'):pe F G QtJ env S=pe F G ss B S':=Xct (ond hi h)
def Xbh{t:Tg}{it:It}{b ss:Sts}(zs:LD)(P:Nat->En->Sto->Prop)(hi:evit F G it env S=.ok QsB S1)(h0:P 0 env S1)
  (L:∀i x e S,zs[i]?=yz x->P i e S->∃e1 e2 S',Xx t x e=yz e1/\pe F G b e1 S=.ok Q5f S'/\P QX2 e2 S'):∃B S',pe F G QtJ env S=pe F G ss B S'/\P QTA B S':=by
 let⟨B,S',h1,h2⟩:=Xtp (get:=QA9.get) (t:=t) (body:=λenv S=>pe F G b env S) zs P QGR L QZT 0 env S1 Qe6 QS8 h0;calc⟨B,S',Yfc hi h1,h2⟩
universe e
def Xfk{α:Type}{P:List α->Prop}(B:P [])(h1:∀l x,P l->P Q4e)(l:List α):P l:=by
 rw[<-List.reverse_reverse l];induction l.reverse with
 |nil=>calc B|cons x r ih=>rw[List.reverse_cons];calc h1 _ _ ih
abbrev prt(l:LI):LL:=l.foldl (λps x=>ps++ps.map QOf) [[]]
def Xju(l:LI)(x:Int):prt Q4e=prt l++QqN.map QOf:=by unfold prt;rw[Vcy];rfl
def Xmk(l:LI):QqN.length=2^QF8:=by calc Xfk (P:=λl=>QqN.length=2^QF8) rfl (λl x ih=>?_) l;·rw[Xju,Ub,Ve,ih,Ub,Vdb,Vgl];omega
def mem_prt{k l:LI}:k∈prt l ↔ k.Sublist l:=by
 calc Xfk (P:=λl=>∀k:LI,k∈prt l ↔ k.Sublist l) (λk=>?_) (λl x ih k=>?_) l k;·rw[List.sublist_nil];exact Vw
 ·rw[Xju,Um,Vm,ih];constructor
  ·rintro (h|⟨a,h,rfl⟩);·exact h.trans (List.sublist_append_left l [x])
   ·exact(QHc.mp h).append (Vfk _)
  intro h;let⟨a,b,rfl,B,L⟩:=List.sublist_append_iff.mp h;cases L with
  |cons _ h=>cases h;calc .inl (by rw[Va4];calc B)|cons_cons _ h=>cases h;calc .inr ⟨a,(ih a).mpr B,rfl⟩
def Xay{α:Type}{xs:List α}{i:Nat}{x:α}(h:xs[i]?=yz x):xs.take QX2=xs.take i++[x]:=by rw[List.take_add_one,h];rfl
def Xaz{α:Type}(xs:List α):xs.take QL=xs:=Vez
section
variable{F:Fn}{G:LD}
def X66(a b:LI)(h:QYX+lg b<=big)(S:Sto):Xl .add Q9T QuX S=.ok (Xa QZc) S:=by unfold Xa;simp[Xl,Ve,iP0 h,Vak]
def Xii(a b:LD)(h:QYX+lg b<=big)(S:Sto):Xl .add (.fro a) (.fro b) S=.ok Q7 (S++[.lst QZc]):=by simp[Xl,lsD,iP0 h]
def Xy5(l:LI)(hl:QF8<=6)(S:Sto):den F G Xgc QcI S=.ok Qyb S:=by
 let⟨e',S',h1,rfl,x,rfl⟩:=Xbh (F:=F) (G:=G) (env:=[yz QL6,yz (rwF [[]]),yy]) (S:=S) (S1:=S) (t:=.var 2) (it:=.val Q4) (ss:=.cons QPd .nil)
  (b:=.cons Qn2 .nil)
  QQ (λi e S'=>S'=S/\∃x,e=[yz QL6,yz Qzb,x]) rfl Qt5 (λi d e S' hd he=>by
   let⟨rfl,x,rfl⟩:=he;rw[Ud]at hd;let⟨y,L,rfl⟩:=Ug.mp hd;let hi:=QBM.1;let hz:Qe5.length<=64:=by rw[Xmk,Vah];exact Ves (n:=2) Q1 (show min i QF8<=6 by omega)
   let hm:∀k∈prt (l.take i),lg k<=6:=λk B=>V5 (mem_prt.mp B).length_le Qe9;let c:=Xif (F:=F) (G:=G) (env:=[yz QL6,yz Qzb,yz QkW]) (S:=S') (n:=2) (i:=4) (it:=.val Q2) (elt:=.bin .add Qq QKd) Q2Y QWL rfl QdB (λd hd=>by let⟨k,B,rfl⟩:=Vm.mp hd;rw[ints_of];let:=hm k B;calc X66 k [y] (Xk (by rw[Vdb];omega)) S') (λd _=>Yb _ _);let e2:Q2Y.map QWL=(Qe5.map (·++[y])).map Xa:=by rw[Var,Var];congr 1;funext k;simp[Vhu,ints_of]
   rw[e2]at c;calc⟨_,_,S',rfl,Xm (X1 (xs:=(prt (l.take QX2)).map Xa) ((X7 (a:=.var 1) rfl c).trans ((Xii _ _ ?_ S').trans ?_)) QP1),rfl,_,rfl⟩;·simp[Ve];exact Xk Q0
   ·rw[Xay L,Xju,Vak])
 rw[Ve,Xaz]at h1;calc Xs rfl ((Xm (i:=1) (e:=.frz QRd) (v:=rwF [[]]) (X1 rfl rfl)).trans (h1.trans QIe)) Q1M
abbrev fcA(n:LL):LL:=n.foldl (λB s=>QFH.foldl ddR B) []
abbrev fcs(n:LL):LL:=Xy QVA
def X67(B:LL)(k:LI):QqS.length<=lg B+1:=by
 unfold ddR;split;·omega
 ·rw[Ub];calc Vi _
def Xij:∀(ks B:LL),QOR.length<=lg B+lg ks
 |[]=>λB=>Vi _|k::ks=>λB=>by let h1:=Xij ks QqS;let h2:=X67 B k;rw[Vb0,Ux];omega
def Xgf(n:LL)(s:LI):fcA (n++[s])=QFH.foldl ddR QVA:=by unfold fcA;rw[Vcy];rfl
def Xml{n:LL}(h:∀s∈n,lg s<=6):QVA.length<=64*lg n:=by
 revert h;exact Xfk (P:=λn=>(∀s∈n,lg s<=6)->QVA.length<=64*lg n) (λ_=>Vaq _) (λn s ih h=>?_) n
 ·let h1:=ih λt B=>h t QDM;let h2:=Xij QFH QVA;let L:QFH.length<=64:=by rw[Xmk];exact Ves (n:=2) Q1 Q8e
  rw[Xgf,Ub,Vdb];omega
def Xa0(S:Sto)(a b:O):Qoe.set QD b=S++[b]:=by rw[Vfp _ _ Qd];simp!
def Yy(S:Sto)(a:O):Qoe[lg S]?=yz a:=by simp!
def Xp9{L:Nat}{n:LL}(hp:∀l S,lg l<=6->F L QcI S=.ok Qyb S)(hs:∀s∈n,lg s<=6)(hn:Qz5<=15)(S:Sto):den F G (Xe4 L) Q34 S=.ok QVB S:=by
 let sa:∀(ks:LL) (k:LI),Xbm (S++[.st ks]) QD=yz ks:=λks _=>by unfold Xbm;rw[Yy]
 let⟨e',S',h1,rfl,x,y,rfl⟩:=Xbh (F:=F) (G:=G) (env:=[yz Q70,yz Q7,yy,yy]) (S:=S++QDR) (S1:=S++QDR) (t:=.var 2) (it:=.val Q4) (ss:=.cons QhK .nil)
  (b:=.cons (.for QE (.val QqF) QnR) .nil)
  Qm (λi e S'=>S'=S++QDV/\∃x y,e=QAR) rfl ⟨rfl,yy,yy,rfl⟩ (λi d e S' hd he=>by
   let⟨rfl,x,y,rfl⟩:=he;rw[Ud]at hd;let⟨s,hy,rfl⟩:=Ug.mp hd;let B:=hs s (V7 hy);let hi:=(Vk.mp hy).1;let b1:QPH.length<=64*i:=V5 (Xml λt ht=>hs t (Vdn ht)) Qe9;let b2:QFH.length<=64:=by rw[Xmk];exact Ves (n:=2) Q1 B
   let⟨e2,S2,g1,rfl,z,rfl⟩:=Xbh (F:=F) (G:=G) (env:=[yz Q70,yz Q7,yz QcH,y]) (S:=S++QDV) (S1:=S++QDV) (t:=.var 3) (it:=.val QqF) (ss:=.nil) (b:=.cons QSC .nil)
    (QFH.map Xa) (λj e S'=>S'=S++[.st Qs1]/\∃z,e=[yz Q70,yz Q7,yz QcH,z]) (Xcw QP3 QyB) ⟨rfl,y,rfl⟩ (λj d e S' hd he=>by
     let⟨rfl,z,rfl⟩:=he;rw[Ud]at hd;let⟨k,hk,rfl⟩:=Ug.mp hd;let hj:=(Vk.mp hk).1;let b3:=Xij (QFH.take j) QPH;rw[Vah]at b3;calc⟨_,[yz Q70,yz Q7,yz QcH,yz (Xa k)],_,rfl,Xbg (v:=.non) ?_,by rw[Xay hk,Vcy],_,rfl⟩;let e1:Xjd QaU Q7=true:=by unfold Xjd;dsimp;rw[sa _ k];rfl
     let e2:Xey Q7 [Xa k] QaU=.ok .non (S++[.st (ddR Qs1 k)]):=by simp[Xey,Xa,sa _ k,Yw];rw[iP0 Q0,Xa0]
     show(if Xjd _ _=yx then _ else _:R D)=_
     rw[iP0 e1];calc e2)
   rw[Ve,Xaz]at g1;calc⟨_,_,_,rfl,g1,by rw[Xay hy,Xgf],_,_,rfl⟩)
 rw[Ve,Xaz]at h1;let b:=Xml hs;let r:ev F G (.srs Q2) QAR (S++QCV)=.ok (.ref (S++[O.st QVA]).length) (S++QCV++[.lst Q6Y]):=by show Xoj Q7 _=_;unfold Xoj;dsimp;rw[sa _ []];dsimp;rw[iP0 Q0];rfl
 calc Xa2 (X:=QCV) rfl (h1.trans (Xn (X1 r QP1))) .rfl' Q1M
def Xhf(n:LL)(q:LI->Bool):(Qm.filter λd=>q Qz9).map Qq7=(n.filter q).map Xa:=by rw[Vgu,Vdo];congr 1;apply List.filter_congr;intro s _;simp[Vhu,ints_of]
def Xcx(n:LL):(Xy n).length=lg n:=QVg.length_eq
universe e
def Xqa{α:Type}{r:α->α->Bool}(tr:∀a b c,r a b=yx->r b c=yx->r a c=yx):∀l:List α,chn r l=yx ↔ l.Pairwise λa b=>r a b=yx
 |[]=>⟨λ_=>.nil,λ_=>rfl⟩|[a]=>⟨λ_=>Vbx _ _,λ_=>rfl⟩|a::b::l=>by
  rw[chn,bA0,Xqa tr QmX];constructor
  ·rintro ⟨h1,h2⟩;calc Vai.mpr ⟨λz hz=>?_,h2⟩;rcases Vr.mp hz with rfl|hz;·exact h1
   ·exact tr _ _ _ h1 ((Vai.mp h2).1 z hz)
  intro h;calc⟨Q5b.1 b V6,Q5b.2⟩
def Xqb(l:LI):riz l=yx ↔ l.Pairwise Qu1:=by calc(Xqa (r:=λa b:Int=>decide Q4g) (λa b c h1 h2=>decide_eq_true (Int.lt_trans Q1e Q0e)) l).trans ?_;calc⟨λh=>h.imp oD0,λh=>h.imp decide_eq_true⟩
def Xqc(l:LL):rzL l=yx ↔ PwL l:=Xqa Xg3 l
def PwL.nodup{l:LL}(h:PwL l):l.Nodup:=h.imp λ{a b} h e=>by subst e;rw[Xh6]at h;cases h
def Xqd:∀(l B:LL),(B++l).Nodup->l.foldl ddR B=B++l
 |[]=>λB _=>by simp!|k::l=>λB h=>by
  let L:k ∉ B:=λz=>by rw[Vb9]at h;exact h.2.2 k z k V6 rfl
  rw[Vb0];let e:ddR B k=B++[k]:=by unfold ddR;rw[iN0 L]
  rw[e,Xqd l (B++[k]) (by rw[Uj];calc h),Uj];rfl
def Xy6(l:LL):PwL l ↔ Xy (ddL l)=l:=by
 constructor;·intro h;let e:ddL l=l:=Xqd l [] h.nodup;rw[e];exact Xlu (Xas l) (Xbo l h.nodup) h
 ·intro h;rw[<-h];calc Xbo _ (Xfb l)
def Xqe{α:Type}{r:α->α->Prop}(as:∀a b,r a b->r b a->False):∀ {l m:List α},l.Pairwise r->m.Pairwise r->(∀x,x∈l ↔ x∈m)->l=m
 |[],[],_,_,_=>rfl|[],b::m,_,_,h=>aB0 QwU QA|a::l,[],_,_,h=>aB0 Q5X QA|a::l,b::m,h1,h2,h=>by
  rw[Vai]at h1 h2;let e:a=b:=by
   rcases Vr.mp Q5X with e|ha;·exact e
   ·rcases Vr.mp QwU with e|hb;·exact e.symm
    ·exact(as _ _ (h1.1 b hb) (h2.1 a ha)).elim
  subst e;rw[Xqe as h1.2 h2.2 λx=>⟨λB=>?_,λB=>?_⟩]
  ·rcases Vr.mp (Qwf.mp Q17) with e|L;·subst e;exact(as _ _ Qka Qka).elim
   ·exact L
  rcases Vr.mp (Qwf.mpr Q17) with e|L;·subst e;exact(as _ _ Qja Qja).elim
  ·calc L
def Xgg{l m:LI}(h1:l.Pairwise Qu1)(h2:m.Pairwise Qu1)(h:∀x,x∈l ↔ x∈m):l=m:=Xqe (λa b h1 h2=>by omega) h1 h2 h
def Xik{l m:LL}(h1:PwL l)(h2:PwL m)(h:∀x,x∈l ↔ x∈m):l=m:=Xqe (λa b h1 h2=>by let:=Xg3 a b a h1 h2;rw[Xh6]at this;cases this) h1 h2 h
def X68(l:LI):(QC0.filter QVL=l) ↔ ((l.all λx=>decide Qkh&&decide QUf)&&riz l)=true:=by
 let pw:QeE.Pairwise Qu1:=(Vhg.mpr (List.pairwise_lt_range.imp λh=>Int.ofNat_lt.mpr h)).filter _;let mem:∀x,x∈QC0.filter QVL ↔ (0<=x/\x<=15)/\x∈l:=λx=>by
  rw[Ui,Vm,decide_eq_true_eq];constructor;·rintro ⟨⟨n,hn,rfl⟩,h⟩;let:=Va1.mp hn;exact⟨⟨Vgv n,by omega⟩,h⟩
  ·rintro ⟨⟨B,h1⟩,h⟩;exact⟨⟨x.toNat,Va1.mpr Q0,by omega⟩,h⟩
 rw[bA0,Uc,Xqb];constructor;·intro e;rw[e]at pw mem;calc⟨λx L=>?_,pw⟩;let⟨⟨B,h1⟩,_⟩:=(mem x).mp L;rw[decide_eq_true B,decide_eq_true h1];rfl
 ·rintro ⟨h1,h2⟩;calc Xgg pw h2 λx=>?_;rw[mem];calc⟨λh=>h.2,λh=>⟨?_,h⟩⟩;let:=h1 x h;rw[bA0,decide_eq_true_eq,decide_eq_true_eq]at this;calc this
abbrev Xvx(l:LL):Bool:=l.all λs=>decide ((l.filter λt=>lie s t).length=1)
def Xmm{α:Type}{p:α->Bool}{a:α}{l:List α}(nd:l.Nodup)(ha:a∈l)(hp:p a=yx):QZX.length=1 ↔ ∀t∈l,p t=yx->t=a:=by
 let hm:a∈l.filter p:=Ui.mpr ⟨ha,hp⟩;let nf:QZX.Nodup:=nd.filter _;constructor;·intro h t ht aa;let⟨x,e⟩:=List.length_eq_one_iff.mp h;let B:t∈l.filter p:=Ui.mpr ⟨ht,aa⟩;rw[e,Vw]at hm B;rw[hm,B]
 ·intro h;let L:∀t∈l.filter p,t=a:=λt ht=>h t Q6b.1 Q6b.2;revert hm nf L;cases l.filter p with
  |nil=>intro h;cases h|cons x r=>
   cases r with
   |nil=>intros;rfl|cons y r=>intro _ nf L;calc aB0 ((L x QA).trans (L y QA).symm) λz=>(Vdi.mp nf).1 QKV
def Xcy(s:LI):lie s s=true:=Uc.mpr λx B=>decide_eq_true B
def X69{l:LL}(nd:l.Nodup):Xvx l = !Xge l:=by
 rw[Vcd];unfold Xvx Xge;rw[Uc,Uq,Vem,ne_eq,Vbp];constructor;·rintro h ⟨s,hs,h2⟩;let⟨t,B,L⟩:=Vbp.mp h2;rw[bA0,Uq,decide_eq_false_iff_not]at L;exact L.2 (QCO.mp (oD0 Q7e) t B L.1).symm
 ·intro h s hs;calc decide_eq_true (QCO.mpr λt B h1=>Vgg λz=>h ⟨s,hs,Vbp.mpr ⟨t,B,?_⟩⟩);rw[bA0,Uq,decide_eq_false_iff_not];calc⟨h1,λe=>z e.symm⟩
section
variable{F:Fn}{G:LD}{S S1:Sto}{env:En}
def Xb6{e:Ex}{b:Bool}(h:ev F G e env S=.ok QMF S):evts F G Qk0 env S=.ok b S:=ond h (by cases b<;>rfl)
def Xbi(S:Sto)(xs:LD):lstAt QQ1 QD=yz xs:=by unfold lstAt;rw[Yy]
def X33{i:Nat}{e:Ex}{v:D}{xs:LD}(hi:env[i]?=yz QHS)(hl:QzE=lg S)(B:ev F G e env QQ1=.ok v QW8)(hz:QL<big):ev F G QFL env QQ1=.ok .non (S1++[.lst Qpb]):=by
 let L:lstAt QW8 QD=yz xs:=by rw[<-hl];exact Xbi S1 xs
 let r:Xat .append Q7 QQ1=true:=by unfold Xat;dsimp;rw[Xbi];rfl
 rw[Xf9 QJO r B];simp[Y5,lstM];let g:QqA[lg S]?=yz QD1:=by rw[<-hl];exact Yy S1 _
 simp[g,iP0 hz];rw[<-hl,Xa0]
def X34{i:Nat}{e:Ex}{v:D}{xs ys:LD}(hi:env[i]?=yz QHS)(hl:QzE=lg S)(B:ev F G e env QQ1=.ok v QW8)(L:Xi QW8 v=yz ys)(hz:QL+lg ys<=big):ev F G (.mth .xtd QJ1 Qk0) env QQ1=.ok .non (S1++[.lst QlO]):=by
 let r:Xat .xtd Q7 QQ1=true:=by unfold Xat;dsimp;rw[Xbi];rfl
 rw[Xf9 QJO r B];simp[Y5,lstM];let g:QqA[lg S]?=yz QD1:=by rw[<-hl];exact Yy S1 _
 simp[g,L,iP0 hz];rw[<-hl,Xa0]
def Xmn(S:Sto)(o:O):Sim Qne Qpe:=⟨by simp!,λj o e=>by
 by_cases h:j<lg S;·rw[Vy h]at e |-;exact .inl e
 ·rw[Vac Q0]at e;cases q:j-lg S with
  |zero=>rw[q]at e;cases e;calc .inr rfl
  |succ m=>rw[q]at e;simp! at e⟩
def Xfl{i:Nat}{xs:LD}(hi:env[i]?=yz QHS)(B:bdDs (lg S+1) xs=yx):ev F G QZb env QQ1=.ok Q5A Qpe:=by let:=Xd9 (d:=.fro xs) (Xmn S QD1) (by simpa [bdD] using B) [];rw[Va4]at this;show gcR _ (Xba (ev F G QJ1 env _))=_;rw[X5 hi];simp[Xba,Yy,Xa0];calc this
def Xy7(a b:LI)(B:QYX<=big)(S:Sto):den F G Xgd QG4 S=.ok QB3 S:=by let c:=Xdm (F:=F) (G:=G) (env:=[yz Q9T,yz QuX]) (S:=S) (n:=2) (i:=3) (it:=.val Q4) (ifs:=.cons QZO .nil) (elt:=.var 3) QLK (λd=>match d with | .int x=>!decide QTB|_=>yw) Qq7 rfl Q8F (λd hd=>by let⟨x,_,rfl⟩:=Vm.mp hd;calc Xb6 (e:=.cmp .notin QE Q2) (Xee QTZ)) QS5 QJA;calc Xs rfl (Xn (Qqa.trans (Xap (Qic.trans ?_)))) rfl;congr 1;rw[Vgu,Vdo];rw[Vcd,Vbh,Vd0,Vhn];unfold lie;rw[Uc];calc forall_congr' λx=>forall_congr' λ_=>?_;show ¬ Q7X=yx ↔ _;cases decide QTB<;>simp!
def Xvy{d:D}{n:LL}{e:Ex}{env:En}{S:Sto}(h:Xi S d=yz Qm)(hl:Q4F.length<1000)(B:ev F G e env S=.ok d S):ev F G (.frz (.sst e)) env S=.ok (rwF Q7P) S:=by
 calc X1 ?_ QP1;calc ond B ?_;rw[h];cases n with
 |nil=>rfl|cons r n=>simp[Xbs,Xih (List.cons_ne_nil r n),Xed,iP0 hl];rfl
def Xjv{d:D}{n:LL}{S:Sto}(h:Xhe d n):Xi S d=yz Qm:=by rcases h with rfl|rfl<;>rfl
abbrev grt(n:LL):LL:=Q7P.filter λf=>n.all λo=>decide Q5c || !lie f o
def ddL_mem{n:LL}{k:LI}:k∈ddL n ↔ k∈n:=by
 let L:∀(n B:LL),k∈n.foldl ddR B ↔ k∈B\/k∈n:=by
  intro n;induction n with
  |nil=>intro B;simp!|cons x n ih=>
   intro B;rw[Vb0,ih];unfold ddR;split
   ·rename_i h;constructor
    ·rintro (h|h);·exact .inl h
     ·exact .inr (V2 _ h)
    rintro (h'|h');·exact .inl h'
    ·rcases Vr.mp h' with rfl|h';·exact .inl h
     ·exact .inr h'
   simp[Um,Vw,Vr,Va5,or_false];exact or_assoc
 calc(L n []).trans QA
def srtC_mem{n:LL}{k:LI}:k∈Xy n ↔ k∈n:=QVg.mem_iff
def Xeg(n:LL):Q4F.length<=lg n:=V5 (Xij n []) QA
def Xrj{α:Type}{q:α->Bool}{xs:List α}{i:Nat}{x:α}(h:xs[i]?=yz x):(xs.take QX2).filter q=if q x then QmY.filter q++[x] else QmY.filter q:=by rw[Xay h,List.filter_append];cases e:q x<;>simp![List.filter,e]
def Xtt{il:Nat}{d:D}{n:LL}(hd:Xhe d n)(hn:Qz5<1000)(hr:∀s∈n,lg s<=big)(hl:∀a b S,lg a<=big->F il QG4 S=.ok QB3 S)(S:Sto):den F G (Xcu il) [d] S=.ok (Xb QAZ) S:=by
 let hq:∀(f:LI) (xs:LD) (S':Sto),lg f<=big->ev F G Qk1 Ql4 S'=.ok (.bl QFC) S':=λf xs S' B=>by let c:=Xdm (F:=F) (G:=G) (env:=Ql4) (S:=S') (n:=2) (i:=4) (it:=.val Q4) (ifs:=.cons (.and QuR (.call il QpU)) .nil) (elt:=.var 4) Qm (λo=>!decide (Xh o=f)&&lie f (Xh o)) Qq7 QrX QdB (λo L=>by let⟨r,_,rfl⟩:=Vm.mp L;rw[ints_of];calc Xb6 (Xb4 (a:=.cmp .ne Qq Q9) (Xdh (Xp6 r f S')) λ_=>hl f r S' B)) QS5 (λo L _=>by let⟨r,_,rfl⟩:=Vm.mp L;calc Yb _ r);calc Qqa.trans (Xap ((Xp7 _ S').trans (congrArg yz ?_)));rw[Xhf n λo=>!decide Q5c&&lie f o,Vcd,Vbh,Vd0,Vhn,Uc];exact forall_congr' λo=>forall_congr' λ_=>?_;cases decide Q5c<;>cases lie f o<;>simp!
 let⟨e',S',h1,rfl,x,rfl⟩:=Xbh (F:=F) (G:=G) (env:=[yz d,yz Q7,yy]) (S:=S++Q44) (S1:=S++Q44) (t:=.var 2) (it:=.val Qk5) (ss:=.cons Q22 .nil)
  (b:=.cons (.ite Qk1 QEB .nil) .nil)
  (Q7P.map Xa) (λi e S'=>S'=S++Qjd/\∃x,e=QGX) (Xcw QP3 (Xvy (Xjv hd) QTT rfl)) Qt5 (λi y e S' hy he=>by
   let⟨rfl,x,rfl⟩:=he;rw[Ud]at hy;let⟨f,B,rfl⟩:=Ug.mp hy;let mf:f∈n:=ddL_mem.mp (srtC_mem.mp Q2d);let hc:=hq f [] (S++Qjd) (hr f mf);calc⟨Ql4,Ql4,S++[.lst (((Q7P.take QX2).filter λf=>n.all λo=>decide Q5c || !lie f o).map Xa)],rfl,(Xbu hc).trans ?_,rfl,_,rfl⟩;rw[Xrj B];cases q:QFC with
   |false=>rfl|true=>
    simp[if_true];let lz:QF1.length<big:=by rw[Ve];calc Uu QBE (Uu (List.length_take_le' _ _) ?_);rw[Xcx];exact Uk QTT Q1
    let a:=Xbg (ss:=.nil) (X33 (F:=F) (G:=G) (S:=S) (S1:=S) (env:=Ql4) (i:=1) (e:=.var 2) (v:=Xa f) rfl rfl rfl lz);rw[a,Vak];rfl)
 rw[Ve,Xaz]at h1;let fz:=Xfl (F:=F) (G:=G) (S:=S) (env:=QGX) (i:=1) (xs:=QAZ.map Xa) rfl QP1;let r:=(Xm (F:=F) (G:=G) (env:=[yz d,yy,yy]) (i:=1) (e:=.lst .nil) (v:=.ref QD) (S1:=S++Q44) rfl).trans (h1.trans (Xn (v:=Xb QAZ) (S1:=S++QqE) QYg));calc Xa2 (X:=QqE) rfl r .rfl' QYH
def Xdn{x y:D}{S:Sto}{b:Bool}(h:eqD S x y=yz b):Xw .eq x y S=.ok QMF S:=Xap h
def Xtu(n:Nat)(h:n<1048576):Xbe [.int n]=yz QYI:=by simp[Xbe,Vbu];rw[iP0 Q0]
def Xb1{e:Ex}{n:Nat}{env:En}{S S1:Sto}(B:ev F G e env S=.ok QSP S1)(h:n<1048576):evit F G (.rng Qk0) env S=.ok (.con QYI) S1:=ond (Xc B Yd) (by rw[Xtu n h])
def Xiy{iw:Nat}{d:D}(hw:∀d,pd d=yx->∀S,F iw [d] S=.ok QE9 S)(hd:pd d=yx)(S:Sto):den F G (Xb5 iw) [d] S=.ok QL7 S:=by
 cases d with
 |ref _=>cases hd|fn _ _=>cases hd|tup xs=>
  by_cases L:QL<=6
  ·let c:ev F G QN2 QUC S=.ok (.bl (!xs.all wh)) S:=
    Xbv (x:=yw) rfl λ_=>Xbv (x:=yw) (a:=.cmp .gt QK0 QpQ) (by show Xw .gt Q4A QOE S=_;calc Xap (by rw[Xa9,decide_eq_false Q0])) λ_=>Yv (Xn8 (n:=2) (i:=2) (it:=.val Q4) xs wh rfl QO9 λx hx=>hw x QWH S)
   calc Xs rfl QX3 rfl;cases hz:xs.all wh with
   |false=>
    let:Q8K=false:=by rw[List.all_eq_false]at hz |-;let⟨x,hx,q⟩:=hz;exact⟨x,hx,by cases x<;>first|calc aB0 rfl q|calc q|(intro z;cases z)⟩
    simp[Yk,this,Vcg,Vct];rfl|true=>
    obtain⟨l,rfl⟩:∃l:LI,xs=l.map D.int:=by
     clear c L hd;induction xs with
     |nil=>exact⟨[],rfl⟩|cons x xs ih=>
      rw[Vaw,bA0]at hz;let⟨l,rfl⟩:=ih hz.2;cases x with
      |int i=>exact⟨i::l,rfl⟩|_=>cases hz.1
    let e1:=Xdm (F:=F) (G:=G) (env:=[yz QL6]) (S:=S) (n:=2) (i:=2) (it:=.rng Q10) (ifs:=.cons QXP .nil) (elt:=.var 2) Q9I Q39 Qq7 Q7N QIC (λd hd=>by let⟨k,_,rfl⟩:=Vm.mp hd;calc Xb6 (e:=.cmp .isin Q9 Q4) (Xap (Xhd (k:Int) l S))) QS5 QKA;let e2:(QyG.filter Q39).map Qq7=QeE.map D.int:=by rw[Vgu,Vdo,Vdo,Var];rfl
    rw[e2]at e1;calc Xn ((Yn e1 (X1 (xs:=l.map D.int) rfl QV3)).trans ((Xdn (X64 _ l S)).trans ?_));congr 2;let q:(decide (QQ.length<=6))=true:=decide_eq_true L;let q2:(QQ.all λx=>wi x 0 15)=l.all λx=>decide Qkh&&decide QUf:=by rw[Vfq];rfl
    simp[Yk,q,q2,Vbg,show Xh QsH=l from ints_of l];rw[Vcd,decide_eq_true_eq];exact X68 l
  let c:ev F G QN2 QUC S=.ok Q20 S:=
   Xbv (x:=yw) rfl λ_=>Xbv (x:=yx) (y:=yx) (a:=.cmp .gt QK0 QpQ) (by show Xw .gt Q4A QOE S=_;calc Xap (by rw[Xa9,decide_eq_true Q0])) λz=>nomatch z
  calc Xs rfl QX3 rfl;simp[Yk,decide_eq_false L,Vcg];rfl|_=>calc Xs rfl rfl rfl
def Xvz{il ia:Nat}{d:D}(hl:∀a b S,lg a<=big->F il QG4 S=.ok QB3 S)(ha:∀d,pd d=yx->∀S,F ia [d] S=.ok QL7 S)(hd:pd d=yx)(S:Sto):den F G (Xec il ia) [d] S=.ok QvB S:=by
 cases d with
 |ref _=>cases hd|fn _ _=>cases hd|tup xs=>
  let L:ev F G Q5C QmP S=.ok (.bl (decide QIF&&decide QvC)) S:=by calc(X32 (x:=1) (y:=lg xs) (z:=60) rfl rfl rfl).trans ?_;congr 3<;>exact decide_eq_decide.mpr Q0
  cases hz:(decide QIF&&decide QvC) with
  |false=>
   rw[hz]at L;let c:ev F G Qe1 QmP S=.ok Q20 S:=
    Xbv (x:=yw) rfl λ_=>Xbv (x:=yx) (y:=yx) QZh λz=>nomatch z
   calc Xs rfl QX3 rfl;simp[Y2,hz,Vcg];rfl|true=>
   rw[hz]at L;let aa:1<=lg xs/\QL<=60:=by rw[bA0,decide_eq_true_eq,decide_eq_true_eq]at hz;exact hz
   let c:ev F G Qe1 QmP S=.ok (.bl (!xs.all Yk)) S:=
    Xbv (x:=yw) rfl λ_=>Xbv (x:=yw) QZh λ_=>Yv (Xn8 (n:=2) (i:=3) (it:=.val Q4) xs Yk rfl QO9 λx hx=>ha x QWH S)
   calc Xs rfl QX3 rfl;cases e:xs.all Yk with
   |false=>simp[Y2,hz,e,Vcg];rfl|true=>
    let en:=Xjt e;simp[Y2,hz,e,Vbg];generalize hn:xs.map Xh=n at en |-;let ln:Qz5=lg xs:=by rw[<-hn,Ve]
    let l6:∀s∈n,lg s<=6:=λs hs=>by rw[<-hn]at hs;let⟨x,hx,rfl⟩:=Vm.mp hs;let⟨l,rfl,q,_⟩:=Xfj (Uc.mp e x hx);rw[ints_of];exact q
    subst en;let c2:ev F G QWP Q1B S=.ok (.bl (!decide (Xy Q4F=n))) S:=by let s1:=Xvy (F:=F) (G:=G) (env:=Q1B) (S:=S) (e:=.var 0) (n:=n) (Xjv QJ0) (Uu (Xeg n) Q0) rfl;exact(Yn s1 (X1 (xs:=n.map Xa) rfl QP1)).trans (Xdh (Xy0 _ n S))
    calc(Yu c2 rfl).trans ?_;by_cases pw:Xy Q4F=n
    ·let B:=Q7g.mpr pw;rw[decide_eq_true pw,QQZ.mpr B,Vbg,<-X69 B.nodup];let⟨e',_,h⟩:=Xyx (F:=F) (G:=G) (env:=Q1B) (S:=S) (i:=1) (it:=.val Q4) (ss:=.cons Qr6 .nil) (v:=.bl yw)
      (b:=.cons (.ite QG2 QB .nil) .nil)
      Qm (λd=>decide ((n.filter λt=>lie Qz9 t).length=1)) rfl λd hd=>by
       let⟨s,hs,rfl⟩:=Vm.mp hd;rw[ints_of];let k:=Xdm (F:=F) (G:=G) (env:=Q6V) (S:=S) (n:=2) (i:=3) (it:=.val Q4) (ifs:=.cons QuU .nil) (elt:=.var 3) Qm (λd=>lie s Qz9) Qq7 rfl QdB (λd hd=>by let⟨t,_,rfl⟩:=Vm.mp hd;rw[ints_of];calc Xb6 (e:=.call il Q08) (hl s t S (Xk (V5 (l6 s hs) Q1)))) QS5 (λd hd _=>by let⟨t,_,rfl⟩:=Vm.mp hd;calc Yb _ t);rw[Xhf n λt=>lie s t]at k;let k2:ev F G QG2 Q6V S=.ok (.bl (!decide QeU)) S:=by calc(Yn ((X8 k).trans (show X2 .len [.fro Q7Y] S=.ok (.int Q7Y.length) S from rfl)) rfl).trans ((Xdh QXZ).trans ?_);rw[Ve];congr 3;exact decide_eq_decide.mpr Q0
       calc(Yu k2 rfl).trans ?_;by_cases z:Q94.length=1;·rw[decide_eq_true z];rfl
       ·rw[decide_eq_false z];rfl
     calc h.trans ?_;rw[X2m n λs=>decide QeU];show(if Xvx n=yx then _ else _)=_;cases Xvx n<;>rfl
    let:rzL n=false:=by rw[Vem];exact λz=>pw (Q7g.mp (QQZ.mp z))
    rw[decide_eq_false pw,this,Vcg];rfl
 |_=>calc Xs rfl rfl rfl
abbrev pkb:LI->Nat->LI
 |[],_=>[]|x::l,m=>if m%2=1 then x::pkb l (m/2) else pkb l (m/2)
abbrev lpt(l:LI):LL:=QwX.map (pkb l)
def Xtv{k:LI}:∀ {l:LI},k∈lpt l ↔ k.Sublist l
 |[]=>by rw[List.sublist_nil];exact Vw|x::l=>by
  let ih:=λk=>Xtv (k:=k) (l:=l);unfold lpt at ih |-;simp[Vm,Va1,Ux]at ih |-;constructor
  ·rintro ⟨m,B,rfl⟩;rw[pkb];let h2:m/2<2^QF8:=by rw[Vgl]at B;omega
   let hs:=QHc.mp ⟨m/2,h2,rfl⟩;split;·exact hs.cons_cons x
   ·exact hs.cons x
  intro h;cases h with
  |cons _ h=>let⟨m,B,rfl⟩:=(ih k).mpr h;calc⟨2*m,by rw[Vgl];omega,?_⟩;rw[pkb,iN0 Q0];congr 1;omega|cons_cons _ h=>let⟨m,B,rfl⟩:=QHc.mpr h;calc⟨2*m+1,by rw[Vgl];omega,?_⟩;rw[pkb,iP0 Q0];congr 2;omega
def Xtw(l:LI):QsN.length=2^QF8:=by unfold lpt;rw[Ve,U6]
abbrev Xjw(m B:Nat):Bool:=decide (m/2^B%2=1)
def X7a(m a:Nat):Viu ((m:Int).fdiv Qyg) 1=((m/2^a%2:Nat):Int):=by
 let e:(m:Int).fdiv Qyg=QpT:=by rw[show((2:Int)^a)=((2^a:Nat):Int) by simp!,Int.ofNat_fdiv]
 rw[e];unfold Viu;rw[decide_eq_true (Vgv _)];show(((QpT.toNat &&& (1:Int).toNat:Nat)):Int)=_;rw[Vbu];calc congrArg Veb (Nat.and_one_is_mod _)
def Xtx(xs:LD)(S:Sto)(i:Nat):(Src.enm Q7A).get S i=yz (Xck 0 xs)[i]?:=by
 let B:∀(xs:LD) (i n:Nat),(match xs[i]? with|some x=>yz (D.tup [.int ((n+i:Nat):Int),x])|none=>yy)=Qua[i]?:=by
  intro xs;induction xs with
  |nil=>intro i n;rfl|cons x xs ih=>
   intro i n;cases i with
   |zero=>rfl|succ i=>let:=ih i QF6;rw[show n+1+i=n+QX2 by omega]at this;exact this
 let:=B xs i 0;rw[Vgn]at this;rw[<-this];simp[Src.get];cases xs[i]?<;>rfl
def Xeh(n:Nat):∀xs:LD,Qua.length=lg xs
 |[]=>rfl|x::xs=>by rw[Xck,Ux,Xeh QF6 xs];rfl
def Yp{n:Nat}{d:D}:∀ {l:LI},d∈Xck n QQ->∃(a:Nat) (x:Int),d=.tup [.int a,.int x]
 |[],h=>by cases h|x::l,h=>by
  rw[Uh,Xck]at h;rcases Vr.mp h with rfl|h;·exact⟨n,x,rfl⟩
  ·calc Yp h
def Xnl(m:Nat):∀(l:LI) (n:Nat),(Qva.filter λd=>match d with | .tup QwK=>Xjw m a.toNat|_=>yw).map QIA=(pkb l (m/2^n)).map D.int
 |[],n=>rfl|x::l,n=>by
  let ih:=Xnl m l QF6;rw[Vgl,<-Nat.div_div_eq_div_mul]at ih;rw[Uh,Xck,List.filter_cons,pkb];show Vd1 _ (if Xjw m n=yx then _ else _)=_;by_cases h:m/2^n%2=1;·rw[iP0 (show Xjw m n=yx from decide_eq_true h),iP0 h,Uh,Uh,ih]
  ·rw[iN0 (show ¬ Xjw m n=yx from λz=>h (oD0 z)),iN0 h,ih]
def Xks(l:LI)(hl:QF8<=6)(S:Sto):den F G Xc4 QcI S=.ok Qxb S:=by
 let hp:(2:Nat)^QF8<=64:=Ves (n:=2) Q1 hl;let sh:ev F G QQE Q4S Qse=.ok (.int ((2^QF8:Nat):Int)) Qse:=by show Xl .shl QH (.int (QQ.length:Int)) _=_;rw[Ve];simp[Xl];rw[iP0 ⟨by omega,by omega,by decide⟩];simp!
 let⟨e',S',h1,rfl,x,rfl⟩:=Xbh (F:=F) (G:=G) (env:=Q4S) (S:=S++Q44) (S1:=S++Q44) (t:=.var 2) (it:=.rng QoR) (ss:=.cons QJb .nil)
  (b:=.cons Qj0 .nil)
  (QwX.map λk:Nat=>.int k) (λi e S'=>S'=S++[.lst QY9]/\∃x,e=[yz QL6,yz Q7,x]) (Xb1 sh Q0) Qt5 (λi y e S' B he=>by
   let⟨rfl,x,rfl⟩:=he;rw[Ud]at B;let⟨m,hm,rfl⟩:=Ug.mp B;let hi:i<2^QF8:=by let:=(Vk.mp hm).1;rwa [U6]at this
   rw[Vc3 hi]at hm;cases hm;let gi:QsN[i]?=yz Q2c:=by unfold lpt;rw[Ud,Vc3 hi];rfl
   generalize hS:S++[O.lst QY9]=S2;let c:=X1 (F:=F) (G:=G) (env:=[yz QL6,yz Q7,yz QkC]) (S:=S2) (Xie (n:=3) (t:=.tup [4,5]) (it:=.enm Qf) (ifs:=.cons (.cmp .eq QRE Q6) .nil) (elt:=.var 5) (src:=.enm (.con QQ)) (Xck 0 QQ)
    (λd=>match d with|.tup Q2H=>[yz QL6,yz Q7,yz QkC,yy,yz a,yz b]|_=>[]) (λd=>match d with|.tup QwK=>Xjw i a.toNat|_=>yw) Q2B rfl (Xtx _ S2) Q2N QYJ
    QzB Qd5 (λd hd=>by
     let⟨a,x,rfl⟩:=Yp hd;calc Xb6 ?_;let q:ev F G QRE [yz QL6,yz Q7,yz QkC,yy,yz QmU,yz QlW] S2=.ok (.int ((i/2^a%2:Nat):Int)) S2:=by calc(X7 (X7 (a:=.var 2) (b:=.var 4) rfl rfl |>.trans (show Xl .shr QkC QmU S2=.ok (.int ((i:Int).fdiv Qyg)) S2 by simp[Xl];rw[iP0 (Vgv a),Vbu])) rfl).trans ?_;show R.ok (D.int (Viu _ 1)) S2=_;rw[X7a]
     calc(Yn q rfl).trans (Xdn ((Xef _ 1 S2).trans ?_));show _=yz (Xjw i a);unfold Xjw;congr 1;calc decide_eq_decide.mpr Q0) QKB) (Xd8 λy B=>by
     let⟨d,hd,rfl⟩:=Vm.mp B;let⟨a,x,rfl⟩:=Yp Q8b.1;rfl)
   rw[Xnl i l 0,Nat.pow_zero,Nat.div_one]at c;subst hS;let lz:QY9.length<big:=by rw[Ve,Vah];exact Uk (show min i QsN.length<64 by omega) Q1
   calc⟨_,_,_,rfl,Xbg (X33 (S:=S) (S1:=S) (i:=1) (v:=Xa Q2c) rfl rfl Qbh lz),?_,_,rfl⟩;rw[Xay gi,Vak];rfl)
 rw[Ve,U6,<-Xtw,Xaz]at h1;let r:=(Xm (F:=F) (G:=G) (env:=[yz QL6,yy,yy]) (i:=1) (e:=.lst .nil) (v:=.ref QD) (S1:=S++Q44) rfl).trans (h1.trans (Xn Q7W));calc Xa2 (X:=QqE) rfl r .rfl' Q1M
abbrev lfc(n:LL):LL:=Xy (ddL QXB)
def Yco{n:LL}(h:∀s∈n,lg s<=6):QXB.length<=64*lg n:=by
 induction n with
 |nil=>exact Vaq _|cons s n ih=>
  let h1:=ih λt B=>h t Q17;let h2:QxY.length<=64:=by rw[Xtw];exact Ves (n:=2) Q1 Q8e
  rw[Vjl,Ub,Ux];omega
def Xkt{L:Nat}{n:LL}(hp:∀l S,lg l<=6->F L QcI S=.ok Qxb S)(hs:∀s∈n,lg s<=6)(hn:Qz5<=15)(S:Sto):den F G (Xc5 L) Q34 S=.ok (rwF Qkf) S:=by
 let tk:∀i,QVQ.length<=960:=λi=>V5 (Yco λs h=>hs s (Vdn h)) Qe9;let⟨e',S',h1,rfl,x,rfl⟩:=Xbh (F:=F) (G:=G) (env:=Q6S) (S:=S++Q44) (S1:=S++Q44) (t:=.var 2) (it:=.val Q4) (ss:=.cons Q54 .nil)
  (b:=.cons (.expr (.mth .xtd Q2 (.cons QqF .nil))) .nil)
  Qm (λi e S'=>S'=S++[.lst (QVQ.map Xa)]/\∃x,e=QIB) rfl Qt5 (λi y e S' hy he=>by
   let⟨rfl,x,rfl⟩:=he;rw[Ud]at hy;let⟨s,hg,rfl⟩:=Ug.mp hy;let B:=hs s QpZ;let t1:=tk QX2;rw[Xay hg,List.flatMap_append,Ub]at t1;calc⟨_,_,_,rfl,Xbg (X34 (S:=S) (S1:=S) (i:=1) (v:=rwF QxY) (ys:=QxY.map Xa) rfl rfl QyB rfl ?_),?_,_,rfl⟩;·rw[Ve,Ve];simp[Vjl,List.flatMap_nil,Va4]at t1;exact Xk Q0
   ·rw[Xay hg,List.flatMap_append,Vak]
    simp[Vjl,List.flatMap_nil,Va4])
 rw[Ve,Xaz]at h1;let t2:=tk n.length;rw[Xaz]at t2;let r1:ev F G QIb QIB (S++[.lst Q5Y])=.ok QTI (S++QqE++[.lst (Qkf.map Xa)]):=by
  calc ond Q7W ?_;show Xbs Q5Y _=_;unfold lfc;cases hq:n.flatMap lpt with
  |nil=>rfl|cons r m=>
   let hl:(ddL (r::m)).length<1000:=by rw[<-hq];exact Uu (Xeg _) Q0
   simp[Xbs,Xih (List.cons_ne_nil r m),Xed,iP0 hl];rfl
 let r:=(Xm (F:=F) (G:=G) (env:=Qm5) (i:=1) (e:=.lst .nil) (v:=.ref QD) (S1:=S++Q44) rfl).trans (h1.trans (Xn (Xea r1 Qkc QP1)));calc Xa2 (X:=QqE) rfl r .rfl' Q1M
universe e
def X7b{k:LI}(n:LL):k∈fcA n ↔ ∃s∈n,k.Sublist s:=by
 let L:∀(ks B:LL),k∈ks.foldl ddR B ↔ k∈B\/k∈ks:=by
  intro ks;induction ks with
  |nil=>intro B;simp!|cons x ks ih=>
   intro B;rw[Vb0,ih];let:k∈ddR B x ↔ k∈B\/k=x:=by
    unfold ddR;split;·rename_i h;exact QBD
    ·rw[Um,Vw]
   rw[this,Vr,or_assoc]
 calc Xfk (P:=λn=>k∈fcA n ↔ ∃s∈n,k.Sublist s) ⟨(λh=>nomatch h),(λ⟨s,h,_⟩=>nomatch h)⟩ Q1U n;rw[Xgf,L,ih,mem_prt];constructor
 ·rintro (⟨t,h1,h2⟩|h);·exact⟨t,Vbk _ h1,h2⟩
  ·exact⟨s,by simp!,h⟩
 rintro ⟨t,h1,h2⟩;rcases Um.mp h1 with h1|h1;·exact .inl ⟨t,h1,h2⟩
 ·rw[Vw]at h1;calc .inr (h1▸h2)
def Xy8:∀(ks B:LL),B.Nodup->QOR.Nodup
 |[]=>λ_ h=>h|k::ks=>λB h=>by
  calc Xy8 ks _ ?_;unfold ddR;split;·exact h
  ·rename_i hk;rw[Vb9];calc⟨h,by simp!,λa L b hb z=>hk (by rw[Vw.mp hb]at z;calc z▸L)⟩
def Xy9(n:LL):QVA.Nodup:=by calc Xfk (P:=λn=>QVA.Nodup) Vg4 Q1U n;rw[Xgf];calc Xy8 _ _ ih
def mem_fcs{k:LI}{n:LL}:k∈fcs n ↔ ∃s∈n,k.Sublist s:=srtC_mem.trans (X7b n)
def Xty(n:LL):lfc n=fcs n:=Xik Q6T Q5T λk=>by rw[mem_fcs];unfold lfc;rw[srtC_mem,ddL_mem,List.mem_flatMap];calc exists_congr λs=>and_congr_right λ_=>Xtv
theorem Dw(p:Nat)(S S1:Sto):Prop:=Pot S p/\∃k,S1=pt S p k
section
variable{p:Nat}{S S1 S2 X:Sto}
def Dw.rfl'(h:Pot S p):Dw p S S:=⟨h,by let⟨k,e⟩:=h;calc Qhd;unfold Z.pt;let⟨hl,e⟩:=Vk.mp e;rw[<-e,List.set_getElem_self]⟩
def Dw.pot(h:Dw p S S1):Pot S1 p:=by let⟨h,k,rfl⟩:=h;calc h.pt k
def Dw.trans(a:Dw p S S1)(b:Dw p S1 S2):Dw p S S2:=by let⟨h,k,rfl⟩:=a;let⟨_,j,rfl⟩:=b;calc⟨h,j,Yfb ..⟩
def Dw.sim(h:Dw p S S1):Sim S S1:=by let⟨_,k,rfl⟩:=h;calc Ycj S p k
def Dw.len(h:Dw p S S1):QzE=lg S:=h.sim.1
def Dw.app(h:Dw p S S1)(X:Sto):Dw p QlH QWT:=by let⟨h,k,rfl⟩:=h;calc⟨h.app X,k,(Xyt h X k).symm⟩
def Dw.inv(h:Pot S p)(d:Dw p QlH S2):∃S1,S2=S1++X/\Dw p S S1:=by let⟨_,k,rfl⟩:=d;calc⟨pt S p k,Xyt h X k,h,k,rfl⟩
variable{F:Fn}{G:LD}{env:En}
def Xei{d:Df}{ds:LD}{env0:En}{v:D}(B:ds.map yz++Vn QWA yy=env0)(h:pe F G d.body env0 S=.ok QkA S1)(hd:Dw p S S1)(hb:pd v=yx)(L:Qt3=d.np:=by rfl)(hg:d.gc=true:=by rfl):den F G d ds S=.ok v S1:=
 Xa2 (X:=[]) B QHQ hd.sim (Xc6 _ hb) L hg
def X2n(ns:LI)(j:Nat)(S:Sto):∃c,den F G Xde [.fro QX,.int j] S=.ok Qj5 S:=by
 let B:ev F G QLF Q5V S=.ok (.bl (decide (j<lg ns))) S:=by let:ev F G QLF Q5V S=.ok (.bl (decide ((j:Int)<(QX.length:Int)))) S:=rfl;rw[this,Ve];congr 2;exact decide_eq_decide.mpr Q0
 by_cases h:j<lg ns
 ·let hi:Xdz QA3 QF2 S=.ok (.int ns[j]) S:=by
   simp[Xdz,Xbt,Xi,Uy,Z.ixN,Ve];rw[iP0 Q0,iP0 Q0];simp![h]
  calc⟨ns[j],Xs rfl ((Yu (v:=.int ns[j]) B ((Xbq (a:=.var 0) (b:=.var 1) rfl rfl).trans hi)).trans ?_) rfl⟩;rw[decide_eq_true h];rfl
 calc⟨0,Xs rfl ((Xbu B).trans ?_) rfl⟩;rw[decide_eq_false h];rfl
def X2o{p:Nat}{v far:Int}{S:Sto}(h:S[p]?=yz (.lst QaY))(h0:0<far)(hd:Xhr far=yx):den F G t_law_take [.ref p,.int far] S=.ok (.int QZf) Q7G:=by
 let B:lstAt S p=yz QaY:=by unfold lstAt;rw[h]
 let L:Xdz QV QtG S=.ok Q8f S:=by simp[Xdz,Xbt,Xi,B,Uy,Z.ixN,List.length];rfl
 let a0:Xbl QV QtG QlU S=.ok () Q7G:=by let h':lstM S p=yz QaY:=B;simp[Xbl,h',Z.ixN,List.length];rfl
 calc Xei (p:=p) rfl (?_:pe F G t_law_take.body [yz QV,yz (.int far),yy] S=_) ⟨⟨v,h⟩,_,rfl⟩ rfl;calc(Xm (v:=.int QZf) (S1:=S) ?_).trans ?_;·exact QM6.trans (Xdx h0 S)
 ·let hx:exe F G QxQ Q75 S=.ok (.nx Q75) Q7G:=by
   let e1:ev F G Q18 Q75 S=.ok QlU S:=QM6.trans (X2j hd S);exact ond e1 (ond rfl (ond rfl (ond a0 rfl)))
  calc(Xct hx).trans QIe
def Xza{m:Nat}(B:0<m)(h1:m<=2000):Xhr (m:Int)=true:=by unfold Xhr;rw[decide_eq_true Q0,Vbg];calc decide_eq_true (Uu (m:=2000) ?_ Q1);rw[Int.natAbs_natCast];calc V5 (Nat.log2_le_self m) h1
theorem Tks(F:Fn)(f:Nat):Prop:=∀(p:Nat) (S:Sto) (m:Nat),Pot S p->0<m->m<=2000->∃(i:Nat) (S1:Sto),i<m/\Dw p S S1/\F f [.ref p,.int m] S=.ok Q61 S1
def Ycp{T:List Df}{f:Nat}(hf:T[f]?=yz t_law_take)(k:Nat):Tks QlF f:=λp S m hp h0 h1=>by let⟨v,B⟩:=hp;let n0:=Int.emod_nonneg v (show(m:Int)≠0 by omega);let n1:=Int.emod_lt_of_pos v (show(0:Int)<(m:Int) by omega);obtain⟨a,L⟩:∃a:Nat,v%(m:Int)=(a:Int):=⟨(v%(m:Int)).toNat,by omega⟩;calc⟨a,_,by omega,⟨⟨v,B⟩,v/m,rfl⟩,?_⟩;rw[Xd hf,X2o B Q0 (Xza h0 h1),L]
def Xb2{f j:Nat}{e:Ex}{m:Nat}{S1:Sto}(hF:Tks F f)(L:env[j]?=yz QuE)(he:ev F G e env S=.ok (.int m) S1)(hd:Dw p S S1)(hm:0<m)(B:m<=2000):∃(i:Nat) (S2:Sto),i<m/\Dw p S S2/\ev F G QX9 env S=.ok Q61 S2:=by let⟨i,S2,h1,h2,h3⟩:=hF p S1 m hd.pot hm B;calc⟨i,S2,h1,hd.trans h2,(X9 Qch he).trans h3⟩
def Xa8{x:D}{xs:LD}{i:Nat}(h:Xi S x=yz xs)(hs:∀t,x≠.str t)(hi:i<lg xs):Xdz x Q61 S=.ok xs[i] S:=by
 let B:Z.ixN QL (i:Int)=yz i:=by unfold Z.ixN;rw[iP0 Q0,iP0 Q0,Vbu]
 let:Xbt x Q61 S=yz xs[i]:=by
  cases x with
  |str t=>exact aB0 rfl (hs t)|_=>simp[Xbt,h,Uy,B,U7 hi]
 unfold Xdz;rw[this]
def Xqf{f j:Nat}{a e:Ex}{xs:LD}{x:D}(hF:Tks F f)(hp:Pot S p)(h0:env[j]?=yz QuE)(L:ev F G a env S=.ok x S)(hx:∀S,Xi S x=yz xs)(hs:∀t,x≠.str t)(he:ev F G e env S=.ok Q4A S)(hm:0<lg xs)(B:QL<=2000):
  ∃v∈xs,∃S1,Dw p S S1/\ev F G (.idx a QX9) env S=.ok v S1:=by
 let⟨i,S1,h1,h2,h3⟩:=Xb2 hF h0 he QJF hm B;calc⟨xs[i],Vb6 h1,S1,h2,(Xbq L h3).trans (Xa8 (hx S1) hs h1)⟩
def X2p(c a j:Int)(x:Option D)(S:Sto){ss:Sts}:∃a' b',pe F G (.cons Qj
  (.cons Q00
  (.cons Qw1 ss))) [yz Qj5,yz Qz7,yz QF2,x] S=pe F G ss [yz Qj5,yz (.int a'),yz QF2,yz (.int b')] S:=by
 let m1:Xaj 7919 j=true:=Xme Q1 Q1;let m2:∀y,Xaj y 48271=true:=λy=>Xmd Q1 Q1;let m3:Xaj 69621 j=true:=Xme Q1 Q1;let m4:∀y,Xaj y 2147483587=true:=λy=>Xmd Q1 Q1;let p1:(0:Int)<2147483629:=by decide
 let p2:(0:Int)<2147483647:=by decide
 let p3:(0:Int)<2147483587:=by decide
 generalize B:((c%2147483629+7919*j+1)*48271)%2147483647=b;let b1:0<=b:=by rw[<-B];exact Int.emod_nonneg _ Q1
 let b2:b<2147483647:=by rw[<-B];exact Int.emod_lt_of_pos _ Q1
 let L:Xaj b b=true:=Xmd Q0 Q0;calc⟨a*2147483587+QeB%2147483587,QeB%2147483587,?_⟩;rw[Xm (v:=.int b) (S1:=S) ((bi (bi (bi (bi (bi QFW rfl (Xdx p1 S)) (bi rfl rfl Qta) Q7E) rfl Q7E) rfl (Xdw (m2 _) S)) rfl (Xdx p2 S)).trans (by rw[B]))];dsimp[List.set];rw[Xm (v:=.int (QeB%2147483587)) (S1:=S) (bi (bi (bi (bi rfl rfl (Xdw L S)) (bi rfl rfl (Xdw m3 S)) Q7E) rfl Q7E) rfl (Xdx p3 S))];dsimp[List.set];rw[Xm (v:=.int (a*2147483587+QeB%2147483587)) (S1:=S) (bi (bi rfl rfl (Xdw (m4 _) S)) rfl Q7E)];rfl
def X7c(c:Int)(S:Sto):∃a,den F G t_law_pot QBh S=.ok Q7 Qj7:=by
 let hp:Xl .pow QUd (.int 18) S=.ok (.int (10^(18:Int).toNat)) S:=Xtl Q8 S;generalize (10:Int)^(18:Int).toNat=w at hp;let L:∀env,ev F G Qr1 env S=.ok QmW S:=λenv=>hp;let B:∀(e:Ex) (env:En) (a:Int),ev F G e env S=.ok Qz7 S->ev F G (.lst Qk0) env S=.ok Q7 Qj7:=λe env a h=>ond (Xc h Yd) (iP0 (Xk QA));let fin:∀ {a},pe F G t_law_pot.body QzF S=.ok (.rt Q7) Qj7->den F G t_law_pot QBh S=.ok Q7 Qj7:=λ{a} h=>by show gcB yw S (Xok (pe F G t_law_pot.body QzF S))=_;rw[h];rfl
 let hc:ev F G QrQ QzF S=.ok (.bl (decide (w<=c))) S:=(Yn (a:=.var 0) rfl QCd).trans (Xap rfl);by_cases h:w<=c;·calc⟨c-w,fin QdO⟩;rw[decide_eq_true h,iP0 rfl,Xn (B _ _ (c-w) ((X7 (a:=.var 0) rfl QCd).trans Q8W))]
 ·let⟨e',S',h1,rfl,a,x,y,rfl⟩:=Xbh (F:=F) (G:=G) (env:=[yz Qj5,yz QtG,yy,yy]) (S:=S) (S1:=S) (t:=.var 2) (it:=.rng QTG) (ss:=.cons QiR .nil)
   (b:=.cons Qj QuG)
   ((Vv 64).map λk:Nat=>.int k) (λi e S'=>S'=S/\∃a x y,e=[yz Qj5,yz Qz7,x,y]) (Xb1 (n:=64) rfl Q1) ⟨rfl,0,yy,yy,rfl⟩ (λi d e S' hd hP=>by let⟨rfl,a,x,y,rfl⟩:=hP;rw[Ud]at hd;let⟨m,_,rfl⟩:=Ug.mp hd;let⟨a',b',st⟩:=X2p (F:=F) (G:=G) c a m y S' (ss:=.nil);calc⟨_,_,S',rfl,st,rfl,a',_,_,rfl⟩)
  calc⟨a,fin QdO⟩;rw[decide_eq_false h];calc(Xm (i:=1) (e:=.cst QtG) (v:=.int 0) (S1:=S') rfl).trans (h1.trans (Xn (B _ _ a rfl)))
def turns{ns:LI}(c:Nat)(h1:1<=c)(h2:c<1000000)(L:env[0]?=yz (yz QA3)):
  ∃m:Nat,evit F G (.rng (.cons Qq3 .nil)) env S=.ok (.con QZI) S/\m<=c:=by
 let hl:ev F G QK0 env S=.ok (.int (lg ns:Nat)) S:=(X8 Qch).trans (by show R.ok (D.int QX.length) S=_;rw[Ve]);let B:ev F G Qq3 env S=.ok (.int ((max 1 QwY:Nat):Int)) S:=by calc(Xyu (a:=.cst QH) (x:=.int 1) (S1:=S) rfl (y:=.int (if (c:Int)<(lg ns:Int) then (c:Int) else (lg ns:Int))) (S2:=S) (Xyu (b:=.cst Qj5) (y:=.int c) hl rfl)).trans ?_;show R.ok (D.int (if (if (c:Int)<(lg ns:Int) then (c:Int) else (lg ns:Int))>1 then _ else _)) S=_;congr 2;split<;>split<;>omega
 calc⟨max 1 QwY,Xb1 B Q0,by omega⟩
universe e
def Xqg{P:D->Prop}{a b:D}(h1:P a)(h2:P b):∀d∈Q2H,P d:=Vcu.mpr ⟨h1,Vcu.mpr ⟨h2,λ_ h=>nomatch h⟩⟩
def Ycq{P:D->Prop}{a b c:D}(h1:P a)(h2:P b)(B:P c):∀d∈[a,b,c],P d:=Vcu.mpr ⟨h1,Xqg h2 B⟩
def Ycr{P:D->Prop}{a b c d:D}(h1:P a)(h2:P b)(B:P c)(L:P d):∀x∈[a,b,c,d],P x:=Vcu.mpr ⟨h1,Ycq h2 B L⟩
def Ycs{P:D->Prop}{a b c d e f:D}(h1:P a)(h2:P b)(L:P c)(h4:P d)(B:P e)(h6:P f):∀x∈[a,b,c,d,e,f],P x:=Vcu.mpr ⟨h1,Vcu.mpr ⟨h2,Ycr L h4 B h6⟩⟩
theorem Sm(dep siz:Nat)(d:D):Prop:=pd d=yx/\∃p,(∀B,Yi B d=yz p)/\p.showable=yx/\Xli p=yx/\p.depth<=dep/\szD p<=siz
def Sm.mono{a b a' B:Nat}{d:D}(h:Sm a b d)(h1:a<=a')(h2:b<=B):Sm a' B d:=by let⟨q0,p,q1,L,q3,q4,q5⟩:=h;calc⟨q0,p,q1,L,q3,V5 q4 h1,V5 q5 h2⟩
def Xqh(i:Int)(h:i.natAbs<1000):Sm 0 4 Q61:=⟨rfl,.int i,λ_=>by simp[Yi],by
  let:i.natAbs.log2<1920:=Uu (Nat.log2_le_self _) Q0
  simp[PyData.showable,decide_eq_true this],by simp[Xli],by simp[Vfr];calc Vi _,by simp[szD,szI,iP0 h];calc Vi _⟩
def sms{a b:Nat}:∀ds:LD,(∀d∈ds,Sm a b d)->pds ds=yx/\∃ps,(∀B,datFs B ds=yz ps)/\Vjb ps=yx/\dctEs ps=yx/\Vfd ps<=a/\szDs ps<=lg ds*QKZ
 |[]=>λ_=>⟨rfl,[],λ_=>by simp[datFs],by simp[Vjb],by simp[dctEs],by simp[Vfd];calc Vaq _,by simp[szDs];calc Vaq _⟩|d::ds=>λh=>by let⟨L,p,p1,p2,p3,p4,p5⟩:=h d QA;let⟨q0,ps,q1,q2,q3,q4,q5⟩:=sms ds λx hx=>h x (by simp![hx]);calc⟨by simp[pds,L,q0,Vdt],p::ps,λB=>by simp[datFs,p1,q1],by simp[Vjb,p2,q2,Vdt],by simp[dctEs,p3,q3,Vdt],by simp[Vfd];calc Nat.max_le.mpr ⟨p4,q4⟩,?_⟩;simp[szDs,Ux,Nat.succ_mul];omega
def Xzb{a b a' B:Nat}{ds:LD}(h:∀d∈ds,Sm a b d)(ha:a+1<=a')(hb:Qt3*QKZ+3<=B):Sm a' B QKE:=by let⟨q0,ps,q1,q2,q3,q4,q5⟩:=sms ds h;calc⟨q0,.tuple ps,λL=>by simp[Yi,q1,Vaa],by simp[PyData.showable,q2],by simp[Xli,q3],by simp[Vfr];omega,by simp[szD];omega⟩
def Yct{a b a' B:Nat}{ds:LD}(h:∀d∈ds,Sm a b d)(ha:a+1<=a')(hb:Qt3*QKZ+3<=B):Sm a' B QU6:=by let⟨q0,ps,q1,q2,q3,q4,q5⟩:=sms ds h;calc⟨q0,.list ps,λL=>by simp[Yi,q1,Vaa],by simp[PyData.showable,q2],by simp[Xli,q3],by simp[Vfr];omega,by simp[szD];omega⟩
def Ycu{l:LI}(h:∀x∈l,x.natAbs<1000):Sm 1 (lg l*6+3) QL6:=Xzb (a:=0) (b:=4) (λd hd=>by let⟨x,B,rfl⟩:=Vm.mp hd;calc Xqh x Qxf) Qd (by rw[Ve];calc Vi _)
def Ycv(t:Str)(S:Sto):Xw .ne Qze Qze S=.ok QD9 S:=by simp[Xw,Xa9,eqD,Xgq,beq_self_eq_true,Vaa,Vc7]
section
variable{F:Fn}{G:LD}{S S1:Sto}{env:En}
def X35{es:Exs}{ds:LD}(h:evs F G es env S=.ok ds S1)(hl:Qt3<=1000):ev F G QUM env S=.ok QKb (S1++[.lst ds]):=ond h QJc
def Xa3{es:Exs}{ds:LD}(h:evs F G es env S=.ok ds S1)(hl:Qt3<=1000)(hs:Sim S S1)(B:bdDs QD ds=yx):ev F G QXb env S=.ok QU6 S1:=Xea (X35 h hl) hs B
abbrev Y8(c:Nat):D:=([.str "net",.str "face",.str "point",.str "apart",.str "many",.str "text",.str "row",.str "number",.str "level",.str "crowd",.str "way",.str "closed",.str "swap",.str "places",.str "deed",.str "line"]:LD).getD (c-1) .non
def Xil{n c k:Nat}{i:Nat}(hi:env[i]?=yz Q3K)(B:S[n]?=yz Qp3):ev F G (.isi QJ1 [.cls k]) env S=.ok (.bl QnL) S:=by
 let:kdD S QM1=yz Qp3:=by simp[kdD,B]
 rw[Xvt QJO this];simp[Y4,isT];cases QnL<;>rfl
abbrev Xjx(k1 k2 k3 B:Nat):Exs:=.cons (.isi Q4 [.cls k1]) (.cons (.isi Q4 [.cls k2]) (.cons (.isi Q4 [.cls k3]) (.cons (.isi Q4 [.cls B]) .nil)))
abbrev isK(c k:Nat):D:=.bl QnL
def Xtz{n c:Nat}(L:env[0]?=yz Q3K)(B:S[n]?=yz Qp3)(a b d e:Nat):evs F G Q5W env S=.ok QnE S:=by unfold Xjx isK;calc Xc Q2M (Xc Q2M (Xc Q2M (Xc Q2M Yd)))
def Xc9{n:Nat}{o:O}(h:S[n]?=yz o)(X:Sto):QlH[n]?=yz o:=by rw[Vy QO8.1];calc h
def Xjy{n c:Nat}{xs:LD}{w:Option D}{q:Nat}{ss:Sts}(L:S[n]?=yz Qp3)(B:S[q]?=yz QD1)(hx:QL<=100)(a b d e:Nat):
  pe F G (.cons (.asg Q2 (.bin .add Q2 (.frz (.lst Q5W)))) ss) [yz QM1,yz QLE,w] S=pe F G ss [yz QM1,yz Q7,w] (S++[.lst (xs++QnE)]):=by
 calc Xm ((X7 (a:=.var 1) rfl (Xa3 (Xtz rfl L a b d e) QYA .rfl' rfl)).trans ?_);let l:lstAt S q=yz xs:=by simp[lstAt,B]
 let hb:QL+4<=big:=Xk Q0;simp[Xl,lsD,l,Ux,Vig];calc iP0 hb
def X2q{n c:Nat}(hn:S[n]?=yz Qp3)(h1:1<=c)(h2:c<=16):den F G t_law_kind_of Q8h S=.ok QzS S:=by
 let pw:pd QzS=true:=by
  let:∀c:Fin 17,pd Qra=true:=by decide+kernel
  exact this Q1H
 generalize hB:Qb3++Qb6++QED++[isK c 13,isK c 14,isK c 15,isK c 16]=B;let ab:X3 B=yz (Qs4.map λx=>(x==0||x==c)):=by rw[<-hB];rfl
 let af:∀c:Fin 17,1<=c.val->QFF.countP Qod=1/\QFF.findIdx? Qod=yz (c.val-1):=by decide+kernel
 let⟨k1,k2⟩:=af Q1H h1;let s1:=X35 (F:=F) (G:=G) (env:=QCD) (S:=S) (Xtz rfl hn 1 2 3 4) QYA;generalize hX:([.lst Qb3]++[.lst (Qb3++Qb6)]++[.lst (Qb3++Qb6++QED)]:Sto)=X;let gl:∀(A:Sto) (xs:LD),(A++[O.lst xs])[A.length]?=yz QD1:=λA xs=>Yy A _;let body:∀ss,pe F G (.cons (.asg Q2 (.lst (Xjx 1 2 3 4))) (.cons (.asg Q2 (.bin .add Q2 (.frz (.lst (Xjx 5 6 7 8))))) (.cons (.asg Q2 (.bin .add Q2 (.frz (.lst (Xjx 9 10 11 12))))) (.cons (.asg Q2 (.bin .add Q2 (.frz (.lst (Xjx 13 14 15 16))))) ss)))) QCD S=pe F G ss [yz QM1,yz QgQ,yy] QtZ:=λss=>by calc(Xm s1).trans ((Xjy QdJ (gl S _) (by show 4<=100;decide) 5 6 7 8).trans ((Xjy QaZ Q9e (by show 8<=100;decide) 9 10 11 12).trans ((Xjy (Xc9 QaZ _) Q9e (by show 12<=100;decide) 13 14 15 16).trans ?_)));rw[<-hB,<-hX];simp[Uj]
 let ae:(S++X++Q9V)[n]?=yz Qp3:=Xc9 QdJ _;let l4:lstAt QtZ QlH.length=yz B:=Xbi _ _;generalize ag:S++X++Q9V=L at ae l4 body;generalize QlH.length=q at l4 body;let rc:∀k,Xat k QLE L=true:=λk=>by simp[Xat,l4,Option.isSome]
 let c1:∀env:En,env[1]?=yz Qtd->ev F G (.mth .count Q2 QE4) env L=.ok QH L:=λenv h=>by rw[Xf9 QBT QKh rfl];simp[Y5,l4,Uy,ab,k1];rfl
 let c2:∀env:En,env[1]?=yz Qtd->ev F G QIN env L=.ok (.int (c-1:Nat)) L:=λenv h=>by rw[Xf9 QBT QKh rfl];simp[Y5,l4,Uy,ab,k2]
 let t5:ev F G Qj3 Q8R L=.ok QD9 L:=by
  let hk:kdD L QM1=yz Qp3:=by simp[kdD,ae]
  exact Xbv (x:=yw) (y:=yw) ((Yn (c1 _ rfl) rfl).trans (Xdh (Xef 1 1 L))) λ_=>Yv (x:=yx) ?_;exact Xvt rfl hk
 let wd:Y8 c=(QL1++Qt8:LD).getD (c-1) .non:=rfl;generalize aa:(QL1:LD)=w1 at wd;generalize ac:(Qt8:LD)=w2 at wd;let l1:w1.length=12:=by rw[<-aa];rfl
 let l2:w2.length=4:=by rw[<-ac];rfl
 let b1:bdDs L.length w1=true:=by rw[<-aa];rfl
 let b2:bdDs L.length w2=true:=by rw[<-ac];rfl
 let e1:∀env,ev F G QY env L=.ok Qbd L:=λenv=>Xa3 (by subst aa;rfl) Q0 .rfl' b1;let e2:∀env,ev F G Q30 env L=.ok (.fro w2) L:=λenv=>Xa3 (by subst ac;rfl) Q0 .rfl' b2;let b3:bdDs L.length Q9K=true:=by rw[<-aa,<-ac];rfl
 let e3:ev F G QIJ [yz QM1,yz QLE,yz Qbd] L=.ok (.fro Q9K) L:=X1 ((X7 (a:=.var 2) rfl (e2 _)).trans (Xii _ _ QO9 L)) b3;let hi:c-1<Q9K.length:=by rw[Ub];omega
 let hv:Q9K[c-1]=Y8 c:=by rw[wd,Vbf,U7 hi];rfl
 let e4:=(Xbq e3 (c2 _ rfl)).trans (Xa8 (x:=.fro Q9K) (xs:=w1++w2) rfl Q40 hi);rw[hv]at e4;let r:pe F G t_law_kind_of.body QCD S=.ok (.rt QzS) (S++(X++QTL)):=by rw[<-Uj,ag];calc(body _).trans ((Yu t5 (v:=.str "other") rfl).trans ?_);rw[iN0 V0];exact(Xm (i:=2) (env:=Q8R) (e1 _)).trans (Xn e4)
 calc Xa2 (X:=X++Q9V) (env0:=QCD) rfl r .rfl' (Xc6 _ pw)
theorem Kds(F:Fn)(f:Nat):Prop:=∀(n c:Nat) (S:Sto),S[n]?=yz Qp3->1<=c->c<=16->F f Q8h S=.ok QzS S
def Ycw{T:List Df}{f:Nat}(B:T[f]?=yz t_law_kind_of)(k:Nat):Kds QlF f:=λn c S h h1 h2=>by rw[Xd B,X2q h h1 h2]
def Ycx{b h ss:Sts}{c x:Nat}{r:D}(B:nasgs b=yx)(L:pe F G b env S=.ok QAa S1):pe F G (.cons (.try b c x h) ss) env S=.ok QAa S1:=Xmc ((iP0 B).trans (by rw[L]))
def Ycy{b ss:Sts}{x ik k:Nat}(hn:nasgs b=yx)(hb:pe F G b env S=.ex QD QS1)(B:x<lg env)(L:Kds F ik)(h1:1<=k)(h2:k<=16):pe F G (.cons Qv1 ss) env S=.ok (.rt Qdc) QS1:=Xmc (by let hg:(S++[O.exc k])[lg S]?=yz (.exc k):=Yy ..;let hv:ev F G (.var x) (env.set x QHS) QS1=.ok Q7 QS1:=X5 (Vap B);calc(iP0 hn).trans ?_;rw[hb];dsimp;rw[hg];dsimp;rw[iP0 QsV,Xn ((Xg hv).trans (L _ _ _ hg h1 h2))])
def X7d{c:Nat}(h:c<=16):pd QzS=true:=by
 let:∀c:Fin 17,pd Qra=true:=by decide+kernel
 calc this Q1H
def X2r{ds:LD}{env0:En}{np nl x ik:Nat}{b:Sts}{r:D}(B:ds.map yz++Vn Qgf yy=env0)(hd:Qt3=np)(hn:nasgs b=yx)(L:pe F G b env0 S=.ok QAa S)(hr:bdD QD r=yx):den F G Q0H ds S=.ok r S:=
 Xs B (Ycx hn L) hr hd
def X2s{ds:LD}{env0:En}{np nl x ik k:Nat}{b:Sts}(L:ds.map yz++Vn Qgf yy=env0)(hd:Qt3=np)(hn:nasgs b=yx)(hb:pe F G b env0 S=.ex QD QS1)(B:x<lg env0)(hk:Kds F ik)(h1:1<=k)(h2:k<=16):den F G Q0H ds S=.ok Qdc S:=
 Xa2 L (Ycy hn hb B hk h1 h2) .rfl' (Xc6 _ (X7d h2)) hd
universe e
def X7e{F:Fn}{G:LD}{env:En}(S:Sto):ev F G QIY env S=.ok .edc S:=by
 let e1:QYT[lg S]?=yz QcM:=by simp!
 let e2:QYT.set QD .ded=S++QqE:=Xa0 S _ _;show gcR S (Xba (.ok Q7 Q8J))=_;simp[Xba,e1,e2];calc Xd9 (d:=.edc) .rfl' rfl _
theorem Cl(e:Ex)(d:D):Prop:=pd d=yx/\∀(F:Fn) (G:LD) (env:En) (S:Sto),ev F G e env S=.ok d S
theorem Cls(es:Exs)(ds:LD):Prop:=pds ds=yx/\∀(F:Fn) (G:LD) (env:En) (S:Sto),evs F G es env S=.ok ds S
def Xej{d:D}(h:pd d=yx):Cl QvW d:=⟨h,λ_ _ _ _=>rfl⟩
def Xqi{i:Int}:Cl (.neg Qcb) QzH:=QtK
def Xqj:Cl QIY .edc:=⟨rfl,λ_ _ _ S=>X7e S⟩
def Xqk{i j v:Int}(h:0<=j/\j<=1000/\i.natAbs<2^63)(B:i^j.toNat=v):Cl (.bin .pow Qcb (.cst QF2)) Q8f:=⟨rfl,λ_ _ _ S=>by subst B;calc Xtl h S⟩
def Xql{es:Exs}{ds:LD}(h:Cls es ds)(hl:Qt3<=1000):Cl QJd QKE:=⟨h.1,λF G env S=>ond QNH QJc⟩
def Xfm{es:Exs}{ds:LD}(h:Cls es ds)(hl:Qt3<=1000):Cl QXb QU6:=⟨h.1,λF G env S=>Xa3 QNH hl .rfl' (pds_bd _ h.1)⟩
def Xdy:Cls .nil []:=QtK
def Y9{e:Ex}{es:Exs}{d:D}{ds:LD}(h:Cl e d)(t:Cls es ds):Cls QpF QGZ:=⟨by rw[pds,h.1,t.1];rfl,λF G env S=>Xc QNH (t.2 F G env S)⟩
section
variable{F:Fn}{G:LD}{env:En}
def X36{e:Ex}{d:D}(h:Cl e d)(S:Sto):ev F G e env S=.ok d S:=h.2 F G env S
universe e
mutual
def Xzc(k l:Nat->Option Vcn):∀ {d:D},pd d=yx->Yi k d=Yi l d
 |.ref _=>λh=>by cases h|.fn _ _=>λh=>by cases h|.tup xs=>λh=>by rw[Yi,Yi,dats_pd k l (xs:=xs) h]|.fro xs=>λh=>by rw[Yi,Yi,dats_pd k l (xs:=xs) h]|.non=>λ_=>rfl|.bl _=>λ_=>rfl|.int _=>λ_=>rfl|.str _=>λ_=>rfl|.edc=>λ_=>rfl
def dats_pd(k l:Nat->Option Vcn):∀ {xs:LD},pds xs=yx->datFs k xs=datFs l xs
 |[]=>λ_=>rfl|x::xs=>λh=>by rw[pds,bA0]at h;rw[datFs,datFs,Xzc k l h.1,dats_pd k l h.2]
end
abbrev smB(dep siz:Nat)(d:D):Bool:=pd d&&match Yi QCS d with
 |some p=>p.showable&&Xli p&&decide (p.depth<=dep)&&decide (szD p<=siz)|none=>yw
def Yfd{a b:Nat}{d:D}(h:smB a b d=yx):Sm a b d:=by
 unfold smB at h;rw[bA0]at h;cases e:Yi QCS d with
 |none=>rw[e]at h;cases h.2|some p=>rw[e]at h;let⟨L,h⟩:=h;simp[bA0,decide_eq_true_eq]at h;calc⟨L,p,λB=>(Xzc _ _ L).trans e,h.1.1.1,h.1.1.2,h.1.2,h.2⟩
def Xzd{a b:Nat}{ds:LD}(h:ds.all (smB a b)=yx):∀d∈ds,Sm a b d:=λd hd=>Yfd (Uc.mp h d hd)
def Sm.pd{a b:Nat}{d:D}(h:Sm a b d):Z.pd d=true:=h.1
def enc_bl:Enc Bool D.bl PyData.bool 0:=⟨λ_ _=>rfl,λ_=>rfl,λ_=>by simp![Vfr],λx y=>by cases x<;>cases y<;>rfl⟩
def Yfe(a b:Bool)(S:Sto):eqD S (.bl a) QMF=yz (decide QxS):=enc_bl.eq Q1 QB2 a b S
section
variable{F:Fn}{G:LD}{S:Sto}{iw is:Nat}
def Xze{x:D}{xs:LD}(h:Xi S x=yz xs):∃s,Yg S x=yz s/\(∀i,s.get S i=yz xs[i]?)/\s.most S=lg xs:=by
 cases x with
 |tup ys=>cases h;calc QvK|fro ys=>cases h;calc QvK|ref n=>let h':lstAt S n=yz xs:=h;calc⟨.ref n,by simp[Yg,h',Vaa],λi=>by simp[Src.get,h',Vaa],by simp[Src.most,h',Vfx]⟩|_=>cases h
def Ycz{a b:Src}{xs ys:LD}(B:∀i,a.get S i=yz xs[i]?)(L:∀i,b.get S i=yz ys[i]?)(i:Nat):(Src.zpp a b).get S i=yz QWW[i]?:=by rw[<-Xts xs ys S i];simp[Src.get,B,L]
def Xjz{x y:D}{xs:LD}(k:Kd)(hk:k=.tuple\/k=.list)(kx:kdD S x=yz k)(ky:kdD S y=yz k)(hx:Xi S x=yz xs)(hy:Xi S y=yz xs)(hl:QL<=big)(h:∀z∈xs,F is [z,z] S=.ok Q20 S):den F G Q4D Qm9 S=.ok Q20 S:=by
 let⟨s1,a1,a2,a3⟩:=Xze hx;let⟨s2,b1,b2,b3⟩:=Xze hy;let i1:∀(i:Nat) (env:En) (ts:List Ty) (v:D),env[i]?=yz Q59->kdD S v=yz k->ev F G (.isi QJ1 ts) env S=match Y4 k ts with|some r=>.ok QuB S|none=>.bad:=λi env ts v h1 h2=>Xvt QZg h2
 let c:ev F G QrJ Q86 S=.ok Q20 S:=by rw[i1 1 _ _ y rfl ky];rcases hk with rfl|rfl<;>rfl
 let L:∀b:Bool,Xw .ne QMF QMF S=.ok QD9 S:=λb=>(Xdh (Yfe b b S)).trans (by rw[decide_eq_true rfl];rfl);let c2:ev F G Qc0 Q86 S=.ok QD9 S:=by
  exact Xbv (x:=yw) (y:=yw) ?_ λ_=>?_
  ·calc Qg5.trans (L (k == .list));·rcases hk with rfl|rfl<;>rfl
   ·rcases hk with rfl|rfl<;>rfl
  calc Qg5.trans (L (k == .tuple));·rcases hk with rfl|rfl<;>rfl
  ·rcases hk with rfl|rfl<;>rfl
 let ln:∀(i:Nat) (v:D),(Q86:En)[i]?=yz Q59->Xi S v=yz xs->ev F G (.blt .len QpR) Q86 S=.ok Q4A S:=λi v h1 h2=>by
  rw[X8 QZg];cases v with
  |str z=>cases h2|_=>simp[X2,h2]
 let ab:=X1 (F:=F) (G:=G) (env:=Q86) (S:=S) (Xie (n:=3) (t:=.tup [3,4]) (it:=.zpp QV6) (ifs:=.nil) (elt:=.call is QoU) (src:=.zpp s1 s2) ((xs.zip xs).map prZ)
  (λd=>match d with|.tup Q2H=>[yz x,yz y,yy,yz a,yz b]|_=>[]) Qp9 (λ_=>.bl yx)
  (by show(match Yg S x,Yg S y with|some s,yz t=>R.ok (Src.zpp s t) S|_,_=>.bad)=_;rw[a1,b1]) (Ycz a2 b2) (by rw[Ve,Vil];simp[Src.most,a3,b3];calc Vi _) Q7O
  (λz hz=>by let⟨p,_,rfl⟩:=Vm.mp hz;rfl) (λz hz w hw=>by let⟨p,_,rfl⟩:=Vm.mp hz;let⟨q,_,rfl⟩:=Vm.mp hw;rfl)
  QB2 (λz hz _=>by
   let⟨p,hp,rfl⟩:=Vm.mp hz;let aa:p.1=p.2/\p.1∈xs:=by let⟨i,hi⟩:=Ved.mp hp;rw[Vjp]at hi;let e1:=hi.1;let e2:=hi.2;rw[e1]at e2;exact⟨Ur e2,V7 e1⟩
   let:=h p.1 aa.2;show F is QHf S=_;rw[<-aa.1];calc this)) (Xd8 λz hz=>by
   let⟨w,_,rfl⟩:=Vm.mp hz;rfl)
 let al:ev F G QA2 Q86 S=.ok Q20 S:=by calc(X8 ab).trans ?_;simp[X2,Xi,Uy,Xig];congr 2;rw[Uc];intro b hb;let⟨_,_,rfl⟩:=Vm.mp hb;rfl
 let q:ev F G QPE Q86 S=.ok Q20 S:=(Yn (ln 0 x rfl hx) (ln 1 y rfl hy)).trans (Xdn ((Xef _ _ S).trans QsI));calc Xs (env0:=Q86) rfl ?_ rfl;calc QbZ.trans ?_;rw[iP0 rfl];let B:∀ss,pe F G (.cons QRP (.cons (.ret (.and QPE QA2)) ss)) Q86 S=.ok QMd S:=λss=>by calc(Yu (v:=.bl yw) c2 rfl).trans ?_;rw[iN0 V0];exact Xn (Xb4 (x:=yx) (y:=yx) q λ_=>al)
 rw[B .nil]
def X2t(i:Int)(B:F iw QAh S=.ok Q20 S):den F G Q4D QEV S=.ok Q20 S:=by
 calc Xs (env0:=[yz Q61,yz Q61]) rfl ((Xbu (t:=yw) (S1:=S) rfl).trans ?_) rfl;rw[iN0 V0];calc(Xbu (t:=yw) (S1:=S) ?_).trans ?_;·exact Xbv (x:=yw) (y:=yw) rfl λ_=>Xbv (x:=yw) (y:=yw) rfl λ_=>rfl
 ·rw[iN0 V0];calc Xn (Xb4 (x:=yx) (y:=yx) Q4Y λ_=>Xdn ((Xef i i S).trans QsI))
universe e
def Xj0{T:List Df}{G:LD}{iw k:Nat}(B:T[iw]?=yz Xb0){d:D}(h:pd d=yx)(S:Sto):FT T G Qe3 iw [d] S=.ok QE9 S:=by rw[Xd B];calc Xeu h S
section
variable{T:List Df}{G:LD}{iw is k:Nat}
def Xqm(hs:T[is]?=yz Q4D)(B:T[iw]?=yz Xb0)(i:Int)(S:Sto):FT T G QGK is QEV S=.ok Q20 S:=by rw[Xd hs];calc X2t i (Xj0 B rfl S)
def Xqn(hs:T[is]?=yz Q4D)(B:T[iw]?=yz Xb0){l:LI}(hl:QF8<=big)(S:Sto):FT T G QGc is [Xa l,Xa l] S=.ok Q20 S:=by rw[Xd hs];calc Xjz .tuple QJ0 rfl rfl rfl rfl QA6 λz hz=>by let⟨i,_,rfl⟩:=Vm.mp hz;calc Xqm hs B i S
def X2u(hs:T[is]?=yz Q4D)(B:T[iw]?=yz Xb0){n:LL}{S:Sto}(L:Qz5<=big)(hl:∀l∈n,lg l<=big):FT T G QkS is Qmb S=.ok Q20 S:=by rw[Xd hs];calc Xjz .tuple QJ0 rfl rfl rfl rfl (by rw[Ve];calc L) λz hz=>by let⟨l,h,rfl⟩:=Vm.mp hz;calc Xqn hs B (hl l h) S
universe e
def X2v{α:Type}(xs:List α)(n:Nat):cut xs yy QUF=xs.take n:=by
 unfold cut;let h1:Xd0 QL QL QUF=min n QL:=by simp![Xd0]
 rw[h1];simp[Xd0,Vgz,Nat.sub_zero];by_cases c:n<=lg xs;·rw[Vc1 c]
 ·rw[Nat.min_eq_right Q0,Vez,Va9 Q0]
section
variable{F:Fn}{G:LD}{S S1 S2:Sto}{env:En}{p it io:Nat}
def X37{i j:Nat}{a b:Ex}{x y:D}{ss:Sts}(h1:ev F G a env S=.ok x S1)(h2:ev F G b env S1=.ok y S2):pe F G (.cons (.par [i,j] Q46) ss) env S=pe F G ss (QG6.set j QDh) S2:=Xct (ond (Xc h1 QNQ) rfl)
def Xqo{a:Ex}{e:Ex}{xs:LD}{n:Nat}(h1:ev F G a env S=.ok Q21 S)(h2:ev F G e env S=.ok QSP S):ev F G (.sli a .none QiT) env S=.ok (.tup QlY) S:=ond h1 (ond rfl (ond QD7 (congrArg Q8d (congrArg D.tup (X2v xs n)))))
def Xku{a:Ex}{e:Ex}{xs:LD}{n:Nat}(h1:ev F G a env S=.ok Q21 S)(h2:ev F G e env S=.ok QSP S):ev F G (.sli a QiT .none) env S=.ok (.tup QoY) S:=ond h1 (ond QD7 (ond rfl (congrArg Q8d (congrArg D.tup (Xp8 xs n)))))
def Xad{a b:Ex}{x y:LD}(h1:ev F G a env S=.ok (.tup x) S)(h2:ev F G b env S=.ok (.tup y) S)(h:QuO+lg y<=100000):ev F G (.bin .add a b) env S=.ok QfW S:=by rw[X7 h1 h2];simp[Xl];calc iP0 (Xk h)
def Xb3{e:Ex}{x:D}(h:ev F G e env S=.ok x S1):ev F G (.tup Qk0) env S=.ok (.tup [x]) S1:=ond (Xc h rfl) (iP0 (show 1<=big by decide))
def Xzf{a b:Ex}{x y:D}(h:ev F G a env S=.ok x S1)(h2:ev F G b env S1=.ok y S2):ev F G (.tup Q46) env S=.ok QfQ S2:=ond (Xc h (Xc h2 rfl)) (iP0 (show 2<=big by decide))
def Xkv{e:Ex}{x:D}{xs:LD}(h:ev F G e env S=.ok x S1)(B:Xi S1 x=yz xs):ev F G (.blt .len Qk0) env S=.ok Q4A S1:=by
 rw[X8 h];cases x with
 |str z=>cases B|_=>simp[X2,B]
def X38{i c:Nat}(h:env[i]?=yz QiN):ev F G (.cmp .lt QJ1 Q80) env S=.ok (.bl (decide (c<4))) S:=by calc(Yn QBT rfl).trans QWe;show yz (decide ((c:Int)<4))=_;congr 1;calc decide_eq_decide.mpr Q0
def Xzg{i j c:Nat}{x:D}{ds:LD}(hi:env[i]?=yz QQ3)(B:Xi S x=yz ds)(hs:∀t,x≠.str t)(hj:env[j]?=yz QiN)(h4:4<=c)(L:c-4<lg ds):ev F G (.idx QJ1 QaO) env S=.ok ds[c-4] S:=by
 let e:ev F G QaO env S=.ok (.int ((c-4:Nat):Int)) S:=by calc(X7 (X5 hj) rfl).trans ?_;rw[Xfe];congr 2;omega
 calc(Xbq QJO e).trans (Xa8 B hs L)
theorem Drs(F:Fn)(f:Nat)(args:LD)(P:D->Prop):Prop:=∀p S,Pot S p->∃v S1,Dw p S S1/\F f (.ref p::args) S=.ok v S1/\P v
def X39{f j:Nat}{P:D->Prop}(L:Drs F f [] P)(hp:Pot S p)(h0:env[j]?=yz QuE):∃v S1,Dw p S S1/\ev F G (.call f QSG) env S=.ok v S1/\P v:=by let⟨v,S1,h1,h2,B⟩:=L p S hp;calc⟨v,S1,h1,(Xg Qag).trans h2,B⟩
def Xqp{f j:Nat}{P:D->Prop}{e:Ex}{x:D}(L:Drs F f [x] P)(hp:Pot S p)(h0:env[j]?=yz QuE)(B:ev F G e env S=.ok x S):∃v S1,Dw p S S1/\ev F G QX9 env S=.ok v S1/\P v:=by let⟨v,S1,h1,h2,h3⟩:=L p S hp;calc⟨v,S1,h1,(X9 Qag B).trans h2,h3⟩
def Xmo{f j n:Nat}{a:Ex}{xs:LD}(hF:Tks F f)(hp:Pot S p)(h0:env[j]?=yz QuE)(L:Cl a Q5A)(hn:QL=n)(hm:0<n)(B:n<=2000):
  ∃v∈xs,∃S1,Dw p S S1/\ev F G (.idx a (.call f (.cons QR6 (.cons (.cst QSP) .nil)))) env S=.ok v S1:=by
 subst hn;calc Xqf (x:=.fro xs) hF hp h0 (X36 L S) Q32 Q40 rfl hm B
def Xae{α:Type}{xs:List α}{a k:Nat}(h:QL<=k):(xs.take a).length<=k:=V5 (List.length_take_le' ..) h
def Xev{α:Type}{xs:List α}{a k:Nat}(h:QL<=k):(xs.drop a).length<=k:=V5 QEG h
def Xal{α:Type}{xs ys:List α}{k m:Nat}(h:QL<=k)(h2:QuN<=m):QlO.length<=k+m:=by rw[Ub];calc Nat.add_le_add h h2
def Xdo{α β:Type}{xs:List α}{f:α->β}{k:Nat}(h:QL<=k):Qq9.length<=k:=by rwa [Ve]
def Xzh{α:Type}{xs m:List α}{a b k j:Nat}(h:a<=b)(L:QL<=k)(B:QBc<=j):(xs.take a++m++xs.drop b).length<=k+j:=by simp[Ub,Vah,Vb5];omega
def adk{x y i j:Nat}(h:x<=i)(h2:y<=j)(B:i+j<=100000:=by decide):x+y<=100000:=V5 (Nat.add_le_add h h2) B
def sb4{c n:Nat}(h:¬ c<4)(h2:c<n+4):c-4<n:=by omega
def Xa1{α:Type}{P:α->Prop}{xs ys:List α}(h:∀x∈xs,P x)(h2:∀x∈ys,P x):∀x∈xs++ys,P x:=λx B=>(Um.mp B).elim Qwf (h2 x)
def Xgh{α:Type}{P:α->Prop}{xs:List α}{a:Nat}(h:∀x∈xs,P x):∀x∈xs.take a,P x:=λx B=>h x (Vdn B)
def Xim{α:Type}{P:α->Prop}{xs:List α}{a:Nat}(h:∀x∈xs,P x):∀x∈xs.drop a,P x:=λx B=>h x Qkg
def Xgi{α:Type}{P:α->Prop}{y:α}(h:P y):∀x∈[y],P x:=λx B=>by rw[Vw.mp B];calc h
def Ygf{α:Type}{P:α->Prop}{y:α}(h:P y):∀x∈[y,y],P x:=Xa1 (xs:=[y]) QMg QMg
def X4a{α:Type}{P:α->Prop}{xs:List α}(h:∀x∈xs,P x):∀x∈xs.reverse,P x:=λx B=>h x Q4b
def X4b{α:Type}{xs:List α}{k:Nat}(h:QL<=k):(lg xs.reverse)<=k:=by rwa [List.length_reverse]
def Xgj{k a b a' B:Nat}{ds:LD}(h:∀d∈ds,Sm a b d)(hl:Qt3<=k)(L:a+1<=a':=by decide)(hb:k*QKZ+3<=B:=by decide):Sm a' B QKE:=Xzb h L Qx8
def X4c{k a b a' B:Nat}{ds:LD}(h:∀d∈ds,Sm a b d)(hl:Qt3<=k)(L:a+1<=a':=by decide)(hb:k*QKZ+3<=B:=by decide):Sm a' B QU6:=Yct h L Qx8
def Xoa{k B:Nat}{l:LI}(h:∀x∈l,x.natAbs<1000)(hl:QF8<=k)(hb:k*6+3<=B:=by decide){a':Nat}(L:1<=a':=by decide):Sm a' B QL6:=(Ycu h).mono L Qx8
abbrev odds:LD:=[.non,.bl yx,.bl yw,.int (-1),.int 0,.int 16,.int (10^30),.str "",.str "0,1",.tup [],.tup QLf,.fro QLf,.tup QbY,.edc,.tup [.tup QFV,.fro [.int 2]],.tup [.bl yx]]
def X7f:Cl Qh QCa:=by repeat' first|calc Xdy|calc Xej rfl|calc Xqi|calc Xqj|calc Y9 ?_ ?_|calc Xql ?_ Q1|calc Xfm ?_ Q1|calc Xqk Q8 Q8
def X7g(hF:Tks F it):∀p S,Pot S p->∃v S1,Dw p S S1/\den F G QMe QSL S=.ok v S1/\v∈odds:=λp S L=>by
 let hl:(lg odds)=16:=rfl;let⟨i,S1,h1,h2,B⟩:=Xb2 (G:=G) (env:=[yz QV,yz QCa]) (S:=S) (S1:=S) (j:=0) (m:=16) (e:=.cst (.int 16)) hF rfl rfl (.rfl' L) Q1 Q1;calc⟨odds[i],S1,h2,Xei (p:=p) (env0:=[yz QV,yy]) rfl ((Xm (i:=1) (v:=.fro odds) (S1:=S) (X36 X7f S)).trans (Xn ((Xbq (a:=.var 1) (x:=.fro odds) rfl B).trans (Xa8 (xs:=odds) rfl Q40 Q0)))) h2 ?_,Vb6 _⟩;let:odds.all pd=true:=by decide+kernel
 calc Uc.mp this _ (Vb6 _)
def Xt0:∀d∈odds,Sm 5 2000 d:=Xzd Q8
abbrev bfD:LD:=[.int 16,.int (-1),.bl yx,.bl yw,.non,.str "1",.tup QbY,.fro QCh,.int Qzg,.int 15]
def Yc0:∀d∈bfD,Sm 2 1921 d:=Xzd Q8
theorem Smn(l:LI):Prop:=∀x∈l,x.natAbs<1000
def Smn.item{l:LI}(h:Smn l){d:D}(hd:d∈l.map D.int):Sm 2 1921 d:=by let⟨x,B,rfl⟩:=Vm.mp hd;calc(Xqh x Qxf).mono Q1 Q1
def Yc1{l:LI}(hF:Tks F it)(hO:Drs F io [] (·∈odds))(hn:Smn l)(hl:l.length<=6):∀p S,Pot S p->∃v S1,Dw p S S1/\den F G QZZ [.ref p,Xa l] S=.ok v S1/\Sm 5 13500 v:=λp S hp=>by
 let ll:QQ.length=l.length:=Ve ..;let L:QQ.length<=6:=ll▸hl;let I:∀d∈l.map D.int,Sm 2 1921 d:=λd hd=>hn.item hd;let⟨c,S1,c1,c2,c3⟩:=Xb2 (G:=G) (env:=QH9) (S:=S) (S1:=S) (j:=0) (m:=10) (e:=.cst QUd) hF rfl rfl QJF Q1 Q1;let⟨a,S2,a1,a2,a3⟩:=Xb2 (G:=G) (env:=QH9) (S:=S1) (S1:=S1) (j:=0) (m:=l.length+1) (e:=.bin .add Q67 Q6) hF rfl (by calc(X7 (Xkv (e:=.var 1) (xs:=l.map D.int) rfl rfl) rfl).trans ?_;rw[Xao,ll];rfl) QkU (Nat.succ_pos _) (V5 (Vhy hl) Q1);let⟨o,o1,B,o2,o3⟩:=Xmo (G:=G) (env:=[yz QV,yz QL6,yy,yy,yz Qj5,yz Qz7]) (S:=S2) (j:=0) (a:=.frz Qu) (xs:=bfD) (n:=10) hF a2.pot rfl QL2 rfl Q1 Q1;let d3:Dw p S B:=QrV.trans o2;let so:=Yc0 o o1;let aa:∀ss,pe F G (Xyy it ss) QH9 S=pe F G ss Qv B:=λss=>QeZ.trans (Xm o3);let hv:ev F G Q2 Qv B=.ok QsH B:=rfl;let tk:=Xqo hv (show ev F G Qh5 _ B=.ok Qz7 B from rfl);let c4:=X38 (F:=F) (G:=G) (env:=Qv) (S:=B) (i:=4) (c:=c) rfl;by_cases h4:c<4
 ·rw[decide_eq_true h4]at c4;let m2:ev F G QSE Qv B=.ok (.int ((a+c%2:Nat):Int)) B:=by
   calc(X7 rfl ((X7 rfl rfl).trans (Xdx (i:=c) (show(0:Int)<2 by decide) B))).trans ?_;rw[Xao];rfl
  let r:=Xad (Xad tk (Xb3 (show ev F G Q9 _ B=.ok o B from rfl)) (adk QRK QQ8)) (Xku hv m2) (adk (Xal QRK QQ8) QRg);let sm:Sm 5 13500 (.tup (QQ.take a++[o]++QQ.drop (a+c%2))):=Xgj (Xa1 (Xa1 QNg (Xgi so)) QKg) (Xzh Qde L QQ8);calc⟨_,B,d3,Xei (p:=p) rfl QdP d3 sm.pd,sm⟩;rw[iP0 rfl,Xn r]
 rw[decide_eq_false h4]at c4;let⟨w,S4,w1,w2,w3⟩:=X39 (G:=G) (env:=Qv) (j:=0) hO d3.pot rfl;let d4:=d3.trans w1;let ab:ev F G Q2 Qv S4=.ok QsH S4:=rfl;let ae:=Xad (Xad (Xqo ab (show ev F G Qh5 _ S4=.ok Qz7 S4 from rfl)) (Xqo (n:=1) (e:=.cst QH) ab rfl) (adk QRK QRK)) (Xku ab (show ev F G Qh5 _ S4=.ok Qz7 S4 from rfl)) (adk (Xal QRK QRK) QRg);let fr:ev F G Qg6 Qv B=.ok (.fro QQ) B:=X1 (show _=_ from rfl) QV3;let all:=Xc fr (Xc (e:=.rev Q2) (x:=.tup QQ.reverse) (S1:=B) rfl (Xc (Xad hv hv (adk L L)) (Xc (Xb3 hv) (Xc w2 (Xc ae Yd)))));let sm:∀d∈QZ2,Sm 5 13500 d:=by
  calc Ycs ?_ ?_ ?_ ?_ ?_ ?_;·exact X4c I L
  ·exact Xgj (X4a I) (X4b L)
  ·rw[<-Vak];exact Xoa (Xa1 hn hn) (Xal hl hl)
  ·exact Xgj (a:=1) (b:=39) (Xgi (Xoa hn hl)) QQ8
  ·exact Qsa.mono Q1 Q1
  rw[<-Vhv,<-Vhv,<-Vhw,<-Vak,<-Vak];exact Xoa (Xa1 (Xa1 QOe QOe) (Xim hn)) (Xal (Xal QXe QXe) (Xev hl))
 let hb:=pds_bd B.length QHD;let fl:=Xa3 all Q4L w1.sim hb;generalize af:QZ2=ds at sm hb fl;let h6:Qt3=6:=by rw[<-af];rfl
 let hc:c-4<lg ds:=h6▸sb4 h4 c1;let ac:=sm _ Qke;calc⟨ds[c-4],S4,d4,Xei (p:=p) rfl QdP d4 ac.pd,ac⟩;rw[iN0 V0];calc(Xm (i:=3) fl).trans (Xn (Xzg (x:=.fro ds) rfl rfl Q40 rfl Qae hc))
def Xqq{e:Ex}{n:LL}(L:n≠[])(hl:Qz5<100000)(B:ev F G e env S=.ok Q70 S):ev F G Q78 env S=.ok QcZ S:=by
 let s:ev F G QYP env S=.ok Q7 QkH:=by rw[X8 B];show X2 .sorted [.tup Qm] S=_;simp[X2,Xi,Xih L,Xed,Xlf,iP0 hl];rfl
 rw[X8 Qya];rfl
def Xfn(a b:LL):D.tup (a.map Xa++b.map Xa)=Xb QZc:=by rw[<-Vak];rfl
theorem Rws(k:Nat)(n:LL):Prop:=lg n<=k/\∀s∈n,lg s<=7/\Smn s
def Rws.item{k:Nat}{n:LL}(h:Rws k n):∀d∈n.map Xa,Sm 1 45 d:=λd hd=>by let⟨x,B,rfl⟩:=Vm.mp hd;calc Xoa QRc.2 QRc.1
def Rws.net{k:Nat}{n:LL}(h:Rws k n)(B:k<=100):Sm 7 165000 Q70:=Xgj h.item (k:=100) (by rw[Ve];calc V5 h.1 B)
def Yc2{ib:Nat}{n:LL}(hF:Tks F it)(hO:Drs F io [] (·∈odds))(hB:∀l,Smn l->lg l<=6->Drs F ib QcI QHM)(h0:n≠[])(hn:Qz5<=11)(hs:∀s∈n,lg s<=6/\Smn s):
  ∀p S,Pot S p->∃v S1,Dw p S S1/\den F G (Xcv io ib it) QZY S=.ok v S1/\Sm 7 165000 v:=λp S hp=>by
 let ag:0<lg n:=Ve1.mpr h0;let ll:Qm.length=lg n:=Ve ..;let hm:Qm.length<=11:=ll▸hn;let⟨c,S1,c1,c2,c3⟩:=Xb2 (G:=G) (env:=Qn7) (S:=S) (S1:=S) (j:=0) (m:=13) (e:=.cst QTd) hF rfl rfl QJF Q1 Q1;let⟨a,S2,a1,a2,a3⟩:=Xb2 (G:=G) (env:=Qn7) (S:=S1) (S1:=S1) (j:=0) (m:=n.length) (e:=.blt .len Qg) hF rfl (by rw[Xkv (e:=.var 1) (xs:=n.map Xa) rfl rfl,ll]) QkU ag (V5 hn Q1);let ma:=Vb6 a1;let ac:=hs _ ma;generalize ai:n[a]=B at ac ma;let ix:ev F G QrW [yz QV,yz Q70,yy,yy,yy,yz Qj5,yz Qz7] S2=.ok QAT S2:=by calc(Xbq (a:=.var 1) (b:=.var 6) rfl rfl).trans ((Xa8 (x:=Xb n) (xs:=n.map Xa) rfl Q40 (i:=a) (ll▸a1)).trans ?_);rw[List.getElem_map,ai]
 let⟨b,L,b1,b2,b3⟩:=Xqp (G:=G) (env:=[yz QV,yz Q70,yz QAT,yy,yy,yz Qj5,yz Qz7]) (S:=S2) (j:=0) (e:=.var 2) (hB B ac.2 ac.1) a2.pot rfl rfl;let d3:Dw p S L:=QrV.trans b1;let ab:∀ss,pe F G (Xyz it ib ss) Qn7 S=pe F G ss Ql2 L:=λss=>QeZ.trans ((Xm (i:=2) ix).trans (Xm (i:=3) b2));let c4:=X38 (F:=F) (G:=G) (env:=Ql2) (S:=L) (i:=5) (c:=c) rfl;let up:∀(x4:Option D) (S:Sto),ev F G (.bin .add Q27 Q6) QS0 S=.ok (.int ((a+1:Nat):Int)) S:=λ_ _=>rfl;let hv:∀(x4:Option D) (S:Sto),ev F G Q2 QS0 S=.ok (.tup Qm) S:=λ_ _=>rfl;let tk:∀(x4:Option D) (S:Sto),ev F G Qm3 QS0 S=.ok (.tup (QZa.map Xa)) S:=λx4 S=>by rw[Vhv];exact Xqo QMc rfl
 let dr:∀(x4:Option D) (S:Sto),ev F G Qi1 QS0 S=.ok (.tup (Q7U.map Xa)) S:=λx4 S=>by rw[Vhw];exact Xku QMc (up x4 S)
 let rn:∀s∈n,lg s<=7/\Smn s:=λs h=>⟨Nat.le_succ_of_le Q5e.1,Q5e.2⟩;let rd:QIH<=7/\Smn B:=rn _ ma;let rs:∀ {m:LL} {k:Nat},(∀s∈m,lg s<=7/\Smn s)->lg m<=k->(h:k<=100:=by decide)->Sm 7 165000 Q7T:=λh1 h2 h3=>Rws.net ⟨h2,h1⟩ h3;by_cases h4:c<4
 ·rw[decide_eq_true h4]at c4;let r:=Xad (Xad Qvb (Xb3 (show ev F G QE _ L=.ok b L from rfl)) (adk QQ9 QQ8)) QVc (adk (Xal QQ9 QQ8) QzI);let sm:Sm 7 165000 (.tup (QZa.map Xa++[b]++Q7U.map Xa)):=by
   rw[Vhv,Vhw];let I:∀d∈n.map Xa,Sm 5 13500 d:=λd hd=>(Rws.item ⟨hn,rn⟩ d hd).mono Q1 Q1;exact Xgj (Xa1 (Xa1 QNg (Xgi b3)) QKg) (Xzh QJT hm QQ8)
  calc⟨_,L,d3,Xei (p:=p) rfl QcP d3 sm.pd,sm⟩;rw[iP0 rfl,Xn r]
 ·rw[decide_eq_false h4]at c4;let v2:∀(x4:Option D) (S:Sto),ev F G Q9 QS0 S=.ok QHb S:=λ_ _=>rfl;let l1:=Xad Qvb QVc (adk QQ9 QzI);let l3:=Xad QrL (Xqo (n:=1) (e:=.cst QH) QrL rfl) (adk hm (Xae hm));let l4:ev F G Qg6 Ql2 L=.ok QmN L:=X1 (show _=_ from rfl) QP1;let l5:=Xb3 QrL;let l6:=Xqq (n:=n++Qid) QA Q9N ((Xad QrL (Xb3 (Xku (n:=1) (e:=.cst QH) (v2 yy L) rfl)) QoX).trans (by rw[<-Vhw];calc congrArg Q9d (Xfn n Qid)));let all1:=Xc l1 (Xc (e:=.rev Q2) (x:=.tup Qm.reverse) (S1:=L) rfl (Xc l3 (Xc l4 (Xc l5 (Xc l6 Yd)))));let ae:∀d∈Qd1,Sm 7 165000 d:=by
   calc Ycs ?_ ?_ ?_ ?_ ?_ ?_;·rw[Xfn];exact rs (Xa1 Q6W QLe) (Xal QCW QSe)
   ·rw[<-List.map_reverse];exact rs (X4a rn) (X4b hn)
   ·rw[<-Vhv,Xfn];exact rs (Xa1 rn Q6W) (Xal hn QCW)
   ·exact X4c Q8L hm
   ·exact Xgj (a:=6) (b:=1000) (Xgi (Xgj Q8L hm)) QQ8
   exact rs (λs h=>Xa1 rn (Xgi ⟨V5 QEG rd.1,Xim rd.2⟩) s QOS) QMI
  let f1:=Xa3 all1 Q4L .rfl' (pds_bd L.length (pds_iff.mpr λd hd=>(ae d hd).pd));generalize aj:Qd1=ds at ae f1;let h6:Qt3=6:=by rw[<-aj];rfl
  let⟨w,S4,w1,w2,w3⟩:=X39 (G:=G) (env:=[yz QV,yz Q70,yz QAT,yz b,yz QU6,yz Qj5,yz Qz7]) (j:=0) hO d3.pot rfl;let d4:=d3.trans w1;let k1:=Xqq (n:=n++QWN) QA Q9N ((Xad (hv QeG L) (Xb3 (Xad (v2 QeG L) (Xb3 (e:=.cst QVM) (x:=.int 15) rfl) (adk (Xdo rd.1) QQ8))) QoX).trans (by rw[show D.tup (B.map D.int++[.int 15])=Xa QFd by unfold Xa;rw[Vak];rfl];calc congrArg Q9d (Xfn n QWN)));let k3:=Xad (Xad (tk QeG S4) (Xzf QqY QqY) (adk QQ9 Qwc)) (dr QeG S4) (adk (Xal QQ9 Qwc) QzI);let Xqg:=Xc k1 (Xc w2 (Xc k3 Yd));let af:∀d∈[Xb Q1W,w,.tup Q81],Sm 7 165000 d:=by
   calc Ycq ?_ ?_ ?_;·exact rs (λs h=>Xa1 rn (Xgi ⟨show QFd.length<=6+1 from Xal ac.1 QQ8,Xa1 rd.2 (Xgi Q1)⟩) s QOS) QMI
   ·exact Qsa.mono Q1 Q1
   let e:D.tup Q81=Xb (n.take a++[B,B]++n.drop (a+1)):=by rw[<-Xfn,Vak];rfl
   rw[e];exact rs (Xa1 (Xa1 Q6W (Ygf rd)) QLe) (Xal (Xal QCW Qwc) QSe)
  let f2:=Xa3 Xqg Q5L w1.sim (pds_bd L.length (pds_iff.mpr λd hd=>(af d hd).pd));generalize ak:[Xb Q1W,w,D.tup Q81]=aa at af f2;let h3:(lg aa)=3:=by rw[<-ak];rfl
  let sm:∀d∈ds++aa,Sm 7 165000 d:=λd hd=>(Um.mp hd).elim (ae d) (af d);let f3:=Xea (xs:=ds++aa) ((X7 (a:=.var 4) rfl f2).trans (Xii ds aa (Xk (by rw[h6,h3];decide)) S4)) w1.sim (pds_bd L.length QHD);let hc:c-4<QpV.length:=by rw[Ub,h6,h3];exact sb4 h4 c1
  let ah:=sm _ Qke;calc⟨QpV[c-4],S4,d4,Xei (p:=p) rfl QcP d4 ah.pd,ah⟩;rw[iN0 V0];calc(Xm (i:=4) f1).trans ((Xm (i:=4) f3).trans (Xn (Xzg (x:=.fro QpV) rfl rfl Q40 rfl Qae hc)))
universe e
structure Fc(s:LI):Prop where
 pw:s.Pairwise Qu1
 l6:QXX<=6
 r15:∀x∈s,0<=x/\x<=15
def Fc.smn{s:LI}(h:Fc s):Smn s:=λx B=>by let:=h.r15 x B;omega
def Fc.fac{s:LI}(h:Fc s):Yk QcH=true:=by
 let e:QjJ=true:=by rw[Vfq,Uc];intro x B;let:=h.r15 x B;simp[Vhu,wi,bA0,decide_eq_true_eq];exact this
 show(decide (QQA.length<=6)&&(QjJ&&riz (Xh QcH)))=yx;rw[e,ints_of,Ve,decide_eq_true h.l6,(Xqb s).mpr h.pw];rfl
def lie_sub{a b:LI}:lie a b=yx ↔ ∀x∈a,x∈b:=by unfold lie;rw[Uc];calc forall_congr' λx=>forall_congr' λ_=>decide_eq_true_iff
def Xhg:∀(l m:LI),l.Nodup->(∀x∈l,x∈m)->lg l<=lg m
 |[],_=>λ_ _=>Vaq _|x::l,m=>λh hs=>by let⟨h1,h2⟩:=Vdi.mp h;let:=Xhg l (m.erase x) h2 λy B=>(List.mem_erase_of_ne λe=>h1 (by rw[<-e];calc B)).mpr (hs y Q17);let e:=List.length_erase_of_mem QNc;let:=List.length_pos_of_mem QNc;rw[Ux];omega
def Yc3{f o:LI}(L:f.Pairwise Qu1)(ho:o.Pairwise Qu1)(h:∀x∈f,x∈o)(hl:(lg o)<=lg f):o=f:=by
 let nd:f.Nodup:=L.imp λh=>Int.ne_of_lt h;exact Xgg ho L λx=>⟨λhx=>?_,h x⟩;by_cases c:x∈f;·exact c
 ·let:=Xhg (x::f) o (Vdi.mpr ⟨c,nd⟩) (λy B=>by
   rcases Vr.mp B with rfl|B;·exact hx
   ·calc h y B)
  rw[Ux]at this;omega
def Xzi:∀ {ks:LL},ks≠[]->∃f∈ks,∀o∈ks,lg o<=lg f
 |[],h=>aB0 rfl h|[k],_=>⟨k,by simp!,λo B=>by rw[Vw.mp B];calc Vi _⟩|k::l::r,_=>by
  let⟨f,h1,h2⟩:=Xzi (ks:=l::r) QA;by_cases c:QcS<=lg f
  ·exact⟨f,V2 _ h1,λo B=>by
    rcases Vr.mp B with rfl|B;·exact c
    ·calc h2 o B⟩
  exact⟨k,V6 ..,λo B=>by
   rcases Vr.mp B with rfl|B;·exact Vi _
   ·let:=h2 o B;omega⟩
def Xin{ks:LL}{y:LI}(h:y∈grt ks):y∈ks:=ddL_mem.mp (srtC_mem.mp (Ui.mp h).1)
def Xmp(ks:LL):QUA.length<=lg ks:=V5 QBE (by rw[Xcx];calc Xeg ks)
def Yc4{ks:LL}(h0:ks≠[])(L:∀s∈ks,s.Pairwise Qu1):grt ks≠[]:=by
 let⟨f,h1,h2⟩:=Xzi h0;calc Vjc (Ui.mpr ⟨srtC_mem.mpr (ddL_mem.mpr h1),Uc.mpr λo B=>?_⟩);rw[Vbc];cases q:lie f o with
 |false=>calc .inr rfl|true=>calc .inl (decide_eq_true (Yc3 (L f h1) (L o B) (lie_sub.mp q) (h2 o B)))
def Xhh(ks:LL):PwL QUA:=Q6T.filter _
structure Nt(k:Nat)(n:LL):Prop where
 ne:n≠[]
 len:Qz5<=k
 fc:∀s∈n,Fc s
 pw:PwL n
 nsn:Xge n=yw
def Yc5{k:Nat}{ks:LL}(L:ks≠[])(hk:QS7<=k)(B:∀s∈ks,Fc s):Nt k QUA where
 ne:=Yc4 L λs h=>(B s h).pw
 len:=V5 (Xmp ks) hk
 fc:=λs h=>B s (Xin h)
 pw:=Xhh ks
 nsn:=by
  unfold Xge;rw[Vjm];intro f hf z;unfold liA at z;let⟨o,ho,z⟩:=Vbp.mp z;rw[bA0]at z;let:=Uc.mp (Ui.mp hf).2 o (Xin ho);rw[Vbc,z.1,decide_eq_true_eq]at this;rcases this with e|e;·rw[e]at z;simp! at z
  ·cases e
def Nt.isN{k:Nat}{n:LL}(h:Nt k n)(hk:k<=60):Y2 Q70=true:=by
 let e:Qm.map Xh=n:=by rw[Var];exact(Viq λs _=>ints_of s).trans (List.map_id n)
 let hl:=h.len;let L:=Ve1.mpr h.ne;let B:Qm.all Yk=true:=by rw[Vfq,Uc];exact λs hs=>QI8.fac
 show((decide (1<=Qm.length)&&decide (Qm.length<=60))&&(Qm.all Yk&&(rzL QuZ && !Xge QuZ)))=yx;rw[e,B,Ve,decide_eq_true (show 1<=lg n by omega),decide_eq_true (show Qz5<=60 by omega),QQZ.mpr h.pw,h.nsn];rfl
section
variable{F:Fn}{G:LD}{S S1 S2:Sto}{env:En}{p it:Nat}
def Xt1(n:Nat)(o:O)(h:bdO QD o=yx):Sim S QsZ:=⟨Vck,λj q e=>by
 by_cases c:n=j;·subst c;let hl:=QAM.1;rw[Vck]at hl;rw[Vap hl]at e;cases e;exact .inr h
 ·rw[Vay c]at e
  calc .inl e⟩
def Sim.trans(a:Sim S S1)(b:Sim S1 S2):Sim S S2:=⟨b.1.trans a.1,λi o e=>by
 rcases b.2 i o e with h|h;·exact a.2 i o h
 ·calc .inr (by rw[<-a.1];calc h)⟩
def Xzj{n:Nat}{xs:LD}(h:S[n]?=yz QD1):lstAt S n=yz xs:=by unfold lstAt;rw[h]
def Yc6{i n:Nat}{xs:LD}(hi:env[i]?=yz Q3K)(B:S[n]?=yz QD1)(L:bdDs QD xs=yx):ev F G QZb env S=.ok Q5A QiC:=by show gcR S (Xba (ev F G QJ1 env S))=_;rw[X5 hi];simp[Xba,B];let hs:Sim S QiC:=Xt1 _ _ rfl;let:=Xd9 (d:=.fro xs) hs L [];rw[Va4]at this;calc this
def Yc7{i n:Nat}{e:Ex}{v:D}{xs:LD}(hi:env[i]?=yz Q3K)(h1:Qv4.isSome=yx)(B:ev F G e env S=.ok v S1)(L:S1[n]?=yz QD1)(hz:QL<big):ev F G QFL env S=.ok .non (S1.set n (.lst Qpb)):=by let l:lstM S1 n=yz xs:=Xzj L;rw[Xf9 QJO h1 B];simp[Y5,l,iP0 hz]
def Xt2{get:Sto->Nat->Option Qw3}{t:Tg}{body:En->LD->Sto->R (LD)}(zs:LD)(T:D->En)(P:Nat->LD->Sto->Prop)(hs:∀i B S,P i B S->get S i=yz zs[i]?)(hT:∀x∈zs,∀y∈zs,Xx t x Q6d=yz Q5J)
  (hb:∀i x B S,zs[i]?=yz x->P i B S->∃L S',body Q5J B S=.ok L S'/\P QX2 L S'):
  ∀(n i:Nat) (e:En) (B:LD) (S:Sto),lg zs-i<n->i<=lg zs->QP7->P i B S->∃L S',Yz get t body n i e B S=.ok L S'/\P QTA L S'
 |0=>λi e B S h=>aB0 h QW7|n+1=>λi e B S h hi h0 hP=>by
  rw[Yz,hs i B S hP];cases q:zs[i]? with
  |none=>
   let:i=lg zs:=by let:=U3.mp q;omega
   subst this;calc⟨B,S,rfl,hP⟩|some x=>let hx:=V7 q;let lt:=QdH.1;let⟨L,S',h1,h2⟩:=hb i x B S q hP;dsimp;rw[h0 x hx];dsimp;rw[h1];calc Xt2 zs T P hs hT hb n QX2 _ L S' Q0 Q0 (λy hy=>hT y hy x hx) h2
def Yc8{n i:Nat}{it:It}{elt:Ex}(zs:LD)(P:Nat->LD->Sto->Prop)(hi:evit F G it env S=.ok QsB S1)(h0:P 0 [] S1)
  (hb:∀j x B S,zs[j]?=yz x->P j B S->lg B<big/\∃y S',ev F G elt Qy4 S=.ok y S'/\P QwC QKP S'):
  ∃L S',ev F G QS2 env S=.ok (.ref (lg S')) (S'++Q9h)/\P QTA L S':=by
 let⟨L,S',h1,h2⟩:=Xt2 (get:=QA9.get) (t:=.var i) (body:=Xak (λenv S=>evts F G .nil env S) λenv B S=>(ev F G elt env S).bind λy S=>if QIH<big then .ok QKP S else .bad) zs QrM P QGR Qn4
  (λj x B S hx hP=>by let⟨hz,y,S',e1,e2⟩:=hb j x B S hx hP;calc⟨B++[y],S',?_,e2⟩;show(ev F G elt Qy4 S).bind _=_;rw[e1,Rk0,iP0 hz]) QZT 0 Q60 [] S1 Qe6 QS8 QB2 h0
 calc⟨L,S',?_,h2⟩;calc ond hi (ond h1 rfl)
def Xzk:∀(l:LI) (a:Nat),QQ.eraseIdx a=(l.eraseIdx a).map D.int
 |[],_=>rfl|_::_,0=>rfl|x::l,a+1=>congrArg _ (Xzk l a)
def Xkw:∀(l:LI) (a:Nat) (h:a<lg l),(l[a]::l.eraseIdx a).Perm l
 |x::l,0,h=>Vcc _|x::l,a+1,h=>by let ih:=Xkw l a Q72;rw[List.eraseIdx_cons_succ,List.getElem_cons_succ];calc QgZ.trans (List.Perm.cons x ih)
def Xv0{far:Nat}{ps L:LI}(h:Qef.Perm Qa1):ps.Nodup/\∀x∈ps,0<=x/\x<far:=by
 let nd:Qa1.Nodup:=by calc List.Pairwise.map _ (λa b h=>?_) List.nodup_range;intro z;exact h (Int.ofNat.inj z)
 let B:=h.nodup_iff.mpr nd;calc⟨(Vb9.mp B).1,λx hx=>?_⟩;let hm:=h.mem_iff.mp (Vbk L hx);let⟨i,hi,rfl⟩:=Vm.mp hm;let:=Va1.mp hi;constructor;·exact Vgv i
 ·calc Int.ofNat_lt.mpr this
def Yc9{l:LI}(h:l.Pairwise QHI)(nd:l.Nodup):l.Pairwise Qu1:=(h.and nd).imp λh=>by omega
def X7h{jp jl jw jx:Nat}{far w:Nat}{B:Sto}(hF:Tks F it)(hp:Pot B p)(h0:env[jp]?=yz QuE)(hl:env[jl]?=yz (yz (.ref B.length)))(hw:env[jw]?=yz (yz QmW))(hx:jp<lg env/\jl<lg env)(hj:Q3e<jx)(al:w<=far)(ak:w<=6)(hf:far<=16):
  ∃s L B',Fc s/\Dw p B B'/\ev F G (.blt .tuple (.cons (.frz QR0) .nil)) env (B++QoC)=.ok QcH (B'++Q9h):=by
 let ah:((Vv far).map λk:Nat=>D.int k)=Qa1.map D.int:=by rw[Var];rfl
 rw[ah];let ab:∀(j:Nat) (x:D) (v:Option D),j<lg env->Qh8[j]?=env[j]?:=λj x v h=>by rw[Vay Q0,Vy h]
 let⟨aj,S',e1,B',L,ps,rfl,d1,rfl,l1,pm⟩:=Yc8 (F:=F) (G:=G) (env:=env) (S:=B++Qm4) (S1:=B++Qm4) (n:=2) (i:=jx) (it:=.rng (.cons (.var jw) .nil)) (elt:=.mth .popi (.var jl) (.cons (.call it (.cons (.var jp) (.cons (.blt .len QHL) .nil))) .nil))
  (Qfh.map λk:Nat=>.int k) (λi af S'=>∃B' L ps,S'=B'++QGA/\Dw p B B'/\af=ps.map D.int/\Qp5=i/\Qef.Perm Qa1)
  (Xb1 (n:=w) (by rw[X5 hw]) Q0) ⟨B,_,[],rfl,.rfl' hp,rfl,rfl,Vcc _⟩ (λj x af S' ai hP=>by
   let⟨B',L,ps,rfl,d1,rfl,l1,pm⟩:=hP;let am:j<w:=by let:=(Vk.mp ai).1;simpa using this
   let aa:=pm.length_eq;rw[Ub,Ve,U6]at aa;let g0:Qh8[jp]?=yz QuE:=by rw[ab jp x yy hx.1];exact h0
   let g1:Qh8[jl]?=yz (yz QjR):=by rw[ab jl x yy hx.2,hl,d1.len]
   let la:∀(B:Sto) (xs:LD),lstAt (B++QMf) QIH=yz xs:=λB xs=>Xbi B xs;let⟨a,S2,a1,a2,a3⟩:=Xb2 (G:=G) (env:=(env++Vn 2 yy).set jx QQ3) (S:=B'++QGA) (S1:=B'++QGA) (j:=jp) (m:=L.length) (e:=.blt .len QHL) hF g0 (by rw[Xkv (xs:=L.map D.int) Qbg (la B' _),Ve]) (.rfl' (d1.pot.app _)) Q0 Q0;let⟨B2,rfl,d2⟩:=Dw.inv d1.pot a2;let ag:Z.ixN Q12.length (a:Int)=yz a:=by unfold Z.ixN;rw[iP0 Q0,iP0 QtS];simp!
   let hg:Q12[a]?=yz (.int L[a]):=by rw[Ud,U7 a1];rfl
   let hb:Q12.length<big:=Uu (show _<=99 by rw[Ve];omega) Q1;let lm:lstM (B2++QGA) (lg B')=yz Q12:=by rw[<-d2.len];exact la B2 _
   exact⟨Uu (show _<=99 by rw[Ve];omega) Q1,.int L[a],B2++[.lst ((L.eraseIdx a).map D.int)],?_,B2,L.eraseIdx a,ps++[L[a]],rfl,d1.trans d2,by rw[Vak];rfl,by rw[Ub,l1];rfl,?_⟩
   ·let rc:Xat .popi QjR QGd=true:=by simp[Xat,la,Option.isSome]
    rw[Xf9 Qbg rc a3];simp[Y5,lm,ag,hg,iP0 hb];rw[Xzk,<-d2.len,Xa0]
   rw[Uj,Vh8]
   calc((Xkw L a a1).append_left ps).trans pm)
 let⟨nd,mm⟩:=Xv0 pm;rw[Ve,U6]at l1;let aa:=pm.length_eq;rw[Ub,Ve,U6]at aa;let ac:Sim Qve QGd:=(d1.app Qm4).sim.trans (by rw[<-Xa0 B' (.lst (Qa1.map D.int)) (.lst Q12)];calc Xt1 _ _ QV3);let f1:=Xea e1 ac QV3;let hs:ev F G QR0 env Qve=.ok (.ref (B'++[O.lst Q12]).length) (B'++QGA++[.lst ((Xbr ps).map D.int)]):=by rw[X8 f1];simp[X2,Xi,Yw];rw[iP0 Q0]
 let ae:=Xar ps;calc⟨Xbr ps,L.map D.int,B',⟨Yc9 (Xhy ps) (ae.nodup_iff.mpr nd),by rw[ae.length_eq];omega,λx hx=>by let:=mm x (ae.mem_iff.mp hx);omega⟩,d1,?_⟩;rw[X8 (Xea hs ac QV3)];rfl
universe e
def Xmq(B:Sto)(o:O)(X:Sto):QEd[B.length]?=yz o:=by rw[Vac Qd,Nat.sub_self];rfl
def Xt3(B:Sto)(o o':O)(X:Sto):QEd.set B.length o'=B++o'::X:=by rw[Vfp _ _ Qd,Nat.sub_self];rfl
section
variable{F:Fn}{G:LD}{S S1 S2:Sto}{env:En}{p it:Nat}
def Xv1{f j n c M:Nat}{ci ni:Int}{a:Ex}{ms:LN}(hF:Tks F f)(hp:Pot S p)(h0:env[j]?=yz QuE)(ha:Cl a (.fro (ms.map λm:Nat=>.int m)))(hn:(lg ms)=n)(h1:0<n)(h2:n<=2000)(hm:∀m∈ms,0<m/\m<=M)(hM:M<=2000)(B:ci=(c:Int):=by rfl)(aa:ni=(n:Int):=by rfl):
  ∃(y:Nat) (S1:Sto),(c<=y/\y<c+M)/\Dw p S S1/\ev F G (.bin .add (.cst (.int ci)) (.call f (.cons QR6 (.cons (.idx a (.call f (.cons QR6 (.cons (.cst (.int ni)) .nil)))) .nil)))) env S=.ok QkW S1:=by
 subst B aa;let⟨v,hv,S2,b1,b2⟩:=Xmo (G:=G) hF hp h0 ha (by rw[Ve,hn]) h1 h2;let⟨m,L,rfl⟩:=Vm.mp hv;let:=hm m L;let⟨x,S3,c1,c2,c3⟩:=Xb2 (G:=G) (m:=m) hF h0 b2 b1 this.1 Q0;calc⟨c+x,S3,by omega,c2,(X7 rfl c3).trans ?_⟩;rw[Xao];rfl
def Yff{lv y siz:Nat}(h:lv<3)(B:y<=6)(hs:siz<=6):∃z:Nat,z<=6/\([D.int (y:Nat),.int (siz:Nat),.int (siz:Nat)])[lv]=.int (z:Nat):=by
 rcases (by omega:lv=0\/lv=1\/lv=2) with rfl|rfl|rfl;·exact⟨y,B,rfl⟩
 ·exact QtT
 calc QtT
def Yda{f lv far siz:Nat}{x4 x5 x6 x7:Option D}(hF:Tks F f)(hp:Pot S p)(h3:lv<3)(h6:siz<=6):
  ∃w S1,w<=far/\w<=6/\Dw p S S1/\ev F G (.blt .min (.cons Q9 (.cons (.idx (.frz (.lst (.cons (.call f Q15) QlK))) Q2) .nil))) QE6 S=.ok Qc5 S1:=by
 let⟨y,S1,a1,L,a3⟩:=Xb2 (G:=G) (env:=QE6) (j:=0) (m:=7) (e:=.cst (.int 7)) hF rfl rfl QJF Q1 Q1;let fl:=Xa3 (Xc a3 (Xc (e:=.var 3) (x:=.int (siz:Nat)) (S1:=S1) rfl (Xc (e:=.var 3) (x:=.int (siz:Nat)) (S1:=S1) rfl Yd))) Q5L L.sim rfl;let B:=(Xbq fl (show ev F G Q2 _ S1=.ok Qj1 S1 from rfl)).trans (Xa8 (xs:=[.int (y:Nat),.int (siz:Nat),.int (siz:Nat)]) rfl Q40 h3);obtain⟨z,hz,ez⟩:∃z:Nat,z<=6/\([D.int (y:Nat),.int (siz:Nat),.int (siz:Nat)])[lv]=.int (z:Nat):=Yff h3 Q0 h6;rw[ez]at B;calc⟨if z<far then z else far,S1,by split<;>omega,by split<;>omega,L,?_⟩;let e1:∀env:En,env[2]?=yz Qsd->∀e,ev F G e env S=.ok (.int (z:Nat)) S1->ev F G (.blt .min (.cons Q9 Qk0)) env S=.ok (.int (if (z:Int)<(far:Int) then (z:Int) else (far:Int))) S1:=λenv h e he=>ond (Xc QBT (Xc he Yd)) rfl;rw[e1 _ rfl _ B];congr 2;split<;>split<;>omega
def Ydb:Cl QWb (.fro (Q7h.map λm:Nat=>.int m)):=Xfm Q6P Q1
def Ydc:Cl QYb (.fro ([3,4,6].map λm:Nat=>.int m)):=Xfm Q6P Q1
def Ydd:Cl QkQ (.fro ([4,11].map λm:Nat=>.int m)):=Xfm QI6 Q1
def Yfg{i far:Nat}(h:env[i]?=yz Qsd)(B:far<1048576):ev F G (.lrg yw QpR) env S=.ok Q7 (S++QoC):=ond (Xc QBT Yd) (by rw[Xtu far B];rfl)
inductive LnI(p lv far siz:Nat)(S3:Sto):Nat->En->Sto->Prop
 |mk {B:Sto} {ks:LL} {i:Nat} (X:Sto) (x5 x6 x7:Option D) (dB:Dw p S3 B) (lk:QS7=i) (fk:∀s∈ks,Fc s):LnI p lv far siz S3 i [yz QV,yz Qj1,yz QPG,yz (.int (siz:Nat)),yz QO3,x5,x6,x7] Qwe
def X2w{ig:Nat}(hF:Tks F it)(hG:∀ks S,lg ks<1000->(∀s∈ks,lg s<=big)->F ig QVY S=.ok Q9P S):∀p S,Pot S p->∃v S1,Dw p S S1/\den F G QFO QSL S=.ok v S1/\∃n,v=Xb n/\Nt 11 n:=λp S hp=>by
 let⟨lv,S1,a1,a2,a3⟩:=Xb2 (G:=G) (env:=QFI) (S:=S) (S1:=S) (j:=0) (m:=3) (e:=.cst (.int 3)) hF rfl rfl QJF Q1 Q1;let⟨aa,S2,b1,b2,b3⟩:=Xv1 (G:=G) (env:=[yz QV,yz Qj1,yy,yy,yy,yy,yy,yy]) (S:=S1) (j:=0) (c:=2) (n:=3) (ci:=2) (ni:=3) (M:=15) (a:=.frz QV1) (ms:=Q7h) hF a2.pot rfl Ydb rfl Q1 Q1 Q1 Q1;let⟨ab,S3,c1,c2,c3⟩:=Xv1 (G:=G) (env:=[yz QV,yz Qj1,yz Q05,yy,yy,yy,yy,yy]) (S:=S2) (j:=0) (c:=1) (n:=3) (ci:=1) (ni:=3) (M:=6) (a:=.frz QO2) (ms:=[3,4,6]) hF b2.pot rfl Ydc rfl Q1 Q1 Q1 Q1;let d3:Dw p S S3:=(a2.trans b2).trans c2;let l3:(lg S3)=lg S:=d3.len;let⟨tn,S4,t1,t2,t3⟩:=Xv1 (G:=G) (env:=QmA) (S:=S3++Q44) (j:=0) (c:=1) (n:=2) (ci:=1) (ni:=2) (M:=11) (a:=.frz QZ1) (ms:=[4,11]) hF (d3.pot.app _) rfl Ydd rfl Q1 Q1 Q1 Q1;let⟨B4,rfl,d4⟩:=Dw.inv d3.pot t2;let aj:=Xb1 t3 Q0;let fp:=Xbh (F:=F) (G:=G) (env:=QmA) (S:=S3++Q44) (S1:=B4++Q44) (t:=.var 5) (it:=.rng (.cons (.bin .add Q6 (.call it (.cons Q4 (.cons (.idx QkQ (.call it QqU)) .nil)))) .nil)) (ss:=.cons (.ret (.call ig QJL)) .nil)
  (b:=.cons QpK (.cons (.asg QfK (.blt .min (.cons Q9 (.cons (.idx (.frz (.lst (.cons (.call it Q15) QlK))) Q2) .nil)))) (.cons (.expr (.mth .append Qq (.cons (.blt .tuple (.cons (.frz (.blt .sorted (.cons (.frz (.cmr yw 2 QZ7 (.mth .popi Q27 (.cons (.call it Q68) .nil)))) .nil))) .nil)) .nil))) .nil)))
  (Qfg.map λk:Nat=>.int k) (LnI p lv aa ab S3)
 let⟨e',S',h1,hP⟩:=fp aj (.mk (ks:=[]) [] yy yy yy d4 rfl λs h=>nomatch h) (λi d e S' hd hP=>by
   let⟨X,x5,x6,x7,dB,lk,fk⟩:=hP;rename_i B ks;let hi:i<tn:=by let:=(Vk.mp hd).1;simpa using this
   generalize ah:B++QAJ=T0;let pT:Pot T0 p:=ah▸dB.pot.app _;let r1:ev F G (.lrg yw Qi) [yz QV,yz Qj1,yz Q05,yz QT6,yz QO3,yz d,x6,x7] T0=.ok QMG (T0++QFD):=Yfg rfl Q0;let⟨w,S5,w1,w2,w3,w4⟩:=Yda (G:=G) (S:=T0++QFD) (p:=p) (lv:=lv) (far:=aa) (siz:=ab) (x4:=yz QO3) (x5:=yz d) (x6:=yz QMG) (x7:=x7) hF (pT.app _) a1 Q0;let⟨T1,rfl,dT⟩:=Dw.inv pT w3;let lT:(lg T1)=lg T0:=dT.len;let⟨s,L,B',fs,ai,fe⟩:=X7h (G:=G) (env:=[yz QV,yz Qj1,yz Q05,yz QT6,yz QO3,yz d,yz QMG,yz Qc5]) (jp:=0) (jl:=6) (jw:=7) (jx:=9) (far:=aa) (w:=w) (B:=T1) hF dT.pot rfl (by rw[lT];rfl) rfl ⟨by show 0<8;decide,by show 6<8;decide⟩ (by show 8<9;decide) w1 w2 Q0;subst ah;let⟨B1,rfl,ac⟩:=Dw.inv dB.pot dT;let⟨B2,rfl,ae⟩:=Dw.inv ac.pot ai;let lb:QIH=lg S3:=dB.len;let ag:(lg B1)=lg S3:=ac.len.trans lb;let af:(lg B2)=lg S3:=ae.len.trans ag;let ap:=Yc7 (F:=F) (G:=G) (env:=[yz QV,yz Qj1,yz Q05,yz QT6,yz QO3,yz d,yz (.ref Qwe.length),yz Qc5]) (i:=4) (n:=S3.length) (xs:=ks.map Xa) rfl (by rw[Uj,Vh0,Xzj (by rw[<-ag];calc Xmq _ _ _)];rfl) fe (by rw[Uj,Vh0,<-af];calc Xmq _ _ _) (by rw[Ve];calc Uu (show _<=99 by omega) Q1);let hS:(B2++O.lst Qd3::X++QKf).set S3.length (O.lst (ks.map Xa++[Xa s]))=B2++(O.lst ((ks++[s]).map Xa)::(X++QKf)):=by rw[Uj,Vh0,<-af,Xt3,Vak];rfl
   rw[hS]at ap;calc⟨_,_,_,rfl,(Xm (i:=6) r1).trans ((Xm (i:=7) w4).trans (Xbg ap)),.mk _ _ _ _ ((dB.trans ac).trans ae) (by rw[Ub,lk];rfl) λt ht=>(Um.mp ht).elim (fk t) λh=>by rw[Vw.mp h];calc fs⟩)
 generalize hL:(Qfg.map λk:Nat=>D.int k).length=N at hP;rw[Ve,U6]at hL;let⟨X,x5,x6,x7,dB,lk,fk⟩:=hP;rename_i B ks;rw[<-hL]at lk;let lb:QIH=lg S3:=dB.len;let fz:=Yc6 (F:=F) (G:=G) (S:=B++(.lst Qd3::X)) (env:=[yz QV,yz Qj1,yz Q05,yz QT6,yz QO3,x5,x6,x7]) (i:=4) (n:=S3.length) (xs:=ks.map Xa) rfl (by rw[<-lb];calc Xmq _ _ _) QP1;rw[<-lb,Xt3]at fz;rw[<-lb]at h1;let r:=Xn (ss:=.nil) ((Xg fz).trans (hG ks QCY Q0 λs h=>Xk (by let:=(fk s h).l6;omega)));let nt:Nt 11 QUA:=Yc5 (by intro z;rw[z]at lk;simp! at lk;omega) Q0 fk;let d5:Dw p S B:=d3.trans dB;let body:pe F G QFO.body QFI S=.ok (.rt Q9P) QCY:=by calc(Xm (i:=1) a3).trans ((Xm (i:=2) b3).trans ((Xm (i:=3) c3).trans ((Xm (i:=4) (v:=.ref B.length) (S1:=S3++Q44) (by rw[lb];rfl)).trans ?_)));exact h1.trans r
 calc⟨_,B,d5,Xa2 (X:=.ded::X) rfl body d5.sim QYH,_,rfl,nt⟩
universe e
def Yde{l s:LI}(hl:l.Pairwise Qu1)(hs:s.Pairwise Qu1)(h:∀x∈l,x∈s):l.Sublist s:=by
 let e:s.filter (λx=>decide QSf)=l:=Xgg (hs.filter _) hl λx=>by rw[Ui,decide_eq_true_eq];exact⟨λz=>z.2,λz=>⟨h x z,z⟩⟩
 rw[<-e];calc Vir
def Ydf{l s:LI}(hl:l.Pairwise Qu1)(hs:s.Pairwise Qu1):lie l s=yx ↔ l.Sublist s:=lie_sub.trans ⟨Yde hl hs,λh x B=>h.subset B⟩
def Xzl{k:Nat}{n:LL}(h:Nt k n)(d:D):Xaa n d=(Yk d&&decide (Xh d∈fcs n)):=by
 unfold Xaa;cases e:Yk d with
 |false=>rfl|true=>let⟨l,rfl,_,_,B⟩:=Xfj e;rw[Vbg,Vbg,ints_of,Vcd,Vbp,decide_eq_true_eq,mem_fcs];calc exists_congr λs=>and_congr_right λhs=>Ydf ((Xqb l).mp B) QI8.pw
def Fc.sub{l s:LI}(h:Fc s)(hl:l.Sublist s):Fc l:=⟨h.pw.sublist hl,V5 hl.length_le h.l6,λx B=>h.r15 x (hl.subset B)⟩
def Xci{k:Nat}{n:LL}(h:Nt k n){l:LI}(hl:l∈fcs n):Fc l:=by let⟨s,hs,h2⟩:=mem_fcs.mp hl;calc QI8.sub h2
def Xqr{k:Nat}{n:LL}(h:Nt k n):fcs n≠[]:=by let⟨s,hs⟩:=Vju n h.ne;calc Vjc QSA
def Xkx{k:Nat}{n:LL}(h:Nt k n):QB1.length<=64*k:=by unfold fcs;rw[Xcx];calc V5 (Xml λs hs=>QI8.l6) (by let:=h.len;omega)
structure Two(G:LD)(g1 g2 f1 f2:Nat):Prop where
 ex:∃n1 n2,G[g1]?=yz (.fn f1 n1)/\G[g2]?=yz (.fn f2 n2)/\Xcc f1 n1 G=yx/\Xcc f2 n2 G=yx
section
variable{F:Fn}{G:LD}{S:Sto}
def Xt4{e:Ex}{env:En}{xs:LD}{X:Sto}(h:ev F G e env S=.ok QgQ (S++X++QMf))(B:bdDs QD xs=yx):ev F G QtW env S=.ok Q5A S:=by show gcR S Qsc=_;rw[h];simp[Xba,Yy,Xa0];rw[Uj];calc Xd9 (d:=.fro xs) .rfl' B _
def X7i(S:Sto)(d:D):Xl .mul Q7 QTP (S++[.lst [d]])=.ok QEL (S++QeD++[.lst [d,d]]):=by simp[Xl,lstM,Yy];calc iP0 ⟨by decide,Q8B,by decide⟩
universe e
structure TNet(T:List Df)(G:LD)(iw ii ir isn ia ins ila il ih ic g1 g2 g3:Nat):Prop where
 w:T[iw]?=yz Xga
 i:T[ii]?=yz (Xbw iw)
 r:T[ir]?=yz Xbz
 n:T[isn]?=yz (Xjr ins ir ia g3)
 a:T[ia]?=yz (Xdd ir ii g1 g2)
 s:T[ins]?=yz (Xe3 ila)
 la:T[ila]?=yz QUe
 l:T[il]?=yz Xhb
 h:T[ih]?=yz QUZ
 c:T[ic]?=yz (Xc3 isn)
 e1:G[g1]?=yz QVM
 e2:G[g2]?=yz QOE
 e3:G[g3]?=yz QSd
section
variable{T:List Df}{G:LD}{iw ii ir isn ia ins ila il ih ic g1 g2 g3:Nat}
def TNet.fwi(H:TNet T G iw ii ir isn ia ins ila il ih ic g1 g2 g3)(k:Nat){d:D}(hd:pd d=yx)(B hi:Int)(S:Sto):FT T G QGK ii QBR S=.ok QsQ S:=by rw[Xd H.i];calc Xvv (by rw[Xd H.w];calc Xeu hd S)
def TNet.fli(H:TNet T G iw ii ir isn ia ins ila il ih ic g1 g2 g3)(k:Nat)(a b:LI)(S:Sto):FT T G Qe3 il QG4 S=.ok QB3 S:=by rw[Xd H.l];calc X2l a b S
def TNet.fan(H:TNet T G iw ii ir isn ia ins ila il ih ic g1 g2 g3)(k:Nat){d:D}(hd:pd d=yx)(S:Sto):FT T G QGc ia [d] S=.ok QL7 S:=by rw[Xd H.a];calc Xrh H.e1 H.e2 (λd h S=>H.fwi k h 0 15 S) (λl S hl=>by rw[Xd H.r];calc Xy1 l hl S) hd S
def TNet.fla(H:TNet T G iw ii ir isn ia ins ila il ih ic g1 g2 g3)(k:Nat)(f:LI){n:LL}{d:D}(hd:Xhe d n)(B:Qz5<=big)(S:Sto):FT T G QGK ila Q6h S=.ok Q6I S:=by rw[Xd H.la];calc X65 hd (λa b S=>H.fli k a b S) B
def TNet.fnt(H:TNet T G iw ii ir isn ia ins ila il ih ic g1 g2 g3)(k:Nat){d:D}(hd:pd d=yx)(S:Sto):FT T G QkS isn [d] S=.ok QvB S:=by rw[Xd H.n];calc Xy3 H.e3 (λd h S=>H.fan k h S) (λn S B=>by rw[Xd H.r];calc Xy2 n B S) (λn S B=>?_) hd S;rw[Xd H.s];calc Xvw (λf S=>H.fla k f QJ0 B S) B
def TNet.fck(H:TNet T G iw ii ir isn ia ins ila il ih ic g1 g2 g3)(k:Nat){d:D}(hd:pd d=yx)(S:Sto):FT T G Q3Z ic [d] S=if Y2 d then .ok .non S else .ex QD QDE:=by rw[Xd H.c];calc Xy4 (H.fnt k hd S)
def TNet.fcn(H:TNet T G iw ii ir isn ia ins ila il ih ic g1 g2 g3)(k:Nat){m:Nat}{n:LL}(L:Nt m n)(B:m<=60)(S:Sto):FT T G Q3Z ic Q34 S=.ok .non S:=by rw[H.fck k QFg S,iP0 (L.isN B)]
def TNet.fcx(H:TNet T G iw ii ir isn ia ins ila il ih ic g1 g2 g3)(k:Nat){d:D}(hd:pd d=yx)(h:Y2 d=yw)(S:Sto):FT T G Q3Z ic [d] S=.ex QD QDE:=by rw[H.fck k hd S,h];calc iN0 V0
def TNet.fhs(H:TNet T G iw ii ir isn ia ins ila il ih ic g1 g2 g3)(k:Nat){d:D}(hd:pd d=yx){n:LL}(B:Qz5<=big)(S:Sto):FT T G QkS ih QoE S=.ok QoT S:=by rw[Xd H.h];calc Xri (λa b S=>H.fli QGK a b S) (H.fan k hd S) B
universe e
structure TDrw(T:List Df)(it io ibf ibn ig ill iln ik:Nat):Prop where
 t:T[it]?=yz t_law_take
 o:T[io]?=yz QMe
 f:T[ibf]?=yz QZZ
 n:T[ibn]?=yz (Xcv io ibf it)
 g:T[ig]?=yz (Xcu ill)
 l:T[ill]?=yz Xgd
 d:T[iln]?=yz QFO
 k:T[ik]?=yz t_law_kind_of
section
variable{T:List Df}{G:LD}{it io ibf ibn ig ill iln ik:Nat}
def TDrw.tk(H:TDrw T it io ibf ibn ig ill iln ik)(k:Nat):Tks QlF it:=Ycp H.t k
def TDrw.od(H:TDrw T it io ibf ibn ig ill iln ik)(k:Nat):Drs (FT T G QGK) io [] (·∈odds):=λp S B=>by rw[Xd H.o];calc X7g (H.tk k) p S B
def TDrw.bf(H:TDrw T it io ibf ibn ig ill iln ik)(k:Nat){l:LI}(B:Smn l)(hl:QF8<=6):Drs QhU ibf QcI QHM:=λp S L=>by rw[Xd H.f];calc Yc1 QDb (H.od k) B hl p S L
def TDrw.bn(H:TDrw T it io ibf ibn ig ill iln ik)(k:Nat){n:LL}(h0:n≠[])(B:Qz5<=11)(hs:∀s∈n,lg s<=6/\Smn s):Drs (FT T G QkS) ibn Q34 QQW:=λp S L=>by rw[Xd H.n];calc Yc2 (H.tk QGK) (H.od Qe3) (λl h1 h2=>H.bf k h1 h2) h0 B hs p S L
def TDrw.lie(H:TDrw T it io ibf ibn ig ill iln ik)(k:Nat){a:LI}(b:LI)(B:QYX<=big)(S:Sto):FT T G Qe3 ill QG4 S=.ok (.bl (Z.lie a b)) S:=by rw[Xd H.l];calc Xy7 a b B S
def TDrw.net(H:TDrw T it io ibf ibn ig ill iln ik)(k:Nat):Drs QhU iln [] (λd=>∃n,d=Xb n/\Nt 11 n):=λp S L=>by rw[Xd H.d];calc X2w QDb (λks S h1 h2=>by rw[Xd H.g];calc Xtt QP3 h1 h2 (λa b S B=>H.lie k b B S) S) p S L
def TDrw.kd(H:TDrw T it io ibf ibn ig ill iln ik)(k:Nat):Kds QlF ik:=Ycw H.k k
universe e
abbrev Xcz(B aa L:Nat):Df:=⟨1,3,(.cons (.expr QJY) (.cons (.asg Q2 (.bin .mul QNb (.bin .add QoK Q6))) (.cons (.for Q9 QFb (.cons QW6 .nil)) QsR))),yx⟩
abbrev Xfo(B:Nat):Df:=⟨1,2,(.cons (.asg Q2 Q56) (.cons (.ret (.bin .sub (.blt .smB (.cons (.st2 yw Q2) .nil)) (.blt .smB (.cons (.st2 yx Q2) .nil)))) .nil)),yx⟩
abbrev Xek(aa L B:Nat):Df:=⟨2,2,(.cons QDa (.cons (.ite (.not (.call L QV6)) (.cons (.rse 2 (.cst (.str "a face of the net is due"))) .nil) .nil) (.cons (.ret (.call aa QV6)) .nil))),yx⟩
abbrev Xbj(L ac aa ab B:Nat):Df:=⟨2,2,(.cons QDa (.cons (.ite (.or (.not (.call ab Qg)) (.not (.call aa QrU))) (.cons (.rse 3 (.cst (.str "a point of the net is due"))) .nil) .nil) (.cons (.ret (.call L (.cons (.frz (.cmr yw 2 Q6A (.call ac QnU))) .nil))) .nil))),yx⟩
abbrev Xgk:Df:=⟨1,1,(.cons (.ret (.blt .mxl (.cons (.frz (.cmr yw 2 Q41 QKJ)) .nil))) .nil),yx⟩
abbrev Xda:Df:=⟨2,2,(.cons (.ret (.blt .tuple (.cons Q55 .nil))) .nil),yx⟩
abbrev Xe5(B:Nat):Df:=⟨1,1,(.cons (.ret (.blt .tuple (.cons (.frz (.cmr yw 2 (.cons Q9 QEb (.cons (.not Q0X) .nil) .nil) Q9)) .nil))) .nil),yx⟩
abbrev Xhi(B L:Nat):Df:=⟨2,2,(.cons (.ret (.blt .tuple (.cons (.frz (.blt .sorted (.cons (.frz (.cmr yw 2 (.cons QE QC1 (.cons (.call B Q08) .nil) .nil) (.call L QwW))) .nil))) .nil))) .nil),yx⟩
abbrev Xel(B:Nat):Df:=⟨1,2,(.cons (.asg Q2 (.cmr yw 2 (.cons QE QFb .nil .nil) QvU)) (.cons (.ret (.blt .tuple (.cons (.frz (.cmr yw 2 (.cons QE (.rng QmR) .nil .nil) (.mth .count Q2 Qk))) .nil))) .nil)),yx⟩
abbrev Xem:Df:=⟨1,3,(.cons QTE (.cons (.for Q9 QC1 (.cons QJJ .nil)) QrR)),yx⟩
abbrev Yr(L ac ab aa B:Nat):Df:=⟨3,4,(.cons (.try (.cons (.ite QUG (.cons (.ret (.cal (.idx (.frz (.lst (.cons Qad (.cons (.glb ab) .nil)))) Q4) Qg)) .nil) .nil) (.cons (.ret (.cal (.idx (.frz (.lst (.cons (.glb ac) (.cons (.glb L) .nil)))) QwQ) QxW)) .nil)) 0 3 (.cons (.ret QKY) .nil)) .nil),yx⟩
abbrev Xhj(without ac ae L ab aa B:Nat):Df:=⟨1,3,(.cons (.for Q2 (.rng Q23) (.cons (.asg Q9 (.call aa (.cons (.call B QV6) .nil))) (.cons (.ite (.not (.call L (.cons Q9 (.cons (.call ab Qi) .nil)))) QB .nil) .nil))) (.cons (.ret (.and (.cmp .eq (.call ae Qz3) QN) (.and (.cmp .eq (.call ac Qz3) (.tup (.cons Q6 .nil))) (.cmp .eq (.call without Qn1) QP)))) .nil)),yw⟩
abbrev lft(s f:LI):LI:=s.filter λx=>!decide QkY
def mem_lft{s f:LI}{x:Int}:x∈lft s f ↔ x∈s/\x ∉ f:=by unfold lft;rw[Ui,Uq,decide_eq_false_iff_not]
def Fc.lft{s:LI}(h:Fc s)(f:LI):Fc Qt9:=h.sub Vir
section
variable{F:Fn}{G:LD}
def Xqs(s f:LI)(hs:QXX<=big)(S:Sto):den F G Xda QnP S=.ok QDW S:=by
 let c:=Xdm (F:=F) (G:=G) (env:=[yz QcH,yz QtX]) (S:=S) (n:=2) (i:=3) (it:=.val Q4) (ifs:=.cons QZO .nil) (elt:=.var 3) QQA (λd=>match d with|.int x=>!decide QkY|_=>yw) Qq7 rfl (by rw[Ve];calc hs) (λd hd=>by let⟨x,_,rfl⟩:=Vm.mp hd;calc Xb6 (e:=.cmp .notin QE Q2) (Xee (Xhd x f S))) QS5 QJA;let e:(QQA.filter λd=>match d with|.int x=>!decide QkY|_=>yw).map Qq7=Qt9.map D.int:=by rw[Vgu,Vdo];rfl
 rw[e]at c;calc Xs rfl Q6L (Yb _ Qt9);rfl
def Xzm{ila:Nat}{ks:LL}(hl:∀f S,F ila [Xa f,rwF ks] S=.ok (.bl (liA ks f)) S)(L:QS7<1000)(S:Sto):den F G (Xe5 ila) QVY S=.ok Q9P S:=by
 let s1:=Xvy (F:=F) (G:=G) (env:=Q4h) (S:=S) (e:=.var 0) (n:=ks) (Xjv QP3) (Uu (Xeg ks) L) rfl;let hn:QMK.length<=big:=by rw[Xcx];exact Xk (by let:=Xeg ks;omega)
 let c:=Xdm (F:=F) (G:=G) (env:=Q4h) (S:=S) (n:=2) (i:=2) (it:=.val Qk5) (ifs:=.cons (.not (.call ila QmK)) .nil) (elt:=.var 2) (QMK.map Xa) (λd=>!liA ks Qz9) Qq7 (Xcw QP3 s1) QGQ (λd hd=>by let⟨k,_,rfl⟩:=Vm.mp hd;rw[ints_of];calc Xb6 (Yv ((X9 (a:=.var 2) (b:=.var 0) rfl rfl).trans (hl k S)))) QS5 (λd hd _=>by let⟨k,_,rfl⟩:=Vm.mp hd;calc Yb _ k);rw[Xhf QMK λk=>!liA ks k]at c;let e:QMK.filter (λk=>!liA ks k)=grt ks:=by
  unfold grt;apply List.filter_congr;intro f _;unfold liA;rw[Vcd,Uq,Vem,ne_eq,Vbp,Uc];constructor
  ·intro h o B;rw[Vbc,Uq,decide_eq_true_eq];cases q:lie f o with
   |false=>exact .inr rfl|true=>exact .inl (Vgg λz=>h ⟨o,B,by rw[q,Vbg,Uq,decide_eq_false_iff_not];calc λe=>z e.symm⟩)
  rintro h ⟨o,B,z⟩;rw[bA0,Uq,decide_eq_false_iff_not]at z;let:=h o B;rw[Vbc,z.1,decide_eq_true_eq]at this;rcases this with e|e;·exact z.2 e.symm
  ·cases e
 rw[e]at c;calc Xs rfl Q6L (Xfg _ QUA);rfl
abbrev rgL(n:LL)(f:LI):LL:=(n.filter λs=>lie f s).map λs=>lft s f
def Ydg{e:Ex}{n:LL}{env:En}{S:Sto}(L:n≠[])(hl:Qz5<100000)(B:ev F G e env S=.ok QmN S):ev F G Q78 env S=.ok QcZ S:=by
 let s:ev F G QYP env S=.ok Q7 QkH:=by rw[X8 B];show X2 .sorted [.fro Qm] S=_;simp[X2,Xi,Xih L,Xed,Xlf,iP0 hl];rfl
 rw[X8 Qya];rfl
def Xob{env:En}{S:Sto}{n j:Nat}{it:It}{ifs:Exs}{elt:Ex}(ks:LL)(q:LI->Bool)(g:LI->LI)(hi:evit F G it env S=.ok Qdb S)(hl:QS7<=big)(ht:∀k∈ks,evts F G ifs QXK S=.ok (q k) S)(he:∀k∈ks,q k=yx->ev F G elt QXK S=.ok (Xa (g k)) S):
  ev F G (.frz (.cmr yw n (.cons QR6 it ifs .nil) elt)) env S=.ok (rwF QoM) S:=by
 let c:=Xdm (F:=F) (G:=G) (env:=env) (S:=S) (n:=n) (i:=j) (it:=it) (ifs:=ifs) (elt:=elt) Qd3 QRF QsE hi QA6 (λd hd=>by
   let⟨k,B,rfl⟩:=Vm.mp hd;rw[ints_of];calc ht k B) (λd hd L=>by
   let⟨k,B,rfl⟩:=Vm.mp hd;rw[ints_of]at L |-;calc he k B L) (λd hd _=>Yb _ _)
 let e:(Qd3.filter λd=>q Qz9).map QsE=QoM.map Xa:=by rw[Vdo,Var,Var];let h1:QRF∘Xa=q:=funext λk=>congrArg q Q8Z;let h2:QsE∘Xa=Xa∘g:=funext λk=>congrArg (λx=>Xa QnS) Q8Z;rw[h1,h2]
 rw[e]at c;calc c
def Xv2{il ilf:Nat}{n:LL}{f:LI}(hl:∀a b S,F il QG4 S=.ok QB3 S)(hf:∀s S,lg s<=big->F ilf QnP S=.ok QDW S)(hn:Qz5<=1000)(hs:∀s∈n,lg s<=big)(B:rgL n f≠[])(S:Sto):den F G (Xhi il ilf) QdD S=.ok (Xb (Xy QSS)) S:=by let c:=Xob (F:=F) (G:=G) (env:=[yz Q70,yz QtX]) (S:=S) (n:=2) (j:=3) (it:=.val Q4) (ifs:=.cons QuU .nil) (elt:=.call ilf QwW) n QzT (λs=>lft s f) rfl QO9 (λs _=>Xb6 ((X9 (a:=.var 1) (b:=.var 3) rfl rfl).trans (hl f s S))) (λs L _=>(X9 (a:=.var 3) (b:=.var 1) rfl rfl).trans (hf s S (hs s L)));calc Xs rfl (Xn (Ydg B (by unfold rgL;rw[Ve];calc Uu QBE Q0) c)) QYH
universe e
def Xt5{A:LL}{f:LI}:f∈grt A ↔ f∈A/\∀o∈A,lie f o=yx->o=f:=by unfold grt;rw[Ui,srtC_mem,ddL_mem,Uc];calc and_congr_right λ_=>forall_congr' λo=>forall_congr' λ_=>?_;rw[Vbc,Uq,decide_eq_true_eq];cases lie f o<;>simp!
def Xhk{a b c:LI}(h1:lie a b=yx)(h2:lie b c=yx):lie a c=true:=lie_sub.mpr λx B=>lie_sub.mp h2 x (lie_sub.mp h1 x B)
def Xqt{a b:LI}(B:a.Pairwise Qu1)(L:b.Pairwise Qu1)(h1:lie a b=yx)(h2:lie b a=yx):a=b:=Xgg B L λx=>⟨lie_sub.mp h1 x,lie_sub.mp h2 x⟩
def Xqu{A B:LL}(hA:∀a∈A,a.Pairwise Qu1)(hB:∀b∈B,b.Pairwise Qu1)(h1:∀a∈A,∃b∈B,lie a b=yx)(h2:∀b∈B,∃a∈A,lie b a=yx){f:LI}(h:f∈grt A):f∈grt B:=by rw[Xt5]at h |-;let⟨hf,hm⟩:=h;let⟨b,L,l1⟩:=h1 f hf;let⟨a,ha,l2⟩:=h2 b L;let e:=hm a ha (Xhk l1 l2);subst e;let e2:=Xqt (hA a hf) (hB b L) l1 l2;calc⟨e2▸L,λo ho l3=>?_⟩;let⟨c,hc,l4⟩:=h2 o ho;let e3:=hm c hc (Xhk l3 l4);subst e3;calc Xqt (hB o ho) (hA c hc) l4 l3
def Xt6{A B:LL}(hA:∀a∈A,a.Pairwise Qu1)(hB:∀b∈B,b.Pairwise Qu1)(h1:∀a∈A,∃b∈B,lie a b=yx)(h2:∀b∈B,∃a∈A,lie b a=yx):grt A=grt B:=
 Xik QLg (Xhh B) λ_=>⟨Xqu hA hB h1 h2,Xqu hB hA h2 h1⟩
def X2x{A:LL}(nd:A.Nodup)(h:∀f∈A,∀o∈A,lie f o=yx->o=f):grt A=Xy A:=
 Xik QLg (Xbo A nd) λf=>by rw[Xt5,srtC_mem];calc⟨λz=>z.1,λz=>⟨z,h f z⟩⟩
def Nt.apart{k:Nat}{n:LL}(h:Nt k n){s t:LI}(hs:s∈n)(B:t∈n)(l:lie s t=yx):s=t:=by let z:=h.nsn;unfold Xge at z;rw[Vjm]at z;let:=z s hs;unfold liA at this;rw[Bool.not_eq_true,Vjm]at this;let:=this t B;rw[l,Vbg,Uq,decide_eq_false_iff_not,Decidable.not_not]at this;calc this
def X7j{f s t:LI}(h2:lie f t=yx)(h:lie Qt9 QDc=yx):lie s t=true:=lie_sub.mpr λx B=>by
 by_cases c:x∈f;·exact lie_sub.mp h2 x c
 ·calc(mem_lft.mp (lie_sub.mp h x (mem_lft.mpr ⟨B,c⟩))).1
abbrev rgF(n:LL)(f:LI):LL:=grt Q9L
def X4d{k:Nat}{n:LL}(hn:Nt k n){f:LI}(hf:f∈fcs n):Xy QSS=rgF n f:=by
 let ff:=Xci hn hf;let nd:n.Nodup:=hn.pw.nodup;let mem:∀ {a},a∈rgL n f ↔ ∃s∈n,lie f s=yx/\lft s f=a:=by
  intro a;unfold rgL;rw[Vm];constructor;·rintro ⟨s,hs,e⟩;rw[Ui]at hs;exact⟨s,hs.1,hs.2,e⟩
  ·rintro ⟨s,hs,l,e⟩;exact⟨s,Ui.mpr ⟨hs,l⟩,e⟩
 let aa:∀s∈n,∀t∈n,lie f s=yx->lie f t=yx->lie Qt9 QDc=yx->s=t:=λs hs t ht _ l2 l=>hn.apart hs ht (X7j l2 l);let ac:QSS.Nodup:=by unfold rgL List.Nodup;rw[Vhg];exact(nd.filter QzT).imp_of_mem λ{a b} B L ne e=>ne ?_;rw[Ui]at B L;exact aa a B.1 b L.1 B.2 L.2 (by rw[e];calc Xcy _)
 rw[<-X2x ac λa B b L l=>by let⟨s,hs,l1,rfl⟩:=mem.mp B;let⟨t,ht,l2,rfl⟩:=mem.mp L;rw[aa s hs t ht l1 l2 l]];calc Xt6 QhY QfY QhY QfY;·let⟨s,hs,_,rfl⟩:=mem.mp B;exact(Q06.lft f).pw
 ·let⟨g,hg,rfl⟩:=Vm.mp L;exact((Xci hn Q7b.1).lft f).pw
 ·let⟨s,hs,l1,rfl⟩:=mem.mp B;exact⟨lft s f,Vm.mpr ⟨s,Ui.mpr ⟨mem_fcs.mpr QzG,l1⟩,rfl⟩,Xcy _⟩
 let⟨g,hg,rfl⟩:=Vm.mp L;let⟨ae,ab⟩:=Ui.mp hg;let⟨s,hs,sl⟩:=mem_fcs.mp ae;let gs:lie g s=true:=lie_sub.mpr λx hx=>sl.subset hx;calc⟨lft s f,mem.mpr ⟨s,hs,Xhk ab gs,rfl⟩,lie_sub.mpr λx hx=>?_⟩;let⟨x1,x2⟩:=mem_lft.mp hx;calc mem_lft.mpr ⟨sl.subset x1,x2⟩
def Yfh{k:Nat}{n:LL}(hn:Nt k n){f:LI}(L:f∈fcs n):rgL n f≠[]:=by let⟨s,hs,sl⟩:=mem_fcs.mp L;calc Vjc (Vm.mpr ⟨s,Ui.mpr ⟨hs,lie_sub.mpr λx B=>sl.subset B⟩,rfl⟩)
def Yfi{k:Nat}{n:LL}(hn:Nt k n)(p:Int):grt Q3L=grt QP6:=by
 calc Xt6 QgY QXL QgY QXL;·let⟨s,hs,rfl⟩:=Vm.mp L;exact(Q06.lft [p]).pw
 ·exact(Xci hn (Ui.mp hb).1).pw
 ·let⟨s,hs,rfl⟩:=Vm.mp L;calc⟨lft s [p],Ui.mpr ⟨mem_fcs.mpr ⟨s,hs,Vir⟩,?_⟩,Xcy _⟩;rw[Uq,decide_eq_false_iff_not];exact λz=>(mem_lft.mp z).2 QA
 let⟨aa,B⟩:=Ui.mp hb;let⟨s,hs,sl⟩:=mem_fcs.mp aa;rw[Uq,decide_eq_false_iff_not]at B;calc⟨lft s [p],Vm.mpr ⟨s,hs,rfl⟩,lie_sub.mpr λx hx=>mem_lft.mpr ⟨sl.subset hx,λz=>B ?_⟩⟩;rw[Vw]at z;calc z▸hx
abbrev mxI:LI->Int
 |n::r=>r.foldl max n|[]=>0
def mxf:∀(r:LI) (n:Int),(∀x∈n::r,x<=r.foldl max n)/\r.foldl max n∈n::r
 |[]=>λn=>⟨λx B=>by rw[Vw.mp B];calc Int.le_refl _,List.mem_singleton_self _⟩|m::r=>λn=>by
  let⟨h1,h2⟩:=mxf r Q8c;rw[Vb0];exact⟨λx B=>?_,?_⟩
  ·let L:=h1 Q8c QA;rcases Vr.mp B with rfl|B;·exact Int.le_trans (Int.le_max_left ..) L
   ·rcases Vr.mp B with rfl|B;·exact Int.le_trans (Int.le_max_right ..) L
    ·exact h1 x Q17
  rcases Vr.mp h2 with e|h2;·rw[e];rcases Int.max_def n m▸(by split<;>simp!:(if n<=m then m else n)∈n::m::r) with z;exact z
  ·calc V2 _ (V2 _ h2)
def Xzn{ns:LI}{x:Int}(h:x∈ns):x<=mxI ns:=by
 cases ns with
 |nil=>cases h|cons n r=>calc Q7c.1 x h
def Xt7{ns:LI}(h:ns≠[]):mxI ns∈ns:=by
 cases ns with
 |nil=>cases h rfl|cons n r=>calc Q7c.2
def X4e{ns:LI}(h:ns≠[])(S:Sto){x:D}(B:Xi S x=yz QX):X2 .mxl [x] S=.ok (.int (mxI ns)) S:=by
 cases ns with
 |nil=>cases h rfl|cons n r=>simp[X2,B,Uy,Yw];rfl
abbrev lns(n:LL):LI:=n.map λs=>QGD
abbrev wdt(n:LL):Int:=mxI QyY
section
variable{F:Fn}{G:LD}
def Xzo{env:En}{S:Sto}{n j:Nat}{it:It}(ks:LL)(hi:evit F G it env S=.ok Qdb S)(hl:QS7<=big)(L:(Q60.set j QUa)[j]?=yz QUa):ev F G (.cmr yw n (.cons QR6 it .nil .nil) (.blt .len QSG)) env S=.ok Q7 (S++[.lst Ql7]):=by
 let B:∀x,(Q60.set j QQ3)[j]?=yz QQ3:=λx=>by
  let:j<Q60.length:=by let:=QBM.1;rwa [Vck]at this
  exact Vap this
 let c:=Xie (F:=F) (G:=G) (env:=env) (S:=S) (n:=n) (t:=.var j) (it:=it) (ifs:=.nil) (elt:=.blt .len QSG) (src:=.con Qd3) Qd3 (λx=>Q60.set j QQ3) Qp9 (λd=>.int (Qz9.length:Nat)) hi Q32 Qd QA6 QB2 Qn4 QB2 (λd hd _=>by let⟨k,_,rfl⟩:=Vm.mp hd;rw[ints_of];calc(Xkv (xs:=k.map D.int) (X5 (B _)) rfl).trans ?_;rw[Ve]);rw[Vgc.mpr λ_ _=>rfl,Var]at c;rw[c];congr 4;unfold lns;rw[Var];calc Viq λk _=>?_;simp[Vhu,ints_of]
def Xzp{n:LL}(L:n≠[])(B:Qz5<=big)(S:Sto):den F G Xgk Q34 S=.ok (.int (wdt n)) S:=by let c:=X1 (Xzo (F:=F) (G:=G) (env:=[yz Q70]) (S:=S) (n:=2) (j:=2) (it:=.val Q4) n rfl B rfl) QV3;calc Xs rfl (Xn (Qbh.trans (X4e (ns:=lns n) ?_ S rfl))) rfl;unfold lns;rw[ne_eq,Vd0];calc L
abbrev cnt(ks:LL)(s:Nat):Nat:=ks.countP λk=>decide (lg k=s)
abbrev cts(ks:LL)(w:Nat):LI:=QOQ.map λs=>(cnt ks s:Int)
def Xfp(ks:LL)(w:Nat):Qo6.length=w+1:=by unfold cts;rw[Ve,U6]
def Xmr(ks:LL){w s:Nat}(h:s<=w):Qo6[s]?=yz (cnt ks s:Int):=by unfold cts;rw[Ud,Vc3 Q0];rfl
def X2y(ks:LL)(k:LI){w:Nat}(h:QcS<=w):cts QhS w=Qo6.set k.length ((cnt ks k.length:Int)+1):=by
 apply Vha;intro i;by_cases hi:i<=w
 ·rw[Xmr _ hi,List.getElem?_set,Xmr _ hi,Xfp];let e:cnt QhS i=cnt ks i+if QcS=i then 1 else 0:=by
   unfold cnt;rw[List.countP_append,List.countP_singleton];by_cases c:QcS=i<;>simp![c]
  rw[e];by_cases c:QcS=i;·subst c;rw[iP0 rfl,iP0 rfl,iP0 Q0];rfl
  ·rw[iN0 c,iN0 c];rfl
 rw[Va2 (by rw[Xfp];omega),Va2 (by rw[Vck,Xfp];omega)]
def X2z(w:Nat):Vn (w+1) (0:Int)=cts [] w:=by
 unfold cts cnt;apply Vha;intro i;rw[Ud];by_cases h:i<w+1;·rw[Vc3 h,List.getElem?_replicate_of_lt h];rfl
 ·rw[Va2 (by rw[Vh5];omega),Va2 (by rw[U6];omega)];rfl
def Xv3{ia iw ic:Nat}{n ks:LL}{w:Nat}(hc:∀S,F ic Q34 S=.ok .non S)(hw:∀S,F iw Q34 S=.ok Qc5 S)(ha:∀S,F ia Q34 S=.ok QnO S)(hk:∀k∈ks,lg k<=w)(ab:w<=100)(S:Sto):den F G QMU Q34 S=.ok QZe S:=by
 let m:ev F G (.bin .mul QNb QwG) Qm5 S=.ok (.ref QRW.length) (S++QW4++Qo7):=by
  let e1:ev F G QwG Qm5 QRW=.ok QGL QRW:=(X7 (Qc.trans (hw _)) rfl).trans Q7E;calc(X7 (a:=.lst Q3I) rfl e1).trans ?_;simp[Xl,lstM,Yy];rw[iP0 ⟨by omega,(by show 1*_<=_;rw[Vbu];calc Xk Q0),by omega⟩,Vbu];congr 3;rw[<-X2z,List.map_replicate];congr 2;clear e1;generalize w+1=v;induction v with
  |zero=>rfl|succ v ih=>rw[Van,Vbt,ih,Van];rfl
 generalize hT:S++QW4=T at m;let fp:=Xbh (F:=F) (G:=G) (env:=[yz Q70,yz Qy3,yy]) (S:=T++Qo7) (S1:=T++Qo7) (t:=.var 2) (it:=.val (.call ia Qf)) (ss:=.cons Q22 .nil)
  (b:=.cons QW6 .nil) Qd3 (λi e S'=>S'=T++[.lst (QHZ.map D.int)]/\∃(x:Option D),e=Q5S)
 let⟨e',S',h1,rfl,x,rfl⟩:=fp (Xcw QP3 (Qc.trans (ha _))) Qt5 (λi d e S' hd hP=>by
  let⟨rfl,x,rfl⟩:=hP;rw[Ud]at hd;let⟨k,hg,rfl⟩:=Ug.mp hd;let L:=hk k QpZ;generalize hX:QHZ.map D.int=X;let hl:(lg X)=w+1:=by rw[<-hX,Ve,Xfp]
  let hx:X[k.length]?=yz QQb:=by rw[<-hX,Ud,Xmr _ L];rfl
  let ln:ev F G QKJ Ql9 QO6=.ok QqB QO6:=by calc(Xkv (e:=.var 2) (xs:=k.map D.int) rfl rfl).trans ?_;rw[Ve]
  let B:Z.ixN X.length (k.length:Nat)=yz k.length:=by unfold Z.ixN;rw[iP0 Q0,iP0 Q0,Vbu]
  let gl:Xgr Qy3 QqB QO6=.ok QQb QO6:=by simp[Xgr,Xbi,B,Uy,hx]
  let as:Xbl Qy3 QqB (.int (Qi2+1)) QO6=.ok () QfA:=by let lm:lstM QO6 (lg T)=yz X:=Xbi T X;simp[Xbl,lm,B];rw[Xa0]
  let st:exe F G QW6 Ql9 QO6=.ok (.nx Ql9) QfA:=by let lk:Qm1.length=lg k:=Ve ..;rw[<-lk]at gl as;exact ond gl (ond rfl (ond (a:=.int ((cnt QG8 Qm1.length:Nat)+1)) rfl (ond as (by rw[lk]))))
  calc⟨_,_,_,rfl,Xct st,?_,_,rfl⟩;rw[Xay hg,X2y _ _ L,<-hX,List.map_set])
 rw[Ve,Xaz]at h1;let fz:=Xfl (F:=F) (G:=G) (S:=T) (env:=Q5S) (i:=1) (xs:=Qo6.map D.int) rfl QV3;let r:=(Xbg (Qc.trans (hc S))).trans ((Xm (i:=1) (env:=Qm5) m).trans (h1.trans (Xn (v:=Xa Qo6) (S1:=T++QqE) QYg)));let aa:T++QAV=S++(QW4++QqE):=by rw[<-hT,Uj]
 rw[aa]at r;calc Xa2 (X:=QW4++QAV) (env0:=Qm5) rfl r .rfl' QFe
universe e
def Xt8{α β:Type}(f:α->β):∀l:List α,alt QqD=Q2g.map f
 |[]=>rfl|[_]=>rfl|x::_::r=>by let:=Xt8 f r;simp[Uh,alt,this]
abbrev odL:Nat->LI->LI
 |_,[]=>[]|n,x::r=>if n%2=1 then x::odL QF6 r else odL QF6 r
def Xt9:∀(l:LI) (n:Nat),n%2=0->odL n l=alt Q2Q
 |[]=>λn _=>rfl|[x]=>λn h=>by rw[odL,iN0 Q0];rfl|x::y::r=>λn h=>by
  rw[odL,iN0 Q0,odL,iP0 Q0,Xt9 r (n+2) Q0];cases r with
  |nil=>rfl|cons z r=>rfl
def Xua:∀l:LI,l.sum=Q2g.sum+(alt Q2Q).sum
 |[]=>rfl|[x]=>by simp![alt]|x::y::r=>by
  let h:=Xua r;let e:alt (Qsb.drop 1)=y::alt QyP:=by cases r<;>rfl
  rw[e,alt,Vhx,Vhx,Vhx,Vhx,h];omega
abbrev tly(B:LI):Int:=(alt (B.drop 1)).sum-(alt (B.drop 2)).sum
def Ydh{B r:LI}(h:B=1::r):2*Q4c.sum+1-B.sum=tly B:=by subst h;unfold tly;rw[Xt9 _ 0 rfl,Vhx,Xua r];show 2*QLZ.sum+1-(1+(QLZ.sum+QXc.sum))=QLZ.sum-QXc.sum;omega
section
variable{F:Fn}{G:LD}
def Xoc{env:En}{S S1:Sto}{e:Ex}{x:D}{ns:LI}(L:ev F G e env S=.ok x S1)(B:Xi S1 x=yz QX):ev F G (.blt .smB Qk0) env S=.ok (.int ns.sum) S1:=by rw[X8 L];simp[X2,B,Uy,Yw]
def Xzq{ic:Nat}{n:LL}{B:LI}{S:Sto}(L:F ic Q34 S=.ok QAT S):den F G QPe Q34 S=.ok QRb S:=by
 let s:∀b:Bool,ev F G (.st2 b Q2) [yz Q70,yz QAT] S=.ok (Xa (alt (B.drop (if b then 2 else 1)))) S:=λb=>by calc ond (X5 (d:=Xa B) rfl) ?_;show Xgs b QHb S=_;simp[Xgs];rw[<-Vhw,Xt8];rfl
 calc Xs rfl ((Xm (i:=1) QJM).trans (Xn ((X7 (Xoc (s yw) rfl) (Xoc (s yx) rfl)).trans Q8W))) rfl
def X7k(ks:LL)(s:Nat):QdV.countP QIV=cnt ks s:=by unfold lns cnt;rw[List.countP_map];apply List.countP_congr;intro k _;show(((k.length:Int)==(s:Int))=yx) ↔ _;rw[beq_iff_eq,decide_eq_true_eq];omega
def Xrk{il:Nat}{n ks:LL}{w:Nat}(hl:∀S,F il Q34 S=.ok QnO S)(h0:ks≠[])(hk:QS7<=100000)(L:mxI QdV=w)(aa:w<=100)(S:Sto):den F G (Xel il) Q34 S=.ok QZe S:=by
 let c:=Xzo (F:=F) (G:=G) (env:=Q1B) (S:=S) (n:=2) (j:=3) (it:=.val (.call il Qf)) ks (Xcw QP3 (Qc.trans (hl S))) (Xk hk) rfl;generalize hT:S++Qnb=T at c;let B:lstAt T QD=yz Ql7:=by rw[<-hT];exact Xbi _ _
 let ne:lns ks≠[]:=by unfold lns;rw[ne_eq,Vd0];exact h0
 let m:ev F G Qb7 QHX T=.ok QGL T:=by calc(X7 ((X8 (a:=.var 1) rfl).trans (X4e ne T (x:=.ref QD) B)) rfl).trans ?_;rw[Xao,L];rfl
 let z:=Xif (F:=F) (G:=G) (env:=QHX) (S:=T) (n:=2) (i:=3) (it:=.rng QmR) (elt:=.mth .count Q2 Qk) (QOQ.map λk:Nat=>.int k) QQ5 (Xb1 m Q0) (by rw[Ve,U6];calc Xk Q0) (λd hd=>by
  let⟨k,_,rfl⟩:=Vm.mp hd;let rc:Xat .count Q7 T=true:=by simp[Xat,B,Option.isSome]
  rw[Xf9 (X5 (d:=.ref QD) rfl) rc (X5 (d:=.int (k:Nat)) rfl)];simp[Y5,B,Uy];rw[Yw]) (λd hd=>by let⟨k,_,rfl⟩:=Vm.mp hd;rfl)
 let e:(QOQ.map λk:Nat=>D.int k).map QQ5=Qo6.map D.int:=by unfold cts;rw[Var,Var];exact Viq λs _=>?_;show D.int ((QdV.countP QIV:Nat):Int)=D.int (cnt ks s:Int);rw[X7k]
 rw[e]at z;let r:=(Xm (i:=1) (env:=Q1B) c).trans (Xn (ss:=.nil) (S1:=T) (v:=Xa Qo6) ((X8 (k:=.tuple) z).trans rfl));rw[<-hT]at r;calc Xa2 (X:=Qnb) (env0:=Q1B) rfl r .rfl' QFe
def X7l{B:LI}{x y:Int}:y∈ddS B x ↔ y∈B\/y=x:=by
 unfold ddS;split;·rename_i h;exact QBD
 ·rw[Um,Vw]
def ddI_mem{l:LI}{y:Int}:y∈ddI l ↔ y∈l:=by
 let L:∀(l B:LI),y∈l.foldl ddS B ↔ y∈B\/y∈l:=by
  intro l;induction l with
  |nil=>intro B;simp!|cons x l ih=>intro B;rw[Vb0,ih,X7l,Vr,or_assoc]
 calc(L l []).trans QA
def Ydi(l:LI):QFZ.Nodup:=by
 let L:∀(l B:LI),B.Nodup->QfS.Nodup:=by
  intro l;induction l with
  |nil=>intro B h;exact h|cons x l ih=>
   intro B h;calc ih _ ?_;unfold ddS;split;·exact h
   ·rename_i hk;rw[Vb9];exact⟨h,by simp!,λa ha b hb z=>hk Q7F⟩
 calc L l [] Vg4
def Xzr{l:LI}(h:∀x∈l,0<=x/\x<=15):QFZ.length<=16:=by
 let:=Xhg QFZ ((Vv 16).map Veb) (Ydi l) λx B=>by let⟨L,h1⟩:=h x (ddI_mem.mp B);exact Vm.mpr ⟨x.toNat,Va1.mpr Q0,Int.toNat_of_nonneg L⟩
 rwa [Ve,U6]at this
abbrev pts(n:LL):LI:=Xbr QrS
def Xub{n:LL}{x:Int}:x∈pts n ↔ ∃s∈n,x∈s:=by unfold pts;rw[Q8T.mem_iff,ddI_mem,List.mem_flatten]
def X7m{n:LL}(h:∀s∈n,∀x∈s,0<=x/\x<=15):QVS.length<=16:=by unfold pts;rw[Q8T.length_eq];calc Xzr λx B=>by let⟨s,hs,h2⟩:=List.mem_flatten.mp B;calc h s hs x h2
def Xrl{n:LL}(h:∀s∈n,Fc s)(hn:Qz5<=1000)(S:Sto):den F G Xem Q34 S=.ok QKF S:=by
 let le:∀i,QTW.length<=6*1000:=λi=>by
  let B:∀l:LL,(∀s∈l,Fc s)->lg l.flatten<=6*lg l:=λl=>by
   induction l with
   |nil=>intro _;calc Vi _|cons a l ih=>intro hl;let:=(hl a QA).l6;let:=ih λs hs=>hl s (by simp![hs]);rw[Vbt,Ub,Ux];omega
  exact V5 (B _ λs hs=>h s (Vdn hs)) Qe9
 let fp:=Xbh (F:=F) (G:=G) (env:=Q6S) (S:=S++Q7S) (S1:=S++Q7S) (t:=.var 2) (it:=.val Q4) (ss:=.cons Q54 .nil) (b:=.cons QJJ .nil)
  Qm (λi e S'=>S'=S++[O.lst (QTW.map D.int)]/\∃(x:Option D),e=QIB)
 let⟨e',S',h1,rfl,x,rfl⟩:=fp rfl Qt5 (λi y e S' L hP=>by
  let⟨rfl,x,rfl⟩:=hP;rw[Ud]at L;let⟨s,hg,rfl⟩:=Ug.mp L;let l1:=le i;let l2:=(h s QpZ).l6;calc⟨_,_,_,rfl,Xbg (X34 (S:=S) (S1:=S) (i:=1) (v:=Xa s) (ys:=s.map D.int) rfl rfl QFW rfl ?_),?_,_,rfl⟩;·rw[Ve,Ve];exact Xk Q0
  ·rw[Xay hg,List.flatten_append,Vak]
   simp[Vbt,List.flatten_nil,Va4])
 rw[Ve,Xaz]at h1;let dl:QrS.length<60:=Uu (Xzr λx hx=>by let⟨s,hs,h2⟩:=List.mem_flatten.mp hx;calc Q7e.r15 x h2) Q1;let r1:ev F G QIb QIB (S++[O.lst QhL])=.ok QTI (S++QAV++[O.lst QO1]):=by calc ond (Xfl rfl QV3) ?_;show Xbs QhL _=_;simp[Xbs,Yw,iP0 dl];rfl
 let e0:ev F G Qz4 Qm5 S=.ok Q7 (S++Q7S):=rfl;let r:=(Xm (i:=1) e0).trans (h1.trans (Xn (Xea r1 Qkc QV3)));calc Xa2 (X:=QAV) (env0:=Qm5) rfl r .rfl' QV3
universe e
def Xqv{k:Nat}{n:LL}(h:Nt k n):∃w:Nat,wdt n=w/\w<=6/\mxI QaS=w/\∀g∈fcs n,lg g<=w:=by
 let ne:lns n≠[]:=by unfold lns;rw[ne_eq,Vd0];exact h.ne
 let B:lns QB1≠[]:=by unfold lns;rw[ne_eq,Vd0];exact Xqr h
 let hm:=Xt7 ne;unfold lns at hm;let⟨s,hs,e⟩:=Vm.mp hm;let ge:∀t∈n,QSX<=lg s:=λt L=>by let:QSX<=mxI QyY:=Xzn (Vm.mpr ⟨t,L,rfl⟩);let e':QGD=mxI QyY:=e;omega
 let gl:∀g∈fcs n,lg g<=lg s:=λg hg=>by let⟨t,L,sl⟩:=mem_fcs.mp hg;let:=ge t L;let:=sl.length_le;omega
 calc⟨s.length,e.symm,QI8.l6,?_,gl⟩;let aa:=Xt7 B;let⟨g,hg,e2⟩:=Vm.mp (show mxI QaS∈QB1.map λs=>QGD from aa);let h1:=gl g hg;let h2:QGD<=mxI QaS:=Xzn (Vm.mpr ⟨s,mem_fcs.mpr QzG,rfl⟩);omega
def X20{k:Nat}{n:LL}(h:Nt k n)(w:Nat):∃r,cts QB1 w=1::r:=by
 let e:cnt QB1 0=1:=by unfold cnt;rw[List.countP_eq_length_filter];let⟨s,hs⟩:=Vju n h.ne;exact(Xmm (a:=[]) Q5T.nodup QSA Q1N).mpr λt _ B=>?_;exact List.length_eq_zero_iff.mp (oD0 B)
 calc⟨(Qfh.map λs=>(cnt QB1 (s+1):Int)),?_⟩;unfold cts;rw[Vhl,Uh,Var,e];rfl
section
variable{F:Fn}{G:LD}{S:Sto}{env:En}
def Xuc{f1 B g1 g2 w:Nat}{ix:Ex}{es:Exs}{ds:LD}(h:Two G g1 g2 f1 B)(hw:w<2)(hi:ev F G ix env S=.ok QmW S)(he:evs F G es env S=.ok ds S):
  ev F G (.cal (.idx (.frz (.lst (.cons (.glb g1) (.cons QZd .nil)))) ix) es) env S=F (if w=0 then f1 else B) ds S:=by
 let⟨n1,n2,aa,L,h1,h2⟩:=h.ex;let fl:=Xa3 (S:=S) (Xc (F:=F) (env:=env) (Xko aa) (Xc (Xko L) Yd)) QZA .rfl' rfl;let ix:=(Xbq fl hi).trans (Xa8 (xs:=[.fn f1 n1,.fn B n2]) rfl Q40 hw);calc ond ix ?_;match w,hw with
 |0,_=>simp[List.getElem_cons_zero,h1,if_true,he];rfl|1,_=>simp[List.getElem_cons_succ,List.getElem_cons_zero,h2,if_true,he];rfl
variable{fc ft fr fw gc gt gr gw ik:Nat}{a b:D}
abbrev Xv4(fc ft fr fw w:Nat):Nat:=if w<2 then (if w=0 then fc else ft) else (if w-2=0 then fr else fw)
abbrev Xv5(w:Nat)(a b:D):LD:=if w<2 then [a] else Q2H
abbrev t4b(gw gr gt gc:Nat):Sts:=(.cons (.ite QUG (.cons (.ret (.cal (.idx (.frz (.lst (.cons (.glb gc) (.cons (.glb gt) .nil)))) Q4) Qg)) .nil) .nil) (.cons (.ret (.cal (.idx (.frz (.lst (.cons (.glb gr) (.cons (.glb gw) .nil)))) QwQ) QxW)) .nil))
def Xzs{e:Ex}{env:En}:pe F G QfM env S=match ev F G e env S with
  |.ok v S'=>.ok QkA S'|.ex n S'=>.ex n S'|.bad=>.bad:=by
 show(match Qt0.bind λx S=>R.ok (Fl.rt x) S with|.ok Qs6 S'=>pe F G .nil e S'|r=>r)=_;cases ev F G e env S<;>rfl
def Xud(h1:Two G gc gt fc ft)(h2:Two G gr gw fr fw){w:Nat}(B:w<4)(x:Option D):pe F G (t4b gw gr gt gc) Qa2 S=match F Q2D QBO S with
  |.ok v S'=>.ok QkA S'|.ex n S'=>.ex n S'|.bad=>.bad:=by
 let c:ev F G QUG Qa2 S=.ok (.bl (decide (w<2))) S:=by calc(Yn (a:=.var 0) rfl rfl).trans QWe;show yz (decide ((w:Int)<2))=_;congr 1;exact decide_eq_decide.mpr Q0
 unfold t4b Xv4 Xv5;rw[Xbu c];by_cases h:w<2;·rw[decide_eq_true h,iP0 rfl,iP0 h,iP0 h];let e:=Xuc (F:=F) (S:=S) (env:=Qa2) (ix:=.var 0) (es:=.cons Q2 .nil) (ds:=[a]) h1 h rfl rfl;rw[Xzs,e];cases F (if w=0 then fc else ft) [a] S<;>rfl
 ·rw[decide_eq_false h,iN0 V0,iN0 h,iN0 h];let e:=Xuc (F:=F) (S:=S) (env:=Qa2) (w:=w-2) (ix:=.bin .sub Q4 QT) (es:=.cons Q2 Qi) (ds:=Q2H) h2 Q0 ((X7 (a:=.var 0) rfl rfl).trans (by rw[Xfe];congr 2;omega)) rfl;let n:pe F G .nil Qa2 S=.ok (.nx Qa2) S:=rfl;rw[n];dsimp;rw[Xzs,e]
def Xio(h1:Two G gc gt fc ft)(h2:Two G gr gw fr fw){w:Nat}(B:w<4){r:D}(L:F Q2D QBO S=.ok r S)(hr:pd r=yx):den F G QAO QXN S=.ok r S:=by let q:=Xud (F:=F) (S:=S) (a:=a) (b:=b) h1 h2 B yy;rw[L]at q;calc X2r (env0:=QOJ) (b:=t4b gw gr gt gc) rfl rfl rfl q (Xc6 _ hr)
def Xms(h1:Two G gc gt fc ft)(h2:Two G gr gw fr fw){w k:Nat}(L:w<4)(hK:Kds F ik)(hF:F Q2D QBO S=.ex QD QS1)(hk:1<=k)(B:k<=16):den F G QAO QXN S=.ok Qdc S:=by let q:=Xud (F:=F) (S:=S) (a:=a) (b:=b) h1 h2 L yy;rw[hF]at q;calc X2s (env0:=QOJ) (b:=t4b gw gr gt gc) rfl rfl rfl q (by show 3<4;decide) hK hk B
def X21{io ih ic:Nat}{n m:LL}{f:LI}(L:F ic Q34 S=.ok .non S)(B:F ih QdD S=.ok Q20 S)(hr:F io QdD S=.ok Q7T S):den F G QyI QdD S=.ok Q7T S:=
 Xs rfl (Qrc.trans ((Xkn (t:=yw) (Yv (x:=yx) (Q13.trans B))).trans (QuD.trans (Xn (Q13.trans hr))))) QYH
def Xzt{io ih ic:Nat}{n:LL}{d:D}(B:F ic Q34 S=.ok .non S)(L:F ih QoE S=.ok QD9 S):den F G QyI QoE S=.ex QD (S++[.exc 2]):=
 Xeb (env0:=QQL) rfl ((Xbg Q4Y).trans ((Xkn (t:=yx) (Yv (x:=yw) (Q13.trans L))).trans QIc))
def Xzu{io ih ic:Nat}{a d:D}{k:Nat}(B:F ic [a] S=.ex QD QS1):den F G QyI [a,d] S=.ex QD QS1:=
 Xeb (env0:=Qjb) rfl Q16
def Xue{iw ih:Nat}{n:LL}{d:D}(B:F iw [d] S=.ok QE9 S)(L:F ih Q8V S=.ok QuQ S):ev F G (.or (.not (.call iw Qg)) (.not (.call ih QrU))) QQL S=.ok (.bl (! Qw5)) S:=by calc(Xbv (Yv (Qh7.trans B)) λ_=>Yv ((X9 (a:=.var 0) rfl Q6M).trans L)).trans ?_;rw[Bool.not_and]
def Ydj{io il ih iw ic:Nat}{n:LL}{p:Int}{m:LL}(hc:F ic Q34 S=.ok .non S)(L:F iw [.int p] S=.ok Q20 S)(hh:F ih [Xb n,Xa [p]] S=.ok Q20 S)(B:Xaa n QYe=yx)(hl:∀s∈n,F il [Xa s,Xa [p]] S=.ok (Xa (lft s [p])) S)(hn:Qz5<=big)(ho:F io [rwF Q3L] S=.ok Q7T S):den F G QKC QXY S=.ok Q7T S:=by let c:=Xob (F:=F) (G:=G) (env:=[yz Q70,yz (.int p)]) (S:=S) (n:=2) (j:=3) (it:=.val Q4) (ifs:=.nil) (elt:=.call il QnU) n Qp9 (λs=>lft s [p]) rfl hn QB2 (λs hs _=>(X9 (a:=.var 3) rfl Q6M).trans (hl s hs));rw[Vgc.mpr λ_ _=>rfl]at c;let t:=Xue (F:=F) (G:=G) (n:=n) (d:=.int p) L (by rw[show Xaa n QhT=yx from B];calc hh);rw[show Xaa n QhT=yx from B]at t;calc Xs rfl ((Xbg (Qc.trans hc)).trans ((Xkn (t:=yw) t).trans (QuD.trans (Xn ((Xg c).trans ho))))) QYH
def X7n{io il ih iw ic:Nat}{n:LL}{d:D}(L:F ic Q34 S=.ok .non S)(B:F iw [d] S=.ok QE9 S)(hh:F ih Q8V S=.ok QuQ S)(h:Qw5=yw):den F G QKC QoE S=.ex QD (S++[.exc 3]):=by let t:=Xue (F:=F) (G:=G) B hh;rw[h]at t;calc Xeb (env0:=QQL) rfl (Qrc.trans ((Xkn (t:=yx) t).trans QIc))
def X7o{io il ih iw ic:Nat}{a d:D}{k:Nat}(B:F ic [a] S=.ex QD QS1):den F G QKC [a,d] S=.ex QD QS1:=
 Xeb (env0:=Qjb) rfl Q16
def Xiz{ia iw ic:Nat}{a:D}{k:Nat}(B:F ic [a] S=.ex QD QS1):den F G QMU [a] S=.ex QD QS1:=
 Xeb (env0:=[yz a,yy,yy]) rfl Q16
def Xv6{ic:Nat}{a:D}{k:Nat}(B:F ic [a] S=.ex QD QS1):den F G QPe [a] S=.ex QD QS1:=
 Xeb (env0:=[yz a,yy]) rfl Q16
universe e
abbrev none2:LD:=[.int 16,.int (-1),.bl yx,.bl yw,.non,.str "1",.tup QCh,.fro QbY,.int Qzg]
def Xqw:∀d∈none2,pd d=true:=by
 let:none2.all pd=true:=by decide+kernel
 calc λd hd=>Uc.mp this d hd
def X22(n:LL):∀d∈none2,Qw5=false:=by
 let:none2.all (λd=>!(wh d&&Yk QnJ))=true:=by decide+kernel
 intro d hd;let h:=Uc.mp this d hd;unfold Xaa;cases e:wh d with
 |false=>rfl|true=>
  rw[e]at h;let:Yk QnJ=false:=by simpa using h
  rw[this];rfl
structure R02(F:Fn)(itl iln is ig it ilc ill ile ict ibn ibf ipt ilf:Nat):Prop where
 tk:Tks F it
 lf:∀n S,Nt 11 n->F ilf Q34 S=.ok QVB S
 lp:∀n S,Nt 11 n->F ipt Q34 S=.ok QKF S
 ct:∀n S (w:Nat),Nt 11 n->wdt n=w->F ict Q34 S=.ok QEW S
 bn:∀n,Nt 11 n->Drs F ibn Q34 QQW
 bf:∀l,Fc l->Drs F ibf QcI QHM
 ln:∀d S,pd d=yx->F iln [d] S=.ok QvB S
 lc:∀d S,pd d=yx->F ilc [d] S=.ok QL7 S
 ll:∀a b S,Fc a->F ill QG4 S=.ok QB3 S
 le:∀a b S,Fc a->F ile QG4 S=.ok (Xa (lft a b)) S
 gr:∀ks S,lg ks<1000->(∀s∈ks,Fc s)->F ig QVY S=.ok Q9P S
 s2:∀r i S,lg r<=100->F is [.fro QYY,.fro QYY] S=.ok Q20 S
 sn:∀n S,lg n<=1000->(∀s∈n,Fc s)->F is Qmb S=.ok Q20 S
 t0:∀n S (w:Nat),Nt 11 n->wdt n=w->F itl [.int 0,Xb n,.non] S=.ok QEW S
 t1:∀n S (w:Nat),Nt 11 n->wdt n=w->F itl [.int 1,Xb n,.non] S=.ok QlR S
 t2:∀n f S,Nt 11 n->f∈fcs n->F itl [.int 2,Xb n,Xa f] S=.ok QNU S
 x2:∀n d S,Nt 11 n->pd d=yx->Xaa n d=yw->F itl [.int 2,Xb n,d] S=.ok (Y8 2) S
 t3:∀n p S,Nt 11 n->p∈pts n->F itl [.int 3,Xb n,.int p] S=.ok QOU S
 x3:∀n d S,Nt 11 n->pd d=yx->Qw5=yw->F itl [.int 3,Xb n,d] S=.ok (Y8 3) S
 tn:∀(w:Nat) a b S,w<4->pd a=yx->pd b=yx->Y2 a=yw->F itl QXN S=.ok (Y8 1) S
private noncomputable abbrev qE(p:Nat)(n:LL)(f:LI)(nn fr x7 x8 x9 bd st x12:Option D):En:=[yz QV,yz Q70,yz QVB,yz QKF,yz QtX,nn,fr,x7,x8,x9,bd,st,x12]
abbrev Y3(n:LL):Int:=(Qp2++[16]).headD 16
def Ydk{n:LL}:Y3 n ∉ pts n\/Y3 n=16:=by
 unfold Y3;cases e:QC0.filter λp=>!decide QvY with
 |nil=>exact .inr rfl|cons a l=>
  left;let:a∈QC0.filter λp=>!decide QvY:=by rw[e];exact V6
  let:=(Ui.mp this).2;rw[Uq,decide_eq_false_iff_not]at this;calc this
def Xzv{k:Nat}{n:LL}(h:Nt k n)(p:Int):Xaa n QYe=yx ↔ p∈pts n:=by
 rw[Xub];unfold Xaa;rw[bA0,ints_of,Vbp];constructor;·rintro ⟨_,s,hs,l⟩;exact⟨s,hs,lie_sub.mp l p QA⟩
 ·rintro ⟨s,hs,hp⟩;let r:=QI8.r15 p hp;calc⟨Fc.fac ⟨Vbx _ _,(by show 1<=6;decide),λx B=>by rw[Vw.mp B];calc r⟩,s,hs,lie_sub.mpr λx B=>by rw[Vw.mp B];calc hp⟩
def X7p{k:Nat}{n:LL}(h:Nt k n):Xaa n (.tup [.int Qah])=false:=by
 rw[Vem];intro z;let:=(Xzv h Qah).mp z;rcases Ydk (n:=n) with q|q;·exact q this
 ·rw[q,Xub]at this;let⟨s,hs,B⟩:=this;let:=QI8.r15 16 B;lia
section
variable{F:Fn}{G:LD}{S S1:Sto}{p itl iln is ig it ilc ill ile ict ibn ibf ipt ilf:Nat}{n:LL}{nn bd st:D}{f:LI}{x5 x6 x7 x8 x9 x10 x11 x12:Option D}
def X23(S:Sto)(d:D):Xl .mul Q7 QAf (S++QeD)=.ok QEL (S++QeD++[O.lst [d,d,d,d]]):=by simp[Xl,lstM,Yy];calc iP0 ⟨by decide,QwL,by decide⟩
def Ygg(l:LI)(h:0<QmI.length):QmI[0]=D.int ((l++[16]).headD 16):=by cases l<;>rfl
def Yfj(hn:Nt 11 n)(x5 x6 x7 x8 x9 x10 x11 x12:Option D):ev F G Qo8 QCC S=.ok QoW S:=by
 let c:=Xdm (F:=F) (G:=G) (env:=qE p n f x5 x6 x7 x8 x9 x10 x11 x12) (S:=S) (n:=2) (i:=14) (it:=.rng Q10) (ifs:=.cons (.cmp .notin QF0 QE) .nil) (elt:=.var 14) Q9I Qp7 Qq7 Q7N QIC (λd hd=>by let⟨k,_,rfl⟩:=Vm.mp hd;calc Xb6 (e:=.cmp .notin QF0 QE) (Xee (enc_int.inF Q1 (k:Int) QVS S))) QS5 QKA;let e2:(QyG.filter Qp7).map Qq7=Qp2.map D.int:=by rw[Vgu,Vdo,Vdo,Var];rfl
 rw[e2]at c;let hl:(Qp2.map D.int).length<=16:=by rw[Ve];exact V5 QBE QIC
 let a:=X1 (e:=.bin .add Q31 (.frz (.lst Q10))) ((X7 c (X1 (e:=.lst Q10) (xs:=[.int 16]) rfl rfl)).trans (Xii _ _ (Xk (by rw[Vdb];lia)) S)) (Xd8 λy B=>by rw[<-List.map_singleton,<-Vak]at B;let⟨_,_,rfl⟩:=Vm.mp B;rfl);let L:0<(Qp2.map D.int++[D.int 16]).length:=by rw[Ub,Vdb];lia
 calc(Xbq a rfl).trans ((Xa8 (i:=0) rfl Q40 L).trans ?_);rw[Ygg];rfl
abbrev Xzw(ibf ibn:Nat)(ss:Sts):Sts:=.cons (.asg (.tup [10,11]) (.tup (.cons (.call ibf (.cons Q4 QE1)) (.cons (.call ibn QV6) .nil)))) ss
abbrev Xzx(ilf ipt it ibf ibn:Nat)(ss:Sts):Sts:=.cons (.asg Q9 QtU) (.cons (.asg QE QsU) (.cons (.asg Qq (.idx Q9 (.call it (.cons Q4 (.cons QKJ .nil))))) (.cons (.asg Qh5 (.idx (.frz QL0) (.call it (.cons Q4 (.cons (.cst (.int 9)) .nil))))) (.cons (.asg Q27 Qo8) QaR))))
def X24(H:R02 F itl iln is ig it ilc ill ile ict ibn ibf ipt ilf)(B:Nt 11 n)(hp:Pot S p)(ss:Sts):
  ∃f nn bd st S1,f∈fcs n/\nn∈none2/\pd bd=yx/\pd st=yx/\Dw p S S1 /\
   pe F G (Xzx ilf ipt it ibf ibn ss)
    Qn3 S=pe F G ss QnA S1:=by
 let a0:ev F G QtU Qn3 S=.ok QVB S:=Qh7.trans (H.lf n S B);let a1:ev F G QsU [yz QV,yz Q70,yz QVB,yy,yy,yy,yy,yy,yy,yy,yy,yy,yy] S=.ok QKF S:=Qh7.trans (H.lp n S B);let hl:Q6Y.length=QB1.length:=Ve ..;let ac:=Xkx B;let ab:=Ve1.mpr (Xqr B);let⟨fd,L,S3,e1,e2⟩:=Xqf (G:=G) (env:=[yz QV,yz Q70,yz QVB,yz QKF,yy,yy,yy,yy,yy,yy,yy,yy,yy]) (S:=S) (j:=0) (a:=.var 2) (e:=.blt .len Qi) (x:=rwF QB1) (xs:=QB1.map Xa) H.tk hp rfl rfl Q32 Q40 rfl QN7 QN7;let⟨f,hf,rfl⟩:=Vm.mp L;let⟨nn,aa,S4,c1,c2⟩:=Xmo (G:=G) (env:=qE p n f yy yy yy yy yy yy yy yy) (S:=S3) (j:=0) (a:=.frz QL0) (xs:=none2) (n:=9) H.tk e1.pot rfl QL2 rfl Q1 Q1;let ff:=Xci B hf;let fr:=Yfj (F:=F) (G:=G) (S:=S4) (p:=p) (f:=f) B QB8 yy yy yy yy yy yy yy;let⟨bd,S5,g1,g2,g3⟩:=Xqp (G:=G) (env:=qE p n f QB8 Q90 yy yy yy yy yy yy) (S:=S4) (j:=0) (e:=.var 4) (H.bf f ff) c1.pot rfl rfl;let⟨st,S6,h1,h2,h3⟩:=Xqp (G:=G) (env:=qE p n f QB8 Q90 yy yy yy yy yy yy) (S:=S5) (j:=0) (e:=.var 1) (H.bn n B) g1.pot rfl rfl;let pr:=Xzf g2 h2;let sp:∀ss,pe F G QaR (qE p n f QB8 Q90 yy yy yy yy yy yy) S4=pe F G ss QnA S6:=λss=>Xct (ond pr rfl);calc⟨f,nn,bd,st,S6,hf,aa,g3.pd,h3.pd,(e1.trans c1).trans (g1.trans h1),(Xm a0).trans ((Xm (i:=3) a1).trans ((Xm (i:=4) e2).trans ((Xm (i:=5) c2).trans ((Xm (i:=6) fr).trans (sp ss)))))⟩
universe e
def Xqx:∀(l:LI) (n:Nat),(Qva.filter λd=>match d with | .tup QwK=>decide Q5g|_=>yw).map QIA=(odL n l).map D.int
 |[],n=>rfl|x::l,n=>by
  let ih:=Xqx l QF6;rw[Uh,Xck,List.filter_cons,odL];show Vd1 _ (if decide (((n:Nat):Int)%2=1)=yx then _ else _)=_;by_cases h:n%2=1;·rw[iP0 (decide_eq_true Q0),iP0 h,Uh,Uh,ih]
  ·rw[iN0 (λz=>h (by let:=oD0 z;omega)),iN0 h,ih]
def X7q{k:Nat}{n:LL}(h:Nt k n){s:LI}(hs:s∈n):rgF n s=[[]]:=by
 let hf:s∈fcs n:=mem_fcs.mpr QzG;exact Xik (Xhh _) (Vbx _ _) λa=>?_;rw[<-X4d h hf,srtC_mem,Vw];let e:lft s s=[]:=Vhn.mpr λx B=>by rw[decide_eq_true B];exact V0
 constructor;·intro L;let⟨t,ht,rfl⟩:=Vm.mp L;let⟨h1,h2⟩:=Ui.mp ht;let:=h.apart hs h1 h2;subst this;exact e
 ·rintro rfl;calc Vm.mpr ⟨s,Ui.mpr ⟨hs,Xcy s⟩,e⟩
section
variable{F:Fn}{G:LD}{S S1 S2:Sto}{p itl iln is ig it ilc ill ile ict ibn ibf ipt ilf:Nat}{n:LL}{nn bd st:D}{f:LI}{x5 x6 x7 x8 x9 x10 x11 x12:Option D}
def Yfk(B:LI)(hr:QIH<=1000)(x5 x6 x8 x9 x10 x11 x12:Option D):ev F G QG1 (qE p n f x5 x6 QqC x8 x9 x10 x11 x12) S=.ok QRC S:=by
 let c:=X1 (F:=F) (G:=G) (env:=qE p n f x5 x6 QqC x8 x9 x10 x11 x12) (S:=S) (Xie (n:=3) (t:=.tup [14,15]) (it:=.enm (.cons QfK .nil)) (ifs:=.cons (.cmp .eq (.bin .mod QF0 QT) Q6) .nil) (elt:=.var 15) (src:=.enm (.con QHE)) (Xck 0 QHE)
  (λd=>match d with|.tup Q2H=>qE p n f x5 x6 QqC x8 x9 x10 x11 x12++[yy,yz a,yz b]|_=>[]) (λd=>match d with|.tup QwK=>decide Q5g|_=>yw) Q2B rfl (Xtx _ S) Q2N QYJ
  QzB Qd5 (λd hd=>by
   let⟨a,x,rfl⟩:=Yp hd;calc Xb6 ((Yn ((X7 (a:=.var 14) (x:=.int (a:Int)) (y:=.int 2) rfl rfl).trans (Xdx (show(0:Int)<2 by decide) S)) rfl).trans (Xdn QXZ))) QKB) (Xd8 λy hy=>by
   let⟨d,hd,rfl⟩:=Vm.mp hy;let⟨a,x,rfl⟩:=Yp Q8b.1;rfl)
 rw[Xqx B 0]at c;calc Xoc c rfl
abbrev Xqy(ict is itl:Nat)(ss:Sts):Sts:=.cons (.asg QfK (.call ict Qg)) (.cons (.asg (.var 8) QG1) (.cons (.asg QMP (.frz (.lst (.cons QfK (.cons Q64 .nil))))) (.cons (.ite (.not (.call is (.cons (.frz (.cmr yw 2 (.cons QF0 (.rng QrB) .nil .nil) (.call itl QV9))) (.cons QMP .nil)))) QB .nil) ss)))
def X7r(H:R02 F itl iln is ig it ilc ill ile ict ibn ibf ipt ilf)(L:Nt 11 n)(x5 x6 x10 x11:Option D)(ss:Sts):
  ∃x7 x8 x9,pe F G (Xqy ict is itl ss)
   (qE p n f x5 x6 yy yy yy x10 x11 yy) S=pe F G ss Qy2 S:=by
 let⟨w,hw,aa,_,_⟩:=Xqv L;let⟨r,hr⟩:=X20 L w;let hl:QXA.length<=100:=by rw[Xfp];omega
 let a:=(Xg (F:=F) (G:=G) (f:=ict) (a:=.var 1) (env:=qE p n f x5 x6 yy yy yy x10 x11 yy) (S:=S) rfl).trans (H.ct n S w L hw);let t0:=H.t0 n S w L hw;let t1:=H.t1 n S w L hw;let te:=Ydh hr;generalize cts QB1 w=B at *;let b:=Yfk (F:=F) (G:=G) (S:=S) (p:=p) (n:=n) (f:=f) B Q0 x5 x6 yy yy x10 x11 yy;let m:ev F G Q64 (qE p n f x5 x6 QqC Qrd yy x10 x11 yy) S=.ok QRb S:=by let m1:Xaj 2 Q4c.sum=true:=Xme Q1 Q1;calc(X7 ((X7 ((X7 (a:=.cst QTP) (b:=.var 8) rfl rfl).trans Qta) rfl).trans Q7E) (Xoc (ns:=B) (e:=.var 7) rfl rfl)).trans (Q8W.trans ?_);rw[te]
 let l:=Xa3 (Xc (e:=.var 7) (x:=Xa B) (S1:=S) rfl (Xc m Yd)) QZA .rfl' (by rw[bdDs,bdDs,Yb];rfl)
 let z:=Xif (F:=F) (G:=G) (env:=qE p n f x5 x6 QqC Qrd (yz QUI) x10 x11 yy) (S:=S) (n:=2) (i:=14) (it:=.rng QrB) (elt:=.call itl QV9) QFV (λd=>match d with|.int 0=>Xa B|_=>.int QNS) (Xb1 (n:=2) rfl Q1) Q8B (by
  calc Xqg ?_ ?_;·exact t0
  ·calc t1) (by
  calc Xqg ?_ ?_;·exact Yb _ _
  ·rfl)
 let c:=Yv ((X9 (f:=is) z (show ev F G QMP _ S=.ok QUI S from rfl)).trans (H.s2 B QNS S hl));calc⟨_,_,_,(Xm (i:=7) a).trans ((Xm (i:=8) b).trans ((Xm (i:=9) l).trans (Q9B.trans QuD)))⟩
abbrev Xky(ig ill ile is itl:Nat)(ss:Sts):Sts:=.cons (.asg QMP (.call ig (.cons (.frz (.cmr yw 2 (.cons QF0 (.val Q9) (.cons QtB .nil) .nil) (.call ile QnT))) .nil))) (.cons (.ite (.or (.not Qj4) (.not QVI)) QB .nil) ss)
def X25(H:R02 F itl iln is ig it ilc ill ile ict ibn ibf ipt ilf)(B:Nt 11 n)(hf:f∈fcs n)(x5 x6 x7 x8 x9 x10 x11:Option D)(ss:Sts):
  ∃aa,pe F G (Xky ig ill ile is itl ss)
   Qy2 S=pe F G ss (qE p n f x5 x6 x7 x8 aa x10 x11 yy) S:=by
 let ff:=Xci B hf;let ab:=Xkx B;let c:=Xob (F:=F) (G:=G) (env:=qE p n f x5 x6 x7 x8 x9 x10 x11 yy) (S:=S) (n:=2) (j:=14) (it:=.val Q9) (ifs:=.cons QtB .nil) (elt:=.call ile QnT) QB1 (λg=>lie f g) Q2U rfl QO9 (λg _=>Xb6 ((X9 (a:=.var 4) (b:=.var 14) rfl rfl).trans (H.ll f g S ff))) (λg hg _=>(X9 (a:=.var 14) (b:=.var 4) rfl rfl).trans (H.le g f S (Xci B hg)));let lk:Q9L.length<1000:=by rw[Ve];exact Uu QBE Q0
 let fk:∀s∈QR9.map Q2U,Fc s:=λs hs=>by let⟨g,hg,rfl⟩:=Vm.mp hs;exact(Xci B Q7b.1).lft f
 let a:=(Xg (f:=ig) c).trans (H.gr _ S lk fk);let s1:ev F G Qj4 QX0 S=.ok Q20 S:=
  (X9 (show ev F G (.call itl (.cons QT (.cons Q2 QE1))) QX0 S=.ok QNU S from H.t2 n f S B hf) rfl).trans (H.sn _ S QST λs hs=>fk s QKe)
 let hz:=Ve1.mpr B.ne;let L:=Vb6 hz;let ix:ev F G (.idx Q2 QN) QX0 S=.ok (Xa n[0]) S:=by calc(Xbq (a:=.var 1) (b:=.cst QtG) (x:=Xb n) rfl rfl).trans ((Xa8 (x:=Xb n) (xs:=n.map Xa) rfl Q40 (i:=0) (by rw[Ve];calc hz)).trans ?_);rw[List.getElem_map]
 let t2:=H.t2 n n[0] S B (mem_fcs.mpr ⟨_,L,Vfk _⟩);rw[X7q B L]at t2;let s2:ev F G QVI QX0 S=.ok Q20 S:=by
  let e1:ev F G QP2 QX0 S=.ok Q7M S:=by exact ond (Xc (e:=.cst QTP) rfl (Xc (e:=.var 1) rfl Qwa)) t2
  exact(X9 e1 (show ev F G QP _ S=.ok Q7M S from rfl)).trans (H.sn [[]] S Q1 λs hs=>by rw[Vw.mp hs];calc⟨.nil,by decide,λx hx=>by cases hx⟩)
 let k:=Xbv (Yv s1) λ_=>Yv s2;calc⟨_,(Xm (i:=9) a).trans ((Yu (v:=.bl yw) k rfl).trans QuD)⟩
abbrev Xhl(ilc itl:Nat)(ss:Sts):Sts:=.cons (.ite Qx0 QB .nil) ss
def X7s(H:R02 F itl iln is ig it ilc ill ile ict ibn ibf ipt ilf)(hn:Nt 11 n)(hb:pd bd=yx)(x5 x6 x7 x8 x9 x11 x12:Option D)(ss:Sts):
  pe F G (Xhl ilc itl ss)
   QH1 S=pe F G ss QH1 S:=by
 let a:ev F G (.and (.call ilc QIL) (.cmp .isin (.var 10) Q9)) QH1 S=.ok (.bl (Xaa n bd)) S:=by rw[Xzl hn];exact Xb4 ((Xg (a:=.var 10) rfl).trans (H.lc bd S hb)) λB=>?_;let⟨l,rfl,_⟩:=Xfj B;rw[ints_of];exact Xap (Ycn l QB1 S)
 let c:ev F G Qx0 QH1 S=.ok (.bl (!Xaa n bd&&yw)) S:=by
  exact Xb4 (Yv a) λhx=>?_;let L:Xaa n bd=false:=by simpa using hx
  let t:ev F G (.call itl (.cons QT (.cons Q2 QIL))) QH1 S=.ok QgK S:=H.x2 n bd S hn hb L;exact(Yn (o:=.ne) t (show ev F G (.cst QgK) _ S=.ok QgK S from rfl)).trans (Ycv _ S)
 calc Q9B.trans ?_;rw[Vct];calc iN0 V0
abbrev Xfq(it is itl ig:Nat)(ss:Sts):Sts:=.cons (.ite QqQ (.cons (.asg QPM (.idx QE (.call it (.cons Q4 (.cons QvU .nil))))) (.cons QB0 .nil)) .nil) ss
def Xzy(H:R02 F itl iln is ig it ilc ill ile ict ibn ibf ipt ilf)(hn:Nt 11 n)(hp:Pot S p)(x5 x6 x7 x8 x9 x10 x11:Option D)(ss:Sts):
  ∃x12 S1,Dw p S S1/\pe F G (Xfq it is itl ig ss)
   Qy2 S=pe F G ss QCC S1:=by
 let c:ev F G QqQ Qy2 S=.ok (.bl (! QO1.isEmpty)) S:=(Yn (a:=.var 3) rfl QiB).trans (Xdh Qic);let ac:=Xkx hn;cases L:QO1.isEmpty with
 |true=>rw[L]at c;calc⟨yy,S,.rfl' hp,QbZ.trans ?_⟩;rfl|false=>
  rw[L]at c;let ae:=X7m (n:=n) λs hs=>Q06.r15;let aa:pts n≠[]:=λz=>by rw[z]at L;cases L
  let ab:=Ve1.mpr aa;let hl:QO1.length=QVS.length:=Ve ..;let⟨v,hv,S1,e1,e2⟩:=Xqf (G:=G) (env:=qE p n f x5 x6 x7 x8 x9 x10 x11 yy) (S:=S) (j:=0) (a:=.var 3) (e:=.blt .len Qk) (x:=.fro QO1) (xs:=QVS.map D.int) H.tk hp rfl rfl Q32 Q40 rfl Q0 Q0;let⟨q,hq,rfl⟩:=Vm.mp hv;let g:=Xob (F:=F) (G:=G) (env:=qE p n f x5 x6 x7 x8 x9 x10 x11 QRV) (S:=S1) (n:=2) (j:=14) (it:=.val Q9) (ifs:=.cons (.cmp .notin QPM QF0) .nil) (elt:=.var 14) QB1 QyK (λg=>g) rfl QO9 (λg _=>Xb6 (e:=.cmp .notin QPM QF0) (Xee (Xhd q g S1))) (λg _ _=>rfl);rw[Vgu]at g;let fk:∀s∈QB1.filter QyK,Fc s:=λs hs=>Xci hn (Ui.mp hs).1;let lk:QFE.length<1000:=Uu QBE Q0;let d:=(Xg (f:=ig) g).trans (H.gr _ S1 lk fk);let t:ev F G (.call itl (.cons QI0 (.cons Q2 (.cons QPM .nil)))) (qE p n f x5 x6 x7 x8 x9 x10 x11 QRV) S1=.ok (Xb (grt QFE)) S1:=H.t3 n q S1 hn hq;let k:=Yv ((X9 (f:=is) t d).trans (H.sn _ S1 QST λs hs=>fk s QKe));calc⟨yz (.int q),S1,e1,QbZ.trans ?_⟩;let B:=(Xm (ss:=.cons QB0 .nil) (i:=12) e2).trans ((Yu (ss:=.nil) (v:=.bl yw) k rfl).trans QuD);rw[iP0 QsV,B];rfl
abbrev Xzz(itl:Nat):Ex:=.call itl QK7
abbrev Xen(itl iln:Nat):Sts:=.cons (.ite (.cmp .ne (.frz (.lst (.cons Qc8 (.cons Qd8 .nil)))) QfE) QB .nil) (.cons (.ite (.call iln (.cons (.var 11) .nil)) QRG .nil) (.cons (.ret (.cmp .eq (.frz (.cmr yw 2 (.cons QF0 (.rng QqR) .nil .nil) (Xzz itl))) QY6)) .nil))
abbrev Xe6(itl iln is ig it ilc ill ile ict ibn ibf ipt ilf:Nat):Df:=⟨2,13,Xzx ilf ipt it ibf ibn Q6N,yx⟩
def X7t(H:R02 F itl iln is ig it ilc ill ile ict ibn ibf ipt ilf)(hn:Nt 11 n)(B:nn∈none2)(hb:pd bd=yx)(hs:pd st=yx)(x7 x8 x9 x12:Option D):
  pe F G Q6E
   Qd0 S=.ok QMd S:=by
 let t1:ev F G Qc8 Qd0 S=.ok QHJ S:=H.x3 n nn S hn (Xqw nn B) (X22 n nn B);let t2:ev F G Qd8 Qd0 S=.ok QHJ S:=H.x3 n QoW S hn rfl (by rw[X7p hn,Vct]);let l:=Xa3 (Xc t1 (Xc t2 Yd)) QZA .rfl' rfl;let r:ev F G QfE Qd0 S=.ok (.fro [.str "point",.str "point"]) S:=Xt4 (X:=[O.lst [.str "point"]]) ((X7 (a:=.lst QB6) (b:=.cst QTP) rfl rfl).trans (X7i S QHJ)) rfl;let c:=(Yn l r).trans (Xdh (b:=yx) QH3);let s:=H.ln st S hs;calc Q9B.trans (QuD.trans ((Yu (v:=.bl yx) ((Xg (f:=iln) (a:=.var 11) rfl).trans s) rfl).trans ?_));cases hi:Y2 st with
 |true=>exact iP0 rfl|false=>
  rw[iN0 V0];let L:=Xqw nn B;let fl:∀(i:Option D),ev F G Qp0 (qE p n f QB8 Q90 x7 x8 x9 Q2K QL9 x12++[yy,i]) S=.ok (.fro Q0G) S:=λi=>Xa3 (ds:=Q0G) rfl QYA .rfl' (by rw[bdDs,bdDs,bdDs,bdDs,Xc6 _ hb,Xc6 _ L];rfl);let tn:∀(w:Nat) (hw:w<4),ev F G (.call itl QK7) (qE p n f QB8 Q90 x7 x8 x9 Q2K QL9 x12++[yy,yz Qc5]) S=.ok QRM S:=λw hw=>by
   let aa:w<QCR.length:=hw;let ix:=(Xbq (fl (yz Qc5)) (show ev F G QF0 _ S=.ok Qc5 S from rfl)).trans (Xa8 (xs:=Q0G) rfl Q40 aa);let pv:pd (QCR[w])=true:=by
    match w,hw with
    |0,_=>rfl|1,_=>rfl|2,_=>exact hb|3,_=>exact L
   calc ond (Xc (e:=.var 14) rfl (Xc (e:=.var 11) rfl Qwa)) ?_;exact H.tn w st _ S hw hs pv hi
  let z:=Xif (F:=F) (G:=G) (env:=qE p n f QB8 Q90 x7 x8 x9 Q2K QL9 x12) (S:=S) (n:=2) (i:=14) (it:=.rng QqR) (elt:=Xzz itl) [.int 0,.int 1,.int 2,.int 3] (λd=>.str "net") (Xb1 (n:=4) rfl Q1) QwL (by
   calc Ycr ?_ ?_ ?_ ?_;·exact tn 0 Q1
   ·exact tn 1 Q1
   ·exact tn 2 Q1
   calc tn 3 Q1) (λd _=>rfl)
  let r4:ev F G QY6 Qd0 S=.ok (.fro [.str "net",.str "net",.str "net",.str "net"]) S:=Xt4 (X:=[O.lst [.str "net"]]) ((X7 (a:=.lst (.cons (.cst QRM) .nil)) (b:=.cst QAf) rfl rfl).trans (X23 S QRM)) rfl;calc Xn ((Yn z r4).trans (Xdn (b:=yx) QH3))
def Xv7(H:R02 F itl iln is ig it ilc ill ile ict ibn ibf ipt ilf)(B:Nt 11 n)(hp:Pot S p):∃S1,Dw p S S1/\den F G (Xe6 itl iln is ig it ilc ill ile ict ibn ibf ipt ilf) QZY S=.ok Q20 S1:=by let⟨f,nn,bd,st,S1,hf,L,hb,hs,d1,q1⟩:=X24 (G:=G) H B hp Q6N;let⟨x7,x8,x9,q2⟩:=X7r (G:=G) (S:=S1) (p:=p) (f:=f) H B QB8 Q90 Q2K QL9 Qc1;let⟨y9,q3⟩:=X25 (G:=G) (S:=S1) (p:=p) H B hf QB8 Q90 x7 x8 x9 Q2K QL9 (Xhl ilc itl Q7L);let⟨x12,S2,d2,q5⟩:=Xzy (G:=G) (S:=S1) (p:=p) (f:=f) H B d1.pot QB8 Q90 x7 x8 y9 Q2K QL9 Q6E;let q4:=X7s (G:=G) (S:=S1) (p:=p) (f:=f) H B hb QB8 Q90 x7 x8 y9 QL9 yy Q7L;let q6:=X7t (G:=G) (S:=S2) (p:=p) (f:=f) H B L hb hs x7 x8 y9 x12;let dw:=d1.trans d2;calc⟨S2,dw,Xei (env0:=Qn3) rfl ?_ dw rfl⟩;calc q1.trans (q2.trans (q3.trans (q4.trans (q5.trans q6))))
universe e
universe Z
universe e
section
namespace K02
open PySem PySem.Spec PyProof.Rows L2 Z
abbrev top(i:Nat):Stmt:=PySem.Challenge.pw_facecounts_k02_counts_tallies_and_rings.main.body.getD i (.Pass ⟨0,0,0,0⟩)
abbrev gns:LS:=["GREATEST_POINT","GREATEST_SIZE","MOST_SIDES","ring","without","counts","tally"]
abbrev G:LD:=[.int 15,.int 6,.int 60,.fn 6 "ring",.fn 7 "without",.fn 4 "counts",.fn 5 "tally"]
abbrev fns:LF:=([("is_whole",1,yx),("is_whole_within",3,yx),("is_rising",1,yx),("is_net",1,yx),("counts",1,yx),("tally",1,yx),("ring",2,yx),("without",2,yx),("check_net",1,yx),("is_any_face",1,yx),("is_nested",1,yx),("lies_in_another",2,yx),("lies_in",2,yx),("has_face",2,yx),("ring_of",2,yx),("all_faces",1,yx),("parts_of",1,yx),("width_of",1,yx),("left_of",2,yx),("outermost",1,yx)]:LF)++([("_law_cell_at",2,yx),("_law_pot",1,yx),("_law_take",2,yx),("_law_whole",1,yx),("_law_same",2,yx),("_law_lies",2,yx),("_law_greatest",1,yx),("_law_net",1,yx),("_law_is_face",1,yx),("_law_is_net",1,yx),("_law_parts",1,yx),("_law_faces",1,yx),("_law_counts",1,yx),("_law_less",2,yx),("_law_points",1,yx),("_law_odd",1,yx),("_law_bent_face",2,yx),("_law_bent_net",2,yx),("_law_kind_of",1,yw),("_law_told",3,yx)]:LF)++([("_law_right",2,yx),("law",1,yx)]:LF)
private noncomputable abbrev Xkz:Df:=Xga
abbrev Xv8:LS:=QZN
private noncomputable abbrev Xdf:Df:=Xbw 0
abbrev Xip:LS:=["thing","low","high"]
private noncomputable abbrev Xi0:Df:=Xbz
abbrev Xrm:LS:=["things"]
private noncomputable abbrev Xqz:Df:=Xjr 10 2 9 2
abbrev X26:LS:=QZN
private noncomputable abbrev Xq0:Df:=Xcz 15 17 8
abbrev X27:LS:=["net","many","face"]
private noncomputable abbrev Xuf:Df:=Xfo 4
abbrev X7u:LS:=["net","many"]
private noncomputable abbrev Xz0:Df:=Xek 14 13 8
abbrev Ydl:LS:=QJX
private noncomputable abbrev Xnm:Df:=Xbj 19 18 13 0 8
abbrev Xz1:LS:=["net","point"]
private noncomputable abbrev Xi1:Df:=Xc3 3
abbrev Xrn:LS:=QZN
private noncomputable abbrev Xgm:Df:=Xdd 2 1 0 1
abbrev Xnq:LS:=QZN
private noncomputable abbrev Xi2:Df:=Xe3 11
abbrev Xro:LS:=["sides"]
private noncomputable abbrev Xdg:Df:=Xbx 12
abbrev Xiq:LS:=["face","sides"]
private noncomputable abbrev Xnn:Df:=Xhb
abbrev Xz2:LS:=["inner","outer","point"]
private noncomputable abbrev Xk0:Df:=Xgb 12 9
abbrev Xv9:LS:=["net","thing"]
private noncomputable abbrev Xno:Df:=Xhi 12 18
abbrev Xz3:LS:=QJX
private noncomputable abbrev Xi3:Df:=Xe4 16
abbrev Xrp:LS:=["net","found","side","part"]
private noncomputable abbrev Xk1:Df:=Xgc
abbrev Xwa:LS:=["side","parts","point"]
private noncomputable abbrev Xk2:Df:=Xgk
abbrev Xwb:LS:=["net"]
private noncomputable abbrev Xnp:Df:=Xda
abbrev Xz4:LS:=["side","face"]
private noncomputable abbrev Xi4:Df:=Xe5 11
abbrev Xrq:LS:=["some"]
private noncomputable abbrev Xfr:Df:=Xde
abbrev Xmt:LS:=["_law_script","_law_k"]
private noncomputable abbrev Xk3:Df:=t_law_pot
abbrev Xwc:LS:=["_law_cell","_law_number","_law_j","_law_more"]
private noncomputable abbrev Xi5:Df:=t_law_take
abbrev Xrr:LS:=["_law_pot_here","_law_far","_law_found"]
private noncomputable abbrev Xhm:Df:=Xb0
abbrev Xq1:LS:=QKX
private noncomputable abbrev Xi6:Df:=Xax 23 24
abbrev Xrs:LS:=["_law_found","_law_due"]
private noncomputable abbrev Xi7:Df:=Xgd
abbrev Xrt:LS:=["_law_one","_law_other"]
private noncomputable abbrev Xew:Df:=Xcu 25
abbrev Xk4:LS:=QWC
private noncomputable abbrev Xk5:Df:=Xet 26 22
abbrev Xwd:LS:=["_law_pot_here","_law_level","_law_far","_law_size","_law_some","_law_turn","_law_left","_law_wide"]
private noncomputable abbrev Xfs:Df:=Xb5 23
abbrev Xmu:LS:=QKX
private noncomputable abbrev Xgn:Df:=Xec 25 28
abbrev Xnr:LS:=["_law_thing","_law_side"]
private noncomputable abbrev Xhn:Df:=Xc4
abbrev Xq2:LS:=["_law_face","_law_found","_law_number"]
private noncomputable abbrev Xho:Df:=Xc5 30
abbrev Xq3:LS:=["_law_net_here","_law_found","_law_side"]
private noncomputable abbrev Xgo:Df:=Xel 31
abbrev Xns:LS:=["_law_net_here","_law_sizes"]
private noncomputable abbrev Xi8:Df:=Xda
abbrev Xru:LS:=["_law_face","_law_points_here"]
private noncomputable abbrev Xgp:Df:=Xem
abbrev Xnt:LS:=QWC
private noncomputable abbrev Xk6:Df:=Xhc 22
abbrev Xwe:LS:=["_law_pot_here","_law_some"]
private noncomputable abbrev Xeo:Df:=Xch 35 22
abbrev Xj1:LS:=["_law_pot_here","_law_face","_law_odd_here","_law_some","_law_way","_law_at"]
private noncomputable abbrev Xex:Df:=Xcv 35 36 22
abbrev Xk7:LS:=["_law_pot_here","_law_net_here","_law_side","_law_bent","_law_some","_law_way","_law_at"]
private noncomputable abbrev Xft:Df:=t_law_kind_of
abbrev Xmv:LS:=["_law_e","_law_some","_law_words"]
private noncomputable abbrev Xi9:Df:=Yr 4 3 6 5 38
abbrev Xrv:LS:=["_law_way","_law_net_here","_law_thing","_law_e"]
private noncomputable abbrev Xhp:Df:=Xe6 39 29 24 26 22 28 25 33 32 37 36 34 31
abbrev Xq4:LS:=["_law_pot_here","_law_net_here","_law_every","_law_known","_law_face","_law_none","_law_far","_law_row","_law_odd_ones","_law_due","_law_bad","_law_strange","_law_point"]
private noncomputable abbrev Xwf:Df:=Xhj 7 4 5 40 27 21 20
abbrev X4f:LS:=["_law_script","_law_k","_law_pot_here"]
abbrev T:List Df:=[Xkz,Xdf,Xi0,Xqz,Xq0,Xuf,Xz0,Xnm,Xi1,Xgm,Xi2,Xdg,Xnn,Xk0,Xno,Xi3,Xk1,Xk2,Xnp,Xi4,Xfr,Xk3,Xi5,Xhm,Xi6,Xi7,Xew,Xk5,Xfs,Xgn,Xhn,Xho,Xgo,Xi8,Xgp,Xk6,Xeo,Xex,Xft,Xi9,Xhp,Xwf]
private abbrev MS(p:Nat)(N:LS)(fl:Bool)(d:Df):Prop:=Z.MD fns gns (top p) N fl d
def Xwg:MS 19 Xv8 yx Xkz:=by decide+kernel
def Xir:MS 20 Xip yx Xdf:=by decide+kernel
def Xrw:MS 21 Xrm yx Xi0:=by decide+kernel
def X28:MS 26 X26 yx Xqz:=by decide+kernel
def X29:MS 27 X27 yx Xq0:=by decide+kernel
def X7v:MS 28 X7u yx Xuf:=by decide+kernel
def Ydm:MS 29 Ydl yx Xz0:=by decide+kernel
def Xz5:MS 30 Xz1 yx Xnm:=by decide+kernel
def Xrx:MS 31 Xrn yx Xi1:=by decide+kernel
def Xnu:MS 32 Xnq yx Xgm:=by decide+kernel
def Xry:MS 33 Xro yx Xi2:=by decide+kernel
def Xis:MS 34 Xiq yx Xdg:=by decide+kernel
def Xz6:MS 35 Xz2 yx Xnn:=by decide+kernel
def Xwh:MS 36 Xv9 yx Xk0:=by decide+kernel
def Xz7:MS 37 Xz3 yx Xno:=by decide+kernel
def Xrz:MS 38 Xrp yx Xi3:=by decide+kernel
def Xwi:MS 39 Xwa yx Xk1:=by decide+kernel
def Xwj:MS 40 Xwb yx Xk2:=by decide+kernel
def Xz8:MS 41 Xz4 yx Xnp:=by decide+kernel
def Xr0:MS 42 Xrq yx Xi4:=by decide+kernel
def Xmw:MS 44 Xmt yx Xfr:=by decide+kernel
def Xwk:MS 45 Xwc yx Xk3:=by decide+kernel
def Xr1:MS 46 Xrr yx Xi5:=by decide+kernel
def Xq5:MS 47 Xq1 yx Xhm:=by decide+kernel
def Xr2:MS 48 Xrs yx Xi6:=by decide+kernel
def Xr3:MS 49 Xrt yx Xi7:=by decide+kernel
def Xk8:MS 50 Xk4 yx Xew:=by decide+kernel
def Xwl:MS 51 Xwd yx Xk5:=by decide+kernel
def Xmx:MS 52 Xmu yx Xfs:=by decide+kernel
def Xnv:MS 53 Xnr yx Xgn:=by decide+kernel
def Xq6:MS 54 Xq2 yx Xhn:=by decide+kernel
def Xq7:MS 55 Xq3 yx Xho:=by decide+kernel
def Xnw:MS 56 Xns yx Xgo:=by decide+kernel
def Xr4:MS 57 Xru yx Xi8:=by decide+kernel
def Xnx:MS 58 Xnt yx Xgp:=by decide+kernel
def Xwm:MS 59 Xwe yx Xk6:=by decide+kernel
def Xj2:MS 60 Xj1 yx Xeo:=by decide+kernel
def Xk9:MS 61 Xk7 yx Xex:=by decide+kernel
def Xmy:MS 62 Xmv yw Xft:=by decide+kernel
def Xr5:MS 63 Xrv yx Xi9:=by decide+kernel
def Xq8:MS 64 Xq4 yx Xhp:=by decide+kernel
def Xwn:MS 65 X4f yx Xwf:=by decide+kernel
universe K02
universe e
section
namespace K02
open PySem Z
def nets:TNet T G 0 1 2 3 9 10 11 12 13 8 0 1 2:=⟨rfl,rfl,rfl,rfl,rfl,rfl,rfl,rfl,rfl,rfl,rfl,rfl,rfl⟩
def drws:TDrw T 22 35 36 37 26 25 27 38:=⟨rfl,rfl,rfl,rfl,rfl,rfl,rfl,rfl⟩
def Xj3:Two G 5 6 4 5:=Qr8
def Xbf:Two G 3 4 6 7:=Qr8
def Xep{n:LL}(B:Nt 11 n):Qz5<=big:=Xk Q8O
def Xfu{s:LI}(h:Fc s):QXX<=big:=Xk (by let:=h.l6;omega)
def Yfl{n:LL}(B:Nt 11 n)(k:Nat)(S:Sto):FT T G QGK 15 Q34 S=.ok QVB S:=by rw[Xd (d:=Xe4 16) rfl];calc Xp9 (λl S hl=>by rw[Xd (d:=Xgc) rfl];calc Xy5 l hl S) (λs hs=>Q6a.l6) Q8O S
def Xwo{n:LL}(B:Nt 11 n){w:Nat}(hw:wdt n=w)(k:Nat)(S:Sto):FT T G (k+6) 4 Q34 S=.ok QEW S:=by
 let⟨w',e1,e2,_,L⟩:=Xqv B;let:w'=w:=by omega
 subst this;rw[Xd (d:=Xcz 15 17 8) rfl];calc Xv3 (λS=>nets.fcn k B Q1 S) (λS=>by rw[Xd (d:=Xgk) rfl,Xzp B.ne QWZ,e1]) (λS=>Yfl B QGc S) L Q0 S
def X4g{n:LL}(L:Nt 11 n){w:Nat}(B:wdt n=w)(k:Nat)(S:Sto):FT T G QFK 5 Q34 S=.ok QlR S:=by rw[Xd (d:=Xfo 4) rfl];calc Xzq (Xwo L B k S)
def Xz9{s f:LI}(hs:QXX<=big)(k:Nat)(S:Sto):FT T G Qe3 18 QnP S=.ok QDW S:=by rw[Xd (d:=Xda) rfl];calc Xqs s f hs S
def Ydn{n:LL}(B:Nt 11 n){p:Int}(hp:p∈pts n)(k:Nat)(S:Sto):FT T G QFK 7 QXY S=.ok QOU S:=by let L:=(Xzv B p).mpr hp;rw[Xd (d:=Xbj 19 18 13 0 8) rfl,<-Yfi B];calc Ydj (nets.fcn Qe3 B Q1 S) (by rw[Xd nets.w];calc Xeu rfl S) (by rw[<-L];calc nets.fhs QGK QVZ QWZ S) L (λs hs=>Xz9 (Xfu Q6a) Q3Z S) QWZ (by rw[Xd (d:=Xe5 11) rfl];calc Xzm (λf S=>nets.fla QGc f QP3 (by rw[Ve];calc Xep B) S) (by rw[Ve];let:=B.len;omega) S)
def Ydo(k:Nat):R02 (FT T G Qnf) 39 29 24 26 22 28 25 33 32 37 36 34 31 where
 tk:=drws.tk QFK
 lf n S hn:=by rw[Xd (d:=Xc5 30) rfl,<-Xty];exact Xkt Q19 QFR Qz6 S
 lp n S hn:=by rw[Xd (d:=Xem) rfl];exact Xrl hn.fc Qz6 S
 ct n S w hn hw:=by
  let⟨L,e1,e2,e3,e4⟩:=Xqv hn;let:L=w:=by omega
  subst this;rw[Xd (d:=Xel 31) rfl];calc Xrk (λS=>?_) (Xqr hn) (by let:=Xkx hn;omega) e3 Q0 S;rw[Xd (d:=Xc5 30) rfl,<-Xty];exact Xkt Q19 QFR Qz6 S
 bn n hn:=drws.bn QkS hn.ne hn.len λs hs=>⟨Q06.l6,Q06.smn⟩
 bf l h:=drws.bf Q3Z h.smn h.l6
 ln d S hd:=by rw[Xd (d:=Xec 25 28) rfl];exact Xvz QhD (λd hd S=>by rw[Xd (d:=Xb5 23) rfl];calc Xiy QQJ hd S) hd S
 lc d S hd:=by rw[Xd (d:=Xb5 23) rfl];exact Xiy QQJ hd S
 ll a b S B:=drws.lie QFK b QPg S
 le a b S B:=by rw[Xd (d:=Xda) rfl];exact Xqs a b QPg S
 gr ks S h1 h2:=by rw[Xd drws.g];exact Xtt QP3 h1 (λs hs=>Xfu (h2 s hs)) QhD S
 s2 r i S hr:=by
  rw[Xd (d:=Xax 23 24) rfl];exact Xjz .list QP3 rfl rfl rfl rfl Q8B λz hz=>?_;simp[Vr,Va5,or_false]at hz;rcases hz with rfl|rfl;·exact Xqn (k:=k+4) rfl rfl QO9 S
  ·exact Xqm (k:=k+5) rfl rfl i S
 sn n S h1 h2:=X2u (k:=k+4) (iw:=23) rfl rfl QO9 λl hl=>Xfu (h2 l hl)
 t0 n S w hn hw:=by rw[Xd (d:=Yr 4 3 6 5 38) rfl];exact Xio Xj3 Xbf (w:=0) Q1 (Xwo hn hw Qe3 S) QVZ
 t1 n S w hn hw:=by rw[Xd (d:=Yr 4 3 6 5 38) rfl];exact Xio Xj3 Xbf (w:=1) Q1 (X4g hn hw k S) rfl
 t2 n f S hn hf:=by
  rw[Xd (d:=Yr 4 3 6 5 38) rfl];calc Xio Xj3 Xbf (w:=2) Q1 ?_ QGg;show FT T G QFK 6 QdD S=_;let hh:Xaa n QtX=true:=by rw[Xzl hn,(Xci hn hf).fac,Vbg,ints_of];exact decide_eq_true hf
  rw[Xd (d:=Xek 14 13 8) rfl,<-X4d hn hf];calc X21 Q4B (by rw[<-hh];calc nets.fhs QGK QVZ Q9W S) ?_;rw[Xd (d:=Xhi 12 18) rfl];exact Xv2 (λa b S=>nets.fli QkS a b S) (λs S hs=>Xz9 hs QkS S) Qz6 (λs hs=>Xfu Q06) (Yfh hn hf) S
 x2 n d S hn hd h:=by rw[Xd (d:=Yr 4 3 6 5 38) rfl];calc Xms Xj3 Xbf (w:=2) Q1 QTH ?_ Q1 Q1;show FT T G QFK 6 QoE S=_;rw[Xd (d:=Xek 14 13 8) rfl];exact Xzt Q4B (by rw[<-h];calc nets.fhs QGK hd Q9W S)
 t3 n p S hn hp:=by rw[Xd (d:=Yr 4 3 6 5 38) rfl];exact Xio Xj3 Xbf (w:=3) Q1 (Ydn hn hp k S) QGg
 x3 n d S hn hd h:=by rw[Xd (d:=Yr 4 3 6 5 38) rfl];calc Xms Xj3 Xbf (w:=3) Q1 QTH ?_ Q1 Q1;show FT T G QFK 7 QoE S=_;rw[Xd (d:=Xbj 19 18 13 0 8) rfl];exact X7n Q4B (by rw[Xd nets.w];calc Xeu hd S) (nets.fhs QGK (by simp[pd,pds,hd,Vdt]) Q9W S) h
 tn w a b S hw B hb h:=by
  rw[Xd (d:=Yr 4 3 6 5 38) rfl];calc Xms Xj3 Xbf hw QTH ?_ Q1 Q1;match w,hw with
  |0,_=>show FT T G QFK 4 [a] S=_;rw[Xd (d:=Xcz 15 17 8) rfl];calc Xiz QEC|1,_=>show FT T G QFK 5 [a] S=_;rw[Xd (d:=Xfo 4) rfl];calc Xv6 ?_;rw[Xd (d:=Xcz 15 17 8) rfl];calc Xiz (nets.fcx k B h S)|2,_=>show FT T G QFK 6 Q2H S=_;rw[Xd (d:=Xek 14 13 8) rfl];calc Xzu QEC|3,_=>show FT T G QFK 7 Q2H S=_;rw[Xd (d:=Xbj 19 18 13 0 8) rfl];calc X7o QEC
def nt0:Nt 11 [[]]:=⟨by simp!,by decide,λs hs=>by rw[Vw.mp hs];calc⟨.nil,by decide,λx B=>by cases B⟩,Vbx _ _,by decide+kernel⟩
def nt3:Nt 11 Qlb:=⟨by simp!,by decide,λs hs=>by rw[Vw.mp hs];calc⟨Vbx _ _,by decide,λx B=>by rw[Vw.mp B];decide⟩,Vbx _ _,by decide+kernel⟩
def wd0:wdt [[]]=QFB:=by decide+kernel
def ct0:cts (fcs [[]]) 0=[1]:=by decide+kernel
def tl0:tly [1]=0:=by decide+kernel
def wo3:grt ((fcs Qlb).filter λg=>!decide ((3:Int)∈g))=[[]]:=by decide+kernel
def pt3:(3:Int)∈pts Qlb:=by decide+kernel
def turn{ns:LI}{k:Nat}(j:Nat)(x2:Option D)(S:Sto):∃e S',(∃B,e=[yz QA3,yz QF2,B])/\pe QFJ G QK1
  Q9R S=.ok Qs6 S':=by
 let⟨c,hc⟩:=X2n (F:=FT T G Qnf) (G:=G) ns j S;let⟨a,ha⟩:=X7c (F:=FT T G Qnf) (G:=G) c S;let h1:ev QFJ G (.call 21 (.cons (.call 20 QV6) .nil)) Q9R S=.ok Q7 QkB:=by
  calc(Xg (x:=.int c) (S1:=S) (Q13.trans ?_)).trans ?_;·rw[Xd (d:=Xde) rfl];exact hc
  ·rw[Xd (d:=t_law_pot) rfl];exact ha
 let hp:Pot QkB QD:=⟨a,Yy _ _⟩;let⟨v,S2,d2,hn,n,rfl,nt⟩:=drws.net (G:=G) (k+6) _ _ hp;let⟨L,d3,hr⟩:=Xv7 (G:=G) (Ydo k) nt d2.pot;let h2:ev QFJ G (.not (.call 40 (.cons Q9 (.cons (.call 27 Qi) .nil)))) [yz QA3,yz QF2,yz Q7] QkB=.ok QD9 L:=by calc Yv (x:=yx) ((X9 (a:=.var 2) rfl ((Xg (a:=.var 2) rfl).trans hn)).trans ?_);rw[Xd (d:=Xe6 39 29 24 26 22 28 25 33 32 37 36 34 31) rfl];exact hr
 calc⟨_,L,Qe,(Xm (i:=2) h1).trans ((Yu (v:=.bl yw) h2 rfl).trans QuD)⟩
def law_true(ns:LI)(hl:QyE<=63):∃S',FT T G 12 41 QYN []=.ok Q20 S':=by
 rw[Xd (d:=Xhj 7 4 5 40 27 21 20) rfl];let⟨m,hm,_⟩:=turns (F:=FT T G 11) (G:=G) (S:=[]) (ns:=ns) (env:=QDD) 10 Q1 Q1 rfl;let f1:=Xbh (F:=FT T G 11) (G:=G) (S:=[]) (S1:=[]) (env:=QDD) (it:=.rng Q23) (t:=.var 1)
  (ss:=(.cons (.ret (.and Q5I (.and QW9 Q4I))) .nil))
  (b:=QK1)
  QZI (λi e S'=>∃(B x2:Option D),e=Q0B)
 let⟨e1,S1,q1,B,x2,rfl⟩:=f1 hm ⟨yy,yy,rfl⟩ (λi d e S' hd L=>by let⟨B,x2,rfl⟩:=L;rw[Ud]at hd;let⟨j,_,rfl⟩:=Ug.mp hd;let⟨e',S2,⟨aa,rfl⟩,h⟩:=turn (ns:=ns) (k:=2) j x2 S';calc⟨_,_,S2,rfl,h,_,_,rfl⟩);let ta:FT T G 11 5 QJf S1=.ok QtG S1:=by let:=X4g nt0 (w:=0) wd0 4 S1;rw[ct0,tl0]at this;exact this
 let ca:FT T G 11 4 QJf S1=.ok (Xa [1]) S1:=by let:=Xwo nt0 (w:=0) wd0 5 S1;rw[ct0]at this;exact this
 let wa:FT T G 11 7 [Xb Qlb,.int 3] S1=.ok Q7M S1:=by let:=Ydn nt3 pt3 4 S1;rw[wo3]at this;exact this
 let b1:ev QjA G Q5I Q0B S1=.ok Q20 S1:=(Yn ((Xg (f:=5) (x:=Xb [[]]) rfl).trans ta) rfl).trans (Xdn (Xef 0 0 S1));let b2:ev QjA G QW9 Q0B S1=.ok Q20 S1:=(Yn ((Xg (f:=4) (x:=Xb [[]]) rfl).trans ca) (Xb3 (e:=.cst QH) (x:=.int 1) rfl)).trans (Xdn (Xp6 [1] [1] S1));let b3:ev QjA G Q4I Q0B S1=.ok Q20 S1:=(Yn ((X9 (f:=7) (x:=Xb Qlb) (y:=.int 3) rfl rfl).trans wa) (show ev QjA G QP Q0B S1=.ok Q7M S1 from rfl)).trans (Xdn (Ycm [[]] [[]] S1));calc⟨S1,?_⟩;show gcB yw [] (Xok (pe QjA G _ QDD []))=_;let body:=q1.trans (Xn (Xb4 b1 λ_=>Xb4 b2 λ_=>b3));rw[show pe QjA G (Xhj 7 4 5 40 27 21 20).body QDD []=_ from body];rfl
universe K02
universe e
section
namespace K02
open PySem PySem.Spec PyProof.Rows L2 Z
set_option maxHeartbeats 0 in
def all_mk {P:V3} {w:Ua} {K:Vh} {h:Heap} {mg:Str->OV} {fa:Addr} {t0 t1 t2:Tok} (X:K.In h) (B:h.Ns Up mg) (ak:mg "law"=yz QvH)
  (er:X10 K=yx) (bl:Yce K=yx) (g0:Va3 K Up "GREATEST_POINT"=yz (yz (.int 15 t0))) (g1:Va3 K Up "GREATEST_SIZE"=yz (yz (.int 6 t1))) (g2:Va3 K Up "MOST_SIDES"=yz (yz (.int 60 t2)))
  (f0:FunAt K "is_whole" (top 19)) (f1:FunAt K "is_whole_within" (top 20)) (f2:FunAt K "is_rising" (top 21)) (f3:FunAt K "is_net" (top 26)) (f4:FunAt K "counts" (top 27)) (f5:FunAt K "tally" (top 28)) (f6:FunAt K "ring" (top 29)) (f7:FunAt K "without" (top 30)) (f8:FunAt K "check_net" (top 31)) (f9:FunAt K "is_any_face" (top 32)) (ay:FunAt K "is_nested" (top 33)) (al:FunAt K "lies_in_another" (top 34)) (ar:FunAt K "lies_in" (top 35)) (a4:FunAt K "has_face" (top 36)) (ai:FunAt K "ring_of" (top 37)) (ao:FunAt K "all_faces" (top 38)) (ba:FunAt K "parts_of" (top 39)) (av:FunAt K "width_of" (top 40)) (ac:FunAt K "left_of" (top 41)) (ag:FunAt K "outermost" (top 42)) (a9:FunAt K "_law_cell_at" (top 44)) (aj:FunAt K "_law_pot" (top 45)) (ae:FunAt K "_law_take" (top 46)) (az:FunAt K "_law_whole" (top 47)) (au:FunAt K "_law_same" (top 48)) (ah:FunAt K "_law_lies" (top 49)) (am:FunAt K "_law_greatest" (top 50)) (a8:FunAt K "_law_net" (top 51)) (a6:FunAt K "_law_is_face" (top 52)) (a7:FunAt K "_law_is_net" (top 53)) (a0:FunAt K "_law_parts" (top 54)) (ap:FunAt K "_law_faces" (top 55)) (a3:FunAt K "_law_counts" (top 56)) (a2:FunAt K "_law_less" (top 57)) (an:FunAt K "_law_points" (top 58)) (ax:FunAt K "_law_odd" (top 59)) (a1:FunAt K "_law_bent_face" (top 60)) (aq:FunAt K "_law_bent_net" (top 61)) (a5:FunAt K "_law_kind_of" (top 62)) (af:FunAt K "_law_told" (top 63)) (aw:FunAt K "_law_right" (top 64)) (L:FunAt K "law" (top 65)):
  ∃fd:Vdh,(∀(s:Vc) (u:Vb),BindsTo s fd QSN [("_law_script",u)])/\∀base:Heap,K.In base->QXQ->FnOk P w K mg base QpH 12 fa fd ["_law_script"] (spD K QQS 1 (FT T G 12 41)):=by
 let aa:=X6f er;let ab:=X62 X B bl;let hg:∀(k:Nat) nm,gns[k]?=yz nm->∃u d,mg nm=yz u/\G[k]?=yz d/\∀ ρ H,∃v,RelV v u/\RD K ρ H d v:=λk nm e=>by
  match k,e with
  |0,e=>cases e;calc Xl9 X B g0|1,e=>cases e;calc Xl9 X B g1|2,e=>cases e;calc Xl9 X B g2|3,e=>cases e;calc Xkm X B f6|4,e=>cases e;calc Xkm X B f7|5,e=>cases e;calc Xkm X B f4|6,e=>cases e;exact Xkm X B f5|k+7,e=>cases e
 let hD:AllD K mg fns gns fns T:=AllD.c (dk X B f0 Xwg Yt) <| AllD.c (dk X B f1 Xir Ycd) <| AllD.c (dk X B f2 Xrw Yt) <| AllD.c (dk X B f3 X28 Yt) <| AllD.c (dk X B f4 X29 Yt) <| AllD.c (dk X B f5 X7v Yt) <| AllD.c (dk X B f6 Ydm Xb8) <| AllD.c (dk X B f7 Xz5 Xb8) <| AllD.c (dk X B f8 Xrx Yt) <| AllD.c (dk X B f9 Xnu Yt) <| AllD.c (dk X B ay Xry Yt) <| AllD.c (dk X B al Xis Xb8) <| AllD.c (dk X B ar Xz6 Xb8) <| AllD.c (dk X B a4 Xwh Xb8) <| AllD.c (dk X B ai Xz7 Xb8) <| AllD.c (dk X B ao Xrz Yt) <| AllD.c (dk X B ba Xwi Yt) <| AllD.c (dk X B av Xwj Yt) <| AllD.c (dk X B ac Xz8 Xb8) <| AllD.c (dk X B ag Xr0 Yt) <| AllD.c (dk X B a9 Xmw Xb8) <| AllD.c (dk X B aj Xwk Yt) <| AllD.c (dk X B ae Xr1 Xb8) <| AllD.c (dk X B az Xq5 Yt) <| AllD.c (dk X B au Xr2 Xb8) <| AllD.c (dk X B ah Xr3 Xb8) <| AllD.c (dk X B am Xk8 Yt) <| AllD.c (dk X B a8 Xwl Yt) <| AllD.c (dk X B a6 Xmx Yt) <| AllD.c (dk X B a7 Xnv Yt) <| AllD.c (dk X B a0 Xq6 Yt) <| AllD.c (dk X B ap Xq7 Yt) <| AllD.c (dk X B a3 Xnw Yt) <| AllD.c (dk X B a2 Xr4 Xb8) <| AllD.c (dk X B an Xnx Yt) <| AllD.c (dk X B ax Xwm Yt) <| AllD.c (dk X B a1 Xj2 Xb8) <| AllD.c (dk X B aq Xk9 Xb8) <| AllD.c (dk X B a5 Xmy Yt) <| AllD.c (dk X B af Xr5 Ycd) <| AllD.c (dk X B aw Xq8 Xb8) <| AllD.c (dk X B L Xwn Yt) <| True.intro;calc law_fn (k:=11) (d:=Xwf) (st:=top 65) (N:=X4f) X B ak aa ab hg hD.get rfl L (ms Xwn) (mm Xwn) rfl rfl Yt
abbrev kept:LM:=[top 1,top 2,top 3,top 4,top 5,top 6,top 7,top 8,top 9,top 10,top 11,top 12,top 13,top 14,top 15,top 16,top 17,top 19,top 20,top 21,top 23,top 24,top 25,top 26,top 27,top 28,top 29,top 30,top 31,top 32,top 33,top 34,top 35,top 36,top 37,top 38,top 39,top 40,top 41,top 42,top 44,top 45,top 46,top 47,top 48,top 49,top 50,top 51,top 52,top 53,top 54,top 55,top 56,top 57,top 58,top 59,top 60,top 61,top 62,top 63,top 64,top 65]
abbrev Q:V3:={ PySem.Challenge.pw_facecounts_k02_counts_tallies_and_rings with main:={ PySem.Challenge.pw_facecounts_k02_counts_tallies_and_rings.main with body:=kept} }
universe K02
end
end
open PySem PySem.W PyProof.Rows
noncomputable def PySem.W.Fast.tw4763229147688311487:PySem.Program:=PySem.Challenge.pw_facecounts_k02_counts_tallies_and_rings
theorem PySem.W.Fast.te4763229147688311487:PySem.Challenge.pw_facecounts_k02_counts_tallies_and_rings=PySem.W.Fast.tw4763229147688311487:=rfl
lay_quick Z.topT PySem.W.topStub
set_option maxRecDepth 100000 in
set_option maxHeartbeats 0 in
theorem K02.st_ok:Z.RunT PySem.Challenge.pw_facecounts_k02_counts_tallies_and_rings (λw s=>staticsOk (Vfc PySem.Challenge.pw_facecounts_k02_counts_tallies_and_rings.main.body) (boot_heap w.params) s.abs.heap&&namesBound PySem.Challenge.pw_facecounts_k02_counts_tallies_and_rings s.abs.heap&&gensDone s.abs&&laidKept (boot_heap w.params) s.abs.heap) λ_=>true:=by intro w os;rw[Fast.te15842407815417585275,Fast.te2530740449226627131,Fast.te14364793385576792824];kernel_rfl
set_option maxRecDepth 100000 in
set_option maxHeartbeats 0 in
theorem K02.seen_ok:Z.RunT PySem.Challenge.pw_facecounts_k02_counts_tallies_and_rings (λ_ s=>openSeen K02.Q [] (Vfc PySem.Challenge.pw_facecounts_k02_counts_tallies_and_rings.main.body) (λs=>xlAt K02.Q [] s&&recOk [] s) yx s.abs) λ_=>openGood K02.Q []:=by intro w os;unfold K02.Q K02.kept K02.top;rw[Fast.te4187177175401517315,Fast.te15842407815417585275,Fast.te2530740449226627131,Fast.te14364793385576792824];kernel_rfl
local macro_rules | `(tactic| o_head $H)=>`(tactic|
 refine holds_open (q:=K02.Q) (loose:=[]) (Xt:=λs=>xlAt K02.Q [] s&&recOk [] s)
  (XP:=XL K02.Q []) (Yf:=Hook.obs $H) (Ya:=Hook.val $H)
  (YP:=Hook.says $H) (N:=40000) ?hl (Hook.of $H) (Hook.keeps $H)
  (λs e=>xl_of s (Bool.and_eq_true_iff.mp e).1) XL.keeps
  (by rfl) (by rfl) (by rfl)
  (λs e=>recFacts_of (Bool.and_eq_true_iff.mp e).2)
  (by rfl) (by first|assumption|decide+kernel) (by decide+kernel)
  ⟨rfl,rfl,rfl,rfl,rfl,by decide+kernel⟩ ?hw ?hc)
set_option maxRecDepth 100000 in
set_option maxHeartbeats 0 in
theorem PySem.Challenge.cw_facecounts_k02_counts_tallies_and_rings_holds : PySem.Challenge.rw_facecounts_k02_counts_tallies_and_rings.Holds := by
 w_on;o_law;x_head
 (case hl =>
  refine Z.left_tree3 (p:=PySem.Challenge.pw_facecounts_k02_counts_tallies_and_rings) (by kernel_rfl) (λs=>by kernel_rfl) K02.st_ok K02.seen_ok ?_
  intro w os;dsimp only[kHook];rw[Fast.te15842407815417585275,Fast.te2530740449226627131,Fast.te14364793385576792824]
  kernel_rfl)
 (case hw=>w_witness2)
 k_fill
 refine Z.walk_z (l:=PySem.Challenge.rw_facecounts_k02_counts_tallies_and_rings) (T:=K02.T) (G:=K02.G) (k:=12) (f:=41) (x:="_law_script") rfl rfl ⟨rfl,rfl,by decide,by decide⟩ (λw h Y=>kIn_of Y) (λw=>by kernel_rfl) ?F K02.law_true
 case F =>
  as_aux_lemma =>
   intro w mg fa h KX G hmg;refine' K02.all_mk KX G hmg ?er ?bl ?g0 ?g1 ?g2 ..
   (case g0=>k_is)
   (case g1=>k_is)
   (case g2=>k_is)
   (case er=>kernel_rfl)
   (case bl=>kernel_rfl)
   all_goals (refine' Z.funAt_mk ?a ?l ?c ?k;(case a=>k_is);(case l=>k_is);(case c=>k_is);(case k=>k_is))
end
