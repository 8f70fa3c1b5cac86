import PyProof.Rows.All
import Wide.All
import OpenK.AllK
import Wide.FinOn
import Lean
import PyProof.EqAt
import PyProof.EqKinds
import PyProof.TupleCall
import PySem.Challenge.RW_facecounts_k41_crowds_looked_at
set_option Elab.async false
set_option linter.all false
set_option maxRecDepth 100000
set_option exponentiation.threshold 3000
set_option genSizeOf false
set_option bootstrap.genMatcherCode false
set_option compiler.extract_closed false
set_option genSizeOfSpec false
universe u
open List renaming length→lg
open Option renaming some→yz,none→yy
open Bool renaming true→yx,false→yw
open PySem renaming wpAny_bind→Va,Value→Vb,Shared→Vc,wpAny_pure→Vd,wpAny→Vf,model→Vi,wpAny_mono→Vp,Program→Vz,sizeLine→V6,World→V7,wpAny_holding→Ul,Around→Uq,starEach→Us,mainGlobals→Uw,wpAny_call_entry→Uy,SetTable→Uz,Scope→U2,rawInt→Vaa,wpAny_newObj_type→Vad,cLine→Val,intKind→Vap,sizeLine_eq→Vav,wpAny_callSpecial?_slot→Vaw,wpAny_field→Vax,wpAny_setState_of→Va4,compareOp→Va5,wpAny_setField_rec→Vbb,Builtin→Vbf,wpAny_Call_Name_kw→Vbj,codeAny_builtin→Vbl,sysModules→Vbn,Env→Vbs,wpAny_rule→Vb0,Comprehension→Vb1,importedModules→Vb4,cellsFrom→Vb5,assignEach→Vb8,PyData→Vcb,wpAny_truthy_bool→Vcd,foldedSetIterable→Vce,wpAny_seqItems→Vcq,binaryOp→Vcu,codeAny→Vc1,mem_of_lookup→Vc2,wpAny_typeOf→Vc4,wpAny_attempt→Vc8,swapsWithSole→Vc9,swappedStores→Vda,backTo→Vdd,wpAny_is_plain→Vde,behindInMarks→Vdp,pyNext→Vds,FuncData→Vdv,sliceBounds→Vd0,holding→Vd4,wpAny_standAt→Veb,wpAny_newList→Ved,bootBuiltins→Ven,pyIter→Veo,codeAny_mono→Ver,wpAny_askSetting→Veu,letOwnedTupleGo→Ve6,call_meets→Ve8,Arguments→Vfa,wpAny_loadPart'→Vfb,NameKind→Vfg,unsupported→Vfj,wpAny_pyIter_list→Vfo,IsPart→Vfr,builtinLookup_eq_fast→Vfu,firstArgMember→Vfv,tupleKind→Vfy,wpAny_isInstance→Vf2,plainId_quiet→Vf9,getItem→Vgc,wpAny_Assign_stores→Vgf,bindArgs→Vgm,swapsWith→Vgr,wpAny_pyIter_tuple→Vgs,builtinsNs→Vgv,wpAny_load→Vgw,wpAny_runValue→Vg2,wpAny_pyIter_slot→Vhb,wpAny_storeSet_of→Vhc,ofAClassStatement→Vhe,wpAny_of_eq→Vhi,wpAny_forIn_list→Vhq,typeLookup_type→Vh2,wpAny_execs_nil→Vh4,wpAny_updateSeq_pair→Vh5,codeAny_call_builtin→Via,recursionLimit→Vim,wpAny_setField→Vip,wpAny_newTuple→Viq,tupleKind_room_in1→Vi3,wpAny_newFunctionEnv_cells→Vi8,wpAny_assign_Name→Vja,wpAny_sequenceKey→Vjc,wpAny_dictEntries→Vjh,wpAny_binaryOp_repeat_ref→Vjj,wpAny_comprehension_free→Vjt,wpAny_getItem_list_slice→Vjx
open PySem.Heap renaming get?_push_of_some→Ve,get?_push_size→Vo,lt_size→Vu,size_push→Va2,SameBut→Vba,get?_update_self→Vdb,get?_update_ne→Vdu,size_update→Vex,get?_update_other→Vfi
open List renaming length_map→Vg,getElem?_eq_some_iff→Vk,replicate→Vm,size_toArray→Vn,mem_cons→Vv,length_append→Vw,getElem?_append_left→Vx,mem_map→V0,mem_cons_of_mem→V1,mem_singleton→V3,mem_cons_self→V4,map_cons→Ub,mem_of_getElem?→Uc,range→Ud,append_assoc→Ug,take_append_drop→Uo,getElem?_map→Ur,mem_append→Ut,getElem?_eq_none_iff→Uv,getElem?_append_right→U3,mem_append_right→U4,length_cons→U5,all_eq_true→U6,map_map→U8,filterMap_cons→U9,getElem?_eq_getElem→Vac,replicate_succ→Vae,pairwise_cons→Vag,getElem?_eq_none→Vak,getElem?_set_self→Vam,pairwise_append→Vao,length_take→Vaq,lookup_cons→Var,length_range→Vat,map_append→Vau,reverse→Va0,forall_mem_cons→Va1,not_mem_nil→Va6,isEmpty_iff→Va7,take_of_length_le→Va9,getD_eq_getElem?_getD→Vbd,all_cons→Vbe,mem_append_left→Vbg,getElem?_set_ne→Vbh,length_drop→Vbu,flatten_cons→Vby,mem_range→Vb2,length_set→Vb3,mem_iff_getElem→Vb9,foldl_cons→Vcg,extract_eq_drop_take→Vcj,mem_reverse→Vco,append_nil→Vcy,drop_drop→Vdf,forIn_cons→Vdi,nodup_append→Vdm,getElem?_replicate→Vdq,toList_toArray→Vdt,getElem_mem→Vdx,mem_filterMap→Vd3,mem_of_mem_drop→Vei,findIdx?_eq_some_iff_getElem→Vek,take_succ_eq_append_getElem→Vev,take_length→Vey,getElem?_range→Ve0,pairwise_singleton→Ve3,nodup_cons→Ve7,nil_append→Ve9,length_nil→Vfd,drop_eq_nil_of_le→Vfk,eq_nil_of_length_eq_zero→Vfl,ext_getElem?→Vfn,foldl_append→Vfp,length_replicate→Vfq,map_nil→Vfs,drop_zero→Vft,mem_iff_getElem?→Vfx,cons_append→Vf0,map→Vf1,reverse_append→Vge,mem_map_of_mem→Vgg,pairwise_iff_getElem→Vgi,foldl→Vgx,forIn_nil→Vg0,nodup_nil→Vg1,length→Vhf,any_eq_true→Vhr,getElem?_toArray→Vhv,singleton_append→Vhx,pairwise_reverse→Vhy,set_append_right→Vhz,mem_filter→Vh0,of_mem_zip→Vh1,mem_of_mem_take→Vic,set_set→Vie,all_map→Vif,filter_eq_self→Vij,map_eq_nil_iff→Vik,flatMap_append→Vil,eraseIdx_length_sub_one→Vir,take_take→Viv,drop_take→Viw,dropLast_concat_getLast→Vix,filterMap_map→Viy,zip_cons_cons→Vi0,forIn_toArray→Vi2,reverse_perm→Vjf,drop_eq_getElem_cons→Vjm,mem_or_eq_of_mem_set→Vjp,getElem?_take_of_lt→Vjq
open PySem.W renaming Frag→Vh,nsIn→Van,hideAll_none→Vb7,hideAll→Vcx,fnOf→Vc5,keepIn→Vdw,mg_of→Vd9,findIn→Vel,hideAll_get→Vez,cellsFrom_some→Vfh,of_hideAll→Vgl,codeIn→Vgy,kitOne→Vg6,methodObj→Vi9
open Nat renaming le_refl→Vj,ne_of_lt→Uf,le_trans→Uh,lt_of_lt_of_le→Uj,zero_le→Ux,not_lt_zero→Vas,lt_succ_of_lt→Va3,lt_of_le_of_lt→Vbk,ne_of_gt→Vca,lt_succ_self→Vcm,add_sub_cancel_left→Vct,min_eq_left→Vcz,le_of_lt→Vc3,le_succ→Vc6,lt_of_succ_lt→Vdo,exists_eq_add_of_le→Vdr,lt_irrefl→Vd7,lt_trans→Ves,zero_add→Vet,mul_le_mul_right→Vf5,lt_of_add_lt_add_left→Vgk,succ_mul→Vgo,add_right_comm→Vgp,mod_lt→Vgz,add_assoc→Vhm,le_add_right→Vht,add_le_add_right→Vig,lt_trichotomy→Vjd,add_lt_add_iff_right→Vjs
open PyProof.Rows renaming Keyed→Vl,arrOf→Vr,wpS_bind→Vs,wpS_pure→V2,seqObj→V5,SortSt→V8,pendingOf→Uu,kindOf→Vaz,callWith_builtin1→Vbc,wpS_forRange→Vbm,callWith_type1→Vbo,slot_tuple_getitem→Vbp,IntsAre→Vbv,IsTup→Vbx,spliced_none→Vck,failedOf→Vcw,spliced_more→Vdg,wpS_mono→Vdk,SortKind→Vdy,elem'→Vd2,listUpdate_at→Vec,listItems_at→Vew,assignInOrder_cons→Ve5,get?_update_seq→Vfe,subscriptTail→Vf7,entry_list_sort→Vgj,size_push'→Vg3,slot_list_sort→Vg4,wpS_modify→Vg5,reverseSlice'→Vhn,plain_sorted→Vh8,entry_sorted→Vh9,entry_tuple_getitem→Vii,args_list_sort→Vit,args_tuple_getitem→Viz,assignInOrder_nil→Vjb
open Bool renaming false_eq_true→Vq,false_ne_true→Ue,and_self→Vbq,true_and→Vbr,not_eq_true'→Vbz,false_and→Vcc,or_eq_true→Vch,not_true→Vc7,eq_iff_iff→Vd6,and_false→Vem,false_or→Vhp,eq_false_iff→Vjg
open Option.some renaming injEq→Vt,inj→Um
open Array renaming length_toList→Vy,getElem?_toList→Ua,getElem?_eq_getElem→Uk,getElem?_eq_some_iff→Vab,toList_append→Vah,getD→Va8,toList_extract→Vcp,toList_push→Vcv,perm_iff_toList_perm→Vee,toList_reverse→Vej,getD_eq_getD_getElem?→Vfz,getElem_toList→Vf4,toList_setIfInBounds→Vf8,toList_filterMap→Vhh,size_setIfInBounds→Vjr
open PySem.Obj renaming mapSeq→V9,putSet→Vd1
open PySem.Value renaming ref→Ui,none→Vay,type→Vcf,bool→Ve4,isInt_shape→Vg9,builtin→Vho,int→Vhu
open Option renaming map_eq_some_iff→Up,bind_some→U0,map_some→U7,bind_eq_some_iff→Vaj,isSome_iff_exists→Vep,getD_some→Vf3,isNone_iff_eq_none→Vjo
open PySem.Builtin.SmallTypes renaming nextOf→U1,ownedTupleIsFree→Vcr,ownedTupleHandOut→Vgu
open Int renaming toNat_natCast→Vaf,toNat→Vgt
open PySem.Str renaming ofString→Vai,length_append→Vje
open PySem.Calls renaming spliced_cons→Vbi,spliced_nil→Vdn,call_function_entry→Veh,evalArgs_plain→Vh7,Name_function_global→Vi6
open PySem.Around renaming under_plainId→Vbt
open PySem.Heap.SameBut renaming update→Vbw,refl→Vha
open PySem.Builtin.List renaming listExtendWith→Vb6,listTooLong→Veq,listLengthHint→Vi5,listSameRef→Vjw
open PySem.PyData renaming showable→Vci,showableAll→Vcn,depthAll→Vc0,eqv→Vdh,shownAll→Vdj,depth→Vdl,canLayAll0→Vfm,shown→Vfw,eqvAll→Vgb
open PySem.Builtin.Tuple renaming tupleExact→Vcl,tupleItemsOf→Vf6,tupleTooMany→Vi7
open PyProof.Rows.F renaming plain_set_update_loop→Vcs,entry_set_update_loop→Ve2
open List.Perm renaming refl→Vdc,append_left→Vhw,swap→Vin
open PySem.F renaming slot_dict_keyiterator_next→Vdz,slot_tuple_iterator_next→Vea,args_tuple_add_2→Vgn,entry_tuple_add→Vg7,slot_list_index→Vg8,plain_list_iadd→Vhd,slot_tuple_add→Vhg,slot_tuple_lt→Vh3,slot_zip_next→Vh6,args_dict_keyiterator_next_1→Vid,entry_dict_keyiterator_next→Vih,args_tuple_iterator_next_1→Vio,entry_tuple_iterator_next→Vi1,args_list_index_2→Vjk,entry_list_index→Vju
open ForInStep renaming yield→Vd5
open PySem.Builtin.Slice renaming sliceApplied→Vd8,slicePlaces→Veg,sliceAdjust→Vgh,sliceFields→Vji
open List.Pairwise renaming nil→Vef
open PySem.Builtin.Range renaming rangeSize→Ve1
open False renaming elim→Vfc
open PySem.Heap.IsSliceOf renaming new→Vff
open Prod.mk renaming injEq→Vga
open PySem.Builtin.Int renaming intBits→Vgd
open PySem.AutoSeq1 renaming sub_tuple_tuple→Vgq
open PySem.Paired renaming length→Vhj
open PySem.SetTable renaming fits→Vhk,tooFull→Vhs,below→Viu
open PySem.NameKind renaming free→Vhl
open PyProof.Rows.SortSt renaming mk'→Vib
open PySem.Code renaming quiet_builtin→Vi4
open PySem.Manifest renaming sig_set_iterator→Vjl
open Classical renaming byContradiction→Vjn
open PySem.Builtin.Frozenset renaming sizeOf→Vjv
abbrev LV:=List PySem.Value
abbrev LS:=List PySem.Str
abbrev LX:=List PySem.Expr
abbrev LM:=List PySem.Stmt
abbrev LF:=List (PySem.Str×Nat×Bool)
abbrev LN:=List Nat
abbrev AV:=Array PySem.Value
abbrev OV:=Option PySem.Value
abbrev LL:=List (List Int)
abbrev LI:=List Int
abbrev LA:=List (PySem.Addr×PySem.Obj)
abbrev LR:=List PySem.Addr
abbrev VP:=PySem.Value->PySem.Shared->Prop
@[elab_as_elim] theorem rwl{α:Sort u}{a b:α}{P:α->Prop}(h:a=b)(k:P b):P a:=by subst h;exact k
@[elab_as_elim] theorem rwr{α:Sort u}{a b:α}{P:α->Prop}(h:a=b)(k:P a):P b:=by subst h;exact k
set_option hygiene false
section
local macro_rules|`(tactic|omega)=>`(tactic|first|lia|omega+splitNatSub)
local macro_rules|`(tactic|rw[$r,*])=>do
 let t<-r.getElems.mapM fun r=>match r with
  |`(Lean.Parser.Tactic.rwRule|$e:term)=>if (e.raw.find? (·.isOfKind ``Lean.Parser.Term.syntheticHole)).isSome then `(tactic|rewrite[$e:term]) else `(tactic|first|refine rwl ($e ..) ?_|rewrite[$e:term])
  |`(Lean.Parser.Tactic.rwRule|← $e:term)=>`(tactic|first|refine rwr ($e ..) ?_|rewrite[← $e:term])
  |_=>Lean.Macro.throwUnsupported
 `(tactic|($[$t]*;with_reducible try rfl))
open Lean in
local macro_rules|`(mutual $c* end)=>do
 let k:=c[0]!.raw
 unless k.isOfKind ``Parser.Command.check do Macro.throwUnsupported
 let n:=Syntax.node .none
 let o:=n `null #[]
 let y(x:Syntax):=n ``Parser.Tactic.rcasesPatMed #[n `null #[x]]
 let g(s:Syntax):=match s with
  |.ident ..=>y (n ``Parser.Tactic.rcasesPat.one #[s])
  |.node _ k a=>if k== ``Parser.Term.hole then y (n ``Parser.Tactic.rcasesPat.ignore a) else if k== ``Parser.Term.anonymousCtor then y (n ``Parser.Tactic.rcasesPat.tuple #[s[0],n `null (s[1].getArgs.map fun x=>if x.isAtom then x else n ``Parser.Tactic.rcasesPatLo #[x,o]),s[2]]) else s
  |_=>s
 let w(s:Syntax)(k:Name)(a:Array Syntax):Syntax:=
  if k== ``Parser.Tactic.simp||k== ``Parser.Tactic.dsimp then (if s[3].getArgs.isEmpty then n k (a.set! 3 (n `null #[.atom .none "only"])) else s)
  else if k== ``Parser.Tactic.simpAutoUnfold then n ``Parser.Tactic.simp (a.set! 0 (.atom .none "simp"))
  else if k== ``Parser.Tactic.dsimpAutoUnfold then n ``Parser.Tactic.dsimp (a.set! 0 (.atom .none "dsimp"))
  else if k== ``Parser.Tactic.tacticLet__ then (let l:=s[2][0];if l[0].isOfKind ``Parser.Term.anonymousCtor&&l[2].getArgs.isEmpty then n ``Parser.Tactic.obtain #[.atom .none "obtain",n `null #[l[0].rewriteBottomUp g],o,n `null #[l[3],n `null #[l[4]]]] else n ``Parser.Tactic.tacticHave__ (a.set! 0 (.atom .none "have")))
  else if k== ``Parser.Tactic.lia then n ``Parser.Tactic.omega #[.atom .none "omega",n ``Parser.Tactic.optConfig #[n `null #[n ``Parser.Tactic.configItem #[n ``Parser.Tactic.posConfigItem #[.atom .none "+",mkIdent `splitNatSub]]]]]
  else if k== ``Parser.Term.let then n ``Parser.Term.have (a.set! 0 (.atom .none "have"))
  else if k== ``Parser.Tactic.exact||k== ``calcTactic then (let e:=if k== ``calcTactic then s[1][0][0] else s[1];if (e.find? (·.isOfKind ``Parser.Term.syntheticHole)).isSome then n ``Parser.Tactic.refine #[.atom .none "refine",e] else n ``Parser.Tactic.exact #[.atom .none "exact",e])
  else if k== ``Parser.Command.declaration then (let m:=s[0];let d:=s[1];let q:=d.getKind
   let v(x y:Syntax):=n k #[x,y]
   if !m[2].getArgs.isEmpty then v (m.setArg 2 o) d
   else if q== ``Parser.Command.definition then v m (n ``Parser.Command.theorem #[.atom .none "theorem",d[1],n ``Parser.Command.declSig #[d[2][0],d[2][1][0]],d[3]])
   else if q== ``Parser.Command.abbrev then v (m.setArg 4 (n `null #[n ``Parser.Command.noncomputable #[.atom .none "noncomputable"]])) (n ``Parser.Command.definition #[.atom .none "def",d[1],d[2],d[3],o])
   else if q== ``Parser.Command.theorem then v m (n ``Parser.Command.definition #[.atom .none "def",d[1],n ``Parser.Command.optDeclSig #[d[2][0],n `null #[d[2][1]]],d[3],o]) else s)
  else s
 let f(t:Array Syntax)(s:Syntax):Syntax:=s.rewriteBottomUp fun s=>match s with
  |.ident _ w n p=>let s:=.ident .none w n p;match n.components with
   |.str .anonymous x::r=>
    let (a,b):=match x.toList with|'Q'::a::b=>(a,(b.headD '/').toNat)|['U',a,b]=>(a,b.toNat+74)|_=>(' ',0)
    if a<'0'||a>'z' then s else match t[a.toNat-48+b*75-3525]?,r with
     |.some e,[]=>e
     |.some e,[y]=>.node .none ``Parser.Term.proj #[e,.atom .none ".",mkIdent y]
     |_,_=>s
   |_=>s
  |.atom _ v=>.atom .none v
  |.node _ k a=>if k==`null then n k (a.foldl (fun r x=>if x.isOfKind ``Parser.Term.implicitBinder&&x[1][0].isOfKind ``Parser.Term.forall then r++x[1][0][1].getArgs else if x.isOfKind ``Parser.Term.app&&x[0].isOfKind `num then r++x[1].getArgs else r.push x) #[]) else if k== ``Parser.Term.app&&a[0]!.isOfKind k then n k #[a[0]![0],n `null (a[0]![1].getArgs++a[1]!.getArgs)] else w s k a
  |_=>s
 let t:=k[1][1].getSepArgs.foldl (fun t e=>t.push (f t e)) #[]
 pure (mkNullNode ((c.raw.drop 1).map fun s=>if s.isOfKind ``Parser.Command.universe then .node .none ``Parser.Command.end #[.atom .none "end",mkNullNode (if s[1][0].getId==`e then #[] else #[s[1][0],mkNullNode])] else f t s))
mutual
#check[by omega,Vi X.prog X.w,by decide,Vi prog w,.cst (.int 1),.ref (lg S),.var 0,((((s.heap.push (V5 "list" #[] 0)).update s.heap.objs.size (V9 (·++its.toArray))).push (V5 "list" its.toArray 0)).update (s.heap.objs.size+1) (V9 λ_=>(#[]:AV))),by decide+kernel,(by simp!),0,0,0,0,0,0,0,.var 1,.ref s.heap.objs.size,((s.heap.push (V5 "list" #[] 0)).update s.heap.objs.size (V9 (·++its.toArray))),.var 2,s.heap.push (V5 "list" #[] 0),lg S,.int 1,.cons (.ret (.cst (.bl yw))) .nil,(λx y S h=>by cases x<;>first|calc aB0 rfl h|(cases y<;>first|calc⟨_,_,rfl,rfl⟩|calc aB0 rfl h)),Vr st,V5 "list" #[] 0,{cls:=.type "set_iterator",data:=.fields #[Vaa 0,Vaa 0,.ref a,Vaa es.size,Vaa ep]},Xu prog w,{cls:=.type "range",data:=.fields #[.int lo t,.int hi u,.int 1 v]},{s with heap:=h',toks:=tk},(by simpa using q),.var 3,lg xs,.cst (.int 0),(·.1),{s with heap:=h' },n.map Xb,ns.map D.int,any_some h,.frz (.lst (.cons (.cst (.str "net")) (.cons (.cst (.str "face")) (.cons (.cst (.str "point")) (.cons (.cst (.str "apart")) (.cons (.cst (.str "many")) (.cons (.cst (.str "text")) (.cons (.cst (.str "row")) (.cons (.cst (.str "number")) (.cons (.cst (.str "level")) (.cons (.cst (.str "crowd")) (.cons (.cst (.str "way")) (.cons (.cst (.str "closed")) .nil))))))))))))),s.heap.objs.size+1,0,0,0,0,0,0,Vj _,{cls:=.type "list",data:=.seq ([]:LV).toArray},(qs.map (·.2)),⟨_,rfl⟩,.ref a,.cons Q6 .nil,.asg QQ (.bin .mod (.bin .mul (.bin .add (.bin .add (.bin .mod Q6 (.cst (.int 2147483629))) (.bin .mul (.cst (.int 7919)) QD)) Q4) (.cst (.int 48271))) (.cst (.int 2147483647))),Xy I.sr I.inv,.cons QA .nil,{cls:=.type "list",data:=.seq its.toArray n},x==("__debug__" : Str),k+(d+1),(by rw[q];calc λz=>nomatch z),.asg QQ (.bin .mod (.bin .add (.bin .add (.bin .mul QQ QQ) (.bin .mul (.cst (.int 69621)) QD)) (.cst (.int 7))) (.cst (.int 2147483587))),fa env S,blk X pc s H sc cl C own fp,.frz (.lst (.cons (.cst (.str "swap")) (.cons (.cst (.str "places")) (.cons (.cst (.str "deed")) (.cons (.cst (.str "line")) .nil))))),(s.heap.update a (V9 λ_=>(#[]:AV))).push (V5 "tuple" Qc.toArray 0),I.inv.tok _,λ_ _=>False,s.heap.objs.size+3,f env S,env++Vm n yy,["enumerate","zip","dict_itemiterator","dict_reverseitemiterator","odict_iterator","itertools.zip_longest","itertools.pairwise"],.cons (.frz (.blt .sorted (.cons (.bin .add QA (.tup (.cons (.bin .mul (.tup (.cons QS .nil)) (.var 11)) .nil))) .nil))) .nil,.cons QD .nil,{cls:=.type "list",data:=.seq vs.toArray},.inl rfl,.ref it,{s3 with heap:=s3.heap.push {cls:=.type "slice",data:=.fields #[vl,vu,.none]} },{cls:=.type "dict",data:=.dict #[]},λw s3 ⟨S3,e3,H3,ρ3,J3,sr3,st3⟩=>⟨S3,e3,H3,ρ3,J3,sr3,aa.trans st3⟩,Vc5 nm nm (Xb4 st) (Yv st) (X0 st) .none kV aa pm an L ct,Vd ?_,B++[.lst (z.map Xb),.dct (kvs++[(b,.bl yx)])],{L with heap:=L.heap.push {cls:=.type "slice",data:=.fields #[vl,.none,vs]} },0,0,0,0,0,0,0,.var i,s.heap.push (nS w),Xa0 o1 o2 fa fb fc env S,.builtin "object.__class__",.ite (.ist yx (.bin .add (.sli QD .none (.some QQ)) (.sli QD (.some (.bin .add QQ Q4)) .none)) QA) QH .nil,∀c o,c≠z->c≠O->c≠i->c≠j->s.heap.get? c=yz o->h'.get? c=yz o,QM.hash k,s.heap.update a (V9 λ_=>(#[]:AV)),opC (if ng then .notin else .isin),.tup xs,⟨rfl,I.turned (t':=s.toks) (λb o L e=>eb b o L e) f0 f1 f3 f4 f5⟩,.blt .len Qf,λenv S=>Qo.bind λx S=>match (kdD S x).bind λk=>Xau k [t] with|some r=>.ok (.bl r) S|none=>.bad,(items.toList.drop (sIx items.size 0 lo)).take (sIx items.size items.size hi-sIx items.size 0 lo),sliceAdjust lo yy c (lg its),sIx items.size items.size hi-sIx items.size 0 lo,{s with toks:=s.toks+(lg k+1)},Yh (a:=.var 0) rfl,r.toList.zipIdx.foldl (λa x=>a.setIfInBounds (p+k+x.2) x.1) QJ,ev F G e env S,Vdd pos (Us es X.env),⟨rfl,rfl⟩,λenv S=>tst (fc env S),(Vr st).toList.drop (p+Ql),(by simpa using hi),Vap prog w,0,0,0,0,0,0,.cons (.tup [2,3]) (.zpp (.cons Q6 (.cons (.sli Q6 (.some Q4) .none) .nil))) .nil .nil,λe p=>e.set p.1 (yz p.2),LI×Addr,Int×Vb,B++[.lst (z.map Xb),.dct kvs],⟨n,S1,rfl,z⟩,S++[.lst xs],λz=>?_,Option Nat,λr s'=>r=.ok (.ret (.bool yx))/\OldK L.heap s'.heap/\s'.os=L.os/\AllBare s'.gens,k.map D.int,.builtin "sorted",.bl yx,((qs.map (·.2.1)).toArray.zip (qs.map (·.2.2)).toArray),(by simpa using q2),[D.tup (QV.take a++QV.drop (a+1)),.tup (QV.take (a+1)++QV.drop a),.tup xs,.fro QV],.var 6,[.lst xs],.cons e .nil,ev a env S,envOfC qual scope s.heap.objs.size f cd,⟨t,rfl⟩,⟨h1,h2⟩,.lst xs,V5 "list" vs.toArray 0,.frz o u,[.str "net",.str "face",.str "point",.str "apart",.str "many",.str "text",.str "row",.str "number",.str "level",.str "crowd",.str "way",.str "closed"],sB X.w,.ref p,y::ys,.cons (.var 4) .nil,{s with heap:=h',toks:=t' },cwE p far B.length x3 x5 (yz (Xb b)),.var 4,.ref n,.int i,0,0,0,0,0,0,0,(QE.update s.heap.objs.size (V9 (·++Qc.toArray))),[yz (.int far),x1,yz (.int L),x3,x4,x5,yz (Xb one),yz (.int (lsz L one))],upd H2 s2.heap.objs.size (uA s2.heap.objs.size),(by simp[RD]),.cons (.tup .nil) (.cons (.tup (.cons (.tup .nil) .nil)) (.cons (.cst .non) (.cons QS (.cons (.cst (.str "")) (.cons (.frz .dct0) .nil))))),yz (Xb b),(chs 6 1 3).map Xb,yz (.builtin "BaseException.__getattribute__"),⟨ok.mod,ok.kind,ok.glob,ok.blt,ok.above,ok.inj,ok.has,ok.cab,ok.hd,ok.frames,ok.stk,ok.exf,ok.bs,ok.bsz,ok.noex,ok.exfs,ok.funs,ok.frf⟩,(s.heap.objs.size+1,V5 "list" #[] e1),(·.2),.int far,Q7.push (V5 "tuple" its.toArray 0),.not (.isi Q6 [.tuple]),.cons Q4 .nil,(Yi ((chs 6 1 3).map Va0)).map Va0,(λz=>L (by simp![z])),{cls:=.type "range",data:=.fields #[.int lo t,.int hi u,.int (-1) v]},wpS_lift (Vb0 ⟨rfl,?_⟩),(λz=>nomatch z),.int (size+1:Nat),.ext (ExcO C a),.cons (.tup .nil) .nil,.bin .pow (.cst (.int 10)) (.cst (.int 18)),⟨_,Vo _ rfl,rfl,rfl⟩,.asg QA (.bin .add (.bin .mul QA (.cst (.int 2147483587))) QQ),0,0,0,0,0,0,ns.map V.int,∀b o,s.heap.get? b=yz o->h'.get? b=yz o,snd a X sc N x hN hs L h2,chs 6 1 3,Xa1 rfl,Vb5 (L.objs.size+1) sc.names cl,LI×Addr×V,I7.inv.pin (b,o) (U4 _ (U4 _ (Xdw hb e))),⟨h1,h2,h3⟩,pc++Xbw fp s5.heap,{s with heap:=QE.update s.heap.objs.size (V9 (·++vs.toArray))},(by simp[q];calc Xcu t),LeK R,.ref C,⟨Xm7 w.params,11,Xm8,Array.mk [],boot_drawn,boot_toks,os⟩,∀x c,X.env.cells.lookup x=yz c->c≠b,i+1,Uj (Vu e) I.ok.above,.nx env,.lst vs,.frz (.cmr yw 2 (.cons (.var 9) (.rng (.cons (.var 7) Qf)) .nil .nil) (.bin .add Qq0 (.tup (.cons (.var 9) .nil)))),Yq Q0 ?_,⟨tg,iter,ifs,0⟩,(yw,eval a X.env),kat xs (q+i),.var 5,.int j,.cons (.bin .add QQ (.bin .mul (.bin .sub QA Q4) QD)) Qi,.builtin id,[x0,yz (rwF fst16),yz (.int m),x3,yz (Xm (Xdt m)),x5,x6,L],t.put j,by assumption,Vd ⟨_,rfl,Vd h⟩,.cons Q6 (.cons (.cst (.int 3)) .nil),⟨q0,.tuple ps,λL=>by simp[Ym,q1,U7],by simp[Vci,q2],by simp[Xcp,q3],by simp[Vdl];omega,by simp[szD];omega⟩,[.int i,.int j],0,0,0,0,0,0,0,(cnt (ks.take i) k.length:Nat),Y8 I.inv ae (hb _ Q2) (u:=.builtin "isinstance") Q8 ?_,(V9 (·++vs.toArray)),λ_=>rfl,Xm n,.builtin "getset_descriptor.__get__",.as2 (.tup (.cons (.idx QA (.var 9)) (.cons (.idx QA (.var 8)) .nil))) (.var 7) (.var 8) (.var 7) (.var 9),[.Tuple [.Subscript o i spos,.Subscript o2 i2 af] kt pt],z.2.1::z.2.2.1,lg vs,Xar scope,.cons Qq0 .nil,⟨λb o e n hb hx=>?_,λb o e n hb hx=>?_,I.base.free,λb o e hx=>?_,I.base.tups,I.base.frzs,I.base.tbls⟩,(by simpa using h),(by rw[hg.kind];calc hk),he.ex I q λx s' z=>.of .refl z rfl,cxC cm P w K mg base N qual scope f aa A outer s H E,.ref (S++L).length,.fro QW,.Call (.Name "isinstance" p0) [a,.Name nm p1] [] pos,λb s'=>∃S',f env S=.ok b S'/\∃H' ρ',Inv X pc σ H' s'/\SR X.K Q11 ρ' S' H'/\Stp X.K ρ ρ' H H',⟨vs,h1,by rw[Xct h2];calc h.symm⟩,⟨hg,.inl ⟨_,rfl,h'.lst hl q⟩⟩,x==("__classdict__" : Str),b.map D.int,.Name "isinstance" p0,0,0,0,0,0,0,(Vr st).toList.drop p,ha.at λo e=>L.extBut _ _ D.a_.1 e,b∈X.ex\/X.s₀.heap.objs.size<=b,Y3 λk=>Xbo _ k,.cons (.cst (.int 16)) (.cons (.cst (.int 2)) QO1),.cons (.blt .max (.cons Q4 (.cons (.blt .min (.cons QL0 (.cons (.cst (.int 5)) .nil))) .nil))) .nil,((Ud (m+1)).filterMap λj=>(ow.getD j yy).map (j,·)),nxK (h1.at λo e=>c1.extBut _ _ D.iz e) (ha.at λo e=>c1.extBut _ _ D.a_.1 e) hx λg2 i2 c2=>Vd ?_,(by rw[z];rfl),[yz Q21,yz (.int aa),yz (.ref A.length),yy,yy,yy,yy],[yz (.int (m:Nat)),yz (.int 3),yz QG,yz (.int 6),yy],h pc s σ H ρ S env I nb,ds.map yz++Vm (N.length-lg ps) yy,Xa8 w a ep es,Nat×Nat×Nat,yz (.fro (bB b s o)),.ref x,{j:=i,more:=runEnd m i-i,i:=i,perturb:=q,dummy:=yy},∃o,h'.get? e=yz o/\o.cls=.type "StopIteration",(by rw[hr];calc nb),h1.at λo e=>L.extBut _ _ D.iz e,.tup (.cons Q4 (.cons (.cst (.int 2)) (.cons (.cst (.int 6)) (.cons (.cst (.int 7)) .nil)))),.cst Qm0,.cst (.int 16),λ_ _=>rfl,t.probeStart QG0,do let v <- L;standAt e.pos;Vd4 [v] (truthy v),Yz I.sr Qs,Xa3 tf body,Qo.bind λx S=>match (kdD S x).bind λk=>Xau k [t] with|some r=>R.ok (D.bl r) S|none=>R.bad,.frz (.lst .nil),.bl (Xad d),.augi QA (.blt .len Qz) .add Q4,[O.lst [.int 0]],(by simp!;omega),[isK c 1,isK c 2,isK c 3,isK c 4],0,0,0,0,0,0,0,(λz st' Qi1=>⟨h1,.inr ⟨h2,by rw[show N+min (max 0 t) 1=N+1 by omega]at h3;calc h3⟩⟩),k+1,eval e X.env,env.set i (yz (.ref m)),chs far ag i,cE k elt gens scope pos,(by simp[Around.in1_units];omega),(Vhi (a:=Vay) (by first|rfl|(simp[Vfv];rfl)) ?_),Vb8 es X.env,.sli QA (.some (.bin .add (.var 8) Q4)) .none,.blt .len Qz,(chs far ag Qq1).map Xb,Vr L,λv s1 h1=>Vp h1 (λaf s2 h2=>?_) λ_ _ z=>z,hs.2 b (Uf (Uj (Vu e) (I.ok.cab x c ae hc))),dr ts (K w.params),S++[.lst [.int a]],.exc c,.blt .max (.cons Q4 (.cons (.blt .min (.cons QL0 (.cons (.cst (.int c)) .nil))) .nil)),⟨by rw[Vg,qp.length_eq,Vav];omega,qs.map λq=>Ui q.2,e,Xeq qs,by simpa [V5] using he⟩,xs.map λx=>Expr.Name x.1 x.2,lg ds,a.toList.drop i,V0.mp hd,Qw.set i (yz x),Option D,0,0,0,0,0,0,1048576,.ref T.length,.ite (.cmp .ne Qq0 (.tup .nil)) (.bin .sub (.bin .add (.idx Qq0 (.neg Q4)) Q4) QD) QS,⟨_,Vo _ rfl,rfl⟩,kla_obj "<lambda>" (Xbj nm) params body scope [] ((X.mg "__name__").getD .none) L aa,Xtf hO hA QO2 (ma _ (Yo Q0)) Q0 mb (λx y _ h1 h2=>Xfx sb h1 Q0) Q0 λm hm a1 a2=>?_,{s with heap:=h2},[x0,yz (rwF fst16),yz (.int m),x3,x4,x5,x6,L],.or (.cmp .ne (.mth .count QA (.cons Qw2 .nil)) Q4) (.not (.isi Q6 [.valueError])),!t.plain&&decide (es.size>1),∃m∈mks,Xe0 K m=yx,∀b u,s.heap.get? b=yz u->h'.get? b=yz u,yz (.int s),lg its,ddL ks,.type "BaseException",.ret (.blt .tuple (.cons (.frz QA) .nil)),.ref z,.bin .add (.blt .mxl (.cons Qz1 .nil)) Q4,∀a,Van K Uw nm=yz (yz Qe)->mg nm=yz Qe,λx S1 u s1 v H1 ab e1 L I1 rv rd aa=>?_,λh=>?_,vNm z.1,scope.names.lookup y.1=yz .cell/\((Vb5 QZ scope.names []).lookup y.1).isSome=yx,X.env::X.outer,Vd4 [.ref h1.objs.size] (call (.builtin "list.sort") [.ref h1.objs.size]) >>= _,Vap X.prog X.w,(L.filterMap (es[·]?)),.done (yy,z.2),.cons Qz1 .nil,(fo3 m).map Xb,{s1 with heap:=s1.heap.push {cls:=.type "tuple",data:=.seq #[.type T1,.type T2]} },src.most S+1,fb env S,evs es env S,X.wish E,0,0,0,0,0,0,0,Array Vl,.str "crowd",⟨_,e⟩,⟨1,1,(.cons (.ret (.and (.isi Q6 [.int]) (.not (.isi Q6 [.bool])))) .nil),yx⟩,zp5 k1 k2 s.heap a b,o++a.extract i (i+k),newExc (.type "StopIteration") [] >>= _,leap m p.i p.perturb,(g2.update L.objs.size (V9 (·.push Vay))),blk X pc s2 H2 sc ap L.objs.size own fp,.cons (.frz (.cmr yw 2 (.cons Q71 (.val Q6) .nil .nil) (.blt .len Q41))) .nil,⟨_,rfl,?_⟩,λb ob q=>Ve _ q,s.heap.update a (Vd1 L t1),hY pc s H L C fp,env.set i (yz x),.ListComp elt gens sc cpos,.cmr yw n (.cons QA0 it .nil .nil) elt,[.lst [],.dct kvs],(λx _ y _=>by simp[X3,Vie]),Vc8 (Vaw (name:=Vai "__next__") hT slot_si (Uy slot_si hT Xoj ?_ (Xrk _))),⟨oe,vs,a0,t1,t2,t4,t3,(Vab.mp t5).1⟩,{j:=j,more:=m,i:=i,perturb:=q,dummy:=yy},{cls:=.type "tuple",data:=.seq #[u1,u2]},[yz QS2,yz (rwF fst16),x2,yy,L,yy,yy,yy],[1,2,3,4,5,6,7,8,9,10,11,12,13,14,15,16],0,0,0,0,0,0,snd b X sc N y hN hs L h3,o.push x++(b.extract k (j-1)).reverse,les b,kvs.map QT,(ha.ex I (by simp[q];rfl) λx s' z=>Qf0),Xh (i:=4) rfl,Vc9 [t] v p.line (Xcx sc),Str×Addr,I.ok.hd hc,ExP X pc σ ρ H Qv,.type "tuple",.cons (.var 7) .nil,setPending s (((Uu s).setIfInBounds i (p,n+m,v)).eraseIdxIfInBounds Qq1),h.bind I nb rfl (λds S1 us s1 vs H1 ab e1 L I1 rv rd aa=>?_) λ_ _ z=>z,Vaw (name:=Vai "__next__") L.typeIs Vea (Uy Vea L.typeIs Vi1 ?_ (Vio _)),.bin .add (.sli QA .none (.some (.var 8))) (.tup (.cons (.var 11) .nil)),⟨[],[⟨x,an,p1⟩],yy,[],[],yy,[]⟩,[yz Q21,yz QL1,x2,x3,x4,yz (.int w),x6],[yz Q21,yz QE2,yy,yy,yy,yy,yy,yy,yy,yy],λx1 x2=>x1++x2,x ∉ own/\X.env.cells.lookup x=yz c,kat a (i-1),insertAt t.place (below t.place j) j,ddI ns,(by simp[Vn]<;>omega),(by rw[Vh2,Vfu];kernel_rfl),(by kernel_rfl),Vp h1 (λu s2 h2=>Vp h2 (λd s3 ⟨r,e,w⟩=>?_) λ_ _ z=>z) λ_ _ z=>z,Vo _ rfl,.ref t,.cons QD (.cons (.cst (.int 3)) QO1),b.take k++b.drop QB3∈n,{s with heap:=s.heap.push QN,toks:=tk},[.Tuple [.Name x px,.Name y py] kt pt],upd H s.heap.objs.size (.tup [x,y]),qs.map λq=>Ui q.2,0,0,0,0,0,0,0,([]:List Keyword),((show clausesOf (cE k elt gens sc cpos)=gens by cases k<;>rfl).trans hg),((0:Nat):Int),⟨_,Vo _ rfl,rfl,_,rfl⟩,λpc s σ H ρ S env I nb=>wpAny_Compare1 (two ho ha hb I nb rfl) h1,(by rw[hj];simpa using ew),λq=>?_,kat a i,insertAt es Q42.2 (h,x),ha.ex I q λx s' z=>Qf0,fst16++fo3 m,Vk.mp h,QJ.extract (p+k) (p+Ql),(fc env S).bind λz S=>X4 o2 y z S,.ref y,.ref f,.ref D,.frz (.lst (.cons (.cst (.int 47)) (.cons (.cst (.int 48)) .nil))),(show ObjOk X.prog X.w H s.heap a (.lst ws) from I.inv.hok a _ hv),(λz=>by subst z;rw[hd]at h;cases h),upd H a o,lstAt S n,lg ps,e::es,Vas _,LI×D,0,0,0,0,0,0,.nx e,.call ic (.cons QQ (.cons QA Qz)),.call (.ref fa) ⟨[.ref a],[]⟩,wpS_get ?_,o.push x,ns[argBest (λi j=>decide ((ns[i]?).getD 0>(ns[j]?).getD 0)) k]?,Vc8 (Vaw (name:=Vai "__next__") T Vdz (Uy Vdz T Vih ?_ (Vid _))),V5 "list" Qc.toArray 0,Src.con zs,.cons t2 it2 ifs2 .nil,.cons a (.cons b .nil),⟨r.nd,by simp!,λx hx y hy=>?_⟩,⟨h2,h3⟩,λi v=>∃e,es[i]?=yz e/\e.key=v,hc.ok I Ql1 λs2 H2 ab I2 aa=>?_,V5 "list" (ts.map QK1).toArray 0,((Ud b.length).map λk:Nat=>.int k),((sIx items.size 0 lo:Nat):Int)==0&&(1:Int)==1&&QP0==items.size,{cls:=.type "set",dict:=yy,data:=.set #[] 0 (.fresh 0 0 (!byT w))},Xch ((Xf5 (a:=.var 0) (b:=.cst (.int 0)) rfl rfl).trans L) rfl,Vd (Va (Va (Va (Xhl T (Vd (Va (wpAny_fieldsOf hi rfl ?_))))))),.try b 0 x (.cons (.ret (.call L (.cons (.var x) .nil))) .nil),⟨rfl,u,v,rfl,c1,c3,c4,.inl Q0⟩,qs.map λq=>V.ref q.2,l.map D.int,evs F G es env S,Y3 λ_=>rfl,Xh (i:=2) rfl,Xa8 X.w Da ep es,X0 st,Va (wpAny_onRaise ?_),T++[.lst X],Option Unit×Nat,.str t,.ref g,.frz (.bin .add (.frz (.lst QL2)) (.call 20 (.cons Qz1 QL2))),0,0,0,0,0,0,0,.for QA0 it b,(Xnf L Q2).mono Q2 Q2,(yy,y.2.1,y.2.2.1,y.2.2.2.1,z.2.2.2.2+1,y.2.2.2.2.1,y.2.2.2.2.2),⟨n,S2,e2,z⟩,⟨_,_,rfl⟩,[yz Q21,yz QL1,yz (.int (v%far))],[isK c 5,isK c 6,isK c 7,isK c 8],k==Vhl&&env.scope.kind == .function&&env.kindOf n==yz .cell,(by simpa using c),(by simpa using L),(by show (lg zs)-0<lg zs+1;omega),(by rw[Vav];omega),blk X pc s H scope cl C own fp,QE.update s.heap.objs.size QC2,⟨λn a h=>by rw[Vx QL5.1];calc h,λ_ _ h=>h,λ_ _ _ h=>h⟩,⟨n,Vcm _,aa,H5,ac,S5,e,I5,st3.trans (af.trans L),nb3,eq3⟩,λenv S=>tst Qo,λb u e=>Ve _ e,ps.zip us,lg zs,ks.take i,its t k p,hb pc s2 σ H2 ab S1 env I2 L,ha pc s2 σ H2 ab S1 env I2 L,fi env S,b.toList.drop j,0,0,0,0,0,0,Y2 ..,Xaj hs h2,Vaj.mp h,QV.take a++[d]++QV.drop (a+1),.cmp .ne (.blt .len Q41) (.bin .add (.cst (.int 153)) QD),(z++[b]).map Xb,(Z.ixN QR k).bind λj=>xs[j]?,⟨boot_heap w.params,Array.mk [],boot_drawn,boot_toks,os⟩,{cls:=.type "set",dict:=yy,data:=.set #[] 0 (.fresh 0 0 ld)},λu s' q=>?_,bits h%(m+1),Xeu L.heap H,Vp (L pc s σ H ρ S env I nb) (λc s1 z=>?_) λ_ _ z=>z,.int a,.int (m:Nat),.dK [],.bl yw,((sIx n 0 lo:Nat):Int),[.lst (L.map Xb)],λz st'=>Glp st0 st'/\∃r,z.1=yz r/\Srt Qm1 W r.toList,(yy,()),ond h2 rfl,g env S,(by show(yw||(Vdd cpos (Us es X.env)).any QT)=yw;rw[L];rfl),ap.endLine==cp.line,Xah xs l c,Vdd pos (Us es env),Va (wpAny_dictEpoch L hd ?_),Ux _,P1 L x1 x2,.ref Da,.fro xs,.Call (.Name x p) QX5 [] pos,(by size_fits),Vf2 (T:="StopIteration") (b:=yx) Qd3 isSubtype_stop ?_,Vc5 x qual (Xb4 st) (Yv st) Q36 .none kV aa pm an L ct,0,0,0,0,0,0,0,⟨[u],[]⟩,⟨.int (lg ys),H,I.tok _,⟨s.toks+1,by rw[Vn,L]⟩,q⟩,∀x∈zs,X3 t x e=yz (T x),λ_ _ _=>False,call (.type "set") [.ref l],b41 p n QF1 Qm3 (yz o) Qp2 (yz (.fro d7)) (yz Q5) a t,Yb Q0,Xbp I h2 ry ru,QJ.extract (p+Ql) (p+Ql+m'),I.inv.ok.hd hc,.rt d,.done (yz (Xdf a b Qe5 i (j+1)),o.push x,i,j+1,g,c,d),.builtin "max",.Assign ts v p,[.ExceptHandler (yz (.Name x np)) (yz n) (b0::suite) hp],σ++Vm (lg own) yy,λw s3 z=>z.pre aa,c3.extBut _ _ D.Oz.symm (c2.extBut _ _ D.iz.symm z1),Xst CX P w K mg base N qual scope f cd A outer s H E,Vds (.ref I) >>= _,Vda [t] v (Xcx sc),Vc5 name qual params body scope dV kV ak pm an aa ct,{cls:=.type "list",dict:=yy,data:=.seq ([]:LV).toArray},[nB n 1,nB n 2,nB n 6,nB n 7],[.lst ((cts [] w).map D.int)],λ_=>bind_congr λ_=>bind_congr λ_=>Xz rfl λz=>?_,0,0,0,0,0,0,o++(a.extract k i).reverse,kat b (j-1),(f0=.none\/∃T:Nat,f0=Vaa T),X.fn x.1=yx\/X.env.scope.names.lookup x.1=yz .local,Va4 ho hd (Xaq T.toTab) ?_,S++[.exc k],.bin .fdiv (.idx Q6 QS) QA,.Name x pos,⟨by rw[hv];trivial,λo u z=>by rw[hv]at z;cases z⟩,{cls:=.type (Xn8 k1),data:=.fields #[.ref a,.int 0 0]},(st (Xbm (Xj0 ri) (Xj1 ri)) (by rw[Vw,Vaq,Vbu];omega)),fo env S,a.size-1,(Xkl T.tb T.mg.cy (by rw[T.sz];let:=T.room;omega) QG0),Xb0 st.2,V0.mp hy,.bin .mul (.lst (.cons QS .nil)) (.bin .add em Q4),⟨_,rfl,by cases h;rfl,λS' h' i=>by cases h';rfl⟩,{cls:=.type (Xn8 k),data:=.fields #[.ref a,.int 0 0]},[x,y],[.st (ddL n)],λz=>L (V3.mpr z),λe=>QZ0.is k e.2,λe=>?_,(yy,z.2.1.push y,z.2.2.1,z.2.2.2.1+1,0,z.2.2.2.2.2+1),(yy,z.2.1.push x,z.2.2.1+1,z.2.2.2.1,z.2.2.2.2.1+1,0),src.most S1+1,ps.map QT,kat QM3 (p+i),es.map QT,ddL n,Yo Q0,Xs4 items n dd sl,Xb1 e,Vm k.toNat vs,Vi Y.prog Y.w,0,0,0,0,0,0,0,Vad (Vd ⟨Vf9 Vhd _,Vbl F.entry_list_iadd ?_⟩),U1 (.ref j) >>= _,U1 (.ref i) >>= _,Stp.upd (ρ:=ρ) (K:=K) L,P0 L x1 x2 x3,I.base.keep b o e n hb hx,.yield (yy,x.2.1,x.2.2.1,x.2.2.2.1,x.2.2.2.2.1+1),.val Q6,.ref A.length,.int ag,.done (yz yy,z.2),.cons QQ .nil,(is.zip ds).foldl Qb0 env,(Vr st).toList.drop (p+k),[yz x0,yz QE2,x2,x3,x4,x5,x6,x7,x8,x9,L,yz (.int k)],λr s'=>match r with|.ok _=>P s'|.error _=>False,hb.at λo e=>u3 b o D.b_.1 D.b_.2.1 D.b_.2.2.1 e,hB pc s1 σ H1 ac S1 env ds vs us Qt I1 rd rv nb,Vbf.«tuple.__mul__» ⟨[.ref l,.int k u],[]⟩,.for QQ (.rng (.cons QK3 .nil)) (.cons QE0 .nil),.done (yz r,x.2.1,x.2.2.1,x.2.2.2.1,x.2.2.2.2.1),⟨e1,e2⟩,[opC o1,opC o2],[.str "swap",.str "places",.str "deed",.str "line"],[.lst (st.map Xb),.dct kvs],[.lst ((z++les b).map Xb),.dct (kvs++[(b,.bl yx)])],0,0,0,0,0,0,∀d∈ds,Sm 50 200000 d,hb pc s2 σ H1 ab S1 env ⟨J2,I1.sr,I1.er⟩ L,call g [v,.ref y,.ref D],(by clear c4;omega),Vax hz rfl (x:=.ref I) rfl (Va (Vcq hI rfl ?_)),V5 "tuple" its.toArray 0,.cons Qx2 (.cons Q4 QO1),.bin .add (.sli QD .none (.some QQ)) (.tup Q41),(ks.getD i []).map V.int,⟨rfl,v,2*v+1,rfl,by omega,by omega,by omega,e⟩,tm m,rs.map QK1,qp.mem_iff.mp hq,pth t.mask QG0 N,lg xs<=200,h2.at λo e=>u3 j o D.jz D.Oj.symm D.ij.symm e,Yn x y v S,V5 "list" #[] e1,.var j,.ref L.objs.size,.or (.not (.isi QA [.bool])) (.cmp .ne QA Q71),.int c,.int 3,.done (yz r,y.2.1,y.2.2.1,y.2.2.2.1,z.2.2.2.2),.call L (.cons Q6 (.cons (.blt .len Qi) .nil)),[λv=>bindName X.env y v,λv=>bindName X.env x v],['r','o','t','a','r','e','t','i','_','t','e','s'],∀b∈l,b≠a->b ∉ frs X.stack->Xkm X pc b,λenv S=>pe F G b env S,mirror QJ i j ((j-i)/2),(by let:=T.pf.units;omega),Xah its lo c,Vp aa (λ_ ac ab=>Vd ⟨rfl,ab⟩) λ_ _ z=>z,V5 "list" its.toArray 0,Uh (Vig (Vf5 _ hl) 3) L,QR0.trans hF,0,0,0,0,0,0,0,I.inv.wish E,EP X pc σ Q,.rt v,.ref (lg S'),⟨rfl,u,v,rfl,c1,c3,c4,.inr ⟨by omega,e⟩⟩,⟨.nx env,S,rfl,rfl,σ,H,ρ,I,.refl,λ_=>rfl⟩,[yz d,yy,yy],[.exc c],(λx q y L=>by rw[V3.mp q];calc hx y (Vco.mp L)),(by rw[zz];calc q),(by lia),X11 (i:=3) (j:=4) (rp ..) (QR0.trans (h1 S)),(Vfj "internal:list.sort.merge-bound" : Sem QA4),.not (.chn .le .le Q4 QL0 (.cst (.int 200))),⟨rfl,0,1,rfl,by omega,by omega,by omega,e0⟩,{s with heap:=Qr.push QK},σ.set i (yz v),λt z=>D.noConfusion z,λ_=>yx,xs.map f,w.params.setOrder a ep,t.put (pth t.mask h N),n+1,intKind_is prog w k tk,hf b hb,firstIterPos gens cpos,0,0,0,0,0,0,a.toList.take i,Xv st.1,Vb4 p.main.body,Va (Vg2 (hU _ λs' h=>Vd (Vd ⟨rfl,h⟩))),V0.mp hx,QX0.take (m'+e),P0 L x1,.tup is,.ref sl,.con zs,.con xs,(p,w)::P.zip vs,{s with heap:=h',gens:=g',drawn:=d',toks:=t' },{cls:=.type "list",data:=.seq its'.toArray L },λb o _ _ L e _=>⟨o.slots,k b o QQ1 e⟩,hi pc s σ H ρ S env Qt I Qm λx s' z=>?_,ha.ok I q λus s1 vs H1 ac I1 rv rd ab=>?_,.not (.chn .le .le QS QD (.cst (.int 15))),.cons QD (.cons QS (.cons (.glb g1) .nil)),⟨z,H',J,rz,q⟩,⟨[.type "set",a],[]⟩,[yz QL1,yz QU1,yz QJ8,yz d,yz y,yz QR2,x6,x7],∀(s:Vc) (u:Vb),BindsTo s fd QA7 [(x,u)],λd=>(les (Yj d)).all λc=>decide (c∈n),λc v L q=>k c v ?_ q,(yw,eval e X.env),0,0,0,0,0,0,0,0,0,0,0,0,0,0,0,0,0,0,0,0,0,0,0,0,0,0,0,0,0,0,0,0,0,0,0,0,0,0,0,0,0,0,0,0,0,0,0,0,0,0,0,0,0,0,0,0,0,0,0,0,0,0,0,0,0,0,0,0,0,0,0,0,0,0,0,0,0,0,0,0,0,0,0,0,0,0,0,0,0,0,0,0,0,0,0,0,0,0,0,0,0,0,0,0,0,0,0,0,0,0,0,0,0,0,0,0,0,0,0,0,0,0,0,0,0,0,0,0,0,0,0,0,0,0,0,0,0,0,0,0,0,0,0,0,0,0,0,0,0,0,0,0,0,0,0,0,0,0,0,0,0,0,0,0,0,0,0,0,0,0,0,0,0,0,0,0,0,0,0,0,0,0,0,0,0,0,0,0,0,0,0,0,0,0,0,0,0,0,0,0,0,0,0,0,0,0,0,0,0,0,0,0,0,0,0,0,0,0,0,0,0,0,0,0,0,0,0,0,0,0,0,0,0,0,0,0,0,0,0,0,0,0,0,0,0,0,0,0,0,0,0,0,0,0,0,0,0,0,0,0,0,0,0,0,0,0,0,0,0,0,0,0,0,0,0,0,0,0,0,0,0,0,0,0,0,0,0,0,0,0,0,0,0,0,0,0,0,0,0,0,0,0,0,0,0,0,0,0,0,0,0,0,0,0,0,0,0,0,0,0,0,0,0,0,0,0,0,0,0,0,0,0,0,0,0,0,0,0,0,0,0,0,0,0,0,0,0,0,0,0,0,0,0,0,0,0,0,0,0,0,0,0,0,0,0,0,0,0,0,0,0,0,0,0,0,0,0,0,0,0,0,0,0,0,0,0,0,0,0,0,0,0,0,0,0,0,0,0,0,0,0,0,0,0,0,0,0,0,0,0,0,0,0,0,0,0,0,0,0,0,0,0,0,0,0,0,0,0,0,0,0,0,0,0,0,0,0,0,0,0,0,0,0,0,0,0,0,0,0,0,0,0,0,0,0,0,0,0,0,0,0,0,0,0,0,0,0,0,0,0,0,0,0,0,0,0,0,0,0,0,0,0,0,0,0,0,0,0,0,0,0,0,0,0,0,0,0,0,0,0,0,0,0,0,0,0,0,0,0,0,0,0,0,0,0,0,0,0,0,0,0,0,0,0,0,xs.map Yj,t.advance p,sliceAdjust lo yy c n,sliceAdjust l yy c QR,rs.map QT,lg ks,c==0||c==c',(by show 4<=1000;decide),(by rw[Vn];omega),(by rw[I.ok.glob];calc I.mod.glob.keeps I.bk),0,0,0,0,0,0,0,boot_heap P,a::es,Xh hi,Xgn hA ma g1 Q0 Q0 ?_,Xbm (Xi3 (Xc1 [])) (pds_iff.mp (Xd7 Xc1)),Xbj nm,Xam il it,Vi P w,V1 _ L,T++[.lst (X.set k.length (.int (QA2+1)))],N.take d.np,N.getLast?=yz (Xbj m),I.base.free b o e n L,.cons (.ret Qw2) .nil,.bl (Xa2 d),⟨λb o e=>Vgl _ e,Vb7 _ (.head _),fr,tr⟩,he.ok I q λu s' v H' ρ' J rv rd st=>?_,args_sorted1 _,Xlt (i:=1) (a:=a) rfl (Xh (i:=8) rfl) ha,Xhd λac ab=>V2 ⟨aa.trans ab,rfl,h5⟩,Xbp I h1 rx rv,S1++[O.lst xs],J.hok.fresh Qa,I.step J sr st,.type "object",.mth .xtd QD (.cons (.call il QL2) .nil),0,0,0,0,0,0,.cons (.bin .add Q4 (.call it Q72)) .nil,⟨us,[]⟩,⟨_,rfl,h⟩,⟨_,e,rfl⟩,{s with toks:=s.toks+1},[yz d,yz Qb3,yz (Xb k)],[yz QJ0],ks.map λk=>.tup Qk0,j+1,hb.at λo e=>u2 b o D.b_.1 D.b_.2.2.1 e,Vfi _ _ (Ne.symm hb),Vd0 lo yy (yz c) Qn3,.sli Q6 (.some (.bin .add QD Q4)) .none,.ok Q5 (S++[.lst ((Xa7 ns).map D.int)]),⟨hg,.inl ⟨_,rfl,h'.fin (.inr Q0)⟩⟩,⟨h1,h0,h2,h⟩,[yz QE2,yz Qm0,yz QB4,yz Q76,yz Qm0,yz Q5],b.take k.toNat++b.drop (k.toNat+1)∈n,Vbf.«zip.__next__» ⟨[.ref z],[]⟩,Qo.bind λx S=>Q74.bind λy S=>k x y S,(QM.hash k,Ui x),⟨hg,.inl ⟨_,rfl,h'.fin (.inl q)⟩⟩,⟨h',by omega,by omega,j1,hj,by omega⟩,λy=>match y with|.bool c=>c==b|_=>yw,λp=>decide (p.1=k),λh' c' kp e=>fin its L hz h' c' kp e,λfl s1 z=>?_,λ_ _ z=>z,yz x,yz d,x::xs,start N vs,p.1.map V.int,kat QM3 (p+k),(its.toArray.size:Int),ev b env S,0,0,0,0,0,0,0,b*b+69621*j+7,Xq Qe1 Xca,Xh (i:=6) rfl,Xh (i:=5) rfl,Xh (i:=3) rfl,Xh (i:=1) rfl,Xew d li L S3,Xel far ag,Xc7 w a ep es,Vu e,Uu st,Stp.new1 L,P2 L x1 x2,P2 L x1 x2 x3,P1 L x1,P1 L x1 x2 x3,P0 L x1 x2,L.push Q40,L.objs.size+1,I.ok.bs b o e,2^62,.ret .none,.int (k.length:Nat),.fro ds,.ext (StO Q11 a ps),.call L Qf,0,0,0,0,0,0,.bool b,.blt .repr Qf,.bl (wh d),.Tuple [a,b] k2 pt2,.Subscript o i spos,(sortRuns').run (Vib κ Qn0 #[] 7 yy),⟨⟨q a ha aa,q b hb L⟩,by decide⟩,[yz QS2,x1,x2,yz Q02,x4,yz Q5,yz QE2,x7],[yz Q21,yz (.int aa),yz QI8,x3,yy,x5,yy],hf b L,(hc.ex I (by simp[q];rfl) λx s' z=>Qf0),h2.at λo e=>u2 j o D.jz D.ij.symm e,cts ks w,Vk.mp h1,LI×Vb,1<=lg xs,.ref l,.bool yx,{s with heap:=s.heap.push QR1,toks:=tk},[yz (.int ((a:Int)+2)),yz Qw8,yy,yy,yy],[Xm n],[.Subscript o i spos],(λx q y L=>by rw[V3.mp q];calc hx y L),λw s2 z=>z.pre ab,λenv S=>Qw6.bind λxs S=>Yc k xs S,(λ_ _ z=>by cases z),p+n,m+1,isTrue e X.env QC3,(es[·]?),Va4 (s:=QQ0) ho hd (Xaq T.toTab) ?_,L.inv.hok.fresh Qa,L.heap.objs.size+4,I.inv.hok.fresh Qa,ExP X pc σ ρ H r,.cons (.var 8) (.rng Q34) .nil .nil,0,0,0,0,0,0,0,{cls:=.type "tuple",data:=.seq #[x,y]},λr e hr=>?_,(nm,ar,fl),eval b X.env,eval a X.env,c0==0||c0==c,(by rwa [Vx (by rw[h.1];calc hi)]at e),Xeg l c d S1,Xbq I.inv hb,T.pf.calm h0,S++[.lst ys],LI×Addr×Vb,⟨o,e,λv z=>by rw[d]at z;cases z⟩,⟨Da,rfl,by rw[<-I'.sr.len];simp!⟩,[yz QL1,yz QU1,yz QJ8,yy,yy,yy,yy,yy],[.lst QG1,.lst (QP1.map Xb),.lst Q44],[(Vai "key",.ref f)],∀b∈fp,H' b=yy,v+(n:Int),sb.2 b (aa b u e),reads_Fs I hl xs vs its ps e hs r,ond h rfl,ks.map Xb,d.nl-d.np,call Ql0 [.ref l],(by rw[hB.sz];omega),0,0,0,0,0,0,a::T::frs X.stack,Yv st,Xv6 hO hA ma mb sa sb hl h1 hk h3,Xv3 hO hA ma mb sa sb hl h1 hk h3,Xjv hd hx,Xec K,Xbu w t i,Xae kvs r,Vc4 (T:="tuple") ⟨o,ho,hc⟩ ?_,Uy Vbp ht.typeIs Vii ?_ (Viz _ _),S++L++[O.lst QL3],LpQ R W a b N st0,HpQ R W a b N st0,.lst (xs.set j v),.bl r,.aset Q71 Qq0 Qw2,.Name "sorted" p0,(lns n).map D.int,(i:Int)+(m:Int)*1,⟨p,vs,k,z,rfl,rfl,hq,hz,rfl,rfl⟩,⟨hg,rfl,h⟩,⟨he,λp hp=>Xbq I.inv (h2 p hp)⟩,⟨_,oL,rfl⟩,⟨_,hi,rfl⟩,⟨S1,Xcu t,H2,ab,I2.inv,I2.sr,aa⟩,[yz Q81,yy,yy],[opC (if ng then .notin else .isin)],[isK c 9,isK c 10,isK c 11,isK c 12],snd e X sc N v T.hN T.hs T.pf h3,nxK Qu2 Qb2 hx λg2 i2 c2=>Vd ?_,hb wh pc s2 σ H2 ab S1 env I2 L,ha.ok I Ql1 λs2 H2 ab I2 aa=>?_,(by first|calc .inl Q8|calc .inr Q8),bubble (Vr aa) (p+k) (p+k-(p+l)),Xh (i:=2) (d:=.ref B.length) rfl,HT.sIx QJ2 QJ2 L-HT.sIx QJ2 0 li,0,0,0,0,0,0,0,ExS X pc σ ρ H yw (.ok QK7 S2),.candidate QV6.j i (its t QB3 p),.Call (.Name "zip" p) QBA [] pos,⟨rfl,L⟩,⟨_,rfl,by rw[<-I.sr.len];simp!⟩,⟨I.sr,.refl,e2⟩,⟨H,I.tok _,by rw[Xi6 r];calc q⟩,[z,I,O,i,j],[s1.heap.objs.size],∃r,z=yz r/\Srt Qm1 W r.toList,λenv S=>tst Q74,λb w hb q=>(sb.2 b hb).trans q,y::z::r,wpAny_handled ?_,spliced QU0,rwF Qc4,p.depth<=60,opC op,o.push x++b.extract QiA (j+1+k),ns.getD i 0,(l.filterMap λj=>(g j).map (j,·)),kat b j,j-1,ha.bind I nb rfl Qu3 λ_ _ z=>z,evalPart e X.env,(by simpa using hl),0,0,0,0,0,0,(by simpa using hh),(by simpa using h2),(by simpa using h1),(by show 1*_<=_;rw[Vaf];calc Yb Q0),(by rw[Vn]<;>omega),any_some h2,ac.trans ab,Xrn (prog:=prog) (w:=w) b hh hl,Xc4 T.ris j,Xbg S 4,Xb n[a],Xb b,Vr s,Vk.mp q,Vds Q20,Vax hz rfl (x:=.bool yw) rfl ?_,V9 λ_=>(#[]:AV),Uu s,S++[.lst (r.map λk=>.tup Qk0)],S++[.lst ((Xa7 Qx4).map D.int)],Qa2.take Ql,I.lstR e rd,.var 7,.type T,.ref q,.ok d S,.mth .index QA (.cons Qw2 .nil),.int QR,.ext (DicO a xs),.blt .sorted Qs0,((Vbw ..).extBut.push _).push _,[(s.heap.push (nS w)).objs.size,l],λz st' Qi1=>⟨h1,.inr Qm5⟩,λi x e=>Xbq I1.inv (x3 i x e),λb o L e=>⟨o,k b o QQ1 e⟩,wpAny_isSame_ref_self (Va Q70),0,0,0,0,0,0,0,snds es X sc N Q31 hN hs hp h3,kvs.all λp=>bdD ρ.length p.2,kat (mirror a i j ((j-i)/2)) k,(by rw[isSubtype_type];kernel_rfl),Xu1 T.tb ((Xeb T.tb _).mpr n2),Vgx Qt4 #[] (Vm k.toNat items),Vax ho hd (x:=.int i 0) rfl ?_,SqL X.K H p ys\/SqT X.K H p ys,J.laid (t':=s3.toks) QM4 Qa ?_,.cons (.cmp .notin QQ Q6) .nil,⟨tg,iter,cs,0⟩,⟨_,L,rfl⟩,{s with heap:=s.heap.push (nS w)},{s with heap:=QB0.push (itO b l)},{o with slots:=sl},[yz QS2,x1,x2,yz Q02,x4,x5,x6,x7],[s.heap.objs.size],[isK c a,isK c b,isK c d,isK c e],[.lst []],λb o L e=>(sb.2 b L).trans e,(·<=·),(·.2.1),r.map Xb,(nm,L,fl),ne _ _ z,nP _ _ z,0,0,0,0,0,0,mirror QJ p (p+k) ((p+k-p)/2),lg ns,lg S1,kat QM3 (p+x-1),hs.2 b (Uf Qr1),hm b _ q λz=>z,h pos pc s σ H ρ S env I nb,fc env S,f x,eval iter X.env,ddI (ns.take i),c∈n,(by simpa using e),(by rw[Vat];omega),blk X pc s H scope L C QK2 fp,below t.place j,Yi (ks.map Va0),Xdr N N2,Xap m Q81 ds S2,Vd7 _,(V9 (·.pop)),S.keep λo e=>m.heap L o hw e,QZ4.map λx=>(x==0||x==c.val),QKB.setIfInBounds i (p,n+m,v),J.laid (t':=L.toks) QM4 Qa ?_,.lst QW1,.inr rfl,.idc yx Qq0 Q71,.cmp .ne QD Q43,.cmp .lt QA QL0,.bin .add QQ Q4,.BoolOp .And (a::b::rest) pos,!byT X.w,⟨x,p,rfl,h2.1.1,h2.1.2,h2.2⟩,λz hz=>?_,(λj=>(ow.getD j yy).map (j,·)),0,0,0,0,0,0,0,λb o _ _ L e _=>k b o QQ1 e,λ_ _ e=>e,yz v,yz (n:Int),(yy,z.2.1,z.2.2.1,z.2.2.2.1,0,0),upd H Da u,tabObj #[],snd e X sc N x hN hs L h.1.2,m.mono sub,m'+e,leap m i q,g1.push QL,ev e env S,chs 16 1 1,ae b o e L,a::b::rest,Xw (i:=1) (QR0.trans (h2 S)),Vgr v (yz t) p.line (Xcx sc),Vax ho hd (x:=.ref t) rfl ?_,Va (Ul ?_),QK5.map Xb,QE3.map Xb,N[i]?=yz x,L.blt _ Q2,FT T G QB3,.ite c a b,0,0,0,0,0,0,.int (i*j),.cons e es,.Subscript (.Name x p2) e p3,.Name x py,((Ud (t+1)).map λk:Nat=>.int k),⟨rfl,rfl,rfl⟩,⟨hg,.inr ⟨rfl,jj _ Qa⟩⟩,⟨h1,L,H2,aa,h2,st.trans h3⟩,{s with heap:=s.heap.push QX4 },[yz Qv8,yy,yy,yy],[yz Qo6,yz Qw8,yz QG,yz Qn6,yy],(⟨j-1,by omega⟩:∃k,j=k+1),(λz=>by subst z;calc hz _ _ h),λx y _ h1 h2=>Xfx sa h1 Q0,λa ρ H z=>⟨[],z,.nil⟩,snds es X sc N xs hN hs L h,(rs.map (·.2.2)),pt S p (v/far),load s.heap.objs.size >>= _,hQ _ _ .refl (j1.lst hl q2),ev F G o env S,ev F G i env S,ev F G c env S,d+1,cwE p far B.length x3 x5 x6,(by rw[z];calc L),Xw (i:=2) (e:=.cst QB4) rfl,Xne (j:=8) rfl,Vd0 lo hi yy n,S'++[.lst QG1],I.seqI e r1 ru,.yield (yy,z.2.2,2*z.2.2+1),.int (if j>i then j else i),.int (if j<i then j else i),.inr (.inl Q8),.cons (.cst (.int 64)) .nil,0,0,0,0,0,0,0,.cmp .gt QA QS,.builtin "min",.builtin "len",.Name "set" p2,.Compare a [opC op] [b] pos,(bA0 _ _).mp h,⟨o,L,hc⟩,⟨hg,.inr ⟨rfl,L _ Qa⟩⟩,⟨ha,λy hy=>?_,Yz I.sr Qs⟩,(λz=>by rw[z,hT]at n;cases n),λb u hb=>sortedAll_old hb,upd H L (.frz oc (.own 0)),(rs.map λq:LI×Vb×Vb=>q.2.2),opB op,lg kvs,lg B+1,ks.filterMap λk=>xs[L k]?,hb pc s σ H ρ S env I Qm,h1 pc s σ H ρ S env I Qm,(by rw[e];calc λz=>nomatch z),(by rw[L];calc λz=>nomatch z),a.cps.toList==b.cps.toList,Y8 I.inv hg hm hv ?_ hn aa,Xh rfl,Xcd ts,W.done s _ _ st λs' m=>?_,0,0,0,0,0,0,Ve _ e,.sli QA0 .none (.some Qs8),.int k,.int 0,.cons (.cst (.int 6)) .nil,.compLoop QF3 d it acc env,.cmp .lt (.call iw Q12) Q6,.BoolOp .And (b::rest) pos,⟨h1,h2,h3,L⟩,⟨c,by omega⟩,⟨QY1,hq.at λo e=>Ve _ e⟩,[yz QS2,yy,yy,yy,yy,yy,yy,yy],λz=>q1 (p.mem_iff.mpr z),λx=>!x.1,λx _=>T.fn x,λfl s' z=>?_,x.frz a o u h,wpAny_letGo (Vd (Va Q46)),turns m,tm t.mask,snd a X sc N x hN hs L h4,snd a X sc N x hN hs L h1,qs.map λq=>(q.1,q.2,q.2),qs.map QT,ow.setIfInBounds j (yz k),lg ys,lg qs,l.map f,k∈ps.map QT,kat QM3 (p+x),its t d p,i-1,hi-lo,h.2 F G env S,h pc s σ H ρ S env I Qm,es[i]?.map QT,0,0,0,0,0,0,0,es.size+1,env.set i Q3B,dr ts K,beq_eq_false_iff_ne.mpr c,ao b hb,aa b q e2,Z.inH X a,Xgc x y S,Xex Qk8 (i,q),Xcx env.scope,Xcd z.2.1,Vk.mp L,Vf6 Q35 >>= _,Ve7.mp nd,Vd1 aa t2,Vc6 _,Vad Q62 L,Va (Va4 L hd (Xaq T) Q70),Uu z,Ui t==Vay,Ui d==Vay,S1++Qr0,S++X,Qa2.take Ql++QX0.take QJF,P3 L x1 x2 x3,L.push Qb,0,0,0,0,0,0,I.freeC x c e,CXd P w,.ref X.length,.ok .next,.ok (.ret QB),.lst ys,.int (-i),.head _,.done (yz yy,z.2.1,z.2.2),.dct [],.cons ru .nil,.cons Qn (.cons QZ1 .nil),.cons QS .nil,.bl b,.bin .add a b,.Name x p,.BoolOp .Or (b::rest) pos,((P0)/\L)/\P2,⟨a,vs,e,h1,rds_lo k h b⟩,⟨QY1,(hl.push _).push _⟩,⟨I.sr,.refl,by simp[RD]⟩,{s with heap:=s.heap.push o},[.ref a],[.int (m:Nat),.int 3,.int 1],∀E,PGs Q94 es (gNs is),r.drop (HT.sIx QJ2 0 li),qs.map λq=>(q.1,Ui q.2),cE k elt gens scope cpos,(by rw[hk];calc⟨_,I',q⟩),Xkr fi t n tf body env S,Vcu .Mult Q35 (.int k u),Vbb hi Q9 λh1 e1 c1=>?_,Vax (s:=Qg3) t1 t4 t5 ?_,Ud (far-lsz L one).toNat,Option Expr×Option Expr,I.list (xs:=xs) (n:=n) h,0,0,0,0,0,0,0,.sli Q6 .none (.some QD),.cons (.asg QQ Qz1) .nil,.Compare a QW8 [b,c] pos,(is.zip vs).foldl Qb0 σ,((Ud n).map λk:Nat=>.int k),((Ud m).map λk:Nat=>.int k),(QE3.take j).flatMap QHB,⟨_,z⟩,[yz Qo6,yz Qw8,yz QG,yy,yy],[Ui i,Ui j],∀i,i<l->LeK R Q28 Q7B,∀b∈fp,Xcb X pc H' b,λu s' z=>?_,λo e=>m.heap Sa o hw e,λf vs=>PySem.call f vs,λb o L e=>kk b o QJ6 e,ys.map λy=>(y.1,y.2.1),(y.1,y.2.1),x.tup a xs h,x.2.2.endLine==z.2.line,sizeAbove (grown QW9)-1,rule "list.sort.gallop",richCompare .Lt Qq2 QO5,i+k,cut xs lo hi,cts n (wN n),0,0,0,0,0,0,(by with_unfolding_all rfl),(by simpa [Xby,Xo] using e),(by simp![Vap,Value.isInt]),apos.endLine==cpos.line,Yn x y z.2 S,Xkj op a z S,Xit scope sc,Xgh xs k b v,Va5 (opC o2),Va5 (opC o1),V5 "list" Q95.toArray e,T x,(Sum.inr a:Key),(Sum.inl a:Key),S++[.dct []],QfC.lookup b,L2.upd H p u,L2.upd H p o,L2.upd H a u,L2.upd H D u,I.cell x c e,FT T G (k+7),.call f (.cons Qs8 Qs0),.Slice lo yy (yz st) p2,(0:Nat) != 0,⟨rfl,l,l,rfl,a2,a4,a5⟩,⟨q,Vfh _ _ _ (.inl q)⟩,[yz Q21,yy,yy,yy,yy,yy,yy],∀b∈fp,Xcb X pc H b,λ_ q=>q,outer.names.lookup y.1,o.push _,ma _ Q58,lg n,lg b,lg L,0,0,0,0,0,0,0,(bits h%(t.mask+1),bits h),ac.trans (ae.trans aa),Xy L.sr (L.inv.tok tk),Xhz L hn,Xd8 (enc_row.dat _) st,Xcg hn _,Xa4 (v:=.bl yw) q1 rfl,Vd8 Qi9 (pure (n:Int)),Vbo (Vdg ?_ hs) hs rfl,V5 "list" L.toArray nk,Ut.mp hp,Str×Vfg,OkS X pc σ ρ H na Qv,I.wish E,FT T G k,ExS X pc σ ρ H yw r0,ExS X pc σ ρ H na Qv,B++[.lst Qf6,.dct kvs],.ref s3.heap.objs.size,.ref s1.heap.objs.size,.frz (.bin .add QD Qq),.dict [],.cons QQ QH8 .nil .nil,.cons QD QH8 .nil .nil,.cons (.for t it b) ss,.bl (ng != QhC.isSome),0,0,0,0,0,0,(ai.trans ac).trans ag,(ae.trans af).trans ah,⟨n,S1,L,z⟩,⟨_,ho,rfl⟩,⟨_,ha,rfl⟩,⟨_,aa,rfl⟩,[.lst (L.map Xb),.dct []],z.2.2-z.2.1,yz Q5,(yy,o.push x,i+1,j,g,c,d),(yy,i-1,j,o.push x,g,c,d),(yy,i-1,j,o.push x,c+1,0),(yy,i,j-1,o.push x,0,d+1),xs++ys,w1++w2,st.trans (Stp.upd hn),r.toList++Qf9.drop m',opA an,ns.take QB3,ng != decide (r∈rs),n::ns,lo-hi,lg us<lg vs,ks.map λk=>D.tup Qk0,its t n (its t c Qz2),hc rfl,evit F G it,call Q22 (.ref a::us),cE k elt gens sc cpos,Xr h L,Xla st,Xjc I.sr Qs,Xgn hA ma hB Q0 Q0 ?_,Xdt m,Xdo h,Xd4 nb,0,0,0,0,0,0,0,Xbl X.N QK2,Xa9 h3,Vgc Q35 Qi9,Vff ..,Vd (Va (Vjh L hd ?_)),Vcu .Add Q35 (.ref b),Uf QJB,T0.at (Va (T1.at ?_)),S++QH9,LstA X.K Da,List.take_sublist _ _,I.hok b u q,I.cne x c e,F.args_tuple_lt_2 _ _,ExS X pc σ ρ H yw r,.yield (yy,z.2.1+1,0),.str x,.ref L.heap.objs.size,.nx L,.int (w3 a),.inl z,.inl h,.cons Q6 Qi,.Constant .none j pos,!xs.isEmpty,!t.led && !es.isEmpty,0,0,0,0,0,0,⟨rfl,λ_ _ _ _=>rfl⟩,⟨rfl,l,rfl,c2,c4,c5⟩,⟨hl,h⟩,[O.lst []],[L,x1,x2,x3,x4,x5,x6,x7],∀v,(x,v) ∉ binds,∀q∈kvs,Lof L q.1,λy hy=>hT y hy x hx,two L ha hb I nb rfl,sliceAdjust l yy c n,o++b.extract j (j+k),keywordEach [] X.env,(by show Qn3<=_;calc ak),(by rw[Vg3];calc Va3 lb),Va (Ved (Ul ?_) Q27),Q26.map λe=>Xc6 e.2,OkP X pc σ ρ H QzD,18446744073709551616,.int ((a+1:Nat):Int),.frz (.blt .list Qf),.cons (.ret QS) .nil,(Xa4 c rfl).trans ?_,(#[]:AV)++vs.toArray,⟨target,iter,ifs,0⟩,⟨by omega,by omega⟩,⟨_,rfl,r⟩,⟨_,rfl,by omega,h4⟩,⟨_,keep b o' e1 hm⟩,⟨_,H,I.kept k,?_,q⟩,⟨I.sr.upd hT,st,?_⟩,[yz QE2,yz Q5,yz QlD,y],[t1,t2],[Xb []],[.ref p],λz=>e (h1.trans z),λm hm=>?_,0,0,0,0,0,0,0,λenv S=>pe b env S,λL=>?_,yz c,x::y::z::r,x.above y c (Vc2 h),storeName X.env x u,seqItems? Q35 >>= _,rd.mono aa,qs.map QVE,qs.any λq=>Vdh q p,q+z.2.1,o.push Qv4,o.push QH5,mergeAt' i,lg x,kdD S x,kat b 0,kat a k,k==0||k==c,k ≥ 2^63,items.isEmpty||k==1,intBits_le_64 h1 h2,evs F G es,ddL QU6,chs 16 1 2,(by simp![L]),0,0,0,0,0,0,(by let:=L.units;omega),bs.map Ve4,below xs j,af.trans L,Yx (xs:=[]) rfl rfl,Xq Qe1 QBB,Xeu h H,Xdr X.N N2,Vv.mp L,Vk.mp e,Vd (wpAny_throw ?_),Vad ?_ Q77,Uu L,Um h,Ud es.size,Ud (runEnd m i+1-i),S++L,S'.take QF,QmD.extract q (q+m),QmD.extract (p+k) q,K w.params,I1.inv.hok.fresh le,I1.inv.hok.fresh Qa,FT T G k f,F.args_zip_next_1 _,2*x.1+x.2.1+x.2.1+n,.tup ds,.tbl ps,.some m,.refl _,.ref fa,.ref C0,.nx QP4,.lst es,.int aa,.int (i-j),0,0,0,0,0,0,0,.int (i+j),.fro [],.cons t it ifs .nil,.cons s ss,.con ds,.asg Qq0 (.pop0 QD),.UnaryOp .Not a pos,.Constant Q91 j pos,.BoolOp .Or QPF pos,.Attribute ox nm ap,(zs.filter p).map f,⟨hp,gs,dw,tk+1,os⟩,λk=>Xcv k.reverse,λenv S=>.ok Qs1 S,(·.setIfInBounds j u),upd H Qu (.lst []),t.place.getD i 0+1,sizeAbove wanted-1,setEntries a >>= _,s.heap.objs.size+4,ow.getD QXI (yz 0),hB.kp.mem ma _ Q58,h m st hB m1 m2 m3,fieldsOf Q20 >>= _,decide_eq_true rfl,(by rw[Vn,aa];calc hi),0,0,0,0,0,0,boot_heap w.params,al.trans QgD.toMon,Ud clsNames.length,U.drop k++V.take m,RDs.mono' x _ _ h2,QV.set a (Xb n[t]),QB0.push (itO b l),L.heap.objs.size+3,L.heap.objs.size+2,L.heap.objs.size+1,I.inv.hok.fresh aa,.type "ValueError",.Slice lo hi yy p2,.BoolOp .And QMD p,(z++[x]).map D.int,((sIx n n hi:Nat):Int),⟨o,h⟩,⟨m,m1,by omega,e⟩,⟨i,j,rfl,rfl,rfl⟩,⟨hi,λx H' y=>?_⟩,⟨h.1.1,h.1.2,h.2⟩,⟨_,af,rfl,nl,rfl⟩,⟨?_,λp hp z=>?_⟩,⟨4,rfl,by decide⟩,⟨2,rfl,by decide⟩,{ A with handled:=yy},[.fro QW],[.ded],λx=>Qw.set i Q2B,λj=>ow.getD j yy,λi j aa hj e=>?_,(λi j _ _=>by omega),λ_=>T.pf.calm h0,λ_ _ z=>z.pre ab,(· == b),yz Qe,0,0,0,0,0,0,0,xs.zip ys,(x,.free),upd H x o,u::us,st.map Xb,sc.names.lookup x,r.ob n a ob h1 h2,qp.map QT,q+z.2.1-(z.2.2+1),ltL xs ys,lo+hi,kp b u hb,k < -2^63,forIn _ _,field Qr3 3 >>= _,field Qr3 2 >>= _,field Q20 1 >>= _,field Q20 0 >>= _,decide_eq_false L,call f us,c1.extBut _ _ L e,(by rw[r.len];calc b),(by let:=L.2.1;omega),bubble QJ i (i-j),Xn h2 Xba,Xhg a b Qe5 i QWD,0,0,0,0,0,0,Xfu _ _ _ _ _ _ _,Xdg a b Qe5 Q5H j,Xcd z.2.2,Xbl N QK2,Xbl N (Xar z.2.2),Xb3 c,Xas ic iw,Xaj hs h1,Xae kvs k,Xab _,X07 I.inv ho f hx,Vr aa,Vc4 ab ?_,Va (m:=Vcl _) QQH,T.obj _ _ t5 b hb,Stp.upd L,PySem.W.clsIn K C,PF cm F G fns gns,Option Unit×Unit,L.extBut _ _ e1 q,L.extBut _ _ e1 e,L.calm h1,I1.inv.pin QJ1 Q9,<-contains Qe Qq2,.tail _ L,.ref g5.objs.size,.lst (ws.set j v),.int k tk,.done Qu6,.done (yz (),z.2),.BoolOp .Or QMD p,(Xf4 ic).trans ?_,(Xf4 hc).trans ?_,((QvJ.toNat:Nat):Int),((Q6H.toNat:Nat):Int),⟨hg,rfl,jj _ Q0⟩,0,0,0,0,0,0,0,⟨I4,I3.sr,I3.er⟩,⟨?_,λi d e=>?_⟩,[O.lst Q44,.lst QUF],∀i,i<m->b i=yx,yz o,yz m,x∈ys,pth t.mask QG0 n,pickOrder QU9 es,p.append_right _,ns.map WData.int,nS w,lg own,he _ rfl rfl QO4,gcR S (.ex n S1),e3.trans e4.symm,decide_eq_true z,d==Vbn,call Q22 (v::us),(by rw[g1.sz];omega),(by let:=hb.1;omega),bits h,beq_iff_eq.mpr c,bdy d_law.body 2,assign QdF X.env,Xo S x,0,0,0,0,0,0,Xfb h2,Xb9 h1,Xb l,Xaz h1,Xar sc,Vm m its.toArray,Veo QB,Vdj xs,Vd Q70,Vaa g5.objs.size,U1 Q20,S++[.lst (x++y)],Qk8.probeStart h,PIE X pc σ tg R,P4 L x1 x2 x3 x4,P3 L x1 x2 x3 x4,P2 L x1 x2 x3 x4,P1 L x1 x2 x3 x4,P0 L,P0 L x1 x2 x3 x4,L++[y],C.keeps I.inv.bk,B++Qt7,.var 8,.ref c,.own x,.own a,.nx e2,.lst xs.dropLast,.int n,.int (i^j.toNat),.done (yz (),()),.bin .add Qs8 Q4,.Name "sorted" p,.IfExp c a b pos,(L b hm h1 h2).1,0,0,0,0,0,0,0,⟨p4,q4⟩,⟨o,a,c⟩,⟨hg,rfl,L _ Q0⟩,⟨H,I,q⟩,{s1 with heap:=h' },{s' with heap:=h' },[.type T1,.type T2],∃u,H a=yz Qz0,λx=>x.1.isSome,λx hx y hy=>?_,λx L=>hf x QIA,λx L _=>hb x L,λv _=>v=.bl yx,λk=>!k.isEmpty,λk L=>b16 k Q0,λi hi Q' L=>?_,λhq=>?_,λh1=>?_,λenv S=>tst Qv,λb z=>aB0 z Q9,(·.push u),z.map Xb,vs++[v2],so.free x hx hf,setItem ux uy u,s.heap.push Q40,0,0,0,0,0,0,p.mem_iff.mp q1,p+x,p+Ql+QJF,ne b _ z,n=Yi Q48,kdD S1 d,k+2,hn b o e,hT o' e1,h1.symm.trans e,(h1 λz=>nomatch z),(cnt n k.toNat:Nat),(by simpa using x1),(by simpa using q3),(by simpa using hv),(by simpa using hu),(by simpa using hj),(by simpa using c'),(by simp[Xbi,h,U7]),(by simp[Vn];omega),(by rw[h.sz];omega),(by rw[Vg];calc hl),(by rw[Vcy];calc h),bB b s o,b.extract k QWD,b+2,ag.empty x c hm,a.toList.drop q,a.toList.drop p,Xvw m (Xro b l),Xk1 rfl ht h2.2,Xdg a b (o) i j,Vv.mp hb,Vk.mp hx,Ve _ Q25,Vd1 L t1,0,0,0,0,0,0,0,Vcx s'.heap QaC,Vco.mp L,Vaj.mp q,Vag.mp h,Va4 ho hd ft ?_,Va (Vgw hi Q70),Str×Pos,S'.take QF++[o],Qk3->BM mg base,Option V,Itz K k1 k2 a b,I1.seqB e rd rv,I1.inv.ok.hd hc,I1.hok.fresh Qa,I.ok.noex b o e,I.inv.hok a _ L,.zpp s t,.yield (yy,t+n),.tup Qy5,.tup Qt7,.ref QcE,.ref QWH.length,.ok d S',.lst Qa1,.int i t,.frz QzE,0,0,0,0,0,0,.ext (ExcO C p),.error e,.empty Q4H.j yy,.cmp .ge Q6 QX1,.cmp .eq QbB QQ,.builtin "repr",.bl (wi d 0 15),.bl (chn lt xs),.bl (!r),.aset Q6 QS Qg7,.Tuple es k pos,.Name "range" p,.BoolOp op ys p,(ns[0]?).getD 0,(n:Int)-(i:Nat),⟨x,p,rfl,h2.2⟩,⟨l,hl,rfl,rfl⟩,⟨e,by omega,q⟩,⟨_,rfl,Vd QL4⟩,⟨_,_,rfl,p,p'⟩,[yz Q81,yz QyD,yy],[d,.int 0,.int 15],λx=>wi x 0 15,λd=>D.tup Qd6,(λ_ z=>nomatch z),λ_ _ _ _=>rfl,λ_ _ _ _ n=>n,(yy,u,v),(yy,l,r),t.probeStart h,sr3.stop I3 g1,runEnd m i-i+1,rnd m 13 (i,q),kat QJ (p+m-1),execs st X.env,eval Qh7 X.env,0,0,0,0,0,0,0,(by simpa using z),(by rw[Xfj];omega),(by rw[L];trivial),(by rw[L];calc Ue),a::frs X.stack,Yq Q0 (Vs Qv1),Xha L.units op,Xha L.units o2,Xha L.units o1,Xel far ag one,Vdu _ _ _ _ hb,Uh (h.dep x) L,Ud (j-i).toNat,S++X++[.lst B],IsRange.new ..,I.inv.tuple s1,I.inv.pin p hp,.ret (.lst Qi),.lst (vs++[v]),.cst (.int 47),.cons Qs8 .nil,.cons Qs3 .nil,.cons Qq3 .nil,.cons QZB .nil,.cons QL0 .nil,.cons Q63 .nil,0,0,0,0,0,0,.cmr k n L elt,.call QP5 args,.blt .tuple Qy,⟨hg,.inr QDD⟩,⟨e,?_⟩,⟨aa,r,rfl,hr⟩,⟨_,hf⟩,⟨L,?_⟩,⟨H,I.tok _,q⟩,{s with heap:=h4},{s with heap:=h1},[O.dct []],[.lst QWE],[.int 47,.int 48],ρ++[p],ρ++[a],λDa=>LstA.ok,z.2.2.2.2.1-1,yz g,x.2.2.2.2.1+1,vNm y.1,vNm e,trk h H,setArr st Q39,rnd m r (i,q),q.1.map V.int,pre_splitW aa,p::ps,p+k,p+j,nx b,min (t-z.2) m,lg is,l.map g,l.foldl ddR L,ks.map (kD p),0,0,0,0,0,0,0,ks++[k],kat a (p+x-1),k-QiA,its Qk8 c Qr2,hO.as e,forIn its _ _,f v u,ddR L k,(by rw[z1];omega),(by rw[lr];omega),(by rw[Vy];omega),(by rw[L]),ask _ Q0 _ ?_,a.size+b.size,Xvt I e e2 rd,Xr e hD,Xo4 e,Xk5 z.1,Xh (i:=8) rfl,Xg5 T j,Xdf a b o i j,Xa7 l,Vm k.toNat xs,Vit _,Vgn _ _,Vfy Q04,0,0,0,0,0,0,Vf7 a b v' u',Vdo z,Vd this,Vcx s1.heap l,Vcx s'.heap l,Vcr Qr3 >>= _,Vcm _,Vbg _ L,Vap P w,Va5 QRD,Uv.mp q,Ut.mp h,Ut.mp L,S1++QH9,S++[.lst Qz6],S++[.lst Q44],QuB++ds,Qi5.most S1+1,P4 L x1 x2 x3,P1 L,L fr3,Itl K a,I.inv.kept k3,ForInStep Q66,.var 11,.type U,.tup ys,.some e,.rng es,.ref QZ,.ref (lg S+m),.ok QVB,.lst ws,.lst [.int k],.inl Qa,.exc c',0,0,0,0,0,0,0,.cst (.int 4),.cst (.int 2),.blt .repr Qz,.blt .list Qi,(#[Ui i,Ui j]:AV),⟨z,H,I,aa,q⟩,⟨w.2,ae w.1⟩,⟨vs,hD',ra'⟩,⟨rfl,rfl,on⟩,⟨L,r,rfl,hr⟩,σ.set i Q9N,(λq=>nomatch q),(λe=>nomatch e),λ_ _ _ e=>e,w3 a<(m:Nat),sr3.go I3 g1,ks.map V.int,ks.getD i [],kat xs (q+j),k4 b _ e1 nd,items.size-0,hQ r _ hg hr,fl=yx->cm=yx,evts F G ifs,eval o X.env,eval c X.env,0,0,0,0,0,0,ev elt env S,dc_some.mp z,call QP5 [u],below xs j+k,Yn x y z.1 S,Xw (i:=6) pp,Xit z.2.2 sc,Xgh xs r b v,Xdk (Yb QnE),Xcm r1 _ rfl,Vm k.toNat x,Vha a s.heap,Vgt (ep:Int),Ve6 tg Q20 u,Vcq ho hd ?_,Vcq ab aa ?_,Vai "0" ++ y,Va (Veu Q70),Ud Q6H.toNat,T.obj _ _ t5,St->Hp->Prop,S.set n .ded,S++[.st Qo3],S++[.exc 10],QA1.push Qh5,FT T G QB3 f,FT T G (k+4),Expr×LM×LM,.type "list",.rfl' d1.pot,.int (v/far),.cons rv QkH,.cons a .nil,.cons QwD Qf,.cons QA6 ss,.cons Q6 QL8,0,0,0,0,0,0,0,("max",yx,"max"),⟨o,h1,h2.1⟩,⟨o,e⟩,⟨o,e _ L,r⟩,⟨c,e3.symm⟩,⟨_,q⟩,⟨_,_,_,rfl⟩,⟨_,L⟩,[z.1,z.2],[yz d,yz Qb3,x],[yz QS2,yz Q02],[a,b],[Xb b],[O.lst B],[(x,u)],["thing"],λb u e=>?_,(· < ·),z▸hx,yz z.2,yz Qn1,yz QF2,yz QD0,yz Q86,yz Q81,yz Q21,0,0,0,0,0,0,yz (.ref 6),x.pre n a h,upd H p QnC,upd H l QfH,upd H a Qt1,st.trans aa,st.out h hn,ps++[(k,x)],p+i,(nm,T),na=yx->L=σ,lsz L one+k,lg C+1,k.map V.int,its Qk8 n p,iN0 Ue,i2 x L,i != 0,hp.blt _ Q2,h2.get I g2,h1.push Qy0,gNs is,g x,fs.lookup f,frs X.stack,e0.bs b o e,d1.trans d2,collect QqB,chs far L k,chs far 1 k,(by rw[ab];rfl),bs[i]?,bs.map V.bl,bs.map D.bl,a₀.size-t,am.trans a8,0,0,0,0,0,0,0,af.trans aa,ae.trans ab,ac.trans ae,ab.trans ag,a=b,a==Vbn,Xx6 hc,Xtj X Da ks,Xr q L,Xna hl,Xlj h.dep l,Xjr h3,Xjq st,Xi1 a b d e,Xh6 vs li L,Xfz hy,Xed hy,Xdx kvs r d,Xbl X.N own,Xb one,X1j J rd nf,Vi9 QP5 QO5,Vi3 hu,Vgt (T:Int),Veo Qe,Ve _ q,0,0,0,0,0,0,Vcw st,Vb8 QU3 env,Vb0 ?_,Us es X.env,Ud b.length,Ud Q1C,Ud (wN n+1),S++[o],S++[.lst L],S++Q73,L++its,I.lstR e rx,I.lsR h2 ry,I.lsR h1 rx,I.hok b u e,F ds S,C++QS4,2^63-1,2*x.1+x.2.1,(0,.none),.val e,.type "int",.tup (x++y),.rsk Qb5 Q6,.ret e,.ref e,.ref d,.ref L,.of k2,.mth k o es,.int w,.int b,.int L,.int 6,.inr z,.frz og Qp6,0,0,0,0,0,0,0,.frz e,.cst d,.cnt e,.call il Qi,.call ab Qf,.call aa Qf,.call L Q72,.brk e,.bl (rzL n),.bl (Xlr n),.asg QQ Q4F,.Return v p,!vs.isEmpty,!byT w,!byT w&&Qj3,⟨v,rfl,h1⟩,⟨u',r',?_⟩,⟨os,ae,aa⟩,⟨o,ho,L.1⟩,⟨hg,rfl,L⟩,⟨h1,h4,h5⟩,⟨e,he,rfl⟩,[yz QE2,yy,yy],[opC o1,opC L],[eval c X.env],λi hi=>?_,0,0,0,0,0,0,λb hb=>?_,λa b=>b=a,yz i,yz e,yl x H5 y5,x="sorted",upd H x o',sB w,rd.mono af,rd.mono ac,o.push Qb7,o.push QVD,newList [],ln _ _ rfl,lg k,l.map .int,kat QJ QbP,its t k' p,hw x QeC S,hn z,he _,h.dat look,h.2.2 s hs,h rs r1 r2,eval o env,eval c env,ev c env S,datFs L xs,(by simp![hx]),(by simp![hl]),(by rw[eq,q3]),b::l,a2 k k1 k2,_&&_,Xq Qe1 QfL,Xjx Xca Q2,0,0,0,0,0,0,0,Xh h,Xcs c=yz x,Vr z,Vez l e hb,Ved ?_ QL6,Ud n,Src.con xs,Qr.push QK,Qc4.map Xb,QZ0.hash k,Q7K.map Xb,P3 L x1 x2,Ne.symm hj,J.tuple hq,I.tuple hs,I.sr.adr e,I.seq e r1,I.pin p hp,Expr×Expr,A.deeper _,.yield Qu6,.str QFA t,.int (i/j),.int (i%j),.frz o Qp6,.frz .dct0,0,0,0,0,0,0,(.ex k S2:R D),.bin o a b,.asg Qh9 e,.asg QA0 e,(m:Int)=47,⟨w.2,rfl⟩,⟨w.1,rfl⟩,⟨v,?_,h2⟩,⟨rfl,fin⟩,⟨o,ho,hd⟩,⟨o,ho,hc⟩,⟨o,h1,h2⟩,⟨o,e,L.1⟩,⟨L,h1,?_⟩,⟨L q,rfl⟩,[.ref p,Xm n],[.int v],ρ'++[Da],λv h=>?_,λk'=>Vhr,z▸e,zs.drop i,xs.take n,xs.drop n,xs.drop 1,xs++x::ys,v::vs,topStub p,t.put Qn8,rwF fst16,rnd m r p,q+z.2.1-1,pc++[QJ1],min QbE c,lsz L one,kat a QiU,0,0,0,0,0,0,0,kat a QbP,kat a Q3S,k2 _ _ ab,j+1+k,its t 0 p,ite c t e,id hs,hall v V4,hP i v hv,grown QAH,frs outer,fc env S2,denote tb,d::ds,cts QU6 w,cne y c e,cm||Xtr k,ab y L hf,Xv aa,Xtu e,Xob e2 rx,Xjs h6 h3,Xh hj,Xee e,Xcv k,Xch h1 h2,0,0,0,0,0,0,Xcg QFJ _,Xbl N own,Xb3 c.val,Xb1 z.2.1,Xaj hs h3,X4 op,X4 o2,X4 o1,W.sub _ h,Vh0.mp hx,Vek.mp e3,Vdp QI0 y,Vd5 r,Vd h1,Vd (Vd h),Vcu .Mult,Vaa T,Va ?_,Uf lb,Uc ey,S1++X,QxF,Ne.symm z,Ne.symm e,N+min x 1,N+min 0 1,J.list k2,I.list g1,Fl.nx env,Expr×Pos,Addr×Str,.tuple qs,.some QxO,.rt x,.rt r,(.none,.none),0,0,0,0,0,0,0,.lst .nil,.isi a ts,.done QVB,.blt k es,.bl x,.bl t,(i:Int)<0,(a:Nat)+2,⟨u,r,?_⟩,⟨rfl,?_⟩,⟨_,q,hd⟩,⟨_,_,Xp⟩,⟨[a],[]⟩,⟨QwH,[]⟩,[.Name x py],ρ++[Da],λhs=>?_,λhl=>?_,λh2=>?_,λc4=>?_,λ_ z=>z,λL h=>h,yz D.non,ys.map f,typeOf v,sms ds h,0,0,0,0,0,0,pt S p k,ns[k+1]?,ne c _ z,mx _ Q58,mb _ Q58,m.2 p hp,ltL k k',kat xs j,kat xs i,kat QJ y,kat QJ x,ixN QR k,hf it Q9,hO.as lt,h2.get g,h.2 x hx,ga env S,(by cases q),ba x c h,af b o e,ae env S,ab i x e,aa _ QJB,Yq hj ?_,Xiq J q2,Xiq J q1,0,0,0,0,0,0,0,0,0,0,0,0,0,0,0,0,0,0,0,0,0,0,0,0,0,0,0,0,0,0,0,0,0,0,0,0,0,0,0,0,0,0,0,0,0,0,0,0,0,0,0,0,0,0,0,0,0,0,0,0,0,0,0,0,0,0,0,0,0,0,0,0,0,0,0,0,0,0,0,0,0,0,0,0,0,0,0,0,0,0,0,0,0,0,0,0,0,0,0,0,0,0,0,0,0,0,0,0,0,0,0,0,0,0,0,0,0,0,0,0,0,0,0,0,0,0,0,0,0,0,0,0,0,0,0,0,0,0,0,0,0,0,0,0,0,0,0,0,0,0,0,0,0,0,0,0,0,0,0,0,0,0,0,0,0,0,0,0,0,0,0,0,0,0,0,0,0,0,0,0,0,0,0,0,0,0,0,0,0,0,0,0,0,0,0,0,0,0,0,0,0,0,0,0,0,0,0,0,0,0,0,0,0,0,0,0,0,0,0,0,0,0,0,0,0,0,0,0,0,0,0,0,0,0,0,0,0,0,0,0,0,0,0,0,0,0,0,0,0,0,0,0,0,0,0,0,0,0,0,0,0,0,0,0,0,0,0,0,0,0,0,0,0,0,0,0,0,0,0,0,0,0,0,0,0,0,0,0,0,0,0,0,0,0,0,0,0,0,0,0,0,0,0,0,0,0,0,0,0,0,0,0,0,0,0,0,0,0,0,0,0,0,0,0,0,0,0,0,0,0,0,0,0,0,0,0,0,0,0,0,0,0,0,0,0,0,0,0,0,0,0,0,0,0,0,0,0,0,0,0,0,0,0,0,0,0,0,0,0,0,0,0,0,0,0,0,0,0,0,0,0,0,0,0,0,0,0,0,0,0,0,0,0,0,0,0,0,0,0,0,0,0,0,0,0,0,0,0,0,0,0,0,0,0,0,0,0,0,0,0,0,0,0,0,0,0,0,0,0,0,0,0,0,0,0,0,0,0,0,0,0,0,0,0,0,0,0,0,0,0,Xc0 L ik,X04 hb.1,Vv.mp h2,Vm k its,Vk.mp hy,Vk.mp hi,Vik.mp z,Vgz _ Q0,Vfx.mp h,Ve _ Q8Q,0,0,0,0,0,0,0,Vbg _ hq,Vab.mp h,V0.mp hp,V0.mp hk,Ut.mp hb,Q73++Q1N,P.zip vs,List Qh4,List QZ5,L.map QT,Itr lo n,Itd lo n,Hp->Prop,FT T G 7,.type id,.srs Q71,.rfl' hp,.ret Qw2,.ref q.2,.ref QPG,.ok d S1,.of hb.2,.list qs,.int n t,.int m u,.int QA2,0,0,0,0,0,0,.inr Q8G,.inr Q10,.inr Q0F,.inl QV2,.frz o v,.frz _ _,.frz QR4,.frz Q7M,.frz Q3E,.fro Q4B,.ex n S',.dct kvs,.con QWC,.cnt env,.brk env,.bool yw,.bl (!b),.and a b,⟨rfl,h⟩,⟨o,e,d⟩,[yz QJ0,yy],[yz QE2,yy],[w.2.2.2.1],[new,ov,iv],[O.lst QrC],[O.lst QG1],λ_=>yy,λS=>?_,x==n,x<=y,x a o e,tst QC0,s+1,ri d hd,ret Vay,rest Q0,0,0,0,0,0,0,0,(q.1,q.2.2),q+z.2-1,(p,n,v),na&&na2,mxf r n,max n m,m=nm,m-1,lo+k,lg m,lg l,lg hs+1,lg B,kat b k,kat a j,iP0 QG7,i==j,i+n,hs x Q9,hq q ab,hl _ Qa,hb c hc,hb b hm,hb _ m1,hQ L h',h.get e,0,0,0,0,0,0,(h,x),fiv m x,f0 b hb,(by rw[Vg]),ai z hz,ag z hz,ac x hx,ac d hd,aa b,a::b::r,([]:LR),Yi l,Xz1 y.1,Xvx b l,Xtw y.2,Xr q hn,Xr q hD,Xkg k l,Xkb P w,Xil x l,Xcz Q99,Xcc QT0,Xbg S k,Xbg S 3,Xa9 hok,Vv.mp z,Vjk _ _,Vht _ _,Veu QiO,Ve _ ho,Vds Qr3,Vcu QNG,Vbg _ z,Va5 QI0,V1 _ hx,V1 _ V4,0,0,0,0,0,0,0,Ut.mp q,Ud k,T y,Str×Vb,Str->OV,(R.ok · S),QrH/\P3,Qn2[i]?,P2 L x1,List α,L env S,Itt K a,.zpp es,.tup ks,.tup es,.stl Q6,.rng Qi,.ret QQ,.ref kS,.or a b,.neg Q4,.int 15,.int 10,.inr hy,.inr hx,.inr Q0,0,0,0,0,0,0,.inl hx,.fro w1,.fro d7,.dK kvs,.bool r,⟨xs,z⟩,⟨u,h1⟩,⟨t,?_⟩,⟨o,ho⟩,⟨k,?_⟩,⟨_,ai⟩,[new,ov,L],[.lst QnJ],κ×Vb,(· == yx),z▸hb,z▸V4,yz QyD,yz Qn6,yz QkD,yz QS2,yz QP5,yz QJ0,yz QE2,yz Q22,yx==yx,vs++us,us++ds,size+1,pc++pl,p+Ql+x,(ox,nm,ap),oD0 h2,oD0 h1,nB n k,lt x y,0,0,0,0,0,0,0,lt a b,kD p k,iP0 hn,ht x L,hf c L,hb b n,h x hx,h d Q9,gl _ _,f2 b L,e4 q L,ddL rs,(by rw[z]),by rfl,b0::su,aa c z,aa _ z,Yi Qd4,Xzz st,Xxl h0,Xwp h1,Xt9 hl,Xry h1,Xrp lS,Xr9 ..,Xr8 h1,0,0,0,0,0,0,Xpl xt,Xpf aj,Xm Q7K,Xjo ks,Xf3 h5,Xe8 hz,Xe8 hy,Xe8 hx,Xd5 hx,Xd1 it,Xcn k2,Xcn h1,Xck ns,Xcc Qv,Xb4 st,Xb QZI,X++QmR,Viq ?_,Vha ..,Vh7 hA,Vg9 h1,Vdx ha,Vdo hu,Vdn ?_,Vd5 ok,Vd Q62,Vd Q17,Vca la,Vca aa,Va3 lb,Va3 hb,Va QmN,Va Q70,V9 QUP,U4 _ z,Str×V,0,0,0,0,0,0,0,S++[a],S++Qu7,S++QlR,S++Q1N,QxF+m',QUH=yx,QTH=yx,L++[u],B++QY8,.var x,.tup _,.tbl q,.str i,.str b,.str a,.ret v,.ref r,.ref b,.ref T,.of hv,.not a,.lst _,.int x,.int t,.inr h,.inl q,0,0,0,0,0,0,.glb L,[yz d,yy],[v,u],[v,ov,iv],[.tup []],κ×V,(· == c),y::zs,xs=ys,x=y,(x,y),(x,c),vs++L,vUn e,vNm y,v%far,t+n,rwF n,rwF m,q+z.2,q+k,q+i,q x,p+m,nl-np,n-h,(n,k),lns n,lg fs,lg bs,k-1-i,k+Q8B,k+4,k+3,j-1-k,i-k,0,0,0,0,0,0,0,(i :: ·),h-v,h+u,h+1,fo3 m,f y,c+n,b+a,ab ha,Yi ks,Xzk e,Xxb n,Xv h3,Xrd g,Xq0 h,Xpa L,Xiv e,Xiu t,Xiu e,Xi5 l,Xhy e,Xfv _,Xfs p,Xf8 e,Xee v,Xee t,0,0,0,0,0,0,Xdk L,Xd5 q,Xcs c,Xck _,Xbj m,Xbb L,Xb3 k,Xad d,Xa7 r,X1 op,X0x i,Vu hb,Vr ab,Vjf _,Vh1 L,Vei q,Vdc _,Vcw s,Vaz s,Um e',Uf ha,Uc hp,Uc e2,H x,H a,AR Da,.ok f,.bl y,[opC o2],[.tup L],[.ref n],[.ref l],[.int j],[.int c],[.int 1],[.fro _],0,0,0,0,0,0,0,(·.key),(·.2.2),yz y,yz u,yz k,(yy,0,1),x=nm,x::k,uA a,rc _,qm b,(q,m,v'),p+Ql,o++c,o++_,n'-c,mA f,lo-k,lo-i,lo+i,kD p,k<=0,id L,i<=j,ht S,hd _,0,0,0,0,0,0,hT w,f9 k,b::r,aa _,a<=b,a::l,a++b,Yj d,Yi n,Xh L,Xb a,Vu q,Vj 1,Vd q,V9 f,Um L,Ui x,Uc L,U4 _,P3 L,P2 L,L<=i,2^64,(-1:Int),(#[]:AV),∀(I:S0 X pc σ H s ρ S env),0,∀(I:Inv X pc σ H s),0,∀{X:Cx}{pc:LA}{σ:L2.St}{H:Hp}{s:Vc}{ρ:LR},0,∀{prog:Vz}{w:V7}{A:Uq}{E:VP}{s:Vc},0,∀(h:ev F G a env S=.ok x S1)(h2:ev F G b env S1=.ok y S2),0,∀(hO:Ord R)(hA:Xgl prog w A E s κ R mem)(ma:∀x∈a.toList,mem x)(mb:∀x∈b.toList,mem x)(sa:a.toList.Pairwise Qm1)(sb:b.toList.Pairwise Qm1),0,∀{P1:α0->α1->α2->Prop}{P2:α0->α1->α2->Prop},0,∀(rd:RD X.K ρ H d v)(rv:RelV v u),0,∀{α:Type},0,∀{P0:α0->α1->α2->α3->Prop}{P1:α0->α1->α2->α3->Prop}{P2:α0->α1->α2->α3->Prop},0,∀(hu:X.A.units+200<Val),0,0,0,0,0,0,0,0,∀(T:TopOk cm F G fns gns X sc N),0,∀(D:ZAp z I O i j a b)(st:ZSa k1 k2 z I O i j a b n n s.heap)(ha:SqK k1 s.heap a xs),0,∀{Q2h}{κ:Vdy}{R:Vl->Vl->Bool}{mem:Vl->Prop},0,∀(hg:Glp st0 st)(hk:Vaz st0=κ),0,∀(hd:o.data=.set es ep t)(T:Tab t es.size)(hl:t.led = !byT w),0,∀(X:Cx)(pc:LA)(σ:L2.St)(ρ:LR)(H:Hp),0,∀(R:Vl->Vl->Bool)(W:List Vl)(a b:Array Vl)(N:Nat),0,∀{Q1h}{S:Sto}{env:En},0,∀(S:Sto),0,∀(hh:A.handled=yy),0,∀(ha:DE X a fa),0,∀(hc:X.calm=yx),0,∀{P1:α0->α1->α2->α3->α4->Prop}{P2:α0->α1->α2->α3->α4->Prop}{P3:α0->α1->α2->α3->α4->Prop}{P4:α0->α1->α2->α3->α4->Prop}{P5:α0->α1->α2->α3->α4->Prop}{G:Prop},0,∀(st:Stp X.K ρ ρ' H H'),0,∀{P0:α0->α1->Prop}{P1:α0->α1->Prop},0,∀(r:SR K bo ρ S H),0,∀(k:∀(n:Nat) a,n < ρ.length->ρ'[n]?=yz a->ρ[n]?=yz a),0,∀{pc:LA}{σ:St}{H:Hp}{s:Vc},0,∀{es:LX}{g:En->Sto->R (LD)},0,∀{e:Expr},0,∀{Q1h}{S S':Sto}{env:En},0,∀(P:Vz)(w:V7)(K:Vh)(mg:Str->OV)(base:Heap),0,∀{P:Vz}{w:V7}{K:Vh},0,∀{pc:LA}{fp:LR}{tn:Nat->Heap->Prop}{src:Src}{J:L2.It}{t:Tg}{g:En->Sto->R Fl},0,∀{F:Fn}{G:LD},0,∀{a:Addr},0,0,0,0,0,0,0,∀{G:Prop},0,∀(hf:X.env.frame=yz X.env.locals),0,∀(h1:-QUB<=lo)(h2:lo<2^62)(h3:-QUB<=hi)(h4:hi<2^62),0,∀(rx:RD X.K ρ H x vx)(qx:RelV vx ux)(ry:RD X.K ρ H y vy)(qy:RelV vy uy),0,∀(er:ErrOk K)(hb:∀x∈blts,mg x=yy)(hg:∀(k:Nat) nm,gns[k]?=yz nm->∃u d,mg nm=yz u/\G[k]?=yz d/\∀ ρ H,∃v,RelV v u/\RD K ρ H d v),0,∀{Q:Bool->Vc->Prop},0,∀{A:Uq}{R:Result->Vc->Prop}{I:Addr}{fp wr:LR}{G:Array GenState->Array GenState->Prop}{n:Nat}{P:Nat->Vb->Prop}{St:Nat->Vc->Prop}{ld:Bool},0,∀(hN:X.N.Nodup)(hi:X.N[i]?=yz x),0,∀{key:Vl}{xs:Array Vl}{q n h:Nat}{st:V8}{Q:Option Nat->V8->Prop}(hk:Vaz st=κ)(mk:mem key)(hq:q+n<=xs.size)(mx:∀x∈xs.toList,mem x),0,∀(x:Mon K ρ ρ' H H'),0,∀{es:Array Qd0},0,∀{Rr:Result->Vc->Prop}(hR:∀f s',OkS X pc σ ρ H yw r0 f s'->Rr Q0g s')(hE:∀e s',cameBackBy Q1 X.A X.env QPJ e s'->Rr QbQ s'),0,∀{prog:Vz}{w:V7},0,∀{P0:Prop}{L:Prop}{P2:Prop}{P3:Prop},0,∀(hu:X.A.units+1<Val),0,∀(hi:evit F G it env S=.ok Qj9 S)(hl:QT6<=big),0,∀(st:Stp K ρ ρ' H H'),0,∀(hs:s.heap.IsSliceOf sl vl vu .none)(pl:Vfr vl lo)(pu:Vfr vu hi),0,∀(hn:QV3=d.np:=by rfl)(hg:d.gc=true:=by rfl),0,∀{ps:List Qc0},0,∀{QKh}(hb:DE X b fb),0,∀{K:Vh}{ρ:LR}{H:Hp},0,∀(o:Array Vl)(i j:Nat),0,∀{fns:LF}{gns:LS},0,∀{QCh}{W:List Vl}{a b o:Array Vl}{i j N g c d:Nat}{st st0:V8},0,∀(o:Array Vl)(i j g c d:Nat),0,∀{pc:LA}{σ:L2.St}{H':Hp}{s':Vc}{a C:Addr}{Q:Unit->Vc->Prop}{E:VP}(I:Inv X pc σ H' s')(hs:X.stack=X.env::X.outer),0,∀(hd:o.data=.dict es ep),0,∀{P3:α0->α1->α2->α3->Prop}{P4:α0->α1->α2->α3->Prop},0,∀{body:En->LD->Sto->R (LD)},0,∀{a:Array Vl},0,∀(k:∀b u,h.get? b=yz u->h'.get? b=yz u),0,∀(hb:∀x∈blts,X.mg x=yy),0,∀(hO:Ord R)(hA:Xgl prog w A E s κ R mem),0,∀(hB:Bs κ P a₀ p Q0C st),0,∀(h:Jo R W a b o i j),0,0,0,0,0,0,0,0,∀(h:Jh R W a b o i j),0,∀{k a b a' b':Nat}{ds:LD}(h:∀d∈ds,Sm a b d)(hl:QV3<=k)(ha:a+1<=a':=by decide)(L:k*QzP+3<=b':=by decide),0,∀(prog:Vz)(w:V7),0,∀{R:Vl->Vl->Bool},0,∀(R:Vl->Vl->Bool),0,∀{Q7h}(xs:List α),0,∀{P0:α0->α1->α2->Prop}{Q5h}{P3:α0->α1->α2->Prop},0,∀(h:Heap),0,∀{P0:α0->Prop}{P1:α0->Prop},0,∀(lf:Bool)(k:Vl)(xs:Array Vl),0,∀(h:Rn κ R a₀ t n st)(hn:0<n){Q:ForInStep Q66->V8->Prop}(hQ:∀L,Rn κ R a₀ Qqe 0 L->Q QRQ L),0,∀(S:SetR prog w s.heap a ld ps)(hk:QM.is s.heap k x),0,∀(lo hi:Option Int),0,∀{Q0h}(k:∀b u,s.heap.get? b=yz u->h'.get? b=yz u),0,∀(ho:s.heap.get? a=yz o),0,∀(elt:Expr)(gens:List Vb1)(scope:U2),0,∀{Qzg}(hl:∀n p a,look n=yz p->ρ[n]?=yz a->∃as,Reads s.heap Qe p as/\∀b∈as,Off X.K H b),0,∀(ha:DA X QBA g)(hs:Us QBA X.env=Qx1::Us es X.env),0,∀{h:Heap},0,∀{Q7h}[DecidableEq α]{f:α->D}{g:α->Vcb}{k:Nat},0,∀(G:FnD cm X.prog X.w X.K X.mg X.base k g fd ps F)(hr:RoomC cm k X.A)(hb:Binds X.K fd ps []),0,∀{get:Sto->Nat->Option QZ3},0,∀(ha:DE X a f)(hs:Us [a] X.env=Qx1::Us [] X.env),0,∀(hE:∀x s',XPd X pc σ ρ H n S' x s'->E x s'),0,∀(K:Vh)(ρ:LR)(H:Hp),0,∀(items:AV)(n:Nat)(dd:Option Addr)(sl:Array OV),0,0,0,0,0,0,0,∀{t:Uz}(T:Tb t),0,∀{k1 k2:Bool}{z I O i j a b:Addr},0,∀{env:En},0,∀{Q0h}(hf:∀b∈fp,Xcb X pc H b),0,∀{ρ':LR}{H':Hp},0,∀{i:Nat},0,∀(x:Stp K ρ ρ' H H'),0,∀{a:Ex}{e:Ex}{xs:LD}{n:Nat}(h1:ev F G a env S=.ok QJ0 S)(h2:ev F G e env S=.ok Q3P S),0,∀(hu:A.units<Val)(hx:Vbx s.heap x us.toArray),0,∀(a:Addr),0,∀{xs:List α},0,∀{mg:Str->OV},0,∀{QHh}{a:Expr}{fa:En->Sto->R D},0,∀(e:Expr),0,∀{n:Nat},0,∀{Qhh}(hx:Loc X.env.scope x)(hf:X.fn x=yx\/X.env.scope.names.lookup x=yz .local),0,∀(sr:SR X.K Q11 ρ S H)(J:Inv X pc σ H s'),0,∀(mu:Mut Qxf)(he:e=x\/H e=yz QzO)(k:∀b u,b≠e->h.get? b=yz u->h'.get? b=yz u),0,∀(hT:∀x∈zs,∀y∈zs,X3 t x QCc=yz QlI),0,∀(hg:gens=Qw1::gens.tail)(hi:DI X tg iter fi)(hs:∀x,Vce iter X.env x=pure x),0,∀(X:Cx)(pc:LA),0,∀{st:Stmt}{f:Addr}{oc:Vb}{od an:Option Addr}{ab:Array (OV)}{kV aa pm L ct:Vb},0,∀{α β:Type},0,∀{v:D}{ss:Sts}(h:ev F G e env S=.ok v S1),0,∀{Q:VP}{E:VP},0,∀{P2:α0->α1->Prop},0,∀{a b:Ex}{x y:D}{S2:Sto}{Q3h},0,∀{a b a' b':Nat}{ds:LD}(h:∀d∈ds,Sm a b d)(ha:a+1<=a')(hb:QV3*QzP+3<=b'),0,∀{Vaz:Str->Option Vfg}{x:Str},0,∀{QAi}(h0:0<i)(hi:i<=a.size)(j1:1<j)(hj:j<=b.size)(hN:i+j+N<=a.size+b.size),0,∀(q:∀env S,g env S=f env S),0,∀(ho:DE X o fo)(hi:DE X i fi),0,∀{Qvh}{xs:LD}{vs:LW}(h:RDs K ρ H xs vs),0,∀{f:En->Sto->R D},0,∀{Q:LV->Vc->Prop},0,∀{Q6i}(ae:Gl X "isinstance")(hg:Gl X nm)(hok:Xal nm=yx){QKh}(aa:X9 a=yx),0,0,0,0,0,0,0,0,∀(fns:LF)(gns:LS),0,∀{l:Option Int}{c:Int},0,∀{QNh}(h:XPd X pc σ ρ' H' n S' x s'),0,∀{M:Model}{A:Uq}{E:VP},0,∀(n:Nat),0,∀(l:Option Int)(c:Int),0,∀{pc:LA}{s:Vc}{σ:St}{H:Hp},0,∀(es:Array Qd0),0,∀(b:Bool){l:Addr}{items:AV},0,∀(a:Array Vl),0,∀{S:Sto},0,∀{Qci}{σ:L2.St}(r:ER K ρ H env σ),0,∀(hs:s.heap.IsSliceOf sl vl .none vs)(pl:Vfr vl lo)(ps:Vfr vs QCL),0,∀(hl:Xom b s.heap l items),0,∀(hK:K.In s.heap)(e:ExcO D y s.heap),0,∀(X:K.In h)(Gm:h.Ns Uw mg),0,∀{Q:Option Nat->V8->Prop},0,∀{Q:Array Vl->V8->Prop}(hk:Vaz st=κ)(ha:0<a.size)(hb:0<b.size),0,∀(hi:env[i]?=yz QiJ)(hl:QcE=lg S)(L:ev F G e env Qg0=.ok v QVH),0,∀(hd:o.data=.set es ep t),0,∀(h1:findIn K QQ5 nm=yz QCF)(h2:specialIn K v "__get__"=yz QsR),0,∀(body:En->LD->Sto->R LD),0,∀{params:Vfa}{body:Expr}{scope:U2},0,∀{QZh}{ld:Bool}{Qth}{k:LI}{x:Addr},0,∀{K:Vh}{QSi}{Qli}{Qxh}{d:Df}{nm:Str}{ar:Nat}{fl:Bool}{st:Stmt},0,∀(x y:D){QIh},0,0,0,0,0,0,0,∀(sc:U2)(N:LS),0,∀(hs:X.env.scope=sc),0,∀{ds:LD}{env0:En},0,∀{QJh}(hs:QRO=yw)(ho:s.heap.get? d=yz o)(hx:o.ExactDict){Q1i},0,∀(hi:Xk0 s.heap it d i es.size ep)(L:s.heap.get? d=yz o){Q1i},0,∀{loose:LS}{XP:QEc->Heap->Prop}{YP:V7->Heap->Prop}{d:DefRec},0,∀{k:Nat},0,∀{es:Exs}{ds:LD}(h:evs F G es env S=.ok ds S1)(hl:QV3<=1000),0,∀{Qxh}{st:Stmt}{N:LS}{fl:Bool}{d:Df}(h:MD fns gns st N fl d),0,∀{QPh}(r':SR K bo ρ' S' H'){Qqh},0,∀{P0:Prop}{P1:α0->Prop},0,∀(so:ScOk X.env.scope sc X.N own),0,∀(k:Nat),0,∀(hl:∀x∈a.toList,LeK R QQL x),0,∀(h:Rn κ R a₀ t n st),0,∀(L:RD X.K ρ H d v)(rv:RelV v u),0,∀{p q:Vz}{loose:LS}{Xt:Vc->Bool}{Q7h}{Yf:Vc->α}{Ya:V7->α},0,∀{Qzg}(hx:∀(i:Nat) (x:Addr),xa[i]?=yz x->SqT X.K H x Qi8),0,∀{n i:Nat}{it:It}{elt:Ex}(zs:LD),0,∀{P1:Prop}{P2:Prop},0,∀(hu:A.units+1<Val),0,∀(hl:∀A':Uq,A'.units<=A.units+1->Lx prog w A' s us vs b),0,∀{QDj}{Qfi}{x:Str}{v:V}{u:Vb}{Q:Unit->Vc->Prop}{Q0h}{Qhh},0,∀{Q4i}{Qfi}(h:i<a.size),0,∀(v:Expr)(p:Pos)(ts:LX),0,∀(he:ds.map yz++Vm Qye yy=env0)(hd:QV3=np)(hn:nasgs b=yx),0,∀(P:Nat->En->Sto->Prop),0,∀(L:s.heap.IsTupleIter it t i)(ht:s.heap.IsTuple t items),0,∀{S S1:Sto},0,∀{E:VP}{QGj}{x:Str}{u:Vb}{pos:Pos}{Q:VP}{Q0h}(hg:Gl X x),0,∀(hl:∀x∈b.toList,∀y∈a.toList.drop Qm7,LeK R x y),0,∀(he:ds.map yz++Vm QXC yy=env0),0,∀(L:H p=yy)(sr:SR X.K Q11 ρ S H)(rd:RDs X.K ρ H xs vs),0,∀(s:Vc)(H:Hp)(sc:U2)(L:List Qh4)(C:Addr)(own:LS)(fp:LR),0,∀{pc:LA}{σ:L2.St},0,∀{p:Bool},0,0,0,0,0,0,0,0,∀{QWh}{Qli}{base:Heap},0,∀{Q7h}{P:α->Prop},0,∀(ma:∀x∈a₀.toList,mem x),0,∀(ht:∀x,top x=yx->X.fn x=yx),0,∀(he:DE X e f),0,∀{QVh}(N:LS)(qual:Str)(scope:U2)(f:Addr)(cd:Vb)(A:Uq),0,∀{xs:LW}{us:LV}(h:Vals xs us),0,∀{t:Tg}{src:Src}{J:L2.It}{fp:LR}{tn:Nat->Heap->Prop},0,∀{QBh}(hb:SqK k2 s.heap b ys),0,∀(hy:Vbx s.heap y vs.toArray),0,∀(fp:LR)(tn:Nat->Heap->Prop)(src:Src)(J:L2.It)(t:Tg),0,∀(ae:∃o,X.K.lookup Vbn=yz o/\o.cls≠.type "list"),0,∀{ρ ρ':LR}{H H':Hp},0,∀{xs:Array Nat},0,∀{gens:List Vb1}{ifs:LX}{scope:U2}{cpos:Pos}{d:Nat},0,∀{tg:Expr},0,∀{kvs:List QZ5}{xs:List Qg1},0,∀{g':Array GenState}{t':Nat}{d':Drawn}{ch:LR}{Q0h},0,∀{Q7h}(l:List α),0,∀(zs:LD)(T:D->En)(p:D->Bool),0,∀(hu:A.units<Val),0,∀(h:ev F G a env S=.ok x S1),0,∀(h:Enc α f g k),0,∀(L:ItK k s.heap it t i)(ht:SqK k s.heap t items),0,∀{xs:LD},0,∀{t:Uz}{Qkh},0,0,0,0,0,0,0,∀{h h':Heap},0,∀{Qbi}{n m:Nat}(x:ZSa k1 k2 z I O i j a b n m h),0,∀{K:Vh},0,∀(h:pd d=yx),0,∀(h:DE X e f),0,∀{a b:Ex}{x y:Bool}(h:ev F G a env S=.ok QEZ S),0,∀{Quh}(hc:DE X c fc)(hm:lastMarks QW8 [b,c]=yw),0,∀(outer:List Env)(P:Vz)(w:V7)(H:Hp)(s:Vc)(Q:VK),0,∀(ha:DA X QX5 g)(hn:x ≠ "__name__")(aa:Qk=yw),0,∀{tf:En->Sto->R Bool}{Q3i},0,∀{Q0h}(h:SqH k X.K H a vs),0,∀(x:HOk P w H h),0,∀(r:Row p h k u),0,∀(kp:∀b items,Vbx h b items->Vbx h' b items),0,∀(hc:DT X c QW0),0,∀(ha:DT X a QQ6),0,∀{Q9i}(hi:i+1<a.size)(hj:j<b.size)(hN:N<=i+j),0,∀(hu:A.units+9<Val),0,∀(h1:Xcw t1=yz (n1,T1))(h2:Xcw t2=yz (n2,T2)),0,∀(b:Bool),0,∀(K:Vh),0,∀{X:Cx}{QPk}{it:Addr}{body:LM}{na:Bool}{QXh},0,∀{QDi}{W:List Vl}{a b o:Array Vl}{i j k:Nat},0,∀{Q9k}{ks:LL}{vs:LV}(r:RowsV p s.heap ks vs),0,∀{P0:α0->α1->α2->Prop},0,∀(hL:∀b S,lg b<=100->F il QMU S=.ok QPD S),0,∀(hF:Tks F f)(hp:Pot S p)(h0:env[j]?=yz QZU),0,∀{es:Exs}{ds:LD}(h:Cls es ds)(hl:QV3<=1000),0,∀{v:V}{u:Vb},0,∀{st:Stmt},0,∀{pos:Pos},0,∀{it:It}{b ss:Sts},0,∀{i j:Nat},0,∀{T:List Df}{G:LD},0,∀{QKj}{p:Nat}(h:Pot S p),0,∀{QEi}(W:List Vl)(a b o:Array Vl)(i j:Nat),0,0,0,0,0,0,0,0,∀{QCi}(A:Uq)(s:Vc),0,∀{P:PySem.Fin->Vc->Prop},0,∀(sc:U2)(x:Str),0,∀(s:Stmt),0,∀(m:Nat),0,∀(hd:pd d=yx){QIh},0,∀(h:∀x∈xs,P x),0,∀(h1:1<=k)(hk:k<=n){Q8i}(hs:DecS R QJ p k),0,∀(L:bdDs QF xs=yx),0,∀(H:Hp){Qji},0,∀{t:Nat}{QDh},0,∀(x:D){QIh},0,∀(X:Cx),0,∀(W:WalksS prog w A.in1 I fp wr G n P St),0,∀{Q8h}{Q2i}{P5:α0->α1->α2->α3->Prop},0,∀(m:Mem prog w h es ps),0,∀(i:Nat),0,∀(hx:∀y∈b.toList.take j,LeK R y Qv4),0,∀(hx:∀y∈b.toList.drop j,LeK R QH5 y),0,∀(hx:∀y∈a.toList.take i,LeK R y Qb7),0,∀(hx:∀y∈a.toList.drop i,LeK R QVD y),0,∀(hN:X.N[i]?=yz x)(hv:Vis X.env.scope x),0,∀(h:JK R W a b N o i j),0,∀(h:JJ R W a b N o i j),0,∀(L:s.heap.get? a=yz o),0,∀(L:Op2 X QjS QfY){Quh}(hm:Vdp QRD b=yw),0,0,0,0,0,0,0,∀{a b:Ex},0,∀{QZk}(T:Tb t)(hs:t.place.size=es.size),0,∀{QSi}{ld:Bool}{QZh}(e:h.get? a=yz Qi6),0,∀{Q:VP}{Qii}(L:Vbx s.heap y vs.toArray),0,∀{Q:OV->Vc->Prop},0,∀(ho:h.get? a=yz o){QTj}(sb:Vba a h h'),0,∀(hg:Gl X "zip")(hm:X.mg "zip"=yy){QRi},0,∀(e:∀o,h.get? a=yz o->h'.get? a=yz o),0,∀{x:Str},0,∀{m:Nat},0,∀{k:LI}{QZh}{Qfh}(hk:QM.is s.heap k a),0,∀{cm:Bool},0,∀{Qzg}(rv:RelV Q91 v')(ru:RelV Q02 u'),0,∀{Qzg}(h:Xo S d=yz xs),0,∀{D:Addr}{u:HO}{vs:LW},0,∀(h:DA X es g),0,∀(env:Vbs),0,∀(cm:Bool),0,∀{ks:LI}{vs:LV}(h:ItemsAre QZ0 ks vs),0,∀{h':Heap}{tk:Nat}{ks:LL}{xa:LR}{Qth},0,∀{Qck}{L:Bool}{ρ:LR}{H:Hp}{QZh}{o:O},0,∀{Q7h}{Qki}{Qfi}{x:α}(h:xs[i]?=yz x),0,∀(hO:Ord R)(sa:a.toList.Pairwise Qm1),0,∀{x y:D}{QKj}{b:Bool},0,∀{k:Bool},0,∀{b:Addr}{o:Obj},0,∀{R:Result->Vc->Prop},0,∀{Qek}(he:∀L,isTrue e X.env L=Q03),0,∀{Qci}{QKj},0,∀{QYh}{Q2k}{Qci},0,∀(r:DX K ρ H kvs xs),0,∀(nm:Str),0,∀(hq:∀q∈qs,Row p s.heap q.1 q.2),0,∀(h:OR K bo ρ H a o),0,∀(h:Bs κ P a p q st),0,∀{ws:LW}{its:LV}{ks r:LL}{Q9h}{Qzg},0,0,0,0,0,0,0,0,∀{e:Ex},0,∀{P0:α0->α1->α2->α3->α4->Prop},0,∀{ts:LX}{QAh},0,∀{ng:Bool},0,∀{Qck}{Qei}{src:Src},0,∀{QZh}{o:Obj},0,∀{P0:α0->α1->Prop},0,∀(x:α)(ys:List α)[Decidable QGO],0,∀(ks:LL),0,∀(hi:evit F G it env S=.ok Qj9 S1),0,∀(hi:env[i]?=yz QF1),0,∀(h:lstAt S n=yz xs),0,∀(f:En->Sto->R Bool),0,∀{ow:Array Qi0},0,∀{nm:Str},0,∀{l:LI}(h:∀x∈l,x.natAbs<1000),0,∀{X:Cx},0,∀{Qoi}{Q:Int×Int×Nat->Vc->Prop},0,∀{Qck}{Da:Addr},0,∀{QZh}{ld:Bool},0,∀{QWh}{QPk}(it:Addr)(lo:Int){QEj},0,∀{P3:α0->Prop},0,∀{P2:α0->Prop},0,∀(x0 x3 x4 x5 x6 L:Option D){QIh},0,∀(hx:xs[n]?=yz x)(hy:ys[n]?=yz y),0,∀(hs:∀i,get S i=yz zs[i]?){Qsi},0,0,0,0,0,0,0,∀(hk:k<=n){Q8i}(hs:SegS R QJ p k),0,∀(get:Sto->Nat->Option QZ3)(t:Tg),0,∀(ac:X.stack=X.env::X.outer){Qbh},0,∀(a b:Array Vl),0,∀{u:Vb}(r:RelV x u),0,∀{lo hi:Option Int},0,∀{es:List Qd0}(h:ElemsOf QZ0 es),0,∀{QVi}{t:Tg}{body:En->Sto->R Fl},0,∀{Q:Unit->V8->Prop},0,∀{Q:Option Unit×Unit->V8->Prop},0,∀{Q:Bool->V8->Prop},0,∀{L:Prop}{Qtj}{Qah},0,∀(s':Vc),0,∀(hk:Kds F L)(h1:1<=k)(h2:k<=16),0,∀{Qzg}(r:g env S=.ex n S'){QXi},0,∀{t':Nat}{Q0h},0,∀{le:α->α->Prop},0,∀{l:List α},0,∀{k:LI}{x:Addr}(r:QM.is h k x),0,∀{es:Exs}{QTh},0,∀{Quk}(mg:Str->OV),0,∀{Qmh}{A:Uq}{s:Vc},0,∀{QOh}{Qzi}{P3:α0->α1->Prop},0,∀{QNh}(hn:na'=yx->na=yx/\L=σ),0,∀{QGi}{P4:α0->α1->α2->Prop},0,∀{P3:α0->α1->α2->α3->Prop},0,∀{P1:α0->α1->Prop}{Qzi}{Qah},0,∀(xs:List Qg1),0,∀(rv:RelV v u),0,∀(p:Bool){QHi},0,∀(k:Bool),0,∀(k0:P0->L->P2->P3->P4->P5->G),0,∀(hm:36<=m/\m<=56),0,∀(h:ev F G c env S=.ok QFZ S1),0,∀(h:RD K ρ H d v),0,∀(h:KeepK a b p q),0,0,0,0,0,0,0,0,∀(env:En),0,∀(e:h.get? b=yz o),0,∀(H':Hp){Qji}{QHi},0,∀(F:FunAt K nm st),0,∀{na:Bool}{f g:En->Sto->R Fl},0,∀{Qnh}{P4:Prop}{P5:Prop}{Qah},0,∀{Qmj}(f:Addr)(fd:Vdv)(ps:LS),0,∀{Q7h}{Qki}{a k:Nat}(h:QR<=k),0,∀(outer:List Env)(s:Vc)(H:Hp),0,∀(ix:Vbv us xs)(iy:Vbv vs ys),0,∀(ht:Vbx s.heap t vs.toArray),0,∀(hl:Vbx s.heap l vs.toArray),0,∀(hk:Vaz st=κ)(hf:Vcw st=yy),0,∀(hf:-100000<far/\far<100000),0,∀(h:SrcR X.K ρ H src J){Qzg},0,∀{n:LL}(h:n≠[]),0,∀{d:Df}{Qcj}{v:D},0,∀{QQm}{Q8k}{H:Hp}{s:Vc}{QZh},0,∀{QNk}(hr:Ris xs),0,∀{QKj}(hd:∀xs,d≠.tup xs),0,∀{H:Hp}{a b:Addr},0,∀[DecidableEq α],0,∀(p:Nat),0,∀(hz:IsZ s.heap z I O f0 f1),0,∀(h:ev F G e env S=.ok x S1),0,∀(h1:P a)(h2:P b),0,0,0,0,0,0,0,∀{ss:Sts},0,∀{Qoi}{QZh}{o:O}{u:HO}{QPh},0,∀{QKl}(ht:a.size+b.size<=t),0,∀{P:Vz}{w:V7},0,∀{AR:Xgi}{Y:Cx}{Da it:Addr},0,∀(na:Bool)(f:En->Sto->R Fl),0,∀(k1 k2:Bool),0,∀(hok:HOk X.prog X.w H' h'),0,∀(hl:Lx prog w A s us vs b),0,∀(L:ev F G e env S=.ok d S),0,∀(F:Fn)(G:LD),0,∀{us:LV}{k:LI}(h:Vbv us k),0,∀{p q:Nat},0,∀{ns:LI},0,∀{l:Addr}{vs:LV},0,∀{fd:Vdv}{ps:LS},0,∀{f fa fb fc:En->Sto->R D},0,∀{Qzg}(h:Y0 S d=yz p){Qpj},0,∀{Quk}(ρ ρ':LR)(H H':Hp),0,∀{Qck}{QSi},0,∀{Qal}{QTh},0,∀{QYh}{Qci},0,∀{QIh}{QEj},0,∀{QHi}{Qji},0,∀(n:LL),0,∀(hu:X.A.in1.units+64<Val),0,∀(hn:QW5<100000),0,∀(hg:Gl X x)(hm:X.mg x=yy),0,∀(hd:H D=yz Qt1),0,∀(hW:W=a.toList++b.toList),0,∀{n:LL},0,∀{it:It}{ifs:Exs}{elt:Ex},0,∀{QGh}(z:Option QA4){Qwh},0,∀{Q5i}(hp:h.objs.size<=a),0,∀{P4:α0->α1->Prop}{Qah},0,∀(hz:∀o u,H a≠yz Qz0),0,0,0,0,0,0,0,0,∀(hc:Xtr k=yw->X.calm=yx),0,∀(X:K.In h)(L:h.Ns Uw mg),0,∀{m l:LI}(h:m.Sublist l),0,∀{lo hi:Int},0,∀{ep:Nat}{t:Uz},0,∀{e:Int×Vb},0,∀{c:Prop}{i:Decidable c},0,∀{Qjl}(hm:Cy m),0,∀{QZh}{o:HO},0,∀{QJj}(p n:Nat),0,∀{QFh}(na:Bool),0,∀{QDm}{QZj}(d:D)(S':Sto),0,∀{Q:VP}{QJh},0,∀{Q0h}(h:SqT X.K H a xs),0,∀{Q0h}(h:SqL X.K H a xs),0,∀{H:Hp}{ρ:LR}{QKj}{Qci},0,∀(u:Vb){Qmm},0,∀(k0:∀L,P0 L->P1 L->G),0,∀(er:ErrOk X.K),0,∀(e:Vb){Qmm},0,∀{t:Uz}{Qoi}(T:Tab t n),0,∀{lo:Option Int}{c:Int},0,∀{QKj}{f:α->Sto->R β},0,∀{QBk}{Qki}{a:Nat}{QGl},0,∀{L:Prop}{P1:Prop}{Qah},0,∀(xs:LD)(lt:D->D->Bool),0,0,0,0,0,0,0,∀(h0:0<i)(hi:i<=a.size),0,∀(aa:Gl X "isinstance"),0,∀(P:Nat->LD->Sto->Prop),0,∀(H:Hp),0,∀{xs:Array Vl},0,∀{vs:LW},0,∀{na na':Bool},0,∀{n i:Nat},0,∀{a:Expr}{Q7j},0,∀{a b:Nat},0,∀{Qtk}(l:Addr),0,∀{Qkh}{ep i:Nat}{t:Uz},0,∀{Qil}{an:Option Expr},0,∀{Qgj}{Q4o}(h:Rws k n),0,∀{QWh}{QPk}(a it:Addr),0,∀{Q7h}{r:α->α->Bool},0,∀{P0:Prop},0,∀{E:VP},0,∀(x:ObjOk P w H h a o),0,∀(w:V7)(a ep:Nat){QHj},0,∀(t:Uz),0,∀(st:Stmt),0,∀(ru:RelV v u),0,∀(r:RD X.K ρ H Q81 v),0,∀(ps:List Qc0),0,∀(nb:Qv.bind k≠.bad),0,∀(n d:Nat),0,∀(k0:P0->L->P2->P3->G),0,∀(k l:Nat->Option Vcb),0,∀(i:Int),0,∀(hs:Sim S S1),0,∀(hF:Tks F it),0,∀(hA:Xao i=yx),0,∀(h:SrcR K ρ H src J),0,∀(h:Rws 192 n),0,∀(h:Dw p S S1),0,0,0,0,0,0,0,0,∀(T:TabG t es),0,∀(N:LS)(fl:Bool)(d:Df),0,∀(L:X.A.units+200<Val),0,∀(L:Loc X.env.scope x),0,∀(J:Inv X pc σ H' s'),0,∀(Da:Addr),0,∀{v:Option Expr}{QAh},0,∀{scope:U2},0,∀{r:R α},0,∀{l m:LL}(p:l.Perm m),0,∀{its:LV},0,∀{d:D}{Q4o}{QAm}{Q2m},0,∀{d:D}{Q2l},0,∀{b:Bool},0,∀{Quk}{QJl},0,∀{QUh}{Qyi},0,∀{QSi}{Qkh}{Qth}{QPl},0,∀{QMl}{Qni},0,∀{QIh}{QWn},0,∀{QHh}{Qyi},0,∀{QDi}{Q4i},0,∀{Q9k}{QSi},0,∀{Q9h}{QLh},0,∀(z I O i j a b:Addr),0,∀(kvs:List QZ5)(k:LI),0,∀(hs:∀t,x≠.str t),0,0,0,0,0,0,0,∀(hs:∀t,d≠.str t),0,∀(hg:gens[d]?=yz QxK),0,∀(hb:DSs X body na g),0,∀(hO:Ord R),0,∀(h:RDs K ρ H ds vs),0,∀(h:JnK le W o la lb),0,∀(h:DX K ρ H kvs xs),0,∀(body:En->Sto->R Fl),0,∀(P:Params),0,∀(L:bdD QF v=yx){Qsh},0,∀(L:H p=yy),0,∀{α:Sort u}{t e:α},0,∀{st:V8},0,∀{o:Option D},0,∀{lo hi:Option Expr},0,∀{k:LI}{u:Vb},0,∀{g:En->Sto->R Bool},0,∀{g:En->Sto->R (LD)},0,∀{far L:Int}{one:LI},0,∀{Qui}(σ:St),0,∀{Qll}{M:Expr->Bool},0,∀{Qal}{x y:D},0,∀{Qai}(j:Nat),0,∀{QVm}{P4:α0->Prop},0,∀{QQm}{pc:LA}{σ:St},0,∀{QIh}(x y:D),0,∀{QEl}(ow:Array Qi0),0,∀{QCi}{Qxn}(ld:Bool),0,∀{Q0h}(h:H p=yz Qx0),0,∀(zs:LD){Q0k},0,∀(t5:tn Qq1 s5.heap),0,∀(r:RD X.K ρ H d v),0,∀(hx:items[i]?=yz x),0,∀(hs:Sm 50 200000 d),0,∀(hi:env[i]?=yz Qwc),0,∀(hh:X.A.handled=yy),0,0,0,0,0,0,0,0,∀(hb:∀b∈L,Bag b),0,∀(h:OR K L ρ H a o),0,∀(h:H a=yz o),0,∀(ds:LD){QIh},0,∀(P:Vz)(w:V7),0,∀(L:Q8J<=100),0,∀(L:Nat->Option Vcb),0,0 cm fns gns sc N,0 s σ H ρ S env,0 X pc σ,0 env S,0 _ _ _,0 (F:=F) (G:=G),ev F G,0 X.prog X.w,0 L x1 x2,wpS Q3 A E s,StateT V8 Sem,0 X.K ρ ρ' H H',0 Q1 X.A,0 X.K ρ,0 ρ H,s.heap.get? b,Vf _ _,X.env.cells.lookup x,0 z.2.1 z.2.2.1,0,0,0,0,0,0,0 T.hN T.hs T.pf,pe F G,Vf Q3 A,.bin .add,0 Q E s,0 prog w,0 H s ρ S env,0 ds vs us E I rd rv,0 pc s σ H,0 v u v' u' E I nb rx rv,yz o,0 hO hA ma mb sa sb,0 X.K Q11 ρ' S' H',0 s.heap a,0 X sc N,.type "tuple",h'.get? b,PF cm F G fns gns,0 R W a b,0 Q0 Q0,any_some h,.ok Q5,0 h1 h2,0 a its.toArray,0 P w K mg base,.type "list",mt sc N,0 elt gens scope,yz .local,0 params body scope,0 ρ' H',concat_meets QdJ QfJ noFill_tuple_add seq_tuple_add Vhg Vg7 QYS,Va (m:=checkCount "sorted" 1 1 _),List α,0 z.1 z.2.1 z.2.2,0 hN hs L,0,0,0,0,0,0,0,sc.names.lookup x,pth t.mask,0 H' s' ρ',Option D,Array Vl,h.get? a,0 src.get t,0 K mg fns gns,den F G,Option Bool,FunAt K,.ok Qs1 S,0 κ P a₀ p Q0C L,RelV v u,0 fns gns Q36 N fl d.body QbC,0 (prog:=prog) (w:=w),relabel sc X.env,Vf _ A.in1,evit F G,X.s₀.heap.get? b,k _ _ Q10 e,FT T G,cwE p far B.length x3 x5,Option Int,.ref a,.cmr yw,0,0,0,0,0,0,0 s.heap h',0 items.size items.size hi,0 (show X.A.handled=yy from I1.inv.ok.hd hc) Q0,h.get? b,c2.extBut _ _,b41 p n QF1 Qm3 QEO,Option Expr,LeK R,I.inv.laid (t':=s.toks),0 hO hA,0 ds vs,0 _ _ s,0 i pc s3 σ3 H3 _ I3.inv QuS t3,0 h' s.heap.objs.size,0 fp tn src J t,Vals xs us,I.base.slot b o e n hb,.isi Q6,yz .cell,Xa0 o1 o2 fa fb fc,0 QJq QVq,Inv QJq,RDs K QVq,ObjOk QOq,0 QIq I nb,0 QPq x3,mt QHq,0 hw hK hc i Qiq E I hf st,S0 QJq Qgq,0 QIq x y Qjq ry ru,Vf QTq,0 QLq _,RD QUq H,QNq e QKq,0 Qwq h3 h4,0 z.2.2.2.1 QZq,0,0,0,0,0,0,0,0 QZq z.2.2.2.1,snd a Qoq x Q9r,Stp QUq QVq,RDs QUq H,0 QUq H xs vs,0 K QVq d v,Qbq ss,I.base.there b o e,0 aa hg hok ha L,Xa QX,0 Qfq A s,0 QHq a x,0 z I O .ellipsis f1,xs.getD k 0,s.heap.IsList l,lg xs,ZSa k1 k2 z I O i j a,Veh kind_sorted Vh8 Vh9 QRA,Glp st0 st',.ref s.heap.objs.size,0 x y S,s.heap.get? c,Vals vs us,I.inv.hok a _,0 z.2.2.2.2.2.1 z.2.2.2.2.2.2,0 sc2 N2,0,0,0,0,0,0,0 items.size 0 lo,0 X.K X.mg X.base,0 QOq X.K tg J fp it tn,0 H' a s'.heap,hQ w s' z H' J.unwish rz q,exe F G,0 (g':=s.gens) (d':=s.drawn),envOfC qual scope s.heap.objs.size f,dk X L,0 s σ H xs us Q I r h,0 QIq I L,glB sc x,forIn [0:t],Op2 X,.blt .tuple,0 b o e,0 aa io ih QaO L h3 Qb9 Qo7,runEnd m i,ha.bind I nb,S0 QJq QCr,L.inv.kept (t':=s1.toks),.fields vs,0 K H a xs,0 fns gns,lstAt S n,c4.extBut _ _,Turn Y.prog Y.w Y.K tg J fp it tn,JnK Qm1 W o.toList,.mk .refl J rz QD1 I.sr,.asg QA,0 ρ ρ0 H H0 env accf Sf,0 l its.toArray,0 a b o i j g c d,0 X.K Q4r,0 Qoq _ Qaq,0 I Qt2 hr.symm,0,0,0,0,0,0,0,0 (S:=S) (n:=2),JnK _ _ Q5J.toList _ _,.int j,s.TypeIs Q20 "dict_keyiterator",mts sc N es,k0 L x1 h0,Vals xs its,z.pre aa,yz u,s'.heap.get? b,Stp.chg (S:=S),upd H,Va Q70,SegS R,Rn κ R a₀,ObjOk P w,0 xs vs,0 k1 k2 Qnq b,0 [d] S,0 X pc Qor g QVq r0,0 pos.line X.env,sortedAll s.heap,hE x s',OkP Qur,Qvr H' s',ExP Qur,0,0,0,0,0,0,0 K QVq,Qvr H s,Qxr H s.heap,Qxr H Qnq,Vaw (name:=Vai "__getitem__"),.cons r,0 QMq (env:=QgA) (S:=S),0 .nil .nil,Xmj (k:=yw) (AR:=λDa=>LstA X.K Da) (uA:=λ_=>.lst []),yz .free,s.heap.get? a,evts F G,c5.extBut _ _,X.base.get? b,Stp K ρ,PySem.W.callWith_K (h₀:=X.base) I.inv.ok.mod.kin hk,LamH X nm Q3r,.ok d,0 Qp Da elt gens sc cpos 0 body,0 (body:=λenv S=>Qbq b QKq) zs,qs.map QK1,fin PyProof.Rows.slot_tuple_getitem.lookup ht.typeIs,Ve _,Vbx s.heap,Option Nat,0 t vs.toArray n dd sl,0 env S1,0 Qzr x4,0 (i:=2) (it:=.val Q6),yz (decide QEV),snd e Qoq,s.heap.push QLO,s.TypeIs Q20 "set_iterator",layClean.free m,f QKq,Xa4 (v:=.bl yw),0,0,0,0,0,0,0,Stp Y.K ρ0,Reads s.heap u p as,Option Addr,Dw p S S1,.of .refl z,.int i,0 t it ifs,0 p s.heap,0 Q2 Q2,yz x,0 get t body,yz xs,Xak QGr Q23 Q08 0 Qw [] S1,X.env.scope.names.lookup x,QE.update s.heap.objs.size,I1.inv.laid (o:=.lst Qx5) (t':=tk) (h':=h') k2 le,.builtin "set.update.loop",0 outer s H,0 lf k xs q n,0 Qjr ma,0 QHq es,0 QH .nil,yz Qz0,findIn K QQ5,X.s₀.heap.get? T,List QZ5,0,0,0,0,0,0,Heap.ExtBut it Qar,H s.heap.objs.size,BindsTo s fd,.ex n S',congrArg D.tup,Sm 50 200000 d,Qwr Qkr,I1.inv.kept (t':=s1.toks),I.sr.chg ha nf,.ok QC9,0 lo hi,0 k AR Y Da Q1r cpos,0 Qlq hl hg hk,0 Qa5 S',0 K H a vs,yz yx,yz Qx0,yz QR3,s.heap.IsCell c v,rs.Perm qs,fin slot_list_getitem.lookup ht.isList.typeIs,decide_eq_true Q0,Xmp b (s:=s1) (rs:=ks) (xs:=xa) Qcr hq QmP x2,Xef (M:=Vi Qfq) e,Xa rd.one,Walks.range (prog:=X.prog) (w:=X.w) Qi4 it lo,Vs Qv1,Vf M A,Qbq d.body env0 S,Q0r a z.1,List Bool,I.tuple hq,I.cell x c,I.base.free Qps n,.builtin "list.__iadd__",.blt .len,0,0,0,0,0,0,0,.blt .all,0 x ps qs h t ih,0 (x:=s.heap.objs.size+3) (e:=s.heap.objs.size+3),0 (u:=.builtin "sorted") Q8,0 (F:=QVr 7) (G:=G) (S:=[]),yz c,0 (mg:=X.mg) Qbd I.inv.ok.glob hg ab QvO e0 t0 q,s.heap.get? l,s.heap.FunFrames X.base,pds_bd _,o.push x,looks_mroIn (M:=Vi Qfq),insertAt es,evs F G,decide_eq_decide.mpr Q0,c3.extBut _ _,a.extract i,Xc6 e.2,Stp QSq,Sm a b d,SetR Qfq,RDs.mono' x,QNq elt QY3 S,Inv X pc,.ne (show Eb QKs _ _ yw from QDH▸Xja) Xu7,0 hP Q1s hg,0,0,0,0,0,0,0 es.size ep,0 QIq Qhq L,0 Q91 Q02 S,Vce iter X.env x,I.inv.ok.has x.1,.inl h,s.heap.IsTuple l items,dgB (top:=λ_=>yx) T.hN T.hs T.nd Q6N QoG,I7.rep I7.inv.unpinned,DE X,0 tg iter,0 rx rv ry ru,0 I.inv hg hm,I.turned (t':=s.toks) QTE f0 f1 f3 f4 f5,0 L ra h4 h3 Q0 Qh,slicePick its.toArray,k0 h0,bdDs k xs,Xa QX3,X6 S1 x,Us QX5 X.env,Srt Qm1 W,S0 QJq,QNq a QKq,P0 L x1,K.In base,.ok Qq6,.int k,.int 1,.ex QF,.eq (show Eb QKs _ _ yx from QWO▸Xja),.chn .le .le,.call L,.blt .sorted,0 vs.toArray L.toArray n n2 dd af sl ac QoP,0 Y pc Da AR Qor Q23 Q4t,0,0,0,0,0,0,0,0 X.K H,0 QPr hh s.heap.objs.size a Quf its.toArray,0 Q3 A,kp c o L.1 L.2.2.1 L.2.2.2.1 L.2.2.2.2,Y7 QGr g,SetI Qfq,RoomC cm k,QU0.any QT,QGs e S',Option QA4,List QoB,K.lookup a,0 L x1,yz yy,s.TypeIs Qi9 "slice",firstIter gens X.env,Vp (E:=λ_ _=>False),0 z.2.1 z.2.2 z.1,0 yy yy yy a t,0 q loose,0 op QUs,0 n S1,0 kvs xs,0 _ _ Qtq,0 X.env.scope X.N,0 X pc,0,0,0,0,0,0,0 Qnq its.toArray,0 Q2 Qy2 a b S,0 H' ρ',0 (knd:=Vfy Q04) (k:=r),kat QJ,Yu (k:=.tuple),Xmx (s:=QO) (n:="range_iterator") aa,Xk2 (if ng then .notin else .isin) o,Vho "BaseException.__getattribute__",Vaw (name:=Vai "__next__") st.ty Vh6,0 nm ar fl,0 Q6C QiM QhM L.heap.objs.size QjM b1 b2,snds es Qoq Q31 Q9r,mtG QHq QZs,lg ps,g QKq,congrArg yz,cl.lookup x,Xgx (x:=yw),Vjt (g:=Qw1) (gs:=gens.tail) QB5 hs,Vcf "tuple",Vbk (show _<=99 by rw[Vg];omega) Q2,Va (m:=Vfv _ _) QH3,Us es X.env,Qwt e,QXq (if byT w=yx then _ else _) QLq,Option (LD),Mon Y.K ρ ρ' H H',Fun K nm nm st g fd,DS X st,DS X QN7 yw,.type "zip",.ok accf Sf,.ok QoC,.ok Qm0,.BoolOp QrJ,0,0,0,0,0,0,0,yz (.builtin "ValueError.__new__"),0 s.heap s'.heap,0 s σ H,0 S1 env,0 Qc Ql8.toArray,0 (op:=if ng then .notin else .isin) h,0 (S:=S) (S1:=S),yz kvs,yz a,snd b Qoq y Q9r h2,s.heap.push L,s.heap.IsTuple Qxq,pure Q24,k0 QPq h0,ha.ok I q,gcR S,env.set i,env.cells.lookup x,decide_eq_false Q0,call Ql0,aB0 h QY5,Xq Qe1,Va (m:=Vcl _),Turn P w K tg,SrcR Qat,Sm a' b',0,0,0,0,0,0,RelV x v,QXq (if QUH=yx then _ else _) Qlr,QXq (if QTH=yx then _ else _) Qlr,QNq b QKq,PySem.W.specialIn K QD0 "__get__",Nat.max_le.mpr QAP,List Qc0,List Env,I.list hq,I.hok a _,Glp st L,.tup Qk0,.ok ds S',.ok Q53 S,.ok .non,.mk (v:=QTs) (ρ':=ρ++QQE) QLB J,.Call QpH Q31 [] L,0 x y v u Q I rx ry h,0 p.1 p.2,0 k1 k2 h a b,0 X.stack s H,0 L.units QvN Qb6 QXF,0 .refl I.inv,0 (j:=0) (m:=n.length) (e:=Q9v Qi) hF,0 (a':=4) (b':=50000),Xek QMq (S:=S++Qr0) (S1:=S++Qr0),I1.inv.laid (t':=s1.toks) QR6 Qa,0 (e:=.cst QdG) (v:=.int 0) (S1:=S'),0 (A:=A.in1.in1.in1) QaD _ l L items,xs.all Xa2,wpAny_Call_method_late ab ac aa,s.TypeIs Qe "set",pure yw,lg zs,lg vs,kat a,0,0,0,0,0,0,0,Z.lstM S n,Yz I.sr,Xiy K N nm,Xfp f nm G,Xc8 es Q31,Xbu w t,Vc5 x qual Qod QbC Q36 .none kV,Un fs ex H,Stp X.K,S0 QZw L QCr S' e,S.set n,Qts S' env,QZt r x s',QVr QB3,QSr it QKq,Q0s e v,PySem.W.kia_one kx L.inv.kIn hE,Pot S p,Option Qi0,List Df,L.inv.fpOk Qa Q5C,ItP Qur tg,I.pin p hp,HOk QOq,.live i,.blt .repr,0,0,0,0,0,0,0 treeTable p w,0 rd rv,0 d ds S,0 Qyq k g fd ps,0 QIq d v u Qhq,0 Q0 QOq E _ Qh,yz z,tyQ yw yw yw,turns t.mask,pure r,env.kindOf x,drp QGA.body,cxC yx QOq Qbs [x] QFA scope f,congrArg Vhf,comprehension Q2K sc X.env QZ9,Xo S d,Runs R a l b,RD K Q4r d v,QfC.lookup P,Qf1.lookup x,QVr k f xs S,QM.is s.heap,K.lookup Vbn,Calls.callWith_builtin Qx6 Qtd,.ref p,.inr h,.Subscript a,0 (ss:=.cons QRa .nil) (v:=.bl yw),wpAny_pyNext_range_end Qi4 st,t.place.getD k 0,subscriptTail_builtinR (x:=w),its t,eqD S,Xmm b hl (R:=λL=>Q QB L) QVZ,Xjk (a:=b) hO sb,Xgv (d:=.fro xs),0,0,0,0,0,0,0,Xd rv,Vho "object.__getattribute__",Uy Vh6 st.ty F.entry_zip_next,QZr 2,I.inv.hok p _ hv,.seq its.toArray,0 callerA Qc5 Qj0 L,0 QTw XP YP l.row.toRowW d [] QOI,0 QHq b y,0 QB9 X.xe s,0 K fd ps [],0 K Uw nm,0 I.sr ha nf,0 (vs:=Xkc vs li L) QIE QWA I3.sr,typeLookup QxD "__getitem__",t.slot j,setSearchFrom a Qq2 QG0 ad L,plainProg p.main.scope.names,hf it Q9,chs 16 1,aB0 (show b∈Qkb from z) Q9,Yt h,X.s₀.heap.FunFrames X.base,Vj _,Vel K Qn1 "__getattribute__",List Qh4,0,0,0,0,0,0,List Qg1,.ok v S1,.cmp .ne,.call aa,0 st.1 st.2 hd,0 k Q98 Y.A Q1r cpos d Q47 Y.env,0 hk hi st S p,0 Qy3 a Qn1 a0,0 K bo QVq a o,0 (vs:=Xah ws l c) QyE QWA I3.sr,yz p.2,yz X.env.locals,wpAny_pyIter_rangeiter st h,src.get S i,s.heap.update p,pure yy,mroIn K D,k0 Qzr h0,k0 L h0,hO.rf _,firstAsync gens,es.findIdx? Qw7,byd lf k xs,bits h,beq_iff_eq.mp h,below t.place j,attributeBase o,any_some h2,Xw (i:=5),Xtb s.heap it a,Xrf (k:=yw) so hg hi hs I q,Xhr nm st,Xa Qc6,X4 o2 y z S,Vr st,Viu t.place,0,0,0,0,0,0,0,Vbv vs ns,Vals ws its,Uh I.ok.bsz,ScOk X.env.scope sc X.N own,SR X.K Q11 ρ S,SR K bo,RowsV p h,RDs.cons h1,Qvr H,Qrt S,Qdq QA,Qcq QoD Qeq,Qcq QkO Qeq,QXq QC8 QLq,QXq QB8 QLq,QRr QT7 Qlr,QPt H h a,QOt a₀.size 0,Q6s d v,Q0r a z.2.1,Q () s',P2 QPq,Option α,Option (LL),List (OV),L.filterMap Q3C,0,0,0,0,0,0,I.turned QPI f0 f1 f3 f4 f5,Hid X Qds,F L QSt,DefOk QHr d x.1 x.2.1 x.2.2,DI X Qkv fi,.tail _,.or QN1,.ok x S,.ok QcB S,.ok QSK,.ok QOA S,.ok QK7,.ok QJ0 S,.ok Q91 S,.ok Q57,.ok Q1E S,.asg QD,.Tuple es,.Name x,0 [] [],0 Q5s _,0 Q st,0 L.2 hg QXb L.1 ih o3 o1 he aa,looks_findIn (M:=Vi Qfq) L,Xvl T t5 ak aj af I7 aa ac,Xtj X s1.heap.objs.size ks,Xc h,X.env.scope.names.lookup n,Uy Vh3 t1 F.entry_tuple_lt,SetOf_store (knd:=Vap Qfq),QxE.eraseIdxIfInBounds Qq1,QI4.update L.objs.size QuE,0 y1 y2 y3,0 QMq (env:=env) (S:=S) (n:=n),0 QAw a vs,0 I.inv rv,0,0,0,0,0,0,0,yz v,sndSs b body T,slicePlaces QO0.1 QO0.2 c,s.heap.push QN,own.contains x,l.filterMap id,l.Pairwise QUE,entryFor table,drp d_law.body,bi (x:=.int a),bdy d_law.body,aB0 z,Xt0 it Qoq Qkv,W.item i s _ _,Vbl F.entry_proto_collect,Uy Vg4 QwC Vgj,R Fl,PySem.Slot "set_iterator",List.mem_singleton_self _,I.hok.fresh Qa,Env0 Qyq A QRu,DSs X,CX outer H s E,BlR X,0 σ H s,0 z.1 QZq z.2.2.2,0,0,0,0,0,0,0 t2 it2 ifs2,0 pc s2 σ H2,0 outer P w H s Q,0 o i j,0 mg base,0 [] pos,0 [] Q5B H s1,0 Qxs sc N cm,0 Qwq h3,0 QTu hz Q0,0 QKs us vs,0 Q8s h5,yz d,yz QV1,setItem ov,s.heap.Ns X.env.locals m,oD0 ht,mts QUu xs,mtT.namesB top QYw is es,hQ _,h.sx x q y,fa QKq,e.trans h1,datFs look,cwE p Q8M C.length x3 x5,bdy t_law_choices.body 1,Xui (i:=2) (j:=3) (a:=s),Xj QiL Qh0,Xf2 yw Qg4,Xa Qp7,X.fn x,Vs Qd5,Vp Ql2 Qj6,Vba it Qar,SeqAt.EqAt.bool_bool c b,Sem Vb,0,0,0,0,0,0,0,Qbq t_law_pot.body QjF S,QJ.map QK1,P1 QPq,P1 QMw,Option Vcb,Option Str,OkP.pre ac,K.lookup f,I.stkSub b,DX Qat QWw,.type "dict_keyiterator",.int 0,.Lambda Qq4 QcF scope aa,.Compare x,0 QBF QNT QBF Q9L QQU I.bare,0 (u:=.type "set") Q8 QIJ Q2,s.heap.get? T,r.foldl max n,ond h,mtSs cm,min v.toNat n,ltL b a,ltL a b,lg ys,lg ns,hQ d S1 u s' v Qcw L nb,0,0,0,0,0,0,h'.IsCell c v,codeAmong pos,bdDs L.length,a.extract 0 i,Y8 I.inv,Xjh Y.K Da AR,Xay K c,X9 z.2.1,X1 .add,X.wish E,X.mg "sorted",WkL Q4A,Vo _,Vgz _ Q0,Vals ys,TabH K H,Stp QUq,SrcR Y.K,SqT QAw,SqT K H,RelV y u,RX xs ys,QRq Bool,QGs L S',QDs Qkr,QBr h,QAu ρ' H0 H',Mon K ρ,List.find?_eq_none.mp e,List Vcb,List Qo2,L.heap.get? b,IsTup.new _ _,I'.sr.adopt hn' hD' ra',HOk P w,Gl X "sorted",0,0,0,0,0,0,0,EP QJq Q,DTs Qp ifs tf,.tup xs,.ok r S,.inr Q52,.inl Q52,.fresh 0 0 ld,.for QD,.cmp .eq,.cell v,.asg Qz1,0 k2 s.heap b ys,0 ho hd,0 ha hb,0 Qsq N,0 Qj1 s5 σ3 H5 ρ3 S3 env3,0 Q1 X.A.in1.in1,wpAny_pyIter_range QOR,scope.names.lookup y.1,ow.toList.filterMap id,openSeen QTw Qc9 Xt yx,dats_pd k l (xs:=xs) h,Xa h,X.env.cells.lookup x.1,QXu "__getattribute__",JnK _ _ QOg.toList _ _,0,0,0,0,0,0,.builtin "set.__new__",0 yw yw yw t,0 x y S2,0 s3 S2 y vy H2 aa e I2 ru,0 op a b,0 ng a b,0 k n gs elt,0 hg hi hs hG hT hB I q q2,0 cm Qxs QZs,0 c.hi c.hs c.hG c.hT c.hB,0 S' s' x fl,0 Qtq Q0,0 I.ok.kind L hc hcell fin,0 H' s'.heap,0 "<lambda>" QFA Q3r [] pm,yz [],yz Qt1,xs.take a,x.tup _ _,takesIn K,src.get S3 i,snd c Qoq,pure x,oD0 h1,lsD S,le x y,k b u,inD S x y,hr.lt (a:=0),he.ok I q,ha.ex I q,h1.get? b,h'.get? c,glB sc,congrArg QNN,bdD k,0,0,0,0,0,0,0,bdD QF,Xw (i:=6),Xw (i:=2),Xw (i:=1),Xu9 QPr hu hx hy ix L,Xo0 top sc x,Xm0 I1 t Qby,Xik S x y,Xi4 Q8,Xh (i:=6),Xgm hO sa,Xcb QZw H' b,Xbe q QBC,Xau k Q5L,Xa5 (o:=.ne),Xa rv.one,Xa Qe9,Vd2 b QWD,Vd2 a Q5H,Vbb hz Q9,V5 "list",Sm 2 1921,SetTable.grown L.size,Row p h' k u,R Qy1 key,R Bool,0,0,0,0,0,0,Qwv H' s' ρ,Qvv r.toList,Qrt S',Qot ρ' H H',QNt QM3 p,QN8.take QvY,Q4u v Qaq,PySem.W.takesIn K QD0,P2 QMw,P0 QPq,Off QAw b,Looks M h,List.drop p xs.toList,Jo Qsq,Jh Qsq,I.er.mono st,FsV ks fs,FnScope [x] [x] scope,FnScope N ps,DecS R,DG X tg t,.set es ep t,.ref n,.ok QEM S,.ok Q6M S,.ok Q4B S,.ok (),.mk aa J2 rv rd I1.sr,.mk (v:=Qyy),.frz Q00 QXQ,.cons _ t,.cmp .gt QL0,.bin .mul,.Subscript x,.BoolOp .And,0 z.1 z.2,0,0,0,0,0,0,0,0 x y v u v' u',0 src J,0 s.heap L,0 pl.isList h0 Q0 QF5 fin,0 pl.isList Q0 QeD Q0 QF5,0 hw hK L n Qiq E J hf st,0 ho hc hd,0 a b QF4 QXI j,0 _ _ D.Oz,0 X.env.scope x,0 Qtq Qtq,0 QUu Q31,0 QCx x vs v us Q I rx rv,0 Q7t d v,0 K Qn1,0 .refl J,0 (i:=i) QNH.2 QcD QbD hk,yz y,yz r,snd elt Y _ _ ee U62,s.TypeIs Qq2 "tuple",env.cells.lookup x.1,Xtz ifs Y QZs cs U62,Xmx (s:=QU) e c d Q2,Xf z,Vu e,0,0,0,0,0,0,Vjx ht.isList QDK P1,Vd (And.intro rfl L),Vc4 (T:="tuple") QGG,TopOk cm F G Qxs Qoq,T.tb.ris.lt (a:=0) c,SetI QOq h Da Q6F ks,QLt s.heap.objs.size,Nat.succ_le_succ QKV,Moved.trans W.gtrans,I.base.keep Qps n hb,0 x s',0 hu UM4 T m hk n1 n2 n3,0 W s.heap.objs.size QXd,0 QbH Qyq N qual scope f,0 (ss:=.nil) (v:=.bl yw),z.pre .refl,wpAny_ite_false QSN,wl b.length,tyM sc ts y,tyB sc t nm,tn i s.heap,sortedAll_at s.heap,shownAll_le xs h h2,sc.names.lookup QqT,pds_bd k (xs:=xs) h,mto QHq,isT k t,he.bind Q9t,ha.bind Q9t,forIn [0:n],evo F G,decide_eq_false QLT,below.go xs j L Qku,any_some h4,Xhw QMq,Xhc a b,0,0,0,0,0,0,0,Xew x l h S,Xeg yy (-1),Xe9 (R:=R) (a:=U81),Xdg a b,Xdf a b,Xc rd,Xbh i j,Xay X.K,Xak QGr Q23,Vu hq.choose_spec.1,Ve8 Vg8 QeJ Vju Q0c,Vc1 QCw,Va4 L hd ft,V1 _,SqT Qws,SetR QOq Qnr Q6F ps,S0 Y pc,Row p h k u,Row QHu,Qvq Qg0,Qtr QKq,Qrq X,Qns QjI QhY,Qns QiI QgY,Qcq QCK Qeq,Qbq QDM QKq,0,0,0,0,0,0,QXq QMH Qlr,QXq QG4 QLq,QNq QAW QKq,QLt a,QIr t_law_pot Q7g S,QEt QI2,QBr QG0,Q5V.getD yw,P i e S,OR K bo,Nat.add_le_add h h2,Mem Qfq,List.Sublist.refl _,List Ty,KeepK a,K.In s.heap,ItK k h i a,I.kept (t':=s.toks),H s2.heap.objs.size,ExcO C a h',ExS Qur,ElemsOf QZ0,Bag b,.val Q6,.refl _,.ref QF,.ok v S,.mth .count Qz1 Ql4,.asg QQ,.Call QJM Q31 [] cp,.BoolOp .Or,0 nm L fl h,0 lo QvJ.toNat,0 lo Q6H.toNat,0 k n L elt,0 ht QDK P1 P2,0,0,0,0,0,0,0,0 e o i p j,0 ds S1,0 d it acc env,0 a0 hid aa,0 a b t,0 Vaz Ql9 m,0 QUq H d v,0 QTq X.env,0 QMq (env:=Qva) (S:=S),0 QKu n i e,0 QHr d Qkw,0 L hn.1 Q2,0 J hp I.sr hr,0 I.inv QV0,0 (F:=QVr (k+6)) (G:=G),z.pre ac,yz QXE,wpAny_passesOwn hp,wpAny_eqBool_int h,s.TypeIs Qr3 "zip",r.ob n a,pure QK8,power' t QsV QzL t,pds xs,nb Qi2,mtSs QOr,0,0,0,0,0,0,msr st,lg its,lg env,h.pre st,h.ok I q,h.ex I q,h Uu1 W QkG QIf aa,fi QKq,fb QKq,b.extract j b.size,atKey ys,Z.ixN QR,Yr Q8K,Y8 Qmv (u:=Q5x) Q8,Xq4 T.mg T.room Q0,Xjf I.inv QCR hg L,Xh1 ts K,Xfr S S',Xfh QMq (env:=Qs4),Xd6 Q0,Xbk QI,X.mg x,Vs QS1,Vfc hq,Vaz st,Runs R,RelV z w,Qwv H2 s3 L S2 env,Q7u ow QsG Qk6 QVO,P3 Qzr,List Vbs,List QLJ,List Key,JnK le W QNg la lb,I.sr.ob n p _ hp e,I.inv.hok.fresh Qa,0,0,0,0,0,0,0,HT.sIx n,H' b,Gl X x,DT X e g,AllD QHr,.var 0,.sli QA0,.ref b,.ok [] S,.int c,.cons Q6,.call 13,.bool yw,.asg Qq0,.asg Q71,0 u.tups u.frzs u.tbls,0 u s3 S2 H2 aa e I2 L,0 st (show QLx from p),0 c o QMK hc ac ho QaH,0 Qz4 Q8 Q8 Q8 Q6D QDE,0 (xs:=#[]) (n:=0) Q25,0 (E:=λ_ _=>False) hu,yz ob,yz j,s.heap.IsList Qxq,runEnd t.mask p.1,0,0,0,0,0,0,qs.Perm ps,pth m h' i,newList [],mtT top sc N t tg,lg ks,ih Qq1 _ aa Q0 lt,hl j y v' L e2 e3,fenceModules? p s,below xs j,bdDs ρ.length ds,a.toList.take Que,a.toList.drop Qq1,Yn x y d S,Yc .sorted,Y7 QKu k Qq1 e S',Xt5 (n:=2),Xs6 hh Qu2 Qb2 hx,Xoo b ask mono hQ,Xl xs,Xk9 yy QU7,Xj QlS Qv3,Xdy yw QJK,Xcr L body k e S',Xa rd,X3 t d env,Vm k.toNat,0,0,0,0,0,0,0,0,0,0,0,0,0,0,0,0,0,0,0,0,0,0,0,0,0,0,0,0,0,0,0,0,0,0,0,0,0,0,0,0,0,0,0,0,0,0,0,0,0,0,0,0,0,0,0,0,0,0,0,0,0,0,0,0,0,0,0,0,0,0,0,0,0,0,0,0,0,0,0,0,0,0,0,0,0,0,0,0,0,0,0,0,0,0,0,0,0,0,0,0,0,0,0,0,0,0,0,0,0,0,0,0,0,0,0,0,0,0,0,0,0,0,0,0,0,0,0,0,0,0,0,0,0,0,0,0,0,0,0,0,0,0,0,0,0,0,0,0,0,0,0,0,0,0,0,0,0,0,0,0,0,0,0,0,0,0,0,0,0,0,0,0,0,0,0,0,0,0,0,0,0,0,0,0,0,0,0,0,0,0,0,0,0,0,0,0,0,0,0,0,0,0,0,0,0,0,0,0,0,0,0,0,0,0,0,0,0,0,0,0,0,0,0,0,0,0,0,0,0,0,0,0,0,0,0,0,0,0,0,0,0,0,0,0,0,0,0,0,0,0,0,0,0,0,0,0,0,0,0,0,0,0,0,0,0,0,0,0,0,0,0,0,0,0,0,0,0,0,0,0,0,0,0,0,0,0,0,0,0,0,0,0,0,0,0,0,0,0,0,0,0,0,0,0,0,0,0,0,0,0,0,0,0,0,0,0,0,0,0,0,0,0,0,0,0,0,0,0,0,0,0,0,0,0,0,0,0,0,0,0,0,0,0,0,0,0,0,0,0,0,0,0,0,0,0,0,0,0,0,0,0,0,0,0,0,0,0,0,0,0,0,0,0,0,0,0,0,0,0,0,0,0,0,0,0,0,0,0,0,0,0,0,0,0,0,0,0,0,0,0,0,0,0,0,0,0,0,0,0,0,0,0,0,0,0,0,0,0,0,0,0,0,0,0,0,0,0,0,0,0,0,0,0,0,0,0,0,0,0,0,0,0,0,0,0,0,0,0,0,0,0,0,0,0,0,0,0,0,0,0,0,0,0,0,0,0,0,0,0,0,0,0,0,0,0,0,0,0,0,0,0,0,0,0,0,0,0,0,0,0,0,0,0,0,0,0,0,0,0,0,0,0,0,0,0,0,0,0,0,0,0,0,0,0,0,0,0,0,0,0,0,0,0,0,0,Vcf "list",Van X.K Uw,Ux _,SqH k1 Qws,RD.mono' x,QuD.take k,Qju S,QgL.get? b,Qet ht.typeIs Vbp,QY2.take s,0,0,0,0,0,0,0,QXu "__getattr__",QVv QQt h2,QQv a.size,QNv es QKq,QNF.map Xb,QKt (o:=.ded) UM0,Q0r b,PySem.W.mroIn K C,OkP.pre ab,My.law_fn T kb nb,Lx QKs QDN,List.find?_some e,IsPair g2 O a0 b0,I.step Qgs,HT.sIx Qn3,HT.sIx Qas,Fun K x qual st f,Expr.Name x.1 x.2,DG Qp tg t,.seq its n,.seq items,.ref h'.objs.size,.ok QXB S1,.blt .list,0 z.2.2 z.2.1,0 z I O f0 f1,0,0,0,0,0,0,0 x S1,0 sc.names [],0 p QTw Xt Yf,0 o1 o2 a b c,0 k2 K H b ys,0 env L,0 e X.env,0 Uh0 X.env.locals h2,0 QrE QZs,0 Qb6 QsU QAE Qb9 Qo7,0 Qat QQt,0 QTq QOD Qeq,0 QTq QC3 Qeq,0 QLq Q5s,0 QCx ρ S S' env acc,0 QCw QE7 Qeq,0 Q1I d Q20 Q47 Y.env,0 C dx fs,0 (X:=X) (ng:=ng) QaL,z.sameBut hs QPY,tupleItemsOf_ ht,so Qve (q+j) Ul4,sizeAbove wanted,s.heap.update kS,lg l,lg S,isTrue c env QzW,carriedByValue v,Y0 S,Xra I ha hl keep,Xfg QEv (S1:=[]),Xa3 tf body env6,W.frame _ s' _ _,Vjc ht.typeIs Q2,Vbv out.toList L,T.pf.err.at_ c x,0,0,0,0,0,0,0,SR K L ρ' S' H',RDs.mono' mo _ _,Qxt x us.toArray,QoV.stay Qy9 Q3J,QQs b QW9 QW9 h',IsRangeIter h it,.seq QN0.toArray,.seq Q59.toArray,.mk (v:=QYr) Qwx,0 u s',0 src S1,0 s.heap l,0 rv rd st,0 o i op e,0 n Qq1 env6 acc7 S7,0 g2 g3 g4,0 b hb,0 a xs,0 _ _ s',0 _ _ D.Iz,0 [x] [] L,0 Qlq hl .refl hk Qa,0 Qdw QWV QIC f.1 dd,0 QU5 h',0 QJq H',yz zs[i]?,0,0,0,0,0,0,yz p.1,yz b,yz QjU,yz QU1,yz QR2,yz QJ8,yz QJ0,yz QCC,yz Q86,y.frz a o u QqG,xs.getD i,xs.drop b,x.frz QLq,wi x 0 15,u.any ho I.free,typeIs_int s' k,topT Qay 11 QaU,spD K QhW,snd o Q8t,snd i Q8t,snd b Qoq,snd a Qoq,setNext a,s.heap.get? p.1,rnd m,qs.map QT,pe QOJ G d.body,ond h1,nasgs b,mtI QHq,lg kvs,keep _,kat xs,k it Q9,k b o L e,its Qk8,0,0,0,0,0,0,0,itf m,hi pc QIq,hA Q5s,h2.none g,h2.mono x,h'.get? e,h i j,fc QKq,eval iter X.env,enc_rwF.dat QjD,datFs L,collect_list hl,call_list_seq p,bdO ρ.length o,bdD ρ.length d,a.toList.drop i,Yu (k:=.sorted),Yc k ds S,Xw (i:=4),Xw (i:=3),Xo S x,Xld fns,Xkm QZw,Xjk hO sa h0 hi,Xj hq QQP,Xi zz,0,0,0,0,0,0,Xhx h.lay,Xfn h Qv3,Xfg QMq,Xev x y,Xea QR,Xdx kvs,Xd ru,Xd QH7,Xbs k1,Xbo _ _,Xb8 hz,Xb6 S n,Xan J QvL I1.sr,Xal x,Xae Q1S k,Xa ai.one,Xa Q9K,X3 t x,Vu ho,Vib Qsf QmD QrD,Vgm Q60,Ve3 _ _,Vdw K QP5,Vdc _,Vd2 b z.2.2.2.1,Vcw st,Vbv us,Vbl Ve2,Vba z s.heap g1,Vba a Qar,Vax hz,Va7.mp h1,Ut2 hk hf,UV2 st na,U60 x y,U50 c Qz2,0,0,0,0,0,0,0,T.ris.lt (a:=0),Sum.inr b,Sum.inl b,Stp K ρ0 ρ H0,Srt le,SqL Qws,Sm 3 45 d,RelV vy,Reads s.heap Qe,RD.mono' mo _ _,RD QFs,Qwv H3 s3,Qvq QQ3,Qts QDx,Qqt H f,Qot QVq,Qlt ifs,Qhr y x,Qft t,Qfs s QKq,Qfr Qp2,Qdq Qq0,QZr 3 Qa0,QXy H' h',QVr QgP,QRq Qi0,0,0,0,0,0,0,QPd.2.2.1 x c e,QOs its.toArray,QOs items,QNt a p,QNt QJ,QMv Q42.2,QM.pyHash hu hk,QLt p,QIr Qcy,QI3.findIdx? QT,QFy Qq1,QEw n i env' S',QEw QW9 i ai S3,Q4s QaS QqK E s,Q3x na,Q3w QIK,Q0r a,Q' z H',Q QB,P2 Qzr,P1 Qzr,P0 Qzr,Option HO,KV kvs vs,IsRangeIter _ _,I1.inv.ok.hd hc,I.tuple h,I.step I2,I.ok.funs.mem L,I.base.free b o,HT.sIx QR,F ds S,ExP QJq,ER K Q4r env σ,D.int QIb,Bs QMr,0,0,0,0,0,0,0,.var 2,.var 1,.str x,.ref l,.ref QqL.length,.ref I,.ok QuO S,.ok Qnu,.ok Qn6 S,.ok QiQ S,.ok QiE S,.ok QaF S,.ok QQQ S,.ok QPD S,.ok QAM S,.ok Q9M S,.ok Q7Z S,.ok Q2B S,.ok Q1P,.nx env,.mth .xtd,.ex n S,.cons n t,.cons QA0,.Dict Ut1,.Constant c k p,0,0,0,0,0,0,.Call QqC,.Call QZ2,0 q1 q2,0 is es,0 gens scope,0 es Qoq xs Q9r h.2,0 d S1,0 c a b,0 b u e,0 aa S',0 UO6 "__getattr__",0 UE8 z.2.2.2.2 QEF,0 QPr (A:=A) (E:=E),0 QJ4 [] QP7 QC1 s4,0 QIq UA6 E I L Qlv,0 QIR QHR UN4 hc h1,0 QCx vs us Q I r h,0 Q8r p,0 Q0 hj,0 K ρ' ρ'' H' H'',0 (X:=Uj3) (tg:=tg),yz L,yz C,typeIs_int s k,tn Qq1 s5.heap,t1.fits L.size,seqEpoch_at o1,probe.go t f h,one.getLastD 0,k it V4 _ st.1,hx x QrM y QBQ,Yn QTa QlD Qm0,Xtn I.sr sr st,Xdy Qlu d body,Xap .count Qcy,Xan J QkM I.sr,0,0,0,0,0,0,0,X1b T t5 aj ag,X.env.kindOf x,X.K.lookup Vbn,Un QyU ch H H',SrcR K Q4r UB6,SrcK X.K aa H1,Room k callerA,Qxr H1 s1.heap,QpI.map HO.tbl,QEw n Qq1 L S7,Q4s QGS Q X.xe,Mon Y.K ρ L H,L.hok.fresh Qa,L.Pairwise QUE,J.hok.fresh Qa,IsPair Qnr x y,Inv Q94 pc UY2,I.inv.after hq,FnD fl Qdy QxL,AllBare s.gens,.type "module",.cons QxV .nil,.cons QT8 .nil,.cons QRc .nil,.cons QRR .nil,.cons QKW .nil,0,0,0,0,0,0,.compStart QF3,.UnaryOp .USub,0 so.kind so.names,0 s2 k1 k2 a b Qwq,0 s ps Ug0 L hr hR,0 doc pm an cdv ct,0 Qwd t1 t2 lx fin,0 Qjr hk Q6J Q0 ma,0 QIq b S' Q E I h,yz p,yz nm,yz ks,yz Qj,yz Q5,y.tup URB QSI,y.pre n a QbU,upd H1 Da QSR,topFrom Qay N,staticsOk Qc9,st3.trans QdL,rds_bd h,r.get h2,pure QmY,pure QTU,pure QS6,pure Q2O,orM m Q1C 0 0,oD0 h,lg us,lg is,lg ds,keep c v,keep b o,keep Qps,k b ob q,id I.loc,0,0,0,0,0,0,0,hl i x v,hQ m hm a1 a2,h.get? i,h.get? c,g2.more hO Q0,g1.rev Qtq hz,ff h,ev b QKq,den QOJ G Qcy,dctEs xs,c8.extBut _ _,c7.extBut _ _,c2 _ _ e3 QtN,bs.countP Q8N,body QlI,bdO QF o,b.extract 0 j,augStore i ov,adk (i:=1000),a.extract k i,Yw xs,Yc .tuple Q9g,Y8 L.inv,Xrl L hd T hl,Xo3 1 yy,Xli h.eqv l m,0,0,0,0,0,0,Xl ks,Xj q QG5,Xj L QBL,Xgt t it,Xe2 QIu QOP S,Xdj _,Xd0 N ps,Xd0 N QKA Q36,Xcv k.reverse,Xbr yw x,Xa8 w a ep es,Xa I.loc,X1r QHq o i e,X1i r r' st k,Vi4 _ Q8,Vd9 X Gm,Vd2 a z.2.2.1,Vd h,Vax aa L,Vax L aa,Van K Uw,Value.str x t,Vals Qa1,Va1.mp h,V0.mp hd,V.drop m,Uz6 .none q.1,Uq3 aa H,Up.mp hd,Um h1,UV2 body na g,UN3 Q0D [y] p,U31 QgC i Qav,U.take k,Turn Qcs,Tab t es.size,0,0,0,0,0,0,0,T.keep QLq t5,SrcK Qat,SqL K H a Qa1,SqK k1 Qnq xs,Sim S S1,Sem PySem.Fin,Sem Bool,RDs K Q4r Qkr,R.ok d S,R Src,Qzs D.jz.symm,Qx.contains n,Qw.set j,Qms z,Qjv a fa,QfT.trans Q5O,QfM.set t QkD,Qbq b,QZ0.is k' e.2,QOY.map D.int,QNq Q3F QKU S,Q7x S,Q4s QgO QnO E,Q0w S,PwL l,Paired.snoc r,0,0,0,0,0,0,List Vb1,List Qi0,List QLC,List QGQ,L.get? b,Inv X,Int.le_refl _,I.list h,ForInStep Xtg,ForInStep Xtc,FnOk Qyq,ExcO D y,E QzV QU,DTs Y,DS X,Bs κ P a p q,.sli QA .none,.ok yy S,.ok yx S,.ok yw S,.ok b S',.lst QWP,.int x t,.int 200,.inr QUK,.fro Q6L,.cons rv .nil,.cons Qg,.cons QS,.cons QQ,.cons QD,.call iw,.bool yx,.blt .mxl QK4,.and QAG,.Name n2,0,0,0,0,0,0,0,0 σ' QCr S' env',0 σ H Q,0 κ R a₀,0 z.2.2.2.2.1 QYs,0 x q y L,0 x c e v z,0 un hok bare QTP,0 src k a,0 ra rb h3 h4 Qfy,0 p.2 q.2.2,0 j pos,0 ha.1 hb.1,0 h' a ld,0 gs gens,0 fa fd [x],0 es.size 0,0 e pos,0 b o QGK e,0 a o xs,0 _ _ Qa,0 [it] it,0 X.xe s,0 X.stack QOq H s,0 X.env.scope x.1,0 X QT2 QM0,0 UO6 "__class__",0,0,0,0,0,0,0 UO4 z.1,0 Qjr mx my sx sy,0 QZw σ ρ H QC0,0 QQt Qwq,0 QML Qq1 j,0 QLL Q5H j,0 QKY [] H H' QBx,0 QGu Qj5,0 Q9r h2,0 Q31 [],0 Q1r pos,0 Q' QNJ rx,0 L ht hx,0 F G s QKq,0 (a:=a) (b:=a+1),zp1 k1,z.2.1.push y,z.2.1.push x,yz x.1,yz Qr8,yz QlD,yz Qke,yz QRb.toNat,yz QH1,yz QGF,yz QCF,yz Q68,yz Q53,yz Q4M,yz Q3B,yz Q1M,yz Q0P,yz Q02,x.keep a o h,x.fro _ _ h1,u.keep Qps n,0,0,0,0,0,0,0,u.free Qps n,tn i s'.heap,t.slot QrW.j,t.slot QV6.j,st'.adopt h0,setPending s,setFlight Qe,setField Q20,rk QHu,q1.append q2,pt S p,ps.map D.int,openGood QTw,mtT QS9 sc N,lg b,le QXw,ks.foldl ddR,kp _ _,hx b o QJG e,h1 _ _,eval o X.env,datFs Qwb xs,cut xs,congrArg QFc,aj.trans QAV,Xxq b.length,0,0,0,0,0,0,Xx QvD,Xtp op z.2.1,Xs QBK,Xn QDJ,Xj3 (e:=UF9),Xd QdO,Xd QbO,Xd QUA,Xbr yx,Xb b.reverse,Xah its lo c,Xaa S1,Xa5 (o:=.eq),Xa QfD,X4 QUw,X1q QHq is e,Vgi.mp h i j,Vfo p.isList,Vfh sc.names,Va QTF,V2 QW2,Us Q31 X.env,Uj1 S',Uf Qr1,UM2 hN hs hp,UJ2 (y:=Q2w),UI1 QU,UF1 ρ,RelV Q47 Q47,R (LD),QzH.take Q9D,Qvr H1,Qer e3,Qcu args QS6,QXv QQ9 H s',QSr it,0,0,0,0,0,0,0,QN6.push Qy0,QM.is h' k x,QCH.lookup a,QBy Qs,QBs h1,Q5w QA Q6 QD,Q18.Perm Qo3,Q yw s,Q w s',P3 QPq,OwnG m,K.In h,JK Qsq,JJ Qsq,Its s.heap p,Its h p us k,IntMulOk i j,I.kIn a o hk,Env0 QOq Qbs,Eb QKs,DO X,DE.congr QE5,DA X Q31 QWL,A.deeper Qu0,.var 3,.str "other",0,0,0,0,0,0,.ref O,.of k2,.mth .append,.int m,.int 6,.int 3,.inl q,.idx a,.cons t .nil,.cmp o QD QQ,.call it QWK,.call ib QL8,.call 14 Q45,.bin .sub Q6,.Attribute o,0 tb p w m ann n,0 t.moves t.mask,0 scope.names [],0 rs r1 r2 r3 r4,0 hs hT hb n Qq1,0 h0 hi Ul4 rest,0 h a us.toArray,0 UP6 Qv0 QD1 sr,0 Qu0.kindOf QS6,0 Qlq hl L hk h4,0 QaM s.abs.heap,0 QZw L Q4r na r,0 I.inv.quiet hs,0 0 100000 yy Q0,0 (t':=tk) kp Qa,0 (X:=[]) he QwP,0 (S:=B) (S1:=B)]
def oD0{p:Prop}[Decidable p](h:decide p=yx):p:=of_decide_eq_true h
def aB0{a b:Prop}(h:a)(k:¬a):b:=(k h).elim
def iP0{QGo}(h:c){Qlp}:QFY=t:=if_pos h
def iN0{QGo}(h:¬c){Qlp}:QFY=e:=if_neg h
def gZ0{α:Type u}{a:α}{Qrm}:Qfg[0]?=QIx:=rfl
def gS0{α:Type u}{a:α}{Qfi}{Qrm}:Qfg[i+1]?=l[i]?:=rfl
def bA0(a b:Bool):((a&&b)=yx)=(a=yx∧b=yx):=Bool.and_eq_true a b
section
namespace L2
open PySem PySem.Spec PyProof.Rows
private noncomputable abbrev Key:=Sum Int Str
abbrev X0w:Key->Vb->Bool
 |.inl k,v=>Value.isInt k v|.inr x,v=>Value.isStrOf x v
abbrev Ydl(w:V7):Key->Int
 |.inl k=>hashInt k|.inr x=>hashStr w x
def Y5:∀ {k:Key} {v:Vb},X0w k v=yx->(∃i t,k=Sum.inl i/\v=Vhu i t)\/(∃x t,k=Sum.inr x/\v=UvG)
 |.inl i,v,h=>by let⟨t,e⟩:=Vg9 (k:=i) (v:=v) h;calc .inl ⟨i,t,rfl,e⟩|.inr x,v,h=>by let⟨t,e⟩:=Value.isStrOf_shape (x:=x) (v:=v) h;calc .inr ⟨x,t,rfl,e⟩
def X5s(a b:Int):decide (QnI=UCD)=(a==b):=by
 by_cases e:a=b;·subst e;simp!
 ·let h:¬ QnI=UCD:=λq=>e (Sum.inl.inj q);rw[decide_eq_false h];calc(beq_eq_false_iff_ne.mpr e).symm
def X5t(a b:Str):decide (QmI=UBD)=decide QEV:=by
 by_cases e:a=b;·subst e;simp!
 ·let h:¬ QmI=UBD:=λq=>e (Sum.inr.inj q);rw[decide_eq_false h,decide_eq_false e]
def X5u(a:Int)(b:Str):decide (QnI=UBD)=false:=U57
def X5v(a:Str)(b:Int):decide (QmI=UCD)=false:=U57
abbrev Xkb{QCi}:PySem.KeyKind Qfq Key where
 is:=X0w
 hash:=Ydl w
 inj:=λv a b ha hb=>by
  rcases Y5 ha with⟨i,t,rfl,rfl⟩|⟨x,t,rfl,rfl⟩
  ·rcases Y5 hb with⟨j,u,rfl,e⟩|⟨y,u,rfl,e⟩;·injection e with L _;rw[L]
   ·exact nomatch e
  rcases Y5 hb with⟨j,u,rfl,e⟩|⟨y,u,rfl,e⟩;·exact nomatch e
  ·injection e with L _;rw[L]
 byValue:=λk v h=>by rcases Y5 h with⟨i,t,rfl,rfl⟩|⟨x,t,rfl,rfl⟩<;>rfl
 pyHash:=λhv h=>by
  rcases Y5 hv with⟨i,t,rfl,rfl⟩|⟨x,t,rfl,rfl⟩;·exact wpAny_pyHash_int h
  ·exact wpAny_pyHash_str h
 eqBool:=λhu hv h=>by
  rcases Y5 hu with⟨i,t,rfl,rfl⟩|⟨x,t,rfl,rfl⟩
  ·rcases Y5 hv with⟨j,u,rfl,rfl⟩|⟨y,u,rfl,rfl⟩;·rw[X5s]at h;exact US8
   ·rw[X5u]at h;exact SeqAt.EqAt.int_str i t y u Q5s h
  rcases Y5 hv with⟨j,u,rfl,rfl⟩|⟨y,u,rfl,rfl⟩;·rw[X5v]at h;exact SeqAt.EqAt.str_int x t j u Q5s h
  ·rw[X5t]at h;exact wpAny_eqBool_str h
 «strs»:=λk x t v h=>by
  rcases Y5 h with⟨i,u,rfl,e⟩|⟨y,u,rfl,e⟩;·exact nomatch e
  ·injection e with L _;subst L;cases v<;>rfl
universe L2
namespace L2
open PySem PySem.Spec PyProof.Rows
inductive V where
 |non|bl (b:Bool)|int (i:Int)|str (x:Str)|byt (b:Array UInt8)|flt (b:UInt64)|ref (a:Addr)|ty (n:String)
 deriving DecidableEq
private abbrev LW:=List V
theorem RelV:V->Vb->Prop
 |.non,u=>u=Vay|.bl b,u=>u=Ve4 b|.int i,u=>∃t,u=Vhu i t|.str x,u=>∃t,u=UvG|.byt b,u=>∃t,u=Value.bytes b t|.flt b,u=>∃t,u=Value.float b t|.ref a,u=>u=Ui a|.ty n,u=>u=Vcf n
private abbrev Vals:LW->LV->Prop:=Paired RelV
def Vals.length{xs:LW}{us:LV}(r:Qpr):QR=U2G:=Vhj r
def Vals.get:∀ {xs:LW} {us:LV} {i:Nat} {x:V},Qpr->xs[i]?=QJu->∃u,us[i]?=QIt/\RelV x u
 |_,_,_,_,.nil,e=>by simp! at e|_,_,0,_,Qft _,e=>by simp! at e;subst e;calc QzK|_,_,i+1,x,U46,e=>by let⟨u,h1,h2⟩:=Vals.get (i:=i) (x:=x) t QmE;calc⟨u,by simpa using h1,h2⟩
def Vals.set{x:V}{Qem}:∀ {xs:LW} {us:LV} (i:Nat),Qpr->Vals (xs.set i x) (us.set i u)
 |_,_,_,.nil=>.nil|_,_,0,U46=>USD|_,_,i+1,.cons q t=>.cons q (Vals.set r i t)
def Vals.append:∀ {xs ys:LW} {us L:LV},Qpr->Uo3 L->Vals QnJ (us++L)
 |_,_,_,_,.nil,s=>s|_,_,_,_,USD,s=>Qft (Vals.append t s)
def Vals.take:∀ {xs:LW} {us:LV} (n:Nat),Qpr->Vals QwX (us.take n)
 |_,_,0,_=>.nil|_,_,_+1,.nil=>.nil|_,_,n+1,USD=>Qft (Vals.take n t)
def Vals.drop:∀ {xs:LW} {us:LV} (n:Nat),Qpr->Vals QxX (us.drop n)
 |_,_,0,r=>r|_,_,_+1,.nil=>.nil|_,_,n+1,U46=>Vals.drop n t
theorem X5w:Option V->OV->Prop
 |some v,QIt=>QNr|none,yy=>True|_,_=>False
theorem KV{κ:Type}:List Qfe->List Qnc->Prop:=Paired λ(p:κ×V) (q:κ×Vb)=>p.1=q.1/\RelV p.2 q.2
abbrev kV:Key->V
 |.inl i=>QFu|.inr x=>UCE
inductive HO where
 |lst (xs:LW)
 |tup (xs:LW)
 |dK (kvs:List (Key×V))|dT (kvs:List (U69×V))
 |set (S:Int->Bool) (n:Nat)
 |ins (C dx:Addr) (fs:List Q9e)
 |own (x:Addr)
 |xd (fs:List Q9e)
 |met (f x:Addr)
 |rng (lo hi:Int)
 |frz (o:Obj) (u:HO)
 |tbl (q:Str)
 |ext (φ:Heap->Prop)
private noncomputable abbrev Hp:=Addr->UwD
abbrev upd{QJl}(o:HO):Hp:=λb=>if b=a then Qkq else H b
def Xp{H:Hp}{QIo}:Ud7 o a=Qkq:=by unfold upd;rw[iP0 rfl]
def Xg{QUn}{o:HO}(h:b≠a):Ud7 o b=H b:=by unfold upd;rw[iN0 h]
def Xem{QUn}{o u:HO}{QCq}(h':H b=QIt)(d:o≠u):a≠b:=by intro e;subst e;rw[h]at h';calc d (Um h')
def Xr{QUn}{o:HO}{QCq}(h':H b=yy):a≠b:=by intro e;subst e;rw[h]at h';cases h'
section
variable{QEq}
theorem ObjOk{Qdo}{Qxn}:HO->Prop
 |.lst xs=>QPs<=V6/\∃(its:LV) (n:Nat),QGt/\h.get? a=UmF|.tup xs=>QPs<=V6/\∃its:LV,QGt/\Vbx h Qxq|.dK kvs=>U4C<=V6/\QFV=yw/\∃vs,UxD/\h.DictOf Qsb a vs|.dT kvs=>U4C<=V6/\QFV=yw/\∃xs:List (U69×Addr×Vb),
   Paired (λ(p:U69×V) (q:U69×Addr×Vb)=>p.1=q.1/\H q.2.1=yz (.tup (p.1.map kV))/\RelV UJI) QWw /\
   ∃o es ep,QFr=Qkq/\o.ExactDict/\o.data=.dict es ep/\es.toList=xs.map (entryOfKey (Vfy Qsb))/\(xs.map QT).Nodup|.set S n=>h.SetOf QiS a S n|.ins UrA=>H dx=U5J/\Q2f<=1000/\dx≠a/\h.get? a=yz (PySem.W.instObj C dx) /\
   ∃mA,h.Ns1 dx mA/\(∀f,X5w QxU QQg)/\PySem.Within mA (fs.map QT)|.own _=>∃o,QFr=Qkq|.xd fs=>∃mA,h.Ns1 a mA/\∀f,X5w QxU QQg|.rng Qku=>∃t u v,QFr=yz QN|.frz o u=>QFr=Qkq/\ObjOk H h a u|.tbl q=>∃ps,QFr=yz {cls:=.none,data:=.fields ps}/\TriplesOk ps.toList/\∀pos cv,Ub3 ps.toList=yz cv->∃c o u vs t,cv=.ref c/\H c=QWu/\o.data=Qvs/\vs[1]?=yz (.str q t)|.met f x=>QFr=yz (Vi9 QP5 Qq2)|.ext L=>L h/\(∃o,QFr=Qkq)/\∀h1 h2:Heap,L h1->(∀o,h1.get? a=Qkq->h2.get? a=Qkq)->L h2
theorem Fix:HO->Prop
 |.tup _=>True|.frz _ _=>True|_=>False
theorem HOk{Qdo}{QHi}:Prop:=∀a o,H a=Qkq->UQ1 o
universe e
section
variable{Qdn}{H H':Hp}{Qak}{QIo}
def ObjOk.lt{Qso}:a<h.objs.size:=by
 cases o with
 |lst xs=>let⟨_,_,_,_,e⟩:=x;calc UZ6|tup xs=>let⟨_,_,_,p⟩:=x;calc p.lt|dK kvs=>let⟨_,_,_,_,o,_,_,e,_⟩:=x;calc UZ6|dT kvs=>let⟨_,_,_,_,o,_,_,e,_⟩:=x;calc UZ6|set S n=>let⟨o,_,_,_,e,_⟩:=x;calc UZ6|ins UrA=>let⟨_,_,_,e,_⟩:=x;calc UZ6|own y=>let⟨_,e⟩:=x;calc UZ6|xd fs=>let⟨_,⟨_,_,_,e,_⟩,_⟩:=x;calc UZ6|rng Qku=>let⟨_,_,_,e⟩:=x;calc UZ6|frz ob u=>let⟨e,_⟩:=x;calc UZ6|tbl q=>let⟨_,e,_⟩:=x;calc UZ6|met f y=>calc Vu (show QFr=yz _ from x)|ext L=>let⟨_,⟨_,e⟩,_⟩:=x;calc UZ6
def Paired.mapP{Qwi}{F G:α->β->Prop}:∀ {l₁:Q7r} {L:List β},Paired F l₁ L->(∀a b,F a b->G a b)->Paired G l₁ L
 |_,_,.nil,_=>.nil|_,_,USD,f=>.cons (f _ _ r) (Paired.mapP t f)
def ObjOk.stay{Qso}(k:∀b u,(b=a\/H b=U5J)->Qdr=QIt->Qqq=QIt)
  (ho:∀b,H b=U5J->UB9=U5J) (ht:∀b u,Fix u->H b=QIt->UB9=QIt):QPt H' h' a o:=by
 induction o with
 |lst xs=>let⟨z,its,n,r,e⟩:=x;calc⟨z,its,n,r,QUr⟩|tup xs=>let⟨z,its,r,ob,e,c⟩:=x;calc⟨z,its,r,ob,QUr,c⟩|dK kvs=>let⟨z,y,vs,r,ob,es,ep,e,c⟩:=x;calc⟨z,y,vs,r,ob,es,ep,QUr,c⟩|dT kvs=>let⟨z,y,xs,r,ob,es,ep,e,c⟩:=x;calc⟨z,y,xs,Paired.mapP r λp q z=>⟨z.1,ht _ _ trivial z.2.1,z.2.2⟩,ob,es,ep,QUr,c⟩|set S n=>let⟨ob,es,ep,t,e,c⟩:=x;calc⟨ob,es,ep,t,QUr,c⟩|ins UrA=>let⟨d,z,ne,e,mA,⟨L,es,ep,e2,c⟩,r⟩:=x;calc⟨ho _ d,z,ne,QUr,mA,⟨L,es,ep,k _ _ (.inr d) e2,c⟩,r⟩|own y=>let⟨ob,e⟩:=x;calc⟨ob,QUr⟩|xd fs=>let⟨mA,⟨L,es,ep,e,c⟩,r⟩:=x;calc⟨mA,⟨L,es,ep,QUr,c⟩,r⟩|rng Qku=>let⟨t,u,v,e⟩:=x;calc⟨t,u,v,QUr⟩|frz ob u ih=>let⟨e,q⟩:=x;calc⟨QUr,ih q⟩|tbl q=>let⟨ps,e,t,n⟩:=x;calc⟨ps,QUr,t,λpos cv z=>let ⟨c,o,u,vs,t,e1,e2,r⟩:=n pos cv z;⟨c,o,u,vs,t,e1,ht _ _ trivial e2,r⟩⟩|met f y=>let e:QFr=yz QVV:=x;show h'.get? a=yz QVV;calc k a _ Q10 e|ext φ=>let⟨p,⟨o,e⟩,st⟩:=x;calc⟨st _ _ p λo q=>k _ _ Q10 q,⟨o,QUr⟩,st⟩
def HOk.lt{Qlk}(e:H a=Qkq):a<h.objs.size:=Q4b.lt
def HOk.fresh{Qlk}(e:h.objs.size<=a):H a=none:=by
 cases q:H a with
 |none=>rfl|some u=>calc aB0 (Uj (x.lt q) e) QtE
def HOk.kept{Qlk}{Q5i}:U84 H h':=λa o e=>Q4b.stay (λb u _ q=>U05 q) Q3J λ_ _ _ q=>q
def HOk.laid{Qlk}{Q7o}(new:QPt UXB a o):U84 UXB:=λb u e=>by
 let hn:=x.fresh hp;by_cases L:b=a;·subst L;rw[Xp]at e;cases e;exact new
 ·rw[Xg L]at e;calc(x UiE).stay (λc v _ q=>k c v q) (λc q=>by rw[Xg Qpb];calc q) λc xs _ q=>by rw[Xg Qpb];calc q
universe e
theorem Rd{QJl}(u:HO):Prop:=H a=QIt\/∃o,H a=QWu
def Rd.ok{Qdn}{H:Hp}{QSi}{QZh}{u:HO}(r:Rd H a u){Qlk}:UQ1 u:=by
 rcases r with r|⟨o,r⟩;·exact x a u r
 ·let⟨_,q⟩:=x a _ r;calc q
theorem Mut:UwD->Prop
 |some QVe=>True|some (.dK _)=>True|some (.dT _)=>True|some (.set _ _)=>True|some (.ins QLq)=>True|some (.ext _)=>True|_=>False
section
variable{Qdn}{H:Hp}{Qak}{x e:Addr}{o':HO}
def HOk.write(ok:U84 H h){Qri}(ac:∃u,UFC=QIt)
  (new:QPt QgW h' x o'):U84 QgW h':=λb u q=>by
 let aa:∀c y,H c=yz (.own y)->c≠x:=λc y r z=>by subst z;rw[r]at mu;exact mu
 let ab:∀c u,Fix u->H c=QIt->c≠x:=λc u f r z=>by subst z;rw[r]at mu;cases u<;>first|exact mu|exact f
 by_cases hb:b=x;·subst hb;rw[Xp]at q;cases q;exact new
 ·rw[Xg hb]at q;by_cases L:b=e
  ·let q':H b=yz QzO:=by
    rcases he with z|z;·exact aB0 (L.trans z) hb
    ·rw[L];exact z
   rw[q]at q';cases q';let⟨v,hv⟩:=ac;exact⟨v,by rw[L];calc hv⟩
  exact(ok b u q).stay (λc v hc r=>k c v ?_ r) (λc r=>by rw[Xg (aa c b r)];calc r) λc xs f r=>by rw[Xg (ab c xs f r)];exact r
  rcases hc with rfl|hc;·exact L
  ·rintro rfl;rcases he with z|z;·exact aa c b hc z
   ·rw[hc]at z;cases z;calc hb rfl
universe e
structure Un(fs ex:LR)(H H':Hp)(h h':Heap):Prop where
 keep:∀b o,Qdr=Qkq->H b=yy->b ∉ fs->b ∉ ex->Qqq=Qkq
 slot:∀b o,Qdr=Qkq->H b=yy->b∈fs->b ∉ ex->∃sl,Qqq=yz QOE
 free:∀b o,Qdr=Qkq->H b=yy->b ∉ ex->UB9=yy
 there:∀b o,Qdr=Qkq->b ∉ ex->∃o',Qqq=yz o'
 tups:∀b xs,H b=UgB->UB9=UgB
 frzs:∀b o u,H b=QWu->UB9=QWu
 tbls:∀b ps,H b=U4J->UB9=U4J
section
variable{fs ex:LR}{H H1:Hp}{h h1 h':Heap}{a x e:Addr}{o:HO}
def Un.any(u:QHy H1 h h1){b:Addr}{ob:Obj}(q:Qdr=UW9)(n:H b=yy)(hx:b ∉ ex):∃sl,U55=yz {ob with slots:=sl}:=by
 by_cases L:b∈fs;·exact u.slot b ob q n L hx
 ·calc⟨ob.slots,u.keep b ob q n L hx⟩
def Un.kept{Q5i}:QHy H h h':=
 ⟨λb ob q _ _ _=>U8G,λb ob q _ _ _=>⟨ob.slots,U8G⟩,λ_ _ _ n _=>n,λb ob q _=>⟨ob,U8G⟩,λ_ _ q=>q,λ_ _ _ q=>q,λ_ _ q=>q⟩
def Un.refl:QHy H h h:=Un.kept λ_ _ q=>q
def Un.laid{Q7o}(L:H a=yy):QHy QU5 h h' where
 keep:=λb u q _ _ _=>U05 q
 slot:=λb u q _ _ _=>⟨u.slots,U05 q⟩
 free:=λb u q n _=>by rw[Xg (Uf (Uj Qlg hp))];exact n
 there:=λb u q _=>⟨u,U05 q⟩
 tups:=λb xs q=>by rw[Xg QIV];exact q
 frzs:=λb u xs q=>by rw[Xg QIV];exact q
 tbls:=λb ps q=>by rw[Xg QIV];calc q
def Un.write{Qri}(aa:∃u,UFC=QIt):QHy QCN h h':=by
 let hx:∀b,H b=yy->b≠x:=λb n z=>by subst z;rw[n]at mu;exact mu
 let hb:∀b,H b=yy->b≠e:=λb n z=>by
  subst z;rcases he with r|r;·exact hx b n r
  ·rw[n]at r;cases r
 let hm:∀b u,H b=QIt->¬ Mut QDg->b≠x:=λb u q nm z=>by subst z;rw[q]at mu;exact nm mu
 exact⟨λb u q n _ _=>U05 QFd q,λb u q n _ _=>⟨u.slots,U05 QFd q⟩,λb u q n _=>by rw[Xg (hx b n)];exact n,λb u q _=>?_,
  λb xs q=>by rw[Xg QfE];calc q,λb u xs q=>by rw[Xg QfE];calc q,λb ps q=>by rw[Xg QfE];calc q⟩
 by_cases L:b=e;·subst L;exact aa
 ·calc⟨u,U05 L q⟩
universe e
abbrev trk{QHi}{Qdo}:LR:=(Ud h.objs.size).filter λa=>Qyf.isSome
abbrev Xeu{QHi}{Qdo}:Heap:=Vcx h QwR
def Xus{QHi}{Qdo}:(Xeu h H).objs.size=h.objs.size:=PySem.W.hideAll_size _ _
def Xij{QSi}{H:Hp}{Qzl}{QBn}(n:H b=yy):U7A=Qkq:=
 Vez _ e λL=>by let q:(H b).isSome=true:=(Vh0.mp L).2;rw[n]at q;simp! at q
def X2c{QSi}{H:Hp}{Qzl}(e:U7A=Qkq):Qdr=Qkq/\H b=none:=by
 let L:Qdr=Qkq:=Vgl QwR e;calc QhR;cases q:H b with
 |none=>rfl|some x=>let hm:b∈trk h H:=Vh0.mpr ⟨Vb2.mpr (Vu L),by simp![q]⟩;let z:U7A=none:=Vb7 QwR hm;rw[z]at e;cases e
universe L2
namespace L2
open PySem PySem.Spec PyProof.Rows
structure Mod{Qum}(base:Heap):Prop where
 kin:Qzv
 glob:base.Ns Uw mg
 blt:∃mb,base.Ns Vgv mb/\∀x:Str,x ≠ "__name__" -> mb x=Ven x
 nolimit:base.NoLimit
structure Cx where
 prog:Vz
 w:V7
 K:Vh
 mg:Str->OV
 base:Heap
 A:Uq
 N:LS
 s₀:Vc
 H₀:Hp
 env:Env
 outer:Qhx
 stack:Qhx
 ex:LR
 fn:Str->Bool
 calm:Bool
 pn:LA
 xe:VP
abbrev frs(l:Qhx):LR:=l.filterMap (·.frame)
private noncomputable abbrev Cx.fs{QMl}:LR:=frs X.outer
theorem Vis{QCl}:Prop:=QAr=Q2r\/sc.names.lookup x=Qsr\/sc.names.lookup x=Qjt
theorem Loc{QCl}:Prop:=QAr=Q2r\/sc.names.lookup x=Qsr
theorem Ydm(env:Env){QHi}(m:Str->OV)(x:Str)(u:Vb):Prop:=
 (Qky=Q2r/\m x=QIt)\/((Qky=Qsr\/env.kindOf x=Qjt)/\∃c,QRx=QFv/\h.IsCell c QDg)
structure Cx.Ok{QMl}:Prop where
 mod:Mod Qbs
 kind:X.env.scope.kind=.function
 glob:X.env.globals=Uw
 blt:X.env.builtins=Vgv
 above:X.s₀.heap.objs.size<=X.env.locals
 inj:∀x y c,QYq=QFv->X.env.cells.lookup y=QFv->x=y
 has:∀x,(UBF=Qsr\/X.env.kindOf x=Qjt)->∃c,QYq=QFv
 cab:∀x c,U43=yx->QYq=QFv->X.s₀.heap.objs.size<=c
 hd:X.calm=yx->X.A.handled=yy
 frames:X.A.frames=yz X.stack
 stk:X.stack=X.outer\/(X.stack=X.env::X.outer/\X.env.frame=Ul0)
 exf:∀b∈X.ex,b≠X.env.locals/\∀x c,QYq=QFv->c≠b
 bs:∀b o,Qnt=Qkq->QTr=Qkq/\X.H₀ b=yy
 bsz:X.base.objs.size<=X.s₀.heap.objs.size
 noex:∀b o,Qnt=Qkq->b ∉ X.ex
 exfs:∀b∈X.ex,b ∉ X.fs
 funs:UW0 X.outer
 frf:∀b∈X.fs,X.H₀ b=yy
structure Inv{Qui}(σ:List QJQ){Qdo}(s:Vc):Prop where
 ok:X.Ok
 os:s.os=X.s₀.os
 bare:UTF
 base:Un X.fs X.ex X.H₀ H X.s₀.heap s.heap
 loc:∃m,Up2/\∀(i:Nat) (x:Str) (v:V),X.N[i]?=QJu->σ[i]?=UzI->Vis UJ6->∃u,QNr/\Ydm X.env s.heap m x u
 cell:∀x c,QYq=QFv->∃v,Qsu
 free:H X.env.locals=yy
 freeC:∀x c,QYq=QFv->H c=yy
 pin:∀p∈X.pn++pc,UxB=Uk0/\H p.1=yy/\p.1≠X.env.locals/\p.1 ∉ X.fs/\∀v,p.2.data≠UJ4
 hok:QXy H s.heap
 len:σ.length=X.N.length
section
variable{QQm}{pc:LA}{σ:List QJQ}{H H':Hp}{s:Vc}{h':Heap}
def Cx.Ok.nofr(ok:X.Ok){Qzl}(e:Qnt=Qkq):b ∉ X.fs:=λL=>by let:=(ok.funs.mem L).1;rw[e]at this;cases this
def Inv.bs{Q0h}:∀b o,Qnt=Qkq->QWq=Qkq/\H b=none:=λb o e=>⟨I.base.keep b o QTB.1 QTB.2 (I.ok.nofr e) QOQ,U3E QTB.1 QTB.2 QOQ⟩
def Inv.bk{Q0h}:∀b o,Qnt=Qkq->QWq=Qkq:=λb o e=>(I.bs Qps).1
def Inv.mod{Q0h}:Mod Qbs:=I.ok.mod
def Inv.kIn{Q0h}:X.K.In s.heap:=I.ok.mod.kin.keeps I.bk
def Inv.nolimit{Q0h}:s.heap.NoLimit:=I.ok.mod.nolimit.keeps I.bk
def Inv.lt{Q0h}:X.env.locals<s.heap.objs.size:=let ⟨_,hn,_⟩:=I.loc;hn.lt
def Inv.sz{Q0h}:X.s₀.heap.objs.size<=s.heap.objs.size:=Uh I.ok.above (Vc3 I.lt)
def Inv.nofs{Q0h}{QZh}(h:s.heap.objs.size<=a):a ∉ X.fs:=λL=>by let⟨_,o,ho,_⟩:=U2E;calc aB0 (Uj (UsC) (Uh I.sz h)) QtE
def Inv.cne{Q0h}:∀x c,QYq=QFv->c≠X.env.locals:=λx c e z=>by let⟨v,o,ho,hd⟩:=Q6v e;let⟨m,⟨o',es,ep,L,aa,_⟩,_⟩:=I.loc;rw[z,L]at ho;cases ho;rw[aa]at hd;cases hd
def Inv.funs{Q0h}:QIv X.outer:=by
 let all:∀(l:Qhx),(∀b∈frs l,b∈X.fs)->UW0 l->QIv l:=by
  intro l;induction l with
  |nil=>intro _ _;trivial|cons env r ih=>intro hs hl;let⟨hk,⟨L,o,hf,hn,ho,hd⟩,hr⟩:=hl;let hL:L∈X.fs:=hs L (by unfold frs;rw[U9,hf];calc V4);let⟨sl,e⟩:=I.base.slot L o ho (I.ok.frf L hL) hL λz=>I.ok.exfs L z hL;exact⟨hk,⟨L,_,hf,hn,e,hd⟩,ih (λb hb=>hs b (by unfold frs;rw[U9,hf];calc UN7 hb)) hr⟩
 calc all X.outer (λ_ hb=>hb) I.ok.funs
def Inv.stack{Q0h}:QIv X.stack:=by
 rcases I.ok.stk with e|⟨e,L⟩;·rw[e];exact I.funs
 ·rw[e];let⟨m,hn,_⟩:=I.loc;calc .cons (by rw[I.ok.kind];decide) L hn ?_ I.funs;calc Heap.get?_none_of_le (UC1 I.ok.above)
def Inv.stkSub{Q0h}:∀b∈frs X.stack,b∈X.env.locals::X.fs:=λb L=>by
 rcases I.ok.stk with e|⟨e,hf⟩;·rw[e]at L;exact UN7 L
 ·rw[e]at L;unfold frs at L;rw[U9,hf]at L;calc L
def Inv.stkFree{Q0h}:∀b∈frs X.stack,H b=none:=λb L=>by
 rcases Vv.mp (UI3 L) with e|L;·rw[e];exact I.free
 ·let⟨_,o,ho,_⟩:=U2E;calc U3E ho (I.ok.frf b L) λz=>I.ok.exfs b z L
def Inv.step{QRk}
  (aa:∀b∈ch,Qc2/\b≠X.env.locals/\Qp1/\∀p∈X.pn++pc,p.1≠b)
  (keep:∀b o,b≠X.env.locals->b ∉ X.fs->b ∉ ch->QWq=Qkq->H b=yy->Qqq=Qkq)
  (slot:∀b o,b≠X.env.locals->b∈X.fs->b ∉ ch->QWq=Qkq->H b=yy->∃sl,Qqq=yz QOE) (free:∀b o,b ∉ ch->QWq=Qkq->H b=yy->UB9=yy)
  (there:∀b o,b ∉ ch->QWq=Qkq->∃o',Qqq=yz o')
  (tups:∀b xs,H b=UgB->UB9=UgB) (frzs:∀b o u,H b=QWu->UB9=QWu) (tbls:∀b ps,H b=U4J->UB9=U4J)
  (ns:∀m,Up2->h'.Ns X.env.locals m) (hok:UXD) (hg:AllBare g'):
  Inv UYB Qm9:=by
 let af:∀b o,QTr=Qkq->b≠X.env.locals:=λb o e=>UxJ;let ae:∀b o,QTr=Qkq->b ∉ X.ex->b ∉ ch:=λb o e L hb=>by
  rcases (aa UQB).1 with z|z;·exact L z
  ·exact aB0 (Uj QJB z) QtE
 let ab:∀x c,QYq=QFv->∀v,Qsu->Ua3:=λx c e v QjX=>by
  let ac:c ∉ ch:=λz=>UaD rfl;by_cases hc:c∈X.fs;·let⟨sl,q⟩:=slot US9;exact QKZ
  ·exact⟨o,keep US9,hd⟩
 calc⟨I.ok,I.os,hg,⟨λb o e n hb L=>?_,λb o e n hb L=>?_,λb o e n L=>?_,λb o e L=>?_,λb xs e=>tups b xs (I.base.tups b xs e),λb o xs e=>frzs b o xs (I.base.frzs b o xs e),λb ps e=>tbls b ps (I.base.tbls b ps e)⟩,?_,λx c e=>?_,?_,λx c e=>?_,λp hp=>?_,hok,I.len⟩;·exact U6G QtZ hb QOF (Uj6 L) QMA
 ·let⟨sl,e1⟩:=Qqr L;let⟨ag,e2⟩:=slot b _ QtZ hb QOF e1 QMA;exact⟨ag,e2⟩
 ·let⟨o',e1⟩:=QHs L;exact free b o' QOF e1 QMA
 ·let⟨o',e1⟩:=QHs L;exact there b o' QOF e1
 ·let⟨m,hn,hl⟩:=I.loc;calc⟨m,ns m hn,λi x v e1 e2 e3=>?_⟩;let⟨u,r,l⟩:=UAG e1 e2 e3;calc QIZ;rcases l with l|⟨k,c,e,z⟩;·exact .inl l
  ·exact .inr ⟨k,c,e,ab x c e _ z⟩
 ·let⟨v,z⟩:=Q6v e;exact⟨v,ab UFI⟩
 ·let⟨m,⟨o,_,_,ho,_⟩,_⟩:=I.loc;exact free _ o (λz=>QQd.2.1 rfl) ho I.free
 ·let⟨v,o,ho,hd⟩:=Q6v e;exact free c o (λz=>UaD rfl) ho QaH
 ·let⟨e,n,ne,nf,d⟩:=QWy;let ac:p.1 ∉ ch:=λz=>(aa p.1 z).2.2.2 p hp rfl;calc⟨keep Qsx ne nf ac e n,free Qsx ac e n,ne,nf,d⟩
def Inv.un{Qpm}(u:Un X.fs [] H H' Qar){Qhn}:Qvr H' Q51:=by let⟨m,⟨o,es,ep,ho,r⟩,_⟩:=U9G;let⟨sl,hL⟩:=UoB Q9;calc UNA (ch:=[]) QyQ (λb o _ hb _ e n=>U9J hb Q9) (λb o _ hb _ e n=>u.slot Qps n hb Q9) (λb o _ e n=>UAJ Q9) (λb o _ e=>u.there Qps Q9) UP9 (λm' hm=>by let⟨o',ab,aa,L,r'⟩:=hm;rw[ho]at L;cases L;calc⟨_,ab,aa,hL,r'⟩) hok I.bare
def Inv.call{QRk}(u:UDF Qar){Qhn}(hg:AllBare g')
  (aa:∀b∈ch,Qc2/\b≠X.env.locals/\Qp1/\∀p∈X.pn++pc,p.1≠b):
  Inv UYB Qm9:=by
 let⟨m,⟨o,es,ep,ho,r⟩,_⟩:=U9G;let⟨sl,hL⟩:=UoB λz=>QQd.2.1 rfl;calc I.step (ch:=ch) aa (λb o hL hb L e n=>U9J (λz=>(Vv.mp (UI3 z)).elim hL hb) L) (λb o _ _ L e n=>u.any e n L) (λb o L e n=>UAJ L) (λb o L e=>u.there Qps L) UP9 (λm' hm=>by let⟨o',ae,ac,ab,r'⟩:=hm;rw[ho]at ab;cases ab;calc⟨_,ae,ac,hL,r'⟩) hok hg
def Inv.turned{t':Nat}{it:Addr}{Q0h}(k:∀b o,b≠it->QWq=Qkq->Qqq=Qkq)(hn:H it=yy)(hL:it≠X.env.locals)
  (h1:it∈X.ex\/X.s₀.heap.objs.size<=it) (h2:∀x c,QYq=QFv->c≠it) (h3:∀p∈X.pn++pc,p.1≠it):UI1 Q51:=by
 let aa:∀b u,H b=QIt->b≠it:=λb u e z=>by rw[z,hn]at e;cases e
 exact UNA (ch:=[it]) QaW QAF Qo9 Q0R
  Q8E UO3
 ·let e:b=it:=by simpa using hb
  subst e;exact⟨h1,hL,h2,h3⟩
 ·let⟨o,es,ep,ho,r⟩:=hm;exact⟨o,es,ep,k _ o (Ne.symm hL) ho,r⟩
 ·exact UDB λ_ _ _ q=>q;rcases L with z|z;·rw[z];exact aa UiE
  ·calc aa c _ z
def Inv.tok{Q0h}(t:Nat):UI1 {s with toks:=t}:=I.un (h':=s.heap) (t':=t) Un.refl I.hok
def Inv.kept{t':Nat}{QNi}:UI1 Q51:=I.un (Un.kept k) (I.hok.kept k)
def Inv.laid{QIo}{t':Nat}{QNi}(L:s.heap.objs.size<=a)(new:Qxr UXB a o):
  Inv QJq QU5 Q51:=I.un (Un.laid k L (I.hok.fresh L)) (I.hok.laid k L new)
def Inv.write{x e:Addr}{o:HO}{Qpm}(mu:Mut Qxf)(he:e=x\/H e=yz QzO)(k:∀b u,b≠e->QWq=QIt->Qqq=QIt)(L:∃u,UFC=QIt)
  (new:Qxr QCN h' x o):Qvr QCN Q51:=I.un (Un.write mu he k L) (I.hok.write mu he k L new)
def Inv.pins_of{L:LA}{Q0h}(h:∀p∈L,UxB=Uk0/\H p.1=yy/\p.1≠X.env.locals/\p.1 ∉ X.fs/\∀v,p.2.data≠UJ4):UfH L UY2:=
 ⟨I.ok,I.os,I.bare,I.base,I.loc,I.cell,I.free,I.freeC,λp hp=>QKJ.elim (λz=>I.pin p Q6c) (h p),I.hok,I.len⟩
def Xnh{N:LS}(hN:N.Nodup){Q6l}{Qil}(a:N[i]?=QJu)(b:N[j]?=QJu):i=j:=by let⟨h1,L⟩:=Vk.mp a;let⟨h2,e2⟩:=Vk.mp b;calc(List.getElem_inj hN).mp (L.trans e2.symm)
def Xl2{Qwj}(hx:Loc UJ6)(r:QNr)
  (h:∀s',U8K->(∃a,Vba a QBx/\(a=X.env.locals\/X.env.cells.lookup x=QIx))->UU1) (hf:U43=yx\/X.env.scope.names.lookup x=Q2r:=by first|calc .inl rfl|calc .inr rfl|assumption):Q1v QFL Qeq:=by
 let⟨m,hn,hl⟩:=U9G;let aj:(X.env.scope.kind == .class||(X.env.scope.kind == .module&&X.env.locals != X.env.globals))=false:=by rw[I.ok.kind];rfl
 let ac:i < σ.length:=by rw[I.len];exact Q5a.1
 let cne:=I.cne;let aa:∀ {a:Addr} {h':Heap},(∃o,Qkt=Qkq/\H a=yy)->U3D->QXy H h':=λ{a h'} ha hs b ob e=>by
  let⟨_,_,ab⟩:=ha;exact(I.hok b ob e).stay (λc w' hc q=>(hs.2 c ?_).trans q) Q3J λ_ _ _ q=>q;rintro rfl;rcases hc with rfl|hc;·rw[ab]at e;cases e
  ·rw[ab]at hc;cases hc
 rcases hx with hk|hk
 ·calc wpAny_storeName_local hk hn (λh' ak hs=>?_) aj;let⟨oL,_,_,al,_⟩:=id hn;calc h _ ⟨I.ok,I.os,I.bare,QM2,⟨_,ak,λj y v' L e2 e3=>?_⟩,λy c e=>?_,I.free,I.freeC,λp hp=>?_,aa ⟨oL,al,I.free⟩ hs,by simpa using I.len⟩ ⟨_,hs,.inl rfl⟩;·exact QeE.trans QF8
  ·let⟨sl,L⟩:=Qqr hx;exact⟨sl,QeE.trans L⟩
  ·let⟨o',L⟩:=QHs hx;exact⟨o',QeE.trans L⟩
  ·by_cases hj:j=i;·subst hj;rw[hi]at L;cases L;rw[Vam ac]at e2;cases e2;exact⟨u,r,.inl ⟨hk,by simp!⟩⟩
   ·rw[Vbh QMX]at e2;let⟨u',r',q⟩:=Ug9;calc QQW;rcases q with⟨k,e⟩|⟨k,c,e,z⟩;·calc .inl Qjc;let:y≠x:=λe=>hj (Xnh hN L (e▸hi));simp![this,e]
    ·exact .inr ⟨k,c,e,UtA⟩
  ·let⟨w',z⟩:=I.cell y c e;exact⟨w',UtA⟩
  let⟨e,n,ne,nf,d⟩:=QWy;exact⟨(hs.2 p.1 ne).trans e,n,ne,nf,d⟩
 ·let ae:U43=true:=by
   rcases hf with z|z;·exact z
   ·rw[z]at hk;cases hk
  let⟨c,hc⟩:=I.ok.has x (.inl hk);let⟨w',z⟩:=Q6v hc;calc wpAny_storeName_cell I.ok.kind hk hc z (λh' ai hs=>?_);let⟨oc,ah,ag⟩:=id z;calc h QU ⟨I.ok,I.os,I.bare,QM2,⟨m,hn.sameBut hs (Ne.symm (cne x c hc)),λj y v' L e2 e3=>?_⟩,λy c' e=>?_,I.free,I.freeC,λp hp=>?_,aa ⟨oc,ah,I.freeC x c hc⟩ hs,by simpa using I.len⟩ ⟨c,hs,.inr hc⟩;·exact QO3.trans QF8
  ·let⟨sl,L⟩:=Qqr hx;exact⟨sl,QO3.trans L⟩
  ·let⟨o',L⟩:=QHs hx;exact⟨o',QO3.trans L⟩
  ·by_cases hj:j=i;·subst hj;rw[hi]at L;cases L;rw[Vam ac]at e2;cases e2;exact⟨u,r,.inr ⟨.inl hk,c,hc,ai⟩⟩
   ·rw[Vbh QMX]at e2;let⟨u',r',q⟩:=Ug9;calc QQW;rcases q with q|⟨k,c',e,z'⟩;·exact UgK
    ·calc .inr ⟨k,c',e,z'.sameBut hs ?_⟩;rintro rfl;exact hj (Xnh hN L (I.ok.inj QLq e hc▸hi))
  ·by_cases af:c'=c;·subst af;exact Qkc
   ·let⟨w2,z2⟩:=I.cell y c' e;exact⟨w2,z2.sameBut hs af⟩
  let⟨e,n,ne,nf,d⟩:=QWy;calc⟨(hs.2 p.1 ?_).trans e,n,ne,nf,d⟩;intro q;rw[q,ah]at e;let q':oc=p.2:=Um e;calc d w' (by rw[<-q'];calc ag)
def Xc2{Qwj}{QDp}(r:QNr)
  (h:∀s',U8K->UU1) (hf:U43=yx\/X.env.scope.names.lookup x=Q2r:=by first|calc .inl rfl|calc .inr rfl|assumption):Q1v QFL Qeq:=
 Xl2 I hN hi L r (λs' I' _=>h s' I') hf
def Inv.call'{s':Vc}{ch:LR}{Q0h}(ho:s'.os=s.os)(u:UDF QBx)(hok:QXy Un4)(hg:AllBare s'.gens)
  (L:∀b∈ch,Qc2/\b≠X.env.locals/\Qp1/\∀p∈X.pn++pc,p.1≠b):QYt:=by
 let⟨h',g',d',t',o'⟩:=s';let e:o'=s.os:=ho;subst e;calc I.call (g':=g') (t':=t') (d':=d') u hok hg L
universe e
private abbrev XK:=Vb->QCu->Hp->Prop
private noncomputable abbrev St:=List QJQ
private abbrev VK:=V->Hp->Prop
private abbrev TE:=St->Hp->VK->Prop
theorem EP{Qtp}(Q:VK){QQo}:Prop:=∃v H',QYt/\RelV v u/\Q v H'
theorem TP{Qtp}(Q:Bool->Hp->Prop){Qtk}{Qmm}:Prop:=∃H',QYt/\Q b H'
theorem PE{QRp}(t:TE):Prop:=
 ∀(pc:LA) (s:Vc) (σ:St) (H:Hp) (Q:VK),Qbt->t UBI->Q4s QC3 UJ0
def thn{Q7h}{t:Sem α}{Q Q':α->Vc->Prop}{QDj}{s:Vc}(h:Q1v t Qeq)(L:∀a s,Q a s->Q' a s):Q1v t Q' E s:=Vp h L λ_ _ x=>x
universe L2
namespace L2
open PySem PySem.Spec PyProof.Rows
section
variable{QQm}
def bin{a b:Expr}{ta tb:TE}(ha:PE X a ta)(hb:PE X b tb){QGj}{R:V->V->Hp->Prop}{Q0h}(h:ta σ H λx H1=>tb σ H1 λy H2=>R x y H2)
  {α:Type} {Q:α->Vc->Prop} {f:Vb->Vb->Sem α}
  (hf:∀v u L x y H2,Qvr H2 L->Qax->Uu3->R x y H2->UKF L):
  Vf QTq QEC (λv s₁=>Q4s QDC (λu s₂=>UKF s₂) X.xe s₁) UVI:=by
 calc thn (ha Qiq _ I h) λv s1 ⟨x,H1,I1,r1,q1⟩=>?_;calc thn (hb pc s1 σ H1 _ I1 q1) λu L ⟨y,H2,I2,r2,q2⟩=>?_;calc hf v u L x y H2 I2 r1 r2 q2
abbrev Ydn{QQl}:TE:=fun σ H Q=>∃v,σ[i]?=UzI/\Q v H
abbrev tC(v:V):TE:=λ_ H Q=>Q v H
def X5x {Qfi}{Qil}{Q4l}{QVl}(hd:Qk=false:=by decide)(aa:QX2=false:=by decide):PE X Qh7 (Ydn i):=by
 intro pc QCx Q I h;let⟨v,e,h⟩:=h;let⟨m,hn,hl⟩:=I.loc;let⟨u,r,l⟩:=UAG hN e hv;let fin:UA4 u s:=⟨v,H,I,r,h⟩;rcases l with⟨L,hm⟩|⟨L,c,hc,hcell⟩;·exact wpAny_Name (wpAny_loadName_local I.ok.kind L hn hm fin) hd
 ·rcases L with L|L;·exact wpAny_Name (wpAny_loadName_cell Um4) hd
  ·calc wpAny_Name (wpAny_loadName_free Um4 aa) hd
def X5y{i UKI}:PE X QHM (tC Q91):=λ_ _ _ H _ I h=>wpAny_Constant_int ⟨QFu,H,I.tok _,Qd,h⟩
def Ybk{b UKI}:PE X (.Constant QaB UKI) (tC QnH):=λ_ _ _ H _ I h=>Constant_bool ⟨.bl b,H,I,rfl,h⟩
def X5z{j pos}:PE X QXK (tC .non):=λ_ _ _ H _ I h=>Constant_none ⟨.non,H,I,rfl,h⟩
def X50{x UKI}:PE X (.Constant QQK UKI) (tC QQK):=λ_ _ _ H _ I h=>Calls.Constant_str ⟨UCE,H,I.tok _,Qd,h⟩
theorem Gl{QMl}(x:Str):Prop:=UBF=yz .globalImplicit
def Xe3{Q3k}(L:Uv8=QIt)(h:Q u s)
  (hd:Qk=false:=by decide):Q4s Q9R Qeq:=
 Vi6 I.ok.kind hg (Calls.loadGlobal_global Q9A L h) hd
def Y8{Q3k}(hm:Uv8=yy)(L:Ven x=QIt)(h:Q u s)
  (hn:x ≠ "__name__":=by decide) (hd:Qk=false:=by decide):Q4s Q9R Qeq:=by
 let⟨mb,h1,h2⟩:=I.mod.blt;calc Vi6 I.ok.kind hg (Calls.loadGlobal_builtin Q9A hm (by rw[I.ok.blt];calc h1.keeps I.bk) ((h2 x hn).trans L) h) hd
universe e
universe L2
namespace L2
open PySem PySem.Spec PyProof.Rows
theorem SqL{QOp}(xs:LW):Prop:=
 Rd H a Qx0 \/
  ∃(o:Obj) (its:AV) (n:Nat),QLw=Qkq/\o.cls=Qzq /\ o.dict=yy/\o.data=UTA/\its.size<=V6/\Vals xs its.toList
theorem SqT{QOp}(xs:LW):Prop:=
 Rd H a QJ0 \/
  ∃(o:Obj) (its:AV) (n:Nat),QLw=Qkq/\o.cls=Qpq /\ o.data=UTA/\its.size<=V6/\Vals xs its.toList
abbrev Ydo:Vb->Option V
 |.none=>yz .non|.bool b=>yz QnH|.int i _=>yz Q91|.str x _=>yz QQK|.bytes b _=>yz (.byt b)|.float b _=>yz (.flt b)|.ref a=>yz Qe|.type n=>yz (.ty n)|_=>yy
def RelV.abs{x:V}{Qem}:Ydo u=QJu:=by
 cases x with
 |non=>cases r;rfl|bl _=>cases r;rfl|int _=>let⟨t,rfl⟩:=r;rfl|str _=>let⟨t,rfl⟩:=r;rfl|byt _=>let⟨t,rfl⟩:=r;rfl|flt _=>let⟨t,rfl⟩:=r;rfl|ref _=>cases r;rfl|ty _=>cases r;rfl
def RelV.inj{x y:V}{Qem}(q:Uu3):x=y:=Um (r.abs.symm.trans q.abs)
def Vals.inj:∀ {xs ys:LW} {us:LV},Qpr->Uo3 us->xs=ys
 |_,_,_,.nil,.nil=>rfl|_,_,_,USD,.cons r' t'=>by rw[r.inj r',Vals.inj t t']
section
variable{QQm}{QRh}{QZh}{xs ys:LW}
def SqL.of{Qck}(h:H a=Qqu):UFD:=.inl QVK
def SqT.of{Qck}(h:H a=UgB):UO7:=.inl QVK
def Inv.list{QOo}:∃its:LV,QGt/\PlainL Qaw/\QR<=V6:=by
 rcases h with h|⟨o,its,n,hk,L,hd,hs,hz,r⟩;·let⟨z,its,n,r,e⟩:=h.ok I.hok;exact⟨its,r,⟨_,n,e,rfl,rfl,rfl⟩,z⟩
 ·calc⟨its.toList,r,⟨o,n,URK,L,hd,by simpa using hs⟩,?_⟩;let e:=r.length;simp[Vy]at e;omega
def Inv.tuple{QNo}:∃its:LV,QGt/\Vbx Qaw/\QR<=V6:=by
 rcases h with h|⟨o,its,n,hk,L,hs,hz,r⟩;·let⟨z,its,r,p⟩:=h.ok I.hok;exact⟨its,r,p,z⟩
 ·calc⟨its.toList,r,⟨o,URK,L,n,by simpa using hs⟩,?_⟩;let e:=r.length;simp[Vy]at e;omega
def Inv.list_inj{QOo}(h':SqL QAw a ys):xs=ys:=by
 let⟨its,r,⟨o,n,e,_,_,d⟩,_⟩:=UhH;let⟨L,r',⟨o',n',e',_,_,d'⟩,_⟩:=I.list h';rw[e]at e';cases e';rw[d]at d';injection d' with d1 _;let:its=L:=by simpa using congrArg Array.toList d1
 subst this;calc r.inj r'
def Inv.tuple_inj{QNo}(h':Us3 a ys):xs=ys:=by
 let⟨its,r,⟨o,e,_,n,d⟩,_⟩:=U0E;let⟨L,r',⟨o',e',_,n',d'⟩,_⟩:=I.tuple h';rw[e]at e';cases e';rw[d]at d';injection d' with d1 _;let:its=L:=by simpa using congrArg Array.toList d1
 subst this;calc r.inj r'
universe e
private noncomputable abbrev Cx.wish{QMl}(E:VP):Cx:={ X with xe:=E}
def Cx.Ok.wish{QQm}(ok:X.Ok)(E:VP):Q94.Ok:=
 QI1
def Cx.Ok.unwish{QQm}{Qro}(ok:Q94.Ok):X.Ok:=
 QI1
section
variable{QQm}{QRh}{Qro}
def Inv.wish{Q0h}(E:VP):UQF:=⟨I.ok.wish E,I.os,I.bare,I.base,I.loc,I.cell,I.free,I.freeC,I.pin,I.hok,I.len⟩
def Inv.unwish(I:UQF):Qbt:=⟨I.ok.unwish,I.os,I.bare,I.base,I.loc,I.cell,I.free,I.freeC,I.pin,I.hok,I.len⟩
def Inv.quiet{QRh}{Q0h}:interactive X.env=false:=by simp![interactive,I.ok.kind]
universe e
private abbrev TG:=V->St->Hp->QuT->Prop
private abbrev TGs:=LW->St->Hp->QuT->Prop
theorem PG{QMl}(L:Expr)(t:TG):Prop:=
 ∀(pc:LA) (s:Vc) (σ:St) (H:Hp) (v:V) (u:Vb) (Q:St->Hp->Prop),Qbt->QNr->t v UBI ->
  Vf QTq (assign L X.env u) (λ_ s'=>∃ aa H',QXv aa H' s'/\Q aa H') UVI
theorem PGs{QMl}(ts:LX)(t:TGs):Prop:=
 ∀(pc:LA) (s:Vc) (σ:St) (H:Hp) (vs:LW) (us:LV) (Q:St->Hp->Prop),Qbt->QWs->t vs UBI ->
  Vf QTq (assignInOrder ((Vb8 ts X.env).map QK1) us) (λ_ s'=>∃ L H',QXv L H' s'/\Q L H') UVI
private abbrev Ydp:=V->V->V->Hp->QMa->Prop
theorem Ydq{QMl}(t:Ydp):Prop:=
 ∀(pc:LA) (s:Vc) (σ:St) (H:Hp) (o i v:V) (ov L u:Vb) (Q:Hp->Prop),Qbt->RelV o ov->RelV i L->QNr->t o i v H Q ->
  Vf QTq (Uo2 L u) (λ_ s'=>∃H',QYt/\Q H') UVI
section
variable{QQm}{Q4l}
abbrev X0x{QQl}:TG:=λv σ H Q=>Q QQ9 H
def X2d{Qfi}{Qil}{Qhh}{QDp}(hf:U43=yx\/X.env.scope.names.lookup x=Q2r:=by first|calc .inl rfl|calc .inr rfl|assumption):PG X Qh7 Qkf:=by intro pc QCx v u Q I r h;calc Vja (Xc2 I hN hi L r (λs' I'=>⟨_,H,I',h⟩) hf)
abbrev X51:TGs:=λvs σ H Q=>vs=[]/\Q σ H
abbrev X0y(t:TG)(u:TGs):TGs:=λvs σ H Q=>∃v r,vs=v::r/\t v σ H λL H'=>u r L H' Q
def X2e:PGs X [] X51:=by intro pc UqE;let⟨e,h⟩:=h;subst e;cases r;calc Vjb ⟨σ,H,I,h⟩
def Xxy{QTh}{es:LX}{t:TG}{u:TGs}(h1:PG X e t)(h2:PGs X es u)
  (hs:(Vb8 QX5 X.env).map QK1=assign UgA::QI3.map QK1:=by rfl):PGs X QX5 (X0y t u):=by
 intro pc UqE;let⟨v,vr,e1,h⟩:=h;subst e1;cases r with
 |cons r L=>rw[hs];calc Ve5 (thn (h1 Qiq QLq I r h) λ_ s1 ⟨σ1,H1,I1,q1⟩=>?_);calc h2 pc s1 σ1 H1 _ _ Q I1 L q1
abbrev Ydr{Quk}{QEj}(t:TGs):TG:=λv σ H Q=>∃a xs,v=QYr/\SqT Qws/\QR=n/\t xs UBI
def X52{es:LX}{Qgj}{t:TGs}{Qoi}{QLh}(h:PGs X es t)
  (hn:QI3.length=n:=by rfl) (L:UjD=none:=by rfl):PG X QkQ (Ydr X.K n t):=by
 intro pc QCx v u Q I r hw;let⟨a,xs,e1,hq,hl,hw⟩:=hw;subst e1;cases r;let⟨its,rv,ht,hz⟩:=Q5v;calc assign_Tuple_tuple Qi4 ht (by simp![hn,<-hl,rv.length]) L λh' hx=>?_;let I1:U0K:=Ur7 λb o e=>hx URI;calc h pc _ σ H xs _ Q I1 (by simpa using rv) hw
universe e
structure It where
 go:Nat->Hp->Prop
 yld:Nat->Hp->V->Hp->Prop
 stop:Nat->Hp->Prop
theorem Xcb{Qui}{Qdo}(b:Addr):Prop:=
 H b=yy/\b≠X.env.locals/\b ∉ X.fs/\Qc2/\Qp1/\∀p∈X.pn++pc,p.1≠b
def Inv.fpOk{Qyp}{H H':Hp}{s:Vc}{b:Addr}{Q0h}(L:s.heap.objs.size<=b)(hn:UB9=yy):UL5:=by
 calc⟨hn,Vca (Uj I.lt L),I.nofs L,.inr (Uh I.sz L),λx c e z=>?_,λp hp z=>?_⟩;·let⟨v,q⟩:=Q6v e;exact aB0 (Uj q.lt QzF) QtE
 ·calc aB0 (Uj (Vu QRX.1) QzF) QtE
structure Turn{QEq}{Quk}(tg:Expr)(J:It)(fp:LR)(it:Addr)(tn:Nat->Heap->Prop):Prop where
 mem:it∈fp
 obj:∀i h,tn i h->∀b∈fp,∃o,Qdr=Qkq/\∀v,o.data≠UJ4
 keep:∀i h h',tn i h->(∀b∈fp,∀o,Qdr=Qkq->Qqq=Qkq)->tn i h'
 item:∀(X:Cx),X.prog=P->X.w=w->X.K=K->X.calm=yx->∀(i:Nat) (pc:LA) (s:Vc) (σ:St) (H:Hp) (E:VP),Qbt->Q2J->Uu6->J.go i H ->
  Vf QHA X.A QoD (λr s1=>∃u,r=QIt /\
   Vf QHA X.A QnT (λ_ s2=>∃x H',Qvr H' s2/\RelV x u/\J.yld i H x H'/\tn Qq1 s2.heap/\∀b∈fp,UB9=yy) E s1) E s
 done:∀(X:Cx),X.prog=P->X.w=w->X.K=K->X.calm=yx->∀(i:Nat) (pc:LA) (s:Vc) (σ:St) (H:Hp) (E:VP),Qbt->Q2J->Uu6->J.stop i H ->
  Vf QHA X.A QoD (λr s1=>r=yy/\Inv QJq H s1) E s
 self:∀(A:Uq) (i:Nat) (s:Vc) (Q:VP) (E:VP),Uu6->Q Q20 s->Vf QHA A (Veo Q20) Qeq
theorem PIE{Qtp}(tg:Expr)(R:It->Hp->Prop)(L:Vb)(s2:Vc):Prop:=
 ∃(it:Addr) (fp:LR) (tn:Nat->Heap->Prop) (J:It) (H':Hp),L=.ref it/\Inv UYB s2/\Turn Qcs/\tn 0 s2.heap/\QLI/\R J H'
def Xmx{QDj}{s:Vc}{QPk}{it:Addr}{u:Vb}{o:Obj}{n:String}{vs:AV}{Q:Unit->Vc->Prop}(ho:s.heap.get? it=Qkq)(hc:o.cls=.type n)(hd:o.data=Qvs)
  (hn:ULH=yw) (L:Q () s):Q1v QnT Qeq:=by
 unfold Ve6;cases tg<;>first
  |calc Vd L
  | (cases u<;>first
    |calc Vd L
    | (exact Va (Vgw ho ?_)
       rw[hc,hd];show Q1v (if (ULH&&vs[0]?==yz (Vaa _))=yx then _ else _) Qeq;rw[iN0 (by intro h;rw[hn,Vcc]at h;cases h)]
       calc Vd L))
abbrev Itl{Quk}{Qji}:It:=
 ⟨λi H=>∃xs x,UFD/\xs[i]?=QJu,λi H x H'=>H'=H/\∀xs,UFD->xs[i]?=QJu,λi H=>∃xs,UFD/\QR<=i⟩
abbrev Itt{Quk}{Qji}:It:=
 ⟨λi H=>∃xs x,UO7/\xs[i]?=QJu,λi H x H'=>H'=H/\∀xs,UO7->xs[i]?=QJu,λi H=>∃xs,UO7/\QR<=i⟩
abbrev Itr(lo:Int){QEj}:It:=⟨λi _=>i<n,λi H x H'=>H'=H/\x=.int QTg,λi _=>n<=i⟩
def Xl3{Qoo}:QXx QvS UUI (λi h=>h.IsListIter it a i) where
 mem:=by simp!
 obj:=λi h st b L=>by
  let e:b=it:=by simpa using L
  subst e;let⟨o,e,c,d⟩:=st;exact QMC
 keep:=λi h h' st k=>st.at λo e=>U7C o e
 item:=by intro X QZv;subst hP hw hK;let⟨xs,x,hq,hx⟩:=hg;let⟨its,rv,p,hz⟩:=Qix;let⟨u,hu,ru⟩:=rv.get hx;let⟨f0,f1,f2,f3,f4,f5⟩:=US0;exact wpAny_pyNext_list_item st p.isList (x:=u) QpP λh' aa sb=>?_;let I1:U0K:=Qnv;let⟨o,e,c,d⟩:=id aa;exact⟨u,rfl,UX6 ⟨x,H,I1,ru,⟨rfl,λys hy=>by rw[I.list_inj hy hq];calc hx⟩,aa,λb L=>QjB.1⟩⟩
 done:=by intro X QZv;subst hP hw hK;let⟨xs,hq,hx⟩:=hg;let⟨its,rv,p,hz⟩:=Qix;let⟨f0,f1,f2,f3,f4,f5⟩:=US0;let hl:=rv.length;exact wpAny_pyNext_list_end Qi4 st p.isList Q83 λh' eb=>QK0
 self:=λ_ _ _ _ _ st h=>wpAny_pyIter_listiter st h
def Xsp{Qoo}:QXx QLc UUI (λi h=>h.IsTupleIter it a i) where
 mem:=by simp!
 obj:=λi h st b L=>by
  let e:b=it:=by simpa using L
  subst e;let⟨o,e,c,d⟩:=st;exact QMC
 keep:=λi h h' st k=>st.at λo e=>U7C o e
 item:=by intro X QZv;subst hP hw hK;let⟨xs,x,hq,hx⟩:=hg;let⟨its,rv,p,hz⟩:=Q5v;let⟨u,hu,ru⟩:=rv.get hx;let⟨f0,f1,f2,f3,f4,f5⟩:=US0;exact wpAny_pyNext_tuple_item UR9 (x:=u) QpP λh' aa sb=>?_;let I1:U0K:=Qnv;let⟨o,e,c,d⟩:=id aa;exact⟨u,rfl,UX6 ⟨x,H,I1,ru,⟨rfl,λys hy=>by rw[I.tuple_inj hy hq];calc hx⟩,aa,λb L=>QjB.1⟩⟩
 done:=by intro X QZv;subst hP hw hK;let⟨xs,hq,hx⟩:=hg;let⟨its,rv,p,hz⟩:=Q5v;let⟨f0,f1,f2,f3,f4,f5⟩:=US0;let hl:=rv.length;exact wpAny_pyNext_tuple_end Qi4 UR9 Q83 λh' eb=>QK0
 self:=λ_ _ _ _ _ st h=>wpAny_pyIter_tupleiter st h
def Xsq{QUm}:QXx QKa UUI (λi h=>UFB (lo+(i:Nat)*1) QoQ 1) where
 mem:=by simp!
 obj:=λi h st b L=>by
  let e:b=it:=by simpa using L
  subst e;exact⟨_,st,λv z=>by let z':Data.fields _=Data.cell v:=z;cases z'⟩
 keep:=λi h h' st k=>U7C _ st
 item:=by intro X QZv;subst hP hw hK;let⟨f0,f1,f2,f3,f4,f5⟩:=US0;let W:=Qzu 1 n;exact UN2 hg st λv h' tk hv aa kk=>?_;let⟨t,rfl⟩:=hv;let I1:UI1 QO:=Ua1;calc⟨_,rfl,Qgw rfl rfl Q2 ⟨.int QTg,H,I1,Qhc,QV0,aa,λb L=>QjB.1⟩⟩;rw[Int.mul_one]
 done:=by intro X QZv;subst hP hw hK;let⟨f0,f1,f2,f3,f4,f5⟩:=US0;exact U20 (by let:n<=i:=hg;omega) λh' eb=>QK0
 self:=λ_ _ _ _ _ st h=>Um0
universe L2
namespace L2
open PySem PySem.Spec PyProof.Rows
section
variable{QQm}{QPk}
def Xxz{QRh}{R:It->Hp->Prop}{Qro}{QDo}{t u v:Tok}{tk:Nat}{Q0h}{Qch}
  (q:R (Itr U78) H):UWH Q65:=by
 calc UR4 (small_one Q8s) ?_;let L:UI1 Q65:=I.kept λb o e=>Qyw
 exact⟨(UD2).objs.size,[(UD2).objs.size],_,_,H,rfl,
  L.kept (t':=tk) λb o e=>Qyw,Xsq _ U78,?_,λb hb=>?_,q⟩
 ·let e1:lo+QC5*1=lo:=by simp!
  let e2:Q8O-QC5=Ve1 Qku 1:=by rw[rangeSize_one];split<;>omega
  show UyD (lo+QC5*1) (Q8O-QC5) 1;rw[e1,e2];exact Um3 rfl
 ·let e:b=(UD2).objs.size:=by simpa using hb
  subst e;calc L.fpOk Qa (UMF)
abbrev Xbw(fp:LR){QHi}:LA:=fp.filterMap λb=>(Qdr).map λo=>(b,o)
def Xdw{fp:LR}{QSi}{Qzl}(L:b∈fp){QBn}:(b,o)∈Xbw fp h:=Vd3.mpr ⟨b,L,by rw[e];rfl⟩
def Xut{fp:LR}{QSi}{p:Addr×Obj}(L:p∈Xbw fp h):p.1∈fp/\h.get? p.1=Uk0:=by
 let⟨b,hb,e⟩:=Vd3.mp L;cases q:Qdr with
 |none=>rw[q]at e;cases e|some o=>rw[q]at e;let e':(b,o)=p:=Um e;subst e';calc⟨hb,q⟩
def Inv.pinned{QRh}{fp:LR}{Qdi}(ho:∀b∈fp,∃o,QWq=Qkq/\∀v,o.data≠UJ4):UfH (pc++Xbw fp s.heap) UY2:=
 I.pins_of λp hp=>QKJ.elim (λz=>I.pin p Q8e) λz=>by let⟨L,e⟩:=Xut z;let⟨f0,f1,f2,_⟩:=hf p.1 L;let⟨o,e',d⟩:=ho p.1 L;rw[e]at e';cases e';calc⟨e,f0,f1,f2,d⟩
def Inv.unpinned{pc pl:LA}{σ:St}{H:Hp}{s:Vc}(I:UfH Q3d UY2):Qbt:=I.pins_of λp L=>I.pin p (U4 _ QhS)
universe e
universe L2
namespace L2
open PySem PySem.Spec PyProof.Rows
private abbrev R2:=V->V->Hp->VK->Prop
theorem OpR{QMl}(f:Vb->Vb->U93)(r:R2):Prop:=
 ∀(pc:LA) (s:Vc) (σ:St) (H:Hp) (x y:V) (v u:Vb) (Q:VK),Qbt->Qax->Uu3->r x y H Q ->
  Vf QTq QGS UJ0
theorem Xg3{QMl}(f:Vb)(r:LW->Hp->VK->Prop):Prop:=
 ∀(pc:LA) (s:Vc) (σ:St) (H:Hp) (xs:LW) (us:LV) (Q:VK),Qbt->Qpr->r xs H Q ->
  Vf QTq QTN UJ0
theorem Yds{QMl}(r:V->Hp->(Bool->Hp->Prop)->Prop):Prop:=
 ∀(pc:LA) (s:Vc) (σ:St) (H:Hp) (x:V) (v:Vb) (Q:Bool->Hp->Prop),Qbt->Qax->r x H Q ->
  Vf QTq (truthy v) (TP QJq Q) UVI
section
variable{QQm}{a b:Expr}
theorem CMul(i j:Int):Prop:=(-Qwg<i/\i<2^64)\/(-Qwg<j/\j<2^64)
def CMul.ok{i j:Int}(h:CMul i j):UQK:=by
 rcases h with⟨h1,h2⟩|⟨h1,h2⟩;·exact .of_left QVL
 ·calc .of_right QVL
abbrev Ybl:HO->Bool
 |.lst _=>yx|.ins QLq=>yx|_=>yw
def Xdl{QGj}{QIo}{Q0h}{QCq}(p:Ybl o=yx):∃ob,Qkt=UW9/\ob.cls≠Qpq:=by
 cases o with
 |lst xs=>obtain⟨_,its,n,_,e⟩:(QPs)<=V6/\∃(its:LV) (n:Nat),QGt/\s.heap.get? a=UmF:=Qjx h;calc⟨_,e,(by show U0A ≠ Qpq;decide+kernel)⟩|ins UrA=>let x:=Qjx h;let⟨_,_,_,e,_⟩:=x;calc⟨_,e,(by show Ui C≠Qpq;calc λz=>by cases z)⟩|_=>calc aB0 (show yw=yx from p) Ue
theorem X53{Quk}(x:V){Qdo}{Q4n}:Prop:=
 match x with
 |.non=>k=yw|.bl b=>k=b|.int i=>k=QrU|.str y=>y.length<=V6/\k=((y.length:Int) != 0)|.byt y=>y.size<=V6/\k=((y.size:Int) != 0)|.ref p=>(∃xs,SqL K H p xs/\k = !xs.isEmpty)\/(∃xs,Ut3 p xs/\k = !xs.isEmpty)\/∃kvs,H p=yz Qdc/\k = !kvs.isEmpty|_=>False
def Xsr{κ:Type}{kvs:List Qfe}{vs:List Qnc}(r:UxD):QMW = !kvs.isEmpty:=by cases r<;>rfl
def Xi6{xs:LW}{QKp}(r:QGt):(!its.toArray.isEmpty) = !xs.isEmpty:=by cases r<;>simp!
def Xe4:(V6:Nat)<2^63:=by rw[Vav];decide
def X54:Yds X (λx H Q=>∃k,X53 X.K x H k/\Q k H):=by
 intro pc QCx x v Q I rx h;let⟨k,e,q⟩:=h;let hl:=Xe4;let hs:V6=16777216:=Vav;cases x with
 |non=>cases rx;let L:k=false:=e;subst L;calc truthy_none QDP|bl b=>cases rx;let L:k=b:=e;subst L;exact Vcd QDP|int i=>let⟨t,rfl⟩:=rx;let L:k=QrU:=e;subst L;exact PySem.P.truthy_int QDP|str y=>let⟨t,rfl⟩:=rx;obtain⟨hy,L⟩:y.length<=V6/\k=((y.length:Int) != 0):=e;subst L;exact PySem.P.truthy_str Q0 QiR|byt y=>let⟨t,rfl⟩:=rx;obtain⟨hy,L⟩:y.size<=V6/\k=((y.size:Int) != 0):=e;subst L;exact PySem.W.truthy_bytes Q0 QiR|ref p=>
  cases rx;let L:(∃xs,SqL QAw p xs/\k = !xs.isEmpty)\/(∃xs,Us3 p xs/\k = !xs.isEmpty)\/∃kvs,H p=yz Qdc/\k = !kvs.isEmpty:=e;rcases L with⟨xs,hx,L⟩|⟨xs,hx,L⟩|⟨kvs,hx,L⟩;·subst L;let⟨its,r,pl,hz⟩:=I.list hx;let aa:=r.length;exact wpAny_truthy_list pl.isList QtP QGD
  ·subst L;let⟨its,r,pl,hz⟩:=I.tuple hx;let aa:=r.length;exact truthy_tuple pl QtP QGD
  subst L;obtain⟨hz,hS,vs,r,m⟩:(U4C)<=V6/\(p==Vbn)=yw/\∃vs,UxD/\s.heap.DictOf (Xkb QOq) p vs:=I.hok p _ hx;let aa:QOG=Q8y:=Vhj r;calc wpAny_truthy_dict hS m Q0 ⟨H,I.tok _,by rw[Xsr r];calc q⟩|_=>calc(show False from e).elim
def Xss{x:V}{us:LV}(r:Vals [x] us):∃u,us=[u]/\RelV x u:=by
 cases r with
 |cons L r2=>cases r2;calc⟨_,rfl,L⟩
def X0z{x y:V}{us:LV}(r:Vals Qt7 us):∃u L,us=[u,L]/\RelV x u/\RelV y L:=by
 cases r with
 |cons r1 r2=>
  cases r2 with
  |cons r3 r4=>cases r4;calc⟨_,_,rfl,r1,r3⟩
def Xuu{QLh}:Xg3 X QM7 (λxs H Q=>∃i j,xs=Q92/\Q Q6G H):=by
 intro pc Qjs;let⟨i,j,rfl,q⟩:=h;let⟨u,w',rfl,⟨t,rfl⟩,⟨t',rfl⟩⟩:=X0z r;exact max_two_ints Qi4 λh' tk k=>Q2L;by_cases L:j>i;·rw[iP0 L,iP0 L];exact Qd
 ·rw[iN0 L,iN0 L];calc Qd
def Xuv{QLh}:Xg3 X QBG (λxs H Q=>∃i j,xs=Q92/\Q Q7G H):=by
 intro pc Qjs;let⟨i,j,rfl,q⟩:=h;let⟨u,w',rfl,⟨t,rfl⟩,⟨t',rfl⟩⟩:=X0z r;exact min_two_ints Qi4 λh' tk k=>Q2L;by_cases L:j<i;·rw[iP0 L,iP0 L];exact Qd
 ·rw[iN0 L,iN0 L];calc Qd
universe e
universe L2
namespace L2
open PySem PySem.Spec PyProof.Rows
structure Cls{Quk}(C:Addr):Prop where
 pg:PySem.W.plainGet K C Str.empty=yx
 hd:PySem.W.hasDictIn K C=yx
 po:PySem.W.plainOver K C=yx
 sa:Vel UO6 "__setattr__"=yz (yz (.builtin "object.__setattr__"))
universe L2
namespace L2
open PySem PySem.Spec PyProof.Rows
structure Room{Qmj}(A:Uq):Prop where
 gd:A.guards=Up4
 hd:A.handled=yy
 dp:A.depth+3*k+5<Vim
 un:A.units+16*k+200<Val
private abbrev Sp:=LW->Hp->VK->XK->Prop
private abbrev CXT:=Qhx->Hp->Vc->XK->Vb->Vc->Prop
structure Env0{QVh}(A:Uq){QIn}:Prop where
 frames:A.frames=yz outer
 mod:Mod K Ue2
 bs:∀b o,base.get? b=Qkq->QWq=Qkq/\H b=yy
 bsz:base.objs.size<=s.heap.objs.size
 funs:s.heap.FunFrames base outer
 frf:∀b∈frs outer,H b=yy
 hok:U84 H s.heap
 bare:UTF
theorem CE{Qhk}{QQo}:Prop:=
 ∃v H',s'.os=s.os/\AllBare s'.gens/\Un UgI/\HOk P w Un4/\RelV v u/\Q v H'
theorem CR(CX:CXT){Qhk}(E:XK)(r:Result){Qmm}:Prop:=
 match r with
 |.ok (.ret u)=>CE Uc2 UJB|.ok _=>False|.error e=>UW2 e s'
structure FnOk{QVh}(CX:CXT){QGn}(sp:Sp):Prop where
 len:∀vs H Q E,sp vs H Q E->Q8y=Qow
 run:∀(A:Uq) (outer:Qhx) (s:Vc) (H:Hp) (args:Args) (us:LV) (vs:LW) (Q:VK) (E:XK),Room k A->UU2->U7K->QWs->sp vs H Q E ->
  Vc1 QHA A QbR (CR CX Uc2 E) s
section
variable{Qyp}{H:Hp}{s s':Vc}
def Inv.env0{Q0h}:USK X.A Qux:=
 ⟨I.ok.frames,I.ok.mod,I.bs,UC1 I.sz,I.stack,I.stkFree,I.hok,I.bare⟩
def Inv.after{Q:VK}{u:Vb}{Q0h}(h:CE UWI Q UJB):UA4 UJB:=by let⟨v,H',os,bare,un,hok,r,q⟩:=h;let⟨hh,g,d,t,L⟩:=s';obtain rfl:L=s.os:=os;calc⟨v,H',I.call (h':=hh) (g':=g) (d':=d) (t':=t) (ch:=[]) UGI,r,q⟩
universe e
theorem Binds{Quk}(fd:Vdv)(ps:LS)(ds:LV):Prop:=
 ∀(s:Vc) (us:LV),Up7->Q1d.length=Qow->Qcu QbA (ps.zip Q1d)
def Binds.all{Qck}{Qpn}(h:∀us:LV,U2G=Qow->Vgm fd QbA=UyF):Binds UK0:=λs us _ hl=>by rw[Vcy]at hl |-;calc .of_eq (h us hl)
structure FnScope(N P:LS)(sc:U2):Prop where
 kind:sc.kind=.function
 co:sc.isCoroutine=yw
 gen:sc.isGenerator=yw
 nd:N.Nodup
 pre:N.take P.length=P
 par:∀x∈P,QAr=Q2r\/sc.names.lookup x=Qsr
 nofree:∀y∈sc.names,y.2≠.free
def Xl4{Q2j}:∀ {binds:List QDc} {m:Str->OV},QfK->bindL Vaz binds m x=m x
 |[],_,_=>rfl| (n,v)::r,m,h=>by
  unfold bindL;rw[Xl4 λw L=>h w QIA];split
  ·let:x≠n:=by rintro rfl;exact h v V4
   simp![this]
  rfl
def Xl5{Q2j}:∀ {binds:List QDc} {m:Str->OV},QfK->bindC Vaz binds m x=m x
 |[],_,_=>rfl| (n,v)::r,m,h=>by
  unfold bindC;rw[Xl5 λw L=>h w QIA];split;·rfl
  ·let:x≠n:=by rintro rfl;exact h v V4
   simp![this]
def Xl6{Q2j}{v:Vb}:∀ {P:LS} {vs:LV} {i:Nat} {m:Str->OV},P.Nodup->P[i]?=QJu->vs[i]?=UA2->Vaz x=Q2r ->
  bindL Vaz QGa m x=UA2
 |[],_,_,_,_,h,_,_=>by simp! at h|_::_,[],_,_,_,_,h,_=>by simp! at h|p::P,w::vs,0,m,nd,h1,h2,hk=>by simp! at h1 h2;subst h1;subst h2;show bindL UF8 p=_;unfold bindL;rw[Xl4 λv L=>QNH.1 Qof.1,iP0 hk];simp!|p::P,w::vs,i+1,m,nd,h1,h2,hk=>by show bindL UF8 x=_;unfold bindL;calc Xl6 UQ6
def Xl7{Q2j}{v:Vb}:∀ {P:LS} {vs:LV} {i:Nat} {m:Str->OV},P.Nodup->P[i]?=QJu->vs[i]?=UA2->Vaz x≠Q2r ->
  bindC Vaz QGa m x=UA2
 |[],_,_,_,_,h,_,_=>by simp! at h|_::_,[],_,_,_,_,h,_=>by simp! at h|p::P,w::vs,0,m,nd,h1,h2,hk=>by simp! at h1 h2;subst h1;subst h2;show bindC UF8 p=_;unfold bindC;rw[Xl5 λv L=>QNH.1 Qof.1,iN0 hk];simp!|p::P,w::vs,i+1,m,nd,h1,h2,hk=>by show bindC UF8 x=_;unfold bindC;calc Xl7 UQ6
abbrev start(N:LS)(vs:LW):St:=vs.map yz++Vm (N.length-Q8y) yy
abbrev Xst(CX:CXT){QFk}{QIn}(E:XK):Cx where
 prog:=P
 w:=w
 K:=K
 mg:=mg
 base:=base
 A:=UXK
 N:=N
 s₀:=s
 H₀:=H
 env:=Qhs cd
 outer:=outer
 stack:=Qhs cd::outer
 ex:=[]
 calm:=yx
 fn:=λ_=>yx
 pn:=[]
 xe:=λe s'=>Vf QHA (UXK) (leaving Qu0 e) (λ_ L=>UW2 e L) (λe' L=>UW2 e' L) s'
def Xni{sc:U2}{Qoi}{Qil}(h:QAr=Qsr):∃c,(Vb5 n UbA).lookup x=QFv:=by let q:=UsJ n [] QVK;calc Vep.mp q
def Xl8{CX:CXT}{QAk}{N ps:LS}{qual:Str}{QHp}{f:Addr}{cd:Vb}{A:Uq}{outer:Qhx}{s s1:Vc}{H:Hp}{E:XK}{us:LV}{Qfo}
  (S:Us5 scope) (hd:A.handled=yy) (L:UU2) (hl:QJ2=Qow) (r:QWs)
  (x:InCallC s s.heap.objs.size (bindL UxK λ_=>yy) (Vb5 QZ UrK) (bindC UxK λ_=>yy) s1):
  Inv QS7 Ug2:=by
 let ac:QW5<=N.length:=by let:=Qny S.pre;rw[Vaq]at this;omega
 let⟨h1,tk,rfl,hk⟩:=x.done;let aa:∀b:Addr,b ∉ QS7.ex:=λb z=>UU0
 exact⟨⟨L.mod,S.kind,rfl,rfl,UX0,λy z c h1 h2=>?_,λy hy=>?_,λy c _ h=>?_,λ_=>hd,Around.frames_deeper L.frames,.inr QV0,λb z=>UL2 Qib,L.bs,L.bsz,λb _ _=>aa b,λb z=>UL2 Qib,L.funs,L.frf⟩,
  rfl,L.bare,Un.kept hk,⟨_,x.toInCall.ns,λi y v h1 h2 h3=>?_⟩,λy c h=>⟨_,x.cell y c h⟩,UMF,λy c h=>?_,λp hp=>aB0 (show p∈([]:LA) from hp) Q9,L.hok.kept hk,?_⟩
 ·exact name_of_addr x.apart (Vc2 h1) (Vc2 h2)
 ·let hy:scope.names.lookup y=Qsr\/scope.names.lookup y=Qjt:=hy;rcases hy with hy|hy;·exact Xni hy
  ·exact aB0 rfl (S.nofree _ (Vc2 hy))
 ·exact Vc3 QEL
 ·let hi:i<Q8y:=by
   unfold start at h2;by_cases hi:i<Q8y;·exact hi
   ·rw[U3 QY0]at h2;rw[Vdq]at h2;split at h2<;>cases h2
  let ha:vs[i]?=UA2:=by
   unfold start at h2;rw[Vx QY0,Ur]at h2;cases e:vs[i]? with
   |none=>rw[e]at h2;cases h2|some a=>rw[e]at h2;cases h2;rfl
  let⟨u,hu,rv⟩:=r.get ha;let hp:ps[i]?=UR6:=by rw[<-S.pre,Vjq Q0];exact h1
  let ab:ps.Nodup:=by rw[<-S.pre];exact S.nd.sublist QKK
  calc⟨u,rv,?_⟩;rcases S.par y Qvf with k|k;·exact .inl ⟨k,Xl6 ab hp hu k⟩
  ·let⟨c,e⟩:=Xni (n:=s.heap.objs.size+1) k;calc .inr ⟨.inl k,c,e,?_⟩;let q:=x.cell y c e;rw[Xl7 ab hp hu (by show scope.names.lookup y≠_;rw[k];decide)]at q;exact q
 ·exact L.hok.fresh (Vc3 QEL)
 ·unfold start;show _=N.length;rw[Vw,Vg,Vfq];omega
universe L2
namespace L2
open PySem PySem.Spec PyProof.Rows
universe L2
namespace HT
open PySem PyProof.Rows
section
variable{Q2h}
def cat_tup{t b:Addr}{vs L:LV}{Q:VP}{QKn}(hb:Qxt b L.toArray)(hv:vs≠[])
  (h1:L=[]->Q Q35 s) (h2:L≠[]->UsD {s with heap:=s.heap.push {cls:=Qpq,data:=.seq Qme.toArray} })
  (hsz:QJ2+lg L<=V6):Qcq QFK Qeq:=by
 let⟨⟨cls,dd,data,sl⟩,ho,hc,n,hd⟩:=id ht;let⟨⟨ag,af,data2,ac⟩,aa,ae,n2,ab⟩:=id hb;simp at hc hd ae ab;subst hc hd ae ab;let e:vs.toArray++L.toArray=Qme.toArray:=by simp!
 by_cases hw:L=[]
 ·exact Q5r
   (tuple_addW1 t b Q8w (by simp![hw])) ⟨ho,aa,h1 hw⟩
 ·exact Q5r
   (tuple_addW2 t b Q8w (by simpa using hw) (by rw[Vn,Vn];calc hsz)) ⟨ho,aa,?_⟩
  rw[e];calc h2 hw
abbrev sIx{Q0p}:QXr->Nat
 |none=>d|some v=>if v<0 then QSC.toNat else UU3
def X55{Q0p}(hd:d<=n)(o:QXr):sIx n d o<=n:=by
 cases o with
 |none=>exact hd|some v=>
  show(if v<0 then QSC.toNat else UU3)<=n;by_cases L:v<0;·rw[iP0 L];omega
  ·rw[iN0 L];calc Nat.min_le_right _ _
def Xqu(v:Int){Q0p}:(if v<0 then max QSC 0 else min v (n:Int))=((sIx n d QCF:Nat):Int):=by
 show(if v<0 then max QSC 0 else min v (n:Int))=(((if v<0 then QSC.toNat else UU3):Nat):Int);by_cases L:v<0;·simp[iP0 L];omega
 ·simp[iN0 L];omega
def Xsu{QMi}{QEj}:Vgh Qku 1 (n:Int)=(Qr6,QpM):=by
 let h1:¬ ((1:Int)<0):=by omega
 unfold Vgh;simp[h1,if_false];exact Prod.ext ?_ ?_
 ·cases lo with
  |none=>rfl|some v=>exact Xqu v n 0
 cases hi with
 |none=>rfl|some v=>calc Xqu v n n
def Xsv(i j:Nat):Veg (i:Int) (j:Int) 1=j-i:=by
 unfold Veg;let h1:(1:Int)>0:=by omega
 simp[h1,if_true,Int.ediv_one];split<;>omega
def slicePart_{v:Vb}{o:QXr}{Q:QXr->Vc->Prop}(p:Vfr v o)(h:Q o s):Qcq (Builtin.Slice.slicePartIndex v) Qeq:=by
 cases p with
 |none=>calc slicePart_none h|int i t=>calc slicePart_int h
def sliceApplied_gen{sl:Addr}{vl vu:Vb}{Qfm}{QRm}{Qrh}
  (h:Q (Qr6,1,sIx n n hi-sIx n 0 lo) s):Qcq QHJ Qeq:=by
 let⟨os,aa,ab,L⟩:=id hs;unfold Vd8 Vji;calc Va (Va (UsG (x:=vl) rfl (Va (UsG (x:=vu) rfl (Va (UsG (x:=.none) rfl Q70))))));calc Va (slicePart_none ?_);show QXq (if ((1:Int)==0)=yx then _ else _) Qlr;rw[iN0 Q2];calc Va (slicePart_ pl (Va (slicePart_ pu Q6e)));show QXq (match Vgh Qku 1 (n:Int) with|(lo,hi)=>pure (lo,(1:Int),Veg Qku 1)) Qlr;rw[Xsu lo hi n];show QXq (pure (Qr6,(1:Int),Veg Qr6 QpM 1)) Qlr;rw[Xsv];calc UrG
def Xx0(xs:AV)(i k:Nat):(QBc.filterMap λ(m:Nat)=>xs[QsC.toNat]?).toArray=((xs.toList.drop i).take k).toArray:=by
 let e:(λ(m:Nat)=>xs[QsC.toNat]?)=λm=>xs[i+m]?:=by
  funext m;let:QsC.toNat=i+m:=by omega
  rw[this]
 rw[e];let:=pick_run xs i k;rw[Viy]at this;let L:((λx=>xs[x]?)∘λx=>i+x)=λm=>xs[i+m]?:=rfl;rw[L]at this;rw[this]
def getItem_tuple_cut{t sl:Addr}{items:AV}{vl vu:Vb}{Qfm}{Q:VP}(ht:Qxt t items){Qrh}
  (hw:¬ (sIx Qas=0/\sIx Qbr=items.size))
  (h:UsD {s with heap:=s.heap.push {cls:=Qpq,data:=UGB} })
  (hsz:items.size<=V6):UY7:=by
 let L:sizeOk (UGB):=by show((items.toList.drop (sIx Qas)).take QP0).toArray.size<=V6;rw[Vn,Vaq,Vbu,Vy];omega
 let hj:sIx Qbr<=items.size:=X55 UTI hi;let⟨os,ae,aa,af⟩:=id hs;let ab:QOw := QRW;unfold Vgc
 try with_reducible exact Ul ?_
 first|exact QMt|skip
 exact Va (U7B ?_)
 exact Va (U8A
  QjC)
 show Ua7;calc Va (UuA ?_);calc Va QmN;rw[iP0 Q2];calc Va (sliceApplied_gen hs pl pu ?_);let ac:¬ (Qr5=yx):=by intro q;rw[bA0,bA0]at q;let q1:((sIx Qas:Nat):Int)=0:=eq_of_beq q.1.1;let q2:sIx Qbr-sIx Qas=items.size:=eq_of_beq q.2;exact hw QyK
 show QXq (if Qr5=yx then _ else _) Qlr;rw[iN0 ac,Xx0]
 first
  |calc QWx QQH|calc QWx (Vad (Va Qzd) L)|calc Va (QWx (Vad Qzd L))|calc Va QnN
universe e
universe HT
namespace L2
open PySem PySem.Spec PyProof.Rows
section
variable{Qop}
abbrev Xkc(xs:LW){QMi}:LW:=(xs.drop (U4E 0 lo)).take (U4E QR hi-U4E 0 lo)
def Xh6(xs:LW){QMi}:(Xkc xs Qku).length<=QPs:=by unfold Xkc;rw[Vaq,Vbu];omega
universe e
universe L2
namespace L2
open PySem PySem.Spec PyProof.Rows
abbrev ixN{QEj}{Q3p}:Qyt:=if 0<=i then (if i<n then yz i.toNat else yy) else if-(n:Int)<=i then UwI else yy
abbrev atI{QFi}{Q3p}:UW1:=(ixN QR i).bind λj=>xs[j]?
def Xqv{Qoi}{i:Int}{j:Nat}(h:ixN n i=UX9):seqIndex? i n=UX9/\j<n/\-(n:Int)<=i/\i<n:=by
 unfold ixN at h;by_cases L:0<=i
 ·rw[iP0 L]at h;by_cases h1:i<n;·rw[iP0 h1]at h;let e:i.toNat=j:=Um h;exact⟨by rw[seqIndex_of L h1,e],by omega,by omega,h1⟩
  ·rw[iN0 h1]at h;cases h
 rw[iN0 L]at h;by_cases h1:-(n:Int)<=i;·rw[iP0 h1]at h;let e:QRb.toNat=j:=Um h;exact⟨by rw[seqIndex_neg Q0 h1,e],by omega,h1,by omega⟩
 ·rw[iN0 h1]at h;cases h
def Xkd{Q7h}{Qki}{i:Int}{v:α}(h:atI xs i=UA2):∃j,seqIndex? i QR=UX9/\xs[j]?=UA2/\j<QPs/\-(lg xs:Int)<=i/\i<QPs:=by
 unfold atI at h;cases e:ixN QR i with
 |none=>rw[e]at h;cases h|some j=>rw[e]at h;let⟨h1,h2,h3,L⟩:=Xqv e;calc⟨j,h1,h,h2,h3,L⟩
theorem Xke(b:Expr):Prop:=∀o i,subscripted b yw o i=operate [o,i] (Vgc o i)
theorem IxR{QMl}(r:R2):Prop:=
 ∀(value L:Expr) (pc:LA) (s:Vc) (σ:St) (H:Hp) (x y:V) (v u:Vb) (Q:VK),Qbt->Qax->Uu3->r x y H Q ->
  subscripted L yw v u=operate Qce (Vgc v u)->Q4s (Vf7 value L v u) UJ0
section
variable{QQm}{a b:Expr}
abbrev Ydt{Quk}:R2:=λx y H Q=>∃p xs i v,x=Qyy/\y=QFu/\SqL K H p xs/\atI xs i=UA2/\Q v H
abbrev Ydu{Quk}:R2:=λx y H Q=>∃p xs i v,x=Qyy/\y=QFu/\SqT K H p xs/\atI xs i=UA2/\Q v H
def X2f:IxR X (Ydt X.K):=by
 intro value L Qiq Qrx hs;let⟨p,xs,i,z,rfl,rfl,hq,he,q⟩:=h;cases rx;let⟨t,rfl⟩:=ry;let⟨its,r,pl,hz⟩:=Qix;let⟨j,h1,h2,h3,h4,h5⟩:=Xkd he;let⟨w,ew,aa⟩:=UvF;let hl:=r.length;let hn:=Xe4;let fin:UA4 w s:=QFT;by_cases h0:0<=i
 ·let hj:i.toNat=j:=by
   rw[seqIndex_of h0 h5]at h1;exact U3H
  exact item_listR UD6 hs
 let hj:(i+Q8B).toNat=j:=by rw[seqIndex_neg Q0 h4]at h1;rw[Vn,<-hl];exact U3H
 exact U40 pl.isList.typeIs slot_list_getitem.lookup
  (wpAny_getItem_list_neg (Q:=λr s'=>r=w/\EP QJq Q r s') UE6 QiX) hs
def X56:IxR X (Ydu X.K):=by
 intro value L Qiq Qrx hs;let⟨p,xs,i,z,rfl,rfl,hq,he,q⟩:=h;cases rx;let⟨t,rfl⟩:=ry;let⟨its,r,pl,hz⟩:=Q5v;let⟨j,h1,h2,h3,h4,h5⟩:=Xkd he;let⟨w,ew,aa⟩:=UvF;let hl:=r.length;let hn:=Xe4;let fin:UA4 w s:=QFT;exact U40 pl.typeIs slot_tuple_getitem.lookup
  (getItem_tuple (j:=j) (Q:=λr s'=>r=w/\EP QJq Q r s') pl Qtq (by rw[Vn,<-hl];calc h1) (by simpa using ew) QiX) hs
def Xsw(its:LV)(n j:Nat)(u:Vb):V9 QOM Qj={cls:=Qzq,data:=.seq (its.set j u).toArray n}:=by simp![V9]
def Inv.lst{QRh}{p:Addr}{xs:LW}{Q2q}:
  ∃(its:LV) (n:Nat),QGt/\s.heap.get? p=UmF/\QR<=V6:=by
 let⟨z,its,n,r,e⟩:=I.hok p _ h;calc⟨its,n,r,e,z⟩
def Inv.lstUpd{QRh}{p:Addr}{xs ys:LW}{its its':LV}{n L:Nat}{f:Obj->Obj}{Q2q}
  (ho:s.heap.get? p=UmF) (hf:f Qj=Qn9) (r:Uo3 its') (hz:QzG<=V6) (t:Nat):
  Inv QJq (UhD QfH) {s with heap:=Uo0 f,toks:=t}:=by
 let e:(Uo0 f).get? p=yz Qn9:=by rw[Vdb f ho (by rw[hf]<;>rfl),hf]
 calc I.write (x:=p) (e:=p) (by rw[h];trivial) Q10 (λb u hb q=>QkA.trans q) QC4 ?_;calc⟨hz,its',L,r,e⟩
theorem Ybm:V->V->V->Hp->QMa->Prop:=λo i v H Q=>∃p xs k j,o=Qyy/\i=Q1w/\H p=Qqu/\ixN QR k=UX9/\Q QcU
def Xx1:Ydq X Ybm:=by
 intro pc QCx o i v ov iv u Q I ro ri rv h;let⟨p,xs,k,j,rfl,rfl,hp,hj,q⟩:=h;cases ro;let⟨t,rfl⟩:=ri;let⟨its,n,r,L,hz⟩:=I.lst hp;let⟨h1,h2,h3,h4⟩:=Xqv hj;let hl:=r.length;let hn:=Xe4;let I':Qvr QcU {s with heap:=Uo0 (V9 QOM)}:=
  I.lstUpd hp L (Xsw its n j u) (r.set rv j) (by rw[Vb3];calc hz) s.toks
 by_cases h0:0<=k
 ·let hk:k.toNat=j:=by
   rw[seqIndex_of h0 h4]at h1;exact U3H
  exact PySem.W.ki_setAt L h0 Q0 (by rw[Vn,<-hl];calc h4) Q2I
 let hk:Q5f.toNat=j:=by rw[seqIndex_neg Q0 h3]at h1;rw[Vn,<-hl];exact U3H
 calc PySem.W.ki_setBack L Q0 (by rw[Vn,<-hl];calc h3) Q0 Q2I
def X00{Q3p}{Q0p}:max 0 (min (if i<0 then i+(n:Int) else i) n)=((UA9 d QcW:Nat):Int):=by
 show _=(((if i<0 then (i+(n:Int)).toNat else min i.toNat n):Nat):Int);by_cases h:i<0;·rw[iP0 h,iP0 h,Int.min_eq_left Q0,Int.max_comm,<-Int.toNat_eq_max]
 ·rw[iN0 h,iN0 h];omega
def Xnj{QMi}{QEj}:Q2G.1=((UA9 0 lo:Nat):Int)/\Q2G.2.1=((UA9 n hi:Nat):Int)/\Q2G.2.2=1:=by
 exact⟨?_,?_,rfl⟩
 ·cases lo with
  |none=>simp![Vd0,HT.sIx]|some i=>exact X00 i n _
 cases hi with
 |none=>simp![Vd0,HT.sIx]|some i=>calc X00 i n _
def Xmt(its:LV){QMi}:Qpv Qku yy=((its.drop (UOA 0 lo)).take (UOA Qn3 hi-UOA 0 lo)).toArray:=by let⟨h1,h2,L⟩:=Xnj Qku its.toArray.size;unfold slicePick;rw[h1,h2,L];simp[sliceRange_one,pick_run,Vn]<;>rfl
def Xnk:Xg3 X QCG (λxs H Q=>∃p ys,xs=Q7L/\QHE/\Q (.int QzG) H):=by
 intro pc Qjs;let⟨p,ys,rfl,hq,q⟩:=h;let⟨u,rfl,rx⟩:=Xss r;cases rx;let hn:=Xe4;rcases hq with hq|hq;·let⟨its,r',pl,hz⟩:=Qix;let L:=r'.length;exact Calls.call_len_list pl.isList Qy4 QB7
 ·let⟨its,r',pl,hz⟩:=Q5v;let L:=r'.length;calc len_tuple pl Qy4 QB7
def Xnl:Xg3 X Q2U (λxs H Q=>∃p ys,xs=Q7L/\QHE/\∀l,H l=yy->Q QqB QdU):=by
 intro pc Qjs;let⟨p,ys,rfl,hq,q⟩:=h;let⟨u,rfl,rx⟩:=Xss r;cases rx;let fin:∀(its:LV),Uo3 its->UX3<=V6->∀(h':Heap) (c':Nat),(∀b o',QWq=yz o'->Qqq=yz o') ->
   h'.get? s.heap.objs.size=yz {cls:=Qzq,dict:=yy,data:=UF0 c',slots:=#[]}->UA4 QB QU:=λits L hz h' c' kp e=>
  ⟨QTs,_,I.laid (t':=s.toks) kp Qa (show Qxr _ h' _ QfH from⟨hz,its,c',L,e⟩),rfl,q _ (UT2)⟩
 rcases hq with hq|hq;·let⟨its,L,pl,hz⟩:=Qix;let aa:=L.length;let⟨o,ho,hc,n,hd⟩:=pl.isList;exact UMC Q10 UG6 QzA Qy4
 ·let⟨its,L,pl,hz⟩:=Q5v;let aa:=L.length;let⟨o,ho,hc,n,hd⟩:=pl;calc UMC Q0F UG6 QzA Qy4
def Xf9:Xg3 X Qk4 (λxs H Q=>∃p ys,xs=Q7L/\((SqL QAw p ys/\∀l,H l=yy->Q QqB (QLt l Q0T))\/(Us3 p ys/\Q Q21 H))):=by
 intro pc Qjs;let⟨p,ys,rfl,h⟩:=h;let⟨u,rfl,rx⟩:=Xss r;cases rx;rcases h with⟨hq,q⟩|⟨hq,q⟩
 ·let⟨its,L,pl,hz⟩:=Qix;let aa:=L.length;calc call_tuple_list pl.isList (λh' kp=>?_) Qy4;let I1:U0K:=Ur7 kp;let I2:Qvr (QLt h'.objs.size Q0T) {s with heap:=h'.push {cls:=Qpq,data:=UF0} }:=
   I1.laid (t':=s.toks) (λb o e=>Qyw) Qa (show Qxr QLq Q0T from⟨hz,its,L,U64⟩)
  exact⟨UVA,_,I2,rfl,q _ QNQ⟩
 let⟨its,L,pl,hz⟩:=Q5v;calc call_tuple_same pl ⟨Qyy,H,I,rfl,q⟩
variable{QTh}
/- xs.append(e),list.index on a module's tuple .. are MtR facts of 06m -/
universe e
universe L2
namespace L2
open PySem PySem.Spec PyProof.Rows
theorem MtM{QMl}(id:String)(r:V->LW->Hp->VK->Prop):Prop:=
 ∀(pc:LA) (s:Vc) (σ:St) (H:Hp) (x:V) (xs:LW) (v:Vb) (us:LV) (Q:VK),Qbt->Qax->Qpr->r x xs H Q ->
  Vf QTq QSO UJ0
def Vals.one:∀ {x:V} {us:LV},Vals [x] us->∃u,us=[u]/\RelV x u
 |_,_,h=>by cases h with|cons r t=>cases t;calc QzK
def Vals.zero:∀ {us:LV},Vals [] us->us=[]
 |_,.nil=>rfl
def Vals.dropLast{QGk}:Vals xs.dropLast us.dropLast:=by
 induction h with
 |nil=>exact .nil|cons r t L=>
  cases t with
  |nil=>calc .nil|cons q t'=>calc Qft L
def Vals.rep{QGk}:∀k:Nat,Vals (Vm k xs).flatten (Vm k us).flatten
 |0=>.nil|k+1=>by rw[Vae,Vae,Vby,Vby];calc Vals.append h (Vals.rep h k)
def Xsx{QSk}:l.eraseIdx (UyA-1)=l.dropLast:=by
 induction l with
 |nil=>rfl|cons a r L=>
  cases r with
  |nil=>rfl|cons b r=>
   let e:Qjb.length-1=(Qcg.length-1)+1:=by let h1:Qjb.length=lg r+2:=rfl;let h2:Qcg.length=lg r+1:=rfl;omega
   rw[e,List.eraseIdx_cons_succ,L]
   all_goals rfl
def Xl9(its:LV):∀(k:Nat) (L:LV),
  Vgx Qt4 L.toArray (Vm k its.toArray)=(L++Q3a.flatten).toArray
 |0=>λL=>by simp!|k+1=>λL=>by
  let e:L.toArray++its.toArray=QkV.toArray:=by simp!
  let e2:QkV++Q3a.flatten=L++(Vm QB3 its).flatten:=by rw[Vae,Vby,Ug]
  rw[<-e2,<-Xl9 its k QkV,<-e,Vae,Vcg]
section
variable{QQm}{QRh}{l:Addr}{xs ys:LW}
def Inv.lset{its its':LV}{Qoi}{f:AV->AV}{Qpm}(hH:H l=Qqu)
  (e:QHv=UmF) (hf:f its.toArray=its'.toArray) (hv:Uo3 its') (hz:QzG<=V6):
  Inv QJq QdU {s with heap:=s.heap.update l Qog,toks:=t' }:=by
 let q:=PySem.IsL.update e f;rw[hf]at q;calc I.write (x:=l) (e:=l) (by rw[hH];calc trivial) Q10 (λb' u L hu=>(Vfi s.heap Qog (Ne.symm L)).trans hu) QFU ?_;calc⟨hz,its',_,hv,q⟩
def Inv.lnew{QKp}{Qpm}(L:Uo3 its)(hz:QzG<=V6):
  Inv QJq (Ug6 QfH) {s with heap:=s.heap.push {cls:=Qzq,data:=UF0},toks:=t' }:=
 I.laid (λ_ _ q=>Qwt q) Qa ⟨hz,its,0,L,Um3 rfl⟩
def Inv.fresh{Q0h}:Qbu=none:=UT2
def Inv.lstM{Q0h}(L:H l=Qqu):QR<=V6/\∃(its:LV) (n:Nat),QGt/\QR=Ub8/\s.heap.get? l=UmF:=by let⟨z,its,n,r,e⟩:=I.hok l _ L;calc⟨z,its,n,r,r.length,e⟩
def Xnm{Qoi}(h:n<=V6):Veq n=false:=by unfold Veq;calc QSx
theorem X2g:V->LW->Hp->VK->Prop:=λx vs H Q=>∃l xs y,x=UDE/\vs=[y]/\H l=Qqu/\QR<V6/\Q .non (QLt l (.lst (xs++[y])))
def Xma:MtM X "list.append" X2g:=by intro pc UM6 h;let⟨l,xs,y,rfl,rfl,L,hz,q⟩:=h;cases rx;let⟨u,rfl,ru⟩:=rv.one;let⟨z,its,n,r,hl,e⟩:=I.lstM L;calc Ve8 F.slot_list_append QdA F.entry_list_append (F.args_list_append_2 _ _) (PySem.list_append Q5t n u Q8A) QeR;calc⟨.non,_,I.lset (its':=its++[u]) L e Q9 (r.append QkH) ?_,rfl,q⟩;rw[Vw,List.length_singleton];omega
theorem Ydv:V->LW->Hp->VK->Prop:=λx vs H Q=>∃l xs y,x=UDE/\vs=[]/\H l=Qqu/\xs[lg xs-1]?=UR6/\Q y (QLt l Q2P)
def X57:MtM X "list.pop" Ydv:=by
 intro pc UM6 h;let⟨l,xs,y,rfl,rfl,hH,hy,q⟩:=h;cases rx;let aa:=rv.zero;subst aa;let⟨z,its,n,r,hl,e⟩:=I.lstM hH;let⟨u,hu,ru⟩:=r.get hy;let L:its.toArray[its.toArray.size-1]?=QIt:=by show its.toArray[lg its-1]?=QIt;rw[<-Ua,<-hl];exact hu
 calc Ve8 F.slot_list_pop QdA F.entry_list_pop (F.args_list_pop_1 _) (MeetsSeq.list_pop_last Q5t n u L Q8A) QeR;calc⟨y,_,I.lset (its':=its.dropLast) hH e ?_ r.dropLast ?_,ru,q⟩;·show its.toArray.eraseIdxIfInBounds (its.toArray.size-1)=its.dropLast.toArray;rw[Vn,List.eraseIdxIfInBounds_toArray,Xsx]
 ·rw[List.length_dropLast];omega
abbrev Ydw:R2:=λx y H Q=>∃l k xs,x=UDE/\y=Q1w/\H l=Qqu/\-(2^63)<=k/\k<2^63/\QR*k.toNat<=V6 /\
 ∀p,H p=yy->Q Q21 (UhD (.lst QWS.flatten))
def Xkf{QFi}{Qmj}:(Vm k xs).flatten.length=k*QPs:=by
 induction k with
 |zero=>simp!|succ k L=>rw[Vae,Vby,Vw,L,Vgo,Nat.add_comm]
def X58:OpR X QpY Ydw:=by
 intro pc QCx Qrx;let⟨l,k,xs,rfl,rfl,hH,h1,h2,hz,q⟩:=h;cases rx;let⟨t,rfl⟩:=ry;let⟨z,its,n,r,hl,e⟩:=I.lstM hH;let ac:its.toArray.size*k.toNat<=V6:=by rw[Vn,<-hl];exact hz
 let aa:¬ its.toArray.size*k.toNat>QrV/8:=by
  let:(V6:Nat)<=QrV/8:=by decide
  omega
 let ab:¬ (!Builtin.List.listFitsIndex k)=true:=by rw[fitsIndex_both Qwq];exact Ue
 let L:¬ Veq (its.toArray.size*k.toNat)=true:=by rw[Xnm ac];exact Ue
 let ae:Vgx Qt4 #[] (Vm (if its.toArray.isEmpty=yx then 0 else k.toNat) its.toArray)=(Uz9 its).flatten.toArray:=by
  let f0:∀m:Nat,Vgx Qt4 #[] QfO=(Vm m its).flatten.toArray:=λm=>by let:=Xl9 its m [];rw[Ve9]at this;exact this
  rw[f0];cases its with
  |nil=>simp!|cons a r'=>rw[iN0 Q9]
 exact Vjj (T:="list") (U:="int") Q2 QdA (λs'=>UpB t) noFill_list_mul F.fills_int_mul F.slot_int_rmul repeat_list F.slot_int_index.lookup
  (Ve8 F.slot_int_rmul (UxE t) F.entry_int_rmul (F.args_int_rmul_2 _ _) (int___rmul___int_list k t Q5t n)
   ⟨e,rfl,QdA,Ve8 F.slot_list_mul QdA F.entry_list_mul (F.args_list_mul_2 _ _) (AutoListH.list___mul___list_int_3 Q5t n k t ab aa L) QeR⟩)
 rw[ae];calc⟨.ref _,_,I.lnew (t':=s.toks) (r.rep k.toNat) (by rw[Xkf,Nat.mul_comm];calc hz),rfl,q _ I.fresh⟩
universe e
universe L2
namespace Att
open PySem PySem.W PySem.Calls PyProof.Rows
def Xi7{P:Params}{QSi}:∀(ns:LI) (vs:LV),WellAll P h vs QKO->UA1:=by
 intro ns;induction ns with
 |nil=>intro vs w;rw[Vfs]at w;cases w;exact .nil|cons n ns L=>
  intro vs w;rw[Ub]at w;cases w with
  |cons a b=>cases a;calc .cons _ _ (L _ b)
def Xuw{l:OpenLaw}{Qoi}(hn:l.most=yz n){P:Params}{QSi}{args:List WData}{L:LV}
  (aa:l.row.toRowW.claim.pre args=yx) (af:WellAll P h L args):
  ∃a vs ns,L=[Ui a]/\args=[WData.list QKO]/\h.get? a=yz Q00/\Vbv vs ns/\QbE<=n:=by
 let ae:WShape.hasAll [] args [.list .int]=true:=Q0S.1;let hc:l.pre.holds [] {args:=args}=true:=Q0S.2;let⟨d,r,rfl,h1,h2⟩:=hasAllW_cons ae;obtain rfl:=hasAllW_nil h2;let⟨xs,rfl,h3⟩:=hasW_list h1;let⟨ns,rfl⟩:=items_int h3;let ab:QbE<=n:=by
  unfold OpenLaw.pre at hc;let h4:(WTm.not (.lt (.lit (.int (n:Int))) (.len (.arg 0)))).holds [] {args:=[.list (ns.map .int)]}=true:=by let h4:=(holds_andW hc).1;rw[hn]at h4;exact h4
  let h5:=condW_of h4 (w_not (w_lt w_lit (w_len_list (w_arg rfl))));rw[Vg]at h5;exact Nat.le_of_not_lt λq=>?_;let q':(n:Int)<((lg ns:Nat):Int):=by omega
  first
   | (rw[decide_eq_true q']at h5;calc aB0 h5 Q2)| (simp! at h5;omega)
 cases af with
 |cons w1 w2=>
  cases w2;cases w1 with
  |list ho ac=>calc⟨_,_,ns,rfl,rfl,ho,Xi7 ns _ ac,ab⟩
def Xux(l:OpenLaw)(args:List WData):l.row.toRowW.claim.post args QrB args=true:=
 postW_of (r:=l.row.toRowW) (X:=Qzc)
  (show WShape.has [] QrB .bool=yx by first|rfl|decide|simp![WShape.has,WShape.arms,WShape.armsAll])
  (show(WTm.eq .res (.lit QrB)).value [] {args:=args,res:=yz QrB,after:=args}=yz (.bool Qzc) from w_eq_bool (w_res rfl) w_lit) rfl
def attach_call{l:OpenLaw}{Qoi}{q:Vz}{Qfj}
  (hn:l.most=yz n) (ai:d.params.defaults=[])
  (call:∀(w:V7) (s₀ L:Vc) (mg mb:Str->OV) (fa:Addr) (o:Obj) (pm cd ab:Vb) (a:Addr) (vs:LV) (ns:LI),
   Ground QTw [] XP w s₀ mg mb L.heap->YP w L.heap ->
   L.heap.get? fa=Qkq->o.data=.func (docDef d.name d.params d.body d.scope pm cd ab)->L.heap.CodeRec cd d.name->mg d.name=U2J ->
   L.heap.get? a=yz Q00->UA1->UY3<=n->L.gens=#[] ->
   Vc1 (Vi l.prog w) UG0):
  WalkO UH0:=by
 intro w s₀ L mg mb G Y fa o pm cd ab dV kV UM4 ag hD ah hg am al as ae ak an aj ao;obtain rfl:dV=.none:=Dflts.none hD ai;obtain rfl:kV=.none:=Dflts.noKw hD;let⟨a,vs,ns,rfl,rfl,ac,aa,af⟩:=Xuw hn ae aj;calc enter_call (Ver (call w s₀ L mg mb fa o pm cd ab a vs ns G Y ho (fd_plain hd) ag ah ac aa af hg) λr s' hq=>?_);let⟨rfl,h2,h3,h4⟩:=hq;calc⟨.inl ⟨U6I,U6I,[],rfl,λ_=>rfl,U6I,Xux l _,λ_=>⟨Vef,λ_ hm=>(nomatch hm)⟩⟩,h2,h3,h4⟩
universe Att
namespace L2
open PySem PySem.Spec PyProof.Rows
def Xen:∀ {vs:LV} {ns:LI},UA1->UwG vs
 |_,_,.nil=>.nil|_,_,UWE h=>.cons Qv0 (Xen h)
universe L2
namespace L2
open PySem PySem.Spec PyProof.Rows
universe L2
/- THE LAST THEOREM (shape;LID,My.* are yours):
   My.Adr: a structure of the addresses that your layer names (classes,functions);My.Txt K t: a structure (Prop) of the equations over K;
   My.txt_mk:{K} {implicit addresses ..} (e1:nsIn K Uw "law"=yz Qvc) (e2:UH3=yz ⟨oc,od,.func (fnOf "law" "law" Q3r dV kV UfF),sl⟩) (e3:codeIn K cdv "law"=yx) ..:∃t,My.Txt K t
set_option maxRecDepth 100000 in
set_option maxHeartbeats 0 in
def PySem.Challenge.cw_LID_holds : PySem.Challenge.rw_LID.Holds := by
 w_on;o_law;k_head;(case hw=>w_witness2)
 k_fill
 exact L2.walk_of (l:=PySem.Challenge.rw_LID) (n:=63) (k:=40) (x:="script") (CX:=λw=>..) (sp:=λ_=>My.sp_law) rfl Q2 rfl ⟨rfl,by decide,by decide⟩ (λw h Y=>PySem.W.kIn_of Y) ?F ?S ?C
 case F =>
  intro w mg fa h KX G hmg;let T:∃t,My.Txt (L2.KOf KX) t:=by
   dsimp[L2.KOf]                          -- K must stand as «<heap const> w.params» for k_is;refine' My.txt_mk ?e1 ?e2 ?e3 ..
   (case e1=>PySem.W.k_is)                    -- in the order: a name -> its address -> its object -> its parts
   (case e2=>PySem.W.k_is)
   ..
  let⟨t,T⟩:=T;let e0:=hmg.symm.trans (Vd9 KX G T.law);cases e0                                       -- fa is the law's own address;exact⟨_,λs u=>.of_eq rfl,λbase kb nb=>UJA⟩     -- if «.of_eq rfl» comes too early: refine' ⟨_,?b,λbase kb nb=>UJA⟩;exact λs u=>.of_eq rfl
 case S=>exact λw H a ns hl hO hS=>..
 case C=>calc ..
(the tactic k_is has no namespace: write k_is) -/
namespace L2
open PySem PySem.Spec PyProof.Rows
abbrev Xb4{QDl}:Vfa:=match s with
 |.FunctionDef _ a QLq Uu1=>a|_=>{posonlyargs:=[],args:=[],vararg:=yy,kwonlyargs:=[],kw_defaults:=[],kwarg:=yy,defaults:=[]}
abbrev Yv{QDl}:LM:=match s with
 |.FunctionDef _ _ b UnA=>b|_=>[]
abbrev X0{QDl}:U2:=match s with
 |.FunctionDef QLq QLq sc QLq=>sc|_=>{kind:=.function,names:=[],isGenerator:=yw,isCoroutine:=yw}
structure Fun{Quk}(x qual:Str){Qvo}(f:Addr)(fd:Vdv):Prop where
 ex:∃(oc:Vb) (od:QCu) (kV doc pm:Vb) (an:QCu) (cdv ct:Vb) (osl:Array OV),
  fd=QGy UfF/\K.lookup f=yz ⟨oc,od,.func fd,osl⟩/\Vgy K cdv qual=yx
 kp:UwC=yx
section
variable{Qck}
def Fun.binds{x qual:Str}{Q3l}{f:Addr}{Qpn}(F:UQA fd)
  (h:∀(kV L pm:Vb) (an:QCu) (aa ct:Vb) (us:LV),U2G=Qow->Vgm (QGy L pm an aa ct) QbA=UyF):Binds UK0:=by
 let⟨oc,od,kV,L,pm,an,aa,ct,ac,rfl,lk,ab⟩:=F.ex;calc .all (h kV L pm an aa ct)
def X59{x qual:Str}{Qvi}(l:UH3=yz ⟨oc,od,.func Q97,ab⟩)
  (c:Vgy K L qual=yx) (k:UwC=yx):UQA Q97:=⟨⟨oc,od,kV,aa,pm,an,L,ct,ab,rfl,l,c⟩,k⟩
universe e
universe L2
universe e
section
set_option autoImplicit true
namespace Z
def Xd{P0:α0->Prop}{Qah}(h:∃L,P0 L)(k0:∀L,P0 L->G):G:=by let⟨L,h0⟩:=h;calc Us0
def Xi{QYo}(h:(L)/\P1)(k0:L->P1->G):G:=by let⟨h0,h1⟩:=h;calc Qqv h1
def Yy{QGm}{Qah}(h:∃L,∃x1,Qyv)(k0:∀L,∀x1,Qyv->G):G:=by let⟨L,⟨x1,h0⟩⟩:=h;calc QFt
def Xj{QYo}(h:(L)\/P1)(k0:L->G)(k1:P1->G):G:=by
 rcases h with h0|h1;·exact Qqv
 ·calc k1 h1
def Xi8{Qkj}{Qah}(h:(P0)/\∃L,P1 L)(k0:P0->∀L,P1 L->G):G:=by let⟨h0,⟨L,h1⟩⟩:=h;calc Qqv L h1
def Xa{QIi}{Qah}(h:∃L,QsO/\P1 L){QRo}:G:=by let⟨L,⟨h0,h1⟩⟩:=h;calc Us0 h1
def Xuy{Qyk}{Qah}(h:∃L,∃x1,∃x2,Uj5)(k0:∀L,∀x1,∀x2,Uj5->G):G:=by let⟨L,⟨x1,⟨x2,h0⟩⟩⟩:=h;calc QNx
def Xe5{Qlm}(h:((L)/\P1)/\P2)(k0:L->P1->P2->G):G:=by let⟨⟨h0,h1⟩,h2⟩:=h;calc Qqv Qwq
def Xs{Qlm}(h:(L)/\(P1)/\P2)(k0:L->P1->P2->G):G:=by let⟨h0,⟨h1,h2⟩⟩:=h;calc Qqv Qwq
def Xf{QOh}{Qah}(h:∃L,∃x1,Qg9/\P1 QMw)(k0:∀L,∀x1,Qyv->UD3->G):G:=by let⟨L,⟨x1,⟨h0,h1⟩⟩⟩:=h;calc QFt h1
def Xe6{Qlm}(h:(L)\/(P1)/\P2)(k0:L->G)(k1:P1->P2->G):G:=by
 rcases h with h0|⟨h1,h2⟩;·exact Qqv
 ·calc k1 Qwq
def Xbx{Qkj}{QWm}{Qah}(h:(P0)/\∃L,QtS/\P2 L)(k0:P0->∀L,P1 L->P2 L->G):G:=by let⟨h0,⟨L,⟨h1,h2⟩⟩⟩:=h;calc Qqv L Qwq
def Xe{QIi}{QWm}{Qah}(h:∃L,QsO/\QtS/\P2 L)(k0:∀L,P0 L->P1 L->P2 L->G):G:=by let⟨L,⟨h0,⟨h1,h2⟩⟩⟩:=h;calc Us0 Qwq
def Yd{Qyk}{P1:α0->α1->α2->Prop}{Qah}(h:∃L,∃x1,∃x2,QQB/\P1 QPq)(k0:∀L,∀x1,∀x2,Uj5->UC3->G):G:=by let⟨L,⟨x1,⟨x2,⟨h0,h1⟩⟩⟩⟩:=h;calc QNx h1
def Xfn{Qkj}{P2:Prop}{Qah}(h:((P0)\/∃L,P1 L)\/P2)(k0:P0->G)(k1:∀L,P1 L->G)(k2:P2->G):G:=by
 rcases h with(h0|⟨L,h1⟩)|h2;·exact Qqv
 ·exact k1 L h1
 calc k2 h2
def Xgb{Qnh}{Qah}(h:QrH/\P3){Q1p}:G:=by let⟨⟨⟨h0,h1⟩,h2⟩,h3⟩:=h;calc Qqv Ui2
def Xeo{Qnh}{Qah}(h:(P0)/\(L)/\(P2)/\P3){Q1p}:G:=by let⟨h0,⟨h1,⟨h2,h3⟩⟩⟩:=h;calc Qqv Ui2
def Xbc{Qqo}{Q0n}(h:(P0)/\∃L,∃x1,QOB/\P2 QMw)(k0:P0->∀L,∀x1,UD3->Ui5->G):G:=by let⟨h0,⟨L,⟨x1,⟨h1,h2⟩⟩⟩⟩:=h;calc Qqv QMw Qwq
def Y9{QIi}{Qzi}{Qah}(h:∃L,QsO/\QtS/\∃x1,Ui5)(k0:∀L,P0 L->P1 L->∀x1,Ui5->G):G:=by let⟨L,⟨h0,⟨h1,⟨x1,h2⟩⟩⟩⟩:=h;calc Us0 h1 x1 h2
def Xdm{P0:α0->Prop}{Q0n}(h:∃L,QsO/\∃x1,QOB/\P2 QMw)(k0:∀L,P0 L->∀x1,UD3->Ui5->G):G:=by let⟨L,⟨h0,⟨x1,⟨h1,h2⟩⟩⟩⟩:=h;calc Us0 x1 Qwq
def Xc{QOh}{Qzi}{Qah}(h:∃L,∃x1,Qg9/\QOB/\P2 QMw)(k0:∀L,∀x1,Qyv->UD3->Ui5->G):G:=by let⟨L,⟨x1,⟨h0,⟨h1,h2⟩⟩⟩⟩:=h;calc QFt Qwq
def Xdn{P0:α0->α1->α2->α3->Prop}{P1:α0->α1->α2->α3->Prop}{Qah}(h:∃L,∃x1,∃x2,∃x3,QE8/\P1 Qzr)(k0:∀L,∀x1,∀x2,∀x3,UvD->UuD->G):G:=by let⟨L,⟨x1,⟨x2,⟨x3,⟨h0,h1⟩⟩⟩⟩⟩:=h;calc Ur0 h1
def Xax{Qqo}{Q5h}{Qah}(h:(P0)/\∃L,∃x1,∃x2,Q37/\P2 QPq)(k0:P0->∀L,∀x1,∀x2,UC3->UV1->G):G:=by let⟨h0,⟨L,⟨x1,⟨x2,⟨h1,h2⟩⟩⟩⟩⟩:=h;calc Qqv QPq Qwq
def Yg{QIi}{QWm}{QVm}{Qah}(h:∃L,QsO/\QtS/\Qug/\P3 L)(k0:∀L,P0 L->P1 L->P2 L->P3 L->G):G:=by let⟨L,⟨h0,⟨h1,⟨h2,h3⟩⟩⟩⟩:=h;calc Us0 Ui2
def Xsy{QOh}{P2:α0->α1->α2->Prop}{Qah}(h:∃L,∃x1,Qg9/\QOB/\∃x2,UV1)(k0:∀L,∀x1,Qyv->UD3->∀x2,UV1->G):G:=by let⟨L,⟨x1,⟨h0,⟨h1,⟨x2,h2⟩⟩⟩⟩⟩:=h;calc QFt h1 x2 h2
def Y6{Qyk}{Q5h}{Qah}(h:∃L,∃x1,∃x2,QQB/\Q37/\P2 QPq)(k0:∀L,∀x1,∀x2,Uj5->UC3->UV1->G):G:=by let⟨L,⟨x1,⟨x2,⟨h0,⟨h1,h2⟩⟩⟩⟩⟩:=h;calc QNx Qwq
def Yr{QBm}{P1:α0->α1->α2->α3->α4->Prop}{Qah}(h:∃L,∃x1,∃x2,∃x3,∃x4,QtO/\P1 Q1u)(k0:∀L,∀x1,∀x2,∀x3,∀x4,P0 Q1u->P1 Q1u->G):G:=by let⟨L,⟨x1,⟨x2,⟨x3,⟨x4,⟨h0,h1⟩⟩⟩⟩⟩⟩:=h;calc k0 Q1u h0 h1
def Xbe{QIi}{P2:Prop}{P3:Prop}{Qah}(h:(∃L,QsO/\P1 L)\/(P2)/\P3){QRo}(k1:P2->P3->G):G:=by
 rcases h with⟨L,⟨h0,h1⟩⟩|⟨h2,h3⟩;·exact Us0 h1
 ·calc k1 h2 h3
def Xsz{Qqo}{Qtj}{QVm}{Qah}(h:(P0)\/(P1)/\(P2)/\∃L,P3 L)(k0:P0->G)(k1:P1->P2->∀L,P3 L->G):G:=by
 rcases h with h0|⟨h1,⟨h2,⟨L,h3⟩⟩⟩;·exact Qqv
 ·calc k1 Qwq L h3
def Xcf{Qnh}{P4:Prop}{Qah}(h:QGc/\P4)(k0:P0->L->P2->P3->P4->G):G:=by let⟨⟨⟨⟨h0,h1⟩,h2⟩,h3⟩,h4⟩:=h;calc Qqv Q8s
def Xx{Qwm}{Qah}(h:∃L,∃x1,Qg9/\QOB/\QIc/\P3 QMw)(k0:∀L,∀x1,Qyv->UD3->Ui5->P3 QMw->G):G:=by let⟨L,⟨x1,⟨h0,⟨h1,⟨h2,h3⟩⟩⟩⟩⟩:=h;calc QFt Ui2
def Xdd{Q8h}{Qah}(h:∃L,∃x1,∃x2,∃x3,QE8/\QPB/\P2 Qzr)(k0:∀L,∀x1,∀x2,∀x3,UvD->UuD->UtD->G):G:=by let⟨L,⟨x1,⟨x2,⟨x3,⟨h0,⟨h1,h2⟩⟩⟩⟩⟩⟩:=h;calc Ur0 Qwq
def Xa6{Qqo}{Q5h}{P3:α0->α1->α2->Prop}{Qah}(h:(P0)/\∃L,∃x1,∃x2,Q37/\QMB/\P3 QPq)(k0:P0->∀L,∀x1,∀x2,UC3->UV1->UJK->G):G:=by let⟨h0,⟨L,⟨x1,⟨x2,⟨h1,⟨h2,h3⟩⟩⟩⟩⟩⟩:=h;calc Qqv QPq Ui2
def X2{QGi}{Qah}(h:∃L,∃x1,∃x2,QQB/\Q37/\QMB/\P3 QPq)(k0:∀L,∀x1,∀x2,Uj5->UC3->UV1->UJK->G):G:=by let⟨L,⟨x1,⟨x2,⟨h0,⟨h1,⟨h2,h3⟩⟩⟩⟩⟩⟩:=h;calc QNx Ui2
def Xd9{Qqo}{Qtj}{Qxp}{Qah}(h:((P0)/\P1)\/(P2)/\∃L,Qtg/\P4 L)(k0:P0->P1->G)(k1:P2->∀L,P3 L->P4 L->G):G:=by
 rcases h with⟨h0,h1⟩|⟨h2,⟨L,⟨h3,h4⟩⟩⟩;·exact Qqv h1
 ·calc k1 h2 L h3 h4
def Xav{QFn}(h:(QGc/\P4)/\P5){Q5n}:G:=by let⟨⟨⟨⟨⟨h0,h1⟩,h2⟩,h3⟩,h4⟩,h5⟩:=h;calc Qqv Ul2
def Xag{QFn}(h:(P0)/\(L)/\(P2)/\(P3)/\(P4)/\P5){Q5n}:G:=by let⟨h0,⟨h1,⟨h2,⟨h3,⟨h4,h5⟩⟩⟩⟩⟩:=h;calc Qqv Ul2
def Xaw{Qwm}{Q8o}(h:∃L,∃x1,Qg9/\QOB/\QIc/\(P3 QMw)/\P4 QMw)(k0:∀L,∀x1,Qyv->UD3->Ui5->P3 QMw->P4 QMw->G):G:=by let⟨L,⟨x1,⟨h0,⟨h1,⟨h2,⟨h3,h4⟩⟩⟩⟩⟩⟩:=h;calc QFt Q8s
def Xbn{Q8h}{Qzm}{Qah}(h:∃L,∃x1,∃x2,∃x3,QE8/\QPB/\QNB/\P3 Qzr)(k0:∀L,∀x1,∀x2,∀x3,UvD->UuD->UtD->U39->G):G:=by let⟨L,⟨x1,⟨x2,⟨x3,⟨h0,⟨h1,⟨h2,h3⟩⟩⟩⟩⟩⟩⟩:=h;calc Ur0 Ui2
def X5{Qkj}{QWm}{Qxp}{P5:α0->Prop}{Qah}(h:(P0)/\∃L,QtS/\Qug/\Qtg/\(P4 L)/\P5 L)(k0:P0->∀L,P1 L->P2 L->P3 L->P4 L->P5 L->G):G:=by let⟨h0,⟨L,⟨h1,⟨h2,⟨h3,⟨h4,h5⟩⟩⟩⟩⟩⟩:=h;calc Qqv L Ul2
def Xk{Qym}{Qah}(h:∃L,∃x1,∃x2,QQB/\Q37/\QMB/\QLX/\P4 QPq)(k0:∀L,∀x1,∀x2,Uj5->UC3->UV1->UJK->P4 QPq->G):G:=by let⟨L,⟨x1,⟨x2,⟨h0,⟨h1,⟨h2,⟨h3,h4⟩⟩⟩⟩⟩⟩⟩:=h;calc QNx Q8s
def Xep{QGm}{Q5h}{Qzm}{Q8o}(h:∃L,∃x1,Qg9/\(∃x2,Q37/\QMB/\∃x3,U39)/\P4 QMw)(k0:∀L,∀x1,Qyv->∀x2,UC3->UV1->∀x3,U39->P4 QMw->G):G:=by let⟨L,⟨x1,⟨h0,⟨⟨x2,⟨h1,⟨h2,⟨x3,h3⟩⟩⟩⟩,h4⟩⟩⟩⟩:=h;calc QFt x2 Qwq x3 h3 h4
def Xbv{QOh}{P2:α0->α1->α2->α3->Prop}{Q2i}{Qah}(h:∃L,∃x1,Qg9/\QOB/\∃x2,∃x3,QNB/\QYH/\P4 Qzr)(k0:∀L,∀x1,Qyv->UD3->∀x2,∀x3,UtD->U39->P4 Qzr->G):G:=by let⟨L,⟨x1,⟨h0,⟨h1,⟨x2,⟨x3,⟨h2,⟨h3,h4⟩⟩⟩⟩⟩⟩⟩⟩:=h;calc QFt h1 x2 x3 h2 h3 h4
def Xbf{Qym}{P5:α0->α1->α2->Prop}{Qah}(h:∃L,∃x1,∃x2,QQB/\Q37/\QMB/\QLX/\(P4 QPq)/\P5 QPq)(k0:∀L,∀x1,∀x2,Uj5->UC3->UV1->UJK->P4 QPq->P5 QPq->G):G:=by let⟨L,⟨x1,⟨x2,⟨h0,⟨h1,⟨h2,⟨h3,⟨h4,h5⟩⟩⟩⟩⟩⟩⟩⟩:=h;calc QNx Ul2
def Xai{QOl}{Qah}(h:∃L,∃x1,∃x2,∃x3,QE8/\QPB/\QNB/\QYH/\QsS/\P5 Qzr)(k0:∀L,∀x1,∀x2,∀x3,UvD->UuD->UtD->U39->P4 Qzr->P5 Qzr->G):G:=by let⟨L,⟨x1,⟨x2,⟨x3,⟨h0,⟨h1,⟨h2,⟨h3,⟨h4,h5⟩⟩⟩⟩⟩⟩⟩⟩⟩:=h;calc Ur0 Ul2
def X7{QGm}{QMh}(h:∃L,∃x1,Qg9/\∃x2,∃x3,∃x4,QrO/\QqO/\QpO/\QoO/\P5 Q1u)(k0:∀L,∀x1,Qyv->∀x2,∀x3,∀x4,P1 Q1u->P2 Q1u->P3 Q1u->P4 Q1u->P5 Q1u->G):G:=by let⟨L,⟨x1,⟨h0,⟨x2,⟨x3,⟨x4,⟨h1,⟨h2,⟨h3,⟨h4,h5⟩⟩⟩⟩⟩⟩⟩⟩⟩⟩:=h;calc QFt x2 x3 x4 Ul2
def X8{QBm}{QMh}(h:∃L,∃x1,∃x2,∃x3,∃x4,QtO/\QrO/\QqO/\QpO/\QoO/\P5 Q1u)(k0:∀L,∀x1,∀x2,∀x3,∀x4,P0 Q1u->P1 Q1u->P2 Q1u->P3 Q1u->P4 Q1u->P5 Q1u->G):G:=by let⟨L,⟨x1,⟨x2,⟨x3,⟨x4,⟨h0,⟨h1,⟨h2,⟨h3,⟨h4,h5⟩⟩⟩⟩⟩⟩⟩⟩⟩⟩:=h;calc k0 Q1u h0 Ul2
def Ye{QOl}{P6:α0->α1->α2->α3->Prop}{Qah}(h:∃L,∃x1,∃x2,∃x3,QE8/\QPB/\QNB/\QYH/\QsS/\(P5 Qzr)/\P6 Qzr)(k0:∀L,∀x1,∀x2,∀x3,UvD->UuD->UtD->U39->P4 Qzr->P5 Qzr->P6 Qzr->G):G:=by let⟨L,⟨x1,⟨x2,⟨x3,⟨h0,⟨h1,⟨h2,⟨h3,⟨h4,⟨h5,h6⟩⟩⟩⟩⟩⟩⟩⟩⟩⟩:=h;calc Ur0 Ul2 h6
universe Z
universe e
section
namespace Z
open PySem PySem.Spec PyProof.Rows L2
inductive D where
 |non|bl (b:Bool)|int (i:Int)|str (x:Str)|tup (xs:List D)|ref (n:Nat)|fro (xs:List D)|fn (f:Nat) (nm:Str)|edc
 deriving Inhabited
private abbrev LD:=List D
inductive O where
 |lst (xs:LD)|fdc (kvs:QZu)|dct (kvs:QZu)|exc (c:Nat)|st (ks:LL)|ded
private noncomputable abbrev Sto:=List O
private noncomputable abbrev En:=List QZ3
inductive R(α:Type) where
 |ok (a:α) (S:Sto)|ex (n:Nat) (S:Sto)|bad
abbrev R.bind{Qwi}:R α->(α->Sto->R β)->R β
 |.ok a S,f=>f a S|.ex n S,_=>UVE|.bad,_=>.bad
@[simp] def Rk0{Qwi}(a:α){QIh}(f:α->Sto->R β):(R.ok a S).bind f=f a S:=rfl
def ond{Qwi}{QIp}{a:α}{QWo}{q:R β}(h:r=.ok a S)(k:f a S=q):r.bind f=q:=h▸k
def onx{Qwi}{QIp}{Qoi}{QWo}(h:r=UVE):r.bind f=UVE:=h▸rfl
abbrev big:Nat:=1000000
set_option genInjectivity false
inductive Bo where|add|sub|mul|fdiv|mod|pow|shl|shr|band
 deriving DecidableEq
inductive Co where|eq|ne|lt|le|gt|ge|isin|notin|is
 deriving DecidableEq
inductive Ty where|int|bool|str|tuple|list|dict|cls(c:Nat)|valueError
 deriving DecidableEq
inductive Bl where
 |len|min|max|mxl|sorted|all|tuple|list|repr|itB
 deriving DecidableEq
inductive Mt where
 |append|xtd|index|count
 deriving DecidableEq
inductive Tg where
 |var (i:Nat)
 |tup (is:LN)
mutual
inductive Ex where
 |nev
 |var (i:Nat)
 |cst (d:D)
 |neg (a:Ex)
 |glb (k:Nat)
 |tup (es:Exs)
 |lst (es:Exs)
 |dct0
 |bin (op:Bo) (a b:Ex)
 |cmp (op:Co) (a b:Ex)
 |chn (o1 o2:Co) (a b c:Ex)
 |and (a b:Ex)
 |or (a b:Ex)
 |not (a:Ex)
 |ite (c a b:Ex)
 |idx (a i:Ex)
 |sli (a:Ex) (lo hi:Op)
 |rev (a:Ex)
 |call (f:Nat) (es:Exs)
 |blt (k:Bl) (es:Exs)
 |mth (k:Mt) (o:Ex) (es:Exs)
 |isi (a:Ex) (ts:Un7)
 |cmr (k:Bool) (n:Nat) (gs:Gens) (elt:Ex)
 |sst (a:Ex)
 |idc (ng:Bool) (a b:Ex)
 |stl (a:Ex)
 |ist (ng:Bool) (a b:Ex)
 |frz (a:Ex)
 |srs (a:Ex)
 |pop0 (a:Ex)
inductive Op where
 |none|some (e:Ex)
inductive Exs where
 |nil|cons (e:Ex) (es:Exs)
inductive Gens where
 |nil|cons (t:Tg) (it:It) (ifs:Exs) (gs:Gens)
inductive It where
 |val (e:Ex)|rng (es:Exs)|zpp (es:Exs)
end
mutual
inductive St where
 |nev
 |asg (t:Tg) (e:Ex)
 |par (is:LN) (es:Exs)
 |aset (o i e:Ex)
 |as2 (e o i p j:Ex)
 |augi (o i:Ex) (op:Bo) (e:Ex)
 |expr (e:Ex)
 |ret (e:Ex)
 |ite (c:Ex) (a b:Sts)
 |for (t:Tg) (it:It) (b:Sts)
 |whl (c:Ex) (b:Sts)
 |rsk (e m:Ex)
 |rse (c:Nat) (e:Ex)
 |try (b:Sts) (c:Nat) (x:Nat) (h:Sts)
 |pass
 |brk
 |cnt
inductive Sts where
 |nil|cons (s:St) (ss:Sts)
end
set_option genInjectivity true
inductive Fl where
 |nx (e:En)|brk (e:En)|cnt (e:En)|rt (d:D)
abbrev lstAt{Qwn}:Q0x:=
 match S[n]? with
 |some Qx0=>QLu|_=>yy
abbrev lstM{Qwn}:Q0x:=
 match S[n]? with
 |some Qx0=>QLu|_=>yy
abbrev i2{Qtk}:Int:=if b then 1 else 0
mutual
abbrev Ym{QGq}:D->UE3
 |.non=>yz .none|.bl b=>yz QaB|.int i=>yz Q91|.str x=>yz QQK|.tup xs=>Q1X.map PyData.tuple|.fro xs=>Q1X.map PyData.list|.fn _ _=>yy|.edc=>yz QVJ|.ref n=>L n
abbrev datFs{QGq}:LD->Option (U34)
 |[]=>Up4|x::xs=>match Ym L x,UKC xs with
  |some p,yz ps=>yz Q1S|_,_=>yy
end
abbrev Xbg{QIh}:Nat->Nat->UE3
 |0,_=>yy|k+1,n=>match S[n]? with
  |some Qx0=>(UVJ).map PyData.list|some QjH=>yz QVJ|_=>yy
abbrev Y0{QIh}(d:D):UE3:=Ym QjD d
abbrev Xev(x y:D):QJr:=match x with
 |.str a=>(match y with
  |.str b=>yz QVG
  |_=>yy)
 |_=>yy
abbrev lsD{QIh}:D->Q0x
 |.fro xs=>QLu|.ref n=>Qys|_=>yy
abbrev Xik{Qzp}:QJr:=match lsD S x,Uy4 y with
 |some xs,yz ys=>if QR=UX3 then yy else yz yw|_,_=>yy
abbrev eqD{Qzp}:QJr:=match Xev x y with
 |some r=>US6|none=>match Y0 S x,U2B y with
  |some p,yz q=>if p.canLay0&&q.canLay0&&decide QQD then yz (Vdh p q) else UH5|_,_=>UH5
abbrev inD{Qzp}:QJr:=match Y0 S x,U2B y with
 |some p,yz QWa=>if p.canLay0&&Vfm qs&&decide QQD then yz QJL else yy|some p,yz Q5Z=>if p.canLay0&&Vfm qs&&decide QQD then yz QJL else yy|_,_=>yy
abbrev Xo{QIh}:D->Q0x
 |.tup xs=>QLu|.fro xs=>QLu|.ref n=>Qys|_=>yy
abbrev Xl:LD->Option (LI)
 |[]=>Up4|.int i::r=>(Xl r).map QAf|_::_=>yy
abbrev Yl:LD->Option (Q4v)
 |[]=>Up4|.bl i::r=>(Yl r).map QAf|_::_=>yy
abbrev ltL:LI->LI->Bool
 |[],[]=>yw|[],_::_=>yx|_::_,[]=>yw|x::xs,y::ys=>if x=y then ltL xs ys else decide (x<y)
abbrev ltD:D->D->QJr
 |.int i,QCt=>yz (decide (i<j))|.tup xs,.tup ys=>match Xl xs with
  |some a=>match Xl ys with
   |some b=>yz (UW3)|none=>yy
  |none=>yy
 |_,_=>yy
abbrev Xil(x:Int):LI->LI
 |[]=>[x]|y::r=>if x<=y then x::y::r else y::Xil x r
abbrev Xa7:LI->LI
 |[]=>[]|x::r=>Xil x Qif
abbrev ddS(L:LI)(x:Int):LI:=if x∈L then L else L++[x]
abbrev ddI(ns:LI):LI:=ns.foldl ddS []
abbrev Yw:LD->UX1
 |[]=>Up4|.tup ds::r=>match Xl ds with
  |some k=>(Yw r).map (k :: ·)|none=>yy
 |_::_=>yy
abbrev ddR(L:LL)(k:LI):LL:=if k∈L then L else L++[k]
abbrev ddL{QIm}:LL:=UQJ []
abbrev Xkg(k:LI):LL->LL
 |[]=>[k]|y::r=>if ltL k y then k::y::r else y::Xkg k r
abbrev Yi:LL->LL
 |[]=>[]|k::r=>Xkg k (Yi r)
abbrev Xdp(L:LD){QIh}:R D:=match Xl L with
 |some ns=>if Qx4.length<60 then Qvq QtD else .bad|none=>match Yw L with
  |some ks=>if Qo3.length<1100 then Qvq (S++[.lst ((Yi Qo3).map λk=>Qlx)]) else .bad|none=>.bad
abbrev Xkh{QIm}:UX1:=if Q5A<100000 then yz QJf else yy
abbrev Xnn{QIm}:UX1:=if Q5A<100000 then yz (QqE.map Va0) else yy
abbrev Xki{QLl}:R D:=match (Uy4 x).bind Yw with
 |some ks=>match Xnn ks with
  |some r=>Qvq QsD|none=>.bad
 |none=>.bad
abbrev X6{QIh}:D->QJr
 |.non=>yz yw|.bl b=>UbB|.int i=>yz QrU|.str x=>if x.length<=big then yz ((x.length:Int) != 0) else yy|.tup xs=>yz QYK|.fro xs=>yz QYK|.fn _ _=>yy|.edc=>yy|.ref n=>match S[n]? with
  |some Qx0=>yz QYK|_=>yy
abbrev Xbh(i j:Int):Bool:=(decide (-QrK<i)&&decide (i<18446744073709551616))||(decide (-QrK<j)&&decide (j<18446744073709551616))||(decide (i.natAbs.log2<100000)&&decide (j.natAbs.log2<100000))
abbrev Xg4(j:Int):Bool:=decide (0<j)&&decide (j.natAbs.log2<9000)
abbrev X1(op:Bo){QZj}:R D:=match op with
 |.add=>match x,y with
  |.int i,QCt=>UOE|.tup x,.tup y=>if QOL+lg y<=big then .ok QwV S else .bad|x,y=>match lsD S x,Uy4 y with
   |some x,UR6=>if QOL+lg y<=big then Qvq QlO else .bad|_,_=>.bad
 |.sub=>match x,y with
  |.int i,QCt=>UPE|_,_=>.bad
 |.mul=>match x,y with
  |.int i,QCt=>if Xbh i j then ULE else .bad|.tup x,Q1w=>if k<1048576/\QOL*k.toNat<=big/\-Qa3<k/\x.isEmpty=yw then .ok (.tup QkT.flatten) S else .bad|.ref n,Q1w=>match lstM S n with
   |some x=>if k<1048576/\QOL*k.toNat<=big/\-Qa3<k then Qvq (S++[.lst QkT.flatten]) else .bad|none=>.bad
  |_,_=>.bad
 |.fdiv=>match x,y with
  |.int i,QCt=>if Xg4 j then .ok QWX S else .bad|_,_=>.bad
 |.mod=>match x,y with
  |.int i,QCt=>if 0<j then .ok QXX S else .bad|_,_=>.bad
 |.pow=>match x,y with
  |.int i,QCt=>if 0<=j/\j<=1000/\i.natAbs<2^63 then .ok Q4P S else .bad|_,_=>.bad
 |.shl=>match x,y with
  |.int i,QCt=>if 0<=j/\j<=1000/\i.natAbs<2^63 then .ok (.int (i*2^j.toNat)) S else .bad|_,_=>.bad
 |.shr=>match x,y with
  |.int i,QCt=>if 0<=j then .ok (.int (i.fdiv (2^j.toNat))) S else .bad|_,_=>.bad
 |.band=>match x,y with
  |.int i,QCt=>.ok (.int (Builtin.bitAnd i j)) S|_,_=>.bad
abbrev Xkj(op:Bo){QZj}:R D:=match x with
 |.int i=>(match y with
  |.int j=>(match op with
   |.add=>UOE|.sub=>UPE|.mul=>if Xbh i j then ULE else .bad
   |_=>.bad)
  |_=>.bad)
 |_=>.bad
abbrev Xbi(op:Co){QZj}:QJr:=match op with
 |.eq=>U8D|.ne=>(U8D).map (!·)|.lt=>ltD x y|.le=>match x,y with
  |.int i,QCt=>yz (decide QXg)|_,_=>yy
 |.gt=>match x,y with
  |.int i,QCt=>yz (decide (j<i))|_,_=>yy
 |.ge=>match x,y with
  |.int i,QCt=>yz (decide (j<=i))|_,_=>yy
 |.isin=>U15|.notin=>(U15).map (!·)|.is=>match y with
  |.non=>yz (match x with|.non=>yx|_=>yw)|_=>yy
abbrev ixN{QEj}{Q3p}:Qyt:=if 0<=i then (if i<n then yz i.toNat else yy) else if-(n:Int)<=i then UwI else yy
abbrev Xby(x:D)(i:D){QIh}:QDr:=
 match i with
 |.int k=>match x with
  |_=>QZO.bind λxs=>QlZ.bind λj=>xs[j]?
 |_=>yy
abbrev X4(op:Co){QZj}:R D:=match Xbi QUw with
 |some r=>UVH|none=>.bad
abbrev Xdq(x i:D){QIh}:R D:=match Xby x i S with
 |some d=>UJ1|none=>.bad
abbrev Xgc(x i:D){QIh}:R D:=match x,i with
 |.ref n,Q1w=>match lstAt S n with
  |some xs=>match QlZ.bind λj=>xs[j]? with
   |some d=>UJ1|none=>.bad
  |none=>.bad
 |_,_=>.bad
abbrev Xa3(ifs:En->Sto->UZ5){QVj}{QAn}(L:LD){QIh}:U3K:=(ifs QKq).bind λb S=>if b then body UfA S else .ok L S
abbrev Xea{QEj}(d:Nat):QXr->Nat
 |none=>d|some i=>if 0<=i then min i.toNat n else QRb.toNat
abbrev cut{QFi}{QMi}:Q7r:=
 (xs.drop (UeC 0 lo)).take (UeC QR hi-UeC 0 lo)
abbrev Xfo:QDr->Option (QXr)
 |none=>QNw|some Q91=>yz QcW|_=>yy
abbrev Xew(x:D){QMi}{QIh}:R D:=
 match x with
 |.tup xs=>.ok (.tup QYI) S|x=>match lsD S x with
  |some xs=>Qvq (S++[.lst QYI])|none=>.bad
abbrev Xx2{QLl}:R D:=
 match x with
 |.tup xs=>.ok (.tup xs.reverse) S|x=>match lsD S x with
  |some xs=>Qvq (S++[.lst xs.reverse])|none=>.bad
abbrev Xfp(f:Nat){Q5m}:LD->Bool
 |[]=>yw|.fn g m::r=>(g==f&&decide QGb)||Xfp f nm r|_::r=>Xfp f nm r
inductive Kd where|non|bool|int|str|tuple|list|dict|exc(c:Nat)
 deriving DecidableEq
abbrev kdD{QIh}:D->Option Kd
 |.non=>yz .non|.bl _=>yz .bool|.int _=>yz .int|.str _=>yz .str|.tup _=>yz .tuple|.fro _=>yz .list|.fn _ _=>yy|.edc=>yz .dict|.ref n=>match S[n]? with
  |some QVe=>yz .list|some QjH=>yz .dict|some QR3=>Qru|_=>yy
abbrev tyQ(b i s t l d:Bool):Ty->QJr
 |.bool=>UbB|.int=>yz i|.str=>yz s|.tuple=>yz t|.list=>yz l|.dict=>Um2|.cls _=>yy|.valueError=>yy
abbrev isT:Kd->Ty->QJr
 |.exc c',t=>match t with
  |.cls c=>yz Q6A|.valueError=>Qpu|_=>yy
 |.non,t=>Qhy Ub4|.bool,t=>tyQ yx yx yw Ub4|.int,t=>tyQ yw yx yw Ub4|.str,t=>tyQ yw yw yx Ub4|.tuple,t=>Qhy yx yw yw t|.list,t=>Qhy yw yx yw t|.dict,t=>Qhy yw yw yx t
abbrev Xau(k:Kd):Un7->QJr
 |[]=>yz yw|t::r=>match isT k t with
  |some yx=>Qpu|some yw=>Xau k r|none=>yy
abbrev szI{Q3p}:Nat:=if i.natAbs<1000 then 4 else 1921
mutual
abbrev szD:Vcb->Nat
 |.none=>4|.bool _=>5|.int i=>szI i|.str x=>(reprText x).length|.list xs=>szDs xs+2|.tuple xs=>szDs xs+3|.dict _=>2
abbrev szDs:U34->Nat
 |[]=>0|x::xs=>szD x+2+szDs xs
end
mutual
abbrev Xcp:Vcb->Bool
 |.none=>yx|.bool _=>yx|.int _=>yx|.str _=>yx|.list xs=>UJG|.tuple xs=>UJG|.dict kvs=>kvs.isEmpty
abbrev dctEs:U34->Bool
 |[]=>yx|x::xs=>Xcp x&&UJG
end
abbrev Xgd{QIh}(x:D):UF3:=match Y0 S x with
 |some p=>if p.showable&&Xcp p&&decide QQD&&decide (szD p<=big) then yz p.shown else yy|none=>yy
abbrev Yc(k:Bl){QDq}:R D:=match k with
 |.len=>match ds with
  |[x]=>match x with
   |_=>match Xo S x with
    |some xs=>Up1|none=>.bad
  |_=>.bad
 |.tuple=>match ds with
  |[x]=>match Xo S x with
   |some xs=>Um1|none=>.bad
  |_=>.bad
 |.list=>match ds with
  |[x]=>match Xo S x with
   |some xs=>UT7|none=>.bad
  |_=>.bad
 |.all=>match ds with
  |[x]=>match QZO.bind Yl with
   |some bs=>.ok (.bl (bs.all id)) S|none=>.bad
  |_=>.bad
 |.max=>match ds with
  |Q92=>.ok Q6G S|_=>.bad
 |.min=>match ds with
  |Q92=>.ok Q7G S|_=>.bad
 |.sorted=>match ds with
  |[x]=>match Xo S x with
   |some xs=>match Xl xs with
    |some L=>if L.length<64 then Qvq (S++[.lst ((Xa7 L).map D.int)]) else .bad|none=>match Yw xs with
     |some ks=>match Xkh ks with
      |some r=>Qvq QsD|none=>.bad
     |none=>.bad
   |none=>.bad
  |_=>.bad
 |.mxl=>match ds with
  |[x]=>match QZO.bind Xl with
   |some L=>match L with
    |n::r=>.ok (.int (UR3)) S|[]=>.bad
   |none=>.bad
  |_=>.bad
 |.itB=>match ds with
  |[.bl b]=>.ok (.int (i2 b)) S|_=>.bad
 |.repr=>match ds with
  |[x]=>match Xgd S x with
   |some t=>.ok Q76 S|none=>.bad
  |_=>.bad
abbrev Xap(k:Mt)(o:D){QDq}:R D:=match o,ds with
 |.ref n,[x]=>match k with
  |.append=>match lstM S n with
   |some xs=>if QR<big then Qox (QKy (.lst (xs++[x]))) else .bad|none=>.bad
  |.xtd=>match lstM S n with
   |some xs=>match Xo S x with
    |some ys=>if QR+UX3<=big then Qox (QKy (.lst QnJ)) else .bad|none=>.bad
   |none=>.bad
  |.index=>match x with
   |.bl b=>match QV5.bind Yl with
    |some bs=>match bs.findIdx? Q8N with
     |some i=>Un1|none=>.bad
    |none=>.bad
   |.int c=>match QV5.bind Xl with
    |some L=>match L.findIdx? Qge with
     |some i=>Un1|none=>.bad
    |none=>.bad
   |_=>.bad
  |.count=>match x with
   |.bl b=>match QV5.bind Yl with
    |some bs=>.ok (.int (UNG:Nat)) S|none=>.bad
   |.int c=>match QV5.bind Xl with
    |some L=>.ok (.int (L.countP Qge:Nat)) S|none=>.bad
   |_=>.bad
 |_,_=>.bad
abbrev Xb5(k:Mt){QLl}:Bool:=match x with
 |.ref n=>QV5.isSome|_=>yw
abbrev Xae{QYp}:QDr:=(kvs.find? λp=>decide (p.1=k)).map QK1
abbrev Xdx{QYp}(v:D):QZu:=if QiN.isSome then kvs.map (λp=>if p.1=k then (p.1,v) else p) else kvs++[(k,v)]
abbrev Xge{Qwn}:Option QIa:=match S[n]? with
 |some Qla=>QHx|_=>yy
abbrev Xb6{Qwn}:Option QIa:=match S[n]? with
 |some Qla=>QHx|some (.fdc kvs)=>QHx|_=>yy
abbrev Yn(o i v:D){QIh}:R Unit:=
 match o with
 |.ref n=>match i with
  |.int k=>match lstM S n with
   |some xs=>match ixN QR k with
    |some j=>U06 (QKy QnC)|none=>.bad
   |none=>.bad
  |.tup ks=>match Xge S n,UaG with
   |some kvs,US6=>if QOG<big then U06 (QKy (.dct (UfC r v))) else .bad|_,_=>.bad
  |_=>.bad
 |_=>.bad
abbrev Xmy(x:D):Option (D×D):=match x with
 |.tup xs=>(match xs with
  |x::r=>(match r with
   |y::r=>(match r with
    |[]=>UvI
    |_::_=>yy)
   |[]=>yy)
  |[]=>yy)
 |_=>yy
def Xx3{x:D}{z:D×D}(h:Xmy x=Qgy):x=.tup QIU:=by
 cases x with
 |tup xs=>
  cases xs with
  |nil=>cases h|cons x r=>cases r with
   |nil=>cases h|cons y r=>cases r with
    |nil=>cases h;rfl|cons _ _=>cases h
 |_=>cases h
abbrev Xkk(ng:Bool){QZj}:R D:=match y with
 |.ref n=>match x with
  |.tup ks=>match Xb6 S n with
   |some kvs=>match Xl ks with
    |some r=>.ok QZJ S|none=>.bad
   |none=>.bad
  |_=>.bad
 |_=>.bad
abbrev Xcq{Qwn}:UX1:=match S[n]? with
 |some (.st ks)=>UlF|_=>yy
abbrev Xx4{QIm}{QIh}:R D:=if Qo3.length<1000 then Qvq QwT else .bad
abbrev Xfq{QLl}:R D:=match QZO.bind Yw with
 |some ks=>Xx4 ks S|none=>.bad
abbrev Xs0{QLl}:R D:=match x with
 |.ref n=>match Xcq S n with
  |some ks=>if Q5A<10000 then Qvq (S++[.lst (QJf.map λk=>Qlx)]) else .bad|none=>match Xb6 S n with
   |some kvs=>if QOG<10000 then Qvq (S++[.lst (QRd.map λk=>Qlx)]) else .bad|none=>.bad
 |_=>.bad
abbrev Xmz{QLl}:R D:=match x with
 |.ref n=>match lstM S n with
  |some xs=>match xs[lg xs-1]? with
   |some y=>.ok y (QKy Q2P)|none=>.bad
  |none=>.bad
 |_=>.bad
abbrev Xim(ng:Bool){QZj}:R D:=match y with
 |.ref n=>match x with
  |.tup ks=>match Xcq S n with
   |some L=>match Xl ks with
    |some r=>.ok (.bl (ng != decide (r∈L))) S|none=>.bad
   |none=>.bad
  |_=>.bad
 |_=>.bad
abbrev X6a(p:LI×D):D:=.tup [.tup (p.1.map D.int),p.2]
inductive Src where
 |con (xs:LD)|ref (n:Nat)|zpp (a b:Src)
abbrev Src.get:Src->Sto->Nat->Option QZ3
 |.con xs,_,i=>yz xs[i]?|.ref n,S,i=>QV5.map λxs=>xs[i]?|.zpp a b,S,i=>match a.get S i,b.get S i with
  |some Q2B,yz QCg=>yz (yz QTQ)|some _,yz _=>QNw|_,_=>yy
abbrev Src.most:Src->Sto->Nat
 |.con xs,_=>QPs|.ref n,S=>(QV5.getD []).length|.zpp a b,S=>min (a.most S) (b.most S)
abbrev Xaa{QIh}:D->Option Src
 |.tup xs=>yz Qk9|.fro xs=>yz Qk9|.ref n=>QV5.map λ_=>Uw5|_=>yy
abbrev Xc3:LD->Q0x
 |Q6g=>if-Qa3<j/\j<1048576 then yz ((Ud j.toNat).map λ(k:Nat)=>D.int (k:Int)) else yy|Q92=>if-Qa3<i/\i<1048576/\-Qa3<j/\j<1048576 then yz (QMR.map λ(k:Nat)=>D.int QXI) else yy|[.int i,QCt,.int s]=>if s = -1/\-Qa3<i/\i<1048576/\-Qa3<j/\j<1048576 then yz ((Ud (i-j).toNat).map λ(k:Nat)=>D.int Q9f) else yy|_=>yy
abbrev X3(t:Tg)(d:D){QAn}:Option En:=
 match t with
 |.var i=>yz QBH|.tup is=>match d with
  |.tup ds=>if Q6S=U4G then yz QM8 else yy|_=>yy
abbrev slots:Tg->LN
 |.var i=>[i]|.tup is=>is
abbrev Xuz(t:Tg){QAn}:Bool:=(slots t).all λi=>match env[i]? with
 |some (yz _)=>yw|_=>yx
abbrev Xak{Qbm}{QVj}:Nat->Nat->En->LD->Sto->U3K
 |0,_,_,_,_=>.bad|k+1,i,env,acc,S=>match get S i with
  |none=>.bad|some yy=>.ok acc S|some Q3B=>match X3 t d env with
   |none=>.bad|some L=>match body L acc S with
    |.ok UjE=>Xak QKu k Qq1 L UjE|_=>.bad
mutual
abbrev bdD{Qmj}:D->Bool
 |.ref n=>decide (n<k)|.tup xs=>Qrv|.fro xs=>Qrv|_=>yx
abbrev bdDs{Qmj}:LD->Bool
 |[]=>yx|x::xs=>U95 x&&Qrv
end
abbrev bdO{Qmj}:O->Bool
 |.lst xs=>Qrv|.dct kvs=>kvs.all λp=>U95 p.2|.fdc kvs=>kvs.all λp=>U95 p.2|_=>yx
theorem Xfr(S S':Sto):Prop:=UzA<=lg S'/\∀(i:Nat) (o:O),i<UzA->S'[i]?=Qkq->S[i]?=Qkq\/bdO QF o=yx
abbrev gcR{QIh}:R D->R D
 |.ok d S'=>open Classical in if Xfr S S' then (if bdD QF d then Qrt QrL else match d with
  |.ref n=>match S'[n]? with
   |some o=>if bdO QF o then Qvq QHQ else .bad|none=>.bad
  |_=>.bad) else .bad
 |.ex n S'=>open Classical in if Xfr S S'/\QF<=n then match S'[n]? with
  |some QR3=>Q3w (S'.take QF++QH9)|_=>.bad else .bad
 |.bad=>.bad
abbrev Xcc:R D->R D
 |.ok d S=>match d with
  |.ref n=>match S[n]? with
   |some Qx0=>Uo1 QvT|some QjH=>.ok .edc QvT|_=>.bad
  |d=>UJ1
 |r=>r
private noncomputable abbrev Fn:=Nat->LD->Sto->R D
noncomputable section
variable{Qkn}
mutual
abbrev ev:Ex->En->Sto->R D
 |.nev,_,_=>.bad|.var i,env,S=>match env[i]? with
  |some Q3B=>UJ1|_=>.bad
 |.cst d,_,S=>UJ1|.neg a,env,S=>Qt0.bind λx S=>match x with
  |.int i=>.ok QgH S|_=>.bad
 |.glb k,_,S=>match G[k]? with
  |some d=>UJ1|none=>.bad
 |.tup es,env,S=>Q84.bind λxs S=>if QR<=big then Um1 else .bad|.lst es,env,S=>Q84.bind λxs S=>if QR<=big then UT7 else .bad|.dct0,_,S=>Qvq QoI|.bin Ue4,env,S=>Qt0.bind λx S=>Q9B.bind λy S=>X1 QUw|.cmp Ue4,env,S=>Qt0.bind λx S=>Q9B.bind λy S=>UoJ|.chn UdA,env,S=>Qt0.bind λx S=>Q9B.bind λy S=>match Xbi o1 QUs with
  |some yx=>Q0X.bind λz S=>U71|some yw=>UXH|none=>.bad
 |.and a b,env,S=>Qt0.bind λx S=>match X6 S x with
  |some yx=>UHG|some yw=>Uh1|none=>.bad
 |.or a b,env,S=>Qt0.bind λx S=>match X6 S x with
  |some yx=>Uh1|some yw=>UHG|none=>.bad
 |.not a,env,S=>Qt0.bind λx S=>match X6 S x with
  |some r=>UJE|none=>.bad
 |.ite UhE,env,S=>Q0X.bind λx S=>match X6 S x with
  |some yx=>ev a QKq|some yw=>UHG|none=>.bad
 |.idx a i,env,S=>Qt0.bind λx S=>(ev i QKq).bind λy S=>Xdq QUs|.sli a Qku,env,S=>Qt0.bind λx S=>(evo lo QKq).bind λl S=>(evo hi QKq).bind λh S=>match Xfo l,Xfo h with
  |some l,yz h=>UA7|_,_=>.bad
 |.rev a,env,S=>Qt0.bind λx S=>Xx2 x S|.call f es,env,S=>Q84.bind λxs S=>F f xs S|.blt k es,env,S=>Q84.bind λxs S=>Yc k xs S|.mth k o es,env,S=>(ev o QKq).bind λx S=>if Xb5 k x S then Q84.bind λxs S=>Xap k x xs S else .bad|.isi a ts,env,S=>Qt0.bind λx S=>match QPL.bind λk=>Xau k ts with
  |some r=>UVH|none=>.bad
 |.cmr Ug4,env,S=>match gs with
  |.nil=>.bad|.cons QGu gs=>(evit it QKq).bind λsrc S=>
   (Xak (src.get) t (Xa3 (λenv S=>evts ifs QKq) (λenv L S=>
     match gs with
     |.nil=>QaT.bind λy S=>if Q9J<big then UGE else .bad|.cons Ua2 ab=>match ab with
      |.nil=>if Xuz t2 env then (evit it2 QKq).bind λaa S=>Xak (aa.get) t2 (Xa3 (λenv S=>evts ifs2 QKq) (λenv L S=>QaT.bind λy S=>if Q9J<big then UGE else .bad)) (aa.most S+1) 0 UfA S else .bad
      |.cons ..=>.bad)) Q64 0 Qw [] S).bind λL S=>
   if k then .bad else Qvq QiV
 |.sst a,env,S=>Qt0.bind λx S=>match Xo S x with
  |some xs=>Xdp xs S|none=>.bad
 |.idc Uf4,env,S=>Qt0.bind λx S=>Q9B.bind λy S=>Xkk ng QUs|.stl a,env,S=>Qt0.bind λx S=>Xfq x S|.ist Uf4,env,S=>Qt0.bind λx S=>Q9B.bind λy S=>Xim ng QUs|.frz a,env,S=>QPx (Xcc Qt0)|.srs a,env,S=>Qt0.bind λx S=>Xs0 x S|.pop0 a,env,S=>Qt0.bind λx S=>Xmz x S
abbrev evo:Op->En->Sto->R QZ3
 |.none,_,S=>UrH|.some e,env,S=>QMF.bind λx S=>URE
abbrev evs:Exs->En->Sto->U3K
 |.nil,_,S=>UI9|.cons e es,env,S=>QMF.bind λx S=>Q84.bind λxs S=>Uz5
abbrev evts:Exs->En->Sto->UZ5
 |.nil,_,S=>UsH|.cons e es,env,S=>QMF.bind λx S=>match X6 S x with
  |some yx=>evts es QKq|some yw=>UtH|none=>.bad
abbrev evit:It->En->Sto->UJH
 |.val e,env,S=>QMF.bind λx S=>match Xaa S x with
  |some s=>.ok s S|none=>.bad
 |.rng es,env,S=>Q84.bind λxs S=>match Xc3 xs with
  |some ds=>Ux5|none=>.bad
 |.zpp es,env,S=>Q84.bind λxs S=>match xs with
  |Qt7=>match Xaa S x,Xaa S y with
   |some s,yz t=>UME|_,_=>.bad
  |_=>.bad
end
mutual
abbrev X6b:St->Bool
 |.expr _=>yx|.ret _=>yx|.pass=>yx|.ite _ a b=>nasgs a&&U2C|.rse _ _=>yx|_=>yw
abbrev nasgs:Sts->Bool
 |.nil=>yx|.cons s ss=>X6b s&&nasgs ss
end
abbrev Y7{Qbm}{Qhp}:Nat->Nat->En->Sto->UQ2
 |0,_,_,_=>.bad|k+1,i,env,S=>match get S i with
  |none=>.bad|some yy=>QLr|some Q3B=>match X3 t d env with
   |none=>.bad|some L=>match body L S with
    |.ok Qnu=>Uo9|.ok QCW S'=>Uo9|.ok QHW S'=>UHE|.ok QK7 S'=>Ul1 S'|.ex n S'=>Qdu|.bad=>.bad
abbrev Xcr(L:En->Sto->UZ5){Qhp}:Nat->En->Sto->UQ2
 |0,_,_=>.bad|k+1,env,S=>match L QKq with
  |.ok yw S'=>.ok Qs1 S'|.ok yx S'=>match body env S' with
   |.ok Qnu=>Uw9|.ok QCW S'=>Uw9|.ok QHW S'=>UHE|.ok QK7 S'=>Ul1 S'|_=>.bad
  |_=>.bad
mutual
abbrev exe:St->En->Sto->UQ2
 |.nev,_,_=>.bad|.asg t e,env,S=>QT0.bind λx S=>match X3 t x env with
  |some env=>QLr|none=>.bad
 |.par UdE,env,S=>Qz5.bind λxs S=>if Q6S=QPs then .ok (.nx ((is.zip xs).foldl Qb0 env)) S else .bad|.aset o i e,env,S=>QT0.bind λv S=>QuF.bind λx S=>QvF.bind λy S=>Qq8.bind λ_ S=>QLr|.as2 UA8,env,S=>QT0.bind λv S=>match Xmy v with
  |some z=>QuF.bind λx S=>QvF.bind λy S=>QeT.bind λ_ S=>(QNq p QKq).bind λx S=>(QNq j QKq).bind λy S=>QeI.bind λ_ S=>QLr|none=>.bad
 |.augi UNB,env,S=>QuF.bind λx S=>QvF.bind λy S=>QHH.bind λa S=>QT0.bind λz S=>QfI.bind λv S=>Qq8.bind λ_ S=>QLr|.expr e,env,S=>QT0.bind λ_ S=>QLr|.ret e,env,S=>QT0.bind λx S=>UQE|.ite UhE,env,S=>QwF.bind λx S=>match X6 S x with
  |some yx=>pe a QKq|some yw=>pe b QKq|none=>.bad
 |.for t it b,env,S=>(QOy).bind λsrc S=>Y7 QGr QAL Q64 0 QKq
 |.whl c b,env,S=>Xcr (λenv S=>QwF.bind λx S=>match X6 S x with
   |some r=>UD4
   |none=>.bad) QAL 100000 QKq
 |.rsk e m,env,S=>((QT0.bind λx S=>Xki x S).bind λx S=>(U47 .none QKq).bind λl S=>(U47 Q2M QKq).bind λh S=>match Xfo l,Xfo h with
  |some l,yz h=>UA7
  |_,_=>.bad).bind λx S=>UQE
 |.rse c e,env,S=>QT0.bind λ_ S=>UpD|.try b c x h,env,S=>if nasgs b then
   match pe b QKq with
   |.ex n S'=>match S'[n]? with
    |some Q9T=>if c==0||c==c' then
      match pe h (env.set x QYU) S' with
      |.ok QK7 S''=>Ul1 S''|_=>.bad
     else .bad|_=>.bad
   |r=>r
  else .bad|.pass,env,S=>QLr|.brk,env,S=>.ok Qoa S|.cnt,env,S=>.ok Qna S
abbrev pe:Sts->En->Sto->UQ2
 |.nil,env,S=>QLr|.cons s ss,env,S=>match exe s QKq with
  |.ok Qnu=>pe ss e S'|r=>r
end
structure Df where
 np:Nat
 nl:Nat
 body:Sts
 gc:Bool:=yx
abbrev Xin:UQ2->R D
 |.ok QC9 S=>U08|.ok (.nx _) S=>Qox S|.ok _ _=>.bad|.ex n S=>UVE|.bad=>.bad
abbrev gcB{Qtk}{QIh}(r:R D):R D:=if b then QPx r else r
abbrev den(d:Df){QDq}:R D:=
 if QV3=d.np then gcB d.gc S (Xin (Qbq d.body (ds.map yz++Vm QXC yy) S)) else .bad
universe e
abbrev FT(T:QTy)(G:LD):Nat->Fn
 |0=>λ_ _ _=>.bad|k+1=>λf ds S=>match T[f]? with
  |some d=>UIG|none=>.bad
universe Z
universe e
section
namespace Z
open PySem PySem.SetTable
def Xqw{QNk}{i a b:Nat}(h:i<xs.size):UkB a=UkB b:=by simp![Va8,h]
theorem Ris(xs:Array Nat):Prop:=xs.toList.Pairwise QRU
def Ris.lt{QNk}(h:Ris xs){i j a:Nat}(L:i<j)(hj:j<xs.size):UkB a<xs.getD j a:=by let:=UqJ (by simpa using Ves L hj) QqP L;simpa [Va8,hj,Ves L hj] using this
def Xio{QNk}{j:Nat}(hr:Ris xs):∀(L lo hi:Nat),hi<=xs.size->lo<=hi->hi-lo<=L->(∀k,k<lo->QNs<j)->(∀k,hi<=k->k<xs.size->j<=QNs) ->
  below.go xs j L Qku<=xs.size/\(∀k,k<U67->QNs<j)/\∀k,U67<=k->k<xs.size->j<=QNs
 |0=>λlo hi h1 h2 h3 h4 h5=>by
  let:lo=hi:=by omega
  subst this;exact QUW|f+1=>λlo hi h1 h2 h3 h4 h5=>by
  unfold below.go;by_cases hl:lo<hi
  ·rw[iP0 hl];dsimp;let hm:QKN/2<xs.size:=by omega
   by_cases c:xs.getD (QKN/2) j<j
   ·rw[iP0 c];calc Xio hr f _ hi h1 Qtq (λk hk=>?_) h5;rw[Xqw (b:=0) hm]at c;by_cases e:k=QKN/2;·rw[e];exact c
    ·exact Ves (hr.lt Q0 hm) c
   rw[iN0 c];exact Xio hr f lo _ Ul4 h4 λk hk hs=>?_;rw[Xqw (b:=0) hm]at c;by_cases e:k=QKN/2;·rw[e];omega
   ·let:=U25 (show QKN/2<k by omega) hs;omega
  rw[iN0 hl];let:lo=hi:=by omega
  subst this;calc QUW
def Xc4{QSn}(j:Nat):Ui9<=xs.size/\(∀k,k<Ui9->QNs<j)/\∀k,Ui9<=k->k<xs.size->j<=QNs:=
 Xio hr xs.size 0 xs.size Qa Q27 Qa (λk L=>aB0 L QY5) λk h1 h2=>aB0 h2 (Nat.not_lt.mpr h1)
structure Tb{Quo}:Prop where
 ris:Ris t.place
 dum:t.dummies=#[]
def Xg5{Qwp}:(∃i,UP0=QYy/\t.place[i]?=UX9)\/(UP0=.empty/\∀k,k<t.place.size->U30≠j):=by
 exact Xs QiD λb1 b2 b3=>?_;let hs:UP0=if t.place[below t.place j]?==UX9 then .live QpE else .empty:=by
  unfold SetTable.slot SetTable.has;rw[T.dum];dsimp;split;·rfl
  ·simp!
 rw[hs];by_cases c:(t.place[below t.place j]?==UX9)=yx;·rw[iP0 c];exact .inl ⟨_,rfl,eq_of_beq c⟩
 ·rw[iN0 c];calc .inr ⟨rfl,λk L e=>c ?_⟩;by_cases q:k<Uz0;·let:=b2 k q;omega
  ·by_cases q2:k=Uz0
   ·subst q2;let:t.place[below t.place j]?=UX9:=by
     rw[Uk L];simp![Va8,L]at e;rw[e]
    rw[this];exact beq_self_eq_true _
   let h1:=b3 _ Qa Q0;let h2:=UAD (show Uz0<k by omega) L;omega
def gap{QSn}:∀n,n<=xs.size->(∀k,k<n->QNs=k)\/∃e,e<n/\∀k,k<xs.size->QNs≠e
 |0=>λ_=>.inl λk L=>aB0 L QY5|n+1=>λh=>by
  rcases gap hr n Q0 with q|⟨e,he,q⟩
  ·by_cases c:xs.getD n 0=n
   ·exact .inl λk L=>by
     by_cases z:k=n;·rw[z,c]
     ·exact q k Q0
   calc .inr ⟨n,by omega,λk L=>?_⟩;let hn:n<=xs.getD n 0:=by
    cases n with
    |zero=>exact U2A|succ m=>let h1:=U25 (show m<m+1 by omega) Q0;let h2:=q m Q0;omega
   rcases Vjd k n with z|z|z;·let:=q k z;omega
   ·rw[z];exact c
   let:=U25 z L;omega
  calc .inr QrQ
def Xs1{Qai}:∃e,e<=t.place.size/\t.slot e=.empty:=by
 let L:∃e,e<=t.place.size/\∀k,k<t.place.size->U30≠e:=by
  rcases gap T.ris _ Qa with q|⟨e,he,q⟩;·exact⟨t.place.size,UX0,λk hk z=>by let:=q k hk;omega⟩
  ·exact QrQ
 exact Xa L λe he q=>?_;calc⟨e,he,?_⟩;exact Xbe (Xg5 T e) (λi _ h=>?_) λh _=>?_;·exact Xd QBa λhi hx=>?_;exact aB0 (by simp![Va8,hi,hx]) (q i hi)
 ·calc h
abbrev fiv(m x:Nat):Nat:=(x*5+1)%Q1C
abbrev itf{QEl}:Nat->Nat->Nat
 |0,x=>x|k+1,x=>UAC k Qbb
abbrev orM{QEl}:Nat->Nat->Nat->Nat
 |0,_,a=>a|n+1,x,a=>orM m n Qbb (a ||| (1 <<< x))
def Xqx(m e:Nat):∀(n x a:Nat),(orM m n x a).testBit e=yx->a.testBit e=yx\/∃k,k<n/\itf m k x=e
 |0=>λx a h=>Qfv|n+1=>λx a h=>by
  rcases Xqx m e n _ _ h with q|⟨k,L,q⟩
  ·rw[Nat.testBit_or,Vch]at q;exact UbG λq=>?_;·exact UgK
   ·calc .inr ⟨0,by omega,?_⟩;rw[Nat.one_shiftLeft,Nat.testBit_two_pow]at q;simpa [itf] using q
  calc .inr ⟨k+1,by omega,q⟩
abbrev rnd{QEl}:Nat->Nat×Nat->Nat×Nat
 |0,p=>p|r+1,p=>UyB r (leap m Qsx)
def Xqy(m a:Nat):∀(b:Nat) (p:Nat×Nat),UyB QHf p=UyB a (UyB b p)
 |0=>λp=>by simp![rnd]|b+1=>λp=>by rw[Vgp];calc Xqy m a b _
def Xqz{QEl}:∀(r:Nat) (p:Nat×Nat),Q4Y.2=p.2/32^r
 |0=>λp=>by simp![rnd]|r+1=>λp=>by rw[rnd,Xqz m r];show p.2/32/32^r=_;rw[Nat.div_div_eq_div_mul,Nat.pow_succ,Nat.mul_comm]
def Xno{QEl}:∀(r i:Nat),UyB r (i,0)=(UAC r i,0)
 |0=>λi=>rfl|r+1=>λi=>by
  let:leap m i 0=(fiv m i,0):=by simp![leap,fiv]
  rw[rnd];show UyB r (leap m i 0)=_;rw[this];calc Xno m r _
def Xu0{QEl}:∀(r:Nat) (p:Nat×Nat),p.1<m+1->Q4Y.1<m+1
 |0=>λp h=>h|r+1=>λp h=>Xu0 m r _ Q7a
abbrev its{Quo}:Nat->Probe->Probe
 |0,p=>p|n+1,p=>U50 n Q1A
def Xd2{Quo}(a:Nat):∀(b:Nat) (p:Probe),U50 QHf p=U50 a (U50 b p)
 |0=>λp=>by simp![its]|b+1=>λp=>by rw[Vgp];calc Xd2 t a b _
abbrev Xex{Quo}(p:Nat×Nat):Probe:={j:=p.1,more:=UZ9-p.1,i:=p.1,perturb:=p.2,dummy:=yy}
def Xgf{Quo}(i q:Nat):∀(m j:Nat),U50 Q1C QW4=Xex t (leap t.mask i q)
 |0,j=>by simp![its,advance,Xex]|m+1,j=>by
  rw[its];let:t.advance {j:=j,more:=m+1,i:=i,perturb:=q,dummy:=yy}={j:=j+1,more:=m,i:=i,perturb:=q,dummy:=yy}:=by simp![advance]
  rw[this];calc Xgf t i q m QiA
def X6c(m i:Nat):Qrs-i<=9:=by unfold runEnd;split<;>omega
def Xnp{Quo}:∀(r:Nat) (p:Nat×Nat),∃n,n<=10*r/\its t n (Xex t p)=Xex t (rnd t.mask r p)
 |0=>λp=>⟨0,UX0,rfl⟩|r+1=>λp=>by calc Xa (Xnp t r (leap t.mask Qsx)) λn L e=>?_;calc⟨(UZ9-p.1+1)+n,by let:=X6c t.mask p.1;omega,?_⟩;rw[Xd2,Xex,Xgf t p.1 p.2];calc e
def Xmb{Quo}(p:Probe):Q1A.dummy=p.dummy:=by
 unfold advance;split;·rfl
 ·rfl
def Xq0(h:Int):Ux0<2^64:=by unfold bits;omega
def Xci{Q7h}(xs:Array α){QWn}(x:α)(L:p<=xs.size):(insertAt xs p x).toList=xs.toList.take p++x::xs.toList.drop p:=by unfold insertAt;simp[Vah,Vcv,Vcp,List.extract_eq_take_drop,Vft,Nat.sub_zero];let:List.take (xs.size-p) (Um5)=Um5:=Va9 Q9;rw[this,Ug];rfl
def X2h{QSn}{j:Nat}(hj:∀k,k<xs.size->QNs≠j):Ris (insertAt xs QcL j):=by
 exact Xs (Xc4 hr j) λb1 b2 b3=>?_;unfold Ris;rw[Xci _ _ _ b1];let at_:∀k,(L:k<lg xs.toList)->xs.toList[k]=QNs:=λk L=>by
  let aa:k<xs.size:=by simpa using L
  simp![Va8,aa]
 let lo:∀x∈xs.toList.take QcL,x<j:=λx hx=>by let⟨k,L,rfl⟩:=Vb9.mp hx;rw[Vaq]at L;rw[List.getElem_take,at_];exact b2 k Q0
 let hi:∀x∈xs.toList.drop QcL,j<x:=λx hx=>by let⟨k,L,rfl⟩:=Vb9.mp hx;rw[Vbu,Vy]at L;rw[List.getElem_drop,at_];let h1:=b3 QdT Qtq;let h2:=hj QdT Q0;omega
 calc Vao.mpr ⟨List.Pairwise.sublist QKK hr,Vag.mpr ⟨hi,List.Pairwise.sublist (List.drop_sublist _ _) hr⟩,λa ha b hb=>?_⟩;rcases Vv.mp hb with rfl|hb;·exact lo a ha
 ·calc Ves (lo a ha) (hi UQB)
def Xb7{Qai}:t.fill=t.place.size:=by unfold fill;rw[T.dum];rfl
def Xu1{Qai}{j:Nat}(L:UP0=.empty):Tb Q42.1/\Q42.1.place.size=t.place.size+1/\Q42.1.mask=t.mask/\Q42.1.plain=t.plain/\Q42.1.led=t.led/\Q42.2<=t.place.size:=by
 let hk:∀k,k<t.place.size->U30≠j:=by
  exact Xbe QTS (λi h _=>?_) λ_ h=>?_;·rw[h]at L;cases L
  ·exact h
 exact Xi QiD λb1 _=>?_;calc⟨⟨X2h T.ris hk,?_⟩,?_,rfl,rfl,rfl,b1⟩;·show(if has t.dummies j=yx then _ else t.dummies)=_;rw[T.dum];simp![has]
 ·show Qw4.size=_;rw[<-Vy,Xci _ _ _ b1];simp!;omega
def Xnq{Qmj}:∀(l:UbH) (j:Nat),l[j]?=QNw->((l.set j QEg).filterMap id).Perm (k::UF2)
 |[],j=>λh=>by simp! at h|o::l,0=>λh=>by simp[gZ0,Vt]at h;subst h;exact UxC|o::l,j+1=>λh=>by
  let L:=Xnq k l j QN2;cases o with
  |none=>calc L|some a=>calc(L.cons a).trans (Vin k a _)
def Xmc:∀(l:UbH),(UF2).length<UyA->∃j:Nat,l[j]?=QNw
 |[]=>λh=>by simp! at h|o::l=>λh=>by
  cases o with
  |none=>calc⟨0,rfl⟩|some a=>calc Xd (Xmc l QN2) λj L=>?_;calc⟨j+1,by simpa using L⟩
def Xnr{Qjl}{QNm}:∀(L r i q:Nat),r<L->ow[QyR.1]?=QNw->∃j,Q7u ow L i q=UX9/\ow[j]?=QNw
 |0=>λr i q hr _=>aB0 hr QY5|f+1=>λr i q hr h=>by
  unfold layClean.free;cases e:QpL.find? λk=>QUM.isNone with
  |some k=>
   calc⟨i+k,rfl,?_⟩;let z:=ULA;by_cases hk:i+k<ow.size;·rw[Uk hk];simp[Va8,hk,dite_true]at z;simpa using z
   ·simp![Va8,hk]at z|none=>
   dsimp;cases r with
   |zero=>let z:=U24 0 (Vb2.mpr (by unfold runEnd;split<;>omega));calc Xd (Vab.mp (show ow[i]?=QNw from h)) λhi hx=>?_;simp![Va8,hi,hx]at z|succ r=>calc Xnr f r _ _ Q0 h
theorem Own{Q0q}{Qmj}:Prop:=ow.size=m+1/\(UT4).Perm QBc
def Xns:∀(l:UbH) (s:Nat) (g:Nat->Qyt),(∀i,i<UyA->g (s+i)=l.getD i yy)->((List.range' s l.length).filterMap λj=>(g j).map (j,·)).map QK1=UF2
 |[]=>λs g h=>rfl|o::l=>λs g h=>by
  let L:=h 0 Q9;let ih:=Xns l Q6b g λi hi=>by let:=h Qq1 Q83;rw[show s+1+i=s+Qq1 by omega,this];rfl
  rw[U5,List.range'_succ,U9];rw[Nat.add_zero]at L;rw[L];cases o with
  |none=>simpa using ih|some a=>simpa using ih
def Xnt(g:Nat->Qyt):∀(l:LN),l.Pairwise QRU->((QUD.map QT).Pairwise QRU/\∀x∈QUD.map QT,x∈l)
 |[]=>λ_=>⟨Vef,λx L=>by simp! at L⟩|a::l=>λh=>by
  calc Xi QDQ λh1 h2=>?_;calc Xi (Xnt g l h2) λi1 i2=>?_;rw[U9];cases e:g a with
  |none=>simp[Option.map_none];exact⟨i1,λx L=>UN7 QqU⟩|some b=>
   simp[U7,Ub];calc⟨Vag.mpr ⟨λx L=>h1 x QqU,i1⟩,λx L=>?_⟩;rcases Vv.mp L with rfl|L;·exact V4
   ·calc UN7 QqU
theorem Cy{QEl}:Prop:=∀x e,x<m+1->e<m+1->∃k,k<m+1/\itf m k x=e
def Xg6(m a:Nat):∀(b x:Nat),UAC QHf x=UAC a (UAC b x)
 |0=>λx=>by simp![itf]|b+1=>λx=>by rw[Vgp];calc Xg6 m a b _
abbrev orb{QEl}:Bool:=U0G==2^Q1C-1&&UAC Q1C 0==0
def Ybn{Qjl}(h:orb m=yx):Cy m:=by
 unfold orb at h;rw[bA0]at h;let aa:UAC Q1C 0=0:=eq_of_beq h.2;let all:∀e,e<m+1->∃k,k<m+1/\itf m k 0=e:=λe he=>by
  let z:(U0G).testBit e=true:=by rw[eq_of_beq h.1,Nat.testBit_two_pow_sub_one];exact decide_eq_true he
  exact Xj (Xqx m e QLq z) (λw=>?_) λw=>?_;·simp! at w
  ·exact w
 intro x e hx he;exact Xa (all x hx) λa ha L=>?_;subst L;exact Xa (all e he) λb hb L=>?_;subst L;by_cases c:a<=b;·exact⟨b-a,by omega,by rw[<-Xg6,show a+(b-a)=b by omega]⟩
 ·calc⟨m+1-a+b,by omega,?_⟩;rw[<-Xg6,show a+(m+1-a+b)=m+1+b by omega,Xg6,aa]
theorem Mg{QEl}:Prop:=m=7\/m=31\/m=127\/m=511\/m=2047\/m=8191
def Mg.cy{Qjl}(h:Mg m):Cy m:=by rcases h with rfl|rfl|rfl|rfl|rfl|rfl<;>calc Ybn Q8
def Mg.le{Qjl}(h:Mg m):m<=8191:=by rcases h with rfl|rfl|rfl|rfl|rfl|rfl<;>omega
def Xmd{QHo}{i q e:Nat}(hi:i<m+1)(hq:q<2^64)(L:e<m+1):∃r,r<m+14/\QyR.1=e:=by
 let h1:Q6R.2=0:=by rw[Xqz];exact Nat.div_eq_of_lt (Uj hq Q2)
 let h2:=Xu0 m 13 (i,q) hi;calc Xa (hm _ _ h2 L) λk hk e1=>?_;calc⟨13+k,by omega,?_⟩;rw[Xqy];let:UyB 13 (i,q)=(Q6R.1,0):=Prod.ext rfl h1;rw[this,Xno];calc e1
abbrev tm{QEl}:Uz:={mask:=m,place:=#[],dummies:=#[],finger:=0,led:=yx,moves:=0,plain:=yx}
def Xnu{Quo}:∀(n:Nat) (p:Probe),U50 n p=its QtG n p
 |0=>λp=>rfl|n+1=>λp=>Xnu t n Q1A
abbrev pth{QEl}(h:Int){QEj}:Nat:=(U9C n QmO).j
def Xeb{Qwp}:UP0=.empty ↔ j ∉ t.place.toList:=by
 exact Xbe QTS (λi h1 h2=>?_) λh1 h2=>?_
 ·rw[h1];rw[<-Ua]at h2;let hm:=Uc h2;constructor;·intro z;cases z
  ·intro z;exact aB0 hm z
 calc⟨λ_ hm=>?_,λ_=>h1⟩;let⟨i,hi,e⟩:=Vb9.mp hm;let L:i<t.place.size:=by simpa using hi
 calc h2 i L (by simp![Va8,L];simpa using e)
def Xgg{Qai}{j:Nat}(h:j∈t.place.toList):∃i,UP0=QYy/\t.place[i]?=UX9:=by
 exact Xe6 QTS QRP λh1 _=>?_;·exact h1
 ·calc aB0 h ((Xeb T j).mp h1)
def Xq1{Quo}:∀(n:Nat) (p:Probe),(U50 n p).dummy=p.dummy
 |0=>λp=>rfl|n+1=>λp=>(Xq1 t n _).trans (Xmb t p)
def Xs2{Qai}(f:Nat->Int)(h:Int):∀(d L:Nat) (p:Probe),p.dummy=yy->d<L->Q4H.j ∉ t.place.toList->(∀k,k<d->QV6.j∈t.place.toList) ->
  ((∀k,k<d->∀i,UDJ=QYy->f i≠h)/\probe.go t f h L p=yz QcQ) \/
  ∃k i,k<d/\t.slot QV6.j=QYy/\f i=h/\(∀k',k'<k->∀i',UCJ=.live i'->f i'≠h)/\probe.go t f h L p=yz QBD
 |0,0=>λp _ hf _ _=>aB0 hf QY5|d+1,0=>λp _ hf _ _=>aB0 hf QY5|0,L+1=>λp hd _ he _=>by calc .inl ⟨λk hk=>aB0 hk QY5,?_⟩;unfold probe.go;rw[(Xeb T _).mpr (show p.j ∉ _ from he),hd];rfl|d+1,L+1=>λp hd hf he hl=>by
  let h0:p.j∈t.place.toList:=hl 0 Q0;exact Xa (Xgg T h0) λi s1 s2=>?_;by_cases c:f i=h;·calc .inr ⟨0,i,by omega,s1,c,λk' hk=>aB0 hk QY5,?_⟩;unfold probe.go;rw[s1];dsimp;rw[c,beq_self_eq_true,iP0 rfl];rfl
  ·let hg:U1F (L+1) p=U1F L Q1A:=by
    conv=>lhs;unfold probe.go
    rw[s1];dsimp;rw[iN0 QI6]
   rw[hg];rcases Xs2 T f h d L Q1A (by rw[Xmb];calc hd) Q0 he (λk hk=>hl QB3 Q0) with⟨g1,g2⟩|⟨k,i',g1,g2,g3,g4,g5⟩
   ·calc .inl ⟨λk hk i' hi=>?_,g2⟩;cases k with
    |zero=>rw[show QEY.j=p.j from rfl,s1]at hi;cases hi;exact c|succ k=>exact g1 k Q0 i' hi
   calc .inr ⟨k+1,i',by omega,g2,g3,λk' hk aa hi=>?_,g5⟩;cases k' with
   |zero=>rw[show QEY.j=p.j from rfl,s1]at hi;cases hi;calc c|succ k'=>calc g4 k' Q0 aa hi
def Xkl{Qai}(hm:Cy t.mask)(hn:t.place.size<=t.mask)(h:Int):∃N,N<10*Qiy/\pth t.mask h N ∉ t.place.toList/\∀k,k<N->Uz3 k∈t.place.toList:=by
 exact Xa (Xs1 T) λe he hs=>?_;exact Xa (Xmd hm (i:=Ux0%(t.mask+1)) (q:=Ux0) Q7a QOf (e:=e) Q0) λr hr e1=>?_;exact Xa (Xnp QtG r QAJ) λn ae e2=>?_;let st:QtG.probeStart h=Xex QtG QAJ:=rfl;let q:Uz3 n=e:=by unfold pth;rw[st,e2];exact e1
 let ab:Uz3 n ∉ t.place.toList:=by rw[q];exact(Xeb T e).mp hs
 let ac:∀n,Uz3 n ∉ t.place.toList->∃N,N<=n/\pth t.mask h N ∉ t.place.toList/\∀k,k<N->Uz3 k∈t.place.toList:=λn=>by
  induction n using Nat.strongRecOn with
  |ind n ih=>
   intro hn;by_cases c:∀k,k<n->Uz3 k∈t.place.toList;·exact⟨n,UX0,hn,c⟩
   ·exact Xd (Classical.not_forall.mp c) λk hk=>?_;exact Xi (Classical.not_imp.mp hk) λaa L=>?_;exact Xe (ih k aa L) λN a b d=>?_;exact⟨N,by omega,b,d⟩
 calc Xe (ac n ab) λN a b d=>?_;calc⟨N,by unfold turns;omega,b,d⟩
abbrev Ats{Quo}{QHj}:List (Nat×Int×Vb):=t.place.toList.zip es.toList
theorem Xs3{Quo}{QHj}:Prop:=∀j h x,(j,h,x)∈Ats t es->∃n,Uz3 n=j/\∀k,k<n->Uz3 k∈t.place.toList
def X6d{QZk}{Q6l}{QFo}(h1:t.place[i]?=UX9)(h2:es[i]?=yz e):(j,e)∈Ats t es:=by
 let:(Ats t es)[i]?=yz (j,e):=by unfold Ats;rw[List.getElem?_zip_eq_some];exact⟨by rw[Ua];calc h1,by rw[Ua];calc h2⟩
 calc Uc this
def Xq2{QSk}{QWn}(a x:α):x∈l.take p++a::l.drop p ↔ x=a\/x∈l:=by
 conv=>rhs;rw[<-Uo p l]
 simp[Ut,Vv];constructor
 ·rintro (h|h|h);·exact .inr QVK
  ·exact Qfv
  exact .inr QYe
 rintro (h|h|h);·exact .inr QVK
 ·exact Qfv
 calc .inr QYe
def Xq3{Qwi}:∀(xs:Q7r) (ys:List β) (p:Nat) (a:α) (b:β),QPs=UX3->(xs.take p++a::xs.drop p).zip (ys.take p++b::ys.drop p)=QAN.take p++(a,b)::QAN.drop p
 |xs,ys,0=>λa b _=>by simp!|[],[],p+1=>λa b _=>by simp!|x::xs,y::ys,p+1=>λa b h=>by let L:=Xq3 xs ys p a b QN2;simp[List.take_succ_cons,List.drop_succ_cons,Vf0,Vi0];rw[L]|[],_::_,_+1=>λ_ _ h=>by simp! at h|_::_,[],_+1=>λ_ _ h=>by simp! at h
def Xu2{Qwp}(x:Nat):x∈Q42.1.place.toList ↔ x=j\/x∈t.place.toList:=by calc Xi QiD λL _=>?_;show x∈Qw4.toList ↔ _;rw[Xci _ _ _ L];calc Xq2 Q5s
def X2i{Qbl}(j:Nat)(e:Int×Vb)(x:Nat×Int×Vb):x∈Ats Q42.1 (UfD e) ↔ x=(j,e)\/x∈Ats t es:=by calc Xi QiD λL _=>?_;show x∈(insertAt t.place QpE j).toList.zip (QMv QpE e).toList ↔ _;rw[Xci _ _ _ L,Xci _ _ _ (by rw[<-hs];calc L),Xq3 _ _ _ _ _ (by simpa using hs)];calc Xq2 Q5s
def X2j{Qbl}(O:Xs3 t es){h:Int}{x:Vb}{N:Nat}(hN:∀k,k<N->Uz3 k∈t.place.toList):
  Xs3 QV9.1 (QMv QV9.2 Qab):=by
 intro j h' x' L;rw[X2i T hs]at L;let up:∀y,y∈t.place.toList->y∈QV9.1.place.toList:=λy hy=>(Xu2 T _ y).mpr QXc;exact Xj L Qx7 λL=>?_;·cases e;exact⟨N,rfl,λk hk=>up _ (hN k hk)⟩
 ·calc Xa (O j h' x' L) λn e q=>?_;calc⟨n,e,λk hk=>up _ (q k hk)⟩
def Xg7{Quo}(q:Nat){QQl}:∀(k m j:Nat),k<=m->(U50 k QW4)={j:=j+k,more:=m-k,i:=i,perturb:=q,dummy:=yy}
 |0,m,j,_=>by simp![its]|k+1,m,j,h=>by
  let e:t.advance QW4={j:=j+1,more:=m-1,i:=i,perturb:=q,dummy:=yy}:=by
   let:m>0:=by omega
   simp![advance,this]
  rw[its,e,Xg7 t q i k QHb QiA Q0];congr 1;·omega
  ·omega
def Xnv{m i:Nat}(h:i<m+1):Qrs<m+1:=by unfold runEnd;split<;>omega
def Xnw(m i:Nat):i<=Qrs:=by unfold runEnd;split<;>omega
def Xnx{Qjl}{QNm}(ho:ow.size=m+1):∀(aa i q j:Nat),i<m+1->Q7u ow aa i q=UX9->ow[j]?=QNw/\∃n,(U9C n QIH).j=j/\∀k,k<n->ow[(its Qk8 k QIH).j]?≠QNw
 |0=>λi q j _ h=>by simp![layClean.free]at h|f+1=>λi q j hi h=>by
  unfold layClean.free at h;let ge:=Xnw m i;let lt:=Xnv hi;let L:∀c,c<Qrs+1-i->(ow.getD (i+c) (yz 0)).isNone=yw->ow[i+c]?≠yz none:=λc hc hz hn=>by exact Xd (Vab.mp hn) λh1 h2=>?_;simp![Va8,h1,h2]at hz
  cases e:QpL.find? λk=>QUM.isNone with
  |some k=>
   rw[e]at h;cases h;let z:=ULA;let kl:k<Qrs+1-i:=Vb2.mp (List.mem_of_find?_eq_some e);exact⟨?_,k,?_,λc hc=>?_⟩
   ·by_cases hk:i+k<ow.size;·rw[Uk hk];simp[Va8,hk,dite_true]at z;simpa using z
    ·simp![Va8,hk]at z
   ·show(U9C k Qr2).j=_;rw[Xg7 _ _ _ k _ _ Q0]
   show ow[QDS.j]?≠_;rw[Xg7 _ _ _ c _ _ Q0];calc L c Q0 ?_;let:=(List.find?_range_eq_some.mp e).2.2 c hc;rw[Vbz]at this;exact this|none=>
   rw[e]at h;let hn:=U24;let ab:∀c,c<Qrs+1-i->ow[i+c]?≠yz none:=λc hc=>L c hc (by let:=hn c (Vb2.mpr hc);rw[Bool.not_eq_true]at this;calc this);let hl:QKF.1<m+1:=Un3;exact Xbx (Xnx ho f QKF.1 QKF.2 j hl h) λg1 n g2 g3=>?_;let re:U9C Q5R QIH=Xex Qk8 QKF:=Xgf Qk8 i q (Qrs-i) i;calc⟨g1,Qrs-i+1+n,?_,λc hc=>?_⟩;·rw[Xd2,re];exact g2
   ·by_cases q':c<Qrs-i+1;·show ow[QDS.j]?≠_;rw[Xg7 _ _ _ c _ _ Q0];exact ab c Q0
    ·let e2:c=Qrs-i+1+(c-Q5R):=by omega
     rw[e2,Xd2,re];calc g3 _ Q0
def Xu3{Qjl}:∀(n:Nat) (p:Probe),p.j+p.more<m+1->QoU.j+QoU.more<m+1
 |0=>λp h=>h|n+1=>λp h=>by
  calc Xu3 n _ ?_;unfold advance;split;·show p.j+1+(p.more-1)<m+1;omega
  ·let hl:QH4.1<m+1:=Un3;show QH4.1+(runEnd m QH4.1-QH4.1)<m+1;let:=Xnv hl;let:=Xnw m QH4.1;omega
def X6e{QEl}(h:Int){QEj}:pth m h n<m+1:=by let L:Ux0%Q1C<m+1:=Un3;let:=Xu3 (m:=m) n QmO (by show Ux0%Q1C+(runEnd m Qk6-Ux0%Q1C)<m+1;let:=Xnv L;let:=Xnw m Qk6;omega);unfold pth;omega
structure OwnG{Q0q}(hs:LI){Qmj}:Prop where
 own:Own m ow k
 way:∀j c,ow[j]?=yz QCL->∃h,hs[c]?=yz h/\∃n,pth m h n=j/\∀i,i<n->ow[pth m h i]?≠QNw
def Xu4{QHo}{QNm}{hs:LI}{Qgj}{h:Int}(O:UKK ow hs k)(hk:k<m+1)(hh:hs[k]?=yz h):∃j,U29=UX9/\OwnG m QyG hs QB3:=by
 exact Xi O.own λo1 o2=>?_;exact Xd (Xmc ow.toList (by rw[o2.length_eq,Vat,Vy,o1];calc hk)) λe he=>?_;let aa:e<m+1:=by let:=(Vk.mp he).1;rw[Vy,o1]at this;exact this
 let L:Ux0%Q1C<m+1:=Un3;exact Xa (Xmd hm (i:=Ux0%Q1C) (q:=Ux0) L QOf aa) λr hr e1=>?_;exact Xa (Xnr (m:=m) (ow:=ow) QsG r Qk6 QVO (by unfold turns;omega) (by rw[e1,<-Ua];calc he)) λj f1 f2=>?_;exact Xbx (Xnx o1 QsG _ _ j L f1) λ_ n w1 w2=>?_;let up:∀x,ow[x]?≠QNw->QyG[x]?≠yz none:=λx hx=>by
  rw[Array.getElem?_setIfInBounds];split
  ·split;·intro z;cases z
   ·intro z;cases z
  exact hx
 calc⟨j,f1,⟨by rw[Vjr,o1],?_⟩,λj' c hc=>?_⟩;·rw[Vf8];calc(Xnq k _ j (by rw[Ua];calc f2)).trans ((o2.cons k).trans ?_);rw[List.range_succ];exact(List.perm_append_singleton k QBc).symm
 ·by_cases q:j=j';·subst q;let hj:=(Vab.mp f2).1;rw[Array.getElem?_setIfInBounds_self_of_lt hj]at hc;cases hc;exact⟨h,hh,n,w1,λi hi=>up _ (w2 i hi)⟩
  ·rw[Array.getElem?_setIfInBounds_ne q]at hc;calc Xdm (O.way j' c hc) λh' g1 n' g2 g3=>?_;calc⟨h',g1,n',g2,λi hi=>up _ (g3 i hi)⟩
def Xny{QHo}(all:LI):∀(hs:LI) (ow:Array Qi0) (k:Nat),UKK ow all k->(∀i,hs[i]?=all[k+i]?)->k+lg hs<m+1->∃L,UKK L all (k+lg hs) /\
  hs.foldl (λacc h=>do
   let (owner,k) <- acc
   let j <- Q7u owner QsG Qk6 QVO
   pure (owner.setIfInBounds j QEg,k+1)) (yz (ow,k))=yz (L,k+lg hs)
 |[]=>λow k O _ _=>⟨ow,O,rfl⟩|h::hs=>λow k O ha hl=>by rw[U5]at hl;calc Xa (Xu4 hm O Q0 (by let:=ha 0;simpa using this.symm)) λj f1 f2=>?_;calc Xa (Xny hm all hs _ QB3 f2 (λi=>by let:=ha Qq1;rw[gS0]at this;rw[this,show k+Qq1=k+1+i by omega]) Q0) λL O' e=>?_;calc⟨L,by rw[U5,show k+QLb=k+1+lg hs by omega];calc O',?_⟩;rw[Vcg,U5,show k+QLb=k+1+lg hs by omega,<-e];congr 1;show(U29).bind _=_;rw[f1];rfl
def Xnz{QNm}{Qjl}(ho:ow.size=m+1)(j c:Nat):(j,c)∈QfV.filterMap Q9F ↔ ow[j]?=yz QCL:=by
 rw[Vd3];constructor
 ·rintro ⟨x,hx,e⟩;rw[Vb2]at hx;let L:x<ow.size:=by omega
  simp[Va8,L,dite_true]at e;cases q:ow[x]'L with
  |none=>rw[show ow.getInternal x L=ow[x] from rfl,q]at e;cases e|some y=>rw[show ow.getInternal x L=ow[x] from rfl,q]at e;cases e;rw[Uk L,q]
 intro h;calc Xd QBa λh1 h2=>?_;calc⟨j,Vb2.mpr Q0,?_⟩;simp[Va8,h1,dite_true];rw[show ow.getInternal j h1=ow[j] from rfl,h2];rfl
def X01{m f v:Nat}{led pl:Bool}(hm:Cy m){QHj}(hl:es.size<m+1):∃t L,laid m f v led pl Q38=yz (t,L)/\Tb t/\t.mask=m/\t.plain=pl/\t.led=led/\t.moves=v/\t.place.size=es.size/\Q14.size=es.size/\(UZ1).toList.Perm es.toList/\Xs3 t Q14/\L.toList.Perm QoL:=by
 let O0:UKK (Array.replicate Q1C yy) Q38.toList 0:=⟨⟨by simp!,by
  rw[Array.toList_replicate];let:∀n,(Vm n (yy:Qyt)).filterMap id=[]:=λn=>by induction n with
   |zero=>rfl|succ n ih=>rw[Vae,U9];exact ih
  rw[this];calc UxC⟩,λj c hc=>by rw[Array.getElem?_replicate]at hc;split at hc<;>cases hc⟩
 exact Xa (Xny hm Q38.toList Q38.toList _ 0 O0 (λi=>by rw[Vet]) QZD) λow O e=>?_;exact Xi O.own λo1 o2=>?_;rw[Vet,Vy,Array.size_map]at o2 e;let lc:layClean m Q38=yz ow:=by unfold layClean;rw[<-Array.foldl_toList];rw[show((es.map QT).toList.foldl _ (yz (Array.replicate Q1C (yy:Option Nat),0)))=yz (ow,es.size) from e];rfl
 let sn:Qg2.map QK1=UT4:=by
  let:=Xns ow.toList 0 Q3N λi hi=>by
   let ac:i<ow.size:=by simpa using hi
   simp![Va8,ac,Vbd]
  rw[Vy,o1,<-List.range_eq_range']at this;exact this
 let fs:=(Xnt Q3N QfV List.pairwise_lt_range).1;let op:(Qg2.map QK1).Perm QoL:=by rw[sn];exact o2
 let lt:∀p∈QfV.filterMap Q9F,p.2<es.size:=λp hp=>Vb2.mp (op.mem_iff.mp (V0.mpr ⟨p,hp,rfl⟩));let fm:∀l:List (Nat×Nat),(∀p∈l,p.2<es.size)->(l.map QK1).filterMap Q3C=l.map λp=>es.getD p.2 QtV:=λl=>by
  induction l with
  |nil=>intro _;rfl|cons a l ih=>intro h;let ha:=h a V4;rw[Ub,Ub,U9,Uk ha];simp;rw[ih λx hx=>h x Q8c];congr 1;simp![Va8,ha]
 unfold laid;rw[lc];calc⟨_,_,rfl,⟨fs,rfl⟩,rfl,rfl,rfl,rfl,?_,?_,?_,?_,by rw[Vdt];calc op⟩;·show(Vf1 _ _).toArray.size=_;let h1:=Qny sn;rw[Vg,o2.length_eq,Vat]at h1;simp[Vn,Vg];exact h1
 ·rw[<-Vy,Vhh,Vdt,fm _ lt,Vg];let:=op.length_eq;rw[Vg,Vat]at this;exact this
 ·rw[Vhh,Vdt];let h1:=op.filterMap Q3C;let h2:QoL.filterMap Q3C=es.toList:=by
   apply Vfn;intro i;let q:∀l:LN,(∀x∈l,x<es.size)->l.filterMap Q3C=l.map λx=>es.getD x QtV:=λl=>by
    induction l with
    |nil=>intro _;rfl|cons a l ih=>intro h;let ha:=h a V4;rw[Ub,U9,Uk ha];simp;rw[ih λx hx=>h x Q8c];congr 1;simp![Va8,ha]
   rw[q _ λx hx=>Vb2.mp hx,Ur];by_cases hi:i<es.size;·rw[Ve0 hi,Ua,Uk hi];simp![Va8,hi]
   ·rw[Vak QY0,Vak QY0];rfl
  rw[h2]at h1;exact h1
 intro j h x aa;unfold Ats at aa;rw[Vhh,Vdt,fm _ lt]at aa;rw[List.zip_map']at aa;let⟨⟨j',c⟩,hp,e'⟩:=V0.mp aa;let hc:c<es.size:=lt _ hp;exact Xdm (O.way j' c ((Xnz o1 j' c).mp hp)) λh' g1 n g2 g3=>?_;let e1:j'=j:=congrArg QT e';let e2:es.getD c QtV=Qab:=congrArg QK1 e';let eh:h'=h:=by
  rw[Ua,Array.getElem?_map,Uk hc]at g1;let e3:es[c]=Qab:=by simpa [Va8,hc] using e2
  rw[e3]at g1;exact(Um g1).symm
 subst eh e1;calc⟨n,g2,λi hi=>?_⟩;let hz:=g3 i hi;let ae:=X6e m h' i;show Ub9∈(Vf1 (λ(x:Nat×Nat)=>x.1) Qg2).toArray.toList;rw[Vdt];let ab:Ub9<ow.size:=by omega
 rw[Uk ab]at hz;cases q:ow[pth m h' i] with
 |none=>rw[q]at hz;cases hz rfl|some c'=>calc V0.mpr ⟨(Ub9,c'),(Xnz o1 _ _).mpr (by rw[Uk ab,q]),rfl⟩
structure Tab{Quo}{QEj}:Prop where
 tb:Tb t
 pl:t.plain=yx
 sz:t.place.size=n
 mg:Mg t.mask
 room:n*5<t.mask*3
 ln:n<1300
def Tab.le{QUo}:n+1<=t.mask:=by let:=T.room;rcases T.mg with e|e|e|e|e|e<;>omega
def Xaq{QUo}:t.fits n=true:=by let:=T.le;unfold Vhk;rw[Xb7 T.tb,T.sz];simp!;omega
def X6f{QZk}(T:U9H)(h:Int)(x:Vb):∃aa t',layNew t es h x=(aa,t',yw,yw)/\Tb t'/\t'.mask=t.mask/\t'.plain=yx/\t'.led=t.led/\t'.place.size=es.size+1/\aa.size=es.size+1:=by
 let le:=T.le;exact Xe (Xkl T.tb T.mg.cy (by rw[T.sz];omega) h) λN n1 n2 n3=>?_;exact Xag QEE λp1 p2 p3 p4 p5 p6=>?_;let f1:t.freeSlot h=yz (Uz3 N,yw):=by
  let pt:∀n,(U50 n Q3R).j=Uz3 n:=λn=>by rw[Xnu];rfl
  unfold freeSlot probe;rcases Xs2 T.tb (λ_=>h+1) h N _ Q3R rfl n1 (by rw[pt];calc n2) (λk hk=>by rw[pt];calc n3 k hk) with⟨_,g⟩|⟨_,_,_,_,g,_⟩;·rw[g,pt];rfl
  ·omega
 generalize pth t.mask h N=j at *;rw[T.sz]at p2 p6;let L:QI5.size=es.size+1:=by rw[<-Vy,Xci QLq p6];simp!;omega
 let ft:Q42.1.fits QI5.size=true:=by unfold Vhk;rw[Xb7 p1,p2,L,p3];simp!;omega
 calc⟨UfD Qab,Q42.1,?_,p1,p3,by rw[p4];calc T.pl,p5,p2,L⟩;unfold layNew;rw[f1];show(UfD Qab,Q42.1.orStandIn QI5.size,yw,! Q42.1.fits QI5.size)=_;unfold SetTable.orStandIn;generalize t.put j=pj at ft;rw[ft];rfl
def Xx5{QZk}{wanted:Nat}(hp:t.plain=yx)(hm:Mg QRM)(hl:es.size<=UwA-1):∃aa t',relayAll t es wanted=(aa,t',yw)/\Tb t'/\t'.mask=UwA-1/\t'.plain=yx/\t'.led=t.led/\t'.place.size=es.size/\aa.size=es.size:=by
 let⟨t',L,e,T,h1,h2,h3,_,h4,sz,_,_,h5⟩:=X01 (f:=t.finger) (v:=t.movedTo QRM) (led:=t.led) (pl:=t.plain) hm.cy es Q0;let rl:t.relaid Q38 wanted=yz (t',L):=e;let cv:coversAll L es.size=true:=List.isPerm_iff.mpr h5;let ft:t'.fits Q14.size=true:=by unfold Vhk;rw[Xb7 T,h4,sz,h1];simp!;omega
 calc⟨_,t',?_,T,h1,by rw[h2];calc hp,h3,h4,sz⟩;unfold relayAll;rw[rl];dsimp;rw[cv,ft];rfl
def Xq4{n m:Nat}(L:Mg m)(h0:n*5<m*3)(hn:n<1200)(h1:¬ QW9*5<m*3):Mg QUI/\QW9*5<QUI*3/\sizeAbove (grown QW9)<=8192:=by
 rcases L with rfl|rfl|rfl|rfl|rfl|rfl
 ·obtain rfl:n=4:=by omega
  exact⟨.inr (.inl Q8),by decide+kernel,by decide+kernel⟩
 ·obtain rfl:n=18:=by omega
  exact⟨.inr Q8G,by decide+kernel,by decide+kernel⟩
 ·obtain rfl:n=76:=by omega
  exact⟨.inr Qaa,by decide+kernel,by decide+kernel⟩
 ·obtain rfl:n=306:=by omega
  exact⟨.inr (.inr Qaa),by decide+kernel,by decide+kernel⟩
 ·omega
 omega
abbrev Xfs(p:LI×Addr):Int×Vb:=(reduceHash (Builtin.Tuple.tupleHashOf (p.1.map hashInt)),.ref p.2)
structure TabG{Quo}{QHj}:Prop extends Tab t es.size where
 own:Xs3 t es
universe Z
universe e
section
namespace Z
open PySem PySem.Spec PyProof.Rows L2
theorem FrL{QOp}(vs:LW):Prop:=
 (∃o,H a=yz (.frz o Qt1)) \/
  ∃(o:Obj) (its:AV) (n:Nat),QLw=Qkq/\o.cls=Qzq /\ o.dict=yy/\o.data=UTA/\its.size<=V6/\Vals vs its.toList
def FrL.sq{Qck}{H:Hp}{QZh}{Qfo}(h:FrL Qou):SqL Qou:=by
 rcases h with⟨o,h⟩|h;·exact .inl (.inr QqM)
 ·calc Qzy
mutual
theorem RD{QYi}:D->V->Prop
 |.non,v=>v=.non|.bl b,v=>v=.bl b|.int i,v=>v=QFu|.str x,v=>v=UCE|.tup xs,v=>∃a vs,v=QYr/\SqT Qou/\RDs UkA|.fro xs,v=>∃a vs,v=QYr/\FrL Qou/\RDs UkA|.ref n,v=>∃a,v=QYr/\ρ[n]?=QIx|.fn _ nm,v=>∃a,v=QYr/\Van UL0=yz Q9N|.edc,v=>∃a o,v=QYr/\H a=yz QYX
theorem RDs{QYi}:LD->LW->Prop
 |[],vs=>vs=[]|x::xs,vs=>∃v r,vs=v::r/\RD Qat x v/\RDs Qat xs r
end
abbrev clsNames:LS:=["FaceError","NoNet","NoFace","NoPoint","NotApart","TooMany","NoText","NoRow","NoNumber","NotLevel","NoCrowd","NoWay","NotClosed","NoSwap","NoPlaces","NoDeed","NoLine"]
abbrev Xcs(c:Nat):UF3:=(clsNames[c]?).filter λx=>!decide (x="")
def Xn0(h:Xcs c=QJu):c<lg clsNames:=by
 unfold Xcs at h;cases q:clsNames[c]? with
 |none=>rw[q]at h;cases h|some _=>calc QnD.1
abbrev Xay{Quk}(c:Nat):QCu:=Qcf.bind λnm=>match Van UL0 with
 |some QUU=>UwE|_=>yy
theorem ExcO(C a:Addr){QHi}:Prop:=∃L vs a0,QFr=UvE/\L.cls=.ref C/\L.data=Qvs/\vs[0]?=yz a0/\1<vs.size
def ExcO.ok(x:ExcO C a h):UQ1 QV1:=
 ⟨x,let ⟨oe,_,_,e,_⟩:=x;⟨oe,e⟩,λh1 h2 ⟨oe,vs,a0,e,r⟩ k=>⟨oe,vs,a0,k _ e,r⟩⟩
theorem Xn1{Qji}(o:Obj){Q1n}:Prop:=QFV=yw/\QR<=V6/\o.ExactDict/\∃(ys:UcH) (es:Array DictEntry) (ep:Nat),
 Paired (λp q=>p.1=q.1/\p.2.1=q.2.1/\RelV p.2.2 q.2.2) xs ys/\o.data=.dict es ep/\(∀P w,es.toList=ys.map (entryOfKey (Vfy QiS)))/\(ys.map QT).Nodup
theorem DicO{Qji}{Q1n}{QHi}:Prop:=∃o,QFr=Qkq/\Xn1 USI
def DicO.ok(x:DicO URB h):UQ1 Q2E:=
 ⟨x,let ⟨o,e,_⟩:=x;QCU,λh1 h2 ⟨o,e,r⟩ k=>⟨o,k _ e,r⟩⟩
private abbrev DX{QYi}:QZu->Ua0->Prop:=Paired λp q=>p.1=q.1/\SqT K H q.2.1 Q6B/\RD Qat UJI
abbrev sB(w:V7):Bool:=!w.params.followText "set-order"
theorem StO(L:Bool){Qji}{Qyo}{QHi}:Prop:=∃o es ep t,QFr=Qkq/\o.ExactSet/\o.data=Uv5/\es.toList=ps.map Xfs/\TabG t es/\t.led=L
def StO.ok(x:StO bo a ps h):UQ1 (.ext (StO bo a ps)):=
 ⟨x,let ⟨o,_,_,_,e,_⟩:=x;QCU,λh1 h2 ⟨o,es,ep,t,e,r⟩ k=>⟨o,es,ep,t,k _ e,r⟩⟩
theorem OR{Quk}(L:Bool)(ρ:LR){QJl}:O->Prop
 |.lst xs=>∃vs,H a=Uq4/\RDs UkA|.dct kvs=>(kvs=[]/\H a=yz Qp6)\/(kvs≠[]/\∃xs,H a=yz Q2E/\DX Qat QWw)|.fdc kvs=>∃o u xs,H a=QWu/\(∀ys,u≠.tup ys)/\(∀ys,u≠.lst ys)/\Xn1 USI/\DX Qat QWw|.exc c=>∃C,Ug3=UwE/\H a=Un2|.st ks=>∃ps,H a=yz (.ext (StO L a ps))/\(∀p∈ps,Ut3 p.2 Q6B)/\Q18.Perm ks/\ks.Nodup|.ded=>∃o u,H a=QWu
def OR.some{Qul}{QBq}:∃u,H a=QIt/\∀xs,u≠UC4:=by
 cases o with
 |lst xs=>exact UW4 λvs e _=>?_;exact⟨_,e,λ_ z=>(nomatch z)⟩|dct kvs=>
  exact Xd9 h (λ_ e=>?_) λ_ xs e _=>?_;·exact⟨_,e,λ_ z=>(nomatch z)⟩
  ·calc⟨_,e,λ_ z=>(nomatch z)⟩|fdc kvs=>calc Yd h λo u xs e _=>?_;calc⟨_,e,λ_ z=>(nomatch z)⟩|exc c=>calc UW4 λC _ e=>?_;calc⟨_,e,λ_ z=>(nomatch z)⟩|st ks=>calc UW4 λps e _=>?_;calc⟨_,e,λ_ z=>(nomatch z)⟩|ded=>calc Yy h λo u e=>?_;calc⟨_,e,λ_ z=>(nomatch z)⟩
def OR.nt{Qul}{q:Str}{QBq}:H a≠Option.some (HO.tbl q):=λz=>by
 cases o with
 |lst xs=>calc UW4 λvs e _=>?_;rw[z]at e;cases e|dct kvs=>rcases h with⟨_,e⟩|⟨_,xs,e,_⟩<;>(rw[z]at e;cases e)
 |fdc kvs=>calc Yd h λo u xs e _=>?_;rw[z]at e;cases e|exc c=>calc UW4 λC _ e=>?_;rw[z]at e;cases e|st ks=>calc UW4 λps e _=>?_;rw[z]at e;cases e|ded=>calc Yy h λo u e=>?_;rw[z]at e;cases e
abbrev mks:LS:=["_law_first_ones","first_wrong"]
abbrev Xbj{Q5m}:Str:=nm ++ ".<locals>." ++ "<lambda>"
abbrev Xec{Quk}:List Q4Z:=mks.filterMap λnm=>(PySem.W.tabIn K nm).map λp=>(p.2,Xbj nm)
theorem TabH{Quk}{Qdo}:Prop:=∀P q,Qsy=yz q->H P=yz QLe
def TabH.upd{Qck}{H:Hp}{p:Addr}{u:HO}(t:Up3)(h:∀q,H p≠yz QLe):TabH K QqI:=λP q e=>by rw[Xg λz=>h q (by rw[<-z];calc t P q e)];calc t P q e
structure SR{Quk}(bo:Bool)(ρ:LR){QIh}{Qdo}:Prop where
 tab:Up3
 len:(lg ρ)=UzA
 nd:ρ.Nodup
 ob:∀(n:Nat) a o,ρ[n]?=QIx->S[n]?=Qkq->OR Ui0
structure Mon{Qsn}:Prop where
 pre:∀(n:Nat) a,ρ[n]?=QIx->ρ'[n]?=QIx
 tup:∀a xs,UO7->SqT K H' URB
 frz:∀a o u,H a=QWu->H' a=QWu
structure Stp{Qsn}:Prop extends Mon K ρ ρ' H H' where
 new:∀a∈ρ',a∈ρ\/H a=yy
 keep:∀a o,H a=Qkq->a ∉ ρ->H' a=Qkq
section
variable{Qck}{ρ ρ' ρ'':LR}{H H' H'':Hp}{QKj}
def Mon.fro{Qjh}{Qji}(xs:LW)(h:FrL Qws):FrL K H' URB:=by
 rcases h with⟨o,h⟩|h;·exact .inl ⟨o,UmB h⟩
 ·calc Qzy
def Stp.refl:UPD H:=⟨⟨λ_ _ h=>h,λ_ _ h=>h,λ_ _ _ h=>h⟩,λ_ h=>Qfv,λ_ _ h _=>h⟩
def Stp.trans{Qgi}(y:Stp UtE):Qot ρ'' H H'' where
 pre:=λn a h=>UpF
 new:=λa h=>by
  exact Xj (y.new a h) Qv3 λh=>?_;·exact x.new a h
  ·cases e:H a with
   |none=>exact .inr rfl|some o=>
    by_cases L:a∈ρ;·exact .inl L
    ·rw[x.keep a o e L]at h;cases h
 keep:=λa o h n=>y.keep a o (U7J n) λL=>by
  exact Xj (x.new a L) Qh0 λz=>?_;·exact n z
  ·rw[h]at z;cases z
 tup:=λa xs h=>UoF
 frz:=λa o u h=>UjB
mutual
def RD.mono'{Qjh}:∀(d:D) (v:V),UKD->Qry
 |.non=>λv h=>by simpa only[RD] using h|.bl b=>λv h=>by simpa only[RD] using h|.int i=>λv h=>by simpa only[RD] using h|.str y=>λv h=>by simpa only[RD] using h|.tup xs=>λv h=>by simp[RD]at h |-;exact U02 λa vs e h1 h2=>?_;exact⟨a,vs,e,x.tup a vs h1,UBA⟩|.fro xs=>λv h=>by simp[RD]at h |-;exact U02 λa vs e h1 h2=>?_;exact⟨a,vs,e,x.fro a vs h1,UBA⟩|.ref n=>λv h=>by simp[RD]at h |-;exact UW4 λa e h=>?_;exact⟨a,e,x.pre n a h⟩|.fn f nm=>λv h=>by simpa only[RD] using h|.edc=>λv h=>by simp[RD]at h |-;exact Xf h λa o e h=>?_;exact⟨a,o,e,UmB h⟩
def RDs.mono'{Qjh}:∀(ds:LD) (vs:LW),Qgu->UHH
 |[]=>λvs h=>by simpa only[RDs] using h|d::ds=>λvs h=>by simp[RDs]at h |-;exact U02 λv r e h1 h2=>?_;exact⟨v,r,e,U4A d v h1,QVv ds r h2⟩
end
def RD.mono{Qgi}(d:D)(v:V){Q8n}:Qry:=RD.mono' x.toMon d v h
def RDs.mono{Qgi}(ds:LD)(vs:LW){Qep}:UHH:=RDs.mono' x.toMon Qkr h
def RDs.nil:Qwr Ut1:=by simp[RDs]
def RDs.cons{Q8n}(t:Qgu):Qwr QNY Q0Y:=by simp[RDs];calc⟨v,vs,rfl,h,t⟩
def RDs.length:∀ {ds:LD} {vs:LW},Qgu->U4G=Q8y
 |[],vs,h=>by simp[RDs]at h;subst h;rfl|d::ds,vs,h=>by simp[RDs]at h;calc U02 λv r L _ h2=>?_;subst L;simp![RDs.length h2]
def RDs.append:∀ {ds es:LD} {vs us:LW},Qgu->Qwr es us->Qwr (ds++es) Q0d
 |[],es,vs,us,h,t=>by simp[RDs]at h;subst h;calc t|d::ds,es,vs,us,h,t=>by simp[RDs]at h;calc U02 λv r L h1 h2=>?_;subst L;calc UH1 (RDs.append h2 t)
def RDs.get:∀ {ds:LD} {vs:LW} {i:Nat} {d:D},Qgu->ds[i]?=Um2->∃v,vs[i]?=UA2/\RD QFs
 |[],vs,i,d,h,e=>by simp! at e|x::ds,vs,0,d,h,e=>by simp[RDs]at h;calc U02 λv r L h1 h2=>?_;subst L;simp! at e;subst e;calc QPW|x::ds,vs,i+1,d,h,e=>by simp[RDs]at h;calc U02 λv r L h1 h2=>?_;subst L;calc Xa (RDs.get (i:=i) h2 QmE) λv' e' h'=>?_;calc⟨v',by simpa using e',h'⟩
def RDs.none{ds:LD}{Qfo}{Qfi}{Qep}(e:ds[i]?=yy):vs[i]?=none:=by let:=h.length;rw[Uv]at e |-;omega
def RDs.set(hv:UKD):∀ {ds:LD} {vs:LW} (i:Nat),Qgu->Qwr (ds.set i d) (vs.set i v)
 |[],vs,i,h=>by simp[RDs]at h;subst h;calc RDs.nil|x::ds,vs,0,h=>by simp[RDs]at h;calc U02 λw r L h1 h2=>?_;subst L;calc RDs.cons hv h2|x::ds,vs,i+1,h=>by simp[RDs]at h;calc U02 λw r L h1 h2=>?_;subst L;calc UH1 (RDs.set hv i h2)
def RDs.drop:∀ {ds:LD} {vs:LW} (n:Nat),Qgu->Qwr (ds.drop n) (vs.drop n)
 |ds,vs,0,h=>h|[],vs,n+1,h=>by simp[RDs]at h;subst h;calc RDs.nil|x::ds,vs,n+1,h=>by simp[RDs]at h;calc U02 λw r L h1 h2=>?_;subst L;calc RDs.drop n h2
def RDs.take:∀ {ds:LD} {vs:LW} (n:Nat),Qgu->Qwr (ds.take n) (vs.take n)
 |ds,vs,0,h=>RDs.nil|[],vs,n+1,h=>by simp[RDs]at h;subst h;calc RDs.nil|x::ds,vs,n+1,h=>by simp[RDs]at h;calc U02 λw r L h1 h2=>?_;subst L;calc UH1 (RDs.take n h2)
def RDs.eraseIdx:∀ {ds:LD} {vs:LW} (n:Nat),Qgu->Qwr (ds.eraseIdx n) (vs.eraseIdx n)
 |[],vs,n,h=>by simp[RDs]at h;subst h;calc RDs.nil|x::ds,vs,0,h=>by simp[RDs]at h;calc U02 λw r L h1 h2=>?_;subst L;calc h2|x::ds,vs,n+1,h=>by simp[RDs]at h;calc U02 λw r L h1 h2=>?_;subst L;calc UH1 (RDs.eraseIdx n h2)
def RDs.ints:∀(ns:LI),Qwr QW Qa1
 |[]=>RDs.nil|n::ns=>RDs.cons QD1 (RDs.ints ns)
def RDs.ints_of:∀ {ns:LI} {vs:LW},Qwr QW vs->vs=ns.map V.int
 |[],vs,h=>by simp[Vf1,RDs]at h;calc h|n::ns,vs,h=>by simp[Vf1,RDs]at h;calc U02 λv r L h1 h2=>?_;subst L;simp[RD]at h1;subst h1;rw[RDs.ints_of h2];rfl
def DX.mono{Qjh}{Qgp}:DX K Q4r QWw:=Paired.mapP h λp q Qi1=>⟨h1,Us4 h2,U4A _ _ h3⟩
def OR.mono'{Qjh}{Q7m}(e:H' a=H a):Uj7 Q4r a o:=by
 cases o with
 |lst xs=>exact UW4 λvs h1 h2=>?_;exact⟨vs,Uw2,UBA⟩|dct kvs=>
  exact Xd9 h (λh1 h2=>?_) λh0 xs h1 h2=>?_;·exact .inl ⟨h1,e.trans h2⟩
  ·calc .inr ⟨h0,xs,Uw2,UEC⟩|fdc kvs=>calc Xk h λo u xs h1 h2 L h4 h5=>?_;calc⟨o,u,xs,Uw2,h2,L,h4,h5.mono x⟩|exc c=>calc UW4 λC h1 h2=>?_;calc⟨C,h1,e.trans h2⟩|st ks=>calc Xe h λps h1 h2 L=>?_;calc⟨ps,Uw2,λp hp=>Us4 (h2 p hp),L⟩|ded=>calc Yy h λo u h=>?_;calc⟨o,u,e.trans h⟩
def OR.mono{Qgi}{Q7m}(e:H' a=H a):Uj7 Q4r a o:=OR.mono' x.toMon h e
def SR.at{QPh}{Qoi}{QZh}(h:ρ[n]?=QIx):∃o,S[n]?=Qkq/\OR Ui0:=by
 let L:n<UzA:=by rw[<-r.len];exact QL5.1
 calc⟨S[n],by simp![L],UU8 _ h QZL⟩
def SR.adr{QPh}{Qoi}(h:S[n]?=Qkq):∃a,ρ[n]?=QIx/\OR Ui0:=by
 let L:n < ρ.length:=by rw[r.len];exact QL5.1
 calc⟨ρ[n],by simp![L],r.ob n _ o QZL h⟩
def SR.mem{QPh}{QZh}(h:a∈ρ):∃u,H a=QIt/\∀xs,u≠UC4:=by let⟨n,L,e⟩:=Vb9.mp h;calc Xa (r.at (n:=n) (a:=a) (by simp![L,e])) λo _ q=>?_;calc q.some
def Stp.upd{Qkp}:UPD QrI where
 pre:=λ_ _ h=>h
 new:=λ_ h=>Qfv
 keep:=λa u h _=>by rw[Xg Q3K];exact h
 tup:=λa xs h=>by
  exact UbC (λu h=>?_) λh=>?_;·exact .inl (.inl (by rw[Xg Q3K];calc h))
  ·exact .inl (.inr ⟨u,by rw[Xg Q3K];calc h⟩)
  exact Qzy
 frz:=λa o u h=>by rw[Xg Q3K];calc h
def SR.upd{QPh}{p:Addr}{o:HO}{Qkp}:U1K S QrI:=
 ⟨r.tab.upd λq=>QUG,r.len,r.nd,λn a ob h1 h2=>by
  let q:=UU8 ob Qwq;exact Xa q.some λu hu _=>?_
  calc q.mono QpN (Xg (Xr hu L))⟩
def Stp.new1{Qkp}:Qot QoR H QrI where
 pre:=λn a h=>by rw[Vx QL5.1];exact h
 new:=λa h=>by
  exact Uu9 λh=>?_;·exact Qfv
  ·rw[V3.mp h];exact .inr L
 keep:=QD8.keep
 tup:=QD8.tup
 frz:=QD8.frz
def SR.new1{QPh}{p:Addr}{u:HO}{o:O}{Qkp}(ho:Uj7 QoR QqI p o):UF1 QoR QhV QqI:=by
 let aa:p ∉ ρ:=λh=>by exact Xa (r.mem h) λw hw _=>?_;rw[L]at hw;cases hw
 calc⟨r.tab.upd λq=>QUG,by simp![r.len],?_,λn a ob h1 h2=>?_⟩;·rw[Vdm];calc Ql5;rw[V3.mp hy];exact λz=>aa QSU
 ·by_cases hn:n < ρ.length;·rw[Vx hn]at h1;rw[Vx (by rw[<-r.len];calc hn)]at h2;let q:=UU8 ob Qwq;exact Xa q.some λw hw _=>?_;exact q.mono QLB (Xg (Xr hw L))
  ·let e:n=lg ρ:=by
    let:=QnB.1;simp! at this;omega
   subst e;simp! at h1;rw[r.len]at h2;simp! at h2;subst h1 h2;calc ho
def Stp.chg{Qbn}(ha:ρ[n]?=QIx){Q9o}:UPD QsI:=by
 let L:a∈ρ:=Uc ha;exact Xa (r.mem L) λw hw h1=>?_;exact⟨⟨λ_ _ h=>h,λb xs h=>?_,λb o u h=>?_⟩,λ_ h=>Qfv,λb o h hb=>?_⟩
 ·exact UbC QsX λh=>?_;·exact .inl (.inl (by rw[Xg (λz=>by subst z;rw[hw]at h;calc h1 _ QnL)];calc h))
  ·exact .inl (.inr ⟨v,by rw[Xg QmF];calc h⟩)
  exact Qzy
 ·rw[Xg QmF];exact h
 rw[Xg (λz=>hb QzF)];calc h
def SR.chg{Qbn}(L:ρ[n]?=QIx){Q9o}(ho:Uj7 ρ QsI a o):U1K (QKy o) QsI:=by
 calc⟨r.tab.upd λq=>let ⟨_,_,h⟩:=r.at L;h.nt,by simp![r.len],r.nd,λm b ob h1 h2=>?_⟩;let hn:n<UzA:=by rw[<-r.len];exact QLH.1
 by_cases e:m=n;·subst e;rw[L]at h1;cases h1;rw[Vam hn]at h2;cases h2;exact ho
 ·rw[Vbh QxY]at h2;let q:=r.ob m b ob Qwq;calc q.mono (QKt (o:=o) r L hz) (Xg λz=>e ?_);subst z;calc Xd QnB λh3 e3=>?_;calc Xd QLH λh4 e4=>?_;calc(List.getElem_inj r.nd).mp QPO
def Mon.own{Qol}{Q2o}:U14 QVq QtI where
 pre:=λ_ _ h=>h
 tup:=λa xs h=>by
  exact UbC QsX λh=>?_;·exact .inl (.inl (by rw[Xg QT5];calc h))
  ·exact .inl (.inr ⟨v,by rw[Xg QT5];calc h⟩)
  exact Qzy
 frz:=λa o u h=>by rw[Xg QT5];calc h
def SR.own{Qol}{QPh}{Q2o}(L:D ∉ ρ):U1K S QtI:=
 ⟨r.tab.upd λq=>(by rw[hd];calc λz=>nomatch z),r.len,r.nd,λn a ob h1 h2=>QGN.mono' (Mon.own hd) (Xg λz=>L (by rw[<-z];calc Uc h1))⟩
def Stp.own{Qol}{ρ0:LR}(x:UDD H)(L:H0 D=yy){Q2o}:UDD QtI where
 pre:=x.pre
 tup:=λa xs h=>(Mon.own (ρ:=ρ) hd).tup URB QSI
 frz:=λa o u h=>(Mon.own (K:=K) (ρ:=ρ) hd).frz a o u QqG
 new:=x.new
 keep:=λa o h hn=>by rw[Xg Q3K];calc U7J hn
universe e
structure ER{QYi}{QAn}(σ:L2.St):Prop where
 len:(Uc8)=lg σ
 val:∀(i:Nat) d,env[i]?=U3J->∃v,σ[i]?=UzI/\RD QFs
def ER.mono{Qck}{QMk}{QLj}{Qgi}:U7E:=
 ⟨r.len,λi d e=>let ⟨v,h1,h2⟩:=r.val i d e;⟨v,h1,UEC⟩⟩
def ER.mono'{Qck}{QMk}{QLj}{Qjh}:U7E:=
 ⟨r.len,λi d e=>let ⟨v,h1,h2⟩:=r.val i d e;⟨v,h1,U4A d v h2⟩⟩
def ER.set{Qvh}{QLj}{QQl}{d:D}{v:V}{Q8n}:ER Qat QBH QQ9:=
 ⟨by simp![r.len],λj e h1=>by
  by_cases z:j=i
  ·subst z;let L:j<Uc8:=by
    let:=QnB.1;simpa using this
   rw[Vam L]at h1;cases h1;exact⟨v,by rw[Vam (by rw[<-r.len];calc L)],h⟩
  rw[Vbh QwY]at h1;exact Xa (r.val j e h1) λv' h2 h3=>?_
  calc⟨v',by rw[Vbh QwY];calc h2,h3⟩⟩
structure S0{Qui}(σ:L2.St){Qdo}(s:Vc)(ρ:LR){QIh}{QAn}:Prop where
 inv:Qbt
 sr:UE1 H
 er:ER QUq H env σ
def S0.step{Qzg}{QEp}(r:SR Qmq)(x:QSv):
  S0 QJq QCr S' env:=⟨J,r,I.er.mono x⟩
theorem EPd{QFh}(d:D)(S':Sto){QQo}:Prop:=
 ∃v H' ρ',QYt/\RelV v u/\RD UN6/\SR Qmq/\Stp QSq
theorem Trc(fl:Vb)(ok:Addr->Prop){QCn}:Prop:=
 ∃L vs T oT ts,QFr=UvE/\L.data=Qvs/\vs[1]?=yz QSe/\ok T/\T≠a/\H' T=yy/\h.get? T=yz oT/\oT.data=.fields ts/\ts[3]?=yz fl
def Trc.imp(x:Trc fl ok H' a h)(k:∀T,ok T->ok' T):Trc fl ok' H' a h:=by let⟨L,vs,T,oT,ts,h1,h2,h3,h4,r⟩:=x;calc⟨L,vs,T,oT,ts,h1,h2,h3,k T h4,r⟩
theorem Xkm{Qui}(T:Addr):Prop:=(T∈X.ex\/X.s₀.heap.get? T=yy)/\∀p∈X.pn++pc,p.1≠T
theorem Fly{Qui}{QCn}:Prop:=
 (∃L vs,QFr=UvE/\L.data=Qvs/\vs[1]?=yz .none)\/∃fl,(fl=.none\/fl=Vaa X.env.locals)/\Trc fl (UWC) H' a h
theorem XPd{QFh}{QEj}(S':Sto){QTo}:Prop:=
 ∃H' ρ' a c,QYt/\e=QYr/\ρ'[n]?=QIx/\S'[n]?=Qru/\SR Qmq/\Stp QSq/\Fly QZw Qds
theorem OkP{QFh}(r:R D){QQo}:Prop:=∃d S',r=Uc5/\EPd Qur d S' UJB
theorem ExP{QFh}{Q7h}(r:R α){QTo}:Prop:=∃n S',r=Qdu/\XPd Qur n S' e s'
theorem DE{QRp}(f:En->Sto->R D):Prop:=
 ∀(pc:LA) (s:Vc) (σ:L2.St) (H:Hp) (ρ:LR) (S:Sto) (env:En),Q2s->Q8u≠.bad ->
  Vf QTq QC3 (QXt Qv) Qj4 s
theorem DT{QRp}{QMm}:Prop:=
 ∀(pc:LA) (s:Vc) (σ:L2.St) (H:Hp) (ρ:LR) (S:Sto) (env:En),Q2s->Q8u≠.bad ->
  Vf QTq Q2C QU2 Qj4 s
section
variable{QUh}{QTh}{Q7j}{Qqp}{Qyi}
def DE.ok{Qek}{Qzg}(r:Q8u=Uc5)(hQ:∀u s' v H' ρ',QLy->QNr->RD UN6->QSv->Q UJB):
  Vf UmA:=by
 let nb:Q8u≠.bad:=by rw[r];exact λz=>nomatch z
 exact U63 λx s' q=>?_;·exact X7 q λd' S1 L v H' ρ' J rv rd sr st=>?_;rw[r]at L;cases L;exact hQ UJB v Qcw QXA UMB
 ·calc Xf q λn S1 L _=>?_;rw[r]at L;cases L
def DE.ex{Qek}{Qzg}(r:Q8u=Qdu){QXi}:
  Vf UmA:=by
 let nb:Q8u≠.bad:=by rw[r];exact λz=>nomatch z
 exact U63 λx s' q=>?_;·exact Xf q λd' S1 L _=>?_;rw[r]at L;cases L
 ·calc Xf q λm S1 L q=>?_;rw[r]at L;cases L;calc QWt q
def DT.ok{Qfh}{QNp}(h:UD9){Qzg}(r:Qpw=UuH)(hQ:∀s' H' ρ',QLy->QSv->Q b s'):
  Vf QTq Q2C Qeq:=by
 let nb:Qpw≠.bad:=by rw[r];exact λz=>nomatch z
 exact U63 λx s' q=>?_;·let⟨S1,L,H',ρ',J,sr,st⟩:=q;rw[r]at L;cases L;exact hQ s' Qcw QXA st
 ·calc Xf q λn S1 L _=>?_;rw[r]at L;cases L
def DT.ex{Qfh}{Qoi}(h:UD9){Qom}:
  Vf QTq Q2C Qeq:=by
 let nb:Qpw≠.bad:=by rw[r];exact λz=>nomatch z
 exact U63 λx s' q=>?_;·exact Xa q λS1 L _=>?_;rw[r]at L;cases L
 ·calc Xf q λm S1 L q=>?_;rw[r]at L;cases L;calc QWt q
def XPd.pre{QCj}:XPd Qur n S' Uk6:=by calc Ye h λH2 ρ2 a c J e hn hc sr st2 fl=>?_;calc⟨H2,ρ2,a,c,J,e,hn,hc,sr,st.trans st2,fl⟩
def ExP.mk{Q7h}{QCj}:QZt (Qdu:R α) x s':=⟨n,S',rfl,Ud8⟩
def OkP.mk{QNh}{QEp}{Q2n}(L:RD UN6)(sr:SR Qmq):QXt QWQ UJB:=
 ⟨d,S',rfl,v,H',ρ',J,rv,L,sr,st⟩
def OkP.pre{QNh}(h:OkP QJq Q4r r UJB):QXt r UJB:=by calc X7 h λd S1 e v H2 aa J rv rd sr L=>?_;calc⟨d,S1,e,v,H2,aa,J,rv,rd,sr,st.trans L⟩
def ExP.pre{Q7h}{Qei}{QIp}{x:Vb}{s':Vc}{QNh}(h:U6E Q4r r Uk6):QMy:=by calc Xf h λn S1 e q=>?_;calc⟨n,S1,e,q.pre st⟩
def DE.bind{Q7h}{Qek}{Qzg}{k:D->Sto->R α}{Qzo}{QIp}(L:r=Qv.bind k)
  (hQ:∀d S1 u s' v H' ρ',r=k UgE->k UgE≠.bad->UND->QNr->RD UN6->QSv->Q UJB) (hE:∀x s',QMy->E Uk6):
  Vf UmA:=by
 cases q:Q8u with
 |bad=>rw[q]at nb;cases nb rfl|ex QVw=>rw[q]at L;calc Uf8 λx s' z=>QWt QcJ|ok UgE=>rw[q]at L nb;calc Ue8 λu s' v H' ρ' J rv rd st=>UZ3 J UMB
universe e
def Xi9:big<=V6:=by rw[Vav];decide
def Xb8(h:n<=big):n<=V6:=Uh h Xi9
abbrev tst(r:R D):UZ5:=r.bind λx S=>match X6 S x with
 |some b=>.ok b S|none=>.bad
section
variable{QUh}{e a b c:Expr}{Qqn}{Qyi}{Q4l}
def opd{f:Vb->Vb->U93}(L:OpR Q94 f r){Q0h}(rx:Qax)(ry:Uu3)(h:r x y H Q')
  (hQ:∀w s' z H',QYt->U09->UrD->UIK):Q4s QGS Qeq:=
 thn (L Qiq x y v u UlI ry h) λw s' Qt9=>Qes
def ped(L:PE Q94 e t){Q0h}(h:t σ H Q')(hQ:∀w s' z H',QYt->U09->UrD->UIK):Q4s QC3 Qeq:=
 thn (L Qiq Q' QNJ h) λw s' Qt9=>Qes
def Xg8{f:Vb}{r:LW->Hp->VK->Prop}{xs:LW}{us:LV}{Q':VK}(L:Xg3 Q94 f r){Q0h}(rx:Qpr)(h:r xs H Q')
  (hQ:∀w s' z H',QYt->U09->UrD->UIK):Q4s QTN Qeq:=
 thn (L Qiq xs us UlI h) λw s' Qt9=>Qes
def mtd{id:String}{r:V->LW->Hp->VK->Prop}{x:V}{xs:LW}{v:Vb}{us:LV}{Q':VK}(L:MtM Q94 id r){Q0h}(rx:Qax)(rs:Qpr)(h:r x xs H Q')
  (hQ:∀w s' z H',QYt->U09->UrD->UIK):Q4s QSO Qeq:=
 thn (L Qiq x xs v us UlI rs h) λw s' Qt9=>Qes
def S0.list{Qzg}{QLm}:∃a vs,ρ[n]?=QIx/\H a=Uq4/\RDs QEs:=by
 unfold lstAt at h;cases e:S[n]? with
 |none=>rw[e]at h;cases h|some o=>
  rw[e]at h;cases o with
  |lst ys=>cases h;calc Xdm QPX λa ha vs L hr=>?_;calc⟨a,vs,ha,L,hr⟩|_=>cases h
def S0.seq{Qnl}{Q5q}:∃a vs,v=QYr/\(SqL U82\/SqT U82)/\RDs QEs:=by
 cases d with
 |tup ys=>simp[Xo,Vt]at h;subst h;simp[RD]at r;calc Xc r λa vs e h1 h2=>?_;calc⟨a,vs,e,.inr h1,h2⟩|fro ys=>simp[Xo,Vt]at h;subst h;simp[RD]at r;calc Xc r λa vs e h1 h2=>?_;calc⟨a,vs,e,.inl h1.sq,h2⟩|ref n=>simp[RD]at r;calc Xa r λa e h1=>?_;calc Xc Q9I λa' vs h2 h3 L=>?_;rw[h1]at h2;cases h2;calc⟨a,vs,e,.inl (.of h3),L⟩|_=>cases h
def S0.lsR{Qzg}(h:Uy4 d=QLu){Q5q}:∃a vs,v=QYr/\SqL U82/\RDs QEs:=by
 cases d with
 |fro ys=>cases h;simp[RD]at r;calc Xc r λa vs e h1 h2=>?_;calc⟨a,vs,e,h1.sq,h2⟩|ref n=>simp[RD]at r;calc Xa r λa e h1=>?_;calc Xc Q9I λa' vs h2 h3 L=>?_;rw[h1]at h2;cases h2;calc⟨a,vs,e,.of h3,L⟩|_=>cases h
def Xct(h:Uy3):QMW = !ds.isEmpty:=by let:=h.length;cases ds<;>cases vs<;>simp_all
def Xm0{Qzg}{Qyl}{Qfh}(h:X6 S d=yz k){Qpj}(hQ:∀s',UI1 s'->Q k s'):
  Vf QTq (truthy u) Qeq:=by
 let ab:X53 X.K v H k:=by
  cases d with
  |non=>simp[RD]at L;subst L;simp[X6,Vt]at h;calc h.symm|bl b=>simp[RD]at L;subst L;simp[X6,Vt]at h;calc h.symm|int i=>simp[RD]at L;subst L;simp[X6,Vt]at h;exact h.symm|str x=>
   simp[RD]at L;subst L;simp[X6]at h;split at h;·rename_i hb;exact⟨Xb8 hb,QnL.symm⟩
   ·cases h|fn _ _=>cases h|edc=>cases h|tup xs=>
   simp[X6,Vt]at h;exact Xc (I.seq (d:=UC4) rfl L) λa vs e h1 h2=>?_;subst e;exact Xj h1 QRP λh1=>?_;·exact .inl QV2
   ·exact .inr Qda|fro xs=>
   simp[X6,Vt]at h;exact Xc (I.seq (d:=.fro xs) rfl L) λa vs e h1 h2=>?_;subst e;exact Xj h1 QRP λh1=>?_;·exact .inl QV2
   ·exact .inr Qda|ref n=>
   simp[X6]at h;cases e:S[n]? with
   |none=>rw[e]at h;cases h|some o=>
    rw[e]at h;cases o with
    |lst ys=>exact Xc (I.list (n:=n) (xs:=ys) (by unfold lstAt;rw[e])) λa vs h1 h2 h3=>?_;simp[RD]at L;exact Xa L λa' e' aa=>?_;rw[h1]at aa;cases aa;subst e';exact .inl ⟨vs,.of h2,by rw[Xct h3];calc QnL.symm⟩|_=>cases h
 calc thn (X54 (X:=Uj3) Qiq v u (λk' H'=>k'=k/\H'=H) QA9 rv ⟨k,ab,rfl,rfl⟩) λb s' ⟨H',J,e1,e2⟩=>by subst e1 e2;calc hQ s' J.unwish
def DT.of{Q1m}:DT X e QSP:=by
 intro pc Qyr;dsimp at nb |-;cases q:Q8u with
 |bad=>rw[q]at nb;cases nb rfl|ex QVw=>exact isTrue_plain (Uf8 λx s' z=>Qf0) QuW|ok UgE=>
  rw[q]at nb;cases t:X6 S1 d with
  |none=>simp![tst,t]at nb|some k=>calc isTrue_plain (Ue8 λu s' v H' ρ' J rv rd st=>?_) QuW;calc Xm0 J t Qby λs2 J2=>⟨S1,by simp![tst,t],H',ρ',J2,J.sr,st⟩
def X02 {Qfi}{QVl}(hd:Qk=yw)(aa:QX2=yw):
  DE X Qh7 (λenv S=>match env[i]? with|some Q3B=>UJ1|_=>.bad):=by
 intro pc Qks;dsimp at L |-;cases q:env[i]? with
 |none=>rw[q]at L;cases L rfl|some o=>
  cases o with
  |none=>rw[q]at L;cases L rfl|some d=>calc Xa (I.er.val i d q) λv h1 h2=>?_;calc ped (Q':=λz H'=>z=v/\H'=H) (X5x hN hv hd aa) I.inv ⟨v,h1,rfl,rfl⟩ λu s' z H' J rz QV8=>by subst e1 e2;calc .mk UP6 rz h2 I.sr
def d_int:Qjv QHM (λ_ S=>Un1):=λpc s σ H ρ S env I _=>ped (Q':=λz H'=>z=QFu/\H'=H) X5y UN8 λu s' z H' J rz QV8=>by subst e1 e2;calc Q2t
def d_bl:Qjv (.Constant (.bool i) UKI) (λ_ S=>.ok (.bl i) S):=λpc s σ H ρ S env I _=>ped (Q':=λz H'=>z=.bl i/\H'=H) Ybk UN8 λu s' z H' J rz QV8=>by subst e1 e2;calc Q2t
def d_non:Qjv QXK (λ_ S=>Qox S):=λpc s σ H ρ S env I _=>ped (Q':=λz H'=>z=.non/\H'=H) X5z UN8 λu s' z H' J rz QV8=>by subst e1 e2;calc Q2t
def d_str:Qjv (.Constant QMe UKI) (λ_ S=>.ok QMe S):=λpc s σ H ρ S env I _=>ped (Q':=λz H'=>z=.str i/\H'=H) X50 UN8 λu s' z H' J rz QV8=>by subst e1 e2;calc Q2t
theorem DA{QMl}(es:LX)(f:En->Sto->R LD):Prop:=
 ∀(pos:Pos) (pc:LA) (s:Vc) (σ:L2.St) (H:Hp) (ρ:LR) (S:Sto) (env:En),Q2s->Q8u≠.bad ->
  Vf QTq QOD
   (λus s'=>∃ds S' vs H' ρ',Q8u=Qmx/\Inv UYB s'/\Vals vs us/\RDs Q7t Qkr/\SR Qmq/\Stp QSq) Qj4 s
def DA.ok{QSh}{Q8j}{ds:LD}{Qpl}{Qzg}(r:Qpw=Qmx)
  (hQ:∀us s' vs H' ρ',QLy->QWs->RDs Q7t Qkr->QSv->Q us s'):
  Vf UlA:=by
 let nb:Qpw≠.bad:=by rw[r];exact λz=>nomatch z
 exact Vp QgE Qj6 λx s' q=>?_;·exact X8 q λd' S1 vs H' ρ' L J rv rd sr st=>?_;rw[r]at L;cases L;exact hQ UJB vs Qcw QXA UMB
 ·calc Xf q λn S1 L _=>?_;rw[r]at L;cases L
def DA.ex{QSh}{Q8j}{Qoi}{Qpl}{Qom}:
  Vf UlA:=by
 let nb:Qpw≠.bad:=by rw[r];exact λz=>nomatch z
 exact Vp QgE Qj6 λx s' q=>?_;·exact Yr q λd' S1 _ _ _ L _=>?_;rw[r]at L;cases L
 ·calc Xf q λm S1 L q=>?_;rw[r]at L;cases L;calc QWt q
def DA.bind{Q7h}{QSh}{Q8j}{Qpl}{Qzg}{k:LD->Sto->R α}(nb:Qw6.bind k≠.bad){QIp}(L:r=Qw6.bind k)
  (hQ:∀ds S1 us s' vs H' ρ',r=k UB8->k UB8≠.bad->UND->QWs->RDs Q7t Qkr->QSv->Q us s') (hE:∀x s',QMy->E Uk6):
  Vf UlA:=by
 cases q:Qpw with
 |bad=>rw[q]at nb;cases nb rfl|ex QVw=>rw[q]at L;calc Uf8 λx s' z=>QWt QcJ|ok UgE=>rw[q]at L nb;calc Ue8 λu s' v H' ρ' J rv rd st=>UZ3 J UMB
def X6g:DA X [] (λ_ S=>UI9):=λ_ pc s σ H ρ S env I _=>Vdn ⟨[],S,[],H,ρ,rfl,I.inv,.nil,.nil,I.sr,.refl⟩
def X2k{QSh}{QKh}(hr:DA X es g)(hs:Us QBA X.env=Qx1::Qxw):
  DA X QBA (λenv S=>Qo.bind λx S=>Qw6.bind λxs S=>Uz5):=by
 intro pos pc Qyr;dsimp at nb |-;rw[hs];show QXq (spliced (Qx1::Vdd pos QdV)) Qlr;calc Vbi (Qss rfl (λd S1 u s1 v H1 ag e1 af I1 rv rd L=>?_) λ_ _ z=>z);rw[e1];calc hr.bind I1 af rfl (λds S2 us s2 vs H2 ab e2 _ I2 ae ac aa=>⟨d::ds,S2,v::vs,H2,ab,e2,I2.inv,.cons rv ae,.cons QHL ac,I2.sr,L.trans aa⟩) λ_ _ z=>z.pre L
def Xd3(J:Qvr (UhD (.tup vs)) s'){Q6k}:QXt (Um1) Q21 s':=by calc U26 QpN J rfl ?_ (sr.upd L);simp[RD];calc⟨p,vs,rfl,.of Xp,RDs.mono QpN QQt rd⟩
def Xan(J:Qvr (UhD Qt1) s'){Q6k}:QXt (UT7) Q21 s':=by calc U26 (ρ':=ρ++[p]) QLB J rfl ?_ (sr.new1 L ⟨vs,Xp,RDs.mono QLB QQt rd⟩);simp[RD];calc⟨p,rfl,by rw[<-sr.len];simp!⟩
def Ybo{es:LX}{x1:Nat}{Qrp}{Qpl}:Qjv (Ur1 x1 pos) (λenv S=>Qw6.bind λxs S=>if QR<=big then Um1 else .bad):=by
 intro pc Qyr;dsimp at nb |-;calc wpAny_Tuple_spliced Qn4;rw[e1];split at L
 ·rename_i hz;let hl:QJ2<=V6:=by rw[<-rd.length];exact UkC
  rw[iP0 hz];exact⟨by rw[<-rv.length];calc hl,OkP.pre aa (Xd3 (Q0y ⟨hl,us,rv,QD5⟩) QwL I1.sr rd)⟩
 cases L rfl
def Ybp{QSh}{Qpl}:Qjv (.List es pos) (λenv S=>Qw6.bind λxs S=>if QR<=big then UT7 else .bad):=by
 intro pc Qyr;dsimp at nb |-;calc wpAny_List_spliced Qn4;rw[e1];split at L
 ·rename_i hz;let hl:QJ2<=V6:=by rw[<-rd.length];exact UkC
  rw[iP0 hz];exact⟨by rw[<-rv.length];calc hl,OkP.pre aa (Xan (Q0y ⟨hl,us,0,rv,Um3 rfl⟩) QwL I1.sr rd)⟩
 cases L rfl
theorem Op2{QMl}(m:Vb->Vb->U93)(k:D->D->Sto->R D):Prop:=
 ∀(pc:LA) (s:Vc) (σ:L2.St) (H:Hp) (ρ:LR) (S:Sto) (env:En) (x y:D) (v u:V) (v' L:Vb) (E:VP),Q2s->k QUs≠.bad ->
  RD QUq H x v->RelV v v'->Q6s y u->RelV u L->Q4s (m v' L) (QXt (k QUs)) E s
def two(ho:Qns m k){Quh}{Qzg}{r:R D}
  (nb:Qo.bind (λx S=>Q74.bind λy S=>k QUs)≠.bad) (hr:r=Qo.bind λx S=>Q74.bind λy S=>k QUs):
  Vf QTq QEC (λv s₁=>Q4s QDC (λu s₂=>Q4s (m v u)
   (QXt r) Q8C s₂) Q8C s₁) Q8C s:=by
 calc Qss hr (λx S1 v' s1 v H1 ag e1 ae I1 rv rd L=>?_) λ_ _ z=>z;calc hb.bind I1 ae e1 (λy S2 u' s2 u H2 ac e2 af I2 ru ab aa=>?_) λ_ _ z=>z.pre L;subst e2;calc Vp (ho Ub2 ac S2 env UA6 Qt I2 af QHL rv ab ru) (λw s3 z=>z.pre (L.trans aa)) λ_ _ z=>z.elim
abbrev opB:Bo->Operator
 |.add=>.Add|.sub=>.Sub|.mul=>.Mult|.fdiv=>.FloorDiv|.mod=>.Mod|.pow=>.Pow|.shl=>.LShift|.shr=>.RShift|.band=>.BitAnd
def Ybq(L:Qns Q5c Qjf){Quh}:Qjv (.BinOp a QNG b pos) (λenv S=>Qo.bind λx S=>Q74.bind λy S=>X1 QUw):=
 λpc s σ H ρ S env I nb=>wpAny_BinOp QiK
abbrev opC:Co->CmpOp
 |.eq=>.Eq|.ne=>.NotEq|.lt=>.Lt|.le=>.LtE|.gt=>.Gt|.ge=>.GtE|.isin=>.In|.notin=>.NotIn|.is=>.Is
def Ybr{QZl}:
  DE X QEG (λenv S=>Qo.bind λx S=>Q74.bind λy S=>UoJ):=
 λpc s σ H ρ S env I nb=>wpAny_Compare1 QiK hm
def Xd4(h:UoJ≠.bad):∃r,Xbi QUw=US6/\X4 QUw=UVH:=by
 unfold X4 at h |-;cases e:Xbi QUw with
 |none=>rw[e]at h;cases h rfl|some r=>calc⟨r,rfl,rfl⟩
def Xcu(h:X6 S d=US6):tst QzD=UD4:=by simp![tst,h]
def Xkn{op:CmpOp}{k:D->D->Sto->R D}(hk:∀x y S d S',k QUs=Uc5->∃r,d=.bl r)(ho:Qns (Va5 op) k){Quh}(hm:Vdp op b=yw):
  DT X (.Compare a [op] [b] pos) (λenv S=>tst QtA):=by
 intro pc Qyr;dsimp at nb |-;let ac:QtA≠.bad:=λz=>UY8;exact wpAny_isTrue_Compare1 (Vp (two ho UN4 I ac rfl) (λv s1 h1=>Vp h1 (λu s2 h2=>Vp h2 (λw s3 h3=>?_) λx s' z=>?_) λx s' z=>?_) λx s' z=>?_) hm
 ·exact X7 h3 λd S1 e v1 H1 ab J rv rd sr st=>?_;let aa:∃r,d=.bl r:=by
   cases q:Uv2 with
   |bad=>rw[q]at e;cases e|ex QVw=>rw[q]at e;cases e|ok UaA=>
    rw[q]at e;simp[Rk0]at e;cases L:fb Q0u with
    |bad=>rw[L]at e;cases e|ex QVw=>rw[L]at e;cases e|ok y S2=>rw[L]at e;exact hk Uc4 d _ e
  exact Xd aa λr ae=>?_;subst ae;simp[RD]at rd;subst rd;cases rv;exact Vcd ⟨S1,by rw[e];rfl,H1,ab,J,sr,st⟩
 all_goals (calc UY6 λn S1 e q=>?_;calc⟨n,S1,by rw[e];rfl,q⟩)
def X6h{QZl}:
  DT X QEG (λenv S=>tst (Qo.bind λx S=>Q74.bind λy S=>UoJ)):=Xkn (λx y S d S' e=>by
 exact Xa (Xd4 (op:=op) (x:=x) (y:=y) (S:=S) QTG) λr _ e2=>?_
 rw[e2]at e;cases e;calc⟨r,rfl⟩) L UN4 hm
def X03{rest:LX}{QKh}(hb:Qjv QhG fb):Qjv Q5F
  (λenv S=>Qo.bind λx S=>match X6 S x with|some yx=>Ui8|some yw=>Uh1|none=>.bad):=by
 intro pc Qyr;dsimp at nb |-;calc BoolOp_and QXD;rw[e1];cases t:Qtv with
 |none=>rw[t]at L;cases L rfl|some r=>
  rw[t]at L;calc UG5 λs2 J2=>?_;cases r with
  |true=>calc Vp Qb8 QQ7 λx s' z=>QHt|false=>calc U16
def X6i{rest:LX}{QKh}(hb:Qjv QqH fb):Qjv QIM
  (λenv S=>Qo.bind λx S=>match X6 S x with|some yx=>Uh1|some yw=>Ui8|none=>.bad):=by
 intro pc Qyr;dsimp at nb |-;calc BoolOp_or QXD;rw[e1];cases t:Qtv with
 |none=>rw[t]at L;cases L rfl|some r=>
  rw[t]at L;calc UG5 λs2 J2=>?_;cases r with
  |false=>calc Vp Qb8 QQ7 λx s' z=>QHt|true=>calc U16
def X04(h:Qjv a f):Qjv (.BoolOp op [a] pos) f:=λpc s σ H ρ S env I L=>BoolOp_one (h pc Qks)
def Ybs{Qpk}(hv:UOH):Qjv QGM (λenv S=>Qo.bind λx S=>match X6 S x with|some r=>UJE|none=>.bad):=by
 intro pc Qyr;dsimp at nb |-;calc UnaryOp_ (hv.bind I nb rfl Qu3 λ_ _ z=>z);rw[e1];cases t:Qtv with
 |none=>rw[t]at L;cases L rfl|some r=>calc not_of (UG5 λs2 J2=>.mk (v:=.bl (!r)) aa J2 rfl QD1 I1.sr)
def X6j{Qpk}:DT X QGM (λenv S=>tst (Qo.bind λx S=>match X6 S x with|some r=>UJE|none=>.bad)):=by
 intro pc Qks;dsimp at L |-;cases q:Uv2 with
 |bad=>rw[q]at L;cases L rfl|ex QVw=>exact isTrue_not Qe4|ok UaA=>
  rw[q]at L;simp[Rk0]at L |-;cases t:Qtv with
  |none=>rw[t]at L;cases L rfl|some r=>calc isTrue_not (ha.ok I Ql1 λs2 H2 ab I2 aa=>⟨S1,rfl,H2,ab,I2.inv,I2.sr,aa⟩)
def Ybt{Qok}{Quh}:
  DE X Q8P (λenv S=>QhE.bind λx S=>match X6 S x with|some yx=>Uv2|some yw=>Ui8|none=>.bad):=by
 intro pc Qks;dsimp at L |-;cases q:UHC with
 |bad=>rw[q]at L;cases L rfl|ex QVw=>exact wpAny_IfExp QkB|ok UaA=>
  rw[q]at L;simp[Rk0]at L |-;cases t:Qtv with
  |none=>rw[t]at L;cases L rfl|some r=>
   rw[t]at L;calc wpAny_IfExp Qo5;cases r with
   |true=>calc Vp QX6 QQ7 λx s' z=>QHt|false=>calc Vp QW6 QQ7 λx s' z=>QHt
theorem DW{QRp}{QMm}:Prop:=
 ∀(L:U93) (pc:LA) (s:Vc) (σ:L2.St) (H:Hp) (ρ:LR) (S:Sto) (env:En),Q2s->Q8u≠.bad ->
  Vf QTq (isTrue UgA L) QU2 Qj4 s
def DW.dt(h:DW X e g):UD9:=h _
def X2l(L:DT X a g):DW X (U86 [a] pos) g:=by
 intro wh pc Qyr;calc isTrue_and Qm6;cases c with
 |true=>calc isTrue_and_nil z|false=>calc z
def X6k(L:DT X a g):DW X (U48 [a] pos) g:=by
 intro wh pc Qyr;calc isTrue_or Qm6;cases c with
 |false=>calc isTrue_or_nil z|true=>calc z
def Xu5{rest:LX}{Qpk}(hb:DW X QhG QKD):DW X Q5F
  (λenv S=>tst (Qo.bind λx S=>match X6 S x with|some yx=>Ui8|some yw=>Uh1|none=>.bad)):=by
 intro wh pc Qks;dsimp at L |-;cases q:Uv2 with
 |bad=>rw[q]at L;cases L rfl|ex QVw=>exact isTrue_and Qe4|ok UaA=>
  rw[q]at L;simp[Rk0]at L |-;cases t:Qtv with
  |none=>rw[t]at L;cases L rfl|some r=>
   rw[t]at L;calc isTrue_and Q5D;cases r with
   |true=>calc Vp Q4D Q50 λx s' z=>QHt|false=>calc QyC
def X05{rest:LX}{Qpk}(hb:DW X QqH QKD):DW X QIM
  (λenv S=>tst (Qo.bind λx S=>match X6 S x with|some yx=>Uh1|some yw=>Ui8|none=>.bad)):=by
 intro wh pc Qks;dsimp at L |-;cases q:Uv2 with
 |bad=>rw[q]at L;cases L rfl|ex QVw=>exact isTrue_or Qe4|ok UaA=>
  rw[q]at L;simp[Rk0]at L |-;cases t:Qtv with
  |none=>rw[t]at L;cases L rfl|some r=>
   rw[t]at L;calc isTrue_or Q5D;cases r with
   |false=>calc Vp Q4D Q50 λx s' z=>QHt|true=>calc QyC
universe e
universe Z
universe e
section
namespace Z
open PySem PySem.Spec PyProof.Rows L2 PySem.SeqAt
open AutoSeq1 (wpAny_loadPart')
def Ydx:fillsNumberSlot Qk4 "mul"=pure false:=
 PySem.fillsNumberSlot_seq (r:=yz (.builtin "tuple.__rmul__")) PySem.F.slot_tuple_mul.lookup Q8 Qz4 Q8
def Ydy:seqRepeat? Qk4=pure (yz (.builtin "tuple.__mul__")):=by unfold seqRepeat?;rw[PySem.seqSlot_of (T:="tuple") (name:="__mul__") (id:="tuple.__mul__") PySem.F.slot_tuple_mul.lookup Q8,PySem.seqSlot_of (T:="tuple") (name:="__rmul__") (id:="tuple.__rmul__") Qz4 Q8];rfl
private noncomputable abbrev Xs4{QZi}:Obj:={cls:=Qpq,dict:=dd,data:=UUA n,slots:=sl}
def Xu6(a:Int)(t:Tok)(l:Addr){QZi}:
  Meets (Vbf.«int.__rmul__» ⟨[.int a t,UDE],[]⟩) (λ_ R s=>QHv=U0J/\R (.ok (.ret Value.notImplemented)) s):=
 .of_wp λprog w A R s QcK=>by let⟨L,g,d,tk,os⟩:=s;wp_walk;calc QcA
section
variable(l:Addr){QZi}(k:Int)(u:Tok)
def Ybu:
  Meets (Vbf.«tuple.__mul__» ⟨[.ref l,Q2w u],[]⟩) (λ_ R s=>QHv=U0J/\R (.ok (.ret QqB)) s):=
 .of_wp λprog w A R s QcK=>by let⟨hp,g,d,tk,os⟩:=s;let f1:=AutoSeq1.idx_int;let L:=Vgq;wp_walk using Vfb hl;calc QcA
def Ybv(L:¬ (decide QMN||decide QTL)=yx)(h1:¬ QUL=yx)(h2:(decide QVg||items.isEmpty)=yx):
  Meets QS8 (λ_ R s=>QHv=U0J/\R QeH {s with heap:=s.heap.push {cls:=Qpq,data:=.seq #[]} }):=
 .of_wp λprog w A R s QcK=>by let⟨hp,g,d,tk,os⟩:=s;let f1:=AutoSeq1.idx_int;let f2:=Vgq;wp_walk using Vfb hl;calc Uq6 ?_;wp_walk using Vfb hl;calc QcA
def Ybw(h0:¬ (decide QMN||decide QTL)=yx)(h1:¬ QUL=yx)(h2:¬ (decide QVg||items.isEmpty)=yx)(L:¬ (items.size:Int)*k>QrV/8)
  (h4:¬ Vi7 (items.size*k)=yx) (h5:QFE.size<=V6):
  Meets QS8 (λ_ R s=>QHv=U0J/\R QeH {s with heap:=s.heap.push {cls:=Qpq,data:=.seq QFE} }):=
 .of_wp λprog w A R s QcK=>by let⟨hp,g,d,tk,os⟩:=s;let f1:=AutoSeq1.idx_int;let f2:=Vgq;wp_walk using Vfb hl;calc wpAny_ite_false (decide_eq_false h0) ?_;wp_walk using Vfb hl;calc Uq6 ?_;wp_walk using Vfb hl;calc QcA
universe e
section
variable{Qro}{s:Vc}
def Xme(its:LV):∀(m:Nat) (L:LV),Vgx Qt4 L.toArray QfO=(L++(Vm m its).flatten).toArray
 |0=>λL=>by simp!|m+1=>λL=>by rw[Vae,Vcg,List.append_toArray,Xme its m];simp![Vae]
def X2m{QKn}(hv:vs≠[])(hk:-Qa3<k)(ae:k<1048576)(hz:QJ2*k.toNat<=1000000)
  (h1:k=1->Q Q35 s) (h2:k≠1->UsD {s with heap:=s.heap.push {cls:=Qpq,data:=.seq (Uz9 vs).flatten.toArray} }):
  Vf QCw Q4I Qeq:=by
 let⟨⟨cls,dd,data,sl⟩,L,hc,n,hd⟩:=id ht;simp at hc hd;subst hc hd;let ez:(vs.toArray.isEmpty)=false:=by cases vs with|nil=>exact aB0 rfl hv|cons _ _=>rfl
 let h0:¬ (decide QMN||decide QTL)=true:=by simp!;lia
 let go:∀ {S:PySem.Spec},Meets (Vbf.«tuple.__mul__» ⟨[.ref t,Q1w u],[]⟩) S->S A (wants Q E) s->Qcq Q4I Qeq:=λg hS=>
  Vjj (T:="tuple") (U:="int") Q2 QLE (λs'=>UpB u) Ydx PySem.F.fills_int_mul PySem.F.slot_int_rmul Ydy PySem.F.slot_int_index.lookup
   (Ve8 PySem.F.slot_int_rmul (UxE u) PySem.F.entry_int_rmul (PySem.F.args_int_rmul_2 _ _) (Xu6 k u Qzt)
    ⟨L,rfl,QLE,Ve8 PySem.F.slot_tuple_mul QLE PySem.F.entry_tuple_mul (PySem.F.args_tuple_mul_2 _ _) g hS⟩)
 by_cases e1:k=1;·subst e1;exact go (Ybu Qzt u) ⟨L,h1 rfl⟩
 ·let aa:¬ (vs.toArray.isEmpty||k==1)=true:=by rw[ez];simpa using e1
  by_cases e0:k<=0
  ·calc go (Ybv Qzt k u h0 aa (by simp![e0])) QhR;let:=h2 e1;let e2:k.toNat=0:=by lia
   rw[e2]at this;exact this
  let ef:=Xme vs k.toNat [];rw[Ve9]at ef;let hl:(Uz9 vs).flatten.length=k.toNat*Q8y:=Xkf vs k.toNat;let ab:QJ2*k.toNat<=V6:=Uh hz Q2;let af:(lg vs:Int)*k<=1000000:=by
   let ac:(k.toNat:Int)=k:=by lia
   rw[<-ac,<-Int.natCast_mul];exact Int.ofNat_le.mpr hz
  calc go (Ybw Qzt k u h0 aa (by rw[ez];simpa using e0) ?_ ?_ ?_) QhR;·rw[Vn];lia
  ·rw[Vn];unfold Vi7;let:(1000000:Int)<=(V6:Int):=by decide
   intro hh;let hh:=oD0 hh;lia
  ·rw[show Qyg=([]:LV).toArray from rfl,ef,Vn,hl,Nat.mul_comm];exact ab
  rw[show Qyg=([]:LV).toArray from rfl,ef];calc h2 e1
universe e
universe Z
universe e
section
namespace Z
open PySem PySem.Spec PyProof.Rows L2
def Xbd:∀ {ns:LI} {us:LV},UwG us->U0D ns
 |[],_,.nil=>.nil|n::ns,_,USD=>by calc Xd r λk L=>?_;subst L;calc .cons n k (Xbd t)
section
variable{Q2h}{x y:Addr}{us vs:LV}{xs ys:LI}
def Xg9:∀a:LI,ltL a a=yw
 |[]=>rfl|x::a=>by simp![ltL,Xg9 a]
structure Cm{QAl}(u v:Vb){Qtk}:Prop where
 lt:∀(E:VP) (Q:VP),Q QaB s->Qcq (richCompare .Lt u v) Qeq
 one:∀(c:Bool) (E:VP) (Q:Bool->Vc->Prop),Q b s->Qcq (oneLt' c u v) Qeq
theorem Eb{QAl}(u v:Vb){Qtk}:Prop:=∀(E:VP) (Q:Bool->Vc->Prop),Q b s->Qcq (eqBool u v) Qeq
inductive Lx{QAl}:LV->LV->Bool->Prop
 |ni {vs:LV}:Lx QKs [] vs (decide (0<Q8y))
 |no {u:Vb} {us:LV}:UKA [] yw
 |ne {u v:Vb} {us vs:LV} {b:Bool}:UTK u v yw->Cm QKs u v b->UKA Q0Y b
 |eq {u v:Vb} {us vs:LV} {b:Bool}:UTK u v yx->Lx Uk2 b->UKA Q0Y b
def Xja{n m:Int}{t u:Tok}:UTK QXa QYa (n==m):=λ_ _ h=>US8
def Xu7{n m:Int}{t u:Tok}:Cm QKs QXa QYa (decide (n<m)):=⟨λ_ _ h=>lt_int h,λc E Q h=>by
 cases c with
 |true=>calc PySem.W.kat_lt_int h
 |false=>calc PySem.W.kat_one _ _ (lt_int (show PySem.W.BoolBack Q _ s from h))⟩
def Xko(ix:U0D xs):∀ {vs:LV} {ys:LI},Vbv vs ys->Lx Uk2 QJN:=by
 induction ix with
 |nil=>intro vs ys L;cases L<;>exact .ni|@cons x t us xs _ ih=>
  intro vs ys L;cases L with
  |nil=>exact .no|@cons y u vs ys L=>
   rw[ltL];by_cases c:x=y;·rw[iP0 c];exact Q4w (ih L)
   ·rw[iN0 c];calc QYv
inductive LtI{QAl}(us vs:LV){Qtk}(l:List (Vb×Vb)):Prop
 |mk (us' vs':LV):l=us'.zip vs'->Lx QKs us' vs' b->decide (lg us'<lg vs')=decide QwJ->LtI Uk2 b l
def Xq5{QNp}{QBl}(hx:UCB){QJk}{Qin}(h:P (.done (.ret QaB)) s):
  Vf QCw (Vbf.«tuple.__lt__» ⟨[.ref x,.ref y],[]⟩) P E s:=by
 exact Y9 hx λo1 a1 c1 n1 d1=>?_;exact Y9 hy λo2 a2 c2 n2 d2=>?_;show QXq (isInstance QO5 Qk4 >>= _) Qlr;calc Va (Vf2 (T:="tuple") ⟨o2,a2,c2⟩ isSubtype_tuple_tuple ?_);simp[Vc7,Vq,if_false];calc Va (wpAny_tupleItemsOf a1 d1 (Va (wpAny_tupleItemsOf a2 d2 QrY)));exact Vhq _ (λl r s'=>r.1=yy/\s'=s/\LtI Uk2 b l) _ ?_ ?_ _ _ ⟨rfl,rfl,us,vs,rfl,hl,rfl⟩
 ·rintro ⟨p,q⟩ l r s' ⟨hr,rfl,us',vs',hz,L,e2⟩;cases L with
  |ni=>cases hz|no=>cases hz|ne Qwq=>cases hz;calc Va (UTJ (Va (Vb0 (Va (h2.lt _ _ (Va (Vd QoY)))))))|eq h1 L=>cases hz;calc Va (UTJ (Vd ⟨rfl,rfl,_,_,rfl,L,?_⟩));rw[<-e2];exact decide_eq_decide.mpr Vjs.symm
 ·rintro ⟨r1,r2⟩ s' ⟨hr,rfl,us',vs',hz,L,e2⟩;simp at hr;subst hr;calc Vd ?_;show P (.done (.ret (.bool (decide (us.toArray.size<vs.toArray.size))))) s';rw[Vn,Vn,<-e2];cases L with
  |ni=>calc h|no=>calc h|ne=>cases hz|eq=>cases hz
def Xu8{QNp}{Qdl}{Qvj}(h:Q QaB s):
  Vf QCw QWI Qeq:=by
 let t1:UU6:=let ⟨o,a,c,_⟩:=hx;QBP
 let t2:s.TypeIs QO5 "tuple":=let ⟨o,a,c,_⟩:=L;QBP
 calc wpAny_richCompare_same_room (op:=.Lt) t1 t2 Vh3 (U22 (Xq5 hx L QUb ⟨_,rfl,QMT,h⟩) QNK) hu
def Xq6{Qdl}{QJn}(h:Q (.bool QJN) s):
  Vf QCw QWI Qeq:=Xu8 hu hx L (λ_ _=>Xko ix iy) h
def Xkp{b c:Bool}{Qfh}{QUk}(L:UCB){QJk}{Qvj}(h:Q b s):
  Vf QCw (oneLt' c Qq2 QO5) Qeq:=by
 let t1:UU6:=let ⟨o,a,c,_⟩:=L;QBP
 rw[oneLt'_eq];cases c with
 |false=>simp[Vq,if_false];calc Va (Xu8 hu L hy hl (Vcd h))|true=>simp[if_true];calc Va (wpAny_cRoomFor hu (Va (wpAny_callSpecialIfBound?_slot t1 Vh3 (U22 (Xq5 L hy QUb QL4) QNK))));calc Vcd h
inductive Its{QHi}:Bool->LV->LI->Prop
 |row {us:LV} {k:LI}:U0D k->Its h yw us k
 |pair {n:Int} {t:Tok} {a:Addr} {vs:LV} {r:LI}:Vbx h a vs.toArray->Vbv vs r->Its h yx [.int n t,QYr] (n::r)
def Xmf{QCi}{Qln}:ItemsAre QZ0 k us:=by
 induction h with
 |nil=>calc .nil|cons n t _ L=>calc .cons QcI L
def Xu9{Qii}{QJk}{QJn}:UTK Qq2 QO5 (decide Qie):=λ_ _ h=>by calc Y9 hx λo1 a1 c1 n1 d1=>?_;calc Y9 hy λo2 a2 L n2 d2=>?_;calc wpAny_eqBool_tuple (knd:=Vap Qfq) hu ⟨o1,_,n1,a1,c1,d1,Xmf Qfq ix⟩ ⟨o2,_,n2,a2,L,d2,Xmf Qfq iy⟩ h
def X6l{Q9k}{QUk}(ix:UOK us xs)(L:UOK vs ys):Lx Uk2 QJN:=by
 cases ix with
 |row ix=>cases L with|row L=>calc Xko ix L
 |@pair n t a zs r hx ix=>
  cases L with
  |@pair m t' b aa r' hy L=>
   rw[ltL];by_cases c:n=m
   ·rw[iP0 c];calc Q4w ?_;by_cases c2:r=r';·let e:=UE5;rw[decide_eq_true c2]at e;rw[c2,Xg9];exact .eq e .ni
    ·let e:=UE5;rw[decide_eq_false c2]at e;exact .ne e ⟨λ_ _ h=>Xq6 hu hx hy ix L h,λ_ _ _ h=>Xkp hu hx hy (λ_ _=>Xko ix L) h⟩
   rw[iN0 c];calc QYv
universe e
section
variable{QTp}
theorem Off{Quk}{Qdo}(b:Addr):Prop:=(∃w,H b=yz w)\/∃o,K.lookup b=Qkq/\o.cls=Qzq
def Xjb{QZh}(hv:QPt H Qnq Qp6):∃as,UID QVJ as/\∀b∈as,b=a:=by
 let⟨_,_,vs,r,ob,es,ep,ho,hx,hd,hh⟩:=hv;cases r;let L:es.toList=[]:=by
  let z:=hh.2.1;cases q:es.toList with
  |nil=>rfl|cons x r=>rw[q]at z;cases z
 calc⟨_,.dict (kvs:=[]) (as:=[]) (bs:=[]) ho hx.1 hd ?_ ?_,λb hb=>Q6Q.elim id QT1⟩;·rw[L];exact .nil
 ·rw[L];calc .nil
mutual
def Xq7{QQi}:
  ∀(d:D) (v:V) (u:Vb) (p:Vcb),Ym look d=UjF->US1->QNr->∃as,QBu/\∀b∈as,Uk5
 |.non=>λv u p h L rv=>by simp[Ym,Vt]at h;simp[RD]at L;subst h L;cases rv;exact⟨_,.none,λ_ z=>nomatch z⟩|.bl b=>λv u p h L rv=>by simp[Ym,Vt]at h;simp[RD]at L;subst h L;cases rv;exact⟨_,.bool b,λ_ z=>nomatch z⟩|.int i=>λv u p h L rv=>by simp[Ym,Vt]at h;simp[RD]at L;subst h L;exact UA0 λt aa=>?_;subst aa;exact⟨_,QFu t,λ_ z=>nomatch z⟩|.str i=>λv u p h L rv=>by simp[Ym,Vt]at h;simp[RD]at L;subst h L;exact UA0 λt aa=>?_;subst aa;exact⟨_,.str i t,λ_ z=>nomatch z⟩|.fro xs=>λv u p h L rv=>by
  simp[Ym]at h;cases e:Ux2 xs with
  |none=>rw[e]at h;cases h|some ps=>
   rw[e]at h;cases h;simp[RD]at L;exact Xc L λa vs aa hf hs=>?_;subst aa;cases rv;let⟨its,r,⟨o,n,ho,hc,_,hd⟩,hz⟩:=I.inv.list hf.sq;exact Xa QUC λas q qm=>?_;calc⟨_,.list UG6 QP,λb hb=>Q6Q.elim (λz=>z▸?_) QKg⟩;rcases hf with⟨_,hf⟩|⟨o',_,_,k1,k2,_⟩;·exact .inl QgR
   ·calc .inr ⟨o',k1,k2⟩
 |.edc=>λv u p h L rv=>by cases h;simp[RD]at L;exact Xf L λa o aa hf=>?_;subst aa;cases rv;exact Xa (Xjb (show Qdt QYX from QXs hf).2) λas q qm=>?_;exact⟨as,q,λb hb=>.inl (qm UQB▸QgR)⟩|.fn _ _=>λv u p h L rv=>by cases h|.tup xs=>λv u p h L rv=>by
  simp[Ym]at h;cases e:Ux2 xs with
  |none=>rw[e]at h;cases h|some ps=>rw[e]at h;cases h;simp[RD]at L;calc Xc L λa vs aa ht hs=>?_;subst aa;cases rv;let⟨its,r,⟨o,ho,hc,n,hd⟩,hz⟩:=I.inv.tuple ht;calc Xa QUC λas q qm=>?_;calc⟨_,.tuple UG6 QP,qm⟩
 |.ref n=>λv u p h L rv=>by simp[Ym]at h;simp[RD]at L;exact Xa L λa aa ha=>?_;subst aa;cases rv;exact hl n p a h ha
def reads_Fs{QQi}:
  ∀(ds:LD) (vs:LW) (us:LV) (ps:U34),Ux2 ds=yz ps->Uy3->QWs->∃as,ReadsAll s.heap us ps as/\∀b∈as,Uk5
 |[]=>λvs us ps h L rv=>by simp[datFs,Vt]at h;simp[RDs]at L;subst h L;cases rv;exact⟨_,.nil,λ_ z=>nomatch z⟩|d::ds=>λvs us ps h L rv=>by
  simp[datFs]at h;simp[RDs]at L;calc Xc L λv r ab h1 h2=>?_;subst ab;cases e1:Ym look d with
  |none=>rw[e1]at h;cases h|some p=>
   cases e2:Ux2 ds with
   |none=>rw[e1,e2]at h;cases h|some ac=>
    rw[e1,e2]at h;cases h;cases rv with
    |cons ru ae=>exact Xa (Xq7 I hl d v _ p e1 h1 ru) λas q qm=>?_;exact Xa (reads_Fs I hl ds r _ ac e2 h2 ae) λbs q2 aa=>?_;exact⟨_,.cons q q2,λb hb=>QEa.elim QKg Qib⟩
end
def Xq8{Qzg}:∀(k n:Nat) (p:Vcb) (a:Addr),Xbg S k n=UjF->ρ[n]?=QIx->∃as,UID p as/\∀b∈as,Uk5
 |0=>λn p a h ha=>by simp[Xbg]at h;cases h|k+1=>λn p a h ha=>by
  simp[Xbg]at h;cases e:S[n]? with
  |none=>rw[e]at h;cases h|some o=>
   rw[e]at h;let q:=I.sr.ob n a o ha e;cases o with
   |lst xs=>
    dsimp at h;cases e2:UVJ with
    |none=>rw[e2]at h;cases h|some ps=>rw[e2]at h;cases h;calc Xa q λvs L hr=>?_;calc Xbc QPQ λ_ its n' r ho=>?_;calc Xa (reads_Fs I (Xq8 I k) QQt its ps e2 hr r) λas z zm=>?_;calc⟨_,.list ho rfl rfl QAR,λb hb=>Q6Q.elim (λq=>.inl (q▸QHU)) (zm b)⟩
   |dct kvs=>
    rcases q with⟨rfl,L⟩|⟨h0,_⟩
    case inr=>
     cases kvs with
     |nil=>cases h0 rfl|cons _ _=>cases h
    cases h;calc Xa (Xjb QPQ) λas q qm=>?_;calc⟨as,q,λb hb=>.inl (qm UQB▸QHU)⟩|_=>cases h
def Xn2{Qrn}:∃as,QBu/\∀b∈as,Uk5:=
 Xq7 I (Xq8 I 4) d v u p h L rv
def Xbp{Qrn}:∃as,QBu:=
 let ⟨as,r,_⟩:=Xn2 I h L rv
 ⟨as,r⟩
def Xva {Qzg}(L:∃o,UCF=Qkq/\o.cls≠Qzq)(h:U2B d=UjF){Q6h}:∃as,QBu/\Vbn ∉ as:=by
 exact Xa (Xn2 I h Qby) λas r hm=>?_;calc⟨as,r,λhb=>?_⟩;exact Xa L λo ho hc=>?_;rcases hm _ hb with⟨w,hw⟩|⟨o',k1,k2⟩;·let:=(I.inv.bs _ _ (I.inv.mod.kin _ _ ho)).2;rw[hw]at this;cases this
 ·rw[ho]at k1;cases k1;calc hc k2
def Xy{Qqi}:QXt (UVH) Qec s':=.mk (v:=.bl r) UP6 rfl QD1 sr
def Yz{Qqi}:QXt (Un1) QYQ s':=.mk (v:=QFu) UwK
def Xjc{Qqi}:QXt (.ok QQK S) (UCE t) s':=.mk (v:=UCE) UwK
def Xx6(h:(a&&b&&c)=yx):a=yx/\b=yx/\c=true:=by rw[bA0,bA0]at h;calc QuM
def Xmg(h:UdC=US6):∃a b,x=.str a/\y=.str b/\r=QVG:=by
 cases x with
 |str a=>cases y with
  |str b=>calc⟨a,b,rfl,rfl,QnL.symm⟩|_=>cases h
 |_=>cases h
def Xvb(h:UH5=US6):∃xs ys,Uy4 x=QLu/\lsD S y=yz ys/\QR≠UX3/\r=false:=by
 unfold Xik at h;cases L:Uy4 x with
 |none=>rw[L]at h;cases h|some xs=>
  cases e2:Uy4 y with
  |none=>rw[L,e2]at h;cases h|some ys=>
   rw[L,e2]at h;dsimp at h;split at h;·cases h
   ·cases h;calc⟨xs,ys,rfl,rfl,by assumption,rfl⟩
def Xn3(h0:U8D=US6)(hn:UdC=yy):(∃p q,U2B x=UjF/\Y0 S y=yz q/\p.canLay0=yx/\q.canLay0=yx/\p.depth<=60/\r=Vdh p q)\/Xik S x y=US6:=by
 let h:=h0;unfold eqD at h;rw[hn]at h;dsimp at h;cases L:U2B x with
 |none=>rw[L]at h;exact Qzy|some p=>
  cases e2:U2B y with
  |none=>rw[L,e2]at h;exact Qzy|some q=>
   rw[L,e2]at h;dsimp at h;split at h;·rename_i hc;exact Xs QGV λh1 h2 h3=>?_;exact .inl ⟨p,q,rfl,rfl,h1,h2,oD0 h3,QnL.symm⟩
   ·calc Qzy
def S0.lstM{Qzg}(h:lstM S n=QLu):∃a vs,ρ[n]?=QIx/\H a=Uq4/\RDs QEs:=UhH
def S0.lstR{Qzg}(h:QAy=QLu){Qxo}:∃a vs,v=QYr/\ρ[n]?=QIx/\H a=Uq4/\RDs QEs:=by simp[RD]at r;calc Xa r λa e h1=>?_;calc Xc (I.lstM h) λa' vs h2 h3 L=>?_;rw[h1]at h2;cases h2;calc⟨a,vs,e,h1,h3,L⟩
def Xn4{Qzg}(h:UH5=US6)(rx:Q6s x v){Q2n}(ry:Q6s y v')(ru:RelV v' u'):
  r=yw/\∃a b its its',u=QYr/\u'=UH9/\s.heap.IsList a its/\s.heap.IsList b its'/\(its.size != its'.size)=true:=by
 exact Xx (Xvb h) λxs ys h1 h2 ac L=>?_;subst L;exact Xc QnV λa vs L aa ra=>?_;subst L;exact Xc QmV λb us L ab rb=>?_;subst L;cases rv;cases ru;exact Xe (I.inv.list aa) λi1 q1 p1 _=>?_;exact Xe (I.inv.list ab) λi2 q2 p2 _=>?_;calc⟨rfl,a,b,i1.toArray,i2.toArray,rfl,rfl,p1.isList,p2.isList,?_⟩;let e1:(lg i1)=QPs:=by rw[ra.length];exact q1.length.symm
 let e2:(lg i2)=UX3:=by rw[rb.length];exact q2.length.symm
 simp[Vn,bne_iff_ne,ne_eq];omega
def Ydz{Q9h}:Qns (Va5 .Eq) (X4 .eq):=by
 intro pc Q3s;calc UqC λr e e2=>?_;rw[e2];cases hn:UdC with
 |some r'=>
  exact Xc (Xmg hn) λa b L aa hr=>?_;subst L aa;let er:r=r':=by let e':U60 QOe QNe=US6:=e;unfold eqD at e';rw[hn]at e';exact Qtf.symm
  subst er hr;simp[RD]at rx ry;subst rx ry;exact UA0 λt L=>?_;subst L;exact UgC λt' L=>?_;subst L;exact PySem.P.eq_str Qh|none=>
 rcases Xn3 e hn with⟨p,q,h1,h2,h3,h4,h5,rfl⟩|hl
 rotate_left
 ·let⟨rfl,a,b,i1,i2,rfl,rfl,l1,l2,l3⟩:=Xn4 I hl Qlv;exact SeqAt.RcAt.lists_lengths l1 l2 l3 Qfy
 calc UhJ λas ra=>?_;calc UhC λbs rb=>?_;calc SeqAt.rcAt_reads UII
def Yd0{Q9h}:Qns (Va5 .NotEq) (X4 .ne):=by
 intro pc QIq x y Qjq L ru;calc UqC λr e e2=>?_;rw[e2];simp[Xbi,Up]at e;let⟨r',e,rfl⟩:=e;cases hn:UdC with
 |some r2=>
  let⟨a,b,rfl,rfl,hr⟩:=Xmg hn;let er:r'=r2:=by let e':U60 QOe QNe=yz r':=e;unfold eqD at e';rw[hn]at e';exact Qtf.symm
  subst er hr;simp[RD]at rx L;subst rx L;let⟨t,rfl⟩:=rv;let⟨t',rfl⟩:=ru;exact PySem.P.ne_str Qh|none=>
 rcases Xn3 e hn with⟨p,q,h1,h2,h3,h4,h5,rfl⟩|hl
 rotate_left
 ·let⟨rfl,a,b,i1,i2,rfl,rfl,l1,l2,l3⟩:=Xn4 I hl rx rv L ru;exact SeqAt.RcNeAt.lists_lengths l1 l2 l3 Qfy
 calc UhJ λas ra=>?_;calc Xd (Xbp I h2 L ru) λbs rb=>?_;calc SeqAt.rcNeAt_reads UII
def Xn5(h:U15=US6):∃p qs,U2B x=UjF/\(U2B y=yz QWa\/Y0 S y=yz Q5Z)/\p.canLay0=yx/\Vfm qs=yx/\p.depth<=60/\r=qs.any λq=>Vdh q p:=by
 unfold inD at h;cases e1:U2B x with
 |none=>rw[e1]at h;cases h|some p=>
  cases e2:U2B y with
  |none=>rw[e1,e2]at h;cases h|some q=>
   rw[e1,e2]at h;cases q with
   |list qs=>
    dsimp at h;split at h;·rename_i hc;exact Xs QGV λh1 h2 L=>?_;exact⟨p,qs,rfl,.inl rfl,h1,h2,oD0 L,QnL.symm⟩
    ·cases h|tuple qs=>
    dsimp at h;split at h;·rename_i hc;exact Xs QGV λh1 h2 L=>?_;exact⟨p,qs,rfl,.inr rfl,h1,h2,oD0 L,QnL.symm⟩
    ·cases h|none=>cases h|bool _=>cases h|int _=>cases h|str _=>cases h|dict _=>cases h
def Yd1{Q9h}:Qns (Va5 .In) (X4 .isin):=by
 intro pc Q3s;exact UqC λr e e2=>?_;rw[e2];let⟨p,qs,h1,h2,h3,h4,h5,rfl⟩:=Xn5 e;exact UhJ λas ra=>?_;exact Xj h2 QSZ λh2=>?_;·exact UhC λbs L=>?_;exact SeqAt.in_list_reads Qov
 ·calc UhC λbs L=>?_;calc SeqAt.in_tuple_reads Qov
def X2n{Q9h}:Qns (Va5 .NotIn) (X4 .notin):=by
 intro pc Q3s;exact UqC λr e e2=>?_;rw[e2];simp[Xbi,Up]at e;let⟨r',e,rfl⟩:=e;let⟨p,qs,h1,h2,h3,h4,h5,rfl⟩:=Xn5 e;exact UhJ λas ra=>?_;exact Xj h2 QSZ λh2=>?_;·exact UhC λbs L=>?_;exact SeqAt.notIn_list_reads Qov
 ·calc UhC λbs L=>?_;calc SeqAt.notIn_tuple_reads Qov
def Xbk{f:D->D->Sto->R D}{q:Vb->Vb->U93}(hf:∀x y S,f QUs≠.bad->∃i j,x=QFu/\y=QCt)
  (hi:∀ {pc QIq i j t t' E},Q2s->f Qcv≠.bad->Q4s (q QYQ (QCt t')) (QXt (f Qcv)) E s):Qns q f:=by
 intro pc Q3s;calc Xf (hf QUs nb) λi j L aa=>?_;subst L aa;simp[RD]at rx ry;subst rx ry;calc UA0 λt L=>?_;subst L;calc UgC λt' L=>?_;subst L;calc hi I nb
def Yd2:Qns (Va5 .LtE) (X4 .le):=Uu8 λI L=>le_int Qh
def Yd3:Qns (Va5 .GtE) (X4 .ge):=Uu8 λI L=>ge_int Qh
def Ys:∀ {xs:LD} {ns:LI},Us9=yz ns->xs=ns.map D.int
 |[],ns,h=>by simp[Xl,Vt]at h;subst h;rfl|.int i::r,ns,h=>by simp[Xl,Up]at h;calc UW4 λms h1 L=>?_;subst L;rw[Ys h1];rfl|.non::_,_,h=>by simp![Xl]at h|.bl _::_,_,h=>by simp![Xl]at h|.str _::_,_,h=>by simp![Xl]at h|.tup _::_,_,h=>by simp![Xl]at h|.ref _::_,_,h=>by simp![Xl]at h|.fro _::_,_,h=>by simp![Xl]at h
def Yd4{Q9h}:Qns (Va5 .Lt) (X4 .lt):=by
 intro pc Q3s;cases x with
 |int i=>cases y with
  |int j=>simp[RD]at rx ry;subst rx ry;calc UA0 λt L=>?_;subst L;calc UgC λt' L=>?_;subst L;calc lt_int Qh|_=>cases nb rfl
 |tup xs=>cases y with
  |tup ys=>
   simp[X4,Xbi,ltD]at nb |-;cases e1:Us9 with
   |none=>rw[e1]at nb;cases nb rfl|some a=>
    cases e2:Xl ys with
    |none=>rw[e1,e2]at nb;cases nb rfl|some b=>let q1:=Ys e1;let q2:=Ys e2;subst q1;subst q2;simp[RD]at rx ry;calc Xc rx λb1 ak L af ab=>?_;subst L;calc Xc ry λb2 ai L aa ae=>?_;subst L;let ag:=ab.ints_of;let ac:=ae.ints_of;subst ag;subst ac;cases rv;cases ru;calc Xe (I.inv.tuple af) λah u1 u2 _=>?_;calc Xe (I.inv.tuple aa) λaj u3 u4 _=>?_;calc Xq6 Q0 u2 u4 (Xbd u1) (Xbd u3) Qh
  |_=>cases nb rfl
 |_=>cases nb rfl
def Yd5{Q9h}:Qns (Va5 .Gt) (X4 .gt):=by
 intro pc Q3s;cases x with
 |int i=>cases y with
  |int j=>simp[RD]at rx ry;subst rx ry;calc UA0 λt L=>?_;subst L;calc UgC λt' L=>?_;subst L;calc gt_int Qh|_=>cases nb rfl
 |_=>cases nb rfl
def Yd6:Qns (Va5 .Is) (X4 .is):=by
 intro pc Q3s;cases y with
 |non=>
  simp[RD]at ry;subst ry;cases ru;cases x with
  |non=>simp[RD]at rx;subst rx;cases rv;calc Vde rfl Qh|bl b=>simp[RD]at rx;subst rx;cases rv;calc Vde rfl Qh|int b=>simp[RD]at rx;subst rx;calc UA0 λt L=>?_;subst L;calc Vde rfl Qh|str b=>simp[RD]at rx;subst rx;calc UA0 λt L=>?_;subst L;calc Vde rfl Qh|tup b=>simp[RD]at rx;calc Xf rx λa _ L _=>?_;subst L;cases rv;calc Vde rfl Qh|fro b=>simp[RD]at rx;calc Xf rx λa _ L _=>?_;subst L;cases rv;calc Vde rfl Qh|ref b=>simp[RD]at rx;calc Xa rx λa L _=>?_;subst L;cases rv;calc Vde rfl Qh|fn _ _=>simp[RD]at rx;calc Xa rx λa L _=>?_;subst L;cases rv;calc Vde rfl Qh|edc=>simp[RD]at rx;calc Xf rx λa _ L _=>?_;subst L;cases rv;calc Vde rfl Qh
 |_=>cases nb rfl
def Xha{QCp}:∀op:Co,Qns QjS QfY
 |.eq=>Ydz L|.ne=>Yd0 L|.lt=>Yd4 L|.le=>Yd2|.gt=>Yd5 L|.ge=>Yd3|.isin=>Yd1 L|.notin=>X2n L|.is=>Yd6
def Xx7{ws:LV}(ht:Qxt t #[])(hb:Qxt b ws.toArray)(h:Q QRe s):Qcq QFK Qeq:=by
 let⟨⟨cls,dd,ag,sl⟩,ho,hc,n,hd⟩:=id ht;let⟨⟨af,ae,data2,ac⟩,aa,ab,n2,L⟩:=id hb;simp at hc hd ab L;subst hc hd ab L;exact Q5r
   (tuple_addW0 t b #[] ws.toArray n n2 dd ae sl ac rfl) ⟨ho,aa,h⟩
def Xvc{x y:D}(hx:Ui3 QUs=match lsD S x,Uy4 y with
   |some x,UR6=>if QOL+lg y<=big then Qvq QlO else .bad
   |_,_=>.bad) (I:Q2s) (L:Ui3 QUs≠.bad) (rx:Q6s x v) (rv:RelV v v') (ry:Q6s y u) (ru:RelV u u'):
  Vf QTq (Vcu .Add v' u') (QXt (Ui3 QUs)) E s:=by
 rw[hx]at L |-;cases h1:Uy4 x with
 |none=>rw[h1]at L;cases L rfl|some xs=>
  cases h2:Uy4 y with
  |none=>rw[h1,h2]at L;cases L rfl|some ys=>
   rw[h1,h2]at L;dsimp at L |-;split at L
   ·rename_i hz;rw[iP0 hz];exact Xc QnV λa vs aa ha ra=>?_;subst aa;exact Xc QmV λb us aa hb rb=>?_;subst aa;cases rv;cases ru;exact Xe (I.inv.list ha) λi1 q1 p1 z1=>?_;exact Xe (I.inv.list hb) λi2 q2 p2 z2=>?_;let⟨⟨c1,d1,t1,l1⟩,o1,e1,n1,f1⟩:=p1.isList;let⟨⟨c2,d2,t2,l2⟩,o2,e2,n2,f2⟩:=p2.isList;simp at e1 f1 e2 f2;subst e1 f1 e2 f2;let hl:QJ2+U2G<=V6:=by rw[<-ra.length,<-rb.length];exact UkC
    let e:i1.toArray++i2.toArray=(i1++i2).toArray:=by simp!
    calc concat_meets ⟨_,o1,rfl⟩ ⟨_,o2,rfl⟩ noFill_list_add seq_list_add PySem.F.slot_list_add PySem.F.entry_list_add (PySem.F.args_list_add_2 _ _) (list_addW a b i1.toArray i2.toArray n1 n2 d1 d2 l1 l2 (by rw[Vn,Vn,<-q1.length,<-q2.length];calc hl)) ⟨o1,o2,?_⟩;rw[e];exact Xan (Qir QR6 Qa ⟨by rw[Vw];calc hl,_,0,UJJ,Um3 rfl⟩) Q7C I.sr (ra.append rb)
   cases L rfl
def Ybx:Qns (Vcu .Add) (Ui3):=by
 intro pc Q3s;cases x with
 |int i=>cases y with
  |int j=>simp[RD]at rx ry;subst rx ry;calc UA0 λt L=>?_;subst L;calc UgC λt' L=>?_;subst L;calc add_int Q13|_=>cases nb rfl
 |tup xs=>cases y with
  |tup ys=>
   simp[X1]at nb |-;split at nb
   ·rename_i hz;rw[iP0 hz];let ag:=rx;let af:=ry;simp[RD]at rx ry;exact Xc rx λa vs L s1 r1=>?_;subst L;exact Xc ry λb us L s2 r2=>?_;subst L;cases rv;cases ru;exact Xe QPR λi1 q1 p1 z1=>?_;exact Xe (I.inv.tuple s2) λi2 q2 p2 z2=>?_;let aa:=r1.length;let ab:=r2.length;let ae:=q1.length;let ac:=q2.length;by_cases hx:xs=[]
    ·subst hx;let:vs=[]:=by simpa [RDs] using r1
     subst this;cases q1;calc Xx7 p1 p2 ?_;exact .mk (v:=UH9) Qwx rfl af I.sr
    calc HT.cat_tup p1 p2 (λz=>hx ?_) Qh0 Qh0 ?_;·subst z;simp! at ae;rw[ae]at aa;simpa using aa
    ·let:ys=[]:=by subst z;simp! at ac;rw[ac]at ab;simpa using ab
     subst this;rw[Vcy];exact UIB rfl ag I.sr
    ·calc Xd3 (Qir (o:=.tup Q0d) QM4 Qa ?_) Q7C I.sr (r1.append r2);exact⟨by rw[Vw,<-aa,<-ab];calc UkC,_,UJJ,U64⟩
    rw[<-ae,<-ac,<-aa,<-ab];exact UkC
   cases nb rfl|_=>cases nb rfl
 |ref n=>calc Xvc rfl I nb Qlv|fro xs=>calc Xvc rfl I nb Qlv|_=>cases nb rfl
def Yby:Qns (Vcu .Sub) (X1 .sub):=Uu8 λI L=>sub_int Q13
def Xq9(h:i.natAbs.log2<100000):Vgd i<=2^20:=by
 unfold Vgd;split;·exact U2A
 ·omega
def Xn6(h:UG7=yx):UQK:=by
 simp[Xbh,Vch,bA0,decide_eq_true_eq]at h;exact Xj h Qv3 λh=>?_;·let:CMul i j:=h;exact this.ok
 ·calc IntMulOk.of_bits (Xq9 h.1) (Xq9 h.2)
def Ybz:Qns QpY (X1 .mul):=by
 intro pc Q3s;cases x with
 |int i=>cases y with
  |int j=>
   simp[RD]at rx ry;subst rx ry;exact UA0 λt L=>?_;subst L;exact UgC λt' L=>?_;subst L;simp[X1]at nb |-;split at nb;·rename_i hz;rw[iP0 hz];exact mul_int Q13 (Xn6 hz)
   ·cases nb rfl|_=>cases nb rfl
 |tup xs=>cases y with
  |int k=>
   simp[X1]at nb |-;split at nb
   ·rename_i hz;rw[iP0 hz];let ae:=rx;simp[RD]at rx ry;subst ry;exact Xc rx λa vs L s1 r1=>?_;subst L;cases rv;exact UgC λt' L=>?_;subst L;exact Xe QPR λi1 q1 p1 z1=>?_;let aa:=r1.length;let ab:=q1.length;let ac:i1≠[]:=λz=>by
     subst z;let:xs=[]:=Vfl (by rw[aa,ab];rfl);subst this;exact aB0 hz.2.2.2 Q9
    exact X2m p1 ac hz.2.2.1 hz.1 (by rw[<-ab,<-aa];calc hz.2.1) Qx7 Qx7
    ·subst e;let e1:(Vm (1:Int).toNat xs).flatten=xs:=by simp!
     rw[e1];exact UIB rfl ae I.sr
    let hr:∀m:Nat,QDs (Vm m xs).flatten (Vm m vs).flatten:=λm=>by
     induction m with
     |zero=>simpa using RDs.nil|succ m ih=>rw[Vae,Vae,Vby,Vby];exact r1.append ih
    calc Xd3 (Qir (o:=.tup Q88.flatten) QM4 Qa ?_) Q7C I.sr (hr _);exact⟨by rw[Xkf,<-aa,Nat.mul_comm];calc Xb8 hz.2.1,_,q1.rep _,U64⟩
   cases nb rfl|_=>cases nb rfl
 |ref n=>cases y with
  |int k=>
   simp[X1]at nb |-;cases h1:QAy with
   |none=>rw[h1]at nb;cases nb rfl|some xs=>
    rw[h1]at nb;dsimp at nb |-;split at nb
    ·rename_i hz;rw[iP0 hz];exact Xx (I.lstR h1 rx) λa vs L ha af ra=>?_;subst L;simp[RD]at ry;subst ry;let hr:QDs QWS.flatten Q88.flatten:=by
      induction k.toNat with
      |zero=>simpa using RDs.nil|succ m ih=>rw[Vae,Vae,Vby,Vby];exact ra.append ih
     exact opd (Q':=λz H'=>∃p,H p=yy/\z=Qyy/\H'=UhD (.lst Q88.flatten)) X58 U92 ru
      ⟨a,k,vs,rfl,rfl,af,by omega,by omega,by rw[<-ra.length];calc Xb8 hz.2.1,λp hp=>⟨p,hp,rfl,rfl⟩⟩
      λw s' z H' J rz ⟨p,hp,z1,z2⟩=>by subst z1 z2;cases rz;exact Xan UM8
    cases nb rfl
  |_=>cases nb rfl
 |_=>cases nb rfl
def X6m:Qns (Vcu .FloorDiv) (X1 .fdiv):=Uu8 λI L=>by
 simp[X1]at L |-;split at L;·rename_i j hz;rw[iP0 hz];simp[Xg4,bA0,decide_eq_true_eq]at hz;exact floordiv_int Q0 (by rw[Int.fdiv_eq_ediv_of_nonneg _ Q0];calc UDK) (.inl (PyProof.noPylong_of_log2 hz.2))
 ·cases L rfl
def Yb0:Qns (Vcu .Mod) (X1 .mod):=Uu8 λI L=>by
 simp[X1]at L |-;split at L;·rename_i hz;rw[iP0 hz];exact mod_int' Q0 (by rw[Int.fmod_eq_emod_of_nonneg _ Q0];calc UDK)
 ·cases L rfl
def Yb1:Qns (Vcu .Pow) (X1 .pow):=Uu8 λI L=>by
 simp[X1]at L |-;split at L;·rename_i hz;rw[iP0 hz];exact pow_int_small hz.1 Qtq Q13
 ·cases L rfl
def Xs5{op:Bo}(h:op=.shl\/op=.shr\/op=.band){QZj}(L:X1 QUw≠.bad):∃i j,x=QFu/\y=QCt:=by rcases h with rfl|rfl|rfl<;>(cases x<;>first|calc aB0 rfl L|(cases y<;>first|calc⟨_,_,rfl,rfl⟩|calc aB0 rfl L))
def Yb2:Qns (Vcu .LShift) (X1 .shl):=Xbk (Xs5 Q10) λ{_ s Uu1 i j QLq} I nb=>by
 simp[X1]at nb |-;split at nb
 ·rename_i hz;rw[iP0 hz];calc lshift_int hz.1 ?_ Q13;let:Vgd i<=2^20:=by
   unfold Vgd;split;·exact U2A
   ·rename_i L;let h1:i.natAbs≠0:=λz=>L QAR;let:=(Nat.log2_lt h1).mpr hz.2.2;omega
  omega
 cases nb rfl
def Yb3:Qns (Vcu .RShift) (X1 .shr):=Xbk (Xs5 Qba) λI L=>by
 simp[X1]at L |-;split at L;·rename_i hz;rw[iP0 hz];exact rshift_int hz Q13
 ·cases L rfl
def X6n:Qns (Vcu .BitAnd) (X1 .band):=Xbk (Xs5 Qca) λI L=>and_int Q13
def Yb4:∀op:Bo,Qns Q5c Qjf
 |.add=>Ybx|.sub=>Yby|.mul=>Ybz|.fdiv=>X6m|.mod=>Yb0|.pow=>Yb1|.shl=>Yb2|.shr=>Yb3|.band=>X6n
universe e
def X6o{QEj}{Q3p}:Z.ixN n i=L2.ixN n i:=rfl
section
variable{QPp}{a b c e:Expr}{Qqn}{Q4l}
def Xvd(r:QDs QQt)(h:Qg6=Um2):∃v,atI vs k=UA2/\RD UG8:=by
 cases e:Ul8 k with
 |none=>rw[e]at h;cases h|some j=>rw[e]at h;calc Xa (r.get (i:=j) (d:=d) h) λv h1 h2=>?_;calc QhX;show((L2.ixN QJ2 k).bind λj=>vs[j]?)=UA2;rw[<-r.length];rw[X6o]at e;rw[e];calc h1
def Yb5(hs:Xke b):Qns (Vf7 a b) Xdq:=by
 intro pc Q3s;unfold Xdq at nb |-;cases e:Xby QUs with
 |none=>rw[e]at nb;cases nb rfl|some d=>
  cases y with
  |int k=>
   simp[RD]at ry;subst ry;let aa:∀ {r:R2} (hr:IxR Q94 r) (z:V),r v QcG H (λz' H'=>z'=z/\H'=H)->Q6s d z->UnD:=λ{r} hr z Qwq=>thn (hr a b Qiq v QcG v' u' _ QA9 rv ru h1 (hs _ _)) λw s' ⟨z',H',J,rz,L,e2⟩=>by subst L e2;exact .mk .refl J.unwish rz h2 I.sr
   let seq:∀xs,UUC=QLu->Qg6=Um2->UnD:=λxs h1 h2=>by
    exact Xc (I.seq h1 rx) λp vs ab hq hr=>?_;subst ab;exact Xa (Xvd hr h2) λz hz rz=>?_;exact UYC λhq=>?_;·exact aa X2f z QtC rz
    ·exact aa X56 z QtC rz
   cases x with
   |str _=>simp![Xby,Xo]at e|tup xs=>exact seq xs rfl QbI|fro xs=>exact seq xs rfl QbI|ref n=>
    simp[Xby,Xo]at e;cases L:Qys with
    |none=>rw[L]at e;cases e|some xs=>rw[L]at e;calc seq xs L e
   |non=>simp![Xby,Xo]at e|bl _=>simp![Xby,Xo]at e|int _=>simp![Xby,Xo]at e|fn _ _=>simp![Xby,Xo]at e|edc=>simp![Xby,Xo]at e
  |_=>simp![Xby]at e
def Yb6(hs:Xke b){QKh}(L:Qjv b fb):Qjv (U00 b pos) (λenv S=>Qo.bind λx S=>Q74.bind λy S=>Xdq QUs):=
 λpc s σ H ρ S env I nb=>Subscript_ (two (Yb5 hs) ha L I nb rfl)
abbrev spD{Quk}(L:Bool){QEj}(F:LD->Sto->R D):Sp:=λvs H Q E=>∃ds ρ S,Q8y=n/\RDs Qat Qkr/\SR K L ρ S H/\F ds S≠.bad /\
 (∀d S' v H' ρ',U5E=Uc5->Qry->UAB->Ud5->Q v H') /\
 ∀n c S' a H' ρ',U5E=Qdu->ρ'[n]?=QIx->S'[n]?=Qru->UAB->Ud5->E Qe yy H'
abbrev CXd{QEq}:CXT:=λouter H s E e s'=>∃H',s'.os=s.os/\AllBare s'.gens/\Un UgI/\HOk P w Un4/\(∃a,e=QYr/\Trc .none (λT=>UQ3=yy) Qds)/\E e yy H'
structure RoomC{Qrl}{Qmj}(A:Uq):Prop where
 gd:A.guards=Up4
 hd:cm=yx->A.handled=yy
 dp:A.depth+3*k+5<Vim
 un:A.units+16*k+200<Val
def RoomC.of(r:Room k A):QGw A:=⟨r.gd,λ_=>r.hd,r.dp,r.un⟩
def RoomC.less(r:QGw A)(h:cm2=yx->cm=yx):RoomC cm2 k A:=⟨r.gd,λz=>r.hd (h z),r.dp,r.un⟩
def RoomC.deeper(r:RoomC cm QB3 A){Qql}:QGw (A.deeper env):=
 ⟨r.gd,r.hd,by let:=r.dp;show A.depth+1+3*k+5<_;omega,by let:=r.un;show A.units+3+16*k+200<_;omega⟩
def RoomC.mark(r:QGw A):RoomC yw k (A.mark h):=⟨r.gd,QT1,r.dp,r.un⟩
structure FnD{Qrl}{QVh}{QGn}(F:LD->Sto->R D):Prop where
 run:∀(A:Uq) (outer:U49) (s:Vc) (H:Hp) (args:Args) (us:LV) (vs:LW) (Q:VK) (E:XK),QGw A->UU2->U7K->QWs->UrB QW5 F vs H Q E ->
  Vc1 QHA A QbR (CR QbH Uc2 E) s
def Yb7{QUi}
  (I:Q2s) (rv:QWs) (rd:Uy3) (hl:QV3=Qow) (nb:U5E≠.bad):
  Vf QTq (call Q86 us) (QXt QpV) (QZt QpV) s:=by
 let aa:QJ2=Qow:=by rw[<-rd.length];exact hl
 let ab:Qcu QbA QS6:=by let:=hb s us I.inv.kIn (by rw[Vcy,<-rv.length];calc aa);rwa [Vcy]at this
 let ae:spD X.K Q11 QW5 F vs H (λv H'=>∃d S' ρ',U5E=Uc5/\RD UN6/\SR Qmq/\Stp QSq)
   (λe _ H'=>∃n c S' a ρ',U5E=Qdu/\e=QYr/\ρ'[n]?=QIx/\S'[n]?=Qru/\SR Qmq/\Stp QSq):=
  ⟨ds,ρ,S,aa,rd,I.sr,nb,λd S' v H' ρ' h1 h2 L h4=>⟨d,S',ρ',h1,h2,L,h4⟩,λn c S' a H' ρ' h1 h2 L h4 h5=>⟨n,c,S',a,ρ',h1,rfl,h2,L,h4,h5⟩⟩
 calc wpAny_call (Ver (G.run X.A Qux QbA us vs _ _ hr I.inv.env0 ab rv ae) λr s' hq=>?_);cases r with
 |error e=>
  let⟨H',os,bare,un,hok,⟨a',h0,tr⟩,n,c,S',a,ρ',h1,h2,L,h4,h5,h6⟩:=hq;calc⟨n,S',h1,H',ρ',a,c,I.inv.call' os UGI,h2,L,h4,h5,h6,.inr ⟨_,.inl rfl,?_⟩⟩;rw[h2]at h0;cases h0;exact tr.imp λT hT=>QwM
  ·by_cases hx:T∈X.ex;·exact .inl hx
   ·cases q:QYu with
    |none=>exact .inr rfl|some o=>exact Xd (I.inv.base.there T o q hx) λo' e=>?_;rw[hT]at e;cases e
  let:=QQR.1;rw[z,hT]at this;cases this|ok fl=>
  cases fl with
  |ret u=>let⟨v,H',J,ac,d,S',ρ',h1,h2,L,h4⟩:=URF;calc⟨d,S',h1,v,H',ρ',J,ac,h2,L,h4⟩|next=>calc Ux8|brk=>calc Ux8|cont=>calc Ux8
def X6p{QUi}
  (hg:UC9) (hm:Uv8=UiB) (hk:Vdw X.K Q86=yx) (ha:DA X QX5 ga) (hl:∀env S ds S',ga QKq=Qmx->U4G=Qow)
  (ac:Qk=yw) (he:Quv=Qz9::Qxw) (aa:QHw=yw):
  DE X Q67 (λenv S=>QqZ.bind λxs S=>F xs S):=by
 intro pc Qks;dsimp at L |-;calc Vbj (Xe3 Qmv ?_ ac);cases q:ga QKq with
 |bad=>rw[q]at L;cases L rfl|ex QVw=>calc Qpt QJ5 he aa|ok UB8=>rw[q]at L;simp[Rk0]at L |-;calc Qpt (QOx λus s1 vs H1 ae I1 rv rd ab=>⟨I1.inv.kIn,?_⟩) he aa;calc Vp (Yb7 G hr hb I1 rv rd (hl QKq UB8 q) L) (λu s2 z=>z.pre ab) λx s2 z=>z.pre ab
theorem FlP{QKo}(S':Sto){Qmm}:Fl->Flow->Prop
 |.nx e,fl=>fl=.next/\∃ L H' ρ',QJy/\Stp QSq/\QkU|.brk e,fl=>fl=.brk/\∃ L H' ρ',QJy/\Stp QSq|.cnt e,fl=>fl=.cont/\∃ L H' ρ',QJy/\Stp QSq|.rt d,fl=>∃u v L H' ρ',fl=.ret u/\Inv QZw L H' s'/\RelV v u/\RD UN6/\SR Qmq/\Stp QSq
theorem OkS{QKo}(r:UQ2)(fl:Flow){Qmm}:Prop:=∃x S',r=.ok x S'/\FlP Qur na Uk4
theorem ExS{QKo}(r:UQ2){QTo}:Prop:=∃n S' L,r=Qdu/\QkU/\XPd QZw L QVq n S' e s'
theorem DS{QMl}{Qvo}{Qfn}:Prop:=
 ∀(pc:LA) (s:Vc) (σ:L2.St) (H:Hp) (ρ:LR) (S:Sto) (env:En),Q2s->Q8u≠.bad ->
  Vf QTq (exec st X.env) QMJ QQJ s
theorem DSs{QMl}(st:LM){Qfn}:Prop:=
 ∀(pc:LA) (s:Vc) (σ:L2.St) (H:Hp) (ρ:LR) (S:Sto) (env:En),Q2s->Q8u≠.bad ->
  Vf QTq Q8R QMJ QQJ s
def FlP.pre{x:Fl}{fl:Flow}{s':Vc}{ab:L2.St}{Qei}{Qgo}{QNh}(hn:na'=yx->na=yx/\ab=σ)(h:FlP QZw ab Q4r na Uk4):FlP Qur na' Uk4:=by
 cases x with
 |nx e=>calc Xa6 h λh1 L H2 aa h2 h3 h4=>?_;calc⟨h1,L,H2,aa,h2,st.trans h3,λz=>(h4 QtW.1).trans QtW.2⟩|brk e=>calc Xax h λh1 L H2 aa h2 h3=>?_;calc QhF|cnt e=>calc Xax h λh1 L H2 aa h2 h3=>?_;calc QhF|rt d=>calc X8 h λu v L H2 aa h1 h2 h3 h4 h5 h6=>?_;calc⟨u,v,L,H2,aa,h1,h2,h3,h4,h5,st.trans h6⟩
def OkS.pre{r:UQ2}{fl:Flow}{s':Vc}{L:L2.St}{Qei}{Qgo}{Qxm}(h:OkS U0L fl s'):OkS Qur na' r fl s':=by calc Xf h λx S1 e h=>?_;calc⟨x,S1,e,Ud8 hn⟩
def ExS.of{QCj}(e:r=Qdu):Uu7 na r Uk6:=⟨n,S',σ,e,λ_=>rfl,Ud8⟩
def ExS.pre{Qgo}{L:L2.St}{r:UQ2}{x:Vb}{s':Vc}{Qei}{Qxm}(h:ExS U0L Uk6):Uu7 na' r Uk6:=by calc Y6 h λn S1 aa e h1 h2=>?_;calc⟨n,S1,aa,e,λz=>(h1 QtW.1).trans QtW.2,h2.pre st⟩
variable{Q3l}{rest sa sb:LM}{g g2:En->Sto->R Fl}{na na2:Bool}
def DS.weak(h:UoD g)(L:na2=yx->na=yx):Q3x na2 g:=λpc s σ H ρ S env I nb=>Vp Ql2 (λ_ _ z=>Up6 λq=>QoX) λ_ _ z=>Up6 λq=>QoX
def dss_nil:UV2 [] yx QNM:=λpc s σ H ρ S env I _=>Vh4 QF9
def Xx8(h1:UoD g)(h2:UV2 rest na2 g2):UV2 (st::rest) QDb (λenv S=>match g QKq with | .ok Qnu=>g2 e S'|r=>r):=by
 intro pc Qyr;dsimp at nb |-;calc wpAny_execs_cons ?_;cases q:Qpw with
 |bad=>rw[q]at nb;cases nb rfl|ex QVw=>
  exact Vp QSG Q0B λx s1 z=>?_;·exact UY6 λx S2 e _=>?_;rw[q]at e;cases e
  ·rw[q]at z;exact Up6 λw=>⟨by rw[bA0]at w;calc w.1,rfl⟩|ok UaA=>
  rw[q]at nb;exact Vp QSG Q0B λx s1 z=>?_
  ·calc UY6 λy S2 e z=>?_;rw[q]at e;cases e;cases x with
   |nx e=>exact Xa6 z λaa L H1 ab I1 ac ae=>?_;subst aa;exact Vp (h2 pc s1 L H1 ab S1 e I1 nb) (λfl s2 z=>UP8 λw=>by rw[bA0]at w;calc QGT) λx s2 z=>UP8 λw=>by rw[bA0]at w;exact QGT|brk e=>exact Xax z λaa L H1 ab I1 ac=>?_;subst aa;exact⟨.brk e,S1,rfl,rfl,L,H1,ab,I1,ac⟩|cnt e=>exact Xax z λaa L H1 ab I1 ac=>?_;subst aa;exact⟨.cnt e,S1,rfl,rfl,L,H1,ab,I1,ac⟩|rt d=>exact Yr z λu v L H1 ab aa r=>?_;subst aa;exact⟨.rt d,S1,rfl,u,v,L,H1,ab,rfl,r⟩
  calc Yd z λk S2 af e _=>?_;rw[q]at e;cases e
def ds_pass:UoH (.Pass pos) yx QNM:=λpc s σ H ρ S env I _=>wpAny_Pass QF9
def ds_brk:UoH (.Break pos) yw (λenv S=>.ok Qoa S):=λpc s σ H ρ S env I _=>wpAny_Break ⟨.brk env,S,rfl,rfl,σ,H,ρ,I,.refl⟩
def ds_cnt:UoH (.Continue pos) yw (λenv S=>.ok Qna S):=λpc s σ H ρ S env I _=>wpAny_Continue ⟨.cnt env,S,rfl,rfl,σ,H,ρ,I,.refl⟩
def X2o{QEk}(hs:Vgr e yy QUt=Q6y):UoH (.Expr UQI) yx (λenv S=>Qv.bind λ_ S=>QLr):=by
 intro pc Qks;dsimp at L |-;cases q:Q8u with
 |bad=>rw[q]at L;cases L rfl|ex QVw=>calc wpAny_Expr_any QP2 U1L|ok UgE=>calc wpAny_Expr_any (U35 λu s' v H' ρ' J rv rd st=>⟨UTE,S1,rfl,rfl,σ,H',ρ',J,st,λ_=>rfl⟩) U1L
def Xve{QEk}:UoH (.Return QdW pos) yx (λenv S=>Qv.bind λx S=>UQE):=by
 intro pc Qks;dsimp at L |-;cases q:Q8u with
 |bad=>rw[q]at L;cases L rfl|ex QVw=>calc wpAny_Return_some QP2|ok UgE=>calc wpAny_Return_some (U35 λu s' v H' ρ' J rv rd st=>⟨.rt d,S1,rfl,u,v,σ,H',ρ',rfl,J.inv,rv,rd,J.sr,st⟩)
def Yb8{Qok}(ha:UV2 sa na g)(hb:UV2 sb na2 g2):
  DS X (.If c sa sb pos) QDb (λenv S=>QhE.bind λx S=>match X6 S x with|some yx=>Qpw|some yw=>g2 QKq|none=>.bad):=by
 intro pc Qks;dsimp at L |-;cases q:UHC with
 |bad=>rw[q]at L;cases L rfl|ex QVw=>exact wpAny_If (hc.ex I (by simp[q];rfl) λx s' z=>QEu rfl)|ok UaA=>
  rw[q]at L;simp[Rk0]at L |-;cases t:Qtv with
  |none=>rw[t]at L;cases L rfl|some r=>
   rw[t]at L;calc wpAny_If Qo5;cases r with
   |true=>calc Vp QX6 (λw s3 z=>QHt λw=>by rw[bA0]at w;calc QgX) λx s' z=>QHt λw=>by rw[bA0]at w;calc QgX|false=>calc Vp QW6 (λw s3 z=>QHt λw=>by rw[bA0]at w;calc QfX) λx s' z=>QHt λw=>by rw[bA0]at w;calc QfX
def X6q{Qpi}{QEk}(hs:Vgr e (yz (Us1 pos')) QUt=Q6y):
  DS X (.Assign [.Name x pos'] UQI) yw (λenv S=>Qv.bind λx S=>match X3 QA0 x env with|some env=>QLr|none=>.bad):=by
 intro pc Qks;dsimp at L |-;cases q:Q8u with
 |bad=>rw[q]at L;cases L rfl|ex QVw=>calc wpAny_Assign_Name QP2 hs|ok UgE=>calc wpAny_Assign_Name QQA hs;calc Xc2 J.inv hN hi hx rv (λs2 I2=>⟨.nx QBH,S1,rfl,rfl,_,H',ρ',⟨I2,J.sr,J.er.set i rd⟩,st,λz=>nomatch z⟩) hf
def Xdl{b:Addr}{u:HO}(x:QPt H h b u):∃o,Qdr=Qkq:=by
 cases u with
 |lst xs=>calc Xbc x λ_ _ _ _ e=>?_;calc QC4|tup xs=>let⟨_,_,_,o,e,_⟩:=x;calc QC4|dK kvs=>let⟨_,_,_,_,o,_,_,e,_⟩:=x;calc QC4|dT kvs=>let⟨_,_,_,_,o,_,_,e,_⟩:=x;calc QC4|set S n=>calc Xdn x λo _ _ _ e _=>?_;calc QC4|ins UrA=>let⟨_,_,_,e,_⟩:=x;calc QC4|own y=>calc x|xd fs=>let⟨_,⟨_,_,_,e,_⟩,_⟩:=x;calc QC4|rng Qku=>calc Xuy x λ_ _ _ e=>?_;calc QC4|frz ob u=>calc Xi x λe _=>?_;calc QC4|tbl ps=>calc Xa x λ_ e _=>?_;calc QC4|met f y=>calc⟨_,(show Qdr=yz _ from x)⟩|ext L=>calc x.2.1
def Xey{h g g':Heap}:∀ {l:U49},h.FunFrames g l->(∀b∈frs l,g'.get? b=yy)->h.FunFrames g' l
 |[],_,_=>trivial|env::r,⟨hk,⟨L,o,hf,_,ho,hd⟩,hr⟩,k=>by
  let e:frs (env::r)=L::frs r:=by unfold frs;rw[U9,hf]
  rw[e]at k;calc⟨hk,⟨L,o,hf,k L QhH,ho,hd⟩,Xey hr λb hb=>k b (Uf1 hb)⟩
structure Hid{QMl}{QCn}(l:LR):Prop where
 er:a∈l
 fr:∀b∈frs X.stack,b∈l
 of:∀b∈l,b=a\/b∈frs X.stack\/(UB9=yy/\∃o vs,Qdr=Qkq/\o.data=Qvs)
def Xra{Q8k}{a C:Addr}{l:LR}(I:QYt)(ha:H' a=Un2)(hl:Ub1 l)
  (keep:∀b o,QJt=Qkq->b ∉ l->Qqq=Qkq) (he:Ut7):UXD:=by
 let out:∀b u,b≠a->UB9=QIt->b ∉ l:=λb u hb q hm=>by
  rcases hl.of b hm with z|z|⟨z,_⟩;·exact hb z
  ·rw[I.stkFree b z]at q;cases q
  rw[z]at q;cases q
 intro b u q;by_cases hb:b=a;·subst hb;rw[ha]at q;cases q;exact he.ok
 ·exact QLK.stay (λc v L e=>?_) QUZ λ_ _ _ z=>z;rcases L with rfl|L;·exact U5G e (out c u hb q)
  ·calc U5G e (out c _ (λz=>by rw[z,ha]at L;cases L) L)
def Inv.fly{QRn}{Q0h}(ha:H a=Un2)(hl:Hid X H a ULB)
  (L:∀b∈l,b≠a->b ∉ frs X.stack->UWC b) (k1:(Vcx ULB).StaysIn h') (k4:s.heap.UpToSlots h') (he:Ut7):
  Inv QJq H QU:=by
 let keep:∀b o,QWq=Qkq->b ∉ l->Qqq=Qkq:=λb o e hb=>k1 b o QDX;let af:∀b∈frs X.stack,∃o,QWq=Qkq/\∀vs,o.data≠Qvs:=λb hb=>(I.stack.mem hb).2;let ac:∀b o,QTr=Qkq->b≠X.env.locals:=λb o e=>UxJ;let aa:∀x c,QYq=QFv->∀v,Qsu->Ua3:=λx c e v QjX=>by exact Xd (k4 c o ho λvs z=>by rw[hd]at z;cases z) λsl q=>?_;exact QKZ
 exact⟨I.ok,I.os,I.bare,⟨λb o e n hb hx=>?_,λb o e n hb hx=>?_,λb o e n hx=>Q7v hx,λb o e hx=>?_,I.base.tups,I.base.frzs,I.base.tbls⟩,?_,λx c e=>?_,I.free,I.freeC,λp hp=>?_,U3B he,I.len⟩
 ·exact U6G QF8 λhm=>?_;let fb:=Q7v hx;by_cases h1:b=a;·rw[h1,ha]at fb;cases fb
  ·by_cases h2:b∈frs X.stack
   ·exact Xj (Vv.mp (UI3 h2)) Qh0 λz=>?_;·exact ac Qps z
    ·exact hb z
   exact Xj Q9P Qh0 λz=>?_;·exact hx z
   ·rw[z]at e;cases e
 ·exact Xd (Qqr hx) λsl e1=>?_;exact Xbx (I.funs.mem hb) λ_ o' e' nd=>?_;rw[e1]at e';cases e';exact Xd QTT λab e2=>?_;exact⟨ab,e2⟩
 ·exact Xd (QHs hx) λo' e1=>?_;by_cases hm:b∈l
  ·by_cases h1:b=a;·subst h1;exact Yd he λoe _ _ q _=>?_;exact QFU
   ·by_cases h2:b∈frs X.stack;·exact Xa (af b h2) λo2 e2 nd=>?_;rw[e1]at e2;cases e2;exact Xd QTT λsl e3=>?_;exact⟨_,e3⟩
    ·exact Xj Q9P Qh0 λz=>?_;·exact UL2 hx
     ·rw[z]at e;cases e
  exact Q1L
 ·exact UlG λm hn ae=>?_;calc⟨m,k4.ns hn,λi x v e1 e2 e3=>?_⟩;exact Xa (ae i x v e1 e2 e3) λu r lk=>?_;calc QIZ;rcases lk with lk|⟨kd,c,e,z⟩;·exact .inl lk
  ·exact .inr ⟨kd,c,e,aa x c e _ z⟩
 ·exact Xd QuI λv z=>?_;exact⟨v,aa UFI⟩
 ·let⟨e,n,ne,nf,d⟩:=QWy;calc⟨keep Qsx e λhm=>?_,n,ne,nf,d⟩;by_cases h1:p.1=a;·rw[h1,ha]at n;cases n
  ·by_cases h2:p.1∈frs X.stack
   ·exact Xj (Vv.mp (I.stkSub p.1 h2)) Qh0 λz=>?_;·exact ne z
    ·exact nf z
   calc(L p.1 hm Qwq).2 p hp rfl
def Xip{QQm}{Q0i}{Qbh}
  (ha:H' a=Un2) (fl:Fly QZw Qds)
  (hQ:∀l h2 a0,Ub1 l->Q19->Heap.HeldW QeS UhA->s'.heap.UpToSlots h2->Q () {s' with heap:=h2}):
  Vf QTq (noteFrame Qe X.env) Q E s':=by
 let hA:X.A.frames=yz Qy3:=by rw[<-hs];exact I.ok.frames
 let hI:=I.stack;let⟨⟨oa,va,a0,ea,ca,da,v0,vz⟩,_,_⟩:=(show Qxr Un4 a QV1 from Qjx ha);rcases fl with⟨oe,vs,e1,e2,e3⟩|⟨fl,hfl,oe,vs,T,oT,ts,e1,e2,e3,e4,e6,e7,e8,e9,e10⟩
 ·let hid:Ub1 QER:=⟨.head _,λb L=>Uf1 L,λb L=>by
   exact U13 λz=>?_;·exact .inl z
   ·calc UyH⟩
  rw[ea]at e1;cases e1;rw[da]at e2;cases e2;unfold noteFrame;simp[hf];calc Va (Vax ea da e3 ?_);rw[iN0 Q2];exact wpAny_entryW (base:=Vcx s'.heap QER) hA (by rw[<-hs];calc Xey hI λb L=>Vb7 _ QyN) hf ea (λb o e=>Vgl _ e) (Vb7 _ QhH) da vz v0 λh2 ⟨k1,k2,k3,k4⟩=>?_
  rw[ca]at k3;exact Ut2 h2 a0 hid (λb L h1 h2=>by
   exact U13 λz=>?_;·exact UL2 h1
   ·calc UL2 h2) ⟨k1,Vb7 _ QhH,k2,k3⟩ k4
 ·let hid:Ub1 QaC:=⟨.head _,λb L=>Uf1 QyN,λb L=>by
   exact U13 λz=>?_;·exact .inl z
   ·exact Xj Qzb Qh0 λz=>?_;·subst z;exact .inr (.inr ⟨e7,oT,ts,e8,e9⟩)
    ·calc UyH⟩
  let aa:∀b∈a::T::frs X.stack,b≠a->b ∉ frs X.stack->UWC b:=λb L h1 h2=>by
   exact U13 λz=>?_;·exact UL2 h1
   ·exact Xj Qzb Qh0 λz=>?_;·subst z;exact e4
    ·exact UL2 h2
  rw[ea]at e1;cases e1;rw[da]at e2;cases e2;let fr:s'.heap.FunFrames QAQ Qy3:=by rw[<-hs];exact Xey hI λb L=>Vb7 _ (Uf1 QyN)
  let tr:s'.heap.TracedAtW QAQ a Qn1 a0 fl:=⟨oa,va,T,oT,ts,ea,⟨ca,v0⟩,da,e3,Vb7 _ (Uf1 QhH),e6,e8,e9,e10⟩;rcases hfl with rfl|rfl;·exact wpAny_looks_onW hA hf QPA λh2 ab ac=>Ut2 h2 UD8 ab ac
  ·calc wpAny_noteFrame_againW hf tr (Ut2 s'.heap UD8 QPA Q3M)
def X2p{QQm}{Q0i}{Qbh}(hx:X.ex=[])
  (ha:H' a=Un2) (fl:Fly QZw Qds)
  (hQ:∀h',Un X.fs [] X.H₀ H' X.s₀.heap h'->UXD->Trc .none (λT=>QYu=yy) H' a h'->Q () QFP):Q4s (leaving X.env Qe) Q E s':=by
 let aa:frs X.stack=X.env.locals::X.fs:=by rw[hs];unfold frs;rw[U9,hf];rfl
 let hA:X.A.frames=yz Qy3:=by rw[<-hs];exact I.ok.frames
 let hI:=I.stack;let fin:∀(l:LR) (h':Heap) (a0:Vb),Ub1 l->(∀b∈l,b≠a->b ∉ frs X.stack->QTr=yy)->Heap.LeftW QeS Uh0 s'.heap h'->Q () QFP:=by
  intro l h' a0 hl L k0;let⟨k1,k2,⟨oe,vs,T,oT,ts,t1,⟨t2,t3⟩,t4,t5,t6,t7,t8,t9,ag⟩,k4⟩:=k0;let keep:∀b o,QJt=Qkq->b ∉ l->Qqq=Qkq:=λb o e hb=>k1 b o QDX;let ac:∀b∈frs X.stack,∃o,QJt=Qkq/\∀vs,o.data≠Qvs:=λb hb=>(hI.mem hb).2;let ab:∀b∈frs X.stack,∀o,QJt=Qkq->∃sl,Qqq=yz QOE:=λb hb o e=>by exact Xa (ac UQB) λo' e' nd=>?_;rw[e]at e';cases e';exact k4 Qps nd
  let ae:∀b o,QTr=Qkq->b≠X.env.locals:=λb o e=>UxJ;let nx:∀b:Addr,b ∉ X.ex:=λb z=>by rw[hx]at z;cases z
  let hT:∀o,s'.heap.get? T=Qkq->T∈l:=λo e=>by
   by_cases hm:T∈l;·exact hm
   ·rw[Vez l e hm]at t6;cases t6
  let nT:T ∉ frs X.stack:=λhm=>by exact Xa (ac T hm) λo e nd=>?_;exact Xd (ab T hm o e) λsl e'=>?_;rw[t8]at e';cases e';exact nd ts t9
  exact hQ h' ⟨λb o e n hb _=>?_,λb o e n hb _=>?_,λb o e n _=>Q7v Q4S,λb o e _=>?_,I.base.tups,I.base.frzs,I.base.tbls⟩ (U3B QV4) ⟨oe,vs,T,oT,ts,t1,t4,t5,?_,t7,?_,t8,t9,ag⟩
  ·exact U6G (Uj6 Q4S) λhm=>?_;let fb:=Q7v Q4S;by_cases h1:b=a;·rw[h1,ha]at fb;cases fb
   ·by_cases h2:b∈frs X.stack
    ·rw[aa]at h2;exact Xj Q2a Qh0 λz=>?_;·exact ae Qps z
     ·exact hb z
    rw[L b hm h1 h2]at e;cases e
  ·exact Xd (Qqr Q4S) λsl e1=>?_;exact Xd (ab b (by rw[aa];calc Uf1 hb) _ e1) λaf e2=>?_;exact⟨af,e2⟩
  ·exact Xd (QHs Q4S) λo' e1=>?_;by_cases hm:b∈l
   ·by_cases h1:b=a;·subst h1;exact⟨_,t1⟩
    ·by_cases h2:b∈frs X.stack;·exact Xd (ab b h2 o' e1) λsl e2=>?_;exact⟨_,e2⟩
     ·rw[L b hm h1 h2]at e;cases e
   exact Q1L
  ·cases q:QYu with
   |none=>exact q|some o=>exact Xd (I.base.there T o q (nx T)) λo' e1=>?_;rw[L T QiP t7 nT]at q;cases q
  cases q:H' T with
  |none=>rfl|some u=>
   exact Xd (Xdl (I.hok T u q)) λo' e1=>?_;rcases hl.of T QiP with z|z|⟨z,_⟩;·exact UL2 t7
   ·exact UL2 nT
   rw[z]at q;cases q
 unfold leaving;calc Va (Xip I hs hf ha fl λl h2 a0 hid L hh up=>?_);exact wpAny_setFlight_noneW hh.1 hh.2.2.1 hh.2.2.2 λh' k1 k2 k3 k4=>?_;exact fin l h' a0 hid (λb hb h1 h2=>?_) ⟨k1,k2,k3,λb o e nd=>?_⟩
 ·exact Xj ((L UQB Qwq).1) Qh0 λz=>?_;·rw[hx]at z;cases z
  ·exact z
 ·calc Xd (up Qps nd) λsl e2=>?_;calc⟨sl,k4 b _ e2 nd⟩
abbrev cxC{Qrl}{QFk}(outer:U49)(s:Vc){Qdo}(E:XK):Cx:=
 { Xst Un6 cd A QRu E with calm:=cm}
def X6r{Qll}{QAk}{Qgj}{f:Addr}{name qual:Str}{params:Vfa}{body:LM}{QHp}{dV kV ak pm aa ct oc:Vb}{an od:QCu}
  {aq:Array (OV)} {N ps:LS} {G:En->Sto->UQ2} {na:Bool} (lk:UH3=yz ⟨oc,od,.func QV7,aq⟩) (ao:Vgy K aa qual=yx) (S:Us5 scope)
  (af:∀(A:Uq) (outer:U49) (s:Vc) (H:Hp) (E:XK),QGw (A.deeper (Qhs aa))->DSs QQ2 body na G):
  FnD cm Qyq QB3 f QV7 ps (λds S=>if QV3=Qow then Xin (G Qm2 S) else .bad):=by
 calc⟨λA outer s H aw us vs Q E hr e0 hb r am=>?_⟩;exact Xbf am λds ρ ag hl rd sr nb hok ae=>?_;let al:QV3=Qow:=by rw[rd.length];exact hl
 dsimp at nb hok ae;rw[iP0 al]at nb;simp[iP0 al]at hok ae;let KX:Up7:=e0.mod.kin.keeps λb o e=>QzU.1;let ap:s.heap.NoLimit:=e0.mod.nolimit.keeps λb o e=>QzU.1;let ai:∀y∈ps.zip us,US4=Q2r\/Qx3:=λ⟨n,v⟩ hy=>by
  exact Xj (S.par n (Vh1 hy).1) QG5 λq=>?_;·exact UgK
  ·exact .inr Q0J
 calc codeAny_call_function (by let:=hr.dp;omega) (KX _ _ lk) rfl S.co S.gen rfl (PySem.W.codeRec_of KX ao) (hb Q5s ?_);exact Vi8 S.kind ai λenv he s1 x=>?_;subst he;calc⟨ap.keeps x.toInCall.keep,codeAny_func ?_⟩;let hD:=af A QRu E (hr.deeper _);let av:Env0 Qyq QzM QRu:=⟨e0.frames,e0.mod,e0.bs,e0.bsz,e0.funs,e0.frf,e0.hok,e0.bare⟩;let I:Inv QQ2 Ug2:=by let L:Inv (Xst Un6 aa QzM QRu E) Ug2:=Xl8 S rfl av hl r x;exact⟨⟨L.ok.mod,L.ok.kind,L.ok.glob,L.ok.blt,L.ok.above,L.ok.inj,L.ok.has,L.ok.cab,(λz=>hr.hd z),L.ok.frames,L.ok.stk,L.ok.exf,L.ok.bs,L.ok.bsz,L.ok.noex,L.ok.exfs,L.ok.funs,L.ok.frf⟩,L.os,L.bare,L.base,L.loc,L.cell,L.free,L.freeC,L.pin,L.hok,L.len⟩
 let J:S0 QQ2 Ug2 ρ ag Qm2:=by
  calc⟨I,sr,QBO⟩;·unfold L2.start;simp![rd.length,hl]
  ·by_cases hi:i<U4G
   ·rw[Vx QY0,Ur]at e;cases q:ds[i]? with
    |none=>rw[q]at e;cases e|some d'=>rw[q]at e;cases e;exact Xa (rd.get q) λv h1 h2=>?_;calc QhX;unfold L2.start;rw[Vx (by rw[Vg,<-rd.length];calc hi),Ur,h1];rfl
   rw[U3 QY0,Vdq]at e;split at e<;>cases e
 let au:G Qm2 ag≠.bad:=λz=>UY8;exact Vp (hD [] s1 Q5B H ρ ag _ J au) (λfl s' hs=>?_) λe s' hs=>?_
 ·calc Xf hs λy S1 e1 hs=>?_;rw[e1]at nb hok;cases y with
  |nx e=>exact Xa6 hs λah aj H' ρ' J' ab _=>?_;subst ah;exact⟨.non,H',J'.inv.os,J'.inv.bare,J'.inv.base,J'.inv.hok,rfl,hok .non S1 .non Qcw rfl QD1 J'.sr ab⟩|rt d=>exact X8 hs λu v aj H' ρ' ah J' rv ar ac ab=>?_;subst ah;exact⟨v,H',J'.os,J'.bare,J'.base,J'.hok,rv,hok UgE v Qcw rfl ar ac ab⟩|brk e=>cases nb rfl|cnt e=>cases nb rfl
 ·let⟨n,S1,aj,e1,_,H',ρ',a,c,J',rfl,hn,hc,ac,ab,fl⟩:=hs;rw[e1]at ae;calc Xa ((show ∃C,Ug3=UwE/\H' a=Un2 from ac.ob n a _ hn hc)) λC _ ha=>?_;calc X2p J' rfl rfl rfl ha fl λh' un hok tr=>⟨H',J'.os,J'.bare,un,hok,⟨a,rfl,tr⟩,ae n c S1 a Qcw rfl hn hc ac ab⟩
universe e
def Xrb{pc:LA}{t':Nat}{fp:LR}{Qdi}
  (k:∀b o,b ∉ fp->QWq=Qkq->Qqq=Qkq):UI1 Q51:=by
 let aa:∀b u,H b=QIt->b ∉ fp:=λb u e z=>by rw[(hf b z).1]at e;cases e
 exact UNA (ch:=fp) (λb hb=>⟨QY9.2.2.2.1,QY9.2.1,QY9.2.2.2.2.1,QY9.2.2.2.2.2⟩)
  (λb o _ _ L e _=>U8C) (λb o _ _ L e _=>⟨o.slots,U8C⟩) Q0R
  (λb o L e=>⟨o,U8C⟩) UO3
 ·exact Yd hm λo es ep ho r=>?_;exact⟨o,es,ep,k _ o (λz=>(hf _ z).2.1 rfl) ho,r⟩
 ·exact UDB λ_ _ _ q=>q;exact Xj L Qh0 λz=>?_;·rw[z];exact aa UiE
  ·calc aa c _ z
theorem SqK{Q4n}{Qxn}(xs:AV):Prop:=match k with
 |true=>h.IsList URB|false=>h.IsTuple URB
theorem ItK{Q4n}{QHi}(i a:Addr){QEj}:Prop:=match k with
 |true=>h.IsListIter i a n|false=>h.IsTupleIter i a n
theorem SqH{Q4n}{QOp}(vs:LW):Prop:=match k with
 |true=>SqL Qou|false=>SqT Qou
section
variable{Qyl}{Qak}{a i:Addr}{Qoi}{xs:AV}
def SqK.at(x:SqK k h URB){Qhl}:SqK k h' URB:=by cases k<;>(calc Xa x λo L r=>?_;calc QDU)
def ItK.at(x:Uq7 n)(e:∀o,UCG=Qkq->h'.get? i=Qkq):ItK k h' i a n:=by cases k<;>(calc Xa x λo L r=>?_;calc QDU)
def SqK.obj(x:SqK k h URB):∃o,QFr=Qkq/\(o.cls=Qzq \/ o.cls=Qpq):=by
 cases k;·exact Xe x λo e c _=>?_;exact⟨o,e,.inr c⟩
 ·calc Xe x λo e c _=>?_;calc⟨o,e,.inl c⟩
def ItK.obj(x:Uq7 n):∃o,UCG=Qkq/\(o.cls=.type "list_iterator" \/ o.cls=.type "tuple_iterator")/\∀v,o.data≠UJ4:=by
 cases k;·exact Xe x λo e c d=>?_;exact⟨o,e,.inr c,λv z=>by rw[d]at z;cases z⟩
 ·calc Xe x λo e c d=>?_;calc⟨o,e,.inl c,λv z=>by rw[d]at z;cases z⟩
universe e
def Xiq{Qkk}:∃its:LV,Vals vs its/\SqK k Qaw:=by
 cases k;·exact Xe (U0E) λits L p _=>?_;exact⟨its,L,show QLx from p⟩
 ·calc Xe (UhH) λits L p _=>?_;calc⟨its,L,p.isList⟩
def Xn7{Qkk}(h':SqH k QAw a us):vs=us:=by
 cases k;·exact I.tuple_inj h h'
 ·calc I.list_inj h h'
section
variable{Q2h}
def Xx9{Q1k}{Q6q}
  (hQ:∀h',h'.IsTupleIter it t Qq1->U73->Q x QU):UM1:=by
 calc Xe QWg λo ho hc hd=>?_;calc Y9 ht λol ab _ nl aa=>?_;unfold U1;calc Va Qo4;show QXq QRN Qlr;calc Va QSF;show Qcx;rw[iN0 (show ¬ QGe from Ue)];show QXq QQN Qlr;calc Va QGE;show QXq QGL Qlr;calc Va QpT;simp[Vaf,hx];calc Va (Vip UM4 Q9 (Vd ⟨x,rfl,Vd (Ut2 ⟨_,Vdb _ ho (Obj.isFreed_of_fields (Obj.data_mapFields hd _)),(Obj.cls_mapFields ..).trans hc,by rw[Obj.data_mapFields hd];simp![Vaa]⟩ (Vbw ..))⟩))
def X2q{QJh}{Q1k}(hx:items[i]?=yy)
  (hE:∀h' e,Qau->Qs2->UmH):UM1:=by
 exact Xe QWg λo ho hc hd=>?_;exact Y9 ht λol ab _ nl aa=>?_;unfold U1;calc Va Qo4;show QXq QRN Qlr;calc Va QSF;show Qcx;rw[iN0 (show ¬ QGe from Ue)];show QXq QQN Qlr;calc Va QGE;show QXq QGL Qlr;calc Va QpT;simp[Vaf,hx];calc Va (Vb0 (Va (Vip UM4 Q9 ?_)));show Ub7;calc Va ?_;simp[newExc,newTuple];calc Va QlL;calc Qww;calc Vad ?_ Q77;simp[raiseNew];exact Va QND
 first|rw[show A.in1.handled=yy from hh]|rw[hh]
 calc Va (Vd (wpAny_throw (hE _ _ Q4E Qd3)))
def nxK{QXk}{Q6q}
  (hQ:∀h',ItK k h' it t Qq1->U73->Q x QU):UM1:=by
 cases k;·exact Xx9 UmI hQ
 ·calc wpAny_nextOf_list_item UmI hQ
def Xs6{QJh}{QXk}(hx:items[i]?=yy)
  (hE:∀h' e,Qau->Qs2->UmH):UM1:=by
 cases k;·exact X2q hh UmI hE
 ·calc wpAny_nextOf_list_end hh UmI hE
abbrev Xn8{Q4n}:String:=match k with
 |true => "list_iterator"|false => "tuple_iterator"
def X06(h:SqK k Qnq xs)(L:UsD {s with heap:=s.heap.push Qs7 }):
  Vf QCw QYV Qeq:=by
 cases k;·exact Vgs h L
 ·calc Vfo h L
def Xrc(e:UCG=yz Qs7):Uq7 0:=by cases k<;>calc⟨_,e,rfl,rfl⟩
universe e
structure ZAp{QXp}:Prop where
 Iz:I≠z
 Oz:O≠z
 iz:i≠z
 jz:j≠z
 IO:I≠O
 Ii:I≠i
 Ij:I≠j
 Oi:O≠i
 Oj:O≠j
 ij:i≠j
 a_:a≠z/\a≠O/\a≠i/\a≠j
 b_:b≠z/\b≠O/\b≠i/\b≠j
private abbrev IsZ{QHi}(z I O:Addr)(f0 f1:Vb):Prop :=
 h.get? z=yz {cls:=Q5x,dict:=yy,data:=.fields #[f0,f1,UM9,UFE,UaK],slots:=#[]}
structure ZSa{Qgn}{QXp}(n m:Nat){QHi}:Prop where
 zo:∃f0 f1,IsZ h UZA/\Qc7
 io:IsPair h I (.ref i) (.ref j)
 oo:∃x y,IsPair h O x y
 i1:ItK k1 h i a n
 i2:ItK k2 h j b m
section
variable{Qgn}{QHi}(a b:Addr)
private noncomputable abbrev zp1:Heap:=h.push Qj7
private noncomputable abbrev zp2:Heap:=(UpI h a).push {cls:=.type (Xn8 k2),data:=.fields #[.ref b,UL3 0]}
private noncomputable abbrev zp3:Heap:=(zp2 Qtx).push {cls:=Qpq,data:=.seq #[.ref h.objs.size,.ref (UpI h a).objs.size]}
private noncomputable abbrev zp4:Heap:=(zp3 Qtx).push {cls:=Qpq,data:=.seq #[.none,.none]}
private noncomputable abbrev zp5:Heap:=(zp4 Qtx).push {cls:=Q5x,data:=.fields #[.none,UM9,UM9,.ref (zp2 Qtx).objs.size,.ref (zp3 Qtx).objs.size]}
universe e
def Xvf{Qgn}(a b:Addr)(xs ys:AV):Meets (Vbf.«zip.__new__» ⟨[.type "zip",QYr,UH9],[]⟩) (λ_ R s=>UDH/\SqK UL4/\R (.ok (.ret (.ref (zp4 QRt).objs.size))) {s with heap:=zp5 QRt}):=
 .of_wp λprog w A R s h=>by let⟨L,g,d,tk,os⟩:=s;calc Xs h λh1 h2 h=>?_;let aa:=sub_zip;let L1:SqK k1 (Shared.heap ⟨L,g,d,tk,os⟩) URB:=h1;let L2:SqK k2 (Shared.heap ⟨L.push Qj7,g,d,tk,os⟩) b ys:=h2.at λo e=>Qyw;wp_walk using X06 L1,X06 L2;calc QcA
def Xya(h1:UDH)(h2:SqK UL4)
  (h:∀h',ZSa k1 k2 QTM (s.heap.objs.size+2) Qu s.heap.objs.size QZ a b 0 0 h'->(∀c o,QVs=Qkq->U65=Qkq)->Q (.ref QTM) QU):
  Vf QCw (call (Q5x) [.ref a,UH9]) Qeq:=by
 calc callType_new F.called_zip Q2 (F.typeCall_zip_2 _ _) (F.newCall_zip_2 _ _) (λobj=>F.args_object_init_3 obj _ _) F.entry_zip_new (Xvf k1 k2 a b xs ys) ⟨h1,h2,?_⟩;let z1:(UpI Qnq).objs.size=s.heap.objs.size+1:=Va2 ..;let z2:(zp2 QRt).objs.size=s.heap.objs.size+2:=by rw[Va2,z1]
 let z3:(zp3 QRt).objs.size=s.heap.objs.size+3:=by rw[Va2,z2]
 let z4:(zp4 QRt).objs.size=s.heap.objs.size+4:=by rw[Va2,z3]
 let L:QE4.get? (zp4 QRt).objs.size=yz _:=Um3 rfl;let g4:QE4.get? (zp3 QRt).objs.size=yz _:=Qwt Q25;let g3:QE4.get? (zp2 QRt).objs.size=yz _:=Qwt Q8Q;let g2:QE4.get? (UpI Qnq).objs.size=yz _:=Qwt Q9a;let g1:QE4.get? s.heap.objs.size=yz _:=Qwt (Qwt Q9a);show _/\_;rw[z2,z3,z4]at L;rw[z1,z2]at g3;rw[z3]at g4;rw[z1]at g2;rw[z4];calc⟨QLE,h _ ⟨⟨_,_,L,.inl rfl⟩,g3,⟨_,_,g4⟩,Xrc g1,Xrc g2⟩ λc o q=>Qwt (Qwt (Qwt (Qwt QZV)))⟩
abbrev Itz{Quk}{Qgn}(a b:Addr):L2.It:=
 ⟨λn H=>∃xs x ys y,U3A/\xs[n]?=QJu/\SqH UeA/\ys[n]?=UR6,
   λn H v H'=>∃T x y,v=.ref T/\H T=yy/\H'=QLt T QTQ/\(∀xs,U3A->xs[n]?=QJu)/\∀ys,SqH UeA->ys[n]?=UR6,
   λn H=>∃xs ys,U3A/\SqH UeA/\(QPs<=n\/lg ys<=n)⟩
def Xyb{QSi}{o u:Obj}{c:Addr}(e:(h.push o).get? c=QIt)(L:c≠h.objs.size):UDG=QIt:=by rw[Heap.get?_push_ne h c o L]at e;calc e
section
variable{Q2h}{Qbi}{f0 f1:Vb}{Qoi}{xs ys:AV}{x y:Vb}
def Xvg(h:Q (Qkt) s):Q1v (loadIfAlive a) Qeq:=λ_ _ _=>h
def Xn9{QXn}(L:f0=.none\/∃T:Nat,f0=Vaa T)(h1:Q' yx s)(h2:∀h' (T:Nat),IsZ h' z I O QqY QrB->Vba z Qar->Q' yw QU):Qcq (Vcr Qr3) Q' E s:=by
 unfold Vcr;rcases L with rfl|⟨T,rfl⟩;·exact Va (U4D rfl (x:=.none) rfl QnY)
 ·calc Va (U4D rfl (x:=Vaa T) rfl ?_);show QXq (loadIfAlive QXV >>= _) QLq;calc Va (Xvg ?_);cases s.heap.get? QXV with
  |none=>simp[Option.isNone_none,if_true];exact Vd h1|some o=>
   simp[Option.isNone_some,Vq,if_false];calc Va (U4D rfl (x:=f1) rfl ?_);split;·exact Va (UT5 λg5 e5 c5=>Vd (h2 g5 T e5 c5))
   ·rename_i L;let:f1=.bool true:=by simpa using L
    subst this;calc Vd (h2 s.heap T hz Qsd)
def X2r{Q:VP}{QIk}{QYm}
  (hQ:∀h',h'.objs.size=s.heap.objs.size+1->UEB->UPF->QF0->UsD QU):
  Vf QCw QsA (λfin s'=>∃v,fin=.done QPe/\Q v s') E s:=by
 let⟨⟨f0,f1,hz,hf⟩,hI,⟨a0,b0,hO⟩,h1,h2⟩:=st;show QXq QPN QLq;calc Va QpD;show QXq QON QLq;calc Va Qe8;show QXq QfS QLq;exact Va (Xn9 hz hf ?_ λg1 T z1 c1=>?_)
 ·simp[if_true];calc Va (Vb0 (Va (U4D rfl (x:=UaK) rfl (Va (UT5 λg1 z1 c1=>?_)))));replace z1:IsZ g1 QMs:=z1;calc Va ?_;simp[List.zipIdx_cons,List.zipIdx_nil,Vdi,Vg0];calc Va Q46;show UN1;calc Va Qh2;let o2:UMA:=Qer D.Oi (c1.extBut UI6 hO);calc Va (Vcq o2 rfl (Va (Vh5 o2 λg3 o3 c3=>?_)));replace o3:IsPair g3 O x b0:=o3;calc Va QrG;show UO1;let u3:∀c o,c≠z->c≠O->c≠i->QVs=Qkq->g3.get? c=Qkq:=λc o L e2 e3 e=>QPv e2 (U6K QUN);calc Va (nxK Qp8 QQ8 hy λg4 j4 c4=>Vd ?_);let o4:IsPair g4 O x b0:=Qzs D.Oj o3;calc Va (Vcq o4 rfl (Va (Vh5 o4 λg5 o5 c5=>?_)));replace o5:IsPair g5 O x y:=o5;calc Va (wpAny_letGo (Vd (Vd (Va (Vcq o5 rfl (Va Qrd))))));let sz:g5.objs.size=s.heap.objs.size:=by rw[c5.1,c4.1,c3.1,c2.1,c1.1]
  let z5:IsZ g5 QMs:=Qmt D.Oz.symm (UKH QR7);let u5:∀c o,c≠z->c≠O->c≠i->c≠j->QVs=Qkq->g5.get? c=Qkq:=λc o L e2 e3 e4 e=>Qmt e2 (Qzs e4 (u3 c o L e2 e3 e));let i5:ItK k1 g5 i a QW9:=i2.at λo e=>Qmt D.Oi.symm (Qzs D.ij (QPv D.Oi.symm e));let j5:ItK k2 g5 j b QW9:=j4.at λo e=>Qmt D.Oj.symm e;let aa:z<g5.objs.size:=Vu z5;show QXq (Vgu Qr3 QzN >>= _) QLq;calc Va ?_;unfold Vgu;calc Va (Vbb (Ve _ z5:IsZ (g5.push QAC) QMs) Q9 λg7 z7 c7=>?_);replace z7:IsZ g7 z I O QjO f1:=z7;exact Vbb z7 Q9 λg8 z8 c8=>?_;replace z8:IsZ g8 z I O QjO Qpa:=z8;let up:∀c o,c≠z->g5.get? c=Qkq->g8.get? c=Qkq:=λc o L e=>UKG L (ULG L QaG);let t8:IsPair g8 g5.objs.size x y:=UKG Q2e (ULG Q2e Q25);rw[sz]at z8 t8;calc Vd QL4;show Q QzN _;rw[sz];exact hQ g8 (by rw[c8.1,c7.1,Va2,sz]) ⟨⟨_,_,z8,.inr Qd⟩,up UTB (u5 UTB D.IO D.Ii D.Ij hI),⟨_,_,up UI6 o5⟩,i5.at λo e=>up _ o D.iz e,j5.at λo e=>up _ o D.jz e⟩ t8 λc o L e2 e3 e4 e=>up c o L (u5 c o L e2 e3 e4 e)
 ·replace c1:U2D:=c1;simp[Vq,if_false];rw[show QET=QJI.toArray from rfl];calc Va ?_;simp[Vi2,Vdi,Vg0];calc UtJ;show UN1;calc Va Qh2;replace c2:Vba i g1 g2:=c2;calc Vd ?_;dsimp;calc UtJ;show UO1;let u2:∀c o,c≠z->c≠i->QVs=Qkq->g2.get? c=Qkq:=λc o L e3 e=>U6K QUN;calc Va (nxK QlB QjA hy λg4 j4 c4=>Vd ?_);replace c4:Vba j g2 g4:=c4;calc Vd ?_;dsimp;calc Vd ?_;dsimp;show QXq (newTuple Qt7 >>= _) QLq;calc Va Qrd;let sz:g4.objs.size=s.heap.objs.size:=by rw[c4.1,c2.1,c1.1]
  let z4:IsZ g4 z I O QqY QrB:=UKH (Qer D.iz.symm z1);let u4:∀c o,c≠z->c≠i->c≠j->QVs=Qkq->g4.get? c=Qkq:=λc o L e3 e4 e=>Qzs e4 (u2 c o L e3 e);let i4:ItK k1 g4 i a QW9:=i2.at λo e=>Qzs D.ij e;calc Vd QL4;show Q (.ref g4.objs.size) _;rw[sz];calc Ut2 (by rw[Va2,sz]) ⟨⟨_,_,Qwt z4,.inr ⟨T,rfl⟩⟩,Qwt (u4 UTB D.Ii D.Ij hI),⟨_,_,Qwt (u4 UI6 D.Oi D.Oj hO)⟩,i4.at λo e=>Qyw,j4.at λo e=>Qyw⟩ ?_ λc o L _ e3 e4 e=>Qwt (u4 c o L e3 e4 e);let:IsPair (g4.push QAC) g4.objs.size x y:=Um3 rfl;rw[sz]at this;calc this
def Xyc{QJh}{QIk}(ac:xs[n]?=yy\/ys[n]?=yy)
  (hE:∀h' e,QF0->Qs2->UmH):
  Vf QCw QsA Qeq:=by
 let⟨⟨f0,f1,hz,hf⟩,hI,⟨a0,b0,hO⟩,h1,h2⟩:=st;show QXq QPN QLq;calc Va QpD;show QXq QON QLq;calc Va Qe8;show QXq QfS QLq;exact Va (Xn9 hz hf ?_ λg1 T z1 L=>?_)
 ·simp[if_true];calc Va (Vb0 (Va (U4D rfl (x:=UaK) rfl (Va (UT5 λg1 z1 L=>?_)))));replace z1:IsZ g1 QMs:=z1;calc Va ?_;simp[List.zipIdx_cons,List.zipIdx_nil,Vdi,Vg0];calc Va Q46;show UN1;cases hx:xs[n]? with
  |none=>
   calc Va (Uq9 λg2 e c2 he=>?_);exact Xa he λoe aa ab=>?_;let z2:IsZ g2 QMs:=c2 _ _ D.iz.symm z1;let ez:e≠z:=λq=>by subst q;rw[z2]at aa;cases aa;simp! at ab
   exact Vbb z2 Q9 λg3 _ c3=>hE g3 e (λc o e1 _ e3 _ q=>QPv e1 (UMG)) ⟨oe,QPv ez aa,ab⟩|some x=>
   let hy:ys[n]?=none:=by exact Xj ac QG5 λq=>?_;rw[hx]at q;cases q;exact q
   calc Va Q3D;let o2:UMA:=Qer D.Oi (L.extBut UI6 hO);calc Va (Vcq o2 rfl (Va (Vh5 o2 λg3 o3 c3=>Va QrG)));show UO1;let u3:∀c o,c≠z->c≠O->c≠i->QVs=Qkq->g3.get? c=Qkq:=λc o e1 e2 e3 e=>QPv e2 (U6K QuN);calc Va (Xs6 hh Qp8 QQ8 hy λg4 e c4 he=>?_);exact Xa he λoe aa ab=>?_;let z4:IsZ g4 QMs:=c4 _ _ D.jz.symm QR7;let ez:e≠z:=λq=>by subst q;rw[z4]at aa;cases aa;simp! at ab
   exact Vbb z4 Q9 λg5 _ c5=>hE g5 e (λc o e1 e2 e3 e4 q=>Qmt e1 (c4 _ _ e4 (u3 c o e1 e2 e3 q))) ⟨oe,Qmt ez aa,ab⟩
 ·replace L:U2D:=L;simp[Vq,if_false];rw[show QET=QJI.toArray from rfl];calc Va ?_;simp[Vi2,Vdi,Vg0];calc UtJ;show UN1;cases hx:xs[n]? with
  |none=>exact Va (Uq9 λg2 e c2 he=>hE g2 e (λc o e1 _ e3 _ q=>UMG) he)|some x=>
   let hy:ys[n]?=none:=by exact Xj ac QG5 λq=>?_;rw[hx]at q;cases q;exact q
   calc Va Q3D;replace c2:Vba i g1 g2:=c2;calc Vd ?_;dsimp;calc UtJ;show UO1;let u2:∀c o,c≠z->c≠i->QVs=Qkq->g2.get? c=Qkq:=λc o e1 e3 e=>U6K QuN;calc Va (Xs6 hh QlB QjA hy λg4 e c4 he=>hE g4 e (λc o e1 _ e3 e4 q=>c4 _ _ e4 (u2 c o e1 e3 q)) he)
def ZSa.ty(st:QQs b n n s.heap):UT8:=let ⟨_,_,q,_⟩:=st.zo;⟨_,q,rfl⟩
def Xyd{QBh}(L:SqK UL4){QYm}
  (hQ:∀h',UEB->UPF->QF0->Q (yz QB) QU):
  Vf QCw Q4c Qeq:=by
 unfold Vds;calc Va (Vc8 (Qjw (UC0 (X2r D st ha L hx hy λh' _ q1 q2 q3=>Vd (hQ h' UcE q3)) QyL)))
def Xye{QJh}{QIk}(L:xs[n]?=yy\/ys[n]?=yy)
  (hQ:∀h',QF0->Q yy QU):Qcq Q4c Qeq:=by
 unfold Vds;calc Va (Vc8 (Qjw (UC0 (Xyc hh D st UN4 L λh' e hk he=>?_) QyL)));calc Xa he λo ho hc=>?_;calc Va (Vf2 (T:="StopIteration") (b:=yx) QkX isSubtype_stop (Vd (Ut2 hk)))
def X6s(hz:∃f0 f1,IsZ s.heap UZA/\Qc7)(L:∀h',(∃f0 f1,IsZ h' UZA/\Qc7)->Vba z Qar->Q () QU):
  Vf QCw (Ve6 (.Tuple elts x1 pos) Qr3 QSe) Qeq:=by
 exact Xf hz λf0 f1 hz hf=>?_;unfold Ve6;calc Va (Vgw hz ?_);show QXq (if (Qx.contains "zip" && (#[f0,f1,UM9,UFE,UaK]:AV)[0]?==yz QqY)=yx then _ else _) Qeq;split;·calc Va QcV;show QXq (setField Qr3 0 .none) Qeq;exact UT5 λh' z' c'=>L h' ⟨_,_,z',.inl rfl⟩ c'
 ·calc Vd (L s.heap ⟨f0,f1,hz,hf⟩ Qsd)
def Xoa{QXn}(h:Q Qr3 s):Qcq (Veo Qr3) Qeq:=by let ty:UT8 := ⟨_,hz,rfl⟩;calc Vhb ty F.slot_zip_iter (Uy F.slot_zip_iter ty F.entry_zip_iter (show QXq (ret Qr3) Qlr from Vd ⟨_,rfl,"zip",_,ty,F.slot_zip_next.lookup,h⟩) (F.args_zip_iter_1 _))
universe e
def ZSa.at{Qbk}(k:∀c∈QHD,∀o,UDG=Qkq->U65=Qkq):QQs b n m h':=
 ⟨let ⟨f0,f1,q,r⟩:=x.zo;⟨f0,f1,k z Q9 _ q,r⟩,k I Q9 _ x.io,let ⟨p,q,e⟩:=x.oo;⟨p,q,k O Q9 _ e⟩,x.i1.at λo e=>k i Q9 o e,x.i2.at λo e=>k j Q9 o e⟩
def ZSa.some{Qbk}:∀c∈QHD,∃o,UDG=Qkq/\∀v,o.data≠UJ4:=λc L=>by
 simp[Vv,Va6,or_false]at L;rcases L with e|e|e|e|e<;>subst e
 ·exact Xf x.zo λf0 f1 q _=>?_;exact⟨_,q,λv q=>nomatch q⟩
 ·exact⟨_,x.io,λv q=>nomatch q⟩
 ·exact Yy x.oo λp q e=>?_;exact⟨_,e,λv q=>nomatch q⟩
 ·exact Xe x.i1.obj λo e _ d=>?_;exact Qta
 calc Xe x.i2.obj λo e _ d=>?_;calc Qta
def Xyf{QWh}{es:LX}{x0:Nat}{tp:Pos}{Qbi}(D:ZAp z I O i j a b):
  Turn P w K (Ur1 x0 tp) QKQ QHD z (λn h=>QQs b n n h) where
 mem:=by simp!
 obj:=λn h st c L=>st.some c L
 keep:=λn h h' st k=>st.at k
 item:=by
  intro X hP UF6 hg;subst hP hw hK;exact Xbn hg λxs x ys y q1 hx q2 hy=>?_;exact Xa QzZ λah ac p1=>?_;exact Xa QyZ λaf ae p2=>?_;exact Xa (ac.get hx) λu1 aj al=>?_;exact Xa (ae.get hy) λu2 ak am=>?_;let hT:Qbu=none:=UOF;let ai:∀c∈QHD,c≠s.heap.objs.size:=λc L=>by exact Xa (st.some c L) λo e _=>?_;exact Uf QJB
  exact Xyd D st p1 p2 (x:=u1) (y:=u2) (by simpa using aj) (by simpa using ak) λh' aa pr kp=>⟨_,rfl,X6s aa.zo λh2 z2 c2=>?_⟩;let J1:Qvr Q85 QiF:=J.laid (t':=s.toks) (λc o e=>Qyw) Qa ⟨by show 2<=V6;decide,[u1,u2],.cons al (.cons am .nil),QD5⟩;let ag:∀c∈QHD,Xcb QZw Q85 c:=λc L=>⟨by rw[Xg (ai c L)];calc QEd.1,QEd.2⟩;let J2:Qvr Q85 Qg3:=Xrb (s:=QiF) (h':=h2) (t':=s.toks) J1 ag λc o L e=>by
   simp[Vv,Va6,or_false,not_or]at L;calc Qer L.1 ?_;by_cases q:c=s.heap.objs.size;·subst q;let e':=(Vo s.heap (o:=QX4) rfl).symm.trans e;rw[<-e'];exact pr
   ·exact QDw (Xyb e q)
  calc⟨QTs,_,J2,rfl,⟨s.heap.objs.size,x,y,rfl,hT,rfl,λzs hz=>?_,λzs hz=>?_⟩,?_,λc L=>(ag c L).1⟩;·rw[Xn7 J hz q1];exact hx
  ·rw[Xn7 J hz q2];exact hy
  let ab:∀c o,c≠z->U65=Qkq->h2.get? c=Qkq:=λc o e1 e=>Qer e1 e;exact⟨z2,ab UTB aa.io,let ⟨p,q,e⟩:=aa.oo;⟨p,q,ab UI6 e⟩,aa.i1.at λo e=>ab _ o D.iz e,aa.i2.at λo e=>ab _ o D.jz e⟩
 done:=by
  intro X hP UF6 hg;subst hP hw hK;exact Xc hg λxs ys q1 q2 hl=>?_;exact Xa QzZ λah ac p1=>?_;exact Xa QyZ λaf ae p2=>?_;let l1:=ac.length;let l2:=ae.length;exact Xye (J.ok.hd L) D st p1 p2 ?_ λh' kp=>⟨rfl,Xrb (t':=s.toks) J hf λc o L e=>?_⟩
  ·exact Xj hl QRZ λhl=>?_;·exact .inl Q83
   ·exact .inr Q83
  simp[Vv,Va6,or_false,not_or]at L;exact QDw e
 self:=λ_ _ _ _ _ st h=>let ⟨_,_,q,_⟩:=st.zo;Xoa q h
def Xmh(a b:Int):Ve1 a b (-1)=if a>b then a-b else 0:=by unfold Ve1;rw[iN0 Q2];split<;>simp!<;>omega
def Xs7(ha:-QUB<=a)(aa:a<2^62)(hb:-QUB<=b)(L:b<2^62):Builtin.Range.small a b (-1)=true:=by
 unfold Builtin.Range.small;rw[Xmh];simp[Builtin.Range.rangeFitsLong,bA0,Vch,decide_eq_true_eq,beq_iff_eq,show ¬ Qxg>0 by decide,if_false];let q:∀x:Int,-QUB<=x->x<2^62->-2^63<=x/\x<2^63:=λx h1 h2=>QyK;split;·exact⟨⟨QgB,by omega,by omega⟩,.inr (by rw[show Qxg+1=0 from rfl,Int.add_zero];calc q UQB L)⟩
 ·calc⟨⟨QgB,by decide⟩,.inl rfl⟩
abbrev Itd(lo:Int){QEj}:L2.It where
 go:=λi _=>i<n
 yld:=λi H x H'=>H'=H/\x=.int QSg
 stop:=λi _=>n<=i
def Xvh{QUm}:QXx QLa UUI (λi h=>UFB (lo+(i:Nat)*(-1)) QoQ (-1)) where
 mem:=by simp!
 obj:=λi h st b L=>by
  obtain rfl:b=it:=by simpa using L
  exact⟨_,st,λv z=>nomatch z⟩
 keep:=λi h h' st k=>U7C _ st
 item:=by
  intro X QZv;subst hP hw hK;exact Xag QmZ λf0 f1 f2 f3 f4 f5=>?_;exact(Qzu (-1) n).item i s _ _ hg st λv h' tk hv aa kk=>?_;exact Xd hv λt ab=>?_;subst ab;let I1:UI1 QO:=Ua1;calc⟨_,rfl,Qgw rfl rfl Q2 ⟨.int QSg,H,I1,Qhc,QV0,aa,λb L=>QjB.1⟩⟩;let e:lo+(i:Int)*(-1)=lo-i:=by omega
  rw[e]
 done:=by intro X QZv;subst hP hw hK;exact Xag QmZ λf0 f1 f2 f3 f4 f5=>?_;let hn:n<=i:=hg;exact U20 Q0 λh' eb=>QK0
 self:=λ_ _ _ _ _ st h=>Um0
section
variable{QQm}{QPk}
def X2s{pc:LA}{R:L2.It->Hp->Prop}{Qro}{QDo}{tk:Nat}{Q0h}{Qch}
  (q:R (Itd U68) H):UWH QsB:=by
 calc UR4 (Xs7 Q8s) ?_;generalize hR:(QR1:Obj)=L;let I1:UI1 {s with heap:=QKx,toks:=tk}:=I.kept λb o e=>Qyw;exact⟨(QKx).objs.size,[(QKx).objs.size],_,_,H,rfl,I1.kept (t':=tk) λb o e=>Qyw,Xvh _ U68,?_,λb hb=>?_,q⟩
 ·let e1:lo+QC5*(-1)=lo:=by simp!
  let e2:Q7O-QC5=Ve1 Qku (-1):=by rw[Xmh];split<;>omega
  show UyD (lo+QC5*(-1)) (Q7O-QC5) (-1);rw[e1,e2];exact Um3 rfl
 ·obtain rfl:b=(QKx).objs.size:=by simpa using hb
  calc I1.fpOk Qa QNQ
universe e
private abbrev RX:Ua0->UcH->Prop:=Paired λp q=>p.1=q.1/\p.2.1=q.2.1/\RelV p.2.2 q.2.2
abbrev Xgh{Q1n}(k:LI)(b:Addr)(v:V):Ua0:=
 if xs.any QyA then xs.map (λp=>if p.1=k then (p.1,p.2.1,v) else p) else xs++[(k,b,v)]
section
variable{Qvh}{QQk}{ys:List QLC}{k:LI}{b:Addr}{QMp}
def X6t{Q4m}(q:Uv3):match Xae kvs k with
  |none=>Uk8 k=yy|some d=>∃c v u,Uk8 k=yz (c,u)/\RelV v u/\RD QFs:=by
 induction r generalizing ys with
 |nil=>cases q;rfl|@cons p QBv=>
  cases q with
  |@cons _ y _ zs h2 t2=>
   let:=ih t2;exact Xs h λe1 e2 e3=>?_;exact Xs h2 λf1 f2 f3=>?_;by_cases e:p.1=k
   ·let L:UoC=Uk0:=by simp![Xae,e]
    let a2:atKey Qhe k=yz y.2:=by simp![atKey,<-f1,<-e1,e]
    rw[L];exact⟨_,_,_,a2,f3,e3⟩
   let L:UoC=Xae ps k:=by simp![Xae,e]
   let a2:atKey Qhe k=atKey zs k:=by simp![atKey,<-f1,<-e1,e]
   rw[L,a2];calc this
def X2t{Q4m}(k:LI):xs.any QyA=QiN.isSome:=by
 induction r with
 |nil=>rfl|@cons p QBv=>
  by_cases e:p.1=k;·simp![Xae,<-h.1,e]
  ·let L:UoC=Xae ps k:=by simp![Xae,e]
   rw[L,List.any_cons,ih,<-h.1];simp![e]
def X6u{Q4m}(L:Ut3 b QnU)(hd:UKD):DX Qat (UfC k d) QhI:=by
 unfold Xdx Xgh;rw[X2t r k];split
 ·rename_i hz;clear L hz;induction r with
  |nil=>exact .nil|@cons p QBv=>
   rw[Ub,Ub];calc .cons ?_ ih;exact Xs h λh1 h2 h3=>?_;by_cases e:p.1=k;·rw[iP0 e,iP0 QjP];exact⟨h1,h2,hd⟩
   ·rw[iN0 e,iN0 Q8L];exact Qi1
 calc UZH ⟨rfl,L,hd⟩
def X2u(r:Uv3)(k:LI):xs.any QyA=(Uk8 k).isSome:=by
 induction r with
 |nil=>rfl|@cons p x ps L h t ih=>
  by_cases e:p.1=k;·simp![atKey,<-h.1,e]
  ·let a1:atKey (x::L) k=atKey L k:=by simp![atKey,<-h.1,e]
   rw[a1,List.any_cons,ih];simp![e]
def X6v(r:Uv3)(L:QNr):RX QhI (storedH ys k b u):=by
 unfold Xgh storedH;rw[X2u r k];split
 ·rename_i hz;clear hz;induction r with
  |nil=>exact .nil|@cons p QBv=>
   rw[Ub,Ub];calc .cons ?_ ih;exact Xs h λh1 h2 h3=>?_;unfold putAt;by_cases e:p.1=k;·rw[iP0 e,iP0 QjP];exact⟨h1,h2,L⟩
   ·rw[iN0 e,iN0 Q8L];exact Qi1
 calc UZH ⟨rfl,rfl,L⟩
def Xyg:QhI.length<=QPs+1:=by
 unfold Xgh;split;·rw[Vg];omega
 ·rw[Vw];calc UX0
def Xyh:UfC k d≠[]:=by
 unfold Xdx;split
 ·rename_i h;cases kvs with
  |nil=>cases h|cons p r=>exact λz=>by cases z
 simp!
universe e
section
variable{QHh}{Qro}
def Xjd{Qdn}:∀ {ks:LI} {us:LV},Vals QQT us->ItemsAre QiS ks us
 |[],_,r=>by rw[Vfs]at r;cases r;exact .nil|k::ks,_,r=>by
  rw[Ub]at r;cases r with
  |cons h t=>calc Xd h λt' L=>?_;subst L;calc .cons QcI (Xjd t)
def Xbq{Q0h}(h:Us3 b QnU):QZS.is s.heap k b:=by let⟨its,r,⟨o,e,c,n,dt⟩,_⟩:=U0E;calc⟨o,its.toArray,n,e,c,dt,by simpa using Xjd r⟩
def S0.dic{Qzg}(h:UlC=QHx):∃a o xs,ρ[n]?=QIx/\s.heap.get? a=Qkq/\Xn1 USI/\DX QUq H QWw/\(Xge S n=QHx->Mut Qyf/\∀o u,H a≠QWu):=by
 unfold Xb6 at h;unfold Xge;cases e:S[n]? with
 |none=>rw[e]at h;cases h|some ob=>
  rw[e]at h;calc Xa QPX λa L q=>?_;cases ob with
  |fdc kv=>cases h;exact Xk q λo u xs h1 _ _ h2 h3=>?_;exact Xi ((show Qdt Qz0 from QXs h1)) λe1 _=>?_;exact⟨a,o,xs,L,e1,h2,h3,λz=>by simp! at z⟩|dct kv=>
   cases h;rcases q with⟨rfl,hv⟩|⟨_,xs,hv,hx⟩
   ·let⟨_,hm,vs,r,ob,es,ep,ho,hx,hd,hh⟩:=QXs hv;cases r;let aa:es.toList=[]:=by
     let z:=hh.2.1;cases q:es.toList with
     |nil=>rfl|cons x r=>rw[q]at z;cases z
    exact⟨a,ob,[],L,ho,⟨hm,U2A,hx,[],es,ep,.nil,hd,λ_ _=>aa,Vg1⟩,.nil,λ_=>Qi7⟩
   let⟨⟨o,e1,h2⟩,_,_⟩:=(show Qdt Q2E from QXs hv);calc⟨a,o,xs,L,e1,h2,hx,λ_=>Qi7⟩|_=>cases h
def X07{Q0h}{QOi}(f:Xn1 USI)(r:DX QUq H QWw):∃ys,Uv3/\s.heap.DictOfH QZS a ys:=by
 let⟨f1,f2,hx,ys,es,ep,q,hd,L,nd⟩:=f;calc⟨ys,q,o,es,ep,ho,hx,hd,L _ _,?_,nd⟩;clear L nd f2;induction r generalizing ys with
 |nil=>cases q;exact λ_ z=>nomatch z|@cons p QBv=>
  cases q with
  |@cons _ y _ zs h2 t2=>
   intro z hz;exact Xj (Vv.mp hz) Qx7 λhz=>?_;·subst e;rw[<-h2.1,<-h2.2.1,<-h.1];exact Xbq I h.2.1
   ·calc ih zs t2 z hz
def X08:∀ {ds:LD} {ks:LI},Xl ds=UlF->ds=ks.map D.int
 |[],ks,h=>by cases h;rfl|.int i::r,ks,h=>by simp[Xl,Up]at h;calc UW4 λaa h1 L=>?_;subst L;rw[X08 h1];rfl|.non::r,ks,h=>by cases h|.bl _::r,ks,h=>by cases h|.str _::r,ks,h=>by cases h|.tup _::r,ks,h=>by cases h|.ref _::r,ks,h=>by cases h|.fro _::r,ks,h=>by cases h|.fn _ _::r,ks,h=>by cases h|.edc::r,ks,h=>by cases h
def Xob{Qck}(h:Xl ds=UlF)(r:RD Qat Q0M v):∃b,v=UH9/\SqT K H b QQT:=by simp[RD]at r;calc Xc r λb vs L h1 h2=>?_;subst L;rw[X08 h]at h2;rw[RDs.ints_of h2]at h1;calc⟨b,rfl,h1⟩
def X6w{Qoh}{Qzg}(e1:Xge S n=QHx)(e2:UaG=US6)(hz:QOG<big)(rx:Q6s Q81 vx)(qx:RelV vx ux)(ry:Q6s QNc vy)(qy:UHD uy){Q6h}
  (hQ:∀s' H',Ua5 (QKy (.dct QRV)) env->QCs H'->UU1):Q4s QYP Qeq:=by
 let ab:UlC=QHx:=by
  unfold Xge at e1;unfold Xb6;split at e1;·rename_i e;rw[e];exact e1
  ·cases e1
 exact Xk (I.dic ab) λa o xs ha ho f hx mu=>?_;exact Xi (mu e1) λmu nf=>?_;exact Xa QkN λys q dd=>?_;rw[RD]at rx;exact Xa rx λa' L aa=>?_;subst L;rw[ha]at aa;cases aa;cases qx;exact Xa (Xob e2 ry) λb L hb=>?_;subst L;cases qy;let hl:QR=U4C:=(Vhj hx).symm;let ag:QzG=U4C:=by rw[<-Vhj q];exact hl
 let af:big<V6:=by decide
 calc wpAny_setItem_heap Qdw (xs:=ys) (hsz:=by omega) QWV QIC dd λh' ac hs=>?_;let st:QCs (Ud7 (.ext (DicO a QhT))):=QKt (o:=.dct QRV) UM0;let ae:=(X6u hx hb rd).mono st.toMon;calc Xbf ac λo' es ep g1 g2 g3 g4 _ g6=>?_;let df:Xn1 a o' QhT:=⟨f.1,by let:=Xyg (xs:=xs) (k:=r) (b:=b) (v:=v);omega,g2,_,es,ep,X6v q rv,g3,λ_ _=>g4,g6⟩;let J:=I.inv.write (x:=a) (e:=a) (t':=s.toks+QZS.draws r) mu Q10 (λc w hc z=>(hs.2 c hc).trans z) ⟨_,g1⟩ (DicO.ok ⟨o',g1,df⟩);calc Ut2 _ ⟨J,Qiu (.inr ⟨Xyh,_,Xp,ae⟩),Up5⟩ st
universe e
abbrev Itx{Qji}(o:Obj){Q1n}:L2.It:=
 ⟨λi H=>QHP/\i<QPs,
   λi H v H'=>∃T p,xs[i]?=UjF/\v=.ref T/\H T=yy/\H'=QLt T (.tup [.ref p.2.1,p.2.2]),
   λi H=>QHP/\QR<=i⟩
section
variable{QPp}{a b c e tg iter:Expr}{Q7j}{Q4l}
theorem DG{QMl}(tg:Expr)(t:Tg):Prop:=
 ∀(pc:LA) (s:Vc) (σ:L2.St) (H:Hp) (ρ:LR) (S:Sto) (env:En) (d:D) (v:V) (u:Vb) (L:En) (Q:Unit->Vc->Prop) (E:VP),Q2s->Uy9=UvE->US1->QNr ->
  (∀s' aa,S0 QZw aa H s' ρ S L->UU1)->Q4s (assign tg X.env u) Qeq
def X2v{Qpi}:DG X Qh7 QA0:=by intro pc QIq d v u L Q E I h Qby hQ;simp[X3,Vt]at h;subst h;calc Vja (Xc2 I.inv hN hi hx rv (λs' I'=>hQ s' _ ⟨I',I.sr,I.er.set i rd⟩) hf)
abbrev gNs:LN->TGs
 |[]=>X51|i::is=>X0y Qkf QvU
def Xvi:∀(is:LN) (vs:LW) (σ:L2.St) (H:Hp) (Q:L2.St->Hp->Prop),U3G=Q8y->Q QDI H->gNs is vs UBI
 |[],vs=>fun σ H Q hl h=>by
  let:vs=[]:=by simpa using hl.symm
  subst this;calc Qsa|i::is,[]=>fun σ H Q hl h=>by simp! at hl|i::is,v::vs=>fun σ H Q hl h=>⟨v,vs,rfl,Xvi is vs _ H Q QZD h⟩
def ER.sets{Qck}:∀(is:LN) (ds:LD) (vs:LW) (env:En) (σ:L2.St),Qgu->ER Qat env σ->ER Qat QM8 QDI
 |[],ds=>λvs env σ r e=>by simpa using e|i::is,[]=>λvs env σ r e=>by simp[RDs]at r;subst r;simpa using e|i::is,d::ds=>λvs env σ r e=>by simp[RDs]at r;calc Xc r λv L aa h1 h2=>?_;subst aa;calc ER.sets is ds L _ _ h2 (e.set i h1)
def X6x{QLh}(h:∀E,PGs Q94 es QvU)(hn:QI3.length=U3G)(ab:UjD=yy):DG X QkQ Qh9:=by
 intro pc QIq d v u ae Q E I hd Qby hQ;cases d with
 |tup ds=>
  simp[X3]at hd;split at hd
  ·rename_i hl;cases hd;simp[RD]at rd;exact UF7 λa vs ac hs hr=>?_;subst ac;let aa:Q6S=Q8y:=by rw[hl,hr.length]
   exact thn (X52 (X:=Uj3) (n:=U3G) hc (h E) hn ab Qiq Qe u (λL H'=>H'=H/\L=(is.zip vs).foldl Qb0 σ) QA9 rv ⟨a,vs,rfl,hs,aa.symm,Xvi is vs σ H _ aa QV0⟩) λ_ s' zz=>?_;exact Xc zz λL H' J e1 e2=>?_;subst e1 e2;exact hQ s' _ ⟨J.unwish,I.sr,ER.sets is Qkr env σ hr I.er⟩
  cases hd|_=>cases hd
def Xvj:∀(is:LN) (xs:UdH),X.N.Nodup->U3G=QPs->(∀(j i:Nat) (x:Str×Pos),is[j]?=yz i->xs[j]?=QJu->X.N[i]?=UsI/\Loc UXI/\Qd7) ->
  PGs X QU3 QvU
 |[],xs=>λ_ hl _=>by
  let:xs=[]:=by simpa using hl.symm
  subst this;calc X2e|i::is,[]=>λ_ hl _=>by simp! at hl|i::is,x::xs=>λhN hl h=>by calc Xs (h 0 i x rfl rfl) λh1 h2 h3=>?_;calc Xxy (X2d hN Ui2) (Xvj is xs hN QZD λj i' x' L e2=>h QiA i' x' QJ6 (by simpa using e2)) rfl
def Xje:∀(xs:UdH) (env:Vbs),QbV.length=QPs/\QbV.findIdx? QT=yy
 |[]=>λenv=>QV0|x::xs=>λenv=>by let h:=Xje xs env;let e:Vb8 (Q4B.map λx=>URA) env=(yw,assign (.Name x.1 x.2) env)::Vb8 QU3 env:=rfl;rw[e];calc⟨by simp![h.1],?_⟩;rw[List.findIdx?_cons];simp![h.2]
theorem SrcK{QYi}:Src->Bool->Addr->Prop
 |.con xs,yw,a=>∃vs,SqT Qou/\RDs UkA|.con xs,yx,a=>∃vs,FrL Qou/\RDs UkA|.ref n,yx,a=>ρ[n]?=QIx|_,_,_=>False
def SrcK.mono'{QEm}{Qyl}{QZh}{Qjh}(h:UBH UHI):SrcK K Q4r UHI:=by
 cases src with
 |con xs=>cases k with
  |false=>calc UW4 λvs h1 h2=>?_;calc⟨vs,Us4 h1,QVv _ _ h2⟩|true=>calc UW4 λvs h1 h2=>?_;calc⟨vs,U8J,QVv _ _ h2⟩
 |ref n=>cases k with
  |false=>calc h.elim|true=>calc x.pre _ _ h
 |zpp _ _=>calc h.elim
def SrcK.get{src:Src}{Qyl}{QZh}{Qfi}{Qnp}(h:SrcK QUq H UHI){Qzg}(g:Un0=Qkq):∃vs,SqH k U82/\match o with
  |some d=>∃v,vs[i]?=UA2/\RD UG8|none=>Q8y<=i:=by
 cases src with
 |con xs=>
  obtain⟨vs,h1,h2⟩:∃vs,SqH k U82/\RDs QEs:=by
   cases k with
   |false=>exact h|true=>exact UW4 λvs h1 h2=>?_;exact⟨vs,h1.sq,h2⟩
  simp[Src.get,Vt]at g;calc⟨vs,h1,?_⟩;cases o with
  |some d=>calc h2.get g|none=>let:=UDC;rw[Uv]at this;calc this
 |ref n=>cases k with
  |false=>exact h.elim|true=>
   simp[Src.get,Up]at g;calc Xa g λxs g1 g2=>?_;calc Xc Q1Z λa' vs k1 k2 L=>?_;let h':ρ[n]?=QIx:=h;rw[h']at k1;cases k1;calc⟨vs,UbK,?_⟩;cases o with
   |some d=>calc L.get g2|none=>let:=L.none g2;rw[Uv]at this;calc this
 |zpp _ _=>calc h.elim
inductive SrcR{QYi}:Src->L2.It->Prop where
 |tup {a:Addr} {xs:LD} {vs:LW}:SqT Qou->Qwr QQt->QYx Qk9 QLc
 |rng (lo:Int) (n:Nat):QYx (.con (QFX.map λ(k:Nat)=>U8E)) QKa
 |lst {n:Nat} {a:Addr}:ρ[n]?=QIx->QYx Q81 QvS
 |frl {a:Addr} {xs:LD} {vs:LW}:FrL Qou->Qwr QQt->QYx Qk9 QvS
 |zpp {s1 s2:Src} {k1 k2:Bool} {a b:Addr}:UBH s1 k1 a->UBH s2 k2 b->QYx (.zpp s1 s2) QKQ
 |dwn (lo:Int) (n:Nat):QYx (.con (QFX.map λ(k:Nat)=>D.int QRg)) QLa
 |dic {a:Addr} {o:Obj} {u:HO} {kvs:QZu} {xs:Ua0}:H a=QWu->UJ3->QYx (.con (kvs.map X6a)) (Itx USI)
def X09{Qvh}:∀ {kvs:QZu} {xs:Ua0} {i:Nat} {p:LI×D},UJ3->kvs[i]?=UjF->∃q,xs[i]?=yz q/\p.1=q.1/\SqT K H q.2.1 Q6B/\RD Qat UJI
 |_,_,i,_,.nil,h=>by simp! at h|_,_,0,_,Qft _,h=>by simp! at h;subst h;calc QzK|_,_,i+1,_,U46,h=>by calc Xa (X09 (i:=i) t QN2) λq h1 h2=>?_;calc⟨q,by simpa using h1,h2⟩
def SrcR.mono'{QEm}{J:L2.It}{Qjh}{Q7p}:UEF:=by
 cases h with
 |tup Qwq=>calc .tup (Us4 h1) QeM|rng lo n=>calc .rng lo n|lst h=>calc .lst (x.pre _ _ h)|frl Qwq=>calc .frl (U8J) QeM|zpp Qwq=>calc .zpp (h1.mono' x) (h2.mono' x)|dwn lo n=>calc .dwn lo n|dic Qwq=>calc .dic (UmB h1) (UEC)
def SrcR.mono{QEm}{J:L2.It}{Qgi}{Q7p}:UEF:=h.mono' x.toMon
def Xrd{s1 s2:Src}{Qfi}{Qnp}(g:(Src.zpp s1 s2).get S i=Qkq):∃o1 L,s1.get S i=yz o1/\s2.get S i=UvE/\match o with
  |some d=>∃x y,o1=QJu/\L=UR6/\d=.tup Qt7|none=>o1=yy\/L=none:=by
 simp[Src.get]at g;split at g;·rename_i x y e1 e2;cases g;exact⟨_,_,e1,e2,x,y,rfl,rfl,rfl⟩
 ·rename_i o1 L hn e1 e2;cases g;calc⟨o1,L,e1,e2,?_⟩;cases o1 with
  |none=>exact .inl rfl|some x=>
   cases L with
   |none=>exact .inr rfl|some y=>exact(hn x y rfl rfl).elim
 ·cases g
def SrcR.go{QOn}(g:Un0=U3J):
  J.go i H/\∀x H',J.yld i H x H'->UE1 H'/\Stp QUq QVq H'/\RD QUq H' d x:=by
 cases h with
 |@tup a UdI=>simp[Src.get,Vt]at g;exact Xa QoZ λv e1 e2=>?_;calc⟨⟨vs,v,h1,e1⟩,λx H' y=>?_⟩;exact Xi y λL y=>?_;subst L;let:=y vs h1;rw[e1]at this;cases this;exact QFD|rng lo n=>
  simp[Src.get,Vt]at g;rw[Ur]at g;let hi:i<n:=by
   by_cases hi:i<n;·exact hi
   ·rw[Vak QY0]at g;cases g
  rw[Ve0 hi]at g;simp[U7,Vt]at g;subst g;calc QtM;exact Xi y λL aa=>?_;subst L aa;calc QuH|@lst n a h=>simp[Src.get,Up]at g;exact Xa g λxs g1 g2=>?_;exact Xc Q1Z λa' vs k1 k2 k3=>?_;rw[h]at k1;cases k1;exact Xa (k3.get g2) λv e1 e2=>?_;calc⟨⟨vs,v,UbK,e1⟩,λx H' y=>?_⟩;exact Xi y λL y=>?_;subst L;let:=y vs Q2W;rw[e1]at this;cases this;calc QFD|@frl a UdI=>simp[Src.get,Vt]at g;exact Xa QoZ λv e1 e2=>?_;calc⟨⟨vs,v,h1.sq,e1⟩,λx H' y=>?_⟩;exact Xi y λL y=>?_;subst L;let:=y vs h1.sq;rw[e1]at this;cases this;exact QFD|@zpp s1 UdF=>exact Xbv QNf λo1 o2 g1 g2 x y L aa ae=>?_;subst L aa ae;exact Xdm (h1.get I g1) λvs q1 v e1 r1=>?_;exact Xdm QtU λus q2 u e2 r2=>?_;calc⟨⟨vs,v,us,u,q1,e1,q2,e2⟩,λw H' yd=>?_⟩;exact Xk yd λT v' u' L hT aa z1 z2=>?_;subst L aa;let ab:=z1 vs q1;let ac:=z2 us q2;rw[e1]at ab;cases ab;rw[e2]at ac;cases ac;let st:QCs (QLt T (.tup Qce)):=Stp.upd hT;calc Q3L;simp[RD];exact⟨T,Qce,rfl,.of Xp,.cons (r1.mono st) (.cons (r2.mono st) .nil)⟩|dwn lo n=>
  simp[Src.get,Vt]at g;rw[Ur]at g;let hi:i<n:=by
   by_cases hi:i<n;·exact hi
   ·rw[Vak QY0]at g;cases g
  rw[Ve0 hi]at g;simp[U7,Vt]at g;subst g;calc QtM;calc Xi y λL aa=>?_;subst L aa;calc QuH|@dic a o u QWw Qwq=>simp[Src.get,Vt,Ur,Up]at g;calc Xa g λp g1 L=>?_;subst L;calc Yg (X09 h2 g1) λq q1 q2 q3 q4=>?_;calc⟨⟨Qgc,(Vk.mp q1).1⟩,λw H' yd=>?_⟩;calc Xx yd λT q' e1 L hT aa=>?_;subst L aa;rw[q1]at e1;cases e1;let st:QCs (QLt T (.tup [.ref q.2.1,q.2.2])):=Stp.upd hT;calc Q3L;unfold X6a;rw[RD];calc⟨T,_,rfl,.of Xp,.cons ?_ (.cons (q4.mono st) .nil)⟩;rw[RD];calc⟨_,_,rfl,st.tup _ _ q3,.ints _⟩
def SrcR.stop{QOn}(g:Un0=QNw):J.stop i H:=by
 cases h with
 |@tup a UdI=>simp[Src.get,Vt]at g;calc⟨vs,h1,by let:=UDC;rw[Uv]at this;calc this⟩|rng lo n=>simp[Src.get,Vt]at g;rw[Uv]at g;show n<=i;simpa using g|@lst n a h=>simp[Src.get,Up]at g;exact Xa g λxs L g2=>?_;exact Xc (I.list L) λa' vs k1 k2 k3=>?_;rw[h]at k1;cases k1;calc⟨vs,UbK,by let:=k3.none g2;rw[Uv]at this;calc this⟩|@frl a UdI=>simp[Src.get,Vt]at g;exact⟨vs,h1.sq,by let:=UDC;rw[Uv]at this;calc this⟩|@zpp s1 UdF=>
  exact Xc QNf λo1 o2 L g2 ho=>?_;exact Xa (h1.get I L) λvs q1 r1=>?_;exact Xa QtU λus q2 r2=>?_;calc⟨vs,us,q1,q2,?_⟩;rcases ho with e|e<;>subst e
  ·exact .inl r1
  calc .inr r2|dwn lo n=>simp[Src.get,Vt]at g;rw[Uv]at g;show n<=i;simpa using g|@dic a o u QWw Qwq=>simp[Src.get,Vt,Ur,Option.map_eq_none_iff,Uv]at g;calc⟨Qgc,by rw[<-Vhj h2];calc g⟩
theorem ItP{QFh}(tg:Expr)(r:UJH)(L:Vb)(s2:Vc):Prop:=
 ∃src S' it fp tn J H' ρ',r=.ok src S'/\L=.ref it/\Inv UYB s2/\Turn Qcs/\tn 0 s2.heap/\QLI/\SrcR Q7t UB6/\SR Qmq/\Stp QSq
def ItP.pre{aa:LR}{H1:Hp}{r:UJH}{L:Vb}{s2:Vc}(h:ItP QJq aa H1 tg r L s2)(st:U1H H1):QVy r L s2:=by let⟨src,S2,it,fp,tn,J,H2,ab,z1,z2,z3,z4,z5,z6,z7,z8,z9⟩:=h;calc⟨src,S2,it,fp,tn,J,H2,ab,z1,z2,z3,z4,z5,z6,z7,z8,st.trans z9⟩
theorem DI{QMl}(tg iter:Expr)(f:En->Sto->UJH):Prop:=
 ∀(pc:LA) (s:Vc) (σ:L2.St) (H:Hp) (ρ:LR) (S:Sto) (env:En) (E:VP),Q2s->Q8u≠.bad->(∀x s',QZt Qv Uk6->E Uk6) ->
  Vf QTq QjE (λv L=>Q4s (Veo v) (QVy Qv) E L) E s
def X6y(he:Qjv iter f):DI X Qkv (λenv S=>Qv.bind λx S=>match Xaa S x with|some r=>UD4|none=>.bad):=by
 intro pc QIq E I nb hE;dsimp at nb hE |-;cases q:Q8u with
 |bad=>rw[q]at nb;cases nb rfl|ex QVw=>rw[q]at hE;exact he.ex I q λx s' z=>QWt Qf0|ok UgE=>
  rw[q]at nb;simp[Rk0]at nb |-;calc U35 λu s1 v H1 ac L rv rd ab=>?_;cases d with
  |tup xs=>
   simp[RD]at rd;exact UF7 λa vs aa h1 h2=>?_;subst aa;cases rv;exact Xe (L.inv.tuple h1) λits ae p hz=>?_;calc Vgs (show s1.heap.IsTuple Qxq from p) ?_;calc⟨_,S1,s1.heap.objs.size,QID,_,_,H1,ac,rfl,rfl,Qus λb o e=>Qyw,Xsp a _,QY1,λb hb=>?_,.tup Qwq,L.sr,ab⟩;let e:b=s1.heap.objs.size:=by simpa using hb
   subst e;exact QUy|ref n=>
   cases e1:lstAt S1 n with
   |none=>simp![Xaa,e1]at nb|some xs=>
    exact Xc (L.list e1) λa vs k1 k2 k3=>?_;simp[RD]at rd;exact Ux9 λa' aa k4=>?_;subst aa;rw[k1]at k4;cases k4;cases rv;exact Xe (L.inv.list Q2W) λits ae p hz=>?_;calc UrJ ?_;calc⟨Uw5,S1,s1.heap.objs.size,QID,_,_,H1,ac,by simp![Xaa,e1],rfl,Qus λb o e=>Qyw,Xl3 a _,QY1,λb hb=>?_,.lst k1,L.sr,ab⟩;let e:b=s1.heap.objs.size:=by simpa using hb
    subst e;calc QUy
  |non=>simp![Xaa]at nb|bl _=>simp![Xaa]at nb|int _=>simp![Xaa]at nb|str _=>simp![Xaa]at nb|fro xs=>
   simp[RD]at rd;exact UF7 λa vs aa h1 h2=>?_;subst aa;cases rv;exact Xe (L.inv.list h1.sq) λits ae p hz=>?_;calc UrJ ?_;calc⟨_,S1,s1.heap.objs.size,QID,_,_,H1,ac,rfl,rfl,Qus λb o e=>Qyw,Xl3 a _,QY1,λb hb=>?_,.frl Qwq,L.sr,ab⟩;let e:b=s1.heap.objs.size:=by simpa using hb
   subst e;calc QUy|fn _ _=>simp![Xaa]at nb|edc=>simp![Xaa]at nb
def Xvk{tk:Nat}{QDo}{ds:LD}{Qzg}{Qch}(L:ds=QsT.map λ(k:Nat)=>U8E):
  Vf QTq QgO (QVy (Ux5)) E Q65:=by
 calc thn (Xxz UuE (R:=λJ H'=>J=Itr U78/\H'=H) QA9 Q8s QV0) λaa s2 z=>?_;let⟨it,fp,tn,J,H',e1,J',T,t0,fo,e2,e3⟩:=z;subst e2 e3;calc⟨_,S,it,fp,tn,_,H',ρ,rfl,e1,J'.unwish,T,t0,fo,by rw[L];calc .rng _ _,I.sr,.refl⟩
def Xyi{tk:Nat}{QDo}{Qzg}{Qch}:
  Vf QTq QgO (QVy (.ok (.con ((Ud QvJ.toNat).map λ(k:Nat)=>D.int QRg)) S)) E QsB:=by
 calc thn (X2s UuE (R:=λJ H'=>J=Itd U68/\H'=H) QA9 Q8s QV0) λaa s2 z=>?_;let⟨it,fp,tn,J,H',e1,L,T,t0,fo,e2,e3⟩:=z;subst e2 e3;calc⟨_,S,it,fp,tn,_,H',ρ,rfl,e1,L.unwish,T,t0,fo,.dwn _ _,I.sr,.refl⟩
def X2w{ds:LD}(h:Xc3 ds≠yy):(∃j,ds=Q6g)\/(∃i j,ds=Q92)\/∃i j c,ds=[.int i,QCt,UJ9]:=by
 unfold Xc3 at h;split at h;·exact .inl Qd
 ·exact .inr (.inl QE6)
 ·exact .inr (.inr QGU)
 cases h rfl
def X6z {QSh}(hg:Gl X "range")(hm:X.mg "range"=yy){QRi}(ac:QHw=yw):
  DI X tg (.Call QlQ QBA Uf2) (λenv S=>Qw6.bind λxs S=>match Xc3 xs with|some ds=>Ux5|none=>.bad):=by
 intro pc QIq E I nb hE;dsimp at nb hE |-;calc Call_ (Y8 Qmv boot_range (Vbo ?_ hs ac));cases q:Qpw with
 |bad=>rw[q]at nb;cases nb rfl|ex QVw=>rw[q]at hE;exact U45 λx s' z=>QWt Qf0|ok UB8=>
  rw[q]at nb;simp[Rk0]at nb |-;exact QOx λus s1 vs H1 ag I1 rv rd ab=>?_;let fin:∀ {tk:Nat} {lo hi:Int} {t u v:Tok} {xs:LD},-QUB<=lo->lo<2^62->-QUB<=hi->hi<2^62->xs=QsT.map (λ(k:Nat)=>U8E) ->
    Vf QTq (Veo QTJ) (QVy (.ok Qk9 S1)) E {s1 with heap:=s1.heap.push QN,toks:=tk}:=λh1 h2 h3 h4 h5=>
   Vp (Xvk I1 Ul2) Q7N λ_ _ z=>z
  let nr:Xc3 ds≠none:=λz=>nb QMd;rcases X2w nr with⟨j,rfl⟩|⟨i,j,rfl⟩|⟨i,j,c,rfl⟩
  ·simp[Xc3]at nb |-;by_cases hz:-Qa3<j/\j<1048576
   ·rw[iP0 hz]at nb |-;simp[RDs]at rd;calc UF7 λv r L r1 aa=>?_;subst L aa;simp[RD]at r1;subst r1;cases rv with
    |cons UcE=>cases q2;exact Xd q1 λt L=>?_;subst L;calc call_range_1 (fin UK6 ?_);simp!
   rw[iN0 hz]at nb;cases nb rfl
  ·simp[Xc3]at nb |-;by_cases hz:-Qa3<i/\i<1048576/\-Qa3<j/\j<1048576
   ·rw[iP0 hz]at nb |-;simp[RDs]at rd;calc Xbv rd λv r L r1 v2 r2 aa r3 ae=>?_;subst L aa ae;simp[RD]at r1 r3;subst r1 r3;cases rv with
    |cons UcE=>
     cases q2 with
     |cons q3 q4=>cases q4;exact Xd q1 λt L=>?_;subst L;exact Xd q3 λt' L=>?_;subst L;exact call_range_2 (fin UK6 rfl)
   rw[iN0 hz]at nb;cases nb rfl
  simp[Xc3]at nb |-;by_cases hz:c = -1/\-Qa3<i/\i<1048576/\-Qa3<j/\j<1048576
  ·rw[iP0 hz]at nb |-;simp[RDs]at rd;let⟨v,r,rfl,r1,v2,r2,rfl,r3,v3,r4,rfl,r5,rfl⟩:=rd;simp[RD]at r1 r3 r5;subst r1 r3 r5;calc Xi hz λL hz=>?_;subst L;cases rv with
   |cons UcE=>
    cases q2 with
    |cons q3 q4=>
     cases q4 with
     |cons q5 q6=>cases q6;exact Xd q1 λt L=>?_;subst L;exact Xd q3 λt' L=>?_;subst L;exact Xd q5 λaf L=>?_;subst L;exact call_range_3 Q2 (Vp (Xyi I1 UK6) Q7N λ_ _ z=>z)
  rw[iN0 hz]at nb;cases nb rfl
def X1a{Qzg}(e:Xaa S d=yz src){Q6h}:∃k a vs,u=QYr/\SqH k U82/\SrcK QUq H UHI:=by
 cases d with
 |tup xs=>let e':yz QGX=yz src:=e;cases e';simp[RD]at rd;exact UF7 λa vs L h1 h2=>?_;subst L;cases rv;exact⟨yw,a,vs,rfl,h1,vs,h1,h2⟩|ref n=>
  cases e1:Qys with
  |none=>simp![Xaa,e1]at e|some xs=>simp[Xaa,e1,U7,Vt]at e;subst e;calc Xc (I.list e1) λa vs k1 k2 k3=>?_;simp[RD]at rd;calc Ux9 λa' L k4=>?_;subst L;rw[k1]at k4;cases k4;cases rv;calc⟨yx,a,vs,rfl,UbK,k1⟩
 |fro xs=>let e':yz QGX=yz src:=e;cases e';simp[RD]at rd;calc UF7 λa vs L h1 h2=>?_;subst L;cases rv;calc⟨yx,a,vs,rfl,h1.sq,vs,h1,h2⟩|_=>cases e
def X2x{n a b:Nat}(h1:a<n)(h2:b<n):ZAp (n+4) (n+2) (n+3) n QW9 a b:=by constructor<;>(try calc⟨?_,?_,?_,?_⟩)<;>(intro z;first|omega|(let L:(_:Nat)=_:=z;omega))
def X60{n b:Nat}(h:b∈[n+4,n+2,n+3,n,n+1]):n<=b:=by simp[Vv,Va6,or_false]at h;omega
def Xre{Qyl}{QZh}{Qfo}{Qkk}:a<s.heap.objs.size:=by calc Xa (Xiq I h) λits _ q=>?_;calc Xa q.obj λo e _=>?_;calc UZ6
def X61 {QSh}{sx sy:Src}{Qgl}(af:QHw=yw){Qzg}(q:Qpw=.ok Qt7 S1)(e1:UlJ x=yz sx)(e2:UlJ y=yz sy)
  (hQ:∀L h' H1 aa k1 k2 b1 b2,Qwv H1 L aa QDx->ZAp Qlw->ZSa k1 k2 Qlw 0 0 h'->UFF sx k1 b1->UFF sy k2 b2->U1H H1->(∀c o,L.heap.get? c=Qkq->U65=Qkq)->Q (.ref Q6C) {L with heap:=h' }):
  Vf QTq (eval QCD X.env) Qeq:=by
 calc Call_ (Un8 (Vbo (QOx λus L vs H1 aa I1 rv rd ac=>?_) hs af));simp[RDs]at rd;calc Xbv rd λv1 r1 ab ae v2 r2 ag ah ai=>?_;subst ab ag ai;cases rv with
 |cons UcE=>
  cases q2 with
  |cons q3 q4=>cases q4;calc Y6 (X1a I1 e1 ae q1) λk1 b1 w1 ab m1 c1=>?_;subst ab;calc Y6 (X1a I1 e2 ah q3) λk2 b2 w2 ab m2 c2=>?_;subst ab;calc Xa (Xiq I1.inv m1) λak _ p1=>?_;calc Xa (Xiq I1.inv m2) λaj _ p2=>?_;calc Xya p1 p2 λh' zs kp=>hQ L h' H1 aa k1 k2 b1 b2 I1 (X2x (Xre I1.inv m1) (Xre I1.inv m2)) zs c1 c2 ac kp
def X62 {x0:Nat}{ts es:LX}{Qrp}{Qgl}(aa:QHw=yw):
  DI X (.Tuple ts x0 tp) QCD (λenv S=>Qw6.bind λxs S=>match xs with
   |Qt7=>match Xaa S x,Xaa S y with
    |some s,yz t=>UME|_,_=>.bad
   |_=>.bad):=by
 intro pc QIq E I L hE;dsimp at L hE |-;cases q:Qpw with
 |bad=>rw[q]at L;cases L rfl|ex QVw=>rw[q]at hE;exact Call_ (Un8 (Vbo (U45 λx s' z=>QWt Qf0) hs aa))|ok UB8=>
  rw[q]at L;simp[Rk0]at L |-;match ds,q,L with
  |[],q,L=>cases L rfl|[_],q,L=>cases L rfl|_::_::_::_,q,L=>cases L rfl|Qt7,q,L=>
   cases e1:UlJ x with
   |none=>simp[e1]at L;cases L rfl|some sx=>
    cases e2:UlJ y with
    |none=>simp[e1,e2]at L;cases L rfl|some sy=>
     exact X61 hg hm ha hs aa I q e1 e2 λs1 h' H1 ae k1 k2 b1 b2 I1 za zs c1 c2 ac kp=>let ⟨_,_,zq,_⟩:=zs.zo;Xoa zq ?_
     calc⟨.zpp sx sy,S1,_,[s1.heap.objs.size+4,s1.heap.objs.size+2,s1.heap.objs.size+3,s1.heap.objs.size,s1.heap.objs.size+1],_,_,H1,ae,by simp[e1,e2],rfl,Qhu kp,Xyf za,zs,λb hb=>?_,.zpp c1 c2,I1.sr,ac⟩;let ab:s1.heap.objs.size<=b:=X60 hb;calc I1.inv.fpOk ab (I1.inv.hok.fresh ab)
def Xjf{QFm}{u:HO}{Q0h}(mu:Mut Qyf){QOi}(L:H a=QIt)(hk:u=.dK []\/(∃ φ,u=.ext φ)\/∃vs,u=.lst vs):Qvr (Ud7 Qz0) s:=by
 calc I.write (x:=a) (e:=a) (h':=s.heap) (t':=s.toks) mu Q10 (λb w hb z=>z) Qic ⟨ho,?_⟩;rcases hk with rfl|⟨φ,rfl⟩|⟨vs,rfl⟩;·exact(show Qdt Qp6 from Qjx L)
 ·exact(show Qdt (.ext φ) from Qjx L)
 calc(show Qdt Qt1 from Qjx L)
def DSs.ok{st:LM}{na:Bool}{g:En->Sto->UQ2}{Q:Flow->Vc->Prop}(h:U7D g){Qzg}(r:Qpw=.ok x S')(L:∀fl s',FlP Qur na Uk4->Q fl s'):
  Vf QTq Q8R Qeq:=by
 exact Vp (h pc QIq I (by rw[r];calc λz=>nomatch z)) QpG λx s' z=>?_;·exact UY6 λy S1 e z=>?_;rw[r]at e;cases e;exact L fl s' z
 ·calc Yd z λn S1 _ e _=>?_;rw[r]at e;cases e
def S0.rep{Qzg}(J:UfH pl UY2):S0 X pl σ Qgq:=⟨J,I.sr,I.er⟩
def X63{pl:LA}{σ L:L2.St}{QMk}{s:Vc}{x:Vb}{Qoi}{r:UQ2}{Qcm}{QNh}(h:XPd X Q3d L Q4r n S' x s)(e:r=Qdu):
  notedBy UH8 (cameBackBy UH8 QOK) x s:=by
 exact Ye (Ud8) λH2 ae a c J ag hn hc sr af fl=>?_;subst ag;exact Xa ((show ∃C,UH7 c=UwE/\H2 a=Un2 from sr.ob n a _ hn hc)) λC _ ha=>?_;let J':QXv L H2 s:=J.pins_of λp hp=>J.pin p (U4 _ (Vbg _ hp));let ah:Fly QZw H2 a s.heap:=by
  rcases fl with fl|⟨f,hf,tr⟩;·exact .inl fl
  ·exact .inr ⟨f,hf,tr.imp λT Qw0=>⟨h1,λp hp=>h2 p (by
    exact Xj QKJ Qh0 λz=>?_;·exact Vbg _ z
    ·calc U4 _ Q6c)⟩⟩
 exact Xip J' ac hf ha ah λl h2 a0 hid aa hh up=>?_;let⟨k1,k2,k3,oe,vs,T,oT,ts,t1,⟨t2,t3⟩,t4,t5,t6,t7,t8,t9,ab⟩:=hh;let J2:QXv L H2 Qg3:=Inv.fly J' ha hid aa k1 up QV4;let nT:T ∉ frs X.stack:=λhm=>by exact Xbx (J2.stack.mem hm) λ_ o e nd=>?_;let e':h2.get? T=Qkq:=e;rw[t8]at e';cases e';exact nd ts t9
 let hT:∀o,UQ3=Qkq->T∈l:=λo e=>by
  by_cases hm:T∈l;·exact hm
  ·rw[Vez l e hm]at t6;cases t6
 let nw:UWC T:=by
  cases q:UQ3 with
  |some o=>exact aa T (hT o q) t7 nT|none=>
   exact QwM
   ·by_cases hx:T∈X.ex;·exact .inl hx
    ·cases w:QYu with
     |none=>exact .inr rfl|some o=>exact Xd (J'.base.there T o w hx) λo' e=>?_;rw[q]at e;cases e
   let:=(J'.pin p hp).1;rw[z,q]at this;cases this
 let hH:H2 T=none:=by
  cases q:H2 T with
  |none=>rfl|some u=>
   exact Xd (Xdl (J'.hok T u q)) λo' e1=>?_;rcases hid.of T QiP with z|z|⟨z,_⟩;·exact UL2 t7
   ·exact UL2 nT
   rw[z]at q;cases q
 let fin:Uu7 yw r Qe Qg3:=
  ⟨n,S',L,e,QT1,H2,ae,a,c,J2,rfl,hn,hc,sr,af,.inr ⟨_,.inr rfl,oe,vs,T,oT,ts,t1,t4,t5,nw,t7,hH,t8,t9,ab⟩⟩
 show QXq (do {if (<-field Qe 1) == .none then {Vfj _};setFlight Qe X.env.frame}) QLq;calc Va Q6I;rw[iN0 (show ¬ ((Ui T==Vay)=yx) from by simp!)];let step:Q4s (UGJ X.env.frame) (λ_ s2=>Uu7 yw r Qe s2) QOK Qg3:=by rw[hf];unfold setFlight;calc Va Q6I;rw[iP0 (show(Ui T != Vay)=yx from by simp!)];calc Vip (s:=Qg3) t8 t9 (Vab.mp ab).1 ?_;rw[show((yz X.env.locals).elim Vay λf=>Vaa f)=Vaa X.env.locals from rfl,Heap.update_setField_same h2 T oT ts 3 _ t8 t9 ab];exact fin
 first
  |calc Va (Vd step)|calc step
inductive ForI{Qui}{QKk}(g:En->Sto->UQ2)(ρ:LR){Qdo}(r0:UQ2){QEj}{Qmm}:Prop
 |mk (i:Nat) (σ':L2.St) (H':Hp) (ρ':LR) (S':Sto) (env':En) (h1:S0 QZw UAI) (h2:UBJ) (h3:∀b∈fp,UB9=yy) (h4:SrcR Q7t UB6) (h5:QSv) (h6:UlD≠.bad) (h7:UlD=r0)
def Xvl{QQm}{QPk}{it:Addr}{QXh}{ρ aa ab:LR}{H H3 H5 H7:Hp}{r0:UQ2}{Qho}{S7:Sto}{s5 s7:Vc}{af:L2.St}{L:En}(T:U8H){Q4q}(ag:SrcR X.K aa H3 UB6)(aj:U1H H3)(ac:QIy aa aa H3 H5)
  (I7:S0 X Qj1 af H7 s7 ab S7 L) (ae:QIy aa ab H5 H7) (ai:UJF≠.bad) (ah:UJF=r0):∃m,m<n+1/\ForI QTt m s7:=by
 calc⟨n,Vcm _,i+1,af,H7,ab,S7,L,Qiv,UAH λb hb o e=>Qh1.1,λb hb=>?_,ag.mono QCV,aj.trans QCV,ai,ah⟩;calc Xa QoN λo e _=>?_;calc Qh1.2.1
def Xyj{Qvk}{ρ ag:LR}{H H3 H5:Hp}{r0:UQ2}{Qho}{S3:Sto}{s5 s6:Vc}{σ an:L2.St}{ai env6:En}{d:D}{Qlh}(al:X.stack=X.env::X.outer){Qbh}{Qcp}
  (T:U8H) (t5:UyE) (ak:SrcR X.K ag H3 UB6) (aj:Uq3 ag H H3) (af:QIy ag ag H3 H5) (I6:S0 X Qj1 an H5 s6 ag S3 env6) (g1:Uu4=U3J) (e6:X3 t d ai=yz env6)
  (ac:UmD≠.bad) (L:UmD=r0):
  Vf QTq (execs body X.env) (λf s'=>match f with
   |.next=>∃m,m<n+1/\ForI QTt m s'|.cont=>∃m,m<n+1/\ForI QTt m s'|.brk=>Rr QdH s'
   |.ret v=>Rr (.ok QPe) s') (notedBy UH8 λe s'=>Rr QbQ s') s6:=by
 simp[Y7,g1,e6]at ac L;cases e7:g env6 S3 with
 |bad=>rw[e7]at ac;cases ac rfl|ex m S7=>
  rw[e7]at L;exact Vp (hb UnA I6 (by rw[e7];calc λz=>nomatch z)) (λfl s7 z7=>?_) λx7 s7 z7=>?_;·exact Xf z7 λ_ _ e _=>?_;rw[e7]at e;cases e
  ·exact Y6 z7 λm' S8 ae e _ z=>?_;rw[e7]at e;cases e;exact Vp (X63 al hf (aj.trans af) z L.symm) (λ_ _ z=>hE _ _ z) λ_ _ z=>hE _ _ z|ok x7 S7=>
  rw[e7]at ac L;calc hb.ok I6 e7 λfl s7 z7=>?_;cases x7 with
  |nx e=>calc Xa6 z7 λab ae H7 ah I7 aa _=>?_;subst ab;calc Uy1 L|cnt e=>calc Xax z7 λab ae H7 ah I7 aa=>?_;subst ab;calc Uy1 L|brk e=>calc Xax z7 λab ae H7 ah I7 aa=>?_;subst ab;calc hR _ _ ⟨.nx e,S7,L.symm,rfl,ae,H7,ah,Qiv,UYJ,λz=>nomatch z⟩|rt d'=>calc X8 z7 λu' v' ae H7 ah ab I7 ap ao am aa=>?_;subst ab;calc hR _ _ ⟨.rt d',S7,L.symm,u',v',ae,H7,ah,rfl,I7.unpinned,ap,ao,am,UYJ⟩
def X2y{Qvk}{ρ:LR}{H:Hp}{r0:UQ2}{n0:Nat}{s:Vc}{σ:L2.St}{Qlh}
  (ab:X.stack=X.env::X.outer) (hf:X.env.frame=Ul0) (hc:X.calm=yx) (hg:Uu5) (hb:U4H) (T:U8H) (L:∀ {H':Hp},QRC->∀b∈fp,UL5) (h:ForI QTt n0 s):Vc1 QTq (.forLoop tg Q20 body [] X.env) Rr s:=by
 calc codeAny_forLoop_any (ForI QTt) ?_ n0 h;rintro n s3 ⟨i,σ3,H3,ρ3,S3,env3,I3,t3,fr3,sr3,st3,nb3,eq3⟩;cases n with
 |zero=>cases nb3 rfl|succ n=>
  let ah:=nb3;simp[Y7]at nb3;cases g1:Uu4 with
  |none=>rw[g1]at nb3;cases nb3 rfl|some o=>
   rw[g1]at nb3;cases o with
   |none=>exact thn (T.done X rfl rfl rfl hc Qmr Q4R) λr s4 zz=>?_;exact UZC λhr I4=>?_;subst hr;exact Vh4 (hR _ _ ⟨.nx env3,S3,by rw[<-eq3];simp[Y7,g1],rfl,σ3,H3,ρ3,QAO,st3,λz=>nomatch z⟩)|some d=>
    dsimp at nb3;calc Xi QPT λgo yl=>?_;calc thn (T.item X rfl rfl rfl hc Qmr go) λr s4 zz=>?_;calc Xa zz λu hr h4=>?_;subst hr;calc thn h4 λ_ s5 zz=>?_;calc Xaw zz λx H5 I5 r5 y5 t5 ac=>?_;calc Xs QeW λaf aa ag=>?_;let ae:=I5.pinned (L ac) QtT;cases e6:X3 t d env3 with
    |none=>rw[e6]at nb3;cases nb3 rfl|some env6=>rw[e6]at nb3;dsimp at nb3;calc hg UP4 d x u env6 _ _ ⟨ae,af,I3.er.mono aa⟩ e6 ag r5 λs6 ai I6=>?_;calc Xyj hR hE ab hf hb T t5 sr3 st3 aa I6 g1 e6 ah eq3
def X64{Qcm}{QLh}(hi:Ue1)(hg:Uu5)(L:U4H)(hs:∀x,Qdv=Uw4):
  DS X (.For Qkv body Uf2) yw (λenv S=>QY6.bind λsrc S=>QEw Q64 0 QKq):=by
 intro pc Qyr;dsimp at nb |-;cases q:Uh8 with
 |bad=>rw[q]at nb;cases nb rfl|ex QVw=>
  calc wpAny_For (Vp (UBC _ I Qm λx s' z=>?_) QN3 λ_ _ z=>z) hs;·rw[q]at z;exact UY6 λm S2 e z=>?_;cases e;exact QEu rfl
  ·let⟨src,S2,_,_,_,_,_,_,e,_⟩:=h2;rw[q]at e;cases e|ok UKB=>
  rw[q]at nb;simp[Rk0]at nb |-;calc wpAny_For (Vp (UBC (Uu7 yw (QEw Q08 0 Q0u)) I Qm λx s' z=>?_) QN3 λ_ _ z=>z) hs;·rw[q]at z;exact UY6 λm S2 e z=>?_;cases e
  ·let⟨ai,S2,it,fp,tn,J,H2,ae,e1,rfl,I2,T,t0,f2,ag,ah,aa⟩:=h2;rw[q]at e1;cases e1;let ab:∀ {H':Hp},QRC->∀b∈fp,UL5:=λhn b L=>⟨hn b L,QJd.2⟩;calc X2y Q1B Q1B ac hf hc hg L T ab ⟨0,σ,H2,ae,S1,env,U1E ah aa,t0,λb L=>QJd.1,ag,aa,nb,rfl⟩
universe e
def Xft{Qql}(P:Str->Addr->Prop):∀(names:U59) (cs:UZ0),(∀x∈names,x.2=.free->∃c,UV6=QFv/\P x.1 c)->(∀x c,cs.lookup x=QFv->P x c) ->
  ∃cl,(forIn names cs λ(x:Str×Vfg) (r:UZ0)=>(match x with
   | (name,kind)=>if (kind==Vhl)=yx then do
     let a <- cellOf env name
     pure (Vd5 ((name,a)::r))
    else UwF:Sem (ForInStep QHa)))=(pure cl:Sem QHa)/\(∀x c,Qrw=QFv->P x c)/\(∀x c,cs.lookup x=QFv->∃c',Qrw=yz c')/\∀x∈names,x.2=.free->∃c,cl.lookup x.1=QFv
 |[],cs,_,hc=>⟨cs,rfl,hc,λx c h=>⟨c,h⟩,λ_ h=>nomatch h⟩| Q0f::r,cs,hf,hc=>by
  by_cases hk:k=.free
  ·subst hk;exact Xa (hf (n,.free) V4 rfl) λc ac af=>?_
   exact Yg (Xft env P r ((n,c)::cs) QKP (λx d h=>by
    rw[Var]at h;by_cases L:x==n;·rw[L]at h;cases h;rw[eq_of_beq L];exact af
    ·let ab:Q2b=false:=by simpa using L
     rw[ab]at h;calc hc x d h)) λcl e h1 h2 h3=>?_
   calc⟨cl,?_,h1,λx d h=>?_,λx L aa=>?_⟩;·rw[Vdi];simp[beq_self_eq_true,if_true,cellOf,ac,pure_bind];exact e
   ·by_cases L:x==n;·exact h2 x c (by rw[Var,L])
    ·let ab:Q2b=false:=by simpa using L
     exact h2 x d (by rw[Var,ab];calc h)
   rcases Vv.mp L with rfl|L;·exact h2 n c (by rw[Var,beq_self_eq_true])
   ·exact h3 x L aa
  exact Yg (Xft env P r cs QKP hc) λcl e h1 h2 h3=>?_;exact⟨cl,?_,h1,h2,λx L aa=>?_⟩
  ·rw[Vdi];let ae:(k==Vhl)=false:=by simpa using hk
   simp[ae,Vq,if_false,pure_bind];exact e
  rcases Vv.mp L with rfl|L;·exact aB0 aa hk
  ·calc h3 x L aa
def Xjg(hf:∀x∈scope.names,x.2=.free->∃c,UV6=QFv):
  ∃L,closureFor scope env=pure L/\(∀x c,L.lookup x=QFv->QRx=QFv/\QBN∈scope.names)/\∀x∈scope.names,x.2=.free->∃c,L.lookup x.1=QFv:=by
 calc Yg (Xft env (λx c=>QRx=QFv/\QBN∈scope.names) UrK (λx hx hk=>let ⟨c,hc⟩:=hf x hx hk;⟨c,hc,hc,hk▸hx⟩) (λx c h=>by simp! at h)) λL e h1 _ h3=>?_;calc⟨L,?_,h1,h3⟩;unfold closureFor;simp[bind_pure];calc e
private noncomputable abbrev Xm1(ifs:LX){Qql}:UGH:=forIn ifs yx λc r=>if r=yx then do let ok <- U0B;pure Qyd else UwF
abbrev cE{Q4n}{QPi}(pos:Pos):Expr:=match k with
 |false=>.ListComp UkI|true=>.SetComp UkI
abbrev aN{Q4n}:String:=match k with
 |false => "list.append"|true => "set.add"
theorem Xkq{Q4n}(M:Model)(A:Uq){QPi}(pos:Pos)(d:Nat)(L:Vb){Qql}(P:Vc->Prop)(s:Vc):Prop:=
 match gens[d+1]? with
 |none=>Q1v (eval elt env) (λx s4=>Q1v (call (.builtin (aN k)) [L,x]) (λ_ s5=>P s5) Qt s4) Qt s|some g'=>g'.is_async=0/\(∀x,Vce g'.iter env x=Uw4)/\Vf M A (eval g'.iter env) (λx s4=>Q1v (Veo x) (λaa s5=>Vc1 M A (UaF QxF aa L env) (λr s6=>match r with|.ok _=>P s6|.error _=>False) s5) Qt s4) Qt s
section
variable{Qvm}{Q0m}
def Xvm{Qbp}(hm:A.mark yy=A)(I:Nat->Vc->Prop)
  (turn:∀n s,I n s->Qcq (Vds it) (λr s₁=>match r with
   |none=>R QdH s₁
   |some v=>Qcq (Ve6 target it v) (λ_ af=>Qcq (assign target env v) (λ_ ag=>Qcq (Xm1 ifs env) (λok ae=>if ok=yx then Xkq k QCw UkI d acc env (λac=>∃m,m<n/\I m ac) ae else ∃m,m<n/\I m ae) Qt ag) Qt af) Qt s₁) Qt s)
  (n:Nat) (h:I n s):UL7 QfG R s:=by
 cases k
 all_goals
  calc codeAny_loop rfl I (λn s hI=>?_) n h;show Vf _ A ((compTurn _ UC8).onRaise (λx=>do noteFrame x env;theTreesLotGoes x)) Qlr;calc wpAny_noted (QQw ?_ Q1B λ_ _ z=>z.elim);unfold compTurn;simp[cE,hg,show QyI=yw from rfl,Vq,if_false];calc Va (Veb (Va (Vp (turn n s hI) (λr s₁ ai=>?_) λ_ _ z=>z)));cases r with
  |none=>exact Vd ai|some v=>
   calc Va (Vp ai (λ_ af ak=>Va (Vp ak (λ_ ag al=>Va (Vp al (λok ae L=>?_) λ_ _ z=>z)) λ_ _ z=>z)) λ_ _ z=>z);cases ok with
   |false=>rw[iN0 Ue]at L;simp[Vq,if_false];exact Vd QDD|true=>
    rw[iP0 rfl]at L;simp[if_true];unfold Xkq at L;cases hq:gens[d+1]? with
    |none=>
     rw[hq]at L;simp[bind_assoc,pure_bind]
     first
      |calc Va (Vp L (λx aj aa=>Va Q69) λ_ _ z=>z)
      |calc Va (Vp L (λx aj aa=>Va (Veb (Va Q69))) λ_ _ z=>z)
    |some g'=>
     rw[hq]at L;calc Xs L λha hf L=>?_;simp[ha,show QyI=yw from rfl,Vq,if_false];calc Va (Vp L (λx aj aa=>Va (Veb (Va (Vhi (hf x) (Va (Ul (Vp aa (λan ac ab=>?_) λ_ _ z=>z))))))) λ_ _ z=>z);calc Va (wpAny_runOwn ?_);rw[hm];calc Ver ab λr am ah=>?_;cases r with
     |ok f=>calc Vd ⟨rfl,ah⟩|error e=>calc ah.elim
def Xs8{Qbp}
  (L:UL7 QfG R s)
  (h:Qcq (Veo it) (λit' s'=>UL7 (.compLoop QF3 d it' acc env) R s') Qt s):
  Vc1 QCw (UaF UC8) R s:=by
 let hc:∀b,clausesOf (cE b UkI)=gens:=λb=>by cases b<;>rfl
 cases k
 all_goals
  calc codeAny_of_tree ?_;show QXq ((compStart _ UC8).onRaise (λx=>do noteFrame x env;standAt theWindowsPlace)) Qlr;calc wpAny_notedAt ?_;unfold compStart;simp[hc,hg,Option.elim,show QyI=yw from rfl,Vq,if_false];calc Va (Veu (wpAny_ite ?_));split
  ·first
    |exact Va (Vd (Ub6))|exact Ub6
  ·calc Va QcV;calc Va (Veb (Va (Vp h (λit' s' h'=>Vd (And.intro rfl h')) λ_ _ x=>x.elim)))
universe e
section
variable{QPp}
theorem DTs{QMl}(ifs:LX){QMm}:Prop:=
 ∀(pc:LA) (s:Vc) (σ:L2.St) (H:Hp) (ρ:LR) (S:Sto) (env:En) (b:Bool) (S':Sto) (Q:Bool->Vc->Prop) (E:VP),Q2s->Q8u=UuH ->
  (∀s' H' ρ',QLy->QSv->Q b s')->Q4s (Xm1 ifs X.env) Qeq
def Xh7{M:Model}{A:Uq}{env:Vbs}{s:Vc}{Qfh}{Qro}(h:UHK):∀ifs:LX,
  Vf M A (forIn ifs yw λc r=>if r=yx then do let ok <- U0B;pure Qyd else UwF) Qeq
 |[]=>UrG|c::r=>by rw[Vdi];simp[Vq,if_false];calc Va (Vd (Xh7 h r))
def X2z:DTs X [] (λ_ S=>UsH):=by intro pc UiF L;cases h;calc Vd (L s H ρ I .refl)
def Xyk{cs:LX}{fc:En->Sto->R D}{Qqp}{Qok}(hr:DTs X cs g):
  DTs X (c::cs) (λenv S=>QhE.bind λx S=>match X6 S x with|some yx=>Qpw|some yw=>UtH|none=>.bad):=by
 intro pc UiF hQ;dsimp at h;cases q:UHC with
 |bad=>rw[q]at h;cases h|ex QVw=>rw[q]at h;cases h|ok UaA=>
  rw[q]at h;simp[Rk0]at h;unfold Xm1;rw[Vdi];simp[if_true];cases t:Qtv with
  |none=>rw[t]at h;cases h|some r=>
   rw[t]at h;calc Va (Va (hc.ok I Ql1 λs2 H2 aa I2 L=>Vd ?_));cases r with
   |true=>calc hr Ub2 aa QDx b S' Q E I2 h λs3 H3 ab I3 ac=>hQ s3 H3 ab I3 (L.trans ac)|false=>cases h;calc Xh7 (hQ s2 H2 aa I2 L) cs
def Mon.trans{Qck}{ρ' ρ'':LR}{H' H'':Hp}{Qjh}(y:Mon UtE):U14 ρ'' H H'':=
 ⟨λn a h=>UpF,λa xs h=>UoF,λa o u h=>UjB⟩
def Xs9:∀(is:LN) (ds:LD) (env:En),i ∉ is->QM8[i]?=env[i]?:=by
 intro is;induction is with
 |nil=>intro ds env _;simp!|cons j js ih=>
  intro ds UfA;cases ds with
  |nil=>simp!|cons d ds=>simp[Vi0,Vcg];rw[ih ds _ (λz=>L (V1 _ z)),Vbh QQ1]
def Xqc{t:Tg}{d:D}{env env':En}(h:Uy9=yz env'){Qfi}(hi:i ∉ slots t):env'[i]?=env[i]?:=by
 cases t with
 |var j=>simp[X3,Vt]at h;subst h;let:j≠i:=λz=>hi (by simp![slots,z]);rw[Vbh this]|tup is=>
  cases d with
  |tup ds=>
   simp[X3]at h;split at h;·cases h;exact Xs9 is ds env hi
   ·cases h|_=>cases h
theorem Xgi:Type:=LR->Hp->LD->Prop
theorem Xjh{Quk}{QFp}(AR:Xgi):Prop:=∀(ρ ρ':LR) (H H':Hp) (L:LD),AR QVq L->Da ∉ ρ->Ud5->Da ∉ ρ'/\AR Q4r L
abbrev LstA{Quk}{QFp}:Xgi:=fun ρ H L=>∃vs,H Da=Uq4/\RDs Qat L vs
theorem Xdy{Q4n}(AR:Xgi)(Y:Cx){QFp}{QPi}(cpos:Pos)(d:Nat){QVj}:Prop:=
 ∀(pc:LA) (s:Vc) (σ:L2.St) (H:Hp) (ρ:LR) (S S':Sto) (env:En) (aa L:LD) (H0:Hp) (ρ0:LR) (P:Vc->Prop),UQ7 σ Qgq->Da ∉ ρ->AR QVq aa->H0 Da=yy->QAu ρ H0 H ->
  body env aa S=.ok L S'->(∀s' ab H' ρ',UQ7 ab QCr S' env->Da ∉ ρ'->AR Q4r L->U04->Q1x->P s') ->
  Xkq Uf0 P s
def Stp.out{Qck}{Qei}{Da:Addr}{o:HO}{Qqh}(L:H Da=Qkq)(hn:Da ∉ ρ):Da ∉ ρ'/\H' Da=Qkq:=
 ⟨λhm=>(st.new Da hm).elim hn (λz=>by rw[L]at z;cases z),st.keep Da o L hn⟩
def LstA.ok{QSm}:Xjh K Da (LstA K Da):=fun ρ ρ' H H' acc ⟨vs,h,r⟩ hn st=>⟨QgU.1,vs,QgU.2,r.mono st⟩
inductive ClI(Y:Cx)(pc:LA){QFp}(AR:Xgi){QKk}(f:En->LD->Sto->R LD)(ρ ρ0:LR)(H H0:Hp){QAn}(accf:LD)(Sf:Sto){QEj}{Qmm}:Prop
 |mk (i:Nat) (σ':L2.St) (H':Hp) (ρ':LR) (S':Sto) (env':En) (acc':LD) (h1:UQ7 UAI) (h2:UBJ) (h3:∀b∈fp,UB9=yy) (h4:Ur3 Q4r UB6) (h5:Q1x) (h6:U04) (h7:Da ∉ ρ') (h8:AR Q4r acc') (h9:∀i,i ∉ slots t->env'[i]?=env[i]?) (h10:Xak QGr f n i env' acc' S'=Q6x)
section
variable{Qen}{QPk}{QHk}{f:En->LD->Sto->R (LD)}{pc:LA}{H H0:Hp}{ρ ρ0:LR}{Sf S7:Sto}{env env6:En}{accf acc7:LD}{Qho}{s5:Vc}
def X1b{s7:Vc}{aa:L2.St}{H7:Hp}{L:LR}(T:Q0t){Q4q}(ac:∀i,i ∉ slots t->env6[i]?=env[i]?)(ab:Xak QGr f UOB=Q6x)
  (I7:S0 Y Qj1 aa H7 s7 L S7 env6) (ag:Ur3 L H7 UB6) (ae:ULF H7) (ai:QAu L H0 H7) (ah:Da ∉ L) (af:AR L H7 acc7):∃m,m<n+1/\ClI Y pc Da AR Qor f Q4t m s7:=by
 calc⟨n,Vcm _,i+1,aa,H7,L,S7,env6,acc7,Qiv,UAH λb hb o e=>Qh1.1,λb hb=>?_,ag,ae,ai,ah,af,ac,ab⟩;calc Xa QoN λo e _=>?_;calc Qh1.2.1
def X20{Qyl}{elt:Expr}{QOk}{Qjk}{S3:Sto}{aa:LD}{s6:Vc}{af:L2.St}{H3 H5:Hp}{L:LR}(hA:Uf3)(hT:UnH ifs tf)(hB:U7F)(h0:H0 Da=yy)
  (T:Q0t) (t5:UyE) (ao:Ur3 L H3 UB6) (ac:Stp Y.K L L H3 H5) (aw:QAu L H0 H3) (al:ULF H3) (aq:Da ∉ L) (ap:AR L H5 aa) (aj:∀i,i ∉ slots t->env6[i]?=env[i]?) (I6:S0 Y Qj1 af H5 s6 L S3 env6) (e7:U5B aa S3=.ok acc7 S7)
  (ag:UI7 UOB=Q6x):
  Vf Q98 Y.A (Xm1 ifs Y.env) (λok s'=>if ok=yx then Xkq Uf0 (λs'=>∃m,m<n+1/\ClI Q9w m s') s' else ∃m,m<n+1/\ClI Q9w m s') Qt s6:=by
 unfold Xa3 at e7;cases e8:tf env6 S3 with
 |bad=>rw[e8]at e7;cases e7|ex m S8=>rw[e8]at e7;cases e7|ok b8 S8=>
  rw[e8]at e7;simp[Rk0]at e7;calc hT Qj1 s6 af H5 L S3 env6 b8 S8 _ _ I6 e8 λs8 H8 an I8 ab=>?_;calc Xi (hA Uu1 ap aq ab) λah am=>?_;let ae:=aw.trans QgD;let ai:Ur3 an H8 UB6:=ao.mono QgD;cases b8 with
  |false=>rw[iN0 Ue]at e7 |-;cases e7;calc UAF I8 ai QbM ae ah am|true=>rw[iP0 rfl]at e7 |-;calc hB Qj1 s8 af H8 an S8 S7 env6 aa acc7 H0 ρ0 _ I8 ah am h0 ae e7 λs9 ax H9 ay I9 av ar au ak=>UAF I9 (ai.mono' ak) (QbM.trans ak) au av ar
universe e
def Xvn{Qyl}{Qen}{elt tg iter:Expr}{QOk}{QHk}{Qjk}
  {pc:LA} {σ:L2.St} {H H0:Hp} {s:Vc} {ρ ρ0:LR} {S Sf:Sto} {env:En} {ac accf:LD} {P:Vc->Prop} (hA:Uf3) (hc:Y.calm=yx) (hg:gens[d]?=yz Qw1)
  (T:Q0t) (hG:DG Y tg t) (hT:UnH ifs tf) (hB:U7F) (h0:H0 Da=yy)
  (I:UQ7 σ Qgq) (t0:tn 0 s.heap) (f0:∀b∈fp,Xcb Y pc H b) (sr:Ur3 QVq UB6) (hn:Da ∉ ρ) (ha:AR QVq ac) (st0:QAu ρ H0 H)
  (hr:UI7 Q64 0 env ac S=Q6x)
  (hP:∀s' ae H' ρ' env',UQ7 ae QCr Sf env'->(∀i,i ∉ slots t->env'[i]?=env[i]?)->Da ∉ ρ'->AR Q4r accf->U04->Q1x->P s'):
  Vc1 Q98 Y.A (.compStart UqA) QP8 s:=by
 let aa:Vc1 Q98 Y.A (.compLoop UqA) QP8 s:=by
  let L:∀ {H':Hp},QRC->∀b∈fp,Xcb Y pc H' b:=λhn b hb=>⟨hn UQB,Qcb.2⟩;calc Xvm hg rfl (ClI Q9w) ?_ Q64 ⟨0,σ,H,ρ,S,env,ac,I,t0,λb hb=>Qcb.1,sr,Stp.refl.toMon,st0,hn,ha,λ_ _=>rfl,hr⟩;rintro n s3 ⟨i,σ3,H3,ρ3,S3,env3,acc3,I3,t3,fr3,sr3,mo3,st3,hn3,ha3,hs3,eq3⟩;cases n with
  |zero=>cases eq3|succ n=>
   simp[Xak]at eq3;cases g1:Uu4 with
   |none=>rw[g1]at eq3;cases eq3|some o=>
    rw[g1]at eq3;cases o with
    |none=>cases eq3;exact thn (T.done Y rfl rfl rfl hc Qmr Q4R) λr s4 zz=>?_;exact UZC λhr I4=>?_;subst hr;exact hP s4 σ3 H3 ρ3 env3 QAO hs3 hn3 ha3 st3 mo3|some dd=>
     dsimp at eq3;calc Xi QPT λgo yl=>?_;calc thn (T.item Y rfl rfl rfl hc Qmr go) λr s4 zz=>?_;calc Xa zz λu hr h4=>?_;subst hr;calc thn h4 λ_ s5 zz=>?_;calc Xaw zz λx H5 I5 r5 y5 t5 ag=>?_;calc Xs QeW λaj ab ak=>?_;let ai:=I5.pinned (L ag) QtT;cases e6:X3 t dd env3 with
     |none=>rw[e6]at eq3;cases eq3|some env6=>
      rw[e6]at eq3;dsimp at eq3;calc hG UP4 dd x u env6 _ _ ⟨ai,aj,I3.er.mono ab⟩ e6 ak r5 λs6 al I6=>?_;calc Xi (hA Uu1 ha3 hn3 ab) λ_ ah=>?_;cases e7:U5B acc3 S3 with
      |bad=>rw[e7]at eq3;cases eq3|ex m S7=>rw[e7]at eq3;cases eq3|ok acc7 S7=>rw[e7]at eq3;dsimp at eq3;let af:∀i,i ∉ slots t->env6[i]?=env[i]?:=λi hi=>(Xqc e6 hi).trans (hs3 i hi);exact X20 hA hT hB h0 T t5 sr3 ab st3 mo3 hn3 ah af I6 e7 eq3
 calc Xs8 hg aa (T.self Y.A 0 s _ _ t0 aa)
def Xmi(hg:gens[d+1]?=yy)(he:DE Y elt fe):
  Xdy yw (LstA Y.K Da) Y Da Q1r cpos d (λenv acc S=>(fe QKq).bind λy S=>if (lg acc)<big then .ok (acc++[y]) S else .bad):=by
 intro pc UoA af H0 ρ0 P I hn ⟨vs,hD,ra⟩ h0 st0 hb hP;unfold Xkq;rw[hg];dsimp at hb |-;cases q:fe QKq with
 |bad=>rw[q]at hb;cases hb|ex QVw=>rw[q]at hb;cases hb|ok y S1=>
  rw[q]at hb;simp[Rk0]at hb;split at hb
  ·rename_i hz;cases hb;exact U35 λu s1 v H1 ab I1 rv rd L=>?_;exact Xi (L.out hD hn) λac aa=>?_;let ae:QJ2<V6:=by rw[<-ra.length];exact Uj hz Xi9
   exact mtd (X:=Y) (Q':=λz H'=>z=.non/\H'=UqF) Xma I1.inv (show U2K from rfl) (U0I) ⟨Da,vs,v,rfl,rfl,aa,ae,rfl,rfl⟩ λw s2 z H2 J rz zz=>?_;exact UZC λe1 e2=>?_;subst e1 e2;let mo:Mon Y.K ab ab H1 (UqF):=Mon.own aa;exact hP s2 σ _ ab ⟨J,I1.sr.own aa ac,I1.er.mono' mo⟩ ac ⟨vs++[v],Xp,(UBB (ra.mono L)).append (.cons (UJD rd) .nil)⟩ ((st0.trans L).own h0 aa) ⟨λn a h=>L.pre n a h,λa xs h=>mo.tup URB (L.tup URB h),λa o u h=>mo.frz a o u (L.frz a o u h)⟩
  cases hb
def Xvo{Qyl}{AR:Xgi}(hA:Uf3)(hc:Y.calm=yx)
  (hg:gens[d+1]?=yz ⟨tg2,iter2,ifs2,0⟩) (hi:DI Y tg2 iter2 fi) (hs:∀x,Vce iter2 Y.env x=Uw4) (hG:DG Y tg2 t2) (hT:UnH ifs2 tf) (hB:Xdy Qlu QxF body):
  Xdy Qlu d (λenv acc S=>if Xuz t2 env then QY6.bind λsrc S=>Xak src.get t2 Q23 Q64 0 env acc S else .bad):=by
 intro pc UoA ap H0 ρ0 P I hn ha h0 st0 L hP;unfold Xkq;rw[hg];dsimp at L |-;split at L
 ·rename_i ah;calc⟨rfl,hs,?_⟩;cases q:Uh8 with
  |bad=>rw[q]at L;cases L|ex QVw=>rw[q]at L;cases L|ok UKB=>
   rw[q]at L;simp[Rk0]at L;exact Vp Qp9 (λv s1 h1=>Vp h1 (λar s2 h2=>?_) λ_ _ z=>z) λ_ _ z=>z;·rw[q]at z;exact UY6 λm S2 e z=>?_;cases e
   ·let⟨an,S2,it,fp,tn,J,H2,aq,e1,rfl,I2,T,t0,f2,ai,aj,aa⟩:=h2;rw[q]at e1;cases e1;exact Xi (hA Uu1 ha hn aa) λaf ac=>?_;exact Xvn (ρ0:=ρ0) (H0:=H0) hA hc hg T hG hT hB h0 (U1E aj aa) t0 f2 ai af ac (st0.trans aa) L λs' ab H' ρ' ao I' am ag ak ae al=>?_;calc hP s' ab Qcw ⟨I'.inv,I'.sr,QBO⟩ ag ak ae (aa.toMon.trans al);·let h1:=I.er.len;let h2:=I.inv.len;let h3:=I'.inv.len;omega
    ·by_cases hi:i∈slots t2;·let z:=U6.mp ah i hi;rw[e]at z;cases z
     ·exact I'.er.val i d ((am i hi).trans e)
 ·cases L
universe e
abbrev hid(own:LS)(y:Str):Str:=if own.contains y then Vai "0" ++ y else y
abbrev Xbl(N own:LS):LS:=N.map (hid own)++own
structure ScOk(outer sc:U2)(N own:LS):Prop where
 kind:sc.kind=.function
 okind:outer.kind=.function
 nd:QbY.Nodup
 cel:∀y∈sc.names,y.2=.cell->y.1∈own
 apart:∀y∈sc.names,y.2=.free->y.1 ∉ own
 free:∀y∈sc.names,y.2=.free->outer.names.lookup y.1=Qsr\/outer.names.lookup y.1=Qjt
 loc:∀y,sc.names.lookup y=Q2r->y∈own
 names:∀x∈sc.names,x.2=.local->sc.names.lookup x.1=Q2r
 hidn:∀y∈N,own.contains y=yx->Ux6=yy
section
variable{QTp}
abbrev blk{Qui}{Q7k}:Cx:=
 { X with N:=Xbl X.N own,s₀:=s,H₀:=H,env:=compEnvC sc L C X.env,outer:=X.stack,stack:=X.stack,ex:=fp,fn:=λx=>UE2,pn:=X.pn++pc}
def Xdz{names:U59}(h:names.lookup x=yz k):(x,k)∈names:=Vc2 h
def Xqd{L:UZ0}(h:L.lookup x=QFv):Qle∈L:=Vc2 h
def Xc5(sc:U2){Qql}(x:Str):(relabel sc env).names.lookup x=QFN.map λk=>if (k == .free&&env.scope.kind == .function&&Qky==Qsr)=yx then .cell else k:=by
 unfold relabel;dsimp;induction sc.names with
 |nil=>rfl|cons y r ih=>
  let⟨n,k⟩:=y;show List.lookup x ((if QH6=yx then (n,NameKind.cell) else Q0f)::_)=_;by_cases hx:x==n
  ·let e:=eq_of_beq hx;subst e;by_cases hc:(k==Vhl&&env.scope.kind == .function&&Qky==Qsr)=yx;·rw[iP0 hc,Var,beq_self_eq_true,Var,beq_self_eq_true];exact Qqw (iP0 hc).symm
   ·rw[iN0 hc,Var,beq_self_eq_true,Var,beq_self_eq_true];exact Qqw (iN0 hc).symm
  let L:Q2b=false:=by simpa using hx
  by_cases hc:QH6=yx;·rw[iP0 hc,Var,L,Var,L];exact ih
  ·rw[iN0 hc,Var,L,Var,L];calc ih
def X65{own:LS}{cl:UZ0}{fp:LR}{m:Str->OV}{Qlj}{Qdi}
  (ag:∀x c,Qrw=QFv->Qu4\/(x∈own/\C<c/\s4.heap.IsCell c yy)) (am:∀x y c,Qrw=QFv->cl.lookup y=QFv->x=y) (ai:∀x,QAr=Qsr\/sc.names.lookup x=Qjt->∃c,Qrw=QFv)
  (ah:Da=s.heap.objs.size) (hC:C=s.heap.objs.size+1) (aq:s4.os=s.os) (ak:s4.gens=s.gens) (keep:∀b o,QWq=Qkq->s4.heap.get? b=Qkq)
  (ax:s4.heap.Ns C m) (al:Qxr QFF s4.heap Da u) (ao:∀b∈fp,b<s.heap.objs.size):
  Inv Qp [] QP7 QFF s4:=by
 let hD:H Da=none:=by rw[ah];exact UT2
 let ar:H C=none:=by rw[hC];exact I.hok.fresh QPH
 let av:C≠Da:=by rw[hC,ah];exact Vca QgS
 let aa:∀b,b<s.heap.objs.size->b≠C/\b≠Da:=λb hb=>⟨by rw[hC];calc Uf Q4e,by rw[ah];calc Uf hb⟩;let ae:∀x c,QYq=QFv->c<s.heap.objs.size:=λx c e=>by exact Xd QuI λv q=>?_;exact q.lt
 calc⟨⟨I.ok.mod,so.kind,I.ok.glob,I.ok.blt,?_,?_,?_,?_,I.ok.hd,I.ok.frames,.inl rfl,?_,I.bs,?_,?_,?_,I.stack,I.stkFree⟩,aq,?_,?_,?_,?_,?_,?_,?_,?_,?_⟩;·show s.heap.objs.size<=C;rw[hC];exact Vc6 _
 ·exact am
 ·intro x hx;let af:(QQr).names.lookup x=Qsr\/(QQr).names.lookup x=Qjt:=hx;rw[Xc5]at af;cases e:QAr with
  |none=>rw[e]at af;simp! at af|some k=>
   rw[e]at af;let hk:k=.cell\/k=.free:=by
    exact Xj af Qv3 λh=>?_
    ·simp[U7,Vt]at h;split at h;·rename_i hc;simp[bA0,beq_iff_eq]at hc;exact .inr hc.1.1
     ·exact Qfv
    simp[U7,Vt]at h;split at h;·cases h
    ·exact Qzy
   exact ai x (hk.elim (λz=>.inl QuX) λz=>.inr QuX)
 ·intro x c h e;let hx:x∈own:=by simpa using (show UE2=yx from h)
  rcases ag x c e with⟨z,_⟩|⟨_,z,_⟩;·exact aB0 hx z
  ·show s.heap.objs.size<=c;rw[hC]at z;exact Vc3 QbS
 ·intro b hb;calc⟨(aa b QEH).1,λx c h=>?_⟩;rcases ag x c h with⟨_,z⟩|⟨_,z,_⟩;·exact QY9.2.2.2.2.1 x c z
  ·rw[hC]at z;exact Vca (Ves QEH QbS)
 ·exact UC1 I.sz
 ·intro b o e hb;exact Xj (QY9.2.2.2.1) Qh0 λz=>?_;·exact I.ok.noex Qps z
  ·exact aB0 (Uj QJB (UC1 z)) QtE
 ·intro b hb hm;exact Xj (Vv.mp (UI3 hm)) Qh0 λz=>?_;·exact QY9.2.1 z
  ·exact QY9.2.2.1 z
 ·rw[ak];exact I.bare
 ·calc⟨λb o e _ _ _=>U7G,λb o e _ _ _=>⟨o.slots,U7G⟩,λb o e n _=>?_,λb o e _=>⟨o,U7G⟩,λb xs e=>?_,λb o u e=>?_,λb ps e=>?_⟩;·show QLt Da _ b=yy;rw[Xg (aa b QJB).2];exact n
  ·rw[Xg QPS];exact e
  ·rw[Xg QPS];exact e
  rw[Xg QPS];exact e
 ·calc⟨m,ax,λi x v h1 h2 h3=>?_⟩;let hi:i<X.N.length:=by
   by_cases hi:i < σ.length;·rw[I.len]at hi;exact hi
   ·rw[U3 Q0,Vdq]at h2;split at h2<;>cases h2
  let L:QSV[i]?=QJu:=h1;unfold Xbl at L;rw[Vx QY0,Ur]at L;rw[Vx (by rw[I.len];calc hi)]at h2;cases ey:X.N[i]? with
  |none=>rw[ey]at L;cases L|some y=>
   rw[ey]at L;simp[U7,Vt]at L;let au:Vis (QQr) x:=h3;let ap:=so.loc;let aj:x ∉ own:=λhm=>by let nd:=so.nd;unfold Xbl at nd;rw[Vdm]at nd;exact nd.2.2 x (V0.mpr ⟨y,Uc ey,L⟩) x hm rfl
   let ab:QAr=Qjt:=by
    let:(QQr).names.lookup x=Q2r\/(QQr).names.lookup x=Qsr\/(QQr).names.lookup x=Qjt:=au;rw[Xc5]at this;cases e:QAr with
    |none=>rw[e]at this;simp! at this|some k=>
     cases k with
     |free=>rfl|«local»=>calc aB0 (ap x e) aj|cell=>calc aB0 (so.cel _ (Xdz e) rfl) aj|_=>rw[e]at this;simp! at this
   let aw:x=y:=by
    unfold hid at L;split at L;·rename_i hc;let z:=so.hidn y QtY hc;rw[L,ab]at z;cases z
    ·exact L.symm
   subst aw;exact Xd (ai x (.inr ab)) λc hc=>?_;let ay:=((ag x c hc).resolve_right λz=>aj z.1).2;let kx:=so.free QBN (Xdz ab) rfl;exact UlG λm0 az hl=>?_;exact Xa (UAG ey h2 (kx.elim (λz=>UyH) λz=>.inr Q8W)) λu ru lk=>?_;exact⟨u,ru,.inr ⟨?_,c,hc,?_⟩⟩
   ·show(QQr).names.lookup x=Qsr\/(QQr).names.lookup x=Qjt;rw[Xc5,ab];simp[U7];split;·exact .inl rfl
    ·exact .inr rfl
   exact Xd9 lk (λk _=>?_) λ_ c' an ac=>?_;·let k':QNu=Q2r:=k;rcases kx with z|z<;>(rw[k']at z;cases z)
   ·rw[ay]at an;cases an;exact⟨_,U5C _ ac.choose_spec.1,ac.choose_spec.2⟩
 ·intro x c h;rcases ag x c h with⟨_,z⟩|⟨_,_,z⟩;·exact Xf (Q6v z) λv o ho hd=>?_;exact⟨v,o,U5C _ ho,hd⟩
  ·exact⟨yy,z⟩
 ·show QLt Da _ C=yy;rw[Xg av];exact ar
 ·intro x c h;rcases ag x c h with⟨_,z⟩|⟨_,z,_⟩;·rw[Xg (aa c (ae x c z)).2];exact I.freeC x c z
  ·rw[hC]at z;rw[Xg (by rw[ah];calc Vca QbS)];exact I.hok.fresh (Vc3 QbS)
 ·intro p hp;rw[Vcy]at hp;let⟨e,n,ne,nf,d⟩:=QWy;calc⟨U5C _ e,?_,QwZ.1,λhm=>?_,d⟩;·rw[Xg QwZ.2];exact n
  ·exact Xj (Vv.mp (I.stkSub _ hm)) Qh0 λz=>?_;·exact ne z
   ·exact nf z
 ·intro b o e;by_cases hb:b=Da;·subst hb;rw[Xp]at e;cases e;exact al
  ·rw[Xg hb]at e;exact(I.hok Qps).stay (λc v _ q=>U5G q) (λc q=>by rw[Xg Qqb];calc q) λc xs _ q=>by rw[Xg Qqb];exact q
 ·show QP7.length=QSV.length;unfold Xbl;simp![I.len]
def X21{Qdi}(J:Inv Qp [] σ' H' s'):
  Inv UYB s':=
 I.call' J.os J.base J.hok J.bare λb L=>⟨QjB.2.2.2.1,QjB.2.1,QjB.2.2.2.2.1,QjB.2.2.2.2.2⟩
def Xgj:∀(names:U59) (n:Nat) (L:UZ0),Vb5 n names L=Vb5 n names []++L
 |[]=>λ_ _=>rfl| (x,k)::r=>λn L=>by
  unfold Vb5;split;·rw[Xgj r QW9 ((x,n)::L),Xgj r QW9 [(x,n)],Ug];rfl
  ·calc Xgj r n L
def Xoc:∀(names:U59) (n:Nat),Qle∈Vb5 n names []->(x,.cell)∈names
 |[]=>λ_ h=>nomatch h| (y,k)::r=>λn h=>by
  unfold Vb5 at h;split at h
  ·rename_i L;rw[Xgj]at h;exact Uu9 λh=>?_;·exact UN7 (Xoc r QW9 h)
   ·let e:=V3.mp h;cases e;rw[eq_of_beq L];exact V4
  calc UN7 (Xoc r n h)
def X22 {M:Model}{sc:U2}{g:Addr}{cl:UZ0}{q:Str}{env:Vbs}{R:Vbs->Vc->Prop}(h:R {scope:=sc,locals:=s.heap.objs.size,globals:=g,cells:=Vb5 QZ sc.names cl,qual:=q,func:=yy,code:=env.code,frame:=env.frame,builtins:=env.builtins} {s with heap:=pushCells QZP sc.names}):
  Vf M A (newFunctionEnv sc g cl [] q yy .none (yz env)) R E s:=by
 simp[newFunctionEnv,Option.isSome_some,if_true];calc Va (wpAny_alloc ?_);calc Va (wpAny_layCells _ (λname kind cells=>by cases L:kind==NameKind.cell<;>simp![L]) Q5s ?_);rw[show({s with heap:=s.heap.push Q40 }:Vc).heap.objs.size=s.heap.objs.size+1 from Va2 ..];calc Va (by rw[Vg0];calc Vd (UrG))
def Xmj{Qyl}{AR:Addr->Xgi}{ar:U93}{oA:Obj}{uA:Addr->HO}(hA:∀Da,Xjh X.K Da Qzf)(br:∀(A:Uq) (E:VP) (s:Vc) (Q:VP),UsD {s with heap:=s.heap.push oA}->Vf Q1 A ar Qeq)(bu:oA.isFreed=yw)
  (bh:∀(H:Hp) (h:Heap) (a:Addr),QFr=yz oA->Qxr H h a QIg) (bq:∀a ρ (H:Hp),H a=yz QIg->AR a QVq [])
  (hc:X.calm=yx) (so:UD1) (bn:QMO=n) (hg:gens=Qw1::gens.tail) (hi:Ue1) (hs:∀x,Qdv=Uw4)
  (hG:∀pc s H cl C fp,USA) (hT:∀pc s H cl C fp,UB4) (hB:∀pc s H cl C fp Da,Xdy k Qzf Qst)
  (I:Q2s) (q:Uh8=.ok UKB) (hr:QMu=Q6x)
  (hQ:∀s' H' ρ' Da C m,Qts Sf env->QSv->Da ∉ ρ'->H Da=yy->AR Da Q4r accf->s'.heap.Ns C m->(∀x c,QYq=QFv->c≠C)->C≠X.env.locals->H' C=yy->(∀ah ai H'' h',QXv ai H'' ah->H'' C=yy->Vba C ah.heap h'->QXv ai H'' {ah with heap:=h' }) ->
   compPost QTq E use Q Q47 C QdH s'):
  Vf QTq (Qoy ar yw QjE use) Qeq:=by
 let ay:∀x∈sc.names,x.2=.free->∃c,UX4=QFv:=λx hx hf=>by
  exact Xj QXP Qh0 λz=>?_;·exact Qev QUK
  ·exact Qev Q8W
 exact Xe (Xjg ay) λcl av ba be=>?_;calc Qtw av UcF ?_;exact QQw Qp9 (λv s1 h1=>Vp h1 (λbz s2 h2=>?_) λ_ _ z=>z.elim) λ_ _ z=>z.elim;·rw[q]at z;exact UY6 λk S2 e z=>?_;cases e
 ·let⟨bx,S2,it,fp,tn,J,H2,al,e1,rfl,I2,T,t0,f2,bt,aw,am⟩:=h2;rw[q]at e1;cases e1;let J2:=U1E aw am;calc br Q5s (X22 ?_);dsimp;generalize ax:s2.heap.push oA=L;let hC:L.objs.size=s2.heap.objs.size+1:=by rw[<-ax,Va2]
  let below:∀b,b<s2.heap.objs.size->b≠L.objs.size:=λb hb=>by rw[hC];exact Uf Q4e
  let ag:=cellsFrom_ok sc.names QRB QSB [] ⟨λ_ _ hm=>(nomatch hm),Vef⟩ (by rw[Va2];calc UX0);rw[Va2]at ag;obtain⟨m1,ac⟩:∃m1,(pushCells (L.push Q40) sc.names).Ns L.objs.size m1:=by exact Yd ((Heap.Ns.new ..:QRB.Ns L.objs.size _)) λo es ep ho rest=>?_;exact⟨_,o,es,ep,pushCells_keeps Q5s ho,rest⟩
  let a0:∀b o,UeH=Qkq->(pushCells QRB sc.names).get? b=Qkq:=λb o e=>pushCells_keeps _ _ b o QaG;generalize pushCells QRB sc.names=aa at ag ac a0 |-;let bb:∀b o,s2.heap.get? b=Qkq->aa.get? b=Qkq:=λb o e=>a0 b o (ax▸Qyw);let bf:aa.get? s2.heap.objs.size=yz oA:=a0 _ _ (ax▸Um3 bu);let ab:∀x c,Qle∈Vb5 QSB UbA->x∈own/\L.objs.size<c/\aa.IsCell c none:=λx c hm=>⟨so.cel _ (Xoc _ _ hm) rfl,Q0Q.2,Q0Q.1⟩;let two:∀x c,Qty=QFv->Qle∈Vb5 QSB UbA\/Qu4:=λx c h=>by
   rw[Xgj,List.lookup_append,Option.or_eq_some_iff]at h;exact Xe6 h Qv3 λ_ h=>?_;·exact .inl (Xqd h)
   ·exact .inr ⟨so.apart _ QsZ.2 rfl,QsZ.1⟩
  let ak:∀x c,Qty=QFv->Qu4\/(x∈own/\L.objs.size<c/\aa.IsCell c yy):=λx c h=>(two x c h).elim (λz=>.inr (ab x c z)) .inl;let ae:∀x c,QYq=QFv->c<L.objs.size:=λx c e=>by exact Xd (I2.cell x c e) λv z=>?_;rw[hC];exact Va3 z.lt
  let aq:∀x y c,Qty=QFv->Qf1.lookup y=QFv->x=y:=λx y c h1 h2=>by
   rcases two x c h1 with a|⟨_,a⟩<;>exact Xe6 (two y c h2) (λb=>?_) λ_ b=>?_
   ·exact name_of_addr ag.apart a b
   ·exact aB0 (ae y c b) (Nat.lt_asymm (ab x c a).2.1)
   ·exact aB0 (ae x c a) (Nat.lt_asymm (ab y c b).2.1)
   exact I2.ok.inj x y UhE
  let aj:∀x,QAr=Qsr\/sc.names.lookup x=Qjt->∃c,Qty=QFv:=λx h=>Vep.mp (UsJ _ cl (h.imp id λz=>by
   exact Xd (be QBN (Xdz z) rfl) λc hc=>?_
   calc Vep.mpr ⟨c,hc⟩))
  generalize Vb5 QSB sc.names cl=ap at ak aq aj two |-;let ao:∀b∈fp,b<s2.heap.objs.size:=λb hb=>by exact Xa (T.obj _ _ t0 UQB) λo e _=>?_;exact UZ6
  let af:H2 s2.heap.objs.size=none:=I2.hok.fresh Qa;let a7:s2.heap.objs.size ∉ al:=λhm=>by exact Xa (aw.mem hm) λw hw _=>?_;rw[af]at hw;cases hw
  generalize bc:({s2 with heap:=aa}:Vc)=s4;let IY:Inv UnE:=by subst bc;exact X65 so I2 f2 ak aq aj rfl hC rfl rfl bb ac (bh QLq bf) ao
  let az:QIy al al H2 QC1:=Stp.upd af;let SY:S0 UnE al S1 Qw:=by
   calc⟨IY,aw.upd af,⟨by simp![J2.er.len,bn],λi d e=>?_⟩⟩;let hi:i<Uc8:=by
    by_cases hi:i<Uc8;·exact hi
    ·rw[U3 Q0,Vdq]at e;split at e<;>cases e
   rw[Vx hi]at e;exact Xa (J2.er.val i d e) λv h1 h2=>?_;exact⟨v,by rw[Vx (by rw[<-J2.er.len];calc hi)];calc h1,h2.mono az⟩
  let t4:tn 0 s4.heap:=by subst bc;exact T.keep 0 _ _ t0 λb hb o e=>bb Qps
  let fY:∀b∈fp,Xcb QJ4 [] QC1 b:=λb hb=>by
   exact Xag (f2 UQB) λa1 a2 a3 a4 a5 a6=>?_;exact⟨by rw[Xg (Uf QEH)];calc a1,below b QEH,λhm=>?_,.inl hb,λx c h=>(ak x c h).elim (λz=>a5 x c z.2) (λz=>Vca (Ves (by rw[hC];calc Va3 QEH) z.2.1)),λp hp=>?_⟩
   ·exact Xj (Vv.mp (I2.stkSub b hm)) Qh0 λz=>?_;·exact a2 z
    ·exact a3 z
   rw[Vcy]at hp;exact a6 p hp
  exact Ver (Xvn (hA s2.heap.objs.size) (Y:=blk QZw s2 H2 sc ap L.objs.size own fp) (H0:=H2) (ρ0:=al) (P:=compPost QTq E use Q (.ref s2.heap.objs.size) L.objs.size QdH) hc (by rw[hg];rfl) T (hG QLq QLq) (hT QLq QLq) (hB UnA) af SY t4 fY (bt.mono az) a7 (bq QLq Xp) az hr
   λs' b0 H' ρ' bw I' _ bj bv a8 _=>?_) λr s' h=>?_
  ·let JX:=X21 I2 f2 I'.inv;let bd:H' L.objs.size=none:=I'.inv.free;let bg:s2.heap.objs.size<=L.objs.size:=by rw[hC];exact Vc6 _
   exact Xa I'.inv.loc λm' bp _=>?_;let fo:=I2.fpOk (H':=H') bg bd;let bo:Us7=none:=by
    cases e:Us7 with
    |none=>rfl|some o=>
     by_cases hm:s2.heap.objs.size∈ρ;·let⟨k,hk,ek⟩:=Vb9.mp hm;exact aB0 (Uc (am.pre k _ (by simp![hk,ek]))) a7
     ·rw[am.keep _ o e hm]at af;cases af
   exact hQ s' Qcw s2.heap.objs.size L.objs.size m' ⟨JX,I'.sr,I.er.mono Q9V⟩ Q9V bj bo bv bp fo.2.2.2.2.1 (λz=>fo.2.1 z) bd λah ai H'' h' bm au a9=>?_;let an:Xcb QZw H'' L.objs.size:=⟨au,fo.2⟩;exact bm.turned (t':=ah.toks) (λb o hb e=>(a9.2 UQB).trans e) au an.2.1 an.2.2.2.1 an.2.2.2.2.1 an.2.2.2.2.2
  cases r with
  |ok f=>cases use<;>calc h|error e=>calc h.elim
universe e
def Xfu{QVi}{Q3i}:∀(k i:Nat) (env:En) (L:LD) (S:Sto) (n:Nat) (S':Sto),Xak QKu k i UfA S≠Qdu
 |0=>λi env L S n S'=>λz=>nomatch z|k+1=>λi env L S n S'=>by
  simp[Xak];cases get S i with
  |none=>exact λz=>nomatch z|some o=>
   cases o with
   |none=>exact λz=>nomatch z|some d=>
    dsimp;cases X3 t d env with
    |none=>exact λz=>nomatch z|some aa=>
     dsimp;cases body aa L S with
     |ok a S1=>calc Xfu k Qq1 aa a S1 n S'|ex _ _=>calc λz=>nomatch z|bad=>calc λz=>nomatch z
section
variable{QTp}
def SR.adopt{QSm}{Qfo}{QYk}{QPh}(hn:Da ∉ ρ)(hD:H Da=Uq4)(rd:Qwr QQt):UF1 QPZ Qg0 H:=by
 let L:U14 QPZ H H:=QO6;calc⟨r.tab,by simp![r.len],?_,λn a ob h1 h2=>?_⟩;·rw[Vdm];calc Ql5;rw[V3.mp hy];exact λz=>hn QSU
 ·by_cases hk:n < ρ.length;·rw[Vx hk]at h1;rw[Vx (by rw[<-r.len];calc hk)]at h2;exact QGN.mono' L rfl
  ·let e:n=lg ρ:=by
    let:=QnB.1;simp! at this;omega
   subst e;simp! at h1;rw[r.len]at h2;simp! at h2;subst h1 h2;calc⟨vs,hD,RDs.mono' L _ _ rd⟩
def Stp.adopt{QSm}{Qei}{Qqh}(L:H Da=yy):Qot QrX H H' where
 pre:=λn a h=>by let z:=st.pre n a h;rw[Vx (Vk.mp z).1];exact z
 tup:=st.tup
 frz:=st.frz
 new:=λa h=>by
  exact Uu9 λh=>?_;·exact st.new a h
  ·rw[V3.mp h];exact .inr L
 keep:=st.keep
variable{elt:Expr}{gens:List Vb1}{sc:U2}{cpos:Pos}{tg iter:Expr}{ifs:LX}{own:LS}{t:Tg}{Qoi}{fi:En->Sto->R Src}{Qjk}
abbrev Xkr(fi:En->Sto->UJH)(t:Tg){QEj}(tf:En->Sto->UZ5){QVj}{QAn}{QIh}:R D:=
 QY6.bind λsrc S=>(UI7 Q64 0 Qw [] S).bind λL S=>Qvq QiV
def Xrf{Qyl}{ab:U93}{use:Option (Vb->Sem Unit)}{Qjl}{Qlj}{Qti}
  (I:Q2s) (q:Uh8=.ex m S1) (hE:∀x s',XPd Qur m S1 Uk6->E Uk6):
  Vf QTq (Qoy ab yw QjE use) Qeq:=by
 let aa:∀x∈sc.names,x.2=.free->∃c,UX4=QFv:=λx hx hf=>by
  exact Xj QXP Qh0 λz=>?_;·exact Qev QUK
  ·exact Qev Q8W
 exact Xe (Xjg aa) λcl L ag ac=>?_;calc Qtw L UcF ?_;exact Vp (UBC E I Qm λx s' z=>?_) QN3 λ_ _ z=>z;·rw[q]at z;exact UY6 λk S2 e z=>?_;cases e;exact QWt z
 ·let⟨ae,S2,_,_,_,_,_,_,e1,_⟩:=h2;rw[q]at e1;cases e1
def Xrg (A:Uq)(E:VP)(s:Vc)(Q:VP)(h:UsD {s with heap:=s.heap.push QW7 }):Vf Q1 A QmW Qeq:=Vad h
def Xvp {Qdo}{Qxn}(e:QFr=yz QW7):Qxr H h a (.lst []):=⟨U2A,[],0,.nil,e⟩
def X66{QLh}{Qlj}(ac:QMO=n){Qti}
  (hG:∀pc s H cl C fp,USA) (hT:∀pc s H cl C fp,UB4) (hB:∀pc s H cl C fp Da,Uv9 Qst):
  DE X QQ4 (Xkr fi t n tf body):=by
 intro pc Qks;let ab:QPw=UIC:=by rw[hg];rfl
 let aa:Uu0=false:=by rw[hg];rfl
 rw[eval_ListComp,ab,aa];unfold Xkr at L |-;cases q:Uh8 with
 |bad=>rw[q]at L;cases L rfl|ex m S1=>exact U41 λx s' z=>⟨m,S1,rfl,z⟩|ok UKB=>
  rw[q]at L;simp[Rk0]at L |-;cases q2:QMu with
  |bad=>rw[q2]at L;cases L rfl|ex m S2=>calc aB0 q2 QaN|ok accf Sf=>calc Qit QqR Xrg rfl Xvp QoF hc so ac Uh4 λs' H' ρ' Da C m I' st' hn' h0 QHT hns hcells hCl hCn back=>?_;calc⟨m,hns,λh' ae=>?_⟩;calc .mk (v:=.ref Da) (UEJ) (back s' σ H' h' I'.inv hCn ae) rfl ?_ (U74);simp[RD];calc QNC
def X23{Qfi}(hN:X.N.Nodup)(af:X.N[i]?=QJu)(hx:QNu=Q2r)(ah:Vgr QQ4 (yz QdF) spos.line X.env=pure yx)
  (hc:X.calm=yx) (so:UD1) (ag:QMO=n) (hg:gens=Qw1::gens.tail) (hi:Ue1) (hs:∀x,Qdv=Uw4)
  (hG:∀pc s H cl C fp,USA) (hT:∀pc s H cl C fp,UB4) (hB:∀pc s H cl C fp Da,Uv9 Qst):
  DS X (.Assign QOZ QQ4 spos) yw (λenv S=>Q3I.bind λd S=>match X3 QA0 d env with|some env=>QLr|none=>.bad):=by
 intro pc Qks;dsimp at L |-;let ae:QPw=UIC:=by rw[hg];rfl
 let ab:Uu0=false:=by rw[hg];rfl
 rw[exec_Assign_Name_used _ _ _ _ ah];calc Va (Veb QrY);show Vf _ X.A (do let _ <- comprehension QQ4 sc X.env QZ9 QmW (Uu0) (QPw) (yz QYO)) Qlr;rw[ae,ab];calc Va (Vp (Q:=λ_ s'=>OkS Qur yw (Q3I.bind λd S=>match X3 QA0 d env with|some env=>QLr|none=>.bad) .next s') ?_ (λ_ s' hq=>Vd (Vd hq)) λ_ _ z=>z);unfold Xkr at L |-;cases q:Uh8 with
 |bad=>rw[q]at L;cases L rfl|ex m S1=>exact U41 λx s' z=>QEu rfl|ok UKB=>
  rw[q]at L;simp[Rk0]at L |-;cases q2:QMu with
  |bad=>rw[q2]at L;cases L rfl|ex m S2=>exact aB0 q2 QaN|ok accf Sf=>
   exact Qit (use:=yz QYO) QqR Xrg rfl Xvp QoF hc so ag Uh4 λs' H' ρ' Da C m I' st' hn' h0 QHT hns hcells hCl hCn back=>?_;show Vf _ X.A (assign QdF X.env Q47) USB;calc Vja (Xl2 I'.inv hN af Qac (show U2K from rfl) (λs2 I2 aa=>?_) QYc);exact Xa aa λad aa ai=>?_;let ac:ad≠C:=by
    exact Xj ai Qh0 λz=>?_;·rw[z];exact Ne.symm hCl
    ·exact hcells x ad z
   calc⟨m,hns.sameBut aa (Ne.symm ac),λh' aj=>?_⟩;let J:=back s2 _ H' h' I2 hCn aj;calc⟨.nx (QQx (yz (.ref Sf.length))),Sf++[.lst accf],rfl,rfl,_,H',ρ'++[Da],⟨J,U74,?_⟩,UEJ,λz=>nomatch z⟩;let mo:Mon X.K ρ' QrX H' H':=QO6;calc(I'.er.mono' mo).set i ?_;simp[RD];calc QNC
universe e
section
variable{QTp}
theorem BlR{QMl}(k:Bl)(f:Vb):Prop:=
 ∀(pc:LA) (s:Vc) (σ:L2.St) (H:Hp) (ρ:LR) (S:Sto) (env:En) (ds:LD) (vs:LW) (us:LV) (E:VP),Q2s->Uy3->QWs->URC≠.bad ->
  Vf QTq QTN (QXt (URC)) E s
def RDs.one{Qck}{d:D}{Qfo}(h:Qwr [d] vs):∃v,vs=[v]/\RD QFs:=by simp[RDs]at h;calc U02 λv r aa h1 L=>?_;subst aa L;calc QPW
def RDs.two{Qck}{d e:D}{Qfo}(h:Qwr [d,e] vs):∃v u,vs=Qce/\RD QFs/\RD Qat e u:=by simp[RDs]at h;calc Xbv h λv r ab h1 u r' L h2 aa=>?_;subst ab L aa;calc⟨v,u,rfl,h1,h2⟩
def Yb9:UX2 .len QCG:=by
 intro pc Qbv;match ds,rd,L with
 |[],_,L=>cases L rfl|_::_::_,_,L=>cases L rfl|[d],rd,L=>
  exact Qyu λv aa r1=>?_;subst aa;let go:∀xs,Qpy=QLu->Q4s (call QCG us) (QXt (Up1)) E s:=λxs h=>by exact Xc (I.seq h r1) λa ws aa hq hr=>?_;subst aa;exact Xg8 (Q':=λz H'=>z=.int ws.length/\H'=H) Xnk U92 ⟨a,ws,rfl,hq,rfl,rfl⟩ λw s' z H' J rz zz=>?_;exact UZC λe1 e2=>?_;subst e1 e2;exact Xd rz λt aa=>?_;subst aa;rw[<-hr.length];exact QBy J
  cases d with
  |str _=>cases L rfl|tup xs=>exact go xs rfl|fro xs=>exact go xs rfl|ref n=>
   simp[Yc,Xo]at L |-;cases e:Qys with
   |none=>rw[e]at L;cases L rfl|some xs=>calc go xs e
  |non=>cases L rfl|bl _=>cases L rfl|int _=>cases L rfl|fn _ _=>cases L rfl|edc=>cases L rfl
def X24:UX2 .tuple Qk4:=by
 intro pc Qbv;match ds,rd,L with
 |[],_,L=>cases L rfl|_::_::_,_,L=>cases L rfl|[d],rd,L=>
  calc Qyu λv aa r1=>?_;subst aa;simp[Yc]at L |-;cases e:Qpy with
  |none=>rw[e]at L;cases L rfl|some xs=>
   dsimp;exact Xc QQX λa ws aa hq hr=>?_;subst aa;exact UYC λhq=>?_;·exact Xg8 (Q':=λz H'=>∃p,H p=yy/\z=Qyy/\H'=UhD (.tup ws)) Xf9 U92 ⟨a,ws,rfl,.inl ⟨hq,λl hl=>QqQ⟩⟩ λw s' z H' J rz zz=>?_;exact Xe zz λp hp e1 e2=>?_;subst e1 e2;cases rz;exact Xd3 UM8
   ·calc Xg8 (Q':=λz H'=>z=QYr/\H'=H) Xf9 U92 ⟨a,ws,rfl,.inr ⟨hq,rfl,rfl⟩⟩ λw s' z H' J rz zz=>?_;calc UZC λe1 e2=>?_;subst e1 e2;calc .mk UP6 rz ?_ I.sr;simp[RD];calc⟨a,ws,rfl,hq,hr⟩
def X67:UX2 .list Q2U:=by
 intro pc Qbv;match ds,rd,L with
 |[],_,L=>cases L rfl|_::_::_,_,L=>cases L rfl|[d],rd,L=>
  calc Qyu λv aa r1=>?_;subst aa;simp[Yc]at L |-;cases e:Qpy with
  |none=>rw[e]at L;cases L rfl|some xs=>dsimp;calc Xc QQX λa ws aa hq hr=>?_;subst aa;calc Xg8 (Q':=λz H'=>∃p,H p=yy/\z=Qyy/\H'=UhD Q6T) Xnl U92 ⟨a,ws,rfl,hq,λl hl=>QqQ⟩ λw s' z H' J rz zz=>?_;calc Xe zz λp hp e1 e2=>?_;subst e1 e2;cases rz;calc Xan UM8
def Xde:∀ {xs:LD} {bs:Q4v},Yl xs=yz bs->xs=bs.map D.bl
 |[],ns,h=>by simp[Yl,Vt]at h;subst h;rfl|.bl i::r,ns,h=>by simp[Yl,Up]at h;calc UW4 λms h1 L=>?_;subst L;rw[Xde h1];rfl|.non::_,_,h=>by simp![Yl]at h|.int _::_,_,h=>by simp![Yl]at h|.str _::_,_,h=>by simp![Yl]at h|.tup _::_,_,h=>by simp![Yl]at h|.ref _::_,_,h=>by simp![Yl]at h|.fro _::_,_,h=>by simp![Yl]at h|.fn _ _::_,_,h=>by simp![Yl]at h|.edc::_,_,h=>by simp![Yl]at h
def Xvq(bs:Q4v)(f:Nat->Bool)(h:∀i,f i=Uh7):(Ud Q3f).all f=bs.all id:=by
 rw[Vd6,U6,U6];constructor;·intro q UQB;let⟨i,hi,rfl⟩:=Vb9.mp hb;let:=q i QY0;rw[h i]at this;simpa [hi] using this
 ·intro q i hi;let L:i<lg bs:=by simpa using hi
  rw[h i];simp[L,getElem?_pos,Vf3];calc q _ (Vdx L)
def X1c{Qck}:∀ {bs:Q4v} {vs:LW},Qwr Q7V vs->vs=bs.map V.bl
 |[],vs,h=>by simp[Vf1,RDs]at h;calc h|n::ns,vs,h=>by simp[Vf1,RDs]at h;calc U02 λv r L h1 h2=>?_;subst L;simp[RD]at h1;subst h1;rw[X1c h2];rfl
def S0.its{Qzg}{QLm}(rd:Q6s Q81 v){Q2n}:∃a vs its,u=QYr/\s.heap.IsList Qxq/\RDs QEs/\Vals vs its/\QJ2<=V6:=by calc Xx (I.lstR h rd) λa vs L h1 h2 h3=>?_;subst L;cases rv;calc Xe (I.inv.list (.of h2)) λits r p hz=>?_;calc⟨a,vs,its,rfl,p.isList,h3,r,hz⟩
def Xod{QKp}{QMo}(hq:UY9\/s.heap.IsTuple Qxq)
  (h:∀I fp wr St L,Walks Qfq A I fp wr Qn3 (λi v=>its[i]?=UA2) St->St 0 L.heap->(∀b∈fp,b<L.heap.objs.size) ->
   (∀h' tk,(∀b o,b ∉ wr->U54=Qkq->Qqq=Qkq)->({L with heap:=h',toks:=tk}:Vc)=QO/\∀b o,QWq=Qkq->Qqq=Qkq)->Q (UFE) L):
  Vf QCw QYV Qeq:=by
 let aa:∀ {o:Obj},∀h' tk,(∀b ob,b ∉ QQE->(QvH:Vc).heap.get? b=UW9->Qqq=UW9)->({ (QvH:Vc) with heap:=h',toks:=tk}:Vc)=QO/\∀b ob,QWq=UW9->Qqq=UW9:=
  λ{o} h' tk hk=>⟨rfl,λb ob e=>hk b ob (by simp!;calc Uf QJB) QaG⟩
 let ab:∀ {o:Obj} (ha:a<s.heap.objs.size),∀b∈[s.heap.objs.size,a],b<(s.heap.push o).objs.size:=λ{o} ha UQB=>by
  rw[Va2];simp! at hb;rcases hb with rfl|rfl;·exact Vcm _
  ·exact Va3 ha
 exact UYC λhq=>?_;·let ha:a<s.heap.objs.size:=UJ7;calc Vfo hq ?_;let W:=Walks.list QBw;simp[Vn,Vhv]at W;exact Ug8
 ·let ha:a<s.heap.objs.size:=UJ7;calc Vgs hq ?_;let W:=Walks.tuple QBw;simp[Vn,Vhv]at W;calc Ug8
def S0.seqI{Qnl}{Q6h}:∃a vs its,u=QYr/\(UY9\/s.heap.IsTuple Qxq)/\RDs QEs/\Vals vs its/\QJ2<=V6:=by
 exact Xc (I.seq h rd) λa vs aa L hr=>?_;subst aa;cases rv;exact UcG λL=>?_;·exact Xe (I.inv.list L) λits r p hz=>?_;exact⟨a,vs,its,rfl,.inl p.isList,hr,r,hz⟩
 ·calc Xe (I.inv.tuple L) λits r p hz=>?_;calc⟨a,vs,its,rfl,.inr p,hr,r,hz⟩
def X25{Qfi}{v:Vb}:∀ {bs:Q4v} {its:LV},Vals Q6V its->its[i]?=UA2->v=.bool (Uh7):=λ{bs its} hv e=>by
 let hl:i<lg bs:=by let h1:=hv.length;let h2:=QjL.1;simp! at h1;omega
 calc Xa (hv.get (i:=i) (x:=.bl bs[i]) Q3X) λu h1 h2=>?_;rw[e]at h1;cases h1;simp![hl];calc h2
def Yca{QLh}:UX2 .all (.builtin "all"):=by
 intro pc Qbv;match ds,rd,L with
 |[],_,L=>cases L rfl|_::_::_,_,L=>cases L rfl|[d],rd,L=>
  calc Qyu λv aa r1=>?_;subst aa;simp[Yc]at L |-;cases e:Qpy with
  |none=>rw[e]at L;cases L rfl|some xs=>
   rw[e]at L;simp[U0]at L |-;cases e2:Yl xs with
   |none=>rw[e2]at L;cases L rfl|some bs=>
    dsimp;let q:=Xde e2;subst q;cases rv with
    |cons ru rr=>
     cases rr;exact Xk Q4G λa ws its aa hl hr hv hz=>?_;subst aa;let hw:=X1c hr;subst hw;let ab:Qn3=lg bs:=by rw[<-hv.length];simp!
     calc call_all_walk (Xod QJ7 hl λIt fp wr St ae W st hf ac=>?_);calc⟨It,fp,wr,_,_,St,λi=>Uh7,rfl,W,st,λi v s' Q' E' hP hQ=>?_,λh' tk hk=>?_⟩;·rw[X25 hv hP];exact Vcd hQ
     ·calc Xi (ac h' tk hk) λe3 k3=>?_;rw[e3,ab,Xvq bs _ λ_=>rfl];calc Xy I.sr QwS
def Xir{Qfi}{v:Vb}{Qnn}{QKp}(L:UwG its)(e:its[i]?=UA2):∃t,v=.int ((ns[i]?).getD 0) t:=by
 let hl:i<UY3:=by let h1:=L.length;let h2:=QjL.1;simp! at h1;omega
 calc Xa (L.get (i:=i) (x:=.int ns[i]) Q3X) λu h1 h2=>?_;rw[e]at h1;cases h1;simp![hl];calc h2
def X68{QLh}{Qml}:Q4s (call QM7 [v',u']) (QXt (Yc .max Q92 S)) E s:=
 Xg8 (Q':=λz H'=>z=.int (if j>i then j else i)/\H'=H) (Xuu hc) I.inv Q5U QsM λw s' z H' J rz QV8=>by subst e1 e2;calc Xd rz λt L=>?_;subst L;calc QBy J
def X69{QLh}{i j:Int}{v' u':Vb}{Qml}:Q4s (call QBG [v',u']) (QXt (Yc .min Q92 S)) E s:=
 Xg8 (Q':=λz H'=>z=.int (if j<i then j else i)/\H'=H) (Xuv hc) I.inv Q5U QsM λw s' z H' J rz QV8=>by subst e1 e2;calc Xd rz λt L=>?_;subst L;calc QBy J
def Xvr{k:Bl}{QKj}(hk:k=.max\/k=.min)(L:URC≠.bad):∃i j,ds=Q92:=by
 rcases hk with rfl|rfl
 ·simp[Yc]at L;split at L;·exact QE6
  ·cases L rfl
 simp[Yc]at L;split at L;·exact QE6
 ·cases L rfl
def Ycb{QLh}:UX2 .max QM7:=by
 intro pc QIq Qhq nb;calc Yy (Xvr Q10 nb) λi j L=>?_;subst L;calc Xc rd.two λv u L r1 r2=>?_;subst L;simp[RD]at r1 r2;subst r1 r2;cases rv with
 |cons ru rr=>cases rr with
  |cons aa rr=>cases rr;calc X68 hc I ru aa
def Ycc{QLh}:UX2 .min QBG:=by
 intro pc QIq Qhq nb;calc Yy (Xvr Q0F nb) λi j L=>?_;subst L;calc Xc rd.two λv u L r1 r2=>?_;subst L;simp[RD]at r1 r2;subst r1 r2;cases rv with
 |cons ru rr=>cases rr with
  |cons aa rr=>cases rr;calc X69 hc I ru aa
def Xh8(ns:LI):∀k,k<UY3->Qf5.getD 0=(ns.take QB3).tail.foldl max QnQ
 |0=>λh=>by
  cases ns with
  |nil=>simp! at h|cons n r=>simp![argBest]
 |k+1=>λh=>by
  let ih:=Xh8 ns k Q0;simp[argBest];let ht:(ns.take (k+1+1)).tail=QsJ.tail++[ns[k+1]]:=by
   rw[Vev h];cases ns with
   |nil=>simp! at h|cons n r=>simp!
  rw[ht,Vfp];simp[Vcg,List.foldl_nil];generalize hm:Vgx max QnQ QsJ.tail=m at ih |-;let h1:QbZ.getD 0=ns[k+1]:=by simp![h]
  split;·rename_i hc;let L:=oD0 hc;rw[ih,h1]at L;rw[h1];omega
  ·rename_i hc;let L:¬ (QbZ.getD 0>Qf5.getD 0):=λz=>hc QQO;rw[ih,h1]at L;rw[ih];omega
def X7a{QLh}{QMp}{Qzg}{Q6h}(nb:Yc .mxl QSt≠.bad):Q4s (call QM7 [u]) (QXt (Yc .mxl QSt)) E s:=by
 simp[Yc]at nb |-;cases e:Qpy with
 |none=>rw[e]at nb;cases nb rfl|some xs=>
  rw[e]at nb;simp[U0]at nb |-;cases e2:Us9 with
  |none=>rw[e2]at nb;cases nb rfl|some ns=>
   rw[e2]at nb;cases ns with
   |nil=>cases nb rfl|cons n ns=>
    dsimp;let q:=Ys e2;subst q;exact Xk (I.seqI e Qby) λa ws its L hl hr hv hz=>?_;subst L;let hw:=hr.ints_of;subst hw;let aa:Qn3=QuJ.length:=by rw[<-hv.length];simp!
    calc call_max_walk (Xod QJ7 hl λIt fp wr St ac W st hf ab=>?_);calc⟨It,fp,wr,_,_,St,λi j=>decide ((QuJ[i]?).getD 0>(QuJ[j]?).getD 0),rfl,W,st,hf,by rw[aa];simp!,λi j vi vj s' Q' E' hi hj hQ=>?_,λv' h' tk hP hk=>?_⟩;·exact Xd (Xir hv hi) λt L=>?_;subst L;exact Xd (Xir hv hj) λt' L=>?_;subst L;exact gt_int hQ
    ·exact Xd (Xir hv hP) λt L=>?_;subst L;exact Xi (ab h' tk hk) λe3 k3=>?_;rw[e3];let:=Xh8 QuJ (Ub8-1) (by rw[aa];simp!);rw[this,aa];simp[U5,Nat.add_sub_cancel,Va9 (Vj QuJ.length),List.tail_cons];let e5:List.take (UY3+1) QuJ=n::ns:=by simp!
     rw[e5];calc QBy QwS
def Ycd{QLh}:UX2 .mxl QM7:=by
 intro pc Qbv;match ds,rd,L with
 |[],_,L=>cases L rfl|_::_::_,_,L=>cases L rfl|[d],rd,L=>calc Qyu λv aa r1=>?_;subst aa;calc UP5 λu aa ru=>?_;subst aa;calc X7a hc I r1 ru L
theorem MtD{QMl}(k:Mt)(id:String):Prop:=
 ∀(pc:LA) (s:Vc) (σ:L2.St) (H:Hp) (ρ:LR) (S:Sto) (env:En) (d:D) (v:V) (u:Vb) (ds:LD) (vs:LW) (us:LV) (E:VP),Q2s->US1->QNr->Uy3->QWs->Xap k Qcy≠.bad ->
  Vf QTq (call Q22 QDN) (QXt (Xap k Qcy)) E s
def Xks{Qoi}{QZh}{QYk}{Qfo}{s':Vc}{QMp}{Qzg}(ha:ρ[n]?=QIx)(hv:H a=yz Q6T)(J:Qvr QeU s')(rd:QDs QQt){Q2n}(L:US1):
  OkP Qur (Qrt (QKy Qx0)) UJB:=by
 let nf:∀o u,H a≠QWu:=λo u z=>by rw[hv]at z;cases z
 let st:QCs QeU:=QKt (o:=.lst xs) UM0;calc .mk st J rv (L.mono st) (Qiu ⟨vs,Xp,rd.mono st⟩)
def Xyl:MtD X .append "list.append":=by
 intro pc Qey aa ac L;cases d with
 |ref n=>
  match ds,aa,L with
  |[x],aa,L=>
   calc Xa aa.one λy ab r1=>?_;subst ab;simp[Xap]at L |-;cases e:QAy with
   |none=>rw[e]at L;cases L rfl|some xs=>
    rw[e]at L;dsimp at L |-;split at L;·rename_i hz;rw[iP0 hz];exact UaJ λa ws ab ha hv hr=>?_;subst ab;exact mtd (Q':=λz H'=>z=.non/\H'=Ud7 (.lst (ws++[y]))) Xma U92 ac ⟨a,ws,y,rfl,rfl,hv,by rw[<-hr.length];calc Uj hz Xi9,rfl,rfl⟩ λw s' z H' J rz zz=>?_;exact UZC λe1 e2=>?_;subst e1 e2;exact Xks I ha hv J (hr.append (.cons r1 .nil)) rz QD1
    ·cases L rfl
  |[],_,L=>cases L rfl|_::_::_,_,L=>cases L rfl
 |_=>cases L rfl
def Yce:MtD X .xtd "list.extend":=by
 intro pc Qey ag ai nb;cases d with
 |ref n=>
  match ds,ag,nb with
  |[x],ag,nb=>
   calc Xa ag.one λy aa r1=>?_;subst aa;simp[Xap]at nb |-;cases e:QAy with
   |none=>rw[e]at nb;cases nb rfl|some xs=>
    rw[e]at nb;dsimp at nb |-;cases e2:UUC with
    |none=>rw[e2]at nb;cases nb rfl|some ys=>
     rw[e2]at nb;dsimp at nb |-;split at nb
     ·rename_i hz;rw[iP0 hz];exact UaJ λa ws aa ha hv hr=>?_;subst aa;cases rv;exact UpC λu2 aa ak=>?_;subst aa;exact Xk (I.seqI e2 r1 ak) λb zs ab aa hs hq r2 ap=>?_;subst aa;let al:(lg ws)+Q7y<=V6:=by rw[<-hr.length,<-hq.length];exact Uh hz Xi9
      let⟨z,its,c,aj,hl,eo⟩:=I.inv.lstM hv;obtain⟨T,hT,o2,e2,ac,n2,ae⟩:∃T:String,(T="tuple" \/ T="list")/\∃o2,QWq=yz o2/\o2.cls=.type T/\∃n2,o2.data=.seq ab.toArray n2:=by
       rcases hs with⟨o2,e2,ac,n2,ae⟩|⟨o2,e2,ac,n2,ae⟩;·exact⟨_,.inr rfl,o2,e2,ac,n2,ae⟩
       ·exact⟨_,.inl rfl,o2,e2,ac,n2,ae⟩
      let ao:=r2.length;let ah:its.toArray.size+ab.toArray.size<=V6:=by rw[Vn,Vn];omega
      let af:¬ (!its.toArray.isEmpty&&Veq (its.toArray.size+ab.toArray.size))=true:=by rw[Xnm ah,Vem];exact Ue
      calc Uy F.slot_list_extend ⟨_,eo,rfl⟩ F.entry_list_extend ?_ (F.args_list_extend_2 _ _);show QXq (Vb6 Qe QRe .none) Qlr;unfold Vb6;calc Va (Vc4 (T:=T) ⟨o2,e2,ac⟩ ?_);rw[iP0 (by rcases hT with rfl|rfl<;>calc(Bool.or_assoc _ _ _).trans (Bool.or_true _))];calc Va (Vew e2 ae (Va (Vew eo rfl ?_)));rw[iN0 af];calc Va (Vec eo rfl (Vd QL4) Q8A (by rw[Array.size_append];omega));exact Xks I ha hv (I.inv.lset (its':=its++ab) hv eo Q9 (aj.append r2) (by rw[Vw];calc al)) (hr.append hq) (show RelV .non Vay from rfl) QD1
     cases nb rfl
  |[],_,nb=>cases nb rfl|_::_::_,_,nb=>cases nb rfl
 |_=>cases nb rfl
universe e
section
variable{QUh}{a b c e:Expr}{fa fb fc:En->Sto->R D}{Q4l}
def X1d{QKh}:Qjv (UbF a pos) (λenv S=>Qo.bind λx S=>match x with | .int i=>.ok QgH S|_=>.bad):=by
 intro pc Qks;dsimp at L |-;cases q:Uv2 with
 |bad=>rw[q]at L;cases L rfl|ex QVw=>exact UnaryOp_ QJ5|ok UaA=>
  rw[q]at L;simp[Rk0]at L |-;calc UnaryOp_ (QOx λu s1 v H1 ac I1 rv rd ab=>?_);cases x with
  |int i=>simp[RD]at rd;subst rd;calc UA0 λt aa=>?_;subst aa;calc neg_int (UIA (Yz I1.sr (I1.inv.tok _)))|_=>cases L rfl
def X7b{Qok}{Qpk}(hb:DT X b QKD):
  DT X Q8P (λenv S=>tst (QhE.bind λx S=>match X6 S x with|some yx=>Uv2|some yw=>Ui8|none=>.bad)):=by
 intro pc Qks;dsimp at L |-;show QXq (do if <- isTrue c X.env QZT then isTrue a X.env QEC else isTrue b X.env QDC) Qlr;cases q:UHC with
 |bad=>rw[q]at L;cases L rfl|ex QVw=>exact Va QkB|ok UaA=>
  rw[q]at L;simp[Rk0]at L |-;cases t:Qtv with
  |none=>rw[t]at L;cases L rfl|some r=>
   rw[t]at L;calc Va Qo5;cases r with
   |true=>calc Vp QX6 Q50 λx s' z=>QHt|false=>calc Vp QW6 Q50 λx s' z=>QHt
abbrev Xa0(L o2:Co)(fa fb fc:En->Sto->R D){QAn}{QIh}:R D:=Qo.bind λx S=>Q74.bind λy S=>match Xbi L QUs with
  |some yx=>QhE.bind λz S=>U71|some yw=>UXH|none=>.bad
def Xoe(ai:UW7){Quh}{Qzg}(nb:UU7≠.bad)
  {W:Vb->Vb->Bool->Vc->Prop} (hE:∀x s',QZt QC0 Uk6->Ev Uk6)
  (hF:∀v u s3 S2 H2 L,UU7=Q0w S2->U19->Uq3 L H H2->W v u yw s3)
  (hT:∀v u s3 S2 y vy H2 L,UU7=(QLY.bind λz S=>U71)->U19->UHD u->RD X.K L H2 y vy->Uq3 L H H2->W v u yx s3):
  Vf QTq QEC (λv s1=>Q4s QDC (λu s2=>Q4s (Va5 (opC o1) v u) (λd s3=>∃r,d=.bool r/\W v u r s3) Ev s2) Ev s1) Ev s:=by
 cases q:Uv2 with
 |bad=>rw[Xa0,q]at nb;cases nb rfl|ex QVw=>exact U45 λx s' z=>QWt ⟨n,S1,by rw[Xa0,q];rfl,z⟩|ok UaA=>
  calc QOx λv s1 vx H1 ak I1 rv rd ac=>?_;cases q2:fb Q0u with
  |bad=>rw[Xa0,q]at nb;simp[Rk0]at nb;rw[q2]at nb;cases nb rfl|ex n S2=>exact hb.ex I1 q2 λx s' z=>QWt ⟨n,S2,by rw[Xa0,q];simp[Rk0];rw[q2];rfl,UP8⟩|ok y S2=>
   exact hb.ok I1 q2 λu s2 vy H2 L I2 ru af ae=>?_
   let eq:UU7=(match Xbi o1 Uc4 with
     |some yx=>QLY.bind λz S=>U71|some yw=>Q0w S2
     |none=>.bad):=by rw[Xa0,q];simp[Rk0];rw[q2];rfl
   cases q3:Xbi o1 Uc4 with
   |none=>rw[eq,q3]at nb;cases nb rfl|some r=>
    let e3:X4 o1 Uc4=Q7x S2:=by unfold X4;rw[q3]
    calc Vp (ai Ub2 L S2 env x y vx vy v u Qt I2 (by rw[e3];calc λz=>nomatch z) (rd.mono ae) rv af ru) (λd s3 z=>?_) λ_ _ z=>z.elim;rw[e3]at z;calc X7 z λd' S3 e4 w H3 ab J3 aj ag ah aa=>?_;cases e4;simp[RD]at ag;subst ag;cases aj;calc⟨r,rfl,?_⟩;let I3:ULD ab S2 env:=I2.step J3 ah aa;cases r with
    |false=>calc hF v u s3 S2 H3 ab Q4X I3 QBJ|true=>calc hT v u s3 S2 y vy H3 ab Q4X I3 ru (af.mono aa) QBJ
def Xof(af:UX7)(hc:Qjv c fc){Qzg}(ru:UHD u)(rd:Q6s y vy)(st0:QIy ρ0 ρ H0 H)
  (nb:QN5≠.bad) (hE:∀x s',U6E ρ0 H0 QN5 Uk6->Ev Uk6)
  (hW:∀r S3 s3 H3 L,QN5=Q7x S3->ULD L S3 env->QIy ρ0 L H0 H3->W Qec s3):
  Vf QTq QZT (λw s1=>Q4s (Va5 (opC o2) u w) W Ev s1) Ev s:=by
 cases q:UHC with
 |bad=>rw[q]at nb;cases nb rfl|ex QVw=>calc hc.ex I q λx s' z=>QWt ⟨n,S1,by rw[q];rfl,z.pre st0⟩|ok z S1=>rw[q]at nb;simp[Rk0]at nb;calc hc.ok I q λw s1 vz H1 ah I1 rv ag aa=>?_;calc UqC λr e1 e2=>?_;calc Vp (af pc s1 σ H1 ah QDx y z vy vz u w Qt I1 nb QHL ru ag rv) (λd s3 zz=>?_) λ_ _ z=>z.elim;rw[e2]at zz;calc X7 zz λd' S3 e4 w' H3 L J3 ai ab ae ac=>?_;cases e4;simp[RD]at ab;subst ab;cases ai;calc hW r S1 s3 H3 L (by rw[q];calc e2) (I1.step J3 ae ac) (st0.trans (aa.trans ac))
def Ycf(ac:UW7)(ab:UX7){Qgk}:
  DE X QCI (Qtr):=by
 intro pc Qyr;exact Compare_chain (Vp (Xoe (W:=λv u r s3=>if r=yx then Q4s (compareChain pos u Q2g QYW) (OkP UcI) (ExP UcI) s3 else QXt QC0 Qpa s3) ac UN4 I nb Q1B ?_ ?_)
  (λv s1 h1=>chain_link Q15) λ_ _ z=>z) hm
 ·intro v UQ9;rw[iN0 Ue,e];exact OkP.pre L (Xy I2.sr I2.inv)
 ·intro v u Ud4 rd L;rw[iP0 rfl];calc chain_last (Xof ab hc I2 ru rd L (by rw[<-e];calc nb) (λx s' z=>by rw[e];calc z) λr S3 s4 H3 af e3 I3 ae=>?_);rw[e,e3];exact OkP.pre ae (Xy I3.sr I3.inv)
 ·subst e;calc Vcd ?_;cases r with
  |true=>rw[iP0 rfl]at w;calc ite_tt w|false=>rw[iN0 Ue]at w;calc ite_ff w
def X7c(af:UW7)(ae:UX7){Qgk}:
  DT X QCI (λenv S=>tst QC0):=by
 intro pc Qyr;dsimp at nb |-;let ab:UU7≠.bad:=λz=>UY8;let ex:∀x s',QZt QC0 Uk6->QZt Q5b Uk6:=λx s' ⟨n,S1,e,z⟩=>⟨n,S1,by rw[e];rfl,z⟩
 exact isTrue_chain (Vp (Xoe (W:=λv u r s3=>if r=yx then Q4s (testChain pos u Q2g QYW) (λb s'=>∃S',tst QC0=UuH/\∃H' ρ',QYt/\SR Qmq/\Stp QSq) (QZt Q5b) s3
   else ∃S',tst QC0=.ok yw S'/\∃H' ρ',Qvr H' s3/\SR Qmq/\Stp QSq) af UN4 I ab ex ?_ ?_)
  (λv s1 h1=>test_link Q15) λ_ _ z=>z) hm
 ·intro v UQ9;rw[iN0 Ue,e];exact⟨S2,rfl,H2,aa,I2.inv,I2.sr,L⟩
 ·intro v u Ud4 rd L;rw[iP0 rfl];calc test_last (Xof ae hc I2 ru rd L (by rw[<-e];calc ab) (λx s' z=>ex Uk6 (by rw[e];calc z)) λr S3 s4 H3 ac e3 I3 ag=>?_);exact Vcd ⟨S3,by rw[e,e3];rfl,H3,ac,I3.inv,I3.sr,ag⟩
 ·subst e;calc Vcd ?_;cases r with
  |true=>rw[iP0 rfl]at w;calc ite_tt w|false=>rw[iN0 Ue]at w;calc ite_ff w
variable{Qil}{p:Pos}{QSh}{k:Bl}{id T:String}
def X7d (hB:UX2 k Q22){Q1o}(hv:Ven x=yz Q22){Qik}
  (he:Quv=Qz9::Qxw) (L:QHw=yw):Qjv Q67 QyB:=by
 intro pc Qyr;dsimp at nb |-;calc Vbj QWG;cases q:Qpw with
 |bad=>rw[q]at nb;cases nb rfl|ex QVw=>calc Vbc QJ5 he L|ok UB8=>rw[q]at nb;calc Vbc Qq9 he L;calc Vp QR8 QxB λ_ _ z=>z.elim
def X7e (hB:UX2 k QxD){Q1o}(hv:Ven x=yz QxD){Qik}
  (he:Quv=Qz9::Qxw) (L:QHw=yw):Qjv Q67 QyB:=by
 intro pc Qyr;dsimp at nb |-;calc Vbj QWG;cases q:Qpw with
 |bad=>rw[q]at nb;cases nb rfl|ex QVw=>calc Vbo QJ5 he L|ok UB8=>rw[q]at nb;calc Vbo Qq9 he L;calc Vp QR8 QxB λ_ _ z=>z.elim
def Ycg (hg:UC9)(hm:Uv8=QIt)(hd:∀ ρ H,∃v,QNr/\RD UG8)(L:Qk=yw):Qjv QpH (λ_ S=>UJ1):=by intro pc Qyr;calc Xa (hd QVq) λv rv rd=>?_;calc Xe3 Qmv (.mk Qwx rv rd I.sr) L
def Xji (slot:Slot "list" name id)(ak:typeOf Q22=pure (.type "method_descriptor"))(hM:MtD X m id)(hr:∀x S,Xb5 m x S=yx->∃n xs,x=Uw5/\lstAt S n=QLu)(ho:Qjv o fo)(ha:DA X QX5 g)
  (ab:U01 name X.env QYT=UUJ)
  (ac:((Vdd cpos (Quv)).all QnG&&(backToKw cpos QlK).all QIP&&decide (QX5.length+QA5.length+(if QA5.isEmpty then 0 else 1)<30))=yx)
  (aa:QdI=yx) (hs:Quv=Qz9::Qxw) (L:(Vdd cpos QdV).any QT=yw):
  DE X (.Call (UoK name apos) QX5 [] cpos) (λenv S=>Ql7.bind λx S=>if Xb5 m x S then Qw6.bind λxs S=>Xap m x xs S else .bad):=by
 intro pc Qyr;dsimp at nb |-;cases q:fo QKq with
 |bad=>rw[q]at nb;cases nb rfl|ex QVw=>exact Q4y rfl (ho.ex I q λx s' z=>Qf0)|ok UaA=>
  rw[q]at nb;simp[Rk0]at nb |-;split at nb
  ·rename_i hk;rw[iP0 hk];exact Xf (hr UaA hk) λn xs ae hx=>?_;subst ae;calc Q4y rfl (ho.ok I q λv s1 vx H1 al I1 rv rd af=>?_);exact Xx (I1.lstR hx rd) λa ws ae k1 k2 k3=>?_;subst ae;cases rv;exact Xe (I1.inv.list Q2W) λits _ pl _=>?_;calc⟨"list",id,PySem.F.plainAttrs_list,slot,ak,pl.isList.typeIs,λb eb=>?_,?_⟩;·cases eb;exact Xx pl λob n' e1 c1 hd _=>?_;exact⟨ob,e1,hd⟩
   ·cases q2:g Q0u with
    |bad=>rw[q2]at nb;cases nb rfl|ex k S2=>let hA:=ha.ex (pos:=cpos) (E:=QZt QaX) (Q:=λus s2=>Q4s Q1K (QXt (.ex k S2)) (QZt QaX) s2) I1 q2 λx s' z=>.mk af z;rw[hs]at hA |-;calc Qxy|ok ds S2=>rw[q2]at nb;simp[Rk0]at nb |-;let hA:=ha.ok (pos:=cpos) (E:=QZt QsE) (Q:=λus s2=>Q4s Q1K (QXt QsE) (QZt QsE) s2) I1 q2 λus s2 vs H2 ah I2 aj ai ag=>Vp (hM Ub2 ah S2 env Q81 Qe Qe Qkr us Qt I2 (rd.mono ag) rfl ai aj nb) (λw s3 z=>z.pre (af.trans ag)) λ_ _ z=>z.elim;rw[hs]at hA |-;exact Qxy
  cases nb rfl
def X7f (ho:Qjv o fo)(ab:U01 "pop" X.env QYT=UUJ)(aa:QdI=yx):
  DE X (.Call (UoK "pop" apos) Ut1 cpos) (λenv S=>Ql7.bind λx S=>Xmz x S):=by
 intro pc Qyr;dsimp at nb |-;calc wpAny_Call_method ab rfl aa PySem.F.plainAttrs_list PySem.F.slot_list_pop PySem.F.type_list_pop (ho.bind I nb rfl (λd S1 u s1 v H1 ah e1 L I1 rv rd ac=>?_) λ_ _ z=>z);rw[e1];cases d with
 |ref n=>
  unfold Xmz at L |-;dsimp at L |-;cases w1:lstM S1 n with
  |none=>rw[w1]at L;cases L rfl|some xs=>
   rw[w1]at L;dsimp at L |-;cases w2:xs[lg xs-1]? with
   |none=>rw[w2]at L;cases L rfl|some y=>
    dsimp;exact Xx (I1.lstR w1 rd) λa ws af ha hv hr=>?_;subst af;cases rv;exact Xe (I1.inv.list QTe) λits _ pl _=>?_;calc⟨pl.isList.typeIs,λb eb=>?_,?_⟩;·cases eb;exact Xx pl λob n' e2 c1 hd _=>?_;exact⟨ob,e2,hd⟩
    ·calc Xa (hr.get w2) λz ae ag=>?_;calc PyProof.Rows.callWith_method0 (mtd (x:=QYr) (xs:=[]) (us:=[]) (Q':=λz' H'=>z'=z/\H'=upd H1 a (.lst ws.dropLast)) X57 I1.inv rfl .nil ⟨a,ws,z,rfl,rfl,hv,by rw[<-hr.length];calc ae,rfl,rfl⟩ λw s' z' H' J rz zz=>UG3 ?_);calc UZC λe4 e5=>?_;subst e4 e5;calc Xks I1 ha hv J (by rw[<-Vir,<-Vir,hr.length];calc hr.eraseIdx _) rz ag
 |_=>cases L rfl
def Xog:∀(ts:LS) (k:Nat) (L:Str),(textFrom k L ts).length<=L.length+piled ts
 |[]=>λk L=>by simp![textFrom,piled]|t::ts=>λk L=>by
  let ih:=Xog ts QB3 (L++(if k>0 then ", " else "" : String)++t);let e:(Vai (if k>0 then ", " else "")).length<=2:=by split<;>decide
  rw[textFrom,piled_cons];simp[Vje]at ih;omega
mutual
def Xoh:∀p:Vcb,p.showable=yx->Xcp p=yx->p.shown.length<=szD p
 |.none=>λ_ _=>by simp[Vfw,szD];decide|.bool b=>λ_ _=>by simp[Vfw,szD];cases b<;>decide|.int i=>λh _=>by
  simp[Vci,decide_eq_true_eq]at h;simp[Vfw,szD,szI];rw[PySem.ofString_length];split;·rename_i c;exact int_text_length_le10 (k:=3) Q2 c
  ·let:=int_text_length_le Q2 h;omega|.str x=>λ_ _=>by simp[Vfw,szD];exact UX0|.list xs=>λh h2=>by
  simp[Vci]at h;simp[Xcp]at h2;let L:=Uw6;simp[Vfw,szD,listText,Vje];let:=Xog QhO 0 "[";let e1:(Vai "[").length=1:=by decide
  let e2:(Vai "]").length=1:=by decide
  omega|.tuple xs=>λh h2=>by
  simp[Vci]at h;simp[Xcp]at h2;let L:=Uw6;simp[Vfw,szD,tupleText,Vje];let e1:(Vai "(").length=1:=by decide
  let e2:(Vai (if QhO.length==1 then ",)" else ")")).length<=2:=by split<;>decide
  let e3:(Str.join ", " QhO).length<=piled QhO:=by
   cases e:Vdj xs with
   |nil=>decide|cons t ts=>let:=join_length_add (t::ts) Q9;omega
  omega|.dict kvs=>λ_ h2=>by
  simp[Xcp]at h2;cases kvs with
  |nil=>simp[Vfw,PyData.shownKv,szD];decide|cons x r=>cases h2
def shownAll_le:∀ps:U34,Vcn ps=yx->dctEs ps=yx->piled (Vdj ps)<=szDs ps
 |[]=>λ_ _=>by simp![Vdj,szDs,piled]|p::ps=>λh h2=>by simp[Vcn,bA0]at h;simp[dctEs,bA0]at h2;let i1:=Xoh p h.1 h2.1;let i2:=shownAll_le ps h.2 h2.2;rw[Vdj,piled_cons,szDs];omega
end
def X7g {QLk}(hg:X.A.guards=Up4){Q9h}:UX2 .repr QfQ:=by
 intro pc Qbv;match ds,rd,L with
 |[],_,L=>cases L rfl|d::_::_,_,L=>cases L rfl|[d],rd,L=>
  calc Qyu λv aa r1=>?_;subst aa;calc UP5 λu aa ru=>?_;subst aa;simp[Yc]at L |-;cases e:Xgd S d with
  |none=>rw[e]at L;cases L rfl|some t=>
   dsimp;unfold Xgd at e;cases e1:U2B d with
   |none=>rw[e1]at e;cases e|some p=>
    rw[e1]at e;dsimp at e;split at e
    ·rename_i hz;simp[bA0,decide_eq_true_eq]at hz;exact Xgb hz λz1 z2 z3 z4=>?_;cases e;exact Xa (Xva I ae e1 r1 ru) λas rr ac=>?_;let ab:p.shown.length<=V6:=Xb8 (Uh (Xoh p z1 z2) z4);let ref:∀a,u=QYr->Q4s (call QfQ [u]) (QXt (.ok (.str p.shown) S)) E s:=λa ea=>by
      subst ea;exact repr_of_reads' rr z1 (λ_=>ac) hg Q0 (λ_ _ q=>q) (λh' u tk hk=>Xjc I.sr (I.inv.kept hk)) ab
     cases rr with
     |none=>exact PySem.P.repr_of_none Q5K|bool b=>exact PySem.P.repr_of_bool (by cases b<;>calc Xjc I.sr Qs)|int i t=>exact PySem.P.repr_of_int (by simpa only[Vci,decide_eq_true_eq] using z1) Q5K|str x t=>exact PySem.P.repr_of_str Q5K ab|_=>exact ref _ rfl
    cases e
def Ych:UX2 .itB QvV:=by
 intro pc Qbv;match ds,rd,L with
 |[],_,L=>cases L rfl|d::_::_,_,L=>cases d<;>cases L rfl|[d],rd,L=>
  calc Qyu λv aa r1=>?_;subst aa;calc UP5 λu aa ru=>?_;subst aa;cases d with
  |bl b=>simp[RD]at r1;subst r1;cases ru;simp[Yc];calc call_int_bool ?_;cases b<;>calc UDK|_=>cases L rfl
def Xgk(x:Int):∀l:LI,Qtb.Perm (x::l)
 |[]=>Uy7|y::r=>by
  simp[Xil];split;·exact Uy7
  ·calc(List.Perm.cons y (Xgk x r)).trans (Vin x y r)
def Xck:∀l:LI,QVS.Perm l
 |[]=>Uy7|x::r=>(Xgk x Qif).trans (List.Perm.cons x (Xck r))
def Xrh(x:Int):∀l:LI,UG2->Qtb.Pairwise QUE
 |[]=>λ_=>by simp![Xil]|y::r=>λh=>by
  let ⟨h1,h2⟩:=Vag.mp h;simp[Xil];split
  ·rename_i e;calc Vag.mpr ⟨λz hz=>?_,h⟩;rcases Vv.mp hz with rfl|hz;·exact e
   ·exact Int.le_trans e (h1 z hz)
  rename_i e;calc Vag.mpr ⟨λz hz=>?_,Xrh x r h2⟩;rcases Vv.mp ((Xgk x r).mem_iff.mp hz) with rfl|hz;·omega
  ·calc h1 z hz
def Xe7:∀l:LI,QVS.Pairwise QUE
 |[]=>Vef|x::r=>Xrh x _ (Xe7 r)
def Xfv{Qvh}:∀ns:LI,Qwr QW Qa1
 |[]=>by simp[Vf1,RDs]|n::ns=>by simp[Vf1,RDs];calc⟨_,_,rfl,by simp[RD],Xfv ns⟩
def Xh9{Q2h}{Qon}{Q8j}{QLn}(hsz:QJ2<=V6)
  (h:Q vs Qk1):Qcq Q1V Qeq:=by
 exact Y9 (id hl) λo ho hc n hd=>?_;unfold collect;calc Va (Vg2 (Vbl entry_proto_collect' ?_));show QXq (do again (Q8v ⟨[<-Uc9,UDE],[]⟩)) Qlr;calc Va (Ved (Vd ⟨UoG,Vbl entry_list_iadd' ?_⟩));show QXq (Vb6 QB QqB QB) _ _ {s with heap:=s.heap.push QK};unfold Vb6;let L:QE.get? l=Qkq:=Qwt ho;calc Va (Uc6 ?_);let ht:(Quw == Quw)=true:=by rfl
 rw[iP0 (by rw[ht];simp!)];calc Va (Vew L hd (Va (Vew UU9 rfl ?_)));rw[iN0 Q9];calc Va (Vec UU9 rfl Q70 Q27 (by show(#[]++vs.toArray).size<=V6+1;simp[Array.size_append,Vn,Vfd];omega));show Qcq QsF Q E Qk1;calc Va (Vgw (Vfe Q25 _) ?_);show QXq (pure QwK.toList) Q E _;rw[show QwK.toList=vs by simp!];calc UrG
def Xta{Q2h}{Qon}{Qnn}{Q:VP}{QLn}(hI:UA1)(ac:QJ2<64)
  (h:∀(out:AV) (L:LI),U8B->L.Perm ns->UNF->Q Q3T {s with heap:=QVt vs out}):Qcq QYC Qeq:=by
 calc QRs ?_;unfold Vbf.«sorted»;calc Q6r (Vd (Va (Xh9 hl QL6 (Va QEX))));let aa:(QOu QC2).objs.size=s.heap.objs.size+1:=by rw[Vex,Vg3]
 let ab:(UAK).get? QZ=yz Qy0:=by rw[<-aa];exact Um3 rfl
 show Vf Uu1 {s with heap:=UAK};rw[aa];calc Va (Ul (Uy Vg4 ⟨_,ab,rfl⟩ Vgj (list_sort_tree ab hI ac λout L a1 a2 a3=>⟨_,rfl,Vd ⟨_,rfl,h out L a1 a2 a3⟩⟩) QXS))
def Xvs{d:D}{Qnn}{Qro}{Qzg}(e:Qpy=yz QW)(hz:QbE<64)(r1:US1){Qwo}:
  Vf QTq (QTx [u]) (QXt QnA) E s:=by
 exact Xk Q4G λa ws its ag hs hr ab af=>?_;subst ag;let hw:=hr.ints_of;subst hw;let hI:=Xbd ab;let ah:Qn3=UY3:=by rw[<-ab.length];simp!
 let fin:∀out L,U8B->L.Perm ns->UNF->QXt QnA Q3T {s with heap:=QVt its out}:=λout L a1 a2 a3=>by
  let ae:L=Xa7 ns:=PySem.W.ksm_same (a2.trans Qmd.symm) a3 (Xe7 ns);subst ae;exact Xd (Uv6 its out) λe3 ac=>?_;let aa:s.heap.objs.size<=s.heap.objs.size+1:=Vc6 _;let J:=I.inv.laid (o:=.lst ((Xa7 ns).map V.int)) (t':=s.toks) (h':=QVt its out) QKG aa
   ⟨by rw[Vg,Qmd.length_eq];simpa using af,out.toList,e3,Xen a1,by simpa [V5] using ac⟩
  exact U9F QVf
 exact Xj hs QQZ λhs=>?_;·exact sorted_ints hs hI Q0 fin
 ·calc Xta hs hI Q0 fin
def Xoi:∀ {bs:Q4v} {us:LV},Vals Q6V us->us=bs.map Ve4
 |[],_,.nil=>rfl|b::bs,_,USD=>by cases r;rw[Xoi t];rfl
def Xri{Qvh}:∀ {bs:Q4v} {L:LW},Qwr Q7V L->L=bs.map V.bl
 |[],L,h=>by simp[Vf1,RDs]at h;calc h|b::bs,L,h=>by simp[Vf1,RDs]at h;calc U02 λv r aa h1 h2=>?_;subst aa;simp[RD]at h1;subst h1;rw[Xri h2];rfl
def Xvt{Qzg}{Qoi}{QYk}{bs:Q4v}{v:V}{QLm}(hb:Yl xs=yz bs){Qxo}:∃a k,v=QYr/\s.heap.get? a=yz {cls:=Qzq,data:=.seq QbL.toArray k}:=by calc Xx (I.lstR h r) λa ws L ha hv hr=>?_;subst L;calc Xbc QS5 λ_ its k rv e=>?_;let e1:=Xde hb;subst e1;let e2:=Xri hr;subst e2;rw[Xoi rv]at e;calc⟨a,k,rfl,e⟩
def Xym{pc:LA}{s:Vc}{σ:L2.St}{QPo}{QMp}{ds:LD}{Qfo}{us:LV}{Qro}(hx:∀cs,ds≠[.tup cs]){Qzg}{Q6h}(aa:Uy3)(ae:QWs)(nb:U8F≠.bad):
  Vf QTq (call (.builtin "list.count") QDN) (QXt (U8F)) E s:=by
 cases d with
 |ref n=>
  match ds,aa,nb with
  |[],_,nb=>cases nb rfl|_::_::_,_,nb=>cases nb rfl|[x],aa,nb=>
   calc Xa aa.one λy L r1=>?_;subst L;calc Xa ae.one λw L ab=>?_;subst L;cases x with
   |bl b=>
    simp[RD]at r1;subst r1;cases ab;simp[Xap]at nb |-;cases e:Qys with
    |none=>rw[e]at nb;cases nb rfl|some xs=>
     rw[e]at nb;simp[U0]at nb |-;cases e2:Yl xs with
     |none=>rw[e2]at nb;cases nb rfl|some bs=>
      dsimp;exact Xf QOS λa k L ha=>?_;subst L;cases rv;exact Ve8 PySem.F.slot_list_count QeJ PySem.F.entry_list_count (PySem.F.args_list_count_2 _ _) (SeqAt.list_countAt a _ k yy #[] QaB λy=>match y with|.bool c=>c==b|_=>yw) ⟨ha,λy hy=>?_,?_⟩
      ·let ac:y∈bs.map Ve4:=by simpa using hy
       exact Xa (V0.mp ac) λc _ L=>?_;subst L;exact U83
      let ec:QbL.countP QxA=UNG:=by rw[List.countP_map];rfl
      simp[Vdt]at *;rw[ec];calc UDK
   |int c=>
    simp[RD]at r1;subst r1;calc Xd ab λt L=>?_;subst L;simp[Xap]at nb |-;cases e:Qys with
    |none=>rw[e]at nb;cases nb rfl|some xs=>
     rw[e]at nb;simp[U0]at nb |-;cases e2:Us9 with
     |none=>rw[e2]at nb;cases nb rfl|some ns=>dsimp;let q:=Ys e2;subst q;calc Xk (I.its e Qby) λa ws its L hl hr hv _=>?_;subst L;let hw:=hr.ints_of;subst hw;calc count_list_ints hl (Xbd hv) Q13
   |tup cs=>calc aB0 rfl (hx cs)|_=>cases nb rfl
 |_=>cases nb rfl
def X7h(L:Xap .index Qcy≠.bad):∃n x,d=Uw5/\ds=[x]/\((∃b,x=.bl b)\/∃i,x=QFu):=by
 cases d with
 |ref n=>
  cases ds with
  |nil=>cases L rfl|cons x r=>
   cases r with
   |nil=>
    cases x with
    |bl b=>calc⟨n,_,rfl,rfl,.inl ⟨b,rfl⟩⟩|int i=>calc⟨n,_,rfl,rfl,.inr ⟨i,rfl⟩⟩|_=>cases L rfl
   |cons _ _=>cases L rfl
 |_=>cases L rfl
def Xmk:∀ {us:LV} {ns:LI} {i:Nat} {v:Vb},U0D ns->us[i]?=UA2->∃c t,ns[i]?=QFv/\v=UJ9 t
 |_,_,i,v,.nil,h=>by simp! at h|_,_,0,v,UWE r,h=>by cases h;calc⟨n,t,rfl,rfl⟩|_,_,i+1,v,UWE r,h=>by calc Xf (Xmk (i:=i) r QN2) λc L h1 h2=>?_;calc⟨c,L,by simpa using h1,h2⟩
def X26:MtD X .index "list.index":=by
 intro pc Qey ai aj nb;exact Xc (X7h nb) λn x L am hx=>?_;subst L am;rcases hx with⟨b,rfl⟩|⟨i0,rfl⟩
 ·calc UpC λy L r1=>?_;subst L;simp[RD]at r1;subst r1;calc Xa aj.one λw L ae=>?_;subst L;cases ae;simp[Xap]at nb |-;cases e:Qys with
  |none=>rw[e]at nb;cases nb rfl|some xs=>
   rw[e]at nb;simp[U0]at nb |-;cases e2:Yl xs with
   |none=>rw[e2]at nb;cases nb rfl|some bs=>
    rw[e2]at nb;dsimp at nb |-;cases e3:bs.findIdx? Q8N with
    |none=>rw[e3]at nb;cases nb rfl|some i=>
     dsimp;exact Xf QOS λa k L ha=>?_;subst L;cases rv;exact Xa QkY λhi h1 h2=>?_;let ah:Q3f<=V6:=by exact UaJ λa' ws _ _ hv hr=>?_;exact Xi ((show Qct a' Q6T from I.inv.hok a' _ hv)) λz _=>?_;rw[<-hr.length,Xde e2,Vg]at z;exact z
     let ac:(i:Int)<2^63-1:=by
      let:V6<2^62:=by decide
      let ao:(2:Int)^63-1=9223372036854775807:=by decide
      let ak:(2:Nat)^62=4611686018427387904:=by decide
      omega
     calc UK7 (SeqAt.list_indexAt a QbL.toArray k yy #[] QaB QxA i QY0 ac QcD λm hm ab=>?_) QIG;·let:=h2 m ab;simpa using this
     ·let al:y∈bs.map Ve4:=by simpa using hy
      exact Xa (V0.mp al) λc _ L=>?_;subst L;exact U83
 calc UpC λy L r1=>?_;subst L;simp[RD]at r1;subst r1;calc Xa aj.one λw L ae=>?_;subst L;calc Xd ae λtk L=>?_;subst L;simp[Xap]at nb |-;cases e:Qys with
 |none=>rw[e]at nb;cases nb rfl|some xs=>
  rw[e]at nb;simp[U0]at nb |-;cases e2:Us9 with
  |none=>rw[e2]at nb;cases nb rfl|some ns=>
   rw[e2]at nb;dsimp at nb |-;cases e3:ns.findIdx? (· == i0) with
   |none=>rw[e3]at nb;cases nb rfl|some i=>
    dsimp;exact UaJ λa ws L _ hv hr=>?_;subst L;exact Xbc QS5 λah its k an ha=>?_;let q:=Ys e2;subst q;let ew:=hr.ints_of;subst ew;let hI:=Xbd an;let aa:Qn3=UY3:=hI.length;rw[Vg]at ah;cases rv;exact Xa QkY λhi h1 h2=>?_;let ac:(i:Int)<2^63-1:=by
     let:V6<2^62:=by decide
     let ao:(2:Int)^63-1=9223372036854775807:=by decide
     let ak:(2:Nat)^62=4611686018427387904:=by decide
     omega
    let af:∀m (hm:m<its.toArray.size),∃c t,ns[m]?=QFv/\its.toArray[m]=UJ9 t:=λm hm=>by
     let ag:m<Ub8:=by simpa using hm
     exact Xf (Xmk hI (Vac ag)) λc t z1 z2=>?_;exact⟨c,t,z1,by simpa using z2⟩
    calc UK7 (SeqAt.list_indexAt Qxq k yy #[] (.int i0 tk) (λy=>match y with|.int c _=>c==i0|_=>yw) i QZM ac ?_ λm hm ab=>?_) QIG;·exact Xf (af i QZM) λc t z1 z2=>?_;rw[z2];rw[Vac hi]at z1;cases z1;exact h1
    ·exact Xf (af m hm) λc t z1 z2=>?_;rw[z2];let ag:m<UY3:=by omega
     rw[Vac ag]at z1;cases z1;let:=h2 m ab;simpa using this
    let⟨m,hm,rfl⟩:=Vb9.mp (show y∈its by simpa using hy);exact Xf (af m (by simpa using hm)) λc t z1 z2=>?_;let z3:its[m]=UJ9 t:=by simpa using z2
    rw[z3];calc SeqAt.EqAt.int_int c t i0 tk
universe e
abbrev Xc6:Vb->Int
 |.int i _=>i|_=>0
theorem SetI{Q1q}(ks:LI):Prop:=∃o es ep t,QFr=Qkq/\o.ExactSet/\o.data=Uv5/\ElemsOf QZ0 es.toList/\ks=es.toList.map (λe=>QRv)/\Tab t es.size/\t.led=ld
def SetI.keep{Qmh}{Qak}{QTm}{ks:LI}(S:QFw h a ld ks)(k:∀o,QFr=Qkq->h'.get? a=Qkq):QFw UMI ks:=by calc Xdn S λo es ep t L r=>?_;calc⟨o,es,ep,t,k _ L,r⟩
section
variable{Q2h}
def Xrj{Qgm}{QFo}(L:e∈es):∃i t,e.2=QFu t:=by let⟨⟨k,hk,_⟩,_⟩:=h e L;calc Xd (Vg9 hk) λt q=>?_;calc⟨k,t,q⟩
def Xyn{Qgm}(k:Int):(Uv0).isSome=decide (k∈es.map λe=>QRv):=by
 let L:∀e∈es,(QZ0.is k e.2=yx ↔ QRv=k):=λe he=>by exact Yy (Xrj h he) λi t q=>?_;rw[q,KeyKind.is_eq_decide (intKind_is prog w i t),decide_eq_true_eq];exact eq_comm
 by_cases c:k∈es.map λe=>QRv
 ·rw[decide_eq_true c];calc Xa (V0.mp c) λe he q=>?_;cases f:Uv0 with
  |some _=>rfl|none=>let:=List.findIdx?_eq_none_iff.mp f e he;rw[(L e he).mpr q]at this;cases this
 rw[decide_eq_false c];cases f:Uv0 with
 |none=>rfl|some j=>calc Xa (Vek.mp f) λhj hp _=>?_;calc aB0 (V0.mpr ⟨_,Vdx hj,(L _ (Vdx hj)).mp hp⟩) c
def X27{QTm}{ks:LI}{k:Int}{tk:Tok}{Qfh}(S:QFw Qnq ld ks)(hn:Q5A<60)
  (h:∀h' al,U3D->QFw UMI al->(k∈ks/\al=ks)\/(k ∉ ks/\al.Perm QAS)->Q (decide (k ∉ ks)) {s with heap:=h',toks:=s.toks+1}):
  Vf QCw (setAdd a Q1O) Qeq:=by
 calc Ye S λo es ep t ho ab hd ac ap T hl=>?_;subst ap;rw[Vg,Vy]at hn;let hb:es.size<scanBound:=Ves hn Q2;let ft:=Xaq T;let fi:=Xyn ac k;unfold setAdd setAddHashed setAddHashedIn;calc Ul (Va (QZ0.pyHash (k:=k) QX9 (Ul (Va (Va4 (s:=QeA) UM4 ft ?_)))));dsimp;rw[byScan_of (knd:=Vap prog w) rfl hb ac];simp[if_true];unfold setAddByScan;calc Va (Va (Vb0 (Va (wpAny_setScan_of (knd:=Vap Qfq) (k:=k) (s:=QeA) QX9 UM4 ft ac ?_))));cases f:es.toList.findIdx? Qw7 with
 |some j=>rw[f]at fi;let c:=oD0 fi.symm;let:=h s.heap _ QlT ⟨o,es,ep,t,ho,ab,hd,ac,rfl,T,hl⟩ (.inl ⟨c,rfl⟩);rw[decide_eq_false (λz=>z c)]at this;exact Vd QcS|none=>
  rw[f]at fi;let c:=of_decide_eq_false fi.symm;let⟨L,t1,e1,T1,m1,ak,l1,af,z1⟩:=X6f T QJX Q1O;let pm:=layNew_perm t es QJX Q1O;rw[e1,Vcv]at pm;let ae:Uv7 L.toList:=(ac.push QX9 rfl).perm pm;let kp:(L.toList.map λe=>QRv).Perm ((es.toList.map λe=>QRv)++[k]):=by let:=pm.map λe=>QRv;rwa [Vau]at this
  dsimp;rw[e1];dsimp;calc QMt;rw[ak];simp[if_true];rw[hashByValue_scannable 8 rfl];calc QMt;simp[plainKind,if_true];let an:UzE=true:=by unfold Vhk;rw[Xb7 T1,af,z1,m1];let:=T.le;simp!;omega
  let ah:L.size<=V6:=by rw[z1,Vav];omega
  calc Va (Vhc UM4 ?_ ah);exact Xi (U32 (S':=λk'=>L.toList.any λe=>USH) ho ab hd ae QtX (by rw[z1];calc Vbk hn Q2) an) λg1 _=>?_;let am:=Vbw Qnq Q9Q;by_cases c5:QAH*5<t.mask*3
  ·let q:t1.tooFull=false:=by unfold Vhs;rw[Xb7 T1,af,m1];exact QSx
   rw[q];simp[Vem,Vq,if_false];let:=h _ _ am ⟨_,L,ep+1,t1,g1,ab,rfl,ae,rfl,by rw[z1];calc⟨T1,ak,af,by rw[m1];calc T.mg,by rw[m1];calc c5,by omega⟩,l1.trans hl⟩ (.inr ⟨c,kp⟩);rw[decide_eq_true c]at this;exact Vd QcS
  let q:t1.tooFull=true:=by unfold Vhs;rw[Xb7 T1,af,m1];exact Qvu
  exact Xs (Uo8 c5) λmk rm _=>?_;rw[q];simp[Bool.not_false,Vbq,if_true];let⟨aa,t2,e2,T2,m2,ao,l2,aq,z2⟩:=Xx5 (t:=t1) (es:=L) (wanted:=UW5) ak (by rw[z1];calc mk) QIS;let ai:=relayAll_perm t1 L (UW5);rw[e2]at ai;rw[e2];dsimp;let aj:aa.size<=V6:=by rw[z2];exact ah
  calc Va (Vd (Va (Vhc g1 rfl ?_ aj)));let ag:Uv7 aa.toList:=ae.perm ai;let TT:Tab t2 aa.size:=⟨T2,ao,by rw[aq,z2],by rw[m2,z1];calc mk,by rw[m2,z2,z1];calc rm,by omega⟩;calc Xi (U32 (S':=λk'=>aa.toList.any λe=>USH) g1 ab rfl ag QtX (by rw[z2,z1];calc Vbk hn Q2) (Xaq TT)) λg2 _=>?_;let:=h _ _ (am.trans (Vbw _ a QOH)) ⟨_,aa,ep+2,t2,g2,ab,rfl,ag,rfl,TT,l2.trans (l1.trans hl)⟩ (.inr ⟨c,(ai.map λe=>QRv).trans kp⟩);rw[decide_eq_true c]at this;calc Vd QcS
universe e
def slot_si:UR2 "__next__" "set_iterator.__next__":=
 .of (owner:="set_iterator") (n:="__next__") UT9
def Xoj:UH2 "set_iterator.__next__"=yz Vbf.«set_iterator.__next__»:=entryFor_of_tree Q05
def Xrk(a:Vb):argsOk "set_iterator.__next__" QMZ:=by unfold argsOk;rw[signature?_of (id:="set_iterator.__next__") (n:=['_','_','t','x','e','n','_','_']) (o:=Q09) Q05 (show Manifest.owners.lookup _=yz Vjl by kernel_rfl)];kernel_rfl
def Xok:UH2 "set.__iter__"=yz Vbf.«frozenset.__iter__»:=entryFor_alias (id' := "frozenset.__iter__") Q05 rfl Q8 Q05
def Xol:UR2 "__iter__" "set_iterator.__iter__":=
 .of (owner:="set_iterator") (n:="__iter__") UT9
def Xvu:UH2 "set_iterator.__iter__"=yz Vbf.«dict_keyiterator.__iter__»:=entryFor_alias (id' := "dict_keyiterator.__iter__") Q05 rfl Q8 Q05
def Xyo(a:Vb):argsOk "set_iterator.__iter__" QMZ:=by unfold argsOk;rw[signature?_of (id:="set_iterator.__iter__") (n:=['_','_','r','e','t','i','_','_']) (o:=Q09) Q05 (show Manifest.owners.lookup _=yz Vjl by kernel_rfl)];kernel_rfl
abbrev byT(w:V7):Bool:=w.params.followText "set-order"
def Xml{Q7h}(f:Nat->Nat):∀(n k:Nat) (l:Q7r) (out:Array α),UyA=n->(pickOrder.go f n k l out).toList.Perm (out.toList++l)
 |0=>λk l out h=>by let:l=[]:=Vfl h;subst this;simp![pickOrder.go]|n+1=>λk l out h=>by
  let hl:f k%lg l<UyA:=Un3;unfold pickOrder.go;rw[Vac hl];dsimp;calc(Xml f n QB3 _ _ (by rw[List.length_eraseIdx_of_lt hl];omega)).trans ?_;rw[Vcv,Ug];calc Vhw _ ?_;let e:l=l.take (f k%lg l)++l[f k%lg l]::l.drop (f k%lg l+1):=by rw[List.getElem_cons_drop,Uo]
  rw[List.eraseIdx_eq_take_drop_succ];exact List.Perm.symm (by
   conv=>lhs;rw[e]
   calc List.perm_middle)
abbrev Xa8{Qto}:List Qd0:=if byT w then QIO.toList else es.toList
def Xc7{Qto}:Qn2.Perm es.toList:=by
 unfold Xa8;split;·unfold pickOrder;let:=Xml QU9 UPI es.toList #[] Q9;simpa using this
 ·calc UxC
abbrev Xbu(w:V7){Quo}{QQl}:Nat:=if byT w then 0 else match i with
 |0=>0|i+1=>t.place.getD i 0+1
section
variable{Q2h}
def Xyp{Qai}{QQl}(hi:i<=t.place.size)(hb:byT w=yw):U91 QgC=i:=by
 calc Xs (Xc4 T.ris QgC) λb1 L b3=>?_;unfold Xbu at b1 L b3 |-;rw[hb]at b1 L b3 |-;simp[Vq,if_false]at b1 L b3 |-;cases i with
 |zero=>
  dsimp at b1 L b3 |-;exact Xj (Nat.eq_zero_or_pos (U91 0)) Qv3 λh=>?_;·exact h
  ·exact aB0 (L 0 h) QY5|succ i=>
  dsimp at b1 L b3 |-;let h1:¬ U91 QQM<=i:=λh=>by let:=b3 i h Q0;omega
  let h2:¬ i+1<U91 QQM:=λh=>by let:=L Qq1 h;let:=UAD (show i<i+1 by omega) Q0;omega
  omega
def Xrl{QFm}{Qlo}{Q:Option (Vb×Nat)->Vc->Prop}{QOi}{QEh}(hi:i<=es.size)
  (h:Q (QHc.map λe=>(e.2,UkD)) s):Qcq (UwB QgC i ep) Qeq:=by
 let ft:=Xaq T;unfold setNext;calc Va QEQ;dsimp;unfold setsByText;calc Va QrT;show Qzw;cases L:byT w with
 |true=>
  simp[if_true,bne_self_eq_false,Vq,if_false];unfold setWalk;calc Va (Va QEQ);dsimp;unfold setsByText;calc Va QrT;show Qzw;rw[L,iP0 rfl];calc Va Q2c;let e1:UkG=QIO.toList:=by unfold Xa8;rw[iP0 L]
  let e2:UkD=QFy i:=by unfold Xbu;rw[iP0 L,iP0 L]
  rw[e1,e2,Ua]at h;exact h|false=>
  simp[Vq,if_false];let ab:Qj3=false:=by rw[T.pl];rfl
  let aa:QZK=false:=by rw[hl,L];rfl
  show QXq (if Qj3=yx then _ else _) QLq;rw[ab];simp[Vq,if_false];calc Va ?_;show QXq (if QZK=yx then _ else _) QLq;rw[aa];simp[Vq,if_false];calc Vd ?_;rw[Xyp T.tb i (by rw[T.sz];calc hi) L];let e1:UkG=es.toList:=by unfold Xa8;rw[iN0 QDR]
  rw[e1,Ua]at h;by_cases c:i<es.size
  ·let c2:i<t.place.size:=by rw[T.sz];exact c
   rw[Uk c]at h;rw[Uk c,Uk c2];let e2:UkD=t.place[i]+1:=by unfold Xbu;rw[iN0 QDR];simp![Va8,c2]
   rw[e2]at h;exact UrG
  rw[Array.getElem?_eq_none Q0]at h;rw[Array.getElem?_eq_none Q0];calc UrG
private abbrev Xtb{QHi}(it a:Addr)(f0 f1 n ep:Nat):Prop:=h.get? it=yz {cls:=.type "set_iterator",dict:=yy,data:=.fields #[Vaa f0,Vaa f1,QYr,Vaa n,Vaa ep],slots:=#[]}
variable{it a:Addr}{o:Obj}{Qlo}
def X28{Qel}{QFo}(hi:U6H){QYl}{QEh}(hx:Qn2[i]?=yz e)
  (hQ:∀h',Xtb h' it a (UkD) Qq1 Qav->U73->Q (yz e.2) QU):UL1:=by
 let hT:Q6u := QxC;let hn:i<=es.size:=by let:=Q7Q.1;rw[QIB.length_eq,Vy]at this;exact Vc3 this
 unfold Vds;calc Va QU4;show QXq QXM QLq;unfold fieldsOf;calc Va QFQ;show QXq QSM QLq;unfold setEntries;calc Va QRH;dsimp;simp[bne_self_eq_false,Vq,if_false];show QXq (UwB (Vgt (Xbu w t i:Int)) (Vgt (i:Int)) QmT >>= _) QLq;simp[Vaf];calc Va (UXG hn ?_);rw[hx];dsimp[U7];calc Va Q5I;calc Va (Vbb e1 Q9 λh2 e2 c2=>?_);calc Vd ⟨_,rfl,Vd (hQ h2 ?_ (c1.trans c2))⟩;calc e2
def X29{Qel}{QJh}(hi:U31 (QFy es.size) es.size Qav){QYl}{QEh}
  (hQ:∀h',Qau->Q yy QU):UL1:=by
 let hT:Q6u := QxC;let hx:Qn2[es.size]?=none:=Vak (by rw[QIB.length_eq,Vy];calc UX0);unfold Vds;calc Va QU4;show QXq QXM QLq;unfold fieldsOf;calc Va QFQ;show QXq QSM QLq;unfold setEntries;calc Va QRH;dsimp;simp[bne_self_eq_false,Vq,if_false];show QXq (UwB (Vgt (QFy es.size:Int)) (Vgt (es.size:Int)) QmT >>= _) QLq;simp[Vaf];calc Va (UXG Qa ?_);rw[hx];dsimp[Option.map_none];calc Va Q5I;show Ub7;calc Va ?_;simp[newExc,newTuple];calc Va QlL;calc Qww;calc Vad ?_ Q77;simp[raiseNew];exact Va QND
 first|rw[show A.in1.handled=yy from hh]|rw[hh]
 calc Va QkL;calc Va Q87;calc Vd (Ut2 ((c1.extBut.push _).push _))
theorem Yd7(w:V7)(it a:Addr)(o:Obj){QHj}(ep:Nat){Quo}{QQl}(s:Vc):Prop:=U6H/\s.heap.get? a=Qkq
def X3a{QJh}(ab:it≠a){QEh}:WalksS Qfq A it [it,a] [it] Eq es.size (λi v=>QHc.map QK1=UA2) (Yd7 w it a o es ep t) where
 sub:=λb L=>by rw[V3.mp L];exact V4
 grefl:=λ_=>rfl
 gtrans:=λ_ _ _ x y=>x.trans y
 frame:=λi s h' tk st _ k=>⟨U3F,k a Q9c _ st.2⟩
 item:=λi s Q E hi st hQ=>by
  let aa:i<Qn2.length:=by rw[QIB.length_eq,Vy];exact hi
  exact X28 Ue0 T hl (Vac aa) λh' q c=>Ut2 _ (by rw[Vac aa];rfl) ⟨q,(c.2 a (Ne.symm ab)).trans st.2⟩ ⟨λb o' L e'=>?_,rfl,rfl,rfl,UX0⟩;exact(c.2 b Qv7).trans e'
 done:=λs Q E st hQ=>X29 hh Ue0 T hl λh' c=>Ut2 ⟨λb o' L e'=>c b o' Qv7 e',rfl,rfl,rfl,UX0⟩
 self:=λi s Q E st hQ=>by let hT:Q6u := ⟨_,st.1,rfl⟩;calc Vhb hT Xol (Uy Xol hT Xvu (show QXq (ret Q20) Qlr from Vd ⟨_,rfl,"set_iterator",_,hT,slot_si.lookup,hQ⟩) (Xyo _))
def Xyq{Q:VP}{QYl}(ab:o.ExactSet){QTj}(T:U9H)
  (hQ:UsD {s with heap:=s.heap.push QL }):Qcq QYV Qeq:=by
 let hT:Q5y := ⟨o,L,ab.1⟩;let ft:=Xaq T;calc Vhb hT F.slot_set_iter (Uy F.slot_set_iter hT Xok ?_ (F.args_set_iter_1 _));show QXq (Vjv a >>= _) QLq;unfold Vjv setEntries;calc Va (Va (Va (UM7 QiO)));show QXq (setDrawn a >>= _) QLq;unfold setDrawn setsByText;calc Va (Va (UM7 (Va (Va Q2c))));let aa:QOW=false:=by rw[T.pl];simp!
 show QXq (ite (QOW=yx) _ _) QLq;rw[aa,iN0 Ue];calc QMt;unfold setEpoch;calc Va (Va (UM7 Q70));calc Va (Vad (Vd ⟨_,rfl,"set_iterator",_,Qd3,slot_si.lookup,hQ⟩))
def Xyr{Qfh}{QOi}(L:o.ExactSet)(hQ:UHK):Qcq (Vi5 Qe) Qeq:=by
 let hT:Q5y := QSW;unfold Vi5;calc Va (wpAny_specialOf hT F.slot_set_len.lookup ?_);let e1:splitId "set.__len__"=yz ("set","__len__"):=by decide+kernel
 dsimp;rw[e1];dsimp;calc Va (Vf2 hT sub_set_self ?_);simp[Vc7,Vq,if_false];calc Va (Vc4 hT (Vd hQ))
def Xia{Q8j}{QJh}{QOi}(af:o.ExactSet){QEh}
  (hQ:∀h' tk,Ql3->s.heap.objs.size<=h'.objs.size->Q (Qn2.map QK1) QO):Qcq (collect Qe) Qeq:=by
 unfold collect;calc Va (Vg2 (UO2 ?_));rw[Vbt F.plain_proto_collect _];show QRr (Uc9 >>= λl=>again (Q8v ⟨[l,QYr],[]⟩)) Qlr;calc Va QA8;rw[Vbt Vhd _];let⟨L,g,d,tk,os⟩:=s;replace ho:L.get? a=Qkq:=ho;let la:a<L.objs.size:=UsC;let ab:QZH.get? a=Qkq:=Qwt ho;show QRr (Vb6 Qt8 Qe Qt8) _ _ ⟨L.push Qb,g,d,tk,os⟩;let n1:QZH.get? L.objs.size=yz Qb:=Um3 rfl;let k1:∀b u,UeH=QIt->QZH.get? b=QIt:=λb u e=>Qyw;let z1:(L.push Qb).objs.size=L.objs.size+1:=Va2 ..;generalize L.push Qb=g1 at ab n1 k1 z1;unfold Vb6;calc Va (Vc4 (T:="set") ⟨o,ab,af.1⟩ ?_);let hS:Vjw Qt8 Qe=false:=by simp![Vjw,Vca la]
 simp[hS,show(Vcf "set" == Vcf "list")=yw by decide,show(Vcf "set" == Vcf "tuple")=yw by decide,Bool.or_false,Vq,if_false];calc Va (Xyq (s:=⟨g1,g,d,tk,os⟩) ab af hd T ?_);let n2:QLF.get? L.objs.size=yz Qb:=Qwt n1;let i2:QLF.get? g1.objs.size=yz QL:=Um3 rfl;let k2:∀b u,g1.get? b=QIt->QLF.get? b=QIt:=λb u e=>Qyw;let z2:(g1.push QL).objs.size=g1.objs.size+1:=Va2 ..;generalize g1.push QL=g2 at n2 i2 k2 z2;calc Va (Ul (Xyr (s:=⟨g2,g,d,tk,os⟩) QCY af ?_));show QRr (rule "list.extend.makes-room" >>= λ_=>Builtin.List.listTouch Qt8 >>= λ_=>again (.builtin "list.extend.loop" ⟨[.ref L.objs.size,.ref g1.objs.size,.ref L.objs.size],[]⟩)) QLq;calc Va (Vb0 QrY);show QRr (updateSeq L.objs.size (·.push .none) >>= λ_=>updateSeq L.objs.size (·.pop)) QLq;calc Va (wpAny_updateSeq n2 rfl ?_);let n3:=Vdb (V9 (·.push Vay)) n2 rfl;calc wpAny_updateSeq n3 rfl ?_;let n4:=Vdb QuE n3 rfl;let ae:∀b u,b≠L.objs.size->g2.get? b=QIt->(U52).get? b=QIt:=λb u hb e=>QkA.trans (QkA.trans e);let z4:(U52).objs.size=g2.objs.size:=by rw[Vex,Vex]
 generalize QI4.update L.objs.size QuE=g4 at n4 ae z4;let am:g1.objs.size≠a:=by rw[z1];exact Vca (Va3 la)
 let ag:a≠L.objs.size:=Uf la;let ai:g1.objs.size≠L.objs.size:=by rw[z1];exact Nat.succ_ne_self _
 let W:=X3a QPr (A:=A.in1) (it:=g1.objs.size) (a:=a) (o:=o) (es:=es) (ep:=ep) (t:=t) QaD am hd T hl
 exact Vd ⟨Vf9 F.plain_extend_loop _,codeAny_extend_loopS W (by let:=T.ln;rw[Vav];omega) L.objs.size (by
  intro hm;exact Xj (Vv.mp hm) Qx7 λhm=>?_;·exact ai e.symm
  ·calc ag (V3.mp hm).symm) _ UPI QLq rfl Q27 ⟨?_,ae _ _ ag QCY⟩ n4 (ItemsOf.nil _) λs' ac c hm aj aa=>?_⟩
 ·let e0:QFy 0=0:=by unfold Xbu;split<;>rfl
  rw[e0];exact ae _ _ ai i2
 ·show Vf _ A (load L.objs.size >>= _) USB;calc Va (Vgw aj Q70);let⟨h',g',d',al,ak⟩:=s';let⟨m1,m2,m3,m4,m5⟩:=hm;replace m2:g=g':=m2;replace m3:d'=d:=m3;replace m4:ak=os:=m4;subst m2;subst m3;subst m4;let ea:ac.toList=Qn2.map QK1:=by
   exact Vfn λi=>?_;let ah:Qn2.length=es.size:=by rw[QIB.length_eq,Vy]
   by_cases c:i<es.size
   ·let hz:i<ac.size:=by rw[aa.1];exact c
    let h1:ac[i]?=yz ac[i]:=Uk hz;rw[Ua,h1,Ur];exact(aa.2 i _ h1).symm
   rw[Vak (by rw[Vy,aa.1];omega),Vak (by rw[Vg,ah];omega)]
  rw[ea];let kk:∀b u,UeH=QIt->Qqq=QIt:=λb u e=>by let lb:=UZ6;exact m1 b u (by simp[Vv,Va6,or_false,not_or];calc⟨Uf lb,by rw[z1];calc Uf Q3e⟩) (ae b u QsY (k2 b u (k1 UiE)))
  calc hQ h' al kk ?_;calc Vc3 (Vu aj)
universe e
def Xvv:∀(l L:LI),lg L<=(l.foldl ddS L).length
 |[]=>λL=>UX0|x::l=>λL=>by
  calc Uh ?_ (Xvv l (ddS L x));unfold ddS;split;·exact UX0
  ·simp!
def X3b(ns:LI){QQl}(hi:i<UY3):ddI (ns.take Qq1)=ddS QkE QTD:=by unfold ddI;rw[List.take_succ,Vac hi,Vfp];simp![List.getD,hi]
def Yci(ns:LI){QQl}:QkE.length<=Qx4.length:=by
 let:ns=ns.take i++ns.drop i:=(Uo i ns).symm;unfold ddI
 conv=>rhs;rw[this,Vfp]
 calc Xvv _ _
section
variable{Qmh}{Qgh}
def Xys{QNl}(L:Addr)(hf:L ∉ fp)(ns:LI)(hn:QbE=n)(hP:∀i v,P i v->∃t,v=.int QTD t)(hb:Qx4.length<60):
  ∀(k i:Nat) (s:Vc) (ks:LI),n-i=k->i<=n->St i s->QFw UC6 ld ks->ks.Perm QkE ->
   (∀s' aa,Moved (L::wr) G s s'->QFw s'.heap L ld aa->aa.Perm Qx4->R Q5T s')->UL7 (QQu ⟨[.ref L,UFE],[]⟩) R s:=by
 let hw:L ∉ wr:=λh=>hf QiY;let sub:∀b∈wr,b∈L::wr:=λb hb=>UN7 hb;intro k;induction k with
 |zero=>
  intro i s ks Ug0 hR;obtain rfl:i=n:=by omega
  calc U1D ?_;rw[Vbt Vcs _];show UP1;calc Va QZG;show QRr Q8b USB;calc Vd (hR s' ks QIF QvE ?_);rwa [<-hn,Vey]at p|succ k ih=>
  intro i s ks Ug0 hR;let lt:i<n:=by omega
  calc U1D ?_;rw[Vbt Vcs _];show UP1;calc Va (UN2 lt st λv s' hv ae m=>?_);exact Xd QIY λt ag=>?_;subst ag;show QRr (Vd4 [Vhu QTD t] (setAdd L (.int QTD t)) >>= _) USB;let le:=Yci ns i;calc Va (Ul (X27 QvE (by rw[p.length_eq];omega) λh' aa sb S' q=>?_));calc Vd ⟨Vf9 Vcs _,Uf9 (U6B ae QPH λb hb o e=>?_) S' ?_ λaf ab ac ah ai=>?_⟩;·rw[sb.2 b (λz:b=L=>hf Qpc)];exact e
  ·rw[X3b ns i Q0];unfold ddS;rcases q with⟨q1,rfl⟩|⟨q1,q2⟩;·rw[iP0 QaP];exact p
   ·rw[iN0 QmG];exact q2.trans QJO
  calc hR af ab (Ui6 (QIF.then_heap QPH λb o hb e=>?_) ac) ah ai;rw[sb.2 b (λz:b=L=>hb Qqc)];calc e
variable{Qro}{s:Vc}
def X3c(a:Vb){Q₁:VP}
  (h:Q₁ QB {s with heap:=s.heap.push Qs5 }):
  Vc1 QCw (.call (Ua4) Qu9) (wants Q₁ E) s:=by
 calc codeAny_of_tree ?_;show QRr (do checkBuiltinCall "set.__new__" Qu9;again (Ua4 Qu9)) Qlr;calc Va (Vhi (F.newCall_set_1 a) (Vd ⟨Vf9 F.plain_set_new _,Vbl F.entry_set_new ?_⟩));rw[Vbt F.plain_set_new _];unfold Vbf.«set.__new__» Builtin.Frozenset.newClass;let L:=sub_set_self;let⟨hp,g,d,tk,os⟩:=s;dsimp;wp_walk;calc Veu Q70;dsimp;simp[newObj];calc Va (wpAny_alloc QoY)
def Xrm(ld:Bool):Tab (UG4) 0:=⟨⟨Vef,rfl⟩,rfl,rfl,.inl rfl,show 0*5<7*3 by decide,by decide⟩
def Xyt {Qcl}:QFw h a ld []:=
 ⟨_,#[],0,UG4,e,QfF,rfl,λx L=>by simp! at L,rfl,Xrm ld,rfl⟩
private noncomputable abbrev nS(w:V7):Obj:=Qs5
abbrev itO{Qko}:Obj:={cls:=.type (if b then "list_iterator" else "tuple_iterator"),data:=.fields #[.ref l,UL3 0]}
theorem Xom{Qtk}{QHi}(l:Addr)(items:AV):Prop:=if b then h.IsList l items else h.IsTuple l items
set_option maxHeartbeats 3200000 in
def Xmm{QIj}{R:Vc->Prop}{Q:VP}{QNj}(hR:∀ab,R ab->UsD ab)
  (hU:∀R':Except Vb Flow->Vc->Prop,(∀s',R s'->R' Q5T s')->Vc1 Q3 A.in1.in1 (QQu ⟨[.ref s.heap.objs.size,.ref (Q5u).objs.size],[]⟩) R' QNE):
  Vf UpA:=by
 exact Yy F.called_set.mro λc tl ax=>?_;let ar:=F.called_set.made;let aw:=F.called_set.sub;calc wpAny_call (codeAny_of_tree ?_);show QXq (callAny (.type "set") _) QLq;calc Vd ⟨UoG,Vbl F.entry_type_call ?_⟩;rw[Around.under_plain (weight_type_call_type "set" Q5g []) rfl];let h1:=F.called_set.notType;let h2:=F.called_set.canCreate;let az:=F.typeCall_set_1 QqB
 repeat (any_goals (first|assumption|wp_step))
 calc Ver (X3c QqB (E:=E) (Q₁:=λobj ah=>obj=QTs/\ah=QME) QV0) λr ah hr=>?_;cases r with
 |error e=>exact hr|ok fl=>
  cases fl with
  |ret obj=>
   exact Xi hr λav au=>?_;subst av au;let hT:Shared.TypeIs QME QB "set" := Qd3;let ay:=F.called_set.init.lookup;let a0:=F.called_set.init.bind QB
   repeat (any_goals (first|assumption|wp_step))
   exact Ver (Via (R:=wants (λr ab=>r=.none/\R ab) E) F.called_set.init.plain F.entry_set_init (check_set_init_1 hT ?_)) λao ab L=>?_
   ·unfold Vbf.«set.__init__» noKeywords Builtin.Frozenset.updateFrom;cases b with
    |true=>
     let⟨⟨am,ac,ak,aa⟩,ai,ag,nl,ae⟩:=show UcD from hl;simp at ag ae;subst ag;subst ae;let af:QB0.get? l=yz {cls:=Qzq,dict:=ac,data:=UUA nl,slots:=aa}:=Qwt ai;let an:=F.sub_list_set;let ap:=F.sub_list_frozenset;let aq:(U0A == Vcf "dict")=false:=by decide
     generalize aj:Veo=PI;wp_walk;subst aj;exact Vfo QvM Qd9|false=>
     let⟨⟨am,ac,ak,aa⟩,ai,ag,nl,ae⟩:=show Qgv from hl;simp at ag ae;subst ag;subst ae;let af:QB0.get? l=yz {cls:=Qpq,dict:=ac,data:=UUA nl,slots:=aa}:=Qwt ai;let an:=F.sub_tuple_set;let ap:=F.sub_tuple_frozenset;let aq:(Quw == Vcf "dict")=false:=by decide
     generalize aj:Veo=PI;wp_walk;subst aj;exact Vgs QvM Qd9
   cases ao with
   |error e=>exact L|ok al=>
    cases al with
    |ret r=>
     let⟨rfl,L⟩:=L
     repeat (any_goals (first|assumption|wp_step))
     calc hR _ L|_=>calc L.elim
  |_=>calc hr.elim
def Xrn{QIj}{QJh}{QNj}:
  l<s.heap.objs.size/\∃St:Nat->Vc->Prop,WalksS Qfq A.in1.in1.in1 (Q5u).objs.size Q5E [(Q5u).objs.size] QbW items.size (λi v=>items[i]?=UA2) St/\St 0 QNE:=by
 let lS:l<s.heap.objs.size:=by
  cases b with
  |true=>exact Xa (show UcD from hl) λo ho _=>?_;exact UsC|false=>exact Xa (show Qgv from hl) λo ho _=>?_;exact UsC
 let L:l≠(Q5u).objs.size:=by rw[Va2];exact Uf (Va3 lS)
 calc⟨lS,?_⟩;cases b with
 |true=>let hl:UcD:=hl;calc⟨_,(Walks.list Q2y).toS,QtH⟩|false=>let hl:Qgv:=hl;calc⟨_,(Walks.tuple Q2y).toS,QtH⟩
def Xvw{S I:Addr}{h1:Heap}{s':Vc}(m:Moved [S,I] QbW QkR s')(hn:∀b o,QWq=Qkq->b≠S/\b≠I/\h1.get? b=Qkq):∃h' tk,s'=QO/\∀b o,QWq=Qkq->Qqq=Qkq:=by let⟨h',g',d',L,aa⟩:=s';let eg:g'=s.gens:=m.gens;let ed:d'=s.drawn:=m.drawn;let eo:aa=s.os:=m.os;subst eg;subst ed;subst eo;calc⟨h',L,rfl,λb o e=>m.heap b o ?_ QhP.2.2⟩;simp[Vv,Va6,or_false,not_or];calc⟨QhP.1,QhP.2.1⟩
def Xro{Qko}:∀c o,QVs=Qkq->c≠s.heap.objs.size/\c≠(Q5u).objs.size/\QgM.get? c=Qkq:=λc o e=>by let lb:=UZ6;rw[Va2];calc⟨Uf lb,Uf Q3e,Qwt QaG⟩
def Xvx{Qko}:QgM.get? s.heap.objs.size=yz QLO:=Qwt Q25
def Xrp{l:Addr}(h:l<s.heap.objs.size):s.heap.objs.size ∉ Q5E:=by rw[Va2];simp[Vv,Va6,or_false,not_or];calc⟨Uf QgS,Vca h⟩
def Xvy{QIj}{Qnn}{QMo}{QNj}(hi:Vbv items.toList ns)(hb:Qx4.length<60)
  (h:∀(h':Heap) (tk:Nat) (ks:LI),QFw Qnr QNW ks->ks.Perm Qx4->Qb1->UsD QO):
  Vf UpA:=by
 calc Xbx QhD λlS St W st=>?_;calc U70 λR' ab=>Xys Um6 ns (by rw[<-hi.length];simp!) (λi v hv=>IntsAre.int_at hi i v (by rw[Ua];calc hv)) hb QUT 0 _ [] rfl Q27 st (Xyt Qnb) Qqf λs' ks m S' p=>ab s' ?_;calc Xf Q3Q λh' tk aa k'=>?_;subst aa;calc h _ _ ks S' p k'
universe e
universe Z
universe e
section
namespace Z
open PySem PySem.SetTable PySem.Spec PyProof.Rows
def Xvz{QZk}{f:Nat->Int}{h:Int}{p:Probe}{r:Option Met}{d:Nat}(T:Tb t)(hf:∀i,f i=Q9H.getD 0)(hp:p.dummy=yy)(hd:d<10*Qiy)(he:Q4H.j ∉ t.place.toList)(hl:∀k,k<d->QV6.j∈t.place.toList)(e:t.probe f h p=r):
  ((∀k,k<d->∀i,UDJ=QYy->Q9H.getD 0≠h)/\r=yz QcQ) \/
  ∃k i,k<d/\t.slot QV6.j=QYy/\Q9H.getD 0=h/\(∀k',k'<k->∀L,UCJ=.live L->(es[L]?.map QT).getD 0≠h)/\r=yz QBD:=by
 rcases Xs2 T f h d (10*Qiy) p hp hd he hl with⟨g1,g2⟩|⟨k,i,g1,g2,g3,g4,g5⟩;·exact .inl ⟨λk hk i hi=>by rw[<-hf];calc g1 k hk i hi,e.symm.trans g2⟩
 ·calc .inr ⟨k,i,g1,g2,by rw[<-hf];calc g3,λk' hk L hi=>by rw[<-hf];calc g4 k' hk L hi,e.symm.trans g5⟩
private noncomputable abbrev Xu{QCi}:HeapKind Qfq (LI):=Vfy QZ0
def TabG.odd{QZk}{QAp}:t.gaveWay=false:=by unfold SetTable.gaveWay;rcases T.mg with e|e|e|e|e|e<;>rw[e]<;>rfl
section
variable{Q2h}
def X3d{QEj}{v:Vb}(h:U1B=yx):Vhe n v=pure false:=by
 cases v with
 |ref a=>simp![carriedByValue]at h|_=>cases n<;>(unfold Vhe;rfl)
def Xv0{Qkl}(h:UHK):Qcq (Vhe 8 Qe) Qeq:=by
 exact X2 hk λo its m ho hc hd hi=>?_;unfold Vhe;calc Va QiC;dsimp;calc QMt;simp[Vc7,Vq,if_false];calc Va QoT;dsimp;calc Va ?_;show QXq QFS Qlr;rw[<-Array.forIn_toList];calc Vhq _ (λrest r s'=>r.1=yy/\s'=s/\∀v∈rest,U1B=yx) _ ?_ ?_ _ _ ⟨rfl,rfl,hi.byValue⟩;·rintro v rest r s' ⟨hr,rfl,hall⟩;rw[X3d _ QHY];calc QMt;simp[Vq,if_false];exact Vd ⟨rfl,rfl,λu L=>hall u QIA⟩
 ·rintro ⟨r1,r2⟩ s' ⟨hr,rfl,_⟩;simp at hr;subst hr;calc UrG
def Xyu{Qsl}:∀v∈vs,∃i t,v=QFu t:=by
 induction h with
 |nil=>intro v L;simp! at L|@cons k v' ks vs h1 _ ih=>
  intro v L;rcases Vv.mp L with rfl|L;·exact Xd Qud λt q=>?_;exact⟨_,t,q⟩
  ·calc ih v L
def Xyv{Qkl}(h:Q yx s):Qcq (hashByValue 8 Qe) Qeq:=by
 exact X2 hk λo its m ho hc hd hi=>?_;unfold hashByValue;calc Va (wpAny_specialOf (T:="tuple") QkX F.slot_tuple_hash.lookup ?_);dsimp;calc Va QoT;calc Va ?_;show QXq QFS Qlr;rw[<-Array.forIn_toList];calc Vhq _ (λrest r s'=>r.1=yy/\s'=s/\∀v∈rest,∃i t,v=Vhu i t) _ ?_ ?_ _ _ ⟨rfl,rfl,Xyu hi⟩;·rintro v rest r s' ⟨hr,rfl,hall⟩;exact Yy QHY λi t L=>?_;subst L;rw[show hashByValue 7 (Vhu i t)=pure yx by unfold hashByValue;rfl];calc QMt;simp[Vc7,Vq,if_false];exact Vd ⟨rfl,rfl,λu aa=>hall u (UN7 aa)⟩
 ·rintro ⟨r1,r2⟩ s' ⟨hr,rfl,_⟩;simp at hr;subst hr;calc UrG
def X3e{k:LI}{QZh}(hk:Qvy k a){Qfh}(h:UHK)(ys:LV)(hy:∀y∈ys,∃L b,y=Ui b/\QM.is UC6 b):Qcq (searchCouldBeSeen Qe ys) Qeq:=by
 unfold searchCouldBeSeen;calc Va ?_;exact Vhq _ (λrest r s'=>r.1=yy/\s'=s/\∀y∈rest,∃L b,y=Ui b/\QM.is UC6 b) _ ?_ ?_ _ _ ⟨rfl,rfl,hy⟩
 ·rintro y rest r s' ⟨hr,rfl,hall⟩;exact Xf (hall y V4) λL b aa hb=>?_;subst aa;let on:∀u∈rest,∃L b,u=Ui b/\QM.is s'.heap L b:=λu hu=>hall u (UN7 hu);dsimp;split;·exact Vd QIT
  ·calc Va (QM.quiet hk ?_);simp[Vc7,Vq,if_false];calc Va (QM.quiet hb ?_);simp[Vc7,Vq,if_false];calc Va (Xv0 hk ?_);simp[Vq,if_false];calc Va (Xv0 hb ?_);simp[Vq,if_false];exact Vd QIT
 rintro ⟨r1,r2⟩ s' ⟨hr,rfl,_⟩;simp at hr;subst hr;calc UrG
theorem Mem{QCi}{QHi}{QHj}{Qyo}:Prop:=es.toList=ps.map Xfs/\∀p∈ps,QM.is h Qsx
def Mem.get{QQp}{Qfi}{QFo}(L:es[i]?=yz e):∃p,ps[i]?=UjF/\e=Xfs p/\QM.is h Qsx:=by
 rw[<-Ua,m.1,Ur]at L;cases hp:ps[i]? with
 |none=>rw[hp]at L;cases L|some p=>rw[hp]at L;calc⟨p,rfl,Qpg.symm,m.2 p Qvf⟩
def Xon{Quo}:t.sameMemory UqK=yz true:=by unfold SetTable.sameMemory;simp!
def X7i{QSi}{QZk}{Qth}{QAp}{QPl}{k:LI}(hk:k∈ps.map QT){N:Nat}(he:Ug7 N ∉ t.place.toList):
  ∃n i p,n<N/\t.slot QHO=QYy/\ps[i]?=UjF/\p.1=k:=by
 exact Xa QDa λp hp ab=>?_;subst ab;exact Xd (Vfx.mp hp) λi hi=>?_;let e1:es[i]?=yz QWf:=by rw[<-Ua,m.1,Ur,hi];rfl
 let L:i<t.place.size:=by rw[T.sz];exact(Vab.mp e1).1
 let e2:t.place[i]?=yz t.place[i]:=Uk L;exact Xa (T.own QLq (X6d e2 e1)) λn hn hl=>?_;let aa:QBr (QM.hash p.1) n=t.place[i]:=hn;let mem:t.place[i]∈t.place.toList:=by simp!
 exact⟨n,i,p,?_,?_,hi,rfl⟩
 ·rcases Vjd n N with c|c|c;·exact c
  ·subst c;exact aB0 (aa▸mem) he
  exact aB0 (hl N c) he
 ·rw[aa];exact Xa (Xgg T.tb mem) λi' s1 s2=>?_;let:i'=i:=by
   exact Xd (Vab.mp s2) λl1 v1=>?_;rcases Vjd i' i with c|c|c;·let:=Ue6 L;simp![Va8,l1,L,v1]at this
   ·exact c
   let:=Ue6 l1;simp![Va8,l1,L,v1]at this
  rw[s1,this]
def X1e{ad:Bool}{QFm}{Qkh}{QEo}{Qth}{x:Addr}{k:LI}{N:Nat}{Q:SetFound->Vc->Prop}{QUk}{QOi}{QTj}{QAp}(m:Ul7 s.heap es ps)(hk:Qvy k x)
  (hN:N<10*Qiy) (he:Ug7 N ∉ t.place.toList) (hl:∀i,i<N->Ug7 i∈t.place.toList)
  (h1:k∈ps.map QT->∀r:Qyt,(ad=yw->r.isSome=yx)->Q (.there r) s) (h2:k ∉ ps.map QT->Q (.free Qn8 yw) s):
  ∀(d c L:Nat) (ab:Option Probe),c+d=N->d<L->ab.getD Qz2=U9D ->
   (∀n i p,n<c->t.slot QHO=QYy->ps[i]?=UjF->p.1≠k) ->
   Vf QCw (UQ0 ab) Qeq:=by
 let pt:∀n,(U50 n Qz2).j=Ug7 n:=λn=>by rw[Xnu];rfl
 let aa:∀c n,QyJ.j=Ug7 QGf:=λc n=>by rw[<-Xd2];exact pt QGf
 intro d;induction d using Nat.strongRecOn with
 |_ d ih=>
  intro c L ab hc hf hs no;exact Xd (⟨L-1,by lia⟩:∃f,L=f+1) λL ae=>?_;subst ae;calc Va (m:=setState a) Qe7;dsimp;rw[T.odd];simp[Vq,if_false];rw[hs];let ak:=λr e=>Xvz (t:=t) (es:=es) (h:=QM.hash k) (p:=U9D) (r:=r) (d:=d) T.tb QD2 (by rw[Xq1];rfl) QK9 (by rw[aa,hc];calc he) (λn hn=>by rw[aa];calc hl _ QK9) e;split
  ·rename_i met al;rcases ak _ al with⟨g1,g2⟩|⟨n,i,g1,g2,g3,g4,g5⟩
   ·cases g2;dsimp;rw[aa,hc];calc Vd (h2 λaf=>?_);exact X2 (X7i T m af he) λn i p hn ah hp ai=>?_;by_cases cn:n<c;·exact no n i p cn ah hp ai
    ·calc g1 (n-c) QK9 i (by rw[aa,show c+(n-c)=n by lia];calc ah) ?_;let:es[i]?=yz QWf:=by rw[<-Ua,m.1,Ur,hp];rfl
     rw[this,<-ai];rfl
   cases g5;let an:i<es.size:=by exact Xd (Xgg T.tb (hl QGf QK9)) λ_ z=>?_;rw[aa]at g2;rw[g2]at z;let:=(Vab.mp z.2).1;cases z.1;rw[<-T.sz];exact this
   let e1:es[i]?=yz es[i]:=Uk an;exact Xe (m.get e1) λp hp am ap=>?_
   rw[am]at e1;let rest:Qcq (do
     let yz (_,y):=es[i]?|Vfj "internal:set-entry"
     let equal <- Vd4 [y] (eqBool y Qq2)
     let (es',_,t') <- setState a
     if ad&&equal then return .there yy
     let yz same:=t'.sameMemory UqK|Vfj "set.changed-during-lookup:is-the-new-block-at-the-old-address"
     let still <- match (if same then t'.slot QyJ.j else .empty) with
      |.live i'=>match es'[i']? with
       |some (_,y')=>do pure (if <- isSame y' y then yz i' else yy)|none=>Up0
      |_=>Up0
     match still with
     |none=>rule "set.search.anew";setSearchFrom a Qq2 QG0 ad L yy
     |some i'=>if equal then return .there (yz i') else UQ0 (yz (U50 QW9 (U9D)))) Q E s:=by
    rw[e1];calc Va (Ul (QM.eqBool hu ap hk ?_));calc Va Qe7;dsimp;by_cases ce:p.1=k
    ·let af:=h1 (V0.mpr ⟨p,Uc hp,ce⟩);cases ad with
     |true=>simp[Vbr,decide_eq_true ce,if_true];calc Vd (af yy λz=>nomatch z)|false=>simp[Vcc,decide_eq_true ce,Vq,if_false];rw[Xon];simp[if_true];rw[g2];dsimp;rw[e1];dsimp[Xfs];calc Va Q9E;simp[if_true];exact Vd (af QcW λ_=>rfl)
    ·simp[Vem,decide_eq_false ce,Vq,if_false];rw[Xon];simp[if_true];rw[g2];dsimp;rw[e1];dsimp[Xfs];calc Va Q9E;simp[if_true];exact ih (d-QW9) QK9 (c+QW9) L _ QK9 QK9 (by rw[Vf3,<-Xd2]) λn' i' p' ar ag ac=>?_;by_cases q1:n'<c;·exact no n' i' p' q1 ag ac
     ·by_cases q2:n'=c+n;·subst q2;rw[aa,ag]at g2;cases g2;rw[hp]at ac;cases ac;exact ce
      ·intro q3;calc g4 QPg QK9 i' (by rw[aa,show c+QPg=n' by lia];calc ag) ?_;let:es[i']?=yz (Xfs p'):=by rw[<-Ua,m.1,Ur,ac];rfl
       rw[this,<-q3];rfl
   dsimp;cases aq:t.led with
   |true=>simp[Vc7,Vq,if_false];exact rest|false=>
    simp[Bool.not_false,if_true];calc Va (X3e hk ?_ _ λy hy=>?_);·simp[Vq,if_false];exact rest
    ·exact U33 λe ao ae=>?_;subst ae;let:e∈es.toList:=by
      let:=(Array.mem_toList_iff.mp ao);exact Array.mem_toList_iff.mpr (Array.mem_filter.mp this).1
     rw[m.1]at this;exact Xa (V0.mp this) λp' ac ae=>?_;subst ae;exact⟨p'.1,p'.2,rfl,m.2 p' ac⟩
  rename_i aj;rcases ak _ rfl with⟨_,g2⟩|⟨n,i,g1,g2,g3,g4,g5⟩;·exact(aj _ g2).elim
  ·calc(aj _ g5).elim
universe e
universe Z
universe e
section
namespace Z
open PySem PySem.Spec PyProof.Rows L2
abbrev Xbr:Bool->Vl->QEr->Nat->Nat->Nat->UZD:=sortPriv% PySem.Builtin.gallop
abbrev byd{QJi}{QQl}:QRq (QJr):=do
 let x <- Vd2 xs i
 if lf then lt' x k else do
  let r <- lt' k x
  pure (r.map (!·))
private noncomputable abbrev G3:=QSy×Nat×Nat
abbrev gUp{QJi}(q n h m:Nat):QRq G3:=U37 QFg λ_ z=>
 if z.2.2 ≥ m then QMx else do
  let r <- Uw0 (q+(h+z.2.2))
  match r with
  |some y=>if !y then QMx else pure Q5G|_=>UV8
abbrev gDn{QJi}(q n h m:Nat):QRq G3:=U37 QFg λ_ z=>
 if z.2.2 ≥ m then QMx else do
  let r <- Uw0 (q+(h-z.2.2))
  match r with
  |some y=>if y then QMx else pure Q5G|_=>UV8
abbrev Xm2{QJi}(q n l r:Nat):UZD:=do
 let c <- U37 (Q2R:G3) λ_ z=>
  if z.2.1 ≥ z.2.2 then QMx else do
   let r <- Uw0 (q+(z.2.1+QhJ/2))
   match r with
   |some y=>if y then pure (.yield (yy,z.2.1+QhJ/2+1,z.2.2)) else pure (.yield (yy,z.2.1,z.2.1+QhJ/2))|_=>UV8
 match c.1 with
 |some r=>Qjy|none=>pure (yz c.2.2)
def Xz{Qwi}{m m':QRq α}{f L:α->QRq β}(h:m=m')(k:∀x,f x=L x):(m >>= f)=(m' >>= L):=by rw[h,show f=L from funext k]
def X7j{QJi}(q n h:Nat):Xbr QSu h=(do
  let r <- Uw0 (q+h)
  match r with
  |some z=>
   if z then do
    let c <- gUp QSu h Qze
    match c.1 with
    |some r=>Qjy|none=>Xm2 QSu (h+c.2.1+1) (h+min c.2.2 Qze)
   else do
    let c <- gDn QSu h QDf
    match c.1 with
    |some r=>Qjy|none=>Xm2 QSu (h+1-min c.2.2 QDf) (h-c.2.1)
  |_=>Up0):=by
 calc Xz rfl λr=>?_;cases r with
 |none=>rfl|some z=>
  exact ite_congr rfl (λ_=>Xz rfl λc=>?_) λ_=>Xz rfl λc=>?_
  ·let⟨L,c2⟩:=c;cases L with
   |some r=>rfl|none=>exact Xz rfl λd=>?_;let⟨d1,d2⟩:=d;cases d1<;>rfl
  let⟨L,c2⟩:=c;cases L with
  |some r=>rfl|none=>calc Xz rfl λd=>?_;let⟨d1,d2⟩:=d;cases d1<;>rfl
section
variable{Q2h}{lf:Bool}{k:Vl}{Qeo}{q n:Nat}{Qmp}{QQj}(b:Nat->Bool)
  (ask:∀i,i<n->∀Q':Option Bool->V8->Prop,Q' (yz (b i)) st->wpS Q3 A E s (byd lf k xs Qve) Q' st)
  (mono:∀i j,i<=j->j<n->b j=yx->b i=yx)
  (hQ:∀m,m<=n->QDO->(∀i,m<=i->i<n->b i=yw)->Q QFO st)
include ask mono hQ
def Xoo{l r:Nat}(hl:l<=r)(hr:r<=n)(h1:∀i,i<l->b i=yx)(h2:∀i,r<=i->i<n->b i=yw):QQq (Xm2 QSu l r) Uv1:=by
 unfold Xm2;exact Vs (Vdk (Vbm (I:=λx c L=>L=st/\∃l r,c=Q2R/\l<=r/\r<=n/\r+x<=n+l/\(∀i,i<l->b i=yx)/\∀i,r<=i->i<n->b i=yw)
  (Q:=λc L=>L=st/\∃m,c=(yy,m,m)/\m<=n/\QDO/\∀i,m<=i->i<n->b i=yw) ?step ?fin ⟨rfl,l,r,rfl,hl,hr,by omega,h1,h2⟩) ?post)
 case post=>rintro c L ⟨rfl,m,rfl,hm,a1,a2⟩;exact V2 (UBG)
 case fin=>
  rintro c L ⟨rfl,l,r,rfl,c1,c2,c3,c4,c5⟩;let:l=r:=by omega
  subst this;exact QbK
 case step=>
  rintro x c L _ hx ⟨rfl,l,r,rfl,c1,c2,c3,c4,c5⟩;dsimp;by_cases g:l ≥ r
  ·rw[iP0 g];let:l=r:=by omega
   subst this;exact V2 QbK
  rw[iN0 g];calc Vs QMS;cases e:b (l+(r-l)/2) with
  |true=>exact V2 ⟨rfl,_,r,rfl,by omega,c2,by omega,λi hi=>mono i _ Qtq e,c5⟩|false=>
   calc V2 ⟨rfl,l,_,rfl,by omega,by omega,by omega,c4,λi hi hn=>?_⟩;cases e':b i with
   |false=>rfl|true=>rw[mono _ i hi hn e']at e;cases e
def Xrq{h:Nat}(hh:h<n):QQq (Xbr QSu h) Uv1:=by
 rw[X7j];calc Vs (ask h hh _ ?_);dsimp;cases e0:b h with
 |true=>
  rw[iP0 rfl];unfold gUp;exact Vs (Vdk (Vbm (I:=λx c L=>L=st/\∃u v,c=Q1R/\u<v/\x<v/\h+u<n/\b QCf=yx)
   (Q:=λc L=>L=st/\∃u v,c=Q1R/\u<v/\h+u<n/\b QCf=yx/\(n<=h+v\/h+v<n/\b (h+v)=yw)) ?step ?fin QO9) ?post)
  case post=>
   rintro c L ⟨rfl,u,v,rfl,c1,c2,c3,c4⟩;exact Ur9 (l:=h+u+1) (r:=h+min v Qze) Qd8 Qd8 (λi hi=>mono i QCf Q0 c2 c3) λi hi hn=>?_;exact Xe6 c4 QTZ λc4 c5=>?_;·omega
   ·cases e':b i with
    |false=>rfl|true=>rw[mono _ i Q0 hn e']at c5;cases c5
  case fin=>rintro c L ⟨rfl,u,v,rfl,c1,c2,c3,c4⟩;exact Qw5
  case step=>
   rintro x c L _ hx ⟨rfl,u,v,rfl,c1,c2,c3,c4⟩;dsimp;by_cases g:v ≥ n-h;·rw[iP0 g];exact V2 Qw5
   ·rw[iN0 g];let g:h+v<n:=by omega
    calc Vs (ask _ g _ ?_);cases e:b (h+v) with
    |true=>calc V2 Qj8|false=>calc V2 QE9
 |false=>
  rw[iN0 Q2]
  unfold gDn;exact Vs (Vdk (Vbm (I:=λx c L=>L=st/\∃u v,c=Q1R/\u<v/\x<v/\u<=h/\b (h-u)=yw)
   (Q:=λc L=>L=st/\∃u v,c=Q1R/\u<v/\u<=h/\b (h-u)=yw/\(h+1<=v\/v<=h/\b QBf=yx)) ?step2 ?fin2 QO9) ?post2)
  case post2=>
   rintro c L ⟨rfl,u,v,rfl,c1,c2,c3,c4⟩;exact Ur9 (l:=h+1-min v QDf) (r:=h-u) Qd8 Qd8 QZW λi hi hn=>?_
   ·exact Xe6 c4 QTZ λc4 c5=>?_;·rw[Nat.min_eq_right c4,Nat.sub_self]at hi;exact aB0 hi QY5
    ·rw[Vcz (Nat.le_succ_of_le c4)]at hi;exact mono i QBf (by clear mono hQ ask;omega) (Vbk (Nat.sub_le _ _) hh) c5
   cases e':b i with
   |false=>rfl|true=>rw[mono _ i hi hn e']at c3;cases c3
  case fin2=>rintro c L ⟨rfl,u,v,rfl,c1,c2,c3,c4⟩;exact Qw5
  case step2=>
   rintro x c L _ hx ⟨rfl,u,v,rfl,c1,c2,c3,c4⟩;dsimp;by_cases g:v ≥ h+1;·rw[iP0 g];exact V2 ⟨rfl,u,v,rfl,c1,c3,c4,.inl g⟩
   ·rw[iN0 g];calc Vs QMS;cases e:b QBf with
    |false=>calc V2 Qj8|true=>calc V2 QE9
universe e
section
variable{Qqm}{W o c la lb:List α}
structure JnK(le:α->α->Prop)(W o la lb:Q7r):Prop where
 pm:(o++(la++lb)).Perm W
 so:o.Pairwise le
 sx:∀x∈o,∀y,y∈la\/y∈lb->Uz4
 sa:la.Pairwise le
 sb:lb.Pairwise le
def JnK.ta(h:JnK le W o (c++la) lb)(hx:∀x∈c,∀y∈lb,Uz4):U79:=by
 exact Xs (Vao.mp h.sa) λs1 s2 s3=>?_;calc⟨?_,Vao.mpr ⟨h.so,s1,λx hx y L=>h.sx x hx y (.inl QhS)⟩,λx q y L=>?_,s2,h.sb⟩;·let:=h.pm;simpa only[Ug] using this
 ·exact Xj QAc QG5 λq=>?_;·exact Uu2 (L.imp Qsg id)
  ·exact UcG λL=>?_;·exact s3 UEI
   ·calc hx UEI
def JnK.tb(h:JnK le W o la (c++lb))(hx:∀x∈c,∀y∈la,Uz4):U79:=by
 exact Xs (Vao.mp h.sb) λs1 s2 s3=>?_;calc⟨?_,Vao.mpr ⟨h.so,s1,λx hx y L=>h.sx x hx y (.inr QhS)⟩,λx q y L=>?_,h.sa,s2⟩;·calc List.Perm.trans ?_ h.pm;rw[Ug];calc Vhw o ?_;rw[<-Ug,<-Ug];exact List.perm_append_comm.append_right lb
 ·exact Xj QAc QG5 λq=>?_;·exact Uu2 (L.imp id Qsg)
  ·exact UcG λL=>?_;·exact hx UEI
   ·calc s3 UEI
theorem Srt(le:α->α->Prop)(W l:Q7r):Prop:=l.Perm W/\l.Pairwise le
def JnK.fin{Qfp}(hx:∀x∈la,∀y∈lb,Uz4):UED W (o++la++lb):=by calc⟨by rw[Ug];calc h.pm,?_⟩;rw[Ug];calc Vao.mpr ⟨h.so,Vao.mpr ⟨h.sa,h.sb,hx⟩,λx q y L=>Uu2 QmS⟩
def JnK.fin'{Qfp}(hx:∀x∈lb,∀y∈la,Uz4):UED W (o++lb++la):=by calc⟨by rw[Ug];calc(List.perm_append_comm.append_left o).trans h.pm,?_⟩;rw[Ug];calc Vao.mpr ⟨h.so,Vao.mpr ⟨h.sb,h.sa,hx⟩,λx q y L=>Uu2 QmS.symm⟩
universe e
abbrev Xfw:QEr->QEr->QRq QA4:=sortPriv% PySem.Builtin.mergeLo
abbrev Xhb:Nat->QRq Unit:=sortPriv% PySem.Builtin.setMinGallop
def X3f(g:Nat):Xhb g=modify λs=>UtC g Qrf:=rfl
private noncomputable abbrev Xtc:=QJw×Array Vl×Nat×Nat×Nat×Nat×Nat
private noncomputable abbrev LpM:=QRq (UjH)
section
variable{Qdm}
abbrev Xdf{Qwh}:QEr:=o++UCA++Uj8
abbrev Xhc{Qwh}:QEr:=o++Uj8++UCA
abbrev lo3{Qzh}:LpM:=do
 let x <- Vd2 a i
 if i+1+1==a.size then pure (.done (yz (U97 Qe5 Qq1 j),QKv,i+1,j,g,c,d))
 else if c<7&&d<7 then pure (.done QjJ)
 else pure (.yield QjJ)
abbrev lo2{Qzh}:LpM:=do
 let x <- Vd2 b j
 if j+1==b.size then pure QL7
 else
  let y <- Vd2 a i
  let r <- UiJ y b QiA (b.size-QiA) 0
  match r with
  |some k=>
   if k>0 then
    if j+1+k==b.size then pure (.done (yz (UE7 QSD i QDY),QKv++b.extract QiA QDY,i,j+1+k,g,c,k))
    else lo3 a b QSD i QDY g c k
   else lo3 a b Qe5 i QiA g c k|_=>pure QL7
abbrev lo1{Qzh}:LpM:=do
 Xhb g
 let x <- Vd2 b j
 let r <- UjG a i (a.size-i) 0
 match r with
 |some k=>
  if k>0 then
   if i+k+1==a.size then pure (.done (yz (Xhc UH6),o++QQv QXI,i+k,j,g,k,d))
   else if i+k==a.size then pure (.done (yz (Xdf UH6),o++QQv QXI,i+k,j,g,k,d))
   else lo2 UH6 g k d
  else lo2 a b Ud2 g k d|_=>pure (.done (yz QUS,o,i,j,g,c,d))
abbrev Xyw(t:Nat)(z:Xtc):QRq Xtc:=UNH λ_ z=>if z.2.2.2.2.1>1 then lo1 a b QAs QrR QYs else lo1 a b QAs UDI
private noncomputable abbrev X7k:=QJw×Array Vl×Nat×Nat×Nat×Nat
abbrev Xyx(t g:Nat)(z:X7k):QRq X7k:=UNH λ_ z=>do
 let y <- UyC
 let x <- UqG
 let r <- lt' y x
 match r with
 |some q=>
  if q then do
   let y <- UyC
   if z.2.2.2.1+1==b.size then pure (.done (yz (UE7 (UqI) z.2.2.1 (z.2.2.2.1+1)),UqI,z.2.2.1,z.2.2.2.1+1,0,z.2.2.2.2.2+1))
   else if z.2.2.2.2.2+1 ≥ g then pure (.done Qy7)
   else pure (.yield Qy7)
  else do
   let x <- UqG
   if z.2.2.1+1+1==a.size then pure (.done (yz (U97 (UrI) (z.2.2.1+1) z.2.2.2.1),UrI,z.2.2.1+1,z.2.2.2.1,z.2.2.2.2.1+1,0))
   else if z.2.2.2.2.1+1 ≥ g then pure (.done Qz7)
   else pure (.yield Qz7)|_=>pure (.done (yz (UE7 QAs),z.2.1,z.2.2.1,z.2.2.2.1,z.2.2.2.2.1,z.2.2.2.2.2))
private noncomputable abbrev X7l:=QJw×Array Vl×Nat×Nat×Nat
abbrev Xtd(t:Nat)(z:X7l):QRq X7l:=UNH λ_ z=>do
 let y <- Xyx UlE
 match y.1 with
 |some r=>pure Qx8|none=>do
  liftM QVI
  let x <- Xyw UE8 QC6
  match x.1 with
  |some r=>pure QU8|none=>do
   Xhb QtR
   pure QG8
universe e
def X7m{Qdm}:Xfw a b=(do
  liftM (rule "list.sort.merge-lo")
  let x <- Vd2 b 0
  if (1==b.size)=yx then pure (UE7 #[x] 0 1)
  else if (0+1==a.size)=yx then pure (U97 #[x] 0 1)
  else do
   let g <- get
   let z <- Xtd a b QNS (yy,#[x],0,1,gallopOf g)
   match z.1 with
   |some r=>Qjy
   |none=>liftM QM9):=by
 unfold Xtd;exact bind_congr λ_=>bind_congr λx=>?_;exact ite_congr rfl QD2 λ_=>ite_congr rfl QD2 λ_=>?_;exact bind_congr λg=>Xz ?_ λz=>?_
 ·calc U85 ?_;funext _ z;calc Xz rfl λy=>?_;let⟨y1,y2⟩:=y;cases y1 with
  |some r=>rfl|none=>exact bind_congr λ_=>Xz rfl λx=>?_;let⟨L,x2⟩:=x;cases L<;>rfl
 ·let⟨z1,z2⟩:=z;cases z1<;>rfl
structure Ord{QEi}:Prop where
 tr:∀ {x y z},R y x=yw->R z y=yw->R z x=yw
 as:∀ {x y},R x y=yx->R y x=yw
private abbrev LeK{QEi}(x y:Vl):Prop:=R y x=yw
theorem Xgl{QCi}(A:Uq)(E:VP)(s:Vc)(κ:Vdy){QEi}(mem:Vl->Prop):Prop:=
 ∀(x y:Vl) (st:V8) (Q:QJr->V8->Prop),mem x->mem y->Uy8=κ->Q (yz (R x y)) st->QQq (lt' x y) Uv1
theorem Glp(st L:V8):Prop:=∃g,L=Vib (Uy8) QJ QKB g QaV
def Glp.refl{Qmp}:Glp st st:=⟨gallopOf st,rfl⟩
def Glp.kind{st L:V8}(h:Qkx):Vaz L=Uy8:=by calc Xd h λg aa=>?_;subst aa;rfl
def Glp.trans{st aa ab:V8}(h:Glp st aa)(h':Glp aa ab):Glp st ab:=by calc Xd h λg L=>?_;subst L;calc Xd h' λg' L=>?_;subst L;calc⟨g',rfl⟩
abbrev kat{QJj}{QQl}:Vl:=a.getD i Q9Z
def Xcl{Qxj}:Q9y i=a[i]:=by simp![kat,h]
def Xjj{Qxj}:a[i]?=yz QH5:=by rw[getElem?_pos a i h];simp![kat,h]
def Yo{Qxj}:Q9y i∈a.toList:=by let:=Xjj h;rw[<-Ua]at this;calc Uc this
def Xmn{Qxj}:UPC=Q9y i::Ul9:=by rw[Vjm QN2,Xcl h,Vf4]
def Xed{Q4i}{Qfi}{y:Vl}(h:y∈a.toList.drop i):∃k,i<=k/\k<a.size/\y=Q9y k:=by
 exact Xd Q8a λk hk=>?_;rw[List.getElem?_drop]at hk;let hl:=(Vk.mp hk).1;let L:i+k<a.size:=by simpa using hl
 calc⟨i+k,by omega,L,?_⟩;let:=Xjj L;rw[<-Ua,hk]at this;cases this;rfl
def Xd5{Q4i}{i n:Nat}{y:Vl}(h:y∈QW3.take n):∃k,i<=k/\k<i+n/\k<a.size/\y=Q9y k:=by
 exact Xd Q8a λk L=>?_;rw[List.getElem?_take]at L;split at L
 ·rename_i q;exact Xa (Xed Qrg) λm _ _=>?_;rw[List.getElem?_drop]at L;let hl:=QLH.1;let aa:i+k<a.size:=by simpa using hl
  calc⟨i+k,by omega,by omega,aa,?_⟩;let:=Xjj aa;rw[<-Ua,L]at this;cases this;rfl
 cases L
def Xfx{QUp}(h:a.toList.Pairwise Qm1){Q6l}(L:i<j)(hj:j<a.size):Qhr QH5 QOb:=by let:=UqJ Q83 QqP L;rw[Vf4,Vf4]at this;rw[Xcl Q0,Xcl hj];calc this
section
variable{QCh}
def Yq{Q4i}{Qfi}{Qmp}{Q:Vl->V8->Prop}(h:i<a.size)(L:Q QH5 st):QQq (Vd2 a i) Uv1:=by rw[elem'_eq,Xjj h];calc V2 L
def Xhd{g:Nat}{Qmp}{Qim}(hQ:∀L,Qkx->Q () L):QQq (Xhb g) Uv1:=by rw[X3f];calc Vg5 (Ut2 ⟨g,rfl⟩)
variable{Q7i}
include Qjr
def Xte{Qih}
  (so:∀i j,q<=i->i<j->j<q+n->Qhr QiZ QhZ) (hh:h<n)
  (hQ:∀m,m<=n->(∀i,i<m->Qhr Qy1 key)->(∀i,m<=i->i<n->R key Qy1=yx)->Q QFO st):QQq (Xbr yw key xs q n h) Uv1:=by
 calc Xrq (λi=>!R key Qy1) QPP Q4N (λm hm a1 a2=>hQ m hm QZW λi hi hn=>?_) hh;·unfold byd;calc Q0v;show wpS Q5s (do let __x <- lt' key Qy1;pure (__x.map (!·))) _ _;exact Vs (UCC mk QdZ hk (V2 L))
 ·let e':R key QST=false:=by simpa using e
  show(!R key Qy1)=yx;by_cases c:i=j;·subst c;exact e
  ·let:=UvA;rw[hO.tr this e'];rfl
 ·let:=a1 i hi;simpa using this
 ·let:=a2 i hi hn;simpa using this
def Xtf{Qih}
  (so:∀i j,q<=i->i<j->j<q+n->Qhr QiZ QhZ) (hh:h<n)
  (hQ:∀m,m<=n->(∀i,i<m->UY5=yx)->(∀i,m<=i->i<n->Qhr key Qy1)->Q QFO st):QQq (UiJ key xs q n h) Uv1:=by
 calc Xrq (λi=>UY5) QPP Q4N (λm hm a1 a2=>UBG) hh;·unfold byd;calc Q0v;show wpS Q5s (lt' Qy1 key) _ _;exact UCC QdZ mk hk L
 ·show UY5=yx;by_cases c:i=j;·subst c;exact e
  ·let:=UvA;cases e2:UY5 with
   |true=>rfl|false=>let e3:R QST key=true:=e;rw[hO.tr e2 this]at e3;cases e3
universe e
section
variable{Qwk}
private abbrev Jo{Q9l}:Prop:=Q1t QW3 QZ6
def Xhe{QJj}{QQl}:(UCA).toList=UPC:=by rw[Vcp,Vcj];calc Va9 Q9
def Xhf{QJj}(i k:Nat):(QQv QXI).toList=QW3.take k:=by rw[Vcp,Vcj,show i+k-i=k by omega]
def Jo.fin{Q9i}(q:a.size<=i\/b.size<=j):Qvv QUS.toList:=by
 let:=JnK.fin h (λx hx y L=>by
  exact UbG λq=>?_;·rw[List.drop_of_length_le QP]at hx;cases hx
  ·rw[List.drop_of_length_le QP]at L;cases L)
 unfold Xdf;rw[Vah,Vah,Xhe,Xhe];calc this
def Jo.lst{Q9i}{Q4k}(q:i+1=a.size):Qvv (U97 Ud2).toList:=by let:=JnK.fin' h (λx hx y L=>hl x (Vei hx) y (by rw[<-q];calc L));unfold Xhc;rw[Vah,Vah,Xhe,Xhe];calc this
def Jo.ca{Q9i}(L:∀x∈QW3.take k,∀y∈b.toList.drop j,Qhr x y):Un5 QF4 QXI j:=by
 let h':Q1t (QW3.take k++a.toList.drop QXI) QZ6:=by rw[<-Vdf,Uo];exact h
 let:=h'.ta L;show JnK _ _ QF4.toList _ _;rw[Vah,Xhf];calc this
def Jo.cb{Q9i}(L:∀x∈QZ6.take k,∀y∈a.toList.drop i,Qhr x y):Un5 QkK i (j+k):=by
 let h':Q1t QW3 (QZ6.take k++b.toList.drop (j+k)):=by rw[<-Vdf,Uo];exact h
 let:=h'.tb L;show JnK _ _ QkK.toList _ _;rw[Vah,Xhf];calc this
def Jo.pa{Q9i}(hi:i<a.size){QSl}:Un5 UeI:=by
 let h':Q1t ([kat a i]++Ul9) QZ6:=by rw[Vhx,<-Xmn hi];exact h
 let:=h'.ta QwB;show QBt;rw[Vcv];calc this
def Jo.pb{Q9i}(hj:j<b.size){QUl}:Un5 QlW i QiA:=by
 let h':Q1t QW3 ([kat b j]++b.toList.drop QiA):=by rw[Vhx,<-Xmn hj];exact h
 let:=h'.tb QwB;show QBt;rw[Vcv];calc this
theorem JJ{QGh}{Qwh}:Prop:=Un5 Ud2/\i+1<a.size/\j<b.size/\N<=i+j
theorem Out{Q6o}:Prop:=QJD\/(z=yy/\JJ UO4 Ud2)
theorem LpQ{QGh}(st:V8)(r:UjH)(L:V8):Prop:=Qkx/\match r with
 |.done z=>Out UaI QAs|.yield z=>z.1=yy/\JJ UO4 QAs
def Xgm{Qwl}{x:Vl}(hx:Qhr x QH5):∀y∈a.toList.drop i,Qhr x y:=λy hy=>by
 exact Xe QQV λm h1 h2 L=>?_;subst L;by_cases c:i=m;·subst c;exact hx
 ·calc hO.tr hx (Xfx sa Q0 h2)
universe e
section
variable{Qyh}
variable{Q4h}{Q4k}
include hl
def Xv1(hg:Glp st0 st){Qqk}{QSl}:QQq (lo3 Q6t) QlC st:=by
 unfold lo3;calc Q0v;let h':=h.pa Q0 hx;by_cases q:i+1+1=a.size;·rw[iP0 QP];exact UuJ
 ·rw[iN0 QP];let L:JJ UO4 UeI:=⟨h',by omega,hj,by omega⟩;split;·exact V2 QdR
  ·calc V2 QTW
include Qlq
def Xv2{QDh}{Qqk}{QUl}:QQq (lo2 Q6t) QlC st:=by
 unfold lo2;calc Vs QxZ;let h':=h.pb hj hx;by_cases q:j+1=b.size;·rw[iP0 QP];exact V2 QoA
 ·rw[iN0 QP];calc Q0v;calc Vs Qf3;dsimp;let rest:∀y∈b.toList.drop (j+1+m),Qhr QH5 y:=λy hy=>by
   exact Xe QQV λk k1 k2 L=>?_;subst L;let:=a2 QCS Qtq;rw[show j+1+QCS=k by omega]at this;exact this
  by_cases z:m>0
  ·rw[iP0 z]
   let h2:=Jo.cb (k:=m) h' (λx hx y hy=>by
    exact Yg Qid λk k1 k2 k3 L=>?_;subst L;let:=a1 QCS Q0;rw[show j+1+QCS=k by omega]at this
    calc UK5 (hO.as this) y hy)
   by_cases q2:j+1+m=b.size;·rw[iP0 Qo0];exact V2 ⟨hg,.inl ⟨_,rfl,h2.fin QZc⟩⟩
   ·rw[iN0 Qo0];exact Xv1 hl hg h2 hi Qtq rest
  rw[iN0 z];let:m=0:=by omega
  subst this;calc Xv1 hl hg h' hi Qtq rest
def Xv3{QDh}{QXl}:QQq (lo1 Q6t) QlC st:=by
 exact Xeo h λh hi hj hN=>?_;unfold lo1;calc Vs (Xhd λac aa=>?_);let hg:=hg.trans aa;calc Vs QxZ;calc Vs (Xte Qjr QO2 (mb _ (Yo hj)) Q0 ma QnF Q0 λm hm a1 a2=>?_);dsimp;let rest:i+m<a.size->∀y∈a.toList.drop (i+m),Qhr QVD y:=λab=>UK5 (hO.as (a2 m Qa Q0));by_cases z:m>0
 ·rw[iP0 z]
  let h2:=Jo.ca (k:=m) h (λx hx y hy=>by
   exact Yg Qid λk k1 k2 k3 L=>?_;subst L;let:=a1 (k-i) Q0;rw[show i+(k-i)=k by omega]at this;exact Xe QQV λn n1 n2 L=>?_;subst L;by_cases e:j=n;·subst e;exact this
   ·calc hO.tr this (Xfx sb Q0 n2))
  by_cases q:i+m+1=a.size;·rw[iP0 QP];exact V2 ⟨hg,.inl ⟨_,rfl,h2.lst hl q⟩⟩
  ·rw[iN0 QP];by_cases q2:i+m=a.size;·rw[iP0 Qo0];exact V2 ⟨hg,.inl ⟨_,rfl,h2.fin (.inl Q0)⟩⟩
   ·rw[iN0 Qo0];exact Xv2 Qmu h2 UsE Q0 Q9b
 rw[iN0 z];let:m=0:=by omega
 subst this;calc Xv2 Qmu h hi hj hN Q9b
def X3g{QKl}{QXl}:QQq (Xyw UE8 (yy,o,i,j,g,c,d)) (λz st'=>QSs/\Out UaI QAs) st:=by
 unfold Xyw;calc Vbm (I:=λ_ z st'=>QSs/\z.1=yy/\JJ UO4 QAs) ?_ Q6E QuC;rintro _ z st' _ _ ⟨h1,h2,h3⟩;split;·exact Vdk QdC λr L q=>?_;cases r<;>exact q
 ·calc Vdk QdC λr L q=>?_;cases r<;>calc q
def X3h{QKl}(ht:0<t){QXl}:QQq (Xyx UE8 g (yy,o,i,j,0,0)) (λz st'=>QSs/\Out Qsq (N+1) z.1 QAs) st:=by
 unfold Xyx;calc Vbm (I:=λx z st'=>QSs/\z.1=yy/\JJ Qsq QyY QAs) ?_ QA3 ⟨hg,rfl,(by simpa using h:UNK QzY Ud2)⟩;rintro x ⟨z0,o,i,j,c,d⟩ st' _ _ ⟨hg,h2,h3⟩;calc Xeo h3 λh hi L hN=>?_;dsimp at h hi L hN |-;calc Vs (Yq L (Q0v));calc Vs (UCC (mb _ (Yo L)) Q6J QO2 ?_);cases e:R QVD QH5 with
 |true=>
  dsimp;rw[iP0 rfl];calc Vs (Yq L ?_);let h':=h.pb L (UK5 QES);by_cases q:j+1=b.size;·rw[iP0 QP];exact V2 QoA
  ·rw[iN0 QP];let jj:∀m,m<=N+1->UNK m QlW i QiA:=λm hm=>⟨h',hi,by omega,by omega⟩;split;·exact V2 QgF
   ·exact V2 Q9O|false=>
  dsimp;rw[iN0 Q2];calc Q0v;let h':=h.pa Q0 (Xgm (a:=b) hO sb e);by_cases q:i+1+1=a.size;·rw[iP0 QP];exact UuJ
  ·rw[iN0 QP];let jj:∀m,m<=N+1->UNK m UeI:=λm hm=>⟨h',by omega,L,by omega⟩;split;·exact V2 QgF
   ·calc V2 Q9O
def X3i{Qcn}(h:UNK 0 Ud2):QQq (Xtd UE8 (yy,o,i,j,g)) Qt6 st:=by
 unfold Xtd;calc Vbm (I:=λx z st'=>QSs/\z.1=yy/\JJ Qsq x QAs) ?_ (λz st' Qi1=>by let:=h3.2.1;let:=h3.2.2.1;let:=h3.2.2.2;omega) QuC;rintro x ⟨z0,o,i,j,g⟩ st' _ _ ⟨hg,h2,h3⟩;let hp:0<t:=by let:=h3.2.1;omega
 calc Vs (Vdk (X3h Qmu hp h3) λy ae q=>?_);exact Xi q λL q=>?_;let⟨y0,y1,y2,y3,y4,y5⟩:=y;exact UM5 λe h4=>?_;·subst e;exact V2 QJT
 ·subst e;calc Uw8;calc Vs (Vdk (X3g UyK) λz af q=>?_);exact Xi q λaa q=>?_;let⟨z0,z1,z2,z3,z4,z5,z6⟩:=z;exact UM5 λe h5=>?_;·subst e;exact V2 QfR
  ·subst e;calc Vs QTA
def X7n{QRj}(h0:Qhr QQL (Q9y 0)){Q3o}
  (hQ:∀r L,Qkx->Ub5->Q r L):QQq (Xfw a b) Uv1:=by
 rw[X7m];calc Uw8;calc Vs (Yq hb ?_);let j0:Un5 #[] 0 0:=⟨by rw[hW];calc Uy7,.nil,λx q=>QrZ,sa,sb⟩;let j1:Un5 #[kat b 0] 0 1:=j0.pb hb (UK5 h0);by_cases q:1=b.size;·rw[iP0 QP];exact V2 (Ut2 _ .refl (j1.fin QZc))
 ·rw[iN0 QP];by_cases q2:0+1=a.size;·rw[iP0 Qo0];exact V2 QtF
  ·rw[iN0 Qo0];calc U53;calc Vs (Vdk (X3i UVB ⟨j1,by omega,by omega,by omega⟩) λz L q=>?_);calc Xbx q λhg r e hr=>?_;let⟨z0,z1⟩:=z;subst e;calc V2 QVT
universe e
abbrev Xfy:QEr->QEr->QRq QA4:=sortPriv% PySem.Builtin.mergeHi
section
variable{Qdm}
abbrev Xdg{Qwh}:QEr:=Ud3++UQG++o.reverse
abbrev Xhg{Qwh}:QEr:=UQG++Ud3++o.reverse
private noncomputable abbrev Xtg:=QJw×Nat×Nat×Array Vl×Nat×Nat×Nat
private noncomputable abbrev HpM:=QRq (UiH)
private noncomputable abbrev Xyy:=QJw×Nat×Nat×Array Vl×Nat×Nat
private noncomputable abbrev X7o:=QJw×Nat×Nat×Array Vl×Nat
abbrev hi3{Qzh}:HpM:=do
 let x <- US5
 if i-1==0 then pure (.done (yz QbN,i-1,j,QKv,g,c,d))
 else if c<7&&d<7 then pure (.done QkJ)
 else pure (.yield QkJ)
abbrev hi2{Qzh}:HpM:=do
 let x <- UR5
 if j-1==1 then pure (.done (yz QZN,i,j-1,QKv,g,c,d))
 else
  let y <- US5
  let r <- UiJ y b 0 QWD (j-1-1)
  match r with
  |some k=>
   if j-1-k>0 then
    if k==1 then pure (.done (yz (Xhg a b Qb4 i k),i,k,QKv++QyP.reverse,g,c,j-1-k))
    else if k==0 then pure (.done (yz (UD7 Qb4 i k),i,k,QKv++QyP.reverse,g,c,j-1-k))
    else hi3 a b Qb4 i k g c Q8f
   else hi3 a b Qe5 i QWD g c Q8f|_=>pure (.done (yz (UD7 Qe5 i QWD),i,j-1,QKv,g,c,d))
abbrev hi1{Qzh}:HpM:=do
 Xhb g
 let x <- UR5
 let r <- UjG a 0 i Q5H
 match r with
 |some k=>
  if i-k>0 then
   if k==0 then pure (.done (yz (UD7 Qa7 k j),k,j,o++(UTG).reverse,g,i-k,d))
   else hi2 a b Qa7 k j g Q9f d
  else hi2 a b Ud2 g Q9f d|_=>pure (.done (yz Q5Q,i,j,o,g,c,d))
abbrev Xyz(t:Nat)(z:Xtg):QRq Xtg:=UNH λ_ z=>if z.2.2.2.2.1>1 then hi1 a b Q9s QrR QYs else hi1 a b Q9s UDI
abbrev X7p(g:Nat)(o:QEr)(i j c d:Nat):QRq (ForInStep Xyy):=do
 let y <- UR5
 let x <- US5
 let r <- lt' y x
 match r with
 |some q=>
  if q then do
   let x <- US5
   if i-1==0 then pure (.done (yz QbN,i-1,j,QKv,c+1,0))
   else if c+1 ≥ g then pure (.done QlJ)
   else pure (.yield QlJ)
  else do
   let x <- UR5
   if j-1==1 then pure (.done (yz QZN,i,j-1,QKv,0,d+1))
   else if d+1 ≥ g then pure (.done QmJ)
   else pure (.yield QmJ)|_=>pure (.done (yz Q5Q,i,j,o,c,d))
abbrev Xy0(t g:Nat)(z:Xyy):QRq Xyy:=UNH λ_ z=>X7p a b g Q9s z.2.2.2.2.1 z.2.2.2.2.2
abbrev Xth(t:Nat)(z:X7o):QRq X7o:=UNH λ_ z=>do
 let y <- Xy0 UlE
 match y.1 with
 |some r=>pure Qx8|none=>do
  liftM QVI
  let x <- Xyz UE8 QC6
  match x.1 with
  |some r=>pure QU8|none=>do
   Xhb QtR
   pure QG8
universe e
def X7q{Qdm}:Xfy a b=(do
  liftM (rule "list.sort.merge-hi")
  let x <- Vd2 a Qm7
  if (a.size-1==0)=yx then pure (UD7 #[x] Qm7 b.size)
  else if (b.size==1)=yx then pure (Xhg a b #[x] Qm7 b.size)
  else do
   let g <- get
   let z <- Xth a b QNS (yy,a.size-1,b.size,#[x],gallopOf g)
   match z.1 with
   |some r=>Qjy
   |none=>liftM QM9):=by
 unfold Xth;exact bind_congr λ_=>bind_congr λx=>?_;exact ite_congr rfl QD2 λ_=>ite_congr rfl QD2 λ_=>?_;exact bind_congr λg=>Xz ?_ λz=>?_
 ·calc U85 ?_;funext _ z;calc Xz rfl λy=>?_;let⟨y1,y2⟩:=y;cases y1 with
  |some r=>rfl|none=>exact bind_congr λ_=>Xz rfl λx=>?_;let⟨L,x2⟩:=x;cases L<;>rfl
 ·let⟨z1,z2⟩:=z;cases z1<;>rfl
section
variable{Qwk}
def Srt.rev{Q7h}{Qqm}{W l:Q7r}(h:Srt (λx y=>le y x) W l):UED W l.reverse:=⟨(Vjf l).trans h.1,Vhy.mpr h.2⟩
private abbrev Jh{Q9l}:Prop:=JnK (λx y=>URD) W o.toList Qa9.reverse (b.toList.take j).reverse
def Xm3{QJj}{QQl}:(Ud3).toList=a.toList.take i:=by rw[Vcp,Vcj];simp!
def Xfz{y:Vl}(h:y∈a.toList.take i):∃k,k<i/\k<a.size/\y=Q9y k:=by let h':y∈(a.toList.drop 0).take i:=h;calc Yg (Xd5 h') λk _ h2 L e=>?_;calc⟨k,by omega,L,e⟩
def Xop(h0:0<i)(h:i<=a.size):Qa9.reverse=[kat a Q5H]++(a.toList.take Q5H).reverse:=by calc Xd (⟨i-1,by omega⟩:∃m,i=m+1) λm L=>?_;subst L;rw[Nat.add_sub_cancel,Vev QKS,Vge,Xcl Q0,Vf4];rfl
def Xrr(L:k<=i):Qa9.reverse=(UTG).reverse.toList++(a.toList.take k).reverse:=by rw[Vej,Vcp,Vcj,<-Vge];congr 1;rw[<-Uo k Qa9,Viv,Vcz L,Viw]
def Jh.fin{QAi}(q:i=0\/j=0):Qvv (UD7 Ud2).toList:=by
 let:=(JnK.fin' h (λx hx y L=>by
  exact UbG λq=>?_;·subst q;simp! at L
  ·subst q;simp! at hx)).rev
 unfold Xdg;rw[Vah,Vah,Xm3,Xm3,Vej];simpa [Vge] using this
def Jh.lst{QAi}{Qnj}(q:j=1):Qvv (Xhg a b Ud2).toList:=by
 let:=(JnK.fin h (λx hx y hy=>by
  subst q;exact Xe (Xfz (Vco.mp hy)) λm h1 h2 L=>?_;subst L;obtain rfl:m=0:=by omega
  calc hl x (Vic (Vco.mp hx)))).rev
 unfold Xhg;rw[Vah,Vah,Xm3,Xm3,Vej];simpa [Vge] using this
def Jh.pa{QAi}{Qao}{QRl}:Uo5 UfI:=by let h':=h;unfold Jh at h';rw[Xop h0 hi]at h';let:=h'.ta QI9;show QBt;rw[Vcv];calc this
def Jh.pb{QAi}(h0:0<j)(hj:j<=b.size){QTl}:Uo5 QkW i QWD:=by let h':=h;unfold Jh at h';rw[Xop (a:=b) h0 hj]at h';let:=h'.tb QI9;show QBt;rw[Vcv];calc this
def Jh.ca{QAi}(hk:k<=i)(hx:∀x,(∃m,k<=m/\m<i/\x=Q9y m)->∀y∈b.toList.take j,URD):Uo5 Qa7 k j:=by
 let h':=h;unfold Jh at h';rw[Xrr hk]at h';let:=h'.ta (λx q y L=>by
  rw[Vej,Vco,Vcp,Vcj]at q;exact Yg Qbf λm m1 m2 m3 e=>?_
  calc U4F)
 show UZ4;rw[Vah];calc this
def Jh.cb{QAi}(hk:k<=j)(hx:∀x,(∃m,k<=m/\m<j/\x=kat b m)->∀y∈a.toList.take i,URD):Uo5 (o++(b.extract k j).reverse) i k:=by
 let h':=h;unfold Jh at h';rw[Xrr (a:=b) hk]at h';let:=h'.tb (λx q y L=>by
  rw[Vej,Vco,Vcp,Vcj]at q;exact Yg Qbf λm m1 m2 m3 e=>?_
  calc U4F)
 show UZ4;rw[Vah];calc this
theorem JK{QGh}{Qwh}:Prop:=Uo5 Ud2/\0<i/\i<=a.size/\1<j/\j<=b.size/\i+j+N<=a.size+b.size
theorem Xy1{Q6o}:Prop:=QJD\/(z=yy/\JK UO4 Ud2)
theorem HpQ{QGh}(st:V8)(r:UiH)(L:V8):Prop:=Qkx/\match r with
 |.done z=>Xy1 UaI Q9s|.yield z=>z.1=yy/\JK UO4 Q9s
def Xjk{Qwl}{Qao}{x:Vl}(hx:Qhr Qv4 x):∀y∈a.toList.take i,URD:=λy hy=>by
 exact Xe QPV λm h1 h2 L=>?_;subst L;by_cases c:m=i-1;·subst c;exact hx
 ·calc hO.tr (Xfx sa Qtq) hx
universe e
section
variable{Qyh}
variable{Q4h}{Qnj}
def Xv4(hg:Glp st0 st){Q3j}{QRl}:QQq (hi3 Q6t) QmC st:=by
 unfold hi3;calc Q0v;let h':=h.pa h0 hi hx;by_cases q:i-1=0;·rw[iP0 QP];exact V2 QvA
 ·rw[iN0 QP];let L:JK UO4 UfI:=QwA;split;·exact V2 QdR
  ·calc V2 QTW
include hl Qlq
def Xv5{QDh}{Q3j}{QTl}:QQq (hi2 Q6t) QmC st:=by
 unfold hi2;calc Q0v;let h':=h.pb UsE hx;by_cases q:j-1=1;·rw[iP0 QP];exact UuJ
 ·rw[iN0 QP];calc Q0v;calc Vs Qf3;simp[Vet]at a1 a2;dsimp;let rest:∀y∈b.toList.take m,Qhr y Qv4:=λy hy=>by
   exact Xe QPV λk k1 k2 L=>?_;subst L;exact hO.as (a1 k k1)
  by_cases z:j-1-m>0
  ·rw[iP0 z]
   let h2:=Jh.cb (k:=m) h' Q0 (λx hx y hy=>by
    exact Xe hx λk k1 k2 L=>?_;subst L
    calc UXC Q6X y hy)
   by_cases q2:m=1;·rw[iP0 Qo0];exact V2 ⟨hg,.inl ⟨_,rfl,h2.lst hl q2⟩⟩
   ·rw[iN0 Qo0];by_cases q3:m=0;·rw[iP0 QnP];exact V2 ⟨hg,.inl ⟨_,rfl,h2.fin (.inr q3)⟩⟩
    ·rw[iN0 QnP];exact Xv4 hg h2 UuK
  rw[iN0 z];obtain rfl:m=j-1:=by omega
  calc Xv4 hg h' UuK
def Xv6{QDh}{QWl}:QQq (hi1 Q6t) QmC st:=by
 exact Xag h λh h0 hi j1 hj hN=>?_;unfold hi1;calc Vs (Xhd λab aa=>?_);let hg:=hg.trans aa;calc Q0v;calc Vs (Xte Qjr QO2 QeZ Q0 ma QnF Q0 λm hm a1 a2=>?_);simp[Vet]at a1 a2;dsimp;let rest:∀y∈a.toList.take m,Qhr y Qb7:=λy hy=>by exact Xe QPV λk k1 k2 L=>?_;subst L;exact a1 k k1
 by_cases z:i-m>0
 ·rw[iP0 z]
  let h2:=Jh.ca (k:=m) h Q0 (λx hx y hy=>by
   exact Xe hx λk k1 k2 L=>?_;subst L
   calc U80 UsE (hO.as Q6X) y hy)
  by_cases q:m=0;·rw[iP0 QP];exact V2 ⟨hg,.inl ⟨_,rfl,h2.fin QZe⟩⟩
  ·rw[iN0 QP];exact Xv5 Qmu h2 Qtq j1 hj Q0 rest
 rw[iN0 z];obtain rfl:m=i:=by omega
 calc Xv5 Qmu h h0 hi j1 hj hN rest
def X3j{QKl}{QWl}:QQq (Xyz UE8 (yy,i,j,o,g,c,d)) (λz st'=>QSs/\Xy1 UaI Q9s) st:=by
 unfold Xyz;calc Vbm (I:=λ_ z st'=>QSs/\z.1=yy/\JK UO4 Q9s) ?_ Q6E QuC;rintro _ z st' _ _ ⟨h1,h2,h3⟩;split;·exact Vdk QcC λr L q=>?_;cases r<;>exact q
 ·calc Vdk QcC λr L q=>?_;cases r<;>calc q
universe e
section
variable{Qyh}
variable{Q4h}{Qnj}
include hl Qlq
def X3k{QKl}(ht:0<t){QWl}:QQq (Xy0 UE8 g (yy,i,j,o,0,0)) (λz st'=>QSs/\Xy1 Qsq (N+1) z.1 Q9s) st:=by
 unfold Xy0;calc Vbm (I:=λx z st'=>QSs/\z.1=yy/\JK Qsq QyY Q9s) ?_ QA3 ⟨hg,rfl,(by simpa using h:UMK QzY Ud2)⟩;rintro x ⟨z0,i,j,o,c,d⟩ st' _ _ ⟨hg,h2,h3⟩;calc Xag h3 λh h0 hi j1 hj hN=>?_;dsimp at h h0 hi j1 hj hN |-;unfold X7p;calc Vs QFR;calc Vs (UCC QeZ Q6J QO2 ?_);cases e:R Qb7 Qv4 with
 |true=>
  dsimp;rw[iP0 rfl];calc Q0v;let h':=h.pa h0 hi (U80 UsE QES);by_cases q:i-1=0;·rw[iP0 QP];exact V2 QvA
  ·rw[iN0 QP];let L:∀m,m<=N+1->UMK m UfI:=λm hm=>QwA;split;·exact V2 QHG
   ·exact V2 QCP|false=>
  dsimp;rw[iN0 Q2];calc Q0v;let h':=h.pb UsE (UXC e);by_cases q:j-1=1;·rw[iP0 QP];exact UuJ
  ·rw[iN0 QP];let L:∀m,m<=N+1->UMK m QkW i QWD:=λm hm=>⟨h',h0,hi,by omega,by omega,by omega⟩;split;·exact V2 QHG
   ·calc V2 QCP
def X3l{Qcn}(h:UMK 0 Ud2):QQq (Xth UE8 (yy,i,j,o,g)) Qt6 st:=by
 unfold Xth;calc Vbm (I:=λx z st'=>QSs/\z.1=yy/\JK Qsq x Q9s) ?_ (λz st' Qi1=>by let:=h3.2.1;let:=h3.2.2.2.1;let:=h3.2.2.2.2.2;omega) QuC;rintro x ⟨z0,i,j,o,g⟩ st' _ _ ⟨hg,h2,h3⟩;let hp:0<t:=by let h5:=h3.2.1;let h6:=h3.2.2.1;dsimp at h5 h6;omega
 calc Vs (Vdk (X3k Qmu hp h3) λy ae q=>?_);exact Xi q λL q=>?_;let⟨y0,y1,y2,y3,y4,y5⟩:=y;exact UM5 λe h4=>?_;·subst e;exact V2 QJT
 ·subst e;calc Uw8;calc Vs (Vdk (X3j UyK) λz af q=>?_);exact Xi q λaa q=>?_;let⟨z0,z1,z2,z3,z4,z5,z6⟩:=z;exact UM5 λe h5=>?_;·subst e;exact V2 QfR
  ·subst e;calc Vs QTA
def X7r{QRj}(hz:Qhr (kat b (b.size-1)) (Q9y Qm7)){Q3o}
  (hQ:∀r L,Qkx->Ub5->Q r L):QQq (Xfy a b) Uv1:=by
 rw[X7q];calc Uw8;calc Q0v;let j0:Uo5 #[] a.size b.size:=by
  calc⟨?_,.nil,λx q=>QrZ,?_,?_⟩;·rw[hW,Va9 Q9,Va9 Q9];exact Qnf.append Qnf
  ·rw[Va9 Q9];exact Vhy.mpr sa
  rw[Va9 Q9];exact Vhy.mpr sb
 let j1:Uo5 #[kat a Qm7] Qm7 b.size:=j0.pa ha Qa (U80 hb Qa hz);by_cases q:a.size-1=0;·rw[iP0 QP];exact V2 (Ut2 _ .refl (j1.fin QZe))
 ·rw[iN0 QP];by_cases q2:b.size=1;·rw[iP0 Qo0];exact V2 QtF
  ·rw[iN0 Qo0];calc U53;calc Vs (Vdk (X3l UVB ⟨j1,by omega,by omega,by omega,by omega,by omega⟩) λz L q=>?_);calc Xbx q λhg r e hr=>?_;let⟨z0,z1⟩:=z;subst e;calc V2 QVT
universe e
abbrev X7s{QWn}(r:QEr):Uw3:=do
 modify λs=>setArr s (r.toList.zipIdx.foldl (λa (z,j)=>a.setIfInBounds Q3S z) QmD)
 let s <- get
 pure Qrf.isNone
abbrev Xy2(s:V8)(p n q m:Nat):Uw3:=do
 let x <- Vd2 QmD q
 let r <- UjG QmD p n 0
 match r with
 |some k=>
  if (n-k==0)=yx then pure yx else do
   let x <- Vd2 QmD (p+k+(n-k)-1)
   let r <- UiJ x QmD q m QHb
   match r with
   |some m=>if (m==0)=yx then pure yx else if n-k<=m then Xfw QtL QsL >>= X7s Q2S else Xfy QtL QsL >>= X7s Q2S|_=>Q6y
 |_=>Q6y
def X7t(i p n v q m v':Nat)(s:V8)(L:QrD[i]?=yz QCb)(e2:QrD[i+1]?=yz QLg):QNL.run s=(do
  set Qm4
  Xy2 s p n q m:Uw3).run s:=by
 let h:mergeAt' i=(get >>= λs=>match QrD[i]?,QrD[i+1]? with
  |some QCb,yz (q,m,_)=>(do
   set Qm4
   Xy2 s p n q m:Uw3)
  |_,_=>liftM (Vfj "internal:list.sort.pending" : UGH)):=by
  calc bind_congr λs=>?_;cases QrD[i]? with
  |none=>rfl|some x=>
   let⟨p,n,v⟩:=x;cases QrD[i+1]? with
   |none=>rfl|some y=>
    let⟨q,m,v'⟩:=y;calc bind_congr λ_=>Xz rfl λx=>Xz rfl λr=>?_;cases r with
    |none=>rfl|some k=>
     calc ite_congr rfl QD2 λ_=>Xz rfl λx=>Xz rfl λr=>?_;cases r with
     |none=>rfl|some m=>exact ite_congr rfl QD2 λ_=>ite_congr rfl QD2 λ_=>rfl
 rw[h,StateT.run_bind,StateT.run_get,pure_bind];simp[L,e2]
def Xoq(q:Nat):∀(l:List Vl) (k:Nat) (a:QEr),q+k+UyA<=a.size->((l.zipIdx k).foldl (λa p=>a.setIfInBounds (q+p.2) p.1) a).toList=Uk9++l++a.toList.drop (q+k+UyA)
 |[]=>λk a h=>by simp!|x::l=>λk a h=>by
  rw[U5]at h;rw[List.zipIdx_cons,Vcg,Xoq q l QB3 _ (by rw[Vjr];omega),Vf8];let hl:q+k<lg a.toList:=by rw[Vy];omega
  let L:(a.toList.set Que x).take (q+QB3)=Uk9++[x]:=by rw[show q+QB3=q+k+1 by omega,Vev (by rw[Vb3];calc hl),List.getElem_set_self,List.take_set_of_le Qa]
  rw[L,List.drop_set_of_lt Q0,U5,show q+QB3+lg l=q+k+(lg l+1) by omega];simp!
section
variable{Qqm}{U V Z':List α}{k m:Nat}
def Yd8(hU:U.Pairwise le)(hV:V.Pairwise le)(h1:∀x∈U.take k,∀y∈V,Uz4)(h2:∀x∈U,∀y∈V.drop m,Uz4)(hZ:UED QdM Z'):UED (U++V) (U7H++(Z'++UzG)):=by
 exact Xi hZ λz1 z2=>?_;let aa:(U7H++U.drop k).Pairwise le:=by rw[Uo];exact hU
 let ab:(V.take m++UzG).Pairwise le:=by rw[Uo];exact hV
 exact Xs (Vao.mp aa) λu1 u2 u3=>?_;exact Xs (Vao.mp ab) λv1 v2 v3=>?_;exact⟨?_,Vao.mpr ⟨u1,Vao.mpr ⟨z2,v2,λx L y hy=>?_⟩,λx L y hy=>?_⟩⟩
 ·let e:U++V=U7H++(QdM++UzG):=by
   rw[Ug,Uo,<-Ug,Uo]
  rw[e];exact(z1.append_right _).append_left _
 ·exact Xj (Ut.mp (z1.mem_iff.mp L)) QG5 λq=>?_;·exact h2 x Qpf y hy
  ·exact v3 x q y hy
 exact Xj (Ut.mp hy) QG5 λq=>?_
 ·exact Xj (Ut.mp (z1.mem_iff.mp q)) QG5 λq=>?_;·exact u3 x L y q
  ·exact h1 x L y (Vic q)
 calc h1 x L y Qpf
universe e
theorem KeepK(a a':QEr)(p q:Nat):Prop:=a'.Perm a/\∀k,k<p\/q<=k->kat a' k=Q9y k
theorem SegS{QEi}{QJo}:Prop:=∀i j,i<j->j<n->Qhr Q9Y QBY
def Xd6{Q4i}{q n:Nat}(h:q+n<=a.size):(Q1Q.take n).length=n:=by rw[Vaq,Vbu,Vy];omega
def Xv7{QUp}{p n:Nat}(h:UdD n)(x y:Nat)(h1:p<=x)(h2:x<y)(h3:y<p+n):Qhr (Q9y x) (Q9y y):=by calc Xd (Vdr h1) λx L=>?_;subst L;calc Xd (Vdr (Uh h1 (Vc3 h2))) λy L=>?_;subst L;calc h x y (Vgk h2) (Vgk h3)
def Xe8{Q4i}{q n:Nat}{z:Vl}(h:z∈Q1Q.take n):∃x,x<n/\q+x<a.size/\z=Q9y (q+x):=by calc Yg (Xd5 h) λj j1 j2 j3 L=>?_;subst L;calc Xd (Vdr j1) λx L=>?_;subst L;calc⟨x,Vgk j2,j3,rfl⟩
def Ord.rf{QDi}(h:Ord R)(x:Vl):Qhr x x:=by
 cases e:R x x with
 |false=>calc e|true=>let:=h.as e;rw[e]at this;cases this
def KeepK.size{a a':QEr}{Qmn}(h:Uo7 a' p q):a'.size=a.size:=h.1.size_eq
def KeepK.rf{Q4i}{Qmn}:Uo7 a p q:=⟨Uy7,λ_ _=>rfl⟩
def KeepK.trans{a b c:QEr}{Qmn}{Q9n}(h':KeepK b c p q):Uo7 c p q:=⟨h'.1.trans h.1,λk L=>(h'.2 k L).trans (h.2 k L)⟩
def KeepK.seg{QDi}{a b:QEr}{p q i n:Nat}{Q9n}(L:i+n<=p\/q<=i)(hs:QNt a i n):QNt b i n:=λx y h1 h2=>by rw[h.2 (i+x) Q0,h.2 (i+y) Q0];calc hs x y Qwq
def KeepK.mem{mem:Vl->Prop}{a b:QEr}{Qmn}{Q9n}(hm:∀x∈a.toList,mem x):∀x∈b.toList,mem x:=λx L=>hm x ((Vee.mp h.1).mem_iff.mp L)
def Xis{Q4i}{Qfi}:Q9y i=a.toList.getD i Q9Z:=by unfold kat;rw[Vfz,Vbd,Ua]
def Xor{QUp}{A U B:List Vl}(e:a.toList=A++(U++B)):QNt a A.length U.length ↔ U.Pairwise Qm1:=by
 let hk:∀i (h:i<lg U),Q9y (lg A+i)=U[i]:=λi h=>by rw[Xis,e,Vbd,U3 Q0,show (lg A)+i-lg A=i by omega,Vx h,Vac h];rfl
 rw[Vgi];calc⟨λh i j hi hj L=>?_,λh i j L hj=>?_⟩;·let:=UGC L hj;rw[hk i hi,hk j hj]at this;exact this
 ·rw[hk i Q0,hk j hj];calc UGC UsE L
def Yd9{QJo}:a.toList=a.toList.take p++(Q2Q.take n++a.toList.drop Q0C):=by rw[<-Vdf,Uo,Uo]
def Xe9{QUp}{p n:Nat}(h:p+n<=a.size):UdD n ↔ (Q2Q.take n).Pairwise Qm1:=by let:=Xor (R:=R) (Yd9 a p n);rwa [Vaq,Vaq,Vbu,Vy,show min p a.size=p by lia,show min n (a.size-p)=n by lia]at this
section
variable{QCh}{Qmp}
variable{Q7i}
include Qjr
def X7u{β:Type}{f:QEr->QRq β}{x y:QEr}{n m:Nat}{W:List Vl}{Q:β->V8->Prop}(hk:Uy8=κ)(mx:∀z∈x.toList,mem z)(my:∀z∈y.toList,mem z)(sx:x.toList.Pairwise Qm1)(sy:y.toList.Pairwise Qm1)(x0:0<x.size)(y0:0<y.size)
  (h1:∀z∈x.toList,Qhr (kat y 0) z) (h2:∀z∈y.toList,Qhr z (kat x (x.size-1))) (hW:W=x.toList++y.toList) (hQ:∀r L,Qkx->Ub5->QQq (f r) Q L):
  wpS QCw E s (if n<=m then Xfw x y >>= f else Xfy x y >>= f) Uv1:=by
 split;·calc Vs (X7n UbI (λz hz u hu=>?_) hk x0 y0 (h1 _ (Yo x0)) hW hQ);exact Xe (Xed hu) λk k1 k2 aa=>?_;subst aa;rw[show k=x.size-1 by omega];exact h2 z hz
 ·calc Vs (X7r UbI h1 hk x0 y0 (h2 _ Q58) hW hQ)
def X7v{i p n v q m v':Nat}{Qkm}{QMn}(ma:∀x∈QJ.toList,mem x)(e1:QKB[i]?=yz QCb)(e2:QKB[i+1]?=yz QLg)
  (hq:q=p+n) (hn:0<n) (hm:0<m) (hz:q+m<=QJ.size) (s1:UeD p n) (s2:UeD q m)
  (hQ:∀ab,Vaz ab=κ->Vcw ab=yy->Uu ab=U42->KeepK QJ Qmf p (q+m)->QNt Qmf p (n+m)->Q yx ab):
  wpS QCw E s QNL Uv1:=by
 subst hq;unfold wpS;rw[X7t i p n v Q0C m v' st e1 e2];show QQq (_:Uw3) Q st;calc Vs (Vg5 (f:=λ_=>setPending st (U42)) ?_);unfold Xy2;calc Q0v;let ae:∀x y,p<=x->x<y->y<p+n->Qhr QkZ QjZ:=Xv7 s1;let ac:∀x y,p+n<=x->x<y->y<p+n+m->Qhr QkZ QjZ:=Xv7 s2;calc Vs (Xte UhF ae hn λk af a1 a2=>?_);dsimp;let fin:(∀x,x<n->Qhr QqW (Qew Q0C))->UeD p (n+m):=λh x y h1 h2=>by
  by_cases c1:y<n;·exact s1 x y h1 c1
  ·by_cases c2:n<=x;·let:=ac QbP (p+y) Ul4;exact this
   ·let g1:=h x Q0;by_cases c3:y=n;·subst c3;exact g1
    ·exact hO.tr g1 (ac Q0C (p+y) Ul4)
 exact Xd (Vdr af) λd L=>?_;subst L;rw[Vct];by_cases c:d=0;·rw[iP0 QI6];exact V2 (U6D rfl .rf (fin λx hx=>a1 x Q0))
 ·rw[iN0 QI6];exact Xd (⟨d-1,by omega⟩:∃e,d=e+1) λd L=>?_;subst L;clear c;rw[show p+k+QxF-1=p+k+d from rfl];calc Q0v;calc Vs (Xtf UhF ac Q0 λm' ah b1 b2=>?_);dsimp;exact Xd (Vdr ah) λe L=>?_;subst L;let aa:∀x,x<Ql->Qhr QqW (Qew (p+k+d)):=λx hx=>by
   by_cases dd:x=k+d;·subst dd;rw[<-Vhm];exact Ut0
   ·exact ae QXw Q0
  by_cases c':m'=0;·rw[iP0 QrP];exact V2 (U6D rfl .rf (fin λx hx=>hO.tr (aa x hx) (b2 0 Q0 hm)))
  ·rw[iN0 QrP];let ex:QM5.toList=Uf5:=by
    let:=Xhf QJ Q2S QvY;rwa [show p+k+QvY=p+Ql by omega]at this
   let ey:=Xhf QJ QMg m';let zx:QM5.size=QxF:=by rw[<-Vy,ex,Ut8]
   let zy:QI7.size=m':=by rw[<-Vy,ey,Ut8]
   let kx:∀x,x<QxF->kat QM5 x=Qew (p+k+x):=λx hx=>by rw[Xcl (by rw[zx];calc hx),Xcl Q0,Array.getElem_extract]
   let ky:∀x,x<m'->kat QI7 x=Qew Q4d:=λx hx=>by rw[Xcl (by rw[zy];calc hx),Xcl Q0,Array.getElem_extract]
   let ai:∀z∈QM5.toList,∃x,k<=x/\x<Ql/\z=Qew QbP:=λz hz=>by rw[ex]at hz;exact Xe Qfd λx j2 _ L=>?_;subst L;exact⟨k+x,Vht ..,Nat.add_lt_add_left j2 k,by rw[Vhm]⟩
   let ag:∀z∈QI7.toList,∃x,x<m'/\z=Qew Q4d:=λz hz=>by rw[ey]at hz;exact Xe Qfd λx j2 _ e=>?_;exact⟨x,j2,e⟩
   exact X7u Qjr (W:=Uf5++QX0.take m') hk Q8F Q8F ?_ ?_ (by rw[zx];omega) (by rw[zy];omega) Q8F Q8F (by rw[ex,ey]) λr ak hg hr=>?_;·exact Xe Qeb λx x1 x2 L=>?_;subst L;exact ma _ Q58
   ·exact Xa Qfb λx x1 L=>?_;subst L;exact ma _ Q58
   ·rw[ex,<-Xe9 Q0];exact λx y h1 h2=>ae QXw Q0
   ·rw[ey,<-Xe9 Q0];exact λx y h1 h2=>ac QXw Q0
   ·exact Xe Qeb λx x1 x2 L=>?_;subst L;rw[ky 0 Q0];exact hO.as (a2 x x1 x2)
   ·exact Xa Qfb λx x1 L=>?_;subst L;rw[zx,kx _ Q0,show p+k+(QxF-1)=p+k+d from rfl];exact hO.as (b1 x x1)
   -- what is laid back
   exact Xd hg λg L=>?_;subst L;calc Vs (Vg5 (U53));let aj:QaV.isNone=true:=by rw[hf];rfl
   calc V2 (show Q QaV.isNone _ from ?_);rw[aj];let lr:(lg r.toList)=QxF+m':=by rw[hr.1.length_eq,Vw,Ut8,Ut8]
   let lay:=Xoq Q2S r.toList 0 QJ QJS;let hU:=(UC7 (p:=p) (n:=Ql) Q0).mp s1;let hV:=(UC7 (p:=p+Ql) (n:=QJF) Q0).mp s2;let eU:Uf5=QuD.drop k:=by rw[Viw,Vdf,Vct]
   let eV:QX0.take m'=Qf9.take m':=by rw[Viv,Vcz ah]
   let gl:=Yd8 (k:=k) (m:=m') hU hV QJP QJP (Z':=r.toList) (by rw[<-eU,<-eV];calc hr)
   ·let eA:QS0.toList=(U81).toList.take p++(U5A++QqJ++(U81).toList.drop QcP):=by
     rw[lay,lr,Ug];let t1:(U81).toList.take (p+k+0)=(U81).toList.take p++U5A:=by rw[Nat.add_zero,Viv,Vcz af,List.take_add]
     let t2:(U81).toList.drop (p+k+0+QEe)=Qf9.drop m'++(U81).toList.drop QcP:=by rw[Viw,Vdf,show p+k+0+QEe=p+Ql+m' by omega,Vct];let:=(Uo e ((U81).toList.drop (p+Ql+m'))).symm;rwa [Vdf,Vhm QMg m' e]at this
     rw[t1,t2];simp[Ug]
    let eB:QJ.toList=(U81).toList.take p++(QXH++(U81).toList.drop QcP):=by rw[Ug,<-Vdf (i:=QJF),Uo,<-Vdf,Uo,Uo]
    let lU:(U5A++QqJ).length=Ql+QJF:=by rw[gl.1.length_eq,Vw,Ut8,Ut8]
    let lA:((U81).toList.take p).length=p:=by rw[Vaq,Vy];omega
    calc U6D rfl ⟨?_,λj hj=>?_⟩ ?_;·show Array.Perm QS0 _;rw[Vee,eA];exact(((gl.1.append_right _).append_left _).trans (by rw[<-eB]))
    ·show kat QS0 j=_;rw[Xis,Xis,eA];let lW:QXH.length=Ql+QJF:=by rw[<-gl.1.length_eq,lU]
     rw[Vbd,Vbd]
     conv=>rhs;rw[eB]
     exact Xj hj (λhj=>?_) λhj=>?_;·rw[Vx Q0,Vx Q0]
     ·rw[U3 Q0,U3 Q0,U3 Q0,U3 Q0,lU,lW]
    show QNt QS0 p (Ql+QJF);let:=(Xor (R:=R) eA).mpr gl.2;rwa [lA,lU]at this
   ·rw[Viv,Vcz af]at hx;exact Xe Qhd λj j2 _ L=>?_;subst L;exact Xe Qgd λl l2 _ L=>?_;subst L;let g:=a1 j j2;by_cases dd:l=0;·subst dd;exact g
    ·exact hO.tr g (ac UTI Qtq)
   rw[Viw,Vdf]at hy;calc Xe Qhd λj j2 _ L=>?_;subst L;calc Xe Qgd λl l2 _ L=>?_;subst L;rw[Vct]at l2;let g:=b2 (m'+l) (Vht ..) (Nat.add_lt_add_left l2 _);rw[<-Vhm]at g;calc hO.tr (aa j j2) g
universe e
abbrev upL(q a n:Nat):QRq (QSy×Nat):=forIn [a:n] (yy,a) λ_ z=>do
 let x <- ltAt' Qte QBb
 match x with
 |some y=>if y=yx then QMx else pure (.yield (yy,z.2+1))|_=>UV8
abbrev upE(q m n:Nat):UZD:=do
 Vhn q (q+m)
 let z <- upL q m n
 match z.1 with
 |some r=>Qjy|none=>UxF
abbrev dnL(q a n:Nat):QRq (QSy×Nat×Nat):=forIn [a:n] (yy,a,0) λ_ z=>do
 let x <- ltAt' QKL Q5Y
 match x with
 |some y=>
  if y=yx then
   if z.2.2>0 then do
    Vhn QIN QKL
    pure QPK
   else pure QPK
  else do
   let x <- ltAt' Q5Y QKL
   match x with
   |some y=>if y=yx then pure (.done (yy,z.2.1,z.2.2)) else pure (.yield (yy,z.2.1+1,z.2.2+1))|_=>pure QiH
 |_=>pure QiH
abbrev dnE(q m n:Nat):UZD:=do
 liftM (rule "list.sort.descending-run")
 let z <- dnL q Q1C n
 match z.1 with
 |some r=>Qjy|none=>
  if z.2.2>0 then do
   Vhn QIN QKL
   upE q z.2.1 n
  else upE q z.2.1 n
def X7w(q n:Nat):countRun' q n=(do
  let z <- upL q 1 n
  match z.1 with
  |some r=>Qjy|none=>
   if (z.2==n)=yx then UxF
   else if z.2>1 then do
    let x <- ltAt' q QBb
    match x with
    |some y=>if y=yx then UxF else do
      Vhn q Qte
      dnE q z.2 n|_=>Up0
   else dnE q z.2 n):=by
 calc Xz rfl λz=>?_;let⟨L,z2⟩:=z;cases L with
 |some r=>rfl|none=>
  exact ite_congr rfl QD2 λ_=>ite_congr rfl (λ_=>Xz rfl λx=>?_) λ_=>?_
  ·cases x with
   |none=>rfl|some y=>
    calc ite_congr rfl QD2 λ_=>bind_congr λ_=>?_;calc bind_congr λ_=>Xz rfl λc=>?_;let⟨c1,c2,c3⟩:=c;cases c1 with
    |some r=>rfl|none=>
     exact ite_congr rfl QZ7 λ_=>bind_congr λ_=>Xz rfl λz=>?_
     all_goals (let⟨L,z2⟩:=z;cases L<;>rfl)
  calc bind_congr λ_=>Xz rfl λc=>?_;let⟨c1,c2,c3⟩:=c;cases c1 with
  |some r=>rfl|none=>
   exact ite_congr rfl QZ7 λ_=>bind_congr λ_=>Xz rfl λz=>?_
   all_goals (let⟨L,z2⟩:=z;cases L<;>rfl)
def Xv8{QWn}{k i:Nat}(h:i<k):p+Q4f=p+Q2S-1-QiU:=by omega
def Xhh{Qeo}{Q6l}(L:j<=xs.size){Qmj}:kat (mirror xs i j ((j-i)/2)) k=if i<=k/\k<j then U6C (i+j-1-k) else U6C k:=by simp[kat,Vfz,getElem?_mirror_all L];split<;>rfl
def Xkt{Qeo}{a d:Nat}(h:a<xs.size)(hd:d<=a){Qmj}:kat (bubble xs a d) k=if k=a-d then U6C a else if a-d<k/\k<=a then U6C (k-1) else U6C k:=by
 simp[kat,Vfz,getElem?_bubble h d hd];split;·rfl
 ·split<;>rfl
structure Bs(κ:Vdy)(P:Array Qo2){QJj}(p q:Nat)(st:V8):Prop where
 kd:Uy8=κ
 fl:UzC=yy
 pn:Uu st=P
 kp:Uo7 QJ p q
section
variable{κ:Vdy}{P:Array Qo2}{Q4i}{Qmn}{Qmp}{QDi}
def Bs.sz{Q8m}:QJ.size=a.size:=h.kp.size
def Bs.rev{Q6l}{Q8m}(hi:p<=i)(L:j<=q)(hq:q<=a.size):UpH QxR:=
 ⟨h.kd,h.fl,h.pn,h.kp.trans ⟨mirror_perm Q5s,λk hk=>by show kat Q39 k=_;rw[Xhh QuP,iN0 Q0]⟩⟩
def Bs.bub{Q6l}{Q8m}(hi:p<=j)(L:j<=i)(hj:i<q)(hq:q<=a.size):UpH (setArr st QXN):=
 ⟨h.kd,h.fl,h.pn,h.kp.trans ⟨bubble_perm QLq,λk hk=>by show kat QXN k=_;rw[Xkt QuP Q0,iN0 Q0,iN0 Q0]⟩⟩
theorem DecS{QEi}{QJo}:Prop:=∀i j,i<j->j<n->Qhr QBY Q9Y
theorem Xos{QEi}{QJj}(p q:Nat):Prop:=∀i j,p<=i->i<q->p<=j->j<q->Qhr QH5 QOb
def SegS.more{Qdp}{x:Nat}(h:UdD x)(h1:1<=x)(hl:Qhr QBS QAY):UdD (x+1):=λi j aa hj=>by
 by_cases c:j<x;·exact UGC aa c
 ·obtain rfl:j=x:=by omega
  exact Xd QlF λj L=>?_;subst L;by_cases d:i=j;·subst d;exact hl
  ·let:=UGC Q0 QgS;calc hO.tr this hl
def DecS.more{Qdp}{x:Nat}(h:Ut5 a p x)(h1:1<=x)(hl:Qhr QAY QBS):Ut5 a p (x+1):=λi j aa hj=>by
 by_cases c:j<x;·exact UGC aa c
 ·obtain rfl:j=x:=by omega
  exact Xd QlF λj L=>?_;subst L;by_cases d:i=j;·subst d;exact hl
  ·let:=UGC Q0 QgS;calc hO.tr hl this
def Xku{Qdp}{Q6l}(hj:j<=a.size)(L:Xos R a i j){Qmj}:Qhr QCE QRL/\LeK R QRL QCE:=by
 rw[Xhh hj];split;·exact⟨L QXw Qtq,L QXw Qtq⟩
 ·calc⟨Ut0,Ut0⟩
def DecS.eqv{Qdp}{b:QEr}{Qoi}(h:Ut5 a p n)(he:∀k,Qhr QNb QRL/\LeK R QRL QNb):Ut5 b p n:=λi j L hj=>hO.tr (QuW.1) (hO.tr (UGC L hj) QuW.2)
universe e
section
variable{QCh}{Qmp}{P:Array Qo2}{a₀:Array Vl}{p n:Nat}
def Xjl{Q6l}{Qim}(h:Q () QxR):QQq (Vhn i j) Uv1:=by rw[reverseSlice'_eq];calc Vg5 h
variable{Q7i}{QCk}(hz:p+n<=a₀.size)
include hA ma
def Xgn{i j lo hi:Nat}{Q:QJr->V8->Prop}(hB:Bs κ P a₀ Qku st)(h1:i<a₀.size)(h2:j<a₀.size)(h:Q (yz (R (Qew i) (Qew j))) st):QQq (ltAt' i j) Uv1:=by rw[ltAt'_eq];calc U53;let z:=hB.sz;calc Vs QFR;calc UCC QVM QVM hB.kd h
include hO hz
def Xv9{Qgj}{Q:QSy×Nat->V8->Prop}(h1:1<=k){Qam}
  (h:∀m,k<=m->m<=n->UeD p m->(m=n\/R (Qew Qxe) Q7R=yx)->Q (yy,m) st):QQq (upL p k n) Uv1:=by
 unfold upL;exact Vbm (I:=λx c L=>L=st/\c=(yy,x)/\SegS R QJ p x) ?step ?fin ⟨rfl,rfl,hs⟩
 case fin=>rintro c L ⟨rfl,rfl,g⟩;rw[Nat.max_eq_right hk]at g |-;exact h n hk Qa g Q10
 case step=>
  rintro x c L hx hxn ⟨rfl,rfl,g⟩;calc Vs Q6K;cases e:R Q3H QdE with
  |true=>calc V2 (h x hx Q0 g (.inr e))|false=>calc V2 ⟨rfl,rfl,g.more hO Q0 e⟩
def Xwa{Qgj}{QQj}{QHl}
  (h:∀m L,U9E->1<=m->m<=n->Ue5 m->Q QFO L):QQq (upE p k n) Uv1:=by
 unfold upE;calc Vs (Xjl ?_);let aa:=hB.rev (i:=p) (j:=p+k) Qa Q0 hz;calc Vs (Xv9 QTu hz h1 hk aa (λi j ab hj=>?_) λm m1 m2 m3 _=>V2 (h m _ aa Q0 m2 m3));show Qhr (kat QaE QiU) (kat QaE Q3S);rw[Xhh QZC,Xhh QZC,iP0 Q0,iP0 Q0];let:=hs (k-1-j) Q4f Qtq;rwa [Xv8 p (Ves ab hj),Xv8 p hj]at this
def X7x{Qgj}{Q:QSy×Nat×Nat->V8->Prop}{QHl}
  (h:∀m e L,U9E->k<=m->m<=n->Ut5 QM3 p m->e+1<=m->Xos R QM3 (p+m-(e+1)) Qxe->Q (yy,m,e) L):QQq (dnL p k n) Uv1:=by
 unfold dnL;let one:∀(b:QEr) x,Xos R b (p+x-(0+1)) QbP:=λb x i j _ _ _ _=>by rw[show i=j by omega];exact Ut0
 exact Vbm (I:=λx c L=>∃e,c=(yy,x,e)/\Bs QMr/\DecS R QM3 p x/\e+1<=x/\Xos R QM3 (p+x-(e+1)) QbP) ?step ?fin ⟨0,rfl,hB,hs,by omega,one _ _⟩
 case fin=>rintro c L ⟨e,rfl,g1,g2,g3,g4⟩;rw[Nat.max_eq_right hk]at g2 g3 g4 |-;exact h n e L g1 hk Qa UPB
 case step=>
  rintro x c L hx hxn ⟨e,rfl,g1,g2,g3,g4⟩;dsimp;calc Vs QDA;dsimp;cases u:R Q3H QdE with
  |true=>
   rw[iP0 rfl];let d:=UEG (hO.as u);split;·calc Vs (Xjl (V2 ⟨0,rfl,UFG,?_,by omega,one _ _⟩));exact d.eqv hO (Xku hO QTO g4)
   ·exact V2 ⟨0,rfl,g1,d,by omega,one _ _⟩|false=>
   rw[iN0 Q2];calc Vs QDA;dsimp;cases v:R QdE Q3H with
   |true=>exact V2 (h x e L g1 hx Q0 UPB)|false=>
    calc V2 ⟨e+1,rfl,g1,UEG v,by omega,λi j i1 i2 j1 j2=>?_⟩;by_cases ci:i=p+x
    ·by_cases cj:j=p+x;·rw[ci,cj];exact Ut0
     ·rw[ci];exact hO.tr v (g4 _ j UK6)
    by_cases cj:j=p+x;·rw[cj];exact hO.tr (g4 i (p+x-1) UK6) u
    ·calc g4 i j UK6
def Xwb{Qgj}{QQj}(hk:k+1<=n){Q8i}(hs:Ut5 QJ p QB3)
  (h:∀m L,U9E->1<=m->m<=n->Ue5 m->Q QFO L):QQq (dnE p k n) Uv1:=by
 unfold dnE;calc Uw8;calc Vs (X7x Uj2 hk hB hs λm e L g1 g2 g3 g4 g5 g6=>?_);dsimp;split;·exact Vs (Xjl (Xwa Uj2 g3 (UFG) (g4.eqv hO (Xku hO QTO g6)) h))
 ·calc Xwa Uj2 g3 g1 g4 h
def X7y{QQj}(h1:1<=n){Q8i}
  (h:∀m L,U9E->1<=m->m<=n->Ue5 m->Q QFO L):QQq (countRun' p n) Uv1:=by
 rw[X7w];calc Vs (Xv9 QTu hz Qmg h1 hB Q5N λm m1 m2 m3 m4=>?_);dsimp;by_cases c:m=n;·rw[iP0 QI6];exact V2 QWM
 ·rw[iN0 QI6];let lt:=m4.resolve_left c;by_cases d:m>1
  ·rw[iP0 d];calc Vs Q6K;dsimp;cases u:R (Qew p) Q7R with
   |true=>exact V2 QWM|false=>
    rw[iN0 Q2];let le:∀i j,i<=j->j<m->Qhr (Qew QiU) (Qew Q3S):=λi j aa hj=>by
     by_cases c:i=j;·rw[c];exact Ut0
     ·exact m3 i j UsE
    let all:Xos R QJ p Qxe:=λi j i1 i2 j1 j2=>by let g1:=le (i-p) QHb Qtq;let g2:=le 0 (j-p) Qtq;rw[show p+(i-p)=i by omega,show p+QHb=p+m-1 by omega]at g1;rw[show p+(j-p)=j by omega,Nat.add_zero]at g2;exact hO.tr g1 (hO.tr u g2)
    let dc:Ut5 QJ p m:=λi j aa hj=>all QXw Qtq;calc Vs (Xjl (Xwb Uj2 (hB.rev Qa Q0 hz) ?_ h));exact(dc.more hO Q0 QnZ).eqv hO (Xku hO QZC all)
  rw[iN0 d];obtain rfl:m=1:=by omega
  calc Xwb Uj2 hB (DecS.more hO Q5N Qa QnZ) h
def X7z{Qgj}{Qkm}{Qam}
  (h:∀L,U9E->Ue5 n->Q yx L):QQq (binarySort' p n k) Uv1:=by
 rw[binarySort'_eq];exact Vs (Vdk (Vbm (I:=λk c L=>c=Qu6/\Bs QMr/\SegS R QM3 p (min k n))
  (Q:=λc L=>c=Qu6/\Bs QMr/\SegS R QM3 p n) ?step ?fin ?init) ?post)
 case post=>rintro c L ⟨rfl,g1,g2⟩;exact V2 (h L g1 g2)
 case init=>exact⟨rfl,hB,λi j ab hj=>hs i j ab Q0⟩
 case fin=>rintro c L ⟨g1,g2,g3⟩;rw[show min (max (max k 1) n) n=n by omega]at g3;exact⟨g1,g2,g3⟩
 case step=>
  rintro k c L h1 h2 ⟨rfl,g1,g2⟩;rw[show min k n=k by omega]at g2;let le:∀i j,i<=j->j<k->Qhr Q28 (kat QM3 Q3S):=λi j ab hj=>by
   by_cases c:i=j;·rw[c];exact Ut0
   ·exact g2 i j UsE
  exact Vs (Vdk (Vbm (I:=λx c aa=>aa=L/\∃l r,c=Q2R/\l<=r/\r<=k/\r+x<=k+l /\
    QKI/\∀i,r<=i->i<k->Qhr Q7B Q28)
   (Q:=λc aa=>aa=L/\∃l r,c=Q2R/\l<=k/\QKI/\∀i,l<=i->i<k->Qhr Q7B Q28) ?sx ?fi ⟨rfl,0,k,rfl,by omega,by omega,by omega,λi hi=>by omega,λi _ _=>by omega⟩) ?po)
  case fi=>
   rintro c aa ⟨rfl,l,r,rfl,a1,a2,a3,a4,a5⟩;obtain rfl:l=r:=by omega
   exact QzI
  case sx=>
   rintro x c aa _ hx ⟨rfl,l,r,rfl,a1,a2,a3,a4,a5⟩;dsimp;by_cases d:l ≥ r
   ·rw[iP0 d];obtain rfl:l=r:=by omega
    exact V2 QzI
   rw[iN0 d];calc Vs QDA;dsimp;cases e:R (kat QlN Q2S) (kat QlN (p+(l+r)/2)) with
   |true=>exact V2 ⟨rfl,l,_,rfl,by omega,by omega,by omega,a4,λi i1 i2=>hO.tr QES (le _ _ i1 i2)⟩|false=>exact V2 ⟨rfl,_,r,rfl,by omega,a2,by omega,λi i1=>hO.tr (UPJ) e,a5⟩
  case po=>
   rintro c aa ⟨rfl,l,r,rfl,a1,a2,a3⟩;show wpS Q5s (do moveDown' Q2S (p+l);pure (Vd5 Qu6)) _ _;rw[moveDown'_eq];calc Vs (Vg5 (V2 ⟨rfl,g1.bub Ul4 hz,?_⟩));rw[show min QB3 n=k+1 by omega];let zk:p+k<QlN.size:=by rw[g1.sz];omega
   intro i j ab hj;show Qhr (kat Q7D QiU) (kat Q7D Q3S);let el:p+k-(p+k-(p+l))=p+l:=by omega
   rw[Xkt zk Q0,Xkt zk Q0,el];clear el zk;by_cases i1:i<l
   ·rw[iN0 Q0,iN0 Q0];by_cases j1:j<l;·rw[iN0 Q0,iN0 Q0];exact UPJ
    ·by_cases j2:j=l;·rw[iP0 Q0];exact a2 i i1
     ·rw[iN0 Q0,iP0 Q0,show p+j-1=p+QWD by omega];exact UPJ
   by_cases i2:i=l;·rw[iP0 Q0,iN0 Q0,iP0 Q0,show p+j-1=p+QWD by omega];exact a3 _ Qtq
   ·rw[iN0 Q0,iP0 Q0,iN0 Q0,iP0 Q0,show p+j-1=p+QWD by omega,show p+i-1=p+Q5H by omega];calc UPJ
universe e
private noncomputable abbrev Pn:=Array Qo2
abbrev prL(t w:Nat):QRq QsN:=Qms Qu6 λ_ _=>do
 let z <- get
 match (if QSH.size>1 then QSH[QSH.size-2]? else yy) with
 |some (_,_,v)=>if v<=w then UzF else do
   let b <- mergeAt' (QSH.size-2)
   if !b then pure Q5P else pure QUX|_=>UzF
abbrev laL(q n:Nat):QRq QxS:=do
 modify λs=>UFJ (QrD.push (q,n,0))
 pure (.yield (yy,q+n))
abbrev bhL(t q n:Nat):QRq QxS:=do
 let z <- get
 match QSH.back? with
 |some x=>do
  let y <- prL t (UW8)
  match y.1 with
  |some r=>pure (.done (US6,q))|none=>do
   modify λs=>UFJ (QrD.modify (QrD.size-1) λ(u,v,_)=>(u,v,UW8))
   laL q n
 |_=>laL q n
abbrev rnL(t m:Nat):QRq Q66:=Qms (yy,0) λ_ z=>
 if z.2 ≥ t then QMx else do
  let x <- countRun' z.2 (t-z.2)
  match x with
  |some k=>
   if k<m then do
    liftM (rule "list.sort.binary-insertion")
    let b <- binarySort' z.2 Q5S k
    if !b then pure Q3O else bhL t z.2 Q5S
   else bhL t z.2 k|_=>pure Q3O
abbrev laP(p:Pn):Nat:=if ((if p.size-2>0 then p[p.size-2-1]?.map QVE else yy).any (· < (p[p.size-2+1]?.elim 0 QVE)))=yx then p.size-2-1 else p.size-2
abbrev enL(t:Nat):QRq QsN:=Qms Qu6 λ_ _=>do
 let z <- get
 if QSH.size<=1 then UzF else do
  let b <- mergeAt' (laP QSH)
  if !b then pure Q5P else pure QUX
def X70:sortRuns'=(do
  let z <- get
  let x <- rnL QCX.size (minRun' QCX.size QCX.size 0)
  match x.1 with
  |some r=>Qjy|none=>do
   let y <- enL QCX.size
   match y.1 with
   |some r=>Qjy
   |none=>pure ()):=by
 rw[sortRuns'_eq];exact bind_congr λz=>Xz ?_ λx=>?_
 ·unfold rnL;calc U85 ?_;funext _ y;calc ite_congr rfl QD2 λ_=>?_;calc Xz rfl λx=>?_;cases x with
  |none=>rfl|some k=>
   exact ite_congr rfl (λ_=>bind_congr λ_=>Xz rfl λb=>?_) λ_=>?_
   ·calc ite_congr rfl QD2 λ_=>?_;unfold bhL;calc Xz rfl λz=>?_;cases QSH.back? with
    |none=>rfl|some x=>let⟨x1,x2,x3⟩:=x;exact Xz rfl λy=>?_;let⟨L,y2⟩:=y;cases L<;>rfl
   unfold bhL;calc Xz rfl λz=>?_;cases QSH.back? with
   |none=>rfl|some x=>let⟨x1,x2,x3⟩:=x;exact Xz rfl λy=>?_;let⟨L,y2⟩:=y;cases L<;>rfl
 ·let⟨x1,x2⟩:=x;cases x1 with
  |some r=>rfl|none=>calc Xz rfl λy=>?_;let⟨L,y2⟩:=y;cases L<;>rfl
def Xcm{Qwi}{f:α->β}{l m:List β}(h:l.Perm m):∀ps:Q7r,m=ps.map f->∃L:Q7r,L.Perm ps/\l=L.map f:=by
 induction h with
 |nil=>
  intro ps e;cases ps with
  |nil=>calc⟨[],UxC,rfl⟩|cons _ _=>cases e
 |@cons x l m _ ih=>
  intro ps e;cases ps with
  |nil=>cases e|cons p ps=>injection e with e1 e2;calc Xa (ih ps e2) λL q1 q2=>?_;calc⟨p::L,q1.cons p,by rw[Ub,<-q2,e1]⟩
 |swap x y l=>
  intro ps e;rcases ps with _|⟨p,_|⟨q,ps⟩⟩;·cases e
  ·cases e
  injection e with e1 e2;injection e2 with e2 e3;calc⟨q::p::ps,Vin QLq,by simp![e1,e2,e3]⟩|trans _ _ aa ab=>intro ps e;calc Xa (ab ps e) λp2 q1 q2=>?_;calc Xa (aa p2 q2) λp1 q3 q4=>?_;calc⟨p1,q3.trans q1,q4⟩
theorem Runs{QEi}{QJj}:U44->Nat->Nat->Prop
 |[],b,e=>b=e|x::l,b,e=>x.1=b/\0<x.2.1/\SegS R a x.1 x.2.1/\Runs R a l (b+x.2.1) e
section
variable{QDi}{a a':Array Vl}
def Runs.le:∀ {l:U44} {b e:Nat},Qqy e->b+UyA<=e
 |[],b,e,h=>by cases h;calc UX0|x::l,b,e,⟨_,h0,_,h⟩=>by let:=h.le;rw[U5];omega
def Runs.keep{Qmn}(k:Uo7 a' p q):∀ {l:U44} {b e:Nat},Qqy e->e<=p\/q<=b->Uz8 a' l b e
 |[],b,e,h,_=>h|x::l,b,e,QpA,c=>⟨h1,h0,k.seg (by let:=h.le;omega) h2,h.keep k Q0⟩
def Runs.app:∀ {l m:U44} {b e:Nat},Uz8 a (l++m) b e ↔ ∃c,Qqy c/\Runs R a m c e
 |[],m,b,e=>⟨λh=>⟨b,rfl,h⟩,λ⟨c,h1,h2⟩=>by cases h1;calc h2⟩|x::l,m,b,e=>by calc⟨λ QiG=>?_,λ⟨c,QiG,h5⟩=>⟨h1,h2,h3,Runs.app.mpr ⟨c,L,h5⟩⟩⟩;calc Xa (Runs.app.mp L) λc h5 h6=>?_;calc⟨c,⟨h1,h2,h3,h5⟩,h6⟩
def Runs.pw{w:Nat}:∀ {l:U44} {i b e:Nat},Qqy e->Uz8 a (l.modify i λx=>(x.1,x.2.1,w)) b e
 |[],i,b,e,h=>by rw[List.modify_nil];calc h|x::l,0,b,e,QpA=>QpA|x::l,i+1,b,e,QpA=>by rw[List.modify_succ_cons];calc⟨h1,h0,h2,h.pw⟩
def Xwc{Q7h}:∀ {l:Q7r} {i:Nat},i+1<UyA->∃m x y r,l=m++x::y::r/\QJb=i
 |x::y::r,0,_=>⟨[],x,y,r,rfl,rfl⟩|x::l,i+1,h=>by calc Xdn (Xwc (l:=l) (i:=i) QN2) λm y z r e hl=>?_;calc⟨x::m,y,z,r,by rw[e];rfl,by rw[U5,hl]⟩
universe e
structure Rn(κ:Vdy){QEi}(a₀:QEr)(t n:Nat)(st:V8):Prop where
 kd:Uy8=κ
 fl:UzC=yy
 pm:QJ.Perm a₀
 rn:Uz8 QJ QKB.toList 0 t
 sg:UeD t n
 le:t+n<=a₀.size
section
variable{QCh}{Qmp}{a₀:Array Vl}{t n:Nat}
def Rn.sz{Qoj}:QJ.size=a₀.size:=h.pm.size_eq
def Rn.mm{Qoj}{QCk}:∀x∈QJ.toList,mem x:=λx L=>ma x ((Vee.mp h.pm).mem_iff.mp L)
variable{Q7i}{QCk}
include QTu
def Xwd{Qfi}{Qkm}{Qoj}(hi:i+1<QKB.size)(hQ:∀L,QOt t n L->QmL.size+1=QKB.size->Q yx L):QQq QNL Uv1:=by
 let⟨m,⟨p,k,v⟩,⟨q,k',v'⟩,r,e,hl⟩:=Xwc (l:=QKB.toList) (i:=i) QY0;subst hl;let hr:=h.rn;rw[e]at hr;let⟨c,r1,r2,r3,r4,r5,r6,r7,r8⟩:=Runs.app.mp hr;dsimp at r2 r3 r4 r5 r6 r7 r8;subst r2 r5;let l8:=r8.le;let hz:=h.sz;let aa:=h.le;exact X7v Qjr (p:=p) (n:=k) (v:=v) (q:=p+k) (m:=k') (v':=v') h.kd h.fl (h.mm ma) ?_ ?_ rfl r3 r6 Q0 r4 r7 λL k1 k2 k3 k4 k5=>?_;·rw[<-Ua,e];simp!
 ·rw[<-Ua,e];simp!
 let e3:QmL.toList=m++(p,k+k',v)::r:=by rw[k3,Array.toList_eraseIdxIfInBounds,Vf8,e,Vhz UTI,Nat.sub_self,List.set_cons_zero,List.eraseIdx_append_of_length_le Q0,show QJb+1-lg m=1 by omega];rfl
 calc hQ L ⟨k1,k2,k4.1.trans h.pm,?_,k4.seg Q0 h.sg,aa⟩ ?_;·rw[e3];exact Runs.app.mpr ⟨p,r1.keep k4 Q8T,rfl,by dsimp;omega,k5,by rw[<-Vhm];calc r8.keep k4 (.inr Qa)⟩
 ·rw[<-Vy,<-Vy,e3,e];simp[Vw,U5];omega
def X71{u v:Nat}{Qjm}{Qoj}(hQ:∀L,QOt t n L->Q Qu6 L):QQq (prL u v) Uv1:=by
 unfold prL;calc Vbm (I:=λ_ c L=>c=Qu6/\Rn UCI t n L) ?_ (λc L Qw0=>by rw[h1];calc hQ L h2) Qsa;rintro x c L _ _ ⟨rfl,h'⟩;calc U53;split
 ·rename_i q;split;·exact V2 QYb
  ·by_cases c:QmL.size>1;·exact Vs (Xwd QTu h' Q0 λaa h2 _=>V2 ⟨rfl,h2⟩)
   ·rw[iN0 c]at q;cases q
 calc V2 QYb
omit QTu in
def Xwe{QKi}:QQq (laL t n) Uv1:=by unfold laL;calc Vs (Vg5 (V2 (Ut2 ⟨h.kd,h.fl,h.pm,?_,λi j _ hj=>by omega,h.le⟩)));show Uz8 QJ (QKB.push (t,n,0)).toList 0 Qqe;rw[Vcv];calc Runs.app.mpr ⟨t,h.rn,rfl,hn,h.sg,rfl⟩
def Xwf{u:Nat}{QKi}:QQq (bhL u t n) Uv1:=by
 unfold bhL;calc U53;split;·calc Vs (X71 QTu h λaa h2=>?_);calc Vs (Vg5 ?_);calc Xwe ?_ hn hQ;calc⟨h2.kd,h2.fl,h2.pm,?_,h2.sg,h2.le⟩;show Uz8 QlN ((Uu aa).modify _ _).toList 0 t;rw[Array.toList_modify];exact h2.rn.pw
 ·calc Xwe h hn hQ
def X72{Qjl}{Q:Option Unit×Nat->V8->Prop}(h:QOt 0 0 st)(hQ:∀L,UR1 L->Q (yy,a₀.size) L):QQq (rnL a₀.size m) Uv1:=by
 unfold rnL;exact Vbm (I:=λx c L=>∃t,c=(yy,t)/\x<=t/\Rn UCI t 0 L) ?_ (λc L ⟨t,h1,h2,h3⟩=>?_) ⟨0,rfl,UX0,h⟩
 ·rintro x c L _ hx ⟨t,rfl,h1,h2⟩;dsimp;let ac:=h2.le;by_cases c:t ≥ a₀.size
  ·rw[iP0 c];obtain rfl:t=a₀.size:=by omega
   exact V2 (Ut2 h2)
  rw[iN0 c];let hz:t+Q8V<=QM3.size:=by rw[h2.sz];omega
  calc Vs (X7y Qjr (h2.mm ma) hz Q0 ⟨h2.kd,h2.fl,rfl,.rf⟩ λk aa b1 b2 b3 b4=>?_);dsimp;let r2:QOt t k aa:=⟨b1.kd,b1.fl,b1.kp.1.trans h2.pm,by rw[b1.pn];calc h2.rn.keep b1.kp Q8T,b4,by omega⟩;split;·rename_i ck;calc Uw8;calc Vs (X7z Qjr (r2.mm ma) (p:=t) (n:=min Q8V m) (by rw[r2.sz];omega) Q0 ⟨r2.kd,r2.fl,rfl,.rf⟩ r2.sg λae d1 d2=>?_);exact Xwf QTu ⟨d1.kd,d1.fl,d1.kp.1.trans r2.pm,by rw[d1.pn];calc r2.rn.keep d1.kp Q8T,d2,by omega⟩ Q0 λab h4=>Q0L
  ·exact Xwf QTu r2 Q0 λab h4=>Q0L
 let:=h3.le;obtain rfl:t=a₀.size:=by omega
 rw[h1];calc hQ L h3
omit QTu in
def X73{p:Pn}(h:¬ p.size<=1):laP p+1<p.size:=by
 unfold laP;generalize Option.any _ _=c;cases c;·show p.size-2+1<p.size;lia
 ·show p.size-2-1+1<p.size;lia
def X74{Qjm}(h:UR1 st)(hQ:∀L,QM3.Perm a₀->Vcw L=yy->QNt QM3 0 a₀.size->Q Qu6 L):QQq (enL a₀.size) Uv1:=by
 let fin:∀L,UR1 L->QmL.size<=1->Q Qu6 L:=λL h1 h2=>by
  calc hQ L h1.pm h1.fl ?_;let hr:=h1.rn;rw[<-Vy]at h2;cases e:QmL.toList with
  |nil=>rw[e]at hr;rw[<-hr];exact λi j _ hj=>by omega|cons x l=>
   rw[e]at hr h2;cases l with
   |cons y l=>simp! at h2|nil=>exact Xeo hr λg1 g2 g3 g4=>?_;rw[g1]at g3;rwa [<-g4,Vet]
 unfold enL;exact Vbm (I:=λx c L=>c=Qu6/\QmL.size<=max 1 (a₀.size-x)/\Rn UCI a₀.size 0 L) ?_ (λc L Qi1=>by rw[h1];calc fin L h3 Q0) ⟨rfl,?_,h⟩
 ·rintro x c L _ hx ⟨rfl,h1,h2⟩;calc U53;by_cases c:QmL.size<=1;·rw[iP0 c];exact V2 (fin L h2 c)
  ·rw[iN0 c];exact Vs (Xwd QTu h2 (X73 c) λaa h3 h4=>V2 ⟨rfl,by omega,h3⟩)
 let:=h.rn.le;rw[Vy]at this;omega
def X75{Qim}{QMn}(hp:Uu st=#[])(ha:U81=a₀)(hQ:∀aa,Vcw aa=yy->Srt Qm1 a₀.toList QlN.toList->Q () aa):QQq sortRuns' Uv1:=by rw[X70];calc U53;rw[ha];calc Vs (X72 QTu ⟨hk,hf,by rw[ha],by rw[hp];rfl,λi j _ hj=>by omega,by omega⟩ λab h1=>?_);calc Vs (X74 QTu h1 λL h2 h3 h4=>V2 (hQ L h3 ⟨Vee.mp h2,?_⟩));let hz:QM3.size=a₀.size:=h2.size_eq;let:=(Xe9 (R:=R) (a:=Vr L) (p:=0) (n:=a₀.size) Q0).mp h4;rwa [Vft,Va9 QKS]at this
universe e
universe Z
universe e
section
namespace Z
open PySem PySem.SetTable PySem.Spec PyProof.Rows
section
variable{Q2h}
theorem SetR{Q1q}{Qyo}:Prop:=∃o es ep t,QFr=Qkq/\o.ExactSet/\o.data=Uv5/\Mem Qfq h es ps/\TabG t es/\t.led=ld
def Xy3{Qak}{k:LI}{x a:Addr}{o:Obj}{Qkh}{QEo}(hx:QM.is h k x){Qfl}:UBK:=by
 exact X2 hx λo' its m aa hc L hi=>?_;calc⟨o',its,m,?_,hc,L,hi⟩;rw[sb.2 x ?_];·exact aa
 ·rintro rfl;rw[ho]at aa;cases aa;rw[hd]at L;cases L
def Mem.keep{Qak}{QFm}{es L:Array Qd0}{QEo}{Qth}(m:Ul7 h L ps){Qfl}:Ul7 h' L ps:=
 ⟨m.1,λp hp=>Xy3 QfZ UM4 sb⟩
def Mem.len{QQp}:es.size=Qow:=by rw[<-Vy,m.1,Vg]
def reo{Qkh}{t:Uz}{L:Array Nat}{Q:Array Qd0×Uz->Vc->Prop}(hz:Q14.size=es.size)(h:Q (UZ1,t) s):
  Vf QCw (do
   let yz (t,L):=yz (t,L)|Vfj "internal:set-table-without-room"
   let es':=UZ1
   if es'.size != es.size then Vfj "internal:set-table-lost-an-element"
   pure (es',t)) Q E s:=by
 dsimp;rw[hz,bne_self_eq_false];simp[Vq,if_false];calc UrG
def X3m{QXj}{Qfh}{QUk}{QLi}(hn:QW5<1200)
  (h:∀h' ah,U3D->QUv UMI ah->(k∈ps.map QT/\ah=ps)\/(k ∉ ps.map QT/\ah.Perm QhU)->Q (decide (k ∉ ps.map QT)) {s with heap:=h',toks:=s.toks+(lg k+1)}):
  Vf QCw (setAdd a Qq2) Qeq:=by
 exact Xai S λo es ep t ho af hd m T hl=>?_;let ln:=m.len;unfold setAdd setAddHashed setAddHashedIn;calc Ul (Va (UgD (Ul (Va Q4C))));dsimp;rw[show byScan Qqg es=yw from rfl];simp[Vq,if_false];exact Xe Qn7 λN n1 n2 n3=>?_;unfold setSearch;calc Va (X1e (s:=QQ0) Ul6 ?_ ?_ N U2L ?_ rfl (λn _ _ av=>aB0 av QY5));·intro ab r _;let:=h s.heap ps QlT ⟨o,es,ep,t,ho,af,hd,m,T,hl⟩ (.inl ⟨ab,rfl⟩);rw[decide_eq_false (λz=>z ab)]at this;exact Vd this
 ·intro ab;dsimp;calc Va Q4C;dsimp;exact Xag QEE λp1 p2 p3 p4 p5 p6=>?_;let own:=X2j (x:=Ui x) T.tb T.sz T.own n3;let an:Q2Y.1.moves=t.moves:=rfl;rw[T.sz]at p2 p6;let il:=Xci es Q2Y.2 QuA p6;generalize t.put Qn8=pj at p1 p2 p3 p4 p5 p6 own il an;let⟨t1,q⟩:=pj;dsimp at p1 p2 p3 p4 p5 p6 own il an |-;generalize ax:QMv q QuA=L at own il |-;let z1:L.size=es.size+1:=by
   rw[<-Vy,il];simp!;omega
  rw[p4,T.pl];simp[if_true];calc Va (Xyv (s:=QQ0) hk ?_);simp[if_true];let ae:L.size<=V6:=by rw[z1,Vav];omega
  calc Va (Vhc (s:=QQ0) UM4 ?_ ae);let ag:=Vbw Qnq Q9Q;let g1:QN4.get? a=yz {o with data:=.set L (ep+1) t1}:=by let:=Vdb Q9Q ho (by rw[putSet_of L t1 hd];rfl);rw[putSet_of L t1 hd]at this;exact this
  let pm:L.toList.Perm (QhU.map Xfs):=by
   rw[il,Vau,<-m.1];let:(es.toList.take q++es.toList.drop q++[QuA]).Perm (es.toList++[QuA]):=by rw[Uo]
   calc List.Perm.trans ?_ this;rw[Ug];exact Vhw _ (List.perm_append_comm (l₁:=[_]))
  exact Xa (Xcm pm _ rfl) λam ai aq=>?_
  let m1:Ul7 UC6 am:=⟨aq,λp hp=>by
   exact Xj (Ut.mp (ai.mem_iff.mp hp)) (λc=>?_) λc=>?_;·exact m.2 p c
   ·rw[V3]at c;subst c;calc hk⟩
  let ap:=m1.keep UM4 ag;by_cases c:QAH*5<t.mask*3
  ·let tf:t1.tooFull=false:=by unfold Vhs;rw[Xb7 p1,p2,p3];exact QSx
   rw[tf];simp[Vem,Vq,if_false];let T1:TabG t1 L:=⟨⟨p1,by rw[p4];calc T.pl,by rw[p2,z1],by rw[p3];calc T.mg,by rw[z1,p3];calc c,by omega⟩,own⟩;let:=h _ am ag ⟨_,L,ep+1,t1,g1,af,rfl,ap,T1,p5.trans hl⟩ (.inr ⟨ab,ai⟩);rw[decide_eq_true ab]at this;exact Vd this
  let tf:t1.tooFull=true:=by unfold Vhs;rw[Xb7 p1,p2,p3];exact Qvu
  rw[tf];simp[Bool.not_false,Vbq,if_true];exact Xs (Uo8 c) λu1 u2 u3=>?_;unfold setRelay;let aw:UzE=true:=by
   let r:=T.room;let le:es.size+1<=t.mask:=by rcases T.mg with e|e|e|e|e|e<;>rw[e]at r |- <;> omega
   unfold Vhk;rw[Xb7 p1,p2,z1,p3];simpa using le
  calc Va (Va (Va4 g1 rfl aw ?_));dsimp;rw[iN0 QL6];let⟨t2,ac,e,T2,h1,h2,h3,ay,h4,h5,h6,h7,_⟩:=X01 (f:=t1.finger) (v:=t1.movedTo (sizeAbove QJY-1)) (led:=t1.led) (pl:=t1.plain) u1.cy L QIS;let rl:t1.relaid QJa QJY=yz (t2,ac):=e;rw[rl];calc Va (reo h5 ?_);dsimp;generalize ac.filterMap (L[·]?)=aa at h5 h6 h7 |-;let aj:aa.size<=V6:=by rw[h5];exact ae
  calc Vhc g1 rfl ?_ aj;let g2:(QN4.update a QOH).get? a=yz {o with data:=.set aa (ep+2) t2}:=by let:=Vdb QOH g1 (by rw[putSet_of aa t2 rfl];rfl);rw[putSet_of aa t2 rfl]at this;exact this
  let al:=Vbw QN4 a QOH;exact Xa (Xcm h6 _ aq) λao ak au=>?_;let m2:Ul7 QN4 aa ao:=⟨au,λp hp=>ap.2 p (ak.mem_iff.mp hp)⟩;let ar:=m2.keep g1 rfl al;let TT:TabG t2 aa:=⟨⟨T2,by rw[h2,p4];calc T.pl,by rw[h4,h5],by rw[h1];calc u1,by rw[h5,z1,h1];calc u2,by omega⟩,h7⟩;let:=h _ ao (ag.trans al) ⟨_,aa,ep+2,t2,g2,af,rfl,ar,TT,by rw[h3,p5];calc hl⟩ (.inr ⟨ab,ak.trans ai⟩);rw[decide_eq_true ab]at this;exact Vd this
 ·let:=T.mg.le;rw[show turns t.mask=t.mask+15 from rfl]at n1;omega
universe e
universe Z
universe e
section
namespace Z
open PySem PySem.Spec PyProof.Rows L2
section
variable{Qvm}
def X76{Qin}:∀i,Q b s->PySem.W.KatLex Qfq A yx (decide QwJ) Q (us.zip vs) i s:=by
 induction hl with
 |ni=>calc λ_ h=>h|no=>calc λ_ h=>h|ne Qwq=>calc λ_ h=>PySem.W.kat_cons (UTJ (PySem.W.kat_go QMT λ_=>PySem.W.kat_no (h2.one QLq h)))|@eq u v us vs b h1 _ L=>intro i h;let hl:decide (U2G+1<Q8y+1)=decide QwJ:=decide_eq_decide.mpr Vjs;simp[U5,Vi0,hl];calc PySem.W.kat_cons (UTJ (PySem.W.kat_go (λ_=>PySem.W.kat_yes (L _ h)) λe=>nomatch e))
universe e
theorem Row{Q3n}(k:LI)(u:Vb):Prop:=∃a us,u=QYr/\Vbx UvK/\Its h p us k
def Its.keep(r:UPK){Qnk}:Its h' p us k:=by
 cases r with
 |row i=>calc .row i|pair t i=>calc .pair (URJ t) i
def Row.keepT{Qmk}{Qnk}:UX5:=by let⟨a,us,e,t,hi⟩:=r;calc⟨a,us,e,URJ t,hi.keep kp⟩
def Row.keep{Qmk}(kp:∀b o,Qdr=Qkq->Qqq=Qkq):UX5:=r.keepT λ_ _ t=>by let⟨o,L,hc⟩:=t;calc⟨o,URJ L,hc⟩
def Xbz:∀ {xs:LD} {ks:LL},UUG=UlF->xs=ks.map λk=>Qlx
 |[],ks,h=>by cases h;rfl|x::xs,ks,h=>by
  cases x with
  |tup ds=>
   simp[Yw]at h;cases e:Xl ds with
   |none=>rw[e]at h;cases h|some k=>
    rw[e]at h;dsimp at h;cases L:UUG with
    |none=>rw[L]at h;cases h|some r=>rw[L]at h;cases h;rw[Ys e,Xbz L];rfl
  |_=>cases h
inductive RowsV{Q3n}:LL->LV->Prop
 |nil:UG1 Ut1
 |cons {k:LI} {u:Vb} {ks:LL} {vs:LV}:UR7->UG1 ks vs->UG1 (k::ks) (u::vs)
inductive Fst1:LI->LV->Prop
 |non:Fst1 Ut1
 |som {x:Int} {t:Tok} {k:LI} {us:LV}:Fst1 QHg (UwH::us)
def Its.fst(r:UPK):Fst1 k us:=by
 cases r with
 |row i=>cases i with
  |nil=>calc .non|cons x t _=>calc .som
 |pair _ _=>calc .som
def Xy4{QVp}{ks:LL}{QKp}(r:UG1 ks its):ks.all QNP=yx->∃fs,PySem.W.KatTups h its fs/\Q2f=Ub8/\∀v∈fs,∃n t,v=Vhu n t:=by
 induction r with
 |nil=>exact λ_=>⟨[],.nil,rfl,λv L=>by cases L⟩|cons hr _ ih=>
  intro hn;rw[Vbe,bA0]at hn;calc Xep hr λa us aa o ho hc n hd hi=>?_;subst aa;calc Xe (ih hn.2) λfs f1 f2 f3=>?_;cases hi.fst with
  |non=>simp! at hn|@som x t k us=>
   calc⟨UwH::fs,.cons UG6 rfl f1,by simp![f2],λv L=>?_⟩;rcases Vv.mp L with rfl|L;·exact⟨x,t,rfl⟩
   ·calc f3 v L
inductive FsV:LL->UY1->Prop
 |nil:FsV Ut1
 |non {ks:LL} {fs:UY1}:Uq5->FsV ([]::ks) (yy::fs)
 |som {x:Int} {t:Tok} {k:LI} {ks:LL} {fs:UY1}:Uq5->FsV (QHg::ks) (yz (UwH)::fs)
def RowsV.of{Q9k}{Q7h}{QSi}{f:α->LI}{g:α->Vb}:∀(l:Q7r),(∀q∈l,Row p h (f q) (g q))->UG1 Q1H Q7S
 |[],_=>.nil|q::l,hr=>.cons (hr q V4) (RowsV.of l λp L=>hr p QIA)
def FsV.all{ks:LL}{fs:UY1}(f:Uq5):(fs.all λx=>x.isSome)=ks.all QNP:=by
 induction f with
 |nil=>rfl|non _ L=>simp!|som _ L=>simp![L]
section
variable{QDj}{s:Vc}
def Xy5 {Q9k}{Qpp}(r:US7 k u){Q:VP}(h:Q Qk4 s):Q1v (typeOf u) Qeq:=by let⟨a,us,rfl,⟨o,L,hc,_⟩,_⟩:=r;calc Uc6 h
def Xqe{Qxk}:∀ {Q:UY1->Vc->Prop},(∀fs,Uq5->Q fs s)->Q1v (vs.mapM firstOfTuple') Qeq:=by
 induction r with
 |nil=>intro Q h;rw[List.mapM_nil];exact Vd (h _ .nil)|cons hr _ ih=>
  intro Q h;rw[List.mapM_cons];calc Va ?_;calc Xep hr λa us L o ho hc n hd hi=>?_;subst L;rw[PySem.W.kas_first_eq];calc Va QiC;rw[iN0 Q2];calc Va (Vew UM4 Q70);cases hi.fst with
  |non=>calc Va (ih λfs hf=>Vd (h _ (.non hf)))|som=>calc Va (ih λfs hf=>Vd (h _ (.som hf)))
def Xti{Qxk}(h2:0<Ue9)(aa:(ks.all λk=>!k.isEmpty)=yw){Q:Vdy->Vc->Prop}(h1:Q general' s)(h3:Q oneType' s):Q1v (keyKind' vs.toArray) Qeq:=by
 rw[PyProof.Rows.kat_kind_eq,List.mapM_toArray,map_eq_pure_bind];calc Va (Va (Xqe r λfs hf=>Vd ?_));let L:(fs.toArray.all λx=>x.isSome)=false:=by rw[List.all_toArray,hf.all];exact aa
 rw[L];simp[Vq,if_false];split;·exact Vd h1
 ·rw[oneTypeOnly'_eq,List.mapM_toArray,map_eq_pure_bind];let ty:∀v∈vs,∀(Q':VP),Q' Qk4 s->Q1v QYZ Q' E s:=by
   clear h1 h3 hf L aa;induction r with
   |nil=>intro v hv;cases hv|cons hr _ ih=>
    intro v hv Q' hq;rcases Vv.mp hv with rfl|hv;·exact Xy5 hr hq
    ·rename_i ab ac _ _;cases hk:ab with
     |nil=>subst hk;rename_i r';cases r';cases hv|cons _ _=>exact ih (by rw[hk];simp!) v hv Q' hq
  calc Va (Va (Va (PySem.W.kas_mapM (r:=Quw) _ ty Q70)));split
  ·split;·exact Vd (Vd h3)
   ·exact Vd QnY
  calc Vd QnY
universe e
def Xjm:∀a b c:LI,UW3=yx->ltL b c=yx->ltL a c=yx
 |[],[],_=>λh _=>by cases h|[],_::_,[]=>λ_ h=>by cases h|[],_::_,_::_=>λ_ _=>rfl|_::_,[],_=>λh _=>by cases h|_::_,_::_,[]=>λ_ h=>by cases h|x::a,y::b,z::c=>λh1 h2=>by
  simp[ltL]at h1 h2 |-;split at h1
  ·rename_i e;subst e;split at h2;·rename_i e;subst e;rw[iP0 rfl];exact Xjm a b c Qwq
   ·rename_i e;rw[iN0 e];exact h2
  rename_i e;split at h2;·rename_i L;subst L;rw[iN0 e];exact h1
  ·rw[decide_eq_true_eq]at h1 h2;rw[iN0 Q0];calc Qvu
def Xhi:∀a b:LI,a≠b->UW3=yw->UV3=yx
 |[],[]=>λh _=>aB0 rfl h|[],_::_=>λ_ h=>by cases h|_::_,[]=>λ_ _=>rfl|x::a,y::b=>λh h1=>by
  simp[ltL]at h1 |-;split at h1;·rename_i e;subst e;rw[iP0 rfl];exact Xhi a b (λz=>h QMd) h1
  ·rename_i e;rw[decide_eq_false_iff_not]at h1;rw[iN0 QxY];calc Qvu
def Xjn{a b:LI}(h:UW3=yx):UV3=false:=by
 cases e:UV3 with
 |false=>rfl|true=>let:=Xjm QLq h e;rw[Xg9]at this;cases this
def Xrs{a b c:LI}(h1:UV3=yw)(h2:ltL c b=yw):ltL c a=false:=by
 cases e:ltL c a with
 |false=>rfl|true=>
  by_cases q:c=b;·subst q;rw[e]at h1;cases h1
  ·rw[Xjm _ _ _ (Xhi _ _ q h2) e]at h1;cases h1
private abbrev leL(a b:LI):Prop:=UV3=yw
theorem WkL(l:LL):Prop:=l.Pairwise leL
def Xwg{Q7h}(f:α->LI):∀ {l:Q7r},UyA<2->WkL Q1H
 |[],_=>.nil|[_],_=>UvC
def Xkv:∀ {l m:LL},l.Perm m->WkL l->WkL m->l=m
 |[],m,p,_,_=>(List.Perm.nil_eq p)|a::l,[],p,_,_=>aB0 p.length_eq Q9|a::l,b::m,p,h1,h2=>by
  unfold WkL at h1 h2;rw[Vag]at h1 h2;let e:a=b:=by
   exact Xj (Vv.mp (p.mem_iff.mp V4)) Qx7 λha=>?_;·exact e
   ·exact Xj (Vv.mp (p.mem_iff.mpr V4)) Qx7 λhb=>?_;·exact e.symm
    ·let L:UV3=false:=h1.1 UQB;let x2:UW3=false:=h2.1 a ha;exact Vjn λq=>by rw[Xhi _ _ q x2]at L;cases L
  subst e;rw[Xkv ((List.perm_cons a).mp p) h1.2 h2.2]
def Xgo(k:LI):∀l,Qrb.Perm (k::l)
 |[]=>UxC|y::r=>by
  unfold Xkg;split;·exact UxC
  ·calc((Xgo k r).cons y).trans (Vin QLq)
def Xab:∀l,Qlb.Perm l
 |[]=>UxC|k::r=>(Xgo k _).trans ((Xab r).cons k)
def Xrt(k:LI):∀l,WkL l->WkL Qrb
 |[]=>λ_=>UvC|y::r=>λh=>by
  unfold WkL at h;rw[Vag]at h;unfold Xkg;split
  ·rename_i c;calc Vag.mpr ⟨λz hz=>?_,Vag.mpr h⟩;rcases Vv.mp hz with rfl|hz;·exact Xjn c
   ·exact Xrs (Xjn c) (h.1 z hz)
  rename_i c;calc Vag.mpr ⟨λz hz=>?_,Xrt k r h.2⟩;rcases Vv.mp ((Xgo k r).mem_iff.mp hz) with rfl|hz;·exact Vjg.mpr c
  ·calc h.1 z hz
def Xkw:∀l,WkL Qlb
 |[]=>Vef|k::r=>Xrt k _ (Xkw r)
def Xot{QJp}(h:WkL l):l=Yi m:=Xkv (p.trans (Xab m).symm) h (Xkw m)
def Xmo{Qln}:∀ {k'},U0D k'->k=k':=by
 induction h with
 |nil=>intro k' h;cases h;rfl|cons x t _ L=>intro k' h;cases h with|cons _ _ h=>rw[L h]
def Xou{QSi}{QZh}{us ab:LV}(t:Vbx UvK)(t':Vbx h a ab.toArray):us=ab:=by calc Y9 t λo ho _ n hd=>?_;calc Y9 t' λo' aa _ n' L=>?_;rw[ho]at aa;cases aa;rw[hd]at L;cases L;rfl
def Row.same{QVp}{k k':LI}{u:Vb}{Qmk}(r':Row p h k' u):k=k':=by
 let⟨a,us,rfl,t,hi⟩:=r;let⟨a',aa,e,t',L⟩:=r';cases e;let:=Xou t t';subst this;cases hi with
 |row i=>cases L with|row i'=>calc Xmo i i'
 |pair g1 g2=>cases L with|pair g3 g4=>let:=Xou g1 g3;subst this;rw[Xmo g2 g4]
open Classical in
abbrev rk{Q3n}(u:Vb):LI:=if q:∃k,UR7 then choose q else []
def Xm4{QVp}{Qpp}{Qmk}:rk p h u=k:=by let q:∃k,UR7:=⟨k,r⟩;unfold rk;rw[dif_pos q];calc(Classical.choose_spec q).same r
section
variable{Q2h}
def Xy6{Q3n}:Ord λx y=>ltL (rk p h x.1) (rk p h y.1):=⟨λa b=>Xrs a b,λa=>Xjn a⟩
theorem Kd3(κ:Vdy):Prop:=κ=tuples' yx\/κ=general'\/κ=oneType'
def Xwh{Q9k}{κ:Vdy}{Quj}(ah:Kd3 κ):Xgl Qfq A E s κ (λx y=>ltL (UIJ x.1) (UIJ y.1)) λx=>∃k,US7 k x.1:=by
 rintro ⟨x,x'⟩ ⟨y,y'⟩ st Q ⟨k,hx⟩ ⟨k',hy⟩ hk hQ;dsimp at hx hy hQ;rw[Xm4 hx,Xm4 hy]at hQ;rw[lt'_eq];calc Vs (wpS_get (Vs ?_));rw[hk];exact Xc hx λa1 aa L t1 hi1=>?_;subst L;exact Xc hy λa2 ae L t2 hi2=>?_;subst L;calc wpS_lift (Vc8 ?_);let fin:(λ(c:Bool) s'=>s'=s/\wpS QCw E s (match (Except.ok c:Except Vb Bool) with|.ok b=>pure (UbB)|.error e=>do modify (λs=>UtC (gallopOf s) QdW);pure yy) Uv1) QgZ s:=⟨rfl,V2 hQ⟩;let lx:∀A':Uq,A'.units<=A.units+1->Lx Qfq A' s aa ae QgZ:=λA' hA=>X6l (Vbk hA hu) hi1 hi2;rcases ah with rfl|rfl|rfl;·exact Y9 t1 λo1 af aj n1 ag=>?_;exact Y9 t2 λo2 ab ai n2 ac=>?_;calc PySem.W.kat_lt af ag ab ac ?_;simp[Vn];exact X76 (lx A QPH) 0 fin
 ·exact Xkp (c:=yw) UgF
 calc Xkp (c:=yx) UgF
private noncomputable abbrev Kvs:=List (LI×Vb×Vb)
def Xkx(qs:Kvs):Qn0.toList=Qut:=by
 rw[Array.toList_zip];induction qs with
 |nil=>rfl|cons q qs L=>show _::_=_::_;congr 1
def Xov{Q9k}{β:Type}{qs:Kvs}{f:V8->Sem β}{Q:β->Vc->Prop}{Quj}(hq:∀q∈qs,US7 q.1 q.2.1)(h0:0<lg qs)
  (h:∀st (rs:Kvs),Qtu->Ul3->UB3=QqF.toArray->UzC=yy->Qcq (f st) Qeq):
  Vf QCw (keyKind' QIL.toArray >>= fun κ=>QfB >>= λx=>f x.2) Qeq:=by
 let run:∀ κ,Kd3 κ->Qcq (QfB >>= λx=>f x.2) Qeq:=fun κ ab=>by
  let mm:∀x∈Qn0.toList,∃q∈qs,x=q.2:=λx hx=>by rw[Xkx]at hx;exact UQ5 λq h1 h2=>?_;exact⟨q,h1,h2.symm⟩
  let ez:=Xkx qs;generalize (qs.map λq:LI×Vb×Vb=>q.2.1).toArray.zip (qs.map λq=>q.2.2).toArray=a0 at ez mm |-;let sr:=X75 UmE (s:=s) (κ:=κ) (Xy6 QHu) (Xwh hu ab) (a₀:=a0) (λx hx=>?m) (st:=Vib κ a0 #[] 7 yy) rfl rfl rfl rfl
   (Q:=λ_ st=>∃rs:Kvs,Qtu/\WkL (rs.map λq=>q.1)/\QJ.map QK1=(rs.map λq=>q.2.2).toArray/\Vcw st=yy) λst hf hs=>?f
  unfold wpS at sr;exact Va (Vp sr (λr s' hr=>?r) λ_ _ e=>e)
  case m=>exact Xa (mm x hx) λq h1 aa=>?_;subst aa;exact⟨q.1,hq q h1⟩
  case f=>
   exact Xi hs λpp pw=>?_;rw[ez]at pp;exact Xa (Xcm pp qs rfl) λrs r1 r2=>?_;calc⟨rs,r1,?_,?_,hf⟩;·rw[r2,List.pairwise_map]at pw;unfold WkL;rw[List.pairwise_map];exact pw.imp_of_mem λ{a b} ha hb z=>?_;let z':ltL (UIJ b.2.1) (UIJ a.2.1)=false:=z;rw[Xm4 (hq a (r1.mem_iff.mp ha)),Xm4 (hq b (r1.mem_iff.mp hb))]at z';exact z'
   ·apply Array.toList_inj.mp;rw[Array.toList_map,r2,U8];rfl
  case r=>let⟨rfl,rs,r1,r2,r3,r4⟩:=hr;exact h r.2 UsK
 let L:∀(M:Model) (h:Heap) (v:Vb),(∃n t,v=Vhu n t)->PySem.W.Looks M h QYZ QvV:=λM h v z=>by exact Yy z λn t aa=>?_;subst aa;exact .now
 let rv:=RowsV.of (f:=λq:LI×Vb×Vb=>q.1) (g:=λq=>q.2.1) qs hq;cases en:(QxG.all λk=>!k.isEmpty) with
 |true=>calc Xe (Xy4 rv en) λfs f1 f2 f3=>?_;calc Va (PySem.W.kat_kind (T:=.type "int") f1 (by rw[f2,Vg];calc h0) (λv hv=>L _ _ v (f3 v hv)) rfl (run _ Q10))|false=>calc Va (Xti rv (by rw[Vg];calc h0) en (run _ Qba) (run _ Qca))
def Row.ne {QVp}{QZh}{xs:AV}{Qoi}{Qpp}{h':Heap}(ho:QFr=yz (UU5 xs n))(kp:∀b o,b≠a->Qdr=Qkq->Qqq=Qkq){Qmk}:UX5:=r.keepT λb items t=>by let⟨o,L,hc⟩:=t;calc⟨o,URJ Qh0 L,hc⟩;rw[z,ho]at L;cases L;calc aB0 (show U0A=Quw from hc.1) Q2
abbrev Xy7(x e:Nat):UFH:=if x != e then do
  rule "list.sort.modified"
  (raiseError "ValueError" "list modified during sort" : Sem PUnit)
  ret .none
 else ret .none
abbrev Xy8{Qji}(e:Nat)(st:V8):UFH:=do
 let x <- seqEpoch a
 Builtin.List.listUpdate Qe λ_=>UB3
 match Vcw st with
 |some v=>do
  rule "list.sort.comparison-raised"
  (throw v:Sem PUnit)
  Xy7 x e|_=>Xy7 x e
def Xwi {Q9k}{QZh}{qs:QKw}{Qoi}{QBl}{Quj}(ho:Qkt=yz (UU5 Qc.toArray n))(hl:Q0H<100000){Q6m}
  (h:∀rs:QKw,Qtu->Ul3->P QCZ {s with heap:=sortedHeap Qnq QEx}):Qcq (Vbf.«list.sort» QNZ) P E s:=by
 let sl:=Vav;let aa:(Qut).toArray.size<=V6:=by rw[Vn,Vg];omega
 exact Xd (⟨_,Vfe ho λ_=>#[]⟩:∃e1,QH0.get? a=UtI) λe1 o1=>?_;let up:∀b o,QH0.get? b=Qkq->QHX.get? b=Qkq:=λb o q=>Qwt QZV;let kp:∀b o,b≠a->QWq=Qkq->QHX.get? b=Qkq:=λb o hb q=>up b o (QKR.trans q);let o2:=up a _ o1;rw[list_sort_plain];calc Va (Vew ho rfl (Va (Vec ho rfl (Va (U0F rfl (Va (Viq QoK aa)))) aa Q27)));change Vf QCw _ P E QP9;let fin:∀(st:V8) (rs:QKw),Qtu->Ul3->UB3=Ql8.toArray->UzC=yy->Qcq (Xy8 a e1 st) P E QP9:=λst rs r1 r2 r3 r4=>by unfold Xy8;calc Va (seqEpoch_at o2 rfl (Va (Vec o2 rfl ?_ Q27 (by rw[r3,Vn,Vg,r1.length_eq];omega))));rw[r3,r4];dsimp;unfold Xy7;rw[bne_self_eq_false];exact Vd QxW
 let zz:(Qut).toArray.size=lg qs:=by rw[Vn,Vg]
 by_cases q:Q0H<2
 ·let q':(Qut).toArray.size<2:=by rw[zz];exact q
  dsimp;rw[iP0 q',iP0 q'];calc QMt;rw[StateT.run_pure];calc Va (Vd (fin _ qs Q3M ?_ ?_ rfl));·exact Xwg _ q
  ·show((Qut).toArray.zip Qc.toArray).map QK1=_;apply Array.toList_inj.mp;rw[Array.toList_map,Array.toList_zip,List.map_snd_zip Qa]
 ·let q':¬ (Qut).toArray.size<2:=by rw[zz];exact q
  dsimp;rw[iN0 q',iN0 q'];let e2:QwG.map (λq:LI×Vb×Vb=>q.2.1)=Qut:=by rw[U8];rfl
  let e3:QwG.map (λq:LI×Vb×Vb=>q.2.2)=Qut:=by rw[U8];rfl
  let:=Xov UmE (s:=QP9) (qs:=qs.map λq=>(q.1,q.2,q.2)) (Q:=P) (f:=Xy8 a e1) hu (λpp hp=>by
    exact Xa QCa λq ab L=>?_;subst L
    calc QTb.ne ho kp) (by rw[Vg];omega) λst rs r1 r2 r3 r4=>by
    exact Xa QjT λts t1 L=>?_;subst L;rw[U8]at r2 r3;exact fin st ts t1 r2 r3 r4
  rw[e2,e3]at this;calc this
def Xqf{Qon}{Q8j}(hl:QOs vs.toArray\/Vbx ULB vs.toArray)(L:QJ2<=V6)
  (h:Q vs Qk1):Qcq Q1V Qeq:=by
 exact Xj hl QRZ λhl=>?_;·exact ULC h L
 ·calc Xh9 hl L h
def Xwj{Q9k}{l:Addr}{qs:QKw}{Q:VP}{Qrk}(hl:QOs Qc.toArray\/Vbx ULB Qc.toArray)(h5:Q0H<100000){Q6m}
  (h:∀rs:QKw,Qtu->Ul3->Q Q3T {s with heap:=QVt QEx}):Qcq QYC Qeq:=by
 let sl:=Vav;let L:Qc.length<=V6:=by rw[Vg];omega
 let sz:(QOu (V9 (·++Qc.toArray))).objs.size=s.heap.objs.size+1:=by rw[Vex,Vg3]
 let oL:QyT.get? QZ=yz Qh5:=sz▸Um3 rfl;let aa:∀b o,QWq=Qkq->QyT.get? b=Qkq:=λb o q=>Qwt ((Vdu Q5s (Uf Qlg)).trans QZV);calc QRs ?_;unfold Vbf.«sorted»;calc Q6r (Vd (Va (Xqf hl L (Va (Ved ?_ L)))));change Vf Uu1 {s with heap:=QA1.push Qh5};rw[sz];calc Va (Ul (UP2 (Xwi QG3 oL h5 (λq ab=>QTb.keep aa) λrs r1 r2=>QL4) QXS));calc Vd ⟨_,rfl,h rs r1 r2⟩
universe e
private noncomputable abbrev Xcv(k:LI):D:=Qlx
section
variable{QHh}
abbrev kD(p:Bool)(k:LI):D:=match p with
 |false=>Xcv k|true=>.tup [.int (k.headD 0),Xcv k.tail]
theorem X77(p:Bool){QMl}(ρ:LR){Qdo}(k:LI)(u:Vb):Prop:=∃v,Q6s QBd v/\RelV v u
def Xwk{k:LI}{Q2l}{Q0h}(hd:Q6s QYY v){Qwo}:∃b us,u=UH9/\Vbx s.heap b us.toArray/\Vbv us k:=by simp[RD]at hd;calc Xc hd λb zs L hs hz=>?_;subst L;let ez:=hz.ints_of;subst ez;cases ru;calc Xe QOX λus h1 h2 _=>?_;calc⟨b,us,rfl,h2,Xbd h1⟩
def X78{Q9k}{k:LI}{Q2l}{Q0h}(hk:p=yx->k≠[])(hd:Q6s QBd v){Qwo}:US7 k u:=by
 cases p with
 |false=>let⟨b,us,e,h1,h2⟩:=Xwk I hd ru;exact⟨b,us,e,h1,.row h2⟩|true=>
  cases k with
  |nil=>exact aB0 rfl (hk rfl)|cons n r=>
   simp[kD,RD]at hd;calc Xc hd λb zs L hs hz=>?_;subst L;cases ru;calc Xe QOX λus h1 h2 _=>?_;let⟨v1,ac,rfl,q1,hz⟩:=hz;simp[RDs]at hz;let⟨v2,aa,rfl,q2,rfl⟩:=hz;cases h1 with
   |@cons _ u1 _ ae c1 h1=>cases h1 with
    |@cons _ u2 _ ab c2 h1=>cases h1;let⟨a,vs,rfl,g1,g2⟩:=Xwk I q2 c2;simp[List.headD_cons,RD]at q1;subst q1;let⟨t,rfl⟩:=c1;calc⟨b,_,rfl,h2,.pair g1 g2⟩
def Xhj{Q9k}{Q0h}:∀(ks:LL) (ws:LW) (its:LV),(p=yx->∀k∈ks,k≠[])->QDs Q9S ws->UB1->∃qs:QKw,UzB=ks/\qs.map QK1=its/\∀q∈qs,US7 q.1 q.2/\X77 p X QVq q.1 q.2
 |[],ws,its,_,hr,rv=>by simp[Vfs,RDs]at hr;subst hr;cases rv;exact⟨[],rfl,rfl,λq L=>by cases L⟩|k::ks,ws,its,hk,hr,rv=>by
  simp[Ub,RDs]at hr;calc Xc hr λv r aa h1 h2=>?_;subst aa;cases rv with
  |@cons _ u _ us h3 h4=>
   exact Xe (Xhj I ks r us (λz y hy=>hk z y (UN7 hy)) h2 h4) λqs e1 e2 e3=>?_;calc⟨(k,u)::qs,by rw[Ub,e1],by rw[Ub,e2],λq L=>?_⟩;rcases Vv.mp L with rfl|L;·exact⟨X78 I (λz=>hk z k V4) h1 h3,v,h1,h3⟩
   ·calc e3 q L
def Xky{Q9k}{f:LI->LI}:∀(rs:QKw),(∀q∈rs,X77 p X QVq (f q.1) q.2)->∃zs,QDs ((rs.map λq=>f q.1).map QUg) zs/\Vals zs Ql8
 |[],_=>⟨[],.nil,.nil⟩|q::rs,h=>by calc Xa (Xky rs λp L=>h p QIA) λzs z1 z2=>?_;calc Xa (h q V4) λv h1 h2=>?_;calc⟨v::zs,.cons h1 z1,.cons h2 z2⟩
def Xy9{Q9k}{Qro}{l:Addr}{Q9m}(hl:UbD\/Vbx s.heap Q5t)(hk:p=yx->∀k∈ks,k≠[])(hr:QDs Q9S ws)(ab:UB1)(e3:Xkh ks=US6):
  Vf QTq QYC (QXt (Qvq (S++[.lst (r.map QUg)]))) E s:=by
 exact Xe (Xhj I.inv ks ws its hk hr ab) λqs ac aa hq=>?_;subst ac aa;unfold Xkh at e3;obtain⟨h5,rfl⟩:(lg qs)<100000/\r=Yi (qs.map (·.1)):=by
  by_cases c:(qs.map λq=>q.1).length<100000;·rw[iP0 c,Vt]at e3;rw[Vg]at c;exact QEU
  ·rw[iN0 c]at e3;cases e3
 exact Xwj Q0 hl h5 (λq h=>(hq q h).1) λrs r1 r2=>?_;let e4:=Xot (r1.map QT) r2;exact Xa (Xky (f:=id) rs λq h=>(hq q (r1.mem_iff.mp h)).2) λzs z1 z2=>?_;rw[show(rs.map λq=>id q.1)=rs.map QT from rfl,e4]at z1;exact Xd (Uv6 QEx) λe8 ae=>?_;let L:s.heap.objs.size<=s.heap.objs.size+1:=Vc6 _;let J:=I.inv.laid (o:=.lst zs) (t':=s.toks) (h':=QVt QEx) QKG L
  ⟨by rw[z2.length,Vg,r1.length_eq,Vav];omega,rs.map QK1,e8,z2,by simpa [V5] using ae⟩
 calc Xan J (I.inv.hok.fresh L) I.sr z1
def Xza{Q9h}:UX2 .sorted Ql0:=by
 intro pc Qbv;match ds,rd,L with
 |[],_,L=>cases L rfl|_::_::_,_,L=>cases L rfl|[d],rd,L=>
  calc Qyu λv aa r1=>?_;subst aa;calc UP5 λu aa ru=>?_;subst aa;simp[Yc]at L |-;cases e:Qpy with
  |none=>rw[e]at L;cases L rfl|some xs=>
   rw[e]at L;dsimp at L |-;cases e0:Us9 with
   |some ns=>
    rw[e0]at L;dsimp at L |-;split at L;·rename_i hz;rw[iP0 hz];let q:=Ys e0;subst q;exact Xvs I e hz r1 ru
    ·cases L rfl|none=>
    rw[e0]at L;dsimp at L |-;cases e2:UUG with
    |some ks=>
     rw[e2]at L;dsimp at L |-;cases e3:Xkh ks with
     |none=>rw[e3]at L;cases L rfl|some r=>dsimp;let q:=Xbz e2;subst q;calc Xk Q4G λa ws its aa hs hr ab ac=>?_;subst aa;calc Xy9 (p:=yw) hu I hs QT1 hr ab e3
    |none=>rw[e2]at L;cases L rfl
universe e
theorem PwL(l:LL):Prop:=l.Pairwise λa b=>UW3=yx
def WkL.pw{l:LL}(h:WkL l)(n:l.Nodup):UYH:=by unfold PwL;let:=List.pairwise_and_iff.mpr ⟨h,n⟩;calc this.imp λ{a b} Qw0=>Xhi b a (Ne.symm h2) h1
def PwL.wk{l:LL}(h:UYH):WkL l:=List.Pairwise.imp (λ{a b} z=>Xjn z) h
def Xkz{QJp}(h1:UYH)(h2:PwL m):l=m:=Xkv p h1.wk h2.wk
def Xhk(l:LL)(h:l.Nodup):PwL Qlb:=(Xkw l).pw ((Xab l).nodup_iff.mpr h)
universe Z
universe e
section
namespace Z
open PySem PySem.SetTable PySem.Spec PyProof.Rows L2
def X79{L:LL}{k:LI}(h:L.Nodup):QHS.Nodup:=by
 unfold ddR;split;·exact h
 ·rename_i c;rw[Vdm];calc⟨h,by simp!,λa ha b hb e=>c (by rw[V3]at hb;rw[<-hb,<-e];calc ha)⟩
def Xjo{QIm}:Qo3.Nodup:=by
 let:∀(l L:LL),L.Nodup->Q8S.Nodup:=λl=>by
  induction l with
  |nil=>intro L h;calc h|cons k l ih=>intro L h;exact ih _ (X79 h)
 calc this ks [] Vg1
def Xru:∀(l L:LL),lg L<=Q8S.length
 |[]=>λL=>UX0|x::l=>λL=>by
  calc Uh ?_ (Xru l (ddR L x));unfold ddR;split;·exact UX0
  ·simp!
def Xzb{QIm}{QQl}(hi:i<Ue9):ddL (ks.take Qq1)=ddR QXL QRT:=by unfold ddL;rw[List.take_succ,Vac hi,Vfp];simp![List.getD,hi]
def X8a{QIm}{QQl}:QXL.length<=Qo3.length:=by
 let:ks=ks.take i++ks.drop i:=(Uo i ks).symm;unfold ddL
 conv=>rhs;rw[this,Vfp]
 calc Xru _ _
def Xfa{Qmh}{Qak}{Qsm}(e:∀o,h.get? x=Qkq->h'.get? x=Qkq):UBK:=by calc Yd r λo its m L r=>?_;calc⟨o,its,m,e _ L,r⟩
def SetR.mov{Qmh}{Qak}{QTm}{Qth}(S:QUv h a ld ps){Qhl}(e2:∀p∈ps,∀o,h.get? p.2=Qkq->h'.get? p.2=Qkq):QUv UMI ps:=by let⟨o,es,ep,t,ho,L,hd,m,r⟩:=S;calc⟨o,es,ep,t,e _ ho,L,hd,⟨m.1,λp hp=>Xfa QfZ (e2 p hp)⟩,r⟩
section
variable{Qmh}{Qgh}
def Xzc{QNl}(Sa:Addr)(hf:Sa ∉ fp){QIm}(xs:LR)(hn:Q5A=n)(hP:∀i v,P i v->∃x,v=.ref x/\xs[i]?=QJu)(hx:∀x∈xs,x≠Sa/\x ∉ wr){Quj}(hb:Qo3.length<1200):
  ∀(k i:Nat) (s:Vc) (ps:Qgx),n-i=k->i<=n->St i s->QUv s.heap Sa ld ps->Q18.Perm QXL->(∀p∈ps,∃i:Nat,ks[i]?=UaB/\xs[i]?=Uk0)->(∀(i:Nat) (x:Addr),xs[i]?=QJu->Qvy QRT x) ->
   (∀s' aa,Moved (Sa::wr) G s s'->QUv s'.heap Sa ld aa->(aa.map QT).Perm Qo3->(∀p∈aa,∃i:Nat,ks[i]?=UaB/\xs[i]?=Uk0)->R Q5T s')->UL7 (QQu ⟨[.ref Sa,UFE],[]⟩) R s:=by
 let hw:Sa ∉ wr:=λh=>hf QiY;let sub:∀b∈wr,b∈Sa::wr:=λb hb=>UN7 hb;intro k;induction k with
 |zero=>
  intro i UeF;obtain rfl:i=n:=by omega
  calc U1D ?_;rw[Vbt Vcs _];show UP1;calc Va QZG;show QRr Q8b USB;calc Vd (hR s' ps QIF (S.mov QNI λp hp o e=>?_) (by rwa [<-hn,Vey]at p) L);exact Xa (L p hp) λj _ e2=>?_;exact m.heap _ o (hx _ Qwf).2 e|succ k ih=>
  intro i UeF;let lt:i<n:=by omega
  calc U1D ?_;rw[Vbt Vcs _];show UP1;calc Va (UN2 lt st λv s' hv ag m=>?_);exact Xa QIY λx ak ex=>?_;subst ak;let ab:∀y∈xs,∀o,s.heap.get? y=Qkq->s'.heap.get? y=Qkq:=λy hy o e=>m.heap y o (hx y hy).2 e
  let S1:=S.mov QNI (λq hq o e=>by
   exact Xa (L q hq) λj _ e2=>?_
   calc ab _ Qwf o e)
  show QRr (Vd4 [Ui x] (setAdd Sa Qq2) >>= _) USB;let le:=X8a ks i;let pl:QW5=QXL.length:=by rw[<-p.length_eq,Vg]
  calc Va (Ul (X3m (show A.in1.units<Val from hu) S1 (Xfa (hr i x ex) (ab x (Uc ex))) Q0 λh' aa sb S' q=>?_));let ac:∀q∈aa,∃i:Nat,ks[i]?=yz q.1/\xs[i]?=yz q.2:=λz hz=>by
   rcases q with⟨_,rfl⟩|⟨_,q2⟩;·exact L z hz
   ·exact Xj (Ut.mp (q2.mem_iff.mp hz)) (λhz=>?_) λhz=>?_;·exact L z hz
    ·rw[V3]at hz;subst hz;exact⟨i,by simp![List.getD,show i<Ue9 by omega],ex⟩
  calc Vd ⟨Vf9 Vcs _,Uf9 (U6B ag Q1c λb hb o e=>?_) S' ?_ ac (λj y ey=>Xfa (Xfa (hr j y ey) (ab y QtY)) λo e=>?_) λaj ae ai al ah af=>?_⟩;·rw[sb.2 b (λz:b=Sa=>hf Qpc)];exact e
  ·rw[Xzb ks i Q0];unfold ddR;rcases q with⟨q1,rfl⟩|⟨q1,q2⟩;·rw[iP0 QaP];exact p
   ·rw[iN0 QmG];let:=q2.map QT;rw[Vau]at this;exact this.trans QJO
  ·rw[sb.2 y (hx y QtY).1];exact e
  calc hR aj ae (Ui6 (QIF.then_heap Q1c λb o hb e=>?_) ai) al ah af;rw[sb.2 b (λz:b=Sa=>hb Qqc)];calc e
universe e
universe Z
universe e
section
namespace Z
open PySem PySem.SetTable PySem.Spec PyProof.Rows
section
variable{Q2h}
def Xzd {Qcl}:QUv h a ld []:=
 ⟨_,#[],0,UG4,e,QfF,rfl,⟨rfl,λp L=>by cases L⟩,⟨Xrm ld,λj h x hm=>by simp![Ats,SetTable.fresh]at hm⟩,rfl⟩
def Xmp{QIj}{rs:LL}{xs:LR}{QMo}{Qrk}{QNj}(hi:items.toList=xs.map Ui)(aa:(lg rs)=QPs)(ab:∀(i:Nat) (x:Addr),xs[i]?=QJu->Qvy (rs.getD i []) x)(hb:QLd.length<1200)
  (h:∀(h':Heap) (tk:Nat) (ps:Qgx),QUv Qnr QNW ps->Q18.Perm QLd->(∀p∈ps,∃i:Nat,rs[i]?=UaB/\xs[i]?=Uk0)->Qb1->UsD QO):
  Vf UpA:=by
 exact Xbx QhD λlS St W st=>?_;let hz:items.size=lg rs:=by rw[<-Vy,hi,Vg,aa]
 let ac:∀x∈xs,x<s.heap.objs.size:=λx hx=>by exact Xd (Vfx.mp hx) λi e=>?_;exact Yd QvZ λo _ _ ho _=>?_;exact UsC
 exact U70 λR' af=>Xzc Um6 rs xs hz.symm (λi v hv=>?_) (λx hx=>⟨Uf Qgb,?_⟩) QG3 hb QUT 0 _ [] rfl Q27 st (Xzd Qnb) Qqf (λp hp=>by cases hp) (λi x e=>Xfa QvZ λo ho=>Qwt Q3c) λs' ps m S' p ae=>af s' ?_
 ·rw[<-Ua,hi,Ur]at hv;cases e:xs[i]? with
  |none=>rw[e]at hv;cases hv|some x=>rw[e]at hv;cases hv;exact⟨x,rfl,rfl⟩
 ·rw[Va2];simp[Vv,Va6,or_false];exact Uf (Va3 Qgb)
 calc Xf Q3Q λh' tk ag k'=>?_;subst ag;calc h _ _ ps S' p ae k'
universe e
universe Z
universe e
section
namespace Z
open PySem PySem.SetTable PySem.Spec PyProof.Rows L2
def Xze{Qmh}{Qsl}:Vbv vs ks:=by
 induction h with
 |nil=>calc .nil|@cons k v ks vs h1 _ ih=>calc Xd Qud λt L=>?_;subst L;calc .cons k t ih
def Xwl{Qmh}{QSi}{Qsm}:Row yw h k Qq2:=by calc X2 r λo its m L hc hd hi=>?_;calc⟨x,its.toList,rfl,⟨o,L,hc,m,by rw[hd]⟩,.row (Xze hi)⟩
section
variable{Q2h}
def Xib{Sa:Addr}{Qth}{Q:VP}{Qrk}(L:∀q∈ps,Row yw s.heap q.1 QSa){Q0o}
  (hC:∀ {Q':LV->Vc->Prop} {E':VP},(∀h1 tk (qs:Qgx),Ua9->(∀b u,QWq=QIt->U55=QIt)->s.heap.objs.size<=h1.objs.size->Q' Q95 {s with heap:=h1,toks:=tk})->Vf Q3 A.in1 (collect (.ref Sa)) Q' E' s)
  (h:∀(qs:Qgx) (h':Heap) (tk r e:Nat),Ua9->WkL QxG->Qb1->s.heap.objs.size<=r->h'.get? r=yz QkI->Q QQe QO):
  Vf QCw (QTx [.ref Sa]) Qeq:=by
 calc QRs ?_;unfold Vbf.«sorted»;calc Q6r (Vd (Va (hC λh1 tk qs qp kp le=>?_)));replace L:∀q∈qs,Row yw h1 q.1 QSa:=λq hq=>(L q Qm8).keep kp;let lq:=qp.length_eq;let ez:Q95=Q0I.map QK1:=by rw[U8];rfl
 calc Va (Ved ?_ (by rw[Vav,Vg];omega));let⟨hp,g,dr,af,os⟩:=s;replace kp:∀b u,hp.get? b=QIt->U55=QIt:=kp;replace le:hp.objs.size<=h1.objs.size:=le;rw[ez];generalize aa:Q0I=ts;show QXq Qz3 _ _ ⟨h1.push Qp5,g,dr,tk,os⟩;let oL:(h1.push Qp5).get? h1.objs.size=yz Qp5:=Um3 rfl;calc Va (Ul (UP2 (Xwi (p:=yw) (qs:=ts) QG3 oL (by rw[<-aa,Vg];omega) (λq hq=>?_) λrs r1 r2=>QL4) QXS));·rw[<-aa]at hq;exact Xa (V0.mp hq) λp ae ab=>?_;subst ab;exact(L p ae).keep λb o q=>Qwt q
 ·rw[<-aa]at r1;exact Xa QjT λzs z1 ab=>?_;subst ab;exact Xd (sortedHeap_at (out:=((zs.map λq=>(q.1,Ui q.2)).map QK1).toArray) oL) λe3 ac=>?_;rw[U8]at r2;calc Vd ⟨_,rfl,h zs _ tk _ e3 (z1.trans qp) r2 (λb u hb=>?_) le ?_⟩;·let lb:b<h1.objs.size:=Uj Qlf le;rw[sortedHeap_old QsY QnK];exact Qwt QLN
  ·rw[U8]at ac |-;calc ac
def Xjp{L:Addr}{Qth}{QMo}{Qrk}(S:QUv UC6 QNW ps)(aa:Q18.Nodup){Q0o}
  (h:∀(qs:Qgx) (h':Heap) (tk r e:Nat),Ua9->PwL QxG->Qb1->s.heap.objs.size<=r->h'.get? r=yz QkI->Q QQe QO):
  Vf QCw (QTx [.ref L]) Qeq:=by
 exact Xai S λo es ep t ho ab hd m T hl=>?_;exact Xib hu (λq hq=>Xwl (m.2 q hq)) hn (λ{Q' E'} hq=>Xia (show A.in1.handled=yy from hh) ho ab hd T.toTab hl λh1 tk kp le=>?_) λqs h' tk r e q1 q2=>h qs h' tk r e q1 (q2.pw ((q1.map QT).nodup_iff.mpr aa));exact Xa (Xcm (Xc7 w L ep es) ps m.1) λqs qp qe=>?_;let ev:(Xa8 w L ep es).map QK1=qs.map λq=>Ui q.2:=by rw[qe,U8];rfl
 rw[ev];calc hq h1 tk qs qp kp le
universe e
universe Z
universe e
section
namespace Z
open PySem PySem.Spec PyProof.Rows L2
section
variable{QHh}{QSm}
abbrev Xtj{QMl}{QFp}(ks:LI):HO:=.ext λh=>Uf6
def X3n{ks:LI}{QSi}(S:Uf6):Qxr H h Da QHV:=
 ⟨S,let ⟨o,_,_,_,ho,_⟩:=S;Qic,λh1 h2 x k=>SetI.keep x k⟩
def Y1:∀l:LI,Xl Qy5=yz l
 |[]=>rfl|x::l=>by rw[Ub,Xl,Y1 l];rfl
variable{d:Nat}
def Xow{Qmh}:∀ {es:List Qd0},Uv7 es->Vbv (es.map QK1) (es.map λe=>QRv)
 |[],_=>.nil|e::es,h=>by calc Yy (Xrj h V4) λi t q=>?_;simp[Ub,q];calc .cons i t (Xow h.tail)
def Xtk{Qro}{ns ks:LI}{Q9q}{Qzg}(hD:H Da=yz QHV)(p:ks.Perm Qx4)(hz:Qx4.length<60):
  Vf QTq (QTx [.ref Da]) (λw s'=>QXt (Xdp QW S) w s') E s:=by
 exact Ye ((show SetI QOq s.heap Da Q6F ks from(I.inv.hok Da _ hD).1)) λo es ep t ho ae hd ah L T hl=>?_;calc QRs ?_;unfold Vbf.«sorted»;calc Q6r (Vd (Va (Xia (show X.A.in1.handled=yy from hh) ho ae hd T hl λh1 tk kp le=>?_)));let op:=Xc7 X.w Da ep es;let len:Q26.length<60:=by rw[op.length_eq,<-Vg (f:=λe=>QRv),<-L,p.length_eq];exact hz
 let ab:ElemsOf Q04 Q26:=ah.perm op;let hI:=Xow ab;let pk:QpK.Perm Qx4:=(op.map λe=>QRv).trans (L▸p);generalize Q26.map QK1=vs at hI;let lv:QJ2<60:=by rw[hI.length,Vg];exact len
 generalize QpK=ms at hI pk;calc Va QEX;let⟨hp,g,dr,ai,os⟩:=s;replace kp:∀b u,hp.get? b=QIt->U55=QIt:=kp;replace le:hp.objs.size<=h1.objs.size:=le;show Vf Uu1 ⟨h1.push Qy0,g,dr,tk,os⟩;let oL:QuU.get? h1.objs.size=yz Qy0:=Um3 rfl;show QXq Qz3 QLq;calc Va (Ul (UP2 (list_sort_tree oL hI Q0 λout af a1 a2 a3=>QsQ) QXS));let ag:af=Xa7 Qx4:=PySem.W.ksm_same ((a2.trans pk).trans Qdf.symm) a3 (Xe7 _);subst ag;exact Xd (sortedHeap_at (out:=out) oL) λe3 ac=>?_
 let J:=I.inv.laid (o:=.lst ((Xa7 Qx4).map V.int)) (t':=tk) (h':=sortedHeap QuU h1.objs.size vs out) (λb u hb=>by
  let lb:b<h1.objs.size:=Uj Qlf le;rw[sortedHeap_old QsY QnK]
  calc Qwt QLN) le
  ⟨by rw[Vg,Qdf.length_eq,Vav];omega,out.toList,e3,Xen a1,by simpa [V5] using ac⟩
 let aa:Xdp QW S=Qvq QtD:=by simp[Xdp,Y1,hz,if_true]
 rw[aa];calc Xan J (I.inv.hok.fresh le) I.sr QVf
def Xgp{Qck}:∀ {ks:LL} {ws:LW} {its:LV},Qwr QhA ws->UB1->∃xa:LR,its=xa.map Ui/\Q5A=lg xa/\∀(i:Nat) (x:Addr),xa[i]?=QJu->Ut3 x Qi8
 |[],ws,its,h,v=>by simp[Vfs,RDs]at h;subst h;cases v;exact⟨[],rfl,rfl,λi x e=>by simp! at e⟩|k::ks,ws,its,h,v=>by
  simp[Ub,RDs]at h;calc U02 λv1 aa L h1 h2=>?_;subst L;cases v with
  |cons r v'=>
   calc Xe (Xgp h2 v') λxa e1 e2 e3=>?_;simp[RD]at h1;calc Xc h1 λb zs L hs hz=>?_;subst L;let ez:=hz.ints_of;subst ez;cases r;calc⟨b::xa,by rw[e1];rfl,by simp![e2],λi x e=>?_⟩;cases i with
   |zero=>cases e;calc hs|succ i=>calc e3 i x QmE
def Xf0{Qck}:∀(qs:Qgx),(∀q∈qs,Ut3 q.2 QzR)->Qwr (QxG.map λk=>Qlx) Qx5
 |[]=>λ_=>by simp[Vfs,RDs]|q::qs=>λh=>by simp[Ub,RDs];calc⟨_,_,rfl,?_,Xf0 qs λz hz=>h z (UN7 hz)⟩;simp[RD];calc⟨q.2,_,rfl,h q V4,Xfv q.1⟩
def Xeq:∀qs:Qgx,Vals Qx5 Q95
 |[]=>.nil|q::qs=>.cons rfl (Xeq qs)
def Xox:∀ks:LL,Yw QxJ=UlF
 |[]=>rfl|k::ks=>by rw[Ub,Yw,Y1,Xox ks];rfl
def Xzf{Qro}{Qtl}{Q9h}{Q9q}{Qrj}
  (S2:UP7) (p:UGK) (af:∀p∈ps,∃i:Nat,ks[i]?=UaB/\xa[i]?=Uk0) (kp:∀b o,QWq=Qkq->Qqq=Qkq) (hz:Qo3.length<1100) (ae:Xl QxJ=yy):
  Vf QTq (QTx [.ref s.heap.objs.size]) (λw s'=>QXt (Xdp QhA S) w s') E QO:=by
 let lp:QW5<100000:=by rw[<-Vg (f:=QT),p.length_eq];omega
 let lt:s.heap.objs.size<h'.objs.size:=by exact Xdn S2 λo _ _ _ ho _=>?_;exact UsC
 exact Xjp (s:=QO) hh Q0 S2 (p.nodup_iff.mpr Qdd) lp λL h2 ac r e qp pw k2 le he=>?_;let e1:L.map QT=Yi Qo3:=Xkz ((QHN.trans p).trans QjN.symm) pw (Xhk _ Qdd);let hq:∀q∈L,Us3 q.2 QzR:=λq hq=>by exact Xa (af q Qm8) λi a1 a2=>?_;let:=hx i q.2 a2;rwa [Vbd,a1]at this
 let aa:s.heap.objs.size<=r:=Uh (Vc3 lt) le;let J:=I.inv.laid (o:=.lst (L.map λq=>V.ref q.2)) (t':=ac) (h':=h2) (λb u hb=>k2 b u QLN) aa
  ⟨by rw[Vg,qp.length_eq,Vav];omega,L.map λq=>Ui q.2,e,Xeq L,by simpa [V5] using he⟩
 let ab:Xdp QhA S=Qvq (S++[.lst (QJa.map λk=>Qlx)]):=by simp[Xdp,ae,Xox,hz,if_true,e1]
 rw[ab];calc U9F (Xf0 L hq)
def S0.seqB{d:D}{QYk}{Q2l}{Qnl}{Q6h}:∃b a vs its,u=QYr/\Xom b Qaw/\RDs QEs/\Vals vs its:=by
 exact Xk (I.seqI h Qby) λa vs its aa hs hr L _=>?_;subst aa;exact Xj hs QQZ λhs=>?_;·exact⟨yx,a,vs,its,rfl,hs,hr,L⟩
 ·calc⟨yw,a,vs,its,rfl,hs,hr,L⟩
def Ycj {Qio}{p0 p2 pos ac:Pos}{QWp}(ai:U94)(ak:Uk3=yy)(ag:Gl X "set")(al:X.mg "set"=yy){QWi}:
  DE X (UaE [.Call QDG [a] [] ac] Uf2) (λenv S=>Qv.bind λx S=>match Xo S x with
   |some xs=>Xdp xs S
   |none=>.bad):=by
 intro pc Qyr;dsimp at nb |-;calc Vbj (Ue3 ai ak QDv (Vbc (Vdg ?_ rfl) rfl rfl) Q2 rfl);calc Vbj (Ue3 ag al UP3 rfl);calc Qss rfl (λd S1 u s1 v H1 af e1 L I1 rv rd ab=>Vck ?_) λ_ _ z=>z;rw[e1];cases e:Xo S1 d with
 |none=>rw[e]at L;cases L rfl|some xs=>
  rw[e]at L;dsimp at L |-;calc Xbn QLQ λb p ws its aj hq hr ae=>?_;subst aj;cases e2:Us9 with
  |none=>
   cases e3:UUG with
   |none=>simp[Xdp,e2,e3]at L;cases L rfl|some ks=>
    let hz:Qo3.length<1100:=by
     by_cases c:Qo3.length<1100;·exact c
     ·simp[Xdp,e2,e3,c,if_false]at L;cases L rfl
    let qx:=Xbz e3;subst qx;calc Xe (Xgp hr ae) λxa x1 x2 x3=>?_;calc Qwu Q7E Q0 λh' tk ps S2 p ah kp=>Vck ?_;calc Vp (Xzf UV9 QMQ I1 x3 S2 p ah kp hz e2) QxB λ_ _ z=>z.elim
  |some ns=>
   let hz:Qx4.length<60:=by
    by_cases c:Qx4.length<60;·exact c
    ·simp[Xdp,e2,c,if_false]at L;cases L rfl
   let qx:=Ys e2;subst qx;let hw:=hr.ints_of;subst hw;calc Xvy b (s:=s1) (show X.A.handled=yy from UzD) hq (by simpa using Xbd ae) hz λh' tk ks S2 p kp=>Vck ?_;let hp:H1 s1.heap.objs.size=none:=I1.inv.hok.fresh Qa;let J:=I1.inv.laid (o:=Uz1) U3L (X3n S2);let aa:QIy af af H1 (upd H1 s1.heap.objs.size (Uz1)):=Stp.upd hp;calc Vp (Xtk (E:=λ_ _=>False) QMQ ⟨J,I1.sr.upd hp,I1.er.mono aa⟩ Xp p hz) (λw s2 z=>z.pre (ab.trans aa)) λ_ _ z=>z.elim
universe e
section
variable{QHh}{Qro}
def X8b{QDm}{Qoh}{Qzg}(e1:UlC=QHx)(e2:UaG=US6)(rx:Q6s QNc vx)(qx:RelV vx ux)(ry:Q6s Q81 vy)(qy:UHD uy):
  Vf QTq (Va5 QI0 ux uy) (QXt (.ok QZJ S)) E s:=by
 exact Xk (I.dic e1) λa o xs ha ho f hx _=>?_;exact Xa QkN λys q dd=>?_;rw[RD]at ry;exact Xa ry λa' L aa=>?_;subst L;rw[ha]at aa;cases aa;cases qy;exact Xa QUY λb L hb=>?_;subst L;cases qx;let g:=X6t (k:=r) hx q;let z:(Uk8 r).isSome=QhC.isSome:=by
  cases e3:Xae kvs r with
  |none=>rw[e3]at g;rw[g];rfl|some d'=>rw[e3]at g;exact Y6 g λc v u g1 g2 g3=>?_;rw[g1];rfl
 cases ng with
 |false=>calc wpAny_in_heap UWB ?_;rw[z,Bool.false_bne];calc .mk (v:=.bl QhC.isSome) .refl Qs rfl QD1 I.sr|true=>calc wpAny_notIn_heap UWB ?_;rw[z,Bool.true_bne];calc .mk (v:=.bl ! QhC.isSome) .refl Qs rfl QD1 I.sr
universe e
universe Z
universe e
section
namespace Z
open PySem PySem.SetTable PySem.Spec PyProof.Rows
section
variable{Q2h}
def SetR.typeIs{QTm}{Qth}(S:QUv Qnq ld ps):Q5y:=by calc Xdd S λo es ep t ho L _=>?_;calc QSW
def Xzg{QXj}{Q:Qyt->Vc->Prop}{QUk}{QLi}
  (h:∀r:Qyt,r.isSome=decide Q2H->Q r s):Qcq (setFind a Qq2 QG0) Qeq:=by
 exact Xai S λo es ep t ho ab hd m T hl=>?_;unfold setFind;show QXq (setFindIn a Qq2 _ (99999+1)) QLq;unfold setFindIn;calc Va Qe7;dsimp;rw[show byScan Qqg es=yw from rfl];simp[Vq,if_false];exact Xe Qn7 λN n1 n2 n3=>?_;unfold setSearch;calc Va (X1e (ad:=yw) Ul6 (λL r hr=>?_) QBL N U2L ?_ rfl (λn _ _ aa=>aB0 aa QY5));·exact Vd (h r (by rw[decide_eq_true L];calc hr rfl))
 ·exact Vd (h yy (by rw[decide_eq_false L];rfl))
 ·let:=T.mg.le;rw[show turns t.mask=t.mask+15 from rfl]at n1;omega
def X3o{QDm}{QXj}{Q:VP}(hu:A.in1.units<Val){QLi}
  (h:Q (.bool (ng != decide Q2H)) QQ0):Qcq (Va5 (if ng then .NotIn else .In) Qq2 Qe) Qeq:=by
 let L:∀Q':Bool->Vc->Prop,Q' (decide Q2H) QQ0->Qcq (contains Qe Qq2) Q' E s:=λQ' hq=>by
  unfold contains
  try with_reducible exact Ul ?_
  calc Va (wpAny_specialOf S.typeIs F.slot_set_contains.lookup ?_);show QXq (if (yz (Vho "set.__contains__")==yz Vay)=yx then _ else _) _ E s;rw[iN0 (by rw[beq_builtin_none];calc Ue)]
  exact Va (wpAny_callSpecialUnlessNone?_slot (name:=Vai "__contains__") S.typeIs F.slot_set_contains
   (Uy F.slot_set_contains S.typeIs entry_set_contains ?_ (F.args_set_contains_2 _ _)))
  unfold Vbf.«frozenset.__contains__» Builtin.Frozenset.oneOther;simp[List.isEmpty_nil,bind_assoc];unfold Builtin.Frozenset.addrOf Builtin.Frozenset.withSetAsKey setContains;calc QMt;dsimp;calc QMt;dsimp;calc Va (wpAny_tryCatch (Ul (Va (UgD (Va (Xzg (s:=QQ0) hu S hk λr hr=>?_))))));calc Vd ?_;show QXq (ret (Ve4 r.isSome)) QLq;rw[hr];exact Vd ⟨_,rfl,Vcd hq⟩
 cases ng with
 |false=>show QXq (do return .bool QxN) Qeq;calc Va (L _ (Vd (by rw[Bool.false_bne]at h;calc h)))|true=>show QXq (do return .bool (! QxN)) Qeq;calc Va (L _ (Vd (by rw[Bool.true_bne]at h;calc h)))
universe e
universe Z
universe e
section
namespace Z
open PySem PySem.Spec PyProof.Rows L2
section
variable{QHh}
def X8c{Qtl}{Qrj}
  (S2:UP7) (p:UGK) (aa:∀p∈ps,∃i:Nat,ks[i]?=UaB/\xa[i]?=Uk0) (kp:∀b o,QWq=Qkq->Qqq=Qkq):
  OkP Qur (Qvq QwT) QB QO:=by
 let L:Qbu=none:=U99;exact Xai S2 λo es ep t ho ab hd m T hl=>?_;let J:=I.inv.laid (o:=.ext (StO Q11 s.heap.objs.size ps)) U3L (StO.ok ⟨o,es,ep,t,ho,ab,hd,m.1,T,hl⟩);calc Qpx rfl ?_ (I.sr.new1 L ⟨ps,Xp,λq hq=>?_,p,Xjo ks⟩);·simp[RD];exact QED
 ·calc Xa (aa q hq) λi a1 a2=>?_;let:=hx i q.2 a2;rw[Vbd,a1]at this;calc(Stp.new1 (K:=X.K) (ρ:=ρ) L).tup _ _ this
def Yck {Qio}{p2 aa:Pos}{QWp}(ab:Gl X "set")(ai:X.mg "set"=yy){QWi}:
  DE X (.Call QDG [a] [] aa) (λenv S=>Qv.bind λx S=>Xfq x S):=by
 intro pc Qyr;dsimp at nb |-;calc Vbj (Ue3 ab ai UP3 rfl);calc Qss rfl (λd S1 u s1 v H1 aj e1 L I1 rv rd ac=>Vck ?_) λ_ _ z=>z;rw[e1];cases e:Xo S1 d with
 |none=>simp[Xfq,e,Option.bind]at L;cases L rfl|some xs=>
  cases e3:UUG with
  |none=>simp[Xfq,e,Option.bind,e3]at L;cases L rfl|some ks=>
   by_cases c:Qo3.length<1000
   ·let af:Xfq UgE=.ok QUQ (S1++[.st Qo3]):=by simp[Xfq,e,Option.bind,e3,Xx4,c,if_true]
    rw[af];let qx:=Xbz e3;subst qx;exact Xbn QLQ λb p ws its ah hq hr ag=>?_;subst ah;exact Xe (Xgp hr ag) λxa x1 x2 x3=>?_;exact Qwu Q7E Q0 λh' tk ps S2 p ae kp=>?_;exact UG3 (X8c I1 x3 S2 p ae kp)
   simp[Xfq,e,Option.bind,e3,Xx4,c,if_false]at L;cases L rfl
def Ycl{QDm}{Qoh}:Qns Q7c (Xim ng):=by
 intro pc UoE;unfold Xim at L |-;cases y with
 |ref n=>
  cases x with
  |tup ks=>
   dsimp at L |-;cases e1:Xcq S n with
   |none=>rw[e1]at L;cases L rfl|some rs=>
    rw[e1]at L;dsimp at L |-;cases e2:UaG with
    |none=>rw[e2]at L;cases L rfl|some r=>
     unfold Xcq at e1;cases eo:S[n]? with
     |none=>rw[eo]at e1;cases e1|some ob=>
      rw[eo]at e1;cases ob with
      |st af=>
       cases e1;let⟨a,ha,ps,h1,h2,h3,_⟩:=I.sr.adr eo;rw[RD]at ry;calc Xa ry λa' aa ab=>?_;subst aa;rw[ha]at ab;cases ab;cases ru;calc Xa QUY λb aa hb=>?_;subst aa;cases rv;let⟨⟨o,es,ep,t,ho,ae,hd,he,T,hl⟩,_,_⟩:=(show Qdt QYB from QXs h1);let ac:=X3o (prog:=X.prog) (w:=X.w) (A:=X.A) (E:=E) (s:=s) (ng:=ng) (ld:=t.led) (Q:=QXt (.ok (.bl QtJ) S)) QG3 ⟨o,es,ep,t,ho,ae,hd,QvC,T,rfl⟩ QIC (by rw[show decide (r∈ps.map QT)=decide (r∈rs) from decide_eq_decide.mpr h3.mem_iff];calc .mk (v:=.bl QtJ) .refl Qs rfl QD1 I.sr);cases ng with
       |false=>calc ac|true=>calc ac
      |_=>cases e1
  |_=>cases L rfl
 |_=>cases L rfl
def X8d{QLo}(h:Xim ng QUs=Uc5):∃r,d=.bl r:=by
 unfold Xim at h
 repeat' split at h
 all_goals first|(cases h;calc Qd)|cases h
universe e
universe Z
universe e
section
namespace Z
open PySem PySem.W PySem.Spec PyProof.Rows L2
section
variable{Q2h}{d it:Addr}{o:Obj}{es:Array DictEntry}{ep i:Nat}
theorem Xk0{QHi}(it d:Addr)(i n ep:Nat):Prop:=h.get? it=yz {cls:=UK3,data:=.fields #[.ref d,QFu 0,.int n 0,.int ep 0]}
def X3p{Q:VP}(hs:QRO=yw)(L:s.heap.get? d=Qkq)(hx:o.ExactDict){Q1i}
  (hQ:UsD {s with heap:=s.heap.push {cls:=UK3,data:=.fields #[.ref d,UL3 0,.int UPI,.int ep 0]} }):Qcq (Veo Q0W) Qeq:=by
 let T:s.TypeIs Q0W "dict" := ⟨o,L,hx.1⟩;calc Vhb T F.slot_dict_iter (Uy F.slot_dict_iter T F.entry_dict_iter ?_ (F.args_dict_iter_1 _));unfold Vbf.«dict.__iter__» Builtin.Dict.dictSlotNone;calc Va (Va (wpAny_notOrdered_dict T Q70));show QXq (Builtin.Dict.showsAll d >>= _) Qlr;unfold Builtin.Dict.showsAll;rw[hs,iN0 Ue];calc Va (Vd (Va (Vjh L hd Q17)));calc Va (Vad (Vd ⟨_,rfl,"dict_keyiterator",_,Qd3,F.slot_dict_keyiterator_next.lookup,?_⟩));simpa [Vaa] using hQ
def Xwm:Builtin.Dict_items.ownsTuple "dict_keyiterator"=false:=by decide
def Xhl {it:Addr}{Q:String->Vc->Prop}(T:QDt)(h:Q "dict_keyiterator" s):Qcq (typeNameOfWhole Q20) Qeq:=wpAny_typeNameOfWhole_keyiter T h
def X3q{Qel}{hs:Int}{key val:Vb}{Qej}(hx:es[i]?=yz ⟨hs,key,val⟩)
  (hQ:∀h',Xk0 h' it d Qq1 Qav->U73->Q (yz key) QU):UL1:=by
 let T:QDt := QxC;unfold Vds;calc Va Qg5;calc Va Qu5;simp[Xwm,Vq,if_false];show Qbx;rw[iN0 (show ¬ QFe from Ue)];calc Va QEK;rw[iN0 Q9];calc Va Q0e;rw[iN0 Q9];calc Vd ?_;simp[show ¬ QGZ from by omega,if_false,Vaf,hx];calc Va (Va (Xhl T (Vd (Va (wpAny_isOneOf_keyiter T ?_)))));show QXq (UHJ 1 (Vaa ((i:Int)+1)) >>= _) Qlr;calc Va (Vbb hi Q9 λh1 i1 c1=>?_);replace i1:Xk0 h1 it d Qq1 Qav:=by unfold Xk0;rw[show((i+1:Nat):Int)=(i:Int)+1 by omega];simpa [Vaa] using i1
 let T1:Shared.TypeIs QkR Q20 "dict_keyiterator" := ⟨_,i1,rfl⟩;calc Va (Ul (Va (wpAny_isOneOf_keyiter T1 ?_)));calc Vd (Vd ⟨_,rfl,Vd (hQ h1 i1 c1)⟩)
def X8e{Qel}{QJh}{Qej}(hx:es[i]?=yy)
  (hQ:∀h',Qau->Q yy QU):UL1:=by
 let T:QDt := QxC;unfold Vds;calc Va Qg5;calc Va Qu5;simp[Xwm,Vq,if_false];show Qbx;rw[iN0 (show ¬ QFe from Ue)];calc Va QEK;rw[iN0 Q9];calc Va Q0e;rw[iN0 Q9];calc Vd ?_;simp[show ¬ QGZ from by omega,if_false,Vaf,hx];calc Va (Va (Xhl T Q70));show QXq (UHJ 0 .none >>= _) Qlr;calc Va (Vip hi rfl Q9 ?_);show Ub7;calc Va ?_;simp[newExc,newTuple];calc Va QlL;calc Qww;calc Vad ?_ Q77;simp[raiseNew];calc Va QND;rw[show A.in1.handled=yy from hh];calc Va QkL;calc Va Q87;calc Vd (Ut2 Q4E)
def X3r{QJh}(aa:d≠it){Q1i}:Walks Qfq A it [it,d] [it] es.size Qn5 (λi h=>Xk0 h it d i Qav/\h.get? d=Qkq) where
 sub:=λb L=>by rw[V3.mp L];exact V4
 frame:=λ_ _ _ st k=>⟨U3F,k d Q9c _ st.2⟩
 item:=λi s Q E hi st hQ=>by let hx:es[i]?=yz es[i]:=Uk hi;exact X3q (hs:=es[i].hash) (val:=es[i].val) (key:=es[i].key) Ue0 hx λh' q c=>?_;exact Ut2 h' s.toks ⟨_,hx,rfl⟩ ⟨q,c.extBut _ _ aa st.2⟩ λb o L e=>c.extBut b o Qv7 e
 done:=λs Q E st hQ=>X8e hh Ue0 Q9 λh' c=>hQ h' s.toks λb o L e=>c b o Qv7 e
 self:=λ_ s Q E st hQ=>wpAny_pyIter_keyiter ⟨_,st.1,rfl,rfl⟩ hQ
def X8f(hs:QRO=yw)(L:o.ExactDict){Q1i}:KdlSrc Qfq "dict" d d es.size Qn5 (λh=>h.get? d=Qkq) where
 type:=λ_ e=>QmX
 there:=λ_ e=>⟨UZ6,UZ6⟩
 keep:=λ_ _ e k=>k d Q10 o e
 notList:=by decide
 notTuple:=by decide
 hint:=λ_ _ _ _ e hq=>kdl_hint_dict QmX hq
 iter:=λ_ _ hh e=>⟨_,_,(λ_ _ hq=>X3p hs e L hd hq),X3r hh QGK hd,⟨Um3 rfl,Qyw⟩⟩
def Xzh{Q0m}{Qdj}(hn:es.size<100000)
  (hR:∀h' tk L c,Ql3->h'.get? s.heap.objs.size=yz {cls:=Qzq,dict:=yy,data:=.seq L c,slots:=#[]}->ItemsOf Qn5 L es.size->R QeH QO):
  Vc1 QCw (.builtin "proto.collect" ⟨[.ref d],[]⟩) R s:=by
 calc UO2 ?_;rw[Vbt F.plain_proto_collect _];show QRr (Uc9 >>= λl=>again (Q8v ⟨[l,.ref d],[]⟩)) Qlr;calc Va QA8;rw[Vbt Vhd _];let la:d<s.heap.objs.size:=UsC;exact kdl_extend (R:=R) (s:={s with heap:=s.heap.push Qb }) (X8f hs hx hd) hh Q3c s.heap.objs.size Q1e Q1e QB 0 Q25
  (λh' ab L c k1 hS aa=>hR h' ab L c (λb u e=>k1 b u QGK QaG) hS aa) QL6
def Xoy{Qth}{Q8j}{Qdj}(he:es.toList.map QAg=ps.map λp=>Ui p.2){Q0o}
  (hQ:∀h' tk,Ql3->s.heap.objs.size<=h'.objs.size->Q (ps.map λp=>Ui p.2) QO):Qcq (collect Q0W) Qeq:=by
 let sz:es.size=Qow:=by rw[<-Vy,<-Vg (f:=QAg),he,Vg]
 unfold collect;calc Va (Vg2 (Xzh hh hs ho hx hd Q0 λh' tk aa c k hS L=>?_));show Vf _ A QsF QLq;calc Va (Vgw hS Q70);let ea:aa.toList=ps.map λp=>Ui p.2:=by
  rw[<-he];exact Vfn λj=>?_;by_cases c:j<es.size
  ·let hz:j<aa.size:=by rw[L.1];exact c
   let h1:aa[j]?=yz aa[j]:=Uk hz;exact Xa (L.2 j _ h1) λe e1 e2=>?_;rw[Ua,h1,Ur,Ua,e1,U7,e2]
  rw[Vak (by rw[Vy,L.1];omega),Vak (by rw[Vg,Vy];omega)]
 rw[ea];calc hQ h' tk k (Vc3 (Vu hS))
universe e
universe Z
universe e
section
namespace Z
open PySem PySem.SetTable PySem.Spec PyProof.Rows L2
section
variable{Qvm}
variable{QQm}{Q8k}{QPo}
def S0.sett{Qoi}{ks:LL}{Qzg}(h:Xcq S n=UlF):∃a ps,ρ[n]?=QIx/\H a=yz QYB/\(∀p∈ps,Us3 p.2 Q6B)/\Q18.Perm ks/\ks.Nodup/\SetR QOq Qnq Q11 ps:=by
 unfold Xcq at h;cases e:S[n]? with
 |none=>rw[e]at h;cases h|some ob=>
  rw[e]at h;cases ob with
  |st aa=>cases h;let⟨a,ha,ps,h1,h2,h3,h4⟩:=I.sr.adr e;let⟨⟨o,es,ep,t,ho,L,hd,he,T,hl⟩,_,_⟩:=(show Qdt QYB from QXs h1);calc⟨a,ps,ha,h1,h2,h3,h4,o,es,ep,t,ho,L,hd,QvC,T,hl⟩|_=>cases h
def Xrv{Qvh}:∀ {kvs:QZu} {xs:Ua0} {ys:UcH},UJ3->Uv3->ys.map QT=kvs.map QT/\∀y∈ys,Ut3 y.2.1 (y.1.map V.int)
 |_,_,_,.nil,.nil=>⟨rfl,λ_ h=>nomatch h⟩|_,_,_,.cons h t,.cons h2 t2=>by calc Xi (Xrv t t2) λk1 k2=>?_;calc⟨by rw[Ub,Ub,k1,<-h2.1,h.1],Va1.mpr ⟨?_,k2⟩⟩;rw[<-h2.1,<-h2.2.1,<-h.1];calc h.2.1
def Ycm {Qio}{p0 pos:Pos}{QWp}(ah:U94)(ai:Uk3=yy){QWi}:
  DE X (UaE [a] Uf2) (λenv S=>Qv.bind λx S=>Xs0 x S):=by
 intro pc Qyr;dsimp at nb |-;calc Vbj (Ue3 ah ai QDv (Vbc (Vdg ?_ hs) hs rfl) Q2 rfl);calc Qss rfl (λd S1 u s1 v H1 aj e1 L I1 rv rd af=>Vck ?_) λ_ _ z=>z;rw[e1];cases d with
 |ref n=>
  unfold Xs0 at L |-;dsimp at L |-;cases w1:Xcq S1 n with
  |none=>
   rw[w1]at L;dsimp at L |-;cases w2:Xb6 S1 n with
   |none=>rw[w2]at L;cases L rfl|some kvs=>
    rw[w2]at L;dsimp at L |-;split at L
    ·rename_i hz;rw[iP0 hz];let⟨b,o,xs,ac,ho,df,hx,_⟩:=I1.dic w2;rw[RD]at rd;exact Ux9 λb' aa ab=>?_;subst aa;rw[ac]at ab;cases ab;cases rv;let⟨f1,_,f3,ys,es,ep,q,hd,ag,_⟩:=df;exact Xi (Xrv hx q) λke hk=>?_;let kl:QQI.length<100000:=by
      let:=Qny ke;rw[Vg,Vg]at this;rw[Vg];omega
     let km:QQI.map QT=kvs.map QT:=by rw[U8];exact ke
     exact Xib (ps:=ys.map λy=>QRI) Q0 (λp hp=>?_) kl (λ{Q' E'} hq=>Xoy (ps:=ys.map λy=>QRI) (show X.A.in1.handled=yy from UzD) f1 ho f3 hd (by rw[ag QOq,U8,U8];rfl) kl λh' tk k le=>hq h' tk _ Q3M k le) λqs h' tk r e qp pw k2 le he=>?_;·exact Xa QCa λy hy aa=>?_;subst aa;exact Xwl (Xbq I1.inv (hk y hy))
     ·let ae:UzB=Yi Qd4:=by rw[<-km];exact Xot QHN pw
      let J:=QPu
       QT3
      rw[<-ae];exact OkP.pre af (UmC (Xf0 qs λq hq=>by
       exact Xa (V0.mp Qm8) λy hy aa=>?_;subst aa
       calc hk y hy))
    cases L rfl
  |some ks=>
   rw[w1]at L;dsimp at L |-;split at L
   ·rename_i hz;rw[iP0 hz];let⟨b,ps,ac,h1,h2,h3,h4,S2⟩:=I1.sett w1;rw[RD]at rd;exact Ux9 λb' aa ab=>?_;subst aa;rw[ac]at ab;cases ab;cases rv;let lp:QW5<100000:=by rw[<-Vg (f:=QT),h3.length_eq];omega
    exact Xjp Qcr S2 (h3.nodup_iff.mpr h4) lp λqs h' tk r e qp pw k2 le he=>?_;let ae:UzB=Yi ks:=Xkz ((QHN.trans h3).trans QjN.symm) pw (Xhk _ h4);let J:=QPu
     QT3
    rw[<-ae];exact OkP.pre af (UmC (Xf0 qs λq hq=>h2 q Qm8))
   cases L rfl
 |_=>cases L rfl
universe e
universe Z
universe e
section
namespace Z
open PySem PySem.Spec PyProof.Rows L2
section
variable{QQm}
def X3s{Qzn}:MtD X .count "list.count":=by
 intro pc Qey aa ab nb;by_cases hx:∀L,ds≠Q3g;·exact Xym hx I Qby aa ab nb
 ·calc Xd (Vjn λz=>hx λL e=>z ⟨L,e⟩:∃L,ds=Q3g) λL ac=>?_;subst ac;cases d<;>cases nb rfl
variable{Qck}{QMk}{S S':Sto}
mutual
def Xtl:∀ {d:D} {v:V},UKD->UOC=yx
 |.ref n=>λh=>by simp[RD]at h;exact UW4 λa _ h=>?_;exact decide_eq_true QL5.1|.tup xs=>λh=>by simp[RD]at h;exact U02 λ_ _ _ _ h=>?_;exact UuF|.fro xs=>λh=>by simp[RD]at h;exact U02 λ_ _ _ _ h=>?_;exact UuF|.non=>λ_=>rfl|.bl _=>λ_=>rfl|.int _=>λ_=>rfl|.str _=>λ_=>rfl|.fn _ _=>λ_=>rfl|.edc=>λ_=>rfl
def rds_bd:∀ {ds:LD} {vs:LW},Qgu->Uj9=yx
 |[]=>λ_=>rfl|d::ds=>λh=>by simp[RDs]at h;exact U02 λ_ _ _ h1 h2=>?_;rw[bdDs,Xtl h1,rds_bd h2];rfl
end
mutual
def Xm5{QQh}:∀ {d:D} {v:V},RD K ρ' H d v->UOC=yx->UKD
 |.ref n=>λh b=>by simp[RD]at h |-;exact UW4 λa e h=>?_;exact⟨a,e,k n a (oD0 b) h⟩|.tup xs=>λh b=>by simp[RD]at h |-;exact U02 λa vs e h1 h=>?_;exact QsH|.fro xs=>λh b=>by simp[RD]at h |-;exact U02 λa vs e h1 h=>?_;exact QsH|.non=>λh _=>by simpa only[RD] using h|.bl _=>λh _=>by simpa only[RD] using h|.int _=>λh _=>by simpa only[RD] using h|.str _=>λh _=>by simpa only[RD] using h|.fn _ _=>λh _=>by simpa only[RD] using h|.edc=>λh _=>by simpa only[RD] using h
def rds_lo{QQh}:∀ {ds:LD} {vs:LW},RDs K ρ' H Qkr->Uj9=yx->Qgu
 |[]=>λh _=>by simpa only[RDs] using h|d::ds=>λh b=>by simp[RDs]at h |-;exact U02 λv r e h1 h2=>?_;rw[bdDs,bA0]at b;exact⟨v,r,e,Xm5 k h1 b.1,rds_lo k h2 b.2⟩
end
def X1f{QQk}{Qgp}:QBE=true:=by
 induction h with
 |nil=>rfl|cons r _ L=>rw[Vbe,Xtl r.2.2,L];rfl
def X1g{QQh}{QQk}(h:DX K ρ' H QWw)(b:QBE=yx):UJ3:=by
 induction h with
 |nil=>calc .nil|cons r _ L=>rw[Vbe,bA0]at b;calc .cons ⟨r.1,r.2.1,Xm5 k r.2.2 b.1⟩ (L b.2)
def Ycn{QZh}{o:O}{Q7m}:UNC=true:=by
 cases o with
 |lst xs=>exact UW4 λvs _ h=>?_;exact UuF|dct kvs=>
  rcases h with⟨rfl,_⟩|⟨_,xs,_,h⟩;·rfl
  ·calc X1f h|fdc kvs=>calc Xk h λ_ _ _ _ _ _ _ h=>?_;calc X1f h|_=>rfl
def X1h{QQh}{QZh}{o:O}(h:Uj7 ρ' H a o)(b:UNC=yx):OR Ui0:=by
 cases o with
 |lst xs=>exact UW4 λvs h1 h=>?_;exact⟨vs,h1,rds_lo k h b⟩|dct kvs=>
  rcases h with h|⟨L,xs,h1,h⟩;·exact Qfv
  ·calc .inr ⟨L,xs,h1,X1g k h b⟩|fdc kvs=>calc Xk h λo u xs h1 h2 h3 h4 h=>?_;calc⟨o,u,xs,h1,h2,h3,h4,X1g k h b⟩|_=>calc h
def Xjq{Qqh}{QEj}{Qji}(L:n < ρ.length)(h:ρ'[n]?=QIx):ρ[n]?=QIx:=by let e:=Vac L;rw[st.pre n _ e]at h;rw[e];calc h
def X1i{QPh}(L:UF1 ρ' S' H'){Qqh}(k:Ur8):U1K QrL H':=by
 calc⟨L.tab,by rw[Vaq,r.len];calc(Vcz k.1).symm,r.nd,λn a o h1 h2=>?_⟩;let hn:n<UzA:=by rw[<-r.len];exact QnB.1
 rw[Vjq hn]at h2;calc X1h QMV (L.ob n a o (st.pre n a h1) h2) ?_;exact Xj (k.2 n o hn h2) Qx7 λe=>?_;·exact Ycn (UU8 o h1 e)
 ·rw[r.len];calc e
def Yco{Qqh}:UPD H':=⟨⟨λ_ _ h=>h,st.tup,st.frz⟩,λ_ h=>Qfv,st.keep⟩
def Ycp{L:LR}(st:Qot L H H'):U14 L H' H':=⟨st.pre,λ_ _ h=>h,λ_ _ _ h=>h⟩
def Xwn{Qoi}{QZh}{o:O}{Qjj}(k:Ur8)(hn:QF<=n)(L:ρ'[n]?=QIx)(ho:S'[n]?=Qkq)(b:UPG=yx):
  SR K bo QpR QHQ H'/\Stp K ρ QpR H H':=by
 let mo:U14 QpR H' H':=⟨λn b h=>by rw[Vx QL5.1];calc h,λ_ _ h=>h,λ_ _ _ h=>h⟩;let g:=UnG;let na:a ∉ ρ:=λh=>by let⟨i,hi,e⟩:=Vb9.mp h;let e1:=st.pre i a (by rw[Vac hi,e]);exact Xd (Vk.mp e1) λh3 e3=>?_;exact Xd QLH λh4 e4=>?_;let:=(List.getElem_inj r'.nd).mp QPO;let:=r.len;omega
 calc⟨⟨g.tab,by rw[Vw,Vw,g.len];rfl,?_,λm b ob h1 h2=>?_⟩,⟨mo.pre,λa xs h=>st.tup URB h,st.frz⟩,λb hb=>?_,st.keep⟩;·rw[Vdm];calc Ql5;rw[V3.mp hy];exact λz=>na QSU
 ·by_cases hm:m < ρ.length;·rw[Vx hm]at h1;rw[Vx (by rw[<-g.len];calc hm)]at h2;exact(g.ob m b ob Qwq).mono' mo rfl
  ·let e:m=lg ρ:=by
    let:=QnB.1;simp! at this;omega
   subst e;simp! at h1;rw[g.len]at h2;simp! at h2;subst h1 h2;exact(X1h QMV (r'.ob n a o L ho) QVN).mono' mo rfl
 ·exact Xj QEa Qv3 λh=>?_;·exact Qfv
  ·rw[V3.mp h];calc st.new a Qrg
def Xtm{Qjj}(rd:Qry)(L:QPx QWQ≠.bad):∃d1 S1 aa,QPx QWQ=.ok d1 S1/\RD K aa H' d1 v/\SR K bo aa S1 H'/\Stp K ρ aa H H':=by
 simp[gcR]at L |-;by_cases k:Ur8
 ·rw[iP0 k]at L |-;by_cases b:UA5 d=yx;·rw[iP0 b];exact⟨d,_,ρ,rfl,Xm5 QMV rd QVN,UnG,Yco st⟩
  ·rw[iN0 b]at L |-;cases d with
   |ref n=>
    dsimp at L |-;simp[RD]at rd;exact Ux9 λa ab ha=>?_;subst ab;exact Xa (r'.at ha) λo ho _=>?_;rw[ho]at L |-;dsimp at L |-;by_cases c:UPG=yx;·rw[iP0 c];exact Xi (Xwn r r' st k (Nat.le_of_not_lt λz=>b QQO) ha ho c) λg1 g2=>?_;calc⟨_,_,_,rfl,?_,g1,g2⟩;simp[RD];exact⟨a,rfl,by rw[<-r.len];simp!⟩
    ·rw[iN0 c]at L;cases L rfl|_=>cases L rfl
 rw[iN0 k]at L;cases L rfl
def Xtn{n c:Nat}{QZh}{Qjj}(ha:ρ'[n]?=QIx)(hc:S'[n]?=Qru)(nb:QPx Qka≠.bad):
  ∃S1 L,QPx Qka=Q3w S1/\L[lg S]?=QIx/\S1[lg S]?=Qru/\SR K bo L S1 H'/\Stp K ρ L H H':=by
 simp[gcR]at nb |-;by_cases k:Ur8/\QF<=n
 ·rw[iP0 k]at nb |-;rw[hc];exact Xi (Xwn r r' st k.1 k.2 ha hc rfl) λg1 g2=>?_;calc⟨_,_,rfl,by rw[<-r.len];simp!,?_,g1,g2⟩;let:QrL.length=UzA:=by rw[Vaq];exact Vcz k.1.1
  rw[U3 Q0,this];simp!
 ·rw[iN0 k]at nb;cases nb rfl
variable{Q8k}{s:Vc}{Qci}{QTh}{Q7j}
def X1j{Qzg}(rd:US1)(nb:Xcc QzD≠.bad):∃d1 S1 H1,Xcc QzD=.ok d1 S1/\Inv QJq H1 s/\RD QUq H1 d1 v/\SR X.K Q11 ρ S1 H1/\Stp QUq QVq H1:=by
 cases d with
 |ref n=>
  simp[RD]at rd;calc Ux9 λa ab ha=>?_;subst ab;calc Xa (I.sr.at ha) λob ho q=>?_;unfold Xcc at nb |-;dsimp at nb |-;rw[ho]at nb |-;cases ob with
  |lst xs=>
   exact Xa q λvs L hr=>?_;let nf:∀o u,H a≠QWu:=λo u z=>by rw[L]at z;cases z
   obtain⟨og,hg⟩:∃og,Qkt=yz og:=by exact Xbc ((show Qdt Qt1 from QXs L)) λ_ its n' r hg=>?_;exact⟨_,hg⟩
   let st:QCs (Ud7 (.frz og Qt1)):=UFA;calc⟨_,_,_,rfl,Up8 (.inr (.inr ⟨vs,rfl⟩)),?_,Qiu QLZ,st⟩;simp[RD];exact⟨a,vs,rfl,.inl ⟨_,Xp⟩,hr.mono st⟩|dct kvs=>
   cases kvs with
   |cons _ _=>cases nb rfl|nil=>
    rcases q with⟨_,L⟩|⟨h0,_⟩
    ·let nf:∀o u,H a≠QWu:=λo u z=>by rw[L]at z;cases z
     let⟨_,_,vs,r,og,es,ep,hg,_⟩:=(show Qdt Qp6 from QXs L);let st:QCs (Ud7 Q9W):=UFA;calc⟨_,_,_,rfl,Up8 Q10,?_,Qiu QLZ,st⟩;simp[RD];exact⟨a,_,rfl,Xp⟩
    cases h0 rfl
  |_=>cases nb rfl
 |_=>calc⟨_,_,H,rfl,I.inv,rd,I.sr,.refl⟩
def DE.frz{Qek}:Qjv e (λenv S=>QPx Qnd):=by
 intro pc Qks;dsimp at L |-;cases q:Q8u with
 |bad=>rw[q]at L;cases L rfl|ex QVw=>rw[q]at L;calc Uf8 λx s' z=>?_;calc Ye z λH' ρ' a c J e hn hc sr st fl=>?_;calc Xaw (U6F hn hc L) λS2 af g1 g2 g3 g4 g5=>?_;calc⟨_,S2,g1,H',af,a,c,J,e,g2,g3,g4,g5,fl⟩|ok UgE=>rw[q]at L;calc Ue8 λu s' v H' ρ' J rv rd st=>?_;let nf:Xcc QUa≠.bad:=λz=>L Qi2;calc Xk QUV λd1 S2 H2 e1 J2 ac ae ab=>?_;rw[e1]at L;calc X2 (Xtm I.sr ae (st.trans ab) ac L) λd3 S3 aa g1 g2 g3 g4=>?_;rw[e1];calc⟨d3,S3,g1,v,H2,aa,J2,rv,g2,g3,g4⟩
def DS.frzA{Qfi}{Qil}{Q3l}(hi:X.N[i]?=QJu)(h:Q3x yw (λenv S=>Qv.bind λx S=>Uy5)):Q3x yw (λenv S=>(QPx Qnd).bind λx S=>Uy5):=by
 intro pc Qyr;let h1:=h pc QIq I;dsimp at nb h1 |-;let li:i<Uc8:=by let h2:=Q5a.1;let h3:=I.inv.len;let h4:=I.er.len;omega
 cases q:Q8u with
 |bad=>rw[q]at nb;cases nb rfl|ex QVw=>
  rw[q]at nb h1;let ng:QPx (.ex QVw)≠.bad:=λz=>nb (by show QOO.bind _=_;rw[z];rfl);exact Vp QkP QpG λe s' z=>?_;·exact UY6 λy S2 e _=>?_;cases e
  ·let⟨m,S2,L,e,hn,H',ρ',a,c,J,e2,hm,hc,sr,st,fl⟩:=z;cases e;exact Xaw (U6F hm hc ng) λS3 ah g1 g2 g3 g4 g5=>?_;exact⟨_,S3,L,by show QOO.bind _=_;rw[g1];rfl,hn,H',ah,a,c,J,e2,g2,g3,g4,g5,fl⟩|ok UgE=>
  rw[q]at nb h1;exact Vp QkP QpG λe s' z=>?_
  ·exact UY6 λy S2 e z=>?_;cases e;exact Xa6 z λag L H' ρ' J st _=>?_;subst ag;exact Xa (J.er.val i d (Vam li)) λv v1 rd=>?_;let nf:Xcc QUa≠.bad:=λz=>UY8;exact Xk QUV λd1 S2 H2 e1 J2 ae af aa=>?_;rw[e1]at nb |-;let ng:QPx (.ok d1 S2)≠.bad:=λz=>UY8;exact X2 (Xtm I.sr af QfU ae ng) λd3 S3 ab g1 g2 g3 g4=>?_;rw[g1];calc⟨_,S3,rfl,rfl,L,H2,ab,⟨J2,g3,by rw[Vb3];calc(Vb3 (as:=env) (i:=i) (a:=Um2)).symm.trans J.er.len,λj b hb=>?_⟩,g4,λz=>nomatch z⟩;by_cases ij:i=j;·subst ij;rw[Vam li]at hb;cases hb;exact⟨v,v1,g2⟩
   ·rw[Vbh ij]at hb;exact Xa (J.er.val j b (by rw[Vbh ij];calc hb)) λw w1 ac=>?_;exact Xa (I.er.val j UQB) λ_ _ r0=>?_;exact⟨w,w1,(Xm5 (Xjq QfU) (ac.mono aa) (Xtl r0)).mono' (Ycp g4)⟩
  calc Yd z λn S2 L e _=>?_;cases e
def FnD.gcF{Qll}{QAk}{Qgj}{g:Addr}{Qpn}{F:LD->Sto->R D}{Qtk}(h:FnD cm Qdy F):FnD cm Qdy (λds S=>gcB b S QpV):=by
 cases b with
 |false=>exact h|true=>
  calc⟨λA outer s H ac us vs Q E hr e0 hb r ae=>h.run A QRu ac us vs Q E hr e0 hb r ?_⟩;exact Xbf ae λds ρ af hl rd sr nb hok aa=>?_;simp[gcB,if_true]at nb hok aa;calc⟨ds,ρ,af,hl,rd,sr,λz=>UY8,λd S' v H' ρ' q ag L st=>?_,λn c S' a H' ρ' q ha hc L st=>?_⟩;·rw[q]at nb hok;exact X2 (Xtm sr L st ag nb) λd1 S1 ab g1 g2 g3 g4=>?_;exact hok d1 S1 v H' ab g1 UPB
  ·rw[q]at nb aa;calc Xaw (Xtn sr L st ha hc nb) λS1 ab g1 g2 g3 g4 g5=>?_;calc aa _ c S1 a H' ab g1 UPB g5
universe e
abbrev Xoz{QCl}:Bool:=match sc.names.lookup x with
 |some .local=>yx|some .cell=>yx|some .free=>yx|_=>yw
abbrev glB{QCl}:Bool:=match sc.names.lookup x with
 |some .globalImplicit=>yx|_=>yw
abbrev Xo0(top:Str->Bool){QCl}:Bool:=match sc.names.lookup x with
 |some .local=>yx|some .cell=>top x|_=>yw
abbrev Xal(x:Str):Bool:=! Qk && ! QX2 && !decide (x="__name__")
def Xrw(h:Xoz sc x=yx):Vis sc x:=by
 unfold Xoz at h;split at h;·exact UF4
 ·exact .inr (UF4)
 ·exact .inr (UE4)
 cases h
def Xaj{Qbj}(h:Qls=yx):UC9:=by
 subst hs;unfold glB at h;split at h;·assumption
 ·cases h
def Xk1{QQm}{top:Str->Bool}{sc:U2}{Qil}{Qbj}(L:∀x,top x=yx->U43=yx)(h:UF5=yx):Loc UJ6/\(U43=yx\/X.env.scope.names.lookup x=Q2r):=by
 subst hs;unfold Xo0 at h;split at h;·exact⟨UF4,UE4⟩
 ·exact⟨UE4,.inl (L x h)⟩
 cases h
def Xa9(h:UnC=yx):Qk=yw/\QX2=yw/\x ≠ "__name__":=by simp[Xal,bA0,Vbz,decide_eq_false_iff_not]at h;calc QuM
abbrev X9:Expr->Bool
 |.Starred _ _=>yw|_=>yx
def Xv(h:X9 e=yx):Us QX5 env=(yw,eval e env)::Us es env:=by cases e<;>first|rfl|cases h
def Xb0(h:es.all X9=yx):Q07.any QT=false:=by
 induction es with
 |nil=>rfl|cons e es L=>rw[Vbe,bA0]at h;rw[Xv h.1];show(yw||Q07.any QT)=yw;rw[L h.2];rfl
def Xzi(h:es.all X9=yx):Q07.all QnG=true:=by
 induction es with
 |nil=>rfl|cons e es L=>rw[Vbe,bA0]at h;rw[Xv h.1];show(yx&&Q07.all QnG)=yx;rw[L h.2];rfl
abbrev Xao:Expr->Bool
 |.Name _ _=>yx|.Constant QLq=>yx|.BinOp Q5s=>yx|.UnaryOp QLq=>yx|.Call Q5s=>yx|.Subscript QLq=>yx|.List _ _=>yx|.IfExp Q5s=>yx|.Compare Q5s=>yx|_=>yw
def Xto(h:Xao b=yx):Xke b:=by cases b<;>first|(intro o i;rfl)|cases h
abbrev Xdh:Expr->Bool
 |.Set QLq=>yw|_=>yx
def Xf1(h:Xdh e=yx)(x:Vb):Vce e env x=Uw4:=by cases e<;>first|rfl|cases h
abbrev X8g:LX->Bool
 |[]=>yw|_::_=>yx
abbrev Xgq:Expr->Bool
 |.Call _ as _ _=>X8g as|.Name _ _=>yx|.Subscript QLq=>yx|.List _ _=>yx|.Constant QLq=>yx|_=>yw
def ff{P:Prop}(h:yw=yx):P:=nomatch h
def Yea{as:LX}(h:X8g as=yx):attributeBase (.Call f as ks p) name env q=q:=by
 cases as;·exact UGG
 ·cases f<;>rfl
def Xfb(h:Xgq o=yx):U01 name env QyW=eval o env:=by cases o<;>first|rfl|calc UGG|calc Yea h
abbrev Xk2(c:Co)(o:CmpOp):Bool:=decide (o=opC c)
def Xk3{c:Co}{o:CmpOp}(h:Xk2 c o=yx):o=opC c:=U1G
abbrev Xtp(c:Bo)(o:Operator):Bool:=decide (o=opB c)
def Xrx{c:Bo}{o:Operator}(h:Xtp c o=yx):o=opB c:=U1G
abbrev Xzj(d:D)(c:Const):Bool:=match d with
 |.int i=>(match c with
  |.int j=>i==j
  |_=>yw)
 |.bl i=>(match c with
  |.bool j=>i==j
  |_=>yw)
 |.non=>(match c with
  |.none=>yx
  |_=>yw)
 |.str i=>(match c with
  |.str j=>decide (i=j)
  |_=>yw)
 |_=>yw
abbrev Xtq:Bl->Option (Str×Bool×String)
 |.len=>yz ("len",yx,"len")|.tuple=>yz ("tuple",yw,"tuple")|.list=>yz ("list",yw,"list")|.all=>yz ("all",yx,"all")|.max=>yz QAU|.mxl=>yz QAU|.min=>yz ("min",yx,"min")|.repr=>yz ("repr",yx,"repr")|.itB=>yz ("int",yw,"int")|.sorted=>yz ("sorted",yx,"sorted")
abbrev Xtr:Bl->Bool
 |.len=>yx|.tuple=>yx|.list=>yx|.repr=>yx|.itB=>yx|.sorted=>yx|_=>yw
abbrev X8h:Tg->Bool
 |.var _=>yx|_=>yw
abbrev tyB(sc:U2)(t:Ty){Q5m}:Bool:=match t with
 |.cls c=>decide (Xcs c=UkF)|.int=>decide (nm="int")|.bool=>decide (nm="bool")|.str=>decide (nm="str")|.tuple=>decide (nm="tuple")|.list=>decide (nm="list")|.dict=>decide (nm="dict")|.valueError=>decide (nm="ValueError")
abbrev Xo1:Ty->Bool
 |.cls _=>yw|.valueError=>yw|_=>yx
abbrev Yeb:Mt->UF3
 |.append=>yz "append"|.xtd=>yz "extend"|.count=>yz "count"|.index=>yz "index"
abbrev Xit(scope sc:U2):U2:={scope with names:=scope.names.map λ Q0f=>if (k == .free&&sc.kind == .function&&sc.names.lookup n==Qsr) then (n,.cell) else Q0f}
abbrev Xar(scope:U2):LS:=scope.names.filterMap λx=>match x.2 with
 |.local=>UsI|.cell=>UsI|_=>yy
abbrev Xdr(N N2:LS)(x:Str):Bool:=(N2.drop N.length).contains x
def X3t(h:Xdr N QbY x=yx):UE2=true:=by unfold Xdr Xbl at h;rw[List.drop_left' Q9]at h;calc h
abbrev Xts(k:ScopeKind):Bool:=match k with
 |.function=>yx|_=>yw
def Xk4(h:Xts k=yx):k=.function:=by cases k<;>first|rfl|cases h
abbrev Xo2(k:Option Vfg):Bool:=match k with
 |some .cell=>yx|some .free=>yx|_=>yw
abbrev Xer(k:Option Vfg):Bool:=match k with
 |some .local=>yx|_=>yw
abbrev Xgr:LS->Bool
 |[]=>yx|x::r=>!(r.contains x)&&Xgr r
def Xgs:∀ {l:LS},Xgr l=yx->l.Nodup
 |[],_=>Vg1|x::r,h=>by simp[Xgr,bA0,Vbz,List.contains_eq_mem]at h;calc Ve7.mpr ⟨by simpa using h.1,Xgs h.2⟩
abbrev scB(outer sc:U2)(N:LS):Bool:=
 Xts sc.kind&&Xts outer.kind&&Xgr (Xbl N QeO) &&
 sc.names.all (λy=>match y.2 with|.free=>Xo2 Q4J && ! QeO.contains y.1|.local=>Xer (sc.names.lookup y.1)|_=>yx) &&
 N.all (λy=>!(QeO.contains y)||(Ux6).isNone)
def Xwo(h:scB outer sc N=yx):ScOk outer sc N QeO:=by
 simp[scB,bA0]at h;exact Xcf h λh1 h2 h3 h5 h6=>?_;let ab:∀y∈sc.names,y.2=.free->Xo2 Q4J=yx/\y.1 ∉ Xar sc:=λy L hf=>by let:=U6.mp h5 y L;rw[hf]at this;simpa using this
 let aa:∀y∈sc.names,y.2=.cell->y.1∈Xar sc:=λy L hk=>Vd3.mpr ⟨y,L,by rw[hk]⟩;exact⟨Xk4 h1,Xk4 h2,Xgs h3,aa,λy L hf=>QRY.2,λy L hf=>?_,λy L=>?_,λx hx hl=>?_,λy L hc=>?_⟩
 ·let:=QRY.1;unfold Xo2 at this;split at this;·exact UF4
  ·exact UE4
  cases this
 ·exact Vd3.mpr ⟨(y,.local),Xdz L,rfl⟩
 ·let:=U6.mp h5 x hx;rw[hl]at this;dsimp at this;unfold Xer at this;split at this;·assumption
  ·cases this
 let:=U6.mp h6 y L;rw[hc]at this;simp[Vc7,Vhp,Vjo]at this;calc this
abbrev Xtt:It->Bool
 |.zpp _=>yx|_=>yw
abbrev Xgt(t:Tg)(it:It):Bool:=!Xtt it || !X8h t
abbrev mnC{Q3p}{Qni}:Bool:=match e with
 |.UnaryOp o x _=>(match o with
  |.USub=>(match x with
   |.Constant c _ _=>(match c with
    |.int j=>i==j
    |_=>yw)
   |_=>yw)
  |_=>yw)
 |_=>yw
abbrev X8i(l:QXr)(lo:Qgr):Bool:=match l with
 |none=>lo.isNone|some k=>lo.any λx=>mnC k x
abbrev Xo3{Q3p}(l:QXr){Qni}:Bool:=match e with
 |.Slice Qku st _=>hi.isNone&&st.any λst=>mnC i st&&X8i l lo|_=>yw
def any_some{Q7h}{o:UW1}{p:α->Bool}(h:o.any p=yx):∃x,o=QJu/\p x=true:=by
 cases o with
 |none=>cases h|some x=>calc⟨x,rfl,h⟩
def Yt{Q7h}{z:α}{P:Prop}(h:(yy:UW1)=Qgy):P:=nomatch h
abbrev vNm{Qni}:UF3:=match e with
 |.Name x _=>QJu|_=>yy
def Xaz{QTh}{Qil}(h:vNm e=QJu):∃p,e=Us1 p:=by
 cases e with
 |Name _ _=>cases h;calc Qd|_=>calc UV0
abbrev X8j{Qni}:Option Const:=match e with
 |.Constant c _ _=>QFv|_=>yy
def X3u{QTh}{x:Const}(h:X8j e=QJu):∃k p,e=.Constant x k p:=by
 cases e with
 |Constant QLq=>cases h;calc QE6|_=>calc UV0
abbrev vUn{Qni}:Option (UnaryOp×Expr):=match e with
 |.UnaryOp o x _=>yz (o,x)|_=>yy
def Xwp{QTh}{z:UnaryOp×Expr}(h:vUn e=Qgy):∃p,e=.UnaryOp U96 p:=by
 cases e with
 |UnaryOp QLq=>cases h;calc Qd|_=>calc UV0
abbrev X8k(o:UnaryOp):Bool:=decide (o=.USub)
def X3v(h:X8k o=yx):o=.USub:=U1G
abbrev X8l(o:UnaryOp):Bool:=decide (o=.Not)
def X3w(h:X8l o=yx):o=.Not:=U1G
abbrev Xiu{Qni}:Option (LX):=match e with
 |.Tuple xs _ _=>QLu|_=>yy
def Xcn{QTh}{x:LX}(h:Xiu e=QJu):∃k p,e=.Tuple x k p:=by
 cases e with
 |Tuple QLq=>cases h;calc QE6|_=>calc UV0
abbrev X8m{Qni}:Option (LX):=match e with
 |.List xs _=>QLu|_=>yy
def X3x{QTh}{x:LX}(h:X8m e=QJu):∃p,e=.List x p:=by
 cases e with
 |List _ _=>cases h;calc Qd|_=>calc UV0
abbrev X8n{Qni}:Bool:=match e with
 |.Dict ks vs _=>ks.isEmpty&&vs.isEmpty|_=>yw
def X3y{QTh}(h:X8n e=yx):∃p,e=UYE p:=by
 cases e with
 |Dict ks vs p=>let h:(ks.isEmpty&&vs.isEmpty)=true:=h;rw[bA0,Va7,Va7]at h;calc Xi h λaa L=>?_;subst aa L;calc Qd|_=>calc UGG
abbrev X8o{Qni}:Option (Expr×Operator×Expr):=match e with
 |.BinOp x o y _=>yz (x,o,y)|_=>yy
def X3z{QTh}{z:Expr×Operator×Expr}(h:X8o e=Qgy):∃p,e=.BinOp UrE:=by
 cases e with
 |BinOp Q5s=>cases h;calc Qd|_=>calc UV0
abbrev Xez{QSk}:Option (α×α):=match l with
 |Qt7=>UvI|_=>yy
def Xco{Q7h}{Qrm}{z:α×α}(h:Xez l=Qgy):l=QIU:=by
 unfold Xez at h;split at h;·cases h;rfl
 ·cases h
abbrev Xcd{QSk}:UW1:=match l with
 |[x]=>QJu|_=>yy
def Xbs{Q7h}{Qrm}{x:α}(h:Xcd l=QJu):l=[x]:=by
 unfold Xcd at h;split at h;·cases h;rfl
 ·cases h
abbrev tyM(sc:U2)(ts:Un7)(y:Expr):Bool:=(QYG.any λt=>Qoe.any λnm=>U75 nm&&Xal nm&&Ut6)||((Xez ts).any λt=>(Xiu y).any λys=>(Xez ys).any λz=>Qw3.any λL=>(vNm z.2).any λn2=>U75 L&&Xal L&&U75 n2&&Xal n2&&((Xo1 t.1&&Xo1 t.2)&&(tyB sc t.1 L&&tyB sc t.2 n2)))
abbrev Xo4{Qni}:Option (Expr×List CmpOp×LX):=match e with
 |.Compare x os ys _=>yz (x,os,ys)|_=>yy
def Xry{QTh}{z:Expr×List CmpOp×LX}(h:Xo4 e=Qgy):∃p,e=.Compare UrE:=by
 cases e with
 |Compare Q5s=>cases h;calc Qd|_=>calc UV0
abbrev Xtu{Qni}:Option (BoolOp×LX×Pos):=match e with
 |.BoolOp o xs p=>yz (o,xs,p)|_=>yy
def X30{QTh}{z:BoolOp×LX×Pos}(h:Xtu e=Qgy):e=.BoolOp Q8r:=by
 cases e with
 |BoolOp QLq=>cases h;rfl|_=>calc UV0
abbrev opA(an:Bool):BoolOp:=if an then .And else .Or
abbrev Xtv(an:Bool)(o:BoolOp):Bool:=decide (o=opA an)
def X31{an:Bool}{o:BoolOp}(h:Xtv an o=yx):o=opA an:=U1G
abbrev Xo5(an:Bool)(p:Pos)(l:LX):Option QSX:=match l with
 |Qt7=>UvI|x::y::z::r=>yz (x,Q9x QMD p)|_=>yy
def X32(h:Xo5 an p l=Qgy):l=QIU\/∃y L r,l=z.1::y::L::r/\z.2=Q9x (y::L::r) p:=by
 unfold Xo5 at h;split at h;·cases h;exact .inl rfl
 ·cases h;exact .inr ⟨_,_,_,rfl,rfl⟩
 cases h
abbrev vIf{Qni}:Option (Expr×Expr×Expr):=match e with
 |.IfExp x y z _=>yz (x,y,z)|_=>yy
def X8p{QTh}{z:Expr×Expr×Expr}(h:vIf e=Qgy):∃p,e=.IfExp UrE:=by
 cases e with
 |IfExp Q5s=>cases h;calc Qd|_=>calc UV0
abbrev Xee{Qni}:Option QSX:=match e with
 |.Subscript x y _=>UvI|_=>yy
def Xb9{QTh}{z:Expr×Expr}(h:Xee e=Qgy):∃p,e=.Subscript U96 p:=by
 cases e with
 |Subscript QLq=>cases h;calc Qd|_=>calc UV0
abbrev Xtw{Qni}:Option Q8I:=match e with
 |.Slice l h yy _=>yz (l,h)|_=>yy
def Xrz(h:Xtw e=Qgy):∃p,e=.Slice U96 yy p:=by
 cases e with
 |Slice l u st p=>
  cases st with
  |none=>cases h;calc Qd|some _=>cases h
 |_=>calc UV0
abbrev Xb1{Qni}:Option (Expr×Expr×LX×Pos):=match e with
 |.Call f UjI p=>yz (f,y,ys,p)|_=>yy
def Xr0{QTh}{z:Expr×Expr×LX×Pos}(h:Xb1 e=Qgy):e=.Call z.1 QI2 [] z.2.2.2:=by
 cases e with
 |Call f xs ks p=>
  cases xs with
  |nil=>cases h|cons y ys=>
   cases ks with
   |nil=>cases h;rfl|cons _ _=>cases h
 |_=>calc UV0
abbrev Xzk{Qni}:Option Q3Z:=match e with
 |.Call f Ut1 p=>yz (f,p)|_=>yy
def X33{QTh}{z:Expr×Pos}(h:Xzk e=Qgy):e=.Call z.1 Ut1 z.2:=by
 cases e with
 |Call f xs ks p=>
  cases xs with
  |cons _ _=>cases h|nil=>
   cases ks with
   |nil=>cases h;rfl|cons _ _=>cases h
 |_=>calc UV0
abbrev Xk5{Qni}:Option (Expr×Str×Pos):=match e with
 |.Attribute o nm p=>yz (o,nm,p)|_=>yy
def Xr1(h:Xk5 e=Qgy):e=.Attribute Q8r:=by
 cases e with
 |Attribute QLq=>cases h;rfl|_=>calc UV0
abbrev vLC{Qni}:Option (Expr×List Vb1×U2):=match e with
 |.ListComp e UeE _=>yz (e,gens,scope)|_=>yy
def X8q{QTh}{z:Expr×List Vb1×U2}(h:vLC e=Qgy):∃p,e=.ListComp UrE:=by
 cases e with
 |ListComp Q5s=>cases h;calc Qd|_=>calc UV0
abbrev nfz:Ex->Bool
 |.frz _=>yw|_=>yx
abbrev pln{Qni}:Bool:=match e with
 |.Call ..=>yx|.List ..=>yx|.ListComp ..=>yx|.Dict ..=>yx|.Name ..=>yx|.Subscript ..=>yx|.BinOp ..=>yx|.Tuple ..=>yx|_=>yw
def X8r{QTh}(h:pln e=yx){Qql}(L:U93):isTrue e UfA=Q03:=by
 cases e with
 |Call=>rfl|List=>rfl|ListComp=>rfl|Dict=>rfl|Name=>rfl|Subscript=>rfl|BinOp=>rfl|Tuple=>rfl|_=>cases h
section
variable{Qrl}{QAj}
abbrev mtT(top:Str->Bool){Qaj}:Tg->Expr->Bool
 |.var i,e=>QvR.any λx=>decide QWF&&UF5|.tup is,e=>QSf.any λes=>namesB UdE
where namesB:LN->LX->Bool
 |[],[]=>yx
 |i::is,e::es=>(QvR.any λx=>decide QWF&&UF5)&&namesB UdE
 |_,_=>yw
abbrev fnB(f:Nat)(x:Str){QEj}:Bool:=match fns[f]? with
 |some QCC=>decide (nm=x)&&decide (ar=n)&&(cm || !fl)|none=>yw
abbrev blB(k:Bl)(x:Str):Bool:=match Xtq k with
 |some (nm,_,_)=>decide QGg|none=>yw
abbrev mtB(k:Mt){Q5m}:Bool:=match Yeb k with
 |some m=>decide (nm=m)|none=>yw
mutual
abbrev mt{Qaj}:Ex->Expr->Bool
 |.nev,_=>yx|.var i,e=>QvR.any λx=>decide QWF&&Xoz sc x&&UnC|.cst d,e=>(X8j e).any λc=>Xzj d c|.neg a,e=>Qne.any λz=>X8k z.1&&UqD z.2|.glb k,e=>QvR.any λx=>decide (gns[k]?=QJu)&&Qls&&UnC|.tup es,e=>QSf.any λxs=>QEt xs|.lst es,e=>(X8m e).any λxs=>QEt xs|.dct0,e=>X8n e|.isi a ts,e=>Q78.any λz=>Qw3.any λ(f:Str)=>decide (f="isinstance")&&U75 f&&Uh3&&UT1&&(Xcd z.2.2.1).any λy=>Us6|.bin Ue4,e=>(X8o e).any λz=>UbJ&&Q3v&&UGA z.2.2|.cmp Ue4,e=>QQS.any λz=>QKH.any λo=>QcN.any λy=>Xk2 op o && !(Vdp QRD y)&&Q3v&&UGA y|.chn UdA,e=>QQS.any λz=>(Xez z.2.1).any λo=>(Xez z.2.2).any λy=>Xk2 o1 o.1&&Xk2 o2 o.2 && !(lastMarks QW8 [y.1,y.2])&&Q3v&&UGA y.1&&Q0r c y.2|.and a b,e=>QTY.any λz=>Xtv yx z.1&&(Xo5 yx UYA).any λy=>UqD y.1&&UGA y.2|.or a b,e=>QTY.any λz=>Xtv yw z.1&&(Xo5 yw UYA).any λy=>UqD y.1&&UGA y.2|.not a,e=>Qne.any λz=>X8l z.1&&UqD z.2|.ite UhE,e=>(vIf e).any λz=>Q0r c z.1&&UT1&&UGA z.2.2|.idx a i,e=>QXY.any λz=>Xao z.2&&Q3v&&Q0r i z.2|.call f es,e=>Q78.any λz=>Qw3.any λx=>fnB cm fns f x QI2.length&&Qls&&UnC&&Uf7|.blt k es,e=>Q78.any λz=>Qw3.any λx=>blB k x&&QQY&&Qls&&UnC&&Uf7|.mth k o es,e=>Q78.any λz=>QRS.any λx=>mtB k x.2.1&&Xgq x.1&&(x.2.2.endLine==z.2.2.2.line)&&decide (QI2.length<29)&&Q0r o x.1&&Uf7|.cmr Ug4,e=>(vLC e).any λz=>cm && !k&&decide ((Xar z.2.2).length=n)&&scB sc z.2.2 N&&mtG sc N QgT QeN gs z.2.1&&mt QgT QeN elt z.1|.sli a Qku,e=>QXY.any λz=>(Xtw z.2).any λy=>Q3v&&mto sc N lo y.1&&mto sc N hi y.2|.rev a,e=>QXY.any λz=>UYG z.2&&Q3v|.sst a,e=>Q78.any λz=>Qw3.any λ(x:Str)=>decide QfW&&cm&&Qls&&z.2.2.1.isEmpty&&QdY.any λy=>QuR.any λ(L:Str)=>decide (L="set")&&U75 L&&y.2.2.1.isEmpty&&X9 y.2.1&&UqD y.2.1|.stl a,e=>Q78.any λz=>Qw3.any λ(x:Str)=>decide (x="set")&&cm&&Qls&&z.2.2.1.isEmpty&&Uh3&&UT1|.ist Uf4,e=>QQS.any λz=>QKH.any λo=>QcN.any λy=>Qhw && ! QlY&&Q3v&&UGA y|.frz a,e=>nfz a&&pln e&&UqD e|.srs a,e=>Q78.any λz=>Qw3.any λ(x:Str)=>decide QfW&&cm&&Qls&&z.2.2.1.isEmpty&&Uh3&&UT1|.pop0 a,e=>QKf.any λz=>QRS.any λx=>decide (x.2.1=("pop" : Str))&&Xgq x.1&&QTI&&UqD x.1|.idc Uf4,e=>QQS.any λz=>QKH.any λo=>QcN.any λy=>Qhw && ! QlY&&Q3v&&UGA y
abbrev mto{Qaj}:Op->Qgr->Bool
 |.none,yy=>yx|.some e,QJu=>Q0r e x|_,_=>yw
abbrev mts{Qaj}:Exs->LX->Bool
 |.nil,[]=>yx|.cons e es,x::xs=>X9 x&&Q0r e x&&QEt xs|_,_=>yw
abbrev mtG{Qaj}(sc2:U2)(N2:LS):Gens->UaH->Bool
 |.nil,_=>yw|.cons QGu gs,l=>match l with
  |[]=>yw|c::r=>(c.is_async==0)&&Xdh c.iter&&mtT UiA t c.target&&mtI sc N it c.iter&&mts QZs ifs c.ifs&&UdG&&match gs with
   |.nil=>r.isEmpty|.cons Ua2 L=>match r with
    |[]=>yw|c2::r2=>(c2.is_async==0)&&Xdh c2.iter&&mtT UiA t2 c2.target&&mtI QZs it2 c2.iter&&mts QZs ifs2 c2.ifs&&Xgt t2 it2&&r2.isEmpty&&match L with
     |.nil=>yx|.cons ..=>yw
abbrev mtI{Qaj}:It->Expr->Bool
 |.val e,x=>Q0r e x|.rng es,e=>Q78.any λz=>Qw3.any λ(x:Str)=>decide (x="range")&&Qls&&Uf7|.zpp es,e=>Q78.any λz=>Qw3.any λ(x:Str)=>decide (x="zip")&&Qls&&Uf7
end
universe e
section
variable{Qll}{Qxh}{sc sc2:U2}{N N2:LS}{t t2:Tg}{it it2:It}{ifs ifs2:Exs}
def Ycq(h:Qnw .nil gens=yx):False:=by cases h
def Ycr(h:Qnw QCM gens=yx):∃tg iter L,gens=[⟨tg,iter,L,0⟩]/\Xdh iter=yx/\mtT UiA t tg=yx/\mtI QHq it iter=yx/\mts Ui4 ifs L=yx/\Xgt t it=true:=by
 cases gens with
 |nil=>cases h|cons c r=>let⟨tg,iter,L,a⟩:=c;let h:Q7X=true:=h;simp[bA0,beq_iff_eq,Va7]at h;let⟨⟨⟨⟨⟨⟨h1,h2⟩,h3⟩,h4⟩,h5⟩,h6⟩,h7⟩:=h;subst h1 h7;calc⟨tg,iter,L,rfl,h2,h3,h4,h5,h6⟩
def Ycs(h:Qnw (.cons UhI) gens=yx):∃tg iter cs ab L aa,gens=[QKE,⟨ab,L,aa,0⟩]/\Xdh iter=yx/\Xdh L=yx/\mtT UiA t tg=yx/\mtI QHq it iter=yx/\mts Ui4 ifs cs=yx/\mtT UiA t2 ab=yx/\mtI Ui4 it2 L=yx/\mts Ui4 ifs2 aa=yx/\Xgt t it=yx/\Xgt t2 it2=true:=by
 cases gens with
 |nil=>cases h|cons c r=>
  let⟨tg,iter,cs,a⟩:=c;cases r with
  |nil=>let h:Q7X=true:=h;simp[Vem,Vq]at h|cons c2 r=>let⟨ab,L,aa,a2⟩:=c2;let h:Q7X=true:=h;simp[bA0,beq_iff_eq,Va7]at h;let⟨⟨⟨⟨⟨⟨h1,h3⟩,h5⟩,h6⟩,h7⟩,ag⟩,⟨⟨⟨⟨⟨⟨h2,h4⟩,h8⟩,h9⟩,ac⟩,ae⟩,af⟩,_⟩:=h;subst h1 h2 af;calc⟨tg,iter,cs,ab,L,aa,rfl,h3,h4,h5,h6,h7,h8,h9,ac,ag,ae⟩
def Yct(h:Qnw (.cons QGu (.cons Ua2 (.cons t3 it3 ifs3 gs3))) gens=yx):False:=by
 cases gens with
 |nil=>cases h|cons c r=>cases r<;>(let h:Q7X=true:=h;simp[Vem,Vq]at h)
def Xdo{QTh}{q:Expr×Expr×LX×Pos->Str->Bool}(h:(Q78.any λz=>Qw3.any λx=>q z x)=yx):∃x p y ys L,e=Qqx/\q (Us1 p,y,ys,L) x=true:=by let⟨⟨f,y,ys,L⟩,h1,h2⟩:=Quq;calc UnJ λx h3 h4=>?_;let e1:=Xr0 h1;subst e1;let aa:vNm f=QJu:=h3;calc Xd (Xaz aa) λp e2=>?_;subst e2;calc⟨x,p,y,ys,L,rfl,h4⟩
def X8s{Qfi}{QTh}(h:Q0s QA0 e=yx):∃x p,e=Us1 p/\N[i]?=QJu/\Xoz sc x=yx/\Xal x=true:=by calc QJs λx h1 h2=>?_;calc UfJ λp L=>?_;subst L;simp[bA0,decide_eq_true_eq]at h2;calc Q7F
def X8t{d:D}{QTh}(h:Q0s QBW e=yx):∃c k p,e=UZE/\Xzj d c=true:=by calc QJs λc h1 h2=>?_;calc Yy (X3u h1) λk p L=>?_;subst L;calc⟨c,k,p,rfl,h2⟩
def X8u{a:Ex}{QTh}(h:Q0s (.neg a) e=yx):∃x p,e=UbF x p/\mt QLs=true:=by let⟨⟨o,x⟩,h1,h2⟩:=Quq;calc Xd QUd λp L=>?_;subst L;rw[bA0]at h2;let e1:=X3v h2.1;dsimp at e1;subst e1;calc QpQ
def X8v{a:Ex}{QTh}(h:Q0s QUe e=yx):∃x p,e=.UnaryOp .Not x p/\mt QLs=true:=by let⟨⟨o,x⟩,h1,h2⟩:=Quq;calc Xd QUd λp L=>?_;subst L;rw[bA0]at h2;let e1:=X3w h2.1;dsimp at e1;subst e1;calc QpQ
def X8w{Qgj}{QTh}(h:Q0s (.glb k) e=yx):∃x p,e=Us1 p/\gns[k]?=QJu/\glB sc x=yx/\Xal x=true:=by calc QJs λx h1 h2=>?_;calc UfJ λp L=>?_;subst L;simp[bA0,decide_eq_true_eq]at h2;calc Q7F
def X8x{Qtm}(h:Q0s QOc e=yx):∃xs k p,e=.Tuple xs k p/\mts QUu xs=true:=by calc QJs λx h1 h2=>?_;calc Yy Qld λk p L=>?_;subst L;calc⟨x,k,p,rfl,h2⟩
def X8y{Qtm}(h:Q0s Q7M e=yx):∃xs p,e=.List xs p/\mts QUu xs=true:=by calc QJs λx h1 h2=>?_;calc Xd (X3x h1) λp L=>?_;subst L;calc⟨x,p,rfl,h2⟩
def X34(h:Q0s .dct0 e=yx):∃p,e=UYE p:=by calc X3y h
def X8z{op:Bo}{Qun}(h:Q0s (.bin Ue4) e=yx):∃x y p,e=.BinOp x QNG y p/\mt QLs=yx/\mt UI0=true:=by let⟨⟨x,o,y⟩,h1,h2⟩:=Quq;calc Xd (X3z h1) λp L=>?_;subst L;simp[bA0]at h2;let e1:=Xrx h2.1.1;subst e1;calc⟨x,y,p,rfl,h2.1.2,h2.2⟩
def Xo6{op:Co}{Qun}(h:Q0s (.cmp Ue4) e=yx):∃x y p,e=UN3 [opC op] [y] p/\Vdp QRD y=yw/\mt QLs=yx/\mt UI0=true:=by let⟨⟨x,os,ys⟩,h1,h2⟩:=Quq;calc UnJ λo h3 h4=>?_;calc Xa (U77) λy h5 L=>?_;calc Xd QWd λp aa=>?_;subst aa;let e1:os=[o]:=Xbs h3;let e2:ys=[y]:=Xbs h5;subst e1 e2;simp[bA0,Vbz]at L;let e3:=Xk3 L.1.1.1;subst e3;calc⟨x,y,p,rfl,L.1.1.2,L.1.2,L.2⟩
def X80{o1 L:Co}{a b c:Ex}{QTh}(h:Q0s (.chn o1 L a b c) e=yx):∃x y z p,e=UN3 QXW [y,z] p/\lastMarks QXW [y,z]=yw/\mt QLs=yx/\mt UI0=yx/\mt QHq c z=true:=by let⟨⟨x,os,ys⟩,h1,h2⟩:=Quq;let⟨⟨p1,p2⟩,h3,h4⟩:=U11;let⟨⟨y,z⟩,h5,h6⟩:=U77;calc Xd QWd λp aa=>?_;subst aa;let e1:os=[p1,p2]:=Xco h3;let e2:ys=[y,z]:=Xco h5;subst e1 e2;rw[bA0,bA0,bA0,bA0,bA0,Vbz]at h6;calc Xav h6 λk1 k2 k3 k4 k5 k6=>?_;let e3:=Xk3 k1;let e4:=Xk3 k2;dsimp at e3 e4;subst e3 e4;calc⟨x,y,z,p,rfl,k3,k4,k5,k6⟩
def Xr2{an:Bool}{Qun}(h:(QTY.any λz=>Xtv an z.1&&(Xo5 an UYA).any λy=>Q0s a y.1&&Q0s b y.2)=yx):
  (∃x y p,e=Q9x Qt7 p/\mt QLs=yx/\mt UI0=yx)\/∃x y z r p,e=Q9x QDL p/\mt QLs=yx/\mt QHq b (Q9x QMD p)=true:=by
 let⟨⟨o,xs,p⟩,h1,h2⟩:=Quq;let e1:=X30 h1;subst e1;rw[bA0]at h2;let e2:=X31 h2.1;dsimp at e2;subst e2;let⟨⟨x,y⟩,h3,L⟩:=any_some h2.2;rw[bA0]at L;rcases X32 h3 with e3|⟨y1,y2,r,e3,e4⟩;·dsimp at e3;subst e3;exact .inl ⟨x,y,p,rfl,L.1,L.2⟩
 ·dsimp at e3 e4;subst e3 e4;calc .inr ⟨x,y1,y2,r,p,rfl,L.1,L.2⟩
def X81(h:Q0s Qra e=yx):(∃x y p,e=U86 Qt7 p/\mt QLs=yx/\mt UI0=yx)\/∃x y z r p,e=U86 QDL p/\mt QLs=yx/\mt QHq b QnM=true:=by calc Xr2 (an:=yx) h
def Ycu(h:Q0s QTc e=yx):(∃x y p,e=U48 Qt7 p/\mt QLs=yx/\mt UI0=yx)\/∃x y z r p,e=U48 QDL p/\mt QLs=yx/\mt QHq b Q4O=true:=by calc Xr2 (an:=yw) h
def X82{c a b:Ex}{QTh}(h:Q0s QZF e=yx):∃x y z p,e=.IfExp x y z p/\mt QHq c x=yx/\mt QHq a y=yx/\mt QHq b z=true:=by let⟨⟨x,y,z⟩,h1,h2⟩:=Quq;calc Xd (X8p h1) λp L=>?_;subst L;simp[bA0]at h2;calc⟨x,y,z,p,rfl,h2.1.1,h2.1.2,h2.2⟩
def X83{a i:Ex}{QTh}(h:Q0s (UhK i) e=yx):∃x y p,e=U76 y p/\Xao y=yx/\mt QLs=yx/\mt QHq i y=true:=by let⟨⟨x,y⟩,h1,h2⟩:=Quq;calc UgJ λp L=>?_;subst L;simp[bA0]at h2;calc⟨x,y,p,rfl,h2.1.1,h2.1.2,h2.2⟩
def Xwq{Qyl}{Qoi}{gs:Gens}{elt:Ex}{QTh}(h:Q0s (.cmr Ug4) e=yx):∃L gens scope p,e=.ListComp L UeE p/\cm=yx/\k=yw/\QK2.length=n/\scB sc scope N=yx/\mtG QHq QgI QdN UNI=yx/\mt cm Qxs QgI QdN elt L=true:=by let⟨⟨L,gens,scope⟩,h1,h2⟩:=Quq;calc Xd (X8q h1) λp aa=>?_;subst aa;simp[bA0,decide_eq_true_eq,Vbz]at h2;calc Xav h2 λh0 h1 h2 h3 h4 h5=>?_;calc⟨L,gens,scope,p,rfl,h0,h1,h2,h3,h4,h5⟩
def Ycv{n1 n2:Str}{Qup}(h:(Q78.any λz=>Qw3.any λ(x:Str)=>decide (x=n1)&&cm&&Qls&&z.2.2.1.isEmpty&&QdY.any λy=>QuR.any λ(x2:Str)=>decide (x2=n2)&&U75 x2&&y.2.2.1.isEmpty&&X9 y.2.1&&M y.2.1)=yx):
  ∃p p2 x cp L,e=.Call (.Name n1 p) [.Call (U9I p2) UUB] [] cp/\cm=yx/\glB sc n1=yx/\glB sc n2=yx/\X9 x=yx/\M x=true:=by
 calc Um8 λx p y ys cp aa h1=>?_;subst aa;rw[bA0,bA0,bA0,bA0]at h1;calc Xcf h1 λe1 e2 e3 e4 h2=>?_;calc Yr (Xdo h2) λx2 p2 y2 ag L aa h3=>?_;subst aa;rw[bA0,bA0,bA0,bA0]at h3;calc Xcf h3 λf1 f2 f3 f4 f5=>?_;let ae:=oD0 e1;let af:=oD0 f1;subst ae af;let ab:=Va7.mp e4;let ac:=Va7.mp f3;dsimp at ab ac;subst ab ac;calc⟨p,p2,y2,cp,L,rfl,e2,e3,f2,f4,f5⟩
def X84(h:Q0s (.sst a) e=yx):∃p p2 x cp L,e=.Call Q7P [.Call QDG UUB] [] cp/\cm=yx/\glB sc "sorted"=yx/\glB sc "set"=yx/\X9 x=yx/\mt QLs=true:=by calc Ycv h
def X1k{QOm}{Qup}(h:(Q78.any λz=>Qw3.any λ(x:Str)=>decide QGg&&cm&&Qls&&z.2.2.1.isEmpty&&Uh3&&M z.2.1)=yx):∃p x cp,e=.Call (.Name nm p) [x] [] cp/\cm=yx/\glB sc nm=yx/\X9 x=yx/\M x=true:=by calc Um8 λx p y ys cp aa h1=>?_;subst aa;rw[bA0,bA0,bA0,bA0,bA0]at h1;calc Xav h1 λe1 e2 e3 e4 e5 h2=>?_;let ab:=oD0 e1;let L:=Va7.mp e4;dsimp at L;subst ab L;calc⟨p,y,cp,rfl,e2,e3,e5,h2⟩
def X85(h:Q0s (.stl a) e=yx):∃p x L,e=.Call (.Name "set" p) UUB/\cm=yx/\glB sc "set"=yx/\X9 x=yx/\mt QLs=true:=
 X1k h
def Xjr(h:Q0s (.frz a) e=yx):(nfz a=yx/\pln e=yx)/\mt QHq a e=true:=QFG.imp (bA0 _ _).mp id
def X86{QDm}{Qun}(h:Q0s (.idc Uf4) e=yx):∃x y p,e=U5H/\Vdp QI0 y=yw/\mt QLs=yx/\mt UI0=true:=
 Xo6 QFx
def X87{QDm}{Qun}(h:Q0s (.ist Uf4) e=yx):∃x y p,e=U5H/\Vdp QI0 y=yw/\mt QLs=yx/\mt UI0=true:=
 Xo6 QFx
def X88(h:Q0s QDZ e=yx):∃x p y ys L,e=Qqx/\blB k x=yx/\QQY=yx/\glB sc x=yx/\Xal x=yx/\mts UL6=true:=by calc Um8 λx p y ys L aa h1=>?_;subst aa;rw[bA0,bA0,bA0,bA0]at h1;calc⟨x,p,y,ys,L,rfl,h1.1.1.1.1,h1.1.1.1.2,h1.1.1.2,h1.1.2,h1.2⟩
def X35{Qgj}(h:Q0s (.call k es) e=yx):∃x p y ys L,e=Qqx/\(∃fl,fns[k]?=yz (x,Q31.length,fl)/\QWT)/\glB sc x=yx/\Xal x=yx/\mts UL6=true:=by
 exact Um8 λx p y ys L aa h1=>?_;subst aa;rw[bA0,bA0,bA0]at h1;calc⟨x,p,y,ys,L,rfl,?_,h1.1.1.2,h1.1.2,h1.2⟩;let h2:=h1.1.1.1;unfold fnB at h2;split at h2;·rename_i nm ar fl e;simp[bA0,decide_eq_true_eq,Vch,Vbz]at h2;let⟨⟨rfl,rfl⟩,h2⟩:=h2;exact⟨fl,e,λz=>by rcases h2 with h2|h2;calc h2;rw[z]at h2;cases h2⟩
 ·cases h2
def X89{k:Mt}{o:Ex}{Qtm}(h:Q0s Q3W e=yx):∃ox nm ap y ys cp,e=U38/\mtB k nm=yx/\Xgq ox=yx/\Qy6=yx/\Q31.length<29/\mt QHq o ox=yx/\mts UL6=true:=by let⟨⟨f,y,ys,cp⟩,h1,h2⟩:=Quq;let⟨⟨ox,nm,ap⟩,h3,L⟩:=U11;let e1:=Xr0 h1;subst e1;let aa:Xk5 f=yz Q5d:=h3;let e2:=Xr1 aa;subst e2;rw[bA0,bA0,bA0,bA0,bA0]at L;calc⟨ox,nm,ap,y,ys,cp,rfl,L.1.1.1.1.1,L.1.1.1.1.2,L.1.1.1.2,oD0 L.1.1.2,L.1.2,L.2⟩
def X9a(h:Q0s (.srs a) e=yx):∃p x L,e=.Call Q7P UUB/\cm=yx/\glB sc "sorted"=yx/\X9 x=yx/\mt QLs=true:=
 X1k h
def Ycw{L:Str}{m:Expr->Bool}{QTh}(h:(QKf.any λz=>QRS.any λx=>decide (x.2.1=L)&&Xgq x.1&&QTI&&m x.1)=yx):∃ox ap cp,e=.Call (.Attribute ox L ap) Ut1 cp/\Xgq ox=yx/\Qy6=yx/\m ox=true:=by let⟨⟨f,cp⟩,h1,h2⟩:=Quq;let⟨⟨ox,nm,ap⟩,h3,h4⟩:=U11;let e1:=X33 h1;subst e1;let aa:Xk5 f=yz Q5d:=h3;let e2:=Xr1 aa;subst e2;rw[bA0,bA0,bA0]at h4;let e3:nm=L:=oD0 h4.1.1.1;subst e3;calc⟨ox,ap,cp,rfl,h4.1.1.2,h4.1.2,h4.2⟩
def X36{o:Ex}{QTh}(h:Q0s (.pop0 o) e=yx):∃L ap cp,e=.Call (.Attribute L "pop" ap) Ut1 cp/\Xgq L=yx/\Qy6=yx/\mt QHq o L=true:=Ycw h
def X9b{a:Ex}{ts:Un7}{QTh}(h:Q0s QBZ e=yx):∃p0 x y cp,e=UbE Qt7 [] cp/\glB sc "isinstance"=yx/\X9 x=yx/\mt QLs=yx/\tyM sc ts y=true:=by calc Um8 λf p y ys cp L h1=>?_;subst L;rw[bA0,bA0,bA0,bA0]at h1;calc Xcf h1 λh2 h3 h4 h5 h6=>?_;let e1:f="isinstance":=oD0 h2;subst e1;calc Xa (any_some h6) λy2 h7 h8=>?_;let e2:ys=[y2]:=Xbs h7;subst e2;calc⟨p,y,y2,cp,rfl,h3,h4,h5,h8⟩
def X9c(h:Us6=yx):(∃t nm p,ts=[t]/\y=.Name nm p/\glB sc nm=yx/\Xal nm=yx/\tyB sc t nm=yx) \/
  ∃t1 t2 n1 n2 p1 p2 k p,ts=Q5L/\y=.Tuple [.Name n1 p1,U9I p2] k p/\glB sc n1=yx/\Xal n1=yx/\glB sc n2=yx/\Xal n2=yx/\Xo1 t1=yx/\Xo1 t2=yx/\tyB sc t1 n1=yx/\tyB sc t2 n2=true:=by
 unfold tyM at h;rw[Vch]at h;exact Xj h Qv3 λh=>?_;·exact QJs λt h1 h=>?_;exact QJs λnm h2 k=>?_;exact Xd (Xaz h2) λp L=>?_;subst L;simp[bA0]at k;exact .inl ⟨t,nm,p,Xbs h1,rfl,k.1.1,k.1.2,k.2⟩
 ·calc QJs λt h1 h=>?_;calc QJs λys h2 h=>?_;calc QJs λz h3 h=>?_;calc QJs λn1 h4 h=>?_;calc QJs λn2 h5 k=>?_;calc Yy (Xcn h2) λkn p L=>?_;subst L;calc Xd (Xaz h4) λp1 e1=>?_;calc Xd (Xaz h5) λp2 e2=>?_;let e3:=Xco h3;rw[e1,e2]at e3;simp[bA0]at k;calc .inr ⟨t.1,t.2,n1,n2,p1,p2,kn,p,Xco h1,by rw[e3],k.1.1.1.1,k.1.1.1.2,k.1.1.2,k.1.2,k.2.1.1,k.2.1.2,k.2.2.1,k.2.2.2⟩
def X9d{a:Ex}{lo hi:Op}{QTh}(h:Q0s (.sli a Qku) e=yx):∃x l u p2 p,e=U76 (.Slice l u yy p2) p/\mt QLs=yx/\mto QHq lo l=yx/\mto QHq hi u=true:=by let⟨⟨x,y⟩,h1,h2⟩:=Quq;let⟨⟨l,u⟩,h3,L⟩:=U11;calc UgJ λp aa=>?_;subst aa;calc Xd (Xrz h3) λp2 e2=>?_;dsimp at e2;subst e2;simp[bA0]at L;calc⟨x,l,u,p2,p,rfl,L.1.1,L.1.2,L.2⟩
def X1l{w:Str}{Qtm}(h:(Q78.any λz=>Qw3.any λx=>decide (x=w)&&Qls&&mts QUu QI2)=yx):∃p y ys L,e=.Call (.Name w p) UjI L/\glB sc w=yx/\mts UL6=true:=by calc Um8 λx p y ys L aa h1=>?_;subst aa;rw[bA0,bA0]at h1;let e1:x=w:=oD0 h1.1.1;subst e1;calc⟨p,y,ys,L,rfl,h1.1.2,h1.2⟩
def X37(h:U3C QMc e=yx):∃p y ys L,e=.Call (.Name "zip" p) UjI L/\glB sc "zip"=yx/\mts UL6=true:=by calc X1l h
def X38(h:U3C Q2T e=yx):∃p y ys L,e=.Call QlQ UjI L/\glB sc "range"=yx/\mts UL6=true:=by calc X1l h
def X9e{a:Ex}{QTh}(h:Q0s (.rev a) e=yx):∃x y p,e=U76 y p/\Xo3 1 yy y=yx/\mt QLs=true:=by let⟨⟨x,y⟩,h1,h2⟩:=Quq;calc UgJ λp L=>?_;subst L;rw[bA0]at h2;calc⟨x,y,p,rfl,h2.1,h2.2⟩
def Xjs{top:Str->Bool}{QPk}(h1:UdG=yx)(h2:Ud9=yx)(h3:Xtt it=yx):∃es k p,tg=Ur1 k p:=by
 unfold Xgt at h1;rw[h3]at h1;cases t with
 |var i=>cases h1|tup is=>simp[mtT]at h2;calc UnJ λes h4 _=>?_;calc Yy (Xcn h4) λk p L=>?_;subst L;calc⟨es,k,p,rfl⟩
universe e
abbrev blts:LS:=["len","tuple","list","all","any","sum","max","min","range","isinstance","sorted","set","str","repr","zip","enumerate","abs","ValueError","int","bool","dict"]
abbrev bmV:LV:=[.type "ValueError",.type "Exception",.type "BaseException",.type "object"]
abbrev Xzl:Data->Option ClassData
 |.cls L=>UvE|_=>yy
def X39{d:Data}{cd:ClassData}(h:Xzl d=yz cd):d=.cls cd:=by cases d<;>cases h<;>rfl
abbrev Xo7{Quk}(C:Addr):Bool:=match K.lookup C with
 |none=>yw|some o=>match Xzl o.data with
  |none=>yw|some L=>o.cls == .type "type" && L.mro == .ref C::L.mro.tail&&o.slots == #[o.slots.getD 0 yy,o.slots.getD 1 yy,o.slots.getD 2 yy,o.slots.getD 3 yy,QAx,o.slots.getD 5 yy] && !L.hasDel&&PySem.W.tailIn K bmV L.mro.tail&&PySem.W.nsOkIn K L.ns&&Van K L.ns "__init__" == QNw
abbrev Xzm{Quk}:Bool:=
 ((Qwy).any λo=>!(o.cls == Qzq))&&Qex == yz QVU&&Uh5==Qpu &&
 QcM.all λc=>match Xay K c with
  |some C=>Xo7 K C&&(UY0 == UxI&&Vel UkE == QNw&&UHA Qp3==Qpu)&&QqN.isSome&&Vel UZI == yz QWU&&UHA QYA==Qpu &&
   Vg6 UO6 QlM==Qpu&&QcM.all λc0=>match Xay K c0 with
    |some L=>Vg6 UO6 Q1W==yz QFC&&(! QFC||PySem.W.exmOne UO6 Q1W==Qpu)|none=>yx
  |none=>Qcf.isNone
structure ErrOk{Quk}:Prop where
 sm:∃o,Qwy=Qkq/\o.cls≠Qzq
 gt:Qex=yz QVU
 tk:Uh5=Qpu
 at_:∀c nm,Xcs c=UkF->∃C,Ug3=UwE/\Van UL0=yz QUU
 cls:∀c C,Ug3=UwE->Xo7 K C=yx/\(UY0=UxI/\Vel UkE=QNw/\PySem.W.mroIn K C Qp3=Qpu)/\QqN.isSome=yx/\Vel UZI=yz QWU/\PySem.W.mroIn K C QYA=Qpu/\Vg6 UO6 QlM=Qpu
 sub:∀c C c0 C0,Ug3=UwE->Xay K c0=yz C0->Vg6 UO6 Q5M=yz QFC/\(QFC=yx->PySem.W.exmOne UO6 Q5M=Qpu)
def Xiv{Qck}{c:Nat}{C:Addr}(h:Ug3=UwE):c<lg clsNames:=by
 unfold Xay at h;cases q:Xcs c with
 |none=>rw[q]at h;cases h|some _=>calc Xn0 q
def X4a{Qck}(h:Xzm K=yx):ErrOk K:=by
 simp[Xzm,bA0,beq_iff_eq,U6,Vb2]at h;exact Xgb h λL h1 h2 h3=>?_;let ac:∃o,Qwy=Qkq/\o.cls≠Qzq:=by
  cases q:Qwy with
  |none=>rw[q]at L;cases L|some o=>rw[q]at L;calc⟨o,rfl,λz=>?_⟩;rw[Option.any_some,z]at L;cases L
 exact⟨ac,h1,h2,λc nm e=>?_,λc C e=>?_,λc C c0 C0 e e0=>?_⟩
 ·let:=h3 c (Xn0 e);split at this
  ·rename_i C q;calc⟨C,q,?_⟩;unfold Xay at q;rw[e,U0]at q;split at q;·rename_i q2;cases q;exact q2
   ·cases q
  rw[e]at this;cases this
 ·let:=h3 c QQf;rw[e]at this;simp[bA0,beq_iff_eq]at this;let⟨⟨⟨⟨⟨⟨a1,⟨⟨a2,ab⟩,aa⟩⟩,a3⟩,a4⟩,a5⟩,a6⟩,_⟩:=this;exact⟨a1,⟨a2,ab,aa⟩,a3,a4,a5,a6⟩
 let:=h3 c QQf;rw[e]at this;simp[bA0,beq_iff_eq,U6,Vb2]at this;let z:=this.2 c0 (Xiv e0);rw[e0]at z;simp[bA0,beq_iff_eq,Vch,Vbz]at z;calc⟨z.1,λy=>?_⟩;exact Xj z.2 (λz2=>?_) λz2=>?_;·rw[y]at z2;cases z2
 ·calc z2
universe Z
universe e
section
namespace Z
open PySem PySem.Spec PySem.Calls PyProof.Rows L2 PySem.W Builtin Builtin.ObjectAttr Builtin.Getset_descriptor
section
variable{Qmh}{A:Uq}{Qro}{K:Frag}{y D:Addr}
def Xef(e:UlH h):Ul5 (typeOf QO5) QQ5:=by calc Y6 e λob _ _ q L _=>?_;calc L▸(Looks.ld q).andThen .now
def X4b {Q0m}{QOj}(L:Uq0 QYA=Qpu)(q:R (.ok (.ret QQ5)) s):
  Vc1 QCw (.call QF2 ⟨[.builtin "object.__class__",.ref y,tv],[]⟩) R s:=by
 let⟨hp,gn,dw,tk,os⟩:=s;let T0:=Qxu;let T1:=QLv hK L;calc Via KF.slot_gs.plain KF.entry_gs (KF.slot_gs.check QLq Uu1 KF.type_class (KF.args_gs QLq) ?_);unfold Vbf.«getset_descriptor.__get__» descrGet;rw[dga_obj];calc QMt;unfold descrGetter descrCheckInstance descrNameAndClass isInstance;simp[KF.owner_class]
 repeat lk
 calc⟨UoG,Vbl KF.entry_class ?_⟩;unfold Vbf.«object.__class__» shownTypeOf
 repeat lk
 calc q
def Xzn (L:ULK){QUj}(h3:Ut4 v=Qpu):Ul5 (find QO5 QQ5 nm) (.bind g v):=by let a1:=looks_findIn (M:=M) L h1;let a2:Ul5 (getOf QCF) QsR:=looks_specialIn L h2;let a3:=looks_takesIn (M:=M) L h3;calc a1.andThen (a2.andThen ((show Ul5 (dataDescriptor? QCF QsR) (yz (g,v)) from a3.andThen .now).andThen (Looks.tag .now)))
def Xwr {QOj}{QUj}(L:Ut4 v=Qpu)
  (z:Qcq Qc8 (λr s1=>Q (.done (.ret r)) s1) E s):
  Vf QCw (Vbf.«object.__getattribute__» ⟨[.ref y,.str nm tk],[]⟩) Qeq:=by
 let⟨hp,gn,dw,t0,os⟩:=s;let T0:=Qxu;let T1:=Xzn (M:=Vi Qfq) (y:=y) hK Qwq L;unfold Vbf.«object.__getattribute__»;calc QMt;calc QMt;calc Va QHK;show Qcq (Vd4 [v] Qc8 >>= ret) QLq;calc Va (Ul (Vp z (λr s1 q=>Vd q) λ_ _ q=>q))
def Xws {QOj}(hm:Uq0 Qp3=Qpu)(q:Q () s):
  Vf QCw (checkBuiltinCall "BaseException.__getattribute__" ⟨[.ref y,nv],[]⟩) Qeq:=by
 let⟨hp,gn,dw,t0,os⟩:=s;let T0:=Qxu;let L:=QLv hK hm;let kd:builtinKind "BaseException.__getattribute__"=yz .slot:=by decide+kernel
 let sp:splitId "BaseException.__getattribute__"=yz ("BaseException","__getattribute__"):=by decide+kernel
 let ao:=PySem.F.args_bexc_ga QO5 nv;simp[checkBuiltinCall,kd,sp];unfold isInstance;calc Va (Va (T0.at (L.at ?_)));rw[iN0 Q2];calc Vhi ao q
def Xzo (L:Up7)(e:UlH s.heap)(ga:UY4=UxI)(gn:UAA=QNw)
  (hm:Uq0 Qp3=Qpu) (h1:QXu nm=UzI) (h2:specialIn K v "__get__"=yz QsR) (h3:Ut4 v=Qpu) (hh:handedIn QQ5=yx)
  (z:∀A':Uq,Vf Q3 A' Qc8 (λr s1=>r=.ref D/\Q (yz QQ5) s1) Qt QeA):
  Vf QCw (getAttr? QO5 nm) Qeq:=by
 let⟨hp,gs,dw,tk,os⟩:=s;let T0:=Qxu;let T1:=Ux1 ga;let T2:=Ux1 gn;let T3:=QLv L hm;unfold getAttr? getAttrBy? getAttrBy;calc Va (wpAny_mkText (Va (Vc8 (Ul (Va QHK)))));let aa:(onTheHeap (Ui D)&&Qiw == UB0)=false:=by
  let:(Qiw == UB0)=false:=by decide+kernel
  rw[this,Vem]
 dsimp;rw[iN0 (by rw[aa];calc Ue)];unfold getAttrByItsOwn hookBefore;rw[iP0 QNd];calc Va (T2.at (Va (Vc8 (Ul ?_))));unfold callGetattribute boundAndCalled;rw[iN0 Q9];let f3:=PySem.F.excAttr_ValueError.ga.bind QO5;rw[f3];calc QMt;calc wpAny_call (Via PySem.F.excAttr_ValueError.ga.plain PySem.F.entry_bexc_ga (Xws (s:=QLM) L e hm ?_));calc Xwr (s:=QLM) L e Ui2 (Vp (z _) (λr s1 q=>?_) λ_ _ q=>q.elim);let⟨rfl,q⟩:=q;calc handed_on hh Qng
def Xzp (p1:UY4=UxI)(p0:UAA=QNw)(p7:Uq0 Qp3=Qpu)(p2:(clsIn K D).isSome=yx)(p3:QXu "__class__"=yz QWU)
  (p4:specialIn K QD0 "__get__"=yz QVU) (p5:Ut4 QD0=Qpu) (p6:Uq0 QYA=Qpu):KitX K QO5 QQ5 (UlH) where
 ty:=λ_ _ _ e=>Xef e
 it:=λ_ _ L _=>by
  unfold clsIn at p2;split at p2;·rename_i lk;intro B Q' E' s' k q;unfold isType loadHead;exact Va (wpAny_loadPart (k _ _ (L _ _ lk)) Qng)
  ·cases p2
 ne:=λhp tp dd its n sl L ht=>by
  exact Vjg.mpr λq=>?_;let q':D=tp:=Value.ref.inj (beq_iff_eq.mp q);subst q';unfold clsIn at p2;split at p2;·rename_i lk;cases (L _ _ lk).symm.trans ht
  ·cases p2
 ca:=λ{prog w B E' Q' s'} L e k=>Xzo L e p1 p0 p7 p3 p4 p5 rfl λA'=>wpAny_call (X4b (s:={s' with toks:=s'.toks+1}) L e p6 ⟨rfl,k⟩)
universe e
universe Z
universe e
section
namespace Z
open PySem PySem.Spec PyProof.Rows L2
abbrev Xcw:Ty->Option (Str×String)
 |.int=>yz ("int","int")|.bool=>yz ("bool","bool")|.str=>yz ("str","str")|.tuple=>yz ("tuple","tuple")|.list=>yz ("list","list")|.dict=>yz ("dict","dict")|_=>yy
abbrev Xiw:Kd->Option String
 |.non=>yz "NoneType"|.bool=>yz "bool"|.int=>yz "int"|.str=>yz "str"|.tuple=>yz "tuple"|.list=>yz "list"|.dict=>yz "dict"|.exc _=>yy
def Xgu(h:Xcw t=UcB):Ven nm=yz QxD:=by cases t<;>simp[Xcw,Vt,Vga,reduceCtorEq]at h<;>let⟨rfl,rfl⟩:=h<;>decide+kernel
def Xix(h:Xcw t=UcB):nm∈blts:=by cases t<;>simp[Xcw,Vt,Vga,reduceCtorEq]at h<;>let⟨rfl,rfl⟩:=h<;>decide
def Xk6(ht:Xcw t=UcB)(L:Xiw k=yz U)(h:U07=UbB){Quk}:Vg6 K QzS QxD=UbB:=by cases k<;>simp[Xiw,Vt,reduceCtorEq]at L<;>subst L<;>cases t<;>simp[Xcw,Vt,Vga,reduceCtorEq]at ht<;>let⟨rfl,rfl⟩:=ht<;>simp[isT,tyQ,Vt]at h<;>subst h<;>kernel_rfl
section
variable{Qmi}{Q4l}
def X1m{Qzg}(h:kdD S d=yz k)(hU:Xiw k=yz U){Q6h}:
  ∃P:Heap->Prop,PySem.W.KitX X.K u QzS P/\P s.heap/\u≠.builtin "__main__.__loader__#opaque":=by
 cases d with
 |non=>cases h;cases hU;simp[RD]at rd;subst rd;cases rv;calc⟨_,PySem.W.kitx_none,trivial,λz=>nomatch z⟩|bl b=>cases h;cases hU;simp[RD]at rd;subst rd;cases rv;calc⟨_,PySem.W.kitx_bool,trivial,λz=>nomatch z⟩|int i=>cases h;cases hU;simp[RD]at rd;subst rd;exact UA0 λt L=>?_;subst L;calc⟨_,PySem.W.kitx_int,trivial,λz=>nomatch z⟩|str x=>cases h;cases hU;simp[RD]at rd;subst rd;exact UA0 λt L=>?_;subst L;calc⟨_,PySem.W.kitx_str,trivial,λz=>nomatch z⟩|tup xs=>cases h;cases hU;simp[RD]at rd;exact UF7 λp vs L hq _=>?_;subst L;cases rv;exact Xe (I.inv.tuple hq) λits _ pl _=>?_;exact Xe pl λo h1 h2 _=>?_;calc⟨_,PySem.W.kitx_tuple,QlX,λz=>nomatch z⟩|fro xs=>cases h;cases hU;simp[RD]at rd;exact UF7 λp vs L hq _=>?_;subst L;cases rv;exact Xe (I.inv.list hq.sq) λits _ pl _=>?_;exact Xc pl λo n h1 h2 _=>?_;calc⟨_,PySem.W.kitx_list,QlX,λz=>nomatch z⟩|fn _ _=>cases h|edc=>cases h;cases hU;simp[RD]at rd;exact Xf rd λp og L hv=>?_;subst L;cases rv;let⟨_,_,_,vs,_,o,es,ep,h1,h2,_⟩:=(show Qct p Q9W from UE0);exact⟨_,PySem.W.kitx_dict,QBU,λz=>nomatch z⟩|ref n=>
  simp[kdD]at h;simp[RD]at rd;exact Ux9 λp L hp=>?_;subst L;cases rv;split at h;·rename_i xs e;cases h;cases hU;exact Xa (U89) λvs hv _=>?_;exact Xbc ((show Qct p Qt1 from UE0)) λ_ its n' _ h1=>?_;exact⟨_,PySem.W.kitx_list,⟨_,h1,rfl⟩,λz=>nomatch z⟩
  ·rename_i xs e;cases h;cases hU;exact Xi ((show(([]:QZu)=[]/\H p=yz Qp6)\/_ from U89).resolve_right λz=>z.1 rfl) λ_ hv=>?_;let⟨_,_,vs,_,o,es,ep,h1,h2,_⟩:=(show Qct p Qp6 from UE0);exact⟨_,PySem.W.kitx_dict,QBU,λz=>nomatch z⟩
  ·cases h;cases hU
  cases h
def Xfc (ht:Xcw t=UcB){Q9j}:
  DE UYI:=by
 intro pc Qyr;dsimp at nb |-;calc Xs Qyb λo1 _ o3=>?_;calc Vbj QB2;calc Vbc ?_ QSY rfl;rw[Xv aa];generalize hr:Q33=r at nb |-;calc Vbi (U27 (λd S1 u s1 v H1 af e1 ab I1 rv rd ac=>?_) λ_ _ z=>z);calc Vbi (Y8 I1.inv hg (hb _ (Xix ht)) (Xgu ht) ?_ o3 o1);calc Vdn ?_;cases q:QfP.bind λk=>Xau k [t] with
 |none=>rw[q]at ab;cases ab rfl|some b=>
  exact Xa QCQ λk q1 L=>?_;let q3:U07=UbB:=by
   unfold Xau at L;cases e:U07 with
   |none=>rw[e]at L;cases L|some c=>rw[e]at L;cases c<;>simp![Xau]at L<;>rw[L]
  rw[e1,q];cases hU:Xiw k with
  |none=>cases k<;>simp[Xiw,reduceCtorEq]at hU;cases t<;>simp[Xcw,reduceCtorEq]at ht<;>simp[isT,tyQ,reduceCtorEq]at q3|some U=>calc Xe (X1m I1 q1 hU Qby) λP k1 k2 k3=>?_;calc PySem.W.kia_one k1 I1.inv.kIn k2 (Xk6 ht hU q3 X.K) k3 λtk=>UG3 (Xy I1.sr (I1.inv.tok tk))
def Xwt {QSo}(ht:(∃c,t=.cls c/\Xcs c=UkF)\/(t=.valueError/\nm="ValueError")){Q9j}:
  DE UYI:=by
 intro pc Qyr;dsimp at nb |-;exact Xs Qyb λo1 _ o3=>?_;calc Vbj QB2;calc Vbc ?_ QSY rfl;rw[Xv aa];generalize hr:Q33=r at nb |-;exact Vbi (U27 (λd S1 u s1 v H1 ag e1 ac L rv rd ab=>?_) λ_ _ z=>z)
 /- the value is an error -/
 cases q:QfP.bind λk=>Xau k [t] with
 |none=>rw[q]at ac;cases ac rfl|some b=>
  rw[e1,q];exact Xa QCQ λk q1 q2=>?_;let q3:U07=UbB:=by
   unfold Xau at q2;cases e:U07 with
   |none=>rw[e]at q2;cases q2|some c=>rw[e]at q2;cases c<;>simp![Xau]at q2<;>rw[q2]
  obtain⟨c',rfl⟩:∃c',k=.exc c':=by rcases ht with⟨c,rfl,_⟩|⟨rfl,_⟩<;>cases k<;>first|exact Qd|(simp[isT,tyQ,reduceCtorEq]at q3)
  obtain⟨n,rfl,hS⟩:∃n,d=Uw5/\S1[n]?=yz (.exc c'):=by
   cases d with
   |ref n=>
    calc⟨n,rfl,?_⟩;simp[kdD]at q1;split at q1;·cases q1
    ·cases q1
    ·rename_i c2 e;cases q1;exact e
    cases q1|_=>cases q1
  simp[RD]at rd;exact Ux9 λp af hp=>?_;subst af;cases rv;exact Xa ((show ∃C,UH7 c'=UwE/\H1 p=yz QaQ from L.sr.ob n p _ hp hS)) λC hC hH=>?_;let⟨_,⟨b1,b2,b3⟩,a3,a4,a5,a6⟩:=er.cls c' C hC;let hE:ExcO C p s1.heap:=(show UHF p QaQ from L.inv.hok p _ hH).1;let kx:=Xzp (y:=p) b1 b2 b3 a3 a4 er.gt er.tk a5;rcases ht with⟨c,rfl,hc⟩|⟨rfl,rfl⟩
  ·exact Xa (er.at_ c nm hc) λC0 h1 h2=>?_;let e3:b=Q6A:=by simp[isT,Vt]at q3;exact q3.symm
   subst e3;calc Vbi (Xe3 L.inv hg (Vd9 L.inv.mod.kin L.inv.mod.glob h2) Qxd o1);exact QQy (er.sub c' C c C0 hC h1).1 QT1 λtk=>UIA QCJ
  let e3:b=true:=by simp[isT,Vt]at q3;exact q3.symm
  subst e3;calc Vbi (UWG hg (hb _ Q2) (u:=.type "ValueError") Q8 Qxd o3 o1);calc QQy a6 QT1 λtk=>UIA QCJ
universe e
def Xzq{Q0h}:Vbn<s.heap.objs.size:=by let L:=(I.mod.glob.keeps I.bk).lt;calc Uj (show Vbn<Uw from by decide) (Vc3 L)
def d_dct0:Qjv (UYE pos) (λ_ S=>Qvq QoI):=by
 intro pc QIq I _;let L:Qbu=none:=U99;let hb:=Xzq I.inv;let new:Qxr (Ug6 Qp6) QZP s.heap.objs.size Qp6:=
  ⟨U2A,beq_eq_false_iff_ne.mpr (λz=>by rw[z]at hb;calc aB0 hb QtE),[],.nil,Heap.DictOf.new s.heap⟩
 let J:=Qir QR6 Qa new;calc wpAny_Dict_empty ?_;calc Qpx rfl ?_ (I.sr.new1 (o:=.dct []) L (.inl ⟨rfl,Xp⟩));simp[RD];calc QED
def Xhm{Q0p}(o:QXr):Xea n d o=UA9 d o:=by
 cases o with
 |none=>rfl|some i=>
  simp[Xea,HT.sIx];by_cases h:i<0;·rw[iP0 h,iN0 QK9]
  ·rw[iN0 h,iP0 QK9]
def Xwu{Q6j}{QMi}:Qwr QYI (Xkc vs Qku):=by unfold cut Xkc;rw[Xhm,Xhm,h.length];calc(h.drop _).take _
section
variable{Q2h}
def Xqg{items:AV}{Qfm}{Q:VP}(L:Qxt t items){Qrh}
  (h1:UPA=0) (h2:HT.sIx Qbr=items.size) (h:Q Q35 s):UY7:=by
 exact Xe QGY λos ac aa ae=>?_;let ab:QOw := ⟨os,ac,aa⟩;unfold Vgc
 try with_reducible exact Ul ?_
 first|exact QMt|skip
 calc Va (Vjc L.typeIs Q2 (Va (Qet L.typeIs Vbp (Uy Vbp L.typeIs Vii ?_ (Viz _ _)))));show Ua7;calc Va (tupleItemsOf_ L Q5e);rw[iP0 Q2];calc Va (HT.sliceApplied_gen hs pl pu ?_);show QXq (if (((UPA:Nat):Int)==0&&(1:Int)==1&&(HT.sIx Qbr-UPA)==items.size)=yx then _ else _) Qlr;rw[h1,h2,iP0 Q9];calc Va ?_;unfold Builtin.Tuple.tupleIsExact;calc Va (Vc4 L.typeIs Q70);rw[iP0 Q2];calc Va (Vb0 Q62)
universe e
theorem Xm6{QYi}(o:QDr)(u:Vb):Prop:=match o with
 |none=>u=.none|some d=>∃v,QNr/\RD QFs
theorem DO{QMl}(e:Qgr)(f:En->Sto->R QZ3):Prop:=
 ∀(pc:LA) (s:Vc) (σ:L2.St) (H:Hp) (ρ:LR) (S:Sto) (env:En),Q2s->Q8u≠.bad ->
  Vf QTq QYD (λu s'=>∃o S',Q8u=.ok o S'/\∃H' ρ',QYt/\SR Qmq/\Stp QSq/\Xm6 Q7t o u) Qj4 s
section
variable{Qmi}{pos p2:Pos}
def Xr3:UUK yy (λ_ S=>UrH):=by intro pc Qks;rw[evalPart_none];calc Vd ⟨yy,S,rfl,H,ρ,I.inv,I.sr,.refl,rfl⟩
def Xr4(h:UOH):UUK (QIx) (λenv S=>Qo.bind λx S=>URE):=by intro pc Qyr;dsimp at nb |-;rw[evalPart_some];calc h.bind I nb rfl (λd S1 u s1 v H1 aa e1 ab I1 rv rd L=>?_) λ_ _ z=>z;calc⟨Um2,S1,e1,H1,aa,I1.inv,I1.sr,L,v,rv,rd⟩
def DO.bind{Q7h}{e:Qgr}{f:En->Sto->R QZ3}(h:UUK e f){Qzg}{k:QDr->Sto->R α}{QIp}{Qyi}{Qzo}(L:r=Qv.bind k)
  (hQ:∀o S1 u s' H' ρ',r=k o S1->k o S1≠.bad->UND->Xm6 Q7t o u->QSv->Q UJB) (hE:∀x s',QMy->E Uk6):Q4s QYD Qeq:=by
 cases q:Q8u with
 |bad=>rw[q]at nb;cases nb rfl|ex QVw=>
  rw[q]at L;exact Vp Q8H QMI λx s' z=>?_;·exact UY6 λo S2 e _=>?_;rw[q]at e;cases e
  ·exact UY6 λm S2 e z=>?_;rw[q]at e;cases e;exact QWt QcJ|ok o S1=>
  rw[q]at L nb;exact Vp Q8H QMI λx s' z=>?_;·let⟨o',S2,e,H',ρ',J,sr,st,pr⟩:=z;rw[q]at e;cases e;exact hQ o S1 UJB Qcw L nb QXA pr st
  ·calc UY6 λm S2 e z=>?_;rw[q]at e;cases e
def Xhn{Qck}{Qnp}{u:Vb}{L:QXr}(h:Xm6 Qat o u)(e:Xfo o=UvE):Vfr u L:=by
 cases o with
 |none=>let e':QNw=UvE:=e;cases e';let h':u=.none:=h;subst h';exact .none|some d=>
  cases d with
  |int i=>let e':yz QcW=UvE:=e;cases e';calc UW4 λv rv rd=>?_;simp[RD]at rd;subst rd;calc UA0 λt aa=>?_;subst aa;calc QFu t|_=>cases e
def X9f{d:D}{l h:QXr}{QTn}:Xew d l h S=match lsD S d with
  |some xs=>Qvq (S++[.lst (UWJ l h)])|none=>.bad:=by cases d<;>first|rfl|calc aB0 rfl QZg
def X1n{Qop}{fl fh:En->Sto->R QZ3}{QKh}(hl:UUK lo fl)(hh:UUK hi fh):
  DE X (U00 QmM pos) (λenv S=>Qo.bind λx S=>(fl QKq).bind λl S=>(fh QKq).bind λh S=>match Xfo l,Xfo h with
   |some l,yz h=>UA7
   |_,_=>.bad):=by
 intro pc Qyr;dsimp at nb |-;calc Subscript_ (Qss rfl (λd S1 u s1 v H1 am e1 aj I1 rv rd ae=>?_) λ_ _ z=>z);rw[e1];calc wpAny_Slice (hl.bind I1 aj rfl (λl S2 vl s2 H2 al e2 ak I2 pl af=>?_) λx s' z=>z.pre ae);rw[e2];calc hh.bind I2 ak rfl (λh S3 vu s3 H3 ai e3 ab I3 pu ah=>?_) λx s' z=>(z.pre af).pre ae;rw[e3];cases q1:Xfo l with
 |none=>rw[q1]at ab;cases ab rfl|some li=>
  cases q2:Xfo h with
  |none=>rw[q1,q2]at ab;cases ab rfl|some L=>
   rw[q1,q2]at ab;dsimp at ab |-;rw[evalPart_none];calc Vd ?_;let P1:=Xhn pl q1;let P2:=Xhn pu q2;let ag:=QiW.mono ah;let J:Qvr H3 Q30:=I3.inv.kept (t':=s3.toks) λb ob q=>Qwt q;let fin:∀ {T id:String},UO0=pure Qyc->(Q30:Vc).TypeIs u T ->
     Vf QTq (Vgc u QSJ) (OkP QJq ai H3 QGB) (U6E ai H3 QGB) Q30 ->
     Vf QTq (Vf7 a QmM u QSJ) (QXt QGB) (QZt QGB) Q30:=λt1 t2 g=>
    tail_any (ops:=[.ref s3.heap.objs.size,u]) t2 t1 (Vp g (λ_ _ z=>OkP.pre QbJ z) λ_ _ z=>ExP.pre QbJ z) QaI
   by_cases ht:∃xs,d=UC4
   ·exact Xd ht λxs ac=>?_;subst ac;simp[RD]at ag;exact Xc ag λp vs ac hq hr=>?_;subst ac;cases rv;exact Xe QNX λits r ht hz=>?_;let aa:its.toArray.size=Q8y:=by rw[Vn];exact r.length.symm
    calc Qvt ?_;by_cases hw:HT.sIx QJ2 0 li=0/\HT.sIx QJ2 QJ2 L=Q8y
    ·calc Xqg U98 (by rw[aa];calc hw.1) (by rw[aa];calc hw.2) ?_;let e:UWJ li L=xs:=by
      unfold cut;rw[Xhm,Xhm,hr.length,hw.1,hw.2,Vft,Nat.sub_zero,<-hr.length,Vey]
     calc U26 UP6 rfl ?_ I3.sr;rw[e];simp[RD];exact⟨p,vs,rfl,hq,hr⟩
    calc HT.getItem_tuple_cut U98 (by rw[aa];calc hw) ?_ (by rw[aa];calc hz);rw[aa];calc Xd3 UN0 (Xwu hr li L);exact⟨Uh QOV hz,_,U4K,QD5⟩
   rw[X9f λxs z=>ht Qfc]at ab fin |-;cases e4:lsD S3 d with
   |none=>rw[e4]at ab;cases ab rfl|some xs=>rw[e4]at fin;dsimp at fin |-;calc Xc (I3.lsR e4 ag) λb vs ac k2 k3=>?_;subst ac;cases rv;calc Xe Q0Z λits r ht hz=>?_;let aa:=r.length;calc Quu ?_;calc Ua6 P2 .none Q9 ?_ (by rw[Vn]<;>lia);rw[Xmt,<-aa];calc Xan UN0 (Xwu k3 li L);calc⟨Uh QOV hz,_,0,U4K,Um3 rfl⟩
universe e
def X4c{Qck}{k:Kd}{t1 t2:Ty}{n1 n2:Str}{T1 T2 U:String}{QNp}{Qsk}(hk:Xiw k=yz U)(h:UN5=UbB):
  PySem.W.kitAny K QzS QGP=UbB:=by
 simp[Xau]at h;unfold PySem.W.kitAny;cases L:isT k t1 with
 |none=>rw[L]at h;cases h|some c1=>
  rw[L]at h;rw[Xk6 h1 hk L K];cases c1 with
  |true=>cases h;rfl|false=>
   dsimp at h |-;unfold PySem.W.kitAny;cases e2:isT k t2 with
   |none=>rw[e2]at h;cases h|some c2=>
    rw[e2]at h;rw[Xk6 h2 hk e2 K];cases c2 with
    |true=>cases h;rfl|false=>cases h;rfl
section
variable{Qmi}{Q4l}
def X9g {Qsk}{Q6i}(ae:Gl X "isinstance")(g1:Gl X n1)(g2:Gl X n2)(o1:Xal n1=yx)(o2:Xal n2=yx){QKh}(aa:X9 a=yx):
  DE X (UbE [a,.Tuple [.Name n1 q1,U9I q2] k3 p3] Uf2) (λenv S=>Qo.bind λx S=>match QPL.bind λk=>UN5 with|some r=>UVH|none=>.bad):=by
 intro pc Qyr;dsimp at nb |-;calc Xs (Xa9 o1) λa1 _ a3=>?_;calc Xs (Xa9 o2) λb1 _ b3=>?_;calc Vbj QB2;calc Vbc ?_ QSY rfl;rw[Xv aa];generalize hr:(Qo.bind λx S=>match QPL.bind λk=>UN5 with|some r=>R.ok (D.bl r) S|none=>R.bad)=r at nb |-;calc Vbi (U27 (λd S1 u s1 v H1 af e1 ab L rv rd ac=>?_) λ_ _ z=>z);calc Vbi (wpAny_Tuple_spliced (x1:=k3) (Vbi (UWG g1 (hb _ (Xix h1)) (Xgu h1) (Vbi (UWG g2 (hb _ (Xix h2)) (Xgu h2) (Vdn ⟨by show 2<=V6;decide,?_⟩) b3 b1)) a3 a1)));calc Vdn ?_;cases q:QfP.bind λk=>UN5 with
 |none=>rw[q]at ab;cases ab rfl|some b=>
  calc Xa QCQ λk k1 k2=>?_;rw[e1,q];let J:U5K Q54:=Qus λb ob q=>Qwt q;let I2:Qwv H1 Q54 af QDx:=⟨J,L.sr,L.er⟩;cases hU:Xiw k with
  |none=>
   cases k with
   |exc c=>
    simp[Xau]at k2;let z:isT QR3 t1=none:=by cases t1<;>simp[Xcw,reduceCtorEq]at h1<;>rfl
    rw[z]at k2;cases k2|_=>cases hU
  |some U=>calc Xe (X1m I2 k1 hU Qby) λP z1 z2 z3=>?_;calc PySem.W.kia_tup (its:=QGP) z1 J.kIn z2 Q25 (X4c Qwq hU k2) z3 λtk=>UG3 (Xy L.sr (J.tok tk))
universe e
universe Z
universe e
section
namespace Z
open PySem PySem.Spec PyProof.Rows L2
open Builtin.Slice (sliceAdjust slicePlaces)
abbrev Xo8{Q7h}(lo c:Int){QEj}(xs:Q7r):Q7r:=QFX.filterMap λ(k:Nat)=>xs[(lo+(k:Int)*c).toNat]?
abbrev Xah{QFi}{QFj}:Q7r:=Xo8 Q3A.1 c (slicePlaces Q3A.1 Q3A.2 c) xs
def Xtx{Q6j}(L:Nat->Nat):∀ks:LN,Qwr QQG (ks.filterMap λk=>vs[L k]?)
 |[]=>.nil|k::ks=>by
  cases e:xs[L k]? with
  |none=>let e2:=h.none e;simp[U9,e,e2];calc Xtx h L ks|some d=>calc Xa QZb λv e2 r=>?_;simp[U9,e,e2];calc Qft (Xtx h L ks)
def Xk7{QGk}(L:Nat->Nat):∀ks:LN,Vals QQG (ks.filterMap λk=>us[L k]?)
 |[]=>.nil|k::ks=>by
  cases e:xs[L k]? with
  |none=>
   let e2:us[L k]?=none:=by rw[Uv]at e |-;rw[<-h.length];exact e
   simp[U9,e,e2];calc Xk7 h L ks|some d=>calc Xa QZb λv e2 r=>?_;simp[U9,e,e2];calc Qft (Xk7 h L ks)
def Xwv{Q6j}{QFj}:Qwr Qz6 (Xah vs l c):=by unfold Xah;rw[h.length];calc Xtx h _ _
def Xo9(h:Qpr){QFj}:Vals Qz6 (Xah us l c):=by unfold Xah;rw[h.length];calc Xk7 h _ _
def Xww{lo hi c:Int}{Qoi}(L:c<0)(h1:lo<=(n:Int)-1)(h2:-1<=hi):slicePlaces Qku c<=n:=by
 unfold slicePlaces;rw[iN0 Q0];split;·let:(lo-hi-1)/(-c)<=lo-hi-1:=Int.ediv_le_self _ Q0;omega
 ·simp!
def Xpa{QBj}{Qoi}(L:c<0):QjK.1<=(n:Int)-1/\QjK.2 = -1:=by
 unfold sliceAdjust;simp[L,if_true,and_true];cases l with
 |none=>calc UgH|some v=>dsimp;split<;>omega
def X4d{QFi}{QBj}(L:c<0):Qz6.length<=QPs:=by unfold Xah Xo8;calc Uh (List.length_filterMap_le _ _) ?_;rw[Vat];calc Xww L QPf.1 (by rw[QPf.2];omega)
section
variable{Q2h}
def Xpb{QVo}{QRm}(hc:c≠0){QMj}
  (h:Q (Q2A.1,c,slicePlaces Q2A.1 Q2A.2 c) s):Qcq QHJ Qeq:=by
 calc Xe QGY λos L ab aa=>?_;unfold Vd8 Vji;calc Va (Va (UtG (x:=vl) rfl (Va (UtG (x:=.none) rfl (Va (UtG (x:=vs) rfl Q70))))));calc Va (HT.slicePart_ ps ?_);show QXq (if (c==0)=yx then _ else _) Qlr;rw[iN0 Q83];calc Va (HT.slicePart_ pl (Va (HT.slicePart_ .none Q6e)));calc UrG
def Xty{QKp}{QVo}{Q:VP}(hc:c≠0)(ag:c≠1)(ac:Q59.length<=Ub8)(ht:Qxt t its.toArray){QMj}
  (h:UsD {s with heap:=s.heap.push {cls:=Qpq,data:=UHB} }) (hsz:Qn3<=V6):UY7:=by
 let L:sizeOk (UHB):=by show(UkJ).toArray.size<=V6;rw[Vn];exact Uh ac hsz
 exact Xe QGY λos ae aa af=>?_;let ab:QOw := QRW;unfold Vgc
 try with_reducible exact Ul ?_
 first|exact QMt|skip
 calc Va (U7B (Va (U8A QjC)));show Ua7;calc Va (UuA Q5e);rw[iP0 Q2,Vn];calc Va (Xpb hc hs pl ps ?_);show QXq (if (QO0.1==0&&c==1&&UC2==Ub8)=yx then _ else _) Qlr;let hn:(c==1)=false:=by simp!;omega
 rw[iN0 (by rw[hn];simp!)];let e:((Ud (UC2)).filterMap λ(k:Nat)=>its.toArray[(QO0.1+(k:Int)*c).toNat]?)=UkJ:=by unfold Xah Xo8;simp!
 rw[e]
 first
  |calc QWx QQH|calc Va QnN
universe e
def Xwx(its:LV)(lo:QXr)(hc:c<0):Qpv lo yy QCL=Q59.toArray:=by
 let L:¬ c>0:=by omega
 let e1:QlA.1=QO0.1:=by
  unfold Vd0 sliceAdjust;simp[Vf3,L,hc,if_true,if_false];cases lo with
  |none=>rfl|some v=>dsimp;split<;>omega
 let e2:QlA.2.1 = -1:=by unfold Vd0;simp[Vf3,L,if_false]
 let e3:QlA.2.2=c:=rfl;unfold slicePick Xah Xo8;rw[Vn,e1,e2,e3,(Xpa hc).2];generalize QO0.1=a;let e4:slicePlaces a (-1) c=(if a > -1 then (a - -1-c-1)/(-c) else 0).toNat:=by
  unfold slicePlaces;rw[iN0 L];congr 1;split
  ·let:a - -1-c-1=(a - -1-1)+1*(-c):=by omega
   rw[this,Int.add_mul_ediv_right _ _ Q0]
  rfl
 unfold sliceRange;simp[L,if_false];rw[e4,Viy];congr 2;funext k;simp[Function.comp,Vhv];rw[Int.mul_comm]
def Xpc{Qwi}{f g:α->Option β}:∀ {l:Q7r},(∀x∈l,f x=g x)->l.filterMap f=l.filterMap g
 |[],_=>rfl|x::l,h=>by rw[U9,U9,h x Q9,Xpc λy L=>h y QZL]
def X4e{QFi}:Xah xs yy (-1)=xs.reverse:=by
 unfold Xah Xo8;let e1:(sliceAdjust yy yy (-1) (lg xs:Int))=((lg xs:Int)-1,-1):=rfl;rw[e1];let e2:slicePlaces ((lg xs:Int)-1) (-1) (-1)=QPs:=by
  unfold slicePlaces;rw[iN0 Q2];split;·simp!
  ·omega
 dsimp;rw[e2];let:∀(n:Nat) (ys:Q7r),UX3=n->QFX.filterMap (λk=>ys[k]?)=ys:=by
  intro n;induction n with
  |zero=>intro ys h;rw[Vfl h];rfl|succ n ih=>
   intro ys h;cases ys with
   |nil=>cases h|cons y ys=>rw[List.range_succ_eq_map,U9,Viy];simp[gZ0];congr 1;exact ih ys QN2
 rw[<-this QR xs.reverse Q9];calc Xpc λk L=>?_;let L:=Vb2.mp L;rw[List.getElem?_reverse L];congr 1;omega
abbrev Xeg{QFj}{QLl}:R D:=
 match x with
 |.tup xs=>.ok (.tup Qz6) S|x=>match lsD S x with
  |some xs=>Qvq QoS|none=>.bad
def X9h{d:D}{QBj}{QTn}:Xeg l c d S=match lsD S d with
  |some xs=>Qvq QoS|none=>.bad:=by cases d<;>first|rfl|calc aB0 rfl QZg
def Xpd{QLl}:UB7 x S=Xx2 x S:=by cases x<;>simp[Xeg,Xx2,X4e]<;>rfl
section
variable{Qmi}{pos p2:Pos}
theorem X9i{QFj}:Prop:=c≠0/\c≠1/\(∀ {α:Type} (xs:Q7r),Qz6.length<=QPs)/\∀its:LV,Qpv l yy QCL=(Xah its l c).toArray
def X9j{QBj}(L:c<0):X9i l c:=⟨by omega,by omega,λxs=>X4d xs L,λits=>Xwx its l L⟩
def Ycx{lo:Qgr}{st:Expr}{QBj}(hc:X9i l c){QKh}(hl:UUK lo (λ_ S=>.ok Qy5 S))(hh:UUK (yz st) (λ_ S=>.ok (yz Qv8) S)):
  DE X (U00 QxI pos) (λenv S=>Qo.bind λx S=>Xeg l c x S):=by
 intro pc Qyr;dsimp at nb |-;calc Subscript_ (Qss rfl (λd S1 u s1 v H1 ak e1 ae I1 rv rd ai=>?_) λ_ _ z=>z);rw[e1];let cst:∀ {e:Qgr} {o:QDr} {s2:Vc} {H2:Hp} {ab:LR} {Q:VP} {E:VP},UUK e (λ_ S=>.ok o S)->Qwv H2 s2 ab QDx->(∀u s' H' ρ',UND->Xm6 Q7t o u->QIy ab ρ' H2 H'->Q UJB) ->
   Vf QTq QYD Q E s2:=λhe I2 hQ=>by
  exact Vp (he pc _ σ _ _ QDx I2 QT1) QMI λx s' z=>?_;·let⟨o',S2,e,H',ρ',J,sr,st,pr⟩:=z;cases e;exact hQ UJB Qcw (I2.step J sr st) pr st
  ·exact UY6 λ_ _ e _=>?_;cases e
 calc wpAny_Slice (cst hl I1 λvl s2 H2 ab I2 pl ac=>?_);rw[evalPart_none];calc Vd ?_;exact cst hh I2 λvs L H3 ah I3 ps ag=>?_;let P1:Vfr vl l:=Xhn pl (by cases l<;>rfl);let P2:Vfr vs QCL:=Xhn ps rfl;let af:=QjW.mono ag;let J:Qvr H3 Q90:=I3.inv.kept (t':=L.toks) λb ob q=>Qwt q;let fin:∀ {T id:String},UO0=pure Qyc->(Q90:Vc).TypeIs u T ->
   Vf QTq (Vgc u QRK) (OkP QJq ah H3 QHC) (U6E ah H3 QHC) Q90 ->
   Vf QTq (Vf7 a QxI u QRK) (QXt QHC) (QZt QHC) Q90:=λt1 t2 g=>
  tail_any (ops:=[u,.ref L.heap.objs.size]) t2 t1 (Vp g (λ_ _ z=>OkP.pre QaJ z) λ_ _ z=>ExP.pre QaJ z) QaI
 by_cases ht:∃xs,d=UC4;·exact Xd ht λxs aa=>?_;subst aa;simp[RD]at af;exact Xc af λp ws aa hq hr=>?_;subst aa;cases rv;exact Xe QNX λits r ht hz=>?_;let aj:=r.length;calc Qvt ?_;calc Xty hc.1 hc.2.1 (by first|calc hc.2.2.1 _|calc hc.2.2 _) U98 ?_ Q0;calc Xd3 Uj0 (Xwv hr l c);exact⟨Uh (by first|calc hc.2.2.1 ws|calc hc.2.2 ws) hz,_,Xo9 r l c,QD5⟩
 ·rw[X9h λxs z=>ht Qfc]at ae fin |-;cases e4:lsD S1 d with
  |none=>rw[e4]at ae;cases ae rfl|some xs=>rw[e4]at fin;dsimp at fin |-;calc Xc (I3.lsR e4 af) λb ws aa k2 k3=>?_;subst aa;cases rv;calc Xe Q0Z λits r ht hz=>?_;let aj:=r.length;calc Quu ?_;calc Ua6 .none P2 (by intro z;cases z;calc hc.1 rfl) ?_ QeD;rw[hc.2.2.2];calc Xan Uj0 (Xwv k3 l c);calc⟨Uh (hc.2.2.1 ws) hz,_,0,Xo9 r l c,Um3 rfl⟩
def X1o{i:Int}{QTh}(h:mnC i e=yx):UUK QdW (λ_ S=>.ok (yz QgH) S):=by
 cases e with
 |UnaryOp o x p=>
  cases o with
  |USub=>
   cases x with
   |Constant c k q=>
    cases c with
    |int j=>cases eq_of_beq (show QQb=yx from h);calc Xr4 (X1d (fa:=λ_ S=>Un1) d_int)|_=>calc UGG
   |_=>calc UGG
  |_=>calc UGG
 |_=>calc UGG
def Xwy{i:Int}{l:QXr}{QTh}(hi:0<i)(L:UOH)(h:Xo3 i l e=yx):Qjv (U00 UQI) (λenv S=>Qo.bind λx S=>Xeg (l.map (- ·)) (-i) x S):=by
 cases e with
 |Slice Qku st p=>
  let h:(hi.isNone&&st.any λst=>mnC i st&&X8i l lo)=true:=h;rw[bA0]at h;cases hi with
  |some _=>exact ff h.1|none=>
   cases st with
   |none=>exact ff h.2|some st=>
    let h:=h.2;rw[Option.any_some,bA0]at h;calc Ycx (X9j Q0) L ?_ (X1o h.1);cases l with
    |none=>cases lo with
     |none=>calc Xr3|some _=>calc ff h.2
    |some k=>cases lo with
     |none=>calc ff h.2|some x=>calc X1o h.2
 |_=>calc UGG
universe e
universe Z
universe e
section
namespace Z
open PySem PySem.Spec PyProof.Rows L2
section
variable{QUh}{Qro}
def Ycy{QDm}{Qoh}:Qns Q7c (Xkk ng):=by
 intro pc UoE;unfold Xkk at L |-;cases y with
 |ref n=>
  cases x with
  |tup ks=>
   dsimp at L |-;cases e1:UlC with
   |none=>rw[e1]at L;cases L rfl|some kvs=>
    rw[e1]at L;dsimp at L |-;cases e2:UaG with
    |none=>rw[e2]at L;cases L rfl|some r=>calc X8b hu I e1 e2 Qlv
  |_=>cases L rfl
 |_=>cases L rfl
def X9k{QLo}(h:Xkk ng QUs=Uc5):∃r,d=.bl r:=by
 unfold Xkk at h
 repeat' split at h
 all_goals first|(cases h;calc Qd)|cases h
universe e
section
variable{Qrl}{Qkn}{QAj}
structure PF{QMl}:Prop where
 blt:∀x∈blts,Uv8=yy
 fn:∀(f:Nat) nm ar fl,fns[f]?=UhB->QWT->∃g fd ps k,FnD fl QOq Qbs k g fd ps (F f)/\RoomC fl k X.A/\Binds X.K fd ps []/\X.mg nm=UiB/\Vdw X.K Q86=yx/\QW5=ar
 glb:∀(k:Nat) nm,gns[k]?=UkF->∃u d,X.mg nm=QIt/\G[k]?=Um2/\∀ ρ H,∃v,QNr/\RD UG8
 clf:∀(f:Nat) (nm:Str),QDy=yx->∃ar fl,fns[f]?=UhB/\(∀a,U1A nm=yz Q9N->X.mg nm=yz Qe)/\∀xs S,F f xs S≠.bad->QPs=ar
 units:X.A.units+200<Val
 gd:X.A.guards=Up4
 calm:cm=yx->X.calm=yx
 err:ErrOk X.K
def PF.blk(h:UV7)(pc:LA){Q7k}:Qrq (blk QZw s H sc L C own fp):=
 ⟨h.blt,h.fn,h.glb,h.clf,h.units,h.gd,h.calm,h.err⟩
variable{QQm}{QTh}{f g:En->Sto->R D}
def DE.congr{Qek}{Q4j}:Qjv e g:=by let:g=f:=funext λenv=>funext λS=>q QKq;rw[this];calc h
def DT.congr{f g:En->Sto->UZ5}(h:DT X e f){Q4j}:UD9:=by let:g=f:=funext λenv=>funext λS=>q QKq;rw[this];calc h
def Yec(aa:X.N.Nodup){QDk}(is:LN)(es:LX)(h:Us2=yx):QyH/\QI3.length=U3G/\QI3.findIdx? QT=none:=by
 let ab:∀(is:LN) (es:LX),Us2=yx->∃xs:UdH,es=xs.map (λx=>URA)/\Q6S=QPs/\∀(j i:Nat) (x:Str×Pos),is[j]?=yz i->xs[j]?=QJu->X.N[i]?=UsI/\Loc UXI/\Qd7:=by
  intro is;induction is with
  |nil=>
   intro es h;cases es with
   |nil=>calc⟨[],rfl,rfl,λj i x L _=>by simp! at L⟩|cons _ _=>simp![mtT.namesB]at h
  |cons i is ih=>
   intro es h;cases es with
   |nil=>simp![mtT.namesB]at h|cons e es=>
    simp[mtT.namesB,bA0]at h;calc Xa (any_some h.1) λx h1 h2=>?_;calc UfJ λp ac=>?_;subst ac;rw[bA0,decide_eq_true_eq]at h2;calc Xe (ih es h.2) λxs L e2 e3=>?_;calc Xi Q4Q λl1 l2=>?_;calc⟨(x,p)::xs,by rw[L];rfl,by simp![e2],λj i' x' q1 q2=>?_⟩;cases j with
    |zero=>simp! at q1 q2;subst q1 q2;exact⟨h2.1,l1,l2⟩|succ j=>exact e3 j i' x' (by simpa using q1) Qo0
 calc Xe (ab UdE h) λxs L e2 e3=>?_;subst L;let nm:=Xje xs X.env;calc⟨λE=>Xvj (X:=Uj3) is xs aa e2 e3,by rw[nm.1,e2],nm.2⟩
def Yed(L:X.N.Nodup){QDk}(h:mtT top QYw Qh9 tg=yx):∃es k p,tg=Ur1 k p/\QyH/\QI3.length=U3G/\QI3.findIdx? QT=none:=by simp[mtT]at h;calc QJs λes h1 h=>?_;calc Yy Qld λk p aa=>?_;subst aa;calc⟨es,k,p,rfl,Yec L ht UdE h⟩
def dgB(hN:X.N=N){Qbj}(aa:N.Nodup)(hc:X8h t=yw->X.calm=yx){QDk}(h:Ud9=yx):Uu5:=by
 subst hN hs;cases t with
 |var i=>simp[mtT]at h;calc QJs λx h1 h2=>?_;calc UfJ λp L=>?_;subst L;rw[bA0,decide_eq_true_eq]at h2;calc Xi Q4Q λl1 l2=>?_;calc X2v aa h2.1 l1 l2|tup is=>calc X2 (Yed aa ht h) λes k p L q1 q2 q3=>?_;subst L;calc X6x QzJ UcE q3
universe e
def Xr5:∀(es:Exs) (xs:LX),Ur2=yx->∀env S ds S',UDA=Qmx->U4G=QPs
 |.nil,[]=>λ_ env S ds S' h=>by cases (show R.ok [] S=Qmx from h);rfl|.nil,_::_=>λh _ _ _ _ _=>by simp![mts]at h|.cons _ _,[]=>λh _ _ _ _ _=>by simp![mts]at h|.cons e es,x::xs=>λh env S ds S' q=>by
  simp[mts,bA0]at h;let q:(QT0.bind λx S=>Qz5.bind λxs S=>Uz5)=Qmx:=q;cases q1:Q7s with
  |bad=>rw[q1]at q;cases q|ex _ _=>rw[q1]at q;cases q|ok UgE=>
   rw[q1]at q;simp[Rk0]at q;cases L:QNv es Q0u with
   |bad=>rw[L]at q;cases q|ex _ _=>rw[L]at q;cases q|ok aa S2=>rw[L]at q;simp[Rk0]at q;cases q;simp![Xr5 es xs h.2 env S1 aa _ L]
def Xc8:∀(es:Exs) (xs:LX),Ur2=yx->xs.all X9=yx
 |.nil,[]=>λ_=>rfl|.nil,_::_=>λh=>by simp![mts]at h|.cons _ _,[]=>λh=>by simp![mts]at h|.cons e es,x::xs=>λh=>by simp[mts,bA0]at h;rw[Vbe,h.1.1,Xc8 es xs h.2];rfl
def X4f {k:Bl}{QOm}{QNp}{id:String}(h:Xtq k=yz (nm,b,id))(ab:∃o,UCF=Qkq/\o.cls≠Qzq)(aa:X.A.guards=Up4){QCp}{QAo}:nm∈blts/\(if b then Ven nm=yz Q22/\BlR X k Q22 else Ven nm=yz QOa/\BlR X k QOa):=by
 cases k<;>simp[Xtq,Vt,Vga,reduceCtorEq]at h<;>let⟨rfl,rfl,rfl⟩:=h
 case len=>exact⟨by decide,PySem.boot_len,Yb9⟩
 case min=>exact⟨by decide,by decide+kernel,Ycc QzJ⟩
 case max=>exact⟨by decide,by decide+kernel,Ycb QzJ⟩
 case mxl=>exact⟨by decide,by decide+kernel,Ycd QzJ⟩
 case sorted=>exact⟨by decide,by decide+kernel,Xza L⟩
 case all=>exact⟨by decide,by decide+kernel,Yca QzJ⟩
 case tuple=>exact⟨by decide,by decide+kernel,X24⟩
 case list=>exact⟨by decide,by decide+kernel,X67⟩
 case repr=>exact⟨by decide,by decide+kernel,X7g ab aa L⟩
 case itB=>calc⟨by decide,by decide+kernel,Ych⟩
section
variable{QYh}{Qll}{Qxh}
def Yp{Q1m}:Qjv e f/\DT X e QSP:=⟨h,.of h he⟩
def DW.of(h:DT X QmQ g):DW X QmQ g:=λ_=>h
theorem X9l{Qkn}{QMl}(sc2:U2)(N2:LS)(aa:Cx->Prop):Gens->UaH->Prop
 |.cons QGu .nil,gens=>∃tg iter cs,gens=[QKE]/\Xdh iter=yx/\mtT QhL QZs t tg=yx/\DI X Qkv Q0K/\∀Y:Cx,Y.N=N2->Y.env.scope=sc2->aa Y->UnH cs QXT|.cons UhI,gens=>∃tg iter cs ab L ac,gens=[QKE,⟨ab,L,ac,0⟩]/\Xdh iter=yx/\Xdh L=yx/\mtT QhL QZs t tg=yx/\mtT QhL QZs t2 ab=yx/\DI X Qkv Q0K /\
   (∀Y:Cx,Y.N=N2->Y.env.scope=sc2->aa Y->UnH cs QXT)/\(∀Y:Cx,Y.N=N2->Y.env.scope=sc2->aa Y->DI Y ab L (QSr it2))/\∀Y:Cx,Y.N=N2->Y.env.scope=sc2->aa Y->UnH ac (Qlt ifs2)|_,_=>False
set_option genInjectivity false in
structure CompP{QMl}{QPi}(cpos:Pos)(own:LS)(f:En->Sto->R D) where
 tg:Expr
 iter:Expr
 ifs:LX
 t:Tg
 fi:En->Sto->UJH
 tf:En->Sto->UZ5
 body:En->LD->Sto->U3K
 hg:gens=Qw1::gens.tail
 hi:Ue1
 hs:∀x,Qdv=Uw4
 hG:∀pc s H cl C fp,DG QM6 tg t
 hT:∀pc s H cl C fp,DTs QM6 ifs tf
 hB:∀pc s H cl C fp Da,Uv9 QM6 Da Q1r cpos 0 body
 eq:f=Xkr fi t QMO tf body
def Xr6(hN:X.N=N){Qbj}(hp:UV7){QLh}(so:ScOk sc scope N QK2)
  (hg:X9l F G X QgI QdN QrN UNI) (he:∀Y:Cx,Y.N=Xbl N QK2->Y.env.scope=Xit scope sc->Qrq Y->DE Y elt (QNq xe)):
  Nonempty (CompP X Q1r p QK2 (QNq (QZr QK2.length gs xe))):=by
 subst hN hs;let hY:∀pc s H L C fp,Qrq QoE:=λpc s H L C fp=>PF.blk cm F G Qxs hp pc s H scope L C QK2 fp;let aa:∀ {t:Tg} {tg:Expr},mtT (Xdr X.N QAK) (Xit scope X.env.scope) QAK t tg=yx->∀pc s H L C fp,DG QoE tg t:=λh pc s H L C fp=>dgB (top:=Xdr X.N QAK) rfl rfl so.nd (λ_=>hc) (λ_ z=>X3t z) h;match gs,hg with
 |.cons QGu .nil,hg=>exact Xk hg λtg iter cs ac n1 m1 i1 t1=>?_;subst ac;calc⟨⟨tg,iter,cs,t,U9K,UQD,_,rfl,i1,Xf1 n1,aa m1,λpc s H L C fp=>t1 _ rfl rfl QO4,λpc s H L C fp Da=>Xmi rfl QNO,?_⟩⟩;rfl|.cons UhI,hg=>
  let⟨tg,iter,cs,ag,ae,af,rfl,n1,n2,m1,m2,i1,t1,i2,ab⟩:=hg;exact⟨⟨tg,iter,cs,t,U9K,UQD,_,rfl,i1,Xf1 n1,aa m1,λpc s H L C fp=>t1 _ rfl rfl QO4,
   λpc s H L C fp Da=>Xvo LstA.ok hc rfl (i2 _ rfl rfl QO4) (Xf1 n2) (aa m2 pc s H L C fp) (ab _ rfl rfl QO4) (Xmi rfl QNO),?_⟩⟩
  rfl
def Xzr {k:Bl}{es:Exs}{Qil}{ys:LX}{QLk}(ac:X.A.guards=Up4)(ab:X.A.units+200<Val)(hg:UC9){Q6i}{QAo}(h1:blB k x=yx)(o1:Qk=yw)(o3:x ≠ "__name__")(ih:UWK)
  (he:UvJ=(yw,eval y X.env)::Us ys X.env) (aa:(Vdd p (Us ys X.env)).any QT=yw):Qjv (.Call (Us1 p0) UjI p) (QNq QDZ):=by
 unfold blB at h1;cases q:Xtq k with
 |none=>rw[q]at h1;cases h1|some z=>
  let⟨nm,b,id⟩:=z;rw[q]at h1;dsimp at h1;let e1:x=nm:=Ux4;subst e1;calc Xi (X4f q ae ac ab hc) λm1 L=>?_;cases b with
  |true=>rw[iP0 rfl]at L;calc(X7d Uw1).congr λ_ _=>rfl|false=>rw[iN0 Ue]at L;calc(X7e Uw1).congr λ_ _=>rfl
def in1_units{QQm}(h:X.A.units+200<Val):X.A.in1.units+64<Val:=by let:X.A.in1.units<=X.A.units+1:=UX0;omega
def Xzs{Qzn}(h1:mtB k nm=yx)(h2:Xgq ox=yx)(h3:Qy6=yx)(h4:Q31.length<29)(io:Qjv ox (QNq o))(ih:UWK)(st:Q31.all X9=yx):
  DE X (U38) (QNq Q3W):=by
 let L:((Vdd cp (UvJ)).all QnG&&(backToKw cp QlK).all QIP&&decide (Q31.length+QA5.length+(if QA5.isEmpty then 0 else 1)<30))=true:=by
  rw[Xzi st];let:Q31.length+QA5.length+(if QA5.isEmpty then 0 else 1)<30:=by simp[Vfd,List.isEmpty_nil,if_true];omega
  rw[decide_eq_true this];rfl
 rw[Vbe,bA0]at st;let aa:∀ {m:Mt} (x:D) (S:Sto),Xb5 m x S=yx->∃n xs,x=Uw5/\lstAt S n=QLu:=λ{m} x S h=>by
  cases x with
  |ref n=>let h':QV5.isSome=true:=h;exact Xd (Vep.mp h') λxs e=>?_;exact⟨n,xs,rfl,e⟩|_=>cases h
 cases k with
 |append=>let e1:nm="append":=Ux4;subst e1;calc(Xji (m:=.append) (id:="list.append") PySem.F.slot_list_append PySem.F.type_list_append Xyl Qqs).congr λ_ _=>rfl|xtd=>let e1:nm="extend":=Ux4;subst e1;calc(Xji (m:=.xtd) (id:="list.extend") PySem.F.slot_list_extend PySem.F.type_list_extend Yce Qqs).congr λ_ _=>rfl|count=>let e1:nm="count":=Ux4;subst e1;calc(Xji (m:=.count) (id:="list.count") PySem.F.slot_list_count PySem.F.type_list_count (X3s hu) Qqs).congr λ_ _=>rfl|index=>let e1:nm="index":=Ux4;subst e1;calc(Xji (m:=.index) (id:="list.index") Vg8 PySem.F.type_list_index X26 Qqs).congr λ_ _=>rfl
def Xzt {QSo}{Q6i}{Qbo}(hg:Gl X nm)(hok:Xal nm=yx)(ht:Ut6=yx){QKh}(L:X9 a=yx):
  DE UYI:=by
 cases t with
 |cls c=>calc Xwt er (.inl ⟨c,rfl,Uq2⟩) hb QIs|valueError=>calc Xwt er (.inr ⟨rfl,Uq2⟩) hb QIs|int=>let e:=Uq2;subst e;calc Xfc (t:=.int) rfl hb QIs|bool=>let e:=Uq2;subst e;calc Xfc (t:=.bool) rfl hb QIs|str=>let e:=Uq2;subst e;calc Xfc (t:=.str) rfl hb QIs|tuple=>let e:=Uq2;subst e;calc Xfc (t:=.tuple) rfl hb QIs|list=>let e:=Uq2;subst e;calc Xfc (t:=.list) rfl hb QIs|dict=>let e:=Uq2;subst e;calc Xfc (t:=.dict) rfl hb QIs
def X1p(L:Xo1 t=yx)(h:Ut6=yx):∃T,Xcw t=UcB:=by
 cases t with
 |cls c=>cases L|valueError=>cases L|_=>let e:=U1G;subst e;calc Qd
def X4g {QSo}{Q6i}{Qbj}{Qbo}(ht:Us6=yx){QKh}(L:X9 a=yx):
  DE X (UbE [a,y] Uf2) (λenv S=>Qo.bind λx S=>match QPL.bind λk=>Xau k ts with|some r=>UVH|none=>.bad):=by
 rcases X9c ht with⟨t,nm,p,rfl,rfl,h1,h2,h3⟩|⟨t1,t2,n1,n2,p1,p2,k,p,rfl,rfl,h1,h2,h3,h4,h5,h6,h7,h8⟩;·exact Xzt er hb aa QhN h2 h3 ha L
 ·exact Xd (X1p h5 h7) λT1 q1=>?_;exact Xd (X1p h6 h8) λT2 q2=>?_;exact X9g UcE hb aa QhN QeY h2 h4 ha L
set_option maxHeartbeats 0 in
def X9m{Qgj}(h:Xzj d c=yx):Qjv (UZE) (QNq QBW):=by
 cases d with
 |int i=>cases c with
  |int j=>cases eq_of_beq (show QQb=yx from h);calc d_int.congr λ_ _=>rfl|_=>cases h
 |bl i=>cases c with
  |bool j=>cases eq_of_beq (show QQb=yx from h);calc d_bl.congr λ_ _=>rfl|_=>cases h
 |non=>cases c with
  |none=>calc d_non.congr λ_ _=>rfl|_=>cases h
 |str i=>cases c with
  |str j=>cases oD0 (show decide (i=j)=yx from h);calc d_str.congr λ_ _=>rfl|_=>cases h
 |_=>cases h
mutual
def snd:∀(x:Ex) (X:Cx) (sc:U2) (N:LS) (e:Expr),X.N=N->X.env.scope=sc->UV7->Q0s x e=yx->Qjv e (QNq x)/\DT X e (λenv S=>tst (QNq x QKq))
 |.nev=>λX sc N e hN hs L h=>⟨λ_ _ _ _ _ _ _ _ nb=>aB0 rfl nb,λ_ _ _ _ _ _ _ _ nb=>aB0 rfl nb⟩|.var i=>λX sc N e hN hs L h=>by exact Xx (X8s h) λx p aa h1 h2 h3=>?_;subst aa;subst hN hs;exact UcJ λo1 o2 _=>?_;exact Yp ((X02 h1 (Xrw h2) o1 o2).congr λ_ _=>rfl) λ_=>rfl|.cst d=>λX sc N e hN hs L h=>by exact Yd (X8t h) λc k p aa h=>?_;subst aa;exact Yp (X9m h) λ_=>rfl|.neg a=>λX sc N e hN hs L h=>by exact Xf (X8u h) λx p aa h=>?_;subst aa;exact Yp ((X1d (QBs h).1).congr λ_ _=>rfl) λ_=>rfl|.glb k=>λX sc N e hN hs L h=>by exact Xx (X8w h) λx p aa h1 h2 h3=>?_;subst aa;exact UcJ λo1 o2 _=>?_;exact Xc (L.glb k x h1) λu d q1 q2 q3=>?_;exact Yp ((Ycg Qb6 q1 q3 o1).congr λenv S=>by show(match G[k]? with|some d=>UIH|none=>.bad)=_;rw[q2]) λ_=>rfl|.tup es=>λX sc N e hN hs L h=>by exact Yd (X8x h) λxs k p aa h=>?_;subst aa;exact Yp ((Ybo QpF).congr λ_ _=>rfl) λ_=>rfl|.lst es=>λX sc N e hN hs L h=>by exact Xf (X8y h) λxs p aa h=>?_;subst aa;exact Yp ((Ybp QpF).congr λ_ _=>rfl) λ_=>rfl|.dct0=>λX sc N e hN hs L h=>by exact Xd (X34 h) λp aa=>?_;subst aa;exact Yp (d_dct0.congr λ_ _=>rfl) λ_=>rfl|.bin Ue4=>λX sc N e hN hs L h=>by exact Y6 (X8z h) λx y p aa h1 h2=>?_;subst aa;exact Yp ((Ybq (Yb4 op) QvG.1 (QJx).1).congr λ_ _=>rfl) λ_=>rfl|.cmp Ue4=>λX sc N e hN hs L h=>by exact X2 (Xo6 h) λx y p aa h1 h2 h3=>?_;subst aa;let ha:=Qc1.1;let hb:=Qa4.1;exact⟨(Ybr QGR UN4 h1).congr λ_ _=>rfl,(X6h QGR UN4 h1).congr λ_ _=>rfl⟩|.chn UdA=>λX sc N e hN hs L h=>by let⟨x,y,z,p,rfl,h1,h2,h3,h4⟩:=X80 h;let ha:=Qc1.1;let hb:=Qa4.1;let hc:=(Uv4 z Q9r h4).1;exact⟨(Ycf UpE).congr λ_ _=>rfl,(X7c UpE).congr λ_ _=>rfl⟩|.and a b=>λX sc N e hN hs L h=>by
  rcases X81 h with⟨x,y,p,rfl,h1,h2⟩|⟨x,y,z,r,p,rfl,h1,h2⟩;·let ha:=UEK;let hb:=QJx;exact⟨(X03 ha.1 Q1a).congr λ_ _=>rfl,((Xu5 ha.2 (X2l hb.2)).dt).congr λ_ _=>rfl⟩
  ·let ha:=UEK;let hb:=UuB QnM UiI;exact⟨(X03 ULI).congr λ_ _=>rfl,((Xu5 ha.2 QVa).dt).congr λ_ _=>rfl⟩|.or a b=>λX sc N e hN hs L h=>by
  rcases Ycu h with⟨x,y,p,rfl,h1,h2⟩|⟨x,y,z,r,p,rfl,h1,h2⟩;·let ha:=UEK;let hb:=QJx;exact⟨(X6i ha.1 Q1a).congr λ_ _=>rfl,((X05 ha.2 (X6k hb.2)).dt).congr λ_ _=>rfl⟩
  ·let ha:=UEK;let hb:=UuB Q4O UiI;exact⟨(X6i ULI).congr λ_ _=>rfl,((X05 ha.2 QVa).dt).congr λ_ _=>rfl⟩|.not a=>λX sc N e hN hs L h=>by exact Xf (X8v h) λx p aa h=>?_;subst aa;let ha:=QBs h;exact⟨(Ybs ha.2 ha.1).congr λ_ _=>rfl,(X6j ha.2).congr λ_ _=>rfl⟩|.ite UhE=>λX sc N e hN hs L h=>by exact Xbn (X82 h) λx y z p aa h1 h2 h3=>?_;subst aa;let hc:=Uv4 x Q9r h1;let ha:=UvB y UiI;let hb:=UuB z Q9r h3;exact⟨(Ybt hc.2 ULI).congr λ_ _=>rfl,(X7b hc.2 ha.2 hb.2).congr λ_ _=>rfl⟩|.idx a i=>λX sc N e hN hs L h=>by exact X2 (X83 h) λx y p aa h1 h2 h3=>?_;subst aa;exact Yp ((Yb6 (Xto h1) Qc1.1 (snd i Qoq y Q9r h3).1).congr λ_ _=>rfl) λ_=>rfl|.sli a Qku=>λX sc N e hN hs L h=>by let⟨x,l,u,p2,p,rfl,h1,h2,h3⟩:=X9d h;exact Yp ((X1n QvG.1 (sndo lo Qoq l UiI) (sndo hi Qoq u Q9r h3)).congr λ_ _=>rfl) λ_=>rfl|.rev a=>λX sc N e hN hs L h=>by exact Y6 (X9e h) λx y p aa h1 h2=>?_;subst aa;exact Yp ((Xwy Q2 Qc1.1 h1).congr λenv S=>congrArg (R.bind _) (funext λx=>funext λS=>(Xpd x S).symm)) λ_=>rfl|.isi a ts=>λX sc N e hN hs L h=>by let⟨p0,x,y,cp,rfl,h1,h2,h3,h4⟩:=X9b h;let ih:=(QBs h3).1;exact Yp ((X4g L.err L.blt hs QhN h4 ih h2).congr λ_ _=>rfl) λ_=>rfl|.call f es=>λX sc N e hN hs L h=>by let⟨x,p0,y,ys,p,rfl,h1,h2,h3,h4⟩:=X35 h;exact UcJ λo1 o2 _=>?_;exact Xa h1 λfl h1 ac=>?_;exact Xai (L.fn f x _ fl h1 ac) λg fd ps k c1 c2 c3 c4 c5 c6=>?_;let st:=QEy h4;rw[Vbe,bA0]at st;exact Yp ((X6p c1 c2 c3 Qb6 c4 c5 (Qmw h4) (λenv S ds S' q=>by rw[c6];calc Xr5 es Q31 h4 QKq ds S' q) o1 Qb9 Qo7).congr λ_ _=>rfl) λ_=>rfl|.blt k es=>λX sc N e hN hs L h=>by exact X8 (X88 h) λx p0 y ys p aa h1 hq h2 h3 h4=>?_;subst aa;exact UcJ λo1 o2 o3=>?_;let st:=QEy h4;rw[Vbe,bA0]at st;let ih:=Qmw h4;exact Yp (Xzr L.err.sm L.gd L.units Qb6 L.blt (λz=>L.calm (by rw[z,Bool.or_false]at hq;calc hq)) h1 o1 o3 ih Qb9 Qo7) λ_=>rfl|.mth k o es=>λX sc N e hN hs L h=>by let⟨ox,nm,ap,y,ys,cp,rfl,h1,h2,h3,h4,h5,h6⟩:=X89 h;let st:=QEy h6;let ih:=Qmw h6;let io:=(snd o Qoq ox Q9r h5).1;exact Yp (Xzs (by let:=L.units;calc in1_units this) Q8s io ih st) λ_=>rfl|.sst a=>λX sc N e hN hs L h=>by exact X8 (X84 h) λp p2 x cp ae aa h1 h2 h3 h4 h5=>?_;subst aa;let ih:=(QBs h5).1;exact Yp ((Ycj Qvx QeY QXF ih (Xv h4)).congr λ_ _=>rfl) λ_=>rfl|.idc Uf4=>λX sc N e hN hs L h=>by exact X2 (X86 h) λx y p aa h1 h2 h3=>?_;subst aa;let ha:=Qc1.1;let hb:=Qa4.1;let ho:=Ycy UsA;exact⟨UVK λ_ _=>rfl,(Xkn X9k ho UN4 h1).congr λ_ _=>rfl⟩|.stl a=>λX sc N e hN hs L h=>by exact Xk (X85 h) λp x cp aa h1 h2 h3 h4=>?_;subst aa;let ih:=QuG.1;exact Yp ((Yck Qvx ih QMf).congr λ_ _=>rfl) λ_=>rfl|.pop0 a=>λX sc N e hN hs L h=>by exact X2 (X36 h) λox ap cp aa h1 h2 h3=>?_;subst aa;exact Yp ((X7f (UvB ox Q9r h3).1 (Xfb h1) h2).congr λ_ _=>rfl) λ_=>rfl|.srs a=>λX sc N e hN hs L h=>by exact Xk (X9a h) λp x cp aa h1 h2 h3 h4=>?_;subst aa;let ih:=QuG.1;exact Yp ((Ycm Qvx ih QMf).congr λ_ _=>rfl) λ_=>rfl|.frz a=>λX sc N e hN hs L h=>by exact Xi (Xjr h) λh1 h2=>?_;exact Yp ((UvB e UiI).1.frz.congr λ_ _=>rfl) λw=>X8r h1.2 _ w|.ist Uf4=>λX sc N e hN hs L h=>by exact X2 (X87 h) λx y p aa h1 h2 h3=>?_;subst aa;let ha:=Qc1.1;let hb:=Qa4.1;let ho:=Ycl UsA;exact⟨UVK λ_ _=>rfl,(Xkn X8d ho UN4 h1).congr λ_ _=>rfl⟩|.cmr Ug4=>λX sc N e hN hs L h=>by exact Ye (Xwq h) λee gens scope p aa h0 h1 h2 h3 h4 h5=>?_;subst aa;subst h1 h2;let so:=Xwo h3;let ab:=L.calm h0;let⟨c⟩:=Xr6 (p:=p) Q9r ab so (sndg gs Qoq _ _ gens Q9r h4) (λY y1 y2 y3=>(UT6 h5).1);subst hN hs;exact Yp ?_ λ_=>rfl;rw[c.eq];exact X66 ab so rfl c.hg Uj4
def sndo:∀(o:Op) (X:Cx) (sc:U2) (N:LS) (x:Qgr),X.N=N->X.env.scope=sc->UV7->Uz6 o x=yx->UUK x (U47 o)
 |.none=>λX sc N x hN hs L h=>by
  cases x with
  |none=>let:U47 .none=λ_ S=>UrH:=rfl;rw[this];calc Xr3|some _=>cases h
 |.some e=>λX sc N x hN hs L h=>by
  cases x with
  |none=>cases h|some x=>let h':Q0s e x=true:=h;let:U47 Q1T=λenv S=>QT0.bind λx S=>URE:=rfl;rw[this];exact Xr4 (Q4u x Q9r h').1
def snds:∀(es:Exs) (X:Cx) (sc:U2) (N:LS) (xs:LX),X.N=N->X.env.scope=sc->UV7->Ur2=yx->DA X xs QWL
 |.nil,X,sc,N,[]=>λhN hs L h=>by let:QNv .nil=λ_ S=>UI9:=rfl;rw[this];exact X6g|.cons e es,X,sc,N,x::xs=>λhN hs L h=>by simp[mts,bA0]at h;let:QNv QbF=λenv S=>QT0.bind λx S=>Qz5.bind λxs S=>Uz5:=rfl;rw[this];exact X2k QHF.1 (snds UfE) (Xv h.1.1)|.nil,X,sc,N,_::_=>λhN hs L h=>by simp![mts]at h|.cons _ _,X,sc,N,[]=>λhN hs L h=>by simp![mts]at h
def Xtz:∀(es:Exs) (X:Cx) (sc:U2) (N:LS) (xs:LX),X.N=N->X.env.scope=sc->UV7->Ur2=yx->DTs X xs (Qlt es)
 |.nil,X,sc,N,[]=>λhN hs L h=>by let:Qlt .nil=λ_ S=>UsH:=rfl;rw[this];exact X2z|.cons e es,X,sc,N,x::xs=>λhN hs L h=>by
  simp[mts,bA0]at h;let:Qlt QbF=λenv S=>QT0.bind λx S=>match X6 S x with|some yx=>Qlt es QKq|some yw=>UtH|none=>.bad:=rfl
  rw[this];exact Xyk QHF.2 (Xtz UfE)|.nil,X,sc,N,_::_=>λhN hs L h=>by simp![mts]at h|.cons _ _,X,sc,N,[]=>λhN hs L h=>by simp![mts]at h
def Xt0:∀(it:It) (X:Cx) (sc:U2) (N:LS) (tg x:Expr),X.N=N->X.env.scope=sc->UV7->(Xtt it=yx->∃es k p,tg=Ur1 k p)->U3C it x=yx->DI X tg x Q0K
 |.val e=>λX sc N tg x hN hs hp _ h=>by
  simp[mtI]at h;let:QSr QuV=λenv S=>QT0.bind λx S=>match Xaa S x with|some r=>UD4|none=>.bad:=rfl
  rw[this];exact X6y (Q4u x hN hs hp h).1|.rng es=>λX sc N tg x hN hs hp _ h=>by
  exact Xdd (X38 h) λp0 y ys p L h2 h3=>?_;subst L;let st:=QEy h3;rw[Vbe,bA0]at st;let:QSr Q2T=λenv S=>Qz5.bind λxs S=>match Xc3 xs with|some ds=>Ux5|none=>.bad:=rfl
  rw[this];exact X6z UjA|.zpp es=>λX sc N tg x hN hs hp ht h=>by
  calc Xdd (X37 h) λp0 y ys p L h2 h3=>?_;subst L;calc Xuy (ht rfl) λts k tp L=>?_;subst L;let st:=QEy h3;rw[Vbe,bA0]at st;let:QSr QMc=λenv S=>Qz5.bind λxs S=>match xs with
   |Qt7=>match Xaa S x,Xaa S y with
    |some s,yz t=>UME|_,_=>.bad
   |_=>.bad:=rfl
  rw[this];exact X62 UjA
def sndg:∀(gs:Gens) (X:Cx) (sc:U2) (N:LS) (sc2:U2) (N2:LS) (gens:UaH),X.N=N->X.env.scope=sc->UV7->Qnw UNI=yx->X9l F G X QZs QrN UNI
 |.nil=>λX sc N sc2 N2 gens hN hs hp h=>(Ycq h).elim|.cons QGu .nil=>λX sc N sc2 N2 gens hN hs hp h=>by exact Xbf (Ycr h) λtg iter cs af h2 h3 h4 h5 h6=>?_;subst af;exact⟨tg,iter,cs,rfl,h2,hN▸h3,UyJ QVY h4,λY y1 y2 y3=>UW6 h5⟩|.cons UhI=>λX sc N sc2 N2 gens hN hs hp h=>by let⟨tg,iter,cs,ab,L,aa,rfl,h3,h4,h5,h6,h7,h8,h9,ac,ag,ae⟩:=Ycs h;exact⟨tg,iter,cs,ab,L,aa,rfl,h3,h4,hN▸h5,hN▸h8,UyJ (Xjs ag h5) h6,λY y1 y2 y3=>UW6 h7,λY y1 y2 y3=>Xt0 it2 Y QZs ab L U62 (Xjs ae h8) h9,λY y1 y2 y3=>Xtz ifs2 Y QZs aa U62 ac⟩|.cons QGu (.cons Ua2 (.cons Q5s))=>λX sc N sc2 N2 gens hN hs hp h=>(Yct h).elim
end
variable{QUh}{a b c e tg:Expr}{f fc:En->Sto->R D}{Q4l}
def X9n{QEk}(hg:Uu5)(hs:Vc9 [tg] e QUt=Q6y)(hw:Vda [tg] UgA=Up0)(h1:(Vb8 [tg] X.env).map QK1=[assign tg X.env]):
  DS X (.Assign [tg] UQI) yw (λenv S=>Qv.bind λx S=>match X3 t x env with|some env=>QLr|none=>.bad):=by
 intro pc Qyr;dsimp at nb |-;cases q:Q8u with
 |bad=>rw[q]at nb;cases nb rfl|ex QVw=>exact Vgf QP2 hs hw|ok UgE=>
  rw[q]at nb;simp[Rk0]at nb |-;cases q2:Uy9 with
  |none=>rw[q2]at nb;cases nb rfl|some L=>calc Vgf QQA hs hw;rw[h1];calc hg pc s' σ Qcw QDx d v u L _ _ J q2 Qby λs2 aa I2=>⟨.nx L,S1,rfl,rfl,aa,H',ρ',I2,st,λz=>nomatch z⟩
def X4h{kt k2 pt2}{QLh}{Qhh}(hj:X.N[j]?=UR6)(aa:i≠j)
  (hx:QNu=Q2r) (hy:X.env.scope.names.lookup y=Q2r) (ha:DA X QLU ga)
  (hw:Vda Q75 QdB X.env=pure (yz Qt7))
  (hs:Vc9 Q75 QdB QUt=Q6y):
  DS X (.Assign Q75 QdB pos) yw (λenv S=>QqZ.bind λxs S=>if [i,j].length=QPs then .ok (.nx (([i,j].zip xs).foldl Qb0 env)) S else .bad):=by
 intro pc Qks;dsimp at L |-;rw[exec_Assign_arm];calc Va (Veb ?_);rw[hs];calc QMt;rw[iN0 Q2];cases q:ga QKq with
 |bad=>rw[q]at L;cases L rfl|ex QVw=>exact Va (Tuple_ (U45 λx s' z=>QEu rfl))|ok UB8=>
  rw[q]at L;simp[Rk0]at L |-;split at L
  ·rename_i hl;rw[iP0 hl];obtain⟨d1,d2,rfl⟩:∃d1 d2,ds=[d1,d2]:=by
    match ds,hl with
    |[d1,d2],_=>exact⟨d1,d2,rfl⟩
   calc Va (Tuple_ (QOx λus s1 vs H1 ak I1 af ae ab=>?_));exact Xc ae.two λv w ai ac ah=>?_;subst ai;obtain⟨u1,u2,rfl,rv,ag⟩:∃u1 u2,us=[u1,u2]/\RelV v u1/\RelV w u2:=by
    cases af with
    |cons p q=>
     cases q with
     |cons p' q'=>cases q';exact QtQ
   calc Vad ?_ (by show 2<=V6;decide);let I2:U5K {s1 with heap:=s1.heap.push {cls:=Qpq,data:=.seq [u1,u2].toArray} }:=Qhu λb o e=>Qyw;rw[hw];calc QMt;show Q4s (do rule "assign.swapped-stores";let items <- unpackItems QTJ 2 yy;assignInOrder Qz8 items.reverse;pure Flow.next) QLq;calc Va (Vb0 (Va (unpackItems_tuple (items:=#[u1,u2]) QJ7 (IsTup.new s1.heap _) λh' aj=>?_)));let I3:=I2.kept (h':=h') (t':=s1.toks) λb o e=>aj URI;show QXq (assignInOrder Qz8 [u2,u1] >>= λ_=>pure Flow.next) QLq;calc Va (Ve5 (wpAny_bindName (Xc2 I3 hN hj (.inl hy) ag (λs2 I4=>?_) QXc)));calc Ve5 (wpAny_bindName (Xc2 I4 hN hi Qac rv (λs3 I5=>Vjb Q70) QYc));rw[List.set_comm _ _ (Ne.symm aa)]at I5;exact⟨.nx ((QQx (yz d1)).set j (yz d2)),S1,rfl,rfl,_,H1,ak,⟨I5,I1.sr,(I1.er.set i ac).set j ah⟩,ab,λz=>nomatch z⟩
  cases L rfl
def Xwz{Qoh}{Qzg}(L:Um9≠.bad){Qdh}{Q6h}
  (hQ:∀S' s' H',Um9=U06 S'->Ua5 S' env->QCs H'->UU1):Q4s QYP Q Ev s:=by
 unfold Yn at L hQ;cases x with
 |ref n=>dsimp at L hQ;cases y with
  |tup ks=>
   dsimp at L hQ;cases e1:Xge S n with
   |none=>rw[e1]at L;cases L rfl|some kvs=>
    cases e2:UaG with
    |none=>rw[e1,e2]at L;cases L rfl|some r=>
     rw[e1,e2]at L hQ;dsimp at L hQ;split at L;·rename_i hz;rw[iP0 hz]at hQ;exact X6w hu I e1 e2 hz rx qx ry qy Qby λs' H' J st=>Ut2 s' H' rfl J st
     ·cases L rfl
  |int k=>
   dsimp at L hQ;cases e:QAy with
   |none=>rw[e]at L;cases L rfl|some xs=>
    rw[e]at L hQ;dsimp at L hQ;cases e2:Ul8 k with
    |none=>rw[e2]at L;cases L rfl|some j=>
     rw[e2]at hQ;exact Xx QlV λa ws aa ha hv hr=>?_;subst aa;simp[RD]at ry;subst ry;let hl:L2.ixN ws.length k=UX9:=by rw[<-hr.length];exact e2
     exact thn (Xx1 (X:=X.wish Ev) Qiq Qe QcG v ux uy u (λH'=>H'=Ud7 Q0O) (I.inv.wish Ev) qx qy rv ⟨a,ws,k,j,rfl,rfl,hv,hl,rfl⟩) λ_ s' ⟨H',J,e3⟩=>?_;subst e3;let nf:∀o u,H a≠QWu:=λo u z=>by rw[hv]at z;cases z
     let st:QCs (Ud7 Q0O):=QKt (o:=.lst (xs.set j d)) UM0;calc Ut2 s' _ rfl ⟨J.unwish,Qiu ⟨ws.set j v,Xp,(hr.set rd j).mono st⟩,Up5⟩ st
  |_=>cases L rfl
 |_=>cases L rfl
variable{o i:Expr}{fo fi:En->Sto->R D}{spos:Pos}
def Xpe{env:Vbs}(h:Xao i=yx)(v:Vb):assign QeB env v=(do
   let ov <- Vd4 [v] QyW
   let iv <- Vd4 [v,ov] (eval i env)
   standAt spos
   Vd4 Qde (Uo2 iv v)
   release Qde []):=by
 cases i<;>first|rfl|cases h
def Xk8{r:UQ2}{k:Sto->UQ2}{u:Vb}{v:V}{d:D}{Q:Unit->Vc->Prop}{Ev:VP}{Qoh}{Q5j}{Q6p}{Qzg}{Q6h}
  (hr:r=Ql7.bind λx S=>QY6.bind λy S=>(Um9).bind λ_ S=>k S) (nb:r≠.bad)
  (hQ:∀S' s' H' ρ',r=k S'->QLy->QSv->UU1) (hE:∀x s',QMy->Ev Uk6):Q4s (assign QeB X.env u) Q Ev s:=by
 rw[Xpe hA];calc Va (Ul (ho.bind I (hr▸nb) hr (λx S2 ux s2 vx H2 ak e2 ai I2 aj ab L=>?_) hE));calc Va (Ul (hi.bind I2 ai e2 (λy S3 uy s3 vy H3 ac e3 ae I3 ah af aa=>?_) λx s' z=>QWt (z.pre L)));calc Va (Veb (Va (Ul (Xwz hu I3 (λz=>ae Qi2) (ab.mono aa) aj af ah ((rd.mono L).mono aa) rv λS4 s4 H4 e4 I4 ag=>?_))));calc wpAny_release (hQ S4 s4 H4 ac (by rw[e3,e4];rfl) I4 (L.trans (aa.trans ag)))
def X4i{Qoh}{QEk}{Q5j}(hs:Vc9 QvB e QUt=Q6y)(hw:Vda QvB UgA=Up0){Q6p}:
  DS X (.Assign QvB UQI) yx (λenv S=>Qv.bind λv S=>Ql7.bind λx S=>QY6.bind λy S=>Qq8.bind λ_ S=>QLr):=by
 intro pc Qyr;dsimp at nb |-;generalize hr:Qv.bind (λv S=>Ql7.bind λx S=>QY6.bind λy S=>Qq8.bind λ_ S=>R.ok Q2Z S)=r at nb |-;calc Vgf (U17 (λd S1 u s1 v H1 ae e1 ac I1 rv rd L=>?_) λx s' QD6=>QEu e2) hs hw;calc Xk8 hu ho hi hA I1 Qby e1 nb (λS4 s4 H4 aa e4 I4 ab=>⟨UTE,S4,e4,rfl,σ,H4,aa,I4,L.trans ab,λ_=>rfl⟩) λx s' QD6=>.of L z e2
def X9o{o2 i2:Expr}{ae L:En->Sto->R D}{af pt:Pos}{kt:Nat}{QLh}{Qoh}{QEk}{Q5j}(aj:Qjv o2 ae)(hi2:Qjv i2 L)(hs:Vc9 QH2 e QUt=Q6y)(hw:Vda QH2 UgA=Up0){Q6p}(hB:Xao i2=yx):
  DS X (.Assign QH2 UQI) yx (λenv S=>Qv.bind λv S=>match Xmy v with
   |some z=>Ql7.bind λx S=>QY6.bind λy S=>QeT.bind λ_ S=>QuZ.bind λx S=>QKc.bind λy S=>QeI.bind λ_ S=>QLr
   |none=>.bad):=by
 intro pc Qyr;dsimp at nb |-;generalize hr:Qv.bind _=r at nb |-;calc Vgf (U17 (λd S1 u s1 v H1 ao e1 ag I1 rv rd aa=>?_) λx s' QD6=>QEu e2) hs hw;cases w1:Xmy d with
 |none=>rw[w1]at ag;cases ag rfl|some z=>
  rw[w1]at e1;dsimp at e1;let ed:=Xx3 w1;subst ed;simp[RD]at rd;exact UF7 λa vs ac hq hv=>?_;subst ac;exact Xc hv.two λv1 v2 ac ai am=>?_;subst ac;cases rv;let⟨its,al,ht,_⟩:=I1.inv.tuple hq;obtain⟨u1,u2,rfl,ak,an⟩:∃u1 u2,its=[u1,u2]/\RelV v1 u1/\RelV v2 u2:=by
   cases al with
   |cons p q=>
    cases q with
    |cons p' q'=>cases q';exact QtQ
  calc assign_Tuple_tuple (x1:=kt) QJ7 ht rfl rfl λh' aq=>?_;let I2:Qwv H1 QEP ao QDx:=⟨Qhu λb o e=>aq URI,I1.sr,I1.er⟩;calc Ve5 (Xk8 (k:=λS=>QuZ.bind λx S=>QKc.bind λy S=>QeI.bind λ_ S=>QLr) hu ho hi hA I2 ai ak e1 nb (λS4 s4 H4 ar e4 I4 ab=>?_) λx s' QD6=>.of aa z e2);calc Ve5 (Xk8 hu aj hi2 hB I4 (am.mono ab) an e4 nb (λS5 s5 H5 ap e5 I5 ah=>?_) λx s' QD6=>.of (aa.trans ab) z e2);calc Vjb ⟨UTE,S5,e5,rfl,σ,H5,ap,I5,aa.trans (ab.trans ah),λ_=>rfl⟩
def Ycz{Qzg}(nb:Xkj QUw≠.bad){Qdh}:
  Vf QTq (inplaceOp QNG ux uy) (QXt (Xkj QUw)) Ev s:=by
 cases x with
 |int i=>
  cases y with
  |int j=>
   simp[RD]at rx ry;subst rx ry;calc Xd qx λt L=>?_;subst L;calc Xd qy λt' L=>?_;subst L;cases op with
   |add=>exact iadd_int Q13|sub=>exact isub_int Q13|mul=>
    by_cases hm:UG7=yx;·rw[show Xkj .mul Q91 Q02 S=.ok QaF S from iP0 hm];exact imul_int Q13 (Xn6 hm)
    ·calc aB0 (iN0 hm) nb|_=>cases nb rfl
  |_=>cases nb rfl
 |_=>cases nb rfl
def X9p{Qok}{Qcp}:
  DS X (.While c body Uf2) yw (λenv S=>Xcr QW0 g 100000 QKq):=by
 intro pc Qyr;dsimp at nb |-;let hp:PassesOwn UH8 Qt:=PassesOwn.never;generalize hn:100000=n0 at nb |-;generalize ag:Xcr QW0 g n0 QKq=r0 at nb |-;calc QQw (wpAny_While (codeAny_whileLoop (λn s'=>∃ ah H' ρ' S' ae,S0 QZw ah QCr S' ae/\Stp QSq/\Xcr QW0 g n ae S'≠.bad/\Xcr QW0 g n ae S'=r0) ?_ n0 ⟨σ,H,ρ,S,env,I,.refl,by rw[ag];calc nb,ag⟩)) Q1B λ_ _ z=>z.elim;rintro n s3 ⟨σ3,H3,ρ3,S3,env3,I3,st3,nb3,eq3⟩;cases n with
 |zero=>cases nb3 rfl|succ n=>
  simp[Xcr]at nb3 eq3;cases e4:tst (fc env3 S3) with
  |bad=>rw[e4]at nb3;cases nb3 rfl|ex m S4=>rw[e4]at nb3;cases nb3 rfl|ok t S4=>
   calc UR8 (hc.ok I3 e4 λs4 H4 ai I4 af=>?_);rw[e4]at nb3 eq3;cases t with
   |false=>rw[iN0 Ue];exact Vh4 ⟨.nx env3,S4,eq3.symm,rfl,σ3,H4,ai,I4,st3.trans af,λz=>nomatch z⟩|true=>
    rw[iP0 rfl];dsimp at nb3 eq3;cases e5:g env3 S4 with
    |bad=>rw[e5]at nb3;cases nb3 rfl|ex m S5=>rw[e5]at nb3;cases nb3 rfl|ok x5 S5=>
     rw[e5]at nb3 eq3;calc UR8 (hb.ok I4 e5 λfl s5 z5=>?_);cases x5 with
     |nx e=>calc Xa6 z5 λab aa H5 ac I5 L _=>?_;subst ab;calc QP6|cnt e=>calc Xax z5 λab aa H5 ac I5 L=>?_;subst ab;calc QP6|brk e=>calc Xax z5 λab aa H5 ac I5 L=>?_;subst ab;calc⟨.nx e,S5,eq3.symm,rfl,aa,H5,ac,I5,UtF,λz=>nomatch z⟩|rt d=>calc X8 z5 λu v aa H5 ac ab J5 aj al ak L=>?_;subst ab;calc⟨.rt d,S5,eq3.symm,u,v,aa,H5,ac,rfl,J5,aj,al,ak,UtF⟩
def Yc0{Qzg}(L:Xgc QUs≠.bad){Qdh}:
  Vf QTq (Vgc ux uy) (QXt QHH) Ev s:=by
 unfold Xgc at L |-;split at L
 ·rename_i n k;cases e:Z.lstAt S n with
  |none=>rw[e]at L;cases L rfl|some xs=>
   rw[e]at L;dsimp at L |-;cases e2:Qg6 with
   |none=>rw[e2]at L;cases L rfl|some d=>
    dsimp;simp[RD]at ry;subst ry;exact Xx QlV λp vs aa ha hv hr=>?_;subst aa;exact Xa (Xvd hr e2) λz hz rz=>?_;cases qx;exact Xd qy λt aa=>?_;subst aa;exact Xe (I.inv.list QTe) λits r pl ac=>?_;let⟨j,h1,h2,h3,h4,h5⟩:=Xkd hz;exact Xa (UvF) λw ew ab=>?_;let hl:=r.length;let hn:=Xe4;let fin:QXt QzD w s:=.mk Qwx ab rz I.sr;by_cases h0:0<=k
    ·let hj:k.toNat=j:=by
      rw[seqIndex_of h0 h5]at h1;exact U3H
     exact wpAny_getItem_list UD6
    let hj:Q5f.toNat=j:=by rw[seqIndex_neg Q0 h4]at h1;rw[Vn,<-hl];exact U3H
    exact wpAny_getItem_list_neg UE6 fin
 ·cases L rfl
def X4j{Qoh}{Q5j}{QEk}(hA:∀ov iv new,URG iv new=(do Vd4 Qxa (Uo2 iv new);release Qxa [];pure .next)):
  DS X (.AugAssign QeB QNG UQI) yx (λenv S=>Ql7.bind λx S=>QY6.bind λy S=>QHH.bind λa S=>Qv.bind λz S=>QfI.bind λv S=>Qq8.bind λ_ S=>QLr):=by
 intro pc Qyr;dsimp at nb |-;generalize hr:(Ql7.bind λx S=>QY6.bind λy S=>QHH.bind λa S=>Qv.bind λz S=>QfI.bind λv S=>Qq8.bind λ_ S=>R.ok Q2Z S)=r at nb |-;calc wpAny_AugAssign_SubscriptAny (ho.bind Q9t (λx S1 ux s1 vx H1 a3 e1 ar I1 am ah ac=>?_) λx s' QD6=>QEu e2) hA;calc hi.bind I1 ar e1 (λy S2 uy s2 vy H2 a2 e2 ag I2 ak aj af=>?_) λx s' ⟨n,S3,e3,z⟩=>.of ac z e3;calc Vp (Yc0 (Ev:=λ_ _=>False) I2 (λz=>ag Qi2) (ah.mono af) am aj ak) (λua s3 hz=>?_) λ_ _ z=>z.elim;calc X7 hz λa S3 e3 va H3 an J3 a0 au ao L=>?_;rw[e3]at e2 ag;let I3:ULD an S3 env:=I2.step J3 ao L;calc he.bind I3 ag e2 (λz S4 uz s4 vz H4 a1 e4 aa I4 ax aq ae=>?_) λx s' ⟨n,S5,e5,z⟩=>.of (ac.trans QdL) z e5;calc Vp (Ycz (Ev:=λ_ _=>False) I4 (λz=>aa Qi2) (au.mono ae) a0 aq ax) (λun s5 hz=>?_) λ_ _ z=>z.elim;calc X7 hz λv S5 e5 vv H5 al J5 ay ap av ab=>?_;rw[e5]at e4 aa;let I5:Qwv H5 s5 al S5 env:=I4.step J5 av ab;let ai:=af.trans (L.trans QBV);let az:=L.trans QBV;calc Xwz hu I5 (λz=>aa (by simp[Rk0];rw[z];rfl)) (ah.mono ai) am (aj.mono az) ak ap ay λS6 s6 H6 e6 I6 aw=>?_;calc⟨UTE,S6,by rw[e4];simp[Rk0];rw[e6];rfl,rfl,σ,H6,al,I6,ac.trans (ai.trans aw),λ_=>rfl⟩
universe e
theorem X9q(C:Addr){QHi}:Prop:=∃tl N nm qn bs hd sn sub ab L dd k0 k1 k2 k3 k5 mN,
 h.get? C=yz (excClassObj nm qn C N bs tl hd sn sub ab L dd k0 k1 k2 k3 k5 "ValueError.__new__")/\h.Ns N mN/\mN "__init__"=yy/\OwnTail h bmV tl
def X4k{Qtn}{C:Addr}(hK:ULK)(L:Xo7 K C=yx):X9q C h:=by
 unfold Xo7 at L;cases lk:K.lookup C with
 |none=>rw[lk]at L;cases L|some o=>
  rw[lk]at L;dsimp at L;cases dc:Xzl o.data with
  |none=>rw[dc]at L;cases L|some cd=>rw[dc]at L;simp[bA0,beq_iff_eq,Vbz]at L;let⟨⟨⟨⟨⟨⟨e0,e1⟩,e2⟩,e3⟩,e4⟩,e5⟩,e6⟩:=L;let⟨cl,dct,dt,ac⟩:=o;let⟨nm,bs,aa,ns,qn,hd,sn,sub,ab,af,ae⟩:=cd;dsimp at e0 e1 e2 e3 e4 e5 e6 dc;obtain rfl:=X39 dc;calc Xd (⟨_,e1⟩:∃tl,aa=.ref C::tl) λtl e7=>?_;obtain⟨k0,k1,k2,k3,k5,e8⟩:∃k0 k1 k2 k3 k5,ac=#[k0,k1,k2,k3,QAx,k5]:=⟨_,_,_,_,_,e2⟩;clear e1 e2;subst e0 e3 e7 e8;calc⟨tl,_,_,_,_,_,_,_,_,_,_,_,_,_,_,_,_,hK _ _ lk,.of_isNs (PySem.W.isNs_of_in hK e5),PySem.W.nsMap_none_of_in hK e5 e6,PySem.W.tail_of_in hK e4⟩
def _root_.L2.Inv.newX{QNi}(hn:Qkt=yy)
  (new:Qxr UXB a o):Qvr QU5 QU/\HOk QOq UXB:=by
 let L:H a=none:=by
  cases z:H a with
  |none=>rfl|some w=>exact Xd (Xdl (I.hok a w z)) λq e=>?_;rw[hn]at e;cases e
 let ne:∀b u,H b=QIt->b≠a:=λb u q=>Xr q L;let hok:QXy UXB:=λb u q=>by
  by_cases hb:b=a;·subst hb;rw[Xp]at q;cases q;exact new
  ·rw[Xg hb]at q;exact QLK.stay (λc v _ e=>k c v e) (λc z=>by rw[Xg QcZ];calc z) λc xs _ z=>by rw[Xg QcZ];exact z
 calc⟨I.un (t':=s.toks) ⟨λb u e _ _ _=>U05 e,λb u e _ _ _=>⟨u.slots,U05 e⟩,λb u e n _=>?_,λb u e _=>⟨u,U05 e⟩,λb xs z=>by rw[Xg QdP];calc z,λb u xs z=>by rw[Xg QdP];calc z,λb ps z=>by rw[Xg QdP];calc z⟩ hok,hok⟩;rw[Xg (λz=>by rw[z,hn]at e;cases e)];calc n
section
variable{QHh}{QTh}{Q7j}{pos np cpos:Pos}
def X9r{c:Nat}{Qil}{C:Addr}{QLh}(hx:Xcs c=QJu)(hn:U1A x=yz QUU)(hq:Xo7 X.K C=yx)
  (hg:UC9) (ag:Qk=yw) (he:Qjv e f) (aa:X9 e=yx):UoH (.Raise (yz (.Call (Us1 np) [e] [] cpos)) yy pos) yx (λenv S=>Qv.bind λ_ S=>UpD):=by
 intro pc Qyr;dsimp at nb |-;let hm:Uv8=yz Qn1:=Vd9 I.inv.mod.kin I.inv.mod.glob hn;let ah:UH7 c=UwE:=by unfold Xay;rw[hx];simp[U0,hn]
 let⟨tl,N,nm,qn,bs,hd,sn,sub,ab,ae,dd,k0,k1,k2,k3,k5,mN,hC,hN,aj,T⟩:=X4k I.inv.mod.kin hq;exact wpAny_Raise_call_subT (C:=C) (nm:=nm) (q:=qn) (N:=N) (bs:=bs) (bm:=tl) (hdct:=hd) (sn:=sn) (sub:=sub) (ab:=ab) (col:=ae) (dd:=dd) (k0:=k0) (k1:=k1) (k2:=k2) (k3:=k3) (k5:=k5)
  PySem.F.excBase_ValueError (mN:=mN) (T.hasType PySem.F.excBase_ValueError.hasBase) QJ7 (by rw[Xv aa];rfl) aj (Xe3 Qmv QJZ ag)
 rw[Xv aa];calc Vh7 ?_;generalize hr:(Qv.bind λ_ S=>(R.ex QF QIK:UQ2))=r at nb |-;calc Vbi (U17 (λd S1 u s1 v H1 ai e1 ak I1 rv rd af=>Vdn ?_) λy s' ⟨n,S2,z1,z2⟩=>⟨n,S2,σ,z1,λ_=>rfl,z2⟩);calc⟨rfl,by simp![V6],I1.inv.bk _ _ hC,hN.keeps I1.inv.bk,T.keeps I1.inv.bk,λh' a L=>?_⟩;exact Xe L.there λt h1 h2 h3=>?_;let ac:H1 a=none:=by
  cases z:H1 a with
  |none=>rfl|some w=>exact Xd (Xdl (I1.inv.hok a w z)) λo e=>?_;rw[L.new]at e;cases e
 let xo:Ut7:=⟨_,_,_,h1,rfl,rfl,rfl,by simp!⟩;calc Xi (I1.inv.newX L.keeps L.new xo.ok) λJ hok=>?_;calc⟨QcE,S1++QH9,σ,e1,λ_=>rfl,_,ai++[a],a,c,J,rfl,?_,by simp!,I1.sr.new1 (o:=.exc c) ac ⟨C,ah,Xp⟩,af.trans (Stp.new1 ac),.inl ⟨_,_,h1,rfl,rfl⟩⟩;rw[<-I1.sr.len];simp!
universe e
abbrev inH{QMl}{Qji}:Cx:={ X with A:=X.A.mark Q9N,calm:=yw}
section
variable{QRn}
def Inv.inH{Q0h}{Qji}:Inv (inH X a) pc UY2:=
 ⟨⟨I.ok.mod,I.ok.kind,I.ok.glob,I.ok.blt,I.ok.above,I.ok.inj,I.ok.has,I.ok.cab,QT1,I.ok.frames,I.ok.stk,I.ok.exf,I.ok.bs,I.ok.bsz,I.ok.noex,I.ok.exfs,I.ok.funs,I.ok.frf⟩,I.os,I.bare,I.base,I.loc,I.cell,I.free,I.freeC,I.pin,I.hok,I.len⟩
def Inv.outH(I:Inv QGH pc UY2)(ok:X.Ok):Qbt:=⟨ok,I.os,I.bare,I.base,I.loc,I.cell,I.free,I.freeC,I.pin,I.hok,I.len⟩
def Inv.goes{Q0h}(hl:U12=Q2r)
  (h:∀s',QXv (Vm σ.length yy) H s'->UU1):Q1v (do bindName X.env n .none;unbindBehindTheSuite X.env n p) Qeq:=by
 exact UlG λm hn _=>?_;exact wpAny_nameGoes hl hn (by rw[I.ok.kind];rfl) λh' m' ab sb=>h _ ?_;exact Yd (id hn) λo es ep ho r=>?_;exact Yd (id ab) λo' af ae ac r'=>?_;let aa:∀b u,QTr=QIt->b≠X.env.locals:=λb u e=>UxJ;let L:∀x c,QYq=QFv->∀v,Qsu->Ua3:=λx c e v ⟨u,hu,hd⟩=>⟨u,(sb.2 c QMK).trans hu,hd⟩;calc⟨I.ok,I.os,I.bare,⟨λb u e q hb hx=>QTC.trans (I.base.keep UiE q hb hx),λb u e q hb hx=>?_,I.base.free,λb u e hx=>?_,I.base.tups,I.base.frzs,I.base.tbls⟩,⟨m',ab,λi x v _ e2 _=>?_⟩,λx c e=>?_,I.free,I.freeC,λp hp=>?_,λb u q=>?_,by rw[Vfq];calc I.len⟩;·exact Xd (I.base.slot UiE q hb hx) λsl z=>?_;exact⟨sl,QTC.trans z⟩
 ·exact Xd (I.base.there UiE hx) λw z=>?_;exact⟨w,QTC.trans z⟩
 ·rw[Vdq]at e2;split at e2<;>cases e2
 ·exact Xd QuI λv z=>?_;exact⟨v,L UFI⟩
 ·exact Xeo QRX λe n ne r=>?_;exact⟨(sb.2 _ ne).trans e,n,ne,r⟩
 ·let ne:∀c v,H c=UA2->c≠X.env.locals:=λc v z=>Xr z I.free;exact QLK.stay (λc v hc e=>?_) QUZ λ_ _ _ z=>z;rcases hc with rfl|hc;·exact(sb.2 _ (ne _ _ q)).trans e
  ·calc(sb.2 _ (ne _ _ hc)).trans e
abbrev X9s(c i:Nat)(g L:En->Sto->UQ2){QAn}{QIh}:UQ2:=match g QKq with
 |.ex m S'=>match S'[m]? with
  |some Q9T=>if c==0||c==c' then
    match L QD3 S' with
    |.ok QK7 S''=>Ul1 S''|_=>.bad
   else .bad|_=>.bad
 |r=>r
def X9t(hs:X.stack=X.env::X.outer){Qbh}
  (hN:X.N.Nodup) (hi:X.N[i]?=yz n) (hl:U12=Q2r) (hn:U1A x=yz (yz Q5M)) (hg:UC9) (ap:Qk=yw)
  (hm:∀c' C,UH7 c'=UwE->Q6A=yx->PySem.W.exmOne X.K Qn1 Q5M=Qpu) (hb:UV2 body yx g) (hh:∀a,DSs QGH (b0::suite) na gh):
  DS X (.Try body QO7 Ut1 pos) yw (X9s c i g gh):=by
 intro pc Qyr;unfold X9s at nb |-;calc wpAny_Try_except ?_;cases q:Qpw with
 |bad=>rw[q]at nb;cases nb rfl|ok y S1=>
  exact Vp QRG Q0B λx s1 z=>?_
  ·rw[q]at z;let z':=z.pre (σ:=σ) (na':=yw) .refl λw=>nomatch w;calc UY6 λy' S2 e z2=>?_;cases e;cases y with
   |nx e=>exact Xi z2 λL _=>?_;subst L;exact Vh4 z'|brk e=>exact Xi z2 λL _=>?_;subst L;exact z'|cnt e=>exact Xi z2 λL _=>?_;subst L;exact z'|rt d=>exact Yr z2 λu v an H' ρ' L _=>?_;subst L;exact z'
  exact Yd z λk S2 ay e _=>?_;rw[q]at e;cases e|ex m S1=>
  rw[q]at nb;dsimp at nb |-;exact Vp QRG Q0B λx1 s1 z=>?_;·exact UY6 λy S2 e _=>?_;rw[q]at e;cases e
  let⟨m',S2,an,e,aq,H1,al,a,c',J,rfl,ai,hc,sr,st,fl⟩:=z;rw[q]at e;cases e;cases aq rfl;rw[hc]at nb |-;dsimp at nb |-;let ah:Q6A=true:=by
   cases z:Q6A with
   |true=>rfl|false=>rw[z]at nb;cases nb rfl
  rw[iP0 ah]at nb |-;obtain⟨d,S2,ac⟩:∃d S2,gh (QQx (yz (.ref m))) S1=.ok (.rt d) S2:=by
   cases z:gh QD3 S1 with
   |bad=>rw[z]at nb;cases nb rfl|ex _ _=>rw[z]at nb;cases nb rfl|ok y S2=>
    rw[z]at nb;cases y with
    |rt d=>exact⟨d,S2,rfl⟩|nx _=>cases nb rfl|brk _=>cases nb rfl|cnt _=>cases nb rfl
  rw[ac];dsimp;exact Xa ((show ∃C,UH7 c'=UwE/\H1 a=Un2 from sr.ob m a _ ai hc)) λC hC ha=>?_;let ao:=hm c' C hC ah;let ak:∀(l:LR) (a0:Vb),Hid X H1 a s1.heap l->Q19 ->
    ∀h2,Heap.HeldW QdS UhA->s1.heap.UpToSlots h2 ->
    Vf QTq (UGJ yy) (λ_ s3=>Q4s (handleBy Qe X.env QO7)
     (OkS Qur yw (Ul1 S2)) QAD s3) QAD {s1 with heap:=h2}:=by
   intro l UD8 h2 ae ab;let inv:∀ {h':Heap},Heap.FlyingW QdS Uh0 h'->s1.heap.UpToSlots h'->U5K QEP:=λ{h'} fw up=>by let⟨f1,_,_,oe,vs,T,oT,ts,t1,⟨t2,t3⟩,t4,t5,_⟩:=fw;exact Inv.fly J ha hid aa f1 up QV4
   exact wpAny_landsW ae λh3 af ag=>?_;let J3:=inv af QDV;exact Xa af.there λob ax aj=>?_;calc wpAny_handleBy_cons (codeAny_handlers_test (Xe3 (Inv.inH J3 a) hg (Vd9 J.mod.kin J.mod.glob hn) ?_ ap)) (by intro z;cases z);let LT:PySem.W.Looks Q1 h3 (typeOf Qe) Qn1:=aj▸(PySem.W.Looks.ld ax).andThen .now;calc(PySem.W.exm_one J3.kIn LT ao).at ?_;calc codeAny_handlers_suite_as (lands_againW af λh4 ar aw=>?_);let J4:=inv ar (QDV.trans aw);calc Xc2 (X:=Z.inH X a) (v:=QYr) (Inv.inH J4 a) hN hi (.inl hl) rfl (λs5 J5=>?_) (.inr hl);let er:ER X.K al H1 QD3 QKT:=(Up5).set i (by simp[RD];calc⟨a,rfl,ai⟩);exact Vp (hh a pc s5 QKT H1 al S1 QD3 ⟨J5,sr,er⟩ (by rw[ac];calc λz=>nomatch z)) (λf6 s6 z=>?_) λy s6 z=>?_;·rw[ac]at z;exact UY6 λy S3 e z=>?_;cases e;exact X8 z λu v az H6 av L J6 rv rd am au=>?_;subst L;exact Inv.goes (Inv.outH J6 J.ok) hl λs7 J7=>⟨.rt d,S2,rfl,u,v,_,H6,av,rfl,J7,rv,rd,am,st.trans au⟩
   ·rw[ac]at z;exact Yd z λ_ _ _ e _=>?_;cases e
  calc Xip J hs hf ha fl λl h2 a0 hid aa ae ab=>ak l UD8 h2 ae ab
universe e
universe Z
universe e
section
namespace Z
open PySem PySem.Spec PyProof.Rows L2
open PySem.W (CodeHd kla_obj kla_fn kla_eval kla_makeFunction kla_makeFunctionHit kla_callFunE kla_codeExpr tabObj)
structure LamAt{QMl}{Q5m}:Prop where
 qual:X.env.qual ++ "<lambda>"=Xbj nm
 dep:X.A.depth+5<Vim
 cod:∃c P,X.env.code=.ref c/\CodeHd X.base c P/\(Xec X.K).lookup P=yz QFA
 blt:∃bm ob,X.mg "__builtins__"=yz (.ref bm)/\bm≠Vgv/\X.base.get? bm=UW9/\ob.cls=UUF /\ ob.dict=yz Vgv/\ob.data=.plain
def Xw0{Q4l}{L:Vb}{a b:Int}{c:Vb}:∀(l:LV),TriplesOk l->Ub3 (l++[Vaa a,Vaa b,c])=UvE->Ub3 l=UvE\/L=c:=by
 intro l h e
 fun_induction TriplesOk l with
 |case1=>
  simp[Ve9,Vaa,codeAmong]at e;split at e;·cases e;exact .inr rfl
  ·cases e|case2 a' t b' u x rest ih=>
  simp[Vf0,codeAmong]at e |-;split at e;·rename_i hc;cases e;rw[iP0 hc];exact .inl rfl
  ·rename_i hc;rw[iN0 hc];calc ih h e|case3 l Qwq=>calc h.elim
abbrev Xjt(sc:U2):Bool:=sc.names.all λy=>match y.2 with|.free=>yw|_=>yx
def Xpf{env:Vbs}(h:Xjt sc=yx):closureFor sc env=pure []:=by simp[closureFor];rw[forIn_yield_id [] (λx L c=>by let:=U6.mp h x L;let⟨n,k⟩:=x;cases k<;>first|rfl|cases this)];rfl
section
variable{QPp}{QOm}
theorem LamH{QMl}{Q5m}(params:Vfa)(body:Expr)(scope:U2){Qdo}(f:Addr):Prop:=
 ∃pm c L u,H f=yz (.frz (kla_obj Uo4 c L) (.own u))/\∃o v vs t,H c=yz Qea/\o.data=Qvs/\vs[1]?=yz QVX
def Xzu{QWj}{ac:Pos}(hL:LamAt X nm)(aj:Xjt scope=yx)(al:defaultsOf params X.env=([],[])){Qzg}
  (hQ:∀f s' H',Ua5 S env->QCs H'->Qqt H' f->Q QP5 s'):
  Vf QTq (eval (.Lambda Q3r ac) X.env) Qeq:=by
 exact Xc hL.cod λc P ab C hP=>?_;let⟨bm,ob,b1,b2,b3,b4,b5,b6⟩:=hL.blt;let hT:=I.sr.tab P _ hP;exact Xe ((show Qct P (.tbl QFA) from I.inv.hok P _ hT)) λps e0 t0 n0=>?_;let hg:=I.inv.ok.mod.glob.keeps I.inv.bk;let bP:∀b o,Qnt=Qkq->b≠P:=λb o e z=>by let:=(I.inv.bs Qps).2;rw[z,hT]at this;cases this
 let ak:Uw≠P:=by exact Yd I.inv.ok.mod.glob λo es ep e _=>?_;exact bP _ _ e
 let an:bm≠Uw:=λq=>by exact Y6 I.inv.ok.mod.glob λo es ep e hd _=>?_;rw[q,e]at b3;cases b3;rw[hd]at b6;cases b6
 let hB:s.heap.BuiltinsAt X.mg P:=⟨bm,ob,b1,b2,an,bP _ _ b3,I.inv.bk _ _ b3,b4,b5,b6⟩;calc kla_eval al ?_;rw[hL.qual];let lay:∀ {H1:Hp} {h':Heap} {tk:Nat} {L:Addr} {aa:Vb},U5K QO->UE1 H1->QCs H1->(∃o v vs t,H1 L=yz Qea/\o.data=Qvs/\vs[1]?=yz QVX) ->
   Q (UVA) {s with heap:=h'.push Qe3,toks:=tk}:=λ{H1 h' tk L aa} J sr st hc=>by
  let hn:H1 h'.objs.size=none:=UOF;let J2:=J.laid (a:=h'.objs.size) (t':=tk) (o:=.frz Qe3 (.own 0)) (h':=h'.push _) QR6 Qa ⟨Um3 rfl,_,Um3 rfl⟩;calc hQ QLq ⟨J2,sr.upd hn,I.er.mono QpJ⟩ QpJ ⟨_,L,aa,0,Xp,?_⟩;exact Xdn hc λo v vs t e1 r=>?_;exact⟨o,v,vs,t,by rw[Xg (Xr e1 hn)];calc e1,r⟩
 cases q:codeAmong ac ps.toList with
 |some cv=>let⟨L,o,u,vs,t,rfl,e2,r⟩:=n0 ac cv q;exact kla_makeFunctionHit QGv hB λaa h' tk k ao=>?_;exact lay (I.inv.kept (t':=tk) k) I.sr .refl ⟨o,u,vs,t,e2,r⟩|none=>
  exact kla_makeFunction QGv ak hB λL aa h' tk hx ae ap af ai=>?_;exact Xbn af λc2 oc vs t e2 ag hd hv=>?_;cases e2;let hn:H L=none:=I.inv.hok.fresh ae;let cP:P≠L:=λz=>by rw[z]at hT;rw[hn]at hT;cases hT
  let nP:∀b u,H b=QIt->b≠L:=λb u e=>Xr e hn;let hok:QXy QLG h':=λb u e=>by
   by_cases hb:b=L;·subst hb;rw[Xp]at e;cases e;exact⟨ag,_,ag⟩
   ·rw[Xg hb]at e;by_cases ah:b=P
    ·subst ah;rw[hT]at e;cases e;calc⟨_,ai,by rw[Vah];calc TriplesOk_snoc Q5s t0,λpos cv z=>?_⟩;rw[Vah]at z;exact Xj (Xw0 _ t0 z) Qh0 λz=>?_;·let⟨c3,o3,u3,am,t3,e3,e4,r⟩:=n0 pos cv z;exact⟨c3,o3,u3,am,t3,e3,by rw[Xg (nP _ _ e4)];calc e4,r⟩
     ·exact⟨L,oc,_,vs,t,z,Xp,hd,hv⟩
    exact(I.inv.hok UiE).stay (λd w hd e3=>hx d w ?_ e3) (λd z=>by rw[Xg QZE];calc z) λd w _ z=>by rw[Xg QZE];exact z
    rcases hd with rfl|hd;·exact ah
    ·exact λz=>by rw[z,hT]at hd;cases hd
  let J:Qvr QLG QO:=by
   exact I.inv.un (t':=tk) ⟨λb o e n _ _=>USJ,λb o e n _ _=>⟨o.slots,USJ⟩,λb o e n _=>by rw[Xg (Uf (Uj QJB ae))];exact n,λb o e _=>?_,
    λb xs z=>by rw[Xg QZE];calc z,λb o u z=>by rw[Xg QZE];calc z,λb p z=>by rw[Xg QZE];calc z⟩ hok
   by_cases hb:b=P;·subst hb;exact Qkc
   ·exact⟨o,hx b o hb e⟩
  calc lay J (I.sr.upd hn) (Stp.upd hn) ⟨oc,_,vs,t,Xp,hd,hv⟩
def Xzv{QWj}{f:Addr}{Qil}{A:Uq}{fb:En->Sto->R D}{u:Vb}{v:V}{d d':D}(al:A.depth<Vim){QJh}(hA:A.frames=yz X.stack)(hS:Ur5)
  (ae:∀(pm ct:Vb) (c:Addr) (u:Vb),Vgm (kla_fn Uo4 QyO ct) QA7=pure QOU)
  (hb:∀(aj:Vb) (s:Vc) (H:Hp),DE (Qmy aj A Qux QD7) body fb) (hL:UOD)
  (I:Q2s) (rv:QNr) (rd:US1) (hF:fb [yz d] S=.ok d' S'):
  Vf Q1 A QcT (QXt (.ok d' S')) Qt s:=by
 let⟨pm,c,an,y,hf,o,w,vs,t,hc,hd,hv⟩:=hL;exact Xi ((show Qct f Qfa from I.inv.hok f _ hf)) λef _=>?_;exact Xi ((show Qct c Qfa from I.inv.hok c _ hc)) λec _=>?_;let e0:USK A Qux:=let e:=I.inv.env0;⟨hA,e.mod,e.bs,e.bsz,e.funs,e.frf,e.hok,e.bare⟩
 let ac:=I.inv.nolimit;let aa:∀y∈QOU,US4=Q2r\/Qx3:=λy hy=>by
  rw[V3.mp hy];exact Xj (hS.par x QhH) QG5 λq=>?_;·exact UgK
  ·exact .inr Q0J
 exact wpAny_call (Ver (R:=CR (CXd X.prog X.w) UWI (λv H'=>∃ ρ',RD Q7t d' v/\SR Qmq/\Stp QSq) QD7) (kla_callFunE al ef rfl hS.co hS.gen rfl ⟨c,o,vs,t,rfl,ec,hd,hv⟩ ?_) λr s' hq=>?_)
 ·rw[ae];calc Vd (Vi8 hS.kind aa λam he s1 z=>?_);subst he;calc⟨ac.keeps z.toInCall.keep,kla_codeExpr ?_⟩;let af:Vals [v] [u]:=U0I;let I1:Inv (Qmy QyO A Qux QD7) [] (start [x] [v]) H s1:=by
   let L:=Xl8 (CX:=CXd QOq) (E:=λ_ _ _=>False) (f:=f) (cd:=.ref c) (qual:=Xbj nm) hS hh e0 rfl af z;exact⟨⟨L.ok.mod,L.ok.kind,L.ok.glob,L.ok.blt,L.ok.above,L.ok.inj,L.ok.has,L.ok.cab,(λ_=>hh),L.ok.frames,L.ok.stk,L.ok.exf,L.ok.bs,L.ok.bsz,L.ok.noex,L.ok.exfs,L.ok.funs,L.ok.frf⟩,L.os,L.bare,L.base,L.loc,L.cell,L.free,L.freeC,L.pin,L.hok,L.len⟩
  calc(hb QyO s H).ok (env:=[yz d]) ⟨I1,I.sr,rfl,λi d1 e=>?_⟩ hF λu2 s2 v2 H2 ab J ai ah ag=>⟨v2,H2,J.inv.os,J.inv.bare,J.inv.base,J.inv.hok,ai,ab,ah,J.sr,ag⟩;cases i with
  |zero=>cases e;exact⟨v,rfl,rd⟩|succ i=>simp! at e
 ·cases r with
  |error e=>let⟨_,_,_,_,_,_,z⟩:=hq;exact z.elim|ok fl=>
   cases fl with
   |ret u1=>let⟨v1,H1,J,r1,ak,q1,q2,q3⟩:=URF;calc⟨d',S',rfl,v1,H1,ak,J,r1,q1,q2,q3⟩|next=>calc Ux8|brk=>calc Ux8|cont=>calc Ux8
universe e
universe Z
universe e
section
namespace Z
open PySem PySem.Spec PyProof.Rows L2
section
variable{QHh}{Qro}{QOm}
def Inv.own1{Da:Addr}{o:Obj}{u:HO}{h':Heap}{t':Nat}(I:UfH (pc++[(Da,o)]) UY2)(aa:X.s₀.heap.objs.size<=Da)(ab:∀p∈X.pn++pc,p.1≠Da)(k:∀b u,b≠Da->QWq=QIt->Qqq=QIt)(ht:∃u,h'.get? Da=QIt)
  (new:Qxr QFF h' Da u):Qvr QFF Q51:=by
 let⟨e,hn,hL,_,hd⟩:=I.pin (Da,o) Q9;let ne:∀b w,H b=yz w->b≠Da:=λb w e=>Xr e hn;exact I.unpinned.step Qgs (ch:=[Da]) QaW QAF Qo9 (λb o L _ n=>by rw[Xg QQ1];calc n)
  Q8E (λb xs z=>by rw[Xg QYE];calc z) (λb o u z=>by rw[Xg QYE];calc z) (λb q z=>by rw[Xg QYE];calc z) Q9L (λb w e=>?_) I.bare
 ·rw[V3.mp hb];calc⟨.inr aa,hL,λx c q z=>?_,ab⟩;exact Xf (Q6v q) λv o' e' d'=>?_;rw[z,e]at e';cases e';exact hd v d'
 ·exact Yd hm λo' es ep ho r=>?_;exact⟨o',es,ep,k _ _ hL.symm ho,r⟩
 ·by_cases hb:b=Da;·subst hb;rw[Xp]at e;cases e;exact new
  ·rw[Xg hb]at e;exact(I.hok b w e).stay Qy9 (λc z=>by rw[Xg QYE];calc z) λc v _ z=>by rw[Xg QYE];exact z
   rcases L with rfl|L;·exact hb
   ·calc ne c _ L
def Xr7:∀(tq ps:QKw),tq.map QT=ps.map (λp=>p.1.reverse)->∃qs:Kvs,qs.map QVE=tq.map QK1/\qs.map QBg=ps.map QK1/\qs.map QT=tq.map QT/\∀q∈qs,(q.1,q.2.1)∈tq/\(q.1.reverse,q.2.2)∈ps
 |[],[],_=>⟨[],rfl,rfl,rfl,λq L=>by cases L⟩|[],_::_,h=>by cases h|_::_,[],h=>by cases h|t::tq,p::ps,h=>by
  rw[Ub,Ub]at h;injection h with h1 h2;exact Yg (Xr7 tq ps h2) λqs e1 e2 e3 e4=>?_;calc⟨(t.1,t.2,p.2)::qs,by rw[Ub,e1];rfl,by rw[Ub,e2];rfl,by rw[Ub,e3];rfl,λq L=>?_⟩;rcases Vv.mp L with rfl|L
  ·calc⟨V4,?_⟩;let:(t.1.reverse,p.2)=p:=by rw[h1,List.reverse_reverse]
   dsimp;rw[this];exact V4
  calc⟨UN7 QKd.1,UN7 QKd.2⟩
def X4l {pr:Bool}{Qmh}{A:Uq}{Da kS:Addr}{qs:Kvs}{e1 n1:Nat}{QBl}{Quj}(h5:Q0H<100000)(hk:s.heap.get? kS=yz (UU5 QIL.toArray n1))(hD:s.heap.get? Da=UtI)(ab:kS≠Da)
  (hq:∀q∈qs,Row pr s.heap q.1 q.2.1)
  (h:∀rs:Kvs,Qtu->Ul3->P QCZ {s with heap:=(UxA (V9 λ_=>#[])).update Da (V9 λ_=>QqF.toArray)}):Qcq (ksk_end Da yw (qs.map QBg).toArray e1 QSc QIL.toArray) P E s:=by
 let sl:=Vav;let L:∀(st:V8) (rs:Kvs),Qtu->Ul3->UB3=QqF.toArray->UzC=yy->Qcq (ksk_tail Da yw e1 QSc st) P E s:=λst rs r1 r2 q1 q2=>by
  let aa:(UxA QqD).get? Da=UtI:=(Vdu Q5s ab.symm).trans hD;unfold ksk_tail;dsimp;calc Va (Vec hk rfl (Va (wpAny_letGo (Va (seqEpoch_at aa rfl (Va (Vec aa rfl ?_ Q27 ?_)))))) (by rw[Vn,Vg];omega) Q27);·rw[q1,q2,bne_self_eq_false];exact Vd QxW
  ·simp[Vq,if_false];rw[q1,Vn,Vg,r1.length_eq];omega
 unfold ksk_end;dsimp;simp[Vq,if_false];let zz:(qs.map λq:LI×Vb×Vb=>q.2.2).toArray.size=lg qs:=by rw[Vn,Vg]
 by_cases q:Q0H<2
 ·rw[iP0 QJ9,iP0 QJ9];calc QMt;rw[StateT.run_pure];calc Va (Vd (L _ qs Q3M ?_ ?_ rfl));·exact Xwg _ q
  ·show((qs.map λq:LI×Vb×Vb=>q.2.1).toArray.zip (qs.map λq:LI×Vb×Vb=>q.2.2).toArray).map QK1=_;apply Array.toList_inj.mp;rw[Array.toList_map,Xkx,U8];rfl
 ·rw[iN0 QJ9,iN0 QJ9];calc Xov hu hq Q0 λst rs r1 r2 r3 r4=>L st UsK
variable{QWj}
def LamH.mono{f:Addr}{H':Hp}(h:UOD)(m:Mon QSq):Qqt H' f:=by let⟨pm,c,L,y,hf,o,w,vs,t,hc,r⟩:=h;calc⟨pm,c,L,y,m.frz QLq hf,o,w,vs,t,m.frz QLq hc,r⟩
def Xmu{QIm}(j:Nat)(k:LI)(h:ks[j]?=yz k):(ks.take QiA).map QMM=(ks.take j).map QMM++[Xcv k.reverse]:=by rw[List.take_succ,h,Vau];rfl
def Xzw{QHi}(vs:LV)(b:Addr)(o:Obj){QBn}:
  ((((((h.push QK).update h.objs.size QC2).push Qy0).update (h.objs.size+1) QqD).push (V5 "tuple" vs.toArray 0)).push QK).get? b=Qkq:=by
 let lt:=UZ6;calc Qwt (Qwt ?_);rw[Vdu _ _ _ _ (Uf (Va3 lt))];calc Qwt ((Vdu Q5s (Uf lt)).trans QaG)
def Xzx{f l:Addr}{Q9m}(hL:UOD)
  (al:∀(pc:LA) (s:Vc) (H:Hp) (ρ:LR) (k:LI) (v:V) (u:Vb),Q2s->UOD->QNr->Q6s QYY v ->
   Vf UQ4 QcT (QXt (.ok (UiG) S)) Qt s)
  (hl:UbD) (hr:QDs (ks.map Xcv) ws) (aj:UB1) (e3:Xnn ks=US6):
  Vf QTq (QTx Q5g QQC) (QXt (Qvq (S++[.lst (r.map Xcv)]))) E s:=by
 obtain⟨h5,rfl⟩:(Ue9)<100000/\r=(Yi (ks.map Va0)).map Va0:=by
  unfold Xnn at e3;by_cases c:Q5A<100000;·rw[iP0 c,Vt]at e3;exact QEU
  ·rw[iN0 c]at e3;cases e3
 let am:Qn3=Ue9:=by rw[<-aj.length,<-hr.length,Vg]
 let ak:Qn3<=V6:=by rw[Vav];omega
 let sz:(QOu (V9 (·++its.toArray))).objs.size=s.heap.objs.size+1:=by rw[Vex,Vg3]
 let oL:(QC.push Q79).get? QZ=yz Q79:=sz▸Um3 rfl;exact Xd (⟨_,Vfe oL λ_=>#[]⟩:∃e1,Q7.get? QZ=UtI) λe1 o1=>?_;let aq:(Q7.push Qf8).objs.size=s.heap.objs.size+3:=by rw[Vg3,Vex,Vg3,sz]
 calc call_function_entry_kw kind_sorted Vh8 Vh9 (ksk_s1 _ _) ?_;unfold Vbf.«sorted»;calc Q6r (Vd (Va (ULC (Va (Ved ?_ QmK)) ak)));change Vf Uu1 {s with heap:=QC.push Q79};rw[sz];calc Va (Ul (wpAny_call_entry_kw Vg4 QwC Vgj ?_ (ksk_l1 _ _)));show Vf UQ4 (Vbf.«list.sort» ⟨[.ref QZ],QQC⟩) QLq;rw[ksk_t1];unfold ksk_tree;calc Va (Vew oL rfl (Va (Vec oL rfl (Va (U0F rfl (Va (Viq QoK QmK)))) (by rw[Vn];calc ak) Q27)));let kp:=Xzw s.heap its;let o4:=Ve QK (Ve Qf8 o1);let k4:((QM1.push QK).get? Qu)=yz QK:=aq▸Um3 rfl;change Vf UQ4 (ksk_rest QZ QP5 yw its.toArray e1 (.ref ((Q7.push Qf8).objs.size))) _ _
  {s with heap:=QM1.push QK}
 rw[aq];generalize QM1.push QK=h4 at kp o4 k4 |-;clear aq o1 oL sz;let az:H QZ=none:=I.inv.hok.fresh QPH;let ac:H Qu=none:=I.inv.hok.fresh Q0;let a9:=I.inv.sz;let ax:=I.inv.lt;let ne:s.heap.objs.size+3≠s.heap.objs.size+1:=by omega
 let J0:Qvr QPM QjR:=Qir kp Q0 ⟨U2A,[],0,.nil,k4⟩;let J1:UfH Q6Y σ QPM QjR:=J0.pins_of λp hp=>by
  exact Xj QKJ Qh0 λz=>?_;·exact J0.pin p Q8e
  ·rw[V3.mp z];exact⟨o4,by rw[Xg ne.symm];calc az,Vca (Va3 ax),I.inv.nofs QPH,λv z=>by cases z⟩
 let a6:∀p∈X.pn++pc,p.1≠s.heap.objs.size+1:=λp hp z=>by let:=Vu QQR.1;rw[z]at this;exact aB0 (Vdo this) QtE
 let a1:s.heap.objs.size+3 ∉ ρ:=λhm=>by exact Xa (I.sr.mem hm) λu e _=>?_;rw[ac]at e;cases e
 unfold ksk_rest;calc Va QcV;rw[Vi2];exact Va (ksk_fold (λi s'=>∃H' ρ' vs,S0 X Q6Y σ QCr S env/\Stp QSq/\s.heap.objs.size+3 ∉ ρ'/\H' Qu=Uq4/\RDs Q7t (QU6.map λk=>UiG) vs) its 0 _
  ⟨_,ρ,[],⟨J1,I.sr.upd ac,I.er.mono (Stp.upd ac)⟩,Stp.upd ac,a1,Xp,by rw[List.take_zero];calc RDs.nil⟩ (λj x s1 hx hI=>?_) λs1 hI=>?_)
 ·exact Xk hI λH1 ar vs I1 af an ae ab=>?_;rw[Vet]at ab |-;let hj:j<Ue9:=by rw[<-am];exact Q7Q.1
  obtain⟨v,hv,rv⟩:∃v,ws[j]?=UA2/\RelV v x:=by
   let ay:j<lg ws:=by rw[aj.length];exact Q7Q.1
   exact Xa (aj.get (i:=j) (x:=ws[j]) (by simp![ay])) λu hu ru=>?_;rw[hx]at hu;cases hu;exact⟨_,by simp![ay],ru⟩
  let hk:ks[j]?=yz ks[j]:=by simp![hj]
  exact Xa (hr.get (i:=j) (d:=Xcv ks[j]) (by rw[Ur,hk];rfl)) λv' av rd=>?_;rw[hv]at av;cases av;calc Va (Vc8 (Vp (al _ s1 H1 ar ks[j] v x I1 (hL.mono af.toMon) rv QiW) (λu s2 hq=>?_) λ_ _ z=>z.elim));exact X7 hq λd S2 e2 v2 H2 ao J2 a4 a3 a7 ap=>?_;cases e2;exact Xi (ap.out ae an) λau ah=>?_;exact Xbc ((show Qxr H2 s2.heap Qu Qt1 from J2.hok _ _ ah)) λa8 L nk ai ek=>?_;let aa:s2.heap.get? Qu=yz QJJ:=ek;let bb:Q9J=j:=by rw[<-ai.length,<-ab.length,Vg,Vaq];omega
  let ea:L.toArray.push u=QHe.toArray:=by simp!
  let sb:=Vbw s2.heap Qu Q7e;exact Xd (⟨_,by rw[<-ea];calc Vfe aa QUP⟩:∃c2,(s2.heap.update Qu Q7e).get? Qu=yz (UU5 QHe.toArray c2)) λc2 aw=>?_;dsimp;let ba:V6=_:=Vav;calc Va (Vec aa rfl (Vd QJZ) Q8A (by rw[Array.size_push,Vn];omega));let J3:=J2.write QCv (o:=UvH) (t':=s2.toks) (by rw[ah];trivial) Q10 QLD ⟨_,aw⟩ ⟨by rw[Vw,ai.length];show Q9J+1<=_;omega,L++[u],c2,ai.append (.cons a4 .nil),aw⟩;let mo:Mon X.K ao ao H2 (upd H2 Qu (UvH)):=Mon.own ah;let ag:=(af.trans ap).own (u:=UvH) ac ah;calc⟨_,ao,vs++[v2],⟨J3,a7.own ah au,I.er.mono ag⟩,ag,au,Xp,?_⟩;rw[Xmu ks j _ hk];exact(UBB (ab.mono ap)).append (.cons (UJD a3) .nil)
 ·exact Xk hI λH1 ar vs I1 af an ae ab=>?_;rw[Vet,am,Vey]at ab;exact Xbc ((show UHF Qu Qt1 from I1.inv.hok _ _ ae)) λa8 L nk ai ek=>?_;let aa:s1.heap.get? Qu=yz QJJ:=ek;let a5:RDs X.K ar H1 ((ks.map Va0).map Xcv) vs:=by rw[U8];exact ab
  exact Xe (Xhj (p:=yw) I1.inv QLq QT1 a5 ai) λtq t1 t2 t3=>?_;exact Xe (Xhj (p:=yw) I.inv QLq QT1 hr aj) λps p1 p2 p3=>?_;exact Yg (Xr7 tq ps (by rw[t1,<-p1,U8];rfl)) λqs q1 q2 q3 q4=>?_;rw[t2]at q1;rw[p2]at q2;let lq:Q0H=Ue9:=by rw[<-Vg (f:=λq:LI×Vb×Vb=>q.2.2),q2];exact am
  let oD:=QwN.1;calc Va (Vew aa rfl ?_);rw[<-q1]at aa |-;rw[<-q2];exact X4l (by show X.A.units+1+1+1<_;omega) Q0 aa oD ne (λq hq=>(t3 _ (q4 q hq).1).1) λrs r1 r2=>QsQ;let sb:=Vbw s1.heap Qu QqD;let k5:=Vfe aa λ_=>#[];let J2:=I1.inv.write QCv (o:=.lst []) (t':=s1.toks) (by rw[ae];trivial) Q10 QLD ⟨_,k5⟩ ⟨U2A,[],_,.nil,k5⟩;let a2:=(J2.pin QJ1 Q9).1;let d5:=Vfe a2 λ_=>QMG.toArray;exact Xa (Xky (p:=yw) (X:=X) (ρ:=ρ) (H:=H) (f:=Va0) (rs.map λq=>QAb) λq hq=>by let⟨p,hp,rfl⟩:=V0.mp hq;calc(p3 _ (q4 p (r1.mem_iff.mp hp)).2).2) λzs z1 z2=>?_;rw[U8]at z2;replace z2:Vals zs QMG:=z2;let e9:=Xot (r1.map λq=>q.1) r2;rw[q3,t1]at e9;let a0:((rs.map λq:LI×Vb×Vb=>QAb).map λq=>q.1.reverse)=QqE.map Va0:=by rw[<-e9,U8,U8];rfl
  rw[a0]at z1;let sl:=Vav;let J3:=Inv.own1 (u:=.lst zs) (t':=s1.toks) J2 Q0 a6 (λb w hb q=>QKR.trans q) ⟨_,d5⟩ ⟨by rw[z2.length,Vg,r1.length_eq];omega,_,_,z2,by simpa [V5] using d5⟩;let ag:=af.own (u:=.lst []) ac ae;calc OkP.pre ag (Xan J3 (by rw[Xg ne.symm];calc QwN.2.1) (I1.sr.own ae an) (z1.mono ag))
universe e
universe Z
universe e
section
namespace Z
open PySem PySem.Spec PyProof.Rows L2
open PySem.W (kla_fn)
def Xzy{Qmo}{p:Pos}{n q:Str}{body:Expr}{QHp}{pm L:Vb}{c:Addr}{u:Vb}:
  Vgm (kla_fn n q ⟨[],[⟨x,an,p⟩],yy,[],[],yy,[]⟩ body scope [] pm QyO L) QA7=pure QOU:=by
 let s:seqItems? Vay=pure none:=rfl;unfold Vgm;simp![s,List.lookup]
section
variable{QQm}{QOm}
def Yc1 {a e:Expr}{fa:En->Sto->R D}{p0 pos p1 p2 p3 aa kp:Pos}{Qmo}{QHp}{QWp}(hL:LamAt X nm)(ai:U94)(al:Uk3=yy){QKh}(ab:Us [a] X.env=Qx1::Us [] X.env)
  (hS:Ur5) (ae:Xjt scope=yx) (hv:Vis scope x) (hd:Qk=yw) (af:QX2=yw) (hr:UYG e=yx):
  DE X (UaE [a] [⟨yz "key",UM3,kp⟩] pos) (λenv S=>Qo.bind λx S=>Xki x S):=by
 intro pc Qyr;dsimp at nb |-;calc Vbj (Ue3 ai al QDv (callWith_kw (Vdg ?_ ab) Q4V Q4V rfl rfl) Q2 rfl);calc Qss rfl (λd S1 u s1 v H1 ao e1 L I1 rv rd ag=>Vck ?_) λ_ _ z=>z;rw[e1];show QXq (do let v <- (do let v <- eval (UM3) X.env;standAt pos;pure v);return v::(<-Vd4 [v] (evalAll []))) _ _ s1;calc Va (Va (Xzu hL ae rfl I1 λf s2 H2 I2 ac lm=>Va (Veb (Vd (Va (Ul QiO))))));show QXq (QTx [u] QQC) _ _ s2;unfold Xki at L |-;cases q1:lsD S1 d with
 |none=>rw[q1]at L;cases L rfl|some xs=>
  rw[q1]at L;simp[U0]at L |-;cases q2:UUG with
  |none=>rw[q2]at L;cases L rfl|some ks=>
   rw[q2]at L;dsimp at L |-;cases q3:Xnn ks with
   |none=>rw[q3]at L;cases L rfl|some r=>let q:=Xbz q2;subst q;calc Xc (I2.lsR q1 QjW) λb ws ak hw aj=>?_;subst ak;calc Xe (I2.inv.list hw) λits ah pl _=>?_;cases rv;calc Vp (Xzx UV9 I2 lm (λpc s H ρ k v u I hl rv rd=>?_) pl.isList aj ah q3) (λw s3 z=>(UP8).pre ag) λ_ _ z=>z.elim;calc Xzv (A:=X.A.in1.in1) (x:=x) (fb:=λenv S=>(match env[0]? with|some Q3B=>UJ1|_=>.bad:R D).bind λx S=>UB7 x S) (show X.A.depth<_ from by let:=hL.dep;omega) (show X.A.handled=yy from I.inv.ok.hd hc) I.inv.ok.frames hS (λ_ _ _ _=>Xzy) (λam s H=>Xwy (l:=yy) Q2 (X02 (i:=0) rfl hv hd af) hr) hl I rv rd ?_;show UB7 QYY S1=_;rw[Xpd];show R.ok (D.tup Qk0.reverse) S1=.ok (D.tup (k.reverse.map D.int)) S1;rw[List.map_reverse]
universe e
universe Z
universe e
section
namespace Z
open PySem PySem.Spec PyProof.Rows L2
abbrev Xcx(sc:U2):Vbs:={scope:=sc,locals:=0,globals:=0,cells:=[]}
abbrev Xf2{Qtk}:UGH->Bool
 |.pure c=>b==c|_=>yw
abbrev Xk9(l:Option LS):Sem (Option LS)->Bool
 |.pure m=>decide (l=m)|_=>yw
def Xc9(h:Xf2 b m=yx):m=pure b:=by
 cases m<;>first|exact UGG|skip
 simp[Xf2,beq_iff_eq]at h;subst h;rfl
def Xho(h:Xk9 b m=yx):m=pure b:=by
 cases m<;>first|exact UGG|skip
 simp[Xk9,decide_eq_true_eq]at h;subst h;rfl
def Xpg(v:Expr)(t:Qgr)(l:Nat){Qql}:Vgr v t l env=Vgr v t l QJH:=rfl
def Xhp(t v:Expr)(l:Nat){Qql}:Vc9 [t] v l env=Vc9 [t] v l QJH:=rfl
def Xhq(ts:LX)(v:Expr){Qql}:Vda ts v env=Vda ts v QJH:=rfl
def Xw1(h:Xao i=yx)(ov L new:Vb):URG L new=(do Vd4 Qlc (Uo2 L new);release Qlc [];pure .next):=by cases i<;>first|rfl|cases h
abbrev X9u:Expr->Bool
 |.ListComp Q5s=>yx|_=>yw
abbrev Xd0(N ps:LS)(sc:U2):Bool:=Xts sc.kind && !sc.isCoroutine && !sc.isGenerator&&Xgr N&&decide (N.take QW5=ps)&&ps.all (λx=>match sc.names.lookup x with|some .local=>yx|some .cell=>yx|_=>yw)&&sc.names.all (λy=>match y.2 with|.free=>yw|_=>yx)
def Xph(h:UgG sc=yx):Us5 sc:=by
 simp[Xd0,bA0,Vbz,decide_eq_true_eq]at h;let⟨⟨⟨⟨⟨⟨h1,h2⟩,h3⟩,h4⟩,h5⟩,L⟩,h7⟩:=h;exact⟨Xk4 h1,h2,h3,Xgs h4,h5,λx hx=>?_,λy hy e=>?_⟩
 ·let:=U6.mp L x hx;split at this;·exact UF4
  ·exact UE4
  cases this
 let:=U6.mp h7 y hy;rw[e]at this;cases this
abbrev Xla{QDl}:Option (LX×Expr×Pos):=match s with
 |.Assign ts v p=>yz (ts,v,p)|_=>yy
def Xfd(h:Xla s=Qgy):s=.Assign Q8r:=by
 cases s with
 |Assign QLq=>cases h;rfl|_=>calc UV0
abbrev X9v{QDl}:Option (Expr×Operator×Expr×Pos):=match s with
 |.AugAssign t o v p=>yz (t,o,v,p)|_=>yy
def X4m(h:X9v s=Qgy):s=.AugAssign UZ2:=by
 cases s with
 |AugAssign Q5s=>cases h;rfl|_=>calc UV0
abbrev X9w{QDl}:Option Q3Z:=match s with
 |.Expr v p=>yz (v,p)|_=>yy
def X4n(h:X9w s=Qgy):s=.Expr U96:=by
 cases s with
 |Expr _ _=>cases h;rfl|_=>calc UV0
abbrev Xzz{QDl}:Option (Qgr):=match s with
 |.Return v _=>UA2|_=>yy
def Xr8(h:Xzz s=Qgy):∃p,s=.Return z p:=by
 cases s with
 |Return _ _=>cases h;calc Qd|_=>calc UV0
abbrev Xt1{QSk}:UW1:=match l with
 |[x]=>QJu|_=>yy
def Xpi{Q7h}{Qrm}{x:α}(h:Xt1 l=QJu):l=[x]:=by
 match l with
 |[]=>cases h|[y]=>cases h;rfl|_::_::_=>cases h
abbrev vCk{Qni}:Option (Expr×LX×List Keyword):=match e with
 |.Call f a k _=>yz (f,a,k)|_=>yy
def X9x{QTh}{z:Expr×LX×List Keyword}(h:vCk e=Qgy):∃p,e=.Call UrE:=by
 cases e with
 |Call Q5s=>cases h;calc Qd|_=>calc UV0
abbrev X9y{Qni}:Option (Vfa×Expr×U2):=match e with
 |.Lambda a b sc _=>yz (a,b,sc)|_=>yy
def X4o{QTh}{z:Vfa×Expr×U2}(h:X9y e=Qgy):∃p,e=.Lambda UrE:=by
 cases e with
 |Lambda Q5s=>cases h;calc Qd|_=>calc UV0
abbrev Xz0(a:Vfa):Option Arg:=if a.posonlyargs.isEmpty&&a.vararg.isNone&&a.kwonlyargs.isEmpty&&a.kw_defaults.isEmpty&&a.kwarg.isNone&&a.defaults.isEmpty then Xt1 a.args else yy
def X4p{a:Vfa}{z:Arg}(h:Xz0 a=Qgy):a=⟨[],[z],yy,[],[],yy,[]⟩:=by
 let⟨p,q,r,s,t,u,v⟩:=a;unfold Xz0 at h;by_cases c:(p.isEmpty&&r.isNone&&s.isEmpty&&t.isEmpty&&u.isNone&&v.isEmpty)=yx;·rw[iP0 c]at h;simp[bA0,Va7,Vjo]at c;exact Xav c λac ae L aa af ab=>?_;subst ac ae L aa af ab;rw[Xpi (l:=q) h]
 ·rw[iN0 c]at h;cases h
abbrev Xz1{Qni}:Option (Str×Expr×Str×Str×Str×Expr×U2):=(vCk e).bind λc=>(vNm c.1).bind λf=>(Xt1 c.2.1).bind λa=>(Xt1 c.2.2).bind λw=>w.arg.bind λk=>(X9y w.value).bind λl=>(Xz0 l.1).bind λz=>(Xee l.2.1).bind λy=>QuR.bind λn=>yz (f,a,k,z.arg,n,y.2,l.2.2)
def X4q{QTh}{f k x y:Str}{a i:Expr}{sc:U2}(h:Xz1 e=yz (f,a,k,x,y,i,sc)):∃p0 an p1 p2 p3 L kp cp,e=.Call (.Name f p0) [a] [⟨yz k,.Lambda Qq4 (.Subscript (.Name y p2) i p3) sc L,kp⟩] cp:=by calc U61 λc e1 h=>?_;calc U61 λf' e2 h=>?_;calc U61 λa' e3 h=>?_;calc U61 λw e4 h=>?_;calc U61 λk' e5 h=>?_;calc U61 λl e6 h=>?_;calc U61 λz e7 h=>?_;calc U61 λu e8 h=>?_;calc U61 λn' e9 h=>?_;let h:=Um h;let d1:f'=f:=congrArg QT h;let d2:a'=a:=congrArg QVE h;let d3:k'=k:=congrArg (·.2.2.1) h;let d4:z.arg=x:=congrArg (·.2.2.2.1) h;let d5:n'=y:=congrArg (·.2.2.2.2.1) h;let d6:u.2=i:=congrArg (·.2.2.2.2.2.1) h;let d7:l.2.2=sc:=congrArg (·.2.2.2.2.2.2) h;calc Xd (X9x e1) λcp g1=>?_;calc Xd (Xaz e2) λp0 g2=>?_;calc Xd (X4o e6) λL g3=>?_;calc Xd (Xb9 e8) λp3 g5=>?_;calc Xd (Xaz e9) λp2 g6=>?_;let⟨wk,wv,kp⟩:=w;let⟨z1,z2,z3⟩:=z;let e5:wk=yz k':=e5;let g3:wv=.Lambda l.1 l.2.1 l.2.2 L:=g3;let d4:z1=x:=d4;calc⟨p0,z2,z3,p2,p3,L,kp,cp,?_⟩;rw[g1,g2,Xpi e3,Xpi e4,e5,g3,X4p e7,g5,g6,d1,d2,d3,d4,d5,d6,d7]
abbrev X9z{QDl}:Option Q1U:=match s with
 |.If UhE _=>yz (c,a,b)|_=>yy
def X4r{s:Stmt}{z:Expr×LM×LM}(h:X9z s=Qgy):∃p,s=.If UrE:=by
 cases s with
 |If Q5s=>cases h;calc Qd|_=>calc UV0
abbrev X90{QDl}:Option (Expr×Expr×LM×LM):=match s with
 |.For t i b L _=>yz (t,i,b,L)|_=>yy
def X4s(h:X90 s=Qgy):∃p,s=.For UZ2 p:=by
 cases s with
 |For Uu1=>cases h;calc Qd|_=>calc UV0
abbrev X91{QDl}:Option Q1U:=match s with
 |.While c b L _=>yz (c,b,L)|_=>yy
def X4t(h:X91 s=Qgy):∃p,s=.While UrE:=by
 cases s with
 |While Q5s=>cases h;calc Qd|_=>calc UV0
abbrev X92{QDl}:Option Q8I:=match s with
 |.Raise v w _=>yz (v,w)|_=>yy
def X4u(h:X92 s=Qgy):∃p,s=.Raise U96 p:=by
 cases s with
 |Raise QLq=>cases h;calc Qd|_=>calc UV0
abbrev X93{QDl}:Option (LM×List ExceptHandler×LM×LM):=match s with
 |.Try b hs L fb _=>yz (b,hs,L,fb)|_=>yy
def X4v(h:X93 s=Qgy):∃p,s=.Try UZ2 p:=by
 cases s with
 |Try Uu1=>cases h;calc Qd|_=>calc UV0
abbrev X94(h:ExceptHandler):Option (Expr×Str×Stmt×LM):=match h with
 |.ExceptHandler QdW (yz n) (b::su) _=>yz (e,n,b,su)|_=>yy
def X4w(q:X94 h=Qgy):∃p,h=.ExceptHandler (yz z.1) (yz z.2.1) (z.2.2.1::z.2.2.2) p:=by
 cases h with
 |ExceptHandler e n b p=>
  cases e with
  |none=>exact Yt q|some e=>
   cases n with
   |none=>exact Yt q|some n=>
    cases b with
    |nil=>calc Yt q|cons b L=>cases q;calc Qd
abbrev Xlb{QDl}:Nat:=match s with
 |.Pass _=>1|.Break _=>2|.Continue _=>3|_=>0
def vEnd_ok:(Xlb s=1->∃p,s=.Pass p)/\(Xlb s=2->∃p,s=.Break p)/\(Xlb s=3->∃p,s=.Continue p):=by
 let L:∀ {k:Nat} {P:Prop},0=k+1->P:=λz=>nomatch z;cases s with
 |Pass p=>calc⟨λ_=>Qd,λz=>(nomatch z),λz=>(nomatch z)⟩|Break p=>calc⟨λz=>(nomatch z),λ_=>Qd,λz=>(nomatch z)⟩|Continue p=>calc⟨λz=>(nomatch z),λz=>(nomatch z),λ_=>Qd⟩|_=>calc⟨L,L,L⟩
section
variable{Qrl}{QAj}{Qaj}
abbrev X95{QQl}(e:Ex){Qyj}:Bool:=QYG.any λt=>(vNm t).any λx=>decide QWF&&Xo0 QS9 sc x&&QPy&&(Xf2 yw QRF||(X9u v&&Xer QFN&&Xf2 yx QRF))
abbrev X1q(is:LN)(e:Ex){Qyj}:Bool:=QYG.any λt=>cm&&UNJ Qh9 t&&QPy&&U23&&Ut9
abbrev Yc2(es:Exs)(p:Pos)(i j:Nat)(a b x y t v:Expr):Bool:=(vNm x).any λxn=>Qoe.any λL=>cm&&decide (N[i]?=yz xn)&&decide (N[j]?=UvE)&&decide (i≠j)&&Xer (sc.names.lookup xn)&&Xer (sc.names.lookup L)&&mts QUu QLU &&
   Xk9 (yz [xn,L]) QU7&&U23
abbrev X96(es:Exs)(p:Pos)(is:LN)(ts:LX)(v:Expr):Bool:=QYG.any λt=>QRf.any λtn=>(Xiu v).any λvs=>(Xez is).any λi=>(Xez tn).any λx=>(Xez vs).any λa=>Yc2 QUu p i.1 i.2 a.1 a.2 x.1 x.2 t v
abbrev X1r(o i e:Ex){Qyj}:Bool:=QYG.any λt=>QZf.any λz=>Xao z.2&&Q0s o z.1&&Q0s i z.2&&QPy&&U23&&Ut9
abbrev X97(e o i q j:Ex){Qyj}:Bool:=QYG.any λt=>QRf.any λus=>(Xez us).any λw=>(Xee w.1).any λa=>(Xee w.2).any λb=>cm&&Xao a.2&&Xao b.2&&Q0s o a.1&&Q0s i a.2&&Q0s q b.1&&Q0s j b.2&&QPy&&U23&&Ut9
abbrev X1s(o i:Ex)(t:Expr):Bool:=QZf.any λz=>Xao z.2&&Q0s o z.1&&Q0s i z.2
abbrev Xz2(e:Ex)(w:Str×Expr×Str×Str×Str×Expr×U2):Bool:=cm&&decide (w.1="sorted")&&U75 w.1&&decide (w.2.2.1="key")&&X9 w.2.1&&Q0s e w.2.1&&decide (w.2.2.2.2.1=w.2.2.2.1)&&Xal w.2.2.2.1&&Xoz w.2.2.2.2.2.2 w.2.2.2.1&&Xd0 Qwa Qwa w.2.2.2.2.2.2&&Xjt w.2.2.2.2.2.2&&UYG w.2.2.2.2.2.1&&mks.any λm=>decide QLA
abbrev Xz3(c:Nat)(e:Ex)(v w:Qgr):Bool:=w.isNone&&v.any λr=>(Xb1 r).any λz=>Qw3.any λx=>decide QBX&&Qls&&UnC&&Uh3&&z.2.2.1.isEmpty&&Q0s e z.2.1
mutual
abbrev mtS{Qrl}:St->Stmt->Bool
 |.nev,_=>yx|.asg QA0 e,st=>Q4K.any λz=>X95 QHq i e QRw|.asg Qh9 e,st=>Q4K.any λz=>UpJ QRw|.par UdE,st=>Q4K.any λz=>X96 QUu z.2.2 is z.1 z.2.1|.aset o i e,st=>Q4K.any λz=>UmG QRw|.as2 UA8,st=>Q4K.any λz=>X97 QHq UA8 QRw|.augi UNB,st=>(X9v st).any λz=>X1s QHq o i z.1&&UbJ&&Q0s e z.2.2.1|.expr e,st=>(X9w st).any λz=>Xf2 yw (Vgr z.1 yy z.2.line (Xcx sc))&&Q0s e z.1|.ret e,st=>QSd.any λz=>z.any λv=>QPy|.rsk e m,st=>QSd.any λz=>z.any λv=>QYf.any λy=>Qob.any λq=>U0H&&Uz6 Q2M q.2&&Qmb.any λw=>Xz2 QHq e w|.ite UhE,st=>(X9z st).any λz=>Q0s c z.1&&UT3 a z.2.1&&UT3 b z.2.2|.for t it b,st=>(X90 st).any λz=>cm&&z.2.2.2.isEmpty&&Xdh z.2.1&&UNJ t z.1&&U3C it z.2.1&&UT3 b z.2.2.1&&UdG|.whl c b,st=>(X91 st).any λz=>z.2.2.isEmpty&&Q0s c z.1&&UT3 b z.2.1|.rse c e,st=>(X92 st).any λz=>cm&&Xz3 QHq c e U96|.try b c i h,st=>(X93 st).any λz=>QKH.any λy=>(X94 y).any λq=>(vNm q.1).any λx=>z.2.2.1.isEmpty&&z.2.2.2.isEmpty&&U2C&&decide QBX&&Qls&&UnC&&decide (N[i]?=yz q.2.1)&&Xer (sc.names.lookup q.2.1)&&UT3 b z.1&&mtSs yw h (q.2.2.1::q.2.2.2)|.pass,st=>Xlb st==1|.brk,st=>Xlb st==2|.cnt,st=>Xlb st==3
abbrev mtSs{Qrl}:Sts->LM->Bool
 |.nil,[]=>yx|.cons s ss,x::xs=>mtS cm s x&&UT3 ss xs|_,_=>yw
end
universe e
def Xf3(h:Xer k=yx):k=Q2r:=by
 unfold Xer at h;split at h;·rfl
 ·cases h
section
variable{QYh}{Qll}{Qxh}{QQm}
def DS.congr{Q3l}{QEn}(h:UoD f){Q4j}:UoD g:=by let:g=f:=funext λenv=>funext λS=>q QKq;rw[this];calc h
def DSs.congr{st:LM}{QEn}(h:U7D f){Q4j}:U7D g:=by let:g=f:=funext λenv=>funext λS=>q QKq;rw[this];calc h
def X98{Q3l}{na:Bool}:UoD (Qfs .nev):=λ_ _ _ _ _ _ _ _ L=>aB0 rfl L
structure TopOk{Qrl}{Qkn}{QAj}{QMl}{Qaj}:Prop where
 hN:X.N=N
 hs:X.env.scope=sc
 nd:N.Nodup
 fn:∀x,U43=yx
 pf:UV7
 stk:X.stack=X.env::X.outer
 frm:X.env.frame=Ul0
 lam:∀m∈mks,N.getLast?=yz Qef->LamAt X m
def TopOk.inH{QAh}{Qji}:TopOk yw F G Qxs QGH sc N:=
 ⟨T.hN,T.hs,T.nd,T.fn,⟨T.pf.blt,λf nm ar fl h L=>by
  calc Xdd (T.pf.fn f Qkw h (λz=>nomatch (L z))) λg fd ps k c1 c2 r=>?_;calc⟨g,fd,ps,k,c1,?_,r⟩;cases fl with
  |true=>calc nomatch (L rfl)
  |false=>calc c2.mark,T.pf.glb,T.pf.clf,T.pf.units,T.pf.gd,QT1,T.pf.err⟩,T.stk,T.frm,λm hm h=>let l:=T.lam m hm h;⟨l.qual,l.dep,l.cod,l.blt⟩⟩
variable{sc:U2}{N:LS}
abbrev isC:Ex->Bool
 |.nev=>yx|.cmr Q5s=>yx|.frz _=>yx|_=>yw
def X1t(h4:X9u v=yx)(L:isC e=yw)(h:QPy=yx):False:=by
 cases v with
 |ListComp ee UeE cp=>
  cases e with
  |nev=>cases L|cmr Q5s=>cases L|frz _=>cases L|_=>calc UGG
 |_=>calc ff h4
def Xz4{Qfi}{QAm}{QCm}(h:X95 QHq i e v p ts=yx):Q4x (Qfs QdX):=by
 exact QJs λt k1 aa=>?_;exact Xa (any_some aa) λx k2 ab=>?_;clear h aa;let h:=ab;clear ab;let k3:=UiC;exact Xd (Xaz k2) λpy k4=>?_;subst k4 k3
 ·rw[bA0,bA0,bA0,decide_eq_true_eq,Vch,bA0,bA0]at h;exact Xgb h λh1 h2 h3 h4=>?_;exact Xi (Xk1 (X:=X) T.hs QoG h2) λl1 l2=>?_;let af:=Q2D.1;let hN:=T.hN;let hs:=T.hs;subst hN hs;rcases h4 with h4|⟨⟨h4,h5⟩,h6⟩;·let hw:=Xc9 h4;rw[<-Xpg]at hw;exact(X6q T.nd h1 l1 l2 af hw).congr λ_ _=>rfl
  ·let hw:=Xc9 h6;rw[<-Xpg]at hw;let ac:∀k n L elt,mt cm Qxs QYw QaR v=yx->UoH (.Assign QOZ v p) yw (λenv S=>(QNq QaR QKq).bind λx S=>Uy5):=λk n L elt h3=>by
    exact Ye (Xwq h3) λee gens scope cp ag m0 m1 m2 m3 m4 m5=>?_;subst ag;subst m1 m2;let so:=Xwo m3;let ae:=T.pf.calm m0;let⟨c⟩:=Xr6 (p:=cp) rfl rfl T.pf ae so (sndg L X Q5s gens rfl rfl T.pf m4) (λY y1 y2 y3=>(UT6 m5).1);exact(X23 (py:=py) (spos:=p) T.nd h1 Qed hw ae so rfl c.hg Uj4).congr λenv S=>?_;let:=congrFun (congrFun c.eq env) S;rw[this]
    all_goals rfl
   cases e with
   |nev=>exact λ_ _ _ _ _ _ _ _ nb=>aB0 rfl nb|cmr U88=>exact(ac U88 h3).congr λ_ _=>rfl|frz a=>
    cases a with
    |nev=>calc λ_ _ _ _ _ _ _ _ nb=>aB0 rfl nb|cmr U88=>calc((ac U88 QLV.2).frzA h1).congr λ_ _=>rfl|frz a=>calc ff QLV.1.1|_=>calc(X1t h4 rfl QLV.2).elim
   |_=>calc(X1t h4 rfl h3).elim
def Xz5{is:LN}{QAm}{QCm}(h:UpJ v p ts=yx):Q4x (Qfs QcX):=by calc QJs λt k1 aa=>?_;clear h;let h:=aa;clear aa;let k3:=UiC;subst k3;·rw[bA0,bA0,bA0,bA0]at h;calc Xcf h λh0 h1 h2 h3 h4=>?_;let L:=h1;simp[mtT]at L;calc Xa (any_some L) λae q1 _=>?_;calc Yy (Xcn q1) λaf ac q2=>?_;subst q2;let ab:=(Ug5 h2).1;let hg:=Qhv h1;let w1:=Xc9 h3;let w2:=Xho h4;rw[<-T.hs]at w1 w2;rw[<-Xhp]at w1;rw[<-Xhq]at w2;calc(X9n ab hg w1 w2 rfl).congr λ_ _=>rfl
def X4x{is:LN}{es:Exs}{QCm}(h:X96 QUu p is ts v=yx):Q4x (Qfs (.par UdE)):=by
 exact QJs λt k1 L=>?_;clear h;let h:=L;clear L;exact QJs λtn k2 L=>?_;clear h;let h:=L;clear L;exact QJs λvs k3 L=>?_;clear h;let h:=L;clear L;let e1:=UiC;exact Yy Qkd λkt pt e2=>?_;exact Yy (Xcn k3) λkv pv e3=>?_;subst e1 e2 e3;let⟨⟨i,j⟩,k4,L⟩:=Quq;clear h;let h:=L;clear L;let⟨⟨x,y⟩,k5,L⟩:=Quq;clear h;let h:=L;clear L;let⟨⟨a,b⟩,k6,L⟩:=Quq;clear h;let h:=L;clear L;let e4:=Xco k4;let e5:=Xco k5;let e6:=Xco k6;subst e4 e5 e6;exact QJs λxn k7 L=>?_;clear h;let h:=L;clear L;exact QJs λyn k8 L=>?_;clear h;let h:=L;clear L;exact Xd (Xaz k7) λpx e7=>?_;exact Xd (Xaz k8) λpy e8=>?_;dsimp at e7 e8;subst e7 e8
 iterate 8 rw[bA0]at h
 let⟨⟨⟨⟨⟨⟨⟨⟨h0,h1⟩,h2⟩,h3⟩,h4⟩,h5⟩,h6⟩,h7⟩,h8⟩:=h;let aa:=snds es Q8t h6;let hN:=T.hN;let hs:=T.hs;subst hN hs;let w1:=Xc9 h8;let w2:=Xho h7;rw[<-Xhp]at w1;rw[<-Xhq]at w2;calc(X4h QJC T.nd Q7d Q6d (oD0 h3) (Xf3 h4) Qed aa w2 w1).congr λ_ _=>rfl
def Xz6{o i e:Ex}{QCm}(h:UmG v p ts=yx):Q4x (Qfs (.aset o i e)):=by
 exact QJs λt k1 aa=>?_;let⟨⟨ox,ix⟩,k2,L⟩:=any_some aa;clear h aa;let h:=L;clear L;let k3:=UiC;exact Xd (Xb9 k2) λsp k4=>?_;dsimp at k4;subst k4 k3
 ·iterate 5 rw[bA0]at h
  calc Xav h λh1 h2 h3 h4 h5 h6=>?_;let w1:=Xc9 h5;let w2:=Xho h6;rw[<-T.hs]at w1 w2;rw[<-Xhp]at w1;rw[<-Xhq]at w2;calc((X4i Q49 (Ug5 h4).1 (UsB h2).1 (UtB h3).1 w1 w2 h1).weak (na2:=yw) λz=>nomatch z).congr λ_ _=>rfl
def X4y{e o i q j:Ex}{QCm}(h:X97 QHq e o i q j v p ts=yx):Q4x (Qfs (.as2 e o i q j)):=by calc QJs λt k1 h2=>?_;calc UnJ λus k2 h3=>?_;let⟨⟨L,w2⟩,k3,h4⟩:=any_some h3;let⟨⟨ox,ix⟩,k4,h5⟩:=U77;let⟨⟨aa,ab⟩,k5,h6⟩:=any_some h5;clear h h2 h3 h4 h5;let e1:=UiC;calc Yy Qkd λkt pt e2=>?_;let e3:=Xco k3;calc Xd (Xb9 k4) λsp e4=>?_;calc Xd (Xb9 k5) λac e5=>?_;dsimp at e3 e4 e5 h6;subst e4 e5 e3 e2 e1;simp[bA0]at h6;let⟨⟨⟨⟨⟨⟨⟨⟨⟨h0,ha⟩,hb⟩,ho⟩,hi⟩,hq⟩,hj⟩,he⟩,hs⟩,hw⟩:=h6;let L:=Xc9 hs;let w2:=Xho hw;rw[<-T.hs]at L w2;rw[<-Xhp]at L;rw[<-Xhq]at w2;calc((X9o QJC Q49 (Ug5 he).1 (UsB ho).1 (UtB hi).1 (snd q Q8t hq).1 (snd j Q8t hj).1 L w2 UN4).weak (na2:=yw) λz=>nomatch z).congr λ_ _=>rfl
def Xz7{o i:Ex}{op:Bo}{QAm}{oo:Operator}{QAh}(h:(X1s QHq o i t&&Xtp op oo&&QPy)=yx):UoH (.AugAssign t oo v p) yw (Qfs (.augi UNB)):=by simp[bA0]at h;calc Xe5 h λh1 h2 h3=>?_;let⟨⟨ox,ix⟩,k1,L⟩:=any_some h1;clear h1;let h1:=L;clear L;calc Xd (Xb9 k1) λpx k2=>?_;dsimp at k2;subst k2;let e1:=Xrx h2;subst e1;·rw[bA0,bA0]at h1;calc Xe5 h1 λm1 m2 m3=>?_;calc((X4j Q49 (UsB m2).1 (UtB m3).1 Q2D.1 (Xw1 m1)).weak (na2:=yw) λz=>nomatch z).congr λ_ _=>rfl
def X4z{QAm}{QGp}(h:(v.any λv=>QPy)=yx):UoH QLW yx (Qfs QyV):=by calc QJs λv L h=>?_;subst L;calc(Xve (Ug5 h).1).congr λ_ _=>rfl
def X40{e m:Ex}{QGp}(h:(v.any λv=>QYf.any λy=>Qob.any λq=>U0H&&Uz6 Q2M q.2&&Qmb.any λw=>Xz2 QHq e w)=yx):UoH QLW yx (Qfs (.rsk e m)):=by
 exact QJs λv ac g1=>?_;subst ac;clear h;exact Xa (any_some g1) λy h1 g2=>?_;exact Xa (any_some g2) λq h2 g3=>?_;clear g1 g2;rw[bA0,bA0]at g3;exact Xe5 g3 λh3 h4 g4=>?_;let⟨⟨f,a,k,x,z,i,af⟩,h5,h⟩:=any_some g4;clear g4;unfold Xz2 at h;dsimp at h
 iterate 12 rw[bA0]at h
 let⟨⟨⟨⟨⟨⟨⟨⟨⟨⟨⟨⟨m1,m2⟩,m3⟩,m4⟩,m5⟩,m6⟩,m7⟩,m8⟩,m9⟩,L⟩,ab⟩,aa⟩,ae⟩:=h;let n2:=oD0 m2;let n4:=oD0 m4;let n7:=oD0 m7;subst n2 n4 n7;calc UgJ λp1 e1=>?_;calc Xd (Xrz h2) λp2 e2=>?_;let⟨p0,an,q1,q2,q3,lp,kp,cp,e3⟩:=X4q h5;calc Xs (Xa9 m8) λo1 o2 _=>?_;calc Xa (Vhr.mp ae) λnm hm hn=>?_;let hl:=T.lam nm hm (oD0 hn);rw[e1,e2,e3];calc(Xve (X1n (Yc1 T.pf.units (T.pf.calm m1) hl (Xaj T.hs m3) (T.pf.blt _ Q2) (Q4u a Qaq m6).1 (Xv m5) (Xph L) ab (Xrw m9) o1 o2 aa) (sndo .none Q8t h3) (sndo Q2M Q8t h4))).congr λ_ _=>rfl
def X41{c:Nat}{QAm}{v w:Qgr}{QAh}(h0:cm=yx)(h:Xz3 QHq c e v w=yx):UoH (.Raise v w p) yx (Qfs (.rse c e)):=by
 unfold Xz3 at h;rw[bA0]at h;let⟨hw,h⟩:=h;cases w with
 |some _=>cases hw|none=>
  let⟨r,er,hq⟩:=Quq;exact Yr (Xdo hq) λx px y ys cp aa L=>?_;clear h hq;let h:=L;clear L;subst aa er
  iterate 5 rw[bA0]at h
  calc Xav h λh1 h2 h3 h4 h6 h5=>?_;let h1:=Ux4;let e6:=Va7.mp h6;dsimp at e6;subst e6;calc Xa (U9B h1) λC k1 k2=>?_;calc(X9r QJC h1 k2 (T.pf.err.cls c C k1).1 (Xaj T.hs h2) QBK.1 (Q4u y Qaq h5).1 h4).congr λ_ _=>rfl
mutual
def Yee{Qll}{QQm}:∀(x:St) (st:Stmt),Ud6->mtS Uh2 x st=yx->Q3x (X6b x) (Qfs x)
 |.nev=>λst T h=>X98|.asg QA0 e=>λst T h=>by exact QJs λz h1 L=>?_;clear h;let h:=L;clear L;rw[Xfd h1];exact Xz4 T h|.asg Qh9 e=>λst T h=>by exact QJs λz h1 L=>?_;clear h;let h:=L;clear L;rw[Xfd h1];exact Xz5 T h|.par UdE=>λst T h=>by exact QJs λz h1 L=>?_;clear h;let h:=L;clear L;rw[Xfd h1];exact X4x T h|.aset o i e=>λst T h=>by exact QJs λz h1 L=>?_;clear h;let h:=L;clear L;rw[Xfd h1];exact Xz6 T h|.as2 UA8=>λst T h=>by exact QJs λz h1 L=>?_;clear h;let h:=L;clear L;rw[Xfd h1];exact X4y T h|.augi UNB=>λst T h=>by exact QJs λz h1 L=>?_;clear h;let h:=L;clear L;rw[X4m h1];exact Xz7 T h|.expr e=>λst T h=>by exact QJs λz h1 L=>?_;clear h;let h:=L;clear L;rw[X4n h1];rw[bA0]at h;let w1:=Xc9 h.1;rw[<-T.hs,<-Xpg]at w1;exact(X2o (Q4u z.1 Qaq h.2).1 w1).congr λ_ _=>rfl|.ret e=>λst T h=>by exact QJs λz h1 L=>?_;clear h;let h:=L;clear L;exact Xd QZd λp aa=>?_;subst aa;exact X4z T h|.rsk e m=>λst T h=>by exact QJs λz h1 L=>?_;exact Xd QZd λp aa=>?_;subst aa;exact(X40 T L).weak λz=>nomatch z|.ite UhE=>λst T h=>by exact QJs λz h1 L=>?_;clear h;let h:=L;clear L;exact Xd (X4r h1) λp aa=>?_;subst aa;rw[bA0,bA0]at h;exact(Yb8 (Uv4 z.1 Qaq h.1.1).2 (sndSs a z.2.1 T h.1.2) (sndSs b z.2.2 T h.2)).congr λ_ _=>rfl|.for t it b=>λst T h=>by
  let⟨⟨tg,iter,body,oe⟩,h1,L⟩:=Quq;clear h;let h:=L;clear L;exact Xd (X4s h1) λp aa=>?_;subst aa
  iterate 6 rw[bA0]at h
  let⟨⟨⟨⟨⟨⟨h0,h1⟩,h2⟩,h3⟩,h4⟩,h5⟩,h6⟩:=h;let e1:=U5D;dsimp at e1;subst e1;let hg:=Qhv h3;exact(X64 T.stk T.frm QJC (UM2 Qaq QVY h4) hg (UB2 h5) (Xf1 h2)).congr λ_ _=>rfl|.whl c b=>λst T h=>by let⟨⟨cx,body,oe⟩,h1,L⟩:=Quq;clear h;let h:=L;clear L;exact Xd (X4t h1) λp aa=>?_;subst aa;rw[bA0,bA0]at h;exact Xe5 h λh1 h2 h3=>?_;let e1:=U5D;dsimp at e1;subst e1;exact(X9p (Uv4 cx Qaq h2).2 (UB2 h3)).congr λ_ _=>rfl|.rse c e=>λst T h=>by exact QJs λz h1 L=>?_;clear h;let h:=L;clear L;exact Xd (X4u h1) λp aa=>?_;subst aa;rw[bA0]at h;exact X41 T h.1 h.2|.try b c i hd=>λst T h=>by
  let⟨⟨body,hs,oe,fb⟩,k1,L⟩:=Quq;clear h;let h:=L;clear L;exact QJs λy k2 L=>?_;clear h;let h:=L;clear L;let⟨⟨te,n,b0,su⟩,k3,L⟩:=Quq;clear h;let h:=L;clear L;exact QJs λx k4 L=>?_;clear h;let h:=L;clear L;exact Xd (X4v k1) λp e1=>?_;let e2:=Xbs k2;exact Xd (X4w k3) λhp e3=>?_;exact Xd (Xaz k4) λnp e4=>?_;dsimp at e1 e2 e3 e4;subst e4 e3 e2 e1
  iterate 9 rw[bA0]at h
  let⟨⟨⟨⟨⟨⟨⟨⟨⟨h1,h2⟩,h3⟩,h4⟩,h5⟩,h6⟩,h7⟩,h8⟩,h9⟩,ab⟩:=h;let e1:=U5D;let e2:=Va7.mp h2;let h4:=oD0 h4;let h7:=oD0 h7;dsimp at e1 e2 h7;subst e1 e2;let ib:=UB2 h9;rw[h3]at ib;let ih:∀a,DSs QGH QOd (nasgs hd) (Qbq hd):=λa=>sndSs hd QOd (T.inH a) ab;exact Xa (U9B h4) λC0 k1 k2=>?_;let hN:=T.hN;let hs:=T.hs;subst hN hs;exact(X9t (c:=c) T.stk T.frm T.nd h7 (Xf3 h8) k2 (Xaj rfl h5) (Xa9 h6).1 (λc' C e1 e2=>(T.pf.err.sub c' C c C0 e1 k1).2 e2) ib ih).congr λenv S=>by show(if nasgs b=yx then _ else _)=_;rw[iP0 h3];rfl|.pass=>λst T h=>by let h:=Uy0;exact Xd (vEnd_ok.1 h) λp aa=>?_;subst aa;exact ds_pass.congr λ_ _=>rfl|.brk=>λst T h=>by let h:=Uy0;exact Xd (vEnd_ok.2.1 h) λp aa=>?_;subst aa;exact ds_brk.congr λ_ _=>rfl|.cnt=>λst T h=>by let h:=Uy0;exact Xd (vEnd_ok.2.2 h) λp aa=>?_;subst aa;exact ds_cnt.congr λ_ _=>rfl
def sndSs{Qll}{QQm}:∀(x:Sts) (st:LM),Ud6->mtSs Uh2 x st=yx->UV2 st (nasgs x) (Qbq x)
 |.nil,[]=>λT h=>dss_nil.congr λ_ _=>rfl|.cons s ss,x::xs=>λT h=>by let h':(mtS Uh2 s x&&mtSs Uh2 ss xs)=true:=h;rw[bA0]at h';exact(Xx8 (Yee s x T h'.1) (sndSs ss xs T h'.2)).congr λ_ _=>rfl|.nil,_::_=>λT h=>by cases h|.cons _ _,[]=>λT h=>by cases h
end
universe e
theorem BM(mg:Str->OV)(base:Heap):Prop:=∃L ob,mg "__builtins__"=yz Q1W/\L≠Vgv/\base.get? L=UW9/\ob.cls=UUF /\ ob.dict=yz Vgv/\ob.data=.plain
abbrev Xe0{Quk}{Q5m}:Bool:=match PySem.W.tabIn K nm with
 |some (c,P)=>PySem.W.codeHdIn K c P&&decide (Qsy=yz QFA)|none=>yw
theorem Xiy{Quk}(N:LS){Q5m}:Prop:=∀m∈mks,N.getLast?=yz Qef->m=nm/\Xe0 K m=yx
structure DefOk{Qum}{QAj}(d:Df){Q5m}(ar:Nat)(fl:Bool):Prop where
 ex:∃g fd st N ps,Q2x/\Van UL0=yz QXU/\Xiy K N nm/\mg nm=UiB/\Xd0 N ps Q36=yx/\mtSs QOr=yx/\d.np=Qow/\d.nl=N.length/\QW5=ar/\Binds UK0
section
variable{QAk}{Q7l}{Qxh}
def Xpj(ak:∀(f:Nat) (nm:Str),QDy=yx->∃L fl,fns[f]?=UQ8/\Qt3/\∀k xs S,Quy≠.bad->QPs=L){Qeh}{Qgj}
  (ih:∀(f:Nat) nm L fl,fns[f]?=UQ8->∃g fd ps,USF/\Binds UK0/\mg nm=UiB/\Vdw K Q86=yx/\QW5=L)
  {f:Nat} {nm:Str} {fl:Bool} {d:Df} {g:Addr} {fd:Vdv} {st:Stmt} {N ps:LS} (ac:Qk3->Qzv/\BM Ue2) (af:Van UL0=yz QXU) (ae:QCy) (hT:T[f]?=Um2) (F:Q2x) (hS:UgG Q36=yx) (hM:UZ8=yx) (hp:d.np=Qow) (hn:d.nl=N.length):
  FnD fl Qyq QB3 g fd ps QzT:=by
 let⟨oc,od,kV,am,pm,an,ao,ct,al,rfl,lk,ab⟩:=F.ex;let aa:=Xph hS;let aj:=X6r (cm:=fl) (P:=P) (w:=w) (mg:=mg) (base:=base) (k:=k) (G:=U0C) (na:=nasgs d.body) lk ab aa λA outer s H E hr=>by
  exact sndSs (fns:=fns) (gns:=gns) (sc:=X0 st) (N:=N) d.body QbC ⟨rfl,rfl,aa.nd,λ_=>rfl,⟨hb,λf nm L ai h ag=>?_,hg,λf nm h=>let ⟨L,fl,h1,h2,h3⟩:=ak f nm h;⟨L,fl,h1,h2,h3 k⟩,?_,hr.gd,id,er⟩,rfl,rfl,?lam⟩ hM
  case lam=>
   intro m hm hN;exact Xi (ae m hm hN) λah hl=>?_;subst ah;let hb:=ac ⟨m,hm,hl⟩;unfold Xe0 at hl;split at hl
   ·rename_i c P hq;rw[bA0,decide_eq_true_eq]at hl;calc⟨rfl,by let:=hr.dp;show QTX.depth+5<_;omega,⟨c,P,?_,PySem.W.codeHd_of_K hb.1 hl.1,hl.2⟩,hb.2⟩;simp[PySem.W.tabIn,af,lk]at hq;split at hq
    ·split at hq
     ·split at hq;·cases hq;rfl
      ·cases hq
     cases hq
    cases hq
   cases hl
  ·exact Xk (ih f nm L ai h) λg fd ps h1 h2 h3 h4 h5=>?_;exact⟨g,fd,ps,k,h1,hr.less ag,h2,h3,h4,h5⟩
  let:=hr.un;show QTX.units+200<Val;omega
 let e:QNy f=(λds S=>gcB d.gc S (if QV3=Qow then Xin (U0C Qm2 S) else .bad)):=by
  funext ds S;simp[FT,hT,den,hp,hn];split;·rfl
  ·cases d.gc<;>rfl
 rw[e];calc aj.gcF d.gc
def table(af:∀(f:Nat) (nm:Str),QDy=yx->∃L fl,fns[f]?=UQ8/\Qt3/\∀k xs S,Quy≠.bad->QPs=L){Qeh}
  (ae:Qk3->Qzv/\BM Ue2) (hd:∀(f:Nat) nm L fl,fns[f]?=UQ8->∃d,T[f]?=Um2/\DefOk QHr d nm L fl):
  ∀(k f:Nat) nm L fl,fns[f]?=UQ8->∃g fd ps,USF/\Binds UK0/\mg nm=UiB/\Vdw K Q86=yx/\QW5=L:=by
 intro k;induction k with
 |zero=>intro f U58;let⟨d,_,⟨g,fd,st,N,ps,F,_,_,hm,_,_,_,_,hl,hB⟩⟩:=hd f U58;calc⟨g,fd,ps,⟨λA outer s H ag us vs Q E _ _ _ _ ac=>?_⟩,hB,hm,F.kp,hl⟩;calc Xk ac λds ρ S' _ _ _ nb _=>?_;cases nb rfl|succ k ih=>intro f U58;let⟨d,hT,⟨g,fd,st,N,ps,F,ab,aa,hm,hS,hM,hp,hn,hl,hB⟩⟩:=hd f U58;calc⟨g,fd,ps,Xpj af er hb hg ih ae ab aa hT F hS hM hp hn,hB,hm,F.kp,hl⟩
universe e
structure FunAt{Quk}{Q5m}{Qvo}:Prop where
 ex:∃g fd,Q2x/\Van UL0=yz QXU
def funAt_mk{Qck}{QOm}{Qvi}(a:Van UL0=yz Qvc)
  (l:UH3=yz ⟨oc,od,.func Q60,ab⟩) (c:Vgy K L nm=yx) (k:UwC=yx):QKr nm st:=⟨⟨f,_,X59 l c k,a⟩⟩
theorem Xhr{Q5m}{Qvo}(ps:LS):Prop:=∀(kV aa pm:Vb) (an:QCu) (L ct:Vb) (us:LV),U2G=Qow->UuC QbA=UyF
def Xb2{nm a:Str}{Q3l}(h:∀kV aa pm an L ct u,UuC QA7=pure [(a,u)]:=by intros;rfl):U51 [a]:=λkV aa pm an L ct us hl=>by rcases us with _|⟨u,_|_⟩<;>first|calc h .. | cases hl
def Xt2{nm a b:Str}{Q3l}(h:∀kV aa pm an L ct u v,UuC ⟨[u,v],[]⟩=pure [(a,u),(b,v)]:=by intros;rfl):U51 QLU:=λkV aa pm an L ct us hl=>by rcases us with _|⟨u,_|⟨v,_|_⟩⟩<;>first|calc h .. | cases hl
def Xz8{nm a b c:Str}{Q3l}(h:∀kV aa pm an L ct u v x,UuC ⟨[u,v,x],[]⟩=pure [(a,u),(b,v),(c,x)]:=by intros;rfl):U51 [a,b,c]:=λkV aa pm an L ct us hl=>by rcases us with _|⟨u,_|⟨v,_|⟨x,_|_⟩⟩⟩<;>first|calc h .. | cases hl
def X1u{Qck}{N:LS}{QOm}(h:(mks.all λm=>!decide QLA)=yx):QCy:=λm L e=>by let:=U6.mp h m L;rw[decide_eq_true e]at this;cases this
def Yc3{Qck}{N:LS}{QOm}(hl:Xe0 K nm=yx)(h:(mks.all λm=>!decide QLA||decide QGb)=yx):QCy:=λm L e=>by let:=U6.mp h m L;rw[decide_eq_true e,Vc7,Vhp,decide_eq_true_eq]at this;calc⟨this,this▸hl⟩
def Xz9{QYj}{N ps:LS}{QPj}{QDn}
  (hS:UgG Q36=yx) (hM:UZ8=yx) (hp:d.np=Qow) (hn:d.nl=N.length) (hl:QW5=ar) (hB:U51 ps) (L:QCy):DefOk UK8:=by
 calc Xf F.ex λg fd h1 h2=>?_;calc⟨g,fd,st,N,ps,h1,h2,L,UpG h2,hS,hM,hp,hn,hl,h1.binds hB⟩
private abbrev MD{QAj}{Qvo}{QBp}:Prop:=(UZ8&&UhG)=yx
def mm{Qij}:UZ8=true:=QFG.1
def ms{Qij}:UhG=true:=QFG.2
def dk{QYj}{N:LS}{QPj}{QDn}
  (hM:MD Qxs st N fl d) (hB:U51 QKA) (L:QCy:=by calc X1u Q8) (hp:d.np=QKA.length:=by rfl) (hn:d.nl=N.length:=by rfl) (hl:QKA.length=ar:=by rfl):DefOk UK8:=Xz9 X Gm F (ms hM) (mm hM) hp hn hl hB L
theorem AllD{Qum}{QAj}:LF->QTy->Prop
 |[],[]=>True|x::r,d::ds=>Ud1/\AllD QHr r ds|_,_=>False
def AllD.c{Qck}{Qli}{Qxh}{x:Str×Nat×Bool}{r:LF}{d:Df}{ds:QTy}(h:Ud1)(t:UE9 r ds):UE9 (x::r) QNY:=⟨h,t⟩
def AllD.get{Qck}{Qli}{Qxh}:∀ {fs:LF} {ds:QTy},UE9 fs ds->∀(f:Nat) nm ar fl,fs[f]?=UhB->∃d,ds[f]?=Um2/\DefOk UK8
 |[],[],_,f,nm,ar,fl,e=>by cases e|x::r,d::ds,h,0,nm,ar,fl,e=>by cases e;calc⟨d,rfl,h.1⟩|x::r,d::ds,h,f+1,nm,ar,fl,e=>AllD.get h.2 f Qkw e
abbrev X99{Quk}:Bool:=blts.all λx=>match Van K Uw x with
 |some yy=>yx|_=>yw
def X42{Qtn}{Qli}{QPj}(e:X99 K=yx):∀x∈blts,mg x=none:=λx L=>by
 let:=U6.mp e x L;split at this;·rename_i q;exact PySem.W.mg_none_of X Gm q
 ·cases this
def Xlc{Qtn}{Qli}{QOm}{i:Int}{t:Tok}{QBo}(e:Van UL0=yz (yz QYQ)):∃u d,mg nm=QIt/\yz (D.int i)=Um2/\∀ ρ H,∃v,QNr/\RD QFs:=
 ⟨_,_,Vd9 X L e,rfl,λ_ _=>⟨QFu,Qv0,by simp[RD]⟩⟩
abbrev Xld(fns:LF):LD->Bool
 |[]=>yx|.fn f nm::r=>(match fns[f]? with|some (m,_,_)=>decide QGb|none=>yw)&&UVC r|_::r=>UVC r
def Xle:∀ {G:LD},UVC G=yx->QDy=yx->∃L fl,fns[f]?=UQ8
 |[],_,h=>by cases h|d::r,hc,h=>by
  cases d with
  |fn g m=>
   simp[Xld,bA0]at hc;simp[Xfp,Vch,bA0,beq_iff_eq,decide_eq_true_eq]at h;rcases h with⟨rfl,rfl⟩|h
   ·let h1:=hc.1;split at h1;·rename_i m' L fl e;let:=Ux4;subst this;exact⟨L,fl,e⟩
    ·cases h1
   calc Xle hc.2 h|_=>calc Xle (by simpa only[Xld] using hc) (by simpa only[Xfp] using h)
def Yaa(hT:T[f]?=Um2):∀(k:Nat) (xs:LD) (S:Sto),Quy≠.bad->QPs=d.np
 |0=>λxs S h=>aB0 rfl h|k+1=>λxs S h=>by
  simp[FT,hT,den]at h;split at h;·assumption
  ·cases h rfl
def law_fn {QWh}{QSi}{Qli}{Q7l}{Qxh}{fa:Addr}{k f:Nat}{d:Df}{Q3l}{N:LS}{Qil}{QPj}(ac:mg "law"=U2J)
  (er:ErrOk K) (hb:∀x∈blts,mg x=yy) (hg:∀(k:Nat) nm,gns[k]?=UkF->∃u d,mg nm=QIt/\G[k]?=Um2/\∀ ρ H,∃v,QNr/\RD QFs)
  (hd:∀(f:Nat) nm ar fl,fns[f]?=UhB->∃d,T[f]?=Um2/\DefOk UK8)
  (hT:T[f]?=Um2) (F:QKr "law" st) (hS:Xd0 N [x] Q36=yx) (hM:mtSs Qxs Q36 N yx d.body QbC=yx) (hp:d.np=1) (hn:d.nl=N.length) (hB:Xhr "law" st [x]) (ag:UVC G=true:=by rfl) (af:Xiy K N "law":=by calc X1u Q8):
  ∃fd:Vdv,Qw9/\∀base:Heap,Qzv->QIQ->UkH QbH QB3 UOI (UrB 1 QzT):=by
 exact Xf F.ex λg fd h1 h2=>?_;let e:=ac.symm.trans (UpG h2);cases e;calc⟨fd,λs u=>?_,λbase kb bm=>?_⟩;·let⟨oc,od,kV,ah,pm,an,ai,ct,ak,rfl,_⟩:=h1.ex;exact .of_eq (hB kV ah pm an ai ct [u] rfl)
 ·let aa:∀(f:Nat) (nm:Str),QDy=yx->∃ar fl,fns[f]?=UhB/\Qt3/\∀k xs S,Quy≠.bad->QPs=ar:=λf nm h=>by
   exact Yy (Xle ag h) λar fl q=>?_;let⟨d',ae,⟨_,_,_,_,aj,_,_,_,_,_,_,e1,_,e2,_⟩⟩:=hd f Qkw q;exact⟨ar,fl,q,λa z=>UpG z,λk xs S z=>by rw[Yaa ae k xs S z,e1,e2]⟩
  let L:Qk3->Qzv/\BM Ue2:=λz=>⟨kb,bm z⟩;let:=Xpj (P:=P) (w:=w) (base:=base) aa er hb hg (λf nm ar fl q=>table aa er hb hg L hd k f Qkw q) L h2 af hT h1 hS hM hp hn;calc⟨λvs H Q E z=>let ⟨_,_,_,q,_⟩:=z;q,λA outer s H ab us vs Q E hr=>this.run A QRu ab us vs Q E (.of hr)⟩
def Yab{Qck}{bo:Bool}{F:LD->Sto->R D}{H:Hp}{QZh}{Qnn}(hO:∀xs,H a≠Qqu)(hT:Up3)(hS:UCH)(hF:∃S',F Q0N []=Q8x S'):
  spD K bo 1 F QwH H QMP λ_ _ _=>False:=by
 exact Xd hF λS' e=>?_;let L:FrL K H a Qa1:=by
  exact Xfn hS Qv3 (λo h=>?_) λh=>?_;·exact aB0 h (hO _)
  ·exact .inl QqM
  exact Qzy
 calc⟨Q0N,[],[],rfl,.cons ?_ .nil,⟨hT,rfl,Vg1,λn a o q=>by simp! at q⟩,QTG,λd S2 v H' ρ' q rd _ _=>?_,λn c S2 a H' ρ' q=>?_⟩;·simp[RD];exact⟨a,_,rfl,L,RDs.ints ns⟩
 ·rw[e]at q;cases q;simpa only[RD] using rd
 ·rw[e]at q;cases q
def Yac{Qdo}(s:Vc){QTo}(z:CXd P w [] H s QD7 e s'):False:=by let⟨_,_,_,_,_,_,q⟩:=z;calc q
section
variable{QYh}{s:St}{Qan}{env e:En}{Q2k}
def Xbt(h:UTD=.ok Qa5 S1):UZ7=QGs e S1:=by show(match exe UnI with | .ok Qnu=>QIw|r=>r)=_;rw[h]
def Xhs(h:UTD=Ul1 S1):UZ7=Ul1 S1:=by show(match exe UnI with | .ok Qnu=>QIw|r=>r)=_;rw[h]
def X43(h:UTD=.ex QVw):UZ7=.ex QVw:=by show(match exe UnI with | .ok Qnu=>QIw|r=>r)=_;rw[h]
universe e
def Y2(i j:Int){QIh}:Ui3 Qcv=UOE:=rfl
def Xr9(i j:Int){QIh}:X1 .sub Qcv=UPE:=rfl
def Xfe(h:UG7=yx){QIh}:X1 .mul Qcv=ULE:=by simp[X1,h,if_true]
def X0a(h:Xg4 j=yx){QIh}:X1 .fdiv Qcv=.ok QWX S:=by simp[X1,h,if_true]
def Xht(h:0<j){QIh}:X1 .mod Qcv=.ok QXX S:=by simp[X1,h,if_true]
def X44(h:0<=j/\j<=1000/\i.natAbs<2^63){QIh}:X1 .pow Qcv=.ok Q4P S:=by simp[X1,h,and_self,if_true]
def Xlf(h1:-1000000000000000<j)(h2:j<1000000000000000):UG7=true:=by unfold Xbh;simp[Vch,bA0,decide_eq_true_eq];left;right;constructor<;>omega
def Xsa(h1:-1000000000000000<i)(h2:i<1000000000000000):UG7=true:=by unfold Xbh;simp[Vch,bA0,decide_eq_true_eq];left;left;constructor<;>omega
universe Z
universe e
section
namespace Z
open PySem PySem.W
section
variable(tb:String->Option Vbf)(p:Vz)(w:V7){QEl}(ann:OV)
abbrev topT:Nat->SharedT->Thread->Option SharedT
 |0,_,_=>yy|n+1,s,t=>match through t with
  |true=>yz s|false=>match stepOk m ann t with
   |false=>yy|true=>match stepT QMY p w s t with
    |some (s',t')=>topT n s' t'|none=>yy
universe e
def Xsb{tb:String->Option Vbf}{p:Vz}{w:V7}{Qjl}{ann:OV}:∀ {n:Nat} {s s':SharedT} {t:Thread},topT UpK s t=yz s'->topRun UpK s.abs t=yz s'.abs
 |0,_,_,_,h=>by cases h|n+1,s,s',t,h=>by
  unfold topT at h;unfold topRun;cases ht:through t with
  |true=>rw[ht]at h;cases h;rfl|false=>
   rw[ht]at h;cases L:stepOk m ann t with
   |false=>rw[L]at h;cases h|true=>
    rw[L]at h;cases hs:stepT QMY p w s t with
    |none=>rw[hs]at h;cases h|some r=>let⟨a,b⟩:=r;rw[hs]at h;rw[stepT_spec hs];calc Xsb h
abbrev Xm7{Qip}:BT:=
 .node (boot_o_0 P) (.node (boot_o_1 P) (.node (boot_o_3 P) (.node (boot_o_7 P) Qht) .nil) (.node (boot_o_5 P) (.node (boot_o_9 P) Qht) .nil))
  (.node (boot_o_2 P) (.node (boot_o_4 P) (.node (boot_o_8 P) Qht) .nil) (.node (boot_o_6 P) (.node (boot_o_10 P) Qht) .nil))
abbrev Xm8:Life:={debug:=0,thresholds:=[2000,10,10]}
def X0b{Qip}:absHeap (Xm7 P) 11 Xm8=boot_heap P:=by kernel_rfl
def Xw2{Qip}:(QAA.isNs Uw&&(Array.mk ([]:List GenState)).size==0,(boot_heap P).objs.size,QAA.nsMap Uw "__annotations__")=(yx,11,yz (.ref 6)):=by kernel_rfl
abbrev Xw3{Q7h}(p q:Vz)(loose:LS)(Xt:Vc->Bool)(Yf:Vc->α){Qip}(s:Vc):=((UsF QAA s.heap&&namesBound QHu&&gensDone s&&laidKept QAA s.heap),UU4 s,Yf s)
def Xw4{Qqj}{N:Nat}
  (e:opening p=UR0) (hN:Nat.ble 600 N=yx) (f:∀s,Uh9=yz s)
  (all:∀w os,(UqB N Qo1 Q1Y).map (λs=>Xw3 UcA w.params s.abs)=yz (yx,UMJ,Ya w)):
  LeftO UcA Ya N:=λw=>by
 let⟨⟨h,gs,d,k,os⟩,e1,e2⟩:=Up.mp (boot_open e hN f w);obtain⟨rfl,rfl,rfl,rfl⟩:h=boot_heap w.params/\gs=Array.mk []/\d=boot_drawn/\k=boot_toks:=by simpa using e2
 obtain⟨z1,z2,z3⟩:_/\_/\_:=by simpa only[Vga] using Xw2 w.params
 exact Xa (Up.mp (all w os)) λs r l=>?_;let L:=Xsb r;let e0:SharedT.abs Qo1=Qh6:=by unfold SharedT.abs;dsimp;rw[X0b]
 rw[e0]at L;unfold Xw3 at l;obtain⟨l1,l2,l3⟩:_/\_/\_:=by simpa only[Vga] using l
 let t:UrF Qh6=yz s.abs:=by unfold topFrom;dsimp;rw[z1,z2,z3,L];dsimp[Option.bind];rw[l1]
 unfold openEnds;rw[e1];show(UrF _).map _=_;rw[t];calc Qqw (Prod.ext l2 l3)
private abbrev RunT{β:Type}(p:Vz)(g:V7->SharedT->β)(r:V7->β):Prop:=∀w os,(UqB 40000 Qo1 Q1Y).map (g w)=yz (r w)
def left_tree3{Qqj}(e:opening p=UR0)(f:∀s,Uh9=yz s)
  (a1:RunT p (λw s=>UsF UzK&&namesBound p s.abs.heap&&gensDone s.abs&&laidKept UzK) λ_=>yx)
  (a2:RunT p (λ_ s=>UU4 s.abs) λ_=>UMJ) (a3:RunT p (λ_ s=>Yf s.abs) Ya):LeftO UcA Ya 40000:=Xw4 e rfl f λw os=>by
 calc Xa (Up.mp (a1 w os)) λs h x1=>?_;let x2:=a2 w os;let L:=a3 w os;rw[h]at x2 L |-;calc Qqw (Prod.ext x1 (Prod.ext (Um x2) Qpg))
universe Z
universe e
section
namespace Z
open PySem PySem.Spec PyProof.Rows L2
def Yb{Qoi}(h:n<=100000):n<=big:=Uh h Q2
def Xsc{Qmj}:∀xs:LD,Qrv=xs.all (U95)
 |[]=>rfl|x::xs=>by rw[bdDs,Vbe,Xsc k xs]
def Xpk{Qgj}{QYk}(h:∀x∈xs,U95 x=yx):Qrv=true:=by rw[Xsc];calc U6.mpr h
def Y3{Q7h}{Qgj}{f:α->D}{Qki}(h:∀x,U95 QiE=yx):bdDs k QT9=true:=Xpk λy hy=>by calc U33 λx _ L=>?_;subst L;calc h x
theorem Sim(S S1:Sto):Prop:=lg S1=UzA/\∀(i:Nat) o,S1[i]?=Qkq->S[i]?=Qkq\/bdO QF o=yx
def Sim.rfl'{QKj}:Sim S S:=⟨rfl,λ_ _ h=>Qfv⟩
def Xgv{Q2k}{d:D}(h:UEH)(L:UA5 d=yx)(X:Sto):QPx (Qrt QuY)=Qrt S1:=by let k:Xfr S QuY:=⟨by rw[Vw,h.1];omega,λi o hi e=>h.2 i o QGC⟩;simp[gcR,iP0 k,L,if_true];rw[<-h.1,List.take_left'];rfl
def Yad{Q2k}{c:Nat}(h:UEH):QPx (Q3w QnS)=Q3w QnS:=by
 let k:Xfr S QnS:=⟨by rw[Vw,h.1];omega,λi o' hi e=>h.2 i o' QGC⟩;let e:(S1++[O.exc c])[lg S]?=Qru:=by rw[<-h.1];simp!
 simp[gcR,iP0 (And.intro k (Vj _)),e];rw[<-h.1,List.take_left'];rfl
abbrev pt{QSp}(k:Int):Sto:=S.set p Q7T
def Yae{QSp}(k:Int):Sim S QaZ:=⟨Vb3,λi o e=>by
 unfold pt at e;by_cases h:p=i;·subst h;let:=QjL.1;rw[Vb3]at this;rw[Vam this]at e;cases e;exact .inr rfl
 ·rw[Vbh h]at e
  calc .inl e⟩
def Yc4{QSp}(a b:Int):pt (UKJ a) p b=UKJ b:=Vie ..
theorem Pot{QSp}:Prop:=∃k:Int,S[p]?=yz Q7T
def Pot.pt{Q8l}(k:Int):Pot QaZ p:=⟨k,by
 exact Xd h λ_ h=>?_
 calc Vam QL5.1⟩
def Pot.app{Q8l}(X:Sto):Pot QWH p:=by calc Xd h λk h=>?_;calc⟨k,by rw[Vx QL5.1];calc h⟩
def Yaf{Q8l}(X:Sto)(k:Int):Z.pt QWH p k=Z.pt S p k++X:=by calc Xd h λ_ h=>?_;calc List.set_append_left _ _ QL5.1
section
variable{Q3m}
def Xgw{QAm}{QYk}(h:Q7s=.ok QUQ QVH){Q4p}{QIl}:Uc7=Uo1 S1:=by
 let e1:QVA[lg S1]?=Qqu:=by simp!
 let e2:QVA.set QcE .ded=S1++Q1N:=by rw[Vhz UTI];simp!
 show QPx Qvb=_;rw[h];simp[Xcc,e1,e2];calc U90 hs L _
def Yx{QAm}{QYk}(h:Q7s=UT7){QIl}:Uc7=Uo1 S:=Xgw h .rfl' L
def Xcy{QQn}{X:Sto}{Q5k}(h:Q2v=Qju QuY){Q4p}{Qjp}:UiD=Ub0:=by subst he;unfold den;rw[iP0 hn,h,hg];calc Xgv hs L X
def Xac{QQn}{Q5k}(h:Q2v=U6A){Qjp}:UiD=U08:=
 Xcy U4L .rfl' L hn hg
def Yag{d:Df}{Qcj}{c:Nat}(L:ds.map yz++Vm QXC yy=env0)(h:Q2v=UpD){Qsh}:UiD=UpD:=by subst L;unfold den;rw[iP0 hn,h,hg];calc Yad .rfl'
def Yk{T:QTy}{f k:Nat}{d:Df}(h:T[f]?=Um2)(ds:LD):QNy f ds S=UIG:=by simp[FT,h]
def Xw{QAm}{Qfi}{Qxi}:Qbq (.cons QdX ss) QKq=QGs (QQx QCF) S1:=Xbt QVC
def Xaf{QAm}{Qxi}:Qbq (.cons QyV ss) QKq=Qju S1:=Xhs QVC
def Xpl{QAm}{Qxi}:Qbq (.cons (.expr e) ss) QKq=QGs Q0u:=Xbt QVC
def Xf4{c:Ex}{t:Bool}{a b ss:Sts}{Q7n}:Qbq (.cons QZF ss) QKq=match (if t then Qbq a Q0u else URH Q0u) with
  |.ok Qnu=>QIw|r=>r:=by
 show(match exe F G QZF QKq with|.ok Qnu=>QIw|r=>r)=_;rw[show exe F G QZF env S=if t then pe F G a env S1 else pe F G b env S1 from ond h (by cases t<;>rfl)]
def Xa4{c e:Ex}{t:Bool}{v:D}{Qan}{Q7n}(L:QNq e Q0u=Ub0):Qbq (.cons (.ite c (.cons QyV .nil) .nil) ss) QKq=if t then Qju S1 else QGs Q0u:=by
 rw[Xf4 h];cases t;·rfl
 ·rw[iP0 rfl,iP0 rfl,Xaf L]
def X1v{c:Ex}{t:Bool}{Qgj}{s:Str}{Qan}(h:QNq c QKq=.ok QFZ S):Qbq (.cons (.ite c (.cons (.rse k (.cst (.str s))) .nil) .nil) ss) QKq=if t then Q3w Qf7 else QGs QKq:=by rw[Xf4 h];cases t<;>rfl
def Xh{Qfi}{d:D}(h:env[i]?=U3J):QNq QA0 QKq=UJ1:=by show(match env[i]? with|some Q3B=>UIH|_=>_)=_;rw[h]
def Xt3{Qfi}{d:D}(h:G[i]?=Um2):QNq (.glb i) QKq=UJ1:=by show(match G[i]? with|some d=>UIH|none=>_)=_;rw[h]
def Xba:QNv .nil QKq=UI9:=rfl
def Xn{S2:Sto}{QAm}{es:Exs}{x:D}{QYk}(h1:Q7s=.ok UaA)(h2:QNv es Q0u=.ok xs S2):QNv QbF QKq=.ok Q4B S2:=U1C Qv6
def Xw5{S2:Sto}{k:Bl}{Qvp}{Q3h}:QNq (.blt k Qk5) QKq=Yc k Qt7 S2:=ond (Xn h QYN) rfl
def Xhu{S2:Sto}{k:Mt}{o e:Ex}{x y:D}(h1:QNq o QKq=.ok UaA)(r:Xb5 k UaA=yx)(h2:QNq e Q0u=.ok y S2):QNq (.mth k o Qs0) QKq=Xap k x [y] S2:=U1C ((iP0 r).trans (ond QYN rfl))
def X1w{a:Ex}{x:D}{k:Kd}{ts:Un7}{QVk}(L:kdD S1 x=yz k):QNq QBZ QKq=match Xau k ts with|some r=>Q7x S1|none=>.bad:=US3 (by rw[L];rfl)
def Xm9{Qfk}(h2:x=yx->Qdx=.ok Q1g S):QNq Qra QKq=.ok (.bl (x&&y)) S:=US3 (by
 cases x;·rfl
 ·calc h2 rfl)
def Xgx{Qfk}(h2:x=yw->Qdx=.ok Q1g S):QNq QTc QKq=.ok (.bl (x||y)) S:=US3 (by
 cases x;·exact h2 rfl
 ·rfl)
def Xcz{a:Ex}{x:Bool}(h:Qxv=.ok QEZ S1):QNq QUe QKq=.ok (.bl (!x)) S1:=US3 rfl
def Yh{f:Nat}{a:Ex}{x:D}{QVk}:QNq (.call f Q6U) QKq=F f [x] S1:=ond QVC rfl
def Xhv{f:Nat}{Q0j}:QNq (.call f Qk5) QKq=F f Qt7 S2:=ond (US3 (ond Qv6 rfl)) rfl
def Yu{k:Bl}{a:Ex}{x:D}{QVk}:QNq (.blt k Q6U) QKq=Yc k [x] S1:=ond QVC rfl
def Xf5{Q0j}:QNq (UhK b) QKq=Xdq Uc4:=US3 Qv6
def Xch{o:Bo}{Q0j}:QNq QbX QKq=X1 o Uc4:=US3 Qv6
def bi{o:Bo}{Qal}{x y z:D}{S2:Sto}{Q3h}(L:X1 o Uc4=.ok z S2):QNq QbX QKq=.ok z S2:=(Xch h h2).trans L
def Xa5{o:Co}{Q0j}:QNq (.cmp o a b) QKq=X4 o Uc4:=US3 Qv6
def Xpm{Qvl}:xs.drop i=x::xs.drop Qq1:=by calc Xd QL5 λhi L=>?_;subst L;calc Vjm hi
def Xsd{QVi}{t:Tg}{Q3i}{QTk}(f:D->D){QZm}(hl:QT6<=big)
  (hb:∀x∈zs,∀L,lg L<big->UOG L S=.ok (if p x then L++[f x] else L) S):
  ∀(n i:Nat) (e:En) (L:LD),Q7y-i<n->i<=Q7y->lg L<=i->QC7->Xak UJ8 L S=.ok (L++(QvX.filter p).map f) S
 |0=>λi e L h=>QUx|n+1=>λi e L h hi ha h0=>by
  rw[Xak,hs];cases q:zs[i]? with
  |none=>dsimp;rw[Vfk QkS];simp!|some x=>let hx:=Uc q;let lt:=QnD.1;dsimp;rw[h0 x hx];dsimp;rw[hb x hx L Q0];dsimp;rw[Xsd zs T p f hs hT hl hb n Qq1 _ _ Q0 Q0 (by cases p x<;>simp!<;>omega) QhK,Xpm q,List.filter_cons];cases p x<;>simp!
def Xt4{Qoi}{t:Tg}{Q5o}{src:Src}{QTk}(f:D->D)(hi:QOy=.ok src S)(hs:∀i,Un0=UZB)(hm:QT6<=src.most S)(hl:QT6<=big)
  (h0:∀x∈zs,UrC Qw=yz QlI) (hT:∀x∈zs,∀y∈zs,UrC QCc=yz QlI) (ht:∀x∈zs,UQD QlI S=.ok (p x) S) (he:∀x∈zs,p x=yx->QNq elt QlI S=UKE):
  ev F G (QZr n QCM elt) QKq=Qvq (S++[.lst QKM]):=by
 calc ond hi (ond (Xsd zs T p f hs hT hl (λx L aa ha=>ond QDd ?_) Q64 0 _ [] Q0 Q27 Q27 h0) rfl);cases q:p x with
 |false=>rfl|true=>calc ond (he x L q) (iP0 ha)
def X1x{Qho}{Q5o}(zs:LD)(p:D->Bool)(f:D->D){Qph}(ht:∀x∈zs,UQD QY3 S=.ok (p x) S)
  (he:∀x∈zs,p x=yx->QWv=UKE) (hb:∀x∈zs,p x=yx->UA5 QiE=yx):
  ev F G (.frz (QZr n (UXE it ifs .nil) elt)) QKq=.ok (.fro QKM) S:=by
 calc Yx (Xt4 zs Q2N p f hi QD2 Qa hl Qy2 QT4 ht he) (Xpk λy hy=>?_);calc U33 λx hx L=>?_;subst L;calc Xi QjY λh1 h2=>?_;calc hb x Qwq
def Xhw{Qsj}(f:D->D){Qph}(he:∀x∈zs,QWv=UKE)(hb:∀x∈zs,UA5 QiE=yx):
  ev F G Qga QKq=.ok (.fro (zs.map f)) S:=by
 let:=X1x QMq (ifs:=.nil) zs QS9 f hi hl Qy2 (λx L _=>he x L) QLP;rwa [Vij.mpr λ_ _=>rfl]at this
def Xse{Q7h}(zs:Q7r)(q:α->Bool):Yl (zs.map λx=>.bl Qwe)=yz (zs.map q):=by
 induction zs with
 |nil=>rfl|cons x zs L=>rw[Ub,Yl,L];rfl
def Xt5{Qsj}(q:D->Bool){Qph}(L:∀x∈zs,QWv=.ok (.bl Qwe) S):
  ev F G (QAv (.cons Qga .nil)) QKq=.ok (.bl (zs.all q)) S:=by
 rw[Yu (Xhw zs (λx=>.bl Qwe) hi hl L λ_ _=>rfl)];simp[Yc,Xo,U0,Xse,Vif];rfl
def Xlg{Qhm}{Q3q}(hs:∀i e S,Ui7->get S i=UZB)
  (hb:∀i x e S,zs[i]?=QJu->Ui7->∃e1 L S',UrC e=yz e1/\body e1 S=UwJ/\P Qq1 L S'):
  ∀(n i:Nat) (e:En) (S:Sto),Q7y-i<n->i<=Q7y->Ui7->∃e' S',Y7 UJ8 S=.ok (.nx e') S'/\P QT6 e' S'
 |0=>λi e S h=>QUx|n+1=>λi e S h hi hP=>by
  rw[Y7,hs i e S hP];cases q:zs[i]? with
  |none=>
   let:i=Q7y:=by let:=Uv.mp q;omega
   subst this;calc⟨e,S,rfl,hP⟩|some x=>let lt:=QnD.1;calc Y6 (hb i x e S q hP) λe1 L S' h1 h2 h3=>?_;dsimp;rw[h1];dsimp;rw[h2];calc Xlg zs P hs hb n Qq1 L S' Qtq h3
def Xw6{Qhm}{r:UQ2}{QTk}(hr:∀e S',r≠UHE)(aa:∀e S',r≠.ok QCW S')(ab:∀e S',r≠.ok QHW S'){QZm}
  (hb:∀x∈zs,UOG S=if p x then .ok (.nx QlI) S else r):
  ∀(n i:Nat) (e:En),Q7y-i<n->i<=Q7y->QC7->∃L,(L=e\/∃x∈zs,L=T x)/\Y7 UJ8 S=if QvX.all p then Uj1 S else r
 |0=>λi e h=>QUx|n+1=>λi e h hi h0=>by
  rw[Y7,hs];cases q:zs[i]? with
  |none=>rw[Vfk QkS];exact⟨e,.inl rfl,rfl⟩|some x=>
   let hx:=Uc q;let lt:=QnD.1;dsimp;rw[h0 x hx];dsimp;rw[hb x hx,Xpm q,Vbe];cases p x with
   |true=>exact Xa (Xw6 zs T p hr aa ab UtK QlI Qtq λy hy=>hT y hy x hx) λL h1 h2=>?_;calc⟨L,.inr (h1.elim (λz=>⟨x,hx,z⟩) id),?_⟩;rw[Vbr];exact h2|false=>
    calc⟨e,.inl rfl,?_⟩;simp[Vcc,Vq,if_false];cases r with
    |ok y S'=>
     cases y with
     |nx L=>calc aB0 rfl (hr L S')|cnt L=>calc aB0 rfl (aa L S')|brk L=>calc aB0 rfl (ab L S')|rt d=>rfl
    |ex=>rfl|bad=>rfl
def Yah{Qfi}{Q5l}{v:D}(zs:LD)(p:D->Bool)(hi:QOy=.ok Qj9 S)(hb:∀x∈zs,URH QP4 S=if p x then Uy5 else U6A):
  ∃L,(L=env\/∃x∈zs,L=QQx Q2B)/\pe F G Q8U QKq=if zs.all p then QGs L S else U6A:=by
 calc Xa (Xw6 (t:=.var i) (get:=Qi5.get) Qtt (λx=>QQx Q2B) p (r:=U6A) QzB QzB QzB QD2 QT4 hb (Qi5.most S+1) 0 env QK6 Q27 λ_ _=>rfl) λL h1 h2=>?_;calc QnX;rw[Vft]at h2;show(match exe F G QA6 QKq with|.ok Qnu=>QIw|r=>r)=_;rw[show exe F G QA6 env S=_ from ond hi h2];cases zs.all p<;>rfl
universe e
abbrev bdy:Sts->Nat->Sts
 |.nil,_=>.nil|.cons s _,0=>match s with
  |.for _ _ b=>b|.ite _ a _=>a|_=>.nil
 |.cons _ ss,k+1=>bdy ss k
abbrev drp:Sts->Nat->Sts
 |ss,0=>ss|.nil,_=>.nil|.cons _ ss,k+1=>drp ss k
abbrev Xf6:Df:=QD4
abbrev Xce(L:Nat):Df:=⟨3,3,(.cons (.ret (.and QZB (UFK))) .nil),yx⟩
abbrev Xdi:Df:=⟨1,1,(.cons (.ret (QAv (.cons (.frz (UWD (.cmp .lt QD QQ))) .nil))) .nil),yx⟩
abbrev Xds:Df:=⟨2,2,(.cons (.ite Q3F (.cons (.ret (.idx Q6 QA)) .nil) .nil) QuK),yx⟩
abbrev t_law_pot:Df:=⟨1,4,(.cons (.ite QdQ (.cons (.ret (.lst (.cons (UnK QX1) .nil))) .nil) .nil) (.cons (Q3t QS) (.cons (UH4 (.rng Q9G) (U1I QlH)) (UYF)))),yw⟩
abbrev t_law_take:Df:=⟨2,3,(.cons (Uq1 (.bin .mod (.idx Q6 QS) QA)) (.cons QjQ (.cons (.ret QD) .nil))),yx⟩
abbrev Xic:Df:=QD4
abbrev t_law_kind_of:Df:=⟨1,3,(.cons (Q3t (.lst (.cons (Qrr [.cls 1]) (.cons (Qrr [.cls 2]) (.cons (Qrr [.cls 3]) (.cons (Qrr [.cls 4]) .nil)))))) (.cons (Q3t (UK1 (.frz (.lst (.cons (Qrr [.cls 5]) (.cons (Qrr [.cls 6]) (.cons (Qrr [.cls 7]) (.cons (Qrr [.cls 8]) .nil)))))))) (.cons (Q3t (UK1 (.frz (.lst (.cons (Qrr [.cls 9]) (.cons (Qrr [.cls 10]) (.cons (Qrr [.cls 11]) (.cons (Qrr [.cls 12]) .nil)))))))) (.cons (Q3t (UK1 (.frz (.lst (.cons (Qrr [.cls 13]) (.cons (Qrr [.cls 14]) (.cons (Qrr [.cls 15]) (.cons (Qrr [.cls 16]) .nil)))))))) (.cons (.ite Qi3 (.cons (.ret (.cst (UZK))) .nil) .nil) (.cons (Uq1 QY) (.cons (.ret (.idx QUJ Q0E)) .nil))))))),yx⟩
abbrev Xf7(aa ab ac L:Nat):Df:=⟨1,1,(.cons (.ite (Ug1 (.not (Q5w Q4 QL0 Qae))) QVu) (.cons (.ite (.not (QAv (.cons (.frz (UD0 QXJ (.call ac Qz))) .nil))) QVu) (.cons (.ret (.and QEW QFW)) .nil))),yx⟩
abbrev Xbb(L:Nat):Df:=⟨1,3,(.cons (.ite (.not QZB) (.cons (.rse 10 (.cst (.str "a crowd is due"))) .nil) .nil) (.cons (Q3t (U66 (.lst QmH) (Qdq (U7I) Q4))) (.cons (UH4 QH8 QZR) QWR))),yx⟩
abbrev Xiz(aa L ab:Nat):Df:=⟨1,1,(.cons (.ite (Ug1 (U56 (.glb ab))) QVu) (.cons (.ite (.not (QAv (.cons (.frz (UD0 QXJ (Ud0 (U4I (U2I (.cons Qae .nil)))))) .nil))) QVu) (.cons (.ret (QAv (.cons (.frz (UWD (.cmp .le QD QQ))) .nil))) .nil))),yx⟩
abbrev Xeh:Df:=⟨1,4,(.cons (Q3t QPc) (.cons (UH4 QH8 (UWF)) QNA)),yx⟩
abbrev t_law_ways:Df:=⟨2,5,(.cons (.ite (.cmp .gt QA Q6) QuK .nil) (.cons (.asg (.tup [3,4]) (.tup (.cons Q4 QO1))) (.cons (UH4 QQc (.cons (U28 (U66 QQ (UnK QD))) (.cons (UO9 (U66 Q71 (Qdq QD Q4))) .nil))) (.cons (.ret (.bin .fdiv QQ Q71)) .nil)))),yx⟩
abbrev t_law_choices:Df:=⟨3,8,(.cons (U28 QZQ) (.cons (.for Q71 QQc (.cons (UK4 QAZ) (.cons (.for Qq0 (.val QQ) (.cons (.asg QwD Qc3) (.cons (.expr (UUE Qz1 (.cons Qu1 .nil))) .nil))) QBI))) (UXF))),yx⟩
abbrev Xas(L aa:Nat):Df:=⟨3,5,(.cons (U28 QS) (.cons (.whl (U8I (.cmp .lt (Ud0 Q12) Q6)) (UZF)) (.cons (.rsk (Q6w (U3I (.cons QA Qz))) Q6) .nil))),yx⟩
abbrev Xda:Df:=⟨1,1,(.cons (.ret (.frz (UD0 (U4I (.rng QYR) Qht) (Qdq QAI QmA)))) .nil),yx⟩
abbrev Xei(L:Nat):Df:=⟨1,1,(.cons (.ite (Ug1 (U56 (.cst Q7W))) QVu) (.cons (.ite (Uc0 (.frz (UD0 (U4I QH8 (.cons (.or (.not (Q6w Qz)) Qr9) .nil) .nil) QD)) Q43) QVu) (.cons (.ret (UI4 QtK (.frz (Q7w Qf)))) .nil))),yx⟩
abbrev Xdb(L aa:Nat):Df:=⟨1,2,(.cons (.ite (Ug1 (.or QN9 (.not (QAv (.cons (.frz (UD0 QWJ (Ud0 QL8))) .nil))))) QVu) (.cons (.ite (Uc0 QtK (.frz (.sst Q6))) QVu) (.cons (.for QA QH8 (.cons (.ite (Uc0 (.frz (UD0 (U3I (.val (Q6w Qi)) QJE .nil) QQ)) Q43) QVu) .nil)) QNA))),yx⟩
abbrev Xam(aa L:Nat):Df:=⟨1,7,(.cons (Q3t (.idx (.frz (.lst (.cons QBT (.cons QAT (.cons Qx2 .nil))))) QGW)) (.cons (Uq1 QAZ) (.cons (.for QQ (.rng (.cons (Qdq Q4 QGW) .nil)) (.cons (UK4 (.idx (.frz (.lst (.cons QBT (.cons (.cst Qw8) (.cons Q4 (.cons QAT (U2I QeG))))))) (Q6w (UK9 QeG)))) (.cons (.expr (UcK QD (.cons (Qos (.cons (.frz (Q7w (.cons (.frz (UD0 Q9C (Q6w QWK))) .nil))) .nil)) .nil))) .nil))) (.cons (UO9 .dct0) (.cons (.whl Q2F (.cons QFM (.cons (.ite Q1F (.cons QpC (.cons (.expr (UUE QD (.cons (Ud0 QL2) .nil))) .nil)) .nil) .nil))) (.cons (.ret (Qos (.cons (.frz QPa) .nil))) .nil)))))),yx⟩
abbrev Xc0(L aa:Nat):Df:=⟨1,2,(.cons (.try (.cons (.ret QZB) .nil) 0 1 (.cons (.ret (Ud0 Qi)) .nil)) .nil),yx⟩
abbrev Xd1(L:Nat):Df:=⟨2,10,(.cons (.asg (.tup [8,9]) (.tup (.cons Qy8 (.cons Qy8 .nil)))) (.cons (Uq1 (.idx QA QxO)) (.cons (U28 (Q6w (UK9 (.cons (Qdq QK3 Q4) .nil)))) (.cons (UO9 (.idx (.frz (.lst (.cons Qx2 (.cons QUc (.cons Qw2 (.cons (.cst Qq6) (.cons (.cst .non) (.cons (.cst (.str "1")) (.cons (.tup QO1) (.cons (.frz (.lst QO1)) (U2I (.cons (.cst QVc) .nil)))))))))))) (Q6w (UK9 (.cons (.cst QWc) .nil))))) (.cons (UK4 (.frz (.lst (.cons (Qdq Qh8 (.sli QD (.some QQ) .none)) (.cons (Qdq Qh8 (.sli QD (.some Q4F) .none)) (.cons (.frz (UXA Qz)) (.cons (.rev QD) Q41))))))) (.cons (UN9 (.frz (UD0 (.cons QyS (.val Qz1) Qht) (Qdq Qp4 QJ3)))) (.cons (UN9 (.frz (UVD (.frz (UD0 (.cons QyS (.val Qv2) Qht) QcR))))) (.cons (.asg QwD QDT) (.cons QG2 (.cons (UN9 (.frz (UVD (.frz (.lst (.cons (Qdq (UqH Q6Z) QJ3) (.cons (Qdq (UqH (.some (Qdq QxO Q4))) (.sli QA Q6Z .none)) (.cons (Qos Ql4) (.cons (.frz QDT) .nil))))))))) (.cons (.ret (.frz (UVD (.frz (.lst (.cons (.tup Qi) QE1)))))) .nil))))))))))),yx⟩
abbrev Xe1(aa ab L:Nat):Df:=⟨1,6,(.cons (.par [3,4] (.cons QbB QXR)) (.cons (Q3t QEW) (.cons (.ite Qu8 QVu) (.cons (Uq1 (.cst QB4)) (.cons (.ite Q71 (.cons (UK4 (UD0 (.cons QwD QH8 Qht) (Q9v Ql4))) (.cons (Uq1 (Qos (.cons (.frz (UD0 (.cons QwD (.rng QVR) Qht) (U18))) .nil))) .nil)) .nil) (.cons (.ret (.and (UI4 (QZy (.cons QFW .nil)) QCT) QeQ)) .nil)))))),yx⟩
abbrev Xw7(af ae ac ag ab ah aa L:Nat):Df:=⟨1,8,(.cons (Q3t (.frz (Qdq (.frz (Qdq QZQ (Q6w Qg8))) (Q6w Qe2)))) (.cons (UH4 (.val QR5) (.cons (UO9 (Qos (.cons (.frz (Q7w (.cons (UK1 (Ud0 Q45)) .nil))) .nil))) (.cons (.ite (.or (Uc0 (QZy (.cons (.call ah Q41) .nil)) (QZy (.cons (UI4 QD QTR) .nil))) Qe6) QVu) .nil))) (.cons (.for QQ (.rng Qf2) (.cons (UK4 (.call ag (.cons (.call ab Q9U) .nil))) (.cons (UN9 (.call ac Q34)) (.cons (.for QwD (.val (.frz (Qdq (.frz (.lst QL2)) (.call af (.cons Qz1 QL2))))) (.cons (.ite (.not (.call ae Ql4)) QVu) .nil)) .nil)))) QNA))),yw⟩
mutual
abbrev pd:D->Bool
 |.ref _=>yw|.fn _ _=>yw|.tup xs=>UX8|.fro xs=>UX8|_=>yx
abbrev pds:LD->Bool
 |[]=>yx|x::xs=>pd x&&UX8
end
mutual
def Xdj{Qmj}:∀ {d:D},pd d=yx->U95 d=yx
 |.ref _=>λh=>by cases h|.fn _ _=>λ_=>rfl|.tup xs=>λh=>Uy6|.fro xs=>λh=>Uy6|.non=>λ_=>rfl|.bl _=>λ_=>rfl|.int _=>λ_=>rfl|.str _=>λ_=>rfl|.edc=>λ_=>rfl
def pds_bd{Qmj}:∀ {xs:LD},UX8=yx->Qrv=yx
 |[]=>λ_=>rfl|x::xs=>λh=>by rw[pds,bA0]at h;rw[bdDs,Xdj k h.1,pds_bd k h.2];rfl
end
def pds_iff:∀ {xs:LD},UX8=yx ↔ ∀x∈xs,pd x=yx
 |[]=>by simp![pds]|x::xs=>by rw[pds,bA0,pds_iff,Va1]
def Xd7{Q7h}{f:α->D}{Qki}(h:∀x,pd QiE=yx):pds QT9=true:=pds_iff.mpr λy hy=>by calc U33 λx _ L=>?_;subst L;calc h x
abbrev Xb(l:LI):D:=.tup Qy5
abbrev Xm{Qyn}:D:=.tup QV
abbrev rwF{Qyn}:D:=.fro QV
def Xc1(l:LI):pd QcO=true:=Xd7 λ_=>rfl
def Xju{Qyn}:pd QE2=true:=Xd7 Xc1
def Yai{Qyn}:pd Qre=true:=Xd7 Xc1
def Xbo{Qmj}(l:LI):U95 QcO=true:=Xdj k (Xc1 l)
def Xpn{Qmj}{Qyn}:U95 QE2=true:=Xdj k (Xju n)
def Yaj{Qmj}{Qyn}:U95 Qre=true:=Xdj k (Yai n)
def Xdc:∀n:LL,Yw QV=yz n
 |[]=>rfl|x::n=>by rw[Ub,Xb,Yw,Y1,Xdc n];rfl
def Xlh{QPn}:Xl QV=none:=by
 cases n with
 |nil=>cases h rfl|cons x n=>rfl
abbrev Yj:D->LI
 |.tup xs=>(Us9).getD []|_=>[]
def ints_of(l:LI):Yj QcO=l:=by unfold Yj Xb;dsimp;rw[Y1];rfl
def X0c{a b:LL}(h:Xm a=Xm b):a=b:=by
 let e:∀n:LL,QV.map Yj=n:=λn=>by rw[U8];exact(List.map_congr_left λs _=>ints_of s).trans (List.map_id n)
 rw[<-e a,<-e b,D.tup.inj h]
def Xli{Q7h}{QVn}{f:α->Vcb}(h:∀x y,Vdh QiE QFf=decide Qje):∀xs ys:Q7r,Vgb QT9 QXZ=decide Qie
 |[],[]=>by simp![Vgb]|[],_::_=>by simp![Vgb]|_::_,[]=>by simp![Vgb]|x::xs,y::ys=>by rw[Ub,Ub,Vgb,h,Xli h xs ys,Vd6];simp!
def Xhx{Q7h}{f:α->Vcb}(h:∀x,QiE.canLay0=yx):∀xs:Q7r,Vfm QT9=yx
 |[]=>rfl|x::xs=>by rw[Ub,Vfm,h,Xhx h xs];rfl
def Xlj{Q7h}{f:α->Vcb}{Qgj}(h:∀x,QiE.depth<=k):∀xs:Q7r,Vc0 QT9<=k
 |[]=>by rw[Vfs,Vc0];calc U2A|x::xs=>by rw[Ub,Vc0];calc Nat.max_le.mpr ⟨h x,Xlj h xs⟩
def Xd8{Q7h}{f:α->D}{g:α->Vcb}{L:Nat->UE3}(h:∀x,Ym L QiE=yz QwU):∀xs:Q7r,UKC QT9=yz (xs.map g)
 |[]=>rfl|x::xs=>by rw[Ub,datFs,h,Xd8 h xs];rfl
structure Enc(α:Type){QVn}(f:α->D)(g:α->Vcb){Qmj}:Prop where
 dat:∀look x,Ym look QiE=yz QwU
 lay:∀x,QwU.canLay0=yx
 dep:∀x,QwU.depth<=k
 eqv:∀x y,Vdh QwU (g y)=decide Qje
def enc_int:Enc Int D.int PyData.int 0:=⟨λ_ _=>rfl,λ_=>rfl,λ_=>by simp![Vdl],λx y=>by rw[Vdh];calc Vd6.mpr Q9⟩
def Enc.tup{QTi}{QWk}:Enc QJc (λl=>.tup Q1H) (λl=>.tuple Q7S) QB3 where
 dat look l:=by simp[Ym,Xd8 QvW,U7]
 lay l:=by rw[PyData.canLay0];exact UaC l
 dep l:=by rw[Vdl];exact Uh6
 eqv l m:=by rw[Vdh];calc UZG
def Enc.fro{QTi}{QWk}:Enc QJc (λl=>.fro Q1H) (λl=>.list Q7S) QB3 where
 dat look l:=by simp[Ym,Xd8 QvW,U7]
 lay l:=by rw[PyData.canLay0];exact UaC l
 dep l:=by rw[Vdl];exact Uh6
 eqv l m:=by rw[Vdh];calc UZG
def enc_row:Enc (LI) Xb (λl=>.tuple QpW) 1:=enc_int.tup
def enc_rwF:Enc (LL) rwF (λn=>.list (n.map λl=>.tuple QpW)) 2:=enc_row.fro
section
variable{QTi}
def Enc.eq{QWk}(L:k<=60)(hs:∀x y,Xev QiE QFf=yy)(x y:α){QIh}:U60 QiE QFf=yz (decide Qje):=by unfold eqD;rw[hs];simp[Y0,h.dat,h.lay,Vbq,Vbr,decide_eq_true QLR,if_true,h.eqv]
def X45{QWk}{QHm}:((ys.map g).any λq=>Vdh q QwU)=decide QGO:=by
 rw[Vd6,List.any_map,Vhr,decide_eq_true_eq];constructor;·rintro ⟨y,hy,e⟩;let e':=(h.eqv y x).symm.trans e;exact oD0 e'▸hy
 ·calc λL=>⟨x,L,(h.eqv x x).trans QYM⟩
def Enc.inT{QWk}(L:k<=60){QHm}{QIh}:inD S QiE (.tup QXZ)=yz (decide QGO):=by simp[inD,Y0,h.dat,Ym,Xd8 (h.dat QjD),U7,h.lay,UaC,Vbq,Vbr,decide_eq_true QLR,if_true,X45 h]
universe e
def Xff{o:Co}{Qxl}(h:Xbi o QUs=UbB):X4 o QUs=.ok QnH S:=by unfold X4;rw[h]
def Xem{Qxl}(h:U8D=UbB):X4 .ne QUs=.ok Qqa S:=Xff QsP
def X0d{Qxl}(h:U15=UbB):X4 .notin QUs=.ok Qqa S:=Xff QsP
def Yak(a b:LI){QIh}:U60 Qkg QlD=Q3u:=enc_row.eq Qbw
def Xw8(a b:LL){QIh}:U60 (rwF a) (rwF b)=Q3u:=enc_rwF.eq Qbw
def Xpo(a b:Int){QIh}:U60 Qn6 Q5W=Q3u:=enc_int.eq Qbw
def X46(a b:LI){QIh}:U60 (.fro (a.map D.int)) (.fro QY2)=Q3u:=enc_int.fro.eq Qbw
def Yal(a:LI){Qyn}{QIh}:inD S Qkg QE2=yz (decide (a∈n)):=enc_row.inT Q2 a n S
def Yam(xs:LD){QIh}:U60 Q57 QBM=yz xs.isEmpty:=by
 cases xs with
 |nil=>exact Xw8 Ut1 S|cons x xs=>
  let hl:Xik S Qja QBM=yz false:=rfl;unfold eqD;rw[show Xev Qja QBM=yy from rfl];dsimp;split
  ·rename_i p q L e2;split
   ·let:q=.list []:=by
     let:U2B QBM=yz (.list []):=rfl;rw[this]at e2;cases e2;rfl
    subst this;cases e:datFs QjD Q4B with
    |none=>simp[Y0,Ym,e,Option.map_none]at L;cases L|some ps=>
     simp[Y0,Ym,e,U7]at L;cases L;cases ps with
     |nil=>simp[datFs]at e;split at e<;>cases e|cons q ps=>rw[Vdh,Vgb];rfl
   exact hl
  calc hl
abbrev wh:D->Bool
 |.int _=>yx|_=>yw
abbrev wi(d:D)(L hi:Int):Bool:=match d with
 |.int i=>decide Qvg&&decide (i<=hi)|_=>yw
section
variable{QYh}
def Xmq{d:D}{Qdk}{QIh}:QIr Xf6 QSt=Ui1:=by
 calc Xac rfl ?_ rfl;cases d with
 |ref _=>cases h|fn _ _=>cases h|_=>rfl
def Xt6{Qfi}{d:D}{L hi:Int}{QKj}(h:F i QSt=Ui1):QIr (Xce i) [d,.int L,.int hi] S=.ok (.bl (wi d L hi)) S:=by
 let:=Xm9 QMq (env:=[yz d,yz Q6W,yz (.int hi)]) (b:=UFK) (y:=wi d L hi) (QR0.trans h) λhw=>by
  cases d with
  |int i=>show(match Xbi .le Q6W Q91 S with|some yx=>_|some yw=>_|none=>_:R D)=_;simp[Xbi,wi];cases decide Qvg<;>rfl|_=>cases hw
 calc Xac rfl (Xaf (this.trans ?_)) rfl;cases d<;>rfl
universe e
abbrev chn{Q7h}(r:α->α->Bool):Q7r->Bool
 |a::b::l=>r a b&&chn r Q5X|_=>yx
def Xlk{Qwi}{r:β->β->Bool}(f:α->β):∀l:Q7r,chn r Q1H=chn (λa b=>r (f a) (f b)) l
 |[]=>rfl|[_]=>rfl|a::b::l=>by let:=Xlk (r:=r) f Q5X;rw[Ub]at this;rw[Ub,Ub,chn,this,chn]
def Xsf{Qpo}:∀l:Q7r,((l.zip (l.drop 1)).all λp=>r Qsx)=chn r l
 |[]=>rfl|[_]=>rfl|a::b::l=>by let:=Xsf (r:=r) Q5X;rw[chn,<-this];rfl
abbrev rzL:LL->Bool:=chn ltL
def Xpp{QFi}{QEj}:UWJ QDF yy=xs.drop n:=by
 unfold cut;let h1:UeC 0 QDF=min n QR:=by simp![Xea]
 rw[h1];simp[Xea];by_cases c:n<=QPs;·rw[Vcz c];exact Va9 Q9
 ·rw[Nat.min_eq_right Q0,List.drop_length,Vfk Q0];simp!
abbrev prZ(p:D×D):D:=.tup [p.1,p.2]
def X47(xs ys:LD){QIh}{QQl}:(Src.zpp Qk9 (.con ys)).get S i=yz (QAN.map prZ)[i]?:=by
 simp[Src.get];induction xs generalizing ys i with
 |nil=>cases ys[i]?<;>rfl|cons x xs L=>
  cases ys with
  |nil=>cases Q4B[i]?<;>rfl|cons y ys=>
   cases i with
   |zero=>rfl|succ i=>calc L ys i
section
variable{QYh}
def X1y{o:Co}{QKj}{QZo}(h:∀x∈xs,∀y∈xs,Xbi o QUs=yz Q9d)(hl:QR<=big):
  ev F G (QAv (.cons (.frz (UWD (UjK))) .nil)) QgA S=.ok QhQ S:=by
 let aa:=Yx Qgt (Xt4 (n:=3) (t:=.tup [2,3]) (it:=.zpp (UK9 (.cons (.sli Q6 (.some Q4) .none) .nil))) (ifs:=.nil) (elt:=UjK) (src:=.zpp Qk9 (.con QyX)) ((xs.zip QyX).map prZ)
  (λd=>match d with|.tup QLU=>[yz QJ0,yy,QIx,UbB]|_=>[]) QS9 (λd=>match d with|.tup QLU=>.bl QAd|_=>.non)
  (by rw[<-Xpp xs 1];rfl) (X47 xs _ S) (by rw[Vg,List.length_zip];calc UX0) (by rw[Vg,List.length_zip];omega)
  (λx hx=>by calc UQ5 λp _ L=>?_;subst L;rfl) (λx hx y hy=>by calc UQ5 λp _ L=>?_;subst L;calc U33 λq _ L=>?_;subst L;rfl)
  Qy2 (λx hx _=>by
   exact UQ5 λp hp L=>?_;subst L
   let:=Vh1 (show(p.1,p.2)∈_ from hp);calc Xff (h p.1 this.1 p.2 (Vei this.2)))) (Xpk λy hy=>by
   exact U33 λx hx L=>?_;subst L;exact Xa (V0.mp QjY.1) λp _ L=>?_;subst L
   rfl)
 calc(Yu aa).trans ?_;rw[Vij.mpr λ_ _=>rfl,U8];let e:(λd:D=>match d with|.tup QLU=>D.bl QAd|_=>.non)∘prZ=λp=>.bl (lt Qsx):=rfl;rw[e];simp[Yc,Xo,U0,Xse,Vif,<-Xsf];rfl
def Xt7{QZo}(h:∀x∈xs,∀y∈xs,ltD x y=yz Q9d)(hl:QR<=big){QIh}:QIr Xdi [.tup xs] S=.ok QhQ S:=Xac rfl (Xaf (X1y (o:=.lt) xs lt h hl)) rfl
def Xw9{Qyn}(hl:Q7J<=big){QIh}:QIr Xdi QuB S=.ok QIW S:=by
 let:=Xt7 QMq QV (λa b=>ltL (Yj a) (Yj b)) (λx hx y hy=>by
  exact UQ5 λi _ L=>?_;subst L;exact U33 λj _ L=>?_;subst L
  rw[ints_of,ints_of];simp[Xb,ltD,Y1]) QvP S
 rw[Xlk]at this;simp[ints_of]at this;calc this
def Xhy:∀ {xs:LD} {L hi:Int},(xs.all λx=>wi x L hi)=yx->∃l:LI,xs=l.map D.int/\∀x∈l,L<=x/\x<=hi
 |[],_,_,_=>⟨[],rfl,λx hx=>by cases hx⟩|x::xs,L,hi,h=>by
  rw[Vbe,bA0]at h;calc Xa (Xhy h.2) λl aa hl=>?_;subst aa;cases x with
  |int i=>let:=h.1;simp[wi,bA0,decide_eq_true_eq]at this;calc⟨i::l,rfl,λy hy=>(Vv.mp hy).elim (λz=>z▸this) (hl y)⟩|_=>cases h.1
def Xjv{QYk}{x:D}(h:pd QJ0=yx)(L:x∈xs):pd x=true:=pds_iff.mp h x L
theorem Xxa(d:D){Qyn}:Prop:=d=Xm n\/d=rwF n
def X48{QLp}(h:Xxa d n){Qjn}:QSr QuV QKq=.ok (.con QV) S:=by calc ond L ?_;rcases h with rfl|rfl<;>rfl
def Xi0{Qyn}(q:LI->Bool):QV.all (λd=>q Qhg)=n.all q:=by rw[Vif];congr 1;funext s;calc congrArg q (ints_of s)
def Xt8{a b c:Ex}{Q2m}{x y z:Int}(ha:Qxv=.ok QWe S)(L:Qdx=.ok (.int y) S)(hc:QNq c QKq=.ok (.int z) S):QNq (Q5w a b c) QKq=.ok (.bl (decide Q3b&&decide (y<=z))) S:=by
 calc ond ha (ond L ?_);show(match yz (decide Q3b) with|some yx=>_|some yw=>_|none=>_)=_;cases decide Q3b;·rfl
 ·calc ond hc rfl
variable{Q2k}{Qci}
def X1z{t:Tg}{Q5l}{src:Src}{L:En}{S':Sto}(hi:QOy=.ok UKB)(h:Y7 QGr Q29 Q08 0 Q0u=UwJ):Qbq QYJ QKq=Ux3:=Xbt (ond hi h)
def Xfg{t:Tg}{Q5l}{Q3q}{QJm}(h0:P 0 Q0u)
  (hb:∀i x e S,zs[i]?=QJu->Ui7->∃e1 e2 S',UrC e=yz e1/\pe F G b e1 S=USE S'/\P Qq1 e2 S'):∃L S',Qbq QYJ QKq=Ux3/\P QT6 L S':=by
 calc Xf (Xlg (get:=Qi5.get) (t:=t) Qtt P QzQ hb QrS 0 Q0u QK6 Q27 h0) λL S' h1 h2=>?_;calc⟨L,S',X1z hi h1,h2⟩
universe e
def Xpq{Qvl}:xs.take Qq1=xs.take i++[x]:=by rw[List.take_add_one,h];rfl
def Xpr{QFi}:xs.take QR=xs:=Vey
section
def Xll(a b:LD)(h:(lg a)+UOJ<=big){QIh}:Ui3 (.fro a) (.fro b) S=Qvq (S++[.lst Qgg]):=by simp[X1,lsD,iP0 h]
def X49(L:LL)(k:LI):QHS.length<=lg L+1:=by
 unfold ddR;split;·omega
 ·rw[Vw];calc UX0
def Xsg:∀(ks L:LL),(UQJ L).length<=lg L+Ue9
 |[]=>λL=>UX0|k::ks=>λL=>by let h1:=Xsg ks QHS;let h2:=X49 L k;rw[Vcg,U5];omega
def Xcj{QIh}(a b:O):QAe.set QF b=S++[b]:=by rw[Vhz UTI];simp!
def Xat{QIh}(a:O):QAe[lg S]?=QIx:=by simp!
universe e
def Xps{Qpo}(tr:∀a b c,r a b=yx->r b c=yx->r a c=yx):∀l:Q7r,chn r l=yx ↔ l.Pairwise λa b=>r a b=yx
 |[]=>⟨λ_=>.nil,λ_=>rfl⟩|[a]=>⟨λ_=>UvC,λ_=>rfl⟩|a::b::l=>by
  rw[chn,bA0,Xps tr Q5X];constructor
  ·rintro ⟨h1,h2⟩;calc Vag.mpr ⟨λz hz=>?_,h2⟩;rcases Vv.mp hz with rfl|hz;·exact h1
   ·exact tr QLq h1 ((Vag.mp h2).1 z hz)
  intro h;calc⟨QDQ.1 b V4,QDQ.2⟩
def Yan(l:LL):rzL l=yx ↔ UYH:=Xps Xjm l
def PwL.nodup{l:LL}(h:UYH):l.Nodup:=h.imp λ{a b} h e=>by subst e;rw[Xg9]at h;cases h
def Xpt:∀(l L:LL),(L++l).Nodup->l.foldl ddR L=L++l
 |[]=>λL _=>by simp!|k::l=>λL h=>by
  let hk:k ∉ L:=λz=>by rw[Vdm]at h;exact h.2.2 k z k V4 rfl
  rw[Vcg];let e:ddR L k=L++[k]:=by unfold ddR;rw[iN0 hk]
  rw[e,Xpt l (L++[k]) (by rw[Ug];calc h),Ug];rfl
def Yao(l:LL):UYH ↔ Yi (ddL l)=l:=by
 constructor;·intro h;let e:ddL l=l:=Xpt l [] h.nodup;rw[e];exact Xkz (Xab l) (Xhk l h.nodup) h
 ·intro h;rw[<-h];calc Xhk _ (Xjo l)
section
variable{Q3m}
def Yc5{QAm}{QNp}(h:Q7s=.ok QnH S):Qlt Qs0 QKq=.ok b S:=US3 (by cases b<;>rfl)
def Y4{QIh}(xs:LD):lstAt Qg0 QF=QLu:=by unfold lstAt;rw[Xat]
def Yc6{Qfi}{QAm}{v:D}{QYk}{QSj}(hz:QR<big):QNq (UcK QA0 Qs0) env Qg0=Qox (S1++[.lst (xs++[v])]):=by
 let l1:lstAt QVH QF=QLu:=by rw[<-hl];exact Y4 S1 xs
 let r:Xb5 .append Q5 Qg0=true:=by unfold Xb5;dsimp;rw[Y4];rfl
 rw[Xhu QCA r L];simp[Xap,lstM];let g:QVA[lg S]?=Qqu:=by rw[<-hl];exact Xat S1 _
 simp[g,iP0 hz];rw[<-hl,Xcj]
def Yc7{Qfi}{QAm}{v:D}{xs ys:LD}{QSj}(hv:Xo QVH v=yz ys)(hz:QR+UX3<=big):QNq (UUE QA0 Qs0) env Qg0=Qox (S1++Qmc):=by
 let r:Xb5 .xtd Q5 Qg0=true:=by unfold Xb5;dsimp;rw[Y4];rfl
 rw[Xhu QCA r L];simp[Xap,lstM];let g:QVA[lg S]?=Qqu:=by rw[<-hl];exact Xat S1 _
 simp[g,hv,iP0 hz];rw[<-hl,Xcj]
def X5a{QIh}(o:O):Sim QhV QDe:=⟨by simp!,λj o e=>by
 by_cases h:j<UzA;·rw[Vx h]at e |-;exact .inl e
 ·rw[U3 Q0]at e;cases q:j-UzA with
  |zero=>rw[q]at e;cases e;calc .inr rfl
  |succ m=>rw[q]at e;simp! at e⟩
def X5b{Qfi}{QYk}(hi:env[i]?=yz QiJ)(L:bdDs (UzA+1) xs=yx):QNq (.frz QA0) env Qg0=Uo1 QDe:=by let:=U90 (X5a S Qx0) (by simpa [bdD] using L) [];rw[Vcy]at this;show gcR _ (Xcc (QNq QA0 env _))=_;rw[Xh hi];simp[Xcc,Xat,Xcj];calc this
def Yap{QLp}(h:Qpy=yz QV)(hl:Q48.length<1100){Qjn}:QNq (.frz (.sst e)) QKq=.ok (rwF (Yi Q48)) S:=by
 calc Yx ?_ Qd2;calc ond L ?_;rw[h];cases n with
 |nil=>rfl|cons r n=>simp[Xdp,Xlh (List.cons_ne_nil r n),Xdc,iP0 hl];rfl
def X0e{d:D}{Q4o}{QKj}(h:Xxa d n):Qpy=yz QV:=by rcases h with rfl|rfl<;>rfl
def X5c{Q4o}{k:LI}:k∈ddL n ↔ k∈n:=by
 let aa:∀(n L:LL),k∈n.foldl ddR L ↔ k∈L\/k∈n:=by
  intro n;induction n with
  |nil=>intro L;simp!|cons x n ih=>
   intro L;rw[Vcg,ih];unfold ddR;split
   ·rename_i h;constructor
    ·rintro (h|h);·exact Qfv
     ·exact .inr (UN7 h)
    rintro (h'|h');·exact .inl h'
    ·rcases Vv.mp h' with rfl|h';·exact Qfv
     ·exact .inr h'
   simp[Ut,V3,Vv,Va6,or_false];exact or_assoc
 calc(aa n []).trans Q9
def srtC_mem{Q4o}{k:LI}:k∈Yi n ↔ k∈n:=(Xab n).mem_iff
def Xxb{Qyn}:Q48.length<=lg n:=Uh (Xsg n []) Q9
def X5d{QEj}(h:n<1048576):Xc3 [.int n]=yz QEI:=by simp[Xc3,Vaf];rw[iP0 Q0]
def Xej{QAm}{Qoi}{Qci}{Q2k}(L:Q7s=.ok Q3P S1)(h:n<1048576):QSr (.rng Qs0) QKq=.ok (.con QEI) S1:=ond (Xn L Xba) (by rw[X5d n h])
universe e
theorem Dw{QWn}(S S1:Sto):Prop:=QRy/\∃k,S1=UKJ k
section
variable{p:Nat}{S S1 S2 X:Sto}
def Dw.rfl'(h:QRy):Dw p S S:=⟨h,by
 exact Xd h λk e=>?_;calc Qjc;unfold Z.pt;exact Xd QjL λhl e=>?_
 rw[<-e,List.set_getElem_self]⟩
def Dw.pot{Q9p}:Pot S1 p:=by let⟨h,k,rfl⟩:=h;calc h.pt k
def Dw.trans(a:QDu)(b:Dw p S1 S2):Dw p S S2:=by calc Xi8 a λh k L=>?_;subst L;calc Xi8 b λ_ j L=>?_;subst L;calc⟨h,j,Yc4 ..⟩
def Dw.sim{Q9p}:UEH:=by calc Xi8 h λ_ k L=>?_;subst L;calc Yae S p k
def Dw.len{Q9p}:QcE=UzA:=h.sim.1
def Dw.inv(h:QRy)(d:Dw p QWH S2):∃S1,S2=S1++X/\Dw p S S1:=by calc Xi8 d λ_ k L=>?_;subst L;calc⟨UKJ k,Yaf h X k,h,k,rfl⟩
variable{Qvn}
def Yaq{QQn}{Q5k}(h:Q2v=Qju S1)(hd:QDu)(L:pd v=yx){Qsh}:UiD=Ub0:=
 Xcy U4L hd.sim (UfG L) hn hg
def X0f(ns:LI)(j:Nat){QIh}:∃c,QIr Xds [.fro QW,QCt] S=.ok Qv8 S:=by
 let L:UUH=.ok (.bl (decide (j<UY3))) S:=by let:UUH=.ok (.bl (decide ((j:Int)<(QW.length:Int)))) S:=rfl;rw[this,Vg];congr 2;exact QOv
 by_cases h:j<UY3
 ·let hi:Xdq QS2 Q02 S=.ok (.int ns[j]) S:=by
   simp[Xdq,Xby,Xo,U0,Z.ixN,Vg];rw[iP0 Q0,iP0 Q0];simp![h]
  calc⟨ns[j],Xac rfl ((Xa4 (v:=.int ns[j]) L ((Xf5 (a:=UF9) (b:=UBE) rfl rfl).trans hi)).trans ?_) rfl⟩;rw[decide_eq_true h];rfl
 calc⟨0,Xac rfl ((Xf4 L).trans ?_) rfl⟩;rw[decide_eq_false h];rfl
def X0g{p:Nat}{v far:Int}{QKj}(h:S[p]?=yz (.lst QqX))(h0:0<far)(hd:Xg4 far=yx):QIr t_law_take [.ref p,.int far] S=.ok (.int Qpe) QrF:=by
 let l0:lstAt S p=yz QqX:=by unfold lstAt;rw[h]
 let L:Xdq Q21 QdG S=.ok (.int v) S:=by simp[Xdq,Xby,Xo,l0,U0,Z.ixN,Vhf];rfl
 let a0:Yn Q21 QdG Q4U S=U06 QrF:=by let h':lstM S p=yz QqX:=l0;simp[Yn,h',Z.ixN,Vhf];rfl
 calc Yaq (p:=p) rfl (?_:Qbq t_law_take.body [yz Q21,yz QL1,yy] S=_) ⟨⟨v,h⟩,_,rfl⟩ rfl;calc(Xw (v:=.int Qpe) (S1:=S) ?_).trans ?_;·exact Qt5.trans (Xht h0 S)
 ·let hx:Qfs QjQ QF6 S=.ok (.nx QF6) QrF:=by
   let e1:QNq Qg7 QF6 S=.ok Q4U S:=Qt5.trans (X0a hd S);exact ond e1 (ond rfl (ond rfl (ond a0 rfl)))
  calc(Xbt hx).trans (Xaf rfl)
def Xxc{Qjl}(L:0<m)(h1:m<=2000):Xg4 (m:Int)=true:=by unfold Xg4;rw[decide_eq_true Q0,Vbr];calc decide_eq_true (Vbk (m:=2000) ?_ Q2);rw[Int.natAbs_natCast];calc Uh (Nat.log2_le_self m) h1
theorem Tks(F:Fn)(f:Nat):Prop:=∀(p:Nat) (S:Sto) (m:Nat),QRy->0<m->m<=2000->∃(i:Nat) (S1:Sto),i<m/\Dw p S S1/\F f [.ref p,UdK] S=.ok Q91 S1
def Yar{T:QTy}{f:Nat}(hf:T[f]?=yz t_law_take){Qmj}:Tks QYF f:=λp S m hp h0 h1=>by calc Xd hp λv L=>?_;let n0:=Int.emod_nonneg v (show(m:Int)≠0 by omega);let n1:=Int.emod_lt_of_pos v (show(0:Int)<(m:Int) by omega);calc Xd (⟨(v%(m:Int)).toNat,by omega⟩:∃a:Nat,v%(m:Int)=(a:Int)) λa ha=>?_;calc⟨a,_,by omega,⟨⟨v,L⟩,v/m,rfl⟩,?_⟩;rw[Yk hf,X0g L Q0 (Xxc h0 h1),ha]
def Xfh{f j:Nat}{QAm}{Qjl}{S1:Sto}(hF:Tks F f)(h0:env[j]?=yz QZU)(he:Q7s=.ok (UdK) S1)(hd:QDu)(hm:0<m)(L:m<=2000):∃(i:Nat) (S2:Sto),i<m/\Dw p S S2/\ev F G QwI QKq=.ok Q91 S2:=by calc Xc (hF p S1 m hd.pot hm L) λi S2 h1 h2 h3=>?_;calc⟨i,S2,h1,hd.trans h2,(Xhv (Xh h0) he).trans h3⟩
def Xlm{x:D}{QYk}{Qfi}(h:UUC=QLu){QZp}(hi:i<QPs):Xdq x Q91 S=.ok xs[i] S:=by
 let L:Ul8 (i:Int)=yz i:=by unfold Z.ixN;rw[iP0 Q0,iP0 Q0,Vaf]
 let:Xby x Q91 S=yz xs[i]:=by
  cases x with
  |str t=>exact aB0 rfl (hs t)|_=>simp[Xby,h,U0,L,Vac hi]
 unfold Xdq;rw[this]
def Yas{f j:Nat}{a e:Ex}{QYk}{x:D}{Q0l}(ha:Qxv=Uh1)(hx:∀S,UUC=QLu){QZp}(he:Q7s=Up1)(hm:0<QPs)(L:QR<=2000):
  ∃v∈xs,∃S1,QDu/\ev F G (UhK QwI) QKq=Ub0:=by
 calc Xc (Xfh hF h0 he QQa hm L) λi S1 h1 h2 h3=>?_;calc⟨xs[i],Vdx h1,S1,h2,(Xf5 ha h3).trans (Xlm (hx S1) hs h1)⟩
def X0h(c a j:Int)(x:QDr){QIh}{Qan}:∃a' b',Qbq (U1I
  (.cons Qn
  (.cons QZ1 ss))) [yz Qv8,yz Qn6,U6J,x] S=QGs [yz Qv8,yz (.int a'),U6J,yz (.int b')] S:=by
 let m1:Xbh 7919 j=true:=Xsa QIu;let m2:∀y,Xbh y 48271=true:=λy=>Xlf QIu;let m3:Xbh 69621 j=true:=Xsa QIu;let m4:∀y,Xbh y 2147483587=true:=λy=>Xlf QIu;let p1:(0:Int)<2147483629:=by decide
 let p2:(0:Int)<2147483647:=by decide
 let p3:(0:Int)<2147483587:=by decide
 generalize L:((c%2147483629+7919*j+1)*48271)%2147483647=b;let b1:0<=b:=by rw[<-L];exact Int.emod_nonneg _ Q2
 let b2:b<2147483647:=by rw[<-L];exact Int.emod_lt_of_pos _ Q2
 let m5:Xbh b b=true:=Xlf Qtq;calc⟨a*2147483587+QAB%2147483587,QAB%2147483587,?_⟩;rw[Xw (v:=.int b) (S1:=S) ((bi (bi (bi (bi (bi QXG rfl (Xht p1 S)) (bi rfl rfl (Xfe m1 S)) Qa6) rfl Qa6) rfl (Xfe (m2 _) S)) rfl (Xht p2 S)).trans QLS)];dsimp[List.set];rw[Xw (v:=.int (QAB%2147483587)) (S1:=S) (bi (bi (bi (bi rfl rfl (Xfe m5 S)) (bi rfl rfl (Xfe m3 S)) Qa6) rfl Qa6) rfl (Xht p3 S))];dsimp[List.set];rw[Xw (v:=.int (a*2147483587+QAB%2147483587)) (S1:=S) (bi (bi rfl rfl (Xfe (m4 _) S)) rfl Qa6)];rfl
def X5e(c:Int){QIh}:∃a,Ue7=UMD:=by
 let hp:X1 .pow QWc (.int 18) S=.ok (.int (10^(18:Int).toNat)) S:=X44 Q8 S;generalize (10:Int)^(18:Int).toNat=w at hp;let aa:∀env,QNq QX1 QKq=.ok Q4W S:=λenv=>hp;let L:∀(e:Ex) (env:En) (a:Int),Q7s=UIE->QNq (.lst Qs0) QKq=UMD:=λe env a h=>ond (Xn h Xba) (iP0 (Yb Q9));let fin:∀ {a},UA3=.ok (.rt Q5) QQ3->Ue7=UMD:=λ{a} h=>by show gcB yw S (Xin (UA3))=_;rw[h];rfl
 let hc:QNq QdQ QjF S=.ok (.bl (decide (w<=c))) S:=(Xa5 (a:=UF9) rfl Qdg).trans (Xff rfl);by_cases h:w<=c;·calc⟨c-w,fin Q6O⟩;rw[decide_eq_true h,iP0 rfl,Xaf (L _ _ (c-w) ((Xch (a:=.var 0) rfl Qdg).trans QYd))]
 ·let⟨e',S',h1,rfl,a,x,y,rfl⟩:=UcC (env:=[yz Qv8,yz QdG,yy,yy]) QGx (t:=UAE) (it:=.rng Q9G) (ss:=UYF)
   (b:=U1I QlH)
   ((Ud 64).map λk:Nat=>Q1w) (λi e S'=>S'=S/\∃a x y,e=[yz Qv8,yz Qn6,x,y]) (Xej (n:=64) rfl Q2) ⟨rfl,0,yy,yy,rfl⟩ (λi d e S' hd hP=>by
    let⟨rfl,a,x,y,rfl⟩:=hP;rw[Ur]at hd;exact Xa (U2H) λm _ ab=>?_;subst ab;exact Yy (X0h QMq c a m y S' (ss:=.nil)) λa' b' st=>?_
    calc⟨_,_,S',rfl,st,rfl,a',_,_,rfl⟩)
  calc⟨a,fin Q6O⟩;rw[decide_eq_false h];calc(UD5 Q1y rfl).trans (h1.trans (Xaf (L _ _ a rfl)))
def turns{Qnn}(c:Nat)(h1:1<=c)(h2:c<1000000)(L:env[0]?=yz Quc):
  ∃m:Nat,QSr (.rng (.cons QS3 .nil)) QKq=.ok (.con QFI) S/\m<=c:=by
 let hl:QNq QL0 QKq=.ok (.int (lg ns:Nat)) S:=(Yu Qjg).trans (by show R.ok (D.int QW.length) S=_;rw[Vg]);let hm:QNq QS3 QKq=.ok (.int ((max 1 Q7Y:Nat):Int)) S:=by calc(Xw5 (a:=.cst QG) (x:=Q2w) (S1:=S) rfl (y:=.int (if (c:Int)<(lg ns:Int) then (c:Int) else (lg ns:Int))) (S2:=S) (Xw5 (b:=.cst Qv8) (y:=UJ9) hl rfl)).trans ?_;show R.ok (D.int (if (if (c:Int)<(lg ns:Int) then (c:Int) else (lg ns:Int))>1 then _ else _)) S=_;congr 2;split<;>split<;>omega
 calc⟨max 1 Q7Y,Xej hm Q0,by omega⟩
universe e
def Yef{P:D->Prop}{a b:D}{QZn}:∀d∈QLU,P d:=Va1.mpr ⟨h1,Va1.mpr ⟨h2,λ_ h=>nomatch h⟩⟩
def Yeg{P:D->Prop}{a b c:D}{QZn}(L:P c):∀d∈[a,b,c],P d:=Va1.mpr ⟨h1,Yef h2 L⟩
def X0i{P:D->Prop}{a b c d:D}{QZn}(h3:P c)(L:P d):∀x∈[a,b,c,d],P x:=Va1.mpr ⟨h1,Yeg h2 h3 L⟩
theorem Sm(dep aa:Nat)(d:D):Prop:=pd d=yx/\∃p,(∀L,Ym L d=UjF)/\p.showable=yx/\Xcp p=yx/\p.depth<=dep/\szD p<=aa
def Sm.mono{a b a' b':Nat}{d:D}(h:QTv)(h1:a<=a')(h2:b<=b'):QZx d:=by calc X5 h λq0 p q1 L q3 q4 q5=>?_;calc⟨q0,p,q1,L,q3,Uh q4 h1,Uh q5 h2⟩
def Xpu{Q3p}(h:i.natAbs<1000):Sm 0 4 Q91:=⟨rfl,QFu,λ_=>by simp[Ym],by
  let:i.natAbs.log2<1920:=Vbk (Nat.log2_le_self _) Q0
  simp[Vci,decide_eq_true this],by simp[Xcp],by simp[Vdl];calc UX0,by simp[szD,szI,iP0 h];calc UX0⟩
def Yc8{Qtk}:Sm 0 5 QnH:=⟨rfl,.bool b,λ_=>by simp[Ym],by simp[Vci],by simp[Xcp],by simp[Vdl];calc UX0,by simp[szD];omega⟩
def Yat(t:Str)(h:(reprText t).length<=100):Sm 0 100 Q76:=⟨rfl,.str t,λ_=>by simp[Ym],by simp[Vci],by simp[Xcp],by simp[Vdl];calc UX0,by simp[szD];calc h⟩
def sms{Qjo}:∀ds:LD,(∀d∈ds,QTv)->pds ds=yx/\∃ps,(∀L,UKC ds=yz ps)/\Vcn ps=yx/\dctEs ps=yx/\Vc0 ps<=a/\szDs ps<=U4G*QzP
 |[]=>λ_=>⟨rfl,[],λ_=>by simp[datFs],by simp[Vcn],by simp[dctEs],by simp[Vc0];calc U2A,by simp[szDs];calc U2A⟩|d::ds=>λh=>by calc X5 QHd λp0 p p1 p2 p3 p4 p5=>?_;calc X5 (sms ds λx hx=>h x Q2X) λq0 ps q1 q2 q3 q4 q5=>?_;calc⟨by simp[pds,p0,q0,Vbq],p::ps,λL=>by simp[datFs,p1,q1],by simp[Vcn,p2,q2,Vbq],by simp[dctEs,p3,q3,Vbq],by simp[Vc0];calc Qfx,?_⟩;simp[szDs,U5,Vgo];omega
def Xxd{Q1j}:QZx Q0M:=by calc X5 QZZ λq0 ps q1 q2 q3 q4 q5=>?_;calc Q82
def Yau{Q1j}:QZx QXB:=by calc X5 QZZ λq0 ps q1 q2 q3 q4 q5=>?_;calc⟨q0,.list ps,λL=>by simp[Ym,q1,U7],by simp[Vci,q2],by simp[Xcp,q3],by simp[Vdl];omega,by simp[szD];omega⟩
def Yav{QPm}:Sm 1 (UyA*6+3) QcO:=Xxd (a:=0) (b:=4) (λd hd=>by
 exact Qsv λx hx L=>?_;subst L
 calc Xpu x QGd) Qa (by rw[Vg];calc UX0)
def Xjw{d:D}(h:Sm 60 big d):∃t,∀S,Xgd S d=yz t:=by calc X5 h λ_ p q1 L q3 q4 q5=>?_;calc⟨p.shown,λS=>?_⟩;simp[Xgd,Y0,q1,L,q3,decide_eq_true q4,decide_eq_true q5];rfl
def eq_str(t:Str){QIh}:X4 .eq Q76 Q76 S=Q8x S:=by simp[X4,Xbi,eqD,Xev,beq_self_eq_true]
def Yaw(t:Str){QIh}:X4 .ne Q76 Q76 S=UXH:=by simp[X4,Xbi,eqD,Xev,beq_self_eq_true,U7,Vc7]
section
variable{Q3m}
def X10{Qhj}:QNq Q7M QKq=.ok QUQ (S1++[.lst ds]):=US3 QPb
def Xek{Qhj}{Q4p}(L:bdDs QF ds=yx):QNq Qha QKq=UWA:=Xgw (X10 h hl) hs L
def Xgy{QAm}{d:D}{t:Str}(h:Q7s=Qrt S1)(L:Xgd S1 d=yz t):QNq (QZy Qs0) QKq=.ok Q76 S1:=by rw[Yu h];simp[Yc,L]
abbrev Xb3(c:Nat):D:=([.str "net",.str "face",.str "point",.str "apart",.str "many",.str "text",.str "row",.str "number",.str "level",.str "crowd",.str "way",.str "closed",.str "swap",.str "places",.str "deed",.str "line"]:LD).getD (c-1) .non
def Xhz{n c k:Nat}{Qfi}(hi:env[i]?=yz QYU)(L:S[n]?=Qru):QNq (.isi QA0 [.cls k]) QKq=.ok (.bl QSL) S:=by
 let:kdD S Q81=Qru:=by simp[kdD,L]
 rw[X1w QCA this];simp[Xau,isT];cases QSL<;>rfl
abbrev Xi1(k1 k2 k3 L:Nat):Exs:=.cons (Qrr [.cls k1]) (.cons (Qrr [.cls k2]) (.cons (Qrr [.cls k3]) (.cons (Qrr [.cls L]) .nil)))
abbrev isK(c k:Nat):D:=.bl QSL
def Xsh{n c:Nat}(L:env[0]?=yz QYU)(hn:S[n]?=Qru)(a b d e:Nat):QNv QNV QKq=.ok QRE S:=by unfold Xi1 isK;calc UdJ (UdJ (UdJ (UdJ Xba)))
def Xcg{Qoi}{o:O}(h:S[n]?=Qkq)(X:Sto):QWH[n]?=Qkq:=by rw[Vx QL5.1];calc h
def Xi2{n c:Nat}{QYk}{w:QDr}{q:Nat}{Qan}(L:S[n]?=Qru)(hq:S[q]?=Qqu)(hx:QR<=100)(a b d e:Nat):
  pe F G (.cons (Q3t (UK1 (.frz (.lst QNV)))) ss) [yz Q81,yz QyD,w] S=QGs [yz Q81,UnF,w] (S++[.lst (xs++QRE)]):=by
 calc Xw ((Xch (a:=UBE) rfl (Xek (Xsh rfl L a b d e) Q7A .rfl' rfl)).trans ?_);let l:lstAt S q=QLu:=by simp[lstAt,hq]
 let hb:QR+4<=big:=Yb Q0;simp[X1,lsD,l,U5,Vfd];calc iP0 hb
def X0j{n c:Nat}(hn:S[n]?=Qru)(h1:1<=c)(h2:c<=16):QIr t_law_kind_of Q4g S=.ok QfN S:=by
 let pw:pd QfN=true:=by
  let:∀c:Fin 17,pd QcY=true:=by decide+kernel
  exact this QjG
 generalize hB:Q93++QG6++Q1D++[isK c 13,isK c 14,isK c 15,isK c 16]=B;let ab:Yl B=yz (QZ4.map λx=>(x==0||x==c)):=by rw[<-hB];rfl
 let ag:∀c:Fin 17,1<=c.val->QwE.countP Qoc=1/\QwE.findIdx? Qoc=yz (c.val-1):=by decide+kernel
 exact Xi (ag QjG h1) λk1 k2=>?_;let s1:=X10 QMq (env:=QzC) (S:=S) (Xsh rfl hn 1 2 3 4) Q7A;generalize hX:([.lst Q93]++[.lst (Q93++QG6)]++[.lst (Q93++QG6++Q1D)]:Sto)=X;let gl:∀(A:Sto) (xs:LD),(A++[O.lst xs])[A.length]?=Qqu:=λA xs=>Xat A _;let body:∀ss,Qbq (.cons (Q3t (.lst (Xi1 1 2 3 4))) (.cons (Q3t (UK1 (.frz (.lst (Xi1 5 6 7 8))))) (.cons (Q3t (UK1 (.frz (.lst (Xi1 9 10 11 12))))) (.cons (Q3t (UK1 (.frz (.lst (Xi1 13 14 15 16))))) ss)))) QzC S=QGs [yz Q81,yz QVQ,yy] QNR:=λss=>by calc(Xw s1).trans ((Xi2 QFJ (gl S _) (by show 4<=100;decide) 5 6 7 8).trans ((Xi2 QaY QId (by show 8<=100;decide) 9 10 11 12).trans ((Xi2 (Xcg QaY _) QId (by show 12<=100;decide) 13 14 15 16).trans ?_)));rw[<-hB,<-hX];simp[Ug]
 let ae:(S++X++QNU)[n]?=Qru:=Xcg QFJ _;let l4:lstAt QNR QWH.length=yz B:=Y4 _ _;generalize af:S++X++QNU=L at ae l4 body;generalize QWH.length=q at l4 body;let rc:∀k,Xb5 k QyD L=true:=λk=>by simp[Xb5,l4,Option.isSome]
 let c1:∀env:En,env[1]?=yz Qrc->QNq (.mth .count QA (.cons Qw2 .nil)) UfA=.ok QG L:=λenv h=>by rw[Xhu QAX QJg rfl];simp[Xap,l4,U0,ab,k1];rfl
 let c2:∀env:En,env[1]?=yz Qrc->QNq Q0E UfA=.ok (.int (c-1:Nat)) L:=λenv h=>by rw[Xhu QAX QJg rfl];simp[Xap,l4,U0,ab,k2]
 let t5:QNq Qi3 QuQ L=Q0w L:=by
  let hk:kdD L Q81=Qru:=by simp[kdD,ae]
  exact Qsw (y:=yw) ((Xa5 (c1 _ rfl) rfl).trans (Xem (Xpo 1 1 L))) λ_=>Xcz (x:=yx) ?_;exact X1w rfl hk
 let wd:Xb3 c=(Q01++QX8:LD).getD (c-1) .non:=rfl;generalize aa:(Q01:LD)=w1 at wd;generalize ac:(QX8:LD)=w2 at wd;let l1:w1.length=12:=by rw[<-aa];rfl
 let l2:w2.length=4:=by rw[<-ac];rfl
 let b1:Uc3 w1=true:=by rw[<-aa];rfl
 let b2:Uc3 w2=true:=by rw[<-ac];rfl
 let e1:∀env,QNq QY UfA=.ok Qbc L:=λenv=>Xek (by subst aa;rfl) Q0 .rfl' b1;let e2:∀env,QNq Qq UfA=.ok (.fro w2) L:=λenv=>Xek (by subst ac;rfl) Q0 .rfl' b2;let b3:Uc3 QoJ=true:=by rw[<-aa,<-ac];rfl
 let e3:QNq QUJ [yz Q81,yz QyD,yz Qbc] L=.ok (.fro QoJ) L:=Yx ((Xch (a:=UAE) rfl (e2 _)).trans (Xll _ _ QG7 L)) b3;let hi:c-1<QoJ.length:=by rw[Vw];omega
 let hv:QoJ[c-1]=Xb3 c:=by rw[wd,Vbd,Vac hi];rfl
 let e4:=(Xf5 e3 (c2 _ rfl)).trans (Xlm (x:=.fro QoJ) (xs:=w1++w2) rfl QR9 hi);rw[hv]at e4;let r:Qbq t_law_kind_of.body QzC S=.ok (.rt QfN) (S++(X++[.lst B])):=by rw[<-Ug,af];calc(body _).trans ((Xa4 t5 (v:=UZK) rfl).trans ?_);rw[iN0 Ue];exact(UC5 (env:=QuQ) (e1 _)).trans (Xaf e4)
 calc Xcy (X:=X++QNU) (env0:=QzC) rfl r .rfl' (UfG pw)
theorem Kds(F:Fn)(f:Nat):Prop:=∀(n c:Nat) (S:Sto),S[n]?=Qru->1<=c->c<=16->F f Q4g S=.ok QfN S
def Yax{T:QTy}{f:Nat}(L:T[f]?=yz t_law_kind_of){Qmj}:Kds QYF f:=λn c S h h1 h2=>by rw[Yk L,X0j h Qwq]
def Yay{b h ss:Sts}{c x:Nat}{r:D}(hn:U2C=yx)(L:URH QKq=.ok Q8Z S1):Qbq (.cons (.try b c x h) ss) QKq=.ok Q8Z S1:=Xhs (QCd.trans QLS)
def Yaz{b ss:Sts}{x L k:Nat}(hn:U2C=yx)(hb:URH QKq=Q3w Qf7)(hx:x<Uc8){Qnm}:Qbq (.cons Qv5 ss) QKq=.ok (.rt Qgf) Qf7:=Xhs (by let hg:(S++[O.exc k])[lg S]?=yz (.exc k):=Xat ..;let hv:QNq QJe (env.set x QiJ) Qf7=Qvq Qf7:=Xh (Vam hx);calc QCd.trans ?_;rw[hb];dsimp;rw[hg];dsimp;rw[iP0 QNd,Xaf ((Yh hv).trans (hk _ _ _ hg h1 h2))])
def X5f{c:Nat}(h:c<=16):pd QfN=true:=by
 let:∀c:Fin 17,pd QcY=true:=by decide+kernel
 calc this QjG
def X0k{Qcj}{np nl x ik:Nat}{b:Sts}{r:D}{Qzj}(L:URH env0 S=.ok Q8Z S)(hr:UA5 r=yx):QIr ⟨np,nl,.cons (.try b 0 x (.cons (.ret (.call ik (.cons QJe .nil))) .nil)) .nil,yx⟩ ds S=UD4:=
 Xac he (Yay hn L) hr hd
def X0l{Qcj}{np nl x L k:Nat}{b:Sts}{Qzj}(hb:URH env0 S=Q3w Qf7)(hx:x<lg env0){Qnm}:QIr ⟨np,nl,.cons Qv5 .nil,yx⟩ ds S=.ok Qgf S:=
 Xcy he (Yaz hn hb hx hk Qwq) .rfl' (UfG (X5f h2)) hd
universe e
def X5g{Qvn}{QIh}:QNq QZX QKq=.ok .edc S:=by
 let L:QCe[lg S]?=yz QjH:=by simp!
 let e2:QCe.set QF .ded=S++Q1N:=Xcj S _ _;show QPx (Xcc (Qvq QoI))=_;simp[Xcc,L,e2];calc Xgv (d:=.edc) .rfl' rfl _
theorem Cl(e:Ex)(d:D):Prop:=pd d=yx/\∀(F:Fn) (G:LD) (env:En) (S:Sto),Q7s=UJ1
theorem Cls(es:Exs)(ds:LD):Prop:=pds ds=yx/\∀(F:Fn) (G:LD) (env:En) (S:Sto),UDA=.ok ds S
def Xa1{d:D}{Qdk}:Cl QBW d:=⟨h,λ_ _ _ _=>rfl⟩
def Ya0{i:Int}:Cl (.neg (.cst Q91)) QgH:=QaK
def Ya1:Cl QZX .edc:=⟨rfl,λ_ _ _ S=>X5g S⟩
def Xjx{Q1l}:Cl QOc Q0M:=⟨h.1,λF G env S=>ond Q7H QPb⟩
def Xjy{Q1l}:Cl Qha QXB:=⟨h.1,λF G env S=>Xek Q7H hl .rfl' (QJv h.1)⟩
def Xca:Cls .nil []:=QaK
def Xq{QAm}{es:Exs}{d:D}{ds:LD}(h:Cl e d)(t:Cls es ds):Cls QbF QNY:=⟨by rw[pds,h.1,t.1];rfl,λF G env S=>Xn Q7H (t.2 F G QKq)⟩
section
variable{Qvn}
def Yc9{QAm}{d:D}(h:Cl e d){QIh}:Q7s=UJ1:=h.2 F G QKq
universe e
mutual
def Xxe{Q2p}:∀ {d:D},pd d=yx->Ym k d=Ym l d
 |.ref _=>λh=>by cases h|.fn _ _=>λh=>by cases h|.tup xs=>λh=>by rw[Ym,Ym,UV4]|.fro xs=>λh=>by rw[Ym,Ym,UV4]|.non=>λ_=>rfl|.bl _=>λ_=>rfl|.int _=>λ_=>rfl|.str _=>λ_=>rfl|.edc=>λ_=>rfl
def dats_pd{Q2p}:∀ {xs:LD},UX8=yx->datFs k xs=datFs l xs
 |[]=>λ_=>rfl|x::xs=>λh=>by rw[pds,bA0]at h;rw[datFs,datFs,Xxe k l h.1,dats_pd k l h.2]
end
abbrev smB(dep L:Nat)(d:D):Bool:=pd d&&match Ym Q0b d with
 |some p=>p.showable&&Xcp p&&decide (p.depth<=dep)&&decide (szD p<=L)|none=>yw
def Yda{Qjo}{d:D}(h:smB a b d=yx):QTv:=by
 unfold smB at h;rw[bA0]at h;cases e:Ym Q0b d with
 |none=>rw[e]at h;cases h.2|some p=>rw[e]at h;calc Xi h λh0 h=>?_;simp[bA0,decide_eq_true_eq]at h;calc⟨h0,p,λL=>(Xxe _ _ h0).trans e,h.1.1.1,h.1.1.2,h.1.2,h.2⟩
def Xxf{Qjo}{ds:LD}(h:ds.all (smB a b)=yx):∀d∈ds,QTv:=λd hd=>Yda (U6.mp h d hd)
def Sm.pd{Qjo}{d:D}(h:QTv):Z.pd d=true:=h.1
def enc_bl:Enc Bool D.bl PyData.bool 0:=⟨λ_ _=>rfl,λ_=>rfl,λ_=>by simp![Vdl],λx y=>by cases x<;>cases y<;>rfl⟩
def Ydb(a b:Bool){QIh}:U60 (.bl a) QnH=Q3u:=enc_bl.eq Qbw
def X0m{Q7l}{iw k:Nat}(L:T[iw]?=yz Xic){d:D}{Qdk}{QIh}:QNy iw QSt=Ui1:=by rw[Yk L];calc Xmq h S
def Xpv{QFi}{QEj}:UWJ yy QDF=xs.take n:=by
 unfold cut;let h1:UeC QR QDF=min n QR:=by simp![Xea]
 rw[h1];simp[Xea,Vft,Nat.sub_zero];by_cases c:n<=QPs;·rw[Vcz c]
 ·rw[Nat.min_eq_right Q0,Vey,Va9 Q0]
section
variable{QYh}{S S1 S2:Sto}{Qci}{p:Nat}
def X11{Q6l}{Qvp}{Qan}(h1:Qxv=.ok UaA)(h2:QNq b Q0u=.ok y S2):Qbq (.cons (.par [i,j] Qk5) ss) QKq=QGs (QP4.set j QCg) S2:=Xbt (ond (Xn h1 QYN) rfl)
def X0n{Qhi}:QNq (.sli a .none Q1T) QKq=.ok (.tup QwX) S:=U1C (ond rfl (ond Qv6 (UXJ (Qeu (Xpv xs n)))))
def Xpw{Qhi}:QNq (.sli a Q1T .none) QKq=.ok (.tup QxX) S:=U1C (ond Qv6 (ond rfl (UXJ (Qeu (Xpp xs n)))))
def Xfi{Qal}{x y:LD}(h1:Qxv=.ok (.tup x) S)(h2:Qdx=.ok (.tup y) S)(h:QOL+lg y<=100000):QNq QoH QKq=.ok QwV S:=by rw[Xch Qwq];simp[X1];calc iP0 (Yb h)
def Xjz{QAm}{x:D}{QYn}:QNq (.tup Qs0) QKq=.ok (.tup [x]) S1:=ond (Xn h rfl) (iP0 (show 1<=big by decide))
def Xxg{Qvp}{Q3h}:QNq (.tup Qk5) QKq=.ok QTQ S2:=ond (Xn h (Xn h2 rfl)) (iP0 (show 2<=big by decide))
def Xh0{QAm}{x:D}{QYk}{QYn}(L:Xo S1 x=QLu):QNq (Q9v Qs0) QKq=.ok Q1E S1:=by
 rw[Yu h];cases x with
 |str z=>cases L|_=>simp[Yc,L]
def Xln{f j n:Nat}{a:Ex}{QYk}{Q0l}(ha:Cl a Q57)(hn:QR=n)(hm:0<n)(L:n<=2000):
  ∃v∈xs,∃S1,QDu/\ev F G (UhK (.call f (.cons Qs8 (.cons (.cst Q3P) .nil)))) QKq=Ub0:=by
 subst hn;calc Yas (x:=.fro xs) hF hp h0 (Yc9 ha S) QD2 QR9 rfl hm L
def Xna{QHn}:(Ur4).length<=k:=Uh (List.length_take_le' ..) h
def Xt9{QHn}:(xs.drop a).length<=k:=Uh (by rw[Vbu];calc Nat.sub_le ..) h
def X12{Q7h}{xs ys:Q7r}{k m:Nat}(h:QR<=k)(h2:QzG<=m):QnJ.length<=k+m:=by rw[Vw];calc Uk7
def Xdk{Qwi}{Qki}{f:α->β}{Qgj}(h:QR<=k):QT9.length<=k:=by rwa [Vg]
def Ya2{Q7h}{xs m:Q7r}{a b k j:Nat}(h:a<=b)(hk:QR<=k)(L:QJb<=j):(Ur4++m++UlB).length<=k+j:=by simp[Vw,Vaq,Vbu];omega
def adk{x y i j:Nat}(h:x<=i)(h2:y<=j)(L:i+j<=100000:=by decide):x+y<=100000:=Uh (Uk7) L
def Xbm{QBk}{xs ys:Q7r}{QGl}(h2:∀x∈ys,P x):∀x∈xs++ys,P x:=λx L=>QmS.elim (h x) (h2 x)
def Xj0{QXo}:∀x∈xs.take a,P x:=λx L=>h x (Vic L)
def Xj1{QXo}:∀x∈xs.drop a,P x:=λx L=>h x (Vei L)
def Xi3{QBk}{y:α}(h:P y):∀x∈[y],P x:=λx L=>by rw[V3.mp L];calc h
def Ydc{QBk}{Qki}{QGl}:∀x∈xs.reverse,P x:=λx L=>h x QBQ
def Ydd{Q7h}{Qki}{Qgj}(h:QR<=k):(lg xs.reverse)<=k:=by rwa [List.length_reverse]
def Xnb{QBi}:QZx Q0M:=Xxd h ha Q89
def X13{QBi}:QZx QXB:=Yau h ha Q89
def Xua{k b':Nat}{QPm}(hl:QKb<=k)(L:k*6+3<=b':=by decide){a':Nat}(ha:1<=a':=by decide):QZx QcO:=(Yav h).mono ha Q89
theorem Smn(l:LI):Prop:=∀x∈l,x.natAbs<1000
def Smn.item{l:LI}(h:Smn l){d:D}(hd:d∈l.map D.int):UV5 d:=by calc Qsv λx hx L=>?_;subst L;calc(Xpu x QGd).mono QIu
def Ya3{a b c:Nat}{x:D}{ys:LD}(hx:Sm a c x)(hy:∀d∈ys,QTv):∀xs:LD,(∀d∈xs,QTv)->pds QzX=yx/\∃ps,(∀L,UKC QzX=yz ps)/\Vcn ps=yx/\dctEs ps=yx/\Vc0 ps<=a/\szDs ps<=(QPs+UX3)*QzP+(c+2)
 |[]=>λ_=>by calc X5 hx λp0 p p1 p2 p3 p4 p5=>?_;calc X5 (sms ys hy) λq0 ps q1 q2 q3 q4 q5=>?_;calc⟨by simp[Ve9,pds,p0,q0,Vbq],p::ps,λL=>by simp[Ve9,datFs,p1,q1],by simp[Vcn,p2,q2,Vbq],by simp[dctEs,p3,q3,Vbq],by simp[Vc0];calc Qfx,?_⟩;simp[szDs,Vfd,Vet];omega|d::ds=>λh=>by calc X5 QHd λp0 p p1 p2 p3 p4 p5=>?_;calc X5 (Ya3 hx hy ds λx hx=>h x Q2X) λq0 ps q1 q2 q3 q4 q5=>?_;calc⟨by simp[Vf0,pds,p0,q0,Vbq],p::ps,λL=>by simp[Vf0,datFs,p1,q1],by simp[Vcn,p2,q2,Vbq],by simp[dctEs,p3,q3,Vbq],by simp[Vc0];calc Qfx,?_⟩;simp[szDs,U5,Vgp _ 1,Vgo];omega
def Ya4{a b c k a' b':Nat}{x:D}{xs ys:LD}(hx:Sm a c x)(h1:∀d∈xs,QTv)(h2:∀d∈ys,QTv)(hl:QR+UX3<=k)(ha:a+1<=a':=by decide)(hb:k*QzP+(c+2)+3<=b':=by decide):QZx (.tup (xs++[x]++ys)):=by calc X5 (Ya3 hx h2 xs h1) λq0 ps q1 q2 q3 q4 q5=>?_;let m:=Vf5 QzP hl;rw[Ug,Vhx];calc Q82
def X0o{QAm}{Q4o}(L:n≠[])(hl:Q7J<100000)(he:Q7s=.ok QE2 S):QNq (Qos (.cons Qia .nil)) QKq=.ok (Xm Qig) S:=by
 let s:QNq Q3E QKq=Qvq (S++[.lst (Qig.map Xb)]):=by rw[Yu he];show Un9 [.tup QV] S=_;simp[Yc,Xo,Xlh L,Xdc,Xkh,iP0 hl];rfl
 rw[Yu (Yx s Qd2)];rfl
theorem Rws{Qmj}{Qyn}:Prop:=lg n<=k/\∀s∈n,lg s<=7/\Smn s
def Rws.item{Qno}:∀d∈n.map Xb,Sm 1 45 d:=λd hd=>by calc Qsv λx hx L=>?_;subst L;calc Xua QpZ.2 QpZ.1
universe e
def Xmr{Q7h}{QVn}:∀(l m:Q7r),l.Nodup->(∀x∈l,x∈m)->UyA<=lg m
 |[],_=>λ_ _=>U2A|x::l,m=>λh hs=>by calc Xi (Ve7.mp h) λh1 h2=>?_;let:=Xmr l (m.erase x) h2 λy L=>(List.mem_erase_of_ne λe=>h1 (by rw[<-e];calc L)).mpr (hs y QIA);let e:=List.length_erase_of_mem QSb;let:=List.length_pos_of_mem QSb;rw[U5];omega
section
variable{Q3m}{it:Nat}
def Xpx{Qoi}{QYk}(h:S[n]?=Qqu):Qys=QLu:=by unfold lstAt;rw[h]
def Xsi{QVi}{t:Tg}{Q3i}(zs:LD)(T:D->En){Qco}(hs:∀i L S,P i L S->get S i=UZB){Qsi}
  (hb:∀i x L S,zs[i]?=QJu->P i L S->∃aa S',UOG L S=.ok UjE/\P Qq1 UjE):
  ∀(n i:Nat) (e:En) (L:LD) (S:Sto),Q7y-i<n->i<=Q7y->QC7->P i L S->∃aa S',Xak UJ8 L S=.ok UjE/\P QT6 UjE
 |0=>λi e L S h=>QUx|n+1=>λi e L S h hi h0 hP=>by
  rw[Xak,hs i L S hP];cases q:zs[i]? with
  |none=>
   let:i=Q7y:=by let:=Uv.mp q;omega
   subst this;calc⟨L,S,rfl,hP⟩|some x=>let hx:=Uc q;let lt:=QnD.1;calc Xf (hb i x L S q hP) λaa S' h1 h2=>?_;dsimp;rw[h0 x hx];dsimp;rw[h1];calc Xsi zs T P UtK _ UjE Qtq QhK h2
def Ya5{Qsj}{Qco}{QJm}(h0:P 0 [] S1)
  (hb:∀j x L S,zs[j]?=QJu->P j L S->lg L<big/\∃y S',QWv=.ok y S'/\P QiA QuO S'):
  ∃aa S',QNq QR4 QKq=.ok QD9 (S'++[.lst aa])/\P QT6 UjE:=by
 exact Xf (Xsi (get:=Qi5.get) (t:=.var i) (body:=Xa3 (λenv S=>Qlt .nil QKq) λenv L S=>(QNq elt QKq).bind λy S=>if Q9J<big then UGE else .bad) zs Q2N P QzQ QT4
  (λj x L S hx hP=>by let⟨hz,y,S',e1,e2⟩:=hb j x L S hx hP;calc⟨L++[y],S',?_,e2⟩;show(QWv).bind _=_;rw[e1,Rk0,iP0 hz]) QrS 0 Qw [] S1 QK6 Q27 Qy2 h0) λaa S' h1 h2=>?_
 calc⟨aa,S',?_,h2⟩;calc ond hi (U1C rfl)
def Xlo{QAm}{Qci}{QYk}{X:Sto}(h:Q7s=.ok QVQ (S++X++Qr0)){QIl}:Uc7=Uo1 S:=by show QPx Qvb=_;rw[h];simp[Xcc,Xat,Xcj];rw[Ug];calc U90 .rfl' L _
universe e
abbrev mxI:LI->Int
 |n::r=>UR3|[]=>0
def mxf:∀(r:LI) (n:Int),(∀x∈n::r,x<=UR3)/\r.foldl max n∈n::r
 |[]=>λn=>⟨λx L=>by rw[V3.mp L];calc UgH,US2⟩|m::r=>λn=>by
  exact Xi (mxf r QFb) λh1 h2=>?_;rw[Vcg];exact⟨λx L=>?_,?_⟩
  ·let h0:=h1 QFb Q9;rcases Vv.mp L with rfl|L;·exact Int.le_trans (Int.le_max_left ..) h0
   ·rcases Vv.mp L with rfl|L;·exact Int.le_trans (Int.le_max_right ..) h0
    ·exact h1 x QIA
  exact Xj Q2a Qx7 λh2=>?_;·rw[e];rcases Int.max_def n m▸(by split<;>simp!:(if n<=m then m else n)∈n::m::r) with z;exact z
  ·calc UN7 (UN7 h2)
def Ya6{Qnn}{x:Int}(h:x∈ns):x<=mxI ns:=by
 cases ns with
 |nil=>cases h|cons n r=>calc QEb.1 x h
def X5h{Qnn}(h:ns≠[]):mxI ns∈ns:=by
 cases ns with
 |nil=>cases h rfl|cons n r=>calc QEb.2
def X14{Qnn}(h:ns≠[]){QIh}{x:D}(L:UUC=yz QW):Yc .mxl [x] S=.ok (.int (mxI ns)) S:=by
 cases ns with
 |nil=>cases h rfl|cons n r=>simp[Yc,L,U0,Y1];rfl
abbrev lns{Qyn}:LI:=n.map λs=>(s.length:Int)
abbrev wdt{Qyn}:Int:=mxI Q1f
section
variable{QYh}
def Xxh{Q2m}{n j:Nat}{it:It}{QIm}(hi:QOy=.ok Qma S)(hl:Q5A<=big)(hj:(UMH QWZ)[j]?=yz QWZ):QNq (QZr n (.cons Qs8 it Qht) (Q9v QUR)) QKq=Qvq (S++[.lst ((lns ks).map D.int)]):=by
 let L:∀x,(UMH Q2B)[j]?=yz Q2B:=λx=>by
  let:j<Qw.length:=by let:=(Vk.mp hj).1;rwa [Vb3]at this
  exact Vam this
 let c:=Xt4 U72 (t:=.var j) (it:=it) (ifs:=.nil) (elt:=Q9v QUR) (src:=.con QWC) QWC (λx=>UMH Q2B) QS9 (λd=>.int (Qhg.length:Nat)) hi QD2 Qa QvP Qy2 QT4 Qy2 (λd hd _=>by
  exact Qsv λk _ aa=>?_;subst aa
  rw[ints_of];calc(Xh0 (xs:=k.map D.int) (Xh (L _)) rfl).trans ?_;rw[Vg])
 rw[Vij.mpr λ_ _=>rfl,U8]at c;rw[c];congr 4;unfold lns;rw[U8];calc List.map_congr_left λk _=>?_;simp[Function.comp,ints_of]
abbrev cnt{QIm}(s:Nat):Nat:=ks.countP λk=>decide (lg k=s)
abbrev cts{QIm}(w:Nat):LI:=(Ud (w+1)).map λs=>(cnt ks s:Int)
def Xfj{QIm}(w:Nat):QmB.length=w+1:=by unfold cts;rw[Vg,Vat]
def Xlp{QIm}{w s:Nat}(h:s<=w):QmB[s]?=yz (cnt ks s:Int):=by unfold cts;rw[Ur,Ve0 Q0];rfl
def X0p{QIm}(k:LI){w:Nat}(h:QoW<=w):cts QAS w=QmB.set k.length ((cnt ks k.length:Int)+1):=by
 apply Vfn;intro i;by_cases hi:i<=w
 ·rw[Xlp _ hi,List.getElem?_set,Xlp _ hi,Xfj];let e:cnt QAS i=cnt ks i+if QoW=i then 1 else 0:=by
   unfold cnt;rw[List.countP_append,List.countP_singleton];by_cases c:QoW=i<;>simp![c]
  rw[e];by_cases c:QoW=i;·subst c;rw[iP0 rfl,iP0 rfl,iP0 Q0];rfl
  ·rw[iN0 c,iN0 c];rfl
 rw[Vak QBR,Vak (by rw[Vb3,Xfj];omega)]
def X0q(w:Nat):Vm (w+1) (0:Int)=cts [] w:=by
 unfold cts cnt;apply Vfn;intro i;rw[Ur];by_cases h:i<w+1;·rw[Ve0 h,List.getElem?_replicate_of_lt h];rfl
 ·rw[Vak (by rw[Vfq];omega),Vak QnE];rfl
abbrev Yeh(em:Ex)(it:It):Sts:=.cons (Q3t Qq7) (.cons (UH4 it QZR) QWR)
def X0r{em:Ex}{it:It}{d:D}{ks:LL}{w:Nat}(hm:∀S,QNq em QG9 S=.ok (.int (w:Nat)) S)(hi:∀x S,U9K [yz d,QJu,yy] S=.ok Qma S)(hk:∀k∈ks,lg k<=w)(af:w<=100){QIh}:
  pe F G (Yeh em it) QG9 S=.ok (.rt (Xb QmB)) (S++QFa):=by
 let m:QNq Qq7 QG9 S=.ok (.ref QjV.length) (S++Q73++QY7):=by
  let e1:QNq (Qdq em Q4) QG9 QjV=.ok (.int ((w+1:Nat):Int)) QjV:=(Xch (hm _) rfl).trans Qa6;calc(Xch (a:=.lst QmH) rfl e1).trans ?_;simp[X1,lstM,Xat];rw[iP0 ⟨by omega,QdD,by omega⟩,Vaf];congr 3;rw[<-X0q,List.map_replicate];congr 2;clear e1;generalize w+1=v;induction v with
  |zero=>rfl|succ v ih=>rw[Vae,Vby,ih,Vae];rfl
 generalize hT:S++Q73=T at m;let fp:=UcC (env:=[yz d,yz Qb3,yy]) (S:=T++QY7) (S1:=T++QY7) (t:=UAE) (it:=it) (ss:=.cons Qq3 .nil)
  (b:=.cons Q63 .nil) QWC (λi e S'=>S'=T++[.lst (UTH)]/\∃(x:QDr),e=QJU)
 exact Xsy (fp (hi _ _) ⟨rfl,yy,rfl⟩ (λi y e S' hd hP=>by
  let⟨rfl,x,rfl⟩:=hP;rw[Ur]at hd;let⟨k,hg,rfl⟩:=U2H;let L:=hk k (Uc hg);generalize hX:UTH=X;let hl:(lg X)=w+1:=by rw[<-hX,Vg,Xfj]
  let hx:X[k.length]?=yz QZa:=by rw[<-hX,Ur,Xlp _ L];rfl
  let ln:QNq QK3 QfA Q56=.ok QWB Q56:=by calc(Xh0 (e:=UAE) (xs:=k.map D.int) rfl rfl).trans ?_;rw[Vg]
  let aa:Z.ixN X.length (k.length:Nat)=yz k.length:=by unfold Z.ixN;rw[iP0 Q0,iP0 Q0,Vaf]
  let gl:Xgc Qb3 QWB Q56=.ok QZa Q56:=by simp[Xgc,Y4,aa,U0,hx]
  let as:Yn Qb3 QWB (.int (QA2+1)) Q56=U06 QJA:=by let lm:lstM Q56 (lg T)=yz X:=Y4 T X;simp[Yn,lm,aa];rw[Xcj]
  let st:Qfs Q63 QfA Q56=.ok (.nx QfA) QJA:=by let lk:Qk0.length=lg k:=Vg ..;rw[<-lk]at gl as;exact ond gl (ond rfl (ond (a:=.int ((cnt QU6 Qk0.length:Nat)+1)) rfl (ond as (by rw[lk]))))
  calc⟨_,_,_,rfl,Xbt st,?_,_,rfl⟩;rw[Xpq hg,X0p _ _ L,<-hX,List.map_set])) λe' S' h1 ae x ac=>?_;subst ae ac
 rw[Vg,Xpr]at h1;let fz:=X5b QMq (S:=T) (env:=QJU) (i:=1) (xs:=QmB.map D.int) rfl Q06;let r:=(UD5 (env:=QG9) m).trans (h1.trans (Xaf (v:=Xb QmB) (S1:=T++Q1N) (Yu fz)));let ab:T++[O.ded]=S++QFa:=by rw[<-hT,Ug]
 rw[ab]at r;calc r
universe e
abbrev nde:LI->Bool:=chn λa b=>decide Qeg
abbrev Xa2(d:D):Bool:=match d with
 |.tup xs=>decide (QPs<=6)&&((xs.all λx=>UnB)&&nde (Yj QJ0))|_=>yw
theorem Bag(l:LI):Prop:=UyA<=6/\(∀x∈l,0<=x/\x<=15)/\nde l=yx
def X5i{d:D}(h:Xa2 d=yx):∃l,d=Xb l/\Bag l:=by
 cases d with
 |tup xs=>simp[Xa2,bA0,decide_eq_true_eq]at h;calc Xa (Xhy h.2.1) λl L hl=>?_;subst L;calc⟨l,rfl,by simpa using h.1,hl,?_⟩;let:=h.2.2;rwa [show Yj QSQ=l from ints_of l]at this|_=>cases h
def Xf8:∀ {xs:LD},Q3y=yx->xs=Q0A.map Xb/\∀l∈xs.map Yj,Bag l
 |[],_=>⟨rfl,λ_ h=>nomatch h⟩|x::xs,h=>by rw[Vbe,bA0]at h;calc Xa (X5i h.1) λl L hb=>?_;subst L;calc Xi (Xf8 h.2) λe hl=>?_;rw[Ub,Ub,ints_of];calc⟨congrArg _ e,Va1.mpr ⟨hb,hl⟩⟩
section
variable{QYh}
def lt_int:∀x∈(l:LI).map D.int,∀y∈l.map D.int,Xbi .le x y (S:Sto)=yz (match x,y with | .int i,QCt=>decide QXg|_,_=>yw):=λx hx y hy=>by calc UQ5 λi _ L=>?_;subst L;calc U33 λj _ L=>?_;subst L;rfl
def X15{c:Ex}{QYk}{QKj}{Qgj}(L:QNq c QgA S=.ok QcG S):QNq (Ug1 (U56 c)) QgA S=.ok (.bl (!decide (QPs<=k))) S:=by calc(Qsw (y:=decide ((k:Int)<QPs)) rfl λ_=>Xa5 (S1:=S) (S2:=S) (y:=Q1w) (x:=.int QR) rfl L).trans ?_;congr 2;rw[Vhp,<-decide_not,decide_eq_decide];omega
def Xxi{iw g1 g2:Nat}{d:D}(h1:G[g1]?=yz QVc)(h2:G[g2]?=yz Q7W)(hw:∀d,pd d=yx->∀S,F iw QvQ S=.ok QgQ S){QFl}:
  den F G (Xiz iw g1 g2) QSt=Uk1:=by
 cases d with
 |ref _=>cases hd|fn _ _=>cases hd|tup xs=>
  calc Xac rfl ((Xa4 (X15 (k:=6) (Xt3 h2)) rfl).trans ?_) rfl;by_cases L:QR<=6
  ·rw[decide_eq_true L];calc(Xa4 Qgt (Xcz (Up9 Q2u (elt:=U5I Qs9) xs QwQ rfl QG7 λx hx=>?_)) rfl).trans ?_;·let:QNq (U5I Qs9) [yz QJ0,yy,QJu] S=F iw [x,UL3,.int 15] S:=ond (Xn QXG (Xn rfl (Xn (Xt3 h1) Xba))) rfl;exact this.trans QsW
   ·cases e:xs.all λx=>UnB with
    |false=>simp[Xa2,decide_eq_true L,e,Vbr,Vcc];rfl|true=>exact Xa QUf λl aa _=>?_;subst aa;calc Xaf ((X1y Qy5 _ lt_int QG7).trans ?_);rw[Xlk];simp[Xa2,decide_eq_true L,e,Vbr];rw[show Yj QSQ=l from ints_of l];rfl
  rw[decide_eq_false L];simp[Xa2,decide_eq_false L,Vcc];rfl|_=>calc Xac rfl rfl rfl
abbrev les(b:LI):LL:=QeV.map λi=>b.take i++b.drop Qq1
def X16{i j k:Nat}{b:LI}{Q2m}{QKm}(hj:env[j]?=yz (yz QcG)){QFq}:
  ev F G (Qdq QbG (UG9 (.some Q6P) .none)) QKq=.ok (Xb (b.take k++b.drop QB3)) S:=by
 let:=Xfi (X0n (Xh QMq (S:=S) hi) QWY) (Xpw (n:=k+1) QCA (bi (b:=.cst QG) (y:=Q2w) QWY rfl Qa6)) (adk (Xna Qaf) (Xt9 Qaf));rw[this,Xb,Vau,List.map_take,List.map_drop]
def Xlq{Qfi}{Q5l}{v:D}{Qci}{S S0:Sto}(zs:LD)(P:En->Prop)(p:D->Bool)(hi:U9K env S0=.ok Qj9 S)(h0:P env)(hb:∀x∈zs,∀e,P e->∃e2,P e2/\pe F G b (e.set i Q2B) S=if p x then USE S else U6A):
  ∃L,P L/\pe F G Q8U env S0=if zs.all p then QGs L S else U6A:=by
 let aa:∀(n k:Nat) (e:En),Q7y-k<n->k<=Q7y->P e->∃L,P L/\Y7 Qi5.get QA0 Q29 n k e S=if (zs.drop k).all p then Uj1 S else U6A:=by
  intro n;induction n with
  |zero=>intro k e h;exact QUx|succ n ih=>
   intro k e h hk he;rw[Y7,show Qi5.get S k=yz zs[k]? from rfl];cases q:zs[k]? with
   |none=>rw[Vfk QkS];exact QVW|some x=>
    let lt:=QnD.1;calc Xa (hb x (Uc q) e he) λe2 h2 h3=>?_;simp[X3];rw[h3,Xpm q,Vbe];cases p x with
    |true=>rw[Vbr];exact ih QB3 e2 Qtq h2|false=>exact QVW
 calc Xa (aa (Q7y+1) 0 env Q0 Q27 h0) λL h1 h2=>?_;calc QnX;rw[Vft]at h2;show(match exe F G QA6 env S0 with|.ok Qnu=>QIw|r=>r)=_;rw[show exe F G QA6 env S0=_ from ond hi h2];cases zs.all p<;>rfl
abbrev Xlr{Qyn}:Bool:=n.all λb=>Qc4.all λc=>decide QlE
def Ya7{Q4o}{k:LI}:decide (k∈ddL n)=decide (k∈n):=decide_eq_decide.mpr X5c
def Xsj{b:LI}{Qfi}{Q2m}{QKm}{QFq}:QSr (.rng (.cons (Q9v (UXE .nil)) .nil)) QKq=.ok (.con Qq5) S:=by calc Xej (n:=b.length) ((Xh0 QCA rfl).trans ?_) Q0;rw[Vg]
def Xxj{Q4o}(hn:Q7J<1000)(hb:∀b∈n,UOJ<=100){QIh}:QIr Xeh QuB S=.ok QJW S:=by
 let hs:QNq QPc [yz QE2,yy,yy,yy] S=Qvq QBe:=by calc ond rfl ?_;show Xfq QE2 S=_;unfold Xfq;rw[show Xo S QE2=yz QV from rfl,U0,Xdc];exact iP0 (Vbk QLf hn)
 let sa:Xcq QBe QF=yz Q48:=by unfold Xcq;rw[Xat]
 let lp:=Xlq QMq (env:=[yz QE2,UnF,yy,yy]) (S:=S++Qu7) Q2u U10
  (b:=UWF)
  QV (λe=>∃x y,e=[yz QE2,UnF,x,y]) Qx9 rfl QE6 (λd hd e L=>by
   let⟨x,y,rfl⟩:=L;let⟨b,hm,rfl⟩:=UyG;let hl:=hb b hm;exact Xa (Xlq QMq (env:=Q4L) (S:=S++Qu7) (i:=3) Uo6 (b:=.cons QE0 .nil) Qq5 (λe=>∃y,e=Q4L) (λd=>match d with|.int k=>decide QrA|_=>yw) (Xsj (i:=2) rfl hl) ⟨y,rfl⟩ (λd hd e L=>by
    let⟨z,rfl⟩:=L;let⟨k,hk,rfl⟩:=UyG;calc⟨[yz QE2,UnF,UuI,yz QcG],Qd,(Q9u (t:=!decide Q55) (S1:=S++Qu7) (c:=.ist yx _ _) (e:=.cst Qq6) (ond (X16 (i:=2) (j:=3) rfl rfl hl) (ond (Xh (i:=1) (d:=Uz7) rfl) ?_)) rfl).trans ?_⟩;·show Xim yx (Xb _) Q5 _=_;simp[Xim,Xb,sa,Y1,Ya7];cases decide Q55<;>rfl
    ·show(if (!decide Q55)=yx then _ else _)=if decide Q55=yx then _ else _;by_cases h:b.take k++b.drop QB3∈n;·rw[decide_eq_true h];rfl
     ·rw[decide_eq_false h];rfl)) λe' h1 h2=>?_
   let⟨z,rfl⟩:=h1;calc⟨[yz QE2,UnF,UuI,z],QE6,h2.trans ?_⟩;let q:Qc4.all (λc=>decide QlE)=(QeV.map λk:Nat=>D.int k).all λd=>match d with|.int k=>decide QrA|_=>false:=by unfold les;rw[Vif,Vif];rfl
   rw[ints_of,q];rfl)
 let⟨e',_,h⟩:=lp;calc Xcy (X:=Qu7) (v:=.bl (Xlr n)) rfl ((UD5 hs).trans (h.trans ?_)) .rfl' rfl;rw[Xi0 n λb=>Qc4.all λc=>decide QlE];unfold Xlr;cases n.all λb=>Qc4.all λc=>decide QlE<;>rfl
abbrev Xad(d:D):Bool:=match d with
 |.tup xs=>(decide QpB&&decide Qo8)&&(Q3y&&(rzL Q0A&&Xlr Q0A))|_=>yw
def Xqh{il ir L g:Nat}{d:D}(hg:G[g]?=yz (UxH))(ha:∀d,pd d=yx->∀S,Uc1=Uk1)(hr:∀n S,lg n<=big->F ir QuB S=.ok QIW S)(hs:∀n S,lg n<1000->(∀b∈n,UOJ<=100)->F il QuB S=.ok QJW S){QFl}:
  den F G (Xf7 il ir L g) QSt=Qnx:=by
 cases d with
 |ref _=>cases hd|fn _ _=>cases hd|tup xs=>
  let c:QNq (Ug1 (.not (Q5w Q4 QL0 (.glb g)))) QgA S=.ok (.bl (!(decide QpB&&decide Qo8))) S:=by calc(Qsw rfl λ_=>Xcz (Xt8 rfl (show QNq QL0 QgA S=Up1 from rfl) (z:=200) (Xt3 hg))).trans ?_;rw[Vhp];congr 4<;>exact QOv
  calc Xac rfl QvK rfl;cases hz:(decide QpB&&decide Qo8) with
  |false=>simp[Xad,hz,Vcc];rfl|true=>
   let hl:QR<=200:=by rw[bA0]at hz;exact oD0 hz.2
   calc(Xa4 Qgt (Xcz (Up9 Q2u (elt:=Q6w Qz) xs Xa2 rfl QG7 λx hx=>ha x QeC S)) rfl).trans ?_;cases e:Q3y with
   |false=>simp[Xad,hz,e,Vcc];rfl|true=>
    exact Xi QXf λen eb=>?_;let hn:Q0A.length<=200:=Xdk hl;let ed:D.tup xs=Xm Q0A:=Qeu en;simp[Xad,hz,e,Vbr];calc Xaf (Xm9 (x:=rzL Q0A) (QR0.trans ?_) λ_=>QR0.trans ?_);·rw[ed];exact hr _ S QG7
    ·rw[ed];calc hs _ S Q0 λb hb=>by let:=(eb UQB).1;omega
 |_=>calc Xac rfl rfl rfl
universe e
def Xj2(l:LI):nde l=yx ↔ UG2:=by calc(Xps (r:=λa b:Int=>decide Qeg) (λa b c h1 h2=>decide_eq_true (Int.le_trans Q7d Q6d)) l).trans ?_;calc⟨λh=>h.imp oD0,λh=>h.imp decide_eq_true⟩
def Xms:∀ {l:LI},UG2->Xa7 l=l
 |[],_=>rfl|x::l,h=>by
  let h':=Vag.mp h;rw[Xa7,Xms h'.2];cases l with
  |nil=>rfl|cons y l=>calc iP0 (h'.1 y V4)
def X5j(l:LI):decide (l=Xa7 l)=nde l:=by rw[Vd6,decide_eq_true_eq,Xj2];calc⟨λh=>h▸Xe7 l,λh=>(Xms h).symm⟩
section
variable{QYh}{Q2m}
def Xxk{Qho}{it:It}{t:Ex}(zs:LD)(q:D->Bool){Qph}(hg:i<Qw.length)(hb:∀x∈zs,UA5 x=yx)(ht:∀x∈zs,QNq t QY3 S=.ok (.bl (!q x)) S):
  ev F G (Uc0 (.frz (QZr n (UXE it (UiK) .nil) QA0)) Q43) QKq=.ok (.bl (!zs.all q)) S:=by
 let c:=X1x U72 (i:=i) (it:=it) (ifs:=UiK) (elt:=.var i) zs (λx=>!q x) (λd=>d) hi hl (λx L=>Yc5 QDd) (λx _ _=>Xh (Vam hg)) QLP;calc(Xa5 c QeL).trans (Xem ((Yam _ S).trans ?_));congr 1;rw[List.map_id',Vd6,Va7,List.filter_eq_nil_iff,U6];calc forall_congr' λx=>forall_congr' λ_=>by cases q x<;>simp!
def X0s{b:LI}(hb:Q8J<=100){QIh}:QIr Xda QMU S=UNE:=by
 let c:=U87 (env:=[yz QlD]) QAt (i:=2) (it:=.rng QYR) (elt:=Qdq QAI QmA) Qq5 (λd=>match d with|.int k=>Xb (b.take k.toNat++b.drop (k.toNat+1))|_=>.non) (Xsj rfl hb) QiT (λd hd=>by
  exact Qsv λk _ L=>?_;subst L
  calc X16 (i:=0) (j:=2) rfl rfl hb) (λd hd=>by
  exact Qsv λk _ L=>?_;subst L
  calc UjC)
 calc Xac rfl (Xaf (c.trans ?_)) (Yaj _ _);rw[rwF,les,U8,U8];rfl
def Yde{QAm}{l:LI}(L:Q7s=.ok QcO S)(hl:QKb<64):QNq Qia QKq=.ok (.fro (QVS.map D.int)) S:=Yx ((Yu L).trans (by show Un9 [Xb l] S=_;simp[Yc,Xb,Xo,Y1,iP0 hl])) Q06
def Xj3{QAm}{QYk}(he:Q7s=Um1){QIl}:QNq (.frz (UXA Qs0)) QKq=Uo1 S:=Yx ((Yu he).trans rfl) L
def Xub{iw:Nat}{d:D}(hw:∀d,pd d=yx->∀S,F iw QSt=Ui1){QFl}:QIr (Xei iw) QSt=Uk1:=by
 cases d with
 |ref _=>cases hd|fn _ _=>cases hd|tup xs=>
  calc Xac rfl ((Xa4 (X15 (c:=.cst Q7W) (k:=6) rfl) rfl).trans ?_) rfl;by_cases L:QR<=6
  ·rw[decide_eq_true L];exact(Xa4 Qgt (Xxk (n:=2) Q2u (t:=.or (.not (U5I Qz)) Qr9) xs QwQ rfl QG7 (show 2<3 by decide) (λx hx=>UfG QeC) λx hx=>?_) rfl).trans ?_
   ·exact(Xgx (x:=!wh x) (y:=!wi x 0 15) (Xcz ((Yh (x:=x) rfl).trans QsW)) λh=>?_).trans ?_
    ·cases x with
     |int k=>exact Xcz (Xt8 rfl rfl rfl)|_=>cases h
    cases x<;>rfl
   cases e:xs.all λx=>UnB with
   |false=>simp[Xa2,decide_eq_true L,e,Vbr,Vcc];rfl|true=>exact Xa QUf λl aa _=>?_;subst aa;calc Xaf ((UmJ (UeJ rfl Q06) (Yde (l:=l) rfl (by rw[Vg]at L;omega))).trans (Xff ((X46 l QVS S).trans ?_)));simp[Xa2,decide_eq_true L,e,Vbr];rw[show Yj QSQ=l from ints_of l,X5j]
  rw[decide_eq_false L];simp[Xa2,decide_eq_false L,Vcc];rfl|_=>calc Xac rfl rfl rfl
def Xpy{il ib:Nat}{d:D}(ha:∀d,pd d=yx->∀S,F ib QSt=Uk1)(hl:∀b S,UOJ<=100->F il QMU S=UNE){QFl}:QIr (Xdb il ib) QSt=Qnx:=by
 cases d with
 |ref _=>cases hd|fn _ _=>cases hd|tup xs=>
  let c:QNq (Ug1 (.or QN9 (.not (QAv (.cons (.frz (UD0 QWJ (UlK))) .nil))))) Qua S=.ok (.bl (!((decide QpB&&decide Qo8)&&Q3y))) S:=by
   calc(Qsw rfl λ_=>(Xgx (x:=!(decide QpB&&decide Qo8)) (y:=!xs.all Xa2) (Xcz ((Xt8 rfl (show QNq QL0 Qua S=Up1 from rfl) (z:=200) rfl).trans ?_)) λh=>?_)).trans ?_;·congr 3<;>exact QOv
   ·let hl:QR<=200:=by
     rw[Bool.not_eq_false']at h;rw[bA0]at h;exact oD0 h.2
    exact Xcz (Up9 (i:=3) (it:=Ux7) (elt:=UlK) xs Xa2 rfl QG7 λx hx=>ha x QeC S)
   rw[Vhp,<-Bool.not_and]
  calc Xac rfl QvK rfl;cases hz:(decide QpB&&decide Qo8) with
  |false=>simp[Xad,hz,Vcc];rfl|true=>
   let aa:QR<=200:=by rw[bA0]at hz;exact oD0 hz.2
   cases e:Q3y with
   |false=>simp[Xad,hz,e,Vcc,Vbr];rfl|true=>
    exact Xi QXf λen eb=>?_;simp[Xad,hz,e,Vbr];generalize hN:xs.map Yj=n at en eb |-;let hn:Q7J<=200:=by rw[<-hN];exact Xdk aa
    let e1:D.tup xs=Xm n:=Qeu en;rw[e1];let cm:=Xa5 UI8 (o:=.ne) (UeJ rfl Qd2) (Yap (e:=UF9) (X0e Q10) (Vbk QLf Q0) rfl);calc(Q9u (t:=!decide QeP) (cm.trans (Xem (Xw8 n _ S))) rfl).trans ?_;let rz:rzL n=decide QeP:=by rw[Vd6,Yan,Yao,decide_eq_true_eq];exact eq_comm
    rw[rz];cases decide QeP with
    |false=>rfl|true=>
     exact Xa (Yah UI8 (i:=1) (it:=Ux7) U10 (b:=.cons (.ite (Uc0 (.frz (UD0 (U3I (.val QDW) QJE .nil) QQ)) Q43) QVu) .nil) QV Qx9 rfl λd hd=>?_) λe' _ h=>?_
     ·let⟨b,hm,rfl⟩:=UyG;let h6:=(eb b hm).1;let ll:Qc4.length<=100:=by rw[les,Vg,Vat];omega
      calc(Q9u (Xxk QMq (env:=[yz QE2,UuI]) QAt (i:=3) (it:=.val QDW) (t:=.cmp .notin QQ Q6) QIX (λd=>decide (Yj d∈n)) (X48 Q0F ((Yh (a:=UBE) rfl).trans (hl b S Q0))) (Xdk QG7) (show 3<4 by decide) (λd hd=>?_) λd hd=>?_) rfl).trans ?_;·exact Qsv λk _ L=>?_;subst L;exact UjC
      ·exact Qsv λk _ L=>?_;subst L;rw[ints_of];exact(Xa5 (o:=.notin) (x:=Xb k) (y:=Xm n) rfl rfl).trans (X0d (Yal k n S))
      rw[Xi0 Qc4 λc=>decide QlE,ints_of];cases Qc4.all λc=>decide QlE<;>rfl
     calc h.trans ?_;rw[Xi0 n λb=>Qc4.all λc=>decide QlE];unfold Xlr;cases n.all λb=>Qc4.all λc=>decide QlE<;>rfl
 |_=>calc Xac rfl rfl rfl
universe e
def Xsk{d:D}(h:Xad d=yx):∃n,d=Xm n/\n≠[]/\Q7J<=200/\∀b∈n,Uw7:=by
 cases d with
 |tup xs=>simp[Xad,bA0,decide_eq_true_eq]at h;calc Xi (Xf8 h.2.1) λe L=>?_;calc⟨xs.map Yj,Qeu e,λz=>?_,by rw[Vg];calc h.1.2,L⟩;let:=h.1.1;rw[Vik]at z;rw[z]at this;calc aB0 this Q2|_=>cases h
abbrev wN{Qyn}:Nat:=(wdt n).toNat
def X17{QPn}:wdt n=(wN n:Int)/\(∀b∈n,UOJ<=wN n)/\∃b∈n,UOJ=wN n:=by
 let hm:wdt n∈lns n:=X5h λz=>h Q6a;exact Xa (V0.mp hm) λb hb e=>?_;let L:wdt n=(wN n:Int):=by unfold wN;rw[<-e,Vaf]
 calc⟨L,λc hc=>?_,b,hb,by unfold wN;rw[<-e,Vaf]⟩;let:(c.length:Int)<=wdt n:=Ya6 (Vgg hc);rw[L]at this;calc Int.ofNat_le.mp this
section
variable{QYh}{QKj}
def Xxl{QPn}:lns n≠[]:=λz=>h Q6a
def X5k{L:Nat}{Q4o}(h0:n≠[])(hl:Q7J<=200)(hb:∀b∈n,Uw7)(hF:F L QuB S=Q8x S):QIr Qff QuB S=.ok Qpd S:=by let⟨e,hw,b,hm,eb⟩:=X17 h0;calc Xcy (X:=Q73++[O.ded]) (env0:=QWW) rfl ((X1v (t:=yw) Qub).trans (X0r (em:=U7I) (it:=Ux7) (ks:=n) Q1b (λx S=>rfl) hw (by let:=QWb.1;omega) S)) .rfl' (UjC);let c:=Yx (Xxh QMq (env:=QWW) QAt (j:=4) (it:=Ux7) n rfl QG7 rfl) Q06;rw[<-e];calc(Yu c).trans (X14 (ns:=lns n) QTd S rfl)
def X5l{L:Nat}{d:D}(hF:Uc1=UXH):QIr Qff QSt=Q3w QxT:=
 Yag (env0:=QG9) rfl (X1v (t:=yx) Qub)
def Xxm{L ik:Nat}{d v:D}(hF:Uc1=U08)(hv:pd v=yx):QIr Q0a QSt=U08:=
 X0k (env0:=Qbe) rfl rfl rfl (Xaf Q99) (UfG hv)
def Xxn{L ik:Nat}{d:D}(hk:Kds F ik)(hF:Uc1=Q3w QxT):QIr Q0a QSt=.ok QB4 S:=
 X0l (env0:=Qbe) (k:=10) rfl rfl rfl (X43 (onx Q99)) (by show 1<2;decide) hk QIu
def X5m{Qyn}(s:Nat):Q1f.countP (· == (s:Int))=cnt n s:=by unfold lns cnt;rw[List.countP_map];calc List.countP_congr λb _=>?_;show((b.length:Int)==(s:Int))=yx ↔ decide (UOJ=s)=yx;rw[beq_iff_eq,decide_eq_true_eq];calc Int.ofNat_inj
def Ya8{Q4o}{w:Nat}(hl:Q7J<=200)(hw:w<=6):Sm 1 60 (Xb (cts n w)):=Xua (k:=7) (λx hx=>by
 exact UQ5 λs _ L=>?_;subst L
 let:cnt n s<=lg n:=List.countP_le_length;omega) QBR
def X18{a ss:Sts}{e L:En}{S':Sto}(h:Qbq a e S=UwJ):(match pe F G a e S with | .ok Qnu=>QIw|r=>r)=Ux3:=by rw[h]
def Xuc {L ic il:Nat}{d:D}{Q7q}(h1:∀S,F il QSt=Qnx)(h2:∀S,F ic QSt=Qnx)(h3:∀n S,d=Xm n->Xad d=yx->Uc1=.ok Qpd S)(h4:∀S,Xad d=yw->Uc1=.ok QB4 S){QIh}:
  den F G (Xe1 L ic il) QSt=Q8x S:=by
 exact Xd (Xjw (hs.mono QIu)) λt ht=>?_;let rp:∀(x1 x2 x3 x4 x5:QDr) (S:Sto),QNq QbB [yz d,x1,x2,x3,x4,x5] S=.ok Q76 S:=λ_ _ _ _ _ S=>Xgy QXG QYg;let q1:QNq Qu8 [yz d,U1J,yy,yz Q76,U1J,yy] S=UXH:=
  Xgx (x:=yw) rfl λ_=>(UO5 (x:=.bl Qhf) (y:=.bl Qhf) rfl rfl).trans (Xem (b:=yx) (by rw[Ydb];calc Qqw QYM))
 let fin:∀(v:D) (t2:Str) (x5:QDr) (S:Sto),Xgd S v=yz t2->Uc1=U08->QNq (.and (UI4 (QZy QXR) QCT) QeQ) [yz d,U1J,UA2,yz Q76,U1J,x5] S=Q8x S:=λv t2 x5 S hr hF=>Xm9 (x:=yx) (y:=yx) ((Xa5 (Xgy Q99 hr) (Xgy Q16 hr)).trans (eq_str t2 S)) λ_=>(Xa5 (rp ..) QEB).trans (eq_str t S);cases hc:Xad d with
 |false=>rw[hc]at q1 fin h1 h2;exact Xd (Xjw ((Yat "crowd" Q8).mono QIu)) λt2 ab=>?_;calc Xac (env0:=[yz d,yy,yy,yy,yy,yy]) rfl ?_ rfl;exact QL9.trans (QQF.trans (QGJ.trans (QpU.trans (Q0G.trans ((Xf4 (t:=yw) Qf4).trans (Xaf (fin _ t2 yy S (ab S) (h4 S hc))))))))|true=>
  exact Yg (Xsk hc) λn aa h0 hl hb=>?_;subst aa;rw[hc]at q1 fin h1 h2;let⟨e,hw,b,hm,eb⟩:=X17 h0;let w6:wN n<=6:=by let:=QWb.1;omega
  exact Xd (Xjw ((Ya8 hl w6).mono QIu)) λt2 ab=>?_;let sz:=Xxh QMq (env:=[yz QE2,yz Qm0,yz QB4,yz Q76,yz Qm0,yy]) QAt (j:=7) (it:=Ux7) n rfl QG7 rfl;generalize hX:S++Qya=X at sz;let lX:lstAt X QF=yz QrC:=by rw[<-hX];exact Y4 ..
  let mx:QNq Qs3 QqA X=.ok (.int ((wN n+1:Nat):Int)) X:=by calc bi (x:=.int (wN n)) (y:=Q2w) ((Yu (Xh (i:=5) (d:=Uz7) rfl)).trans ?_) rfl Qa6;rw[<-e];exact X14 QTd X lX
  let du:=U87 (env:=QqA) (S:=X) (n:=2) (i:=7) (it:=.rng QVR) (elt:=U18) (QgV.map λk:Nat=>Q1w) (λd=>match d with | .int k=>.int QlP|_=>.non) (Xej mx Q0) QiT (λd hd=>by
   exact Qsv λk _ aa=>?_;subst aa;exact(Xhu (x:=Uz7) (y:=Q1w) QDB (by simp[Xb5,lX,Option.isSome]) rfl).trans ?_
   simp[Xap,lX,U0,Y1,X5m,Vaf]) (λd hd=>by
   exact Qsv λk _ aa=>?_;subst aa
   rfl)
  let ed:D.tup ((QgV.map λk:Nat=>D.int k).map λd=>match d with|.int k=>.int QlP|_=>.non)=Xb QZI:=by rw[Xb,cts,U8,U8];rfl
  let ac:=(Qfw du).trans (show UVG X=.ok QKe X from rfl);rw[ed]at ac;calc Xcy (X:=Qya) (env0:=[yz QE2,yy,yy,yy,yy,yy]) rfl ?_ .rfl' rfl;rw[hX];calc QL9.trans (QQF.trans (QGJ.trans (QpU.trans (Q0G.trans ((Xf4 (t:=yx) Qf4).trans ?_)))));rw[iP0 rfl];let br:=(U21 (ss:=.cons (Uq1 _) .nil) sz).trans (UC5 (ss:=.nil) ac);calc(X18 br).trans (Xaf (fin _ t2 _ X (ab X) (h3 n X rfl hc)))
universe e
abbrev lsz(L:Int)(one:LI):Int:=if one=[] then 0 else U2F+1-L
abbrev Xel(far L:Int)(one:LI):LL:=Q7I.map λ(j:Nat)=>one++[lsz L one+j]
abbrev chs(far L:Int):Nat->LL
 |0=>[[]]|k+1=>Q2V.flatMap (Xel far L)
def X19{S L:Sto}{Qjl}{o:O}(h:L[m]?=Qkq)(hb:UPG=yx):QPx (.ok Q4T QqL)=Qvq QhV:=by
 let k:Xfr S QqL:=⟨by rw[Vw];omega,λi o' hi e=>.inl (by rwa [Vx hi]at e)⟩;let b:¬ UA5 Q4T=true:=by simp![bdD]
 let e:QqL[lg S+m]?=Qkq:=by rw[U3 Q0,Vct];exact h
 simp[gcR,iP0 k,b,if_false,e,hb,if_true];rw[List.take_left' rfl];rfl
section
variable{Qvn}{Q2k}
def X5n{d:D}{zs zs':LD}(h:Qpy=yz zs){Qap}:∃s,Xaa S d=yz s/\s.most S=Q7y/\∀S',Xo S' d=yz zs'->∀i,s.get S' i=yz zs'[i]?:=by
 cases d with
 |tup xs=>calc Qr7|fro xs=>calc Qr7|ref n=>let h:Qys=yz zs:=h;calc⟨Uw5,by simp[Xaa,h,U7],by simp[Src.most,h,Vf3],λS' h' i=>?_⟩;let h':lstAt S' n=yz zs':=h';simp[Src.get,h',U7]|_=>cases h
def Ya9{t:Tg}{QAm}{b ss:Sts}{d:D}{Q3q}(he:Q7s=Qrt S1)(hz:Xo S1 d=yz zs){Qap}(h0:P 0 Q0u)(hP:∀i e S',P i e S'->Xo S' d=yz zs)
  (hb:∀i x e S,zs[i]?=QJu->Ui7->∃e1 e2 S',UrC e=yz e1/\pe F G b e1 S=USE S'/\P Qq1 e2 S'):∃L S',Qbq (.cons (.for t QuV b) ss) QKq=Ux3/\P QT6 L S':=by
 let⟨s,h1,h2,h3⟩:=X5n (zs':=zs) hz hs;calc Xf (Xlg (get:=s.get) (t:=t) Qtt P (λi e S' h=>h3 S' (hP i e S' h) i) hb (s.most S1+1) 0 Q0u (by rw[h2];omega) Q27 h0) λL S' g1 g2=>?_;calc⟨L,S',X1z (ond he (by rw[h1])) g1,g2⟩
def Yei{i j:Int}(hi:-Qa3<i/\i<1048576)(L:-Qa3<j/\j<1048576):Xc3 Q92=yz (QMR.map λk:Nat=>.int QXI):=iP0 ⟨hi.1,hi.2,L.1,L.2⟩
def Ydf{es:Exs}{ds xs:LD}(L:UDA=.ok UB8)(h:Xc3 ds=QLu):QSr Q2T QKq=.ok Qk9 S1:=ond L (by rw[h])
def Yba{Qfi}{one:LI}(h:env[i]?=yz (yz QTV))(L:one≠[]):QNq (.idx QA0 QUc) QKq=.ok (.int (U2F)) S:=by
 calc(Xf5 (y:=.int (-1)) QAX rfl).trans ?_;obtain⟨z,x,rfl⟩:∃z x,one=z++[x]:=⟨one.dropLast,one.getLast L,(Vix L).symm⟩;let e1:Z.ixN QoM.length (-1)=yz z.length:=by unfold Z.ixN;rw[iN0 Q2,iP0 Q83];congr 1;simp!;omega
 let e2:QoM[z.length]?=yz QWe:=by simp!
 simp[Xdq,Xby,Xb,Xo,U0,e1,e2];simp!
def X5o{Qsp}{x1 x3 x4 x5 x7:QDr}:QNq Qc3 [yz QL1,x1,yz Q6W,x3,x4,x5,yz QTV,x7] S=.ok (.int Q8Y) S:=by
 calc ond ((Xa5 QCB (show QNq (.tup .nil) _ S=.ok (Xb []) S from rfl)).trans (Xem (Yak one [] S))) ?_;unfold lsz;by_cases h:one=[];·subst h;rfl
 ·rw[decide_eq_false h,iN0 h];calc bi (bi (y:=Q2w) (Yba (i:=6) rfl h) rfl Qa6) Q16 QYd
def Ybb{Qsp}{x1 x3 x4 x5:QDr}{QNn}(hl:-100000<lsz L one/\lsz L one<100000)(h1:(lg one)<=1000):QNq Qu1 QB1 S=.ok (rwF (Xel far L one)) S:=by
 let es:QNv Q7U QB1 S=.ok [.int Q8Y,.int far] S:=Xn QXG (Xn QXG Xba);let c:=U87 (env:=QB1) QAt (i:=9) (it:=.rng Q7U) (elt:=UVD (.tup (.cons (.var 9) .nil))) (Q7I.map λk:Nat=>.int QlU) (λd=>match d with|.int x=>Xb (one++[x])|_=>.non) (Ydf es (Yei Qtq)) (by rw[Vg,Vat];show _<=1000000;omega) (λd hd=>by
  exact Qsv λk _ aa=>?_;subst aa;exact(Xfi QCB (Xjz (x:=.int QlU) rfl) (by rw[Vg];simp!;omega)).trans ?_
  show R.ok (D.tup (one.map D.int++[D.int _])) S=R.ok (D.tup ((one++[_]).map D.int)) S;rw[Vau];rfl) (λd hd=>by
  exact Qsv λk _ aa=>?_;subst aa
  calc UjC)
 rw[c,rwF,Xel,U8,U8];rfl
theorem Xud(far L:Int){Qmj}:Prop:=Q2V.length<=100000/\∀one∈chs far L k,lg one<=1000/\-100000<lsz L one/\lsz L one<100000
def Xe2{far ag:Int}{size:Nat}{QNn}(hs:size<100)(hb:∀k,k<=size+1->Xud far ag k){QIh}:QIr t_law_choices [.int far,.int (size+1:Nat),.int ag] S=Qvq (S++[.lst ((chs far ag Q2d).map Xb)]):=by
 let fp:=UcC (env:=[yz QL1,UdB,UfB,yz (UzH),yy,yy,yy,yy]) QGx (t:=.var 4) (it:=.rng Qi) (ss:=UXF) (b:=Uz2) ((Ud Q2d).map λk:Nat=>Q1w)
  (λi e S'=>∃L d x4 x5 x6 x7,S'=S++L/\e=[yz QL1,UdB,UfB,Um2,x4,x5,x6,x7]/\Xo S' d=yz QVF/\(∀t,d≠.str t)/\(i≠0->∃m,d=.ref (UzA+m)/\L[m]?=yz (.lst QVF)))
 let⟨e',S',h1,L,d,x4,x5,x6,x7,rfl,rfl,_,_,hm⟩:=fp (Xej rfl Q0) ⟨[],UzH,yy,yy,yy,yy,by simp!,rfl,rfl,λt=>Q9,λh=>aB0 rfl h⟩ (λi y e S' hy hP=>by
  let⟨L,d,x4,x5,x6,x7,rfl,rfl,hd,ab,hm⟩:=hP;let hi:i<size+1:=by simpa using Q4a.1
  let b0:=hb i Q0;let b1:=hb Qq1 Q0;let keep:∀X:Sto,Xo (S++L++X) d=yz QVF:=λX=>by
   by_cases c:i=0
   ·subst c;cases d with
    |ref n=>
     calc Xpx ?_;let h:lstAt QqL n=_:=hd;unfold lstAt at h;split at h;·rename_i xs q;cases h;exact Xcg q X
     ·cases h|tup xs=>exact hd|fro xs=>exact hd|_=>cases hd
   let⟨m,rfl,e1⟩:=hm c;calc Xpx (Xcg (n:=UzA+m) ?_ X);rw[U3 Q0,Vct];exact e1
  let aa:=Ya9 QMq (env:=Qv9) (S:=S++L++QSE) (S1:=S++L++QSE) (t:=.var 6) (e:=UYK) (ss:=.cons (U28 Qz1) .nil)
   (b:=bdy (Uz2) 1) QVF (λj e S'=>S'=S++L++[.lst (QGI.map Xb)]/\∃x6 x7,e=Qv9) QXG (U5C) ab ⟨rfl,x6,x7,rfl⟩ (λj e S' h=>by rw[h.1];calc U5C) (λj z e S' hz h=>by
    let⟨rfl,x6,x7,rfl⟩:=h;rw[Ur]at hz;let⟨one,ho,rfl⟩:=Up.mp hz;let bo:=b0.2 one (Uc ho);let tk:=Xpq ho;let xt:=Yc7 QMq (S:=S++L) (S1:=S++L) (env:=[yz QL1,UdB,UfB,Um2,UR6,UeB,yz QTV,yz (.int (lsz ag one))]) (i:=5) (v:=rwF QJR) (xs:=QGI.map Xb) (ys:=QJR.map Xb) rfl rfl (Ybb hf bo.2 bo.1) rfl (by
     rw[Vg,Vg];let:((QE3.take QiA).flatMap QHB).length<=(QE3.flatMap QHB).length:=by
      conv=>rhs;rw[<-Uo QiA QE3]
      rw[Vil,Vw];omega
     rw[tk,Vil,Vw]at this;let e1:([one].flatMap QHB)=Xel far ag one:=by simp!
     rw[e1]at this;calc Yb (Uh this b1.1))
    calc⟨_,_,_,rfl,(Xw (i:=7) X5o).trans Qad,?_,_,_,rfl⟩;rw[tk,Vil,Vau];simp!)
  let⟨e2,S2,q,rfl,y6,y7,rfl⟩:=aa;rw[Vg,Xpr]at q;let gt:QkC[QqL.length]?=yz (.lst QL3):=Xat _ _;let q3:Qbq QBI [yz QL1,UdB,UfB,Um2,UR6,UeB,y6,y7] QkC=.ok (.nx [yz QL1,UdB,UfB,UeB,UR6,UeB,y6,y7]) QkC:=UTC QDB;calc⟨_,_,_,rfl,(U21 (e:=.lst .nil) (v:=UEE) (S1:=S++L++QdK) rfl).trans (q.trans q3),L++[.lst QL3],UEE,UR6,UeB,y6,y7,by rw[<-Ug],rfl,Xpx gt,λt=>Q9,λ_=>⟨L.length,by rw[Vw],by simp!⟩⟩)
 rw[Vg,Vat]at hm;let⟨m,rfl,e1⟩:=hm Q0;let r:=(Xw QMq (env:=QOC) (S:=S) (i:=3) (e:=.frz QzE) (v:=UzH) (S1:=S) (Yx (xs:=Q6L) rfl rfl)).trans (h1.trans (Xaf QEB));show gcB yx S (Xin (Qbq t_law_choices.body QOC S))=_;rw[show pe F G t_law_choices.body _ S=_ from r];calc X19 e1 Qd2
def Xxo{c:Ex}{b ss:Sts}{Q0k}(Q:En->Sto->Prop){QEl}(hm:m<100000)(h0:P m QKq)
  (hs:∀m e S,P m e S->(∃S1 e2 S2 m',m'<m/\ev F G c e S=Q8x S1/\pe F G b e S1=USE S2/\P m' e2 S2)\/∃S1,QNq c e S=Q0w S1/\Q e S1):
  ∃L S',Q L S'/\pe F G (.cons (.whl c b) ss) QKq=Ux3:=by
 let aa:∀(k m:Nat) (e:En) (S:Sto),m<k->P m e S->∃L S',Q L S'/\Xcr (λenv S=>QwF.bind λx S=>match X6 S x with
   |some r=>UD4
   |none=>.bad) Q29 k e S=UwJ:=by
  intro k;induction k with
  |zero=>intro m e S h;exact QUx|succ k ih=>
   intro m e S h hP;rcases hs m e S hP with⟨S1,e2,S2,m',h1,h2,h3,h4⟩|⟨S1,h1,h2⟩;·exact Xf (ih m' e2 S2 Q0 h4) λL S' g1 g2=>?_;calc⟨L,S',g1,?_⟩;rw[Xcr,h2];simp[Rk0,X6];rw[h3];exact g2
   ·calc⟨e,S1,h2,?_⟩;rw[Xcr,h1];rfl
 calc Xf (aa 100000 m QKq hm h0) λL S' g1 g2=>?_;calc⟨L,S',g1,Xbt g2⟩
abbrev w3(a:Nat):Int:=[0,1,4,10,20,35,56].getD a 0
def Xxp{a:Nat}(L:a<=6){QIh}:QIr t_law_ways [.int ((a:Int)+2),UfK] S=.ok QTK S:=by
 let h:Qbq t_law_ways.body QtB S=.ok (.rt QTK) S:=by
  match a,L with
  |0,_=>kernel_rfl|1,_=>kernel_rfl|2,_=>kernel_rfl|3,_=>kernel_rfl|4,_=>kernel_rfl|5,_=>kernel_rfl|6,_=>kernel_rfl
 calc Xac (env0:=QtB) rfl h rfl
def Xi4{far:Int}{Qgj}(h:(decide (Q3V.length<=100000)&&Q3V.all λone=>decide (lg one<=1000)&&decide (-100000<lsz 1 one)&&decide (lsz 1 one<100000))=yx):Xud far 1 k:=by rw[bA0,decide_eq_true_eq,U6]at h;calc⟨h.1,λone L=>?_⟩;let:=h.2 one L;rw[bA0,bA0,decide_eq_true_eq,decide_eq_true_eq,decide_eq_true_eq]at this;calc⟨this.1.1,this.1.2,this.2⟩
def b6:∀k,k<=3->Xud 6 1 k
 |0,_=>UI5|1,_=>UI5|2,_=>UI5|3,_=>UI5
def b16:∀k,k<=2->Xud 16 1 k
 |0,_=>UI5|1,_=>UI5|2,_=>UI5
abbrev fo3{QEl}:LL:=QP1.take m
def Xue{ic iw m:Nat}{Q6n}(hc:∀S,F ic [.int 6,.int (2+1:Nat),Q2w] S=Qvq (S++[.lst ((chs 6 1 (2+1)).map Xb)]))(hw:∀a,a<=6->∀S,F iw [.int QHZ,UfK] S=.ok QTK S){QIh}:
  den F G QgN QxH S=Qvq QpS:=by
 let wh:=Xxo QMq (env:=[yz Qo6,yz Qw8,yz QG,yz QdG,yy]) (S:=S) (c:=U8I QgG) (b:=UZF) (ss:=UVF)
  (λk e S'=>S'=S/\∃a:Nat,a+k=6/\e=QkF) (λe S'=>S'=S/\e=Qk2) 6 Q2 ⟨rfl,0,rfl,rfl⟩ (λk e S' hP=>by
   let⟨rfl,a,ha,rfl⟩:=hP;let t:QNq (U8I QgG) QkF S'=.ok (.bl (decide QOT)) S':=by exact Xm9 (x:=yx) (y:=decide QOT) rfl λ_=>(Xa5 (o:=.lt) ((Xhv (x:=.int QHZ) (y:=UfK) (UJ2 (y:=.int 2) rfl rfl Qa6) rfl).trans (hw a Q0 S')) rfl).trans rfl
   cases k with
   |zero=>
    let:a=6:=by omega
    subst this;calc .inr ⟨S',t.trans ?_,rfl,rfl⟩;rw[decide_eq_false (show ¬ w3 6<(m:Nat) by show ¬ (56:Int)<_;omega)]|succ k=>
    calc .inl ⟨S',[yz Qo6,yz Qw8,yz QG,yz QsK,yy],S',k,by omega,t.trans ?_,UTC (UzJ rfl rfl Qa6),rfl,a+1,by omega,rfl⟩;let:w3 a<=35:=by
     match a,(show a<=5 by omega) with
     |0,_=>decide|1,_=>decide|2,_=>decide|3,_=>decide|4,_=>decide|5,_=>decide
    rw[decide_eq_true (show w3 a<(m:Nat) by omega)])
 let⟨e',S',⟨rfl,rfl⟩,q⟩:=wh;let sk:Qbq (UVF) Qk2 S'=.ok (.rt (.ref (lg S'+2))) (S'++QPC):=by
  let c:QNq Qb5 Qk2 S'=.ok QD9 Q3G:=(ond (Xn QEB (Xn QFB (Xn Q16 Xba))) rfl).trans (hc S');let k:Xki QD9 Q3G=.ok (.ref (S'++Qza).length) (S'++[.lst QG1]++[.lst (QP1.map Xb)]):=by unfold Xki;rw[show lsD Q3G QD9=yz QG1 from Y4 ..,U0,Xdc];let:Xnn Qd1=yz QP1:=iP0 (by let:=(b6 3 Q2).1;decide+kernel);simp[this];rfl
  calc Xhs ?_;show((((QNq _ _ S').bind λx S=>Xki x S).bind _).bind _)=_;rw[c,Rk0,k,Rk0];calc ond (ond rfl (ond (ond rfl rfl) ?_)) rfl;generalize hX:S'++Qza=X;generalize hr:(Yi (Qd1.map Va0)).map Va0=r;let e1:Xew QcH yy (yz (m:Nat)) Qqd=.ok (.ref (X++[O.lst QWE]).length) (X++QmR++[.lst ((r.take m).map Xb)]):=by simp[Xew,show lsD Qqd QcH=yz QWE from Y4 ..,Xpv,List.map_take]
  calc e1.trans ?_;unfold fo3;rw[hr,<-hX];simp!
 let r:=(Xw QMq (env:=QII) (S:=S') (i:=3) Q1y rfl).trans (q.trans sk);show gcB yx S' (Xin (Qbq QgN.body QII S'))=_;rw[show pe F G QgN.body _ S'=_ from r];calc X19 (L:=QPC) (m:=2) rfl Qd2
abbrev fst16:LL:=[]::(UT0 1++UT0 2)
abbrev Xdt{QEl}:LL:=Yi QK5
def crw47:Xad (Xm (Xdt 47))=true:=by decide+kernel
def crw48:Xad (Xm (Xdt 48))=false:=by decide+kernel
def len47:(fst16++fo3 47).length=200:=by decide+kernel
def len48:(fst16++fo3 48).length=201:=by decide+kernel
universe e
abbrev Xi5:LI->LL
 |[]=>[[]]|x::l=>Xi5 l++QTf.map (x :: ·)
def Xpz:∀l:LI,QTf.length=2^QKb
 |[]=>rfl|x::l=>by rw[Xi5,Vw,Vg,Xpz l,U5,Nat.pow_succ];omega
def X0t{QCo}:m∈Xi5 l:=by
 induction h with
 |slnil=>calc US2|cons x _ L=>calc Vbg _ L|cons_cons x _ L=>calc U4 _ (Vgg L)
def Bag.sub{QCo}(b:Bag l):Bag m:=
 ⟨Uh h.length_le b.1,λx L=>b.2.1 x (h.subset L),(Xj2 m).mpr (((Xj2 l).mp b.2.2).sublist h)⟩
def Xsl{b c:LI}(h:c∈les b):c.Sublist b/\(lg c)+1=UOJ:=by
 exact Xa (V0.mp h) λi hi L=>?_;subst L;let hi:=Vb2.mp hi;exact⟨?_,by rw[Vw,Vaq,Vbu];omega⟩
 conv=>rhs;rw[<-Uo i b]
 calc List.Sublist.append (Um7) (List.drop_sublist_drop_left b (Vc6 i))
abbrev wl:Nat->Nat
 |0=>1|s+1=>1+Q6b*wl s
abbrev msr(st:LL):Nat:=(st.map λb=>Ur6).sum
def Xls(a b:LL):msr Qgg=msr a+msr b:=by unfold msr;rw[Vau,List.sum_append]
def Xxq:∀s,1<=wl s
 |0=>UX0|s+1=>by rw[wl];omega
def Xp0{Qgj}:∀ {st:LL},(∀b∈st,UOJ=k)->Ua8=lg st*wl k
 |[],_=>by rw[Vfd,Nat.zero_mul];rfl|b::st,h=>by let h':=UxG;show wl Q8J+Ua8=_;rw[Xp0 h'.2,h'.1,U5,Vgo,Nat.add_comm]
def X5p(b:LI):msr Qc4+1=Ur6:=by
 let hl:Qc4.length=UOJ:=by rw[les,Vg,Vat]
 cases q:b.length with
 |zero=>let:les b=[]:=List.length_eq_zero_iff.mp (hl.trans q);rw[this];rfl|succ s=>rw[Xp0 (k:=s) λc L=>by let:=(Xsl L).2;omega,hl,q,wl,Nat.add_comm]
def Xsm:∀st:LL,lg st<=Ua8
 |[]=>U2A|b::st=>by show _<=wl Q8J+Ua8;let:=Xsm st;let:=UZJ;rw[U5];omega
def wl6:∀s,s<=6->wl s<=1957
 |0,_=>by decide|1,_=>by decide|2,_=>by decide|3,_=>by decide|4,_=>by decide|5,_=>by decide|6,_=>by decide
def Xxr:∀ {st:LL},(∀b∈st,Uw7)->Ua8<=lg st*1957
 |[],_=>U2A|b::st,h=>by let h':=UxG;show wl Q8J+Ua8<=_;let:=Xxr h'.2;let:=wl6 b.length h'.1.1;rw[U5,Vgo];omega
theorem Lof(L:LL)(b:LI):Prop:=∃c∈L,b.Sublist c
def Xsn{L ks:LL}(h3:Q9J<=3){QAq}(nd:ks.Nodup)(h:∀k∈ks,Lof L k):Q5A<=192:=by
 let h1:Q5A<=(L.flatMap Xi5).length:=Xmr _ _ nd λk hk=>by exact Xa (h k hk) λc hc hs=>?_;exact List.mem_flatMap.mpr ⟨c,hc,X0t hs⟩
 let h2:∀l:LL,(∀b∈l,Uw7)->(l.flatMap Xi5).length<=UyA*64:=λl=>by
  induction l with
  |nil=>intro _;calc U2A|cons b l ih=>intro h;let h':=UxG;let:=ih h'.2;let p:2^Q8J<=2^6:=Nat.pow_le_pow_right Q2 h'.1.1;rw[List.flatMap_cons,Vw,Xpz,U5,Vgo];omega
 let:=h2 L hb;omega
section
variable{B:Sto}{x y z:O}
def Xnc:QwO[B.length]?=QJu:=by simp!
def Xnd:QwO[lg B+1]?=UR6:=by simp!
def X2a:QwO.set B.length z=B++[z,y]:=by simp!
def Ydg:QwO.set QPG z=B++[x,z]:=by simp!
universe e
def X5q{QKj}{Qoi}{st m:LL}(h:S[n]?=yz (.lst QEN)):U60 Q81 Qse=yz (decide (st=m)):=by
 let h1:U2B Q81=U2B (rwF st):=by let e:datFs Qxb QEN=datFs QjD QEN:=QEJ.trans QEJ.symm;show Xbg S 4 n=_;rw[show Xbg S 4 n=(match S[n]? with|some Qx0=>(datFs Qxb xs).map PyData.list|some QjH=>yz QVJ|_=>yy) from rfl,h];exact congrArg (·.map PyData.list) e
 let h2:=UJC st;let L:=UJC m;unfold eqD;rw[show Xev Q81 Qse=yy from rfl,h1];simp[Y0,h2,L,enc_rwF.lay,Vbq,Vbr,decide_eq_true (Uh (enc_rwF.dep st) (show 2<=60 by decide)),if_true,enc_rwF.eqv]
def dc_some{kvs:QZu}{k:LI}:QiN.isSome=yx ↔ k∈kvs.map QT:=by
 unfold Xae;rw[Option.isSome_map,List.find?_isSome,V0];constructor;·rintro ⟨p,hp,e⟩;exact⟨p,hp,oD0 e⟩
 ·rintro ⟨p,hp,e⟩;calc⟨p,hp,decide_eq_true e⟩
section
variable{QYh}
private noncomputable abbrev cwE{QWn}(far:D){QEj}(x3 x5 x6:QDr):En:=[yz Q21,yz far,yz Q81,x3,yz (.ref QW9),x5,x6]
def Xuf{il p:Nat}{far:D}{B:Sto}{L:LL}{x3 x5:QDr}{Qan}{Qzk}{QAq}(h0:L≠[])(h3:Q9J<=3):
  ∃e' S',(∃kvs x6,S'=B++QS4/\e'=QWr x6/\QgK/\Qd4.Nodup/\kvs≠[]) /\
   pe F G (.cons (.whl Q2F (.cons QFM (.cons (.ite Q1F (.cons QpC (.cons (.expr QZA) .nil)) .nil) .nil))) ss) (QWr yy) (B++QgJ)=QGs e' S':=by
 let m0:msr L<=6000:=by let:=Xxr hb;omega
 exact Xxo (λm e S'=>∃(st:LL) (kvs:QZu) (x6:QDr),S'=B++QY8/\e=QWr x6/\msr st=m/\m<=6000/\(∀b∈st,Lof L b)/\QgK/\Qd4.Nodup/\(st=[]->kvs≠[])) _ (msr L) Q0 ⟨L,[],yy,rfl,rfl,rfl,m0,λb hb=>⟨b,hb,Um7⟩,(by intro q hq;cases hq),Vg1,λz=>UL2 h0⟩ λm e S' hP=>?_;let⟨st,kvs,x6,rfl,rfl,hm,aj,ac,aa,ab,af⟩:=hP;let t:QNq Q2F QyF QIe=.ok (.bl (!decide (st=[]))) QIe:=(Xa5 Q16 QeL).trans (Xem (X5q (m:=[]) Xnc));by_cases hs:st=[];·subst hs;exact .inr ⟨_,t,kvs,x6,rfl,rfl,aa,ab,af rfl⟩
 ·rw[decide_eq_false hs]at t;obtain⟨z,b,rfl⟩:∃z b,st=z++[b]:=⟨st.dropLast,st.getLast hs,(Vix hs).symm⟩;clear hs af;let ae:Lof L b:=ac b Q9;let bb:Uw7:=by
   exact Xa ae λc hc h=>?_;exact QVb.sub h
  rw[Xls]at hm;let ah:msr [b]=Ur6:=Nat.add_zero _;let ai:=X5p b;let zl:=Xsm z;let pp:QNq (.pop0 QD) QyF QRJ=.ok QlD Qe0:=by
   calc ond Q8D ?_;let l1:lstM QRJ QMb=yz Qf6:=by unfold lstM;rw[Xnc]
   let l2:Qf6[Qf6.length-1]?=UuI:=by simp!
   simp[Xmz,l1,l2];rw[X2a,Vau];simp!
  let ic:QNq Q1F Q61 Qe0=.ok (.bl (!decide (b∈kvs.map QT))) Qe0:=by
   calc ond (UJ5 (d:=Xb b) rfl) (ond (Xh (i:=4) (d:=.ref QPG) rfl) ?_);let l1:Xb6 Qe0 QPG=QHx:=by unfold Xb6;rw[Xnd]
   simp[Xkk,Xb,l1,Y1];congr 2;by_cases c:b∈kvs.map QT;·rw[decide_eq_true c,dc_some.mpr c];rfl
   ·rw[decide_eq_false c,Vjg.mpr λz=>c QbT];rfl
  by_cases c:b∈kvs.map QT
  ·calc .inl ⟨_,QWr QF1,B++[.lst QVP,.dct kvs],msr z,by let:=UZJ;omega,t,UPH,z,kvs,_,rfl,rfl,rfl,by omega,λq hq=>ac q QAa,aa,ab,λ_ h=>?_⟩;·rw[decide_eq_true c];rfl
   ·subst h;exact aB0 c Q9
  let kl:QOG<big:=by
   let:=Xsn h3 hb ab λk hk=>by exact Xa QDa λq hq ag=>?_;subst ag;exact aa q hq
   rw[Vg]at this;exact Vbk this Q2
  let dp:UfC b Qm0=kvs++[(b,.bl yx)]:=by unfold Xdx;rw[iN0 λz=>c QbT]
  let as:Qfs QpC Q61 Qe0=.ok (.nx Q61) Q80:=by
   let l1:Xge Qe0 QPG=QHx:=by unfold Xge;rw[Xnd]
   let a:U5F Qe0=U06 Q80:=by simp[Yn,Xb,l1,Y1,iP0 kl];rw[Ydg,dp]
   show(U5F _).bind (λ_ S=>R.ok (Fl.nx Q61) S)=_;rw[a];rfl
  let xt:QNq QZA Q61 Q80=Qox (B++QZ8):=by
   let l1:lstAt Q80 QMb=yz QVP:=by unfold lstAt;rw[Xnc]
   calc(Xhu Q8D (by unfold Xb5;dsimp;rw[l1];rfl) ((Yh QCB).trans (hL b _ (by let:=bb.1;omega)))).trans ?_;let l2:lstM Q80 QMb=yz QVP:=by unfold lstM;rw[Xnc]
   simp[Xap,l2,show Xo Q80 QPD=yz QIX from rfl];rw[iP0 (by rw[Vg,Vg,les,Vg,Vat];let:=bb.1;calc Yb Q0),X2a,Vau]
  calc .inl ⟨_,QWr QF1,B++QZ8,msr (z++les b),by rw[Xls];omega,t,UPH,z++les b,_,_,rfl,rfl,rfl,by rw[Xls];omega,λq hq=>?_,λq hq=>?_,?_,λ_ h=>?_⟩;·rw[decide_eq_false c];exact X18 ((Xbt as).trans Qad)
  ·rcases Ut.mp hq with hq|hq;·exact ac q QAa
   ·exact Xa ae λc hc h=>?_;exact⟨c,hc,(Xsl hq).1.trans h⟩
  ·rcases Ut.mp hq with hq|hq;·exact aa q hq
   ·rw[V3.mp hq];exact ae
  ·rw[Vau,Vdm];calc⟨ab,UvC,λx hx y hy e=>?_⟩;rw[Ub,Vfs,V3]at hy;exact c ((e.trans hy:x=b)▸hx)
  simp! at h
universe e
theorem Crd{Qyn}:Prop:=n≠[]/\Q7J<=192/\∀b∈n,Uw7
section
variable{QYh}{it p:Nat}
def Ybc{far w:Nat}{B:Sto}{x2 x3 x4 x6:QDr}{Q5p}(hp:Pot B p)(ae:w<=6)(hf:0<far/\far<=16):
  ∃s B',Bag s/\Dw p B B'/\ev F G (Qos (.cons (.frz (Q7w (.cons (.frz (UD0 Q9C (UkK))) .nil))) .nil)) Qr4 B=.ok (Xb s) B':=by
 let⟨ab,S',e1,ps,d1,rfl,l1,hm⟩:=Ya5 QMq (env:=Qr4) U5L (n:=2) (i:=8) (it:=.rng Q34) (elt:=UkK)
  ((Ud w).map λk:Nat=>Q1w) (λi aa S'=>∃ps:LI,Dw p B S'/\aa=ULJ/\QW5=i/\∀x∈ps,0<=x/\x<=15) (Xej (n:=w) rfl Q0) ⟨[],.rfl' hp,rfl,rfl,λx L=>by cases L⟩ (λj x aa S' L hP=>by
   let⟨ps,d1,rfl,l1,hm⟩:=hP;let ac:j<w:=by simpa using QLH.1
   let⟨a,S2,a1,a2,a3⟩:=Xfh (G:=G) (env:=((Qr4:En)++Vm 2 yy).set 8 Q2B) (S:=S') (S1:=S') (j:=0) (m:=far) (e:=UBE) hF rfl rfl Q3U hf.1 Q0;calc⟨Qvw,.int a,S2,a3,ps++[(a:Int)],d1.trans a2,by rw[Vau];rfl,by rw[Vw,l1];rfl,λx L=>?_⟩;rcases Ut.mp L with L|L;·exact hm x L
   ·rw[V3.mp L];omega)
 rw[Vg,Vat]at l1;let f1:=Xgw e1 d1.sim Q06;let hs:=(UQC f1).trans (show Un9 [.fro (ULJ)] S'=.ok QD9 (S'++[.lst ((Xa7 ps).map D.int)]) by simp[Yc,Xo,Y1];rw[iP0 Q0]);let pm:=Xck ps;calc⟨Xa7 ps,S',⟨by rw[pm.length_eq];omega,λx L=>hm x (pm.mem_iff.mp L),(Xj2 _).mpr (Xe7 ps)⟩,d1,?_⟩;rw[Yu (Xgw hs d1.sim Q06)];rfl
def Xug{il:Nat}{Q5p}{Qzk}{QKj}(hp:QRy):∃n S1,QDu/\Crd n/\den F G QGA Q7L S=.ok QE2 S1:=by
 let⟨v,hv,A,d1,q1⟩:=Xln QMq (env:=Q1J) (j:=0) (n:=3) (xs:=[.int 2,.int 4,.int 16]) hF hp rfl (Xjy Q8X Q2) rfl Q2 Q2;obtain⟨aa,rfl,hf⟩:∃aa:Nat,v=.int aa/\0<aa/\aa<=16:=by
  simp[Vv,Va6,or_false]at hv;rcases hv with rfl|rfl|rfl;·exact QyM
  ·exact QxM
  exact⟨16,rfl,by decide⟩
 let⟨t,C,t1,d2,q2⟩:=Xfh QMq (env:=Qj2) (S:=A++QSE) (S1:=A++QSE) (j:=0) (m:=3) (e:=.cst Qw8) hF rfl rfl (.rfl' (d1.pot.app _)) QIu;let⟨B,rfl,dB⟩:=Dw.inv d1.pot d2;let rg:QSr (.rng QaA) Qj2 (A++QSE)=.ok (.con QeF) (B++QSE):=Xej (n:=t+1) ((bi (x:=Q2w) rfl q2 Qa6).trans (by congr 2;omega)) Q0;let fp:=UcC (env:=Qj2) (S:=A++QdK) (S1:=B++QdK) (t:=UYK) (it:=.rng QaA) (ss:=Qly 3) (b:=bdy QGA.body 2) QeF
  (λi e S'=>∃(C:Sto) (L:LL) (x3 x5:QDr),Dw p A C/\S'=C++Qs6/\Q9J=i/\(∀b∈L,Uw7)/\e=QiB)
 let⟨e',S',h1,C,L,x3,x5,d3,rfl,lb,hb,rfl⟩:=fp rg ⟨B,[],yy,yy,dB,rfl,rfl,(by intro b h;cases h),rfl⟩ (λi y e S' hy hP=>by
  let⟨C,L,x3,x5,d3,rfl,lb,hb,rfl⟩:=hP;let hi:i<t+1:=by simpa using Q4a.1
  let⟨v,hv,C2,d4,q3⟩:=Xln QMq (S:=C++Qs6) (env:=[yz Q21,yz Q8M,yz QI8,UR6,yy,x5,yy]) (j:=0) (n:=6) (xs:=[.int 2,UfK,Q2w,.int 4,UL3,UeK]) hF (d3.pot.app _) rfl (Xjy (QVx (QVx (QVx Q8X))) Q2) rfl Q2 Q2;let⟨C2,rfl,ac⟩:=Dw.inv d3.pot d4;obtain⟨w,rfl,hw⟩:∃w:Nat,v=.int w/\w<=6:=by
   simp[Vv,Va6,or_false]at hv;rcases hv with rfl|rfl|rfl|rfl|rfl|rfl;·exact QyM
   ·exact⟨3,rfl,by decide⟩
   ·exact⟨1,rfl,by decide⟩
   ·exact QxM
   ·exact⟨0,rfl,by decide⟩
   exact⟨6,rfl,by decide⟩
  let d5:=d3.trans ac;let⟨s,C3,hs,d6,q4⟩:=Ybc QMq (p:=p) (far:=aa) (w:=w) (B:=C2++Qs6) (x2:=yz QI8) (x3:=UR6) (x4:=yy) (x6:=yy) hF (d5.pot.app _) hw hf;let⟨C3,rfl,ab⟩:=Dw.inv d5.pot d6;let ap:=Yc6 QMq (S:=C2) (S1:=C3) (env:=[yz Q21,yz Q8M,yz QI8,UR6,yy,yz Q4W,yy]) (i:=2) (v:=Xb s) (xs:=L.map Xb) (by rw[d5.len];rfl) ab.len q4 (Qvw);calc⟨_,_,_,rfl,(U21 q3).trans (Xpl ap),C3,L++[s],UR6,yz Q4W,d5.trans ab,by rw[Vau];rfl,by rw[Vw,lb];rfl,λb h=>?_,rfl⟩;rcases Ut.mp h with h|h;·exact hb b h
  ·rw[V3.mp h];calc hs)
 rw[Vg,Vat]at lb;let⟨e2,S2,⟨kvs,x6,rfl,rfl,hk,nd,ne⟩,q5⟩:=Xuf QMq (il:=il) (p:=p) (far:=.int aa) (B:=C) (x3:=x3) (x5:=x5) (ss:=Qly 5) hL hb (λz=>by subst z;cases lb) Q0;let km:∀b∈Yi Qd4,Lof L b:=λb h=>by exact Xa (V0.mp (srtC_mem.mp h)) λq hq ae=>?_;subst ae;exact hk q hq
 let kl:Qd4.length<=192:=Xsn Q0 hb nd λb h=>km b (srtC_mem.mpr h);let sr:QNq QPa (Uy2 x6) QqV=.ok (.ref (C++[O.lst [],.dct kvs]).length) (C++QS4++[.lst (QRd.map Xb)]):=by
  calc ond (Xh (i:=4) (d:=.ref QmU) rfl) ?_;let l1:Xcq QqV QmU=none:=by unfold Xcq;rw[Xnd]
  let l2:Xb6 QqV QmU=QHx:=by unfold Xb6;rw[Xnd]
  rw[Vg]at kl;simp[Xs0,l1,l2];rw[iP0 Q0];rfl
 let rt:=Xaf (ss:=.nil) ((Qfw (Yx sr Qd2)).trans (show UVG _=.ok QKe _ from rfl));calc⟨Yi Qd4,C,d1.trans d3,⟨λz=>?_,by rw[QjN.length_eq];calc kl,λb h=>?_⟩,?_⟩;·let:=(Xab Qd4).length_eq;rw[z,Vg]at this;exact ne (List.length_eq_zero_iff.mp this.symm)
 ·exact Xa (km b h) λc hc hs=>?_;exact QVb.sub hs
 let dc:Qbq (Qly 3) QiB (C++Qs6)=Qbq (Qly 4) (Uy2 yy) (C++QgJ):=by calc(USC (e:=.dct0) (v:=.ref (C++[O.lst (L.map Xb)]).length) (S1:=C++Qs6++QlR) rfl).trans ?_;rw[d3.len.symm,Ug,Vw];rfl
 calc Xcy (X:=QS4) (env0:=Q1J) rfl ((UD5 q1).trans ((UC5 (e:=.lst .nil) (v:=.ref A.length) (S1:=A++QdK) rfl).trans (h1.trans (dc.trans (q5.trans rt))))) (d1.trans d3).sim (Xpn _ _)
universe e
abbrev Ybd:LD:=[.int 16,.int (-1),.bl yx,.bl yw,.non,.str "1",.tup Q8g,.fro Q8g,UL3,.int 15]
def X5r:∀d∈Ybd,UV5 d:=Xxf Q8
def Bag.smn{l:LI}(h:Bag l):Smn l:=λx L=>by let:=h.2.1 x L;omega
def Crd.rws{Q4o}(h:Crd n):Rws 192 n:=⟨h.2.1,λs hs=>⟨by let:=QwW.1;omega,QwW.smn⟩⟩
def Rws.sm{Qno}(L:k<=194):Sm 4 50000 QE2:=Xnb (λd hd=>(h.item d hd).mono (show 1<=3 by decide) Qa) (k:=194) (by rw[Vg];calc Uh h.1 L)
section
variable{Qvn}{Q2k}
def Xuh{Qal}{x y:LD}(h1:Qxv=.ok (.fro x) S)(h2:Qdx=.ok (.fro y) S)(h:QOL+lg y<=1000)(hx:pds x=yx)(L:pds y=yx):QNq (.frz QoH) QKq=.ok (.fro (x++y)) S:=
 Yx (QZY.trans (Xll x y QG7 S)) (QJv (pds_iff.mpr (Xbm (pds_iff.mp hx) (pds_iff.mp L))))
def Ybe{is:LN}{QAm}{v:D}{Qan}{env':En}(h:Q7s=Ub0)(L:X3 Qh9 v env=yz env'):Qbq (.cons QcX ss) QKq=QGs env' S1:=Xbt (US3 QLS)
def Xui{Q6l}{L ee:Ex}{QYk}{y:D}{Qjo}{Q8q}(hj:env[j]?=yz Qsc)(hv:QNq L QKq=.ok y S)(he:QNq ee QKq=.ok Q5W S)(hl:QR<=1000):
  ev F G (Qdq (Qdq QbG (.tup (.cons L .nil))) (UG9 (.some ee) .none)) QKq=.ok (.tup (Ur4++[y]++UlB)) S:=
 Xfi (Xfi (X0n QCA QWY) (Xjz hv) (USG (j:=1) QJV Qa)) (Xpw QCA he) (adk (i:=1001) (j:=1000) (X12 (k:=1000) (m:=1) QJV Qa) QVd)
def Xne{j a:Nat}(L:env[j]?=yz Qsc):QNq Q6P QKq=.ok QsK S:=UzJ Qjg rfl Qa6
def Xxs{i a b:Nat}{L e2:Ex}{QYk}{Q8q}(h1:QNq L QKq=UIE)(h2:QNq e2 QKq=.ok Q5W S)(hl:QR<=1000):QNq (Qdq (UG9 .none (.some L)) (UG9 (.some e2) .none)) QKq=.ok (.tup (Ur4++UlB)) S:=
 Xfi (X0n QCA h1) (Xpw QCA h2) (USG (j:=1000) QJV QVd)
private noncomputable abbrev b41{QWn}{Qyn}(x2 x3 x4 x5 x6 L:QDr)(a t:Nat):En:=[yz Q21,yz QE2,x2,x3,x4,x5,x6,L,yz Qn6,yz QXe]
def Xlt{i a:Nat}{QAm}{Q4o}(hi:env[i]?=yz Qxc)(L:Q7s=UIE)(ha:a<lg n):QNq (.idx QA0 e) QKq=.ok QkD S:=by calc(Xf5 QCA L).trans ((Xlm (xs:=n.map Xb) rfl QR9 (by rw[Vg];calc ha)).trans ?_);rw[List.getElem_map]
def Ydh{Qfi}{b:LI}{QKm}:QNq (.rev QA0) QKq=.ok (UjJ) S:=ond QCA (by show R.ok (D.tup QY2.reverse) S=R.ok (D.tup (b.reverse.map D.int)) S;rw[List.map_reverse])
abbrev bB(b:LI)(s:Nat)(o:D):LD:=[.tup (U9A++[o]++QY2.drop s),.tup (U9A++[o]++QY2.drop Q6b),.fro QY2,UjJ,o]
def Ydi{b:LI}{s:Nat}{o:D}(h:Uw7)(L:UV5 o):∀d∈bB b s o,Sm 3 13500 d:=by let i:=λd (hd:d∈b.map D.int)=>h.smn.item hd;let l6:QY2.length<=6:=Xdk h.1;let md:∀k,s<=k->Sm 3 13500 (.tup (U9A++[o]++QY2.drop k)):=λk hk=>Xnb (k:=7) (Xbm (Xbm (Xj0 i) (Xi3 L)) (Xj1 i)) (Ya2 (k:=6) (j:=1) hk l6 Qa);calc Va1.mpr ⟨md s Qa,X0i (md Q6b QPH) (X13 (k:=6) i l6) (Xua (Ydc h.smn) (k:=6) (Ydd h.1)) (L.mono QIu)⟩
abbrev nB{Qyn}{Qmj}:D:=Xm (Yi (n++[Vm k 0]))
def Xnf{Q4o}{Q8p}{Qgj}(hk:k<=7):Sm 4 50000 Q8d:=by
 calc Rws.sm (k:=193) ⟨by rw[QjN.length_eq];calc X12 (k:=192) (m:=1) h.1 Qa,λs hs=>?_⟩ Q2;rcases Ut.mp (srtC_mem.mp hs) with hs|hs;·exact h.2 s hs
 ·rw[V3.mp hs];calc⟨by rw[Vfq];calc hk,λx L=>by rw[(List.mem_replicate.mp L).2];decide⟩
def Xuj{Q4o}{Qgj}{Q8p}(h0:n≠[])(hk:k<=7){x0:D}{x2 x3 x4 x5 x6 x7 x8 x9 L:QDr}:QNq QcR QO8 S=.ok Q8d S:=by
 let m:QNq (U66 (.tup QmH) QyS) QO8 S=.ok (Xb (Vm k 0)) S:=by
  calc bi (x:=.tup [.int 0]) (y:=Q1w) rfl rfl ?_;simp[X1];rw[iP0 ⟨by omega,QdD,by omega,rfl⟩,Vaf];congr 2;let:∀k,(Vm k [D.int 0]).flatten=(Vm k (0:Int)).map D.int:=λk=>by
   induction k with
   |zero=>rfl|succ k ih=>rw[Vae,Vby,ih,Vae];rfl
  exact this k
 calc X0o Q9 (by rw[Vw];let:=h.1;show _+1<_;omega) ((Xfi QFB (Xjz m) (by rw[Vg];let:=h.1;show _+1<=_;omega)).trans (by rw[Xm,Vau];rfl))
abbrev Xng{Qyn}:LD:=[.tup QuB,.tup [],.tup Qee,.non,UL3,.str "",.edc]
def cl_last:Cls QE1 [.tup [],.tup Qee,.non,UL3,.str "",.edc]:=
 Xq Q9X (Xq (Xjx (Xq Q9X Xca) Q2) (QVx (QVx (QVx (Xq Ya1 Xca)))))
def Xp1{Q4o}{Q8p}:∀d∈Xng n,Qfu:=Va1.mpr ⟨Xnb (k:=1) (Xi3 (h.sm Q2)) Qmg,Xxf Q8⟩
variable{it p:Nat}
def Xxt{Q4o}{a t s:Nat}{b:LI}{o:D}(hn:Crd n)(ha:a<lg n)(ht:t<lg n)(hb:Uw7)(ho:UV5 o):∃ds X,Qa8/\QV3=20/\pe F G (drp Qjd.body 4) (Qfr QSw) S=.ok (.rt QXB) QWH:=by
 let L:=hn.rws;let ab:QV.length<=192:=Xdk L.1;let l6:QY2.length<=1000:=Xdk QUO;let ag:QV.length<=1000:=by omega
 let ac:=Ydi (s:=s) hb ho;let ri:∀d∈n.map Xb,UGD:=λd hd=>(L.item d hd).mono Q2 Qa;let q5:=Xek QMq QGx (env:=Qfr QSw) (ds:=bB b s o) (Xn (U03 (b:=s) rfl rfl Qf4 QEB l6) (Xn (U03 (b:=s+1) rfl rfl Qf4 (Xne (j:=3) rfl) l6) (Xn (Xj3 Q16 Q06) (Xn (Ydh (i:=2) rfl) (Xn Qf4 Xba))))) (by show 5<=1000;decide) .rfl' (QJv (pds_iff.mpr λd hd=>Qhb.pd));let c6:=U87 (env:=UUD yy yy a t) QAt (i:=11) (it:=.val Qz1) (elt:=Qdq Qp4 QJ3) QxP (λd=>.tup Qd6) rfl (Yb (by show 5<=_;decide)) (λd hd=>Xui (i:=1) (j:=8) UoI rfl rfl (Xh (i:=11) rfl) Q1G ag) (λd hd=>UfG (pds_iff.mpr (Xbm (Xbm (Xj0 λd hd=>Q7b.pd) (Xi3 Qhb.pd)) (Xj1 λd hd=>Q7b.pd))));let af:∀d∈QxP.map QxQ,Qfu:=λd hd=>by exact Qsv λy hy ap=>?_;subst ap;exact(Ya4 (k:=192) (a:=3) (b:=45) (c:=13500) (ac y hy) (Xj0 ri) (Xj1 ri) (by rw[Vaq,Vbu];omega) Qyx).mono QIu
 generalize hD:QxP.map QxQ=d6 at c6 af;let aj:(lg d6)=5:=by rw[<-hD,Vg];rfl
 let p6:pds d6=true:=pds_iff.mpr λd hd=>(af d hd).pd
 let c7:=U87 (env:=UUD (yz (.fro d6)) yy a t) QAt (i:=11) (it:=.val Qv2) (elt:=Qos Qy) [.int 1,.int 2,UeK,.int 7] (λd=>match d with|.int k=>nB n k.toNat|_=>.non) rfl (Yb Q2) (λd hd=>by
  simp[Vv,Va6,or_false]at hd;rcases hd with rfl|rfl|rfl|rfl;·exact Xuj (k:=1) UL8
  ·exact Xuj (k:=2) UL8
  ·exact Xuj (k:=6) UL8
  ·calc Xuj (k:=7) UL8) (λd hd=>by
  simp[Vv,Va6,or_false]at hd;rcases hd with rfl|rfl|rfl|rfl<;>calc Xpn _ _)
 let ak:∀d∈QX7,Qfu:=X0i QB6 QB6 QB6 QB6;let p7:pds QX7=true:=pds_iff.mpr λd hd=>(ak d hd).pd;let q7:=Xuh (UJ5 (d:=.fro d6) rfl) c7 (by rw[aj];show 5+4<=1000;decide) p6 p7;let ah:=Xbm af ak;generalize hE:d6++QX7=d7 at ah;replace q7:QNq _ _ S=.ok Qcc S:=q7.trans (by rw[<-hE];rfl);let l7:(lg d7)=9:=by rw[<-hE,Vw,aj];rfl
 let p8:pds d7=true:=pds_iff.mpr λd hd=>(ah d hd).pd;clear hE hD c7;let aq:a<QV.length:=by rw[Vg];exact ha
 let ao:t<QV.length:=by rw[Vg];exact ht
 let sw:Qfs QG2 QF7 (S++[.lst QV])=.ok (.nx QF7) (S++[.lst (UQH)]):=by
  let ix:∀(xs:LD) (j:Nat) (v:D),j<QPs->Yn Q5 Q02 v Qg0=U06 (S++[.lst (xs.set j v)]):=λxs j v hj=>by
   let l1:lstM Qg0 QF=QLu:=Y4 ..;let l2:Ul8 (j:Int)=UX9:=by unfold Z.ixN;rw[iP0 Q0,iP0 Q0,Vaf]
   simp[Yn,l1,l2];rw[Xcj]
  calc ond (Xxg (Xlt (i:=1) (a:=t) rfl (Xh (i:=9) rfl) ht) QSA) ?_;show(Yn Q5 Qn6 (Xb n[t]) _).bind (λ_ S'=>(Yn Q5 QXe QkD S').bind λ_ S'=>R.ok (Fl.nx _) S')=_;rw[ix _ a _ aq,Rk0,ix _ t _ (by rw[Vb3];calc ao)];rfl
 generalize hX:UQH=xs at sw;let lx:QR<=192:=by rw[<-hX,Vb3,Vb3];exact ab
 let rx:∀d∈xs,UGD:=λd hd=>by
  rw[<-hX]at hd;rcases Vjp hd with hd|rfl
  ·rcases Vjp hd with hd|rfl;·exact ri d hd
   ·exact ri _ (Vgg (Vdx ht))
  exact ri _ (Vgg Qvd)
 let st:=λ{ys:LD} (h:∀d∈ys,UGD) (hl:QzG<=193)=>(Xnb Qyx h hl).mono (show 4<=50 by decide) (show 50000<=200000 by decide);let c9:=Qzx (env:=UUD (yz Qcc) QiJ a t) (ds:=[.tup (QV.take a++QV.drop (a+1)),.tup (QV.take (a+1)++QV.drop a),UC4,.fro QV]) (Xn (Xxs (i:=1) UoI rfl QSS Q1G ag) (Xn (Xxs (i:=1) (a:=a+1) (b:=a) rfl Q1G QSS ag) (Xn ((Qfw (Xh (i:=7) (d:=Uz7) rfl)).trans (by simp[Yc,Xo,Y4])) (Xn (Xj3 QFB Qd2) Xba)))) Q7A;let ai:∀d∈Qp0,Qfu:=X0i Qk7 Qk7 (st rx Q0) ((X13 (k:=192) Qyx ri ab).mono QIu);let p9:=pds_iff.mpr λd hd=>(ai d hd).pd;let q9:=Xuh (UJ5 (d:=.fro d7) rfl) (c9 .rfl' (QJv p9)) (by rw[l7];show 9+4<=1000;decide) p8 p9;let aa:=Xbm ah ai;let ae:(d7++Qp0).length=13:=by rw[Vw,l7];rfl
 generalize hG:d7++Qp0=d9 at q9 aa ae;let al:pds d9=true:=pds_iff.mpr λd hd=>(aa d hd).pd;let pl:pds (Xng n)=true:=pds_iff.mpr λd hd=>(Xp1 L d hd).pd;let an:=Qzx (env:=UUD (yz (.fro d9)) QiJ a t) (ds:=Xng n) (Xn (Xjz QFB) (cl_last.2 F G _ _)) (by show 7<=1000;decide) .rfl' (QJv pl);let am:=Xuh (UJ5 (d:=.fro d9) rfl) an (by rw[ae];show 13+7<=1000;decide) al pl;calc⟨d9++Xng n,Qr0,Xbm aa (Xp1 L),by rw[Vw,ae];rfl,?_⟩;calc(U21 q5).trans ((UB5 c6).trans ((UB5 q7).trans ((Xw (i:=7) (e:=UXA Qi) (v:=Uz7) (S1:=S++[O.lst QV]) rfl).trans ((Xbt sw).trans ((UB5 q9).trans (Xaf am))))))
def Xxu{Q4o}{Q5p}(L:Crd n)(hp:QRy):∃ds S1,QDu/\Qa8/\QV3=20/\den F G Qjd QpX S=UWA:=by let n0:0<lg n:=List.length_pos_iff.mpr L.1;let ln:∀(env:En) (S:Sto),env[1]?=yz Qxc->QNq (Q9v Qi) QKq=.ok (.int n.length) S:=λenv S h=>(Xh0 (xs:=n.map Xb) QAX rfl).trans Qdb;let⟨a,A,ha,d1,q1⟩:=Us8 QGx Qxx rfl QnW QQa n0 QWN;let⟨t,B,ht,d2,q2⟩:=Us8 (S:=A) (S1:=A) Qxx rfl QnW Q3U n0 QWN;let hb:=L.2.2 n[a] Qvd;let⟨s,C,hs,d3,q3⟩:=Xfh QMq (env:=b41 p n Qtc yy yy QSw) U5L (j:=0) (m:=n[a].length+1) (e:=Qdq QK3 Q4) hF rfl (bi (x:=.int n[a].length) (y:=Q2w) ((Xh0 (xs:=n[a].map D.int) Q16 rfl).trans Qdb) rfl Qa6) (.rfl' Q0V.pot) Q0 QUO;let⟨o,ho,E,d4,q4⟩:=Xln QMq (S:=C) (env:=b41 p n Qtc Qm3 yy QSw) (j:=0) (n:=10) (xs:=Ybd) hF (d3.pot) rfl (Xjy (QVx (Xq Ya0 (QVx (QVx (QVx (QVx (Xq (Xjx QBB Q2) (Xq (Xjy QBB Q2) QfL)))))))) Q2) rfl Q2 Q2;let⟨ds,X,h1,h2,q5⟩:=Xxt QMq (it:=it) (p:=p) (S:=E) (s:=s) L ha ht hb (X5r o ho);let d:=(Q0V.trans d3).trans d4;calc⟨ds,E,d,h1,h2,Xcy (X:=X) (env0:=Qs4) rfl ((Ybe (is:=[8,9]) (v:=.tup [.int a,.int t]) (env':=b41 p n yy yy yy QSw) (Xxg UcE) rfl).trans ((UC5 QSA).trans ((UTC q3).trans ((USC q4).trans q5)))) d.sim (QJv (pds_iff.mpr λd hd=>(h1 d hd).pd))⟩
universe e
universe Z
universe e
section
namespace Z
open PySem PySem.Spec PyProof.Rows L2
open PySem.W (tabIn codeHdIn codeHd_of_K tabObj)
abbrev Ybf{Quk}(ts:LR):Bool:=mks.all λm=>match tabIn K m with
 |some (c,P)=>codeHdIn K c P&&ts.contains P&&(K.lookup P).isNone|none=>yx
def Xxv{P:Addr}{q:Str}:∀ {l:List Q4Z},l.lookup P=yz q->(P,q)∈l
 |[],e=>by cases e| (b,x)::r,e=>by
  rw[Var]at e;cases L:P==b with
  |true=>rw[L]at e;cases e;rw[eq_of_beq L];calc .head _|false=>rw[L]at e;calc Uf1 (Xxv e)
def Ybg{Qtn}{ts:LR}(KX:ULK)(hb:Ybf K ts=yx)(ht:∀P∈ts,h.get? P=UyI){P:Addr}{q:Str}(e:Qsy=yz q):h.get? P=UyI/\isCodeTable h P/\K.lookup P=none:=by let hm:=Xxv e;unfold Xec at hm;calc Xa (Vd3.mp hm) λm ac L=>?_;rw[Up]at L;let⟨⟨c,P'⟩,ab,aa⟩:=L;cases aa;let:=U6.mp hb m ac;rw[ab]at this;simp[bA0]at this;calc Xe5 this λh1 h2 h3=>?_;let e1:=ht P' QbD;calc⟨e1,((codeHd_of_K KX h1).tab e1).isCodeTable,by simpa using h3⟩
def Xxw{QWh}{mg mb:Str->OV}{CX:CXT}{Qgj}{fa a:Addr}{fd:Vdv}{Qil}{sp:Sp}{L:Vc}{vs:LV}{Qnn}
  (KX:K.In L.heap) (aq:L.heap.Ns Uw mg) (hb:L.heap.Ns Vgv mb) (ao:∀x:Str,x ≠ "__name__" -> mb x=Ven x) (ai:L.heap.NoLimit) (hg:L.gens=#[])
  (aa:∀P q,Qsy=yz q->L.heap.get? P=UyI/\isCodeTable L.heap P/\K.lookup P=yy) (an:BM mg L.heap)
  (ha:L.heap.get? a=yz Q00) (hi:UA1) (hl:QbE<=V6) (hr:UGF)
  (F:∀base:Heap,Qzv->BM Ue2->UkH CX k UOI sp) (ag:∀(s:Vc) (u:Vb),Qcu QA7 QOU)
  (am:∀H:Hp,(∀xs,H a≠Qqu)->Up3->UCH->sp QwH H QMP λ_ _ _=>False)
  (au:∀H e s',CX [] H L QD7 e s'->False):
  Vc1 QHA UG0:=by
 let rv:=Xen hi;let aj:=hi.length;let ar:∀q,QfC.lookup a≠yz q:=λq e=>by let:=(aa a q e).1;rw[ha]at this;cases this
 let ae:∀o:UwD,(∀u,o=QIt->u=U36/\K.lookup a=yy)->SqL K (λb=>if b=a then o else QpI.map .tbl) a Qa1 ->
   Vc1 QHA UG0:=by
  intro o hO hS;generalize eH:(λb=>if b=a then o else UIF)=H at hS;let ap:H a=o:=by rw[<-eH];exact iP0 rfl
  let al:∀b,b≠a->H b=UIF:=λb z=>by rw[<-eH];exact iN0 z
  let trk:∀b u,H b=QIt->(b=a/\u=U36/\K.lookup a=yy)\/∃q,u=.tbl q/\QfC.lookup b=yz q:=λb u e=>by
   by_cases hb:b=a;·subst hb;rw[ap]at e;exact .inl ⟨rfl,hO u e⟩
   ·rw[al b hb,Up]at e;exact Xa e λq e1 e2=>?_;exact .inr ⟨q,e2.symm,e1⟩
  let hT:Up3:=λP q e=>by rw[al P λz=>ar q QuX,e];rfl
  let hok:U84 H L.heap:=λb u e=>by
   rcases trk b u e with⟨rfl,rfl,_⟩|⟨q,rfl,e2⟩;·exact⟨ha,by rw[Vg];calc hl,vs,_,rv,ha⟩
   ·exact⟨#[],QFH.1,trivial,λpos cv z=>by cases z⟩
  let ab:∀ {b:Addr} {o:Obj},U54=Qkq->o.cls≠Qzq -> o≠tabObj #[]->Ql6.get? b=Qkq:=λ{b o} e n1 n2=>Xij e (by
   cases q:H b with
   |none=>rfl|some u=>
    rcases trk b u q with⟨rfl,_⟩|⟨q,_,e2⟩;·rw[ha]at e;cases e;cases n1 rfl
    ·rw[QFH.1]at e;cases e;calc aB0 rfl n2)
  let af:∀ {b:Addr} {m:Str->OV},L.heap.Ns b m->Ql6.Ns b m:=λ{b m} ⟨o,es,ep,e,d,r⟩=>by
   calc⟨o,es,ep,Xij e ?_,d,r⟩;cases q:H b with
   |none=>rfl|some u=>
    rcases trk b u q with⟨rfl,_⟩|⟨q,_,e2⟩;·rw[ha]at e;cases e;cases d
    ·rw[QFH.1]at e;cases e;cases d
  let ak:K.In Ql6:=λb o e=>Xij (KX Qps) (by
   cases q:H b with
   |none=>rfl|some u=>
    rcases trk b u q with⟨rfl,_,z⟩|⟨q,_,e2⟩;·rw[z]at e;cases e
    ·rw[QFH.2.2]at e;cases e)
  let hM:Mod K mg Ql6:=⟨ak,af aq,⟨mb,af hb,ao⟩,let ⟨mc,h1,h2⟩:=ai;⟨mc,af h1,h2⟩⟩;let hB:BM mg Ql6:=by exact Xaw an λbm ob b1 b2 b3 b4 r=>?_;exact⟨bm,ob,b1,b2,ab b3 (by rw[b4];nofun) (λz=>by rw[z]at b4;cases b4),b4,r⟩
  let e0:Env0 P w K mg Ql6 callerA [] L H:=⟨rfl,hM,λb o e=>X2c e,Nat.le_of_eq (Xus _ _),trivial,λb hb=>aB0 (show b∈Qkb from hb) Q9,hok,.of_eq hg⟩;calc Ver ((F _ ak hB).run callerA [] L H QNZ QwH QwH _ _ hr e0 (ag L Qe) (.cons rfl .nil) (am H (λxs z=>by rcases trk a _ z with⟨_,z,_⟩|⟨_,z,_⟩<;>cases z) hT hS)) λr s' h=>?_;cases r with
  |error e=>exact(au H e s' h).elim|ok fl=>
   cases fl with
   |next=>exact Vfc h|brk=>exact Vfc h|cont=>exact Vfc h|ret u=>
    let⟨v,H',os,bare,un,ac,r',q⟩:=h;let q':v=.bl true:=q;subst q';obtain rfl:u=Ve4 true:=r';let ah:∀b o,U54=Qkq->QJt=Qkq\/(isCodeTable L.heap b/\o=tabObj #[]/\∃ps,QJt=yz (tabObj ps)):=λb o e=>by
     cases q:H b with
     |none=>exact .inl (un.keep Qps q (by intro z;calc UU0) Q9)|some u=>
      rcases trk b u q with⟨rfl,rfl,_⟩|⟨q2,rfl,e2⟩;·exact Xi (ac _ _ (un.frzs QLq q)) λe3 _=>?_;rw[ha]at e;cases e;exact .inl e3
      ·exact Xa (ac _ _ (un.tbls _ _ q)) λps e3 _=>?_;exact Xs (aa b q2 e2) λt1 t2 _=>?_;rw[t1]at e;cases e;exact .inr ⟨t2,rfl,ps,e3⟩
    exact⟨rfl,⟨λb o e=>?_,λb o e=>?_⟩,os,bare⟩
    ·rcases ah b o e with z|⟨t,rfl,ps,z⟩;·exact .inl z
     ·exact .inr (.inl ⟨t,rfl,#[],ps,rfl,by rw[z,Array.empty_append]⟩)
    exact Xsz (ah Qps) Qh0 λ_ _ ps z=>?_;·exact QHI
    ·exact QHI
 cases hk:QLw with
 |some o=>let e:=KX a o hk;rw[ha]at e;cases e;calc ae yy QyQ (.inr ⟨_,vs.toArray,_,hk,rfl,rfl,rfl,by rw[Vn,aj];calc hl,by simpa using rv⟩)|none=>calc ae (yz (U36)) (λu z=>by cases z;calc⟨rfl,hk⟩) (.inl (.inr ⟨Q00,iP0 rfl⟩))
abbrev dr(ts:LR){Quk}:Vh:=K.filter λp=>!ts.contains p.1
abbrev Xh1(ts:LR){Quk}:Bool:=ts.all λP=>match K.lookup P with
 |some ⟨.none,yy,.fields ⟨[]⟩,⟨[]⟩⟩=>yx|_=>yw
section
variable{ts:LR}{Qtn}
def Xuk{QZh}:∀ {K:Vh},UCK=if a∈ts then yy else QLw
 |[]=>by show yy=_;split<;>rfl| (b,x)::r=>by
  let ih:=Xuk (a:=a) (K:=r);unfold dr at ih |-;rw[List.filter_cons,Var];cases hb:a==b with
  |true=>
   let e:=eq_of_beq hb;subst e;by_cases L:a∈ts;·rw[iN0 QJ6,ih];simp[L,if_true]
   ·rw[iP0 QJ6,Var,hb,iN0 L]|false=>
   split;·rw[Var,hb];exact ih
   ·calc ih
def Ydj(X:ULK):QCH.In h:=λa o e=>by
 rw[Xuk]at e;split at e;·cases e
 ·calc X a o e
def Xso(L:Uq8=yx){P:Addr}(hP:P∈ts):K.lookup P=UyI:=by
 let:=U6.mp L P hP;split at this;·assumption
 ·cases this
def Xlu(hb:Uq8=yx){QFm}(e:QLw=Qkq)(L:o≠tabObj #[]):UCK=Qkq:=by
 rw[Xuk,iN0];·exact e
 ·intro hm;rw[Xso hb hm]at e;calc L (Um e).symm
def ns_dr(L:Uq8=yx){Qil}{r:OV}(e:Van K a x=US6):Van QCH a x=US6:=by
 unfold Van at e |-;split at e;·rename_i q;rw[Xlu L q λz=>by cases z];exact e
 ·cases e
def fun_dr(hb:Uq8=yx){QOm}{Q3l}{QDn}:FunAt QCH nm st:=by
 let⟨g,fd,⟨⟨oc,od,kV,ab,pm,an,ae,ct,ac,rfl,lk,L⟩,hk⟩,hn⟩:=F.ex;let aa:=Xlu hb lk λz=>by cases z
 exact⟨g,_,⟨⟨oc,od,kV,ab,pm,an,ae,ct,ac,rfl,aa,?_⟩,?_⟩,ns_dr hb hn⟩
 ·unfold Vgy at L |-;split at L
  ·split at L;·rename_i q;rw[Xlu hb q λz=>by cases z;cases L];exact L
   ·cases L
  cases L
 unfold Vdw;simp[aa]
universe e
def walk_zT{l:PySem.W.OpenLaw}{Qfj}{K:Params->Vh}{Q7l}{k f:Nat}{Qil}(ts:LR)(hn:l.most=yz 63)(ag:d.params.defaults=[])(hr:UGF)
  (hY:∀(w:V7) (h:Heap),YP w h->QuL.In h) (hT:∀w:V7,Xh1 ts QuL=yx) (hN:∀w:V7,Ybf QP3 ts=yx)
  (F:∀(w:V7) (mg:Str->OV) (fa:Addr) (h:Heap),Xh1 ts QuL=yx->QP3.In h->h.Ns Uw mg->mg d.name=U2J ->
   ∃fd:Vdv,Qw9/\∀base:Heap,QP3.In base->((∃m∈mks,Xe0 QP3 m=yx)->BM Ue2)->FnOk l.prog w QP3 Ue2 (CXd l.prog w) k UOI (spD QP3 QhW 1 QxL))
  (hL:∀ns:LI,UY3<=63->∃S',QVr k f Q0N []=Q8x S'):
  PySem.W.WalkO UH0:=by
 calc Att.attach_call hn ag λw s₀ ac mg mb fa o pm cd ai a vs ns G Y ho hd ah af ae aa L hg=>?_;let KX:=hY w _ Y;let ab:=Ydj (ts:=ts) KX;calc Xa (F w mg fa _ Qag ab G.T.g af) λfd hb hF=>?_;calc Xxw ab G.T.g G.T.b G.T.builtins G.T.nolimit hg (λP q e=>Ybg ab (hN w) (λP hP=>KX P _ (Xso Qag hP)) e) G.T.bmain ae aa (Uh L Q2) hr (λbase kb bm=>hF base kb λ_=>bm) hb (λH hO hT hS=>Yab hO hT hS (hL ns L)) λH e s'=>Yac H ac e s'
universe Z
universe e
section
namespace K41
open PySem PySem.Spec PyProof.Rows L2 Z
abbrev top{QQl}:Stmt:=PySem.Challenge.pw_facecounts_k41_crowds_looked_at.main.body.getD i (.Pass ⟨0,0,0,0⟩)
abbrev gns:LS:=["GREATEST_IN_BAG","GREATEST_BAG","MOST_BAGS"]
abbrev G:LD:=[.int 15,UeK,UxH]
abbrev fns:LF:=[("is_whole",1,yx),("is_whole_within",3,yx),("is_rising",1,yx),("is_crowd",1,yx),("crowd_counts",1,yx),("is_bag",1,yx),("lacks_none",1,yx),("_law_cell_at",2,yx),("_law_pot",1,yx),("_law_take",2,yx),("_law_whole",1,yx),("_law_word",1,yw),("_law_ways",2,yx),("_law_choices",3,yx),("_law_first_ones",3,yx),("_law_less_one",1,yx),("_law_is_bag",1,yx),("_law_is_crowd",1,yx),("_law_crowd",1,yx),("_law_said",1,yx),("_law_bent",2,yx),("_law_right",1,yx),("law",1,yx)]
private noncomputable abbrev Xj4:Df:=Xf6
abbrev Xul:LS:=QPU
private noncomputable abbrev Xdu:Df:=Xce 0
abbrev Xh2:LS:=["thing","low","high"]
private noncomputable abbrev Xid:Df:=Xdi
abbrev Xqi:LS:=["things"]
private noncomputable abbrev Xj5:Df:=Xf7 6 2 5 2
abbrev Xum:LS:=QPU
private noncomputable abbrev Xfk:Df:=Xbb 3
abbrev Xlv:LS:=["crowd","many","bag"]
private noncomputable abbrev Xp2:Df:=Xiz 1 0 1
abbrev X0u:LS:=QPU
private noncomputable abbrev Xgz:Df:=Xeh
abbrev Xp3:LS:=["bags","known","bag","place"]
private noncomputable abbrev Xfl:Df:=Xds
abbrev Xlw:LS:=["_law_script","_law_k"]
private noncomputable abbrev Xj6:Df:=t_law_pot
abbrev Xun:LS:=["_law_cell","_law_number","_law_j","_law_more"]
private noncomputable abbrev Xie:Df:=t_law_take
abbrev Xqj:LS:=["_law_pot_here","_law_far","_law_found"]
private noncomputable abbrev Xg0:Df:=Xic
abbrev Xp4:LS:=["_law_found"]
private noncomputable abbrev Xif:Df:=t_law_kind_of
abbrev Xqk:LS:=["_law_e","_law_some","_law_words"]
private noncomputable abbrev Xig:Df:=t_law_ways
abbrev Xql:LS:=["_law_things","_law_number","_law_at","_law_top","_law_bottom"]
private noncomputable abbrev Xfm:Df:=t_law_choices
abbrev Xlx:LS:=["_law_far","_law_size","_law_again","_law_found","_law_turn","_law_longer","_law_one","_law_least"]
private noncomputable abbrev Xdv:Df:=Xas 13 12
abbrev Xh3:LS:=["_law_many","_law_size","_law_again","_law_far","_law_first_ones.<locals>.<lambda>"]
private noncomputable abbrev Xes:Df:=Xda
abbrev Xj7:LS:=["_law_one"]
private noncomputable abbrev Xga:Df:=Xei 10
abbrev Xmv:LS:=["_law_thing"]
private noncomputable abbrev Xet:Df:=Xdb 15 16
abbrev Xj8:LS:=["_law_thing","_law_bag"]
private noncomputable abbrev Xg1:Df:=Xam 15 9
abbrev Xp5:LS:=["_law_pot_here","_law_far","_law_some","_law_turn","_law_found","_law_size","_law_bag"]
private noncomputable abbrev Xih:Df:=Xc0 4 11
abbrev Xqm:LS:=["_law_thing","_law_e"]
private noncomputable abbrev Xii:Df:=Xd1 9
abbrev Xqn:LS:=["_law_pot_here","_law_crowd_here","_law_bag","_law_spot","_law_odd","_law_news","_law_some","_law_swapped_here","_law_at","_law_to"]
private noncomputable abbrev Xg2:Df:=Xe1 19 3 17
abbrev Xp6:LS:=["_law_thing","_law_found","_law_due","_law_kept","_law_good","_law_sizes"]
private noncomputable abbrev d_law:Df:=Xw7 20 21 18 8 7 3 14 13
abbrev X2b:LS:=["_law_script","_law_first","_law_many","_law_k","_law_row","_law_pot_here","_law_crowd_here","_law_thing"]
abbrev T:QTy:=[Xj4,Xdu,Xid,Xj5,Xfk,Xp2,Xgz,Xfl,Xj6,Xie,Xg0,Xif,Xig,Xfm,Xdv,Xes,Xga,Xet,Xg1,Xih,Xii,Xg2,d_law]
private abbrev MS{QWn}{QBp}:Prop:=Z.MD Qxs (top p) N fl d
def Xuo:MS 19 Xul yx Xj4:=by decide+kernel
def Xh4:MS 20 Xh2 yx Xdu:=by decide+kernel
def Xqo:MS 21 Xqi yx Xid:=by decide+kernel
def Xup:MS 26 Xum yx Xj5:=by decide+kernel
def Xly:MS 27 Xlv yx Xfk:=by decide+kernel
def X0v:MS 28 X0u yx Xp2:=by decide+kernel
def Xp7:MS 29 Xp3 yx Xgz:=by decide+kernel
def Xlz:MS 31 Xlw yx Xfl:=by decide+kernel
def Xuq:MS 32 Xun yx Xj6:=by decide+kernel
def Xqp:MS 33 Xqj yx Xie:=by decide+kernel
def Xp8:MS 34 Xp4 yx Xg0:=by decide+kernel
def Xqq:MS 35 Xqk yw Xif:=by decide+kernel
def Xqr:MS 36 Xql yx Xig:=by decide+kernel
def Xl0:MS 37 Xlx yx Xfm:=by decide+kernel
def Xh5:MS 38 Xh3 yx Xdv:=by decide+kernel
def Xj9:MS 39 Xj7 yx Xes:=by decide+kernel
def Xmw:MS 40 Xmv yx Xga:=by decide+kernel
def Xka:MS 41 Xj8 yx Xet:=by decide+kernel
def Xp9:MS 42 Xp5 yx Xg1:=by decide+kernel
def Xqs:MS 43 Xqm yx Xih:=by decide+kernel
def Xqt:MS 44 Xqn yx Xii:=by decide+kernel
def Xqa:MS 45 Xp6 yx Xg2:=by decide+kernel
def Xur:MS 46 X2b yx d_law:=by decide+kernel
universe K41
universe e
section
namespace K41
open PySem Z
variable{d:D}{QKj}{Qmj}
def f0{Qdk}:QNy 0 QSt=Ui1:=by rw[Yk (d:=Xf6) rfl];calc Xmq h S
def f1{Qdk}:UYD 1 QvQ S=.ok QgQ S:=by rw[Yk (d:=Xce 0) rfl];calc Xt6 (f0 k h)
def f5{Qdk}:QVr Q7f 5 QSt=Uk1:=by rw[Yk (d:=Xiz 1 0 1) rfl];calc Xxi rfl rfl (λd hd S=>f1 k hd) h S
def f3{Qdk}:QVr Q6f 3 QSt=Qnx:=by
 rw[Yk (d:=Xf7 6 2 5 2) rfl];calc Xqh rfl (λd hd S=>f5 k hd) (λn S L=>?_) (λn S L hb=>?_) h S;·rw[Yk (d:=Xdi) rfl];exact Xw9 n L S
 ·rw[Yk (d:=Xeh) rfl];calc Xxj L hb S
def f15{b:LI}{QFq}:QNy 15 QMU S=UNE:=by rw[Yk (d:=Xda) rfl];calc X0s L S
def f17{Qdk}:QVr Q7f 17 QSt=Qnx:=by rw[Yk (d:=Xdb 15 16) rfl];calc Xpy (λd hd S=>?_) (λb S L=>f15 QB3 L) h S;rw[Yk (d:=Xei 10) rfl];calc Xub (λd hd S=>X0m rfl hd S) hd S
def f21{Q7q}:QVr (k+7) 21 QSt=Q8x S:=by
 rw[Yk (d:=Xe1 19 3 17) rfl];calc Xuc hs (λS=>f17 Q7f hs.pd) (λS=>f3 QgP hs.pd) (λn S e L=>?_) (λS L=>?_) S;·rw[Yk (d:=Xc0 4 11) rfl];calc Xxm ?_ (Xc1 _);exact Yg (Xsk L) λm aa h0 hl hb=>?_;let en:m=n:=X0c (aa.symm.trans e);subst en;rw[e,Yk (d:=Xbb 3) rfl];exact X5k h0 hl hb (by rw[f3 k (Xju m),<-e,L])
 ·rw[Yk (d:=Xc0 4 11) rfl];calc Xxn (Yax rfl Q6f) ?_;rw[Yk (d:=Xbb 3) rfl];calc X5l (by rw[f3 k hs.pd,L])
def Yej:QNy 13 [.int 16,.int (0+1:Nat),Q2w] S=Qvq (S++[.lst ((UT0 (0+1)).map Xb)]):=by rw[Yk (d:=t_law_choices) rfl];calc UeG
def Yek:QNy 13 [.int 16,.int (1+1:Nat),Q2w] S=Qvq (S++[.lst ((UT0 (1+1)).map Xb)]):=by rw[Yk (d:=t_law_choices) rfl];calc UeG
def f14{Qjl}(L:36<=m/\m<=56):UYD 14 QxH S=Qvq QpS:=by
 rw[Yk (d:=Xas 13 12) rfl];calc Xue L Q1b (λa ha S=>?_) S;·rw[Yk (d:=t_law_choices) rfl];exact Xe2 QIu (λk hk=>b6 k Q0) S
 ·rw[Yk (d:=t_law_ways) rfl];calc Xxp ha S
def f9:Tks QYF 9:=Yar rfl k
def f18{p:Nat}(L:QRy):∃n S1,QDu/\Crd n/\FT T G QgP 18 Q7L S=.ok QE2 S1:=by rw[Yk (d:=Xam 15 9) rfl];calc Xug Qbg (λb S hb=>f15 k hb) L
def f20{p:Nat}{Q4o}(hn:Crd n)(L:QRy):∃ds S1,QDu/\Qa8/\QV3=20/\FT T G QgP 20 QpX S=UWA:=by rw[Yk (d:=Xd1 9) rfl];calc Xxu Qbg hn L
section
variable{F:Fn}{QKj}{Qci}
def Xqb{Qal}{xs ys:LD}(h1:Qxv=Uo1 S)(h2:Qdx=Qvq QKC)(hl:QR+UX3<=1000):QNq QoH QKq=.ok (.ref (S++[O.lst ys]).length) (S++[.lst ys]++Qmc):=by calc QZY.trans ?_;let L:lsD QKC Q5=yz ys:=Y4 ..;show(match lsD QKC Q57,lsD QKC Q5 with|some x,UR6=>_|_,_=>_)=_;rw[L];calc iP0 QG7
universe e
def d16:(([[]]++UT0 1):LL)++UT0 2=fst16:=rfl
def Xl1:(lg fst16)=153:=by decide+kernel
def Xxx:QNF.length=16:=by decide+kernel
def Ybh:QYL.length=136:=by decide+kernel
def Ybi{QEl}:QEf.length<=m:=List.length_take_le ..
def first{Qmj}(L x1 x2 x3 x4 x5 x6 x7:QDr){QIh}:ev QYF G (.frz (Qdq (.frz (Qdq QZQ (UL9 Qg8))) (UL9 Qe2))) QeK S=.ok Q3Y S:=by let a:=Xlo (X:=[.lst (UEA)]) (Xqb (F:=QNy) (env:=QeK) (S:=S) (a:=.frz QzE) (xs:=Q6L) (Yx rfl rfl) (b:=UL9 Qg8) (ys:=UEA) (Yej k) (by rw[Vg,Xxx];decide)) (QJv (pds_iff.mpr QEA));let b:=Xlo (X:=[.lst (QYL.map Xb)]) (Xqb (xs:=Q6L++UEA) a (b:=UL9 Qe2) (ys:=QYL.map Xb) (Yek k) (by rw[Vw,Vg,Vg,Xxx,Ybh];decide)) (QJv (pds_iff.mpr (Xbm QEA (pds_iff.mp (Xd7 Xc1)))));calc b.trans ?_;rw[<-d16,rwF,Vau,Vau];rfl
def row(k m:Nat){Q6n}{QXm}:ev (UYD) G (Qos (.cons (.frz (Q7w (.cons (UK1 (UmK)) .nil))) .nil)) Qh3 S=.ok Qcd S:=by
 let fl:=Ybi m;let a:=Xqb (F:=UYD) (env:=Qh3) (S:=S) (a:=UBE) (xs:=fst16.map Xb) rfl (b:=UmK) (ys:=QEf.map Xb) (f14 k hm) (by rw[Vg,Vg,Xl1];omega);rw[<-Vau]at a;let ne:fst16++fo3 m≠[]:=λz=>by let:=Qny z;rw[Vw,Xl1,Vfd]at this;omega
 let s:=(UQC a).trans (show _=R.ok (.ref (S++QCO).length) (S++QCO++[.lst QKX]) by
  generalize hX:S++[O.lst Q44]=X;let l1:Xo (X++[.lst QUF]) QcH=yz QUF:=Y4 ..;let l2:Xkh QK5=yz Q7K:=iP0 (by rw[Vw,Xl1];omega)
  simp[Yc,l1,Xlh ne,Xdc,l2];rw[<-hX];simp[Ug,Vf0,Ve9];rfl)
 calc(Qfw (Xlo s Qd2)).trans rfl
def Ydk{Qtk}:∃t,∀S,Xgd S QnH=yz t:=Xjw ((Yc8 b).mono QIu)
def Ybj(k m:Nat){Q6n}(hc:Xad Qcd=decide QeX)(hl:QK5.length=153+m){QXm}:pe Q0U G (UK2 1) Qh3 S=.ok (.nx Q32) S:=by
 let⟨t,ht⟩:=Ydk (decide QeX);let lr:QKX.length=153+m:=by rw[Vg,Xdt,QjN.length_eq,hl]
 let c1:=(UO5 (F:=QVr Q6f) (G:=G) (env:=Q32) (S:=S) (Xgy (e:=.call 3 Q41) ((Yh Qf4).trans (f3 k (Xju _))) (by rw[hc];calc ht S)) (Xgy (e:=UI4 QD QTR) ((UmJ (x:=UdK) (y:=.int 47) rfl rfl).trans (Xff (Xpo m 47 S))) QYg)).trans (Yaw t S);let c2:ev Q0U G Qe6 Q32 S=UXH:=by calc(UO5 (Xh0 (xs:=Q7K.map Xb) Qf4 rfl) (bi (x:=.int 153) (y:=UdK) rfl rfl Qa6)).trans ((Xem (Xpo _ _ S)).trans ?_);rw[decide_eq_true QJS];rfl
 calc(USC (row QgP m hm x0 x3 x4 x5 x6 L S)).trans ((Q9u (Qsw (y:=yw) c1 λ_=>c2) rfl).trans QpU)
def turn{Qnn}{Qgj}(j:Nat)(x1 x2 x4 x5 x6 x7:QDr){QIh}:∃e S',(∃y5 y6 y7,e=[yz QS2,x1,x2,U6J,x4,y5,y6,y7])/\pe QvI G QXO QPE S=UHE:=by
 let⟨c,hc⟩:=X0f UO8 ns j S;let⟨a,ha⟩:=X5e UO8 c S;let h1:ev QvI G (.call 8 (.cons (.call 7 Q9U) .nil)) QPE S=UMD:=by
  calc(Yh (x:=UJ9) (S1:=S) ((Xhv (a:=UF9) (b:=UYK) rfl rfl).trans ?_)).trans ?_;·rw[Yk (d:=Xds) rfl];exact hc
  ·rw[Yk (d:=t_law_pot) rfl];exact ha
 let hp:Pot QQ3 QF:=⟨a,Xat _ _⟩;let⟨n,A,d1,hn,q1⟩:=f18 (k+5) hp;let⟨ds,B,d2,hd,hl,q2⟩:=f20 (k+5) hn d1.pot;let pn:=Xju n;let ls:ev QvI G Q96 QhB A=.ok (.fro QqS) B:=by let b1:pds ds=true:=pds_iff.mpr λd L=>(hd d L).pd;calc Xgw (Xch (Yx (xs:=QuB) rfl (by rw[bdDs,Xpn];rfl)) ((Xhv QDB QCB).trans q2) |>.trans (Xll QuB ds (Yb (by rw[hl];show 1+20<=_;decide)) B)) d2.sim ?_;exact QJv (pds_iff.mpr (Xbm (Xi3 pn) (pds_iff.mp b1)))
 let sm:∀d∈QuB++ds,Qfu:=Xbm (Xi3 ((hn.rws.sm Q2).mono QIu)) hd;let⟨e',⟨y7,rfl⟩,q3⟩:=Xlq (F:=QVr (k+7)) (G:=G) (env:=QhB) (S0:=A) (S:=B) (i:=7) (it:=.val Q96) Uo6 (b:=bdy QXO 2) QqS (λe=>∃y,e=[yz QS2,x1,x2,U6J,x4,UnF,yz QE2,y]) QS9 (ond ls rfl) Qd (λd L e he=>by let⟨y,rfl⟩:=he;calc⟨_,⟨Um2,rfl⟩,(Q9u (Xcz (x:=yx) ((Yh (Xh (i:=7) rfl)).trans (f21 k (sm d L)))) rfl).trans ?_⟩;calc iN0 Ue);let e:QqS.all QS9=true:=U6.mpr λ_ _=>rfl;rw[e,iP0 rfl]at q3;calc⟨_,B,QGU,(U21 h1).trans ((UB5 ((Yh QDB).trans q1)).trans q3)⟩
def law_true(ns:LI)(hl:QbE<=63):∃S',QVr 8 22 Q0N []=Q8x S':=by
 rw[Yk (d:=d_law) rfl];let q1:=Xw (ss:=UI2 1) (i:=1) (first 6 Quc yy yy yy yy yy yy yy []);let f1:=U4B (env:=[yz QS2,yz Q3Y,yy,yy,yy,yy,yy,yy]) (t:=UAE) (it:=.val QR5) (ss:=UI2 2) (b:=UK2 1) QnR (λi e S'=>S'=[]/\∃x2 L,e=QY4)
 let⟨e1,S1,q2,rfl,x2,L,rfl⟩:=f1 (ond (Yx (xs:=QnR) rfl rfl) rfl) ⟨rfl,yy,yy,rfl⟩ (λi d e S' hd hP=>by
  let⟨rfl,x2,L,rfl⟩:=hP;let hm:=Uc hd;simp[Vv,Va6,or_false]at hm;rcases hm with rfl|rfl;·exact⟨_,_,_,rfl,Ybj 3 47 Q2 (crw47.trans Q2) (len47.trans rfl) UnA,rfl,_,_,rfl⟩
  ·calc⟨_,_,_,rfl,Ybj 3 48 Q2 (crw48.trans Q2) (len48.trans rfl) UnA,rfl,_,_,rfl⟩)
 let⟨m,hm,_⟩:=turns QEv (ns:=ns) (env:=QY4) 5 QIu rfl;let f2:=U4B (env:=QY4) (it:=.rng Qf2) (t:=UYK) (ss:=UI2 3) (b:=UK2 2)
  QFI (λi e S'=>∃x1 x2 x3 L x5 x6 x7,e=[yz QS2,x1,x2,x3,L,x5,x6,x7])
 let⟨e2,S2,q3,y1,y2,y3,y4,y5,y6,y7,rfl⟩:=f2 hm ⟨_,_,_,_,_,_,_,rfl⟩ (λi d e S' hd hP=>by let⟨x1,x2,x3,L,x5,x6,x7,rfl⟩:=hP;rw[Ur]at hd;let⟨j,_,rfl⟩:=U2H;let⟨e',S2,⟨y5,y6,y7,rfl⟩,h⟩:=turn (ns:=ns) (k:=0) j x1 x2 L x5 x6 x7 S';calc⟨_,_,S2,rfl,h,_,_,_,_,_,_,_,rfl⟩);calc⟨S2,?_⟩;show gcB yw [] (Xin (pe QNa G d_law.body QlG []))=_;let body:=q1.trans (q2.trans (q3.trans (Xaf (e:=.cst Qm0) (v:=.bl yx) rfl)));rw[show pe QNa G d_law.body QlG []=_ from body];rfl
universe K41
universe e
section
namespace K41
open PySem PySem.Spec PyProof.Rows L2 Z
set_option maxHeartbeats 0 in
def all_mk {QWh}{QSi}{Qli}{fa:Addr}{t0 t1 t2:Tok}{QBo}(ab:mg "law"=U2J)
  (er:Xzm K=yx) (bl:X99 K=yx) (lm:Xe0 K "_law_first_ones"=yx) (g0:UuG "GREATEST_IN_BAG"=yz (yz (.int 15 t0))) (g1:UuG "GREATEST_BAG"=yz (yz (UeK t1))) (g2:UuG "MOST_BAGS"=yz (yz (UxH t2)))
  (f0:QKr "is_whole" (top 19)) (f1:QKr "is_whole_within" (top 20)) (f2:QKr "is_rising" (top 21)) (f3:QKr "is_crowd" (top 26)) (f4:QKr "crowd_counts" (top 27)) (f5:QKr "is_bag" (top 28)) (f6:QKr "lacks_none" (top 29)) (f7:QKr "_law_cell_at" (top 31)) (f8:QKr "_law_pot" (top 32)) (f9:QKr "_law_take" (top 33)) (ah:QKr "_law_whole" (top 34)) (ae:QKr "_law_word" (top 35)) (aj:QKr "_law_ways" (top 36)) (ag:QKr "_law_choices" (top 37)) (f14:QKr "_law_first_ones" (top 38)) (f15:QKr "_law_less_one" (top 39)) (ai:QKr "_law_is_bag" (top 40)) (f17:QKr "_law_is_crowd" (top 41)) (f18:QKr "_law_crowd" (top 42)) (af:QKr "_law_said" (top 43)) (f20:QKr "_law_bent" (top 44)) (f21:QKr "_law_right" (top 45)) (aa:QKr "law" (top 46)):
  ∃fd:Vdv,(∀(s:Vc) (u:Vb),Qcu QA7 [("_law_script",u)])/\∀base:Heap,Qzv->QIQ->UkH QbH 8 fa fd ["_law_script"] (UrB 1 (QVr 8 22)):=by
 let ac:=X4a er;let ak:=X42 X L bl;let hg:∀(k:Nat) nm,gns[k]?=UkF->∃u d,mg nm=QIt/\G[k]?=Um2/\∀ ρ H,∃v,QNr/\RD QFs:=λk nm e=>by
  match k,e with
  |0,e=>cases e;calc Xlc X L g0|1,e=>cases e;calc Xlc X L g1|2,e=>cases e;exact Xlc X L g2|k+3,e=>cases e
 let hD:UE9 fns T:=AllD.c (Qis f0 Xuo Xb2) <| AllD.c (Qis f1 Xh4 Xz8) <| AllD.c (Qis f2 Xqo Xb2) <| AllD.c (Qis f3 Xup Xb2) <| AllD.c (Qis f4 Xly Xb2) <| AllD.c (Qis f5 X0v Xb2) <| AllD.c (Qis f6 Xp7 Xb2) <| AllD.c (Qis f7 Xlz Xt2) <| AllD.c (Qis f8 Xuq Xb2) <| AllD.c (Qis f9 Xqp Xt2) <| AllD.c (Qis ah Xp8 Xb2) <| AllD.c (Qis ae Xqq Xb2) <| AllD.c (Qis aj Xqr Xt2) <| AllD.c (Qis ag Xl0 Xz8) <| AllD.c (Qis f14 Xh5 Xz8 (Yc3 lm Q8)) <| AllD.c (Qis f15 Xj9 Xb2) <| AllD.c (Qis ai Xmw Xb2) <| AllD.c (Qis f17 Xka Xb2) <| AllD.c (Qis f18 Xp9 Xb2) <| AllD.c (Qis af Xqs Xb2) <| AllD.c (Qis f20 Xqt Xt2) <| AllD.c (Qis f21 Xqa Xb2) <| AllD.c (Qis aa Xur Xb2) <| True.intro
 calc law_fn (k:=7) (d:=d_law) (st:=top 46) (N:=X2b) X L ab ac ak hg hD.get rfl aa (ms Xur) (mm Xur) rfl rfl Xb2
abbrev kept:LM:=[top 1,top 2,top 3,top 4,top 5,top 6,top 7,top 8,top 9,top 10,top 11,top 12,top 13,top 14,top 15,top 16,top 17,top 19,top 20,top 21,top 23,top 24,top 25,top 26,top 27,top 28,top 29,top 31,top 32,top 33,top 34,top 35,top 36,top 37,top 38,top 39,top 40,top 41,top 42,top 43,top 44,top 45,top 46]
abbrev Q:Vz:={ PySem.Challenge.pw_facecounts_k41_crowds_looked_at with main:={ PySem.Challenge.pw_facecounts_k41_crowds_looked_at.main with body:=kept} }
universe K41
end
end
open PySem PySem.W PyProof.Rows
noncomputable def PySem.W.Fast.tw5680865928580693612:PySem.Program:=PySem.Challenge.pw_facecounts_k41_crowds_looked_at
theorem PySem.W.Fast.te5680865928580693612:PySem.Challenge.pw_facecounts_k41_crowds_looked_at=PySem.W.Fast.tw5680865928580693612:=rfl
lay_quick Z.topT PySem.W.topStub
set_option maxRecDepth 100000 in
set_option maxHeartbeats 0 in
theorem K41.st_ok:Z.RunT PySem.Challenge.pw_facecounts_k41_crowds_looked_at (λw s=>staticsOk (Vb4 PySem.Challenge.pw_facecounts_k41_crowds_looked_at.main.body) (boot_heap w.params) s.abs.heap&&namesBound PySem.Challenge.pw_facecounts_k41_crowds_looked_at s.abs.heap&&gensDone s.abs&&laidKept (boot_heap w.params) s.abs.heap) λ_=>true:=by intro w os;rw[Fast.te15842407815417585275,Fast.te2530740449226627131,Fast.te14364793385576792824];kernel_rfl
set_option maxRecDepth 100000 in
set_option maxHeartbeats 0 in
theorem K41.two{β γ:Type}{p:Vz}{g:V7->SharedT->β×γ}{r:V7->β×γ}(a:Z.RunT p (λw s=>(g w s).1) λw=>(r w).1)(b:Z.RunT p (λw s=>(g w s).2) λw=>(r w).2):Z.RunT p g r:=λw os=>by obtain⟨s,h,x⟩:=Up.mp (a w os);have y:=b w os;rw[h]at y ⊢;exact congrArg yz (Prod.ext x (Um y))
set_option maxRecDepth 100000 in
set_option maxHeartbeats 0 in
theorem K41.see1:Z.RunT PySem.Challenge.pw_facecounts_k41_crowds_looked_at (λ_ s=>(openSeen K41.Q [] (Vb4 PySem.Challenge.pw_facecounts_k41_crowds_looked_at.main.body) (λs=>xlAt K41.Q [] s&&recOk [] s) yx s.abs).1) λ_=>(openGood K41.Q []).1:=by intro w os;unfold K41.Q K41.kept K41.top;rw[Fast.te4187177175401517315,Fast.te15842407815417585275,Fast.te2530740449226627131,Fast.te14364793385576792824];dsimp only[Fast.tw4187177175401517315,openGood];kernel_rfl
set_option maxRecDepth 100000 in
set_option maxHeartbeats 0 in
theorem K41.see2:Z.RunT PySem.Challenge.pw_facecounts_k41_crowds_looked_at (λ_ s=>(openSeen K41.Q [] (Vb4 PySem.Challenge.pw_facecounts_k41_crowds_looked_at.main.body) (λs=>xlAt K41.Q [] s&&recOk [] s) yx s.abs).2.1) λ_=>(openGood K41.Q []).2.1:=by intro w os;unfold K41.Q K41.kept K41.top;rw[Fast.te4187177175401517315,Fast.te15842407815417585275,Fast.te2530740449226627131,Fast.te14364793385576792824];dsimp only[Fast.tw4187177175401517315,openGood];kernel_rfl
set_option maxRecDepth 100000 in
set_option maxHeartbeats 0 in
theorem K41.see3:Z.RunT PySem.Challenge.pw_facecounts_k41_crowds_looked_at (λ_ s=>(openSeen K41.Q [] (Vb4 PySem.Challenge.pw_facecounts_k41_crowds_looked_at.main.body) (λs=>xlAt K41.Q [] s&&recOk [] s) yx s.abs).2.2.1) λ_=>(openGood K41.Q []).2.2.1:=by intro w os;unfold K41.Q K41.kept K41.top;rw[Fast.te4187177175401517315,Fast.te15842407815417585275,Fast.te2530740449226627131,Fast.te14364793385576792824];dsimp only[Fast.tw4187177175401517315,openGood];kernel_rfl
set_option maxRecDepth 100000 in
set_option maxHeartbeats 0 in
theorem K41.see4:Z.RunT PySem.Challenge.pw_facecounts_k41_crowds_looked_at (λ_ s=>(openSeen K41.Q [] (Vb4 PySem.Challenge.pw_facecounts_k41_crowds_looked_at.main.body) (λs=>xlAt K41.Q [] s&&recOk [] s) yx s.abs).2.2.2.1) λ_=>(openGood K41.Q []).2.2.2.1:=by intro w os;unfold K41.Q K41.kept K41.top;rw[Fast.te4187177175401517315,Fast.te15842407815417585275,Fast.te2530740449226627131,Fast.te14364793385576792824];dsimp only[Fast.tw4187177175401517315,openGood];kernel_rfl
set_option maxRecDepth 100000 in
set_option maxHeartbeats 0 in
theorem K41.see5:Z.RunT PySem.Challenge.pw_facecounts_k41_crowds_looked_at (λ_ s=>(openSeen K41.Q [] (Vb4 PySem.Challenge.pw_facecounts_k41_crowds_looked_at.main.body) (λs=>xlAt K41.Q [] s&&recOk [] s) yx s.abs).2.2.2.2) λ_=>(openGood K41.Q []).2.2.2.2:=by intro w os;unfold K41.Q K41.kept K41.top;rw[Fast.te4187177175401517315,Fast.te15842407815417585275,Fast.te2530740449226627131,Fast.te14364793385576792824];dsimp only[Fast.tw4187177175401517315,openGood];kernel_rfl
theorem K41.seen_ok:Z.RunT PySem.Challenge.pw_facecounts_k41_crowds_looked_at (λ_ s=>openSeen K41.Q [] (Vb4 PySem.Challenge.pw_facecounts_k41_crowds_looked_at.main.body) (λs=>xlAt K41.Q [] s&&recOk [] s) yx s.abs) λ_=>openGood K41.Q []:=by exact K41.two K41.see1 (K41.two K41.see2 (K41.two K41.see3 (K41.two K41.see4 K41.see5)))
local macro_rules | `(tactic| o_head $H)=>`(tactic|
 refine holds_open (q:=K41.Q) (loose:=[]) (Xt:=λs=>xlAt K41.Q [] s&&recOk [] s)
  (XP:=XL K41.Q []) (Yf:=Hook.obs $H) (Ya:=Hook.val $H)
  (YP:=Hook.says $H) (N:=40000) ?hl (Hook.of $H) (Hook.keeps $H)
  (λs e=>xl_of s (Bool.and_eq_true_iff.mp e).1) XL.keeps
  (by rfl) (by rfl) (by rfl)
  (λs e=>recFacts_of (Bool.and_eq_true_iff.mp e).2)
  (by rfl) (by first|assumption|decide+kernel) (by decide+kernel)
  ⟨rfl,rfl,rfl,rfl,rfl,by decide+kernel⟩ ?hw ?hc)
set_option maxRecDepth 100000 in
set_option maxHeartbeats 0 in
theorem PySem.Challenge.cw_facecounts_k41_crowds_looked_at_holds : PySem.Challenge.rw_facecounts_k41_crowds_looked_at.Holds := by
 w_on;o_law;x_head
 (case hl =>
  refine Z.left_tree3 (p:=PySem.Challenge.pw_facecounts_k41_crowds_looked_at) (by kernel_rfl) (λs=>by kernel_rfl) K41.st_ok K41.seen_ok ?_
  intro w os;dsimp only[kHook];rw[Fast.te15842407815417585275,Fast.te2530740449226627131,Fast.te14364793385576792824]
  kernel_rfl)
 (case hw=>w_witness2)
 k_fill
 refine Z.walk_zT [309] (l:=PySem.Challenge.rw_facecounts_k41_crowds_looked_at) (T:=K41.T) (G:=K41.G) (k:=8) (f:=22) (x:="_law_script") rfl rfl ⟨rfl,rfl,by decide,by decide⟩ (λw h Y=>kIn_of Y) (λw=>by kernel_rfl) (λw=>by kernel_rfl) ?F K41.law_true
 case F =>
  as_aux_lemma =>
   intro w mg fa h hb KX G hmg;refine' K41.all_mk KX G hmg ?er ?bl ?lm ?g0 ?g1 ?g2 ..
   (case g0=>refine Z.ns_dr hb ?_;k_is)
   (case g1=>refine Z.ns_dr hb ?_;k_is)
   (case g2=>refine Z.ns_dr hb ?_;k_is)
   (case er=>kernel_rfl)
   (case bl=>kernel_rfl)
   (case lm=>kernel_rfl)
   all_goals (refine Z.fun_dr hb ?_;refine' Z.funAt_mk ?a ?l ?c ?k;(case a=>k_is);(case l=>k_is);(case c=>k_is);(case k=>k_is))
end
