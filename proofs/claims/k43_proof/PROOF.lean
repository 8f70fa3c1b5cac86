import PyProof.Rows.All
import Wide.All
import OpenK.AllK
import Wide.FinOn
import Lean
import PyProof.EqAt
import PyProof.EqKinds
import PyProof.TupleCall
import PySem.Challenge.RW_facecounts_k43_first_nets
set_option Elab.async false
set_option linter.all false
set_option maxRecDepth 100000
set_option exponentiation.threshold 3000
set_option genSizeOf false
set_option bootstrap.genMatcherCode false
set_option compiler.extract_closed false
set_option genSizeOfSpec false
universe u
open List renaming length→ll
open Option renaming some→yz,none→yy
open Bool renaming true→yx,false→yw
open PySem renaming wpAny_bind→Va,Value→Vb,Shared→Vc,wpAny_pure→Vf,wpAny→Vh,model→Vk,wpAny_mono→Vp,sizeLine→V3,Program→Ue,starEach→Ui,mainGlobals→Um,World→Uy,Scope→U1,Around→U7,wpAny_holding→Vak,wpAny_isNot_plain→Vam,wpAny_field→Var,wpAny_call_entry→Va0,wpAny_rule→Vba,compareOp→Vbc,cLine→Vbh,Env→Vbk,assignEach→Vbn,wpAny_newObj_type→Vbo,Comprehension→Vbp,backTo→Vbs,Builtin→Vbt,cellsFrom→Vbw,wpAny_Call_Name_kw→Vbx,wpAny_callSpecial?_slot→Vbz,sysModules→Vb0,wpAny_truthy_bool→Vb7,foldedSetIterable→Vb8,wpAny_typeOf→Vci,wpAny_loadPart'→Vcv,mem_of_lookup→Vcx,rawInt→Vcy,sizeLine_eq→Vcz,wpAny_setField_rec→Vc7,PyData→Vdd,codeAny→Vdh,binaryOp→Vds,entryOfKey→Vdw,sliceBounds→Vdx,Keyword→Vdz,codeAny_builtin→Vd3,FuncData→Vd5,wpAny_standAt→Veb,swapsWithSole→Ved,swappedStores→Vee,call_meets→Vei,bootBuiltins→Veo,behindInMarks→Vex,letOwnedTupleGo→Vez,Arguments→Ve2,importedModules→Vfb,NameKind→Vfd,wpAny_dictEntries→Vfl,IsPart→Vfm,builtinLookup_eq_fast→Vfs,bindArgs→Vf0,wpAny_attempt→Vga,holding→Vge,codeAny_mono→Vgm,wpAny_tupleItemsOf→Vgo,swapsWith→Vgs,tupleKind_room_in1→Vgu,builtinsNs→Vgy,wpAny_pyIter_list→Vha,keywordEach→Vhd,wpAny_newList→Vhl,wpAny_eqBool_int→Vho,wpAny_isInstance→Vhq,wpAny_forIn_list→Vhr,tupleKind→Vhu,typeLookup_type→Vh3,wpAny_execs_nil→Vh4,wpAny_updateSeq→Vh6,wpAny_specialOf→Vh7,wpAny_Assign_stores→Vih,recursionLimit→Vii,wpAny_seqItems→Vim,wpAny_richCompare_same_room→Vit,wpAny_pyIter_tuple→Viv,wpAny_newFunctionEnv_cells→Viz,wpAny_assign_Name→Vi1,wpAny_sequenceKey→Vi2,wpAny_binaryOp_repeat_ref→Vi7,wpAny_comprehension_free→Vjc,wpAny_getItem_list_slice→Vji
open List renaming getElem?_eq_some_iff→Vd,length_map→Vg,replicate→Vj,range→Vl,size_toArray→Vo,append_assoc→Vq,append_nil→Vu,getElem?_append_left→Vv,getElem?_map→Vx,mem_cons→V0,length_append→V4,mem_singleton→V6,mem_append→V9,map_cons→Ua,mem_map→Uc,getElem?_eq_getElem→Ug,getD_eq_getElem?_getD→Uj,length→Uk,mem_append_right→Ul,map→Ur,length_range→Ut,mem_cons_self→Uv,nil_append→Uw,length_cons→Ux,getElem?_append_right→Uz,mem_of_getElem?→U0,mem_cons_of_mem→U2,take_append_drop→U3,getElem?_eq_none_iff→U4,length_take→U9,pairwise_append→Vaa,mem_of_mem_take→Vab,map_map→Vae,not_mem_nil→Vaf,all_eq_true→Vag,getElem?_range→Vai,take_of_length_le→Vaj,lookup_cons→Val,mem_append_left→Vao,getElem?_set_ne→Vap,filterMap_cons→Vat,map_append→Vav,cons_append→Vaw,set→Vax,replicate_succ→Vay,isEmpty_iff→Va1,flatten_cons→Va3,mem_of_mem_drop→Va5,mem_range→Va6,take_append_of_le_length→Vbl,flatMap_append→Vbm,map_nil→Vbq,reverse→Vbr,foldl_cons→Vbv,take_length→Vb2,all_cons→Vb4,getElem?_set_self→Vb5,drop_of_length_le→Vb6,reverse_append→Vb9,extract_eq_drop_take→Vca,length_nil→Vcd,range_succ_eq_map→Vc1,length_drop→Vc2,mem_reverse→Vc3,getElem_mem→Vc4,drop_drop→Vc5,mem_iff_getElem→Vde,pairwise_map→Vdj,getElem?_replicate→Vdn,pairwise_singleton→Vdo,length_eq_zero_iff→Vdp,getElem?_eq_none→Vd2,range_succ→Vd4,nodup_append→Veg,take_zero→Ven,take_succ_eq_append_getElem→Veq,mem_filterMap→Ve0,nodup_cons→Ve1,pairwise_cons→Ve9,flatMap_singleton→Vfh,length_singleton→Vfn,mem_iff_getElem?→Vfp,take_take→Vfq,set_append_right→Vfr,set_getElem_self→Vfx,ext_getElem→Vf5,map_take→Vgc,map_congr_left→Vgg,getElem?_drop→Vgn,zip_cons_cons→Vgp,getElem_range→Vgw,map_singleton→Vgx,nodup_nil→Vg2,take_succ→Vg3,reverse_perm→Vg9,findIdx?_eq_some_iff_getElem→Vhe,filter_eq_nil_iff→Vhf,any_cons→Vhi,any_eq_true→Vhs,length_replicate→Vhv,pairwise_reverse→Vhw,getElem?_toArray→Vhx,foldl→Vh0,forIn_cons→Vh5,filter_map→Vh9,mem_of_getLast?→Vic,eq_nil_of_length_eq_zero→Vid,drop_append_of_le_length→Vie,drop_take→Vij,filterMap_map→Vip,getElem?_take→Vir,drop_eq_getElem_cons→Vi8,pairwise_iff_getElem→Vi9
open PySem.W renaming Frag→Ve,nsIn→Vac,hideAll_none→Vb1,fnOf→Vck,hideAll→Vcu,mg_of→Vdl,keepIn→Vdt,hideAll_get→Veu,cellsFrom_some→Vfe,findIn→Vfw,of_hideAll→Vgk,callWith_K→Vgr,codeIn→Vg0,kitOne→Vg4,methodObj→Vi0
open Nat renaming le_refl→Vi,le_trans→V2,zero_le→Ub,lt_of_lt_of_le→Uh,ne_of_lt→Uq,sub_self→Vad,add_sub_cancel_left→Vas,zero_add→Va4,min_eq_left→Va7,add_zero→Vbj,lt_of_le_of_lt→Vcl,lt_succ_self→Vcm,lt_irrefl→Vcp,exists_eq_add_of_le→Vcs,le_of_lt→Vc9,lt_succ_of_lt→Vdi,ne_of_gt→Vep,le_add_right→Ver,zero_mul→Vet,add_sub_cancel→Ve3,le_succ→Vff,lt_of_succ_lt→Vfk,mul_comm→Vfo,min_eq_right→Vf1,add_assoc→Vf9,mul_assoc→Vgd,lt_of_add_lt_add_left→Vgi,min_le_right→Vhp,sub_le→Vhz,sub_zero→Via
open PySem.Heap renaming get?_push_of_some→Vm,get?_push_size→Vw,lt_size→Vy,SameBut→Va2,get?_update_self→Vbb,get?_update_other→Vc0,get?_update_ne→Vdq,size_push→Vfu,get?_none_of_le→Vhy
open PyProof.Rows renaming Keyed→Vn,arrOf→Vs,wpS_bind→Vt,wpS_pure→Vz,SortSt→V8,seqObj→Uf,pendingOf→Uu,kindOf→Vaq,wpS_forRange→Va9,callWith_type1→Vbd,slot_tuple_getitem→Vbg,IntsAre→Vbi,failedOf→Vct,IsTup→Vc8,wpS_mono→Vdb,callWith_builtin1→Vdf,SortKind→Vdu,elem'→Vdy,listUpdate_at→Vec,spliced_more→Vel,spliced_none→Vem,listItems_at→Ves,get?_update_seq→Ve8,subscriptTail→Vf8,wpS_modify→Vg1,reverseSlice'→Vhh,entry_tuple_getitem→Vif,assignInOrder_cons→Vio,args_tuple_getitem→Viq
open Option.some renaming injEq→Vr,inj→U6
open Option renaming bind_some→V1,map_some→V7,map_eq_some_iff→Ud,bind_eq_some_iff→Van,isSome_some→Vby,isSome_iff_exists→Vch,getD_some→Vcn,isNone_iff_eq_none→Vjb
open PySem.Obj renaming mapSeq→V5,data_mapDictKeys→Vf4,isFreed_of_dict→Vig
open Bool renaming false_eq_true→Uo,false_ne_true→U5,not_eq_true'→Vbf,not_true→Vb3,or_eq_true→Vcb,and_self→Vdm,false_and→Vdr,not_false→Vdv,true_and→Vef,or_false→Vey,eq_iff_iff→Ve7,or_eq_false_iff→Vf6,and_false→Vgz,false_or→Vhm
open Int renaming toNat_natCast→Us,natCast_mul→Ve5,emod_lt_of_pos→Vfc,emod_nonneg→Vgj,le_refl→Vhg,natCast_add→Vib
open Array renaming length_toList→U8,toList_append→Vah,getElem?_toList→Vcf,toList_extract→Vdc,perm_iff_toList_perm→Vd7,getElem?_eq_some_iff→Vd9,toList_reverse→Vej,toList_push→Vfi,getD_eq_getD_getElem?→Vfy,getElem_toList→Vf2,toList_inj→Vht,toList_setIfInBounds→Vix
open PySem.Str renaming ofString→Vau,length_append→Vi4
open PySem.Heap.SameBut renaming update→Vaz,refl→Vhb
open PySem.PyData renaming showable→Va8,depth→Vbu,int→Vce,showableAll→Vco,depthAll→Vcw,shownAll→Vdg,eqv→Ve4,shown→Vfv,canLay0→Vg5,eqvAll→Vhn,canLayAll0→Vi5
open PySem.Builtin.List renaming listExtendWith→Vbe,listTooLong→Vda,listSameRef→Vjg
open PySem.Builtin.SmallTypes renaming nextOf→Vcc,ownedTupleIsFree→Vd1,ownedTupleHandOut→Vgt
open PySem.Value renaming ref→Vcg,none→Vcq,type→Vcr,bool→Vfz,builtin→Vhk
open PySem.Builtin.Tuple renaming tupleExact→Vcj,tupleItemsOf→Vf7,tupleTooMany→Viy
open PySem.Calls renaming spliced_cons→Vc6,evalArgs_plain→Vek,callWith_builtin→Vfg,spliced_nil→Vfj,Name_function_global→Viw
open PySem.Paired renaming length→Vdk
open ForInStep renaming yield→Vd0
open PySem.Builtin.Slice renaming sliceApplied→Vd6,slicePlaces→Veh,sliceAdjust→Vgh,sliceFields→Vi6
open Prod.mk renaming injEq→Vd8
open PySem.F renaming slot_tuple_iterator_next→Vea,slot_enumerate_next→Vft,plain_extend_loop→Vgf,args_tuple_add_2→Vgl,slot_dict_update→Vgv,entry_tuple_add→Vg7,slot_list_index→Vg8,slot_tuple_add→Vhc,slot_tuple_lt→Vh2,args_tuple_iterator_next_1→Vil,entry_tuple_iterator_next→Viu,args_list_index_2→Vja,entry_list_index→Vjf,type_dict_update→Vjh
open PySem.Builtin.Range renaming rangeSize→Vev
open PySem.Builtin.Dict renaming updateFrom→Vew,quietEq→Vh8,entriesForEmpty→Vin,addKeywords→Vjd,selfAndRest→Vje
open False renaming elim→Ve6
open PySem.Heap.IsSliceOf renaming new→Vfa
open PySem.Around renaming under_plainId→Vf3
open Function renaming comp→Vgb
open PySem.AutoSeq1 renaming sub_tuple_tuple→Vgq
open PySem.W.Fast renaming te14364793385576792824→Vg6
open PySem.NameKind renaming free→Vhj
open PyProof.Rows.SortSt renaming mk'→Vh1
open List.Perm renaming refl→Vik
open List.Pairwise renaming nil→Vi3
abbrev LV:=List PySem.Value
abbrev LS:=List PySem.Str
abbrev LX:=List PySem.Expr
abbrev LM:=List PySem.Stmt
abbrev LF:=List (PySem.Str×Nat×Bool)
abbrev LN:=List Nat
abbrev AV:=Array PySem.Value
abbrev OV:=Option PySem.Value
abbrev LL:=List (List Int)
abbrev LI:=List Int
abbrev LA:=List (PySem.Addr×PySem.Obj)
abbrev LR:=List PySem.Addr
abbrev VP:=PySem.Value->PySem.Shared->Prop
set_option hygiene false
section
local macro_rules|`(tactic|omega)=>`(tactic|first|lia|omega+splitNatSub)
open Lean in
local macro_rules|`(mutual $c* end)=>do
 let k:=c[0]!.raw
 unless k.isOfKind ``Parser.Command.check do Macro.throwUnsupported
 let f(t:Array Syntax)(s:Syntax):Syntax:=s.rewriteBottomUp fun s=>match s with
  |.ident _ w n p=>let s:=.ident .none w n p;match n.components with
   |.str .anonymous x::r=>match x.toList with
    |'Q'::a::b=>if a<'0' then s else match t[a.toNat-48+(b.headD '/').toNat*75-3525]?,r with
     |.some e,[]=>e
     |.some e,[y]=>.node .none ``Parser.Term.proj #[e,.atom .none ".",mkIdent y]
     |_,_=>s
    |_=>s
   |_=>s
  |.atom _ v=>.atom .none v
  |_=>s
 let t:=k[1][1].getSepArgs.foldl (fun t e=>t.push (f t e)) #[]
 pure (mkNullNode ((c.raw.drop 1).map fun s=>if s.isOfKind ``Parser.Command.universe then .node .none ``Parser.Command.end #[.atom .none "end",mkNullNode (if s[1][0].getId==`e then #[] else #[s[1][0],mkNullNode])] else f t s))
mutual
#check[by omega,Vs st,(by simpa using q),Vk prog w,{cls:=.type "range",data:=.fields #[.int lo t,.int hi u,.int 1 v]},{cls:=.type "list",data:=.seq its.toArray n},k+(d+1),Vk X.prog X.w,(items.toList.drop (sIx items.size 0 lo)).take (sIx items.size items.size hi-sIx items.size 0 lo),sIx items.size items.size hi-sIx items.size 0 lo,0,0,0,0,0,0,0,ll xs,by simp,envOfC qual scope s.heap.objs.size f cd,d+1,LeK R,⟨rfl,I.turned (t':=s.toks) (λb o hb e=>eb b o hb e) f0 f1 f3 f4 f5⟩,.inl rfl,⟨ok.mod,ok.kind,ok.glob,ok.blt,ok.above,ok.inj,ok.has,ok.cab,ok.hd,ok.frames,ok.stk,ok.exf,ok.bs,ok.bsz,ok.noex,ok.exfs,ok.funs,ok.frf⟩,wpS_lift (Vba ⟨rfl,?_⟩),.ref (ll S),ev a env S,["enumerate","zip","dict_itemiterator","dict_reverseitemiterator","odict_iterator","itertools.zip_longest","itertools.pairwise"],kat xs (q+i),Vs L,Vi _,∀x c,X.env.cells.lookup x=yz c->c≠b,(by simpa using q2),by decide,Vck x qual (Xay st) (Yh st) (Xu st) .none kV aa pm an L ct,(λx q y hy=>by rw[Vej,Vc3,Vdc,Vca]at q;obtain⟨m,L,m2,m3,e⟩:=Xcw q;exact hx x ⟨m,L,by omega,e⟩ y (Vc3.mp hy)),(by rw[hg.kind];exact hk),{s with heap:=h' },λa x=>a.setIfInBounds (p+k+x.2) x.1,evs es env S,(Vs st).toList.drop p,⟨λb o e n hb hx=>?_,λb o e n hb hx=>?_,I.base.free,λb o e hx=>?_,I.base.tups,I.base.frzs,I.base.tbls⟩,0,0,0,0,0,0,Nat×Nat×Nat,⟨hg,.inl ⟨_,rfl,h'.lst hl q⟩⟩,b∈X.ex\/X.s₀.heap.objs.size<=b,(λz st' ⟨h1,h2,h3⟩=>⟨h1,.inr ⟨h2,by rw[show N+min (max 0 t) 1=N+1 by omega]at h3;exact h3⟩⟩),{s with heap:=h',toks:=t' },(Vs st).toList.drop (p+Q6),Yj Q0 ?_,.lst xs,(by simp only[Vo]<;>omega),a.toList.drop i,hs.2 b (Uq (Uh (Vy e) (I.ok.cab x c ac hc))),Array Vn,ev F G e env S,.done (yy,z.2),Xsl hO hA QU (ma _ (Yg Q0)) Q0 mb (λx y _ h1 h2=>Xer sb h1 Q0) Q0 λm hm a1 a2=>?_,S++[.lst (r.map λk=>.tup (k.map D.int))],r.toList.zipIdx.foldl QW Q1,λ_=>rfl,o++a.extract i (i+k),Option Nat,kat a i,kat a (i-1),setPending s (((Uu s).setIfInBounds i (p,n+m,v)).eraseIdxIfInBounds (i+1)),o.push x++(b.extract k (j-1)).reverse,p+k,o.push x,j-1,⟨h1,h2,h3⟩,wpS_get ?_,Yg Q0,(yy,()),hs.2 b (Uq (Uh (Vy e) I.ok.above)),Xc S n,p+Q6,Option Unit×Nat,.frz o u,0,0,0,0,0,0,0,.ref s.heap.objs.size,⟨rfl,u,v,rfl,c1,c3,c4,.inl Q0⟩,((sIx items.size 0 lo:Nat):Int)==0&&(1:Int)==1&&Q9==items.size,(yy,y.2.1,y.2.2.1,y.2.2.2.1,z.2.2.2.2+1,y.2.2.2.2.1,y.2.2.2.2.2),i-1,b.toList.drop j,I.ok.hd hc,((sIx n 0 lo:Nat):Int),Vf ⟨_,rfl,Vf h⟩,a.size-1,λz st'=>Glp st0 st'/\∃r,z.1=yz r/\Srt QE W r.toList,⟨.int (ll ys),H,I.tok _,⟨s.toks+1,by rw[Vo,L]⟩,q⟩,Xse CX P w K mg base N qual scope f cd A outer s H E,.done (yz (Xb7 a b Qz i (j+1)),o.push x,i,j+1,g,c,d),λ_=>bind_congr λ_=>bind_congr λ_=>Xv rfl λz=>?_,(unsupported "internal:list.sort.merge-bound" : Sem Ql),o++(a.extract k i).reverse,(yy,z.2.1.push y,z.2.2.1,z.2.2.2.1+1,0,z.2.2.2.2.2+1),(yy,z.2.1.push x,z.2.2.1+1,z.2.2.2.1,z.2.2.2.2.1+1,0),Q1.extract Qy Q70,I.base.keep b o e n hb hx,.yield (yy,x.2.1,x.2.2.1,x.2.2.2.1,x.2.2.2.2.1+1),.tup xs,.done (yz yy,z.2),.done (yz r,x.2.1,x.2.2.1,x.2.2.2.1,x.2.2.2.2.1),[.int i,.int j],0,0,0,0,0,0,(by clear c4;omega),⟨rfl,v,2*v+1,rfl,by omega,by omega,by omega,e⟩,.done (yz r,y.2.1,y.2.2.1,y.2.2.2.1,z.2.2.2.2),(λx q y L=>by rw[V6.mp q];exact hx y (Vc3.mp L)),mirror Q1 i j ((j-i)/2),kat QN (p+i),Q1.extract Q70 (p+Q6+L),EP X pc σ Q,⟨rfl,u,v,rfl,c1,c3,c4,.inr ⟨by omega,e⟩⟩,(by simpa using c),⟨rfl,0,1,rfl,by omega,by omega,by omega,e0⟩,x==("__debug__" : Str),a.toList.take i,I.base.free b o e n hx,(p,w)::P.zip vs,(Vs st).toList.drop Qy,{s with heap:=h',gens:=g',drawn:=d',toks:=t' },{cls:=.type "list",data:=.seq its'.toArray L },(by rw[I.ok.glob];exact I.mod.glob.keeps I.bk),upd H a o,kat b Q00,Xfd hA ma g1 Q0 Q0 ?_,Xgh λae ab=>Vz ⟨aa.trans ab,rfl,h5⟩,⟨_,rfl⟩,⟨_,e,rfl⟩,⟨hg,.inl ⟨_,rfl,h'.fin (.inr Q0)⟩⟩,⟨h1,h0,h2,h⟩,λz st' Q10=>⟨h1,.inr ⟨h2,h3⟩⟩,⟨hg,.inl ⟨_,rfl,h'.fin (.inl q)⟩⟩,⟨h',by omega,by omega,j1,hj,by omega⟩,{cls:=.type "list",data:=.seq vs.toArray},λh' c' kp e=>fin its L hz h' c' kp e,ev e env S,Uu st,Qf.take (L+e),I.ok.bs b o e,0,0,0,0,0,0,0,1048576,(λx q y L=>by rw[V6.mp q];exact hx y L),(λz=>L (by simp[z])),p+n,{s with heap:=s.heap.push Q4,toks:=tk},⟨o,e,λv z=>by rw[d]at z;cases z⟩,v+(n:Int),ps.zip us,o.push x++b.extract (j+1) (j+1+k),(by rw[hB.sz];omega),Xul hO hA ma mb sa sb hl h1 hk h3,Xui hO hA ma mb sa sb hl h1 hk h3,LpQ R W a b N st0,LI×D,HpQ R W a b N st0,.lst (xs.set j v),(i:Int)+(m:Int)*1,⟨hg,rfl,h⟩,⟨H,I.tok _,by rw[Xiw r];exact q⟩,∀i,i<l->LeK R Qf0 (kat QN Qy),λb o hb e=>(sb.2 b hb).trans e,kat b j,(by simpa using hi),ac b o e hx,.ref it,.ref f,0,0,0,0,0,0,.nx env,.int i,.Name x pos,∃r,z=yz r/\Srt QE W r.toList,kat (mirror a i j ((j-i)/2)) k,SqL X.K H p ys\/SqT X.K H p ys,σ.set i (yz v),λx1 x2=>x1++x2,hm b _ q λz=>z,bubble (Vs aa) Qy (p+k-(p+l)),Q71.setIfInBounds i (p,n+m,v),Option D,.bool yx,((0:Nat):Int),λz hz=>?_,(yy,z.2.1,z.2.2.1,z.2.2.2.1,0,0),ev b env S,Vs s,Uu s,QY.take Q6,⟨hg,.inr ⟨rfl,jj _ QO⟩⟩,⟨h1,h2,h3,h4⟩,λx y _ h1 h2=>Xer sa h1 Q0,kat QN (p+x-1),hQ _ _ .refl (j1.lst hl q2),Vdx lo hi yy n,.yield (yy,z.2.2,2*z.2.2+1),.int (if j>i then j else i),.int (if j<i then j else i),⟨hg,.inr ⟨rfl,L _ QO⟩⟩,mirror Q1 p Qy ((p+k-p)/2),Vk P w,λe p=>e.set p.1 (yz p.2),(by rw[hk];exact⟨_,I',q⟩),Ve1.mp nd,Uu z,0,0,0,0,0,0,0,QY.take Q6++Qf.take (L+e),I.freeC x c e,.lst ys,.done (yz yy,z.2.1,z.2.2),λkvs p=>Yk kvs p.1 p.2,rule "list.sort.gallop",kat QN (p+x),(by simp;omega),Vbn es X.env,(Sum.inr a:Key),(Sum.inl a:Key),S.set n (.lst (xs++ys)),⟨rfl,l,l,rfl,a2,a4,a5⟩,{s with heap:=h',toks:=tk},∀b∈fp,Xaj X pc H b,o.push _,ma _ Q30,(by rw[hj];simpa using ew),X.wish E,Uu L,⟨hg,.inr ⟨rfl,L⟩⟩,z.2.2-z.2.1,(yy,o.push x,i+1,j,g,c,d),(yy,i-1,j,o.push x,g,c,d),(yy,i-1,j,o.push x,c+1,0),(yy,i,j-1,o.push x,0,d+1),0,0,0,0,0,0,j+1,i+1,Xj q L,Xfd hA ma hB Q0 Q0 ?_,LI×Addr×V,.yield (yy,z.2.1+1,0),.rt d,(((hi-lo).toNat:Nat):Int),!xs.isEmpty,⟨rfl,l,rfl,c2,c4,c5⟩,∀v,(x,v) ∉ binds,r.toList++Q81.drop L,o++b.extract j (j+k),(by simp only[Vo];omega),18446744073709551616,⟨_,rfl,by omega,h4⟩,⟨_,H,I.kept k,?_,q⟩,λenv S=>pe b env S,x.above y c (Vcx h),storeName X.env x u,q+z.2.1,p+Q6+(L+e),mergeAt' i,kat b 0,kat a k,intBits_le_64 h1 h2,Xdv h H,Qr1.extract q (q+m),2*x.1+x.2.1+x.2.1+n,.tup ys,.tbl ps,(·.setIfInBounds j u),(its.toArray.size:Int),hB.kp.mem ma _ Q30,h m st hB m1 m2 m3,U.drop k++V.take m,0,0,0,0,0,0,0,Nat.le_of_not_le c,List.of_mem_zip hv,((sIx n n hi:Nat):Int),λi j ab hj e=>?_,(λi j _ _=>by omega),upd H x o,q+z.2.1-(z.2.2+1),o.push Qv,o.push Qu,i+k,forIn _ _,bubble Q1 i (i-j),Vcp _,Option Unit×Unit,.nx e,.done Q40,.done (yz (),z.2),⟨hg,rfl,jj _ Q0⟩,∀i,i<m->b i=yx,λi hi Q' aa=>?_,yz m,ns.map WData.int,ll its,(by rw[g1.sz];omega),Xgk a b Qz i Q00,Xb8 a b Qz QE0 j,0,0,0,0,0,0,Vi0 QZ1 (.ref y),Qr1.extract Qy q,.str x,.ref t,.own x,.own a,.ext (DicO a xs),.done (yz (),()),⟨us,[]⟩,⟨hg,rfl,L _ Q0⟩,⟨H,I,q⟩,λx hx y hy=>?_,λ_ q=>q,p+x,p+j,(by simpa using q3),(by simpa using hv),(by simpa using hu),(by simpa using h2),(by simpa using h1),(by simpa using c'),(by rw[z];exact hb),(by rw[h.sz];omega),b.extract k Q00,acc++its,a.toList.drop q,a.toList.drop p,Xgh λab aa=>?_,Xb8 a b (o) i j,Option V,List QN1,I.ok.noex b o e,.yield (yy,t+n),.ext (ExcO C a),⟨j-1,by omega⟩,{o with slots:=sl},0,0,0,0,0,0,0,(yy,u,v),(yy,l,r),kat Q1 (p+m-1),eval Qc1 X.env,ev F G c env S,(by simpa using h),(by simpa using e),(by simpa using L),⟨aa,r,rfl,hr⟩,⟨H,I.tok _,q⟩,z.2.2.2.2.1-1,x.2.2.2.2.1+1,trk h H,setArr st Qe0,pre_splitW aa,min (t-z.2) m,ll ys,kat a (p+x-1),k-Qa2,k+1,hf b hb,hO.as e,(by rw[Vo];omega),(by rw[U8];omega),ask _ Q0 _ ?_,a.size+b.size,0,0,0,0,0,0,Yj Q0 (Vt Qg),Xb7 a b o i j,Vs aa,Vhz _ _,Vao _ L,ForInStep Q80,.ref sl,.lst (xs++zs),.inl QO,⟨L,r,rfl,hr⟩,(λq=>nomatch q),src.most S+1,kat xs (q+j),hQ r _ hg hr,ev elt env S,cut xs lo hi,Vj k.toNat x,Vez tg QY1 u,St->Hp->Prop,S++[.lst xs],yz z.2,upd H p QP1,upd H l QC2,r.append r2,p.depth<=60,p+i,mb _ (Yg L),intKind P w,i != 0,fs.lookup f,frs X.stack,a₀.size-t,a==Vb0,Vct st,I.cne x c e,2*x.1+x.2.1,0,0,0,0,0,0,0,.ref p,.inl h,⟨u',r',?_⟩,⟨hg,rfl,L⟩,⟨_,ho,rfl⟩,⟨_,aa,rfl⟩,λi hi=>?_,λ_ _ e=>e,yz d,upd H x o',pyNext QY1,o.push Qu0,o.push QV1,ll x,kat Q1 Qn3,ev o env S,ev c env S,a2 k k1 k2,Vs z,Ne.symm hj,Ne.symm hb,.yield Q40,.int (i-j),.int (i+j),.int (i*j),⟨rfl,rfl⟩,0,0,0,0,0,0,⟨rfl,fin⟩,⟨_,rfl,r⟩,[.ref p],[.ref n],q+z.2.1-1,kat a Qz4,kat a Qo3,kat a Qn3,kat QN Qy,j+1+k,ite c t e,f v u,cne y c e,Vf ?_,Vbo QI0 L,N+min x 1,N+min 0 1,L+e,(.none,.none),(·.2),(·.1),mx _ Q30,mb _ Q30,kat xs j,kat xs i,kat Q1 y,kat Q1 x,hO.as lt,(by cases q),ae b o e,Vj k its,Vd.mp hk,V9.mp hp,P.zip vs,Hp->Prop,.dct kvs,0,0,0,0,0,0,0,yz x,yz v,x a o e,rest Q0,q+z.2-1,(p,n,v),ll L,kat b k,kat a j,i+n,hQ L h',Yj L ?_,Xj6 P w,Vy e,Vhp _ _,Vgl _ _,V9.mp L,Str×Vb,.ref fa,.lst zs,.lst vs,.inr Q0,.dct [],.dK kvs,.bool b,⟨e,?_⟩,0,0,0,0,0,0,κ×Vb,yx==yx,us++ds,p+Q6+x,hb b n,aa c z,aa _ z,Xp S x,Vf QI0,U2 _ L,Str×V,L++[y],2^63-1,.tbl q,.ref l,.ref a,.lst _,.inl q,.exc c,.brk e,[.tup xs],κ×V,(· == b),vs++L,t+n,q+z.2,q+k,q+i,p+m,n-h,m-1,ll vs,ll ps,ll ns,ll ks,k-1-j,0,0,0,0,0,0,0,k-1-i,j-1-k,i-k,(i :: ·),hi-lo,h-v,h+u,h+1,e::es,Vs ab,Vg9 _,Vct s,Vcm _,Va5 q,H x,.rt x,.bl r,.bl b,(·.2.1),yz u,yz i,(yy,0,1),x++y,(q,m,v'),o++c,o++_,0,0,0,0,0,0,mA f,lo+i,ll m,he _,aa b,a::l,Vy L,V5 f,Ul _,QD+L,2^64,2^62]
theorem oD0{p:Prop}[Decidable p](h:decide p=yx):p:=of_decide_eq_true h
theorem aB0{a b:Prop}(h:a)(k:¬a):b:=(k h).elim
theorem iP0{c:Prop}{i:Decidable c}(h:c){α:Sort u}{t e:α}:Qk5=t:=if_pos h
theorem iN0{c:Prop}{i:Decidable c}(h:¬c){α:Sort u}{t e:α}:Qk5=e:=if_neg h
theorem gZ0{α:Type u}{a:α}{l:List α}:Qf7[0]?=yz a:=rfl
theorem gS0{α:Type u}{a:α}{i:Nat}{l:List α}:Qf7[i+1]?=l[i]?:=rfl
theorem bA0(a b:Bool):((a&&b)=yx)=(a=yx∧b=yx):=Bool.and_eq_true a b
section
namespace L2
open PySem PySem.Spec PyProof.Rows
noncomputable abbrev Key:=Sum Int Str
noncomputable def X1e:Key->Vb->Bool
 |.inl k,v=>Value.isInt k v|.inr x,v=>Value.isStrOf x v
noncomputable def Yeh(w:Uy):Key->Int
 |.inl k=>hashInt k|.inr x=>hashStr w x
theorem Yv:∀ {k:Key} {v:Vb},X1e k v=yx->(∃i t,k=Sum.inl i/\v=Value.int i t)\/(∃x t,k=Sum.inr x/\v=Value.str x t)
 |.inl i,v,h=>by obtain⟨t,e⟩:=Value.isInt_shape (k:=i) (v:=v) h;exact .inl ⟨i,t,rfl,e⟩|.inr x,v,h=>by obtain⟨t,e⟩:=Value.isStrOf_shape (x:=x) (v:=v) h;exact .inr ⟨x,t,rfl,e⟩
theorem X6b(a b:Int):decide (QK2=Sum.inl b)=(a==b):=by
 by_cases e:a=b;·subst e;simp
 ·have h:¬ QK2=Sum.inl b:=λq=>e (Sum.inl.inj q);rw[decide_eq_false h];exact(beq_eq_false_iff_ne.mpr e).symm
theorem X6c(a b:Str):decide (QJ2=Sum.inr b)=decide (a=b):=by
 by_cases e:a=b;·subst e;simp
 ·have h:¬ QJ2=Sum.inr b:=λq=>e (Sum.inr.inj q);rw[decide_eq_false h,decide_eq_false e]
theorem X6d(a:Int)(b:Str):decide (QK2=Sum.inr b)=false:=decide_eq_false Qk4
theorem X6e(a:Str)(b:Int):decide (QJ2=Sum.inl b)=false:=decide_eq_false Qk4
noncomputable def Xj6(prog:Ue)(w:Uy):PySem.KeyKind prog w Key where
 is:=X1e
 hash:=Yeh w
 inj:=λv a b ha hb=>by
  rcases Yv ha with⟨i,t,rfl,rfl⟩|⟨x,t,rfl,rfl⟩
  ·rcases Yv hb with⟨j,u,rfl,e⟩|⟨y,u,rfl,e⟩;·injection e with L _;rw[L]
   ·exact nomatch e
  rcases Yv hb with⟨j,u,rfl,e⟩|⟨y,u,rfl,e⟩;·exact nomatch e
  ·injection e with L _;rw[L]
 byValue:=λk v h=>by rcases Yv h with⟨i,t,rfl,rfl⟩|⟨x,t,rfl,rfl⟩<;>rfl
 pyHash:=λhv h=>by
  rcases Yv hv with⟨i,t,rfl,rfl⟩|⟨x,t,rfl,rfl⟩;·exact wpAny_pyHash_int h
  ·exact wpAny_pyHash_str h
 eqBool:=λhu hv h=>by
  rcases Yv hu with⟨i,t,rfl,rfl⟩|⟨x,t,rfl,rfl⟩
  ·rcases Yv hv with⟨j,u,rfl,rfl⟩|⟨y,u,rfl,rfl⟩;·rw[X6b]at h;exact Vho h
   ·rw[X6d]at h;exact SeqAt.EqAt.int_str i t y u _ _ _ _ h
  rcases Yv hv with⟨j,u,rfl,rfl⟩|⟨y,u,rfl,rfl⟩;·rw[X6e]at h;exact SeqAt.EqAt.str_int x t j u _ _ _ _ h
  ·rw[X6c]at h;exact wpAny_eqBool_str h
 «strs»:=λk x t v h=>by
  rcases Yv h with⟨i,u,rfl,e⟩|⟨y,u,rfl,e⟩;·exact nomatch e
  ·injection e with L _;subst L;cases v<;>rfl
universe L2
namespace L2
open PySem PySem.Spec PyProof.Rows
inductive V where
 |non|bl (b:Bool)|int (i:Int)|str (x:Str)|byt (b:Array UInt8)|flt (b:UInt64)|ref (a:Addr)|ty (n:String)
 deriving DecidableEq
abbrev LW:=List V
def RelV:V->Vb->Prop
 |.non,u=>u=Vcq|.bl b,u=>u=Vfz b|.int i,u=>∃t,u=Value.int i t|.str x,u=>∃t,u=Value.str x t|.byt b,u=>∃t,u=Value.bytes b t|.flt b,u=>∃t,u=Value.float b t|.ref a,u=>u=Vcg a|.ty n,u=>u=Vcr n
abbrev Vals:LW->LV->Prop:=Paired RelV
theorem Vals.length{xs:LW}{us:LV}(r:Vals xs us):QA=ll us:=Vdk r
theorem Vals.get:∀ {xs:LW} {us:LV} {i:Nat} {x:V},Vals xs us->xs[i]?=yz x->∃u,us[i]?=yz u/\RelV x u
 |_,_,_,_,.nil,e=>by simp at e|_,_,0,_,.cons r _,e=>by simp at e;subst e;exact Qb5|_,_,i+1,x,.cons _ t,e=>by obtain⟨u,h1,h2⟩:=Vals.get (i:=i) (x:=x) t QG4;exact⟨u,by simpa using h1,h2⟩
theorem Vals.set{x:V}{u:Vb}(r:RelV x u):∀ {xs:LW} {us:LV} (i:Nat),Vals xs us->Vals (xs.set i x) (us.set i u)
 |_,_,_,.nil=>.nil|_,_,0,.cons _ t=>.cons r t|_,_,i+1,.cons q t=>.cons q (Vals.set r i t)
theorem Vals.append:∀ {xs ys:LW} {us L:LV},Vals xs us->Vals ys L->Vals (xs++ys) (us++L)
 |_,_,_,_,.nil,s=>s|_,_,_,_,.cons r t,s=>.cons r (Vals.append t s)
theorem Vals.take:∀ {xs:LW} {us:LV} (n:Nat),Vals xs us->Vals (xs.take n) (us.take n)
 |_,_,0,_=>.nil|_,_,_+1,.nil=>.nil|_,_,n+1,.cons r t=>.cons r (Vals.take n t)
theorem Vals.drop:∀ {xs:LW} {us:LV} (n:Nat),Vals xs us->Vals (xs.drop n) (us.drop n)
 |_,_,0,r=>r|_,_,_+1,.nil=>.nil|_,_,n+1,.cons _ t=>Vals.drop n t
def X6f:Option V->OV->Prop
 |some v,yz u=>RelV v u|none,yy=>True|_,_=>False
def KV{κ:Type}:List Qv6->List Qa6->Prop:=Paired λ(p:κ×V) (q:κ×Vb)=>p.1=q.1/\RelV p.2 q.2
noncomputable def kV:Key->V
 |.inl i=>.int i|.inr x=>.str x
inductive HO where
 |lst (xs:LW)
 |tup (xs:LW)
 |dK (kvs:List (Key×V))|dT (kvs:List (List Key×V))
 |set (S:Int->Bool) (n:Nat)
 |ins (C dx:Addr) (fs:List Qk6)
 |own (x:Addr)
 |xd (fs:List Qk6)
 |met (f x:Addr)
 |rng (lo hi:Int)
 |frz (o:Obj) (u:HO)
 |tbl (q:Str)
 |ext (φ:Heap->Prop)
noncomputable abbrev Hp:=Addr->Option HO
noncomputable def upd(H:Hp)(a:Addr)(o:HO):Hp:=λb=>if b=a then yz o else H b
theorem Xl{H:Hp}{a:Addr}{o:HO}:upd H a o a=yz o:=by unfold upd;rw[iP0 rfl]
theorem Xd{H:Hp}{a b:Addr}{o:HO}(h:b≠a):upd H a o b=H b:=by unfold upd;rw[iN0 h]
theorem X2d{H:Hp}{a:Addr}{o u:HO}:upd Qt0 a u=upd H a u:=by funext b;unfold upd;split<;>rfl
theorem Xj{H:Hp}{a b:Addr}{o:HO}(h:H a=yz o)(h':H b=yy):a≠b:=by intro e;subst e;rw[h]at h';cases h'
section
variable(P:Ue)(w:Uy)
def ObjOk(H:Hp)(h:Heap)(a:Addr):HO->Prop
 |.lst xs=>ll xs<=V3/\∃(its:LV) (n:Nat),Vals xs its/\h.get? a=yz Q5|.tup xs=>ll xs<=V3/\∃its:LV,Vals xs its/\Vc8 h a its.toArray|.dK kvs=>ll kvs<=V3/\Q65=yw/\∃vs,KV kvs vs/\h.DictOf QM6 a vs|.dT kvs=>ll kvs<=V3/\Q65=yw/\∃xs:List (List Key×Addr×Vb),
   Paired (λ(p:List Key×V) (q:List Key×Addr×Vb)=>p.1=q.1/\H q.2.1=yz (.tup (p.1.map kV))/\RelV p.2 q.2.2) kvs xs /\
   ∃o es ep,h.get? a=yz o/\o.ExactDict/\o.data=.dict es ep/\es.toList=xs.map (Vdw (Vhu QM6))/\(xs.map Qu5).Nodup|.set S n=>h.SetOf Q15 a S n|.ins C dx fs=>H dx=yz Qf3/\(ll fs)<=1000/\dx≠a/\h.get? a=yz (PySem.W.instObj C dx) /\
   ∃mA,h.Ns1 dx mA/\(∀f,X6f Q35 Qa7)/\PySem.Within mA (fs.map Qu5)|.own _=>∃o,h.get? a=yz o|.xd fs=>∃mA,h.Ns1 a mA/\∀f,X6f Q35 Qa7|.rng lo hi=>∃t u v,h.get? a=yz Q4|.frz o u=>h.get? a=yz o/\ObjOk H h a u|.tbl q=>∃ps,h.get? a=yz {cls:=.none,data:=.fields ps}/\TriplesOk ps.toList/\∀pos cv,codeAmong pos ps.toList=yz cv->∃c o u vs t,cv=.ref c/\H c=yz Q90/\o.data=.fields vs/\vs[1]?=yz (.str q t)|.met f x=>h.get? a=yz (Vi0 QZ1 (.ref x))|.ext L=>L h/\(∃o,h.get? a=yz o)/\∀h1 h2:Heap,L h1->(∀o,h1.get? a=yz o->h2.get? a=yz o)->L h2
def Fix:HO->Prop
 |.tup _=>True|.frz _ _=>True|_=>False
def HOk(H:Hp)(h:Heap):Prop:=∀a o,H a=yz o->ObjOk P w H h a o
universe e
section
variable{P:Ue}{w:Uy}{H H':Hp}{h h':Heap}{a:Addr}{o:HO}
theorem ObjOk.lt(x:ObjOk P w H h a o):a<h.objs.size:=by
 cases o with
 |lst xs=>obtain⟨_,_,_,_,e⟩:=x;exact Vy e|tup xs=>obtain⟨_,_,_,p⟩:=x;exact p.lt|dK kvs=>obtain⟨_,_,_,_,o,_,_,e,_⟩:=x;exact Vy e|dT kvs=>obtain⟨_,_,_,_,o,_,_,e,_⟩:=x;exact Vy e|set S n=>obtain⟨o,_,_,_,e,_⟩:=x;exact Vy e|ins C dx fs=>obtain⟨_,_,_,e,_⟩:=x;exact Vy e|own y=>obtain⟨_,e⟩:=x;exact Vy e|xd fs=>obtain⟨_,⟨_,_,_,e,_⟩,_⟩:=x;exact Vy e|rng lo hi=>obtain⟨_,_,_,e⟩:=x;exact Vy e|frz ob u=>obtain⟨e,_⟩:=x;exact Vy e|tbl q=>obtain⟨_,e,_⟩:=x;exact Vy e|met f y=>exact Vy (show h.get? a=yz _ from x)|ext L=>obtain⟨_,⟨_,e⟩,_⟩:=x;exact Vy e
theorem Paired.mapP{α β:Type}{F G:α->β->Prop}:∀ {aa:List α} {L:List β},Paired F aa L->(∀a b,F a b->G a b)->Paired G aa L
 |_,_,.nil,_=>.nil|_,_,.cons r t,f=>.cons (f _ _ r) (Paired.mapP t f)
theorem ObjOk.stay(x:ObjOk P w H h a o)(k:∀b u,(b=a\/H b=yz Qf3)->h.get? b=yz u->h'.get? b=yz u)
  (ho:∀b,H b=yz Qf3->H' b=yz Qf3) (ht:∀b u,Fix u->H b=yz u->H' b=yz u):ObjOk P w H' h' a o:=by
 induction o with
 |lst xs=>obtain⟨z,its,n,r,e⟩:=x;exact⟨z,its,n,r,k _ _ QG e⟩|tup xs=>obtain⟨z,its,r,ob,e,c⟩:=x;exact⟨z,its,r,ob,k _ _ QG e,c⟩|dK kvs=>obtain⟨z,y,vs,r,ob,es,L,e,c⟩:=x;exact⟨z,y,vs,r,ob,es,L,k _ _ QG e,c⟩|dT kvs=>obtain⟨z,y,xs,r,ob,es,L,e,c⟩:=x;exact⟨z,y,xs,Paired.mapP r λp q z=>⟨z.1,ht _ _ trivial z.2.1,z.2.2⟩,ob,es,L,k _ _ QG e,c⟩|set S n=>obtain⟨ob,es,L,t,e,c⟩:=x;exact⟨ob,es,L,t,k _ _ QG e,c⟩|ins C dx fs=>obtain⟨d,z,ne,e,mA,⟨od,es,L,e2,c⟩,r⟩:=x;exact⟨ho _ d,z,ne,k _ _ QG e,mA,⟨od,es,L,k _ _ (.inr d) e2,c⟩,r⟩|own y=>obtain⟨ob,e⟩:=x;exact⟨ob,k _ _ QG e⟩|xd fs=>obtain⟨mA,⟨od,es,L,e,c⟩,r⟩:=x;exact⟨mA,⟨od,es,L,k _ _ QG e,c⟩,r⟩|rng lo hi=>obtain⟨t,u,v,e⟩:=x;exact⟨t,u,v,k _ _ QG e⟩|frz ob u ih=>obtain⟨e,q⟩:=x;exact⟨k _ _ QG e,ih q⟩|tbl q=>obtain⟨ps,e,t,n⟩:=x;exact⟨ps,k _ _ QG e,t,λpos cv z=>let ⟨c,o,u,vs,t,e1,e2,r⟩:=n pos cv z;⟨c,o,u,vs,t,e1,ht _ _ trivial e2,r⟩⟩|met f y=>have e:h.get? a=yz Qa3:=x;show h'.get? a=yz Qa3;exact k a _ QG e|ext φ=>obtain⟨p,⟨o,e⟩,st⟩:=x;exact⟨st _ _ p λo q=>k _ _ QG q,⟨o,k _ _ QG e⟩,st⟩
theorem HOk.lt(x:HOk P w H h)(e:H a=yz o):a<h.objs.size:=QC6.lt
theorem HOk.fresh(x:HOk P w H h)(e:h.objs.size<=a):H a=none:=by
 cases q:H a with
 |none=>rfl|some u=>exact aB0 (Uh (x.lt q) e) QM3
theorem HOk.kept(x:HOk P w H h)(k:∀b u,h.get? b=yz u->h'.get? b=yz u):HOk P w H h':=λa o e=>QC6.stay (λb u _ q=>k b u q) Qm3 λ_ _ _ q=>q
theorem HOk.laid(x:HOk P w H h)(k:∀b u,h.get? b=yz u->h'.get? b=yz u)(hp:h.objs.size<=a)(new:ObjOk P w Qt0 h' a o):HOk P w Qt0 h':=λb u e=>by
 have L:=x.fresh hp;by_cases hb:b=a;·subst hb;rw[Xl]at e;cases e;exact new
 ·rw[Xd hb]at e;exact(x b u e).stay (λc v _ q=>k c v q) (λc q=>by rw[Xd Qc2];exact q) λc xs _ q=>by rw[Xd Qc2];exact q
universe e
def Rd(H:Hp)(a:Addr)(u:HO):Prop:=H a=yz u\/∃o,H a=yz Q90
theorem Rd.ok{P:Ue}{w:Uy}{H:Hp}{h:Heap}{a:Addr}{u:HO}(r:Rd H a u)(x:HOk P w H h):ObjOk P w H h a u:=by
 rcases r with r|⟨o,r⟩;·exact x a u r
 ·obtain⟨_,q⟩:=x a _ r;exact q
def Mut:Option HO->Prop
 |some Qq6=>True|some (.dK _)=>True|some (.dT _)=>True|some (.set _ _)=>True|some (.ins _ _ _)=>True|some (.ext _)=>True|_=>False
section
variable{P:Ue}{w:Uy}{H:Hp}{h h':Heap}{x e:Addr}{o':HO}
theorem HOk.write(ok:HOk P w H h)(mu:Mut QO7)(he:e=x\/H e=yz Qe3)(k:∀b u,b≠e->h.get? b=yz u->h'.get? b=yz u)(ac:∃u,h'.get? e=yz u)
  (new:ObjOk P w QJ5 h' x o'):HOk P w QJ5 h':=λb u q=>by
 have aa:∀c y,H c=yz (.own y)->c≠x:=λc y r z=>by subst z;rw[r]at mu;exact mu
 have ab:∀c u,Fix u->H c=yz u->c≠x:=λc u f r z=>by subst z;rw[r]at mu;cases u<;>first|exact mu|exact f
 by_cases hb:b=x;·subst hb;rw[Xl]at q;cases q;exact new
 ·rw[Xd hb]at q;by_cases L:b=e
  ·have q':H b=yz Qe3:=by
    rcases he with z|z;·exact aB0 (L.trans z) hb
    ·rw[L];exact z
   rw[q]at q';cases q';obtain⟨v,hv⟩:=ac;exact⟨v,by rw[L];exact hv⟩
  refine(ok b u q).stay (λc v hc r=>k c v ?_ r) (λc r=>by rw[Xd (aa c b r)];exact r) λc xs f r=>by rw[Xd (ab c xs f r)];exact r
  rcases hc with rfl|hc;·exact L
  ·rintro rfl;rcases he with z|z;·exact aa c b hc z
   ·rw[hc]at z;cases z;exact hb rfl
universe e
structure Un(fs ex:LR)(H H':Hp)(h h':Heap):Prop where
 keep:∀b o,h.get? b=yz o->H b=yy->b ∉ fs->b ∉ ex->h'.get? b=yz o
 slot:∀b o,h.get? b=yz o->H b=yy->b∈fs->b ∉ ex->∃sl,h'.get? b=yz Q94
 free:∀b o,h.get? b=yz o->H b=yy->b ∉ ex->H' b=yy
 there:∀b o,h.get? b=yz o->b ∉ ex->∃o',h'.get? b=yz o'
 tups:∀b xs,H b=yz QW0->H' b=yz QW0
 frzs:∀b o u,H b=yz Q90->H' b=yz Q90
 tbls:∀b ps,H b=yz Q43->H' b=yz Q43
section
variable{fs ex:LR}{H H1:Hp}{h h1 h':Heap}{a x e:Addr}{o:HO}
theorem Un.any(u:Un fs ex H H1 h h1){b:Addr}{ob:Obj}(q:h.get? b=yz ob)(n:H b=yy)(hx:b ∉ ex):∃sl,h1.get? b=yz {ob with slots:=sl}:=by
 by_cases hb:b∈fs;·exact u.slot b ob q n hb hx
 ·exact⟨ob.slots,u.keep b ob q n hb hx⟩
theorem Un.kept(k:∀b u,h.get? b=yz u->h'.get? b=yz u):Un fs ex H H h h':=
 ⟨λb ob q _ _ _=>k b ob q,λb ob q _ _ _=>⟨ob.slots,k b ob q⟩,λ_ _ _ n _=>n,λb ob q _=>⟨ob,k b ob q⟩,λ_ _ q=>q,λ_ _ _ q=>q,λ_ _ q=>q⟩
theorem Un.refl:Un fs ex H H h h:=Un.kept λ_ _ q=>q
theorem Un.laid(k:∀b u,h.get? b=yz u->h'.get? b=yz u)(hp:h.objs.size<=a)(L:H a=yy):Un fs ex H Qt0 h h' where
 keep:=λb u q _ _ _=>k b u q
 slot:=λb u q _ _ _=>⟨u.slots,k b u q⟩
 free:=λb u q n _=>by rw[Xd (Uq (Uh (Vy q) hp))];exact n
 there:=λb u q _=>⟨u,k b u q⟩
 tups:=λb xs q=>by rw[Xd Qc2];exact q
 frzs:=λb u xs q=>by rw[Xd Qc2];exact q
 tbls:=λb ps q=>by rw[Xd Qc2];exact q
theorem Un.write(mu:Mut QO7)(he:e=x\/H e=yz Qe3)(k:∀b u,b≠e->h.get? b=yz u->h'.get? b=yz u)(aa:∃u,h'.get? e=yz u):Un fs ex H QF3 h h':=by
 have hx:∀b,H b=yy->b≠x:=λb n z=>by subst z;rw[n]at mu;exact mu
 have hb:∀b,H b=yy->b≠e:=λb n z=>by
  subst z;rcases he with r|r;·exact hx b n r
  ·rw[n]at r;cases r
 have hm:∀b u,H b=yz u->¬ Mut QT7->b≠x:=λb u q nm z=>by subst z;rw[q]at mu;exact nm mu
 refine⟨λb u q n _ _=>k b u Qe6 q,λb u q n _ _=>⟨u.slots,k b u Qe6 q⟩,λb u q n _=>by rw[Xd (hx b n)];exact n,λb u q _=>?_,
  λb xs q=>by rw[Xd Qi1];exact q,λb u xs q=>by rw[Xd Qi1];exact q,λb ps q=>by rw[Xd Qi1];exact q⟩
 by_cases L:b=e;·subst L;exact aa
 ·exact⟨u,k b u L q⟩
universe e
noncomputable def trk(h:Heap)(H:Hp):LR:=(Vl h.objs.size).filter λa=>(H a).isSome
noncomputable def Xdv(h:Heap)(H:Hp):Heap:=Vcu h QM4
theorem Xt8(h:Heap)(H:Hp):(Xdv h H).objs.size=h.objs.size:=PySem.W.hideAll_size _ _
theorem Xhy{h:Heap}{H:Hp}{b:Addr}{o:Obj}(e:h.get? b=yz o)(n:H b=yy):Q03.get? b=yz o:=
 Veu _ e λL=>by have q:(H b).isSome=true:=(List.mem_filter.mp L).2;rw[n]at q;simp at q
theorem X2e{h:Heap}{H:Hp}{b:Addr}{o:Obj}(e:Q03.get? b=yz o):h.get? b=yz o/\H b=none:=by
 have L:h.get? b=yz o:=Vgk QM4 e;refine⟨L,?_⟩;cases q:H b with
 |none=>rfl|some x=>have hm:b∈trk h H:=List.mem_filter.mpr ⟨Va6.mpr Qg7,by simp[q]⟩;have z:Q03.get? b=none:=Vb1 QM4 hm;rw[z]at e;cases e
universe L2
namespace L2
open PySem PySem.Spec PyProof.Rows
structure Mod(K:Ve)(mg:Str->OV)(base:Heap):Prop where
 kin:K.In base
 glob:base.Ns Um mg
 blt:∃mb,base.Ns Vgy mb/\∀x:Str,x ≠ "__name__" -> mb x=Veo x
 nolimit:base.NoLimit
structure Cx where
 prog:Ue
 w:Uy
 K:Ve
 mg:Str->OV
 base:Heap
 A:U7
 N:LS
 s₀:Vc
 H₀:Hp
 env:Env
 outer:List Env
 stack:List Env
 ex:LR
 fn:Str->Bool
 calm:Bool
 pn:LA
 xe:VP
noncomputable def frs(l:List Env):LR:=l.filterMap (·.frame)
noncomputable abbrev Cx.fs(X:Cx):LR:=frs X.outer
def Vis(sc:U1)(x:Str):Prop:=sc.names.lookup x=yz .local\/sc.names.lookup x=yz .cell\/sc.names.lookup x=yz .free
def Loc(sc:U1)(x:Str):Prop:=sc.names.lookup x=yz .local\/sc.names.lookup x=yz .cell
def Yei(env:Env)(h:Heap)(m:Str->OV)(x:Str)(u:Vb):Prop:=
 (env.kindOf x=yz .local/\m x=yz u)\/((env.kindOf x=yz .cell\/env.kindOf x=yz .free)/\∃c,env.cells.lookup x=yz c/\h.IsCell c QT7)
structure Cx.Ok(X:Cx):Prop where
 mod:Mod X.K X.mg X.base
 kind:X.env.scope.kind=.function
 glob:X.env.globals=Um
 blt:X.env.builtins=Vgy
 above:X.s₀.heap.objs.size<=X.env.locals
 inj:∀x y c,X.env.cells.lookup x=yz c->X.env.cells.lookup y=yz c->x=y
 has:∀x,(X.env.kindOf x=yz .cell\/X.env.kindOf x=yz .free)->∃c,X.env.cells.lookup x=yz c
 cab:∀x c,X.fn x=yx->X.env.cells.lookup x=yz c->X.s₀.heap.objs.size<=c
 hd:X.calm=yx->X.A.handled=yy
 frames:X.A.frames=yz X.stack
 stk:X.stack=X.outer\/(X.stack=X.env::X.outer/\X.env.frame=yz X.env.locals)
 exf:∀b∈X.ex,b≠X.env.locals/\∀x c,X.env.cells.lookup x=yz c->c≠b
 bs:∀b o,X.base.get? b=yz o->X.s₀.heap.get? b=yz o/\X.H₀ b=yy
 bsz:X.base.objs.size<=X.s₀.heap.objs.size
 noex:∀b o,X.base.get? b=yz o->b ∉ X.ex
 exfs:∀b∈X.ex,b ∉ X.fs
 funs:X.s₀.heap.FunFrames X.base X.outer
 frf:∀b∈X.fs,X.H₀ b=yy
structure Inv(X:Cx)(pc:LA)(σ:List Q34)(H:Hp)(s:Vc):Prop where
 ok:X.Ok
 os:s.os=X.s₀.os
 bare:AllBare s.gens
 base:Un X.fs X.ex X.H₀ H X.s₀.heap s.heap
 loc:∃m,s.heap.Ns X.env.locals m/\∀(i:Nat) (x:Str) (v:V),X.N[i]?=yz x->σ[i]?=yz QB6->Vis X.env.scope x->∃u,RelV v u/\Yei X.env s.heap m x u
 cell:∀x c,X.env.cells.lookup x=yz c->∃v,s.heap.IsCell c v
 free:H X.env.locals=yy
 freeC:∀x c,X.env.cells.lookup x=yz c->H c=yy
 pin:∀p∈X.pn++pc,s.heap.get? p.1=yz p.2/\H p.1=yy/\p.1≠X.env.locals/\p.1 ∉ X.fs/\∀v,p.2.data≠.cell v
 hok:HOk X.prog X.w H s.heap
 len:σ.length=X.N.length
section
variable{X:Cx}{pc:LA}{σ:List Q34}{H H':Hp}{s:Vc}{h':Heap}
theorem Cx.Ok.nofr(ok:X.Ok){b:Addr}{o:Obj}(e:X.base.get? b=yz o):b ∉ X.fs:=λhb=>by have:=(ok.funs.mem hb).1;rw[e]at this;cases this
theorem Inv.bs(I:Inv X pc σ H s):∀b o,X.base.get? b=yz o->s.heap.get? b=yz o/\H b=none:=λb o e=>⟨I.base.keep b o Q91.1 Q91.2 (I.ok.nofr e) Q54,I.base.free b o Q91.1 Q91.2 Q54⟩
theorem Inv.bk(I:Inv X pc σ H s):∀b o,X.base.get? b=yz o->s.heap.get? b=yz o:=λb o e=>(I.bs b o e).1
theorem Inv.mod(I:Inv X pc σ H s):Mod X.K X.mg X.base:=I.ok.mod
theorem Inv.kIn(I:Inv X pc σ H s):X.K.In s.heap:=I.ok.mod.kin.keeps I.bk
theorem Inv.nolimit(I:Inv X pc σ H s):s.heap.NoLimit:=I.ok.mod.nolimit.keeps I.bk
theorem Inv.lt(I:Inv X pc σ H s):X.env.locals<s.heap.objs.size:=let ⟨_,hn,_⟩:=I.loc;hn.lt
theorem Inv.sz(I:Inv X pc σ H s):X.s₀.heap.objs.size<=s.heap.objs.size:=V2 I.ok.above (Vc9 I.lt)
theorem Inv.nofs(I:Inv X pc σ H s){a:Addr}(h:s.heap.objs.size<=a):a ∉ X.fs:=λhb=>by obtain⟨_,o,L,_⟩:=I.ok.funs.mem hb;exact aB0 (Uh Qg7 (V2 I.sz h)) QM3
theorem Inv.cne(I:Inv X pc σ H s):∀x c,X.env.cells.lookup x=yz c->c≠X.env.locals:=λx c e z=>by obtain⟨v,o,ho,hd⟩:=I.cell x c e;obtain⟨m,⟨o',es,ep,L,aa,_⟩,_⟩:=I.loc;rw[z,L]at ho;cases ho;rw[aa]at hd;cases hd
theorem Inv.funs(I:Inv X pc σ H s):s.heap.FunFrames X.base X.outer:=by
 have all:∀(l:List Env),(∀b∈frs l,b∈X.fs)->X.s₀.heap.FunFrames X.base l->s.heap.FunFrames X.base l:=by
  intro l;induction l with
  |nil=>intro _ _;trivial|cons env r ih=>intro hs hl;obtain⟨hk,⟨L,o,hf,hn,ho,hd⟩,hr⟩:=hl;have hL:L∈X.fs:=hs L (by unfold frs;rw[Vat,hf];exact Uv);obtain⟨sl,e⟩:=I.base.slot L o ho (I.ok.frf L hL) hL λz=>I.ok.exfs L z hL;exact⟨hk,⟨L,_,hf,hn,e,hd⟩,ih (λb hb=>hs b (by unfold frs;rw[Vat,hf];exact U2 _ hb)) hr⟩
 exact all X.outer (λ_ hb=>hb) I.ok.funs
theorem Inv.stack(I:Inv X pc σ H s):s.heap.FunFrames X.base X.stack:=by
 rcases I.ok.stk with e|⟨e,hf⟩;·rw[e];exact I.funs
 ·rw[e];obtain⟨m,L,_⟩:=I.loc;refine .cons (by rw[I.ok.kind];decide) hf L ?_ I.funs;exact Vhy (V2 I.ok.bsz I.ok.above)
theorem Inv.stkSub(I:Inv X pc σ H s):∀b∈frs X.stack,b∈X.env.locals::X.fs:=λb hb=>by
 rcases I.ok.stk with e|⟨e,hf⟩;·rw[e]at hb;exact U2 _ hb
 ·rw[e]at hb;unfold frs at hb;rw[Vat,hf]at hb;exact hb
theorem Inv.stkFree(I:Inv X pc σ H s):∀b∈frs X.stack,H b=none:=λb hb=>by
 rcases V0.mp (I.stkSub b hb) with e|hb;·rw[e];exact I.free
 ·obtain⟨_,o,L,_⟩:=I.ok.funs.mem hb;exact I.base.free b o L (I.ok.frf b hb) λz=>I.ok.exfs b z hb
theorem Inv.step{g':Array GenState}{t':Nat}{d':Drawn}{ch:LR}(I:Inv X pc σ H s)
  (aa:∀b∈ch,Qc/\b≠X.env.locals/\QP/\∀p∈X.pn++pc,p.1≠b)
  (keep:∀b o,b≠X.env.locals->b ∉ X.fs->b ∉ ch->s.heap.get? b=yz o->H b=yy->h'.get? b=yz o)
  (slot:∀b o,b≠X.env.locals->b∈X.fs->b ∉ ch->s.heap.get? b=yz o->H b=yy->∃sl,h'.get? b=yz Q94) (free:∀b o,b ∉ ch->s.heap.get? b=yz o->H b=yy->H' b=yy)
  (there:∀b o,b ∉ ch->s.heap.get? b=yz o->∃o',h'.get? b=yz o')
  (tups:∀b xs,H b=yz QW0->H' b=yz QW0) (frzs:∀b o u,H b=yz Q90->H' b=yz Q90) (tbls:∀b ps,H b=yz Q43->H' b=yz Q43)
  (ns:∀m,s.heap.Ns X.env.locals m->h'.Ns X.env.locals m) (hok:HOk X.prog X.w H' h') (hg:AllBare g'):
  Inv X pc σ H' Qq0:=by
 have ae:∀b o,X.s₀.heap.get? b=yz o->b≠X.env.locals:=λb o e=>Uq (Uh QN6 I.ok.above);have ac:∀b o,X.s₀.heap.get? b=yz o->b ∉ X.ex->b ∉ ch:=λb o e hx hb=>by
  rcases (aa b hb).1 with z|z;·exact hx z
  ·exact aB0 (Uh QN6 z) QM3
 have L:∀x c,X.env.cells.lookup x=yz c->∀v,s.heap.IsCell c v->h'.IsCell c v:=λx c e v ⟨o,ho,hd⟩=>by
  have ab:c ∉ ch:=λz=>Qf6.2.2.1 x c e rfl;by_cases hc:c∈X.fs;·obtain⟨sl,q⟩:=slot c o Q85 hc ab ho QB2;exact⟨_,q,hd⟩
  ·exact⟨o,keep c o Q85 hc ab ho QB2,hd⟩
 refine⟨I.ok,I.os,hg,⟨λb o e n hb hx=>?_,λb o e n hb hx=>?_,λb o e n hx=>?_,λb o e hx=>?_,λb xs e=>tups b xs (I.base.tups b xs e),λb o xs e=>frzs b o xs (I.base.frzs b o xs e),λb ps e=>tbls b ps (I.base.tbls b ps e)⟩,?_,λx c e=>?_,?_,λx c e=>?_,λp hp=>?_,hok,I.len⟩;·exact keep b o Q36 hb QX1 QU0 Qn0
 ·obtain⟨sl,e1⟩:=I.base.slot b o e n hb hx;obtain⟨af,e2⟩:=slot b _ Q36 hb QX1 e1 Qn0;exact⟨af,e2⟩
 ·obtain⟨o',e1⟩:=I.base.there b o e hx;exact free b o' QX1 e1 Qn0
 ·obtain⟨o',e1⟩:=I.base.there b o e hx;exact there b o' QX1 e1
 ·obtain⟨m,hn,hl⟩:=I.loc;refine⟨m,ns m hn,λi x v e1 e2 e3=>?_⟩;obtain⟨u,r,l⟩:=hl i x v e1 e2 e3;refine⟨u,r,?_⟩;rcases l with l|⟨k,c,e,z⟩;·exact .inl l
  ·exact .inr ⟨k,c,e,L x c e _ z⟩
 ·obtain⟨v,z⟩:=I.cell x c e;exact⟨v,L x c e v z⟩
 ·obtain⟨m,⟨o,_,_,ho,_⟩,_⟩:=I.loc;exact free _ o (λz=>Qg6.2.1 rfl) ho I.free
 ·obtain⟨v,o,ho,hd⟩:=I.cell x c e;exact free c o (λz=>Qf6.2.2.1 x c e rfl) ho QB2
 ·obtain⟨e,n,ne,nf,d⟩:=I.pin p hp;have ab:p.1 ∉ ch:=λz=>(aa p.1 z).2.2.2 p hp rfl;exact⟨keep p.1 p.2 ne nf ab e n,free p.1 p.2 ab e n,ne,nf,d⟩
theorem Inv.un{t':Nat}(I:Inv X pc σ H s)(u:Un X.fs [] H H' s.heap h')(hok:HOk X.prog X.w H' h'):Inv X pc σ H' Qe:=by obtain⟨m,⟨o,es,ep,ho,r⟩,_⟩:=id I.loc;obtain⟨sl,hL⟩:=u.any ho I.free QB;exact I.step (g':=s.gens) (d':=s.drawn) (ch:=[]) (λ_ z=>nomatch z) (λb o _ hb _ e n=>u.keep b o e n hb QB) (λb o _ hb _ e n=>u.slot b o e n hb QB) (λb o _ e n=>u.free b o e n QB) (λb o _ e=>u.there b o e QB) u.tups u.frzs u.tbls (λm' hm=>by obtain⟨o',aa,ab,L,r'⟩:=hm;rw[ho]at L;cases L;exact⟨_,aa,ab,hL,r'⟩) hok I.bare
theorem Inv.call{g':Array GenState}{t':Nat}{d':Drawn}{ch:LR}(I:Inv X pc σ H s)(u:Un Q45 ch H H' s.heap h')(hok:HOk X.prog X.w H' h')(hg:AllBare g')
  (aa:∀b∈ch,Qc/\b≠X.env.locals/\QP/\∀p∈X.pn++pc,p.1≠b):
  Inv X pc σ H' Qq0:=by
 obtain⟨m,⟨o,es,ep,ho,r⟩,_⟩:=id I.loc;obtain⟨sl,hL⟩:=u.any ho I.free λz=>Qg6.2.1 rfl;exact I.step (ch:=ch) aa (λb o hL hb L e n=>u.keep b o e n (λz=>(V0.mp (I.stkSub b z)).elim hL hb) L) (λb o _ _ L e n=>u.any e n L) (λb o L e n=>u.free b o e n L) (λb o L e=>u.there b o e L) u.tups u.frzs u.tbls (λm' hm=>by obtain⟨o',ac,ae,ab,r'⟩:=hm;rw[ho]at ab;cases ab;exact⟨_,ac,ae,hL,r'⟩) hok hg
theorem Inv.turned{t':Nat}{it:Addr}(I:Inv X pc σ H s)(k:∀b o,b≠it->s.heap.get? b=yz o->h'.get? b=yz o)(hn:H it=yy)(hL:it≠X.env.locals)
  (h1:it∈X.ex\/X.s₀.heap.objs.size<=it) (h2:∀x c,X.env.cells.lookup x=yz c->c≠it) (h3:∀p∈X.pn++pc,p.1≠it):Inv X pc σ H Qe:=by
 have aa:∀b u,H b=yz u->b≠it:=λb u e z=>by rw[z,hn]at e;cases e
 refine I.step (g':=s.gens) (d':=s.drawn) (ch:=[it]) (λb hb=>?_) (λb o _ _ L e _=>k b o QC1 e) (λb o _ _ L e _=>⟨o.slots,k b o QC1 e⟩) (λ_ _ _ _ n=>n)
  (λb o L e=>⟨o,k b o QC1 e⟩) QH5 (λ_ _ _ e=>e) QH5 (λm hm=>?_) (λb u e=>?_) I.bare
 ·have e:b=it:=by simpa using hb
  subst e;exact⟨h1,hL,h2,h3⟩
 ·obtain⟨o,es,ep,ho,r⟩:=hm;exact⟨o,es,ep,k _ o (Ne.symm hL) ho,r⟩
 ·refine(I.hok b u e).stay (λc v L q=>k c v ?_ q) Qm3 λ_ _ _ q=>q;rcases L with z|z;·rw[z];exact aa b u e
  ·exact aa c _ z
theorem Inv.tok(I:Inv X pc σ H s)(t:Nat):Inv X pc σ H {s with toks:=t}:=I.un (h':=s.heap) (t':=t) Un.refl I.hok
theorem Inv.kept{t':Nat}(I:Inv X pc σ H s)(k:∀b u,s.heap.get? b=yz u->h'.get? b=yz u):Inv X pc σ H Qe:=I.un (Un.kept k) (I.hok.kept k)
theorem Inv.laid{a:Addr}{o:HO}{t':Nat}(I:Inv X pc σ H s)(k:∀b u,s.heap.get? b=yz u->h'.get? b=yz u)(hp:s.heap.objs.size<=a)(new:ObjOk X.prog X.w Qt0 h' a o):
  Inv X pc σ Qt0 Qe:=I.un (Un.laid k hp (I.hok.fresh hp)) (I.hok.laid k hp new)
theorem Inv.write{x e:Addr}{o:HO}{t':Nat}(I:Inv X pc σ H s)(mu:Mut QO7)(he:e=x\/H e=yz Qe3)(k:∀b u,b≠e->s.heap.get? b=yz u->h'.get? b=yz u)(L:∃u,h'.get? e=yz u)
  (new:ObjOk X.prog X.w QF3 h' x o):Inv X pc σ QF3 Qe:=I.un (Un.write mu he k L) (I.hok.write mu he k L new)
theorem Inv.pins_of{L:LA}(I:Inv X pc σ H s)(h:∀p∈L,s.heap.get? p.1=yz p.2/\H p.1=yy/\p.1≠X.env.locals/\p.1 ∉ X.fs/\∀v,p.2.data≠.cell v):Inv X L σ H s:=
 ⟨I.ok,I.os,I.bare,I.base,I.loc,I.cell,I.free,I.freeC,λp hp=>Q66.elim (λz=>I.pin p (Vao _ z)) (h p),I.hok,I.len⟩
theorem Xnd{N:LS}(hN:N.Nodup){i j:Nat}{x:Str}(a:N[i]?=yz x)(b:N[j]?=yz x):i=j:=by obtain⟨h1,e1⟩:=Vd.mp a;obtain⟨h2,L⟩:=Vd.mp b;exact(List.getElem_inj hN).mp (e1.trans L.symm)
theorem Xls{M:Model}{A:U7}{E:VP}{i:Nat}{x:Str}{v:V}{u:Vb}{Q:Unit->Vc->Prop}(I:Inv X pc σ H s)(hN:X.N.Nodup)(hi:X.N[i]?=yz x)(hx:Loc X.env.scope x)(r:RelV v u)
  (h:∀s',Inv X pc Qg1 H s'->(∃a,Va2 a s.heap s'.heap/\(a=X.env.locals\/X.env.cells.lookup x=yz a))->Q () s') (hf:X.fn x=yx\/X.env.scope.names.lookup x=yz .local:=by first|exact .inl rfl|exact .inr rfl|assumption):Vh M A Qt2 Q E s:=by
 obtain⟨m,hn,hl⟩:=id I.loc;have ae:(X.env.scope.kind == .class||(X.env.scope.kind == .module&&X.env.locals != X.env.globals))=false:=by rw[I.ok.kind];rfl
 have ab:i < σ.length:=by rw[I.len];exact(Vd.mp hi).1
 have cne:=I.cne;have L:∀ {a:Addr} {h':Heap},(∃o,s.heap.get? a=yz o/\H a=yy)->Va2 a s.heap h'->HOk X.prog X.w H h':=λ{a h'} ha hs b ob e=>by
  obtain⟨_,_,aa⟩:=ha;refine(I.hok b ob e).stay (λc w' hc q=>(hs.2 c ?_).trans q) Qm3 λ_ _ _ q=>q;rintro rfl;rcases hc with rfl|hc;·rw[aa]at e;cases e
  ·rw[aa]at hc;cases hc
 rcases hx with hk|hk
 ·refine wpAny_storeName_local hk hn (λh' al hs=>?_) ae;obtain⟨oL,_,_,ak,_⟩:=id hn;refine h _ ⟨I.ok,I.os,I.bare,QZ,⟨_,al,λj y v' e1 e2 e3=>?_⟩,λy c e=>?_,I.free,I.freeC,λp hp=>?_,L ⟨oL,ak,I.free⟩ hs,by simpa using I.len⟩ ⟨_,hs,.inl rfl⟩;·exact Q50.trans QU0
  ·obtain⟨sl,e1⟩:=I.base.slot b o e n hb hx;exact⟨sl,Q50.trans e1⟩
  ·obtain⟨o',e1⟩:=I.base.there b o e hx;exact⟨o',Q50.trans e1⟩
  ·by_cases hj:j=i;·subst hj;rw[hi]at e1;cases e1;rw[Vb5 ab]at e2;cases e2;exact⟨u,r,.inl ⟨hk,by simp⟩⟩
   ·rw[Vap QT5]at e2;obtain⟨u',r',q⟩:=hl j y v' e1 e2 e3;refine QC5;rcases q with⟨k,e⟩|⟨k,c,e,z⟩;·refine .inl ⟨k,?_⟩;have:y≠x:=λe=>hj (Xnd hN e1 (e▸hi));simp[this,e]
    ·exact .inr ⟨k,c,e,z.sameBut hs Qm5⟩
  ·obtain⟨w',z⟩:=I.cell y c e;exact⟨w',z.sameBut hs Qm5⟩
  obtain⟨e,n,ne,nf,d⟩:=I.pin p hp;exact⟨(hs.2 p.1 ne).trans e,n,ne,nf,d⟩
 ·have ac:X.fn x=true:=by
   rcases hf with z|z;·exact z
   ·rw[z]at hk;cases hk
  obtain⟨c,hc⟩:=I.ok.has x (.inl hk);obtain⟨w',z⟩:=I.cell x c hc;refine wpAny_storeName_cell I.ok.kind hk hc z (λh' af hs=>?_);obtain⟨oc,aj,ah⟩:=id z;refine h QV ⟨I.ok,I.os,I.bare,QZ,⟨m,hn.sameBut hs (Ne.symm (cne x c hc)),λj y v' e1 e2 e3=>?_⟩,λy c' e=>?_,I.free,I.freeC,λp hp=>?_,L ⟨oc,aj,I.freeC x c hc⟩ hs,by simpa using I.len⟩ ⟨c,hs,.inr hc⟩;·exact Qk.trans QU0
  ·obtain⟨sl,e1⟩:=I.base.slot b o e n hb hx;exact⟨sl,Qk.trans e1⟩
  ·obtain⟨o',e1⟩:=I.base.there b o e hx;exact⟨o',Qk.trans e1⟩
  ·by_cases hj:j=i;·subst hj;rw[hi]at e1;cases e1;rw[Vb5 ab]at e2;cases e2;exact⟨u,r,.inr ⟨.inl hk,c,hc,af⟩⟩
   ·rw[Vap QT5]at e2;obtain⟨u',r',q⟩:=hl j y v' e1 e2 e3;refine QC5;rcases q with q|⟨k,c',e,z'⟩;·exact .inl q
    ·refine .inr ⟨k,c',e,z'.sameBut hs ?_⟩;rintro rfl;exact hj (Xnd hN e1 (I.ok.inj _ _ _ e hc▸hi))
  ·by_cases ai:c'=c;·subst ai;exact⟨_,af⟩
   ·obtain⟨w2,z2⟩:=I.cell y c' e;exact⟨w2,z2.sameBut hs ai⟩
  obtain⟨e,n,ne,nf,d⟩:=I.pin p hp;refine⟨(hs.2 p.1 ?_).trans e,n,ne,nf,d⟩;intro q;rw[q,aj]at e;have q':oc=p.2:=U6 e;exact d w' (by rw[<-q'];exact ah)
theorem Xbi{M:Model}{A:U7}{E:VP}{i:Nat}{x:Str}{v:V}{u:Vb}{Q:Unit->Vc->Prop}(I:Inv X pc σ H s)(hN:X.N.Nodup)(hi:X.N[i]?=yz x)(hx:Loc X.env.scope x)(r:RelV v u)
  (h:∀s',Inv X pc Qg1 H s'->Q () s') (hf:X.fn x=yx\/X.env.scope.names.lookup x=yz .local:=by first|exact .inl rfl|exact .inr rfl|assumption):Vh M A Qt2 Q E s:=
 Xls I hN hi hx r (λs' L _=>h s' L) hf
theorem Inv.call'{s':Vc}{ch:LR}(I:Inv X pc σ H s)(ho:s'.os=s.os)(u:Un Q45 ch H H' s.heap s'.heap)(hok:HOk X.prog X.w H' s'.heap)(hg:AllBare s'.gens)
  (L:∀b∈ch,Qc/\b≠X.env.locals/\QP/\∀p∈X.pn++pc,p.1≠b):Inv X pc σ H' s':=by
 obtain⟨h',g',d',t',o'⟩:=s';have e:o'=s.os:=ho;subst e;exact I.call (g':=g') (t':=t') (d':=d') u hok hg L
universe e
abbrev XK:=Vb->Option Addr->Hp->Prop
noncomputable abbrev St:=List Q34
abbrev VK:=V->Hp->Prop
abbrev TE:=St->Hp->VK->Prop
def EP(X:Cx)(pc:LA)(σ:St)(Q:VK)(u:Vb)(s':Vc):Prop:=∃v H',Inv X pc σ H' s'/\RelV v u/\Q v H'
def TP(X:Cx)(pc:LA)(σ:St)(Q:Bool->Hp->Prop)(b:Bool)(s':Vc):Prop:=∃H',Inv X pc σ H' s'/\Q b H'
def PE(X:Cx)(e:Expr)(t:TE):Prop:=
 ∀(pc:LA) (s:Vc) (σ:St) (H:Hp) (Q:VK),Inv X pc σ H s->t σ H Q->Vh Q7 X.A (eval e X.env) Qh0 X.xe s
theorem thn{α:Type}{t:Sem α}{Q Q':α->Vc->Prop}{M:Model}{A:U7}{E:VP}{s:Vc}(h:Vh M A t Q E s)(L:∀a s,Q a s->Q' a s):Vh M A t Q' E s:=Vp h L λ_ _ x=>x
universe L2
namespace L2
open PySem PySem.Spec PyProof.Rows
section
variable{X:Cx}
theorem bin{a b:Expr}{ta tb:TE}(ha:PE X a ta)(hb:PE X b tb){pc:LA}{s:Vc}{σ:St}{H:Hp}{R:V->V->Hp->Prop}(I:Inv X pc σ H s)(h:ta σ H λx H1=>tb σ H1 λy H2=>R x y H2)
  {α:Type} {Q:α->Vc->Prop} {f:Vb->Vb->Sem α}
  (hf:∀v u L x y H2,Inv X pc σ H2 L->RelV x v->RelV y u->R x y H2->Vh Q7 X.A Ql5 Q X.xe L):
  Vh Q7 X.A (eval a X.env) (λv s₁=>Vh Q7 X.A (eval b X.env) (λu s₂=>Vh Q7 X.A Ql5 Q X.xe s₂) X.xe s₁) X.xe s:=by
 refine thn (ha pc s σ H _ I h) λv s1 ⟨x,H1,I1,r1,q1⟩=>?_;refine thn (hb pc s1 σ H1 _ I1 q1) λu L ⟨y,H2,I2,r2,q2⟩=>?_;exact hf v u L x y H2 I2 r1 r2 q2
noncomputable def Yej(i:Nat):TE:=fun σ H Q=>∃v,σ[i]?=yz QB6/\Q v H
noncomputable def tC(v:V):TE:=λ_ H Q=>Q v H
theorem X6g {i:Nat} {x:Str} {pos:Pos} (hN:X.N[i]?=yz x) (hv:Vis X.env.scope x) (hd:Ql0=false:=by decide) (L:(x==("__classdict__" : Str))=false:=by decide):PE X Qc1 (Yej i):=by
 intro pc s σ H Q I h;obtain⟨v,e,h⟩:=h;obtain⟨m,hn,hl⟩:=I.loc;obtain⟨u,r,l⟩:=hl i x v hN e hv;have fin:EP X pc σ Q u s:=⟨v,H,I,r,h⟩;rcases l with⟨hk,hm⟩|⟨hk,c,hc,hcell⟩;·exact wpAny_Name (wpAny_loadName_local I.ok.kind hk hn hm fin) hd
 ·rcases hk with hk|hk;·exact wpAny_Name (wpAny_loadName_cell I.ok.kind hk hc hcell fin) hd
  ·exact wpAny_Name (wpAny_loadName_free I.ok.kind hk hc hcell fin L) hd
theorem X6h{i j pos}:PE X (.Constant Qb1 j pos) (tC Qb1):=λ_ _ _ H _ I h=>wpAny_Constant_int ⟨.int i,H,I.tok _,Qx0,h⟩
theorem Yb9{b j pos}:PE X (.Constant QY6 j pos) (tC QR7):=λ_ _ _ H _ I h=>Constant_bool ⟨.bl b,H,I,rfl,h⟩
theorem X6i{j pos}:PE X (.Constant .none j pos) (tC .non):=λ_ _ _ H _ I h=>Constant_none ⟨.non,H,I,rfl,h⟩
theorem X6j{x j pos}:PE X (.Constant Qc3 j pos) (tC Qc3):=λ_ _ _ H _ I h=>Calls.Constant_str ⟨.str x,H,I.tok _,Qx0,h⟩
def Gl(X:Cx)(x:Str):Prop:=X.env.kindOf x=yz .globalImplicit
theorem Xd5{E:VP}{pc:LA}{s:Vc}{σ:St}{H:Hp}{x:Str}{u:Vb}{pos:Pos}{Q:VP}(I:Inv X pc σ H s)(hg:Gl X x)(L:X.mg x=yz u)(h:Q u s)
  (hd:Ql0=false:=by decide):Vh Q7 X.A QD4 Q E s:=
 Viw I.ok.kind hg (Calls.loadGlobal_global Qs0 L h) hd
theorem Xaw{E:VP}{pc:LA}{s:Vc}{σ:St}{H:Hp}{x:Str}{u:Vb}{pos:Pos}{Q:VP}(I:Inv X pc σ H s)(hg:Gl X x)(hm:X.mg x=yy)(hv:Veo x=yz u)(h:Q u s)
  (L:x ≠ "__name__":=by decide) (hd:Ql0=false:=by decide):Vh Q7 X.A QD4 Q E s:=by
 obtain⟨mb,h1,h2⟩:=I.mod.blt;exact Viw I.ok.kind hg (Calls.loadGlobal_builtin Qs0 hm (by rw[I.ok.blt];exact h1.keeps I.bk) ((h2 x L).trans hv) h) hd
universe e
universe L2
namespace L2
open PySem PySem.Spec PyProof.Rows
def SqL(K:Ve)(H:Hp)(a:Addr)(xs:LW):Prop:=
 Rd H a Qh \/
  ∃(o:Obj) (its:AV) (n:Nat),K.lookup a=yz o/\o.cls=.type "list" /\ o.dict=yy/\o.data=.seq its n/\its.size<=V3/\Vals xs its.toList
def SqT(K:Ve)(H:Hp)(a:Addr)(xs:LW):Prop:=
 Rd H a QW0 \/
  ∃(o:Obj) (its:AV) (n:Nat),K.lookup a=yz o/\o.cls=.type "tuple" /\ o.data=.seq its n/\its.size<=V3/\Vals xs its.toList
noncomputable def Yek:Vb->Option V
 |.none=>yz .non|.bool b=>yz QR7|.int i _=>yz Qb1|.str x _=>yz Qc3|.bytes b _=>yz (.byt b)|.float b _=>yz (.flt b)|.ref a=>yz Qp6|.type n=>yz (.ty n)|_=>yy
theorem RelV.abs{x:V}{u:Vb}(r:RelV x u):Yek u=yz x:=by
 cases x with
 |non=>cases r;rfl|bl _=>cases r;rfl|int _=>obtain⟨t,rfl⟩:=r;rfl|str _=>obtain⟨t,rfl⟩:=r;rfl|byt _=>obtain⟨t,rfl⟩:=r;rfl|flt _=>obtain⟨t,rfl⟩:=r;rfl|ref _=>cases r;rfl|ty _=>cases r;rfl
theorem RelV.inj{x y:V}{u:Vb}(r:RelV x u)(q:RelV y u):x=y:=U6 (r.abs.symm.trans q.abs)
theorem Vals.inj:∀ {xs ys:LW} {us:LV},Vals xs us->Vals ys us->xs=ys
 |_,_,_,.nil,.nil=>rfl|_,_,_,.cons r t,.cons r' t'=>by rw[r.inj r',Vals.inj t t']
section
variable{X:Cx}{pc:LA}{σ:St}{H:Hp}{s:Vc}{a:Addr}{xs ys:LW}
theorem SqL.of{K:Ve}(h:H a=yz Qh):SqL K H a xs:=.inl QB5
theorem SqT.of{K:Ve}(h:H a=yz QW0):SqT K H a xs:=.inl QB5
theorem Inv.list(I:Inv X pc σ H s)(h:SqL X.K H a xs):∃its:LV,Vals xs its/\PlainL s.heap a its.toArray/\QA<=V3:=by
 rcases h with h|⟨o,its,n,hk,L,hd,hs,hz,r⟩;·obtain⟨z,its,n,r,e⟩:=h.ok I.hok;exact⟨its,r,⟨_,n,e,rfl,rfl,rfl⟩,z⟩
 ·refine⟨its.toList,r,⟨o,n,I.kIn a o hk,L,hd,by simpa using hs⟩,?_⟩;have e:=r.length;simp only[U8]at e;omega
theorem Inv.tuple(I:Inv X pc σ H s)(h:SqT X.K H a xs):∃its:LV,Vals xs its/\Vc8 s.heap a its.toArray/\QA<=V3:=by
 rcases h with h|⟨o,its,n,hk,L,hs,hz,r⟩;·obtain⟨z,its,r,p⟩:=h.ok I.hok;exact⟨its,r,p,z⟩
 ·refine⟨its.toList,r,⟨o,I.kIn a o hk,L,n,by simpa using hs⟩,?_⟩;have e:=r.length;simp only[U8]at e;omega
theorem Inv.list_inj(I:Inv X pc σ H s)(h:SqL X.K H a xs)(h':SqL X.K H a ys):xs=ys:=by
 obtain⟨its,r,⟨o,n,e,_,_,d⟩,_⟩:=I.list h;obtain⟨L,r',⟨o',n',e',_,_,d'⟩,_⟩:=I.list h';rw[e]at e';cases e';rw[d]at d';injection d' with d1 _;have:its=L:=by simpa using congrArg Array.toList d1
 subst this;exact r.inj r'
theorem Inv.tuple_inj(I:Inv X pc σ H s)(h:SqT X.K H a xs)(h':SqT X.K H a ys):xs=ys:=by
 obtain⟨its,r,⟨o,e,_,n,d⟩,_⟩:=I.tuple h;obtain⟨L,r',⟨o',e',_,n',d'⟩,_⟩:=I.tuple h';rw[e]at e';cases e';rw[d]at d';injection d' with d1 _;have:its=L:=by simpa using congrArg Array.toList d1
 subst this;exact r.inj r'
universe e
noncomputable abbrev Cx.wish(X:Cx)(E:VP):Cx:={ X with xe:=E}
theorem Cx.Ok.wish{X:Cx}(ok:X.Ok)(E:VP):QS2.Ok:=
 QH
theorem Cx.Ok.unwish{X:Cx}{E:VP}(ok:QS2.Ok):X.Ok:=
 QH
section
variable{X:Cx}{pc:LA}{σ:St}{H:Hp}{s:Vc}{E:VP}
theorem Inv.wish(I:Inv X pc σ H s)(E:VP):Inv QS2 pc σ H s:=⟨I.ok.wish E,I.os,I.bare,I.base,I.loc,I.cell,I.free,I.freeC,I.pin,I.hok,I.len⟩
theorem Inv.unwish(I:Inv QS2 pc σ H s):Inv X pc σ H s:=⟨I.ok.unwish,I.os,I.bare,I.base,I.loc,I.cell,I.free,I.freeC,I.pin,I.hok,I.len⟩
theorem Inv.quiet{pc:LA}{σ:St}{H:Hp}{s:Vc}(I:Inv X pc σ H s):interactive X.env=false:=by simp[interactive,I.ok.kind]
universe e
abbrev TG:=V->St->Hp->Qs4->Prop
abbrev TGs:=LW->St->Hp->Qs4->Prop
def PG(X:Cx)(L:Expr)(t:TG):Prop:=
 ∀(pc:LA) (s:Vc) (σ:St) (H:Hp) (v:V) (u:Vb) (Q:St->Hp->Prop),Inv X pc σ H s->RelV v u->t v σ H Q ->
  Vh Q7 X.A (assign L X.env u) (λ_ s'=>∃ aa H',Inv X pc aa H' s'/\Q aa H') X.xe s
def PGs(X:Cx)(ts:LX)(t:TGs):Prop:=
 ∀(pc:LA) (s:Vc) (σ:St) (H:Hp) (vs:LW) (us:LV) (Q:St->Hp->Prop),Inv X pc σ H s->Vals vs us->t vs σ H Q ->
  Vh Q7 X.A (assignInOrder ((Vbn ts X.env).map Qt5) us) (λ_ s'=>∃ L H',Inv X pc L H' s'/\Q L H') X.xe s
abbrev Yel:=V->V->V->Hp->Q86->Prop
def Yem(X:Cx)(t:Yel):Prop:=
 ∀(pc:LA) (s:Vc) (σ:St) (H:Hp) (o i v:V) (ov L u:Vb) (Q:Hp->Prop),Inv X pc σ H s->RelV o ov->RelV i L->RelV v u->t o i v H Q ->
  Vh Q7 X.A (setItem ov L u) (λ_ s'=>∃H',Inv X pc σ H' s'/\Q H') X.xe s
section
variable{X:Cx}{pos:Pos}
noncomputable def X1f(i:Nat):TG:=λv σ H Q=>Q Qg1 H
theorem X2f{i:Nat}{x:Str}(hN:X.N.Nodup)(hi:X.N[i]?=yz x)(hx:Loc X.env.scope x)(hf:X.fn x=yx\/X.env.scope.names.lookup x=yz .local:=by first|exact .inl rfl|exact .inr rfl|assumption):PG X Qc1 (X1f i):=by intro pc s σ H v u Q I r h;exact Vi1 (Xbi I hN hi hx r (λs' L=>⟨_,H,L,h⟩) hf)
noncomputable def X6k:TGs:=λvs σ H Q=>vs=[]/\Q σ H
noncomputable def X1g(t:TG)(u:TGs):TGs:=λvs σ H Q=>∃v r,vs=v::r/\t v σ H λL H'=>u r L H' Q
theorem X2g:PGs X [] X6k:=by intro pc s σ H vs us Q I r h;obtain⟨e,h⟩:=h;subst e;cases r;exact assignInOrder_nil ⟨σ,H,I,h⟩
theorem Xx2{e:Expr}{es:LX}{t:TG}{u:TGs}(h1:PG X e t)(h2:PGs X es u)
  (hs:(Vbn QI7 X.env).map Qt5=assign e X.env::QI2.map Qt5:=by rfl):PGs X QI7 (X1g t u):=by
 intro pc s σ H vs us Q I r h;obtain⟨v,vr,e1,h⟩:=h;subst e1;cases r with
 |cons r L=>rw[hs];refine Vio (thn (h1 pc s σ H _ _ _ I r h) λ_ s1 ⟨σ1,H1,I1,q1⟩=>?_);exact h2 pc s1 σ1 H1 _ _ Q I1 L q1
noncomputable def Yen(K:Ve)(n:Nat)(t:TGs):TG:=λv σ H Q=>∃a xs,v=.ref a/\SqT K H a xs/\QA=n/\t xs σ H Q
theorem X6l{es:LX}{k:Nat}{t:TGs}{n:Nat}(hc:X.calm=yx)(h:PGs X es t)
  (hn:QI2.length=n:=by rfl) (L:QI2.findIdx? Qu5=none:=by rfl):PG X (.Tuple es k pos) (Yen X.K n t):=by
 intro pc s σ H v u Q I r hw;obtain⟨a,xs,e1,hq,hl,hw⟩:=hw;subst e1;cases r;obtain⟨its,rv,ht,hz⟩:=I.tuple hq;refine assign_Tuple_tuple QG0 ht (by simp[hn,<-hl,rv.length]) L λh' hx=>?_;have I1:Inv X pc σ H QV:=I.kept (t':=s.toks) λb o e=>hx b o (Uq QN6) e;exact h pc _ σ H xs _ Q I1 (by simpa using rv) hw
universe e
structure It where
 go:Nat->Hp->Prop
 yld:Nat->Hp->V->Hp->Prop
 stop:Nat->Hp->Prop
def Xaj(X:Cx)(pc:LA)(H:Hp)(b:Addr):Prop:=
 H b=yy/\b≠X.env.locals/\b ∉ X.fs/\Qc/\QP/\∀p∈X.pn++pc,p.1≠b
theorem Inv.fpOk{X:Cx}{pc:LA}{σ:St}{H H':Hp}{s:Vc}{b:Addr}(I:Inv X pc σ H s)(hb:s.heap.objs.size<=b)(hn:H' b=yy):Xaj X pc H' b:=by
 refine⟨hn,Vep (Uh I.lt hb),I.nofs hb,.inr (V2 I.sz hb),λx c e z=>?_,λp L z=>?_⟩;·obtain⟨v,q⟩:=I.cell x c e;exact aB0 (Uh q.lt Qv3) QM3
 ·exact aB0 (Uh (Vy (I.pin p L).1) Qv3) QM3
structure Turn(P:Ue)(w:Uy)(K:Ve)(tg:Expr)(J:It)(fp:LR)(it:Addr)(tn:Nat->Heap->Prop):Prop where
 mem:it∈fp
 obj:∀i h,tn i h->∀b∈fp,∃o,h.get? b=yz o/\∀v,o.data≠.cell v
 keep:∀i h h',tn i h->(∀b∈fp,∀o,h.get? b=yz o->h'.get? b=yz o)->tn i h'
 item:∀(X:Cx),X.prog=P->X.w=w->X.K=K->X.calm=yx->∀(i:Nat) (pc:LA) (s:Vc) (σ:St) (H:Hp) (E:VP),Inv X pc σ H s->QO2->tn i s.heap->J.go i H ->
  Vh Q52 X.A QK5 (λr s1=>∃u,r=yz u /\
   Vh Q52 X.A Qr4 (λ_ s2=>∃x H',Inv X pc σ H' s2/\RelV x u/\J.yld i H x H'/\tn Qb2 s2.heap/\∀b∈fp,H' b=yy) E s1) E s
 done:∀(X:Cx),X.prog=P->X.w=w->X.K=K->X.calm=yx->∀(i:Nat) (pc:LA) (s:Vc) (σ:St) (H:Hp) (E:VP),Inv X pc σ H s->QO2->tn i s.heap->J.stop i H ->
  Vh Q52 X.A QK5 (λr s1=>r=yy/\Inv X pc σ H s1) E s
 self:∀(A:U7) (i:Nat) (s:Vc) (Q:VP) (E:VP),tn i s.heap->Q QY1 s->Vh Q52 A (pyIter QY1) Q E s
def PIE(X:Cx)(pc:LA)(σ:St)(tg:Expr)(R:It->Hp->Prop)(L:Vb)(s2:Vc):Prop:=
 ∃(it:Addr) (fp:LR) (tn:Nat->Heap->Prop) (J:It) (H':Hp),L=.ref it/\Inv X pc σ H' s2/\Turn X.prog X.w X.K tg J fp it tn/\tn 0 s2.heap/\(∀b∈fp,Xaj X pc H' b)/\R J H'
theorem Xmu{M:Model}{A:U7}{E:VP}{s:Vc}{tg:Expr}{it:Addr}{u:Vb}{o:Obj}{n:String}{vs:AV}{Q:Unit->Vc->Prop}(ho:s.heap.get? it=yz o)(hc:o.cls=.type n)(hd:o.data=.fields vs)
  (hn:QL.contains n=yw) (L:Q () s):Vh M A Qr4 Q E s:=by
 unfold Vez;cases tg<;>first
  |exact Vf L
  | (cases u<;>first
    |exact Vf L
    | (refine Va (wpAny_load ho ?_)
       rw[hc,hd];show Vh M A (if (QL.contains n&&vs[0]?==yz (Vcy _))=yx then _ else _) Q E s;rw[iN0 (by intro h;rw[hn,Vdr]at h;cases h)]
       exact Vf L))
noncomputable def Itl(K:Ve)(a:Addr):It:=
 ⟨λi H=>∃xs x,SqL K H a xs/\xs[i]?=yz x,λi H x H'=>H'=H/\∀xs,SqL K H a xs->xs[i]?=yz x,λi H=>∃xs,SqL K H a xs/\QA<=i⟩
noncomputable def Itt(K:Ve)(a:Addr):It:=
 ⟨λi H=>∃xs x,SqT K H a xs/\xs[i]?=yz x,λi H x H'=>H'=H/\∀xs,SqT K H a xs->xs[i]?=yz x,λi H=>∃xs,SqT K H a xs/\QA<=i⟩
noncomputable def Itr(lo:Int)(n:Nat):It:=⟨λi _=>i<n,λi H x H'=>H'=H/\x=.int Qb7,λi _=>n<=i⟩
theorem Xt9{P:Ue}{w:Uy}{K:Ve}{tg:Expr}(a it:Addr):Turn P w K tg (Itl K a) [it] it (λi h=>h.IsListIter it a i) where
 mem:=by simp
 obj:=λi h st b hb=>by
  have e:b=it:=by simpa using hb
  subst e;obtain⟨o,e,c,d⟩:=st;exact QF1
 keep:=λi h h' st k=>st.at λo e=>k it QB o e
 item:=by intro X hP hw hK hc i pc s σ H E I hf st hg;subst hP hw hK;obtain⟨xs,x,hq,hx⟩:=hg;obtain⟨its,rv,p,hz⟩:=I.list hq;obtain⟨u,hu,ru⟩:=rv.get hx;obtain⟨f0,f1,f2,f3,f4,f5⟩:=hf it QB;refine wpAny_pyNext_list_item st p.isList (x:=u) Qr3 λh' L sb=>?_;have I1:Inv X pc σ H QV:=I.turned (t':=s.toks) QU1 f0 f1 f3 f4 f5;obtain⟨o,e,c,d⟩:=id L;exact⟨u,rfl,Xmu (s:=QV) e c d QR ⟨x,H,I1,ru,⟨rfl,λys hy=>by rw[I.list_inj hy hq];exact hx⟩,L,λb hb=>QU4.1⟩⟩
 done:=by intro X hP hw hK hc i pc s σ H E I hf st hg;subst hP hw hK;obtain⟨xs,hq,hx⟩:=hg;obtain⟨its,rv,p,hz⟩:=I.list hq;obtain⟨f0,f1,f2,f3,f4,f5⟩:=hf it QB;have hl:=rv.length;exact wpAny_pyNext_list_end QG0 st p.isList QH2 λh' eb=>QF
 self:=λ_ _ _ _ _ st h=>wpAny_pyIter_listiter st h
theorem Xsa{P:Ue}{w:Uy}{K:Ve}{tg:Expr}(a it:Addr):Turn P w K tg (Itt K a) [it] it (λi h=>h.IsTupleIter it a i) where
 mem:=by simp
 obj:=λi h st b hb=>by
  have e:b=it:=by simpa using hb
  subst e;obtain⟨o,e,c,d⟩:=st;exact QF1
 keep:=λi h h' st k=>st.at λo e=>k it QB o e
 item:=by intro X hP hw hK hc i pc s σ H E I hf st hg;subst hP hw hK;obtain⟨xs,x,hq,hx⟩:=hg;obtain⟨its,rv,p,hz⟩:=I.tuple hq;obtain⟨u,hu,ru⟩:=rv.get hx;obtain⟨f0,f1,f2,f3,f4,f5⟩:=hf it QB;refine wpAny_pyNext_tuple_item st (show s.heap.IsTuple a its.toArray from p) (x:=u) Qr3 λh' L sb=>?_;have I1:Inv X pc σ H QV:=I.turned (t':=s.toks) QU1 f0 f1 f3 f4 f5;obtain⟨o,e,c,d⟩:=id L;exact⟨u,rfl,Xmu (s:=QV) e c d QR ⟨x,H,I1,ru,⟨rfl,λys hy=>by rw[I.tuple_inj hy hq];exact hx⟩,L,λb hb=>QU4.1⟩⟩
 done:=by intro X hP hw hK hc i pc s σ H E I hf st hg;subst hP hw hK;obtain⟨xs,hq,hx⟩:=hg;obtain⟨its,rv,p,hz⟩:=I.tuple hq;obtain⟨f0,f1,f2,f3,f4,f5⟩:=hf it QB;have hl:=rv.length;exact wpAny_pyNext_tuple_end QG0 st (show s.heap.IsTuple a its.toArray from p) QH2 λh' eb=>QF
 self:=λ_ _ _ _ _ st h=>wpAny_pyIter_tupleiter st h
theorem Xsb{P:Ue}{w:Uy}{K:Ve}{tg:Expr}(it:Addr)(lo:Int)(n:Nat):Turn P w K tg (Itr lo n) [it] it (λi h=>IsRangeIter h it (lo+(i:Nat)*1) ((n:Int)-(i:Nat)) 1) where
 mem:=by simp
 obj:=λi h st b hb=>by
  have e:b=it:=by simpa using hb
  subst e;exact⟨_,st,λv z=>by have z':Data.fields _=Data.cell v:=z;cases z'⟩
 keep:=λi h h' st k=>k it QB _ st
 item:=by intro X hP hw hK hc i pc s σ H E I hf st hg;subst hP hw hK;obtain⟨f0,f1,f2,f3,f4,f5⟩:=hf it QB;have W:=Walks.range (prog:=X.prog) (w:=X.w) QG0 it lo 1 n;refine W.item i s _ _ hg st λv h' tk hv L kk=>?_;obtain⟨t,rfl⟩:=hv;have I1:Inv X pc σ H QN2:=I.turned (λb o hb e=>kk b o (by simpa using hb) e) f0 f1 f3 f4 f5;refine⟨_,rfl,Xmu (s:=QN2) (n:="range_iterator") L rfl rfl QR ⟨.int Qb7,H,I1,⟨t,?_⟩,QZ5,L,λb hb=>QU4.1⟩⟩;rw[Int.mul_one]
 done:=by intro X hP hw hK hc i pc s σ H E I hf st hg;subst hP hw hK;obtain⟨f0,f1,f2,f3,f4,f5⟩:=hf it QB;exact wpAny_pyNext_range_end QG0 st (by have:n<=i:=hg;omega) λh' eb=>QF
 self:=λ_ _ _ _ _ st h=>wpAny_pyIter_rangeiter st h
universe L2
namespace L2
open PySem PySem.Spec PyProof.Rows
section
variable{X:Cx}{tg:Expr}
theorem Xx3{pc:LA}{σ:St}{H:Hp}{s:Vc}{R:It->Hp->Prop}{E:VP}{lo hi:Int}{t u v:Tok}{tk:Nat}(I:Inv X pc σ H s)(h1:-Ql7<=lo)(h2:lo<2^62)(h3:-Ql7<=hi)(h4:hi<2^62)
  (q:R (Itr lo QE7.toNat) H):Vh Q7 X.A (pyIter QA0) (PIE X pc σ tg R) E QE1:=by
 refine wpAny_pyIter_range (IsRange.new ..) (small_one h1 h2 h3 h4) ?_;have L:Inv X pc σ H QE1:=I.kept λb o e=>Vm _ e
 refine⟨(s.heap.push Q4).objs.size,[(s.heap.push Q4).objs.size],_,_,H,rfl,
  L.kept (t':=tk) λb o e=>Vm _ e,Xsb _ lo QE7.toNat,?_,λb hb=>?_,q⟩
 ·have e1:lo+Qn1*1=lo:=by simp
  have e2:Qh2-Qn1=Vev lo hi 1:=by rw[rangeSize_one];split<;>omega
  show IsRangeIter _ _ (lo+Qn1*1) (Qh2-Qn1) 1;rw[e1,e2];exact Vw _ rfl
 ·have e:b=(s.heap.push Q4).objs.size:=by simpa using hb
  subst e;exact L.fpOk QO (L.hok.fresh QO)
noncomputable def Xa4(fp:LR)(h:Heap):LA:=fp.filterMap λb=>(h.get? b).map λo=>(b,o)
theorem Xcs{fp:LR}{h:Heap}{b:Addr}{o:Obj}(hb:b∈fp)(e:h.get? b=yz o):(b,o)∈Xa4 fp h:=Ve0.mpr ⟨b,hb,by rw[e];rfl⟩
theorem Xua{fp:LR}{h:Heap}{p:Addr×Obj}(hp:p∈Xa4 fp h):p.1∈fp/\h.get? p.1=yz p.2:=by
 obtain⟨b,hb,e⟩:=Ve0.mp hp;cases q:h.get? b with
 |none=>rw[q]at e;cases e|some o=>rw[q]at e;have L:(b,o)=p:=U6 e;subst L;exact⟨hb,q⟩
theorem Inv.pinned{pc:LA}{σ:St}{H:Hp}{s:Vc}{fp:LR}(I:Inv X pc σ H s)(hf:∀b∈fp,Xaj X pc H b)(ho:∀b∈fp,∃o,s.heap.get? b=yz o/\∀v,o.data≠.cell v):Inv X (pc++Xa4 fp s.heap) σ H s:=
 I.pins_of λp hp=>Q66.elim (λz=>I.pin p (Ul _ z)) λz=>by obtain⟨hb,e⟩:=Xua z;obtain⟨f0,f1,f2,_⟩:=hf p.1 hb;obtain⟨o,L,d⟩:=ho p.1 hb;rw[e]at L;cases L;exact⟨e,f0,f1,f2,d⟩
theorem Inv.unpinned{pc pl:LA}{σ:St}{H:Hp}{s:Vc}(I:Inv X (pc++pl) σ H s):Inv X pc σ H s:=I.pins_of λp L=>I.pin p (Ul _ Qe4)
universe e
universe L2
namespace L2
open PySem PySem.Spec PyProof.Rows
abbrev R2:=V->V->Hp->VK->Prop
def OpR(X:Cx)(f:Vb->Vb->Sem Vb)(r:R2):Prop:=
 ∀(pc:LA) (s:Vc) (σ:St) (H:Hp) (x y:V) (v u:Vb) (Q:VK),Inv X pc σ H s->RelV x v->RelV y u->r x y H Q ->
  Vh Q7 X.A Ql5 Qh0 X.xe s
def Xge(X:Cx)(f:Vb)(r:LW->Hp->VK->Prop):Prop:=
 ∀(pc:LA) (s:Vc) (σ:St) (H:Hp) (xs:LW) (us:LV) (Q:VK),Inv X pc σ H s->Vals xs us->r xs H Q ->
  Vh Q7 X.A (call f us) Qh0 X.xe s
def Yeo(X:Cx)(r:V->Hp->(Bool->Hp->Prop)->Prop):Prop:=
 ∀(pc:LA) (s:Vc) (σ:St) (H:Hp) (x:V) (v:Vb) (Q:Bool->Hp->Prop),Inv X pc σ H s->RelV x v->r x H Q ->
  Vh Q7 X.A (truthy v) (TP X pc σ Q) X.xe s
section
variable{X:Cx}{a b:Expr}
def CMul(i j:Int):Prop:=(-Qk7<i/\i<2^64)\/(-Qk7<j/\j<2^64)
theorem CMul.ok{i j:Int}(h:CMul i j):IntMulOk i j:=by
 rcases h with⟨h1,h2⟩|⟨h1,h2⟩;·exact .of_left Qz2
 ·exact .of_right Qz2
noncomputable def Yca:HO->Bool
 |.lst _=>yx|.ins _ _ _=>yx|_=>yw
theorem Xcc{pc:LA}{s:Vc}{σ:St}{H:Hp}{a:Addr}{o:HO}(I:Inv X pc σ H s)(h:H a=yz o)(p:Yca o=yx):∃ob,s.heap.get? a=yz ob/\ob.cls≠.type "tuple":=by
 cases o with
 |lst xs=>obtain⟨_,its,n,_,e⟩:(ll xs)<=V3/\∃(its:LV) (n:Nat),Vals xs its/\s.heap.get? a=yz Q5:=I.hok a _ h;exact⟨_,e,(by show Vcr "list" ≠ .type "tuple";decide+kernel)⟩|ins C dx fs=>have x:=I.hok a _ h;obtain⟨_,_,_,e,_⟩:=x;exact⟨_,e,(by show Vcg C≠.type "tuple";exact λz=>by cases z)⟩|_=>exact aB0 (show yw=yx from p) U5
def X6m(K:Ve)(x:V)(H:Hp)(k:Bool):Prop:=
 match x with
 |.non=>k=yw|.bl b=>k=b|.int i=>k=Q25|.str y=>y.length<=V3/\k=((y.length:Int) != 0)|.byt y=>y.size<=V3/\k=((y.size:Int) != 0)|.ref p=>(∃xs,SqL K H p xs/\k = !xs.isEmpty)\/(∃xs,SqT K H p xs/\k = !xs.isEmpty)\/∃kvs,H p=yz QX6/\k = !kvs.isEmpty|_=>False
theorem Xsc{κ:Type}{kvs:List Qv6}{vs:List Qa6}(r:KV kvs vs):(!vs.isEmpty) = !kvs.isEmpty:=by cases r<;>rfl
theorem Xiw{xs:LW}{its:LV}(r:Vals xs its):(!its.toArray.isEmpty) = !xs.isEmpty:=by cases r<;>simp
theorem Xfa:(V3:Nat)<2^63:=by rw[Vcz];decide
theorem X6n:Yeo X (λx H Q=>∃k,X6m X.K x H k/\Q k H):=by
 intro pc s σ H x v Q I rx h;obtain⟨k,e,q⟩:=h;have hl:=Xfa;have hs:V3=16777216:=Vcz;cases x with
 |non=>cases rx;have L:k=false:=e;subst L;exact truthy_none Qk3|bl b=>cases rx;have L:k=b:=e;subst L;exact Vb7 Qk3|int i=>obtain⟨t,rfl⟩:=rx;have L:k=Q25:=e;subst L;exact PySem.P.truthy_int Qk3|str y=>obtain⟨t,rfl⟩:=rx;obtain⟨hy,L⟩:y.length<=V3/\k=((y.length:Int) != 0):=e;subst L;exact PySem.P.truthy_str Q0 QJ4|byt y=>obtain⟨t,rfl⟩:=rx;obtain⟨hy,L⟩:y.size<=V3/\k=((y.size:Int) != 0):=e;subst L;exact PySem.W.truthy_bytes Q0 QJ4|ref p=>
  cases rx;have L:(∃xs,SqL X.K H p xs/\k = !xs.isEmpty)\/(∃xs,SqT X.K H p xs/\k = !xs.isEmpty)\/∃kvs,H p=yz QX6/\k = !kvs.isEmpty:=e;rcases L with⟨xs,hx,L⟩|⟨xs,hx,L⟩|⟨kvs,hx,L⟩;·subst L;obtain⟨its,r,pl,hz⟩:=I.list hx;have aa:=r.length;exact wpAny_truthy_list pl.isList Qn2 QS1
  ·subst L;obtain⟨its,r,pl,hz⟩:=I.tuple hx;have aa:=r.length;exact truthy_tuple pl Qn2 QS1
  subst L;obtain⟨hz,hS,vs,r,m⟩:(ll kvs)<=V3/\(p==Vb0)=yw/\∃vs,KV kvs vs/\s.heap.DictOf (Xj6 X.prog X.w) p vs:=I.hok p _ hx;have aa:(ll kvs)=ll vs:=Vdk r;exact wpAny_truthy_dict hS m Q0 ⟨H,I.tok _,by rw[Xsc r];exact q⟩|_=>exact(show False from e).elim
theorem Xsd{x:V}{us:LV}(r:Vals [x] us):∃u,us=[u]/\RelV x u:=by
 cases r with
 |cons L r2=>cases r2;exact⟨_,rfl,L⟩
theorem X1h{x y:V}{us:LV}(r:Vals [x,y] us):∃u L,us=[u,L]/\RelV x u/\RelV y L:=by
 cases r with
 |cons r1 r2=>
  cases r2 with
  |cons r3 r4=>cases r4;exact⟨_,_,rfl,r1,r3⟩
theorem Xub(hc:X.calm=yx):Xge X (.builtin "max") (λxs H Q=>∃i j,xs=QZ0/\Q Q12 H):=by
 intro pc s σ H xs us Q I r h;obtain⟨i,j,rfl,q⟩:=h;obtain⟨u,w',rfl,⟨t,rfl⟩,⟨t',rfl⟩⟩:=X1h r;refine max_two_ints QG0 λh' tk k=>Qq2;by_cases L:j>i;·rw[iP0 L,iP0 L];exact Qx0
 ·rw[iN0 L,iN0 L];exact Qx0
theorem Xuc(hc:X.calm=yx):Xge X (.builtin "min") (λxs H Q=>∃i j,xs=QZ0/\Q Q22 H):=by
 intro pc s σ H xs us Q I r h;obtain⟨i,j,rfl,q⟩:=h;obtain⟨u,w',rfl,⟨t,rfl⟩,⟨t',rfl⟩⟩:=X1h r;refine min_two_ints QG0 λh' tk k=>Qq2;by_cases L:j<i;·rw[iP0 L,iP0 L];exact Qx0
 ·rw[iN0 L,iN0 L];exact Qx0
universe e
universe L2
namespace L2
open PySem PySem.Spec PyProof.Rows
universe L2
namespace L2
open PySem PySem.Spec PyProof.Rows
structure Room(k:Nat)(A:U7):Prop where
 gd:A.guards=yz []
 hd:A.handled=yy
 dp:A.depth+3*k+5<Vii
 un:A.units+16*k+200<Vbh
abbrev Sp:=LW->Hp->VK->XK->Prop
abbrev CXT:=List Env->Hp->Vc->XK->Vb->Vc->Prop
structure Env0(P:Ue)(w:Uy)(K:Ve)(mg:Str->OV)(base:Heap)(A:U7)(outer:List Env)(s:Vc)(H:Hp):Prop where
 frames:A.frames=yz outer
 mod:Mod K mg base
 bs:∀b o,base.get? b=yz o->s.heap.get? b=yz o/\H b=yy
 bsz:base.objs.size<=s.heap.objs.size
 funs:s.heap.FunFrames base outer
 frf:∀b∈frs outer,H b=yy
 hok:HOk P w H s.heap
 bare:AllBare s.gens
def CE(outer:List Env)(P:Ue)(w:Uy)(H:Hp)(s:Vc)(Q:VK)(u:Vb)(s':Vc):Prop:=
 ∃v H',s'.os=s.os/\AllBare s'.gens/\Un (frs outer) [] H H' s.heap s'.heap/\HOk P w H' s'.heap/\RelV v u/\Q v H'
def CR(CX:CXT)(outer:List Env)(P:Ue)(w:Uy)(H:Hp)(s:Vc)(Q:VK)(E:XK)(r:Result)(s':Vc):Prop:=
 match r with
 |.ok (.ret u)=>CE outer P w H s Q u s'|.ok _=>False|.error e=>CX outer H s E e s'
structure FnOk(P:Ue)(w:Uy)(K:Ve)(mg:Str->OV)(base:Heap)(CX:CXT)(k:Nat)(f:Addr)(fd:Vd5)(ps:LS)(sp:Sp):Prop where
 len:∀vs H Q E,sp vs H Q E->ll vs=ll ps
 run:∀(A:U7) (outer:List Env) (s:Vc) (H:Hp) (args:Args) (us:LV) (vs:LW) (Q:VK) (E:XK),Room k A->Env0 P w K mg base A outer s H->BindsTo s fd args QH1->Vals vs us->sp vs H Q E ->
  Vdh Q52 A (.call QZ1 args) (CR CX outer P w H s Q E) s
section
variable{X:Cx}{pc:LA}{σ:St}{H:Hp}{s s':Vc}
theorem Inv.env0(I:Inv X pc σ H s):Env0 X.prog X.w X.K X.mg X.base X.A X.stack s H:=
 ⟨I.ok.frames,I.ok.mod,I.bs,V2 I.ok.bsz I.sz,I.stack,I.stkFree,I.hok,I.bare⟩
theorem Inv.after{Q:VK}{u:Vb}(I:Inv X pc σ H s)(h:CE X.stack X.prog X.w H s Q u s'):EP X pc σ Q u s':=by obtain⟨v,H',os,bare,un,hok,r,q⟩:=h;obtain⟨hh,g,d,t,L⟩:=s';obtain rfl:L=s.os:=os;exact⟨v,H',I.call (h':=hh) (g':=g) (d':=d) (t':=t) (ch:=[]) un hok bare (λb z=>aB0 z QB),r,q⟩
universe e
def Binds(K:Ve)(fd:Vd5)(ps:LS)(ds:LV):Prop:=
 ∀(s:Vc) (us:LV),K.In s.heap->Qc6.length=ll ps->BindsTo s fd Qi3 (ps.zip Qc6)
theorem Binds.all{K:Ve}{fd:Vd5}{ps:LS}(h:∀us:LV,ll us=ll ps->Vf0 fd Qi3=pure QH1):Binds K fd ps []:=λs us _ hl=>by rw[Vu]at hl ⊢;exact .of_eq (h us hl)
structure FnScope(N P:LS)(sc:U1):Prop where
 kind:sc.kind=.function
 co:sc.isCoroutine=yw
 gen:sc.isGenerator=yw
 nd:N.Nodup
 pre:N.take P.length=P
 par:∀x∈P,sc.names.lookup x=yz .local\/sc.names.lookup x=yz .cell
 nofree:∀y∈sc.names,y.2≠.free
theorem Xlt{Vaq:Str->Option Vfd}{x:Str}:∀ {binds:List QR6} {m:Str->OV},Qk2->bindL Vaq binds m x=m x
 |[],_,_=>rfl| (n,v)::r,m,h=>by
  unfold bindL;rw[Xlt λw L=>h w Qj6];split
  ·have:x≠n:=by rintro rfl;exact h v Uv
   simp[this]
  rfl
theorem Xlu{Vaq:Str->Option Vfd}{x:Str}:∀ {binds:List QR6} {m:Str->OV},Qk2->bindC Vaq binds m x=m x
 |[],_,_=>rfl| (n,v)::r,m,h=>by
  unfold bindC;rw[Xlu λw L=>h w Qj6];split;·rfl
  ·have:x≠n:=by rintro rfl;exact h v Uv
   simp[this]
theorem Xlv{Vaq:Str->Option Vfd}{x:Str}{v:Vb}:∀ {P:LS} {vs:LV} {i:Nat} {m:Str->OV},P.Nodup->P[i]?=yz x->vs[i]?=yz v->Vaq x=yz .local ->
  bindL Vaq Q76 m x=yz v
 |[],_,_,_,_,h,_,_=>by simp at h|_::_,[],_,_,_,_,h,_=>by simp at h|p::P,w::vs,0,m,nd,h1,h2,hk=>by simp at h1 h2;subst h1;subst h2;show bindL Vaq Qo0 m p=_;unfold bindL;rw[Xlt λv hv=>Q82.1 QB3.1,iP0 hk];simp|p::P,w::vs,i+1,m,nd,h1,h2,hk=>by show bindL Vaq Qo0 m x=_;unfold bindL;exact Xlv (i:=i) Q82.2 Qt3 Qs3 hk
theorem Xlw{Vaq:Str->Option Vfd}{x:Str}{v:Vb}:∀ {P:LS} {vs:LV} {i:Nat} {m:Str->OV},P.Nodup->P[i]?=yz x->vs[i]?=yz v->Vaq x≠yz .local ->
  bindC Vaq Q76 m x=yz v
 |[],_,_,_,_,h,_,_=>by simp at h|_::_,[],_,_,_,_,h,_=>by simp at h|p::P,w::vs,0,m,nd,h1,h2,hk=>by simp at h1 h2;subst h1;subst h2;show bindC Vaq Qo0 m p=_;unfold bindC;rw[Xlu λv hv=>Q82.1 QB3.1,iN0 hk];simp|p::P,w::vs,i+1,m,nd,h1,h2,hk=>by show bindC Vaq Qo0 m x=_;unfold bindC;exact Xlw (i:=i) Q82.2 Qt3 Qs3 hk
noncomputable def start(N:LS)(vs:LW):St:=vs.map yz++Vj (N.length-ll vs) yy
noncomputable def Xse(CX:CXT)(P:Ue)(w:Uy)(K:Ve)(mg:Str->OV)(base:Heap)(N:LS)(qual:Str)(scope:U1)(f:Addr)(cd:Vb)(A:U7)(outer:List Env)(s:Vc)(H:Hp)(E:XK):Cx where
 prog:=P
 w:=w
 K:=K
 mg:=mg
 base:=base
 A:=A.deeper QC
 N:=N
 s₀:=s
 H₀:=H
 env:=envOfC qual scope s.heap.objs.size f cd
 outer:=outer
 stack:=envOfC qual scope s.heap.objs.size f cd::outer
 ex:=[]
 calm:=yx
 fn:=λ_=>yx
 pn:=[]
 xe:=λe s'=>Vh Q52 (A.deeper QC) (leaving QC e) (λ_ L=>CX outer H s E e L) (λe' L=>CX outer H s E e' L) s'
theorem Xne{sc:U1}{n:Nat}{x:Str}(h:sc.names.lookup x=yz .cell):∃c,(Vbw n sc.names []).lookup x=yz c:=by have q:=Vfe sc.names n [] QB5;exact Vch.mp q
theorem Xlx{CX:CXT}{P:Ue}{w:Uy}{K:Ve}{mg:Str->OV}{base:Heap}{N ps:LS}{qual:Str}{scope:U1}{f:Addr}{cd:Vb}{A:U7}{outer:List Env}{s s1:Vc}{H:Hp}{E:XK}{us:LV}{vs:LW}
  (S:FnScope N ps scope) (hd:A.handled=yy) (e0:Env0 P w K mg base A outer s H) (hl:Q57=ll ps) (r:Vals vs us)
  (x:InCallC s s.heap.objs.size (bindL QC.kindOf QH1 λ_=>yy) (Vbw (s.heap.objs.size+1) scope.names []) (bindC QC.kindOf QH1 λ_=>yy) s1):
  Inv QM0 [] (start N vs) H s1:=by
 have ac:Q67<=N.length:=by have:=congrArg Uk S.pre;rw[U9]at this;omega
 obtain⟨h1,tk,rfl,hk⟩:=x.done;have aa:∀b:Addr,b ∉ QM0.ex:=λb z=>aB0 (show b∈([]:LR) from z) QB
 refine⟨⟨e0.mod,S.kind,rfl,rfl,Vi _,λy z c h1 h2=>?_,λy L=>?_,λy c _ h=>?_,λ_=>hd,Around.frames_deeper e0.frames,.inr QZ5,λb z=>aB0 z Qe7,e0.bs,e0.bsz,λb _ _=>aa b,λb z=>aB0 z Qe7,e0.funs,e0.frf⟩,
  rfl,e0.bare,Un.kept hk,⟨_,x.toInCall.ns,λi y v h1 h2 h3=>?_⟩,λy c h=>⟨_,x.cell y c h⟩,e0.hok.fresh QO,λy c h=>?_,λp hp=>aB0 (show p∈([]:LA) from hp) QB,e0.hok.kept hk,?_⟩
 ·exact name_of_addr x.apart (Vcx h1) (Vcx h2)
 ·have L:scope.names.lookup y=yz .cell\/scope.names.lookup y=yz .free:=L;rcases L with L|L;·exact Xne L
  ·exact aB0 rfl (S.nofree _ (Vcx L))
 ·exact Vc9 Qs2
 ·have hi:i<ll vs:=by
   unfold start at h2;by_cases hi:i<ll vs;·exact hi
   ·rw[Uz QW1]at h2;rw[Vdn]at h2;split at h2<;>cases h2
  have ha:vs[i]?=yz v:=by
   unfold start at h2;rw[Vv QW1,Vx]at h2;cases e:vs[i]? with
   |none=>rw[e]at h2;cases h2|some a=>rw[e]at h2;cases h2;rfl
  obtain⟨u,hu,rv⟩:=r.get ha;have hp:ps[i]?=yz y:=by rw[<-S.pre,List.getElem?_take_of_lt Q0];exact h1
  have ab:ps.Nodup:=by rw[<-S.pre];exact S.nd.sublist (List.take_sublist _ _)
  refine⟨u,rv,?_⟩;rcases S.par y (U0 hp) with k|k;·exact .inl ⟨k,Xlv ab hp hu k⟩
  ·obtain⟨c,e⟩:=Xne (n:=s.heap.objs.size+1) k;refine .inr ⟨.inl k,c,e,?_⟩;have q:=x.cell y c e;rw[Xlw ab hp hu (by show scope.names.lookup y≠_;rw[k];decide)]at q;exact q
 ·exact e0.hok.fresh (Vc9 Qs2)
 ·unfold start;show _=N.length;rw[V4,Vg,Vhv];omega
universe L2
namespace L2
open PySem PySem.Spec PyProof.Rows
universe L2
namespace HT
open PySem PyProof.Rows
section
variable{prog:Ue}{w:Uy}{A:U7}{E:VP}{s:Vc}
theorem cat_tup{t b:Addr}{vs L:LV}{Q:VP}(ht:Vc8 s.heap t vs.toArray)(hb:Vc8 s.heap b L.toArray)(hv:vs≠[])
  (h1:L=[]->Q Qd3 s) (h2:L≠[]->Q QA0 {s with heap:=s.heap.push {cls:=.type "tuple",data:=.seq Qx6.toArray} })
  (hsz:Q57+ll L<=V3):Vh Q3 A (Vds .Add Qd3 (.ref b)) Q E s:=by
 obtain⟨⟨cls,dd,data,sl⟩,ho,hc,n,hd⟩:=id ht;obtain⟨⟨ah,ab,data2,ae⟩,aa,af,n2,ac⟩:=id hb;simp only at hc hd af ac;subst hc hd af ac;have e:vs.toArray++L.toArray=Qx6.toArray:=by simp
 by_cases hw:L=[]
 ·exact concat_meets QE5 QF5 noFill_tuple_add seq_tuple_add Vhc Vg7 QP6
   (tuple_addW1 t b vs.toArray L.toArray n n2 dd ab sl ae Qq3 (by simp[hw])) ⟨ho,aa,h1 hw⟩
 ·refine concat_meets QE5 QF5 noFill_tuple_add seq_tuple_add Vhc Vg7 QP6
   (tuple_addW2 t b vs.toArray L.toArray n n2 dd ab sl ae Qq3 (by simpa using hw) (by rw[Vo,Vo];exact hsz)) ⟨ho,aa,?_⟩
  rw[e];exact h2 hw
noncomputable def sIx(n d:Nat):Option Int->Nat
 |none=>d|some v=>if v<0 then QG1.toNat else min v.toNat n
theorem X6o(n d:Nat)(hd:d<=n)(o:Option Int):sIx n d o<=n:=by
 cases o with
 |none=>exact hd|some v=>
  show(if v<0 then QG1.toNat else min v.toNat n)<=n;by_cases hv:v<0;·rw[iP0 hv];omega
  ·rw[iN0 hv];exact Vhp _ _
theorem mnc(k n:Nat):min (k:Int) n=((min k n:Nat):Int):=by
 by_cases c:k<=n;·rw[Va7 c,Int.min_eq_left (Int.ofNat_le.mpr c)]
 ·rw[Vf1 QA3,Int.min_eq_right (Int.ofNat_le.mpr QA3)]
theorem Xqi(v:Int)(n d:Nat):(if v<0 then max QG1 0 else min v (n:Int))=((sIx n d QB6:Nat):Int):=by
 show(if v<0 then max QG1 0 else min v (n:Int))=(((if v<0 then QG1.toNat else min v.toNat n):Nat):Int);by_cases hv:v<0;·simp only[iP0 hv];exact(Int.toNat_eq_max _).symm
 ·simp only[iN0 hv];obtain⟨k,rfl⟩:=Int.eq_ofNat_of_zero_le (Int.not_lt.mp hv);rw[Us,mnc]
theorem Xsf(lo hi:Option Int)(n:Nat):Vgh lo hi 1 (n:Int)=(QH0,QC3):=by
 have h1:¬ ((1:Int)<0):=by omega
 unfold Vgh;simp only[h1,if_false];refine Prod.ext ?_ ?_
 ·cases lo with
  |none=>rfl|some v=>exact Xqi v n 0
 cases hi with
 |none=>rfl|some v=>exact Xqi v n n
theorem Xsg(i j:Nat):Veh (i:Int) (j:Int) 1=j-i:=by
 unfold Veh;have h1:(1:Int)>0:=by omega
 simp only[h1,if_true,Int.ediv_one];split<;>omega
theorem slicePart_{v:Vb}{o:Option Int}{Q:Option Int->Vc->Prop}(p:Vfm v o)(h:Q o s):Vh Q3 A (Builtin.Slice.slicePartIndex v) Q E s:=by
 cases p with
 |none=>exact slicePart_none h|int i t=>exact slicePart_int h
theorem sliceApplied_gen{sl:Addr}{vl vu:Vb}{lo hi:Option Int}{n:Nat}{Q:Int×Int×Nat->Vc->Prop}(hs:s.heap.IsSliceOf sl vl vu .none)(pl:Vfm vl lo)(pu:Vfm vu hi)
  (h:Q (QH0,1,sIx n n hi-sIx n 0 lo) s):Vh Q3 A (Vd6 Qg4 (pure (n:Int))) Q E s:=by
 obtain⟨os,aa,ab,L⟩:=id hs;unfold Vd6 Vi6;refine Va (Va (Var aa L (x:=vl) rfl (Va (Var aa L (x:=vu) rfl (Va (Var aa L (x:=.none) rfl Qn5))))));refine Va (slicePart_none ?_);show Vh _ _ (if ((1:Int)==0)=yx then _ else _) _ _ s;rw[iN0 QR];refine Va (slicePart_ pl (Va (slicePart_ pu (Va Qn5))));show Vh _ _ (match Vgh lo hi 1 (n:Int) with|(lo,hi)=>pure (lo,(1:Int),Veh lo hi 1)) _ _ s;rw[Xsf lo hi n];show Vh _ _ (pure (QH0,(1:Int),Veh QH0 QC3 1)) _ _ s;rw[Xsg];exact Vf h
theorem Xx4(xs:AV)(i k:Nat):((Vl k).filterMap λ(m:Nat)=>xs[QQ1.toNat]?).toArray=((xs.toList.drop i).take k).toArray:=by
 have e:(λ(m:Nat)=>xs[QQ1.toNat]?)=λm=>xs[i+m]?:=by
  funext m;have:QQ1.toNat=i+m:=by omega
  rw[this]
 rw[e];have:=pick_run xs i k;rw[Vip]at this;have L:((λx=>xs[x]?)∘λx=>i+x)=λm=>xs[i+m]?:=rfl;rw[L]at this;rw[this]
theorem getItem_tuple_cut{t sl:Addr}{items:AV}{vl vu:Vb}{lo hi:Option Int}{Q:VP}(ht:Vc8 s.heap t items)(hs:s.heap.IsSliceOf sl vl vu .none)(pl:Vfm vl lo)(pu:Vfm vu hi)
  (hw:¬ (sIx items.size 0 lo=0/\sIx items.size items.size hi=items.size))
  (h:Q QA0 {s with heap:=s.heap.push {cls:=.type "tuple",data:=.seq Q8.toArray} })
  (hsz:items.size<=V3):Vh Q3 A (getItem Qd3 Qg4) Q E s:=by
 have L:sizeOk (.seq Q8.toArray):=by show((items.toList.drop (sIx items.size 0 lo)).take Q9).toArray.size<=V3;rw[Vo,U9,Vc2,U8];exact V2 QO6 (V2 Qd4 hsz)
 have hj:sIx items.size items.size hi<=items.size:=X6o _ _ QO hi;obtain⟨os,ab,ae,af⟩:=id hs;have aa:s.TypeIs Qg4 "slice" := ⟨os,ab,ae⟩;unfold getItem
 try with_reducible refine Vak ?_
 first|refine Va Qn5|skip
 refine Va (Vi2 ht.typeIs QR ?_)
 refine Va (Vbz (name:=Vau "__getitem__") ht.typeIs Vbg
  (Va0 Vbg ht.typeIs Vif ?_ (Viq _ _)))
 show Vh _ _ (Vf7 Qd3 >>= _) _ _ s;refine Va (tupleItemsOf_ ht ?_);refine Va (Vci aa ?_);rw[iP0 QR];refine Va (sliceApplied_gen hs pl pu ?_);have ac:¬ (QC0=yx):=by intro q;rw[bA0,bA0]at q;have q1:((sIx items.size 0 lo:Nat):Int)=0:=eq_of_beq q.1.1;have q2:sIx items.size items.size hi-sIx items.size 0 lo=items.size:=eq_of_beq q.2;exact hw ⟨by omega,by omega⟩
 show Vh _ _ (if QC0=yx then _ else _) _ _ s;rw[iN0 ac,Xx4]
 first
  |exact Va (m:=Vcj _) Qo5|exact Va (m:=Vcj _) (Vbo (Va Qi6) L)|exact Va (Va (m:=Vcj _) (Vbo Qi6 L))|exact Va (Va (m:=Vcj _) Qo5)
universe e
universe HT
namespace L2
open PySem PySem.Spec PyProof.Rows
section
variable{lo hi:Option Expr}
noncomputable def Xj7(xs:LW)(lo hi:Option Int):LW:=(xs.drop (HT.sIx QA 0 lo)).take (HT.sIx QA QA hi-HT.sIx QA 0 lo)
theorem Xho(xs:LW)(lo hi:Option Int):(Xj7 xs lo hi).length<=ll xs:=by unfold Xj7;rw[U9,Vc2];exact V2 QO6 Qd4
universe e
universe L2
namespace L2
open PySem PySem.Spec PyProof.Rows
noncomputable def ixN(n:Nat)(i:Int):Option Nat:=if 0<=i then (if i<n then yz i.toNat else yy) else if-(n:Int)<=i then yz QJ6.toNat else yy
noncomputable def atI{α:Type}(xs:List α)(i:Int):Option α:=(ixN QA i).bind λj=>xs[j]?
theorem Xqj{n:Nat}{i:Int}{j:Nat}(h:ixN n i=yz j):seqIndex? i n=yz j/\j<n/\-(n:Int)<=i/\i<n:=by
 unfold ixN at h;by_cases h0:0<=i
 ·rw[iP0 h0]at h;by_cases h1:i<n;·rw[iP0 h1]at h;have e:i.toNat=j:=U6 h;exact⟨by rw[seqIndex_of h0 h1,e],by omega,by omega,h1⟩
  ·rw[iN0 h1]at h;cases h
 rw[iN0 h0]at h;by_cases h1:-(n:Int)<=i;·rw[iP0 h1]at h;have e:QJ6.toNat=j:=U6 h;exact⟨by rw[seqIndex_neg Q0 h1,e],by omega,h1,by omega⟩
 ·rw[iN0 h1]at h;cases h
theorem Xqk{α:Type}{xs:List α}{i:Int}{v:α}(h:atI xs i=yz v):∃j,seqIndex? i QA=yz j/\xs[j]?=yz v/\j<ll xs/\-(ll xs:Int)<=i/\i<ll xs:=by
 unfold atI at h;cases e:ixN QA i with
 |none=>rw[e]at h;cases h|some j=>rw[e]at h;obtain⟨h1,h2,h3,L⟩:=Xqj e;exact⟨j,h1,h,h2,h3,L⟩
def Xj8(b:Expr):Prop:=∀o i,subscripted b yw o i=operate [o,i] (getItem o i)
def IxR(X:Cx)(r:R2):Prop:=
 ∀(value L:Expr) (pc:LA) (s:Vc) (σ:St) (H:Hp) (x y:V) (v u:Vb) (Q:VK),Inv X pc σ H s->RelV x v->RelV y u->r x y H Q ->
  subscripted L yw v u=operate [v,u] (getItem v u)->Vh Q7 X.A (Vf8 value L v u) Qh0 X.xe s
section
variable{X:Cx}{a b:Expr}
noncomputable def Yep(K:Ve):R2:=λx y H Q=>∃p xs i v,x=.ref p/\y=.int i/\SqL K H p xs/\atI xs i=yz v/\Q v H
noncomputable def Yeq(K:Ve):R2:=λx y H Q=>∃p xs i v,x=.ref p/\y=.int i/\SqT K H p xs/\atI xs i=yz v/\Q v H
theorem X2h:IxR X (Yep X.K):=by
 intro value ab pc s σ H x y v u Q I rx ry h hs;obtain⟨p,xs,i,z,rfl,rfl,hq,he,q⟩:=h;cases rx;obtain⟨t,rfl⟩:=ry;obtain⟨its,r,L,hz⟩:=I.list hq;obtain⟨j,h1,h2,h3,h4,h5⟩:=Xqk he;obtain⟨w,ew,aa⟩:=r.get h2;have hl:=r.length;have hn:=Xfa;have fin:EP X pc σ Q w s:=⟨z,H,I,aa,q⟩;by_cases h0:0<=i
 ·have hj:i.toNat=j:=by
   rw[seqIndex_of h0 h5]at h1;exact U6 h1
  exact item_listR L.isList h0 Q0 QR2 fin hs
 have hj:(i+Q63).toNat=j:=by rw[seqIndex_neg Q0 h4]at h1;rw[Vo,<-hl];exact U6 h1
 exact subscriptTail_builtinR (x:=w) L.isList.typeIs slot_list_getitem.lookup
  (wpAny_getItem_list_neg (Q:=λr s'=>r=w/\EP X pc σ Q r s') L.isList Q0 (by rw[Vo]<;>omega) Q0 QR2 Qa5) hs
theorem X6p:IxR X (Yeq X.K):=by
 intro value aa pc s σ H x y v u Q I rx ry h hs;obtain⟨p,xs,i,z,rfl,rfl,hq,he,q⟩:=h;cases rx;obtain⟨t,rfl⟩:=ry;obtain⟨its,r,pl,hz⟩:=I.tuple hq;obtain⟨j,h1,h2,h3,h4,h5⟩:=Xqk he;obtain⟨w,ew,L⟩:=r.get h2;have hl:=r.length;have hn:=Xfa;have fin:EP X pc σ Q w s:=⟨z,H,I,L,q⟩;exact subscriptTail_builtinR (x:=w) pl.typeIs slot_tuple_getitem.lookup
  (getItem_tuple (j:=j) (Q:=λr s'=>r=w/\EP X pc σ Q r s') pl Q0 Q0 (by rw[Vo,<-hl];exact h1) (by simpa using ew) Qa5) hs
theorem Xsh(its:LV)(n j:Nat)(u:Vb):V5 Q53 Q5={cls:=.type "list",data:=.seq (its.set j u).toArray n}:=by simp[V5]
theorem Inv.lst{pc:LA}{σ:St}{H:Hp}{s:Vc}{p:Addr}{xs:LW}(I:Inv X pc σ H s)(h:H p=yz Qh):
  ∃(its:LV) (n:Nat),Vals xs its/\s.heap.get? p=yz Q5/\QA<=V3:=by
 obtain⟨z,its,n,r,e⟩:=I.hok p _ h;exact⟨its,n,r,e,z⟩
theorem Inv.lstUpd{pc:LA}{σ:St}{H:Hp}{s:Vc}{p:Addr}{xs ys:LW}{its its':LV}{n L:Nat}{f:Obj->Obj}(I:Inv X pc σ H s)(h:H p=yz Qh)
  (ho:s.heap.get? p=yz Q5) (hf:f Q5=Qr0) (r:Vals ys its') (hz:QQ4<=V3) (t:Nat):
  Inv X pc σ (upd H p QC2) {s with heap:=s.heap.update p f,toks:=t}:=by
 have e:(s.heap.update p f).get? p=yz Qr0:=by rw[Vbb f ho (by rw[hf]<;>rfl),hf]
 refine I.write (x:=p) (e:=p) (by rw[h];trivial) QG (λb u hb q=>(Vc0 _ _ QU5).trans q) ⟨_,e⟩ ?_;exact⟨hz,its',L,r,e⟩
def Ycb:V->V->V->Hp->Q86->Prop:=λo i v H Q=>∃p xs k j,o=.ref p/\i=.int k/\H p=yz Qh/\ixN QA k=yz j/\Q Qv4
theorem Xx5:Yem X Ycb:=by
 intro pc s σ H o i v ov iv u Q I ro ri rv h;obtain⟨p,xs,k,j,rfl,rfl,hp,hj,q⟩:=h;cases ro;obtain⟨t,rfl⟩:=ri;obtain⟨its,n,r,L,hz⟩:=I.lst hp;obtain⟨h1,h2,h3,h4⟩:=Xqj hj;have hl:=r.length;have hn:=Xfa;have I':Inv X pc σ Qv4 {s with heap:=s.heap.update p (V5 Q53)}:=
  I.lstUpd hp L (Xsh its n j u) (r.set rv j) (by rw[List.length_set];exact hz) s.toks
 by_cases h0:0<=k
 ·have hk:k.toNat=j:=by
   rw[seqIndex_of h0 h4]at h1;exact U6 h1
  exact PySem.W.ki_setAt L h0 Q0 (by rw[Vo,<-hl];exact h4) Q72
 have hk:(k+Q63).toNat=j:=by rw[seqIndex_neg Q0 h3]at h1;rw[Vo,<-hl];exact U6 h1
 exact PySem.W.ki_setBack L Q0 (by rw[Vo,<-hl];exact h3) Q0 Q72
theorem X1i(i:Int)(n d:Nat):max 0 (min (if i<0 then i+(n:Int) else i) n)=((HT.sIx n d QU7:Nat):Int):=by
 show _=(((if i<0 then (i+(n:Int)).toNat else min i.toNat n):Nat):Int);by_cases h:i<0;·rw[iP0 h,iP0 h,Int.min_eq_left Q0,Int.max_comm,<-Int.toNat_eq_max]
 ·rw[iN0 h,iN0 h];obtain⟨k,rfl⟩:=Int.eq_ofNat_of_zero_le (Int.not_lt.mp h);rw[Us,HT.mnc,Int.max_eq_right (Int.natCast_nonneg _)]
theorem Xnf(lo hi:Option Int)(n:Nat):Qz1.1=((HT.sIx n 0 lo:Nat):Int)/\Qz1.2.1=((HT.sIx n n hi:Nat):Int)/\Qz1.2.2=1:=by
 refine⟨?_,?_,rfl⟩
 ·cases lo with
  |none=>simp[Vdx,HT.sIx]|some i=>exact X1i i n _
 cases hi with
 |none=>simp[Vdx,HT.sIx]|some i=>exact X1i i n _
theorem Xmm(its:LV)(lo hi:Option Int):slicePick its.toArray lo hi yy=((its.drop (HT.sIx QW3 0 lo)).take (HT.sIx QW3 QW3 hi-HT.sIx QW3 0 lo)).toArray:=by obtain⟨h1,h2,L⟩:=Xnf lo hi its.toArray.size;unfold slicePick;rw[h1,h2,L];simp only[sliceRange_one,pick_run,Vo]<;>rfl
theorem Xng:Xge X (.builtin "len") (λxs H Q=>∃p ys,xs=Qc5/\Qf1/\Q (.int QQ4) H):=by
 intro pc s σ H xs us Q I r h;obtain⟨p,ys,rfl,hq,q⟩:=h;obtain⟨u,rfl,rx⟩:=Xsd r;cases rx;have hn:=Xfa;rcases hq with hq|hq;·obtain⟨its,r',pl,hz⟩:=I.list hq;have L:=r'.length;exact Calls.call_len_list pl.isList Qi QL0
 ·obtain⟨its,r',pl,hz⟩:=I.tuple hq;have L:=r'.length;exact len_tuple pl Qi QL0
theorem Xnh:Xge X (.type "list") (λxs H Q=>∃p ys,xs=Qc5/\Qf1/\∀l,H l=yy->Q Qo6 Qw4):=by
 intro pc s σ H xs us Q I r h;obtain⟨p,ys,rfl,hq,q⟩:=h;obtain⟨u,rfl,rx⟩:=Xsd r;cases rx;have fin:∀(its:LV),Vals ys its->ll ys<=V3->∀(h':Heap) (c':Nat),(∀b o',s.heap.get? b=yz o'->h'.get? b=yz o') ->
   h'.get? s.heap.objs.size=yz {cls:=.type "list",dict:=yy,data:=.seq its.toArray c',slots:=#[]}->EP X pc σ Q QA0 QV:=λits L hz h' c' kp e=>
  ⟨.ref s.heap.objs.size,_,I.laid (t':=s.toks) kp QO (show ObjOk X.prog X.w _ h' _ QC2 from⟨hz,its,c',L,e⟩),rfl,q _ (I.hok.fresh QO)⟩
 rcases hq with hq|hq;·obtain⟨its,L,pl,hz⟩:=I.list hq;have aa:=L.length;obtain⟨o,ho,hc,n,hd⟩:=pl.isList;exact call_list_seq p QG ho hc hd Q51 Qi
 ·obtain⟨its,L,pl,hz⟩:=I.tuple hq;have aa:=L.length;obtain⟨o,ho,hc,n,hd⟩:=pl;exact call_list_seq p (.inr rfl) ho hc hd Q51 Qi
theorem Xe6:Xge X (.type "tuple") (λxs H Q=>∃p ys,xs=Qc5/\((SqL X.K H p ys/\∀l,H l=yy->Q Qo6 (upd H l Q33))\/(SqT X.K H p ys/\Q QA5 H))):=by
 intro pc s σ H xs us Q I r h;obtain⟨p,ys,rfl,h⟩:=h;obtain⟨u,rfl,rx⟩:=Xsd r;cases rx;rcases h with⟨hq,q⟩|⟨hq,q⟩
 ·obtain⟨its,L,pl,hz⟩:=I.list hq;have aa:=L.length;refine call_tuple_list pl.isList (λh' kp=>?_) Qi;have I1:Inv X pc σ H QV:=I.kept (t':=s.toks) kp;have I2:Inv X pc σ (upd H h'.objs.size Q33) {s with heap:=h'.push {cls:=.type "tuple",data:=.seq its.toArray} }:=
   I1.laid (t':=s.toks) (λb o e=>Vm _ e) QO (show ObjOk X.prog X.w _ _ _ Q33 from⟨hz,its,L,IsTup.new _ _⟩)
  exact⟨.ref h'.objs.size,_,I2,rfl,q _ (I1.hok.fresh QO)⟩
 obtain⟨its,L,pl,hz⟩:=I.tuple hq;exact call_tuple_same pl ⟨.ref p,H,I,rfl,q⟩
variable{e:Expr}
/- xs.append(e),list.index on a module's tuple .. are MtR facts of 06m -/
universe e
universe L2
namespace L2
open PySem PySem.Spec PyProof.Rows
def MtM(X:Cx)(id:String)(r:V->LW->Hp->VK->Prop):Prop:=
 ∀(pc:LA) (s:Vc) (σ:St) (H:Hp) (x:V) (xs:LW) (v:Vb) (us:LV) (Q:VK),Inv X pc σ H s->RelV x v->Vals xs us->r x xs H Q ->
  Vh Q7 X.A (call (.builtin id) (v::us)) Qh0 X.xe s
theorem Vals.one:∀ {x:V} {us:LV},Vals [x] us->∃u,us=[u]/\RelV x u
 |_,_,h=>by cases h with|cons r t=>cases t;exact Qb5
theorem Vals.rep{xs:LW}{us:LV}(h:Vals xs us):∀k:Nat,Vals (Vj k xs).flatten (Vj k us).flatten
 |0=>.nil|k+1=>by rw[Vay,Vay,Va3,Va3];exact Vals.append h (Vals.rep h k)
theorem Xly(its:LV):∀(k:Nat) (acc:LV),
  Vh0 Qh1 acc.toArray (Vj k its.toArray)=(acc++Q46.flatten).toArray
 |0=>λacc=>by simp|k+1=>λacc=>by
  have e:acc.toArray++its.toArray=Qy3.toArray:=by simp
  have L:Qy3++Q46.flatten=acc++(Vj QT4 its).flatten:=by rw[Vay,Va3,Vq]
  rw[<-L,<-Xly its k Qy3,<-e,Vay,Vbv]
section
variable{X:Cx}{pc:LA}{σ:St}{H:Hp}{s:Vc}{l b:Addr}{xs ys zs:LW}
theorem Inv.lset{its its':LV}{n:Nat}{f:AV->AV}{t':Nat}(I:Inv X pc σ H s)(hH:H l=yz Qh)
  (e:s.heap.get? l=yz Q5) (hf:f its.toArray=its'.toArray) (hv:Vals ys its') (hz:QQ4<=V3):
  Inv X pc σ Qw4 {s with heap:=s.heap.update l Qh7,toks:=t' }:=by
 have q:=PySem.IsL.update e f;rw[hf]at q;refine I.write (x:=l) (e:=l) (by rw[hH];exact trivial) QG (λb' u hb L=>(Vc0 s.heap Qh7 QU5).trans L) ⟨_,q⟩ ?_;exact⟨hz,its',_,hv,q⟩
theorem Inv.lnew{its:LV}{t':Nat}(I:Inv X pc σ H s)(hv:Vals ys its)(hz:QQ4<=V3):
  Inv X pc σ (upd H s.heap.objs.size QC2) {s with heap:=s.heap.push {cls:=.type "list",data:=.seq its.toArray},toks:=t' }:=
 I.laid (λ_ _ q=>Vm _ q) QO ⟨hz,its,0,hv,Vw _ rfl⟩
theorem Inv.fresh(I:Inv X pc σ H s):H s.heap.objs.size=none:=I.hok.fresh QO
theorem Inv.lstM(I:Inv X pc σ H s)(L:H l=yz Qh):QA<=V3/\∃(its:LV) (n:Nat),Vals xs its/\QA=ll its/\s.heap.get? l=yz Q5:=by obtain⟨z,its,n,r,e⟩:=I.hok l _ L;exact⟨z,its,n,r,r.length,e⟩
theorem Xhz{n:Nat}(h:n<=V3):Vda n=false:=by unfold Vda;exact decide_eq_false Q0
def X2i:V->LW->Hp->VK->Prop:=λx vs H Q=>∃l xs y,x=.ref l/\vs=[y]/\H l=yz Qh/\QA<V3/\Q .non (upd H l (.lst (xs++[y])))
theorem Xlz:MtM X "list.append" X2i:=by intro pc s σ H x vs v us Q I rx rv h;obtain⟨l,xs,y,rfl,rfl,L,hz,q⟩:=h;cases rx;obtain⟨u,rfl,ru⟩:=rv.one;obtain⟨z,its,n,r,hl,e⟩:=I.lstM L;refine Vei F.slot_list_append Qy0 F.entry_list_append (F.args_list_append_2 _ _) (PySem.list_append l its.toArray n u QW4) QZ6;refine⟨.non,_,I.lset (its':=its++[u]) L e QB (r.append (.cons ru .nil)) ?_,rfl,q⟩;rw[V4,Vfn];omega
def X2j:V->LW->Hp->VK->Prop:=λx vs H Q=>∃l b xs zs,x=.ref l/\vs=[.ref b]/\H l=yz Qh/\H b=yz QT6/\QA+ll zs<=V3/\Q .non (upd H l Qh4)
theorem Xud:MtM X "list.extend" X2j:=by
 intro pc s σ H x vs v us Q I rx rv h;obtain⟨l,b,xs,zs,rfl,rfl,hH,hB,hz,q⟩:=h;cases rx;obtain⟨u,rfl,ru⟩:=rv.one;cases ru;obtain⟨z,its,n,r,hl,e⟩:=I.lstM hH;obtain⟨z2,L,n2,r2,ac,e2⟩:=I.lstM hB;have ab:its.toArray.size+L.toArray.size<=V3:=by rw[Vo,Vo];omega
 have aa:¬ (!its.toArray.isEmpty&&Vda (its.toArray.size+L.toArray.size))=true:=by rw[Xhz ab,Vgz];exact U5
 refine Vei F.slot_list_extend Qy0 F.entry_list_extend (F.args_list_extend_2 _ _)
  (AutoSeq1.list_extend_list_list_0 l its.toArray n b L.toArray n2 aa QW4 Q0) ⟨e,e2,?_⟩
 refine⟨.non,_,I.lset (its':=its++L) hH e QB Qx4 ?_,rfl,q⟩;rw[V4];omega
noncomputable def Yer:R2:=λx y H Q=>∃l b xs zs,x=.ref l/\y=.ref b/\H l=yz Qh/\H b=yz QT6/\QA+ll zs<=V3/\∀p,H p=yy->Q QA5 (upd H p Qh4)
theorem X6q:OpR X (Vds .Add) Yer:=by
 intro pc s σ H x y v u Q I rx ry h;obtain⟨l,b,xs,zs,rfl,rfl,hH,hB,hz,q⟩:=h;cases rx;cases ry;obtain⟨z,its,n,r,hl,e⟩:=I.lstM hH;obtain⟨z2,L,n2,r2,aa,e2⟩:=I.lstM hB;refine PySem.P.add_list e e2 ?_ (by rw[Vo,Vo];omega);have ea:its.toArray++L.toArray=(its++L).toArray:=by simp
 rw[ea];exact⟨.ref _,_,I.lnew (t':=s.toks) Qx4 (by rw[V4];omega),rfl,q _ I.fresh⟩
noncomputable def Yes:R2:=λx y H Q=>∃l k xs,x=.ref l/\y=.int k/\H l=yz Qh/\-(2^63)<=k/\k<2^63/\QA*k.toNat<=V3 /\
 ∀p,H p=yy->Q QA5 (upd H p (.lst (Vj k.toNat xs).flatten))
theorem Xj9{α:Type}(xs:List α)(k:Nat):(Vj k xs).flatten.length=k*ll xs:=by
 induction k with
 |zero=>simp|succ k ih=>rw[Vay,Va3,V4,ih,Nat.succ_mul,Nat.add_comm]
theorem X6r:OpR X (Vds .Mult) Yes:=by
 intro pc s σ H x y v u Q I rx ry h;obtain⟨l,k,xs,rfl,rfl,hH,h1,h2,hz,q⟩:=h;cases rx;obtain⟨t,rfl⟩:=ry;obtain⟨z,its,n,r,hl,e⟩:=I.lstM hH;have aa:its.toArray.size*k.toNat<=V3:=by rw[Vo,<-hl];exact hz
 have ab:¬ its.toArray.size*k.toNat>Qm6/8:=by
  have:(V3:Nat)<=Qm6/8:=by decide
  omega
 have ac:¬ (!Builtin.List.listFitsIndex k)=true:=by rw[fitsIndex_both h1 h2];exact U5
 have L:¬ Vda (its.toArray.size*k.toNat)=true:=by rw[Xhz aa];exact U5
 have ae:Vh0 Qh1 #[] (Vj (if its.toArray.isEmpty=yx then 0 else k.toNat) its.toArray)=(Vj k.toNat its).flatten.toArray:=by
  have f0:∀m:Nat,Vh0 Qh1 #[] (Vj m its.toArray)=(Vj m its).flatten.toArray:=λm=>by have:=Xly its m [];rw[Uw]at this;exact this
  rw[f0];cases its with
  |nil=>simp|cons a r'=>rw[iN0 QB]
 refine Vi7 (T:="list") (U:="int") QR Qy0 (λs'=>typeIs_int s' k t) noFill_list_mul F.fills_int_mul F.slot_int_rmul repeat_list F.slot_int_index.lookup
  (Vei F.slot_int_rmul (typeIs_int s k t) F.entry_int_rmul (F.args_int_rmul_2 _ _) (int___rmul___int_list k t l its.toArray n)
   ⟨e,rfl,Qy0,Vei F.slot_list_mul Qy0 F.entry_list_mul (F.args_list_mul_2 _ _) (AutoListH.list___mul___list_int_3 l its.toArray n k t ac ab L) QZ6⟩)
 rw[ae];exact⟨.ref _,_,I.lnew (t':=s.toks) (r.rep k.toNat) (by rw[Xj9,Vfo];exact hz),rfl,q _ I.fresh⟩
universe e
universe L2
namespace Att
open PySem PySem.W PySem.Calls PyProof.Rows
theorem Xix{P:Params}{h:Heap}:∀(ns:LI) (vs:LV),WellAll P h vs QV3->Vbi vs ns:=by
 intro ns;induction ns with
 |nil=>intro vs w;rw[Vbq]at w;cases w;exact .nil|cons n ns ih=>
  intro vs w;rw[Ua]at w;cases w with
  |cons a b=>cases a;exact .cons _ _ (ih _ b)
theorem Xue{l:OpenLaw}{n:Nat}(hn:l.most=yz n){P:Params}{h:Heap}{args:List WData}{L:LV}
  (aa:l.row.toRowW.claim.pre args=yx) (ae:WellAll P h L args):
  ∃a vs ns,L=[Vcg a]/\args=[WData.list QV3]/\h.get? a=yz Q41/\Vbi vs ns/\Q77<=n:=by
 have af:WShape.hasAll [] args [.list .int]=true:=QO4.1;have hc:l.pre.holds [] {args:=args}=true:=QO4.2;obtain⟨d,r,rfl,h1,h2⟩:=hasAllW_cons af;obtain rfl:=hasAllW_nil h2;obtain⟨xs,rfl,h3⟩:=hasW_list h1;obtain⟨ns,rfl⟩:=items_int h3;have ab:Q77<=n:=by
  unfold OpenLaw.pre at hc;have h4:(WTm.not (.lt (.lit (.int (n:Int))) (.len (.arg 0)))).holds [] {args:=[.list (ns.map .int)]}=true:=by have h4:=(holds_andW hc).1;rw[hn]at h4;exact h4
  have h5:=condW_of h4 (w_not (w_lt w_lit (w_len_list (w_arg rfl))));rw[Vg]at h5;refine Nat.le_of_not_lt λq=>?_;have q':(n:Int)<((ll ns:Nat):Int):=by omega
  first
   | (rw[decide_eq_true q']at h5;exact aB0 h5 QR)| (simp at h5;omega)
 cases ae with
 |cons w1 w2=>
  cases w2;cases w1 with
  |list ho ac=>exact⟨_,_,ns,rfl,rfl,ho,Xix ns _ ac,ab⟩
theorem Xuf(l:OpenLaw)(args:List WData):l.row.toRowW.claim.post args Qm1 args=true:=
 postW_of (r:=l.row.toRowW) (X:=Qb6)
  (show WShape.has [] Qm1 .bool=yx by first|rfl|decide|simp[WShape.has,WShape.arms,WShape.armsAll])
  (show(WTm.eq .res (.lit Qm1)).value [] {args:=args,res:=yz Qm1,after:=args}=yz (.bool Qb6) from w_eq_bool (w_res rfl) w_lit) rfl
theorem attach_call{l:OpenLaw}{n:Nat}{q:Ue}{loose:LS}{XP:(Str->OV)->Heap->Prop}{YP:Uy->Heap->Prop}{d:DefRec}
  (hn:l.most=yz n) (ak:d.params.defaults=[])
  (call:∀(w:Uy) (s₀ L:Vc) (mg mb:Str->OV) (fa:Addr) (o:Obj) (pm cd aa:Vb) (a:Addr) (vs:LV) (ns:LI),
   Ground q loose [] XP w s₀ mg mb L.heap->YP w L.heap ->
   L.heap.get? fa=yz o->o.data=.func (docDef d.name d.params d.body d.scope pm cd aa)->L.heap.CodeRec cd d.name->mg d.name=yz QS6 ->
   L.heap.get? a=yz Q41->Vbi vs ns->ll ns<=n->L.gens=#[] ->
   Vdh (Vk l.prog w) callerA (.call QS6 ⟨[.ref a],[]⟩) (λr s'=>r=.ok (.ret Qm1)/\OldK L.heap s'.heap/\s'.os=L.os/\AllBare s'.gens) L):
  WalkO q loose XP YP l.row.toRowW d [] (λf vs=>PySem.call f vs):=by
 intro w s₀ L mg mb G Y fa o pm cd aa dV kV ho hd ai hD ah hg am an as ae al ap aj ao;obtain rfl:dV=.none:=Dflts.none hD ak;obtain rfl:kV=.none:=Dflts.noKw hD;obtain⟨a,vs,ns,rfl,rfl,af,ab,ac⟩:=Xue hn ae aj;refine enter_call (Vgm (call w s₀ L mg mb fa o pm cd aa a vs ns G Y ho (fd_plain hd) ai ah af ab ac hg) λr s' hq=>?_);obtain⟨rfl,h2,h3,h4⟩:=hq;exact⟨.inl ⟨.bool yx,.bool yx,[],rfl,λ_=>rfl,.bool yx,Xuf l _,λ_=>⟨Vi3,λ_ hm=>(nomatch hm)⟩⟩,h2,h3,h4⟩
universe Att
namespace L2
open PySem PySem.Spec PyProof.Rows
theorem Xl0:∀ {vs:LV} {ns:LI},Vbi vs ns->Vals (ns.map V.int) vs
 |_,_,.nil=>.nil|_,_,.cons n t h=>.cons ⟨t,rfl⟩ (Xl0 h)
universe L2
namespace L2
open PySem PySem.Spec PyProof.Rows
universe L2
/- THE LAST THEOREM (shape;LID,My.* are yours):
   My.Adr: a structure of the addresses that your layer names (classes,functions);My.Txt K t: a structure (Prop) of the equations over K;
   My.txt_mk:{K} {implicit addresses ..} (e1:nsIn K Um "law"=yz (yz QZ1)) (e2:K.lookup f=yz ⟨oc,od,.func (fnOf "law" "law" params body scope dV kV doc pm an cdv ct),sl⟩) (e3:codeIn K cdv "law"=yx) ..:∃t,My.Txt K t
set_option maxRecDepth 100000 in
set_option maxHeartbeats 0 in
theorem PySem.Challenge.cw_LID_holds : PySem.Challenge.rw_LID.Holds := by
 w_on;o_law;k_head;(case hw=>w_witness2)
 k_fill
 refine L2.walk_of (l:=PySem.Challenge.rw_LID) (n:=63) (k:=40) (x:="script") (CX:=λw=>..) (sp:=λ_=>My.sp_law) rfl QR rfl ⟨rfl,by decide,by decide⟩ (λw h Y=>PySem.W.kIn_of Y) ?F ?S ?C
 case F =>
  intro w mg fa h KX G hmg;have T:∃t,My.Txt (L2.KOf KX) t:=by
   dsimp only[L2.KOf]                          -- K must stand as «<heap const> w.params» for k_is;refine' My.txt_mk ?e1 ?e2 ?e3 ..
   (case e1=>PySem.W.k_is)                    -- in the order: a name -> its address -> its object -> its parts
   (case e2=>PySem.W.k_is)
   ..
  obtain⟨t,T⟩:=T;have e0:=hmg.symm.trans (Vdl KX G T.law);cases e0                                       -- fa is the law's own address;exact⟨_,λs u=>.of_eq rfl,λbase kb nb=>My.law_fn T kb nb⟩     -- if «.of_eq rfl» comes too early: refine' ⟨_,?b,λbase kb nb=>My.law_fn T kb nb⟩;exact λs u=>.of_eq rfl
 case S=>exact λw H a ns hl hO hS=>..
 case C=>exact ..
(the tactic k_is has no namespace: write k_is) -/
namespace L2
open PySem PySem.Spec PyProof.Rows
noncomputable def Xay(s:Stmt):Ve2:=match s with
 |.FunctionDef _ a _ _ _ _ _ _ _ _=>a|_=>{posonlyargs:=[],args:=[],vararg:=yy,kwonlyargs:=[],kw_defaults:=[],kwarg:=yy,defaults:=[]}
noncomputable def Yh(s:Stmt):LM:=match s with
 |.FunctionDef _ _ b _ _ _ _ _ _ _=>b|_=>[]
noncomputable def Xu(s:Stmt):U1:=match s with
 |.FunctionDef _ _ _ _ _ _ sc _ _ _=>sc|_=>{kind:=.function,names:=[],isGenerator:=yw,isCoroutine:=yw}
structure Fun(K:Ve)(x qual:Str)(st:Stmt)(f:Addr)(fd:Vd5):Prop where
 ex:∃(oc:Vb) (od:Option Addr) (kV doc pm:Vb) (an:Option Addr) (cdv ct:Vb) (osl:Array OV),
  fd=Vck x qual (Xay st) (Yh st) (Xu st) .none kV doc pm an cdv ct/\K.lookup f=yz ⟨oc,od,.func fd,osl⟩/\Vg0 K cdv qual=yx
 kp:Vdt K QZ1=yx
section
variable{K:Ve}
theorem Fun.binds{x qual:Str}{st:Stmt}{f:Addr}{fd:Vd5}{ps:LS}(F:Fun K x qual st f fd)
  (h:∀(kV aa pm:Vb) (an:Option Addr) (L ct:Vb) (us:LV),ll us=ll ps->Vf0 QS Qi3=pure QH1):Binds K fd ps []:=by
 obtain⟨oc,od,kV,aa,pm,an,L,ct,ac,rfl,lk,ab⟩:=F.ex;exact .all (h kV aa pm an L ct)
theorem X6s{x qual:Str}{st:Stmt}{f:Addr}{oc:Vb}{od an:Option Addr}{ab:Array (OV)}{kV aa pm L ct:Vb}(l:K.lookup f=yz ⟨oc,od,.func QS,ab⟩)
  (c:Vg0 K L qual=yx) (k:Vdt K QZ1=yx):Fun K x qual st f QS:=⟨⟨oc,od,kV,aa,pm,an,L,ct,ab,rfl,l,c⟩,k⟩
universe e
universe L2
universe e
section
namespace Z
open PySem PySem.Spec PyProof.Rows L2
noncomputable def Xaz:Bool->Vn->Array Vn->Nat->Nat->Nat->StateT V8 Sem Qt:=sortPriv% PySem.Builtin.gallop
noncomputable def byd(lf:Bool)(k:Vn)(xs:Array Vn)(i:Nat):StateT V8 Sem (Option Bool):=do
 let x <- Vdy xs i
 if lf then lt' x k else do
  let r <- lt' k x
  pure (r.map (!·))
noncomputable abbrev G3:=Option Qt×Nat×Nat
noncomputable def gUp(lf:Bool)(k:Vn)(xs:Array Vn)(q n h m:Nat):StateT V8 Sem G3:=forIn [0:n] QV7 λ_ z=>
 if z.2.2 ≥ m then pure Qn else do
  let r <- byd lf k xs (q+(h+z.2.2))
  match r with
  |some y=>if !y then pure Qn else pure Q02|_=>pure QX0
noncomputable def gDn(lf:Bool)(k:Vn)(xs:Array Vn)(q n h m:Nat):StateT V8 Sem G3:=forIn [0:n] QV7 λ_ z=>
 if z.2.2 ≥ m then pure Qn else do
  let r <- byd lf k xs (q+(h-z.2.2))
  match r with
  |some y=>if y then pure Qn else pure Q02|_=>pure QX0
noncomputable def Xmv(lf:Bool)(k:Vn)(xs:Array Vn)(q n l r:Nat):StateT V8 Sem Qt:=do
 let c <- forIn [0:n] (QB4:G3) λ_ z=>
  if z.2.1 ≥ z.2.2 then pure Qn else do
   let r <- byd lf k xs (q+(z.2.1+QV2/2))
   match r with
   |some y=>if y then pure (.yield (yy,z.2.1+QV2/2+1,z.2.2)) else pure (.yield (yy,z.2.1,z.2.1+QV2/2))|_=>pure QX0
 match c.1 with
 |some r=>pure r|none=>pure (yz c.2.2)
theorem Xv{α β:Type}{m m':StateT V8 Sem α}{f L:α->StateT V8 Sem β}(h:m=m')(k:∀x,f x=L x):(m >>= f)=(m' >>= L):=by rw[h,show f=L from funext k]
theorem X6t(lf:Bool)(k:Vn)(xs:Array Vn)(q n h:Nat):Xaz lf k xs q n h=(do
  let r <- byd lf k xs (q+h)
  match r with
  |some z=>
   if z then do
    let c <- gUp lf k xs q n h Q37
    match c.1 with
    |some r=>pure r|none=>Xmv lf k xs q n (h+c.2.1+1) (h+min c.2.2 Q37)
   else do
    let c <- gDn lf k xs q n h QH7
    match c.1 with
    |some r=>pure r|none=>Xmv lf k xs q n (h+1-min c.2.2 QH7) (h-c.2.1)
  |_=>pure yy):=by
 refine Xv rfl λr=>?_;cases r with
 |none=>rfl|some z=>
  refine ite_congr rfl (λ_=>Xv rfl λc=>?_) λ_=>Xv rfl λc=>?_
  ·obtain⟨c1,c2⟩:=c;cases c1 with
   |some r=>rfl|none=>refine Xv rfl λd=>?_;obtain⟨L,d2⟩:=d;cases L<;>rfl
  obtain⟨c1,c2⟩:=c;cases c1 with
  |some r=>rfl|none=>refine Xv rfl λd=>?_;obtain⟨L,d2⟩:=d;cases L<;>rfl
section
variable{prog:Ue}{w:Uy}{A:U7}{E:VP}{s:Vc}{lf:Bool}{k:Vn}{xs:Array Vn}{q n:Nat}{st:V8}{Q:Option Nat->V8->Prop}(b:Nat->Bool)
  (ask:∀i,i<n->∀Q':Option Bool->V8->Prop,Q' (yz (b i)) st->wpS Q3 A E s (byd lf k xs Q17) Q' st)
  (mono:∀i j,i<=j->j<n->b j=yx->b i=yx)
  (hQ:∀m,m<=n->QS3->(∀i,m<=i->i<n->b i=yw)->Q QU3 st)
include ask mono hQ
theorem Xni{l r:Nat}(hl:l<=r)(hr:r<=n)(h1:∀i,i<l->b i=yx)(h2:∀i,r<=i->i<n->b i=yw):wpS Q3 A E s (Xmv lf k xs q n l r) Q st:=by
 unfold Xmv;refine Vt (Vdb (Va9 (I:=λx c L=>L=st/\∃l r,c=QB4/\l<=r/\r<=n/\r+x<=n+l/\(∀i,i<l->b i=yx)/\∀i,r<=i->i<n->b i=yw)
  (Q:=λc L=>L=st/\∃m,c=(yy,m,m)/\m<=n/\QS3/\∀i,m<=i->i<n->b i=yw) ?step ?fin ⟨rfl,l,r,rfl,hl,hr,by omega,h1,h2⟩) ?post)
 case post=>rintro c L ⟨rfl,m,rfl,hm,a1,a2⟩;exact Vz (hQ m hm a1 a2)
 case fin=>
  rintro c L ⟨rfl,l,r,rfl,c1,c2,c3,c4,c5⟩;have:l=r:=by omega
  subst this;exact Qj2
 case step=>
  rintro x c L _ hx ⟨rfl,l,r,rfl,c1,c2,c3,c4,c5⟩;dsimp only;by_cases g:l ≥ r
  ·rw[iP0 g];have:l=r:=by omega
   subst this;exact Vz Qj2
  rw[iN0 g];refine Vt QY4;cases e:b (l+(r-l)/2) with
  |true=>exact Vz ⟨rfl,_,r,rfl,by omega,c2,by omega,λi hi=>mono i _ Q0 Q0 e,c5⟩|false=>
   refine Vz ⟨rfl,l,_,rfl,by omega,by omega,by omega,c4,λi hi hn=>?_⟩;cases e':b i with
   |false=>rfl|true=>rw[mono _ i hi hn e']at e;cases e
theorem Xql{h:Nat}(hh:h<n):wpS Q3 A E s (Xaz lf k xs q n h) Q st:=by
 rw[X6t];refine Vt (ask h hh _ ?_);dsimp only;cases e0:b h with
 |true=>
  rw[iP0 rfl];unfold gUp;refine Vt (Vdb (Va9 (I:=λx c L=>L=st/\∃u v,c=QA4/\u<v/\x<v/\h+u<n/\b QG7=yx)
   (Q:=λc L=>L=st/\∃u v,c=QA4/\u<v/\h+u<n/\b QG7=yx/\(n<=h+v\/h+v<n/\b (h+v)=yw)) ?step ?fin Qk0) ?post)
  case post=>
   rintro c L ⟨rfl,u,v,rfl,c1,c2,c3,c4⟩;refine Xni b ask mono hQ (l:=h+u+1) (r:=h+min v Q37) Qa0 Qa0 (λi hi=>mono i QG7 Q0 c2 c3) λi hi hn=>?_;rcases c4 with c4|⟨c4,c5⟩;·omega
   ·cases e':b i with
    |false=>rfl|true=>rw[mono _ i Q0 hn e']at c5;cases c5
  case fin=>rintro c L ⟨rfl,u,v,rfl,c1,c2,c3,c4⟩;exact QB0
  case step=>
   rintro x c L _ hx ⟨rfl,u,v,rfl,c1,c2,c3,c4⟩;dsimp only;by_cases g:v ≥ n-h;·rw[iP0 g];exact Vz QB0
   ·rw[iN0 g];have g:h+v<n:=by omega
    refine Vt (ask _ g _ ?_);cases e:b (h+v) with
    |true=>exact Vz Qb0|false=>exact Vz Qi0
 |false=>
  rw[iN0 QR]
  unfold gDn;refine Vt (Vdb (Va9 (I:=λx c L=>L=st/\∃u v,c=QA4/\u<v/\x<v/\u<=h/\b (h-u)=yw)
   (Q:=λc L=>L=st/\∃u v,c=QA4/\u<v/\u<=h/\b (h-u)=yw/\(h+1<=v\/v<=h/\b QF7=yx)) ?step2 ?fin2 Qk0) ?post2)
  case post2=>
   rintro c L ⟨rfl,u,v,rfl,c1,c2,c3,c4⟩;refine Xni b ask mono hQ (l:=h+1-min v QH7) (r:=h-u) Qa0 Qa0 QG5 λi hi hn=>?_
   ·rcases c4 with c4|⟨c4,c5⟩;·rw[Vf1 c4,Vad]at hi;exact aB0 hi (Nat.not_lt_zero _)
    ·rw[Va7 (Nat.le_succ_of_le c4)]at hi;exact mono i QF7 (by clear mono hQ ask;omega) (Vcl Qd4 hh) c5
   cases e':b i with
   |false=>rfl|true=>rw[mono _ i hi hn e']at c3;cases c3
  case fin2=>rintro c L ⟨rfl,u,v,rfl,c1,c2,c3,c4⟩;exact QB0
  case step2=>
   rintro x c L _ hx ⟨rfl,u,v,rfl,c1,c2,c3,c4⟩;dsimp only;by_cases g:v ≥ h+1;·rw[iP0 g];exact Vz ⟨rfl,u,v,rfl,c1,c3,c4,.inl g⟩
   ·rw[iN0 g];refine Vt QY4;cases e:b QF7 with
    |false=>exact Vz Qb0|true=>exact Vz Qi0
universe e
section
variable{le:α->α->Prop}{W o c la lb:List α}
structure JnK(le:α->α->Prop)(W o la lb:List α):Prop where
 pm:(o++(la++lb)).Perm W
 so:o.Pairwise le
 sx:∀x∈o,∀y,y∈la\/y∈lb->le x y
 sa:la.Pairwise le
 sb:lb.Pairwise le
theorem JnK.ta(h:JnK le W o (c++la) lb)(hx:∀x∈c,∀y∈lb,le x y):JnK le W QY7 la lb:=by
 obtain⟨s1,s2,s3⟩:=Vaa.mp h.sa;refine⟨?_,Vaa.mpr ⟨h.so,s1,λx hx y L=>h.sx x hx y (.inl Qe4)⟩,λx q y L=>?_,s2,h.sb⟩;·have:=h.pm;simpa only[Vq] using this
 ·rcases V9.mp q with q|q;·exact h.sx x q y (L.imp Qi7 id)
  ·rcases L with L|L;·exact s3 x q y L
   ·exact hx x q y L
theorem JnK.tb(h:JnK le W o la (c++lb))(hx:∀x∈c,∀y∈la,le x y):JnK le W QY7 la lb:=by
 obtain⟨s1,s2,s3⟩:=Vaa.mp h.sb;refine⟨?_,Vaa.mpr ⟨h.so,s1,λx hx y L=>h.sx x hx y (.inr Qe4)⟩,λx q y L=>?_,h.sa,s2⟩;·refine List.Perm.trans ?_ h.pm;rw[Vq];refine List.Perm.append_left o ?_;rw[<-Vq,<-Vq];exact List.perm_append_comm.append_right lb
 ·rcases V9.mp q with q|q;·exact h.sx x q y (L.imp id Qi7)
  ·rcases L with L|L;·exact hx x q y L
   ·exact s3 x q y L
def Srt(le:α->α->Prop)(W l:List α):Prop:=l.Perm W/\l.Pairwise le
theorem JnK.fin(h:JnK le W o la lb)(hx:∀x∈la,∀y∈lb,le x y):Srt le W (o++la++lb):=by refine⟨by rw[Vq];exact h.pm,?_⟩;rw[Vq];exact Vaa.mpr ⟨h.so,Vaa.mpr ⟨h.sa,h.sb,hx⟩,λx q y L=>h.sx x q y QQ6⟩
theorem JnK.fin'(h:JnK le W o la lb)(hx:∀x∈lb,∀y∈la,le x y):Srt le W (o++lb++la):=by refine⟨by rw[Vq];exact(List.perm_append_comm.append_left o).trans h.pm,?_⟩;rw[Vq];exact Vaa.mpr ⟨h.so,Vaa.mpr ⟨h.sb,h.sa,hx⟩,λx q y L=>h.sx x q y QQ6.symm⟩
universe e
noncomputable def Xeq:Array Vn->Array Vn->StateT V8 Sem Ql:=sortPriv% PySem.Builtin.mergeLo
noncomputable def Xgf:Nat->StateT V8 Sem Unit:=sortPriv% PySem.Builtin.setMinGallop
theorem X2k(g:Nat):Xgf g=modify λs=>Vh1 (Vaq s) Qr1 Qs1 g QL7:=rfl
noncomputable abbrev Xsi:=Option Ql×Array Vn×Nat×Nat×Nat×Nat×Nat
noncomputable abbrev LpM:=StateT V8 Sem (ForInStep Xsi)
section
variable(a b:Array Vn)
noncomputable def Xb7(o:Array Vn)(i j:Nat):Array Vn:=o++a.extract i a.size++b.extract j b.size
noncomputable def Xgg(o:Array Vn)(i j:Nat):Array Vn:=o++b.extract j b.size++a.extract i a.size
noncomputable def lo3(o:Array Vn)(i j g c d:Nat):LpM:=do
 let x <- Vdy a i
 if i+1+1==a.size then pure (.done (yz (Xgg a b Qz Qb2 j),o.push x,i+1,j,g,c,d))
 else if c<7&&d<7 then pure (.done QW2)
 else pure (.yield QW2)
noncomputable def lo2(o:Array Vn)(i j g c d:Nat):LpM:=do
 let x <- Vdy b j
 if j+1==b.size then pure QN0
 else
  let y <- Vdy a i
  let r <- Xaz yx y b Qa2 (b.size-Qa2) 0
  match r with
  |some k=>
   if k>0 then
    if j+1+k==b.size then pure (.done (yz (Xb7 a b QI1 i Qj5),o.push x++b.extract Qa2 Qj5,i,j+1+k,g,c,k))
    else lo3 a b QI1 i Qj5 g c k
   else lo3 a b Qz i Qa2 g c k|_=>pure QN0
noncomputable def lo1(o:Array Vn)(i j g c d:Nat):LpM:=do
 Xgf g
 let x <- Vdy b j
 let r <- Xaz yw x a i (a.size-i) 0
 match r with
 |some k=>
  if k>0 then
   if i+k+1==a.size then pure (.done (yz (Xgg a b Qs QJ3 j),o++a.extract i QJ3,i+k,j,g,k,d))
   else if i+k==a.size then pure (.done (yz (Xb7 a b Qs QJ3 j),o++a.extract i QJ3,i+k,j,g,k,d))
   else lo2 a b Qs QJ3 j g k d
  else lo2 a b o i j g k d|_=>pure (.done (yz Qb4,o,i,j,g,c,d))
noncomputable def Xx6(t:Nat)(z:Xsi):StateT V8 Sem Xsi:=forIn [0:t] z λ_ z=>if z.2.2.2.2.1>1 then lo1 a b z.2.1 z.2.2.1 z.2.2.2.1 QK4 z.2.2.2.2.2.1 z.2.2.2.2.2.2 else lo1 a b z.2.1 z.2.2.1 z.2.2.2.1 z.2.2.2.2.1 z.2.2.2.2.2.1 z.2.2.2.2.2.2
noncomputable abbrev X6u:=Option Ql×Array Vn×Nat×Nat×Nat×Nat
noncomputable def Xx7(t g:Nat)(z:X6u):StateT V8 Sem X6u:=forIn [0:t] z λ_ z=>do
 let y <- Vdy b z.2.2.2.1
 let x <- Vdy a z.2.2.1
 let r <- lt' y x
 match r with
 |some q=>
  if q then do
   let y <- Vdy b z.2.2.2.1
   if z.2.2.2.1+1==b.size then pure (.done (yz (Xb7 a b (z.2.1.push y) z.2.2.1 (z.2.2.2.1+1)),z.2.1.push y,z.2.2.1,z.2.2.2.1+1,0,z.2.2.2.2.2+1))
   else if z.2.2.2.2.2+1 ≥ g then pure (.done QR0)
   else pure (.yield QR0)
  else do
   let x <- Vdy a z.2.2.1
   if z.2.2.1+1+1==a.size then pure (.done (yz (Xgg a b (z.2.1.push x) (z.2.2.1+1) z.2.2.2.1),z.2.1.push x,z.2.2.1+1,z.2.2.2.1,z.2.2.2.2.1+1,0))
   else if z.2.2.2.2.1+1 ≥ g then pure (.done QS0)
   else pure (.yield QS0)|_=>pure (.done (yz (Xb7 a b z.2.1 z.2.2.1 z.2.2.2.1),z.2.1,z.2.2.1,z.2.2.2.1,z.2.2.2.2.1,z.2.2.2.2.2))
noncomputable abbrev X6v:=Option Ql×Array Vn×Nat×Nat×Nat
noncomputable def Xsj(t:Nat)(z:X6v):StateT V8 Sem X6v:=forIn [0:t] z λ_ z=>do
 let y <- Xx7 a b t z.2.2.2.2 Qp1
 match y.1 with
 |some r=>pure Qc0|none=>do
  liftM QF2
  let x <- Xx6 a b t QD0
  match x.1 with
  |some r=>pure QY0|none=>do
   Xgf QL4
   pure QV0
universe e
theorem X6w(a b:Array Vn):Xeq a b=(do
  liftM (rule "list.sort.merge-lo")
  let x <- Vdy b 0
  if (1==b.size)=yx then pure (Xb7 a b #[x] 0 1)
  else if (0+1==a.size)=yx then pure (Xgg a b #[x] 0 1)
  else do
   let g <- get
   let z <- Xsj a b QZ4 (yy,#[x],0,1,gallopOf g)
   match z.1 with
   |some r=>pure r
   |none=>liftM QP0):=by
 unfold Xsj;refine bind_congr λ_=>bind_congr λx=>?_;refine ite_congr rfl Qr λ_=>ite_congr rfl Qr λ_=>?_;refine bind_congr λg=>Xv ?_ λz=>?_
 ·refine congrArg QK3 ?_;funext _ z;refine Xv rfl λy=>?_;obtain⟨y1,y2⟩:=y;cases y1 with
  |some r=>rfl|none=>refine bind_congr λ_=>Xv rfl λx=>?_;obtain⟨x1,x2⟩:=x;cases x1<;>rfl
 ·obtain⟨L,z2⟩:=z;cases L<;>rfl
structure Ord(R:Vn->Vn->Bool):Prop where
 tr:∀ {x y z},R y x=yw->R z y=yw->R z x=yw
 as:∀ {x y},R x y=yx->R y x=yw
abbrev LeK(R:Vn->Vn->Bool)(x y:Vn):Prop:=R y x=yw
def Xfb(prog:Ue)(w:Uy)(A:U7)(E:VP)(s:Vc)(κ:Vdu)(R:Vn->Vn->Bool)(mem:Vn->Prop):Prop:=
 ∀(x y:Vn) (st:V8) (Q:Option Bool->V8->Prop),mem x->mem y->Vaq st=κ->Q (yz (R x y)) st->wpS Q3 A E s (lt' x y) Q st
def Glp(st L:V8):Prop:=∃g,L=Vh1 (Vaq st) Q1 Q71 g Q75
theorem Glp.refl{st:V8}:Glp st st:=⟨gallopOf st,rfl⟩
theorem Glp.kind{st L:V8}(h:Glp st L):Vaq L=Vaq st:=by obtain⟨g,rfl⟩:=h;rfl
theorem Glp.trans{st L aa:V8}(h:Glp st L)(h':Glp L aa):Glp st aa:=by obtain⟨g,rfl⟩:=h;obtain⟨g',rfl⟩:=h';exact⟨g',rfl⟩
noncomputable def kat(a:Array Vn)(i:Nat):Vn:=a.getD i Qs5
theorem Xbn{a:Array Vn}{i:Nat}(h:i<a.size):kat a i=a[i]:=by simp[kat,h]
theorem Xiy{a:Array Vn}{i:Nat}(h:i<a.size):a[i]?=yz Qu:=by rw[getElem?_pos a i h];simp[kat,h]
theorem Yg{a:Array Vn}{i:Nat}(h:i<a.size):kat a i∈a.toList:=by have:=Xiy h;rw[<-Vcf]at this;exact U0 this
theorem Xl1{a:Array Vn}{i:Nat}(h:i<a.size):a.toList.drop i=kat a i::a.toList.drop Qb2:=by rw[Vi8 QF4,Xbn h,Vf2]
theorem Xc5{a:Array Vn}{i:Nat}{y:Vn}(h:y∈a.toList.drop i):∃k,i<=k/\k<a.size/\y=kat a k:=by
 obtain⟨k,hk⟩:=Vfp.mp h;rw[Vgn]at hk;have hl:=Q56.1;have L:i+k<a.size:=by simpa using hl
 refine⟨i+k,by omega,L,?_⟩;have:=Xiy L;rw[<-Vcf,hk]at this;cases this;rfl
theorem Xcw{a:Array Vn}{i n:Nat}{y:Vn}(h:y∈Qj.take n):∃k,i<=k/\k<i+n/\k<a.size/\y=kat a k:=by
 obtain⟨k,hk⟩:=Vfp.mp h;rw[Vir]at hk;split at hk
 ·rename_i q;obtain⟨m,_,_⟩:=Xc5 (U0 hk);rw[Vgn]at hk;have hl:=Q56.1;have L:i+k<a.size:=by simpa using hl
  refine⟨i+k,by omega,by omega,L,?_⟩;have:=Xiy L;rw[<-Vcf,hk]at this;cases this;rfl
 cases hk
theorem Xer{R:Vn->Vn->Bool}{a:Array Vn}(h:a.toList.Pairwise QE){i j:Nat}(L:i<j)(hj:j<a.size):LeK R Qu QI6:=by have:=Vi9.mp h i j QH2 (by simpa using hj) L;rw[Vf2,Vf2]at this;rw[Xbn Q0,Xbn hj];exact this
section
variable{prog:Ue}{w:Uy}{A:U7}{E:VP}{s:Vc}{κ:Vdu}{R:Vn->Vn->Bool}{mem:Vn->Prop}
theorem Yj{a:Array Vn}{i:Nat}{st:V8}{Q:Vn->V8->Prop}(h:i<a.size)(L:Q Qu st):wpS Q3 A E s (Vdy a i) Q st:=by rw[elem'_eq,Xiy h];exact Vz L
theorem Xgh{g:Nat}{st:V8}{Q:Unit->V8->Prop}(hQ:∀L,Glp st L->Q () L):wpS Q3 A E s (Xgf g) Q st:=by rw[X2k];exact Vg1 (hQ _ ⟨g,rfl⟩)
variable(hO:Ord R)(hA:Xfb prog w A E s κ R mem)
include hO hA
theorem Xsk{L:Vn}{xs:Array Vn}{q n h:Nat}{st:V8}{Q:Option Nat->V8->Prop}(hk:Vaq st=κ)(mk:mem L)(hq:q+n<=xs.size)(mx:∀x∈xs.toList,mem x)
  (so:∀i j,q<=i->i<j->j<q+n->LeK R Qy5 Qx5) (hh:h<n)
  (hQ:∀m,m<=n->(∀i,i<m->LeK R QM L)->(∀i,m<=i->i<n->R L QM=yx)->Q QU3 st):wpS Q3 A E s (Xaz yw L xs q n h) Q st:=by
 refine Xql (λi=>!R L QM) QT3 QD3 (λm hm a1 a2=>hQ m hm QG5 λi hi hn=>?_) hh;·unfold byd;refine Vt Qg;show wpS _ _ _ _ (do let __x <- lt' L QM;pure (__x.map (!·))) _ _;exact Vt (hA _ _ _ _ mk Qv5 hk (Vz aa))
 ·have e':R L Qm4=false:=by simpa using e
  show(!R L QM)=yx;by_cases c:i=j;·subst c;exact e
  ·have:=so Q17 (q+j) Q0 Q0 Q0;rw[hO.tr this e'];rfl
 ·have:=a1 i hi;simpa using this
 ·have:=a2 i hi hn;simpa using this
theorem Xsl{L:Vn}{xs:Array Vn}{q n h:Nat}{st:V8}{Q:Option Nat->V8->Prop}(hk:Vaq st=κ)(mk:mem L)(hq:q+n<=xs.size)(mx:∀x∈xs.toList,mem x)
  (so:∀i j,q<=i->i<j->j<q+n->LeK R Qy5 Qx5) (hh:h<n)
  (hQ:∀m,m<=n->(∀i,i<m->R QM L=yx)->(∀i,m<=i->i<n->LeK R L QM)->Q QU3 st):wpS Q3 A E s (Xaz yx L xs q n h) Q st:=by
 refine Xql (λi=>R QM L) QT3 QD3 (λm hm a1 a2=>hQ m hm a1 a2) hh;·unfold byd;refine Vt Qg;show wpS _ _ _ _ (lt' QM L) _ _;exact hA _ _ _ _ Qv5 mk hk aa
 ·show R QM L=yx;by_cases c:i=j;·subst c;exact e
  ·have:=so Q17 (q+j) Q0 Q0 Q0;cases e2:R QM L with
   |true=>rfl|false=>have e3:R Qm4 L=true:=e;rw[hO.tr e2 this]at e3;cases e3
universe e
section
variable{R:Vn->Vn->Bool}{W:List Vn}{a b o:Array Vn}{i j k:Nat}
abbrev Jo(R:Vn->Vn->Bool)(W:List Vn)(a b o:Array Vn)(i j:Nat):Prop:=JnK QE W o.toList Qj QF0
theorem Xgi(a:Array Vn)(i:Nat):(a.extract i a.size).toList=a.toList.drop i:=by rw[Vdc,Vca];exact Vaj QB
theorem Xgj(a:Array Vn)(i k:Nat):(a.extract i QJ3).toList=Qj.take k:=by rw[Vdc,Vca,show i+k-i=k by omega]
theorem Jo.fin(h:Jo R W a b o i j)(q:a.size<=i\/b.size<=j):Srt QE W Qb4.toList:=by
 have:=JnK.fin h (λx hx y L=>by
  rcases q with q|q;·rw[Vb6 Q2]at hx;cases hx
  ·rw[Vb6 Q2]at L;cases L)
 unfold Xb7;rw[Vah,Vah,Xgi,Xgi];exact this
theorem Jo.lst(h:Jo R W a b o i j)(hl:∀x∈b.toList,∀y∈a.toList.drop QJ0,LeK R x y)(q:i+1=a.size):Srt QE W (Xgg a b o i j).toList:=by have:=JnK.fin' h (λx hx y L=>hl x (Va5 hx) y (by rw[<-q];exact L));unfold Xgg;rw[Vah,Vah,Xgi,Xgi];exact this
theorem Jo.ca(h:Jo R W a b o i j)(hx:∀x∈Qj.take k,∀y∈b.toList.drop j,LeK R x y):Jo R W a b Qs QJ3 j:=by
 have h':JnK QE W o.toList (Qj.take k++a.toList.drop QJ3) QF0:=by rw[<-Vc5,U3];exact h
 have:=h'.ta hx;show JnK _ _ Qs.toList _ _;rw[Vah,Xgj];exact this
theorem Jo.cb(h:Jo R W a b o i j)(hx:∀x∈QF0.take k,∀y∈a.toList.drop i,LeK R x y):Jo R W a b Qm2 i (j+k):=by
 have h':JnK QE W o.toList Qj (QF0.take k++b.toList.drop (j+k)):=by rw[<-Vc5,U3];exact h
 have:=h'.tb hx;show JnK _ _ Qm2.toList _ _;rw[Vah,Xgj];exact this
theorem Jo.pa(h:Jo R W a b o i j)(hi:i<a.size)(hx:∀y∈b.toList.drop j,LeK R Qu y):Jo R W a b QI3 Qb2 j:=by
 have h':JnK QE W o.toList ([kat a i]++a.toList.drop Qb2) QF0:=by rw[List.singleton_append,<-Xl1 hi];exact h
 have:=h'.ta QB1;show JnK _ _ QP2.toList _ _;rw[Vfi];exact this
theorem Jo.pb(h:Jo R W a b o i j)(hj:j<b.size)(hx:∀y∈a.toList.drop i,LeK R QV1 y):Jo R W a b QM5 i Qa2:=by
 have h':JnK QE W o.toList Qj ([kat b j]++b.toList.drop Qa2):=by rw[List.singleton_append,<-Xl1 hj];exact h
 have:=h'.tb QB1;show JnK _ _ QP2.toList _ _;rw[Vfi];exact this
def JJ(R:Vn->Vn->Bool)(W:List Vn)(a b:Array Vn)(N:Nat)(o:Array Vn)(i j:Nat):Prop:=Jo R W a b o i j/\i+1<a.size/\j<b.size/\N<=i+j
def Out(R:Vn->Vn->Bool)(W:List Vn)(a b:Array Vn)(N:Nat)(z:Option Ql)(o:Array Vn)(i j:Nat):Prop:=Qd1\/(z=yy/\JJ R W a b N o i j)
def LpQ(R:Vn->Vn->Bool)(W:List Vn)(a b:Array Vn)(N:Nat)(st:V8)(r:ForInStep Xsi)(L:V8):Prop:=Glp st L/\match r with
 |.done z=>Out R W a b N z.1 z.2.1 z.2.2.1 z.2.2.2.1|.yield z=>z.1=yy/\JJ R W a b N z.2.1 z.2.2.1 z.2.2.2.1
theorem Xfc(hO:Ord R)(sa:a.toList.Pairwise QE){x:Vn}(hx:LeK R x Qu):∀y∈a.toList.drop i,LeK R x y:=λy L=>by
 obtain⟨m,h1,h2,rfl⟩:=Xc5 L;by_cases c:i=m;·subst c;exact hx
 ·exact hO.tr hx (Xer sa Q0 h2)
universe e
section
variable{prog:Ue}{w:Uy}{A:U7}{E:VP}{s:Vc}{κ:Vdu}{R:Vn->Vn->Bool}{mem:Vn->Prop}{W:List Vn}{a b o:Array Vn}{i j N g c d:Nat}{st st0:V8}
variable(hO:Ord R)(hA:Xfb prog w A E s κ R mem)(ma:∀x∈a.toList,mem x)(mb:∀x∈b.toList,mem x)(sa:a.toList.Pairwise QE)(sb:b.toList.Pairwise QE)(hl:∀x∈b.toList,∀y∈a.toList.drop QJ0,LeK R x y)
include hl
theorem Xug(hg:Glp st0 st)(h:Jo R W a b o i j)(hi:i+1<a.size)(hj:j<b.size)(hN:N<=i+j)(hx:∀y∈b.toList.drop j,LeK R Qu y):wpS Q3 A E s (lo3 a b o i j g c d) QM1 st:=by
 unfold lo3;refine Vt Qg;have h':=h.pa Q0 hx;by_cases q:i+1+1=a.size;·rw[iP0 Q2];exact Vz Qb
 ·rw[iN0 Q2];have L:JJ R W a b N QI3 Qb2 j:=⟨h',by omega,hj,by omega⟩;split;·exact Vz QU2
  ·exact Vz QD5
include hO hA ma mb sa sb
theorem Xuh(hg:Glp st0 st)(hk:Vaq st0=κ)(h:Jo R W a b o i j)(hi:i+1<a.size)(hj:j<b.size)(hN:N<=i+j)(hx:∀y∈a.toList.drop i,LeK R QV1 y):wpS Q3 A E s (lo2 a b o i j g c d) QM1 st:=by
 unfold lo2;refine Vt (Yj hj ?_);have h':=h.pb hj hx;by_cases q:j+1=b.size;·rw[iP0 Q2];exact Vz Qz0
 ·rw[iN0 Q2];refine Vt Qg;refine Vt Qo;dsimp only;have rest:∀y∈b.toList.drop (j+1+m),LeK R Qu y:=λy L=>by
   obtain⟨k,k1,k2,rfl⟩:=Xc5 L;have:=a2 QS4 Q0 Q0;rw[show j+1+QS4=k by omega]at this;exact this
  by_cases z:m>0
  ·rw[iP0 z]
   have h2:=Jo.cb (k:=m) h' (λx hx y L=>by
    obtain⟨k,k1,k2,k3,rfl⟩:=Xcw hx;have:=a1 QS4 Q0;rw[show j+1+QS4=k by omega]at this
    exact Xfc hO sa (hO.as this) y L)
   by_cases q2:j+1+m=b.size;·rw[iP0 QQ];exact Vz ⟨hg,.inl ⟨_,rfl,h2.fin QV6⟩⟩
   ·rw[iN0 QQ];exact Xug hl hg h2 hi Q0 Q0 rest
  rw[iN0 z];have:m=0:=by omega
  subst this;exact Xug hl hg h' hi Q0 Q0 rest
theorem Xui(hg:Glp st0 st)(hk:Vaq st0=κ)(h:JJ R W a b N o i j):wpS Q3 A E s (lo1 a b o i j g c d) QM1 st:=by
 obtain⟨h,hi,L,hN⟩:=h;unfold lo1;refine Vt Q14;have hg:=hg.trans aa;refine Vt QL6;refine Vt (Xsk hO hA QU Q05 Q0 ma Qw1 Q0 λm hm a1 a2=>?_);dsimp only;have rest:i+m<a.size->∀y∈a.toList.drop (i+m),LeK R QV1 y:=λac=>Xfc hO sa (hO.as (a2 m QO Q0));by_cases z:m>0
 ·rw[iP0 z]
  have h2:=Jo.ca (k:=m) h (λx hx y hy=>by
   obtain⟨k,k1,k2,k3,rfl⟩:=Xcw hx;have:=a1 (k-i) Q0;rw[show i+(k-i)=k by omega]at this;obtain⟨n,n1,n2,rfl⟩:=Xc5 hy;by_cases e:j=n;·subst e;exact this
   ·exact hO.tr this (Xer sb Q0 n2))
  by_cases q:i+m+1=a.size;·rw[iP0 Q2];exact Vz ⟨hg,.inl ⟨_,rfl,h2.lst hl q⟩⟩
  ·rw[iN0 Q2];by_cases q2:i+m=a.size;·rw[iP0 QQ];exact Vz ⟨hg,.inl ⟨_,rfl,h2.fin (.inl Q0)⟩⟩
   ·rw[iN0 QQ];exact Xuh hO hA ma mb sa sb hl hg hk h2 Q0 L Q0 QD6
 rw[iN0 z];have:m=0:=by omega
 subst this;exact Xuh hO hA ma mb sa sb hl hg hk h hi L hN QD6
theorem X2l{t:Nat}(hg:Glp st0 st)(hk:Vaq st0=κ)(h:JJ R W a b N o i j):wpS Q3 A E s (Xx6 a b t (yy,o,i,j,g,c,d)) (λz st'=>Glp st0 st'/\Out R W a b N z.1 z.2.1 z.2.2.1 z.2.2.2.1) st:=by
 unfold Xx6;refine Va9 (I:=λ_ z st'=>Glp st0 st'/\z.1=yy/\JJ R W a b N z.2.1 z.2.2.1 z.2.2.2.1) ?_ Q11 QR1;rintro _ z st' _ _ ⟨h1,h2,h3⟩;split;·refine Vdb QL1 λr L q=>?_;cases r<;>exact q
 ·refine Vdb QL1 λr L q=>?_;cases r<;>exact q
theorem X2m{t:Nat}(hg:Glp st0 st)(hk:Vaq st0=κ)(ht:0<t)(h:JJ R W a b N o i j):wpS Q3 A E s (Xx7 a b t g (yy,o,i,j,0,0)) (λz st'=>Glp st0 st'/\Out R W a b (N+1) z.1 z.2.1 z.2.2.1 z.2.2.2.1) st:=by
 unfold Xx7;refine Va9 (I:=λx z st'=>Glp st0 st'/\z.1=yy/\JJ R W a b Qp5 z.2.1 z.2.2.1 z.2.2.2.1) ?_ Qd ⟨hg,rfl,(by simpa using h:JJ R W a b Qq5 o i j)⟩;rintro x ⟨z0,o,i,j,c,d⟩ st' _ _ ⟨hg,h2,h3⟩;obtain⟨h,hi,L,hN⟩:=h3;dsimp only at h hi L hN ⊢;refine Vt (Yj L (Vt Qg));refine Vt (hA _ _ _ _ Q05 QQ2 QU ?_);cases e:R QV1 Qu with
 |true=>
  dsimp only;rw[iP0 rfl];refine Vt QL6;have h':=h.pb L (Xfc hO sa QV4);by_cases q:j+1=b.size;·rw[iP0 Q2];exact Vz Qz0
  ·rw[iN0 Q2];have jj:∀m,m<=N+1->JJ R W a b m QM5 i Qa2:=λm hm=>⟨h',hi,by omega,by omega⟩;split;·exact Vz Qu1
   ·exact Vz QR3|false=>
  dsimp only;rw[iN0 QR];refine Vt Qg;have h':=h.pa Q0 (Xfc (a:=b) hO sb e);by_cases q:i+1+1=a.size;·rw[iP0 Q2];exact Vz Qb
  ·rw[iN0 Q2];have jj:∀m,m<=N+1->JJ R W a b m QI3 Qb2 j:=λm hm=>⟨h',by omega,L,by omega⟩;split;·exact Vz Qu1
   ·exact Vz QR3
theorem X2n{t:Nat}(hg:Glp st0 st)(hk:Vaq st0=κ)(ht:a.size+b.size<=t)(h:JJ R W a b 0 o i j):wpS Q3 A E s (Xsj a b t (yy,o,i,j,g)) QK0 st:=by
 unfold Xsj;refine Va9 (I:=λx z st'=>Glp st0 st'/\z.1=yy/\JJ R W a b x z.2.1 z.2.2.1 z.2.2.2.1) ?_ (λz st' Q10=>by have:=h3.2.1;have:=h3.2.2.1;have:=h3.2.2.2;omega) QR1;rintro x ⟨z0,o,i,j,g⟩ st' _ _ ⟨hg,h2,h3⟩;have hp:0<t:=by have:=h3.2.1;omega
 refine Vt (Vdb (X2m hO hA ma mb sa sb hl hg hk hp h3) λy af q=>?_);obtain⟨L,q⟩:=q;obtain⟨y0,y1,y2,y3,y4,y5⟩:=y;rcases q with⟨r,e,hr⟩|⟨e,h4⟩;·subst e;exact Vz Qj4
 ·subst e;refine Vt QI;refine Vt (Vdb (X2l hO hA ma mb sa sb hl L hk h4) λz ac q=>?_);obtain⟨aa,q⟩:=q;obtain⟨z0,z1,z2,z3,z4,z5,z6⟩:=z;rcases q with⟨r,e,hr⟩|⟨e,h5⟩;·subst e;exact Vz QI4
  ·subst e;refine Vt Qw0
theorem X6x{Q:Array Vn->V8->Prop}(hk:Vaq st=κ)(ha:0<a.size)(hb:0<b.size)(h0:LeK R Qx2 (kat a 0))(hW:W=a.toList++b.toList)
  (hQ:∀r L,Glp st L->Srt QE W r.toList->Q r L):wpS Q3 A E s (Xeq a b) Q st:=by
 rw[X6w];refine Vt QI;refine Vt (Yj hb ?_);have j0:Jo R W a b #[] 0 0:=⟨by rw[hW];exact .refl _,.nil,λx q=>Q26,sa,sb⟩;have j1:Jo R W a b #[kat b 0] 0 1:=j0.pb hb (Xfc hO sa h0);by_cases q:1=b.size;·rw[iP0 Q2];exact Vz (hQ _ _ .refl (j1.fin QV6))
 ·rw[iN0 Q2];by_cases q2:0+1=a.size;·rw[iP0 QQ];exact Vz Qy1
  ·rw[iN0 QQ];refine Vt Q20;refine Vt (Vdb (X2n hO hA ma mb sa sb hl .refl hk QO ⟨j1,by omega,by omega,by omega⟩) λz L q=>?_);obtain⟨hg,r,e,hr⟩:=q;obtain⟨z0,z1⟩:=z;subst e;exact Vz Qn4
universe e
noncomputable def Xes:Array Vn->Array Vn->StateT V8 Sem Ql:=sortPriv% PySem.Builtin.mergeHi
section
variable(a b:Array Vn)
noncomputable def Xb8(o:Array Vn)(i j:Nat):Array Vn:=a.extract 0 i++b.extract 0 j++o.reverse
noncomputable def Xgk(o:Array Vn)(i j:Nat):Array Vn:=b.extract 0 j++a.extract 0 i++o.reverse
noncomputable abbrev Xsm:=Option Ql×Nat×Nat×Array Vn×Nat×Nat×Nat
noncomputable abbrev HpM:=StateT V8 Sem (ForInStep Xsm)
noncomputable abbrev Xx8:=Option Ql×Nat×Nat×Array Vn×Nat×Nat
noncomputable abbrev X6y:=Option Ql×Nat×Nat×Array Vn×Nat
noncomputable def hi3(o:Array Vn)(i j g c d:Nat):HpM:=do
 let x <- Vdy a QE0
 if i-1==0 then pure (.done (yz QZ3,i-1,j,o.push x,g,c,d))
 else if c<7&&d<7 then pure (.done QX2)
 else pure (.yield QX2)
noncomputable def hi2(o:Array Vn)(i j g c d:Nat):HpM:=do
 let x <- Vdy b Q00
 if j-1==1 then pure (.done (yz QY3,i,j-1,o.push x,g,c,d))
 else
  let y <- Vdy a QE0
  let r <- Xaz yx y b 0 Q00 (j-1-1)
  match r with
  |some k=>
   if j-1-k>0 then
    if k==1 then pure (.done (yz (Xgk a b Qx i k),i,k,o.push x++Qx3.reverse,g,c,j-1-k))
    else if k==0 then pure (.done (yz (Xb8 a b Qx i k),i,k,o.push x++Qx3.reverse,g,c,j-1-k))
    else hi3 a b Qx i k g c QB7
   else hi3 a b Qz i Q00 g c QB7|_=>pure (.done (yz (Xb8 a b Qz i Q00),i,j-1,o.push x,g,c,d))
noncomputable def hi1(o:Array Vn)(i j g c d:Nat):HpM:=do
 Xgf g
 let x <- Vdy b Q00
 let r <- Xaz yw x a 0 i QE0
 match r with
 |some k=>
  if i-k>0 then
   if k==0 then pure (.done (yz (Xb8 a b QQ0 k j),k,j,o++(a.extract k i).reverse,g,i-k,d))
   else hi2 a b QQ0 k j g QC7 d
  else hi2 a b o i j g QC7 d|_=>pure (.done (yz Q24,i,j,o,g,c,d))
noncomputable def Xx9(t:Nat)(z:Xsm):StateT V8 Sem Xsm:=forIn [0:t] z λ_ z=>if z.2.2.2.2.1>1 then hi1 a b z.2.2.2.1 z.2.1 z.2.2.1 QK4 z.2.2.2.2.2.1 z.2.2.2.2.2.2 else hi1 a b z.2.2.2.1 z.2.1 z.2.2.1 z.2.2.2.2.1 z.2.2.2.2.2.1 z.2.2.2.2.2.2
noncomputable def X6z(g:Nat)(o:Array Vn)(i j c d:Nat):StateT V8 Sem (ForInStep Xx8):=do
 let y <- Vdy b Q00
 let x <- Vdy a QE0
 let r <- lt' y x
 match r with
 |some q=>
  if q then do
   let x <- Vdy a QE0
   if i-1==0 then pure (.done (yz QZ3,i-1,j,o.push x,c+1,0))
   else if c+1 ≥ g then pure (.done QY2)
   else pure (.yield QY2)
  else do
   let x <- Vdy b Q00
   if j-1==1 then pure (.done (yz QY3,i,j-1,o.push x,0,d+1))
   else if d+1 ≥ g then pure (.done QZ2)
   else pure (.yield QZ2)|_=>pure (.done (yz Q24,i,j,o,c,d))
noncomputable def Xya(t g:Nat)(z:Xx8):StateT V8 Sem Xx8:=forIn [0:t] z λ_ z=>X6z a b g z.2.2.2.1 z.2.1 z.2.2.1 z.2.2.2.2.1 z.2.2.2.2.2
noncomputable def Xsn(t:Nat)(z:X6y):StateT V8 Sem X6y:=forIn [0:t] z λ_ z=>do
 let y <- Xya a b t z.2.2.2.2 Qp1
 match y.1 with
 |some r=>pure Qc0|none=>do
  liftM QF2
  let x <- Xx9 a b t QD0
  match x.1 with
  |some r=>pure QY0|none=>do
   Xgf QL4
   pure QV0
universe e
theorem X60(a b:Array Vn):Xes a b=(do
  liftM (rule "list.sort.merge-hi")
  let x <- Vdy a QJ0
  if (a.size-1==0)=yx then pure (Xb8 a b #[x] QJ0 b.size)
  else if (b.size==1)=yx then pure (Xgk a b #[x] QJ0 b.size)
  else do
   let g <- get
   let z <- Xsn a b QZ4 (yy,a.size-1,b.size,#[x],gallopOf g)
   match z.1 with
   |some r=>pure r
   |none=>liftM QP0):=by
 unfold Xsn;refine bind_congr λ_=>bind_congr λx=>?_;refine ite_congr rfl Qr λ_=>ite_congr rfl Qr λ_=>?_;refine bind_congr λg=>Xv ?_ λz=>?_
 ·refine congrArg QK3 ?_;funext _ z;refine Xv rfl λy=>?_;obtain⟨y1,y2⟩:=y;cases y1 with
  |some r=>rfl|none=>refine bind_congr λ_=>Xv rfl λx=>?_;obtain⟨x1,x2⟩:=x;cases x1<;>rfl
 ·obtain⟨L,z2⟩:=z;cases L<;>rfl
section
variable{R:Vn->Vn->Bool}{W:List Vn}{a b o:Array Vn}{i j k:Nat}
theorem Srt.rev{α:Type}{le:α->α->Prop}{W l:List α}(h:Srt (λx y=>le y x) W l):Srt le W l.reverse:=⟨(Vg9 l).trans h.1,Vhw.mpr h.2⟩
abbrev Jh(R:Vn->Vn->Bool)(W:List Vn)(a b o:Array Vn)(i j:Nat):Prop:=JnK (λx y=>LeK R y x) W o.toList Qm0.reverse (b.toList.take j).reverse
theorem Xmw(a:Array Vn)(i:Nat):(a.extract 0 i).toList=a.toList.take i:=by rw[Vdc,Vca];simp
theorem Xet{y:Vn}(h:y∈a.toList.take i):∃k,k<i/\k<a.size/\y=kat a k:=by have h':y∈(a.toList.drop 0).take i:=h;obtain⟨k,_,h2,L,e⟩:=Xcw h';exact⟨k,by omega,L,e⟩
theorem Xnj(h0:0<i)(h:i<=a.size):Qm0.reverse=[kat a QE0]++(a.toList.take QE0).reverse:=by obtain⟨m,rfl⟩:∃m,i=m+1:=⟨i-1,by omega⟩;rw[Ve3,Veq QX4,Vb9,Xbn Q0,Vf2];rfl
theorem Xqm(hk:k<=i):Qm0.reverse=(a.extract k i).reverse.toList++(a.toList.take k).reverse:=by rw[Vej,Vdc,Vca,<-Vb9];congr 1;rw[<-U3 k Qm0,Vfq,Va7 hk,Vij]
theorem Jh.fin(h:Jh R W a b o i j)(q:i=0\/j=0):Srt QE W (Xb8 a b o i j).toList:=by
 have:=(JnK.fin' h (λx hx y L=>by
  rcases q with q|q;·subst q;simp at L
  ·subst q;simp at hx)).rev
 unfold Xb8;rw[Vah,Vah,Xmw,Xmw,Vej];simpa [Vb9] using this
theorem Jh.lst(h:Jh R W a b o i j)(hl:∀x∈a.toList,LeK R Qx2 x)(q:j=1):Srt QE W (Xgk a b o i j).toList:=by
 have:=(JnK.fin h (λx hx y L=>by
  subst q;obtain⟨m,h1,h2,rfl⟩:=Xet (Vc3.mp L);obtain rfl:m=0:=by omega
  exact hl x (Vab (Vc3.mp hx)))).rev
 unfold Xgk;rw[Vah,Vah,Xmw,Xmw,Vej];simpa [Vb9] using this
theorem Jh.pa(h:Jh R W a b o i j)(h0:0<i)(hi:i<=a.size)(hx:∀y∈b.toList.take j,LeK R y Qv):Jh R W a b QH3 QE0 j:=by have h':=h;unfold Jh at h';rw[Xnj h0 hi]at h';have:=h'.ta Qd0;show JnK _ _ QP2.toList _ _;rw[Vfi];exact this
theorem Jh.pb(h:Jh R W a b o i j)(h0:0<j)(hj:j<=b.size)(hx:∀y∈a.toList.take i,LeK R y Qu0):Jh R W a b QL5 i Q00:=by have h':=h;unfold Jh at h';rw[Xnj (a:=b) h0 hj]at h';have:=h'.tb Qd0;show JnK _ _ QP2.toList _ _;rw[Vfi];exact this
theorem Jh.ca(h:Jh R W a b o i j)(hk:k<=i)(hx:∀x,(∃m,k<=m/\m<i/\x=kat a m)->∀y∈b.toList.take j,LeK R y x):Jh R W a b QQ0 k j:=by have h':=h;unfold Jh at h';rw[Xqm hk]at h';have:=h'.ta QT;show JnK _ _ QZ7.toList _ _;rw[Vah];exact this
theorem Jh.cb(h:Jh R W a b o i j)(hk:k<=j)(hx:∀x,(∃m,k<=m/\m<j/\x=kat b m)->∀y∈a.toList.take i,LeK R y x):Jh R W a b (o++(b.extract k j).reverse) i k:=by have h':=h;unfold Jh at h';rw[Xqm (a:=b) hk]at h';have:=h'.tb QT;show JnK _ _ QZ7.toList _ _;rw[Vah];exact this
def JK(R:Vn->Vn->Bool)(W:List Vn)(a b:Array Vn)(N:Nat)(o:Array Vn)(i j:Nat):Prop:=Jh R W a b o i j/\0<i/\i<=a.size/\1<j/\j<=b.size/\i+j+N<=a.size+b.size
def Xyb(R:Vn->Vn->Bool)(W:List Vn)(a b:Array Vn)(N:Nat)(z:Option Ql)(o:Array Vn)(i j:Nat):Prop:=Qd1\/(z=yy/\JK R W a b N o i j)
def HpQ(R:Vn->Vn->Bool)(W:List Vn)(a b:Array Vn)(N:Nat)(st:V8)(r:ForInStep Xsm)(L:V8):Prop:=Glp st L/\match r with
 |.done z=>Xyb R W a b N z.1 z.2.2.2.1 z.2.1 z.2.2.1|.yield z=>z.1=yy/\JK R W a b N z.2.2.2.1 z.2.1 z.2.2.1
theorem Xiz(hO:Ord R)(sa:a.toList.Pairwise QE)(h0:0<i)(hi:i<=a.size){x:Vn}(hx:LeK R Qv x):∀y∈a.toList.take i,LeK R y x:=λy L=>by
 obtain⟨m,h1,h2,rfl⟩:=Xet L;by_cases c:m=i-1;·subst c;exact hx
 ·exact hO.tr (Xer sa Q0 Q0) hx
universe e
section
variable{prog:Ue}{w:Uy}{A:U7}{E:VP}{s:Vc}{κ:Vdu}{R:Vn->Vn->Bool}{mem:Vn->Prop}{W:List Vn}{a b o:Array Vn}{i j N g c d:Nat}{st st0:V8}
variable(hO:Ord R)(hA:Xfb prog w A E s κ R mem)(ma:∀x∈a.toList,mem x)(mb:∀x∈b.toList,mem x)(sa:a.toList.Pairwise QE)(sb:b.toList.Pairwise QE)(hl:∀x∈a.toList,LeK R Qx2 x)
theorem Xuj(hg:Glp st0 st)(h:Jh R W a b o i j)(h0:0<i)(hi:i<=a.size)(j1:1<j)(hj:j<=b.size)(hN:i+j+N<=a.size+b.size)(hx:∀y∈b.toList.take j,LeK R y Qv):wpS Q3 A E s (hi3 a b o i j g c d) QO1 st:=by
 unfold hi3;refine Vt Qg;have h':=h.pa h0 hi hx;by_cases q:i-1=0;·rw[iP0 Q2];exact Vz Q21
 ·rw[iN0 Q2];have L:JK R W a b N QH3 QE0 j:=Q31;split;·exact Vz QU2
  ·exact Vz QD5
include hl hO hA ma mb sa sb
theorem Xuk(hg:Glp st0 st)(hk:Vaq st0=κ)(h:Jh R W a b o i j)(h0:0<i)(hi:i<=a.size)(j1:1<j)(hj:j<=b.size)(hN:i+j+N<=a.size+b.size)(hx:∀y∈a.toList.take i,LeK R y Qu0):wpS Q3 A E s (hi2 a b o i j g c d) QO1 st:=by
 unfold hi2;refine Vt Qg;have h':=h.pb Q0 hj hx;by_cases q:j-1=1;·rw[iP0 Q2];exact Vz Qb
 ·rw[iN0 Q2];refine Vt Qg;refine Vt Qo;simp only[Va4]at a1 a2;dsimp only;have rest:∀y∈b.toList.take m,LeK R y Qv:=λy hy=>by
   obtain⟨k,k1,k2,rfl⟩:=Xet hy;exact hO.as (a1 k k1)
  by_cases z:j-1-m>0
  ·rw[iP0 z];have h2:=Jh.cb (k:=m) h' Q0 (λx hx y hy=>by obtain⟨k,k1,k2,rfl⟩:=hx;exact Xiz hO sa h0 hi QR5 y hy);by_cases L:m=1;·rw[iP0 QH4];exact Vz ⟨hg,.inl ⟨_,rfl,h2.lst hl L⟩⟩
   ·rw[iN0 QH4];by_cases q3:m=0;·rw[iP0 Qp3];exact Vz ⟨hg,.inl ⟨_,rfl,h2.fin (.inr q3)⟩⟩
    ·rw[iN0 Qp3];exact Xuj hg h2 h0 hi Q0 Q0 Q0 rest
  rw[iN0 z];obtain rfl:m=j-1:=by omega
  exact Xuj hg h' h0 hi Q0 Q0 Q0 rest
theorem Xul(hg:Glp st0 st)(hk:Vaq st0=κ)(h:JK R W a b N o i j):wpS Q3 A E s (hi1 a b o i j g c d) QO1 st:=by
 obtain⟨h,h0,hi,j1,hj,hN⟩:=h;unfold hi1;refine Vt Q14;have hg:=hg.trans aa;refine Vt Qg;refine Vt (Xsk hO hA QU Qw5 Q0 ma Qw1 Q0 λm hm a1 a2=>?_);simp only[Va4]at a1 a2;dsimp only;have rest:∀y∈a.toList.take m,LeK R y Qu0:=λy L=>by obtain⟨k,k1,k2,rfl⟩:=Xet L;exact a1 k k1
 by_cases z:i-m>0
 ·rw[iP0 z];have h2:=Jh.ca (k:=m) h Q0 (λx hx y L=>by obtain⟨k,k1,k2,rfl⟩:=hx;exact Xiz (a:=b) hO sb Q0 hj (hO.as QR5) y L);by_cases q:m=0;·rw[iP0 Q2];exact Vz ⟨hg,.inl ⟨_,rfl,h2.fin Qr6⟩⟩
  ·rw[iN0 Q2];exact Xuk hO hA ma mb sa sb hl hg hk h2 Q0 Q0 j1 hj Q0 rest
 rw[iN0 z];obtain rfl:m=i:=by omega
 exact Xuk hO hA ma mb sa sb hl hg hk h h0 hi j1 hj hN rest
theorem X2o{t:Nat}(hg:Glp st0 st)(hk:Vaq st0=κ)(h:JK R W a b N o i j):wpS Q3 A E s (Xx9 a b t (yy,i,j,o,g,c,d)) (λz st'=>Glp st0 st'/\Xyb R W a b N z.1 z.2.2.2.1 z.2.1 z.2.2.1) st:=by
 unfold Xx9;refine Va9 (I:=λ_ z st'=>Glp st0 st'/\z.1=yy/\JK R W a b N z.2.2.2.1 z.2.1 z.2.2.1) ?_ Q11 QR1;rintro _ z st' _ _ ⟨h1,h2,h3⟩;split;·refine Vdb QK1 λr L q=>?_;cases r<;>exact q
 ·refine Vdb QK1 λr L q=>?_;cases r<;>exact q
universe e
section
variable{prog:Ue}{w:Uy}{A:U7}{E:VP}{s:Vc}{κ:Vdu}{R:Vn->Vn->Bool}{mem:Vn->Prop}{W:List Vn}{a b o:Array Vn}{i j N g c d:Nat}{st st0:V8}
variable(hO:Ord R)(hA:Xfb prog w A E s κ R mem)(ma:∀x∈a.toList,mem x)(mb:∀x∈b.toList,mem x)(sa:a.toList.Pairwise QE)(sb:b.toList.Pairwise QE)(hl:∀x∈a.toList,LeK R Qx2 x)
include hl hO hA ma mb sa sb
theorem X2p{t:Nat}(hg:Glp st0 st)(hk:Vaq st0=κ)(ht:0<t)(h:JK R W a b N o i j):wpS Q3 A E s (Xya a b t g (yy,i,j,o,0,0)) (λz st'=>Glp st0 st'/\Xyb R W a b (N+1) z.1 z.2.2.2.1 z.2.1 z.2.2.1) st:=by
 unfold Xya;refine Va9 (I:=λx z st'=>Glp st0 st'/\z.1=yy/\JK R W a b Qp5 z.2.2.2.1 z.2.1 z.2.2.1) ?_ Qd ⟨hg,rfl,(by simpa using h:JK R W a b Qq5 o i j)⟩;rintro x ⟨z0,i,j,o,c,d⟩ st' _ _ ⟨hg,h2,h3⟩;obtain⟨h,h0,hi,j1,hj,hN⟩:=h3;dsimp only at h h0 hi j1 hj hN ⊢;unfold X6z;refine Vt Qa4;refine Vt (hA _ _ _ _ Qw5 QQ2 QU ?_);cases e:R Qu0 Qv with
 |true=>
  dsimp only;rw[iP0 rfl];refine Vt Qg;have h':=h.pa h0 hi (Xiz (a:=b) hO sb Q0 hj QV4);by_cases q:i-1=0;·rw[iP0 Q2];exact Vz Q21
  ·rw[iN0 Q2];have L:∀m,m<=N+1->JK R W a b m QH3 QE0 j:=λm hm=>Q31;split;·exact Vz Q32
   ·exact Vz Qj3|false=>
  dsimp only;rw[iN0 QR];refine Vt Qg;have h':=h.pb Q0 hj (Xiz hO sa h0 hi e);by_cases q:j-1=1;·rw[iP0 Q2];exact Vz Qb
  ·rw[iN0 Q2];have L:∀m,m<=N+1->JK R W a b m QL5 i Q00:=λm hm=>⟨h',h0,hi,by omega,by omega,by omega⟩;split;·exact Vz Q32
   ·exact Vz Qj3
theorem X2q{t:Nat}(hg:Glp st0 st)(hk:Vaq st0=κ)(ht:a.size+b.size<=t)(h:JK R W a b 0 o i j):wpS Q3 A E s (Xsn a b t (yy,i,j,o,g)) QK0 st:=by
 unfold Xsn;refine Va9 (I:=λx z st'=>Glp st0 st'/\z.1=yy/\JK R W a b x z.2.2.2.1 z.2.1 z.2.2.1) ?_ (λz st' Q10=>by have:=h3.2.1;have:=h3.2.2.2.1;have:=h3.2.2.2.2.2;omega) QR1;rintro x ⟨z0,i,j,o,g⟩ st' _ _ ⟨hg,h2,h3⟩;have hp:0<t:=by have h5:=h3.2.1;have h6:=h3.2.2.1;dsimp only at h5 h6;omega
 refine Vt (Vdb (X2p hO hA ma mb sa sb hl hg hk hp h3) λy af q=>?_);obtain⟨L,q⟩:=q;obtain⟨y0,y1,y2,y3,y4,y5⟩:=y;rcases q with⟨r,e,hr⟩|⟨e,h4⟩;·subst e;exact Vz Qj4
 ·subst e;refine Vt QI;refine Vt (Vdb (X2o hO hA ma mb sa sb hl L hk h4) λz ac q=>?_);obtain⟨aa,q⟩:=q;obtain⟨z0,z1,z2,z3,z4,z5,z6⟩:=z;rcases q with⟨r,e,hr⟩|⟨e,h5⟩;·subst e;exact Vz QI4
  ·subst e;refine Vt Qw0
theorem X61{Q:Array Vn->V8->Prop}(hk:Vaq st=κ)(ha:0<a.size)(hb:0<b.size)(hz:LeK R (kat b (b.size-1)) (kat a QJ0))(hW:W=a.toList++b.toList)
  (hQ:∀r L,Glp st L->Srt QE W r.toList->Q r L):wpS Q3 A E s (Xes a b) Q st:=by
 rw[X60];refine Vt QI;refine Vt Qg;have j0:Jh R W a b #[] a.size b.size:=by
  refine⟨?_,.nil,λx q=>Q26,?_,?_⟩;·rw[hW,Vaj QB,Vaj QB];exact QK7.append QK7
  ·rw[Vaj QB];exact Vhw.mpr sa
  rw[Vaj QB];exact Vhw.mpr sb
 have j1:Jh R W a b #[kat a QJ0] QJ0 b.size:=j0.pa ha QO (Xiz (a:=b) hO sb hb QO hz);by_cases q:a.size-1=0;·rw[iP0 Q2];exact Vz (hQ _ _ .refl (j1.fin Qr6))
 ·rw[iN0 Q2];by_cases q2:b.size=1;·rw[iP0 QQ];exact Vz Qy1
  ·rw[iN0 QQ];refine Vt Q20;refine Vt (Vdb (X2q hO hA ma mb sa sb hl .refl hk QO ⟨j1,by omega,by omega,by omega,by omega,by omega⟩) λz L q=>?_);obtain⟨hg,r,e,hr⟩:=q;obtain⟨z0,z1⟩:=z;subst e;exact Vz Qn4
universe e
noncomputable def X62(p:Nat)(r:Array Vn):StateT V8 Sem Bool:=do
 modify λs=>setArr s (r.toList.zipIdx.foldl (λa (z,j)=>a.setIfInBounds Qo3 z) Qr1)
 let s <- get
 pure QL7.isNone
noncomputable def Xyc(s:V8)(p n q m:Nat):StateT V8 Sem Bool:=do
 let x <- Vdy Qr1 q
 let r <- Xaz yw x Qr1 p n 0
 match r with
 |some k=>
  if (n-k==0)=yx then pure yx else do
   let x <- Vdy Qr1 (p+k+(n-k)-1)
   let r <- Xaz yx x Qr1 q m Q47
   match r with
   |some m=>if (m==0)=yx then pure yx else if n-k<=m then Xeq Qb3 Q13 >>= X62 Qy else Xes Qb3 Q13 >>= X62 Qy|_=>pure yw
 |_=>pure yw
theorem X63(i p n v q m v':Nat)(s:V8)(e1:Qs1[i]?=yz QF6)(L:Qs1[i+1]?=yz QX7):Qw2.run s=(do
  set Qw
  Xyc s p n q m:StateT V8 Sem Bool).run s:=by
 have h:mergeAt' i=(get >>= λs=>match Qs1[i]?,Qs1[i+1]? with
  |some QF6,yz (q,m,_)=>(do
   set Qw
   Xyc s p n q m:StateT V8 Sem Bool)
  |_,_=>liftM (unsupported "internal:list.sort.pending" : Sem Bool)):=by
  refine bind_congr λs=>?_;cases Qs1[i]? with
  |none=>rfl|some x=>
   obtain⟨p,n,v⟩:=x;cases Qs1[i+1]? with
   |none=>rfl|some y=>
    obtain⟨q,m,v'⟩:=y;refine bind_congr λ_=>Xv rfl λx=>Xv rfl λr=>?_;cases r with
    |none=>rfl|some k=>
     refine ite_congr rfl Qr λ_=>Xv rfl λx=>Xv rfl λr=>?_;cases r with
     |none=>rfl|some m=>exact ite_congr rfl Qr λ_=>ite_congr rfl Qr λ_=>rfl
 rw[h,StateT.run_bind,StateT.run_get,pure_bind];simp only[e1,L]
theorem Xnk(q:Nat):∀(l:List Vn) (k:Nat) (a:Array Vn),q+k+ll l<=a.size->((l.zipIdx k).foldl (λa p=>a.setIfInBounds (q+p.2) p.1) a).toList=a.toList.take Q07++l++a.toList.drop (q+k+ll l)
 |[]=>λk a h=>by simp|x::l=>λk a h=>by
  rw[Ux]at h;rw[List.zipIdx_cons,Vbv,Xnk q l QT4 _ (by rw[Array.size_setIfInBounds];omega),Vix];have hl:q+k<ll a.toList:=by rw[U8];omega
  have L:(a.toList.set Q07 x).take (q+QT4)=a.toList.take Q07++[x]:=by rw[show q+QT4=q+k+1 by omega,Veq (by rw[List.length_set];exact hl),List.getElem_set_self,List.take_set_of_le QO]
  rw[L,List.drop_set_of_lt Q0,Ux,show q+QT4+ll l=q+k+(ll l+1) by omega];simp
section
variable{le:α->α->Prop}{U V Z':List α}{k m:Nat}
theorem Yet(hU:U.Pairwise le)(hV:V.Pairwise le)(h1:∀x∈U.take k,∀y∈V,le x y)(h2:∀x∈U,∀y∈V.drop m,le x y)(hZ:Srt le Q93 Z'):Srt le (U++V) (U.take k++(Z'++V.drop m)):=by
 obtain⟨z1,z2⟩:=hZ;have aa:(U.take k++U.drop k).Pairwise le:=by rw[U3];exact hU
 have ab:(V.take m++V.drop m).Pairwise le:=by rw[U3];exact hV
 obtain⟨u1,u2,u3⟩:=Vaa.mp aa;obtain⟨v1,v2,v3⟩:=Vaa.mp ab;refine⟨?_,Vaa.mpr ⟨u1,Vaa.mpr ⟨z2,v2,λx hx y L=>?_⟩,λx hx y L=>?_⟩⟩
 ·have e:U++V=U.take k++(Q93++V.drop m):=by
   rw[Vq,U3,<-Vq,U3]
  rw[e];exact(z1.append_right _).append_left _
 ·rcases V9.mp (z1.mem_iff.mp hx) with q|q;·exact h2 x QN7 y L
  ·exact v3 x q y L
 rcases V9.mp L with q|q
 ·rcases V9.mp (z1.mem_iff.mp q) with q|q;·exact u3 x hx y q
  ·exact h1 x hx y (Vab q)
 exact h1 x hx y QN7
universe e
def KeepK(a a':Array Vn)(p q:Nat):Prop:=a'.Perm a/\∀k,k<p\/q<=k->kat a' k=kat a k
def SegS(R:Vn->Vn->Bool)(a:Array Vn)(p n:Nat):Prop:=∀i j,i<j->j<n->LeK R Qf5 Qg5
theorem Xcx{a:Array Vn}{q n:Nat}(h:q+n<=a.size):(Qz3.take n).length=n:=by rw[U9,Vc2,U8];omega
theorem Xum{R:Vn->Vn->Bool}{a:Array Vn}{p n:Nat}(h:SegS R a p n)(x y:Nat)(h1:p<=x)(h2:x<y)(L:y<p+n):LeK R (kat a x) (kat a y):=by obtain⟨x,rfl⟩:=Vcs h1;obtain⟨y,rfl⟩:=Vcs (V2 h1 (Vc9 h2));exact h x y (Vgi h2) (Vgi L)
theorem Xd6{a:Array Vn}{q n:Nat}{z:Vn}(h:z∈Qz3.take n):∃x,x<n/\q+x<a.size/\z=kat a (q+x):=by obtain⟨j,L,j2,j3,rfl⟩:=Xcw h;obtain⟨x,rfl⟩:=Vcs L;exact⟨x,Vgi j2,j3,rfl⟩
theorem Ord.rf{R:Vn->Vn->Bool}(h:Ord R)(x:Vn):LeK R x x:=by
 cases e:R x x with
 |false=>exact e|true=>have:=h.as e;rw[e]at this;cases this
theorem KeepK.size{a a':Array Vn}{p q:Nat}(h:KeepK a a' p q):a'.size=a.size:=h.1.size_eq
theorem KeepK.rf{a:Array Vn}{p q:Nat}:KeepK a a p q:=⟨.refl _,λ_ _=>rfl⟩
theorem KeepK.trans{a b c:Array Vn}{p q:Nat}(h:KeepK a b p q)(h':KeepK b c p q):KeepK a c p q:=⟨h'.1.trans h.1,λk hk=>(h'.2 k hk).trans (h.2 k hk)⟩
theorem KeepK.seg{R:Vn->Vn->Bool}{a b:Array Vn}{p q i n:Nat}(h:KeepK a b p q)(hk:i+n<=p\/q<=i)(hs:SegS R a i n):SegS R b i n:=λx y h1 h2=>by rw[h.2 (i+x) Q0,h.2 (i+y) Q0];exact hs x y h1 h2
theorem KeepK.mem{mem:Vn->Prop}{a b:Array Vn}{p q:Nat}(h:KeepK a b p q)(L:∀x∈a.toList,mem x):∀x∈b.toList,mem x:=λx hx=>L x ((Vd7.mp h.1).mem_iff.mp hx)
theorem Xh0{a:Array Vn}{i:Nat}:kat a i=a.toList.getD i Qs5:=by unfold kat;rw[Vfy,Uj,Vcf]
theorem Xnl{R:Vn->Vn->Bool}{a:Array Vn}{A U B:List Vn}(e:a.toList=A++(U++B)):SegS R a A.length U.length ↔ U.Pairwise QE:=by
 have hk:∀i (h:i<ll U),kat a (ll A+i)=U[i]:=λi h=>by rw[Xh0,e,Uj,Uz Q0,show (ll A)+i-ll A=i by omega,Vv h,Ug h];rfl
 rw[Vi9];refine⟨λh i j hi hj L=>?_,λh i j L hj=>?_⟩;·have:=h i j L hj;rw[hk i hi,hk j hj]at this;exact this
 ·rw[hk i Q0,hk j hj];exact h i j Q0 hj L
theorem Yeu(a:Array Vn)(p n:Nat):a.toList=a.toList.take p++(Q04.take n++a.toList.drop QD1):=by rw[<-Vc5,U3,U3]
theorem Xd7{R:Vn->Vn->Bool}{a:Array Vn}{p n:Nat}(h:p+n<=a.size):SegS R a p n ↔ (Q04.take n).Pairwise QE:=by have:=Xnl (R:=R) (Yeu a p n);rwa [U9,U9,Vc2,U8,show min p a.size=p by omega+splitNatSub,show min n (a.size-p)=n by omega+splitNatSub]at this
section
variable{prog:Ue}{w:Uy}{A:U7}{E:VP}{s:Vc}{κ:Vdu}{R:Vn->Vn->Bool}{mem:Vn->Prop}{st:V8}
variable(hO:Ord R)(hA:Xfb prog w A E s κ R mem)
include hO hA
theorem X64{β:Type}{f:Array Vn->StateT V8 Sem β}{x y:Array Vn}{n m:Nat}{W:List Vn}{Q:β->V8->Prop}(hk:Vaq st=κ)(mx:∀z∈x.toList,mem z)(my:∀z∈y.toList,mem z)(sx:x.toList.Pairwise QE)(sy:y.toList.Pairwise QE)(x0:0<x.size)(y0:0<y.size)
  (h1:∀z∈x.toList,LeK R (kat y 0) z) (h2:∀z∈y.toList,LeK R z (kat x (x.size-1))) (hW:W=x.toList++y.toList) (hQ:∀r L,Glp st L->Srt QE W r.toList->wpS Q3 A E s (f r) Q L):
  wpS Q3 A E s (if n<=m then Xeq x y >>= f else Xes x y >>= f) Q st:=by
 split;·refine Vt (X6x hO hA mx my sx sy (λz hz u hu=>?_) hk x0 y0 (h1 _ (Yg x0)) hW hQ);obtain⟨k,k1,k2,rfl⟩:=Xc5 hu;rw[show k=x.size-1 by omega];exact h2 z hz
 ·exact Vt (X61 hO hA mx my sx sy h1 hk x0 y0 (h2 _ Q30) hW hQ)
theorem X65{i p n v q m v':Nat}{Q:Bool->V8->Prop}(hk:Vaq st=κ)(hf:Vct st=yy)(ma:∀x∈Q1.toList,mem x)(e1:Q71[i]?=yz QF6)(e2:Q71[i+1]?=yz QX7)
  (hq:q=p+n) (hn:0<n) (hm:0<m) (hz:q+m<=Q1.size) (s1:SegS R Q1 p n) (s2:SegS R Q1 q m)
  (hQ:∀ab,Vaq ab=κ->Vct ab=yy->Uu ab=Qk1.eraseIdxIfInBounds Qb2->KeepK Q1 QJ7 p (q+m)->SegS R QJ7 p (n+m)->Q yx ab):
  wpS Q3 A E s Qw2 Q st:=by
 subst hq;unfold wpS;rw[X63 i p n v QD1 m v' st e1 e2];show wpS Q3 A E s (_:StateT V8 Sem Bool) Q st;refine Vt (Vg1 (f:=λ_=>setPending st (Qk1.eraseIdxIfInBounds Qb2)) ?_);unfold Xyc;refine Vt Qg;have af:∀x y,p<=x->x<y->y<p+n->LeK R Q06 Qz5:=Xum s1;have ac:∀x y,p+n<=x->x<y->y<p+n+m->LeK R Q06 Qz5:=Xum s2;refine Vt (Xsk hO hA hk QQ2 Q0 ma af hn λk ae a1 a2=>?_);dsimp only;have fin:(∀x,x<n->LeK R QO5 (kat Q1 QD1))->SegS R Q1 p (n+m):=λh x y h1 h2=>by
  by_cases c1:y<n;·exact s1 x y h1 c1
  ·by_cases c2:n<=x;·have:=ac Qn3 (p+y) Q0 Q0 Q0;exact this
   ·have g1:=h x Q0;by_cases c3:y=n;·subst c3;exact g1
    ·exact hO.tr g1 (ac QD1 (p+y) Q0 Q0 Q0)
 obtain⟨d,rfl⟩:=Vcs ae;rw[Vas];by_cases c:d=0;·rw[iP0 Qj0];exact Vz (hQ _ hk hf rfl .rf (fin λx hx=>a1 x Q0))
 ·rw[iN0 Qj0];obtain⟨d,rfl⟩:∃e,d=e+1:=⟨d-1,by omega⟩;clear c;rw[show p+k+QD-1=p+k+d from rfl];refine Vt Qg;refine Vt (Xsl hO hA hk QQ2 Q0 ma ac Q0 λL ai b1 b2=>?_);dsimp only;obtain⟨e,rfl⟩:=Vcs ai;have aa:∀x,x<Q6->LeK R QO5 (kat Q1 (p+k+d)):=λx hx=>by
   by_cases dd:x=k+d;·subst dd;rw[<-Vf9];exact hO.rf _
   ·exact af _ _ Q0 Q0 Q0
  by_cases c':L=0;·rw[iP0 Qu3];refine Vz (hQ _ hk hf rfl .rf (fin λx hx=>hO.tr (aa x hx) (b2 0 Q0 hm)))
  ·rw[iN0 Qu3];have ex:QT0.toList=Qp0.take (QD):=by
    have:=Xgj Q1 Qy (QD);rwa [show p+k+(QD)=p+Q6 by omega]at this
   have ey:=Xgj Q1 Q70 L;have zx:QT0.size=QD:=by rw[<-U8,ex,Xcx Q0]
   have zy:Qg0.size=L:=by rw[<-U8,ey,Xcx Q0]
   have kx:∀x,x<QD->kat QT0 x=kat Q1 (p+k+x):=λx hx=>by rw[Xbn (by rw[zx];exact hx),Xbn Q0,Array.getElem_extract]
   have ky:∀x,x<L->kat Qg0 x=kat Q1 Qd6:=λx hx=>by rw[Xbn (by rw[zy];exact hx),Xbn Q0,Array.getElem_extract]
   have ah:∀z∈QT0.toList,∃x,k<=x/\x<Q6/\z=kat Q1 Qn3:=λz hz=>by rw[ex]at hz;obtain⟨x,j2,_,rfl⟩:=Xd6 hz;exact⟨k+x,Ver ..,Nat.add_lt_add_left j2 k,by rw[Vf9]⟩
   have aj:∀z∈Qg0.toList,∃x,x<L/\z=kat Q1 Qd6:=λz hz=>by rw[ey]at hz;obtain⟨x,j2,_,e⟩:=Xd6 hz;exact⟨x,j2,e⟩
   refine X64 hO hA (W:=Qp0.take (QD)++Qf.take L) hk Qo1 Qo1 ?_ ?_ (by rw[zx];omega) (by rw[zy];omega) Qo1 Qo1 (by rw[ex,ey]) λr am hg hr=>?_;·obtain⟨x,x1,x2,rfl⟩:=ah z hz;exact ma _ Q30
   ·obtain⟨x,x1,rfl⟩:=aj z hz;exact ma _ Q30
   ·rw[ex,<-Xd7 Q0];exact λx y h1 h2=>af _ _ Q0 Q0 Q0
   ·rw[ey,<-Xd7 Q0];exact λx y h1 h2=>ac _ _ Q0 Q0 Q0
   ·obtain⟨x,x1,x2,rfl⟩:=ah z hz;rw[ky 0 Q0];exact hO.as (a2 x x1 x2)
   ·obtain⟨x,x1,rfl⟩:=aj z hz;rw[zx,kx _ Q0,show p+k+(QD-1)=p+k+d from rfl];exact hO.as (b1 x x1)
   -- what is laid back
   obtain⟨g,rfl⟩:=hg;refine Vt (Vg1 (Vt Q20));have al:Q75.isNone=true:=by rw[hf];rfl
   refine Vz (show Q Q75.isNone _ from ?_);rw[al];have lr:(ll r.toList)=QD+L:=by rw[hr.1.length_eq,V4,Xcx Q0,Xcx Q0]
   have ak:=Xnk Qy r.toList 0 Q1 (by rw[lr];omega);have hU:=(Xd7 (R:=R) (a:=Vs st) (p:=p) (n:=Q6) Q0).mp s1;have hV:=(Xd7 (R:=R) (a:=Vs st) (p:=p+Q6) (n:=Qr5) Q0).mp s2;have eU:Qp0.take (QD)=Qt1.drop k:=by rw[Vij,Vc5,Vas]
   have eV:Qf.take L=Q81.take L:=by rw[Vfq,Va7 ai]
   have gl:=Yet (k:=k) (m:=L) hU hV Ql3 Ql3 (Z':=r.toList) (by rw[<-eU,<-eV];exact hr)
   ·have eA:Qq.toList=(Vs st).toList.take p++(Qt1.take k++Ql2++(Vs st).toList.drop Qv2):=by
     rw[ak,lr,Vq];have t1:(Vs st).toList.take (p+k+0)=(Vs st).toList.take p++Qt1.take k:=by rw[Vbj,Vfq,Va7 ae,List.take_add]
     have t2:(Vs st).toList.drop (p+k+0+Qj7)=Q81.drop L++(Vs st).toList.drop Qv2:=by rw[Vij,Vc5,show p+k+0+Qj7=p+Q6+L by omega,Vas];have:=(U3 e ((Vs st).toList.drop (p+Q6+L))).symm;rwa [Vc5,Vf9 Q70 L e]at this
     rw[t1,t2];simp only[Vq]
    have eB:Q1.toList=(Vs st).toList.take p++(QA2++(Vs st).toList.drop Qv2):=by rw[Vq,<-Vc5 (i:=Qr5),U3,<-Vc5,U3,U3]
    have lU:(Qt1.take k++Ql2).length=Q6+Qr5:=by rw[gl.1.length_eq,V4,Xcx Q0,Xcx Q0]
    have lA:((Vs st).toList.take p).length=p:=by rw[U9,U8];omega
    refine hQ _ hk hf rfl ⟨?_,λj hj=>?_⟩ ?_;·show Array.Perm Qq _;rw[Vd7,eA];exact(((gl.1.append_right _).append_left _).trans (by rw[<-eB]))
    ·show kat Qq j=_;rw[Xh0,Xh0,eA];have lW:QA2.length=Q6+Qr5:=by rw[<-gl.1.length_eq,lU]
     rw[Uj,Uj]
     conv=>rhs;rw[eB]
     rcases hj with hj|hj;·rw[Vv Q0,Vv Q0]
     ·rw[Uz Q0,Uz Q0,Uz Q0,Uz Q0,lU,lW]
    show SegS R Qq p (Q6+Qr5);have:=(Xnl (R:=R) eA).mpr gl.2;rwa [lA,lU]at this
   ·rw[Vfq,Va7 ae]at hx;obtain⟨j,j2,_,rfl⟩:=Xd6 hx;obtain⟨l,l2,_,rfl⟩:=Xd6 hy;have g:=a1 j j2;by_cases dd:l=0;·subst dd;exact g
    ·exact hO.tr g (ac _ _ QO Q0 Q0)
   rw[Vij,Vc5]at hy;obtain⟨j,j2,_,rfl⟩:=Xd6 hx;obtain⟨l,l2,_,rfl⟩:=Xd6 hy;rw[Vas]at l2;have g:=b2 (L+l) (Ver ..) (Nat.add_lt_add_left l2 _);rw[<-Vf9]at g;exact hO.tr (aa j j2) g
universe e
noncomputable def upL(q a n:Nat):StateT V8 Sem (Option Qt×Nat):=forIn [a:n] (yy,a) λ_ z=>do
 let x <- ltAt' Qz6 QE6
 match x with
 |some y=>if y=yx then pure Qn else pure (.yield (yy,z.2+1))|_=>pure QX0
noncomputable def upE(q m n:Nat):StateT V8 Sem Qt:=do
 Vhh q (q+m)
 let z <- upL q m n
 match z.1 with
 |some r=>pure r|none=>pure Qu4
noncomputable def dnL(q a n:Nat):StateT V8 Sem (Option Qt×Nat×Nat):=forIn [a:n] (yy,a,0) λ_ z=>do
 let x <- ltAt' Qu2 Qe5
 match x with
 |some y=>
  if y=yx then
   if z.2.2>0 then do
    Vhh QG3 Qu2
    pure Qf2
   else pure Qf2
  else do
   let x <- ltAt' Qe5 Qu2
   match x with
   |some y=>if y=yx then pure (.done (yy,z.2.1,z.2.2)) else pure (.yield (yy,z.2.1+1,z.2.2+1))|_=>pure QD2
 |_=>pure QD2
noncomputable def dnE(q m n:Nat):StateT V8 Sem Qt:=do
 liftM (rule "list.sort.descending-run")
 let z <- dnL q (m+1) n
 match z.1 with
 |some r=>pure r|none=>
  if z.2.2>0 then do
   Vhh QG3 Qu2
   upE q z.2.1 n
  else upE q z.2.1 n
theorem X66(q n:Nat):countRun' q n=(do
  let z <- upL q 1 n
  match z.1 with
  |some r=>pure r|none=>
   if (z.2==n)=yx then pure Qu4
   else if z.2>1 then do
    let x <- ltAt' q QE6
    match x with
    |some y=>if y=yx then pure Qu4 else do
      Vhh q Qz6
      dnE q z.2 n|_=>pure yy
   else dnE q z.2 n):=by
 refine Xv rfl λz=>?_;obtain⟨L,z2⟩:=z;cases L with
 |some r=>rfl|none=>
  refine ite_congr rfl Qr λ_=>ite_congr rfl (λ_=>Xv rfl λx=>?_) λ_=>?_
  ·cases x with
   |none=>rfl|some y=>
    refine ite_congr rfl Qr λ_=>bind_congr λ_=>?_;refine bind_congr λ_=>Xv rfl λc=>?_;obtain⟨c1,c2,c3⟩:=c;cases c1 with
    |some r=>rfl|none=>
     refine ite_congr rfl QO0 λ_=>bind_congr λ_=>Xv rfl λz=>?_
     all_goals (obtain⟨L,z2⟩:=z;cases L<;>rfl)
  refine bind_congr λ_=>Xv rfl λc=>?_;obtain⟨c1,c2,c3⟩:=c;cases c1 with
  |some r=>rfl|none=>
   refine ite_congr rfl QO0 λ_=>bind_congr λ_=>Xv rfl λz=>?_
   all_goals (obtain⟨L,z2⟩:=z;cases L<;>rfl)
theorem Xgl{xs:Array Vn}{i j:Nat}(L:j<=xs.size)(k:Nat):kat (mirror xs i j ((j-i)/2)) k=if i<=k/\k<j then kat xs (i+j-1-k) else kat xs k:=by simp only[kat,Vfy,getElem?_mirror_all L];split<;>rfl
theorem Xka{xs:Array Vn}{a d:Nat}(h:a<xs.size)(hd:d<=a)(k:Nat):kat (bubble xs a d) k=if k=a-d then kat xs a else if a-d<k/\k<=a then kat xs (k-1) else kat xs k:=by
 simp only[kat,Vfy,getElem?_bubble h d hd];split;·rfl
 ·split<;>rfl
structure Bs(κ:Vdu)(P:Array Qa)(a:Array Vn)(p q:Nat)(st:V8):Prop where
 kd:Vaq st=κ
 fl:Vct st=yy
 pn:Uu st=P
 kp:KeepK a Q1 p q
section
variable{κ:Vdu}{P:Array Qa}{a:Array Vn}{p q:Nat}{st:V8}{R:Vn->Vn->Bool}
theorem Bs.sz(h:Bs κ P a p q st):Q1.size=a.size:=h.kp.size
theorem Bs.rev{i j:Nat}(h:Bs κ P a p q st)(hi:p<=i)(hj:j<=q)(L:q<=a.size):Bs κ P a p q QN4:=
 ⟨h.kd,h.fl,h.pn,h.kp.trans ⟨mirror_perm _ _ _ _,λk hk=>by show kat Qe0 k=_;rw[Xgl Qw3,iN0 Q0]⟩⟩
theorem Bs.bub{i j:Nat}(h:Bs κ P a p q st)(hi:p<=j)(L:j<=i)(hj:i<q)(hq:q<=a.size):Bs κ P a p q (setArr st QL3):=
 ⟨h.kd,h.fl,h.pn,h.kp.trans ⟨bubble_perm _ _ _,λk hk=>by show kat QL3 k=_;rw[Xka Qw3 Q0,iN0 Q0,iN0 Q0]⟩⟩
def DecS(R:Vn->Vn->Bool)(a:Array Vn)(p n:Nat):Prop:=∀i j,i<j->j<n->LeK R Qg5 Qf5
def Xnm(R:Vn->Vn->Bool)(a:Array Vn)(p q:Nat):Prop:=∀i j,p<=i->i<q->p<=j->j<q->LeK R Qu QI6
theorem SegS.more(hO:Ord R){x:Nat}(h:SegS R a p x)(h1:1<=x)(hl:LeK R QR4 Qh5):SegS R a p (x+1):=λi j L hj=>by
 by_cases c:j<x;·exact h i j L c
 ·obtain rfl:j=x:=by omega
  obtain⟨j,rfl⟩:∃k,j=k+1:=Q84;by_cases d:i=j;·subst d;exact hl
  ·have:=h i j Q0 QM7;exact hO.tr this hl
theorem DecS.more(hO:Ord R){x:Nat}(h:DecS R a p x)(h1:1<=x)(hl:LeK R Qh5 QR4):DecS R a p (x+1):=λi j L hj=>by
 by_cases c:j<x;·exact h i j L c
 ·obtain rfl:j=x:=by omega
  obtain⟨j,rfl⟩:∃k,j=k+1:=Q84;by_cases d:i=j;·subst d;exact hl
  ·have:=h i j Q0 QM7;exact hO.tr hl this
theorem Xkb(hO:Ord R){i j:Nat}(hj:j<=a.size)(L:Xnm R a i j)(k:Nat):LeK R Qe1 Qy2/\LeK R Qy2 Qe1:=by
 rw[Xgl hj];split;·exact⟨L _ _ Q0 Q0 Q0 Q0,L _ _ Q0 Q0 Q0 Q0⟩
 ·exact⟨hO.rf _,hO.rf _⟩
theorem DecS.eqv(hO:Ord R){b:Array Vn}{n:Nat}(h:DecS R a p n)(he:∀k,LeK R QH6 Qy2/\LeK R Qy2 QH6):DecS R b p n:=λi j L hj=>hO.tr (Qd7.1) (hO.tr (h i j L hj) Qd7.2)
universe e
section
variable{prog:Ue}{w:Uy}{A:U7}{E:VP}{s:Vc}{κ:Vdu}{R:Vn->Vn->Bool}{mem:Vn->Prop}{st:V8}{P:Array Qa}{a₀:Array Vn}{p n:Nat}
theorem Xi0{i j:Nat}{Q:Unit->V8->Prop}(h:Q () QN4):wpS Q3 A E s (Vhh i j) Q st:=by rw[reverseSlice'_eq];exact Vg1 h
variable(hO:Ord R)(hA:Xfb prog w A E s κ R mem)(ma:∀x∈a₀.toList,mem x)(hz:p+n<=a₀.size)
include hA ma
theorem Xfd{i j lo hi:Nat}{Q:Option Bool->V8->Prop}(hB:Bs κ P a₀ lo hi st)(h1:i<a₀.size)(h2:j<a₀.size)(h:Q (yz (R (kat Q1 i) (kat Q1 j))) st):wpS Q3 A E s (ltAt' i j) Q st:=by rw[ltAt'_eq];refine Vt Q20;have z:=hB.sz;refine Vt Qa4;exact hA _ _ _ _ Q73 Q73 hB.kd h
include hO hz
theorem Xun{k:Nat}{Q:Option Qt×Nat->V8->Prop}(h1:1<=k)(hk:k<=n)(hB:Bs κ P a₀ p QD1 st)(hs:SegS R Q1 p k)
  (h:∀m,k<=m->m<=n->SegS R Q1 p m->(m=n\/R (kat Q1 Q27) QC4=yx)->Q (yy,m) st):wpS Q3 A E s (upL p k n) Q st:=by
 unfold upL;refine Va9 (I:=λx c L=>L=st/\c=(yy,x)/\SegS R Q1 p x) ?step ?fin ⟨rfl,rfl,hs⟩
 case fin=>rintro c L ⟨rfl,rfl,g⟩;rw[Nat.max_eq_right hk]at g ⊢;exact h n hk QO g QG
 case step=>
  rintro x c L hx hxn ⟨rfl,rfl,g⟩;refine Vt Qd2;cases e:R QG2 Qx1 with
  |true=>exact Vz (h x hx Q0 g (.inr e))|false=>exact Vz ⟨rfl,rfl,g.more hO Q0 e⟩
theorem Xuo{k:Nat}{Q:Option Nat->V8->Prop}(h1:1<=k)(hk:k<=n)(hB:Bs κ P a₀ p QD1 st)(hs:DecS R Q1 p k)
  (h:∀m L,Bs κ P a₀ p QD1 L->1<=m->m<=n->SegS R QN p m->Q QU3 L):wpS Q3 A E s (upE p k n) Q st:=by
 unfold upE;refine Vt (Xi0 ?_);have aa:=hB.rev (i:=p) (j:=p+k) QO Q0 hz;refine Vt (Xun hO hA ma hz h1 hk aa (λi j ab hj=>?_) λm m1 m2 m3 _=>Vz (h m _ aa Q0 m2 m3));show LeK R (kat Q42 Qz4) (kat Q42 Qo3);rw[Xgl QJ1,Xgl QJ1,iP0 Q0,iP0 Q0];have:=hs Q97 QA7 Q0 Q0;rwa [show p+QA7=p+Qy-1-Qz4 by omega,show p+Q97=p+Qy-1-Qo3 by omega]at this
theorem X67{k:Nat}{Q:Option Qt×Nat×Nat->V8->Prop}(h1:1<=k)(hk:k<=n)(hB:Bs κ P a₀ p QD1 st)(hs:DecS R Q1 p k)
  (h:∀m e L,Bs κ P a₀ p QD1 L->k<=m->m<=n->DecS R QN p m->e+1<=m->Xnm R QN (p+m-(e+1)) Q27->Q (yy,m,e) L):wpS Q3 A E s (dnL p k n) Q st:=by
 unfold dnL;have one:∀(b:Array Vn) x,Xnm R b (p+x-(0+1)) Qn3:=λb x i j _ _ _ _=>by rw[show i=j by omega];exact hO.rf _
 refine Va9 (I:=λx c L=>∃e,c=(yy,x,e)/\Bs κ P a₀ p QD1 L/\DecS R QN p x/\e+1<=x/\Xnm R QN (p+x-(e+1)) Qn3) ?step ?fin ⟨0,rfl,hB,hs,by omega,one _ _⟩
 case fin=>rintro c L ⟨e,rfl,g1,g2,g3,g4⟩;rw[Nat.max_eq_right hk]at g2 g3 g4 ⊢;exact h n e L g1 hk QO g2 g3 g4
 case step=>
  rintro x c L hx hxn ⟨e,rfl,g1,g2,g3,g4⟩;dsimp only;refine Vt Qv0;dsimp only;cases u:R QG2 Qx1 with
  |true=>
   rw[iP0 rfl];have d:=g2.more hO Q0 (hO.as u);split;·refine Vt (Xi0 (Vz ⟨0,rfl,g1.rev Q0 Q0 hz,?_,by omega,one _ _⟩));exact d.eqv hO (Xkb hO QX3 g4)
   ·exact Vz ⟨0,rfl,g1,d,by omega,one _ _⟩|false=>
   rw[iN0 QR];refine Vt Qv0;dsimp only;cases v:R Qx1 QG2 with
   |true=>exact Vz (h x e L g1 hx Q0 g2 g3 g4)|false=>
    refine Vz ⟨e+1,rfl,g1,g2.more hO Q0 v,by omega,λi j i1 i2 j1 j2=>?_⟩;by_cases ci:i=p+x
    ·by_cases cj:j=p+x;·rw[ci,cj];exact hO.rf _
     ·rw[ci];exact hO.tr v (g4 _ j Q0 Q0 Q0 Q0)
    by_cases cj:j=p+x;·rw[cj];exact hO.tr (g4 i (p+x-1) Q0 Q0 Q0 Q0) u
    ·exact g4 i j Q0 Q0 Q0 Q0
theorem Xup{k:Nat}{Q:Option Nat->V8->Prop}(hk:k+1<=n)(hB:Bs κ P a₀ p QD1 st)(hs:DecS R Q1 p QT4)
  (h:∀m L,Bs κ P a₀ p QD1 L->1<=m->m<=n->SegS R QN p m->Q QU3 L):wpS Q3 A E s (dnE p k n) Q st:=by
 unfold dnE;refine Vt QI;refine Vt (X67 hO hA ma hz Q0 hk hB hs λm e L g1 g2 g3 g4 g5 g6=>?_);dsimp only;split;·exact Vt (Xi0 (Xuo hO hA ma hz Q0 g3 (g1.rev Q0 Q0 hz) (g4.eqv hO (Xkb hO QX3 g6)) h))
 ·exact Xuo hO hA ma hz Q0 g3 g1 g4 h
theorem X68{Q:Option Nat->V8->Prop}(h1:1<=n)(hB:Bs κ P a₀ p QD1 st)
  (h:∀m L,Bs κ P a₀ p QD1 L->1<=m->m<=n->SegS R QN p m->Q QU3 L):wpS Q3 A E s (countRun' p n) Q st:=by
 rw[X66];refine Vt (Xun hO hA ma hz (Vi 1) h1 hB QE3 λm m1 m2 m3 m4=>?_);dsimp only;by_cases c:m=n;·rw[iP0 Qj0];exact Vz Q83
 ·rw[iN0 Qj0];have lt:=m4.resolve_left c;by_cases d:m>1
  ·rw[iP0 d];refine Vt Qd2;dsimp only;cases u:R (kat Q1 p) QC4 with
   |true=>exact Vz Q83|false=>
    rw[iN0 QR];have le:∀i j,i<=j->j<m->LeK R (kat Q1 Qz4) (kat Q1 Qo3):=λi j aa hj=>by
     by_cases c:i=j;·rw[c];exact hO.rf _
     ·exact m3 i j Q0 hj
    have all:Xnm R Q1 p Q27:=λi j i1 i2 j1 j2=>by have g1:=le (i-p) Q47 Q0 Q0;have g2:=le 0 (j-p) Q0 Q0;rw[show p+(i-p)=i by omega,show p+Q47=p+m-1 by omega]at g1;rw[show p+(j-p)=j by omega,Vbj]at g2;exact hO.tr g1 (hO.tr u g2)
    have dc:DecS R Q1 p m:=λi j aa hj=>all _ _ Q0 Q0 Q0 Q0;refine Vt (Xi0 (Xup hO hA ma hz Q0 (hB.rev QO Q0 hz) ?_ h));exact(dc.more hO Q0 Q16).eqv hO (Xkb hO QJ1 all)
  rw[iN0 d];obtain rfl:m=1:=by omega
  refine Xup hO hA ma hz Q0 hB (DecS.more hO QE3 QO Q16) h
theorem X69{k:Nat}{Q:Bool->V8->Prop}(hk:k<=n)(hB:Bs κ P a₀ p QD1 st)(hs:SegS R Q1 p k)
  (h:∀L,Bs κ P a₀ p QD1 L->SegS R QN p n->Q yx L):wpS Q3 A E s (binarySort' p n k) Q st:=by
 rw[binarySort'_eq];refine Vt (Vdb (Va9 (I:=λk c L=>c=Q40/\Bs κ P a₀ p QD1 L/\SegS R QN p (min k n))
  (Q:=λc L=>c=Q40/\Bs κ P a₀ p QD1 L/\SegS R QN p n) ?step ?fin ?init) ?post)
 case post=>rintro c L ⟨rfl,g1,g2⟩;exact Vz (h L g1 g2)
 case init=>exact⟨rfl,hB,λi j ab hj=>hs i j ab Q0⟩
 case fin=>rintro c L ⟨g1,g2,g3⟩;rw[show min (max (max k 1) n) n=n by omega]at g3;exact⟨g1,g2,g3⟩
 case step=>
  rintro k c L h1 h2 ⟨rfl,g1,g2⟩;rw[show min k n=k by omega]at g2;have le:∀i j,i<=j->j<k->LeK R Qf0 (kat QN Qo3):=λi j ab hj=>by
   by_cases c:i=j;·rw[c];exact hO.rf _
   ·exact g2 i j Q0 hj
  refine Vt (Vdb (Va9 (I:=λx c aa=>aa=L/\∃l r,c=QB4/\l<=r/\r<=k/\r+x<=k+l /\
    QT1/\∀i,r<=i->i<k->LeK R Qi5 Qf0)
   (Q:=λc aa=>aa=L/\∃l r,c=QB4/\l<=k/\QT1/\∀i,l<=i->i<k->LeK R Qi5 Qf0) ?st ?fi ⟨rfl,0,k,rfl,by omega,by omega,by omega,λi hi=>by omega,λi _ _=>by omega⟩) ?po)
  case fi=>
   rintro c aa ⟨rfl,l,r,rfl,a1,a2,a3,a4,a5⟩;obtain rfl:l=r:=by omega
   exact QM2
  case st=>
   rintro x c aa _ hx ⟨rfl,l,r,rfl,a1,a2,a3,a4,a5⟩;dsimp only;by_cases d:l ≥ r
   ·rw[iP0 d];obtain rfl:l=r:=by omega
    exact Vz QM2
   rw[iN0 d];refine Vt Qv0;dsimp only;cases e:R (kat Qc4 Qy) (kat Qc4 (p+(l+r)/2)) with
   |true=>exact Vz ⟨rfl,l,_,rfl,by omega,by omega,by omega,a4,λi i1 i2=>hO.tr QV4 (le _ _ i1 i2)⟩|false=>exact Vz ⟨rfl,_,r,rfl,by omega,a2,by omega,λi i1=>hO.tr (le _ _ Q0 Q0) e,a5⟩
  case po=>
   rintro c aa ⟨rfl,l,r,rfl,a1,a2,a3⟩;show wpS _ _ _ _ (do moveDown' Qy (p+l);pure (Vd0 Q40)) _ _;rw[moveDown'_eq];refine Vt (Vg1 (Vz ⟨rfl,g1.bub Q0 Q0 Q0 hz,?_⟩));rw[show min QT4 n=k+1 by omega];have zk:p+k<Qc4.size:=by rw[g1.sz];omega
   intro i j ab hj;show LeK R (kat Qj1 Qz4) (kat Qj1 Qo3);have el:p+k-(p+k-(p+l))=p+l:=by omega
   rw[Xka zk Q0,Xka zk Q0,el];clear el zk;by_cases i1:i<l
   ·rw[iN0 Q0,iN0 Q0];by_cases j1:j<l;·rw[iN0 Q0,iN0 Q0];exact le _ _ Q0 Q0
    ·by_cases j2:j=l;·rw[iP0 Q0];exact a2 i i1
     ·rw[iN0 Q0,iP0 Q0,show p+j-1=p+Q00 by omega];exact le _ _ Q0 Q0
   by_cases i2:i=l;·rw[iP0 Q0,iN0 Q0,iP0 Q0,show p+j-1=p+Q00 by omega];exact a3 _ Q0 Q0
   ·rw[iN0 Q0,iP0 Q0,iN0 Q0,iP0 Q0,show p+j-1=p+Q00 by omega,show p+i-1=p+QE0 by omega];exact le _ _ Q0 Q0
universe e
noncomputable abbrev Pn:=Array Qa
noncomputable def prL(t w:Nat):StateT V8 Sem QN3:=forIn [0:t] Q40 λ_ _=>do
 let z <- get
 match (if Q92.size>1 then Q92[Q92.size-2]? else yy) with
 |some (_,_,v)=>if v<=w then pure QP3 else do
   let b <- mergeAt' (Q92.size-2)
   if !b then pure Qh3 else pure QV5|_=>pure QP3
noncomputable def laL(q n:Nat):StateT V8 Sem Qf4:=do
 modify λs=>setPending s (Qs1.push (q,n,0))
 pure (.yield (yy,q+n))
noncomputable def bhL(t q n:Nat):StateT V8 Sem Qf4:=do
 let z <- get
 match Q92.back? with
 |some x=>do
  let y <- prL t (power' t Q95 Q23 t)
  match y.1 with
  |some r=>pure (.done (yz r,q))|none=>do
   modify λs=>setPending s (Qs1.modify (Qs1.size-1) λ(u,v,_)=>(u,v,power' t Q95 Q23 t))
   laL q n
 |_=>laL q n
noncomputable def rnL(t m:Nat):StateT V8 Sem Q80:=forIn [0:t] (yy,0) λ_ z=>
 if z.2 ≥ t then pure Qn else do
  let x <- countRun' z.2 (t-z.2)
  match x with
  |some k=>
   if k<m then do
    liftM (rule "list.sort.binary-insertion")
    let b <- binarySort' z.2 QP4 k
    if !b then pure QQ3 else bhL t z.2 QP4
   else bhL t z.2 k|_=>pure QQ3
noncomputable def laP(p:Pn):Nat:=if ((if p.size-2>0 then p[p.size-2-1]?.map QS7 else yy).any (· < (p[p.size-2+1]?.elim 0 QS7)))=yx then p.size-2-1 else p.size-2
noncomputable def enL(t:Nat):StateT V8 Sem QN3:=forIn [0:t] Q40 λ_ _=>do
 let z <- get
 if Q92.size<=1 then pure QP3 else do
  let b <- mergeAt' (laP Q92)
  if !b then pure Qh3 else pure QV5
theorem X7a:sortRuns'=(do
  let z <- get
  let x <- rnL QS5.size (minRun' QS5.size QS5.size 0)
  match x.1 with
  |some r=>pure r|none=>do
   let y <- enL QS5.size
   match y.1 with
   |some r=>pure r
   |none=>pure ()):=by
 rw[sortRuns'_eq];refine bind_congr λz=>Xv ?_ λx=>?_
 ·unfold rnL;refine congrArg QK3 ?_;funext _ y;refine ite_congr rfl Qr λ_=>?_;refine Xv rfl λx=>?_;cases x with
  |none=>rfl|some k=>
   refine ite_congr rfl (λ_=>bind_congr λ_=>Xv rfl λb=>?_) λ_=>?_
   ·refine ite_congr rfl Qr λ_=>?_;unfold bhL;refine Xv rfl λz=>?_;cases Q92.back? with
    |none=>rfl|some x=>obtain⟨x1,x2,x3⟩:=x;refine Xv rfl λy=>?_;obtain⟨L,y2⟩:=y;cases L<;>rfl
   unfold bhL;refine Xv rfl λz=>?_;cases Q92.back? with
   |none=>rfl|some x=>obtain⟨x1,x2,x3⟩:=x;refine Xv rfl λy=>?_;obtain⟨L,y2⟩:=y;cases L<;>rfl
 ·obtain⟨x1,x2⟩:=x;cases x1 with
  |some r=>rfl|none=>refine Xv rfl λy=>?_;obtain⟨L,y2⟩:=y;cases L<;>rfl
theorem Xl2{α β:Type}{f:α->β}{l m:List β}(h:l.Perm m):∀ps:List α,m=ps.map f->∃L:List α,L.Perm ps/\l=L.map f:=by
 induction h with
 |nil=>
  intro ps e;cases ps with
  |nil=>exact⟨[],Vik _,rfl⟩|cons _ _=>cases e
 |@cons x l m _ ih=>
  intro ps e;cases ps with
  |nil=>cases e|cons p ps=>injection e with e1 e2;obtain⟨L,q1,q2⟩:=ih ps e2;exact⟨p::L,q1.cons p,by rw[Ua,<-q2,e1]⟩
 |swap x y l=>
  intro ps e;rcases ps with _|⟨p,_|⟨q,ps⟩⟩;·cases e
  ·cases e
  injection e with e1 e2;injection e2 with e2 e3;exact⟨q::p::ps,List.Perm.swap _ _ _,by simp[e1,e2,e3]⟩|trans _ _ aa ab=>intro ps e;obtain⟨p2,q1,q2⟩:=ab ps e;obtain⟨p1,q3,q4⟩:=aa p2 q2;exact⟨p1,q3.trans q1,q4⟩
def Runs(R:Vn->Vn->Bool)(a:Array Vn):List Qa->Nat->Nat->Prop
 |[],b,e=>b=e|x::l,b,e=>x.1=b/\0<x.2.1/\SegS R a x.1 x.2.1/\Runs R a l (b+x.2.1) e
section
variable{R:Vn->Vn->Bool}{a a':Array Vn}
theorem Runs.le:∀ {l:List Qa} {b e:Nat},Runs R a l b e->b+ll l<=e
 |[],b,e,h=>by cases h;exact Vi _|x::l,b,e,⟨_,h0,_,h⟩=>by have:=h.le;rw[Ux];omega
theorem Runs.keep{p q:Nat}(k:KeepK a a' p q):∀ {l:List Qa} {b e:Nat},Runs R a l b e->e<=p\/q<=b->Runs R a' l b e
 |[],b,e,h,_=>h|x::l,b,e,Q01,c=>⟨h1,h0,k.seg (by have:=h.le;omega) h2,h.keep k Q0⟩
theorem Runs.app:∀ {l m:List Qa} {b e:Nat},Runs R a (l++m) b e ↔ ∃c,Runs R a l b c/\Runs R a m c e
 |[],m,b,e=>⟨λh=>⟨b,rfl,h⟩,λ⟨c,h1,h2⟩=>by cases h1;exact h2⟩|x::l,m,b,e=>by refine⟨λ Qv1=>?_,λ⟨c,Qv1,L⟩=>⟨h1,h2,h3,Runs.app.mpr ⟨c,h4,L⟩⟩⟩;obtain⟨c,L,h6⟩:=Runs.app.mp h4;exact⟨c,⟨h1,h2,h3,L⟩,h6⟩
theorem Runs.pw{w:Nat}:∀ {l:List Qa} {i b e:Nat},Runs R a l b e->Runs R a (l.modify i λx=>(x.1,x.2.1,w)) b e
 |[],i,b,e,h=>by rw[List.modify_nil];exact h|x::l,0,b,e,Q01=>Q01|x::l,i+1,b,e,Q01=>by rw[List.modify_succ_cons];exact⟨h1,h0,h2,h.pw⟩
theorem Xuq{α:Type}:∀ {l:List α} {i:Nat},i+1<ll l->∃m x y r,l=m++x::y::r/\Qc7=i
 |x::y::r,0,_=>⟨[],x,y,r,rfl,rfl⟩|x::l,i+1,h=>by obtain⟨m,y,z,r,e,hl⟩:=Xuq (l:=l) (i:=i) QF4;exact⟨x::m,y,z,r,by rw[e];rfl,by rw[Ux,hl]⟩
universe e
structure Rn(κ:Vdu)(R:Vn->Vn->Bool)(a₀:Array Vn)(t n:Nat)(st:V8):Prop where
 kd:Vaq st=κ
 fl:Vct st=yy
 pm:Q1.Perm a₀
 rn:Runs R Q1 Q71.toList 0 t
 sg:SegS R Q1 t n
 le:t+n<=a₀.size
section
variable{prog:Ue}{w:Uy}{A:U7}{E:VP}{s:Vc}{κ:Vdu}{R:Vn->Vn->Bool}{mem:Vn->Prop}{st:V8}{a₀:Array Vn}{t n:Nat}
theorem Rn.sz(h:Rn κ R a₀ t n st):Q1.size=a₀.size:=h.pm.size_eq
theorem Rn.mm(h:Rn κ R a₀ t n st)(ma:∀x∈a₀.toList,mem x):∀x∈Q1.toList,mem x:=λx hx=>ma x ((Vd7.mp h.pm).mem_iff.mp hx)
variable(hO:Ord R)(hA:Xfb prog w A E s κ R mem)(ma:∀x∈a₀.toList,mem x)
include hO hA ma
theorem Xur{i:Nat}{Q:Bool->V8->Prop}(h:Rn κ R a₀ t n st)(hi:i+1<Q71.size)(hQ:∀L,Rn κ R a₀ t n L->QT2.size+1=Q71.size->Q yx L):wpS Q3 A E s Qw2 Q st:=by
 obtain⟨m,⟨p,k,v⟩,⟨q,k',v'⟩,r,e,hl⟩:=Xuq (l:=Q71.toList) (i:=i) QW1;subst hl;have hr:=h.rn;rw[e]at hr;obtain⟨c,r1,r2,r3,r4,r5,r6,r7,r8⟩:=Runs.app.mp hr;dsimp only at r2 r3 r4 r5 r6 r7 r8;subst r2 r5;have l8:=r8.le;have hz:=h.sz;have aa:=h.le;refine X65 hO hA (p:=p) (n:=k) (v:=v) (q:=p+k) (m:=k') (v':=v') h.kd h.fl (h.mm ma) ?_ ?_ rfl r3 r6 Q0 r4 r7 λL k1 k2 k3 k4 k5=>?_;·rw[<-Vcf,e];simp
 ·rw[<-Vcf,e];simp
 have e3:QT2.toList=m++(p,k+k',v)::r:=by rw[k3,Array.toList_eraseIdxIfInBounds,Vix,e,Vfr _ _ QO,Vad,List.set_cons_zero,List.eraseIdx_append_of_length_le Q0,show Qc7+1-ll m=1 by omega];rfl
 refine hQ L ⟨k1,k2,k4.1.trans h.pm,?_,k4.seg Q0 h.sg,aa⟩ ?_;·rw[e3];exact Runs.app.mpr ⟨p,r1.keep k4 Qi4,rfl,by dsimp only;omega,k5,by rw[<-Vf9];exact r8.keep k4 (.inr QO)⟩
 ·rw[<-U8,<-U8,e3,e];simp only[V4,Ux];omega
theorem X7b{u v:Nat}{Q:Option Unit×Unit->V8->Prop}(h:Rn κ R a₀ t n st)(hQ:∀L,Rn κ R a₀ t n L->Q Q40 L):wpS Q3 A E s (prL u v) Q st:=by
 unfold prL;refine Va9 (I:=λ_ c L=>c=Q40/\Rn κ R a₀ t n L) ?_ (λc L ⟨h1,h2⟩=>by rw[h1];exact hQ L h2) ⟨rfl,h⟩;rintro x c L _ _ ⟨rfl,h'⟩;refine Vt Q20;split
 ·rename_i q;split;·exact Vz QK6
  ·by_cases c:QT2.size>1;·exact Vt (Xur hO hA ma h' Q0 λaa h2 _=>Vz ⟨rfl,h2⟩)
   ·rw[iN0 c]at q;cases q
 exact Vz QK6
omit hO hA ma in
theorem Xus(h:Rn κ R a₀ t n st)(hn:0<n){Q:ForInStep Q80->V8->Prop}(hQ:∀L,Rn κ R a₀ Qy6 0 L->Q Q64 L):wpS Q3 A E s (laL t n) Q st:=by unfold laL;refine Vt (Vg1 (Vz (hQ _ ⟨h.kd,h.fl,h.pm,?_,λi j _ hj=>by omega,h.le⟩)));show Runs R Q1 (Q71.push (t,n,0)).toList 0 Qy6;rw[Vfi];exact Runs.app.mpr ⟨t,h.rn,rfl,hn,h.sg,rfl⟩
theorem Xut{u:Nat}(h:Rn κ R a₀ t n st)(hn:0<n){Q:ForInStep Q80->V8->Prop}(hQ:∀aa,Rn κ R a₀ Qy6 0 aa->Q Q64 aa):wpS Q3 A E s (bhL u t n) Q st:=by
 unfold bhL;refine Vt Q20;split;·refine Vt (X7b hO hA ma h λL h2=>?_);refine Vt (Vg1 ?_);refine Xus ?_ hn hQ;refine⟨h2.kd,h2.fl,h2.pm,?_,h2.sg,h2.le⟩;show Runs R QN (QT2.modify _ _).toList 0 t;rw[Array.toList_modify];exact h2.rn.pw
 ·exact Xus h hn hQ
theorem X7c{m:Nat}{Q:Option Unit×Nat->V8->Prop}(h:Rn κ R a₀ 0 0 st)(hQ:∀L,Rn κ R a₀ a₀.size 0 L->Q (yy,a₀.size) L):wpS Q3 A E s (rnL a₀.size m) Q st:=by
 unfold rnL;refine Va9 (I:=λx c L=>∃t,c=(yy,t)/\x<=t/\Rn κ R a₀ t 0 L) ?_ (λc L ⟨t,h1,h2,h3⟩=>?_) ⟨0,rfl,Vi _,h⟩
 ·rintro x c L _ hx ⟨t,rfl,h1,h2⟩;dsimp only;have ac:=h2.le;by_cases c:t ≥ a₀.size
  ·rw[iP0 c];obtain rfl:t=a₀.size:=by omega
   exact Vz (hQ _ h2)
  rw[iN0 c];have hz:t+Q55<=QN.size:=by rw[h2.sz];omega
  refine Vt (X68 hO hA (h2.mm ma) hz Q0 ⟨h2.kd,h2.fl,rfl,.rf⟩ λk aa b1 b2 b3 b4=>?_);dsimp only;have r2:Rn κ R a₀ t k aa:=⟨b1.kd,b1.fl,b1.kp.1.trans h2.pm,by rw[b1.pn];exact h2.rn.keep b1.kp Qi4,b4,by omega⟩;split;·rename_i ck;refine Vt QI;refine Vt (X69 hO hA (r2.mm ma) (p:=t) (n:=min Q55 m) (by rw[r2.sz];omega) Q0 ⟨r2.kd,r2.fl,rfl,.rf⟩ r2.sg λae d1 d2=>?_);exact Xut hO hA ma ⟨d1.kd,d1.fl,d1.kp.1.trans r2.pm,by rw[d1.pn];exact r2.rn.keep d1.kp Qi4,d2,by omega⟩ Q0 λab h4=>Qp2
  ·exact Xut hO hA ma r2 Q0 λab h4=>Qp2
 have:=h3.le;obtain rfl:t=a₀.size:=by omega
 rw[h1];exact hQ L h3
omit hO hA ma in
theorem X7d{p:Pn}(h:¬ p.size<=1):laP p+1<p.size:=by
 unfold laP;generalize Option.any _ _=c;cases c;·show p.size-2+1<p.size;omega+splitNatSub
 ·show p.size-2-1+1<p.size;omega+splitNatSub
theorem X7e{Q:Option Unit×Unit->V8->Prop}(h:Rn κ R a₀ a₀.size 0 st)(hQ:∀L,QN.Perm a₀->Vct L=yy->SegS R QN 0 a₀.size->Q Q40 L):wpS Q3 A E s (enL a₀.size) Q st:=by
 have fin:∀L,Rn κ R a₀ a₀.size 0 L->QT2.size<=1->Q Q40 L:=λL h1 h2=>by
  refine hQ L h1.pm h1.fl ?_;have hr:=h1.rn;rw[<-U8]at h2;cases e:QT2.toList with
  |nil=>rw[e]at hr;rw[<-hr];exact λi j _ hj=>by omega|cons x l=>
   rw[e]at hr h2;cases l with
   |cons y l=>simp at h2|nil=>obtain⟨g1,g2,g3,g4⟩:=hr;rw[g1]at g3;rwa [<-g4,Va4]
 unfold enL;refine Va9 (I:=λx c L=>c=Q40/\QT2.size<=max 1 (a₀.size-x)/\Rn κ R a₀ a₀.size 0 L) ?_ (λc L Q10=>by rw[h1];exact fin L h3 Q0) ⟨rfl,?_,h⟩
 ·rintro x c L _ hx ⟨rfl,h1,h2⟩;refine Vt Q20;by_cases c:QT2.size<=1;·rw[iP0 c];exact Vz (fin L h2 c)
  ·rw[iN0 c];exact Vt (Xur hO hA ma h2 (X7d c) λaa h3 h4=>Vz ⟨rfl,by omega,h3⟩)
 have:=h.rn.le;rw[U8]at this;omega
theorem X7f{Q:Unit->V8->Prop}(hk:Vaq st=κ)(hf:Vct st=yy)(hp:Uu st=#[])(ha:Vs st=a₀)(hQ:∀aa,Vct aa=yy->Srt QE a₀.toList Qc4.toList->Q () aa):wpS Q3 A E s sortRuns' Q st:=by rw[X7a];refine Vt Q20;rw[ha];refine Vt (X7c hO hA ma ⟨hk,hf,by rw[ha],by rw[hp];rfl,λi j _ hj=>by omega,by omega⟩ λab h1=>?_);refine Vt (X7e hO hA ma h1 λL h2 h3 h4=>Vz (hQ L h3 ⟨Vd7.mp h2,?_⟩));have hz:QN.size=a₀.size:=h2.size_eq;have:=(Xd7 (R:=R) (a:=Vs L) (p:=0) (n:=a₀.size) Q0).mp h4;rwa [List.drop_zero,Vaj QX4]at this
universe e
universe Z
universe e
section
namespace Z
open PySem PySem.SetTable
noncomputable def its(t:SetTable):Nat->Probe->Probe
 |0,p=>p|n+1,p=>its t n (t.advance p)
universe Z
universe e
section
namespace Z
open PySem PySem.Spec PyProof.Rows L2
inductive D where
 |non|bl (b:Bool)|int (i:Int)|str (x:Str)|tup (xs:List D)|ref (n:Nat)|fro (xs:List D)|fn (f:Nat) (nm:Str)
 deriving Inhabited
abbrev LD:=List D
inductive O where
 |lst (xs:LD)|fdc (kvs:List QN1)|dct (kvs:List QN1)|exc (c:Nat)
noncomputable abbrev Sto:=List O
noncomputable abbrev En:=List Ql1
inductive R(α:Type) where
 |ok (a:α) (S:Sto)|ex (n:Nat) (S:Sto)|bad
noncomputable def R.bind{α β:Type}:R α->(α->Sto->R β)->R β
 |.ok a S,f=>f a S|.ex n S,_=>.ex n S|.bad,_=>.bad
@[simp] theorem Rk0{α β:Type}(a:α)(S:Sto)(f:α->Sto->R β):(R.ok a S).bind f=f a S:=rfl
@[simp] theorem R.bind_ex{α β:Type}(n:Nat)(S:Sto)(f:α->Sto->R β):(R.ex n S).bind f=.ex n S:=rfl
@[simp] theorem R.bind_bad{α β:Type}(f:α->Sto->R β):(R.bad:R α).bind f=.bad:=rfl
noncomputable def big:Nat:=1000000
set_option genInjectivity false
inductive Bo where|add|sub|mul|fdiv|mod|pow
 deriving DecidableEq
inductive Co where|eq|ne|lt|le|gt|ge|isin|notin|isnot
 deriving DecidableEq
inductive Ty where|int|bool|str|tuple|list|dict|cls(c:Nat)|valueError
 deriving DecidableEq
inductive Bl where
 |len|min|max|smB|srt|all|anb|tuple|list|repr|itB
 deriving DecidableEq
inductive Mt where
 |append|xtd|index|count
 deriving DecidableEq
inductive Tg where
 |var (i:Nat)
 |tup (is:LN)
mutual
inductive Ex where
 |nev
 |var (i:Nat)
 |cst (d:D)
 |neg (a:Ex)
 |glb (k:Nat)
 |tup (es:Exs)
 |lst (es:Exs)
 |dct0
 |bin (op:Bo) (a b:Ex)
 |cmp (op:Co) (a b:Ex)
 |chn (o1 o2:Co) (a b c:Ex)
 |and (a b:Ex)
 |or (a b:Ex)
 |not (a:Ex)
 |ite (c a b:Ex)
 |idx (a i:Ex)
 |sli (a:Ex) (lo hi:Op)
 |rev (a:Ex)
 |call (f:Nat) (es:Exs)
 |cal (e:Ex) (es:Exs)
 |lenm (a:Ex)
 |blt (k:Bl) (es:Exs)
 |mth (k:Mt) (o:Ex) (es:Exs)
 |isi (a:Ex) (ts:List Ty)
 |cmr (k:Bool) (n:Nat) (gs:Gens) (elt:Ex)
 |dcl (a:Ex)
 |idc (ng:Bool) (a b:Ex)
 |dup (o:Ex) (es:Exs)
inductive Op where
 |none|some (e:Ex)
inductive Exs where
 |nil|cons (e:Ex) (es:Exs)
inductive Gens where
 |nil|cons (t:Tg) (it:It) (ifs:Exs) (gs:Gens)
inductive It where
 |val (e:Ex)|rng (es:Exs)|enm (es:Exs)
end
mutual
inductive St where
 |nev
 |asg (t:Tg) (e:Ex)
 |par (is:LN) (es:Exs)
 |aset (o i e:Ex)
 |aug (i:Nat) (op:Bo) (e:Ex)
 |expr (e:Ex)
 |ret (e:Ex)
 |ite (c:Ex) (a b:Sts)
 |for (t:Tg) (it:It) (b:Sts)
 |whl (c:Ex) (b:Sts)
 |rsk (e m:Ex)
 |rse (c:Nat) (e:Ex)
 |try (b:Sts) (c:Nat) (x:Nat) (h:Sts)
 |brk
inductive Sts where
 |nil|cons (s:St) (ss:Sts)
end
set_option genInjectivity true
inductive Fl where
 |nx (e:En)|brk (e:En)|rt (d:D)
noncomputable def Xc(S:Sto)(n:Nat):Option (LD):=
 match S[n]? with
 |some Qh=>yz xs|_=>yy
noncomputable def lstM(S:Sto)(n:Nat):Option (LD):=
 match S[n]? with
 |some Qh=>yz xs|_=>yy
noncomputable def i2(b:Bool):Int:=if b then 1 else 0
mutual
noncomputable def X5(L:Nat->Option Vdd):D->Option Vdd
 |.non=>yz .none|.bl b=>yz QY6|.int i=>yz Qb1|.str x=>yz Qc3|.tup xs=>(datFs L xs).map PyData.tuple|.fro _=>yy|.fn _ _=>yy|.ref n=>L n
noncomputable def datFs(L:Nat->Option Vdd):LD->Option (List Vdd)
 |[]=>yz []|x::xs=>match X5 L x,datFs L xs with
  |some p,yz ps=>yz (p::ps)|_,_=>yy
end
noncomputable def Xao(S:Sto):Nat->Nat->Option Vdd
 |0,_=>yy|k+1,n=>match S[n]? with
  |some Qh=>(datFs (Xao S k) xs).map PyData.list|some QW6=>yz (.dict [])|_=>yy
noncomputable def Xas(S:Sto)(d:D):Option Vdd:=X5 (Xao S 4) d
noncomputable def Xdw(x y:D):Option Bool:=match x with
 |.str a=>(match y with
  |.str b=>yz (a.cps.toList==b.cps.toList)
  |_=>yy)
 |_=>yy
noncomputable def Xkc(S:Sto)(x y:D):Option Bool:=match x with
 |.ref a=>(match y with
  |.ref b=>(match Xc S a,Xc S b with
   |some xs,yz ys=>if QA=ll ys then yy else yz yw
   |_,_=>yy)
  |_=>yy)
 |_=>yy
noncomputable def eqD(S:Sto)(x y:D):Option Bool:=match Xdw x y with
 |some r=>yz r|none=>match Xas S x,Xas S y with
  |some p,yz q=>if p.canLay0&&q.canLay0&&decide Qy4 then yz (Ve4 p q) else Xkc S x y|_,_=>Xkc S x y
noncomputable def Xp(S:Sto):D->Option (LD)
 |.tup xs=>yz xs|.fro xs=>yz xs|.ref n=>Xc S n|_=>yy
noncomputable def Xi:LD->Option (LI)
 |[]=>yz []|.int i::r=>(Xi r).map QD7|_::_=>yy
noncomputable def Yb:LD->Option (List Bool)
 |[]=>yz []|.bl i::r=>(Yb r).map QD7|_::_=>yy
noncomputable def ltL:LI->LI->Bool
 |[],[]=>yw|[],_::_=>yx|_::_,[]=>yw|x::xs,y::ys=>if x=y then ltL xs ys else decide (x<y)
noncomputable def ltD:D->D->Option Bool
 |.int i,.int j=>yz (decide (i<j))|.tup xs,.tup ys=>match Xi xs with
  |some a=>match Xi ys with
   |some b=>yz (ltL a b)|none=>yy
  |none=>yy
 |_,_=>yy
noncomputable def Y7:LD->Option (LL)
 |[]=>yz []|.tup ds::r=>match Xi ds with
  |some k=>(Y7 r).map (k :: ·)|none=>yy
 |_::_=>yy
noncomputable def Xkd(k:LI):LL->LL
 |[]=>[k]|y::r=>if ltL k y then k::y::r else y::Xkd k r
noncomputable def Y6:LL->LL
 |[]=>[]|k::r=>Xkd k (Y6 r)
noncomputable def Xh1(ks:LL):Option (LL):=if Q87<100000 then yz (Y6 ks) else yy
noncomputable def Xke(ks:LL):Option (LL):=if Q87<100000 then yz ((Y6 (ks.map Vbr)).map Vbr) else yy
noncomputable def Xnn(x:D)(S:Sto):R D:=match x with
 |.ref n=>match Q60.bind Y7 with
  |some ks=>match Xke ks with
   |some r=>.ok QJ Qp|none=>.bad
  |none=>.bad
 |_=>.bad
noncomputable def Xe(S:Sto):D->Option Bool
 |.non=>yz yw|.bl b=>yz b|.int i=>yz Q25|.str x=>if x.length<=big then yz ((x.length:Int) != 0) else yy|.tup xs=>yz Qi2|.fro xs=>yz Qi2|.fn _ _=>yy|.ref n=>match S[n]? with
  |some Qh=>yz Qi2|_=>yy
noncomputable def Yt(i j:Int):Bool:=(decide (-Qo2<i)&&decide (i<18446744073709551616))||(decide (-Qo2<j)&&decide (j<18446744073709551616))||(decide (i.natAbs.log2<100000)&&decide (j.natAbs.log2<100000))
noncomputable def Yw(j:Int):Bool:=decide (0<j)&&decide (j.natAbs.log2<9000)
noncomputable def Xw(op:Bo)(x y:D)(S:Sto):R D:=match op with
 |.add=>match x,y with
  |.int i,.int j=>.ok QX5 S|.tup x,.tup y=>if QN5+ll y<=big then .ok (.tup QW7) S else .bad|.ref n,.ref m=>match lstM S n,lstM S m with
   |some x,yz y=>if QN5+ll y<=big then .ok QJ (S++[.lst QW7]) else .bad|_,_=>.bad
  |_,_=>.bad
 |.sub=>match x,y with
  |.int i,.int j=>.ok QW5 S|_,_=>.bad
 |.mul=>match x,y with
  |.int i,.int j=>if Yt i j then .ok QY5 S else .bad|.tup x,.int k=>if k<1048576/\QN5*k.toNat<=big/\-QA1<k/\x.isEmpty=yw then .ok (.tup Qq4.flatten) S else .bad|.ref n,.int k=>match lstM S n with
   |some x=>if k<1048576/\QN5*k.toNat<=big/\-QA1<k then .ok QJ (S++[.lst Qq4.flatten]) else .bad|none=>.bad
  |_,_=>.bad
 |.fdiv=>match x,y with
  |.int i,.int j=>if Yw j then .ok (.int (i/j)) S else .bad|_,_=>.bad
 |.mod=>match x,y with
  |.int i,.int j=>if 0<j then .ok (.int (i%j)) S else .bad|_,_=>.bad
 |.pow=>match x,y with
  |.int i,.int j=>if 0<=j/\j<=1000/\i.natAbs<2^63 then .ok (.int (i^j.toNat)) S else .bad|_,_=>.bad
noncomputable def Xfe(op:Bo)(x y:D)(S:Sto):R D:=match x with
 |.int i=>(match y with
  |.int j=>(match op with
   |.add=>.ok QX5 S|.sub=>.ok QW5 S|.mul=>if Yt i j then .ok QY5 S else .bad
   |_=>.bad)
  |_=>.bad)
 |_=>.bad
noncomputable def X0(op:Co)(x y:D)(S:Sto):Option Bool:=match op with
 |.eq=>eqD S x y|.ne=>(eqD S x y).map (!·)|.lt=>ltD x y|.le=>match x,y with
  |.int i,.int j=>yz (decide (i<=j))|_,_=>yy
 |.gt=>match x,y with
  |.int i,.int j=>yz (decide (j<i))|.tup xs,.tup ys=>ltD Q33 QW0|_,_=>yy
 |.ge=>match x,y with
  |.int i,.int j=>yz (decide (j<=i))|_,_=>yy
 |.isin=>yy|.notin=>yy|.isnot=>match y with
  |.non=>yz (match x with|.non=>yw|_=>yx)|.bl b=>yz (match x with|.bl c=>b != c|_=>yx)|_=>yy
noncomputable def ixN(n:Nat)(i:Int):Option Nat:=if 0<=i then (if i<n then yz i.toNat else yy) else if-(n:Int)<=i then yz QJ6.toNat else yy
noncomputable def Xap(x:D)(i:D)(S:Sto):Option D:=
 match i with
 |.int k=>match x with
  |_=>Qh6.bind λxs=>(ixN QA k).bind λj=>xs[j]?
 |_=>yy
noncomputable def Xh(op:Co)(x y:D)(S:Sto):R D:=match X0 op x y S with
 |some r=>.ok QQ7 S|none=>.bad
noncomputable def Y8(x i:D)(S:Sto):R D:=match Xap x i S with
 |some d=>.ok d S|none=>.bad
noncomputable def X8(ifs:En->Sto->R Bool)(body:En->LD->Sto->R LD)(env:En)(acc:LD)(S:Sto):R (LD):=(ifs env S).bind λb S=>if b then body env acc S else .ok acc S
noncomputable def Xbj(n:Nat)(d:Nat):Option Int->Nat
 |none=>d|some i=>if 0<=i then min i.toNat n else QJ6.toNat
noncomputable def cut{α:Type}(xs:List α)(lo hi:Option Int):List α:=
 (xs.drop (Xbj QA 0 lo)).take (Xbj QA QA hi-Xbj QA 0 lo)
noncomputable def Xak:Option D->Option (Option Int)
 |none=>yz yy|some Qb1=>yz QU7|_=>yy
noncomputable def Xal(x:D)(lo hi:Option Int)(S:Sto):R D:=
 match x with
 |.tup xs=>.ok (.tup Qp4) S|.ref n=>match Xc S n with
  |some xs=>.ok QJ (S++[.lst Qp4])|none=>.bad
 |_=>.bad
noncomputable def Xso(x:D)(S:Sto):R D:=
 match x with
 |.tup xs=>.ok (.tup xs.reverse) S|.ref n=>match Xc S n with
  |some xs=>.ok QJ (S++[.lst xs.reverse])|none=>.bad
 |_=>.bad
noncomputable def Xbk(f:Nat)(nm:Str):LD->Bool
 |[]=>yw|.fn g m::r=>(g==f&&decide (m=nm))||Xbk f nm r|_::r=>Xbk f nm r
noncomputable def Ym(n:Nat):LD->LD
 |[]=>[]|x::r=>.tup [.int n,x]::Ym (n+1) r
inductive Kd where|non|bool|int|str|tuple|list|dict|exc(c:Nat)
 deriving DecidableEq
noncomputable def kdD(S:Sto):D->Option Kd
 |.non=>yz .non|.bl _=>yz .bool|.int _=>yz .int|.str _=>yz .str|.tup _=>yz .tuple|.fro _=>yz .list|.fn _ _=>yy|.ref n=>match S[n]? with
  |some Qq6=>yz .list|some QW6=>yz .dict|some Qs6=>yz Qs6|_=>yy
noncomputable def tyQ(b i s t l d:Bool):Ty->Option Bool
 |.bool=>yz b|.int=>yz i|.str=>yz s|.tuple=>yz t|.list=>yz l|.dict=>yz d|.cls _=>yy|.valueError=>yy
noncomputable def isT:Kd->Ty->Option Bool
 |.exc c',t=>match t with
  |.cls c=>yz (c==0||c==c')|.valueError=>yz yx|_=>yy
 |.non,t=>tyQ yw yw yw yw yw yw t|.bool,t=>tyQ yx yx yw yw yw yw t|.int,t=>tyQ yw yx yw yw yw yw t|.str,t=>tyQ yw yw yx yw yw yw t|.tuple,t=>tyQ yw yw yw yx yw yw t|.list,t=>tyQ yw yw yw yw yx yw t|.dict,t=>tyQ yw yw yw yw yw yx t
noncomputable def Xam(k:Kd):List Ty->Option Bool
 |[]=>yz yw|t::r=>match isT k t with
  |some yx=>yz yx|some yw=>Xam k r|none=>yy
noncomputable def szI(i:Int):Nat:=if i.natAbs<1000 then 4 else 1921
mutual
noncomputable def szD:Vdd->Nat
 |.none=>4|.bool _=>5|.int i=>szI i|.str x=>(reprText x).length|.list xs=>szDs xs+2|.tuple xs=>szDs xs+3|.dict _=>2
noncomputable def szDs:List Vdd->Nat
 |[]=>0|x::xs=>szD x+2+szDs xs
end
mutual
noncomputable def Xa2:Vdd->Bool
 |.none=>yx|.bool _=>yx|.int _=>yx|.str _=>yx|.list xs=>dctEs xs|.tuple xs=>dctEs xs|.dict kvs=>kvs.isEmpty
noncomputable def dctEs:List Vdd->Bool
 |[]=>yx|x::xs=>Xa2 x&&dctEs xs
end
noncomputable def Xff(S:Sto)(x:D):Option Str:=match Xas S x with
 |some p=>if p.showable&&Xa2 p&&decide Qy4&&decide (szD p<=big) then yz p.shown else yy|none=>yy
noncomputable def Xm(k:Bl)(ds:LD)(S:Sto):R D:=match k with
 |.len=>match ds with
  |[x]=>match x with
   |_=>match Xp S x with
    |some xs=>.ok (.int QA) S|none=>.bad
  |_=>.bad
 |.tuple=>match ds with
  |[x]=>match Xp S x with
   |some xs=>.ok QW0 S|none=>.bad
  |_=>.bad
 |.list=>match ds with
  |[x]=>match Xp S x with
   |some xs=>.ok QJ Qt4|none=>.bad
  |_=>.bad
 |.all=>match ds with
  |Qd5=>match Q60.bind Yb with
   |some bs=>.ok (.bl (bs.all id)) S|none=>.bad
  |_=>.bad
 |.anb=>match ds with
  |Qd5=>match Q60.bind Yb with
   |some bs=>.ok (.bl (bs.any id)) S|none=>.bad
  |Qu6=>match Xi xs with
   |some L=>.ok (.bl (L.any (· != 0))) S|none=>.bad
  |_=>.bad
 |.smB=>match ds with
  |[x]=>match Qh6.bind Xi with
   |some L=>.ok (.int L.sum) S|none=>.bad
  |_=>.bad
 |.max=>match ds with
  |QZ0=>.ok Q12 S|_=>.bad
 |.min=>match ds with
  |QZ0=>.ok Q22 S|_=>.bad
 |.srt=>match ds with
  |Qd5=>match Q60.bind Y7 with
   |some ks=>match Xh1 ks with
    |some r=>.ok QJ Qp|none=>.bad
   |none=>.bad
  |Qu6=>match Y7 xs with
   |some ks=>match Xh1 ks with
    |some r=>.ok QJ Qp|none=>.bad
   |none=>.bad
  |_=>.bad
 |.itB=>match ds with
  |[.bl b]=>.ok (.int (i2 b)) S|_=>.bad
 |.repr=>match ds with
  |[x]=>match Xff S x with
   |some t=>.ok (.str t) S|none=>.bad
  |_=>.bad
noncomputable def Yx(k:Mt)(o:D)(ds:LD)(S:Sto):R D:=match o,ds with
 |.ref n,[x]=>match k with
  |.append=>match lstM S n with
   |some xs=>if QA<big then .ok .non (S.set n (.lst (xs++[x]))) else .bad|none=>.bad
  |.xtd=>match x with
   |.ref k=>match lstM S n with
    |some xs=>match Xc S k with
     |some ys=>if QA+ll ys<=big then .ok .non QL2 else .bad|none=>.bad
    |none=>.bad
   |.tup ys=>match lstM S n with
    |some xs=>if QA+ll ys<=big then .ok .non QL2 else .bad|none=>.bad
   |_=>.bad
  |.index=>match x with
   |.bl b=>match Q60.bind Yb with
    |some bs=>match bs.findIdx? Qw6 with
     |some i=>.ok Qb1 S|none=>.bad
    |none=>.bad
   |.int c=>match Q60.bind Xi with
    |some L=>match L.findIdx? (· == c) with
     |some i=>.ok Qb1 S|none=>.bad
    |none=>.bad
   |_=>.bad
  |.count=>match x with
   |.bl b=>match Q60.bind Yb with
    |some bs=>.ok (.int (bs.countP Qw6:Nat)) S|none=>.bad
   |_=>.bad
 |_,_=>.bad
noncomputable def Xah(k:Mt)(x:D)(S:Sto):Bool:=match x with
 |.ref n=>Q60.isSome|_=>yw
noncomputable def X3(kvs:List QN1)(k:LI):Option D:=(kvs.find? λp=>decide (p.1=k)).map Qt5
noncomputable def Yk(kvs:List QN1)(k:LI)(v:D):List QN1:=if (X3 kvs k).isSome then kvs.map (λp=>if p.1=k then (p.1,v) else p) else kvs++[(k,v)]
noncomputable def Yu(S:Sto)(n:Nat):Option Q44:=match S[n]? with
 |some Q96=>yz kvs|_=>yy
noncomputable def Xbu(S:Sto)(n:Nat):Option Q44:=match S[n]? with
 |some Q96=>yz kvs|some (.fdc kvs)=>yz kvs|_=>yy
noncomputable def Xsp(S:Sto)(x:D):Bool:=match x with
 |.ref n=>(Xbu S n).isSome|_=>yw
noncomputable def Xdm(o i v:D)(S:Sto):R Unit:=
 match o with
 |.ref n=>match i with
  |.int k=>match lstM S n with
   |some xs=>match ixN QA k with
    |some j=>.ok () (S.set n QP1)|none=>.bad
   |none=>.bad
  |_=>.bad
 |_=>.bad
noncomputable def Xfg:LD->Option Q44
 |[]=>yz []|.tup [.tup ks,v]::r=>match Xi ks with
  |some k=>(Xfg r).map ((k,v) :: ·)|none=>yy
 |_::_=>yy
noncomputable def Xno(x:D)(S:Sto):R D:=match x with
 |.ref n=>match Q60.bind Xfg with
  |some ps=>if Q67<1000 then .ok QJ (S++[.dct (ps.foldl QE2 [])]) else .bad|none=>.bad
 |_=>.bad
noncomputable def Xkf(ng:Bool)(x y:D)(S:Sto):R D:=match y with
 |.ref n=>match x with
  |.tup ks=>match Xbu S n with
   |some kvs=>match Xi ks with
    |some r=>.ok (.bl (ng != (X3 kvs r).isSome)) S|none=>.bad
   |none=>.bad
  |_=>.bad
 |_=>.bad
noncomputable def hrw(k:LI):Int:=reduceHash (Builtin.Tuple.tupleHashOf (k.map hashInt))
noncomputable def Xdx(o:D)(ds:LD)(S:Sto):R D:=match o with
 |.ref n=>match ds with
  |[.ref m]=>match Yu S n with
   |some kvs=>match Yu S m with
    |some more=>if decide (n≠m) && !more.isEmpty&&decide (ll kvs+ll more<100000)&&(!kvs.isEmpty||decide ((more.map λp=>hrw p.1).Nodup)) then .ok .non (S.set n (.dct (more.foldl QE2 kvs))) else .bad|none=>.bad
   |none=>.bad
  |_=>.bad
 |_=>.bad
noncomputable def X7g(p:LI×D):D:=.tup [.tup (p.1.map D.int),p.2]
inductive Src where
 |con (xs:LD)|ref (n:Nat)|enm (a:Src)
noncomputable def Src.get:Src->Sto->Nat->Option Ql1
 |.con xs,_,i=>yz xs[i]?|.ref n,S,i=>Q60.map λxs=>xs[i]?|.enm a,S,i=>match a.get S i with
  |some QA6=>yz (yz (.tup [.int i,x]))|r=>r
noncomputable def Src.most:Src->Sto->Nat
 |.con xs,_=>ll xs|.ref n,S=>(Q60.getD []).length|.enm a,S=>a.most S
noncomputable def Yq(S:Sto):D->Option Src
 |.tup xs=>yz (.con xs)|.ref n=>Q60.map λ_=>.ref n|_=>yy
noncomputable def Yn:LD->Option (LD)
 |[.int j]=>if-QA1<j/\j<1048576 then yz ((Vl j.toNat).map λ(k:Nat)=>D.int (k:Int)) else yy|QZ0=>if-QA1<i/\i<1048576/\-QA1<j/\j<1048576 then yz ((Vl (j-i).toNat).map λ(k:Nat)=>D.int QJ3) else yy|[.int i,.int j,.int s]=>if s = -1/\-QA1<i/\i<1048576/\-QA1<j/\j<1048576 then yz ((Vl (i-j).toNat).map λ(k:Nat)=>D.int QC7) else yy|_=>yy
noncomputable def Xn(t:Tg)(d:D)(env:En):Option En:=
 match t with
 |.var i=>yz (env.set i QI5)|.tup L=>match d with
  |.tup ds=>if QG6=ll ds then yz ((L.zip ds).foldl Q62 env) else yy|_=>yy
noncomputable def slots:Tg->LN
 |.var i=>[i]|.tup L=>L
noncomputable def Xfh(t:Tg)(env:En):Bool:=(slots t).all λi=>match env[i]? with
 |some (yz _)=>yw|_=>yx
noncomputable def X9(get:Sto->Nat->Option Ql1)(t:Tg)(body:En->LD->Sto->R LD):Nat->Nat->En->LD->Sto->R (LD)
 |0,_,_,_,_=>.bad|k+1,i,env,acc,S=>match get S i with
  |none=>.bad|some yy=>.ok acc S|some QI5=>match Xn t d env with
   |none=>.bad|some L=>match body L acc S with
    |.ok aa S'=>X9 get t body k Qb2 L aa S'|_=>.bad
noncomputable abbrev Fn:=Nat->LD->Sto->R D
section
variable(F:Fn)(G:LD)
mutual
noncomputable def ev:Ex->En->Sto->R D
 |.nev,_,_=>.bad|.var i,env,S=>match env[i]? with
  |some QI5=>.ok d S|_=>.bad
 |.cst d,_,S=>.ok d S|.neg a,env,S=>QK.bind λx S=>match x with
  |.int i=>.ok (.int (-i)) S|_=>.bad
 |.glb k,_,S=>match G[k]? with
  |some d=>.ok d S|none=>.bad
 |.tup es,env,S=>QX.bind λxs S=>if QA<=big then .ok QW0 S else .bad|.lst es,env,S=>QX.bind λxs S=>if QA<=big then .ok QJ Qt4 else .bad|.dct0,_,S=>.ok QJ (S++[.dct []])|.bin op a b,env,S=>QK.bind λx S=>Qq1.bind λy S=>Xw op x y S|.cmp op a b,env,S=>QK.bind λx S=>Qq1.bind λy S=>Xh op x y S|.chn o1 o2 a b c,env,S=>QK.bind λx S=>Qq1.bind λy S=>match X0 o1 x y S with
  |some yx=>QQ5.bind λz S=>Xh o2 y z S|some yw=>.ok (.bl yw) S|none=>.bad
 |.and a b,env,S=>QK.bind λx S=>match Xe S x with
  |some yx=>ev b env S|some yw=>.ok x S|none=>.bad
 |.or a b,env,S=>QK.bind λx S=>match Xe S x with
  |some yx=>.ok x S|some yw=>ev b env S|none=>.bad
 |.not a,env,S=>QK.bind λx S=>match Xe S x with
  |some r=>.ok (.bl (!r)) S|none=>.bad
 |.ite c a b,env,S=>QQ5.bind λx S=>match Xe S x with
  |some yx=>ev a env S|some yw=>ev b env S|none=>.bad
 |.idx a i,env,S=>QK.bind λx S=>(ev i env S).bind λy S=>Y8 x y S|.sli a lo hi,env,S=>QK.bind λx S=>(evo lo env S).bind λl S=>(evo hi env S).bind λh S=>match Xak l,Xak h with
  |some l,yz h=>Xal x l h S|_,_=>.bad
 |.rev a,env,S=>QK.bind λx S=>Xso x S|.call f es,env,S=>QX.bind λxs S=>F f xs S|.cal e es,env,S=>Q61.bind λx S=>match x with
  |.fn f nm=>if Xbk f nm G then QX.bind λxs S=>F f xs S else .bad|_=>.bad
 |.lenm a,env,S=>QK.bind λx S=>match Xp S x with
  |some xs=>.ok QJ (S++[.lst (Ym 0 xs)])|none=>.bad
 |.blt k es,env,S=>QX.bind λxs S=>Xm k xs S|.mth k o es,env,S=>QP5.bind λx S=>if Xah k x S then QX.bind λxs S=>Yx k x xs S else .bad|.isi a ts,env,S=>QK.bind λx S=>match (kdD S x).bind λk=>Xam k ts with
  |some r=>.ok QQ7 S|none=>.bad
 |.cmr k n gs elt,env,S=>match gs with
  |.nil=>.bad|.cons t it ifs gs=>(evit it env S).bind λsrc S=>
   (X9 (src.get) t (X8 (λenv S=>evts ifs env S) (λenv L S=>
     match gs with
     |.nil=>Qo4.bind λy S=>if QG6<big then .ok Ql6 S else .bad|.cons t2 it2 ifs2 ab=>match ab with
      |.nil=>if Xfh t2 env then (evit it2 env S).bind λaa S=>X9 (aa.get) t2 (X8 (λenv S=>evts ifs2 env S) (λenv L S=>Qo4.bind λy S=>if QG6<big then .ok Ql6 S else .bad)) (aa.most S+1) 0 env L S else .bad
      |.cons ..=>.bad)) Ql4 0 (env++Vj n yy) [] S).bind λL S=>
   if k then .bad else .ok QJ (S++[.lst L])
 |.dcl a,env,S=>QK.bind λx S=>Xno x S|.idc ng a b,env,S=>QK.bind λx S=>Qq1.bind λy S=>Xkf ng x y S|.dup o es,env,S=>QP5.bind λx S=>if Xsp S x then QX.bind λxs S=>Xdx x xs S else .bad
noncomputable def evo:Op->En->Sto->R Ql1
 |.none,_,S=>.ok yy S|.some e,env,S=>Q61.bind λx S=>.ok QA6 S
noncomputable def evs:Exs->En->Sto->R (LD)
 |.nil,_,S=>.ok [] S|.cons e es,env,S=>Q61.bind λx S=>QX.bind λxs S=>.ok (x::xs) S
noncomputable def evts:Exs->En->Sto->R Bool
 |.nil,_,S=>.ok yx S|.cons e es,env,S=>Q61.bind λx S=>match Xe S x with
  |some yx=>evts es env S|some yw=>.ok yw S|none=>.bad
noncomputable def evit:It->En->Sto->R Src
 |.val e,env,S=>Q61.bind λx S=>match Yq S x with
  |some s=>.ok s S|none=>.bad
 |.rng es,env,S=>QX.bind λxs S=>match Yn xs with
  |some ds=>.ok (.con ds) S|none=>.bad
 |.enm es,env,S=>QX.bind λxs S=>match xs with
  |[x]=>match Yq S x with
   |some s=>.ok (.enm s) S|none=>.bad
  |_=>.bad
end
mutual
noncomputable def X7h:St->Bool
 |.expr _=>yx|.ret _=>yx|.ite _ a b=>nasgs a&&nasgs b|.rse _ _=>yx|_=>yw
noncomputable def nasgs:Sts->Bool
 |.nil=>yx|.cons s ss=>X7h s&&nasgs ss
end
noncomputable def X4(get:Sto->Nat->Option Ql1)(t:Tg)(body:En->Sto->R Fl):Nat->Nat->En->Sto->R Fl
 |0,_,_,_=>.bad|k+1,i,env,S=>match get S i with
  |none=>.bad|some yy=>.ok Qa1 S|some QI5=>match Xn t d env with
   |none=>.bad|some L=>match body L S with
    |.ok QO3 S'=>X4 get t body k Qb2 e S'|.ok Qt6 S'=>.ok QO3 S'|.ok Qg2 S'=>.ok Qg2 S'|.ex n S'=>.ex n S'|.bad=>.bad
noncomputable def Yo(L:En->Sto->R Bool)(body:En->Sto->R Fl):Nat->En->Sto->R Fl
 |0,_,_=>.bad|k+1,env,S=>match L env S with
  |.ok yw S'=>.ok Qa1 S'|.ok yx S'=>match body env S' with
   |.ok QO3 S'=>Yo L body k e S'|.ok Qt6 S'=>.ok QO3 S'|.ok Qg2 S'=>.ok Qg2 S'|_=>.bad
  |_=>.bad
mutual
noncomputable def exe:St->En->Sto->R Fl
 |.nev,_,_=>.bad|.asg t e,env,S=>Qm.bind λx S=>match Xn t x env with
  |some env=>.ok Qa1 S|none=>.bad
 |.par is es,env,S=>(evs F G es env S).bind λxs S=>if (ll is)=ll xs then .ok (.nx ((is.zip xs).foldl Q62 env)) S else .bad|.aset o i e,env,S=>Qm.bind λv S=>(ev F G o env S).bind λx S=>(ev F G i env S).bind λy S=>(Xdm x y v S).bind λ_ S=>.ok Qa1 S|.aug i op e,env,S=>match env[i]? with
  |some QA6=>Qm.bind λy S=>(Xfe op x y S).bind λz S=>.ok (.nx (env.set i (yz z))) S|_=>.bad
 |.expr e,env,S=>Qm.bind λ_ S=>.ok Qa1 S|.ret e,env,S=>Qm.bind λx S=>.ok QP7 S|.ite c a b,env,S=>QE4.bind λx S=>match Xe S x with
  |some yx=>pe a env S|some yw=>pe b env S|none=>.bad
 |.for t it b,env,S=>(evit F G it env S).bind λsrc S=>X4 src.get t Qr2 Ql4 0 env S
 |.whl c b,env,S=>Yo (λenv S=>QE4.bind λx S=>match Xe S x with
   |some r=>.ok r S
   |none=>.bad) Qr2 100000 env S
 |.rsk e m,env,S=>((Qm.bind λx S=>Xnn x S).bind λx S=>(evo F G .none env S).bind λl S=>(evo F G (.some m) env S).bind λh S=>match Xak l,Xak h with
  |some l,yz h=>Xal x l h S
  |_,_=>.bad).bind λx S=>.ok QP7 S
 |.rse c e,env,S=>Qm.bind λ_ S=>.ex (ll S) (S++[.exc c])|.try b c x h,env,S=>if nasgs b then
   match pe b env S with
   |.ex n S'=>match S'[n]? with
    |some (.exc c')=>if c==0||c==c' then
      match pe h (env.set x (yz (.ref n))) S' with
      |.ok Qg2 S''=>.ok Qg2 S''|_=>.bad
     else .bad|_=>.bad
   |r=>r
  else .bad|.brk,env,S=>.ok (.brk env) S
noncomputable def pe:Sts->En->Sto->R Fl
 |.nil,env,S=>.ok Qa1 S|.cons s ss,env,S=>match exe s env S with
  |.ok QO3 S'=>pe ss e S'|r=>r
end
structure Df where
 np:Nat
 nl:Nat
 body:Sts
noncomputable def den(d:Df)(ds:LD)(S:Sto):R D:=
 if (ll ds)=d.np then
  match pe F G d.body (ds.map yz++Vj (d.nl-d.np) yy) S with
  |.ok (.rt v) S=>.ok v S|.ok (.nx _) S=>.ok .non S|.ok _ _=>.bad|.ex n S=>.ex n S|.bad=>.bad
 else .bad
universe e
noncomputable def FT(T:List Df)(G:LD):Nat->Fn
 |0=>λ_ _ _=>.bad|k+1=>λf ds S=>match T[f]? with
  |some d=>den (FT T G k) G d ds S|none=>.bad
def FrL(K:Ve)(H:Hp)(a:Addr)(vs:LW):Prop:=
 (∃o,H a=yz (.frz o QU6)) \/
  ∃(o:Obj) (its:AV) (n:Nat),K.lookup a=yz o/\o.cls=.type "list" /\ o.dict=yy/\o.data=.seq its n/\its.size<=V3/\Vals vs its.toList
theorem FrL.sq{K:Ve}{H:Hp}{a:Addr}{vs:LW}(h:FrL K H a vs):SqL K H a vs:=by
 rcases h with⟨o,h⟩|h;·exact .inl (.inr ⟨o,h⟩)
 ·exact .inr h
mutual
def RD(K:Ve)(ρ:LR)(H:Hp):D->V->Prop
 |.non,v=>v=.non|.bl b,v=>v=.bl b|.int i,v=>v=.int i|.str x,v=>v=.str x|.tup xs,v=>∃a vs,v=.ref a/\SqT K H a vs/\RDs K ρ H xs vs|.fro xs,v=>∃a vs,v=.ref a/\FrL K H a vs/\RDs K ρ H xs vs|.ref n,v=>∃a,v=.ref a/\ρ[n]?=yz a|.fn _ nm,v=>∃a,v=.ref a/\Vac K Um nm=yz (yz Qp6)
def RDs(K:Ve)(ρ:LR)(H:Hp):LD->LW->Prop
 |[],vs=>vs=[]|x::xs,vs=>∃v r,vs=v::r/\RD K ρ H x v/\RDs K ρ H xs r
end
noncomputable def clsNames:LS:=["FaceError","NoNet","NoFace","NoPoint","NotApart","TooMany","NoText","NoRow","NoNumber","NotLevel","NoCrowd","NoWay","NotClosed","NoSwap","NoPlaces","NoDeed","NoLine"]
noncomputable def Xbv(c:Nat):Option Str:=(clsNames[c]?).filter λx=>!decide (x="")
theorem Xnp(h:Xbv c=yz x):c<ll clsNames:=by
 unfold Xbv at h;cases q:clsNames[c]? with
 |none=>rw[q]at h;cases h|some _=>exact(Vd.mp q).1
noncomputable def Xai(K:Ve)(c:Nat):Option Addr:=(Xbv c).bind λnm=>match Vac K Um nm with
 |some (yz (.ref C))=>yz C|_=>yy
def ExcO(C a:Addr)(h:Heap):Prop:=∃L vs a0,h.get? a=yz L/\L.cls=.ref C/\L.data=.fields vs/\vs[0]?=yz a0/\1<vs.size
theorem ExcO.ok(x:ExcO C a h):ObjOk P w H h a Q74:=
 ⟨x,let ⟨oe,_,_,e,_⟩:=x;⟨oe,e⟩,λh1 h2 ⟨oe,vs,a0,e,r⟩ k=>⟨oe,vs,a0,k _ e,r⟩⟩
def Xnq(a:Addr)(o:Obj)(xs:List Qe2):Prop:=Q65=yw/\QA<=V3/\o.ExactDict/\∃(ys:List (LI×Addr×Vb)) (es:Array DictEntry) (L:Nat),
 Paired (λp q=>p.1=q.1/\p.2.1=q.2.1/\RelV p.2.2 q.2.2) xs ys/\o.data=.dict es L/\(∀P w,es.toList=ys.map (Vdw (Vhu Q15)))/\(ys.map Qu5).Nodup
def DicO(a:Addr)(xs:List Qe2)(h:Heap):Prop:=∃o,h.get? a=yz o/\Xnq a o xs
theorem DicO.ok(x:DicO a xs h):ObjOk P w H h a Qg3:=
 ⟨x,let ⟨o,e,_⟩:=x;⟨o,e⟩,λh1 h2 ⟨o,e,r⟩ k=>⟨o,k _ e,r⟩⟩
abbrev DX(K:Ve)(ρ:LR)(H:Hp):List QN1->List Qe2->Prop:=Paired λp q=>p.1=q.1/\SqT K H q.2.1 (p.1.map V.int)/\RD K ρ H p.2 q.2.2
def OR(K:Ve)(ρ:LR)(H:Hp)(a:Addr):O->Prop
 |.lst xs=>∃vs,H a=yz QU6/\RDs K ρ H xs vs|.dct kvs=>(kvs=[]/\H a=yz (.dK []))\/(kvs≠[]/\∃xs,H a=yz Qg3/\DX K ρ H kvs xs)|.fdc kvs=>∃o u xs,H a=yz Q90/\(∀ys,u≠.tup ys)/\(∀ys,u≠.lst ys)/\Xnq a o xs/\DX K ρ H kvs xs|.exc c=>∃C,Xai K c=yz C/\H a=yz Q74
theorem OR.some{K:Ve}{ρ:LR}{H:Hp}{a:Addr}{o:O}(h:OR K ρ H a o):∃u,H a=yz u/\∀xs,u≠.tup xs:=by
 cases o with
 |lst xs=>obtain⟨vs,e,_⟩:=h;exact⟨_,e,λ_ z=>(nomatch z)⟩|dct kvs=>
  rcases h with⟨_,e⟩|⟨_,xs,e,_⟩;·exact⟨_,e,λ_ z=>(nomatch z)⟩
  ·exact⟨_,e,λ_ z=>(nomatch z)⟩|fdc kvs=>obtain⟨o,u,xs,e,_⟩:=h;exact⟨_,e,λ_ z=>(nomatch z)⟩|exc c=>obtain⟨C,_,e⟩:=h;exact⟨_,e,λ_ z=>(nomatch z)⟩
theorem OR.nt{K:Ve}{ρ:LR}{H:Hp}{a:Addr}{o:O}{q:Str}(h:OR K ρ H a o):H a≠Option.some (HO.tbl q):=λz=>by
 cases o with
 |lst xs=>obtain⟨vs,e,_⟩:=h;rw[z]at e;cases e|dct kvs=>rcases h with⟨_,e⟩|⟨_,xs,e,_⟩<;>(rw[z]at e;cases e)
 |fdc kvs=>obtain⟨o,u,xs,e,_⟩:=h;rw[z]at e;cases e|exc c=>obtain⟨C,_,e⟩:=h;rw[z]at e;cases e
noncomputable def mks:LS:=["_law_first_ones","first_wrong"]
noncomputable def Xat(nm:Str):Str:=nm ++ ".<locals>." ++ "<lambda>"
noncomputable def Xc6(K:Ve):List (Addr×Str):=mks.filterMap λnm=>(PySem.W.tabIn K nm).map λp=>(p.2,Xat nm)
def TabH(K:Ve)(H:Hp):Prop:=∀P q,(Xc6 K).lookup P=yz q->H P=yz Qn6
theorem TabH.upd{K:Ve}{H:Hp}{p:Addr}{u:HO}(t:TabH K H)(h:∀q,H p≠yz Qn6):TabH K (L2.upd H p u):=λP q e=>by rw[Xd λz=>h q (by rw[<-z];exact t P q e)];exact t P q e
structure SR(K:Ve)(ρ:LR)(S:Sto)(H:Hp):Prop where
 tab:TabH K H
 len:(ll ρ)=ll S
 nd:ρ.Nodup
 ob:∀(n:Nat) a o,ρ[n]?=yz a->S[n]?=yz o->OR K ρ H a o
structure Mon(K:Ve)(ρ ρ':LR)(H H':Hp):Prop where
 pre:∀(n:Nat) a,ρ[n]?=yz a->ρ'[n]?=yz a
 tup:∀a xs,SqT K H a xs->SqT K H' a xs
 frz:∀a o u,H a=yz Q90->H' a=yz Q90
structure Stp(K:Ve)(ρ ρ':LR)(H H':Hp):Prop extends Mon K ρ ρ' H H' where
 new:∀a∈ρ',a∈ρ\/H a=yy
 keep:∀a o,H a=yz o->a ∉ ρ->H' a=yz o
section
variable{K:Ve}{ρ ρ' ρ'':LR}{H H' H'':Hp}{S:Sto}
theorem Mon.fro(x:Mon K ρ ρ' H H')(a:Addr)(xs:LW)(h:FrL K H a xs):FrL K H' a xs:=by
 rcases h with⟨o,h⟩|h;·exact .inl ⟨o,x.frz _ _ _ h⟩
 ·exact .inr h
theorem Stp.refl:Stp K ρ ρ H H:=⟨⟨λ_ _ h=>h,λ_ _ h=>h,λ_ _ _ h=>h⟩,λ_ h=>.inl h,λ_ _ h _=>h⟩
theorem Stp.trans(x:Stp K ρ ρ' H H')(y:Stp K ρ' ρ'' H' H''):Stp K ρ ρ'' H H'' where
 pre:=λn a h=>y.pre n a (x.pre n a h)
 new:=λa h=>by
  rcases y.new a h with h|h;·exact x.new a h
  ·cases e:H a with
   |none=>exact .inr rfl|some o=>
    by_cases L:a∈ρ;·exact .inl L
    ·rw[x.keep a o e L]at h;cases h
 keep:=λa o h n=>y.keep a o (x.keep a o h n) λL=>by
  rcases x.new a L with z|z;·exact n z
  ·rw[h]at z;cases z
 tup:=λa xs h=>y.tup a xs (x.tup a xs h)
 frz:=λa o u h=>y.frz a o u (x.frz a o u h)
mutual
theorem RD.mono'(x:Mon K ρ ρ' H H'):∀(d:D) (v:V),RD K ρ H d v->RD K ρ' H' d v
 |.non=>λv h=>by simpa only[RD] using h|.bl b=>λv h=>by simpa only[RD] using h|.int i=>λv h=>by simpa only[RD] using h|.str y=>λv h=>by simpa only[RD] using h|.tup xs=>λv h=>by simp only[RD]at h ⊢;obtain⟨a,vs,e,h1,h2⟩:=h;exact⟨a,vs,e,x.tup a vs h1,RDs.mono' x xs vs h2⟩|.fro xs=>λv h=>by simp only[RD]at h ⊢;obtain⟨a,vs,e,h1,h2⟩:=h;exact⟨a,vs,e,x.fro a vs h1,RDs.mono' x xs vs h2⟩|.ref n=>λv h=>by simp only[RD]at h ⊢;obtain⟨a,e,h⟩:=h;exact⟨a,e,x.pre n a h⟩|.fn f nm=>λv h=>by simpa only[RD] using h
theorem RDs.mono'(x:Mon K ρ ρ' H H'):∀(ds:LD) (vs:LW),RDs K ρ H ds vs->RDs K ρ' H' ds vs
 |[]=>λvs h=>by simpa only[RDs] using h|d::ds=>λvs h=>by simp only[RDs]at h ⊢;obtain⟨v,r,e,h1,h2⟩:=h;exact⟨v,r,e,RD.mono' x d v h1,RDs.mono' x ds r h2⟩
end
theorem RD.mono(x:Stp K ρ ρ' H H')(d:D)(v:V)(h:RD K ρ H d v):RD K ρ' H' d v:=RD.mono' x.toMon d v h
theorem RDs.mono(x:Stp K ρ ρ' H H')(ds:LD)(vs:LW)(h:RDs K ρ H ds vs):RDs K ρ' H' ds vs:=RDs.mono' x.toMon ds vs h
theorem RDs.nil:RDs K ρ H [] []:=by simp only[RDs]
theorem RDs.cons(h:RD K ρ H d v)(t:RDs K ρ H ds vs):RDs K ρ H (d::ds) (v::vs):=by simp only[RDs];exact⟨v,vs,rfl,h,t⟩
theorem RDs.length:∀ {ds:LD} {vs:LW},RDs K ρ H ds vs->ll ds=ll vs
 |[],vs,h=>by simp only[RDs]at h;subst h;rfl|d::ds,vs,h=>by simp only[RDs]at h;obtain⟨v,r,rfl,_,h2⟩:=h;simp[RDs.length h2]
theorem RDs.append:∀ {ds es:LD} {vs us:LW},RDs K ρ H ds vs->RDs K ρ H es us->RDs K ρ H (ds++es) (vs++us)
 |[],es,vs,us,h,t=>by simp only[RDs]at h;subst h;exact t|d::ds,es,vs,us,h,t=>by simp only[RDs]at h;obtain⟨v,r,rfl,h1,h2⟩:=h;exact RDs.cons h1 (RDs.append h2 t)
theorem RDs.get:∀ {ds:LD} {vs:LW} {i:Nat} {d:D},RDs K ρ H ds vs->ds[i]?=yz d->∃v,vs[i]?=yz v/\RD K ρ H d v
 |[],vs,i,d,h,e=>by simp at e|x::ds,vs,0,d,h,e=>by simp only[RDs]at h;obtain⟨v,r,rfl,h1,h2⟩:=h;simp at e;subst e;exact⟨v,rfl,h1⟩|x::ds,vs,i+1,d,h,e=>by simp only[RDs]at h;obtain⟨v,r,rfl,h1,h2⟩:=h;obtain⟨v',L,h'⟩:=RDs.get (i:=i) h2 QG4;exact⟨v',by simpa using L,h'⟩
theorem RDs.none{ds:LD}{vs:LW}{i:Nat}(h:RDs K ρ H ds vs)(e:ds[i]?=yy):vs[i]?=none:=by have:=h.length;rw[U4]at e ⊢;omega
theorem RDs.set(hv:RD K ρ H d v):∀ {ds:LD} {vs:LW} (i:Nat),RDs K ρ H ds vs->RDs K ρ H (ds.set i d) (vs.set i v)
 |[],vs,i,h=>by simp only[RDs]at h;subst h;exact RDs.nil|x::ds,vs,0,h=>by simp only[RDs]at h;obtain⟨w,r,rfl,h1,h2⟩:=h;exact RDs.cons hv h2|x::ds,vs,i+1,h=>by simp only[RDs]at h;obtain⟨w,r,rfl,h1,h2⟩:=h;exact RDs.cons h1 (RDs.set hv i h2)
theorem RDs.drop:∀ {ds:LD} {vs:LW} (n:Nat),RDs K ρ H ds vs->RDs K ρ H (ds.drop n) (vs.drop n)
 |ds,vs,0,h=>h|[],vs,n+1,h=>by simp only[RDs]at h;subst h;exact RDs.nil|x::ds,vs,n+1,h=>by simp only[RDs]at h;obtain⟨w,r,rfl,h1,h2⟩:=h;exact RDs.drop n h2
theorem RDs.take:∀ {ds:LD} {vs:LW} (n:Nat),RDs K ρ H ds vs->RDs K ρ H (ds.take n) (vs.take n)
 |ds,vs,0,h=>RDs.nil|[],vs,n+1,h=>by simp only[RDs]at h;subst h;exact RDs.nil|x::ds,vs,n+1,h=>by simp only[RDs]at h;obtain⟨w,r,rfl,h1,h2⟩:=h;exact RDs.cons h1 (RDs.take n h2)
end
mutual
#check[Vk X.prog X.w,(λx y S h=>by cases x<;>first|exact aB0 rfl h|(cases y<;>first|exact⟨_,_,rfl,rfl⟩|exact aB0 rfl h)),Xo I.sr I.inv,{cls:=.type (Xh3 k),data:=.fields #[.ref a,.int 0 0]},Vk prog w,blk X pc s H sc cl C own fp,λw s3 ⟨S3,e3,H3,ρ3,J3,sr3,st3⟩=>⟨S3,e3,H3,ρ3,J3,sr3,aa.trans st3⟩,by omega,.ref s.heap.objs.size,(by simp only[RD]),0,0,0,0,0,0,0,⟨t,rfl⟩,{cls:=.type "dict",data:=.dict #[]},{cls:=.type "enumerate",data:=.fields #[.none,.bool yw,.ref s.heap.objs.size,Vcy 0,.none,.none]},(by rw[q];exact λz=>nomatch z),fa env S,(by simp only[q];exact Xbx t),λ_ _=>False,upd H2 s2.heap.objs.size (uA s2.heap.objs.size),⟨n,S1,rfl,z⟩,{cls:=.type "range",data:=.fields #[.int lo t,.int hi u,.int (-1) v]},.ref e,⟨rfl,rfl⟩,{s with heap:=h' },pc++Xa4 fp s5.heap,Vbs pos (Ui es X.env),Vbw (L.objs.size+1) sc.names cl,I7.inv.pin (b,o) (Ul _ (Ul _ (Xcs hb e))),f env S,by simp,⟨vs,h1,by rw[Xbw h2];exact h.symm⟩,cxC cm P w K mg base N qual scope f aa A outer s H E,L.objs.size+1,⟨tg,iter,ifs,0⟩,λe p=>e.set p.1 (yz p.2),h pc s σ H ρ S env I nb,λb s'=>∃S',f env S=.ok b S'/\∃H' ρ',Inv X pc σ H' s'/\SR X.K ρ' S' H'/\Stp X.K ρ ρ' H H',0,0,0,0,0,0,⟨e1,e2⟩,{cls:=.type "tuple",data:=.seq #[.int n s.toks,u]},(by simp only[q];rfl),cE k elt gens scope pos,X8 tf body,.ext (ExcO C a),⟨It,fp,wr,_,_,St,λi=>(bs[i]?).getD yw,rfl,W,st,λi v s' Q' E' hP hQ=>?_,λh' tk hk=>?_⟩,λv s1 h1=>Vp h1 (λah s2 h2=>?_) λ_ _ z=>z,fb env S,xs.map λx=>Expr.Name x.1 x.2,{cls:=.type "tuple",data:=.seq #[.int n tk,x]},hf b hb,eval e X.env,.ref a,(by simpa using hi),λx S1 u s1 v H1 ab e1 L I1 rv rd aa=>?_,upd H s.heap.objs.size (.tup [.int n,x]),blk X pc s2 H2 sc aq L.objs.size own fp,.ListComp elt gens sc cpos,{s with heap:=h2},Vbz (name:=Vau "__next__") L.typeIs Vea (Va0 Vea L.typeIs Viu ?_ (Vil _)),x ∉ own/\X.env.cells.lookup x=yz c,s.heap.objs.size+1,h.bind I nb rfl (λds S1 us s1 vs H1 ab e1 L I1 rv rd aa=>?_) λ_ _ z=>z,Vi _,Str×Addr,{s with heap:=h',toks:=tk},he.ex I q λx s' z=>.of .refl z rfl,.ref it,.lst vs,λenv S=>tst (fc env S),((show clausesOf (cE k elt gens sc cpos)=gens by cases k<;>rfl).trans hg),(λz=>by subst z;rw[hd]at h;cases h),ds.map yz++Vj (N.length-ll ps) yy,Xad I.sr (I.inv.tok _),LI×Addr×V,0,0,0,0,0,0,0,⟨λn a h=>by rw[Vv (Vd.mp h).1];exact h,λ_ _ h=>h,λ_ _ _ h=>h⟩,⟨_,Vw _ rfl,rfl,rfl⟩,fc env S,by decide+kernel,cE k elt gens sc cpos,.ref Da,{cls:=.type "range",data:=.fields #[.int lo t,.int hi u,.int 1 v]},hc.ok I QF λs2 H2 ab I2 aa=>?_,Xew (I.inv.ok.hd hc) (.inl hl) λIt fp wr St ac W st hf ab=>?_,⟨_,e⟩,k==Vhj&&env.scope.kind == .function&&env.kindOf n==yz .cell,λenv S=>tst QE,hb pc s2 σ H2 ab S1 env I2 L,ha pc s2 σ H2 ab S1 env I2 L,∀b o,b≠e->b≠it->s.heap.get? b=yz o->h'.get? b=yz o,λu s' q=>?_,Vp (ha pc s σ H ρ S env I L) (λc s1 z=>?_) λ_ _ z=>z,Vhq (T:="tuple") ⟨o2,a2,c2⟩ isSubtype_tuple_tuple ?_,I1.inv.hok.fresh Qy,ExP X pc σ ρ H QR,s.heap.push Q3,X.env::X.outer,{cls:=.type (X7z k),dict:=dct,data:=.seq xs n,slots:=sl},σ++Vj (ll own) yy,λw s3 z=>z.pre aa,Vck name qual params body scope dV kV al pm an aa ct,0,0,0,0,0,0,{cls:=.type "list",dict:=yy,data:=.seq ([]:LV).toArray},ac.trans aa,Stp.upd (ρ:=ρ) (K:=K) hp,⟨by rw[hv];trivial,λo u z=>by rw[hv]at z;cases z⟩,.frz o u,⟨_,rfl,h⟩,⟨_,L,rfl⟩,by decide,Xsq items n dd sl,Vk Y.prog Y.w,Vj k.toNat vs,.type "tuple",(n:Int)+1,∃o,h'.get? e=yz o/\o.cls=.type "StopIteration",λr s'=>match r with|.ok _=>P s'|.error _=>False,Vbt.«tuple.__mul__» ⟨[.ref l,.int k u],[]⟩,hb pc s2 σ H1 ab S1 env ⟨J2,I1.sr,I1.er⟩ L,{cls:=.type "tuple",data:=.seq #[.int n s.toks,x]},⟨Ql.2.2.2.1,Ql.2.1,Ql.2.2.2.2.1,Ql.2.2.2.2.2⟩,src.most S+1,ha.ex I Qc λx s' z=>QI,env++Vj n yy,Vp aa (λ_ ac ab=>Vf ⟨rfl,ab⟩) λ_ _ z=>z,I.inv.wish E,∀b o,b≠e->g4.get? b=yz o->g7.get? b=yz o,Vh0 (λx1 x2=>x1++x2) #[] (Vj k.toNat items),⟨h1,h2,h3⟩,firstIterPos gens cpos,hi pc s σ H ρ S env QG I QD λx s' z=>?_,⟨z,H',J,rz,q⟩,(yw,eval a X.env),⟨λb o e=>Vgk _ e,Vb1 _ (.head _),fr,tr⟩,⟨rfl,rfl,xs,ys,us,vs,rfl,ix,iy,rfl,rfl⟩,λp=>decide (p.1=k),src.most S1+1,g env S,0,0,0,0,0,0,0,QE.bind λx S=>Qi.bind λy S=>k x y S,I.inv.kept k3,⟨⟨q a ha aa,q b hb L⟩,by decide⟩,⟨oe,vs,a0,t1,t2,t4,t3,(Vd9.mp t5).1⟩,X.wish E,[.int i,.int j],ExP X pc σ ρ H r,{s with heap:=s.heap.push QJ,toks:=tk},Vgo a1 d1 (Va (Vgo a2 d2 (Va ?_))),(Z.ixN (ll xs) k).bind λj=>xs[j]?,⟨rfl,rfl,_,_,_,_,rfl,ac,ab,?_,?_⟩,∀b∈fp,H' b=yy,ll xs,ll vs,isTrue e X.env Qm,a::T::frs X.stack,L.push QB,⟨p,vs,k,z,rfl,rfl,hq,hz,rfl,rfl⟩,⟨S1,Xbx t,H2,ab,I2.inv,I2.sr,aa⟩,⟨Da,rfl,by rw[<-I'.sr.len];simp⟩,hb wh pc s2 σ H2 ab S1 env I2 L,⟨o,a,c⟩,ha.ok I QF λs2 H2 ab I2 aa=>?_,2^62,1048576,.ref y,0,0,0,0,0,0,.int i,.head _,⟨r.nd,by simp,λx hx y hy=>?_⟩,ha.bind I nb rfl Qp λ_ _ z=>z,Var ho hd (x:=.int i 0) rfl ?_,⟨g1,g,d,tk,os⟩,⟨I.sr,.refl,by simp only[RD]⟩,λenv S=>tst Qi,h pos pc s σ H ρ S env I nb,eval iter X.env,a::es,Vds .Mult (.ref t) (.int k u),.BoolOp .And (a::b::rest) pos,((0:Nat):Int),{s with heap:=h',toks:=s.toks+1},(λz=>by subst z;exact hz _ _ h),start N vs,spliced QO,(by rw[hp];exact λz=>nomatch z),a::b::rest,Vcg t==Vcq,Var ho hd (x:=.ref t) rfl ?_,.tail _ hb,.Name x py,⟨hl,h⟩,λa ρ H z=>⟨[],z,.nil⟩,I.step J sr st,.Compare a [opC op] [b] pos,{s with heap:=s.heap.push Qb },h1 pc s σ H ρ S env I QD,OkP X pc σ ρ H (.ok d S),.ref x,.ref t,.BoolOp .And (b::rest) pos,⟨QB0,hq.at λo e=>Vm _ e⟩,(λz=>nomatch z),0,0,0,0,0,0,0,F.args_enumerate_next_1 _,.ok .next,.nx env,.cons ru .nil,.compLoop Qd d it acc env,.BoolOp .Or (b::rest) pos,{s with heap:=s.heap.push o},isInstance QZ1 Ql0 >>= _,cE k elt gens scope cpos,Xfl fi t n tf body env S,Vhu (intKind X.prog X.w),⟨T,rfl⟩,ns.map V.int,hc.ex I Qc λx s' z=>QI,eval b X.env,eval a X.env,(by simpa [Xap,Xp] using e),(by rw[Vh3,Vfs];kernel_rfl),Vbc (opC op),Var (s:=Qt) t1 t4 t5 ?_,S++[.lst xs],L2.upd H p o,L2.upd H a u,L2.upd H D u,(L.zip ds).foldl QX env,(0:Nat) != 0,0,0,0,0,0,0,⟨_,Vw _ rfl,rfl,_,rfl⟩,λx hx=>hf x (U2 _ hx),x==("__debug__" : Str),ha.ex I q λx s' z=>QI,Str×Vfd,OkS X pc σ ρ H na QR,I.wish E,ExS X pc σ ρ H yw r0,ExS X pc σ ρ H na QR,(L.zip vs).foldl QX σ,opC op,lo-hi,ll its,i+1,Stp.new1 hp,F.args_tuple_lt_2 _ _,ExS X pc σ ρ H yw r,.ref T,.ref (ll S),.inl z,⟨[.ref x,.ref y],[]⟩,two L ha hb I nb rfl,Uh (Vy e) I.ok.above,⟨target,iter,ifs,0⟩,⟨h1,h2,L⟩,⟨_,keep b o' e1 hm⟩,⟨_,_,rfl⟩,⟨I.sr.upd hT,st,?_⟩,λz=>e (h1.trans z),λ_ _ z=>z,seqItems? Q62 >>= _,k ≥ 2^63,items.isEmpty||k==1,Xj h hp,Vcc Q20,Va (Vf (Vf (Vf h))),0,0,0,0,0,0,0,Stp.upd hp,Ne.symm aa,.UnaryOp .Not a pos,.BoolOp .Or Qt1 pos,decide_eq_false h0,an.trans Qb0.toMon,I.inv.hok.fresh Qy,⟨i,j,rfl,rfl,rfl⟩,⟨hi,λx H' y=>?_⟩,⟨?_,λp hp z=>?_⟩,{ A with handled:=yy},λ_ _ z=>z.pre aa,(x,.free),r.ob n a ob h1 h2,pyIter Q8,ltL xs ys,k < -2^63,field Q20 1 >>= _,field Q20 0 >>= _,Xev _ _ _ _ _ _ _,Int.toNat (T:Int),.bool (ltL ys xs),((Ql2.toNat:Nat):Int),⟨I4,I3.sr,I3.er⟩,⟨?_,λi d e=>?_⟩,λb ob q=>Vm _ q,0,0,0,0,0,0,yz d,field QK 2 >>= _,assign Qx1 X.env,Vl (hi-lo).toNat,.var i,.int j,.IfExp c a b pos,⟨I.sr,.refl,e2⟩,{s' with heap:=h' },[s1.heap.objs.size],∃u,H a=yz Qe0,λb u e=>Vm _ e,n+1,hT o' e1,h1.symm.trans e,fi env S,(by simpa using hl),ak.empty x c hm,Vd.mp h1,Vcu s'.heap QP1,.error e,⟨p,hp,rfl,rfl⟩,⟨l,hl,rfl,rfl⟩,λq=>q▸U0 ha,sr3.stop I3 g1,execs st X.env,(bs.map (· != 0)),a::frs X.stack,I.inv.ok.hd hc,.lst (vs++[v]),.builtin "min",.builtin "max",.builtin "len",ρ++[p],λfl s1 z=>?_,λDa=>LstA.ok,0,0,0,0,0,0,0,x.frz a o u h,nx b,env.set i Qa3,ap b hb,aa b hm h1 h2,Xj e hD,Vy e,Vfk z,Vf8 a b v' u',Vd.mp h,Vcu s'.heap l,U6 h,L fr3,CXd P w,.ok (.ret Q8),⟨w.2,ac w.1⟩,⟨vs,hD',ra'⟩,⟨p,hp,z1,z2⟩,(λe=>nomatch e),x.tup a xs h,ns.map D.int,ks.map V.int,hr.append hq,ae.trans Qb0,Xdz xs k b v,Xd (Xj L hp),0,0,0,0,0,0,Vim aa ab ?_,Vds (opB op),Vbn es X.env,Vbd ?_ hs ab,T.obj _ _ t5,LI×Addr×Vb,L2.upd H p u,.cons rv QD2,⟨n,S1,hr,z⟩,[e,it],(·.1),upd H a Q30,st0.trans L,st.out h hn,ns[i]?,na=yx->L=σ,ll own,k.map V.int,e0.bs b o e,bs[i]?,al.trans bd,ai.trans af,ac.trans ae,⟨_,rfl,QS4,h⟩,Xau X.N own,LstA X.K Da,I.inv.tok _,.ret v,.ref n,.ref g,.ref b,.ref C,.inr z,.exc c,.builtin id,.bl yw,0,0,0,0,0,0,0,.Name x pos,⟨_,rfl,?_⟩,λ_ _ e=>e,upd H Da u,newList [],hn z,eval c env,(by size_fits),(by rw[eq,q3]),Vl (ll bs),Veu l e hb,Vbn Qj env,I.ok.hd hc,⟨w.2,rfl⟩,⟨w.1,rfl⟩,⟨v,?_,h2⟩,⟨L q,rfl⟩,ρ'++[Da],pyNext QK,pyIter Qn,ps.zip us,p::ps,ll ds,fc env S2,e::es,call f us,0,0,0,0,0,0,(by simp[hl]),Xh op,Vd0 r,Vcy T,Ne.symm z,LI×D,Ite K k a,.bool QP3,.bl r,ρ++[Da],(by simp[L]),bg x c h,aa _ QG4,V0.mp hb,Str×Pos,Itd lo n,.int i t,.bool yw,.bl (!r),⟨us,[]⟩,⟨_,rfl⟩,λz=>?_,λe=>?_,x==n,na&&na2,lo+k,f2 b hb,f0 b hb,am b hb,Xj q hD,Vd.mp e,List Qz,.tup xs,.lst ws,.inl QT,.con xs,0,0,0,0,0,0,0,.con ds,⟨u,h1⟩,⟨L,?_⟩,[.int i,v],z▸hx,vs++us,opC o1,hf c L,gNs is,(by rw[z]),Xa5 u3,Xa5 u1,Vm _ e,Vho ?_,Vhb ..,Vdi hb,Vd0 ok,Vba ?_,Qu1=yx,F ds S,.str i,.str b,.str a,.ref p,.of k2,.int k,0,0,0,0,0,0,z▸e,y::zs,x::xs,(x,c),ll ps,aa ha,Xw op,Uq ha,U6 e',AR Da,.ok f,yz v,uA a,lo-k,lo-i,k<=0,he _,a==b,Vl n,(-1:Int),(#[]:AV)]
theorem RDs.ints:∀(ns:LI),RDs K ρ H QU4 QM2
 |[]=>RDs.nil|n::ns=>RDs.cons Q9 (RDs.ints ns)
theorem RDs.ints_of:∀ {ns:LI} {vs:LW},RDs K ρ H QU4 vs->vs=ns.map V.int
 |[],vs,h=>by simp only[Ur,RDs]at h;exact h|n::ns,vs,h=>by simp only[Ur,RDs]at h;obtain⟨v,r,rfl,h1,h2⟩:=h;simp only[RD]at h1;subst h1;rw[RDs.ints_of h2];rfl
theorem DX.mono(x:Mon K ρ ρ' H H')(h:DX K ρ H kvs xs):DX K ρ' H' kvs xs:=Paired.mapP h λp q Q01=>⟨h1,x.tup _ _ h2,RD.mono' x _ _ h3⟩
theorem OR.mono'(x:Mon K ρ ρ' H H')(h:OR K ρ H a o)(e:H' a=H a):OR K ρ' H' a o:=by
 cases o with
 |lst xs=>obtain⟨vs,h1,h2⟩:=h;exact⟨vs,e.trans h1,RDs.mono' x xs vs h2⟩|dct kvs=>
  rcases h with⟨h1,h2⟩|⟨h0,xs,h1,h2⟩;·exact .inl ⟨h1,e.trans h2⟩
  ·exact .inr ⟨h0,xs,e.trans h1,h2.mono x⟩|fdc kvs=>obtain⟨o,u,xs,h1,h2,h3,h4,L⟩:=h;exact⟨o,u,xs,e.trans h1,h2,h3,h4,L.mono x⟩|exc c=>obtain⟨C,h1,h2⟩:=h;exact⟨C,h1,e.trans h2⟩
theorem OR.mono(x:Stp K ρ ρ' H H')(h:OR K ρ H a o)(e:H' a=H a):OR K ρ' H' a o:=OR.mono' x.toMon h e
theorem SR.at(r:SR K ρ S H){n:Nat}{a:Addr}(h:ρ[n]?=yz a):∃o,S[n]?=yz o/\OR K ρ H a o:=by
 have L:n<ll S:=by rw[<-r.len];exact QJ4.1
 exact⟨S[n],by simp[L],r.ob n a _ h Qk5⟩
theorem SR.adr(r:SR K ρ S H){n:Nat}(h:S[n]?=yz o):∃a,ρ[n]?=yz a/\OR K ρ H a o:=by
 have L:n < ρ.length:=by rw[r.len];exact QJ4.1
 exact⟨ρ[n],by simp[L],r.ob n _ o Qk5 h⟩
theorem SR.mem(r:SR K ρ S H){a:Addr}(h:a∈ρ):∃u,H a=yz u/\∀xs,u≠.tup xs:=by obtain⟨n,L,e⟩:=Vde.mp h;obtain⟨o,_,q⟩:=r.at (n:=n) (a:=a) (by simp[L,e]);exact q.some
theorem Stp.upd(hp:H p=yy):Stp K ρ ρ H QV2 where
 pre:=λ_ _ h=>h
 new:=λ_ h=>.inl h
 keep:=λa u h _=>by rw[Xd Q73];exact h
 tup:=λa xs h=>by
  rcases h with(h|⟨u,h⟩)|h;·exact .inl (.inl (by rw[Xd Q73];exact h))
  ·exact .inl (.inr ⟨u,by rw[Xd Q73];exact h⟩)
  exact .inr h
 frz:=λa o u h=>by rw[Xd Q73];exact h
theorem SR.upd(r:SR K ρ S H){p:Addr}{o:HO}(hp:H p=yy):SR K ρ S QV2:=
 ⟨r.tab.upd λq=>Qs1,r.len,r.nd,λn a ob h1 h2=>by have q:=r.ob n a ob h1 h2;obtain⟨u,L,_⟩:=q.some;exact q.mono QA3 QZ4⟩
theorem Stp.new1(hp:H p=yy):Stp K ρ Q74 H QV2 where
 pre:=λn a h=>by rw[Vv QJ4.1];exact h
 new:=λa h=>by
  rcases V9.mp h with h|h;·exact .inl h
  ·rw[V6.mp h];exact .inr hp
 keep:=Qc0.keep
 tup:=Qc0.tup
 frz:=Qc0.frz
theorem SR.new1(r:SR K ρ S H){p:Addr}{u:HO}{o:O}(hp:H p=yy)(ho:OR K Q74 Qg4 p o):SR K Q74 (S++[o]) Qg4:=by
 have aa:p ∉ ρ:=λh=>by obtain⟨w,L,_⟩:=r.mem h;rw[hp]at L;cases L
 refine⟨r.tab.upd λq=>Qs1,by simp[r.len],?_,λn a ob h1 h2=>?_⟩;·rw[Veg];refine Qc1;rw[V6.mp hy];exact λz=>aa QE6
 ·by_cases hn:n < ρ.length;·rw[Vv hn]at h1;rw[Vv (by rw[<-r.len];exact hn)]at h2;have q:=r.ob n a ob h1 h2;obtain⟨w,L,_⟩:=q.some;exact q.mono Qo2 QZ4
  ·have e:n=ll ρ:=by
    have:=Qs3.1;simp at this;omega
   subst e;simp at h1;rw[r.len]at h2;simp at h2;subst h1 h2;exact ho
theorem Stp.chg{n:Nat}{a:Addr}{o:O}{u:HO}(r:SR K ρ S H)(ha:ρ[n]?=yz a)(hz:∀o u,H a≠yz Qe0):Stp K ρ ρ H QW2:=by
 have L:a∈ρ:=U0 ha;obtain⟨w,hw,h1⟩:=r.mem L;refine⟨⟨λ_ _ h=>h,λb xs h=>?_,λb o u h=>?_⟩,λ_ h=>.inl h,λb o h hb=>?_⟩
 ·rcases h with(h|⟨v,h⟩)|h;·exact .inl (.inl (by rw[Xd (λz=>by subst z;rw[hw]at h;exact h1 _ QL4)];exact h))
  ·exact .inl (.inr ⟨v,by rw[Xd Qp1];exact h⟩)
  exact .inr h
 ·rw[Xd Qp1];exact h
 rw[Xd (λz=>hb (by rw[z];exact L))];exact h
theorem SR.chg{n:Nat}{a:Addr}{o:O}{u:HO}(r:SR K ρ S H)(ha:ρ[n]?=yz a)(hz:∀o u,H a≠yz Qe0)(L:OR K ρ QW2 a o):SR K ρ (S.set n o) QW2:=by
 refine⟨r.tab.upd λq=>let ⟨_,_,h⟩:=r.at ha;h.nt,by simp[r.len],r.nd,λm b ob h1 h2=>?_⟩;have hn:n<ll S:=by rw[<-r.len];exact(Vd.mp ha).1
 by_cases e:m=n;·subst e;rw[ha]at h1;cases h1;rw[Vb5 hn]at h2;cases h2;exact L
 ·rw[Vap (Ne.symm e)]at h2;have q:=r.ob m b ob h1 h2;refine q.mono (Stp.chg (S:=S) (o:=o) r ha hz) (Xd λz=>e ?_);subst z;obtain⟨h3,e3⟩:=Vd.mp h1;obtain⟨h4,e4⟩:=Vd.mp ha;exact(List.getElem_inj r.nd).mp (e3.trans e4.symm)
theorem Mon.own{D:Addr}{u:HO}{vs:LW}(hd:H D=yz Q30):Mon K ρ ρ H QX2 where
 pre:=λ_ _ h=>h
 tup:=λa xs h=>by
  rcases h with(h|⟨v,h⟩)|h;·exact .inl (.inl (by rw[Xd Q60];exact h))
  ·exact .inl (.inr ⟨v,by rw[Xd Q60];exact h⟩)
  exact .inr h
 frz:=λa o u h=>by rw[Xd Q60];exact h
theorem SR.own{D:Addr}{u:HO}{vs:LW}(r:SR K ρ S H)(hd:H D=yz Q30)(L:D ∉ ρ):SR K ρ S QX2:=
 ⟨r.tab.upd λq=>(by rw[hd];exact λz=>nomatch z),r.len,r.nd,λn a ob h1 h2=>QN3.mono' (Mon.own hd) (Xd λz=>L (by rw[<-z];exact U0 h1))⟩
theorem Stp.own{D:Addr}{u:HO}{vs:LW}{ρ0:LR}(x:Stp K ρ0 ρ H0 H)(h0:H0 D=yy)(hd:H D=yz Q30):Stp K ρ0 ρ H0 QX2 where
 pre:=x.pre
 tup:=λa xs h=>(Mon.own (ρ:=ρ) hd).tup a xs QT4
 frz:=λa o u h=>(Mon.own (K:=K) (ρ:=ρ) hd).frz a o u QA4
 new:=x.new
 keep:=λa o h L=>by rw[Xd (Xj h h0)];exact x.keep a o h L
universe e
structure ER(K:Ve)(ρ:LR)(H:Hp)(env:En)(σ:L2.St):Prop where
 len:(ll env)=ll σ
 val:∀(i:Nat) d,env[i]?=yz Qa3->∃v,σ[i]?=yz Ql6/\RD K ρ H d v
theorem ER.mono{K:Ve}{ρ ρ':LR}{H H':Hp}{env:En}{σ:L2.St}(r:ER K ρ H env σ)(x:Stp K ρ ρ' H H'):ER K ρ' H' env σ:=
 ⟨r.len,λi d e=>let ⟨v,h1,h2⟩:=r.val i d e;⟨v,h1,h2.mono x⟩⟩
theorem ER.mono'{K:Ve}{ρ ρ':LR}{H H':Hp}{env:En}{σ:L2.St}(r:ER K ρ H env σ)(x:Mon K ρ ρ' H H'):ER K ρ' H' env σ:=
 ⟨r.len,λi d e=>let ⟨v,h1,h2⟩:=r.val i d e;⟨v,h1,RD.mono' x d v h2⟩⟩
theorem ER.set{K:Ve}{ρ:LR}{H:Hp}{env:En}{σ:L2.St}(r:ER K ρ H env σ)(i:Nat){d:D}{v:V}(h:RD K ρ H d v):ER K ρ H QC4 (σ.set i Ql6):=
 ⟨by simp[r.len],λj e h1=>by
  by_cases z:j=i
  ·subst z;have L:j<ll env:=by
    have:=Qs3.1;simpa using this
   rw[Vb5 L]at h1;cases h1;exact⟨v,by rw[Vb5 (by rw[<-r.len];exact L)],h⟩
  rw[Vap Qe5]at h1
  obtain⟨v',h2,h3⟩:=r.val j e h1;exact⟨v',by rw[Vap Qe5];exact h2,h3⟩⟩
structure S0(X:Cx)(pc:LA)(σ:L2.St)(H:Hp)(s:Vc)(ρ:LR)(S:Sto)(env:En):Prop where
 inv:Inv X pc σ H s
 sr:SR X.K ρ S H
 er:ER X.K ρ H env σ
theorem S0.step(I:S0 X pc σ H s ρ S env)(J:Inv X pc σ H' s')(r:SR X.K ρ' S' H')(x:Stp X.K ρ ρ' H H'):
  S0 X pc σ H' s' ρ' S' env:=⟨J,r,I.er.mono x⟩
def EPd(X:Cx)(pc:LA)(σ:L2.St)(ρ:LR)(H:Hp)(d:D)(S':Sto)(u:Vb)(s':Vc):Prop:=
 ∃v H' ρ',Inv X pc σ H' s'/\RelV v u/\RD X.K ρ' H' d v/\SR X.K ρ' S' H'/\Stp X.K ρ ρ' H H'
def Trc(fl:Vb)(ok:Addr->Prop)(H':Hp)(a:Addr)(h:Heap):Prop:=
 ∃oe vs T L ts,h.get? a=yz oe/\oe.data=.fields vs/\vs[1]?=yz Qr2/\ok T/\T≠a/\H' T=yy/\h.get? T=yz L/\L.data=.fields ts/\ts[3]?=yz fl
theorem Trc.imp(x:Trc fl ok H' a h)(k:∀T,ok T->ok' T):Trc fl ok' H' a h:=by obtain⟨oe,vs,T,L,ts,h1,h2,h3,h4,r⟩:=x;exact⟨oe,vs,T,L,ts,h1,h2,h3,k T h4,r⟩
def Xkg(X:Cx)(pc:LA)(T:Addr):Prop:=(T∈X.ex\/X.s₀.heap.get? T=yy)/\∀p∈X.pn++pc,p.1≠T
def Fly(X:Cx)(pc:LA)(H':Hp)(a:Addr)(h:Heap):Prop:=
 (∃L vs,h.get? a=yz L/\L.data=.fields vs/\vs[1]?=yz .none)\/∃fl,(fl=.none\/fl=Vcy X.env.locals)/\Trc fl (Xkg X pc) H' a h
def XPd(X:Cx)(pc:LA)(σ:L2.St)(ρ:LR)(H:Hp)(n:Nat)(S':Sto)(e:Vb)(s':Vc):Prop:=
 ∃H' ρ' a c,Inv X pc σ H' s'/\e=.ref a/\ρ'[n]?=yz a/\S'[n]?=yz Q75/\SR X.K ρ' S' H'/\Stp X.K ρ ρ' H H'/\Fly X pc H' a s'.heap
def OkP(X:Cx)(pc:LA)(σ:L2.St)(ρ:LR)(H:Hp)(r:R D)(u:Vb)(s':Vc):Prop:=∃d S',r=.ok d S'/\EPd X pc σ ρ H d S' u s'
def ExP(X:Cx)(pc:LA)(σ:L2.St)(ρ:LR)(H:Hp){α:Type}(r:R α)(e:Vb)(s':Vc):Prop:=∃n S',r=.ex n S'/\XPd X pc σ ρ H n S' e s'
def DE(X:Cx)(e:Expr)(f:En->Sto->R D):Prop:=
 ∀(pc:LA) (s:Vc) (σ:L2.St) (H:Hp) (ρ:LR) (S:Sto) (env:En),S0 X pc σ H s ρ S env->f env S≠.bad ->
  Vh Q0 X.A Qm (OkP X pc σ ρ H QR) QT0 s
def DT(X:Cx)(e:Expr)(f:En->Sto->R Bool):Prop:=
 ∀(pc:LA) (s:Vc) (σ:L2.St) (H:Hp) (ρ:LR) (S:Sto) (env:En),S0 X pc σ H s ρ S env->f env S≠.bad ->
  Vh Q0 X.A QO1 QZ QT0 s
section
variable{X:Cx}{pc:LA}{σ:L2.St}{H:Hp}{s:Vc}{ρ:LR}{S S':Sto}{env:En}{e:Expr}{f:En->Sto->R D}{g:En->Sto->R Bool}{Q:VP}{E:VP}
theorem DE.ok(h:DE X e f)(I:S0 X pc σ H s ρ S env)(r:f env S=.ok d S')(hQ:∀u s' v H' ρ',S0 X pc σ H' s' ρ' S' env->RelV v u->RD X.K ρ' H' d v->Stp X.K ρ ρ' H H'->Q u s'):
  Vh Q0 X.A Qm Q E s:=by
 have nb:f env S≠.bad:=by rw[r];exact λz=>nomatch z
 refine Vp QY QP0 λx s' q=>?_;·obtain⟨d',S1,L,v,H',ρ',J,rv,rd,sr,st⟩:=q;rw[r]at L;cases L;exact hQ u s' v H' ρ' Q02 rv rd st
 ·obtain⟨n,S1,L,_⟩:=q;rw[r]at L;cases L
theorem DE.ex(h:DE X e f)(I:S0 X pc σ H s ρ S env)(r:f env S=.ex n S')(hE:∀x s',XPd X pc σ ρ H n S' x s'->E x s'):
  Vh Q0 X.A Qm Q E s:=by
 have nb:f env S≠.bad:=by rw[r];exact λz=>nomatch z
 refine Vp QY QP0 λx s' q=>?_;·obtain⟨d',S1,L,_⟩:=q;rw[r]at L;cases L
 ·obtain⟨m,S1,L,q⟩:=q;rw[r]at L;cases L;exact hE x s' q
theorem DT.ok{Q:Bool->Vc->Prop}{b:Bool}(h:DT X e g)(I:S0 X pc σ H s ρ S env)(r:g env S=.ok b S')(hQ:∀s' H' ρ',S0 X pc σ H' s' ρ' S' env->Stp X.K ρ ρ' H H'->Q b s'):
  Vh Q0 X.A QO1 Q E s:=by
 have nb:g env S≠.bad:=by rw[r];exact λz=>nomatch z
 refine Vp QY QP0 λx s' q=>?_;·obtain⟨S1,L,H',ρ',J,sr,st⟩:=q;rw[r]at L;cases L;exact hQ s' H' ρ' Q02 st
 ·obtain⟨n,S1,L,_⟩:=q;rw[r]at L;cases L
theorem DT.ex{Q:Bool->Vc->Prop}{n:Nat}(h:DT X e g)(I:S0 X pc σ H s ρ S env)(r:g env S=.ex n S')(hE:∀x s',XPd X pc σ ρ H n S' x s'->E x s'):
  Vh Q0 X.A QO1 Q E s:=by
 have nb:g env S≠.bad:=by rw[r];exact λz=>nomatch z
 refine Vp QY QP0 λx s' q=>?_;·obtain⟨S1,L,_⟩:=q;rw[r]at L;cases L
 ·obtain⟨m,S1,L,q⟩:=q;rw[r]at L;cases L;exact hE x s' q
theorem XPd.pre(st:Stp X.K ρ ρ' H H')(h:XPd X pc σ ρ' H' n S' x s'):XPd X pc σ ρ H n S' x s':=by obtain⟨H2,ρ2,a,c,J,e,hn,hc,sr,st2,fl⟩:=h;exact⟨H2,ρ2,a,c,J,e,hn,hc,sr,st.trans st2,fl⟩
theorem ExP.mk{α:Type}(st:Stp X.K ρ ρ' H H')(h:XPd X pc σ ρ' H' n S' x s'):ExP X pc σ ρ H (.ex n S':R α) x s':=⟨n,S',rfl,h.pre st⟩
theorem OkP.mk(st:Stp X.K ρ ρ' H H')(J:Inv X pc σ H' s')(L:RelV v u)(rd:RD X.K ρ' H' d v)(sr:SR X.K ρ' S' H'):OkP X pc σ ρ H (.ok d S') u s':=
 ⟨d,S',rfl,v,H',ρ',J,L,rd,sr,st⟩
theorem OkP.pre(st:Stp X.K ρ ρ' H H')(h:OkP X pc σ ρ' H' r u s'):OkP X pc σ ρ H r u s':=by obtain⟨d,S1,e,v,H2,aa,J,rv,rd,sr,L⟩:=h;exact⟨d,S1,e,v,H2,aa,J,rv,rd,sr,st.trans L⟩
theorem ExP.pre{α:Type}{ρ':LR}{H':Hp}{r:R α}{x:Vb}{s':Vc}(st:Stp X.K ρ ρ' H H')(h:ExP X pc σ ρ' H' r x s'):ExP X pc σ ρ H r x s':=by obtain⟨n,S1,e,q⟩:=h;exact⟨n,S1,e,q.pre st⟩
theorem DE.bind{α:Type}(h:DE X e f)(I:S0 X pc σ H s ρ S env){k:D->Sto->R α}(L:QR.bind k≠.bad){r:R α}(hr:r=QR.bind k)
  (hQ:∀d S1 u s' v H' ρ',r=k d S1->k d S1≠.bad->S0 X pc σ H' s' ρ' S1 env->RelV v u->RD X.K ρ' H' d v->Stp X.K ρ ρ' H H'->Q u s') (hE:∀x s',ExP X pc σ ρ H r x s'->E x s'):
  Vh Q0 X.A Qm Q E s:=by
 cases q:f env S with
 |bad=>rw[q]at L;cases L rfl|ex n S1=>rw[q]at hr;exact h.ex I q λx s' z=>hE x s' Qi4|ok d S1=>rw[q]at hr L;exact h.ok I q λu s' v H' ρ' J rv rd st=>hQ d S1 u s' v H' ρ' hr L J rv rd st
universe e
theorem Xfi:big<=V3:=by rw[Vcz];decide
theorem Xbb(h:n<=big):n<=V3:=V2 h Xfi
noncomputable def tst(r:R D):R Bool:=r.bind λx S=>match Xe S x with
 |some b=>.ok b S|none=>.bad
section
variable{X:Cx}{pc:LA}{σ:L2.St}{H:Hp}{s:Vc}{ρ:LR}{S S':Sto}{env:En}{e a b c:Expr}{f fa fb fc:En->Sto->R D}{Q:VP}{E:VP}{pos:Pos}
theorem opd{f:Vb->Vb->Sem Vb}(L:OpR QE1 f r)(I:Inv X pc σ H s)(rx:RelV x v)(ry:RelV y u)(h:r x y H Q')
  (hQ:∀w s' z H',Inv X pc σ H' s'->RelV z w->Q' z H'->Q w s'):Vh Q0 X.A (f v u) Q E s:=
 thn (L pc s σ H x y v u Q' Qg2 rx ry h) λw s' Q31=>hQ w s' z H' J.unwish rz q
theorem ped(L:PE QE1 e t)(I:Inv X pc σ H s)(h:t σ H Q')(hQ:∀w s' z H',Inv X pc σ H' s'->RelV z w->Q' z H'->Q w s'):Vh Q0 X.A Qm Q E s:=
 thn (L pc s σ H Q' Qg2 h) λw s' Q31=>hQ w s' z H' J.unwish rz q
theorem Xgm{f:Vb}{r:LW->Hp->VK->Prop}{xs:LW}{us:LV}{Q':VK}(L:Xge QE1 f r)(I:Inv X pc σ H s)(rx:Vals xs us)(h:r xs H Q')
  (hQ:∀w s' z H',Inv X pc σ H' s'->RelV z w->Q' z H'->Q w s'):Vh Q0 X.A QZ5 Q E s:=
 thn (L pc s σ H xs us Q' Qg2 rx h) λw s' Q31=>hQ w s' z H' J.unwish rz q
theorem mtd{id:String}{r:V->LW->Hp->VK->Prop}{x:V}{xs:LW}{v:Vb}{us:LV}{Q':VK}(L:MtM QE1 id r)(I:Inv X pc σ H s)(rx:RelV x v)(rs:Vals xs us)(h:r x xs H Q')
  (hQ:∀w s' z H',Inv X pc σ H' s'->RelV z w->Q' z H'->Q w s'):Vh Q0 X.A (call Q85 (v::us)) Q E s:=
 thn (L pc s σ H x xs v us Q' Qg2 rx rs h) λw s' Q31=>hQ w s' z H' J.unwish rz q
theorem S0.list(I:S0 X pc σ H s ρ S env)(h:Xc S n=yz xs):∃a vs,ρ[n]?=yz a/\H a=yz Q30/\RDs X.K ρ H xs vs:=by
 unfold Xc at h;cases e:S[n]? with
 |none=>rw[e]at h;cases h|some o=>
  rw[e]at h;cases o with
  |lst ys=>cases h;obtain⟨a,ha,vs,hv,L⟩:=I.sr.adr e;exact⟨a,vs,ha,hv,L⟩|fdc _=>cases h|dct _=>cases h|exc _=>cases h
theorem S0.seq(I:S0 X pc σ H s ρ S env)(h:Xp S d=yz xs)(r:RD X.K ρ H d v):∃a vs,v=.ref a/\(SqL X.K H a vs\/SqT X.K H a vs)/\RDs X.K ρ H xs vs:=by
 cases d with
 |tup ys=>simp only[Xp,Vr]at h;subst h;simp only[RD]at r;obtain⟨a,vs,e,h1,h2⟩:=r;exact⟨a,vs,e,.inr h1,h2⟩|fro ys=>simp only[Xp,Vr]at h;subst h;simp only[RD]at r;obtain⟨a,vs,e,h1,h2⟩:=r;exact⟨a,vs,e,.inl h1.sq,h2⟩|ref n=>simp only[RD]at r;obtain⟨a,e,h1⟩:=r;obtain⟨a',vs,h2,h3,L⟩:=I.list (xs:=xs) (n:=n) h;rw[h1]at h2;cases h2;exact⟨a,vs,e,.inl (.of h3),L⟩|non=>cases h|bl _=>cases h|int _=>cases h|str _=>cases h|fn _ _=>cases h
theorem Xbw(h:RDs X.K ρ H ds vs):(!vs.isEmpty) = !ds.isEmpty:=by have:=h.length;cases ds<;>cases vs<;>simp_all
theorem Xmx(I:S0 X pc σ H s ρ S env){k:Bool}{Q:Bool->Vc->Prop}(h:Xe S d=yz k)(rd:RD X.K ρ H d v)(rv:RelV v u)(hQ:∀s',Inv X pc σ H s'->Q k s'):
  Vh Q0 X.A (truthy u) Q E s:=by
 have aa:X6m X.K v H k:=by
  cases d with
  |non=>simp only[RD]at rd;subst rd;simp only[Xe,Vr]at h;exact h.symm|bl b=>simp only[RD]at rd;subst rd;simp only[Xe,Vr]at h;exact h.symm|int i=>simp only[RD]at rd;subst rd;simp only[Xe,Vr]at h;exact h.symm|str x=>
   simp only[RD]at rd;subst rd;simp only[Xe]at h;split at h;·rename_i hb;exact⟨Xbb hb,QL4.symm⟩
   ·cases h|fn _ _=>cases h|tup xs=>
   simp only[Xe,Vr]at h;obtain⟨a,vs,e,h1,h2⟩:=I.seq (d:=.tup xs) rfl rd;subst e;rcases h1 with h1|h1;·exact .inl QT
   ·exact .inr Q86|fro xs=>
   simp only[Xe,Vr]at h;obtain⟨a,vs,e,h1,h2⟩:=I.seq (d:=.fro xs) rfl rd;subst e;rcases h1 with h1|h1;·exact .inl QT
   ·exact .inr Q86|ref n=>
   simp only[Xe]at h;cases e:S[n]? with
   |none=>rw[e]at h;cases h|some o=>
    rw[e]at h;cases o with
    |lst ys=>obtain⟨a,vs,h1,h2,h3⟩:=I.list (n:=n) (xs:=ys) (by unfold Xc;rw[e]);simp only[RD]at rd;obtain⟨a',e',L⟩:=rd;rw[h1]at L;cases L;subst e';exact .inl ⟨vs,.of h2,by rw[Xbw h3];exact QL4.symm⟩|fdc _=>cases h|dct _=>cases h|exc _=>cases h
 exact thn (X6n (X:=X.wish E) pc s σ H v u (λk' H'=>k'=k/\H'=H) Qx0 rv ⟨k,aa,rfl,rfl⟩) λb s' ⟨H',J,e1,e2⟩=>by subst e1 e2;exact hQ s' J.unwish
theorem DT.of(h:DE X e f)(he:∀whole,isTrue e X.env whole=(do let v <- whole;standAt e.pos;Vge [v] (truthy v))):DT X e (λenv S=>tst QR):=by
 intro pc s σ H ρ S env I L;dsimp only at L ⊢;cases q:f env S with
 |bad=>rw[q]at L;cases L rfl|ex n S1=>exact isTrue_plain (h.ex I q λx s' z=>QI) Qq6|ok d S1=>
  rw[q]at L;cases t:Xe S1 d with
  |none=>simp[tst,t]at L|some k=>refine isTrue_plain (h.ok I q λu s' v H' ρ' J rv rd st=>?_) Qq6;exact Xmx J t rd rv λs2 J2=>⟨S1,by simp[tst,t],H',ρ',J2,J.sr,st⟩
theorem X1j {i:Nat} (hN:X.N[i]?=yz x) (hv:Vis X.env.scope x) (hd:Qc2=yw) (aa:(x==("__classdict__" : Str))=yw):
  DE X QA5 (λenv S=>match env[i]? with|some Qa3=>.ok d S|_=>.bad):=by
 intro pc s σ H ρ S env I L;dsimp only at L ⊢;cases q:env[i]? with
 |none=>rw[q]at L;cases L rfl|some o=>
  cases o with
  |none=>rw[q]at L;cases L rfl|some d=>obtain⟨v,h1,h2⟩:=I.er.val i d q;exact ped (Q':=λz H'=>z=v/\H'=H) (X6g hN hv hd aa) I.inv ⟨v,h1,rfl,rfl⟩ λu s' z H' J rz Qa=>by subst e1 e2;exact .mk .refl J rz h2 I.sr
theorem d_int:DE X (.Constant Qa1 j pos) (λ_ S=>.ok Qa1 S):=λpc s σ H ρ S env I _=>ped (Q':=λz H'=>z=.int i/\H'=H) X6h I.inv QL λu s' z H' J rz Qa=>by subst e1 e2;exact .mk .refl J rz Q9 I.sr
theorem d_bl:DE X (.Constant (.bool i) j pos) (λ_ S=>.ok (.bl i) S):=λpc s σ H ρ S env I _=>ped (Q':=λz H'=>z=.bl i/\H'=H) Yb9 I.inv QL λu s' z H' J rz Qa=>by subst e1 e2;exact .mk .refl J rz Q9 I.sr
theorem d_non:DE X (.Constant .none j pos) (λ_ S=>.ok .non S):=λpc s σ H ρ S env I _=>ped (Q':=λz H'=>z=.non/\H'=H) X6i I.inv QL λu s' z H' J rz Qa=>by subst e1 e2;exact .mk .refl J rz Q9 I.sr
theorem d_str:DE X (.Constant QU6 j pos) (λ_ S=>.ok QU6 S):=λpc s σ H ρ S env I _=>ped (Q':=λz H'=>z=.str i/\H'=H) X6j I.inv QL λu s' z H' J rz Qa=>by subst e1 e2;exact .mk .refl J rz Q9 I.sr
def DA(X:Cx)(es:LX)(f:En->Sto->R LD):Prop:=
 ∀(pos:Pos) (pc:LA) (s:Vc) (σ:L2.St) (H:Hp) (ρ:LR) (S:Sto) (env:En),S0 X pc σ H s ρ S env->f env S≠.bad ->
  Vh Q0 X.A Qr1
   (λus s'=>∃ds S' vs H' ρ',f env S=.ok ds S'/\Inv X pc σ H' s'/\Vals vs us/\RDs X.K ρ' H' ds vs/\SR X.K ρ' S' H'/\Stp X.K ρ ρ' H H') QT0 s
theorem DA.ok{es:LX}{g:En->Sto->R (LD)}{Q:LV->Vc->Prop}{ds:LD}(h:DA X es g)(I:S0 X pc σ H s ρ S env)(r:g env S=.ok ds S')
  (hQ:∀us s' vs H' ρ',S0 X pc σ H' s' ρ' S' env->Vals vs us->RDs X.K ρ' H' ds vs->Stp X.K ρ ρ' H H'->Q us s'):
  Vh Q0 X.A Qr1 Q E s:=by
 have nb:g env S≠.bad:=by rw[r];exact λz=>nomatch z
 refine Vp Qi1 QP0 λx s' q=>?_;·obtain⟨d',S1,vs,H',ρ',L,J,rv,rd,sr,st⟩:=q;rw[r]at L;cases L;exact hQ u s' vs H' ρ' Q02 rv rd st
 ·obtain⟨n,S1,L,_⟩:=q;rw[r]at L;cases L
theorem DA.ex{es:LX}{g:En->Sto->R (LD)}{Q:LV->Vc->Prop}{n:Nat}(h:DA X es g)(I:S0 X pc σ H s ρ S env)(r:g env S=.ex n S')(hE:∀x s',XPd X pc σ ρ H n S' x s'->E x s'):
  Vh Q0 X.A Qr1 Q E s:=by
 have nb:g env S≠.bad:=by rw[r];exact λz=>nomatch z
 refine Vp Qi1 QP0 λx s' q=>?_;·obtain⟨d',S1,_,_,_,L,_⟩:=q;rw[r]at L;cases L
 ·obtain⟨m,S1,L,q⟩:=q;rw[r]at L;cases L;exact hE x s' q
theorem DA.bind{α:Type}{es:LX}{g:En->Sto->R (LD)}{Q:LV->Vc->Prop}(h:DA X es g)(I:S0 X pc σ H s ρ S env){k:LD->Sto->R α}(L:Q91.bind k≠.bad){r:R α}(hr:r=Q91.bind k)
  (hQ:∀ds S1 us s' vs H' ρ',r=k ds S1->k ds S1≠.bad->S0 X pc σ H' s' ρ' S1 env->Vals vs us->RDs X.K ρ' H' ds vs->Stp X.K ρ ρ' H H'->Q us s') (hE:∀x s',ExP X pc σ ρ H r x s'->E x s'):
  Vh Q0 X.A Qr1 Q E s:=by
 cases q:g env S with
 |bad=>rw[q]at L;cases L rfl|ex n S1=>rw[q]at hr;exact h.ex I q λx s' z=>hE x s' Qi4|ok d S1=>rw[q]at hr L;exact h.ok I q λu s' v H' ρ' J rv rd st=>hQ d S1 u s' v H' ρ' hr L J rv rd st
theorem X7i:DA X [] (λ_ S=>.ok [] S):=λ_ pc s σ H ρ S env I _=>Vfj ⟨[],S,[],H,ρ,rfl,I.inv,.nil,.nil,I.sr,.refl⟩
theorem X2r{es:LX}{g:En->Sto->R (LD)}(ha:DE X a fa)(hr:DA X es g)(hs:Ui Qk1 X.env=Q41::Ui es X.env):
  DA X Qk1 (λenv S=>QE.bind λx S=>Q91.bind λxs S=>.ok Qc6 S):=by
 intro pos pc s σ H ρ S env I nb;dsimp only at nb ⊢;rw[hs];show Vh _ _ (spliced (Q41::Vbs pos (Ui es X.env))) _ _ s;refine Vc6 (ha.bind I nb rfl (λd S1 u s1 v H1 ah e1 af I1 rv rd L=>?_) λ_ _ z=>z);rw[e1];exact hr.bind I1 af rfl (λds S2 us s2 vs H2 ac e2 _ I2 ab ae aa=>⟨d::ds,S2,v::vs,H2,ac,e2,I2.inv,.cons rv ab,.cons (rd.mono aa) ae,I2.sr,L.trans aa⟩) λ_ _ z=>z.pre L
theorem Xcy(J:Inv X pc σ (upd H p (.tup vs)) s')(hp:H p=yy)(sr:SR X.K ρ S H)(rd:RDs X.K ρ H xs vs):OkP X pc σ ρ H (.ok Q66 S) QX6 s':=by refine .mk (v:=.ref p) QA3 J rfl ?_ (sr.upd hp);simp only[RD];exact⟨p,vs,rfl,.of Xl,RDs.mono QA3 xs vs rd⟩
theorem Xbc(J:Inv X pc σ (upd H p Q30) s')(hp:H p=yy)(sr:SR X.K ρ S H)(rd:RDs X.K ρ H xs vs):OkP X pc σ ρ H (.ok Qs2 QU2) QX6 s':=by refine .mk (v:=.ref p) (ρ':=ρ++[p]) Qo2 J rfl ?_ (sr.new1 hp ⟨vs,Xl,RDs.mono Qo2 xs vs rd⟩);simp only[RD];exact⟨p,rfl,by rw[<-sr.len];simp⟩
theorem Ycc{es:LX}{x1:Nat}{g:En->Sto->R (LD)}(h:DA X es g):DE X (.Tuple es x1 pos) (λenv S=>Q91.bind λxs S=>if QM1<=big then .ok Q66 S else .bad):=by
 intro pc s σ H ρ S env I nb;dsimp only at nb ⊢;refine wpAny_Tuple_spliced Qx;rw[e1];split at L
 ·rename_i hz;have hl:QN1<=V3:=by rw[<-rd.length];exact Xbb hz
  rw[iP0 hz];refine⟨by rw[<-rv.length];exact hl,OkP.pre aa (Xcy (I1.inv.laid (t':=s1.toks) Ql3 Qy ⟨hl,us,rv,Qa2⟩) QS0 I1.sr rd)⟩
 cases L rfl
theorem Ycd{es:LX}{g:En->Sto->R (LD)}(h:DA X es g):DE X (.List es pos) (λenv S=>Q91.bind λxs S=>if QM1<=big then .ok Qs2 QU2 else .bad):=by
 intro pc s σ H ρ S env I nb;dsimp only at nb ⊢;refine wpAny_List_spliced Qx;rw[e1];split at L
 ·rename_i hz;have hl:QN1<=V3:=by rw[<-rd.length];exact Xbb hz
  rw[iP0 hz];refine⟨by rw[<-rv.length];exact hl,OkP.pre aa (Xbc (I1.inv.laid (t':=s1.toks) Ql3 Qy ⟨hl,us,0,rv,Vw _ rfl⟩) QS0 I1.sr rd)⟩
 cases L rfl
def Op2(X:Cx)(m:Vb->Vb->Sem Vb)(k:D->D->Sto->R D):Prop:=
 ∀(pc:LA) (s:Vc) (σ:L2.St) (H:Hp) (ρ:LR) (S:Sto) (env:En) (x y:D) (v u:V) (v' L:Vb) (E:VP),S0 X pc σ H s ρ S env->k x y S≠.bad ->
  RD X.K ρ H x v->RelV v v'->RD X.K ρ H y u->RelV u L->Vh Q0 X.A (m v' L) (OkP X pc σ ρ H (k x y S)) E s
theorem two(ho:Op2 X m k)(ha:DE X a fa)(hb:DE X b fb)(I:S0 X pc σ H s ρ S env){r:R D}
  (nb:QE.bind (λx S=>Qi.bind λy S=>k x y S)≠.bad) (hr:r=QE.bind λx S=>Qi.bind λy S=>k x y S):
  Vh Q0 X.A QP2 (λv s₁=>Vh Q0 X.A QO2 (λu s₂=>Vh Q0 X.A (m v u)
   (OkP X pc σ ρ H r) QG1 s₂) QG1 s₁) QG1 s:=by
 refine ha.bind I nb hr (λx S1 v' s1 v H1 ah e1 ac I1 rv rd aa=>?_) λ_ _ z=>z;refine hb.bind I1 ac e1 (λy S2 u' s2 u H2 ae e2 ab I2 ru af L=>?_) λ_ _ z=>z.pre aa;subst e2;exact Vp (ho pc s2 σ H2 ae S2 env x y v u v' u' QG I2 ab (rd.mono L) rv af ru) (λw s3 z=>z.pre (aa.trans L)) λ_ _ z=>z.elim
noncomputable def opB:Bo->Operator
 |.add=>.Add|.sub=>.Sub|.mul=>.Mult|.fdiv=>.FloorDiv|.mod=>.Mod|.pow=>.Pow
theorem Yce(L:Op2 X Qb4 Qg6)(ha:DE X a fa)(hb:DE X b fb):DE X (.BinOp a (opB op) b pos) (λenv S=>QE.bind λx S=>Qi.bind λy S=>Xw op x y S):=
 λpc s σ H ρ S env I nb=>wpAny_BinOp Qv2
noncomputable def opC:Co->CmpOp
 |.eq=>.Eq|.ne=>.NotEq|.lt=>.Lt|.le=>.LtE|.gt=>.Gt|.ge=>.GtE|.isin=>.In|.notin=>.NotIn|.isnot=>.IsNot
theorem Ycf(L:Op2 X QS2 Qb5)(ha:DE X a fa)(hb:DE X b fb)(hm:Vex Qk2 b=yw):
  DE X Q12 (λenv S=>QE.bind λx S=>Qi.bind λy S=>Xh op x y S):=
 λpc s σ H ρ S env I nb=>wpAny_Compare1 Qv2 hm
theorem Xgn(h:Xh op x y S≠.bad):∃r,X0 op x y S=yz r/\Xh op x y S=.ok Qi5 S:=by
 unfold Xh at h ⊢;cases e:X0 op x y S with
 |none=>rw[e]at h;cases h rfl|some r=>exact⟨r,rfl,rfl⟩
theorem Xbx(h:Xe S d=yz r):tst (.ok d S)=.ok r S:=by simp[tst,h]
theorem Xqn{op:CmpOp}{k:D->D->Sto->R D}(hk:∀x y S d S',k x y S=.ok d S'->∃r,d=.bl r)(ho:Op2 X (Vbc op) k)(ha:DE X a fa)(hb:DE X b fb)(hm:Vex op b=yw):
  DT X (.Compare a [op] [b] pos) (λenv S=>tst QA1):=by
 intro pc s σ H ρ S env I nb;dsimp only at nb ⊢;have aa:QA1≠.bad:=λz=>nb (by rw[z];rfl);refine wpAny_isTrue_Compare1 (Vp (two ho ha hb I aa rfl) (λv s1 h1=>Vp h1 (λu s2 h2=>Vp h2 (λw s3 h3=>?_) λx s' z=>?_) λx s' z=>?_) λx s' z=>?_) hm
 ·obtain⟨d,S1,e,v1,H1,ac,J,rv,rd,sr,st⟩:=h3;have ab:∃r,d=.bl r:=by
   cases q:fa env S with
   |bad=>rw[q]at e;cases e|ex n S1=>rw[q]at e;cases e|ok x S1=>
    rw[q]at e;simp only[Rk0]at e;cases L:fb env S1 with
    |bad=>rw[L]at e;cases e|ex n S1=>rw[L]at e;cases e|ok y S2=>rw[L]at e;exact hk x y S2 d _ e
  obtain⟨r,rfl⟩:=ab;simp only[RD]at rd;subst rd;cases rv;exact Vb7 ⟨S1,by rw[e];rfl,H1,ac,J,sr,st⟩
 all_goals (obtain⟨n,S1,e,q⟩:=z;exact⟨n,S1,by rw[e];rfl,q⟩)
theorem X7j(L:Op2 X QS2 Qb5)(ha:DE X a fa)(hb:DE X b fb)(hm:Vex Qk2 b=yw):
  DT X Q12 (λenv S=>tst (QE.bind λx S=>Qi.bind λy S=>Xh op x y S)):=Xqn (λx y S d S' e=>by
 obtain⟨r,_,e2⟩:=Xgn (op:=op) (x:=x) (y:=y) (S:=S) (by rw[e];exact λz=>nomatch z)
 rw[e2]at e;cases e;exact⟨r,rfl⟩) L ha hb hm
theorem X1k{rest:LX}(ha:DE X a fa)(hb:DE X Q72 fb):DE X Qm1
  (λenv S=>QE.bind λx S=>match Xe S x with|some yx=>fb env S|some yw=>.ok x S|none=>.bad):=by
 intro pc s σ H ρ S env I nb;dsimp only at nb ⊢;refine BoolOp_and Qd1;rw[e1];cases t:Xe S1 x with
 |none=>rw[t]at L;cases L rfl|some r=>
  rw[t]at L;refine Xmx I1 t rd rv λs2 J2=>?_;cases r with
  |true=>exact Vp Qq0 QY0 λx s' z=>z.pre aa|false=>exact .mk aa J2 rv rd I1.sr
theorem X7k{rest:LX}(ha:DE X a fa)(hb:DE X QF2 fb):DE X QD3
  (λenv S=>QE.bind λx S=>match Xe S x with|some yx=>.ok x S|some yw=>fb env S|none=>.bad):=by
 intro pc s σ H ρ S env I nb;dsimp only at nb ⊢;refine BoolOp_or Qd1;rw[e1];cases t:Xe S1 x with
 |none=>rw[t]at L;cases L rfl|some r=>
  rw[t]at L;refine Xmx I1 t rd rv λs2 J2=>?_;cases r with
  |false=>exact Vp Qq0 QY0 λx s' z=>z.pre aa|true=>exact .mk aa J2 rv rd I1.sr
theorem X1l(h:DE X a f):DE X (.BoolOp op [a] pos) f:=λpc s σ H ρ S env I L=>BoolOp_one (h pc s σ H ρ S env I L)
theorem Ycg(ha:DT X a QL0)(hv:DE X a fa):DE X QC3 (λenv S=>QE.bind λx S=>match Xe S x with|some r=>.ok Qs5 S|none=>.bad):=by
 intro pc s σ H ρ S env I nb;dsimp only at nb ⊢;refine UnaryOp_ (hv.bind I nb rfl Qp λ_ _ z=>z);rw[e1];cases t:Xe S1 x with
 |none=>rw[t]at L;cases L rfl|some r=>exact not_of (Xmx I1 t rd rv λs2 J2=>.mk (v:=.bl (!r)) aa J2 rfl Q9 I1.sr)
theorem X7l(ha:DT X a QL0):DT X QC3 (λenv S=>tst (QE.bind λx S=>match Xe S x with|some r=>.ok Qs5 S|none=>.bad)):=by
 intro pc s σ H ρ S env I L;dsimp only at L ⊢;cases q:fa env S with
 |bad=>rw[q]at L;cases L rfl|ex n S1=>exact isTrue_not Qu0|ok x S1=>
  rw[q]at L;simp only[Rk0]at L ⊢;cases t:Xe S1 x with
  |none=>rw[t]at L;cases L rfl|some r=>exact isTrue_not (ha.ok I QF λs2 H2 aa I2 ab=>⟨S1,rfl,H2,aa,I2.inv,I2.sr,ab⟩)
theorem Ych(hc:DT X c Q40)(ha:DE X a fa)(hb:DE X b fb):
  DE X Qg3 (λenv S=>QC0.bind λx S=>match Xe S x with|some yx=>fa env S|some yw=>fb env S|none=>.bad):=by
 intro pc s σ H ρ S env I L;dsimp only at L ⊢;cases q:fc env S with
 |bad=>rw[q]at L;cases L rfl|ex n S1=>exact wpAny_IfExp QN2|ok x S1=>
  rw[q]at L;simp only[Rk0]at L ⊢;cases t:Xe S1 x with
  |none=>rw[t]at L;cases L rfl|some r=>
   rw[t]at L;refine wpAny_IfExp QH0;cases r with
   |true=>exact Vp QN0 QY0 λx s' z=>z.pre aa|false=>exact Vp QM0 QY0 λx s' z=>z.pre aa
def DW(X:Cx)(e:Expr)(f:En->Sto->R Bool):Prop:=
 ∀(whole:Sem Vb) (pc:LA) (s:Vc) (σ:L2.St) (H:Hp) (ρ:LR) (S:Sto) (env:En),S0 X pc σ H s ρ S env->f env S≠.bad ->
  Vh Q0 X.A (isTrue e X.env whole) QZ QT0 s
theorem DW.dt(h:DW X e g):DT X e g:=h _
theorem X2s(ha:DT X a g):DW X (.BoolOp .And [a] pos) g:=by
 intro wh pc s σ H ρ S env I L;refine isTrue_and QQ0;cases c with
 |true=>exact isTrue_and_nil z|false=>exact z
theorem X7m(ha:DT X a g):DW X (.BoolOp .Or [a] pos) g:=by
 intro wh pc s σ H ρ S env I L;refine isTrue_or QQ0;cases c with
 |false=>exact isTrue_or_nil z|true=>exact z
theorem Xuu{rest:LX}(ha:DT X a QL0)(hb:DW X Q72 Qh1):DW X Qm1
  (λenv S=>tst (QE.bind λx S=>match Xe S x with|some yx=>fb env S|some yw=>.ok x S|none=>.bad)):=by
 intro wh pc s σ H ρ S env I L;dsimp only at L ⊢;cases q:fa env S with
 |bad=>rw[q]at L;cases L rfl|ex n S1=>exact isTrue_and Qu0|ok x S1=>
  rw[q]at L;simp only[Rk0]at L ⊢;cases t:Xe S1 x with
  |none=>rw[t]at L;cases L rfl|some r=>
   rw[t]at L;refine isTrue_and QW1;cases r with
   |true=>exact Vp QU1 Q6 λx s' z=>z.pre aa|false=>exact QS1
theorem X1m{rest:LX}(ha:DT X a QL0)(hb:DW X QF2 Qh1):DW X QD3
  (λenv S=>tst (QE.bind λx S=>match Xe S x with|some yx=>.ok x S|some yw=>fb env S|none=>.bad)):=by
 intro wh pc s σ H ρ S env I L;dsimp only at L ⊢;cases q:fa env S with
 |bad=>rw[q]at L;cases L rfl|ex n S1=>exact isTrue_or Qu0|ok x S1=>
  rw[q]at L;simp only[Rk0]at L ⊢;cases t:Xe S1 x with
  |none=>rw[t]at L;cases L rfl|some r=>
   rw[t]at L;refine isTrue_or QW1;cases r with
   |false=>exact Vp QU1 Q6 λx s' z=>z.pre aa|true=>exact QS1
universe e
theorem Xa5:∀ {ns:LI} {us:LV},Vals QM2 us->Vbi us ns
 |[],_,.nil=>.nil|n::ns,_,.cons r t=>by obtain⟨k,rfl⟩:=r;exact .cons n k (Xa5 t)
section
variable{prog:Ue}{w:Uy}{A:U7}{E:VP}{s:Vc}{x y:Addr}{us vs:LV}{xs ys:LI}
theorem Xqo:∀(xs ys:LI),xs=[]\/ys=[]->ltL xs ys=decide (ll xs<ll ys)
 |[],[]=>λ_=>rfl|[],_::_=>λ_=>rfl|_::_,[]=>λ_=>rfl|_::_,_::_=>λh=>by rcases h with h|h<;>cases h
theorem Xqp{P:PySem.Fin->Vc->Prop}(hx:Vc8 s.heap x us.toArray)(hy:Vc8 s.heap y vs.toArray)(ix:Vbi us xs)(iy:Vbi vs ys)(h:P (.done (.ret Qh5)) s):
  Vh Q4 A (Vbt.«tuple.__lt__» Qu2) P E s:=by
 obtain⟨o1,a1,c1,n1,d1⟩:=hx;obtain⟨o2,a2,c2,n2,d2⟩:=hy;show Vh _ _ QH2 _ _ s;refine Va QR0;simp only[Vb3,Uo,if_false];refine Va QI1;refine Vhr _ (λl r s'=>r.1=yy/\s'=s/\∃ps qs aa L,l=aa.zip L/\Vbi aa ps/\Vbi L qs/\ltL ps qs=ltL xs ys/\decide (ll aa<ll L)=decide (ll us<ll vs)) _ ?_ ?_ _ _ Q61
 ·rintro ⟨p,q⟩ l r s' ⟨hr,rfl,ps,qs,aa,L,hz,i1,i2,e1,e2⟩;cases i1 with
  |nil=>simp at hz|cons a t ac=>
   cases i2 with
   |nil=>simp at hz|cons b u ab=>
    simp only[Vgp,List.cons.injEq,Vd8]at hz;obtain⟨⟨rfl,rfl⟩,rfl⟩:=hz;refine Va QN6;by_cases c:a=b
    ·subst c;simp only[beq_self_eq_true,Vb3,Uo,if_false];refine Vf QK1;·rw[<-e1];simp[ltL]
     ·rw[<-e2];simp
    have:Qr6=false:=by simpa using c
    rw[this];simp only[Vdv,if_true];have e3:ltL xs ys=decide (a<b):=by rw[<-e1];simp[ltL,c]
    rw[e3]at h;exact Va (Vba (Va (lt_int Q93)))
 ·rintro ⟨r1,r2⟩ s' ⟨hr,rfl,ps,qs,aa,L,hz,i1,i2,e1,e2⟩;simp only at hr;subst hr;refine Vf ?_;show P (.done (.ret (.bool (decide (us.toArray.size<vs.toArray.size))))) s';have e3:ps=[]\/qs=[]:=by
   cases i1 with
   |nil=>exact .inl rfl|cons a t ac=>
    cases i2 with
    |nil=>exact .inr rfl|cons b u ab=>simp at hz
  rw[Vo,Vo,<-e2,i1.length,i2.length,<-Xqo ps qs e3,e1];exact h
theorem Xqq{Q:VP}(hu:A.units<Vbh)(hx:Vc8 s.heap x us.toArray)(L:Vc8 s.heap y vs.toArray)(ix:Vbi us xs)(iy:Vbi vs ys)(h:Q Qh5 s):
  Vh Q4 A (richCompare .Lt Q52 QZ1) Q E s:=by
 have t1:s.TypeIs Q52 "tuple":=let ⟨o,a,c,_⟩:=hx;QV1
 have t2:s.TypeIs QZ1 "tuple":=let ⟨o,a,c,_⟩:=L;QV1
 exact Vit (op:=.Lt) t1 t2 Vh2 (Va0 Vh2 t1 F.entry_tuple_lt (Xqp hx L ix iy Qx4) Qp2) hu
theorem X2t{P:PySem.Fin->Vc->Prop}(hx:Vc8 s.heap x us.toArray)(hy:Vc8 s.heap y vs.toArray)(ix:Vbi us xs)(iy:Vbi vs ys)(h:P (.done (.ret QV3)) s):
  Vh Q4 A (Vbt.«tuple.__gt__» Qu2) P E s:=by
 obtain⟨o1,a1,c1,n1,d1⟩:=hx;obtain⟨o2,a2,c2,n2,d2⟩:=hy;show Vh _ _ QH2 _ _ s;refine Va QR0;simp only[Vb3,Uo,if_false];refine Va QI1;refine Vhr _ (λl r s'=>r.1=yy/\s'=s/\∃ps qs aa L,l=aa.zip L/\Vbi aa ps/\Vbi L qs/\ltL qs ps=ltL ys xs/\decide (ll L<ll aa)=decide (ll vs<ll us)) _ ?_ ?_ _ _ Q61
 ·rintro ⟨p,q⟩ l r s' ⟨hr,rfl,ps,qs,aa,L,hz,i1,i2,e1,e2⟩;cases i1 with
  |nil=>simp at hz|cons a t ac=>
   cases i2 with
   |nil=>simp at hz|cons b u ab=>
    simp only[Vgp,List.cons.injEq,Vd8]at hz;obtain⟨⟨rfl,rfl⟩,rfl⟩:=hz;refine Va QN6;by_cases c:a=b
    ·subst c;simp only[beq_self_eq_true,Vb3,Uo,if_false];refine Vf QK1;·rw[<-e1];simp[ltL]
     ·rw[<-e2];simp
    have:Qr6=false:=by simpa using c
    rw[this];simp only[Vdv,if_true];have e3:ltL ys xs=decide (b<a):=by rw[<-e1,ltL,iN0 (Ne.symm c)]
    rw[e3]at h;exact Va (Vba (Va (gt_int Q93)))
 ·rintro ⟨r1,r2⟩ s' ⟨hr,rfl,ps,qs,aa,L,hz,i1,i2,e1,e2⟩;simp only at hr;subst hr;refine Vf ?_;show P (.done (.ret (.bool (decide (vs.toArray.size<us.toArray.size))))) s';have e3:ps=[]\/qs=[]:=by
   cases i1 with
   |nil=>exact .inl rfl|cons a t ac=>
    cases i2 with
    |nil=>exact .inr rfl|cons b u ab=>simp at hz
  rw[Vo,Vo,<-e2,i1.length,i2.length,<-Xqo qs ps e3.symm,e1];exact h
theorem X2u{Q:VP}(hu:A.units<Vbh)(hx:Vc8 s.heap x us.toArray)(L:Vc8 s.heap y vs.toArray)(ix:Vbi us xs)(iy:Vbi vs ys)(h:Q QV3 s):
  Vh Q4 A (richCompare .Gt Q52 QZ1) Q E s:=by
 have t1:s.TypeIs Q52 "tuple":=let ⟨o,a,c,_⟩:=hx;QV1
 have t2:s.TypeIs QZ1 "tuple":=let ⟨o,a,c,_⟩:=L;QV1
 exact Vit (op:=.Gt) t1 t2 F.slot_tuple_gt (Va0 F.slot_tuple_gt t1 F.entry_tuple_gt (X2t hx L ix iy Qx4) (F.args_tuple_gt_2 _ _)) hu
theorem Xnr{b:Bool}{Q:Bool->Vc->Prop}(L:A.units<Vbh)(hx:Vc8 s.heap x us.toArray)(hy:Vc8 s.heap y vs.toArray)(ix:Vbi us xs)(iy:Vbi vs ys)(h:Q QP3 s):
  Vh Q4 A (oneLt' b Q52 QZ1) Q E s:=by
 have t1:s.TypeIs Q52 "tuple":=let ⟨o,a,c,_⟩:=hx;QV1
 rw[oneLt'_eq];cases b with
 |false=>simp only[Uo,if_false];exact Va (Xqq L hx hy ix iy (Vb7 h))|true=>simp only[if_true];refine Va (wpAny_cRoomFor L (Va (wpAny_callSpecialIfBound?_slot t1 Vh2 (Va0 Vh2 t1 F.entry_tuple_lt (Xqp hx hy ix iy QB5) Qp2))));exact Vb7 h
universe e
universe Z
universe e
section
namespace Z
open PySem PySem.Spec PyProof.Rows L2 PySem.SeqAt
open AutoSeq1 (wpAny_loadPart')
theorem Yev:fillsNumberSlot Ql0 "mul"=pure false:=
 PySem.fillsNumberSlot_seq (r:=yz (.builtin "tuple.__rmul__")) PySem.F.slot_tuple_mul.lookup QD0 QR2 QD0
theorem Yew:seqRepeat? Ql0=pure (yz (.builtin "tuple.__mul__")):=by unfold seqRepeat?;rw[PySem.seqSlot_of (T:="tuple") (name:="__mul__") (id:="tuple.__mul__") PySem.F.slot_tuple_mul.lookup QD0,PySem.seqSlot_of (T:="tuple") (name:="__rmul__") (id:="tuple.__rmul__") QR2 QD0];rfl
noncomputable abbrev Xsq(items:AV)(n:Nat)(dd:Option Addr)(sl:Array OV):Obj:={cls:=.type "tuple",dict:=dd,data:=.seq items n,slots:=sl}
theorem Xuv(a:Int)(t:Tok)(l:Addr)(items:AV)(n:Nat)(dd:Option Addr)(sl:Array OV):
  Meets (Vbt.«int.__rmul__» ⟨[.int a t,.ref l],[]⟩) (λ_ R s=>s.heap.get? l=yz Qi0/\R (.ok (.ret Value.notImplemented)) s):=
 .of_wp λprog w A R s Qy1=>by obtain⟨L,g,d,tk,os⟩:=s;wp_walk;exact Qf0
section
variable(l:Addr)(items:AV)(n:Nat)(dd:Option Addr)(sl:Array OV)(k:Int)(u:Tok)
theorem Yci:
  Meets (Vbt.«tuple.__mul__» ⟨[.ref l,.int 1 u],[]⟩) (λ_ R s=>s.heap.get? l=yz Qi0/\R (.ok (.ret (.ref l))) s):=
 .of_wp λprog w A R s Qy1=>by obtain⟨L,g,d,tk,os⟩:=s;have f1:=AutoSeq1.idx_int;have f2:=Vgq;wp_walk using Vcv hl;exact Qf0
theorem Ycj(h0:¬ (decide QQ3||decide Q53)=yx)(h1:¬ Q63=yx)(h2:(decide Qp6||items.isEmpty)=yx):
  Meets Qp0 (λ_ R s=>s.heap.get? l=yz Qi0/\R QO4 {s with heap:=s.heap.push {cls:=.type "tuple",data:=.seq #[]} }):=
 .of_wp λprog w A R s Qy1=>by obtain⟨L,g,d,tk,os⟩:=s;have f1:=AutoSeq1.idx_int;have f2:=Vgq;wp_walk using Vcv hl;refine wpAny_ite_false QE3 ?_;wp_walk using Vcv hl;exact Qf0
theorem Yck(h0:¬ (decide QQ3||decide Q53)=yx)(h1:¬ Q63=yx)(h2:¬ (decide Qp6||items.isEmpty)=yx)(L:¬ (items.size:Int)*k>(2^63-1)/8)
  (h4:¬ Viy (items.size*k)=yx) (h5:Qz0.size<=V3):
  Meets Qp0 (λ_ R s=>s.heap.get? l=yz Qi0/\R QO4 {s with heap:=s.heap.push {cls:=.type "tuple",data:=.seq Qz0} }):=
 .of_wp λprog w A R s Qy1=>by obtain⟨hp,g,d,tk,os⟩:=s;have f1:=AutoSeq1.idx_int;have f2:=Vgq;wp_walk using Vcv hl;refine wpAny_ite_false QE3 ?_;wp_walk using Vcv hl;refine wpAny_ite_false (decide_eq_false L) ?_;wp_walk using Vcv hl;exact Qf0
universe e
section
variable{E:VP}{s:Vc}
theorem Xl3(its:LV):∀(m:Nat) (acc:LV),Vh0 (λx1 x2=>x1++x2) acc.toArray (Vj m its.toArray)=(acc++(Vj m its).flatten).toArray
 |0=>λacc=>by simp|m+1=>λacc=>by rw[Vay,Vbv,List.append_toArray,Xl3 its m];simp[Vay]
theorem X2v(ht:Vc8 s.heap t vs.toArray)(hv:vs≠[])(hk:-QY1<k)(af:k<1048576)(hz:QN1*k.toNat<=1000000)
  (h1:k=1->Q Q62 s) (h2:k≠1->Q Q8 {s with heap:=s.heap.push {cls:=.type "tuple",data:=.seq (Vj k.toNat vs).flatten.toArray} }):
  Vh Q4 A Ql1 Q E s:=by
 obtain⟨⟨cls,dd,data,sl⟩,L,hc,n,hd⟩:=id ht;simp only at hc hd;subst hc hd;have ez:(vs.toArray.isEmpty)=false:=by cases vs with|nil=>exact aB0 rfl hv|cons _ _=>rfl
 have h0:¬ (decide QQ3||decide Q53)=true:=by simp;omega
 have go:∀ {S:PySem.Spec},Meets (Vbt.«tuple.__mul__» ⟨[.ref t,.int k u],[]⟩) S->S A (wants Q E) s->Vh Q4 A Ql1 Q E s:=λg hS=>
  Vi7 (T:="tuple") (U:="int") Qh0 Qg0 (λs'=>typeIs_int s' k u) Yev PySem.F.fills_int_mul PySem.F.slot_int_rmul Yew PySem.F.slot_int_index.lookup
   (Vei PySem.F.slot_int_rmul (typeIs_int s k u) PySem.F.entry_int_rmul (PySem.F.args_int_rmul_2 _ _) (Xuv k u t vs.toArray n dd sl)
    ⟨L,rfl,Qg0,Vei PySem.F.slot_tuple_mul Qg0 PySem.F.entry_tuple_mul (PySem.F.args_tuple_mul_2 _ _) g hS⟩)
 by_cases e1:k=1;·subst e1;exact go (Yci t vs.toArray n dd sl u) ⟨L,h1 rfl⟩
 ·have aa:¬ (vs.toArray.isEmpty||k==1)=true:=by rw[ez];simpa using e1
  by_cases e0:k<=0
  ·refine go (Ycj t vs.toArray n dd sl k u h0 aa (by simp[e0])) QC6;have:=h2 e1;have e2:k.toNat=0:=by omega
   rw[e2]at this;exact this
  have ef:=Xl3 vs k.toNat [];rw[Uw]at ef;have hl:(Vj k.toNat vs).flatten.length=k.toNat*ll vs:=Xj9 vs k.toNat;have ac:QN1*k.toNat<=V3:=V2 hz Qh0;have ae:(ll vs:Int)*k<=1000000:=by
   have ab:(k.toNat:Int)=k:=by omega
   rw[<-ab,<-Ve5];exact Int.ofNat_le.mpr hz
  refine go (Yck t vs.toArray n dd sl k u h0 aa (by rw[ez];simpa using e0) ?_ ?_ ?_) QC6;·rw[Vo];omega
  ·rw[Vo];unfold Viy;have:(1000000:Int)<=(V3:Int):=by decide
   intro hh;have hh:=oD0 hh;omega
  ·rw[show Qu6=([]:LV).toArray from rfl,ef,Vo,hl,Vfo];exact ac
  rw[show Qu6=([]:LV).toArray from rfl,ef];exact h2 e1
universe e
universe Z
universe e
section
namespace Z
open PySem PySem.Spec PyProof.Rows L2
section
variable{X:Cx}{pc:LA}{σ:L2.St}{H:Hp}{s:Vc}{ρ:LR}{S:Sto}{env:En}{Q:VP}{E:VP}
mutual
theorem Xqr(I:S0 X pc σ H s ρ S env)(hl:∀n p a,look n=yz p->ρ[n]?=yz a->∃as,Reads s.heap Qn p as/\∀b∈as,b∈ρ):
  ∀(d:D) (v:V) (u:Vb) (p:Vdd),X5 look d=yz p->RD X.K ρ H d v->RelV v u->∃as,Reads s.heap u p as/\∀b∈as,b∈ρ
 |.non=>λv u p h rd L=>by simp only[X5,Vr]at h;simp only[RD]at rd;subst h rd;cases L;exact⟨_,.none,λ_ z=>nomatch z⟩|.bl b=>λv u p h rd L=>by simp only[X5,Vr]at h;simp only[RD]at rd;subst h rd;cases L;exact⟨_,.bool b,λ_ z=>nomatch z⟩|.int i=>λv u p h rd L=>by simp only[X5,Vr]at h;simp only[RD]at rd;subst h rd;obtain⟨t,rfl⟩:=L;exact⟨_,.int i t,λ_ z=>nomatch z⟩|.str i=>λv u p h rd L=>by simp only[X5,Vr]at h;simp only[RD]at rd;subst h rd;obtain⟨t,rfl⟩:=L;exact⟨_,.str i t,λ_ z=>nomatch z⟩|.fro _=>λv u p h rd L=>by simp only[X5]at h;cases h|.fn _ _=>λv u p h rd L=>by cases h|.tup xs=>λv u p h rd L=>by
  simp only[X5]at h;cases e:datFs look xs with
  |none=>rw[e]at h;cases h|some ps=>rw[e]at h;cases h;simp only[RD]at rd;obtain⟨a,vs,rfl,ht,hs⟩:=rd;cases L;obtain⟨its,r,⟨o,ho,hc,n,hd⟩,hz⟩:=I.inv.tuple ht;obtain⟨as,q,qm⟩:=reads_Fs I hl xs vs its ps e hs r;exact⟨_,.tuple ho hc hd (by simpa using q),qm⟩
 |.ref n=>λv u p h rd L=>by simp only[X5]at h;simp only[RD]at rd;obtain⟨a,rfl,ha⟩:=rd;cases L;exact hl n p a h ha
theorem reads_Fs(I:S0 X pc σ H s ρ S env)(hl:∀n p a,look n=yz p->ρ[n]?=yz a->∃as,Reads s.heap Qn p as/\∀b∈as,b∈ρ):
  ∀(ds:LD) (vs:LW) (us:LV) (ps:List Vdd),datFs look ds=yz ps->RDs X.K ρ H ds vs->Vals vs us->∃as,ReadsAll s.heap us ps as/\∀b∈as,b∈ρ
 |[]=>λvs us ps h rd rv=>by simp only[datFs,Vr]at h;simp only[RDs]at rd;subst h rd;cases rv;exact⟨_,.nil,λ_ z=>nomatch z⟩|d::ds=>λvs us ps h rd rv=>by
  simp only[datFs]at h;simp only[RDs]at rd;obtain⟨v,r,rfl,h1,h2⟩:=rd;cases L:X5 look d with
  |none=>rw[L]at h;cases h|some p=>
   cases e2:datFs look ds with
   |none=>rw[L,e2]at h;cases h|some ab=>
    rw[L,e2]at h;cases h;cases rv with
    |cons ru ac=>obtain⟨as,q,qm⟩:=Xqr I hl d v _ p L h1 ru;obtain⟨bs,q2,aa⟩:=reads_Fs I hl ds r _ ab e2 h2 ac;exact⟨_,.cons q q2,λb hb=>(V9.mp hb).elim (qm b) (aa b)⟩
end
theorem Xqs(I:S0 X pc σ H s ρ S env):∀(k n:Nat) (p:Vdd) (a:Addr),Xao S k n=yz p->ρ[n]?=yz a->∃as,Reads s.heap Qn p as/\∀b∈as,b∈ρ
 |0=>λn p a h ha=>by simp only[Xao]at h;cases h|k+1=>λn p a h ha=>by
  simp only[Xao]at h;cases e:S[n]? with
  |none=>rw[e]at h;cases h|some o=>
   rw[e]at h;have q:=I.sr.ob n a o ha e;cases o with
   |lst xs=>
    dsimp only at h;cases e2:datFs (Xao S k) xs with
    |none=>rw[e2]at h;cases h|some ps=>rw[e2]at h;cases h;obtain⟨vs,hv,hr⟩:=q;obtain⟨_,its,n',r,ho⟩:=I.inv.hok a _ hv;obtain⟨as,z,zm⟩:=reads_Fs I (Xqs I k) xs vs its ps e2 hr r;exact⟨_,.list ho rfl rfl (by simpa using z),λb hb=>Qn5.elim Qx3 (zm b)⟩
   |dct kvs=>
    rcases q with⟨rfl,hv⟩|⟨h0,_⟩
    case inr=>
     cases kvs with
     |nil=>cases h0 rfl|cons _ _=>cases h
    cases h;obtain⟨_,_,vs,r,ob,es,ep,ho,hx,hd,hh⟩:=I.inv.hok a _ hv;cases r;have L:es.toList=[]:=by
     have z:=hh.2.1;cases q:es.toList with
     |nil=>rfl|cons x r=>rw[q]at z;cases z
    refine⟨_,.dict (kvs:=[]) (as:=[]) (bs:=[]) ho hx.1 hd ?_ ?_,λb hb=>Qn5.elim Qx3 Q92⟩;·rw[L];exact .nil
    ·rw[L];exact .nil|fdc _=>cases h|exc _=>cases h
theorem Xns(I:S0 X pc σ H s ρ S env)(h:Xas S d=yz p)(rd:RD X.K ρ H d v)(L:RelV v u):∃as,Reads s.heap u p as/\∀b∈as,b∈ρ:=
 Xqr I (Xqs I 4) d v u p h rd L
theorem Xgo(I:S0 X pc σ H s ρ S env)(h:Xas S d=yz p)(rd:RD X.K ρ H d v)(L:RelV v u):∃as,Reads s.heap u p as:=
 let ⟨as,r,_⟩:=Xns I h rd L
 ⟨as,r⟩
theorem Xuw(I:S0 X pc σ H s ρ S env)(L:∃o,X.K.lookup Vb0=yz o)(h:Xas S d=yz p)(rd:RD X.K ρ H d v)(rv:RelV v u):∃as,Reads s.heap u p as/\Vb0 ∉ as:=by obtain⟨as,r,hm⟩:=Xns I h rd rv;refine⟨as,r,λhb=>?_⟩;obtain⟨o,ho⟩:=L;obtain⟨w,hw,_⟩:=I.sr.mem (hm _ hb);have:=(I.inv.bs _ _ (I.inv.mod.kin _ _ ho)).2;rw[hw]at this;cases this
theorem Xo(sr:SR X.K ρ S H)(J:Inv X pc σ H s'):OkP X pc σ ρ H (.ok Qi5 S) (.bool r) s':=.mk (v:=.bl r) .refl J rfl Q9 sr
theorem Xad(sr:SR X.K ρ S H)(J:Inv X pc σ H s'):OkP X pc σ ρ H (.ok Qa1 S) Qq5 s':=.mk (v:=.int i) .refl J QA Q9 sr
theorem Xi1(sr:SR X.K ρ S H)(J:Inv X pc σ H s'):OkP X pc σ ρ H (.ok (.str x) S) (.str x t) s':=.mk (v:=.str x) .refl J QA Q9 sr
theorem Yex(h:(a&&b&&c)=yx):a=yx/\b=yx/\c=true:=by rw[bA0,bA0]at h;exact⟨h.1.1,h.1.2,h.2⟩
theorem Xl4(h:Xdw x y=yz r):∃a b,x=.str a/\y=.str b/\r=(a.cps.toList==b.cps.toList):=by
 cases x with
 |str a=>cases y with
  |str b=>exact⟨a,b,rfl,rfl,QL4.symm⟩|_=>cases h
 |_=>cases h
theorem Xux(h:Xkc S x y=yz r):∃a b xs ys,x=.ref a/\y=.ref b/\Xc S a=yz xs/\Xc S b=yz ys/\QM1≠ll ys/\r=false:=by
 cases x with
 |ref a=>cases y with
  |ref b=>
   simp only[Xkc]at h;cases L:Xc S a with
   |none=>rw[L]at h;cases h|some xs=>
    cases e2:Xc S b with
    |none=>rw[L,e2]at h;cases h|some ys=>
     rw[L,e2]at h;dsimp only at h;split at h;·cases h
     ·cases h;exact⟨a,b,xs,ys,rfl,rfl,L,e2,by assumption,rfl⟩
  |_=>cases h
 |_=>cases h
theorem Xnt(h0:eqD S x y=yz r)(hn:Xdw x y=yy):(∃p q,Xas S x=yz p/\Xas S y=yz q/\p.canLay0=yx/\q.canLay0=yx/\p.depth<=60/\r=Ve4 p q)\/Xkc S x y=yz r:=by
 have h:=h0;unfold eqD at h;rw[hn]at h;dsimp only at h;cases L:Xas S x with
 |none=>rw[L]at h;exact .inr h|some p=>
  cases e2:Xas S y with
  |none=>rw[L,e2]at h;exact .inr h|some q=>
   rw[L,e2]at h;dsimp only at h;split at h;·rename_i hc;obtain⟨h1,h2,h3⟩:=Yex hc;exact .inl ⟨p,q,rfl,rfl,h1,h2,oD0 h3,QL4.symm⟩
   ·exact .inr h
theorem S0.lstM(I:S0 X pc σ H s ρ S env)(h:lstM S n=yz xs):∃a vs,ρ[n]?=yz a/\H a=yz Q30/\RDs X.K ρ H xs vs:=I.list h
theorem S0.lstR(I:S0 X pc σ H s ρ S env)(h:Z.lstM S n=yz xs)(r:RD X.K ρ H Q25 v):∃a vs,v=.ref a/\ρ[n]?=yz a/\H a=yz Q30/\RDs X.K ρ H xs vs:=by simp only[RD]at r;obtain⟨a,e,h1⟩:=r;obtain⟨a',vs,h2,h3,L⟩:=I.lstM h;rw[h1]at h2;cases h2;exact⟨a,vs,e,h1,h3,L⟩
theorem Xnu(I:S0 X pc σ H s ρ S env)(h:Xkc S x y=yz r)(rx:RD X.K ρ H x v)(rv:RelV v u)(ry:RD X.K ρ H y v')(ru:RelV v' u'):
  r=yw/\∃a b its its',u=.ref a/\u'=.ref b/\s.heap.IsList a its/\s.heap.IsList b its'/\(its.size != its'.size)=true:=by
 obtain⟨n,m,xs,ys,rfl,rfl,h1,h2,ab,rfl⟩:=Xux h;obtain⟨a,vs,rfl,ha,aa,ra⟩:=I.lstR h1 rx;obtain⟨b,us,rfl,hb,L,rb⟩:=I.lstR h2 ry;cases rv;cases ru;obtain⟨_,i1,n1,q1,o1⟩:=I.inv.hok a _ aa;obtain⟨_,i2,n2,q2,o2⟩:=I.inv.hok b _ L;refine⟨rfl,a,b,i1.toArray,i2.toArray,rfl,rfl,⟨_,o1,rfl,_,rfl⟩,⟨_,o2,rfl,_,rfl⟩,?_⟩;have e1:(ll i1)=ll xs:=by rw[ra.length];exact q1.length.symm
 have e2:(ll i2)=ll ys:=by rw[rb.length];exact q2.length.symm
 simp only[Vo,bne_iff_ne,ne_eq];omega
theorem Yey(hu:X.A.units+200<Vbh):Op2 X (Vbc .Eq) (Xh .eq):=by
 intro pc s σ H ρ S env x y v u v' u' E I nb L rv ry ru;obtain⟨r,e,e2⟩:=Xgn nb;rw[e2];cases hn:Xdw x y with
 |some r'=>
  obtain⟨a,b,rfl,rfl,hr⟩:=Xl4 hn;have er:r=r':=by have e':eqD S QW6 QV6=yz r:=e;unfold eqD at e';rw[hn]at e';exact Qi6.symm
  subst er hr;simp only[RD]at L ry;subst L ry;obtain⟨t,rfl⟩:=rv;obtain⟨t',rfl⟩:=ru;exact PySem.P.eq_str Q2|none=>
 rcases Xnt e hn with⟨p,q,h1,h2,h3,h4,h5,rfl⟩|hl
 rotate_left
 ·obtain⟨rfl,a,b,i1,i2,rfl,rfl,l1,l2,l3⟩:=Xnu I hl L rv ry ru;exact SeqAt.RcAt.lists_lengths l1 l2 l3 Q7 X.prog X.w E _ Q2
 obtain⟨as,ra⟩:=Xgo I h1 L rv;obtain⟨bs,rb⟩:=Xgo I h2 ry ru;exact SeqAt.rcAt_reads ra rb h3 h4 Q7 X.prog X.w E _ Q2
theorem Yez(hu:X.A.units+200<Vbh):Op2 X (Vbc .NotEq) (Xh .ne):=by
 intro pc s σ H ρ S env x y v u v' u' E I nb L rv ry ru;obtain⟨r,e,e2⟩:=Xgn nb;rw[e2];simp only[X0,Ud]at e;obtain⟨r',e,rfl⟩:=e;cases hn:Xdw x y with
 |some r2=>
  obtain⟨a,b,rfl,rfl,hr⟩:=Xl4 hn;have er:r'=r2:=by have e':eqD S QW6 QV6=yz r':=e;unfold eqD at e';rw[hn]at e';exact Qi6.symm
  subst er hr;simp only[RD]at L ry;subst L ry;obtain⟨t,rfl⟩:=rv;obtain⟨t',rfl⟩:=ru;exact PySem.P.ne_str Q2|none=>
 rcases Xnt e hn with⟨p,q,h1,h2,h3,h4,h5,rfl⟩|hl
 rotate_left
 ·obtain⟨rfl,a,b,i1,i2,rfl,rfl,l1,l2,l3⟩:=Xnu I hl L rv ry ru;exact SeqAt.RcNeAt.lists_lengths l1 l2 l3 Q7 X.prog X.w E _ Q2
 obtain⟨as,ra⟩:=Xgo I h1 L rv;obtain⟨bs,rb⟩:=Xgo I h2 ry ru;exact SeqAt.rcNeAt_reads ra rb h3 h4 Q7 X.prog X.w E _ Q2
theorem Xb0{f:D->D->Sto->R D}{q:Vb->Vb->Sem Vb}(hf:∀x y S,f x y S≠.bad->∃i j,x=.int i/\y=.int j)
  (hi:∀ {pc s σ H ρ S env i j t t' E},S0 X pc σ H s ρ S env->f Qa1 Qf3 S≠.bad->Vh Q0 X.A (q Qq5 (.int j t')) (OkP X pc σ ρ H (f Qa1 Qf3 S)) E s):Op2 X q f:=by
 intro pc s σ H ρ S env x y v u v' u' E I L rx rv ry ru;obtain⟨i,j,rfl,rfl⟩:=hf x y S L;simp only[RD]at rx ry;subst rx ry;obtain⟨t,rfl⟩:=rv;obtain⟨t',rfl⟩:=ru;exact hi I L
theorem Ye0:Op2 X (Vbc .LtE) (Xh .le):=Xb0 Q1 λI L=>le_int Q2
theorem Ye1:Op2 X (Vbc .GtE) (Xh .ge):=Xb0 Q1 λI L=>ge_int Q2
theorem Yp:∀ {xs:LD} {ns:LI},Xi xs=yz ns->xs=ns.map D.int
 |[],ns,h=>by simp only[Xi,Vr]at h;subst h;rfl|.int i::r,ns,h=>by simp only[Xi,Ud]at h;obtain⟨ms,h1,rfl⟩:=h;rw[Yp h1];rfl|.non::_,_,h=>by simp[Xi]at h|.bl _::_,_,h=>by simp[Xi]at h|.str _::_,_,h=>by simp[Xi]at h|.tup _::_,_,h=>by simp[Xi]at h|.ref _::_,_,h=>by simp[Xi]at h|.fro _::_,_,h=>by simp[Xi]at h
theorem Ye2(hu:X.A.units+200<Vbh):Op2 X (Vbc .Lt) (Xh .lt):=by
 intro pc s σ H ρ S env x y v u v' u' E I L rx rv ry ru;cases x with
 |int i=>cases y with
  |int j=>simp only[RD]at rx ry;subst rx ry;obtain⟨t,rfl⟩:=rv;obtain⟨t',rfl⟩:=ru;exact lt_int Q2|_=>cases L rfl
 |tup xs=>cases y with
  |tup ys=>
   simp only[Xh,X0,ltD]at L ⊢;cases e1:Xi xs with
   |none=>rw[e1]at L;cases L rfl|some a=>
    cases e2:Xi ys with
    |none=>rw[e1,e2]at L;cases L rfl|some b=>have q1:=Yp e1;have q2:=Yp e2;subst q1;subst q2;simp only[RD]at rx ry;obtain⟨b1,al,rfl,aa,ac⟩:=rx;obtain⟨b2,aj,rfl,ae,af⟩:=ry;have ah:=ac.ints_of;have ab:=af.ints_of;subst ah;subst ab;cases rv;cases ru;obtain⟨ai,u1,u2,_⟩:=I.inv.tuple aa;obtain⟨ak,u3,u4,_⟩:=I.inv.tuple ae;exact Xqq Q7 u2 u4 QL6 QK6 Q2
  |_=>cases L rfl
 |_=>cases L rfl
theorem Ye3(hu:X.A.units+200<Vbh):Op2 X (Vbc .Gt) (Xh .gt):=by
 intro pc s σ H ρ S env x y v u v' u' E I L rx rv ry ru;cases x with
 |int i=>cases y with
  |int j=>simp only[RD]at rx ry;subst rx ry;obtain⟨t,rfl⟩:=rv;obtain⟨t',rfl⟩:=ru;exact gt_int Q2|_=>cases L rfl
 |tup xs=>cases y with
  |tup ys=>
   simp only[Xh,X0,ltD]at L ⊢;cases e1:Xi ys with
   |none=>rw[e1]at L;cases L rfl|some a=>
    cases e2:Xi xs with
    |none=>rw[e1,e2]at L;cases L rfl|some b=>have q1:=Yp e1;have q2:=Yp e2;subst q1;subst q2;simp only[RD]at rx ry;obtain⟨b1,al,rfl,aa,ac⟩:=rx;obtain⟨b2,aj,rfl,ae,af⟩:=ry;have ah:=ac.ints_of;have ab:=af.ints_of;subst ah;subst ab;cases rv;cases ru;obtain⟨ai,u1,u2,_⟩:=I.inv.tuple aa;obtain⟨ak,u3,u4,_⟩:=I.inv.tuple ae;exact X2u Q7 u2 u4 QL6 QK6 Q2
  |_=>cases L rfl
 |_=>cases L rfl
theorem X2w:Op2 X (Vbc .IsNot) (Xh .isnot):=by
 intro pc s σ H ρ S env x y v u v' u' E I nb L rv ry ru;cases y with
 |non=>
  simp only[RD]at ry;subst ry;cases ru;cases x with
  |non=>simp only[RD]at L;subst L;cases rv;exact Vam rfl Q2|bl b=>simp only[RD]at L;subst L;cases rv;exact Vam rfl Q2|int b=>simp only[RD]at L;subst L;obtain⟨t,rfl⟩:=rv;exact Vam rfl Q2|str b=>simp only[RD]at L;subst L;obtain⟨t,rfl⟩:=rv;exact Vam rfl Q2|tup b=>simp only[RD]at L;obtain⟨a,_,rfl,_⟩:=L;cases rv;exact Vam rfl Q2|fro b=>simp only[RD]at L;obtain⟨a,_,rfl,_⟩:=L;cases rv;exact Vam rfl Q2|ref b=>simp only[RD]at L;obtain⟨a,rfl,_⟩:=L;cases rv;exact Vam rfl Q2|fn _ _=>simp only[RD]at L;obtain⟨a,rfl,_⟩:=L;cases rv;exact Vam rfl Q2
 |bl c=>
  simp only[RD]at ry;subst ry;cases ru;cases x with
  |non=>simp only[RD]at L;subst L;cases rv;exact Vam rfl Q2|bl b=>
   simp only[RD]at L;subst L;cases rv;refine isnot_bool ?_;have e:(b != c)=(c != b):=by cases b<;>cases c<;>rfl
   rw[e];exact Xo I.sr I.inv|int b=>simp only[RD]at L;subst L;obtain⟨t,rfl⟩:=rv;exact Vam rfl Q2|str b=>simp only[RD]at L;subst L;obtain⟨t,rfl⟩:=rv;exact Vam rfl Q2|tup b=>simp only[RD]at L;obtain⟨a,_,rfl,_⟩:=L;cases rv;exact Vam rfl Q2|fro b=>simp only[RD]at L;obtain⟨a,_,rfl,_⟩:=L;cases rv;exact Vam rfl Q2|ref b=>simp only[RD]at L;obtain⟨a,rfl,_⟩:=L;cases rv;exact Vam rfl Q2|fn _ _=>simp only[RD]at L;obtain⟨a,rfl,_⟩:=L;cases rv;exact Vam rfl Q2
 |_=>cases nb rfl
theorem Xgp(L:X.A.units+200<Vbh):∀op:Co,Op2 X QS2 Qb5
 |.eq=>Yey L|.ne=>Yez L|.lt=>Ye2 L|.le=>Ye0|.gt=>Ye3 L|.ge=>Ye1|.isin=>λ_ _ _ _ _ _ _ _ _ _ _ _ _ _ _ nb=>aB0 rfl nb|.notin=>λ_ _ _ _ _ _ _ _ _ _ _ _ _ _ _ nb=>aB0 rfl nb|.isnot=>X2w
theorem Xyd{ws:LV}(ht:Vc8 s.heap t #[])(hb:Vc8 s.heap b ws.toArray)(h:Q Q45 s):Vh Q4 A (Vds .Add Q62 Q45) Q E s:=by
 obtain⟨⟨cls,dd,ah,sl⟩,ho,hc,n,hd⟩:=id ht;obtain⟨⟨af,ac,data2,ae⟩,ab,aa,n2,L⟩:=id hb;simp only at hc hd aa L;subst hc hd aa L;exact concat_meets ⟨_,ho,rfl⟩ ⟨_,ab,rfl⟩ noFill_tuple_add seq_tuple_add Vhc Vg7 (Vgl _ _)
   (tuple_addW0 t b #[] ws.toArray n n2 dd ac sl ae rfl) ⟨ho,ab,h⟩
theorem Ycl:Op2 X (Vds .Add) (Xw .add):=by
 intro pc s σ H ρ S env x y v u v' u' E I L rx rv ry ru;cases x with
 |int i=>cases y with
  |int j=>simp only[RD]at rx ry;subst rx ry;obtain⟨t,rfl⟩:=rv;obtain⟨t',rfl⟩:=ru;exact add_int Q80|_=>cases L rfl
 |tup xs=>cases y with
  |tup ys=>
   simp only[Xw]at L ⊢;split at L
   ·rename_i hz;rw[iP0 hz];have af:=rx;have aj:=ry;simp only[RD]at rx ry;obtain⟨a,vs,rfl,s1,r1⟩:=rx;obtain⟨b,us,rfl,s2,r2⟩:=ry;cases rv;cases ru;obtain⟨i1,q1,p1,z1⟩:=I.inv.tuple s1;obtain⟨i2,q2,p2,z2⟩:=I.inv.tuple s2;have ab:=r1.length;have aa:=r2.length;have ae:=q1.length;have ac:=q2.length;by_cases hx:xs=[]
    ·subst hx;have:vs=[]:=by simpa [RDs] using r1
     subst this;cases q1;refine Xyd p1 p2 ?_;exact .mk (v:=.ref b) .refl I.inv rfl aj I.sr
    refine HT.cat_tup p1 p2 (λz=>hx ?_) Qv5 Qv5 ?_;·subst z;simp at ae;rw[ae]at ab;simpa using ab
    ·have:ys=[]:=by subst z;simp at ac;rw[ac]at aa;simpa using aa
     subst this;rw[Vu];exact .mk (v:=.ref a) .refl I.inv rfl af I.sr
    ·refine Xcy (I.inv.laid (t':=s.toks) (o:=.tup QF6) QZ3 Qy ?_) QG3 I.sr (r1.append r2);exact⟨by rw[V4,<-ab,<-aa];exact Xbb hz,_,q1.append q2,IsTup.new _ _⟩
    rw[<-ae,<-ac,<-ab,<-aa];exact Xbb hz
   cases L rfl|_=>cases L rfl
 |ref n=>cases y with
  |ref m=>
   simp only[Xw]at L ⊢;cases h1:Z.lstM S n with
   |none=>rw[h1]at L;cases L rfl|some xs=>
    cases h2:Z.lstM S m with
    |none=>rw[h1,h2]at L;cases L rfl|some ys=>
     rw[h1,h2]at L;dsimp only at L ⊢;split at L
     ·rename_i hz;rw[iP0 hz];obtain⟨a,vs,rfl,ha,ah,ra⟩:=I.lstR h1 rx;obtain⟨b,us,rfl,hb,ai,rb⟩:=I.lstR h2 ry;exact opd (Q':=λz H'=>∃p,H p=yy/\z=.ref p/\H'=upd H p (.lst QF6)) X6q I.inv rv ru ⟨a,b,vs,us,rfl,rfl,ah,ai,by rw[<-ra.length,<-rb.length];exact Xbb hz,λp hp=>Qv3⟩
       λw s' z H' J rz QR4=>by subst z1 z2;cases rz;exact Xbc J hp I.sr (ra.append rb)
     cases L rfl
  |_=>cases L rfl
 |_=>cases L rfl
theorem Ycm:Op2 X (Vds .Sub) (Xw .sub):=Xb0 Q1 λI L=>sub_int Q80
theorem Xqt(h:i.natAbs.log2<100000):Builtin.Int.intBits i<=2^20:=by
 unfold Builtin.Int.intBits;split;·exact Ub _
 ·omega
theorem Xnv(h:Yt i j=yx):IntMulOk i j:=by
 simp only[Yt,Vcb,bA0,decide_eq_true_eq]at h;rcases h with h|h;·have:CMul i j:=h;exact this.ok
 ·exact IntMulOk.of_bits (Xqt h.1) (Xqt h.2)
theorem Ycn:Op2 X (Vds .Mult) (Xw .mul):=by
 intro pc s σ H ρ S env x y v u v' u' E I L rx rv ry ru;cases x with
 |int i=>cases y with
  |int j=>
   simp only[RD]at rx ry;subst rx ry;obtain⟨t,rfl⟩:=rv;obtain⟨t',rfl⟩:=ru;simp only[Xw]at L ⊢;split at L;·rename_i hz;rw[iP0 hz];exact mul_int Q80 (Xnv hz)
   ·cases L rfl|_=>cases L rfl
 |tup xs=>cases y with
  |int k=>
   simp only[Xw]at L ⊢;split at L
   ·rename_i hz;rw[iP0 hz];have ac:=rx;simp only[RD]at rx ry;subst ry;obtain⟨a,vs,rfl,s1,r1⟩:=rx;cases rv;obtain⟨t',rfl⟩:=ru;obtain⟨i1,q1,p1,z1⟩:=I.inv.tuple s1;have aa:=r1.length;have ab:=q1.length;have af:i1≠[]:=λz=>by
     subst z;have:xs=[]:=Vid (by rw[aa,ab];rfl);subst this;exact aB0 hz.2.2.2 QS
    refine X2v p1 af hz.2.2.1 hz.1 (by rw[<-ab,<-aa];exact hz.2.1) Qw5 Qw5
    ·subst e;have e1:(Vj (1:Int).toNat xs).flatten=xs:=by simp
     rw[e1];exact .mk (v:=.ref a) .refl I.inv rfl ac I.sr
    have hr:∀m:Nat,RDs X.K ρ H (Vj m xs).flatten (Vj m vs).flatten:=λm=>by
     induction m with
     |zero=>simpa using RDs.nil|succ m ih=>rw[Vay,Vay,Va3,Va3];exact r1.append ih
    refine Xcy (I.inv.laid (t':=s.toks) (o:=.tup Qk0.flatten) QZ3 Qy ?_) QG3 I.sr (hr _);exact⟨by rw[Xj9,<-aa,Vfo];exact Xbb hz.2.1,_,q1.rep _,IsTup.new _ _⟩
   cases L rfl|_=>cases L rfl
 |ref n=>cases y with
  |int k=>
   simp only[Xw]at L ⊢;cases h1:Z.lstM S n with
   |none=>rw[h1]at L;cases L rfl|some xs=>
    rw[h1]at L;dsimp only at L ⊢;split at L
    ·rename_i hz;rw[iP0 hz];obtain⟨a,vs,rfl,ha,ae,ra⟩:=I.lstR h1 rx;simp only[RD]at ry;subst ry;have hr:RDs X.K ρ H (Vj k.toNat xs).flatten Qk0.flatten:=by
      induction k.toNat with
      |zero=>simpa using RDs.nil|succ m ih=>rw[Vay,Vay,Va3,Va3];exact ra.append ih
     exact opd (Q':=λz H'=>∃p,H p=yy/\z=.ref p/\H'=upd H p (.lst Qk0.flatten)) X6r I.inv rv ru
      ⟨a,k,vs,rfl,rfl,ae,by omega,by omega,by rw[<-ra.length];exact Xbb hz.2.1,λp hp=>Qv3⟩
      λw s' z H' J rz QR4=>by subst z1 z2;cases rz;exact Xbc J hp I.sr hr
    cases L rfl
  |_=>cases L rfl
 |_=>cases L rfl
theorem X7n:Op2 X (Vds .FloorDiv) (Xw .fdiv):=Xb0 Q1 λI L=>by
 simp only[Xw]at L ⊢;split at L;·rename_i j hz;rw[iP0 hz];simp only[Yw,bA0,decide_eq_true_eq]at hz;exact floordiv_int Q7 (by rw[Int.fdiv_eq_ediv_of_nonneg _ Q7];exact Xad I.sr Q05) (.inl (PyProof.noPylong_of_log2 hz.2))
 ·cases L rfl
theorem Yco:Op2 X (Vds .Mod) (Xw .mod):=Xb0 Q1 λI L=>by
 simp only[Xw]at L ⊢;split at L;·rename_i hz;rw[iP0 hz];exact mod_int' Q7 (by rw[Int.fmod_eq_emod_of_nonneg _ Q7];exact Xad I.sr Q05)
 ·cases L rfl
theorem Ycp:Op2 X (Vds .Pow) (Xw .pow):=Xb0 Q1 λI L=>by
 simp only[Xw]at L ⊢;split at L;·rename_i hz;rw[iP0 hz];exact pow_int_small hz.1 Q7 Q7 Q80
 ·cases L rfl
theorem Ycq:∀op:Bo,Op2 X Qb4 Qg6
 |.add=>Ycl|.sub=>Ycm|.mul=>Ycn|.fdiv=>X7n|.mod=>Yco|.pow=>Ycp
universe e
theorem X7o(n:Nat)(i:Int):Z.ixN n i=L2.ixN n i:=rfl
section
variable{X:Cx}{pc:LA}{σ:L2.St}{H:Hp}{s:Vc}{ρ:LR}{S S':Sto}{env:En}{Q:VP}{E:VP}{a b c e:Expr}{f fa fb fc:En->Sto->R D}{pos:Pos}
theorem X7p(r:RDs X.K ρ H xs vs)(h:QJ1=yz d):∃v,atI vs k=yz v/\RD X.K ρ H d v:=by
 cases e:Z.ixN QM1 k with
 |none=>rw[e]at h;cases h|some j=>rw[e]at h;obtain⟨v,h1,h2⟩:=r.get (i:=j) (d:=d) h;refine QP5;show((L2.ixN QN1 k).bind λj=>vs[j]?)=yz v;rw[<-r.length];rw[X7o]at e;rw[e];exact h1
theorem Ycr(hs:Xj8 b):Op2 X (Vf8 a b) Y8:=by
 intro pc s σ H ρ S env x y v u v' u' E I nb rx rv ry ru;unfold Y8 at nb ⊢;cases e:Xap x y S with
 |none=>rw[e]at nb;cases nb rfl|some d=>
  cases y with
  |int k=>
   simp only[RD]at ry;subst ry;have L:∀ {r:R2} (hr:IxR QE1 r) (z:V),r v QZ6 H (λz' H'=>z'=z/\H'=H)->RD X.K ρ H d z->Vh Q0 X.A QI4 Q42 E s:=λ{r} hr z h1 h2=>thn (hr a b pc s σ H v QZ6 v' u' _ Qx0 rv ru h1 (hs _ _)) λw s' ⟨z',H',J,rz,e1,e2⟩=>by subst e1 e2;exact .mk .refl J.unwish rz h2 I.sr
   have seq:∀xs,Xp S x=yz xs->QJ1=yz d->Vh Q0 X.A QI4 Q42 E s:=λxs h1 h2=>by
    obtain⟨p,vs,rfl,hq,hr⟩:=I.seq h1 rx;obtain⟨z,hz,rz⟩:=X7p hr h2;rcases hq with hq|hq;·exact L X2h z QR1 rz
    ·exact L X6p z QR1 rz
   cases x with
   |str _=>simp[Xap,Xp]at e|tup xs=>exact seq xs rfl QQ2|fro xs=>exact seq xs rfl QQ2|ref n=>
    simp only[Xap,Xp]at e;cases e1:Xc S n with
    |none=>rw[e1]at e;cases e|some xs=>rw[e1]at e;exact seq xs e1 e
   |non=>simp[Xap,Xp]at e|bl _=>simp[Xap,Xp]at e|int _=>simp[Xap,Xp]at e|fn _ _=>simp[Xap,Xp]at e
  |_=>simp[Xap]at e
theorem Ycs(hs:Xj8 b)(ha:DE X a fa)(hb:DE X b fb):DE X (.Subscript a b pos) (λenv S=>QE.bind λx S=>Qi.bind λy S=>Y8 x y S):=
 λpc s σ H ρ S env I L=>Subscript_ (two (Ycr hs) ha hb I L rfl)
noncomputable def spD(K:Ve)(n:Nat)(F:LD->Sto->R D):Sp:=λvs H Q E=>∃ds ρ S,ll vs=n/\RDs K ρ H ds vs/\SR K ρ S H/\F ds S≠.bad /\
 (∀d S' v H' ρ',F ds S=.ok d S'->RD K ρ' H' d v->SR K ρ' S' H'->Stp K ρ ρ' H H'->Q v H') /\
 ∀n c S' a H' ρ',F ds S=.ex n S'->ρ'[n]?=yz a->S'[n]?=yz Q75->SR K ρ' S' H'->Stp K ρ ρ' H H'->E Qn yy H'
noncomputable def CXd(P:Ue)(w:Uy):CXT:=λouter H s E e s'=>∃H',s'.os=s.os/\AllBare s'.gens/\Un (frs outer) [] H H' s.heap s'.heap/\HOk P w H' s'.heap/\(∃a,e=.ref a/\Trc .none (λT=>s.heap.get? T=yy) H' a s'.heap)/\E e yy H'
structure RoomC(cm:Bool)(k:Nat)(A:U7):Prop where
 gd:A.guards=yz []
 hd:cm=yx->A.handled=yy
 dp:A.depth+3*k+5<Vii
 un:A.units+16*k+200<Vbh
theorem RoomC.of(r:Room k A):RoomC cm k A:=⟨r.gd,λ_=>r.hd,r.dp,r.un⟩
theorem RoomC.less(r:RoomC cm k A)(h:cm2=yx->cm=yx):RoomC cm2 k A:=⟨r.gd,λz=>r.hd (h z),r.dp,r.un⟩
theorem RoomC.deeper(r:RoomC cm (k+1) A)(env:Vbk):RoomC cm k (A.deeper env):=
 ⟨r.gd,r.hd,by have:=r.dp;show A.depth+1+3*k+5<_;omega,by have:=r.un;show A.units+3+16*k+200<_;omega⟩
theorem RoomC.mark(r:RoomC cm k A):RoomC yw k (A.mark h):=⟨r.gd,Q92,r.dp,r.un⟩
structure FnD(cm:Bool)(P:Ue)(w:Uy)(K:Ve)(mg:Str->OV)(base:Heap)(k:Nat)(f:Addr)(fd:Vd5)(ps:LS)(F:LD->Sto->R D):Prop where
 run:∀(A:U7) (outer:List Vbk) (s:Vc) (H:Hp) (args:Args) (us:LV) (vs:LW) (Q:VK) (E:XK),RoomC cm k A->Env0 P w K mg base A outer s H->BindsTo s fd args QU5->Vals vs us->spD K Qe6 F vs H Q E ->
  Vdh (Vk P w) A (.call (.ref f) args) (CR QN4 outer P w H s Q E) s
theorem X1n(G:FnD cm X.prog X.w X.K X.mg X.base k g fd ps F)(hr:RoomC cm k X.A)(hb:Binds X.K fd ps [])
  (I:S0 X pc σ H s ρ S env) (rv:Vals vs us) (rd:RDs X.K ρ H ds vs) (hl:QW5=ll ps) (nb:F ds S≠.bad):
  Vh Q0 X.A (call Q35 us) (OkP X pc σ ρ H QT6) (ExP X pc σ ρ H QT6) s:=by
 have aa:QN1=ll ps:=by rw[<-rd.length];exact hl
 have ac:BindsTo s fd Qt5 QU5:=by have:=hb s us I.inv.kIn (by rw[Vu,<-rv.length];exact aa);rwa [Vu]at this
 have ae:spD X.K Qe6 F vs H (λv H'=>∃d S' ρ',F ds S=.ok d S'/\RD X.K ρ' H' d v/\SR X.K ρ' S' H'/\Stp X.K ρ ρ' H H')
   (λe _ H'=>∃n c S' a ρ',F ds S=.ex n S'/\e=.ref a/\ρ'[n]?=yz a/\S'[n]?=yz Q75/\SR X.K ρ' S' H'/\Stp X.K ρ ρ' H H'):=
  ⟨ds,ρ,S,aa,rd,I.sr,nb,λd S' v H' ρ' h1 h2 h3 L=>⟨d,S',ρ',h1,h2,h3,L⟩,λn c S' a H' ρ' h1 h2 h3 L h5=>⟨n,c,S',a,ρ',h1,rfl,h2,h3,L,h5⟩⟩
 refine wpAny_call (Vgm (G.run X.A X.stack s H Qt5 us vs _ _ hr I.inv.env0 ac rv ae) λr s' hq=>?_);cases r with
 |error e=>
  obtain⟨H',os,bare,un,hok,⟨a',h0,tr⟩,n,c,S',a,ρ',h1,h2,h3,L,h5,h6⟩:=hq;refine⟨n,S',h1,H',ρ',a,c,I.inv.call' os un hok bare (λb z=>aB0 z QS),h2,h3,L,h5,h6,.inr ⟨_,.inl rfl,?_⟩⟩;rw[h2]at h0;cases h0;refine tr.imp λT hT=>QJ3
  ·by_cases hx:T∈X.ex;·exact .inl hx
   ·cases q:X.s₀.heap.get? T with
    |none=>exact .inr rfl|some o=>obtain⟨o',e⟩:=I.inv.base.there T o q hx;rw[hT]at e;cases e
  have:=(I.inv.pin p hp).1;rw[z,hT]at this;cases this|ok fl=>
  cases fl with
  |ret u=>obtain⟨v,H',J,ab,d,S',ρ',h1,h2,h3,L⟩:=I.inv.after hq;exact⟨d,S',h1,v,H',ρ',J,ab,h2,h3,L⟩|next=>exact Ve6 hq|brk=>exact Ve6 hq|cont=>exact Ve6 hq
theorem X7q(G:FnD cm X.prog X.w X.K X.mg X.base k g fd ps F)(hr:RoomC cm k X.A)(hb:Binds X.K fd ps [])
  (hg:Gl X x) (hm:X.mg x=yz Q35) (hk:Vdt X.K Q35=yx) (ha:DA X QY5 ga) (hl:∀env S ds S',ga env S=.ok ds S'->ll ds=ll ps)
  (ac:Qc2=yw) (he:Ui QY5 X.env=(yw,eval e X.env)::Ui es X.env) (aa:QO.any Qk4=yw):
  DE X (.Call (.Name x p) QY5 [] pos) (λenv S=>(ga env S).bind λxs S=>F xs S):=by
 intro pc s σ H ρ S env I L;dsimp only at L ⊢;refine Vbx (Xd5 I.inv hg hm ?_ ac);cases q:ga env S with
 |bad=>rw[q]at L;cases L rfl|ex n S1=>exact Vgr (h₀:=X.base) I.inv.ok.mod.kin hk Qd2 he aa|ok ds S1=>rw[q]at L;simp only[Rk0]at L ⊢;refine Vgr (h₀:=X.base) I.inv.ok.mod.kin hk (ha.ok I q λus s1 vs H1 ae I1 rv rd ab=>⟨I1.inv.kIn,?_⟩) he aa;exact Vp (X1n G hr hb I1 rv rd (hl env S ds S1 q) L) (λu s2 z=>z.pre ab) λx s2 z=>z.pre ab
def FlP(X:Cx)(pc:LA)(σ:L2.St)(ρ:LR)(H:Hp)(na:Bool)(S':Sto)(s':Vc):Fl->Flow->Prop
 |.nx e,fl=>fl=.next/\∃ L H' ρ',S0 X pc L H' s' ρ' S' e/\Stp X.K ρ ρ' H H'/\Qp4|.brk e,fl=>fl=.brk/\∃ L H' ρ',S0 X pc L H' s' ρ' S' e/\Stp X.K ρ ρ' H H'|.rt d,fl=>∃u v L H' ρ',fl=.ret u/\Inv X pc L H' s'/\RelV v u/\RD X.K ρ' H' d v/\SR X.K ρ' S' H'/\Stp X.K ρ ρ' H H'
def OkS(X:Cx)(pc:LA)(σ:L2.St)(ρ:LR)(H:Hp)(na:Bool)(r:R Fl)(fl:Flow)(s':Vc):Prop:=∃x S',r=.ok x S'/\FlP X pc σ ρ H na S' s' x fl
def ExS(X:Cx)(pc:LA)(σ:L2.St)(ρ:LR)(H:Hp)(na:Bool)(r:R Fl)(e:Vb)(s':Vc):Prop:=∃n S' L,r=.ex n S'/\Qp4/\XPd X pc L ρ H n S' e s'
def DS(X:Cx)(st:Stmt)(na:Bool)(f:En->Sto->R Fl):Prop:=
 ∀(pc:LA) (s:Vc) (σ:L2.St) (H:Hp) (ρ:LR) (S:Sto) (env:En),S0 X pc σ H s ρ S env->f env S≠.bad ->
  Vh Q0 X.A (exec st X.env) Qf2 Qi2 s
def DSs(X:Cx)(st:LM)(na:Bool)(f:En->Sto->R Fl):Prop:=
 ∀(pc:LA) (s:Vc) (σ:L2.St) (H:Hp) (ρ:LR) (S:Sto) (env:En),S0 X pc σ H s ρ S env->f env S≠.bad ->
  Vh Q0 X.A Qz3 Qf2 Qi2 s
theorem FlP.pre{x:Fl}{fl:Flow}{s':Vc}{ab:L2.St}{ρ':LR}{H':Hp}{na na':Bool}(st:Stp X.K ρ ρ' H H')(hn:na'=yx->na=yx/\ab=σ)(h:FlP X pc ab ρ' H' na S' s' x fl):FlP X pc σ ρ H na' S' s' x fl:=by
 cases x with
 |nx e=>obtain⟨h1,L,H2,aa,h2,h3,h4⟩:=h;exact⟨h1,L,H2,aa,h2,st.trans h3,λz=>(h4 QF5.1).trans QF5.2⟩|brk e=>obtain⟨h1,L,H2,aa,h2,h3⟩:=h;exact⟨h1,L,H2,aa,h2,st.trans h3⟩|rt d=>obtain⟨u,v,L,H2,aa,h1,h2,h3,h4,h5,h6⟩:=h;exact⟨u,v,L,H2,aa,h1,h2,h3,h4,h5,st.trans h6⟩
theorem OkS.pre{r:R Fl}{fl:Flow}{s':Vc}{L:L2.St}{ρ':LR}{H':Hp}{na na':Bool}(st:Stp X.K ρ ρ' H H')(hn:na'=yx->na=yx/\L=σ)(h:OkS X pc L ρ' H' na r fl s'):OkS X pc σ ρ H na' r fl s':=by obtain⟨x,S1,e,h⟩:=h;exact⟨x,S1,e,h.pre st hn⟩
theorem ExS.of(st:Stp X.K ρ ρ' H H')(h:XPd X pc σ ρ' H' n S' x s')(e:r=.ex n S'):ExS X pc σ ρ H na r x s':=⟨n,S',σ,e,λ_=>rfl,h.pre st⟩
theorem ExS.pre{na na':Bool}{L:L2.St}{r:R Fl}{x:Vb}{s':Vc}{ρ':LR}{H':Hp}(st:Stp X.K ρ ρ' H H')(hn:na'=yx->na=yx/\L=σ)(h:ExS X pc L ρ' H' na r x s'):ExS X pc σ ρ H na' r x s':=by obtain⟨n,S1,aa,e,h1,h2⟩:=h;exact⟨n,S1,aa,e,λz=>(h1 QF5.1).trans QF5.2,h2.pre st⟩
variable{st:Stmt}{rest sa sb:LM}{g g2:En->Sto->R Fl}{na na2:Bool}
theorem DS.weak(h:DS X st na g)(L:na2=yx->na=yx):DS X st na2 g:=λpc s σ H ρ S env I nb=>Vp QY (λ_ _ z=>z.pre .refl λq=>QQ5) λ_ _ z=>z.pre .refl λq=>QQ5
theorem dss_nil:DSs X [] yx (λenv S=>.ok QC2 S):=λpc s σ H ρ S env I _=>Vh4 ⟨.nx env,S,rfl,rfl,σ,H,ρ,I,.refl,λ_=>rfl⟩
theorem Xye(h1:DS X st na g)(h2:DSs X rest na2 g2):DSs X (st::rest) Qy5 (λenv S=>match g env S with | .ok (.nx e) S'=>g2 e S'|r=>r):=by
 intro pc s σ H ρ S env I nb;dsimp only at nb ⊢;refine wpAny_execs_cons ?_;cases q:g env S with
 |bad=>rw[q]at nb;cases nb rfl|ex n S1=>
  refine Vp Q32 Q84 λx s1 z=>?_;·obtain⟨x,S2,e,_⟩:=z;rw[q]at e;cases e
  ·rw[q]at z;exact z.pre .refl λw=>⟨by rw[bA0]at w;exact w.1,rfl⟩|ok x S1=>
  rw[q]at nb;refine Vp Q32 Q84 λx s1 z=>?_
  ·obtain⟨y,S2,e,z⟩:=z;rw[q]at e;cases e;cases x with
   |nx e=>obtain⟨rfl,aa,H1,L,I1,ab,ac⟩:=z;exact Vp (h2 pc s1 aa H1 L S1 e I1 nb) (λfl s2 z=>z.pre ab λw=>by rw[bA0]at w;exact QP4) λx s2 z=>z.pre ab λw=>by rw[bA0]at w;exact QP4|brk e=>obtain⟨rfl,aa,H1,L,I1,ab⟩:=z;exact⟨.brk e,S1,rfl,rfl,aa,H1,L,I1,ab⟩|rt d=>obtain⟨u,v,aa,H1,L,rfl,r⟩:=z;exact⟨.rt d,S1,rfl,u,v,aa,H1,L,rfl,r⟩
  obtain⟨k,S2,ae,e,_⟩:=z;rw[q]at e;cases e
theorem ds_brk:DS X (.Break pos) yw (λenv S=>.ok (.brk env) S):=λpc s σ H ρ S env I _=>wpAny_Break ⟨.brk env,S,rfl,rfl,σ,H,ρ,I,.refl⟩
theorem X2x(he:DE X e f)(hs:Vgs e yy pos.line X.env=pure yw):DS X (.Expr e pos) yx (λenv S=>QR.bind λ_ S=>.ok QC2 S):=by
 intro pc s σ H ρ S env I L;dsimp only at L ⊢;cases q:f env S with
 |bad=>rw[q]at L;cases L rfl|ex n S1=>exact wpAny_Expr_any Q10 I.inv.quiet hs|ok d S1=>exact wpAny_Expr_any (he.ok I q λu s' v H' ρ' J rv rd st=>⟨.nx env,S1,rfl,rfl,σ,H',ρ',J,st,λ_=>rfl⟩) I.inv.quiet hs
theorem Xuy(he:DE X e f):DS X (.Return (yz e) pos) yx (λenv S=>QR.bind λx S=>.ok (.rt x) S):=by
 intro pc s σ H ρ S env I L;dsimp only at L ⊢;cases q:f env S with
 |bad=>rw[q]at L;cases L rfl|ex n S1=>exact wpAny_Return_some Q10|ok d S1=>exact wpAny_Return_some (he.ok I q λu s' v H' ρ' J rv rd st=>⟨.rt d,S1,rfl,u,v,σ,H',ρ',rfl,J.inv,rv,rd,J.sr,st⟩)
theorem Yct(hc:DT X c Q40)(ha:DSs X sa na g)(hb:DSs X sb na2 g2):
  DS X (.If c sa sb pos) Qy5 (λenv S=>QC0.bind λx S=>match Xe S x with|some yx=>g env S|some yw=>g2 env S|none=>.bad):=by
 intro pc s σ H ρ S env I L;dsimp only at L ⊢;cases q:fc env S with
 |bad=>rw[q]at L;cases L rfl|ex n S1=>exact wpAny_If (hc.ex I Qc λx s' z=>.of .refl z rfl)|ok x S1=>
  rw[q]at L;simp only[Rk0]at L ⊢;cases t:Xe S1 x with
  |none=>rw[t]at L;cases L rfl|some r=>
   rw[t]at L;refine wpAny_If QH0;cases r with
   |true=>exact Vp QN0 (λw s3 z=>z.pre aa λw=>by rw[bA0]at w;exact QO5) λx s' z=>z.pre aa λw=>by rw[bA0]at w;exact QO5|false=>exact Vp QM0 (λw s3 z=>z.pre aa λw=>by rw[bA0]at w;exact QN5) λx s' z=>z.pre aa λw=>by rw[bA0]at w;exact QN5
theorem X7r(hN:X.N.Nodup)(hi:X.N[i]?=yz x)(hx:Loc X.env.scope x)(hf:X.fn x=yx\/X.env.scope.names.lookup x=yz .local)(he:DE X e f)(hs:Vgs e (yz (.Name x pos')) pos.line X.env=pure yw):
  DS X (.Assign [.Name x pos'] e pos) yw (λenv S=>QR.bind λx S=>match Xn Qe3 x env with|some env=>.ok QC2 S|none=>.bad):=by
 intro pc s σ H ρ S env I L;dsimp only at L ⊢;cases q:f env S with
 |bad=>rw[q]at L;cases L rfl|ex n S1=>exact wpAny_Assign_Name Q10 hs|ok d S1=>refine wpAny_Assign_Name (he.ok I q λu s' v H' ρ' J rv rd st=>?_) hs;exact Xbi J.inv hN hi hx rv (λs2 I2=>⟨.nx QC4,S1,rfl,rfl,_,H',ρ',⟨I2,J.sr,J.er.set i rd⟩,st,λz=>nomatch z⟩) hf
theorem Xcc{b:Addr}{u:HO}(x:ObjOk P w H h b u):∃o,h.get? b=yz o:=by
 cases u with
 |lst xs=>obtain⟨_,_,_,_,e⟩:=x;exact QJ0|tup xs=>obtain⟨_,_,_,o,e,_⟩:=x;exact QJ0|dK kvs=>obtain⟨_,_,_,_,o,_,_,e,_⟩:=x;exact QJ0|dT kvs=>obtain⟨_,_,_,_,o,_,_,e,_⟩:=x;exact QJ0|set S n=>obtain⟨o,_,_,_,e,_⟩:=x;exact QJ0|ins C dx fs=>obtain⟨_,_,_,e,_⟩:=x;exact QJ0|own y=>exact x|xd fs=>obtain⟨_,⟨_,_,_,e,_⟩,_⟩:=x;exact QJ0|rng lo hi=>obtain⟨_,_,_,e⟩:=x;exact QJ0|frz ob u=>obtain⟨e,_⟩:=x;exact QJ0|tbl ps=>obtain⟨_,e,_⟩:=x;exact QJ0|met f y=>exact⟨_,(show h.get? b=yz _ from x)⟩|ext L=>exact x.2.1
theorem Xdy{h g g':Heap}:∀ {l:List Vbk},h.FunFrames g l->(∀b∈frs l,g'.get? b=yy)->h.FunFrames g' l
 |[],_,_=>trivial|env::r,⟨hk,⟨L,o,hf,_,ho,hd⟩,hr⟩,k=>by
  have e:frs (env::r)=L::frs r:=by unfold frs;rw[Vat,hf]
  rw[e]at k;exact⟨hk,⟨L,o,hf,k L Qb1,ho,hd⟩,Xdy hr λb hb=>k b Qw1⟩
structure Hid(X:Cx)(H':Hp)(a:Addr)(h:Heap)(l:LR):Prop where
 er:a∈l
 fr:∀b∈frs X.stack,b∈l
 of:∀b∈l,b=a\/b∈frs X.stack\/(H' b=yy/\∃o vs,h.get? b=yz o/\o.data=.fields vs)
theorem Xqu{pc:LA}{σ:L2.St}{a C:Addr}{l:LR}(I:Inv X pc σ H' s')(ha:H' a=yz Qf)(hl:Hid X H' a s'.heap l)
  (keep:∀b o,s'.heap.get? b=yz o->b ∉ l->h'.get? b=yz o) (he:ExcO C a h'):HOk X.prog X.w H' h':=by
 have out:∀b u,b≠a->H' b=yz u->b ∉ l:=λb u hb q hm=>by
  rcases hl.of b hm with z|z|⟨z,_⟩;·exact hb z
  ·rw[I.stkFree b z]at q;cases q
  rw[z]at q;cases q
 intro b u q;by_cases hb:b=a;·subst hb;rw[ha]at q;cases q;exact he.ok
 ·refine(I.hok b u q).stay (λc v L e=>?_) (λ_ z=>z) λ_ _ _ z=>z;rcases L with rfl|L;·exact keep c v e (out c u hb q)
  ·exact keep c v e (out c _ (λz=>by rw[z,ha]at L;cases L) L)
theorem Inv.fly{X:Cx}{pc:LA}{σ:L2.St}{H:Hp}{s:Vc}{a:Addr}(I:Inv X pc σ H s)(ha:H a=yz Qf)(hl:Hid X H a s.heap l)
  (aa:∀b∈l,b≠a->b ∉ frs X.stack->Xkg X pc b) (k1:(Vcu s.heap l).StaysIn h') (k4:s.heap.UpToSlots h') (he:ExcO C a h'):
  Inv X pc σ H QM:=by
 have keep:∀b o,s.heap.get? b=yz o->b ∉ l->h'.get? b=yz o:=λb o e hb=>k1 b o QK5;have af:∀b∈frs X.stack,∃o,s.heap.get? b=yz o/\∀vs,o.data≠.fields vs:=λb hb=>(I.stack.mem hb).2;have ac:∀b o,X.s₀.heap.get? b=yz o->b≠X.env.locals:=λb o e=>Uq Qw2;have L:∀x c,X.env.cells.lookup x=yz c->∀v,s.heap.IsCell c v->h'.IsCell c v:=λx c e v ⟨o,ho,hd⟩=>by
  obtain⟨sl,q⟩:=k4 c o ho λvs z=>by rw[hd]at z;cases z
  exact⟨_,q,hd⟩
 refine⟨I.ok,I.os,I.bare,⟨λb o e n hb hx=>?_,λb o e n hb hx=>?_,λb o e n hx=>I.base.free b o e n hx,λb o e hx=>?_,I.base.tups,I.base.frzs,I.base.tbls⟩,?_,λx c e=>?_,I.free,I.freeC,λp hp=>?_,Xqu I ha hl keep he,I.len⟩
 ·refine keep b o (I.base.keep b o e n hb hx) λhm=>?_;have fb:=I.base.free b o e n hx;by_cases h1:b=a;·rw[h1,ha]at fb;cases fb
  ·by_cases h2:b∈frs X.stack
   ·rcases V0.mp (I.stkSub b h2) with z|z;·exact ac b o e z
    ·exact hb z
   rcases QE4.1 with z|z;·exact hx z
   ·rw[z]at e;cases e
 ·obtain⟨sl,e1⟩:=I.base.slot b o e n hb hx;obtain⟨_,o',e',nd⟩:=I.funs.mem hb;rw[e1]at e';cases e';obtain⟨ab,e2⟩:=k4 b _ e1 nd;exact⟨ab,e2⟩
 ·obtain⟨o',e1⟩:=I.base.there b o e hx;by_cases hm:b∈l
  ·by_cases h1:b=a;·subst h1;obtain⟨oe,_,_,q,_⟩:=he;exact⟨_,q⟩
   ·by_cases h2:b∈frs X.stack;·obtain⟨o2,e2,nd⟩:=af b h2;rw[e1]at e2;cases e2;obtain⟨sl,e3⟩:=k4 b _ e1 nd;exact⟨_,e3⟩
    ·rcases QE4.1 with z|z;·exact aB0 z hx
     ·rw[z]at e;cases e
  exact Qz2
 ·obtain⟨m,hn,ae⟩:=I.loc;refine⟨m,k4.ns hn,λi x v e1 e2 e3=>?_⟩;obtain⟨u,r,lk⟩:=ae i x v e1 e2 e3;refine⟨u,r,?_⟩;rcases lk with lk|⟨kd,c,e,z⟩;·exact .inl lk
  ·exact .inr ⟨kd,c,e,L x c e _ z⟩
 ·obtain⟨v,z⟩:=I.cell x c e;exact⟨v,L x c e v z⟩
 ·obtain⟨e,n,ne,nf,d⟩:=I.pin p hp;refine⟨keep p.1 p.2 e λhm=>?_,n,ne,nf,d⟩;by_cases h1:p.1=a;·rw[h1,ha]at n;cases n
  ·by_cases h2:p.1∈frs X.stack
   ·rcases V0.mp (I.stkSub p.1 h2) with z|z;·exact ne z
    ·exact nf z
   exact(aa p.1 hm h1 h2).2 p hp rfl
theorem Xh2{X:Cx}{pc:LA}{σ:L2.St}{H':Hp}{s':Vc}{a C:Addr}{Q:Unit->Vc->Prop}{E:VP}(I:Inv X pc σ H' s')(hs:X.stack=X.env::X.outer)(hf:X.env.frame=yz X.env.locals)
  (ha:H' a=yz Qf) (fl:Fly X pc H' a s'.heap)
  (hQ:∀l h2 a0,Hid X H' a s'.heap l->(∀b∈l,b≠a->b ∉ frs X.stack->Xkg X pc b)->Heap.HeldW QK4 QV0 a Q55 a0 X.env.locals h2->s'.heap.UpToSlots h2->Q () {s' with heap:=h2}):
  Vh Q0 X.A (noteFrame Qn X.env) Q E s':=by
 have hA:X.A.frames=yz QV0:=by rw[<-hs];exact I.ok.frames
 have hI:=I.stack;obtain⟨⟨oa,va,a0,ea,ca,da,v0,vz⟩,_,_⟩:=(show ObjOk X.prog X.w H' s'.heap a Qf from I.hok a _ ha);rcases fl with⟨oe,vs,e1,e2,e3⟩|⟨fl,hfl,oe,vs,T,oT,ts,e1,e2,e3,e4,e6,e7,e8,e9,e10⟩
 ·have hid:Hid X H' a s'.heap Q14:=⟨.head _,λb hb=>.tail _ hb,λb hb=>by
   rcases V0.mp hb with z|z;·exact .inl z
   ·exact .inr Qt2⟩
  rw[ea]at e1;cases e1;rw[da]at e2;cases e2;unfold noteFrame;simp only[hf];refine Va (Var ea da e3 ?_);rw[iN0 Qh0];refine wpAny_entryW (base:=Vcu s'.heap Q14) hA (by rw[<-hs];exact Xdy hI λb hb=>Vb1 _ Qw1) hf ea (λb o e=>Vgk _ e) (Vb1 _ Qb1) da vz v0 λh2 ⟨k1,k2,k3,k4⟩=>?_
  rw[ca]at k3;exact hQ _ h2 a0 hid (λb hb h1 h2=>by
   rcases V0.mp hb with z|z;·exact aB0 z h1
   ·exact aB0 z h2) ⟨k1,Vb1 _ Qb1,k2,k3⟩ k4
 ·have hid:Hid X H' a s'.heap QP1:=⟨.head _,λb hb=>.tail _ Qw1,λb hb=>by
   rcases V0.mp hb with z|z;·exact .inl z
   ·rcases V0.mp z with z|z;·subst z;exact .inr (.inr ⟨e7,oT,ts,e8,e9⟩)
    ·exact .inr Qt2⟩
  have L:∀b∈a::T::frs X.stack,b≠a->b ∉ frs X.stack->Xkg X pc b:=λb hb h1 h2=>by
   rcases V0.mp hb with z|z;·exact aB0 z h1
   ·rcases V0.mp z with z|z;·subst z;exact e4
    ·exact aB0 z h2
  rw[ea]at e1;cases e1;rw[da]at e2;cases e2;have fr:s'.heap.FunFrames Qt3 QV0:=by rw[<-hs];exact Xdy hI λb hb=>Vb1 _ (.tail _ Qw1)
  have tr:s'.heap.TracedAtW Qt3 a Q55 a0 fl:=⟨oa,va,T,oT,ts,ea,⟨ca,v0⟩,da,e3,Vb1 _ (.tail _ Qb1),e6,e8,e9,e10⟩;rcases hfl with rfl|rfl;·exact wpAny_looks_onW hA hf Q51 λh2 aa ab=>hQ _ h2 a0 hid L aa ab
  ·exact wpAny_noteFrame_againW hf tr (hQ _ s'.heap a0 hid L Q51 (.refl _))
theorem X2y{X:Cx}{pc:LA}{σ:L2.St}{H':Hp}{s':Vc}{a C:Addr}{Q:Unit->Vc->Prop}{E:VP}(I:Inv X pc σ H' s')(hs:X.stack=X.env::X.outer)(hf:X.env.frame=yz X.env.locals)(hx:X.ex=[])
  (ha:H' a=yz Qf) (fl:Fly X pc H' a s'.heap)
  (hQ:∀h',Un X.fs [] X.H₀ H' X.s₀.heap h'->HOk X.prog X.w H' h'->Trc .none (λT=>X.s₀.heap.get? T=yy) H' a h'->Q () Qi3):Vh Q0 X.A (leaving X.env Qn) Q E s':=by
 have aa:frs X.stack=X.env.locals::X.fs:=by rw[hs];unfold frs;rw[Vat,hf];rfl
 have hA:X.A.frames=yz QV0:=by rw[<-hs];exact I.ok.frames
 have hI:=I.stack;have fin:∀(l:LR) (h':Heap) (a0:Vb),Hid X H' a s'.heap l->(∀b∈l,b≠a->b ∉ frs X.stack->X.s₀.heap.get? b=yy)->Heap.LeftW QK4 QV0 a Q55 a0 s'.heap h'->Q () Qi3:=by
  intro l h' a0 hl L k0;obtain⟨k1,k2,⟨oe,vs,T,oT,ts,t1,⟨t2,t3⟩,t4,t5,t6,t7,t8,t9,t10⟩,k4⟩:=k0;have keep:∀b o,s'.heap.get? b=yz o->b ∉ l->h'.get? b=yz o:=λb o e hb=>k1 b o QK5;have ac:∀b∈frs X.stack,∃o,s'.heap.get? b=yz o/\∀vs,o.data≠.fields vs:=λb hb=>(hI.mem hb).2;have ab:∀b∈frs X.stack,∀o,s'.heap.get? b=yz o->∃sl,h'.get? b=yz {o with slots:=sl}:=λb hb o e=>by obtain⟨o',e',nd⟩:=ac b hb;rw[e]at e';cases e';exact k4 b o e nd
  have af:∀b o,X.s₀.heap.get? b=yz o->b≠X.env.locals:=λb o e=>Uq Qw2;have nx:∀b:Addr,b ∉ X.ex:=λb z=>by rw[hx]at z;cases z
  have hT:∀o,s'.heap.get? T=yz o->T∈l:=λo e=>by
   by_cases hm:T∈l;·exact hm
   ·rw[Veu l e hm]at t6;cases t6
  have nT:T ∉ frs X.stack:=λhm=>by obtain⟨o,e,nd⟩:=ac T hm;obtain⟨sl,e'⟩:=ab T hm o e;rw[t8]at e';cases e';exact nd ts t9
  refine hQ h' ⟨λb o e n hb _=>?_,λb o e n hb _=>?_,λb o e n _=>I.base.free b o e n QB4,λb o e _=>?_,I.base.tups,I.base.frzs,I.base.tbls⟩ (Xqu I ha hl keep QD1) ⟨oe,vs,T,oT,ts,t1,t4,t5,?_,t7,?_,t8,t9,t10⟩
  ·refine keep b o (I.base.keep b o e n hb QB4) λhm=>?_;have fb:=I.base.free b o e n QB4;by_cases h1:b=a;·rw[h1,ha]at fb;cases fb
   ·by_cases h2:b∈frs X.stack
    ·rw[aa]at h2;rcases V0.mp h2 with z|z;·exact af b o e z
     ·exact hb z
    rw[L b hm h1 h2]at e;cases e
  ·obtain⟨sl,e1⟩:=I.base.slot b o e n hb QB4;obtain⟨ae,e2⟩:=ab b (by rw[aa];exact .tail _ hb) _ e1;exact⟨ae,e2⟩
  ·obtain⟨o',e1⟩:=I.base.there b o e QB4;by_cases hm:b∈l
   ·by_cases h1:b=a;·subst h1;exact⟨_,t1⟩
    ·by_cases h2:b∈frs X.stack;·obtain⟨sl,e2⟩:=ab b h2 o' e1;exact⟨_,e2⟩
     ·rw[L b hm h1 h2]at e;cases e
   exact Qz2
  ·cases q:X.s₀.heap.get? T with
   |none=>exact q|some o=>obtain⟨o',e1⟩:=I.base.there T o q (nx T);rw[L T Qn3 t7 nT]at q;cases q
  cases q:H' T with
  |none=>rfl|some u=>
   obtain⟨o',e1⟩:=Xcc (I.hok T u q);rcases hl.of T Qn3 with z|z|⟨z,_⟩;·exact aB0 z t7
   ·exact aB0 z nT
   rw[z]at q;cases q
 unfold leaving;refine Va (Xh2 I hs hf ha fl λl h2 a0 hid L hh up=>?_);refine wpAny_setFlight_noneW hh.1 hh.2.2.1 hh.2.2.2 λh' k1 k2 k3 k4=>?_;refine fin l h' a0 hid (λb hb h1 h2=>?_) ⟨k1,k2,k3,λb o e nd=>?_⟩
 ·rcases (L b hb h1 h2).1 with z|z;·rw[hx]at z;cases z
  ·exact z
 ·obtain⟨sl,e2⟩:=up b o e nd;exact⟨sl,k4 b _ e2 nd⟩
noncomputable def cxC(cm:Bool)(P:Ue)(w:Uy)(K:Ve)(mg:Str->OV)(base:Heap)(N:LS)(qual:Str)(scope:U1)(f:Addr)(cd:Vb)(A:U7)(outer:List Vbk)(s:Vc)(H:Hp)(E:XK):Cx:=
 { Xse QN4 P w K mg base N qual scope f cd A outer s H E with calm:=cm}
theorem X7s{cm:Bool}{P:Ue}{w:Uy}{K:Ve}{mg:Str->OV}{base:Heap}{k:Nat}{f:Addr}{name qual:Str}{params:Ve2}{body:LM}{scope:U1}{dV kV al pm aa ct oc:Vb}{an od:Option Addr}
  {aq:Array (OV)} {N ps:LS} {G:En->Sto->R Fl} {na:Bool} (lk:K.lookup f=yz ⟨oc,od,.func QZ0,aq⟩) (av:Vg0 K aa qual=yx) (S:FnScope N ps scope)
  (ai:∀(A:U7) (outer:List Vbk) (s:Vc) (H:Hp) (E:XK),RoomC cm k (A.deeper (envOfC qual scope s.heap.objs.size f aa))->DSs QU body na G):
  FnD cm P w K mg base (k+1) f QZ0 ps (λds S=>if QW5=ll ps then
   match G Q70 S with
   |.ok (.rt v) S=>.ok v S|.ok (.nx _) S=>.ok .non S|.ok _ _=>.bad|.ex n S=>.ex n S
   |.bad=>.bad else .bad):=by
 refine⟨λA outer s H aw us vs Q E hr e0 hb r ar=>?_⟩;obtain⟨ds,ρ,af,hl,rd,sr,nb,hok,ae⟩:=ar;have ak:QW5=ll ps:=by rw[rd.length];exact hl
 dsimp only at nb hok ae;rw[iP0 ak]at nb;simp only[iP0 ak]at hok ae;have KX:K.In s.heap:=e0.mod.kin.keeps λb o e=>Qs4.1;have am:s.heap.NoLimit:=e0.mod.nolimit.keeps λb o e=>Qs4.1;have ah:∀y∈ps.zip us,scope.names.lookup y.1=yz .local\/(scope.names.lookup y.1=yz .cell/\((Vbw Qw scope.names []).lookup y.1).isSome=yx):=λ⟨n,v⟩ hy=>by
  rcases S.par n (List.of_mem_zip hy).1 with q|q;·exact .inl q
  ·exact .inr ⟨q,Vfe _ _ _ (.inl q)⟩
 refine codeAny_call_function (by have:=hr.dp;omega) (KX _ _ lk) rfl S.co S.gen rfl (PySem.W.codeRec_of KX av) (hb _ _ _ _ ?_);refine Viz S.kind ah λenv he s1 x=>?_;subst he;refine⟨am.keeps x.toInCall.keep,codeAny_func ?_⟩;have hD:=ai A outer s H E (hr.deeper _);have ap:Env0 P w K mg base QK3 outer s H:=⟨e0.frames,e0.mod,e0.bs,e0.bsz,e0.funs,e0.frf,e0.hok,e0.bare⟩;have I:Inv QU [] Qq1 H s1:=by have L:Inv (Xse QN4 P w K mg base N qual scope f aa QK3 outer s H E) [] Qq1 H s1:=Xlx S rfl ap hl r x;exact⟨⟨L.ok.mod,L.ok.kind,L.ok.glob,L.ok.blt,L.ok.above,L.ok.inj,L.ok.has,L.ok.cab,(λz=>hr.hd z),L.ok.frames,L.ok.stk,L.ok.exf,L.ok.bs,L.ok.bsz,L.ok.noex,L.ok.exfs,L.ok.funs,L.ok.frf⟩,L.os,L.bare,L.base,L.loc,L.cell,L.free,L.freeC,L.pin,L.hok,L.len⟩
 have J:S0 QU [] Qq1 H s1 ρ af Q70:=by
  refine⟨I,sr,QY3⟩;·unfold L2.start;simp[rd.length,hl]
  ·by_cases hi:i<ll ds
   ·rw[Vv Qo,Vx]at e;cases q:ds[i]? with
    |none=>rw[q]at e;cases e|some d'=>rw[q]at e;cases e;obtain⟨v,h1,h2⟩:=rd.get q;refine QP5;unfold L2.start;rw[Vv (by rw[Vg,<-rd.length];exact hi),Vx,h1];rfl
   rw[Uz Qo,Vdn]at e;split at e<;>cases e
 have ao:G Q70 af≠.bad:=λz=>nb QJ6;refine Vp (hD [] s1 Qq1 H ρ af _ J ao) (λfl s' hs=>?_) λe s' hs=>?_
 ·obtain⟨y,S1,e1,hs⟩:=hs;rw[e1]at nb hok;cases y with
  |nx e=>obtain⟨rfl,aj,H',ρ',J',ab,_⟩:=hs;exact⟨.non,H',J'.inv.os,J'.inv.bare,J'.inv.base,J'.inv.hok,rfl,hok .non S1 .non H' ρ' rfl Q9 J'.sr ab⟩|rt d=>obtain⟨u,v,aj,H',ρ',rfl,J',rv,au,ac,ab⟩:=hs;exact⟨v,H',J'.os,J'.bare,J'.base,J'.hok,rv,hok d S1 v H' ρ' rfl au ac ab⟩|brk e=>cases nb rfl
 ·obtain⟨n,S1,aj,e1,_,H',ρ',a,c,J',rfl,hn,hc,ac,ab,fl⟩:=hs;rw[e1]at ae;obtain⟨C,_,ha⟩:=(show ∃C,Xai K c=yz C/\H' a=yz Qf from ac.ob n a _ hn hc);exact X2y J' rfl rfl rfl ha fl λh' un hok tr=>⟨H',J'.os,J'.bare,un,hok,⟨a,rfl,tr⟩,ae n c S1 a H' ρ' rfl hn hc ac ab⟩
universe e
abbrev RX:List Q90->List Qf4->Prop:=Paired λp q=>p.1=q.1/\p.2.1=q.2.1/\RelV p.2.2 q.2.2
noncomputable def Xdz(xs:List Q90)(k:LI)(b:Addr)(v:V):List Q90:=
 if xs.any Q71 then xs.map (λp=>if p.1=k then (p.1,p.2.1,v) else p) else xs++[(k,b,v)]
section
variable{K:Ve}{ρ:LR}{H:Hp}{kvs:List Qf5}{xs:List Q90}{ys:List Qf4}{k:LI}{b:Addr}{d:D}{v:V}{u:Vb}
theorem X7t(r:DX K ρ H kvs xs)(q:RX xs ys):match X3 kvs k with
  |none=>atKey ys k=yy|some d=>∃c v u,atKey ys k=yz (c,u)/\RelV v u/\RD K ρ H d v:=by
 induction r generalizing ys with
 |nil=>cases q;rfl|@cons p x ps qs h t ih=>
  cases q with
  |@cons _ y _ zs h2 t2=>
   have:=ih t2;obtain⟨L,e2,e3⟩:=h;obtain⟨f1,f2,f3⟩:=h2;by_cases e:p.1=k
   ·have a1:X3 QV5 k=yz p.2:=by simp[X3,e]
    have a2:atKey Qb6 k=yz y.2:=by simp[atKey,<-f1,<-L,e]
    rw[a1];exact⟨_,_,_,a2,f3,e3⟩
   have a1:X3 QV5 k=X3 ps k:=by simp[X3,e]
   have a2:atKey Qb6 k=atKey zs k:=by simp[atKey,<-f1,<-L,e]
   rw[a1,a2];exact this
theorem X2z(r:DX K ρ H kvs xs)(k:LI):xs.any Q71=(X3 kvs k).isSome:=by
 induction r with
 |nil=>rfl|@cons p x ps L h t ih=>
  by_cases e:p.1=k;·simp[X3,<-h.1,e]
  ·have a1:X3 QV5 k=X3 ps k:=by simp[X3,e]
   rw[a1,Vhi,ih,<-h.1];simp[e]
theorem X7u(r:DX K ρ H kvs xs)(hb:SqT K H b Qr4)(hd:RD K ρ H d v):DX K ρ H (Yk kvs k d) QY4:=by
 unfold Yk Xdz;rw[X2z r k];split
 ·rename_i hz;clear hb hz;induction r with
  |nil=>exact .nil|@cons p x ps qs h t ih=>
   rw[Ua,Ua];refine .cons ?_ ih;obtain⟨h1,h2,L⟩:=h;by_cases e:p.1=k;·rw[iP0 e,iP0 Qo3];exact⟨h1,h2,hd⟩
   ·rw[iN0 e,iN0 Q23];exact Qy2
 exact Paired.snoc r ⟨rfl,hb,hd⟩
theorem X20(r:RX xs ys)(k:LI):xs.any Q71=(atKey ys k).isSome:=by
 induction r with
 |nil=>rfl|@cons p x ps L h t ih=>
  by_cases e:p.1=k;·simp[atKey,<-h.1,e]
  ·have a1:atKey (x::L) k=atKey L k:=by simp[atKey,<-h.1,e]
   rw[a1,Vhi,ih];simp[e]
theorem X7v(r:RX xs ys)(L:RelV v u):RX QY4 (storedH ys k b u):=by
 unfold Xdz storedH;rw[X20 r k];split
 ·rename_i hz;clear hz;induction r with
  |nil=>exact .nil|@cons p x ps qs h t ih=>
   rw[Ua,Ua];refine .cons ?_ ih;obtain⟨h1,h2,h3⟩:=h;unfold putAt;by_cases e:p.1=k;·rw[iP0 e,iP0 Qo3];exact Qy2
   ·rw[iN0 e,iN0 Q23];exact Q01
 exact Paired.snoc r ⟨rfl,rfl,L⟩
theorem Xyf:Yk kvs k d≠[]:=by
 unfold Yk;split
 ·rename_i h;cases kvs with
  |nil=>cases h|cons p r=>exact λz=>by cases z
 simp
universe e
section
variable{X:Cx}{pc:LA}{σ:L2.St}{H:Hp}{s:Vc}{ρ:LR}{S:Sto}{env:En}
theorem Xi2{P:Ue}{w:Uy}:∀ {ks:LI} {us:LV},Vals QV4 us->ItemsAre (intKind P w) ks us
 |[],_,r=>by rw[Vbq]at r;cases r;exact .nil|k::ks,_,r=>by
  rw[Ua]at r;cases r with
  |cons h t=>obtain⟨L,rfl⟩:=h;exact .cons (by simp[intKind,Value.isInt]) (Xi2 t)
theorem Xgq(I:Inv X pc σ H s)(h:SqT X.K H b Qr4):QK2.is s.heap k b:=by obtain⟨its,r,⟨o,e,c,n,dt⟩,_⟩:=I.tuple h;exact⟨o,its.toArray,n,e,c,dt,by simpa using Xi2 r⟩
theorem S0.dic(I:S0 X pc σ H s ρ S env)(h:Xbu S n=yz kvs):∃a o xs,ρ[n]?=yz a/\s.heap.get? a=yz o/\Xnq a o xs/\DX X.K ρ H kvs xs/\(Yu S n=yz kvs->Mut (H a)/\∀o u,H a≠yz Qe0):=by
 unfold Xbu at h;unfold Yu;cases e:S[n]? with
 |none=>rw[e]at h;cases h|some ob=>
  rw[e]at h;obtain⟨a,ha,q⟩:=I.sr.adr e;cases ob with
  |lst _=>cases h|exc _=>cases h|fdc kv=>cases h;obtain⟨o,u,xs,h1,_,_,h2,h3⟩:=q;obtain⟨e1,_⟩:=(show ObjOk X.prog X.w H s.heap a Qe0 from I.inv.hok a _ h1);exact⟨a,o,xs,ha,e1,h2,h3,λz=>by simp at z⟩|dct kv=>
   cases h;rcases q with⟨rfl,hv⟩|⟨_,xs,hv,hx⟩
   ·obtain⟨_,hm,vs,r,ob,es,ep,ho,hx,hd,hh⟩:=I.inv.hok a _ hv;cases r;have L:es.toList=[]:=by
     have z:=hh.2.1;cases q:es.toList with
     |nil=>rfl|cons x r=>rw[q]at z;cases z
    exact⟨a,ob,[],ha,ho,⟨hm,Ub _,hx,[],es,ep,.nil,hd,λ_ _=>L,Vg2⟩,.nil,λ_=>Qd0⟩
   obtain⟨⟨o,e1,h2⟩,_,_⟩:=(show ObjOk X.prog X.w H s.heap a (.ext (DicO a xs)) from I.inv.hok a _ hv);exact⟨a,o,xs,ha,e1,h2,hx,λ_=>Qd0⟩
theorem Xsr(I:Inv X pc σ H s)(ho:s.heap.get? a=yz o)(f:Xnq a o xs)(r:DX X.K ρ H kvs xs):∃ys,RX xs ys/\s.heap.DictOfH QK2 a ys:=by
 obtain⟨f1,f2,hx,ys,es,ep,q,hd,L,nd⟩:=f;refine⟨ys,q,o,es,ep,ho,hx,hd,L _ _,?_,nd⟩;clear L nd f2;induction r generalizing ys with
 |nil=>cases q;exact λ_ z=>nomatch z|@cons p x ps qs h t ih=>
  cases q with
  |@cons _ y _ zs h2 t2=>
   intro z hz;rcases V0.mp hz with e|hz;·subst e;rw[<-h2.1,<-h2.2.1,<-h.1];exact Xgq I h.2.1
   ·exact ih zs t2 z hz
theorem Xss:∀ {ds:LD} {ks:LI},Xi ds=yz ks->ds=ks.map D.int
 |[],ks,h=>by cases h;rfl|.int i::r,ks,h=>by simp only[Xi,Ud]at h;obtain⟨L,h1,rfl⟩:=h;rw[Xss h1];rfl|.non::r,ks,h=>by cases h|.bl _::r,ks,h=>by cases h|.str _::r,ks,h=>by cases h|.tup _::r,ks,h=>by cases h|.ref _::r,ks,h=>by cases h|.fro _::r,ks,h=>by cases h|.fn _ _::r,ks,h=>by cases h
theorem X7w{K:Ve}(h:Xi ds=yz ks)(r:RD K ρ H (.tup ds) v):∃b,v=.ref b/\SqT K H b QV4:=by simp only[RD]at r;obtain⟨b,vs,rfl,h1,h2⟩:=r;rw[Xss h]at h2;rw[RDs.ints_of h2]at h1;exact⟨b,rfl,h1⟩
universe e
theorem Xgr{pc:LA}{t':Nat}{fp:LR}(I:Inv X pc σ H s)(hf:∀b∈fp,Xaj X pc H b)
  (k:∀b o,b ∉ fp->s.heap.get? b=yz o->h'.get? b=yz o):Inv X pc σ H {s with heap:=h',toks:=t' }:=by
 have aa:∀b u,H b=yz u->b ∉ fp:=λb u e z=>by rw[(hf b z).1]at e;cases e
 refine I.step (g':=s.gens) (d':=s.drawn) (ch:=fp) (λb hb=>Qs0)
  (λb o _ _ L e _=>k b o L e) (λb o _ _ L e _=>⟨o.slots,k b o L e⟩) (λ_ _ _ _ n=>n)
  (λb o L e=>⟨o,k b o L e⟩) QC5 (λ_ _ _ e=>e) QC5 (λm hm=>?_) (λb u e=>?_) I.bare
 ·obtain⟨o,es,ep,ho,r⟩:=hm;exact⟨o,es,ep,k _ o (λz=>(hf _ z).2.1 rfl) ho,r⟩
 ·refine(I.hok b u e).stay (λc v L q=>k c v ?_ q) (λ_ q=>q) λ_ _ _ q=>q;rcases L with z|z;·rw[z];exact aa b u e
  ·exact aa c _ z
def SqK(k:Bool)(h:Heap)(a:Addr)(xs:AV):Prop:=match k with
 |true=>h.IsList a xs|false=>h.IsTuple a xs
def ItK(k:Bool)(h:Heap)(i a:Addr)(n:Nat):Prop:=match k with
 |true=>h.IsListIter i a n|false=>h.IsTupleIter i a n
def SqH(k:Bool)(K:Ve)(H:Hp)(a:Addr)(vs:LW):Prop:=match k with
 |true=>SqL K H a vs|false=>SqT K H a vs
section
variable{k:Bool}{h h':Heap}{a i:Addr}{n:Nat}
theorem ItK.at(x:ItK k h i a n)(e:∀o,h.get? i=yz o->h'.get? i=yz o):ItK k h' i a n:=by cases k<;>(obtain⟨o,L,r⟩:=x;exact⟨o,e _ L,r⟩)
theorem ItK.obj(x:ItK k h i a n):∃o,h.get? i=yz o/\(o.cls=.type "list_iterator" \/ o.cls=.type "tuple_iterator")/\∀v,o.data≠.cell v:=by
 cases k;·obtain⟨o,e,c,d⟩:=x;exact⟨o,e,.inr c,λv z=>by rw[d]at z;cases z⟩
 ·obtain⟨o,e,c,d⟩:=x;exact⟨o,e,.inl c,λv z=>by rw[d]at z;cases z⟩
universe e
theorem Xkh(I:Inv X pc σ H s)(h:SqH k X.K H a vs):∃its:LV,Vals vs its/\SqK k s.heap a its.toArray:=by
 cases k;·obtain⟨its,L,p,_⟩:=I.tuple h;exact⟨its,L,show s.heap.IsTuple a its.toArray from p⟩
 ·obtain⟨its,L,p,_⟩:=I.list h;exact⟨its,L,p.isList⟩
theorem Xyg(I:Inv X pc σ H s)(h:SqH k X.K H a vs)(h':SqH k X.K H a us):vs=us:=by
 cases k;·exact I.tuple_inj h h'
 ·exact I.list_inj h h'
section
variable{prog:Ue}{w:Uy}{A:U7}{E:VP}{s:Vc}
theorem Xyh(L:s.heap.IsTupleIter it t i)(ht:s.heap.IsTuple t items)(hx:items[i]?=yz x)
  (hQ:∀h',h'.IsTupleIter it t Qn2->Va2 it s.heap h'->Q x QM):Vh Q4 A Q83 Q E s:=by
 obtain⟨o,ho,hc,hd⟩:=id L;obtain⟨ol,aa,_,nl,ab⟩:=ht;unfold Vcc;refine Va Qu;show Vh _ _ QS3 _ _ s;refine Va Qv1;show Vh _ _ (if Qu1=yx then _ else _) _ _ s;rw[iN0 (show ¬ QS6 from U5)];show Vh _ _ QR3 _ _ s;refine Va Qe1;show Vh _ _ Q43 _ _ s;refine Va Qa4;simp only[Us,hx];refine Va (wpAny_setField ho hd QS (Vf ⟨x,rfl,Vf (hQ _ ⟨_,Vbb _ ho (Obj.isFreed_of_fields (Obj.data_mapFields hd _)),(Obj.cls_mapFields ..).trans hc,by rw[Obj.data_mapFields hd];simp[Vcy]⟩ (Vaz ..))⟩))
theorem X21(hh:A.handled=yy)(L:s.heap.IsTupleIter it t i)(ht:s.heap.IsTuple t items)(hx:items[i]?=yy)
  (hE:∀h' e,Heap.ExtBut it s.heap h'->Qn0->E QK QM):Vh Q4 A Q83 Q E s:=by
 obtain⟨o,ho,hc,hd⟩:=id L;obtain⟨ol,aa,_,nl,ab⟩:=ht;unfold Vcc;refine Va Qu;show Vh _ _ QS3 _ _ s;refine Va Qv1;show Vh _ _ (if Qu1=yx then _ else _) _ _ s;rw[iN0 (show ¬ QS6 from U5)];show Vh _ _ QR3 _ _ s;refine Va Qe1;show Vh _ _ Q43 _ _ s;refine Va Qa4;simp only[Us,hx];refine Va (Vba (Va (wpAny_setField ho hd QS ?_)));show Vh _ _ (newExc (.type "StopIteration") [] >>= _) _ _ _;refine Va ?_;simp only[newExc,newTuple];refine Va (Vbo ?_ QH5);refine Va (m:=firstArgMember _ _) (wpAny_of_eq (a:=Vcq) (by first|rfl|(simp only[firstArgMember];rfl)) ?_);refine Vbo ?_ QH5;simp only[raiseNew];refine Va (wpAny_handled ?_)
 first|rw[show A.in1.handled=yy from hh]|rw[hh]
 exact Va (Vf (wpAny_throw (hE _ _ (((Vaz ..).extBut.push _).push _) ⟨_,Vw _ rfl,rfl⟩)))
theorem nxK(L:ItK k s.heap it t i)(ht:SqK k s.heap t items)(hx:items[i]?=yz x)
  (hQ:∀h',ItK k h' it t Qn2->Va2 it s.heap h'->Q x QM):Vh Q4 A Q83 Q E s:=by
 cases k;·exact Xyh L ht hx hQ
 ·exact wpAny_nextOf_list_item L ht hx hQ
theorem Ye4(hh:A.handled=yy)(L:ItK k s.heap it t i)(ht:SqK k s.heap t items)(hx:items[i]?=yy)
  (hE:∀h' e,Heap.ExtBut it s.heap h'->Qn0->E QK QM):Vh Q4 A Q83 Q E s:=by
 cases k;·exact X21 hh L ht hx hE
 ·exact wpAny_nextOf_list_end hh L ht hx hE
noncomputable def Xh3(k:Bool):String:=match k with
 |true => "list_iterator"|false => "tuple_iterator"
theorem X1o(h:SqK k s.heap a xs)(L:Q Q8 {s with heap:=s.heap.push Q3 }):
  Vh Q4 A QT5 Q E s:=by
 cases k;·exact Viv h L
 ·exact Vha h L
theorem X22(e:h.get? i=yz Q3):ItK k h i a 0:=by cases k<;>exact⟨_,e,rfl,rfl⟩
universe e
theorem Xnw{h:Heap}{o u:Obj}{c:Addr}(e:(h.push o).get? c=yz u)(L:c≠h.objs.size):h.get? c=yz u:=by rw[Heap.get?_push_ne h c o L]at e;exact e
section
variable{A:U7}{E:VP}{s:Vc}{a:Addr}
theorem Xuz(h:Q (s.heap.get? a) s):Vh M A (loadIfAlive a) Q E s:=λ_ _ _=>h
universe e
abbrev Xc7(h:Heap)(e it:Addr)(i:Int)(f0 f1 L:Vb):Prop :=
 h.get? e=yz {cls:=.type "enumerate",dict:=yy,data:=.fields #[f0,f1,.ref it,Vcy i,.none,L],slots:=#[]}
def EnA(h:Heap)(e it:Addr)(i:Int):Prop:=∃f0 f1 L,Xc7 h e it i f0 f1 L/\(f0=.none\/∃a:Nat,f0=Vcy a)
structure NSt(k:Bool)(e it a:Addr)(n:Nat)(h:Heap):Prop where
 eo:EnA h e it n
 io:ItK k h it a n
section
variable{prog:Ue}{w:Uy}{A:U7}{E:VP}{s:Vc}{k:Bool}{e it a:Addr}{n:Nat}{xs:AV}{x:Vb}
theorem X7x{i:Int}{f0 f1 L:Vb}{Q':Bool->Vc->Prop}(hz:Xc7 s.heap e it i f0 f1 L)(hf:f0=.none\/∃a:Nat,f0=Vcy a)(h1:Q' yx s)(h2:∀h' (f:Vb),EnA h' e it i->Va2 e s.heap h'->Q' yw QM):Vh Q4 A (Vd1 QK) Q' E s:=by
 unfold Vd1;rcases hf with rfl|⟨T,rfl⟩;·exact Va (Var hz rfl (x:=.none) rfl (Vf h1))
 ·refine Va (Var hz rfl (x:=Vcy T) rfl ?_);show Vh _ _ (loadIfAlive QU3 >>= _) _ _ _;refine Va (Xuz ?_);cases s.heap.get? QU3 with
  |none=>simp only[Option.isNone_none,if_true];exact Vf h1|some o=>
   simp only[Option.isNone_some,Uo,if_false];refine Va (Var hz rfl (x:=f1) rfl ?_);split;·exact Va (Vc7 hz QS λg5 e5 c5=>Vf (h2 g5 f1 ⟨_,_,_,e5,.inr QL2⟩ c5))
   ·exact Vf (h2 s.heap f1 ⟨_,_,_,hz,.inr QL2⟩ QO6)
theorem X23{hp g4:Heap}{g d tk os}{i:Int}{f0 f1 L:Vb}{T:Addr}{Q:Fin->Vc->Prop}(e4:Xc7 g4 e it i f0 f1 L)
  (hQ:∀g7,EnA g7 e it i->Qy0->Q (.done (.ret Qr2)) ⟨g7,g,d,tk,os⟩):
  Vh Q4 A (do
   rule "enumerate.__next__.owned-tuple-again"
   let L <- field QK 5
   setField QK 5 x
   Vgt QK Qr2
   letGo [L] [.ref T]
   ret Qr2) Q E ⟨g4,g,d,tk,os⟩:=by
 refine Va (Vba (Va (Var e4 rfl (x:=L) rfl (Va (Vc7 e4 QS λg5 e5 c5=>?_)))));replace c5:Va2 e g4 g5:=c5;replace e5:Xc7 g5 e it i f0 f1 x:=e5;refine Va ?_;unfold Vgt;refine Va (Vc7 e5 QS λg6 e6 c6=>?_);replace c6:Va2 e g5 g6:=c6;replace e6:Xc7 g6 e it i Qd5 f1 x:=e6;refine Vc7 e6 QS λg7 e7 c7=>?_;replace c7:Va2 e g6 g7:=c7;replace e7:Xc7 g7 e it i Qd5 Qr5 x:=e7;exact Va (wpAny_letGo (Vf (hQ g7 ⟨_,_,_,e7,.inr QL2⟩ λb o h1 q=>c7.extBut b o h1 (c6.extBut b o h1 (c5.extBut b o h1 q)))))
theorem Xyi{Q:VP}(aa:e≠it)(he:EnA s.heap e it n)(hi:ItK k s.heap it a n)(ha:SqK k s.heap a xs)(hx:xs[n]?=yz x)
  (hQ:∀h',EnA h' e it Qm0->ItK k h' it a Qm3->h'.get? s.heap.objs.size=yz Qr0 ->
   QO0->Q Q8 Qo1):
  Vh Q4 A (Vbt.«enumerate.__next__» ⟨[.ref e],[]⟩) (λfin s'=>∃v,fin=.done Q15/\Q v s') E s:=by
 obtain⟨f0,f1,L,he,hf⟩:=he;obtain⟨hp,g,d,tk,os⟩:=s;show Vh _ _ Qb3 _ _ _;refine Va (Var he rfl (x:=.ref it) rfl (Va (nxK hi ha hx λg1 i1 c1=>?_)));replace c1:Va2 it hp g1:=c1;have e1:Xc7 g1 e it n f0 f1 L:=(c1.2 e aa).trans he;show Vh _ _ (field QK 3 >>= _) _ _ Qf1;refine Va (Var e1 rfl (x:=Vcy n) rfl ?_);show Vh _ _ (field QK 4 >>= _) _ _ Qf1;refine Va (Var e1 rfl (x:=.none) rfl ?_);show Vh _ _ (mkInt n >>= _) _ _ Qf1;refine Va (wpAny_mkInt ?_);show Vh _ _ (setField QK 3 (Vcy Qm0) >>= _) _ _ ⟨g1,g,d,tk+1,os⟩;refine Va (Vc7 e1 QS λg2 e2 c2=>?_);replace c2:Va2 e g1 g2:=c2;replace e2:Xc7 g2 e it Qm0 f0 f1 L:=e2;show Vh _ _ (setField QK 4 .none >>= _) _ _ ⟨g2,g,d,tk+1,os⟩;refine Va (Vc7 e2 QS λg3 e3 c3=>?_);replace c3:Va2 e g2 g3:=c3;replace e3:Xc7 g3 e it Qm0 f0 f1 L:=e3;show Vh _ _ (newTuple [.int n tk,x] >>= _) _ _ ⟨g3,g,d,tk+1,os⟩;refine Va (wpAny_newTuple ?_);have e4:Xc7 (g3.push Qk) e it Qm0 f0 f1 L:=Vm _ e3;generalize q4:g3.push Qk=g4 at e4;have sz:g3.objs.size=hp.objs.size:=by rw[c3.1,c2.1,c1.1]
 have el:e<hp.objs.size:=Vy he;have t4:g4.get? hp.objs.size=yz Qk:=by rw[<-q4,<-sz];exact Vw _ rfl
 have k4:∀b o,b≠e->b≠it->hp.get? b=yz o->g4.get? b=yz o:=λb o h1 h2 hb=>by rw[<-q4];exact Vm _ (c3.extBut b o h1 (c2.extBut b o h1 (c1.extBut b o h2 hb)))
 have i4:ItK k g4 it a Qm3:=i1.at λo q=>by rw[<-q4];exact Vm _ (c3.extBut _ _ QB3 (c2.extBut _ _ QB3 q))
 show Vh _ _ (Vd1 QK >>= _) _ _ ⟨g4,g,d,tk+1,os⟩;rw[sz];clear q4 e3 c3 e2 c2 e1 c1 i1 sz g3 g2 g1;have fin:∀g7,EnA g7 e it Qm0->Qy0->∃v,(Fin.done (.ret (.ref hp.objs.size)))=.done Q15/\Q v ⟨g7,g,d,tk+1,os⟩:=λg7 e7 up=>⟨_,rfl,hQ g7 e7 (i4.at λo q=>up _ o QB3 q) (up _ _ (Vep el) t4) λb o h1 h2 hb=>up b o h1 (k4 b o h1 h2 hb)⟩;refine Va (X7x e4 hf ?_ λg5 f5 e5 c5=>?_);·simp only[if_true];exact X23 (hp:=hp) e4 fin
 ·simp only[Uo,if_false];exact Vf (fin g5 e5 λb o h1 q=>c5.extBut b o h1 q)
theorem Xnx(aa:e≠it)(L:EnA s.heap e it n)(hi:ItK k s.heap it a n)(ha:SqK k s.heap a xs)(hx:xs[n]?=yz x)
  (hQ:∀h',EnA h' e it Qm0->ItK k h' it a Qm3->h'.get? s.heap.objs.size=yz Qr0 ->
   QO0->Q (yz Q8) Qo1):Vh Q4 A QS5 Q E s:=by
 have hT:s.TypeIs QK "enumerate":=by obtain⟨f0,f1,ab,L,_⟩:=L;exact Qg0
 unfold pyNext;exact Va (Vga (Vbz (name:=Vau "__next__") hT Vft (Va0 Vft hT F.entry_enumerate_next (Xyi aa L hi ha hx λh' q1 q2 q3 q4=>Vf (hQ h' q1 q2 q3 q4)) QA2)))
theorem Xny(hh:A.handled=yy)(L:EnA s.heap e it n)(hi:ItK k s.heap it a n)(ha:SqK k s.heap a xs)(hx:xs[n]?=yy)
  (hQ:∀h',Heap.ExtBut it s.heap h'->Q yy QM):Vh Q4 A QS5 Q E s:=by
 obtain⟨f0,f1,ac,L,_⟩:=L;have hT:s.TypeIs QK "enumerate" := Qg0;unfold pyNext;refine Va (Vga (Vbz (name:=Vau "__next__") hT Vft (Va0 Vft hT F.entry_enumerate_next ?_ QA2)));show Vh _ _ Qb3 _ _ _;refine Va (Var L rfl (x:=.ref it) rfl (Va (Ye4 hh hi ha hx λh' x ab aa=>?_)));obtain⟨o,ho,hc⟩:=aa;exact Va (Vhq (T:="StopIteration") (b:=yx) ⟨o,ho,hc⟩ isSubtype_stop (Vf (hQ _ ab)))
theorem X7y(hz:EnA s.heap e it i)(hQ:∀h',EnA h' e it i->Va2 e s.heap h'->Q () QM):
  Vh Q4 A (Vez (.Tuple elts x1 pos) QK Qr2) Q E s:=by
 obtain⟨f0,f1,L,hz,hf⟩:=hz;unfold Vez;refine Va (wpAny_load hz ?_);show Vh _ _ (if (["enumerate","zip","dict_itemiterator","dict_reverseitemiterator","odict_iterator","itertools.zip_longest","itertools.pairwise"].contains "enumerate" && (#[f0,f1,.ref it,Vcy i,.none,L]:AV)[0]?==yz Qd5)=yx then _ else _) Q E s;split;·refine Va QR6;show Vh _ _ (setField QK 0 .none) Q E s;exact Vc7 hz QS λh' z' c'=>hQ h' ⟨_,_,_,z',.inl rfl⟩ c'
 ·exact Vf (hQ s.heap ⟨f0,f1,L,hz,hf⟩ QO6)
universe e
theorem Xh4(L:EnA s.heap e it i)(h:Q QK s):Vh Q4 A (pyIter QK) Q E s:=by obtain⟨f0,f1,aa,q,_⟩:=L;have ty:s.TypeIs QK "enumerate" := ⟨_,q,rfl⟩;exact wpAny_pyIter_slot ty F.slot_enumerate_iter (Va0 F.slot_enumerate_iter ty F.entry_enumerate_iter (show Vh _ _ (ret QK) _ _ s from Vf ⟨_,rfl,"enumerate",_,ty,F.slot_enumerate_next.lookup,h⟩) (F.args_enumerate_iter_1 _))
open AutoSeq1 (wpAny_loadPart')
noncomputable def X7z(k:Bool):String:=match k with
 |true => "list"|false => "tuple"
theorem Xyj(k:Bool)(a:Addr)(xs:AV)(n:Nat)(dct:Option Addr)(sl:Array OV):Meets (Vbt.«enumerate.__new__» ⟨[.type "enumerate",.ref a],[]⟩) (λ_ R s=>s.heap.get? a=yz QW0 /\
   R (.ok (.ret (.ref (s.heap.push Q3).objs.size))) {s with heap:=QU0.push QC }):=
 .of_wp λprog w A R s h=>by
  obtain⟨hp,g,d,tk,os⟩:=s;obtain⟨hl,h⟩:=h;have aa:=sub_enumerate;have L:SqK k (Shared.heap ⟨hp,g,d,tk,os⟩) a xs:=by cases k<;>exact⟨_,hl,rfl,n,rfl⟩
  wp_walk using Vcv hl;refine wpAny_stack_any λst=>Vf ?_;split;·rename_i c _ _ _ _ _;cases (c==Vcr "enumerate")<;>(wp_walk using Vcv hl,X1o L;exact Qf0)
  ·wp_walk using Vcv hl,X1o L;exact Qf0
theorem Xqv(hL:SqK k s.heap a xs)
  (h:∀h',NSt k Qw s.heap.objs.size a 0 h'->(∀b o,s.heap.get? b=yz o->h'.get? b=yz o)->Q (.ref Qw) QM):
  Vh Q4 A (call (.type "enumerate") [.ref a]) Q E s:=by
 obtain⟨n,dct,sl,hl⟩:∃n dct sl,s.heap.get? a=yz QW0:=by cases k<;>(obtain⟨⟨c,dct,dt,sl⟩,hl,hc,n,hd⟩:=hL;cases hc;cases hd;exact⟨n,dct,sl,hl⟩)
 refine callType_new F.called_enumerate Qh0 (F.typeCall_enumerate_1 _) (F.newCall_enumerate_1 _) (λobj=>F.args_object_init_2 obj _) F.entry_enumerate_new (Xyj k a xs n dct sl) ⟨hl,?_⟩;have hz:(s.heap.push Q3).objs.size=s.heap.objs.size+1:=Vfu ..;show _/\_;rw[hz];have L:Xc7 (QU0.push QC) Qw s.heap.objs.size 0 .none Qr5 .none:=by have:=Vw QU0 (o:=QC) rfl;rw[hz]at this;exact this
 exact⟨Qg0,h _ ⟨⟨_,_,_,L,.inl rfl⟩,X22 (Vm _ (Vw _ rfl))⟩ λb o q=>Vm _ (Vm _ q)⟩
noncomputable def Ite(K:Ve)(k:Bool)(a:Addr):L2.It:=
 ⟨λn H=>∃xs x,SqH k K H a xs/\xs[n]?=yz x,
   λn H v H'=>∃T x,v=.ref T/\H T=yy/\H'=upd H T (.tup [.int n,x])/\∀xs,SqH k K H a xs->xs[n]?=yz x,
   λn H=>∃xs,SqH k K H a xs/\QM1<=n⟩
theorem NSt.at(x:NSt k e it a n h)(q:∀c∈Qj4,∀o,h.get? c=yz o->h'.get? c=yz o):NSt k e it a n h':=
 ⟨let ⟨f0,f1,old,z,r⟩:=x.eo;⟨f0,f1,old,q e QS _ z,r⟩,x.io.at λo z=>q it QS o z⟩
theorem NSt.some(x:NSt k e it a n h):∀c∈Qj4,∃o,h.get? c=yz o/\∀v,o.data≠.cell v:=λc L=>by
 simp only[V0,Vaf,or_false]at L;rcases L with z|z<;>subst z
 ·obtain⟨f0,f1,aa,z,_⟩:=x.eo;exact⟨_,z,λv q=>nomatch q⟩
 obtain⟨o,z,_,d⟩:=x.io.obj;exact⟨o,z,d⟩
theorem X24{P:Ue}{w:Uy}{K:Ve}{es:LX}{x0:Nat}{tp:Pos}{k:Bool}{e it a:Addr}(ac:e≠it):
  Turn P w K (.Tuple es x0 tp) Qg5 Qj4 e (λn h=>NSt k e it a n h) where
 mem:=by simp
 obj:=λn h st c L=>st.some c L
 keep:=λn h h' st q=>st.at q
 item:=by
  intro X hP hw hK L n pc s σ H E J hf st hg;subst hP hw hK;obtain⟨xs,x,q1,hx⟩:=hg;obtain⟨its,rv,p⟩:=Xkh J q1;obtain⟨u,hu,ru⟩:=rv.get hx;have hT:H s.heap.objs.size=none:=J.hok.fresh Qy;have aa:∀c∈Qj4,c≠s.heap.objs.size:=λc L=>by obtain⟨o,z,_⟩:=st.some c L;exact Uq (Vy z)
  refine Xnx ac st.eo st.io p (x:=u) (by simpa using hu) λh' ae af pr kp=>⟨_,rfl,X7y ae λh2 e2 c2=>?_⟩;have J1:Inv X pc σ Qq Q22:=J.laid (t':=s.toks) (λc o z=>Vm _ z) Qy ⟨by show 2<=V3;decide,[.int n s.toks,u],.cons Qu5 QD2,Qa2⟩;have ab:∀c∈Qj4,Xaj X pc Qq c:=λc L=>⟨by rw[Xd (aa c L)];exact QH6.1,QH6.2⟩;have J2:Inv X pc σ Qq {s with heap:=h2,toks:=s.toks+1}:=Xgr (s:=Q22) (h':=h2) (t':=s.toks+1) J1 ab λc o L z=>by
   simp only[V0,Vaf,or_false,not_or]at L;refine c2.extBut _ _ L.1 ?_;by_cases q:c=s.heap.objs.size;·subst q;have z':=(Vw s.heap (o:=Qb) rfl).symm.trans z;rw[<-z'];exact pr
   ·exact kp c o L.1 L.2 (Xnw z q)
  refine⟨.ref s.heap.objs.size,_,J2,rfl,⟨s.heap.objs.size,x,rfl,hT,rfl,λzs hz=>?_⟩,?_,λc L=>(ab c L).1⟩;·rw[Xyg J hz q1];exact hx
  ·exact⟨e2,af.at λo z=>c2.extBut _ _ (Ne.symm ac) z⟩
 done:=by intro X hP hw hK L n pc s σ H E J hf st hg;subst hP hw hK;obtain⟨xs,q1,hl⟩:=hg;obtain⟨its,rv,p⟩:=Xkh J q1;have l1:=rv.length;refine Xny (J.ok.hd L) st.eo st.io p (by simp;omega) λh' kp=>⟨rfl,Xgr (t':=s.toks) J hf λc o L z=>?_⟩;simp only[V0,Vaf,or_false,not_or]at L;exact kp c o L.2 z
 self:=λ_ _ _ _ _ st h=>Xh4 st.eo h
noncomputable def Itx(a:Addr)(o:Obj)(xs:List Q90):L2.It:=
 ⟨λi H=>Qk3/\i<ll xs,
   λi H v H'=>∃T p,xs[i]?=yz p/\v=.ref T/\H T=yy/\H'=upd H T (.tup [.ref p.2.1,p.2.2]),
   λi H=>Qk3/\QM1<=i⟩
theorem Xl5(a b:Int):Vev a b (-1)=if a>b then a-b else 0:=by unfold Vev;rw[iN0 Qh0];split<;>simp<;>omega
theorem Xst(ha:-QX1<=a)(aa:a<2^62)(hb:-QX1<=b)(L:b<2^62):Builtin.Range.small a b (-1)=true:=by
 unfold Builtin.Range.small;rw[Xl5];simp only[Builtin.Range.rangeFitsLong,bA0,Vcb,decide_eq_true_eq,beq_iff_eq,show ¬ Qt6>0 by decide,if_false];have q:∀x:Int,-QX1<=x->x<2^62->-2^63<=x/\x<2^63:=λx h1 h2=>⟨by omega,by omega⟩;split;·exact⟨⟨QC1,by omega,by omega⟩,.inr (by rw[show Qt6+1=0 from rfl,Int.add_zero];exact q b hb L)⟩
 ·exact⟨⟨QC1,by decide⟩,.inl rfl⟩
noncomputable def Itd(lo:Int)(n:Nat):L2.It where
 go:=λi _=>i<n
 yld:=λi H x H'=>H'=H/\x=.int Qo6
 stop:=λi _=>n<=i
theorem Xu0{P:Ue}{w:Uy}{K:Ve}{tg:Expr}(it:Addr)(lo:Int)(n:Nat):Turn P w K tg Qp5 [it] it (λi h=>IsRangeIter h it (lo+(i:Nat)*(-1)) ((n:Int)-(i:Nat)) (-1)) where
 mem:=by simp
 obj:=λi h st b hb=>by
  obtain rfl:b=it:=by simpa using hb
  exact⟨_,st,λv z=>nomatch z⟩
 keep:=λi h h' st k=>k it QS _ st
 item:=by
  intro X hP hw hK hc i pc s σ H E I hf st hg;subst hP hw hK;obtain⟨f0,f1,f2,f3,f4,f5⟩:=hf it QS;refine(Walks.range (prog:=X.prog) (w:=X.w) QM5 it lo (-1) n).item i s _ _ hg st λv h' tk hv L kk=>?_;obtain⟨t,rfl⟩:=hv;have I1:Inv X pc σ H Q00:=I.turned (λb o hb e=>kk b o (by simpa using hb) e) f0 f1 f3 f4 f5;refine⟨_,rfl,Xmu (s:=Q00) (n:="range_iterator") L rfl rfl Qh0 ⟨.int Qo6,H,I1,⟨t,?_⟩,QL,L,λb hb=>Ql.1⟩⟩;have e:lo+(i:Int)*(-1)=lo-i:=by omega
  rw[e]
 done:=by intro X hP hw hK hc i pc s σ H E I hf st hg;subst hP hw hK;obtain⟨f0,f1,f2,f3,f4,f5⟩:=hf it QS;have hn:n<=i:=hg;exact wpAny_pyNext_range_end QM5 st Q7 λh' eb=>⟨rfl,I.turned (t':=s.toks) (λb o hb e=>eb b o hb e) f0 f1 f3 f4 f5⟩
 self:=λ_ _ _ _ _ st h=>wpAny_pyIter_rangeiter st h
section
variable{X:Cx}{tg:Expr}
theorem X25{pc:LA}{R:L2.It->Hp->Prop}{E:VP}{lo hi:Int}{tk:Nat}(I:Inv X pc σ H s)(h1:-QX1<=lo)(h2:lo<2^62)(h3:-QX1<=hi)(h4:hi<2^62)
  (q:R (Itd lo Ql2.toNat) H):Vh Q0 X.A QO3 (PIE X pc σ tg R) E QH1:=by
 refine wpAny_pyIter_range (IsRange.new ..) (Xst h1 h2 h3 h4) ?_;generalize hR:(QJ:Obj)=L;have I1:Inv X pc σ H {s with heap:=s.heap.push L,toks:=tk}:=I.kept λb o e=>Vm _ e;refine⟨(s.heap.push L).objs.size,[(s.heap.push L).objs.size],_,_,H,rfl,I1.kept (t':=tk) λb o e=>Vm _ e,Xu0 _ lo Ql2.toNat,?_,λb hb=>?_,q⟩
 ·have e1:lo+Qn1*(-1)=lo:=by simp
  have e2:QW3-Qn1=Vev lo hi (-1):=by rw[Xl5];split<;>omega
  show IsRangeIter _ _ (lo+Qn1*(-1)) (QW3-Qn1) (-1);rw[e1,e2];exact Vw _ rfl
 ·obtain rfl:b=(s.heap.push L).objs.size:=by simpa using hb
  exact I1.fpOk Qy (I1.hok.fresh Qy)
variable{pc:LA}{σ:L2.St}{H:Hp}{s:Vc}{ρ:LR}{S S':Sto}{env:En}{Q:VP}{E:VP}{a b c e iter:Expr}{f:En->Sto->R D}{pos:Pos}
def DG(X:Cx)(tg:Expr)(t:Tg):Prop:=
 ∀(pc:LA) (s:Vc) (σ:L2.St) (H:Hp) (ρ:LR) (S:Sto) (env:En) (d:D) (v:V) (u:Vb) (L:En) (Q:Unit->Vc->Prop) (E:VP),S0 X pc σ H s ρ S env->Xn t d env=yz L->RD X.K ρ H d v->RelV v u ->
  (∀s' aa,S0 X pc aa H s' ρ S L->Q () s')->Vh Q0 X.A (assign tg X.env u) Q E s
theorem X26(hN:X.N.Nodup)(hi:X.N[i]?=yz x)(hx:Loc X.env.scope x)(hf:X.fn x=yx\/X.env.scope.names.lookup x=yz .local):DG X QA5 Qe3:=by intro pc s σ H ρ S env d v u L Q E I h rd rv hQ;simp only[Xn,Vr]at h;subst h;exact Vi1 (Xbi I.inv hN hi hx rv (λs' I'=>hQ s' _ ⟨I',I.sr,I.er.set i rd⟩) hf)
noncomputable def gNs:LN->TGs
 |[]=>X6k|i::is=>X1g (X1f i) QI6
theorem Xu1:∀(L:LN) (vs:LW) (σ:L2.St) (H:Hp) (Q:L2.St->Hp->Prop),ll L=ll vs->Q Qj2 H->gNs L vs σ H Q
 |[],vs=>fun σ H Q hl h=>by
  have:vs=[]:=by simpa using hl.symm
  subst this;exact⟨rfl,h⟩|i::L,[]=>fun σ H Q hl h=>by simp at hl|i::L,v::vs=>fun σ H Q hl h=>⟨v,vs,rfl,Xu1 L vs _ H Q Qq3 h⟩
theorem ER.sets{K:Ve}:∀(L:LN) (ds:LD) (vs:LW) (env:En) (σ:L2.St),RDs K ρ H ds vs->ER K ρ H env σ->ER K ρ H QY2 Qj2
 |[],ds=>λvs env σ r e=>by simpa using e|i::L,[]=>λvs env σ r e=>by simp only[RDs]at r;subst r;simpa using e|i::L,d::ds=>λvs env σ r e=>by simp only[RDs]at r;obtain⟨v,aa,rfl,h1,h2⟩:=r;exact ER.sets L ds aa _ _ h2 (e.set i h1)
theorem X70(hc:X.calm=yx)(h:∀E,PGs QE1 es QI6)(hn:Qc4.length=ll is)(ab:Qc4.findIdx? Qk4=yy):DG X (.Tuple es k pos) (.tup is):=by
 intro pc s σ H ρ S env d v u ac Q E I hd rd rv hQ;cases d with
 |tup ds=>
  simp only[Xn]at hd;split at hd
  ·rename_i hl;cases hd;simp only[RD]at rd;obtain⟨a,vs,rfl,hs,hr⟩:=rd;have L:(ll is)=ll vs:=by rw[hl,hr.length]
   refine thn (X6l (X:=X.wish E) (n:=ll is) hc (h E) hn ab pc s σ H Qn u (λaa H'=>H'=H/\aa=(is.zip vs).foldl QX σ) Qx0 rv ⟨a,vs,rfl,hs,L.symm,Xu1 is vs σ H _ L QL⟩) λ_ s' zz=>?_;obtain⟨aa,H',J,e1,e2⟩:=zz;subst e1 e2;exact hQ s' _ ⟨J.unwish,I.sr,ER.sets is ds vs env σ hr I.er⟩
  cases hd|_=>cases hd
theorem Xu2:∀(L:LN) (xs:List Qo5),X.N.Nodup->L.length=ll xs->(∀(j i:Nat) (x:Str×Pos),L[j]?=yz i->xs[j]?=yz x->X.N[i]?=yz x.1/\Loc X.env.scope x.1/\(X.fn x.1=yx\/X.env.scope.names.lookup x.1=yz .local)) ->
  PGs X Qj (gNs L)
 |[],xs=>λ_ hl _=>by
  have:xs=[]:=by simpa using hl.symm
  subst this;exact X2g|i::L,[]=>λ_ hl _=>by simp at hl|i::L,x::xs=>λhN hl h=>by obtain⟨h1,h2,h3⟩:=h 0 i x rfl rfl;exact Xx2 (X2f hN h1 h2 h3) (Xu2 L xs hN Qq3 λj i' x' e1 e2=>h (j+1) i' x' (by simpa using e1) (by simpa using e2)) rfl
theorem Xi3:∀(xs:List Qo5) (env:Vbk),QL5.length=ll xs/\QL5.findIdx? Qk4=yy
 |[]=>λenv=>QL|x::xs=>λenv=>by have h:=Xi3 xs env;have e:Vbn (Qc6.map λx=>Expr.Name x.1 x.2) env=(yw,assign (.Name x.1 x.2) env)::Vbn Qj env:=rfl;rw[e];refine⟨by simp[h.1],?_⟩;rw[List.findIdx?_cons];simp[h.2]
def SrcK(K:Ve)(ρ:LR)(H:Hp):Src->Bool->Addr->Prop
 |.con xs,yw,a=>∃vs,SqT K H a vs/\RDs K ρ H xs vs|.ref n,yx,a=>ρ[n]?=yz a|_,_,_=>False
theorem SrcK.mono'{K:Ve}{ρ':LR}{H':Hp}{src:Src}{k:Bool}{a:Addr}(x:Mon K ρ ρ' H H')(h:SrcK K ρ H src k a):SrcK K ρ' H' src k a:=by
 cases src with
 |con xs=>cases k with
  |false=>obtain⟨vs,h1,h2⟩:=h;exact⟨vs,x.tup _ _ h1,RDs.mono' x _ _ h2⟩|true=>exact h.elim
 |ref n=>cases k with
  |false=>exact h.elim|true=>exact x.pre _ _ h
 |enm _=>exact h.elim
theorem SrcK.get{src:Src}{k:Bool}{a:Addr}{i:Nat}{o:Option D}(h:SrcK X.K ρ H src k a)(I:S0 X pc σ H s ρ S env)(g:src.get S i=yz o):∃vs,SqH k X.K H a vs/\match o with
  |some d=>∃v,vs[i]?=yz v/\RD X.K ρ H d v|none=>ll vs<=i:=by
 cases src with
 |con xs=>cases k with
  |false=>
   obtain⟨vs,h1,h2⟩:=h;simp only[Src.get,Vr]at g;refine⟨vs,h1,?_⟩;cases o with
   |some d=>exact h2.get g|none=>have:=h2.none g;rw[U4]at this;exact this
  |true=>exact h.elim
 |ref n=>cases k with
  |false=>exact h.elim|true=>
   simp only[Src.get,Ud]at g;obtain⟨xs,g1,g2⟩:=g;obtain⟨a',vs,k1,k2,L⟩:=I.list g1;have h':ρ[n]?=yz a:=h;rw[h']at k1;cases k1;refine⟨vs,.of k2,?_⟩;cases o with
   |some d=>exact L.get g2|none=>have:=L.none g2;rw[U4]at this;exact this
 |enm _=>exact h.elim
inductive SrcR(K:Ve)(ρ:LR)(H:Hp):Src->L2.It->Prop where
 |tup {a:Addr} {xs:LD} {vs:LW}:SqT K H a vs->RDs K ρ H xs vs->SrcR K ρ H Q96 (Itt K a)
 |rng (lo:Int) (n:Nat):SrcR K ρ H (.con (Qs6.map λ(k:Nat)=>D.int Qz5)) (Itr lo n)
 |lst {n:Nat} {a:Addr}:ρ[n]?=yz a->SrcR K ρ H Q25 (Itl K a)
 |dwn (lo:Int) (n:Nat):SrcR K ρ H (.con (Qs6.map λ(k:Nat)=>D.int Qn6)) Qp5
 |enm {s1:Src} {k:Bool} {a:Addr}:SrcK K ρ H s1 k a->SrcR K ρ H (.enm s1) Qg5
 |dic {a:Addr} {o:Obj} {u:HO} {kvs:List Qf5} {xs:List Q90}:H a=yz Qe0->DX K ρ H kvs xs->SrcR K ρ H (.con (kvs.map X7g)) (Itx a o xs)
theorem X1p{K:Ve}{ρ:LR}{H:Hp}:∀ {kvs:List Qf5} {xs:List Q90} {i:Nat} {p:LI×D},DX K ρ H kvs xs->kvs[i]?=yz p->∃q,xs[i]?=yz q/\p.1=q.1/\SqT K H q.2.1 (p.1.map V.int)/\RD K ρ H p.2 q.2.2
 |_,_,i,_,.nil,h=>by simp at h|_,_,0,_,.cons r _,h=>by simp at h;subst h;exact⟨_,rfl,r⟩|_,_,i+1,_,.cons _ t,h=>by obtain⟨q,h1,h2⟩:=X1p (i:=i) t (by simpa using h);exact⟨q,by simpa using h1,h2⟩
theorem SrcR.mono'{K:Ve}{ρ':LR}{H':Hp}{src:Src}{J:L2.It}(x:Mon K ρ ρ' H H')(h:SrcR K ρ H src J):SrcR K ρ' H' src J:=by
 cases h with
 |tup h1 h2=>exact .tup (x.tup _ _ h1) (RDs.mono' x _ _ h2)|rng lo n=>exact .rng lo n|lst h=>exact .lst (x.pre _ _ h)|dwn lo n=>exact .dwn lo n|enm h1=>exact .enm (h1.mono' x)|dic h1 h2=>exact .dic (x.frz _ _ _ h1) (h2.mono x)
theorem SrcR.mono{K:Ve}{ρ':LR}{H':Hp}{src:Src}{J:L2.It}(x:Stp K ρ ρ' H H')(h:SrcR K ρ H src J):SrcR K ρ' H' src J:=h.mono' x.toMon
theorem Xqw(g:(Src.enm s1).get S i=yz o):∃L,s1.get S i=yz L/\match o with
  |some d=>∃x,L=yz x/\d=.tup [.int i,x]|none=>L=none:=by
 simp only[Src.get]at g;split at g;·rename_i x e1;cases g;exact⟨_,e1,x,rfl,rfl⟩
 ·rename_i hn;refine⟨o,g,?_⟩;cases o with
  |none=>rfl|some x=>exact(hn x g).elim
theorem SrcR.go(h:SrcR X.K ρ H src J)(I:S0 X pc σ H s ρ S env)(g:src.get S i=yz Qa3):
  J.go i H/\∀x H',J.yld i H x H'->SR X.K ρ S H'/\Stp X.K ρ ρ H H'/\RD X.K ρ H' d x:=by
 cases h with
 |@tup a xs vs h1 h2=>simp only[Src.get,Vr]at g;obtain⟨v,L,e2⟩:=h2.get g;refine⟨⟨vs,v,h1,L⟩,λx H' y=>?_⟩;obtain⟨rfl,y⟩:=y;have:=y vs h1;rw[L]at this;cases this;exact Qh3|rng lo n=>
  simp only[Src.get,Vr]at g;rw[Vx]at g;have hi:i<n:=by
   by_cases hi:i<n;·exact hi
   ·rw[Vd2 Qo]at g;cases g
  rw[Vai hi]at g;simp only[V7,Vr]at g;subst g;refine QI3;obtain⟨rfl,rfl⟩:=y;exact Qg1|@lst n a h=>simp only[Src.get,Ud]at g;obtain⟨xs,g1,g2⟩:=g;obtain⟨a',vs,k1,k2,k3⟩:=I.list g1;rw[h]at k1;cases k1;obtain⟨v,L,e2⟩:=k3.get g2;refine⟨⟨vs,v,.of k2,L⟩,λx H' y=>?_⟩;obtain⟨rfl,y⟩:=y;have:=y vs QY6;rw[L]at this;cases this;exact Qh3|dwn lo n=>
  simp only[Src.get,Vr]at g;rw[Vx]at g;have hi:i<n:=by
   by_cases hi:i<n;·exact hi
   ·rw[Vd2 Qo]at g;cases g
  rw[Vai hi]at g;simp only[V7,Vr]at g;subst g;refine QI3;obtain⟨rfl,rfl⟩:=y;exact Qg1|@enm s1 k a h1=>obtain⟨o1,g1,x,rfl,rfl⟩:=Xqw g;obtain⟨vs,q1,v,L,r1⟩:=h1.get I g1;refine⟨⟨vs,v,q1,L⟩,λw H' yd=>?_⟩;obtain⟨T,v',rfl,hT,rfl,z1⟩:=yd;have aa:=z1 vs q1;rw[L]at aa;cases aa;have st:Stp X.K ρ ρ H (upd H T (.tup QD6)):=Stp.upd hT;refine Q13;simp only[RD];exact⟨T,QD6,rfl,.of Xl,.cons Q9 (.cons (r1.mono st) .nil)⟩|@dic a o u kvs xs h1 h2=>simp only[Src.get,Vr,Vx,Ud]at g;obtain⟨p,g1,rfl⟩:=g;obtain⟨q,q1,q2,q3,q4⟩:=X1p h2 g1;refine⟨⟨QB6,(Vd.mp q1).1⟩,λw H' yd=>?_⟩;obtain⟨T,q',L,rfl,hT,rfl⟩:=yd;rw[q1]at L;cases L;have st:Stp X.K ρ ρ H (upd H T (.tup [.ref q.2.1,q.2.2])):=Stp.upd hT;refine Q13;unfold X7g;rw[RD];refine⟨T,_,rfl,.of Xl,.cons ?_ (.cons (q4.mono st) .nil)⟩;rw[RD];exact⟨_,_,rfl,st.tup _ _ q3,.ints _⟩
theorem SrcR.stop(h:SrcR X.K ρ H src J)(I:S0 X pc σ H s ρ S env)(g:src.get S i=yz yy):J.stop i H:=by
 cases h with
 |@tup a xs vs h1 h2=>simp only[Src.get,Vr]at g;exact⟨vs,h1,by have:=h2.none g;rw[U4]at this;exact this⟩|rng lo n=>simp only[Src.get,Vr]at g;rw[U4]at g;show n<=i;simpa using g|@lst n a h=>simp only[Src.get,Ud]at g;obtain⟨xs,g1,g2⟩:=g;obtain⟨a',vs,k1,k2,k3⟩:=I.list g1;rw[h]at k1;cases k1;exact⟨vs,.of k2,by have:=k3.none g2;rw[U4]at this;exact this⟩|dwn lo n=>simp only[Src.get,Vr]at g;rw[U4]at g;show n<=i;simpa using g|@enm s1 k a h1=>obtain⟨o1,g1,L⟩:=Xqw g;obtain⟨vs,q1,r1⟩:=h1.get I g1;cases L;exact⟨vs,q1,r1⟩|@dic a o u kvs xs h1 h2=>simp only[Src.get,Vr,Vx,Option.map_eq_none_iff,U4]at g;exact⟨QB6,by rw[<-Vdk h2];exact g⟩
def ItP(X:Cx)(pc:LA)(σ:L2.St)(ρ:LR)(H:Hp)(tg:Expr)(r:R Src)(L:Vb)(s2:Vc):Prop:=
 ∃src S' it fp tn J H' ρ',r=.ok src S'/\L=.ref it/\Inv X pc σ H' s2/\Turn X.prog X.w X.K tg J fp it tn/\tn 0 s2.heap/\(∀b∈fp,Xaj X pc H' b)/\SrcR X.K ρ' H' src J/\SR X.K ρ' S' H'/\Stp X.K ρ ρ' H H'
theorem ItP.pre{aa:LR}{H1:Hp}{r:R Src}{L:Vb}{s2:Vc}(h:ItP X pc σ aa H1 tg r L s2)(st:Stp X.K ρ aa H H1):ItP X pc σ ρ H tg r L s2:=by obtain⟨src,S2,it,fp,tn,J,H2,ab,z1,z2,z3,z4,z5,z6,z7,z8,z9⟩:=h;exact⟨src,S2,it,fp,tn,J,H2,ab,z1,z2,z3,z4,z5,z6,z7,z8,st.trans z9⟩
def DI(X:Cx)(tg iter:Expr)(f:En->Sto->R Src):Prop:=
 ∀(pc:LA) (s:Vc) (σ:L2.St) (H:Hp) (ρ:LR) (S:Sto) (env:En) (E:VP),S0 X pc σ H s ρ S env->f env S≠.bad->(∀x s',ExP X pc σ ρ H QR x s'->E x s') ->
  Vh Q0 X.A Qj1 (λv L=>Vh Q0 X.A (pyIter v) (ItP X pc σ ρ H tg QR) E L) E s
theorem X71(he:DE X iter f):DI X tg iter (λenv S=>QR.bind λx S=>match Yq S x with|some r=>.ok r S|none=>.bad):=by
 intro pc s σ H ρ S env E I L hE;dsimp only at L hE ⊢;cases q:f env S with
 |bad=>rw[q]at L;cases L rfl|ex n S1=>rw[q]at hE;exact he.ex I q λx s' z=>hE x s' QI|ok d S1=>
  rw[q]at L;simp only[Rk0]at L ⊢;refine he.ok I q λu s1 v H1 aa I1 rv rd ab=>?_;cases d with
  |tup xs=>
   simp only[RD]at rd;obtain⟨a,vs,rfl,h1,h2⟩:=rd;cases rv;obtain⟨its,ac,p,hz⟩:=I1.inv.tuple h1;refine Viv (show s1.heap.IsTuple a its.toArray from p) ?_;refine⟨_,S1,s1.heap.objs.size,Qj3,_,_,H1,aa,rfl,rfl,I1.inv.kept (t':=s1.toks) λb o e=>Vm _ e,Xsa a _,QB0,λb hb=>?_,.tup h1 h2,I1.sr,ab⟩;have e:b=s1.heap.objs.size:=by simpa using hb
   subst e;exact I1.inv.fpOk Qy QS0|ref n=>
   cases e1:Xc S1 n with
   |none=>simp[Yq,e1]at L|some xs=>
    obtain⟨a,vs,k1,k2,k3⟩:=I1.list e1;simp only[RD]at rd;obtain⟨a',rfl,k4⟩:=rd;rw[k1]at k4;cases k4;cases rv;obtain⟨its,ac,p,hz⟩:=I1.inv.list QY6;refine Vha p.isList ?_;refine⟨.ref n,S1,s1.heap.objs.size,Qj3,_,_,H1,aa,by simp[Yq,e1],rfl,I1.inv.kept (t':=s1.toks) λb o e=>Vm _ e,Xt9 a _,QB0,λb hb=>?_,.lst k1,I1.sr,ab⟩;have e:b=s1.heap.objs.size:=by simpa using hb
    subst e;exact I1.inv.fpOk Qy QS0
  |non=>simp[Yq]at L|bl _=>simp[Yq]at L|int _=>simp[Yq]at L|str _=>simp[Yq]at L|fro _=>simp[Yq]at L|fn _ _=>simp[Yq]at L
theorem Xu3{tk:Nat}{lo hi:Int}{ds:LD}(I:S0 X pc σ H s ρ S env)(h1:-QX1<=lo)(h2:lo<2^62)(h3:-QX1<=hi)(h4:hi<2^62)(L:ds=Qd3.map λ(k:Nat)=>D.int Qz5):
  Vh Q0 X.A QO3 (ItP X pc σ ρ H tg (.ok QA6 S)) E {s with heap:=s.heap.push QG0,toks:=tk}:=by
 refine thn (Xx3 (X:=X.wish E) (tg:=tg) (R:=λJ H'=>J=Itr lo (hi-lo).toNat/\H'=H) Qx0 h1 h2 h3 h4 QL) λaa s2 z=>?_;obtain⟨it,fp,tn,J,H',e1,J',T,t0,fo,e2,e3⟩:=z;subst e2 e3;exact⟨_,S,it,fp,tn,_,H',ρ,rfl,e1,J'.unwish,T,t0,fo,by rw[L];exact .rng _ _,I.sr,.refl⟩
theorem Xyk{tk:Nat}{lo hi:Int}(I:S0 X pc σ H s ρ S env)(h1:-QX1<=lo)(h2:lo<2^62)(h3:-QX1<=hi)(h4:hi<2^62):
  Vh Q0 X.A QO3 (ItP X pc σ ρ H tg (.ok (.con ((Vl Ql2.toNat).map λ(k:Nat)=>D.int Qn6)) S)) E QH1:=by
 refine thn (X25 (X:=X.wish E) (tg:=tg) (R:=λJ H'=>J=Itd lo Ql2.toNat/\H'=H) Qx0 h1 h2 h3 h4 QL) λaa s2 z=>?_;obtain⟨it,fp,tn,J,H',e1,L,T,t0,fo,e2,e3⟩:=z;subst e2 e3;exact⟨_,S,it,fp,tn,_,H',ρ,rfl,e1,L.unwish,T,t0,fo,.dwn _ _,I.sr,.refl⟩
theorem X27{ds:LD}(h:Yn ds≠yy):(∃j,ds=[.int j])\/(∃i j,ds=QF1)\/∃i j c,ds=[.int i,.int j,.int c]:=by
 unfold Yn at h;split at h;·exact .inl Qu5
 ·exact .inr (.inl Q03)
 ·exact .inr (.inr ⟨_,_,_,rfl⟩)
 cases h rfl
theorem X72 {es:LX} {g:En->Sto->R (LD)} (hg:Gl X "range") (hm:X.mg "range"=yy) (ha:DA X Qk1 g) (hs:Ui Qk1 X.env=Q41::Ui es X.env) (ab:QO.any Qk4=yw):
  DI X tg (.Call (.Name "range" p) Qk1 [] pos) (λenv S=>Q91.bind λxs S=>match Yn xs with|some ds=>.ok QA6 S|none=>.bad):=by
 intro pc s σ H ρ S env E I L hE;dsimp only at L hE ⊢;refine Call_ (Xaw I.inv hg hm boot_range Qd4);cases q:g env S with
 |bad=>rw[q]at L;cases L rfl|ex n S1=>rw[q]at hE;exact ha.ex I q λx s' z=>hE x s' QI|ok ds S1=>
  rw[q]at L;simp only[Rk0]at L ⊢;refine ha.ok I q λus s1 vs H1 ac I1 rv rd aa=>?_;have fin:∀ {tk:Nat} {lo hi:Int} {t u v:Tok} {xs:LD},-QX1<=lo->lo<2^62->-QX1<=hi->hi<2^62->xs=Qd3.map (λ(k:Nat)=>D.int Qz5) ->
    Vh Q0 X.A (pyIter (.ref s1.heap.objs.size)) (ItP X pc σ ρ H tg (.ok Q96 S1)) E {s1 with heap:=s1.heap.push QG0,toks:=tk}:=λh1 h2 h3 h4 h5=>
   Vp (Xu3 I1 h1 h2 h3 h4 h5) QL3 λ_ _ z=>z
  have nr:Yn ds≠none:=λz=>L QJ6;rcases X27 nr with⟨j,rfl⟩|⟨i,j,rfl⟩|⟨i,j,c,rfl⟩
  ·simp only[Yn]at L ⊢;by_cases hz:-QY1<j/\j<1048576
   ·rw[iP0 hz]at L ⊢;simp only[RDs]at rd;obtain⟨v,r,rfl,r1,rfl⟩:=rd;simp only[RD]at r1;subst r1;cases rv with
    |cons q1 q2=>cases q2;obtain⟨t,rfl⟩:=q1;refine call_range_1 (fin Q7 Q7 Q7 Q7 ?_);simp
   rw[iN0 hz]at L;cases L rfl
  ·simp only[Yn]at L ⊢;by_cases hz:-QY1<i/\i<1048576/\-QY1<j/\j<1048576
   ·rw[iP0 hz]at L ⊢;simp only[RDs]at rd;obtain⟨v,r,rfl,r1,v2,r2,rfl,r3,rfl⟩:=rd;simp only[RD]at r1 r3;subst r1 r3;cases rv with
    |cons q1 q2=>
     cases q2 with
     |cons q3 q4=>cases q4;obtain⟨t,rfl⟩:=q1;obtain⟨t',rfl⟩:=q3;exact call_range_2 (fin Q7 Q7 Q7 Q7 rfl)
   rw[iN0 hz]at L;cases L rfl
  simp only[Yn]at L ⊢;by_cases hz:c = -1/\-QY1<i/\i<1048576/\-QY1<j/\j<1048576
  ·rw[iP0 hz]at L ⊢;simp only[RDs]at rd;obtain⟨v,r,rfl,r1,v2,r2,rfl,r3,v3,r4,rfl,r5,rfl⟩:=rd;simp only[RD]at r1 r3 r5;subst r1 r3 r5;obtain⟨rfl,hz⟩:=hz;cases rv with
   |cons q1 q2=>
    cases q2 with
    |cons q3 q4=>
     cases q4 with
     |cons q5 q6=>cases q6;obtain⟨t,rfl⟩:=q1;obtain⟨t',rfl⟩:=q3;obtain⟨ae,rfl⟩:=q5;exact call_range_3 Qh0 (Vp (Xyk I1 Q7 Q7 Q7 Q7) QL3 λ_ _ z=>z)
  rw[iN0 hz]at L;cases L rfl
theorem Ycu(I:S0 X pc σ H s ρ S env)(e:Yq S d=yz src)(rd:RD X.K ρ H d v)(rv:RelV v u):∃k a vs,u=.ref a/\SqH k X.K H a vs/\SrcK X.K ρ H src k a:=by
 cases d with
 |tup xs=>have e':yz (Src.con xs)=yz src:=e;cases e';simp only[RD]at rd;obtain⟨a,vs,rfl,h1,h2⟩:=rd;cases rv;exact⟨yw,a,vs,rfl,h1,vs,h1,h2⟩|ref n=>
  cases L:Xc S n with
  |none=>simp[Yq,L]at e|some xs=>simp only[Yq,L,V7,Vr]at e;subst e;obtain⟨a,vs,k1,k2,k3⟩:=I.list L;simp only[RD]at rd;obtain⟨a',rfl,k4⟩:=rd;rw[k1]at k4;cases k4;cases rv;exact⟨yx,a,vs,rfl,.of k2,k1⟩
 |_=>cases e
theorem X73 (hg:Gl X "enumerate") (hm:X.mg "enumerate"=yy) (ha:DA X Qk1 g) (hs:Ui Qk1 X.env=Q41::Ui es X.env) (ab:QO.any Qk4=yw):
  DI X (.Tuple ts x0 tp) (.Call (.Name "enumerate" p) Qk1 [] pos) (λenv S=>Q91.bind λxs S=>match xs with
   |[x]=>match Yq S x with
    |some s=>.ok (.enm s) S|none=>.bad
   |_=>.bad):=by
 intro pc s σ H ρ S env E I L hE;dsimp only at L hE ⊢;refine Call_ (Xaw I.inv hg hm (u:=.type "enumerate") QD0 Qd4);cases q:g env S with
 |bad=>rw[q]at L;cases L rfl|ex n S1=>rw[q]at hE;exact ha.ex I q λx s' z=>hE x s' QI|ok ds S1=>
  rw[q]at L;simp only[Rk0]at L ⊢;refine ha.ok I q λus s1 vs H1 ac I1 rv rd ae=>?_;match ds,rd,L with
  |[],rd,L=>cases L rfl|_::_::_,rd,L=>cases L rfl|[x],rd,L=>
   cases e1:Yq S1 x with
   |none=>simp only[e1]at L;cases L rfl|some sx=>
    simp only[RDs]at rd;obtain⟨v1,r1,rfl,af,rfl⟩:=rd;cases rv with
    |cons q1 q2=>
     cases q2;obtain⟨k1,b1,w1,rfl,m1,c1⟩:=Ycu I1 e1 af q1;obtain⟨ah,_,p1⟩:=Xkh I1.inv m1;refine Xqv p1 λh' ns kp=>by
      refine Xh4 ns.eo ?_;have J:Inv X pc σ H1 {s1 with heap:=h' }:=I1.inv.kept (t':=s1.toks) kp;refine⟨.enm sx,S1,_,[s1.heap.objs.size+1,s1.heap.objs.size],_,_,H1,ac,by simp only[e1],rfl,J,X24 (λz=>by have z':(_:Nat)=_:=z;omega),ns,λb hb=>?_,.enm c1,I1.sr,ae⟩;have aa:s1.heap.objs.size<=b:=by simp only[V0,Vaf,or_false]at hb;rcases hb with z|z<;>(have z':(_:Nat)=_:=z;omega)
      exact I1.inv.fpOk aa (I1.inv.hok.fresh aa)
theorem DSs.ok{st:LM}{na:Bool}{g:En->Sto->R Fl}{Q:Flow->Vc->Prop}(h:DSs X st na g)(I:S0 X pc σ H s ρ S env)(r:g env S=.ok x S')(L:∀fl s',FlP X pc σ ρ H na S' s' x fl->Q fl s'):
  Vh Q0 X.A Qz3 Q E s:=by
 refine Vp (h pc s σ H ρ S env I (by rw[r];exact λz=>nomatch z)) (λfl s' z=>?_) λx s' z=>?_;·obtain⟨y,S1,e,z⟩:=z;rw[r]at e;cases e;exact L fl s' z
 ·obtain⟨n,S1,_,e,_⟩:=z;rw[r]at e;cases e
theorem S0.rep(I:S0 X pc σ H s ρ S env)(J:Inv X pl σ H s):S0 X pl σ H s ρ S env:=⟨J,I.sr,I.er⟩
theorem X74{pl:LA}{σ L:L2.St}{ρ ρ':LR}{H H':Hp}{s:Vc}{x:Vb}{n:Nat}{r:R Fl}(ac:X.stack=X.env::X.outer)(hf:X.env.frame=yz X.env.locals)(st:Stp X.K ρ ρ' H H')(h:XPd X (pc++pl) L ρ' H' n S' x s)(e:r=.ex n S'):
  notedBy Q0 X.A X.env (cameBackBy Q0 X.A X.env Qq2) x s:=by
 obtain⟨H2,ae,a,c,J,rfl,hn,hc,sr,af,fl⟩:=h.pre st;obtain⟨C,_,ha⟩:=(show ∃C,Xai X.K c=yz C/\H2 a=yz Qf from sr.ob n a _ hn hc);have J':Inv X pc L H2 s:=J.pins_of λp hp=>J.pin p (Ul _ (Vao _ hp));have ab:Fly X pc H2 a s.heap:=by
  rcases fl with fl|⟨f,hf,tr⟩;·exact .inl fl
  ·exact .inr ⟨f,hf,tr.imp λT ⟨h1,h2⟩=>⟨h1,λp hp=>h2 p (by
    rcases V9.mp hp with z|z;·exact Vao _ z
    ·exact Ul _ (Vao _ z))⟩⟩
 refine Xh2 J' ac hf ha ab λl h2 a0 hid aa hh up=>?_;obtain⟨k1,k2,k3,oe,vs,T,oT,ts,t1,⟨t2,t3⟩,t4,t5,t6,t7,t8,t9,t10⟩:=hh;have J2:Inv X pc L H2 Qt:=Inv.fly J' ha hid aa k1 up QD1;have nT:T ∉ frs X.stack:=λhm=>by obtain⟨_,o,e,nd⟩:=J2.stack.mem hm;have e':h2.get? T=yz o:=e;rw[t8]at e';cases e';exact nd ts t9
 have hT:∀o,s.heap.get? T=yz o->T∈l:=λo e=>by
  by_cases hm:T∈l;·exact hm
  ·rw[Veu l e hm]at t6;cases t6
 have nw:Xkg X pc T:=by
  cases q:s.heap.get? T with
  |some o=>exact aa T (hT o q) t7 nT|none=>
   refine QJ3
   ·by_cases hx:T∈X.ex;·exact .inl hx
    ·cases w:X.s₀.heap.get? T with
     |none=>exact .inr rfl|some o=>obtain⟨o',e⟩:=J'.base.there T o w hx;rw[q]at e;cases e
   have:=(J'.pin p hp).1;rw[z,q]at this;cases this
 have hH:H2 T=none:=by
  cases q:H2 T with
  |none=>rfl|some u=>
   obtain⟨o',e1⟩:=Xcc (J'.hok T u q);rcases hid.of T Qn3 with z|z|⟨z,_⟩;·exact aB0 z t7
   ·exact aB0 z nT
   rw[z]at q;cases q
 have fin:ExS X pc σ ρ H yw r Qn Qt:=
  ⟨n,S',L,e,Q92,H2,ae,a,c,J2,rfl,hn,hc,sr,af,.inr ⟨_,.inr rfl,oe,vs,T,oT,ts,t1,t4,t5,nw,t7,hH,t8,t9,t10⟩⟩
 show Vh _ _ (do {if (<-field Qn 1) == .none then {unsupported _};setFlight Qn X.env.frame}) _ _ _;refine Va QT2;rw[iN0 (show ¬ ((Vcg T==Vcq)=yx) from by simp)];have step:Vh Q0 X.A (setFlight Qn X.env.frame) (λ_ s2=>ExS X pc σ ρ H yw r Qn s2) Qq2 Qt:=by rw[hf];unfold setFlight;refine Va QT2;rw[iP0 (show(Vcg T != Vcq)=yx from by simp)];refine wpAny_setField (s:=Qt) t8 t9 (Vd9.mp t10).1 ?_;rw[show((yz X.env.locals).elim Vcq λf=>Vcy f)=Vcy X.env.locals from rfl,Heap.update_setField_same h2 T oT ts 3 _ t8 t9 t10];exact fin
 first
  |exact Va (Vf step)|exact step
inductive ForI(X:Cx)(pc:LA)(fp:LR)(tn:Nat->Heap->Prop)(src:Src)(J:L2.It)(t:Tg)(g:En->Sto->R Fl)(ρ:LR)(H:Hp)(r0:R Fl)(n:Nat)(s':Vc):Prop
 |mk (i:Nat) (σ':L2.St) (H':Hp) (ρ':LR) (S':Sto) (env':En) (h1:S0 X pc σ' H' s' ρ' S' env') (h2:tn i s'.heap) (h3:∀b∈fp,H' b=yy) (h4:SrcR X.K ρ' H' src J) (h5:Stp X.K ρ ρ' H H') (h6:X4 src.get t g n i env' S'≠.bad) (h7:X4 src.get t g n i env' S'=r0)
theorem X75{X:Cx}{tg:Expr}{it:Addr}{pc:LA}{fp:LR}{tn:Nat->Heap->Prop}{src:Src}{J:L2.It}{t:Tg}{g:En->Sto->R Fl}{ρ aa ab:LR}{H H3 H5 H7:Hp}{r0:R Fl}{n i:Nat}{S7:Sto}{s5 s7:Vc}{af:L2.St}{L:En}(T:Turn X.prog X.w X.K tg J fp it tn)(t5:tn Qn2 s5.heap)(ak:SrcR X.K aa H3 src J)(ah:Stp X.K ρ aa H H3)(ac:Stp X.K aa aa H3 H5)
  (I7:S0 X QN af H7 s7 ab S7 L) (ae:Stp X.K aa ab H5 H7) (ai:X4 src.get t g n Qn2 L S7≠.bad) (aj:X4 src.get t g n Qn2 L S7=r0):∃m,m<n+1/\ForI X pc fp tn src J t g ρ H r0 m s7:=by
 refine⟨n,Vcm _,i+1,af,H7,ab,S7,L,I7.rep I7.inv.unpinned,T.keep _ _ _ t5 λb hb o e=>QQ.1,λb hb=>?_,ak.mono Qw4,ah.trans Qw4,ai,aj⟩;obtain⟨o,e,_⟩:=T.obj _ _ t5 b hb;exact QQ.2.1
theorem Xyl{X:Cx}{tg:Expr}{it:Addr}{body:LM}{na:Bool}{pc:LA}{fp:LR}{tn:Nat->Heap->Prop}{src:Src}{J:L2.It}{t:Tg}{g:En->Sto->R Fl}{ρ ae:LR}{H H3 H5:Hp}{r0:R Fl}{n i:Nat}{S3:Sto}{s5 s6:Vc}{σ am:L2.St}{ac env6:En}{d:D}{Rr:Result->Vc->Prop}(hR:∀f s',OkS X pc σ ρ H yw r0 f s'->Rr Qk6 s')(hE:∀e s',cameBackBy Q0 X.A X.env Qh2 e s'->Rr Qu3 s')(ak:X.stack=X.env::X.outer)(hf:X.env.frame=yz X.env.locals)(hb:DSs X body na g)
  (T:Turn X.prog X.w X.K tg J fp it tn) (t5:tn Qn2 s5.heap) (ap:SrcR X.K ae H3 src J) (ah:Stp X.K ρ ae H H3) (ai:Stp X.K ae ae H3 H5) (I6:S0 X QN am H5 s6 ae S3 env6) (g1:src.get S3 i=yz Qa3) (e6:Xn t d ac=yz env6)
  (aa:X4 src.get t g Qm3 i ac S3≠.bad) (L:X4 src.get t g Qm3 i ac S3=r0):
  Vh Q0 X.A (execs body X.env) (λf s'=>match f with
   |.next=>∃m,m<n+1/\ForI X pc fp tn src J t g ρ H r0 m s'|.cont=>∃m,m<n+1/\ForI X pc fp tn src J t g ρ H r0 m s'|.brk=>Rr QB2 s'
   |.ret v=>Rr (.ok Q15) s') (notedBy Q0 X.A X.env λe s'=>Rr Qu3 s') s6:=by
 simp only[X4,g1,e6]at aa L;cases e7:g env6 S3 with
 |bad=>rw[e7]at aa;cases aa rfl|ex m S7=>
  rw[e7]at L;refine Vp (hb _ _ _ _ _ _ _ I6 (by rw[e7];exact λz=>nomatch z)) (λfl s7 z7=>?_) λx7 s7 z7=>?_;·obtain⟨_,_,e,_⟩:=z7;rw[e7]at e;cases e
  ·obtain⟨m',S8,ab,e,_,z⟩:=z7;rw[e7]at e;cases e;exact Vp (X74 ak hf (ah.trans ai) z L.symm) (λ_ _ z=>hE _ _ z) λ_ _ z=>hE _ _ z|ok x7 S7=>
  rw[e7]at aa L;refine hb.ok I6 e7 λfl s7 z7=>?_;cases x7 with
  |nx e=>obtain⟨rfl,ab,H7,aj,I7,af,_⟩:=z7;exact X75 T t5 ap ah ai I7 af aa L|brk e=>obtain⟨rfl,ab,H7,aj,I7,af⟩:=z7;exact hR _ _ ⟨.nx e,S7,L.symm,rfl,ab,H7,aj,I7.rep I7.inv.unpinned,ah.trans Qv4,λz=>nomatch z⟩|rt d'=>obtain⟨u',v',ab,H7,aj,rfl,I7,al,ao,an,af⟩:=z7;exact hR _ _ ⟨.rt d',S7,L.symm,u',v',ab,H7,aj,rfl,I7.unpinned,al,ao,an,ah.trans Qv4⟩
theorem X28{X:Cx}{tg:Expr}{it:Addr}{body:LM}{na:Bool}{pc:LA}{fp:LR}{tn:Nat->Heap->Prop}{src:Src}{J:L2.It}{t:Tg}{g:En->Sto->R Fl}{ρ:LR}{H:Hp}{r0:R Fl}{n0:Nat}{s:Vc}{σ:L2.St}{Rr:Result->Vc->Prop}(hR:∀f s',OkS X pc σ ρ H yw r0 f s'->Rr Qk6 s')(hE:∀e s',cameBackBy Q0 X.A X.env Qh2 e s'->Rr Qu3 s')
  (ab:X.stack=X.env::X.outer) (hf:X.env.frame=yz X.env.locals) (hc:X.calm=yx) (hg:DG X tg t) (hb:DSs X body na g) (T:Turn X.prog X.w X.K tg J fp it tn) (L:∀ {H':Hp},QL1->∀b∈fp,Xaj X pc H' b) (h:ForI X pc fp tn src J t g ρ H r0 n0 s):Vdh Q0 X.A (.forLoop tg Q20 body [] X.env) Rr s:=by
 refine codeAny_forLoop_any (ForI X pc fp tn src J t g ρ H r0) ?_ n0 h;rintro n s3 ⟨i,σ3,H3,ρ3,S3,env3,I3,t3,fr3,sr3,st3,nb3,eq3⟩;cases n with
 |zero=>cases nb3 rfl|succ n=>
  have ai:=nb3;simp only[X4]at nb3;cases g1:src.get S3 i with
  |none=>rw[g1]at nb3;cases nb3 rfl|some o=>
   rw[g1]at nb3;cases o with
   |none=>refine thn (T.done X rfl rfl rfl hc i pc s3 σ3 H3 _ I3.inv QM4 t3 Qy3) λr s4 zz=>?_;obtain⟨hr,I4⟩:=zz;subst hr;exact Vh4 (hR _ _ ⟨.nx env3,S3,by rw[<-eq3];simp only[X4,g1],rfl,σ3,H3,ρ3,QX3,st3,λz=>nomatch z⟩)|some d=>
    dsimp only at nb3;obtain⟨go,yl⟩:=sr3.go I3 g1;refine thn (T.item X rfl rfl rfl hc i pc s3 σ3 H3 _ I3.inv QM4 t3 go) λr s4 zz=>?_;obtain⟨u,hr,h4⟩:=zz;subst hr;refine thn h4 λ_ s5 zz=>?_;obtain⟨x,H5,I5,r5,y5,t5,ah⟩:=zz;obtain⟨ac,aa,af⟩:=yl x H5 y5;have ae:=I5.pinned (L ah) Qe4;cases e6:Xn t d env3 with
    |none=>rw[e6]at nb3;cases nb3 rfl|some env6=>rw[e6]at nb3;dsimp only at nb3;refine hg QN s5 σ3 H5 ρ3 S3 env3 d x u env6 _ _ ⟨ae,ac,I3.er.mono aa⟩ e6 af r5 λs6 aj I6=>?_;exact Xyl hR hE ab hf hb T t5 sr3 st3 aa I6 g1 e6 ai eq3
theorem X76(ac:X.stack=X.env::X.outer)(hf:X.env.frame=yz X.env.locals)(hc:X.calm=yx)(hi:DI X tg iter fi)(hg:DG X tg t)(hb:DSs X body na g)(hs:∀x,Vb8 iter X.env x=pure x):
  DS X (.For tg iter body [] pos) yw (λenv S=>Qp3.bind λsrc S=>X4 src.get t g Qt0 0 env S):=by
 intro pc s σ H ρ S env I L;dsimp only at L ⊢;cases q:fi env S with
 |bad=>rw[q]at L;cases L rfl|ex n S1=>
  refine wpAny_For (Vp (hi pc s σ H ρ S env _ I QD λx s' z=>?_) Qh λ_ _ z=>z) hs;·rw[q]at z;obtain⟨m,S2,e,z⟩:=z;cases e;exact .of .refl z rfl
  ·obtain⟨src,S2,_,_,_,_,_,_,e,_⟩:=h2;rw[q]at e;cases e|ok src S1=>
  rw[q]at L;simp only[Rk0]at L ⊢;refine wpAny_For (Vp (hi pc s σ H ρ S env (ExS X pc σ ρ H yw (X4 src.get t g Q81 0 env S1)) I QD λx s' z=>?_) Qh λ_ _ z=>z) hs;·rw[q]at z;obtain⟨m,S2,e,z⟩:=z;cases e
  ·obtain⟨aj,S2,it,fp,tn,J,H2,af,e1,rfl,I2,T,t0,f2,ai,ae,ab⟩:=h2;rw[q]at e1;cases e1;have aa:∀ {H':Hp},QL1->∀b∈fp,Xaj X pc H' b:=λhn b hb=>⟨hn b hb,Q06.2⟩;exact X28 Q33 Q33 ac hf hc hg hb T aa ⟨0,σ,H2,af,S1,env,I.step I2 ae ab,t0,λb hb=>Q06.1,ai,ab,L,rfl⟩
universe e
theorem Xeu(env:Vbk)(P:Str->Addr->Prop):∀(names:List Qe2) (cs:List Qz),(∀x∈names,x.2=.free->∃c,env.cells.lookup x.1=yz c/\P x.1 c)->(∀x c,cs.lookup x=yz c->P x c) ->
  ∃cl,(forIn names cs λ(x:Str×Vfd) (r:List Qz)=>(match x with
   | (name,kind)=>if (kind==Vhj)=yx then do
     let a <- cellOf env name
     pure (Vd0 ((name,a)::r))
    else pure Qc5:Sem (ForInStep Q56)))=(pure cl:Sem Q56)/\(∀x c,cl.lookup x=yz c->P x c)/\(∀x c,cs.lookup x=yz c->∃c',cl.lookup x=yz c')/\∀x∈names,x.2=.free->∃c,cl.lookup x.1=yz c
 |[],cs,_,hc=>⟨cs,rfl,hc,λx c h=>⟨c,h⟩,λ_ h=>nomatch h⟩| (n,k)::r,cs,hf,hc=>by
  by_cases hk:k=.free
  ·subst hk
   obtain⟨c,aa,ac⟩:=hf (n,.free) Uv rfl;obtain⟨cl,e,h1,h2,h3⟩:=Xeu env P r ((n,c)::cs) Qb2 (λx d h=>by
    rw[Val]at h;by_cases hx:x==n;·rw[hx]at h;cases h;rw[eq_of_beq hx];exact ac
    ·have ab:Qx5=false:=by simpa using hx
     rw[ab]at h;exact hc x d h)
   refine⟨cl,?_,h1,λx d h=>?_,λx hx L=>?_⟩;·rw[Vh5];simp only[beq_self_eq_true,if_true,cellOf,aa,pure_bind];exact e
   ·by_cases hx:x==n;·exact h2 x c (by rw[Val,hx])
    ·have ab:Qx5=false:=by simpa using hx
     exact h2 x d (by rw[Val,ab];exact h)
   rcases V0.mp hx with rfl|hx;·exact h2 n c (by rw[Val,beq_self_eq_true])
   ·exact h3 x hx L
  obtain⟨cl,e,h1,h2,h3⟩:=Xeu env P r cs Qb2 hc;refine⟨cl,?_,h1,h2,λx hx L=>?_⟩
  ·rw[Vh5];have ae:(k==Vhj)=false:=by simpa using hk
   simp only[ae,Uo,if_false,pure_bind];exact e
  rcases V0.mp hx with rfl|hx;·exact aB0 L hk
  ·exact h3 x hx L
theorem Xi4(hf:∀x∈scope.names,x.2=.free->∃c,env.cells.lookup x.1=yz c):
  ∃L,closureFor scope env=pure L/\(∀x c,L.lookup x=yz c->env.cells.lookup x=yz c/\QM3∈scope.names)/\∀x∈scope.names,x.2=.free->∃c,L.lookup x.1=yz c:=by
 obtain⟨L,e,h1,_,h3⟩:=Xeu env (λx c=>env.cells.lookup x=yz c/\QM3∈scope.names) scope.names [] (λx hx hk=>let ⟨c,hc⟩:=hf x hx hk;⟨c,hc,hc,hk▸hx⟩) (λx c h=>by simp at h);refine⟨L,?_,h1,h3⟩;unfold closureFor;simp only[bind_pure];exact e
noncomputable abbrev Xmy(ifs:LX)(env:Vbk):Sem Bool:=forIn ifs yx λc r=>if r=yx then do let ok <- isTrue c env QG5;pure QQ6 else pure Qc5
noncomputable def cE(k:Bool)(elt:Expr)(gens:List Vbp)(scope:U1)(pos:Pos):Expr:=.ListComp elt gens scope pos
noncomputable def aN(k:Bool):String:="list.append"
def Xki(k:Bool)(M:Model)(A:U7)(elt:Expr)(gens:List Vbp)(scope:U1)(pos:Pos)(d:Nat)(acc:Vb)(env:Vbk)(P:Vc->Prop)(s:Vc):Prop:=
 match gens[d+1]? with
 |none=>Vh M A (eval elt env) (λx s4=>Vh M A (call (.builtin (aN k)) [acc,x]) (λ_ s5=>P s5) QG s4) QG s|some g'=>g'.is_async=0/\(∀x,Vb8 g'.iter env x=pure x)/\Vh M A (eval g'.iter env) (λx s4=>Vh M A (pyIter x) (λL s5=>Vdh M A (.compStart Qd (d+1) L acc env) (λr s6=>match r with|.ok _=>P s6|.error _=>False) s5) QG s4) QG s
section
variable{prog:Ue}{w:Uy}{A:U7}{s:Vc}{R:Result->Vc->Prop}
theorem Xu4(hg:gens[d]?=yz Qx2)(hm:A.mark yy=A)(I:Nat->Vc->Prop)
  (turn:∀n s,I n s->Vh Q4 A (pyNext it) (λr s₁=>match r with
   |none=>R QB2 s₁
   |some v=>Vh Q4 A (Vez target it v) (λ_ ae=>Vh Q4 A (assign target env v) (λ_ ah=>Vh Q4 A (Xmy ifs env) (λok af=>if ok=yx then Xki k Q4 A elt gens scope pos d acc env (λac=>∃m,m<n/\I m ac) af else ∃m,m<n/\I m af) QG ah) QG ae) QG s₁) QG s)
  (n:Nat) (h:I n s):Vdh Q4 A QE2 R s:=by
 all_goals
  refine codeAny_loop rfl I (λn s hI=>?_) n h;show Vh _ A ((compTurn _ d it acc env).onRaise (λx=>do noteFrame x env;theTreesLotGoes x)) _ _ s;refine wpAny_noted (Vp (E:=λ_ _=>False) ?_ Q33 λ_ _ z=>z.elim);unfold compTurn;simp only[cE,hg,show QZ2=yw from rfl,Uo,if_false];refine Va (Veb (Va (Vp (turn n s hI) (λr s₁ ai=>?_) λ_ _ z=>z)));cases r with
  |none=>exact Vf ai|some v=>
   refine Va (Vp ai (λ_ ae al=>Va (Vp al (λ_ ah am=>Va (Vp am (λok af L=>?_) λ_ _ z=>z)) λ_ _ z=>z)) λ_ _ z=>z);cases ok with
   |false=>rw[iN0 U5]at L;simp only[Uo,if_false];exact Vf ⟨rfl,L⟩|true=>
    rw[iP0 rfl]at L;simp only[if_true];unfold Xki at L;cases hq:gens[d+1]? with
    |none=>
     rw[hq]at L;simp only[bind_assoc,pure_bind]
     first
      |exact Va (Vp L (λx aj aa=>Va Qw0) λ_ _ z=>z)
      |exact Va (Vp L (λx aj aa=>Va (Veb (Va Qw0))) λ_ _ z=>z)
    |some g'=>
     rw[hq]at L;obtain⟨ha,hf,L⟩:=L;simp only[ha,show QZ2=yw from rfl,Uo,if_false];refine Va (Vp L (λx aj aa=>Va (Veb (Va (wpAny_of_eq (hf x) (Va (Vak (Vp aa (λao ac ab=>?_) λ_ _ z=>z))))))) λ_ _ z=>z);refine Va (wpAny_runOwn ?_);rw[hm];refine Vgm ab λr an ak=>?_;cases r with
     |ok f=>exact Vf ⟨rfl,ak⟩|error e=>exact ak.elim
theorem Xsu(hg:gens[d]?=yz Qx2)
  (h0:Vdh Q4 A QE2 R s)
  (h:Vh Q4 A (pyIter it) (λit' s'=>Vdh Q4 A (.compLoop Qd d it' acc env) R s') QG s):
  Vdh Q4 A (.compStart Qd d it acc env) R s:=by
 all_goals
  refine codeAny_of_tree ?_;show Vh _ _ ((compStart _ d it acc env).onRaise (λx=>do noteFrame x env;standAt theWindowsPlace)) _ _ s;refine wpAny_notedAt ?_;unfold compStart;simp only[cE,clausesOf,hg,Option.elim,show QZ2=yw from rfl,Uo,if_false];refine Va (wpAny_askSetting (wpAny_ite ?_));split
  ·first
    |exact Va (Vf (Vf (And.intro rfl h0)))|exact Vf (And.intro rfl h0)
  ·refine Va QR6;refine Va (Veb (Va (Vp h (λit' s' h'=>Vf (And.intro rfl h')) λ_ _ x=>x.elim)))
universe e
section
variable{X:Cx}{pc:LA}{σ:L2.St}{H:Hp}{s:Vc}{ρ:LR}{S S':Sto}{env:En}{Q:VP}{E:VP}
def DTs(X:Cx)(ifs:LX)(f:En->Sto->R Bool):Prop:=
 ∀(pc:LA) (s:Vc) (σ:L2.St) (H:Hp) (ρ:LR) (S:Sto) (env:En) (b:Bool) (S':Sto) (Q:Bool->Vc->Prop) (E:VP),S0 X pc σ H s ρ S env->f env S=.ok b S' ->
  (∀s' H' ρ',S0 X pc σ H' s' ρ' S' env->Stp X.K ρ ρ' H H'->Q b s')->Vh Q0 X.A (Xmy ifs X.env) Q E s
theorem Xhp{M:Model}{A:U7}{env:Vbk}{s:Vc}{Q:Bool->Vc->Prop}{E:VP}(h:Q yw s):∀ifs:LX,
  Vh M A (forIn ifs yw λc r=>if r=yx then do let ok <- isTrue c env QG5;pure QQ6 else pure Qc5) Q E s
 |[]=>Vf h|c::r=>by rw[Vh5];simp only[Uo,if_false];exact Va (Vf (Xhp h r))
theorem X29:DTs X [] (λ_ S=>.ok yx S):=by intro pc s σ H ρ S env b S' Q E I h L;cases h;exact Vf (L s H ρ I .refl)
theorem Xym{cs:LX}{fc:En->Sto->R D}{g:En->Sto->R Bool}(hc:DT X c Q40)(hr:DTs X cs g):
  DTs X (c::cs) (λenv S=>QC0.bind λx S=>match Xe S x with|some yx=>g env S|some yw=>.ok yw S|none=>.bad):=by
 intro pc s σ H ρ S env b S' Q E I h hQ;dsimp only at h;cases q:fc env S with
 |bad=>rw[q]at h;cases h|ex n S1=>rw[q]at h;cases h|ok x S1=>
  rw[q]at h;simp only[Rk0]at h;unfold Xmy;rw[Vh5];simp only[if_true];cases t:Xe S1 x with
  |none=>rw[t]at h;cases h|some r=>
   rw[t]at h;refine Va (Va (hc.ok I QF λs2 H2 L I2 aa=>Vf ?_));cases r with
   |true=>exact hr pc s2 σ H2 L S1 env b S' Q E I2 h λs3 H3 ab I3 ac=>hQ s3 H3 ab I3 (aa.trans ac)|false=>cases h;exact Xhp (hQ s2 H2 L I2 aa) cs
theorem Mon.trans{K:Ve}{ρ' ρ'':LR}{H' H'':Hp}(x:Mon K ρ ρ' H H')(y:Mon K ρ' ρ'' H' H''):Mon K ρ ρ'' H H'':=
 ⟨λn a h=>y.pre n a (x.pre n a h),λa xs h=>y.tup a xs QT4,λa o u h=>y.frz a o u QA4⟩
theorem Xsv:∀(L:LN) (ds:LD) (env:En),i ∉ L->QY2[i]?=env[i]?:=by
 intro L;induction L with
 |nil=>intro ds env _;simp|cons j js ih=>
  intro ds env hn;cases ds with
  |nil=>simp|cons d ds=>simp only[Vgp,Vbv];rw[ih ds _ (λz=>hn (U2 _ z)),Vap (λz=>hn (by simp[z]))]
theorem Xp0{t:Tg}{d:D}{env L:En}(h:Xn t d env=yz L){i:Nat}(hi:i ∉ slots t):L[i]?=env[i]?:=by
 cases t with
 |var j=>simp only[Xn,Vr]at h;subst h;have:j≠i:=λz=>hi (by simp[slots,z]);rw[Vap this]|tup is=>
  cases d with
  |tup ds=>
   simp only[Xn]at h;split at h;·cases h;exact Xsv is ds env hi
   ·cases h|_=>cases h
def Xfj:Type:=LR->Hp->LD->Prop
def Xi5(K:Ve)(Da:Addr)(AR:Xfj):Prop:=∀(ρ ρ':LR) (H H':Hp) (L:LD),AR ρ H L->Da ∉ ρ->Stp K ρ ρ' H H'->Da ∉ ρ'/\AR ρ' H' L
noncomputable def LstA(K:Ve)(Da:Addr):Xfj:=fun ρ H L=>∃vs,H Da=yz Q30/\RDs K ρ H L vs
def Xct(k:Bool)(AR:Xfj)(Y:Cx)(Da:Addr)(elt:Expr)(gens:List Vbp)(scope:U1)(cpos:Pos)(d:Nat)(body:En->LD->Sto->R LD):Prop:=
 ∀(pc:LA) (s:Vc) (σ:L2.St) (H:Hp) (ρ:LR) (S S':Sto) (env:En) (aa L:LD) (H0:Hp) (ρ0:LR) (P:Vc->Prop),S0 Y pc σ H s ρ S env->Da ∉ ρ->AR ρ H aa->H0 Da=yy->Stp Y.K ρ0 ρ H0 H ->
  body env aa S=.ok L S'->(∀s' ab H' ρ',S0 Y pc ab H' s' ρ' S' env->Da ∉ ρ'->AR ρ' H' L->Stp Y.K ρ0 ρ' H0 H'->Mon Y.K ρ ρ' H H'->P s') ->
  Xki k Qj0 Y.A elt gens scope cpos d QF0 Y.env P s
theorem Stp.out{K:Ve}{ρ':LR}{H':Hp}{Da:Addr}{o:HO}(st:Stp K ρ ρ' H H')(hD:H Da=yz o)(L:Da ∉ ρ):Da ∉ ρ'/\H' Da=yz o:=
 ⟨λhm=>(st.new Da hm).elim L (λz=>by rw[hD]at z;cases z),st.keep Da o hD L⟩
theorem LstA.ok{K:Ve}{Da:Addr}:Xi5 K Da (LstA K Da):=fun ρ ρ' H H' acc ⟨vs,h,r⟩ hn st=>⟨Qn4.1,vs,Qn4.2,r.mono st⟩
inductive ClI(Y:Cx)(pc:LA)(Da:Addr)(AR:Xfj)(fp:LR)(tn:Nat->Heap->Prop)(src:Src)(J:L2.It)(t:Tg)(f:En->LD->Sto->R LD)(ρ ρ0:LR)(H H0:Hp)(env:En)(accf:LD)(Sf:Sto)(n:Nat)(s':Vc):Prop
 |mk (i:Nat) (σ':L2.St) (H':Hp) (ρ':LR) (S':Sto) (env':En) (acc':LD) (h1:S0 Y pc σ' H' s' ρ' S' env') (h2:tn i s'.heap) (h3:∀b∈fp,H' b=yy) (h4:SrcR Y.K ρ' H' src J) (h5:Mon Y.K ρ ρ' H H') (h6:Stp Y.K ρ0 ρ' H0 H') (h7:Da ∉ ρ') (h8:AR ρ' H' acc') (h9:∀i,i ∉ slots t->env'[i]?=env[i]?) (h10:X9 src.get t f n i env' acc' S'=.ok accf Sf)
section
variable{AR:Xfj}{Y:Cx}{Da it:Addr}{tg:Expr}{t:Tg}{src:Src}{J:L2.It}{fp:LR}{tn:Nat->Heap->Prop}{f:En->LD->Sto->R (LD)}{pc:LA}{H H0:Hp}{ρ ρ0:LR}{Sf S7:Sto}{env env6:En}{accf acc7:LD}{n i:Nat}{s5:Vc}
theorem X1q{s7:Vc}{aa:L2.St}{H7:Hp}{L:LR}(T:Turn Y.prog Y.w Y.K tg J fp it tn)(t5:tn Qn2 s5.heap)(ai:∀i,i ∉ slots t->env6[i]?=env[i]?)(ab:X9 src.get t f n Qn2 env6 acc7 S7=.ok accf Sf)
  (I7:S0 Y QN aa H7 s7 L S7 env6) (aj:SrcR Y.K L H7 src J) (ac:Mon Y.K ρ L H H7) (ae:Stp Y.K ρ0 L H0 H7) (ah:Da ∉ L) (af:AR L H7 acc7):∃m,m<n+1/\ClI Y pc Da AR fp tn src J t f ρ ρ0 H H0 env accf Sf m s7:=by
 refine⟨n,Vcm _,i+1,aa,H7,L,S7,env6,acc7,I7.rep I7.inv.unpinned,T.keep _ _ _ t5 λb hb o e=>QQ.1,λb hb=>?_,aj,ac,ae,ah,af,ai,ab⟩;obtain⟨o,e,_⟩:=T.obj _ _ t5 b hb;exact QQ.2.1
theorem X3a{k:Bool}{elt:Expr}{gens:List Vbp}{ifs:LX}{scope:U1}{cpos:Pos}{d:Nat}{tf:En->Sto->R Bool}{body:En->LD->Sto->R (LD)}{S3:Sto}{ab:LD}{s6:Vc}{af:L2.St}{H3 H5:Hp}{L:LR}(hA:Xi5 Y.K Da AR)(hT:DTs Y ifs tf)(hB:Xct k AR Y Da elt gens scope cpos d body)(h0:H0 Da=yy)
  (T:Turn Y.prog Y.w Y.K tg J fp it tn) (t5:tn Qn2 s5.heap) (aw:SrcR Y.K L H3 src J) (ac:Stp Y.K L L H3 H5) (ap:Stp Y.K ρ0 L H0 H3) (an:Mon Y.K ρ L H H3) (au:Da ∉ L) (av:AR L H5 ab) (ai:∀i,i ∉ slots t->env6[i]?=env[i]?) (I6:S0 Y QN af H5 s6 L S3 env6) (e7:X8 tf body env6 ab S3=.ok acc7 S7)
  (am:X9 src.get t Qe n Qn2 env6 acc7 S7=.ok accf Sf):
  Vh Qj0 Y.A (Xmy ifs Y.env) (λok s'=>if ok=yx then Xki k Qj0 Y.A elt gens scope cpos d QF0 Y.env (λs'=>∃m,m<n+1/\ClI Y pc Da AR fp tn src J t Qe ρ ρ0 H H0 env accf Sf m s') s' else ∃m,m<n+1/\ClI Y pc Da AR fp tn src J t Qe ρ ρ0 H H0 env accf Sf m s') QG s6:=by
 unfold X8 at e7;cases e8:tf env6 S3 with
 |bad=>rw[e8]at e7;cases e7|ex m S8=>rw[e8]at e7;cases e7|ok b8 S8=>
  rw[e8]at e7;simp only[Rk0]at e7;refine hT QN s6 af H5 L S3 env6 b8 S8 _ _ I6 e8 λs8 H8 ao I8 aa=>?_;obtain⟨ak,aj⟩:=hA _ _ _ _ _ av au aa;have ae:=ap.trans Qb0;have ah:SrcR Y.K ao H8 src J:=aw.mono Qb0;cases b8 with
  |false=>rw[iN0 U5]at e7 ⊢;cases e7;exact X1q T t5 ai am I8 ah QF3 ae ak aj|true=>rw[iP0 rfl]at e7 ⊢;exact hB QN s8 af H8 ao S8 S7 env6 ab acc7 H0 ρ0 _ I8 ak aj h0 ae e7 λs9 az H9 ay I9 ar aq ax al=>X1q T t5 ai am I9 (ah.mono' al) (QF3.trans al) ax ar aq
universe e
theorem Xu5{k:Bool}{AR:Xfj}{Y:Cx}{Da it:Addr}{elt tg iter:Expr}{gens:List Vbp}{ifs:LX}{scope:U1}{cpos:Pos}{d:Nat}{t:Tg}{src:Src}{J:L2.It}{fp:LR}{tn:Nat->Heap->Prop}{tf:En->Sto->R Bool}{body:En->LD->Sto->R (LD)}
  {pc:LA} {σ:L2.St} {H H0:Hp} {s:Vc} {ρ ρ0:LR} {S Sf:Sto} {env:En} {acc accf:LD} {P:Vc->Prop} (hA:Xi5 Y.K Da AR) (hc:Y.calm=yx) (hg:gens[d]?=yz QW)
  (T:Turn Y.prog Y.w Y.K tg J fp it tn) (hG:DG Y tg t) (hT:DTs Y ifs tf) (hB:Xct k AR Y Da elt gens scope cpos d body) (h0:H0 Da=yy)
  (I:S0 Y pc σ H s ρ S env) (t0:tn 0 s.heap) (f0:∀b∈fp,Xaj Y pc H b) (sr:SrcR Y.K ρ H src J) (hn:Da ∉ ρ) (ha:AR ρ H acc) (st0:Stp Y.K ρ0 ρ H0 H)
  (hr:X9 src.get t Qe Qt0 0 env acc S=.ok accf Sf)
  (hP:∀s' ae H' ρ' ab,S0 Y pc ae H' s' ρ' Sf ab->(∀i,i ∉ slots t->ab[i]?=env[i]?)->Da ∉ ρ'->AR ρ' H' accf->Stp Y.K ρ0 ρ' H0 H'->Mon Y.K ρ ρ' H H'->P s'):
  Vdh Qj0 Y.A (.compStart QI2 d Q20 QF0 Y.env) Qo0 s:=by
 have aa:Vdh Qj0 Y.A (.compLoop QI2 d Q20 QF0 Y.env) Qo0 s:=by
  have L:∀ {H':Hp},QL1->∀b∈fp,Xaj Y pc H' b:=λhn b hb=>⟨hn b hb,Q16.2⟩;refine Xu4 hg rfl (ClI Y pc Da AR fp tn src J t Qe ρ ρ0 H H0 env accf Sf) ?_ Qt0 ⟨0,σ,H,ρ,S,env,acc,I,t0,λb hb=>Q16.1,sr,Stp.refl.toMon,st0,hn,ha,λ_ _=>rfl,hr⟩;rintro n s3 ⟨i,σ3,H3,ρ3,S3,env3,acc3,I3,t3,fr3,sr3,mo3,st3,hn3,ha3,hs3,eq3⟩;cases n with
  |zero=>cases eq3|succ n=>
   simp only[X9]at eq3;cases g1:src.get S3 i with
   |none=>rw[g1]at eq3;cases eq3|some o=>
    rw[g1]at eq3;cases o with
    |none=>cases eq3;refine thn (T.done Y rfl rfl rfl hc i pc s3 σ3 H3 _ I3.inv QM4 t3 Qy3) λr s4 zz=>?_;obtain⟨hr,I4⟩:=zz;subst hr;exact hP s4 σ3 H3 ρ3 env3 QX3 hs3 hn3 ha3 st3 mo3|some dd=>
     dsimp only at eq3;obtain⟨go,yl⟩:=sr3.go I3 g1;refine thn (T.item Y rfl rfl rfl hc i pc s3 σ3 H3 _ I3.inv QM4 t3 go) λr s4 zz=>?_;obtain⟨u,hr,h4⟩:=zz;subst hr;refine thn h4 λ_ s5 zz=>?_;obtain⟨x,H5,I5,r5,y5,t5,al⟩:=zz;obtain⟨af,ac,ak⟩:=yl x H5 y5;have ai:=I5.pinned (L al) Qe4;cases e6:Xn t dd env3 with
     |none=>rw[e6]at eq3;cases eq3|some env6=>
      rw[e6]at eq3;dsimp only at eq3;refine hG QN s5 σ3 H5 ρ3 S3 env3 dd x u env6 _ _ ⟨ai,af,I3.er.mono ac⟩ e6 ak r5 λs6 am I6=>?_;obtain⟨_,aj⟩:=hA _ _ _ _ _ ha3 hn3 ac;cases e7:X8 tf body env6 acc3 S3 with
      |bad=>rw[e7]at eq3;cases eq3|ex m S7=>rw[e7]at eq3;cases eq3|ok acc7 S7=>rw[e7]at eq3;dsimp only at eq3;have ah:∀i,i ∉ slots t->env6[i]?=env[i]?:=λi hi=>(Xp0 e6 hi).trans (hs3 i hi);exact X3a hA hT hB h0 T t5 sr3 ac st3 mo3 hn3 aj ah I6 e7 eq3
 exact Xsu hg aa (T.self Y.A 0 s _ _ t0 aa)
theorem Xl6(hg:gens[d+1]?=yy)(he:DE Y elt fe):
  Xct yw (LstA Y.K Da) Y Da elt gens scope cpos d (λenv acc S=>(fe env S).bind λy S=>if (ll acc)<big then .ok (acc++[y]) S else .bad):=by
 intro pc s σ H ρ S S' env acc af H0 ρ0 P I hn ⟨vs,hD,ra⟩ h0 st0 hb hP;unfold Xki;rw[hg];dsimp only at hb ⊢;cases q:fe env S with
 |bad=>rw[q]at hb;cases hb|ex n S1=>rw[q]at hb;cases hb|ok y S1=>
  rw[q]at hb;simp only[Rk0]at hb;split at hb
  ·rename_i hz;cases hb;refine he.ok I q λu s1 v H1 ab I1 rv rd L=>?_;obtain⟨ae,aa⟩:=L.out hD hn;have ac:QN1<V3:=by rw[<-ra.length];exact Uh hz Xfi
   refine mtd (X:=Y) (Q':=λz H'=>z=.non/\H'=upd H1 Da Q34) Xlz I1.inv (show RelV QF0 QF0 from rfl) (.cons rv .nil) ⟨Da,vs,v,rfl,rfl,aa,ac,rfl,rfl⟩ λw s2 z H2 J rz zz=>?_;obtain⟨e1,e2⟩:=zz;subst e1 e2;have mo:Mon Y.K ab ab H1 (upd H1 Da Q34):=Mon.own aa;refine hP s2 σ _ ab ⟨J,I1.sr.own aa ae,I1.er.mono' mo⟩ ae ⟨vs++[v],Xl,(RDs.mono' mo _ _ (ra.mono L)).append (.cons (RD.mono' mo _ _ rd) .nil)⟩ (Qm4.own h0 aa) ⟨λn a h=>L.pre n a h,λa xs h=>mo.tup a xs (L.tup a xs h),λa o u h=>mo.frz a o u (L.frz a o u h)⟩
  cases hb
theorem Xu6{k:Bool}{AR:Xfj}(hA:Xi5 Y.K Da AR)(hc:Y.calm=yx)
  (hg:gens[d+1]?=yz ⟨tg2,iter2,ifs2,0⟩) (hi:DI Y tg2 iter2 fi) (hs:∀x,Vb8 iter2 Y.env x=pure x) (hG:DG Y tg2 t2) (hT:DTs Y ifs2 tf) (hB:Xct k AR Y Da elt gens scope cpos (d+1) body):
  Xct k AR Y Da elt gens scope cpos d (λenv acc S=>if Xfh t2 env then Qp3.bind λsrc S=>X9 src.get t2 Qe Qt0 0 env acc S else .bad):=by
 intro pc s σ H ρ S S' env acc ao H0 ρ0 P I hn ha h0 st0 hb hP;unfold Xki;rw[hg];dsimp only at hb ⊢;split at hb
 ·rename_i ak;refine⟨rfl,hs,?_⟩;cases q:fi env S with
  |bad=>rw[q]at hb;cases hb|ex n S1=>rw[q]at hb;cases hb|ok src S1=>
   rw[q]at hb;simp only[Rk0]at hb;refine Vp Q21 (λv s1 h1=>Vp h1 (λar s2 h2=>?_) λ_ _ z=>z) λ_ _ z=>z;·rw[q]at z;obtain⟨m,S2,e,z⟩:=z;cases e
   ·obtain⟨an,S2,it,fp,tn,J,H2,aq,e1,rfl,I2,T,t0,f2,am,ae,L⟩:=h2;rw[q]at e1;cases e1;obtain⟨ab,ah⟩:=hA _ _ _ _ _ ha hn L;refine Xu5 (ρ0:=ρ0) (H0:=H0) hA hc hg T hG hT hB h0 (I.step I2 ae L) t0 f2 am ab ah Qm4 hb λs' aa H' ρ' ap I' ai aj al af ac=>?_;refine hP s' aa H' ρ' ⟨I'.inv,I'.sr,QY3⟩ aj al af (L.toMon.trans ac);·have h1:=I.er.len;have h2:=I.inv.len;have h3:=I'.inv.len;omega
    ·by_cases hi:i∈slots t2;·have z:=Vag.mp ak i hi;rw[e]at z;cases z
     ·exact I'.er.val i d ((ai i hi).trans e)
 ·cases hb
universe e
noncomputable def hid(own:LS)(y:Str):Str:=if own.contains y then Vau "0" ++ y else y
noncomputable def Xau(N own:LS):LS:=N.map (hid own)++own
structure ScOk(outer sc:U1)(N own:LS):Prop where
 kind:sc.kind=.function
 okind:outer.kind=.function
 nd:(Xau N own).Nodup
 cel:∀y∈sc.names,y.2=.cell->y.1∈own
 apart:∀y∈sc.names,y.2=.free->y.1 ∉ own
 free:∀y∈sc.names,y.2=.free->outer.names.lookup y.1=yz .cell\/outer.names.lookup y.1=yz .free
 loc:∀y,sc.names.lookup y=yz .local->y∈own
 names:∀x∈sc.names,x.2=.local->sc.names.lookup x.1=yz .local
 hidn:∀y∈N,own.contains y=yx->sc.names.lookup (Vau "0" ++ y)=yy
section
variable{X:Cx}{pc:LA}{σ:L2.St}{H:Hp}{s:Vc}{ρ:LR}{S:Sto}{env:En}{Q:VP}{E:VP}
noncomputable def blk(X:Cx)(pc:LA)(s:Vc)(H:Hp)(sc:U1)(L:List Qz)(C:Addr)(own:LS)(fp:LR):Cx:=
 { X with N:=Xau X.N own,s₀:=s,H₀:=H,env:=compEnvC sc L C X.env,outer:=X.stack,stack:=X.stack,ex:=fp,fn:=λx=>own.contains x,pn:=X.pn++pc}
theorem Xcu{names:List Qe2}(h:names.lookup x=yz k):(x,k)∈names:=Vcx h
theorem Xp1{L:List Qz}(h:L.lookup x=yz c):Qd6∈L:=Vcx h
theorem Xb1(sc:U1)(env:Vbk)(x:Str):(relabel sc env).names.lookup x=(sc.names.lookup x).map λk=>if (k == .free&&env.scope.kind == .function&&env.kindOf x==yz .cell)=yx then .cell else k:=by
 unfold relabel;dsimp only;induction sc.names with
 |nil=>rfl|cons y r ih=>
  obtain⟨n,k⟩:=y;show List.lookup x ((if QK0=yx then (n,NameKind.cell) else (n,k))::_)=_;by_cases hx:x==n
  ·have e:=eq_of_beq hx;subst e;by_cases hc:(k==Vhj&&env.scope.kind == .function&&env.kindOf x==yz .cell)=yx;·rw[iP0 hc,Val,beq_self_eq_true,Val,beq_self_eq_true];exact congrArg yz (iP0 hc).symm
   ·rw[iN0 hc,Val,beq_self_eq_true,Val,beq_self_eq_true];exact congrArg yz (iN0 hc).symm
  have L:Qx5=false:=by simpa using hx
  by_cases hc:QK0=yx;·rw[iP0 hc,Val,L,Val,L];exact ih
  ·rw[iN0 hc,Val,L,Val,L];exact ih
theorem X77{own:LS}{cl:List Qz}{fp:LR}{m:Str->OV}(so:ScOk X.env.scope sc X.N own)(I:Inv X pc σ H s)(hf:∀b∈fp,Xaj X pc H b)
  (ac:∀x c,cl.lookup x=yz c->Qv\/(x∈own/\C<c/\s4.heap.IsCell c yy)) (al:∀x y c,cl.lookup x=yz c->cl.lookup y=yz c->x=y) (ai:∀x,sc.names.lookup x=yz .cell\/sc.names.lookup x=yz .free->∃c,cl.lookup x=yz c)
  (ah:Da=s.heap.objs.size) (hC:C=s.heap.objs.size+1) (av:s4.os=s.os) (ak:s4.gens=s.gens) (keep:∀b o,s.heap.get? b=yz o->s4.heap.get? b=yz o)
  (ax:s4.heap.Ns C m) (an:ObjOk X.prog X.w QD5 s4.heap Da u) (am:∀b∈fp,b<s.heap.objs.size):
  Inv Q5 [] QX0 QD5 s4:=by
 have hD:H Da=none:=by rw[ah];exact I.hok.fresh Qy
 have aq:H C=none:=by rw[hC];exact I.hok.fresh (Vff _)
 have ar:C≠Da:=by rw[hC,ah];exact Vep (Vcm _)
 have aa:∀b,b<s.heap.objs.size->b≠C/\b≠Da:=λb hb=>⟨by rw[hC];exact Uq QP6,by rw[ah];exact Uq hb⟩;have af:∀x c,X.env.cells.lookup x=yz c->c<s.heap.objs.size:=λx c e=>by obtain⟨v,q⟩:=I.cell x c e;exact q.lt
 refine⟨⟨I.ok.mod,so.kind,I.ok.glob,I.ok.blt,?_,?_,?_,?_,I.ok.hd,I.ok.frames,.inl rfl,?_,I.bs,?_,?_,?_,I.stack,I.stkFree⟩,av,?_,?_,?_,?_,?_,?_,?_,?_,?_⟩;·show s.heap.objs.size<=C;rw[hC];exact Vff _
 ·exact al
 ·intro x hx;have ae:(relabel sc X.env).names.lookup x=yz .cell\/(relabel sc X.env).names.lookup x=yz .free:=hx;rw[Xb1]at ae;cases e:sc.names.lookup x with
  |none=>rw[e]at ae;simp at ae|some k=>
   rw[e]at ae;have hk:k=.cell\/k=.free:=by
    rcases ae with h|h
    ·simp only[V7,Vr]at h;split at h;·rename_i hc;simp only[bA0,beq_iff_eq]at hc;exact .inr hc.1.1
     ·exact .inl h
    simp only[V7,Vr]at h;split at h;·cases h
    ·exact .inr h
   exact ai x (hk.elim (λz=>.inl Qa6) λz=>.inr Qa6)
 ·intro x c h e;have hx:x∈own:=by simpa using (show own.contains x=yx from h)
  rcases ac x c e with⟨z,_⟩|⟨_,z,_⟩;·exact aB0 hx z
  ·show s.heap.objs.size<=c;rw[hC]at z;exact Vc9 QH4
 ·intro b hb;refine⟨(aa b Q26).1,λx c h=>?_⟩;rcases ac x c h with⟨_,z⟩|⟨_,z,_⟩;·exact Ql.2.2.2.2.1 x c z
  ·rw[hC]at z;exact Vep (Nat.lt_trans Q26 QH4)
 ·exact V2 I.ok.bsz I.sz
 ·intro b o e hb;rcases Ql.2.2.2.1 with z|z;·exact I.ok.noex b o e z
  ·exact aB0 (Uh QG4 (V2 I.ok.bsz z)) (Vcp _)
 ·intro b hb hm;rcases V0.mp (I.stkSub b hm) with z|z;·exact Ql.2.1 z
  ·exact Ql.2.2.1 z
 ·rw[ak];exact I.bare
 ·refine⟨λb o e _ _ _=>keep b o e,λb o e _ _ _=>⟨o.slots,keep b o e⟩,λb o e n _=>?_,λb o e _=>⟨o,keep b o e⟩,λb xs e=>?_,λb o u e=>?_,λb ps e=>?_⟩;·show upd H Da _ b=yy;rw[Xd (aa b QG4).2];exact n
  ·rw[Xd QF4];exact e
  ·rw[Xd QF4];exact e
  rw[Xd QF4];exact e
 ·refine⟨m,ax,λi x v h1 h2 h3=>?_⟩;have hi:i<X.N.length:=by
   by_cases hi:i < σ.length;·rw[I.len]at hi;exact hi
   ·rw[Uz Q7,Vdn]at h2;split at h2<;>cases h2
  have L:Qy4[i]?=yz x:=h1;unfold Xau at L;rw[Vv Qo,Vx]at L;rw[Vv (by rw[I.len];exact hi)]at h2;cases ey:X.N[i]? with
  |none=>rw[ey]at L;cases L|some y=>
   rw[ey]at L;simp only[V7,Vr]at L;have ap:Vis (relabel sc X.env) x:=h3;have ao:=so.loc;have aj:x ∉ own:=λhm=>by have nd:=so.nd;unfold Xau at nd;rw[Veg]at nd;exact nd.2.2 x (Uc.mpr ⟨y,U0 ey,L⟩) x hm rfl
   have ab:sc.names.lookup x=yz .free:=by
    have:(relabel sc X.env).names.lookup x=yz .local\/(relabel sc X.env).names.lookup x=yz .cell\/(relabel sc X.env).names.lookup x=yz .free:=ap;rw[Xb1]at this;cases e:sc.names.lookup x with
    |none=>rw[e]at this;simp at this|some k=>
     cases k with
     |free=>rfl|«local»=>exact aB0 (ao x e) aj|cell=>exact aB0 (so.cel _ (Xcu e) rfl) aj|_=>rw[e]at this;simp at this
   have au:x=y:=by
    unfold hid at L;split at L;·rename_i hc;have z:=so.hidn y (U0 ey) hc;rw[L,ab]at z;cases z
    ·exact L.symm
   subst au;obtain⟨c,hc⟩:=ai x (.inr ab);have aw:=((ac x c hc).resolve_right λz=>aj z.1).2;have kx:=so.free QM3 (Xcu ab) rfl;obtain⟨m0,ay,hl⟩:=I.loc;obtain⟨u,ru,lk⟩:=hl i x v ey h2 (kx.elim (λz=>.inr Qt2) λz=>.inr Q65);refine⟨u,ru,.inr ⟨?_,c,hc,?_⟩⟩
   ·show(relabel sc X.env).names.lookup x=yz .cell\/(relabel sc X.env).names.lookup x=yz .free;rw[Xb1,ab];simp only[V7];split;·exact .inl rfl
    ·exact .inr rfl
   rcases lk with⟨k,_⟩|⟨_,c',hc',hcell⟩;·have k':X.env.scope.names.lookup x=yz .local:=k;rcases kx with z|z<;>(rw[k']at z;cases z)
   ·rw[aw]at hc';cases hc';exact⟨_,keep _ _ hcell.choose_spec.1,hcell.choose_spec.2⟩
 ·intro x c h;rcases ac x c h with⟨_,z⟩|⟨_,_,z⟩;·obtain⟨v,o,ho,hd⟩:=I.cell x c z;exact⟨v,o,keep _ _ ho,hd⟩
  ·exact⟨yy,z⟩
 ·show upd H Da _ C=yy;rw[Xd ar];exact aq
 ·intro x c h;rcases ac x c h with⟨_,z⟩|⟨_,z,_⟩;·rw[Xd (aa c (af x c z)).2];exact I.freeC x c z
  ·rw[hC]at z;rw[Xd (by rw[ah];exact Vep QH4)];exact I.hok.fresh (Vc9 QH4)
 ·intro p hp;rw[Vu]at hp;obtain⟨e,n,ne,nf,d⟩:=I.pin p hp;refine⟨keep _ _ e,?_,Qm5.1,λhm=>?_,d⟩;·rw[Xd Qm5.2];exact n
  ·rcases V0.mp (I.stkSub _ hm) with z|z;·exact ne z
   ·exact nf z
 ·intro b o e;by_cases hb:b=Da;·subst hb;rw[Xl]at e;cases e;exact an
  ·rw[Xd hb]at e;exact(I.hok b o e).stay (λc v _ q=>keep c v q) (λc q=>by rw[Xd Q36];exact q) λc xs _ q=>by rw[Xd Q36];exact q
 ·show QX0.length=Qy4.length;unfold Xau;simp[I.len]
theorem X3b(I:Inv X pc σ H s)(hf:∀b∈fp,Xaj X pc H b)(J:Inv Q5 [] σ' H' s'):
  Inv X pc σ H' s':=
 I.call' J.os J.base J.hok J.bare λb hb=>Qs0
theorem Xfk:∀(names:List Qe2) (n:Nat) (acc:List Qz),Vbw n names acc=Vbw n names []++acc
 |[]=>λ_ _=>rfl| (x,k)::r=>λn acc=>by
  unfold Vbw;split;·rw[Xfk r Qm3 ((x,n)::acc),Xfk r Qm3 [(x,n)],Vq];rfl
  ·exact Xfk r n acc
theorem Xnz:∀(names:List Qe2) (n:Nat),Qd6∈Vbw n names []->(x,.cell)∈names
 |[]=>λ_ h=>nomatch h| (y,k)::r=>λn h=>by
  unfold Vbw at h;split at h
  ·rename_i hk;rw[Xfk]at h;rcases V9.mp h with h|h;·exact U2 _ (Xnz r Qm3 h)
   ·have e:=V6.mp h;cases e;rw[eq_of_beq hk];exact Uv
  exact U2 _ (Xnz r n h)
theorem X3c {M:Model} {sc:U1} {g:Addr} {cl:List Qz} {q:Str} {env:Vbk} {R:Vbk->Vc->Prop} (h:R {scope:=sc,locals:=s.heap.objs.size,globals:=g,cells:=Vbw Qw sc.names cl,qual:=q,func:=yy,code:=env.code,frame:=env.frame,builtins:=env.builtins} {s with heap:=pushCells (s.heap.push QB) sc.names}):
  Vh M A (newFunctionEnv sc g cl [] q yy .none (yz env)) R E s:=by
 simp only[newFunctionEnv,Vby,if_true];refine Va (wpAny_alloc ?_);refine Va (wpAny_layCells _ (λname kind cells=>by cases L:kind==NameKind.cell<;>simp[L]) _ _ _ _ ?_);rw[show({s with heap:=s.heap.push QB }:Vc).heap.objs.size=s.heap.objs.size+1 from Vfu ..];exact Va (by rw[List.forIn_nil];exact Vf (Vf h))
theorem Xl7{k:Bool}{AR:Addr->Xfj}{ar:Sem Vb}{oA:Obj}{uA:Addr->HO}(hA:∀Da,Xi5 X.K Da Qj6)(bq:∀(A:U7) (E:VP) (s:Vc) (Q:VP),Q Q8 {s with heap:=s.heap.push oA}->Vh Q0 A ar Q E s)(bj:oA.isFreed=yw)
  (bn:∀(H:Hp) (h:Heap) (a:Addr),h.get? a=yz oA->ObjOk X.prog X.w H h a Qm6) (br:∀a ρ (H:Hp),H a=yz Qm6->AR a ρ H [])
  (hc:X.calm=yx) (so:ScOk X.env.scope sc X.N own) (bm:Qq4=n) (hg:gens=QW::gens.tail) (hi:DI X tg iter fi) (hs:∀x,Vb8 iter X.env x=pure x)
  (hG:∀pc s H cl C fp,DG Q5 tg t) (hT:∀pc s H cl C fp,DTs Q5 ifs tf) (hB:∀pc s H cl C fp Da,Xct k Qj6 Q5 Da elt gens sc cpos 0 body)
  (I:S0 X pc σ H s ρ S env) (q:fi env S=.ok src S1) (hr:X9 src.get t Qe Q81 0 Qv0 [] S1=.ok accf Sf)
  (hQ:∀s' H' ρ' Da C m,S0 X pc σ H' s' ρ' Sf env->Stp X.K ρ ρ' H H'->Da ∉ ρ'->H Da=yy->AR Da ρ' H' accf->s'.heap.Ns C m->(∀x c,X.env.cells.lookup x=yz c->c≠C)->C≠X.env.locals->H' C=yy->(∀ai am H'' h',Inv X pc am H'' ai->H'' C=yy->Va2 C ai.heap h'->Inv X pc am H'' {ai with heap:=h' }) ->
   compPost Q0 X.A E use Q QF0 C QB2 s'):
  Vh Q0 X.A (comprehension QE0 sc X.env Q11 ar yw Qj1 use) Q E s:=by
 have a7:∀x∈sc.names,x.2=.free->∃c,X.env.cells.lookup x.1=yz c:=λx hx hf=>by
  rcases so.free x hx hf with z|z;·exact I.inv.ok.has x.1 Qt2
  ·exact I.inv.ok.has x.1 Q65
 obtain⟨cl,ax,bg,bi⟩:=Xi4 a7;refine Vjc (g:=QW) (gs:=gens.tail) Q50 hs ax so.kind so.names ?_;refine Vp (E:=λ_ _=>False) Q21 (λv s1 h1=>Vp h1 (λb3 s2 h2=>?_) λ_ _ z=>z.elim) λ_ _ z=>z.elim;·rw[q]at z;obtain⟨k,S2,e,z⟩:=z;cases e
 ·obtain⟨bx,S2,it,fp,tn,J,H2,ah,e1,rfl,I2,T,t0,f2,bo,aw,al⟩:=h2;rw[q]at e1;cases e1;have J2:=I.step I2 aw al;refine bq _ _ _ _ (X3c ?_);dsimp only;generalize a8:s2.heap.push oA=L;have hC:L.objs.size=s2.heap.objs.size+1:=by rw[<-a8,Vfu]
  have below:∀b,b<s2.heap.objs.size->b≠L.objs.size:=λb hb=>by rw[hC];exact Uq QP6
  have ak:=cellsFrom_ok sc.names QQ1 QV [] ⟨λ_ _ hm=>(nomatch hm),Vi3⟩ (by rw[Vfu];exact Vi _);rw[Vfu]at ak;obtain⟨m1,ac⟩:∃m1,(pushCells (L.push QB) sc.names).Ns L.objs.size m1:=by obtain⟨o,es,ep,ho,rest⟩:=(Heap.Ns.new ..:QQ1.Ns L.objs.size _);exact⟨_,o,es,ep,pushCells_keeps _ _ _ _ ho,rest⟩
  have ay:∀b o,L.get? b=yz o->(pushCells QQ1 sc.names).get? b=yz o:=λb o e=>pushCells_keeps _ _ b o QM6;generalize pushCells QQ1 sc.names=aa at ak ac ay ⊢;have be:∀b o,s2.heap.get? b=yz o->aa.get? b=yz o:=λb o e=>ay b o (a8▸Vm _ e);have bf:aa.get? s2.heap.objs.size=yz oA:=ay _ _ (a8▸Vw _ bj);have ab:∀x c,Qd6∈Vbw QV sc.names []->x∈own/\L.objs.size<c/\aa.IsCell c none:=λx c hm=>⟨so.cel _ (Xnz _ _ hm) rfl,Qr3.2,Qr3.1⟩;have two:∀x c,QP.lookup x=yz c->Qd6∈Vbw QV sc.names []\/Qv:=λx c h=>by
   rw[Xfk,List.lookup_append,Option.or_eq_some_iff]at h;rcases h with h|⟨_,h⟩;·exact .inl (Xp1 h)
   ·exact .inr ⟨so.apart _ Ql5.2 rfl,Ql5.1⟩
  have aj:∀x c,QP.lookup x=yz c->Qv\/(x∈own/\L.objs.size<c/\aa.IsCell c yy):=λx c h=>(two x c h).elim (λz=>.inr (ab x c z)) .inl;have ae:∀x c,X.env.cells.lookup x=yz c->c<L.objs.size:=λx c e=>by obtain⟨v,z⟩:=I2.cell x c e;rw[hC];exact Vdi z.lt
  have av:∀x y c,QP.lookup x=yz c->QP.lookup y=yz c->x=y:=λx y c h1 h2=>by
   rcases two x c h1 with a|⟨_,a⟩<;>rcases two y c h2 with b|⟨_,b⟩
   ·exact name_of_addr ak.apart a b
   ·exact aB0 (ae y c b) (Nat.lt_asymm (ab x c a).2.1)
   ·exact aB0 (ae x c a) (Nat.lt_asymm (ab y c b).2.1)
   exact I2.ok.inj x y c a b
  have an:∀x,sc.names.lookup x=yz .cell\/sc.names.lookup x=yz .free->∃c,QP.lookup x=yz c:=λx h=>Vch.mp (Vfe sc.names _ cl (h.imp id λz=>by obtain⟨c,hc⟩:=bi QM3 (Xcu z) rfl;exact Vch.mpr ⟨c,hc⟩));generalize Vbw QV sc.names cl=aq at aj av an two ⊢;have ap:∀b∈fp,b<s2.heap.objs.size:=λb hb=>by obtain⟨o,e,_⟩:=T.obj _ _ t0 b hb;exact Vy e
  have af:H2 s2.heap.objs.size=none:=I2.hok.fresh Qy;have bh:s2.heap.objs.size ∉ ah:=λhm=>by obtain⟨w,hw,_⟩:=aw.mem hm;rw[af]at hw;cases hw
  generalize bc:({s2 with heap:=aa}:Vc)=s4;have IY:Inv Qr [] QX0 QH s4:=by subst bc;exact X77 so I2 f2 aj av an rfl hC rfl rfl be ac (bn _ _ _ bf) ap
  have az:Stp X.K ah ah H2 QH:=Stp.upd af;have SY:S0 Qr [] QX0 QH s4 ah S1 Qv0:=by
   refine⟨IY,aw.upd af,⟨by simp[J2.er.len,bm],λi d e=>?_⟩⟩;have hi:i<ll env:=by
    by_cases hi:i<ll env;·exact hi
    ·rw[Uz Q7,Vdn]at e;split at e<;>cases e
   rw[Vv hi]at e;obtain⟨v,h1,h2⟩:=J2.er.val i d e;exact⟨v,by rw[Vv (by rw[<-J2.er.len];exact hi)];exact h1,h2.mono az⟩
  have t4:tn 0 s4.heap:=by subst bc;exact T.keep 0 _ _ t0 λb hb o e=>be b o e
  have fY:∀b∈fp,Xaj Qr [] QH b:=λb hb=>by
   obtain⟨a1,a2,a3,a4,a5,a6⟩:=f2 b hb;refine⟨by rw[Xd (Uq QD4)];exact a1,below b QD4,λhm=>?_,.inl hb,λx c h=>(aj x c h).elim (λz=>a5 x c z.2) (λz=>Vep (Nat.lt_trans (by rw[hC];exact Vdi QD4) z.2.1)),λp hp=>?_⟩
   ·rcases V0.mp (I2.stkSub b hm) with z|z;·exact a2 z
    ·exact a3 z
   rw[Vu]at hp;exact a6 p hp
  refine Vgm (Xu5 (hA s2.heap.objs.size) (Y:=blk X pc s2 H2 sc aq L.objs.size own fp) (H0:=H2) (ρ0:=ah) (P:=compPost Q0 X.A E use Q (.ref s2.heap.objs.size) L.objs.size QB2) hc (by rw[hg];rfl) T (hG _ _ _ _ _ _) (hT _ _ _ _ _ _) (hB _ _ _ _ _ _ _) af SY t4 fY (bo.mono az) bh (br _ _ _ Xl) az hr
   λs' b2 H' ρ' bz I' _ bu bv bd _=>?_) λr s' h=>?_
  ·have JX:=X3b I2 f2 I'.inv;have a9:H' L.objs.size=none:=I'.inv.free;have bb:s2.heap.objs.size<=L.objs.size:=by rw[hC];exact Vff _
   obtain⟨m',bw,_⟩:=I'.inv.loc;have fo:=I2.fpOk (H':=H') bb a9;have bt:H s2.heap.objs.size=none:=by
    cases e:H s2.heap.objs.size with
    |none=>rfl|some o=>
     by_cases hm:s2.heap.objs.size∈ρ;·obtain⟨k,hk,ek⟩:=Vde.mp hm;exact aB0 (U0 (al.pre k _ (by simp[hk,ek]))) bh
     ·rw[al.keep _ o e hm]at af;cases af
   refine hQ s' H' ρ' s2.heap.objs.size L.objs.size m' ⟨JX,I'.sr,I.er.mono Qu4⟩ Qu4 bu bt bv bw fo.2.2.2.2.1 (λz=>fo.2.1 z) a9 λai am H'' h' bp au ba=>?_;have ao:Xaj X pc H'' L.objs.size:=⟨au,fo.2⟩;exact bp.turned (t':=ai.toks) (λb o hb e=>(ba.2 b hb).trans e) au ao.2.1 ao.2.2.2.1 ao.2.2.2.2.1 ao.2.2.2.2.2
  cases r with
  |ok f=>cases use<;>exact h|error e=>exact h.elim
universe e
theorem Xev{get:Sto->Nat->Option (Option D)}{body:En->LD->Sto->R (LD)}:∀(k i:Nat) (env:En) (acc:LD) (S:Sto) (n:Nat) (S':Sto),X9 get t body k i env acc S≠.ex n S'
 |0=>λi env acc S n S'=>λz=>nomatch z|k+1=>λi env acc S n S'=>by
  simp only[X9];cases get S i with
  |none=>exact λz=>nomatch z|some o=>
   cases o with
   |none=>exact λz=>nomatch z|some d=>
    dsimp only;cases Xn t d env with
    |none=>exact λz=>nomatch z|some L=>
     dsimp only;cases body L acc S with
     |ok a S1=>exact Xev k Qn2 L a S1 n S'|ex _ _=>exact λz=>nomatch z|bad=>exact λz=>nomatch z
section
variable{X:Cx}{pc:LA}{σ:L2.St}{H:Hp}{s:Vc}{ρ:LR}{S:Sto}{env:En}{Q:VP}{E:VP}
theorem SR.adopt{K:Ve}{Da:Addr}{vs:LW}{xs:LD}(r:SR K ρ S H)(L:Da ∉ ρ)(hD:H Da=yz Q30)(rd:RDs K ρ H xs vs):SR K Qj5 QU2 H:=by
 have mo:Mon K ρ Qj5 H H:=QA0;refine⟨r.tab,by simp[r.len],?_,λn a ob h1 h2=>?_⟩;·rw[Veg];refine Qc1;rw[V6.mp hy];exact λz=>L QE6
 ·by_cases hk:n < ρ.length;·rw[Vv hk]at h1;rw[Vv (by rw[<-r.len];exact hk)]at h2;exact QN3.mono' mo rfl
  ·have e:n=ll ρ:=by
    have:=Qs3.1;simp at this;omega
   subst e;simp at h1;rw[r.len]at h2;simp at h2;subst h1 h2;exact⟨vs,hD,RDs.mono' mo _ _ rd⟩
theorem Stp.adopt{K:Ve}{Da:Addr}{ρ':LR}{H':Hp}(st:Stp K ρ ρ' H H')(h0:H Da=yy):Stp K ρ QR5 H H' where
 pre:=λn a h=>by have z:=st.pre n a h;rw[Vv (Vd.mp z).1];exact z
 tup:=st.tup
 frz:=st.frz
 new:=λa h=>by
  rcases V9.mp h with h|h;·exact st.new a h
  ·rw[V6.mp h];exact .inr h0
 keep:=st.keep
variable{elt:Expr}{gens:List Vbp}{sc:U1}{cpos:Pos}{tg iter:Expr}{ifs:LX}{own:LS}{t:Tg}{n:Nat}{fi:En->Sto->R Src}{tf:En->Sto->R Bool}{body:En->LD->Sto->R (LD)}
noncomputable def Xfl(fi:En->Sto->R Src)(t:Tg)(n:Nat)(tf:En->Sto->R Bool)(body:En->LD->Sto->R LD)(env:En)(S:Sto):R D:=
 Qp3.bind λsrc S=>(X9 src.get t Qe Qt0 0 Qv0 [] S).bind λL S=>.ok Qs2 (S++[.lst L])
theorem Xqx{k:Bool}{ab:Sem Vb}{use:Option (Vb->Sem Unit)}{m:Nat}(so:ScOk X.env.scope sc X.N own)(hg:gens=QW::gens.tail)(hi:DI X tg iter fi)(hs:∀x,Vb8 iter X.env x=pure x)
  (I:S0 X pc σ H s ρ S env) (q:fi env S=.ex m S1) (hE:∀x s',XPd X pc σ ρ H m S1 x s'->E x s'):
  Vh Q0 X.A (comprehension QE0 sc X.env Q11 ab yw Qj1 use) Q E s:=by
 have aa:∀x∈sc.names,x.2=.free->∃c,X.env.cells.lookup x.1=yz c:=λx hx hf=>by
  rcases so.free x hx hf with z|z;·exact I.inv.ok.has x.1 Qt2
  ·exact I.inv.ok.has x.1 Q65
 obtain⟨cl,L,af,ac⟩:=Xi4 aa;refine Vjc (g:=QW) (gs:=gens.tail) Q50 hs L so.kind so.names ?_;refine Vp (hi pc s σ H ρ S env E I QD λx s' z=>?_) Qh λ_ _ z=>z;·rw[q]at z;obtain⟨k,S2,e,z⟩:=z;cases e;exact hE x s' z
 ·obtain⟨ae,S2,_,_,_,_,_,_,e1,_⟩:=h2;rw[q]at e1;cases e1
theorem Xqy (A:U7) (E:VP) (s:Vc) (Q:VP) (h:Q Q8 {s with heap:=s.heap.push Qa0 }):Vh Q0 A QE5 Q E s:=Vbo h
theorem Xu7 (H:Hp) (h:Heap) (a:Addr) (e:h.get? a=yz Qa0):ObjOk X.prog X.w H h a (.lst []):=⟨Ub _,[],0,.nil,e⟩
theorem X78(hc:X.calm=yx)(so:ScOk X.env.scope sc X.N own)(aa:Qq4=n)(hg:gens=QW::gens.tail)(hi:DI X tg iter fi)(hs:∀x,Vb8 iter X.env x=pure x)
  (hG:∀pc s H cl C fp,DG Q5 tg t) (hT:∀pc s H cl C fp,DTs Q5 ifs tf) (hB:∀pc s H cl C fp Da,Xct yw Qz4 Q5 Da elt gens sc cpos 0 body):
  DE X Qs (Xfl fi t n tf body):=by
 intro pc s σ H ρ S env I L;have ae:firstIter gens X.env=eval iter X.env:=by rw[hg];rfl
 have ac:firstAsync gens=false:=by rw[hg];rfl
 rw[eval_ListComp,ae,ac];unfold Xfl at L ⊢;cases q:fi env S with
 |bad=>rw[q]at L;cases L rfl|ex m S1=>exact Xqx (k:=yw) so hg hi hs I q λx s' z=>⟨m,S1,rfl,z⟩|ok src S1=>
  rw[q]at L;simp only[Rk0]at L ⊢;cases q2:X9 src.get t Qe Q81 0 Qv0 [] S1 with
  |bad=>rw[q2]at L;cases L rfl|ex m S2=>exact aB0 q2 QT3|ok accf Sf=>refine Xl7 (k:=yw) (AR:=λDa=>LstA X.K Da) (uA:=λ_=>.lst []) Q94 Xqy rfl Xu7 Qz1 hc so aa hg hi hs hG hT hB I q q2 λs' H' ρ' Da C m I' st' hn' h0 QQ4 hns hcells hCl hCn back=>?_;refine⟨m,hns,λh' ab=>?_⟩;refine .mk (v:=.ref Da) (st'.adopt h0) (back s' σ H' h' I'.inv hCn ab) rfl ?_ (I'.sr.adopt hn' hD' ra');simp only[RD];exact QT1
theorem X3d{i:Nat}(hN:X.N.Nodup)(aj:X.N[i]?=yz x)(hx:X.env.scope.names.lookup x=yz .local)(ak:Vgs Qs (yz Qx1) spos.line X.env=pure yx)
  (hc:X.calm=yx) (so:ScOk X.env.scope sc X.N own) (ab:Qq4=n) (hg:gens=QW::gens.tail) (hi:DI X tg iter fi) (hs:∀x,Vb8 iter X.env x=pure x)
  (hG:∀pc s H cl C fp,DG Q5 tg t) (hT:∀pc s H cl C fp,DTs Q5 ifs tf) (hB:∀pc s H cl C fp Da,Xct yw Qz4 Q5 Da elt gens sc cpos 0 body):
  DS X (.Assign [.Name x py] Qs spos) yw (λenv S=>QJ2.bind λd S=>match Xn Qe3 d env with|some env=>.ok QC2 S|none=>.bad):=by
 intro pc s σ H ρ S env I L;dsimp only at L ⊢;have af:firstIter gens X.env=eval iter X.env:=by rw[hg];rfl
 have ae:firstAsync gens=false:=by rw[hg];rfl
 rw[exec_Assign_Name_used _ _ _ _ ak];refine Va (Veb (Va ?_));show Vh _ X.A (do let _ <- comprehension Qs sc X.env Q11 QE5 (firstAsync gens) (firstIter gens X.env) (yz Qc3)) _ _ s;rw[af,ae];refine Va (Vp (Q:=λ_ s'=>OkS X pc σ ρ H yw (QJ2.bind λd S=>match Xn Qe3 d env with|some env=>.ok QC2 S|none=>.bad) .next s') ?_ (λ_ s' hq=>Vf (Vf hq)) λ_ _ z=>z);unfold Xfl at L ⊢;cases q:fi env S with
 |bad=>rw[q]at L;cases L rfl|ex m S1=>exact Xqx (k:=yw) so hg hi hs I q λx s' z=>.of .refl z rfl|ok src S1=>
  rw[q]at L;simp only[Rk0]at L ⊢;cases q2:X9 src.get t Qe Q81 0 Qv0 [] S1 with
  |bad=>rw[q2]at L;cases L rfl|ex m S2=>exact aB0 q2 QT3|ok accf Sf=>
   refine Xl7 (k:=yw) (AR:=λDa=>LstA X.K Da) (uA:=λ_=>.lst []) (use:=yz Qc3) Q94 Xqy rfl Xu7 Qz1 hc so ab hg hi hs hG hT hB I q q2 λs' H' ρ' Da C m I' st' hn' h0 QQ4 hns hcells hCl hCn back=>?_;show Vh _ X.A (assign Qx1 X.env QF0) _ _ s';refine Vi1 (Xls I'.inv hN aj (.inl hx) (show RelV QF0 QF0 from rfl) (λs2 I2 aa=>?_) (.inr hx));obtain⟨ad,aa,ai⟩:=aa;have ah:ad≠C:=by
    rcases ai with z|z;·rw[z];exact Ne.symm hCl
    ·exact hcells x ad z
   refine⟨m,hns.sameBut aa (Ne.symm ah),λh' ac=>?_⟩;have J:=back s2 _ H' h' I2 hCn ac;refine⟨.nx (env.set i (yz (.ref Sf.length))),Sf++[.lst accf],rfl,rfl,_,H',ρ'++[Da],⟨J,I'.sr.adopt hn' hD' ra',?_⟩,st'.adopt h0,λz=>nomatch z⟩;have mo:Mon X.K ρ' QR5 H' H':=QA0;refine(I'.er.mono' mo).set i ?_;simp only[RD];exact QT1
universe e
section
variable{X:Cx}{pc:LA}{σ:L2.St}{H:Hp}{s:Vc}{ρ:LR}{S:Sto}{env:En}{Q:VP}{E:VP}
def BlR(X:Cx)(k:Bl)(f:Vb):Prop:=
 ∀(pc:LA) (s:Vc) (σ:L2.St) (H:Hp) (ρ:LR) (S:Sto) (env:En) (ds:LD) (vs:LW) (us:LV) (E:VP),S0 X pc σ H s ρ S env->RDs X.K ρ H ds vs->Vals vs us->Xm k ds S≠.bad ->
  Vh Q0 X.A QZ5 (OkP X pc σ ρ H (Xm k ds S)) E s
theorem RDs.one{K:Ve}{d:D}{vs:LW}(h:RDs K ρ H [d] vs):∃v,vs=[v]/\RD K ρ H d v:=by simp only[RDs]at h;obtain⟨v,r,rfl,h1,rfl⟩:=h;exact⟨v,rfl,h1⟩
theorem RDs.two{K:Ve}{d e:D}{vs:LW}(h:RDs K ρ H [d,e] vs):∃v u,vs=[v,u]/\RD K ρ H d v/\RD K ρ H e u:=by simp only[RDs]at h;obtain⟨v,r,rfl,h1,u,L,rfl,h2,rfl⟩:=h;exact⟨v,u,rfl,h1,h2⟩
theorem Ycv:BlR X .len Q64:=by
 intro pc s σ H ρ S env ds vs us E I rd rv L;match ds,rd,L with
 |[],_,L=>cases L rfl|_::_::_,_,L=>cases L rfl|[d],rd,L=>
  obtain⟨v,rfl,r1⟩:=rd.one;have go:∀xs,Xp S d=yz xs->Vh Q0 X.A (call Q64 us) (OkP X pc σ ρ H (.ok (.int QM1) S)) E s:=λxs h=>by obtain⟨a,ws,rfl,hq,hr⟩:=I.seq h r1;refine Xgm (Q':=λz H'=>z=.int ws.length/\H'=H) Xng I.inv rv ⟨a,ws,rfl,hq,rfl,rfl⟩ λw s' z H' J rz zz=>?_;obtain⟨e1,e2⟩:=zz;subst e1 e2;obtain⟨t,rfl⟩:=rz;rw[<-hr.length];exact Xad I.sr J
  cases d with
  |str _=>cases L rfl|tup xs=>exact go xs rfl|fro xs=>exact go xs rfl|ref n=>
   simp only[Xm,Xp]at L ⊢;cases e:Xc S n with
   |none=>rw[e]at L;cases L rfl|some xs=>exact go xs e
  |non=>cases L rfl|bl _=>cases L rfl|int _=>cases L rfl|fn _ _=>cases L rfl
theorem X3e:BlR X .tuple Ql0:=by
 intro pc s σ H ρ S env ds vs us E I rd rv L;match ds,rd,L with
 |[],_,L=>cases L rfl|_::_::_,_,L=>cases L rfl|[d],rd,L=>
  obtain⟨v,rfl,r1⟩:=rd.one;simp only[Xm]at L ⊢;cases e:Xp S d with
  |none=>rw[e]at L;cases L rfl|some xs=>
   dsimp only;obtain⟨a,ws,rfl,hq,hr⟩:=I.seq e r1;rcases hq with hq|hq;·refine Xgm (Q':=λz H'=>∃p,H p=yy/\z=.ref p/\H'=upd H p (.tup ws)) Xe6 I.inv rv ⟨a,ws,rfl,.inl ⟨hq,λl hl=>Qw3⟩⟩ λw s' z H' J rz zz=>?_;obtain⟨p,hp,e1,e2⟩:=zz;subst e1 e2;cases rz;exact Xcy J hp I.sr hr
   ·refine Xgm (Q':=λz H'=>z=.ref a/\H'=H) Xe6 I.inv rv ⟨a,ws,rfl,.inr ⟨hq,rfl,rfl⟩⟩ λw s' z H' J rz zz=>?_;obtain⟨e1,e2⟩:=zz;subst e1 e2;refine .mk .refl J rz ?_ I.sr;simp only[RD];exact⟨a,ws,rfl,hq,hr⟩
theorem X79:BlR X .list (.type "list"):=by
 intro pc s σ H ρ S env ds vs us E I rd rv L;match ds,rd,L with
 |[],_,L=>cases L rfl|_::_::_,_,L=>cases L rfl|[d],rd,L=>
  obtain⟨v,rfl,r1⟩:=rd.one;simp only[Xm]at L ⊢;cases e:Xp S d with
  |none=>rw[e]at L;cases L rfl|some xs=>dsimp only;obtain⟨a,ws,rfl,hq,hr⟩:=I.seq e r1;refine Xgm (Q':=λz H'=>∃p,H p=yy/\z=.ref p/\H'=upd H p Q76) Xnh I.inv rv ⟨a,ws,rfl,hq,λl hl=>Qw3⟩ λw s' z H' J rz zz=>?_;obtain⟨p,hp,e1,e2⟩:=zz;subst e1 e2;cases rz;exact Xbc J hp I.sr hr
theorem Xbh:∀ {xs:LD} {bs:List Bool},Yb xs=yz bs->xs=bs.map D.bl
 |[],ns,h=>by simp only[Yb,Vr]at h;subst h;rfl|.bl i::r,ns,h=>by simp only[Yb,Ud]at h;obtain⟨ms,h1,rfl⟩:=h;rw[Xbh h1];rfl|.non::_,_,h=>by simp[Yb]at h|.int _::_,_,h=>by simp[Yb]at h|.str _::_,_,h=>by simp[Yb]at h|.tup _::_,_,h=>by simp[Yb]at h|.ref _::_,_,h=>by simp[Yb]at h|.fro _::_,_,h=>by simp[Yb]at h|.fn _ _::_,_,h=>by simp[Yb]at h
theorem Xu8(bs:List Bool)(f:Nat->Bool)(h:∀i,f i=Qt4.getD yw):QJ5.all f=bs.all id:=by
 rw[Ve7,Vag,Vag];constructor;·intro q b hb;obtain⟨i,hi,rfl⟩:=Vde.mp hb;have:=q i Qo;rw[h i]at this;simpa [hi] using this
 ·intro q i hi;have L:i<ll bs:=by simpa using hi
  rw[h i];simp only[L,getElem?_pos,Vcn];exact q _ (Vc4 L)
theorem Xl8(bs:List Bool)(f:Nat->Bool)(h:∀i,f i=Qt4.getD yw):QJ5.any f=bs.any id:=by
 rw[Ve7,Vhs,Vhs];constructor
 ·rintro ⟨i,hi,q⟩;have L:i<ll bs:=by simpa using hi
  rw[h i]at q;simp only[L,getElem?_pos,Vcn]at q;exact⟨_,Vc4 L,q⟩
 rintro ⟨b,hb,q⟩;obtain⟨i,hi,rfl⟩:=Vde.mp hb;refine⟨i,by simpa using hi,?_⟩;rw[h i];simpa [hi] using q
theorem Xsw{K:Ve}:∀ {bs:List Bool} {vs:LW},RDs K ρ H (bs.map D.bl) vs->vs=bs.map V.bl
 |[],vs,h=>by simp only[Ur,RDs]at h;exact h|n::ns,vs,h=>by simp only[Ur,RDs]at h;obtain⟨v,r,rfl,h1,h2⟩:=h;simp only[RD]at h1;subst h1;rw[Xsw h2];rfl
theorem S0.its(I:S0 X pc σ H s ρ S env)(h:Xc S n=yz xs)(rd:RD X.K ρ H Q25 v)(L:RelV v u):∃a vs its,u=.ref a/\s.heap.IsList a its.toArray/\RDs X.K ρ H xs vs/\Vals vs its/\QN1<=V3:=by obtain⟨a,vs,rfl,h1,h2,h3⟩:=I.lstR h rd;cases L;obtain⟨its,r,p,hz⟩:=I.inv.list (.of h2);exact⟨a,vs,its,rfl,p.isList,h3,r,hz⟩
theorem Xew{its:LV}{Q:VP}(hh:A.handled=yy)(hq:s.heap.IsList a its.toArray\/s.heap.IsTuple a its.toArray)
  (h:∀I fp wr St L,Walks prog w A I fp wr Qm2 (λi v=>its[i]?=yz v) St->St 0 L.heap->(∀b∈fp,b<L.heap.objs.size) ->
   (∀h' tk,(∀b o,b ∉ wr->L.heap.get? b=yz o->h'.get? b=yz o)->({L with heap:=h',toks:=tk}:Vc)=Q00/\∀b o,s.heap.get? b=yz o->h'.get? b=yz o)->Q (.ref I) L):
  Vh Q4 A QT5 Q E s:=by
 have ab:∀ {o:Obj},∀h' tk,(∀b ob,b ∉ [s.heap.objs.size]->(QG2:Vc).heap.get? b=yz ob->h'.get? b=yz ob)->({ (QG2:Vc) with heap:=h',toks:=tk}:Vc)=Q00/\∀b ob,s.heap.get? b=yz ob->h'.get? b=yz ob:=
  λ{o} h' tk hk=>⟨rfl,λb ob e=>hk b ob (by simp;exact Uq QG4) QM6⟩
 have aa:∀ {o:Obj} (ha:a<s.heap.objs.size),∀b∈[s.heap.objs.size,a],b<(s.heap.push o).objs.size:=λ{o} ha b hb=>by
  rw[Vfu];simp at hb;rcases hb with rfl|rfl;·exact Vcm _
  ·exact Vdi ha
 rcases hq with hq|hq;·have ha:a<s.heap.objs.size:=Vy hq.choose_spec.1;refine Vha hq ?_;have W:=Walks.list (prog:=prog) (w:=w) hh s.heap.objs.size a Qh6 its.toArray;simp only[Vo,Vhx]at W;exact h _ _ _ _ _ W Q82 Qf6 ab
 ·have ha:a<s.heap.objs.size:=Vy hq.choose_spec.1;refine Viv hq ?_;have W:=Walks.tuple (prog:=prog) (w:=w) hh s.heap.objs.size a Qh6 its.toArray;simp only[Vo,Vhx]at W;exact h _ _ _ _ _ W Q82 Qf6 ab
theorem S0.seqI(I:S0 X pc σ H s ρ S env)(h:Xp S d=yz xs)(rd:RD X.K ρ H d v)(rv:RelV v u):∃a vs its,u=.ref a/\(s.heap.IsList a its.toArray\/s.heap.IsTuple a its.toArray)/\RDs X.K ρ H xs vs/\Vals vs its/\QN1<=V3:=by
 obtain⟨a,vs,rfl,L,hr⟩:=I.seq h rd;cases rv;rcases L with L|L;·obtain⟨its,r,p,hz⟩:=I.inv.list L;exact⟨a,vs,its,rfl,.inl p.isList,hr,r,hz⟩
 ·obtain⟨its,r,p,hz⟩:=I.inv.tuple L;exact⟨a,vs,its,rfl,.inr p,hr,r,hz⟩
theorem Xqz{i:Nat}{v:Vb}:∀ {bs:List Bool} {its:LV},Vals (bs.map V.bl) its->its[i]?=yz v->v=.bool (Qt4.getD yw):=λ{bs its} hv e=>by
 have hl:i<ll bs:=by have h1:=hv.length;have h2:=Q46.1;simp at h1;omega
 obtain⟨u,h1,h2⟩:=hv.get (i:=i) (x:=.bl bs[i]) Qa5;rw[e]at h1;cases h1;simp[hl];exact h2
theorem Ycw(hc:X.calm=yx):BlR X .all (.builtin "all"):=by
 intro pc s σ H ρ S env ds vs us E I rd rv L;match ds,rd,L with
 |[],_,L=>cases L rfl|d::_::_,_,L=>cases d<;>cases L rfl|[d],rd,L=>
  cases d with
  |ref n=>
   obtain⟨v,rfl,r1⟩:=rd.one;simp only[Xm]at L ⊢;cases e:Xc S n with
   |none=>rw[e]at L;cases L rfl|some xs=>
    rw[e]at L;simp only[V1]at L ⊢;cases e2:Yb xs with
    |none=>rw[e2]at L;cases L rfl|some bs=>
     dsimp only;have q:=Xbh e2;subst q;cases rv with
     |cons ru rr=>
      cases rr;obtain⟨a,ws,its,rfl,hl,hr,hv,hz⟩:=I.its e r1 ru;have hw:=Xsw hr;subst hw;have aa:Qm2=ll bs:=by rw[<-hv.length];simp
      refine call_all_walk QI0;refine Qg;·rw[Xqz hv hP];exact Vb7 hQ
      ·obtain⟨e3,k3⟩:=ab h' tk hk;rw[e3,aa,Xu8 bs _ λ_=>rfl];exact Xo I.sr QB1
  |_=>cases L rfl
theorem Xn0{i:Nat}{v:Vb}{ns:LI}{its:LV}(hv:Vals QM2 its)(e:its[i]?=yz v):∃t,v=.int (Qo4.getD 0) t:=by
 have hl:i<ll ns:=by have h1:=hv.length;have h2:=Q46.1;simp at h1;omega
 obtain⟨u,h1,h2⟩:=hv.get (i:=i) (x:=.int ns[i]) Qa5;rw[e]at h1;cases h1;simp[hl];exact h2
theorem Ycx(hc:X.calm=yx):BlR X .anb (.builtin "any"):=by
 intro pc s σ H ρ S env ds vs us E I rd rv L;match ds,rd,L with
 |[],_,L=>cases L rfl|d::_::_,_,L=>cases d<;>cases L rfl|[d],rd,L=>
  cases d with
  |ref n=>
   obtain⟨v,rfl,r1⟩:=rd.one;simp only[Xm]at L ⊢;cases e:Xc S n with
   |none=>rw[e]at L;cases L rfl|some xs=>
    rw[e]at L;simp only[V1]at L ⊢;cases e2:Yb xs with
    |none=>rw[e2]at L;cases L rfl|some bs=>
     dsimp only;have q:=Xbh e2;subst q;cases rv with
     |cons ru rr=>
      cases rr;obtain⟨a,ws,its,rfl,hl,hr,hv,hz⟩:=I.its e r1 ru;have hw:=Xsw hr;subst hw;have aa:Qm2=ll bs:=by rw[<-hv.length];simp
      refine call_any_walk QI0;refine Qg;·rw[Xqz hv hP];exact Vb7 hQ
      ·obtain⟨e3,k3⟩:=ab h' tk hk;rw[e3,aa,Xl8 bs _ λ_=>rfl];exact Xo I.sr QB1
  |tup xs=>
   obtain⟨v,rfl,r1⟩:=rd.one;simp only[Xm]at L ⊢;cases e2:Xi xs with
   |none=>rw[e2]at L;cases L rfl|some bs=>
    dsimp only;have q:=Yp e2;subst q;cases rv with
    |cons ru rr=>
     cases rr;obtain⟨a,ws,its,rfl,hl,hr,hv,hz⟩:=I.seqI (d:=.tup (bs.map D.int)) rfl r1 ru;have hw:=hr.ints_of;subst hw;have aa:Qm2=ll bs:=by rw[<-hv.length];simp
     refine call_any_walk (Xew Q24 hl λIt fp wr St ac W st hf ab=>?_);refine⟨It,fp,wr,_,_,St,λi=>(Q04[i]?).getD yw,rfl,W,st,λi v s' Q' E' hP hQ=>?_,λh' tk hk=>?_⟩
     ·obtain⟨t,e⟩:=Xn0 hv hP;have hi:i<ll bs:=by rw[<-aa];exact(Vd.mp hP).1
      rw[e];refine truthy_int ?_;simpa [hi] using hQ
     obtain⟨e3,k3⟩:=ab h' tk hk;rw[e3,aa,<-Vg (as:=bs) (f:=(· != 0)),Xl8 Q04 _ λ_=>rfl,List.any_map];exact Xo I.sr QB1
  |_=>cases L rfl
theorem Xhq(ns:LI):∀k,k<=ll ns->preSum (λi=>Qo4.getD 0) k=(ns.take k).sum
 |0=>λ_=>by simp[preSum]|k+1=>λh=>by
  have hk:k<ll ns:=by omega
  rw[preSum,Xhq ns k Q7,Veq hk,List.sum_append];simp[hk]
theorem Ycy(hc:X.calm=yx):BlR X .smB (.builtin "sum"):=by
 intro pc s σ H ρ S env ds vs us E I rd rv L;match ds,rd,L with
 |[],_,L=>cases L rfl|_::_::_,_,L=>cases L rfl|[d],rd,L=>
  obtain⟨v,rfl,r1⟩:=rd.one;simp only[Xm]at L ⊢;cases e:Xp S d with
  |none=>rw[e]at L;cases L rfl|some xs=>
   rw[e]at L;simp only[V1]at L ⊢;cases e2:Xi xs with
   |none=>rw[e2]at L;cases L rfl|some ns=>
    dsimp only;have q:=Yp e2;subst q;cases rv with
    |cons ru rr=>
     cases rr;obtain⟨a,ws,its,rfl,hl,hr,hv,hz⟩:=I.seqI e r1 ru;have hw:=hr.ints_of;subst hw;have ab:Qm2=ll ns:=by rw[<-hv.length];simp
     refine call_sum_walkAnyS (Xew Q24 hl λIt fp wr St aa W st hf ac=>?_);refine⟨It,fp,wr,_,_,_,_,λi=>Qo4.getD 0,rfl,W.toS,st,hf,λi v hP=>Xn0 hv hP,λs' t' hm=>?_⟩;obtain⟨h1,h2,h3,h4,h5⟩:=hm;obtain⟨e3,k3⟩:=ac s'.heap s'.toks h1;have e4:s'={aa with heap:=s'.heap,toks:=s'.toks}:=by cases s';cases aa;simp only at h2 h3 h4;subst h2 h3 h4;rfl
     rw[e4,e3,ab,Xhq ns _ Qy,Vb2];exact Xad I.sr QB1
theorem X8a(L:X.calm=yx)(I:S0 X pc σ H s ρ S env)(rv:RelV Qa1 v')(ru:RelV Qf3 u'):Vh Q0 X.A (call Q54 [v',u']) (OkP X pc σ ρ H (Xm .max QF1 S)) E s:=
 Xgm (Q':=λz H'=>z=.int (if j>i then j else i)/\H'=H) (Xub L) I.inv Qh4 QH3 λw s' z H' J rz Qa=>by subst e1 e2;obtain⟨t,rfl⟩:=rz;exact Xad I.sr J
theorem X8b(hc:X.calm=yx){i j:Int}{v' L:Vb}(I:S0 X pc σ H s ρ S env)(rv:RelV Qa1 v')(ru:RelV Qf3 L):Vh Q0 X.A (call Q44 [v',L]) (OkP X pc σ ρ H (Xm .min QF1 S)) E s:=
 Xgm (Q':=λz H'=>z=.int (if j<i then j else i)/\H'=H) (Xuc hc) I.inv Qh4 QH3 λw s' z H' J rz Qa=>by subst e1 e2;obtain⟨t,rfl⟩:=rz;exact Xad I.sr J
theorem Xu9{k:Bl}{S:Sto}(hk:k=.max\/k=.min)(L:Xm k ds S≠.bad):∃i j,ds=QF1:=by
 rcases hk with rfl|rfl
 ·simp only[Xm]at L;split at L;·exact Q03
  ·cases L rfl
 simp only[Xm]at L;split at L;·exact Q03
 ·cases L rfl
theorem Ycz(hc:X.calm=yx):BlR X .max Q54:=by
 intro pc s σ H ρ S env ds vs us E I rd rv nb;obtain⟨i,j,rfl⟩:=Xu9 (.inl rfl) nb;obtain⟨v,u,rfl,r1,r2⟩:=rd.two;simp only[RD]at r1 r2;subst r1 r2;cases rv with
 |cons ru rr=>cases rr with
  |cons L rr=>cases rr;exact X8a hc I ru L
theorem Yc0(hc:X.calm=yx):BlR X .min Q44:=by
 intro pc s σ H ρ S env ds vs us E I rd rv nb;obtain⟨i,j,rfl⟩:=Xu9 (.inr rfl) nb;obtain⟨v,u,rfl,r1,r2⟩:=rd.two;simp only[RD]at r1 r2;subst r1 r2;cases rv with
 |cons ru rr=>cases rr with
  |cons L rr=>cases rr;exact X8b hc I ru L
def MtD(X:Cx)(k:Mt)(id:String):Prop:=
 ∀(pc:LA) (s:Vc) (σ:L2.St) (H:Hp) (ρ:LR) (S:Sto) (env:En) (d:D) (v:V) (u:Vb) (ds:LD) (vs:LW) (us:LV) (E:VP),S0 X pc σ H s ρ S env->RD X.K ρ H d v->RelV v u->RDs X.K ρ H ds vs->Vals vs us->Yx k d ds S≠.bad ->
  Vh Q0 X.A (call Q85 (u::us)) (OkP X pc σ ρ H (Yx k d ds S)) E s
theorem Xkj{n:Nat}{a:Addr}{xs:LD}{vs:LW}{s':Vc}{d:D}{v:V}{u:Vb}(I:S0 X pc σ H s ρ S env)(ha:ρ[n]?=yz a)(hv:H a=yz Q76)(J:Inv X pc σ Ql4 s')(rd:RDs X.K ρ H xs vs)(rv:RelV v u)(L:RD X.K ρ H d v):
  OkP X pc σ ρ H (.ok d (S.set n (.lst xs))) u s':=by
 have nf:∀o u,H a≠yz Qe0:=λo u z=>by rw[hv]at z;cases z
 have st:Stp X.K ρ ρ H Ql4:=Stp.chg (S:=S) (o:=.lst xs) I.sr ha nf;exact .mk st J rv (L.mono st) (I.sr.chg ha nf ⟨vs,Xl,rd.mono st⟩)
theorem Xyn:MtD X .append "list.append":=by
 intro pc s σ H ρ S env d v u ds vs us E I rd rv aa ab L;match d,ds,aa,rd,L with
 |.ref n,[x],aa,rd,L=>
  obtain⟨y,rfl,r1⟩:=aa.one;simp only[Yx]at L ⊢;cases e:Z.lstM S n with
  |none=>rw[e]at L;cases L rfl|some xs=>
   rw[e]at L;dsimp only at L ⊢;split at L;·rename_i hz;rw[iP0 hz];obtain⟨a,ws,rfl,ha,hv,hr⟩:=I.lstR e rd;refine mtd (Q':=λz H'=>z=.non/\H'=upd H a (.lst (ws++[y]))) Xlz I.inv rv ab ⟨a,ws,y,rfl,rfl,hv,by rw[<-hr.length];exact Uh hz Xfi,rfl,rfl⟩ λw s' z H' J rz zz=>?_;obtain⟨e1,e2⟩:=zz;subst e1 e2;exact Xkj I ha hv J (hr.append (.cons r1 .nil)) rz Q9
   ·cases L rfl
 |.ref n,[],_,_,L=>cases L rfl|.ref n,_::_::_,_,_,L=>cases L rfl|.non,ds,_,_,L=>cases L rfl|.bl _,ds,_,_,L=>cases L rfl|.int _,ds,_,_,L=>cases L rfl|.str _,ds,_,_,L=>cases L rfl|.tup _,ds,_,_,L=>cases L rfl|.fro _,ds,_,_,L=>cases L rfl
theorem Yc1:MtD X .xtd "list.extend":=by
 intro pc s σ H ρ S env d v u ds vs us E I rd rv ab ae L;match d,ds,ab,rd,L with
 |.ref n,[x],ab,rd,L=>
  obtain⟨y,rfl,r1⟩:=ab.one;cases x with
  |ref k=>
   simp only[Yx]at L ⊢;cases e:Z.lstM S n with
   |none=>rw[e]at L;cases L rfl|some xs=>
    rw[e]at L;dsimp only at L ⊢;cases e2:Xc S k with
    |none=>rw[e2]at L;cases L rfl|some ys=>
     rw[e2]at L;dsimp only at L ⊢;split at L;·rename_i hz;rw[iP0 hz];obtain⟨a,ws,rfl,ha,hv,hr⟩:=I.lstR e rd;obtain⟨b,zs,rfl,hb,hw,hq⟩:=I.lstR e2 r1;refine mtd (Q':=λz H'=>z=.non/\H'=upd H a (.lst (ws++zs))) Xud I.inv rv ae ⟨a,b,ws,zs,rfl,rfl,hv,hw,by rw[<-hr.length,<-hq.length];exact V2 hz Xfi,rfl,rfl⟩ λw s' z H' J rz zz=>?_;obtain⟨e1,e2⟩:=zz;subst e1 e2;exact Xkj I ha hv J QW4 rz Q9
     ·cases L rfl
  |tup ys=>
   simp only[Yx]at L ⊢;cases e:Z.lstM S n with
   |none=>rw[e]at L;cases L rfl|some xs=>
    rw[e]at L;dsimp only at L ⊢;split at L
    ·rename_i hz;rw[iP0 hz];obtain⟨a,ws,rfl,ha,hv,hr⟩:=I.lstR e rd;simp only[RD]at r1;obtain⟨b,zs,rfl,hs,hq⟩:=r1;cases rv;obtain⟨u2,rfl,af⟩:=ae.one;cases af;have ai:ws.length+ll zs<=V3:=by rw[<-hr.length,<-hq.length];exact V2 hz Xfi
     obtain⟨z,its,c,ak,hl,eo⟩:=I.inv.lstM hv;obtain⟨aa,r2,⟨o2,e2,al,n2,aj⟩,an⟩:=I.inv.tuple hs;have am:=r2.length;have ah:its.toArray.size+aa.toArray.size<=V3:=by rw[Vo,Vo];omega
     have ac:¬ (!its.toArray.isEmpty&&Vda (its.toArray.size+aa.toArray.size))=true:=by rw[Xhz ah,Vgz];exact U5
     refine Va0 F.slot_list_extend ⟨_,eo,rfl⟩ F.entry_list_extend ?_ (F.args_list_extend_2 _ _);show Vh _ _ (Vbe Qn Q45 .none) _ _ s;unfold Vbe;refine Va (Vci (T:="tuple") ⟨o2,e2,al⟩ ?_);rw[iP0 (by rw[show(Vcr "tuple" == Vcr "tuple")=yx from rfl];simp)];refine Va (Ves e2 aj (Va (Ves eo rfl ?_)));rw[iN0 ac];refine Va (Vec eo rfl (Vf QB5) (by rw[Vo];omega) (by rw[Array.size_append];omega));exact Xkj I ha hv (I.inv.lset (its':=its++aa) hv eo QS (ak.append r2) (by rw[V4];exact ai)) QW4 (show RelV .non Vcq from rfl) Q9
    cases L rfl
  |_=>cases L rfl
 |.ref n,[],_,_,L=>cases L rfl|.ref n,_::_::_,_,_,L=>cases L rfl|.non,ds,_,_,L=>cases L rfl|.bl _,ds,_,_,L=>cases L rfl|.int _,ds,_,_,L=>cases L rfl|.str _,ds,_,_,L=>cases L rfl|.tup _,ds,_,_,L=>cases L rfl|.fro _,ds,_,_,L=>cases L rfl
universe e
section
variable{X:Cx}{pc:LA}{σ:L2.St}{H:Hp}{s:Vc}{ρ:LR}{S S':Sto}{env:En}{a b c e:Expr}{f fa fb fc:En->Sto->R D}{pos:Pos}
theorem X1r(ha:DE X a fa):DE X (.UnaryOp .USub a pos) (λenv S=>QE.bind λx S=>match x with | .int i=>.ok (.int (-i)) S|_=>.bad):=by
 intro pc s σ H ρ S env I L;dsimp only at L ⊢;cases q:fa env S with
 |bad=>rw[q]at L;cases L rfl|ex n S1=>exact UnaryOp_ Qd2|ok x S1=>
  rw[q]at L;simp only[Rk0]at L ⊢;refine UnaryOp_ (ha.ok I q λu s1 v H1 ab I1 rv rd aa=>?_);cases x with
  |int i=>simp only[RD]at rd;subst rd;obtain⟨t,rfl⟩:=rv;exact neg_int (OkP.pre aa (Xad I1.sr (I1.inv.tok _)))|_=>cases L rfl
theorem X8c(hc:DT X c Q40)(ha:DT X a QL0)(hb:DT X b Qh1):
  DT X Qg3 (λenv S=>tst (QC0.bind λx S=>match Xe S x with|some yx=>fa env S|some yw=>fb env S|none=>.bad)):=by
 intro pc s σ H ρ S env I L;dsimp only at L ⊢;show Vh _ _ (do if <- isTrue c X.env (eval c X.env) then isTrue a X.env QP2 else isTrue b X.env QO2) _ _ s;cases q:fc env S with
 |bad=>rw[q]at L;cases L rfl|ex n S1=>exact Va QN2|ok x S1=>
  rw[q]at L;simp only[Rk0]at L ⊢;cases t:Xe S1 x with
  |none=>rw[t]at L;cases L rfl|some r=>
   rw[t]at L;refine Va QH0;cases r with
   |true=>exact Vp QN0 Q6 λx s' z=>z.pre aa|false=>exact Vp QM0 Q6 λx s' z=>z.pre aa
noncomputable def Y9(o1 L:Co)(fa fb fc:En->Sto->R D)(env:En)(S:Sto):R D:=QE.bind λx S=>Qi.bind λy S=>match X0 o1 x y S with
  |some yx=>QC0.bind λz S=>Xh L y z S|some yw=>.ok Q95 S|none=>.bad
theorem Xn1(aj:Op2 X (Vbc QG6) (Xh o1))(ha:DE X a fa)(hb:DE X b fb)(I:S0 X pc σ H s ρ S env)(nb:Y9 o1 o2 fa fb fc env S≠.bad)
  {W:Vb->Vb->Bool->Vc->Prop} (hE:∀x s',ExP X pc σ ρ H (Y9 o1 o2 fa fb fc env S) x s'->Ev x s')
  (hF:∀v u s3 S2 H2 L,Y9 o1 o2 fa fb fc env S=.ok Q95 S2->S0 X pc σ H2 s3 L S2 env->Stp X.K ρ L H H2->W v u yw s3)
  (hT:∀v u s3 S2 y vy H2 L,Y9 o1 o2 fa fb fc env S=(QX5.bind λz S=>Xh o2 y z S)->S0 X pc σ H2 s3 L S2 env->RelV vy u->RD X.K L H2 y vy->Stp X.K ρ L H H2->W v u yx s3):
  Vh Q0 X.A QP2 (λv s1=>Vh Q0 X.A QO2 (λu s2=>Vh Q0 X.A (Vbc QG6 v u) (λd s3=>∃r,d=.bool r/\W v u r s3) Ev s2) Ev s1) Ev s:=by
 cases q:fa env S with
 |bad=>rw[Y9,q]at nb;cases nb rfl|ex n S1=>exact ha.ex I q λx s' z=>hE x s' ⟨n,S1,by rw[Y9,q];rfl,z⟩|ok x S1=>
  refine ha.ok I q λv s1 vx H1 al I1 rv rd ae=>?_;cases q2:fb env S1 with
  |bad=>rw[Y9,q]at nb;simp only[Rk0]at nb;rw[q2]at nb;cases nb rfl|ex n S2=>exact hb.ex I1 q2 λx s' z=>hE x s' ⟨n,S2,by rw[Y9,q];simp only[Rk0];rw[q2];rfl,z.pre ae⟩|ok y S2=>
   refine hb.ok I1 q2 λu s2 vy H2 L I2 ru ah ac=>?_
   have eq:Y9 o1 o2 fa fb fc env S=(match X0 o1 x y S2 with
     |some yx=>QX5.bind λz S=>Xh o2 y z S|some yw=>.ok Q95 S2
     |none=>.bad):=by rw[Y9,q];simp only[Rk0];rw[q2];rfl
   cases q3:X0 o1 x y S2 with
   |none=>rw[eq,q3]at nb;cases nb rfl|some r=>
    have e3:Xh o1 x y S2=.ok Qi5 S2:=by unfold Xh;rw[q3]
    refine Vp (aj pc s2 σ H2 L S2 env x y vx vy v u QG I2 (by rw[e3];exact λz=>nomatch z) (rd.mono ac) rv ah ru) (λd s3 z=>?_) λ_ _ z=>z.elim;rw[e3]at z;obtain⟨d',S3,e4,w,H3,ab,J3,ai,af,ak,aa⟩:=z;cases e4;simp only[RD]at af;subst af;cases ai;refine⟨r,rfl,?_⟩;have I3:S0 X pc σ H3 s3 ab S2 env:=I2.step J3 ak aa;cases r with
    |false=>exact hF v u s3 S2 H3 ab QI5 I3 QX4|true=>exact hT v u s3 S2 y vy H3 ab QI5 I3 ru (ah.mono aa) QX4
end
mutual
#check[((((s.heap.push (Uf "list" #[] 0)).update s.heap.objs.size (V5 (·++its.toArray))).push (Uf "list" its.toArray 0)).update (s.heap.objs.size+1) (V5 λ_=>(#[]:AV))),((s.heap.push (Uf "list" #[] 0)).update s.heap.objs.size (V5 (·++its.toArray))),s.heap.push (Uf "list" #[] 0),Uf "list" #[] 0,Vk X.prog X.w,(qs.map (·.2)),tkd prog w,Vk prog w,y::ys,{cls:=.type "list",data:=.seq #[]},0,0,0,0,0,0,0,by decide,V5 λ_=>(#[]:AV),s.heap.objs.size+3,s.heap.objs.size+1,{s3 with heap:=s3.heap.push {cls:=.type "slice",data:=.fields #[vl,vu,.none]} },{L with heap:=L.heap.push {cls:=.type "slice",data:=.fields #[vl,.none,vs]} },.builtin "object.__class__",λenv S=>(fa env S).bind λx S=>match (kdD S x).bind λk=>Xam k [t] with|some r=>.ok (.bl r) S|none=>.bad,sliceAdjust lo yy c (ll its),by omega,(·.2),(Vbs cpos (Ui (e::es) X.env)).all (λx=>!x.1)&&(backToKw cpos (Vhd [] X.env)).all (λx=>x.1.isSome)&&decide ((e::es).length+([]:List Vdz).length+(if ([]:List Vdz).isEmpty then 0 else 1)<30),Y9 o1 o2 fa fb fc env S,Uf "list" its.toArray 0,(by show(yw||(Vbs cpos (Ui es X.env)).any (·.1))=yw;rw[L];rfl),upd (upd Hb L (.lst rs)) s.heap.objs.size (.tup [.int i,v]),LI×Addr×Vb,((qs.map (·.2.1)).toArray.zip (qs.map (·.2.2)).toArray),z.2.1::z.2.2.1,upd Hb L (.lst rs),by decide+kernel,λa q=>Xdz a q.1 q.2.1 q.2.2,yz (.builtin "BaseException.__getattribute__"),(s.heap.objs.size+1,Uf "list" #[] e1),x==("__debug__" : Str),{cls:=.type "dict",data:=.dict #[]},0,0,0,0,0,0,(#[]:AV),by simp,.ref s.heap.objs.size,Uf "tuple" its.toArray 0,⟨rfl,rfl⟩,(s.heap.update a QB).push (Uf "tuple" Q5.toArray 0),(Vbs cp (Ui Q8 X.env)).all (λx=>!x.1)&&(backToKw cp (Vhd [] X.env)).all (λx=>x.1.isSome)&&decide (Q8.length+([]:List Vdz).length+(if ([]:List Vdz).isEmpty then 0 else 1)<30),(Q2.update s.heap.objs.size (V5 (·++Q5.toArray))),{s with heap:=Q2.update s.heap.objs.size (V5 (·++vs.toArray))},Xaa scope,.builtin "getset_descriptor.__get__",⟨_,rfl⟩,Vf ?_,.Call (.Name "isinstance" p0) [a,.Name nm p1] [] pos,(·.1),opC (if ng then .notin else .isin),snd a X sc N x hN hs L h2,I.inv.tok _,(fa env S).bind λx S=>match (kdD S x).bind λk=>Xam k [t] with|some r=>R.ok (D.bl r) S|none=>R.bad,{cls:=.type "tuple",data:=.seq #[.int i s.toks,u]},λkvs p=>Yk kvs p.1 p.2,by assumption,.builtin id,do callWith pos (<-eval fx env) [] (Vbs pos (Ui args env)) (backToKw pos (Vhd [] env)),kla_obj "<lambda>" (Xat nm) params body scope [] ((X.mg "__name__").getD .none) L aa,.type "BaseException",.Name "isinstance" p0,[.ref s.heap.objs.size],upd Hb s.heap.objs.size (.tup [.int i,v]),hY pc s H L C fp,.ref D,e::es,([]:List Vdz),λ_ _=>False,Xan st.2,Vi _,0,0,0,0,0,0,0,.ref C,Vp h1 (λu s2 h2=>Vp h2 (λd s3 ⟨r,e,w⟩=>?_) λ_ _ z=>z) λ_ _ z=>z,{s with heap:=h',toks:=tk},[.Tuple [.Name x px,.Name y py] kt pt],(V5 (·.push (Vcg s.heap.objs.size))),.builtin "sorted",(fc env S).bind λz S=>Xh o2 y z S,Uf "list" Q5.toArray 0,LI×Addr×V,.cons t2 it2 ifs2 .nil,more.map λx=>hrw x.1,OkP X pc σ ρ H (.ok (.ref (ll S)) (S++[.lst (r.map Xa6)])),{s with heap:=h' },blk X pc s H scope cl C own fp,(yw,eval e X.env),vNm z.1,f env S,ap.endLine==cp.line,Xq st.1,Vbs pos (Ui es env),(λz=>L (by simp[z])),s.heap.push Q9,ll vs,(h pc s σ H ρ S env I (by rw[q];exact λz=>nomatch z)),⟨n,S1,rfl,z⟩,x==("__classdict__" : Str),0,0,0,0,0,0,sliceAdjust l yy c (ll xs),.ref n,.ref (ll S),snd b X sc N y hN hs L h3,Xaq hs h2,Xa7 e,Vdx lo yy (yz c) (ll its),(raw.take i).foldl Xaf [],hB pc s1 σ H1 ac S1 env ds vs us Q70 I1 rd rv L,[opC o1,opC o2],call g [v,.ref y,.ref D],(by rw[zz];exact q),λb ob q=>Vm _ q,ll its,Xag xs l c,Uf "list" #[] e1,⟨_,Vw _ rfl,rfl,_,rfl⟩,[λv=>bindName X.env y v,λv=>bindName X.env x v],{s with heap:=Qf.push Q3},J.hok.fresh Q90,.builtin "dict.update",ha.ok I q λus s1 vs H1 ac I1 rv rd ae=>?_,∀b o,s.heap.get? b=yz o->h'.get? b=yz o,λenv S=>(g env S).bind λxs S=>Xm k xs S,sliceAdjust lo yy c n,Vbs pos (Ui es X.env),Ui es X.env,.ref a,.Name x p,ev F G e env S,.type "object",(λz=>by rw[z]at hb;exact aB0 hb (Vcp _)),λy=>match y with|.bool c=>c==b|_=>yw,Xal d li L S3,Vf ⟨_,rfl,Vf h⟩,Q0.push Qd,0,0,0,0,0,0,0,L.blt _ QA,.ret .none,.Tuple [a,b] k2 pt2,.Subscript o i spos,fa env S,Xat nm,LI×Vb,.ref L,.inl rfl,(sortRuns').run (Vh1 κ QR #[] 7 yy),⟨o,L,hc⟩,⟨[],[⟨x,an,p1⟩],yy,[],[],yy,[]⟩,[.Subscript o i spos],(by simp;omega),Uf "list" items n0,(es.filter (·.hash==(Vdw Q6 x).hash)),c0==0||c0==c,Xb2 l c d S1,Xag its lo c,Vbn es X.env,V5 (λ_=>Qa),⟨o2,ac,af,n2,aa⟩,[(Vau "key",.ref f)],(by rw[hr];exact nb),HT.sIx QW0 QW0 L-HT.sIx QW0 0 li,(.ex k S2:R D),0,0,0,0,0,0,⟨o1,L,ae,n1,ab⟩,λb w hb q=>(sb.2 b hb).trans q,y::z::r,k.map D.int,hQ _ ?_ (Vaz ..),evs F G es env S,evalPart e X.env,Vaz ..,J.laid (t':=s3.toks) Qm0 Q90 ?_,.type T,J.laid (t':=L.toks) Qm0 Q90 ?_,⟨tg,iter,cs,0⟩,ne _ _ z,nP _ _ z,(by simp only[RD]),Xcj N N2,(V5 (·.push Vcq)),L.map Qo,⟨x,p,rfl,h2.1.1,h2.1.2,h2.2⟩,snds es X sc N Q8 hN hs L h4,snds es X sc N Q8 hN hs L h3,snd e X sc N x hN hs L h.1.2,evs F G es,blk X pc s H scope L C Qj fp,.ref a::us,.Subscript (.Name x p2) e p3,⟨ha,λy hy=>?_,Xad I.sr Qr⟩,λ_ _ _=>False,(yw,eval a X.env),x.2.2.endLine==z.2.2.2.line,snds es X sc N xs hN hs L h,s.heap.push QZ,(qs.map (·.2.1)),Yx m Qb0 ds S2,Xaw I.inv hg hm hv ?_ hn ab,OkP X pc σ ρ H (.ex k S2),0,0,0,0,0,0,0,{s with heap:=s.heap.push Qt },{s with heap:=s.heap.push Q9 },(λz=>by rw[z,hT]at n;cases n),upd H1 s1.heap.objs.size u,upd H L (.frz oc (.own 0)),snd o X sc N ox hN hs L h5,(rs.map λq:LI×Vb×Vb=>q.2.2),ks.filterMap λk=>xs[L k]?,hc rfl,getItem (.ref t) (.ref sl),.ref y,.ref e,(λz=>nomatch z),snd a X sc N x hN hs L h1,qs.map λq=>(q.1,q.2,q.2),ll qs,Xdx Qb0 ds S2,Ub _,LI×D,(L.map (·.2.2)),.ref sl,.lst ws,.Attribute ox "update" ap,r.drop (HT.sIx QW0 0 li),.Compare a Qj0 [b,c] pos,λu s' z=>?_,0,0,0,0,0,0,ho.ex I q λx s' z=>QY0,ha.ex I q λx s' z=>QY0,eval o X.env,(by with_unfolding_all rfl),apos.endLine==cpos.line,Xh6 scope sc,Vci (T:="tuple") QK1 ?_,Vbc (opC o2),Uf "list" ab.toArray nk,.Slice lo yy (yz st) p2,outer.names.lookup y.1,fo env S,Xo L.sr (L.inv.tok tk),X3 kvs r,Vw _ rfl,Vbd (Vel ?_ hs) hs rfl,.ref s3.heap.objs.size,.ref s1.heap.objs.size,(aj.trans ae).trans ab,(af.trans ae).trans ah,⟨_,ha,rfl⟩,st.trans (Stp.upd hn),pyNext (.ref I) >>= _,opA an,evit F G it,(by show Qn0<=_;exact an),Xi1 I.sr Qr,Xd9 h2,Vfa ..,Va (Vhl (Vak ?_) QR2),T0.at (Va (T1.at ?_)),.ref L.heap.objs.size,.dK [],sliceAdjust l yy c n,(by have:=L.units;omega),ExP X pc σ ρ H QZ1,0,0,0,0,0,0,0,.Name "enumerate" p2,.Call fx args [] pos,.Call Q21 Q50 [] pos,λb hb=>?_,x::y::z::r,rs++Q10,rd.mono ae,ks.map Xa6,ks.map Vbr,(by rw[Vo,aa];exact hi),bs.map Vfz,Ym 0 xs,Xcj X.N N2,Xau X.N Qj,(V5 (·.pop)),N[i]?=yz x,.lst vs,.Attribute ox nm ap,⟨hp,gs,dw,tk+1,os⟩,λw s2 z=>z.pre ae,λk=>Xa6 k.reverse,upd H QC (.lst []),intKind X.prog X.w,Vl clsNames.length,Vf7 (.ref t) >>= _,.type "ValueError",0,0,0,0,0,0,.Slice lo hi yy p2,.BoolOp .And Qc1 p,upd H p o,rs.map QK,more.foldl Xaf ys,call QF0 [.ref l],call (.ref f) [u],Xau N (Xaa z.2.2),Vs st,PySem.W.clsIn K C,PF cm F G fns gns,.type "enumerate",.lst (ws.set j v),.inl ⟨rfl,Xl⟩,.BoolOp .Or Qc1 p,⟨_,eo,rfl,c,rfl⟩,raw.foldl Xaf [],pyNext QL2 >>= _,he _ rfl rfl Q30,collect (.ref l),Xaa sc,Vek hA,Vdg xs,I1.inv.pin QX Qb,C.keeps I.inv.bk,.ref l,.ref f,.ref c,.ref b,{s1 with heap:=h' },[s1.heap.objs.size],λk=>!k.isEmpty,λb u e=>Vm _ e,(·.push u),z.pre ac,vs++[v2],0,0,0,0,0,0,0,h1.update L Qq1,(by simpa using hh),(by rw[Vo]<;>omega),Xau N Qj,Xaf ys p,Option D,L.map QK,I1.inv.ok.hd hc,.ext (ExcO C p),.builtin "repr",.BoolOp op ys p,⟨x,p,rfl,h2.2⟩,xv.foldl QV [],ps.foldl Qu [],(by simpa using h),af.foldl QV xs,Xgp L.units op,Xgp L.units o2,Xgp L.units o1,Vig (Vf4 a3 _),Vdq _ _ _ _ hb,Va (Vci aa ?_),Qa++vs.toArray,.Name "list" p,{s with heap:=h4},yz v,0,0,0,0,0,0,yz g,vNm e,(nm,ar,fl),ll ys,ll xs,hf b hb,hb _ QA,_&&_,Xa6 k,S++[.lst QL3],.type "tuple",.ok QB1,λx=>hrw x.1,fl=yx->cm=yx,evts F G ifs,call Qu0 Qy1,Xh6 z.2.2 sc,Xgq I.inv hb,Xd (Xj h hp),Vbs cpos Q01,Vbc (opC o1),QS.length<29,L.foldl QV a,.type "list",.ref (ll S1),⟨c,e3.symm⟩,[x,y],[e,it],ll us<ll vs,ll raw,l.map D.int,call Qw Qy1,(by rw[ab];rfl),(by kernel_rfl),Xho vs li L,Xdm x y v S,0,0,0,0,0,0,0,Vba ?_,Stp.new1 hp,Qh.push QH0,.type "int",.of k2,.mth k o es,⟨os,ab,ac⟩,⟨_,rfl,?_⟩,⟨_,oL,rfl⟩,[opC o1,opC L],[eval c X.env],yz c,upd H Da u,rd.mono ac,raw.take i,m.mono sub,(by rw[z];rfl),Vy z,Vc0 _ _ hb,Qf.push Q3,Expr×Expr,.str QF1 t,.cons e es,⟨o,h1,h2⟩,⟨_,_,rfl⟩,λx=>!x.1,0,0,0,0,0,0,yz Qk,yz QG,xs.take i,i+1,h L r1 r2,cm||Xs3 k,aa y L hf,Xs7 e,Xs6 e,Xkw ws hc,Xkp af hL,Xh o2,Xfq e,Xck z.2.2,Xck z.2.1,Xaq hs h1,Xa7 z.2.1,Vci hT ?_,Vbo Q81 L,L.calm h1,.dup o es,.done QB1,.blt k es,(i:Int)+1,⟨[u],[]⟩,λ_=>#[],typeOf v,pc++[QX],(nm,T),kdD S1 d,k0 b o e,ga env S,fi env S,ev F G o,ab it Qb,Xvh h hp,0,0,0,0,0,0,0,X1l hb.1,X.wish E,Vd.mp hx,.type id,.of hb.2,.lst QF3,.int x t,.frz o v,.frz _ _,[(x,u)],vNm y.1,(q.1,q.2.2),l.map f,i==j,hq q ab,hb _ m1,g env S,e4 q hq,ab e Qb,ab b hb,Xok z.1,Xkd k l,Vja _ _,Viq _ _,Ver _ _,.type U,0,0,0,0,0,0,.rng es,.refl _,.ref kS,.ref C0,.nx env,.lst rs,.head _,.enm es,.bool b,⟨_,ai⟩,[.lst Qo0],[.int i,v],tst QM,(ox,nm,ap),opC op,o==Vb0,Xoc ah,Vm _ q,Vm _ e,Vgu hu,Vfj ?_,Vdw Q6,Vak ?_,U2 _ L,.ref g,.cst d,[z.1,z.2],[v,ov,iv],(· == x),(· == b),yz Qw,vUn e,ll ws,ll ab,Xq aa,Xos L,0,0,0,0,0,0,0,Xoi e,Xh8 e,Xh o1,Vff _,Vf h1,.bl r,[opC o2],[.ref l],(·.2.2),yz x,yz e,Y6 l,Vy q,Vy e,Vl n,Vf q]
theorem Xn2(ai:Op2 X Qh2 Ql5)(hc:DE X c fc)(I:S0 X pc σ H s ρ S env)(ru:RelV vy u)(rd:RD X.K ρ H y vy)(st0:Stp X.K ρ0 ρ H0 H)
  (nb:QG0≠.bad) (hE:∀x s',ExP X pc σ ρ0 H0 QG0 x s'->Ev x s')
  (hW:∀r S3 s3 H3 L,QG0=.ok QF7 S3->S0 X pc σ H3 s3 L S3 env->Stp X.K ρ0 L H0 H3->W (.bool r) s3):
  Vh Q4 X.A (eval c X.env) (λw s1=>Vh Q4 X.A (Vbc (opC o2) u w) W Ev s1) Ev s:=by
 cases q:fc env S with
 |bad=>rw[q]at nb;cases nb rfl|ex n S1=>exact hc.ex I q λx s' z=>hE x s' ⟨n,S1,by rw[q];rfl,z.pre st0⟩|ok z S1=>rw[q]at nb;simp only[Rk0]at nb;refine hc.ok I q λw s1 vz H1 ah I1 rv ae ac=>?_;obtain⟨r,e1,e2⟩:=Xgn nb;refine Vp (ai pc s1 σ H1 ah S1 env y z vy vz u w Q70 I1 nb QN5 ru ae rv) (λd s3 zz=>?_) λ_ _ z=>z.elim;rw[e2]at zz;obtain⟨d',S3,e4,w',H3,L,J3,af,aa,aj,ab⟩:=zz;cases e4;simp only[RD]at aa;subst aa;cases af;exact hW r S1 s3 H3 L (by rw[q];exact e2) (I1.step J3 aj ab) (st0.trans (ac.trans ab))
theorem Yc2(aa:Op2 X Qu4 QC7)(ae:Op2 X Qh2 Ql5)(ha:DE X a fa)(hb:DE X b fb)(hc:DE X c fc)(hm:lastMarks Qj0 [b,c]=yw):
  DE X QY2 (Y9 o1 o2 fa fb fc):=by
 intro pc s σ H ρ S env I nb;refine Compare_chain (Vp (Xn1 (W:=λv u r s3=>if r=yx then Vh Q4 X.A (compareChain pos u QG7 QK5) (OkP X pc σ ρ H QM) (ExP X pc σ ρ H QM) s3 else OkP X pc σ ρ H QM (.bool yw) s3) aa ha hb I nb (λ_ _ z=>z) ?_ ?_)
  (λv s1 h1=>chain_link QB0) λ_ _ z=>z) hm
 ·intro v u s3 S2 H2 ac e I2 L;rw[iN0 U5,e];exact OkP.pre L (Xo I2.sr I2.inv)
 ·intro v u s3 S2 y vy H2 ac e I2 ru rd L;rw[iP0 rfl];refine chain_last (Xn2 ae hc I2 ru rd L (by rw[<-e];exact nb) (λx s' z=>by rw[e];exact z) λr S3 s4 H3 af e3 I3 ab=>?_);rw[e,e3];exact OkP.pre ab (Xo I3.sr I3.inv)
 ·subst e;refine Vb7 ?_;cases r with
  |true=>rw[iP0 rfl]at w;exact ite_tt w|false=>rw[iN0 U5]at w;exact ite_ff w
theorem X8d(ac:Op2 X Qu4 QC7)(ah:Op2 X Qh2 Ql5)(ha:DE X a fa)(hb:DE X b fb)(hc:DE X c fc)(hm:lastMarks Qj0 [b,c]=yw):
  DT X QY2 (λenv S=>tst QM):=by
 intro pc s σ H ρ S env I nb;dsimp only at nb ⊢;have aa:Y9 o1 o2 fa fb fc env S≠.bad:=λz=>nb QQ5;have ex:∀x s',ExP X pc σ ρ H QM x s'->ExP X pc σ ρ H Qm6 x s':=λx s' ⟨n,S1,e,z⟩=>⟨n,S1,by rw[e];rfl,z⟩
 refine isTrue_chain (Vp (Xn1 (W:=λv u r s3=>if r=yx then Vh Q4 X.A (testChain pos u QG7 QK5) (λb s'=>∃S',tst QM=.ok b S'/\∃H' ρ',Inv X pc σ H' s'/\SR X.K ρ' S' H'/\Stp X.K ρ ρ' H H') (ExP X pc σ ρ H Qm6) s3
   else ∃S',tst QM=.ok yw S'/\∃H' ρ',Inv X pc σ H' s3/\SR X.K ρ' S' H'/\Stp X.K ρ ρ' H H') ac ha hb I aa ex ?_ ?_)
  (λv s1 h1=>test_link QB0) λ_ _ z=>z) hm
 ·intro v u s3 S2 H2 ab e I2 L;rw[iN0 U5,e];exact⟨S2,rfl,H2,ab,I2.inv,I2.sr,L⟩
 ·intro v u s3 S2 y vy H2 ab e I2 ru rd L;rw[iP0 rfl];refine test_last (Xn2 ah hc I2 ru rd L (by rw[<-e];exact aa) (λx s' z=>ex x s' (by rw[e];exact z)) λr S3 s4 H3 af e3 I3 ae=>?_);exact Vb7 ⟨S3,by rw[e,e3];rfl,H3,af,I3.inv,I3.sr,ae⟩
 ·subst e;refine Vb7 ?_;cases r with
  |true=>rw[iP0 rfl]at w;exact ite_tt w|false=>rw[iN0 U5]at w;exact ite_ff w
variable{x:Str}{p:Pos}{es:LX}{g:En->Sto->R (LD)}{k:Bl}{id T:String}
theorem X8e (hB:BlR X k Qw) (hg:Gl X x) (hm:X.mg x=yy) (hv:Veo x=yz Qw) (ha:DA X Q50 g) (hn:x ≠ "__name__") (ab:QY=yw)
  (he:Ui Q50 X.env=QO0::Ui es X.env) (aa:Qz0.any Qo=yw):DE X QC3 Qx0:=by
 intro pc s σ H ρ S env I L;dsimp only at L ⊢;refine Vbx Q82;cases q:g env S with
 |bad=>rw[q]at L;cases L rfl|ex n S1=>exact Vdf Qb2 he aa|ok ds S1=>rw[q]at L;refine Vdf Qv0 he aa;exact Vp Qi0 QT3 λ_ _ z=>z.elim
theorem X8f (hB:BlR X k Qj1) (hg:Gl X x) (hm:X.mg x=yy) (hv:Veo x=yz Qj1) (ha:DA X Q50 g) (hn:x ≠ "__name__") (ab:QY=yw)
  (he:Ui Q50 X.env=QO0::Ui es X.env) (aa:Qz0.any Qo=yw):DE X QC3 Qx0:=by
 intro pc s σ H ρ S env I L;dsimp only at L ⊢;refine Vbx Q82;cases q:g env S with
 |bad=>rw[q]at L;cases L rfl|ex n S1=>exact Vbd Qb2 he aa|ok ds S1=>rw[q]at L;refine Vbd Qv0 he aa;exact Vp Qi0 QT3 λ_ _ z=>z.elim
theorem Yc3 (hg:Gl X x) (hm:X.mg x=yz u) (hd:∀ ρ H,∃v,RelV v u/\RD X.K ρ H d v) (L:QY=yw):DE X Q21 (λ_ S=>.ok d S):=by intro pc s σ H ρ S env I nb;obtain⟨v,rv,rd⟩:=hd ρ H;exact Xd5 I.inv hg hm (.mk .refl I.inv rv rd I.sr) L
theorem Xi6 (slot:Slot "list" name id) (ai:typeOf Qw=pure (.type "method_descriptor")) (hM:MtD X m id) (hr:∀x S,Xah m x S=yx->∃n xs,x=.ref n/\Xc S n=yz xs) (ho:DE X o fo) (ha:DA X Q50 g)
  (aa:attributeBase o name X.env Qc2=eval o X.env)
  (ac:QL=yx)
  (ab:Qe2=yx) (hs:Ui Q50 X.env=QO0::Ui es X.env) (L:Qt4.any Qo=yw):
  DE X (.Call (.Attribute o name apos) Q50 [] cpos) (λenv S=>Ql2.bind λx S=>if Xah m x S then QQ6.bind λxs S=>Yx m x xs S else .bad):=by
 intro pc s σ H ρ S env I nb;dsimp only at nb ⊢;cases q:fo env S with
 |bad=>rw[q]at nb;cases nb rfl|ex n S1=>exact wpAny_Call_method_late aa ac ab rfl Qa2|ok x S1=>
  rw[q]at nb;simp only[Rk0]at nb ⊢;split at nb
  ·rename_i hk;rw[iP0 hk];obtain⟨n,xs,rfl,hx⟩:=hr x S1 hk;refine wpAny_Call_method_late aa ac ab rfl (ho.ok I q λv s1 vx H1 al I1 rv rd af=>?_);obtain⟨a,ws,rfl,k1,k2,k3⟩:=I1.lstR hx rd;cases rv;obtain⟨its,_,pl,_⟩:=I1.inv.list QE5;refine⟨"list",id,PySem.F.plainAttrs_list,slot,ai,pl.isList.typeIs,λb eb=>?_,?_⟩;·cases eb;obtain⟨ob,n',e1,c1,hd,_⟩:=pl;exact⟨ob,e1,hd⟩
   ·cases q2:g env S1 with
    |bad=>rw[q2]at nb;cases nb rfl|ex k S2=>have hA:=ha.ex (pos:=cpos) (E:=ExP X pc σ ρ H QZ1) (Q:=λus s2=>Vh Q4 X.A Q55 Q92 Q93 s2) I1 q2 λx s' z=>.mk af z;rw[hs]at hA ⊢;exact Vfg QO Qv3|ok ds S2=>rw[q2]at nb;simp only[Rk0]at nb ⊢;have hA:=ha.ok (pos:=cpos) (E:=ExP X pc σ ρ H Q72) (Q:=λus s2=>Vh Q4 X.A Q55 (OkP X pc σ ρ H Q72) (ExP X pc σ ρ H Q72) s2) I1 q2 λus s2 vs H2 ak I2 aj ah ae=>Vp (hM pc s2 σ H2 ak S2 env Qb0 Q11 Q11 ds vs us Q70 I2 QG3 rfl ah aj nb) (λw s3 z=>z.pre (af.trans ae)) λ_ _ z=>z.elim;rw[hs]at hA ⊢;exact Vfg QO Qv3
  cases nb rfl
variable{E:VP}
theorem X8g{ng:Bool}(hu:X.A.units+1<Vbh)(I:S0 X pc σ H s ρ S env)(e1:Xbu S n=yz kvs)(e2:Xi ks=yz r)(rx:RD X.K ρ H (.tup ks) vx)(qx:RelV vx ux)(ry:RD X.K ρ H Qb0 vy)(qy:RelV vy uy):
  Vh Q4 X.A (Vbc Qp ux uy) (OkP X pc σ ρ H (.ok (.bl (ng != Qn2.isSome)) S)) E s:=by
 obtain⟨a,o,xs,ha,ho,f,hx,_⟩:=I.dic e1;obtain⟨ys,q,dd⟩:=Xsr I.inv ho f hx;rw[RD]at ry;obtain⟨a',rfl,L⟩:=ry;rw[ha]at L;cases L;cases qy;obtain⟨b,rfl,hb⟩:=X7w e2 rx;cases qx;have g:=X7t (k:=r) hx q;have z:(atKey ys r).isSome=Qn2.isSome:=by
  cases e3:X3 kvs r with
  |none=>rw[e3]at g;rw[g];rfl|some d'=>rw[e3]at g;obtain⟨c,v,u,g1,g2,g3⟩:=g;rw[g1];rfl
 cases ng with
 |false=>refine wpAny_in_heap (knd:=Vhu QW3) (k:=r) Qt6 Qr4 f.1 dd ?_;rw[z,Bool.false_bne];exact .mk (v:=.bl Qn2.isSome) .refl Qr rfl Qo1 I.sr|true=>refine wpAny_notIn_heap (knd:=Vhu QW3) (k:=r) Qt6 Qr4 f.1 dd ?_;rw[z,Bool.true_bne];exact .mk (v:=.bl ! Qn2.isSome) .refl Qr rfl Qo1 I.sr
universe e
section
variable{prog:Ue}{w:Uy}{A:U7}{E:VP}{s:Vc}
theorem Xva:typeLookup Qx4 "keys"=pure none:=am_miss_of_fast Q75
theorem Xvb {a:Addr} {xs:AV} {k:Nat} {Q:OV->Vc->Prop} (hx:s.heap.get? a=yz (Uf "list" xs k)) (hA:A.handled=yy)
  (h:∀h' tk,Qw0->Q yy QC0):Vh Q7 A (getAttr? Q11 "keys") Q E s:=by
 obtain⟨hp,g,d,tk,os⟩:=s;have hT:∀aa,(⟨hp,g,d,aa,os⟩:Vc).TypeIs Q11 "list":=λ_=>⟨_,hx,rfl⟩;have f1:=sub_AttributeError;have f3:=PySem.F.slot_list_getattribute.lookup;have f4:=PySem.F.slot_list_getattribute.bind Q11;have f5:=am_list_getattr_none;unfold getAttr? getAttrBy? getAttrBy
 repeat (any_goals (first|assumption|exact hT _|((with_reducible show Vh _ _ (call (Vhk "list.__getattribute__") _ _) _ _ _);refine Vei PySem.F.slot_list_getattribute (hT _) am_entry_list_getattribute (PySem.F.args_list_getattribute_2 _ _) (meets_getattribute_miss_list a xs k #[] "keys" _ Xva QU (by size_fits)) ⟨hx,hA,λh' aa e L=>?_⟩)|wp_step))
 obtain⟨t',u',he⟩:=L.there;show Vh _ _ (getattributeRaised _ _ _ _ _ _ _) _ _ _;unfold getattributeRaised
 repeat (any_goals (first|assumption|wp_step))
 exact h h' _ L.of.keeps
theorem Xl9:entryFor table "dict.update.loop"=yz Vbt.«dict.update.loop»:=entryFor_of_tree Q75
theorem Xdn:plainId "dict.update.loop"=true:=by decide+kernel
noncomputable abbrev tkd(prog:Ue)(w:Uy):=Vhu (intKind prog w)
noncomputable abbrev Xaf(ys:List QQ)(p:LI×Addr×Vb):=storedH ys p.1 p.2.1 p.2.2
theorem Xc8:∀(l ys:List QQ),(l.foldl Xaf ys).length<=ll ys+ll l
 |[]=>λys=>Vi _|p::l=>λys=>by
  refine V2 (Xc8 l QE4) ?_;have:QE4.length<=ll ys+1:=by
   unfold Xaf storedH;split;·rw[Vg];omega
   ·rw[V4];exact Vi _
  rw[Ux];omega
theorem Xq0{h h':Heap}{k:LI}{a:Addr}(x:Q6.is h k a)(kp:∀b o,h.get? b=yz o->h'.get? b=yz o):Q6.is h' k a:=by obtain⟨o,its,n,e,r⟩:=x;exact⟨o,its,n,kp _ _ e,r⟩
theorem Xq1{h:Heap}:∀(l ys:List QQ),(∀x∈ys,Q6.is h x.1 x.2.1)->(∀x∈l,Q6.is h x.1 x.2.1)->∀x∈l.foldl Xaf ys,Q6.is h x.1 x.2.1
 |[]=>λys h1 _=>h1|p::l=>λys h1 h2=>by
  refine Xq1 l QE4 (λx hx=>?_) λx hx=>h2 x (.tail _ hx);unfold Xaf storedH at hx;split at hx
  ·obtain⟨y,L,rfl⟩:=Uc.mp hx;have:=h1 y L;unfold putAt;split;·exact this
   ·exact this
  rcases V9.mp hx with z|z;·exact h1 x z
  ·rw[V6.mp z];exact h2 p Qg6
def DicR(h:Heap)(Da:Addr)(ys:List QQ):Prop:=∃o es L,h.get? Da=yz o/\o.ExactDict/\o.data=.dict es L/\(∀P w,es.toList=ys.map (Vdw (tkd P w)))/\(ys.map Qo).Nodup
theorem DicR.keep{h h':Heap}{Da:Addr}{ys:List QQ}(x:DicR h Da ys)(k:∀o,h.get? Da=yz o->h'.get? Da=yz o):DicR h' Da ys:=by obtain⟨o,es,L,e,r⟩:=x;exact⟨o,es,L,k _ e,r⟩
section
variable{R:Result->Vc->Prop}{I Da:Addr}{fp wr:LR}{G:Array GenState->Array GenState->Prop}{n:Nat}{P:Nat->Vb->Prop}{St:Nat->Vc->Prop}{h0:Heap}
theorem Xyo(hu:A.units+4<Vbh)(W:WalksS prog w A.in1 I fp wr G n P St)(hf:Da ∉ fp)(raw:List QQ)(hn:Q35=n)(hsz:n<1000)(ac:∀x∈raw,Q6.is h0 x.1 x.2.1)
  (hP:∀i v,P i v->∀p,raw[i]?=yz p->∃b,v=.ref b/\h0.IsTuple b #[.ref p.2.1,p.2.2]) (ay:h0.get? Da=yy) (af:∀b∈wr,h0.get? b=yy):
  ∀(k i:Nat) (t:Tok) (s:Vc),n-i=k->i<=n->St i s->DicR s.heap Da Qh0->(∀b o,h0.get? b=yz o->s.heap.get? b=yz o) ->
   (∀s',Moved (Da::wr) G s s'->DicR s'.heap Da Qq3->R Ql4 s')->Vdh Q7 A (.builtin "dict.update.loop" ⟨[.ref Da,.ref I,.int i t,.none],[]⟩) R s:=by
 have hw:Da ∉ wr:=λh=>hf (W.sub _ h);have sub:∀b∈wr,b∈Da::wr:=λb hb=>U2 _ hb;intro k;induction k with
 |zero=>
  intro i t s hk hi st D kp hR;obtain rfl:i=n:=by omega
  refine Vd3 Xl9 ?_;rw[Vf3 Xdn _];show Vh _ A.in1 Qw2 _ _ s;refine Va (W.done s _ _ st λs' m=>?_);show Vh _ A.in1 (Vjd Da [] >>= _) _ _ s';refine Va (Vf (Vf (hR s' QP5 ?_)));rw[<-hn,Vb2]at D;exact D.keep λo e=>m.heap Da o hw e|succ k ih=>
  intro i t s hk hi st D kp hR;have lt:i<n:=by omega
  refine Vd3 Xl9 ?_;rw[Vf3 Xdn _];show Vh _ A.in1 Qw2 _ _ s;refine Va (W.item i s _ _ lt st λv s' hv ah m=>?_);have hp:raw[i]?=yz raw[i]:=by simp[hn,lt]
  obtain⟨b,rfl,hb⟩:=hP i v hv _ hp;have L:∀b o,h0.get? b=yz o->s'.heap.get? b=yz o:=λb o e=>m.heap b o (λz=>by rw[af b z]at e;cases e) (kp b o e);obtain⟨ob,aw,al,nb,ai⟩:=hb;have aa:=L _ _ aw;have hT:s'.TypeIs Q24 "tuple" := ⟨ob,aa,al⟩;obtain⟨o,es,ep,ho,hx,hd,he,ak⟩:=D.keep (h':=s'.heap) λo e=>m.heap Da o hw e;have pre:=Xq1 (prog:=prog) (w:=w) (h:=h0) QO5 [] (λ_ z=>nomatch z) λx hx=>ac x (Vab hx);have DH:s'.heap.DictOfH Q6 Da Qh0:=⟨o,es,ep,ho,hx,hd,he _ _,λx hx=>Xq0 (pre x hx) L,ak⟩;have ao:=Xq0 (ac raw[i] (Vc4 _)) L;have ln:=Xc8 QO5 [];rw[U9,Vcd]at ln;show Vh _ A.in1 (Vge [Vcg b] _ >>= _) _ _ s';refine Va (Vak (Va (wpAny_tryCatch ?_)));unfold Builtin.Dict.pairItems;refine Va Qr5;rw[iP0 QA];refine Va (Vim aa ai Qm);dsimp only[Option.getD];refine Vak (wpAny_dictSet_heap (knd:=tkd prog w) (hsz:=by rw[Vcz];omega) (Vgu QJ) ao DH λh' dd hs=>?_);have e1:(raw.take Qd5).foldl Xaf []=storedH Qh0 raw[i].1 raw[i].2.1 raw[i].2.2:=by rw[Vg3,hp,List.foldl_append];rfl
  rw[<-e1]at dd;obtain⟨o2,am,an,ar,ae,aj,au,_,ab⟩:=dd;have ap:∀b o,h0.get? b=yz o->b≠Da:=λb o e z=>by rw[z,ay]at e;cases e
  have ii:Qx5=((i+1:Nat):Int):=by omega
  show Vh _ A.in1 (again (.builtin "dict.update.loop" ⟨[.ref Da,.ref I,Vcy Qx5,.none],[]⟩)) _ _ _;rw[ii];refine Vf ⟨plainId_quiet Xdn _,ih Qd5 _ _ QJ lt (W.frame _ s' _ _ ah QY6 λb hb o e=>?_) ⟨o2,am,an,ar,ae,aj,λ_ _=>au,ab⟩ (λb o e=>(hs.2 b (ap b o e)).trans (L b o e)) λaq ax av=>?_⟩;·rw[hs.2 b (λz:b=Da=>hf (z▸hb))];exact e
  ·refine hR aq (Moved.trans W.gtrans (QP5.then_heap QY6 λb o hb e=>?_) ax) av;rw[hs.2 b (λz:b=Da=>hb (z▸Uv))];exact e
universe e
theorem Xsx {l:Addr} {items:AV} {n0:Nat} {raw:List QQ} {Q:VP} (hu:A.units+10<Vbh) (hh:A.handled=yy) (hl:s.heap.get? l=yz QO1) (hn:Q35=items.size) (hsz:items.size<1000)
  (ak:∀x∈raw,Q6.is s.heap x.1 x.2.1) (hP:∀(i:Nat) p,raw[i]?=yz p->∃b,items[i]?=yz Q24/\s.heap.IsTuple b #[.ref p.2.1,p.2.2])
  (h:∀h' tk,DicR h' s.heap.objs.size Qq3->Qw0->Q Qc QC0):
  Vh Q7 A (call (.type "dict") QH7) Q E s:=by
 refine callType_codes (Q₁:=λobj aa=>obj=.ref s.heap.objs.size/\aa={s with heap:=s.heap.push QZ }) PySem.F.kt_called_dict (PySem.F.kt_typeCall_dict_1 _) PySem.F.entry_dict_init (kt_code_dict_new _ Qe) ?_;rintro obj aa ⟨rfl,rfl⟩;have L:Q52.DictOfH Q6 s.heap.objs.size []:=Heap.DictOfH.new s.heap;have ab:Q52.get? l=yz QO1:=Vm _ hl;refine⟨L.typeIs,PySem.F.args_dict_init_2 _ _,?_⟩;unfold Vbt.«dict.__init__»;refine Va ?_;unfold Vje;refine Va (wpAny_notOrdered_dict L.typeIs ?_);show Vh _ _ (pure (s.heap.objs.size,[Vcg l])) _ _ _;refine Vf ?_;show Vh _ _ (Vew "dict.__init__" s.heap.objs.size Qz3 [] .none) _ _ _;unfold Vew;refine Va (Vci (T:="list") ⟨_,ab,rfl⟩ ?_);rw[iP0 QA];refine Va (Xvb ab QB4 λh1 al k1=>?_);simp only[Option.isNone_none,if_true];refine Va QA5;have ae:h1.get? l=yz QO1:=k1 _ _ ab;refine Va (Vha ⟨_,ae,rfl,n0,rfl⟩ ?_);have lS:l<s.heap.objs.size:=Vy hl;have k0:∀b o,s.heap.get? b=yz o->h1.get? b=yz o:=λb o e=>k1 b o Qs6
 have ac:h1.get? s.heap.objs.size=yz QZ:=k1 _ _ Qo2;have lI:s.heap.objs.size<h1.objs.size:=Vy ac;have ah:l≠h1.objs.size:=Uq (Nat.lt_trans lS lI);refine Vf ⟨plainId_quiet Xdn _,Xyo (h0:=s.heap) (n:=items.size) (by show A.units+1+4<_;omega) ((Walks.list (A:=A.in1.in1) QB4 h1.objs.size l ah items).toS) ?_ raw hn hsz ak (λi v hv p hp=>?_) (Vhy Q90) QD3 (items.size-0) 0 0 _ rfl QR2
  ⟨⟨_,Vw _ rfl,rfl,rfl⟩,_,Vm _ ae,rfl,n0,rfl⟩ ⟨_,#[],0,Vm _ ac,⟨rfl,rfl,rfl⟩,rfl,λ_ _=>rfl,Vg2⟩ (λb o e=>Vm _ Q46) λs' m D=>?_⟩
 ·simp only[V0,Vaf,or_false,not_or];exact⟨Uq lI,Vep lS⟩
 ·obtain⟨b,e1,e2⟩:=hP i p hp;have af:items[i]?=yz v:=hv;rw[e1]at af;cases af;exact⟨b,rfl,e2⟩
 ·rw[V6.mp hb];exact Vhy (Vc9 lI)
 ·obtain⟨h',g',d',ai,aj⟩:=s';have eg:g'=s.gens:=m.gens;have ed:d'=s.drawn:=m.drawn;have eo:aj=s.os:=m.os;subst eg;subst ed;subst eo;refine⟨rfl,h h' ai D λb o e=>m.heap b o ?_ (Vm _ Q46)⟩;have lb:=Vy e;simp only[V0,Vaf,or_false,not_or];exact⟨Uq lb,Uq (Nat.lt_trans lb lI)⟩
variable{X:Cx}{pc:LA}{σ:L2.St}{H:Hp}{ρ:LR}{S:Sto}{env:En}
theorem Xn3:∀(ts:LS) (k:Nat) (acc:Str),(textFrom k acc ts).length<=acc.length+piled ts
 |[]=>λk acc=>by simp[textFrom,piled]|t::ts=>λk acc=>by
  have ih:=Xn3 ts (k+1) (acc++(if k>0 then ", " else "" : String)++t);have e:(Vau (if k>0 then ", " else "")).length<=2:=by split<;>decide
  rw[textFrom,piled_cons];simp only[Vi4]at ih;omega
mutual
theorem Xn4:∀p:Vdd,p.showable=yx->Xa2 p=yx->p.shown.length<=szD p
 |.none=>λ_ _=>by simp only[Vfv,szD];decide|.bool b=>λ_ _=>by simp only[Vfv,szD];cases b<;>decide|.int i=>λh _=>by
  simp only[Va8,decide_eq_true_eq]at h;simp only[Vfv,szD,szI];rw[PySem.ofString_length];split;·rename_i c;exact int_text_length_le10 (k:=3) QA c
  ·have:=int_text_length_le QA h;omega|.str x=>λ_ _=>by simp only[Vfv,szD];exact Vi _|.list xs=>λh h2=>by
  simp only[Va8]at h;simp only[Xa2]at h2;have ih:=shownAll_le xs h h2;simp only[Vfv,szD,listText,Vi4];have:=Xn3 Qw3 0 "[";have e1:(Vau "[").length=1:=by decide
  have L:(Vau "]").length=1:=by decide
  omega|.tuple xs=>λh h2=>by
  simp only[Va8]at h;simp only[Xa2]at h2;have ih:=shownAll_le xs h h2;simp only[Vfv,szD,tupleText,Vi4];have e1:(Vau "(").length=1:=by decide
  have L:(Vau (if Qw3.length==1 then ",)" else ")")).length<=2:=by split<;>decide
  have e3:(Str.join ", " Qw3).length<=piled Qw3:=by
   cases e:Vdg xs with
   |nil=>decide|cons t ts=>have:=join_length_add (t::ts) Qb;omega
  omega|.dict kvs=>λ_ h2=>by
  simp only[Xa2]at h2;cases kvs with
  |nil=>simp only[Vfv,PyData.shownKv,szD];decide|cons x r=>cases h2
theorem shownAll_le:∀ps:List Vdd,Vco ps=yx->dctEs ps=yx->piled (Vdg ps)<=szDs ps
 |[]=>λ_ _=>by simp[Vdg,szDs,piled]|p::ps=>λh h2=>by simp only[Vco,bA0]at h;simp only[dctEs,bA0]at h2;have i1:=Xn4 p h.1 h2.1;have i2:=shownAll_le ps h.2 h2.2;rw[Vdg,piled_cons,szDs];omega
end
theorem X8h(ac:∃o,X.K.lookup Vb0=yz o)(hg:X.A.guards=yz [])(hu:X.A.units+200<Vbh):BlR X .repr QJ4:=by
 intro pc s σ H ρ S env ds vs us E I rd rv L;match ds,rd,L with
 |[],_,L=>cases L rfl|d::_::_,_,L=>cases L rfl|[d],rd,L=>
  obtain⟨v,rfl,r1⟩:=rd.one;obtain⟨u,rfl,ru⟩:=rv.one;simp only[Xm]at L ⊢;cases e:Xff S d with
  |none=>rw[e]at L;cases L rfl|some t=>
   dsimp only;unfold Xff at e;cases e1:Xas S d with
   |none=>rw[e1]at e;cases e|some p=>
    rw[e1]at e;dsimp only at e;split at e
    ·rename_i hz;simp only[bA0,decide_eq_true_eq]at hz;obtain⟨⟨⟨z1,z2⟩,z3⟩,z4⟩:=hz;cases e;obtain⟨as,rr,ab⟩:=Xuw I ac e1 r1 ru;have aa:p.shown.length<=V3:=Xbb (V2 (Xn4 p z1 z2) z4);have ref:∀a,u=.ref a->Vh Q4 X.A (call QJ4 [u]) (OkP X pc σ ρ H (.ok (.str p.shown) S)) E s:=λa ea=>by
      subst ea;exact repr_of_reads' rr z1 (λ_=>ab) hg QJ (λ_ _ q=>q) (λh' u tk hk=>Xi1 I.sr (I.inv.kept hk)) aa
     cases rr with
     |none=>exact PySem.P.repr_of_none Q03|bool b=>exact PySem.P.repr_of_bool (by cases b<;>exact Xi1 I.sr Qr)|int i t=>exact PySem.P.repr_of_int (by simpa only[Va8,decide_eq_true_eq] using z1) Q03|str x t=>exact PySem.P.repr_of_str Q03 aa|_=>exact ref _ rfl
    cases e
theorem Yc4:BlR X .itB QD5:=by
 intro pc s σ H ρ S env ds vs us E I rd rv L;match ds,rd,L with
 |[],_,L=>cases L rfl|d::_::_,_,L=>cases d<;>cases L rfl|[d],rd,L=>
  obtain⟨v,rfl,r1⟩:=rd.one;obtain⟨u,rfl,ru⟩:=rv.one;cases d with
  |bl b=>simp only[RD]at r1;subst r1;cases ru;simp only[Xm];refine call_int_bool ?_;cases b<;>exact Xad I.sr Qr|_=>cases L rfl
theorem Xp2{prog:Ue}{w:Uy}{A:U7}{E:VP}{s:Vc}{l:Addr}{vs:LV}{Q:LV->Vc->Prop}(hl:Vc8 s.heap l vs.toArray)(hsz:QW0<=V3)
  (h:Q vs Qi):Vh Q7 A Qt3 Q E s:=by
 obtain⟨o,ho,hc,n,hd⟩:=id hl;unfold collect;refine Va (wpAny_runValue (Vd3 entry_proto_collect' ?_));show Vh _ _ (do again (.builtin "list.__iadd__" ⟨[<-newList [],.ref l],[]⟩)) _ _ s;refine Va (Vhl (Vf ⟨Code.quiet_builtin _ QU,Vd3 entry_list_iadd' ?_⟩));show Vh _ _ (Vbe Qc Qz3 Qc) _ _ {s with heap:=s.heap.push Q3};unfold Vbe;have L:Q2.get? l=yz o:=Vm _ ho;refine Va Qg2;have ht:(Vcr "tuple" == Vcr "tuple")=true:=by rfl
 rw[iP0 (by rw[ht];simp)];refine Va (Ves L hd (Va (Ves (xs:=#[]) (n:=0) Qo2 rfl ?_)));rw[iN0 Qb];refine Va (Vec (xs:=#[]) (n:=0) Qo2 rfl Qm QR2 (by show(#[]++vs.toArray).size<=V3+1;simp only[Array.size_append,Vo,Vcd];omega));show Vh Q7 A (load s.heap.objs.size >>= _) Q E Qi;refine Va (wpAny_load (Ve8 Qo2 _) ?_);show Vh _ _ (pure QW4.toList) Q E _;rw[show QW4.toList=vs by simp];exact Vf h
theorem Xn5:∀ {bs:List Bool} {us:LV},Vals (bs.map V.bl) us->us=bs.map Vfz
 |[],_,.nil=>rfl|b::bs,_,.cons r t=>by cases r;rw[Xn5 t];rfl
theorem Xq2{K:Ve}{ρ:LR}{H:Hp}:∀ {bs:List Bool} {L:LW},RDs K ρ H (bs.map D.bl) L->L=bs.map V.bl
 |[],L,h=>by simp only[Ur,RDs]at h;exact h|b::bs,L,h=>by simp only[Ur,RDs]at h;obtain⟨v,r,rfl,h1,h2⟩:=h;simp only[RD]at h1;subst h1;rw[Xq2 h2];rfl
theorem Xvc(I:S0 X pc σ H s ρ S env){n:Nat}{xs:LD}{bs:List Bool}{v:V}(h:Xc S n=yz xs)(hb:Yb xs=yz bs)(r:RD X.K ρ H Qb0 v):∃a k,v=.ref a/\s.heap.get? a=yz {cls:=.type "list",data:=.seq QK3.toArray k}:=by obtain⟨a,L,rfl,ha,hv,hr⟩:=I.lstR h r;obtain⟨_,its,k,rv,e⟩:=(show ObjOk X.prog X.w H s.heap a (.lst L) from I.inv.hok a _ hv);have e1:=Xbh hb;subst e1;have e2:=Xq2 hr;subst e2;rw[Xn5 rv]at e;exact⟨a,k,rfl,e⟩
theorem X8i(hk:k=.count)(L:Yx k d ds S≠.bad):∃n b,d=.ref n/\ds=[.bl b]:=by
 subst hk
 ·(
  cases d with
  |ref n=>
   cases ds with
   |nil=>cases L rfl|cons x r=>
    cases r with
    |nil=>
     cases x with
     |bl b=>exact⟨n,b,rfl,rfl⟩|_=>cases L rfl
    |cons _ _=>cases L rfl
  |_=>exact aB0 rfl L)
theorem X3f:MtD X .count "list.count":=by
 intro pc s σ H ρ S env d v u ds vs us E I rd rv ab aa L;obtain⟨n,b,rfl,rfl⟩:=X8i rfl L;obtain⟨y,rfl,r1⟩:=ab.one;simp only[RD]at r1;subst r1;obtain⟨w,rfl,ac⟩:=aa.one;cases ac;simp only[Yx]at L ⊢;cases e:Xc S n with
 |none=>rw[e]at L;cases L rfl|some xs=>
  rw[e]at L;simp only[V1]at L ⊢;cases e2:Yb xs with
  |none=>rw[e2]at L;cases L rfl|some bs=>
   dsimp only;obtain⟨a,k,rfl,ha⟩:=Xvc I e e2 rd;cases rv;refine Vei PySem.F.slot_list_count Qu2 PySem.F.entry_list_count (PySem.F.args_list_count_2 _ _) (SeqAt.list_countAt a _ k yy #[] Qi6 λy=>match y with|.bool c=>c==b|_=>yw) ⟨ha,λy hy=>?_,?_⟩
   ·have ae:y∈bs.map Vfz:=by simpa using hy
    obtain⟨c,_,rfl⟩:=Uc.mp ae;exact SeqAt.EqAt.bool_bool c b
   have ec:QK3.countP Q61=bs.countP Q37:=by rw[List.countP_map];rfl
   simp only[List.toList_toArray]at *;rw[ec];exact Xad I.sr Qr
theorem X8j(L:Yx .index d ds S≠.bad):∃n x,d=.ref n/\ds=[x]/\((∃b,x=.bl b)\/∃i,x=.int i):=by
 cases d with
 |ref n=>
  cases ds with
  |nil=>cases L rfl|cons x r=>
   cases r with
   |nil=>
    cases x with
    |bl b=>exact⟨n,_,rfl,rfl,.inl ⟨b,rfl⟩⟩|int i=>exact⟨n,_,rfl,rfl,.inr ⟨i,rfl⟩⟩|_=>cases L rfl
   |cons _ _=>cases L rfl
 |_=>cases L rfl
theorem Xma:∀ {us:LV} {ns:LI} {i:Nat} {v:Vb},Vbi us ns->us[i]?=yz v->∃c t,ns[i]?=yz c/\v=.int c t
 |_,_,i,v,.nil,h=>by simp at h|_,_,0,v,.cons n t r,h=>by cases h;exact⟨n,t,rfl,rfl⟩|_,_,i+1,v,.cons n t r,h=>by obtain⟨c,L,h1,h2⟩:=Xma (i:=i) r QO4;exact⟨c,L,by simpa using h1,h2⟩
theorem X3g:MtD X .index "list.index":=by
 intro pc s σ H ρ S env d v u ds vs us E I rd rv aj ak L;obtain⟨n,x,rfl,rfl,hx⟩:=X8j L;rcases hx with⟨b,rfl⟩|⟨i0,rfl⟩
 ·obtain⟨y,rfl,r1⟩:=aj.one;simp only[RD]at r1;subst r1;obtain⟨w,rfl,ah⟩:=ak.one;cases ah;simp only[Yx]at L ⊢;cases e:Xc S n with
  |none=>rw[e]at L;cases L rfl|some xs=>
   rw[e]at L;simp only[V1]at L ⊢;cases e2:Yb xs with
   |none=>rw[e2]at L;cases L rfl|some bs=>
    rw[e2]at L;dsimp only at L ⊢;cases e3:bs.findIdx? Q37 with
    |none=>rw[e3]at L;cases L rfl|some i=>
     dsimp only;obtain⟨a,k,rfl,ha⟩:=Xvc I e e2 rd;cases rv;obtain⟨hi,h1,h2⟩:=Vhe.mp e3;have ai:(ll bs)<=V3:=by obtain⟨a',ws,_,_,hv,hr⟩:=I.lstR e rd;obtain⟨z,_⟩:=(show ObjOk X.prog X.w H s.heap a' QV2 from I.inv.hok a' _ hv);rw[<-hr.length,Xbh e2,Vg]at z;exact z
     have ae:(i:Int)<2^63-1:=by
      have:V3<2^62:=by decide
      have an:(2:Int)^63-1=9223372036854775807:=by decide
      have am:(2:Nat)^62=4611686018427387904:=by decide
      omega
     refine Vei Vg8 Qu2 Vjf QW6 (SeqAt.list_indexAt a QK3.toArray k yy #[] Qi6 Q61 i (by simpa using hi) ae (by simpa using h1) λm hm ac=>?_) Q02;·have:=h2 m ac;simpa using this
     ·have ao:y∈bs.map Vfz:=by simpa using hy
      obtain⟨c,_,rfl⟩:=Uc.mp ao;exact SeqAt.EqAt.bool_bool c b
 obtain⟨y,rfl,r1⟩:=aj.one;simp only[RD]at r1;subst r1;obtain⟨w,rfl,ah⟩:=ak.one;obtain⟨tk,rfl⟩:=ah;simp only[Yx]at L ⊢;cases e:Xc S n with
 |none=>rw[e]at L;cases L rfl|some xs=>
  rw[e]at L;simp only[V1]at L ⊢;cases e2:Xi xs with
  |none=>rw[e2]at L;cases L rfl|some ns=>
   rw[e2]at L;dsimp only at L ⊢;cases e3:ns.findIdx? (· == i0) with
   |none=>rw[e3]at L;cases L rfl|some i=>
    dsimp only;obtain⟨a,ws,rfl,_,hv,hr⟩:=I.lstR e rd;obtain⟨ai,its,k,al,ha⟩:=(show ObjOk X.prog X.w H s.heap a QV2 from I.inv.hok a _ hv);have q:=Yp e2;subst q;have ew:=hr.ints_of;subst ew;have hI:=Xa5 al;have aa:Qn0=ll ns:=hI.length;rw[Vg]at ai;cases rv;obtain⟨hi,h1,h2⟩:=Vhe.mp e3;have ae:(i:Int)<2^63-1:=by
     have:V3<2^62:=by decide
     have an:(2:Int)^63-1=9223372036854775807:=by decide
     have am:(2:Nat)^62=4611686018427387904:=by decide
     omega
    have af:∀m (hm:m<its.toArray.size),∃c t,ns[m]?=yz c/\its.toArray[m]=.int c t:=λm hm=>by
     have ab:m<ll its:=by simpa using hm
     obtain⟨c,t,z1,z2⟩:=Xma hI (Ug ab);exact⟨c,t,z1,by simpa using z2⟩
    refine Vei Vg8 Qu2 Vjf QW6 (SeqAt.list_indexAt a its.toArray k yy #[] (.int i0 tk) (λy=>match y with|.int c _=>c==i0|_=>yw) i QJ3 ae ?_ λm hm ac=>?_) Q02;·obtain⟨c,t,z1,z2⟩:=af i QJ3;rw[z2];rw[Ug hi]at z1;cases z1;exact h1
    ·obtain⟨c,t,z1,z2⟩:=af m hm;rw[z2];have ab:m<ll ns:=by omega
     rw[Ug ab]at z1;cases z1;have:=h2 m ac;simpa using this
    obtain⟨m,hm,rfl⟩:=Vde.mp (show y∈its by simpa using hy);obtain⟨c,t,z1,z2⟩:=af m (by simpa using hm);have z3:its[m]=.int c t:=by simpa using z2
    rw[z3];exact SeqAt.EqAt.int_int c t i0 tk
theorem X8k(h:Q (decide (x<y)) s):Vh Q7 A (oneLt' b QG6 (.int y u)) Q E s:=by
 cases b with
 |true=>exact PySem.W.kat_lt_int h|false=>exact PySem.W.kat_one _ _ (lt_int (show PySem.W.BoolBack Q _ s from h))
theorem X8l(ha:Vbi us xs):∀(ys:LI) (vs:LV) (i:Nat),Vbi vs ys->Q (ltL xs ys) s->PySem.W.KatLex prog w A yx (decide Q25) Q (us.zip vs) i s:=by
 induction ha with
 |nil=>intro ys vs i hb h;cases hb<;>exact h|@cons x t us xs ha ih=>
  intro ys vs i hb h;cases hb with
  |nil=>exact h|@cons y u vs ys hb=>
   have hl:decide (ll us+1<ll vs+1)=decide Q25:=decide_eq_decide.mpr Nat.add_lt_add_iff_right;simp only[Ux,Vgp,hl];simp only[ltL]at h;refine PySem.W.kat_cons (Vho (PySem.W.kat_go (λe=>?_) λe=>?_));·rw[iP0 (eq_of_beq e)]at h;exact PySem.W.kat_yes (ih ys vs Qd5 hb h)
   ·rw[iN0 (λz=>by rw[z,beq_self_eq_true]at e;cases e)]at h;exact PySem.W.kat_no (X8k h)
universe e
def Row(h:Heap)(k:LI)(u:Vb):Prop:=∃a us,u=.ref a/\Vc8 h a us.toArray/\Vbi us k
theorem Row.keep(r:Row h k u)(kp:∀b o,h.get? b=yz o->h'.get? b=yz o):Row h' k u:=by obtain⟨a,us,e,⟨o,L,hc⟩,hi⟩:=r;exact⟨a,us,e,⟨o,kp _ _ L,hc⟩,hi⟩
theorem Xby:∀ {xs:LD} {ks:LL},Y7 xs=yz ks->xs=ks.map λk=>.tup Qd1
 |[],ks,h=>by cases h;rfl|x::xs,ks,h=>by
  cases x with
  |tup ds=>
   simp only[Y7]at h;cases e:Xi ds with
   |none=>rw[e]at h;cases h|some k=>
    rw[e]at h;dsimp only at h;cases L:Y7 xs with
    |none=>rw[L]at h;cases h|some r=>rw[L]at h;cases h;rw[Yp e,Xby L];rfl
  |_=>cases h
inductive RowsV(h:Heap):LL->LV->Prop
 |nil:RowsV h [] []
 |cons {k:LI} {u:Vb} {ks:LL} {vs:LV}:Row h k u->RowsV h ks vs->RowsV h (k::ks) (u::vs)
theorem Xyp{h:Heap}{ks:LL}{its:LV}(r:RowsV h ks its):ks.all Q54=yx->∃fs,PySem.W.KatTups h its fs/\(ll fs)=ll its/\∀v∈fs,∃n t,v=Value.int n t:=by
 induction r with
 |nil=>exact λ_=>⟨[],.nil,rfl,λv hv=>by cases hv⟩|cons hr _ ih=>
  intro L;rw[Vb4,bA0]at L;obtain⟨a,us,rfl,⟨o,ho,hc,n,hd⟩,hi⟩:=hr;obtain⟨fs,f1,f2,f3⟩:=ih L.2;cases hi with
  |nil=>simp at L|cons x t aa=>
   refine⟨.int x t::fs,.cons ho hc hd rfl f1,by simp[f2],λv hv=>?_⟩;rcases V0.mp hv with rfl|hv;·exact⟨x,t,rfl⟩
   ·exact f3 v hv
inductive FsV:LL->List (OV)->Prop
 |nil:FsV [] []
 |non {ks:LL} {fs:List (OV)}:FsV ks fs->FsV ([]::ks) (yy::fs)
 |som {x:Int} {t:Tok} {k:LI} {ks:LL} {fs:List (OV)}:FsV ks fs->FsV ((x::k)::ks) (yz QG6::fs)
theorem RowsV.of{α:Type}{h:Heap}{f:α->LI}{g:α->Vb}:∀(l:List α),(∀q∈l,Row h (f q) (g q))->RowsV h QM6 (l.map g)
 |[],_=>.nil|q::l,hr=>.cons (hr q Uv) (RowsV.of l λp L=>hr p Qx6)
theorem FsV.all{ks:LL}{fs:List (OV)}(f:FsV ks fs):(fs.all λx=>x.isSome)=ks.all Q54:=by
 induction f with
 |nil=>rfl|non _ ih=>simp|som _ ih=>simp[ih]
section
variable{M:Model}{A:U7}{E:VP}{s:Vc}
theorem Xyq {k:LI} {u:Vb} (r:Row s.heap k u) {Q:VP} (h:Q Qk4 s):Vh M A (typeOf u) Q E s:=by obtain⟨a,us,rfl,⟨o,L,hc,_⟩,_⟩:=r;exact Vci (T:="tuple") QK1 h
theorem Xp3{ks:LL}{vs:LV}(r:RowsV s.heap ks vs):∀ {Q:List (OV)->Vc->Prop},(∀fs,FsV ks fs->Q fs s)->Vh M A (vs.mapM firstOfTuple') Q E s:=by
 induction r with
 |nil=>intro Q h;rw[List.mapM_nil];exact Vf (h _ .nil)|cons hr _ ih=>
  intro Q h;rw[List.mapM_cons];refine Va ?_;obtain⟨a,us,rfl,⟨o,L,hc,n,hd⟩,hi⟩:=hr;rw[PySem.W.kas_first_eq];refine Va Qg2;rw[iN0 QA];refine Va (Ves L hd Qm);cases hi with
  |nil=>exact Va (ih λfs hf=>Vf (h _ (.non hf)))|cons x t aa=>exact Va (ih λfs hf=>Vf (h _ (.som hf)))
theorem Xsy{ks:LL}{vs:LV}(r:RowsV s.heap ks vs)(h2:0<ll ks)(aa:(ks.all λk=>!k.isEmpty)=yw){Q:Vdu->Vc->Prop}(h1:Q general' s)(h3:Q oneType' s):Vh M A (keyKind' vs.toArray) Q E s:=by
 rw[PyProof.Rows.kat_kind_eq,List.mapM_toArray,map_eq_pure_bind];refine Va (Va (Xp3 r λfs hf=>Vf ?_));have L:(fs.toArray.all λx=>x.isSome)=false:=by rw[List.all_toArray,hf.all];exact aa
 rw[L];simp only[Uo,if_false];split;·exact Vf h1
 ·rw[oneTypeOnly'_eq,List.mapM_toArray,map_eq_pure_bind];have ty:∀v∈vs,∀(Q':VP),Q' Qk4 s->Vh M A Q06 Q' E s:=by
   clear h1 h3 hf L aa;induction r with
   |nil=>intro v hv;cases hv|cons hr _ ih=>
    intro v hv Q' hq;rcases V0.mp hv with rfl|hv;·exact Xyq hr hq
    ·rename_i ab ac _ _;cases hk:ab with
     |nil=>subst hk;rename_i r';cases r';cases hv|cons _ _=>exact ih (by rw[hk];simp) v hv Q' hq
  refine Va (Va (Va (PySem.W.kas_mapM (r:=Vcr "tuple") _ ty Qm)));split
  ·split;·exact Vf (Vf h3)
   ·exact Vf QE7
  exact Vf QE7
universe e
theorem Xkk:∀a:LI,ltL a a=yw
 |[]=>rfl|x::a=>by simp[ltL,Xkk a]
theorem Xn6:∀a b c:LI,ltL a b=yx->ltL b c=yx->ltL a c=yx
 |[],[],_=>λh _=>by cases h|[],_::_,[]=>λ_ h=>by cases h|[],_::_,_::_=>λ_ _=>rfl|_::_,[],_=>λh _=>by cases h|_::_,_::_,[]=>λ_ h=>by cases h|x::a,y::b,z::c=>λh1 h2=>by
  simp only[ltL]at h1 h2 ⊢;split at h1
  ·rename_i e;subst e;split at h2;·rename_i e;subst e;rw[iP0 rfl];exact Xn6 a b c h1 h2
   ·rename_i e;rw[iN0 e];exact h2
  rename_i e;split at h2;·rename_i L;subst L;rw[iN0 e];exact h1
  ·rw[decide_eq_true_eq]at h1 h2;rw[iN0 QJ];exact decide_eq_true QJ
theorem Xkl:∀a b:LI,a≠b->ltL a b=yw->ltL b a=yx
 |[],[]=>λh _=>aB0 rfl h|[],_::_=>λ_ h=>by cases h|_::_,[]=>λ_ _=>rfl|x::a,y::b=>λh h1=>by
  simp only[ltL]at h1 ⊢;split at h1;·rename_i e;subst e;rw[iP0 rfl];exact Xkl a b (λz=>h (by rw[z])) h1
  ·rename_i e;rw[decide_eq_false_iff_not]at h1;rw[iN0 (Ne.symm e)];exact decide_eq_true QJ
theorem Xi7{a b:LI}(h:ltL a b=yx):ltL b a=false:=by
 cases e:ltL b a with
 |false=>rfl|true=>have:=Xn6 _ _ _ h e;rw[Xkk]at this;cases this
theorem Xq3{a b c:LI}(h1:ltL b a=yw)(h2:ltL c b=yw):ltL c a=false:=by
 cases e:ltL c a with
 |false=>rfl|true=>
  by_cases q:c=b;·subst q;rw[e]at h1;cases h1
  ·rw[Xn6 _ _ _ (Xkl _ _ q h2) e]at h1;cases h1
abbrev leL(a b:LI):Prop:=ltL b a=yw
def WkL(l:LL):Prop:=l.Pairwise leL
theorem Xvd{α:Type}(f:α->LI):∀ {l:List α},ll l<2->WkL QM6
 |[],_=>.nil|[_],_=>Vdo _ _
theorem Xq4:∀ {l m:LL},l.Perm m->WkL l->WkL m->l=m
 |[],m,p,_,_=>(List.Perm.nil_eq p)|a::l,[],p,_,_=>aB0 p.length_eq Qb|a::l,b::m,p,h1,h2=>by
  unfold WkL at h1 h2;rw[Ve9]at h1 h2;have e:a=b:=by
   rcases V0.mp (p.mem_iff.mp Uv) with e|ha;·exact e
   ·rcases V0.mp (p.mem_iff.mpr Uv) with e|hb;·exact e.symm
    ·have L:ltL b a=false:=h1.1 b hb;have x2:ltL a b=false:=h2.1 a ha;exact Classical.byContradiction λq=>by rw[Xkl _ _ q x2]at L;cases L
  subst e;rw[Xq4 ((List.perm_cons a).mp p) h1.2 h2.2]
theorem Xfm(k:LI):∀l,QV6.Perm (k::l)
 |[]=>Vik _|y::r=>by
  unfold Xkd;split;·exact Vik _
  ·exact((Xfm k r).cons y).trans (List.Perm.swap _ _ _)
theorem Xbo:∀l,QL7.Perm l
 |[]=>Vik _|k::r=>(Xfm k _).trans ((Xbo r).cons k)
theorem Xq5(k:LI):∀l,WkL l->WkL QV6
 |[]=>λ_=>Vdo _ _|y::r=>λh=>by
  unfold WkL at h;rw[Ve9]at h;unfold Xkd;split
  ·rename_i c;refine Ve9.mpr ⟨λz hz=>?_,Ve9.mpr h⟩;rcases V0.mp hz with rfl|hz;·exact Xi7 c
   ·exact Xq3 (Xi7 c) (h.1 z hz)
  rename_i c;refine Ve9.mpr ⟨λz hz=>?_,Xq5 k r h.2⟩;rcases V0.mp ((Xfm k r).mem_iff.mp hz) with rfl|hz;·exact Bool.eq_false_iff.mpr c
  ·exact h.1 z hz
theorem Xkm:∀l,WkL QL7
 |[]=>Vi3|k::r=>Xq5 k _ (Xkm r)
theorem Xi8{l m:LL}(p:l.Perm m)(h:WkL l):l=Y6 m:=Xq4 (p.trans (Xbo m).symm) h (Xkm m)
theorem Xve{us:LV}{k:LI}(h:Vbi us k):∀ {k'},Vbi us k'->k=k':=by
 induction h with
 |nil=>intro k' h;cases h;rfl|cons x t _ ih=>intro k' h;cases h with|cons _ _ h=>rw[ih h]
theorem Row.same{h:Heap}{k k':LI}{u:Vb}(r:Row h k u)(r':Row h k' u):k=k':=by obtain⟨a,us,rfl,⟨o,ho,_,n,hd⟩,hi⟩:=r;obtain⟨a',ac,e,⟨o',L,_,n',aa⟩,ab⟩:=r';cases e;rw[ho]at L;cases L;rw[hd]at aa;cases aa;exact Xve hi ab
open Classical in
noncomputable def rk(h:Heap)(u:Vb):LI:=if q:∃k,Row h k u then choose q else []
theorem Xmz{h:Heap}{k:LI}{u:Vb}(r:Row h k u):rk h u=k:=by have q:∃k,Row h k u:=⟨k,r⟩;unfold rk;rw[dif_pos q];exact(Classical.choose_spec q).same r
section
variable{prog:Ue}{w:Uy}{A:U7}{E:VP}{s:Vc}
theorem Xyr(h:Heap):Ord λx y=>ltL (rk h x.1) (rk h y.1):=⟨λa b=>Xq3 a b,λa=>Xi7 a⟩
def Kd3(κ:Vdu):Prop:=κ=tuples' yx\/κ=general'\/κ=oneType'
theorem Xvf{κ:Vdu}(hu:A.units<Vbh)(ai:Kd3 κ):Xfb prog w A E s κ (λx y=>ltL (rk s.heap x.1) (rk s.heap y.1)) λx=>∃k,Row s.heap k x.1:=by
 rintro ⟨x,x'⟩ ⟨y,y'⟩ st Q ⟨k,hx⟩ ⟨k',hy⟩ hk hQ;dsimp only at hx hy hQ;rw[Xmz hx,Xmz hy]at hQ;rw[lt'_eq];refine Vt (wpS_get (Vt ?_));rw[hk];obtain⟨a1,aj,rfl,⟨o1,L,ae,n1,ab⟩,hi1⟩:=hx;obtain⟨a2,ah,rfl,⟨o2,ac,af,n2,aa⟩,hi2⟩:=hy;refine wpS_lift (Vga ?_);have fin:(λ(c:Bool) s'=>s'=s/\wpS Q7 A E s (match (Except.ok c:Except Vb Bool) with|.ok b=>pure (yz b)|.error e=>do modify (λs=>Vh1 (Vaq s) (Vs s) (Uu s) (gallopOf s) QK7);pure yy) Q st) (ltL k k') s:=⟨rfl,Vz hQ⟩;rcases ai with rfl|rfl|rfl;·refine PySem.W.kat_lt L ab ac aa ?_;simp only[Vo];exact X8l hi1 k' ah 0 hi2 fin
 ·exact Xnr (b:=yw) hu Qa1 QV1 hi1 hi2 fin
 exact Xnr (b:=yx) hu Qa1 QV1 hi1 hi2 fin
noncomputable abbrev Kvs:=List (LI×Vb×Vb)
theorem Xkn(qs:Kvs):QR.toList=qs.map QK:=by
 rw[Array.toList_zip];induction qs with
 |nil=>rfl|cons q qs ih=>show _::_=_::_;congr 1
theorem Xn7{β:Type}{qs:Kvs}{f:V8->Sem β}{Q:β->Vc->Prop}(hu:A.units<Vbh)(hq:∀q∈qs,Row s.heap q.1 q.2.1)(h0:0<ll qs)
  (h:∀st (L:Kvs),L.Perm qs->WkL Qr1->Qi3.map QK=QT2.toArray->Vct st=yy->Vh Q7 A (f st) Q E s):
  Vh Q7 A (keyKind' Q62.toArray >>= fun κ=>QJ1 >>= λx=>f x.2) Q E s:=by
 have run:∀ κ,Kd3 κ->Vh Q7 A (QJ1 >>= λx=>f x.2) Q E s:=fun κ ab=>by
  have mm:∀x∈QR.toList,∃q∈qs,x=q.2:=λx hx=>by rw[Xkn]at hx;obtain⟨q,h1,h2⟩:=Uc.mp hx;exact⟨q,h1,h2.symm⟩
  have ez:=Xkn qs;generalize (qs.map λq:LI×Vb×Vb=>q.2.1).toArray.zip (qs.map λq=>q.2.2).toArray=a0 at ez mm ⊢;have sr:=X7f (prog:=prog) (w:=w) (A:=A) (E:=E) (s:=s) (κ:=κ) (Xyr s.heap) (Xvf hu ab) (a₀:=a0) (λx hx=>?m) (st:=Vh1 κ a0 #[] 7 yy) rfl rfl rfl rfl
   (Q:=λ_ st=>∃L:Kvs,L.Perm qs/\WkL (L.map λq=>q.1)/\Qi3.map QK=(L.map λq=>q.2.2).toArray/\Vct st=yy) λst hf hs=>?f
  unfold wpS at sr;refine Va (Vp sr (λr s' hr=>?r) λ_ _ e=>e)
  case m=>obtain⟨q,h1,rfl⟩:=mm x hx;exact⟨q.1,hq q h1⟩
  case f=>
   obtain⟨p,pw⟩:=hs;rw[ez]at p;obtain⟨L,r1,r2⟩:=Xl2 p qs rfl;refine⟨L,r1,?_,?_,hf⟩;·rw[r2,Vdj]at pw;unfold WkL;rw[Vdj];refine pw.imp_of_mem λ{a b} ha hb z=>?_;have z':ltL (rk s.heap b.2.1) (rk s.heap a.2.1)=false:=z;rw[Xmz (hq a (r1.mem_iff.mp ha)),Xmz (hq b (r1.mem_iff.mp hb))]at z';exact z'
   ·apply Vht.mp;rw[Array.toList_map,r2,Vae];rfl
  case r=>obtain⟨rfl,L,r1,r2,r3,r4⟩:=hr;exact h r.2 L r1 r2 r3 r4
 have aa:∀(M:Model) (h:Heap) (v:Vb),(∃n t,v=Value.int n t)->PySem.W.Looks M h Q06 QD5:=λM h v z=>by obtain⟨n,t,rfl⟩:=z;exact .now
 have rv:=RowsV.of (f:=λq:LI×Vb×Vb=>q.1) (g:=λq=>q.2.1) qs hq;cases en:((qs.map Qo).all λk=>!k.isEmpty) with
 |true=>obtain⟨fs,f1,f2,f3⟩:=Xyp rv en;exact Va (PySem.W.kat_kind (T:=.type "int") f1 (by rw[f2,Vg];exact h0) (λv hv=>aa _ _ v (f3 v hv)) rfl (run _ QI1))|false=>exact Va (Xsy rv (by rw[Vg];exact h0) en (run _ (.inr QI1)) (run _ (.inr (.inr rfl))))
theorem Row.ne {h:Heap} {a:Addr} {xs:AV} {n:Nat} {k:LI} {u:Vb} {h':Heap} (ho:h.get? a=yz (Uf "list" xs n)) (kp:∀b o,b≠a->h.get? b=yz o->h'.get? b=yz o) (r:Row h k u):Row h' k u:=by obtain⟨b,us,e,⟨o,L,hc⟩,hi⟩:=r;refine⟨b,us,e,⟨o,kp _ _ (λz=>?_) L,hc⟩,hi⟩;rw[z,ho]at L;cases L;exact aB0 (show Vcr "list"=Vcr "tuple" from hc.1) QA
noncomputable def Xys(x e:Nat):Sem PySem.Fin:=if x != e then do
  rule "list.sort.modified"
  (raiseError "ValueError" "list modified during sort" : Sem PUnit)
  ret .none
 else ret .none
noncomputable def Xyt(a:Addr)(e:Nat)(st:V8):Sem PySem.Fin:=do
 let x <- seqEpoch a
 Builtin.List.listUpdate Q11 λ_=>Qi3.map QK
 match Vct st with
 |some v=>do
  rule "list.sort.comparison-raised"
  (throw v:Sem PUnit)
  Xys x e|_=>Xys x e
theorem X8m {a:Addr} {qs:List QG1} {n:Nat} {P:PySem.Fin->Vc->Prop} (hu:A.units<Vbh) (ho:s.heap.get? a=yz (Uf "list" Q5.toArray n)) (hl:QP2<100000) (hq:∀q∈qs,Row s.heap q.1 q.2)
  (h:∀L:List QG1,L.Perm qs->WkL Qr1->P Qv5 {s with heap:=sortedHeap s.heap a Q5 QG4.toArray}):Vh Q7 A (Vbt.«list.sort» ⟨[.ref a],[]⟩) P E s:=by
 have sl:=Vcz;have aa:(qs.map QK).toArray.size<=V3:=by rw[Vo,Vg];omega
 obtain⟨e1,o1⟩:∃e1,(s.heap.update a (V5 λ_=>(#[]:AV))).get? a=yz (Uf "list" #[] e1):=⟨_,Ve8 ho λ_=>#[]⟩;have up:∀b o,(s.heap.update a QB).get? b=yz o->QT5.get? b=yz o:=λb o q=>Vm _ Qr6;have kp:∀b o,b≠a->s.heap.get? b=yz o->QT5.get? b=yz o:=λb o hb q=>up b o (QU4.trans q);have o2:=up a _ o1;rw[list_sort_plain];refine Va (Ves ho rfl (Va (Vec ho rfl (Va (seqEpoch_at o1 rfl (Va (wpAny_newTuple Q33 aa)))) aa QR2)));change Vh Q7 A _ P E Qs0;have fin:∀(st:V8) (L:List QG1),L.Perm qs->WkL Qr1->Qi3.map QK=QG4.toArray->Vct st=yy->Vh Q7 A (Xyt a e1 st) P E Qs0:=λst L r1 r2 r3 r4=>by unfold Xyt;refine Va (seqEpoch_at o2 rfl (Va (Vec o2 rfl ?_ QR2 (by rw[r3,Vo,Vg,r1.length_eq];omega))));rw[r3,r4];dsimp only;unfold Xys;rw[bne_self_eq_false];exact Vf Qe5
 have zz:(qs.map QK).toArray.size=ll qs:=by rw[Vo,Vg]
 by_cases q:QP2<2
 ·have q':(qs.map QK).toArray.size<2:=by rw[zz];exact q
  dsimp only;rw[iP0 q',iP0 q'];refine Va Qm;rw[StateT.run_pure];refine Va (Vf (fin _ qs Qb6 ?_ ?_ rfl));·exact Xvd _ q
  ·show((qs.map QK).toArray.zip Q5.toArray).map QK=_;apply Vht.mp;rw[Array.toList_map,Array.toList_zip,List.map_snd_zip Q90]
 ·have q':¬ (qs.map QK).toArray.size<2:=by rw[zz];exact q
  dsimp only;rw[iN0 q',iN0 q'];have e2:QO2.map (λq:LI×Vb×Vb=>q.2.1)=qs.map QK:=by rw[Vae];rfl
  have e3:QO2.map (λq:LI×Vb×Vb=>q.2.2)=qs.map QK:=by rw[Vae];rfl
  have:=Xn7 (prog:=prog) (w:=w) (A:=A) (E:=E) (s:=Qs0) (qs:=qs.map λq=>(q.1,q.2,q.2)) (Q:=P) (f:=Xyt a e1) hu (λp hp=>by
    obtain⟨q,ab,rfl⟩:=Uc.mp hp;exact QO6.ne ho kp) (by rw[Vg];omega) λst L r1 r2 r3 r4=>by
    obtain⟨ts,t1,rfl⟩:=Xl2 r1 _ rfl;rw[Vae]at r2 r3;exact fin st ts t1 r2 r3 r4
  rw[e2,e3]at this;exact this
theorem Xp4{l:Addr}{vs:LV}{Q:LV->Vc->Prop}(hl:s.heap.IsList l vs.toArray\/Vc8 s.heap l vs.toArray)(L:QW0<=V3)
  (h:Q vs Qi):Vh Q7 A Qt3 Q E s:=by
 rcases hl with hl|hl;·exact collect_list hl h L
 ·exact Xp2 hl L h
theorem Xvg{l:Addr}{qs:List QG1}{Q:VP}(hu:A.units+9<Vbh)(hl:s.heap.IsList l Q5.toArray\/Vc8 s.heap l Q5.toArray)(h5:QP2<100000)(hq:∀q∈qs,Row s.heap q.1 q.2)
  (h:∀rs:List QG1,rs.Perm qs->WkL (rs.map Qo)->Q (.ref QD) {s with heap:=sortedAll s.heap Q5 Qd3.toArray}):Vh Q7 A Qf3 Q E s:=by
 have sl:=Vcz;have L:Q5.length<=V3:=by rw[Vg];omega
 have sz:(Q2.update s.heap.objs.size (V5 (·++Q5.toArray))).objs.size=s.heap.objs.size+1:=by rw[Heap.size_update,size_push']
 have oL:QC5.get? QD=yz QH0:=sz▸Vw _ rfl;have aa:∀b o,s.heap.get? b=yz o->QC5.get? b=yz o:=λb o q=>Vm _ ((Vdq _ _ _ _ (Uq QM7)).trans Qr6);refine Calls.call_function_entry kind_sorted plain_sorted entry_sorted (args_sorted1 _) ?_;unfold Vbt.«sorted»;refine Va (m:=checkCount "sorted" 1 1 _) (Vf (Va (Xp4 hl L (Va (Vhl ?_ L)))));change Vh _ _ _ _ _ {s with heap:=Qh.push QH0};rw[sz];refine Va (Vak (Va0 slot_list_sort QI5 entry_list_sort (X8m (by simp only[Around.in1_units];omega) oL h5 (λq ab=>QO6.keep aa) λrs r1 r2=>QH5) (args_list_sort _)));exact Vf ⟨_,rfl,h rs r1 r2⟩
universe e
noncomputable abbrev Xa6(k:LI):D:=.tup Qd1
section
variable{X:Cx}{pc:LA}{σ:L2.St}{H:Hp}{s:Vc}{ρ:LR}{S:Sto}{env:En}
def X8n(X:Cx)(ρ:LR)(H:Hp)(k:LI)(u:Vb):Prop:=∃v,RD X.K ρ H Qi4 v/\RelV v u
theorem X8o{k:LI}{v:V}{u:Vb}(I:Inv X pc σ H s)(hd:RD X.K ρ H Qi4 v)(ru:RelV v u):Row s.heap k u:=by simp only[RD]at hd;obtain⟨b,zs,rfl,hs,hz⟩:=hd;have L:=hz.ints_of;subst L;cases ru;obtain⟨us,h1,h2,_⟩:=I.tuple hs;exact⟨b,us,rfl,h2,Xa5 h1⟩
theorem Xgs(I:Inv X pc σ H s):∀(ks:LL) (ws:LW) (its:LV),RDs X.K ρ H QH3 ws->Vals ws its->∃qs:List QG1,qs.map Qo=ks/\qs.map QK=its/\∀q∈qs,Row s.heap q.1 q.2/\X8n X ρ H q.1 q.2
 |[],ws,its,hr,rv=>by simp only[Vbq,RDs]at hr;subst hr;cases rv;exact⟨[],rfl,rfl,λq L=>by cases L⟩|k::ks,ws,its,hr,rv=>by
  simp only[Ua,RDs]at hr;obtain⟨v,r,rfl,h1,h2⟩:=hr;cases rv with
  |@cons _ u _ us h3 h4=>
   obtain⟨qs,e1,e2,e3⟩:=Xgs I ks r us h2 h4;refine⟨(k,u)::qs,by rw[Ua,e1],by rw[Ua,e2],λq L=>?_⟩;rcases V0.mp L with rfl|L;·exact⟨X8o I h1 h3,v,h1,h3⟩
   ·exact e3 q L
theorem Xko{f:LI->LI}:∀(L:List QG1),(∀q∈L,X8n X ρ H (f q.1) q.2)->∃zs,RDs X.K ρ H ((L.map λq=>f q.1).map Xa6) zs/\Vals zs QG4
 |[],_=>⟨[],.nil,.nil⟩|q::L,h=>by obtain⟨zs,z1,z2⟩:=Xko L λp hp=>h p (U2 _ hp);obtain⟨v,h1,h2⟩:=h q Uv;exact⟨v::zs,.cons h1 z1,.cons h2 z2⟩
theorem Xn8{E:VP}{l:Addr}{ws:LW}{its:LV}{ks r:LL}(hu:X.A.units+200<Vbh)(I:S0 X pc σ H s ρ S env)(hl:s.heap.IsList l its.toArray\/Vc8 s.heap l its.toArray)(hr:RDs X.K ρ H QH3 ws)(ab:Vals ws its)(e3:Xh1 ks=yz r):
  Vh Q4 X.A Qf3 QL0 E s:=by
 obtain⟨qs,rfl,rfl,hq⟩:=Xgs I.inv ks ws its hr ab;unfold Xh1 at e3;obtain⟨h5,rfl⟩:(ll qs)<100000/\r=Y6 (qs.map (·.1)):=by
  by_cases c:(qs.map λq=>q.1).length<100000;·rw[iP0 c,Vr]at e3;rw[Vg]at c;exact Qz4
  ·rw[iN0 c]at e3;cases e3
 refine Xvg QJ hl h5 (λq h=>(hq q h).1) λrs r1 r2=>?_;have e4:=Xi8 (r1.map Qo) r2;obtain⟨zs,z1,z2⟩:=Xko (f:=id) rs λq h=>(hq q (r1.mem_iff.mp h)).2;rw[show(rs.map λq=>id q.1)=rs.map Qo from rfl,e4]at z1;obtain⟨e8,aa⟩:=sortedAll_at s.heap Q5 Qd3.toArray;have L:s.heap.objs.size<=s.heap.objs.size+1:=Vff _;have J:=I.inv.laid (o:=.lst zs) (t':=s.toks) (h':=sortedAll s.heap Q5 Qd3.toArray) (λb u hb=>sortedAll_old hb) L
  ⟨by rw[z2.length,Vg,r1.length_eq,Vcz];omega,rs.map QK,e8,z2,by simpa [Uf] using aa⟩
 exact Xbc J (I.inv.hok.fresh L) I.sr z1
theorem Yc5(hu:X.A.units+200<Vbh):BlR X .srt QF0:=by
 intro pc s σ H ρ S env ds vs us E I rd rv L;match ds,rd,L with
 |[],_,L=>cases L rfl|d::_::_,_,L=>cases d<;>cases L rfl|[d],rd,L=>
  obtain⟨v,rfl,r1⟩:=rd.one;obtain⟨u,rfl,ru⟩:=rv.one;cases d with
  |ref n=>
   simp only[Xm]at L ⊢;cases e:Xc S n with
   |none=>rw[e]at L;cases L rfl|some xs=>
    rw[e]at L;simp only[V1]at L ⊢;cases e2:Y7 xs with
    |none=>rw[e2]at L;cases L rfl|some ks=>
     rw[e2]at L;dsimp only at L ⊢;cases e3:Xh1 ks with
     |none=>rw[e3]at L;cases L rfl|some r=>dsimp only;have q:=Xby e2;subst q;obtain⟨a,ws,rfl,ha,hv,hr⟩:=I.lstR e r1;obtain⟨ae,its,c,ab,eo⟩:=(show ObjOk X.prog X.w H s.heap a QV2 from I.inv.hok a _ hv);cases ru;exact Xn8 hu I (.inl Qp3) hr ab e3
  |tup xs=>
   simp only[Xm]at L ⊢;cases e2:Y7 xs with
   |none=>rw[e2]at L;cases L rfl|some ks=>
    rw[e2]at L;dsimp only at L ⊢;cases e3:Xh1 ks with
    |none=>rw[e3]at L;cases L rfl|some r=>dsimp only;have q:=Xby e2;subst q;simp only[RD]at r1;obtain⟨b,zs,rfl,aa,ac⟩:=r1;cases ru;obtain⟨us,u1,u2,_⟩:=I.inv.tuple aa;exact Xn8 hu I (.inr u2) ac u1 e3
  |_=>cases L rfl
universe e
def PwL(l:LL):Prop:=l.Pairwise λa b=>ltL a b=yx
theorem PwL.wk{l:LL}(h:PwL l):WkL l:=List.Pairwise.imp (λ{a b} z=>Xi7 z) h
theorem Xn9:∀(n:Nat) (l:LD) (x:D),Ym n (l++[x])=Ym n l++[.tup [.int (n+ll l:Nat),x]]
 |n,[]=>λx=>by simp only[Uw,Ym,Vcd,Vbj]|n,y::l=>λx=>by
  have ih:=Xn9 (n+1) l x;simp only[Vaw,Ym,ih,Ux];have e:n+1+ll l=n+(ll l+1):=by omega
  rw[e]
theorem Xyu(h:a≠b):upd (upd H a o) b u=upd (upd H b u) a o:=by
 funext c;unfold upd;by_cases h1:c=a;·subst h1;simp[h]
 ·by_cases h2:c=b;·subst h2;simp[h1]
  ·simp[h1,h2]
section
variable{X:Cx}{pc:LA}{σ:L2.St}{ρ:LR}{S:Sto}
theorem Xvh(h:Rd H a u)(hp:H p=yy):Rd Qc3 a u:=by
 rcases h with h|⟨ob,h⟩;·exact .inl (Qs4.trans h)
 ·exact .inr ⟨ob,Qs4.trans h⟩
theorem Xkp{k:Bool}{K:Ve}{H:Hp}{a p:Addr}{vs:LW}{o:HO}(h:SqH k K H a vs)(hp:H p=yy):SqH k K Qc3 a vs:=by
 cases k
 ·rcases h with h|h;·exact .inl Q96
  ·exact .inr h
 rcases h with h|h;·exact .inl Q96
 ·exact .inr h
theorem Xoa(h:Xaj X pc H b)(hb:b≠p):Xaj X pc Qc3 b:=⟨(Xd hb).trans h.1,h.2⟩
theorem Xmb{R:Result->Vc->Prop}{k:Bool}{xs:LD}{ws:LW}(hA:A.in1.handled=yy)(an:e≠it)(hz:Q67<=V3):
  ∀(m i:Nat) (s:Vc) (Hb:Hp) (rs:LW),i+m=ll ws->Inv X pc σ QT s->(∀b∈Q15,Xaj X pc QT b)->EnA s.heap e it i->ItK k s.heap it a i->SqH k X.K Hb a ws->Hb L=yy->SR X.K ρ S Hb->RDs X.K ρ Hb xs ws->RDs X.K ρ Hb (Ym 0 Qc5) rs ->
  (∀s' aa ae,Inv X pc σ (upd aa L (.lst ae)) s'->aa L=yy->Stp X.K ρ ρ Hb aa->SR X.K ρ S aa->RDs X.K ρ aa QL3 ae->R (.ok (.ret res)) s') ->
  Vdh Q4 A (.builtin "list.extend.loop" ⟨[.ref L,.ref e,res],[]⟩) R s
 |0=>λi s Hb rs hm J hf en io af hL sr rd rn hR=>by
  have aq:Qe4=ll ws:=rd.length;obtain⟨its,rv,p⟩:=Xkh J Qk5;have hl:=rv.length;refine Vd3 F.entry_extend_loop ?_;rw[Vf3 Vgf _];show Vh _ A.in1 Qr3 _ _ s;refine Va (Xny hA en io p QN1 λh' kp=>?_);have J':Inv X pc σ QT {s with heap:=h',toks:=s.toks}:=Xgr (t':=s.toks) J hf λc o hc z=>by simp only[V0,Vaf,or_false,not_or]at hc;exact kp c o hc.2 z
  have e1:xs.take i=xs:=Vaj QJ;rw[e1]at rn;exact Vf (hR _ Hb rs J' hL .refl sr rn)|m+1=>λi s Hb rs hm J hf en io af hL sr rd rn hR=>by
  have aq:Qe4=ll ws:=rd.length;obtain⟨its,rv,p⟩:=Xkh J Qk5;have hl:=rv.length;obtain⟨v,hv⟩:∃v,ws[i]?=yz v:=⟨ws[i]' QJ,Ug _⟩;obtain⟨x,hx⟩:∃x,xs[i]?=yz x:=⟨xs[i]' QJ,Ug _⟩;obtain⟨u,hu,ru⟩:=rv.get hv;have hT:upd Hb L Qf6 s.heap.objs.size=none:=J.hok.fresh Q90;have ac:L≠s.heap.objs.size:=λz=>by rw[<-z,Xl]at hT;cases hT
  have ai:Hb s.heap.objs.size=none:=by rw[<-Xd (H:=Hb) (o:=.lst rs) (Ne.symm ac)];exact hT
  have ab:∀b∈Q15,b≠L:=λb hb z=>by have:=Qf4.1;rw[z,Xl]at this;cases this
  obtain⟨ax,aj,c,ra,eo⟩:=(show ObjOk X.prog X.w QT s.heap L Qf6 from J.hok L _ Xl);have av:=ra.length;have aw:(ll rs)=i:=by
   have:=rn.length;have q:∀(n:Nat) (l:LD),(Ym n l).length=ll l:=λn l=>by
    induction l generalizing n with
    |nil=>rfl|cons y l ih=>simp only[Ym,Ux,ih]
   rw[q,U9]at this;omega
  refine Vd3 F.entry_extend_loop ?_;rw[Vf3 Vgf _];show Vh _ A.in1 Qr3 _ _ s;refine Va (Xnx an en io p (x:=u) (by simpa using hu) λh' ao au pr kp=>?_);have ak:h'.get? L=yz {cls:=.type "list",data:=.seq aj.toArray c}:=kp L _ (Ne.symm QS6) (Ne.symm Q86) eo;show Vh _ A.in1 (updateSeq L (·.push Qc) >>= _) _ _ _;refine Va ?_;have J1:Inv X pc σ QP QA2:=J.laid (t':=s.toks) (λc o z=>Vm _ z) Q90 ⟨by show 2<=V3;decide,[.int i s.toks,u],.cons Ql (.cons ru .nil),Qq0⟩;have am:∀c∈Q15,c≠s.heap.objs.size:=λc hc=>by
   simp only[V0,Vaf,or_false]at hc;rcases hc with rfl|rfl;·obtain⟨f0,f1,o,q,_⟩:=en;exact Uq QM7
   ·obtain⟨o,z,_⟩:=io.obj;exact Uq QR5
  have ar:∀c∈Q15,Xaj X pc QP c:=λc hc=>Xoa (hf c hc) (am c hc);have J2:Inv X pc σ QP {s with heap:=h',toks:=s.toks+1}:=Xgr (s:=QA2) (h':=h') (t':=s.toks+1) J1 ar λc o hc z=>by
   simp only[V0,Vaf,or_false,not_or]at hc;by_cases q:c=s.heap.objs.size;·subst q;have z':=(Vw s.heap (o:=Qt) rfl).symm.trans z;rw[<-z'];exact pr
   ·exact kp c o hc.1 hc.2 (Xnw z q)
  have al:Mut (upd QT s.heap.objs.size (.tup Ql6) L):=by rw[Xd ac,Xl];exact trivial
  have eS:=Vbb QE0 ak rfl;have ah:∀b o,b≠L->h'.get? b=yz o->(h'.update L QE0).get? b=yz o:=λb o hb q=>(Vc0 _ _ (Ne.symm hb)).trans q;have J3:=J2.write (x:=L) (e:=L) (o:=.lst QF3) (t':=s.toks+1) (h':=h'.update L QE0) al QI1 (λb o hb q=>ah b o hb q) ⟨_,eS⟩
   ⟨by rw[V4];simp only[Ux,Vcd];omega,aj++Q10,_,ra.append (.cons (show L2.RelV Qc Qc from rfl) .nil),by rw[eS];simp[V5];rfl⟩
  have eH:upd QP L QF6=upd Q20 L QF6:=by rw[Xyu ac,X2d]
  rw[eH]at J3;have st:Stp X.K ρ ρ Hb Q20:=Stp.upd ai;have xd:RD X.K ρ Hb x v:=by have:=rd.get hx;obtain⟨v',h1,h2⟩:=this;rw[hv]at h1;cases h1;exact h2
  refine Vh6 ak rfl (Vf ⟨plainId_quiet Vgf _,Xmb hA an hz m Qd5 _ Q20 QF3 QJ J3 QD3 ?_ ?_ (Xkp af ai) ((Xd ac).trans hL) (sr.upd ai) (RDs.mono st _ _ rd) ?_ λs' aa ae q1 q2 q3 q4 q5=>hR s' aa ae q1 q2 (st.trans q3) q4 q5⟩) QN1 QN1;·exact Xoa ⟨(Xd (am b hb)).trans (by have:=Qf4.1;rwa [Xd QT6]at this),Qf4.2⟩ QT6
  ·obtain⟨f0,f1,o,q,q2⟩:=ao;exact⟨f0,f1,o,by push_cast;exact ah _ _ QS6 q,q2⟩
  ·exact au.at λo q=>ah _ _ Q86 q
  have et:xs.take Qd5=xs.take i++[x]:=by rw[Vg3,hx];rfl
  have ap:0+Qc5.length=i:=by rw[U9];omega
  rw[et,Xn9,ap];refine RDs.append (RDs.mono st _ _ rn) ?_;simp only[RDs];refine⟨_,_,rfl,?_,rfl⟩;simp only[RD];refine⟨s.heap.objs.size,Ql6,rfl,.of Xl,?_⟩;simp only[RDs];exact⟨_,_,rfl,rfl,_,_,rfl,xd.mono st,rfl⟩
theorem Xvi:typeLookup Ql3 "__len__"=pure none:=by rw[Vh3,Vfs];kernel_rfl
theorem Xsz:typeLookup Ql3 "__length_hint__"=pure none:=by rw[Vh3,Vfs];kernel_rfl
structure Lnm(X:Cx)(pc:LA)(σ:L2.St)(ρ:LR)(S:Sto)(H:Hp)(s:Vc)(k:Bool)(e it a:Addr)(xs:LD)(ws:LW):Prop where
 inv:Inv X pc σ H s
 fp:∀b∈Q15,Xaj X pc H b
 en:EnA s.heap e it 0
 io:ItK k s.heap it a 0
 sq:SqH k X.K H a ws
 sr:SR X.K ρ S H
 rd:RDs X.K ρ H xs ws
 ln:Q67<=V3
 ne:e≠it
theorem Xvj{R:Result->Vc->Prop}{k:Bool}{xs:LD}{ws:LW}(hA:A.in1.handled=yy)(q:Lnm X pc σ ρ S H s k e it a xs ws)
  (hR:∀s' aa aj,Inv X pc σ (upd aa s.heap.objs.size (.lst aj)) s'->aa s.heap.objs.size=yy->Stp X.K ρ ρ H aa->SR X.K ρ S aa->RDs X.K ρ aa QL3 aj->R Ql4 s'):
  Vh Q4 A.in1 (Vbt.«list.__init__» ⟨[.ref s.heap.objs.size,.ref e],[]⟩)
   (λfin s'=>match fin with | .done f=>R (.ok f) s' | .again c'=>c'.quiet=yx/\Vdh Q4 A c' R s') (λe s'=>R (.error e) s') QB2:=by
 obtain⟨f0,f1,ah,eo,ef⟩:=q.en;have hL:H s.heap.objs.size=none:=q.inv.hok.fresh Q90;have hS:QV0.get? s.heap.objs.size=yz Q9:=Vw _ rfl;generalize ac:s.heap.objs.size=L at hS hL hR;have he:e≠L:=by rw[<-ac];exact Uq (Vy eo)
 have hi:it≠L:=by obtain⟨o,z,_⟩:=q.io.obj;rw[<-ac];exact Uq QR5
 show Vh _ A.in1 (do let ah <- Builtin.List.listItems QH1;Builtin.List.listUpdate QH1 Qz5;letGo ah.toList.reverse;Vbe QH1 QL2 .none) _ _ _;refine Va ?_;unfold Builtin.List.listItems;refine Va (Vim hS rfl Qm);show Vh _ A.in1 (updateSeq L Qz5 >>= λ_=>letGo (#[]:AV).toList.reverse >>= λ_=>Vbe QH1 QL2 .none) _ _ _;refine Va (Vh6 hS rfl ?_);have ai:=Vbb QU1 hS rfl;have af:∀b o,s.heap.get? b=yz o->(QV0.update L QU1).get? b=yz o:=
  λb o z=>(Vc0 _ _ (λh:L=b=>by rw[<-h,<-ac]at z;exact Vcp _ QR5)).trans (Vm _ z)
 refine Va (wpAny_letGo ?_);obtain⟨c2,ae⟩:∃c2,((s.heap.push Q9).update L (V5 (λ_=>Qa))).get? L=yz {cls:=.type "list",data:=.seq #[] c2}:=Qj6;clear ai;generalize QV0.update L QU1=h1 at ae af;have ak:=af _ _ eo;have hT:Shared.TypeIs {s with heap:=h1} QL2 "enumerate" := ⟨_,ak,rfl⟩;unfold Vbe;refine Va Qr5;have b1:Vjg QH1 QL2=false:=by simp[Vjg,Ne.symm he]
 have b2:(Vcr "enumerate" == Vcr "list")=false:=by decide
 have b3:(Vcr "enumerate" == Vcr "tuple")=false:=by decide
 simp only[b1,b2,b3,Vey,Uo,if_false];refine Va (Xh4 ⟨f0,f1,ah,ak,ef⟩ ?_);refine Va Qw6;unfold Builtin.List.listLengthHint;refine Va (Vh7 hT Xvi ?_);show Vh _ A.in1 (specialOf (Vcg e) (Vau "__length_hint__") >>= _) _ _ _;refine Va (Vh7 hT Xsz ?_);refine Vf ?_;show Vh _ A.in1 (rule "list.extend.makes-room" >>= λ_=>Builtin.List.listTouch QH1 >>= λ_=>again (.builtin "list.extend.loop" ⟨[.ref L,.ref e,.none],[]⟩)) _ _ _;refine Va QA5;refine Va ?_;show Vh _ A.in1 (updateSeq L (·.push .none) >>= λ_=>updateSeq L (·.pop)) _ _ _;refine Va (Vh6 ae rfl ?_);have al:=Vbb Qq1 ae rfl;refine Vh6 (hz:=by seq_fits) al rfl ?_;have an:=Vbb QO3 al rfl;have ab:∀b o,s.heap.get? b=yz o->(QA4.update L QO3).get? b=yz o:=λb o z=>by
  have hb:L≠b:=λh=>by rw[<-h,<-ac]at z;exact Vcp _ QR5
  exact QS5.trans (QS5.trans (af b o z))
 have J:=q.inv.laid (o:=.lst []) (t':=s.toks) (h':=QA4.update L QO3) ab (Nat.le_of_eq ac) ⟨Ub _,[],_,.nil,an⟩;have am:=ab _ _ eo;refine Vf ⟨plainId_quiet Vgf _,Xmb hA q.ne q.ln ws.length 0 _ H [] (Va4 _) J (λb hb=>Xoa (q.fp b hb) ?_) ⟨_,_,_,am,ef⟩ (q.io.at λo z=>ab _ _ z) q.sq hL q.sr q.rd ?_ hR⟩
 ·simp only[V0,Vaf,or_false]at hb;rcases hb with rfl|rfl;·exact he
  ·exact hi
 ·simp only[Ven,Ym,RDs]
theorem Xvk{k:Bool}{xs:LD}{ws:LW}{E:VP}(hh:X.A.handled=yy)(q:Lnm X pc σ ρ S H s k e it a xs ws):
  Vh Q4 X.A (call Qx4 [.ref e]) (OkP X pc σ ρ H (.ok Qc0 Qj4)) E s:=by
 refine callType_codes (Q₁:=λobj L=>obj=.ref s.heap.objs.size/\L=QB2) F.called_list (F.typeCall_list_1 _) F.entry_list_init
  (code_list_new _ Qe) λobj L aa=>?_
 obtain⟨rfl,rfl⟩:=aa;have hS:QV0.get? s.heap.objs.size=yz Q9:=Vw _ rfl;refine⟨⟨_,hS,rfl⟩,F.args_list_init_2 _ _,Xvj (show X.A.in1.in1.handled=yy from hh) q λs' Hb rs J hL st sr rd=>?_⟩;exact⟨rfl,(Xbc J hL sr rd).pre st⟩
theorem Xyv(I:Inv X pc σ H s)(h:SqH k X.K H a vs):QW0<=V3:=by
 cases k;·obtain⟨its,L,p,z⟩:=I.tuple h;exact z
 ·obtain⟨its,L,p,z⟩:=I.list h;exact z
theorem X8p (hc:X.calm=yx) (ae:Gl X "list") (af:X.mg "list"=yy) (ab:Gl X "enumerate") (ah:X.mg "enumerate"=yy) (ha:DE X a f) (hs:Ui [a] X.env=Q22::Ui [] X.env):
  DE X (.Call QX4 [.Call QA3 [a] [] pos2] [] pos) (λenv S=>QQ0.bind λx S=>match Xp S x with|some xs=>.ok Qc0 Qj4|none=>.bad):=by
 intro pc s σ H ρ S env I nb;dsimp only at nb ⊢;refine Vbx (Xaw I.inv ae af (u:=.type "list") QU (Vbd (Vel ?_ rfl) rfl rfl) QA rfl);refine Vbx (Xaw I.inv ab ah (u:=.type "enumerate") QU Qp2 QA rfl);cases q:f env S with
 |bad=>rw[q]at nb;cases nb rfl|ex n S1=>exact ha.ex I q λx s' z=>QY0|ok d S1=>
  rw[q]at nb;simp only[Rk0]at nb ⊢;cases e:Xp S1 d with
  |none=>rw[e]at nb;cases nb rfl|some xs=>
   dsimp only;refine ha.ok I q λu s1 v H1 ac I1 rv rd ai=>Vem ?_;obtain⟨b,ws,rfl,hq,hr⟩:=I1.seq e rd;cases rv;obtain⟨k,hk⟩:∃k,SqH k X.K H1 b ws:=by
    rcases hq with hq|hq;·exact⟨yx,hq⟩
    ·exact⟨yw,hq⟩
   obtain⟨its,aj,pk⟩:=Xkh I1.inv hk;refine Xqv pk λh' st kp=>Vem ?_;have J:Inv X pc σ H1 Q34:=I1.inv.kept (t':=s1.toks) kp
   have L:Lnm X pc σ ac S1 H1 Q34 k (s1.heap.objs.size+1) s1.heap.objs.size b xs ws:=⟨J,λc hb=>by
    have aa:s1.heap.objs.size<=c:=by
     simp only[V0,Vaf,or_false]at hb;rcases hb with rfl|rfl;·exact Vff _
     ·exact Vi _
    exact I1.inv.fpOk aa (I1.inv.hok.fresh aa),st.eo,st.io,hk,I1.sr,hr,Xyv I1.inv hk,Nat.succ_ne_self _⟩
   exact Vp (Xvk (E:=λ_ _=>False) QH4 L) (λw s2 z=>z.pre ai) λ_ _ z=>z.elim
theorem Xav:∀l:LI,Xi Q45=yz l
 |[]=>rfl|x::l=>by rw[Ua,Xi,Xav l];rfl
theorem Xob:∀ks:LL,Y7 (ks.map λk=>D.tup Qd1)=yz ks
 |[]=>rfl|k::ks=>by rw[Ua,Y7,Xav,Xob ks];rfl
universe e
universe Z
universe e
section
namespace Z
open PySem PySem.Spec PyProof.Rows L2
open PySem.W (CodeHd kla_obj kla_fn kla_eval kla_makeFunction kla_makeFunctionHit kla_callFunE kla_codeExpr tabObj)
structure LamAt(X:Cx)(nm:Str):Prop where
 qual:X.env.qual ++ "<lambda>"=Xat nm
 dep:X.A.depth+5<Vii
 cod:∃c P,X.env.code=.ref c/\CodeHd X.base c P/\(Xc6 X.K).lookup P=yz QF1
 blt:∃bm ob,X.mg "__builtins__"=yz (.ref bm)/\bm≠Vgy/\X.base.get? bm=yz ob/\ob.cls=.type "module" /\ ob.dict=yz Vgy/\ob.data=.plain
theorem Xvl{pos:Pos}{cv:Vb}{a b:Int}{c:Vb}:∀(l:LV),TriplesOk l->codeAmong pos (l++[Vcy a,Vcy b,c])=yz cv->codeAmong pos l=yz cv\/cv=c:=by
 intro l h e
 fun_induction TriplesOk l with
 |case1=>
  simp only[Uw,Vcy,codeAmong]at e;split at e;·cases e;exact .inr rfl
  ·cases e|case2 a' t b' u x rest ih=>
  simp only[Vaw,codeAmong]at e ⊢;split at e;·rename_i L;cases e;rw[iP0 L];exact .inl rfl
  ·rename_i L;rw[iN0 L];exact ih h e|case3 l h1 h2=>exact h.elim
noncomputable def Xi9(sc:U1):Bool:=sc.names.all λy=>match y.2 with|.free=>yw|_=>yx
theorem Xoc{env:Vbk}(h:Xi9 sc=yx):closureFor sc env=pure []:=by simp only[closureFor];rw[forIn_yield_id [] (λx hx c=>by have:=Vag.mp h x hx;obtain⟨n,k⟩:=x;cases k<;>first|rfl|cases this)];rfl
section
variable{X:Cx}{pc:LA}{σ:L2.St}{H:Hp}{s:Vc}{ρ:LR}{S S':Sto}{env:En}{Q:VP}{E:VP}{nm:Str}
def LamH(X:Cx)(nm:Str)(params:Ve2)(body:Expr)(scope:U1)(H:Hp)(f:Addr):Prop:=
 ∃pm c L u,H f=yz (.frz (kla_obj "<lambda>" QF1 params body scope [] pm c L) (.own u))/\∃o v vs t,H c=yz QH6/\o.data=.fields vs/\vs[1]?=yz QV5
theorem Xyw{params:Ve2}{body:Expr}{scope:U1}{ab:Pos}(hL:LamAt X nm)(ah:Xi9 scope=yx)(ap:defaultsOf params X.env=([],[]))(I:S0 X pc σ H s ρ S env)
  (hQ:∀f s' H',S0 X pc σ H' s' ρ S env->Stp X.K ρ ρ H H'->LamH X nm params body scope H' f->Q Q04 s'):
  Vh Q4 X.A (eval (.Lambda params body scope ab) X.env) Q E s:=by
 obtain⟨c,P,ac,C,hP⟩:=hL.cod;obtain⟨bm,ob,b1,b2,b3,b4,b5,b6⟩:=hL.blt;have hT:=I.sr.tab P _ hP;obtain⟨ps,e0,t0,n0⟩:=(show ObjOk X.prog X.w H s.heap P (.tbl QF1) from I.inv.hok P _ hT);have hg:=I.inv.ok.mod.glob.keeps I.inv.bk;have bP:∀b o,X.base.get? b=yz o->b≠P:=λb o e z=>by have:=(I.inv.bs b o e).2;rw[z,hT]at this;cases this
 have ao:Um≠P:=by obtain⟨o,es,ep,e,_⟩:=I.inv.ok.mod.glob;exact bP _ _ e
 have am:bm≠Um:=λq=>by obtain⟨o,es,ep,e,hd,_⟩:=I.inv.ok.mod.glob;rw[q,e]at b3;cases b3;rw[hd]at b6;cases b6
 have hB:s.heap.BuiltinsAt X.mg P:=⟨bm,ob,b1,b2,am,bP _ _ b3,I.inv.bk _ _ b3,b4,b5,b6⟩;refine kla_eval ap ?_;rw[hL.qual];have ae:∀ {H1:Hp} {h':Heap} {tk:Nat} {L:Addr} {aa:Vb},Inv X pc σ H1 QC0->SR X.K ρ S H1->Stp X.K ρ ρ H H1->(∃o v vs t,H1 L=yz QH6/\o.data=.fields vs/\vs[1]?=yz QV5) ->
   Q (.ref h'.objs.size) {s with heap:=h'.push Qy,toks:=tk}:=λ{H1 h' tk L aa} J sr st hc=>by
  have hn:H1 h'.objs.size=none:=J.hok.fresh Q90;have J2:=J.laid (a:=h'.objs.size) (t':=tk) (o:=.frz Qy (.own 0)) (h':=h'.push _) Q64 Q90 ⟨Vw _ rfl,_,Vw _ rfl⟩;refine hQ _ _ _ ⟨J2,sr.upd hn,I.er.mono Qv2⟩ Qv2 ⟨_,L,aa,0,Xl,?_⟩;obtain⟨o,v,vs,t,e1,r⟩:=hc;exact⟨o,v,vs,t,by rw[Xd (Xj e1 hn)];exact e1,r⟩
 cases q:codeAmong ab ps.toList with
 |some cv=>obtain⟨L,o,u,vs,t,rfl,e2,r⟩:=n0 ab cv q;refine kla_makeFunctionHit (mg:=X.mg) Qq6 I.inv.ok.glob hg ac Qy3 e0 t0 q hB λaa h' tk k aq=>?_;exact ae (I.inv.kept (t':=tk) k) I.sr .refl ⟨o,u,vs,t,e2,r⟩|none=>
  refine kla_makeFunction (mg:=X.mg) Qq6 I.inv.ok.glob hg ac Qy3 e0 t0 q ao hB λL aa h' tk hx af ar al ai=>?_;obtain⟨c2,oc,vs,t,e2,ak,hd,hv⟩:=al;cases e2;have hn:H L=none:=I.inv.hok.fresh af;have cP:P≠L:=λz=>by rw[z]at hT;rw[hn]at hT;cases hT
  have nP:∀b u,H b=yz u->b≠L:=λb u e=>Xj e hn;have hok:HOk X.prog X.w QE2 h':=λb u e=>by
   by_cases hb:b=L;·subst hb;rw[Xl]at e;cases e;exact⟨ak,_,ak⟩
   ·rw[Xd hb]at e;by_cases aj:b=P
    ·subst aj;rw[hT]at e;cases e;refine⟨_,ai,by rw[Vah];exact TriplesOk_snoc _ _ _ _ t0,λpos cv z=>?_⟩;rw[Vah]at z;rcases Xvl _ t0 z with z|z;·obtain⟨c3,o3,u3,an,t3,e3,e4,r⟩:=n0 pos cv z;exact⟨c3,o3,u3,an,t3,e3,by rw[Xd (nP _ _ e4)];exact e4,r⟩
     ·exact⟨L,oc,_,vs,t,z,Xl,hd,hv⟩
    refine(I.inv.hok b u e).stay (λd w hd e3=>hx d w ?_ e3) (λd z=>by rw[Xd Qn1];exact z) λd w _ z=>by rw[Xd Qn1];exact z
    rcases hd with rfl|hd;·exact aj
    ·exact λz=>by rw[z,hT]at hd;cases hd
  have J:Inv X pc σ QE2 QC0:=by
   refine I.inv.un (t':=tk) ⟨λb o e n _ _=>hx b o QC2 e,λb o e n _ _=>⟨o.slots,hx b o QC2 e⟩,λb o e n _=>by rw[Xd (Uq (Uh QN7 af))];exact n,λb o e _=>?_,
    λb xs z=>by rw[Xd Qn1];exact z,λb o u z=>by rw[Xd Qn1];exact z,λb p z=>by rw[Xd Qn1];exact z⟩ hok
   by_cases hb:b=P;·subst hb;exact Qj6
   ·exact⟨o,hx b o hb e⟩
  exact ae J (I.sr.upd hn) (Stp.upd hn) ⟨oc,_,vs,t,Xl,hd,hv⟩
theorem Xyx{params:Ve2}{body:Expr}{scope:U1}{f:Addr}{x:Str}{A:U7}{fb:En->Sto->R D}{u:Vb}{v:V}{d d':D}(ah:A.depth<Vii)(hh:A.handled=yy)(hA:A.frames=yz X.stack)(hS:FnScope [x] [x] scope)
  (al:∀(pm ct:Vb) (c:Addr) (u:Vb),Vf0 (kla_fn "<lambda>" QF1 params body scope [] pm Q14 ct) Qy5=pure QJ6)
  (hb:∀(ae:Vb) (s:Vc) (H:Hp),DE (cxC yx X.prog X.w X.K X.mg X.base [x] QF1 scope f ae A X.stack s H Q12) body fb) (hL:LamH X nm params body scope H f)
  (I:S0 X pc σ H s ρ S env) (rv:RelV v u) (rd:RD X.K ρ H d v) (hF:fb [yz d] S=.ok d' S'):
  Vh Q4 A Qg3 (OkP X pc σ ρ H (.ok d' S')) Q70 s:=by
 obtain⟨pm,c,ao,y,hf,o,w,vs,t,hc,hd,hv⟩:=hL;obtain⟨ef,_⟩:=(show ObjOk X.prog X.w H s.heap f QI6 from I.inv.hok f _ hf);obtain⟨ec,_⟩:=(show ObjOk X.prog X.w H s.heap c QI6 from I.inv.hok c _ hc);have e0:Env0 X.prog X.w X.K X.mg X.base A X.stack s H:=let e:=I.inv.env0;⟨hA,e.mod,e.bs,e.bsz,e.funs,e.frf,e.hok,e.bare⟩
 have ab:=I.inv.nolimit;have aa:∀y∈QJ6,scope.names.lookup y.1=yz .local\/(scope.names.lookup y.1=yz .cell/\((Vbw QD scope.names []).lookup y.1).isSome=yx):=λy hy=>by
  rw[V6.mp hy];rcases hS.par x Qg6 with q|q;·exact .inl q
  ·exact .inr ⟨q,Vfe _ _ _ (.inl q)⟩
 refine wpAny_call (Vgm (R:=CR (CXd X.prog X.w) X.stack X.prog X.w H s (λv H'=>∃ ρ',RD X.K ρ' H' d' v/\SR X.K ρ' S' H'/\Stp X.K ρ ρ' H H') Q12) (kla_callFunE ah ef rfl hS.co hS.gen rfl ⟨c,o,vs,t,rfl,ec,hd,hv⟩ ?_) λr s' hq=>?_)
 ·rw[al];refine Vf (Viz hS.kind aa λan he s1 z=>?_);subst he;refine⟨ab.keeps z.toInCall.keep,kla_codeExpr ?_⟩;have ai:Vals [v] [u]:=.cons rv .nil;have I1:Inv (cxC yx X.prog X.w X.K X.mg X.base [x] QF1 scope f Q14 A X.stack s H Q12) [] (start [x] [v]) H s1:=by
   have L:=Xlx (CX:=CXd X.prog X.w) (E:=λ_ _ _=>False) (f:=f) (cd:=.ref c) (qual:=Xat nm) hS hh e0 rfl ai z;exact⟨⟨L.ok.mod,L.ok.kind,L.ok.glob,L.ok.blt,L.ok.above,L.ok.inj,L.ok.has,L.ok.cab,(λ_=>hh),L.ok.frames,L.ok.stk,L.ok.exf,L.ok.bs,L.ok.bsz,L.ok.noex,L.ok.exfs,L.ok.funs,L.ok.frf⟩,L.os,L.bare,L.base,L.loc,L.cell,L.free,L.freeC,L.pin,L.hok,L.len⟩
  refine(hb Q14 s H).ok (env:=[yz d]) ⟨I1,I.sr,rfl,λi d1 e=>?_⟩ hF λu2 s2 v2 H2 aj J ac ak am=>⟨v2,H2,J.inv.os,J.inv.bare,J.inv.base,J.inv.hok,ac,aj,ak,J.sr,am⟩;cases i with
  |zero=>cases e;exact⟨v,rfl,rd⟩|succ i=>simp at e
 ·cases r with
  |error e=>obtain⟨_,_,_,_,_,_,z⟩:=hq;exact z.elim|ok fl=>
   cases fl with
   |ret u1=>obtain⟨v1,H1,J,r1,af,q1,q2,q3⟩:=I.inv.after hq;exact⟨d',S',rfl,v1,H1,af,J,r1,q1,q2,q3⟩|next=>exact Ve6 hq|brk=>exact Ve6 hq|cont=>exact Ve6 hq
universe e
universe Z
universe e
section
namespace Z
open PySem PySem.Spec PyProof.Rows L2
section
variable{X:Cx}{pc:LA}{σ:L2.St}{H:Hp}{s:Vc}{ρ:LR}{S:Sto}{env:En}{E:VP}{nm:Str}
theorem Inv.own1{Da:Addr}{o:Obj}{u:HO}{h':Heap}{t':Nat}(I:Inv X (pc++[(Da,o)]) σ H s)(aa:X.s₀.heap.objs.size<=Da)(ab:∀p∈X.pn++pc,p.1≠Da)(k:∀b u,b≠Da->s.heap.get? b=yz u->h'.get? b=yz u)(ht:∃u,h'.get? Da=yz u)
  (new:ObjOk X.prog X.w QM5 h' Da u):Inv X pc σ QM5 {s with heap:=h',toks:=t' }:=by
 obtain⟨e,hn,hL,_,hd⟩:=I.pin (Da,o) Qb;have ne:∀b w,H b=yz w->b≠Da:=λb w e=>Xj e hn;refine I.unpinned.step (g':=s.gens) (d':=s.drawn) (ch:=[Da]) QD3 (λb o _ _ L e _=>k b o QU0 e) (λb o _ _ L e _=>⟨o.slots,k b o QU0 e⟩) (λb o L _ n=>by rw[Xd QU0];exact n)
  (λb o L e=>⟨o,k b o QU0 e⟩) (λb xs z=>by rw[Xd Qm1];exact z) (λb o u z=>by rw[Xd Qm1];exact z) (λb q z=>by rw[Xd Qm1];exact z) (λm hm=>?_) (λb w e=>?_) I.bare
 ·rw[V6.mp hb];refine⟨.inr aa,hL,λx c q z=>?_,ab⟩;obtain⟨v,o',e',d'⟩:=I.cell x c q;rw[z,e]at e';cases e';exact hd v d'
 ·obtain⟨o',es,ep,ho,r⟩:=hm;exact⟨o',es,ep,k _ _ hL.symm ho,r⟩
 ·by_cases hb:b=Da;·subst hb;rw[Xl]at e;cases e;exact new
  ·rw[Xd hb]at e;refine(I.hok b w e).stay (λc v L q=>k c v ?_ q) (λc z=>by rw[Xd Qm1];exact z) λc v _ z=>by rw[Xd Qm1];exact z
   rcases L with rfl|L;·exact hb
   ·exact ne c _ L
theorem Xq6:∀(L ps:List QG1),L.map Qo=ps.map (λp=>p.1.reverse)->∃qs:Kvs,qs.map (·.2.1)=L.map QK/\qs.map QI7=ps.map QK/\qs.map Qo=L.map Qo/\∀q∈qs,(q.1,q.2.1)∈L/\(q.1.reverse,q.2.2)∈ps
 |[],[],_=>⟨[],rfl,rfl,rfl,λq hq=>by cases hq⟩|[],_::_,h=>by cases h|_::_,[],h=>by cases h|t::L,p::ps,h=>by
  rw[Ua,Ua]at h;injection h with h1 h2;obtain⟨qs,e1,e2,e3,e4⟩:=Xq6 L ps h2;refine⟨(t.1,t.2,p.2)::qs,by rw[Ua,e1];rfl,by rw[Ua,e2];rfl,by rw[Ua,e3];rfl,λq hq=>?_⟩;rcases V0.mp hq with rfl|hq
  ·refine⟨Uv,?_⟩;have:(t.1.reverse,p.2)=p:=by rw[h1,List.reverse_reverse]
   dsimp only;rw[this];exact Uv
  exact⟨U2 _ QR6.1,U2 _ QR6.2⟩
theorem X3h {prog:Ue} {w:Uy} {A:U7} {Da kS:Addr} {qs:Kvs} {e1 n1:Nat} {P:PySem.Fin->Vc->Prop} (hu:A.units<Vbh) (h5:QP2<100000) (hk:s.heap.get? kS=yz (Uf "list" Q62.toArray n1)) (hD:s.heap.get? Da=yz Qp0) (ac:kS≠Da)
  (hq:∀q∈qs,Row s.heap q.1 q.2.1)
  (h:∀L:Kvs,L.Perm qs->WkL Qr1->P Qv5 {s with heap:=(s.heap.update kS (V5 λ_=>#[])).update Da (V5 λ_=>QT2.toArray)}):Vh Q7 A (ksk_end Da yw (qs.map QI7).toArray e1 Qc6 Q62.toArray) P E s:=by
 have sl:=Vcz;have aa:∀(st:V8) (L:Kvs),L.Perm qs->WkL Qr1->Qi3.map QK=QT2.toArray->Vct st=yy->Vh Q7 A (ksk_tail Da yw e1 Qc6 st) P E s:=λst L r1 r2 q1 q2=>by
  have ab:(s.heap.update kS QB).get? Da=yz Qp0:=(Vdq _ _ _ _ ac.symm).trans hD;unfold ksk_tail;dsimp only;refine Va (Vec hk rfl (Va (wpAny_letGo (Va (seqEpoch_at ab rfl (Va (Vec ab rfl ?_ QR2 ?_)))))) (by rw[Vo,Vg];omega) QR2);·rw[q1,q2,bne_self_eq_false];exact Vf Qe5
  ·simp only[Uo,if_false];rw[q1,Vo,Vg,r1.length_eq];omega
 unfold ksk_end;dsimp only;simp only[Uo,if_false];have zz:(qs.map λq:LI×Vb×Vb=>q.2.2).toArray.size=ll qs:=by rw[Vo,Vg]
 by_cases q:QP2<2
 ·rw[iP0 Ql0,iP0 Ql0];refine Va Qm;rw[StateT.run_pure];refine Va (Vf (aa _ qs Qb6 ?_ ?_ rfl));·exact Xvd _ q
  ·show((qs.map λq:LI×Vb×Vb=>q.2.1).toArray.zip (qs.map λq:LI×Vb×Vb=>q.2.2).toArray).map QK=_;apply Vht.mp;rw[Array.toList_map,Xkn,Vae];rfl
 ·rw[iN0 Ql0,iN0 Ql0];exact Xn7 hu hq QJ λst L r1 r2 r3 r4=>aa st L r1 r2 r3 r4
variable{params:Ve2}{body:Expr}{scope:U1}
theorem LamH.mono{f:Addr}{H':Hp}(h:LamH X nm params body scope H f)(m:Mon X.K ρ ρ' H H'):LamH X nm params body scope H' f:=by obtain⟨pm,c,L,y,hf,o,w,vs,t,hc,r⟩:=h;exact⟨pm,c,L,y,m.frz _ _ _ hf,o,w,vs,t,m.frz _ _ _ hc,r⟩
theorem Xmn(ks:LL)(j:Nat)(k:LI)(h:ks[j]?=yz k):(ks.take (j+1)).map QU3=(ks.take j).map QU3++[Xa6 k.reverse]:=by rw[Vg3,h,Vav];rfl
theorem Xyy(h:Heap)(vs:LV)(b:Addr)(o:Obj)(e:h.get? b=yz o):
  ((((((h.push Q3).update h.objs.size (V5 (·++vs.toArray))).push (Uf "list" vs.toArray 0)).update (h.objs.size+1) QB).push (Uf "tuple" vs.toArray 0)).push Q3).get? b=yz o:=by
 have lt:=Vy e;refine Vm _ (Vm _ ?_);rw[Vdq _ _ _ _ (Uq (Vdi lt))];exact Vm _ ((Vdq _ _ _ _ (Uq lt)).trans Qs6)
theorem Xyz{f l:Addr}{ws:LW}{its:LV}{ks r:LL}(hu:X.A.units+200<Vbh)(I:S0 X pc σ H s ρ S env)(hL:LamH X nm params body scope H f)
  (aq:∀(pc:LA) (s:Vc) (H:Hp) (ρ:LR) (k:LI) (v:V) (u:Vb),S0 X pc σ H s ρ S env->LamH X nm params body scope H f->RelV v u->RD X.K ρ H Qi4 v ->
   Vh Q4 X.A.in1.in1 Qg3 (OkP X pc σ ρ H (.ok (Xa6 k.reverse) S)) Q70 s)
  (hl:s.heap.IsList l its.toArray) (hr:RDs X.K ρ H QH3 ws) (ao:Vals ws its) (e3:Xke ks=yz r):
  Vh Q4 X.A (call QF0 QH7 QW1) QL0 E s:=by
 obtain⟨h5,rfl⟩:(ll ks)<100000/\r=(Y6 (ks.map Vbr)).map Vbr:=by
  unfold Xke at e3;by_cases c:(ll ks)<100000;·rw[iP0 c,Vr]at e3;exact Qz4
  ·rw[iN0 c]at e3;cases e3
 have aw:Qn0=ll ks:=by rw[<-ao.length,<-hr.length,Vg]
 have an:Qn0<=V3:=by rw[Vcz];omega
 have sz:(Q2.update s.heap.objs.size (V5 (·++its.toArray))).objs.size=s.heap.objs.size+1:=by rw[Heap.size_update,size_push']
 have oL:(Q1.push QN).get? QD=yz QN:=sz▸Vw _ rfl;obtain⟨e1,o1⟩:∃e1,((((s.heap.push (Uf "list" #[] 0)).update s.heap.objs.size (V5 (·++its.toArray))).push (Uf "list" its.toArray 0)).update (s.heap.objs.size+1) (V5 λ_=>(#[]:AV))).get? (s.heap.objs.size+1)=yz (Uf "list" #[] e1):=⟨_,Ve8 oL λ_=>#[]⟩;have au:(Q0.push Qd).objs.size=s.heap.objs.size+3:=by rw[size_push',Heap.size_update,size_push',sz]
 refine call_function_entry_kw kind_sorted plain_sorted entry_sorted (ksk_s1 _ _) ?_;unfold Vbt.«sorted»;refine Va (m:=checkCount "sorted" 1 1 _) (Vf (Va (collect_list hl (Va (Vhl ?_ Qz2)) an)));change Vh _ _ _ _ _ {s with heap:=Q1.push QN};rw[sz];refine Va (Vak (wpAny_call_entry_kw slot_list_sort QI5 entry_list_sort ?_ (ksk_l1 _ _)));show Vh Q4 X.A.in1.in1 (Vbt.«list.sort» ⟨[.ref QD],QW1⟩) _ _ _;rw[ksk_t1];unfold ksk_tree;refine Va (Ves oL rfl (Va (Vec oL rfl (Va (seqEpoch_at o1 rfl (Va (wpAny_newTuple Q33 Qz2)))) (by rw[Vo];exact an) QR2)));have kp:=Xyy s.heap its;have o4:=Vm Q3 (Vm Qd o1);have k4:((Q91.push Q3).get? QC)=yz Q3:=au▸Vw _ rfl;change Vh Q4 X.A.in1.in1 (ksk_rest QD Q04 yw its.toArray e1 (.ref ((Q0.push Qd).objs.size))) _ _
  {s with heap:=Q91.push Q3}
 rw[au];generalize Q91.push Q3=h4 at kp o4 k4 ⊢;clear au o1 oL sz;have bf:H QD=none:=I.inv.hok.fresh QD7;have ai:H QC=none:=I.inv.hok.fresh QJ;have bn:=I.inv.sz;have a8:=I.inv.lt;have ne:s.heap.objs.size+3≠s.heap.objs.size+1:=by omega
 have J0:Inv X pc σ QV3 QY4:=I.inv.laid (t':=s.toks) kp QJ ⟨Ub _,[],0,.nil,k4⟩;have J1:Inv X Q16 σ QV3 QY4:=J0.pins_of λp hp=>by
  rcases V9.mp hp with z|z;·exact J0.pin p (Ul _ z)
  ·rw[V6.mp z];exact⟨o4,by rw[Xd ne.symm];exact bf,Vep (Vdi a8),I.inv.nofs QD7,λv z=>by cases z⟩
 have bd:∀p∈X.pn++pc,p.1≠s.heap.objs.size+1:=λp hp z=>by have:=Vy (I.inv.pin p hp).1;rw[z]at this;exact aB0 (Vfk this) (Vcp _)
 have bh:s.heap.objs.size+3 ∉ ρ:=λhm=>by obtain⟨u,e,_⟩:=I.sr.mem hm;rw[ai]at e;cases e
 unfold ksk_rest;refine Va QA5;rw[List.forIn_toArray];refine Va (ksk_fold (λi s'=>∃H' ρ' vs,S0 X Q16 σ H' s' ρ' S env/\Stp X.K ρ ρ' H H'/\s.heap.objs.size+3 ∉ ρ'/\H' QC=yz QQ3/\RDs X.K ρ' H' ((ks.take i).map λk=>Xa6 k.reverse) vs) its 0 _
  ⟨_,ρ,[],⟨J1,I.sr.upd ai,I.er.mono (Stp.upd ai)⟩,Stp.upd ai,bh,Xl,by rw[Ven];exact RDs.nil⟩ (λj x s1 hx hI=>?_) λs1 hI=>?_)
 ·obtain⟨H1,ar,vs,I1,aj,av,af,ah⟩:=hI;rw[Va4]at ah ⊢;have hj:j<ll ks:=by rw[<-aw];exact QC6.1
  obtain⟨v,hv,rv⟩:∃v,ws[j]?=yz v/\RelV v x:=by
   have a7:j<ll ws:=by rw[ao.length];exact QC6.1
   obtain⟨u,hu,ru⟩:=ao.get (i:=j) (x:=ws[j]) (by simp[a7]);rw[hx]at hu;cases hu;exact⟨_,by simp[a7],ru⟩
  have hk:ks[j]?=yz ks[j]:=by simp[hj]
  obtain⟨v',az,rd⟩:=hr.get (i:=j) (d:=Xa6 ks[j]) (by rw[Vx,hk];rfl);rw[hv]at az;cases az;refine Va (Vga (Vp (aq _ s1 H1 ar ks[j] v x I1 (hL.mono aj.toMon) rv (rd.mono aj)) (λu s2 hq=>?_) λ_ _ z=>z.elim));obtain⟨d,S2,e2,v2,H2,ap,J2,bc,bg,bb,ax⟩:=hq;cases e2;obtain⟨a6,ak⟩:=ax.out af av;obtain⟨ba,ab,nk,am,ek⟩:=(show ObjOk X.prog X.w H2 s2.heap QC QQ3 from J2.hok _ _ ak);have ae:s2.heap.get? QC=yz Qi2:=ek;have bm:Q77=j:=by rw[<-am.length,<-ah.length,Vg,U9];omega
  have ea:ab.toArray.push u=(ab++[u]).toArray:=by simp
  have sb:=Vaz s2.heap QC (V5 Q74);obtain⟨c2,ay⟩:∃c2,(s2.heap.update (s.heap.objs.size+3) (V5 (·.push u))).get? (s.heap.objs.size+3)=yz (Uf "list" (ab++[u]).toArray c2):=⟨_,by rw[<-ea];exact Ve8 ae Q74⟩;dsimp only;have bj:V3=_:=Vcz;refine Va (Vec ae rfl (Vf ⟨rfl,?_⟩) (by rw[Vo];omega) (by rw[Array.size_push,Vo];omega));have J3:=J2.write (x:=s.heap.objs.size+3) (e:=s.heap.objs.size+3) (o:=.lst Q94) (t':=s2.toks) (by rw[ak];trivial) QI1 Qb1 ⟨_,ay⟩ ⟨by rw[V4,am.length];show Q77+1<=_;omega,ab++[u],c2,am.append (.cons bc .nil),ay⟩;have mo:Mon X.K ap ap H2 (upd H2 QC (.lst Q94)):=Mon.own ak;have al:=(aj.trans ax).own (u:=.lst Q94) ai ak;refine⟨_,ap,vs++[v2],⟨J3,bb.own ak a6,I.er.mono al⟩,al,a6,Xl,?_⟩;rw[Xmn ks j _ hk];exact(RDs.mono' mo _ _ (ah.mono ax)).append (.cons (RD.mono' mo _ _ bg) .nil)
 ·obtain⟨H1,ar,vs,I1,aj,av,af,ah⟩:=hI;rw[Va4,aw,Vb2]at ah;obtain⟨ba,ab,nk,am,ek⟩:=(show ObjOk X.prog X.w H1 s1.heap QC QQ3 from I1.inv.hok _ _ af);have ae:s1.heap.get? QC=yz Qi2:=ek;have a9:RDs X.K ar H1 (QI3.map Xa6) vs:=by rw[Vae];exact ah
  obtain⟨tq,t1,t2,t3⟩:=Xgs I1.inv _ _ _ a9 am;obtain⟨ps,p1,p2,p3⟩:=Xgs I.inv _ _ _ hr ao;obtain⟨qs,q1,q2,q3,q4⟩:=Xq6 tq ps (by rw[t1,<-p1,Vae];rfl);rw[t2]at q1;rw[p2]at q2;have lq:QP2=ll ks:=by rw[<-Vg (f:=λq:LI×Vb×Vb=>q.2.2),q2];exact aw
  have oD:=Qx3.1;refine Va (Ves ae rfl ?_);rw[<-q1]at ae ⊢;rw[<-q2];refine X3h (by show X.A.units+1+1<_;omega) QJ ae oD ne (λq hq=>(t3 _ (q4 q hq).1).1) λrs r1 r2=>⟨_,rfl,Vf QH5⟩;have sb:=Vaz s1.heap QC QB;have k5:=Ve8 ae λ_=>#[];have J2:=I1.inv.write (x:=s.heap.objs.size+3) (e:=s.heap.objs.size+3) (o:=.lst []) (t':=s1.toks) (by rw[af];trivial) QI1 Qb1 ⟨_,k5⟩ ⟨Ub _,[],_,.nil,k5⟩;have be:=(J2.pin QX Qb).1;have d5:=Ve8 be λ_=>QG2.toArray;obtain⟨zs,z1,z2⟩:=Xko (X:=X) (ρ:=ρ) (H:=H) (f:=Vbr) (rs.map λq=>QL6) λq hq=>by obtain⟨p,hp,rfl⟩:=Uc.mp hq;exact(p3 _ (q4 p (r1.mem_iff.mp hp)).2).2
  rw[Vae]at z2;replace z2:Vals zs QG2:=z2;have e9:=Xi8 (r1.map λq=>q.1) r2;rw[q3,t1]at e9;have bi:((rs.map λq:LI×Vb×Vb=>QL6).map λq=>q.1.reverse)=(Y6 QI3).map Vbr:=by rw[<-e9,Vae,Vae];rfl
  rw[bi]at z1;have sl:=Vcz;have J3:=Inv.own1 (u:=.lst zs) (t':=s1.toks) J2 QJ bd (λb w hb q=>QU4.trans q) ⟨_,d5⟩ ⟨by rw[z2.length,Vg,r1.length_eq];omega,_,_,z2,by simpa [Uf] using d5⟩;have al:=aj.own (u:=.lst []) ai af;exact OkP.pre al (Xbc J3 (by rw[Xd ne.symm];exact Qx3.2.1) (I1.sr.own af av) (z1.mono al))
universe e
noncomputable def Xod(sc:U1)(x:Str):Bool:=match sc.names.lookup x with
 |some .local=>yx|some .cell=>yx|some .free=>yx|_=>yw
noncomputable def glB(sc:U1)(x:Str):Bool:=match sc.names.lookup x with
 |some .globalImplicit=>yx|_=>yw
noncomputable def Xkq(top:Str->Bool)(sc:U1)(x:Str):Bool:=match sc.names.lookup x with
 |some .local=>yx|some .cell=>top x|_=>yw
noncomputable def Xa3(x:Str):Bool:=! QY && ! QZ0 && !decide (x="__name__")
theorem Xq7(h:Xod sc x=yx):Vis sc x:=by
 unfold Xod at h;split at h;·exact .inl Qv
 ·exact .inr (.inl Qv)
 ·exact .inr (.inr Qv)
 cases h
theorem Xaq(hs:X.env.scope=sc)(h:glB sc x=yx):Gl X x:=by
 subst hs;unfold glB at h;split at h;·assumption
 ·cases h
theorem Xgt{X:Cx}{top:Str->Bool}{sc:U1}{x:Str}(hs:X.env.scope=sc)(L:∀x,top x=yx->X.fn x=yx)(h:Xkq top sc x=yx):Loc X.env.scope x/\(X.fn x=yx\/X.env.scope.names.lookup x=yz .local):=by
 subst hs;unfold Xkq at h;split at h;·exact⟨.inl Qv,.inr Qv⟩
 ·exact⟨.inr Qv,.inl (L x h)⟩
 cases h
theorem Xbd(h:Xa3 x=yx):QY=yw/\QZ0=yw/\x ≠ "__name__":=by simp only[Xa3,bA0,Vbf,decide_eq_false_iff_not]at h;exact⟨h.1.1,h.1.2,h.2⟩
noncomputable def Yc:Expr->Bool
 |.Starred _ _=>yw|_=>yx
theorem Xq(h:Yc e=yx):Ui Q50 env=(yw,eval e env)::Ui es env:=by cases e<;>first|rfl|cases h
theorem Xan(h:es.all Yc=yx):QT0.any Qo=false:=by
 induction es with
 |nil=>rfl|cons e es ih=>rw[Vb4,bA0]at h;rw[Xq h.1];show(yw||QT0.any Qo)=yw;rw[ih h.2];rfl
theorem Xoe(h:es.all Yc=yx):QT0.all QZ5=true:=by
 induction es with
 |nil=>rfl|cons e es ih=>rw[Vb4,bA0]at h;rw[Xq h.1];show(yx&&QT0.all QZ5)=yx;rw[ih h.2];rfl
noncomputable def Xd8:Expr->Bool
 |.Name _ _=>yx|.Constant _ _ _=>yx|.BinOp _ _ _ _=>yx|.UnaryOp _ _ _=>yx|.Call _ _ _ _=>yx|.Subscript _ _ _=>yx|.List _ _=>yx|.IfExp _ _ _ _=>yx|.Compare _ _ _ _=>yx|_=>yw
theorem Xs0(h:Xd8 b=yx):Xj8 b:=by cases b<;>first|(intro o i;rfl)|cases h
noncomputable def Xb9:Expr->Bool
 |.Set _ _ _=>yw|_=>yx
theorem Xex(h:Xb9 e=yx)(x:Vb):Vb8 e env x=pure x:=by cases e<;>first|rfl|cases h
noncomputable def Xh5:Expr->Bool
 |.Name _ _=>yx|.Subscript _ _ _=>yx|.List _ _=>yx|.Constant _ _ _=>yx|_=>yw
theorem ff{P:Prop}(h:yw=yx):P:=nomatch h
theorem Xd9(h:Xh5 o=yx):attributeBase o name env (eval o env)=eval o env:=by cases o<;>first|rfl|exact ff h
noncomputable def Xof(c:Co)(o:CmpOp):Bool:=decide (o=opC c)
theorem Xkr{c:Co}{o:CmpOp}(h:Xof c o=yx):o=opC c:=oD0 h
noncomputable def Xs1(c:Bo)(o:Operator):Bool:=decide (o=opB c)
theorem Xq8{c:Bo}{o:Operator}(h:Xs1 c o=yx):o=opB c:=oD0 h
noncomputable def Xy0(d:D)(c:Const):Bool:=match d with
 |.int i=>(match c with
  |.int j=>i==j
  |_=>yw)
 |.bl i=>(match c with
  |.bool j=>i==j
  |_=>yw)
 |.non=>(match c with
  |.none=>yx
  |_=>yw)
 |.str i=>(match c with
  |.str j=>decide (i=j)
  |_=>yw)
 |_=>yw
noncomputable def Xs2:Bl->Option (Str×Bool×String)
 |.len=>yz ("len",yx,"len")|.tuple=>yz ("tuple",yw,"tuple")|.list=>yz ("list",yw,"list")|.all=>yz ("all",yx,"all")|.anb=>yz ("any",yx,"any")|.smB=>yz ("sum",yx,"sum")|.max=>yz ("max",yx,"max")|.min=>yz ("min",yx,"min")|.repr=>yz ("repr",yx,"repr")|.itB=>yz ("int",yw,"int")|.srt=>yz ("sorted",yx,"sorted")
noncomputable def Xs3:Bl->Bool
 |.len=>yx|.tuple=>yx|.list=>yx|.repr=>yx|.itB=>yx|.srt=>yx|_=>yw
noncomputable def X8q:Tg->Bool
 |.var _=>yx|_=>yw
noncomputable def tyB(sc:U1)(t:Ty)(nm:Str):Bool:=match t with
 |.cls c=>decide (Xbv c=yz nm)|.int=>decide (nm="int")|.bool=>decide (nm="bool")|.str=>decide (nm="str")|.tuple=>decide (nm="tuple")|.list=>decide (nm="list")|.dict=>decide (nm="dict")|.valueError=>decide (nm="ValueError")
noncomputable def Yfj:Ty->Bool
 |.cls _=>yw|.valueError=>yw|_=>yx
noncomputable def tyM(sc:U1)(ts:List Ty)(y:Expr):Bool:=match y with
 |.Name nm _=>glB sc nm&&Xa3 nm&&(match ts with|[t]=>tyB sc t nm|_=>yw)|_=>yw
noncomputable def Ye5:Mt->Option Str
 |.append=>yz "append"|.xtd=>yz "extend"|.count=>yz "count"|.index=>yz "index"
noncomputable def Xh6(scope sc:U1):U1:={scope with names:=scope.names.map λ(n,k)=>if (k == .free&&sc.kind == .function&&sc.names.lookup n==yz .cell) then (n,.cell) else (n,k)}
noncomputable def Xaa(scope:U1):LS:=scope.names.filterMap λx=>match x.2 with
 |.local=>yz x.1|.cell=>yz x.1|_=>yy
noncomputable def Xcj(N N2:LS)(x:Str):Bool:=(N2.drop N.length).contains x
theorem X3i(h:Xcj N (Xau N own) x=yx):own.contains x=true:=by unfold Xcj Xau at h;rw[List.drop_left' Qb]at h;exact h
noncomputable def Xs4(k:ScopeKind):Bool:=match k with
 |.function=>yx|_=>yw
theorem Xks(h:Xs4 k=yx):k=.function:=by cases k<;>first|rfl|cases h
noncomputable def Xog(k:Option Vfd):Bool:=match k with
 |some .cell=>yx|some .free=>yx|_=>yw
noncomputable def Xdo(k:Option Vfd):Bool:=match k with
 |some .local=>yx|_=>yw
noncomputable def Xfn:LS->Bool
 |[]=>yx|x::r=>!(r.contains x)&&Xfn r
theorem Xfo:∀ {l:LS},Xfn l=yx->l.Nodup
 |[],_=>Vg2|x::r,h=>by simp only[Xfn,bA0,Vbf,List.contains_eq_mem]at h;exact Ve1.mpr ⟨by simpa using h.1,Xfo h.2⟩
noncomputable def scB(outer sc:U1)(N:LS):Bool:=
 Xs4 sc.kind&&Xs4 outer.kind&&Xfn (Xau N Qu3) &&
 sc.names.all (λy=>match y.2 with|.free=>Xog Qk2 && ! Qu3.contains y.1|.local=>Xdo (sc.names.lookup y.1)|_=>yx) &&
 N.all (λy=>!(Qu3.contains y)||(sc.names.lookup (Vau "0" ++ y)).isNone)
theorem Xvm(h:scB outer sc N=yx):ScOk outer sc N Qu3:=by
 simp only[scB,bA0]at h;obtain⟨⟨⟨⟨h1,h2⟩,h3⟩,h5⟩,h6⟩:=h;have aa:∀y∈sc.names,y.2=.free->Xog Qk2=yx/\y.1 ∉ Xaa sc:=λy L hf=>by have:=Vag.mp h5 y L;rw[hf]at this;simpa using this
 have ab:∀y∈sc.names,y.2=.cell->y.1∈Xaa sc:=λy L hk=>Ve0.mpr ⟨y,L,by rw[hk]⟩;refine⟨Xks h1,Xks h2,Xfo h3,ab,λy L hf=>Qg5.2,λy L hf=>?_,λy L=>?_,λx hx hl=>?_,λy L hc=>?_⟩
 ·have:=Qg5.1;unfold Xog at this;split at this;·exact .inl Qv
  ·exact .inr Qv
  cases this
 ·exact Ve0.mpr ⟨(y,.local),Xcu L,rfl⟩
 ·have:=Vag.mp h5 x hx;rw[hl]at this;dsimp only at this;unfold Xdo at this;split at this;·assumption
  ·cases this
 have:=Vag.mp h6 y L;rw[hc]at this;simp only[Vb3,Vhm,Vjb]at this;exact this
noncomputable def Xs5:It->Bool
 |.enm _=>yx|_=>yw
noncomputable def Xfp(t:Tg)(it:It):Bool:=!Xs5 it || !X8q t
noncomputable def Xy1:Expr->Bool
 |.Name _ _=>yx|.Subscript _ _ _=>yx|.List _ _=>yx|_=>yw
noncomputable def mnC(i:Int)(e:Expr):Bool:=match e with
 |.UnaryOp o x _=>(match o with
  |.USub=>(match x with
   |.Constant c _ _=>(match c with
    |.int j=>i==j
    |_=>yw)
   |_=>yw)
  |_=>yw)
 |_=>yw
noncomputable def X8r(l:Option Int)(lo:Option Expr):Bool:=match l with
 |none=>lo.isNone|some k=>lo.any λx=>mnC k x
noncomputable def Xoh(i:Int)(l:Option Int)(e:Expr):Bool:=match e with
 |.Slice lo hi st _=>hi.isNone&&st.any λst=>mnC i st&&X8r l lo|_=>yw
theorem any_some{α:Type}{o:Option α}{p:α->Bool}(h:o.any p=yx):∃x,o=yz x/\p x=true:=by
 cases o with
 |none=>cases h|some x=>exact⟨x,rfl,h⟩
theorem Yr{α:Type}{z:α}{P:Prop}(h:(yy:Option α)=yz z):P:=nomatch h
noncomputable def vNm(e:Expr):Option Str:=match e with
 |.Name x _=>yz x|_=>yy
theorem Xax{e:Expr}{x:Str}(h:vNm e=yz x):∃p,e=.Name x p:=by
 cases e with
 |Name _ _=>cases h;exact Ql|_=>exact Yr h
noncomputable def X8s(e:Expr):Option Const:=match e with
 |.Constant c _ _=>yz c|_=>yy
theorem X3j{e:Expr}{x:Const}(h:X8s e=yz x):∃k p,e=.Constant x k p:=by
 cases e with
 |Constant _ _ _=>cases h;exact QY5|_=>exact Yr h
noncomputable def vUn(e:Expr):Option (UnaryOp×Expr):=match e with
 |.UnaryOp o x _=>yz (o,x)|_=>yy
theorem Xvn{e:Expr}{z:UnaryOp×Expr}(h:vUn e=yz z):∃p,e=.UnaryOp z.1 z.2 p:=by
 cases e with
 |UnaryOp _ _ _=>cases h;exact Ql|_=>exact Yr h
noncomputable def X8t(o:UnaryOp):Bool:=decide (o=.USub)
theorem X3k(h:X8t o=yx):o=.USub:=oD0 h
noncomputable def X8u(o:UnaryOp):Bool:=decide (o=.Not)
theorem X3l(h:X8u o=yx):o=.Not:=oD0 h
noncomputable def Xoi(e:Expr):Option (LX):=match e with
 |.Tuple xs _ _=>yz xs|_=>yy
theorem Xcz{e:Expr}{x:LX}(h:Xoi e=yz x):∃k p,e=.Tuple x k p:=by
 cases e with
 |Tuple _ _ _=>cases h;exact QY5|_=>exact Yr h
noncomputable def X8v(e:Expr):Option (LX):=match e with
 |.List xs _=>yz xs|_=>yy
theorem X3m{e:Expr}{x:LX}(h:X8v e=yz x):∃p,e=.List x p:=by
 cases e with
 |List _ _=>cases h;exact Ql|_=>exact Yr h
noncomputable def X8w(e:Expr):Bool:=match e with
 |.Dict ks vs _=>ks.isEmpty&&vs.isEmpty|_=>yw
theorem X3n{e:Expr}(h:X8w e=yx):∃p,e=.Dict [] [] p:=by
 cases e with
 |Dict ks vs p=>have h:(ks.isEmpty&&vs.isEmpty)=true:=h;rw[bA0,Va1,Va1]at h;obtain⟨rfl,rfl⟩:=h;exact Ql|_=>exact ff h
noncomputable def X8x(e:Expr):Option (Expr×Operator×Expr):=match e with
 |.BinOp x o y _=>yz (x,o,y)|_=>yy
theorem X3o{e:Expr}{z:Expr×Operator×Expr}(h:X8x e=yz z):∃p,e=.BinOp z.1 z.2.1 z.2.2 p:=by
 cases e with
 |BinOp _ _ _ _=>cases h;exact Ql|_=>exact Yr h
noncomputable def Xck{α:Type}(l:List α):Option α:=match l with
 |[x]=>yz x|_=>yy
theorem Xbp{α:Type}{l:List α}{x:α}(h:Xck l=yz x):l=[x]:=by
 unfold Xck at h;split at h;·cases h;rfl
 ·cases h
noncomputable def Xh7{α:Type}(l:List α):Option (α×α):=match l with
 |Q05=>yz (x,y)|_=>yy
theorem Xea{α:Type}{l:List α}{z:α×α}(h:Xh7 l=yz z):l=Q07:=by
 unfold Xh7 at h;split at h;·cases h;rfl
 ·cases h
noncomputable def Xs6(e:Expr):Option (Expr×List CmpOp×LX):=match e with
 |.Compare x os ys _=>yz (x,os,ys)|_=>yy
theorem Xq9{e:Expr}{z:Expr×List CmpOp×LX}(h:Xs6 e=yz z):∃p,e=.Compare z.1 z.2.1 z.2.2 p:=by
 cases e with
 |Compare _ _ _ _=>cases h;exact Ql|_=>exact Yr h
noncomputable def Xs7(e:Expr):Option (BoolOp×LX×Pos):=match e with
 |.BoolOp o xs p=>yz (o,xs,p)|_=>yy
theorem X3p{e:Expr}{z:BoolOp×LX×Pos}(h:Xs7 e=yz z):e=.BoolOp z.1 z.2.1 z.2.2:=by
 cases e with
 |BoolOp _ _ _=>cases h;rfl|_=>exact Yr h
noncomputable def opA(an:Bool):BoolOp:=if an then .And else .Or
noncomputable def Xs8(an:Bool)(o:BoolOp):Bool:=decide (o=opA an)
theorem X3q{an:Bool}{o:BoolOp}(h:Xs8 an o=yx):o=opA an:=oD0 h
noncomputable def Xoj(an:Bool)(p:Pos)(l:LX):Option QU5:=match l with
 |Q05=>yz (x,y)|x::y::z::r=>yz (x,.BoolOp Qx2 Qc1 p)|_=>yy
theorem X3r(h:Xoj an p l=yz z):l=Q07\/∃y L r,l=z.1::y::L::r/\z.2=.BoolOp Qx2 (y::L::r) p:=by
 unfold Xoj at h;split at h;·cases h;exact .inl rfl
 ·cases h;exact .inr ⟨_,_,_,rfl,rfl⟩
 cases h
noncomputable def vIf(e:Expr):Option (Expr×Expr×Expr):=match e with
 |.IfExp x y z _=>yz (x,y,z)|_=>yy
theorem X8y{e:Expr}{z:Expr×Expr×Expr}(h:vIf e=yz z):∃p,e=.IfExp z.1 z.2.1 z.2.2 p:=by
 cases e with
 |IfExp _ _ _ _=>cases h;exact Ql|_=>exact Yr h
noncomputable def Xfq(e:Expr):Option QU5:=match e with
 |.Subscript x y _=>yz (x,y)|_=>yy
theorem Xc0{e:Expr}{z:Expr×Expr}(h:Xfq e=yz z):∃p,e=.Subscript z.1 z.2 p:=by
 cases e with
 |Subscript _ _ _=>cases h;exact Ql|_=>exact Yr h
noncomputable def Xs9(e:Expr):Option (Option Expr×Option Expr):=match e with
 |.Slice l h yy _=>yz (l,h)|_=>yy
theorem Xra(h:Xs9 e=yz z):∃p,e=.Slice z.1 z.2 yy p:=by
 cases e with
 |Slice l u st p=>
  cases st with
  |none=>cases h;exact Ql|some _=>cases h
 |_=>exact Yr h
noncomputable def Xa7(e:Expr):Option (Expr×Expr×LX×Pos):=match e with
 |.Call f Q8 [] p=>yz (f,y,ys,p)|_=>yy
theorem Xgu{e:Expr}{z:Expr×Expr×LX×Pos}(h:Xa7 e=yz z):e=.Call z.1 QS [] z.2.2.2:=by
 cases e with
 |Call f xs ks p=>
  cases xs with
  |nil=>cases h|cons y ys=>
   cases ks with
   |nil=>cases h;rfl|cons _ _=>cases h
 |_=>exact Yr h
noncomputable def Xok(e:Expr):Option (Expr×Str×Pos):=match e with
 |.Attribute o nm p=>yz (o,nm,p)|_=>yy
theorem Xrb(h:Xok e=yz z):e=.Attribute z.1 z.2.1 z.2.2:=by
 cases e with
 |Attribute _ _ _=>cases h;rfl|_=>exact Yr h
noncomputable def vLC(e:Expr):Option (Expr×List Vbp×U1):=match e with
 |.ListComp e gens scope _=>yz (e,gens,scope)|_=>yy
theorem X8z{e:Expr}{z:Expr×List Vbp×U1}(h:vLC e=yz z):∃p,e=.ListComp z.1 z.2.1 z.2.2 p:=by
 cases e with
 |ListComp _ _ _ _=>cases h;exact Ql|_=>exact Yr h
section
variable(cm:Bool)(fns:LF)(gns:LS)
noncomputable def mtT(top:Str->Bool)(sc:U1)(N:LS):Tg->Expr->Bool
 |.var i,e=>Qb4.any λx=>decide QP3&&Xkq top sc x|.tup is,e=>QA7.any λes=>namesB is es
where namesB:LN->LX->Bool
 |[],[]=>yx
 |i::is,e::es=>(Qb4.any λx=>decide QP3&&Xkq top sc x)&&namesB is es
 |_,_=>yw
noncomputable def fnB(f:Nat)(x:Str)(n:Nat):Bool:=match fns[f]? with
 |some Qc4=>decide (nm=x)&&decide (ar=n)&&(cm || !fl)|none=>yw
noncomputable def blB(k:Bl)(x:Str):Bool:=match Xs2 k with
 |some (nm,_,_)=>decide (x=nm)|none=>yw
noncomputable def mtB(k:Mt)(nm:Str):Bool:=match Ye5 k with
 |some m=>decide (nm=m)|none=>yw
mutual
noncomputable def mt(sc:U1)(N:LS):Ex->Expr->Bool
 |.nev,_=>yx|.var i,e=>Qb4.any λx=>decide QP3&&Xod sc x&&Xa3 x|.cst d,e=>(X8s e).any λc=>Xy0 d c|.neg a,e=>Q57.any λz=>X8t z.1&&mt sc N a z.2|.glb k,e=>Qb4.any λx=>decide (gns[k]?=yz x)&&glB sc x&&Xa3 x|.tup es,e=>QA7.any λxs=>mts sc N es xs|.lst es,e=>(X8v e).any λxs=>mts sc N es xs|.dct0,e=>X8w e|.isi a ts,e=>Qf0.any λz=>QP0.any λ(f:Str)=>decide (f="isinstance")&&glB sc f&&Yc z.2.1&&mt sc N a z.2.1&&(Xck z.2.2.1).any λy=>tyM sc ts y|.bin op a b,e=>(X8x e).any λz=>Xs1 op z.2.1&&mt sc N a z.1&&mt sc N b z.2.2|.cmp op a b,e=>Qi5.any λz=>Qo5.any λo=>Qn5.any λy=>Xof op o && !(Vex Qo6 y)&&mt sc N a z.1&&mt sc N b y|.chn o1 o2 a b c,e=>Qi5.any λz=>(Xh7 z.2.1).any λo=>(Xh7 z.2.2).any λy=>Xof o1 o.1&&Xof o2 o.2 && !(lastMarks Qj0 [y.1,y.2])&&mt sc N a z.1&&mt sc N b y.1&&mt sc N c y.2|.and a b,e=>Qh5.any λz=>Xs8 yx z.1&&(Xoj yx z.2.2 z.2.1).any λy=>mt sc N a y.1&&mt sc N b y.2|.or a b,e=>Qh5.any λz=>Xs8 yw z.1&&(Xoj yw z.2.2 z.2.1).any λy=>mt sc N a y.1&&mt sc N b y.2|.not a,e=>Q57.any λz=>X8u z.1&&mt sc N a z.2|.ite c a b,e=>(vIf e).any λz=>mt sc N c z.1&&mt sc N a z.2.1&&mt sc N b z.2.2|.idx a i,e=>Qm5.any λz=>Xd8 z.2&&mt sc N a z.1&&mt sc N i z.2|.call f es,e=>Qf0.any λz=>QP0.any λx=>fnB cm fns f x QS.length&&glB sc x&&Xa3 x&&mts sc N es QS|.blt k es,e=>Qf0.any λz=>QP0.any λx=>blB k x&&Qf5&&glB sc x&&Xa3 x&&mts sc N es QS|.mth k o es,e=>Qf0.any λz=>QU6.any λx=>mtB k x.2.1&&Xh5 x.1&&Q32&&decide Qv4&&mt sc N o x.1&&mts sc N es QS|.cmr k n gs elt,e=>(vLC e).any λz=>cm && !k&&decide ((Xaa z.2.2).length=n)&&scB sc z.2.2 N&&mtG sc N Qq4 Qh3 gs z.2.1&&mt Qq4 Qh3 elt z.1|.sli a lo hi,e=>Qm5.any λz=>(Xs9 z.2).any λy=>mt sc N a z.1&&mto sc N lo y.1&&mto sc N hi y.2|.cal f es,e=>Qf0.any λz=>cm&&Xy1 z.1&&mt sc N f z.1&&mts sc N es QS|.rev a,e=>Qm5.any λz=>Xoh 1 yy z.2&&mt sc N a z.1|.lenm a,e=>Qf0.any λz=>QP0.any λ(x:Str)=>decide (x="list")&&cm&&glB sc x&&z.2.2.1.isEmpty&&Qq5.any λy=>QK6.any λ(L:Str)=>decide (L="enumerate")&&glB sc L&&y.2.2.1.isEmpty&&Yc y.2.1&&mt sc N a y.2.1|.dcl a,e=>Qf0.any λz=>QP0.any λ(x:Str)=>decide (x="dict")&&cm&&glB sc x&&z.2.2.1.isEmpty&&Yc z.2.1&&mt sc N a z.2.1|.dup o es,e=>Qf0.any λz=>QU6.any λx=>decide (x.2.1=("update" : Str))&&Xh5 x.1&&Q32&&decide Qv4&&mt sc N o x.1&&mts sc N es QS|.idc ng a b,e=>Qi5.any λz=>Qo5.any λo=>Qn5.any λy=>Xof (if ng then .notin else .isin) o && !(Vex Qp y)&&mt sc N a z.1&&mt sc N b y
noncomputable def mto(sc:U1)(N:LS):Op->Option Expr->Bool
 |.none,yy=>yx|.some e,yz x=>mt sc N e x|_,_=>yw
noncomputable def mts(sc:U1)(N:LS):Exs->LX->Bool
 |.nil,[]=>yx|.cons e es,x::xs=>Yc x&&mt sc N e x&&mts sc N es xs|_,_=>yw
noncomputable def mtG(sc:U1)(N:LS)(sc2:U1)(N2:LS):Gens->List Vbp->Bool
 |.nil,_=>yw|.cons t it ifs gs,l=>match l with
  |[]=>yw|c::r=>(c.is_async==0)&&Xb9 c.iter&&mtT Qp1 sc2 N2 t c.target&&mtI sc N it c.iter&&mts sc2 N2 ifs c.ifs&&Xfp t it&&match gs with
   |.nil=>r.isEmpty|.cons t2 it2 ifs2 L=>match r with
    |[]=>yw|c2::r2=>(c2.is_async==0)&&Xb9 c2.iter&&mtT Qp1 sc2 N2 t2 c2.target&&mtI sc2 N2 it2 c2.iter&&mts sc2 N2 ifs2 c2.ifs&&Xfp t2 it2&&r2.isEmpty&&match L with
     |.nil=>yx|.cons ..=>yw
noncomputable def mtI(sc:U1)(N:LS):It->Expr->Bool
 |.val e,x=>mt sc N e x|.rng es,e=>Qf0.any λz=>QP0.any λ(x:Str)=>decide (x="range")&&glB sc x&&mts sc N es QS|.enm es,e=>Qf0.any λz=>QP0.any λ(x:Str)=>decide (x="enumerate")&&glB sc x&&mts sc N es QS
end
universe e
section
variable{cm:Bool}{fns:LF}{gns:LS}{sc sc2:U1}{N N2:LS}{t t2:Tg}{it it2:It}{ifs ifs2:Exs}
theorem Yc6(h:mtG cm fns gns sc N sc2 N2 .nil gens=yx):False:=by cases h
theorem Yc7(h:mtG cm fns gns sc N sc2 N2 (.cons t it ifs .nil) gens=yx):∃tg iter L,gens=[⟨tg,iter,L,0⟩]/\Xb9 iter=yx/\mtT Qp1 sc2 N2 t tg=yx/\mtI cm fns gns sc N it iter=yx/\mts cm fns gns sc2 N2 ifs L=yx/\Xfp t it=true:=by
 cases gens with
 |nil=>cases h|cons c r=>obtain⟨tg,iter,L,a⟩:=c;have h:Qh4=true:=h;simp only[bA0,beq_iff_eq,Va1]at h;obtain⟨⟨⟨⟨⟨⟨h1,h2⟩,h3⟩,h4⟩,h5⟩,h6⟩,h7⟩:=h;subst h1 h7;exact⟨tg,iter,L,rfl,h2,h3,h4,h5,h6⟩
theorem Yc8(h:mtG cm fns gns sc N sc2 N2 (.cons t it ifs QJ0) gens=yx):∃tg iter cs aa L ab,gens=[Ql1,⟨aa,L,ab,0⟩]/\Xb9 iter=yx/\Xb9 L=yx/\mtT Qp1 sc2 N2 t tg=yx/\mtI cm fns gns sc N it iter=yx/\mts cm fns gns sc2 N2 ifs cs=yx/\mtT Qp1 sc2 N2 t2 aa=yx/\mtI cm fns gns sc2 N2 it2 L=yx/\mts cm fns gns sc2 N2 ifs2 ab=yx/\Xfp t it=yx/\Xfp t2 it2=true:=by
 cases gens with
 |nil=>cases h|cons c r=>
  obtain⟨tg,iter,cs,a⟩:=c;cases r with
  |nil=>have h:Qh4=true:=h;simp only[Vgz,Uo]at h|cons c2 r=>obtain⟨aa,L,ab,a2⟩:=c2;have h:Qh4=true:=h;simp only[bA0,beq_iff_eq,Va1]at h;obtain⟨⟨⟨⟨⟨⟨h1,h3⟩,h5⟩,h6⟩,h7⟩,ac⟩,⟨⟨⟨⟨⟨⟨h2,h4⟩,h8⟩,h9⟩,ah⟩,af⟩,ae⟩,_⟩:=h;subst h1 h2 ae;exact⟨tg,iter,cs,aa,L,ab,rfl,h3,h4,h5,h6,h7,h8,h9,ah,ac,af⟩
theorem Yc9(h:mtG cm fns gns sc N sc2 N2 (.cons t it ifs (.cons t2 it2 ifs2 (.cons t3 it3 ifs3 gs3))) gens=yx):False:=by
 cases gens with
 |nil=>cases h|cons c r=>cases r<;>(have h:Qh4=true:=h;simp only[Vgz,Uo]at h)
theorem Xcd{e:Expr}{q:Expr×Expr×LX×Pos->Str->Bool}(h:(Qf0.any λz=>QP0.any λx=>q z x)=yx):∃x p y ys L,e=.Call Q21 Q8 [] L/\q (.Name x p,y,ys,L) x=true:=by obtain⟨⟨f,y,ys,L⟩,h1,h2⟩:=any_some h;obtain⟨x,h3,h4⟩:=any_some h2;have e1:=Xgu h1;subst e1;have aa:vNm f=yz x:=h3;obtain⟨p,e2⟩:=Xax aa;subst e2;exact⟨x,p,y,ys,L,rfl,h4⟩
theorem X80{i:Nat}{e:Expr}(h:mt cm fns gns sc N (.var i) e=yx):∃x p,e=.Name x p/\N[i]?=yz x/\Xod sc x=yx/\Xa3 x=true:=by obtain⟨x,h1,h2⟩:=any_some h;obtain⟨p,rfl⟩:=Xax h1;simp only[bA0,decide_eq_true_eq]at h2;exact Qs1
theorem X81{d:D}{e:Expr}(h:mt cm fns gns sc N Qz6 e=yx):∃c k p,e=.Constant c k p/\Xy0 d c=true:=by obtain⟨c,h1,h2⟩:=any_some h;obtain⟨k,p,rfl⟩:=X3j h1;exact⟨c,k,p,rfl,h2⟩
theorem X82{a:Ex}{e:Expr}(h:mt cm fns gns sc N (.neg a) e=yx):∃x p,e=.UnaryOp .USub x p/\mt cm fns gns sc N a x=true:=by obtain⟨⟨o,x⟩,h1,h2⟩:=any_some h;obtain⟨p,rfl⟩:=Xvn h1;rw[bA0]at h2;have L:=X3k h2.1;dsimp only at L;subst L;exact QL4
theorem X83{a:Ex}{e:Expr}(h:mt cm fns gns sc N (.not a) e=yx):∃x p,e=.UnaryOp .Not x p/\mt cm fns gns sc N a x=true:=by obtain⟨⟨o,x⟩,h1,h2⟩:=any_some h;obtain⟨p,rfl⟩:=Xvn h1;rw[bA0]at h2;have L:=X3l h2.1;dsimp only at L;subst L;exact QL4
theorem X84{k:Nat}{e:Expr}(h:mt cm fns gns sc N (.glb k) e=yx):∃x p,e=.Name x p/\gns[k]?=yz x/\glB sc x=yx/\Xa3 x=true:=by obtain⟨x,h1,h2⟩:=any_some h;obtain⟨p,rfl⟩:=Xax h1;simp only[bA0,decide_eq_true_eq]at h2;exact Qs1
theorem X85{es:Exs}{e:Expr}(h:mt cm fns gns sc N (.tup es) e=yx):∃xs k p,e=.Tuple xs k p/\mts cm fns gns sc N es xs=true:=by obtain⟨x,h1,h2⟩:=any_some h;obtain⟨k,p,rfl⟩:=Xcz h1;exact⟨x,k,p,rfl,h2⟩
theorem X86{es:Exs}{e:Expr}(h:mt cm fns gns sc N (.lst es) e=yx):∃xs p,e=.List xs p/\mts cm fns gns sc N es xs=true:=by obtain⟨x,h1,h2⟩:=any_some h;obtain⟨p,rfl⟩:=X3m h1;exact⟨x,p,rfl,h2⟩
theorem X3s(h:mt cm fns gns sc N .dct0 e=yx):∃p,e=.Dict [] [] p:=by exact X3n h
theorem X87{op:Bo}{a b:Ex}{e:Expr}(h:mt cm fns gns sc N (.bin op a b) e=yx):∃x y p,e=.BinOp x (opB op) y p/\mt cm fns gns sc N a x=yx/\mt cm fns gns sc N b y=true:=by obtain⟨⟨x,o,y⟩,h1,h2⟩:=any_some h;obtain⟨p,rfl⟩:=X3o h1;simp only[bA0]at h2;have L:=Xq8 h2.1.1;subst L;exact⟨x,y,p,rfl,h2.1.2,h2.2⟩
theorem Xvo{op:Co}{a b:Ex}{e:Expr}(h:mt cm fns gns sc N (.cmp op a b) e=yx):∃x y p,e=.Compare x [opC op] [y] p/\Vex Qo6 y=yw/\mt cm fns gns sc N a x=yx/\mt cm fns gns sc N b y=true:=by obtain⟨⟨x,os,ys⟩,h1,h2⟩:=any_some h;obtain⟨o,h3,h4⟩:=any_some h2;obtain⟨y,h5,L⟩:=any_some h4;obtain⟨p,rfl⟩:=Xq9 h1;have e1:os=[o]:=Xbp h3;have e2:ys=[y]:=Xbp h5;subst e1 e2;simp only[bA0,Vbf]at L;have e3:=Xkr L.1.1.1;subst e3;exact⟨x,y,p,rfl,L.1.1.2,L.1.2,L.2⟩
theorem X88{o1 L:Co}{a b c:Ex}{e:Expr}(h:mt cm fns gns sc N (.chn o1 L a b c) e=yx):∃x y z p,e=.Compare x QJ5 [y,z] p/\lastMarks QJ5 [y,z]=yw/\mt cm fns gns sc N a x=yx/\mt cm fns gns sc N b y=yx/\mt cm fns gns sc N c z=true:=by obtain⟨⟨x,os,ys⟩,h1,h2⟩:=any_some h;obtain⟨⟨p1,p2⟩,h3,h4⟩:=any_some h2;obtain⟨⟨y,z⟩,h5,h6⟩:=any_some h4;obtain⟨p,rfl⟩:=Xq9 h1;have e1:os=[p1,p2]:=Xea h3;have e2:ys=[y,z]:=Xea h5;subst e1 e2;rw[bA0,bA0,bA0,bA0,bA0,Vbf]at h6;obtain⟨⟨⟨⟨⟨k1,k2⟩,k3⟩,k4⟩,k5⟩,k6⟩:=h6;have e3:=Xkr k1;have e4:=Xkr k2;dsimp only at e3 e4;subst e3 e4;exact⟨x,y,z,p,rfl,k3,k4,k5,k6⟩
theorem Xrc{an:Bool}{a b:Ex}{e:Expr}(h:(Qh5.any λz=>Xs8 an z.1&&(Xoj an z.2.2 z.2.1).any λy=>mt cm fns gns sc N a y.1&&mt cm fns gns sc N b y.2)=yx):
  (∃x y p,e=.BoolOp Qx2 Q05 p/\mt cm fns gns sc N a x=yx/\mt cm fns gns sc N b y=yx)\/∃x y z r p,e=.BoolOp Qx2 QE3 p/\mt cm fns gns sc N a x=yx/\mt cm fns gns sc N b (.BoolOp Qx2 Qc1 p)=true:=by
 obtain⟨⟨o,xs,p⟩,h1,h2⟩:=any_some h;have e1:=X3p h1;subst e1;rw[bA0]at h2;have e2:=X3q h2.1;dsimp only at e2;subst e2;obtain⟨⟨x,y⟩,h3,h4⟩:=any_some h2.2;rw[bA0]at h4;rcases X3r h3 with L|⟨y1,y2,r,L,e4⟩;·dsimp only at L;subst L;exact .inl ⟨x,y,p,rfl,h4.1,h4.2⟩
 ·dsimp only at L e4;subst L e4;exact .inr ⟨x,y1,y2,r,p,rfl,h4.1,h4.2⟩
theorem X89(h:mt cm fns gns sc N (.and a b) e=yx):(∃x y p,e=.BoolOp .And Q05 p/\mt cm fns gns sc N a x=yx/\mt cm fns gns sc N b y=yx)\/∃x y z r p,e=.BoolOp .And QE3 p/\mt cm fns gns sc N a x=yx/\mt cm fns gns sc N b Qb3=true:=by exact Xrc (an:=yx) h
theorem Yda(h:mt cm fns gns sc N (.or a b) e=yx):(∃x y p,e=.BoolOp .Or Q05 p/\mt cm fns gns sc N a x=yx/\mt cm fns gns sc N b y=yx)\/∃x y z r p,e=.BoolOp .Or QE3 p/\mt cm fns gns sc N a x=yx/\mt cm fns gns sc N b Qo3=true:=by exact Xrc (an:=yw) h
theorem X9a{c a b:Ex}{e:Expr}(h:mt cm fns gns sc N (.ite c a b) e=yx):∃x y z p,e=.IfExp x y z p/\mt cm fns gns sc N c x=yx/\mt cm fns gns sc N a y=yx/\mt cm fns gns sc N b z=true:=by obtain⟨⟨x,y,z⟩,h1,h2⟩:=any_some h;obtain⟨p,rfl⟩:=X8y h1;simp only[bA0]at h2;exact⟨x,y,z,p,rfl,h2.1.1,h2.1.2,h2.2⟩
theorem X9b{a i:Ex}{e:Expr}(h:mt cm fns gns sc N (.idx a i) e=yx):∃x y p,e=.Subscript x y p/\Xd8 y=yx/\mt cm fns gns sc N a x=yx/\mt cm fns gns sc N i y=true:=by obtain⟨⟨x,y⟩,h1,h2⟩:=any_some h;obtain⟨p,rfl⟩:=Xc0 h1;simp only[bA0]at h2;exact⟨x,y,p,rfl,h2.1.1,h2.1.2,h2.2⟩
theorem Xvp{k:Bool}{n:Nat}{gs:Gens}{elt:Ex}{e:Expr}(h:mt cm fns gns sc N (.cmr k n gs elt) e=yx):∃L gens scope p,e=.ListComp L gens scope p/\cm=yx/\k=yw/\Qj.length=n/\scB sc scope N=yx/\mtG cm fns gns sc N Qf2 QD4 gs gens=yx/\mt cm fns gns Qf2 QD4 elt L=true:=by obtain⟨⟨L,gens,scope⟩,h1,h2⟩:=any_some h;obtain⟨p,rfl⟩:=X8z h1;simp only[bA0,decide_eq_true_eq,Vbf]at h2;obtain⟨⟨⟨⟨⟨h0,h1⟩,h2⟩,h3⟩,h4⟩,h5⟩:=h2;exact⟨L,gens,scope,p,rfl,h0,h1,h2,h3,h4,h5⟩
theorem Ydb{n1 n2:Str}{cm:Bool}{M:Expr->Bool}(h:(Qf0.any λz=>QP0.any λ(x:Str)=>decide (x=n1)&&cm&&glB sc x&&z.2.2.1.isEmpty&&Qq5.any λy=>QK6.any λ(x2:Str)=>decide (x2=n2)&&glB sc x2&&y.2.2.1.isEmpty&&Yc y.2.1&&M y.2.1)=yx):
  ∃p p2 x cp L,e=.Call (.Name n1 p) [.Call (.Name n2 p2) [x] [] L] [] cp/\cm=yx/\glB sc n1=yx/\glB sc n2=yx/\Yc x=yx/\M x=true:=by
 obtain⟨x,p,y,ys,cp,rfl,h1⟩:=Xcd h;rw[bA0,bA0,bA0,bA0]at h1;obtain⟨⟨⟨⟨e1,e2⟩,e3⟩,e4⟩,h2⟩:=h1;obtain⟨x2,p2,y2,af,L,rfl,h3⟩:=Xcd h2;rw[bA0,bA0,bA0,bA0]at h3;obtain⟨⟨⟨⟨f1,f2⟩,f3⟩,f4⟩,f5⟩:=h3;have ae:=oD0 e1;have ac:=oD0 f1;subst ae ac;have aa:=Va1.mp e4;have ab:=Va1.mp f3;dsimp only at aa ab;subst aa ab;exact⟨p,p2,y2,cp,L,rfl,e2,e3,f2,f4,f5⟩
theorem X3t(h:mt cm fns gns sc N (.lenm a) e=yx):∃p p2 x cp L,e=.Call QX4 [.Call QA3 [x] [] L] [] cp/\cm=yx/\glB sc "list"=yx/\glB sc "enumerate"=yx/\Yc x=yx/\mt cm fns gns sc N a x=true:=by exact Ydb h
theorem X9c(h:mt cm fns gns sc N (.dcl a) e=yx):∃p x cp,e=.Call (.Name "dict" p) [x] [] cp/\cm=yx/\glB sc "dict"=yx/\Yc x=yx/\mt cm fns gns sc N a x=true:=by obtain⟨x,p,y,ys,cp,rfl,h1⟩:=Xcd h;rw[bA0,bA0,bA0,bA0,bA0]at h1;obtain⟨⟨⟨⟨⟨e1,e2⟩,e3⟩,e4⟩,e5⟩,h2⟩:=h1;have aa:=oD0 e1;have L:=Va1.mp e4;dsimp only at L;subst aa L;exact⟨p,y,cp,rfl,e2,e3,e5,h2⟩
theorem X9d{ng:Bool}{a b:Ex}{e:Expr}(h:mt cm fns gns sc N (.idc ng a b) e=yx):∃x y p,e=.Compare x [opC (if ng then .notin else .isin)] [y] p/\Vex Qp y=yw/\mt cm fns gns sc N a x=yx/\mt cm fns gns sc N b y=true:=
 Xvo (op:=if ng then .notin else .isin) h
theorem X9e(h:mt cm fns gns sc N Qw5 e=yx):∃x p y ys L,e=.Call Q21 Q8 [] L/\blB k x=yx/\Qf5=yx/\glB sc x=yx/\Xa3 x=yx/\mts cm fns gns sc N es Q8=true:=by obtain⟨x,p,y,ys,L,rfl,h1⟩:=Xcd h;rw[bA0,bA0,bA0,bA0]at h1;exact⟨x,p,y,ys,L,rfl,h1.1.1.1.1,h1.1.1.1.2,h1.1.1.2,h1.1.2,h1.2⟩
theorem X3u{k:Nat}(h:mt cm fns gns sc N (.call k es) e=yx):∃x p y ys L,e=.Call Q21 Q8 [] L/\(∃fl,fns[k]?=yz (x,Q8.length,fl)/\Qn4)/\glB sc x=yx/\Xa3 x=yx/\mts cm fns gns sc N es Q8=true:=by
 obtain⟨x,p,y,ys,L,rfl,h1⟩:=Xcd h;rw[bA0,bA0,bA0]at h1;refine⟨x,p,y,ys,L,rfl,?_,h1.1.1.2,h1.1.2,h1.2⟩;have h2:=h1.1.1.1;unfold fnB at h2;split at h2;·rename_i nm ar fl e;simp only[bA0,decide_eq_true_eq,Vcb,Vbf]at h2;obtain⟨⟨rfl,rfl⟩,h2⟩:=h2;exact⟨fl,e,λz=>by rcases h2 with h2|h2;exact h2;rw[z]at h2;cases h2⟩
 ·cases h2
theorem X9f{k:Mt}{o:Ex}{es:Exs}{e:Expr}(h:mt cm fns gns sc N QF5 e=yx):∃ox nm ap y ys cp,e=.Call QR3 Q8 [] cp/\mtB k nm=yx/\Xh5 ox=yx/\QR0=yx/\Q8.length<29/\mt cm fns gns sc N o ox=yx/\mts cm fns gns sc N es Q8=true:=by obtain⟨⟨f,y,ys,cp⟩,h1,h2⟩:=any_some h;obtain⟨⟨ox,nm,ap⟩,h3,L⟩:=any_some h2;have e1:=Xgu h1;subst e1;have aa:Xok f=yz Qn6:=h3;have e2:=Xrb aa;subst e2;rw[bA0,bA0,bA0,bA0,bA0]at L;exact⟨ox,nm,ap,y,ys,cp,rfl,L.1.1.1.1.1,L.1.1.1.1.2,L.1.1.1.2,oD0 L.1.1.2,L.1.2,L.2⟩
theorem X9g{o:Ex}{es:Exs}{e:Expr}(h:mt cm fns gns sc N Qu5 e=yx):∃ox ap y ys cp,e=.Call QW2 Q8 [] cp/\Xh5 ox=yx/\QR0=yx/\Q8.length<29/\mt cm fns gns sc N o ox=yx/\mts cm fns gns sc N es Q8=true:=by obtain⟨⟨f,y,ys,cp⟩,h1,h2⟩:=any_some h;obtain⟨⟨ox,nm,ap⟩,h3,L⟩:=any_some h2;have e1:=Xgu h1;subst e1;have aa:Xok f=yz Qn6:=h3;have e2:=Xrb aa;subst e2;rw[bA0,bA0,bA0,bA0,bA0]at L;have e3:nm="update":=oD0 L.1.1.1.1.1;subst e3;exact⟨ox,ap,y,ys,cp,rfl,L.1.1.1.1.2,L.1.1.1.2,oD0 L.1.1.2,L.1.2,L.2⟩
theorem X9h{a:Ex}{ts:List Ty}{e:Expr}(h:mt cm fns gns sc N (.isi a ts) e=yx):∃p0 x y L,e=.Call Q00 Q05 [] L/\glB sc "isinstance"=yx/\Yc x=yx/\mt cm fns gns sc N a x=yx/\tyM sc ts y=true:=by obtain⟨f,p,y,ys,L,rfl,h1⟩:=Xcd h;rw[bA0,bA0,bA0,bA0]at h1;obtain⟨⟨⟨⟨h2,h3⟩,h4⟩,h5⟩,h6⟩:=h1;have e1:f="isinstance":=oD0 h2;subst e1;obtain⟨y2,h7,h8⟩:=any_some h6;have e2:ys=[y2]:=Xbp h7;subst e2;exact⟨p,y,y2,L,rfl,h3,h4,h5,h8⟩
theorem X9i(h:tyM sc ts y=yx):(∃t nm p,ts=[t]/\y=.Name nm p/\glB sc nm=yx/\Xa3 nm=yx/\tyB sc t nm=yx):=by
 cases y with
 |Name nm p=>
  have h:Qh4=true:=h;simp only[bA0]at h;obtain⟨⟨h1,h2⟩,L⟩:=h;cases ts with
  |nil=>cases L|cons t r=>
   cases r with
   |nil=>exact⟨_,_,_,rfl,rfl,h1,h2,L⟩|cons _ _=>cases L
 |_=>exact ff h
theorem X9j{a:Ex}{lo hi:Op}{e:Expr}(h:mt cm fns gns sc N (.sli a lo hi) e=yx):∃x l u p2 p,e=.Subscript x (.Slice l u yy p2) p/\mt cm fns gns sc N a x=yx/\mto cm fns gns sc N lo l=yx/\mto cm fns gns sc N hi u=true:=by obtain⟨⟨x,y⟩,h1,h2⟩:=any_some h;obtain⟨⟨l,u⟩,h3,L⟩:=any_some h2;obtain⟨p,rfl⟩:=Xc0 h1;obtain⟨p2,e2⟩:=Xra h3;dsimp only at e2;subst e2;simp only[bA0]at L;exact⟨x,l,u,p2,p,rfl,L.1.1,L.1.2,L.2⟩
theorem X1s{w:Str}{es:Exs}{e:Expr}(h:(Qf0.any λz=>QP0.any λx=>decide (x=w)&&glB sc x&&mts cm fns gns sc N es QS)=yx):∃p y ys L,e=.Call (.Name w p) Q8 [] L/\glB sc w=yx/\mts cm fns gns sc N es Q8=true:=by obtain⟨x,p,y,ys,L,rfl,h1⟩:=Xcd h;rw[bA0,bA0]at h1;have e1:x=w:=oD0 h1.1.1;subst e1;exact⟨p,y,ys,L,rfl,h1.1.2,h1.2⟩
theorem X3v(h:mtI cm fns gns sc N Qh6 e=yx):∃p y ys L,e=.Call (.Name "enumerate" p) Q8 [] L/\glB sc "enumerate"=yx/\mts cm fns gns sc N es Q8=true:=by exact X1s h
theorem X3w(h:mtI cm fns gns sc N Qa6 e=yx):∃p y ys L,e=.Call (.Name "range" p) Q8 [] L/\glB sc "range"=yx/\mts cm fns gns sc N es Q8=true:=by exact X1s h
theorem X9k{f:Ex}{es:Exs}{e:Expr}(h:mt cm fns gns sc N (.cal f es) e=yx):∃L y ys cp,e=.Call L Q8 [] cp/\cm=yx/\Xy1 L=yx/\mt cm fns gns sc N f L=yx/\mts cm fns gns sc N es Q8=true:=by obtain⟨⟨L,y,ys,cp⟩,h1,h2⟩:=any_some h;have e1:=Xgu h1;subst e1;rw[bA0,bA0,bA0]at h2;exact⟨L,y,ys,cp,rfl,h2.1.1.1,h2.1.1.2,h2.1.2,h2.2⟩
theorem X9l{a:Ex}{e:Expr}(h:mt cm fns gns sc N (.rev a) e=yx):∃x y p,e=.Subscript x y p/\Xoh 1 yy y=yx/\mt cm fns gns sc N a x=true:=by obtain⟨⟨x,y⟩,h1,h2⟩:=any_some h;obtain⟨p,rfl⟩:=Xc0 h1;rw[bA0]at h2;exact⟨x,y,p,rfl,h2.1,h2.2⟩
theorem Xja{top:Str->Bool}{tg:Expr}(h1:Xfp t it=yx)(h2:mtT top sc N t tg=yx)(h3:Xs5 it=yx):∃es k p,tg=.Tuple es k p:=by
 unfold Xfp at h1;rw[h3]at h1;cases t with
 |var i=>cases h1|tup is=>simp only[mtT]at h2;obtain⟨es,L,_⟩:=any_some h2;obtain⟨k,p,rfl⟩:=Xcz L;exact⟨es,k,p,rfl⟩
universe e
noncomputable def blts:LS:=["len","tuple","list","all","any","sum","max","min","range","isinstance","sorted","set","str","repr","zip","enumerate","abs","ValueError","int","bool","dict"]
noncomputable def bmV:LV:=[.type "ValueError",.type "Exception",.type "BaseException",.type "object"]
noncomputable def Xy2:Data->Option ClassData
 |.cls L=>yz L|_=>yy
theorem X3x{d:Data}{cd:ClassData}(h:Xy2 d=yz cd):d=.cls cd:=by cases d<;>cases h<;>rfl
noncomputable def Xol(K:Ve)(C:Addr):Bool:=match K.lookup C with
 |none=>yw|some o=>match Xy2 o.data with
  |none=>yw|some L=>o.cls == .type "type" && L.mro == .ref C::L.mro.tail&&o.slots == #[o.slots.getD 0 yy,o.slots.getD 1 yy,o.slots.getD 2 yy,o.slots.getD 3 yy,yz (.builtin "ValueError.__new__"),o.slots.getD 5 yy] && !L.hasDel&&PySem.W.tailIn K bmV L.mro.tail&&PySem.W.nsOkIn K L.ns&&Vac K L.ns "__init__" == yz yy
noncomputable def Xy3(K:Ve):Bool:=
 (K.lookup Vb0).isSome&&PySem.W.specialIn K QG "__get__" == yz Qa5&&PySem.W.takesIn K QG==yz yx &&
 QX3.all λc=>match Xai K c with
  |some C=>Xol K C&&(Vfw K QA0 "__getattribute__" == yz QW&&Vfw K QA0 "__getattr__" == yz yy&&PySem.W.mroIn K C Qz==yz yx)&&Qj3.isSome&&Vfw K QA0 "__class__" == yz Qb5&&PySem.W.mroIn K C Q41==yz yx &&
   Vg4 K QA0 QZ3==yz yx&&QX3.all λc0=>match Xai K c0 with
    |some L=>Vg4 K QA0 QH1==yz QQ1&&(! QQ1||PySem.W.exmOne K QA0 QH1==yz yx)|none=>yx
  |none=>(Xbv c).isNone
structure ErrOk(K:Ve):Prop where
 sm:∃o,K.lookup Vb0=yz o
 gt:PySem.W.specialIn K QG "__get__"=yz Qa5
 tk:PySem.W.takesIn K QG=yz yx
 at_:∀c nm,Xbv c=yz nm->∃C,Xai K c=yz C/\Vac K Um nm=yz (yz QA0)
 cls:∀c C,Xai K c=yz C->Xol K C=yx/\(Vfw K QA0 "__getattribute__"=yz QW/\Vfw K QA0 "__getattr__"=yz yy/\PySem.W.mroIn K C Qz=yz yx)/\Qj3.isSome=yx/\Vfw K QA0 "__class__"=yz Qb5/\PySem.W.mroIn K C Q41=yz yx/\Vg4 K QA0 QZ3=yz yx
 sub:∀c C c0 C0,Xai K c=yz C->Xai K c0=yz C0->Vg4 K QA0 Qd6=yz QQ1/\(QQ1=yx->PySem.W.exmOne K QA0 Qd6=yz yx)
theorem Xh8{K:Ve}{c:Nat}{C:Addr}(h:Xai K c=yz C):c<ll clsNames:=by
 unfold Xai at h;cases q:Xbv c with
 |none=>rw[q]at h;cases h|some _=>exact Xnp q
theorem X3y{K:Ve}(h:Xy3 K=yx):ErrOk K:=by
 simp only[Xy3,bA0,beq_iff_eq,Vag,Va6]at h;obtain⟨⟨⟨h0,h1⟩,h2⟩,h3⟩:=h;refine⟨Vch.mp h0,h1,h2,λc nm e=>?_,λc C e=>?_,λc C c0 C0 e e0=>?_⟩
 ·have:=h3 c (Xnp e);split at this
  ·rename_i C q;refine⟨C,q,?_⟩;unfold Xai at q;rw[e,V1]at q;split at q;·rename_i q2;cases q;exact q2
   ·cases q
  rw[e]at this;cases this
 ·have:=h3 c QB7;rw[e]at this;simp only[bA0,beq_iff_eq]at this;obtain⟨⟨⟨⟨⟨⟨a1,⟨⟨a2,aa⟩,L⟩⟩,a3⟩,a4⟩,a5⟩,a6⟩,_⟩:=this;exact⟨a1,⟨a2,aa,L⟩,a3,a4,a5,a6⟩
 have:=h3 c QB7;rw[e]at this;simp only[bA0,beq_iff_eq,Vag,Va6]at this;have z:=this.2 c0 (Xh8 e0);rw[e0]at z;simp only[bA0,beq_iff_eq,Vcb,Vbf]at z;refine⟨z.1,λy=>?_⟩;rcases z.2 with z2|z2;·rw[y]at z2;cases z2
 ·exact z2
universe Z
universe e
section
namespace Z
open PySem PySem.Spec PySem.Calls PyProof.Rows L2 PySem.W Builtin Builtin.ObjectAttr Builtin.Getset_descriptor
section
variable{prog:Ue}{w:Uy}{A:U7}{E:VP}{K:Frag}{y D:Addr}
theorem Xc9(e:ExcO D y h):Looks M h (typeOf QK2) Q40:=by obtain⟨ob,_,_,q,L,_⟩:=e;exact L▸(Looks.ld q).andThen .now
theorem X3z {R:Result->Vc->Prop} (L:K.In s.heap) (e:ExcO D y s.heap) (mo:mroIn K D Q41=yz yx) (q:R (.ok (.ret Q40)) s):
  Vdh Q7 A (.call Qk ⟨[.builtin "object.__class__",.ref y,tv],[]⟩) R s:=by
 obtain⟨hp,gn,dw,tk,os⟩:=s;have T0:=Xc9 (M:=Vk prog w) e;have T1:=looks_mroIn (M:=Vk prog w) L mo;refine codeAny_call_builtin KF.slot_gs.plain KF.entry_gs (KF.slot_gs.check _ _ _ _ _ _ _ _ KF.type_class (KF.args_gs _ _ _) ?_);unfold Vbt.«getset_descriptor.__get__» descrGet;rw[dga_obj];refine Va Qm;unfold descrGetter descrCheckInstance descrNameAndClass isInstance;simp only[KF.owner_class]
 repeat lk
 refine⟨Code.quiet_builtin _ QU,Vd3 KF.entry_class ?_⟩;unfold Vbt.«object.__class__» shownTypeOf
 repeat lk
 exact q
theorem Xy4 (L:K.In h) (h1:findIn K Q40 nm=yz QZ4) (h2:specialIn K v "__get__"=yz Qa4) (h3:takesIn K v=yz yx):Looks M h (find QK2 Q40 nm) (.bind g v):=by have a1:=looks_findIn (M:=M) L h1;have a2:Looks M h (getOf QZ4) Qa4:=looks_specialIn L h2;have a3:=looks_takesIn (M:=M) L h3;exact a1.andThen (a2.andThen ((show Looks M h (dataDescriptor? QZ4 Qa4) (yz (g,v)) from a3.andThen .now).andThen (Looks.tag .now)))
theorem Xvq (L:K.In s.heap) (e:ExcO D y s.heap) (h1:findIn K Q40 nm=yz QZ4) (h2:specialIn K v "__get__"=yz Qa4) (h3:takesIn K v=yz yx)
  (z:Vh Q7 A Qk0 (λr s1=>Q (.done (.ret r)) s1) E s):
  Vh Q7 A (Vbt.«object.__getattribute__» ⟨[.ref y,.str nm tk],[]⟩) Q E s:=by
 obtain⟨hp,gn,dw,t0,os⟩:=s;have T0:=Xc9 (M:=Vk prog w) e;have T1:=Xy4 (M:=Vk prog w) (y:=y) L h1 h2 h3;unfold Vbt.«object.__getattribute__»;refine Va Qm;refine Va Qm;refine Va Q43;show Vh Q7 A (Vge [v] Qk0 >>= ret) _ _ _;exact Va (Vak (Vp z (λr s1 q=>Vf q) λ_ _ q=>q))
theorem Xvr (L:K.In s.heap) (e:ExcO D y s.heap) (hm:mroIn K D Qz=yz yx) (q:Q () s):
  Vh Q7 A (checkBuiltinCall "BaseException.__getattribute__" ⟨[.ref y,nv],[]⟩) Q E s:=by
 obtain⟨hp,gn,dw,t0,os⟩:=s;have T0:=Xc9 (M:=Vk prog w) e;have T3:=looks_mroIn (M:=Vk prog w) L hm;have kd:builtinKind "BaseException.__getattribute__"=yz .slot:=by decide+kernel
 have sp:splitId "BaseException.__getattribute__"=yz ("BaseException","__getattribute__"):=by decide+kernel
 have ao:=PySem.F.args_bexc_ga QK2 nv;simp only[checkBuiltinCall,kd,sp];unfold isInstance;refine Va (Va (T0.at (T3.at ?_)));rw[iN0 QA];exact wpAny_of_eq ao q
theorem Xy5 (L:K.In s.heap) (e:ExcO D y s.heap) (ga:findIn K Q40 "__getattribute__"=yz QW) (gn:findIn K Q40 "__getattr__"=yz yy)
  (hm:mroIn K D Qz=yz yx) (h1:findIn K Q40 nm=yz QZ4) (h2:specialIn K v "__get__"=yz Qa4) (h3:takesIn K v=yz yx) (hh:handedIn Q40=yx)
  (z:∀A':U7,Vh Q7 A' Qk0 (λr s1=>r=.ref D/\Q (yz Q40) s1) Q70 {s with toks:=s.toks+1}):
  Vh Q7 A (getAttr? QK2 nm) Q E s:=by
 obtain⟨hp,gs,dw,tk,os⟩:=s;have T0:=Xc9 (M:=Vk prog w) e;have T1:=looks_findIn (M:=Vk prog w) L ga;have T2:=looks_findIn (M:=Vk prog w) L gn;have T3:=looks_mroIn (M:=Vk prog w) L hm;unfold getAttr? getAttrBy? getAttrBy;refine Va (wpAny_mkText (Va (Vga (Vak (Va Q43)))));have aa:(onTheHeap (Vcg D)&&Vhk "BaseException.__getattribute__" == Vhk "object.__getattribute__")=false:=by
  have:(Vhk "BaseException.__getattribute__" == Vhk "object.__getattribute__")=false:=by decide+kernel
  rw[this,Vgz]
 dsimp only;rw[iN0 (by rw[aa];exact U5)];unfold getAttrByItsOwn hookBefore;rw[iP0 (by rfl)];refine Va (T2.at (Va (Vga Qw6)));unfold callGetattribute boundAndCalled;rw[iN0 Qb];have f3:=PySem.F.excAttr_ValueError.ga.bind QK2;rw[f3];refine Va Qm;refine wpAny_call (codeAny_call_builtin PySem.F.excAttr_ValueError.ga.plain PySem.F.entry_bexc_ga (Xvr (s:=QS3) L e hm ?_));refine Xvq (s:=QS3) L e h1 h2 h3 (Vp (z _) (λr s1 q=>?_) λ_ _ q=>q.elim);obtain⟨rfl,q⟩:=q;exact handed_on hh QP7
theorem Xy6 (p1:findIn K Q40 "__getattribute__"=yz QW) (p0:findIn K Q40 "__getattr__"=yz yy) (p7:mroIn K D Qz=yz yx) (p2:(clsIn K D).isSome=yx) (p3:findIn K Q40 "__class__"=yz Qb5)
  (p4:specialIn K QG "__get__"=yz Qa5) (p5:takesIn K QG=yz yx) (p6:mroIn K D Q41=yz yx):KitX K QK2 Q40 (ExcO D y) where
 ty:=λ_ _ _ e=>Xc9 e
 it:=λ_ _ L _=>by
  unfold clsIn at p2;split at p2;·rename_i lk;intro B Q' E' s' k q;unfold isType loadHead;exact Va (wpAny_loadPart (k _ _ (L _ _ lk)) QP7)
  ·cases p2
 ne:=λhp tp dd its n sl L ht=>by
  refine Bool.eq_false_iff.mpr λq=>?_;have q':D=tp:=Value.ref.inj (beq_iff_eq.mp q);subst q';unfold clsIn at p2;split at p2;·rename_i lk;cases (L _ _ lk).symm.trans ht
  ·cases p2
 ca:=λ{prog w B E' Q' s'} L e k=>Xy5 L e p1 p0 p7 p3 p4 p5 rfl λA'=>wpAny_call (X3z (s:={s' with toks:=s'.toks+1}) L e p6 ⟨rfl,k⟩)
universe e
universe Z
universe e
section
namespace Z
open PySem PySem.Spec PyProof.Rows L2
noncomputable def Xfr:Ty->Option (Str×String)
 |.int=>yz ("int","int")|.bool=>yz ("bool","bool")|.str=>yz ("str","str")|.tuple=>yz ("tuple","tuple")|.list=>yz ("list","list")|.dict=>yz ("dict","dict")|_=>yy
noncomputable def Xom:Kd->Option String
 |.non=>yz "NoneType"|.bool=>yz "bool"|.int=>yz "int"|.str=>yz "str"|.tuple=>yz "tuple"|.list=>yz "list"|.dict=>yz "dict"|.exc _=>yy
theorem Xvs(h:Xfr t=yz Q26):Veo nm=yz Qj1:=by cases t<;>simp only[Xfr,Vr,Vd8,reduceCtorEq]at h<;>obtain⟨rfl,rfl⟩:=h<;>decide+kernel
theorem Xy7(h:Xfr t=yz Q26):nm∈blts:=by cases t<;>simp only[Xfr,Vr,Vd8,reduceCtorEq]at h<;>obtain⟨rfl,rfl⟩:=h<;>decide
theorem X30(L:Xfr t=yz Q26)(hk:Xom k=yz U)(h:isT k t=yz b)(K:Ve):Vg4 K QZ6 Qj1=yz b:=by cases k<;>simp only[Xom,Vr,reduceCtorEq]at hk<;>subst hk<;>cases t<;>simp only[Xfr,Vr,Vd8,reduceCtorEq]at L<;>obtain⟨rfl,rfl⟩:=L<;>simp only[isT,tyQ,Vr]at h<;>subst h<;>kernel_rfl
section
variable{X:Cx}{pc:LA}{σ:L2.St}{H:Hp}{s:Vc}{ρ:LR}{S:Sto}{env:En}{a:Expr}{fa:En->Sto->R D}{pos:Pos}
theorem Ydc(I:S0 X pc σ H s ρ S env)(h:kdD S d=yz k)(L:Xom k=yz U)(rd:RD X.K ρ H d v)(rv:RelV v u):
  ∃P:Heap->Prop,PySem.W.KitX X.K u QZ6 P/\P s.heap/\u≠.builtin "__main__.__loader__#opaque":=by
 cases d with
 |non=>cases h;cases L;simp only[RD]at rd;subst rd;cases rv;exact⟨_,PySem.W.kitx_none,trivial,λz=>nomatch z⟩|bl b=>cases h;cases L;simp only[RD]at rd;subst rd;cases rv;exact⟨_,PySem.W.kitx_bool,trivial,λz=>nomatch z⟩|int i=>cases h;cases L;simp only[RD]at rd;subst rd;obtain⟨t,rfl⟩:=rv;exact⟨_,PySem.W.kitx_int,trivial,λz=>nomatch z⟩|str x=>cases h;cases L;simp only[RD]at rd;subst rd;obtain⟨t,rfl⟩:=rv;exact⟨_,PySem.W.kitx_str,trivial,λz=>nomatch z⟩|tup xs=>cases h;cases L;simp only[RD]at rd;obtain⟨p,vs,rfl,hq,_⟩:=rd;cases rv;obtain⟨its,_,pl,_⟩:=I.inv.tuple hq;obtain⟨o,h1,h2,_⟩:=pl;exact⟨_,PySem.W.kitx_tuple,QX5,λz=>nomatch z⟩|fro xs=>cases h;cases L;simp only[RD]at rd;obtain⟨p,vs,rfl,hq,_⟩:=rd;cases rv;obtain⟨its,_,pl,_⟩:=I.inv.list hq.sq;obtain⟨o,n,h1,h2,_⟩:=pl;exact⟨_,PySem.W.kitx_list,QX5,λz=>nomatch z⟩|fn _ _=>cases h|ref n=>
  simp only[kdD]at h;simp only[RD]at rd;obtain⟨p,rfl,hp⟩:=rd;cases rv;split at h;·rename_i xs e;cases h;cases L;obtain⟨vs,hv,_⟩:=I.sr.ob n p _ hp e;obtain⟨_,its,n',_,h1⟩:=(show ObjOk X.prog X.w H s.heap p QQ3 from I.inv.hok p _ hv);exact⟨_,PySem.W.kitx_list,⟨_,h1,rfl⟩,λz=>nomatch z⟩
  ·rename_i xs e;cases h;cases L;obtain⟨_,hv⟩:=(show(([]:List QS2)=[]/\H p=yz Q63)\/_ from I.sr.ob n p _ hp e).resolve_right λz=>z.1 rfl;obtain⟨_,_,vs,_,o,es,ep,h1,h2,_⟩:=(show ObjOk X.prog X.w H s.heap p Q63 from I.inv.hok p _ hv);exact⟨_,PySem.W.kitx_dict,⟨o,h1,h2.1⟩,λz=>nomatch z⟩
  ·cases h;cases L
  cases h
theorem Xeb (ht:Xfr t=yz Q26) (hb:∀x∈blts,X.mg x=yy) (ac:Gl X "isinstance") (hg:Gl X nm) (hok:Xa3 nm=yx) (ha:DE X a fa) (aa:Yc a=yx):
  DE X Qn QH:=by
 intro pc s σ H ρ S env I nb;dsimp only at nb ⊢;obtain⟨o1,_,o3⟩:=Xbd hok;refine Vbx (Xaw I.inv ac Qg4 (u:=.builtin "isinstance") QU ?_);refine Vdf ?_ Q87 rfl;rw[Xq aa];generalize hr:Qs=r at nb ⊢;refine Vc6 (ha.bind I QX1 hr.symm (λd S1 u s1 v H1 af e1 ab I1 rv rd ae=>?_) λ_ _ z=>z);refine Vc6 (Xaw I1.inv hg (hb _ (Xy7 ht)) (Xvs ht) ?_ o3 o1);refine Vfj ?_;cases q:Q36.bind λk=>Xam k [t] with
 |none=>rw[q]at ab;cases ab rfl|some b=>
  obtain⟨k,q1,L⟩:=Van.mp q;have q3:isT k t=yz b:=by
   unfold Xam at L;cases e:isT k t with
   |none=>rw[e]at L;cases L|some c=>rw[e]at L;cases c<;>simp[Xam]at L<;>rw[L]
  rw[e1,q];cases hU:Xom k with
  |none=>cases k<;>simp only[Xom,reduceCtorEq]at hU;cases t<;>simp only[Xfr,reduceCtorEq]at ht<;>simp only[isT,tyQ,reduceCtorEq]at q3|some U=>obtain⟨P,k1,k2,k3⟩:=Ydc I1 q1 hU rd rv;exact PySem.W.kia_one k1 I1.inv.kIn k2 (X30 ht hU q3 X.K) k3 λtk=>OkP.pre ae (Xo I1.sr (I1.inv.tok tk))
theorem Xvt (er:ErrOk X.K) (ht:(∃c,t=.cls c/\Xbv c=yz nm)\/(t=.valueError/\nm="ValueError")) (hb:∀x∈blts,X.mg x=yy) (ae:Gl X "isinstance") (hg:Gl X nm) (hok:Xa3 nm=yx) (ha:DE X a fa) (aa:Yc a=yx):
  DE X Qn QH:=by
 intro pc s σ H ρ S env I nb;dsimp only at nb ⊢;obtain⟨o1,_,o3⟩:=Xbd hok;refine Vbx (Xaw I.inv ae Qg4 (u:=.builtin "isinstance") QU ?_);refine Vdf ?_ Q87 rfl;rw[Xq aa];generalize hr:Qs=r at nb ⊢;refine Vc6 (ha.bind I QX1 hr.symm (λd S1 u s1 v H1 af e1 ab L rv rd ac=>?_) λ_ _ z=>z)
 /- the value is an error -/
 cases q:Q36.bind λk=>Xam k [t] with
 |none=>rw[q]at ab;cases ab rfl|some b=>
  rw[e1,q];obtain⟨k,q1,q2⟩:=Van.mp q;have q3:isT k t=yz b:=by
   unfold Xam at q2;cases e:isT k t with
   |none=>rw[e]at q2;cases q2|some c=>rw[e]at q2;cases c<;>simp[Xam]at q2<;>rw[q2]
  obtain⟨c',rfl⟩:∃c',k=.exc c':=by rcases ht with⟨c,rfl,_⟩|⟨rfl,_⟩<;>cases k<;>first|exact Ql|(simp only[isT,tyQ,reduceCtorEq]at q3)
  obtain⟨n,rfl,hS⟩:∃n,d=.ref n/\S1[n]?=yz (.exc c'):=by
   cases d with
   |ref n=>
    refine⟨n,rfl,?_⟩;simp only[kdD]at q1;split at q1;·cases q1
    ·cases q1
    ·rename_i c2 e;cases q1;exact e
    cases q1|_=>cases q1
  simp only[RD]at rd;obtain⟨p,rfl,hp⟩:=rd;cases rv;obtain⟨C,hC,hH⟩:=(show ∃C,Xai X.K c'=yz C/\H1 p=yz QI4 from L.sr.ob n p _ hp hS);obtain⟨_,⟨b1,b2,b3⟩,a3,a4,a5,a6⟩:=er.cls c' C hC;have hE:ExcO C p s1.heap:=(show ObjOk X.prog X.w H1 s1.heap p QI4 from L.inv.hok p _ hH).1;have kx:=Xy6 (y:=p) b1 b2 b3 a3 a4 er.gt er.tk a5;rcases ht with⟨c,rfl,hc⟩|⟨rfl,rfl⟩
  ·obtain⟨C0,h1,h2⟩:=er.at_ c nm hc;have e3:b=(c==0||c==c'):=by simp only[isT,Vr]at q3;exact q3.symm
   subst e3;refine Vc6 (Xd5 L.inv hg (Vdl L.inv.mod.kin L.inv.mod.glob h2) Qu6 o1);exact PySem.W.kia_one kx L.inv.kIn hE (er.sub c' C c C0 hC h1).1 QM2 λtk=>OkP.pre ac Qm2
  have e3:b=true:=by simp only[isT,Vr]at q3;exact q3.symm
  subst e3;refine Vc6 (Xaw L.inv hg Qg4 (u:=.type "ValueError") QU Qu6 o3 o1);exact PySem.W.kia_one kx L.inv.kIn hE a6 QM2 λtk=>OkP.pre ac Qm2
universe e
theorem Xon(I:Inv X pc σ H s):Vb0<s.heap.objs.size:=by have L:=(I.mod.glob.keeps I.bk).lt;exact Uh (show Vb0<Um from by decide) (Vc9 L)
theorem d_dct0:DE X (.Dict [] [] pos) (λ_ S=>.ok Qc0 (S++[.dct []])):=by
 intro pc s σ H ρ S env I _;have L:H s.heap.objs.size=none:=I.inv.hok.fresh Q90;have hb:=Xon I.inv;have new:ObjOk X.prog X.w (upd H s.heap.objs.size Q63) Q52 s.heap.objs.size Q63:=
  ⟨Ub _,beq_eq_false_iff_ne.mpr Q51,[],.nil,Heap.DictOf.new s.heap⟩
 have J:=I.inv.laid (t':=s.toks) Q64 Q90 new;refine wpAny_Dict_empty ?_;refine .mk (v:=.ref s.heap.objs.size) (ρ':=ρ++[s.heap.objs.size]) (Stp.new1 L) J rfl ?_ (I.sr.new1 (o:=.dct []) L Qn3);simp only[RD];exact⟨_,rfl,by rw[<-I.sr.len];simp⟩
noncomputable def prD(p:LI×D):D:=.tup [.tup (p.1.map D.int),p.2]
theorem Xmc:∀ {xs:LD} {ps:List QS2},Xfg xs=yz ps->xs=ps.map prD
 |[],_,h=>by cases h;rfl|x::xs,ps,h=>by
  unfold Xfg at h;split at h;·rename_i e;cases e
  ·rename_i ks v r e;cases e;cases L:Xi ks with
   |none=>rw[L]at h;cases h|some k=>rw[L]at h;simp only[Ud]at h;obtain⟨qs,h1,rfl⟩:=h;rw[Xmc h1,Xss L];rfl
  cases h
section
variable{X:Cx}{pc:LA}{σ:L2.St}{H:Hp}{s:Vc}{ρ:LR}{S S':Sto}{env:En}{E:VP}
theorem Xrd(I:Inv X pc σ H s):∀ {ps:List QS2} {vs:LW} {its:LV},RDs X.K ρ H (ps.map prD) vs->Vals vs its->∃(L:List QI0) (raw:List QQ),RX L raw/\DX X.K ρ H ps L/\Q35=ll its /\
  (∀x∈raw,(tkd X.prog X.w).is s.heap x.1 x.2.1)/\∀(i:Nat) p,raw[i]?=yz p->∃b,its[i]?=yz Q24/\s.heap.IsTuple b #[.ref p.2.1,p.2.2]
 |[],vs,its,r,q=>by simp only[Vbq,RDs]at r;subst r;cases q;exact⟨[],[],.nil,.nil,rfl,λ_ z=>(nomatch z),λi p e=>by simp at e⟩|p::ps,vs,its,r,q=>by
  simp only[Ua,RDs]at r;obtain⟨v,r',rfl,r1,r2⟩:=r;cases q with
  |@cons _ u _ us q1 q2=>
   obtain⟨L,raw,h1,h2,h3,h4,h5⟩:=Xrd I r2 q2;simp only[prD,RD]at r1;obtain⟨b,ws,rfl,hs,hr⟩:=r1;cases q1;obtain⟨zs,z1,z2,_⟩:=I.tuple hs;simp only[RDs,RD]at hr;obtain⟨v1,t1,rfl,⟨kb,ks,rfl,hk,aa⟩,v2,t2,rfl,rd,rfl⟩:=hr;rw[aa.ints_of]at hk;cases z1 with
   |@cons _ u1 _ ab y1 y2=>
    cases y2 with
    |@cons _ u2 _ ac y3 y4=>
     cases y4;cases y1;refine⟨(p.1,kb,v2)::L,(p.1,kb,u2)::raw,.cons ⟨rfl,rfl,y3⟩ h1,.cons ⟨rfl,hk,rd⟩ h2,by simp[h3],λx hx=>?_,λi pp e=>?_⟩
     ·rcases V0.mp hx with z|hx;·rw[z];exact Xgq I hk
      ·exact h4 x hx
     cases i with
     |zero=>cases e;exact⟨b,rfl,z2⟩|succ i=>exact h5 i pp (by simpa using e)
theorem Xkt:∀ {ps:List QS2} {L:List QI0} {kvs:List QS2} {a:List QI0},DX X.K ρ H ps L->DX X.K ρ H kvs a->DX X.K ρ H (ps.foldl Qu kvs) Qw4
 |_,_,_,_,.nil,h=>h|_,_,_,_,.cons (a:=p) (b:=q) r t,h=>by rw[Vbv,Vbv];have z:=X7u h r.2.1 r.2.2;rw[r.1]at z ⊢;exact Xkt t z
theorem Xku:∀ {L:List QI0} {raw:List QQ} {a:List QI0} {b:List QQ},RX L raw->RX a b->RX Qw4 (raw.foldl Xaf b)
 |_,_,_,_,.nil,h=>h|_,_,_,_,.cons (a:=p) (b:=q) r t,h=>by rw[Vbv,Vbv];have z:=X7v (k:=p.1) (b:=p.2.1) h r.2.2;refine Xku t ?_;unfold Xaf;rw[<-r.1,<-r.2.1];exact z
theorem Xoo:∀(ps kvs:List QS2),ps≠[]\/kvs≠[]->ps.foldl Qu kvs≠[]
 |[],kvs,h=>by rcases h with h|h;cases h rfl;exact h
 |p::ps,kvs,_=>Xoo ps _ (.inr Xyf)
theorem Ydd {a:Expr} {f:En->Sto->R D} {p0 pos:Pos} (hu:X.A.units+200<Vbh) (hc:X.calm=yx) (hg:Gl X "dict") (hm:X.mg "dict"=yy) (ha:DE X a f) (hs:Ui [a] X.env=Q22::Ui [] X.env):
  DE X (.Call (.Name "dict" p0) [a] [] pos) (λenv S=>QQ0.bind λx S=>Xno x S):=by
 intro pc s σ H ρ S env I nb;dsimp only at nb ⊢;refine Vbx (Xaw I.inv hg hm (u:=.type "dict") QU Qp2 QA rfl);refine ha.bind I nb rfl (λd S1 u s1 v H1 ab e1 L I1 rv rd ai=>Vem ?_) λ_ _ z=>z;rw[e1];cases d with
 |ref n=>
  simp only[Xno]at L ⊢;cases e:Xc S1 n with
  |none=>rw[e]at L;cases L rfl|some xs=>
   rw[e]at L;simp only[V1]at L ⊢;cases e2:Xfg xs with
   |none=>rw[e2]at L;cases L rfl|some ps=>
    rw[e2]at L;dsimp only at L ⊢;split at L
    ·rename_i hz;rw[iP0 hz];have q:=Xmc e2;subst q;obtain⟨b,ws,rfl,_,hv,hr⟩:=I1.lstR e rd;obtain⟨aj,its,c,ac,eo⟩:=(show ObjOk X.prog X.w H1 s1.heap b QV2 from I1.inv.hok b _ hv);cases rv;obtain⟨xv,aa,h1,h2,h3,h4,h5⟩:=Xrd I1.inv hr ac;have ln:Qn0=ll ps:=by rw[<-ac.length,<-hr.length,Vg]
     refine Xsx (s:=s1) (items:=its.toArray) (raw:=aa) QJ QH4 eo (by simpa using h3) (by rw[Vo,ln];exact hz) h4 (λi p hp=>by obtain⟨b,z1,z2⟩:=h5 i p hp;exact⟨b,by simpa using z1,z2⟩) λh' tk D kp=>OkP.pre ai ?_;have hp:H1 s1.heap.objs.size=none:=I1.inv.hok.fresh Q90;have hb:=Xon I1.inv;have nm:(s1.heap.objs.size==Vb0)=false:=beq_eq_false_iff_ne.mpr Q51;obtain⟨o,es,ep,ho,hx,hd,he,af⟩:=D;have fin:∀u:HO,ObjOk X.prog X.w QD2 h' s1.heap.objs.size u->OR X.K (ab++Q44) QD2 s1.heap.objs.size (.dct QN4) ->
       OkP X pc σ ab H1 (.ok Qy4 (S1++[.dct QN4])) Qr2 {s1 with heap:=h',toks:=tk}:=λu new ae=>by
      have J:=I1.inv.laid (t':=tk) kp Q90 new;refine .mk (v:=.ref s1.heap.objs.size) (ρ':=ab++Q44) QB5 J rfl ?_ (I1.sr.new1 hp ae);simp only[RD];exact⟨_,rfl,by rw[<-I1.sr.len];simp⟩
     have rx:=Xku h1 (a:=[]) (b:=[]) .nil;have dx:=Xkt (kvs:=[]) (a:=[]) h2 .nil;cases ps with
     |nil=>cases h2;cases h1;refine fin Q63 ⟨Ub _,nm,[],.nil,o,es,ep,ho,hx,hd,?_⟩ Qn3;have ah:es=#[]:=Vht.mp (he X.prog X.w);subst ah;exact⟨λx hx=>by simp at hx,.nil,Vg2⟩|cons p ps=>
      have lx:QM4.length<=V3:=by rw[Vdk rx];refine V2 (Xc8 aa []) ?_;rw[h3,ln,Vcz];show 0+_<=_;omega
      refine fin (.ext (DicO s1.heap.objs.size QM4)) (DicO.ok ⟨o,ho,nm,lx,hx,_,es,ep,rx,hd,λP w=>he P w,af⟩) (.inr ⟨Xoo _ _ (.inl Qb),_,Xl,dx.mono QB5.toMon⟩)
    cases L rfl
 |_=>cases L rfl
theorem Yde{ng:Bool}(hu:X.A.units+1<Vbh):Op2 X (Vbc Qp) (Xkf ng):=by
 intro pc s σ H ρ S env x y v u v' u' E I L rx rv ry ru;unfold Xkf at L ⊢;cases y with
 |ref n=>
  cases x with
  |tup ks=>
   dsimp only at L ⊢;cases e1:Xbu S n with
   |none=>rw[e1]at L;cases L rfl|some kvs=>
    rw[e1]at L;dsimp only at L ⊢;cases e2:Xi ks with
    |none=>rw[e2]at L;cases L rfl|some r=>exact X8g hu I e1 e2 rx rv ry ru
  |_=>cases L rfl
 |_=>cases L rfl
theorem X9m{ng:Bool}(x y:D)(S:Sto)(d:D)(S':Sto)(h:Xkf ng x y S=.ok d S'):∃r,d=.bl r:=by
 unfold Xkf at h
 repeat' split at h
 all_goals first|(cases h;exact Ql)|cases h
variable{prog:Ue}{w:Uy}{A:U7}
theorem Xta{d b:Addr}{ys:List QQ}{k:LI}{v:Vb}{Q:Unit->Vc->Prop}(hu:A.units<Vbh)(hk:Q6.is s.heap k b)(hm:s.heap.DictOfH Q6 d ys)(hz:Qd4<=V3)
  (hQ:∀h',h'.DictOfH Q6 d (storedH ys k b v)->Va2 d s.heap h'->Q () QM0):Vh Q7 A (dictSetHashed d Q24 (Q6.hash k) v) Q E s:=by
 obtain⟨o,es,ep,a1,a2,a3,a4,a5,L⟩:=hm;have sz:=size_of_entries a4;unfold dictSetHashed
 try with_reducible refine Vak ?_
 refine Va (wpAny_dictFind_heap (knd:=tkd prog w) hu hk a1 a3 a4 a5 L (λno=>?_) λj p hj=>?_)
 ·have nm:=not_mem_keys_of_get no;have sn:=storedH_new (a:=b) (v:=v) (atKey_none_of_get no);refine Va (Vba (wpAny_updateDictKeys (hz:=by omega) a1 a3 Qe1));rw[sn];refine⟨_,_,ep+1,Vbb _ a1 QT4,a2.mapDictKeys _,Vf4 a3 _,by simp[a4,Vdw],λx hx=>?_,?_⟩
  ·rcases V9.mp hx with z|z;·exact Q6.keeps (a5 x z) a1 a3 Qh1
   ·rw[V6.mp z];exact Q6.keeps hk a1 a3 Qh1
  rw[Vav,Veg];refine⟨L,by simp,λx hx y hy e=>nm ?_⟩;rw[Ua,Vbq,V6]at hy;rw[e,hy]at hx;exact hx
 ·have so:=storedH_old (a:=b) (v:=v) (atKey_of_get L hj);refine Va (Vba (Va (wpAny_updateDict a1 a3 (wpAny_point Qe1))));rw[so];refine⟨_,_,ep,Vbb _ a1 (Vig (Obj.data_mapDict a3 _)),a2.mapDict _,Obj.data_mapDict a3 _,?_,λx hx=>?_,?_⟩;·have:=modify_map_putAt Qv6 (λe:DictEntry=>{e with val:=v}) k v (λ_ _=>rfl) L hj;rw[<-a4]at this;obtain⟨l⟩:=es;simpa using this
  ·obtain⟨y,hy,rfl⟩:=Uc.mp hx;unfold putAt;split<;>exact Q6.keeps (a5 y hy) a1 a3 Qh1
  rw[keys_map_putAt];exact L
theorem Xop:∀ {l:LI} {x:Int},l.Nodup->(l.filter Q27).length<=1
 |[],_,_=>by simp|a::l,x,h=>by
  obtain⟨h1,h2⟩:=Ve1.mp h;rw[List.filter_cons];split
  ·rename_i e;have L:a=x:=by simpa using e
   have:l.filter Q27=[]:=Vhf.mpr λy hy z=>h1 (by rw[L,<-(by simpa using z:y=x)];exact hy);rw[this];simp
  exact Xop h2
theorem X31{nm:String}{o:Addr}{oo:Obj}{es:Array DictEntry}{ep:Nat}{more:List QQ}{Q:Array DictEntry->Vc->Prop}(ho:s.heap.get? o=yz oo)(hd:oo.data=.dict es ep)
  (he:es.toList=more.map Qv6) (hk:∀x∈more,Q6.is s.heap x.1 x.2.1) (nh:QK0.Nodup) (hQ:Q es s):Vh Q7 A (Vin nm o) Q E s:=by
 unfold Vin;refine Va (Vfl ho hd ?_);refine Va ?_;rw[<-Array.forIn_toList];refine Vhr _ (λrest _ s'=>s'=s/\∀e∈rest,∃x∈more,e=Vdw Q6 x) _ ?_ ?_ _ _ ⟨rfl,λe h=>by rw[he]at h;obtain⟨x,h1,h2⟩:=Uc.mp h;exact⟨x,h1,h2.symm⟩⟩
 ·rintro e rest c s' ⟨rfl,hall⟩;obtain⟨x,hx,rfl⟩:=hall e Uv;have q1:Vh Q7 A (Vh8 (Vdw Q6 x).key) (λb s1=>b=yw/\s1=s') E s':=by
   show Vh _ _ (Vh8 (.ref x.2.1)) _ _ _;unfold Vh8;exact Va (Vh7 (IsTupleKey.typeIs (hk x hx)) F.slot_tuple_eq.lookup (Vf Qe))
  refine Va (Vp q1 ?_ λ_ _ z=>z);rintro b s1 ⟨rfl,rfl⟩;have aa:¬ QP1.size>1:=by
   have e1:QP1.size=(QK0.filter (· == hrw x.1)).length:=by rw[<-U8,Array.toList_filter,he,Vh9,Vh9,Vg,Vg];rfl
   have:=Xop (x:=hrw x.1) nh;omega
  simp only[Vdv,if_true];rw[iN0 aa];exact Vf ⟨rfl,λu L=>hall u Qx6⟩
 ·rintro c s' ⟨rfl,_⟩;exact Vf hQ
theorem Xre:∀(more ys:List QQ),((ys++more).map Qo).Nodup->more.foldl Xaf ys=ys++more
 |[],ys,_=>by simp|x::more,ys,h=>by
  have L:x.1 ∉ ys.map Qo:=by rw[Vav,Ua,Veg]at h;exact λz=>h.2.2 _ z _ Uv rfl
  have e:Xaf ys x=ys++[x]:=by unfold Xaf;exact storedH_new (a:=x.2.1) (v:=x.2.2) (atKey_none_of_get λj p z=>L (Uc.mpr ⟨_,U0 z,rfl⟩))
  rw[Vbv,e,Xre more (ys++[x]) (by rw[Vq];exact h),Vq];rfl
theorem X32{nm:String}{d o:Addr}{ys more:List QQ}{Q:Unit->Vc->Prop}(hu:A.units<Vbh)(L:d≠o)(ab:Qp6=yw)(hd:s.heap.DictOfH Q6 d ys)
  (ho:s.heap.DictOfH Q6 o more) (hz:Qd4+ll more<=V3) (nh:ys=[]->QK0.Nodup)
  (hQ:∀h',h'.DictOfH Q6 d Qe3->Va2 d s.heap h'->Q () QM0):Vh Q7 A (Builtin.Dict.mergeDict nm d o) Q E s:=by
 have aa:=hd;obtain⟨od,ed,pd,a1,a2,a3,a4,a5,a6⟩:=hd;obtain⟨oo,eo,po,b1,b2,b3,b4,b5,b6⟩:=ho;have sz:eo.size=ll more:=size_of_entries b4;unfold Builtin.Dict.mergeDict;rw[iN0 (by simpa using L)];unfold Builtin.Dict.showsAll;rw[iN0 (by rw[ab];decide)];refine Va (Vf (Va (Vfl b1 b3 ?_)));dsimp only;refine(λL0:Vh Q7 A ?L Q E s=>?main) ?loop
 case main=>
  split
  case' isTrue=>refine Va (Vfl a1 a3 ?_);split
  case isTrue.isTrue em=>
   have y0:ys=[]:=by have e0:=size_of_entries a4;rw[Array.isEmpty_iff.mp em]at e0;exact Vdp.mp e0.symm
   refine Va (X31 b1 b3 b4 b5 (nh y0) ?_);subst y0;have fm:more.foldl Xaf []=more:=by rw[Xre more [] (by simpa using b6)];rfl
   rw[fm]at hQ;split;·refine Va (wpAny_updateDictKeysTo a1 a3 (Vf Qe1) (by rw[Vcd]at hz;omega));exact⟨_,_,pd+1,Vbb _ a1 QT4,a2.mapDictKeys _,Vf4 a3 _,b4,λx hx=>Q6.keeps (b5 x hx) a1 a3 Qh1,b6⟩
   ·rename_i ne;have e0:eo=#[]:=Array.isEmpty_iff.mp (by simpa using ne);have:more=[]:=Vdp.mp (by rw[<-sz,e0];rfl);subst this;exact Vf (hQ _ aa (Vhb _ _))
  all_goals exact L0
 case loop=>
  refine Va (wpAny_dictEpoch b1 b3 (Va (Vfl b1 b3 (Va ?_))));rw[Std.Legacy.Range.forIn_eq_forIn_range'];simp only[Std.Legacy.Range.size,Via,Ve3,Nat.div_one];refine Vhr _ (λrest _ s'=>∃h' i,s'=QM0/\i+ll rest=ll more/\rest=List.range' i (ll rest)/\h'.DictOfH Q6 d ((more.take i).foldl Xaf ys)/\Va2 d s.heap h') _ ?_ ?_ _ _ ⟨s.heap,0,rfl,by simp[sz],by simp,aa,Vhb _ _⟩
  ·rintro x rest c s' ⟨h',i,rfl,e1,e2,e3,e4⟩;rw[Ux]at e1 e2;rw[List.range'_succ]at e2;obtain⟨rfl,e2⟩:=List.cons.inj e2;have lt:x<ll more:=by omega
   have o1:h'.get? o=yz oo:=(e4.2 o L.symm).trans b1;have g:eo[x]?=yz (Vdw Q6 more[x]):=by rw[<-Vcf,b4,Vx,Ug lt];rfl
   refine Va (Vfl o1 b3 ?_);rw[g];dsimp only;have ln:=Xc8 (more.take x) ys;rw[U9]at ln;refine Va (Vak (Xta (s:=QM0) (k:=more[x].1) hu (Q6.keeps (b5 _ (Vc4 lt)) a1 a3 e4) e3 QJ λh2 e5 e6=>?_));have o2:h2.get? o=yz oo:=(e6.2 o L.symm).trans o1;refine Va (wpAny_dictEpoch o2 b3 ?_);rw[iN0 Qb];refine Vf ⟨h2,x+1,rfl,by omega,e2,?_,e4.trans e6⟩;rw[List.take_add_one,Ug lt,List.foldl_append];exact e5
  rintro c s' ⟨h',i,rfl,e1,_,e3,e4⟩;rw[Vcd,Vbj]at e1;rw[e1,Vb2]at e3;exact Vf (hQ h' e3 e4)
theorem Xvu(d o:Addr)(L:d≠o)(ab:Qp6=yw):MeetsIn prog w (Vbt.«dict.update» ⟨[.ref d,.ref o],[]⟩) (λA R s=>A.in1.units<Vbh/\∃ys more,s.heap.DictOfH Q6 d ys/\s.heap.DictOfH Q6 o more /\
  Qd4+ll more<=V3/\(ys=[]->QK0.Nodup)/\∀h',h'.DictOfH Q6 d Qe3->Va2 d s.heap h'->R Ql4 QM0):=
 .of_wp λA R s ⟨hu,ys,more,hd,ho,hz,nh,h⟩=>by unfold Vbt.«dict.update» Vje;refine Va (Va (wpAny_notOrdered_dict hd.typeIs Qm));change Vh _ _ (Vew "dict.update" d (.ref o) [] .none) _ _ s;unfold Vew Builtin.Dict.merge Builtin.Dict.readDirectly;refine Va (Vci ho.typeIs ?_);rw[iN0 QA];refine Va (Va (Va (Vhq ho.typeIs isSubtype_dict_dict ?_)));simp only[Vb3,Uo,if_false];refine Va (Vh7 ho.typeIs F.slot_dict_iter.lookup Qm);simp only[beq_self_eq_true,if_true];refine Va (Vf (X32 hu L ab hd ho hz nh λh' aa ac=>?_));change Vh _ _ (Vjd d [] >>= _) _ _ _;exact Va (Vf (Vf ⟨.none,rfl,h h' aa ac⟩))
theorem X1t(h:Yu S n=yz kvs):Xbu S n=yz kvs:=by
 unfold Yu at h;unfold Xbu;split at h;·rename_i e;rw[e];exact h
 ·cases h
theorem X33:∀ {kvs:List QS2} {xs:List QI0},DX X.K ρ H kvs xs->xs.map Qm4=kvs.map λp=>hrw p.1:=λh=>by
 induction h with
 |nil=>rfl|cons h t ih=>rw[Ua,Ua,ih,h.1]
theorem X9n:∀ {xs:List QI0} {ys:List QQ},RX xs ys->ys.map Qm4=xs.map λx=>hrw x.1:=λh=>by
 induction h with
 |nil=>rfl|cons h t ih=>rw[Ua,Ua,ih,h.1]
theorem Ydf(hu:X.A.units+1<Vbh)(I:S0 X pc σ H s ρ S env)(L:Xdx x ds S≠.bad)(rx:RD X.K ρ H x vx)(qx:RelV vx ux)(rd:RDs X.K ρ H ds vs)(rv:Vals vs us):
  Vh Q4 X.A (call Qu0 (ux::us)) (OkP X pc σ ρ H (Xdx x ds S)) E s:=by
 unfold Xdx at L ⊢;cases x with
 |ref n=>
  dsimp only at L ⊢;split at L
  ·rename_i m;cases e1:Yu S n with
   |none=>rw[e1]at L;cases L rfl|some kvs=>
    rw[e1]at L;dsimp only at L ⊢;cases e2:Yu S m with
    |none=>rw[e2]at L;cases L rfl|some more=>
     rw[e2]at L;dsimp only at L ⊢;split at L
     ·rename_i hc;rw[iP0 hc];rw[bA0,bA0,bA0]at hc;obtain⟨⟨⟨c1,c2⟩,c3⟩,c4⟩:=hc;have c1:=oD0 c1;have c3:=oD0 c3;have c2:more≠[]:=λz=>by rw[z]at c2;cases c2
      obtain⟨a,o,xs,ha,ho,f,hx,mu⟩:=I.dic (X1t e1);obtain⟨mu,nf⟩:=mu e1;obtain⟨ys,q,dd⟩:=Xsr I.inv ho f hx;obtain⟨b,o2,af,hb,ak,f2,aa,_⟩:=I.dic (X1t e2);obtain⟨ac,q2,ai⟩:=Xsr I.inv ak f2 aa;rw[RD]at rx;obtain⟨a',rfl,ah⟩:=rx;rw[ha]at ah;cases ah;cases qx;simp only[RDs,RD]at rd;obtain⟨v1,r1,rfl,⟨b',rfl,ae⟩,rfl⟩:=rd;rw[hb]at ae;cases ae;cases rv with
      |cons p1 p2=>
       cases p2;cases p1;have ab:a≠b:=λz=>c1 (by obtain⟨l1,e3⟩:=Vd.mp ha;obtain⟨l2,e4⟩:=Vd.mp hb;exact(List.getElem_inj I.sr.nd).mp (e3.trans (z.trans e4.symm)));have hl:Qd4=ll kvs:=by rw[<-Vdk q,<-Vdk hx]
       have an:(ll ac)=ll more:=by rw[<-Vdk q2,<-Vdk aa]
       have am:100000<V3:=by decide
       refine call_meetsIn Vgv dd.typeIs PySem.F.entry_dict_update (PySem.F.args_dict_update_2 _ _) (Xvu a b ab f2.1) ⟨Vgu (knd:=intKind X.prog X.w) hu,ys,ac,dd,ai,by omega,λz=>?_,λh' aj hs=>?_⟩;·rw[X9n q2,X33 aa];have:kvs=[]:=Vdp.mp (by rw[<-hl,z];rfl);rw[this]at c4;exact oD0 c4
       ·have st:Stp X.K ρ ρ H (upd H a (.ext (DicO a QP4))):=Stp.chg (S:=S) (o:=.dct (more.foldl Qu kvs)) I.sr ha nf;have al:=(Xkt aa hx).mono st.toMon;have rr:=Xku q2 q;obtain⟨o',es,ep,g1,g2,g3,g4,_,g6⟩:=aj;have ln:=Xc8 ac ys;have df:Xnq a o' QP4:=⟨f.1,by rw[Vdk rr];omega,g2,_,es,ep,rr,g3,λ_ _=>g4,g6⟩;have J:=I.inv.write (x:=a) (e:=a) (t':=s.toks) mu QI1 (λc w hc z=>(hs.2 c hc).trans z) ⟨_,g1⟩ (DicO.ok ⟨o',g1,df⟩);exact .mk st J (v:=.non) rfl Qo1 (I.sr.chg ha nf (.inr ⟨Xoo _ _ (.inl c2),_,Xl,al⟩))
     cases L rfl
  cases L rfl|_=>cases L rfl
universe e
theorem Ydg{X:Cx}{o e:Expr}{es:LX}{apos cpos:Pos}{fo:En->Sto->R D}{g:En->Sto->R (LD)}(hu:X.A.units+1<Vbh)(ho:DE X o fo)(ha:DA X Q50 g)
  (aa:attributeBase o "update" X.env Qc2=eval o X.env)
  (ac:QL=yx)
  (ab:Qe2=yx) (hs:Ui Q50 X.env=QO0::Ui es X.env) (L:Qt4.any Qo=yw):
  DE X (.Call (.Attribute o "update" apos) Q50 [] cpos) (λenv S=>Ql2.bind λx S=>if Xsp S x then QQ6.bind λxs S=>Xdx x xs S else .bad):=by
 intro pc s σ H ρ S env I nb;dsimp only at nb ⊢;cases q:fo env S with
 |bad=>rw[q]at nb;cases nb rfl|ex n S1=>exact wpAny_Call_method aa ac ab PySem.F.plainAttrs_dict Vgv Vjh Qa2|ok x S1=>
  rw[q]at nb;simp only[Rk0]at nb ⊢;split at nb
  ·rename_i hk;rw[iP0 hk];cases x with
   |ref n=>
    obtain⟨kvs,e1⟩:=Vch.mp (show(Xbu S1 n).isSome=yx from hk);refine wpAny_Call_method aa ac ab PySem.F.plainAttrs_dict Vgv Vjh (ho.ok I q λu s1 v H1 an I1 rv rd aj=>?_);obtain⟨a,ob,xs,al,af,f,hx,_⟩:=I1.dic e1;have ae:=rd;rw[RD]at ae;obtain⟨a',rfl,ah⟩:=ae;rw[al]at ah;cases ah;cases rv;refine⟨⟨ob,af,f.2.2.1.1⟩,λb eb=>by cases eb;exact⟨ob,af,f.2.2.1.2.1⟩,?_⟩;cases q2:g env S1 with
    |bad=>rw[q2]at nb;cases nb rfl|ex k S2=>have hA:=ha.ex (pos:=cpos) (E:=ExP X pc σ ρ H QZ1) (Q:=λus s2=>Vh Q4 X.A Qp4 Q92 Q93 s2) I1 q2 λx s' z=>.mk aj z;rw[hs]at hA ⊢;exact Vfg QO Qv3|ok ds S2=>rw[q2]at nb;simp only[Rk0]at nb ⊢;have hA:=ha.ok (pos:=cpos) (E:=ExP X pc σ ρ H QQ2) (Q:=λus s2=>Vh Q4 X.A Qp4 (OkP X pc σ ρ H QQ2) (ExP X pc σ ρ H QQ2) s2) I1 q2 λus s2 vs H2 ao I2 am ak ai=>Vp (Ydf (E:=λ_ _=>False) hu I2 nb (rd.mono ai) rfl ak am) (λw s3 z=>z.pre (aj.trans ai)) λ_ _ z=>z.elim;rw[hs]at hA ⊢;exact Vfg QO Qv3
   |_=>cases hk
  cases nb rfl
theorem Xgv(n d:Nat)(o:Option Int):Xbj n d o=HT.sIx n d o:=by
 cases o with
 |none=>rfl|some i=>
  simp only[Xbj,HT.sIx];by_cases h:i<0;·rw[iP0 h,iN0 QJ]
  ·rw[iN0 h,iP0 QJ]
theorem Xvv{K:Ve}{ρ:LR}{H:Hp}{xs:LD}{vs:LW}(h:RDs K ρ H xs vs)(lo hi:Option Int):RDs K ρ H (cut xs lo hi) (Xj7 vs lo hi):=by unfold cut Xj7;rw[Xgv,Xgv,h.length];exact(h.drop _).take _
section
variable{prog:Ue}{w:Uy}{A:U7}{E:VP}{s:Vc}
theorem Xp5{items:AV}{lo hi:Option Int}{Q:VP}(L:Vc8 s.heap t items)(hs:s.heap.IsSliceOf sl vl vu .none)(pl:Vfm vl lo)(pu:Vfm vu hi)
  (h1:HT.sIx items.size 0 lo=0) (h2:HT.sIx items.size items.size hi=items.size) (h:Q (.ref t) s):Vh Q7 A QJ2 Q E s:=by
 obtain⟨os,ab,ac,ae⟩:=id hs;have aa:s.TypeIs QU2 "slice" := QG5;unfold getItem
 try with_reducible refine Vak ?_
 first|refine Va Qm|skip
 refine Va (Vi2 L.typeIs QA (Va (Vbz (name:=Vau "__getitem__") L.typeIs Vbg (Va0 Vbg L.typeIs Vif ?_ QX6))));show Vh _ _ QY3 _ _ s;refine Va (tupleItemsOf_ L QV4);rw[iP0 QA];refine Va (HT.sliceApplied_gen hs pl pu ?_);show Vh _ _ (if (((HT.sIx items.size 0 lo:Nat):Int)==0&&(1:Int)==1&&(HT.sIx items.size items.size hi-HT.sIx items.size 0 lo)==items.size)=yx then _ else _) _ _ s;rw[h1,h2,iP0 Qb];refine Va ?_;unfold Builtin.Tuple.tupleIsExact;refine Va (Vci L.typeIs Qm);rw[iP0 QA];exact Va (Vba Q81)
universe e
def Xm0(K:Ve)(ρ:LR)(H:Hp)(o:Option D)(u:Vb):Prop:=match o with
 |none=>u=.none|some d=>∃v,RelV v u/\RD K ρ H d v
def DO(X:Cx)(e:Option Expr)(f:En->Sto->R QF4):Prop:=
 ∀(pc:LA) (s:Vc) (σ:L2.St) (H:Hp) (ρ:LR) (S:Sto) (env:En),S0 X pc σ H s ρ S env->f env S≠.bad ->
  Vh Q4 X.A Qg1 (λu s'=>∃o S',f env S=.ok o S'/\∃H' ρ',Inv X pc σ H' s'/\SR X.K ρ' S' H'/\Stp X.K ρ ρ' H H'/\Xm0 X.K ρ' H' o u) (ExP X pc σ ρ H QQ0) s
section
variable{X:Cx}{pc:LA}{σ:L2.St}{H:Hp}{s:Vc}{ρ:LR}{S:Sto}{env:En}{a:Expr}{fa:En->Sto->R D}{pos p2:Pos}
theorem Xrf:DO X yy (λ_ S=>.ok yy S):=by intro pc s σ H ρ S env I L;rw[evalPart_none];exact Vf ⟨yy,S,rfl,H,ρ,I.inv,I.sr,.refl,rfl⟩
theorem Xrg(h:DE X a fa):DO X (yz a) (λenv S=>QE1.bind λx S=>.ok QJ7 S):=by intro pc s σ H ρ S env I nb;dsimp only at nb ⊢;rw[evalPart_some];refine h.bind I nb rfl (λd S1 u s1 v H1 L e1 ab I1 rv rd aa=>?_) λ_ _ z=>z;exact⟨yz d,S1,e1,H1,L,I1.inv,I1.sr,aa,v,rv,rd⟩
theorem DO.bind{α:Type}{e:Option Expr}{f:En->Sto->R QF4}(h:DO X e f)(I:S0 X pc σ H s ρ S env){k:Option D->Sto->R α}{r:R α}{Q:VP}{E:VP}(L:QQ0.bind k≠.bad)(hr:r=QQ0.bind k)
  (hQ:∀o S1 u s' H' ρ',r=k o S1->k o S1≠.bad->S0 X pc σ H' s' ρ' S1 env->Xm0 X.K ρ' H' o u->Stp X.K ρ ρ' H H'->Q u s') (hE:∀x s',ExP X pc σ ρ H r x s'->E x s'):Vh Q4 X.A Qg1 Q E s:=by
 cases q:f env S with
 |bad=>rw[q]at L;cases L rfl|ex n S1=>
  rw[q]at hr;refine Vp QX0 QZ2 λx s' z=>?_;·obtain⟨o,S2,e,_⟩:=z;rw[q]at e;cases e
  ·obtain⟨m,S2,e,z⟩:=z;rw[q]at e;cases e;exact hE x s' ⟨n,S1,hr,z⟩|ok o S1=>
  rw[q]at hr L;refine Vp QX0 QZ2 λx s' z=>?_;·obtain⟨o',S2,e,H',ρ',J,sr,st,pr⟩:=z;rw[q]at e;cases e;exact hQ o S1 u s' H' ρ' hr L (I.step J sr st) pr st
  ·obtain⟨m,S2,e,z⟩:=z;rw[q]at e;cases e
theorem Xgw{K:Ve}{o:Option D}{u:Vb}{L:Option Int}(h:Xm0 K ρ H o u)(e:Xak o=yz L):Vfm u L:=by
 cases o with
 |none=>have e':yz yy=yz L:=e;cases e';have h':u=.none:=h;subst h';exact .none|some d=>
  cases d with
  |int i=>have e':yz (yz i)=yz L:=e;cases e';obtain⟨v,rv,rd⟩:=h;simp only[RD]at rd;subst rd;obtain⟨t,rfl⟩:=rv;exact .int i t|_=>cases e
theorem X1u{lo hi:Option Expr}{fl fh:En->Sto->R QF4}(ha:DE X a fa)(hl:DO X lo fl)(hh:DO X hi fh):
  DE X (.Subscript a Qa3 pos) (λenv S=>QE1.bind λx S=>(fl env S).bind λl S=>(fh env S).bind λh S=>match Xak l,Xak h with
   |some l,yz h=>Xal x l h S
   |_,_=>.bad):=by
 intro pc s σ H ρ S env I nb;dsimp only at nb ⊢;refine Subscript_ (ha.bind I nb rfl (λd S1 u s1 v H1 al e1 ak I1 rv rd af=>?_) λ_ _ z=>z);rw[e1];refine wpAny_Slice (hl.bind I1 ak rfl (λl S2 vl s2 H2 am e2 aj I2 pl ae=>?_) λx s' z=>z.pre af);rw[e2];refine hh.bind I2 aj rfl (λh S3 vu s3 H3 ai e3 ab I3 pu ah=>?_) λx s' z=>(z.pre ae).pre af;rw[e3];cases q1:Xak l with
 |none=>rw[q1]at ab;cases ab rfl|some li=>
  cases q2:Xak h with
  |none=>rw[q1,q2]at ab;cases ab rfl|some L=>
   rw[q1,q2]at ab;dsimp only at ab ⊢;rw[evalPart_none];refine Vf ?_;have P1:=Xgw pl q1;have P2:=Xgw pu q2;have ac:=QG3.mono ah;have J:Inv X pc σ H3 QE:=I3.inv.kept (t':=s3.toks) λb ob q=>Vm _ q;have fin:∀ {T id:String},typeLookup Qj1 "__getitem__"=pure Q47->(QE:Vc).TypeIs u T ->
     Vh Q4 X.A (getItem u Qq2) (OkP X pc σ ai H3 Q71) (ExP X pc σ ai H3 Q71) QE ->
     Vh Q4 X.A (Vf8 a Qa3 u Qq2) (OkP X pc σ ρ H Q71) (ExP X pc σ ρ H Q71) QE:=λt1 t2 g=>
    tail_any (ops:=[.ref s3.heap.objs.size,u]) t2 t1 (Vp g (λ_ _ z=>OkP.pre Qt2 z) λ_ _ z=>ExP.pre Qt2 z) Qd2
   cases d with
   |tup xs=>
    simp only[RD]at ac;obtain⟨p,vs,rfl,hq,hr⟩:=ac;cases rv;obtain⟨its,r,ht,hz⟩:=J.tuple hq;have aa:its.toArray.size=ll vs:=by rw[Vo];exact r.length.symm
    refine fin PyProof.Rows.slot_tuple_getitem.lookup ht.typeIs ?_;by_cases hw:HT.sIx QW0 0 li=0/\HT.sIx QW0 QW0 L=ll vs
    ·refine Xp5 ht Q23 P1 P2 (by rw[aa];exact hw.1) (by rw[aa];exact hw.2) ?_;have e:cut xs li L=xs:=by
      unfold cut;rw[Xgv,Xgv,hr.length,hw.1,hw.2,List.drop_zero,Via,<-hr.length,Vb2]
     refine .mk (v:=.ref p) .refl J rfl ?_ I3.sr;rw[e];simp only[RD];exact⟨p,vs,rfl,hq,hr⟩
    refine HT.getItem_tuple_cut ht Q23 P1 P2 (by rw[aa];exact hw) ?_ (by rw[aa];exact hz);rw[aa];refine Xcy (vs:=Xj7 vs li L) Qi1 Qt0 I3.sr (Xvv hr li L);exact⟨V2 Q85 hz,_,QX2.take QY1,Qq0⟩|ref n=>
    cases e4:Xc S3 n with
    |none=>simp[Xal,e4]at ab|some xs=>
     obtain⟨b,vs,k1,k2,k3⟩:=I3.list e4;simp only[RD]at ac;obtain⟨b',rfl,k4⟩:=ac;rw[k1]at k4;cases k4;cases rv;obtain⟨its,r,ht,hz⟩:=J.list QE5;have aa:=r.length;refine fin slot_list_getitem.lookup ht.isList.typeIs ?_;refine Vji ht.isList Q23 P1 P2 .none Qb ?_ QC4;rw[Xmm,<-aa];have e5:Xal Qb0 li L S3=.ok (.ref S3.length) (S3++[.lst (cut xs li L)]):=by simp only[Xal,e4]
     rw[e5];refine Xbc (vs:=Xj7 vs li L) Qi1 Qt0 I3.sr (Xvv k3 li L);exact⟨V2 Q85 hz,_,0,QX2.take QY1,Vw _ rfl⟩
   |_=>cases ab rfl
universe e
universe Z
universe e
section
namespace Z
open PySem PySem.Spec PyProof.Rows L2
open Builtin.Slice (sliceAdjust slicePlaces)
noncomputable def Xoq{α:Type}(lo c:Int)(n:Nat)(xs:List α):List α:=QO7.filterMap λ(k:Nat)=>xs[(lo+(k:Int)*c).toNat]?
noncomputable def Xag{α:Type}(xs:List α)(l:Option Int)(c:Int):List α:=Xoq Qa0.1 c (slicePlaces Qa0.1 Qa0.2 c) xs
theorem Xtb{K:Ve}{ρ:LR}{H:Hp}{xs:LD}{vs:LW}(h:RDs K ρ H xs vs)(L:Nat->Nat):∀ks:LN,RDs K ρ H QH2 (ks.filterMap λk=>vs[L k]?)
 |[]=>.nil|k::ks=>by
  cases e:xs[L k]? with
  |none=>have e2:=h.none e;simp only[Vat,e,e2];exact Xtb h L ks|some d=>obtain⟨v,e2,r⟩:=h.get e;simp only[Vat,e,e2];exact .cons r (Xtb h L ks)
theorem Xkv{xs:LW}{us:LV}(h:Vals xs us)(L:Nat->Nat):∀ks:LN,Vals QH2 (ks.filterMap λk=>us[L k]?)
 |[]=>.nil|k::ks=>by
  cases e:xs[L k]? with
  |none=>
   have e2:us[L k]?=none:=by rw[U4]at e ⊢;rw[<-h.length];exact e
   simp only[Vat,e,e2];exact Xkv h L ks|some d=>obtain⟨v,e2,r⟩:=h.get e;simp only[Vat,e,e2];exact .cons r (Xkv h L ks)
theorem Xvw{K:Ve}{ρ:LR}{H:Hp}{xs:LD}{vs:LW}(h:RDs K ρ H xs vs)(l:Option Int)(c:Int):RDs K ρ H Qo0 (Xag vs l c):=by unfold Xag;rw[h.length];exact Xtb h _ _
theorem Xor(h:Vals xs us)(l:Option Int)(c:Int):Vals Qo0 (Xag us l c):=by unfold Xag;rw[h.length];exact Xkv h _ _
theorem Xvx{lo hi c:Int}{n:Nat}(L:c<0)(h1:lo<=(n:Int)-1)(h2:-1<=hi):slicePlaces lo hi c<=n:=by
 unfold slicePlaces;rw[iN0 QJ];split;·have:(lo-hi-1)/(-c)<=lo-hi-1:=Int.ediv_le_self _ QJ;omega
 ·simp
theorem Xos{l:Option Int}{c:Int}{n:Nat}(L:c<0):Q73.1<=(n:Int)-1/\Q73.2 = -1:=by
 unfold sliceAdjust;simp only[L,if_true,and_true];cases l with
 |none=>exact Vhg _|some v=>dsimp only;split<;>omega
theorem Xkw{α:Type}(xs:List α){l:Option Int}{c:Int}(L:c<0):Qo0.length<=ll xs:=by unfold Xag Xoq;refine V2 (List.length_filterMap_le _ _) ?_;rw[Ut];exact Xvx L Q97.1 (by rw[Q97.2];omega)
section
variable{prog:Ue}{w:Uy}{A:U7}{E:VP}{s:Vc}
theorem Xot{lo:Option Int}{c:Int}{n:Nat}{Q:Int×Int×Nat->Vc->Prop}(hc:c<0)(hs:s.heap.IsSliceOf sl vl .none vs)(pl:Vfm vl lo)(ps:Vfm vs QL5)
  (h:Q (Qy0.1,c,slicePlaces Qy0.1 Qy0.2 c) s):Vh Q7 A (Vd6 QU2 (pure (n:Int))) Q E s:=by
 obtain⟨os,aa,ab,L⟩:=id hs;unfold Vd6 Vi6;refine Va (Va (Var aa L (x:=vl) rfl (Va (Var aa L (x:=.none) rfl (Va (Var aa L (x:=vs) rfl Qm))))));refine Va (HT.slicePart_ ps ?_);show Vh _ _ (if (c==0)=yx then _ else _) _ _ s;rw[iN0 QN1];refine Va (HT.slicePart_ pl (Va (HT.slicePart_ .none (Va Qm))));exact Vf h
theorem Xtc{its:LV}{lo:Option Int}{c:Int}{Q:VP}(hc:c<0)(ht:Vc8 s.heap t its.toArray)(hs:s.heap.IsSliceOf sl vl .none vs)(pl:Vfm vl lo)(ps:Vfm vs QL5)
  (h:Q Qc {s with heap:=s.heap.push {cls:=.type "tuple",data:=.seq QS1.toArray} }) (hsz:Qn0<=V3):Vh Q7 A QJ2 Q E s:=by
 have L:sizeOk (.seq QS1.toArray):=by show(Xag its lo c).toArray.size<=V3;rw[Vo];exact V2 (Xkw its hc) hsz
 obtain⟨os,ab,ac,ae⟩:=id hs;have aa:s.TypeIs QU2 "slice" := QG5;unfold getItem
 try with_reducible refine Vak ?_
 first|refine Va Qm|skip
 refine Va (Vi2 ht.typeIs QA (Va (Vbz (name:=Vau "__getitem__") ht.typeIs Vbg (Va0 Vbg ht.typeIs Vif ?_ QX6))));show Vh _ _ QY3 _ _ s;refine Va (tupleItemsOf_ ht QV4);rw[iP0 QA,Vo];refine Va (Xot hc hs pl ps ?_);show Vh _ _ (if (QI.1==0&&c==1&&slicePlaces QI.1 QI.2 c==ll its)=yx then _ else _) _ _ s;have hn:(c==1)=false:=by simp;omega
 rw[iN0 (by rw[hn];simp)];have e:((Vl (slicePlaces QI.1 QI.2 c)).filterMap λ(k:Nat)=>its.toArray[(QI.1+(k:Int)*c).toNat]?)=Xag its lo c:=by unfold Xag Xoq;simp
 rw[e]
 first
  |exact Va (m:=Vcj _) Qs5|exact Va (Va (m:=Vcj _) Qs5)
universe e
theorem Xvy(its:LV)(lo:Option Int)(h0:lo=yy)(hc:c<0):slicePick its.toArray lo yy QL5=QS1.toArray:=by
 have L:¬ c>0:=by omega
 have e1:Qg0.1=QI.1:=by unfold Vdx sliceAdjust;simp only[Vcn,L,hc,if_true,if_false];cases h0;rfl
 have e2:Qg0.2.1 = -1:=by unfold Vdx;simp only[Vcn,L,if_false]
 have e3:Qg0.2.2=c:=rfl;unfold slicePick Xag Xoq;rw[Vo,e1,e2,e3,(Xos hc).2];generalize QI.1=a;have e4:slicePlaces a (-1) c=(if a > -1 then (a - -1-c-1)/(-c) else 0).toNat:=by
  unfold slicePlaces;rw[iN0 L];congr 1;split
  ·have:a - -1-c-1=(a - -1-1)+1*(-c):=by omega
   rw[this,Int.add_mul_ediv_right _ _ QJ]
  rfl
 unfold sliceRange;simp only[L,if_false];rw[e4,Vip];congr 2;funext k;simp only[Vgb,Vhx];rw[Int.mul_comm]
theorem Xou{α β:Type}{f g:α->Option β}:∀ {l:List α},(∀x∈l,f x=g x)->l.filterMap f=l.filterMap g
 |[],_=>rfl|x::l,h=>by rw[Vat,Vat,h x Qb,Xou λy L=>h y (by simp[L])]
theorem X34{α:Type}(xs:List α):Xag xs yy (-1)=xs.reverse:=by
 unfold Xag Xoq;have e1:(sliceAdjust yy yy (-1) (ll xs:Int))=((ll xs:Int)-1,-1):=rfl;rw[e1];have L:slicePlaces ((ll xs:Int)-1) (-1) (-1)=ll xs:=by
  unfold slicePlaces;rw[iN0 QA];split;·simp
  ·omega
 dsimp only;rw[L];have:∀(n:Nat) (ys:List α),ll ys=n->QO7.filterMap (λk=>ys[k]?)=ys:=by
  intro n;induction n with
  |zero=>intro ys h;rw[Vid h];rfl|succ n ih=>
   intro ys h;cases ys with
   |nil=>cases h|cons y ys=>rw[Vc1,Vat,Vip];simp only[gZ0];congr 1;exact ih ys QO4
 rw[<-this Qe4 xs.reverse Qb];refine Xou λk hk=>?_;have hk:=Va6.mp hk;rw[List.getElem?_reverse hk];congr 1;omega
noncomputable def Xb2(l:Option Int)(c:Int)(x:D)(S:Sto):R D:=
 match x with
 |.tup xs=>.ok (.tup Qo0) S|.ref n=>match Xc S n with
  |some xs=>.ok Qc0 (S++Qk6)|none=>.bad
 |_=>.bad
theorem Xov(x:D)(S:Sto):Xb2 yy (-1) x S=Xso x S:=by cases x<;>simp only[Xb2,Xso,X34]<;>rfl
section
variable{X:Cx}{pc:LA}{σ:L2.St}{H:Hp}{s:Vc}{ρ:LR}{S:Sto}{env:En}{a:Expr}{fa:En->Sto->R D}{pos p2:Pos}
theorem Ydh{lo:Option Expr}{st:Expr}{l:Option Int}{c:Int}(hc:c<0)(h0:l=yy)(ha:DE X a fa)(hl:DO X lo (λ_ S=>.ok Q45 S))(hh:DO X (yz st) (λ_ S=>.ok (yz (.int c)) S)):
  DE X (.Subscript a Qj2 pos) (λenv S=>QE1.bind λx S=>Xb2 l c x S):=by
 intro pc s σ H ρ S env I nb;dsimp only at nb ⊢;refine Subscript_ (ha.bind I nb rfl (λd S1 u s1 v H1 ak e1 ah I1 rv rd aj=>?_) λ_ _ z=>z);rw[e1];have cst:∀ {e:Option Expr} {o:Option D} {s2:Vc} {H2:Hp} {ac:LR} {Q:VP} {E:VP},DO X e (λ_ S=>.ok o S)->S0 X pc σ H2 s2 ac S1 env->(∀u s' H' ρ',S0 X pc σ H' s' ρ' S1 env->Xm0 X.K ρ' H' o u->Stp X.K ac ρ' H2 H'->Q u s') ->
   Vh Q4 X.A Qg1 Q E s2:=λhe I2 hQ=>by
  refine Vp (he pc _ σ _ _ S1 env I2 QM2) QZ2 λx s' z=>?_;·obtain⟨o',S2,e,H',ρ',J,sr,st,pr⟩:=z;cases e;exact hQ u s' H' ρ' (I2.step J sr st) pr st
  ·obtain⟨_,_,e,_⟩:=z;cases e
 refine wpAny_Slice (cst hl I1 λvl s2 H2 ac I2 pl ae=>?_);rw[evalPart_none];refine Vf ?_;refine cst hh I2 λvs L H3 ai I3 ps ab=>?_;have P1:Vfm vl l:=Xgw pl (by cases l<;>rfl);have P2:Vfm vs QL5:=Xgw ps rfl;have aa:=QG3.mono ab;have J:Inv X pc σ H3 QF:=I3.inv.kept (t':=L.toks) λb ob q=>Vm _ q;have fin:∀ {T id:String},typeLookup Qj1 "__getitem__"=pure Q47->(QF:Vc).TypeIs u T ->
   Vh Q4 X.A (getItem u Q53) (OkP X pc σ ai H3 QR1) (ExP X pc σ ai H3 QR1) QF ->
   Vh Q4 X.A (Vf8 a Qj2 u Q53) (OkP X pc σ ρ H QR1) (ExP X pc σ ρ H QR1) QF:=λt1 t2 g=>
  tail_any (ops:=[u,.ref L.heap.objs.size]) t2 t1 (Vp g (λ_ _ z=>OkP.pre Qs2 z) λ_ _ z=>ExP.pre Qs2 z) Qd2
 cases d with
 |tup xs=>simp only[RD]at aa;obtain⟨p,ws,rfl,hq,hr⟩:=aa;cases rv;obtain⟨its,r,ht,hz⟩:=J.tuple hq;have af:=r.length;refine fin PyProof.Rows.slot_tuple_getitem.lookup ht.typeIs ?_;refine Xtc hc ht Q23 P1 P2 ?_ QJ;refine Xcy (vs:=Xag ws l c) Qk1 Qt0 I3.sr (Xvw hr l c);exact⟨V2 Qj5 hz,_,Xor r l c,Qq0⟩|ref n=>
  cases e4:Xc S1 n with
  |none=>simp[Xb2,e4]at ah|some xs=>
   obtain⟨b,ws,k1,k2,k3⟩:=I3.list e4;simp only[RD]at aa;obtain⟨b',rfl,k4⟩:=aa;rw[k1]at k4;cases k4;cases rv;obtain⟨its,r,ht,hz⟩:=J.list QE5;have af:=r.length;refine fin slot_list_getitem.lookup ht.isList.typeIs ?_;refine Vji ht.isList Q23 P1 .none P2 (by intro z;cases z;omega) ?_ QC4;rw[Xvy _ _ h0 hc];have e5:Xb2 l c Qb0 S1=.ok Qy4 (S1++Qk6):=by simp only[Xb2,e4]
   rw[e5];refine Xbc (vs:=Xag ws l c) Qk1 Qt0 I3.sr (Xvw k3 l c);exact⟨V2 Qj5 hz,_,0,Xor r l c,Vw _ rfl⟩
 |_=>cases ah rfl
theorem X1v{i:Int}{e:Expr}(h:mnC i e=yx):DO X QK7 (λ_ S=>.ok (yz (.int (-i))) S):=by
 cases e with
 |UnaryOp o x p=>
  cases o with
  |USub=>
   cases x with
   |Constant c k q=>
    cases c with
    |int j=>cases eq_of_beq (show QN6=yx from h);exact Xrg (X1r (fa:=λ_ S=>.ok (.int i) S) d_int)|_=>exact ff h
   |_=>exact ff h
  |_=>exact ff h
 |_=>exact ff h
theorem Xvz{i:Int}{l:Option Int}{e:Expr}(hi:0<i)(h0:l=yy)(ha:DE X a fa)(h:Xoh i l e=yx):DE X (.Subscript a e pos) (λenv S=>QE1.bind λx S=>Xb2 (l.map (- ·)) (-i) x S):=by
 cases e with
 |Slice lo hi st p=>
  have h:(hi.isNone&&st.any λst=>mnC i st&&X8r l lo)=true:=h;rw[bA0]at h;cases hi with
  |some _=>exact ff h.1|none=>
   cases st with
   |none=>exact ff h.2|some st=>
    have h:=h.2;rw[Option.any_some,bA0]at h;refine Ydh QJ (by rw[h0];rfl) ha ?_ (X1v h.1);cases l with
    |none=>cases lo with
     |none=>exact Xrf|some _=>exact ff h.2
    |some k=>cases lo with
     |none=>exact ff h.2|some x=>exact X1v h.2
 |_=>exact ff h
universe e
universe Z
universe e
section
namespace Z
open PySem PySem.Spec PyProof.Rows L2
open PySem.W (kla_fn)
theorem Xy8{x:Str}{an:Option Expr}{p:Pos}{n q:Str}{body:Expr}{scope:U1}{pm L:Vb}{c:Addr}{u:Vb}:
  Vf0 (kla_fn n q ⟨[],[⟨x,an,p⟩],yy,[],[],yy,[]⟩ body scope [] pm Q14 L) Qy5=pure QJ6:=by
 have s:seqItems? Vcq=pure none:=rfl;unfold Vf0;simp[s,List.lookup]
section
variable{X:Cx}{nm:Str}
theorem Ydi {a e:Expr} {fa:En->Sto->R D} {p0 pos p1 p2 p3 aa kp:Pos} {x:Str} {an:Option Expr} {scope:U1} (hu:X.A.units+200<Vbh) (hc:X.calm=yx) (hL:LamAt X nm) (af:Gl X "sorted") (ah:X.mg "sorted"=yy) (ha:DE X a fa) (ab:Ui [a] X.env=Q22::Ui [] X.env)
  (hS:FnScope [x] [x] scope) (ae:Xi9 scope=yx) (hv:Vis scope x) (hd:QY=yw) (aj:QZ0=yw) (hr:Xoh 1 yy e=yx):
  DE X (.Call (.Name "sorted" p0) [a] [⟨yz "key",.Lambda QL1 Qz1 scope aa,kp⟩] pos) (λenv S=>QE1.bind λx S=>Xnn x S):=by
 intro pc s σ H ρ S env I nb;dsimp only at nb ⊢;refine Vbx (Xaw I.inv af ah (u:=.builtin "sorted") QU (callWith_kw (Vel ?_ ab) Q65 Q65 rfl rfl) QA rfl);refine ha.bind I nb rfl (λd S1 u s1 v H1 ao e1 L I1 rv rd al=>Vem ?_) λ_ _ z=>z;rw[e1];show Vh _ _ (do let v <- (do let v <- eval (.Lambda QL1 Qz1 scope aa) X.env;standAt pos;pure v);return v::(<-Vge [v] (evalAll []))) _ _ s1;refine Va (Va (Xyw hL ae rfl I1 λf s2 H2 I2 ac lm=>Va (Veb (Vf (Va (Vak (Vf Qm)))))));show Vh _ _ (call QF0 [u] QW1) _ _ s2;unfold Xnn at L ⊢;cases d with
 |ref n=>
  dsimp only at L ⊢;cases q1:Xc S1 n with
  |none=>rw[q1]at L;cases L rfl|some xs=>
   rw[q1]at L;simp only[V1]at L ⊢;cases q2:Y7 xs with
   |none=>rw[q2]at L;cases L rfl|some ks=>
    rw[q2]at L;dsimp only at L ⊢;cases q3:Xke ks with
    |none=>rw[q3]at L;cases L rfl|some r=>have q:=Xby q2;subst q;obtain⟨b,ws,rfl,_,hw,ak⟩:=I2.lstR q1 QN5;obtain⟨ap,its,c,ai,eo⟩:=(show ObjOk X.prog X.w H2 s2.heap b QV2 from I2.inv.hok b _ hw);cases rv;refine Vp (Xyz (E:=λ_ _=>False) hu I2 lm (λpc s H ρ k v u I hl rv rd=>?_) Qp3 ak ai q3) (λw s3 z=>Q84.pre al) λ_ _ z=>z.elim;refine Xyx (A:=X.A.in1.in1) (x:=x) (fb:=λenv S=>(match env[0]? with|some (yz d)=>.ok d S|_=>.bad:R D).bind λx S=>Xb2 yy (-1) x S) (show X.A.depth<_ from by have:=hL.dep;omega) (show X.A.handled=yy from I.inv.ok.hd hc) I.inv.ok.frames hS (λ_ _ _ _=>Xy8) (λam s H=>Xvz (l:=yy) QA rfl (X1j (i:=0) rfl hv hd aj) hr) hl I rv rd ?_;show Xb2 yy (-1) Qi4 S1=_;rw[Xov];show R.ok (D.tup Qd1.reverse) S1=.ok (D.tup (k.reverse.map D.int)) S1;rw[List.map_reverse]
 |_=>cases L rfl
universe e
universe Z
universe e
section
namespace Z
open PySem PySem.Spec PyProof.Rows L2
section
variable(cm:Bool)(F:Fn)(G:LD)(fns:LF)(gns:LS)
structure PF(X:Cx):Prop where
 blt:∀x∈blts,X.mg x=yy
 fn:∀(f:Nat) nm ar fl,fns[f]?=yz Qc4->Qn4->∃g fd ps k,FnD fl X.prog X.w X.K X.mg X.base k g fd ps (F f)/\RoomC fl k X.A/\Binds X.K fd ps []/\X.mg nm=yz Qy6/\Vdt X.K Qy6=yx/\(ll ps)=ar
 glb:∀(k:Nat) nm,gns[k]?=yz nm->∃u d,X.mg nm=yz u/\G[k]?=yz d/\∀ ρ H,∃v,RelV v u/\RD X.K ρ H d v
 clf:∀(f:Nat) (nm:Str),Xbk f nm G=yx->∃ar fl,fns[f]?=yz Qc4/\(∀a,Vac X.K Um nm=yz (yz Q11)->X.mg nm=yz Q11)/\∀xs S,F f xs S≠.bad->ll xs=ar
 units:X.A.units+200<Vbh
 gd:X.A.guards=yz []
 calm:cm=yx->X.calm=yx
 err:ErrOk X.K
theorem PF.blk(h:PF cm F G fns gns X)(pc:LA)(s:Vc)(H:Hp)(sc:U1)(L:List (Str×Addr))(C:Addr)(own:LS)(fp:LR):PF cm F G fns gns (blk X pc s H sc L C own fp):=
 ⟨h.blt,h.fn,h.glb,h.clf,h.units,h.gd,h.calm,h.err⟩
variable{X:Cx}{e:Expr}{f g:En->Sto->R D}
theorem DE.congr(h:DE X e f)(q:∀env S,g env S=f env S):DE X e g:=by have:g=f:=funext λenv=>funext λS=>q env S;rw[this];exact h
theorem DT.congr{f g:En->Sto->R Bool}(h:DT X e f)(q:∀env S,g env S=f env S):DT X e g:=by have:g=f:=funext λenv=>funext λS=>q env S;rw[this];exact h
theorem Ye6(ab:X.N.Nodup)(ht:∀x,top x=yx->X.fn x=yx)(L:LN)(es:LX)(h:mtT.namesB top X.env.scope X.N L es=yx):(∀E,PGs QB6 es (gNs L))/\QT1.length=L.length/\QT1.findIdx? Qo=none:=by
 have aa:∀(L:LN) (es:LX),mtT.namesB top X.env.scope X.N L es=yx->∃xs:List (Str×Pos),es=xs.map (λx=>Expr.Name x.1 x.2)/\L.length=ll xs/\∀(j i:Nat) (x:Str×Pos),L[j]?=yz i->xs[j]?=yz x->X.N[i]?=yz x.1/\Loc X.env.scope x.1/\(X.fn x.1=yx\/X.env.scope.names.lookup x.1=yz .local):=by
  intro L;induction L with
  |nil=>
   intro es h;cases es with
   |nil=>exact⟨[],rfl,rfl,λj i x e1 _=>by simp at e1⟩|cons _ _=>simp[mtT.namesB]at h
  |cons i L ih=>
   intro es h;cases es with
   |nil=>simp[mtT.namesB]at h|cons e es=>
    simp only[mtT.namesB,bA0]at h;obtain⟨x,h1,h2⟩:=any_some h.1;obtain⟨p,rfl⟩:=Xax h1;rw[bA0,decide_eq_true_eq]at h2;obtain⟨xs,e1,e2,e3⟩:=ih es h.2;obtain⟨l1,l2⟩:=Xgt rfl ht h2.2;refine⟨(x,p)::xs,by rw[e1];rfl,by simp[e2],λj i' x' q1 q2=>?_⟩;cases j with
    |zero=>simp at q1 q2;subst q1 q2;exact⟨h2.1,l1,l2⟩|succ j=>exact e3 j i' x' (by simpa using q1) (by simpa using q2)
 obtain⟨xs,e1,e2,e3⟩:=aa L es h;subst e1;have nm:=Xi3 xs X.env;exact⟨λE=>Xu2 (X:=X.wish E) L xs ab e2 e3,by rw[nm.1,e2],nm.2⟩
theorem Ye7(L:X.N.Nodup)(ht:∀x,top x=yx->X.fn x=yx)(h:mtT top X.env.scope X.N (.tup is) tg=yx):∃es k p,tg=.Tuple es k p/\(∀E,PGs QB6 es (gNs is))/\QT1.length=ll is/\QT1.findIdx? Qo=none:=by simp only[mtT]at h;obtain⟨es,h1,h⟩:=any_some h;obtain⟨k,p,rfl⟩:=Xcz h1;exact⟨es,k,p,rfl,Ye6 L ht is es h⟩
theorem dgB(hN:X.N=N)(hs:X.env.scope=sc)(L:N.Nodup)(hc:X8q t=yw->X.calm=yx)(ht:∀x,top x=yx->X.fn x=yx)(h:mtT top sc N t tg=yx):DG X tg t:=by
 subst hN hs;cases t with
 |var i=>simp only[mtT]at h;obtain⟨x,h1,h2⟩:=any_some h;obtain⟨p,rfl⟩:=Xax h1;rw[bA0,decide_eq_true_eq]at h2;obtain⟨l1,l2⟩:=Xgt rfl ht h2.2;exact X26 L h2.1 l1 l2|tup is=>obtain⟨es,k,p,rfl,q1,q2,q3⟩:=Ye7 L ht h;exact X70 QI2 q1 q2 q3
universe e
theorem Xrh:∀(es:Exs) (xs:LX),mts cm fns gns sc N es xs=yx->∀env S ds S',evs F G es env S=.ok ds S'->ll ds=ll xs
 |.nil,[]=>λ_ env S ds S' h=>by simp only[evs]at h;cases h;rfl|.nil,_::_=>λh _ _ _ _ _=>by simp[mts]at h|.cons _ _,[]=>λh _ _ _ _ _=>by simp[mts]at h|.cons e es,x::xs=>λh env S ds S' q=>by
  simp only[mts,bA0]at h;simp only[evs]at q;cases q1:ev F G e env S with
  |bad=>rw[q1]at q;cases q|ex _ _=>rw[q1]at q;cases q|ok d S1=>
   rw[q1]at q;simp only[Rk0]at q;cases L:evs F G es env S1 with
   |bad=>rw[L]at q;cases q|ex _ _=>rw[L]at q;cases q|ok aa S2=>rw[L]at q;simp only[Rk0]at q;cases q;simp[Xrh es xs h.2 env S1 aa _ L]
theorem Xa8:∀(es:Exs) (xs:LX),mts cm fns gns sc N es xs=yx->xs.all Yc=yx
 |.nil,[]=>λ_=>rfl|.nil,_::_=>λh=>by simp[mts]at h|.cons _ _,[]=>λh=>by simp[mts]at h|.cons e es,x::xs=>λh=>by simp only[mts,bA0]at h;rw[Vb4,h.1.1,Xa8 es xs h.2];rfl
theorem X35{k:Bl}{nm:Str}{b:Bool}{id:String}(h:Xs2 k=yz (nm,b,id))(aa:∃o,X.K.lookup Vb0=yz o)(ab:X.A.guards=yz [])(L:X.A.units+200<Vbh)(hc:Xs3 k=yw->X.calm=yx):nm∈blts/\(if b then Veo nm=yz Qw/\BlR X k Qw else Veo nm=yz QD6/\BlR X k QD6):=by
 cases k<;>simp only[Xs2,Vr,Vd8,reduceCtorEq]at h<;>obtain⟨rfl,rfl,rfl⟩:=h
 case len=>exact⟨by decide,PySem.boot_len,Ycv⟩
 case min=>exact⟨by decide,by decide+kernel,Yc0 QI2⟩
 case max=>exact⟨by decide,by decide+kernel,Ycz QI2⟩
 case smB=>exact⟨by decide,by decide+kernel,Ycy QI2⟩
 case srt=>exact⟨by decide,by decide+kernel,Yc5 L⟩
 case all=>exact⟨by decide,by decide+kernel,Ycw QI2⟩
 case anb=>exact⟨by decide,by decide+kernel,Ycx QI2⟩
 case tuple=>exact⟨by decide,by decide+kernel,X3e⟩
 case list=>exact⟨by decide,by decide+kernel,X79⟩
 case repr=>exact⟨by decide,by decide+kernel,X8h aa ab L⟩
 case itB=>exact⟨by decide,by decide+kernel,Yc4⟩
section
variable{F:Fn}{G:LD}{cm:Bool}{fns:LF}{gns:LS}
theorem X36(h:Xy1 fx=yx)(args:LX)(pos:Pos)(env:Vbk):eval QB3 env=Qx:=by cases fx<;>first|rfl|exact ff h
theorem Ydj(hp:PF cm F G fns gns X)(hc:cm=yx)(hx:∀(args:LX) (pos:Pos) (env:Vbk),eval QB3 env=Qx)
  (hf:DE X fx f) (ha:DA X Q50 ga) (he:Ui Q50 X.env=QO0::Ui es X.env) (ab:Qz0.any Qo=yw):
  DE X (.Call fx Q50 [] pos) (λenv S=>QQ0.bind λx S=>match x with
   |.fn k nm=>if Xbk k nm G then Q56.bind λxs S=>F k xs S else .bad
   |_=>.bad):=by
 intro pc s σ H ρ S env I nb;dsimp only at nb ⊢;rw[hx];refine Va (hf.bind I nb rfl (λd S1 u s1 v H1 ah e1 L I1 rv rd aa=>?_) λ_ _ z=>z);rw[e1];cases d with
 |fn k nm=>
  dsimp only at L ⊢;by_cases hi:Xbk k nm G=yx
  ·rw[iP0 hi]at L ⊢;obtain⟨ar,fl,q1,q2,q3⟩:=hp.clf k nm hi;obtain⟨g,fd,ps,kk,c1,c2,c3,c4,c5,c6⟩:=hp.fn k nm ar fl q1 λ_=>hc;simp only[RD]at rd;obtain⟨a,rfl,hn⟩:=rd;have:=(q2 a hn).symm.trans c4;cases this;cases rv;cases q:ga env S1 with
   |bad=>rw[q]at L;cases L rfl|ex n S2=>exact Vgr (h₀:=X.base) I1.inv.ok.mod.kin c5 (ha.ex I1 q λx s' z=>⟨n,S2,rfl,z.pre aa⟩) he ab|ok ds S2=>rw[q]at L;simp only[Rk0]at L ⊢;refine Vgr (h₀:=X.base) I1.inv.ok.mod.kin c5 (ha.ok I1 q λus s2 vs H2 ai I2 ae af ac=>⟨I2.inv.kIn,?_⟩) he ab;exact Vp (X1n c1 c2 c3 I2 ae af (by rw[c6];exact q3 _ _ L) L) (λu s2 z=>Q84.pre aa) λx s2 z=>Q84.pre aa
  rw[iN0 hi]at L;cases L rfl|_=>cases L rfl
theorem Yi(h:DE X e f)(L:∀whole,isTrue e X.env whole=(do let v <- whole;standAt e.pos;Vge [v] (truthy v))):DE X e f/\DT X e (λenv S=>tst QQ0):=⟨h,.of h L⟩
theorem DW.of(h:DT X QK4 g):DW X QK4 g:=λ_=>h
def X9o(F:Fn)(G:LD)(X:Cx)(sc2:U1)(N2:LS)(aa:Cx->Prop):Gens->List Vbp->Prop
 |.cons t it ifs .nil,gens=>∃tg iter cs,gens=[Ql1]/\Xb9 iter=yx/\mtT QM3 sc2 N2 t tg=yx/\DI X tg iter Qy2/\∀Y:Cx,Y.N=N2->Y.env.scope=sc2->aa Y->DTs Y cs Qo4|.cons t it ifs QJ0,gens=>∃tg iter cs ab L ac,gens=[Ql1,⟨ab,L,ac,0⟩]/\Xb9 iter=yx/\Xb9 L=yx/\mtT QM3 sc2 N2 t tg=yx/\mtT QM3 sc2 N2 t2 ab=yx/\DI X tg iter Qy2 /\
   (∀Y:Cx,Y.N=N2->Y.env.scope=sc2->aa Y->DTs Y cs Qo4)/\(∀Y:Cx,Y.N=N2->Y.env.scope=sc2->aa Y->DI Y ab L (evit F G it2))/\∀Y:Cx,Y.N=N2->Y.env.scope=sc2->aa Y->DTs Y ac (evts F G ifs2)|_,_=>False
set_option genInjectivity false in
structure CompP(X:Cx)(elt:Expr)(gens:List Vbp)(scope:U1)(cpos:Pos)(own:LS)(f:En->Sto->R D) where
 tg:Expr
 iter:Expr
 ifs:LX
 t:Tg
 fi:En->Sto->R Src
 tf:En->Sto->R Bool
 body:En->LD->Sto->R (LD)
 hg:gens=⟨tg,iter,ifs,0⟩::gens.tail
 hi:DI X tg iter fi
 hs:∀x,Vb8 iter X.env x=pure x
 hG:∀pc s H cl C fp,DG QN0 tg t
 hT:∀pc s H cl C fp,DTs QN0 ifs tf
 hB:∀pc s H cl C fp Da,Xct yw (LstA X.K Da) QN0 Da elt gens scope cpos 0 body
 eq:f=Xfl fi t (ll own) tf body
theorem Xri(hN:X.N=N)(hs:X.env.scope=sc)(hp:PF cm F G fns gns X)(hc:X.calm=yx)(so:ScOk sc scope N Qj)
  (hg:X9o F G X Qf2 QD4 Qk3 gs gens) (he:∀Y:Cx,Y.N=Xau N Qj->Y.env.scope=Xh6 scope sc->PF cm F G fns gns Y->DE Y elt (ev F G xe)):
  Nonempty (CompP X elt gens scope p Qj (ev F G (.cmr yw Qj.length gs xe))):=by
 subst hN hs;have hY:∀pc s H L C fp,PF cm F G fns gns Qx1:=λpc s H L C fp=>PF.blk cm F G fns gns hp pc s H scope L C Qj fp;have aa:∀ {t:Tg} {tg:Expr},mtT (Xcj X.N QN3) (Xh6 scope X.env.scope) QN3 t tg=yx->∀pc s H L C fp,DG Qx1 tg t:=λh pc s H L C fp=>dgB (top:=Xcj X.N QN3) rfl rfl so.nd (λ_=>hc) (λ_ z=>X3i z) h;match gs,hg with
 |.cons t it ifs .nil,hg=>obtain⟨tg,iter,cs,rfl,n1,m1,i1,t1⟩:=hg;refine⟨⟨tg,iter,cs,t,evit F G it,evts F G ifs,_,rfl,i1,Xex n1,aa m1,λpc s H L C fp=>t1 _ rfl rfl Q30,λpc s H L C fp Da=>Xl6 rfl Qs3,?_⟩⟩;funext env S;simp only[ev,Xfl];rfl|.cons t it ifs QJ0,hg=>
  obtain⟨tg,iter,cs,ae,ac,af,rfl,n1,n2,m1,m2,i1,t1,i2,ab⟩:=hg;refine⟨⟨tg,iter,cs,t,evit F G it,evts F G ifs,_,rfl,i1,Xex n1,aa m1,λpc s H L C fp=>t1 _ rfl rfl Q30,
   λpc s H L C fp Da=>Xu6 LstA.ok hc rfl (i2 _ rfl rfl Q30) (Xex n2) (aa m2 pc s H L C fp) (ab _ rfl rfl Q30) (Xl6 rfl Qs3),?_⟩⟩
  funext env S;simp only[ev,Xfl];rfl
theorem Xy9 {k:Bl} {es:Exs} {x:Str} {ys:LX} (ab:∃o,X.K.lookup Vb0=yz o) (ae:X.A.guards=yz []) (ac:X.A.units+200<Vbh) (hg:Gl X x) (hb:∀x∈blts,X.mg x=yy) (hc:Xs3 k=yw->X.calm=yx) (h1:blB k x=yx) (o1:QY=yw) (o3:x ≠ "__name__") (ih:DA X Q8 Qw1)
  (he:Ui Q8 X.env=(yw,eval y X.env)::Ui ys X.env) (aa:(Vbs p (Ui ys X.env)).any Qo=yw):DE X (.Call (.Name x p0) Q8 [] p) (ev F G Qw5):=by
 unfold blB at h1;cases q:Xs2 k with
 |none=>rw[q]at h1;cases h1|some z=>
  obtain⟨nm,b,id⟩:=z;rw[q]at h1;dsimp only at h1;have e1:x=nm:=oD0 h1;subst e1;obtain⟨m1,L⟩:=X35 q ab ae ac hc;cases b with
  |true=>rw[iP0 rfl]at L;exact(X8e L.2 hg QP6 L.1 ih o3 o1 he aa).congr λenv S=>by simp only[ev]|false=>rw[iN0 U5]at L;exact(X8f L.2 hg QP6 L.1 ih o3 o1 he aa).congr λenv S=>by simp only[ev]
theorem Xza(h1:mtB k nm=yx)(h2:Xh5 ox=yx)(h3:QR0=yx)(h4:Q8.length<29)(io:DE X ox Q76)(ih:DA X Q8 Qw1)(st:Q8.all Yc=yx):
  DE X (.Call QR3 Q8 [] cp) (ev F G QF5):=by
 have L:Qg=true:=by
  rw[Xoe st];have:Q8.length+Q60.length+(if Q60.isEmpty then 0 else 1)<30:=by simp only[Vcd,List.isEmpty_nil,if_true];omega
  rw[decide_eq_true this];rfl
 rw[Vb4,bA0]at st;have aa:∀ {m:Mt} (x:D) (S:Sto),Xah m x S=yx->∃n xs,x=.ref n/\Xc S n=yz xs:=λ{m} x S h=>by
  cases x with
  |ref n=>have h':(Xc S n).isSome=true:=h;obtain⟨xs,e⟩:=Vch.mp h';exact⟨n,xs,rfl,e⟩|_=>cases h
 cases k with
 |append=>have e1:nm="append":=oD0 h1;subst e1;exact(Xi6 (m:=.append) (id:="list.append") PySem.F.slot_list_append PySem.F.type_list_append Xyn aa io ih Q13 L h3 QS0 Q80).congr λenv S=>by simp only[ev]|xtd=>have e1:nm="extend":=oD0 h1;subst e1;exact(Xi6 (m:=.xtd) (id:="list.extend") PySem.F.slot_list_extend PySem.F.type_list_extend Yc1 aa io ih Q13 L h3 QS0 Q80).congr λenv S=>by simp only[ev]|count=>have e1:nm="count":=oD0 h1;subst e1;exact(Xi6 (m:=.count) (id:="list.count") PySem.F.slot_list_count PySem.F.type_list_count X3f aa io ih Q13 L h3 QS0 Q80).congr λenv S=>by simp only[ev]|index=>have e1:nm="index":=oD0 h1;subst e1;exact(Xi6 (m:=.index) (id:="list.index") Vg8 PySem.F.type_list_index X3g aa io ih Q13 L h3 QS0 Q80).congr λenv S=>by simp only[ev]
theorem Xzb(hu:X.A.units+1<Vbh)(h2:Xh5 ox=yx)(h3:QR0=yx)(h4:Q8.length<29)(io:DE X ox Q76)(ih:DA X Q8 Qw1)(st:Q8.all Yc=yx):
  DE X (.Call QW2 Q8 [] cp) (ev F G Qu5):=by
 have L:Qg=true:=by
  rw[Xoe st];have:Q8.length+Q60.length+(if Q60.isEmpty then 0 else 1)<30:=by simp only[Vcd,List.isEmpty_nil,if_true];omega
  rw[decide_eq_true this];rfl
 rw[Vb4,bA0]at st;exact(Ydg hu io ih Q13 L h3 QS0 Q80).congr λenv S=>by simp only[ev]
theorem Xzc (er:ErrOk X.K) (hb:∀x∈blts,X.mg x=yy) (L:Gl X "isinstance") (hg:Gl X nm) (hok:Xa3 nm=yx) (ht:tyB sc t nm=yx) (ha:DE X a fa) (aa:Yc a=yx):
  DE X Qn QH:=by
 cases t with
 |cls c=>exact Xvt er (.inl ⟨c,rfl,oD0 ht⟩) hb L hg hok ha aa|valueError=>exact Xvt er (.inr ⟨rfl,oD0 ht⟩) hb L hg hok ha aa|int=>have e:=oD0 ht;subst e;exact Xeb (t:=.int) rfl hb L hg hok ha aa|bool=>have e:=oD0 ht;subst e;exact Xeb (t:=.bool) rfl hb L hg hok ha aa|str=>have e:=oD0 ht;subst e;exact Xeb (t:=.str) rfl hb L hg hok ha aa|tuple=>have e:=oD0 ht;subst e;exact Xeb (t:=.tuple) rfl hb L hg hok ha aa|list=>have e:=oD0 ht;subst e;exact Xeb (t:=.list) rfl hb L hg hok ha aa|dict=>have e:=oD0 ht;subst e;exact Xeb (t:=.dict) rfl hb L hg hok ha aa
theorem X37 (er:ErrOk X.K) (hb:∀x∈blts,X.mg x=yy) (hs:X.env.scope=sc) (L:Gl X "isinstance") (ht:tyM sc ts y=yx) (ha:DE X a fa) (aa:Yc a=yx):
  DE X (.Call Q00 [a,y] [] pos) (λenv S=>QE1.bind λx S=>match (kdD S x).bind λk=>Xam k ts with|some r=>.ok QF7 S|none=>.bad):=by
 obtain⟨t,nm,p,rfl,rfl,h1,h2,h3⟩:=X9i ht;exact Xzc er hb L Qp5 h2 h3 ha aa
set_option maxHeartbeats 0 in
theorem X9p{k:Nat}(h:Xy0 d c=yx):DE X (.Constant c k p) (ev F G Qz6):=by
 cases d with
 |int i=>cases c with
  |int j=>cases eq_of_beq (show QN6=yx from h);exact d_int.congr λenv S=>by simp only[ev]|_=>cases h
 |bl i=>cases c with
  |bool j=>cases eq_of_beq (show QN6=yx from h);exact d_bl.congr λenv S=>by simp only[ev]|_=>cases h
 |non=>cases c with
  |none=>exact d_non.congr λenv S=>by simp only[ev]|_=>cases h
 |str i=>cases c with
  |str j=>cases oD0 (show decide (i=j)=yx from h);exact d_str.congr λenv S=>by simp only[ev]|_=>cases h
 |_=>cases h
mutual
theorem snd:∀(x:Ex) (X:Cx) (sc:U1) (N:LS) (e:Expr),X.N=N->X.env.scope=sc->PF cm F G fns gns X->mt cm fns gns sc N x e=yx->DE X e (ev F G x)/\DT X e (λenv S=>tst (ev F G x env S))
 |.nev=>λX sc N e hN hs L h=>⟨λ_ _ _ _ _ _ _ _ nb=>aB0 (by simp only[ev]) nb,λ_ _ _ _ _ _ _ _ nb=>aB0 (by simp only[ev]<;>rfl) nb⟩|.var i=>λX sc N e hN hs L h=>by obtain⟨x,p,rfl,h1,h2,h3⟩:=X80 h;subst hN hs;obtain⟨o1,o2,_⟩:=Xbd h3;exact Yi ((X1j h1 (Xq7 h2) o1 o2).congr λenv S=>by simp only[ev]<;>rfl) λ_=>rfl|.cst d=>λX sc N e hN hs L h=>by obtain⟨c,k,p,rfl,h⟩:=X81 h;exact Yi (X9p h) λ_=>rfl|.neg a=>λX sc N e hN hs L h=>by obtain⟨x,p,rfl,h⟩:=X82 h;exact Yi ((X1r (snd a X sc N x hN hs L h).1).congr λenv S=>by simp only[ev]<;>rfl) λ_=>rfl|.glb k=>λX sc N e hN hs L h=>by obtain⟨x,p,rfl,h1,h2,h3⟩:=X84 h;obtain⟨o1,o2,_⟩:=Xbd h3;obtain⟨u,d,q1,q2,q3⟩:=L.glb k x h1;exact Yi ((Yc3 Qe0 q1 q3 o1).congr λenv S=>by simp only[ev,q2]) λ_=>rfl|.tup es=>λX sc N e hN hs L h=>by obtain⟨xs,k,p,rfl,h⟩:=X85 h;exact Yi ((Ycc Q42).congr λenv S=>by simp only[ev]) λ_=>rfl|.lst es=>λX sc N e hN hs L h=>by obtain⟨xs,p,rfl,h⟩:=X86 h;exact Yi ((Ycd Q42).congr λenv S=>by simp only[ev]) λ_=>rfl|.dct0=>λX sc N e hN hs L h=>by obtain⟨p,rfl⟩:=X3s h;exact Yi (d_dct0.congr λenv S=>by simp only[ev]) λ_=>rfl|.bin op a b=>λX sc N e hN hs L h=>by obtain⟨x,y,p,rfl,h1,h2⟩:=X87 h;exact Yi ((Yce (Ycq op) QN2.1 (snd b X sc N y hN hs L h2).1).congr λenv S=>by simp only[ev]) λ_=>rfl|.cmp op a b=>λX sc N e hN hs L h=>by obtain⟨x,y,p,rfl,h1,h2,h3⟩:=Xvo h;have ha:=Qq.1;have hb:=Qd0.1;exact⟨(Ycf QQ4 ha hb h1).congr λenv S=>by simp only[ev],(X7j QQ4 ha hb h1).congr λenv S=>by simp only[ev]⟩|.chn o1 o2 a b c=>λX sc N e hN hs L h=>by obtain⟨x,y,z,p,rfl,h1,h2,h3,h4⟩:=X88 h;have ha:=Qq.1;have hb:=Qd0.1;have hc:=(snd c X sc N z hN hs L h4).1;exact⟨(Yc2 QS4 QR4 ha hb hc h1).congr λenv S=>by simp only[ev,Y9]<;>rfl,(X8d QS4 QR4 ha hb hc h1).congr λenv S=>by simp only[ev,Y9]<;>rfl⟩|.and a b=>λX sc N e hN hs L h=>by
  rcases X89 h with⟨x,y,p,rfl,h1,h2⟩|⟨x,y,z,r,p,rfl,h1,h2⟩;·have ha:=snd a X sc N x hN hs L h1;have hb:=snd b X sc N y hN hs L h2;exact⟨(X1k ha.1 QA6).congr λenv S=>by simp only[ev]<;>rfl,((Xuu ha.2 (X2s hb.2)).dt).congr λenv S=>by simp only[ev]<;>rfl⟩
  ·have ha:=snd a X sc N x hN hs L h1;have hb:=snd b X sc N Qb3 hN hs L h2;exact⟨(X1k ha.1 hb.1).congr λenv S=>by simp only[ev]<;>rfl,((Xuu ha.2 QE6).dt).congr λenv S=>by simp only[ev]<;>rfl⟩|.or a b=>λX sc N e hN hs L h=>by
  rcases Yda h with⟨x,y,p,rfl,h1,h2⟩|⟨x,y,z,r,p,rfl,h1,h2⟩;·have ha:=snd a X sc N x hN hs L h1;have hb:=snd b X sc N y hN hs L h2;exact⟨(X7k ha.1 QA6).congr λenv S=>by simp only[ev]<;>rfl,((X1m ha.2 (X7m hb.2)).dt).congr λenv S=>by simp only[ev]<;>rfl⟩
  ·have ha:=snd a X sc N x hN hs L h1;have hb:=snd b X sc N Qo3 hN hs L h2;exact⟨(X7k ha.1 hb.1).congr λenv S=>by simp only[ev]<;>rfl,((X1m ha.2 QE6).dt).congr λenv S=>by simp only[ev]<;>rfl⟩|.not a=>λX sc N e hN hs L h=>by obtain⟨x,p,rfl,h⟩:=X83 h;have ha:=snd a X sc N x hN hs L h;exact⟨(Ycg ha.2 ha.1).congr λenv S=>by simp only[ev]<;>rfl,(X7l ha.2).congr λenv S=>by simp only[ev]<;>rfl⟩|.ite c a b=>λX sc N e hN hs L h=>by obtain⟨x,y,z,p,rfl,h1,h2,h3⟩:=X9a h;have hc:=snd c X sc N x hN hs L h1;have ha:=snd a X sc N y hN hs L h2;have hb:=snd b X sc N z hN hs L h3;exact⟨(Ych hc.2 ha.1 hb.1).congr λenv S=>by simp only[ev]<;>rfl,(X8c hc.2 ha.2 hb.2).congr λenv S=>by simp only[ev]<;>rfl⟩|.idx a i=>λX sc N e hN hs L h=>by obtain⟨x,y,p,rfl,h1,h2,h3⟩:=X9b h;exact Yi ((Ycs (Xs0 h1) Qq.1 (snd i X sc N y hN hs L h3).1).congr λenv S=>by simp only[ev]) λ_=>rfl|.sli a lo hi=>λX sc N e hN hs L h=>by obtain⟨x,l,u,p2,p,rfl,h1,h2,h3⟩:=X9j h;exact Yi ((X1u QN2.1 (sndo lo X sc N l hN hs L h2) (sndo hi X sc N u hN hs L h3)).congr λenv S=>by simp only[ev]<;>rfl) λ_=>rfl|.rev a=>λX sc N e hN hs L h=>by obtain⟨x,y,p,rfl,h1,h2⟩:=X9l h;exact Yi ((Xvz QA rfl Qq.1 h1).congr λenv S=>by simp only[ev];congr 1;funext x S;exact(Xov x S).symm) λ_=>rfl|.cal f es=>λX sc N e hN hs L h=>by obtain⟨fx,y,ys,p,rfl,h1,h2,h3,h4⟩:=X9k h;have st:=Xa8 es Q8 h4;rw[Vb4,bA0]at st;exact Yi ((Ydj L h1 (X36 h2) (snd f X sc N fx hN hs L h3).1 Qt1 QS0 Q80).congr λenv S=>by simp only[ev]<;>rfl) λ_=>rfl|.lenm a=>λX sc N e hN hs L h=>by obtain⟨p,p2,x,cp,ac,rfl,h1,h2,h3,h4,h5⟩:=X3t h;have ih:=(snd a X sc N x hN hs L h5).1;exact Yi ((X8p Qt5 Qe0 QA1 (Xaq hs h3) QA1 ih (Xq h4)).congr λenv S=>by simp only[ev]<;>rfl) λ_=>rfl|.isi a ts=>λX sc N e hN hs L h=>by obtain⟨p0,x,y,cp,rfl,h1,h2,h3,h4⟩:=X9h h;have ih:=(snd a X sc N x hN hs L h3).1;exact Yi ((X37 L.err L.blt hs Qp5 h4 ih h2).congr λenv S=>by simp only[ev]<;>rfl) λ_=>rfl|.call f es=>λX sc N e hN hs L h=>by obtain⟨x,p0,y,ys,p,rfl,h1,h2,h3,h4⟩:=X3u h;obtain⟨o1,o2,_⟩:=Xbd h3;obtain⟨fl,h1,ab⟩:=h1;obtain⟨g,fd,ps,k,c1,c2,c3,c4,c5,c6⟩:=L.fn f x _ fl h1 ab;have st:=Xa8 es Q8 h4;rw[Vb4,bA0]at st;exact Yi ((X7q c1 c2 c3 Qe0 c4 c5 Qt1 (λenv S ds S' q=>by rw[c6];exact Xrh es Q8 h4 env S ds S' q) o1 QS0 Q80).congr λenv S=>by simp only[ev]) λ_=>rfl|.blt k es=>λX sc N e hN hs L h=>by obtain⟨x,p0,y,ys,p,rfl,h1,hq,h2,h3,h4⟩:=X9e h;obtain⟨o1,o2,o3⟩:=Xbd h3;have st:=Xa8 es Q8 h4;rw[Vb4,bA0]at st;have ih:=snds es X sc N Q8 hN hs L h4;exact Yi (Xy9 L.err.sm L.gd L.units Qe0 L.blt (λz=>L.calm (by rw[z,Vey]at hq;exact hq)) h1 o1 o3 ih QS0 Q80) λ_=>rfl|.mth k o es=>λX sc N e hN hs L h=>by obtain⟨ox,nm,ap,y,ys,cp,rfl,h1,h2,h3,h4,h5,h6⟩:=X9f h;have st:=Xa8 es Q8 h6;have ih:=snds es X sc N Q8 hN hs L h6;have io:=QF2.1;exact Yi (Xza h1 h2 h3 h4 io ih st) λ_=>rfl|.dup o es=>λX sc N e hN hs L h=>by obtain⟨ox,ap,y,ys,cp,rfl,h2,h3,h4,h5,h6⟩:=X9g h;have st:=Xa8 es Q8 h6;have ih:=snds es X sc N Q8 hN hs L h6;have io:=QF2.1;exact Yi (Xzb Q83 h2 h3 h4 io ih st) λ_=>rfl|.dcl a=>λX sc N e hN hs L h=>by obtain⟨p,x,cp,rfl,h1,h2,h3,h4⟩:=X9c h;have ih:=(snd a X sc N x hN hs L h4).1;exact Yi ((Ydd L.units Qt5 Qe0 QA1 ih (Xq h3)).congr λenv S=>by simp only[ev]<;>rfl) λ_=>rfl|.idc ng a b=>λX sc N e hN hs L h=>by obtain⟨x,y,p,rfl,h1,h2,h3⟩:=X9d h;have ha:=Qq.1;have hb:=Qd0.1;have ho:=Yde (X:=X) (ng:=ng) Q83;exact⟨DE.congr (λpc s σ H ρ S env I nb=>wpAny_Compare1 (two ho ha hb I nb rfl) h1) λenv S=>by simp only[ev]<;>rfl,(Xqn X9m ho ha hb h1).congr λenv S=>by simp only[ev]<;>rfl⟩|.cmr k n gs elt=>λX sc N e hN hs L h=>by obtain⟨ee,gens,scope,p,rfl,h0,h1,h2,h3,h4,h5⟩:=Xvp h;subst h1 h2;have so:=Xvm h3;have aa:=L.calm h0;obtain⟨c⟩:=Xri (p:=p) hN hs L aa so (sndg gs X sc N _ _ gens hN hs L h4) (λY y1 y2 y3=>(snd elt Y _ _ ee y1 y2 y3 h5).1);subst hN hs;refine Yi ?_ λ_=>rfl;rw[c.eq];exact X78 aa so rfl c.hg c.hi c.hs c.hG c.hT c.hB
theorem sndo:∀(o:Op) (X:Cx) (sc:U1) (N:LS) (x:Option Expr),X.N=N->X.env.scope=sc->PF cm F G fns gns X->mto cm fns gns sc N o x=yx->DO X x (evo F G o)
 |.none=>λX sc N x hN hs L h=>by
  cases x with
  |none=>
   have:evo F G .none=λ_ S=>.ok yy S:=by funext env S;simp only[evo]
   rw[this];exact Xrf|some _=>cases h
 |.some e=>λX sc N x hN hs L h=>by
  cases x with
  |none=>cases h|some x=>
   have h':mt cm fns gns sc N e x=true:=h;have:evo F G (.some e)=λenv S=>Q31.bind λx S=>.ok QJ7 S:=by funext env S;simp only[evo]
   rw[this];exact Xrg (snd e X sc N x hN hs L h').1
theorem snds:∀(es:Exs) (X:Cx) (sc:U1) (N:LS) (xs:LX),X.N=N->X.env.scope=sc->PF cm F G fns gns X->mts cm fns gns sc N es xs=yx->DA X xs Qw1
 |.nil,X,sc,N,[]=>λhN hs L h=>by
  have:evs F G .nil=λ_ S=>.ok [] S:=by funext env S;simp only[evs]
  rw[this];exact X7i|.cons e es,X,sc,N,x::xs=>λhN hs L h=>by
  simp only[mts,bA0]at h;have:evs F G QW5=λenv S=>Q31.bind λx S=>Qf1.bind λxs S=>.ok (x::xs) S:=by funext env S;simp only[evs]
  rw[this];exact X2r Qv1.1 (snds es X sc N xs hN hs L h.2) (Xq h.1.1)|.nil,X,sc,N,_::_=>λhN hs L h=>by simp[mts]at h|.cons _ _,X,sc,N,[]=>λhN hs L h=>by simp[mts]at h
theorem Xtd:∀(es:Exs) (X:Cx) (sc:U1) (N:LS) (xs:LX),X.N=N->X.env.scope=sc->PF cm F G fns gns X->mts cm fns gns sc N es xs=yx->DTs X xs (evts F G es)
 |.nil,X,sc,N,[]=>λhN hs L h=>by
  have:evts F G .nil=λ_ S=>.ok yx S:=by funext env S;simp only[evts]
  rw[this];exact X29|.cons e es,X,sc,N,x::xs=>λhN hs L h=>by
  simp only[mts,bA0]at h;have:evts F G QW5=λenv S=>Q31.bind λx S=>match Xe S x with|some yx=>evts F G es env S|some yw=>.ok yw S|none=>.bad:=by funext env S;simp only[evts]<;>rfl
  rw[this];exact Xym Qv1.2 (Xtd es X sc N xs hN hs L h.2)|.nil,X,sc,N,_::_=>λhN hs L h=>by simp[mts]at h|.cons _ _,X,sc,N,[]=>λhN hs L h=>by simp[mts]at h
theorem Xte:∀(it:It) (X:Cx) (sc:U1) (N:LS) (tg x:Expr),X.N=N->X.env.scope=sc->PF cm F G fns gns X->(Xs5 it=yx->∃es k p,tg=.Tuple es k p)->mtI cm fns gns sc N it x=yx->DI X tg x Qy2
 |.val e=>λX sc N tg x hN hs L _ h=>by
  simp only[mtI]at h;have:evit F G (.val e)=λenv S=>Q31.bind λx S=>match Yq S x with|some r=>.ok r S|none=>.bad:=by funext env S;simp only[evit]<;>rfl
  rw[this];exact X71 (snd e X sc N x hN hs L h).1|.rng es=>λX sc N tg x hN hs L _ h=>by
  obtain⟨p0,y,ys,p,rfl,h2,h3⟩:=X3w h;have st:=Xa8 es Q8 h3;rw[Vb4,bA0]at st;have:evit F G Qa6=λenv S=>Qf1.bind λxs S=>match Yn xs with|some ds=>.ok (.con ds) S|none=>.bad:=by funext env S;simp only[evit]<;>rfl
  rw[this];exact X72 Qe0 QA1 Qu1 QS0 Q80|.enm es=>λX sc N tg x hN hs L ht h=>by
  obtain⟨p0,y,ys,p,rfl,h2,h3⟩:=X3v h;obtain⟨ts,k,tp,rfl⟩:=ht rfl;have st:=Xa8 es Q8 h3;rw[Vb4,bA0]at st;have:evit F G Qh6=λenv S=>Qf1.bind λxs S=>match xs with
   |[x]=>match Yq S x with
    |some s=>.ok (.enm s) S|none=>.bad
   |_=>.bad:=by funext env S;simp only[evit]<;>rfl
  rw[this];exact X73 Qe0 QA1 Qu1 QS0 Q80
theorem sndg:∀(gs:Gens) (X:Cx) (sc:U1) (N:LS) (sc2:U1) (N2:LS) (gens:List Vbp),X.N=N->X.env.scope=sc->PF cm F G fns gns X->mtG cm fns gns sc N sc2 N2 gs gens=yx->X9o F G X sc2 N2 Qk3 gs gens
 |.nil=>λX sc N sc2 N2 gens hN hs hp h=>(Yc6 h).elim|.cons t it ifs .nil=>λX sc N sc2 N2 gens hN hs hp h=>by obtain⟨tg,iter,cs,rfl,h2,h3,h4,h5,h6⟩:=Yc7 h;exact⟨tg,iter,cs,rfl,h2,hN▸h3,Xte it X sc N tg iter hN hs hp (Xja h6 h3) h4,λY y1 y2 y3=>Xtd ifs Y sc2 N2 cs y1 y2 y3 h5⟩|.cons t it ifs QJ0=>λX sc N sc2 N2 gens hN hs hp h=>by obtain⟨tg,iter,cs,aa,L,ab,rfl,h3,h4,h5,h6,h7,h8,h9,af,ac,ae⟩:=Yc8 h;exact⟨tg,iter,cs,aa,L,ab,rfl,h3,h4,hN▸h5,hN▸h8,Xte it X sc N tg iter hN hs hp (Xja ac h5) h6,λY y1 y2 y3=>Xtd ifs Y sc2 N2 cs y1 y2 y3 h7,λY y1 y2 y3=>Xte it2 Y sc2 N2 aa L y1 y2 y3 (Xja ae h8) h9,λY y1 y2 y3=>Xtd ifs2 Y sc2 N2 ab y1 y2 y3 af⟩|.cons t it ifs (.cons t2 it2 ifs2 (.cons _ _ _ _))=>λX sc N sc2 N2 gens hN hs hp h=>(Yc9 h).elim
end
variable{X:Cx}{pc:LA}{σ:L2.St}{H:Hp}{s:Vc}{ρ:LR}{S S':Sto}{env:En}{a b c e tg:Expr}{f fc:En->Sto->R D}{pos:Pos}
theorem X9q(he:DE X e f)(hg:DG X tg t)(hs:Ved [tg] e pos.line X.env=pure yw)(hw:Vee [tg] e X.env=pure yy)(h1:(Vbn [tg] X.env).map QK=[assign tg X.env]):
  DS X (.Assign [tg] e pos) yw (λenv S=>QQ0.bind λx S=>match Xn t x env with|some env=>.ok Qe6 S|none=>.bad):=by
 intro pc s σ H ρ S env I nb;dsimp only at nb ⊢;cases q:f env S with
 |bad=>rw[q]at nb;cases nb rfl|ex n S1=>exact Vih (he.ex I q λx s' z=>.of .refl z rfl) hs hw|ok d S1=>
  rw[q]at nb;simp only[Rk0]at nb ⊢;cases q2:Xn t d env with
  |none=>rw[q2]at nb;cases nb rfl|some L=>refine Vih (he.ok I q λu s' v H' ρ' J rv rd st=>?_) hs hw;rw[h1];exact hg pc s' σ H' ρ' S1 env d v u L _ _ J q2 rd rv λs2 aa I2=>⟨.nx L,S1,rfl,rfl,aa,H',ρ',I2,st,λz=>nomatch z⟩
theorem X38{kt k2 pt2}(hc:X.calm=yx)(hN:X.N.Nodup)(hi:X.N[i]?=yz x)(hj:X.N[j]?=yz y)(ab:i≠j)
  (hx:X.env.scope.names.lookup x=yz .local) (hy:X.env.scope.names.lookup y=yz .local) (ha:DA X [a,b] ga)
  (hw:Vee QD0 QC1 X.env=pure (yz Q05))
  (hs:Ved QD0 QC1 pos.line X.env=pure yw):
  DS X (.Assign QD0 QC1 pos) yw (λenv S=>Q56.bind λxs S=>if [i,j].length=ll xs then .ok (.nx (([i,j].zip xs).foldl (λe p=>e.set p.1 (yz p.2)) env)) S else .bad):=by
 intro pc s σ H ρ S env I L;dsimp only at L ⊢;rw[exec_Assign_arm];refine Va (Veb ?_);rw[hs];refine Va Qm;rw[iN0 QA];cases q:ga env S with
 |bad=>rw[q]at L;cases L rfl|ex n S1=>exact Va (Tuple_ (ha.ex I q λx s' z=>.of .refl z rfl))|ok ds S1=>
  rw[q]at L;simp only[Rk0]at L ⊢;split at L
  ·rename_i hl;rw[iP0 hl];obtain⟨d1,d2,rfl⟩:∃d1 d2,ds=[d1,d2]:=by
    match ds,hl with
    |[d1,d2],_=>exact⟨d1,d2,rfl⟩
   refine Va (Tuple_ (ha.ok I q λus s1 vs H1 ac I1 af aa aj=>?_));obtain⟨v,w,rfl,ak,ah⟩:=aa.two;obtain⟨u1,u2,rfl,rv,ae⟩:∃u1 u2,us=[u1,u2]/\RelV v u1/\RelV w u2:=by
    cases af with
    |cons p q=>
     cases q with
     |cons p' q'=>cases q';exact⟨_,_,rfl,p,p'⟩
   refine Vbo ?_ (by show 2<=V3;decide);have I2:Inv X pc σ H1 {s1 with heap:=s1.heap.push {cls:=.type "tuple",data:=.seq [u1,u2].toArray} }:=I1.inv.kept (t':=s1.toks) λb o e=>Vm _ e;rw[hw];refine Va Qm;show Vh Q4 X.A (do rule "assign.swapped-stores";let items <- unpackItems Qr2 2 yy;assignInOrder Qr0 items.reverse;pure Flow.next) _ _ _;refine Va (Vba (Va (unpackItems_tuple (items:=#[u1,u2]) (I.inv.ok.hd hc) (IsTup.new s1.heap _) λh' ai=>?_)));have I3:=I2.kept (h':=h') (t':=s1.toks) λb o e=>ai b o (Uq QN7) e;show Vh _ _ (assignInOrder Qr0 [u2,u1] >>= λ_=>pure Flow.next) _ _ _;refine Va (Vio (wpAny_bindName (Xbi I3 hN hj (.inl hy) ae (λs2 I4=>?_) (.inr hy))));refine Vio (wpAny_bindName (Xbi I4 hN hi (.inl hx) rv (λs3 I5=>assignInOrder_nil Qm) (.inr hx)));rw[List.set_comm _ _ (Ne.symm ab)]at I5;exact⟨.nx ((env.set i (yz d1)).set j (yz d2)),S1,rfl,rfl,_,H1,ac,⟨I5,I1.sr,(I1.er.set i ak).set j ah⟩,aj,λz=>nomatch z⟩
  cases L rfl
theorem X9r(hu:X.A.units+1<Vbh)(I:S0 X pc σ H s ρ S env)(L:Xdm x y d S≠.bad)(rx:RD X.K ρ H x vx)(qx:RelV vx ux)(ry:RD X.K ρ H y vy)(qy:RelV vy uy)(rd:RD X.K ρ H d v)(rv:RelV v u)
  (hQ:∀S' s' H',Xdm x y d S=.ok () S'->S0 X pc σ H' s' ρ S' env->Stp X.K ρ ρ H H'->Q () s'):Vh Q4 X.A (setItem ux uy u) Q Ev s:=by
 unfold Xdm at L hQ;cases x with
 |ref n=>dsimp only at L hQ;cases y with
  |int k=>
   dsimp only at L hQ;cases e:Z.lstM S n with
   |none=>rw[e]at L;cases L rfl|some xs=>
    rw[e]at L hQ;dsimp only at L hQ;cases e2:Z.ixN Qe4 k with
    |none=>rw[e2]at L;cases L rfl|some j=>
     rw[e2]at hQ;obtain⟨a,ws,rfl,ha,hv,hr⟩:=I.lstR e rx;simp only[RD]at ry;subst ry;have hl:L2.ixN ws.length k=yz j:=by rw[<-hr.length];exact e2
     refine thn (Xx5 (X:=X.wish Ev) pc s σ H Q11 (.int k) v ux uy u (λH'=>H'=upd H a Qm3) (I.inv.wish Ev) qx qy rv ⟨a,ws,k,j,rfl,rfl,hv,hl,rfl⟩) λ_ s' ⟨H',J,e3⟩=>?_;subst e3;have nf:∀o u,H a≠yz (.frz o u):=λo u z=>by rw[hv]at z;cases z
     have st:Stp X.K ρ ρ H (upd H a Qm3):=Stp.chg (S:=S) (o:=.lst (xs.set j d)) I.sr ha nf;exact hQ _ s' _ rfl ⟨J.unwish,I.sr.chg ha nf ⟨ws.set j v,Xl,(hr.set rd j).mono st⟩,I.er.mono st⟩ st
  |_=>cases L rfl
 |_=>cases L rfl
variable{o i:Expr}{fo fi:En->Sto->R D}{spos:Pos}
theorem X39(hu:X.A.units+1<Vbh)(he:DE X e f)(ho:DE X o fo)(hi:DE X i fi)(hs:Ved QM1 e pos.line X.env=pure yw)(hw:Vee QM1 e X.env=pure yy)
  (hA:∀v,assign QD1 X.env v=(do
   let ov <- Vge [v] Qc2
   let iv <- Vge [v,ov] (eval i X.env)
   standAt spos
   Vge Q17 (setItem ov iv v)
   release Q17 [])):
  DS X (.Assign QM1 e pos) yx (λenv S=>QQ0.bind λv S=>Ql2.bind λx S=>Q66.bind λy S=>Q95.bind λ_ S=>.ok Qe6 S):=by
 intro pc s σ H ρ S env I nb;dsimp only at nb ⊢;generalize hr:QQ0.bind (λv S=>Ql2.bind λx S=>Q66.bind λy S=>Q95.bind λ_ S=>R.ok (Fl.nx env) S)=r at nb ⊢;have h1:(Vbn [Expr.Subscript o i spos] X.env).map QK=[assign QD1 X.env]:=rfl;refine Vih (he.bind I QX1 hr.symm (λd S1 u s1 v H1 an e1 ai I1 rv rd ab=>?_) λx s' ⟨n,S2,e2,z⟩=>.of .refl z e2) hs hw;rw[h1];show Vh _ _ (assign QD1 X.env u) _ _ _;rw[hA];refine Va (Vak (ho.bind I1 ai e1 (λx S2 ux s2 vx H2 ao e2 af I2 ac aj aa=>?_) λx s' ⟨n,S3,e3,z⟩=>.of ab z e3));refine Va (Vak (hi.bind I2 af e2 (λy S3 uy s3 vy H3 ak e3 ae I3 al ah L=>?_) λx s' ⟨n,S4,e4,z⟩=>.of (ab.trans aa) z e4));refine Va (Veb (Va (Vak (X9r hu I3 (λz=>ae QQ5) (aj.mono L) ac ah al ((rd.mono aa).mono L) rv λS4 s4 H4 e4 I4 am=>?_))));refine wpAny_release ⟨.nx env,S4,by rw[e3,e4];rfl,rfl,σ,H4,ak,I4,ab.trans (aa.trans (L.trans am)),λ_=>rfl⟩
end
mutual
#check[by omega,.int n,.cst (.int 1),.var 2,.var 0,.var 1,(Vl w.length).map (Xae w s),.int k,.int 1,.var 3,0,0,0,0,0,0,0,w.map D.int,S.set q (.lst (acc++[.int m])),.int s,((g (w.getD i 0).toNat (s-i):Nat):Int),.cst (.int 0),.ref q,.int m,Vck nm nm (Xay st) (Yh st) (Xu st) .none kV aa pm an L ct,λenv L S=>(ev F G elt env S).bind λy S=>if (ll L)<big then .ok (L++[y]) S else .bad,by decide,Vl w.length,[isK c x1,isK c L,isK c x3,isK c x4],.int ((lw+hi)/2:Nat),k+1,.int 0,w.getD i 0,.var 4,((lw+hi)/2:Nat),[yz (Xa row),yz (.int kd),yz (.int p),yz (.int (row.getD p 0))],.int i,acc++[.int m],(S'++[O.lst ds]).set p (.lst [.int (v/c)]),((k+1:Nat):Int),row.getD p 0,Xa row,{cls:=.type "list",data:=.seq vs.toArray},0,0,0,0,0,0,.ref (ll S),((p+1:Nat):Int),(by omega+splitNatSub),lw+hi,ll xs,.cons Q4 .nil,.cons (.ite (.cmp .eq Q4 Q2) (.cons (.ret (nxS (Xk9 il))) .nil) .nil) (.cons (.ret (nxS (Xih il))) .nil),.cons Q5 .nil,.cons Q3 .nil,.expr (.mth .append Q3 (.cons (.var 5) .nil)),.call iw (.cons (.var 5) (.cons QQ .nil)),.ite (.or (.cmp .ne (.mth .count Q5 (.cons (.cst (.bl yx)) .nil)) Q2) (.not (.isi Q4 [.valueError]))) (.cons (.ret (.cst (.str "other"))) .nil) .nil,.rng (.cons Q5 (.cons QE (.cons (.neg Q2) .nil))),⟨m,h,x',by simp only[Yo,ht,hb];exact r1,r2⟩,[isK c 1,isK c 2,isK c 3,isK c 4,isK c 5,isK c 6,isK c 7,isK c 8,isK c 9,isK c 10,isK c 11,isK c 12,isK c 13,isK c 14,isK c 15,isK c 16],l.map D.int,S++[.lst QA],(by show exe F G _ [a0,a1,a2,yz Q1,yz Q7,yz (.int lw),yz (.int hi),yz QG] S=_;rw[exe,L,Rk0];simp only[Xe,pe,exe,ev,gZ0,gS0,Rk0,Xn,Vax]),[O.lst words1],words1++words2,by simp,.int r,.int hi,[.lst (Ym 0 QA)],.int lw,.cons QQ .nil,⟨Xm1 w.params,11,Xm2,Array.mk [],boot_drawn,boot_toks,os⟩,⟨_,rfl⟩,[.int n,.int s],[a0,a1,yz (.int p),yz (.int x)],i+1,[1,2,3,4,5,6,7,8,9,10,11,12,13,14,15,16],S++X,[yz QY,yz (.fn f nm),yy],[O.lst words2],∀a,Vac K Um nm=yz (yz (.ref a))->mg nm=yz (.ref a),0,0,0,0,0,0,0,.var 5,(xs.take i).map w,l.map Vce,ns.map D.int,by decide+kernel,.fn f nm,[yz Q1,yz QC,yz QF,yz QO,yz Q7,x5],λenv S=>tst (fc env S),env.set i (yz (.ref m)),.ret (.idx (.bin .add Q3 (.lst (Xed words2))) (.mth .index Q5 (.cons (.cst (.bl yx)) .nil))),.cons (.asg Q3 (.lst .nil)) (.cons (.asg Q9 Q4) (.cons (.for QQ Qm (Xca im iw)) (.cons (.ret (.blt .tuple Qi)) .nil))),.asg Q9 (.lenm (.call iw (.cons Q5 Qi))),(by show exe F G _ [yz Q1,yz Q7,yz Qy,yz Qw,yz QG] S=_;rw[exe,L,Rk0];simp only[Xe,pe,exe,ev,gZ0,gS0,Rk0,Xn,Vax]),.ret (.blt .tuple Qi),[yz Q1,yz QC,yz QF,yz Qv,yz Q7,x5],[isK c 1,isK c 2,isK c 3,isK c 4],.ite (.cmp .eq Q9 QE) (.cons .brk .nil) .nil,dr ts (K w.params),Vk X.prog X.w,.rng (.cons Q2 (.cons (.blt .len Qf) .nil)),.cons (.asg Q9 (.bin .add Q5 Q4)) (.cons (.whl Xji (Xg7 iw)) (.cons (.ret Q3) .nil)),(Vl (ll row-1)).map λ(k:Nat)=>D.int (1+k),λr s'=>r=.ok (.ret (.bool yx))/\OldK L.heap s'.heap/\s'.os=L.os/\AllBare s'.gens,.tup xs,.int kd,((r-C m k:Nat):Int),0,0,0,0,0,0,((C n i*fac i:Nat):Int),.blt .len Qf,[.lst ((xs.map wh).map D.bl)],(abv g p QX.toNat:Int)<row.getD (p+1) 0,.int j,.int c,[.lst ((Vl Q6.length).map λi=>D.int QD)],K w.params,[yz QY,yz QF0,yz (.int Qb)],[yz Q1,yz Q7,yz Qy,yz Qw,x],[.int n,.int m],.ref n,[a0,yz QC,yz QF,yz Qv,yz Q7,yz QG,h,L],[yz Q1,yz QC,yz QF,yz Qv,yz Q7,yz QG],ns.map V.int,S++[.lst []],.ref (ll S1),(C m k:Int)<=n,[a0,a1,a2,yz Q1,yz Q7,yz Qy,yz Qw,x],.par [2,3] (.cons (.lst .nil) Qf),.cons (.idx Q4 (.bin .sub Q3 Q2)) (.cons (.bin .sub Q3 Q2) .nil),⟨j,rfl⟩,∃m∈mks,Xd0 K m=yx,.cons Q4 Qh,⟨rfl,rfl⟩,⟨k-1,by omega⟩,((0:Nat):Int),.lst (acc++([]:LI).map D.int),.cmp .gt Q9 (.bin .pow (.cst (.int 10)) (.cst (.int 12))),⟨boot_heap w.params,Array.mk [],boot_drawn,boot_toks,os⟩,Xdv L.heap H,.lst [.int (v/far)],⟨(m:Int)::w,e,?_,.inr ⟨m,w,rfl,by omega,m1,r2⟩,r3⟩,(hb pc s σ H ρ S env I (by rw[q];exact λz=>nomatch z)),[.ExceptHandler (yz (.Name x np)) (yz n) (b0::suite) hp],.par [5,6] (.cons QQ (.cons (.bin .add QQ Q9) .nil)),0,0,0,0,0,0,0,[.lst ((Vl (QK.map (Xdq w)).length).map λi=>D.int QD)],.bl yx,[yz QY,yz QY0,yy,yy],∀(s:Vc) (u:Vb),BindsTo s fd ⟨[u],[]⟩ [(x,u)],.nx [a0,yz QC,yz QF,yz (.int QZ0),yz Q7,yz QG,h,L],[yz Q1,yz QG,yy,yz Q8,yz Q8],row.map D.int,b*b+69621*j+7,Ved [t] v p.line (Xcl sc),.nx [yz Q1,yz QC,yz QF,yz (.int QZ0),yz Q7,yz QG],.nx [a0,a1,a2,yz Q1,yz Q7,yz (.int (m:Nat)),h,x'],.cst (.int 2),.for Q3 (.rng (.cons (.cst (.int 64)) .nil)) Xjc,(l.take a).map D.int++[od]++(l.drop b).map D.int,[.lst Q6],(by simp;omega+splitNatSub),yz (n:Int),fon ag k f,[a,b,d,yz (.int x),yz Qf0],(by rw[Vg,Ut];exact Yy Q0),Xu st,.int (m:Nat),⟨xs,rfl⟩,⟨by simp,X,?_⟩,[.int v],l.take a,0,0,0,0,0,0,fon ag k (j+ag),Xad I.sr (I.inv.tok _),Xa w,Vfb p.main.body,Vd.mp hd,.ref q4,.bin .pow (.cst (.int 10)) (.cst (.int 18)),(by simp only[ev,Vaw,Uw,gZ0,gS0,Rk0,Xh,X0,h0]),.cons (.whl lrO (lrW iw)) (.cons QN0 .nil),.cmp .le (.call iw (.cons (.var 7) Qz)) Q9,⟨X,?_⟩,[yz (.ref p),yz (.int far),yz (.int (v%far))],boot_heap P,Xca im iw,N.take d.np,N.getLast?=yz (Xat m),FT T G QN,ExS X pc σ ρ H yw r,L++QB0.flatten,.Assign ts v p,⟨lw,yz (.int (lw+1:Nat)),x,?_,h4,h6,h7⟩,[yz n,yz s,yy,yy,yy,yy],[yz Q1,yz QG,yz QT,yz (.int t),yz (.int b)],[yz Q1,yz QG,yz (.int (t*(n-i)/Q40)),yz QT],.expr (.call ic Qx0),.cons QQ (.cons (.bin .sub Q5 Q9) .nil),.cons (.ret QE) .nil,(by simp only[ev,gZ0,gS0,Rk0,Xy,Xda d2,e]),.sli (.var ir) .none (.some (.var ia)),.cons Qj (.cons (.aug 3 .sub Qk) .nil),.cons (.tup [5,6]) (.val Q9) .nil .nil,⟨rfl,yy,yy,yy,rfl⟩,[yz Q1,yz QG,yz Q8,yy],[yz Q1,yz QC,yz QF,yz Qv,yz (.int QW),x5],λx _=>T.fn x,xs.map λd=>if b d then [y d] else [],0,0,0,0,0,0,0,ll xs+1,Vl row.length,Qs++Q80++[O.lst Qt],.rt d,.int QW,.for (.tup [2,3]) (.enm Qf) (Xe3 inx),.asg QQ (.bin .sub Q5 (.blt .len Qi)),(Xb s2).trans ((Xb s3).trans (Xg s4)),.ref p,.ref g,.ref a,.cmp .le (.call iw (.cons QQ Qh)) Q4,[.lst [.int a]],(·++[(j:Int)]),(by simp only[ev,evs,gZ0,Rk0,h,Xe];rfl),Vee [t] v (Xcl sc),.int 1000000000000,.int ((1:Nat):Int),((i+1:Nat):Int),ll S,env++Vj n yy,.int (C n m),((p:Int)==0) && !(row.getD p 0==1),[yz Qf0,yz QO,yy,yy],[yz Q1,yz QC,yz Qa,yz Q1,yy,yy,yy,yy],[a0,yz QC,yz QF,yz Qv,yz Q7,a5,a6,a7],0,0,0,0,0,0,xs.getD i default,sb.2 b (aa b u e),ll xs<=12,gK kd,S.set q (.lst (acc++w.map D.int)),.call (.ref fa) ⟨[.ref a],[]⟩,snd e X sc N v T.hN T.hs T.pf h3,ExS X pc σ ρ H yw (.ok QD2 S2),.enm (.cons (.call iw Qx0) .nil),[yz Ql0,yz Qf1,yz (.ref S4.length)],Xa l,.sli (.var ir) (.some eb) .none,.isi Q4 [.tuple],.bl yw,(Xc6 K).lookup b,⟨z,x,e,⟨h1,h2,L⟩,h4,h5,h6⟩,[a0,yz QC,yz QF,yz Qv,a4,a5,a6,a7],(by simp only[evs,ev,gZ0,gS0,Rk0]),1000000000000<row.getD (p+1) 0,⟨p,L,q2,q3,V2 q4 h1,V2 q5 h2⟩,[yz Ql0,yz Qf1,yy],[yz QX0],[.ref a],(λj hj=>by omega),(nm,L,fl),(by simpa using L),(by simp only[ev]),Q50.map λx=>(x==0||x==c.val),1<=ll xs,.cons (.ret (.cst .non)) .nil,λenv S=>evts F G .nil env S,x==0||x==c,x::r,tabObj #[],Vgs v (yz t) p.line (Xcl sc),Src.con xs,0,0,0,0,0,0,0,.idx Q4 QE,(1:Int)<Qb,[yz Q1,yz QC,yz QF,yz Qv,x4,x5],[yz Q1,yz QC,yy,yy,yy,yy,yy,yy],[.fro QD0],λenv S=>evts F G ifs env S,row.getD p 0<0,.asg Q3 (.lst (Xed words1)),(1:Int)<((lw+1:Nat):Int)-lw,ll row,S1++Qx,.var 6,.ref C,.int a,λenv S=>pe F G Qn1 env S,upd H a o,dr ts K,aa b q e2,Z.inH X a,Yh st,Xcl env.scope,Xb s1,S++[O.lst QL],.ret Q3,.asg Q9 (.bin .sub Q9 Qk),(Vl Qe).map y,0,0,0,0,0,0,⟨a1,_,a2,X++Y,by rw[Vq]⟩,[yz n,yz s,yz Qa,yz n,yy,yy],.int (10^(18:Int).toNat),⟨[],?_⟩,[yz QY0,yz Q1,yz QC,yz Qq0],chs far ag k,(by simp;omega),T.pf.calm h0,S4++Qs++Q80++[O.lst Qt],((C n Q40*fac Q40:Nat):Int),⟨rfl,yy,by rw[Y1];rfl⟩,x==("__debug__" : Str),(by simp only[exe,ev,Rk0]),Ub _,S++[.lst (l.map D.bl)],Qd/2,Option D,List.append_inj' z rfl,FT T G k,1<=p,.lst ([]++w.map D.int),.cst (.int 2147483587),.call im (.cons Q9 Qz),n-i,c==0||c==c',(by rw[Xf,Vg,Ut,Vae];rfl),ae.trans aa,a.map D.int,S4++Qs++Q80,L++(xs.map w).flatten,.nx e,.int x,.int (Xx Qd2 s w:Nat),.int (QH1%2147483587),.for Q9 (.rng Qh) Xee,.for Q3 (.rng Qh) lwB,0,0,0,0,0,0,0,.cons (.cst Qf0) .nil,.asg Q5 (Xfv 1 2 3 4),[yz Q1,yz Q7,yz QG,h,x'],(1:Int)<=(ll xs:Int),[yz Q1,yz QC],[.int m],[.int kd,.int n,.int s],[.exc c],λ_=>yx,f+ag*(k-1),f env S,Xij inx,Xe3 inx,Vl f,Vd.mp q,Vd.mp e,S1++QO1,QZ1.map D.int++[od],L++QB0.flatten++w d,FT T G k f,.tup [3,4],.tup (.cons e .nil),.rt Qc1,.lst xs,.int (Xx g s w:Nat),.expr (.call ic Qf),0,0,0,0,0,0,.cons s ss,.bl (wh d),(j:Int)<(ll ns:Int),(1:Int)<(hi:Int)-lw,[.int (i:Int),.int QP],∀x∈xs,good S x,λS'=>∃X,S'=S++X,row.getD (p+1) 0<0,(by simp only[ev,gZ0]),boot_heap w.params,Src.enm (.con QG1),.bl (decide (l=w)),(j:Int)::b.reverse,⟨X,Ye rfl rfl ?_⟩,σ.set i (yz QK2),λ_=>T.pf.calm h0,xs.all wh,x.toNat+1,w.map Vce,ll ps,(c-1:Nat),Xdc c,Xc6 K,S4++Y,S++X',.whl lrT (lrB iw),.bin .add QA0 QL3,(n:Int)-i,(k:Int)+1,(i:Int)+1,tr k l,lrB iw,ll l,env.set k (yz z),e12<row.getD p 0,(by rw[e1];exact hm),0,0,0,0,0,0,0,(by rw[Xdf];exact L),Xo0 st,Xck ts,Vi _,Q50.map λx=>Q53,PyData.tuple QC0,.var i,.ref r,.nx e2,.nx e',.int t,.int b,.exc c,.bl (decide Qr0),.bin .sub Q3 QA0,⟨m-QN,by omega⟩,⟨e,S,?_,hi▸h⟩,⟨by simp,[],?_⟩,⟨_,rfl,by simp⟩,[yz Q1,yz QC,p,q,r],[.lst [.int (c-w)]],∀j<i,bad j=yw,λv _=>v=.bl yx,ne b _ z,l.drop b,(j.val:Int),0,0,0,0,0,0,(by simpa using hj),X6 g row,PyData.list QC0,.lst Qo0,.int Q01,.fro QD0,.for Q3 QT0 fbB,.cmp .ne QA3 Q2,.bin .sub QQ Q2,.bin .sub Q4 Q3,.bin .add Q3 Q9,.bin .add Q3 Q2,(ll xs:Int)<=12,⟨s-1,by omega⟩,(λ_ z=>nomatch z),λ_ _ _=>False,λ_ _ _ _=>rfl,(by simp only[pe]),Xfv x1 L x3 x4,X.env::X.outer,.ret (.lst Qh),.cons QX3 .nil,.cmp .ne Q9 Q2,.cmp .lt Q9 QE,.cmp .gt Q9 QE,.cmp .gt Q3 Q2,.cmp .eq Q4 Q2,.cmp .eq Q3 QE,(bA0 _ _).mp h,⟨e',S',?_,b2⟩,⟨by omega,?_⟩,[yz Ql0,yz Qa,yy],[.ref p,.int far],λfl s1 z=>?_,yz QM,(nm,ar,fl),0,0,0,0,0,0,0,ll ds*(b+2)+3,ll S1,ll S',by assumption,a+1,Ym 0 QA,Xz h1,Xb s2,Vcu s1.heap l,S++[O.lst []],QN4.flatMap _,.tup is,.some m,.int QP,.int 12,.int 10,.glb ig,⟨L,S',?_,b'⟩,[a0,a1,a2,yz QF],(λz=>nomatch z),λi=>.int QD,l'.map D.int,Xjk ic im iw,Xfe op x y S,Xf2 ic ib ig,Xa0 (Xab h4),0,0,0,0,0,0,Expr×LM×LM,.int (v%far),.int (t*Qx3),.int (ll ns),.int (fac i),.int (C n i),.cons QL0 Qg,((ag*k:Nat):Int),(Vl i).map y,[yz d],[.lst []],[.int n,.int k],[.int i,.int j],yz QJ2,yz (.ref 6),xs.filter b,s-i,opB op,lrW iw,l=w,(k+n:Nat),j+ag*k,ac.trans ai,Xid i4,Xg7 iw,Xe0 i0,Xbz h4,Vl r.length,Src.con QV0,S.set p Q51,S++QM2,I.hok b u q,FT T G QN f,D.tup [x,y],.var 7,.str t,0,0,0,0,0,0,0,.int p,.call i2 Qf,.bl (isr d),.Return v p,((q+1:Nat):Int),(lw:Int)+hi,⟨Qx++X,?_⟩,[yz Ql0,yy,yy],yz x,yz d,x.lst L hl,x-leI ag z,ll row-1+1,h y L S' x,chs f ag k,Xjo rfl h2,Xjo rfl h1,Xbv c=yz x,Xac far ag,(QX.toNat:Int),(QP.toNat:Int),N[i]?=yz x,L.trans p4,L.trans p2,A.deeper _,.tuple QC0,0,0,0,0,0,0,.int (i*j),.idx Q4 Q3,.bl (wt d),.asg QG5 e,.asg Q3 Q5,(p:Int)==0,(0:Int)<=x,[.int c],yz QF,topStub p,t.el xs z,n+1,ll ds,k+2,k+1+j,k+1+1,fac i*Q40,denote tb,(by simp[hx]),S1++Qx++X,S.set p o,.nx L,.lst .nil,.list QC0,(s:Int)-j,(n:Int)-k,⟨[u],[]⟩,r-C m QN,ne c _ z,ll row+1,k=0->r=0,Yd g row,Vd.mp hn,.tup [d],.ref QC6,.int Qu4,0,0,0,0,0,0,0,.int Qa0,.brk QG0,⟨p4,q4⟩,⟨X',?_⟩,[yz d,yz e],[w.2.2.2.1],[O.lst QP0],λ_=>yy,x==1,x<0,x+1,v%c,ll x,ll w,k+n,j+1,hx x hm,hb x hx,b+2,Xzg y.1,Xs9 y.2,X10 s f,S++Y,2*far+1,1<hi-lw,.tup ds,0,0,0,0,0,0,.rng es,.ref fa,.ref C0,.int Qb,.int QX,.int 18,.con xs,.bl Qq4,[.lst QP0],(· == yx),yz Ql0,yz QN3,yz QK5,yz QE2,xs++QL,wh Qa2,(lw+1:Nat),ll acc,h S' x,b0::su,Xzo Q0,Xze st,Xjs im,Xjj iw,Xhd h1,Xhc ha,Xey h5,Xa QZ1,Xa QY5,Vk P w,S4++Qs,S++Qc0,S++QH4,.tup x,.rt QG,.ref f,0,0,0,0,0,0,0,.glb 0,.cst d,⟨_,z⟩,[v,ov,iv],[.lst QL],[.lst QA],[(m:Int)],yz QG,vNm t,s-i+1,lw<=i,lo<=n,k-1,(k+r:Nat),h _,e12<x,c-1,b*Q40,(a,u),Yy hl,Xz h2,Xw2 k,Xfq v,Xdq w,Xb s3,Xb s0,0,0,0,0,0,0,Xat m,Vl Qe,Vic e,S1++X,S++X1,.rt v,.nx _,.bl y,.bl x,[.ref q],[.ref n],[.exc 7],[.bl yx],x++y,m=nm,i==j,hT w,Xb L,Xa a,Vl s,Vl n,Vl j]
theorem Ydk(I:S0 X pc σ H s ρ S env)(L:Xfe op x y S≠.bad)(rx:RD X.K ρ H x vx)(qx:RelV vx ux)(ry:RD X.K ρ H y vy)(qy:RelV vy uy):
  Vh QS0 X.A (inplaceOp Qr6 ux uy) (OkP X pc σ ρ H QX6) Ev s:=by
 cases x with
 |int i=>
  cases y with
  |int j=>
   simp only[RD]at rx ry;subst rx ry;obtain⟨t,rfl⟩:=qx;obtain⟨t',rfl⟩:=qy;cases op with
   |add=>exact iadd_int Qb1|sub=>exact isub_int Qb1|mul=>
    by_cases hm:Yt i j=yx;·rw[show Xfe .mul QT Qe0 S=.ok Qa7 S from iP0 hm];exact imul_int Qb1 (Xnv hm)
    ·exact aB0 (iN0 hm) L|_=>cases L rfl
  |_=>cases L rfl
 |_=>cases L rfl
theorem X9s(hN:X.N.Nodup)(hi:X.N[k]?=yz x)(hx:Loc X.env.scope x)(hf:X.fn x=yx\/X.env.scope.names.lookup x=yz .local)(he:DE X e f):
  DS X (.AugAssign (.Name x spos) Qr6 e pos) yw (λenv S=>match env[k]? with
   |some QI7=>QK4.bind λy S=>QX6.bind λz S=>.ok (.nx Q75) S
   |_=>.bad):=by
 intro pc s σ H ρ S env I L;dsimp only at L ⊢;split at L
 ·rename_i d hd;obtain⟨v,e1,rd⟩:=I.er.2 k d hd;generalize hr:(QK4.bind λy S=>(Xfe op d y S).bind λz S=>R.ok (Fl.nx Q75) S)=r at L ⊢;obtain⟨m,hn,hl⟩:=I.inv.loc;have al:Vis X.env.scope x:=by rcases hx with k|k;exact .inl k;exact .inr (.inl k)
  obtain⟨u,rv,l⟩:=hl k x v hi e1 al;refine wpAny_AugAssign_Name ?_;have go:Vh QS0 X.A (eval e X.env) (λw aa=>Vh QS0 X.A (inplaceOp Qr6 u w) (λz ac=>Vh QS0 X.A (storeName X.env x z) (λ_=>OkS X pc σ ρ H yw r .next) Qr1 ac) Qr1 aa) Qr1 s:=by refine he.bind I (by rw[hr];exact L) hr.symm (λd2 S1 w s1 v2 H1 ao e2 aj I1 ah an ae=>?_) λx s' ⟨n,S2,e2,z⟩=>.of .refl z e2;refine Vp (Ydk (Ev:=λ_ _=>False) I1 (λz=>aj (by rw[z];rfl)) (rd.mono ae) rv an ah) (λz s3 hz=>?_) λ_ _ z=>z.elim;obtain⟨d3,S3,e3,v3,H3,ak,J3,af,ai,am,ab⟩:=hz;exact Xbi J3 hN hi hx af (λs4 I4=>⟨.nx (env.set k (yz d3)),S3,by rw[e2,e3];rfl,rfl,_,H3,ak,⟨I4,am,(I1.er.mono ab).set k ai⟩,ae.trans ab,λz=>nomatch z⟩) hf
  rcases l with⟨hk,hm⟩|⟨hk,c,hc,hcell⟩;·exact wpAny_loadName_local I.inv.ok.kind hk hn hm go
  ·rcases hk with hk|hk;·exact wpAny_loadName_cell I.inv.ok.kind hk hc hcell go
   ·rcases hx with k|k;·have:X.env.scope.names.lookup x=yz .free:=hk;rw[k]at this;cases this
    ·have:X.env.scope.names.lookup x=yz .free:=hk;rw[k]at this;cases this
 ·cases L rfl
theorem X9t(hc:DT X c QH0)(hb:DSs X body na g):
  DS X (.While c body [] pos) yw (λenv S=>Yo QH0 g 100000 env S):=by
 intro pc s σ H ρ S env I nb;dsimp only at nb ⊢;have hp:PassesOwn QS0 X.A X.env (λ_ _=>False):=PassesOwn.never;generalize hn:100000=n0 at nb ⊢;generalize af:Yo QH0 g n0 env S=r0 at nb ⊢;refine Vp (E:=λ_ _=>False) (wpAny_While (codeAny_whileLoop (λn s'=>∃ ah H' ρ' S' ab,S0 X pc ah H' s' ρ' S' ab/\Stp X.K ρ ρ' H H'/\Yo QH0 g n ab S'≠.bad/\Yo QH0 g n ab S'=r0) ?_ n0 ⟨σ,H,ρ,S,env,I,.refl,by rw[af];exact nb,af⟩)) (λ_ _ z=>z) λ_ _ z=>z.elim;rintro n s3 ⟨σ3,H3,ρ3,S3,env3,I3,st3,nb3,eq3⟩;cases n with
 |zero=>cases nb3 rfl|succ n=>
  simp only[Yo]at nb3 eq3;cases e4:tst (fc env3 S3) with
  |bad=>rw[e4]at nb3;cases nb3 rfl|ex m S4=>rw[e4]at nb3;cases nb3 rfl|ok t S4=>
   refine wpAny_passesOwn hp (hc.ok I3 e4 λs4 H4 al I4 ae=>?_);rw[e4]at nb3 eq3;cases t with
   |false=>rw[iN0 U5];exact Vh4 ⟨.nx env3,S4,eq3.symm,rfl,σ3,H4,al,I4,st3.trans ae,λz=>nomatch z⟩|true=>
    rw[iP0 rfl];dsimp only at nb3 eq3;cases e5:g env3 S4 with
    |bad=>rw[e5]at nb3;cases nb3 rfl|ex m S5=>rw[e5]at nb3;cases nb3 rfl|ok x5 S5=>
     rw[e5]at nb3 eq3;refine wpAny_passesOwn hp (hb.ok I4 e5 λfl s5 z5=>?_);cases x5 with
     |nx e=>obtain⟨rfl,L,H5,ac,I5,aa,_⟩:=z5;exact⟨n,Vcm _,L,H5,ac,S5,e,I5,st3.trans Q04,nb3,eq3⟩|brk e=>obtain⟨rfl,L,H5,ac,I5,aa⟩:=z5;exact⟨.nx e,S5,eq3.symm,rfl,L,H5,ac,I5,st3.trans Q04,λz=>nomatch z⟩|rt d=>obtain⟨u,v,L,H5,ac,rfl,J5,ak,aj,ai,aa⟩:=z5;exact⟨.rt d,S5,eq3.symm,u,v,L,H5,ac,rfl,J5,ak,aj,ai,st3.trans Q04⟩
universe e
def X9u(C:Addr)(h:Heap):Prop:=∃tl N nm qn bs hd sn sub ab L dd k0 k1 k2 k3 k5 mN,
 h.get? C=yz (excClassObj nm qn C N bs tl hd sn sub ab L dd k0 k1 k2 k3 k5 "ValueError.__new__")/\h.Ns N mN/\mN "__init__"=yy/\OwnTail h bmV tl
theorem X4a{K:Ve}{h:Heap}{C:Addr}(hK:K.In h)(L:Xol K C=yx):X9u C h:=by
 unfold Xol at L;cases lk:K.lookup C with
 |none=>rw[lk]at L;cases L|some o=>
  rw[lk]at L;dsimp only at L;cases dc:Xy2 o.data with
  |none=>rw[dc]at L;cases L|some cd=>rw[dc]at L;simp only[bA0,beq_iff_eq,Vbf]at L;obtain⟨⟨⟨⟨⟨⟨e0,e1⟩,e2⟩,e3⟩,e4⟩,e5⟩,e6⟩:=L;obtain⟨cl,dct,dt,aa⟩:=o;obtain⟨nm,bs,ac,ns,qn,hd,sn,sub,ab,ae,af⟩:=cd;dsimp only at e0 e1 e2 e3 e4 e5 e6 dc;obtain rfl:=X3x dc;obtain⟨tl,e7⟩:∃tl,ac=.ref C::tl:=⟨_,e1⟩;obtain⟨k0,k1,k2,k3,k5,e8⟩:∃k0 k1 k2 k3 k5,aa=#[k0,k1,k2,k3,yz (.builtin "ValueError.__new__"),k5]:=⟨_,_,_,_,_,e2⟩;clear e1 e2;subst e0 e3 e7 e8;exact⟨tl,_,_,_,_,_,_,_,_,_,_,_,_,_,_,_,_,hK _ _ lk,.of_isNs (PySem.W.isNs_of_in hK e5),PySem.W.nsMap_none_of_in hK e5 e6,PySem.W.tail_of_in hK e4⟩
theorem _root_.L2.Inv.newX(I:Inv X pc σ H s)(k:∀b u,s.heap.get? b=yz u->h'.get? b=yz u)(hn:s.heap.get? a=yy)
  (new:ObjOk X.prog X.w QP3 h' a o):Inv X pc σ QP3 {s with heap:=h' }/\HOk X.prog X.w QP3 h':=by
 have L:H a=none:=by
  cases z:H a with
  |none=>rfl|some w=>obtain⟨q,e⟩:=Xcc (I.hok a w z);rw[hn]at e;cases e
 have ne:∀b u,H b=yz u->b≠a:=λb u q=>Xj q L;have hok:HOk X.prog X.w QP3 h':=λb u q=>by
  by_cases hb:b=a;·subst hb;rw[Xl]at q;cases q;exact new
  ·rw[Xd hb]at q;exact Q57.stay (λc v _ e=>k c v e) (λc z=>by rw[Xd Q28];exact z) λc xs _ z=>by rw[Xd Q28];exact z
 refine⟨I.un (t':=s.toks) ⟨λb u e _ _ _=>k b u e,λb u e _ _ _=>⟨u.slots,k b u e⟩,λb u e n _=>?_,λb u e _=>⟨u,k b u e⟩,λb xs z=>by rw[Xd QX5];exact z,λb u xs z=>by rw[Xd QX5];exact z,λb ps z=>by rw[Xd QX5];exact z⟩ hok,hok⟩;rw[Xd (λz=>by rw[z,hn]at e;cases e)];exact n
section
variable{X:Cx}{pc:LA}{σ:L2.St}{H:Hp}{s:Vc}{ρ:LR}{S:Sto}{env:En}{e:Expr}{f:En->Sto->R D}{pos np cpos:Pos}
theorem X9v{c:Nat}{x:Str}{C:Addr}(hc:X.calm=yx)(hx:Xbv c=yz x)(hn:Vac X.K Um x=yz (yz QM3))(hq:Xol X.K C=yx)
  (hg:Gl X x) (af:Ql3=yw) (he:DE X e f) (aa:Yc e=yx):DS X (.Raise (yz (.Call (.Name x np) [e] [] cpos)) yy pos) yx (λenv S=>QK4.bind λ_ S=>.ex QT2 Q69):=by
 intro pc s σ H ρ S env I nb;dsimp only at nb ⊢;have hm:X.mg x=yz QM3:=Vdl I.inv.mod.kin I.inv.mod.glob hn;have ai:Xai X.K c=yz C:=by unfold Xai;rw[hx];simp only[V1,hn]
 obtain⟨tl,N,nm,qn,bs,hd,sn,sub,ab,ac,dd,k0,k1,k2,k3,k5,mN,hC,hN,ah,T⟩:=X4a I.inv.mod.kin hq;refine wpAny_Raise_call_subT (C:=C) (nm:=nm) (q:=qn) (N:=N) (bs:=bs) (bm:=tl) (hdct:=hd) (sn:=sn) (sub:=sub) (ab:=ab) (col:=ac) (dd:=dd) (k0:=k0) (k1:=k1) (k2:=k2) (k3:=k3) (k5:=k5)
  PySem.F.excBase_ValueError (mN:=mN) (T.hasType PySem.F.excBase_ValueError.hasBase) (I.inv.ok.hd hc) (by rw[Xq aa];rfl) ah (Xd5 I.inv hg hm ⟨rfl,?_⟩ af)
 rw[Xq aa];refine Vek ?_;generalize hr:(QK4.bind λ_ S=>(R.ex QT2 Q69:R Fl))=r at nb ⊢;refine Vc6 (he.bind I (by rw[hr];exact nb) hr.symm (λd S1 u s1 v H1 aj e1 al I1 rv rd ak=>Vfj ?_) λy s' ⟨n,S2,z1,z2⟩=>⟨n,S2,σ,z1,λ_=>rfl,z2⟩);refine⟨rfl,by simp[V3],I1.inv.bk _ _ hC,hN.keeps I1.inv.bk,T.keeps I1.inv.bk,λh' a L=>?_⟩;obtain⟨t,h1,h2,h3⟩:=L.there;have ae:H1 a=none:=by
  cases z:H1 a with
  |none=>rfl|some w=>obtain⟨o,e⟩:=Xcc (I1.inv.hok a w z);rw[L.new]at e;cases e
 have xo:ExcO C a h':=⟨_,_,_,h1,rfl,rfl,rfl,by simp⟩;obtain⟨J,hok⟩:=I1.inv.newX L.keeps L.new xo.ok;refine⟨QB6,S1++QH4,σ,e1,λ_=>rfl,_,aj++[a],a,c,J,rfl,?_,by simp,I1.sr.new1 (o:=.exc c) ae ⟨C,ai,Xl⟩,ak.trans (Stp.new1 ae),.inl ⟨_,_,h1,rfl,rfl⟩⟩;rw[<-I1.sr.len];simp
universe e
noncomputable def inH(X:Cx)(a:Addr):Cx:={ X with A:=X.A.mark (yz QK2),calm:=yw}
section
variable{X:Cx}{pc:LA}{σ:L2.St}{H:Hp}{s:Vc}{a:Addr}
theorem Inv.inH(I:Inv X pc σ H s)(a:Addr):Inv (inH X a) pc σ H s:=
 ⟨⟨I.ok.mod,I.ok.kind,I.ok.glob,I.ok.blt,I.ok.above,I.ok.inj,I.ok.has,I.ok.cab,QT6,I.ok.frames,I.ok.stk,I.ok.exf,I.ok.bs,I.ok.bsz,I.ok.noex,I.ok.exfs,I.ok.funs,I.ok.frf⟩,I.os,I.bare,I.base,I.loc,I.cell,I.free,I.freeC,I.pin,I.hok,I.len⟩
theorem Inv.outH(I:Inv QS3 pc σ H s)(ok:X.Ok):Inv X pc σ H s:=⟨ok,I.os,I.bare,I.base,I.loc,I.cell,I.free,I.freeC,I.pin,I.hok,I.len⟩
theorem Inv.goes(I:Inv X pc σ H s)(hl:X.env.scope.names.lookup n=yz .local)
  (h:∀s',Inv X pc (Vj σ.length yy) H s'->Q () s'):Vh M A (do bindName X.env n .none;unbindBehindTheSuite X.env n p) Q E s:=by
 obtain⟨m,hn,_⟩:=I.loc;refine wpAny_nameGoes hl hn (by rw[I.ok.kind];rfl) λh' m' ab sb=>h _ ?_;obtain⟨o,es,ep,ho,r⟩:=id hn;obtain⟨o',ae,af,ac,r'⟩:=id ab;have aa:∀b u,X.s₀.heap.get? b=yz u->b≠X.env.locals:=λb u e=>Uq (Uh (Vy e) I.ok.above);have L:∀x c,X.env.cells.lookup x=yz c->∀v,s.heap.IsCell c v->h'.IsCell c v:=λx c e v ⟨u,hu,hd⟩=>⟨u,(sb.2 c (I.cne x c e)).trans hu,hd⟩;refine⟨I.ok,I.os,I.bare,⟨λb u e q hb hx=>Qb2.trans (I.base.keep b u e q hb hx),λb u e q hb hx=>?_,I.base.free,λb u e hx=>?_,I.base.tups,I.base.frzs,I.base.tbls⟩,⟨m',ab,λi x v _ e2 _=>?_⟩,λx c e=>?_,I.free,I.freeC,λp hp=>?_,λb u q=>?_,by rw[Vhv];exact I.len⟩;·obtain⟨sl,z⟩:=I.base.slot b u e q hb hx;exact⟨sl,Qb2.trans z⟩
 ·obtain⟨w,z⟩:=I.base.there b u e hx;exact⟨w,Qb2.trans z⟩
 ·rw[Vdn]at e2;split at e2<;>cases e2
 ·obtain⟨v,z⟩:=I.cell x c e;exact⟨v,L x c e v z⟩
 ·obtain⟨e,n,ne,r⟩:=I.pin p hp;exact⟨(sb.2 _ ne).trans e,n,ne,r⟩
 ·have ne:∀c v,H c=yz v->c≠X.env.locals:=λc v z=>Xj z I.free;refine Q57.stay (λc v hc e=>?_) (λ_ z=>z) λ_ _ _ z=>z;rcases hc with rfl|hc;·exact(sb.2 _ (ne _ _ q)).trans e
  ·exact(sb.2 _ (ne _ _ hc)).trans e
noncomputable def Xzd(c i:Nat)(g L:En->Sto->R Fl)(env:En)(S:Sto):R Fl:=match g env S with
 |.ex m S'=>match S'[m]? with
  |some (.exc c')=>if c==0||c==c' then
    match L QI0 S' with
    |.ok QD2 S''=>.ok QD2 S''|_=>.bad
   else .bad|_=>.bad
 |r=>r
theorem X9w(hs:X.stack=X.env::X.outer)(hf:X.env.frame=yz X.env.locals)
  (hN:X.N.Nodup) (hi:X.N[i]?=yz n) (hl:X.env.scope.names.lookup n=yz .local) (hn:Vac X.K Um x=yz (yz Qc8)) (hg:Gl X x) (ap:Ql3=yw)
  (hm:∀c' C,Xai X.K c'=yz C->Qy3=yx->PySem.W.exmOne X.K QM3 Qc8=yz yx) (hb:DSs X body yx g) (hh:∀a,DSs QS3 (b0::suite) na gh):
  DS X (.Try body Q81 [] [] pos) yw (Xzd c i g gh):=by
 intro pc s σ H ρ S env I L;unfold Xzd at L ⊢;refine wpAny_Try_except ?_;cases q:g env S with
 |bad=>rw[q]at L;cases L rfl|ok y S1=>
  refine Vp Q71 Q76 λx s1 z=>?_
  ·rw[q]at z;have z':=z.pre (σ:=σ) (na':=yw) .refl λw=>nomatch w;obtain⟨y',S2,e,z2⟩:=z;cases e;cases y with
   |nx e=>obtain⟨rfl,_⟩:=z2;exact Vh4 z'|brk e=>obtain⟨rfl,_⟩:=z2;exact z'|rt d=>obtain⟨u,v,ao,H',ρ',rfl,_⟩:=z2;exact z'
  obtain⟨k,S2,a6,e,_⟩:=z;rw[q]at e;cases e|ex m S1=>
  rw[q]at L;dsimp only at L ⊢;refine Vp Q71 Q76 λx1 s1 z=>?_;·obtain⟨y,S2,e,_⟩:=z;rw[q]at e;cases e
  obtain⟨m',S2,ao,e,ax,H1,aj,a,c',J,rfl,al,hc,sr,st,fl⟩:=z;rw[q]at e;cases e;cases ax rfl;rw[hc]at L ⊢;dsimp only at L ⊢;have ak:Qy3=true:=by
   cases z:Qy3 with
   |true=>rfl|false=>rw[z]at L;cases L rfl
  rw[iP0 ak]at L ⊢;obtain⟨d,S2,ab⟩:∃d S2,gh (env.set i (yz (.ref m))) S1=.ok (.rt d) S2:=by
   cases z:gh QI0 S1 with
   |bad=>rw[z]at L;cases L rfl|ex _ _=>rw[z]at L;cases L rfl|ok y S2=>
    rw[z]at L;cases y with
    |rt d=>exact⟨d,S2,rfl⟩|nx _=>cases L rfl|brk _=>cases L rfl
  rw[ab];dsimp only;obtain⟨C,hC,ha⟩:=(show ∃C,Xai X.K c'=yz C/\H1 a=yz (.ext (ExcO C a)) from sr.ob m a _ al hc);have aq:=hm c' C hC ak;have ah:∀(l:LR) (a0:Vb),Hid X H1 a s1.heap l->(∀b∈l,b≠a->b ∉ frs X.stack->Xkg X pc b) ->
    ∀h2,Heap.HeldW QI6 Qt5 a QM3 a0 X.env.locals h2->s1.heap.UpToSlots h2 ->
    Vh QS0 X.A (setFlight QK2 yy) (λ_ s3=>Vh QS0 X.A (handleBy QK2 X.env Q81)
     (OkS X pc σ ρ H yw (.ok QD2 S2)) Qh2 s3) Qh2 {s1 with heap:=h2}:=by
   intro l a0 hid aa h2 af ac;have inv:∀ {h':Heap},Heap.FlyingW QI6 Qt5 a QM3 a0 h'->s1.heap.UpToSlots h'->Inv X pc σ H1 {s1 with heap:=h' }:=λ{h'} fw up=>by obtain⟨f1,_,_,oe,vs,T,oT,ts,t1,⟨t2,t3⟩,t4,t5,_⟩:=fw;exact Inv.fly J ha hid aa f1 up ⟨oe,vs,a0,t1,t2,t4,t3,(Vd9.mp t5).1⟩
   refine wpAny_landsW af λh3 ae ai=>?_;have J3:=inv ae Qw6;obtain⟨ob,av,am⟩:=ae.there;refine wpAny_handleBy_cons (codeAny_handlers_test (Xd5 (Inv.inH J3 a) hg (Vdl J.mod.kin J.mod.glob hn) ?_ ap)) (by intro z;cases z);have LT:PySem.W.Looks QS0 h3 (typeOf QK2) QM3:=am▸(PySem.W.Looks.ld av).andThen .now;refine(PySem.W.exm_one J3.kIn LT aq).at ?_;refine codeAny_handlers_suite_as (lands_againW ae λh4 an au=>?_);have J4:=inv an (Qw6.trans au);refine Xbi (X:=Z.inH X a) (v:=.ref a) (Inv.inH J4 a) hN hi (.inl hl) rfl (λs5 J5=>?_) (.inr hl);have er:ER X.K aj H1 QI0 Qo4:=(I.er.mono st).set i (by simp only[RD];exact⟨a,rfl,al⟩);refine Vp (hh a pc s5 Qo4 H1 aj S1 QI0 ⟨J5,sr,er⟩ (by rw[ab];exact λz=>nomatch z)) (λf6 s6 z=>?_) λy s6 z=>?_;·rw[ab]at z;obtain⟨y,S3,e,z⟩:=z;cases e;obtain⟨u,v,az,H6,ay,rfl,J6,rv,rd,aw,ar⟩:=z;exact Inv.goes (Inv.outH J6 J.ok) hl λs7 J7=>⟨.rt d,S2,rfl,u,v,_,H6,ay,rfl,J7,rv,rd,aw,st.trans ar⟩
   ·rw[ab]at z;obtain⟨_,_,_,e,_⟩:=z;cases e
  exact Xh2 J hs hf ha fl λl h2 a0 hid aa af ac=>ah l a0 hid aa h2 af ac
universe e
noncomputable def Xcl(sc:U1):Vbk:={scope:=sc,locals:=0,globals:=0,cells:=[]}
noncomputable def Xfs(b:Bool):Sem Bool->Bool
 |.pure c=>b==c|_=>yw
noncomputable def Xow(l:Option LS):Sem (Option LS)->Bool
 |.pure m=>decide (l=m)|_=>yw
theorem Xc1(h:Xfs b m=yx):m=pure b:=by
 cases m<;>first|exact ff h|skip
 simp only[Xfs,beq_iff_eq]at h;subst h;rfl
theorem Xkx(h:Xow b m=yx):m=pure b:=by
 cases m<;>first|exact ff h|skip
 simp only[Xow,decide_eq_true_eq]at h;subst h;rfl
theorem Xox(v:Expr)(t:Option Expr)(l:Nat)(env:Vbk):Vgs v t l env=Vgs v t l QU3:=rfl
theorem Xky(t v:Expr)(l:Nat)(env:Vbk):Ved [t] v l env=Ved [t] v l QU3:=rfl
theorem Xkz(ts:LX)(v:Expr)(env:Vbk):Vee ts v env=Vee ts v QU3:=rfl
theorem Xoy(h:Xd8 i=yx)(v:Vb):assign (.Subscript o i spos) env v=(do
   let ov <- Vge [v] (eval o env)
   let iv <- Vge [v,ov] (eval i env)
   standAt spos
   Vge QD9 (setItem ov iv v)
   release QD9 []):=by
 cases i<;>first|rfl|cases h
noncomputable def X9x:Expr->Bool
 |.ListComp _ _ _ _=>yx|_=>yw
noncomputable def Xcv(N ps:LS)(sc:U1):Bool:=Xs4 sc.kind && !sc.isCoroutine && !sc.isGenerator&&Xfn N&&decide (N.take Qt4=ps)&&ps.all (λx=>match sc.names.lookup x with|some .local=>yx|some .cell=>yx|_=>yw)&&sc.names.all (λy=>match y.2 with|.free=>yw|_=>yx)
theorem Xoz(h:Xcv N ps sc=yx):FnScope N ps sc:=by
 simp only[Xcv,bA0,Vbf,decide_eq_true_eq]at h;obtain⟨⟨⟨⟨⟨⟨h1,h2⟩,h3⟩,h4⟩,h5⟩,h6⟩,L⟩:=h;refine⟨Xks h1,h2,h3,Xfo h4,h5,λx hx=>?_,λy hy e=>?_⟩
 ·have:=Vag.mp h6 x hx;split at this;·exact .inl QD6
  ·exact .inr QD6
  cases this
 have:=Vag.mp L y hy;rw[e]at this;cases this
noncomputable def Xo0(s:Stmt):Option (LX×Expr×Pos):=match s with
 |.Assign ts v p=>yz (ts,v,p)|_=>yy
theorem Xgx(h:Xo0 s=yz z):s=.Assign z.1 z.2.1 z.2.2:=by
 cases s with
 |Assign _ _ _=>cases h;rfl|_=>exact Yr h
noncomputable def X9y(s:Stmt):Option (Expr×Operator×Expr×Pos):=match s with
 |.AugAssign t o v p=>yz (t,o,v,p)|_=>yy
theorem X4b(h:X9y s=yz z):s=.AugAssign z.1 z.2.1 z.2.2.1 z.2.2.2:=by
 cases s with
 |AugAssign _ _ _ _=>cases h;rfl|_=>exact Yr h
noncomputable def X9z(s:Stmt):Option (Expr×Pos):=match s with
 |.Expr v p=>yz (v,p)|_=>yy
theorem X4c(h:X9z s=yz z):s=.Expr z.1 z.2:=by
 cases s with
 |Expr _ _=>cases h;rfl|_=>exact Yr h
noncomputable def Xze(s:Stmt):Option (Option Expr):=match s with
 |.Return v _=>yz v|_=>yy
theorem Xrj(h:Xze s=yz z):∃p,s=.Return z p:=by
 cases s with
 |Return _ _=>cases h;exact Q10|_=>exact Yr h
noncomputable def Xtf{α:Type}(l:List α):Option α:=match l with
 |[x]=>yz x|_=>yy
theorem Xo1{α:Type}{l:List α}{x:α}(h:Xtf l=yz x):l=[x]:=by
 match l with
 |[]=>cases h|[y]=>cases h;rfl|_::_::_=>cases h
noncomputable def vCk(e:Expr):Option (Expr×LX×List Vdz):=match e with
 |.Call f a k _=>yz (f,a,k)|_=>yy
theorem X90{e:Expr}{z:Expr×LX×List Vdz}(h:vCk e=yz z):∃p,e=.Call z.1 z.2.1 z.2.2 p:=by
 cases e with
 |Call _ _ _ _=>cases h;exact Q10|_=>exact Yr h
noncomputable def X91(e:Expr):Option (Ve2×Expr×U1):=match e with
 |.Lambda a b sc _=>yz (a,b,sc)|_=>yy
theorem X4d{e:Expr}{z:Ve2×Expr×U1}(h:X91 e=yz z):∃p,e=.Lambda z.1 z.2.1 z.2.2 p:=by
 cases e with
 |Lambda _ _ _ _=>cases h;exact Q10|_=>exact Yr h
noncomputable def Xzf(a:Ve2):Option Arg:=if a.posonlyargs.isEmpty&&a.vararg.isNone&&a.kwonlyargs.isEmpty&&a.kw_defaults.isEmpty&&a.kwarg.isNone&&a.defaults.isEmpty then Xtf a.args else yy
theorem X4e{a:Ve2}{z:Arg}(h:Xzf a=yz z):a=⟨[],[z],yy,[],[],yy,[]⟩:=by
 obtain⟨p,q,r,s,t,u,v⟩:=a;unfold Xzf at h;by_cases c:(p.isEmpty&&r.isNone&&s.isEmpty&&t.isEmpty&&u.isNone&&v.isEmpty)=yx;·rw[iP0 c]at h;simp only[bA0,Va1,Vjb]at c;obtain⟨⟨⟨⟨⟨rfl,rfl⟩,rfl⟩,rfl⟩,rfl⟩,rfl⟩:=c;rw[Xo1 (l:=q) h]
 ·rw[iN0 c]at h;cases h
noncomputable def Xzg(e:Expr):Option (Str×Expr×Str×Str×Str×Expr×U1):=(vCk e).bind λc=>(vNm c.1).bind λf=>(Xtf c.2.1).bind λa=>(Xtf c.2.2).bind λw=>w.arg.bind λk=>(X91 w.value).bind λl=>(Xzf l.1).bind λz=>(Xfq l.2.1).bind λy=>(vNm y.1).bind λn=>yz (f,a,k,z.arg,n,y.2,l.2.2)
theorem X4f{e:Expr}{f k x y:Str}{a i:Expr}{sc:U1}(h:Xzg e=yz (f,a,k,x,y,i,sc)):∃p0 an p1 p2 p3 L kp cp,e=.Call (.Name f p0) [a] [⟨yz k,.Lambda ⟨[],[⟨x,an,p1⟩],yy,[],[],yy,[]⟩ (.Subscript (.Name y p2) i p3) sc L,kp⟩] cp:=by obtain⟨c,e1,h⟩:=Van.mp h;obtain⟨f',e2,h⟩:=Van.mp h;obtain⟨a',e3,h⟩:=Van.mp h;obtain⟨w,e4,h⟩:=Van.mp h;obtain⟨k',e5,h⟩:=Van.mp h;obtain⟨l,e6,h⟩:=Van.mp h;obtain⟨z,e7,h⟩:=Van.mp h;obtain⟨u,e8,h⟩:=Van.mp h;obtain⟨n',e9,h⟩:=Van.mp h;have h:=U6 h;have d1:f'=f:=congrArg (·.1) h;have d2:a'=a:=congrArg (·.2.1) h;have d3:k'=k:=congrArg (·.2.2.1) h;have d4:z.arg=x:=congrArg (·.2.2.2.1) h;have d5:n'=y:=congrArg (·.2.2.2.2.1) h;have d6:u.2=i:=congrArg (·.2.2.2.2.2.1) h;have d7:l.2.2=sc:=congrArg (·.2.2.2.2.2.2) h;obtain⟨cp,g1⟩:=X90 e1;obtain⟨p0,g2⟩:=Xax e2;obtain⟨L,g3⟩:=X4d e6;obtain⟨p3,g5⟩:=Xc0 e8;obtain⟨p2,g6⟩:=Xax e9;obtain⟨wk,wv,kp⟩:=w;obtain⟨z1,z2,z3⟩:=z;have e5:wk=yz k':=e5;have g3:wv=.Lambda l.1 l.2.1 l.2.2 L:=g3;have d4:z1=x:=d4;refine⟨p0,z2,z3,p2,p3,L,kp,cp,?_⟩;rw[g1,g2,Xo1 e3,Xo1 e4,e5,g3,X4e e7,g5,g6,d1,d2,d3,d4,d5,d6,d7]
noncomputable def X92(s:Stmt):Option Qa6:=match s with
 |.If c a b _=>yz (c,a,b)|_=>yy
theorem X4g{s:Stmt}{z:Expr×LM×LM}(h:X92 s=yz z):∃p,s=.If z.1 z.2.1 z.2.2 p:=by
 cases s with
 |If _ _ _ _=>cases h;exact Q10|_=>exact Yr h
noncomputable def X93(s:Stmt):Option (Expr×Expr×LM×LM):=match s with
 |.For t i b L _=>yz (t,i,b,L)|_=>yy
theorem X4h(h:X93 s=yz z):∃p,s=.For z.1 z.2.1 z.2.2.1 z.2.2.2 p:=by
 cases s with
 |For _ _ _ _ _=>cases h;exact Q10|_=>exact Yr h
noncomputable def X94(s:Stmt):Option Qa6:=match s with
 |.While c b L _=>yz (c,b,L)|_=>yy
theorem X4i(h:X94 s=yz z):∃p,s=.While z.1 z.2.1 z.2.2 p:=by
 cases s with
 |While _ _ _ _=>cases h;exact Q10|_=>exact Yr h
noncomputable def X95(s:Stmt):Option (Option Expr×Option Expr):=match s with
 |.Raise v w _=>yz (v,w)|_=>yy
theorem X4j(h:X95 s=yz z):∃p,s=.Raise z.1 z.2 p:=by
 cases s with
 |Raise _ _ _=>cases h;exact Q10|_=>exact Yr h
noncomputable def X96(s:Stmt):Option (LM×List ExceptHandler×LM×LM):=match s with
 |.Try b hs L fb _=>yz (b,hs,L,fb)|_=>yy
theorem X4k(h:X96 s=yz z):∃p,s=.Try z.1 z.2.1 z.2.2.1 z.2.2.2 p:=by
 cases s with
 |Try _ _ _ _ _=>cases h;exact Q10|_=>exact Yr h
noncomputable def X97(h:ExceptHandler):Option (Expr×Str×Stmt×LM):=match h with
 |.ExceptHandler (yz e) (yz n) (b::su) _=>yz (e,n,b,su)|_=>yy
theorem X4l(q:X97 h=yz z):∃p,h=.ExceptHandler (yz z.1) (yz z.2.1) (z.2.2.1::z.2.2.2) p:=by
 cases h with
 |ExceptHandler e n b p=>
  cases e with
  |none=>exact Yr q|some e=>
   cases n with
   |none=>exact Yr q|some n=>
    cases b with
    |nil=>exact Yr q|cons b L=>cases q;exact Q10
noncomputable def Xtg(s:Stmt):Nat:=match s with
 |.Pass _=>1|.Break _=>2|.Continue _=>3|_=>0
theorem vEnd_ok:(Xtg s=1->∃p,s=.Pass p)/\(Xtg s=2->∃p,s=.Break p)/\(Xtg s=3->∃p,s=.Continue p):=by
 have h0:∀ {k:Nat} {P:Prop},0=k+1->P:=λz=>nomatch z;cases s with
 |Pass p=>exact⟨λ_=>Q10,λz=>(nomatch z),λz=>(nomatch z)⟩|Break p=>exact⟨λz=>(nomatch z),λ_=>Q10,λz=>(nomatch z)⟩|Continue p=>exact⟨λz=>(nomatch z),λz=>(nomatch z),λ_=>Q10⟩|_=>exact⟨h0,h0,h0⟩
section
variable(cm:Bool)(fns:LF)(gns:LS)(sc:U1)(N:LS)
noncomputable def X98(i:Nat)(e:Ex)(v:Expr)(p:Pos)(ts:LX):Bool:=QC5.any λt=>QI9.any λx=>decide QV7&&Xkq QI4 sc x&&mt cm fns gns sc N e v&&(Xfs yw Q83||(X9x v&&Xdo (sc.names.lookup x)&&Xfs yx Q83))
noncomputable def X1w(L:LN)(e:Ex)(v:Expr)(p:Pos)(ts:LX):Bool:=QC5.any λt=>cm&&mtT QI4 sc N (.tup L) t&&mt cm fns gns sc N e v&&Xfs yw QI1&&Xow yy QP2
noncomputable def Ydl(es:Exs)(p:Pos)(i j:Nat)(a b x y t v:Expr):Bool:=(vNm x).any λL=>(vNm y).any λyn=>cm&&decide (N[i]?=yz L)&&decide (N[j]?=yz yn)&&decide (i≠j)&&Xdo (sc.names.lookup L)&&Xdo (sc.names.lookup yn)&&mts cm fns gns sc N es [a,b] &&
   Xow (yz [L,yn]) QP2&&Xfs yw QI1
noncomputable def X99(es:Exs)(p:Pos)(L:LN)(ts:LX)(v:Expr):Bool:=QC5.any λt=>(Xoi t).any λtn=>(Xoi v).any λvs=>(Xh7 L).any λi=>(Xh7 tn).any λx=>(Xh7 vs).any λa=>Ydl cm fns gns sc N es p i.1 i.2 a.1 a.2 x.1 x.2 t v
noncomputable def X1x(o i e:Ex)(v:Expr)(p:Pos)(ts:LX):Bool:=QC5.any λt=>(Xfq t).any λz=>Xd8 z.2&&mt cm fns gns sc N o z.1&&mt cm fns gns sc N i z.2&&mt cm fns gns sc N e v&&Xfs yw QI1&&Xow yy QP2
noncomputable def Yaa(i:Nat)(t:Expr):Bool:=QI9.any λx=>decide QV7&&Xkq QI4 sc x
noncomputable def Xzh(e:Ex)(w:Str×Expr×Str×Str×Str×Expr×U1):Bool:=cm&&decide (w.1="sorted")&&glB sc w.1&&decide (w.2.2.1="key")&&Yc w.2.1&&mt cm fns gns sc N e w.2.1&&decide (w.2.2.2.2.1=w.2.2.2.1)&&Xa3 w.2.2.2.1&&Xod w.2.2.2.2.2.2 w.2.2.2.1&&Xcv QF8 QF8 w.2.2.2.2.2.2&&Xi9 w.2.2.2.2.2.2&&Xoh 1 yy w.2.2.2.2.2.1&&mks.any λm=>decide Qp1
noncomputable def Xzi(c:Nat)(e:Ex)(v w:Option Expr):Bool:=w.isNone&&v.any λr=>(Xa7 r).any λz=>(vNm z.1).any λx=>decide QR7&&glB sc x&&Xa3 x&&Yc z.2.1&&z.2.2.1.isEmpty&&mt cm fns gns sc N e z.2.1
mutual
noncomputable def mtS(cm:Bool):St->Stmt->Bool
 |.nev,_=>yx|.asg QG5 e,st=>QB5.any λz=>X98 cm fns gns sc N i e z.2.1 z.2.2 z.1|.asg QL6 e,st=>QB5.any λz=>X1w cm fns gns sc N is e z.2.1 z.2.2 z.1|.par is es,st=>QB5.any λz=>X99 cm fns gns sc N es z.2.2 is z.1 z.2.1|.aset o i e,st=>QB5.any λz=>X1x cm fns gns sc N o i e z.2.1 z.2.2 z.1|.aug i op e,st=>(X9y st).any λz=>Yaa sc N i z.1&&Xs1 op z.2.1&&mt cm fns gns sc N e z.2.2.1|.expr e,st=>(X9z st).any λz=>Xfs yw (Vgs z.1 yy z.2.line (Xcl sc))&&mt cm fns gns sc N e z.1|.ret e,st=>Qv8.any λz=>z.any λv=>mt cm fns gns sc N e v|.rsk e m,st=>Qv8.any λz=>z.any λv=>QW9.any λy=>QU8.any λq=>mto cm fns gns sc N .none q.1&&mto cm fns gns sc N QM6 q.2&&QT8.any λw=>Xzh cm fns gns sc N e w|.ite c a b,st=>(X92 st).any λz=>mt cm fns gns sc N c z.1&&mtSs cm a z.2.1&&mtSs cm b z.2.2|.for t it b,st=>(X93 st).any λz=>cm&&z.2.2.2.isEmpty&&Xb9 z.2.1&&mtT QI4 sc N t z.1&&mtI cm fns gns sc N it z.2.1&&mtSs cm b z.2.2.1&&Xfp t it|.whl c b,st=>(X94 st).any λz=>z.2.2.isEmpty&&mt cm fns gns sc N c z.1&&mtSs cm b z.2.1|.rse c e,st=>(X95 st).any λz=>cm&&Xzi cm fns gns sc N c e z.1 z.2|.try b c i h,st=>(X96 st).any λz=>(Xck z.2.1).any λy=>(X97 y).any λq=>(vNm q.1).any λx=>z.2.2.1.isEmpty&&z.2.2.2.isEmpty&&nasgs b&&decide QR7&&glB sc x&&Xa3 x&&decide (N[i]?=yz q.2.1)&&Xdo (sc.names.lookup q.2.1)&&mtSs cm b z.1&&mtSs yw h (q.2.2.1::q.2.2.2)|.brk,st=>Xtg st==2
noncomputable def mtSs(cm:Bool):Sts->LM->Bool
 |.nil,[]=>yx|.cons s ss,x::xs=>mtS cm s x&&mtSs cm ss xs|_,_=>yw
end
universe e
theorem Xey(h:Xdo k=yx):k=yz .local:=by
 unfold Xdo at h;split at h;·rfl
 ·cases h
section
variable{F:Fn}{G:LD}{cm:Bool}{fns:LF}{gns:LS}{X:Cx}
theorem DS.congr{st:Stmt}{na:Bool}{f g:En->Sto->R Fl}(h:DS X st na f)(q:∀env S,g env S=f env S):DS X st na g:=by have:g=f:=funext λenv=>funext λS=>q env S;rw[this];exact h
theorem DSs.congr{st:LM}{na:Bool}{f g:En->Sto->R Fl}(h:DSs X st na f)(q:∀env S,g env S=f env S):DSs X st na g:=by have:g=f:=funext λenv=>funext λS=>q env S;rw[this];exact h
theorem Yab{st:Stmt}{na:Bool}:DS X st na (exe F G .nev):=λ_ _ _ _ _ _ _ _ L=>aB0 (by simp only[exe]) L
structure TopOk(cm:Bool)(F:Fn)(G:LD)(fns:LF)(gns:LS)(X:Cx)(sc:U1)(N:LS):Prop where
 hN:X.N=N
 hs:X.env.scope=sc
 nd:N.Nodup
 fn:∀x,X.fn x=yx
 pf:PF cm F G fns gns X
 stk:X.stack=X.env::X.outer
 frm:X.env.frame=yz X.env.locals
 lam:∀m∈mks,N.getLast?=yz Qa9->LamAt X m
theorem TopOk.inH(T:TopOk cm F G fns gns X sc N)(a:Addr):TopOk yw F G fns gns QS3 sc N:=
 ⟨T.hN,T.hs,T.nd,T.fn,⟨T.pf.blt,λf nm ar fl h hf=>by
  obtain⟨g,fd,ps,k,c1,c2,r⟩:=T.pf.fn f nm ar fl h (λz=>nomatch (hf z));refine⟨g,fd,ps,k,c1,?_,r⟩;cases fl with
  |true=>exact nomatch (hf rfl)
  |false=>exact c2.mark,T.pf.glb,T.pf.clf,T.pf.units,T.pf.gd,QT6,T.pf.err⟩,T.stk,T.frm,λm L h=>let l:=T.lam m L h;⟨l.qual,l.dep,l.cod,l.blt⟩⟩
variable{sc:U1}{N:LS}
noncomputable def isC:Ex->Bool
 |.nev=>yx|.cmr _ _ _ _=>yx|_=>yw
theorem Ydm(h4:X9x v=yx)(L:isC e=yw)(h:mt cm fns gns sc N e v=yx):False:=by
 cases v with
 |ListComp ee gens scope cp=>
  cases e with
  |nev=>cases L|cmr _ _ _ _=>cases L|_=>exact ff h
 |_=>exact ff h4
theorem Xzj{i:Nat}{e:Ex}{ts:LX}(T:TopOk cm F G fns gns X sc N)(h:X98 cm fns gns sc N i e v p ts=yx):DS X Qt1 yw (exe F G Qd7):=by
 obtain⟨t,k1,aa⟩:=any_some h;obtain⟨x,k2,L⟩:=any_some aa;clear h aa;have h:=L;clear L;have k3:=Xbp k1;obtain⟨py,k4⟩:=Xax k2;subst k4 k3
 ·rw[bA0,bA0,bA0,decide_eq_true_eq,Vcb,bA0,bA0]at h;obtain⟨⟨⟨h1,h2⟩,h3⟩,h4⟩:=h;obtain⟨l1,l2⟩:=Xgt (X:=X) T.hs Q82 h2;have ac:=Qg2.1;have hN:=T.hN;have hs:=T.hs;subst hN hs;rcases h4 with h4|⟨⟨h4,h5⟩,h6⟩;·have hw:=Xc1 h4;rw[<-Xox]at hw;exact(X7r T.nd h1 l1 l2 ac hw).congr λenv S=>by simp only[exe]<;>rfl
  ·have hw:=Xc1 h6;rw[<-Xox]at hw;cases e with
   |nev=>exact λ_ _ _ _ _ _ _ _ nb=>aB0 (by simp only[exe,ev,R.bind_bad]) nb|cmr k n gs elt=>
    obtain⟨ee,gens,scope,cp,rfl,m0,m1,m2,m3,m4,m5⟩:=Xvp h3;subst m1 m2;have so:=Xvm m3;have ab:=T.pf.calm m0;obtain⟨c⟩:=Xri (p:=cp) rfl rfl T.pf ab so (sndg gs X _ _ _ _ gens rfl rfl T.pf m4) (λY y1 y2 y3=>(snd elt Y _ _ ee y1 y2 y3 m5).1);refine(X3d (py:=py) (spos:=p) T.nd h1 Q09 hw ab so rfl c.hg c.hi c.hs c.hG c.hT c.hB).congr λenv S=>?_;simp only[exe];have:=congrFun (congrFun c.eq env) S;rw[this]
    all_goals rfl|_=>exact(Ydm h4 rfl h3).elim
theorem Xzk{is:LN}{e:Ex}{ts:LX}(T:TopOk cm F G fns gns X sc N)(h:X1w cm fns gns sc N is e v p ts=yx):DS X Qt1 yw (exe F G (.asg QL6 e)):=by obtain⟨t,k1,L⟩:=any_some h;clear h;have h:=L;clear L;have k3:=Xbp k1;subst k3;·rw[bA0,bA0,bA0,bA0]at h;obtain⟨⟨⟨⟨h0,h1⟩,h2⟩,h3⟩,h4⟩:=h;have aa:=h1;simp only[mtT]at aa;obtain⟨ac,q1,_⟩:=any_some aa;obtain⟨af,ae,q2⟩:=Xcz q1;subst q2;have ab:=(snd e X sc N v T.hN T.hs T.pf h2).1;have hg:=dgB (top:=λ_=>yx) T.hN T.hs T.nd Qp4 Q82 h1;have w1:=Xc1 h3;have w2:=Xkx h4;rw[<-T.hs]at w1 w2;rw[<-Xky]at w1;rw[<-Xkz]at w2;exact(X9q ab hg w1 w2 rfl).congr λenv S=>by simp only[exe]<;>rfl
theorem X4m{is:LN}{es:Exs}{ts:LX}(T:TopOk cm F G fns gns X sc N)(h:X99 cm fns gns sc N es p is ts v=yx):DS X Qt1 yw (exe F G (.par is es)):=by
 obtain⟨t,k1,L⟩:=any_some h;clear h;have h:=L;clear L;obtain⟨tn,k2,L⟩:=any_some h;clear h;have h:=L;clear L;obtain⟨vs,k3,L⟩:=any_some h;clear h;have h:=L;clear L;have e1:=Xbp k1;obtain⟨kt,pt,e2⟩:=Xcz k2;obtain⟨kv,pv,e3⟩:=Xcz k3;subst e1 e2 e3;obtain⟨⟨i,j⟩,k4,L⟩:=any_some h;clear h;have h:=L;clear L;obtain⟨⟨x,y⟩,k5,L⟩:=any_some h;clear h;have h:=L;clear L;obtain⟨⟨a,b⟩,k6,L⟩:=any_some h;clear h;have h:=L;clear L;have e4:=Xea k4;have e5:=Xea k5;have e6:=Xea k6;subst e4 e5 e6;obtain⟨xn,k7,L⟩:=any_some h;clear h;have h:=L;clear L;obtain⟨yn,k8,L⟩:=any_some h;clear h;have h:=L;clear L;obtain⟨px,e7⟩:=Xax k7;obtain⟨py,e8⟩:=Xax k8;dsimp only at e7 e8;subst e7 e8
 iterate 8 rw[bA0]at h
 obtain⟨⟨⟨⟨⟨⟨⟨⟨h0,h1⟩,h2⟩,h3⟩,h4⟩,h5⟩,h6⟩,h7⟩,h8⟩:=h;have aa:=snds es X sc N _ T.hN T.hs T.pf h6;have hN:=T.hN;have hs:=T.hs;subst hN hs;have w1:=Xc1 h8;have w2:=Xkx h7;rw[<-Xky]at w1;rw[<-Xkz]at w2;exact(X38 Qh3 T.nd (oD0 h1) (oD0 h2) (oD0 h3) (Xey h4) Q09 aa w2 w1).congr λenv S=>by simp only[exe]
theorem Xzl{o i e:Ex}{ts:LX}(T:TopOk cm F G fns gns X sc N)(h:X1x cm fns gns sc N o i e v p ts=yx):DS X Qt1 yw (exe F G (.aset o i e)):=by
 obtain⟨t,k1,L⟩:=any_some h;obtain⟨⟨ox,ix⟩,k2,aa⟩:=any_some L;clear h L;have h:=aa;clear aa;have k3:=Xbp k1;obtain⟨sp,k4⟩:=Xc0 k2;dsimp only at k4;subst k4 k3
 ·iterate 5 rw[bA0]at h
  obtain⟨⟨⟨⟨⟨h1,h2⟩,h3⟩,h4⟩,h5⟩,h6⟩:=h;have w1:=Xc1 h5;have w2:=Xkx h6;rw[<-T.hs]at w1 w2;rw[<-Xky]at w1;rw[<-Xkz]at w2;exact((X39 (by have:=T.pf.units;omega) (snd e X sc N v T.hN T.hs T.pf h4).1 (snd o X sc N _ T.hN T.hs T.pf h2).1 (snd i X sc N _ T.hN T.hs T.pf h3).1 w1 w2 (Xoy h1)).weak (na2:=yw) λz=>nomatch z).congr λenv S=>by simp only[exe]
theorem X4n{i:Nat}{op:Bo}{e:Ex}{o:Operator}(T:TopOk cm F G fns gns X sc N)(h:(Yaa sc N i t&&Xs1 op o&&mt cm fns gns sc N e v)=yx):DS X (.AugAssign t o v p) yw (exe F G (.aug i op e)):=by simp only[bA0]at h;obtain⟨⟨h1,h2⟩,h3⟩:=h;obtain⟨x,k1,hq⟩:=any_some h1;clear h1;have h1:=hq;clear hq;obtain⟨px,k2⟩:=Xax k1;subst k2;have e1:=Xq8 h2;subst e1;·rw[bA0,decide_eq_true_eq]at h1;obtain⟨l1,l2⟩:=Xgt (X:=X) T.hs Q82 h1.2;have L:=Qg2.1;have hN:=T.hN;have hs:=T.hs;subst hN hs;exact(X9s T.nd h1.1 l1 l2 L).congr λenv S=>by simp only[exe]<;>rfl
theorem X4o{e:Ex}{v:Option Expr}(T:TopOk cm F G fns gns X sc N)(h:(v.any λv=>mt cm fns gns sc N e v)=yx):DS X QD7 yx (exe F G (.ret e)):=by obtain⟨v,rfl,h⟩:=any_some h;exact(Xuy (snd e X sc N v T.hN T.hs T.pf h).1).congr λenv S=>by simp only[exe]
theorem X4p{e m:Ex}{v:Option Expr}(T:TopOk cm F G fns gns X sc N)(h:(v.any λv=>QW9.any λy=>QU8.any λq=>mto cm fns gns sc N .none q.1&&mto cm fns gns sc N QM6 q.2&&QT8.any λw=>Xzh cm fns gns sc N e w)=yx):DS X QD7 yx (exe F G (.rsk e m)):=by
 obtain⟨v,rfl,g1⟩:=any_some h;clear h;obtain⟨y,h1,g2⟩:=any_some g1;obtain⟨q,h2,g3⟩:=any_some g2;clear g1 g2;rw[bA0,bA0]at g3;obtain⟨⟨h3,h4⟩,g4⟩:=g3;obtain⟨⟨f,a,k,x,z,i,ae⟩,h5,h⟩:=any_some g4;clear g4;unfold Xzh at h;dsimp only at h
 iterate 12 rw[bA0]at h
 obtain⟨⟨⟨⟨⟨⟨⟨⟨⟨⟨⟨⟨m1,m2⟩,m3⟩,m4⟩,m5⟩,m6⟩,m7⟩,m8⟩,m9⟩,ac⟩,aa⟩,L⟩,ab⟩:=h;have n2:=oD0 m2;have n4:=oD0 m4;have n7:=oD0 m7;subst n2 n4 n7;obtain⟨p1,e1⟩:=Xc0 h1;obtain⟨p2,e2⟩:=Xra h2;obtain⟨p0,an,q1,q2,q3,lp,kp,cp,e3⟩:=X4f h5;obtain⟨o1,o2,_⟩:=Xbd m8;obtain⟨nm,hm,hn⟩:=Vhs.mp ab;have hl:=T.lam nm hm (oD0 hn);rw[e1,e2,e3];exact(Xuy (X1u (Ydi T.pf.units (T.pf.calm m1) hl (Xaq T.hs m3) (T.pf.blt _ QJ) (snd e X sc N a T.hN T.hs T.pf m6).1 (Xq m5) (Xoz ac) aa (Xq7 m9) o1 o2 L) (sndo .none X sc N _ T.hN T.hs T.pf h3) (sndo QM6 X sc N _ T.hN T.hs T.pf h4))).congr λenv S=>by simp only[exe]<;>rfl
theorem X4q{c:Nat}{e:Ex}{v w:Option Expr}(T:TopOk cm F G fns gns X sc N)(h0:cm=yx)(h:Xzi cm fns gns sc N c e v w=yx):DS X (.Raise v w p) yx (exe F G (.rse c e)):=by
 unfold Xzi at h;rw[bA0]at h;obtain⟨hw,h⟩:=h;cases w with
 |some _=>cases hw|none=>
  obtain⟨r,er,hq⟩:=any_some h;obtain⟨x,px,y,ys,cp,aa,L⟩:=Xcd hq;clear h hq;have h:=L;clear L;subst aa er
  iterate 5 rw[bA0]at h
  obtain⟨⟨⟨⟨⟨h1,h2⟩,h3⟩,h4⟩,h6⟩,h5⟩:=h;have h1:=oD0 h1;have e6:=Va1.mp h6;dsimp only at e6;subst e6;obtain⟨C,k1,k2⟩:=T.pf.err.at_ c x h1;exact(X9v Qh3 h1 k2 (T.pf.err.cls c C k1).1 (Xaq T.hs h2) (Xbd h3).1 (snd e X sc N y T.hN T.hs T.pf h5).1 h4).congr λenv S=>by simp only[exe]
mutual
theorem Ye8{cm:Bool}{X:Cx}:∀(x:St) (st:Stmt),TopOk cm F G fns gns X sc N->mtS fns gns sc N cm x st=yx->DS X st (X7h x) (exe F G x)
 |.nev=>λst T h=>Yab|.asg QG5 e=>λst T h=>by obtain⟨z,h1,L⟩:=any_some h;clear h;have h:=L;clear L;rw[Xgx h1];exact Xzj T h|.asg QL6 e=>λst T h=>by obtain⟨z,h1,L⟩:=any_some h;clear h;have h:=L;clear L;rw[Xgx h1];exact Xzk T h|.par is es=>λst T h=>by obtain⟨z,h1,L⟩:=any_some h;clear h;have h:=L;clear L;rw[Xgx h1];exact X4m T h|.aset o i e=>λst T h=>by obtain⟨z,h1,L⟩:=any_some h;clear h;have h:=L;clear L;rw[Xgx h1];exact Xzl T h|.aug i op e=>λst T h=>by obtain⟨z,h1,L⟩:=any_some h;clear h;have h:=L;clear L;rw[X4b h1];exact X4n T h|.expr e=>λst T h=>by obtain⟨z,h1,L⟩:=any_some h;clear h;have h:=L;clear L;rw[X4c h1];rw[bA0]at h;have w1:=Xc1 h.1;rw[<-T.hs,<-Xox]at w1;exact(X2x (snd e X sc N z.1 T.hN T.hs T.pf h.2).1 w1).congr λenv S=>by simp only[exe]|.ret e=>λst T h=>by obtain⟨z,h1,L⟩:=any_some h;clear h;have h:=L;clear L;obtain⟨p,rfl⟩:=Xrj h1;exact X4o T h|.rsk e m=>λst T h=>by obtain⟨z,h1,L⟩:=any_some h;obtain⟨p,rfl⟩:=Xrj h1;exact(X4p T L).weak λz=>nomatch z|.ite c a b=>λst T h=>by obtain⟨z,h1,L⟩:=any_some h;clear h;have h:=L;clear L;obtain⟨p,rfl⟩:=X4g h1;rw[bA0,bA0]at h;exact(Yct (snd c X sc N z.1 T.hN T.hs T.pf h.1.1).2 (sndSs a z.2.1 T h.1.2) (sndSs b z.2.2 T h.2)).congr λenv S=>by simp only[exe]<;>rfl|.for t it b=>λst T h=>by
  obtain⟨⟨tg,iter,body,oe⟩,h1,L⟩:=any_some h;clear h;have h:=L;clear L;obtain⟨p,rfl⟩:=X4h h1
  iterate 6 rw[bA0]at h
  obtain⟨⟨⟨⟨⟨⟨h0,h1⟩,h2⟩,h3⟩,h4⟩,h5⟩,h6⟩:=h;have e1:=Va1.mp h1;dsimp only at e1;subst e1;have hg:=dgB (top:=λ_=>yx) T.hN T.hs T.nd Qp4 Q82 h3;exact(X76 T.stk T.frm Qh3 (Xte it X sc N tg iter T.hN T.hs T.pf (Xja h6 h3) h4) hg (sndSs b body T h5) (Xex h2)).congr λenv S=>by simp only[exe]|.whl c b=>λst T h=>by obtain⟨⟨cx,body,oe⟩,h1,L⟩:=any_some h;clear h;have h:=L;clear L;obtain⟨p,rfl⟩:=X4i h1;rw[bA0,bA0]at h;obtain⟨⟨h1,h2⟩,h3⟩:=h;have e1:=Va1.mp h1;dsimp only at e1;subst e1;exact(X9t (snd c X sc N cx T.hN T.hs T.pf h2).2 (sndSs b body T h3)).congr λenv S=>by simp only[exe]<;>rfl|.rse c e=>λst T h=>by obtain⟨z,h1,L⟩:=any_some h;clear h;have h:=L;clear L;obtain⟨p,rfl⟩:=X4j h1;rw[bA0]at h;exact X4q T h.1 h.2|.try b c i hd=>λst T h=>by
  obtain⟨⟨body,hs,oe,fb⟩,k1,L⟩:=any_some h;clear h;have h:=L;clear L;obtain⟨y,k2,L⟩:=any_some h;clear h;have h:=L;clear L;obtain⟨⟨te,n,b0,su⟩,k3,L⟩:=any_some h;clear h;have h:=L;clear L;obtain⟨x,k4,L⟩:=any_some h;clear h;have h:=L;clear L;obtain⟨p,e1⟩:=X4k k1;have e2:=Xbp k2;obtain⟨hp,e3⟩:=X4l k3;obtain⟨np,e4⟩:=Xax k4;dsimp only at e1 e2 e3 e4;subst e4 e3 e2 e1
  iterate 9 rw[bA0]at h
  obtain⟨⟨⟨⟨⟨⟨⟨⟨⟨h1,h2⟩,h3⟩,h4⟩,h5⟩,h6⟩,h7⟩,h8⟩,h9⟩,aa⟩:=h;have e1:=Va1.mp h1;have e2:=Va1.mp h2;have h4:=oD0 h4;have h7:=oD0 h7;dsimp only at e1 e2 h7;subst e1 e2;have ib:=sndSs b body T h9;rw[h3]at ib;have ih:∀a,DSs QS3 Qt8 (nasgs hd) (pe F G hd):=λa=>sndSs hd Qt8 (T.inH a) aa;obtain⟨C0,k1,k2⟩:=T.pf.err.at_ c x h4;have hN:=T.hN;have hs:=T.hs;subst hN hs;refine(X9w (c:=c) T.stk T.frm T.nd h7 (Xey h8) k2 (Xaq rfl h5) (Xbd h6).1 (λc' C e1 e2=>(T.pf.err.sub c' C c C0 e1 k1).2 e2) ib ih).congr λenv S=>?_;simp only[exe,h3,if_true,Xzd]
  all_goals rfl|.brk=>λst T h=>by have h:=beq_iff_eq.mp h;obtain⟨p,rfl⟩:=vEnd_ok.2.1 h;exact ds_brk.congr λenv S=>by simp only[exe]
theorem sndSs{cm:Bool}{X:Cx}:∀(x:Sts) (st:LM),TopOk cm F G fns gns X sc N->mtSs fns gns sc N cm x st=yx->DSs X st (nasgs x) (pe F G x)
 |.nil,[]=>λT h=>dss_nil.congr λenv S=>by simp only[pe]|.cons s ss,x::xs=>λT h=>by have h':(mtS fns gns sc N cm s x&&mtSs fns gns sc N cm ss xs)=true:=h;rw[bA0]at h';exact(Xye (Ye8 s x T h'.1) (sndSs ss xs T h'.2)).congr λenv S=>by simp only[pe]<;>rfl|.nil,_::_=>λT h=>by cases h|.cons _ _,[]=>λT h=>by cases h
end
universe e
def BM(mg:Str->OV)(base:Heap):Prop:=∃L ob,mg "__builtins__"=yz (.ref L)/\L≠Vgy/\base.get? L=yz ob/\ob.cls=.type "module" /\ ob.dict=yz Vgy/\ob.data=.plain
noncomputable def Xd0(K:Ve)(nm:Str):Bool:=match PySem.W.tabIn K nm with
 |some (c,P)=>PySem.W.codeHdIn K c P&&decide (Qw4.lookup P=yz (Xat nm))|none=>yw
def Xh9(K:Ve)(N:LS)(nm:Str):Prop:=∀m∈mks,N.getLast?=yz Qa9->m=nm/\Xd0 K m=yx
structure DefOk(K:Ve)(mg:Str->OV)(fns:LF)(gns:LS)(d:Df)(nm:Str)(ar:Nat)(fl:Bool):Prop where
 ex:∃g fd st N ps,Fun K nm nm st g fd/\Vac K Um nm=yz Qn6/\Xh9 K N nm/\mg nm=yz QJ2/\Xcv N ps QU1=yx/\mtSs fns gns QU1 N fl d.body QT3=yx/\d.np=ll ps/\d.nl=N.length/\Qt4=ar/\Binds K fd ps []
section
variable{P:Ue}{w:Uy}{K:Ve}{mg:Str->OV}{base:Heap}{T:List Df}{G:LD}{fns:LF}{gns:LS}
theorem Xo2(ah:∀(f:Nat) (nm:Str),Xbk f nm G=yx->∃L fl,fns[f]?=yz Qy2/\Q90/\∀k xs S,FT T G k f xs S≠.bad->ll xs=L)(er:ErrOk K)(hb:∀x∈blts,mg x=yy)(hg:∀(k:Nat) nm,gns[k]?=yz nm->∃u d,mg nm=yz u/\G[k]?=yz d/\∀ ρ H,∃v,RelV v u/\RD K ρ H d v){k:Nat}
  (ih:∀(f:Nat) nm L fl,fns[f]?=yz Qy2->∃g fd ps,FnD fl P w K mg base k g fd ps QT4/\Binds K fd ps []/\mg nm=yz QJ2/\Vdt K QJ2=yx/\Qt4=L)
  {f:Nat} {nm:Str} {fl:Bool} {d:Df} {g:Addr} {fd:Vd5} {st:Stmt} {N ps:LS} (ac:Qw0->K.In base/\BM mg base) (aj:Vac K Um nm=yz Qn6) (af:Xh9 K N nm) (hT:T[f]?=yz d) (F:Fun K nm nm st g fd) (hS:Xcv N ps QU1=yx) (hM:mtSs fns gns QU1 N fl d.body QT3=yx) (hp:d.np=ll ps) (hn:d.nl=N.length):
  FnD fl P w K mg base QN g fd ps Q67:=by
 obtain⟨oc,od,kV,ao,pm,an,al,ct,am,rfl,lk,ak⟩:=F.ex;have aa:=Xoz hS;have ai:=X7s (cm:=fl) (P:=P) (w:=w) (mg:=mg) (base:=base) (k:=k) (G:=pe Qs3 G d.body) (na:=nasgs d.body) lk ak aa λA outer s H E hr=>by
  refine sndSs (fns:=fns) (gns:=gns) (sc:=Xu st) (N:=N) d.body QT3 ⟨rfl,rfl,aa.nd,λ_=>rfl,⟨hb,λf nm L ab h ae=>?_,hg,λf nm h=>let ⟨L,fl,h1,h2,h3⟩:=ah f nm h;⟨L,fl,h1,h2,h3 k⟩,?_,hr.gd,id,er⟩,rfl,rfl,?lam⟩ hM
  case lam=>
   intro m hm hN;obtain⟨rfl,hl⟩:=af m hm hN;have hb:=ac ⟨m,hm,hl⟩;unfold Xd0 at hl;split at hl
   ·rename_i c P hq;rw[bA0,decide_eq_true_eq]at hl;refine⟨rfl,by have:=hr.dp;show QY7.depth+5<_;omega,⟨c,P,?_,PySem.W.codeHd_of_K hb.1 hl.1,hl.2⟩,hb.2⟩;simp only[PySem.W.tabIn,aj,lk]at hq;split at hq
    ·split at hq
     ·split at hq;·cases hq;rfl
      ·cases hq
     cases hq
    cases hq
   cases hl
  ·obtain⟨g,fd,ps,h1,h2,h3,h4,h5⟩:=ih f nm L ab h;exact⟨g,fd,ps,k,h1,hr.less ae,h2,h3,h4,h5⟩
  have:=hr.un;show QY7.units+200<Vbh;omega
 have e:FT T G QN f=(λds S=>if Qm7=ll ps then
  match pe Qs3 G d.body (ds.map yz++Vj (N.length-ll ps) yy) S with
  |.ok Qf9 S=>.ok v S|.ok Qg9 S=>.ok .non S|.ok _ _=>.bad|.ex n S=>.ex n S
  |.bad=>.bad else .bad):=by
  funext ds S;simp only[FT,hT,den,hp,hn]
  all_goals rfl
 rw[e];exact ai
theorem table(ac:∀(f:Nat) (nm:Str),Xbk f nm G=yx->∃L fl,fns[f]?=yz Qy2/\Q90/\∀k xs S,FT T G k f xs S≠.bad->ll xs=L)(er:ErrOk K)(hb:∀x∈blts,mg x=yy)(hg:∀(k:Nat) nm,gns[k]?=yz nm->∃u d,mg nm=yz u/\G[k]?=yz d/\∀ ρ H,∃v,RelV v u/\RD K ρ H d v)
  (aa:Qw0->K.In base/\BM mg base) (hd:∀(f:Nat) nm L fl,fns[f]?=yz Qy2->∃d,T[f]?=yz d/\DefOk K mg fns gns d nm L fl):
  ∀(k f:Nat) nm L fl,fns[f]?=yz Qy2->∃g fd ps,FnD fl P w K mg base k g fd ps QT4/\Binds K fd ps []/\mg nm=yz QJ2/\Vdt K QJ2=yx/\Qt4=L:=by
 intro k;induction k with
 |zero=>intro f nm L fl h;obtain⟨d,_,⟨g,fd,st,N,ps,F,_,_,hm,_,_,_,_,hl,hB⟩⟩:=hd f nm L fl h;refine⟨g,fd,ps,⟨λA outer s H ah us vs Q E _ _ _ _ ae=>?_⟩,hB,hm,F.kp,hl⟩;obtain⟨ds,ρ,S',_,_,_,nb,_⟩:=ae;cases nb rfl|succ k ih=>intro f nm L fl h;obtain⟨d,hT,⟨g,fd,st,N,ps,F,af,ab,hm,hS,hM,hp,hn,hl,hB⟩⟩:=hd f nm L fl h;exact⟨g,fd,ps,Xo2 ac er hb hg ih aa af ab hT F hS hM hp hn,hB,hm,F.kp,hl⟩
universe e
structure FunAt(K:Ve)(nm:Str)(st:Stmt):Prop where
 ex:∃g fd,Fun K nm nm st g fd/\Vac K Um nm=yz Qn6
theorem funAt_mk{K:Ve}{nm:Str}{st:Stmt}{f:Addr}{oc:Vb}{od an:Option Addr}{ab:Array (OV)}{kV aa pm L ct:Vb}(a:Vac K Um nm=yz (yz Q99))
  (l:K.lookup f=yz ⟨oc,od,.func QH,ab⟩) (c:Vg0 K L nm=yx) (k:Vdt K Q99=yx):FunAt K nm st:=⟨⟨f,_,X6s l c k,a⟩⟩
def Xez(nm:Str)(st:Stmt)(ps:LS):Prop:=∀(kV aa pm:Vb) (an:Option Addr) (L ct:Vb) (us:LV),ll us=ll ps->Vf0 QH ⟨us,[]⟩=pure (ps.zip us)
theorem Xbg{nm a:Str}{st:Stmt}(h:∀kV aa pm an L ct u,Vf0 QH Q08=pure [QS9]:=by intros;rfl):Xez nm st [a]:=λkV aa pm an L ct us hl=>by rcases us with _|⟨u,_|_⟩<;>first|exact h .. | cases hl
theorem Xbl{nm a b:Str}{st:Stmt}(h:∀kV aa pm an L ct u v,Vf0 QH ⟨[u,v],[]⟩=pure [QS9,(b,v)]:=by intros;rfl):Xez nm st [a,b]:=λkV aa pm an L ct us hl=>by rcases us with _|⟨u,_|⟨v,_|_⟩⟩<;>first|exact h .. | cases hl
theorem Xo3{nm a b c:Str}{st:Stmt}(h:∀kV aa pm an L ct u v x,Vf0 QH ⟨[u,v,x],[]⟩=pure [QS9,(b,v),(c,x)]:=by intros;rfl):Xez nm st [a,b,c]:=λkV aa pm an L ct us hl=>by rcases us with _|⟨u,_|⟨v,_|⟨x,_|_⟩⟩⟩<;>first|exact h .. | cases hl
theorem Ye9{nm a b c d:Str}{st:Stmt}(h:∀kV aa pm an L ct u v x y,Vf0 QH ⟨[u,v,x,y],[]⟩=pure [QS9,(b,v),(c,x),(d,y)]:=by intros;rfl):Xez nm st [a,b,c,d]:=λkV aa pm an L ct us hl=>by rcases us with _|⟨u,_|⟨v,_|⟨x,_|⟨y,_|_⟩⟩⟩⟩<;>first|exact h .. | cases hl
theorem X1y{K:Ve}{N:LS}{nm:Str}(h:(mks.all λm=>!decide Qp1)=yx):Xh9 K N nm:=λm L e=>by have:=Vag.mp h m L;rw[decide_eq_true e]at this;cases this
theorem Ydn{K:Ve}{N:LS}{nm:Str}(hl:Xd0 K nm=yx)(h:(mks.all λm=>!decide Qp1||decide Qo9)=yx):Xh9 K N nm:=λm L e=>by have:=Vag.mp h m L;rw[decide_eq_true e,Vb3,Vhm,decide_eq_true_eq]at this;exact⟨this,this▸hl⟩
theorem Xzm{K:Ve}{h:Heap}{mg:Str->OV}{fns:LF}{gns:LS}{d:Df}{nm:Str}{ar:Nat}{fl:Bool}{st:Stmt}{N ps:LS}(X:K.In h)(Gm:h.Ns Um mg)(F:FunAt K nm st)
  (hS:Xcv N ps QU1=yx) (hM:mtSs fns gns QU1 N fl d.body QT3=yx) (hp:d.np=ll ps) (hn:d.nl=N.length) (hl:Qt4=ar) (hB:Xez nm st ps) (L:Xh9 K N nm):DefOk K mg fns gns d nm ar fl:=by
 obtain⟨g,fd,h1,h2⟩:=F.ex;exact⟨g,fd,st,N,ps,h1,h2,L,Vdl X Gm h2,hS,hM,hp,hn,hl,h1.binds hB⟩
abbrev MD(fns:LF)(gns:LS)(st:Stmt)(N:LS)(fl:Bool)(d:Df):Prop:=(mtSs fns gns QU1 N fl d.body QT3&&Xcv N Qo1 QU1)=yx
theorem mm{fns:LF}{gns:LS}{st:Stmt}{N:LS}{fl:Bool}{d:Df}(h:MD fns gns st N fl d):mtSs fns gns QU1 N fl d.body QT3=true:=Q26.1
theorem ms{fns:LF}{gns:LS}{st:Stmt}{N:LS}{fl:Bool}{d:Df}(h:MD fns gns st N fl d):Xcv N Qo1 QU1=true:=Q26.2
theorem dk{K:Ve}{h:Heap}{mg:Str->OV}{fns:LF}{gns:LS}{d:Df}{nm:Str}{ar:Nat}{fl:Bool}{st:Stmt}{N:LS}(X:K.In h)(Gm:h.Ns Um mg)(F:FunAt K nm st)
  (hM:MD fns gns st N fl d) (hB:Xez nm st Qo1) (L:Xh9 K N nm:=by exact X1y QE0) (hp:d.np=Qo1.length:=by rfl) (hn:d.nl=N.length:=by rfl) (hl:Qo1.length=ar:=by rfl):DefOk K mg fns gns d nm ar fl:=Xzm X Gm F (ms hM) (mm hM) hp hn hl hB L
def AllD(K:Ve)(mg:Str->OV)(fns:LF)(gns:LS):LF->List Df->Prop
 |[],[]=>True|x::r,d::ds=>DefOk K mg fns gns d x.1 x.2.1 x.2.2/\AllD K mg fns gns r ds|_,_=>False
theorem AllD.c{K:Ve}{mg:Str->OV}{fns:LF}{gns:LS}{x:Str×Nat×Bool}{r:LF}{d:Df}{ds:List Df}(h:DefOk K mg fns gns d x.1 x.2.1 x.2.2)(t:AllD K mg fns gns r ds):AllD K mg fns gns Q63 (d::ds):=⟨h,t⟩
theorem AllD.get{K:Ve}{mg:Str->OV}{fns:LF}{gns:LS}:∀ {fs:LF} {ds:List Df},AllD K mg fns gns fs ds->∀(f:Nat) nm ar fl,fs[f]?=yz Q96->∃d,ds[f]?=yz d/\DefOk K mg fns gns d nm ar fl
 |[],[],_,f,nm,ar,fl,e=>by cases e|x::r,d::ds,h,0,nm,ar,fl,e=>by cases e;exact⟨d,rfl,h.1⟩|x::r,d::ds,h,f+1,nm,ar,fl,e=>AllD.get h.2 f nm ar fl e
noncomputable def Yac(K:Ve):Bool:=blts.all λx=>match Vac K Um x with
 |some yy=>yx|_=>yw
theorem X4r{K:Ve}{h:Heap}{mg:Str->OV}(X:K.In h)(L:h.Ns Um mg)(e:Yac K=yx):∀x∈blts,mg x=none:=λx hx=>by
 have:=Vag.mp e x hx;split at this;·rename_i q;exact PySem.W.mg_none_of X L q
 ·cases this
theorem Xc2{K:Ve}{h:Heap}{mg:Str->OV}{nm:Str}{i:Int}{t:Tok}(X:K.In h)(L:h.Ns Um mg)(e:Vac K Um nm=yz (yz (.int i t))):∃u d,mg nm=yz u/\yz (D.int i)=yz d/\∀ ρ H,∃v,RelV v u/\RD K ρ H d v:=
 ⟨_,_,Vdl X L e,rfl,λ_ _=>⟨.int i,⟨t,rfl⟩,by simp only[RD]⟩⟩
theorem Yad{K:Ve}{h:Heap}{mg:Str->OV}{nm:Str}{st:Stmt}{f:Nat}(X:K.In h)(L:h.Ns Um mg)(F:FunAt K nm st):∃u d,mg nm=yz u/\yz (D.fn f nm)=yz d/\∀ ρ H,∃v,RelV v u/\RD K ρ H d v:=by obtain⟨g,fd,_,h2⟩:=F.ex;exact⟨_,_,Vdl X L h2,rfl,λ_ _=>⟨.ref g,rfl,by simp only[RD];exact⟨g,rfl,h2⟩⟩⟩
noncomputable def Xk0(fns:LF):LD->Bool
 |[]=>yx|.fn f nm::r=>(match fns[f]? with|some (m,_,_)=>decide Qo9|none=>yw)&&Xk0 fns r|_::r=>Xk0 fns r
theorem Xk1:∀ {G:LD},Xk0 fns G=yx->Xbk f nm G=yx->∃L fl,fns[f]?=yz Qy2
 |[],_,h=>by cases h|d::r,hc,h=>by
  cases d with
  |fn g m=>
   simp only[Xk0,bA0]at hc;simp only[Xbk,Vcb,bA0,beq_iff_eq,decide_eq_true_eq]at h;rcases h with⟨rfl,rfl⟩|h
   ·have h1:=hc.1;split at h1;·rename_i m' L fl e;have:=oD0 h1;subst this;exact⟨L,fl,e⟩
    ·cases h1
   exact Xk1 hc.2 h|_=>exact Xk1 (by simpa only[Xk0] using hc) (by simpa only[Xbk] using h)
theorem Yae(hT:T[f]?=yz d):∀(k:Nat) (xs:LD) (S:Sto),FT T G k f xs S≠.bad->ll xs=d.np
 |0=>λxs S h=>aB0 rfl h|k+1=>λxs S h=>by
  simp only[FT,hT,den]at h;split at h;·assumption
  ·cases h rfl
theorem law_fn {P:Ue} {w:Uy} {K:Ve} {h:Heap} {mg:Str->OV} {T:List Df} {G:LD} {fns:LF} {gns:LS} {fa:Addr} {k f:Nat} {d:Df} {st:Stmt} {N:LS} {x:Str} (X:K.In h) (Gm:h.Ns Um mg) (aj:mg "law"=yz Qb8)
  (er:ErrOk K) (hb:∀x∈blts,mg x=yy) (hg:∀(k:Nat) nm,gns[k]?=yz nm->∃u d,mg nm=yz u/\G[k]?=yz d/\∀ ρ H,∃v,RelV v u/\RD K ρ H d v)
  (hd:∀(f:Nat) nm ar fl,fns[f]?=yz Q96->∃d,T[f]?=yz d/\DefOk K mg fns gns d nm ar fl)
  (hT:T[f]?=yz d) (F:FunAt K "law" st) (hS:Xcv N [x] QU1=yx) (hM:mtSs fns gns QU1 N yx d.body QT3=yx) (hp:d.np=1) (hn:d.nl=N.length) (hB:Xez "law" st [x]) (af:Xk0 fns G=true:=by rfl) (ac:Xh9 K N "law":=by exact X1y QE0):
  ∃fd:Vd5,QD1/\∀base:Heap,K.In base->(Qw0->BM mg base)->FnOk P w K mg base (CXd P w) QN fa fd [x] (spD K 1 Q67):=by
 obtain⟨g,fd,h1,h2⟩:=F.ex;have e:=aj.symm.trans (Vdl X Gm h2);cases e;refine⟨fd,λs u=>?_,λbase kb bm=>?_⟩;·obtain⟨oc,od,kV,ai,pm,an,ae,ct,ak,rfl,_⟩:=h1.ex;exact .of_eq (hB kV ai pm an ae ct [u] rfl)
 ·have ab:∀(f:Nat) (nm:Str),Xbk f nm G=yx->∃ar fl,fns[f]?=yz Q96/\Q90/\∀k xs S,FT T G k f xs S≠.bad->ll xs=ar:=λf nm h=>by
   obtain⟨ar,fl,q⟩:=Xk1 af h;obtain⟨d',ah,⟨_,_,_,_,al,_,_,_,_,_,_,e1,_,e2,_⟩⟩:=hd f nm ar fl q;exact⟨ar,fl,q,λa z=>Vdl X Gm z,λk xs S z=>by rw[Yae ah k xs S z,e1,e2]⟩
  have L:Qw0->K.In base/\BM mg base:=λz=>⟨kb,bm z⟩;have:=Xo2 (P:=P) (w:=w) (base:=base) ab er hb hg (λf nm ar fl q=>table ab er hb hg L hd k f nm ar fl q) L h2 ac hT h1 hS hM hp hn;exact⟨λvs H Q E z=>let ⟨_,_,_,q,_⟩:=z;q,λA outer s H aa us vs Q E hr=>this.run A outer s H aa us vs Q E (.of hr)⟩
theorem Yaf{K:Ve}{F:LD->Sto->R D}{H:Hp}{a:Addr}{ns:LI}(hO:∀xs,H a≠yz QX4)(hT:TabH K H)(hS:SqL K H a Qo0)(hF:∃S',F QE3 []=.ok QB1 S'):
  spD K 1 F Qw2 H QW5 λ_ _ _=>False:=by
 obtain⟨S',e⟩:=hF;have L:FrL K H a Qo0:=by
  rcases hS with(h|⟨o,h⟩)|h;·exact aB0 h (hO _)
  ·exact .inl ⟨o,h⟩
  exact .inr h
 refine⟨QE3,[],[],rfl,.cons ?_ .nil,⟨hT,rfl,Vg2,λn a o q=>by simp at q⟩,(by rw[e];exact λz=>nomatch z),λd S2 v H' ρ' q rd _ _=>?_,λn c S2 a H' ρ' q=>?_⟩;·simp only[RD];exact⟨a,_,rfl,L,RDs.ints ns⟩
 ·rw[e]at q;cases q;simpa only[RD] using rd
 ·rw[e]at q;cases q
theorem Yag(H:Hp)(s:Vc)(e:Vb)(s':Vc)(z:CXd P w [] H s Qp5 e s'):False:=by obtain⟨_,_,_,_,_,_,q⟩:=z;exact q
universe Z
universe e
section
namespace Z
open PySem PySem.Spec PyProof.Rows L2
open PySem.W (tabIn codeHdIn codeHd_of_K tabObj)
noncomputable def Yah(K:Ve)(ts:LR):Bool:=mks.all λm=>match tabIn K m with
 |some (c,P)=>codeHdIn K c P&&ts.contains P&&(K.lookup P).isNone|none=>yx
theorem Xv0{P:Addr}{q:Str}:∀ {l:List (Addr×Str)},l.lookup P=yz q->(P,q)∈l
 |[],e=>by cases e| (b,x)::r,e=>by
  rw[Val]at e;cases hb:P==b with
  |true=>rw[hb]at e;cases e;rw[eq_of_beq hb];exact .head _|false=>rw[hb]at e;exact .tail _ (Xv0 e)
theorem Yai{K:Ve}{h:Heap}{ts:LR}(KX:K.In h)(hb:Yah K ts=yx)(ht:∀P∈ts,h.get? P=yz Q73){P:Addr}{q:Str}(e:Qw4.lookup P=yz q):h.get? P=yz Q73/\isCodeTable h P/\K.lookup P=none:=by have hm:=Xv0 e;unfold Xc6 at hm;obtain⟨m,ac,L⟩:=Ve0.mp hm;rw[Ud]at L;obtain⟨⟨c,P'⟩,aa,ab⟩:=L;cases ab;have:=Vag.mp hb m ac;rw[aa]at this;simp only[bA0]at this;obtain⟨⟨h1,h2⟩,h3⟩:=this;have e1:=ht P' (by simpa using h2);exact⟨e1,((codeHd_of_K KX h1).tab e1).isCodeTable,by simpa using h3⟩
theorem Xv1{P:Ue}{w:Uy}{K:Ve}{mg mb:Str->OV}{CX:CXT}{k:Nat}{fa a:Addr}{fd:Vd5}{x:Str}{sp:Sp}{L:Vc}{vs:LV}{ns:LI}
  (KX:K.In L.heap) (av:L.heap.Ns Um mg) (hb:L.heap.Ns Vgy mb) (ao:∀x:Str,x ≠ "__name__" -> mb x=Veo x) (ai:L.heap.NoLimit) (hg:L.gens=#[])
  (aa:∀P q,Qw4.lookup P=yz q->L.heap.get? P=yz Q73/\isCodeTable L.heap P/\K.lookup P=yy) (an:BM mg L.heap)
  (ha:L.heap.get? a=yz QZ) (hi:Vbi vs ns) (hl:(ll ns)<=V3) (hr:Room k callerA)
  (F:∀base:Heap,K.In base->BM mg base->FnOk P w K mg base CX k fa fd [x] sp) (ah:∀(s:Vc) (u:Vb),BindsTo s fd Q08 [(x,u)])
  (aq:∀H:Hp,(∀xs,H a≠yz QX4)->TabH K H->SqL K H a Qo0->sp Qw2 H QW5 λ_ _ _=>False)
  (ar:∀H e s',CX [] H L Qp5 e s'->False):
  Vdh Q39 callerA Qf2 QW0 L:=by
 have rv:=Xl0 hi;have al:=hi.length;have au:∀q,Qw4.lookup a≠yz q:=λq e=>by have:=(aa a q e).1;rw[ha]at this;cases this
 have ac:∀o:Option HO,(∀u,o=yz u->u=.frz QZ Qd5/\K.lookup a=yy)->SqL K (λb=>if b=a then o else Qo2.map .tbl) a Qo0 ->
   Vdh Q39 callerA Qf2 QW0 L:=by
  intro o hO hS;generalize eH:(λb=>if b=a then o else Qo2.map HO.tbl)=H at hS;have ap:H a=o:=by rw[<-eH];exact iP0 rfl
  have aj:∀b,b≠a->H b=Qo2.map HO.tbl:=λb z=>by rw[<-eH];exact iN0 z
  have trk:∀b u,H b=yz u->(b=a/\u=.frz QZ Qd5/\K.lookup a=yy)\/∃q,u=.tbl q/\Qw4.lookup b=yz q:=λb u e=>by
   by_cases hb:b=a;·subst hb;rw[ap]at e;exact .inl ⟨rfl,hO u e⟩
   ·rw[aj b hb,Ud]at e;obtain⟨q,e1,e2⟩:=e;exact .inr ⟨q,e2.symm,e1⟩
  have hT:TabH K H:=λP q e=>by rw[aj P λz=>au q (z▸e),e];rfl
  have hok:HOk P w H L.heap:=λb u e=>by
   rcases trk b u e with⟨rfl,rfl,_⟩|⟨q,rfl,e2⟩;·exact⟨ha,by rw[Vg];exact hl,vs,_,rv,ha⟩
   ·exact⟨#[],QR3.1,trivial,λpos cv z=>by cases z⟩
  have ab:∀ {b:Addr} {o:Obj},L.heap.get? b=yz o->o.cls≠.type "list" -> o≠tabObj #[]->Q41.get? b=yz o:=λ{b o} e n1 n2=>Xhy e (by
   cases q:H b with
   |none=>rfl|some u=>
    rcases trk b u q with⟨rfl,_⟩|⟨q,_,e2⟩;·rw[ha]at e;cases e;cases n1 rfl
    ·rw[QR3.1]at e;cases e;exact aB0 rfl n2)
  have af:∀ {b:Addr} {m:Str->OV},L.heap.Ns b m->Q41.Ns b m:=λ{b m} ⟨o,es,ep,e,d,r⟩=>by
   refine⟨o,es,ep,Xhy e ?_,d,r⟩;cases q:H b with
   |none=>rfl|some u=>
    rcases trk b u q with⟨rfl,_⟩|⟨q,_,e2⟩;·rw[ha]at e;cases e;cases d
    ·rw[QR3.1]at e;cases e;cases d
  have ak:K.In Q41:=λb o e=>Xhy (KX b o e) (by
   cases q:H b with
   |none=>rfl|some u=>
    rcases trk b u q with⟨rfl,_,z⟩|⟨q,_,e2⟩;·rw[z]at e;cases e
    ·rw[QR3.2.2]at e;cases e)
  have hM:Mod K mg Q41:=⟨ak,af av,⟨mb,af hb,ao⟩,let ⟨mc,h1,h2⟩:=ai;⟨mc,af h1,h2⟩⟩;have hB:BM mg Q41:=by obtain⟨bm,ob,b1,b2,b3,b4,r⟩:=an;exact⟨bm,ob,b1,b2,ab b3 (by rw[b4];nofun) (λz=>by rw[z]at b4;cases b4),b4,r⟩
  have e0:Env0 P w K mg Q41 callerA [] L H:=⟨rfl,hM,λb o e=>X2e e,Nat.le_of_eq (Xt8 _ _),trivial,λb hb=>aB0 (show b∈([]:LR) from hb) Qu,hok,.of_eq hg⟩;refine Vgm ((F _ ak hB).run callerA [] L H ⟨Qw2,[]⟩ Qw2 Qw2 _ _ hr e0 (ah L QK2) (.cons rfl .nil) (aq H (λxs z=>by rcases trk a _ z with⟨_,z,_⟩|⟨_,z,_⟩<;>cases z) hT hS)) λr s' h=>?_;cases r with
  |error e=>exact(ar H e s' h).elim|ok fl=>
   cases fl with
   |next=>exact Ve6 h|brk=>exact Ve6 h|cont=>exact Ve6 h|ret u=>
    obtain⟨v,H',os,bare,un,ae,r',q⟩:=h;have q':v=.bl true:=q;subst q';obtain rfl:u=Vfz true:=r';have am:∀b o,L.heap.get? b=yz o->s'.heap.get? b=yz o\/(isCodeTable L.heap b/\o=tabObj #[]/\∃ps,s'.heap.get? b=yz (tabObj ps)):=λb o e=>by
     cases q:H b with
     |none=>exact .inl (un.keep b o e q (by intro z;exact aB0 (show b∈([]:LR) from z) Qu) Qu)|some u=>
      rcases trk b u q with⟨rfl,rfl,_⟩|⟨q2,rfl,e2⟩;·obtain⟨e3,_⟩:=ae _ _ (un.frzs _ _ _ q);rw[ha]at e;cases e;exact .inl e3
      ·obtain⟨ps,e3,_⟩:=ae _ _ (un.tbls _ _ q);obtain⟨t1,t2,_⟩:=aa b q2 e2;rw[t1]at e;cases e;exact .inr ⟨t2,rfl,ps,e3⟩
    refine⟨rfl,⟨λb o e=>?_,λb o e=>?_⟩,os,bare⟩
    ·rcases am b o e with z|⟨t,rfl,ps,z⟩;·exact .inl z
     ·exact .inr (.inl ⟨t,rfl,#[],ps,rfl,by rw[z,Array.empty_append]⟩)
    rcases am b o e with z|⟨_,_,ps,z⟩;·exact QC9
    ·exact QC9
 cases hk:K.lookup a with
 |some o=>have e:=KX a o hk;rw[ha]at e;cases e;exact ac yy Qo5 (.inr ⟨_,vs.toArray,_,hk,rfl,rfl,rfl,by rw[Vo,al];exact hl,by simpa using rv⟩)|none=>exact ac (yz (.frz QZ Qd5)) (λu z=>by cases z;exact⟨rfl,hk⟩) (.inl (.inr ⟨QZ,iP0 rfl⟩))
noncomputable def dr(ts:LR)(K:Ve):Ve:=K.filter λp=>!ts.contains p.1
noncomputable def Xgy(ts:LR)(K:Ve):Bool:=ts.all λP=>match K.lookup P with
 |some ⟨.none,yy,.fields ⟨[]⟩,⟨[]⟩⟩=>yx|_=>yw
section
variable{ts:LR}{K:Ve}{h:Heap}
theorem Xth{a:Addr}:∀ {K:Ve},QQ3.lookup a=if a∈ts then yy else K.lookup a
 |[]=>by show yy=_;split<;>rfl| (b,x)::r=>by
  have ih:=Xth (a:=a) (K:=r);unfold dr at ih ⊢;rw[List.filter_cons,Val];cases hb:a==b with
  |true=>
   have e:=eq_of_beq hb;subst e;by_cases L:a∈ts;·rw[iN0 Qz2,ih];simp only[L,if_true]
   ·rw[iP0 Qz2,Val,hb,iN0 L]|false=>
   split;·rw[Val,hb];exact ih
   ·exact ih
theorem Ydo(X:K.In h):QQ3.In h:=λa o e=>by
 rw[Xth]at e;split at e;·cases e
 ·exact X a o e
theorem Xrk(hb:Xgy ts K=yx){P:Addr}(L:P∈ts):K.lookup P=yz Q73:=by
 have:=Vag.mp hb P L;split at this;·assumption
 ·cases this
theorem Xk2(hb:Xgy ts K=yx){a:Addr}{o:Obj}(e:K.lookup a=yz o)(L:o≠tabObj #[]):QQ3.lookup a=yz o:=by
 rw[Xth,iN0];·exact e
 ·intro hm;rw[Xrk hb hm]at e;exact L (U6 e).symm
theorem ns_dr(hb:Xgy ts K=yx){x:Str}{r:OV}(e:Vac K a x=yz r):Vac QQ3 a x=yz r:=by
 unfold Vac at e ⊢;split at e;·rename_i q;rw[Xk2 hb q λz=>by cases z];exact e
 ·cases e
theorem fun_dr(hb:Xgy ts K=yx){nm:Str}{st:Stmt}(F:FunAt K nm st):FunAt QQ3 nm st:=by
 obtain⟨g,fd,⟨⟨oc,od,kV,ac,pm,an,ab,ct,ae,rfl,lk,L⟩,hk⟩,hn⟩:=F.ex;have aa:=Xk2 hb lk λz=>by cases z
 refine⟨g,_,⟨⟨oc,od,kV,ac,pm,an,ab,ct,ae,rfl,aa,?_⟩,?_⟩,ns_dr hb hn⟩
 ·unfold Vg0 at L ⊢;split at L
  ·split at L;·rename_i q;rw[Xk2 hb q λz=>by cases z;cases L];exact L
   ·cases L
  cases L
 unfold Vdt;simp only[aa]
universe e
theorem walk_zT{l:PySem.W.OpenLaw}{loose:LS}{XP:(Str->OV)->Heap->Prop}{YP:Uy->Heap->Prop}{d:DefRec}{K:Params->Ve}{T:List Df}{G:LD}{k f:Nat}{x:Str}(ts:LR)(hn:l.most=yz 63)(ah:d.params.defaults=[])(hr:Room k callerA)
  (hY:∀(w:Uy) (h:Heap),YP w h->Qh0.In h) (hT:∀w:Uy,Xgy ts Qh0=yx) (hN:∀w:Uy,Yah QR0 ts=yx)
  (F:∀(w:Uy) (mg:Str->OV) (fa:Addr) (h:Heap),Xgy ts Qh0=yx->QR0.In h->h.Ns Um mg->mg d.name=yz Qb8 ->
   ∃fd:Vd5,QD1/\∀base:Heap,QR0.In base->((∃m∈mks,Xd0 QR0 m=yx)->BM mg base)->FnOk l.prog w QR0 mg base (CXd l.prog w) k fa fd [x] (spD QR0 1 QT4))
  (hL:∀ns:LI,ll ns<=63->∃S',FT T G k f QE3 []=.ok QB1 S'):
  PySem.W.WalkO q loose XP YP l.row.toRowW d [] (λf vs=>PySem.call f vs):=by
 refine Att.attach_call hn ah λw s₀ ac mg mb fa o pm cd ai a vs ns G Y ho hd aj af ae ab L hg=>?_;have KX:=hY w _ Y;have aa:=Ydo (ts:=ts) KX;obtain⟨fd,hb,hF⟩:=F w mg fa _ Qq9 aa G.T.g af;exact Xv1 aa G.T.g G.T.b G.T.builtins G.T.nolimit hg (λP q e=>Yai aa (hN w) (λP hP=>KX P _ (Xrk Qq9 hP)) e) G.T.bmain ae ab (V2 L QJ) hr (λbase kb bm=>hF base kb λ_=>bm) hb (λH hO hT hS=>Yaf hO hT hS (hL ns L)) λH e s'=>Yag H ac e s'
universe Z
universe e
section
namespace Z
open PySem PySem.Spec PyProof.Rows L2
section
variable{F:Fn}{G:LD}{s:St}{ss:Sts}{env e:En}{S S1:Sto}
theorem Xb(h:exe F G s env S=.ok Q44 S1):pe F G Qa4 env S=pe F G ss e S1:=by simp only[pe,h]
theorem Xg(h:exe F G s env S=.ok QD2 S1):pe F G Qa4 env S=.ok QD2 S1:=by simp only[pe,h]
theorem Xbe(h:exe F G s env S=.ex n S1):pe F G Qa4 env S=.ex n S1:=by simp only[pe,h]
theorem Xft{get:Sto->Nat->Option Qq3}{body:En->Sto->R Fl}(xs:LD)(P:Nat->En->Sto->Prop)(aa:∀i e S,P i e S->get S i=yz xs[i]?)
  (step:∀i d e S,xs[i]?=yz d->P i e S->∃e1 e2 S2,Xn t d e=yz e1/\body e1 S=.ok QI5 S2/\P Q40 e2 S2):
  ∀(L i:Nat) (e:En) (S:Sto),P i e S->i<=ll xs->ll xs<L+i->∃e' S',X4 get t body L i e S=.ok QJ5 S'/\P Qe e' S'
 |0=>λi e S h h1 h2=>by omega|L+1=>λi e S h h1 h2=>by
  cases q:xs[i]? with
  |none=>
   have hi:i=ll xs:=by have:=U4.mp q;omega
   refine QQ5;simp only[X4,aa i e S h,q]|some d=>obtain⟨e1,e2,S2,a1,a2,a3⟩:=step i d e S q h;have hi:i<ll xs:=QO4.1;obtain⟨e',S',b1,b2⟩:=Xft xs P aa step L Q40 e2 S2 a3 Q0 Q0;refine Q36;simp only[X4,aa i e S h,q,a1,a2];exact b1
theorem Xbq{ds xs:LD}(P:Nat->En->Sto->Prop)(h1:evs F G es env S=.ok ds S1)(h2:Yn ds=yz xs)(h0:P 0 env S1)
  (step:∀i d e S,xs[i]?=yz d->P i e S->∃e1 e2 S2,Xn t d e=yz e1/\pe F G b e1 S=.ok QI5 S2/\P Q40 e2 S2):
  ∃L S',exe F G (.for t Qa8 b) env S=.ok Qv7 S'/\P Qe L S':=by
 obtain⟨L,S',a,b'⟩:=Xft (get:=Q93.get) (t:=t) (body:=λenv S=>pe F G b env S) xs P Qq5 step QA2 0 env S1 h0 Qn3 Q0;refine QR6;simp only[exe,evit,h1,Rk0,h2,Src.most];exact a
universe e
theorem Xb3(h:Yn QF4=yz xs)(q:xs[i]?=yz d):d=.int i/\i<m.toNat:=by
 simp only[Yn]at h;split at h
 ·cases h;rw[Vx]at q;cases z:(Vl m.toNat)[i]? with
  |none=>rw[z]at q;cases q|some j=>rw[z]at q;obtain⟨hi,e⟩:=Vd.mp z;simp at e hi;subst e;simp at q;exact⟨q.symm,by omega⟩
 cases h
theorem Xa9(h0:0<=m)(h:m<1048576):∃xs,Yn QF4=yz xs/\Qe=m.toNat:=by refine⟨_,by simp only[Yn];rw[iP0 ⟨by omega,h⟩],by simp⟩
noncomputable def C:Nat->Nat->Nat
 |_,0=>1|0,_+1=>0|n+1,k+1=>C n k+C n QN
theorem Y1(n:Nat):C n 0=1:=by cases n<;>rfl
theorem Xbm:∀(n k:Nat),n<k->C n k=0
 |0,k+1,_=>rfl|n+1,k+1,h=>by simp only[C];rw[Xbm n k Q0,Xbm n QN Q0]
theorem Xec:∀(n k:Nat),C n QN*QN=C n k*(n-k)
 |0,k=>by simp[C]|n+1,0=>by have:=Xec n 0;simp only[Y1,Via,Nat.one_mul,Nat.mul_one,Va4]at this ⊢;simp only[C,Y1];rw[this];omega|n+1,k+1=>by
  have h1:=Xec n QN;have h2:=Xec n k;rw[Nat.add_sub_add_right];simp only[C];by_cases hk:k+1<=n
  ·obtain⟨d,rfl⟩:∃d,n=k+1+d:=⟨n-QN,(Nat.add_sub_of_le hk).symm⟩;have L:k+1+d-k=d+1:=by rw[Nat.add_right_comm,Vf9,Vas]
   rw[Vas]at h1;rw[L]at h2 ⊢;rw[Nat.add_mul,Nat.add_mul,h1,<-h2,<-Nat.mul_add,<-Nat.mul_add];congr 1;omega
  rw[Xbm n QN Q0,Xbm n Qp7 Q0,Vbj,Vbj,Vet];rw[Nat.sub_eq_zero_of_le Q0,Nat.mul_zero]
theorem Ydp(n k:Nat):(C n k:Int)*Qz7=(C n QN:Int)*Q25:=by
 by_cases h:k<=n
 ·have:=Xec n k;have e:((n-k:Nat):Int)=(n:Int)-k:=by omega
  rw[<-e];have L:Q25=QW:=by omega
  rw[L,<-Ve5,<-Ve5,this]
 rw[Xbm n k Q0,Xbm n QN Q0];simp
theorem Ydq(n k:Nat):((C n k:Int)*Qz7)/Q25=C n QN:=by rw[Ydp,Int.mul_ediv_cancel _ Q0]
noncomputable def fac:Nat->Nat
 |0=>1|n+1=>fac n*Ql7
theorem Xrl:∀n,0<fac n
 |0=>by decide|n+1=>Nat.mul_pos (Xrl n) Q0
theorem Xy(i j:Int)(S:Sto):Xw .add QT Qe0 S=.ok (.int (i+j)) S:=rfl
theorem X7(i j:Int)(S:Sto):Xw .sub QT Qe0 S=.ok (.int (i-j)) S:=rfl
theorem Xbf(h:Yt i j=yx)(S:Sto):Xw .mul QT Qe0 S=.ok Qa7 S:=by simp only[Xw,h,if_true]
theorem Xda(h:Yw j=yx)(S:Sto):Xw .fdiv QT Qe0 S=.ok (.int (i/j)) S:=by simp only[Xw,h,if_true]
theorem Xgz(h:0<j)(S:Sto):Xw .mod QT Qe0 S=.ok (.int (i%j)) S:=by simp only[Xw,h,if_true]
theorem Xg0(h:0<=j/\j<=1000/\i.natAbs<2^63)(S:Sto):Xw .pow QT Qe0 S=.ok (.int (i^j.toNat)) S:=by simp only[Xw,h,and_self,if_true]
theorem Xc3(h1:-1000000000000000<j)(h2:j<1000000000000000):Yt i j=true:=by unfold Yt;simp only[Vcb,bA0,decide_eq_true_eq];left;right;constructor<;>omega
theorem Xrm(h1:-1000000000000000<i)(h2:i<1000000000000000):Yt i j=true:=by unfold Yt;simp only[Vcb,bA0,decide_eq_true_eq];left;left;constructor<;>omega
theorem X4s(h1:i.natAbs.log2<100000)(h2:j.natAbs.log2<100000):Yt i j=true:=by unfold Yt;simp only[Vcb,bA0,decide_eq_true_eq];right;exact⟨h1,h2⟩
universe Z
universe e
section
namespace Z
open PySem PySem.W
section
variable(tb:String->Option Vbt)(p:Ue)(w:Uy)(m:Nat)(ann:OV)
noncomputable def topT:Nat->SharedT->Thread->Option SharedT
 |0,_,_=>yy|n+1,s,t=>match through t with
  |true=>yz s|false=>match stepOk m ann t with
   |false=>yy|true=>match stepT Qr7 p w s t with
    |some (s',t')=>topT n s' t'|none=>yy
universe e
theorem Xrn{tb:String->Option Vbt}{p:Ue}{w:Uy}{m:Nat}{ann:OV}:∀ {n:Nat} {s s':SharedT} {t:Thread},topT tb p w m ann n s t=yz s'->topRun tb p w m ann n s.abs t=yz s'.abs
 |0,_,_,_,h=>by cases h|n+1,s,s',t,h=>by
  unfold topT at h;unfold topRun;cases L:through t with
  |true=>rw[L]at h;cases h;rfl|false=>
   rw[L]at h;cases hk:stepOk m ann t with
   |false=>rw[hk]at h;cases h|true=>
    rw[hk]at h;cases hs:stepT Qr7 p w s t with
    |none=>rw[hs]at h;cases h|some r=>obtain⟨a,b⟩:=r;rw[hs]at h;rw[stepT_spec hs];exact Xrn h
noncomputable def Xm1(P:Params):BT:=
 .node (boot_o_0 P) (.node (boot_o_1 P) (.node (boot_o_3 P) (.node (boot_o_7 P) .nil .nil) .nil) (.node (boot_o_5 P) (.node (boot_o_9 P) .nil .nil) .nil))
  (.node (boot_o_2 P) (.node (boot_o_4 P) (.node (boot_o_8 P) .nil .nil) .nil) (.node (boot_o_6 P) (.node (boot_o_10 P) .nil .nil) .nil))
noncomputable def Xm2:Life:={debug:=0,thresholds:=[2000,10,10]}
theorem Xzn(P:Params):absHeap (Xm1 P) 11 Xm2=boot_heap P:=by kernel_rfl
theorem Xv2(P:Params):(Qm1.isNs Um&&(Array.mk ([]:List GenState)).size==0,(boot_heap P).objs.size,Qm1.nsMap Um "__annotations__")=(yx,11,yz (.ref 6)):=by kernel_rfl
noncomputable def Xv3{α:Type}(p q:Ue)(loose:LS)(Xt:Vc->Bool)(Yf:Vc->α)(P:Params)(s:Vc):=((staticsOk Qd1 Qm1 s.heap&&namesBound p s.heap&&gensDone s&&laidKept Qm1 s.heap),openSeen q loose Qd1 Xt yx s,Yf s)
theorem Xv4{p q:Ue}{loose:LS}{Xt:Vc->Bool}{α:Type}{Yf:Vc->α}{Ya:Uy->α}{N:Nat}
  (e:opening p=plainProg p.main.scope.names) (hN:Nat.ble 600 N=yx) (f:∀s,fenceModules? p s=yz s)
  (all:∀w os,(topT treeTable p w 11 Qo6 N Q00 Qj7).map (λs=>Xv3 p q loose Xt Yf w.params s.abs)=yz (yx,openGood q loose,Ya w)):
  LeftO p q loose Xt Yf Ya N:=λw=>by
 obtain⟨⟨h,gs,d,k,os⟩,e1,e2⟩:=Ud.mp (boot_open e hN f w);obtain⟨rfl,rfl,rfl,rfl⟩:h=boot_heap w.params/\gs=Array.mk []/\d=boot_drawn/\k=boot_toks:=by simpa using e2
 obtain⟨z1,z2,z3⟩:_/\_/\_:=by simpa only[Vd8] using Xv2 w.params
 obtain⟨s,r,l⟩:=Ud.mp (all w os);have L:=Xrn r;have e0:SharedT.abs Q00=Q31:=by unfold SharedT.abs;dsimp only;rw[Xzn]
 rw[e0]at L;unfold Xv3 at l;obtain⟨l1,l2,l3⟩:_/\_/\_:=by simpa only[Vd8] using l
 have t:topFrom treeTable p w N Q31=yz s.abs:=by unfold topFrom;dsimp only;rw[z1,z2,z3,L];dsimp only[Option.bind];rw[l1]
 unfold openEnds;rw[e1];show(topFrom treeTable p w N _).map _=_;rw[t];exact congrArg yz (Prod.ext l2 l3)
abbrev RunT{β:Type}(p:Ue)(g:Uy->SharedT->β)(r:Uy->β):Prop:=∀w os,(topT treeTable p w 11 Qo6 40000 Q00 Qj7).map (g w)=yz (r w)
theorem left_tree3{p q:Ue}{loose:LS}{Xt:Vc->Bool}{α:Type}{Yf:Vc->α}{Ya:Uy->α}(e:opening p=plainProg p.main.scope.names)(f:∀s,fenceModules? p s=yz s)
  (a1:RunT p (λw s=>staticsOk Qd1 Qj4 s.abs.heap&&namesBound p s.abs.heap&&gensDone s.abs&&laidKept Qj4 s.abs.heap) λ_=>yx)
  (a2:RunT p (λ_ s=>openSeen q loose Qd1 Xt yx s.abs) λ_=>openGood q loose) (a3:RunT p (λ_ s=>Yf s.abs) Ya):LeftO p q loose Xt Yf Ya 40000:=Xv4 e rfl f λw os=>by
 obtain⟨s,h,x1⟩:=Ud.mp (a1 w os);have x2:=a2 w os;have L:=a3 w os;rw[h]at x2 L ⊢;exact congrArg yz (Prod.ext x1 (Prod.ext (U6 x2) (U6 L)))
universe Z
universe e
section
namespace Z
open PySem PySem.Spec PyProof.Rows L2
theorem Xzo{m:Int}(h:m<1000000):m<1048576:=by omega
theorem Xf:Xc (S++[.lst xs]) QT2=yz xs:=by unfold Xc;rw[Uz QD5,Vad];rfl
theorem Xk(h:Xc S q=yz xs):Xc Q60 q=yz xs:=by
 unfold Xc at h ⊢;cases e:S[q]? with
 |none=>rw[e]at h;cases h|some o=>rw[Vv QP4.1];exact h
theorem Xab(hp:Xc S p=yz xs):p<ll S:=by
 unfold Xc at hp;cases e:S[p]? with
 |none=>rw[e]at hp;cases hp|some o=>exact QP4.1
theorem Xa0{S:Sto}{p:Nat}{x:LD}(h:p<ll S):Xc (S.set p (.lst x)) p=yz x:=by unfold Xc;rw[Vb5 h]
theorem Xv5(h:p≠q):Xc Qu7 q=Xc S q:=by unfold Xc;rw[Vap h]
theorem Yfa(h:Xc S p=yz QY1):Y8 QI2 QO S=.ok (.int v) S:=by simp only[Y8,Xap,Xp,h,V1,Z.ixN,Uk];rfl
theorem Ydr(h:Xc S p=yz QY1):Xdm QI2 QO d S=.ok () (S.set p (.lst [d])):=by have h':Z.lstM S p=yz QY1:=h;simp only[Xdm,h',Z.ixN,Uk];rfl
section
variable{F:Fn}{G:LD}
noncomputable def Xti:Sts:=.cons (.ite (.cmp .lt Q5 Qb0) (.cons (.ret (.idx Q4 Q5)) .nil) .nil) Q02
noncomputable def Xm3:Df:=⟨2,2,Xti⟩
theorem Xzp(ns:LI)(j:Nat)(S:Sto):∃c,den F G Xm3 [.fro QD0,.int j] S=.ok Qf0 S:=by
 have L:Xm .len QE3 S=.ok Qd6 S:=by simp only[Xm,Xp,Vg]
 by_cases h:j<ll ns
 ·refine⟨ns[j],?_⟩;have hi:Y8 Qf5 Qe0 S=.ok (.int ns[j]) S:=by
   simp only[Y8,Xap,Xp,V1,Z.ixN,Vg];rw[iP0 Q0,iP0 Q0];simp[h]
  simp only[den,Xm3,Xti,Uk,if_true,Ur,Vj,Vad,Vu];rw[Xg (d:=.int ns[j]) (S1:=S) (by
   have hc:decide Qc4=true:=decide_eq_true Q0
   simp only[exe,ev,evs,gZ0,gS0,Rk0,L,Xh,X0,ltD,hc,Xe];simp only[pe,exe,ev,gZ0,gS0,Rk0,hi])]
 refine⟨0,?_⟩
 simp only[den,Xm3,Xti,Uk,if_true,Ur,Vj,Vad,Vu];rw[Xb (e:=[yz Qf5,yz Qe0]) (S1:=S) (by
  have hc:decide Qc4=false:=decide_eq_false Q0
  simp only[exe,ev,evs,gZ0,gS0,Rk0,L,Xh,X0,ltD,hc,Xe];simp only[pe])]
 simp only[pe,exe,ev,Rk0]
noncomputable def X1z:Sts:=.cons (.asg Q3 (.bin .mod QA3 Q5)) (.cons (.aset Q4 QE (.bin .fdiv QA3 Q5)) Qv5)
noncomputable def Xjb:Df:=⟨2,3,X1z⟩
theorem Xzq{p:Nat}{v far:Int}{S:Sto}(h:Xc S p=yz QY1)(h0:0<far)(hd:Yw far=yx):den F G Xjb Q66 S=.ok Qb6 Q37:=by have L:=Yfa h;have a0:=Ydr (d:=.int (v/far)) h;simp only[den,Xjb,X1z,Uk,if_true,Ur,Vj];rw[Xb (e:=Ql1) (S1:=S) (by simp only[exe,ev,Vaw,Uw,gZ0,gS0,Rk0,L,Xgz h0,Xn,Vax])];rw[Xb (e:=Ql1) (S1:=S.set p Q51) (by simp only[exe,ev,gZ0,gS0,Rk0,L,Xda hd,a0])];rw[Xg (d:=.int (v%far)) (S1:=S.set p Q51) (by simp only[exe,ev,gZ0,gS0,Rk0])]
noncomputable def Xjc:Sts:=.cons (.asg Q9 (.bin .mod (.bin .mul (.bin .add (.bin .add (.bin .mod Q4 (.cst (.int 2147483629))) (.bin .mul (.cst (.int 7919)) Q3)) Q2) (.cst (.int 48271))) (.cst (.int 2147483647))))
  (.cons (.asg Q9 (.bin .mod (.bin .add (.bin .add (.bin .mul Q9 Q9) (.bin .mul (.cst (.int 69621)) Q3)) (.cst (.int 7))) Qv3))
  (.cons (.asg Q5 (.bin .add (.bin .mul Q5 Qv3) Q9))
  .nil))
noncomputable def Xzr:Sts:=.cons (.ite (.cmp .ge Q4 Qg1) (.cons (.ret (.lst (.cons (.bin .sub Q4 Qg1) .nil))) .nil) .nil)
 (.cons (.asg Q5 QE) (.cons QM1 (.cons Qu5 .nil)))
noncomputable def Xk3:Df:=⟨1,4,Xzr⟩
theorem Xzs(c a j:Int)(x:Option D)(S:Sto):∃a' b',pe F G Xjc [yz Qf0,yz QN3,yz Qe0,x] S=.ok (.nx [yz Qf0,yz (.int a'),yz Qe0,yz (.int b')]) S:=by
 have L:Yt 7919 j=true:=Xrm QJ QJ;have m2:∀y,Yt y 48271=true:=λy=>Xc3 QJ QJ;have m3:Yt 69621 j=true:=Xrm QJ QJ;have m4:∀y,Yt y 2147483587=true:=λy=>Xc3 QJ QJ;have p1:(0:Int)<2147483629:=by decide
 have p2:(0:Int)<2147483647:=by decide
 have p3:(0:Int)<2147483587:=by decide
 generalize hb:((c%2147483629+7919*j+1)*48271)%2147483647=b;have b1:0<=b:=by rw[<-hb];exact Vgj _ QJ
 have b2:b<2147483647:=by rw[<-hb];exact Vfc _ QJ
 have m5:Yt b b=true:=Xc3 Q0 Q0;refine⟨a*2147483587+QH1%2147483587,QH1%2147483587,?_⟩;unfold Xjc;rw[Xb (e:=[yz Qf0,yz QN3,yz Qe0,yz QL5]) (S1:=S) (by simp only[exe,ev,gZ0,gS0,Rk0,Xgz p1,Xbf L,Xy,Xbf (m2 _),Xgz p2,Xn,Vax,hb])];rw[Xb (e:=[yz Qf0,yz QN3,yz Qe0,yz Q74]) (S1:=S) (by simp only[exe,ev,gZ0,gS0,Rk0,Xbf m5,Xbf m3,Xy,Xgz p3,Xn,Vax])];rw[Xb (e:=[yz Qf0,yz (.int (a*2147483587+QH1%2147483587)),yz Qe0,yz Q74]) (S1:=S) (by simp only[exe,ev,gZ0,gS0,Rk0,Xbf (m4 _),Xy,Xn,Vax])];simp only[pe]
theorem X4t(c a:Int)(S:Sto)(e':En)(hc:¬ (10:Int)^(18:Int).toNat<=c)(h1:exe F G QM1 QX2 S=.ok QJ5 S)(h2:e'[1]?=yz Ql8):
  den F G Xk3 Qh7 S=.ok Qa Q47:=by
 have hp:Xw .pow QP6 Qf8 S=.ok Qc3 S:=Xg0 QE0 S;generalize (10:Int)^(18:Int).toNat=w at hp hc;simp only[den,Xk3,Xzr,Uk,if_true,Ur,Vj];rw[Xb (e:=[yz Qf0,yy,yy,yy]) (S1:=S) (by simp only[exe,ev,Vaw,Uw,gZ0,gS0,Rk0,hp,Xh,X0,Xe,decide_eq_false hc];simp only[pe])];rw[Xb (e:=QX2) (S1:=S) (by simp only[exe,ev,Rk0,Xn,Vax])];have L:=Xb (ss:=.cons Qu5 .nil) h1;rw[L];rw[Xg (d:=.ref QT2) (S1:=S++QM2) (by simp only[exe,ev,evs,h2,Rk0,Uk];rfl)]
theorem Xv6(c:Int)(S:Sto)(hc:(10:Int)^(18:Int).toNat<=c):∃a,den F G Xk3 Qh7 S=.ok Qa Q47:=by have L:Xw .pow QP6 Qf8 S=.ok Qc3 S:=Xg0 QE0 S;generalize (10:Int)^(18:Int).toNat=w at L hc;refine⟨c-w,?_⟩;simp only[den,Xk3,Xzr,Uk,if_true,Ur,Vj];rw[Xg (d:=.ref QT2) (S1:=S++QU5) (by simp only[exe,ev,Vaw,Uw,gZ0,gS0,Rk0,L,Xh,X0,Xe,decide_eq_true hc];rw[Xg (d:=.ref QT2) (S1:=S++QU5) (by simp only[exe,ev,evs,gZ0,Rk0,L,X7,Uk];rfl)])]
theorem X4u(c:Int)(S:Sto):∃a,den F G Xk3 Qh7 S=.ok Qa Q47:=by
 by_cases hc:(10:Int)^(18:Int).toNat<=c;·exact Xv6 c S hc
 obtain⟨xs,hx,hl⟩:=Xa9 (m:=(64:Int)) QJ (Xzo QJ);have L:=Xbq (F:=F) (G:=G) (t:=.var 2) (es:=.cons (.cst (.int 64)) .nil) (b:=Xjc)
  (env:=QX2) (S:=S) (S1:=S) (ds:=[.int 64]) (xs:=xs) (λi e S'=>S'=S/\∃a x y,e=[yz Qf0,yz QN3,x,y])
  (by simp only[evs,ev,Rk0]) hx ⟨rfl,0,yy,yy,rfl⟩ (λi d e S' hd hP=>by obtain⟨rfl,a,x,y,rfl⟩:=hP;obtain⟨rfl,hi⟩:=Xb3 hx hd;obtain⟨a',b',st⟩:=Xzs (F:=F) (G:=G) c a i y S';exact⟨_,_,S',rfl,st,rfl,a',_,_,rfl⟩)
 obtain⟨e',S',h1,rfl,a,x,y,rfl⟩:=L;exact⟨a,X4t c a S' _ hc h1 rfl⟩
noncomputable def wh:D->Bool
 |.int _=>yx|_=>yw
def good(S:Sto)(d:D):Prop:=∃k,kdD S d=yz k/\∀c,k≠.exc c
theorem X4v(h:∀c,k≠.exc c):∃b,Xam k [.int]=yz b/\(b=yx ↔ k=.int\/k=.bool):=by cases k<;>first|exact QS5|exact aB0 rfl QO9
theorem Xzt(h:∀c,k≠.exc c):∃b,Xam k [.bool]=yz b/\(b=yx ↔ k=.bool):=by cases k<;>first|exact QS5|exact aB0 rfl QO9
theorem Yds(h:kdD S d=yz k):wh d=yx ↔ k=.int:=by
 cases d with
 |ref n=>simp only[kdD]at h;split at h<;>first|(cases h;simp[wh])|cases h
 |fn _ _=>cases h|_=>cases h;simp[wh]
noncomputable def Xv7:Sts:=.cons (.ret (.and (.isi Q4 [.int]) (.not (.isi Q4 [.bool])))) .nil
noncomputable def Xdb:Df:=⟨1,1,Xv7⟩
theorem Xv8(h:good S d):den F G Xdb [d] S=.ok Qb4 S:=by
 obtain⟨kd,h1,h2⟩:=h;obtain⟨b1,i1,j1⟩:=X4v h2;obtain⟨b2,i2,j2⟩:=Xzt h2;have L:=Yds h1;simp only[den,Xdb,Xv7,Uk,pe,exe,ev,Ur,Vj,if_true,Vad,Vu,gZ0,Rk0,h1,V1,i1,i2,Xe];cases b1 with
 |false=>
  have e:wh d=false:=by
   cases q:wh d with
   |false=>rfl|true=>exact aB0 (j1.mpr (.inl (L.mp q))) U5
  rw[e];rfl|true=>
  cases b2 with
  |false=>have e:wh d=true:=L.mpr (by rcases j1.mp rfl with z|z;exact z;exact aB0 (j2.mpr z) U5);rw[e];rfl|true=>
   have e:wh d=false:=by
    cases q:wh d with
    |false=>rfl|true=>have z1:=L.mp q;have z2:=j2.mp rfl;rw[z1]at z2;cases z2
   rw[e];rfl
noncomputable def wi(d:D)(lw hi:Int):Bool:=match d with
 |.int i=>decide QK9&&decide (i<=hi)|_=>yw
noncomputable def Xro(f:Nat):Sts:=.cons (.ret (.and (.call f Qf) (.chn .le .le Q5 Q4 Q3))) .nil
noncomputable def Xg1(f:Nat):Df:=⟨3,3,Xro f⟩
theorem Xtj{lw hi:Int}(h:F f [d] S=.ok Qb4 S):den F G (Xg1 f) [d,.int lw,.int hi] S=.ok (.bl (wi d lw hi)) S:=by
 simp only[den,Xg1,Xro,Uk,pe,exe,ev,evs,Ur,Vj,if_true,Vad,Vu,gZ0,gS0,Rk0,h,Xe];cases d with
 |int i=>simp only[wh,wi,X0,Xh];cases decide QK9<;>rfl|_=>rfl
theorem Yaj(h1:lw<=i)(h2:i<=hi):wi QT lw hi=true:=by simp only[wi,decide_eq_true h1,decide_eq_true h2,Vdm]
theorem Xia(S:Sto)(i:Int):good S QT:=⟨.int,rfl,λc z=>nomatch z⟩
theorem Xfu(S:Sto)(d:D)(h:∀n,d≠.ref n)(hf:∀f m,d≠.fn f m:=by intro _ _ z;cases z):good S d:=by
 cases d with
 |fn f m=>exact aB0 rfl (hf f m)|ref n=>exact aB0 rfl (h n)|non=>exact⟨.non,rfl,λ_ z=>nomatch z⟩|bl _=>exact⟨.bool,rfl,λ_ z=>nomatch z⟩|int _=>exact⟨.int,rfl,λ_ z=>nomatch z⟩|str _=>exact⟨.str,rfl,λ_ z=>nomatch z⟩|tup _=>exact⟨.tuple,rfl,λ_ z=>nomatch z⟩|fro _=>exact⟨.list,rfl,λ_ z=>nomatch z⟩
theorem Xz(h:ev F G c env S=.ok Qn2 S'):exe F G (.ite c a .nil) env S=.ok (.nx env) S':=by rw[exe,h,Rk0];simp only[Xe,pe]
universe e
noncomputable def Xfv(c1 c2 c3 L:Nat):Ex:=.lst (.cons (.isi Q4 [.cls c1]) (.cons (.isi Q4 [.cls c2]) (.cons (.isi Q4 [.cls c3]) (.cons (.isi Q4 [.cls L]) .nil))))
noncomputable def words1:LD:=[.str "net",.str "face",.str "point",.str "apart",.str "many",.str "text",.str "row",.str "number",.str "level",.str "crowd",.str "way",.str "closed"]
noncomputable def words2:LD:=[.str "swap",.str "places",.str "deed",.str "line"]
noncomputable def Xed:LD->Exs
 |[]=>.nil|d::r=>.cons QB9 (Xed r)
noncomputable def Xtk:Sts:=.cons QB4 (.cons (.asg Q5 (.bin .add Q5 (Xfv 5 6 7 8))) (.cons (.asg Q5 (.bin .add Q5 (Xfv 9 10 11 12))) (.cons (.asg Q5 (.bin .add Q5 (Xfv 13 14 15 16)))
  (.cons Ql
  (.cons QH3 (.cons QJ0 .nil))))))
noncomputable def Xjd:Df:=⟨1,3,Xtk⟩
noncomputable def Xdc(c:Nat):D:=Qt.getD QQ9 .non
section
variable{F:Fn}{G:LD}{n c:Nat}{env:En}{S:Sto}
noncomputable def isK(c x:Nat):D:=.bl Q53
theorem Xrp(h0:env[0]?=yz Qk8)(hn:S[n]?=yz QM5)(x1 L x3 x4:Nat):ev F G Qs5 env S=.ok Qa (S++QE9):=by
 have q:∀x,ev F G (.isi Q4 [.cls x]) env S=.ok (isK c x) S:=λx=>by simp only[ev,h0,Rk0,kdD,hn,V1,Xam,isT,tyQ,isK];cases Q53<;>rfl
 unfold Xfv;rw[ev];simp only[evs,q,Rk0];exact iP0 (show 4<=big by decide)
theorem Xib{r:Nat}{xs:LD}(h0:env[0]?=yz Qk8)(hn:S[n]?=yz QM5)(he:1<ll env)(hr:env[1]?=yz (yz QH5))(hx:Xc S r=yz xs)(hl:Qe<=12)(x1 L x3 x4:Nat):
  ∃q Y,exe F G (.asg Q5 (.bin .add Q5 Qs5)) env S=.ok (.nx (env.set 1 Qi7)) QW8/\Xc QW8 q=yz Qo8/\QW8[n]?=yz QM5:=by
 refine⟨QW3.length,QE9++[.lst Qo8],?_,?_,?_⟩
 ·have aa:(16:Nat)<=big:=by decide
  have h4:Qe+4<=big:=by omega
  have l1:lstM QW3 r=yz xs:=Xk hx;have l2:lstM QW3 QT2=yz QL:=Xf;rw[exe,ev,ev,hr];simp only[Rk0,Xrp h0 hn,Xw,l1,l2,Ux,Vcd,h4,if_true,Xn,Vq]
 ·rw[<-Vq];exact Xf
 ·rw[Vv Q68.1];exact hn
theorem X4w(hn:S[n]?=yz QM5)(h1:1<=c)(h2:c<=16):∃X,den F G Xjd Qk9 S=.ok Qv4 Q60:=by
 have s1:exe F G QB4 QH7 S=.ok (.nx Q56) (S++Qi8):=by rw[exe,Xrp rfl hn];rfl
 obtain⟨q2,Y2,s2,l2,n2⟩:=Xib (F:=F) (G:=G) (env:=Q56) (S:=S++Qi8) (c:=c) (n:=n) rfl (by rw[Vv Q68.1];exact hn) Qu rfl Xf Qu 5 6 7 8;generalize af:S++QG8++Y2=S2 at s2 l2 n2;obtain⟨q3,Y3,s3,l3,n3⟩:=Xib (F:=F) (G:=G) (env:=[yz Ql0,yz (.ref q2),yy]) rfl n2 Qu rfl l2 Qu 9 10 11 12;generalize aj:S2++Y3=S3 at s3 l3 n3;obtain⟨q4,Y4,s4,l4,n4⟩:=Xib (F:=F) (G:=G) (env:=[yz Ql0,yz (.ref q3),yy]) rfl n3 Qu rfl l3 Qu 13 14 15 16;generalize ai:S3++Y4=S4 at s4 l4 n4;simp only[Vaw,Uw]at l4;have ab:Yb Qo=yz QE5:=rfl;have ah:∀c:Fin 17,1<=c.val->Q13.countP Qj8=1/\Q13.findIdx? Qj8=yz (c.val-1):=by decide+kernel
 obtain⟨k1,k2⟩:=ah ⟨c,by omega⟩ h1;generalize Qo=L at l4 ab;generalize QE5=B at ab k1 k2;have c1:∀Y,Yx .count Qf1 Qm9 Qx4=.ok Q8 Qx4:=λY=>by simp only[Yx,Xk l4,V1,ab,k1];rfl
 have c2:∀Y,Yx .index Qf1 Qm9 Qx4=.ok Q98 Qx4:=λY=>by simp only[Yx,Xk l4,V1,ab,k2]
 have rc:∀k Y,Xah k Qf1 Qx4=true:=λk Y=>by simp only[Xah,Xk l4,Option.isSome]
 have s5:exe F G Ql Qu2 S4=.ok (.nx Qu2) S4:=by have ae:=c1 [];have aa:=rc .count [];rw[Vu]at ae aa;have e1:Xh .ne Q8 Q8 S4=.ok Qn2 S4:=rfl;refine Xz ?_;simp only[ev,evs,gZ0,gS0,Rk0,aa,if_true,ae,e1,Xe,kdD,n4,V1,Xam,isT,tyQ,Vb3]
 have s6:exe F G QH3 Qu2 S4=.ok (.nx Qj2) (S4++[.lst words1]):=by kernel_rfl
 have e7:∀env S,evs F G (Xed words2) env S=.ok words2 S:=λenv S=>by kernel_rfl
 have a5:words2.length<=big:=by decide
 have s7:exe F G QJ0 Qj2 Q49=.ok (.rt Qv4) (S4++QC2):=by
  have a1:lstM Q24 S4.length=yz words1:=Xk Xf;have a2:lstM Q24 Q49.length=yz words2:=Xf;have a3:words1.length+words2.length<=big:=by decide
  have a4:=Xk (X:=[]) (Xf (S:=S4++Qs++Q80) (xs:=words1++words2));have ac:=c2 QC2;have aa:=rc .index QC2;simp only[<-Vq]at ac aa ⊢;have ix:Y8 (.ref Q24.length) Q98 Qi3=.ok Qv4 Qi3:=by
   rw[Vu]at a4;have hl:Qt.length=16:=rfl;have hi:ixN 16 (Qu4:Int)=yz QQ9:=by unfold ixN;rw[iP0 Q0,iP0 Q0,Us]
   have hg:Qt[c-1]?=yz Qv4:=by
    have:c-1<Qt.length:=by rw[hl];omega
    unfold Xdc;rw[Ug this,Uj,Ug this];rfl
   simp only[Y8,Xap,Xp,a4,V1,hl,hi,hg]
  rw[exe];simp only[ev,evs,gZ0,gS0,Rk0,e7,a5,Xw,a1,a2,a3,if_true,aa,ac,ix]
 refine⟨QG8++(Y2++(Y3++(Y4++(Qs++(Q80++[O.lst Qt]))))),?_⟩;have e:den F G Xjd Qk9 S=match pe F G Xtk QH7 S with
  |.ok Qf9 S=>.ok v S|.ok Qg9 S=>.ok .non S|.ok _ _=>.bad|.ex n S=>.ex n S|.bad=>.bad:=rfl
 rw[e];unfold Xtk;rw[Xb s1,Xb s2];dsimp only[Vax];rw[Xb s3];dsimp only[Vax];rw[Xb s4];dsimp only[Vax];rw[Xb s5,Xb s6,Xg s7,<-ai,<-aj,<-af];simp only[Vq]
theorem X4x{T:List Df}{k f:Nat}(hf:T[f]?=yz Xjd)(h1:1<=c)(h2:c<=16)(P:Sto):∃X,FT T G QN f [.ref P.length] (P++QH4)=.ok Qv4 (P++X):=by obtain⟨X,h⟩:=X4w (F:=FT T G k) (G:=G) (n:=P.length) (S:=P++QH4) Qu h1 h2;simp only[FT,hf];exact⟨_,by rw[h,Vq]⟩
universe e
def Xg2(F:Fn)(f:Nat):Prop:=∀(p:Nat) (v far:Int) (S:Sto),Xc S p=yz QY1->0<far->Yw far=yx->F f Q66 S=.ok Qb6 Q37
theorem Xic(hf:T[f]?=yz Xjb)(k:Nat):Xg2 Qq1 f:=λp v far S h h0 hd=>by simp only[FT,hf];exact Xzq h h0 hd
theorem Xzu(hF:Xg2 F f)(he:evs F G es env S=.ok ds S')(hc:(ll ds:Int)=c)(h0:0<c)(hz:Qm7<=big)(hd:Yw c=yx)(h5:env[q]?=yz (yz QI2))(hp:Xc S' p=yz QY1):
  ∃d∈ds,ev F G (.idx (.lst es) (.call f (.cons (.var q) QA4))) env S=.ok d QV:=by
 have tk:=hF p v c (S'++[.lst ds]) (Xk hp) h0 hd;have r0:=Vgj v (Int.ne_of_gt h0);have r1:=Vfc v h0;have L:QL8.toNat<ll ds:=by omega
 have aa:=Xab hp;have hl:Xc QV QC6=yz ds:=by rw[Xv5 Q0];exact Xf
 refine⟨ds[QL8.toNat],Vc4 L,?_⟩;have hi:Y8 Q88 (.int QL8) QV=.ok ds[QL8.toNat] QV:=by simp only[Y8,Xap,Xp,hl,V1,Z.ixN];rw[iP0 r0,iP0 Q0];simp only[V1,Ug L]
 simp only[ev,he,evs,h5,Rk0,hz,if_true,tk,hi]
theorem Xmd(hp:Xc S' p=yz QY1):Xc QV p=yz [.int (v/c)]:=by refine Xa0 ?_;have:=Xab hp;simp;omega
theorem turns{G:LD}{ns:LI}(c:Int)(h1:1<=c)(h2:c<1000000)(h0:env[0]?=yz (yz Qf5)):
  ∃m:Int,evs F G (.cons (.blt .max (.cons Q2 (.cons (.blt .min (.cons Qb0 QA4)) .nil))) .nil) env S=.ok QF4 S/\0<=m/\m<=c:=by
 have L:Xm .len QE3 S=.ok Qd6 S:=by simp only[Xm,Xp,Vg]
 have ab:∀i j:Int,Xm .min Qm6 S=.ok (.int (if j<i then j else i)) S:=λ_ _=>rfl;have aa:∀i j:Int,Xm .max Qm6 S=.ok (.int (if j>i then j else i)) S:=λ_ _=>rfl;refine⟨if (if c<(ll ns:Int) then c else (ll ns:Int))>1 then (if c<(ll ns:Int) then c else (ll ns:Int)) else 1,by simp only[evs,ev,h0,Rk0,L,ab,aa],?_,?_⟩
 ·split;·split<;>omega
  ·omega
 ·split;·split<;>omega
  ·omega
universe Z
universe e
section
namespace Z
noncomputable def X10(s:Int)(f:LI):LI:=List.zipWith (λa b=>a+s*b) (f++[0]) (0::f)
noncomputable def stepT(s:Int)(f:LI)(n:Int):LI:=QV8.set f.length (QV8.getD f.length 0+n)
universe Z
universe e
section
namespace Z
open PySem PySem.Spec PyProof.Rows L2
section
variable{F:Fn}{G:LD}
theorem Xme{get:Sto->Nat->Option Qq3}{body:En->LD->Sto->R (LD)}(xs:LD)(y:Nat->D)(P:Nat->En->Sto->Prop)(aa:∀i e S,P i e S->get S i=yz xs[i]?)
  (step:∀i d e S,xs[i]?=yz d->P i e S->∃e1 S2,Xn t d e=yz e1/\body e1 Qi6 S=.ok ((Vl Q40).map y) S2/\P Q40 e1 S2):
  ∀(L i:Nat) (e:En) (S:Sto),P i e S->i<=ll xs->ll xs<L+i->∃e' S',X9 get t body L i e Qi6 S=.ok QZ3 S'/\P Qe e' S'
 |0=>λi e S h h1 h2=>by omega+splitNatSub|L+1=>λi e S h h1 h2=>by
  cases q:xs[i]? with
  |none=>
   have hi:i=ll xs:=by have:=U4.mp q;omega+splitNatSub
   refine QQ5;simp only[X9,aa i e S h,q];rw[hi]|some d=>obtain⟨e1,S2,a1,a2,a3⟩:=step i d e S q h;have hi:i<ll xs:=QO4.1;obtain⟨e',S',b1,b2⟩:=Xme xs y P aa step L Q40 e1 S2 a3 Qc Qc;refine Q36;simp only[X9,aa i e S h,q,a1,a2];exact b1
theorem Yy(h:n<=1000):n<=big:=V2 h QJ
theorem Xdd{n:Nat}(xs:LD)(y:Nat->D)(P:Nat->En->Sto->Prop)(ab:evit F G it env S=.ok src S1)(hm:src.most S1=ll xs)(hb:Qe<=big)
  (h0:P 0 QU2 S1) (aa:∀i e S,P i e S->src.get S i=yz xs[i]?)
  (step:∀i d e S,xs[i]?=yz d->P i e S->∃e1 S2,Xn t d e=yz e1/\ev F G elt e1 S=.ok (y i) S2/\P Q40 e1 S2):
  ∃e' S',ev F G (.cmr yw n (.cons t it .nil .nil) elt) env S=.ok Q88 (S'++[.lst QZ3])/\P Qe e' S':=by
 obtain⟨e',S',a,b⟩:=Xme (get:=src.get) (t:=t) (body:=X8 Q43 QI) xs y P aa
  (λi d e S hd hP=>by
   obtain⟨e1,S2,a1,a2,a3⟩:=step i d e S hd hP;refine⟨e1,S2,a1,?_,a3⟩;have hi:i<ll xs:=Qe1.1;simp only[X8,evts,Rk0,if_true,a2,Vg,Ut];rw[iP0 Q0,Vd4,Vav]
   rfl) QA2 0 _ S1 h0 Qn3 Q0
 refine⟨e',S',?_,b⟩;simp only[ev,ab,Rk0,hm];have a':X9 src.get t (X8 Q43 QI) QA2 0 QU2 [] S1=.ok QZ3 S':=a;rw[a'];simp only[Rk0];rfl
theorem Xje(h1:evs F G es env S=.ok ds S1)(h2:Yn ds=yz xs):evit F G Qa8 env S=.ok Qg8 S1:=by simp only[evit,h1,Rk0,h2]
theorem Xv9(h1:ev F G e env S=.ok QX0 S1):evit F G (.val e) env S=.ok Qg8 S1:=by simp only[evit,h1,Rk0,Yq]
noncomputable def Xee:Sts:=.cons (.asg Q3 (.bin .fdiv (.bin .mul Q3 (.bin .sub Q4 Q9)) (.bin .add Q9 Q2))) .nil
noncomputable def Xg3:Df:=⟨2,4,.cons (.asg Q3 Q2) (.cons Q84 Qv5)⟩
theorem Ydt{i:Nat}(h:i<13):Yw Q35=true:=by
 have:∀j:Fin 13,Yw (QZ5+1)=true:=by decide+kernel
 exact this ⟨i,h⟩
theorem Xzv(n m t i:Int)(S:Sto)(L:Yt t Qx3=yx)(aa:Yw Q40=yx):pe F G Xee [yz Q1,yz QG,yz QK5,yz QT] S=.ok (.nx Qx1) S:=by unfold Xee;refine Xb (e:=Qx1) (S1:=S) ?_;simp only[exe,ev,gZ0,gS0,Rk0,X7,Xbf L,Xy,Xda aa,Xn,Vax]
theorem Xzw(n m t:Int)(S:Sto)(L:En)(S':Sto)(h1:exe F G Q84 Q62 S=.ok Qv7 S')(h2:L[2]?=yz Qm8):
  den F G Xg3 Qk0 S=.ok QK5 S':=by
 simp only[den,Xg3,Uk,if_true,Ur,Vj];rw[Xb (e:=Q62) (S1:=S) (by simp only[exe,ev,Rk0,Xn];rfl)];rw[Xb (ss:=.cons QX3 .nil) h1];rw[Xg (d:=.int t) (S1:=S') (by simp only[exe,ev,h2,Rk0])]
theorem Xhr:∀l:LI,Xi Qp=yz l
 |[]=>rfl|x::l=>by simp only[Ur,Xi,Xhr l,V7]
noncomputable def Xzx(row:D)(x:Option D):En:=[yz row,yy,x]
noncomputable def Xa(l:LI):D:=.tup Qp
def Xef(F:Fn)(i:Nat):Prop:=∀(d:D) (S:Sto),good S d->F i [d] S=.ok Qb4 S
theorem Xjf:∀l:List Bool,Yb (l.map D.bl)=yz l
 |[]=>rfl|x::l=>by simp only[Ur,Yb,Xjf l,V7]
noncomputable def Xm4(L:Nat):Ex:=.blt .all (.cons (.cmr yw 2 (.cons Q3 (.val Q4) .nil .nil) (.call L Qi)) .nil)
noncomputable def Xe0(L:Nat):Df:=⟨1,1,.cons (.ret (.and Qm2 (Xm4 L))) .nil⟩
theorem X4y{l:List Bool}:Xm .all [.ref QT2] Qo3=.ok (.bl (l.all id)) Qo3:=by simp only[Xm,Xf,V1,Xjf]
theorem Xwa{α β:Type}[Inhabited α](f:α->β)(xs:List α):Qb9.map (λi=>f Qa2)=xs.map f:=by
 refine Vf5 Qu λi h1 h2=>?_;have:i<ll xs:=by simpa using h2
 simp[this]
theorem Xo4(hw:Xef F i0)(hg:∀d∈xs,good S d)(hl:Qe<=1000):ev F G (Xm4 i0) Qv2 S=.ok Qh8 Q59:=by
 obtain⟨e',S',h2,h3,h4⟩:=Xdd (F:=F) (G:=G) (t:=.var 2) (n:=2) (elt:=.call i0 Qi) (env:=Qv2) (S:=S) (S1:=S) xs (λi=>.bl Qp8)
  (λi e S'=>S'=S/\∃x,e=Xzx QX0 x)
  (Xv9 (e:=.var 0) Qi4) rfl QT9 ⟨rfl,yy,rfl⟩ Qq5
  (λi d e S' hd hP=>by
   obtain⟨rfl,x,rfl⟩:=hP;have hm:d∈xs:=U0 hd;have e:xs.getD i default=d:=by rw[Uj,hd];rfl
   refine⟨Xzx QX0 QJ7,S',rfl,?_,rfl,yz d,rfl⟩;rw[e];simp only[ev,evs,Xzx,gZ0,gS0,Rk0,hw d S' (hg d hm)])
 have L:S'=S:=h3;subst L;have e1:(Qb9.map λi=>D.bl Qp8)=(xs.map wh).map D.bl:=by rw[Xwa (λd=>D.bl (wh d)) xs,Vae];rfl
 rw[e1]at h2;simp only[Xm4,ev,evs]at h2 ⊢;rw[h2];simp only[Rk0];rw[X4y];simp[Vgb]
theorem Xzy(L:Xef F i0)(hg:∀d∈xs,good S d)(hl:Qe<=1000):den F G Qz6 [.tup xs] S=.ok Qh8 Q59:=by have h:=Xo4 (G:=G) L hg hl;have hk:kdD S QX0=yz .tuple:=rfl;simp only[den,Xe0,Uk,if_true,Ur,Vj,Vad,Vu];rw[Xg (d:=.bl Qq4) (S1:=S++Qc0) (by simp only[exe];rw[ev,ev];simp only[ev,gZ0,Rk0,hk,V1,Xam,isT,tyQ,Xe];rw[h,Rk0])]
theorem Xwb(h:∀c,k≠.exc c)(L:k≠.tuple):Xam k [.tuple]=yz false:=by cases k<;>first|rfl|exact aB0 rfl QO9|cases L rfl
theorem X4z(hk:kdD S d=yz k)(h:∀c,k≠.exc c)(L:k≠.tuple):den F G Qz6 [d] S=.ok Qn2 S:=by have hi:=Xwb h L;simp only[den,Xe0,Uk,if_true,Ur,Vj,Vad,Vu];rw[Xg (d:=.bl yw) (S1:=S) (by simp only[exe];rw[ev,ev];simp only[ev,gZ0,Rk0,hk,V1,hi,Xe])]
noncomputable def wt:D->Bool
 |.tup xs=>xs.all wh|_=>yw
def X11(F:Fn)(i:Nat):Prop:=∀(d:D) (S:Sto),good S d->(∀xs,d=.tup xs->Qf4/\Qe<=1000)->∃X,F i [d] S=.ok Qc7 Q60
theorem Xzz(hf:T[i]?=yz Qz6)(k:Nat)(hw:Xef Qs3 i0):X11 Qq1 i:=λd S hg ht=>by
 simp only[FT,hf];by_cases h:∃xs,d=.tup xs;·obtain⟨xs,rfl⟩:=h;obtain⟨h1,h2⟩:=ht xs rfl;exact⟨_,Xzy hw h1 h2⟩
 ·obtain⟨kd,h1,h2⟩:=hg;have L:kd≠.tuple:=λz=>by
   subst z;cases d with
   |tup xs=>exact h QW1|ref n=>simp only[kdD]at h1;split at h1<;>cases h1|_=>cases h1
  have e:wt d=false:=by
   cases d with
   |tup xs=>exact aB0 QW1 h|_=>rfl
  refine Qd3;rw[e,Vu];exact X4z h1 h2 L
theorem Xmf(hf:T[i]?=yz Xdb)(k:Nat):Xef Qq1 i:=λd S h=>by simp only[FT,hf];exact Xv8 h
noncomputable def Xjg(i2:Nat)(ig:Nat:=0):Df:=⟨1,1,.cons (.ret (.and QB7 (.chn .le .le Q2 Qb0 (.bin .add QQ6 Q2)))) .nil⟩
noncomputable def Xid(L:Nat):Df:=⟨1,1,.cons (.ite (.not (.call L Qf)) (.cons (.rse 7 (.cst (.str "a row is due"))) .nil) .nil) .nil⟩
theorem Yak(h:F i4 [d] S=.ok QB1 S1):den F G Qx6 [d] S=.ok .non S1:=by simp only[den,Xid,Uk,if_true,Ur,Vj,Vad,Vu];rw[Xb (e:=Qj6) (S1:=S1) (Xz QO2)];simp only[pe]
theorem Xie{α:Type}(xs:List α)(n:Nat):cut xs yy QQ1=xs.take n:=by
 unfold cut Xbj;simp only[List.drop_zero,Via];rw[iP0 Q0];simp only[Us];by_cases h:n<=ll xs;·rw[Va7 h]
 ·rw[Vf1 Q0,Vaj Q0,Vaj Q0]
universe e
noncomputable def ps(l:LI)(k:Nat):Int:=(l.take k).sum
noncomputable def pre(l:LI)(n:Nat):LI:=Qu9.map λj=>ps l QP8
section
variable{F:Fn}{G:LD}
theorem Xce(h:ev F G c env S=.ok QB1 S1):exe F G (.ite c (.cons (.rse k (.cst (.str s))) .nil) .nil) env S=.ex QB6 (S1++[.exc k]):=by rw[exe,h,Rk0];simp only[Xe,pe,exe,ev,Rk0]
variable{S:Sto}
theorem Xwc(i j:Int)(S:Sto):Xh .ne QT Qe0 S=.ok (.bl (! Qp9)) S:=by simp only[Xh,X0,eqD,Xdw,Xas,X5,Vg5,Vbu,Ve4];rfl
universe e
section
variable{F:Fn}{G:LD}
theorem Xg4(h:Xc S q=yz xs)(hl:Qe<1000):Yx .append QF [x] S=.ok .non (S.set q (.lst (xs++[x]))):=by have h':lstM S q=yz xs:=h;simp only[Yx,h'];rw[iP0 (Uh hl QJ)]
theorem X40(h1:k<1048576)(h2:QM8*k.toNat<=big)(h3:-(1048576)<k)(L:x.isEmpty=yw):Xw .mul Q79 Q7 S=.ok (.tup (Vj k.toNat x).flatten) S:=by simp only[Xw];rw[iP0 ⟨h1,h2,h3,L⟩]
theorem Xif(a:LI)(n:Nat)(S:Sto):Xal Qs9 yy QQ1 S=.ok (Xa (a.take n)) S:=by unfold Xa;simp only[Xal,Xie,Vgc]
theorem Xeg(h1:Xc S a=yz x)(h2:Xc S b=yz y)(hl:QM8+ll y<=1000):Xw .add QK2 (.ref b) S=.ok Qa (S++[.lst Qn9]):=by have L:lstM S a=yz x:=h1;have aa:lstM S b=yz y:=h2;simp only[Xw,L,aa];exact iP0 QT9
theorem X41(n:Nat):Z.ixN Ql7 (-1)=yz n:=by unfold Z.ixN;rw[iN0 Q0,iP0 Q0];congr 1;omega
theorem Xz0{q n:Nat}{l:LI}(h:Xc S q=yz Qp)(hl:Q65=n+1):Y8 QF (.int (-1)) S=.ok (.int (l.getD n 0)) S:=by
 have L:n<ll l:=by omega
 simp only[Y8,Xap,Xp,h,V1,Vg,hl,X41];simp[L]
theorem Xg5(P:Nat->En->Sto->Prop)(h1:ev F G e0 env S=.ok QH5 S1)(hr:Xc S1 r=yz xs)(hk:∀i e S',P i e S'->Xc S' r=yz xs)(h0:P 0 env S1)
  (step:∀i d e S,xs[i]?=yz d->P i e S->∃e1 e2 S2,Xn t d e=yz e1/\pe F G b e1 S=.ok QI5 S2/\P Q40 e2 S2):
  ∃L S',exe F G (.for t (.val e0) b) env S=.ok Qv7 S'/\P Qe L S':=by
 obtain⟨L,S',a,b'⟩:=Xft (get:=(Src.ref r).get) (t:=t) (body:=λenv S=>pe F G b env S) xs P (λi e S' hP=>by simp only[Src.get,hk i e S' hP,V7]) step QA2 0 env S1 h0 Qn3 Q0;refine QR6;have hs:Yq S1 QH5=yz QH5:=by simp only[Yq,hr,V7]
 simp only[exe,evit,h1,Rk0,hs,Src.most,hr,Vcn];exact a
theorem Xde(i j:Int)(S:Sto):Xh .eq QT Qe0 S=.ok (.bl Qp9) S:=by simp only[Xh,X0,eqD,Xdw,Xas,X5,Vg5,Vbu,Ve4];rfl
universe e
mutual
theorem Xmg(h:∀n p,look n=yz p->look' n=yz p):∀(d:D) (p:Vdd),X5 look d=yz p->X5 look' d=yz p
 |.non=>λp e=>by simpa only[X5] using e|.bl b=>λp e=>by simpa only[X5] using e|.int i=>λp e=>by simpa only[X5] using e|.str x=>λp e=>by simpa only[X5] using e|.tup xs=>λp e=>by simp only[X5,Ud]at e ⊢;obtain⟨ps,e1,L⟩:=e;exact⟨ps,datFs_mono h xs ps e1,L⟩|.fro _=>λp e=>by simp[X5]at e|.fn _ _=>λp e=>by simp[X5]at e|.ref n=>λp e=>by simp only[X5]at e ⊢;exact h n p e
theorem datFs_mono(h:∀n p,look n=yz p->look' n=yz p):∀(ds:LD) (ps:List Vdd),datFs look ds=yz ps->datFs look' ds=yz ps
 |[]=>λps e=>by simpa only[datFs] using e|d::ds=>λps e=>by
  simp only[datFs]at e ⊢;cases L:X5 look d with
  |none=>rw[L]at e;cases e|some q=>
   cases e2:datFs look ds with
   |none=>rw[L,e2]at e;cases e|some qs=>rw[L,e2]at e;rw[Xmg h d q L,datFs_mono h ds qs e2];exact e
end
def Sm(S:Sto)(dep L:Nat)(d:D):Prop:=∃p,X5 (Xao S 3) d=yz p/\p.showable=yx/\Xa2 p=yx/\p.depth<=dep/\szD p<=L
theorem Sm.mono(h:Sm S a b d)(h1:a<=a')(h2:b<=b'):Sm S a' b' d:=by obtain⟨p,L,q2,q3,q4,q5⟩:=h;exact Qt2
theorem Xwd(i:Int):szI i<=1921:=by unfold szI;split<;>omega
theorem Yal(S:Sto)(i:Int)(h:i.natAbs.log2<1920):Sm S 0 1921 QT:=⟨.int i,by simp only[X5],by simp only[Va8,decide_eq_true h],by simp only[Xa2],by simp only[Vbu];exact Vi _,by simp only[szD];exact Xwd i⟩
theorem sms:∀ds:LD,(∀d∈ds,∃p,X5 look d=yz p/\p.showable=yx/\Xa2 p=yx/\p.depth<=a/\szD p<=b) ->
  ∃ps,datFs look ds=yz ps/\Vco ps=yx/\dctEs ps=yx/\Vcw ps<=a/\szDs ps<=ll ds*QS8
 |[]=>λ_=>⟨[],by simp only[datFs],by simp only[Vco],by simp only[dctEs],by simp only[Vcw];exact Ub _,by simp only[szDs];exact Ub _⟩|d::ds=>λh=>by obtain⟨p,p1,p2,p3,p4,p5⟩:=h d Qu;obtain⟨ps,L,q2,q3,q4,q5⟩:=sms ds λx hx=>h x Qs7;refine⟨p::ps,by simp only[datFs,p1,L],by simp only[Vco,p2,q2,Vdm],by simp only[dctEs,p3,q3,Vdm],by simp only[Vcw];exact Nat.max_le.mpr QC8,?_⟩;simp only[szDs,Ux,Nat.succ_mul];omega
theorem Xwe(h:∀d∈ds,Sm S a b d):Sm S QE6 QA6 QZ8:=by obtain⟨ps,L,q2,q3,q4,q5⟩:=sms ds h;refine⟨.tuple ps,by simp only[X5,L,V7],by simp only[Va8,q2],by simp only[Xa2,q3],by simp only[Vbu];omega,by simp only[szD];omega⟩
theorem X42(h:∀x∈l,x.natAbs.log2<1920):Sm S 1 (ll l*1923+3) Qk2:=by
 have:=Xwe (S:=S) (ds:=l.map D.int) (a:=0) (b:=1921) λd hd=>by obtain⟨x,hx,rfl⟩:=Uc.mp hd;exact Yal S x (h x hx)
 rwa [Vg]at this
def Ext(p:Nat)(S S':Sto):Prop:=∀n o,n≠p->S[n]?=yz o->S'[n]?=yz o
section
variable{p:Nat}{S S' S1 S2 X:Sto}
theorem Ext.refl:Ext p S S:=λ_ _ _ h=>h
theorem Ext.trans(a:Ext p S S1)(b:Ext p S1 S2):Ext p S S2:=λn o h e=>b n o h (a n o h e)
theorem Ext.app:Ext p S Q60:=λn o _ e=>by rw[Vv QP4.1];exact e
theorem Ext.set:Ext p S Qu7:=λn o h e=>by rw[Vap (Ne.symm h)];exact e
theorem Xbz(h:Xc S q=yz xs):S[q]?=yz QX4:=by
 unfold Xc at h;split at h;·rename_i ys L;cases h;exact L
 ·cases h
theorem Xwf(h:S[q]?=yz QX4):Xc S q=yz xs:=by unfold Xc;rw[h]
theorem Ext.lst(x:Ext p S S')(L:q≠p)(h:Xc S q=yz xs):Xc S' q=yz xs:=Xwf (x q _ L (Xbz h))
universe e
def FSm(dep aa:Nat)(d:D):Prop:=∃p,(∀L,X5 L d=yz p)/\p.showable=yx/\Xa2 p=yx/\p.depth<=dep/\szD p<=aa
theorem FSm.mono(h:FSm a b d)(h1:a<=a')(h2:b<=b'):FSm a' b' d:=by obtain⟨p,L,q2,q3,q4,q5⟩:=h;exact Qt2
theorem FSm.sm(h:FSm a b d)(S:Sto):Sm S a b d:=by obtain⟨p,L,q⟩:=h;exact⟨p,L _,q⟩
theorem FSm.good(h:FSm a b d)(S:Sto):good S d:=by
 obtain⟨p,L,q⟩:=h;refine Xfu S d (λn z=>?_) (λf m z=>?_);·subst z;have:=L QH8;cases this
 ·subst z;have:=L QH8;cases this
theorem Xo5(h:i.natAbs.log2<1920):FSm 0 1921 QT:=⟨.int i,λ_=>by simp only[X5],by simp only[Va8,decide_eq_true h],by simp only[Xa2],by simp only[Vbu];exact Vi _,by simp only[szD];exact Xwd i⟩
theorem Xwg:FSm 0 1921 .non:=⟨.none,λ_=>by simp only[X5],by simp only[Va8],by simp only[Xa2],by simp only[Vbu];exact Vi _,by simp only[szD];omega⟩
theorem Ydu:FSm 0 1921 (.bl b):=⟨.bool b,λ_=>by simp only[X5],by simp only[Va8],by simp only[Xa2],by simp only[Vbu];exact Vi _,by simp only[szD];omega⟩
theorem Xwh(h:(reprText t).length<=1921):FSm 0 1921 Q97:=⟨.str t,λ_=>by simp only[X5],by simp only[Va8],by simp only[Xa2],by simp only[Vbu];exact Vi _,by simp only[szD];exact h⟩
theorem fss:∀ds:LD,(∀d∈ds,FSm a b d) ->
  ∃ps,(∀L,datFs L ds=yz ps)/\Vco ps=yx/\dctEs ps=yx/\Vcw ps<=a/\szDs ps<=ll ds*QS8
 |[]=>λ_=>⟨[],λ_=>by simp only[datFs],by simp only[Vco],by simp only[dctEs],by simp only[Vcw];exact Ub _,by simp only[szDs];exact Ub _⟩|d::ds=>λh=>by obtain⟨p,p1,p2,p3,p4,p5⟩:=h d Qu;obtain⟨ps,q1,q2,q3,q4,q5⟩:=fss ds λx hx=>h x Qs7;refine⟨p::ps,λL=>by simp only[datFs,p1 L,q1 L],by simp only[Vco,p2,q2,Vdm],by simp only[dctEs,p3,q3,Vdm],by simp only[Vcw];exact Nat.max_le.mpr QC8,?_⟩;simp only[szDs,Ux,Nat.succ_mul];omega
theorem Xo6(h:∀d∈ds,FSm a b d):FSm QE6 QA6 QZ8:=by obtain⟨ps,q1,q2,q3,q4,q5⟩:=fss ds h;refine⟨.tuple ps,λL=>by simp only[X5,q1 L,V7],by simp only[Va8,q2],by simp only[Xa2,q3],by simp only[Vbu];omega,by simp only[szD];omega⟩
theorem Yam(h:FSm a b d):FSm QE6 (b+5) Q78:=by have:=Xo6 (ds:=[d]) (a:=a) (b:=b) (λx hx=>by rw[V6]at hx;subst hx;exact h);exact this.mono QD5 Qu
theorem X43(L:Xc S n=yz xs)(h:∀x∈xs,FSm a b x):Sm S QE6 (ll xs*QS8+2) Ql0:=by obtain⟨ps,q1,q2,q3,q4,q5⟩:=fss xs h;refine⟨.list ps,?_,by simp only[Va8,q2],by simp only[Xa2,q3],by simp only[Vbu];omega,by simp only[szD];omega⟩;show Xao S 3 n=_;rw[Xao,Xbz L];dsimp only;rw[q1,V7]
theorem Xwi(h:Xc S q=yz xs):good S QF:=⟨.list,by simp only[kdD];rw[Xbz h],λ_ z=>nomatch z⟩
structure Thing(S:Sto)(d:D):Prop where
 sm:Sm S 20 400000 d
 gd:good S d
 el:∀xs,d=.tup xs->Qf4/\Qe<=200
def Kp(p:Nat)(S:Sto)(d:D):Prop:=∀S',Ext p S S'->Thing S' d
def El(p:Nat)(S:Sto)(d:D):Prop:=∀S',Ext p S S'->Sm S' 5 30000 d/\good S' d
section
variable{p:Nat}{S S':Sto}{d:D}
theorem Kp.mono(h:Kp p S d)(x:Ext p S S'):Kp p S' d:=λS2 y=>h S2 (x.trans y)
theorem Kp.now(h:Kp p S d):Thing S d:=h S .refl
theorem Xc4(h:FSm a b d)(ha:a<=5)(hb:b<=30000):El p S d:=λS' _=>⟨(h.sm S').mono ha hb,h.good S'⟩
theorem Ydv(h:El p S d)(L:∀xs,d≠.tup xs):Kp p S d:=λS' x=>⟨Qs8.1.mono Q0 Q0,Qs8.2,λxs z=>aB0 z (L xs)⟩
theorem Yan(h:∀x∈xs,El p S x)(hl:Qe<=13):Kp p S QX0:=λS' x=>by refine⟨(Xwe (a:=5) (b:=30000) λy L=>QN7.1).mono Q0 Q0,Xfu S' _ Qo5 (λ_ _ z=>nomatch z),λys z=>?_⟩;injection z with z;subst z;exact⟨λy L=>QN7.2,by omega⟩
theorem Yao(L:q≠p)(hl:Xc S q=yz xs)(h:∀x∈xs,FSm a b x)(ha:a<=4)(hb:Qe*QS8+2<=400000):Kp p S QF:=λS' x=>⟨(X43 QK7 h).mono Q0 hb,Xwi QK7,λxs z=>nomatch z⟩
universe e
def Xd1(l:LI):Prop:=∀x∈l,x.natAbs.log2<1920
theorem Xeh(h:i.natAbs.log2<1920):El p S QT:=Xc4 (Xo5 h) Q0 Q0
noncomputable def isr:D->Bool
 |.tup xs=>xs.all wh&&(decide Q23&&decide Qc2)|_=>yw
theorem Xrq:∀ {xs:LD},xs.all wh=yx->∃l:LI,xs=l.map D.int
 |[],_=>⟨[],rfl⟩|x::xs,h=>by
  simp only[Vb4,bA0]at h;obtain⟨l,rfl⟩:=Xrq h.2;cases x with
  |int i=>exact⟨i::l,rfl⟩|_=>cases h.1
theorem Xk4(h:isr d=yx):∃l,d=Xa l/\1<=ll l/\Q65<=12:=by
 cases d with
 |tup xs=>simp only[isr,bA0,decide_eq_true_eq]at h;obtain⟨l,rfl⟩:=Xrq h.1;rw[Vg]at h;exact⟨l,rfl,h.2.1,h.2.2⟩|_=>cases h
theorem Yap(l:LI):Qp.all wh=true:=by rw[Vag];intro d hd;obtain⟨i,_,rfl⟩:=Uc.mp hd;rfl
theorem Xo7(h1:1<=ll l)(h2:Q65<=12):isr Qk2=true:=by simp only[isr,Xa,Yap,Vg,decide_eq_true h1,decide_eq_true h2,Vdm]
section
variable{F:Fn}{G:LD}
theorem Xwj{a c:Ex}{n lo hi:Int}{d:D}{env:En}{S S':Sto}(h0:env[0]?=yz QJ7)(L:Xm .len [d] S=.ok Q1 S)(h1:ev F G a env S=.ok (.int lo) S)(h2:ev F G c env S=.ok Qw S):
  ev F G (.chn .le .le a Qb0 c) env S=.ok (.bl (decide QL9&&decide (n<=hi))) S:=by
 rw[ev,h1,Rk0];simp only[ev,evs,h0,Rk0,L,X0,h2,Xh];cases decide QL9<;>rfl
theorem Xwk{i2:Nat}{ig:Nat}{d:D}{S:Sto}(hw:X11 F i2)(hg:G[ig]?=yz (.int 11))(t:Thing S d):∃X,den F G (Xjg i2 ig) [d] S=.ok QC7 Q60:=by
 obtain⟨X,h⟩:=hw d S t.gd (λxs z=>⟨Qk7.1,V2 Qk7.2 Q0⟩);refine Qk1;simp only[den,Xjg,Uk,if_true,Ur,Vj,Vad,Vu];have L:ev F G QB7 Qj6 S=.ok Qc7 Q60:=by simp only[ev,evs,gZ0,Rk0,h]
 rw[Xg (d:=.bl (isr d)) (S1:=S++X) (by
  rw[exe,ev,L,Rk0];simp only[Xe];cases e:wt d with
  |false=>
   have:isr d=false:=by
    cases d with
    |tup xs=>simp only[wt]at e;simp only[isr,e,Vdr]|_=>rfl
   rw[this];rfl|true=>
   cases d with
   |tup xs=>
    have c:=Xwj (F:=F) (G:=G) (a:=.cst Q8) (c:=.bin .add QQ6 Q2) (n:=ll xs) (lo:=1) (hi:=12) (d:=.tup xs) (env:=Qv2) (S:=S++X) (S':=S++X) rfl rfl Q03 (by simp only[ev,hg,Rk0,Xy];rfl);dsimp only;rw[c];simp only[wt]at e;simp only[isr,e,Vef,Rk0];have e1:decide QD4=decide Q23:=by congr 1;apply propext;omega
    have e2:decide Qm5=decide Qc2:=by congr 1;apply propext;omega
    rw[e1,e2]
   |_=>cases e)]
theorem X44(h:F i4 [d] S=.ok QB1 S1):den F G Qx6 [d] S=.ok .non S1:=Yak h
theorem Yaq(h:F i4 [d] S=.ok Qn2 S1):den F G Qx6 [d] S=.ex QB6 (S1++Ql9):=by simp only[den,Xid,Uk,if_true,Ur,Vj,Vad,Vu];rw[Xbe (n:=ll S1) (S1:=S1++Ql9) (Xce QO2)]
theorem Xrr(h:ev F G c env S=.ok QB1 S'):exe F G (.ite c (.cons (.ret QB9) .nil) .nil) env S=.ok QD2 S':=by rw[exe,h,Rk0];simp only[Xe,pe,exe,ev,Rk0]
universe e
noncomputable def vsq(v m:Int):Nat->Int
 |0=>v|n+1=>vsq v m n/m
noncomputable def drawn(v far:Int)(n:Nat):LI:=Qu9.map λi=>vsq v QX8 i%QX8-far
section
variable{F:Fn}{G:LD}
theorem Xs(h:ev F G e env S=.ok d S'):exe F G Qd7 env S=.ok (.nx (env.set i QJ7)) S':=by simp only[exe,h,Rk0,Xn]
theorem Xcf(a:LI)(n:Nat)(S:Sto):Xal Qs9 QQ1 yy S=.ok (Xa (a.drop n)) S:=by
 have c:cut Q14 QQ1 yy=Q14.drop n:=by
  unfold cut Xbj;simp only;rw[iP0 Q0];simp only[Us];by_cases h:n<=Q14.length;·rw[Va7 h,Vaj (by rw[Vc2];omega)]
  ·rw[Vf1 Q0,Vb6 Q0,Vb6 Q0];simp
 unfold Xa;simp only[Xal,c,List.map_drop]
theorem X45(h:ev F G e env S=.ok d S):ev F G QV4 env S=.ok Q78 S:=by simp only[ev,evs,h,Rk0];exact iP0 (Yy Qu)
theorem Xo8(x y:LD)(S:Sto)(h:QM8+ll y<=1000):Xw .add Q79 (.tup y) S=.ok (.tup Qn9) S:=by simp only[Xw];exact iP0 (Yy h)
theorem Yar{ir ia:Nat}{l:LI}{a b:Nat}(hr:env[ir]?=yz (yz Qk2))(ha:env[ia]?=yz Ql8)(he:ev F G e env S=.ok od S)(hb:ev F G eb env S=.ok QL5 S)(hl:Q65<=100):
  ev F G (.bin .add (.bin .add Q22 QV4) Ql2) env S=.ok (.tup QN1) S:=by
 have h1:ev F G Q22 env S=.ok Q19 S:=by simp only[ev,evo,hr,ha,Rk0,Xak,Xif]
 have h2:=X45 he;have h3:ev F G Ql2 env S=.ok Q29 S:=by simp only[ev,evo,hr,hb,Rk0,Xak];exact Xcf l b S
 have h4:=Xo8 (QZ1.map D.int) [od] S QP1;have h5:=Xo8 QR4 (QY5.map D.int) S QP1;have aa:Xw .add Q19 (.tup [od]) S=_:=h4;have L:Xw .add (.tup QR4) Q29 S=_:=h5;rw[ev,ev,h1,Rk0,h2,Rk0,aa,Rk0,h3,Rk0,L]
theorem d2:Yw 2=true:=by decide+kernel
noncomputable def Yas(l:LI)(a b:Nat)(od:D):D:=.tup QN1
universe e
theorem Xo9:∀(k n:Nat) (p:Vdd),Xao S k n=yz p->Xao S QN n=yz p
 |0=>λn p e=>by cases e|k+1=>λn p e=>by
  rw[Xao]at e ⊢;cases q:S[n]? with
  |none=>rw[q]at e;cases e|some o=>
   rw[q]at e;cases o with
   |lst xs=>simp only[Ud]at e ⊢;obtain⟨ps,e1,L⟩:=e;exact⟨ps,datFs_mono (Xo9 k) xs ps e1,L⟩|dct kvs=>cases kvs<;>exact e|fdc _=>cases e|exc _=>cases e
theorem Xrs(t:Str)(S:Sto):Xh .ne Q97 Q97 S=.ok Qn2 S:=by simp only[Xh,X0,eqD,Xdw,beq_self_eq_true,V7,Vb3]
universe Z
universe e
section
namespace Z
theorem Y5:∀ {m n:Nat},m<=n->C m k<=C n k:=by
 have st:∀n,C n k<=C Ql7 k:=λn=>by
  cases k with
  |zero=>rw[Y1,Y1];exact Vi _|succ k=>simp only[C];omega
 intro m n h;induction n with
 |zero=>
  have:m=0:=by omega
  subst this;exact Vi _|succ n ih=>
  by_cases e:m=n+1;·subst e;exact Vi _
  ·exact V2 (ih Q0) (st n)
theorem Xdf:∀k:Nat,C k k=1
 |0=>rfl|k+1=>by simp only[C];rw[Xdf k,Xbm k QN Q0]
theorem Xg6(n:Nat):C n 1=n:=by
 induction n with
 |zero=>rfl|succ n ih=>show C n 0+C n 1=n+1;rw[Y1,ih];omega
theorem Xig(k:Nat):∀j:Nat,j+1<=C Qo7 QN
 |0=>by rw[Vbj,Xdf];exact Vi _|j+1=>by
  have ih:=Xig k j;have h1:1<=C Qo7 k:=by have:=Y5 (k:=k) (show k<=k+1+j by omega);rw[Xdf]at this;exact this
  have e:k+1+QP8=Qo7+1:=by omega
  rw[e];simp only[C];omega
theorem Xjh(h:k<=m):1<=C m k:=by have:=Y5 (k:=k) h;rw[Xdf]at this;exact this
def Most(n k m:Nat):Prop:=k<=m/\C m k<=n/\n<C (m+1) k
theorem Most.uniq(h:Most n k m)(h':Most n k m'):m=m':=by
 obtain⟨_,a1,a2⟩:=h;obtain⟨_,b1,b2⟩:=h';by_cases e:m<m';·have:=Y5 (k:=k) (show m+1<=m' by omega);omega
 ·by_cases L:m'<m;·have:=Y5 (k:=k) (show m'+1<=m by omega);omega
  ·omega
def Wr:Nat->Nat->LI->Prop
 |0,n,l=>n=0/\l=[]|k+1,n,l=>(n=0/\l=[])\/∃(m:Nat) (r:LI),l=(m:Int)::r/\0<n/\Most n QN m/\Wr k (n-C m QN) r
theorem Wr.zero(h:Wr k 0 l):l=[]:=by
 cases k with
 |zero=>exact h.2|succ k=>rcases h with h|⟨m,r,e,h,_⟩;exact h.2;omega
theorem Wr.uniq:∀ {k n:Nat} {l l':LI},Wr k n l->Wr k n l'->l=l'
 |0,n,l,l',h,h'=>by rw[h.2,h'.2]|k+1,n,l,l',h,h'=>by
  rcases h with⟨h0,rfl⟩|⟨m,r,rfl,h0,h1,h2⟩
  ·rcases h' with⟨_,rfl⟩|⟨m',r',rfl,h0',_⟩;·rfl
   ·omega
  rcases h' with⟨h0',rfl⟩|⟨m',r',rfl,h0',h1',h2'⟩;·omega
  ·have e:=h1.uniq h1';subst e;rw[h2.uniq h2']
noncomputable def wok:Nat->Option Int->LI->Bool
 |_,_,[]=>yx|0,_,_::_=>yw|k+1,pv,x::r=>decide (QW<=x)&&(pv.all λy=>decide (x<y))&&wok k QI7 r
noncomputable def Ys:Nat->LI->Int
 |_,[]=>0|0,_::_=>0|k+1,x::r=>C x.toNat QN+Ys k r
theorem Xei:∀(k:Nat) (l:LI),0<=Ys k l
 |_,[]=>by cases ‹Nat› <;> exact Vhg _|0,_::_=>Vhg _|k+1,x::r=>by have:=Xei k r;simp only[Ys];omega
theorem Xk5:∀(k:Nat) (pv:Option Int) (x:Int) (r:LI),wok k pv Q63=yx->Ys k Q63<C Qr4 k
 |0=>λ_ _ _ h=>by cases h|k+1=>λpv x r h=>by
  simp only[wok,bA0,decide_eq_true_eq]at h;obtain⟨⟨h1,_⟩,h2⟩:=h;simp only[Ys,C];cases r with
  |nil=>
   have:Ys k []=0:=by cases k<;>rfl
   rw[this];have:=Xjh (k:=k) (m:=x.toNat) Q0;omega|cons y r=>
   have ih:=Xk5 k QI7 y r h2;have L:y<x/\(k:Int)<=y:=by
    cases k with
    |zero=>cases h2|succ k=>simp only[wok,bA0,decide_eq_true_eq,Option.all_some]at h2;exact⟨h2.1.2,h2.1.1⟩
   have:=Y5 (k:=k) (show y.toNat+1<=x.toNat by omega);omega
theorem Xm5:∀ {k n:Nat} {l:LI} {pv:Option Int},Wr k n l->(∀y,pv=yz y->(n:Int)<C y.toNat k/\0<=y)->ll l<=k/\wok k pv l=yx/\Ys k l=n
 |0,n,l,pv,h,_=>by obtain⟨rfl,rfl⟩:=h;exact⟨Vi _,rfl,rfl⟩|k+1,n,l,pv,h,hp=>by
  rcases h with⟨rfl,rfl⟩|⟨m,r,rfl,h0,⟨m1,m2,m3⟩,h2⟩;·exact⟨Ub _,rfl,rfl⟩
  ·have hc:n<C m k+C m QN:=m3;obtain⟨q1,L,q3⟩:=Xm5 (pv:=yz (m:Int)) h2 λy e=>by
    cases e;refine⟨?_,by omega⟩;rw[Us];omega
   refine⟨by simp;omega,?_,?_⟩
   ·simp only[wok,bA0,decide_eq_true_eq];refine⟨Q46,L⟩;cases pv with
    |none=>rfl|some y=>
     obtain⟨p1,p2⟩:=hp y rfl;simp only[Option.all_some,decide_eq_true_eq];by_cases e:(m:Int)<y;·exact e
     ·have:=Y5 (k:=k+1) (show y.toNat<=m by omega);omega
   simp only[Ys,Us,q3];omega
theorem Xtl:∀ {k n:Nat} {l:LI} {pv:Option Int},ll l<=k->wok k pv l=yx->Ys k l=n->Wr k n l
 |0,n,l,pv,h1,h2,h3=>by
  cases l with
  |nil=>exact⟨by have:Ys 0 []=0:=rfl;omega,rfl⟩|cons _ _=>simp at h1
 |k+1,n,l,pv,h1,h2,h3=>by
  cases l with
  |nil=>exact .inl ⟨by have:Ys QN []=0:=rfl;omega,rfl⟩|cons x r=>
   have aa:=Xk5 QN pv x r h2;simp only[wok,bA0,decide_eq_true_eq]at h2;obtain⟨⟨a1,_⟩,a2⟩:=h2;have L:=h3;simp only[Ys]at L;have ab:=Xei k r;have hx:x=(x.toNat:Int):=by omega
   have hp:=Xjh (k:=k+1) (m:=x.toNat) Q0;refine .inr ⟨x.toNat,r,by rw[<-hx],by omega,⟨by omega,by omega,by omega⟩,?_⟩;exact Xtl (pv:=yz x) (by simpa using h1) a2 Q0
theorem Yat(L:Wr k n w):(ll l<=k/\wok k yy l=yx/\Ys k l=n) ↔ l=w:=by
 constructor;·intro ⟨h1,h2,h3⟩;exact(Xtl h1 h2 h3).uniq L
 ·intro e;subst e;exact Xm5 L λy e=>by cases e
theorem Xtm:∀ {k n:Nat} {l:LI},Wr k n l->∀x∈l,0<=x/\x<=(n:Int)+k
 |0,n,l,h,x,hx=>by rw[h.2]at hx;cases hx|k+1,n,l,h,x,hx=>by
  rcases h with⟨_,rfl⟩|⟨m,r,rfl,h0,⟨m1,m2,m3⟩,h2⟩;·cases hx
  ·have L:m<=n+k:=by
    obtain⟨j,rfl⟩:∃j,m=k+1+j:=QP5;have:=Xig k j;omega
   rcases V0.mp hx with rfl|hx;·omega
   ·have:=Xtm h2 x hx;omega
theorem Xwl(h:Wr k n l):Q65<=k:=(Xm5 (pv:=yy) h λy e=>by cases e).1
universe Z
universe e
section
namespace Z
open PySem PySem.Spec PyProof.Rows L2
section
variable{F:Fn}{G:LD}
theorem Xtn(n m i:Nat)(S:Sto)(L:n<=100000000000000)(hi:i<13):pe F G Xee [yz Q1,yz QG,yz Qf6,yz QT] S=.ok (.nx [yz Q1,yz QG,yz (.int (C n Q40)),yz QT]) S:=by have h:=Xzv (F:=F) (G:=G) n m (C n i) i S (Xc3 Q0 Q0) (Ydt Q0);rw[Ydq]at h;exact h
theorem Xwm(n m:Nat)(S:Sto)(hn:n<=100000000000000)(hm:m<=13):den F G Xg3 Qk0 S=.ok QV2 S:=by
 obtain⟨xs,hx,hl⟩:=Xa9 (m:=(m:Int)) Q0 Qu8;obtain⟨e',S',h1,rfl,x,rfl⟩:=Xbq (F:=F) (G:=G) (t:=.var 3) (es:=.cons Q5 .nil) (b:=Xee) (env:=Q62) (S:=S) (S1:=S) (ds:=QF4) (xs:=xs)
  (λi e S'=>S'=S/\∃x,e=[yz Q1,yz QG,yz Qf6,x]) Qr2 hx Qk3 (λi d e S' hd L=>by obtain⟨rfl,x,rfl⟩:=L;obtain⟨rfl,hi⟩:=Xb3 hx hd;exact⟨_,_,S',rfl,Xtn n m i S' hn Q0,rfl,_,rfl⟩)
 have e:Qe=m:=by omega
 rw[e]at h1;exact Xzw n m (C n m) S' _ S' h1 rfl
noncomputable def Xji:Ex:=.cmp .gt (.bin .sub Q9 Q3) Q2
noncomputable def Xg7(iw:Nat):Sts:=.cons (.asg QQ (.bin .fdiv Qk5 QL1)) (.cons (.ite QL2 (.cons (.asg Q3 QQ) .nil) (.cons (.asg Q9 QQ) .nil)) .nil)
noncomputable def Xjj(iw:Nat):Df:=⟨2,5,.cons Qe7 QU0⟩
def Yl(F:Fn)(iw:Nat):Prop:=∀(n m:Nat) (S:Sto),n<=10000000000000->m<=13->F iw Qk0 S=.ok QV2 S
theorem Xb4(h:T[iw]?=yz Xg3)(k:Nat):Yl Qq1 iw:=λn m S hn L=>by simp only[FT,h];exact Xwm n m S Q0 L
noncomputable def Xk6(F:Fn)(G:LD):En->Sto->R Bool:=λenv S=>(ev F G Xji env S).bind λx S=>match Xe S x with
 |some r=>.ok r S|none=>.bad
theorem Xpa:Xk6 F G Qj0 S=.ok (decide QY8) S:=by unfold Xk6;simp only[Xji,ev,gZ0,gS0,Rk0,X7,Xh,X0,Xe]
theorem Xwn{iw:Nat}(hw:Yl F iw){n k lw hi:Nat}{x:Option D}(hk:k<=12)(h:Qd/2<=10000000000000):
  pe F G Qy6 Qj0 S=.ok (.nx (if C Qp3 k<=n then [yz Q1,yz Q7,yz QM,yz Qw,yz QM] else [yz Q1,yz Q7,yz Qy,yz QM,yz QM])) S:=by
 have e:QF7/2=QR:=by omega
 have s1:=Xs (i:=4) (F:=F) (G:=G) (e:=.bin .fdiv Qk5 QL1) (env:=Qj0) (S:=S) (d:=.int QR) (S':=S) Q12;generalize Qd/2=m at s1 h;have hc:=hw m k S h Q0;have L:ev F G QL2 [yz Q1,yz Q7,yz Qy,yz Qw,yz QG] S=.ok QN5 S:=by simp only[ev,evs,gZ0,gS0,Rk0,hc,Xh,X0]
 unfold Xg7;rw[Xb s1];by_cases q:C m k<=n;·have hd:decide Qr0=true:=decide_eq_true Q0;rw[hd]at L;rw[iP0 q];rw[Xb (e:=[yz Q1,yz Q7,yz QG,yz Qw,yz QG]) (S1:=S) QM0];rw[pe]
 ·have hd:decide Qr0=false:=decide_eq_false Q0;rw[hd]at L;rw[iN0 q];rw[Xb (e:=[yz Q1,yz Q7,yz Qy,yz QG,yz QG]) (S1:=S) QM0];rw[pe]
theorem Xfw{iw:Nat}(hw:Yl F iw){n k:Nat}(hk:k<=12):∀(j L lw hi:Nat) (x:Option D),hi-lw<=2^j->j<L->lw<hi->k<=lw->hi<=5000000000000->C lw k<=n->n<C hi k ->
  ∃m h x',Yo (Xk6 F G) (λenv S=>pe F G Qy6 env S) L Qj0 S=.ok (.nx [yz Q1,yz Q7,yz QV1,h,x']) S/\Most n k m
 |j,0=>λlw hi x h1 h2 h3 h4 h5 h6 h7=>by omega|j,L+1=>λlw hi x h1 h2 h3 h4 h5 h6 h7=>by
  by_cases q:hi=lw+1;·subst q;have ht:=Xpa (F:=F) (G:=G) (n:=n) (k:=k) (lw:=lw) (hi:=Qq8) (x:=x) (S:=S);have hd:decide QI3=false:=decide_eq_false Q0;rw[hd]at ht;refine Qu1;simp only[Yo,ht]
  ·have ht:=Xpa (F:=F) (G:=G) (n:=n) (k:=k) (lw:=lw) (hi:=hi) (x:=x) (S:=S);have hd:decide Qd4=true:=decide_eq_true Q0;rw[hd]at ht;have hb:=Xwn (G:=G) hw (n:=n) (k:=k) (lw:=lw) (hi:=hi) (x:=x) (S:=S) hk Q0;obtain⟨j,rfl⟩:∃i,j=i+1:=by
    cases j with
    |zero=>simp at h1;omega|succ j=>exact Qv0
   rw[Nat.pow_succ]at h1;by_cases c:C Qp3 k<=n;·rw[iP0 c]at hb;obtain⟨m,h,x',r1,r2⟩:=Xfw hw hk j L Qp3 hi Q86 Q0 Q0 Q0 Q0 h5 c h7;exact Qn
   ·rw[iN0 c]at hb;obtain⟨m,h,x',r1,r2⟩:=Xfw hw hk j L lw Qp3 Q86 Q0 Q0 Q0 h4 Q0 h6 Q0;exact Qn
theorem Xz1{iw:Nat}(hw:Yl F iw){n k:Nat}(ab:1<=k)(hk:k<=12)(L:1<=n)(hn:n<=1000000000000):∃m,den F G Qx8 Ql6 S=.ok QV1 S/\Most n k m:=by
 have aa:n<C QO8 k:=by obtain⟨k',rfl⟩:∃k',k=k'+1:=Qz0;have:=Xig k' n;omega
 obtain⟨m,h,x',r1,r2⟩:=Xfw (G:=G) hw (n:=n) (k:=k) (S:=S) hk 41 100000 k QO8 yy (by have ac:(2:Nat)^41=2199023255552:=QJ;omega) Q0 Q0 QD5 Q0 QA5 aa;refine⟨m,?_,r2⟩;have s1:=Xs (i:=2) (F:=F) (G:=G) (e:=.var 1) (env:=[yz Q1,yz Q7,yy,yy,yy]) (S:=S) (d:=.int k) (S':=S) (by simp only[ev,gZ0,gS0]);have s2:=Xs (i:=3) (F:=F) (G:=G) (e:=.bin .add Q5 Q4) (env:=[yz Q1,yz Q7,yz Q7,yy,yy]) (S:=S) (d:=.int (Qu6:Int)) (S':=S) (by simp only[ev,gZ0,gS0,Rk0,Xy];rw[Vib]);have s3:exe F G (.whl Xji Qy6) [yz Q1,yz Q7,yz Q7,yz (.int (Qu6:Int)),yy] S=.ok (.nx QC4) S:=by rw[exe];exact r1
 have s4:exe F G QX3 QC4 S=.ok Q89 S:=by simp only[exe,ev,gZ0,gS0,Rk0]
 simp only[den,Xjj,Uk,if_true,Ur,Vj];have q:pe F G (.cons Qe7 QU0) ([yz Q1,yz Q7]++[yy,yy,yy]) S=.ok Q89 S:=
  QV3.trans QH2
 rw[q]
noncomputable def Xca(im iw:Nat):Sts:=.cons QQ0 (.cons (.asg QA0 Qw3) Q32)
noncomputable def Xjk(ic im iw:Nat):Df:=⟨2,6,.cons Qy1 QK0⟩
def Xdp(F:Fn)(im:Nat):Prop:=∀(n k:Nat) (S:Sto),1<=k->k<=12->1<=n->n<=1000000000000->∃m,F im Ql6 S=.ok QV1 S/\Most n k m
theorem Xpb{T:List Df}{im iw:Nat}(h:T[im]?=yz Qx8){k:Nat}(L:Yl Qs3 iw):Xdp Qq1 im:=λn k' S h1 h2 h3 h4=>by obtain⟨m,r1,r2⟩:=Xz1 (G:=G) L (S:=S) h1 h2 h3 h4;exact⟨m,by simp only[FT,h];exact r1,r2⟩
theorem Xwo:pe F G Qn1 QG0 S=.ok QB8 S:=by
 have h:exe F G QQ0 QG0 S=.ok QB8 S:=by rw[exe];simp only[ev,gZ0,gS0,Rk0,Xde,beq_self_eq_true,Xe,pe,exe]
 unfold Xca;simp only[pe,h]
theorem Xz2(hw:Yl F iw)(hm:Xdp F im)(aa:1<=k)(hk:k<=12)(af:1<=r)(hr:r<=1000000000000)(hq:Xc S q=yz acc)(hl:Qr8<100):
  ∃m,Most r k m/\pe F G Qn1 QO0 S=.ok QJ1 QB:=by
 obtain⟨m,h1,h2⟩:=hm r k S aa hk af hr;refine⟨m,h2,?_⟩;have ab:m<=10000000000000:=by obtain⟨a1,a2,a3⟩:=h2;obtain⟨L,rfl⟩:∃L,k=L+1:=Qz0;obtain⟨j,rfl⟩:∃j,m=L+1+j:=⟨m-(L+1),by omega⟩;have:=Xig L j;omega
 have hb:((r:Int)==0)=false:=by simp;omega
 have s0:exe F G QQ0 QO0 S=.ok (.nx QO0) S:=by rw[exe];simp only[ev,gZ0,gS0,Rk0,Xde,hb,Xe,pe]
 have s1:=Xs (i:=5) (F:=F) (G:=G) (e:=.call im (.cons Q9 Qz)) (env:=QO0) (S:=S) (d:=.int m) (S':=S) (by simp only[ev,evs,gZ0,gS0,Rk0,h1]);have ac:=Xg4 (x:=.int m) hq Q0;have ae:Xah .append QF S=true:=by simp only[Xah,hq,Vby]
 have s2:exe F G Qj Qn0 S=.ok (.nx Qn0) QB:=by simp only[exe,ev,evs,gZ0,gS0,Rk0,ae,if_true,ac]
 have ah:=hw m k QB ab Q0;have s3:exe F G (.aug 3 .sub Qk) Qn0 QB=.ok QJ1 QB:=by
  have e:(r:Int)-(C m k:Int)=QZ0:=by have:=h2.2.1;omega
  simp only[exe,ev,evs,gZ0,gS0,Rk0,ah,Xfe,e,Vax]
 unfold Xca;exact QZ9.trans (QV3.trans (QH6.trans (QY9.trans Qr5)))
theorem Xmh(hw:Yl F iw)(hm:Xdp F im)(hx:xs=Qt9.map λ(j:Nat)=>D.int Qy7)(hs:s<=12):∀(k L i r:Nat) (x4 x5:Option D) (S:Sto) (acc:LD),i+k=s->k<L->r<=1000000000000->Xc S q=yz acc->ll acc<=50+i->Q48 ->
  ∃w e,X4 Q93.get QQ QO3 L i QC3 S=.ok Q44 Qe2/\Wr k r w/\e[2]?=yz Qi7
 |k,0=>λi r x4 x5 S acc h1 h2 h3 h4 h5 h6=>by omega|0,L+1=>λi r x4 x5 S acc h1 h2 h3 h4 h5 h6=>by
  have hi:xs[i]?=none:=by rw[hx];simp;omega
  refine⟨[],QC3,?_,⟨h6 rfl,rfl⟩,rfl⟩;have e:S.set q Q11=S:=by obtain⟨ab,hv⟩:=Vd.mp Q07;rw[Vbq,Vu,<-hv];exact Vfx ab
  rw[e];simp only[X4,Src.get,hi]|k+1,L+1=>λi r x4 x5 S acc h1 h2 h3 h4 h5 h6=>by
  have hi:xs[i]?=yz QE2:=by rw[hx,Vx,Vai Q0,V7];congr 2;omega
  by_cases hr:r=0
  ·subst hr;refine⟨[],[yz Q1,yz QC,yz QF,yz QO,yz QE2,x5],?_,.inl Qy0,rfl⟩;have e:S.set q Q11=S:=by
    obtain⟨ab,hv⟩:=Vd.mp Q07;rw[Vbq,Vu,<-hv];exact Vfx ab
   rw[e];have hz:=Xwo (F:=F) (G:=G) (im:=im) (iw:=iw) (n:=n) (s:=s) (k:=QW) (q:=q) (x5:=x5) (S:=S);simp only[X4,Src.get,hi,Xn,Vax];have ac:pe F G Qn1 [yz Q1,yz QC,yz QF,yz Qe5,yz QE2,x5] S=_:=hz;rw[ac]
  obtain⟨m,m1,m2⟩:=Xz2 (G:=G) hw hm (n:=n) (s:=s) (r:=r) (k:=k+1) (q:=q) (x5:=x5) (S:=S) (acc:=acc) Q0 Q0 Q0 h3 h4 Q0;have aa:k=0->r-C m QN=0:=λz=>by subst z;obtain⟨a1,a2,a3⟩:=m1;rw[Va4,Xg6]at a2 ⊢;rw[Va4,Xg6]at a3;omega
  obtain⟨w,e,r1,r2,r3⟩:=Xmh hw hm hx hs k L Q40 Q18 Qn8 QH9 QB QU Q0 Q0 Q0 QZ6 Qg3 aa;refine Q61;rw[List.set_set,Vq]at r1;simp only[X4,Src.get,hi,Xn,Vax];rw[m2];exact r1
theorem Xpc{s:Nat}(hs:s<=12):Yn [.int s,.int 0,.int (-1)]=yz (Qt9.map λ(j:Nat)=>D.int Qy7):=by
 have h:∀j:Fin 13,(-(1048576:Int)<QZ5/\QZ5<1048576):=by decide
 obtain⟨h1,h2⟩:=h ⟨s,by omega⟩;unfold Yn;dsimp only;rw[iP0 ⟨rfl,h1,h2,by decide,by decide⟩,show((s:Int)-0).toNat=s by omega]
theorem Xz3(L:F ic [n,s] S=.ok .non S)(hr:Yn [s,.int 0,.int (-1)]=yz xs)
  (r1:X4 Q93.get QQ QO3 QA2 0 Qb3 Qp0=.ok Q44 Qq) (r3:e[2]?=yz (yz Qa)):
  den F G QW6 [n,s] S=.ok Qc1 Qq:=by
 have s0:exe F G Qy1 Qv1 S=.ok (.nx Qv1) S:=by simp only[exe,ev,evs,gZ0,gS0,Rk0,L]
 have s1:=Xs (i:=2) (F:=F) (G:=G) (e:=.lst .nil) (env:=Qv1) (S:=S) (d:=.ref QT2) (S':=S++Qk6) (by simp only[ev,evs,Rk0];exact iP0 QJ);have s2:=Xs (i:=3) (F:=F) (G:=G) (e:=.var 0) (env:=[yz n,yz s,yz Qa,yy,yy,yy]) (S:=S++Qk6) (d:=n) (S':=S++Qk6) Qi4;have s3:exe F G (.for QQ Qm Qn1) Qb3 Qp0=.ok Q44 Qq:=by simp only[exe,evit,evs,ev,gZ0,gS0,Rk0,hr,Src.most];exact r1
 have s4:exe F G QN0 e Qq=.ok QW4 Qq:=by simp only[exe,ev,evs,r3,Rk0,Xm,Xp,Xf,Xa]
 simp only[den,Xjk,Uk,if_true,Ur,Vj];have q:pe F G (.cons Qy1 QK0) ([yz n,yz s]++[yy,yy,yy,yy]) S=.ok QW4 Qq:=
  QZ9.trans (QV3.trans QH2)
 rw[q]
theorem Xz4{ic im iw n s:Nat}(hw:Yl F iw)(hm:Xdp F im)(hc:F ic Q20 S=.ok .non S)(aa:1<=s)(hs:s<=12)(hn:n<=1000000000000):∃w,den F G QW6 Q20 S=.ok Qc1 Qq/\Wr s n w:=by
 obtain⟨w,e,L,r2,r3⟩:=Xmh (G:=G) hw hm (n:=n) (s:=s) (q:=ll S) rfl hs s (s+1) 0 n yy yy Qp0 [] (Va4 s) (Vcm s) hn Xf Qn3 (λz=>aB0 z Q0);have e2:QJ6.set QT2 Qu3=S++QF9:=by rw[Vfr _ _ QD5,Vad,Uw];rfl
 rw[e2]at L;refine⟨w,Xz3 hc (Xpc hs) ?_ r3,r2⟩;rw[Vg,Ut];exact L
universe e
theorem Xwp(n i:Nat)(h:i<=n):Qa0*Q15=Qj3:=by
 have e:(n:Int)-i=((n-i:Nat):Int):=by omega
 rw[e,<-Ve5];congr 1;have:=Xec n i;simp only[fac]
 calc C n i*fac i*Qx3=C n i*Qx3*fac i:=by rw[Vgd,Vfo (fac i),<-Vgd]
  _=C n Q40*Q40*fac i:=by rw[this]
  _=C n Q40*Qq7:=by rw[Vgd,Vfo Q40]
theorem Xrt(n:Nat):∀i,C n i*fac i<=n^i
 |0=>by rw[Y1];simp[fac]|i+1=>by
  by_cases h:i<=n
  ·have:=Xec n i;have ih:=Xrt n i;have e:C n Q40*fac Q40=C n i*fac i*Qx3:=by
    simp only[fac]
    calc C n Q40*Qq7=C n Q40*Q40*fac i:=by rw[Vgd,Vfo Q40]
     _=C n i*Qx3*fac i:=by rw[this]
     _=C n i*fac i*Qx3:=by rw[Vgd,Vfo Qx3,<-Vgd]
   rw[e,Nat.pow_succ];exact Nat.mul_le_mul ih (Vhz _ _)
  rw[Xbm n Q40 Q0,Vet];exact Ub _
theorem Xfx(h:n<2^k)(hk:0<k):n.log2<k:=by
 by_cases h0:n=0;·subst h0;exact hk
 ·exact(Nat.log2_lt h0).mpr h
theorem Xz5(L:n<2^300)(hi:i<=13):((C n i*fac i:Nat):Int).natAbs.log2<100000:=by rw[Int.natAbs_natCast];refine Xfx (Vcl (Xrt n i) ?_) QJ;refine Vcl (Nat.pow_le_pow_left (Vc9 L) i) ?_;rw[<-Nat.pow_mul];exact Nat.pow_lt_pow_right QJ Q0
section
variable{F:Fn}{G:LD}
noncomputable def lwB:Sts:=.cons (.asg Q9 (.bin .mul Q9 Qj5)) (.cons (.asg QQ (.bin .mul QQ Ql5)) .nil)
noncomputable def Xcg:Df:=⟨2,5,.cons (.ite (.cmp .gt Q5 Q4) Q02 .nil) (.cons (.asg QU4 (.tup (.cons Q2 (.cons Q2 .nil)))) (.cons Q94 (.cons (.ret (.bin .fdiv Q9 QQ)) .nil)))⟩
theorem Yau(h1:Yt t Qx3=yx)(h2:Yt b Q40=yx):pe F G lwB Qw1 S=.ok (.nx [yz Q1,yz QG,yz QT,yz Qc6,yz (.int QR9)]) S:=by have L:=Xs (i:=3) (F:=F) (G:=G) (e:=.bin .mul Q9 Qj5) (env:=Qw1) (S:=S) (d:=.int (t*Qx3)) (S':=S) (by simp only[ev,gZ0,gS0,Rk0,X7,Xbf h1]);have s2:=Xs (i:=4) (F:=F) (G:=G) (e:=.bin .mul QQ Ql5) (env:=[yz Q1,yz QG,yz QT,yz Qc6,yz QL5]) (S:=S) (d:=.int QR9) (S':=S) (by simp only[ev,gZ0,gS0,Rk0,Xy,Xbf h2]);unfold lwB;exact Qr9.trans (QH6.trans (by simp only[pe,Vax]))
theorem Yav(h0:decide (n<m)=yw)(h1:exe F G Q94 QF1 S=.ok QJ5 S)(h3:e'[3]?=yz Qm8)(L:e'[4]?=yz (yz QL5))(hd:Yw b=yx)(hr:t/b=r):den F G Xcg Qk0 S=.ok Qv S:=by simp only[den,Xcg,Uk,if_true,Ur,Vj,Vaw,Uw];rw[Xb (e:=[yz Q1,yz QG,yy,yy,yy]) (S1:=S) (Xz Qh1)];rw[Xb (e:=QF1) (S1:=S) (by simp only[exe,ev,evs,Rk0];rfl)];rw[Xb h1];rw[Xg (d:=.int r) (S1:=S) (by simp only[exe,ev,h3,L,Rk0,Xda hd,hr])]
theorem X46(h0:decide (n<m)=yx):den F G Xcg Qk0 S=.ok QO S:=by simp only[den,Xcg,Uk,if_true,Ur,Vj,Vaw,Uw];rw[Xg (d:=.int 0) (S1:=S) (Xrr Qh1)]
theorem X47(h:i<=13):Yw (fac i:Int)=true:=by
 have:∀j:Fin 14,Yw (fac j.val:Int)=true:=by decide+kernel
 exact this ⟨i,by omega⟩
theorem X48(h:i<13):Yt (fac i:Int) Q35=true:=Xc3 Q0 Q0
theorem X49{n i:Nat}(L:n<2^300)(hi:i<=n):((n:Int)-i).natAbs.log2<100000:=by
 have e:Q15.natAbs=n-i:=by omega
 rw[e];exact Xfx (Vcl (Vhz n i) (Uh L (Nat.pow_le_pow_right QJ QJ))) QJ
theorem X5a{n m i:Nat}(hn:n<2^300)(hi:i<13)(L:i<=n):pe F G lwB [yz Q1,yz QG,yz QT,yz QA8,yz Qe6] S=.ok (.nx [yz Q1,yz QG,yz QT,yz (.int Qj3),yz (.int (fac Q40))]) S:=by
 have h:=Yau (F:=F) (G:=G) (n:=n) (m:=m) (t:=Qa0) (b:=(fac i:Int)) (i:=i) (S:=S) (X4s (Xz5 hn (Vc9 hi)) (X49 hn L)) (X48 hi);rw[Xwp n i L]at h;have e:(fac i:Int)*Q35=(fac Q40:Int):=by simp only[fac];rw[Ve5];rfl
 rw[e]at h;exact h
theorem Xwq{n m:Nat}(hn:n<2^300)(hm:m<=13):den F G Xcg Qk0 S=.ok QV2 S:=by
 by_cases h:n<m;·rw[Xbm n m h];exact X46 (decide_eq_true Q0)
 ·obtain⟨xs,hx,hl⟩:=Xa9 (m:=(m:Int)) Q0 Qu8;have L:Qe=m:=by omega
  obtain⟨e',S',h1,rfl,x,rfl⟩:=Xbq (F:=F) (G:=G) (t:=.var 2) (es:=.cons Q5 .nil) (b:=lwB) (env:=QF1) (S:=S) (S1:=S) (ds:=QF4) (xs:=xs)
   (λi e S'=>S'=S/\∃x,e=[yz Q1,yz QG,x,yz QA8,yz Qe6]) Qr2 hx Qk3 (λi d e S' hd hP=>by obtain⟨rfl,x,rfl⟩:=hP;obtain⟨rfl,hi⟩:=Xb3 hx hd;exact⟨_,_,S',rfl,X5a hn Q0 Q0,rfl,_,rfl⟩)
  rw[L]at h1;refine Yav (decide_eq_false Q0) h1 rfl rfl (X47 hm) ?_;rw[Ve5,Int.mul_ediv_cancel _ (by have:=Xrl m;omega)]
def LWaysF(F:Fn)(il:Nat):Prop:=∀(n m:Nat) (S:Sto),n<2^300->m<=13->F il Qk0 S=.ok QV2 S
theorem Xfy{T:List Df}{il:Nat}(h:T[il]?=yz Xcg)(k:Nat):LWaysF Qq1 il:=λn m S L hm=>by simp only[FT,h];exact Xwq L hm
theorem Xpd{l:LI}{i:Nat}:(Src.enm (.con Qp)).get S i=yz ((l[i]?).map λx=>D.tup [.int i,.int x]):=by simp only[Src.get,Vx];cases l[i]?<;>rfl
universe e
theorem Xfz:∀l w:LI,Vhn QC0 Qs4=decide Qt6
 |[],[]=>by simp[Vhn]|[],_::_=>by simp[Vhn]|_::_,[]=>by simp[Vhn]|x::l,y::w=>by
  have ih:=Xfz l w;simp only[Ur,Vhn,Ve4,ih];by_cases e:x=y;·subst e;simp
  ·simp[e]
theorem Xz6(L:Nat->Option Vdd):∀l:LI,datFs L Qp=yz QC0
 |[]=>by simp only[Ur,datFs]|x::l=>by simp only[Ur,datFs,X5,Xz6 L l]
theorem Xz7:∀l:LI,Vi5 QC0=yx
 |[]=>by simp only[Ur,Vi5]|x::l=>by simp only[Ur,Vi5,Vg5,Xz7 l,Vdm]
theorem Xz8:∀l:LI,Vcw QC0=0
 |[]=>by simp only[Ur,Vcw]|x::l=>by simp only[Ur,Vcw,Vbu,Xz8 l,Nat.max_self]
theorem X5b(l w:LI)(S:Sto):Xh .eq Qk2 Qc1 S=.ok Ql4 S:=by
 have hd:∀l:LI,Xas S Qk2=yz QZ7:=λl=>by simp only[Xas,Xa,X5,Xz6,V7]
 have h1:∀l:LI,QF5.canLay0=true:=λl=>by simp only[Vg5,Xz7]
 have h2:QF5.depth<=60:=by simp only[Vbu,Xz8];omega
 have h3:Ve4 QZ7 (.tuple Qs4)=decide Qt6:=by simp only[Ve4,Xfz]
 have hs:Xdw Qk2 Qc1=none:=rfl;have L:eqD S Qk2 Qc1=yz (decide Qt6):=by simp only[eqD,hs,hd,h1,h3,decide_eq_true h2,Vdm,if_true]
 simp only[Xh,X0,L]
theorem X5c(l w:LI)(S:Sto):Xh .ne Qk2 Qc1 S=.ok (.bl (!decide Qt6)) S:=by
 have h:=X5b l w S;simp only[Xh,X0]at h ⊢;cases e:eqD S Qk2 Qc1 with
 |none=>rw[e]at h;cases h|some b=>rw[e]at h;simp only[R.ok.injEq,D.bl.injEq,and_true]at h;subst h;rfl
section
variable{F:Fn}{G:LD}
noncomputable def Xm6(i1:Nat)(a b:Str):Df:=⟨2,2,.cons (.ite (.not (.call i1 (.cons Q4 (.cons QE (.cons QA9 .nil))))) (.cons (.rse 8 (.cst (.str a))) .nil) .nil) (.cons (.ite (.not (.call i1 (.cons Q5 (.cons Q2 (.cons (.glb 1) .nil))))) (.cons (.rse 8 (.cst (.str b))) .nil) .nil) .nil)⟩
variable{i1:Nat}{d e:D}{x y:Str}{g1 g2:Int}{S:Sto}
theorem X5d(h0:G[0]?=yz (.int g1))(h1:G[1]?=yz (.int g2))(h:F i1 [d,.int 0,.int g1] S=.ok QB1 S)(h':F i1 [e,.int 1,.int g2] S=.ok QB1 S):den F G (Xm6 i1 x y) [d,e] S=.ok .non S:=by simp only[den,Xm6,Uk,if_true,Ur,Vj,Vad,Vu];rw[Xb (e:=QE8) (S1:=S) (Xz (by simp only[ev,evs,gZ0,Rk0,h0,h,Xe];rfl))];rw[Xb (e:=QE8) (S1:=S) (Xz (by simp only[ev,evs,gZ0,gS0,Rk0,h1,h',Xe];rfl))];simp only[pe]
universe e
noncomputable def Xx(g:Nat->Nat->Nat):Nat->LI->Nat
 |_,[]=>0|0,_::_=>0|k+1,x::r=>g x.toNat QN+Xx g k r
structure Up(g:Nat->Nat->Nat):Prop where
 mono:∀ {m n:Nat} (k:Nat),m<=n->g m k<=g n k
 step:∀a k:Nat,g a Qn7+g a QN<=g QE6 Qn7
noncomputable def gU(a k:Nat):Nat:=C a QN
noncomputable def gL(a k:Nat):Nat:=C a QM9
noncomputable def gB(a k:Nat):Nat:=C QE6 QN
theorem Xwr(n k:Nat):C Ql7 QN=C n k+C n QN:=by simp only[C]
theorem Yfb:Up gU:=⟨λk h=>Y5 h,λa k=>by show C a (k+3)+C a Qn7<=C QE6 (k+3);rw[Xwr a Qn7];exact Nat.le_of_eq (Nat.add_comm _ _)⟩
theorem Yfc:Up gL:=⟨λk h=>Y5 h,λa k=>by
 simp only[gL];have e1:k+2-1=k+1:=by omega
 have L:k+1-1=k:=by omega
 rw[e1,L,Xwr a k];omega⟩
theorem Xba(h:wok QN pv Q63=yx):QW<=x/\(∀y,pv=yz y->x<y)/\wok k QI7 r=true:=by simp only[wok,bA0,decide_eq_true_eq]at h;refine⟨h.1.1,λy e=>?_,h.2⟩;subst e;simpa using h.1.2
theorem X12(u:Up g):∀ {k:Nat} {pv:Option Int} {x:Int} {r:LI},wok k pv Q63=yx->Xx g k Q63<=g Qr4 k
 |0,_,_,_,h=>by cases h|k+1,pv,x,r,h=>by
  obtain⟨h1,_,L⟩:=Xba h;cases r with
  |nil=>
   have:=u.mono QN (Vff x.toNat);have e:Xx g k []=0:=by cases k<;>rfl
   simp only[Xx,e];exact this|cons y r'=>
   cases k with
   |zero=>cases L|succ k=>have ih:=X12 u L;obtain⟨_,h4,_⟩:=Xba L;have h5:=h4 x rfl;have h6:=u.mono QN (show y.toNat+1<=x.toNat by omega);have h7:g x.toNat Qp7+g x.toNat QN<=g Qr4 Qp7:=u.step x.toNat k;simp only[Xx]at ih ⊢;omega
theorem Xws(u:Up g):∀ {k:Nat} {pv L:Option Int} {l l':LI},wok k pv l=yx->wok k L l'=yx->Ys k l<=Ys k l'->Xx g k l<=Xx g k l'
 |k,_,_,[],_,_,_,_=>by
  have e:Xx g k []=0:=by cases k<;>rfl
  rw[e];exact Ub _|0,_,_,_::_,_,h,_,_=>by cases h|k+1,pv,L,x::r,[],h,h',hl=>by exfalso;obtain⟨h1,_,_⟩:=Xba h;have:=Xjh (m:=x.toNat) (k:=k+1) Q0;have h2:=Xei k r;simp only[Ys]at hl;omega|k+1,pv,L,x::r,x'::r',h,h',hl=>by
  obtain⟨h1,_,h3⟩:=Xba h;obtain⟨ac,_,aa⟩:=Xba h';rcases Nat.lt_trichotomy x.toNat x'.toNat with c|c|c;·have q:=X12 u h;have q2:=u.mono QN (show x.toNat+1<=x'.toNat by omega);have q3:Xx g QN (x'::r')=g x'.toNat QN+Xx g k r':=rfl;omega
  ·have ab:Ys k r<=Ys k r':=by
    simp only[Ys,c]at hl;omega
   have ih:=Xws u h3 aa ab;simp only[Xx,c];omega
  exfalso;have q:=Xk5 QN L x' r' h';have q2:=Y5 (k:=k+1) (show x'.toNat+1<=x.toNat by omega);have q3:=Xei k r;simp only[Ys]at hl q;omega
theorem Wr.wok(h:Wr k n l):Q65<=k/\Z.wok k yy l=yx/\Ys k l=n:=Xm5 (pv:=yy) h λy e=>by cases e
theorem Xru(u:Up g)(h:Wr k n l)(h':Wr k n' l')(hn:n<=n'):Xx g k l<=Xx g k l':=by obtain⟨_,a2,a3⟩:=h.wok;obtain⟨_,L,b3⟩:=h'.wok;exact Xws u a2 L Q0
theorem Yaw(hs:1<=s)(hm:s<=m):Wr s (C m s) QG9:=by
 obtain⟨k,rfl⟩:∃k,s=k+1:=Qn5;have e:Ys k []=0:=by cases k<;>rfl
 have L:Z.wok k (yz (m:Int)) []=true:=by cases k<;>rfl
 refine Xtl (pv:=yy) Qu ?_ ?_;·simp only[Z.wok,L,Option.all_none,Bool.and_true,decide_eq_true_eq];omega
 ·simp only[Ys,e,Us,Int.add_zero]
theorem Xz9(g:Nat->Nat->Nat)(hs:1<=s)(m:Nat):Xx g s QG9=g m s:=by
 obtain⟨k,rfl⟩:∃k,s=k+1:=Qn5;have e:Xx g k []=0:=by cases k<;>rfl
 simp only[Xx,e,Us,Vbj]
theorem X13:∀ {k:Nat} {pv:Option Int} {x:Int} {r:LI},wok k pv Q63=yx->x=(k:Int)->Xx gU k Q63=0
 |0,_,_,_,h,_=>by cases h|k+1,pv,x,r,h,e=>by
  obtain⟨_,_,L⟩:=Xba h;have e1:gU x.toNat QN=0:=by subst e;simp only[gU,Us];exact Xbm _ _ Q0
  have e2:Xx gU k r=0:=by
   cases r with
   |nil=>cases k<;>rfl|cons y r'=>
    cases k with
    |zero=>cases L|succ k=>obtain⟨a1,a2,_⟩:=Xba L;have:=a2 x rfl;exact X13 L Q0
  simp only[Xx,e1,e2]
noncomputable def tr:Nat->LI->LI
 |_,[]=>[]|0,_::_=>[]|k+1,x::r=>if x=QW then [] else x::tr k r
theorem X14:∀ {k:Nat} {pv:Option Int} {l:LI},wok k pv l=yx->ll l<=k->Q45.length<=k+1/\wok QN pv Q45=yx/\Ys QN Q45=Xx gU k l/\(Xx gL QN Q45:Int)<=Ys k l
 |k,pv,[],_,_=>by
  have L:tr k []=[]:=by cases k<;>rfl
  have e2:Xx gU k []=0:=by cases k<;>rfl
  have e3:Ys k []=0:=by cases k<;>rfl
  rw[L,e2,e3];exact⟨Ub _,rfl,rfl,Vhg _⟩|0,_,_::_,h,_=>by cases h|k+1,pv,x::r,h,hl=>by
  have hh:=Xba h;by_cases e:x=QW;·have L:=X13 h e;have e2:=Xei QN Q63;simp only[tr,iP0 e];rw[L];refine⟨Ub _,rfl,rfl,?_⟩;have:Xx gL Qn7 []=0:=rfl;rw[this];exact e2
  ·obtain⟨h1,h2,h3⟩:=hh;obtain⟨i1,i2,i3,i4⟩:=X14 h3 (by simp only[Ux]at hl;omega);simp only[tr,iN0 e];refine⟨by simp only[Ux];omega,?_,?_,?_⟩
   ·simp only[wok,i2,Bool.and_true,bA0,decide_eq_true_eq];refine Q46;cases pv with
    |none=>rfl|some y=>simpa using h2 y rfl
   ·simp only[Ys,Xx,i3,gU];omega
   have e9:k+1+1-1=k+1:=by omega
   simp only[Ys,Xx,gL,e9]at i4 ⊢;omega
theorem Yax(h:Wr k n l)(hw:Wr QN (Xx gU k l) w):Xx gL QN w<=n:=by obtain⟨a1,a2,a3⟩:=h.wok;obtain⟨b1,b2,b3,L⟩:=X14 a2 a1;have e:tr k l=w:=(Yat hw).mp ⟨b1,b2,b3⟩;rw[e]at L;omega
section
variable{F:Fn}{G:LD}
noncomputable def Xg8(iw:Nat):Df:=⟨2,2,.cons (.ret (.cmr yw 3 (.cons QU4 Qi2 .nil .nil) (.tup Qz1))) .nil⟩
noncomputable def Xae(w:LI)(s:Int)(i:Nat):D:=.tup [.int QP,.int Qq6]
theorem X5e(x y:D)(S:Sto):(if [x,y].length<=big then R.ok Q77 S else R.bad)=R.ok Q77 S:=iP0 (by show 2<=big;decide)
theorem Xto(h:F iw Q20 S=.ok Qc1 S1)(hl:QN8<=12):
  den F G (Xg8 iw) Q20 S=.ok Qq0 QQ4:=by
 have L:evit F G Qi2 QE4 S=.ok (.enm (.con QA)) S1:=by simp only[evit,evs,ev,gZ0,gS0,Rk0,h,Xa,Yq]
 obtain⟨e',S',a,b⟩:=Xdd (n:=3) (elt:=.tup Qz1) (t:=.tup [3,4]) (QK.map λ(i:Nat)=>D.tup Qe4) (Xae w s) (λi e S=>S=S1/\∃p q r,e=QT5) L
  (by simp[Src.most]) QT1 Q52
  (λi e S hP=>by
   rw[Xpd];congr 1;simp only[Vx,List.getElem?_range'];by_cases q:i<ll w;·simp[q,List.getD]
   ·simp[q])
  (λi d e S hd hP=>by
   obtain⟨rfl,p,q,r,rfl⟩:=hP;have hi:i<ll w:=by have:=Qe1.1;simpa using this
   have aa:d=D.tup Qe4:=by simp only[Vx,Vai hi,V7,Vr]at hd;exact hd.symm
   subst aa;refine⟨[yz Q1,yz QC,p,yz QT,yz QN6],S,rfl,?_,rfl,p,_,_,rfl⟩;simp only[ev,evs,gZ0,gS0,Rk0,X7,X5e,Xae])
 obtain⟨rfl,_⟩:=b;simp only[den,Xg8,Uk,if_true,Ur,Vj,Vad,Vu];simp only[Vg,Ut]at a;rw[Xg (d:=.ref QC6) (S1:=S'++QO1) (by simp only[exe,a,Rk0])]
noncomputable def Xe1(L:Nat)(elt:Ex):Df:=⟨2,2,.cons (.ret (.blt .smB (.cons (.cmr yw 3 (.cons QU4 (.val (.call L Qx0)) .nil .nil) elt) .nil))) .nil⟩
theorem Xk7{q:Nat}{l:LI}(h:Xc S q=yz Qp):Xm .smB Qj9 S=.ok (.int l.sum) S:=by
 have:∀l:LI,Xi Qp=yz l:=λl=>by
  induction l with
  |nil=>rfl|cons x r ih=>simp only[Ur,Xi,ih,V7]
 simp only[Xm,Xp,h,V1,this]
theorem Xe2(g:Nat->Nat->Nat):∀(s:Nat) (w:LI),ll w<=s->((QK.map λi=>QD).sum)=(Xx g s w:Nat)
 |s,[]=>λ_=>by
  have e:Xx g s []=0:=by cases s<;>rfl
  rw[e];rfl|0,_::_=>λh=>by simp at h|s+1,x::r=>λh=>by
  have ih:=Xe2 g s r (by simp only[Ux]at h;omega);rw[Ux,Vc1,Ua,List.sum_cons,Vae];simp only[Xx];have e:Q17.map ((λi=>((g (Q63.getD i 0).toNat (s+1-i):Nat):Int))∘Nat.succ)=Q17.map λi=>((g (r.getD i 0).toNat Qq6:Nat):Int):=by
   refine Vgg λi _=>?_;simp only[Vgb,List.getD_cons_succ];have:s+1-i.succ=s-i:=by omega
   rw[this]
  rw[e,ih];simp only[List.getD_cons_zero,Via];omega
theorem X0a{ip:Nat}{g:Nat->Nat->Nat}{n s:Nat}{w:LI}(h:F ip Q20 S=.ok Qq0 QQ4)(hl:QN8<=s)(hs:s<=12)
  (he:∀(x c:Nat) (a b d:Option D) (S:Sto),(x:Int)∈w->1<=c->c<=s->ev F G elt QS1 S=.ok (.int (g x c:Nat)) S) (hw:∀x∈w,0<=x):
  ∃X,den F G (Xe1 ip elt) Q20 S=.ok QY4 Qd9:=by
 have aa:evit F G (.val (.call ip Qx0)) QE4 S=.ok Qq0 QQ4:=by simp only[evit,evs,ev,gZ0,gS0,Rk0,h,Yq,Xf,V7]
 obtain⟨e',S',a,b⟩:=Xdd (n:=3) (elt:=elt) (t:=.tup [3,4]) Q6 QU6 (λi e S=>S=S1++QO1/\∃p q r,e=QT5) aa
  (by simp only[Src.most,Xf,Vcn]) QT1 Q52
  (λi e S L=>by obtain⟨rfl,_⟩:=L;simp only[Src.get,Xf,V7])
  (λi d e S hd L=>by
   obtain⟨rfl,p,q,r,rfl⟩:=L;have hi:i<ll w:=by have:=Qe1.1;simpa using this
   have ab:d=Xae w s i:=by simp only[Vx,Vai hi,V7,Vr]at hd;exact hd.symm
   subst ab;refine⟨[yz Q1,yz QC,p,yz QN6,yz (.int ((s:Int)-i))],_,rfl,?_,rfl,p,_,_,rfl⟩;have hm:w.getD i 0∈w:=by
    have:w.getD i 0=w[i]:=by simp[List.getD,hi]
    rw[this];exact Vc4 hi
   have hx:=hw _ hm;have e1:QU7=w.getD i 0:=by omega
   have e2:(s:Int)-i=((s-i:Nat):Int):=by omega
   have q1:=he QP.toNat Qq6 (yz Q1) (yz QC) p QQ4 Q95 Q0 Q0
   rw[e1]at q1;rw[e2];exact q1)
 obtain⟨rfl,_⟩:=b;refine⟨QO1++Qg0,?_⟩;simp only[den,Xe1,Uk,if_true,Ur,Vj,Vad,Vu];rw[<-Vq];have q:=Xk7 (S:=S1++QO1++Qg0) (q:=(S1++[O.lst Q6]).length) (l:=QK.map λi=>QD) Qz3;rw[Xe2 g s w hl]at q;rw[Xg (d:=.int (Xx g s w:Nat)) (S1:=S1++QO1++Qg0) (by rw[exe,ev,evs,a,Rk0,evs,Rk0,Rk0,q,Rk0])]
theorem Ydw{iw:Nat}(L:Yl F iw){x c:Nat}{a b d:Option D}(hx:x<=10000000000000)(hc:c<=12):ev F G (.call iw (.cons Q9 (.cons (.bin .add QQ Q2) .nil))) QS1 S=.ok (.int (gU x c:Nat)) S:=by
 have e:(c:Int)+1=((c+1:Nat):Int):=by omega
 simp only[ev,evs,gZ0,gS0,Rk0,Xy,e,L x (c+1) S hx Q0,gU]
theorem Ydx{iw:Nat}(hw:Yl F iw){x c:Nat}{a b d:Option D}(hx:x<=10000000000000)(L:1<=c)(hc:c<=12):ev F G (.call iw (.cons Q9 (.cons Qi5 .nil))) QS1 S=.ok (.int (gL x c:Nat)) S:=by
 have e:(c:Int)-1=(Qu4:Int):=by omega
 simp only[ev,evs,gZ0,gS0,Rk0,X7,e,hw x QQ9 S hx Q0,gL]
theorem LWaysF.ways(h:LWaysF F il):Yl F il:=λn m S L hm=>h n m S (Vcl L QJ) hm
noncomputable def lrT:Ex:=.cmp .gt (.bin .sub QL3 QA0) Q2
noncomputable def lrB(iw:Nat):Sts:=.cons (.asg Q87 (.bin .fdiv Q05 QL1)) (.cons (.ite Qj1 (.cons (.asg QA0 Q87) .nil) (.cons (.asg QL3 Q87) .nil)) .nil)
noncomputable def Xcm(F:Fn)(G:LD)(c:Ex):En->Sto->R Bool:=λenv S=>(ev F G c env S).bind λx S=>match Xe S x with
 |some r=>.ok r S|none=>.bad
theorem Xwt:Xcm F G lrT [a0,a1,a2,a3,a4,yz Qy,yz Qw,x] S=.ok (decide QY8) S:=by unfold Xcm;simp only[lrT,ev,gZ0,gS0,Rk0,X7,Xh,X0,Xe]
theorem X5f{iw:Nat}(hw:Yl F iw){a0 a1 a2 x:Option D}{n k lw hi:Nat}(hk:k<=12)(h:Qd/2<=10000000000000):
  pe F G Q55 Qs0 S=.ok (.nx (if C Qp3 k<=n then [a0,a1,a2,yz Q1,yz Q7,yz QM,yz Qw,yz QM] else [a0,a1,a2,yz Q1,yz Q7,yz Qy,yz QM,yz QM])) S:=by
 have e:QF7/2=QR:=by omega
 have s1:=Xs (i:=7) (F:=F) (G:=G) (e:=.bin .fdiv Q05 QL1) (env:=Qs0) (S:=S) (d:=.int QR) (S':=S) Q12;generalize Qd/2=m at s1 h;have hc:=hw m k S h Q0;have L:ev F G Qj1 [a0,a1,a2,yz Q1,yz Q7,yz Qy,yz Qw,yz QG] S=.ok QN5 S:=by simp only[ev,evs,gZ0,gS0,Rk0,hc,Xh,X0]
 unfold lrB;rw[Xb s1];by_cases q:C m k<=n;·have hd:decide Qr0=true:=decide_eq_true Q0;rw[hd]at L;rw[iP0 q];rw[Xb (e:=[a0,a1,a2,yz Q1,yz Q7,yz QG,yz Qw,yz QG]) (S1:=S) Qr];rw[pe]
 ·have hd:decide Qr0=false:=decide_eq_false Q0;rw[hd]at L;rw[iN0 q];rw[Xb (e:=[a0,a1,a2,yz Q1,yz Q7,yz Qy,yz QG,yz QG]) (S1:=S) Qr];rw[pe]
theorem Xk8{iw:Nat}(hw:Yl F iw){a0 a1 a2:Option D}{n k:Nat}(hk:k<=12):∀(j L lw hi:Nat) (x:Option D),hi-lw<=2^j->j<L->lw<hi->k<=lw->hi<=5000000000000->C lw k<=n->n<C hi k ->
  ∃m h x',Yo (Xcm F G lrT) (λenv S=>pe F G Q55 env S) L Qs0 S=.ok QK1 S/\Most n k m
 |j,0=>λlw hi x h1 h2 h3 h4 h5 h6 h7=>by omega|j,L+1=>λlw hi x h1 h2 h3 h4 h5 h6 h7=>by
  by_cases q:hi=lw+1;·subst q;have ht:=Xwt (F:=F) (G:=G) (a0:=a0) (a1:=a1) (a2:=a2) (a3:=yz Q1) (a4:=yz Q7) (lw:=lw) (hi:=Qq8) (x:=x) (S:=S);have hd:decide QI3=false:=decide_eq_false Q0;rw[hd]at ht;refine Qu1;simp only[Yo,ht]
  ·have ht:=Xwt (F:=F) (G:=G) (a0:=a0) (a1:=a1) (a2:=a2) (a3:=yz Q1) (a4:=yz Q7) (lw:=lw) (hi:=hi) (x:=x) (S:=S);have hd:decide Qd4=true:=decide_eq_true Q0;rw[hd]at ht;have hb:=X5f (G:=G) hw (a0:=a0) (a1:=a1) (a2:=a2) (n:=n) (k:=k) (lw:=lw) (hi:=hi) (x:=x) (S:=S) hk Q0;obtain⟨j,rfl⟩:∃i,j=i+1:=by
    cases j with
    |zero=>simp at h1;omega|succ j=>exact Qv0
   rw[Nat.pow_succ]at h1;by_cases c:C Qp3 k<=n;·rw[iP0 c]at hb;obtain⟨m,h,x',r1,r2⟩:=Xk8 hw hk j L Qp3 hi Q86 Q0 Q0 Q0 Q0 h5 c h7;exact Qn
   ·rw[iN0 c]at hb;obtain⟨m,h,x',r1,r2⟩:=Xk8 hw hk j L lw Qp3 Q86 Q0 Q0 Q0 h4 Q0 h6 Q0;exact Qn
theorem X0b{iw:Nat}(hw:Yl F iw){a0 a1 a2 x:Option D}{n k:Nat}(ab:1<=k)(hk:k<=12)(L:1<=n)(hn:n<=1000000000000):
  ∃m h x',exe F G Qz4 [a0,a1,a2,yz Q1,yz Q7,yz Q7,yz (.int Qu6),x] S=.ok QK1 S/\Most n k m:=by
 have aa:n<C QO8 k:=by obtain⟨k',rfl⟩:∃k',k=k'+1:=Qz0;have:=Xig k' n;omega
 obtain⟨m,h,x',r1,r2⟩:=Xk8 (G:=G) hw (a0:=a0) (a1:=a1) (a2:=a2) (n:=n) (k:=k) (S:=S) hk 41 100000 k QO8 x (by have ac:(2:Nat)^41=2199023255552:=QJ;omega) Q0 Q0 QD5 Q0 QA5 aa;exact⟨m,h,x',by rw[exe];exact r1,r2⟩
noncomputable def lrO:Ex:=.cmp .gt Q9 QE
noncomputable def lrW(iw:Nat):Sts:=.cons QG2 (.cons Q91 (.cons Qz4 (.cons Qj (.cons QY3 .nil))))
noncomputable def Xjl(iw:Nat):Df:=⟨2,8,.cons Qt0 Qi1⟩
theorem X5g:Xcm F G lrO [a0,a1,a2,yz Qv,a4,a5,a6,a7] S=.ok (decide (0<r)) S:=by unfold Xcm;simp only[lrO,ev,gZ0,gS0,Rk0,Xh,X0,Xe]
theorem X5h(h:Xc S q=yz xs):Xm .len Qj9 S=.ok (.int Qe) S:=by simp only[Xm,Xp,h]
theorem X5i{iw:Nat}(hw:Yl F iw){a0 a4 a5 a6 a7:Option D}{r k q s:Nat}{acc:LD}(aa:1<=k)(hk:k<=12)(af:1<=r)(hr:r<=1000000000000)(hq:Xc S q=yz acc)(hs:s=k+ll acc)(hl:Qr8<100):
  ∃m h L,Most r k m/\pe F G Qs6 Qq2 S=.ok QE1 QB:=by
 have s1:exe F G QG2 Qq2 S=.ok (.nx QZ2) S:=Xs (by
  have e:(s:Int)-(ll acc:Int)=(k:Int):=by omega
  simp only[ev,evs,gZ0,gS0,Rk0,X5h hq,X7,e])
 have s2:exe F G Q91 QZ2 S=.ok (.nx [a0,yz QC,yz QF,yz Qv,yz Q7,yz Q7,yz (.int QN9),a7]) S:=by
  have e:(k:Int)+(r:Int)=(QN9:Int):=by omega
  rw[exe];simp only[evs,ev,gZ0,gS0,Rk0,Xy,e];rfl
 obtain⟨m,h,L,s3,h2⟩:=X0b (F:=F) (G:=G) hw (a0:=a0) (a1:=yz QC) (a2:=yz QF) (x:=a7) (n:=r) (k:=k) (S:=S) aa hk af hr;refine⟨m,h,L,h2,?_⟩;have ab:m<=10000000000000:=by obtain⟨a1,a2,a3⟩:=h2;obtain⟨k',rfl⟩:∃k',k=k'+1:=Qz0;obtain⟨j,rfl⟩:∃j,m=k'+1+j:=⟨m-(k'+1),by omega⟩;have:=Xig k' j;omega
 have ac:=Xg4 (x:=.int m) hq Q0;have ae:Xah .append QF S=true:=by simp only[Xah,hq,Vby]
 have s4:exe F G Qj Qm0 S=.ok (.nx Qm0) QB:=by simp only[exe,ev,evs,gZ0,gS0,Rk0,ae,if_true,ac]
 have ah:=hw m k QB ab Q0
 have s5:exe F G QY3 Qm0 QB=.ok QE1 QB:=Xs (by
  have e:(r:Int)-(C m k:Int)=QZ0:=by have:=h2.2.1;omega
  simp only[ev,evs,gZ0,gS0,Rk0,ah,X7,e])
 unfold lrW;exact QV3.trans (QH6.trans (QY9.trans ((Xb s4).trans ((Xb s5).trans Qr5))))
theorem Xpe(hw:Yl F iw)(hs:s<=12):∀(k L r:Nat) (x4 x5 x6 x7:Option D) (S:Sto) (acc:LD),s=k+ll acc->k<L->r<=1000000000000->Xc S q=yz acc->Q48 ->
  ∃w e,Yo (Xcm F G lrO) (λenv S=>pe F G Qs6 env S) L [a0,yz QC,yz QF,yz Qv,x4,x5,x6,x7] S=.ok Q44 Qe2/\Wr k r w/\e[2]?=yz Qi7
 |k,0=>λr x4 x5 x6 x7 S acc h1 h2 h3 h4 h6=>by omega|k,L+1=>λr x4 x5 x6 x7 S acc h1 h2 h3 h4 h6=>by
  have ht:=X5g (F:=F) (G:=G) (a0:=a0) (a1:=yz QC) (a2:=yz QF) (a4:=x4) (a5:=x5) (a6:=x6) (a7:=x7) (r:=r) (S:=S);by_cases hr:r=0
  ·subst hr;have hd:decide ((0:Int)<Q01)=false:=by decide
   rw[hd]at ht;refine⟨[],[a0,yz QC,yz QF,yz Qe5,x4,x5,x6,x7],?_,?_,rfl⟩
   ·have e:S.set q Q11=S:=by
     obtain⟨ab,hv⟩:=Vd.mp Q07;rw[Vbq,Vu,<-hv];exact Vfx ab
    rw[e];simp only[Yo,ht]
   cases k with
   |zero=>exact Qy0|succ k=>exact .inl Qy0
  obtain⟨k,rfl⟩:∃k',k=k'+1:=⟨k-1,by
   cases k with
   |zero=>exact aB0 (h6 rfl) hr
   |succ k=>omega⟩
  have hd:decide ((0:Int)<(r:Int))=true:=decide_eq_true Q0;rw[hd]at ht;obtain⟨m,h,x',m1,m2⟩:=X5i (G:=G) hw (a0:=a0) (a4:=x4) (a5:=x5) (a6:=x6) (a7:=x7) (r:=r) (k:=k+1) (q:=q) (s:=s) (S:=S) (acc:=acc) Q0 Q0 Q0 h3 h4 h1 Q0;have aa:k=0->r-C m QN=0:=λz=>by subst z;obtain⟨a1,a2,a3⟩:=m1;rw[Va4,Xg6]at a2 ⊢;rw[Va4,Xg6]at a3;omega
  obtain⟨w,e,r1,r2,r3⟩:=Xpe hw hs k L Q18 Qn8 QH9 h x' QB QU Qg3 Q0 Q0 QZ6 aa;refine Q61;rw[List.set_set,Vq]at r1;simp only[Yo,ht,m2];exact r1
theorem Xwu{iw n s:Nat}(hw:Yl F iw)(aa:1<=s)(hs:s<=12)(hn:n<=1000000000000):∃w,den F G (Xjl iw) Q20 S=.ok Qc1 Qq/\Wr s n w:=by
 obtain⟨w,e,L,r2,r3⟩:=Xpe (F:=F) (G:=G) hw (a0:=yz Q1) (s:=s) (q:=ll S) hs s 100000 n yy yy yy yy Qp0 [] Qu Q0 hn Xf (λz=>by omega);have e2:QJ6.set QT2 Qu3=S++QF9:=by rw[Vfr _ _ QD5,Vad,Uw];rfl
 rw[e2]at L;refine⟨w,?_,r2⟩;have nb:ev F G Qw7 QD3 S=.ok Qa Qp0:=by simp only[ev,evs,Rk0];exact iP0 QJ
 have s1:exe F G Qt0 QD3 S=.ok (.nx QY2) Qp0:=by rw[exe,evs,nb,Rk0];simp only[evs,ev,gZ0,Rk0];rfl
 have s2:exe F G (.whl lrO Qs6) QY2 Qp0=.ok Q44 Qq:=by rw[exe];exact L
 have s3:exe F G QN0 e Qq=.ok QW4 Qq:=by simp only[exe,ev,evs,r3,Rk0,Xm,Xp,Xf,Xa]
 simp only[den,Xjl,Uk,if_true,Ur,Vj];have q:pe F G (.cons Qt0 Qi1) (QE4++[yy,yy,yy,yy,yy,yy]) S=.ok QW4 Qq:=
  QV3.trans (QH6.trans (Xg s3))
 rw[q]
noncomputable def Xdq(w:LI)(i:Nat):D:=.tup [.int i,.int QP]
theorem Xjm:∀(w:LI) (n:Nat),Ym n QA=QK.map λi=>D.tup [.int (n+i:Nat),.int QP]
 |[]=>λn=>rfl|x::r=>λn=>by
  rw[Ua,Ym,Xjm r Ql7,Ux,Vc1,Ua,Vae];simp only[Vbj,List.getD_cons_zero];congr 1;refine Vgg λi _=>?_;simp only[Vgb,List.getD_cons_succ];have:n+1+i=n+i.succ:=by omega
  rw[this]
theorem Xwv(w:LI):Ym 0 QA=QK.map QX9:=by rw[Xjm];refine Vgg λi _=>?_;rw[Va4];rfl
theorem Xrv(L:Xc S q=yz QF6)(hl:QN8<=s)(hs:s<=12)
  (he:∀(x i:Nat) (p:Option D),(x:Int)∈w->i<s->ev F G elt [a0,a1,a2,yz QF,p,yz QT,yz Q54] S=.ok (.int (g x Qq6:Nat)) S) (hw:∀x∈w,0<=x):
  ∃X,ev F G (.blt .smB (.cons (.cmr yw 3 Q42 elt) .nil)) QS6 S=.ok QY4 Q60:=by
 rw[Xwv]at L;have aa:evit F G (.val Q9) QS6 S=.ok QF S:=by simp only[evit,ev,gZ0,gS0,Rk0,Yq,L,V7]
 obtain⟨e',S',a,b⟩:=Xdd (n:=3) (elt:=elt) (t:=.tup [5,6]) (QK.map QX9) QU6 (λi e S'=>S'=S/\∃p x y,e=[a0,a1,a2,yz QF,p,x,y]) aa
  (by simp only[Src.most,L,Vcn]) QT1 Q52
  (λi e S hP=>by obtain⟨rfl,_⟩:=hP;simp only[Src.get,L,V7])
  (λi d e S hd hP=>by
   obtain⟨rfl,p,x,y,rfl⟩:=hP;have hi:i<ll w:=by have:=Qe1.1;simpa using this
   have ab:d=Xdq w i:=by simp only[Vx,Vai hi,V7,Vr]at hd;exact hd.symm
   subst ab;refine⟨[a0,a1,a2,yz QF,p,yz QT,yz QN6],S,rfl,?_,rfl,p,_,_,rfl⟩;have hm:w.getD i 0∈w:=by
    have:w.getD i 0=w[i]:=by simp[List.getD,hi]
    rw[this];exact Vc4 hi
   have hx:=hw _ hm;have e1:QU7=w.getD i 0:=by omega
   have q1:=he QP.toNat i p Q95 Q0
   rw[e1]at q1;exact q1)
 obtain⟨rfl,_⟩:=b;refine⟨QA1,?_⟩;have qs:=Xk7 (S:=S'++QA1) (q:=ll S') (l:=QK.map λi=>QD) Qz3;rw[Xe2 g s w hl]at qs;rw[ev,evs,a,Rk0,evs,Rk0,Rk0,qs]
noncomputable def Xk9(il:Nat):Ex:=.call il (.cons QL3 (.cons (.bin .sub QO5 Q2) .nil))
noncomputable def Xih(il:Nat):Ex:=.call il (.cons (.bin .add QL3 (.blt .itB (.cons (.cmp .eq Q4 QL1) .nil))) (.cons (.bin .add QO5 Q2) .nil))
noncomputable def nxS(e:Ex):Ex:=.blt .smB (.cons (.cmr yw 3 Q42 e) .nil)
noncomputable def Xjn(il iw:Nat):Df:=⟨3,4,.cons QL0 Qg⟩
noncomputable def gK(kd:Nat):Nat->Nat->Nat:=if kd=1 then gL else if kd=2 then gB else gU
theorem Yay{il kd:Nat}(hw:Yl F il)(hk:kd=0\/kd=2){a1 p a3:Option D}{x i s:Nat}(hx:x<=9000000000000)(hi:i<s)(hs:s<=12):
  ev F G (Xih il) [yz QY0,a1,yz QC,a3,p,yz QT,yz Q54] S=.ok (.int (gK kd x Qq6:Nat)) S:=by
 have e1:(s:Int)-(i:Int)+1=((s-i+1:Nat):Int):=by omega
 rcases hk with rfl|rfl
 ·have e2:(x:Int)+0=((x:Nat):Int):=by omega
  have L:(Q01==2)=false:=by decide
  simp only[Xih,ev,evs,gZ0,gS0,Rk0,Xde,L,Xm,i2,Uo,if_false,Xy,X7,e1,e2,hw x QJ9 S Q0 Q0];rfl
 ·have e2:(x:Int)+1=((x+1:Nat):Int):=by omega
  have L:(((2:Nat):Int)==2)=true:=by decide
  simp only[Xih,ev,evs,gZ0,gS0,Rk0,Xde,L,Xm,i2,if_true,Xy,X7,e1,e2,hw QK8 QJ9 S Q0 Q0];rfl
theorem Yaz{il:Nat}(L:Yl F il){a0 a1 p a3:Option D}{x i s:Nat}(hx:x<=9000000000000)(hi:i<s)(hs:s<=12):
  ev F G (Xk9 il) [a0,a1,yz QC,a3,p,yz QT,yz Q54] S=.ok (.int (gK 1 x Qq6:Nat)) S:=by
 have e1:(s:Int)-(i:Int)-1=((s-i-1:Nat):Int):=by omega
 simp only[Xk9,ev,evs,gZ0,gS0,Rk0,X7,e1,L x (s-i-1) S Q0 Q0];rfl
theorem X5j(h:F iw Q20 S=.ok Qc1 S1):ev F G (.lenm (.call iw (.cons Q5 Qi))) [yz a0,yz Q1,yz QC,a3] S=.ok Qq0 QK3:=by simp only[ev,evs,gZ0,gS0,Rk0,h,Xa,Xp]
theorem X0c{il iw kd n s:Nat}{w:LI}(hw:Yl F il)(h:F iw Q20 S=.ok Qc1 S1)(L:Wr s n w)(hn:n<=1000000000000)(hk:kd<=2)(hs:s<=12):
  ∃X,den F G (Xjn il iw) QG4 S=.ok Q64 Qd9:=by
 have hl:=Xwl L;have hb:=Xtm L;have hx:∀x:Nat,(x:Int)∈w->x<=9000000000000:=λx hx=>by have:=(hb _ hx).2;omega
 have s1:exe F G QL0 [yz QY0,yz Q1,yz QC,yy] S=.ok (.nx Qe3) QK3:=Xs (X5j h);have hq:Xc (S1++[O.lst QF6]) QB6=yz QF6:=Xf;by_cases c:kd=1
 ·subst c;obtain⟨X,e⟩:=Xrv (F:=F) (G:=G) (elt:=Xk9 il) (g:=gK 1) (a0:=yz QR2) (a1:=yz Q1) (a2:=yz QC) hq hl hs (λx i p hm hi=>Yaz hw QQ8 hi hs) λx hx=>QR8.1;have ht:ev F G Q06 [yz QR2,yz Q1,yz QC,yz Qq0] QK3=.ok QB1 QK3:=by
   simp only[ev,gZ0,Rk0,Xde];rfl
  refine QG7;simp only[den,Xjn,Uk,if_true,Ur,Vj];have q:pe F G Qg6 ([yz QR2,yz Q1,yz QC]++[yy]) S=.ok (.rt (.int (Xx (gK 1) s w:Nat))) Qt7:=
   QV3.trans (Xg (by rw[exe,ht,Rk0];simp only[Xe,pe,exe,nxS];rw[e];rfl))
  rw[q,Vq]
 ·have c2:kd=0\/kd=2:=by omega
  obtain⟨X,e⟩:=Xrv (F:=F) (G:=G) (elt:=Xih il) (g:=gK kd) (a0:=yz QY0) (a1:=yz Q1) (a2:=yz QC) hq hl hs (λx i p hm hi=>Yay hw c2 QQ8 hi hs) λx hx=>QR8.1;have aa:((kd:Int)==1)=false:=by
   have:(kd:Int)≠1:=by omega
   simpa using this
  have ht:ev F G Q06 Qe3 QK3=.ok Qn2 QK3:=by simp only[ev,gZ0,Rk0,Xde,aa]
  refine QG7;simp only[den,Xjn,Uk,if_true,Ur,Vj];have q:pe F G Qg6 ([yz QY0,yz Q1,yz QC]++[yy]) S=.ok (.rt Q64) Qt7:=
   QV3.trans ((Xb (Xz ht)).trans (Xg (by rw[exe];unfold nxS;rw[e];rfl)))
  rw[q,Vq]
universe e
noncomputable def wri(s n:Nat):LI:=open Classical in if h:∃w,Wr s n w then h.choose else []
theorem Ya0(h:Wr s n w):wri s n=w:=by have hx:∃w,Wr s n w:=⟨w,h⟩;unfold wri;rw[dif_pos hx];exact hx.choose_spec.uniq h
noncomputable def abv(g:Nat->Nat->Nat)(s n:Nat):Nat:=Xx g s (wri s n)
theorem Xch(g:Nat->Nat->Nat)(h:Wr s n w):Xx g s w=abv g s n:=by unfold abv;rw[Ya0 h]
noncomputable def X6(g:Nat->Nat->Nat)(row:LI)(p:Nat):Bool:=match p with
 |0=>!(row.getD 0 0==1)|p+1=>decide Qh4||(decide Qs2||(decide Qt3&&decide Qd0))
noncomputable def Yd(g:Nat->Nat->Nat)(row:LI):D:=match QB2.find? Qb5 with
 |some p=>.int p|none=>.non
theorem Xii(hp:p<ll row)(h:X6 g row p=yx)(L:∀j<p,X6 g row j=yw):Yd g row=.int p:=by
 have:QB2.find? Qb5=yz p:=by rw[List.find?_eq_some_iff_getElem];refine⟨h,p,by simpa using hp,by simp,λj hj=>?_⟩;simp[L j hj]
 unfold Yd;rw[this]
theorem Xpf(L:∀j<ll row,X6 g row j=yw):Yd g row=.non:=by
 have:QB2.find? Qb5=none:=by rw[List.find?_eq_none];intro j hj;rw[L j Qa5];simp
 unfold Yd;rw[this]
theorem Xpg(h:X6 g row p=yw):0<=row.getD p 0/\row.getD p 0<=1000000000000:=by
 cases p with
 |zero=>simp only[X6,Bool.not_eq_false',beq_iff_eq]at h;omega|succ p=>simp only[X6,Vf6,decide_eq_false_iff_not]at h;omega
section
variable{F:Fn}{G:LD}
theorem Xd2{get:Sto->Nat->Option Qq3}{body:En->Sto->R Fl}{xs:LD}(bad:Nat->Bool)(val:Nat->D)(P:En->Sto->Prop)(Q:Sto->Prop)
  (aa:∀i S,get S i=yz xs[i]?)
  (step:∀i d e S,xs[i]?=yz d->QV5->P e S->∃e1,Xn t d e=yz e1/\((bad i=yx/\∃S',body e1 S=.ok (.rt (val i)) S'/\Q S')\/(bad i=yw/\∃e2 S',body e1 S=.ok QI5 S'/\P e2 S'))):
  ∀(L i:Nat) (e:En) (S:Sto),ll xs<L+i->i<=ll xs->QV5->P e S ->
   (∃p S',p<ll xs/\bad p=yx/\(∀j<p,bad j=yw)/\X4 get t body L i e S=.ok (.rt (val p)) S'/\Q S')\/((∀j<ll xs,bad j=yw)/\∃e' S',X4 get t body L i e S=.ok QJ5 S'/\P e' S')
 |0=>λi e S h1 h2 h3 h4=>by omega+splitNatSub|L+1=>λi e S h1 h2 h3 h4=>by
  cases q:xs[i]? with
  |none=>
   have hi:i=ll xs:=by have:=U4.mp q;omega+splitNatSub
   right;refine⟨by rw[<-hi];exact h3,e,S,?_,h4⟩;simp only[X4,aa,q]|some d=>
   have hi:i<ll xs:=QO4.1;obtain⟨e1,a1,a2⟩:=step i d e S q h3 h4;rcases a2 with⟨b1,S',b2,b3⟩|⟨b1,e2,S',b2,b3⟩;·left;refine⟨i,S',hi,b1,h3,?_,b3⟩;simp only[X4,aa,q,a1,b2]
   ·have ab:∀j<i+1,bad j=false:=λj hj=>by
     by_cases z:j=i;·rw[z];exact b1
     ·exact h3 j Qc
    have ih:=Xd2 bad val P Q aa step L Q40 e2 S' Qc hi ab b3;simp only[X4,aa,q,a1,b2];exact ih
def Xf0(F:Fn)(f:Nat)(g:Nat->Nat->Nat)(m:Nat):Prop:=∀(n s:Nat) (S:Sto),n<=1000000000000->1<=s->s<=m->∃X,F f Q20 S=.ok (.int (abv g s n:Nat)) Q60
def Xg9(F:Fn)(f kd:Nat):Prop:=∀(n s:Nat) (S:Sto),n<=1000000000000->1<=s->s<=11->∃X,F f QG4 S=.ok (.int (abv Qd2 s n:Nat)) Q60
theorem Xbr{row:LI}{p:Nat}(h:p<ll row)(S:Sto):Y8 QY QA7 S=.ok Qe8 S:=by
 have e:ixN QG1.length (p:Int)=yz p:=by unfold ixN;rw[iP0 Q0,iP0 (by rw[Vg];omega)];simp
 have L:QG1[p]?=yz Qe8:=by rw[Vx,Ug h];simp[List.getD,h]
 simp only[Y8,Xap,Xa,Xp,V1,e,L]
noncomputable def Xtp:Ex:=.not (.chn .le .le QE Qb7 QA9)
noncomputable def Xtq:Ex:=.and Qz5 (.cmp .gt Qb7 (.cal Q5 Qu0))
noncomputable def fbR:Sts:=.cons QX3 .nil
noncomputable def fbB:Sts:=.cons (.ite Xtp fbR .nil) (.cons (.ite Xtq fbR .nil) .nil)
noncomputable def dFirst:Df:=⟨2,3,.cons (.ite Qh5 Q02 .nil) (.cons Qg5 Q33)⟩
theorem Xjo(h2:env[2]?=yz QJ7)(h:ev F G c env S=.ok QB1 S'):exe F G (.ite c fbR .nil) env S=.ok QD2 S':=by rw[exe,h,Rk0];simp only[Xe,fbR,pe,exe,ev,h2,Rk0]
theorem Ydy{row:LI}{fn:Option D}{p:Nat}(hp:p<ll row)(hg:G[0]?=yz QQ2):
  ev F G Xtp [yz QY,fn,yz QA7] S=.ok (.bl (decide QG3||decide (1000000000000<row.getD p 0))) S:=by
 have hi:=Xbr hp S;generalize row.getD p 0=x at hi;by_cases c:x<0;·have e1:decide Qg7=false:=decide_eq_false Q0;have L:decide QJ8=true:=decide_eq_true c;simp only[Xtp,ev,gZ0,gS0,Rk0,hi,X0,e1,Xe,L,Bool.true_or,Vdv]
 ·have e1:decide Qg7=true:=decide_eq_true Q0;have L:decide QJ8=false:=decide_eq_false c;have e3:(!decide (x<=1000000000000))=decide (1000000000000<x):=by
   by_cases z:x<=1000000000000;·rw[decide_eq_true z,decide_eq_false Q0];rfl
   ·rw[decide_eq_false z,decide_eq_true Q0];rfl
  simp only[Xtp,ev,gZ0,gS0,Rk0,hi,hg,X0,Xh,e1,Xe,L,Vhm,e3]
theorem Ydz{row:LI}{f:Nat}{g:Nat->Nat->Nat}{p:Nat}(hf:Xf0 F f g 11)(hG:Xbk f nm G=yx)(hp:p+1<ll row)(hl:QJ3<=12)(hx:0<=row.getD p 0/\row.getD p 0<=1000000000000):
  ∃X,ev F G Xtq Qi0 S=.ok (.bl (decide Qt3&&decide Qd0)) Q60:=by
 have e0:Qb-1=(p:Int):=by omega
 by_cases c:1<=p
 ·have hi:=Xbr (row:=row) (p:=p) Q0 S;have hi2:=Xbr (row:=row) (p:=p+1) hp;have ex:row.getD p 0=QT7:=by omega
  obtain⟨X,h⟩:=hf QX.toNat p S Q0 c Q0;rw[<-ex]at h;have e1:decide QB3=true:=decide_eq_true Q0;have L:decide Qt3=true:=decide_eq_true c;refine Qk1;simp only[Xtq,ev,evs,gZ0,gS0,Rk0,Xh,X0,e1,Xe,hi2,hG,if_true,X7,e0,hi,h,L,Vef]
 ·have e1:decide QB3=false:=decide_eq_false Q0;have L:decide Qt3=false:=decide_eq_false c;refine Qd3;simp only[Xtq,ev,gZ0,gS0,Rk0,Xh,X0,e1,Xe,L,Vdr,Vu]
theorem X5k{row:LI}{f:Nat}{g:Nat->Nat->Nat}{p:Nat}(hf:Xf0 F f g 11)(hG:Xbk f nm G=yx)(hg:G[0]?=yz QQ2)(hp:p+1<ll row)(hl:QJ3<=12)(hx:0<=row.getD p 0/\row.getD p 0<=1000000000000):
  (X6 g row (p+1)=yx/\∃X,pe F G fbB Qi0 S=.ok (.rt Qd8) Q60) \/
  (X6 g row (p+1)=yw/\∃X,pe F G fbB Qi0 S=.ok (.nx Qi0) Q60):=by
 have h1:=Ydy (F:=F) (G:=G) (fn:=yz QF0) (S:=S) hp hg;obtain⟨X,h2⟩:=Ydz (F:=F) (G:=G) (S:=S) hf hG hp hl hx;simp only[X6];rw[<-Bool.or_assoc];generalize (decide Qh4||decide Qs2)=b1 at h1;generalize (decide Qt3&&decide Qd0)=L at h2;unfold fbB;cases b1 with
 |true=>left;refine QR5;rw[Vu];exact Xg QQ7|false=>
  cases L with
  |true=>left;refine QX1;rw[Xb QG6];exact Xg QP7|false=>right;refine QX1;rw[Xb QG6,Xb QU9,pe]
theorem Ye(h0:Qm7=d.np)(L:ds.map yz++Vj (d.nl-d.np) yy=env)(h:pe F G d.body env S=.ok (.rt r) S'):den F G d ds S=.ok r S':=by subst L;unfold den;rw[iP0 h0,h]
theorem Xww{L:Nat}(h:L<=12):Yn [.int 1,.int L]=yz ((Vl (L-1)).map λ(k:Nat)=>D.int (1+k)):=by
 have h1:-(1048576:Int)<(L:Int)/\(L:Int)<1048576:=by omega
 have h2:((L:Int)-1).toNat=L-1:=by omega
 simp only[Yn];rw[iP0 ⟨by decide,by decide,h1.1,h1.2⟩,h2]
theorem Xha(row:LI)(S:Sto):Xm .len [Xa row] S=.ok (.int row.length) S:=by simp only[Xm,Xa,Xp,Vg]
theorem Xwx(hf:Xf0 F f g 11)(hG:Xbk f nm G=yx)(hg:G[0]?=yz QQ2)(h1:1<=ll row)(hl:QJ3<=12):
  ∃X,den F G dFirst [Xa row,.fn f nm] S=.ok Q58 Q60:=by
 have hi:=Xbr (row:=row) (p:=0) h1 S;have hc:ev F G Qh5 Q70 S=.ok (.bl (X6 g row 0)) S:=by have ae:Y8 QY QO S=.ok (.int (row.getD 0 0)) S:=hi;simp only[ev,gZ0,Rk0,ae,Xwc,X6]
 have aa:∃X,pe F G dFirst.body Q70 S=.ok (.rt Q58) Q60:=by
  unfold dFirst;dsimp only;cases b0:X6 g row 0 with
  |true=>rw[b0]at hc;refine Qd3;rw[Xii h1 b0 Qx2,Vu];exact Xg (Xrr hc)|false=>
   rw[b0]at hc;rw[Xb (Xz hc)];have ab:evit F G QT0 Q70 S=.ok (.con QV0) S:=
    Xje (ds:=[.int 1,.int row.length]) (by simp only[evs,ev,gZ0,Rk0,Xha]) (Xww hl)
   have all:∀i,(∀j<i,X6 g row QP8=yw)->∀j<i+1,X6 g row j=false:=λi h j hj=>by
    cases j with
    |zero=>exact b0|succ j=>exact h j Q0
   have lp:=Xd2 (get:=Q27.get) (t:=.var 2) (body:=λenv S=>pe F G fbB env S) (xs:=(Vl (ll row-1)).map λ(k:Nat)=>D.int (1+k)) (λi=>X6 g row Q40) (λi=>.int QS2)
    (λe S'=>∃X x,S'=S++X/\e=[yz QY,yz QF0,x]) Qg4 (λi S=>rfl)
    (λi d e S' hd hb hP=>by
     obtain⟨X,x,rfl,rfl⟩:=hP;have hi:i<ll row-1:=by have:=Qe1.1;simpa using this
     have ac:d=.int QS2:=by
      simp only[Vx,Vai hi,V7,Vr]at hd;have e:(1+(i:Int))=QS2:=by omega
      rw[<-hd,e]
     subst ac;refine⟨[yz QY,yz QF0,yz (.int QS2)],rfl,?_⟩;have hx:=Xpg (all i hb i Q0);rcases X5k (F:=F) (G:=G) (S:=S++X) hf hG hg (p:=i) Q0 hl hx with⟨a1,Y,a2⟩|⟨a1,Y,a2⟩;·exact .inl Qa3
     ·exact .inr ⟨a1,_,_,a2,X++Y,_,by rw[Vq],rfl⟩)
    QM7 0 Q70 S Qu Qn3 Qx2 ⟨[],yy,by simp,rfl⟩
   have L:exe F G Qg5 Q70 S=X4 Q27.get Q3 (λenv S=>pe F G fbB env S) QM7 0 Q70 S:=by simp only[exe,ab,Rk0,Src.most,Vg,Ut]
   rcases lp with⟨p,S',p1,p2,p3,p4,X,rfl⟩|⟨p1,e',S',p2,X,x,rfl,rfl⟩
   ·refine Qk1;rw[Xg QW7];have hp:p<ll row-1:=by simpa using p1
    rw[Xii (p:=p+1) Q0 p2 (all p p3)]
   refine Qk1;rw[Xb QX7];have hn:∀j<ll row,X6 g row j=false:=λj hj=>by
    cases j with
    |zero=>exact b0|succ j=>exact p1 j Qg3
   rw[Xpf hn];exact Xg Qm3
 obtain⟨X,aa⟩:=aa;refine Qk1;exact Ye rfl rfl aa
noncomputable def e12:Int:=10^(12:Int).toNat
theorem Xtr(S:Sto):Xw .pow QP6 QO6 S=.ok (.int e12) S:=Xg0 QE0 S
theorem Xf1:e12=1000000000000:=by decide+kernel
noncomputable def Ya1:Ex:=.or Qx5 (.or Q21 (.and Q16 Qw5))
noncomputable def Xij(inx:Nat):Ex:=.and Qz5 (.cmp .gt Q9 (.call inx (.cons Q5 Qu0)))
noncomputable def Xe3(inx:Nat):Sts:=.cons (.ite Ya1 fbR .nil) (.cons (.ite QL4 fbR .nil) .nil)
noncomputable def Xjp(inx:Nat):Df:=⟨2,4,.cons QF2 Q33⟩
theorem X15(ha:ev F G a env S=.ok Qi9 S)(hb:ev F G b env S=.ok Qh9 S):ev F G (.or a b) env S=.ok (.bl (x||y)) S:=by
 rw[ev,ha,Rk0];cases x with
 |true=>simp only[Xe,Bool.true_or]|false=>simp only[Xe,hb,Vhm]
theorem Ya2(ha:ev F G a env S=.ok Qi9 S)(hb:ev F G b env S=.ok Qh9 S):ev F G (.and a b) env S=.ok (.bl (x&&y)) S:=by
 rw[ev,ha,Rk0];cases x with
 |true=>simp only[Xe,hb,Vef]|false=>simp only[Xe,Vdr]
theorem Yd0:ev F G Ya1 Q30 S=.ok (.bl (decide QJ8||(decide QP9||(Qf7 && ! QI8)))) S:=by
 have h1:ev F G Qx5 Q30 S=.ok (.bl (decide QJ8)) S:=by simp only[ev,gZ0,gS0,Rk0];rfl
 have h2:ev F G Q21 Q30 S=.ok (.bl (decide QP9)) S:=by simp only[ev,gZ0,gS0,Rk0,Xtr,Xh,X0]
 have h3:ev F G Q16 Q30 S=.ok (.bl Qf7) S:=by simp only[ev,gZ0,gS0,Rk0,Xde]
 have L:ev F G Qw5 Q30 S=.ok (.bl (! QI8)) S:=by simp only[ev,gZ0,gS0,Rk0,Xwc]
 exact X15 h1 (X15 h2 (Ya2 h3 L))
theorem Yd1(hf:Xg9 F inx kd)(hp:p+1<ll row)(hl:QJ3<=12)(hx:0<=row.getD p 0/\row.getD p 0<=1000000000000):
  ∃X,ev F G QL4 [yz QY,yz QY0,yz Qd8,yz Q54] S=.ok (.bl (decide Qt3&&decide ((abv Qd2 p QX.toNat:Int)<x))) Q60:=by
 have e0:Qb-1=(p:Int):=by omega
 by_cases c:1<=p
 ·have hi:=Xbr (row:=row) (p:=p) Q0 S;have ex:row.getD p 0=QT7:=by omega
  obtain⟨X,h⟩:=hf QX.toNat p S Q0 c Q0;rw[<-ex]at h;have e1:decide QB3=true:=decide_eq_true Q0;have L:decide Qt3=true:=decide_eq_true c;refine Qk1;simp only[Xij,ev,evs,gZ0,gS0,Rk0,Xh,X0,e1,Xe,X7,e0,hi,h,L,Vef]
 ·have e1:decide QB3=false:=decide_eq_false Q0;have L:decide Qt3=false:=decide_eq_false c;refine Qd3;simp only[Xij,ev,gZ0,gS0,Rk0,Xh,X0,e1,Xe,L,Vdr,Vu]
theorem Ya3:ev F G QL4 [a0,a1,yz Qe5,yz Q54] S=.ok Qn2 S:=by
 have L:decide ((1:Int)<Q01)=false:=by decide
 simp only[Xij,ev,gZ0,gS0,Rk0,Xh,X0,L,Xe]
theorem X5l(hf:Xg9 F inx kd)(hp:p<ll row)(hl:QJ3<=12)(hx:∀q,p=q+1->0<=row.getD q 0/\row.getD q 0<=1000000000000):
  (X6 Qd2 row p=yx/\∃X,pe F G QM4 QS S=.ok (.rt QA7) Q60) \/
  (X6 Qd2 row p=yw/\∃X,pe F G QM4 QS S=.ok (.nx QS) Q60):=by
 have h1:=Yd0 (F:=F) (G:=G) (a0:=yz QY) (a1:=yz QY0) (p:=p) (x:=row.getD p 0) (S:=S);have h2:∃X L,ev F G QL4 QS S=.ok (.bl L) Q60/\X6 Qd2 row p=((decide QG3||(decide Q85||QW2))||L):=by
  cases p with
  |zero=>
   refine⟨[],yw,by rw[Vu];exact Ya3,?_⟩;rw[Xf1];simp only[X6,Vey];generalize row.getD 0 0=x;have e:(Q01==0)=true:=by decide
   rw[e,Vef];by_cases c:x=1;·subst c;decide
   ·have:QI8=false:=by simpa using c
    rw[this];simp|succ q=>
   obtain⟨X,h⟩:=Yd1 (F:=F) (G:=G) (S:=S) (x:=row.getD (q+1) 0) hf hp hl (hx q rfl);refine⟨X,_,h,?_⟩;rw[Xf1];have e:(QE7==0)=false:=by
    have:QE7≠0:=by omega
    simpa using this
   rw[e,Vdr,Vey];simp only[X6];rw[Bool.or_assoc]
 obtain⟨X,L,h2,eb⟩:=h2;rw[eb];generalize (decide QG3||(decide Q85||QW2))=b1 at h1;unfold Xe3;cases b1 with
 |true=>left;refine QR5;rw[Vu];exact Xg QQ7|false=>
  cases L with
  |true=>left;refine QX1;rw[Xb QG6];exact Xg QP7|false=>right;refine QX1;rw[Xb QG6,Xb QU9,pe]
theorem X0d(hf:Xg9 F inx kd)(hl:QJ3<=12):∃X,den F G (Xjp inx) [Xa row,.int kd] S=.ok (Yd Qd2 row) Q60:=by
 have aa:evit F G (.enm Qf) QC1 S=.ok (.enm (.con QG1)) S:=by simp only[evit,evs,ev,gZ0,Rk0,Xa,Yq]
 have lp:=Xd2 (get:=Qk4.get) (t:=.tup [2,3]) (body:=λenv S=>pe F G QM4 env S) (xs:=QB2.map (Xdq row)) (X6 Qd2 row) (λi=>.int (i:Int))
  (λe S'=>∃X x y,S'=S++X/\e=[yz QY,yz QY0,x,y]) Qg4
  (λi S=>by
   rw[Xpd];congr 1;simp only[Vx];by_cases q:i<ll row;·simp[q,List.getD,Xdq]
   ·simp[q])
  (λi d e S' hd hb hP=>by
   obtain⟨X,x,y,rfl,rfl⟩:=hP;have hi:i<ll row:=by have:=Qe1.1;simpa using this
   have ab:d=Xdq row i:=by simp only[Vx,Vai hi,V7,Vr]at hd;exact hd.symm
   subst ab;refine⟨[yz QY,yz QY0,yz QT,yz (.int (row.getD i 0))],rfl,?_⟩;rcases X5l (F:=F) (G:=G) (S:=S++X) hf hi hl (λq hq=>Xpg (hb q Q0)) with⟨a1,Y,a2⟩|⟨a1,Y,a2⟩;·exact .inl Qa3
   ·exact .inr ⟨a1,_,_,a2,X++Y,_,_,by rw[Vq],rfl⟩)
  Q38 0 QC1 S Qu Qn3 Qx2 ⟨[],yy,yy,by simp,rfl⟩
 have L:exe F G QF2 QC1 S=X4 Qk4.get (.tup [2,3]) (λenv S=>pe F G QM4 env S) Q38 0 QC1 S:=by simp only[exe,aa,Rk0,Src.most,Vg]
 rcases lp with⟨p,S',p1,p2,p3,p4,X,rfl⟩|⟨p1,e',S',p2,X,x,y,rfl,rfl⟩;·refine Qn4;unfold Xjp;rw[Xii (by simpa using p1) p2 p3];exact Xg QW7
 ·refine Qn4;unfold Xjp;rw[Xpf (λj hj=>p1 j Qa5)];exact(Xb QX7).trans (Xg Qm3)
noncomputable def Xph(iw:Nat):Df:=⟨1,1,.cons (.ret (.and Qm2 (.and (.chn .le .le Q2 Qb0 (.cst QO6)) (Xm4 iw)))) .nil⟩
theorem Xwy(hw:Xef F iw)(t:Thing S d):∃X,den F G (Xph iw) [d] S=.ok QC7 Q60:=by
 by_cases h:∃xs,d=.tup xs
 ·obtain⟨xs,rfl⟩:=h;have hk:kdD S QX0=yz .tuple:=rfl;have hi:ev F G Qm2 Qv2 S=.ok QB1 S:=by
   simp only[ev,gZ0,Rk0,hk,V1,Xam,isT,tyQ]
  have L:=Xwj (F:=F) (G:=G) (a:=.cst Q8) (c:=.cst QO6) (n:=ll xs) (lo:=1) (hi:=12) (d:=.tup xs) (env:=Qv2) (S:=S) (S':=S) rfl rfl Q03 Q03;obtain⟨t1,t2⟩:=t.el xs rfl;have ha:=Xo4 (G:=G) hw t1 (V2 t2 Q0);have e1:(decide QD4&&decide Qm5)=(decide Q23&&decide Qc2):=by
   congr 1;·exact decide_eq_decide.mpr Q0
   ·exact decide_eq_decide.mpr Q0
  rw[e1]at L;have e2:isr QX0=((decide Q23&&decide Qc2)&&xs.all wh):=by simp only[isr];rw[Bool.and_comm]
  rw[e2];generalize (decide Q23&&decide Qc2)=b at L;cases b with
  |true=>refine⟨_,Ye rfl rfl (Xg (d:=.bl (yx&&xs.all wh)) (S1:=S++Qc0) ?_)⟩;show exe F G _ Qv2 S=_;rw[exe,ev,hi,Rk0];simp only[Xe];rw[ev,L,Rk0];simp only[Xe];rw[ha,Rk0,Vef]|false=>refine⟨[],Ye rfl rfl (Xg (d:=.bl (yw&&xs.all wh)) (S1:=S++[]) ?_)⟩;show exe F G _ Qv2 S=_;rw[exe,ev,hi,Rk0];simp only[Xe];rw[ev,L,Rk0];simp only[Xe,Rk0,Vdr,Vu]
 obtain⟨kd,h1,h2⟩:=t.gd;have hn:kd≠.tuple:=λz=>by
  subst z;cases d with
  |tup xs=>exact h QW1|ref n=>simp only[kdD]at h1;split at h1<;>cases h1|_=>cases h1
 have e:isr d=false:=by
  cases d with
  |tup xs=>exact aB0 QW1 h|_=>rfl
 have hi:=Xwb h2 hn;rw[e];refine⟨[],Ye rfl rfl (Xg (d:=.bl yw) (S1:=S++[]) ?_)⟩;show exe F G _ Qj6 S=_;rw[exe,ev];simp only[ev,gZ0,Rk0,h1,V1,hi,Xe,Vu]
noncomputable def Xf2(ic L ig:Nat):Df:=⟨1,1,.cons QZ4 (.cons (.ret (.call L (.cons Q4 (.cons QQ6 .nil)))) .nil)⟩
theorem X0e(h1:F ic [d] S=.ok .non S1)(hg:G[ig]?=yz f)(h2:F ib [d,f] S1=.ok r S2):den F G QY6 [d] S=.ok r S2:=by
 have L:exe F G QZ4 Qj6 S=.ok (.nx Qj6) S1:=by simp only[exe,ev,evs,gZ0,Rk0,h1]
 exact Ye rfl rfl (Qr9.trans (Xg (by simp only[exe,ev,evs,gZ0,Rk0,hg,h2])))
theorem X0f(h1:F ic [d] S=.ex n S1):den F G QY6 [d] S=.ex n S1:=by simp only[den,Xf2,Uk,if_true,Ur,Vj,Vad,Vu];rw[Xbe (n:=n) (S1:=S1) (by simp only[exe,ev,evs,gZ0,Rk0,h1,R.bind_ex])]
universe e
theorem Ext.setq(h:Ext p S S')(hq:QT2<=q):Ext p S (S'.set q o):=λn u L e=>by have aa:n<ll S:=QP4.1;rw[Vap Q0];exact h n u L e
noncomputable def mx:Nat:=2^500
theorem X16:1000000000001<=mx:=by decide+kernel
theorem Xjq{x:Int}(h:x.natAbs<=mx):x.natAbs.log2<1920:=by have h2:x.natAbs<2^501:=Vcl h QE0;have:=Xfx h2 QJ;omega
theorem Ya4(h:n<=mx)(h0:0<n):Yw (n:Int)=true:=by have h2:n<2^501:=Vcl h QE0;have L:=Xfx h2 QJ;unfold Yw;have e:((n:Int)).natAbs=n:=Int.natAbs_natCast n;rw[e,decide_eq_true (by omega:(0:Int)<n),decide_eq_true (by omega:n.log2<9000)];rfl
structure Kq(p q:Nat)(S0:Sto)(l:LI)(S:Sto):Prop where
 ex:Ext p S0 S
 pot:∃v,Xc S p=yz QY1
 row:Xc S q=yz Qp
section
variable{p q:Nat}{S0 S X:Sto}{l:LI}
theorem Kq.app(h:Kq p q S0 l S):Kq p q S0 l Q60:=⟨h.ex.trans .app,let ⟨v,e⟩:=h.pot;⟨v,Xk e⟩,Xk h.row⟩
theorem Kq.setp(h:Kq p q S0 l S)(L:q≠p)(v:Int):Kq p q S0 l (S.set p (.lst QY1)):=⟨h.ex.trans .set,let ⟨_,e⟩:=h.pot;⟨v,Xa0 (Xab e)⟩,Ext.lst (Ext.set (p:=p) (S:=S) (o:=.lst QY1)) L h.row⟩
theorem Kq.setq(h:Kq p q S0 l S)(L:q≠p)(hq:(ll S0)<=q):Kq p q S0 l' (S.set q (.lst QV6)):=⟨h.ex.setq hq,let ⟨v,e⟩:=h.pot;⟨v,Ext.lst (Ext.set (p:=q) (S:=S) (o:=.lst QV6)) (Ne.symm L) e⟩,Xa0 (Xab h.row)⟩
variable{F:Fn}{G:LD}
variable{t:Tg}{it:It}{ifs:Exs}{elt:Ex}{env:En}{n:Nat}
theorem Ya5{w:D->LD}{xs:LD}{i:Nat}{d:D}(h:xs[i]?=yz d):((xs.take Q40).map w).flatten=QB0.flatten++w d:=by rw[Vg3,h];simp
theorem Xts{w:D->LD}(L:∀d,(w d).length<=1):∀l:LD,((l.map w).flatten).length<=ll l
 |[]=>Vi _|d::l=>by have:=Xts L l;have:=L d;simp only[Ua,Va3,V4,Ux];omega
noncomputable def Xf3(n:LL):D:=.tup (n.map Xa)
noncomputable def Xwz:D->LD
 |.tup xs=>xs|_=>[]
theorem Xw0(l:LI):Xi Qp=yz l:=Xhr l
noncomputable def Xjr(d:D):LI:=(Xi (Xwz d)).getD []
theorem ints_of(l:LI):Xjr Qk2=l:=by have:Xwz Qk2=l.map D.int:=rfl;unfold Xjr;rw[this,Xw0];rfl
theorem Xhb{xs:LD}{get:Sto->Nat->Option Qq3}{body:En->LD->Sto->R (LD)}(w:D->LD)(L:LD)(P:En->Prop)(ab:∀X i,get Q60 i=yz xs[i]?)
  (step:∀i d e X,xs[i]?=yz d->P e->∃e1 X',Xn t d e=yz e1/\P e1/\body e1 Qs1 Q60=.ok QS4 Qy4):
  ∀(aa i:Nat) (e:En) (X:Sto),P e->i<=ll xs->ll xs<aa+i->∃X',X9 get t body aa i e Qs1 Q60=.ok Q34 Qy4
 |0=>λi e X h h1 h2=>by omega|aa+1=>λi e X h h1 h2=>by
  cases q:xs[i]? with
  |none=>
   have hi:i=ll xs:=by have:=U4.mp q;omega
   refine Qk1;simp only[X9,ab,q];rw[hi,Vb2]|some d=>obtain⟨e1,X1,a1,a2,a3⟩:=step i d e X q h;have hi:i<ll xs:=QO4.1;obtain⟨X',b2⟩:=Xhb w L P ab step aa Q40 e1 X1 a2 Q0 Q0;refine QD8;simp only[X9,ab,q,a1,a3];rw[Ya5 q,<-Vq]at b2;exact b2
theorem X5m{xs:LD}{body:En->LD->Sto->R (LD)}(w:D->LD)(L:LD)(P:En->Prop)
  (step:∀i d e X,xs[i]?=yz d->P e->∃e1 X',Xn t d e=yz e1/\P e1/\body e1 Qs1 Q60=.ok QS4 Qy4):
  ∀(aa i:Nat) (e:En) (X:Sto),P e->i<=ll xs->ll xs<aa+i->∃X',X9 Q93.get t body aa i e Qs1 Q60=.ok Q34 Qy4:=Xhb w L P (λ_ _=>rfl) step
theorem Xla{src:Src}{xs:LD}(b:D->Bool)(y:D->D)(P:En->Prop)(ab:evit F G it env S=.ok src S)(hm:src.most S=ll xs)(aa:∀X i,src.get Q60 i=yz xs[i]?)(hb:Qe<=big)(h0:P QU2)
  (step:∀d∈xs,∀e X,P e->∃e1 X1,Xn t d e=yz e1/\P e1/\evts F G ifs e1 Q60=.ok (b d) Qe9/\(b d=yx->∃X2,ev F G elt e1 Qe9=.ok (y d) (S++X2))):
  ∃X,ev F G (.cmr yw n (.cons t it ifs .nil) elt) env S=.ok (.ref Q60.length) (S++X++[.lst (Qp6.map y)]):=by
 have hw:∀d,(if b d then [y d] else []:LD).length<=1:=λd=>by split<;>simp
 obtain⟨X',a⟩:=Xhb (S:=S) (xs:=xs) (t:=t) (get:=src.get) (body:=X8 QF3 QI) (λd=>if b d then [y d] else []) [] P aa
  (λi d e X hd hP=>by
   obtain⟨e1,X1,a1,a2,a3,a4⟩:=step d (U0 hd) e X hP;have hi:i<ll xs:=Qe1.1;have hl:=Xts hw (xs.take i);rw[U9]at hl;cases c:b d with
   |false=>refine⟨e1,X1,a1,a2,?_⟩;simp only[X8,a3,c,Rk0,Uw];simp
   |true=>obtain⟨X2,a5⟩:=a4 c;refine⟨e1,X2,a1,a2,?_⟩;simp only[X8,a3,c,Rk0,Uw,if_true,a5];rw[iP0 Q0]) QA2 0 _ [] h0 Qn3 Q0
 refine QD8;simp only[ev,ab,Rk0,hm];rw[Vu]at a;have a':X9 src.get t (X8 QF3 QI) QA2 0 QU2 [] S=.ok Q92.flatten Qy4:=a;have e:Q92.flatten=Qp6.map y:=by
  clear a a' h0 step hb hm ab aa;induction xs with
  |nil=>rfl|cons d xs ih=>simp only[Ua,Va3,ih,List.filter_cons];split<;>simp
 rw[a',e];simp only[Rk0];rfl
theorem X0g{α:Type}(xs:List α)(n:Nat):cut xs QQ1 yy=xs.drop n:=by
 have h1:Xbj Qe 0 QQ1=min n Qe:=by simp[Xbj]
 unfold cut;rw[h1];simp only[Xbj];have:xs.drop (min n Qe)=xs.drop n:=by
  by_cases c:n<=ll xs;·rw[Va7 c]
  ·rw[Vf1 Qc,List.drop_length,List.drop_eq_nil_of_le Qc]
 rw[this];exact Vaj QP1
theorem Xrw{n:Nat}{l:LI}(h:Xc S n=yz Qp):Xas S Ql0=yz Qx7:=by have L:S[n]?=yz (.lst Qp):=Xbz h;simp only[Xas,X5,Xao,L,Xz6,V7]
theorem X5n{p q:Nat}{l w:LI}(h1:Xc S p=yz Qp)(h2:Xc S q=yz QA):Xh .eq QI2 QF S=.ok Ql4 S:=by
 have a1:=Xrw h1;have a2:=Xrw h2;have b:∀l:LI,Qc5.canLay0=true:=λl=>by simp only[Vg5,Xz7]
 have c:Qc5.depth<=60:=by simp only[Vbu,Xz8];omega
 have e:Ve4 Qx7 (.list Qs4)=decide Qt6:=by simp only[Ve4,Xfz]
 have hs:Xdw QI2 QF=none:=rfl;have L:eqD S QI2 QF=yz (decide Qt6):=by simp only[eqD,hs,a1,a2,b,e,decide_eq_true c,Vdm,if_true]
 simp only[Xh,X0,L]
noncomputable def lfR:Ex:=.cmr yw 2 (.cons Q3 (.rng (.cons (.cst (.int 16)) .nil)) (.cons (.cmp .isin Q3 Q4) .nil) .nil) Q3
universe e
universe Z
universe e
section
namespace Z
noncomputable def leI(ag:Int)(one:LI):Int:=match one.getLast? with
 |none=>0|some x=>x+1-ag
noncomputable def Xac(far ag:Int)(one:LI):LL:=(Vl (far-leI ag one).toNat).map λ(k:Nat)=>one++[leI ag one+k]
noncomputable def chs(far ag:Int):Nat->LL
 |0=>[[]]|k+1=>Qf3.flatMap QS7
noncomputable def fon(ag:Nat):Nat->Nat->LL
 |0,_=>[[]]|k+1,f=>QN4.flatMap λj=>Qa1.map QN2
def Rsg(ag far:Int)(k:Nat)(y:LI):Prop:=ll y=k/\y.Pairwise (λa b=>a+1-ag<=b)/\∀x∈y,0<=x/\x<far
theorem ris_nil{ag far:Int}{y:LI}:Rsg ag far 0 y ↔ y=[]:=⟨λh=>Vdp.mp h.1,λh=>by subst h;exact⟨rfl,.nil,λx hx=>by cases hx⟩⟩
theorem ris_app{ag far:Int}{k:Nat}{y:LI}:Rsg ag far QN y ↔ ∃z x,y=z++[x]/\Rsg ag far k z/\0<=x/\x<far/\∀a∈z,a+1-ag<=x:=by
 refine⟨λ⟨h1,h2,L⟩=>?_,λ Qp2=>?_⟩
 ·rcases List.eq_nil_or_concat y with e|⟨z,x,e⟩;·rw[e]at h1;cases h1
  ·rw[List.concat_eq_append]at e;subst e;obtain⟨p1,p2,p3⟩:=Vaa.mp h2;have hx:=L x (Ul _ Uv);exact⟨z,x,rfl,⟨by simpa using h1,p1,λa ha=>L a (Vao _ ha)⟩,hx.1,hx.2,λa ha=>p3 a ha x Uv⟩
 subst e;refine⟨by simp[h1],Vaa.mpr ⟨h2,Vdo _ _,λa ha b hb=>by rw[V6.mp hb];exact h6 a ha⟩,λa ha=>?_⟩;rcases V9.mp ha with z|z;·exact L a z
 ·rw[V6.mp z];exact⟨h4,h5⟩
theorem Xhc{ag:Nat}(ha:ag<=1):∀ {k f:Nat} {y:LI},y∈fon ag k f ↔ Rsg ag f k y
 |0,f,y=>by rw[ris_nil];exact V6|k+1,f,y=>by
  rw[ris_app];show y∈QN4.flatMap _ ↔ _;rw[List.mem_flatMap];refine⟨λ⟨j,hj,hy⟩=>?_,λ Qp2=>?_⟩;·obtain⟨z,hz,rfl⟩:=Uc.mp hy;have hj:=Va6.mp hj;obtain⟨h1,h2,L⟩:=Qz8.mp hz;exact⟨z,j,rfl,⟨h1,h2,λa q=>by have:=L a q;omega+splitNatSub⟩,by omega+splitNatSub,by omega+splitNatSub,λa q=>by have:=L a q;omega+splitNatSub⟩
  ·refine⟨x.toNat,Va6.mpr Qc,Uc.mpr ⟨z,Qz8.mpr ⟨h1,h2,λa q=>?_⟩,?_⟩⟩;·have:=L a q;have:=h6 a q;omega+splitNatSub
   ·rw[e,show((x.toNat:Nat):Int)=x by omega+splitNatSub]
theorem Ya6{ag far:Int}{k:Nat}{one:LI}(h1:ag<=1)(h:Rsg ag far k one):0<=ll one->∀a∈one,a+1-ag<=leI ag one:=λ_ a ha=>by
 unfold leI;cases k with
 |zero=>rw[ris_nil.mp h]at ha;cases ha|succ k=>
  obtain⟨z,x,rfl,hz,_,_,L⟩:=ris_app.mp h;rw[List.getLast?_append];show _<=x+1-ag;rcases V9.mp ha with q|q;·have:=L a q;omega
  ·rw[V6.mp q];omega
theorem Ya7{ag far x:Int}{k:Nat}{one:LI}(h:Rsg ag far k one)(hx:0<=x)(hl:∀a∈one,a+1-ag<=x):leI ag one<=x:=by
 unfold leI;cases e:one.getLast? with
 |none=>exact hx|some y=>exact hl y Qc9
theorem Xw1{ag far:Int}{k:Nat}{one:LI}(h1:ag<=1)(h:Rsg ag far k one):0<=leI ag one:=by
 unfold leI;cases e:one.getLast? with
 |none=>exact Vhg _|some y=>have:=(h.2.2 y Qc9).1;show 0<=y+1-ag;omega
theorem Xhd{ag far:Int}(h1:ag<=1):∀ {k:Nat} {y:LI},y∈chs far ag k ↔ Rsg ag far k y
 |0,y=>by rw[ris_nil];exact V6|k+1,y=>by
  rw[ris_app];show y∈Qf3.flatMap QS7 ↔ _;rw[List.mem_flatMap];refine⟨λ⟨z,hz,hy⟩=>?_,λ⟨z,x,e,h2,h4,h5,h6⟩=>?_⟩;·obtain⟨j,L,rfl⟩:=Uc.mp hy;have L:=Va6.mp L;have h2:=Qy8.mp hz;have nn:=Xw1 h1 h2;exact⟨z,_,rfl,h2,by omega+splitNatSub,by omega+splitNatSub,λa q=>by have:=Ya6 h1 h2 Qn3 a q;omega+splitNatSub⟩
  ·have le:=Ya7 h2 h4 h6;exact⟨z,Qy8.mpr h2,Uc.mpr ⟨QL7.toNat,Va6.mpr Qc,by rw[e,show leI ag z+(QL7.toNat:Nat)=x by omega+splitNatSub]⟩⟩
theorem Xw2{ag far:Int}:∀k:Nat,Qf3.Nodup
 |0=>Vdo _ _|k+1=>by
  refine List.pairwise_flatMap.mpr ⟨λone _=>?_,QV9.imp λ{a b} hab x hx y hy z=>hab ?_⟩;·unfold Xac;rw[Vdj];refine List.nodup_range.imp λ{i j} hij z=>hij ?_;have:=Qr3.2;injection this with this _;omega
  ·obtain⟨i,_,rfl⟩:=Uc.mp hx;obtain⟨j,_,rfl⟩:=Uc.mp hy;exact Qr3.1
theorem Xpi(ag:Nat):∀k f:Nat,PwL (QR1.map Vbr)
 |0,f=>Vdo _ _|k+1,f=>by
  unfold PwL;rw[Vdj];refine List.pairwise_flatMap.mpr ⟨λj _=>?_,List.pairwise_lt_range.imp λ{i j} hij x hx y hy=>?_⟩;·rw[Vdj];have ih:=Xpi ag k (j+ag);unfold PwL at ih;rw[Vdj]at ih;refine ih.imp λ{a b} h=>?_;rw[Vb9,Vb9];show ltL ((j:Int)::a.reverse) Qm4=yx;rw[ltL,iP0 rfl];exact h
  ·obtain⟨a,_,rfl⟩:=Uc.mp hx;obtain⟨b,_,rfl⟩:=Uc.mp hy;rw[Vb9,Vb9];show ltL ((i:Int)::a.reverse) Qm4=yx;rw[ltL,iN0 Q0];exact decide_eq_true Q0
theorem Xw3(ag k f:Nat):QR1.Nodup:=by have:=Xpi ag k f;unfold PwL at this;rw[Vdj]at this;exact this.imp λ{a b} h z=>by rw[z,Xkk]at h;cases h
theorem Xrx{ag k f:Nat}(ha:ag<=1):(Y6 (QO7.map Vbr)).map Vbr=fon ag k f:=by
 have p:QR1.Perm QO7:=(List.perm_ext_iff_of_nodup (Xw3 ag k f) QV9).mpr λy=>by rw[Xhc ha,Xhd Q0]
 have e:=Xi8 (p.map Vbr) (Xpi ag k f).wk;rw[<-e,Vae];have:Vbr∘Vbr=(id:LI->LI):=by funext l;simp
 rw[this,List.map_id]
theorem X0h{α:Type}{g:Nat->List α}{f j i:Nat}(L:j<f)(hi:i<(g j).length):(QN4.flatMap g)[(Qv9.flatMap g).length+i]?=(g j)[i]?:=by
 have e:Vl f=Vl j++j::QN4.drop QP8:=by have h:=(U3 j QN4).symm;rw[List.take_range,Va7 Q0,Vi8 Qz2,Vgw]at h;exact h
 rw[e,Vbm,Uz (Ver _ _),Vas,List.flatMap_cons,Vv hi]
theorem X17{ag k:Nat}(ha:ag<=1):ag*k<=k:=by have:=Nat.mul_le_mul_right k ha;omega
theorem X5o{ag k:Nat}(h:k≠0)(j:Nat):j+ag+ag*QM9=j+ag*k:=by obtain⟨m,rfl⟩:∃m,k=m+1:=Qz0;rw[Ve3,Nat.mul_succ];omega
theorem X18{ag k j:Nat}:C (j+ag+ag*QM9) k=C Qv6 k:=by
 by_cases h:k=0;·subst h;rw[Y1,Y1]
 ·rw[X5o h]
theorem Xbs{ag:Nat}(ha:ag<=1):∀k f:Nat,QR1.length=C QJ4 k
 |0,f=>by rw[Y1];rfl|k+1,f=>by
  show QK6.length=C (f+ag*k) QN;induction f with
  |zero=>rw[Va4,Xbm _ _ (by have:=X17 (k:=k) ha;omega)];rfl|succ f ih=>rw[Vd4,Vbm,V4,ih,Vfh,Vg,Xbs ha k,X18,show f+1+ag*k=f+ag*k+1 by omega];simp only[C];omega
def Xd3(ag:Nat):Nat->Nat->LI->Prop
 |0,_,y=>y=[]|k+1,i,y=>∃(x:Nat) (z:LI),C x QN<=i/\i<C QK8 QN/\Xd3 ag k (i-C x QN) z/\y=z++[(x:Int)-Qh6]
theorem Xhe{ag:Nat}(ha:ag<=1):∀ {k i f:Nat} {y:LI},Xd3 ag k i y->i<C QJ4 k->QR1[i]?=yz y
 |0,i,f,y,h,hi=>by
  rw[Y1]at hi;obtain rfl:i=0:=by omega
  rw[show y=[] from h];rfl|k+1,i,f,y,⟨x,z,h1,h2,h3,e⟩,hi=>by
  rw[Ve3]at hi;have hx:k<=x:=by
   by_cases c:k<=x;·exact c
   ·rw[Xbm QK8 QN Q0]at h2;omega
  have al:=X17 (k:=k) ha;have hf:x<f+ag*k:=by
   by_cases c:x<f+ag*k;·exact c
   ·have:=Y5 (k:=k+1) (show f+ag*k<=x by omega);omega
  have L:C QK8 QN=C x k+C x QN:=rfl;obtain⟨j,rfl⟩:∃j,x=j+ag*k:=⟨x-ag*k,by omega⟩;have ih:=Xhe ha (f:=j+ag) h3 (by rw[X18];omega);have hl:i-C Qv6 QN<(Qa1.map QN2).length:=by rw[Vg];exact(Vd.mp ih).1
  have fl:(Qv9.flatMap λj=>Qa1.map QN2).length=C Qv6 QN:=Xbs ha QN j;have:=X0h (g:=λj=>Qa1.map QN2) (f:=f) (j:=j) (show j<f by omega) hl;rw[fl,Nat.add_sub_cancel' h1,Vx,ih]at this;show QK6[i]?=_;rw[this,e];show yz (z++[(j:Int)])=_;rw[show((j+ag*k:Nat):Int)-Qh6=j by omega]
theorem X0i{ag k f m:Nat}{b:Nat->LI}(ha:ag<=1)(hb:∀i,i<m->Xd3 ag k i (b i))(L:m<=C QJ4 k):QR1.take m=(Vl m).map b:=by
 have hl:=Xbs ha k f;refine List.ext_getElem? λi=>?_;rw[Vir,Vx];by_cases c:i<m;·rw[iP0 c,Xhe ha (hb i c) Q0,Vai c];rfl
 ·rw[iN0 c,Vd2 (by rw[Ut];omega)];rfl
universe Z
universe e
section
namespace Z
open PySem PySem.Spec PyProof.Rows L2
noncomputable def Xjs(im:Nat):Ex:=.ite Qy5 Qw3 Qi5
noncomputable def Xhf(im iw:Nat):Sts:=.cons (.asg QA0 Qw8) Q32
noncomputable def Xm7(im iw:Nat):Df:=⟨2,6,.cons (.asg Q3 Qw7) (.cons (.asg Q9 Q4) (.cons (.for QQ Qm (Xhf im iw)) (.cons (.ret (.blt .tuple (.cons (.rev Q3) .nil))) .nil)))⟩
section
variable{F:Fn}{G:LD}{im iw n s q:Nat}{S:Sto}{x4 x5:Option D}
theorem X0j(hm:Xdp F im){k r:Nat}(hk:k+1<=12)(hr:r<=1000000000000):
  ∃m:Nat,m<=10000000000000/\C m QN<=r/\r<C (m+1) QN/\ev F G Qw8 Q72 S=.ok QG S:=by
 have L:ev F G Qy5 Q72 S=.ok (.bl (decide ((0:Int)<r))) S:=by simp only[ev,gZ0,gS0,Rk0,Xh,X0]
 by_cases c:0<r
 ·obtain⟨m,h1,h2,h3,h4⟩:=hm r QN S Q0 hk c hr;refine⟨m,?_,h3,h4,?_⟩;·obtain⟨j,rfl⟩:∃j,m=k+1+j:=QP5;have:=Xig k j;omega
  ·rw[decide_eq_true Q0]at L;unfold Xjs;rw[ev,L,Rk0];simp only[Xe,ev,evs,gZ0,gS0,Rk0];exact h1
 ·obtain rfl:r=0:=by omega
  refine⟨k,by omega,by rw[Xbm k QN Q0];exact Vi _,by rw[Xdf];exact Nat.one_pos,?_⟩;rw[decide_eq_false Q0]at L;unfold Xjs;rw[ev,L,Rk0];simp only[Xe,ev,gZ0,gS0,Rk0,X7];rw[show(QW-1)=k by omega]
end
mutual
#check[by omega,.cst (.int 1),[yz (.int far),yz (.int size),yz (.int ag),yz (.ref q3),x4,yz (.ref q5),yz (Xa one),yz (.int (leI ag one))],.ref q,.cons (.var 0) .nil,Xa l,by decide,l.map D.int,.int size,.int pts,0,0,0,0,0,0,0,.var 2,.ref (ll S),.ref p,.var 0,.var 1,.int far,([7,7,7,4]:LI).map D.int,.cst (.int 0),([2,5,8,16]:LI).map D.int,.int ag,.int 1,ll S,.ref q3,s+1,w.map D.int,.var 4,(Xr one).map λk=>D.tup [Xa k,.bl yx],(Xac far ag one).map Xa,Y0 l a L.length,.var 6,.int ((k+1:Nat):Int),(by simp<;>omega),S++X,.int most,Xac far ag one,((far+1:Nat):Int),0,0,0,0,0,0,Xar l a od++Y0 l a L.length,.var 3,.int s,([2,5,8,16]:LI),Xr one,[yz Q5,yy,yy,yy,yy,yy,yy],[yz QC,yz (.int kd),yz Q9,yz QX,yz Q3,yz (.int pl),yz QF],[yz QF,yz Q8,yz QJ,yz QM,x4,yz (.ref q5),yz (Xa one),x7],[yz (.int n),yz Qc,yz Q3,yz (.int r),yz QU,yz (.int m)],S.set q (.lst (acc++[.int m])),by simp,FT T G 13,.cons QA .nil,((prs l).filter cvB).map cvY,[sc,a1,yz Q5,yz (.int i),yz QC,yz Q9,a6,a7,a8,a9],λkvs p=>Yk kvs p.1 p.2,(by unfold Xd1;decide+kernel),.var 5,.int (0:Nat),l.getD s 0,.int kd,.int i,(Vl (far-leI ag one).toNat).map λ(k:Nat)=>D.int (leI ag one+k),(cvs l).map D.int,(l.length:Nat),.cons QE .nil,sds l,.ite (.cmp .isnot (.call 29 (.cons QD (.cons QH .nil))) (.cst .non)) (.cons (.ret (.cst (.str "way"))) .nil) .nil,[sc,yz (.ref 0),yy,yy,yy,yy,yy,yy,yy,yy],[Xa l],l.getD QN 0,fon 0 s 16,rows7.map Xa,.int many,.int m,.tup (.cons i1E .nil),0,0,0,0,0,0,0,.ref q2,(l.drop 7).filter λx=>decide (0<x),.cons QH .nil,[.lst []],L++[.lst Q7]++[.lst QS]++[.lst Qa],.tup [.int i,.int m],.bin .add (.bin .add spH (.sli QE (.some QA) (.some (.bin .add QA i1E)))) (.sli QE (.some QA) .none),Vl l.length,S2++X++[O.lst ((fcs l s).map Xa)],[a0,a1,a2,a3,a4,a5,yz d,yz (.str L),yz (due d),yz x],[yz QC,yz Qu,yz Q9,yz QX,yz Q3,yz (.int pl),yz Q9],[a0,a1,a2,a3,a4,yz Q3,yz (Xa one)],(by simp only[ev,gZ0,gS0]),.tup (.cons (.bin .add (.idx QE QA) i1E) .nil),[Xa l,.int 15,.int 6],tb1 l||tb2 l,.asg QT (.call inx (.cons QE (.cons (.idx QP (.neg Q1)) (.cons (.bin .sub Qr Q1) .nil)))),λd=>match d with|.tup xs=>(match Xi xs with|some r=>!(X3 kvs r).isSome|none=>yw)|_=>yw,λenv L S=>(ev F G fcX env S).bind λy S=>if (ll L)<big then .ok (L++[y]) S else .bad,far+(size-1)*ag,.cons QT .nil,λenv S=>evts F G .nil env S,.lst ((acc++fcs l s).map Xa),Qe.map Xa,ns.map D.int,.sli QD (.some (.bin .add QA Q1)) .none,0,0,0,0,0,0,size-1,by decide+kernel,.nx [yz (.int n),yz Qc,yz Q3,yz (.int ((r-C m (k+1):Nat):Int)),yz QU,yz Q80],.asg Qb (.idx (.lst spO) (.call it (.cons QD (.cons (.cst (.int 8)) .nil)))),⟨by omega,by omega,by omega,by omega⟩,[O.lst (rows2.map Xa)],(by have:=c.big hx QN;omega),[sc,a1,a2,yz Qv,yz QC,yz Q9,a6,a7,a8,a9],one.map D.int,Xar l a od,L++[O.lst Q7]++[O.lst QS],.sli QD (.some (.cst (.int 7))) .none,[.int n,.int s],X3 kvs r,.bl yx,(Y6 Q00).map Xa,ll l,.ite (.not (.call 30 Q4)) (.cons (.ret (.cst (.str "row"))) .nil) .nil,[yz QC,yz Qu,yz Q9,yz QX,yz QB,yy,yy],.ref (ll S1),dns l l.length,.var 8,.int a,[yz Q5,yz Q3,yy],[yz Q80,yz Qs,yz Qs,yz (.int 0),yy],[yz Q70,yz Q8,yz QJ,yz (.int 0),yy],wsD one,S++[O.lst QR],LI×D,.cst (.int 2),.cons (.ret (.call 22 Qz)) .nil,.cons (.ret (.call 14 Q4)) .nil,(Vl (m-cov l i)).map λ(k:Nat)=>D.int (((cov l i:Nat):Int)+k),[yz QC,yz Qu,yz Q9,yz QX,yz Q3,yz (.int ((n+1:Nat):Int)),yz Q9],[a0,a1,yz d,a3,a4,a5,a6,a7,a8,a9],.call 15 (.cons QD (.cons (.glb 3) (.cons (.glb 4) .nil))),0,0,0,0,0,0,0,[yz Q5,yz (.int 15),yz (.int 6)],[yz Q5,yy,yz QA0,yz QM,yy,yy,yy],r.map Xa,.lst .nil,.asg QA (.call it (.cons QD (.cons (.blt .len Qz) .nil))),.blt .len Q4,[a0,a1,a2,a3,a4,a5,yz (Xa one)],S.set p (.lst [.int (v/Qy)]),(l.length:Int),[.lst QO],(by simp only[i1E,evs,ev,Rk0]),(by have:=c.l2;omega),.cst (.int 12),.cons (.cst (.int 16)) .nil,.bin .add (.bin .add spH (.tup (.cons Qb .nil))) spT,[yz QC,yz Q5,yz Qw0,yz od,yy],rows7.map Xa++rows2.map Xa,P++[.exc c],.ref L,l.drop 7,(by rw[q2,q3,decide_eq_true c1,decide_eq_true c2];rfl),[yz Q70,yz Q8,yz QJ,yz QF,x],[a0,a1,a2,yz QM,a4,yz Q3,x6],Q50.take Qt.toNat,.call 7 (.cons Qb (.cons (.bin .sub QP Q1) .nil)),.call 7 (.cons Qb (.cons (.bin .add QP Q1) .nil)),0,0,0,0,0,0,.cons Q1 (.cons (.bin .add Q1 (tkE it Qb)) .nil),(wsD y).map λp=>hrw p.1,((i+1:Nat):Int),[a0,a1,a2,a3,a4,a5,yz d,yz (.str L),yz (due d),a9],[A,B,yy,yy,yz Qc,yz Q80,yz (.int ((c+i:Nat):Int))],l.getD i 0,Q50.take m,Q00.map Xa,[yz QC,yz Q5,yz Qw0,yy,yy],(by simp only[evs,ev,Rk0]),Xg ?_,.tup (.cons i1E (.cons Xdg (.cons Xdg .nil))),[.int 1],λd=>match d with|.int x=>decide (0<x)|_=>yw,(by simp only[pe]),.expr (.dup Qr (.cons (.dcl (prE il)) .nil)),S2++[O.lst Qj0],L.flatMap (Xac far ag),(Vl (m-c)).map λ(i:Nat)=>D.int ((c:Int)+i),[yz (.int n),yz Qc,yz Q3,yz (.int r),yz QU,x5],[O.lst QI],[O.lst QG],["number","size"],(by rw[Vg];omega),Xb6 _ _ _,.tup .nil,[yz QC,yz Q5,yz Qw0,yz od,yz (.ref (ll S2))],.cons Xdg .nil,.cmp .lt (.blt .len Qm) (.cst (.int 61)),[yz Q5,yz Qc,yz QA0,yz QM,yz QS1,yz Qt0,y6],[yz Q5,yy,yy],[yz (.int n),yz Qc,yz Q3,yz (.int r),x4,x5],[Xa l,.int 0],[O.lst QX0],λy=>!decide (y∈a),S4++[.lst (Q30++ts)],0,0,0,0,0,0,0,.par [2,3] (.cons QD1 (.cons QD1 .nil)),.blt .tuple (.cons (.blt .srt Qm) .nil),[a0,a1,a2,a3,a4,a5,yz d,yz (.str L),a8,a9],l.take a++[l.getD a 0+1]++l.drop (a+1),((most:Nat):Int),l.take a++(l.drop a).take 1++l.drop a,l++Vj 12 0,Xac far ag,.expr (.mth .xtd QA (.cons ntE .nil)),[yz QF,yz Q8,yz QJ,yz QM,x4,yz QB,x6,x7],[sc,yz (.ref 0),b2,yy,yy,yy,yy,yy,yy,yy],λi=>Xa (one.take i++one.drop (i+1)),.bl yw,[yz QC,yz Q5,yz Qw0,yz od,yz (.ref r4)],[yz QC,yz Q5,yz Qw0,yz od,yz (.ref r3)],[yz Q5,yz Qc,yz QA0,yz QM,yz QS1,x5,x6],UpS.app.trans .app,Q11.set q5 (O.lst (acc++QY.map Xa)),[O.lst Q7],[.int v],(by simp only[i1E,Xdg,evs,ev,Rk0,Xtr]),⟨Qf1.toNat,by have:=c.nn i;omega⟩,[yz QF,yz Q8,yz QJ,yz QM,x4,x5,x6,x7],[yz QF,yz Q8,yz QJ,yz QB,yy,yy,yy,yy],[sc,a1,a2,yz Qv,yz QC,a5,a6,a7,a8,a9],λenv S=>pe F G (Xhf im iw) env S,0,0,0,0,0,0,prs l,k+1,Xz (Xj5 h yw rfl),(Xs (by simp only[ev,evs,gZ0,Rk0,L])),Src.enm (.con Q7),.whl (frT iw) frB,.nx [yz Q80,yz Qs,yz Qs,yz Qs,yy],.nx [yz Q70,yz Q8,yz QJ,yz QF,yy],.idx (.lst (drX it)) (tkE it Q31),.cons Qv0 (.cons (.cst Qo0) .nil),.bin .add (.bin .add spH QN0) spT,.asg QP (.bin .add QP (.lst sp5)),⟨_,rfl⟩,[yz Q5,yz Qc,yz QA0,yz QM,x4,x5,x6],[yz Q5,yz Q3,yy,yy,yz Qv,yz Q80,yy],[O.lst Q60],[O.dct Q01],fon 0 QN 16,Vi _,.var 7,.str "many",.con Q7,.asg Qb (.lst (.cons Qz1 .nil)),(fcs l s).map Xa,[yz QF,yz Q8,yz QJ,yy,yy,yy,yy,yy],[yz QC,yz Qu,yz Q9,yz QX,yy,yy,yy],[.int (QI1-1),.int (-1),.int (-1)],.asg QP (.lst (.cons Q1 .nil)),[a0,a1,a2,a3,a4,a5,yz d,a7,a8,a9],l.take m,chs far ag size,ab _ λx hx=>?_,Xcn many size ag f far+Qa0*ag,Xb s1,S1++[O.lst QC1],.some QA,0,0,0,0,0,0,0,(Vl n).map λs=>(cov l s:Int),[yz Q5,x1,yz QA0,yz Q3,x4,x5,x6],leI ag one,l.getD n 0,acc.map Xa,[sc,yy,yy,yy,yy,yy,yy,yy,yy,yy],[1,1000000000000,1000000000000],[.int far,.int r],ys.filter λr=>! Qn0.isSome,.ref QW.length,.cmp .gt Qr Q1,.blt .repr QU0,(by simp only[ev,evs,Rk0];rfl),Xa one,.tup (.cons (.var 9) .nil),.sli spZ .none (.some QM1),.lst [.int (v/(most:Nat))],.cons (.cst (.int 4)) .nil,(Vl n).map λs=>l.getD s 0,⟨rfl,yy,rfl⟩,[a0,a1,a2,a3,yz QS1,yz Q3,a6],[.lst [.tup []]],[.lst ((r.take many).map Xa)],λenv S=>pe F G frB env S,one++[leI ag one+(i:Int)],evit F G (.rng fcR) env S,0,0,0,0,0,0,Xco l,S++[O.lst QO],S++[.lst Qm1],QB0.map D.int,.neg Q1,.cst .non,.cons Qr .nil,.cons QP .nil,[yz n,yz s,yz QB,yz n,yy,yy],[yz Q5,x1,yz Q3,x3,x4,x5,x6],[.int far,.int size,.int ag],.some (.bin .add QA i1E),.bin .mul (.tup QC0) QM1,⟨_,S1,rfl,?_,rfl,_,rfl⟩,[yz d,yy],[A,B,yy,yy,yz Qc,yz Q80,yy],[.lst [.int 0]],[.int (cov l i:Nat),.int m],[.dct []],u.trans .app,rows7++rows2,chs far ag i,Qe.map λk=>(k,D.bl yx),FT T G (k+6),.dct (Q01.foldl Qp kvs),.bin .add QE (.lst ex2),.asg Qv0 (.call 33 QU0),(size:Int)-1,(Qa2.take i).map (fw l),[yz Q70,yz Q8,yz QJ,yy,yy],[Xa (Qe.getD i []),.bl yx],l.take a++l.drop (a+1),Vd.mp hd,.lst ex2,.for QE (.rng lfR) lfB,(Vl n).flatMap (fcs l),0,0,0,0,0,0,0,(L.take i).flatMap QH2,[.int 1,.int (1+(r:Int))],more.map λp=>hrw p.1,ll acc,Y6 Q00,Xpm h1 h2 S,Xb s3,Xb s2,Vab hx,S2++X,S++QD0,⟨X,?_⟩,[O.lst QQ],[.lst QC1],[.lst Q60],(by rw[ftx t14];exact e),(by rw[exe,Xt7 h15,Rk0]),.tup (.cons i1E Q12),⟨y,hy,hz⟩,⟨rfl,rfl⟩,⟨X++Y,?_⟩,[yz n,yz s,yy,yy,yy,yy],[.int (v/QZ)],[.int (i:Int),.int Qf1],[.exc 5],(by show 7<=big;decide),0,0,0,0,0,0,(by show 2<=big;decide),Xj3 i m,Xb (Xpy h),Qg1.map Xa,FT T G Qb2,.enm Q4,[yz QC,yz Q5,yy,yy,yy],[1,8,28,56,70,56,28,8],[1,6,15,20,15,6,1,0,0],[.int m,.int s,.int 0],Qr2.take Q40.toNat,.lst [.int (v1/8)],.int (cov l s:Nat),.asg QP (.lst sp3),.asg QE (.lst ex7),⟨yy,rfl⟩,[.int (v/4)],["thing"],ys.map Xa,ll S1,due d,(by simp only[ev,h1]),S2++X++[O.lst []],.sli QD .none Q93,.int (-1),.bin .add spH spT,.bin .add Xdg i1E,(l.drop a).take 1,(l.drop 1).take 1,(c:Int)+i,λX i=>Xr7 l _ i,S++QJ1,.int n,.bin .add QE Q90,(1:Int)<(pl:Int),⟨X,rfl⟩,0,0,0,0,0,0,0,[yz Q5],[O.lst Qa3],[1,7,21,35,35,21,7],[.int QC3,.int far],ps.foldl Qp kvs,i+1,fon ag size far,S1++[O.lst Xil],C QT0 size<many,.lst ptE,.int Qc1,.cmp .ne QT Qz1,.cmp .gt Qv0 QH,.cmp .gt QF1 Q1,λ_ _ _ _=>rfl,yz ((a:Int)+1),(by simp only[ev]),Yk kvs p.1 p.2,S++[O.lst Qm1],S++X++[.exc 7],.ref S4.length,.idc yx Qv0 Qr,.cst (.int 10),.cons Qe3 .nil,.cons QF1 .nil,.cmp .gt QA QH,0,0,0,0,0,0,[O.lst QS],[1,1000000000000],[.lst Qh1],[.lst QX0],[.lst QO.reverse],yz (many:Int),ll L,fw1 L,cov l s,c.le QN,Yd gU l,Xk Xf,Vl one.length,S3.set q2 QW0,S++[.lst QT2],S++X++Y,QT1.map D.int,C16 s,.val Qb,.ref P.length,.nx e,.blt .list Qz,.asg Qr .dct0,((j.val:Nat):Int),(by rw[<-L];rfl),Xb4 t7 (k+4),Xa (Vj 12 0),S++[.lst Q7],FT T G (k+2),.cons Qt2 Q4,.asg Qt2 leE,.asg Qt2 QL3,(Vl m).map L,⟨yy,yy,rfl⟩,⟨QJ1++X,?_⟩,[7,7,7,4],0,0,0,0,0,0,0,[.lst Qn],(·++[(j:Int)]),ll one,ll kvs,k+4,k+3,k+2,frT 23,c.le s,c.le i,(by simp;omega),by rfl,aa.most S+1,Xw9 h1 h2 S,Xb (Xr9 h2),Va5 hx,S++Qv1++Qu1,QG2.take 12,L++QS2,1<ll l,.or lc1 lc2,.int x,.int p,.cons Qb Qm,.bl (tb2 l),.bl (tb1 l),0,0,0,0,0,0,.bl (isr d),.asg Qr QD1,((n+1:Nat):Int),((a+1:Nat):Int),λx hx=>?_,yz (a:Int),l.getD 1 0,fon 0 k 16,fon 0 QN F,a++b,Xic t20 11,Xb4 t7 Qb2,Xa y,Ub _,Src.con xs,Qu0.map Xa,Q43.map Xa,.tup [4,5],.asg Qb QH,.asg QT QA,⟨_,_,rfl⟩,[Xa one],[.int (v/Qy)],xs.take i,p.1=r,ll xs,ll S4,ll S2,ll S0,fon 0 s x,far+1,Yy Q0,Xm9 23 26,Xm7 im iw,Xhf im iw,Xfy t23 k,0,0,0,0,0,0,0,Xbo _,Xb s4,S1++X,D.fro QY0,C16 i,.bl b,this r L,ll r+1+1,ll l-1-i,Xga c hy,Vl (m-c),.tup QN1,.rng fcR,.neg i1E,.lst sp7,.lst msE,.lst Qq4,.lst QW4,.lst QC0,.int e59,.int Qf1,.int QC3,.fro QY0,.enm Qv2,.cst Qu2,.cst Qo0,0,0,0,0,0,0,.cst Q65,.and a b,[O.lst Qp0],[O.lst Qh1],[O.lst QT2],[O.lst QQ1],prI 0 d,ll y,ll xs+1,fcs l s,dns l i,c+i,a+1,Xa b,Xa a,X0q inx,Vd.mp h,Vd.mp e,Ul _ Uv,Ub 1,S4++QB5,S2++Qq2,S1++Qu1,S1++QY4,S1++QN4,.ref q5,.or a b,.nx QL0,.lst Qm,.int 59,.int 12,[O.lst Qn],[2,5,8,16],[.lst Qp0],[.lst Qj0],[.lst Qd3],0,0,0,0,0,0,0,[.lst Qa3],[.lst Q30],[.fro QY0],upB il,ll l-i,l++[1],hr r L,frT iw,exI ns,aa.get,Xa [0],Xa Qj6,Xa QT1,X0r it,S++Qv1,S++Qs3,S++Qd5,S++Q72,.var 9,.str t,.str L,.nx Qi,.nx Qg,.nx Qf,.nx Q2,.int c,0,0,0,0,0,0,[D.int 0],[1,17],[1,16],[1,12,66],[1,10,45],[.lst QI],[.lst QG],[(y:Int)],[(x:Int)],[(n:Int)],(·.1),(· != 0),yz Q9,yz Q5,ll ys,ll ns,i-1,gK kd,fcs l,fcI F,e12+1,cvs l,blk z,Xz hc,Xz h1,Xx0 d,Xk hq,Xb h2,U0 hd,S'++X,0<i,.rt r,[yz QN3],[.ref q],[.int 0],yz 2,0,0,0,0,0,0,0,yz 1,v1/2,ll n,ll a,fw l,Xa w]
theorem X0k(hw:Yl F iw)(hm:Xdp F im){k r:Nat}{acc:LD}(hk:k+1<=12)(hr:r<=1000000000000)(hq:Xc S q=yz acc)(hl:QD4<100):
  ∃m:Nat,C m Qb2<=r/\r<C (m+1) Qb2/\pe F G Q87 Qt1 S=.ok Qc0 Qj:=by
 obtain⟨m,m0,m1,m2,m3⟩:=X0j (G:=G) (n:=n) (s:=s) (q:=q) (S:=S) (x5:=x5) hm hk hr;refine⟨m,m1,m2,?_⟩;have s1:exe F G (.asg Qr (Xjs im)) Qt1 S=.ok QV8 S:=Xs m3;have L:=Xg4 (x:=.int m) hq Q0;have aa:Xah .append Q3 S=true:=by simp only[Xah,hq,Vby]
 have s2:exe F G (.expr (.mth .append QA Qg3)) Qi S=.ok QV8 Qj:=by simp only[exe,ev,evs,gZ0,gS0,Rk0,aa,if_true,L]
 have ab:=hw m Qb2 Qj m0 Q0;have s3:exe F G (.aug 3 .sub (.call iw (.cons Qr Qh3))) Qi Qj=.ok Qc0 Qj:=by
  have e:(r:Int)-(C m Qb2:Int)=((r-C m Qb2:Nat):Int):=by omega
  simp only[exe,ev,evs,gZ0,gS0,Rk0,ab,Xfe,e,Vax]
 unfold Xhf;exact Q73.trans (QH4.trans (QG4.trans Qo1))
theorem Xmi(hw:Yl F iw)(hm:Xdp F im){xs:LD}(hx:xs=(Vl s).map λ(j:Nat)=>D.int ((s:Int)-j))(hs:s<=12):∀(k L i r:Nat) (x4 x5:Option D) (S:Sto) (acc:LD),i+k=s->k<L->r<=1000000000000->Xc S q=yz acc->ll acc<=i ->
  ∃(w:LI) (e:En),X4 Qo6.get QP QZ2 L i Q52 S=.ok Qu5 (S.set q (.lst (acc++w.map D.int)))/\Xd3 0 k r w.reverse/\e[2]?=yz (yz Q3)
 |k,0=>λi r x4 x5 S acc h1 h2 h3 h4 h5=>by omega|0,L+1=>λi r x4 x5 S acc h1 h2 h3 h4 h5=>by
  have hi:xs[i]?=none:=by rw[hx];simp;omega
  refine⟨[],Q52,?_,rfl,rfl⟩;have e:S.set q (.lst (acc++([]:LI).map D.int))=S:=by obtain⟨aa,hv⟩:=Vd.mp (Xbz h4);rw[Vbq,Vu,<-hv];exact Vfx aa
  rw[e];simp only[X4,Src.get,hi]|k+1,L+1=>λi r x4 x5 S acc h1 h2 h3 h4 h5=>by
  have hi:xs[i]?=yz QU:=by rw[hx,Vx,Vai Q0,V7];congr 2;omega
  obtain⟨m,m1,m2,m3⟩:=X0k (G:=G) hw hm (n:=n) (s:=s) (r:=r) (k:=k) (q:=q) (x5:=x5) (S:=S) (acc:=acc) Q0 h3 h4 Q0;obtain⟨w,e,r1,r2,r3⟩:=Xmi hw hm hx hs k L QF5 (r-C m Qb2) (yz QU) (yz Q80) Qj (acc++[.int m]) Q0 Q0 Q0 (Xa0 (Xab h4)) QK6;refine⟨(m:Int)::w,e,?_,⟨m,w.reverse,m1,m2,r2,by rw[List.reverse_cons,Vet];simp⟩,r3⟩;rw[List.set_set,Vq]at r1;simp only[X4,Src.get,hi,Xn,Vax];rw[m3];exact r1
theorem X0l{n s:D}{xs:LD}{e:En}{w:LI}(hr:Yn [s,.int 0,.int (-1)]=yz xs)
  (r1:X4 Qo6.get QP QZ2 Qi7 0 Qi3 QK4=.ok Qu5 Q55) (r3:e[2]?=yz (yz QB)):
  den F G Q77 [n,s] S=.ok (Xa w.reverse) (S++QJ1++Qe5):=by
 have l1:Xc Qb3 QL=yz QO:=Xf;have l2:Xc (S++[O.lst QO]++[O.lst QO.reverse]) Qb3.length=yz QO.reverse:=Xf;have L:=Xs (i:=2) (F:=F) (G:=G) (e:=.lst .nil) (env:=QV4) (S:=S) (d:=.ref QL) (S':=S++QD0) (by simp only[ev,evs,Rk0];exact iP0 Q6);have s2:=Xs (i:=3) (F:=F) (G:=G) (e:=.var 0) (env:=[yz n,yz s,yz QB,yy,yy,yy]) (S:=S++QD0) (d:=n) (S':=S++QD0) (by simp only[ev,gZ0]);have s3:exe F G (.for QP (.rng (.cons QE (.cons QH QX5))) Q87) Qi3 QK4=.ok Qu5 Q55:=by simp only[exe,evit,evs,ev,gZ0,gS0,Rk0,hr,Src.most];exact r1
 refine Ye (env:=QV4) rfl rfl ?_;refine(Xb L).trans (QH4.trans (QG4.trans Qk1));simp only[exe,ev,evs,r3,Rk0,Xso,l1,Xm,Xp,l2,Xa,List.map_reverse]
theorem X0m(hw:Yl F iw)(hm:Xdp F im)(hs:s<=12)(hn:n<=1000000000000)(S:Sto):∃y X,den F G Q77 Qm0 S=.ok Qm6 QW/\Xd3 0 s n y:=by
 obtain⟨w,e,L,r2,r3⟩:=Xmi (G:=G) (n:=n) (s:=s) (q:=ll S) hw hm rfl hs s QN 0 n yy yy QK4 [] (Va4 s) (Vcm s) hn Xf Qn6;have e2:(S++[O.lst []]).set QL (.lst ([]++w.map D.int))=S++QJ1:=by rw[Vfr _ _ Qs2,Vad,Uw];rfl
 rw[e2]at L;refine⟨w.reverse,QJ1++Qe5,?_,r2⟩;rw[<-Vq];refine X0l (Xpc hs) ?_ r3;rw[Vg,Ut];exact L
universe e
def UpS(S S':Sto):Prop:=∀(n:Nat) o,S[n]?=yz o->S'[n]?=yz o
section
variable{S S' S2 X:Sto}
theorem UpS.refl:UpS S S:=λ_ _ h=>h
theorem UpS.trans(a:UpS S S')(b:UpS S' S2):UpS S S2:=λn o h=>b n o (a n o h)
theorem UpS.app:UpS S QW:=λn o h=>by rw[Vv Qq7.1];exact h
theorem UpS.set{q:Nat}{o:O}(a:UpS S S')(L:QL<=q):UpS S (S'.set q o):=λn u h=>by rw[Vap (λz=>by have:=Qq7.1;omega)];exact a n u h
theorem UpS.lst{q:Nat}{xs:LD}(a:UpS S S')(h:Xc S q=yz xs):Xc S' q=yz xs:=Xwf (a q _ (Xbz h))
theorem UpS.len(a:UpS S S'):QL<=ll S':=by
 cases h:QL with
 |zero=>omega|succ n=>have:=(Vd.mp (a n _ (Ug (show n<ll S by omega)))).1;omega
universe e
theorem Xry(ks:LL):Y7 (ks.map Xa)=yz ks:=Xob ks
noncomputable def leE:Ex:=.ite QL5 (.bin .sub (.bin .add (.idx QT Qe3) Q1) QA) QH
noncomputable def xtE:Ex:=.cmr yw 2 (.cons QS8 (.rng Q36) .nil .nil) (.bin .add QT QO3)
noncomputable def Xtt:Sts:=.cons Q46 (.cons (.expr (.mth .xtd Qr (.cons xtE .nil))) .nil)
noncomputable def Xtu:Sts:=.cons Qb6 (.cons (.for QT Qs5 Xtt) (.cons (.asg Qb Qr) .nil))
noncomputable def Xm8:Df:=⟨3,8,.cons Qw2 (.cons (.for QP (.rng Qz) Xtu) (.cons (.ret Qb) .nil))⟩
section
variable{F:Fn}{G:LD}{S:Sto}{far ag size:Int}{one:LI}{k q3 q5:Nat}{x4 x7:Option D}
theorem Yd2:ev F G leE Qh S=.ok QV7 S:=by
 have aa:ev F G QL5 Qh S=.ok (.bl (!decide (one=[]))) S:=by simp only[ev,evs,gZ0,gS0,Rk0,Uk];rw[iP0 Q6,Rk0];exact X5c one [] S
 unfold leE;rw[ev,aa,Rk0];cases e:one.getLast? with
 |none=>have z:=List.getLast?_eq_none_iff.mp e;subst z;rfl|some x=>
  have hz:one≠[]:=λz=>by rw[z]at e;cases e
  have hl:0<ll one:=List.length_pos_iff.mpr hz;have hx:one[ll one-1]?=yz x:=by rw[<-List.getLast?_eq_getElem?];exact e
  have hi:ixN Qi0.length (-1)=yz (ll one-1):=by rw[Vg];unfold ixN;rw[iN0 Q0,iP0 Q0];congr 1;omega
  have L:Y8 QN3 Qy4 S=.ok QV6 S:=by
   have:Qi0[ll one-1]?=yz QV6:=by rw[Vx,hx];rfl
   simp only[Xa,Y8,Xap,Xp,V1,hi,this]
  rw[decide_eq_false hz];simp only[Vdv,Xe,ev,gZ0,gS0,Rk0,L,Xy,X7];rw[show leI ag one=x+1-ag by simp only[leI,e]]
variable(h:Rsg ag far k one)(hk:k<=100)(h0:0<=ag)(h1:ag<=1)(hf0:0<=far)(hf:far<=1000)
include h h0 h1 hf0 hf
theorem Xw4:0<=leI ag one/\leI ag one<=1000:=by
 refine⟨Xw1 h1 h,?_⟩;unfold leI;cases e:one.getLast? with
 |none=>simp|some x=>have:=h.2.2 x (Vic e);show x+1-ag<=1000;omega
theorem X0n:QY.length<=1000:=by have:=Xw4 h h0 h1 hf0 hf;simp only[Xac,Vg,Ut];omega
include hk
theorem Yd3:ev F G xtE Q2 S=.ok QB (S++[.lst QR]):=by
 have bd:=Xw4 h h0 h1 hf0 hf;have hr:Yn QD5=yz Qw:=by simp only[Yn];exact iP0 Qe0
 have aa:evs F G Q36 Q2 S=.ok QD5 S:=by simp only[evs,ev,gZ0,gS0,Rk0]
 obtain⟨e',S1,h2,rfl,_⟩:=Xdd (F:=F) (G:=G) (t:=.var 9) (n:=2) (elt:=.bin .add QT QO3) (env:=Q2) (S:=S) (S1:=S) (src:=.con Qw)
  Qw (λi=>Xa QY3)
  (λ_ e S1=>S1=S/\∃x,e=[yz QF,yz Q8,yz QJ,yz QM,x4,yz Qz7,yz QN3,yz QV7,yy,x]) (Xje aa hr) rfl (by rw[Vg,Ut];exact Yy Q0) QT3 QO5
  (λi d e S1 hd hP=>by
   obtain⟨rfl,x,rfl⟩:=hP;rw[Vx,Ud]at hd;obtain⟨j,hj,rfl⟩:=hd;obtain⟨ab,L⟩:=Vd.mp hj;rw[Vgw]at L;subst L;refine Qn3;have e2:Qi0.length+[D.int (leI ag one+(i:Int))].length<=big:=by rw[Vg,h.1];exact Yy QK6
   simp only[ev,evs,Vax,gZ0,gS0,Rk0,Uk];rw[iP0 Q6,Rk0]
   simp only[Xa,Xw,e2,if_true,Vav,Ua,Vbq])
 rw[Vg,Ut]at h2;have em:(Vl (far-leI ag one).toNat).map (λ(i:Nat)=>Xa QY3)=QY.map Xa:=by unfold Xac;rw[Vae];rfl
 rw[em]at h2;exact h2
theorem Yd4{acc:LD}(hq:Xc S q5=yz acc)(hl:QD4<=900000):
  pe F G Xtt Qh S=.ok QY8 QR2:=by
 have s1:exe F G Q46 Qh S=.ok QY8 S:=Xs Yd2;have x:=Yd3 (F:=F) (G:=G) (S:=S) (size:=size) (q3:=q3) (x4:=x4) (q5:=q5) h hk h0 h1 hf0 hf;have el:=X0n h h0 h1 hf0 hf;have L:Xc Q11 q5=yz acc:=Xk hq;have aa:Xc Q11 QL=yz QR:=Xf;unfold Xtt;rw[Xb s1,pe];have hm:Yx .xtd Qz7 [.ref QL] Q11=.ok .non QR2:=by
  have:QD4+QR.length<=big:=by rw[Vg];unfold big;omega
  simp only[Yx,show lstM Q11 q5=yz acc from L,aa,this,if_true]
 simp only[exe,ev,evs,gZ0,gS0,Rk0,Xah,hq,Vby,if_true,x,hm,pe]
universe e
section
variable{F:Fn}{G:LD}{S:Sto}{far ag:Int}(h0:0<=ag)(h1:ag<=1)(hf0:0<=far)(hf:far<=1000)
include h0 h1 hf0 hf
theorem Yd5{size:Int}{k q3:Nat}{L:LL}{x4 x5 x6 x7:Option D}(hk:k<=100)(hs:∀y∈L,Rsg ag far k y)(hl:Qr1.length<=900000)(hq:Xc S q3=yz (L.map Xa)):
  ∃S' q y6 y7,pe F G Xtu QW2 S=.ok (.nx [yz QF,yz Q8,yz QJ,yz Q3,x4,yz Q3,y6,y7]) S'/\UpS S S'/\Xc S' q=yz (Qr1.map Xa)/\QL<=q:=by
 have s1:exe F G Qb6 QW2 S=.ok (.nx QJ2) QK4:=Xs QM3;obtain⟨e',S',h2,y6,y7,rfl,u,aa⟩:=Xg5 (F:=F) (G:=G) (t:=.var 6) (e0:=.var 3) (b:=Xtt) (env:=QJ2) (S:=S++QD0) (S1:=S++QD0) (r:=q3) (xs:=L.map Xa)
  (λi e S'=>∃y6 y7,e=[yz QF,yz Q8,yz QJ,yz QM,x4,yz QB,y6,y7]/\UpS S S'/\Xc S' QL=yz (QA4.map Xa))
  QM0 Q09 (λi e S' ⟨_,_,_,u,_⟩=>u.lst hq) ⟨x6,x7,rfl,.app,Xf⟩
  (λi d e S' hd ⟨y6,y7,he,u,aa⟩=>by
   subst he;rw[Vx,Ud]at hd;obtain⟨one,ho,rfl⟩:=hd;have tl:QA4.length<=Qr1.length:=by
    conv=>rhs;rw[<-U3 i L,Vbm,V4]
    exact Ver _ _
   have b:=Yd4 (F:=F) (G:=G) (size:=size) (q3:=q3) (x4:=x4) (x7:=y7) (hs one (U0 ho)) hk h0 h1 hf0 hf aa Qx1;refine⟨_,_,_,rfl,b,_,_,rfl,Qt3.set Qs2,?_⟩;rw[Xa0 (by rw[V4];have:=Xab aa;omega),Vg3,ho,Vbm,Vav]
   simp)
 rw[Vg,Vb2]at aa;refine⟨S',ll S,y6,y7,?_,u,aa,Vi _⟩;unfold Xtu;rw[Xb s1,Xb h2];simp only[pe,exe,ev,gZ0,gS0,Rk0,Xn,Vax]
theorem X0o{size:Nat}(hs:size<=12)(hB:∀i,i<=size->Qv3.length<=900000):∃S' q,den F G Xm8 Qk3 S=.ok Q3 S'/\UpS S S'/\Xc S' q=yz Qq6/\QL<=q:=by
 have s1:exe F G Qw2 Qy2 S=.ok (.nx QX2) (S++QV3):=Xs (by simp only[ev,evs,Rk0,Uk];rfl);obtain⟨xs,hx,ae⟩:=Xa9 (m:=(size:Int)) Q0 Q0;have aa:Qz6=size:=by omega
 obtain⟨e',S',h2,q,x4,x5,x6,x7,rfl,u,L,hl⟩:=Xbq (F:=F) (G:=G) (t:=.var 4) (es:=.cons QE .nil) (b:=Xtu) (env:=QX2) (S:=S++QV3) (S1:=S++QV3) (ds:=[.int size]) (xs:=xs)
  (λi e S'=>∃q x4 x5 x6 x7,e=[yz QF,yz Q8,yz QJ,yz Q3,x4,x5,x6,x7]/\UpS S S'/\Xc S' q=yz (Qv3.map Xa)/\QL<=q)
  (by simp only[evs,ev,gZ0,gS0,Rk0]) hx ⟨QL,yy,yy,yy,yy,rfl,.app,Xf,Vi _⟩
  (λi d e S' hd ⟨q,x4,x5,x6,x7,he,u,L,hl⟩=>by
   subst he;have hi:=Q64.1;obtain⟨rfl,_⟩:=Xb3 hx hd;obtain⟨S2,q2,y6,y7,b,u2,ac,ab⟩:=Yd5 (F:=F) (G:=G) (S:=S') h0 h1 hf0 hf (size:=size) (q3:=q) (x4:=yz Qv) (x5:=x5) (x6:=x6) (x7:=x7) (k:=i) Q0 (λy hy=>(Xhd h1).mp hy) (hB QF5 Q0) L
   exact⟨_,_,S2,rfl,b,q2,_,_,y6,y7,rfl,u.trans u2,ac,V2 u.len ab⟩)
 rw[aa]at L;refine⟨S',q,?_,u,L,hl⟩;refine Ye (env:=Qy2) rfl rfl ?_;exact Q73.trans (Q19.trans (Xg (by simp only[exe,ev,gZ0,gS0,Rk0])))
universe e
noncomputable def Xcn(many size ag:Nat):Nat->Nat->Nat
 |0,far=>far|f+1,far=>if C QT0 size<many then Xcn many size ag f Q47 else far
theorem Xw5{many size ag:Nat}:∀f far:Nat,many<=C (far+f+Qa0*ag) size->many<=C Q63 size/\Xcn many size ag f far<=far+f/\(Xcn many size ag f far=far\/far<Xcn many size ag f far/\C (Xcn many size ag f far-1+Qa0*ag) size<many)
 |0,far,h=>⟨h,Vi _,.inl rfl⟩|f+1,far,h=>by
  simp only[Xcn];split
  ·rename_i c;obtain⟨a,b,d⟩:=Xw5 (many:=many) (size:=size) (ag:=ag) f Q47 (by rw[show far+1+f=far+(f+1) by omega];exact h);refine⟨a,by omega,.inr ?_⟩;rcases d with d|⟨L,d2⟩;·rw[d];exact⟨by omega,by rw[Ve3];exact c⟩
   ·exact⟨by omega,d2⟩
  rename_i c;exact⟨by omega,by omega,.inl rfl⟩
noncomputable def frT(iw:Nat):Ex:=.and (.cmp .gt QE QH) (.cmp .lt (.call iw (.cons (.bin .add Qb (.bin .mul (.bin .sub QE Q1) QA)) Qz)) QD)
noncomputable def frB:Sts:=.cons (.asg Qb (.bin .add Qb Q1)) .nil
noncomputable def Xm9(iw ic:Nat):Df:=⟨3,5,.cons Qs6 (.cons Qf2 (.cons (.rsk (.call ic (.cons Qb (.cons QE Qm))) QD) .nil))⟩
section
variable{F:Fn}{G:LD}{S:Sto}{many size ag iw:Nat}{x:Option D}
theorem Xw6(hw:LWaysF F iw)(h1:1<=size)(hs:size<=12)(ha:ag<=1){far:Nat}(hf:far<=1000):
  Xcm F G QH8 QV1 S=.ok (decide QI5) S:=by
 have e1:((far:Int)+Q14*(ag:Int))=((far+Qa0*ag:Nat):Int):=by rw[show Q14=((size-1:Nat):Int) by omega];simp
 have hm:Yt Q14 (ag:Int)=true:=Xc3 Q0 Q0;have b:Qa0*ag<=11:=V2 (Nat.mul_le_mul (show size-1<=11 by omega) ha) Q6;have L:=hw QT0 size S (Vcl (show far+Qa0*ag<=1011 by omega) Q6) Q0;have g1:Xh .gt Q8 (.int 0) S=.ok Qo0 S:=by have:decide ((0:Int)<size)=true:=decide_eq_true Q0;simp only[Xh,X0,this]
 have g2:Xh .lt (.int (C QT0 size)) Q70 S=.ok (.bl (decide QI5)) S:=by simp only[Xh,X0,ltD,Int.ofNat_lt]
 simp only[Xcm,frT,ev,evs,gZ0,gS0,Rk0,g1,Xe,X7,Xbf hm,Xy,e1,L,g2]
theorem Xrz(hw:LWaysF F iw)(h1:1<=size)(hs:size<=12)(ha:ag<=1):∀(f far L:Nat),f<L->far+f<=1000->¬ C Q63 size<many ->
  Yo (Xcm F G QH8) QX3 L QV1 S=.ok (.nx [yz Q70,yz Q8,yz QJ,yz (.int (Xcn many size ag f far)),x]) S
 |f,far,0=>λh _ _=>by omega|0,far,L+1=>λ_ hb h=>by simp only[Xcn]at h;rw[Yo,Xw6 hw h1 hs ha Q0,decide_eq_false h];rfl|f+1,far,L+1=>λhf hb h=>by
  rw[Yo,Xw6 hw h1 hs ha Q0];by_cases c:C QT0 size<many
  ·simp only[Xcn,iP0 c]at h ⊢;rw[decide_eq_true c];have eb:pe F G frB QV1 S=.ok (.nx [yz Q70,yz Q8,yz QJ,yz (.int QZ),x]) S:=by
    simp only[frB,pe,exe,ev,gZ0,gS0,Rk0,Xy,Xn,Vax];rfl
   dsimp only;rw[eb];exact Xrz hw h1 hs ha f Q47 L Q0 Q0 h
  simp only[Xcn,iN0 c]at h ⊢;rw[decide_eq_false c]
def ChF(F:Fn)(ic:Nat):Prop:=∀(far ag size:Nat) (S:Sto),size<=12->ag<=1->far<=1000->(∀i,i<=size->Qv3.length<=900000)->∃S' q,F ic Qk3 S=.ok Q3 S'/\UpS S S'/\Xc S' q=yz Qq6/\QL<=q
theorem Ya8{T:List Df}{ic:Nat}(h:T[ic]?=yz Xm8)(k:Nat):ChF Qe4 ic:=λfar ag size S a b c d=>by simp only[FT,h];exact X0o Q0 Q0 Q0 Q0 a d
theorem Xpj{far ag k:Nat}(ha:ag<=1):(chs far ag k).length=C (far+ag*(k-1)) k:=by rw[<-Xbs ha k far,<-Xrx (k:=k) (f:=far) ha,Vg,QA7.length_eq,Vg]
theorem Xpk{ic far:Nat}(L:ChF F ic)(ab:exe F G Qf2 Qz0 S=.ok Qh2 S)(hs:size<=12)(ha:ag<=1)(hf:far<=1000)(hB:∀i,i<=size->C (far+ag*Qq8) i<90000):
  ∃S' q,den F G (Xm9 iw ic) [.int many,.int size,.int ag] S=.ok Q3 S'/\UpS S S'/\Xc S' q=yz ((QG5.take many).map Xa)/\QL<=q:=by
 obtain⟨S1,q1,c1,u1,l1,g1⟩:=L far ag size S hs ha hf (λi hi=>by rw[Xpj ha];have:=hB i hi;omega);have hr:Xke Q43=yz QG5:=by unfold Xke;rw[iP0 (by rw[Xpj ha];have:=hB size Qs2;omega),Xrx ha]
 generalize fon ag size far=r at hr ⊢;have hk:Xnn (.ref q1) S1=.ok Qt0 Qy7:=by simp only[Xnn,l1,V1,Xry,hr];rfl
 have hc:cut QC1 yy Qf5=(r.take many).map Xa:=by rw[Xie,Vgc]
 have aa:Xal Qt0 yy Qf5 Qy7=.ok (.ref Q83.length) (S1++QN4++QW3):=by simp only[Xal,show Xc Q83 Qt4=yz QC1 from Xf,hc]
 refine⟨S1++QN4++QW3,Q83.length,?_,(u1.trans .app).trans .app,Xf,by have:=u1.len;rw[V4];omega⟩;refine Ye (env:=Q34) rfl rfl ?_;have s0:exe F G Qs6 Q34 S=.ok (.nx Qz0) S:=Xs QQ5;refine(Xb s0).trans ((Xb ab).trans Qk1);rw[exe];simp only[ev,evs,evo,gZ0,gS0,Rk0,c1,hk,Xak,aa]
theorem X5p{B:Nat}(hw:LWaysF F iw)(h1:1<=size)(hs:size<=12)(ha:ag<=1)(hB:B<=1000)(L:many<=C (B+Qa0*ag) size)(S:Sto):∃far,far<=B/\many<=C QT0 size/\(far=0\/C (far-1+Qa0*ag) size<many) /\
  exe F G Qf2 Qz0 S=.ok Qh2 S:=by
 obtain⟨a,b,c⟩:=Xw5 (ag:=ag) B 0 (by rw[Va4];exact L);have hl:=Xrz (F:=F) (G:=G) (S:=S) (x:=yy) (many:=many) hw h1 hs ha B 0 100000 Q0 Q0 Q0;refine⟨_,by omega,a,?_,by rw[exe];exact hl⟩;rcases c with c|⟨_,c⟩;·exact .inl c
 ·exact .inr c
universe e
universe Z
universe e
section
namespace Z
theorem X5q{ag f L:Nat}(h:f<=L):∀k:Nat,∃r,fon ag k L=fon ag k f++r
 |0=>⟨[],rfl⟩|k+1=>by obtain⟨d,rfl⟩:∃d,L=f+d:=⟨L-f,by omega⟩;have e:fon ag Qb2 (f+d)=(Vl (f+d)).flatMap λj=>(fon ag k (j+ag)).map QB6:=rfl;rw[List.range_add,Vbm]at e;exact⟨_,e⟩
theorem X0p{ag k f L m:Nat}(ha:ag<=1)(h:f<=L)(hm:m<=C (f+ag*(k-1)) k):(fon ag k f).take m=(fon ag k L).take m:=by obtain⟨r,e⟩:=X5q (ag:=ag) h k;rw[e,Vbl (by rw[Xbs ha];exact hm)]
noncomputable def tb1(l:LI):Bool:=decide QT6&&decide (16<l.getD 1 0)
noncomputable def tb2(l:LI):Bool:=QT1.any Ql8
theorem Xik{g:Nat->Nat->Nat}{l:LI}(h:Yd g l=.non):∀s,s<ll l->X6 g l s=false:=λs hs=>by
 unfold Yd at h;cases e:QH0.find? (X6 g l) with
 |some p=>rw[e]at h;cases h|none=>have:=List.find?_eq_none.mp e s (Va6.mpr hs);simpa using this
theorem Xw7{g:Nat->Nat->Nat}{l:LI}(h:Yd g l=.non)(s:Nat):0<=l.getD s 0:=by
 by_cases c:s<ll l;·exact(Xpg (Xik h s c)).1
 ·rw[Uj,Vd2 Q0];exact Vhg _
theorem X5r{l:LI}(h:∀s,0<=l.getD s 0):decide (QT1.filter (λx=>decide (0<x))=[]) = !tb2 l:=by
 have hd:∀x∈l.drop 7,0<=x:=λx hx=>by obtain⟨i,hi⟩:=Vfp.mp hx;rw[Vgn]at hi;have:=h (7+i);rwa [Uj,hi]at this
 unfold tb2;generalize l.drop 7=m at hd ⊢;induction m with
 |nil=>rfl|cons x m ih=>
  have h0:=hd x Uv;have ih:=ih λy L=>hd y (U2 _ L);by_cases c:x=0;·subst c;rw[List.filter_cons_of_neg Qk,Vhi,ih];rfl
  ·rw[List.filter_cons_of_pos (by simpa using (by omega:0<x)),Vhi];simp[c]
universe Z
universe e
section
namespace Z
open PySem PySem.Spec PyProof.Rows L2
noncomputable def e59:Int:=10^(59:Int).toNat
theorem Yfd(S:Sto):Xw .pow (.int 10) Q38 S=.ok QT7 S:=Xg0 Qb0 S
theorem Yd6:e59<=(mx:Int)/\0<=e59:=by decide+kernel
theorem Xhg{S:Sto}{d:D}{t:Str}(h:Xff S d=yz t):Xm .repr [d] S=.ok QT8 S:=by simp only[Xm,h]
theorem Yz{p:Nat}{S:Sto}{l:LI}(h:Xd1 l)(hl:Qq0<=100):Kp p S Q5:=λS' _=>by refine⟨(X42 h).mono Q0 Q0,Xfu S' _ (λ_ z=>nomatch z) (λ_ _ z=>nomatch z),λys z=>?_⟩;injection z with z;subst z;refine⟨λx hx=>?_,by rw[Vg];omega⟩;obtain⟨i,_,rfl⟩:=Uc.mp hx;exact Xia S' i
noncomputable def tkE(it:Nat)(e:Ex):Ex:=.call it (.cons QD (.cons e .nil))
noncomputable def X0q(inx:Nat):St:=.ite QK3 (.cons QQ0 .nil) .nil
noncomputable def drX(it:Nat):Exs:=.cons QT (.cons (tkE it (.bin .add QT Q1)) .nil)
noncomputable def X0r(it:Nat):St:=.expr (.mth .append QP (.cons Qi2 .nil))
noncomputable def drB(it inx:Nat):Sts:=.cons Qt6 (.cons Qp7 (.cons QN8 .nil))
noncomputable def Xtv(it inx:Nat):Df:=⟨4,7,.cons Q13 (.cons (.for Qr (.rng Qa1) (drB it inx)) (.cons (.ret (.blt .tuple Qh3)) .nil))⟩
section
variable{F:Fn}{G:LD}{it inx p q kd pts most:Nat}{S0 S:Sto}{l:LI}{x6:Option D}
structure Bds(kd pts most:Nat)(B:Nat->Nat):Prop where
 b0:1<=B 0
 b1:pts<=B 1
 up:∀s n,1<=s->s+1<most->n<=B s->abv Qr8 s n<=B QN
 le:∀s,s+1<most->B s<=1000000000000
 mx:∀s,s<most->B s+1<=mx
 mo:most<=12
def InB(B:Nat->Nat)(l:LI):Prop:=∀j,j<ll l->0<=l.getD j 0/\l.getD j 0<=(B j:Int)
variable{B:Nat->Nat}(hb:Bds kd pts most B)
include hb
theorem Ya9(hN:Xg9 F inx kd)(k:Kq p q S0 l S){pl:Nat}(h1:1<=pl)(h2:pl<most)(hl:Qq0=pl)(hi:InB B l):
  ∃(far:Nat) (S':Sto),far<=B pl/\Kq p q S0 l S'/\exe F G Qp7 QK0 S=.ok QW8 S':=by
 have mo:=hb.mo;by_cases c:1<pl
 ·have hd:decide Q85=true:=decide_eq_true Q0;have L:ev F G QK3 QK0 S=.ok Qo0 S:=by
   simp only[ev,gZ0,gS0,Rk0,Xh,X0,hd]
  obtain⟨n,rfl⟩:∃n,pl=n+1:=⟨pl-1,by omega⟩;have hx:=Xz0 k.row hl;have hv:=hi n Q0;have bl:=hb.le n Q0;have ex:l.getD n 0=(QD3.toNat:Int):=by omega
  obtain⟨X,h⟩:=hN QD3.toNat n S Q0 Q0 Q0;have bd:=hb.up n QD3.toNat Q0 Q0 Q0;rw[<-ex]at h;have e0:Qc6-1=(n:Int):=by omega
  generalize abv Qr8 n QD3.toNat=A at h bd;refine⟨A,S++X,bd,k.app,?_⟩;have aa:∀S:Sto,ev F G Qe3 Q71 S=.ok Qy4 S:=λ_=>rfl;have ha:exe F G QQ0 Q71 S=.ok (.nx [yz QC,yz Qu,yz Q9,yz QX,yz Q3,yz (.int Qc6),yz (.int A)]) QW:=Xs (by rw[ev,evs];simp only[ev,evs,aa,gZ0,gS0,Rk0,X7,e0,hx,h]);unfold X0q;rw[exe,L,Rk0];simp only[Xe];rw[Xb ha,pe]
 ·have hd:decide Q85=false:=decide_eq_false Q0;have L:ev F G QK3 QK0 S=.ok QM2 S:=by
   simp only[ev,gZ0,gS0,Rk0,Xh,X0,hd]
  obtain rfl:pl=1:=by omega
  exact⟨pts,S,hb.b1,k,Xz L⟩
theorem Yba(hT:Xg2 F it)(L:q≠p)(hq:Q27<=q)(k:Kq p q S0 l S){pl far:Nat}(h2:pl<most)(hf:far<=B pl)(hl:Qq0=pl):
  ∃(y:Nat) (S':Sto),y<=B pl/\Kq p q S0 (l++Qh8) S'/\exe F G QN8 Qg S=.ok QW8 S':=by
 have mo:=hb.mo;have bm:=hb.mx pl h2;obtain⟨v,hv⟩:=k.pot;have ef:(far:Int)+1=QZ:=by omega
 have t:=hT p v QZ S hv Q0 (Ya4 (n:=far+1) Q0 Q0);have n0:=Vgj v (show QZ≠0 by omega);have n1:=Vfc v (show(0:Int)<QZ by omega);obtain⟨r,hr⟩:∃r:Nat,v%((far+1:Nat):Int)=(r:Int):=⟨(v%QZ).toNat,by omega⟩;rw[hr]at t n1;have k1:=k.setp L (v/QZ);have p1:Xc (S.set p QR7) p=yz QW4:=Xa0 (Xab hv);generalize S.set p QR7=S1 at t k1 p1;generalize v/QZ=v1 at p1;have he:evs F G (drX it) Qg S=.ok QH3 S1:=by simp only[drX,tkE,evs,ev,gZ0,gS0,Rk0,Xy,ef,t]
 obtain⟨d,md,ed⟩:=Xzu (G:=G) hT (q:=0) (c:=2) (p:=p) (v:=v1) he rfl Q6 Qa4 d2 rfl p1;have hd:∃n:Nat,d=.int n/\n<=far:=by
  simp only[V0,Vaf,or_false]at md;rcases md with rfl|rfl;·exact⟨far,rfl,Vi _⟩
  ·exact⟨r,rfl,by omega⟩
 obtain⟨n,rfl,hn⟩:=hd;have k2:=(k1.app (X:=[.lst QH3])).setp L QB9;generalize (S1++[O.lst QH3]).set p (.lst [.int QB9])=S2 at ed k2;have aa:=Xg4 (x:=.int (n:Int)) k2.row Qx1;have ac:Xah .append Q3 S=true:=by simp only[Xah,k.row,Vby]
 have em:l.map D.int++[D.int (n:Int)]=(l++Qj8).map D.int:=by simp
 rw[em]at aa;refine⟨n,_,by omega,k2.setq (l':=l++Qj8) L hq,?_⟩;have ab:ev F G Qi2 Qg S=.ok Q65 S2:=ed;unfold X0r;simp only[exe,ev,evs,gZ0,gS0,Rk0,ac,if_true]at ab ⊢;rw[ab];simp only[Rk0,aa]
theorem X0s(hT:Xg2 F it)(hN:Xg9 F inx kd)(hm:1<=most){v:Int}(hp:Xc S p=yz QT2):
  ∃(l:LI) (S':Sto),den F G (Xtv it inx) [.ref p,.int kd,.int pts,.int most] S=.ok Q5 S'/\1<=ll l/\Qq0<=most/\InB B l/\Ext p S S'/\∃v,Xc S' p=yz QT2:=by
 have mo:=hb.mo;have ae:=Xab hp;have s1:exe F G Q13 Qz2 S=.ok (.nx Qs0) Qc3:=Xs QM3;have dm:Yw (most:Int)=true:=by
  have:∀j:Fin 13,1<=j.val->Yw Qx5=true:=by decide+kernel
  exact this ⟨most,by omega⟩ hm
 have t:=hT p v (most:Nat) Qc3 (Xk hp) Q0 dm;have n0:=Vgj v (show QE2≠0 by omega);have n1:=Vfc v (show(0:Int)<QE2 by omega);obtain⟨r,hr⟩:∃r:Nat,v%((most:Nat):Int)=(r:Int):=⟨(v%QE2).toNat,by omega⟩;rw[hr]at t n1;have k0:Kq p QL S [1] (QS5.set p QQ3):=Kq.setp (p:=p) (q:=ll S) (S0:=S) (l:=[1]) ⟨.app,⟨v,Xk hp⟩,Xf⟩ Q0 _;generalize QS5.set p QQ3=S1 at t k0;have ac:evs F G Qa1 Qs0 Qc3=.ok QB4 S1:=by simp only[tkE,evs,ev,gZ0,gS0,Rk0,t,Xy]
 have aa:Yn QB4=yz ((Vl r).map λ(k:Nat)=>D.int (1+(k:Int))):=by simp only[Yn];rw[iP0 Qe0,show(1+(r:Int)-1).toNat=r by omega]
 obtain⟨e',S',h2,l,x5,x6,rfl,k',hl,hi⟩:=Xbq (F:=F) (G:=G) (t:=.var 5) (b:=drB it inx) (env:=Qs0) (S:=S++[.lst Qm1])
  (λi e S'=>∃(l:LI) (x5 x6:Option D),e=[yz QC,yz Qu,yz Q9,yz QX,yz QB,x5,x6]/\Kq p QL S l S'/\Qq0=i+1/\InB B l)
  ac aa ⟨[1],yy,yy,rfl,k0,rfl,λj hj=>by
   obtain rfl:j=0:=by simpa using hj
   have:=hb.b0;show(0:Int)<=1/\(1:Int)<=_;omega⟩
  (λi d e S' hd hP=>by
   obtain⟨l,x5,x6,rfl,k',hl,hi⟩:=hP;rw[Vx,Ud]at hd;obtain⟨j,hj,rfl⟩:=hd;obtain⟨ab,L⟩:=Vd.mp hj;rw[Vgw]at L;subst L;rw[Ut]at ab;have ei:(1+(i:Int))=Qc1:=by omega
   have a1:exe F G Qt6 [yz QC,yz Qu,yz Q9,yz QX,yz QB,yz QK5,x6] S'=.ok (.nx [yz QC,yz Qu,yz Q9,yz QX,yz QB,yz QK5,yz Q9]) S':=Xs QM0;obtain⟨far,S2,f1,k2,a2⟩:=Ya9 (F:=F) (G:=G) hb hN k' (pl:=i+1) Q0 Q0 hl hi;obtain⟨y,S3,y1,k3,a3⟩:=Yba (F:=F) (G:=G) hb hT Q0 Qs2 k2 (pl:=i+1) (far:=far) Q0 f1 hl;refine⟨_,_,S3,rfl,?_,l++Qh8,yz QK5,yz QF,rfl,k3,by simp[hl],λj hj=>?_⟩;·rw[ei];unfold drB;exact(Xb a1).trans ((Xb a2).trans ((Xb a3).trans Qo1))
   ·rw[V4,Vfn]at hj;by_cases c:j<ll l;·rw[Uj,Vv c,<-Uj];exact hi j c
    ·obtain rfl:j=ll l:=by omega
     rw[Uj,Uz Qs2,Vad];show 0<=(y:Int)/\(y:Int)<=_;rw[hl];omega)
 rw[Vg,Ut]at hl;refine⟨l,S',?_,by omega,by omega,hi,k'.ex,k'.pot⟩;refine Ye (env:=Qz2) rfl rfl ?_;refine Q73.trans (Q19.trans Qk1);simp only[exe,ev,evs,gZ0,gS0,Rk0,Xm,Xp,k'.row,Xa]
universe e
noncomputable def i1E:Ex:=.cst QK
noncomputable def Xdg:Ex:=.bin .pow QW5 QM1
noncomputable def X0t:Ex:=.bin .pow QW5 (.cst Q38)
noncomputable def spO:Exs:=.cons QZ7 (.cons Qf3 (.cons (.cst (.str "1")) (.cons Q90 (.cons QN7 (.cons Q31 (.cons Q05 (.cons X0t .nil)))))))
noncomputable def spH:Ex:=.sli QE .none Q93
noncomputable def spT:Ex:=.sli QE Ql3 .none
noncomputable def sp3:Exs:=.cons QO1 (.cons Qk2 (.cons Qz4 .nil))
noncomputable def spZ:Ex:=.bin .add QE Qm3
noncomputable def sp5:Exs:=.cons QG0 (.cons QP3 (.cons spZ (.cons Qv5 (.cons Qf3 .nil))))
noncomputable def sp7:Exs:=.cons Qz1 (.cons Q90 (.cons (.tup (.cons i1E QC0)) (.cons (.tup (.cons i1E QN1)) (.cons (.tup (.cons i1E (.cons (.cst (.int 17)) .nil))) (.cons QR4 (.cons Q75 .nil))))))
noncomputable def Xpl(it:Nat):Df:=⟨2,5,.cons QE1 (.cons Qd0
 (.cons Qn4 (.cons Ql2 (.cons (.ret (.bin .add QP QO7)) .nil))))⟩
noncomputable def Xil:LD:=[.bl yx,.non,.str "1",.tup Qm1,.int (-1),.int 2,.int Qu8,.int e59]
noncomputable def Xar(l:LI)(a:Nat)(od:D):LD:=[Yas l a Qm7 od,Xa QD2,Xa Q54]
noncomputable def Y0(l:LI)(a q:Nat):LD:=[Xa QF2,Xa QR6,Xa QG2,.ref q,.non]
noncomputable def Xco(l:LI):LD:=[Xa [],Xa [1],Xa [1,0],Xa Qc8,Xa Qb8,Xa Qb5,Xa QF8]
section
variable{F:Fn}{G:LD}{env:En}{S:Sto}{l:LI}{a:Nat}{od:D}
theorem Xa1{es:Exs}{ds:LD}{S1:Sto}(h:evs F G es env S=.ok ds S1)(hl:(ll ds)<=100):ev F G (.tup es) env S=.ok (.tup ds) S1:=by rw[ev,h,Rk0];exact iP0 Q57
theorem Yfe(a b:LI)(h:QD9+ll b<=900)(S:Sto):Xw .add Qo7 Qn7 S=.ok QL8 S:=by simp only[Xa,Xw,Vg];rw[iP0 Q57,Vav]
theorem Xb5{x y:Ex}{a b:LI}{S1 S2:Sto}(hx:ev F G x env S=.ok Qo7 S1)(L:ev F G y env S1=.ok Qn7 S2)(h:QD9+ll b<=900):ev F G (.bin .add x y) env S=.ok QL8 S2:=by rw[ev,hx,Rk0,L,Rk0,Yfe a b h]
theorem Ybb:evs F G spO env S=.ok Xil S:=by
 have h1:ev F G Q90 env S=.ok (.tup Qm1) S:=Xa1 (ds:=Qm1) QK1 Qk;have e5:ev F G QN7 env S=.ok Qy4 S:=rfl;have e7:ev F G Q05 env S=.ok (.int Qu8) S:=by simp only[i1E,Xdg,ev,Rk0,Xtr,Xy]
 have e8:ev F G X0t env S=.ok QT7 S:=by simp only[X0t,ev,Rk0,Yfd]
 have L:∀d,ev F G (.cst d) env S=.ok d S:=λd=>by simp only[ev]
 unfold spO Xil;rw[evs,L,Rk0,evs,L,Rk0,evs,L,Rk0,evs,h1,Rk0,evs,e5,Rk0,evs,L,Rk0,evs,e7,Rk0,evs,e8,Rk0,evs];simp only[Rk0]
theorem Ybc{p:Nat}:∀d∈Xil,El p S d:=by
 intro d hd;unfold Xil at hd;simp only[V0,Vaf,or_false]at hd;rcases hd with rfl|rfl|rfl|rfl|rfl|rfl|rfl|rfl;·exact Xc4 Ydu Q0 Q0
 ·exact Xc4 Xwg Q0 Q0
 ·exact Xc4 (Xwh Qb0) Q0 Q0
 ·exact Xc4 (Yam (Xo5 Q6)) Q0 Q0
 ·exact Xeh Q6
 ·exact Xeh Q6
 ·exact Xeh (by rw[Xf1];decide)
 exact Xeh (Xjq (by have:=Yd6;omega))
variable(h1:env[1]?=yz Qn8)(h2:env[2]?=yz (yz Qw0))(hl:Qq0<=12)(ha:a<ll l)
include h1
theorem Xw8(hl:Qq0<=12):ev F G spZ env S=.ok (Xa QG2) S:=by
 have ht:ev F G (.tup QC0) env S=.ok QK8 S:=Xa1 (ds:=Q89) Qj1 Qk;have hr:Xw .mul QK8 Q48 S=.ok Q06 S:=by have:=X40 (x:=Qa8) (k:=12) (S:=S) Q6 (Yy Q6) Q6 rfl;exact this
 have L:ev F G Qm3 env S=.ok Q06 S:=by rw[ev,ht,Rk0];simp only[ev,Rk0];exact hr
 unfold spZ;exact Xb5 Qv4 L (by rw[Vhv];omega)
theorem Ybd(hl:Qq0<=12):evs F G sp7 env S=.ok Qa3 S:=by
 have e1:∀S,ev F G Qz1 env S=.ok (Xa []) S:=λS=>Xa1 (ds:=[]) (by simp only[evs]) Qk;have e2:∀S,ev F G Q90 env S=.ok (Xa [1]) S:=λS=>Xa1 (ds:=Qm1) QK1 Qk;have L:∀(n:Int) S,ev F G (.tup (.cons i1E (.cons Qa7 .nil))) env S=.ok (Xa [1,n]) S:=λn S=>Xa1 (ds:=[.int 1,.int n]) QK1 Qk;have e4:∀S,ev F G QR4 env S=.ok (Xa Qb5) S:=λS=>by rw[<-Xf1];exact Xa1 (ds:=[.int 1,.int e12]) QU2 Qk
 have e5:∀S,ev F G Q75 env S=.ok (Xa QF8) S:=λS=>Xb5 Qv4 (e2 S) QV;unfold sp7 Xco;rw[evs,e1,Rk0,evs,e2,Rk0,evs,L,Rk0,evs,L,Rk0,evs,L,Rk0,evs,e4,Rk0,evs,e5,Rk0,evs];simp only[Rk0]
include h2
theorem Xpm(S:Sto):ev F G spH env S=.ok (Xa (l.take a)) S:=by have hs:=Xif l a S;simp only[spH,ev,evo,h1,h2,Rk0,Xak];exact hs
theorem Xw9(S:Sto):ev F G spT env S=.ok (Xa (l.drop Qm7)) S:=by have hs:=Xcf l Qm7 S;simp only[spT,i1E,ev,evo,h1,h2,Rk0,Xy,Xak];rw[show(a:Int)+1=Qd6 by omega];exact hs
include hl ha
theorem Ybe(h3:env[3]?=yz (yz od)):evs F G sp3 env S=.ok Qj0 S:=by
 have L:(a:Int)+1=Qd6:=by omega
 have e1:∀S,ev F G QO1 env S=.ok (Yas l a Qm7 od) S:=λS=>Yar (ir:=1) (ia:=2) (e:=.var 3) (eb:=.bin .add QA i1E) h1 h2 (by simp only[ev,h3]) (by simp only[i1E,ev,h2,Rk0,Xy,L]) Q0;have hi:∀S,ev F G QN0 env S=.ok (Xa [l.getD a 0+1]) S:=λS=>by have hx:=Xbr ha S;exact Xa1 (ds:=[.int (l.getD a 0+1)]) (by simp only[i1E,evs,ev,h1,h2,Rk0,hx,Xy]) Qk
 have e2:∀S,ev F G Qk2 env S=.ok (Xa QD2) S:=λS=>Xb5 (Xb5 QF4 (hi S) QV) QN6 QV;have e3:∀S,ev F G Qz4 env S=.ok (Xa Q54) S:=λS=>Xb5 QF4 QN6 QV;unfold sp3 Xar;rw[evs,e1,Rk0,evs,e2,Rk0,evs,e3,Rk0,evs];simp only[Rk0]
theorem Ybf:evs F G sp5 env S=.ok (Y0 l a QL) Q16:=by
 have hm:∀S,ev F G (.sli QE Q93 Ql3) env S=.ok (Xa Q15) S:=λS=>by
  have L:cut Q7 Qf6 QP5=Q15.map D.int:=by
   have c1:Xbj l.length 0 Qf6=a:=by unfold Xbj;simp only;rw[iP0 Q0];omega
   have c2:Xbj l.length l.length QP5=a+1:=by unfold Xbj;simp only;rw[iP0 Q0];omega
   unfold cut;rw[Vg,c1,c2,show a+1-a=1 by omega,Vgc,List.map_drop]
  simp only[i1E,ev,evo,h1,h2,Rk0,Xy,Xak,Xa,Xal,L]
 have hd:∀S,ev F G (.sli QE Q93 .none) env S=.ok (Xa (l.drop a)) S:=λS=>by have hs:=Xcf l a S;simp only[ev,evo,h1,h2,Rk0,Xak];exact hs
 have e1:∀S,ev F G QG0 env S=.ok (Xa QF2) S:=λS=>Xb5 (Xb5 QF4 (hm S) QV) (hd S) QV;have e2:∀S,ev F G QP3 env S=.ok (Xa QR6) S:=λS=>by have hs:=Xif QG2 12 S;rw[ev,Xw8 h1 hl,Rk0];simp only[evo,ev,Rk0,Xak];exact hs
 have e4:ev F G Qv5 env S=.ok QB Q16:=by simp only[ev,evs,h1,Rk0,Xa,Xm,Xp]
 have e5:∀S,ev F G Qf3 env S=.ok .non S:=λS=>by simp only[ev]
 unfold sp5 Y0;rw[evs,e1,Rk0,evs,e2,Rk0,evs,Xw8 h1 hl,Rk0,evs,e4,Rk0,evs,e5,Rk0,evs];simp only[Rk0]
universe e
theorem Xxa{F:Fn}{G:LD}{it p:Nat}{S:Sto}{l:LI}{v:Int}(hT:Xg2 F it)(h0:1<=ll l)(hl:Qq0<=12)(hn:∀x∈l,0<=x/\x+1<=mx)(hp:Xc S p=yz QT2):
  ∃q ts S',den F G (Xpl it) [.ref p,Xa l] S=.ok Q3 S'/\Xc S' q=yz ts/\(ll ts)=15/\(∀d∈ts,Kp p S' d)/\Ext p S S'/\q≠p:=by
 have nl:Xd1 l:=λx hx=>Xjq (by have:=hn x hx;omega);have dl:Yw QI1=true:=by
  have:∀j:Fin 13,1<=j.val->Yw Qx5=true:=by decide+kernel
  exact this ⟨l.length,by omega⟩ h0
 have d8:Yw 8=true:=by decide+kernel
 have t1:=hT p v Qy S hp Q0 dl;have n0:=Vgj v (show(Qy:Int)≠0 by omega);have n1:=Vfc v (show(0:Int)<(Qy:Int) by omega);obtain⟨a,ha⟩:∃a:Nat,v%((l.length:Nat):Int)=(a:Int):=⟨(v%(Qy:Int)).toNat,by omega⟩;rw[ha]at t1 n1;have ac:a<ll l:=by omega
 have s1:exe F G QE1 Qg4 S=.ok (.nx Qi1) QH1:=Xs (by simp only[ev,evs,gZ0,gS0,Rk0,Xha,t1]);have p1:Xc QH1 p=yz Qw6:=Xa0 (Xab hp);have x1:Ext p S QH1:=.set;generalize S.set p (.lst Qw6)=S1 at s1 p1 x1;generalize v/(Qy:Int)=v1 at p1;obtain⟨od,mo,eo⟩:=Xzu (G:=G) hT (q:=0) (c:=8) (p:=p) (v:=v1) (env:=Qi1) (Ybb (S:=S1)) rfl Q6 (by show 8<=big;decide) d8 rfl p1;have p2:=Xmd (ds:=Xil) (c:=8) p1;have x2:Ext p S (QH5.set p Ql4):=(x1.trans .app).trans .set;have s2:exe F G Qd0 Qi1 S1=.ok (.nx QP1) _:=Xs eo;generalize QH5.set p Ql4=S2 at s2 p2 x2;have h3:=Ybe (F:=F) (G:=G) (env:=QP1) (S:=S2) (od:=od) rfl rfl hl ac rfl;have s3:exe F G Qn4 QP1 S2=.ok (.nx Q02) (S2++Q88):=Xs (by rw[ev,h3,Rk0];exact iP0 (by show 3<=big;decide));have h5:=Ybf (F:=F) (G:=G) (env:=Q02) (S:=S2++Q88) (l:=l) (a:=a) rfl rfl hl ac;have q3:Xc Qq1 Q17=yz Qj0:=Xf;have x3:Ext p S Qq1:=x2.trans .app;have g3:p<Qq1.length:=by have:=Xab p2;rw[V4];omega
 have aj:Qq1.length≠p:=by omega
 generalize S2++[O.lst Qj0]=L at s3 h5 q3 x3 g3 aj;generalize Q17=r3 at s3 h5 q3;have q5:Xc Qk0 QS6.length=yz QS:=Xf;have al:=Xeg (a:=r3) (b:=QS6.length) (Xk (X:=Qa5) (Xk (X:=QS2) q3)) q5 (by show 3+5<=1000;decide)
 have s4:exe F G Ql2 QO2 L=.ok (.nx [yz QC,yz Q5,yz Qw0,yz od,yz (.ref Qk0.length)]) QE0:=Xs (by
  have ai:ev F G (.lst sp5) QO2 L=.ok (.ref QS6.length) (L++[.lst Q7]++[.lst QS]):=by rw[ev,h5,Rk0];exact iP0 (by show 5<=big;decide)
  rw[ev];simp only[ev,gZ0,gS0,Rk0]at ai ⊢;rw[ai];simp only[Rk0,al])
 have kq:∀(S':Sto),Xc S' Qg5=yz Q7->∀d∈Xar l a od++Y0 l a L.length,Kp p S' d:=λS' hq d hd=>by
  have hm:∀x∈l,x.natAbs.log2<1920:=nl;have ab:∀(m:LI),(∀x∈m,x∈l\/x=0\/x=l.getD a 0+1)->Xd1 m:=λm h x hx=>by
   rcases h x hx with z|z|z;·exact nl x z
   ·subst z;decide
   have:l.getD a 0∈l:=by rw[Uj,Ug ac];exact Vc4 ac
   have:=hn _ this;exact Xjq Q0
  rcases V9.mp hd with hd|hd
  ·unfold Xar at hd;simp only[V0,Vaf,or_false]at hd;rcases hd with rfl|rfl|rfl
   ·refine Yan Qe6 QV;simp only[V9,Uc,V6]at hx;rcases hx with(⟨i,hi,rfl⟩|rfl)|⟨i,hi,rfl⟩;·exact Xeh (nl i (Vab hi))
    ·exact Ybc _ mo
    exact Xeh (nl i (Va5 hi))
   ·refine Yz Q53 QV;simp only[V9,V6]at hx;rcases hx with(hx|rfl)|hx;·exact .inl QI4
    ·exact .inr (.inr rfl)
    exact .inl QP6
   refine Yz Q53 QV;rcases V9.mp hx with hx|hx;·exact .inl QI4
   ·exact .inl QP6
  unfold Y0 at hd;simp only[V0,Vaf,or_false]at hd;have ah:∀x∈l++Vj 12 0,x∈l\/x=0\/x=l.getD a 0+1:=λx hx=>by
   rcases V9.mp hx with hx|hx;·exact .inl hx
   ·exact .inr (.inl (List.mem_replicate.mp hx).2)
  rcases hd with rfl|rfl|rfl|rfl|rfl
  ·refine Yz Q53 QV;simp only[V9]at hx;rcases hx with(hx|hx)|hx;·exact .inl QI4
   ·exact .inl (Va5 QI4)
   exact .inl QP6
  ·exact Yz (ab _ λx hx=>ah x QI4) QV
  ·exact Yz (ab _ ah) QV
  ·exact Yao aj hq (λx hx=>by obtain⟨i,hi,rfl⟩:=Uc.mp hx;exact Xo5 (nl i hi)) Q0 Qx1
  exact Ydv (Xc4 Xwg Q0 Q0) (λxs z=>by cases z)
 have k7:∀(S':Sto),∀d∈Xco l,Kp p S' d:=λS' d hd=>by
  unfold Xco at hd;simp only[V0,Vaf,or_false]at hd;rcases hd with rfl|rfl|rfl|rfl|rfl|rfl|rfl;·exact Yz Qq Qk
  ·exact Yz Qq Qk
  ·exact Yz Qq Qk
  ·exact Yz Qq Qk
  ·exact Yz Qq Qk
  ·exact Yz Qq Qk
  refine Yz Qe6 QV;rcases V9.mp hx with hx|hx;·exact nl x hx
  ·rw[V6.mp hx];decide
 have lq:Xc QE0 Qg5=yz Q7:=Xk Ql5;have l8:Xc QE0 Qk0.length=yz Qa:=Xf;have x4:Ext p S QE0:=((x3.trans .app).trans .app).trans .app;have aa:Qa.length=8:=rfl;have gp:p<(L++QS2++Qa5++[O.lst Qa]).length:=by rw[V4,V4,V4];omega
 generalize Xar l a od++Y0 l a Qg5=ae at s4 kq l8 lq x4 aa gp;generalize Qk0.length=r4 at s4 l8;generalize L++QS2++Qa5++[O.lst ae]=S4 at s4 l8 lq x4 gp;have h7:=Ybd (F:=F) (G:=G) (env:=QN2) (S:=S4) (l:=l) rfl hl;have q7:Xc Qu7 Q07=yz Qa3:=Xf;have ak:=Xeg (a:=r4) (b:=S4.length) (Xk (X:=QB5) l8) q7 (by rw[aa];show 8+7<=1000;decide);refine⟨Qu7.length,ae++Xco l,S4++QA8++[.lst (ae++Xco l)],?_,Xf,by rw[V4,aa];rfl,λd hd=>?_,(x4.trans .app).trans .app,by rw[V4];omega⟩
 ·refine Ye (env:=Qg4) rfl rfl ?_;refine Q73.trans (QH4.trans (QG4.trans (QB7.trans Qk1)));have af:ev F G QO7 QN2 S4=.ok QU5 (S4++QA8):=by
   rw[ev,h7,Rk0];exact iP0 QZ4
  rw[exe,ev];simp only[ev,gZ0,gS0,Rk0]at af ⊢;rw[af];simp only[Rk0,ak]
 ·rcases V9.mp hd with hd|hd;·exact kq _ (Xk (Xk lq)) d hd
  ·exact k7 _ d hd
universe Z
universe e
section
namespace Z
noncomputable def Xr(one:LI):LL:=Qm5.map λi=>one.take i++one.drop QF5
theorem Xb6(t:LI)(x:Int)(z:LI):z∈Xr (t++[x]) ↔ z=t\/∃u∈Xr t,z=u++[x]:=by
 unfold Xr;rw[V4,Vfn,Vd4,Vav,V9,Uc,Uc];constructor
 ·rintro (⟨i,hi,rfl⟩|⟨i,hi,rfl⟩);·have hi:=Va6.mp hi;refine .inr ⟨t.take i++t.drop QF5,Uc.mpr ⟨i,Va6.mpr hi,rfl⟩,?_⟩;rw[Vbl Q0,Vie Q0,Vq]
  ·rw[V6.mp hi];refine .inl ?_;rw[Vbl Qs2,Vb2,Vb6 Qk,Vu]
 rintro (rfl|⟨u,hu,rfl⟩);·refine .inr ⟨z.length,V6.mpr rfl,?_⟩;rw[Vbl Qs2,Vb2,Vb6 Qk,Vu]
 ·obtain⟨i,hi,rfl⟩:=Uc.mp hu;have L:=Va6.mp hi;refine .inl ⟨i,hi,?_⟩;rw[Vbl Q0,Vie Q0,Vq]
theorem Xr0:∀ {s x:Nat} {z:LI},Rsg 0 x s z->s<x->∃y,Rsg 0 x QN y/\z∈Xr y
 |0,x,z,h,hx=>by rw[ris_nil.mp h];exact⟨[0],ris_app.mpr ⟨[],0,rfl,ris_nil.mpr rfl,by omega,by omega,λa ha=>by cases ha⟩,by decide⟩|s+1,x,z,h,hx=>by
  obtain⟨t,v,rfl,L,h1,h2,h3⟩:=ris_app.mp h;by_cases c:(s:Int)<v
  ·-- below v there is room
   have ab:Rsg 0 v.toNat s t:=⟨L.1,L.2.1,λa ha=>by have:=L.2.2 a ha;have:=h3 a ha;omega⟩;obtain⟨y,hy,hm⟩:=Xr0 ab Q0;refine⟨y++[v],ris_app.mpr ⟨y,v,rfl,⟨hy.1,hy.2.1,λa ha=>by have:=hy.2.2 a ha;omega⟩,h1,h2,λa ha=>by have:=hy.2.2 a ha;omega⟩,Qy1.mpr (.inr ⟨t,hm,rfl⟩)⟩
  -- v is s: the next number is free
  have hv:v=s:=by
   have:(s:Int)<=v:=by
    clear hx h2 c h;have aa:∀(s:Nat) (t:LI) (v:Int),ll t=s->t.Pairwise (λa b=>a+1-0<=b)->(∀a∈t,0<=a)->(∀a∈t,a+1-0<=v)->0<=v->(s:Int)<=v:=λs=>by
     induction s with
     |zero=>intro t v _ _ _ _ h;exact h|succ s ih=>
      intro t v hl hp hn hv h0;rcases List.eq_nil_or_concat t with e|⟨t',u,e⟩;·rw[e]at hl;cases hl
      ·rw[List.concat_eq_append]at e;subst e;obtain⟨p1,_,p3⟩:=Vaa.mp hp;have:=ih t' u (by simpa using hl) p1 (λa ha=>hn a (Vao _ ha)) (λa ha=>p3 a ha u Uv) (hn u Qs7);have:=hv u Qs7;omega
    exact aa s t v L.1 L.2.1 (λa ha=>(L.2.2 a ha).1) h3 h1
   omega
  refine⟨t++[v]++[v+1],ris_app.mpr ⟨t++[v],v+1,rfl,h,by omega,by omega,λa ha=>?_⟩,Qy1.mpr (.inl rfl)⟩;rcases V9.mp ha with q|q;·have:=h3 a q;omega
  ·rw[V6.mp q];omega
theorem Xpn:∀ {s:Nat} {far:Int} {y z:LI},Rsg 0 far QN y->z∈Xr y->Rsg 0 far s z
 |0,far,y,z,h,hz=>by
  obtain⟨t,x,rfl,ht,_⟩:=ris_app.mp h;rw[ris_nil.mp ht]at hz;rcases Qy1.mp hz with e|⟨u,L,_⟩;·exact ris_nil.mpr e
  ·cases L|s+1,far,y,z,h,hz=>by
  obtain⟨t,x,rfl,ht,h1,h2,h3⟩:=ris_app.mp h;rcases Qy1.mp hz with e|⟨u,L,e⟩;·rw[e];exact ht
  ·refine ris_app.mpr ⟨u,x,e,Xpn ht L,h1,h2,λa ha=>h3 a ?_⟩;unfold Xr at L;obtain⟨i,_,rfl⟩:=Uc.mp L;rcases V9.mp ha with q|q;·exact Vab q
   ·exact Va5 q
theorem Xr1{s F x m:Nat}(h1:m<=C x s)(h2:m=0\/x<F)(h3:x<=F):Qi6.take (C x QN+m)=fon 0 QN x++(Q37.take m).map (·++Qi8):=by
 obtain⟨d,rfl⟩:∃d,F=x+d:=⟨F-x,by omega⟩;have e:fon 0 QN (x+d)=fon 0 QN x++((Vl d).map (x + ·)).flatMap λj=>(fon 0 s (j+0)).map QB6:=by show(Vl (x+d)).flatMap _=(Vl x).flatMap _++_;rw[List.range_add,Vbm]
 have hl:(fon 0 QN x).length=C x QN:=by rw[Xbs (ag:=0) Q6,Vet,Vbj]
 rw[e,<-hl,List.take_append,Vaj Q0,Vas];congr 1;rcases h2 with h2|h2;·subst h2;simp
 ·obtain⟨L,rfl⟩:∃L,d=L+1:=⟨d-1,by omega⟩;rw[Vc1,Ua,List.flatMap_cons,Vbj];have aa:Q37.length=C x s:=by rw[Xbs (ag:=0) Q6,Vet,Vbj]
  rw[Vbl Qx1,Vgc]
theorem fon_all{s F:Nat}{z:LI}:z∈fon 0 s F ↔ Rsg 0 F s z:=Xhc Q6
theorem X0u(k:Nat):Xx gL k []=0:=by cases k<;>rfl
theorem Xcb:∀ {s m F:Nat} {w z:LI},Wr QN m w->m<=C F QN->((∃y∈Qi6.take m,z∈Xr y) ↔ z∈(fon 0 s F).take (Xx gL QN w))/\Xx gL QN w<=C F s
 |s,m,F,w,z,h,hm=>by
  rcases h with⟨rfl,rfl⟩|⟨x,r,rfl,h0,⟨m1,m2,m3⟩,h2⟩;·rw[X0u];simp
  ·-- m is x's block and m' more
   have ac:m-C x QN<C x s:=by have:C (x+1) QN=C x s+C x QN:=rfl;omega
   obtain⟨m',ae⟩:∃m',m=C x (s+1)+m':=⟨m-C x QN,by omega⟩;subst ae;rw[Vas]at h2 ac;have ab:m'=0\/x<F:=by
    by_cases c:x<F;·exact .inr c
    ·have:=Y5 (k:=s+1) (show F<=x by omega);omega
   have L:x<=F:=by
    by_cases c:x<=F;·exact c
    ·have e1:=Y5 (k:=s+1) (show F+1<=x by omega);have e2:C (F+1) QN=C F s+C F QN:=rfl;have e3:1<=C F s\/F<s:=by
      by_cases d:s<=F;·exact .inl (Xjh d)
      ·exact .inr Q0
     rcases e3 with e3|e3;·omega
     ·rw[Xbm F QN Q0]at hm;have:=Xjh (k:=s+1) m1;omega
   have gt:Xx gL QN ((x:Int)::r)=C x s+Xx gL s r:=by show gL (x:Int).toNat QN+Xx gL s r=_;rw[Us];rfl
   rw[Xr1 Q0 ab L,gt];have blk:∀z,(∃y∈fon 0 QN x,z∈Xr y) ↔ z∈fon 0 s x:=λz=>by
    constructor;·rintro ⟨y,hy,hz⟩;exact fon_all.mpr (Xpn (fon_all.mp hy) hz)
    ·intro hz;obtain⟨y,h1,h2⟩:=Xr0 (fon_all.mp hz) Q0;exact⟨y,fon_all.mpr h1,h2⟩
   have hs:C x s+0<=C F s:=by have:=Y5 (k:=s) L;omega
   cases s with
   |zero=>
    have:r=[]:=h2.2;subst this;have:m'=0:=h2.1;subst this;rw[X0u];refine⟨?_,by omega⟩;have e0:(fon 0 0 F).take (C x 0+0)=fon 0 0 x:=by rw[Y1];rfl
    rw[e0,Ven,Vbq,Vu];exact blk z|succ s=>
    obtain⟨ih,il⟩:=Xcb (s:=s) (m:=m') (F:=x) (z:=z.dropLast) h2 Q0;have af:=(Xcb (s:=s) (m:=m') (F:=x) (w:=r) (z:=z) h2 Q0).2;have aa:Xx gL QN r=0\/x<F:=by
     rcases ab with e|e;·subst e;rw[h2.zero,X0u];exact .inl rfl
     ·exact .inr e
    rw[Xr1 il aa L];refine⟨⟨λ QS4=>?_,λhz=>?_⟩,?_⟩
    ·rcases V9.mp hy with hy|hy;·exact Vao _ (Qw8.mp QS4)
     ·obtain⟨t,ht,rfl⟩:=Uc.mp hy;rcases Qy1.mp hz with e|⟨u,hu,e⟩;·rw[e];exact Vao _ (Vab ht)
      ·subst e;rw[List.dropLast_concat]at ih;exact Ul _ (Uc.mpr ⟨u,ih.mp ⟨t,ht,hu⟩,rfl⟩)
    ·rcases V9.mp hz with hz|hz;·obtain⟨y,h1,h2⟩:=Qw8.mpr hz;exact⟨y,Vao _ h1,h2⟩
     ·obtain⟨u,hu,rfl⟩:=Uc.mp hz;rw[List.dropLast_concat]at ih;obtain⟨t,ht,h⟩:=ih.mpr hu;exact⟨t++Qi8,Ul _ (Uc.mpr ⟨t,ht,rfl⟩),Qy1.mpr (.inr ⟨u,h,rfl⟩)⟩
    rcases aa with e|e;·rw[e];omega
    ·have e1:=Y5 (k:=s+1) (show x+1<=F by omega);have e2:C (x+1) QN=C x s+C x QN:=rfl;omega
theorem Xxb{α:Type}[DecidableEq α]{l:List α}(h:l.Nodup)(m c:Nat):Q33.filter (λy=>!decide (y∈l.take c))=Q33.drop c:=by
 have aa:∀(a b:List α),Qj6.Nodup->Qj6.filter Q82=b:=λa b h=>by
  rw[List.filter_append];have e1:a.filter Q82=[]:=by rw[Vhf];intro y L;simp[L]
  have e2:b.filter Q82=b:=by rw[List.filter_eq_self];intro y L;have:=(Veg.mp h).2.2;simp only[Vbf,decide_eq_false_iff_not];exact λz=>this y z y L rfl
  rw[e1,e2,Uw]
 by_cases hc:c<=m
 ·have e:l.take m=l.take c++Q33.drop c:=by
   have:=(U3 c Q33).symm;rwa [Vfq,Va7 hc]at this
  have nd:(l.take c++Q33.drop c).Nodup:=by rw[<-e];exact h.sublist (List.take_sublist _ _)
  have:=aa _ _ nd;rwa [<-e]at this
 rw[Vb6 (by rw[U9];omega),Vhf];intro y L;have:y∈l.take c:=by
  have e:l.take m=(l.take c).take m:=by rw[Vfq,Va7 Q0]
  rw[e]at L;exact Vab L
 simp[this]
universe Z
universe e
section
namespace Z
open PySem PySem.Spec PyProof.Rows L2
def WrX:Prop:=∀n s:Nat,n<=1000000000000->1<=s->s<=12->∃w,Wr s n w
theorem Xr2{g:Nat->Nat->Nat}{s:Nat}(hs:1<=s):abv g s 0=0:=by obtain⟨k,rfl⟩:∃k,s=k+1:=⟨s-1,by omega⟩;have h:Wr Qb2 0 []:=.inl QT4;rw[<-Xch g h];rfl
theorem C16(s:Nat):C 16 s<=12870:=by
 by_cases c:s<=16;·exact(by decide+kernel:∀s,s<17->C 16 s<=12870) s Q0
 ·rw[Xbm 16 s Q0];exact Ub _
section
variable(hx:WrX){l:LI}{s n F:Nat}
include hx
theorem Xlb(h1:1<=s)(h2:s<=12)(hF:s<=F)(hn:n<=C F s)(hb:n<=1000000000000):abv gU s n<=C F QN:=by obtain⟨w,L⟩:=hx n s hb h1 h2;rw[<-Xch gU L];have:=Xru Yfb L (Yaw h1 hF) hn;rwa [Xz9 gU h1]at this
structure Nrw(l:LI):Prop where
 l1:1<=ll l
 l2:Qq0<=12
 one:l.getD 0 0=1
 nn:∀s,0<=l.getD s 0
 le:∀s,Qt.toNat<=C 16 s
 far:∀s,7<=s->l.getD s 0=0
 up:∀s,1<=s->Q40.toNat<=abv gU s Qt.toNat
omit hx in
theorem Xdh(h:Qq0<=s):l.getD s 0=0:=by rw[Uj,Vd2 h];rfl
omit hx in
theorem Xxc(h2:tb2 l=yw)(hs:7<=s):l.getD s 0=0:=by
 by_cases c:s<ll l
 ·have:=List.any_eq_false.mp h2 Qt (by
   rw[Uj,Ug c];refine Vfp.mpr ⟨s-7,?_⟩;rw[Vgn,show 7+(s-7)=s by omega,Ug c];rfl)
  simpa using this
 exact Xdh Q0
theorem Ybg(l1:1<=ll l)(l2:Qq0<=12)(h:Yd gU l=.non)(h1:tb1 l=yw)(h2:tb2 l=yw):Nrw l:=by
 have one:l.getD 0 0=1:=by have:=Xik h 0 Q0;simpa [X6] using this
 have up:∀s,1<=s->Q40.toNat<=abv gU s Qt.toNat:=λs hs=>by
  by_cases c:s+1<ll l;·have:=Xik h QN c;simp only[X6,Vf6,Bool.and_eq_false_iff,decide_eq_false_iff_not]at this;omega
  ·rw[Xdh Q0];exact Ub _
 refine⟨l1,l2,one,Xw7 h,?_,λs=>Xxc h2,up⟩;intro s;induction s with
 |zero=>rw[one,Y1];decide|succ s ih=>
  cases s with
  |zero=>
   rw[Xg6];by_cases c:1<ll l
   ·have:¬ 16<l.getD 1 0:=by simpa [tb1,c] using h1
    show Qg6.toNat<=16;omega
   rw[Xdh Q0];exact Ub _|succ s=>
   by_cases c:s+2<7;·have:=C16 QN;exact V2 (up QN Q0) (Xlb hx Q0 Q0 Q0 ih Q0)
   ·rw[Xxc h2 Q0];exact Ub _
universe e
noncomputable def cov(l:LI)(s:Nat):Nat:=abv gL QN Q40.toNat
section
variable(hx:WrX){l:LI}{s:Nat}(c:Nrw l)
include hx c
theorem Nrw.big(s:Nat):Qt.toNat<=12870:=V2 QI6 Qr5
omit hx in
theorem Xr3(hs:6<=s):cov l s=0:=by unfold cov;rw[c.far QN Q0];exact Xr2 Q0
omit hx in
theorem X5s(hs:Qq0<=s+1):cov l s=0:=by unfold cov;rw[Xdh hs];exact Xr2 Q0
theorem Xxd:cov l s<=Qt.toNat:=by
 by_cases d:6<=s;·rw[Xr3 c d];exact Ub _
 obtain⟨w,hw⟩:=hx Q40.toNat QN Qg0 Q0 Q0;unfold cov;rw[<-Xch gL hw];cases s with
 |zero=>have:=(Xcb (z:=[]) hw (c.le 1)).2;rw[Y1]at this;rw[c.one];exact this|succ s=>
  have hm:=c.up QN Q0;obtain⟨wm,L⟩:=hx Q40.toNat QN Qg0 Q0 Q0;rw[<-Xch gU L]at hm;have hu:Xx gU QN wm<=12870:=by have:=Xlb hx (F:=16) (show 1<=s+1 by omega) Q0 Q0 Qj5 Qg0;rw[<-Xch gU L]at this;exact V2 this (C16 _)
  obtain⟨wu,aa⟩:=hx (Xx gU QN wm) (s+2) Q0 Q0 Q0;exact V2 (Xru Yfc hw aa hm) (Yax L aa)
noncomputable def fcs(l:LI)(s:Nat):LL:=QX1.drop Qi5
noncomputable def sds(l:LI):LL:=QH0.flatMap Qs8
omit hx in
theorem Ybh(s:Nat):Q50.length=C 16 s:=by rw[Xbs (ag:=0) Q6,Vet,Vbj]
omit hx in
theorem Xxe(s:Nat):QX1.length=Qt.toNat:=by rw[U9,Ybh c];exact Va7 QI6
omit hx in
theorem Xhh(s:Nat):Qj7.length=Qt.toNat-cov l s:=by unfold fcs;rw[Vc2,Xxe c]
theorem X5t:(Q00.length:Int)=l.sum-(QH0.map λs=>(cov l s:Int)).sum:=by
 unfold sds;have e:l=QH0.map λs=>l.getD s 0:=by refine Vf5 Qk λi h1 h2=>?_;simp[Ug h1]
 have aa:∀n:Nat,(Q94.length:Int)=QS3.sum-QA3.sum:=λn=>by
  induction n with
  |zero=>rfl|succ n ih=>have h1:=Xhh c n;have h2:=Xxd hx c (s:=n);have h3:=c.nn n;obtain⟨m,hm⟩:∃m:Nat,l.getD n 0=(m:Int):=⟨_,(Int.toNat_of_nonneg h3).symm⟩;rw[hm,Us]at h1 h2;obtain⟨r,rfl⟩:=Vcs h2;rw[Vas]at h1;rw[Vd4,Vbm,V4,Vfh,Vav,Vav,List.sum_append,List.sum_append,Vgx,Vgx,List.sum_singleton,List.sum_singleton];generalize QS3.sum=A at ih ⊢;generalize QA3.sum=B at ih ⊢;generalize Q94.length=M at ih ⊢;rw[h1,hm,Vib,Vib,ih];clear ih h1 h2 h3 hm;omega
 have:=aa l.length;rw[<-e]at this;exact this
theorem Xxf{kn:LI->Bool}(hk:∀r,kn r=yx ↔ ∃y∈Qr2.take Q40.toNat,r∈Xr y):QX1.filter (λr=>!kn r)=fcs l s:=by
 have e:∀r,kn r=decide (r∈Q50.take Qi5):=λr=>by
  by_cases d:12<=s
  ·have:Q40.toNat=0:=by rw[c.far QN Q0];rfl
   rw[this]at hk;rw[Xr3 c Q0];have:=hk r;simp at this;simpa using this
  obtain⟨w,L⟩:=hx Q40.toNat QN Qg0 Q0 Q0;have b:=(Xcb (F:=16) (z:=r) L Qj5).1;rw[Xch gL L]at b;have:=(hk r).trans b;rw[Ve7,this,decide_eq_true_iff];rfl
 refine(List.filter_congr λr _=>?_).trans (Xxb (Xw3 0 s 16) Qt.toNat Qi5);rw[e r];exact congrArg (!·) (decide_eq_decide.mpr Iff.rfl)
universe e
theorem X0v(l:LI):((Vl l.length).reverse.flatMap Qs8).Perm Q00:=List.Perm.flatMap_right _ (Vg9 _)
theorem X5u{l:LI}(hl:Qq0<=12):∀r∈sds l,ll r<=12/\∀x∈r,x.natAbs<1000:=λr L=>by obtain⟨s,hs,L⟩:=List.mem_flatMap.mp L;have hs:=Va6.mp hs;obtain⟨h1,_,h3⟩:=fon_all.mp (Vab (Va5 L));exact⟨by omega,λx hx=>by have:=h3 x hx;omega⟩
theorem Ybi(kvs:List Q21)(k:LI)(v:D)(r:LI):(X3 (Yk kvs k v) r).isSome=(Qn0.isSome||decide (r=k)):=by
 have e:∀(r:LI) (kvs:List Q21),Qn0.isSome=kvs.any λp=>decide Qy6:=λr kvs=>by unfold X3;rw[Option.isSome_map,Ve7,List.find?_isSome,Vhs]
 rw[e,e];unfold Yk;rw[e];split
 ·rename_i h;rw[List.any_map];have:((λp:LI×D=>decide Qy6)∘λp=>if p.1=k then (p.1,v) else p)=λp=>decide Qy6:=funext λp=>by
   simp only[Vgb];split<;>rfl
  rw[this];by_cases c:r=k;·subst c;rw[decide_eq_true rfl,Bool.or_true];exact h
  ·rw[decide_eq_false c,Vey]
 rw[List.any_append];simp only[Vhi,List.any_nil,Vey];congr 1;exact decide_eq_decide.mpr eq_comm
theorem Xlc(r:LI):∀(ps kvs:List Q21),(X3 QE5 r).isSome=(Qn0.isSome||decide (r∈ps.map Qk8))
 |[]=>λkvs=>by simp|p::ps=>λkvs=>by rw[Vbv,Xlc r ps,Ybi,Bool.or_assoc];congr 1;rw[Ve7];simp
theorem Xpo:∀(ps kvs:List Q21),QE5.length<=ll kvs+ll ps
 |[]=>λkvs=>Vi _|p::ps=>λkvs=>by
  refine V2 (Xpo ps QR5) ?_;have:QR5.length<=ll kvs+1:=by
   unfold Yk;split;·rw[Vg];omega
   ·rw[V4];exact Vi _
  rw[Ux];omega
theorem X5v{kvs:List Q21}{r:LI}:r∈kvs.map Qk8 ↔ Qn0.isSome=true:=by unfold X3;rw[Option.isSome_map,List.find?_isSome,Uc];simp
theorem Xim:∀(ps kvs:List Q21),ps≠[]\/kvs≠[]->ps.foldl Qp kvs≠[]
 |[]=>λkvs h=>by simpa using h|p::ps=>λkvs _=>by
  rw[Vbv];refine Xim ps _ (.inr ?_);unfold Yk;split;·rename_i h;intro z;rw[List.map_eq_nil_iff]at z;rw[z]at h;cases h
  ·simp
noncomputable def wsD(one:LI):List Q21:=Qw3.foldl Qp []
theorem Xe4(one:LI):Qe.length=ll one:=by unfold Xr;rw[Vg,Ut]
theorem Ybj(one r:LI):r∈Q01.map Qk8 ↔ r∈Xr one:=by rw[X5v];unfold wsD;rw[Xlc];simp[X3,Vae,Function.comp_def]
theorem Xxg(one:LI):Q01.length<=ll one:=by have:=Xpo Qw3 [];rw[Vg,Xe4,Vcd,Va4]at this;exact this
theorem X19{one:LI}(h:one≠[]):wsD one≠[]:=Xim _ _ (.inl λz=>h (by have:=Xe4 one;rw[List.map_eq_nil_iff]at z;rw[z]at this;exact Vdp.mp this.symm))
theorem Xtw:∀k,k<7->∀y,Qh6[0]?=yz y->Qb1.Nodup:=by
 have L:∀k,k<7->(match Qh6[0]? with|some y=>decide (Qb1.Nodup)|none=>yx)=true:=by decide+kernel
 intro k hk y e;have:=L k hk;rw[e]at this;exact oD0 this
theorem Xxh(v:D):∀ks:LL,Xfg (ks.map λk=>D.tup [Xa k,v])=yz (ks.map λk=>(k,v))
 |[]=>rfl|k::ks=>by rw[Ua];show Xfg (D.tup [D.tup (k.map D.int),v]::_)=_;rw[Xfg,Xav,Xxh v ks];rfl
theorem Ybk{S:Sto}{q m:Nat}{kvs more:List Q21}(h1:Yu S q=yz kvs)(h2:Yu S m=yz more)(L:q≠m)(hm:more≠[])(hl:QD6+ll more<100000)(hh:kvs=[]->QC4.Nodup):
  Xdx Q3 [.ref m] S=.ok .non (S.set q (.dct (more.foldl Qp kvs))):=by
 have c2:(!more.isEmpty)=true:=by cases more with|nil=>exact aB0 rfl hm|cons _ _=>rfl
 have c4:(!kvs.isEmpty||decide (QC4.Nodup))=true:=by
  cases kvs with
  |nil=>rw[decide_eq_true (hh rfl)];rfl|cons _ _=>rfl
 simp only[Xdx,h1,h2];rw[iP0 (by rw[decide_eq_true L,c2,decide_eq_true hl,c4];rfl)]
theorem Xr4{S X:Sto}{q:Nat}{kvs:List Q21}(h:Yu S q=yz kvs):Yu QW q=yz kvs:=by
 unfold Yu at h ⊢;have:q<ll S:=by
  cases e:S[q]? with
  |none=>rw[e]at h;cases h|some _=>exact Qr7.1
 rw[Vv this];exact h
theorem Xxi{S:Sto}{q:Nat}{kvs:List Q21}(h:Yu S q=yz kvs):q<ll S:=by
 unfold Yu at h;cases e:S[q]? with
 |none=>rw[e]at h;cases h|some _=>exact Qr7.1
theorem Xpp{S:Sto}{kvs:List Q21}:Yu (S++[.dct kvs]) QL=yz kvs:=by unfold Yu;rw[Uz Qs2,Vad];rfl
theorem X5w{S:Sto}{q:Nat}{kvs:List Q21}(h:q<ll S):Yu (S.set q (.dct kvs)) q=yz kvs:=by unfold Yu;rw[Vb5 h]
theorem Xpq{S:Sto}{n:Nat}{kvs:List Q21}(h:Yu S n=yz kvs):Xbu S n=yz kvs:=by
 unfold Yu at h;unfold Xbu;split at h;·rename_i e;rw[e];exact h
 ·cases h
noncomputable def Xtx:Df:=⟨1,1,.cons (.ret (.cmr yw 2 (.cons QA (.rng QY5) .nil .nil) (.bin .add Qx4 QZ0))) .nil⟩
def Xe5(F:Fn)(i:Nat):Prop:=∀(one:LI) (S:Sto),ll one<=100->F i Qv6 S=.ok QB QQ8
theorem X0w{F:Fn}{G:LD}(one:LI)(S:Sto)(hl:QC6<=100):den F G Xtx Qv6 S=.ok QB QQ8:=by
 obtain⟨xs,hx,ab⟩:=Xa9 (m:=(one.length:Int)) Q0 Q0;have aa:Qz6=ll one:=by omega
 have L:Xm .len Qv6 S=.ok (.int one.length) S:=by simp only[Xa,Xm,Xp,Vg]
 obtain⟨e',S1,h2,rfl,_⟩:=Xdd (F:=F) (G:=G) (t:=.var 2) (n:=2) (it:=.rng QY5) (elt:=.bin .add Qx4 QZ0) (env:=Q69) (S:=S) (S1:=S) (src:=.con xs)
  xs QL2 (λ_ e S1=>S1=S/\∃x,e=[yz QN3,yy,x]) (Xje (ds:=[.int one.length]) (by simp only[evs,ev,gZ0,Rk0,L]) hx) rfl Q57 QT3 QO5
  (λi d e S1 hd hP=>by
   obtain⟨rfl,x,rfl⟩:=hP;obtain⟨rfl,hi⟩:=Xb3 hx hd;refine Qn3;have c1:=Xie Qi0 i;have c2:=X0g Qi0 QF5;have ci:Qc1=(i:Int)+1:=by omega
   rw[ci]at c2;have lb:(Qi0.take i).length+(Qi0.drop QF5).length<=big:=by simp only[U9,Vc2,Vg];exact Yy (V2 (Nat.add_le_add (Vhp _ _) (Vhz _ _)) Q0)
   simp only[ev,evo,Vax,gZ0,gS0,Rk0,Xy,Xak,Xal,Xa,c1,c2,Xw,lb,if_true,Vav,Vgc,List.map_drop])
 rw[aa]at h2;have em:Qm5.map QL2=Qe.map Xa:=by unfold Xr;rw[Vae];rfl
 rw[em]at h2;refine Ye (env:=Q69) rfl rfl Qk1;rw[exe,h2,Rk0]
theorem X2a{F:Fn}{G:LD}{e:Ex}{env:En}{S S1:Sto}{q:Nat}{xs:LD}(h:ev F G e env S=.ok Q3 S1)(L:Xc S1 q=yz xs):evit F G (.val e) env S=.ok Q3 S1:=by simp only[evit,h,Rk0,Yq,L,V7]
noncomputable def prE(il:Nat):Ex:=.cmr yw 2 (.cons Qv0 (.val (.call il QU0)) .nil .nil) (.tup Qj2)
noncomputable def upB(il:Nat):Sts:=.cons Qp1 .nil
section
variable{F:Fn}{G:LD}{il:Nat}{a0 a1 a2 a3 a4 a5:Option D}{one:LI}{S:Sto}
theorem Yd7(hL:Xe5 F il)(hl:QC6<=100):ev F G (prE il) QG1 S=.ok (.ref QR8.length) (S++Qd5++[.lst QQ]):=by
 have h0:=hL one S hl;have l1:Xc QR8 QL=yz QX0:=Xf;generalize ac:S++Q72=S1 at h0 l1 ⊢;have aa:=X2a (F:=F) (G:=G) (e:=.call il QU0) (env:=QG1) (S:=S) (by simp only[ev,evs,gZ0,gS0,Rk0,h0]) l1;obtain⟨e',S2,h2,rfl,_⟩:=Xdd (F:=F) (G:=G) (t:=.var 8) (n:=2) (elt:=.tup Qj2) (env:=QG1) (S:=S) (S1:=S1) (src:=.ref QL)
  QX0 (λi=>.tup Q44) (λ_ e S2=>S2=S1/\∃x,e=[a0,a1,a2,a3,a4,a5,yz QN3,yy,x])
  aa (by simp only[Src.most,l1,Vcn]) (by rw[Vg,Xe4];exact Yy Q0) QT3
  (λi e S2 h=>by rw[h.1];simp only[Src.get,l1,V7])
  (λi d e S2 L hP=>by
   obtain⟨rfl,x,rfl⟩:=hP;rw[Vx,Ud]at L;obtain⟨l,ab,rfl⟩:=L;refine⟨_,_,rfl,?_,rfl,_,rfl⟩;have:Qe.getD i []=l:=by rw[Uj,ab];rfl
   rw[this];simp only[ev,evs,Vax,gZ0,gS0,Rk0,Uk];exact iP0 Q6)
 have em:(Vl Qe.length).map (λi=>D.tup Q44)=Qe.map λk=>D.tup [Xa k,.bl yx]:=by apply Vf5 Qk;intro i h1 h2;simp only[List.getElem_map,Vgw];congr 3;rw[Uj,Ug (by simpa using h1)];rfl
 rw[Vg,em]at h2;exact h2
theorem Yd8(hL:Xe5 F il)(hl:QC6<=100)(ac:one≠[]){q:Nat}{kvs:List Q21}(hq:Yu S q=yz kvs)(hk:QD6<=90000)(hh:kvs=[]->(Q01.map λp=>hrw p.1).Nodup):
  ∃X,pe F G QD8 QL0 S=.ok Q18 (QW.set q Qy3):=by
 have h1:=Yd7 (F:=F) (G:=G) (a0:=a0) (a1:=a1) (a2:=a2) (a3:=a3) (a4:=a4) (a5:=yz Q3) (S:=S) hL hl;generalize aa:S++Q72=S1 at h1;have l2:Xc (S1++QM4) Qt4=yz QQ:=Xf;generalize L:S1++QM4=S2 at h1 l2;have hd:Xno Qt0 S2=.ok (.ref Q17) (S2++[.dct Q01]):=by simp only[Xno,l2,V1,Xxh];exact iP0 (by rw[Vg,Xe4];omega)
 have e2:S2++Qq2=S++(Q72++QM4++Qq2):=by rw[<-L,<-aa];simp only[Vq]
 have dq:Yu Qv7 q=yz kvs:=by rw[e2];exact Xr4 hq
 have lt:=Xxi hq;have ln:QL<=ll S2:=by rw[<-L,<-aa];simp
 have du:=Ybk dq Xpp Q0 (X19 ac) (by have:=Xxg one;omega) hh;refine⟨Q72++QM4++Qq2,?_⟩;rw[<-e2];have ab:Xsp S Q3=true:=by simp only[Xsp,Xpq hq,Vby]
 have hx:exe F G Qp1 QL0 S=.ok Q18 (Qv7.set q Qy3):=by rw[exe,ev];simp only[evs,ev,h1,hd,gZ0,gS0,Rk0,ab,if_true,du]
 unfold upB;rw[Xb hx,pe]
inductive UpI(env:Option D->En)(S:Sto)(q:Nat)(ys:LL)(j:Nat):En->Sto->Prop
 |mk {x6:Option D} {kvs:List Q21} {S':Sto} (u:UpS S S') (h1:Yu S' q=yz kvs) (h2:QD6<=6*j) (h3:kvs=[]->j=0) (h4:∀r,Qn0.isSome=yx ↔ ∃y∈ys.take j,r∈Xr y):UpI env S q ys j (env x6) S'
theorem Ybl(hL:Xe5 F il){q3 q:Nat}{ys:LL}{x6:Option D}(hy:Xc S q3=yz Qs4)(hq:Yu QP8 q=yz [])(ab:q=ll S)(aa:Qo8<=15000)(ho:∀y∈ys,y≠[]/\Qh7<=6)(hh:∀y,ys[0]?=yz y->Qb1.Nodup):
  ∃L S' kvs,exe F G (.for QT Qs5 QD8) QW1 QP8=.ok (.nx [a0,a1,a2,yz QM,a4,yz Q3,L]) S'/\UpS S S'/\Yu S' q=yz kvs/\∀r,Qn0.isSome=yx ↔ ∃y∈ys,r∈Xr y:=by
 obtain⟨e',S',h1,@⟨L,kvs,_,u,d,_,_,k⟩⟩:=Xg5 (F:=F) (G:=G) (t:=.var 6) (e0:=.var 3) (b:=upB il) (xs:=ys.map Xa) (r:=q3) (env:=QW1) (S:=S++Qs3) (S1:=S++Qs3)
  (UpI (λx6=>QW1) S q ys)
  QM0 (Xk hy) (λj e S' h=>by obtain⟨u,_⟩:=h;exact u.lst hy) (.mk (x6:=x6) .app hq Qn6 (λ_=>rfl) λr=>by simp[X3])
  (λj d e S' hd hP=>by
   obtain @⟨x6,kvs,_,u,hk,kl,k0,km⟩:=hP;rw[Vx,Ud]at hd;obtain⟨y,hj,rfl⟩:=hd;have ac:=(Vd.mp hj).1;obtain⟨o1,o2⟩:=ho y (U0 hj);obtain⟨X,hu⟩:=Yd8 (F:=F) (G:=G) (a0:=a0) (a1:=a1) (a2:=a2) (a3:=yz QM) (a4:=a4) hL (show Qh7<=100 by omega) o1 hk Q0 (λz=>by have:=k0 z;subst this;exact hh y hj);have ql:=Xxi hk;refine⟨_,_,_,rfl,hu,.mk (x6:=yz Qm6) (Qt3.set Q0) (X5w (by rw[V4];omega)) ?_ (λz=>aB0 z (Xim _ _ (.inl (X19 o1)))) λr=>?_⟩;·have a:=Xpo (wsD y) kvs;have b:=Xxg y;omega
   ·rw[Xlc,Vcb,km r,decide_eq_true_iff,Ybj,List.take_add_one,hj];simp only[Option.toList_some,V9,V6];constructor
    ·rintro (⟨z,h1,h2⟩|h);·exact⟨z,.inl h1,h2⟩
     ·exact⟨y,.inr rfl,h⟩
    rintro ⟨z,h1|h1,h2⟩;·exact .inl ⟨z,h1,h2⟩
    ·rw[h1]at h2;exact .inr h2)
 refine⟨L,S',kvs,h1,u,d,λr=>?_⟩;rw[k r,Vg,Vb2]
noncomputable def ntE:Ex:=.cmr yw 2 (.cons Qv0 (.val QP) (.cons QV5 .nil) .nil) Qv0
theorem Yd9{L q:Nat}{a6:Option D}{ys:LL}{kvs:List Q21}(hy:Xc S L=yz Qs4)(hl:Qo8<=15000)(hk:Yu S q=yz kvs):
  ∃X,ev F G ntE QU3 S=.ok QJ3 (S++X++[.lst (QI3.map Xa)]):=by
 obtain⟨X,aa⟩:=Xla (F:=F) (G:=G) (S:=S) (n:=2) (t:=.var 8) (it:=.val QP) (ifs:=.cons QV5 .nil) (elt:=.var 8) (env:=QU3) (src:=.ref L) (xs:=ys.map Xa)
  QR0 id (λe=>∃x,e=[a0,a1,a2,a3,yz QS1,yz Q3,a6,yy,x])
  (X2a QM0 hy) (by simp only[Src.most,hy,Vcn]) (λX i=>by simp only[Src.get,Xk hy,V7]) (by rw[Vg];unfold big;omega) Qp4
  (λd hd e X he=>by
   obtain⟨x,rfl⟩:=he;obtain⟨y,hy,rfl⟩:=Uc.mp hd;have dk:=Xpq (Xr4 (X:=X) hk);refine⟨_,X,rfl,Qm2,?_,λ_=>⟨X,by simp only[ev,Vax,gZ0,gS0,id]⟩⟩
   rw[evts];simp only[ev,Vax,gZ0,gS0,Rk0,Xa,Xkf,dk,Xav,Xe,Bool.true_bne];cases (X3 kvs y).isSome<;>simp only[evts,Vb3,Vdv])
 have ef:(Qs4.filter QR0).map id=QI3.map Xa:=by rw[List.map_id,Vh9];congr 2;funext y;simp only[Vgb,Xa,Xav]
 rw[ef]at aa;exact⟨X,aa⟩
universe e
theorem Xmj{S S':Sto}(u:UpS S S'):∀(k n:Nat) (p:Vdd),Xao S k n=yz p->Xao S' k n=yz p
 |0=>λn p e=>by cases e|k+1=>λn p e=>by
  simp only[Xao]at e ⊢;cases q:S[n]? with
  |none=>rw[q]at e;cases e|some o=>
   rw[u n o q];rw[q]at e;cases o with
   |lst xs=>simp only[Ud]at e ⊢;obtain⟨ps,e1,L⟩:=e;exact⟨ps,datFs_mono (Xmj u k) xs ps e1,L⟩|dct kvs=>cases kvs<;>exact e|fdc _=>cases e|exc _=>cases e
theorem Sm.repU{S:Sto}{d:D}(h:Sm S 20 400000 d):∃t,∀S',UpS S S'->Xff S' d=yz t:=by
 obtain⟨p,L,q2,q3,q4,q5⟩:=h;refine⟨p.shown,λS' u=>?_⟩;have e:Xas S' d=yz p:=Xmg (λn q z=>Xo9 3 n q (Xmj u 3 n q z)) d p L;have c1:p.depth<=60:=by omega
 have c2:szD p<=big:=by unfold big;omega
 unfold Xff;rw[e];dsimp only;rw[iP0 QU1]
theorem UpS.ext{S S':Sto}{p:Nat}(u:UpS S S'):Ext p S S':=λn o _ e=>u n o e
theorem X5x{i:Int}(h:i.natAbs<1000):FSm 0 4 Qv:=⟨.int i,λ_=>by simp only[X5],by
 have:i.natAbs.log2<1920:=by have h2:i.natAbs<2^10:=Uh h Q6;have:=Xfx h2 Q6;omega
 simp only[Va8,decide_eq_true this],by simp only[Xa2],by simp only[Vbu];exact Vi _,by simp only[szD,szI];rw[iP0 h];exact Vi _⟩
theorem Ybm{n:LL}(hn:QC9<=2400)(hr:∀r∈n,ll r<=12/\∀x∈r,x.natAbs<1000):FSm 20 400000 (Xf3 n):=by
 have h1:∀d∈n.map Xa,FSm 1 75 d:=λd hd=>by
  obtain⟨r,L,rfl⟩:=Uc.mp hd;have:=Xo6 (ds:=r.map D.int) (a:=0) (b:=4) λd hd=>by obtain⟨x,hx,rfl⟩:=Uc.mp hd;exact X5x (QG8.2 x hx)
  rw[Vg]at this;exact this.mono Qs2 (by have:=QG8.1;omega)
 have h2:=Xo6 h1;rw[Vg]at h2;exact h2.mono Q0 Q0
universe Z
universe e
section
namespace K43
open PySem Z
noncomputable def cb1:Ex:=.and QN5 (.cmp .gt (.idx QD Q1) (.bin .add QE Q1))
noncomputable def cb2:Ex:=.blt .anb (.cons QZ0 .nil)
noncomputable def Xld:Df:=⟨3,3,.cons (.ite cb1 (.cons (.rse 5 (.cst (.str "a number would be greater than it may be"))) .nil) .nil) (.cons (.ite cb2 (.cons (.rse 5 (.cst (.str "a size would be greater than it may be"))) .nil) .nil) .nil)⟩
noncomputable def cvE:Ex:=.cmr yw 3 (.cons (.tup [2,3]) Qf4 (.cons QZ5 .nil) .nil) (.call 5 QX6)
noncomputable def X0x:Df:=⟨1,1,.cons (.ret (.bin .add cvE QS7)) .nil⟩
noncomputable def fcX:Ex:=.call 17 (.cons QT Qh3)
noncomputable def fcR:Exs:=.cons (.idx QE QP) Qg3
noncomputable def fcE:Ex:=.cmr yw 4 (.cons Qr6 Qf4 .nil (.cons QT QM7 .nil .nil)) fcX
noncomputable def fc1:Ex:=.cmp .isnot (.call 12 Q4) Qf3
noncomputable def fc3:Ex:=.cmp .gt (.bin .sub (.blt .smB Q4) (.blt .smB Qz)) (.glb 5)
noncomputable def Xcp:Df:=⟨1,3,.cons (.ite fc1 (.cons (.rse 11 (.cst (.str "no net has such counts"))) .nil) .nil) (.cons (.expr Q91)
 (.cons (.asg QE (.call 16 Q4)) (.cons (.ite fc3 (.cons (.rse 5 (.cst (.str "the net would have more than sixty sides"))) .nil) .nil) (.cons (.asg QA fcE) (.cons (.ret QB2) .nil)))))⟩
noncomputable def lc1:Ex:=.cmp .ne (.cmr yw 2 (.cons Qv0 (.val Ql0) (.cons QM5 .nil) .nil) Qv0) QD1
noncomputable def lc2:Ex:=.cmp .gt (.sli QD (.some Q1) (.some Q31)) QL7
noncomputable def lfR:Exs:=.cons (.bin .sub QF1 Q1) (.cons Qe3 QX5)
noncomputable def lf1:St:=.asg QP (.call 27 (.cons (.idx QD QE) (.cons QE QC0)))
noncomputable def lfB:Sts:=.cons lf1 (.cons Qw5 (.cons (.for QT Qs5 (upB 28)) (.cons QI2 (.cons (.asg Qb QP) .nil))))
noncomputable def lfE:Ex:=.ite Q22 QB2 QY7
noncomputable def Xd4:Df:=⟨1,7,.cons Qr0 (.cons Q10
 (.cons (.ite QU6 (.cons (.ret QY7) .nil) .nil) (.cons QA2 (.cons Q84 (.cons (.ret lfE) .nil)))))⟩
noncomputable def Xhi:Df:=⟨1,2,.cons (.try Q51 0 1 Q41) .nil⟩
noncomputable def no:Sts:=.cons (.ret (.cst QM2)) .nil
noncomputable def lpC:Ex:=.or (.cmp .ne (.blt .repr (.cons (.call 34 QU0) .nil)) (.blt .repr (.cons Qv0 .nil))) (.cmp .ne QL3 Qt2)
noncomputable def lpB:Sts:=.cons (.ite lpC no .nil) .nil
noncomputable def Xna:Sts:=.cons Q56 (.cons Q04 (.cons (.for QS8 (.rng (.cons Q31 .nil)) lpB) .nil))
noncomputable def frC:Ex:=.cmp .ne (.blt .repr (.cons (.call 34 Qm) .nil)) (.blt .repr (.cons (.call 33 Qm) .nil))
noncomputable def Xty:Sts:=.cons (.ite frC no .nil) .nil
noncomputable def exI:LI->Exs
 |[]=>.nil|n::r=>.cons Qa7 (exI r)
noncomputable def ex7:Exs:=.cons (.tup (exI [1])) (.cons (.tup (exI Qc8)) (.cons (.tup (exI Qb8)) (.cons (.tup (exI Qe8)) (.cons (.tup (exI Qd8)) (.cons (.tup (exI QC5)) (.cons (.tup (exI Qh4)) .nil))))))
noncomputable def ex2:Exs:=.cons Ql1 (.cons (.tup (exI Qi4)) .nil)
noncomputable def ptE:Exs:=exI Q68
noncomputable def msE:Exs:=exI Q96
noncomputable def L1:St:=.asg QP (.call 19 (.cons (.call 18 (.cons QD (.cons Qb .nil))) .nil))
noncomputable def L2:St:=.asg Qr (.idx QJ5 (.call 20 (.cons QP QR3)))
noncomputable def msX:Ex:=.idx QP7 (.mth .index QJ5 Qg3)
noncomputable def L3:St:=.asg QA (.call 32 (.cons QP (.cons QH (.cons Qr (.cons msX .nil)))))
noncomputable def thE:Ex:=.bin .add Q28 (.call 31 (.cons QP Qm))
noncomputable def L4:St:=.for QT (.val thE) Xna
noncomputable def Xnb:Sts:=.cons L1 (.cons L2 (.cons L3 (.cons L4 .nil)))
noncomputable def Ybn:Df:=⟨1,10,.cons Qo4 (.cons (.for QA (.val Qz3) Xty)
 (.cons (.for Qb (.rng (.cons (.blt .max (.cons Q1 (.cons (.blt .min (.cons QF1 QR3)) .nil))) .nil)) Xnb) (.cons (.ret QZ7) .nil)))⟩
universe K43
universe e
section
namespace K43
open PySem PySem.Spec PyProof.Rows L2 Z
noncomputable def top(i:Nat):Stmt:=PySem.Challenge.pw_facecounts_k43_first_nets.main.body.getD i (.Pass ⟨0,0,0,0⟩)
noncomputable def gns:LS:=["GREATEST_NUMBER","MOST_CHOSEN","GREATEST_WIDTH","GREATEST_POINT","GREATEST_SIZE","MOST_SIDES","most_above"]
noncomputable def G:LD:=[.int 1000000000000,.int 12,.int 11,.int 15,.int 6,.int 60,.fn 4 "most_above"]
noncomputable def fns:LF:=([("is_whole",1,yx),("is_whole_within",3,yx),("is_whole_tuple",1,yx),("writing",2,yx),("most_above",2,yx),("least_below",2,yx),("check_written",2,yx),("ways",2,yx),("most_things",2,yx),("written_parts",2,yx),("is_row",1,yx),("check_row",1,yx),("not_of_net",1,yx),("first_beyond",2,yx),("first_net",1,yx),("check_bounds",3,yx),("covered_faces",1,yx),("face_at",2,yx),("_law_cell_at",2,yx),("_law_pot",1,yx)]:LF)++([("_law_take",2,yx),("_law_whole",1,yx),("_law_word",1,yw),("_law_ways",2,yx),("_law_writing",2,yx),("_law_next_by",3,yx),("_law_choices",3,yx),("_law_first_ones",3,yx),("_law_less_one",1,yx),("_law_first_not",2,yx),("_law_is_row",1,yx),("_law_spoilt_rows",2,yx),("_law_drawn_row",4,yx),("_law_first_net",1,yx),("_law_said",1,yx),("law",1,yx)]:LF)
noncomputable abbrev Xjt:Df:=Xdb
noncomputable def Xtz:LS:=Qr4
noncomputable abbrev Xcq:Df:=Xg1 0
noncomputable def Xhk:LS:=["thing","low","high"]
noncomputable abbrev Xdi:Df:=Xe0 0
noncomputable def Xin:LS:=Qr4
noncomputable abbrev Xmk:Df:=Xjk 6 8 7
noncomputable def Xxj:LS:=["number","size","told","rest","chosen","things"]
noncomputable abbrev Xf4:Df:=Xe1 9 QZ1
noncomputable def Xpr:LS:=Qw1
noncomputable abbrev Xe7:Df:=Xe1 9 QY1
noncomputable def Xmo:LS:=Qw1
noncomputable abbrev Xdr:Df:=Xm6 1 "a number from 0 to 10 ** 12 is due" "a size from 1 to 12 is due"
noncomputable def Xju:LS:=Qw1
noncomputable abbrev Xxk:Df:=Xg3
noncomputable def Ybo:LS:=["things","number","told","at"]
noncomputable abbrev Xe8:Df:=Xjj 7
noncomputable def Xmp:LS:=["number","chosen","low","high","middle"]
noncomputable abbrev Xds:Df:=Xg8 3
noncomputable def Xjv:LS:=Qw1
noncomputable abbrev Xps:Df:=Xjg 2 2
noncomputable def X0y:LS:=Qr4
noncomputable abbrev Xhs:Df:=Xid 10
noncomputable def Xp6:LS:=Qr4
noncomputable abbrev Xf5:Df:=Xf2 11 13 6
noncomputable def Xpt:LS:=["row"]
noncomputable abbrev Xej:Df:=dFirst
noncomputable def Xle:LS:=["row","above","place"]
noncomputable abbrev Xht:Df:=Xcp
noncomputable def Xp7:LS:=["row","covered","sides"]
noncomputable abbrev Xek:Df:=Xld
noncomputable def Xlf:LS:=["row","greatest","size"]
noncomputable abbrev Xdt:Df:=X0x
noncomputable def Xjw:LS:=["row"]
noncomputable abbrev Xml:Df:=Xm7 8 7
noncomputable def Xxl:LS:=["place","size","told","rest","chosen","number"]
noncomputable abbrev Xel:Df:=Xm3
noncomputable def Xlg:LS:=["_law_script","_law_k"]
noncomputable abbrev Xjx:Df:=Xk3
noncomputable def Xt0:LS:=["_law_cell","_law_number","_law_j","_law_more"]
noncomputable abbrev Xhu:Df:=Xjb
noncomputable def Xp8:LS:=["_law_pot_here","_law_far","_law_found"]
noncomputable abbrev Xf6:Df:=Xdb
noncomputable def Xpu:LS:=["_law_found"]
noncomputable abbrev Xhv:Df:=Xjd
noncomputable def Xp9:LS:=["_law_e","_law_some","_law_words"]
noncomputable abbrev Xhw:Df:=Xcg
noncomputable def Xqa:LS:=["_law_things","_law_number","_law_at","_law_top","_law_bottom"]
noncomputable abbrev Xem:Df:=Xjl 23
noncomputable def Xlh:LS:=["_law_number","_law_size","_law_found","_law_left","_law_at","_law_low","_law_high","_law_middle"]
noncomputable abbrev Xen:Df:=Xjn 23 24
noncomputable def Xli:LS:=["_law_kind","_law_number","_law_size","_law_some"]
noncomputable abbrev Xeo:Df:=Xm8
noncomputable def Xlj:LS:=["_law_far","_law_size","_law_again","_law_found","_law_turn","_law_longer","_law_one","_law_least"]
noncomputable abbrev Xcr:Df:=Xm9 23 26
noncomputable def Xhl:LS:=["_law_many","_law_size","_law_again","_law_far","_law_first_ones.<locals>.<lambda>"]
noncomputable abbrev Xdu:Df:=Xtx
noncomputable def Xjy:LS:=["_law_one"]
noncomputable abbrev Xdj:Df:=Xjp 25
noncomputable def Xio:LS:=["_law_row","_law_kind","_law_place","_law_number"]
noncomputable abbrev Xe9:Df:=Xph 21
noncomputable def Xmq:LS:=["_law_thing"]
noncomputable abbrev Xci:Df:=Xpl 20
noncomputable def Xf7:LS:=["_law_pot_here","_law_row","_law_at","_law_odd","_law_some"]
noncomputable abbrev Xdk:Df:=Xtv 20 25
noncomputable def Xip:LS:=["_law_pot_here","_law_kind","_law_points","_law_most","_law_row","_law_place","_law_far"]
noncomputable abbrev Xdl:Df:=Xd4
noncomputable def Xiq:LS:=["_law_row","_law_size","_law_found","_law_above","_law_here","_law_known","_law_one"]
noncomputable abbrev Xhx:Df:=Xhi
noncomputable def Xqb:LS:=["_law_row","_law_e"]
noncomputable abbrev Xt1:Df:=Ybn
noncomputable def X2b:LS:=["_law_script","_law_some","_law_row","_law_k","_law_pot_here","_law_points","_law_thing","_law_kept","_law_due","_law_lap"]
noncomputable def T:List Df:=[Xjt,Xcq,Xdi,Xmk,Xf4,Xe7,Xdr,Xxk,Xe8,Xds,Xps,Xhs,Xf5,Xej,Xht,Xek,Xdt,Xml,Xel,Xjx,Xhu,Xf6,Xhv,Xhw,Xem,Xen,Xeo,Xcr,Xdu,Xdj,Xe9,Xci,Xdk,Xdl,Xhx,Xt1]
abbrev MS(p:Nat)(N:LS)(fl:Bool)(d:Df):Prop:=Z.MD fns gns (top p) N fl d
theorem Xt2:MS 19 Xtz yx Xjt:=by decide+kernel
theorem Xhm:MS 20 Xhk yx Xcq:=by decide+kernel
theorem Xir:MS 21 Xin yx Xdi:=by decide+kernel
theorem Xxm:MS 25 Xxj yx Xmk:=by decide+kernel
theorem Xpv:MS 26 Xpr yx Xf4:=by decide+kernel
theorem Xmr:MS 27 Xmo yx Xe7:=by decide+kernel
theorem Xjz:MS 28 Xju yx Xdr:=by decide+kernel
theorem Ybp:MS 29 Ybo yx Xxk:=by decide+kernel
theorem Xms:MS 30 Xmp yx Xe8:=by decide+kernel
theorem Xj0:MS 31 Xjv yx Xds:=by decide+kernel
theorem X0z:MS 34 X0y yx Xps:=by decide+kernel
theorem Xqc:MS 35 Xp6 yx Xhs:=by decide+kernel
theorem Xpw:MS 37 Xpt yx Xf5:=by decide+kernel
theorem Xlk:MS 38 Xle yx Xej:=by decide+kernel
theorem Xqd:MS 43 Xp7 yx Xht:=by decide+kernel
theorem Xll:MS 44 Xlf yx Xek:=by decide+kernel
theorem Xj1:MS 45 Xjw yx Xdt:=by decide+kernel
theorem Xxn:MS 46 Xxl yx Xml:=by decide+kernel
theorem Xlm:MS 48 Xlg yx Xel:=by decide+kernel
theorem Xt3:MS 49 Xt0 yx Xjx:=by decide+kernel
theorem Xqe:MS 50 Xp8 yx Xhu:=by decide+kernel
theorem Xpx:MS 51 Xpu yx Xf6:=by decide+kernel
theorem Xqf:MS 52 Xp9 yw Xhv:=by decide+kernel
theorem Xqg:MS 53 Xqa yx Xhw:=by decide+kernel
theorem Xln:MS 54 Xlh yx Xem:=by decide+kernel
theorem Xlo:MS 55 Xli yx Xen:=by decide+kernel
theorem Xlp:MS 56 Xlj yx Xeo:=by decide+kernel
theorem Xhn:MS 57 Xhl yx Xcr:=by decide+kernel
theorem Xj2:MS 58 Xjy yx Xdu:=by decide+kernel
theorem Xis:MS 59 Xio yx Xdj:=by decide+kernel
theorem Xmt:MS 60 Xmq yx Xe9:=by decide+kernel
theorem Xf8:MS 61 Xf7 yx Xci:=by decide+kernel
theorem Xit:MS 62 Xip yx Xdk:=by decide+kernel
theorem Xiu:MS 63 Xiq yx Xdl:=by decide+kernel
theorem Xqh:MS 64 Xqb yx Xhx:=by decide+kernel
theorem Xt4:MS 65 X2b yx Xt1:=by decide+kernel
universe K43
universe e
section
namespace K43
open PySem Z
theorem t0:T[0]?=yz Xdb:=rfl
theorem t1:T[1]?=yz (Xg1 0):=rfl
theorem t2:T[2]?=yz (Xe0 0):=rfl
theorem t3:T[3]?=yz (Xjk 6 8 7):=rfl
theorem t4:T[4]?=yz (Xe1 9 QZ1):=rfl
theorem t5:T[5]?=yz (Xe1 9 QY1):=rfl
theorem t6:T[6]?=yz (Xm6 1 "a number from 0 to 10 ** 12 is due" "a size from 1 to 12 is due"):=rfl
theorem t7:T[7]?=yz Xg3:=rfl
theorem t8:T[8]?=yz (Xjj 7):=rfl
theorem t9:T[9]?=yz (Xg8 3):=rfl
theorem t10:T[10]?=yz (Xjg 2 2):=rfl
theorem t11:T[11]?=yz (Xid 10):=rfl
theorem t12:T[12]?=yz (Xf2 11 13 6):=rfl
theorem t13:T[13]?=yz dFirst:=rfl
theorem t14:T[14]?=yz Xcp:=rfl
theorem t15:T[15]?=yz Xld:=rfl
theorem t16:T[16]?=yz X0x:=rfl
theorem t17:T[17]?=yz (Xm7 8 7):=rfl
theorem t20:T[20]?=yz Xjb:=rfl
theorem t21:T[21]?=yz Xdb:=rfl
theorem t22:T[22]?=yz Xjd:=rfl
theorem t23:T[23]?=yz Xcg:=rfl
theorem t24:T[24]?=yz (Xjl 23):=rfl
theorem t25:T[25]?=yz (Xjn 23 24):=rfl
theorem t26:T[26]?=yz Xm8:=rfl
theorem t27:T[27]?=yz Q67:=rfl
theorem t28:T[28]?=yz Xtx:=rfl
theorem t29:T[29]?=yz (Xjp 25):=rfl
theorem t30:T[30]?=yz (Xph 21):=rfl
theorem t31:T[31]?=yz (Xpl 20):=rfl
theorem t32:T[32]?=yz (Xtv 20 25):=rfl
theorem t33:T[33]?=yz Xd4:=rfl
theorem t34:T[34]?=yz Xhi:=rfl
theorem g0:G[0]?=yz (.int 1000000000000):=rfl
theorem g1:G[1]?=yz Q48:=rfl
theorem g2:G[2]?=yz (.int 11):=rfl
theorem ftx{k f:Nat}{d:Df}{ds:LD}{S:Sto}(h:T[f]?=yz d):FT T G Qb2 f ds S=den (FT T G k) G d ds S:=by simp only[FT,h]
theorem whole(k:Nat):Xef Qe4 0:=Xmf t0 k
theorem Xxo(k:Nat)(d:D)(lo hi:Int)(S:Sto)(h:good S d):FT T G QG6 1 [d,.int lo,.int hi] S=.ok (.bl (wi d lo hi)) S:=by rw[ftx t1];exact Xtj (whole k d S h)
theorem Ybq(k n s:Nat)(S:Sto)(hn:n<=1000000000000)(L:1<=s)(hs:s<=12):FT T G QF6 6 Qm0 S=.ok .non S:=by have h1:=Xxo k Q65 0 1000000000000 S (Xia S n);have h2:=Xxo k Qc 1 12 S (Xia S s);rw[Yaj Q0 Q0]at h1 h2;rw[ftx t6];exact X5d g0 g1 h1 h2
theorem Xr5(k n s:Nat)(S:Sto)(hn:n<=1000000000000)(L:1<=s)(hs:s<=12):∃w,FT T G QE6 3 Qm0 S=.ok QF9 Q55/\Wr s n w:=by rw[ftx t3];exact Xz4 (Xb4 t7 QG6) (Xpb t8 Ql6) (Ybq k n s S hn L hs) L hs hn
theorem wrx:WrX:=λn s L h1 h2=>by obtain⟨w,_,h⟩:=Xr5 0 n s [] L h1 h2;exact⟨w,h⟩
theorem Xr6(k:Nat){f m:Nat}{g:Nat->Nat->Nat}{elt:Ex}(ht:T[f]?=yz (Xe1 9 elt))(hm:m<=12)
  (he:∀(x c:Nat) (a b d:Option D) (S:Sto),x<=9000000000000->1<=c->c<=12->ev (FT T G (k+5)) G elt [a,b,d,yz QV6,yz QZ8] S=.ok (.int (g x c:Nat)) S):Xf0 Qx3 f g m:=by
 intro n s S hn h1 hs;obtain⟨w,e1,hw⟩:=Xr5 k n s S hn h1 Q0;have hl:=Xwl hw;have hb:=Xtm hw;have e2:FT T G (k+5) 9 Qm0 S=.ok (.ref Qb3.length) (S++QJ1++[.lst ((Vl w.length).map (Xae w s))]):=by rw[ftx t9];exact Xto e1 Q0
 obtain⟨X,e3⟩:=X0a (G:=G) (g:=g) e2 hl Q0 (λx c a b d S hx L hc=>he x c a b d S (by have:=(hb _ hx).2;omega) L Q0) λx hx=>(hb x hx).1;refine Q86;rw[ftx ht,e3,Vq,Xch g hw]
theorem Yea(k:Nat):Xf0 Qx3 4 gU 11:=Xr6 k t4 Q6 λx c a b d S hx _ L=>Ydw Qz5 Q0 L
theorem Yeb(k:Nat):Xf0 Qx3 5 gL 12:=Xr6 k t5 Q6 λx c a b d S hx h1 L=>Ydx Qz5 Q0 h1 L
theorem next(k:Nat):Xg9 (FT T G QF6) 25 0:=by
 intro n s S hn h1 hs;have hw:Yl Q26 23:=(Xfy t23 Qb2).ways;obtain⟨w,e1,L⟩:=Xwu (F:=FT T G Qb2) (G:=G) (iw:=23) (n:=n) (s:=s) (S:=S) Q97.ways h1 Q0 hn;have e2:FT T G QG6 24 Qm0 S=.ok QF9 Q55:=by rw[ftx t24];exact e1
 obtain⟨X,e3⟩:=X0c (G:=G) (il:=23) (kd:=0) hw e2 L hn Q0 Q0;refine Q86;rw[ftx t25,e3,Vq,Xch (gK 0) L]
theorem Xxp(k:Nat){d:D}{S:Sto}(t:Thing S d):∃X,FT T G QF6 10 [d] S=.ok Qa6 QW:=by obtain⟨X,h⟩:=Xwk (G:=G) (Xzz t2 Qb2 (whole k)) g2 t;exact⟨X,by rw[ftx t10];exact h⟩
theorem Xxq(k:Nat){d:D}{S:Sto}(t:Thing S d)(h:isr d=yx):∃X,FT T G QE6 11 [d] S=.ok .non QW:=by obtain⟨X,e⟩:=Xxp k t;rw[h]at e;exact⟨X,by rw[ftx t11];exact X44 e⟩
theorem X00(k:Nat){d:D}{S:Sto}(t:Thing S d)(h:isr d=yw):∃X,FT T G QE6 11 [d] S=.ex QW.length QT5:=by obtain⟨X,e⟩:=Xxp k t;rw[h]at e;exact⟨X,by rw[ftx t11];exact Yaq e⟩
theorem X5y(k:Nat){d:D}{S:Sto}(t:Thing S d):∃X,FT T G QG6 30 [d] S=.ok Qa6 QW:=by obtain⟨X,h⟩:=Xwy (G:=G) (Xmf t21 k) t;exact⟨X,by rw[ftx t30];exact h⟩
theorem Xxr(k:Nat){l:LI}(hl:Qq0<=12)(S:Sto):∃X,FT T G QE6 29 Q62 S=.ok Qk5 QW:=by obtain⟨X,h⟩:=X0d (G:=G) (S:=S) (next k) hl;exact⟨X,by rw[ftx t29];exact h⟩
theorem ask(k:Nat){l:LI}(h1:1<=ll l)(hl:Qq0<=12){S:Sto}(t:Thing S Q5):∃X,FT T G (k+8) 12 Q30 S=.ok Qk5 QW:=by
 obtain⟨X,L⟩:=Xxq QF6 t (Xo7 h1 hl);obtain⟨Y,h⟩:=Xwx (F:=FT T G (k+6)) (G:=G) (row:=l) (f:=4) (nm:="most_above") (g:=gU) (S:=S++X) (Yea k) rfl g0 h1 hl;have e:FT T G (k+7) 13 [Xa l,.fn 4 "most_above"] QW=.ok Qk5 Qp5:=by rw[ftx t13];exact h
 exact⟨X++Y,by rw[ftx t12,<-Vq];exact X0e L rfl e⟩
theorem Ybr(k:Nat){d:D}{S:Sto}(t:Thing S d)(h:isr d=yw):∃X,FT T G (k+8) 12 [d] S=.ex QW.length QT5:=by obtain⟨X,L⟩:=X00 QF6 t h;exact⟨X,by rw[ftx t12];exact X0f L⟩
theorem Yff(k n s:Nat)(S:Sto)(hs:s<=12)(L:n<=1000000000000):∃y X,FT T G QF6 17 Qm0 S=.ok Qm6 QW/\Xd3 0 s n y:=by rw[ftx t17];exact X0m Ql6 (Xpb t8 (Xb4 t7 k)) hs L S
theorem less(k:Nat):Xe5 Qe4 28:=λone S hl=>by rw[ftx t28];exact X0w one S hl
section
variable{F:Fn}{a b:Ex}{env:En}{S S1:Sto}
theorem Yfg(h:ev F G a env S=.ok QM2 S1):ev F G Q08 env S=ev F G b env S1:=by rw[ev,h,Rk0];simp only[Xe]
theorem Yfh(h:ev F G a env S=.ok Qo0 S1):ev F G Q08 env S=.ok Qo0 S1:=by rw[ev,h,Rk0];simp only[Xe]
theorem Yec(h:ev F G a env S=.ok Qo0 S1):ev F G Qb7 env S=ev F G b env S1:=by rw[ev,h,Rk0];simp only[Xe]
theorem Yed(h:ev F G a env S=.ok QM2 S1):ev F G Qb7 env S=.ok QM2 S1:=by rw[ev,h,Rk0];simp only[Xe]
theorem Xep(i j:Int)(S:Sto):Xh .gt Qv (.int j) S=.ok (.bl (decide (j<i))) S:=rfl
theorem X01(l:LI)(S:Sto):Xm .smB Q30 S=.ok (.int l.sum) S:=by unfold Xa;simp only[Xm,Xp,V1,Xav]
theorem X02(l:LI)(S:Sto):Xm .anb Q30 S=.ok (.bl (l.any Ql8)) S:=by unfold Xa;simp only[Xm,Xav]
variable{l:LI}
theorem Xxs(S:Sto):ev F G cb1 QA1 S=.ok QZ6 S:=by
 have h1:ev F G QN5 QA1 S=.ok (.bl (decide QT6)) S:=by have e:decide ((1:Int)<QI1)=decide QT6:=decide_eq_decide.mpr Q0;simp only[ev,evs,gZ0,Rk0,Xha,Xep,e]
 unfold cb1 tb1;by_cases c:1<ll l;·rw[decide_eq_true c]at h1 ⊢;have hi:=Xbr (p:=1) c S;rw[Yec h1,Vef];simp only[ev,gZ0,gS0,Rk0,Xy];rw[show Y8 Q5 QK S=.ok (.int Qg6) S from hi];simp only[Rk0,Xep];rfl
 ·rw[decide_eq_false c]at h1 ⊢;rw[Yed h1,Vdr]
theorem Xxt(S:Sto):ev F G cb2 QA1 S=.ok QY6 S:=by have hs:=Xcf l 7 S;unfold cb2 tb2;simp only[ev,evs,evo,gZ0,gS0,Rk0,Xy,Xak];rw[show Xal Q5 (yz (6+1)) yy S=.ok QM8 S from hs];simp only[Rk0,X02]
theorem Xxu(S:Sto)(h:QP0=yx):den F G Xld QO0 S=.ex QL (S++QY4):=by
 unfold Xld;simp only[den,Uk,if_true,Ur,Vj,Vad,Vu];have h1:=Xxs (F:=F) (l:=l) S;have h2:=Xxt (F:=F) (l:=l) S;cases c:tb1 l with
 |true=>rw[c]at h1;rw[Xbe (Xce h1)]|false=>rw[c,Vhm]at h;rw[c]at h1;rw[h]at h2;rw[Xb Qy8,Xbe (Xce h2)]
theorem Xxv(S:Sto)(h:QP0=yw):den F G Xld QO0 S=.ok .non S:=by unfold Xld;simp only[den,Uk,if_true,Ur,Vj,Vad,Vu];have h1:=Xxs (F:=F) (l:=l) S;have h2:=Xxt (F:=F) (l:=l) S;rw[Vf6]at h;rw[h.1]at h1;rw[h.2]at h2;rw[Xb Qy8,Xb (Xz h2),pe]
noncomputable def prs(l:LI):LD:=QH0.map λ(i:Nat)=>D.tup QX4
theorem Xhj(l:LI):Qa2.length=ll l:=by unfold prs;rw[Vg,Ut]
theorem Xr7(l:LI)(S:Sto)(i:Nat):Qe2.get S i=yz Qa2[i]?:=by
 rw[Xpd];unfold prs;congr 1;simp only[Vx,List.getElem?_range'];by_cases q:i<ll l;·simp[q,List.getD]
 ·simp[q]
noncomputable def cvs(l:LI):LI:=QH0.map λs=>(cov l s:Int)
noncomputable def prI(i:Nat)(d:D):Nat:=((Xjr d).getD i 0).toNat
theorem Xj3(i m:Int):prI 0 QF0=i.toNat/\prI 1 QF0=m.toNat:=by have e:Xjr QF0=[i,m]:=ints_of [i,m];unfold prI;rw[e];exact QT4
noncomputable def cvY(d:D):D:=.int (abv gL Qg7 (prI 1 d):Nat)
noncomputable def cvB(d:D):Bool:=decide (0<prI 0 d)
theorem Ybs(i:Nat)(m:Int):cvY QF0=.int (abv gL i m.toNat:Nat):=by unfold cvY;rw[Qb4.1,Qb4.2,Us]
theorem Xj4(i:Nat)(m:Int):cvB QF0=decide Q49:=by unfold cvB;rw[Qb4.1,Us]
theorem X5z(c:Nrw l):(Qa2.filter cvB).map cvY++Qa8=Qv8.map D.int:=by obtain⟨n,L⟩:∃n,ll l=n+1:=⟨Qq0-1,by have:=c.l1;omega⟩;unfold prs cvs;rw[L,Vc1,Ua,List.filter_cons_of_neg (by rw[Xj4 0];decide),Vae,List.filter_eq_self.mpr (λd hd=>by obtain⟨i,_,rfl⟩:=Uc.mp hd;exact(Xj4 QF5 _).trans (decide_eq_true (Nat.succ_pos i))),<-Vc1,Vd4,Vav,Vav,Vae,Vae];congr 1;rw[Vgx,Vgx,X5s c Q0];rfl
def Ybt(F:Fn)(l:LI):Prop:=∀S,∃X q,F 16 Q30 S=.ok Q3 QW/\Xc QW q=yz Qx
theorem Ybu(hL:Xf0 F 5 gL 12)(c:Nrw l)(S:Sto):∃X,ev F G cvE QA5 S=.ok QJ3 (S++X++QA6):=by
 have aa:evit F G Qf4 QA5 S=.ok QX7 S:=by simp only[evit,evs,ev,gZ0,Rk0,Xa,Yq]
 exact Xla (F:=F) (G:=G) (S:=S) (n:=3) (t:=.tup [2,3]) (it:=.enm Q4) (ifs:=.cons QZ5 .nil) (elt:=.call 5 QX6) (env:=QA5) (src:=.enm Qv2) (xs:=prs l)
  cvB cvY (λe=>∃x y,e=[yz Q5,yy,x,y]) aa (by simp only[Src.most,Vg,Xhj]) Q45 (by rw[Xhj];exact Yy QL1) Q76
  (λd hd e X he=>by
   obtain⟨x,y,rfl⟩:=he;unfold prs at hd;obtain⟨i,hi,rfl⟩:=Uc.mp hd;have hi:=Va6.mp hi;refine⟨[yz Q5,yy,yz Qv,yz QU7],X,rfl,Qu6,?_,λhb=>?_⟩;·rw[evts];have e:decide ((0:Int)<(i:Int))=decide Q49:=decide_eq_decide.mpr Q0;simp only[ev,gZ0,gS0,Rk0,Xep,Xe,Xj4,e];cases decide Q49<;>simp only[evts]
   ·have h1:1<=i:=by rw[Xj4]at hb;exact oD0 hb
    obtain⟨m,hm⟩:∃m:Nat,l.getD i 0=(m:Int):=QV2;have hb:=V2 QJ6 QE7;rw[hm,Us]at hb;obtain⟨Y,h⟩:=hL m i QW Q0 h1 QL1
    refine QU4;simp only[ev,evs,gZ0,gS0,Rk0,hm,h,Ybs,Us,Vq])
theorem X50(L:Xf0 F 5 gL 12)(c:Nrw l)(S:Sto):∃X q,den F G X0x Q30 S=.ok Q3 QW/\Xc QW q=yz Qx:=by
 obtain⟨X,h⟩:=Ybu L c S;have hl:Qn.length<=12:=by rw[Vg];have:=List.length_filter_le cvB Qa2;rw[Xhj]at this;have:=c.l2;omega
 have ad:=Xeg (S:=S++X++QA6++Qq3) (a:=QW.length) (b:=(S++X++Q58).length) Ql5 Xf (by simp only[Vfn];omega);rw[X5z c]at ad;refine⟨X++QA6++Qq3++[.lst Qx],(S++X++Q58++[O.lst Q89]).length,?_,?_⟩
 ·refine Ye (env:=QA5) rfl rfl Qk1;have h2:∀S,ev F G QS7 QA5 S=.ok QB (S++Qq3):=λS=>by
   simp only[ev,evs,Rk0];rfl
  rw[exe,ev,h,Rk0,h2,Rk0,ad,Rk0];simp only[<-Vq]
 simp only[<-Vq];exact Xf
def Xt5(F:Fn):Prop:=∀(n s:Nat) (S:Sto),s<=12->n<=1000000000000->∃y X,F 17 Qm0 S=.ok Qm6 QW/\Xd3 0 s n y
noncomputable def fcI(F:Fn):En->LD->Sto->R (LD):=X8 QV0 QS0
noncomputable def fw1(L:Nat->LI)(d:D):LD:=match d with
 |.int i=>[Xa (L i.toNat)]|_=>[]
theorem X51(L:Nat->LI)(c m:Nat):(Qs1.map Qh5).flatten=(Q66.drop c).map Xa:=by
 have e:Q66.drop c=QK7.map λi=>L Ql7:=by refine Vf5 Qk λi h1 h2=>?_;simp
 rw[e];induction Vl (m-c) with
 |nil=>rfl|cons i l ih=>rw[Ua,Ua,Va3,ih,Ua,Ua];show [Xa (L Q35.toNat)]++_=_;rw[show Q35.toNat=c+i by omega];rfl
theorem Ybv(L:Nat->LI)(xs:LD):((xs.map Qh5).flatten).length<=ll xs:=Xts (w:=fw1 L) (λd=>by cases d<;>simp[fw1]) xs
theorem Yee(hf:Xt5 F){A B:Option D}{s c m:Nat}{acc:LD}(hs:s<=12)(hm:m<=C 16 s)(hc:c<=m)(hl:QD4<=500000)(S:Sto):
  ∃X,X9 (Src.con Qs1).get QT Qt8 (m-c+1) 0 Qp3 acc S=.ok (acc++(Qg1.drop c).map Xa) QW:=by
 have mb:=V2 hm Qr5;have hB:∀i,i<m->∃y,Xd3 0 s i y:=λi hi=>by obtain⟨y,_,_,h⟩:=hf i s [] hs Q0;exact⟨y,h⟩
 have hC:m<=C (16+0*(s-1)) s:=by rw[Vet,Vbj];exact hm
 obtain⟨L,aa⟩:∃L:Nat->LI,∀i,i<m->Xd3 0 s i (L i):=⟨λi=>if h:i<m then (hB i h).choose else [],λi hi=>by dsimp only;rw[dif_pos hi];exact(hB i hi).choose_spec⟩;have ft:=X0i (f:=16) Qt7 aa hC;have uq:∀i y,i<m->Xd3 0 s i y->y=L i:=λi y hi h=>by have e1:=Xhe (f:=16) Qt7 h Q0;have e2:=Xhe (f:=16) Qt7 (aa i hi) Q0;rw[e1]at e2;exact U6 e2
 rw[ft,<-X51];generalize hx:QK7.map (λ(i:Nat)=>D.int Q35)=xs;have xl:Qz6=m-c:=by rw[<-hx,Vg,Ut]
 obtain⟨X,a⟩:=X5m (S:=S) (xs:=xs) (t:=.var 6) (body:=fcI F) Qh5 acc (λe=>∃x,e=[A,B,yy,yy,yz Qc,yz Q80,x])
  (λi d e X hd he=>by
   obtain⟨x,rfl⟩:=he;have hi:i<m-c:=by have:=Q64.1;omega
   have ab:d=.int ((c+i:Nat):Int):=by rw[<-hx,Vx,Vai hi,V7,Vr]at hd;rw[<-hd,Vib]
   subst ab;obtain⟨y,Y,h1,h2⟩:=hf Ql7 s QW hs Q0;have:=uq Ql7 y Q0 h2;subst this;refine⟨Qe1,X++Y,rfl,Qm2,?_⟩;have hq:ev F G fcX Qe1 QW=.ok (Xa (L Ql7)) Qp5:=by simp only[fcX,ev,evs,gZ0,gS0,Rk0,h1]
   have ac:(acc++(Qx6.map Qh5).flatten).length<big:=by have:=Ybv L Qx6;rw[U9]at this;rw[V4];unfold big;omega
   simp only[fcI,X8,evts,Rk0,if_true,hq,ac,Vq,fw1,Us])
  Qi7 0 Qp3 [] Qp4 Qn6 Q0
 rw[Ven,Vbq,List.flatten_nil,Vu,Vu]at a;rw[<-xl];exact⟨X,a⟩
universe e
theorem Xr8{w:D->LD}{B:Nat}:∀l:LD,(∀d∈l,(w d).length<=B)->((l.map w).flatten).length<=ll l*B
 |[],_=>by simp|d::l,h=>by have ih:=Xr8 l λx hx=>h x (U2 _ hx);have:=h d Uv;rw[Ua,Va3,V4,Ux,Nat.succ_mul];omega
noncomputable def fw(l:LI)(d:D):LD:=(fcs l Qg7).map Xa
theorem Xt6(l:LI)(i:Nat)(m:Int):fw l QF0=(fcs l i).map Xa:=by unfold fw;rw[Qb4.1,Us]
theorem Ybw(l:LI):(Qa2.map QE9).flatten=Q00.map Xa:=by unfold prs sds;rw[Vae,List.map_flatMap,List.flatMap_def];exact congrArg List.flatten (Vgg λi _=>Xt6 l i _)
theorem Yef{l:LI}(c:Nrw l){d:D}(h:d∈prs l):(fw l d).length<=12870:=by obtain⟨i,_,rfl⟩:=Uc.mp h;rw[Xt6,Vg,Xhh c];have:=V2 QJ6 QE7;omega
section
variable{F:Fn}{l:LI}
theorem Ybx{q s:Nat}{S:Sto}(L:Xc S q=yz Qx)(hs:s<ll l):Y8 Q3 Qc S=.ok Qm4 S:=by
 have e:ixN Qx.length (s:Int)=yz s:=by unfold ixN cvs;simp only[Vg,Ut];rw[iP0 Q0,iP0 Q0];rfl
 have g:Qx[s]?=yz Qm4:=by unfold cvs;rw[Vx,Vx,Vai hs];rfl
 simp only[Y8,Xap,Xp,L,V1,e,g]
theorem Yby(hf:Xt5 F)(c:Nrw l){q:Nat}(S:Sto)(hq:Xc S q=yz Qx):∃X,ev F G fcE Qx0 S=.ok QJ3 (S++X++Qc5):=by
 have ah:evit F G Qf4 Qx0 S=.ok QX7 S:=by simp only[evit,evs,ev,gZ0,Rk0,Xa,Yq]
 have pl:=Xhj l;obtain⟨X,a⟩:=Xhb (S:=S) (xs:=prs l) (t:=.tup [4,5]) (get:=Qe2.get) (body:=X8 QV0 (λenv L S=>if Xfh QT env then QZ3.bind λaa S=>
   X9 QJ8 QT Qt8 QM6 0 env L S else .bad)) QE9 [] (λe=>∃x y,e=[yz Q5,yz Q3,yy,yy,x,y,yy]) Q45
  (λi d e X hd he=>by
   obtain⟨x,y,rfl⟩:=he;have hi:i<ll l:=by have:=Q64.1;omega
   have aj:d=.tup QX4:=by unfold prs at hd;rw[Vx,Vai hi,V7,Vr]at hd;exact hd.symm
   have fl:(Q24.flatten).length<=500000:=by have:=Xr8 (w:=fw l) (Qa2.take i) λd hd=>Yef c (Vab hd);rw[U9]at this;have:=c.l2;omega
   generalize Q24.flatten=L at fl ⊢;subst aj;obtain⟨m,hm⟩:∃m:Nat,l.getD i 0=(m:Int):=QV2;have ac:=c.le i;have af:=Xxd wrx c (s:=i);have ak:=V2 QJ6 QE7;rw[hm,Us]at ac af ak;have hr:Yn Qr3=yz Q61:=by simp only[Yn];rw[iP0 Qe0,show((m:Int)-(cov l i:Nat)).toNat=m-cov l i by omega]
   obtain⟨Y,r⟩:=Yee (F:=F) hf (A:=yz Q5) (B:=yz Q3) (s:=i) (c:=cov l i) (m:=m) (acc:=[]++L) QL1 ac af (by rw[Uw];exact fl) QW;refine⟨[yz Q5,yz Q3,yy,yy,yz Qv,yz QU7,yy],X++Y,rfl,Qu6,?_⟩;have ae:evit F G QM7 Qo2 QW=.ok (.con Q61) QW:=Xje (ds:=Qr3) (by simp only[fcR,evs,ev,gZ0,gS0,Rk0,Ybx Q09 hi]) hr
   have ai:Xfh QT Qo2=true:=rfl;rw[Xt6,hm];simp only[X8,evts,Rk0,if_true,ai,ae,Src.most,Vg,Ut];rw[r];unfold fcs;rw[hm,Us];simp only[Vq])
  (Qa2.length+1) 0 [yz Q5,yz Q3,yy,yy,yy,yy,yy] [] Q76 Qn6 Q0
 rw[Ven,Vbq,List.flatten_nil,Uw,Vu,Ybw,Uw]at a;refine QL4;unfold fcE;rw[ev,ah];simp only[Rk0,Src.most];rw[pl]at a;have a':X9 Qe2.get Qr6 (X8 QV0 (λenv L S=>if Xfh QT env then QZ3.bind λaa S=>X9 QJ8 QT (X8 QV0 QS0) QM6 0 env L S else .bad)) (Q7.length+1) 0 (Qx0++Vj 4 yy) [] S=.ok Qh1 QW:=by rw[Vg];exact a
 rw[a',Rk0];rfl
theorem Xf9(g:Nat->Nat->Nat)(l:LI):Yd g l=.non\/∃p:Nat,Yd g l=.int p:=by
 unfold Yd;split;·exact .inr Qm2
 ·exact .inl rfl
noncomputable def tbn(l:LI):Bool:=decide (60<Q00.length)
theorem Xxw{q:Nat}{S:Sto}{n:LL}(hn:QC9<=60)(L:Xc S q=yz (n.map Xa)):Xm .srt Q79 S=.ok QB (S++[.lst ((Y6 n).map Xa)]):=by simp only[Xm,L,V1,Xry,Xh1];rw[iP0 Q0];rfl
theorem Xj5{S S1:Sto}{d:D}(h:F 12 Q30 S=.ok d S1)(b:Bool)(hb:Xh .isnot d .non S1=.ok QF7 S1):ev F G fc1 Q42 S=.ok QF7 S1:=by simp only[fc1,ev,evs,gZ0,Rk0,h,hb]
theorem Xxx(c:Nrw l){q:Nat}{S:Sto}(L:Xc S q=yz Qx):ev F G fc3 Qx0 S=.ok (.bl (tbn l)) S:=by have e:=X5t wrx c;have e2:decide ((60:Int)<l.sum-Qv8.sum)=tbn l:=decide_eq_decide.mpr (by unfold cvs;omega);simp only[fc3,ev,evs,gZ0,gS0,Rk0,X01,Xk7 L,X7,G,Xep,e2]
theorem X52{S S1:Sto}{p:Nat}(h:F 12 Q30 S=.ok QW6 S1):den F G Xcp Q30 S=.ex Qt4 (S1++[.exc 11]):=by unfold Xcp;simp only[den,Uk,if_true,Ur,Vj,Nat.reduceSub,Vaw,Uw];rw[Xbe (Xce (Xj5 h yx rfl))]
theorem X53{S S1:Sto}{d:D}{n:Nat}(h:F 12 [d] S=.ex n S1):den F G Xcp [d] S=.ex n S1:=by unfold Xcp;simp only[den,Uk,if_true,Ur,Vj,Nat.reduceSub,Vaw,Uw];rw[Xbe (n:=n) (S1:=S1) (by simp only[exe,fc1,ev,evs,gZ0,Rk0,h,R.bind_ex])]
theorem Xt7{S:Sto}{r:R D}(h:F 15 QO0 S=r):ev F G Q91 Q42 S=r:=by simp only[ev,evs,gZ0,gS0,Rk0,G,h]
section
variable{S S1:Sto}(h:F 12 Q30 S=.ok .non S1)
include h
theorem X54(h15:F 15 QO0 S1=.ex Qt4 Qx7):den F G Xcp Q30 S=.ex Qt4 Qx7:=by unfold Xcp;simp only[den,Uk,if_true,Ur,Vj,Nat.reduceSub,Vaw,Uw];rw[Xb Qc2,Xbe (n:=ll S1) (S1:=S1++QY4) (by rw[exe,Xt7 h15,R.bind_ex])]
variable(h15:F 15 QO0 S1=.ok .non S1)(hv:Ybt F l)(c:Nrw l)
include h15 hv c
theorem X03(ht:tbn l=yx):∃X,den F G Xcp Q30 S=.ex QC7.length (S1++X++QY4):=by obtain⟨X,q,L,hq⟩:=hv S1;have h3:=Xxx (F:=F) c hq;rw[ht]at h3;refine QL4;unfold Xcp;simp only[den,Uk,if_true,Ur,Vj,Nat.reduceSub,Vaw,Uw];rw[Xb Qc2,Xb (e:=Q42) (S1:=S1) QQ4,Xb (e:=Qx0) (S1:=S1++X) Qd2,Xbe (Xce h3)]
theorem Ybz(hf:Xt5 F)(ht:tbn l=yw):∃X,den F G Xcp Q30 S=.ok (Xf3 QE4) QC7:=by
 obtain⟨X,q,L,hq⟩:=hv S1;have h3:=Xxx (F:=F) c hq;rw[ht]at h3;obtain⟨Y,he⟩:=Yby hf c QC7 hq;have hs:=Xxw (n:=sds l) (by simpa [tbn] using ht) (S:=S1++X++Y++Qc5) Xf
 have l2:Xc (S1++X++Y++Qd7++Qc7) (S1++X++Y++Qd7).length=yz Qp0:=Xf;refine⟨X++Y++Qc5++Q78,?_⟩;unfold Xcp;refine Ye (env:=Q42) rfl rfl ?_;refine(Xb Qc2).trans ((Xb (e:=Q42) (S1:=S1) QQ4).trans ((Xb (e:=Qx0) (S1:=S1++X) Qd2).trans ((Xb (Xz h3)).trans
  ((Xb (e:=[yz Q5,yz Q3,yz (.ref (S1++X++Y).length)]) (Xs he)).trans Qk1))))
 simp only[exe,ev,evs,gZ0,gS0,Rk0,hs];simp only[Xm,Xp,l2,Rk0,Xf3,<-Vq]
universe e
universe e
theorem X04{x y:D}{b:Bool}{S:Sto}(h:Xh .eq x y S=.ok QF7 S):Xh .ne x y S=.ok (.bl (!b)) S:=by
 simp only[Xh,X0]at h ⊢;cases e:eqD S x y with
 |none=>rw[e]at h;cases h|some c=>rw[e]at h;cases h;rfl
theorem X05(a b:LI)(S:Sto):Xh .gt Qo7 Qn7 S=.ok (.bl (ltL b a)) S:=by simp only[Xa,Xh,X0,ltD,Xav]
theorem Yb0{α:Type}:∀xs:List α,cut xs QA9 Q99=(xs.drop 1).take 1
 |[]=>rfl|[x]=>rfl|x::y::r=>by unfold cut Xbj;simp only[Ux];rw[iP0 Q6,iP0 Q6,show min ((1:Int).toNat) QH7=1 by omega,show min ((2:Int).toNat) QH7=2 by omega]
theorem Yb1:∀l:LI,ltL [16] Q25=tb1 l
 |[]=>rfl|[x]=>rfl|x::y::r=>by
  show ltL [16] [y]=_;unfold tb1;rw[ltL,decide_eq_true (show 1<(x::y::r).length by simp),Vef];show _=decide (16<y);split;·rename_i c;rw[<-c];rfl
  ·rfl
theorem X55{S:Sto}{p q:Nat}{o:O}{xs:LD}(h:Xc S q=yz xs)(L:p≠q):Xc (S.set p o) q=yz xs:=by unfold Xc at h ⊢;rw[Vap L];exact h
section
variable{F:Fn}{l:LI}
theorem Yb2(hl:Qq0<=12)(hn:∀s,0<=l.getD s 0)(S:Sto):∃X,ev F G lc1 Qf S=.ok QY6 QW:=by
 have aa:ev F G Ql0 Qf S=.ok QM8 S:=by have hs:=Xcf l 7 S;simp only[ev,evo,gZ0,Rk0,Xak];exact hs
 obtain⟨X,L⟩:=Xla (F:=F) (G:=G) (S:=S) (n:=2) (t:=.var 8) (it:=.val Ql0) (ifs:=.cons QM5 .nil) (elt:=.var 8) (env:=Qf) (src:=.con Qq5) (xs:=QT1.map D.int)
  Qn1 id (λe=>∃x,e=[yz Q5,yy,yy,yy,yy,yy,yy,yy,x])
  (Xv9 aa) rfl (λX i=>rfl) (by rw[Vg,Vc2];exact Yy Q0) Qp4
  (λd hd e X he=>by
   obtain⟨x,rfl⟩:=he;obtain⟨y,hy,rfl⟩:=Uc.mp hd;refine⟨[yz Q5,yy,yy,yy,yy,yy,yy,yy,yz (.int y)],X,rfl,Qm2,?_,λ_=>⟨X,by simp only[ev,gZ0,gS0,id]⟩⟩
   rw[evts];simp only[ev,gZ0,gS0,Rk0,Xep,Xe];cases decide (0<y)<;>simp only[evts])
 have ef:(Qq5.filter Qn1).map id=QB0.map D.int:=by rw[List.map_id,Vh9];rfl
 rw[ef]at L;refine⟨X++Q98++QD0,?_⟩;have e1:=X5n (S:=S++X++Q98++QD0) (p:=QW.length) (q:=(S++X++[O.lst Qd3]).length) (l:=QT1.filter λx=>decide (0<x)) (w:=[]) Ql5 Xf;have e2:=X04 e1;rw[X5r hn,Bool.not_not]at e2;unfold lc1;rw[ev,L,Rk0,ev,evs,Rk0];rw[iP0 Q6,Rk0,e2];simp only[<-Vq]
theorem Yb3(S:Sto):ev F G lc2 Qf S=.ok QZ6 S:=by
 have hs:Xal Q5 QA9 Q99 S=.ok (Xa Q25) S:=by simp only[Xa,Xal,Yb0,Vgc,List.map_drop]
 have L:ev F G QL7 Qf S=.ok (Xa [16]) S:=Xa1 (ds:=[.int 16]) Qj1 Qk;unfold lc2;rw[ev];simp only[ev,evo,gZ0,Rk0,Xak,hs]at L ⊢;rw[L,Rk0,X05,Yb1]
theorem X2c(hl:Qq0<=12)(hn:∀s,0<=l.getD s 0)(S:Sto):∃X,ev F G QU6 Qf S=.ok (.bl QP0) QW:=by
 obtain⟨X,h1⟩:=Yb2 (F:=F) hl hn S;have h2:=Yb3 (F:=F) (l:=l) QW;refine QL4;cases L:tb2 l with
 |true=>rw[L]at h1;rw[Yfh h1,Bool.or_true]|false=>rw[L]at h1;rw[Yfg h1,h2,Vey]
universe e
def Xnc(F:Fn):Prop:=∀(s m:Nat) (S:Sto),s<=12->m<=C 16 s->∃S' q,F 27 Qj4 S=.ok Q3 S'/\UpS S S'/\Xc S' q=yz Qd4/\QL<=q
theorem X06{F:Fn}(hw:LWaysF F 23)(L:ChF F 26)(s m:Nat)(S:Sto)(hs:s<=12)(hm:m<=C 16 s):∃S' q,den F G Q67 Qj4 S=.ok Q3 S'/\UpS S S'/\Xc S' q=yz Qd4/\QL<=q:=by
 have hB:∀far,far<=16->∀i,i<=s->C (far+0*Qq8) i<90000:=λfar hf i _=>by have e1:=Y5 (k:=i) (show far+0*Qq8<=16 by omega);have e2:=C16 i;omega
 by_cases c:s=0
 ·subst c;have aa:exe F G (.whl QH6 frB) Qy0 S=.ok Qg2 S:=by
   have ht:Xcm F G QH6 Qy0 S=.ok yw S:=by
    have:decide ((0:Int)<((0:Nat):Int))=false:=by decide
    simp only[Xcm,frT,ev,gZ0,gS0,Rk0,Xh,X0,this,Xe]
   have hw:Yo (Xcm F G QH6) QX3 100000 Qy0 S=.ok Qg2 S:=by rw[Yo,ht];rfl
   rw[exe];exact hw
  exact Xpk (F:=F) (G:=G) (many:=m) (size:=0) (ag:=0) (iw:=23) (ic:=26) (far:=0) L aa Q0 Q0 Q0 (hB 0 Q0)
 obtain⟨far,f1,f2,f3,f4⟩:=X5p (F:=F) (G:=G) (iw:=23) (many:=m) (size:=s) (ag:=0) (B:=16) hw Q0 hs Q0 Q0 (by rw[Nat.mul_zero,Vbj];exact hm) S;obtain⟨S',q,a1,a2,a3,a4⟩:=Xpk (F:=F) (G:=G) (many:=m) (size:=s) (ag:=0) (iw:=23) (ic:=26) (far:=far) L f4 hs Q0 Q0 (hB far f1);have ab:m<=C (far+0*(s-1)) s:=by rw[Vet];rw[Nat.mul_zero]at f2;exact f2
 rw[X0p Q0 f1 ab]at a3;exact⟨S',q,a1,a2,a3,a4⟩
theorem Yfi(k:Nat):Xnc Q26:=λs m S h1 h2=>by rw[ftx t27];exact X06 Q97 (Ya8 t26 k) s m S h1 h2
theorem Xga{l:LI}(c:Nrw l){s:Nat}{y:LI}(L:y∈Qr2.take Q40.toNat):y≠[]/\Qh7<=6/\s+1<7:=by
 have h1:=(fon_all.mp (Vab L)).1;have h2:s+1<7:=by
  by_cases d:s+1<7;·exact d
  ·rw[c.far QN Q0,Int.toNat_zero,Ven]at L;cases L
 refine⟨λz=>?_,by omega,h2⟩;rw[z]at h1;cases h1
theorem X56{F:Fn}{l:LI}(hF:Xnc F)(hL:Xe5 F 28)(c:Nrw l){s q2 q3:Nat}{x4 x5 x6:Option D}{S0 S:Sto}{acc:LL}(hs:s<ll l)(u:UpS S0 S)(h0:Q27<=q2)(h2:Xc S q2=yz QE3)(ha:QD4<=200000)
  (h3:Xc S q3=yz (Qk4.map Xa)):
  ∃y5 y6 L S',pe F G lfB Qn2 S=.ok (.nx [yz Q5,yz Qc,yz QA0,yz QS1,yz QS1,y5,y6]) S'/\UpS S0 S'/\Xc S' q2=yz ((acc++fcs l s).map Xa)/\Xc S' L=yz (QX1.map Xa):=by
 obtain⟨m,hm⟩:∃m:Nat,l.getD s 0=(m:Int):=⟨Qt.toNat,by have:=c.nn s;omega⟩;have ac:=c.le s;have kf:=λkn=>Xxf wrx c (s:=s) (kn:=kn);rw[hm,Us]at ac ⊢;have aa:=Xbr (row:=l) (p:=s) hs S;rw[hm]at aa kf;obtain⟨S1,L,f1,u1,l4,g4⟩:=hF s m S QL1 ac;have s1:exe F G lf1 Qn2 S=.ok (.nx QP2) S1:=Xs (by simp only[ev,evs,gZ0,gS0,Rk0,aa,f1]);have s2:exe F G Qw5 QP2 S1=.ok (.nx [yz Q5,yz Qc,yz QA0,yz QM,yz QS1,yz Qt0,x6]) (S1++Qs3):=Xs QQ5;have tl:Qk4.length<=15000:=by rw[Xxe c];have:=V2 Qj5 (C16 QN);omega
 obtain⟨y6,S2,kvs,s3,u2,d2,k2⟩:=Ybl (F:=F) (G:=G) (il:=28) (a0:=yz Q5) (a1:=yz Qc) (a2:=yz QA0) (a4:=yz QS1) (x6:=x6) (S:=S1) hL (u1.lst h3) Xpp rfl tl (λy hy=>⟨QJ7.1,QJ7.2.1⟩) (λy hy=>by
  refine Xtw QN (Xga c (U0 hy)).2.2 y ?_;rw[Vir]at hy;split at hy;·exact hy
  ·cases hy)
 have ab:=u2.lst l4;have ml:Qg1.length<=15000:=by rw[U9];have:=C16 s;omega
 obtain⟨X,h5⟩:=Yd9 (F:=F) (G:=G) (a0:=yz Q5) (a1:=yz Qc) (a2:=yz QA0) (a3:=yz QM) (a6:=y6) ab ml d2;rw[show Qg1.filter (λr=>! Qn0.isSome)=fcs l s from kf _ k2]at h5;have ae:=u2.lst (u1.lst h2);have l5:Xc QI0 QJ4.length=yz Qx2:=Xf;have l2:Xc QI0 q2=yz QE3:=Xk (Xk ae);have l6:Xc QI0 L=yz Qd4:=Xk (Xk ab);have uu:UpS S0 QI0:=(((u.trans u1).trans u2).trans .app).trans .app;generalize S2++X++[O.lst Qx2]=S3 at h5 l5 l2 l6 uu;generalize QJ4.length=r5 at h5 l5;have fl:Qj7.length<=12870:=by rw[Xhh c];have:=V2 QI6 Qr5;omega
 have af:Yx .xtd QA0 [.ref r5] S3=.ok .non Qn5:=by
  have:QE3.length+Qx2.length<=big:=by rw[Vg,Vg];unfold big;omega
  simp only[Yx,show lstM S3 q2=yz QE3 from l2,l5,this,if_true,Vav]
 have s4:exe F G QI2 Q32 S2=.ok (.nx Q32) Qn5:=by rw[exe,ev];simp only[evs,ev,gZ0,gS0,Rk0,Xah,ae,Vby,if_true];rw[h5];simp only[Rk0,af]
 have ah:=Xab h2;refine⟨yz Qt0,y6,L,S3.set q2 QW0,?_,uu.set h0,Xa0 (Xab l2),X55 l6 Q0⟩;unfold lfB;exact Q73.trans (QH4.trans (QG4.trans (QB7.trans ((Xb (Xs (i:=3) (e:=.var 4) (d:=.ref L) (S':=S3.set q2 QW0) QM0)).trans (by simp only[pe,Vax])))))
noncomputable def dns(l:LI)(i:Nat):LL:=(Vl i).flatMap λk=>fcs l (ll l-1-k)
theorem X07(l:LI):Qu0.Perm Q00:=by
 have e:QH0.reverse=QH0.map λk=>ll l-1-k:=by refine Vf5 Qk λi h1 h2=>?_;simp
 have:=X0v l;rw[e,List.flatMap_map]at this;exact this
theorem X57{l:LI}(c:Nrw l)(i:Nat):Qk7.length<=i*12870:=by
 unfold dns;induction i with
 |zero=>simp|succ i ih=>rw[Vd4,Vbm,V4,Vfh,Xhh c];have:=V2 (c.le QI7) (C16 QI7);omega+splitNatSub
inductive LfI(l:LI)(q2:Nat)(S0:Sto)(i:Nat):En->Sto->Prop
 |mk {x1 x4 x5 x6:Option D} {q:Nat} {S':Sto} (u:UpS S0 S') (h:Xc S' q2=yz (Qk7.map Xa)) (h2:Xc S' q=yz (((fon 0 QE8 16).take (l.getD QE8 0).toNat).map Xa)):LfI l q2 S0 i QB3 S'
theorem X58{F:Fn}{l:LI}(hF:Xnc F)(hL:Xe5 F 28)(c:Nrw l){q2 q3:Nat}{S0 S:Sto}(u:UpS S0 S)(h0:Q27<=q2)(h2:Xc S q2=yz [])(h3:Xc S q3=yz []):
  ∃x1 q x4 x5 x6 S',exe F G Q84 QB1 S=.ok (.nx QB3) S'/\UpS S0 S'/\Xc S' q2=yz Qp6:=by
 have l1:=c.l1;have l2:=c.l2;have hr:Yn Q03=yz (QH0.map λ(k:Nat)=>D.int (QI1-1-k)):=by simp only[Yn];rw[iP0 ⟨trivial,by omega,by omega,by omega,by omega⟩,show(QI1-1 - -1).toNat=ll l by omega]
 have aa:evs F G lfR QB1 S=.ok Q03 S:=by simp only[lfR,evs,ev,gZ0,Rk0,Xha,X7]
 obtain⟨e',S',h,@⟨x1,x4,x5,x6,q,_,u',g,_⟩⟩:=Xbq (F:=F) (G:=G) (t:=.var 1) (es:=lfR) (b:=lfB) (env:=QB1) (S:=S) (S1:=S)
  (LfI l q2 S0)
  aa hr (.mk u h2 (by rw[Xdh (show Qq0<=ll l-0 by omega),Int.toNat_zero,Ven];exact h3))
  (λi d e S' hd hP=>by
   obtain @⟨x1,x4,x5,x6,q,_,u,g1,g2⟩:=hP;have hi:i<ll l:=by have:=Q64.1;simpa using this
   obtain⟨s,hs⟩:∃s,ll l-1-i=s:=Qm2;have L:d=.int (s:Int):=by rw[Vx,Vai hi,V7,Vr]at hd;rw[<-hd];congr 1;omega
   subst L;have e1:Qq0-i=s+1:=by omega
   rw[e1]at g2;obtain⟨y5,y6,q4,S2,t1,t2,t3,t4⟩:=X56 (x4:=x4) (x5:=x5) (x6:=x6) hF hL c (show s<ll l by omega) u h0 g1 (by have:=X57 c i;omega) g2;refine⟨_,_,S2,rfl,t1,.mk t2 ?_ ?_⟩;·rw[t3];unfold dns;rw[Vd4,Vbm,Vfh,hs]
   ·rw[show Qq0-QF5=s by omega]
    exact t4)
 rw[Vg,Ut]at g;exact⟨x1,q,x4,x5,x6,S',h,u',g⟩
section
variable{F:Fn}{l:LI}
theorem Xxy{a b:LL}(p:a.Perm b):Y6 a=Y6 b:=Xi8 ((Xbo a).trans p) (Xkm a)
theorem X08{S S1:Sto}{d:D}(h:F 30 [d] S=.ok QM2 S1):den F G Xd4 [d] S=.ok (.str "row") S1:=by unfold Xd4;refine Ye (env:=[yz d,yy,yy,yy,yy,yy,yy]) rfl rfl ?_;refine Xg ?_;simp only[exe,ev,evs,gZ0,Rk0,h,Xe,Vdv,pe]
theorem Xpy{S S1:Sto}(h:F 30 Q30 S=.ok Qo0 S1):exe F G Qr0 Qf S=.ok QX8 S1:=Xz (by simp only[ev,evs,gZ0,Rk0,h,Xe,Vb3])
theorem X09{S S1 S2:Sto}{p:Nat}(h:F 30 Q30 S=.ok Qo0 S1)(h2:F 29 Q62 S1=.ok QW6 S2):den F G Xd4 Q30 S=.ok (.str "way") S2:=by unfold Xd4;refine Ye (env:=Qf) rfl rfl ?_;refine Qc4.trans Qk1;simp only[exe,ev,evs,gZ0,Rk0,h2,show Xh .isnot QW6 .non S2=.ok Qo0 S2 from rfl,Xe,pe]
theorem Xr9{S1 S2:Sto}(h2:F 29 Q62 S1=.ok .non S2):exe F G Q10 Qf S1=.ok QX8 S2:=Xz (by simp only[ev,evs,gZ0,Rk0,h2];rfl)
theorem Xxz{S S1 S2:Sto}(h:F 30 Q30 S=.ok Qo0 S1)(h2:F 29 Q62 S1=.ok .non S2)(hl:l.length<=12)(hn:∀s,0<=l.getD s 0)(hb:QP0=yx):∃X,den F G Xd4 Q30 S=.ok Qu2 QJ4:=by obtain⟨X,L⟩:=X2c (F:=F) hl hn S2;rw[hb]at L;refine QL4;unfold Xd4;refine Ye (env:=Qf) rfl rfl ?_;refine Qc4.trans (QO6.trans Qk1);rw[exe,L,Rk0];simp only[Xe,pe,exe,ev,Rk0]
theorem Yb4{x1 x3 x4 x5 x6:Option D}{q:Nat}{S:Sto}(hq:Xc S q=yz Qp6):∃X,ev F G lfE Qj3 S=.ok (if tbn l=yx then .str "many" else Xf3 QE4) QW:=by
 have p:=X07 l;have ln:=p.length_eq;have L:Xm .len Q79 S=.ok (.int Qu0.length) S:=by simp only[Xm,Xp,hq,Vg]
 have hc:ev F G Q22 Qj3 S=.ok (.bl (!tbn l)) S:=by
  have e:decide ((Qu0.length:Int)<61) = !tbn l:=by unfold tbn;rw[Ve7];simp only[decide_eq_true_eq,Vbf,decide_eq_false_iff_not];omega
  simp only[ev,evs,gZ0,gS0,Rk0,L,Xh,X0,ltD,e]
 unfold lfE;rw[ev,hc,Rk0];cases ht:tbn l with
 |true=>exact⟨[],by simp only[Vb3,Xe,ev,if_true,Vu]⟩|false=>
  have hn:Qu0.length<=60:=by
   have:¬ 60<Q00.length:=by simpa [tbn] using ht
   omega
  have hs:=Xxw hn hq;rw[Xxy p]at hs;have l2:Xc (S++Qc7) QL=yz Qp0:=Xf;refine⟨Q78,?_⟩;simp only[Vdv,Xe,ev,evs,gZ0,gS0,Rk0,hs];simp only[Xm,Xp,l2,Xf3,Uo,if_false]
theorem X1a{S S1 S2:Sto}(hF:Xnc F)(hL:Xe5 F 28)(h:F 30 Q30 S=.ok Qo0 S1)(h2:F 29 Q62 S1=.ok .non S2)(hb:QP0=yw)(c:Nrw l):∃S',den F G Xd4 Q30 S=.ok (if tbn l=yx then .str "many" else Xf3 QE4) S'/\UpS S2 S':=by
 obtain⟨X,L⟩:=X2c (F:=F) c.l2 c.nn S2;rw[hb]at L;have s4:exe F G QA2 Qf QJ4=.ok (.nx [yz Q5,yy,yz (.ref QJ4.length),yz (.ref Qw4.length),yy,yy,yy]) (S2++X++QD0++QD0):=by have e:∀(env:En) (S:Sto),ev F G QD1 env S=.ok QB QK4:=λ_ _=>rfl;rw[exe];simp only[evs,e,Rk0];rfl
 obtain⟨x1,q,x4,x5,x6,S',s5,u,hq⟩:=X58 hF hL c (S0:=S2++X) (S:=S2++X++QD0++QD0) (q2:=QJ4.length) (q3:=Qw4.length) QQ2 Qs2 Ql5 Xf;obtain⟨Y,he⟩:=Yb4 (F:=F) (x1:=x1) (x3:=yz Q3) (x4:=x4) (x5:=x5) (x6:=x6) hq;refine⟨S'++Y,?_,(UpS.app.trans u).trans .app⟩;unfold Xd4;refine Ye (env:=Qf) rfl rfl ?_;refine Qc4.trans (QO6.trans ((Xb (Xz L)).trans (QB7.trans ((Xb s5).trans Qk1))));rw[exe,he,Rk0]
universe e
noncomputable def Xgb(l:LI):D:=open Classical in if Yd gU l=.non then (if QP0=yx then .str "many" else if tbn l=yx then .str "many" else Xf3 QE4) else .str "way"
noncomputable def due(d:D):D:=match d with
 |.tup xs=>if isr (.tup xs) then Xgb (xs.map fun | .int i=>i|_=>0) else .str "row"|_=>.str "row"
theorem Xlq{l:LI}(h1:1<=ll l)(hl:Qq0<=12):due Q5=Xgb l:=by
 have e:Q7.map (fun|.int i=>i|_=>0)=l:=by simp[Function.comp_def]
 have hi:=Xo7 h1 hl;unfold Xa at hi ⊢;simp only[due,hi,if_true,e]
theorem Xpz{d:D}(h:isr d=yw):due d=.str "row":=by
 cases d with
 |tup xs=>simp only[due,h,Uo,if_false]|_=>rfl
theorem Xiv{l:LI}{p:Nat}(h:Yd gU l=.int p):Xgb l=.str "way":=by unfold Xgb;rw[iN0 (by rw[h];exact λz=>nomatch z)]
theorem Xgc{l:LI}(h:Yd gU l=.non)(hb:QP0=yx):Xgb l=.str "many":=by unfold Xgb;rw[iP0 h,iP0 hb]
theorem Xlr{l:LI}(h:Yd gU l=.non)(hb:QP0=yw):Xgb l=if tbn l=yx then .str "many" else Xf3 QE4:=by unfold Xgb;rw[iP0 h,iN0 (by rw[hb];decide)]
theorem nrw{l:LI}(h1:1<=ll l)(hl:Qq0<=12)(h:Yd gU l=.non)(hb:QP0=yw):Nrw l:=by rw[Vf6]at hb;exact Ybg wrx h1 hl h hb.1 hb.2
theorem Xx0(d:D):FSm 20 400000 Qu4:=by
 have hs:∀t:Str,(reprText t).length<=1921->FSm 20 400000 QT8:=λt h=>(Xwh h).mono Q0 Q0;have L:FSm 20 400000 Qu2:=hs _ Qb0;cases hi:isr d with
 |false=>rw[Xpz hi];exact hs _ Qb0|true=>
  obtain⟨l,rfl,h1,hl⟩:=Xk4 hi;rw[Xlq h1 hl];rcases Xf9 gU l with h|⟨p,h⟩
  ·cases hb:tb1 l||tb2 l with
   |true=>rw[Xgc h hb];exact L|false=>
    rw[Xlr h hb];cases ht:tbn l with
    |true=>exact L|false=>
     have:¬ 60<Q00.length:=by simpa [tbn] using ht
     exact Ybm (by rw[QA7.length_eq];omega) λr hr=>X5u hl r ((Xbo _).mem_iff.mp hr)
  rw[Xiv h];exact hs _ Qb0
section
variable{F:Fn}{d r:D}{S S' P:Sto}
theorem X59(h:F 14 [d] S=.ok r S'):den F G Xhi [d] S=.ok r S':=by unfold Xhi;refine Ye (env:=Qo3) rfl rfl Qk1;have ha:pe F G Q51 Qo3 S=.ok Q59 S':=Xg (by simp only[exe,ev,evs,gZ0,Rk0,h]);rw[exe,iP0 QL6,ha]
theorem X6a{c:Nat}(h:F 14 [d] S=.ex P.length QR1)(hk:F 22 [.ref P.length] QR1=.ok r S'):den F G Xhi [d] S=.ok r S':=by
 unfold Xhi;refine Ye (env:=Qo3) rfl rfl Qk1;have ha:pe F G Q51 Qo3 S=.ex P.length QR1:=Xbe (by simp only[exe,ev,evs,gZ0,Rk0,h,R.bind_ex]);have hg:(P++[O.exc c])[P.length]?=yz (.exc c):=by rw[Uz Qs2,Vad];rfl
 have hh:pe F G Q41 [yz d,yz Qt5] QR1=.ok Q59 S':=Xg (by simp only[exe,ev,evs,gZ0,gS0,Rk0,hk]);rw[exe,iP0 QL6,ha];dsimp only;rw[hg];dsimp only;rw[iP0 QL6];have L:pe F G Q41 ((Qo3:En).set 1 (yz Qt5)) QR1=_:=hh;rw[L]
universe e
theorem Yb5{d:D}{S:Sto}(t:Thing S d):∃X,FT T G 13 34 [d] S=.ok Qu4 QW:=by
 have bad:∀(c:Nat) (P:Sto),1<=c->c<=16->FT T G 12 14 [d] S=.ex P.length QR1->(∃X,P=S++X)->∃X,FT T G 13 34 [d] S=.ok (Xdc c) QW:=λc P c1 c2 h ⟨X,hX⟩=>by obtain⟨Y,hk⟩:=X4x (G:=G) (k:=11) t22 c1 c2 P;refine QU4;rw[ftx t34,X6a h hk,hX,Vq]
 cases hi:isr d with
 |false=>obtain⟨X,h⟩:=Ybr 3 t hi;rw[Xpz hi];exact bad 7 QW Q0 Q0 (by rw[ftx t14];exact X53 h) Q95|true=>
  obtain⟨l,rfl,h1,hl⟩:=Xk4 hi;rw[Xlq h1 hl];obtain⟨X,h⟩:=ask 3 h1 hl t;rcases Xf9 gU l with hf|⟨p,hf⟩
  ·rw[hf]at h;cases hb:tb1 l||tb2 l with
   |true=>rw[Xgc hf hb];exact bad 5 QW Q0 Q0 (by rw[ftx t14];exact X54 h (by rw[ftx t15];exact Xxu _ hb)) Q95|false=>
    have c:=nrw h1 hl hf hb;have hv:Ybt (FT T G 11) l:=λS=>by rw[ftx t16];exact X50 (Yeb 4) c S
    have h15:FT T G 11 15 QO0 QW=.ok .non QW:=by rw[ftx t15];exact Xxv _ hb
    rw[Xlr hf hb];cases L:tbn l with
    |true=>obtain⟨Y,e⟩:=X03 h h15 hv c L;exact bad 5 Qp5 Q0 Q0 QP4 ⟨X++Y,by rw[Vq]⟩|false=>obtain⟨Y,e⟩:=Ybz h h15 hv c (λn s S a b=>Yff 8 n s S a b) L;refine QU4;rw[ftx t34,<-Vq];exact X59 QP4
  rw[hf]at h;rw[Xiv hf];exact bad 11 QW Q0 Q0 (by rw[ftx t14];exact X52 h) Q95
theorem Yb6{d:D}{S:Sto}(t:Thing S d):∃S',FT T G 13 33 [d] S=.ok Qu4 S'/\UpS S S':=by
 rw[ftx t33];obtain⟨X,h⟩:=X5y 10 t;cases hi:isr d with
 |false=>rw[hi]at h;rw[Xpz hi];exact⟨S++X,X08 h,.app⟩|true=>
  rw[hi]at h;obtain⟨l,rfl,h1,hl⟩:=Xk4 hi;rw[Xlq h1 hl];obtain⟨Y,h2⟩:=Xxr 8 hl QW;rcases Xf9 gU l with hf|⟨p,hf⟩
  ·rw[hf]at h2;cases hb:tb1 l||tb2 l with
   |true=>rw[Xgc hf hb];obtain⟨Z,e⟩:=Xxz h h2 hl (Xw7 hf) hb;exact⟨_,e,QQ2.trans .app⟩|false=>rw[Xlr hf hb];obtain⟨S',e,u⟩:=X1a (Yfi 10) (less 11) h h2 hb (nrw h1 hl hf hb);exact⟨S',e,QQ2.trans u⟩
  rw[hf]at h2;rw[Xiv hf];exact⟨_,X09 h h2,UpS.app.trans .app⟩
theorem Xx1{d:D}(h:FSm 20 400000 d):∃t,∀S,Xff S d=yz t:=by
 obtain⟨p,L,q2,q3,q4,q5⟩:=h;refine⟨p.shown,λS=>?_⟩;have c1:p.depth<=60:=by omega
 have c2:szD p<=big:=by unfold big;omega
 unfold Xff Xas;rw[L];dsimp only;rw[iP0 QU1]
theorem X1b{a0 a1 a2 a3 a4 a5 a7 a8 a9:Option D}{d:D}{p:Nat}{S:Sto}(kp:Kp p S d):
  ∃b7 b8 b9 S',pe Ql G Xna Q23 S=.ok (.nx [a0,a1,a2,a3,a4,a5,yz d,b7,b8,b9]) S'/\UpS S S':=by
 obtain⟨L,aa⟩:=kp.now.sm.repU;obtain⟨ty,ab⟩:=Xx1 Qz8;have s1:exe Ql G Q56 Q23 S=.ok (.nx QC2) S:=Xs (by simp only[ev,evs,gZ0,gS0,Rk0,Xhg (aa S .refl)]);obtain⟨S2,h2,u2⟩:=Yb6 kp.now;have s2:exe Ql G Q04 QC2 S=.ok (.nx Qd1) S2:=Xs (by simp only[ev,evs,gZ0,gS0,Rk0,h2]);obtain⟨xs,hx,ac⟩:=Xa9 (m:=2) Q0 Q0;obtain⟨e',S',h3,b9,rfl,u3⟩:=Xbq (F:=FT T G 13) (G:=G) (t:=.var 9) (es:=.cons Q31 .nil) (b:=lpB) (env:=Qd1) (S:=S2) (S1:=S2) (ds:=[.int 2]) (xs:=xs)
  (λi e S'=>∃b9,e=[a0,a1,a2,a3,a4,a5,yz d,yz QU8,yz Qu4,b9]/\UpS S S') Qj1 hx ⟨a9,rfl,u2⟩
  (λi x e S' _ hP=>by
   obtain⟨b9,rfl,u⟩:=hP;obtain⟨X,hs⟩:=Yb5 (kp S' u.ext);have hc:ev Ql G lpC QJ0 S'=.ok QM2 Q39:=by simp only[lpC,ev,evs,gZ0,gS0,Rk0,hs,Xhg (ab _),Xrs,Xe,Xhg (aa Q39 Qt3)]
   refine⟨QJ0,QJ0,S'++X,rfl,?_,_,rfl,u.trans .app⟩;unfold lpB;rw[Xb Qx8,pe])
 refine⟨yz QU8,yz Qu4,b9,S',?_,u3⟩;unfold Xna;exact Q73.trans (QH4.trans ((Xb h3).trans Qo1))
theorem X1c{a0 a1 a3 a4 a5 a6 a7 a8 a9:Option D}{d:D}{S:Sto}(kp:Kp 0 S d):
  ∃S',pe Ql G Xty Q81 S=.ok (.nx Q81) S'/\UpS S S':=by
 obtain⟨ty,L⟩:=Xx1 Qz8;obtain⟨X,hs⟩:=Yb5 kp.now;obtain⟨S2,h2,u2⟩:=Yb6 (kp QW (UpS.app.ext));have hc:ev Ql G frC Q81 S=.ok QM2 S2:=by simp only[frC,ev,evs,gZ0,gS0,Rk0,hs,Xhg (L _),h2,Xrs]
 refine⟨S2,?_,UpS.app.trans u2⟩;unfold Xty;rw[Xb Qx8,pe]
section
variable{F:Fn}{env:En}
theorem Xgd(S:Sto):∀ns:LI,evs F G QI8 env S=.ok QY0 S
 |[]=>by simp only[exI,evs,Vbq]|n::r=>by simp only[exI,evs,ev,Rk0,Xgd S r,Ua]
theorem Xbt(S:Sto)(ns:LI)(h:Qp8<=100):ev F G (.tup QI8) env S=.ok (Xa ns) S:=Xa1 (Xgd S ns) (by rw[Vg];exact h)
noncomputable def rows7:LL:=[[1],Qc8,Qb8,Qe8,Qd8,QC5,Qh4]
noncomputable def rows2:LL:=[QG3,Qi4]
theorem Yb7(S:Sto):evs F G ex7 env S=.ok Q60 S:=by unfold ex7 rows7;rw[evs,Xbt S _ Q6,Rk0,evs,Xbt S _ Q6,Rk0,evs,Xbt S _ Q6,Rk0,evs,Xbt S _ Q6,Rk0,evs,Xbt S _ Q6,Rk0,evs,Xbt S _ Q6,Rk0,evs,Xbt S _ Q6,Rk0,evs];simp only[Rk0,Ur]
theorem Yb8(S:Sto):evs F G ex2 env S=.ok (rows2.map Xa) S:=by
 have L:ev F G Ql1 env S=.ok (Xa QG3) S:=by rw[<-Xf1];exact Xa1 (ds:=[.int 1,.int e12,.int e12]) QU2 Qk
 unfold ex2 rows2;rw[evs,L,Rk0,evs,Xbt S _ Q6,Rk0,evs];simp only[Rk0,Ur]
theorem Yeg{pts:Int}{i most:Nat}{S:Sto}(h5:env[5]?=yz Qm8)(hi:Qd.findIdx? (· == pts)=yz i)(L:(Q96:LI)[i]?=yz (most:Int))(h4:i<4):ev F G msX env S=.ok QX (S++Qg8++Qf8):=by
 have e1:∀S,ev F G QP7 env S=.ok QB (S++Qg8):=λS=>by rw[ev,msE,Xgd,Rk0];rfl
 have e2:∀S,ev F G QJ5 env S=.ok QB (S++Qf8):=λS=>by rw[ev,ptE,Xgd,Rk0];rfl
 have l1:Xc QQ6 QL=yz QG:=Xk Xf;have l2:Xc QQ6 QO8.length=yz QI:=Xf;have hx:ixN QG.length (i:Int)=yz i:=by unfold ixN;rw[iP0 Q0,iP0 (by rw[Vg];show(i:Int)<4;omega)];rfl
 unfold msX;rw[ev,e1,Rk0,ev,e2,Rk0];generalize S++Qv1++Qu1=S2 at l1 l2 ⊢;generalize QO8.length=r at l2 ⊢;simp only[Xah,l2,Vby,if_true,evs,ev,h5,Rk0,Yx,V1,Xav,hi];simp only[Y8,Xap,Xp,l1,V1,hx,Vx,L,V7]
universe e
theorem X1d{p:Nat}{S:Sto}:∀d∈Qu3.map Xa,Kp p S d:=λd hd=>by
 obtain⟨r,L,rfl⟩:=Uc.mp hd;have:∀r∈rows7++rows2,(∀x∈r,x.natAbs.log2<1920)/\(ll r)<=100:=by decide+kernel
 exact Yz QG7.1 QG7.2
theorem CF(F:Nat)(s:Nat)(h:F<=16):C F s<=12870:=V2 (Y5 h) Qr5
theorem bds{F pts most:Nat}(h1:pts<=F)(h2:F<=16)(h3:most<=7)(h4:most<=F+1):Bds 0 pts most (C F):=by
 refine⟨by rw[Y1];exact Vi _,by rw[Xg6];exact h1,λs n a b L=>?_,λs _=>?_,λs _=>?_,by omega⟩;·exact Xlb wrx a Q0 Q0 L (by have:=CF F s h2;omega)
 ·have:=CF F s h2;omega
 have:=CF F s h2;have:=X16;omega
inductive E10(sc:Option D):En->Prop
 |mk (b1 b2 b3 b4 b5 b6 b7 b8 b9:Option D):E10 sc [sc,b1,b2,b3,b4,b5,b6,b7,b8,b9]
theorem turn(ns:LI)(i:Nat)(a1 a2 a4 a5 a6 a7 a8 a9:Option D)(S:Sto):
  ∃e S',pe Ql G Xnb [yz QW7,a1,a2,yz Qv,a4,a5,a6,a7,a8,a9] S=.ok Qu5 S'/\E10 (yz QW7) e:=by
 generalize ai:yz QD7=sc;obtain⟨c,hc⟩:=Xzp (F:=FT T G 12) (G:=G) ns i S;obtain⟨v,hv⟩:=X4u (F:=FT T G 12) (G:=G) c S;have ah:FT T G 13 18 [.fro QY0,.int i] S=.ok QZ8 S:=hc;have an:FT T G 13 19 [.int c] S=.ok QB Qo5:=hv;have s1:exe Ql G L1 [sc,a1,a2,yz Qv,a4,a5,a6,a7,a8,a9] S=.ok (.nx [sc,a1,a2,yz Qv,yz QB,a5,a6,a7,a8,a9]) Qo5:=Xs (by subst ai;simp only[ev,evs,gZ0,gS0,Rk0,ah,an]);have p1:Xc (S++Qe7) QL=yz QT2:=Xf;generalize S++Qe7=S1 at s1 p1;generalize QL=p at s1 p1;have hT:Xg2 Ql 20:=Xic t20 12;have d4:Yw 4=true:=by decide+kernel
 obtain⟨d,md,ed⟩:=Xzu (G:=G) hT (q:=4) (c:=4) (p:=p) (v:=v) (env:=QY2) (Xgd (F:=FT T G 13) S1 Q68) rfl Q6 (by show 4<=big;decide) d4 rfl p1;have hd:∃n j most F:Nat,d=.int n/\Qd.findIdx? (· == (n:Int))=yz j/\(Q96:LI)[j]?=yz (most:Int)/\j<4/\n<=F/\F<=16/\most<=7/\most<=F+1/\1<=most:=by
  simp only[Ur,V0,Vaf,or_false]at md;rcases md with rfl|rfl|rfl|rfl;·exact⟨2,0,7,8,rfl,by decide,by decide,by decide,by decide,by decide,by decide,by decide,by decide⟩
  ·exact⟨5,1,7,8,rfl,by decide,by decide,by decide,by decide,by decide,by decide,by decide,by decide⟩
  ·exact⟨8,2,7,8,rfl,by decide,by decide,by decide,by decide,by decide,by decide,by decide,by decide⟩
  exact⟨16,3,4,16,rfl,by decide,by decide,by decide,by decide,by decide,by decide,by decide,by decide⟩
 obtain⟨pts,j,most,F,rfl,hj,am,ae,hp,hF,m7,mF,m1⟩:=hd;have p2:=Xmd (ds:=Qd.map D.int) (c:=4) p1;have s2:exe Ql G L2 QY2 S1=.ok (.nx Qh0) (Qw7.set p QQ7):=Xs ed;generalize Qw7.set p QQ7=S2 at s2 p2;have em:=Yeg (F:=FT T G 13) (env:=Qh0) (pts:=pts) (S:=S2) rfl hj am ae;have ac:Xc (S2++Qv1++Qu1) p=yz Qq4:=Xk (Xk p2);generalize S2++Qv1++Qu1=aj at em ac;obtain⟨l,L,h3,l1,l2,lb,x3,v3,p3⟩:=X0s (F:=FT T G 12) (G:=G) (S:=aj) (it:=20) (inx:=25) (bds hp hF m7 mF) Qk6 (next 9) m1 ac;rw[<-ftx t32]at h3;have s3:exe Ql G L3 Qh0 S2=.ok (.nx Qo) L:=Xs (by rw[ev];simp only[evs,ev,gZ0,gS0,Rk0];rw[em];simp only[Rk0];exact h3);have ab:∀x∈l,0<=x/\x+1<=(mx:Int):=λx hx=>by obtain⟨j,hj,rfl⟩:=Vde.mp hx;have:=lb j hj;rw[Uj,Ug hj]at this;have b:=CF F j hF;have b2:=X16;have t:0<=l[j]/\l[j]<=(C F j:Int):=this;omega
 have af:Xc (L++[O.lst Q30]) p=yz [.int v3]:=Xk p3;obtain⟨q4,ts,S4,h4,g4,n4,k4,x4,ao⟩:=Xxa (F:=FT T G 12) (G:=G) (it:=20) (S:=L++QB8) Qk6 l1 Q0 ab af;rw[<-ftx t31]at h4;have al:Qg5≠p:=by have:=Xab p3;omega
 have q3:Xc S4 Qg5=yz Q30:=x4.lst al Xf;have nl:Xd1 l:=λx hx=>Xjq (by have:=ab x hx;omega);have ad:=Xeg q3 g4 (by rw[n4];show 1+15<=1000;decide);have aa:ev Ql G thE Qo L=.ok QU5 Q92:=by
  have ak:ev Ql G Q28 Qo L=.ok (.ref L.length) (L++QB8):=by simp only[ev,evs,gZ0,gS0,Rk0];exact iP0 (by show 1<=big;decide)
  unfold thE;rw[ev,ak,Rk0];simp only[ev,evs,gZ0,gS0,Rk0,h4,ad]
 have kt:∀d∈Q30++ts,Kp p Q92 d:=λd hd=>by
  rcases V9.mp hd with hd|hd;·rw[V6.mp hd];exact Yz nl Q0
  ·exact(k4 d hd).mono .app
 have q5:Xc Q92 Q07=yz (Q30++ts):=Xf;generalize Q30++ts=xs at aa kt q5;generalize Q07=r5 at aa q5;generalize S4++[O.lst xs]=S5 at aa kt q5;obtain⟨e6,S6,r6,b6,b7,b8,b9,rfl,u⟩:=Xg5 (F:=FT T G 13) (G:=G) (t:=.var 6) (e0:=thE) (b:=Xna) (xs:=xs) (r:=r5) (env:=Qo) (S:=L) (S1:=S5)
  (λj e S'=>∃b6 b7 b8 b9,e=[sc,a1,yz Q5,yz Qv,yz QC,yz Q9,b6,b7,b8,b9]/\UpS S5 S') aa q5 (λj e S' ⟨_,_,_,_,_,u⟩=>u.lst q5) ⟨a6,a7,a8,a9,rfl,.refl⟩
  (λj d e S' hd hP=>by obtain⟨b6,b7,b8,b9,rfl,u⟩:=hP;obtain⟨c7,c8,c9,S7,hb,u7⟩:=X1b (a0:=sc) (a1:=a1) (a2:=yz Q5) (a3:=yz Qv) (a4:=yz QC) (a5:=yz Q9) (a7:=b7) (a8:=b8) (a9:=b9) ((kt d Q29).mono u.ext);exact⟨_,_,S7,rfl,hb,yz d,c7,c8,c9,rfl,u.trans u7⟩)
 refine⟨_,S6,?_,.mk a1 Qn8 (yz Qv) (yz QC) Qm8 b6 b7 b8 b9⟩;unfold Xnb;exact Q73.trans (QH4.trans (QG4.trans ((Xb r6).trans Qo1)))
theorem law_true(ns:LI)(h:Qp8<=63):∃S',FT T G 14 35 QC8 []=.ok Qo0 S':=by
 show ∃S',den Ql G Ybn QC8 []=_;generalize L:yz QD7=sc;have s1:exe Ql G Qo4 QF3 []=.ok (.nx Q20) QO4:=Xs (by rw[ev,Yb7,Rk0];exact iP0 QZ4);have ad:=Xeg (S:=Qp2++Qf0) (a:=0) (b:=1) (x:=rows7.map Xa) (y:=rows2.map Xa) rfl rfl Q6;have s2:ev Ql G Qz3 Q20 QO4=.ok (.ref 2) (Qp2++Qf0++[.lst QQ1]):=by
  have h4:ev Ql G Q74 Q20 QO4=.ok (.ref 1) (Qp2++Qf0):=by rw[ev,Yb8,Rk0];exact iP0 Qa4
  rw[ev];simp only[ev,gZ0,gS0,Rk0]at h4 ⊢;rw[h4];simp only[Rk0,ad];rfl
 have q2:Xc (Qp2++Qf0++Qf7) 2=yz (Qu3.map Xa):=by rw[Vav];rfl
 generalize Qp2++Qf0++Qf7=S2 at s2 q2;obtain⟨e3,S3,s3,b2,rfl,u3⟩:=Xg5 (F:=FT T G 13) (G:=G) (t:=.var 2) (e0:=.bin .add QE Q74) (b:=Xty) (xs:=Qu3.map Xa) (r:=2) (env:=Q20) (S:=QO4) (S1:=S2)
  (λj e S'=>∃b2,e=QK2/\UpS S2 S') s2 q2 (λj e S' ⟨_,_,u⟩=>u.lst q2) ⟨yy,rfl,.refl⟩
  (λj d e S' hd hP=>by obtain⟨b2,rfl,u⟩:=hP;obtain⟨S7,hb,u7⟩:=X1c (a0:=sc) (a1:=yz (.ref 0)) (a3:=yy) (a4:=yy) (a5:=yy) (a6:=yy) (a7:=yy) (a8:=yy) (a9:=yy) (X1d (p:=0) (S:=S') d Q29);exact⟨_,_,S7,rfl,hb,yz d,rfl,u.trans u7⟩)
 obtain⟨m,hm,m0,m1⟩:=Z.turns (F:=FT T G 13) (G:=G) (env:=QK2) (S:=S3) (ns:=ns) 4 Q6 Q6 Qy5;obtain⟨xs,hx,hl⟩:=Xa9 (m:=m) m0 Q0;obtain⟨e',S',f2,_⟩:=Xbq (F:=FT T G 13) (G:=G) (t:=.var 3) (b:=Xnb) (xs:=xs)
  (λi e S'=>E10 sc e) hm hx ⟨_,_,yy,yy,yy,yy,yy,yy,yy⟩ (λi d e S' hd hP=>by obtain⟨b1,b2,b3,b4,b5,b6,b7,b8,b9⟩:=hP;obtain⟨rfl,hi⟩:=Xb3 hx hd;obtain⟨e2,S2,t1,t2⟩:=turn ns i b1 b2 b4 b5 b6 b7 b8 b9 S';rw[L]at t1 t2;exact⟨_,e2,S2,rfl,t1,t2⟩)
 refine⟨S',?_⟩;refine Ye (env:=QF3) rfl Qy5 ?_;exact Q73.trans (QG4.trans ((Xb f2).trans (Xg (by simp only[exe,ev,Rk0]))))
universe K43
universe e
section
namespace K43
open PySem PySem.Spec PyProof.Rows L2 Z
set_option maxHeartbeats 0 in
theorem all_mk {P:Ue} {w:Uy} {K:Ve} {h:Heap} {mg:Str->OV} {fa:Addr} {t0 t1 t2 t3 t4 t5:Tok} (X:K.In h) (L:h.Ns Um mg) (ba:mg "law"=yz (.ref fa))
  (er:Xy3 K=yx) (bl:Yac K=yx) (lm:Xd0 K "_law_first_ones"=yx) (g0:Vac K Um "GREATEST_NUMBER"=yz (yz (.int 1000000000000 t0))) (g1:Vac K Um "MOST_CHOSEN"=yz (yz (.int 12 t1))) (g2:Vac K Um "GREATEST_WIDTH"=yz (yz (.int 11 t2))) (g3:Vac K Um "GREATEST_POINT"=yz (yz (.int 15 t3))) (g4:Vac K Um "GREATEST_SIZE"=yz (yz (.int 6 t4))) (g5:Vac K Um "MOST_SIDES"=yz (yz (.int 60 t5)))
  (f0:FunAt K "is_whole" (top 19)) (f1:FunAt K "is_whole_within" (top 20)) (f2:FunAt K "is_whole_tuple" (top 21)) (f3:FunAt K "writing" (top 25)) (f4:FunAt K "most_above" (top 26)) (f5:FunAt K "least_below" (top 27)) (f6:FunAt K "check_written" (top 28)) (f7:FunAt K "ways" (top 29)) (f8:FunAt K "most_things" (top 30)) (f9:FunAt K "written_parts" (top 31)) (aq:FunAt K "is_row" (top 34)) (bc:FunAt K "check_row" (top 35)) (a6:FunAt K "not_of_net" (top 37)) (af:FunAt K "first_beyond" (top 38)) (aw:FunAt K "first_net" (top 43)) (az:FunAt K "check_bounds" (top 44)) (ap:FunAt K "covered_faces" (top 45)) (an:FunAt K "face_at" (top 46)) (ax:FunAt K "_law_cell_at" (top 48)) (bb:FunAt K "_law_pot" (top 49)) (ao:FunAt K "_law_take" (top 50)) (av:FunAt K "_law_whole" (top 51)) (ai:FunAt K "_law_word" (top 52)) (ar:FunAt K "_law_ways" (top 53)) (a9:FunAt K "_law_writing" (top 54)) (ab:FunAt K "_law_next_by" (top 55)) (a7:FunAt K "_law_choices" (top 56)) (ae:FunAt K "_law_first_ones" (top 57)) (al:FunAt K "_law_less_one" (top 58)) (au:FunAt K "_law_first_not" (top 59)) (am:FunAt K "_law_is_row" (top 60)) (ay:FunAt K "_law_spoilt_rows" (top 61)) (aj:FunAt K "_law_drawn_row" (top 62)) (ac:FunAt K "_law_first_net" (top 63)) (ah:FunAt K "_law_said" (top 64)) (aa:FunAt K "law" (top 65)):
  ∃fd:Vd5,(∀(s:Vc) (u:Vb),BindsTo s fd ⟨[u],[]⟩ [("_law_script",u)])/\∀base:Heap,K.In base->((∃m∈mks,Xd0 K m=yx)->BM mg base)->FnOk P w K mg base (CXd P w) 14 fa fd ["_law_script"] (spD K 1 (FT T G 14 35)):=by
 have a8:=X3y er;have ak:=X4r X L bl;have hg:∀(k:Nat) nm,gns[k]?=yz nm->∃u d,mg nm=yz u/\G[k]?=yz d/\∀ ρ H,∃v,RelV v u/\RD K ρ H d v:=λk nm e=>by
  match k,e with
  |0,e=>cases e;exact Xc2 X L g0|1,e=>cases e;exact Xc2 X L g1|2,e=>cases e;exact Xc2 X L g2|3,e=>cases e;exact Xc2 X L g3|4,e=>cases e;exact Xc2 X L g4|5,e=>cases e;exact Xc2 X L g5|6,e=>cases e;exact Yad X L f4|k+7,e=>cases e
 have hD:AllD K mg fns gns fns T:=AllD.c (dk X L f0 Xt2 Xbg) <| AllD.c (dk X L f1 Xhm Xo3) <| AllD.c (dk X L f2 Xir Xbg) <| AllD.c (dk X L f3 Xxm Xbl) <| AllD.c (dk X L f4 Xpv Xbl) <| AllD.c (dk X L f5 Xmr Xbl) <| AllD.c (dk X L f6 Xjz Xbl) <| AllD.c (dk X L f7 Ybp Xbl) <| AllD.c (dk X L f8 Xms Xbl) <| AllD.c (dk X L f9 Xj0 Xbl) <| AllD.c (dk X L aq X0z Xbg) <| AllD.c (dk X L bc Xqc Xbg) <| AllD.c (dk X L a6 Xpw Xbg) <| AllD.c (dk X L af Xlk Xbl) <| AllD.c (dk X L aw Xqd Xbg) <| AllD.c (dk X L az Xll Xo3) <| AllD.c (dk X L ap Xj1 Xbg) <| AllD.c (dk X L an Xxn Xbl) <| AllD.c (dk X L ax Xlm Xbl) <| AllD.c (dk X L bb Xt3 Xbg) <| AllD.c (dk X L ao Xqe Xbl) <| AllD.c (dk X L av Xpx Xbg) <| AllD.c (dk X L ai Xqf Xbg) <| AllD.c (dk X L ar Xqg Xbl) <| AllD.c (dk X L a9 Xln Xbl) <| AllD.c (dk X L ab Xlo Xo3) <| AllD.c (dk X L a7 Xlp Xo3) <| AllD.c (dk X L ae Xhn Xo3 (Ydn lm Qb0)) <| AllD.c (dk X L al Xj2 Xbg) <| AllD.c (dk X L au Xis Xbl) <| AllD.c (dk X L am Xmt Xbg) <| AllD.c (dk X L ay Xf8 Xbl) <| AllD.c (dk X L aj Xit Ye9) <| AllD.c (dk X L ac Xiu Xbg) <| AllD.c (dk X L ah Xqh Xbg) <| AllD.c (dk X L aa Xt4 Xbg) <| True.intro
 exact law_fn (k:=13) (d:=Xt1) (st:=top 65) (N:=X2b) X L ba a8 ak hg hD.get rfl aa (ms Xt4) (mm Xt4) rfl rfl Xbg
noncomputable def kept:LM:=[top 1,top 2,top 3,top 4,top 5,top 6,top 7,top 8,top 9,top 10,top 11,top 12,top 13,top 14,top 15,top 16,top 17,top 19,top 20,top 21,top 23,top 24,top 25,top 26,top 27,top 28,top 29,top 30,top 31,top 33,top 34,top 35,top 37,top 38,top 39,top 40,top 41,top 43,top 44,top 45,top 46,top 48,top 49,top 50,top 51,top 52,top 53,top 54,top 55,top 56,top 57,top 58,top 59,top 60,top 61,top 62,top 63,top 64,top 65]
noncomputable def Q:Ue:={ PySem.Challenge.pw_facecounts_k43_first_nets with main:={ PySem.Challenge.pw_facecounts_k43_first_nets.main with body:=kept} }
universe K43
end
end
open PySem PySem.W PyProof.Rows
noncomputable def PySem.W.Fast.tw12819027965771389235:PySem.Program:=PySem.Challenge.pw_facecounts_k43_first_nets
theorem PySem.W.Fast.te12819027965771389235:PySem.Challenge.pw_facecounts_k43_first_nets=PySem.W.Fast.tw12819027965771389235:=rfl
lay_quick Z.topT PySem.W.topStub
set_option maxRecDepth 100000 in
set_option maxHeartbeats 0 in
theorem K43.st_ok:Z.RunT PySem.Challenge.pw_facecounts_k43_first_nets (λw s=>staticsOk (Vfb PySem.Challenge.pw_facecounts_k43_first_nets.main.body) (boot_heap w.params) s.abs.heap&&namesBound PySem.Challenge.pw_facecounts_k43_first_nets s.abs.heap&&gensDone s.abs&&laidKept (boot_heap w.params) s.abs.heap) λ_=>true:=by intro w os;rw[PySem.W.Fast.te15842407815417585275,PySem.W.Fast.te2530740449226627131,Vg6];kernel_rfl
set_option maxRecDepth 100000 in
set_option maxHeartbeats 0 in
theorem K43.seen_ok:Z.RunT PySem.Challenge.pw_facecounts_k43_first_nets (λ_ s=>openSeen K43.Q [] (Vfb PySem.Challenge.pw_facecounts_k43_first_nets.main.body) (λs=>PySem.W.xlAt K43.Q [] s&&PySem.W.recOk [] s) yx s.abs) λ_=>openGood K43.Q []:=by intro w os;unfold K43.Q K43.kept K43.top;rw[PySem.W.Fast.te4187177175401517315,PySem.W.Fast.te15842407815417585275,PySem.W.Fast.te2530740449226627131,Vg6];kernel_rfl
local macro_rules | `(tactic| o_head $H)=>`(tactic|
 refine PySem.W.holds_open (q:=K43.Q) (loose:=[]) (Xt:=λs=>PySem.W.xlAt K43.Q [] s&&PySem.W.recOk [] s)
  (XP:=PySem.W.XL K43.Q []) (Yf:=PySem.W.Hook.obs $H) (Ya:=PySem.W.Hook.val $H)
  (YP:=PySem.W.Hook.says $H) (N:=40000) ?hl (PySem.W.Hook.of $H) (PySem.W.Hook.keeps $H)
  (λs e=>PySem.W.xl_of s (Bool.and_eq_true_iff.mp e).1) PySem.W.XL.keeps
  (by rfl) (by rfl) (by rfl)
  (λs e=>PySem.W.recFacts_of (Bool.and_eq_true_iff.mp e).2)
  (by rfl) (by first|assumption|decide+kernel) (by decide+kernel)
  ⟨rfl,rfl,rfl,rfl,rfl,by decide+kernel⟩ ?hw ?hc)
set_option maxRecDepth 100000 in
set_option maxHeartbeats 0 in
theorem PySem.Challenge.cw_facecounts_k43_first_nets_holds : PySem.Challenge.rw_facecounts_k43_first_nets.Holds := by
 w_on;o_law;x_head
 (case hl =>
  refine Z.left_tree3 (p:=PySem.Challenge.pw_facecounts_k43_first_nets) (by kernel_rfl) (λs=>by kernel_rfl) K43.st_ok K43.seen_ok ?_
  intro w os;dsimp only[PySem.W.kHook];rw[PySem.W.Fast.te15842407815417585275,PySem.W.Fast.te2530740449226627131,PySem.W.Fast.te14364793385576792824]
  kernel_rfl)
 (case hw=>w_witness2)
 k_fill
 refine Z.walk_zT [394] (l:=PySem.Challenge.rw_facecounts_k43_first_nets) (T:=K43.T) (G:=K43.G) (k:=14) (f:=35) (x:="_law_script") rfl rfl ⟨rfl,rfl,by decide,by decide⟩ (λw h Y=>PySem.W.kIn_of Y) (λw=>by kernel_rfl) (λw=>by kernel_rfl) ?F K43.law_true
 case F =>
  as_aux_lemma =>
   intro w mg fa h hb KX G hmg;refine' K43.all_mk KX G hmg ?er ?bl ?lm ?g0 ?g1 ?g2 ?g3 ?g4 ?g5 ?f0 ?f1 ?f2 ?f3 ?f4 ?f5 ?f6 ?f7 ?f8 ?f9 ?f10 ?f11 ?f12 ?f13 ?f14 ?f15 ?f16 ?f17 ?f18 ?f19 ?f20 ?f21 ?f22 ?f23 ?f24 ?f25 ?f26 ?f27 ?f28 ?f29 ?f30 ?f31 ?f32 ?f33 ?f34 ?f35
   (case g0=>refine Z.ns_dr hb ?_;k_is)
   (case g1=>refine Z.ns_dr hb ?_;k_is)
   (case g2=>refine Z.ns_dr hb ?_;k_is)
   (case g3=>refine Z.ns_dr hb ?_;k_is)
   (case g4=>refine Z.ns_dr hb ?_;k_is)
   (case g5=>refine Z.ns_dr hb ?_;k_is)
   (case er=>kernel_rfl)
   (case bl=>kernel_rfl)
   (case lm=>kernel_rfl)
   all_goals (refine Z.fun_dr hb ?_;refine' Z.funAt_mk ?a ?l ?c ?k;(case a=>k_is);(case l=>k_is);(case c=>k_is);(case k=>k_is))
end
