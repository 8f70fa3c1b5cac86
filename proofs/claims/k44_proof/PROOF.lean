import PyProof.Rows.All
import Wide.All
import OpenK.AllK
import Wide.FinOn
import Lean
import PyProof.EqAt
import PyProof.EqKinds
import PyProof.TupleCall
import PySem.Challenge.RW_facecounts_k44_first_crowds
set_option Elab.async false
set_option linter.all false
set_option maxRecDepth 100000
set_option exponentiation.threshold 3000
set_option genSizeOf false
set_option bootstrap.genMatcherCode false
set_option compiler.extract_closed false
set_option genSizeOfSpec false
universe u
open List renaming length→ll
open Option renaming some→yz,none→yy
open Bool renaming true→yx,false→yw
open PySem renaming wpAny_bind→Va,Value→Vb,Shared→Vc,wpAny_pure→Vh,wpAny→Vi,model→Vj,wpAny_mono→Vp,sizeLine→V0,Program→Ua,mainGlobals→Uc,starEach→Uk,World→Uq,Scope→Ur,Around→Uy,wpAny_isNot_plain→Vae,wpAny_field→Vaj,wpAny_holding→Vas,wpAny_call_entry→Vat,Env→Va2,compareOp→Va3,assignEach→Va4,wpAny_newObj_type→Va5,cellsFrom→Va8,wpAny_callSpecial?_slot→Vba,wpAny_rule→Vbf,Comprehension→Vbj,wpAny_truthy_bool→Vbl,foldedSetIterable→Vbm,wpAny_Call_Name_kw→Vbv,Builtin→Vb1,backTo→Vb2,wpAny_loadPart'→Vb5,mem_of_lookup→Vb8,cLine→Vcb,rawInt→Vce,wpAny_setField_rec→Vcj,PyData→Vcs,binaryOp→Vc9,sizeLine_eq→Vdd,sliceBounds→Vde,wpAny_typeOf→Vdg,codeAny→Vdh,FuncData→Vdl,wpAny_standAt→Vdr,swapsWithSole→Vdt,swappedStores→Vdu,sysModules→Vdw,bootBuiltins→Vd0,letOwnedTupleGo→Vea,call_meets→Vec,Arguments→Ved,importedModules→Vel,NameKind→Ven,IsPart→Veu,builtinLookup_eq_fast→Vez,bindArgs→Ve7,wpAny_attempt→Vfc,codeAny_builtin→Vfl,codeAny_mono→Vfs,wpAny_tupleItemsOf→Vfu,swapsWith→Vfy,builtinsNs→Vf1,behindInMarks→Vgh,wpAny_newList→Vgj,wpAny_eqBool_int→Vgl,typeLookup_type→Vgw,wpAny_execs_nil→Vgx,wpAny_updateSeq→Vg0,wpAny_Assign_stores→Vg7,recursionLimit→Vg9,wpAny_richCompare_same_room→Vhh,wpAny_pyIter_tuple→Vhj,wpAny_newFunctionEnv_cells→Vho,wpAny_assign_Name→Vhq,wpAny_sequenceKey→Vhr,wpAny_pyIter_list→Vhv,wpAny_binaryOp_repeat_ref→Vhz,wpAny_comprehension_free→Vh4,wpAny_getItem_list_slice→Vh7
open List renaming getElem?_eq_some_iff→Vd,replicate→Vg,length_map→Vl,range→Vm,size_toArray→Vn,append_assoc→Vt,getElem?_append_left→Vu,append_nil→Vv,mem_cons→V2,length_append→V3,getElem?_map→V6,getD_eq_getElem?_getD→V9,length→Ud,mem_singleton→Ue,mem_append→Uf,getElem?_eq_getElem→Uh,map→Uj,length_range→Uo,getElem?_append_right→Us,mem_append_right→Ut,mem_cons_of_mem→Uv,take_append_drop→Ux,nil_append→Uz,getElem?_eq_none_iff→U2,mem_cons_self→U3,length_cons→U4,mem_map→U5,map_cons→U6,mem_of_getElem?→U8,pairwise_append→U9,length_take→Vaa,all_eq_true→Vab,lookup_cons→Vad,getElem?_range→Vag,not_mem_nil→Vai,filterMap_cons→Vak,map_map→Vam,getElem?_set_ne→Vao,take_of_length_le→Vap,mem_of_mem_take→Vaq,replicate_succ→Var,flatten_cons→Vau,set→Vaz,reverse→Va6,mem_append_left→Vbd,mem_of_mem_drop→Vbe,cons_append→Vbg,isEmpty_iff→Vbh,mem_range→Vbk,reverse_append→Vbo,extract_eq_drop_take→Vbp,all_cons→Vby,getElem?_set_self→Vb9,mem_reverse→Vcc,drop_drop→Vch,map_nil→Vcp,mem_iff_getElem→Vct,map_append→Vcw,pairwise_map→Vcy,getElem?_replicate→Vc3,pairwise_singleton→Vc5,flatMap_append→Vc7,getElem?_eq_none→Vdk,length_drop→Vd2,take_succ_eq_append_getElem→Vd3,getElem_mem→Vd4,take_length→Vd5,map_congr_left→Vd8,mem_filterMap→Veb,pairwise_cons→Vej,drop_of_length_le→Vep,mem_iff_getElem?→Vew,set_append_right→Vey,set_getElem_self→Ve4,nodup_cons→Vfi,length_nil→Vfm,getElem?_drop→Vft,zip_cons_cons→Vfv,getD→Vf0,take_succ→Vf6,take_zero→Vf7,findIdx?_eq_some_iff_getElem→Vge,range_succ_eq_map→Vgf,length_replicate→Vgn,length_singleton→Vgo,pairwise_reverse→Vgp,getElem?_toArray→Vgq,foldl→Vgr,foldl_cons→Vgs,forIn_cons→Vgy,range_succ→Vg1,getElem?_range'→Vg3,mem_of_getLast?→Vg4,eq_nil_of_length_eq_zero→Vg5,take_take→Vha,drop_take→Vhb,filterMap_map→Vhf,getElem_range→Vhk,reverse_perm→Vht,nodup_append→Vhu,drop_eq_getElem_cons→Vh0,pairwise_iff_getElem→Vh1
open PySem.W renaming Frag→Ve,nsIn→U1,hideAll_none→Vbc,fnOf→Vbt,hideAll→Vb4,mg_of→Vc0,keepIn→Vda,hideAll_get→Vd7,cellsFrom_some→Veo,findIn→Ve3,of_hideAll→Vfq,callWith_K→Vfx,codeIn→Vf3,kitOne→Vf8,methodObj→Vhp
open Nat renaming le_refl→Vf,le_trans→V4,lt_of_lt_of_le→V8,zero_le→Um,ne_of_lt→Up,sub_self→U0,zero_add→Va1,add_sub_cancel_left→Vbb,lt_succ_self→Vbu,lt_of_le_of_lt→Vbx,min_eq_left→Vcn,lt_succ_of_lt→Vcx,lt_irrefl→Vcz,exists_eq_add_of_le→Vc4,le_of_lt→Vd1,add_sub_cancel→Vee,lt_of_succ_lt→Ves,ne_of_gt→Vet,mul_comm→Vev,add_zero→Vex,add_assoc→Vfb,mul_assoc→Vfe,le_succ→Vff,lt_of_add_lt_add_left→Vfk,le_add_right→Vgm,succ_mul→Vgt,pow_le_pow_right→Vg2,pow_le_pow_left→Vg8
open PyProof.Rows renaming Keyed→Vk,arrOf→Vr,wpS_bind→Vs,wpS_pure→Vx,SortSt→V1,seqObj→Ub,pendingOf→Ug,kindOf→Vah,wpS_forRange→Vaw,slot_tuple_getitem→Vay,IntsAre→Va0,callWith_type1→Va9,failedOf→Vb3,IsTup→Vcl,wpS_mono→Vcq,callWith_builtin1→Vcu,SortKind→Vdb,elem'→Vdf,listUpdate_at→Vds,listItems_at→Vd6,get?_update_seq→Vei,subscriptTail→Vfa,spliced_more→Vfn,spliced_none→Vfo,wpS_modify→Vf4,reverseSlice'→Vgg,entry_tuple_getitem→Vg6,assignInOrder_cons→Vhe,args_tuple_getitem→Vhg
open PySem.Heap renaming get?_push_of_some→Vo,get?_push_size→Vw,lt_size→Vy,SameBut→Vbi,get?_update_other→Vca,get?_update_self→Vcf,get?_update_ne→Vc6,size_push→Ve1
open Option.some renaming injEq→Vq,inj→Uw
open PySem.Obj renaming mapSeq→Vz
open Option renaming bind_some→V5,map_some→V7,map_eq_some_iff→Ul,bind_eq_some_iff→Vaf,isSome_some→Vck,isSome_iff_exists→Vcm,getD_some→Vdc,isNone_iff_eq_none→Vh3
open Bool renaming false_eq_true→Ui,false_ne_true→Uu,not_eq_true'→Vbn,or_eq_true→Vb6,not_true→Vc1,and_self→Vc2,false_and→Vc8,true_and→Vdv,or_eq_false_iff→Vdz,false_or→Vfd,and_false→Vf2,not_false→Vf5
open Array renaming length_toList→U7,toList_append→Vac,getElem?_toList→Vcg,toList_extract→Vcr,perm_iff_toList_perm→Vdn,getElem?_eq_some_iff→Vdp,toList_reverse→Vdy,toList_push→Veq,getD_eq_getD_getElem?→Ve5,getElem_toList→Ve8,toList_setIfInBounds→Vhm
open PySem.Str renaming ofString→Val,length_append→Vhw
open Int renaming toNat_natCast→Van,natCast_mul→Veg,emod_lt_of_pos→Vem,emod_nonneg→Vfp
open PySem.PyData renaming showable→Vav,depth→Va7,int→Vbr,showableAll→Vbw,depthAll→Vb7,shownAll→Vcv,eqv→Vef,shown→Ve2,canLay0→Vf9,eqvAll→Vgk,canLayAll0→Vhx
open PySem.Builtin.List renaming listExtendWith→Vax,listTooLong→Vco,listSameRef→Vh6
open PySem.Builtin.SmallTypes renaming nextOf→Vbq,ownedTupleIsFree→Vdj,ownedTupleHandOut→Vfz
open PySem.Builtin.Tuple renaming tupleExact→Vbs,tupleItemsOf→Ve9,tupleTooMany→Vhn
open PySem.Value renaming none→Vbz,type→Vb0,ref→Vcd,bool→Ve6
open PySem.Calls renaming spliced_cons→Vci,spliced_nil→Ver,evalArgs_plain→Vgz,Name_function_global→Vhl
open ForInStep renaming yield→Vdi
open PySem.Builtin.Slice renaming sliceApplied→Vdm,slicePlaces→Vdx,sliceAdjust→Vfj,sliceFields→Vhy
open Prod.mk renaming injEq→Vdo
open PySem.F renaming slot_tuple_iterator_next→Vdq,slot_enumerate_next→Ve0,plain_extend_loop→Vfh,args_tuple_add_2→Vfr,entry_tuple_add→Vgb,slot_list_index→Vgc,slot_tuple_add→Vgd,slot_tuple_lt→Vgv,args_tuple_iterator_next_1→Vhd,entry_tuple_iterator_next→Vhi,args_list_index_2→Vh2,entry_list_index→Vh5
open PySem.Builtin.Range renaming rangeSize→Vd9
open False renaming elim→Veh
open PySem.Heap.IsSliceOf renaming new→Vek
open PySem.Heap.SameBut renaming update→Vfg
open PySem.AutoSeq1 renaming sub_tuple_tuple→Vfw
open PySem.W.Fast renaming te14364793385576792824→Vga
open PySem.NameKind renaming free→Vgi
open PyProof.Rows.SortSt renaming mk'→Vgu
open List.Perm renaming refl→Vhc
open List.Pairwise renaming nil→Vhs
abbrev LV:=List PySem.Value
abbrev LS:=List PySem.Str
abbrev LX:=List PySem.Expr
abbrev LM:=List PySem.Stmt
abbrev LF:=List (PySem.Str×Nat×Bool)
abbrev LN:=List Nat
abbrev AV:=Array PySem.Value
abbrev OV:=Option PySem.Value
abbrev LL:=List (List Int)
abbrev LI:=List Int
abbrev LA:=List (PySem.Addr×PySem.Obj)
abbrev LR:=List PySem.Addr
abbrev VP:=PySem.Value->PySem.Shared->Prop
theorem oD0{p:Prop}[Decidable p](h:decide p=yx):p:=of_decide_eq_true h
theorem aB0{a b:Prop}(h:a)(k:¬a):b:=(k h).elim
theorem iP0{c:Prop}{i:Decidable c}(h:c){α:Sort u}{t e:α}:(ite c t e)=t:=if_pos h
theorem iN0{c:Prop}{i:Decidable c}(h:¬c){α:Sort u}{t e:α}:(ite c t e)=e:=if_neg h
theorem gZ0{α:Type u}{a:α}{l:List α}:(a::l)[0]?=yz a:=rfl
theorem gS0{α:Type u}{a:α}{i:Nat}{l:List α}:(a::l)[i+1]?=l[i]?:=rfl
theorem bA0(a b:Bool):((a&&b)=yx)=(a=yx∧b=yx):=Bool.and_eq_true a b
section
namespace L2
open PySem PySem.Spec PyProof.Rows
noncomputable abbrev Key:=Sum Int Str
noncomputable def Xyz:Key->Vb->Bool
 |.inl k,v=>Value.isInt k v|.inr x,v=>Value.isStrOf x v
noncomputable def Yam(w:Uq):Key->Int
 |.inl k=>hashInt k|.inr x=>hashStr w x
theorem Yp:∀ {k:Key} {v:Vb},Xyz k v=yx->(∃i t,k=Sum.inl i/\v=Value.int i t)\/(∃x t,k=Sum.inr x/\v=Value.str x t)
 |.inl i,v,h=>by obtain⟨t,e⟩:=Value.isInt_shape (k:=i) (v:=v) h;exact .inl ⟨i,t,rfl,e⟩|.inr x,v,h=>by obtain⟨t,e⟩:=Value.isStrOf_shape (x:=x) (v:=v) h;exact .inr ⟨x,t,rfl,e⟩
theorem X29(a b:Int):decide ((Sum.inl a:Key)=Sum.inl b)=(a==b):=by
 by_cases e:a=b;·subst e;simp
 ·have h:¬ (Sum.inl a:Key)=Sum.inl b:=λq=>e (Sum.inl.inj q);rw[decide_eq_false h];exact(beq_eq_false_iff_ne.mpr e).symm
theorem X3a(a b:Str):decide ((Sum.inr a:Key)=Sum.inr b)=decide (a=b):=by
 by_cases e:a=b;·subst e;simp
 ·have h:¬ (Sum.inr a:Key)=Sum.inr b:=λq=>e (Sum.inr.inj q);rw[decide_eq_false h,decide_eq_false e]
theorem X3b(a:Int)(b:Str):decide ((Sum.inl a:Key)=Sum.inr b)=false:=decide_eq_false (λq=>nomatch q)
theorem X3c(a:Str)(b:Int):decide ((Sum.inr a:Key)=Sum.inl b)=false:=decide_eq_false (λq=>nomatch q)
noncomputable def Xir(prog:Ua)(w:Uq):PySem.KeyKind prog w Key where
 is:=Xyz
 hash:=Yam w
 inj:=λv a b ha hb=>by
  rcases Yp ha with⟨i,t,rfl,rfl⟩|⟨x,t,rfl,rfl⟩
  ·rcases Yp hb with⟨j,u,rfl,e⟩|⟨y,u,rfl,e⟩;·injection e with J _;rw[J]
   ·exact nomatch e
  rcases Yp hb with⟨j,u,rfl,e⟩|⟨y,u,rfl,e⟩;·exact nomatch e
  ·injection e with J _;rw[J]
 byValue:=λk v h=>by rcases Yp h with⟨i,t,rfl,rfl⟩|⟨x,t,rfl,rfl⟩<;>rfl
 pyHash:=λL h=>by
  rcases Yp L with⟨i,t,rfl,rfl⟩|⟨x,t,rfl,rfl⟩;·exact wpAny_pyHash_int h
  ·exact wpAny_pyHash_str h
 eqBool:=λY L h=>by
  rcases Yp Y with⟨i,t,rfl,rfl⟩|⟨x,t,rfl,rfl⟩
  ·rcases Yp L with⟨j,u,rfl,rfl⟩|⟨y,u,rfl,rfl⟩;·rw[X29]at h;exact Vgl h
   ·rw[X3b]at h;exact SeqAt.EqAt.int_str i t y u _ _ _ _ h
  rcases Yp L with⟨j,u,rfl,rfl⟩|⟨y,u,rfl,rfl⟩;·rw[X3c]at h;exact SeqAt.EqAt.str_int x t j u _ _ _ _ h
  ·rw[X3a]at h;exact wpAny_eqBool_str h
 «strs»:=λk x t v h=>by
  rcases Yp h with⟨i,u,rfl,e⟩|⟨y,u,rfl,e⟩;·exact nomatch e
  ·injection e with J _;subst J;cases v<;>rfl
end L2
namespace L2
open PySem PySem.Spec PyProof.Rows
inductive V where
 |non|bl (b:Bool)|int (i:Int)|str (x:Str)|byt (b:Array UInt8)|flt (b:UInt64)|ref (a:Addr)|ty (n:String)
 deriving DecidableEq
abbrev LW:=List V
def RelV:V->Vb->Prop
 |.non,u=>u=Vbz|.bl b,u=>u=Ve6 b|.int i,u=>∃t,u=Value.int i t|.str x,u=>∃t,u=Value.str x t|.byt b,u=>∃t,u=Value.bytes b t|.flt b,u=>∃t,u=Value.float b t|.ref a,u=>u=Vcd a|.ty n,u=>u=Vb0 n
abbrev Vals:LW->LV->Prop:=Paired RelV
theorem Vals.length{xs:LW}{us:LV}(r:Vals xs us):(ll xs)=ll us:=Paired.length r
theorem Vals.get:∀ {xs:LW} {us:LV} {i:Nat} {x:V},Vals xs us->xs[i]?=yz x->∃u,us[i]?=yz u/\RelV x u
 |_,_,_,_,.nil,e=>by simp at e|_,_,0,_,.cons r _,e=>by simp at e;subst e;exact⟨_,rfl,r⟩|_,_,i+1,x,.cons _ t,e=>by obtain⟨u,h1,h2⟩:=Vals.get (i:=i) (x:=x) t (by simpa using e);exact⟨u,by simpa using h1,h2⟩
theorem Vals.set{x:V}{u:Vb}(r:RelV x u):∀ {xs:LW} {us:LV} (i:Nat),Vals xs us->Vals (xs.set i x) (us.set i u)
 |_,_,_,.nil=>.nil|_,_,0,.cons _ t=>.cons r t|_,_,i+1,.cons q t=>.cons q (Vals.set r i t)
theorem Vals.append:∀ {xs ys:LW} {us J:LV},Vals xs us->Vals ys J->Vals (xs++ys) (us++J)
 |_,_,_,_,.nil,s=>s|_,_,_,_,.cons r t,s=>.cons r (Vals.append t s)
theorem Vals.take:∀ {xs:LW} {us:LV} (n:Nat),Vals xs us->Vals (xs.take n) (us.take n)
 |_,_,0,_=>.nil|_,_,_+1,.nil=>.nil|_,_,n+1,.cons r t=>.cons r (Vals.take n t)
theorem Vals.drop:∀ {xs:LW} {us:LV} (n:Nat),Vals xs us->Vals (xs.drop n) (us.drop n)
 |_,_,0,r=>r|_,_,_+1,.nil=>.nil|_,_,n+1,.cons _ t=>Vals.drop n t
def X3d:Option V->OV->Prop
 |some v,yz u=>RelV v u|none,yy=>True|_,_=>False
def KV{κ:Type}:List (κ×V)->List (κ×Vb)->Prop:=Paired λ(p:κ×V) (q:κ×Vb)=>p.1=q.1/\RelV p.2 q.2
noncomputable def kV:Key->V
 |.inl i=>.int i|.inr x=>.str x
inductive HO where
 |lst (xs:LW)
 |tup (xs:LW)
 |dK (kvs:List (Key×V))|dT (kvs:List (List Key×V))
 |set (S:Int->Bool) (n:Nat)
 |ins (C dx:Addr) (fs:List (Str×V))
 |own (x:Addr)
 |xd (fs:List (Str×V))
 |met (f x:Addr)
 |rng (lo hi:Int)
 |frz (o:Obj) (u:HO)
 |tbl (q:Str)
 |ext (φ:Heap->Prop)
noncomputable abbrev Hp:=Addr->Option HO
noncomputable def upd(H:Hp)(a:Addr)(o:HO):Hp:=λb=>if b=a then yz o else H b
theorem Xp{H:Hp}{a:Addr}{o:HO}:upd H a o a=yz o:=by unfold upd;rw[iP0 rfl]
theorem Xe{H:Hp}{a b:Addr}{o:HO}(h:b≠a):upd H a o b=H b:=by unfold upd;rw[iN0 h]
theorem Xzs{H:Hp}{a:Addr}{o u:HO}:upd (upd H a o) a u=upd H a u:=by funext b;unfold upd;split<;>rfl
theorem Xj{H:Hp}{a b:Addr}{o:HO}(h:H a=yz o)(h':H b=yy):a≠b:=by intro e;subst e;rw[h]at h';cases h'
section
variable(P:Ua)(w:Uq)
def ObjOk(H:Hp)(h:Heap)(a:Addr):HO->Prop
 |.lst xs=>ll xs<=V0/\∃(its:LV) (n:Nat),Vals xs its/\h.get? a=yz {cls:=.type "list",data:=.seq its.toArray n}|.tup xs=>ll xs<=V0/\∃its:LV,Vals xs its/\Vcl h a its.toArray|.dK J=>J.length<=V0/\(a==Vdw)=yw/\∃vs,KV J vs/\h.DictOf (Xir P w) a vs|.dT J=>J.length<=V0/\(a==Vdw)=yw/\∃xs:List (List Key×Addr×Vb),
   Paired (λ(p:List Key×V) (q:List Key×Addr×Vb)=>p.1=q.1/\H q.2.1=yz (.tup (p.1.map kV))/\RelV p.2 q.2.2) J xs /\
   ∃o es ep,h.get? a=yz o/\o.ExactDict/\o.data=.dict es ep/\es.toList=xs.map (entryOfKey (tupleKind (Xir P w)))/\(xs.map (·.1)).Nodup|.set S n=>h.SetOf (intKind P w) a S n|.ins C dx fs=>H dx=yz (.own a)/\(ll fs)<=1000/\dx≠a/\h.get? a=yz (PySem.W.instObj C dx) /\
   ∃mA,h.Ns1 dx mA/\(∀f,X3d (fs.lookup f) (mA f))/\PySem.Within mA (fs.map (·.1))|.own _=>∃o,h.get? a=yz o|.xd fs=>∃mA,h.Ns1 a mA/\∀f,X3d (fs.lookup f) (mA f)|.rng lo hi=>∃t u v,h.get? a=yz {cls:=.type "range",data:=.fields #[.int lo t,.int hi u,.int 1 v]}|.frz o u=>h.get? a=yz o/\ObjOk H h a u|.tbl q=>∃ps,h.get? a=yz {cls:=.none,data:=.fields ps}/\TriplesOk ps.toList/\∀pos Y,codeAmong pos ps.toList=yz Y->∃c o u vs t,Y=.ref c/\H c=yz (.frz o u)/\o.data=.fields vs/\vs[1]?=yz (.str q t)|.met f x=>h.get? a=yz (Vhp (.ref f) (.ref x))|.ext L=>L h/\(∃o,h.get? a=yz o)/\∀h1 h2:Heap,L h1->(∀o,h1.get? a=yz o->h2.get? a=yz o)->L h2
def Fix:HO->Prop
 |.tup _=>True|.frz _ _=>True|_=>False
def HOk(H:Hp)(h:Heap):Prop:=∀a o,H a=yz o->ObjOk P w H h a o
end
section
variable{P:Ua}{w:Uq}{H H':Hp}{h h':Heap}{a:Addr}{o:HO}
theorem ObjOk.lt(x:ObjOk P w H h a o):a<h.objs.size:=by
 cases o with
 |lst xs=>obtain⟨_,_,_,_,e⟩:=x;exact Vy e|tup xs=>obtain⟨_,_,_,p⟩:=x;exact p.lt|dK J=>obtain⟨_,_,_,_,o,_,_,e,_⟩:=x;exact Vy e|dT J=>obtain⟨_,_,_,_,o,_,_,e,_⟩:=x;exact Vy e|set S n=>obtain⟨o,_,_,_,e,_⟩:=x;exact Vy e|ins C dx fs=>obtain⟨_,_,_,e,_⟩:=x;exact Vy e|own y=>obtain⟨_,e⟩:=x;exact Vy e|xd fs=>obtain⟨_,⟨_,_,_,e,_⟩,_⟩:=x;exact Vy e|rng lo hi=>obtain⟨_,_,_,e⟩:=x;exact Vy e|frz ob u=>obtain⟨e,_⟩:=x;exact Vy e|tbl q=>obtain⟨_,e,_⟩:=x;exact Vy e|met f y=>exact Vy (show h.get? a=yz _ from x)|ext L=>obtain⟨_,⟨_,e⟩,_⟩:=x;exact Vy e
theorem Paired.mapP{α β:Type}{F G:α->β->Prop}:∀ {L:List α} {J:List β},Paired F L J->(∀a b,F a b->G a b)->Paired G L J
 |_,_,.nil,_=>.nil|_,_,.cons r t,f=>.cons (f _ _ r) (Paired.mapP t f)
theorem ObjOk.stay(x:ObjOk P w H h a o)(k:∀b u,(b=a\/H b=yz (.own a))->h.get? b=yz u->h'.get? b=yz u)
  (ho:∀b,H b=yz (.own a)->H' b=yz (.own a)) (ht:∀b u,Fix u->H b=yz u->H' b=yz u):ObjOk P w H' h' a o:=by
 induction o with
 |lst xs=>obtain⟨z,its,n,r,e⟩:=x;exact⟨z,its,n,r,k _ _ (.inl rfl) e⟩|tup xs=>obtain⟨z,its,r,ob,e,c⟩:=x;exact⟨z,its,r,ob,k _ _ (.inl rfl) e,c⟩|dK L=>obtain⟨z,y,vs,r,ob,es,J,e,c⟩:=x;exact⟨z,y,vs,r,ob,es,J,k _ _ (.inl rfl) e,c⟩|dT L=>obtain⟨z,y,xs,r,ob,es,J,e,c⟩:=x;exact⟨z,y,xs,Paired.mapP r λp q z=>⟨z.1,ht _ _ trivial z.2.1,z.2.2⟩,ob,es,J,k _ _ (.inl rfl) e,c⟩|set S n=>obtain⟨ob,es,J,t,e,c⟩:=x;exact⟨ob,es,J,t,k _ _ (.inl rfl) e,c⟩|ins C dx fs=>obtain⟨d,z,ne,e,mA,⟨od,es,J,Y,c⟩,r⟩:=x;exact⟨ho _ d,z,ne,k _ _ (.inl rfl) e,mA,⟨od,es,J,k _ _ (.inr d) Y,c⟩,r⟩|own y=>obtain⟨ob,e⟩:=x;exact⟨ob,k _ _ (.inl rfl) e⟩|xd fs=>obtain⟨mA,⟨od,es,J,e,c⟩,r⟩:=x;exact⟨mA,⟨od,es,J,k _ _ (.inl rfl) e,c⟩,r⟩|rng lo hi=>obtain⟨t,u,v,e⟩:=x;exact⟨t,u,v,k _ _ (.inl rfl) e⟩|frz ob u ih=>obtain⟨e,q⟩:=x;exact⟨k _ _ (.inl rfl) e,ih q⟩|tbl q=>obtain⟨ps,e,t,n⟩:=x;exact⟨ps,k _ _ (.inl rfl) e,t,λpos cv z=>let ⟨c,o,u,vs,t,e1,Y,r⟩:=n pos cv z;⟨c,o,u,vs,t,e1,ht _ _ trivial Y,r⟩⟩|met f y=>have e:h.get? a=yz (Vhp (.ref f) (.ref y)):=x;show h'.get? a=yz (Vhp (.ref f) (.ref y));exact k a _ (.inl rfl) e|ext φ=>obtain⟨p,⟨o,e⟩,st⟩:=x;exact⟨st _ _ p λo q=>k _ _ (.inl rfl) q,⟨o,k _ _ (.inl rfl) e⟩,st⟩
theorem HOk.lt(x:HOk P w H h)(e:H a=yz o):a<h.objs.size:=(x a o e).lt
theorem HOk.fresh(x:HOk P w H h)(e:h.objs.size<=a):H a=none:=by
 cases q:H a with
 |none=>rfl|some u=>exact aB0 (V8 (x.lt q) e) (Vcz _)
theorem HOk.kept(x:HOk P w H h)(k:∀b u,h.get? b=yz u->h'.get? b=yz u):HOk P w H h':=λa o e=>(x a o e).stay (λb u _ q=>k b u q) (λ_ q=>q) λ_ _ _ q=>q
theorem HOk.laid(x:HOk P w H h)(k:∀b u,h.get? b=yz u->h'.get? b=yz u)(hp:h.objs.size<=a)(new:ObjOk P w (upd H a o) h' a o):HOk P w (upd H a o) h':=λb u e=>by
 have J:=x.fresh hp;by_cases hb:b=a;·subst hb;rw[Xp]at e;cases e;exact new
 ·rw[Xe hb]at e;exact(x b u e).stay (λc v _ q=>k c v q) (λc q=>by rw[Xe (Xj q J)];exact q) λc xs _ q=>by rw[Xe (Xj q J)];exact q
end
def Rd(H:Hp)(a:Addr)(u:HO):Prop:=H a=yz u\/∃o,H a=yz (.frz o u)
theorem Rd.ok{P:Ua}{w:Uq}{H:Hp}{h:Heap}{a:Addr}{u:HO}(r:Rd H a u)(x:HOk P w H h):ObjOk P w H h a u:=by
 rcases r with r|⟨o,r⟩;·exact x a u r
 ·obtain⟨_,q⟩:=x a _ r;exact q
def Mut:Option HO->Prop
 |some (.lst _)=>True|some (.dK _)=>True|some (.dT _)=>True|some (.set _ _)=>True|some (.ins _ _ _)=>True|some (.ext _)=>True|_=>False
section
variable{P:Ua}{w:Uq}{H:Hp}{h h':Heap}{x e:Addr}{o':HO}
theorem HOk.write(ok:HOk P w H h)(mu:Mut (H x))(he:e=x\/H e=yz (.own x))(k:∀b u,b≠e->h.get? b=yz u->h'.get? b=yz u)(aa:∃u,h'.get? e=yz u)
  (new:ObjOk P w (upd H x o') h' x o'):HOk P w (upd H x o') h':=λb u q=>by
 have L:∀c y,H c=yz (.own y)->c≠x:=λc y r z=>by subst z;rw[r]at mu;exact mu
 have Y:∀c u,Fix u->H c=yz u->c≠x:=λc u f r z=>by subst z;rw[r]at mu;cases u<;>first|exact mu|exact f
 by_cases hb:b=x;·subst hb;rw[Xp]at q;cases q;exact new
 ·rw[Xe hb]at q;by_cases J:b=e
  ·have q':H b=yz (.own x):=by
    rcases he with z|z;·exact aB0 (J.trans z) hb
    ·rw[J];exact z
   rw[q]at q';cases q';obtain⟨v,hv⟩:=aa;exact⟨v,by rw[J];exact hv⟩
  refine(ok b u q).stay (λc v hc r=>k c v ?_ r) (λc r=>by rw[Xe (L c b r)];exact r) λc xs f r=>by rw[Xe (Y c xs f r)];exact r
  rcases hc with rfl|hc;·exact J
  ·rintro rfl;rcases he with z|z;·exact L c b hc z
   ·rw[hc]at z;cases z;exact hb rfl
end
structure Un(fs ex:LR)(H H':Hp)(h h':Heap):Prop where
 keep:∀b o,h.get? b=yz o->H b=yy->b ∉ fs->b ∉ ex->h'.get? b=yz o
 slot:∀b o,h.get? b=yz o->H b=yy->b∈fs->b ∉ ex->∃sl,h'.get? b=yz {o with slots:=sl}
 free:∀b o,h.get? b=yz o->H b=yy->b ∉ ex->H' b=yy
 there:∀b o,h.get? b=yz o->b ∉ ex->∃o',h'.get? b=yz o'
 tups:∀b xs,H b=yz (.tup xs)->H' b=yz (.tup xs)
 frzs:∀b o u,H b=yz (.frz o u)->H' b=yz (.frz o u)
 tbls:∀b ps,H b=yz (.tbl ps)->H' b=yz (.tbl ps)
section
variable{fs ex:LR}{H H1:Hp}{h h1 h':Heap}{a x e:Addr}{o:HO}
theorem Un.any(u:Un fs ex H H1 h h1){b:Addr}{ob:Obj}(q:h.get? b=yz ob)(n:H b=yy)(J:b ∉ ex):∃sl,h1.get? b=yz {ob with slots:=sl}:=by
 by_cases hb:b∈fs;·exact u.slot b ob q n hb J
 ·exact⟨ob.slots,u.keep b ob q n hb J⟩
theorem Un.kept(k:∀b u,h.get? b=yz u->h'.get? b=yz u):Un fs ex H H h h':=
 ⟨λb ob q _ _ _=>k b ob q,λb ob q _ _ _=>⟨ob.slots,k b ob q⟩,λ_ _ _ n _=>n,λb ob q _=>⟨ob,k b ob q⟩,λ_ _ q=>q,λ_ _ _ q=>q,λ_ _ q=>q⟩
theorem Un.refl:Un fs ex H H h h:=Un.kept λ_ _ q=>q
theorem Un.laid(k:∀b u,h.get? b=yz u->h'.get? b=yz u)(hp:h.objs.size<=a)(J:H a=yy):Un fs ex H (upd H a o) h h' where
 keep:=λb u q _ _ _=>k b u q
 slot:=λb u q _ _ _=>⟨u.slots,k b u q⟩
 free:=λb u q n _=>by rw[Xe (Up (V8 (Vy q) hp))];exact n
 there:=λb u q _=>⟨u,k b u q⟩
 tups:=λb xs q=>by rw[Xe (Xj q J)];exact q
 frzs:=λb u xs q=>by rw[Xe (Xj q J)];exact q
 tbls:=λb ps q=>by rw[Xe (Xj q J)];exact q
theorem Un.write(L:Mut (H x))(he:e=x\/H e=yz (.own x))(k:∀b u,b≠e->h.get? b=yz u->h'.get? b=yz u)(Y:∃u,h'.get? e=yz u):Un fs ex H (upd H x o) h h':=by
 have hx:∀b,H b=yy->b≠x:=λb n z=>by subst z;rw[n]at L;exact L
 have hb:∀b,H b=yy->b≠e:=λb n z=>by
  subst z;rcases he with r|r;·exact hx b n r
  ·rw[n]at r;cases r
 have hm:∀b u,H b=yz u->¬ Mut (yz u)->b≠x:=λb u q nm z=>by subst z;rw[q]at L;exact nm L
 refine⟨λb u q n _ _=>k b u (hb b n) q,λb u q n _ _=>⟨u.slots,k b u (hb b n) q⟩,λb u q n _=>by rw[Xe (hx b n)];exact n,λb u q _=>?_,
  λb xs q=>by rw[Xe (hm b _ q λz=>z)];exact q,λb u xs q=>by rw[Xe (hm b _ q λz=>z)];exact q,λb ps q=>by rw[Xe (hm b _ q λz=>z)];exact q⟩
 by_cases J:b=e;·subst J;exact Y
 ·exact⟨u,k b u J q⟩
end
noncomputable def trk(h:Heap)(H:Hp):LR:=(Vm h.objs.size).filter λa=>(H a).isSome
noncomputable def Xdh(h:Heap)(H:Hp):Heap:=Vb4 h (trk h H)
theorem Xse(h:Heap)(H:Hp):(Xdh h H).objs.size=h.objs.size:=PySem.W.hideAll_size _ _
theorem Xg0{h:Heap}{H:Hp}{b:Addr}{o:Obj}(e:h.get? b=yz o)(n:H b=yy):(Xdh h H).get? b=yz o:=
 Vd7 _ e λJ=>by have q:(H b).isSome=true:=(List.mem_filter.mp J).2;rw[n]at q;simp at q
theorem Xzt{h:Heap}{H:Hp}{b:Addr}{o:Obj}(e:(Xdh h H).get? b=yz o):h.get? b=yz o/\H b=none:=by
 have J:h.get? b=yz o:=Vfq (trk h H) e;refine⟨J,?_⟩;cases q:H b with
 |none=>rfl|some x=>have L:b∈trk h H:=List.mem_filter.mpr ⟨Vbk.mpr (Vy J),by simp[q]⟩;have z:(Xdh h H).get? b=none:=Vbc (trk h H) L;rw[z]at e;cases e
end L2
namespace L2
open PySem PySem.Spec PyProof.Rows
structure Mod(K:Ve)(mg:Str->OV)(base:Heap):Prop where
 kin:K.In base
 glob:base.Ns Uc mg
 blt:∃mb,base.Ns Vf1 mb/\∀x:Str,x ≠ "__name__" -> mb x=Vd0 x
 nolimit:base.NoLimit
structure Cx where
 prog:Ua
 w:Uq
 K:Ve
 mg:Str->OV
 base:Heap
 A:Uy
 N:LS
 s₀:Vc
 H₀:Hp
 env:Env
 outer:List Env
 stack:List Env
 ex:LR
 fn:Str->Bool
 calm:Bool
 pn:LA
 xe:VP
noncomputable def frs(l:List Env):LR:=l.filterMap (·.frame)
noncomputable abbrev Cx.fs(X:Cx):LR:=frs X.outer
def Vis(sc:Ur)(x:Str):Prop:=sc.names.lookup x=yz .local\/sc.names.lookup x=yz .cell\/sc.names.lookup x=yz .free
def Loc(sc:Ur)(x:Str):Prop:=sc.names.lookup x=yz .local\/sc.names.lookup x=yz .cell
def Yan(env:Env)(h:Heap)(m:Str->OV)(x:Str)(u:Vb):Prop:=
 (env.kindOf x=yz .local/\m x=yz u)\/((env.kindOf x=yz .cell\/env.kindOf x=yz .free)/\∃c,env.cells.lookup x=yz c/\h.IsCell c (yz u))
structure Cx.Ok(X:Cx):Prop where
 mod:Mod X.K X.mg X.base
 kind:X.env.scope.kind=.function
 glob:X.env.globals=Uc
 blt:X.env.builtins=Vf1
 above:X.s₀.heap.objs.size<=X.env.locals
 inj:∀x y c,X.env.cells.lookup x=yz c->X.env.cells.lookup y=yz c->x=y
 has:∀x,(X.env.kindOf x=yz .cell\/X.env.kindOf x=yz .free)->∃c,X.env.cells.lookup x=yz c
 cab:∀x c,X.fn x=yx->X.env.cells.lookup x=yz c->X.s₀.heap.objs.size<=c
 hd:X.calm=yx->X.A.handled=yy
 frames:X.A.frames=yz X.stack
 stk:X.stack=X.outer\/(X.stack=X.env::X.outer/\X.env.frame=yz X.env.locals)
 exf:∀b∈X.ex,b≠X.env.locals/\∀x c,X.env.cells.lookup x=yz c->c≠b
 bs:∀b o,X.base.get? b=yz o->X.s₀.heap.get? b=yz o/\X.H₀ b=yy
 bsz:X.base.objs.size<=X.s₀.heap.objs.size
 noex:∀b o,X.base.get? b=yz o->b ∉ X.ex
 exfs:∀b∈X.ex,b ∉ X.fs
 funs:X.s₀.heap.FunFrames X.base X.outer
 frf:∀b∈X.fs,X.H₀ b=yy
structure Inv(X:Cx)(pc:LA)(σ:List (Option V))(H:Hp)(s:Vc):Prop where
 ok:X.Ok
 os:s.os=X.s₀.os
 bare:AllBare s.gens
 base:Un X.fs X.ex X.H₀ H X.s₀.heap s.heap
 loc:∃m,s.heap.Ns X.env.locals m/\∀(i:Nat) (x:Str) (v:V),X.N[i]?=yz x->σ[i]?=yz (yz v)->Vis X.env.scope x->∃u,RelV v u/\Yan X.env s.heap m x u
 cell:∀x c,X.env.cells.lookup x=yz c->∃v,s.heap.IsCell c v
 free:H X.env.locals=yy
 freeC:∀x c,X.env.cells.lookup x=yz c->H c=yy
 pin:∀p∈X.pn++pc,s.heap.get? p.1=yz p.2/\H p.1=yy/\p.1≠X.env.locals/\p.1 ∉ X.fs/\∀v,p.2.data≠.cell v
 hok:HOk X.prog X.w H s.heap
 len:σ.length=X.N.length
section
variable{X:Cx}{pc:LA}{σ:List (Option V)}{H H':Hp}{s:Vc}{h':Heap}
theorem Cx.Ok.nofr(ok:X.Ok){b:Addr}{o:Obj}(e:X.base.get? b=yz o):b ∉ X.fs:=λhb=>by have:=(ok.funs.mem hb).1;rw[e]at this;cases this
theorem Inv.bs(I:Inv X pc σ H s):∀b o,X.base.get? b=yz o->s.heap.get? b=yz o/\H b=none:=λb o e=>⟨I.base.keep b o (I.ok.bs b o e).1 (I.ok.bs b o e).2 (I.ok.nofr e) (I.ok.noex b o e),I.base.free b o (I.ok.bs b o e).1 (I.ok.bs b o e).2 (I.ok.noex b o e)⟩
theorem Inv.bk(I:Inv X pc σ H s):∀b o,X.base.get? b=yz o->s.heap.get? b=yz o:=λb o e=>(I.bs b o e).1
theorem Inv.mod(I:Inv X pc σ H s):Mod X.K X.mg X.base:=I.ok.mod
theorem Inv.kIn(I:Inv X pc σ H s):X.K.In s.heap:=I.ok.mod.kin.keeps I.bk
theorem Inv.nolimit(I:Inv X pc σ H s):s.heap.NoLimit:=I.ok.mod.nolimit.keeps I.bk
theorem Inv.lt(I:Inv X pc σ H s):X.env.locals<s.heap.objs.size:=let ⟨_,hn,_⟩:=I.loc;hn.lt
theorem Inv.sz(I:Inv X pc σ H s):X.s₀.heap.objs.size<=s.heap.objs.size:=V4 I.ok.above (Vd1 I.lt)
theorem Inv.nofs(I:Inv X pc σ H s){a:Addr}(h:s.heap.objs.size<=a):a ∉ X.fs:=λhb=>by obtain⟨_,o,J,_⟩:=I.ok.funs.mem hb;exact aB0 (V8 (Vy J) (V4 I.sz h)) (Vcz _)
theorem Inv.cne(I:Inv X pc σ H s):∀x c,X.env.cells.lookup x=yz c->c≠X.env.locals:=λx c e z=>by obtain⟨v,o,Y,hd⟩:=I.cell x c e;obtain⟨m,⟨o',es,ep,J,L,_⟩,_⟩:=I.loc;rw[z,J]at Y;cases Y;rw[L]at hd;cases hd
theorem Inv.funs(I:Inv X pc σ H s):s.heap.FunFrames X.base X.outer:=by
 have all:∀(l:List Env),(∀b∈frs l,b∈X.fs)->X.s₀.heap.FunFrames X.base l->s.heap.FunFrames X.base l:=by
  intro l;induction l with
  |nil=>intro _ _;trivial|cons env r ih=>intro hs hl;obtain⟨hk,⟨L,o,hf,Y,ho,hd⟩,hr⟩:=hl;have J:L∈X.fs:=hs L (by unfold frs;rw[Vak,hf];exact U3);obtain⟨sl,e⟩:=I.base.slot L o ho (I.ok.frf L J) J λz=>I.ok.exfs L z J;exact⟨hk,⟨L,_,hf,Y,e,hd⟩,ih (λb hb=>hs b (by unfold frs;rw[Vak,hf];exact Uv _ hb)) hr⟩
 exact all X.outer (λ_ hb=>hb) I.ok.funs
theorem Inv.stack(I:Inv X pc σ H s):s.heap.FunFrames X.base X.stack:=by
 rcases I.ok.stk with e|⟨e,hf⟩;·rw[e];exact I.funs
 ·rw[e];obtain⟨m,J,_⟩:=I.loc;refine .cons (by rw[I.ok.kind];decide) hf J ?_ I.funs;exact Heap.get?_none_of_le (V4 I.ok.bsz I.ok.above)
theorem Inv.stkSub(I:Inv X pc σ H s):∀b∈frs X.stack,b∈X.env.locals::X.fs:=λb hb=>by
 rcases I.ok.stk with e|⟨e,hf⟩;·rw[e]at hb;exact Uv _ hb
 ·rw[e]at hb;unfold frs at hb;rw[Vak,hf]at hb;exact hb
theorem Inv.stkFree(I:Inv X pc σ H s):∀b∈frs X.stack,H b=none:=λb hb=>by
 rcases V2.mp (I.stkSub b hb) with e|hb;·rw[e];exact I.free
 ·obtain⟨_,o,J,_⟩:=I.ok.funs.mem hb;exact I.base.free b o J (I.ok.frf b hb) λz=>I.ok.exfs b z hb
theorem Inv.step{g':Array GenState}{t':Nat}{d':Drawn}{ch:LR}(I:Inv X pc σ H s)
  (aa:∀b∈ch,(b∈X.ex\/X.s₀.heap.objs.size<=b)/\b≠X.env.locals/\(∀x c,X.env.cells.lookup x=yz c->c≠b)/\∀p∈X.pn++pc,p.1≠b)
  (keep:∀b o,b≠X.env.locals->b ∉ X.fs->b ∉ ch->s.heap.get? b=yz o->H b=yy->h'.get? b=yz o)
  (slot:∀b o,b≠X.env.locals->b∈X.fs->b ∉ ch->s.heap.get? b=yz o->H b=yy->∃sl,h'.get? b=yz {o with slots:=sl}) (free:∀b o,b ∉ ch->s.heap.get? b=yz o->H b=yy->H' b=yy)
  (there:∀b o,b ∉ ch->s.heap.get? b=yz o->∃o',h'.get? b=yz o')
  (tups:∀b xs,H b=yz (.tup xs)->H' b=yz (.tup xs)) (frzs:∀b o u,H b=yz (.frz o u)->H' b=yz (.frz o u)) (tbls:∀b ps,H b=yz (.tbl ps)->H' b=yz (.tbl ps))
  (ns:∀m,s.heap.Ns X.env.locals m->h'.Ns X.env.locals m) (hok:HOk X.prog X.w H' h') (hg:AllBare g'):
  Inv X pc σ H' {s with heap:=h',gens:=g',drawn:=d',toks:=t' }:=by
 have ac:∀b o,X.s₀.heap.get? b=yz o->b≠X.env.locals:=λb o e=>Up (V8 (Vy e) I.ok.above);have ab:∀b o,X.s₀.heap.get? b=yz o->b ∉ X.ex->b ∉ ch:=λb o e J hb=>by
  rcases (aa b hb).1 with z|z;·exact J z
  ·exact aB0 (V8 (Vy e) z) (Vcz _)
 have Y:∀x c,X.env.cells.lookup x=yz c->∀v,s.heap.IsCell c v->h'.IsCell c v:=λx c e v ⟨o,ho,hd⟩=>by
  have L:c ∉ ch:=λz=>(aa c z).2.2.1 x c e rfl;by_cases hc:c∈X.fs;·obtain⟨sl,q⟩:=slot c o (I.cne x c e) hc L ho (I.freeC x c e);exact⟨_,q,hd⟩
  ·exact⟨o,keep c o (I.cne x c e) hc L ho (I.freeC x c e),hd⟩
 refine⟨I.ok,I.os,hg,⟨λb o e n hb J=>?_,λb o e n hb J=>?_,λb o e n J=>?_,λb o e J=>?_,λb xs e=>tups b xs (I.base.tups b xs e),λb o xs e=>frzs b o xs (I.base.frzs b o xs e),λb ps e=>tbls b ps (I.base.tbls b ps e)⟩,?_,λx c e=>?_,?_,λx c e=>?_,λp hp=>?_,hok,I.len⟩;·exact keep b o (ac b o e) hb (ab b o e J) (I.base.keep b o e n hb J) (I.base.free b o e n J)
 ·obtain⟨sl,e1⟩:=I.base.slot b o e n hb J;obtain⟨ae,e2⟩:=slot b _ (ac b o e) hb (ab b o e J) e1 (I.base.free b o e n J);exact⟨ae,e2⟩
 ·obtain⟨o',e1⟩:=I.base.there b o e J;exact free b o' (ab b o e J) e1 (I.base.free b o e n J)
 ·obtain⟨o',e1⟩:=I.base.there b o e J;exact there b o' (ab b o e J) e1
 ·obtain⟨m,hn,hl⟩:=I.loc;refine⟨m,ns m hn,λi x v e1 e2 e3=>?_⟩;obtain⟨u,r,l⟩:=hl i x v e1 e2 e3;refine⟨u,r,?_⟩;rcases l with l|⟨k,c,e,z⟩;·exact .inl l
  ·exact .inr ⟨k,c,e,Y x c e _ z⟩
 ·obtain⟨v,z⟩:=I.cell x c e;exact⟨v,Y x c e v z⟩
 ·obtain⟨m,⟨o,_,_,ho,_⟩,_⟩:=I.loc;exact free _ o (λz=>(aa _ z).2.1 rfl) ho I.free
 ·obtain⟨v,o,ho,hd⟩:=I.cell x c e;exact free c o (λz=>(aa c z).2.2.1 x c e rfl) ho (I.freeC x c e)
 ·obtain⟨e,n,ne,nf,d⟩:=I.pin p hp;have L:p.1 ∉ ch:=λz=>(aa p.1 z).2.2.2 p hp rfl;exact⟨keep p.1 p.2 ne nf L e n,free p.1 p.2 L e n,ne,nf,d⟩
theorem Inv.un{t':Nat}(I:Inv X pc σ H s)(u:Un X.fs [] H H' s.heap h')(hok:HOk X.prog X.w H' h'):Inv X pc σ H' {s with heap:=h',toks:=t' }:=by obtain⟨m,⟨o,es,ep,ho,r⟩,_⟩:=id I.loc;obtain⟨sl,hL⟩:=u.any ho I.free (by simp);exact I.step (g':=s.gens) (d':=s.drawn) (ch:=[]) (λ_ z=>nomatch z) (λb o _ hb _ e n=>u.keep b o e n hb (by simp)) (λb o _ hb _ e n=>u.slot b o e n hb (by simp)) (λb o _ e n=>u.free b o e n (by simp)) (λb o _ e=>u.there b o e (by simp)) u.tups u.frzs u.tbls (λm' hm=>by obtain⟨o',L,Y,J,r'⟩:=hm;rw[ho]at J;cases J;exact⟨_,L,Y,hL,r'⟩) hok I.bare
theorem Inv.call{g':Array GenState}{t':Nat}{d':Drawn}{ch:LR}(I:Inv X pc σ H s)(u:Un (frs X.stack) ch H H' s.heap h')(hok:HOk X.prog X.w H' h')(hg:AllBare g')
  (Y:∀b∈ch,(b∈X.ex\/X.s₀.heap.objs.size<=b)/\b≠X.env.locals/\(∀x c,X.env.cells.lookup x=yz c->c≠b)/\∀p∈X.pn++pc,p.1≠b):
  Inv X pc σ H' {s with heap:=h',gens:=g',drawn:=d',toks:=t' }:=by
 obtain⟨m,⟨o,es,ep,ho,r⟩,_⟩:=id I.loc;obtain⟨sl,hL⟩:=u.any ho I.free λz=>(Y _ z).2.1 rfl;exact I.step (ch:=ch) Y (λb o hL hb J e n=>u.keep b o e n (λz=>(V2.mp (I.stkSub b z)).elim hL hb) J) (λb o _ _ J e n=>u.any e n J) (λb o J e n=>u.free b o e n J) (λb o J e=>u.there b o e J) u.tups u.frzs u.tbls (λm' hm=>by obtain⟨o',aa,ab,L,r'⟩:=hm;rw[ho]at L;cases L;exact⟨_,aa,ab,hL,r'⟩) hok hg
theorem Inv.turned{t':Nat}{it:Addr}(I:Inv X pc σ H s)(k:∀b o,b≠it->s.heap.get? b=yz o->h'.get? b=yz o)(hn:H it=yy)(Y:it≠X.env.locals)
  (h1:it∈X.ex\/X.s₀.heap.objs.size<=it) (h2:∀x c,X.env.cells.lookup x=yz c->c≠it) (h3:∀p∈X.pn++pc,p.1≠it):Inv X pc σ H {s with heap:=h',toks:=t' }:=by
 have L:∀b u,H b=yz u->b≠it:=λb u e z=>by rw[z,hn]at e;cases e
 refine I.step (g':=s.gens) (d':=s.drawn) (ch:=[it]) (λb hb=>?_) (λb o _ _ J e _=>k b o (λz=>J (by simp[z])) e) (λb o _ _ J e _=>⟨o.slots,k b o (λz=>J (by simp[z])) e⟩) (λ_ _ _ _ n=>n)
  (λb o J e=>⟨o,k b o (λz=>J (by simp[z])) e⟩) (λ_ _ e=>e) (λ_ _ _ e=>e) (λ_ _ e=>e) (λm hm=>?_) (λb u e=>?_) I.bare
 ·have e:b=it:=by simpa using hb
  subst e;exact⟨h1,Y,h2,h3⟩
 ·obtain⟨o,es,ep,ho,r⟩:=hm;exact⟨o,es,ep,k _ o (Ne.symm Y) ho,r⟩
 ·refine(I.hok b u e).stay (λc v J q=>k c v ?_ q) (λ_ q=>q) λ_ _ _ q=>q;rcases J with z|z;·rw[z];exact L b u e
  ·exact L c _ z
theorem Inv.tok(I:Inv X pc σ H s)(t:Nat):Inv X pc σ H {s with toks:=t}:=I.un (h':=s.heap) (t':=t) Un.refl I.hok
theorem Inv.kept{t':Nat}(I:Inv X pc σ H s)(k:∀b u,s.heap.get? b=yz u->h'.get? b=yz u):Inv X pc σ H {s with heap:=h',toks:=t' }:=I.un (Un.kept k) (I.hok.kept k)
theorem Inv.laid{a:Addr}{o:HO}{t':Nat}(I:Inv X pc σ H s)(k:∀b u,s.heap.get? b=yz u->h'.get? b=yz u)(hp:s.heap.objs.size<=a)(new:ObjOk X.prog X.w (upd H a o) h' a o):
  Inv X pc σ (upd H a o) {s with heap:=h',toks:=t' }:=I.un (Un.laid k hp (I.hok.fresh hp)) (I.hok.laid k hp new)
theorem Inv.write{x e:Addr}{o:HO}{t':Nat}(I:Inv X pc σ H s)(L:Mut (H x))(Y:e=x\/H e=yz (.own x))(k:∀b u,b≠e->s.heap.get? b=yz u->h'.get? b=yz u)(J:∃u,h'.get? e=yz u)
  (new:ObjOk X.prog X.w (upd H x o) h' x o):Inv X pc σ (upd H x o) {s with heap:=h',toks:=t' }:=I.un (Un.write L Y k J) (I.hok.write L Y k J new)
theorem Inv.pins_of{J:LA}(I:Inv X pc σ H s)(h:∀p∈J,s.heap.get? p.1=yz p.2/\H p.1=yy/\p.1≠X.env.locals/\p.1 ∉ X.fs/\∀v,p.2.data≠.cell v):Inv X J σ H s:=
 ⟨I.ok,I.os,I.bare,I.base,I.loc,I.cell,I.free,I.freeC,λp L=>(Uf.mp L).elim (λz=>I.pin p (Vbd _ z)) (h p),I.hok,I.len⟩
theorem Xl0{N:LS}(hN:N.Nodup){i j:Nat}{x:Str}(a:N[i]?=yz x)(b:N[j]?=yz x):i=j:=by obtain⟨h1,L⟩:=Vd.mp a;obtain⟨h2,J⟩:=Vd.mp b;exact(List.getElem_inj hN).mp (L.trans J.symm)
theorem Xke{M:Model}{A:Uy}{E:VP}{i:Nat}{x:Str}{v:V}{u:Vb}{Q:Unit->Vc->Prop}(I:Inv X pc σ H s)(hN:X.N.Nodup)(hi:X.N[i]?=yz x)(hx:Loc X.env.scope x)(r:RelV v u)
  (h:∀s',Inv X pc (σ.set i (yz v)) H s'->(∃a,Vbi a s.heap s'.heap/\(a=X.env.locals\/X.env.cells.lookup x=yz a))->Q () s') (hf:X.fn x=yx\/X.env.scope.names.lookup x=yz .local:=by first|exact .inl rfl|exact .inr rfl|assumption):Vi M A (storeName X.env x u) Q E s:=by
 obtain⟨m,hn,hl⟩:=id I.loc;have aj:(X.env.scope.kind == .class||(X.env.scope.kind == .module&&X.env.locals != X.env.globals))=false:=by rw[I.ok.kind];rfl
 have ab:i < σ.length:=by rw[I.len];exact(Vd.mp hi).1
 have cne:=I.cne;have J:∀ {a:Addr} {h':Heap},(∃o,s.heap.get? a=yz o/\H a=yy)->Vbi a s.heap h'->HOk X.prog X.w H h':=λ{a h'} ha hs b ob e=>by
  obtain⟨_,_,aa⟩:=ha;refine(I.hok b ob e).stay (λc w' Y q=>(hs.2 c ?_).trans q) (λ_ q=>q) λ_ _ _ q=>q;rintro rfl;rcases Y with rfl|Y;·rw[aa]at e;cases e
  ·rw[aa]at Y;cases Y
 rcases hx with hk|hk
 ·refine wpAny_storeName_local hk hn (λh' ak hs=>?_) aj;obtain⟨oL,_,_,al,_⟩:=id hn;refine h _ ⟨I.ok,I.os,I.bare,⟨λb o e n hb hx=>?_,λb o e n hb hx=>?_,I.base.free,λb o e hx=>?_,I.base.tups,I.base.frzs,I.base.tbls⟩,⟨_,ak,λj y v' L e2 e3=>?_⟩,λy c e=>?_,I.free,I.freeC,λp hp=>?_,J ⟨oL,al,I.free⟩ hs,by simpa using I.len⟩ ⟨_,hs,.inl rfl⟩;·exact(hs.2 b (Up (V8 (Vy e) I.ok.above))).trans (I.base.keep b o e n hb hx)
  ·obtain⟨sl,L⟩:=I.base.slot b o e n hb hx;exact⟨sl,(hs.2 b (Up (V8 (Vy e) I.ok.above))).trans L⟩
  ·obtain⟨o',L⟩:=I.base.there b o e hx;exact⟨o',(hs.2 b (Up (V8 (Vy e) I.ok.above))).trans L⟩
  ·by_cases hj:j=i;·subst hj;rw[hi]at L;cases L;rw[Vb9 ab]at e2;cases e2;exact⟨u,r,.inl ⟨hk,by simp⟩⟩
   ·rw[Vao (Ne.symm hj)]at e2;obtain⟨u',r',q⟩:=hl j y v' L e2 e3;refine⟨u',r',?_⟩;rcases q with⟨k,e⟩|⟨k,c,e,z⟩;·refine .inl ⟨k,?_⟩;have:y≠x:=λe=>hj (Xl0 hN L (e▸hi));simp[this,e]
    ·exact .inr ⟨k,c,e,z.sameBut hs (cne y c e)⟩
  ·obtain⟨w',z⟩:=I.cell y c e;exact⟨w',z.sameBut hs (cne y c e)⟩
  obtain⟨e,n,ne,nf,d⟩:=I.pin p hp;exact⟨(hs.2 p.1 ne).trans e,n,ne,nf,d⟩
 ·have ac:X.fn x=true:=by
   rcases hf with z|z;·exact z
   ·rw[z]at hk;cases hk
  obtain⟨c,Y⟩:=I.ok.has x (.inl hk);obtain⟨w',z⟩:=I.cell x c Y;refine wpAny_storeName_cell I.ok.kind hk Y z (λh' ai hs=>?_);obtain⟨oc,ae,af⟩:=id z;refine h {s with heap:=h' } ⟨I.ok,I.os,I.bare,⟨λb o e n hb hx=>?_,λb o e n hb hx=>?_,I.base.free,λb o e hx=>?_,I.base.tups,I.base.frzs,I.base.tbls⟩,⟨m,hn.sameBut hs (Ne.symm (cne x c Y)),λj y v' L e2 e3=>?_⟩,λy c' e=>?_,I.free,I.freeC,λp hp=>?_,J ⟨oc,ae,I.freeC x c Y⟩ hs,by simpa using I.len⟩ ⟨c,hs,.inr Y⟩;·exact(hs.2 b (Up (V8 (Vy e) (I.ok.cab x c ac Y)))).trans (I.base.keep b o e n hb hx)
  ·obtain⟨sl,L⟩:=I.base.slot b o e n hb hx;exact⟨sl,(hs.2 b (Up (V8 (Vy e) (I.ok.cab x c ac Y)))).trans L⟩
  ·obtain⟨o',L⟩:=I.base.there b o e hx;exact⟨o',(hs.2 b (Up (V8 (Vy e) (I.ok.cab x c ac Y)))).trans L⟩
  ·by_cases hj:j=i;·subst hj;rw[hi]at L;cases L;rw[Vb9 ab]at e2;cases e2;exact⟨u,r,.inr ⟨.inl hk,c,Y,ai⟩⟩
   ·rw[Vao (Ne.symm hj)]at e2;obtain⟨u',r',q⟩:=hl j y v' L e2 e3;refine⟨u',r',?_⟩;rcases q with q|⟨k,c',e,z'⟩;·exact .inl q
    ·refine .inr ⟨k,c',e,z'.sameBut hs ?_⟩;rintro rfl;exact hj (Xl0 hN L (I.ok.inj _ _ _ e Y▸hi))
  ·by_cases ah:c'=c;·subst ah;exact⟨_,ai⟩
   ·obtain⟨w2,z2⟩:=I.cell y c' e;exact⟨w2,z2.sameBut hs ah⟩
  obtain⟨e,n,ne,nf,d⟩:=I.pin p hp;refine⟨(hs.2 p.1 ?_).trans e,n,ne,nf,d⟩;intro q;rw[q,ae]at e;have q':oc=p.2:=Uw e;exact d w' (by rw[<-q'];exact af)
theorem Xba{M:Model}{A:Uy}{E:VP}{i:Nat}{x:Str}{v:V}{u:Vb}{Q:Unit->Vc->Prop}(I:Inv X pc σ H s)(hN:X.N.Nodup)(hi:X.N[i]?=yz x)(L:Loc X.env.scope x)(r:RelV v u)
  (h:∀s',Inv X pc (σ.set i (yz v)) H s'->Q () s') (hf:X.fn x=yx\/X.env.scope.names.lookup x=yz .local:=by first|exact .inl rfl|exact .inr rfl|assumption):Vi M A (storeName X.env x u) Q E s:=
 Xke I hN hi L r (λs' J _=>h s' J) hf
theorem Inv.call'{s':Vc}{ch:LR}(I:Inv X pc σ H s)(ho:s'.os=s.os)(u:Un (frs X.stack) ch H H' s.heap s'.heap)(hok:HOk X.prog X.w H' s'.heap)(hg:AllBare s'.gens)
  (J:∀b∈ch,(b∈X.ex\/X.s₀.heap.objs.size<=b)/\b≠X.env.locals/\(∀x c,X.env.cells.lookup x=yz c->c≠b)/\∀p∈X.pn++pc,p.1≠b):Inv X pc σ H' s':=by
 obtain⟨h',L,Y,t',o'⟩:=s';have e:o'=s.os:=ho;subst e;exact I.call (g':=L) (t':=t') (d':=Y) u hok hg J
end
abbrev XK:=Vb->Option Addr->Hp->Prop
noncomputable abbrev St:=List (Option V)
abbrev VK:=V->Hp->Prop
abbrev TE:=St->Hp->VK->Prop
def EP(X:Cx)(pc:LA)(σ:St)(Q:VK)(u:Vb)(s':Vc):Prop:=∃v H',Inv X pc σ H' s'/\RelV v u/\Q v H'
def TP(X:Cx)(pc:LA)(σ:St)(Q:Bool->Hp->Prop)(b:Bool)(s':Vc):Prop:=∃H',Inv X pc σ H' s'/\Q b H'
def PE(X:Cx)(e:Expr)(t:TE):Prop:=
 ∀(pc:LA) (s:Vc) (σ:St) (H:Hp) (Q:VK),Inv X pc σ H s->t σ H Q->Vi (Vj X.prog X.w) X.A (eval e X.env) (EP X pc σ Q) X.xe s
theorem thn{α:Type}{t:Sem α}{Q Q':α->Vc->Prop}{M:Model}{A:Uy}{E:VP}{s:Vc}(h:Vi M A t Q E s)(J:∀a s,Q a s->Q' a s):Vi M A t Q' E s:=Vp h J λ_ _ x=>x
end L2
namespace L2
open PySem PySem.Spec PyProof.Rows
section
variable{X:Cx}
theorem bin{a b:Expr}{ta tb:TE}(ha:PE X a ta)(hb:PE X b tb){pc:LA}{s:Vc}{σ:St}{H:Hp}{R:V->V->Hp->Prop}(I:Inv X pc σ H s)(h:ta σ H λx H1=>tb σ H1 λy H2=>R x y H2)
  {α:Type} {Q:α->Vc->Prop} {f:Vb->Vb->Sem α}
  (hf:∀v u J x y H2,Inv X pc σ H2 J->RelV x v->RelV y u->R x y H2->Vi (Vj X.prog X.w) X.A (f v u) Q X.xe J):
  Vi (Vj X.prog X.w) X.A (eval a X.env) (λv s₁=>Vi (Vj X.prog X.w) X.A (eval b X.env) (λu s₂=>Vi (Vj X.prog X.w) X.A (f v u) Q X.xe s₂) X.xe s₁) X.xe s:=by
 refine thn (ha pc s σ H _ I h) λv s1 ⟨x,H1,I1,r1,q1⟩=>?_;refine thn (hb pc s1 σ H1 _ I1 q1) λu J ⟨y,H2,I2,r2,q2⟩=>?_;exact hf v u J x y H2 I2 r1 r2 q2
noncomputable def Yao(i:Nat):TE:=fun σ H Q=>∃v,σ[i]?=yz (yz v)/\Q v H
noncomputable def tC(v:V):TE:=λ_ H Q=>Q v H
theorem X3e {i:Nat} {x:Str} {pos:Pos} (hN:X.N[i]?=yz x) (L:Vis X.env.scope x) (hd:(x==("__debug__" : Str))=false:=by decide) (J:(x==("__classdict__" : Str))=false:=by decide):PE X (.Name x pos) (Yao i):=by
 intro pc s σ H Q I h;obtain⟨v,e,h⟩:=h;obtain⟨m,Y,hl⟩:=I.loc;obtain⟨u,r,l⟩:=hl i x v hN e L;have fin:EP X pc σ Q u s:=⟨v,H,I,r,h⟩;rcases l with⟨hk,hm⟩|⟨hk,c,hc,hcell⟩;·exact wpAny_Name (wpAny_loadName_local I.ok.kind hk Y hm fin) hd
 ·rcases hk with hk|hk;·exact wpAny_Name (wpAny_loadName_cell I.ok.kind hk hc hcell fin) hd
  ·exact wpAny_Name (wpAny_loadName_free I.ok.kind hk hc hcell fin J) hd
theorem X3f{i j pos}:PE X (.Constant (.int i) j pos) (tC (.int i)):=λ_ _ _ H _ I h=>wpAny_Constant_int ⟨.int i,H,I.tok _,⟨_,rfl⟩,h⟩
theorem X8k{b j pos}:PE X (.Constant (.bool b) j pos) (tC (.bl b)):=λ_ _ _ H _ I h=>Constant_bool ⟨.bl b,H,I,rfl,h⟩
theorem X3g{j pos}:PE X (.Constant .none j pos) (tC .non):=λ_ _ _ H _ I h=>Constant_none ⟨.non,H,I,rfl,h⟩
theorem X3h{x j pos}:PE X (.Constant (.str x) j pos) (tC (.str x)):=λ_ _ _ H _ I h=>Calls.Constant_str ⟨.str x,H,I.tok _,⟨_,rfl⟩,h⟩
def Gl(X:Cx)(x:Str):Prop:=X.env.kindOf x=yz .globalImplicit
theorem Xdo{E:VP}{pc:LA}{s:Vc}{σ:St}{H:Hp}{x:Str}{u:Vb}{pos:Pos}{Q:VP}(I:Inv X pc σ H s)(hg:Gl X x)(J:X.mg x=yz u)(h:Q u s)
  (hd:(x==("__debug__" : Str))=false:=by decide):Vi (Vj X.prog X.w) X.A (eval (.Name x pos) X.env) Q E s:=
 Vhl I.ok.kind hg (Calls.loadGlobal_global (by rw[I.ok.glob];exact I.mod.glob.keeps I.bk) J h) hd
theorem Xaz{E:VP}{pc:LA}{s:Vc}{σ:St}{H:Hp}{x:Str}{u:Vb}{pos:Pos}{Q:VP}(I:Inv X pc σ H s)(hg:Gl X x)(L:X.mg x=yy)(J:Vd0 x=yz u)(h:Q u s)
  (Y:x ≠ "__name__":=by decide) (hd:(x==("__debug__" : Str))=false:=by decide):Vi (Vj X.prog X.w) X.A (eval (.Name x pos) X.env) Q E s:=by
 obtain⟨mb,h1,h2⟩:=I.mod.blt;exact Vhl I.ok.kind hg (Calls.loadGlobal_builtin (by rw[I.ok.glob];exact I.mod.glob.keeps I.bk) L (by rw[I.ok.blt];exact h1.keeps I.bk) ((h2 x Y).trans J) h) hd
end
end L2
namespace L2
open PySem PySem.Spec PyProof.Rows
def SqL(K:Ve)(H:Hp)(a:Addr)(xs:LW):Prop:=
 Rd H a (.lst xs) \/
  ∃(o:Obj) (its:AV) (n:Nat),K.lookup a=yz o/\o.cls=.type "list" /\ o.dict=yy/\o.data=.seq its n/\its.size<=V0/\Vals xs its.toList
def SqT(K:Ve)(H:Hp)(a:Addr)(xs:LW):Prop:=
 Rd H a (.tup xs) \/
  ∃(o:Obj) (its:AV) (n:Nat),K.lookup a=yz o/\o.cls=.type "tuple" /\ o.data=.seq its n/\its.size<=V0/\Vals xs its.toList
noncomputable def Yap:Vb->Option V
 |.none=>yz .non|.bool b=>yz (.bl b)|.int i _=>yz (.int i)|.str x _=>yz (.str x)|.bytes b _=>yz (.byt b)|.float b _=>yz (.flt b)|.ref a=>yz (.ref a)|.type n=>yz (.ty n)|_=>yy
theorem RelV.abs{x:V}{u:Vb}(r:RelV x u):Yap u=yz x:=by
 cases x with
 |non=>cases r;rfl|bl _=>cases r;rfl|int _=>obtain⟨t,rfl⟩:=r;rfl|str _=>obtain⟨t,rfl⟩:=r;rfl|byt _=>obtain⟨t,rfl⟩:=r;rfl|flt _=>obtain⟨t,rfl⟩:=r;rfl|ref _=>cases r;rfl|ty _=>cases r;rfl
theorem RelV.inj{x y:V}{u:Vb}(r:RelV x u)(q:RelV y u):x=y:=Uw (r.abs.symm.trans q.abs)
theorem Vals.inj:∀ {xs ys:LW} {us:LV},Vals xs us->Vals ys us->xs=ys
 |_,_,_,.nil,.nil=>rfl|_,_,_,.cons r t,.cons r' t'=>by rw[r.inj r',Vals.inj t t']
section
variable{X:Cx}{pc:LA}{σ:St}{H:Hp}{s:Vc}{a:Addr}{xs ys:LW}
theorem SqL.of{K:Ve}(h:H a=yz (.lst xs)):SqL K H a xs:=.inl (.inl h)
theorem SqT.of{K:Ve}(h:H a=yz (.tup xs)):SqT K H a xs:=.inl (.inl h)
theorem Inv.list(I:Inv X pc σ H s)(h:SqL X.K H a xs):∃its:LV,Vals xs its/\PlainL s.heap a its.toArray/\(ll xs)<=V0:=by
 rcases h with h|⟨o,its,n,hk,J,hd,hs,hz,r⟩;·obtain⟨z,its,n,r,e⟩:=h.ok I.hok;exact⟨its,r,⟨_,n,e,rfl,rfl,rfl⟩,z⟩
 ·refine⟨its.toList,r,⟨o,n,I.kIn a o hk,J,hd,by simpa using hs⟩,?_⟩;have e:=r.length;simp only[U7]at e;omega
theorem Inv.tuple(I:Inv X pc σ H s)(h:SqT X.K H a xs):∃its:LV,Vals xs its/\Vcl s.heap a its.toArray/\(ll xs)<=V0:=by
 rcases h with h|⟨o,its,n,hk,J,hs,hz,r⟩;·obtain⟨z,its,r,p⟩:=h.ok I.hok;exact⟨its,r,p,z⟩
 ·refine⟨its.toList,r,⟨o,I.kIn a o hk,J,n,by simpa using hs⟩,?_⟩;have e:=r.length;simp only[U7]at e;omega
theorem Inv.list_inj(I:Inv X pc σ H s)(h:SqL X.K H a xs)(h':SqL X.K H a ys):xs=ys:=by
 obtain⟨its,r,⟨o,n,e,_,_,d⟩,_⟩:=I.list h;obtain⟨J,r',⟨o',n',L,_,_,Y⟩,_⟩:=I.list h';rw[e]at L;cases L;rw[d]at Y;injection Y with d1 _;have:its=J:=by simpa using congrArg Array.toList d1
 subst this;exact r.inj r'
theorem Inv.tuple_inj(I:Inv X pc σ H s)(h:SqT X.K H a xs)(h':SqT X.K H a ys):xs=ys:=by
 obtain⟨its,r,⟨o,e,_,n,d⟩,_⟩:=I.tuple h;obtain⟨J,r',⟨o',L,_,n',Y⟩,_⟩:=I.tuple h';rw[e]at L;cases L;rw[d]at Y;injection Y with d1 _;have:its=J:=by simpa using congrArg Array.toList d1
 subst this;exact r.inj r'
end
noncomputable abbrev Cx.wish(X:Cx)(E:VP):Cx:={ X with xe:=E}
theorem Cx.Ok.wish{X:Cx}(ok:X.Ok)(E:VP):(X.wish E).Ok:=
 ⟨ok.mod,ok.kind,ok.glob,ok.blt,ok.above,ok.inj,ok.has,ok.cab,ok.hd,ok.frames,ok.stk,ok.exf,ok.bs,ok.bsz,ok.noex,ok.exfs,ok.funs,ok.frf⟩
theorem Cx.Ok.unwish{X:Cx}{E:VP}(ok:(X.wish E).Ok):X.Ok:=
 ⟨ok.mod,ok.kind,ok.glob,ok.blt,ok.above,ok.inj,ok.has,ok.cab,ok.hd,ok.frames,ok.stk,ok.exf,ok.bs,ok.bsz,ok.noex,ok.exfs,ok.funs,ok.frf⟩
section
variable{X:Cx}{pc:LA}{σ:St}{H:Hp}{s:Vc}{E:VP}
theorem Inv.wish(I:Inv X pc σ H s)(E:VP):Inv (X.wish E) pc σ H s:=⟨I.ok.wish E,I.os,I.bare,I.base,I.loc,I.cell,I.free,I.freeC,I.pin,I.hok,I.len⟩
theorem Inv.unwish(I:Inv (X.wish E) pc σ H s):Inv X pc σ H s:=⟨I.ok.unwish,I.os,I.bare,I.base,I.loc,I.cell,I.free,I.freeC,I.pin,I.hok,I.len⟩
theorem Inv.quiet{pc:LA}{σ:St}{H:Hp}{s:Vc}(I:Inv X pc σ H s):interactive X.env=false:=by simp[interactive,I.ok.kind]
end
abbrev TG:=V->St->Hp->(St->Hp->Prop)->Prop
abbrev TGs:=LW->St->Hp->(St->Hp->Prop)->Prop
def PG(X:Cx)(J:Expr)(t:TG):Prop:=
 ∀(pc:LA) (s:Vc) (σ:St) (H:Hp) (v:V) (u:Vb) (Q:St->Hp->Prop),Inv X pc σ H s->RelV v u->t v σ H Q ->
  Vi (Vj X.prog X.w) X.A (assign J X.env u) (λ_ s'=>∃ L H',Inv X pc L H' s'/\Q L H') X.xe s
def PGs(X:Cx)(ts:LX)(t:TGs):Prop:=
 ∀(pc:LA) (s:Vc) (σ:St) (H:Hp) (vs:LW) (us:LV) (Q:St->Hp->Prop),Inv X pc σ H s->Vals vs us->t vs σ H Q ->
  Vi (Vj X.prog X.w) X.A (assignInOrder ((Va4 ts X.env).map (·.2)) us) (λ_ s'=>∃ J H',Inv X pc J H' s'/\Q J H') X.xe s
abbrev Yaq:=V->V->V->Hp->(Hp->Prop)->Prop
def Yar(X:Cx)(t:Yaq):Prop:=
 ∀(pc:LA) (s:Vc) (σ:St) (H:Hp) (o i v:V) (L J u:Vb) (Q:Hp->Prop),Inv X pc σ H s->RelV o L->RelV i J->RelV v u->t o i v H Q ->
  Vi (Vj X.prog X.w) X.A (setItem L J u) (λ_ s'=>∃H',Inv X pc σ H' s'/\Q H') X.xe s
section
variable{X:Cx}{pos:Pos}
noncomputable def Xy0(i:Nat):TG:=λv σ H Q=>Q (σ.set i (yz v)) H
theorem Xzu{i:Nat}{x:Str}(hN:X.N.Nodup)(hi:X.N[i]?=yz x)(L:Loc X.env.scope x)(hf:X.fn x=yx\/X.env.scope.names.lookup x=yz .local:=by first|exact .inl rfl|exact .inr rfl|assumption):PG X (.Name x pos) (Xy0 i):=by intro pc s σ H v u Q I r h;exact Vhq (Xba I hN hi L r (λs' J=>⟨_,H,J,h⟩) hf)
noncomputable def X3i:TGs:=λvs σ H Q=>vs=[]/\Q σ H
noncomputable def Xy1(t:TG)(u:TGs):TGs:=λvs σ H Q=>∃v r,vs=v::r/\t v σ H λJ H'=>u r J H' Q
theorem Xzv:PGs X [] X3i:=by intro pc s σ H vs us Q I r h;obtain⟨e,h⟩:=h;subst e;cases r;exact assignInOrder_nil ⟨σ,H,I,h⟩
theorem Xvt{e:Expr}{es:LX}{t:TG}{u:TGs}(h1:PG X e t)(h2:PGs X es u)
  (hs:(Va4 (e::es) X.env).map (·.2)=assign e X.env::(Va4 es X.env).map (·.2):=by rfl):PGs X (e::es) (Xy1 t u):=by
 intro pc s σ H vs us Q I r h;obtain⟨v,Y,L,h⟩:=h;subst L;cases r with
 |cons r J=>rw[hs];refine Vhe (thn (h1 pc s σ H _ _ _ I r h) λ_ s1 ⟨σ1,H1,I1,q1⟩=>?_);exact h2 pc s1 σ1 H1 _ _ Q I1 J q1
noncomputable def Yas(K:Ve)(n:Nat)(t:TGs):TG:=λv σ H Q=>∃a xs,v=.ref a/\SqT K H a xs/\(ll xs)=n/\t xs σ H Q
theorem X3j{es:LX}{k:Nat}{t:TGs}{n:Nat}(hc:X.calm=yx)(h:PGs X es t)
  (hn:(Va4 es X.env).length=n:=by rfl) (L:(Va4 es X.env).findIdx? (·.1)=none:=by rfl):PG X (.Tuple es k pos) (Yas X.K n t):=by
 intro pc s σ H v u Q I r J;obtain⟨a,xs,e1,hq,hl,J⟩:=J;subst e1;cases r;obtain⟨its,Y,ht,hz⟩:=I.tuple hq;refine assign_Tuple_tuple (I.ok.hd hc) ht (by simp[hn,<-hl,Y.length]) L λh' hx=>?_;have I1:Inv X pc σ H {s with heap:=h' }:=I.kept (t':=s.toks) λb o e=>hx b o (Up (Vy e)) e;exact h pc _ σ H xs _ Q I1 (by simpa using Y) J
end
structure It where
 go:Nat->Hp->Prop
 yld:Nat->Hp->V->Hp->Prop
 stop:Nat->Hp->Prop
def Xag(X:Cx)(pc:LA)(H:Hp)(b:Addr):Prop:=
 H b=yy/\b≠X.env.locals/\b ∉ X.fs/\(b∈X.ex\/X.s₀.heap.objs.size<=b)/\(∀x c,X.env.cells.lookup x=yz c->c≠b)/\∀p∈X.pn++pc,p.1≠b
theorem Inv.fpOk{X:Cx}{pc:LA}{σ:St}{H H':Hp}{s:Vc}{b:Addr}(I:Inv X pc σ H s)(hb:s.heap.objs.size<=b)(L:H' b=yy):Xag X pc H' b:=by
 refine⟨L,Vet (V8 I.lt hb),I.nofs hb,.inr (V4 I.sz hb),λx c e z=>?_,λp J z=>?_⟩;·obtain⟨v,q⟩:=I.cell x c e;exact aB0 (V8 q.lt (by rw[z];exact hb)) (Vcz _)
 ·exact aB0 (V8 (Vy (I.pin p J).1) (by rw[z];exact hb)) (Vcz _)
structure Turn(P:Ua)(w:Uq)(K:Ve)(tg:Expr)(J:It)(fp:LR)(it:Addr)(tn:Nat->Heap->Prop):Prop where
 mem:it∈fp
 obj:∀i h,tn i h->∀b∈fp,∃o,h.get? b=yz o/\∀v,o.data≠.cell v
 keep:∀i h h',tn i h->(∀b∈fp,∀o,h.get? b=yz o->h'.get? b=yz o)->tn i h'
 item:∀(X:Cx),X.prog=P->X.w=w->X.K=K->X.calm=yx->∀(i:Nat) (pc:LA) (s:Vc) (σ:St) (H:Hp) (E:VP),Inv X pc σ H s->(∀b∈fp,Xag X pc H b)->tn i s.heap->J.go i H ->
  Vi (Vj P w) X.A (pyNext (.ref it)) (λr s1=>∃u,r=yz u /\
   Vi (Vj P w) X.A (Vea tg (.ref it) u) (λ_ s2=>∃x H',Inv X pc σ H' s2/\RelV x u/\J.yld i H x H'/\tn (i+1) s2.heap/\∀b∈fp,H' b=yy) E s1) E s
 done:∀(X:Cx),X.prog=P->X.w=w->X.K=K->X.calm=yx->∀(i:Nat) (pc:LA) (s:Vc) (σ:St) (H:Hp) (E:VP),Inv X pc σ H s->(∀b∈fp,Xag X pc H b)->tn i s.heap->J.stop i H ->
  Vi (Vj P w) X.A (pyNext (.ref it)) (λr s1=>r=yy/\Inv X pc σ H s1) E s
 self:∀(A:Uy) (i:Nat) (s:Vc) (Q:VP) (E:VP),tn i s.heap->Q (.ref it) s->Vi (Vj P w) A (pyIter (.ref it)) Q E s
def PIE(X:Cx)(pc:LA)(σ:St)(tg:Expr)(R:It->Hp->Prop)(L:Vb)(Y:Vc):Prop:=
 ∃(it:Addr) (fp:LR) (tn:Nat->Heap->Prop) (J:It) (H':Hp),L=.ref it/\Inv X pc σ H' Y/\Turn X.prog X.w X.K tg J fp it tn/\tn 0 Y.heap/\(∀b∈fp,Xag X pc H' b)/\R J H'
theorem Xle{M:Model}{A:Uy}{E:VP}{s:Vc}{tg:Expr}{it:Addr}{u:Vb}{o:Obj}{n:String}{vs:AV}{Q:Unit->Vc->Prop}(ho:s.heap.get? it=yz o)(L:o.cls=.type n)(hd:o.data=.fields vs)
  (Y:["enumerate","zip","dict_itemiterator","dict_reverseitemiterator","odict_iterator","itertools.zip_longest","itertools.pairwise"].contains n=yw) (J:Q () s):Vi M A (Vea tg (.ref it) u) Q E s:=by
 unfold Vea;cases tg<;>first
  |exact Vh J
  | (cases u<;>first
    |exact Vh J
    | (refine Va (wpAny_load ho ?_)
       rw[L,hd];show Vi M A (if (["enumerate","zip","dict_itemiterator","dict_reverseitemiterator","odict_iterator","itertools.zip_longest","itertools.pairwise"].contains n&&vs[0]?==yz (Vce _))=yx then _ else _) Q E s;rw[iN0 (by intro h;rw[Y,Vc8]at h;cases h)]
       exact Vh J))
noncomputable def Itl(K:Ve)(a:Addr):It:=
 ⟨λi H=>∃xs x,SqL K H a xs/\xs[i]?=yz x,λi H x H'=>H'=H/\∀xs,SqL K H a xs->xs[i]?=yz x,λi H=>∃xs,SqL K H a xs/\(ll xs)<=i⟩
noncomputable def Itt(K:Ve)(a:Addr):It:=
 ⟨λi H=>∃xs x,SqT K H a xs/\xs[i]?=yz x,λi H x H'=>H'=H/\∀xs,SqT K H a xs->xs[i]?=yz x,λi H=>∃xs,SqT K H a xs/\(ll xs)<=i⟩
noncomputable def Itr(lo:Int)(n:Nat):It:=⟨λi _=>i<n,λi H x H'=>H'=H/\x=.int (lo+i),λi _=>n<=i⟩
theorem Xsf{P:Ua}{w:Uq}{K:Ve}{tg:Expr}(a it:Addr):Turn P w K tg (Itl K a) [it] it (λi h=>h.IsListIter it a i) where
 mem:=by simp
 obj:=λi h st b hb=>by
  have e:b=it:=by simpa using hb
  subst e;obtain⟨o,e,c,d⟩:=st;exact⟨o,e,λv z=>by rw[d]at z;cases z⟩
 keep:=λi h h' st k=>st.at λo e=>k it (by simp) o e
 item:=by intro X hP hw Y hc i pc s σ H E I hf st hg;subst hP hw Y;obtain⟨xs,x,L,hx⟩:=hg;obtain⟨its,rv,p,hz⟩:=I.list L;obtain⟨u,hu,ru⟩:=rv.get hx;obtain⟨f0,f1,f2,f3,f4,f5⟩:=hf it (by simp);refine wpAny_pyNext_list_item st p.isList (x:=u) (by simpa using hu) λh' J sb=>?_;have I1:Inv X pc σ H {s with heap:=h' }:=I.turned (t':=s.toks) (λb o hb e=>(sb.2 b hb).trans e) f0 f1 f3 f4 f5;obtain⟨o,e,c,d⟩:=id J;exact⟨u,rfl,Xle (s:={s with heap:=h' }) e c d (by decide) ⟨x,H,I1,ru,⟨rfl,λys hy=>by rw[I.list_inj hy L];exact hx⟩,J,λb hb=>(hf b hb).1⟩⟩
 done:=by intro X hP hw Y hc i pc s σ H E I hf st hg;subst hP hw Y;obtain⟨xs,L,hx⟩:=hg;obtain⟨its,rv,p,hz⟩:=I.list L;obtain⟨f0,f1,f2,f3,f4,f5⟩:=hf it (by simp);have hl:=rv.length;exact wpAny_pyNext_list_end (I.ok.hd hc) st p.isList (by simp;omega) λh' eb=>⟨rfl,I.turned (t':=s.toks) (λb o hb e=>eb b o hb e) f0 f1 f3 f4 f5⟩
 self:=λ_ _ _ _ _ st h=>wpAny_pyIter_listiter st h
theorem Xql{P:Ua}{w:Uq}{K:Ve}{tg:Expr}(a it:Addr):Turn P w K tg (Itt K a) [it] it (λi h=>h.IsTupleIter it a i) where
 mem:=by simp
 obj:=λi h st b hb=>by
  have e:b=it:=by simpa using hb
  subst e;obtain⟨o,e,c,d⟩:=st;exact⟨o,e,λv z=>by rw[d]at z;cases z⟩
 keep:=λi h h' st k=>st.at λo e=>k it (by simp) o e
 item:=by intro X hP hw Y hc i pc s σ H E I hf st hg;subst hP hw Y;obtain⟨xs,x,L,hx⟩:=hg;obtain⟨its,rv,p,hz⟩:=I.tuple L;obtain⟨u,hu,ru⟩:=rv.get hx;obtain⟨f0,f1,f2,f3,f4,f5⟩:=hf it (by simp);refine wpAny_pyNext_tuple_item st (show s.heap.IsTuple a its.toArray from p) (x:=u) (by simpa using hu) λh' J sb=>?_;have I1:Inv X pc σ H {s with heap:=h' }:=I.turned (t':=s.toks) (λb o hb e=>(sb.2 b hb).trans e) f0 f1 f3 f4 f5;obtain⟨o,e,c,d⟩:=id J;exact⟨u,rfl,Xle (s:={s with heap:=h' }) e c d (by decide) ⟨x,H,I1,ru,⟨rfl,λys hy=>by rw[I.tuple_inj hy L];exact hx⟩,J,λb hb=>(hf b hb).1⟩⟩
 done:=by intro X hP hw Y hc i pc s σ H E I hf st hg;subst hP hw Y;obtain⟨xs,L,hx⟩:=hg;obtain⟨its,rv,p,hz⟩:=I.tuple L;obtain⟨f0,f1,f2,f3,f4,f5⟩:=hf it (by simp);have hl:=rv.length;exact wpAny_pyNext_tuple_end (I.ok.hd hc) st (show s.heap.IsTuple a its.toArray from p) (by simp;omega) λh' eb=>⟨rfl,I.turned (t':=s.toks) (λb o hb e=>eb b o hb e) f0 f1 f3 f4 f5⟩
 self:=λ_ _ _ _ _ st h=>wpAny_pyIter_tupleiter st h
theorem Xqm{P:Ua}{w:Uq}{K:Ve}{tg:Expr}(it:Addr)(lo:Int)(n:Nat):Turn P w K tg (Itr lo n) [it] it (λi h=>IsRangeIter h it (lo+(i:Nat)*1) ((n:Int)-(i:Nat)) 1) where
 mem:=by simp
 obj:=λi h st b hb=>by
  have e:b=it:=by simpa using hb
  subst e;exact⟨_,st,λv z=>by have z':Data.fields _=Data.cell v:=z;cases z'⟩
 keep:=λi h h' st k=>k it (by simp) _ st
 item:=by intro X hP hw L hc i pc s σ H E I hf st hg;subst hP hw L;obtain⟨f0,f1,f2,f3,Y,f5⟩:=hf it (by simp);have W:=Walks.range (prog:=X.prog) (w:=X.w) (I.ok.hd hc) it lo 1 n;refine W.item i s _ _ hg st λv h' tk hv J kk=>?_;obtain⟨t,rfl⟩:=hv;have I1:Inv X pc σ H {s with heap:=h',toks:=tk}:=I.turned (λb o hb e=>kk b o (by simpa using hb) e) f0 f1 f3 Y f5;refine⟨_,rfl,Xle (s:={s with heap:=h',toks:=tk}) (n:="range_iterator") J rfl rfl (by decide) ⟨.int (lo+i),H,I1,⟨t,?_⟩,⟨rfl,rfl⟩,J,λb hb=>(hf b hb).1⟩⟩;rw[Int.mul_one]
 done:=by intro X hP hw L hc i pc s σ H E I hf st hg;subst hP hw L;obtain⟨f0,f1,f2,f3,Y,f5⟩:=hf it (by simp);exact wpAny_pyNext_range_end (I.ok.hd hc) st (by have:n<=i:=hg;omega) λh' eb=>⟨rfl,I.turned (t':=s.toks) (λb o hb e=>eb b o hb e) f0 f1 f3 Y f5⟩
 self:=λ_ _ _ _ _ st h=>wpAny_pyIter_rangeiter st h
end L2
namespace L2
open PySem PySem.Spec PyProof.Rows
section
variable{X:Cx}{tg:Expr}
theorem Xvu{pc:LA}{σ:St}{H:Hp}{s:Vc}{R:It->Hp->Prop}{E:VP}{lo hi:Int}{t u v:Tok}{tk:Nat}(I:Inv X pc σ H s)(h1:-(2^62)<=lo)(h2:lo<2^62)(L:-(2^62)<=hi)(h4:hi<2^62)
  (q:R (Itr lo (hi-lo).toNat) H):Vi (Vj X.prog X.w) X.A (pyIter (.ref s.heap.objs.size)) (PIE X pc σ tg R) E {s with heap:=s.heap.push {cls:=.type "range",data:=.fields #[.int lo t,.int hi u,.int 1 v]},toks:=tk}:=by
 refine wpAny_pyIter_range (IsRange.new ..) (small_one h1 h2 L h4) ?_;have J:Inv X pc σ H {s with heap:=s.heap.push {cls:=.type "range",data:=.fields #[.int lo t,.int hi u,.int 1 v]},toks:=tk}:=I.kept λb o e=>Vo _ e
 refine⟨(s.heap.push {cls:=.type "range",data:=.fields #[.int lo t,.int hi u,.int 1 v]}).objs.size,[(s.heap.push {cls:=.type "range",data:=.fields #[.int lo t,.int hi u,.int 1 v]}).objs.size],_,_,H,rfl,
  J.kept (t':=tk) λb o e=>Vo _ e,Xqm _ lo (hi-lo).toNat,?_,λb hb=>?_,q⟩
 ·have e1:lo+((0:Nat):Int)*1=lo:=by simp
  have Y:(((hi-lo).toNat:Nat):Int)-((0:Nat):Int)=Vd9 lo hi 1:=by rw[rangeSize_one];split<;>omega
  show IsRangeIter _ _ (lo+((0:Nat):Int)*1) ((((hi-lo).toNat:Nat):Int)-((0:Nat):Int)) 1;rw[e1,Y];exact Vw _ rfl
 ·have e:b=(s.heap.push {cls:=.type "range",data:=.fields #[.int lo t,.int hi u,.int 1 v]}).objs.size:=by simpa using hb
  subst e;exact J.fpOk (Vf _) (J.hok.fresh (Vf _))
noncomputable def Xbi(fp:LR)(h:Heap):LA:=fp.filterMap λb=>(h.get? b).map λo=>(b,o)
theorem Xch{fp:LR}{h:Heap}{b:Addr}{o:Obj}(hb:b∈fp)(e:h.get? b=yz o):(b,o)∈Xbi fp h:=Veb.mpr ⟨b,hb,by rw[e];rfl⟩
theorem Xsg{fp:LR}{h:Heap}{p:Addr×Obj}(hp:p∈Xbi fp h):p.1∈fp/\h.get? p.1=yz p.2:=by
 obtain⟨b,hb,e⟩:=Veb.mp hp;cases q:h.get? b with
 |none=>rw[q]at e;cases e|some o=>rw[q]at e;have J:(b,o)=p:=Uw e;subst J;exact⟨hb,q⟩
theorem Inv.pinned{pc:LA}{σ:St}{H:Hp}{s:Vc}{fp:LR}(I:Inv X pc σ H s)(hf:∀b∈fp,Xag X pc H b)(ho:∀b∈fp,∃o,s.heap.get? b=yz o/\∀v,o.data≠.cell v):Inv X (pc++Xbi fp s.heap) σ H s:=
 I.pins_of λp Y=>(Uf.mp Y).elim (λz=>I.pin p (Ut _ z)) λz=>by obtain⟨hb,e⟩:=Xsg z;obtain⟨f0,f1,L,_⟩:=hf p.1 hb;obtain⟨o,J,d⟩:=ho p.1 hb;rw[e]at J;cases J;exact⟨e,f0,f1,L,d⟩
theorem Inv.unpinned{pc pl:LA}{σ:St}{H:Hp}{s:Vc}(I:Inv X (pc++pl) σ H s):Inv X pc σ H s:=I.pins_of λp J=>I.pin p (Ut _ (Vbd _ J))
end
end L2
namespace L2
open PySem PySem.Spec PyProof.Rows
abbrev R2:=V->V->Hp->VK->Prop
def OpR(X:Cx)(f:Vb->Vb->Sem Vb)(r:R2):Prop:=
 ∀(pc:LA) (s:Vc) (σ:St) (H:Hp) (x y:V) (v u:Vb) (Q:VK),Inv X pc σ H s->RelV x v->RelV y u->r x y H Q ->
  Vi (Vj X.prog X.w) X.A (f v u) (EP X pc σ Q) X.xe s
def Xfo(X:Cx)(f:Vb)(r:LW->Hp->VK->Prop):Prop:=
 ∀(pc:LA) (s:Vc) (σ:St) (H:Hp) (xs:LW) (us:LV) (Q:VK),Inv X pc σ H s->Vals xs us->r xs H Q ->
  Vi (Vj X.prog X.w) X.A (call f us) (EP X pc σ Q) X.xe s
def Yat(X:Cx)(r:V->Hp->(Bool->Hp->Prop)->Prop):Prop:=
 ∀(pc:LA) (s:Vc) (σ:St) (H:Hp) (x:V) (v:Vb) (Q:Bool->Hp->Prop),Inv X pc σ H s->RelV x v->r x H Q ->
  Vi (Vj X.prog X.w) X.A (truthy v) (TP X pc σ Q) X.xe s
section
variable{X:Cx}{a b:Expr}
def CMul(i j:Int):Prop:=(-(2^64)<i/\i<2^64)\/(-(2^64)<j/\j<2^64)
theorem CMul.ok{i j:Int}(h:CMul i j):IntMulOk i j:=by
 rcases h with⟨h1,h2⟩|⟨h1,h2⟩;·exact .of_left (intBits_le_64 h1 h2)
 ·exact .of_right (intBits_le_64 h1 h2)
noncomputable def X8l:HO->Bool
 |.lst _=>yx|.ins _ _ _=>yx|_=>yw
theorem Xb3{pc:LA}{s:Vc}{σ:St}{H:Hp}{a:Addr}{o:HO}(I:Inv X pc σ H s)(h:H a=yz o)(p:X8l o=yx):∃ob,s.heap.get? a=yz ob/\ob.cls≠.type "tuple":=by
 cases o with
 |lst xs=>obtain⟨_,its,n,_,e⟩:(ll xs)<=V0/\∃(its:LV) (n:Nat),Vals xs its/\s.heap.get? a=yz {cls:=.type "list",data:=.seq its.toArray n}:=I.hok a _ h;exact⟨_,e,(by show Vb0 "list" ≠ .type "tuple";decide+kernel)⟩|ins C dx fs=>have x:=I.hok a _ h;obtain⟨_,_,_,e,_⟩:=x;exact⟨_,e,(by show Vcd C≠.type "tuple";exact λz=>by cases z)⟩|_=>exact aB0 (show yw=yx from p) Uu
def X3k(K:Ve)(x:V)(H:Hp)(k:Bool):Prop:=
 match x with
 |.non=>k=yw|.bl b=>k=b|.int i=>k=(i != 0)|.str y=>y.length<=V0/\k=((y.length:Int) != 0)|.byt y=>y.size<=V0/\k=((y.size:Int) != 0)|.ref p=>(∃xs,SqL K H p xs/\k = !xs.isEmpty)\/(∃xs,SqT K H p xs/\k = !xs.isEmpty)\/∃J,H p=yz (.dK J)/\k = !J.isEmpty|_=>False
theorem Xqn{κ:Type}{J:List (κ×V)}{vs:List (κ×Vb)}(r:KV J vs):(!vs.isEmpty) = !J.isEmpty:=by cases r<;>rfl
theorem Xhs{xs:LW}{its:LV}(r:Vals xs its):(!its.toArray.isEmpty) = !xs.isEmpty:=by cases r<;>simp
theorem Xep:(V0:Nat)<2^63:=by rw[Vdd];decide
theorem X3l:Yat X (λx H Q=>∃k,X3k X.K x H k/\Q k H):=by
 intro pc s σ H x v Q I rx h;obtain⟨k,e,q⟩:=h;have hl:=Xep;have hs:V0=16777216:=Vdd;cases x with
 |non=>cases rx;have J:k=false:=e;subst J;exact truthy_none ⟨H,I,q⟩|bl b=>cases rx;have J:k=b:=e;subst J;exact Vbl ⟨H,I,q⟩|int i=>obtain⟨t,rfl⟩:=rx;have J:k=(i != 0):=e;subst J;exact PySem.P.truthy_int ⟨H,I,q⟩|str y=>obtain⟨t,rfl⟩:=rx;obtain⟨hy,J⟩:y.length<=V0/\k=((y.length:Int) != 0):=e;subst J;exact PySem.P.truthy_str (by omega) ⟨H,I.tok _,q⟩|byt y=>obtain⟨t,rfl⟩:=rx;obtain⟨hy,J⟩:y.size<=V0/\k=((y.size:Int) != 0):=e;subst J;exact PySem.W.truthy_bytes (by omega) ⟨H,I.tok _,q⟩|ref p=>
  cases rx;have J:(∃xs,SqL X.K H p xs/\k = !xs.isEmpty)\/(∃xs,SqT X.K H p xs/\k = !xs.isEmpty)\/∃L,H p=yz (.dK L)/\k = !L.isEmpty:=e;rcases J with⟨xs,hx,J⟩|⟨xs,hx,J⟩|⟨L,hx,J⟩;·subst J;obtain⟨its,r,pl,hz⟩:=I.list hx;have Y:=r.length;exact wpAny_truthy_list pl.isList (by simp only[Vn];omega) ⟨H,I.tok _,by rw[Xhs r];exact q⟩
  ·subst J;obtain⟨its,r,pl,hz⟩:=I.tuple hx;have Y:=r.length;exact truthy_tuple pl (by simp only[Vn];omega) ⟨H,I.tok _,by rw[Xhs r];exact q⟩
  subst J;obtain⟨hz,hS,vs,r,m⟩:L.length<=V0/\(p==Vdw)=yw/\∃vs,KV L vs/\s.heap.DictOf (Xir X.prog X.w) p vs:=I.hok p _ hx;have Y:L.length=ll vs:=Paired.length r;exact wpAny_truthy_dict hS m (by omega) ⟨H,I.tok _,by rw[Xqn r];exact q⟩|_=>exact(show False from e).elim
theorem Xqo{x:V}{us:LV}(r:Vals [x] us):∃u,us=[u]/\RelV x u:=by
 cases r with
 |cons L J=>cases J;exact⟨_,rfl,L⟩
theorem Xy2{x y:V}{us:LV}(r:Vals [x,y] us):∃u J,us=[u,J]/\RelV x u/\RelV y J:=by
 cases r with
 |cons Y r2=>
  cases r2 with
  |cons L r4=>cases r4;exact⟨_,_,rfl,Y,L⟩
theorem Xsh(L:X.calm=yx):Xfo X (.builtin "max") (λxs H Q=>∃i j,xs=[.int i,.int j]/\Q (.int (if j>i then j else i)) H):=by
 intro pc s σ H xs us Q I r h;obtain⟨i,j,rfl,q⟩:=h;obtain⟨u,w',rfl,⟨t,rfl⟩,⟨Y,rfl⟩⟩:=Xy2 r;refine max_two_ints (I.ok.hd L) λh' tk k=>⟨_,H,I.kept k,?_,q⟩;by_cases J:j>i;·rw[iP0 J,iP0 J];exact⟨_,rfl⟩
 ·rw[iN0 J,iN0 J];exact⟨_,rfl⟩
theorem Xsi(L:X.calm=yx):Xfo X (.builtin "min") (λxs H Q=>∃i j,xs=[.int i,.int j]/\Q (.int (if j<i then j else i)) H):=by
 intro pc s σ H xs us Q I r h;obtain⟨i,j,rfl,q⟩:=h;obtain⟨u,w',rfl,⟨t,rfl⟩,⟨Y,rfl⟩⟩:=Xy2 r;refine min_two_ints (I.ok.hd L) λh' tk k=>⟨_,H,I.kept k,?_,q⟩;by_cases J:j<i;·rw[iP0 J,iP0 J];exact⟨_,rfl⟩
 ·rw[iN0 J,iN0 J];exact⟨_,rfl⟩
end
end L2
namespace L2
open PySem PySem.Spec PyProof.Rows
end L2
namespace L2
open PySem PySem.Spec PyProof.Rows
structure Room(k:Nat)(A:Uy):Prop where
 gd:A.guards=yz []
 hd:A.handled=yy
 dp:A.depth+3*k+5<Vg9
 un:A.units+16*k+200<Vcb
abbrev Sp:=LW->Hp->VK->XK->Prop
abbrev CXT:=List Env->Hp->Vc->XK->Vb->Vc->Prop
structure Env0(P:Ua)(w:Uq)(K:Ve)(mg:Str->OV)(base:Heap)(A:Uy)(outer:List Env)(s:Vc)(H:Hp):Prop where
 frames:A.frames=yz outer
 mod:Mod K mg base
 bs:∀b o,base.get? b=yz o->s.heap.get? b=yz o/\H b=yy
 bsz:base.objs.size<=s.heap.objs.size
 funs:s.heap.FunFrames base outer
 frf:∀b∈frs outer,H b=yy
 hok:HOk P w H s.heap
 bare:AllBare s.gens
def CE(outer:List Env)(P:Ua)(w:Uq)(H:Hp)(s:Vc)(Q:VK)(u:Vb)(s':Vc):Prop:=
 ∃v H',s'.os=s.os/\AllBare s'.gens/\Un (frs outer) [] H H' s.heap s'.heap/\HOk P w H' s'.heap/\RelV v u/\Q v H'
def CR(CX:CXT)(outer:List Env)(P:Ua)(w:Uq)(H:Hp)(s:Vc)(Q:VK)(E:XK)(r:Result)(s':Vc):Prop:=
 match r with
 |.ok (.ret u)=>CE outer P w H s Q u s'|.ok _=>False|.error e=>CX outer H s E e s'
structure FnOk(P:Ua)(w:Uq)(K:Ve)(mg:Str->OV)(base:Heap)(CX:CXT)(k:Nat)(f:Addr)(fd:Vdl)(ps:LS)(sp:Sp):Prop where
 len:∀vs H Q E,sp vs H Q E->ll vs=ll ps
 run:∀(A:Uy) (outer:List Env) (s:Vc) (H:Hp) (args:Args) (us:LV) (vs:LW) (Q:VK) (E:XK),Room k A->Env0 P w K mg base A outer s H->BindsTo s fd args (ps.zip us)->Vals vs us->sp vs H Q E ->
  Vdh (Vj P w) A (.call (.ref f) args) (CR CX outer P w H s Q E) s
section
variable{X:Cx}{pc:LA}{σ:St}{H:Hp}{s s':Vc}
theorem Inv.env0(I:Inv X pc σ H s):Env0 X.prog X.w X.K X.mg X.base X.A X.stack s H:=
 ⟨I.ok.frames,I.ok.mod,I.bs,V4 I.ok.bsz I.sz,I.stack,I.stkFree,I.hok,I.bare⟩
theorem Inv.after{Q:VK}{u:Vb}(I:Inv X pc σ H s)(h:CE X.stack X.prog X.w H s Q u s'):EP X pc σ Q u s':=by obtain⟨v,H',os,bare,un,hok,r,q⟩:=h;obtain⟨L,g,d,t,J⟩:=s';obtain rfl:J=s.os:=os;exact⟨v,H',I.call (h':=L) (g':=g) (d':=d) (t':=t) (ch:=[]) un hok bare (λb z=>aB0 z (by simp)),r,q⟩
end
def Binds(K:Ve)(fd:Vdl)(ps:LS)(ds:LV):Prop:=
 ∀(s:Vc) (us:LV),K.In s.heap->(us++ds).length=ll ps->BindsTo s fd ⟨us,[]⟩ (ps.zip (us++ds))
theorem Binds.all{K:Ve}{fd:Vdl}{ps:LS}(h:∀us:LV,ll us=ll ps->Ve7 fd ⟨us,[]⟩=pure (ps.zip us)):Binds K fd ps []:=λs us _ hl=>by rw[Vv]at hl ⊢;exact .of_eq (h us hl)
structure FnScope(N P:LS)(sc:Ur):Prop where
 kind:sc.kind=.function
 co:sc.isCoroutine=yw
 gen:sc.isGenerator=yw
 nd:N.Nodup
 pre:N.take P.length=P
 par:∀x∈P,sc.names.lookup x=yz .local\/sc.names.lookup x=yz .cell
 nofree:∀y∈sc.names,y.2≠.free
theorem Xkf{Vah:Str->Option Ven}{x:Str}:∀ {binds:List (Str×Vb)} {m:Str->OV},(∀v,(x,v) ∉ binds)->bindL Vah binds m x=m x
 |[],_,_=>rfl| (n,v)::r,m,h=>by
  unfold bindL;rw[Xkf λw J=>h w (Uv _ J)];split
  ·have:x≠n:=by rintro rfl;exact h v U3
   simp[this]
  rfl
theorem Xkg{Vah:Str->Option Ven}{x:Str}:∀ {binds:List (Str×Vb)} {m:Str->OV},(∀v,(x,v) ∉ binds)->bindC Vah binds m x=m x
 |[],_,_=>rfl| (n,v)::r,m,h=>by
  unfold bindC;rw[Xkg λw J=>h w (Uv _ J)];split;·rfl
  ·have:x≠n:=by rintro rfl;exact h v U3
   simp[this]
theorem Xkh{Vah:Str->Option Ven}{x:Str}{v:Vb}:∀ {P:LS} {vs:LV} {i:Nat} {m:Str->OV},P.Nodup->P[i]?=yz x->vs[i]?=yz v->Vah x=yz .local ->
  bindL Vah (P.zip vs) m x=yz v
 |[],_,_,_,_,h,_,_=>by simp at h|_::_,[],_,_,_,_,h,_=>by simp at h|p::P,w::vs,0,m,nd,h1,h2,hk=>by simp at h1 h2;subst h1;subst h2;show bindL Vah ((p,w)::P.zip vs) m p=_;unfold bindL;rw[Xkf λv J=>(Vfi.mp nd).1 (List.of_mem_zip J).1,iP0 hk];simp|p::P,w::vs,i+1,m,nd,h1,h2,hk=>by show bindL Vah ((p,w)::P.zip vs) m x=_;unfold bindL;exact Xkh (i:=i) (Vfi.mp nd).2 (by simpa using h1) (by simpa using h2) hk
theorem Xki{Vah:Str->Option Ven}{x:Str}{v:Vb}:∀ {P:LS} {vs:LV} {i:Nat} {m:Str->OV},P.Nodup->P[i]?=yz x->vs[i]?=yz v->Vah x≠yz .local ->
  bindC Vah (P.zip vs) m x=yz v
 |[],_,_,_,_,h,_,_=>by simp at h|_::_,[],_,_,_,_,h,_=>by simp at h|p::P,w::vs,0,m,nd,h1,h2,hk=>by simp at h1 h2;subst h1;subst h2;show bindC Vah ((p,w)::P.zip vs) m p=_;unfold bindC;rw[Xkg λv J=>(Vfi.mp nd).1 (List.of_mem_zip J).1,iN0 hk];simp|p::P,w::vs,i+1,m,nd,h1,h2,hk=>by show bindC Vah ((p,w)::P.zip vs) m x=_;unfold bindC;exact Xki (i:=i) (Vfi.mp nd).2 (by simpa using h1) (by simpa using h2) hk
noncomputable def start(N:LS)(vs:LW):St:=vs.map yz++Vg (N.length-ll vs) yy
noncomputable def Xqp(CX:CXT)(P:Ua)(w:Uq)(K:Ve)(mg:Str->OV)(base:Heap)(N:LS)(qual:Str)(scope:Ur)(f:Addr)(cd:Vb)(A:Uy)(outer:List Env)(s:Vc)(H:Hp)(E:XK):Cx where
 prog:=P
 w:=w
 K:=K
 mg:=mg
 base:=base
 A:=A.deeper (envOfC qual scope s.heap.objs.size f cd)
 N:=N
 s₀:=s
 H₀:=H
 env:=envOfC qual scope s.heap.objs.size f cd
 outer:=outer
 stack:=envOfC qual scope s.heap.objs.size f cd::outer
 ex:=[]
 calm:=yx
 fn:=λ_=>yx
 pn:=[]
 xe:=λe s'=>Vi (Vj P w) (A.deeper (envOfC qual scope s.heap.objs.size f cd)) (leaving (envOfC qual scope s.heap.objs.size f cd) e) (λ_ J=>CX outer H s E e J) (λL J=>CX outer H s E L J) s'
theorem Xl1{sc:Ur}{n:Nat}{x:Str}(h:sc.names.lookup x=yz .cell):∃c,(Va8 n sc.names []).lookup x=yz c:=by have q:=Veo sc.names n [] (.inl h);exact Vcm.mp q
theorem Xkj{CX:CXT}{P:Ua}{w:Uq}{K:Ve}{mg:Str->OV}{base:Heap}{N ps:LS}{qual:Str}{scope:Ur}{f:Addr}{cd:Vb}{A:Uy}{outer:List Env}{s s1:Vc}{H:Hp}{E:XK}{us:LV}{vs:LW}
  (S:FnScope N ps scope) (hd:A.handled=yy) (e0:Env0 P w K mg base A outer s H) (hl:(ll vs)=ll ps) (r:Vals vs us)
  (x:InCallC s s.heap.objs.size (bindL (envOfC qual scope s.heap.objs.size f cd).kindOf (ps.zip us) λ_=>yy) (Va8 (s.heap.objs.size+1) scope.names []) (bindC (envOfC qual scope s.heap.objs.size f cd).kindOf (ps.zip us) λ_=>yy) s1):
  Inv (Xqp CX P w K mg base N qual scope f cd A outer s H E) [] (start N vs) H s1:=by
 have aa:(ll ps)<=N.length:=by have:=congrArg Ud S.pre;rw[Vaa]at this;omega
 obtain⟨h1,tk,rfl,hk⟩:=x.done;have J:∀b:Addr,b ∉ (Xqp CX P w K mg base N qual scope f cd A outer s H E).ex:=λb z=>aB0 (show b∈([]:LR) from z) (by simp)
 refine⟨⟨e0.mod,S.kind,rfl,rfl,Vf _,λy z c h1 h2=>?_,λy L=>?_,λy c _ h=>?_,λ_=>hd,Around.frames_deeper e0.frames,.inr ⟨rfl,rfl⟩,λb z=>aB0 z (J b),e0.bs,e0.bsz,λb _ _=>J b,λb z=>aB0 z (J b),e0.funs,e0.frf⟩,
  rfl,e0.bare,Un.kept hk,⟨_,x.toInCall.ns,λi y v h1 h2 h3=>?_⟩,λy c h=>⟨_,x.cell y c h⟩,e0.hok.fresh (Vf _),λy c h=>?_,λp hp=>aB0 (show p∈([]:LA) from hp) (by simp),e0.hok.kept hk,?_⟩
 ·exact name_of_addr x.apart (Vb8 h1) (Vb8 h2)
 ·have L:scope.names.lookup y=yz .cell\/scope.names.lookup y=yz .free:=L;rcases L with L|L;·exact Xl1 L
  ·exact aB0 rfl (S.nofree _ (Vb8 L))
 ·exact Vd1 (x.above y c (Vb8 h))
 ·have hi:i<ll vs:=by
   unfold start at h2;by_cases hi:i<ll vs;·exact hi
   ·rw[Us (by simpa using hi)]at h2;rw[Vc3]at h2;split at h2<;>cases h2
  have ha:vs[i]?=yz v:=by
   unfold start at h2;rw[Vu (by simpa using hi),V6]at h2;cases e:vs[i]? with
   |none=>rw[e]at h2;cases h2|some a=>rw[e]at h2;cases h2;rfl
  obtain⟨u,hu,rv⟩:=r.get ha;have hp:ps[i]?=yz y:=by rw[<-S.pre,List.getElem?_take_of_lt (by omega)];exact h1
  have Y:ps.Nodup:=by rw[<-S.pre];exact S.nd.sublist (List.take_sublist _ _)
  refine⟨u,rv,?_⟩;rcases S.par y (U8 hp) with k|k;·exact .inl ⟨k,Xkh Y hp hu k⟩
  ·obtain⟨c,e⟩:=Xl1 (n:=s.heap.objs.size+1) k;refine .inr ⟨.inl k,c,e,?_⟩;have q:=x.cell y c e;rw[Xki Y hp hu (by show scope.names.lookup y≠_;rw[k];decide)]at q;exact q
 ·exact e0.hok.fresh (Vd1 (x.above y c (Vb8 h)))
 ·unfold start;show _=N.length;rw[V3,Vl,Vgn];omega
end L2
namespace L2
open PySem PySem.Spec PyProof.Rows
end L2
namespace HT
open PySem PyProof.Rows
section
variable{prog:Ua}{w:Uq}{A:Uy}{E:VP}{s:Vc}
theorem cat_tup{t b:Addr}{vs J:LV}{Q:VP}(ht:Vcl s.heap t vs.toArray)(hb:Vcl s.heap b J.toArray)(hv:vs≠[])
  (h1:J=[]->Q (.ref t) s) (h2:J≠[]->Q (.ref s.heap.objs.size) {s with heap:=s.heap.push {cls:=.type "tuple",data:=.seq (vs++J).toArray} })
  (ae:(ll vs)+ll J<=V0):Vi (Vj prog w) A (Vc9 .Add (.ref t) (.ref b)) Q E s:=by
 obtain⟨⟨cls,dd,data,sl⟩,ho,hc,n,hd⟩:=id ht;obtain⟨⟨af,Y,data2,ab⟩,L,ac,n2,aa⟩:=id hb;simp only at hc hd ac aa;subst hc hd ac aa;have e:vs.toArray++J.toArray=(vs++J).toArray:=by simp
 by_cases hw:J=[]
 ·exact concat_meets ⟨_,ho,rfl⟩ ⟨_,L,rfl⟩ noFill_tuple_add seq_tuple_add Vgd Vgb (Vfr _ _)
   (tuple_addW1 t b vs.toArray J.toArray n n2 dd Y sl ab (by simpa using hv) (by simp[hw])) ⟨ho,L,h1 hw⟩
 ·refine concat_meets ⟨_,ho,rfl⟩ ⟨_,L,rfl⟩ noFill_tuple_add seq_tuple_add Vgd Vgb (Vfr _ _)
   (tuple_addW2 t b vs.toArray J.toArray n n2 dd Y sl ab (by simpa using hv) (by simpa using hw) (by rw[Vn,Vn];exact ae)) ⟨ho,L,?_⟩
  rw[e];exact h2 hw
noncomputable def sIx(n d:Nat):Option Int->Nat
 |none=>d|some v=>if v<0 then (v+(n:Int)).toNat else min v.toNat n
theorem X3m(n d:Nat)(hd:d<=n)(o:Option Int):sIx n d o<=n:=by
 cases o with
 |none=>exact hd|some v=>
  show(if v<0 then (v+(n:Int)).toNat else min v.toNat n)<=n;by_cases J:v<0;·rw[iP0 J];omega
  ·rw[iN0 J];exact Nat.min_le_right _ _
theorem mnc(k n:Nat):min (k:Int) n=((min k n:Nat):Int):=by
 by_cases c:k<=n;·rw[Vcn c,Int.min_eq_left (Int.ofNat_le.mpr c)]
 ·rw[Nat.min_eq_right (Nat.le_of_not_le c),Int.min_eq_right (Int.ofNat_le.mpr (Nat.le_of_not_le c))]
theorem Xo2(v:Int)(n d:Nat):(if v<0 then max (v+(n:Int)) 0 else min v (n:Int))=((sIx n d (yz v):Nat):Int):=by
 show(if v<0 then max (v+(n:Int)) 0 else min v (n:Int))=(((if v<0 then (v+(n:Int)).toNat else min v.toNat n):Nat):Int);by_cases J:v<0;·simp only[iP0 J];exact(Int.toNat_eq_max _).symm
 ·simp only[iN0 J];obtain⟨k,rfl⟩:=Int.eq_ofNat_of_zero_le (Int.not_lt.mp J);rw[Van,mnc]
theorem Xqq(lo hi:Option Int)(n:Nat):Vfj lo hi 1 (n:Int)=(((sIx n 0 lo:Nat):Int),((sIx n n hi:Nat):Int)):=by
 have h1:¬ ((1:Int)<0):=by omega
 unfold Vfj;simp only[h1,if_false];refine Prod.ext ?_ ?_
 ·cases lo with
  |none=>rfl|some v=>exact Xo2 v n 0
 cases hi with
 |none=>rfl|some v=>exact Xo2 v n n
theorem Xqr(i j:Nat):Vdx (i:Int) (j:Int) 1=j-i:=by
 unfold Vdx;have h1:(1:Int)>0:=by omega
 simp only[h1,if_true,Int.ediv_one];split<;>omega
theorem slicePart_{v:Vb}{o:Option Int}{Q:Option Int->Vc->Prop}(p:Veu v o)(h:Q o s):Vi (Vj prog w) A (Builtin.Slice.slicePartIndex v) Q E s:=by
 cases p with
 |none=>exact slicePart_none h|int i t=>exact slicePart_int h
theorem sliceApplied_gen{sl:Addr}{vl Y:Vb}{lo hi:Option Int}{n:Nat}{Q:Int×Int×Nat->Vc->Prop}(hs:s.heap.IsSliceOf sl vl Y .none)(pl:Veu vl lo)(pu:Veu Y hi)
  (h:Q (((sIx n 0 lo:Nat):Int),1,sIx n n hi-sIx n 0 lo) s):Vi (Vj prog w) A (Vdm (.ref sl) (pure (n:Int))) Q E s:=by
 obtain⟨os,J,aa,L⟩:=id hs;unfold Vdm Vhy;refine Va (Va (Vaj J L (x:=vl) rfl (Va (Vaj J L (x:=Y) rfl (Va (Vaj J L (x:=.none) rfl (Vh ?_)))))));refine Va (slicePart_none ?_);show Vi _ _ (if ((1:Int)==0)=yx then _ else _) _ _ s;rw[iN0 (by decide)];refine Va (slicePart_ pl (Va (slicePart_ pu (Va (Vh ?_)))));show Vi _ _ (match Vfj lo hi 1 (n:Int) with|(lo,hi)=>pure (lo,(1:Int),Vdx lo hi 1)) _ _ s;rw[Xqq lo hi n];show Vi _ _ (pure (((sIx n 0 lo:Nat):Int),(1:Int),Vdx ((sIx n 0 lo:Nat):Int) ((sIx n n hi:Nat):Int) 1)) _ _ s;rw[Xqr];exact Vh h
theorem Xvv(xs:AV)(i k:Nat):((Vm k).filterMap λ(m:Nat)=>xs[((i:Int)+(m:Int)*1).toNat]?).toArray=((xs.toList.drop i).take k).toArray:=by
 have e:(λ(m:Nat)=>xs[((i:Int)+(m:Int)*1).toNat]?)=λm=>xs[i+m]?:=by
  funext m;have:((i:Int)+(m:Int)*1).toNat=i+m:=by omega
  rw[this]
 rw[e];have:=pick_run xs i k;rw[Vhf]at this;have J:((λx=>xs[x]?)∘λx=>i+x)=λm=>xs[i+m]?:=rfl;rw[J]at this;rw[this]
theorem getItem_tuple_cut{t sl:Addr}{items:AV}{vl vu:Vb}{lo hi:Option Int}{Q:VP}(L:Vcl s.heap t items)(hs:s.heap.IsSliceOf sl vl vu .none)(pl:Veu vl lo)(pu:Veu vu hi)
  (hw:¬ (sIx items.size 0 lo=0/\sIx items.size items.size hi=items.size))
  (h:Q (.ref s.heap.objs.size) {s with heap:=s.heap.push {cls:=.type "tuple",data:=.seq ((items.toList.drop (sIx items.size 0 lo)).take (sIx items.size items.size hi-sIx items.size 0 lo)).toArray} })
  (ac:items.size<=V0):Vi (Vj prog w) A (getItem (.ref t) (.ref sl)) Q E s:=by
 have J:sizeOk (.seq ((items.toList.drop (sIx items.size 0 lo)).take (sIx items.size items.size hi-sIx items.size 0 lo)).toArray):=by show((items.toList.drop (sIx items.size 0 lo)).take (sIx items.size items.size hi-sIx items.size 0 lo)).toArray.size<=V0;rw[Vn,Vaa,Vd2,U7];exact V4 (Nat.min_le_right _ _) (V4 (Nat.sub_le _ _) ac)
 have hj:sIx items.size items.size hi<=items.size:=X3m _ _ (Vf _) hi;obtain⟨os,ab,Y,af⟩:=id hs;have ae:s.TypeIs (.ref sl) "slice" := ⟨os,ab,Y⟩;unfold getItem
 try with_reducible refine Vas ?_
 first|refine Va (Vh ?_)|skip
 refine Va (Vhr L.typeIs (by decide) ?_)
 refine Va (Vba (name:=Val "__getitem__") L.typeIs Vay
  (Vat Vay L.typeIs Vg6 ?_ (Vhg _ _)))
 show Vi _ _ (Ve9 (.ref t) >>= _) _ _ s;refine Va (tupleItemsOf_ L ?_);refine Va (Vdg ae ?_);rw[iP0 (by decide)];refine Va (sliceApplied_gen hs pl pu ?_);have aa:¬ ((((sIx items.size 0 lo:Nat):Int)==0&&(1:Int)==1&&(sIx items.size items.size hi-sIx items.size 0 lo)==items.size)=yx):=by intro q;rw[bA0,bA0]at q;have q1:((sIx items.size 0 lo:Nat):Int)=0:=eq_of_beq q.1.1;have q2:sIx items.size items.size hi-sIx items.size 0 lo=items.size:=eq_of_beq q.2;exact hw ⟨by omega,by omega⟩
 show Vi _ _ (if (((sIx items.size 0 lo:Nat):Int)==0&&(1:Int)==1&&(sIx items.size items.size hi-sIx items.size 0 lo)==items.size)=yx then _ else _) _ _ s;rw[iN0 aa,Xvv]
 first
  |exact Va (m:=Vbs _) (Va5 (Vh ⟨_,rfl,Vh h⟩) J)|exact Va (m:=Vbs _) (Va5 (Va (Vh (Vh ⟨_,rfl,Vh h⟩))) J)|exact Va (Va (m:=Vbs _) (Va5 (Vh (Vh ⟨_,rfl,Vh h⟩)) J))|exact Va (Va (m:=Vbs _) (Va5 (Vh ⟨_,rfl,Vh h⟩) J))
end
end HT
namespace L2
open PySem PySem.Spec PyProof.Rows
section
variable{lo hi:Option Expr}
noncomputable def Xis(xs:LW)(lo hi:Option Int):LW:=(xs.drop (HT.sIx (ll xs) 0 lo)).take (HT.sIx (ll xs) (ll xs) hi-HT.sIx (ll xs) 0 lo)
theorem Xgt(xs:LW)(lo hi:Option Int):(Xis xs lo hi).length<=ll xs:=by unfold Xis;rw[Vaa,Vd2];exact V4 (Nat.min_le_right _ _) (Nat.sub_le _ _)
end
end L2
namespace L2
open PySem PySem.Spec PyProof.Rows
noncomputable def ixN(n:Nat)(i:Int):Option Nat:=if 0<=i then (if i<n then yz i.toNat else yy) else if-(n:Int)<=i then yz (i+n).toNat else yy
noncomputable def atI{α:Type}(xs:List α)(i:Int):Option α:=(ixN (ll xs) i).bind λj=>xs[j]?
theorem Xo3{n:Nat}{i:Int}{j:Nat}(h:ixN n i=yz j):seqIndex? i n=yz j/\j<n/\-(n:Int)<=i/\i<n:=by
 unfold ixN at h;by_cases h0:0<=i
 ·rw[iP0 h0]at h;by_cases h1:i<n;·rw[iP0 h1]at h;have e:i.toNat=j:=Uw h;exact⟨by rw[seqIndex_of h0 h1,e],by omega,by omega,h1⟩
  ·rw[iN0 h1]at h;cases h
 rw[iN0 h0]at h;by_cases h1:-(n:Int)<=i;·rw[iP0 h1]at h;have e:(i+n).toNat=j:=Uw h;exact⟨by rw[seqIndex_neg (by omega) h1,e],by omega,h1,by omega⟩
 ·rw[iN0 h1]at h;cases h
theorem Xo4{α:Type}{xs:List α}{i:Int}{v:α}(h:atI xs i=yz v):∃j,seqIndex? i (ll xs)=yz j/\xs[j]?=yz v/\j<ll xs/\-(ll xs:Int)<=i/\i<ll xs:=by
 unfold atI at h;cases e:ixN (ll xs) i with
 |none=>rw[e]at h;cases h|some j=>rw[e]at h;obtain⟨h1,h2,L,J⟩:=Xo3 e;exact⟨j,h1,h,h2,L,J⟩
def Xit(b:Expr):Prop:=∀o i,subscripted b yw o i=operate [o,i] (getItem o i)
def IxR(X:Cx)(r:R2):Prop:=
 ∀(value J:Expr) (pc:LA) (s:Vc) (σ:St) (H:Hp) (x y:V) (v u:Vb) (Q:VK),Inv X pc σ H s->RelV x v->RelV y u->r x y H Q ->
  subscripted J yw v u=operate [v,u] (getItem v u)->Vi (Vj X.prog X.w) X.A (Vfa value J v u) (EP X pc σ Q) X.xe s
section
variable{X:Cx}{a b:Expr}
noncomputable def Yau(K:Ve):R2:=λx y H Q=>∃p xs i v,x=.ref p/\y=.int i/\SqL K H p xs/\atI xs i=yz v/\Q v H
noncomputable def Yav(K:Ve):R2:=λx y H Q=>∃p xs i v,x=.ref p/\y=.int i/\SqT K H p xs/\atI xs i=yz v/\Q v H
theorem Xzw:IxR X (Yau X.K):=by
 intro value aa pc s σ H x y v u Q I rx ry h hs;obtain⟨p,xs,i,z,rfl,rfl,hq,he,q⟩:=h;cases rx;obtain⟨t,rfl⟩:=ry;obtain⟨its,r,L,hz⟩:=I.list hq;obtain⟨j,h1,h2,h3,h4,h5⟩:=Xo4 he;obtain⟨w,ew,J⟩:=r.get h2;have hl:=r.length;have hn:=Xep;have fin:EP X pc σ Q w s:=⟨z,H,I,J,q⟩;by_cases h0:0<=i
 ·have Y:i.toNat=j:=by
   rw[seqIndex_of h0 h5]at h1;exact Uw h1
  exact item_listR L.isList h0 (by omega) (by rw[Y];simpa using ew) fin hs
 have Y:(i+(its.toArray.size:Int)).toNat=j:=by rw[seqIndex_neg (by omega) h4]at h1;rw[Vn,<-hl];exact Uw h1
 exact subscriptTail_builtinR (x:=w) L.isList.typeIs slot_list_getitem.lookup
  (wpAny_getItem_list_neg (Q:=λr s'=>r=w/\EP X pc σ Q r s') L.isList (by omega) (by rw[Vn]<;>omega) (by omega) (by rw[Y];simpa using ew) ⟨rfl,fin⟩) hs
theorem X3n:IxR X (Yav X.K):=by
 intro value L pc s σ H x y v u Q I rx ry h hs;obtain⟨p,xs,i,z,rfl,rfl,hq,he,q⟩:=h;cases rx;obtain⟨t,rfl⟩:=ry;obtain⟨its,r,Y,hz⟩:=I.tuple hq;obtain⟨j,h1,h2,h3,h4,h5⟩:=Xo4 he;obtain⟨w,ew,J⟩:=r.get h2;have hl:=r.length;have hn:=Xep;have fin:EP X pc σ Q w s:=⟨z,H,I,J,q⟩;exact subscriptTail_builtinR (x:=w) Y.typeIs slot_tuple_getitem.lookup
  (getItem_tuple (j:=j) (Q:=λr s'=>r=w/\EP X pc σ Q r s') Y (by omega) (by omega) (by rw[Vn,<-hl];exact h1) (by simpa using ew) ⟨rfl,fin⟩) hs
theorem Xqs(its:LV)(n j:Nat)(u:Vb):Vz (·.setIfInBounds j u) {cls:=.type "list",data:=.seq its.toArray n}={cls:=.type "list",data:=.seq (its.set j u).toArray n}:=by simp[Vz]
theorem Inv.lst{pc:LA}{σ:St}{H:Hp}{s:Vc}{p:Addr}{xs:LW}(I:Inv X pc σ H s)(h:H p=yz (.lst xs)):
  ∃(its:LV) (n:Nat),Vals xs its/\s.heap.get? p=yz {cls:=.type "list",data:=.seq its.toArray n}/\(ll xs)<=V0:=by
 obtain⟨z,its,n,r,e⟩:=I.hok p _ h;exact⟨its,n,r,e,z⟩
theorem Inv.lstUpd{pc:LA}{σ:St}{H:Hp}{s:Vc}{p:Addr}{xs ys:LW}{its its':LV}{n J:Nat}{f:Obj->Obj}(I:Inv X pc σ H s)(h:H p=yz (.lst xs))
  (L:s.heap.get? p=yz {cls:=.type "list",data:=.seq its.toArray n}) (hf:f {cls:=.type "list",data:=.seq its.toArray n}={cls:=.type "list",data:=.seq its'.toArray J }) (r:Vals ys its') (hz:(ll ys)<=V0) (t:Nat):
  Inv X pc σ (upd H p (.lst ys)) {s with heap:=s.heap.update p f,toks:=t}:=by
 have e:(s.heap.update p f).get? p=yz {cls:=.type "list",data:=.seq its'.toArray J }:=by rw[Vcf f L (by rw[hf]<;>rfl),hf]
 refine I.write (x:=p) (e:=p) (by rw[h];trivial) (.inl rfl) (λb u hb q=>(Vca _ _ (Ne.symm hb)).trans q) ⟨_,e⟩ ?_;exact⟨hz,its',J,r,e⟩
def X8m:V->V->V->Hp->(Hp->Prop)->Prop:=λo i v H Q=>∃p xs k j,o=.ref p/\i=.int k/\H p=yz (.lst xs)/\ixN (ll xs) k=yz j/\Q (upd H p (.lst (xs.set j v)))
theorem Xvw:Yar X X8m:=by
 intro pc s σ H o i v ov iv u Q I ro ri rv h;obtain⟨p,xs,k,j,rfl,rfl,hp,hj,q⟩:=h;cases ro;obtain⟨t,rfl⟩:=ri;obtain⟨its,n,r,J,hz⟩:=I.lst hp;obtain⟨h1,h2,L,h4⟩:=Xo3 hj;have hl:=r.length;have hn:=Xep;have Y:Inv X pc σ (upd H p (.lst (xs.set j v))) {s with heap:=s.heap.update p (Vz (·.setIfInBounds j u))}:=
  I.lstUpd hp J (Xqs its n j u) (r.set rv j) (by rw[List.length_set];exact hz) s.toks
 by_cases h0:0<=k
 ·have hk:k.toNat=j:=by
   rw[seqIndex_of h0 h4]at h1;exact Uw h1
  exact PySem.W.ki_setAt J h0 (by omega) (by rw[Vn,<-hl];exact h4) (by rw[hk];exact⟨_,Y,q⟩)
 have hk:(k+(its.toArray.size:Int)).toNat=j:=by rw[seqIndex_neg (by omega) L]at h1;rw[Vn,<-hl];exact Uw h1
 exact PySem.W.ki_setBack J (by omega) (by rw[Vn,<-hl];exact L) (by omega) (by rw[hk];exact⟨_,Y,q⟩)
theorem Xy3(i:Int)(n d:Nat):max 0 (min (if i<0 then i+(n:Int) else i) n)=((HT.sIx n d (yz i):Nat):Int):=by
 show _=(((if i<0 then (i+(n:Int)).toNat else min i.toNat n):Nat):Int);by_cases h:i<0;·rw[iP0 h,iP0 h,Int.min_eq_left (by omega),Int.max_comm,<-Int.toNat_eq_max]
 ·rw[iN0 h,iN0 h];obtain⟨k,rfl⟩:=Int.eq_ofNat_of_zero_le (Int.not_lt.mp h);rw[Van,HT.mnc,Int.max_eq_right (Int.natCast_nonneg _)]
theorem Xl2(lo hi:Option Int)(n:Nat):(Vde lo hi yy n).1=((HT.sIx n 0 lo:Nat):Int)/\(Vde lo hi yy n).2.1=((HT.sIx n n hi:Nat):Int)/\(Vde lo hi yy n).2.2=1:=by
 refine⟨?_,?_,rfl⟩
 ·cases lo with
  |none=>simp[Vde,HT.sIx]|some i=>exact Xy3 i n _
 cases hi with
 |none=>simp[Vde,HT.sIx]|some i=>exact Xy3 i n _
theorem Xk6(its:LV)(lo hi:Option Int):slicePick its.toArray lo hi yy=((its.drop (HT.sIx (ll its) 0 lo)).take (HT.sIx (ll its) (ll its) hi-HT.sIx (ll its) 0 lo)).toArray:=by obtain⟨h1,h2,J⟩:=Xl2 lo hi its.toArray.size;unfold slicePick;rw[h1,h2,J];simp only[sliceRange_one,pick_run,Vn]<;>rfl
theorem Xl3:Xfo X (.builtin "len") (λxs H Q=>∃p ys,xs=[.ref p]/\(SqL X.K H p ys\/SqT X.K H p ys)/\Q (.int (ll ys)) H):=by
 intro pc s σ H xs us Q I r h;obtain⟨p,ys,rfl,L,q⟩:=h;obtain⟨u,rfl,rx⟩:=Xqo r;cases rx;have hn:=Xep;rcases L with L|L;·obtain⟨its,r',Y,hz⟩:=I.list L;have J:=r'.length;exact Calls.call_len_list Y.isList (by simp only[Vn]<;>omega) ⟨.int (ll ys),H,I.tok _,⟨s.toks+1,by rw[Vn,J]⟩,q⟩
 ·obtain⟨its,r',Y,hz⟩:=I.tuple L;have J:=r'.length;exact len_tuple Y (by simp only[Vn]<;>omega) ⟨.int (ll ys),H,I.tok _,⟨s.toks+1,by rw[Vn,J]⟩,q⟩
theorem Xl4:Xfo X (.type "list") (λxs H Q=>∃p ys,xs=[.ref p]/\(SqL X.K H p ys\/SqT X.K H p ys)/\∀l,H l=yy->Q (.ref l) (upd H l (.lst ys))):=by
 intro pc s σ H xs us Q I r h;obtain⟨p,ys,rfl,hq,q⟩:=h;obtain⟨u,rfl,rx⟩:=Xqo r;cases rx;have fin:∀(its:LV),Vals ys its->ll ys<=V0->∀(h':Heap) (J:Nat),(∀b o',s.heap.get? b=yz o'->h'.get? b=yz o') ->
   h'.get? s.heap.objs.size=yz {cls:=.type "list",dict:=yy,data:=.seq its.toArray J,slots:=#[]}->EP X pc σ Q (.ref s.heap.objs.size) {s with heap:=h' }:=λits L hz h' J kp e=>
  ⟨.ref s.heap.objs.size,_,I.laid (t':=s.toks) kp (Vf _) (show ObjOk X.prog X.w _ h' _ (.lst ys) from⟨hz,its,J,L,e⟩),rfl,q _ (I.hok.fresh (Vf _))⟩
 rcases hq with hq|hq;·obtain⟨its,L,pl,hz⟩:=I.list hq;have Y:=L.length;obtain⟨o,ho,hc,n,hd⟩:=pl.isList;exact call_list_seq p (.inl rfl) ho hc hd (λh' J kp e=>fin its L hz h' J kp e) (by simp only[Vn]<;>omega)
 ·obtain⟨its,L,pl,hz⟩:=I.tuple hq;have Y:=L.length;obtain⟨o,ho,hc,n,hd⟩:=pl;exact call_list_seq p (.inr rfl) ho hc hd (λh' J kp e=>fin its L hz h' J kp e) (by simp only[Vn]<;>omega)
theorem Xem:Xfo X (.type "tuple") (λxs H Q=>∃p ys,xs=[.ref p]/\((SqL X.K H p ys/\∀l,H l=yy->Q (.ref l) (upd H l (.tup ys)))\/(SqT X.K H p ys/\Q (.ref p) H))):=by
 intro pc s σ H xs us Q I r h;obtain⟨p,ys,rfl,h⟩:=h;obtain⟨u,rfl,rx⟩:=Xqo r;cases rx;rcases h with⟨hq,q⟩|⟨hq,q⟩
 ·obtain⟨its,L,J,hz⟩:=I.list hq;have aa:=L.length;refine call_tuple_list J.isList (λh' kp=>?_) (by simp only[Vn]<;>omega);have Y:Inv X pc σ H {s with heap:=h' }:=I.kept (t':=s.toks) kp;have I2:Inv X pc σ (upd H h'.objs.size (.tup ys)) {s with heap:=h'.push {cls:=.type "tuple",data:=.seq its.toArray} }:=
   Y.laid (t':=s.toks) (λb o e=>Vo _ e) (Vf _) (show ObjOk X.prog X.w _ _ _ (.tup ys) from⟨hz,its,L,IsTup.new _ _⟩)
  exact⟨.ref h'.objs.size,_,I2,rfl,q _ (Y.hok.fresh (Vf _))⟩
 obtain⟨its,L,J,hz⟩:=I.tuple hq;exact call_tuple_same J ⟨.ref p,H,I,rfl,q⟩
variable{e:Expr}
/- xs.append(e),list.index on a module's tuple .. are MtR facts of 06m -/
end
end L2
namespace L2
open PySem PySem.Spec PyProof.Rows
def MtM(X:Cx)(id:String)(r:V->LW->Hp->VK->Prop):Prop:=
 ∀(pc:LA) (s:Vc) (σ:St) (H:Hp) (x:V) (xs:LW) (v:Vb) (us:LV) (Q:VK),Inv X pc σ H s->RelV x v->Vals xs us->r x xs H Q ->
  Vi (Vj X.prog X.w) X.A (call (.builtin id) (v::us)) (EP X pc σ Q) X.xe s
theorem Vals.one:∀ {x:V} {us:LV},Vals [x] us->∃u,us=[u]/\RelV x u
 |_,_,h=>by cases h with|cons r t=>cases t;exact⟨_,rfl,r⟩
theorem Vals.rep{xs:LW}{us:LV}(h:Vals xs us):∀k:Nat,Vals (Vg k xs).flatten (Vg k us).flatten
 |0=>.nil|k+1=>by rw[Var,Var,Vau,Vau];exact Vals.append h (Vals.rep h k)
theorem Xkk(its:LV):∀(k:Nat) (acc:LV),
  Vgr (λx1 x2=>x1++x2) acc.toArray (Vg k its.toArray)=(acc++(Vg k its).flatten).toArray
 |0=>λacc=>by simp|k+1=>λacc=>by
  have e:acc.toArray++its.toArray=(acc++its).toArray:=by simp
  have J:(acc++its)++(Vg k its).flatten=acc++(Vg (k+1) its).flatten:=by rw[Var,Vau,Vt]
  rw[<-J,<-Xkk its k (acc++its),<-e,Var,Vgs]
section
variable{X:Cx}{pc:LA}{σ:St}{H:Hp}{s:Vc}{l b:Addr}{xs ys zs:LW}
theorem Inv.lset{its its':LV}{n:Nat}{f:AV->AV}{t':Nat}(I:Inv X pc σ H s)(Y:H l=yz (.lst xs))
  (e:s.heap.get? l=yz {cls:=.type "list",data:=.seq its.toArray n}) (hf:f its.toArray=its'.toArray) (J:Vals ys its') (hz:(ll ys)<=V0):
  Inv X pc σ (upd H l (.lst ys)) {s with heap:=s.heap.update l (Vz f),toks:=t' }:=by
 have q:=PySem.IsL.update e f;rw[hf]at q;refine I.write (x:=l) (e:=l) (by rw[Y];exact trivial) (.inl rfl) (λb' u hb L=>(Vca s.heap (Vz f) (Ne.symm hb)).trans L) ⟨_,q⟩ ?_;exact⟨hz,its',_,J,q⟩
theorem Inv.lnew{its:LV}{t':Nat}(I:Inv X pc σ H s)(J:Vals ys its)(hz:(ll ys)<=V0):
  Inv X pc σ (upd H s.heap.objs.size (.lst ys)) {s with heap:=s.heap.push {cls:=.type "list",data:=.seq its.toArray},toks:=t' }:=
 I.laid (λ_ _ q=>Vo _ q) (Vf _) ⟨hz,its,0,J,Vw _ rfl⟩
theorem Inv.fresh(I:Inv X pc σ H s):H s.heap.objs.size=none:=I.hok.fresh (Vf _)
theorem Inv.lstM(I:Inv X pc σ H s)(J:H l=yz (.lst xs)):(ll xs)<=V0/\∃(its:LV) (n:Nat),Vals xs its/\(ll xs)=ll its/\s.heap.get? l=yz {cls:=.type "list",data:=.seq its.toArray n}:=by obtain⟨z,its,n,r,e⟩:=I.hok l _ J;exact⟨z,its,n,r,r.length,e⟩
theorem Xg1{n:Nat}(h:n<=V0):Vco n=false:=by unfold Vco;exact decide_eq_false (by omega)
def Xzx:V->LW->Hp->VK->Prop:=λx vs H Q=>∃l xs y,x=.ref l/\vs=[y]/\H l=yz (.lst xs)/\(ll xs)<V0/\Q .non (upd H l (.lst (xs++[y])))
theorem Xkl:MtM X "list.append" Xzx:=by intro pc s σ H x vs v us Q I L rv h;obtain⟨l,xs,y,rfl,rfl,J,hz,q⟩:=h;cases L;obtain⟨u,rfl,Y⟩:=rv.one;obtain⟨z,its,n,r,hl,e⟩:=I.lstM J;refine Vec F.slot_list_append ⟨_,e,rfl⟩ F.entry_list_append (F.args_list_append_2 _ _) (PySem.list_append l its.toArray n u (by rw[Vn];omega)) ⟨e,?_⟩;refine⟨.non,_,I.lset (its':=its++[u]) J e (by simp) (r.append (.cons Y .nil)) ?_,rfl,q⟩;rw[V3,Vgo];omega
def Xzy:V->LW->Hp->VK->Prop:=λx vs H Q=>∃l b xs zs,x=.ref l/\vs=[.ref b]/\H l=yz (.lst xs)/\H b=yz (.lst zs)/\(ll xs)+ll zs<=V0/\Q .non (upd H l (.lst (xs++zs)))
theorem Xsj:MtM X "list.extend" Xzy:=by
 intro pc s σ H x vs v us Q I rx rv h;obtain⟨l,b,xs,zs,rfl,rfl,hH,hB,hz,q⟩:=h;cases rx;obtain⟨u,rfl,ru⟩:=rv.one;cases ru;obtain⟨z,its,n,r,hl,e⟩:=I.lstM hH;obtain⟨z2,J,n2,r2,aa,e2⟩:=I.lstM hB;have Y:its.toArray.size+J.toArray.size<=V0:=by rw[Vn,Vn];omega
 have L:¬ (!its.toArray.isEmpty&&Vco (its.toArray.size+J.toArray.size))=true:=by rw[Xg1 Y,Vf2];exact Uu
 refine Vec F.slot_list_extend ⟨_,e,rfl⟩ F.entry_list_extend (F.args_list_extend_2 _ _)
  (AutoSeq1.list_extend_list_list_0 l its.toArray n b J.toArray n2 L (by rw[Vn];omega) (by omega)) ⟨e,e2,?_⟩
 refine⟨.non,_,I.lset (its':=its++J) hH e (by simp) (r.append r2) ?_,rfl,q⟩;rw[V3];omega
noncomputable def Yaw:R2:=λx y H Q=>∃l b xs zs,x=.ref l/\y=.ref b/\H l=yz (.lst xs)/\H b=yz (.lst zs)/\(ll xs)+ll zs<=V0/\∀p,H p=yy->Q (.ref p) (upd H p (.lst (xs++zs)))
theorem X3o:OpR X (Vc9 .Add) Yaw:=by
 intro pc s σ H x y v u Q I Y ry h;obtain⟨l,b,xs,zs,rfl,rfl,hH,hB,hz,q⟩:=h;cases Y;cases ry;obtain⟨z,its,n,r,hl,e⟩:=I.lstM hH;obtain⟨z2,J,n2,r2,L,e2⟩:=I.lstM hB;refine PySem.P.add_list e e2 ?_ (by rw[Vn,Vn];omega);have ea:its.toArray++J.toArray=(its++J).toArray:=by simp
 rw[ea];exact⟨.ref _,_,I.lnew (t':=s.toks) (r.append r2) (by rw[V3];omega),rfl,q _ I.fresh⟩
noncomputable def Yax:R2:=λx y H Q=>∃l k xs,x=.ref l/\y=.int k/\H l=yz (.lst xs)/\-(2^63)<=k/\k<2^63/\(ll xs)*k.toNat<=V0 /\
 ∀p,H p=yy->Q (.ref p) (upd H p (.lst (Vg k.toNat xs).flatten))
theorem Xiu{α:Type}(xs:List α)(k:Nat):(Vg k xs).flatten.length=k*ll xs:=by
 induction k with
 |zero=>simp|succ k ih=>rw[Var,Vau,V3,ih,Vgt,Nat.add_comm]
theorem X3p:OpR X (Vc9 .Mult) Yax:=by
 intro pc s σ H x y v u Q I rx ry h;obtain⟨l,k,xs,rfl,rfl,hH,h1,h2,hz,q⟩:=h;cases rx;obtain⟨t,rfl⟩:=ry;obtain⟨z,its,n,r,hl,e⟩:=I.lstM hH;have aa:its.toArray.size*k.toNat<=V0:=by rw[Vn,<-hl];exact hz
 have ab:¬ its.toArray.size*k.toNat>(2^63-1)/8:=by
  have:(V0:Nat)<=(2^63-1)/8:=by decide
  omega
 have L:¬ (!Builtin.List.listFitsIndex k)=true:=by rw[fitsIndex_both h1 h2];exact Uu
 have J:¬ Vco (its.toArray.size*k.toNat)=true:=by rw[Xg1 aa];exact Uu
 have Y:Vgr (λx1 x2=>x1++x2) #[] (Vg (if its.toArray.isEmpty=yx then 0 else k.toNat) its.toArray)=(Vg k.toNat its).flatten.toArray:=by
  have f0:∀m:Nat,Vgr (λx1 x2=>x1++x2) #[] (Vg m its.toArray)=(Vg m its).flatten.toArray:=λm=>by have:=Xkk its m [];rw[Uz]at this;exact this
  rw[f0];cases its with
  |nil=>simp|cons a r'=>rw[iN0 (by simp)]
 refine Vhz (T:="list") (U:="int") (by decide) ⟨_,e,rfl⟩ (λs'=>typeIs_int s' k t) noFill_list_mul F.fills_int_mul F.slot_int_rmul repeat_list F.slot_int_index.lookup
  (Vec F.slot_int_rmul (typeIs_int s k t) F.entry_int_rmul (F.args_int_rmul_2 _ _) (int___rmul___int_list k t l its.toArray n)
   ⟨e,rfl,⟨_,e,rfl⟩,Vec F.slot_list_mul ⟨_,e,rfl⟩ F.entry_list_mul (F.args_list_mul_2 _ _) (AutoListH.list___mul___list_int_3 l its.toArray n k t L ab J) ⟨e,?_⟩⟩)
 rw[Y];exact⟨.ref _,_,I.lnew (t':=s.toks) (r.rep k.toNat) (by rw[Xiu,Vev];exact hz),rfl,q _ I.fresh⟩
end
end L2
namespace Att
open PySem PySem.W PySem.Calls PyProof.Rows
theorem Xht{P:Params}{h:Heap}:∀(ns:LI) (vs:LV),WellAll P h vs (ns.map WData.int)->Va0 vs ns:=by
 intro ns;induction ns with
 |nil=>intro vs w;rw[Vcp]at w;cases w;exact .nil|cons n ns ih=>
  intro vs w;rw[U6]at w;cases w with
  |cons a b=>cases a;exact .cons _ _ (ih _ b)
theorem Xsk{l:OpenLaw}{n:Nat}(hn:l.most=yz n){P:Params}{h:Heap}{args:List WData}{L:LV}
  (J:l.row.toRowW.claim.pre args=yx) (ab:WellAll P h L args):
  ∃a vs ns,L=[Vcd a]/\args=[WData.list (ns.map WData.int)]/\h.get? a=yz {cls:=.type "list",data:=.seq vs.toArray}/\Va0 vs ns/\(ll ns)<=n:=by
 have ac:WShape.hasAll [] args [.list .int]=true:=(pre_splitW J).1;have hc:l.pre.holds [] {args:=args}=true:=(pre_splitW J).2;obtain⟨d,r,rfl,h1,h2⟩:=hasAllW_cons ac;obtain rfl:=hasAllW_nil h2;obtain⟨xs,rfl,h3⟩:=hasW_list h1;obtain⟨ns,rfl⟩:=items_int h3;have Y:(ll ns)<=n:=by
  unfold OpenLaw.pre at hc;have h4:(WTm.not (.lt (.lit (.int (n:Int))) (.len (.arg 0)))).holds [] {args:=[.list (ns.map .int)]}=true:=by have h4:=(holds_andW hc).1;rw[hn]at h4;exact h4
  have h5:=condW_of h4 (w_not (w_lt w_lit (w_len_list (w_arg rfl))));rw[Vl]at h5;refine Nat.le_of_not_lt λq=>?_;have q':(n:Int)<((ll ns:Nat):Int):=by omega
  first
   | (rw[decide_eq_true q']at h5;exact aB0 h5 (by decide))| (simp at h5;omega)
 cases ab with
 |cons w1 w2=>
  cases w2;cases w1 with
  |list ho aa=>exact⟨_,_,ns,rfl,rfl,ho,Xht ns _ aa,Y⟩
theorem Xsl(l:OpenLaw)(args:List WData):l.row.toRowW.claim.post args (.bool yx) args=true:=
 postW_of (r:=l.row.toRowW) (X:=(yx==yx))
  (show WShape.has [] (.bool yx) .bool=yx by first|rfl|decide|simp[WShape.has,WShape.arms,WShape.armsAll])
  (show(WTm.eq .res (.lit (.bool yx))).value [] {args:=args,res:=yz (.bool yx),after:=args}=yz (.bool (yx==yx)) from w_eq_bool (w_res rfl) w_lit) rfl
theorem attach_call{l:OpenLaw}{n:Nat}{q:Ua}{loose:LS}{XP:(Str->OV)->Heap->Prop}{YP:Uq->Heap->Prop}{d:DefRec}
  (hn:l.most=yz n) (ah:d.params.defaults=[])
  (call:∀(w:Uq) (s₀ J:Vc) (mg mb:Str->OV) (fa:Addr) (o:Obj) (pm cd aa:Vb) (a:Addr) (vs:LV) (ns:LI),
   Ground q loose [] XP w s₀ mg mb J.heap->YP w J.heap ->
   J.heap.get? fa=yz o->o.data=.func (docDef d.name d.params d.body d.scope pm cd aa)->J.heap.CodeRec cd d.name->mg d.name=yz (.ref fa) ->
   J.heap.get? a=yz {cls:=.type "list",data:=.seq vs.toArray}->Va0 vs ns->ll ns<=n->J.gens=#[] ->
   Vdh (Vj l.prog w) callerA (.call (.ref fa) ⟨[.ref a],[]⟩) (λr s'=>r=.ok (.ret (.bool yx))/\OldK J.heap s'.heap/\s'.os=J.os/\AllBare s'.gens) J):
  WalkO q loose XP YP l.row.toRowW d [] (λf vs=>PySem.call f vs):=by
 intro w s₀ J mg mb G Y fa o pm cd aa dV kV ho hd af hD aj hg al ak as ac am an ai ao;obtain rfl:dV=.none:=Dflts.none hD ah;obtain rfl:kV=.none:=Dflts.noKw hD;obtain⟨a,vs,ns,rfl,rfl,ab,L,ae⟩:=Xsk hn ac ai;refine enter_call (Vfs (call w s₀ J mg mb fa o pm cd aa a vs ns G Y ho (fd_plain hd) af aj ab L ae hg) λr s' hq=>?_);obtain⟨rfl,h2,h3,h4⟩:=hq;exact⟨.inl ⟨.bool yx,.bool yx,[],rfl,λ_=>rfl,.bool yx,Xsl l _,λ_=>⟨Vhs,λ_ hm=>(nomatch hm)⟩⟩,h2,h3,h4⟩
end Att
namespace L2
open PySem PySem.Spec PyProof.Rows
theorem Xkm:∀ {vs:LV} {ns:LI},Va0 vs ns->Vals (ns.map V.int) vs
 |_,_,.nil=>.nil|_,_,.cons n t h=>.cons ⟨t,rfl⟩ (Xkm h)
end L2
namespace L2
open PySem PySem.Spec PyProof.Rows
end L2
/- THE LAST THEOREM (shape;LID,My.* are yours):
   My.Adr: a structure of the addresses that your layer names (classes,functions);My.Txt K t: a structure (Prop) of the equations over K;
   My.txt_mk:{K} {implicit addresses ..} (e1:nsIn K Uc "law"=yz (yz (.ref f))) (e2:K.lookup f=yz ⟨oc,od,.func (fnOf "law" "law" params body scope dV kV doc pm an cdv ct),sl⟩) (e3:codeIn K cdv "law"=yx) ..:∃t,My.Txt K t
set_option maxRecDepth 100000 in
set_option maxHeartbeats 0 in
theorem PySem.Challenge.cw_LID_holds : PySem.Challenge.rw_LID.Holds := by
 w_on;o_law;k_head;(case hw=>w_witness2)
 k_fill
 refine L2.walk_of (l:=PySem.Challenge.rw_LID) (n:=63) (k:=40) (x:="script") (CX:=λw=>..) (sp:=λ_=>My.sp_law) rfl (by decide) rfl ⟨rfl,by decide,by decide⟩ (λw h Y=>PySem.W.kIn_of Y) ?F ?S ?C
 case F =>
  intro w mg fa h KX G hmg;have T:∃t,My.Txt (L2.KOf KX) t:=by
   dsimp only[L2.KOf]                          -- K must stand as «<heap const> w.params» for k_is;refine' My.txt_mk ?e1 ?e2 ?e3 ..
   (case e1=>PySem.W.k_is)                    -- in the order: a name -> its address -> its object -> its parts
   (case e2=>PySem.W.k_is)
   ..
  obtain⟨t,T⟩:=T;have e0:=hmg.symm.trans (Vc0 KX G T.law);cases e0                                       -- fa is the law's own address;exact⟨_,λs u=>.of_eq rfl,λbase kb nb=>My.law_fn T kb nb⟩     -- if «.of_eq rfl» comes too early: refine' ⟨_,?b,λbase kb nb=>My.law_fn T kb nb⟩;exact λs u=>.of_eq rfl
 case S=>exact λw H a ns hl hO hS=>..
 case C=>exact ..
(the tactic k_is has no namespace: write k_is) -/
namespace L2
open PySem PySem.Spec PyProof.Rows
noncomputable def Xas(s:Stmt):Ved:=match s with
 |.FunctionDef _ a _ _ _ _ _ _ _ _=>a|_=>{posonlyargs:=[],args:=[],vararg:=yy,kwonlyargs:=[],kw_defaults:=[],kwarg:=yy,defaults:=[]}
noncomputable def Yh(s:Stmt):LM:=match s with
 |.FunctionDef _ _ b _ _ _ _ _ _ _=>b|_=>[]
noncomputable def Xr(s:Stmt):Ur:=match s with
 |.FunctionDef _ _ _ _ _ _ sc _ _ _=>sc|_=>{kind:=.function,names:=[],isGenerator:=yw,isCoroutine:=yw}
structure Fun(K:Ve)(x qual:Str)(st:Stmt)(f:Addr)(fd:Vdl):Prop where
 ex:∃(oc:Vb) (od:Option Addr) (kV doc pm:Vb) (an:Option Addr) (cdv ct:Vb) (osl:Array OV),
  fd=Vbt x qual (Xas st) (Yh st) (Xr st) .none kV doc pm an cdv ct/\K.lookup f=yz ⟨oc,od,.func fd,osl⟩/\Vf3 K cdv qual=yx
 kp:Vda K (.ref f)=yx
section
variable{K:Ve}
theorem Fun.binds{x qual:Str}{st:Stmt}{f:Addr}{fd:Vdl}{ps:LS}(F:Fun K x qual st f fd)
  (h:∀(kV L pm:Vb) (an:Option Addr) (J Y:Vb) (us:LV),ll us=ll ps->Ve7 (Vbt x qual (Xas st) (Yh st) (Xr st) .none kV L pm an J Y) ⟨us,[]⟩=pure (ps.zip us)):Binds K fd ps []:=by
 obtain⟨oc,od,kV,L,pm,an,J,Y,aa,rfl,lk,ab⟩:=F.ex;exact .all (h kV L pm an J Y)
theorem X3q{x qual:Str}{st:Stmt}{f:Addr}{oc:Vb}{od an:Option Addr}{Y:Array (OV)}{kV L pm J ct:Vb}(l:K.lookup f=yz ⟨oc,od,.func (Vbt x qual (Xas st) (Yh st) (Xr st) .none kV L pm an J ct),Y⟩)
  (c:Vf3 K J qual=yx) (k:Vda K (.ref f)=yx):Fun K x qual st f (Vbt x qual (Xas st) (Yh st) (Xr st) .none kV L pm an J ct):=⟨⟨oc,od,kV,L,pm,an,J,ct,Y,rfl,l,c⟩,k⟩
end
end L2
end
section
namespace Z
open PySem PySem.Spec PyProof.Rows L2
noncomputable def Xat:Bool->Vk->Array Vk->Nat->Nat->Nat->StateT V1 Sem (Option Nat):=sortPriv% PySem.Builtin.gallop
noncomputable def byd(lf:Bool)(k:Vk)(xs:Array Vk)(i:Nat):StateT V1 Sem (Option Bool):=do
 let x <- Vdf xs i
 if lf then lt' x k else do
  let r <- lt' k x
  pure (r.map (!·))
noncomputable abbrev G3:=Option (Option Nat)×Nat×Nat
noncomputable def gUp(lf:Bool)(k:Vk)(xs:Array Vk)(q n h m:Nat):StateT V1 Sem G3:=forIn [0:n] (yy,0,1) λ_ z=>
 if z.2.2 ≥ m then pure (.done (yy,z.2)) else do
  let r <- byd lf k xs (q+(h+z.2.2))
  match r with
  |some y=>if !y then pure (.done (yy,z.2)) else pure (.yield (yy,z.2.2,2*z.2.2+1))|_=>pure (.done (yz yy,z.2))
noncomputable def gDn(lf:Bool)(k:Vk)(xs:Array Vk)(q n h m:Nat):StateT V1 Sem G3:=forIn [0:n] (yy,0,1) λ_ z=>
 if z.2.2 ≥ m then pure (.done (yy,z.2)) else do
  let r <- byd lf k xs (q+(h-z.2.2))
  match r with
  |some y=>if y then pure (.done (yy,z.2)) else pure (.yield (yy,z.2.2,2*z.2.2+1))|_=>pure (.done (yz yy,z.2))
noncomputable def Xlf(lf:Bool)(k:Vk)(xs:Array Vk)(q n l r:Nat):StateT V1 Sem (Option Nat):=do
 let c <- forIn [0:n] ((yy,l,r):G3) λ_ z=>
  if z.2.1 ≥ z.2.2 then pure (.done (yy,z.2)) else do
   let r <- byd lf k xs (q+(z.2.1+(z.2.2-z.2.1)/2))
   match r with
   |some y=>if y then pure (.yield (yy,z.2.1+(z.2.2-z.2.1)/2+1,z.2.2)) else pure (.yield (yy,z.2.1,z.2.1+(z.2.2-z.2.1)/2))|_=>pure (.done (yz yy,z.2))
 match c.1 with
 |some r=>pure r|none=>pure (yz c.2.2)
theorem Xs{α β:Type}{m L:StateT V1 Sem α}{f J:α->StateT V1 Sem β}(h:m=L)(k:∀x,f x=J x):(m >>= f)=(L >>= J):=by rw[h,show f=J from funext k]
theorem X3r(lf:Bool)(k:Vk)(xs:Array Vk)(q n h:Nat):Xat lf k xs q n h=(do
  let r <- byd lf k xs (q+h)
  match r with
  |some z=>
   if z then do
    let c <- gUp lf k xs q n h (n-h)
    match c.1 with
    |some r=>pure r|none=>Xlf lf k xs q n (h+c.2.1+1) (h+min c.2.2 (n-h))
   else do
    let c <- gDn lf k xs q n h (h+1)
    match c.1 with
    |some r=>pure r|none=>Xlf lf k xs q n (h+1-min c.2.2 (h+1)) (h-c.2.1)
  |_=>pure yy):=by
 refine Xs rfl λr=>?_;cases r with
 |none=>rfl|some z=>
  refine ite_congr rfl (λ_=>Xs rfl λc=>?_) λ_=>Xs rfl λc=>?_
  ·obtain⟨L,Y⟩:=c;cases L with
   |some r=>rfl|none=>refine Xs rfl λd=>?_;obtain⟨J,d2⟩:=d;cases J<;>rfl
  obtain⟨L,Y⟩:=c;cases L with
  |some r=>rfl|none=>refine Xs rfl λd=>?_;obtain⟨J,d2⟩:=d;cases J<;>rfl
section
variable{prog:Ua}{w:Uq}{A:Uy}{E:VP}{s:Vc}{lf:Bool}{k:Vk}{xs:Array Vk}{q n:Nat}{st:V1}{Q:Option Nat->V1->Prop}(b:Nat->Bool)
  (ask:∀i,i<n->∀Q':Option Bool->V1->Prop,Q' (yz (b i)) st->wpS (Vj prog w) A E s (byd lf k xs (q+i)) Q' st)
  (mono:∀i j,i<=j->j<n->b j=yx->b i=yx)
  (hQ:∀m,m<=n->(∀i,i<m->b i=yx)->(∀i,m<=i->i<n->b i=yw)->Q (yz m) st)
include ask mono hQ
theorem Xl5{l r:Nat}(hl:l<=r)(Y:r<=n)(h1:∀i,i<l->b i=yx)(h2:∀i,r<=i->i<n->b i=yw):wpS (Vj prog w) A E s (Xlf lf k xs q n l r) Q st:=by
 unfold Xlf;refine Vs (Vcq (Vaw (I:=λx c J=>J=st/\∃l r,c=(yy,l,r)/\l<=r/\r<=n/\r+x<=n+l/\(∀i,i<l->b i=yx)/\∀i,r<=i->i<n->b i=yw)
  (Q:=λc J=>J=st/\∃m,c=(yy,m,m)/\m<=n/\(∀i,i<m->b i=yx)/\∀i,m<=i->i<n->b i=yw) ?step ?fin ⟨rfl,l,r,rfl,hl,Y,by omega,h1,h2⟩) ?post)
 case post=>rintro c J ⟨rfl,m,rfl,hm,a1,a2⟩;exact Vx (hQ m hm a1 a2)
 case fin=>
  rintro c J ⟨rfl,l,r,rfl,c1,c2,c3,c4,c5⟩;have:l=r:=by omega
  subst this;exact⟨rfl,l,rfl,c2,c4,c5⟩
 case step=>
  rintro x c J _ hx ⟨rfl,l,r,rfl,c1,c2,c3,c4,c5⟩;dsimp only;by_cases g:l ≥ r
  ·rw[iP0 g];have:l=r:=by omega
   subst this;exact Vx ⟨rfl,l,rfl,c2,c4,c5⟩
  rw[iN0 g];refine Vs (ask _ (by omega) _ ?_);cases e:b (l+(r-l)/2) with
  |true=>exact Vx ⟨rfl,_,r,rfl,by omega,c2,by omega,λi hi=>mono i _ (by omega) (by omega) e,c5⟩|false=>
   refine Vx ⟨rfl,l,_,rfl,by omega,by omega,by omega,c4,λi hi hn=>?_⟩;cases L:b i with
   |false=>rfl|true=>rw[mono _ i hi hn L]at e;cases e
theorem Xo5{h:Nat}(hh:h<n):wpS (Vj prog w) A E s (Xat lf k xs q n h) Q st:=by
 rw[X3r];refine Vs (ask h hh _ ?_);dsimp only;cases e0:b h with
 |true=>
  rw[iP0 rfl];unfold gUp;refine Vs (Vcq (Vaw (I:=λx c J=>J=st/\∃u v,c=(yy,u,v)/\u<v/\x<v/\h+u<n/\b (h+u)=yx)
   (Q:=λc J=>J=st/\∃u v,c=(yy,u,v)/\u<v/\h+u<n/\b (h+u)=yx/\(n<=h+v\/h+v<n/\b (h+v)=yw)) ?step ?fin ⟨rfl,0,1,rfl,by omega,by omega,by omega,e0⟩) ?post)
  case post=>
   rintro c J ⟨rfl,u,v,rfl,c1,c2,c3,L⟩;refine Xl5 b ask mono hQ (l:=h+u+1) (r:=h+min v (n-h)) (by omega) (by omega) (λi hi=>mono i (h+u) (by omega) c2 c3) λi hi hn=>?_;rcases L with L|⟨L,Y⟩;·omega
   ·cases e':b i with
    |false=>rfl|true=>rw[mono _ i (by omega) hn e']at Y;cases Y
  case fin=>rintro c J ⟨rfl,u,v,rfl,c1,c2,c3,L⟩;exact⟨rfl,u,v,rfl,c1,c3,L,.inl (by omega)⟩
  case step=>
   rintro x c J _ hx ⟨rfl,u,v,rfl,c1,c2,c3,L⟩;dsimp only;by_cases g:v ≥ n-h;·rw[iP0 g];exact Vx ⟨rfl,u,v,rfl,c1,c3,L,.inl (by omega)⟩
   ·rw[iN0 g];have g:h+v<n:=by omega
    refine Vs (ask _ g _ ?_);cases e:b (h+v) with
    |true=>exact Vx ⟨rfl,v,2*v+1,rfl,by omega,by omega,by omega,e⟩|false=>exact Vx ⟨rfl,u,v,rfl,c1,c3,L,.inr ⟨by omega,e⟩⟩
 |false=>
  rw[iN0 (by decide)]
  unfold gDn;refine Vs (Vcq (Vaw (I:=λx c J=>J=st/\∃u v,c=(yy,u,v)/\u<v/\x<v/\u<=h/\b (h-u)=yw)
   (Q:=λc J=>J=st/\∃u v,c=(yy,u,v)/\u<v/\u<=h/\b (h-u)=yw/\(h+1<=v\/v<=h/\b (h-v)=yx)) ?step2 ?fin2 ⟨rfl,0,1,rfl,by omega,by omega,by omega,e0⟩) ?post2)
  case post2=>
   rintro c J ⟨rfl,u,v,rfl,c1,c2,c3,L⟩;refine Xl5 b ask mono hQ (l:=h+1-min v (h+1)) (r:=h-u) (by omega) (by omega) (λi hi=>?_) λi hi hn=>?_
   ·rcases L with L|⟨L,Y⟩;·omega
    ·exact mono i (h-v) (by omega) (by omega) Y
   cases e':b i with
   |false=>rfl|true=>rw[mono _ i hi hn e']at c3;cases c3
  case fin2=>rintro c J ⟨rfl,u,v,rfl,c1,c2,c3,L⟩;exact⟨rfl,u,v,rfl,c1,c3,L,.inl (by omega)⟩
  case step2=>
   rintro x c J _ hx ⟨rfl,u,v,rfl,c1,c2,c3,L⟩;dsimp only;by_cases g:v ≥ h+1;·rw[iP0 g];exact Vx ⟨rfl,u,v,rfl,c1,c3,L,.inl g⟩
   ·rw[iN0 g];refine Vs (ask _ (by omega) _ ?_);cases e:b (h-v) with
    |false=>exact Vx ⟨rfl,v,2*v+1,rfl,by omega,by omega,by omega,e⟩|true=>exact Vx ⟨rfl,u,v,rfl,c1,c3,L,.inr ⟨by omega,e⟩⟩
end
section
variable{le:α->α->Prop}{W o c la lb:List α}
structure JnK(le:α->α->Prop)(W o la lb:List α):Prop where
 pm:(o++(la++lb)).Perm W
 so:o.Pairwise le
 sx:∀x∈o,∀y,y∈la\/y∈lb->le x y
 sa:la.Pairwise le
 sb:lb.Pairwise le
theorem JnK.ta(h:JnK le W o (c++la) lb)(L:∀x∈c,∀y∈lb,le x y):JnK le W (o++c) la lb:=by
 obtain⟨s1,Y,s3⟩:=U9.mp h.sa;refine⟨?_,U9.mpr ⟨h.so,s1,λx L y J=>h.sx x L y (.inl (Vbd _ J))⟩,λx q y J=>?_,Y,h.sb⟩;·have:=h.pm;simpa only[Vt] using this
 ·rcases Uf.mp q with q|q;·exact h.sx x q y (J.imp (Ut _) id)
  ·rcases J with J|J;·exact s3 x q y J
   ·exact L x q y J
theorem JnK.tb(h:JnK le W o la (c++lb))(L:∀x∈c,∀y∈la,le x y):JnK le W (o++c) la lb:=by
 obtain⟨s1,Y,s3⟩:=U9.mp h.sb;refine⟨?_,U9.mpr ⟨h.so,s1,λx L y J=>h.sx x L y (.inr (Vbd _ J))⟩,λx q y J=>?_,h.sa,Y⟩;·refine List.Perm.trans ?_ h.pm;rw[Vt];refine List.Perm.append_left o ?_;rw[<-Vt,<-Vt];exact List.perm_append_comm.append_right lb
 ·rcases Uf.mp q with q|q;·exact h.sx x q y (J.imp id (Ut _))
  ·rcases J with J|J;·exact L x q y J
   ·exact s3 x q y J
def Srt(le:α->α->Prop)(W l:List α):Prop:=l.Perm W/\l.Pairwise le
theorem JnK.fin(h:JnK le W o la lb)(L:∀x∈la,∀y∈lb,le x y):Srt le W (o++la++lb):=by refine⟨by rw[Vt];exact h.pm,?_⟩;rw[Vt];exact U9.mpr ⟨h.so,U9.mpr ⟨h.sa,h.sb,L⟩,λx q y J=>h.sx x q y (Uf.mp J)⟩
theorem JnK.fin'(h:JnK le W o la lb)(L:∀x∈lb,∀y∈la,le x y):Srt le W (o++lb++la):=by refine⟨by rw[Vt];exact(List.perm_append_comm.append_left o).trans h.pm,?_⟩;rw[Vt];exact U9.mpr ⟨h.so,U9.mpr ⟨h.sb,h.sa,L⟩,λx q y J=>h.sx x q y (Uf.mp J).symm⟩
end
noncomputable def Xd8:Array Vk->Array Vk->StateT V1 Sem (Array Vk):=sortPriv% PySem.Builtin.mergeLo
noncomputable def Xfp:Nat->StateT V1 Sem Unit:=sortPriv% PySem.Builtin.setMinGallop
theorem Xzz(g:Nat):Xfp g=modify λs=>Vgu (Vah s) (Vr s) (Ug s) g (Vb3 s):=rfl
noncomputable abbrev Xqt:=Option (Array Vk)×Array Vk×Nat×Nat×Nat×Nat×Nat
noncomputable abbrev LpM:=StateT V1 Sem (ForInStep Xqt)
section
variable(a b:Array Vk)
noncomputable def Xbz(o:Array Vk)(i j:Nat):Array Vk:=o++a.extract i a.size++b.extract j b.size
noncomputable def Xfq(o:Array Vk)(i j:Nat):Array Vk:=o++b.extract j b.size++a.extract i a.size
noncomputable def lo3(o:Array Vk)(i j g c d:Nat):LpM:=do
 let x <- Vdf a i
 if i+1+1==a.size then pure (.done (yz (Xfq a b (o.push x) (i+1) j),o.push x,i+1,j,g,c,d))
 else if c<7&&d<7 then pure (.done (yy,o.push x,i+1,j,g,c,d))
 else pure (.yield (yy,o.push x,i+1,j,g,c,d))
noncomputable def lo2(o:Array Vk)(i j g c d:Nat):LpM:=do
 let x <- Vdf b j
 if j+1==b.size then pure (.done (yz (Xbz a b (o.push x) i (j+1)),o.push x,i,j+1,g,c,d))
 else
  let y <- Vdf a i
  let r <- Xat yx y b (j+1) (b.size-(j+1)) 0
  match r with
  |some k=>
   if k>0 then
    if j+1+k==b.size then pure (.done (yz (Xbz a b (o.push x++b.extract (j+1) (j+1+k)) i (j+1+k)),o.push x++b.extract (j+1) (j+1+k),i,j+1+k,g,c,k))
    else lo3 a b (o.push x++b.extract (j+1) (j+1+k)) i (j+1+k) g c k
   else lo3 a b (o.push x) i (j+1) g c k|_=>pure (.done (yz (Xbz a b (o.push x) i (j+1)),o.push x,i,j+1,g,c,d))
noncomputable def lo1(o:Array Vk)(i j g c d:Nat):LpM:=do
 Xfp g
 let x <- Vdf b j
 let r <- Xat yw x a i (a.size-i) 0
 match r with
 |some k=>
  if k>0 then
   if i+k+1==a.size then pure (.done (yz (Xfq a b (o++a.extract i (i+k)) (i+k) j),o++a.extract i (i+k),i+k,j,g,k,d))
   else if i+k==a.size then pure (.done (yz (Xbz a b (o++a.extract i (i+k)) (i+k) j),o++a.extract i (i+k),i+k,j,g,k,d))
   else lo2 a b (o++a.extract i (i+k)) (i+k) j g k d
  else lo2 a b o i j g k d|_=>pure (.done (yz (Xbz a b o i j),o,i,j,g,c,d))
noncomputable def Xvx(t:Nat)(z:Xqt):StateT V1 Sem Xqt:=forIn [0:t] z λ_ z=>if z.2.2.2.2.1>1 then lo1 a b z.2.1 z.2.2.1 z.2.2.2.1 (z.2.2.2.2.1-1) z.2.2.2.2.2.1 z.2.2.2.2.2.2 else lo1 a b z.2.1 z.2.2.1 z.2.2.2.1 z.2.2.2.2.1 z.2.2.2.2.2.1 z.2.2.2.2.2.2
noncomputable abbrev X3s:=Option (Array Vk)×Array Vk×Nat×Nat×Nat×Nat
noncomputable def Xvy(t g:Nat)(z:X3s):StateT V1 Sem X3s:=forIn [0:t] z λ_ z=>do
 let y <- Vdf b z.2.2.2.1
 let x <- Vdf a z.2.2.1
 let r <- lt' y x
 match r with
 |some q=>
  if q then do
   let y <- Vdf b z.2.2.2.1
   if z.2.2.2.1+1==b.size then pure (.done (yz (Xbz a b (z.2.1.push y) z.2.2.1 (z.2.2.2.1+1)),z.2.1.push y,z.2.2.1,z.2.2.2.1+1,0,z.2.2.2.2.2+1))
   else if z.2.2.2.2.2+1 ≥ g then pure (.done (yy,z.2.1.push y,z.2.2.1,z.2.2.2.1+1,0,z.2.2.2.2.2+1))
   else pure (.yield (yy,z.2.1.push y,z.2.2.1,z.2.2.2.1+1,0,z.2.2.2.2.2+1))
  else do
   let x <- Vdf a z.2.2.1
   if z.2.2.1+1+1==a.size then pure (.done (yz (Xfq a b (z.2.1.push x) (z.2.2.1+1) z.2.2.2.1),z.2.1.push x,z.2.2.1+1,z.2.2.2.1,z.2.2.2.2.1+1,0))
   else if z.2.2.2.2.1+1 ≥ g then pure (.done (yy,z.2.1.push x,z.2.2.1+1,z.2.2.2.1,z.2.2.2.2.1+1,0))
   else pure (.yield (yy,z.2.1.push x,z.2.2.1+1,z.2.2.2.1,z.2.2.2.2.1+1,0))|_=>pure (.done (yz (Xbz a b z.2.1 z.2.2.1 z.2.2.2.1),z.2.1,z.2.2.1,z.2.2.2.1,z.2.2.2.2.1,z.2.2.2.2.2))
noncomputable abbrev X3t:=Option (Array Vk)×Array Vk×Nat×Nat×Nat
noncomputable def Xqu(t:Nat)(z:X3t):StateT V1 Sem X3t:=forIn [0:t] z λ_ z=>do
 let y <- Xvy a b t z.2.2.2.2 (yy,z.2.1,z.2.2.1,z.2.2.2.1,0,0)
 match y.1 with
 |some r=>pure (.done (yz r,y.2.1,y.2.2.1,y.2.2.2.1,z.2.2.2.2))|none=>do
  liftM (rule "list.sort.gallop")
  let x <- Xvx a b t (yy,y.2.1,y.2.2.1,y.2.2.2.1,z.2.2.2.2+1,y.2.2.2.2.1,y.2.2.2.2.2)
  match x.1 with
  |some r=>pure (.done (yz r,x.2.1,x.2.2.1,x.2.2.2.1,x.2.2.2.2.1))|none=>do
   Xfp (x.2.2.2.2.1+1)
   pure (.yield (yy,x.2.1,x.2.2.1,x.2.2.2.1,x.2.2.2.2.1+1))
end
theorem X3u(a b:Array Vk):Xd8 a b=(do
  liftM (rule "list.sort.merge-lo")
  let x <- Vdf b 0
  if (1==b.size)=yx then pure (Xbz a b #[x] 0 1)
  else if (0+1==a.size)=yx then pure (Xfq a b #[x] 0 1)
  else do
   let g <- get
   let z <- Xqu a b (a.size+b.size) (yy,#[x],0,1,gallopOf g)
   match z.1 with
   |some r=>pure r
   |none=>liftM (unsupported "internal:list.sort.merge-bound" : Sem (Array Vk))):=by
 unfold Xqu;refine bind_congr λ_=>bind_congr λx=>?_;refine ite_congr rfl (λ_=>rfl) λ_=>ite_congr rfl (λ_=>rfl) λ_=>?_;refine bind_congr λg=>Xs ?_ λz=>?_
 ·refine congrArg (forIn _ _) ?_;funext _ z;refine Xs rfl λy=>?_;obtain⟨Y,y2⟩:=y;cases Y with
  |some r=>rfl|none=>refine bind_congr λ_=>Xs rfl λx=>?_;obtain⟨L,x2⟩:=x;cases L<;>rfl
 ·obtain⟨J,z2⟩:=z;cases J<;>rfl
structure Ord(R:Vk->Vk->Bool):Prop where
 tr:∀ {x y z},R y x=yw->R z y=yw->R z x=yw
 as:∀ {x y},R x y=yx->R y x=yw
abbrev LeK(R:Vk->Vk->Bool)(x y:Vk):Prop:=R y x=yw
def Xeq(prog:Ua)(w:Uq)(A:Uy)(E:VP)(s:Vc)(κ:Vdb)(R:Vk->Vk->Bool)(mem:Vk->Prop):Prop:=
 ∀(x y:Vk) (st:V1) (Q:Option Bool->V1->Prop),mem x->mem y->Vah st=κ->Q (yz (R x y)) st->wpS (Vj prog w) A E s (lt' x y) Q st
def Glp(st J:V1):Prop:=∃g,J=Vgu (Vah st) (Vr st) (Ug st) g (Vb3 st)
theorem Glp.refl{st:V1}:Glp st st:=⟨gallopOf st,rfl⟩
theorem Glp.kind{st J:V1}(h:Glp st J):Vah J=Vah st:=by obtain⟨g,rfl⟩:=h;rfl
theorem Glp.trans{st L J:V1}(h:Glp st L)(h':Glp L J):Glp st J:=by obtain⟨g,rfl⟩:=h;obtain⟨Y,rfl⟩:=h';exact⟨Y,rfl⟩
noncomputable def kat(a:Array Vk)(i:Nat):Vk:=a.getD i (.none,.none)
theorem Xbg{a:Array Vk}{i:Nat}(h:i<a.size):kat a i=a[i]:=by simp[kat,h]
theorem Xhu{a:Array Vk}{i:Nat}(h:i<a.size):a[i]?=yz (kat a i):=by rw[getElem?_pos a i h];simp[kat,h]
theorem Yc{a:Array Vk}{i:Nat}(h:i<a.size):kat a i∈a.toList:=by have:=Xhu h;rw[<-Vcg]at this;exact U8 this
theorem Xkn{a:Array Vk}{i:Nat}(h:i<a.size):a.toList.drop i=kat a i::a.toList.drop (i+1):=by rw[Vh0 (by simpa using h),Xbg h,Ve8]
theorem Xct{a:Array Vk}{i:Nat}{y:Vk}(h:y∈a.toList.drop i):∃k,i<=k/\k<a.size/\y=kat a k:=by
 obtain⟨k,hk⟩:=Vew.mp h;rw[Vft]at hk;have hl:=(Vd.mp hk).1;have J:i+k<a.size:=by simpa using hl
 refine⟨i+k,by omega,J,?_⟩;have:=Xhu J;rw[<-Vcg,hk]at this;cases this;rfl
theorem Xck{a:Array Vk}{i n:Nat}{y:Vk}(h:y∈(a.toList.drop i).take n):∃k,i<=k/\k<i+n/\k<a.size/\y=kat a k:=by
 obtain⟨k,hk⟩:=Vew.mp h;rw[List.getElem?_take]at hk;split at hk
 ·rename_i q;obtain⟨m,_,_⟩:=Xct (U8 hk);rw[Vft]at hk;have hl:=(Vd.mp hk).1;have J:i+k<a.size:=by simpa using hl
  refine⟨i+k,by omega,by omega,J,?_⟩;have:=Xhu J;rw[<-Vcg,hk]at this;cases this;rfl
 cases hk
theorem Xd9{R:Vk->Vk->Bool}{a:Array Vk}(h:a.toList.Pairwise (LeK R)){i j:Nat}(J:i<j)(L:j<a.size):LeK R (kat a i) (kat a j):=by have:=Vh1.mp h i j (by simp;omega) (by simpa using L) J;rw[Ve8,Ve8]at this;rw[Xbg (by omega),Xbg L];exact this
section
variable{prog:Ua}{w:Uq}{A:Uy}{E:VP}{s:Vc}{κ:Vdb}{R:Vk->Vk->Bool}{mem:Vk->Prop}
theorem Yi{a:Array Vk}{i:Nat}{st:V1}{Q:Vk->V1->Prop}(h:i<a.size)(J:Q (kat a i) st):wpS (Vj prog w) A E s (Vdf a i) Q st:=by rw[elem'_eq,Xhu h];exact Vx J
theorem Xfr{g:Nat}{st:V1}{Q:Unit->V1->Prop}(L:∀J,Glp st J->Q () J):wpS (Vj prog w) A E s (Xfp g) Q st:=by rw[Xzz];exact Vf4 (L _ ⟨g,rfl⟩)
variable(hO:Ord R)(hA:Xeq prog w A E s κ R mem)
include hO hA
theorem Xqv{J:Vk}{xs:Array Vk}{q n h:Nat}{st:V1}{Q:Option Nat->V1->Prop}(hk:Vah st=κ)(mk:mem J)(hq:q+n<=xs.size)(mx:∀x∈xs.toList,mem x)
  (so:∀i j,q<=i->i<j->j<q+n->LeK R (kat xs i) (kat xs j)) (hh:h<n)
  (hQ:∀m,m<=n->(∀i,i<m->LeK R (kat xs (q+i)) J)->(∀i,m<=i->i<n->R J (kat xs (q+i))=yx)->Q (yz m) st):wpS (Vj prog w) A E s (Xat yw J xs q n h) Q st:=by
 refine Xo5 (λi=>!R J (kat xs (q+i))) (λi hi Q' L=>?_) (λi j aa hj e=>?_) (λm hm a1 a2=>hQ m hm (λi hi=>?_) λi hi Y=>?_) hh;·unfold byd;refine Vs (Yi (by omega) ?_);show wpS _ _ _ _ (do let __x <- lt' J (kat xs (q+i));pure (__x.map (!·))) _ _;exact Vs (hA _ _ _ _ mk (mx _ (Yc (by omega))) hk (Vx L))
 ·have e':R J (kat xs (q+j))=false:=by simpa using e
  show(!R J (kat xs (q+i)))=yx;by_cases c:i=j;·subst c;exact e
  ·have:=so (q+i) (q+j) (by omega) (by omega) (by omega);rw[hO.tr this e'];rfl
 ·have:=a1 i hi;simpa using this
 ·have:=a2 i hi Y;simpa using this
theorem Xqw{J:Vk}{xs:Array Vk}{q n h:Nat}{st:V1}{Q:Option Nat->V1->Prop}(hk:Vah st=κ)(mk:mem J)(hq:q+n<=xs.size)(mx:∀x∈xs.toList,mem x)
  (so:∀i j,q<=i->i<j->j<q+n->LeK R (kat xs i) (kat xs j)) (hh:h<n)
  (hQ:∀m,m<=n->(∀i,i<m->R (kat xs (q+i)) J=yx)->(∀i,m<=i->i<n->LeK R J (kat xs (q+i)))->Q (yz m) st):wpS (Vj prog w) A E s (Xat yx J xs q n h) Q st:=by
 refine Xo5 (λi=>R (kat xs (q+i)) J) (λi hi Q' L=>?_) (λi j aa hj e=>?_) (λm hm a1 a2=>hQ m hm a1 a2) hh;·unfold byd;refine Vs (Yi (by omega) ?_);show wpS _ _ _ _ (lt' (kat xs (q+i)) J) _ _;exact hA _ _ _ _ (mx _ (Yc (by omega))) mk hk L
 ·show R (kat xs (q+i)) J=yx;by_cases c:i=j;·subst c;exact e
  ·have:=so (q+i) (q+j) (by omega) (by omega) (by omega);cases e2:R (kat xs (q+i)) J with
   |true=>rfl|false=>have Y:R (kat xs (q+j)) J=true:=e;rw[hO.tr e2 this]at Y;cases Y
end
section
variable{R:Vk->Vk->Bool}{W:List Vk}{a b o:Array Vk}{i j k:Nat}
abbrev Jo(R:Vk->Vk->Bool)(W:List Vk)(a b o:Array Vk)(i j:Nat):Prop:=JnK (LeK R) W o.toList (a.toList.drop i) (b.toList.drop j)
theorem Xfs(a:Array Vk)(i:Nat):(a.extract i a.size).toList=a.toList.drop i:=by rw[Vcr,Vbp];exact Vap (by simp)
theorem Xft(a:Array Vk)(i k:Nat):(a.extract i (i+k)).toList=(a.toList.drop i).take k:=by rw[Vcr,Vbp,show i+k-i=k by omega]
theorem Jo.fin(h:Jo R W a b o i j)(q:a.size<=i\/b.size<=j):Srt (LeK R) W (Xbz a b o i j).toList:=by
 have:=JnK.fin h (λx L y J=>by
  rcases q with q|q;·rw[Vep (by simpa using q)]at L;cases L
  ·rw[Vep (by simpa using q)]at J;cases J)
 unfold Xbz;rw[Vac,Vac,Xfs,Xfs];exact this
theorem Jo.lst(h:Jo R W a b o i j)(hl:∀x∈b.toList,∀y∈a.toList.drop (a.size-1),LeK R x y)(q:i+1=a.size):Srt (LeK R) W (Xfq a b o i j).toList:=by have:=JnK.fin' h (λx L y J=>hl x (Vbe L) y (by rw[<-q];exact J));unfold Xfq;rw[Vac,Vac,Xfs,Xfs];exact this
theorem Jo.ca(h:Jo R W a b o i j)(J:∀x∈(a.toList.drop i).take k,∀y∈b.toList.drop j,LeK R x y):Jo R W a b (o++a.extract i (i+k)) (i+k) j:=by
 have h':JnK (LeK R) W o.toList ((a.toList.drop i).take k++a.toList.drop (i+k)) (b.toList.drop j):=by rw[<-Vch,Ux];exact h
 have:=h'.ta J;show JnK _ _ (o++a.extract i (i+k)).toList _ _;rw[Vac,Xft];exact this
theorem Jo.cb(h:Jo R W a b o i j)(J:∀x∈(b.toList.drop j).take k,∀y∈a.toList.drop i,LeK R x y):Jo R W a b (o++b.extract j (j+k)) i (j+k):=by
 have h':JnK (LeK R) W o.toList (a.toList.drop i) ((b.toList.drop j).take k++b.toList.drop (j+k)):=by rw[<-Vch,Ux];exact h
 have:=h'.tb J;show JnK _ _ (o++b.extract j (j+k)).toList _ _;rw[Vac,Xft];exact this
theorem Jo.pa(h:Jo R W a b o i j)(hi:i<a.size)(L:∀y∈b.toList.drop j,LeK R (kat a i) y):Jo R W a b (o.push (kat a i)) (i+1) j:=by
 have h':JnK (LeK R) W o.toList ([kat a i]++a.toList.drop (i+1)) (b.toList.drop j):=by rw[List.singleton_append,<-Xkn hi];exact h
 have:=h'.ta (λx q y J=>by rw[Ue.mp q];exact L y J);show JnK _ _ (o.push _).toList _ _;rw[Veq];exact this
theorem Jo.pb(h:Jo R W a b o i j)(L:j<b.size)(Y:∀y∈a.toList.drop i,LeK R (kat b j) y):Jo R W a b (o.push (kat b j)) i (j+1):=by
 have h':JnK (LeK R) W o.toList (a.toList.drop i) ([kat b j]++b.toList.drop (j+1)):=by rw[List.singleton_append,<-Xkn L];exact h
 have:=h'.tb (λx q y J=>by rw[Ue.mp q];exact Y y J);show JnK _ _ (o.push _).toList _ _;rw[Veq];exact this
def JJ(R:Vk->Vk->Bool)(W:List Vk)(a b:Array Vk)(N:Nat)(o:Array Vk)(i j:Nat):Prop:=Jo R W a b o i j/\i+1<a.size/\j<b.size/\N<=i+j
def Out(R:Vk->Vk->Bool)(W:List Vk)(a b:Array Vk)(N:Nat)(z:Option (Array Vk))(o:Array Vk)(i j:Nat):Prop:=(∃r,z=yz r/\Srt (LeK R) W r.toList)\/(z=yy/\JJ R W a b N o i j)
def LpQ(R:Vk->Vk->Bool)(W:List Vk)(a b:Array Vk)(N:Nat)(st:V1)(r:ForInStep Xqt)(J:V1):Prop:=Glp st J/\match r with
 |.done z=>Out R W a b N z.1 z.2.1 z.2.2.1 z.2.2.2.1|.yield z=>z.1=yy/\JJ R W a b N z.2.1 z.2.2.1 z.2.2.2.1
theorem Xer(hO:Ord R)(sa:a.toList.Pairwise (LeK R)){x:Vk}(J:LeK R x (kat a i)):∀y∈a.toList.drop i,LeK R x y:=λy L=>by
 obtain⟨m,h1,h2,rfl⟩:=Xct L;by_cases c:i=m;·subst c;exact J
 ·exact hO.tr J (Xd9 sa (by omega) h2)
end
section
variable{prog:Ua}{w:Uq}{A:Uy}{E:VP}{s:Vc}{κ:Vdb}{R:Vk->Vk->Bool}{mem:Vk->Prop}{W:List Vk}{a b o:Array Vk}{i j N g c d:Nat}{st st0:V1}
variable(hO:Ord R)(hA:Xeq prog w A E s κ R mem)(ma:∀x∈a.toList,mem x)(mb:∀x∈b.toList,mem x)(sa:a.toList.Pairwise (LeK R))(sb:b.toList.Pairwise (LeK R))(hl:∀x∈b.toList,∀y∈a.toList.drop (a.size-1),LeK R x y)
include hl
theorem Xsm(hg:Glp st0 st)(h:Jo R W a b o i j)(hi:i+1<a.size)(L:j<b.size)(hN:N<=i+j)(Y:∀y∈b.toList.drop j,LeK R (kat a i) y):wpS (Vj prog w) A E s (lo3 a b o i j g c d) (LpQ R W a b N st0) st:=by
 unfold lo3;refine Vs (Yi (by omega) ?_);have h':=h.pa (by omega) Y;by_cases q:i+1+1=a.size;·rw[iP0 (by simpa using q)];exact Vx ⟨hg,.inl ⟨_,rfl,h'.lst hl q⟩⟩
 ·rw[iN0 (by simpa using q)];have J:JJ R W a b N (o.push (kat a i)) (i+1) j:=⟨h',by omega,L,by omega⟩;split;·exact Vx ⟨hg,.inr ⟨rfl,J⟩⟩
  ·exact Vx ⟨hg,rfl,J⟩
include hO hA ma mb sa sb
theorem Xsn(hg:Glp st0 st)(hk:Vah st0=κ)(h:Jo R W a b o i j)(hi:i+1<a.size)(hj:j<b.size)(hN:N<=i+j)(L:∀y∈a.toList.drop i,LeK R (kat b j) y):wpS (Vj prog w) A E s (lo2 a b o i j g c d) (LpQ R W a b N st0) st:=by
 unfold lo2;refine Vs (Yi hj ?_);have h':=h.pb hj L;by_cases q:j+1=b.size;·rw[iP0 (by simpa using q)];exact Vx ⟨hg,.inl ⟨_,rfl,h'.fin (.inr (by omega))⟩⟩
 ·rw[iN0 (by simpa using q)];refine Vs (Yi (by omega) ?_);refine Vs (Xqw hO hA (by rw[hg.kind];exact hk) (ma _ (Yc (by omega))) (by omega) mb (λx y _ h1 h2=>Xd9 sb h1 (by omega)) (by omega) λm hm a1 a2=>?_);dsimp only;have rest:∀y∈b.toList.drop (j+1+m),LeK R (kat a i) y:=λy J=>by
   obtain⟨k,k1,k2,rfl⟩:=Xct J;have:=a2 (k-(j+1)) (by omega) (by omega);rw[show j+1+(k-(j+1))=k by omega]at this;exact this
  by_cases z:m>0
  ·rw[iP0 z]
   have h2:=Jo.cb (k:=m) h' (λx L y J=>by
    obtain⟨k,k1,k2,k3,rfl⟩:=Xck L;have:=a1 (k-(j+1)) (by omega);rw[show j+1+(k-(j+1))=k by omega]at this
    exact Xer hO sa (hO.as this) y J)
   by_cases Y:j+1+m=b.size;·rw[iP0 (by simpa using Y)];exact Vx ⟨hg,.inl ⟨_,rfl,h2.fin (.inr (by omega))⟩⟩
   ·rw[iN0 (by simpa using Y)];exact Xsm hl hg h2 hi (by omega) (by omega) rest
  rw[iN0 z];have:m=0:=by omega
  subst this;exact Xsm hl hg h' hi (by omega) (by omega) rest
theorem Xso(hg:Glp st0 st)(hk:Vah st0=κ)(h:JJ R W a b N o i j):wpS (Vj prog w) A E s (lo1 a b o i j g c d) (LpQ R W a b N st0) st:=by
 obtain⟨h,hi,J,hN⟩:=h;unfold lo1;refine Vs (Xfr λaa L=>?_);have hg:=hg.trans L;refine Vs (Yi J ?_);refine Vs (Xqv hO hA (by rw[hg.kind];exact hk) (mb _ (Yc J)) (by omega) ma (λx y _ h1 h2=>Xd9 sa h1 (by omega)) (by omega) λm hm a1 a2=>?_);dsimp only;have rest:i+m<a.size->∀y∈a.toList.drop (i+m),LeK R (kat b j) y:=λab=>Xer hO sa (hO.as (a2 m (Vf _) (by omega)));by_cases z:m>0
 ·rw[iP0 z]
  have h2:=Jo.ca (k:=m) h (λx hx y hy=>by
   obtain⟨k,k1,k2,k3,rfl⟩:=Xck hx;have:=a1 (k-i) (by omega);rw[show i+(k-i)=k by omega]at this;obtain⟨n,n1,n2,rfl⟩:=Xct hy;by_cases e:j=n;·subst e;exact this
   ·exact hO.tr this (Xd9 sb (by omega) n2))
  by_cases q:i+m+1=a.size;·rw[iP0 (by simpa using q)];exact Vx ⟨hg,.inl ⟨_,rfl,h2.lst hl q⟩⟩
  ·rw[iN0 (by simpa using q)];by_cases Y:i+m=a.size;·rw[iP0 (by simpa using Y)];exact Vx ⟨hg,.inl ⟨_,rfl,h2.fin (.inl (by omega))⟩⟩
   ·rw[iN0 (by simpa using Y)];exact Xsn hO hA ma mb sa sb hl hg hk h2 (by omega) J (by omega) (rest (by omega))
 rw[iN0 z];have:m=0:=by omega
 subst this;exact Xsn hO hA ma mb sa sb hl hg hk h hi J hN (rest (by omega))
theorem Xz0{t:Nat}(hg:Glp st0 st)(hk:Vah st0=κ)(h:JJ R W a b N o i j):wpS (Vj prog w) A E s (Xvx a b t (yy,o,i,j,g,c,d)) (λz st'=>Glp st0 st'/\Out R W a b N z.1 z.2.1 z.2.2.1 z.2.2.2.1) st:=by
 unfold Xvx;refine Vaw (I:=λ_ z st'=>Glp st0 st'/\z.1=yy/\JJ R W a b N z.2.1 z.2.2.1 z.2.2.2.1) ?_ (λz st' ⟨h1,h2,h3⟩=>⟨h1,.inr ⟨h2,h3⟩⟩) ⟨hg,rfl,h⟩;rintro _ z st' _ _ ⟨h1,h2,h3⟩;split;·refine Vcq (Xso hO hA ma mb sa sb hl h1 hk h3) λr J q=>?_;cases r<;>exact q
 ·refine Vcq (Xso hO hA ma mb sa sb hl h1 hk h3) λr J q=>?_;cases r<;>exact q
theorem Xz1{t:Nat}(hg:Glp st0 st)(hk:Vah st0=κ)(ht:0<t)(h:JJ R W a b N o i j):wpS (Vj prog w) A E s (Xvy a b t g (yy,o,i,j,0,0)) (λz st'=>Glp st0 st'/\Out R W a b (N+1) z.1 z.2.1 z.2.2.1 z.2.2.2.1) st:=by
 unfold Xvy;refine Vaw (I:=λx z st'=>Glp st0 st'/\z.1=yy/\JJ R W a b (N+min x 1) z.2.1 z.2.2.1 z.2.2.2.1) ?_ (λz st' ⟨h1,h2,h3⟩=>⟨h1,.inr ⟨h2,by rw[show N+min (max 0 t) 1=N+1 by omega]at h3;exact h3⟩⟩) ⟨hg,rfl,(by simpa using h:JJ R W a b (N+min 0 1) o i j)⟩;rintro x ⟨z0,o,i,j,c,d⟩ st' _ _ ⟨hg,h2,h3⟩;obtain⟨h,hi,J,hN⟩:=h3;dsimp only at h hi J hN ⊢;refine Vs (Yi J (Vs (Yi (by omega) ?_)));refine Vs (hA _ _ _ _ (mb _ (Yc J)) (ma _ (Yc (by omega))) (by rw[hg.kind];exact hk) ?_);cases e:R (kat b j) (kat a i) with
 |true=>
  dsimp only;rw[iP0 rfl];refine Vs (Yi J ?_);have h':=h.pb J (Xer hO sa (hO.as e));by_cases q:j+1=b.size;·rw[iP0 (by simpa using q)];exact Vx ⟨hg,.inl ⟨_,rfl,h'.fin (.inr (by omega))⟩⟩
  ·rw[iN0 (by simpa using q)];have L:∀m,m<=N+1->JJ R W a b m (o.push (kat b j)) i (j+1):=λm Y=>⟨h',hi,by omega,by omega⟩;split;·exact Vx ⟨hg,.inr ⟨rfl,L _ (Vf _)⟩⟩
   ·exact Vx ⟨hg,rfl,L _ (by omega)⟩|false=>
  dsimp only;rw[iN0 (by decide)];refine Vs (Yi (by omega) ?_);have h':=h.pa (by omega) (Xer (a:=b) hO sb e);by_cases q:i+1+1=a.size;·rw[iP0 (by simpa using q)];exact Vx ⟨hg,.inl ⟨_,rfl,h'.lst hl q⟩⟩
  ·rw[iN0 (by simpa using q)];have L:∀m,m<=N+1->JJ R W a b m (o.push (kat a i)) (i+1) j:=λm Y=>⟨h',by omega,J,by omega⟩;split;·exact Vx ⟨hg,.inr ⟨rfl,L _ (Vf _)⟩⟩
   ·exact Vx ⟨hg,rfl,L _ (by omega)⟩
theorem Xz2{t:Nat}(hg:Glp st0 st)(hk:Vah st0=κ)(ht:a.size+b.size<=t)(h:JJ R W a b 0 o i j):wpS (Vj prog w) A E s (Xqu a b t (yy,o,i,j,g)) (λz st'=>Glp st0 st'/\∃r,z.1=yz r/\Srt (LeK R) W r.toList) st:=by
 unfold Xqu;refine Vaw (I:=λx z st'=>Glp st0 st'/\z.1=yy/\JJ R W a b x z.2.1 z.2.2.1 z.2.2.2.1) ?_ (λz st' ⟨h1,h2,h3⟩=>by have:=h3.2.1;have:=h3.2.2.1;have:=h3.2.2.2;omega) ⟨hg,rfl,h⟩;rintro x ⟨z0,o,i,j,g⟩ st' _ _ ⟨hg,h2,h3⟩;have hp:0<t:=by have:=h3.2.1;omega
 refine Vs (Vcq (Xz1 hO hA ma mb sa sb hl hg hk hp h3) λy aa q=>?_);obtain⟨J,q⟩:=q;obtain⟨y0,y1,y2,y3,y4,y5⟩:=y;rcases q with⟨r,e,hr⟩|⟨e,h4⟩;·subst e;exact Vx ⟨J,r,rfl,hr⟩
 ·subst e;refine Vs (wpS_lift (Vbf ⟨rfl,?_⟩));refine Vs (Vcq (Xz0 hO hA ma mb sa sb hl J hk h4) λz ab q=>?_);obtain⟨L,q⟩:=q;obtain⟨z0,z1,z2,z3,z4,z5,z6⟩:=z;rcases q with⟨r,e,hr⟩|⟨e,h5⟩;·subst e;exact Vx ⟨L,r,rfl,hr⟩
  ·subst e;refine Vs (Xfr λac Y=>Vx ⟨L.trans Y,rfl,h5⟩)
theorem X3v{Q:Array Vk->V1->Prop}(hk:Vah st=κ)(ha:0<a.size)(hb:0<b.size)(h0:LeK R (kat b 0) (kat a 0))(hW:W=a.toList++b.toList)
  (hQ:∀r J,Glp st J->Srt (LeK R) W r.toList->Q r J):wpS (Vj prog w) A E s (Xd8 a b) Q st:=by
 rw[X3u];refine Vs (wpS_lift (Vbf ⟨rfl,?_⟩));refine Vs (Yi hb ?_);have j0:Jo R W a b #[] 0 0:=⟨by rw[hW];exact .refl _,.nil,λx q=>(by cases q),sa,sb⟩;have L:Jo R W a b #[kat b 0] 0 1:=j0.pb hb (Xer hO sa h0);by_cases q:1=b.size;·rw[iP0 (by simpa using q)];exact Vx (hQ _ _ .refl (L.fin (.inr (by omega))))
 ·rw[iN0 (by simpa using q)];by_cases Y:0+1=a.size;·rw[iP0 (by simpa using Y)];exact Vx (hQ _ _ .refl (L.lst hl Y))
  ·rw[iN0 (by simpa using Y)];refine Vs (wpS_get ?_);refine Vs (Vcq (Xz2 hO hA ma mb sa sb hl .refl hk (Vf _) ⟨L,by omega,by omega,by omega⟩) λz J q=>?_);obtain⟨hg,r,e,hr⟩:=q;obtain⟨z0,z1⟩:=z;subst e;exact Vx (hQ r _ hg hr)
end
noncomputable def Xea:Array Vk->Array Vk->StateT V1 Sem (Array Vk):=sortPriv% PySem.Builtin.mergeHi
section
variable(a b:Array Vk)
noncomputable def Xb0(o:Array Vk)(i j:Nat):Array Vk:=a.extract 0 i++b.extract 0 j++o.reverse
noncomputable def Xfu(o:Array Vk)(i j:Nat):Array Vk:=b.extract 0 j++a.extract 0 i++o.reverse
noncomputable abbrev Xqx:=Option (Array Vk)×Nat×Nat×Array Vk×Nat×Nat×Nat
noncomputable abbrev HpM:=StateT V1 Sem (ForInStep Xqx)
noncomputable abbrev Xvz:=Option (Array Vk)×Nat×Nat×Array Vk×Nat×Nat
noncomputable abbrev X3w:=Option (Array Vk)×Nat×Nat×Array Vk×Nat
noncomputable def hi3(o:Array Vk)(i j g c d:Nat):HpM:=do
 let x <- Vdf a (i-1)
 if i-1==0 then pure (.done (yz (Xb0 a b (o.push x) (i-1) j),i-1,j,o.push x,g,c,d))
 else if c<7&&d<7 then pure (.done (yy,i-1,j,o.push x,g,c,d))
 else pure (.yield (yy,i-1,j,o.push x,g,c,d))
noncomputable def hi2(o:Array Vk)(i j g c d:Nat):HpM:=do
 let x <- Vdf b (j-1)
 if j-1==1 then pure (.done (yz (Xfu a b (o.push x) i (j-1)),i,j-1,o.push x,g,c,d))
 else
  let y <- Vdf a (i-1)
  let r <- Xat yx y b 0 (j-1) (j-1-1)
  match r with
  |some k=>
   if j-1-k>0 then
    if k==1 then pure (.done (yz (Xfu a b (o.push x++(b.extract k (j-1)).reverse) i k),i,k,o.push x++(b.extract k (j-1)).reverse,g,c,j-1-k))
    else if k==0 then pure (.done (yz (Xb0 a b (o.push x++(b.extract k (j-1)).reverse) i k),i,k,o.push x++(b.extract k (j-1)).reverse,g,c,j-1-k))
    else hi3 a b (o.push x++(b.extract k (j-1)).reverse) i k g c (j-1-k)
   else hi3 a b (o.push x) i (j-1) g c (j-1-k)|_=>pure (.done (yz (Xb0 a b (o.push x) i (j-1)),i,j-1,o.push x,g,c,d))
noncomputable def hi1(o:Array Vk)(i j g c d:Nat):HpM:=do
 Xfp g
 let x <- Vdf b (j-1)
 let r <- Xat yw x a 0 i (i-1)
 match r with
 |some k=>
  if i-k>0 then
   if k==0 then pure (.done (yz (Xb0 a b (o++(a.extract k i).reverse) k j),k,j,o++(a.extract k i).reverse,g,i-k,d))
   else hi2 a b (o++(a.extract k i).reverse) k j g (i-k) d
  else hi2 a b o i j g (i-k) d|_=>pure (.done (yz (Xb0 a b (o) i j),i,j,o,g,c,d))
noncomputable def Xv0(t:Nat)(z:Xqx):StateT V1 Sem Xqx:=forIn [0:t] z λ_ z=>if z.2.2.2.2.1>1 then hi1 a b z.2.2.2.1 z.2.1 z.2.2.1 (z.2.2.2.2.1-1) z.2.2.2.2.2.1 z.2.2.2.2.2.2 else hi1 a b z.2.2.2.1 z.2.1 z.2.2.1 z.2.2.2.2.1 z.2.2.2.2.2.1 z.2.2.2.2.2.2
noncomputable def X3x(g:Nat)(o:Array Vk)(i j c d:Nat):StateT V1 Sem (ForInStep Xvz):=do
 let y <- Vdf b (j-1)
 let x <- Vdf a (i-1)
 let r <- lt' y x
 match r with
 |some q=>
  if q then do
   let x <- Vdf a (i-1)
   if i-1==0 then pure (.done (yz (Xb0 a b (o.push x) (i-1) j),i-1,j,o.push x,c+1,0))
   else if c+1 ≥ g then pure (.done (yy,i-1,j,o.push x,c+1,0))
   else pure (.yield (yy,i-1,j,o.push x,c+1,0))
  else do
   let x <- Vdf b (j-1)
   if j-1==1 then pure (.done (yz (Xfu a b (o.push x) i (j-1)),i,j-1,o.push x,0,d+1))
   else if d+1 ≥ g then pure (.done (yy,i,j-1,o.push x,0,d+1))
   else pure (.yield (yy,i,j-1,o.push x,0,d+1))|_=>pure (.done (yz (Xb0 a b (o) i j),i,j,o,c,d))
noncomputable def Xv1(t g:Nat)(z:Xvz):StateT V1 Sem Xvz:=forIn [0:t] z λ_ z=>X3x a b g z.2.2.2.1 z.2.1 z.2.2.1 z.2.2.2.2.1 z.2.2.2.2.2
noncomputable def Xqy(t:Nat)(z:X3w):StateT V1 Sem X3w:=forIn [0:t] z λ_ z=>do
 let y <- Xv1 a b t z.2.2.2.2 (yy,z.2.1,z.2.2.1,z.2.2.2.1,0,0)
 match y.1 with
 |some r=>pure (.done (yz r,y.2.1,y.2.2.1,y.2.2.2.1,z.2.2.2.2))|none=>do
  liftM (rule "list.sort.gallop")
  let x <- Xv0 a b t (yy,y.2.1,y.2.2.1,y.2.2.2.1,z.2.2.2.2+1,y.2.2.2.2.1,y.2.2.2.2.2)
  match x.1 with
  |some r=>pure (.done (yz r,x.2.1,x.2.2.1,x.2.2.2.1,x.2.2.2.2.1))|none=>do
   Xfp (x.2.2.2.2.1+1)
   pure (.yield (yy,x.2.1,x.2.2.1,x.2.2.2.1,x.2.2.2.2.1+1))
end
theorem X3y(a b:Array Vk):Xea a b=(do
  liftM (rule "list.sort.merge-hi")
  let x <- Vdf a (a.size-1)
  if (a.size-1==0)=yx then pure (Xb0 a b #[x] (a.size-1) b.size)
  else if (b.size==1)=yx then pure (Xfu a b #[x] (a.size-1) b.size)
  else do
   let g <- get
   let z <- Xqy a b (a.size+b.size) (yy,a.size-1,b.size,#[x],gallopOf g)
   match z.1 with
   |some r=>pure r
   |none=>liftM (unsupported "internal:list.sort.merge-bound" : Sem (Array Vk))):=by
 unfold Xqy;refine bind_congr λ_=>bind_congr λx=>?_;refine ite_congr rfl (λ_=>rfl) λ_=>ite_congr rfl (λ_=>rfl) λ_=>?_;refine bind_congr λg=>Xs ?_ λz=>?_
 ·refine congrArg (forIn _ _) ?_;funext _ z;refine Xs rfl λy=>?_;obtain⟨Y,y2⟩:=y;cases Y with
  |some r=>rfl|none=>refine bind_congr λ_=>Xs rfl λx=>?_;obtain⟨L,x2⟩:=x;cases L<;>rfl
 ·obtain⟨J,z2⟩:=z;cases J<;>rfl
section
variable{R:Vk->Vk->Bool}{W:List Vk}{a b o:Array Vk}{i j k:Nat}
theorem Srt.rev{α:Type}{le:α->α->Prop}{W l:List α}(h:Srt (λx y=>le y x) W l):Srt le W l.reverse:=⟨(Vht l).trans h.1,Vgp.mpr h.2⟩
abbrev Jh(R:Vk->Vk->Bool)(W:List Vk)(a b o:Array Vk)(i j:Nat):Prop:=JnK (λx y=>LeK R y x) W o.toList (a.toList.take i).reverse (b.toList.take j).reverse
theorem Xlg(a:Array Vk)(i:Nat):(a.extract 0 i).toList=a.toList.take i:=by rw[Vcr,Vbp];simp
theorem Xeb{y:Vk}(h:y∈a.toList.take i):∃k,k<i/\k<a.size/\y=kat a k:=by have h':y∈(a.toList.drop 0).take i:=h;obtain⟨k,_,h2,J,e⟩:=Xck h';exact⟨k,by omega,J,e⟩
theorem Xl6(h0:0<i)(h:i<=a.size):(a.toList.take i).reverse=[kat a (i-1)]++(a.toList.take (i-1)).reverse:=by obtain⟨m,rfl⟩:∃m,i=m+1:=⟨i-1,by omega⟩;rw[Vee,Vd3 (by rw[U7];omega),Vbo,Xbg (by omega),Ve8];rfl
theorem Xo6(hk:k<=i):(a.toList.take i).reverse=(a.extract k i).reverse.toList++(a.toList.take k).reverse:=by rw[Vdy,Vcr,Vbp,<-Vbo];congr 1;rw[<-Ux k (a.toList.take i),Vha,Vcn hk,Vhb]
theorem Jh.fin(h:Jh R W a b o i j)(q:i=0\/j=0):Srt (LeK R) W (Xb0 a b o i j).toList:=by
 have:=(JnK.fin' h (λx L y J=>by
  rcases q with q|q;·subst q;simp at J
  ·subst q;simp at L)).rev
 unfold Xb0;rw[Vac,Vac,Xlg,Xlg,Vdy];simpa [Vbo] using this
theorem Jh.lst(h:Jh R W a b o i j)(hl:∀x∈a.toList,LeK R (kat b 0) x)(q:j=1):Srt (LeK R) W (Xfu a b o i j).toList:=by
 have:=(JnK.fin h (λx L y J=>by
  subst q;obtain⟨m,h1,h2,rfl⟩:=Xeb (Vcc.mp J);obtain rfl:m=0:=by omega
  exact hl x (Vaq (Vcc.mp L)))).rev
 unfold Xfu;rw[Vac,Vac,Xlg,Xlg,Vdy];simpa [Vbo] using this
theorem Jh.pa(h:Jh R W a b o i j)(h0:0<i)(hi:i<=a.size)(L:∀y∈b.toList.take j,LeK R y (kat a (i-1))):Jh R W a b (o.push (kat a (i-1))) (i-1) j:=by have h':=h;unfold Jh at h';rw[Xl6 h0 hi]at h';have:=h'.ta (λx q y J=>by rw[Ue.mp q];exact L y (Vcc.mp J));show JnK _ _ (o.push _).toList _ _;rw[Veq];exact this
theorem Jh.pb(h:Jh R W a b o i j)(h0:0<j)(L:j<=b.size)(Y:∀y∈a.toList.take i,LeK R y (kat b (j-1))):Jh R W a b (o.push (kat b (j-1))) i (j-1):=by have h':=h;unfold Jh at h';rw[Xl6 (a:=b) h0 L]at h';have:=h'.tb (λx q y J=>by rw[Ue.mp q];exact Y y (Vcc.mp J));show JnK _ _ (o.push _).toList _ _;rw[Veq];exact this
theorem Jh.ca(h:Jh R W a b o i j)(hk:k<=i)(Y:∀x,(∃m,k<=m/\m<i/\x=kat a m)->∀y∈b.toList.take j,LeK R y x):Jh R W a b (o++(a.extract k i).reverse) k j:=by have h':=h;unfold Jh at h';rw[Xo6 hk]at h';have:=h'.ta (λx q y J=>by rw[Vdy,Vcc,Vcr,Vbp]at q;obtain⟨m,L,m2,m3,e⟩:=Xck q;exact Y x ⟨m,L,by omega,e⟩ y (Vcc.mp J));show JnK _ _ (o++_).toList _ _;rw[Vac];exact this
theorem Jh.cb(h:Jh R W a b o i j)(hk:k<=j)(Y:∀x,(∃m,k<=m/\m<j/\x=kat b m)->∀y∈a.toList.take i,LeK R y x):Jh R W a b (o++(b.extract k j).reverse) i k:=by have h':=h;unfold Jh at h';rw[Xo6 (a:=b) hk]at h';have:=h'.tb (λx q y J=>by rw[Vdy,Vcc,Vcr,Vbp]at q;obtain⟨m,L,m2,m3,e⟩:=Xck q;exact Y x ⟨m,L,by omega,e⟩ y (Vcc.mp J));show JnK _ _ (o++_).toList _ _;rw[Vac];exact this
def JK(R:Vk->Vk->Bool)(W:List Vk)(a b:Array Vk)(N:Nat)(o:Array Vk)(i j:Nat):Prop:=Jh R W a b o i j/\0<i/\i<=a.size/\1<j/\j<=b.size/\i+j+N<=a.size+b.size
def Xv2(R:Vk->Vk->Bool)(W:List Vk)(a b:Array Vk)(N:Nat)(z:Option (Array Vk))(o:Array Vk)(i j:Nat):Prop:=(∃r,z=yz r/\Srt (LeK R) W r.toList)\/(z=yy/\JK R W a b N o i j)
def HpQ(R:Vk->Vk->Bool)(W:List Vk)(a b:Array Vk)(N:Nat)(st:V1)(r:ForInStep Xqx)(J:V1):Prop:=Glp st J/\match r with
 |.done z=>Xv2 R W a b N z.1 z.2.2.2.1 z.2.1 z.2.2.1|.yield z=>z.1=yy/\JK R W a b N z.2.2.2.1 z.2.1 z.2.2.1
theorem Xhv(hO:Ord R)(sa:a.toList.Pairwise (LeK R))(h0:0<i)(hi:i<=a.size){x:Vk}(J:LeK R (kat a (i-1)) x):∀y∈a.toList.take i,LeK R y x:=λy L=>by
 obtain⟨m,h1,h2,rfl⟩:=Xeb L;by_cases c:m=i-1;·subst c;exact J
 ·exact hO.tr (Xd9 sa (by omega) (by omega)) J
end
section
variable{prog:Ua}{w:Uq}{A:Uy}{E:VP}{s:Vc}{κ:Vdb}{R:Vk->Vk->Bool}{mem:Vk->Prop}{W:List Vk}{a b o:Array Vk}{i j N g c d:Nat}{st st0:V1}
variable(hO:Ord R)(hA:Xeq prog w A E s κ R mem)(ma:∀x∈a.toList,mem x)(mb:∀x∈b.toList,mem x)(sa:a.toList.Pairwise (LeK R))(sb:b.toList.Pairwise (LeK R))(hl:∀x∈a.toList,LeK R (kat b 0) x)
theorem Xsp(hg:Glp st0 st)(h:Jh R W a b o i j)(h0:0<i)(hi:i<=a.size)(L:1<j)(Y:j<=b.size)(hN:i+j+N<=a.size+b.size)(hx:∀y∈b.toList.take j,LeK R y (kat a (i-1))):wpS (Vj prog w) A E s (hi3 a b o i j g c d) (HpQ R W a b N st0) st:=by
 unfold hi3;refine Vs (Yi (by omega) ?_);have h':=h.pa h0 hi hx;by_cases q:i-1=0;·rw[iP0 (by simpa using q)];exact Vx ⟨hg,.inl ⟨_,rfl,h'.fin (.inl q)⟩⟩
 ·rw[iN0 (by simpa using q)];have J:JK R W a b N (o.push (kat a (i-1))) (i-1) j:=⟨h',by omega,by omega,L,Y,by omega⟩;split;·exact Vx ⟨hg,.inr ⟨rfl,J⟩⟩
  ·exact Vx ⟨hg,rfl,J⟩
include hl hO hA ma mb sa sb
theorem Xsq(hg:Glp st0 st)(hk:Vah st0=κ)(h:Jh R W a b o i j)(h0:0<i)(hi:i<=a.size)(j1:1<j)(hj:j<=b.size)(hN:i+j+N<=a.size+b.size)(Y:∀y∈a.toList.take i,LeK R y (kat b (j-1))):wpS (Vj prog w) A E s (hi2 a b o i j g c d) (HpQ R W a b N st0) st:=by
 unfold hi2;refine Vs (Yi (by omega) ?_);have h':=h.pb (by omega) hj Y;by_cases q:j-1=1;·rw[iP0 (by simpa using q)];exact Vx ⟨hg,.inl ⟨_,rfl,h'.lst hl q⟩⟩
 ·rw[iN0 (by simpa using q)];refine Vs (Yi (by omega) ?_);refine Vs (Xqw hO hA (by rw[hg.kind];exact hk) (ma _ (Yc (by omega))) (by omega) mb (λx y _ h1 h2=>Xd9 sb h1 (by omega)) (by omega) λm hm a1 a2=>?_);simp only[Va1]at a1 a2;dsimp only;have rest:∀y∈b.toList.take m,LeK R y (kat a (i-1)):=λy L=>by
   obtain⟨k,k1,k2,rfl⟩:=Xeb L;exact hO.as (a1 k k1)
  by_cases z:j-1-m>0
  ·rw[iP0 z];have h2:=Jh.cb (k:=m) h' (by omega) (λx Y y L=>by obtain⟨k,k1,k2,rfl⟩:=Y;exact Xhv hO sa h0 hi (a2 k k1 k2) y L);by_cases J:m=1;·rw[iP0 (by simpa using J)];exact Vx ⟨hg,.inl ⟨_,rfl,h2.lst hl J⟩⟩
   ·rw[iN0 (by simpa using J)];by_cases q3:m=0;·rw[iP0 (by simpa using q3)];exact Vx ⟨hg,.inl ⟨_,rfl,h2.fin (.inr q3)⟩⟩
    ·rw[iN0 (by simpa using q3)];exact Xsp hg h2 h0 hi (by omega) (by omega) (by omega) rest
  rw[iN0 z];obtain rfl:m=j-1:=by omega
  exact Xsp hg h' h0 hi (by omega) (by omega) (by omega) rest
theorem Xsr(hg:Glp st0 st)(hk:Vah st0=κ)(h:JK R W a b N o i j):wpS (Vj prog w) A E s (hi1 a b o i j g c d) (HpQ R W a b N st0) st:=by
 obtain⟨h,h0,hi,j1,L,hN⟩:=h;unfold hi1;refine Vs (Xfr λaa Y=>?_);have hg:=hg.trans Y;refine Vs (Yi (by omega) ?_);refine Vs (Xqv hO hA (by rw[hg.kind];exact hk) (mb _ (Yc (by omega))) (by omega) ma (λx y _ h1 h2=>Xd9 sa h1 (by omega)) (by omega) λm hm a1 a2=>?_);simp only[Va1]at a1 a2;dsimp only;have rest:∀y∈a.toList.take m,LeK R y (kat b (j-1)):=λy J=>by obtain⟨k,k1,k2,rfl⟩:=Xeb J;exact a1 k k1
 by_cases z:i-m>0
 ·rw[iP0 z];have h2:=Jh.ca (k:=m) h (by omega) (λx hx y J=>by obtain⟨k,k1,k2,rfl⟩:=hx;exact Xhv (a:=b) hO sb (by omega) L (hO.as (a2 k k1 k2)) y J);by_cases q:m=0;·rw[iP0 (by simpa using q)];exact Vx ⟨hg,.inl ⟨_,rfl,h2.fin (.inl q)⟩⟩
  ·rw[iN0 (by simpa using q)];exact Xsq hO hA ma mb sa sb hl hg hk h2 (by omega) (by omega) j1 L (by omega) rest
 rw[iN0 z];obtain rfl:m=i:=by omega
 exact Xsq hO hA ma mb sa sb hl hg hk h h0 hi j1 L hN rest
theorem Xz3{t:Nat}(hg:Glp st0 st)(hk:Vah st0=κ)(h:JK R W a b N o i j):wpS (Vj prog w) A E s (Xv0 a b t (yy,i,j,o,g,c,d)) (λz st'=>Glp st0 st'/\Xv2 R W a b N z.1 z.2.2.2.1 z.2.1 z.2.2.1) st:=by
 unfold Xv0;refine Vaw (I:=λ_ z st'=>Glp st0 st'/\z.1=yy/\JK R W a b N z.2.2.2.1 z.2.1 z.2.2.1) ?_ (λz st' ⟨h1,h2,h3⟩=>⟨h1,.inr ⟨h2,h3⟩⟩) ⟨hg,rfl,h⟩;rintro _ z st' _ _ ⟨h1,h2,h3⟩;split;·refine Vcq (Xsr hO hA ma mb sa sb hl h1 hk h3) λr J q=>?_;cases r<;>exact q
 ·refine Vcq (Xsr hO hA ma mb sa sb hl h1 hk h3) λr J q=>?_;cases r<;>exact q
end
section
variable{prog:Ua}{w:Uq}{A:Uy}{E:VP}{s:Vc}{κ:Vdb}{R:Vk->Vk->Bool}{mem:Vk->Prop}{W:List Vk}{a b o:Array Vk}{i j N g c d:Nat}{st st0:V1}
variable(hO:Ord R)(hA:Xeq prog w A E s κ R mem)(ma:∀x∈a.toList,mem x)(mb:∀x∈b.toList,mem x)(sa:a.toList.Pairwise (LeK R))(sb:b.toList.Pairwise (LeK R))(hl:∀x∈a.toList,LeK R (kat b 0) x)
include hl hO hA ma mb sa sb
theorem Xz4{t:Nat}(hg:Glp st0 st)(hk:Vah st0=κ)(ht:0<t)(h:JK R W a b N o i j):wpS (Vj prog w) A E s (Xv1 a b t g (yy,i,j,o,0,0)) (λz st'=>Glp st0 st'/\Xv2 R W a b (N+1) z.1 z.2.2.2.1 z.2.1 z.2.2.1) st:=by
 unfold Xv1;refine Vaw (I:=λx z st'=>Glp st0 st'/\z.1=yy/\JK R W a b (N+min x 1) z.2.2.2.1 z.2.1 z.2.2.1) ?_ (λz st' ⟨h1,h2,h3⟩=>⟨h1,.inr ⟨h2,by rw[show N+min (max 0 t) 1=N+1 by omega]at h3;exact h3⟩⟩) ⟨hg,rfl,(by simpa using h:JK R W a b (N+min 0 1) o i j)⟩;rintro x ⟨z0,i,j,o,c,d⟩ st' _ _ ⟨hg,h2,h3⟩;obtain⟨h,h0,hi,Y,L,hN⟩:=h3;dsimp only at h h0 hi Y L hN ⊢;unfold X3x;refine Vs (Yi (by omega) (Vs (Yi (by omega) ?_)));refine Vs (hA _ _ _ _ (mb _ (Yc (by omega))) (ma _ (Yc (by omega))) (by rw[hg.kind];exact hk) ?_);cases e:R (kat b (j-1)) (kat a (i-1)) with
 |true=>
  dsimp only;rw[iP0 rfl];refine Vs (Yi (by omega) ?_);have h':=h.pa h0 hi (Xhv (a:=b) hO sb (by omega) L (hO.as e));by_cases q:i-1=0;·rw[iP0 (by simpa using q)];exact Vx ⟨hg,.inl ⟨_,rfl,h'.fin (.inl q)⟩⟩
  ·rw[iN0 (by simpa using q)];have J:∀m,m<=N+1->JK R W a b m (o.push (kat a (i-1))) (i-1) j:=λm hm=>⟨h',by omega,by omega,Y,L,by omega⟩;split;·exact Vx ⟨hg,.inr ⟨rfl,J _ (Vf _)⟩⟩
   ·exact Vx ⟨hg,rfl,J _ (by omega)⟩|false=>
  dsimp only;rw[iN0 (by decide)];refine Vs (Yi (by omega) ?_);have h':=h.pb (by omega) L (Xhv hO sa h0 hi e);by_cases q:j-1=1;·rw[iP0 (by simpa using q)];exact Vx ⟨hg,.inl ⟨_,rfl,h'.lst hl q⟩⟩
  ·rw[iN0 (by simpa using q)];have J:∀m,m<=N+1->JK R W a b m (o.push (kat b (j-1))) i (j-1):=λm hm=>⟨h',h0,hi,by omega,by omega,by omega⟩;split;·exact Vx ⟨hg,.inr ⟨rfl,J _ (Vf _)⟩⟩
   ·exact Vx ⟨hg,rfl,J _ (by omega)⟩
theorem Xz5{t:Nat}(hg:Glp st0 st)(hk:Vah st0=κ)(ht:a.size+b.size<=t)(h:JK R W a b 0 o i j):wpS (Vj prog w) A E s (Xqy a b t (yy,i,j,o,g)) (λz st'=>Glp st0 st'/\∃r,z.1=yz r/\Srt (LeK R) W r.toList) st:=by
 unfold Xqy;refine Vaw (I:=λx z st'=>Glp st0 st'/\z.1=yy/\JK R W a b x z.2.2.2.1 z.2.1 z.2.2.1) ?_ (λz st' ⟨h1,h2,h3⟩=>by have:=h3.2.1;have:=h3.2.2.2.1;have:=h3.2.2.2.2.2;omega) ⟨hg,rfl,h⟩;rintro x ⟨z0,i,j,o,g⟩ st' _ _ ⟨hg,h2,h3⟩;have hp:0<t:=by have h5:=h3.2.1;have h6:=h3.2.2.1;dsimp only at h5 h6;omega
 refine Vs (Vcq (Xz4 hO hA ma mb sa sb hl hg hk hp h3) λy aa q=>?_);obtain⟨J,q⟩:=q;obtain⟨y0,y1,y2,y3,y4,y5⟩:=y;rcases q with⟨r,e,hr⟩|⟨e,h4⟩;·subst e;exact Vx ⟨J,r,rfl,hr⟩
 ·subst e;refine Vs (wpS_lift (Vbf ⟨rfl,?_⟩));refine Vs (Vcq (Xz3 hO hA ma mb sa sb hl J hk h4) λz ab q=>?_);obtain⟨L,q⟩:=q;obtain⟨z0,z1,z2,z3,z4,z5,z6⟩:=z;rcases q with⟨r,e,hr⟩|⟨e,h5⟩;·subst e;exact Vx ⟨L,r,rfl,hr⟩
  ·subst e;refine Vs (Xfr λac Y=>Vx ⟨L.trans Y,rfl,h5⟩)
theorem X3z{Q:Array Vk->V1->Prop}(hk:Vah st=κ)(ha:0<a.size)(hb:0<b.size)(hz:LeK R (kat b (b.size-1)) (kat a (a.size-1)))(hW:W=a.toList++b.toList)
  (hQ:∀r J,Glp st J->Srt (LeK R) W r.toList->Q r J):wpS (Vj prog w) A E s (Xea a b) Q st:=by
 rw[X3y];refine Vs (wpS_lift (Vbf ⟨rfl,?_⟩));refine Vs (Yi (by omega) ?_);have j0:Jh R W a b #[] a.size b.size:=by
  refine⟨?_,.nil,λx q=>(by cases q),?_,?_⟩;·rw[hW,Vap (by simp),Vap (by simp)];exact(Vht _).append (Vht _)
  ·rw[Vap (by simp)];exact Vgp.mpr sa
  rw[Vap (by simp)];exact Vgp.mpr sb
 have L:Jh R W a b #[kat a (a.size-1)] (a.size-1) b.size:=j0.pa ha (Vf _) (Xhv (a:=b) hO sb hb (Vf _) hz);by_cases q:a.size-1=0;·rw[iP0 (by simpa using q)];exact Vx (hQ _ _ .refl (L.fin (.inl q)))
 ·rw[iN0 (by simpa using q)];by_cases Y:b.size=1;·rw[iP0 (by simpa using Y)];exact Vx (hQ _ _ .refl (L.lst hl Y))
  ·rw[iN0 (by simpa using Y)];refine Vs (wpS_get ?_);refine Vs (Vcq (Xz5 hO hA ma mb sa sb hl .refl hk (Vf _) ⟨L,by omega,by omega,by omega,by omega,by omega⟩) λz J q=>?_);obtain⟨hg,r,e,hr⟩:=q;obtain⟨z0,z1⟩:=z;subst e;exact Vx (hQ r _ hg hr)
end
noncomputable def X30(p:Nat)(r:Array Vk):StateT V1 Sem Bool:=do
 modify λs=>setArr s (r.toList.zipIdx.foldl (λa (z,j)=>a.setIfInBounds (p+j) z) (Vr s))
 let s <- get
 pure (Vb3 s).isNone
noncomputable def Xv3(s:V1)(p n q m:Nat):StateT V1 Sem Bool:=do
 let x <- Vdf (Vr s) q
 let r <- Xat yw x (Vr s) p n 0
 match r with
 |some k=>
  if (n-k==0)=yx then pure yx else do
   let x <- Vdf (Vr s) (p+k+(n-k)-1)
   let r <- Xat yx x (Vr s) q m (m-1)
   match r with
   |some m=>if (m==0)=yx then pure yx else if n-k<=m then Xd8 ((Vr s).extract (p+k) q) ((Vr s).extract q (q+m)) >>= X30 (p+k) else Xea ((Vr s).extract (p+k) q) ((Vr s).extract q (q+m)) >>= X30 (p+k)|_=>pure yw
 |_=>pure yw
theorem X31(i p n v q m v':Nat)(s:V1)(L:(Ug s)[i]?=yz (p,n,v))(J:(Ug s)[i+1]?=yz (q,m,v')):(mergeAt' i).run s=(do
  set (setPending s (((Ug s).setIfInBounds i (p,n+m,v)).eraseIdxIfInBounds (i+1)))
  Xv3 s p n q m:StateT V1 Sem Bool).run s:=by
 have h:mergeAt' i=(get >>= λs=>match (Ug s)[i]?,(Ug s)[i+1]? with
  |some (p,n,v),yz (q,m,_)=>(do
   set (setPending s (((Ug s).setIfInBounds i (p,n+m,v)).eraseIdxIfInBounds (i+1)))
   Xv3 s p n q m:StateT V1 Sem Bool)
  |_,_=>liftM (unsupported "internal:list.sort.pending" : Sem Bool)):=by
  refine bind_congr λs=>?_;cases (Ug s)[i]? with
  |none=>rfl|some x=>
   obtain⟨p,n,v⟩:=x;cases (Ug s)[i+1]? with
   |none=>rfl|some y=>
    obtain⟨q,m,v'⟩:=y;refine bind_congr λ_=>Xs rfl λx=>Xs rfl λr=>?_;cases r with
    |none=>rfl|some k=>
     refine ite_congr rfl (λ_=>rfl) λ_=>Xs rfl λx=>Xs rfl λr=>?_;cases r with
     |none=>rfl|some m=>exact ite_congr rfl (λ_=>rfl) λ_=>ite_congr rfl (λ_=>rfl) λ_=>rfl
 rw[h,StateT.run_bind,StateT.run_get,pure_bind];simp only[L,J]
theorem Xl7(q:Nat):∀(l:List Vk) (k:Nat) (a:Array Vk),q+k+ll l<=a.size->((l.zipIdx k).foldl (λa p=>a.setIfInBounds (q+p.2) p.1) a).toList=a.toList.take (q+k)++l++a.toList.drop (q+k+ll l)
 |[]=>λk a h=>by simp|x::l=>λk a h=>by
  rw[U4]at h;rw[List.zipIdx_cons,Vgs,Xl7 q l (k+1) _ (by rw[Array.size_setIfInBounds];omega),Vhm];have hl:q+k<ll a.toList:=by rw[U7];omega
  have J:(a.toList.set (q+k) x).take (q+(k+1))=a.toList.take (q+k)++[x]:=by rw[show q+(k+1)=q+k+1 by omega,Vd3 (by rw[List.length_set];exact hl),List.getElem_set_self,List.take_set_of_le (Vf _)]
  rw[J,List.drop_set_of_lt (by omega),U4,show q+(k+1)+ll l=q+k+(ll l+1) by omega];simp
section
variable{le:α->α->Prop}{U V Z':List α}{k m:Nat}
theorem Yay(hU:U.Pairwise le)(hV:V.Pairwise le)(h1:∀x∈U.take k,∀y∈V,le x y)(h2:∀x∈U,∀y∈V.drop m,le x y)(hZ:Srt le (U.drop k++V.take m) Z'):Srt le (U++V) (U.take k++(Z'++V.drop m)):=by
 obtain⟨Y,z2⟩:=hZ;have ab:(U.take k++U.drop k).Pairwise le:=by rw[Ux];exact hU
 have aa:(V.take m++V.drop m).Pairwise le:=by rw[Ux];exact hV
 obtain⟨u1,u2,u3⟩:=U9.mp ab;obtain⟨v1,v2,v3⟩:=U9.mp aa;refine⟨?_,U9.mpr ⟨u1,U9.mpr ⟨z2,v2,λx J y L=>?_⟩,λx J y L=>?_⟩⟩
 ·have e:U++V=U.take k++((U.drop k++V.take m)++V.drop m):=by
   rw[Vt,Ux,<-Vt,Ux]
  rw[e];exact(Y.append_right _).append_left _
 ·rcases Uf.mp (Y.mem_iff.mp J) with q|q;·exact h2 x (Vbe q) y L
  ·exact v3 x q y L
 rcases Uf.mp L with q|q
 ·rcases Uf.mp (Y.mem_iff.mp q) with q|q;·exact u3 x J y q
  ·exact h1 x J y (Vaq q)
 exact h1 x J y (Vbe q)
end
def KeepK(a a':Array Vk)(p q:Nat):Prop:=a'.Perm a/\∀k,k<p\/q<=k->kat a' k=kat a k
def SegS(R:Vk->Vk->Bool)(a:Array Vk)(p n:Nat):Prop:=∀i j,i<j->j<n->LeK R (kat a (p+i)) (kat a (p+j))
theorem Xcl{a:Array Vk}{q n:Nat}(h:q+n<=a.size):((a.toList.drop q).take n).length=n:=by rw[Vaa,Vd2,U7];omega
theorem Xss{R:Vk->Vk->Bool}{a:Array Vk}{p n:Nat}(h:SegS R a p n)(x y:Nat)(h1:p<=x)(h2:x<y)(J:y<p+n):LeK R (kat a x) (kat a y):=by obtain⟨x,rfl⟩:=Vc4 h1;obtain⟨y,rfl⟩:=Vc4 (V4 h1 (Vd1 h2));exact h x y (Vfk h2) (Vfk J)
theorem Xdp{a:Array Vk}{q n:Nat}{z:Vk}(h:z∈(a.toList.drop q).take n):∃x,x<n/\q+x<a.size/\z=kat a (q+x):=by obtain⟨j,L,Y,J,rfl⟩:=Xck h;obtain⟨x,rfl⟩:=Vc4 L;exact⟨x,Vfk Y,J,rfl⟩
theorem Ord.rf{R:Vk->Vk->Bool}(h:Ord R)(x:Vk):LeK R x x:=by
 cases e:R x x with
 |false=>exact e|true=>have:=h.as e;rw[e]at this;cases this
theorem KeepK.size{a a':Array Vk}{p q:Nat}(h:KeepK a a' p q):a'.size=a.size:=h.1.size_eq
theorem KeepK.rf{a:Array Vk}{p q:Nat}:KeepK a a p q:=⟨.refl _,λ_ _=>rfl⟩
theorem KeepK.trans{a b c:Array Vk}{p q:Nat}(h:KeepK a b p q)(h':KeepK b c p q):KeepK a c p q:=⟨h'.1.trans h.1,λk hk=>(h'.2 k hk).trans (h.2 k hk)⟩
theorem KeepK.seg{R:Vk->Vk->Bool}{a b:Array Vk}{p q i n:Nat}(h:KeepK a b p q)(hk:i+n<=p\/q<=i)(hs:SegS R a i n):SegS R b i n:=λx y h1 h2=>by rw[h.2 (i+x) (by omega),h.2 (i+y) (by omega)];exact hs x y h1 h2
theorem KeepK.mem{mem:Vk->Prop}{a b:Array Vk}{p q:Nat}(h:KeepK a b p q)(J:∀x∈a.toList,mem x):∀x∈b.toList,mem x:=λx L=>J x ((Vdn.mp h.1).mem_iff.mp L)
theorem Xg2{a:Array Vk}{i:Nat}:kat a i=a.toList.getD i (.none,.none):=by unfold kat;rw[Ve5,V9,Vcg]
theorem Xl8{R:Vk->Vk->Bool}{a:Array Vk}{A U B:List Vk}(e:a.toList=A++(U++B)):SegS R a A.length U.length ↔ U.Pairwise (LeK R):=by
 have hk:∀i (h:i<ll U),kat a (ll A+i)=U[i]:=λi h=>by rw[Xg2,e,V9,Us (by omega),show (ll A)+i-ll A=i by omega,Vu h,Uh h];rfl
 rw[Vh1];refine⟨λh i j hi L J=>?_,λh i j J L=>?_⟩;·have:=h i j J L;rw[hk i hi,hk j L]at this;exact this
 ·rw[hk i (by omega),hk j L];exact h i j (by omega) L J
theorem Yaz(a:Array Vk)(p n:Nat):a.toList=a.toList.take p++((a.toList.drop p).take n++a.toList.drop (p+n)):=by rw[<-Vch,Ux,Ux]
theorem Xdq{R:Vk->Vk->Bool}{a:Array Vk}{p n:Nat}(h:p+n<=a.size):SegS R a p n ↔ ((a.toList.drop p).take n).Pairwise (LeK R):=by have:=Xl8 (R:=R) (Yaz a p n);rwa [Vaa,Vaa,Vd2,U7,show min p a.size=p by omega,show min n (a.size-p)=n by omega]at this
section
variable{prog:Ua}{w:Uq}{A:Uy}{E:VP}{s:Vc}{κ:Vdb}{R:Vk->Vk->Bool}{mem:Vk->Prop}{st:V1}
variable(hO:Ord R)(hA:Xeq prog w A E s κ R mem)
include hO hA
theorem X32{β:Type}{f:Array Vk->StateT V1 Sem β}{x y:Array Vk}{n m:Nat}{W:List Vk}{Q:β->V1->Prop}(hk:Vah st=κ)(mx:∀z∈x.toList,mem z)(my:∀z∈y.toList,mem z)(sx:x.toList.Pairwise (LeK R))(sy:y.toList.Pairwise (LeK R))(L:0<x.size)(Y:0<y.size)
  (h1:∀z∈x.toList,LeK R (kat y 0) z) (h2:∀z∈y.toList,LeK R z (kat x (x.size-1))) (hW:W=x.toList++y.toList) (hQ:∀r J,Glp st J->Srt (LeK R) W r.toList->wpS (Vj prog w) A E s (f r) Q J):
  wpS (Vj prog w) A E s (if n<=m then Xd8 x y >>= f else Xea x y >>= f) Q st:=by
 split;·refine Vs (X3v hO hA mx my sx sy (λz hz u hu=>?_) hk L Y (h1 _ (Yc L)) hW hQ);obtain⟨k,k1,k2,rfl⟩:=Xct hu;rw[show k=x.size-1 by omega];exact h2 z hz
 ·exact Vs (X3z hO hA mx my sx sy h1 hk L Y (h2 _ (Yc (by omega))) hW hQ)
theorem X33{i p n v q m v':Nat}{Q:Bool->V1->Prop}(hk:Vah st=κ)(hf:Vb3 st=yy)(ma:∀x∈(Vr st).toList,mem x)(e1:(Ug st)[i]?=yz (p,n,v))(e2:(Ug st)[i+1]?=yz (q,m,v'))
  (hq:q=p+n) (hn:0<n) (hm:0<m) (hz:q+m<=(Vr st).size) (s1:SegS R (Vr st) p n) (s2:SegS R (Vr st) q m)
  (hQ:∀Y,Vah Y=κ->Vb3 Y=yy->Ug Y=((Ug st).setIfInBounds i (p,n+m,v)).eraseIdxIfInBounds (i+1)->KeepK (Vr st) (Vr Y) p (q+m)->SegS R (Vr Y) p (n+m)->Q yx Y):
  wpS (Vj prog w) A E s (mergeAt' i) Q st:=by
 subst hq;unfold wpS;rw[X31 i p n v (p+n) m v' st e1 e2];show wpS (Vj prog w) A E s (_:StateT V1 Sem Bool) Q st;refine Vs (Vf4 (f:=λ_=>setPending st (((Ug st).setIfInBounds i (p,n+m,v)).eraseIdxIfInBounds (i+1))) ?_);unfold Xv3;refine Vs (Yi (by omega) ?_);have ab:∀x y,p<=x->x<y->y<p+n->LeK R (kat (Vr st) x) (kat (Vr st) y):=Xss s1;have aa:∀x y,p+n<=x->x<y->y<p+n+m->LeK R (kat (Vr st) x) (kat (Vr st) y):=Xss s2;refine Vs (Xqv hO hA hk (ma _ (Yc (by omega))) (by omega) ma ab hn λk ac a1 a2=>?_);dsimp only;have fin:(∀x,x<n->LeK R (kat (Vr st) (p+x)) (kat (Vr st) (p+n)))->SegS R (Vr st) p (n+m):=λh x y h1 h2=>by
  by_cases c1:y<n;·exact s1 x y h1 c1
  ·by_cases c2:n<=x;·have:=aa (p+x) (p+y) (by omega) (by omega) (by omega);exact this
   ·have g1:=h x (by omega);by_cases c3:y=n;·subst c3;exact g1
    ·exact hO.tr g1 (aa (p+n) (p+y) (by omega) (by omega) (by omega))
 obtain⟨d,rfl⟩:=Vc4 ac;rw[Vbb];by_cases c:d=0;·rw[iP0 (by simpa using c)];exact Vx (hQ _ hk hf rfl .rf (fin λx hx=>a1 x (by omega)))
 ·rw[iN0 (by simpa using c)];obtain⟨d,rfl⟩:∃e,d=e+1:=⟨d-1,by omega⟩;clear c;rw[show p+k+(d+1)-1=p+k+d from rfl];refine Vs (Yi (by omega) ?_);refine Vs (Xqw hO hA hk (ma _ (Yc (by omega))) (by omega) ma aa (by omega) λJ af b1 b2=>?_);dsimp only;obtain⟨e,rfl⟩:=Vc4 af;have L:∀x,x<(k+(d+1))->LeK R (kat (Vr st) (p+x)) (kat (Vr st) (p+k+d)):=λx hx=>by
   by_cases dd:x=k+d;·subst dd;rw[<-Vfb];exact hO.rf _
   ·exact ab _ _ (by omega) (by omega) (by omega)
  by_cases c':J=0;·rw[iP0 (by simpa using c')];refine Vx (hQ _ hk hf rfl .rf (fin λx hx=>hO.tr (L x hx) (b2 0 (by omega) hm)))
  ·rw[iN0 (by simpa using c')];have ex:((Vr st).extract (p+k) (p+(k+(d+1)))).toList=((Vr st).toList.drop (p+k)).take ((d+1)):=by
    have:=Xft (Vr st) (p+k) ((d+1));rwa [show p+k+((d+1))=p+(k+(d+1)) by omega]at this
   have ey:=Xft (Vr st) (p+(k+(d+1))) J;have zx:((Vr st).extract (p+k) (p+(k+(d+1)))).size=(d+1):=by rw[<-U7,ex,Xcl (by omega)]
   have zy:((Vr st).extract (p+(k+(d+1))) (p+(k+(d+1))+J)).size=J:=by rw[<-U7,ey,Xcl (by omega)]
   have kx:∀x,x<(d+1)->kat ((Vr st).extract (p+k) (p+(k+(d+1)))) x=kat (Vr st) (p+k+x):=λx hx=>by rw[Xbg (by rw[zx];exact hx),Xbg (by omega),Array.getElem_extract]
   have ky:∀x,x<J->kat ((Vr st).extract (p+(k+(d+1))) (p+(k+(d+1))+J)) x=kat (Vr st) (p+(k+(d+1))+x):=λx hx=>by rw[Xbg (by rw[zy];exact hx),Xbg (by omega),Array.getElem_extract]
   have ae:∀z∈((Vr st).extract (p+k) (p+(k+(d+1)))).toList,∃x,k<=x/\x<(k+(d+1))/\z=kat (Vr st) (p+x):=λz hz=>by rw[ex]at hz;obtain⟨x,j2,_,rfl⟩:=Xdp hz;exact⟨k+x,Vgm ..,Nat.add_lt_add_left j2 k,by rw[Vfb]⟩
   have ah:∀z∈((Vr st).extract (p+(k+(d+1))) (p+(k+(d+1))+J)).toList,∃x,x<J/\z=kat (Vr st) (p+(k+(d+1))+x):=λz hz=>by rw[ey]at hz;obtain⟨x,j2,_,e⟩:=Xdp hz;exact⟨x,j2,e⟩
   refine X32 hO hA (W:=((Vr st).toList.drop (p+k)).take ((d+1))++((Vr st).toList.drop (p+(k+(d+1)))).take J) hk (λz hz=>?_) (λz hz=>?_) ?_ ?_ (by rw[zx];omega) (by rw[zy];omega) (λz hz=>?_) (λz hz=>?_) (by rw[ex,ey]) λr ak hg hr=>?_;·obtain⟨x,x1,x2,rfl⟩:=ae z hz;exact ma _ (Yc (by omega))
   ·obtain⟨x,x1,rfl⟩:=ah z hz;exact ma _ (Yc (by omega))
   ·rw[ex,<-Xdq (by omega)];exact λx y h1 h2=>ab _ _ (by omega) (by omega) (by omega)
   ·rw[ey,<-Xdq (by omega)];exact λx y h1 h2=>aa _ _ (by omega) (by omega) (by omega)
   ·obtain⟨x,x1,x2,rfl⟩:=ae z hz;rw[ky 0 (by omega)];exact hO.as (a2 x x1 x2)
   ·obtain⟨x,x1,rfl⟩:=ah z hz;rw[zx,kx _ (by omega),show p+k+((d+1)-1)=p+k+d from rfl];exact hO.as (b1 x x1)
   -- what is laid back
   obtain⟨g,rfl⟩:=hg;refine Vs (Vf4 (Vs (wpS_get ?_)));have aj:(Vb3 st).isNone=true:=by rw[hf];rfl
   refine Vx (show Q (Vb3 st).isNone _ from ?_);rw[aj];have lr:(ll r.toList)=(d+1)+J:=by rw[hr.1.length_eq,V3,Xcl (by omega),Xcl (by omega)]
   have ai:=Xl7 (p+k) r.toList 0 (Vr st) (by rw[lr];omega);have hU:=(Xdq (R:=R) (a:=Vr st) (p:=p) (n:=(k+(d+1))) (by omega)).mp s1;have hV:=(Xdq (R:=R) (a:=Vr st) (p:=p+(k+(d+1))) (n:=(J+e)) (by omega)).mp s2;have eU:((Vr st).toList.drop (p+k)).take ((d+1))=(((Vr st).toList.drop p).take (k+(d+1))).drop k:=by rw[Vhb,Vch,Vbb]
   have eV:((Vr st).toList.drop (p+(k+(d+1)))).take J=(((Vr st).toList.drop (p+(k+(d+1)))).take (J+e)).take J:=by rw[Vha,Vcn af]
   have gl:=Yay (k:=k) (m:=J) hU hV (λx hx y hy=>?_) (λx hx y hy=>?_) (Z':=r.toList) (by rw[<-eU,<-eV];exact hr)
   ·have eA:(r.toList.zipIdx.foldl (λa x=>a.setIfInBounds (p+k+x.2) x.1) (Vr st)).toList=(Vr st).toList.take p++((((Vr st).toList.drop p).take (k+(d+1))).take k++(r.toList++(((Vr st).toList.drop (p+(k+(d+1)))).take (J+e)).drop J)++(Vr st).toList.drop (p+(k+(d+1))+(J+e))):=by
     rw[ai,lr,Vt];have t1:(Vr st).toList.take (p+k+0)=(Vr st).toList.take p++(((Vr st).toList.drop p).take (k+(d+1))).take k:=by rw[Vex,Vha,Vcn ac,List.take_add]
     have t2:(Vr st).toList.drop (p+k+0+((d+1)+J))=(((Vr st).toList.drop (p+(k+(d+1)))).take (J+e)).drop J++(Vr st).toList.drop (p+(k+(d+1))+(J+e)):=by rw[Vhb,Vch,show p+k+0+((d+1)+J)=p+(k+(d+1))+J by omega,Vbb];have:=(Ux e ((Vr st).toList.drop (p+(k+(d+1))+J))).symm;rwa [Vch,Vfb (p+(k+(d+1))) J e]at this
     rw[t1,t2];simp only[Vt]
    have eB:(Vr st).toList=(Vr st).toList.take p++((((Vr st).toList.drop p).take (k+(d+1))++((Vr st).toList.drop (p+(k+(d+1)))).take (J+e))++(Vr st).toList.drop (p+(k+(d+1))+(J+e))):=by rw[Vt,<-Vch (i:=(J+e)),Ux,<-Vch,Ux,Ux]
    have lU:((((Vr st).toList.drop p).take (k+(d+1))).take k++(r.toList++(((Vr st).toList.drop (p+(k+(d+1)))).take (J+e)).drop J)).length=(k+(d+1))+(J+e):=by rw[gl.1.length_eq,V3,Xcl (by omega),Xcl (by omega)]
    have lA:((Vr st).toList.take p).length=p:=by rw[Vaa,U7];omega
    refine hQ _ hk hf rfl ⟨?_,λj hj=>?_⟩ ?_;·show Array.Perm (r.toList.zipIdx.foldl (λa x=>a.setIfInBounds (p+k+x.2) x.1) (Vr st)) _;rw[Vdn,eA];exact(((gl.1.append_right _).append_left _).trans (by rw[<-eB]))
    ·show kat (r.toList.zipIdx.foldl (λa x=>a.setIfInBounds (p+k+x.2) x.1) (Vr st)) j=_;rw[Xg2,Xg2,eA];have lW:(((Vr st).toList.drop p).take (k+(d+1))++((Vr st).toList.drop (p+(k+(d+1)))).take (J+e)).length=(k+(d+1))+(J+e):=by rw[<-gl.1.length_eq,lU]
     rw[V9,V9]
     conv=>rhs;rw[eB]
     rcases hj with hj|hj;·rw[Vu (by omega),Vu (by omega)]
     ·rw[Us (by omega),Us (by omega),Us (by omega),Us (by omega),lU,lW]
    show SegS R (r.toList.zipIdx.foldl (λa x=>a.setIfInBounds (p+k+x.2) x.1) (Vr st)) p ((k+(d+1))+(J+e));have:=(Xl8 (R:=R) eA).mpr gl.2;rwa [lA,lU]at this
   ·rw[Vha,Vcn ac]at hx;obtain⟨j,j2,_,rfl⟩:=Xdp hx;obtain⟨l,l2,_,rfl⟩:=Xdp hy;have g:=a1 j j2;by_cases dd:l=0;·subst dd;exact g
    ·exact hO.tr g (aa _ _ (Vf _) (by omega) (by omega))
   rw[Vhb,Vch]at hy;obtain⟨j,j2,_,rfl⟩:=Xdp hx;obtain⟨l,l2,_,rfl⟩:=Xdp hy;rw[Vbb]at l2;have g:=b2 (J+l) (Vgm ..) (Nat.add_lt_add_left l2 _);rw[<-Vfb]at g;exact hO.tr (L j j2) g
end
noncomputable def upL(q a n:Nat):StateT V1 Sem (Option (Option Nat)×Nat):=forIn [a:n] (yy,a) λ_ z=>do
 let x <- ltAt' (q+z.2) (q+z.2-1)
 match x with
 |some y=>if y=yx then pure (.done (yy,z.2)) else pure (.yield (yy,z.2+1))|_=>pure (.done (yz yy,z.2))
noncomputable def upE(q m n:Nat):StateT V1 Sem (Option Nat):=do
 Vgg q (q+m)
 let z <- upL q m n
 match z.1 with
 |some r=>pure r|none=>pure (yz z.2)
noncomputable def dnL(q a n:Nat):StateT V1 Sem (Option (Option Nat)×Nat×Nat):=forIn [a:n] (yy,a,0) λ_ z=>do
 let x <- ltAt' (q+z.2.1) (q+z.2.1-1)
 match x with
 |some y=>
  if y=yx then
   if z.2.2>0 then do
    Vgg (q+z.2.1-(z.2.2+1)) (q+z.2.1)
    pure (.yield (yy,z.2.1+1,0))
   else pure (.yield (yy,z.2.1+1,0))
  else do
   let x <- ltAt' (q+z.2.1-1) (q+z.2.1)
   match x with
   |some y=>if y=yx then pure (.done (yy,z.2.1,z.2.2)) else pure (.yield (yy,z.2.1+1,z.2.2+1))|_=>pure (.done (yz yy,z.2.1,z.2.2))
 |_=>pure (.done (yz yy,z.2.1,z.2.2))
noncomputable def dnE(q m n:Nat):StateT V1 Sem (Option Nat):=do
 liftM (rule "list.sort.descending-run")
 let z <- dnL q (m+1) n
 match z.1 with
 |some r=>pure r|none=>
  if z.2.2>0 then do
   Vgg (q+z.2.1-(z.2.2+1)) (q+z.2.1)
   upE q z.2.1 n
  else upE q z.2.1 n
theorem X34(q n:Nat):countRun' q n=(do
  let z <- upL q 1 n
  match z.1 with
  |some r=>pure r|none=>
   if (z.2==n)=yx then pure (yz z.2)
   else if z.2>1 then do
    let x <- ltAt' q (q+z.2-1)
    match x with
    |some y=>if y=yx then pure (yz z.2) else do
      Vgg q (q+z.2)
      dnE q z.2 n|_=>pure yy
   else dnE q z.2 n):=by
 refine Xs rfl λz=>?_;obtain⟨J,Y⟩:=z;cases J with
 |some r=>rfl|none=>
  refine ite_congr rfl (λ_=>rfl) λ_=>ite_congr rfl (λ_=>Xs rfl λx=>?_) λ_=>?_
  ·cases x with
   |none=>rfl|some y=>
    refine ite_congr rfl (λ_=>rfl) λ_=>bind_congr λ_=>?_;refine bind_congr λ_=>Xs rfl λc=>?_;obtain⟨L,c2,c3⟩:=c;cases L with
    |some r=>rfl|none=>
     refine ite_congr rfl (λ_=>bind_congr λ_=>bind_congr λ_=>Xs rfl λz=>?_) λ_=>bind_congr λ_=>Xs rfl λz=>?_
     all_goals (obtain⟨J,Y⟩:=z;cases J<;>rfl)
  refine bind_congr λ_=>Xs rfl λc=>?_;obtain⟨L,c2,c3⟩:=c;cases L with
  |some r=>rfl|none=>
   refine ite_congr rfl (λ_=>bind_congr λ_=>bind_congr λ_=>Xs rfl λz=>?_) λ_=>bind_congr λ_=>Xs rfl λz=>?_
   all_goals (obtain⟨J,Y⟩:=z;cases J<;>rfl)
theorem Xfv{xs:Array Vk}{i j:Nat}(J:j<=xs.size)(k:Nat):kat (mirror xs i j ((j-i)/2)) k=if i<=k/\k<j then kat xs (i+j-1-k) else kat xs k:=by simp only[kat,Ve5,getElem?_mirror_all J];split<;>rfl
theorem Xiv{xs:Array Vk}{a d:Nat}(h:a<xs.size)(hd:d<=a)(k:Nat):kat (bubble xs a d) k=if k=a-d then kat xs a else if a-d<k/\k<=a then kat xs (k-1) else kat xs k:=by
 simp only[kat,Ve5,getElem?_bubble h d hd];split;·rfl
 ·split<;>rfl
structure Bs(κ:Vdb)(P:Array (Nat×Nat×Nat))(a:Array Vk)(p q:Nat)(st:V1):Prop where
 kd:Vah st=κ
 fl:Vb3 st=yy
 pn:Ug st=P
 kp:KeepK a (Vr st) p q
section
variable{κ:Vdb}{P:Array (Nat×Nat×Nat)}{a:Array Vk}{p q:Nat}{st:V1}{R:Vk->Vk->Bool}
theorem Bs.sz(h:Bs κ P a p q st):(Vr st).size=a.size:=h.kp.size
theorem Bs.rev{i j:Nat}(h:Bs κ P a p q st)(hi:p<=i)(J:j<=q)(L:q<=a.size):Bs κ P a p q (setArr st (mirror (Vr st) i j ((j-i)/2))):=
 ⟨h.kd,h.fl,h.pn,h.kp.trans ⟨mirror_perm _ _ _ _,λk hk=>by show kat (mirror (Vr st) i j ((j-i)/2)) k=_;rw[Xfv (by rw[h.sz];omega),iN0 (by omega)]⟩⟩
theorem Bs.bub{i j:Nat}(h:Bs κ P a p q st)(hi:p<=j)(J:j<=i)(L:i<q)(Y:q<=a.size):Bs κ P a p q (setArr st (bubble (Vr st) i (i-j))):=
 ⟨h.kd,h.fl,h.pn,h.kp.trans ⟨bubble_perm _ _ _,λk hk=>by show kat (bubble (Vr st) i (i-j)) k=_;rw[Xiv (by rw[h.sz];omega) (by omega),iN0 (by omega),iN0 (by omega)]⟩⟩
def DecS(R:Vk->Vk->Bool)(a:Array Vk)(p n:Nat):Prop:=∀i j,i<j->j<n->LeK R (kat a (p+j)) (kat a (p+i))
def Xl9(R:Vk->Vk->Bool)(a:Array Vk)(p q:Nat):Prop:=∀i j,p<=i->i<q->p<=j->j<q->LeK R (kat a i) (kat a j)
theorem SegS.more(hO:Ord R){x:Nat}(h:SegS R a p x)(h1:1<=x)(hl:LeK R (kat a (p+x-1)) (kat a (p+x))):SegS R a p (x+1):=λi j J L=>by
 by_cases c:j<x;·exact h i j J c
 ·obtain rfl:j=x:=by omega
  obtain⟨j,rfl⟩:∃k,j=k+1:=⟨j-1,by omega⟩;by_cases d:i=j;·subst d;exact hl
  ·have:=h i j (by omega) (Vbu _);exact hO.tr this hl
theorem DecS.more(hO:Ord R){x:Nat}(h:DecS R a p x)(h1:1<=x)(hl:LeK R (kat a (p+x)) (kat a (p+x-1))):DecS R a p (x+1):=λi j J L=>by
 by_cases c:j<x;·exact h i j J c
 ·obtain rfl:j=x:=by omega
  obtain⟨j,rfl⟩:∃k,j=k+1:=⟨j-1,by omega⟩;by_cases d:i=j;·subst d;exact hl
  ·have:=h i j (by omega) (Vbu _);exact hO.tr hl this
theorem Xiw(hO:Ord R){i j:Nat}(L:j<=a.size)(J:Xl9 R a i j)(k:Nat):LeK R (kat (mirror a i j ((j-i)/2)) k) (kat a k)/\LeK R (kat a k) (kat (mirror a i j ((j-i)/2)) k):=by
 rw[Xfv L];split;·exact⟨J _ _ (by omega) (by omega) (by omega) (by omega),J _ _ (by omega) (by omega) (by omega) (by omega)⟩
 ·exact⟨hO.rf _,hO.rf _⟩
theorem DecS.eqv(hO:Ord R){b:Array Vk}{n:Nat}(h:DecS R a p n)(L:∀k,LeK R (kat b k) (kat a k)/\LeK R (kat a k) (kat b k)):DecS R b p n:=λi j J Y=>hO.tr ((L _).1) (hO.tr (h i j J Y) (L _).2)
end
section
variable{prog:Ua}{w:Uq}{A:Uy}{E:VP}{s:Vc}{κ:Vdb}{R:Vk->Vk->Bool}{mem:Vk->Prop}{st:V1}{P:Array (Nat×Nat×Nat)}{a₀:Array Vk}{p n:Nat}
theorem Xhw{i j:Nat}{Q:Unit->V1->Prop}(h:Q () (setArr st (mirror (Vr st) i j ((j-i)/2)))):wpS (Vj prog w) A E s (Vgg i j) Q st:=by rw[reverseSlice'_eq];exact Vf4 h
variable(hO:Ord R)(hA:Xeq prog w A E s κ R mem)(ma:∀x∈a₀.toList,mem x)(hz:p+n<=a₀.size)
include hA ma
theorem Xes{i j lo hi:Nat}{Q:Option Bool->V1->Prop}(hB:Bs κ P a₀ lo hi st)(h1:i<a₀.size)(h2:j<a₀.size)(h:Q (yz (R (kat (Vr st) i) (kat (Vr st) j))) st):wpS (Vj prog w) A E s (ltAt' i j) Q st:=by rw[ltAt'_eq];refine Vs (wpS_get ?_);have z:=hB.sz;refine Vs (Yi (by omega) (Vs (Yi (by omega) ?_)));exact hA _ _ _ _ (hB.kp.mem ma _ (Yc (by omega))) (hB.kp.mem ma _ (Yc (by omega))) hB.kd h
include hO hz
theorem Xst{k:Nat}{Q:Option (Option Nat)×Nat->V1->Prop}(h1:1<=k)(hk:k<=n)(hB:Bs κ P a₀ p (p+n) st)(hs:SegS R (Vr st) p k)
  (h:∀m,k<=m->m<=n->SegS R (Vr st) p m->(m=n\/R (kat (Vr st) (p+m)) (kat (Vr st) (p+m-1))=yx)->Q (yy,m) st):wpS (Vj prog w) A E s (upL p k n) Q st:=by
 unfold upL;refine Vaw (I:=λx c J=>J=st/\c=(yy,x)/\SegS R (Vr st) p x) ?step ?fin ⟨rfl,rfl,hs⟩
 case fin=>rintro c J ⟨rfl,rfl,g⟩;rw[Nat.max_eq_right hk]at g ⊢;exact h n hk (Vf _) g (.inl rfl)
 case step=>
  rintro x c J hx hxn ⟨rfl,rfl,g⟩;refine Vs (Xes hA ma hB (by omega) (by omega) ?_);cases e:R (kat (Vr J) (p+x)) (kat (Vr J) (p+x-1)) with
  |true=>exact Vx (h x hx (by omega) g (.inr e))|false=>exact Vx ⟨rfl,rfl,g.more hO (by omega) e⟩
theorem Xsu{k:Nat}{Q:Option Nat->V1->Prop}(h1:1<=k)(hk:k<=n)(hB:Bs κ P a₀ p (p+n) st)(hs:DecS R (Vr st) p k)
  (h:∀m J,Bs κ P a₀ p (p+n) J->1<=m->m<=n->SegS R (Vr J) p m->Q (yz m) J):wpS (Vj prog w) A E s (upE p k n) Q st:=by
 unfold upE;refine Vs (Xhw ?_);have L:=hB.rev (i:=p) (j:=p+k) (Vf _) (by omega) hz;refine Vs (Xst hO hA ma hz h1 hk L (λi j aa hj=>?_) λm m1 Y m3 _=>Vx (h m _ L (by omega) Y m3));show LeK R (kat (mirror (Vr st) p (p+k) ((p+k-p)/2)) (p+i)) (kat (mirror (Vr st) p (p+k) ((p+k-p)/2)) (p+j));rw[Xfv (by rw[hB.sz];omega),Xfv (by rw[hB.sz];omega),iP0 (by omega),iP0 (by omega)];have:=hs (k-1-j) (k-1-i) (by omega) (by omega);rwa [show p+(k-1-i)=p+(p+k)-1-(p+i) by omega,show p+(k-1-j)=p+(p+k)-1-(p+j) by omega]at this
theorem X35{k:Nat}{Q:Option (Option Nat)×Nat×Nat->V1->Prop}(h1:1<=k)(hk:k<=n)(hB:Bs κ P a₀ p (p+n) st)(hs:DecS R (Vr st) p k)
  (h:∀m e J,Bs κ P a₀ p (p+n) J->k<=m->m<=n->DecS R (Vr J) p m->e+1<=m->Xl9 R (Vr J) (p+m-(e+1)) (p+m)->Q (yy,m,e) J):wpS (Vj prog w) A E s (dnL p k n) Q st:=by
 unfold dnL;have one:∀(b:Array Vk) x,Xl9 R b (p+x-(0+1)) (p+x):=λb x i j _ _ _ _=>by rw[show i=j by omega];exact hO.rf _
 refine Vaw (I:=λx c J=>∃e,c=(yy,x,e)/\Bs κ P a₀ p (p+n) J/\DecS R (Vr J) p x/\e+1<=x/\Xl9 R (Vr J) (p+x-(e+1)) (p+x)) ?step ?fin ⟨0,rfl,hB,hs,by omega,one _ _⟩
 case fin=>rintro c J ⟨e,rfl,g1,g2,g3,g4⟩;rw[Nat.max_eq_right hk]at g2 g3 g4 ⊢;exact h n e J g1 hk (Vf _) g2 g3 g4
 case step=>
  rintro x c J hx hxn ⟨e,rfl,g1,g2,g3,g4⟩;dsimp only;refine Vs (Xes hA ma g1 (by omega) (by omega) ?_);dsimp only;cases u:R (kat (Vr J) (p+x)) (kat (Vr J) (p+x-1)) with
  |true=>
   rw[iP0 rfl];have d:=g2.more hO (by omega) (hO.as u);split;·refine Vs (Xhw (Vx ⟨0,rfl,g1.rev (by omega) (by omega) hz,?_,by omega,one _ _⟩));exact d.eqv hO (Xiw hO (by rw[g1.sz];omega) g4)
   ·exact Vx ⟨0,rfl,g1,d,by omega,one _ _⟩|false=>
   rw[iN0 (by decide)];refine Vs (Xes hA ma g1 (by omega) (by omega) ?_);dsimp only;cases v:R (kat (Vr J) (p+x-1)) (kat (Vr J) (p+x)) with
   |true=>exact Vx (h x e J g1 hx (by omega) g2 g3 g4)|false=>
    refine Vx ⟨e+1,rfl,g1,g2.more hO (by omega) v,by omega,λi j i1 i2 j1 j2=>?_⟩;by_cases Y:i=p+x
    ·by_cases L:j=p+x;·rw[Y,L];exact hO.rf _
     ·rw[Y];exact hO.tr v (g4 _ j (by omega) (by omega) (by omega) (by omega))
    by_cases L:j=p+x;·rw[L];exact hO.tr (g4 i (p+x-1) (by omega) (by omega) (by omega) (by omega)) u
    ·exact g4 i j (by omega) (by omega) (by omega) (by omega)
theorem Xsv{k:Nat}{Q:Option Nat->V1->Prop}(hk:k+1<=n)(hB:Bs κ P a₀ p (p+n) st)(hs:DecS R (Vr st) p (k+1))
  (h:∀m J,Bs κ P a₀ p (p+n) J->1<=m->m<=n->SegS R (Vr J) p m->Q (yz m) J):wpS (Vj prog w) A E s (dnE p k n) Q st:=by
 unfold dnE;refine Vs (wpS_lift (Vbf ⟨rfl,?_⟩));refine Vs (X35 hO hA ma hz (by omega) hk hB hs λm e J g1 g2 Y L g5 g6=>?_);dsimp only;split;·exact Vs (Xhw (Xsu hO hA ma hz (by omega) Y (g1.rev (by omega) (by omega) hz) (L.eqv hO (Xiw hO (by rw[g1.sz];omega) g6)) h))
 ·exact Xsu hO hA ma hz (by omega) Y g1 L h
theorem X36{Q:Option Nat->V1->Prop}(h1:1<=n)(hB:Bs κ P a₀ p (p+n) st)
  (h:∀m J,Bs κ P a₀ p (p+n) J->1<=m->m<=n->SegS R (Vr J) p m->Q (yz m) J):wpS (Vj prog w) A E s (countRun' p n) Q st:=by
 rw[X34];refine Vs (Xst hO hA ma hz (Vf 1) h1 hB (λi j _ _=>by omega) λm m1 m2 L m4=>?_);dsimp only;by_cases c:m=n;·rw[iP0 (by simpa using c)];exact Vx (h m st hB m1 m2 L)
 ·rw[iN0 (by simpa using c)];have lt:=m4.resolve_left c;by_cases d:m>1
  ·rw[iP0 d];refine Vs (Xes hA ma hB (by omega) (by omega) ?_);dsimp only;cases u:R (kat (Vr st) p) (kat (Vr st) (p+m-1)) with
   |true=>exact Vx (h m st hB m1 m2 L)|false=>
    rw[iN0 (by decide)];have le:∀i j,i<=j->j<m->LeK R (kat (Vr st) (p+i)) (kat (Vr st) (p+j)):=λi j Y hj=>by
     by_cases c:i=j;·rw[c];exact hO.rf _
     ·exact L i j (by omega) hj
    have all:Xl9 R (Vr st) p (p+m):=λi j i1 i2 j1 j2=>by have g1:=le (i-p) (m-1) (by omega) (by omega);have g2:=le 0 (j-p) (by omega) (by omega);rw[show p+(i-p)=i by omega,show p+(m-1)=p+m-1 by omega]at g1;rw[show p+(j-p)=j by omega,Vex]at g2;exact hO.tr g1 (hO.tr u g2)
    have dc:DecS R (Vr st) p m:=λi j Y hj=>all _ _ (by omega) (by omega) (by omega) (by omega);refine Vs (Xhw (Xsv hO hA ma hz (by omega) (hB.rev (Vf _) (by omega) hz) ?_ h));exact(dc.more hO (by omega) (hO.as lt)).eqv hO (Xiw hO (by rw[hB.sz];omega) all)
  rw[iN0 d];obtain rfl:m=1:=by omega
  refine Xsv hO hA ma hz (by omega) hB (DecS.more hO (λi j _ _=>by omega) (Vf _) (hO.as lt)) h
theorem X37{k:Nat}{Q:Bool->V1->Prop}(hk:k<=n)(hB:Bs κ P a₀ p (p+n) st)(hs:SegS R (Vr st) p k)
  (h:∀J,Bs κ P a₀ p (p+n) J->SegS R (Vr J) p n->Q yx J):wpS (Vj prog w) A E s (binarySort' p n k) Q st:=by
 rw[binarySort'_eq];refine Vs (Vcq (Vaw (I:=λk c J=>c=(yy,())/\Bs κ P a₀ p (p+n) J/\SegS R (Vr J) p (min k n))
  (Q:=λc J=>c=(yy,())/\Bs κ P a₀ p (p+n) J/\SegS R (Vr J) p n) ?step ?fin ?init) ?post)
 case post=>rintro c J ⟨rfl,g1,g2⟩;exact Vx (h J g1 g2)
 case init=>exact⟨rfl,hB,λi j Y hj=>hs i j Y (by omega)⟩
 case fin=>rintro c J ⟨g1,g2,g3⟩;rw[show min (max (max k 1) n) n=n by omega]at g3;exact⟨g1,g2,g3⟩
 case step=>
  rintro k c J h1 h2 ⟨rfl,g1,g2⟩;rw[show min k n=k by omega]at g2;have le:∀i j,i<=j->j<k->LeK R (kat (Vr J) (p+i)) (kat (Vr J) (p+j)):=λi j Y hj=>by
   by_cases c:i=j;·rw[c];exact hO.rf _
   ·exact g2 i j (by omega) hj
  refine Vs (Vcq (Vaw (I:=λx c L=>L=J/\∃l r,c=(yy,l,r)/\l<=r/\r<=k/\r+x<=k+l /\
    (∀i,i<l->LeK R (kat (Vr J) (p+i)) (kat (Vr J) (p+k)))/\∀i,r<=i->i<k->LeK R (kat (Vr J) (p+k)) (kat (Vr J) (p+i)))
   (Q:=λc L=>L=J/\∃l r,c=(yy,l,r)/\l<=k/\(∀i,i<l->LeK R (kat (Vr J) (p+i)) (kat (Vr J) (p+k)))/\∀i,l<=i->i<k->LeK R (kat (Vr J) (p+k)) (kat (Vr J) (p+i))) ?st ?fi ⟨rfl,0,k,rfl,by omega,by omega,by omega,λi hi=>by omega,λi _ _=>by omega⟩) ?po)
  case fi=>
   rintro c L ⟨rfl,l,r,rfl,a1,a2,a3,a4,a5⟩;obtain rfl:l=r:=by omega
   exact⟨rfl,l,l,rfl,a2,a4,a5⟩
  case st=>
   rintro x c L _ hx ⟨rfl,l,r,rfl,a1,a2,a3,a4,a5⟩;dsimp only;by_cases d:l ≥ r
   ·rw[iP0 d];obtain rfl:l=r:=by omega
    exact Vx ⟨rfl,l,l,rfl,a2,a4,a5⟩
   rw[iN0 d];refine Vs (Xes hA ma g1 (by omega) (by omega) ?_);dsimp only;cases e:R (kat (Vr L) (p+k)) (kat (Vr L) (p+(l+r)/2)) with
   |true=>exact Vx ⟨rfl,l,_,rfl,by omega,by omega,by omega,a4,λi i1 i2=>hO.tr (hO.as e) (le _ _ i1 i2)⟩|false=>exact Vx ⟨rfl,_,r,rfl,by omega,a2,by omega,λi i1=>hO.tr (le _ _ (by omega) (by omega)) e,a5⟩
  case po=>
   rintro c L ⟨rfl,l,r,rfl,a1,a2,a3⟩;show wpS _ _ _ _ (do moveDown' (p+k) (p+l);pure (Vdi (yy,()))) _ _;rw[moveDown'_eq];refine Vs (Vf4 (Vx ⟨rfl,g1.bub (by omega) (by omega) (by omega) hz,?_⟩));rw[show min (k+1) n=k+1 by omega];have zk:p+k<(Vr L).size:=by rw[g1.sz];omega
   intro i j Y hj;show LeK R (kat (bubble (Vr L) (p+k) (p+k-(p+l))) (p+i)) (kat (bubble (Vr L) (p+k) (p+k-(p+l))) (p+j));have el:p+k-(p+k-(p+l))=p+l:=by omega
   rw[Xiv zk (by omega),Xiv zk (by omega),el];clear el zk;by_cases i1:i<l
   ·rw[iN0 (by omega),iN0 (by omega)];by_cases j1:j<l;·rw[iN0 (by omega),iN0 (by omega)];exact le _ _ (by omega) (by omega)
    ·by_cases j2:j=l;·rw[iP0 (by omega)];exact a2 i i1
     ·rw[iN0 (by omega),iP0 (by omega),show p+j-1=p+(j-1) by omega];exact le _ _ (by omega) (by omega)
   by_cases i2:i=l;·rw[iP0 (by omega),iN0 (by omega),iP0 (by omega),show p+j-1=p+(j-1) by omega];exact a3 _ (by omega) (by omega)
   ·rw[iN0 (by omega),iP0 (by omega),iN0 (by omega),iP0 (by omega),show p+j-1=p+(j-1) by omega,show p+i-1=p+(i-1) by omega];exact le _ _ (by omega) (by omega)
end
noncomputable abbrev Pn:=Array (Nat×Nat×Nat)
noncomputable def prL(t w:Nat):StateT V1 Sem (Option Unit×Unit):=forIn [0:t] (yy,()) λ_ _=>do
 let z <- get
 match (if (Ug z).size>1 then (Ug z)[(Ug z).size-2]? else yy) with
 |some (_,_,v)=>if v<=w then pure (.done (yy,())) else do
   let b <- mergeAt' ((Ug z).size-2)
   if !b then pure (.done (yz (),())) else pure (.yield (yy,()))|_=>pure (.done (yy,()))
noncomputable def laL(q n:Nat):StateT V1 Sem (ForInStep (Option Unit×Nat)):=do
 modify λs=>setPending s ((Ug s).push (q,n,0))
 pure (.yield (yy,q+n))
noncomputable def bhL(t q n:Nat):StateT V1 Sem (ForInStep (Option Unit×Nat)):=do
 let z <- get
 match (Ug z).back? with
 |some x=>do
  let y <- prL t (power' t (2*x.1+x.2.1) (2*x.1+x.2.1+x.2.1+n) t)
  match y.1 with
  |some r=>pure (.done (yz r,q))|none=>do
   modify λs=>setPending s ((Ug s).modify ((Ug s).size-1) λ(u,v,_)=>(u,v,power' t (2*x.1+x.2.1) (2*x.1+x.2.1+x.2.1+n) t))
   laL q n
 |_=>laL q n
noncomputable def rnL(t m:Nat):StateT V1 Sem (Option Unit×Nat):=forIn [0:t] (yy,0) λ_ z=>
 if z.2 ≥ t then pure (.done (yy,z.2)) else do
  let x <- countRun' z.2 (t-z.2)
  match x with
  |some k=>
   if k<m then do
    liftM (rule "list.sort.binary-insertion")
    let b <- binarySort' z.2 (min (t-z.2) m) k
    if !b then pure (.done (yz (),z.2)) else bhL t z.2 (min (t-z.2) m)
   else bhL t z.2 k|_=>pure (.done (yz (),z.2))
noncomputable def laP(p:Pn):Nat:=if ((if p.size-2>0 then p[p.size-2-1]?.map (·.2.1) else yy).any (· < (p[p.size-2+1]?.elim 0 (·.2.1))))=yx then p.size-2-1 else p.size-2
noncomputable def enL(t:Nat):StateT V1 Sem (Option Unit×Unit):=forIn [0:t] (yy,()) λ_ _=>do
 let z <- get
 if (Ug z).size<=1 then pure (.done (yy,())) else do
  let b <- mergeAt' (laP (Ug z))
  if !b then pure (.done (yz (),())) else pure (.yield (yy,()))
theorem X38:sortRuns'=(do
  let z <- get
  let x <- rnL (Vr z).size (minRun' (Vr z).size (Vr z).size 0)
  match x.1 with
  |some r=>pure r|none=>do
   let y <- enL (Vr z).size
   match y.1 with
   |some r=>pure r
   |none=>pure ()):=by
 rw[sortRuns'_eq];refine bind_congr λz=>Xs ?_ λx=>?_
 ·unfold rnL;refine congrArg (forIn _ _) ?_;funext _ y;refine ite_congr rfl (λ_=>rfl) λ_=>?_;refine Xs rfl λx=>?_;cases x with
  |none=>rfl|some k=>
   refine ite_congr rfl (λ_=>bind_congr λ_=>Xs rfl λb=>?_) λ_=>?_
   ·refine ite_congr rfl (λ_=>rfl) λ_=>?_;unfold bhL;refine Xs rfl λz=>?_;cases (Ug z).back? with
    |none=>rfl|some x=>obtain⟨L,x2,x3⟩:=x;refine Xs rfl λy=>?_;obtain⟨J,Y⟩:=y;cases J<;>rfl
   unfold bhL;refine Xs rfl λz=>?_;cases (Ug z).back? with
   |none=>rfl|some x=>obtain⟨L,x2,x3⟩:=x;refine Xs rfl λy=>?_;obtain⟨J,Y⟩:=y;cases J<;>rfl
 ·obtain⟨L,x2⟩:=x;cases L with
  |some r=>rfl|none=>refine Xs rfl λy=>?_;obtain⟨J,Y⟩:=y;cases J<;>rfl
theorem Xko{α β:Type}{f:α->β}{l m:List β}(h:l.Perm m):∀ps:List α,m=ps.map f->∃J:List α,J.Perm ps/\l=J.map f:=by
 induction h with
 |nil=>
  intro ps e;cases ps with
  |nil=>exact⟨[],Vhc _,rfl⟩|cons _ _=>cases e
 |@cons x l m _ ih=>
  intro ps e;cases ps with
  |nil=>cases e|cons p ps=>injection e with e1 L;obtain⟨J,q1,q2⟩:=ih ps L;exact⟨p::J,q1.cons p,by rw[U6,<-q2,e1]⟩
 |swap x y l=>
  intro ps e;rcases ps with _|⟨p,_|⟨q,ps⟩⟩;·cases e
  ·cases e
  injection e with e1 L;injection L with L e3;exact⟨q::p::ps,List.Perm.swap _ _ _,by simp[e1,L,e3]⟩|trans _ _ Y aa=>intro ps e;obtain⟨p2,q1,q2⟩:=aa ps e;obtain⟨p1,q3,q4⟩:=Y p2 q2;exact⟨p1,q3.trans q1,q4⟩
def Runs(R:Vk->Vk->Bool)(a:Array Vk):List (Nat×Nat×Nat)->Nat->Nat->Prop
 |[],b,e=>b=e|x::l,b,e=>x.1=b/\0<x.2.1/\SegS R a x.1 x.2.1/\Runs R a l (b+x.2.1) e
section
variable{R:Vk->Vk->Bool}{a a':Array Vk}
theorem Runs.le:∀ {l:List (Nat×Nat×Nat)} {b e:Nat},Runs R a l b e->b+ll l<=e
 |[],b,e,h=>by cases h;exact Vf _|x::l,b,e,⟨_,h0,_,h⟩=>by have:=h.le;rw[U4];omega
theorem Runs.keep{p q:Nat}(k:KeepK a a' p q):∀ {l:List (Nat×Nat×Nat)} {b e:Nat},Runs R a l b e->e<=p\/q<=b->Runs R a' l b e
 |[],b,e,h,_=>h|x::l,b,e,⟨h1,h0,h2,h⟩,c=>⟨h1,h0,k.seg (by have:=h.le;omega) h2,h.keep k (by omega)⟩
theorem Runs.app:∀ {l m:List (Nat×Nat×Nat)} {b e:Nat},Runs R a (l++m) b e ↔ ∃c,Runs R a l b c/\Runs R a m c e
 |[],m,b,e=>⟨λh=>⟨b,rfl,h⟩,λ⟨c,h1,h2⟩=>by cases h1;exact h2⟩|x::l,m,b,e=>by refine⟨λ⟨h1,h2,Y,J⟩=>?_,λ⟨c,⟨h1,h2,Y,J⟩,L⟩=>⟨h1,h2,Y,Runs.app.mpr ⟨c,J,L⟩⟩⟩;obtain⟨c,L,h6⟩:=Runs.app.mp J;exact⟨c,⟨h1,h2,Y,L⟩,h6⟩
theorem Runs.pw{w:Nat}:∀ {l:List (Nat×Nat×Nat)} {i b e:Nat},Runs R a l b e->Runs R a (l.modify i λx=>(x.1,x.2.1,w)) b e
 |[],i,b,e,h=>by rw[List.modify_nil];exact h|x::l,0,b,e,⟨h1,h0,h2,h⟩=>⟨h1,h0,h2,h⟩|x::l,i+1,b,e,⟨h1,h0,h2,h⟩=>by rw[List.modify_succ_cons];exact⟨h1,h0,h2,h.pw⟩
theorem Xsw{α:Type}:∀ {l:List α} {i:Nat},i+1<ll l->∃m x y r,l=m++x::y::r/\(ll m)=i
 |x::y::r,0,_=>⟨[],x,y,r,rfl,rfl⟩|x::l,i+1,h=>by obtain⟨m,y,z,r,e,hl⟩:=Xsw (l:=l) (i:=i) (by simpa using h);exact⟨x::m,y,z,r,by rw[e];rfl,by rw[U4,hl]⟩
end
structure Rn(κ:Vdb)(R:Vk->Vk->Bool)(a₀:Array Vk)(t n:Nat)(st:V1):Prop where
 kd:Vah st=κ
 fl:Vb3 st=yy
 pm:(Vr st).Perm a₀
 rn:Runs R (Vr st) (Ug st).toList 0 t
 sg:SegS R (Vr st) t n
 le:t+n<=a₀.size
section
variable{prog:Ua}{w:Uq}{A:Uy}{E:VP}{s:Vc}{κ:Vdb}{R:Vk->Vk->Bool}{mem:Vk->Prop}{st:V1}{a₀:Array Vk}{t n:Nat}
theorem Rn.sz(h:Rn κ R a₀ t n st):(Vr st).size=a₀.size:=h.pm.size_eq
theorem Rn.mm(h:Rn κ R a₀ t n st)(ma:∀x∈a₀.toList,mem x):∀x∈(Vr st).toList,mem x:=λx J=>ma x ((Vdn.mp h.pm).mem_iff.mp J)
variable(hO:Ord R)(hA:Xeq prog w A E s κ R mem)(ma:∀x∈a₀.toList,mem x)
include hO hA ma
theorem Xsx{i:Nat}{Q:Bool->V1->Prop}(h:Rn κ R a₀ t n st)(hi:i+1<(Ug st).size)(hQ:∀J,Rn κ R a₀ t n J->(Ug J).size+1=(Ug st).size->Q yx J):wpS (Vj prog w) A E s (mergeAt' i) Q st:=by
 obtain⟨m,⟨p,k,v⟩,⟨q,k',v'⟩,r,e,hl⟩:=Xsw (l:=(Ug st).toList) (i:=i) (by simpa using hi);subst hl;have hr:=h.rn;rw[e]at hr;obtain⟨c,r1,r2,r3,r4,r5,r6,r7,r8⟩:=Runs.app.mp hr;dsimp only at r2 r3 r4 r5 r6 r7 r8;subst r2 r5;have l8:=r8.le;have hz:=h.sz;have Y:=h.le;refine X33 hO hA (p:=p) (n:=k) (v:=v) (q:=p+k) (m:=k') (v':=v') h.kd h.fl (h.mm ma) ?_ ?_ rfl r3 r6 (by omega) r4 r7 λJ k1 k2 k3 L k5=>?_;·rw[<-Vcg,e];simp
 ·rw[<-Vcg,e];simp
 have e3:(Ug J).toList=m++(p,k+k',v)::r:=by rw[k3,Array.toList_eraseIdxIfInBounds,Vhm,e,Vey _ _ (Vf _),U0,List.set_cons_zero,List.eraseIdx_append_of_length_le (by omega),show (ll m)+1-ll m=1 by omega];rfl
 refine hQ J ⟨k1,k2,L.1.trans h.pm,?_,L.seg (by omega) h.sg,Y⟩ ?_;·rw[e3];exact Runs.app.mpr ⟨p,r1.keep L (.inl (Vf _)),rfl,by dsimp only;omega,k5,by rw[<-Vfb];exact r8.keep L (.inr (Vf _))⟩
 ·rw[<-U7,<-U7,e3,e];simp only[V3,U4];omega
theorem X39{u v:Nat}{Q:Option Unit×Unit->V1->Prop}(h:Rn κ R a₀ t n st)(L:∀J,Rn κ R a₀ t n J->Q (yy,()) J):wpS (Vj prog w) A E s (prL u v) Q st:=by
 unfold prL;refine Vaw (I:=λ_ c J=>c=(yy,())/\Rn κ R a₀ t n J) ?_ (λc J ⟨h1,h2⟩=>by rw[h1];exact L J h2) ⟨rfl,h⟩;rintro x c J _ _ ⟨rfl,h'⟩;refine Vs (wpS_get ?_);split
 ·rename_i q;split;·exact Vx (L J h')
  ·by_cases c:(Ug J).size>1;·exact Vs (Xsx hO hA ma h' (by omega) λY h2 _=>Vx ⟨rfl,h2⟩)
   ·rw[iN0 c]at q;cases q
 exact Vx (L J h')
omit hO hA ma in
theorem Xsy(h:Rn κ R a₀ t n st)(L:0<n){Q:ForInStep (Option Unit×Nat)->V1->Prop}(Y:∀J,Rn κ R a₀ (t+n) 0 J->Q (.yield (yy,t+n)) J):wpS (Vj prog w) A E s (laL t n) Q st:=by unfold laL;refine Vs (Vf4 (Vx (Y _ ⟨h.kd,h.fl,h.pm,?_,λi j _ hj=>by omega,h.le⟩)));show Runs R (Vr st) ((Ug st).push (t,n,0)).toList 0 (t+n);rw[Veq];exact Runs.app.mpr ⟨t,h.rn,rfl,L,h.sg,rfl⟩
theorem Xsz{u:Nat}(h:Rn κ R a₀ t n st)(Y:0<n){Q:ForInStep (Option Unit×Nat)->V1->Prop}(hQ:∀J,Rn κ R a₀ (t+n) 0 J->Q (.yield (yy,t+n)) J):wpS (Vj prog w) A E s (bhL u t n) Q st:=by
 unfold bhL;refine Vs (wpS_get ?_);split;·refine Vs (X39 hO hA ma h λL h2=>?_);refine Vs (Vf4 ?_);refine Xsy ?_ Y hQ;refine⟨h2.kd,h2.fl,h2.pm,?_,h2.sg,h2.le⟩;show Runs R (Vr L) ((Ug L).modify _ _).toList 0 t;rw[Array.toList_modify];exact h2.rn.pw
 ·exact Xsy h Y hQ
theorem X4a{m:Nat}{Q:Option Unit×Nat->V1->Prop}(h:Rn κ R a₀ 0 0 st)(hQ:∀J,Rn κ R a₀ a₀.size 0 J->Q (yy,a₀.size) J):wpS (Vj prog w) A E s (rnL a₀.size m) Q st:=by
 unfold rnL;refine Vaw (I:=λx c J=>∃t,c=(yy,t)/\x<=t/\Rn κ R a₀ t 0 J) ?_ (λc J ⟨t,h1,h2,h3⟩=>?_) ⟨0,rfl,Vf _,h⟩
 ·rintro x c J _ hx ⟨t,rfl,h1,h2⟩;dsimp only;have ac:=h2.le;by_cases c:t ≥ a₀.size
  ·rw[iP0 c];obtain rfl:t=a₀.size:=by omega
   exact Vx (hQ _ h2)
  rw[iN0 c];have hz:t+(a₀.size-t)<=(Vr J).size:=by rw[h2.sz];omega
  refine Vs (X36 hO hA (h2.mm ma) hz (by omega) ⟨h2.kd,h2.fl,rfl,.rf⟩ λk aa b1 b2 b3 b4=>?_);dsimp only;have L:Rn κ R a₀ t k aa:=⟨b1.kd,b1.fl,b1.kp.1.trans h2.pm,by rw[b1.pn];exact h2.rn.keep b1.kp (.inl (Vf _)),b4,by omega⟩;split;·rename_i ck;refine Vs (wpS_lift (Vbf ⟨rfl,?_⟩));refine Vs (X37 hO hA (L.mm ma) (p:=t) (n:=min (a₀.size-t) m) (by rw[L.sz];omega) (by omega) ⟨L.kd,L.fl,rfl,.rf⟩ L.sg λae Y d2=>?_);exact Xsz hO hA ma ⟨Y.kd,Y.fl,Y.kp.1.trans L.pm,by rw[Y.pn];exact L.rn.keep Y.kp (.inl (Vf _)),d2,by omega⟩ (by omega) λab h4=>⟨_,rfl,by omega,h4⟩
  ·exact Xsz hO hA ma L (by omega) λab h4=>⟨_,rfl,by omega,h4⟩
 have:=h3.le;obtain rfl:t=a₀.size:=by omega
 rw[h1];exact hQ J h3
omit hO hA ma in
theorem X4b{p:Pn}(h:¬ p.size<=1):laP p+1<p.size:=by
 unfold laP;generalize Option.any _ _=c;cases c;·show p.size-2+1<p.size;omega
 ·show p.size-2-1+1<p.size;omega
theorem X4c{Q:Option Unit×Unit->V1->Prop}(h:Rn κ R a₀ a₀.size 0 st)(hQ:∀J,(Vr J).Perm a₀->Vb3 J=yy->SegS R (Vr J) 0 a₀.size->Q (yy,()) J):wpS (Vj prog w) A E s (enL a₀.size) Q st:=by
 have fin:∀J,Rn κ R a₀ a₀.size 0 J->(Ug J).size<=1->Q (yy,()) J:=λJ h1 h2=>by
  refine hQ J h1.pm h1.fl ?_;have L:=h1.rn;rw[<-U7]at h2;cases e:(Ug J).toList with
  |nil=>rw[e]at L;rw[<-L];exact λi j _ hj=>by omega|cons x l=>
   rw[e]at L h2;cases l with
   |cons y l=>simp at h2|nil=>obtain⟨g1,g2,g3,g4⟩:=L;rw[g1]at g3;rwa [<-g4,Va1]
 unfold enL;refine Vaw (I:=λx c J=>c=(yy,())/\(Ug J).size<=max 1 (a₀.size-x)/\Rn κ R a₀ a₀.size 0 J) ?_ (λc J ⟨h1,h2,Y⟩=>by rw[h1];exact fin J Y (by omega)) ⟨rfl,?_,h⟩
 ·rintro x c J _ hx ⟨rfl,h1,h2⟩;refine Vs (wpS_get ?_);by_cases c:(Ug J).size<=1;·rw[iP0 c];exact Vx (fin J h2 c)
  ·rw[iN0 c];exact Vs (Xsx hO hA ma h2 (X4b c) λaa Y h4=>Vx ⟨rfl,by omega,Y⟩)
 have:=h.rn.le;rw[U7]at this;omega
theorem X4d{Q:Unit->V1->Prop}(hk:Vah st=κ)(hf:Vb3 st=yy)(hp:Ug st=#[])(ha:Vr st=a₀)(hQ:∀L,Vb3 L=yy->Srt (LeK R) a₀.toList (Vr L).toList->Q () L):wpS (Vj prog w) A E s sortRuns' Q st:=by rw[X38];refine Vs (wpS_get ?_);rw[ha];refine Vs (X4a hO hA ma ⟨hk,hf,by rw[ha],by rw[hp];rfl,λi j _ hj=>by omega,by omega⟩ λaa h1=>?_);refine Vs (X4c hO hA ma h1 λJ h2 Y h4=>Vx (hQ J Y ⟨Vdn.mp h2,?_⟩));have hz:(Vr J).size=a₀.size:=h2.size_eq;have:=(Xdq (R:=R) (a:=Vr J) (p:=0) (n:=a₀.size) (by omega)).mp h4;rwa [List.drop_zero,Vap (by rw[U7];omega)]at this
end
end Z
end
section
namespace Z
open PySem PySem.SetTable
noncomputable def its(t:SetTable):Nat->Probe->Probe
 |0,p=>p|n+1,p=>its t n (t.advance p)
end Z
end
section
namespace Z
open PySem PySem.Spec PyProof.Rows L2
inductive D where
 |non|bl (b:Bool)|int (i:Int)|str (x:Str)|tup (xs:List D)|ref (n:Nat)|fro (xs:List D)|fn (f:Nat) (nm:Str)
 deriving Inhabited
abbrev LD:=List D
inductive O where
 |lst (xs:LD)|exc (c:Nat)
noncomputable abbrev Sto:=List O
noncomputable abbrev En:=List (Option D)
inductive R(α:Type) where
 |ok (a:α) (S:Sto)|ex (n:Nat) (S:Sto)|bad
noncomputable def R.bind{α β:Type}:R α->(α->Sto->R β)->R β
 |.ok a S,f=>f a S|.ex n S,_=>.ex n S|.bad,_=>.bad
@[simp] theorem Rk0{α β:Type}(a:α)(S:Sto)(f:α->Sto->R β):(R.ok a S).bind f=f a S:=rfl
@[simp] theorem R.bind_ex{α β:Type}(n:Nat)(S:Sto)(f:α->Sto->R β):(R.ex n S).bind f=.ex n S:=rfl
@[simp] theorem R.bind_bad{α β:Type}(f:α->Sto->R β):(R.bad:R α).bind f=.bad:=rfl
noncomputable def big:Nat:=1000000
set_option genInjectivity false
inductive Bo where|add|sub|mul|fdiv|mod|pow
 deriving DecidableEq
inductive Co where|eq|ne|lt|le|gt|ge|isnot
 deriving DecidableEq
inductive Ty where|int|bool|str|tuple|list|dict|cls(c:Nat)|valueError
 deriving DecidableEq
inductive Bl where
 |len|min|max|smB|srt|all|anb|tuple|list|repr|itB
 deriving DecidableEq
inductive Mt where
 |append|xtd|index|count
 deriving DecidableEq
inductive Tg where
 |var (i:Nat)
 |tup (is:LN)
mutual
inductive Ex where
 |nev
 |var (i:Nat)
 |cst (d:D)
 |neg (a:Ex)
 |glb (k:Nat)
 |tup (es:Exs)
 |lst (es:Exs)
 |bin (op:Bo) (a b:Ex)
 |cmp (op:Co) (a b:Ex)
 |chn (o1 o2:Co) (a b c:Ex)
 |and (a b:Ex)
 |or (a b:Ex)
 |not (a:Ex)
 |ite (c a b:Ex)
 |idx (a i:Ex)
 |sli (a:Ex) (lo hi:Op)
 |rev (a:Ex)
 |call (f:Nat) (es:Exs)
 |cal (e:Ex) (es:Exs)
 |lenm (a:Ex)
 |blt (k:Bl) (es:Exs)
 |mth (k:Mt) (o:Ex) (es:Exs)
 |isi (a:Ex) (ts:List Ty)
 |cmr (k:Bool) (n:Nat) (gs:Gens) (elt:Ex)
inductive Op where
 |none|some (e:Ex)
inductive Exs where
 |nil|cons (e:Ex) (es:Exs)
inductive Gens where
 |nil|cons (t:Tg) (it:It) (ifs:Exs) (gs:Gens)
inductive It where
 |val (e:Ex)|rng (es:Exs)|enm (es:Exs)
end
mutual
inductive St where
 |nev
 |asg (t:Tg) (e:Ex)
 |par (is:LN) (es:Exs)
 |aset (o i e:Ex)
 |aug (i:Nat) (op:Bo) (e:Ex)
 |expr (e:Ex)
 |ret (e:Ex)
 |ite (c:Ex) (a b:Sts)
 |for (t:Tg) (it:It) (b:Sts)
 |whl (c:Ex) (b:Sts)
 |rsk (e m:Ex)
 |rse (c:Nat) (e:Ex)
 |try (b:Sts) (c:Nat) (x:Nat) (h:Sts)
 |brk
inductive Sts where
 |nil|cons (s:St) (ss:Sts)
end
set_option genInjectivity true
inductive Fl where
 |nx (e:En)|brk (e:En)|rt (d:D)
noncomputable def Xc(S:Sto)(n:Nat):Option (LD):=
 match S[n]? with
 |some (.lst xs)=>yz xs|_=>yy
noncomputable def lstM(S:Sto)(n:Nat):Option (LD):=
 match S[n]? with
 |some (.lst xs)=>yz xs|_=>yy
noncomputable def i2(b:Bool):Int:=if b then 1 else 0
mutual
noncomputable def X4(J:Nat->Option Vcs):D->Option Vcs
 |.non=>yz .none|.bl b=>yz (.bool b)|.int i=>yz (.int i)|.str x=>yz (.str x)|.tup xs=>(datFs J xs).map PyData.tuple|.fro _=>yy|.fn _ _=>yy|.ref n=>J n
noncomputable def datFs(J:Nat->Option Vcs):LD->Option (List Vcs)
 |[]=>yz []|x::xs=>match X4 J x,datFs J xs with
  |some p,yz ps=>yz (p::ps)|_,_=>yy
end
noncomputable def Xae(S:Sto):Nat->Nat->Option Vcs
 |0,_=>yy|k+1,n=>match S[n]? with
  |some (.lst xs)=>(datFs (Xae S k) xs).map PyData.list|_=>yy
noncomputable def Xam(S:Sto)(d:D):Option Vcs:=X4 (Xae S 4) d
noncomputable def Xdi(x y:D):Option Bool:=match x with
 |.str a=>(match y with
  |.str b=>yz (a.cps.toList==b.cps.toList)
  |_=>yy)
 |_=>yy
noncomputable def Xix(S:Sto)(x y:D):Option Bool:=match x with
 |.ref a=>(match y with
  |.ref b=>(match Xc S a,Xc S b with
   |some xs,yz ys=>if (ll xs)=ll ys then yy else yz yw
   |_,_=>yy)
  |_=>yy)
 |_=>yy
noncomputable def eqD(S:Sto)(x y:D):Option Bool:=match Xdi x y with
 |some r=>yz r|none=>match Xam S x,Xam S y with
  |some p,yz q=>if p.canLay0&&q.canLay0&&decide (p.depth<=60) then yz (Vef p q) else Xix S x y|_,_=>Xix S x y
noncomputable def Xq(S:Sto):D->Option (LD)
 |.tup xs=>yz xs|.fro xs=>yz xs|.ref n=>Xc S n|_=>yy
noncomputable def Xo:LD->Option (LI)
 |[]=>yz []|.int i::r=>(Xo r).map (i :: ·)|_::_=>yy
noncomputable def X8:LD->Option (List Bool)
 |[]=>yz []|.bl i::r=>(X8 r).map (i :: ·)|_::_=>yy
noncomputable def ltL:LI->LI->Bool
 |[],[]=>yw|[],_::_=>yx|_::_,[]=>yw|x::xs,y::ys=>if x=y then ltL xs ys else decide (x<y)
noncomputable def ltD:D->D->Option Bool
 |.int i,.int j=>yz (decide (i<j))|.tup xs,.tup ys=>match Xo xs with
  |some a=>match Xo ys with
   |some b=>yz (ltL a b)|none=>yy
  |none=>yy
 |_,_=>yy
noncomputable def Yy:LD->Option (LL)
 |[]=>yz []|.tup ds::r=>match Xo ds with
  |some k=>(Yy r).map (k :: ·)|none=>yy
 |_::_=>yy
noncomputable def Xiy(k:LI):LL->LL
 |[]=>[k]|y::r=>if ltL k y then k::y::r else y::Xiy k r
noncomputable def Xab:LL->LL
 |[]=>[]|k::r=>Xiy k (Xab r)
noncomputable def Xg3(ks:LL):Option (LL):=if (ll ks)<100000 then yz (Xab ks) else yy
noncomputable def Xiz(ks:LL):Option (LL):=if (ll ks)<100000 then yz ((Xab (ks.map Va6)).map Va6) else yy
noncomputable def Xma(x:D)(S:Sto):R D:=match x with
 |.ref n=>match (Xc S n).bind Yy with
  |some ks=>match Xiz ks with
   |some r=>.ok (.ref (ll S)) (S++[.lst (r.map λk=>.tup (k.map D.int))])|none=>.bad
  |none=>.bad
 |_=>.bad
noncomputable def Xf(S:Sto):D->Option Bool
 |.non=>yz yw|.bl b=>yz b|.int i=>yz (i != 0)|.str x=>if x.length<=big then yz ((x.length:Int) != 0) else yy|.tup xs=>yz (!xs.isEmpty)|.fro xs=>yz (!xs.isEmpty)|.fn _ _=>yy|.ref n=>match S[n]? with
  |some (.lst xs)=>yz (!xs.isEmpty)|_=>yy
noncomputable def Yq(i j:Int):Bool:=(decide (-(18446744073709551616)<i)&&decide (i<18446744073709551616))||(decide (-(18446744073709551616)<j)&&decide (j<18446744073709551616))||(decide (i.natAbs.log2<100000)&&decide (j.natAbs.log2<100000))
noncomputable def Yr(j:Int):Bool:=decide (0<j)&&decide (j.natAbs.log2<9000)
noncomputable def Xu(op:Bo)(x y:D)(S:Sto):R D:=match op with
 |.add=>match x,y with
  |.int i,.int j=>.ok (.int (i+j)) S|.tup x,.tup y=>if (ll x)+ll y<=big then .ok (.tup (x++y)) S else .bad|.ref n,.ref m=>match lstM S n,lstM S m with
   |some x,yz y=>if (ll x)+ll y<=big then .ok (.ref (ll S)) (S++[.lst (x++y)]) else .bad|_,_=>.bad
  |_,_=>.bad
 |.sub=>match x,y with
  |.int i,.int j=>.ok (.int (i-j)) S|_,_=>.bad
 |.mul=>match x,y with
  |.int i,.int j=>if Yq i j then .ok (.int (i*j)) S else .bad|.tup x,.int k=>if k<1048576/\(ll x)*k.toNat<=big/\-(1048576)<k/\x.isEmpty=yw then .ok (.tup (Vg k.toNat x).flatten) S else .bad|.ref n,.int k=>match lstM S n with
   |some x=>if k<1048576/\(ll x)*k.toNat<=big/\-(1048576)<k then .ok (.ref (ll S)) (S++[.lst (Vg k.toNat x).flatten]) else .bad|none=>.bad
  |_,_=>.bad
 |.fdiv=>match x,y with
  |.int i,.int j=>if Yr j then .ok (.int (i/j)) S else .bad|_,_=>.bad
 |.mod=>match x,y with
  |.int i,.int j=>if 0<j then .ok (.int (i%j)) S else .bad|_,_=>.bad
 |.pow=>match x,y with
  |.int i,.int j=>if 0<=j/\j<=1000/\i.natAbs<2^63 then .ok (.int (i^j.toNat)) S else .bad|_,_=>.bad
noncomputable def Xet:Bo->D->D->Sto->R D
 |.add,.int i,.int j,S=>.ok (.int (i+j)) S|.sub,.int i,.int j,S=>.ok (.int (i-j)) S|.mul,.int i,.int j,S=>if Yq i j then .ok (.int (i*j)) S else .bad|_,_,_,_=>.bad
noncomputable def Xw(op:Co)(x y:D)(S:Sto):Option Bool:=match op with
 |.eq=>eqD S x y|.ne=>(eqD S x y).map (!·)|.lt=>ltD x y|.le=>match x,y with
  |.int i,.int j=>yz (decide (i<=j))|_,_=>yy
 |.gt=>match x,y with
  |.int i,.int j=>yz (decide (j<i))|.tup xs,.tup ys=>ltD (.tup ys) (.tup xs)|_,_=>yy
 |.ge=>match x,y with
  |.int i,.int j=>yz (decide (j<=i))|_,_=>yy
 |.isnot=>match y with
  |.non=>yz (match x with|.non=>yw|_=>yx)|.bl b=>yz (match x with|.bl c=>b != c|_=>yx)|_=>yy
noncomputable def ixN(n:Nat)(i:Int):Option Nat:=if 0<=i then (if i<n then yz i.toNat else yy) else if-(n:Int)<=i then yz (i+n).toNat else yy
noncomputable def Xaw(x:D)(i:D)(S:Sto):Option D:=
 match i with
 |.int k=>match x with
  |_=>(Xq S x).bind λxs=>(ixN (ll xs) k).bind λj=>xs[j]?
 |_=>yy
noncomputable def Xi(op:Co)(x y:D)(S:Sto):R D:=match Xw op x y S with
 |some r=>.ok (.bl r) S|none=>.bad
noncomputable def Xah(x i:D)(S:Sto):R D:=match Xaw x i S with
 |some d=>.ok d S|none=>.bad
noncomputable def Yg(ifs:En->Sto->R Bool)(body:En->LD->Sto->R LD)(env:En)(acc:LD)(S:Sto):R (LD):=(ifs env S).bind λb S=>if b then body env acc S else .ok acc S
noncomputable def Xb9(n:Nat)(d:Nat):Option Int->Nat
 |none=>d|some i=>if 0<=i then min i.toNat n else (i+n).toNat
noncomputable def cut{α:Type}(xs:List α)(lo hi:Option Int):List α:=
 (xs.drop (Xb9 (ll xs) 0 lo)).take (Xb9 (ll xs) (ll xs) hi-Xb9 (ll xs) 0 lo)
noncomputable def Xai:Option D->Option (Option Int)
 |none=>yz yy|some (.int i)=>yz (yz i)|_=>yy
noncomputable def Xaj(x:D)(lo hi:Option Int)(S:Sto):R D:=
 match x with
 |.tup xs=>.ok (.tup (cut xs lo hi)) S|.ref n=>match Xc S n with
  |some xs=>.ok (.ref (ll S)) (S++[.lst (cut xs lo hi)])|none=>.bad
 |_=>.bad
noncomputable def Xqz(x:D)(S:Sto):R D:=
 match x with
 |.tup xs=>.ok (.tup xs.reverse) S|.ref n=>match Xc S n with
  |some xs=>.ok (.ref (ll S)) (S++[.lst xs.reverse])|none=>.bad
 |_=>.bad
noncomputable def Xbb(f:Nat)(nm:Str):LD->Bool
 |[]=>yw|.fn g m::r=>(g==f&&decide (m=nm))||Xbb f nm r|_::r=>Xbb f nm r
noncomputable def Yj(n:Nat):LD->LD
 |[]=>[]|x::r=>.tup [.int n,x]::Yj (n+1) r
inductive Kd where|non|bool|int|str|tuple|list|dict|exc(c:Nat)
 deriving DecidableEq
noncomputable def kdD(S:Sto):D->Option Kd
 |.non=>yz .non|.bl _=>yz .bool|.int _=>yz .int|.str _=>yz .str|.tup _=>yz .tuple|.fro _=>yz .list|.fn _ _=>yy|.ref n=>match S[n]? with
  |some (.lst _)=>yz .list|some (.exc c)=>yz (.exc c)|_=>yy
noncomputable def tyQ(b i s t l d:Bool):Ty->Option Bool
 |.bool=>yz b|.int=>yz i|.str=>yz s|.tuple=>yz t|.list=>yz l|.dict=>yz d|.cls _=>yy|.valueError=>yy
noncomputable def isT:Kd->Ty->Option Bool
 |.exc c',t=>match t with
  |.cls c=>yz (c==0||c==c')|.valueError=>yz yx|_=>yy
 |.non,t=>tyQ yw yw yw yw yw yw t|.bool,t=>tyQ yx yx yw yw yw yw t|.int,t=>tyQ yw yx yw yw yw yw t|.str,t=>tyQ yw yw yx yw yw yw t|.tuple,t=>tyQ yw yw yw yx yw yw t|.list,t=>tyQ yw yw yw yw yx yw t|.dict,t=>tyQ yw yw yw yw yw yx t
noncomputable def Xac(k:Kd):List Ty->Option Bool
 |[]=>yz yw|t::r=>match isT k t with
  |some yx=>yz yx|some yw=>Xac k r|none=>yy
noncomputable def szI(i:Int):Nat:=if i.natAbs<1000 then 4 else 1921
mutual
noncomputable def szD:Vcs->Nat
 |.none=>4|.bool _=>5|.int i=>szI i|.str x=>(reprText x).length|.list xs=>szDs xs+2|.tuple xs=>szDs xs+3|.dict _=>2
noncomputable def szDs:List Vcs->Nat
 |[]=>0|x::xs=>szD x+2+szDs xs
end
mutual
noncomputable def Xax:Vcs->Bool
 |.none=>yx|.bool _=>yx|.int _=>yx|.str _=>yx|.list xs=>dctEs xs|.tuple xs=>dctEs xs|.dict J=>J.isEmpty
noncomputable def dctEs:List Vcs->Bool
 |[]=>yx|x::xs=>Xax x&&dctEs xs
end
noncomputable def Xeu(S:Sto)(x:D):Option Str:=match Xam S x with
 |some p=>if p.showable&&Xax p&&decide (p.depth<=60)&&decide (szD p<=big) then yz p.shown else yy|none=>yy
noncomputable def Xm(k:Bl)(ds:LD)(S:Sto):R D:=match k with
 |.len=>match ds with
  |[x]=>match x with
   |_=>match Xq S x with
    |some xs=>.ok (.int (ll xs)) S|none=>.bad
  |_=>.bad
 |.tuple=>match ds with
  |[x]=>match Xq S x with
   |some xs=>.ok (.tup xs) S|none=>.bad
  |_=>.bad
 |.list=>match ds with
  |[x]=>match Xq S x with
   |some xs=>.ok (.ref (ll S)) (S++[.lst xs])|none=>.bad
  |_=>.bad
 |.all=>match ds with
  |[.ref n]=>match (Xc S n).bind X8 with
   |some bs=>.ok (.bl (bs.all id)) S|none=>.bad
  |_=>.bad
 |.anb=>match ds with
  |[.ref n]=>match (Xc S n).bind X8 with
   |some bs=>.ok (.bl (bs.any id)) S|none=>.bad
  |[.tup xs]=>match Xo xs with
   |some ns=>.ok (.bl (ns.any (· != 0))) S|none=>.bad
  |_=>.bad
 |.smB=>match ds with
  |[x]=>match (Xq S x).bind Xo with
   |some ns=>.ok (.int ns.sum) S|none=>.bad
  |_=>.bad
 |.max=>match ds with
  |[.int i,.int j]=>.ok (.int (if j>i then j else i)) S|_=>.bad
 |.min=>match ds with
  |[.int i,.int j]=>.ok (.int (if j<i then j else i)) S|_=>.bad
 |.srt=>match ds with
  |[.ref n]=>match (Xc S n).bind Yy with
   |some ks=>match Xg3 ks with
    |some r=>.ok (.ref (ll S)) (S++[.lst (r.map λk=>.tup (k.map D.int))])|none=>.bad
   |none=>.bad
  |[.tup xs]=>match Yy xs with
   |some ks=>match Xg3 ks with
    |some r=>.ok (.ref (ll S)) (S++[.lst (r.map λk=>.tup (k.map D.int))])|none=>.bad
   |none=>.bad
  |_=>.bad
 |.itB=>match ds with
  |[.bl b]=>.ok (.int (i2 b)) S|_=>.bad
 |.repr=>match ds with
  |[x]=>match Xeu S x with
   |some t=>.ok (.str t) S|none=>.bad
  |_=>.bad
noncomputable def Yv(k:Mt)(o:D)(ds:LD)(S:Sto):R D:=match o,ds with
 |.ref n,[x]=>match k with
  |.append=>match lstM S n with
   |some xs=>if (ll xs)<big then .ok .non (S.set n (.lst (xs++[x]))) else .bad|none=>.bad
  |.xtd=>match x with
   |.ref k=>match lstM S n with
    |some xs=>match Xc S k with
     |some ys=>if (ll xs)+ll ys<=big then .ok .non (S.set n (.lst (xs++ys))) else .bad|none=>.bad
    |none=>.bad
   |.tup ys=>match lstM S n with
    |some xs=>if (ll xs)+ll ys<=big then .ok .non (S.set n (.lst (xs++ys))) else .bad|none=>.bad
   |_=>.bad
  |.index=>match x with
   |.bl b=>match (Xc S n).bind X8 with
    |some bs=>match bs.findIdx? (· == b) with
     |some i=>.ok (.int i) S|none=>.bad
    |none=>.bad
   |.int c=>match (Xc S n).bind Xo with
    |some ns=>match ns.findIdx? (· == c) with
     |some i=>.ok (.int i) S|none=>.bad
    |none=>.bad
   |_=>.bad
  |.count=>match x with
   |.bl b=>match (Xc S n).bind X8 with
    |some bs=>.ok (.int (bs.countP (· == b):Nat)) S|none=>.bad
   |_=>.bad
 |_,_=>.bad
noncomputable def Xaf(k:Mt)(x:D)(S:Sto):Bool:=match x with
 |.ref n=>(Xc S n).isSome|_=>yw
noncomputable def Xc8(o i v:D)(S:Sto):R Unit:=
 match o with
 |.ref n=>match i with
  |.int k=>match lstM S n with
   |some xs=>match ixN (ll xs) k with
    |some j=>.ok () (S.set n (.lst (xs.set j v)))|none=>.bad
   |none=>.bad
  |_=>.bad
 |_=>.bad
inductive Src where
 |con (xs:LD)|ref (n:Nat)|enm (a:Src)
noncomputable def Src.get:Src->Sto->Nat->Option (Option D)
 |.con xs,_,i=>yz xs[i]?|.ref n,S,i=>(Xc S n).map λxs=>xs[i]?|.enm a,S,i=>match a.get S i with
  |some (yz x)=>yz (yz (.tup [.int i,x]))|r=>r
noncomputable def Src.most:Src->Sto->Nat
 |.con xs,_=>ll xs|.ref n,S=>((Xc S n).getD []).length|.enm a,S=>a.most S
noncomputable def Yo(S:Sto):D->Option Src
 |.tup xs=>yz (.con xs)|.ref n=>(Xc S n).map λ_=>.ref n|_=>yy
noncomputable def Ys:LD->Option (LD)
 |[.int j]=>if-(1048576)<j/\j<1048576 then yz ((Vm j.toNat).map λ(k:Nat)=>D.int (k:Int)) else yy|[.int i,.int j]=>if-(1048576)<i/\i<1048576/\-(1048576)<j/\j<1048576 then yz ((Vm (j-i).toNat).map λ(k:Nat)=>D.int (i+k)) else yy|[.int i,.int j,.int s]=>if s = -1/\-(1048576)<i/\i<1048576/\-(1048576)<j/\j<1048576 then yz ((Vm (i-j).toNat).map λ(k:Nat)=>D.int (i-k)) else yy|_=>yy
noncomputable def Xk(t:Tg)(d:D)(env:En):Option En:=
 match t with
 |.var i=>yz (env.set i (yz d))|.tup J=>match d with
  |.tup ds=>if (ll J)=ll ds then yz ((J.zip ds).foldl (λe p=>e.set p.1 (yz p.2)) env) else yy|_=>yy
noncomputable def slots:Tg->LN
 |.var i=>[i]|.tup J=>J
noncomputable def Xev(t:Tg)(env:En):Bool:=(slots t).all λi=>match env[i]? with
 |some (yz _)=>yw|_=>yx
noncomputable def X9(get:Sto->Nat->Option (Option D))(t:Tg)(body:En->LD->Sto->R LD):Nat->Nat->En->LD->Sto->R (LD)
 |0,_,_,_,_=>.bad|k+1,i,env,acc,S=>match get S i with
  |none=>.bad|some yy=>.ok acc S|some (yz d)=>match Xk t d env with
   |none=>.bad|some J=>match body J acc S with
    |.ok L S'=>X9 get t body k (i+1) J L S'|_=>.bad
noncomputable abbrev Fn:=Nat->LD->Sto->R D
section
variable(F:Fn)(G:LD)
mutual
noncomputable def ev:Ex->En->Sto->R D
 |.nev,_,_=>.bad|.var i,env,S=>match env[i]? with
  |some (yz d)=>.ok d S|_=>.bad
 |.cst d,_,S=>.ok d S|.neg a,env,S=>(ev a env S).bind λx S=>match x with
  |.int i=>.ok (.int (-i)) S|_=>.bad
 |.glb k,_,S=>match G[k]? with
  |some d=>.ok d S|none=>.bad
 |.tup es,env,S=>(evs es env S).bind λxs S=>if (ll xs)<=big then .ok (.tup xs) S else .bad|.lst es,env,S=>(evs es env S).bind λxs S=>if (ll xs)<=big then .ok (.ref (ll S)) (S++[.lst xs]) else .bad|.bin op a b,env,S=>(ev a env S).bind λx S=>(ev b env S).bind λy S=>Xu op x y S|.cmp op a b,env,S=>(ev a env S).bind λx S=>(ev b env S).bind λy S=>Xi op x y S|.chn o1 o2 a b c,env,S=>(ev a env S).bind λx S=>(ev b env S).bind λy S=>match Xw o1 x y S with
  |some yx=>(ev c env S).bind λz S=>Xi o2 y z S|some yw=>.ok (.bl yw) S|none=>.bad
 |.and a b,env,S=>(ev a env S).bind λx S=>match Xf S x with
  |some yx=>ev b env S|some yw=>.ok x S|none=>.bad
 |.or a b,env,S=>(ev a env S).bind λx S=>match Xf S x with
  |some yx=>.ok x S|some yw=>ev b env S|none=>.bad
 |.not a,env,S=>(ev a env S).bind λx S=>match Xf S x with
  |some r=>.ok (.bl (!r)) S|none=>.bad
 |.ite c a b,env,S=>(ev c env S).bind λx S=>match Xf S x with
  |some yx=>ev a env S|some yw=>ev b env S|none=>.bad
 |.idx a i,env,S=>(ev a env S).bind λx S=>(ev i env S).bind λy S=>Xah x y S|.sli a lo hi,env,S=>(ev a env S).bind λx S=>(evo lo env S).bind λl S=>(evo hi env S).bind λh S=>match Xai l,Xai h with
  |some l,yz h=>Xaj x l h S|_,_=>.bad
 |.rev a,env,S=>(ev a env S).bind λx S=>Xqz x S|.call f es,env,S=>(evs es env S).bind λxs S=>F f xs S|.cal e es,env,S=>(ev e env S).bind λx S=>match x with
  |.fn f nm=>if Xbb f nm G then (evs es env S).bind λxs S=>F f xs S else .bad|_=>.bad
 |.lenm a,env,S=>(ev a env S).bind λx S=>match Xq S x with
  |some xs=>.ok (.ref (ll S)) (S++[.lst (Yj 0 xs)])|none=>.bad
 |.blt k es,env,S=>(evs es env S).bind λxs S=>Xm k xs S|.mth k o es,env,S=>(ev o env S).bind λx S=>if Xaf k x S then (evs es env S).bind λxs S=>Yv k x xs S else .bad|.isi a ts,env,S=>(ev a env S).bind λx S=>match (kdD S x).bind λk=>Xac k ts with
  |some r=>.ok (.bl r) S|none=>.bad
 |.cmr k n gs elt,env,S=>match gs with
  |.nil=>.bad|.cons t it ifs gs=>(evit it env S).bind λY S=>
   (X9 (Y.get) t (Yg (λenv S=>evts ifs env S) (λenv J S=>
     match gs with
     |.nil=>(ev elt env S).bind λy S=>if (ll J)<big then .ok (J++[y]) S else .bad|.cons t2 it2 ifs2 aa=>match aa with
      |.nil=>if Xev t2 env then (evit it2 env S).bind λL S=>X9 (L.get) t2 (Yg (λenv S=>evts ifs2 env S) (λenv J S=>(ev elt env S).bind λy S=>if (ll J)<big then .ok (J++[y]) S else .bad)) (L.most S+1) 0 env J S else .bad
      |.cons ..=>.bad)) (Y.most S+1) 0 (env++Vg n yy) [] S).bind λJ S=>
   if k then .bad else .ok (.ref (ll S)) (S++[.lst J])
noncomputable def evo:Op->En->Sto->R (Option D)
 |.none,_,S=>.ok yy S|.some e,env,S=>(ev e env S).bind λx S=>.ok (yz x) S
noncomputable def evs:Exs->En->Sto->R (LD)
 |.nil,_,S=>.ok [] S|.cons e es,env,S=>(ev e env S).bind λx S=>(evs es env S).bind λxs S=>.ok (x::xs) S
noncomputable def evts:Exs->En->Sto->R Bool
 |.nil,_,S=>.ok yx S|.cons e es,env,S=>(ev e env S).bind λx S=>match Xf S x with
  |some yx=>evts es env S|some yw=>.ok yw S|none=>.bad
noncomputable def evit:It->En->Sto->R Src
 |.val e,env,S=>(ev e env S).bind λx S=>match Yo S x with
  |some s=>.ok s S|none=>.bad
 |.rng es,env,S=>(evs es env S).bind λxs S=>match Ys xs with
  |some ds=>.ok (.con ds) S|none=>.bad
 |.enm es,env,S=>(evs es env S).bind λxs S=>match xs with
  |[x]=>match Yo S x with
   |some s=>.ok (.enm s) S|none=>.bad
  |_=>.bad
end
mutual
noncomputable def X4e:St->Bool
 |.expr _=>yx|.ret _=>yx|.ite _ a b=>nasgs a&&nasgs b|.rse _ _=>yx|_=>yw
noncomputable def nasgs:Sts->Bool
 |.nil=>yx|.cons s ss=>X4e s&&nasgs ss
end
noncomputable def Xz(get:Sto->Nat->Option (Option D))(t:Tg)(body:En->Sto->R Fl):Nat->Nat->En->Sto->R Fl
 |0,_,_,_=>.bad|k+1,i,env,S=>match get S i with
  |none=>.bad|some yy=>.ok (.nx env) S|some (yz d)=>match Xk t d env with
   |none=>.bad|some J=>match body J S with
    |.ok (.nx e) S'=>Xz get t body k (i+1) e S'|.ok (.brk e) S'=>.ok (.nx e) S'|.ok (.rt d) S'=>.ok (.rt d) S'|.ex n S'=>.ex n S'|.bad=>.bad
noncomputable def Yk(J:En->Sto->R Bool)(body:En->Sto->R Fl):Nat->En->Sto->R Fl
 |0,_,_=>.bad|k+1,env,S=>match J env S with
  |.ok yw S'=>.ok (.nx env) S'|.ok yx S'=>match body env S' with
   |.ok (.nx e) S'=>Yk J body k e S'|.ok (.brk e) S'=>.ok (.nx e) S'|.ok (.rt d) S'=>.ok (.rt d) S'|_=>.bad
  |_=>.bad
mutual
noncomputable def exe:St->En->Sto->R Fl
 |.nev,_,_=>.bad|.asg t e,env,S=>(ev F G e env S).bind λx S=>match Xk t x env with
  |some env=>.ok (.nx env) S|none=>.bad
 |.par is es,env,S=>(evs F G es env S).bind λxs S=>if (ll is)=ll xs then .ok (.nx ((is.zip xs).foldl (λe p=>e.set p.1 (yz p.2)) env)) S else .bad|.aset o i e,env,S=>(ev F G e env S).bind λv S=>(ev F G o env S).bind λx S=>(ev F G i env S).bind λy S=>(Xc8 x y v S).bind λ_ S=>.ok (.nx env) S|.aug i op e,env,S=>match env[i]? with
  |some (yz x)=>(ev F G e env S).bind λy S=>(Xet op x y S).bind λz S=>.ok (.nx (env.set i (yz z))) S|_=>.bad
 |.expr e,env,S=>(ev F G e env S).bind λ_ S=>.ok (.nx env) S|.ret e,env,S=>(ev F G e env S).bind λx S=>.ok (.rt x) S|.ite c a b,env,S=>(ev F G c env S).bind λx S=>match Xf S x with
  |some yx=>pd a env S|some yw=>pd b env S|none=>.bad
 |.for t it b,env,S=>(evit F G it env S).bind λJ S=>Xz J.get t (λenv S=>pd b env S) (J.most S+1) 0 env S
 |.whl c b,env,S=>Yk (λenv S=>(ev F G c env S).bind λx S=>match Xf S x with
   |some r=>.ok r S
   |none=>.bad) (λenv S=>pd b env S) 100000 env S
 |.rsk e m,env,S=>(((ev F G e env S).bind λx S=>Xma x S).bind λx S=>(evo F G .none env S).bind λl S=>(evo F G (.some m) env S).bind λh S=>match Xai l,Xai h with
  |some l,yz h=>Xaj x l h S
  |_,_=>.bad).bind λx S=>.ok (.rt x) S
 |.rse c e,env,S=>(ev F G e env S).bind λ_ S=>.ex (ll S) (S++[.exc c])|.try b c x h,env,S=>if nasgs b then
   match pd b env S with
   |.ex n S'=>match S'[n]? with
    |some (.exc c')=>if c==0||c==c' then
      match pd h (env.set x (yz (.ref n))) S' with
      |.ok (.rt d) S''=>.ok (.rt d) S''|_=>.bad
     else .bad|_=>.bad
   |r=>r
  else .bad|.brk,env,S=>.ok (.brk env) S
noncomputable def pd:Sts->En->Sto->R Fl
 |.nil,env,S=>.ok (.nx env) S|.cons s ss,env,S=>match exe s env S with
  |.ok (.nx e) S'=>pd ss e S'|r=>r
end
structure Df where
 np:Nat
 nl:Nat
 body:Sts
noncomputable def den(d:Df)(ds:LD)(S:Sto):R D:=
 if (ll ds)=d.np then
  match pd F G d.body (ds.map yz++Vg (d.nl-d.np) yy) S with
  |.ok (.rt v) S=>.ok v S|.ok (.nx _) S=>.ok .non S|.ok _ _=>.bad|.ex n S=>.ex n S|.bad=>.bad
 else .bad
end
noncomputable def FT(T:List Df)(G:LD):Nat->Fn
 |0=>λ_ _ _=>.bad|k+1=>λf ds S=>match T[f]? with
  |some d=>den (FT T G k) G d ds S|none=>.bad
def FrL(K:Ve)(H:Hp)(a:Addr)(vs:LW):Prop:=
 (∃o,H a=yz (.frz o (.lst vs))) \/
  ∃(o:Obj) (its:AV) (n:Nat),K.lookup a=yz o/\o.cls=.type "list" /\ o.dict=yy/\o.data=.seq its n/\its.size<=V0/\Vals vs its.toList
theorem FrL.sq{K:Ve}{H:Hp}{a:Addr}{vs:LW}(h:FrL K H a vs):SqL K H a vs:=by
 rcases h with⟨o,h⟩|h;·exact .inl (.inr ⟨o,h⟩)
 ·exact .inr h
mutual
def RD(K:Ve)(ρ:LR)(H:Hp):D->V->Prop
 |.non,v=>v=.non|.bl b,v=>v=.bl b|.int i,v=>v=.int i|.str x,v=>v=.str x|.tup xs,v=>∃a vs,v=.ref a/\SqT K H a vs/\RDs K ρ H xs vs|.fro xs,v=>∃a vs,v=.ref a/\FrL K H a vs/\RDs K ρ H xs vs|.ref n,v=>∃a,v=.ref a/\ρ[n]?=yz a|.fn _ nm,v=>∃a,v=.ref a/\U1 K Uc nm=yz (yz (.ref a))
def RDs(K:Ve)(ρ:LR)(H:Hp):LD->LW->Prop
 |[],vs=>vs=[]|x::xs,vs=>∃v r,vs=v::r/\RD K ρ H x v/\RDs K ρ H xs r
end
noncomputable def clsNames:LS:=["FaceError","NoNet","NoFace","NoPoint","NotApart","TooMany","NoText","NoRow","NoNumber","NotLevel","NoCrowd","NoWay","NotClosed","NoSwap","NoPlaces","NoDeed","NoLine"]
noncomputable def Xbj(c:Nat):Option Str:=(clsNames[c]?).filter λx=>!decide (x="")
theorem Xmb(h:Xbj c=yz x):c<ll clsNames:=by
 unfold Xbj at h;cases q:clsNames[c]? with
 |none=>rw[q]at h;cases h|some _=>exact(Vd.mp q).1
noncomputable def Y9(K:Ve)(c:Nat):Option Addr:=(Xbj c).bind λnm=>match U1 K Uc nm with
 |some (yz (.ref C))=>yz C|_=>yy
def ExcO(C a:Addr)(h:Heap):Prop:=∃J vs L,h.get? a=yz J/\J.cls=.ref C/\J.data=.fields vs/\vs[0]?=yz L/\1<vs.size
theorem ExcO.ok(x:ExcO C a h):ObjOk P w H h a (.ext (ExcO C a)):=
 ⟨x,let ⟨oe,_,_,e,_⟩:=x;⟨oe,e⟩,λh1 h2 ⟨oe,vs,a0,e,r⟩ k=>⟨oe,vs,a0,k _ e,r⟩⟩
def OR(K:Ve)(ρ:LR)(H:Hp)(a:Addr):O->Prop
 |.lst xs=>∃vs,H a=yz (.lst vs)/\RDs K ρ H xs vs|.exc c=>∃C,Y9 K c=yz C/\H a=yz (.ext (ExcO C a))
theorem OR.some{K:Ve}{ρ:LR}{H:Hp}{a:Addr}{o:O}(h:OR K ρ H a o):∃u,H a=yz u/\∀xs,u≠.tup xs:=by
 cases o with
 |lst xs=>obtain⟨vs,e,_⟩:=h;exact⟨_,e,λ_ z=>(nomatch z)⟩|exc c=>obtain⟨C,_,e⟩:=h;exact⟨_,e,λ_ z=>(nomatch z)⟩
theorem OR.nt{K:Ve}{ρ:LR}{H:Hp}{a:Addr}{o:O}{q:Str}(h:OR K ρ H a o):H a≠Option.some (HO.tbl q):=λz=>by
 cases o with
 |lst xs=>obtain⟨vs,e,_⟩:=h;rw[z]at e;cases e|exc c=>obtain⟨C,_,e⟩:=h;rw[z]at e;cases e
noncomputable def mks:LS:=["_law_first_ones","first_wrong"]
noncomputable def Xan(nm:Str):Str:=nm ++ ".<locals>." ++ "<lambda>"
noncomputable def Xcu(K:Ve):List (Addr×Str):=mks.filterMap λnm=>(PySem.W.tabIn K nm).map λp=>(p.2,Xan nm)
def TabH(K:Ve)(H:Hp):Prop:=∀P q,(Xcu K).lookup P=yz q->H P=yz (.tbl q)
theorem TabH.upd{K:Ve}{H:Hp}{p:Addr}{u:HO}(t:TabH K H)(h:∀q,H p≠yz (.tbl q)):TabH K (L2.upd H p u):=λP q e=>by rw[Xe λz=>h q (by rw[<-z];exact t P q e)];exact t P q e
structure SR(K:Ve)(ρ:LR)(S:Sto)(H:Hp):Prop where
 tab:TabH K H
 len:(ll ρ)=ll S
 nd:ρ.Nodup
 ob:∀(n:Nat) a o,ρ[n]?=yz a->S[n]?=yz o->OR K ρ H a o
structure Mon(K:Ve)(ρ ρ':LR)(H H':Hp):Prop where
 pre:∀(n:Nat) a,ρ[n]?=yz a->ρ'[n]?=yz a
 tup:∀a xs,SqT K H a xs->SqT K H' a xs
 frz:∀a o u,H a=yz (.frz o u)->H' a=yz (.frz o u)
structure Stp(K:Ve)(ρ ρ':LR)(H H':Hp):Prop extends Mon K ρ ρ' H H' where
 new:∀a∈ρ',a∈ρ\/H a=yy
 keep:∀a o,H a=yz o->a ∉ ρ->H' a=yz o
section
variable{K:Ve}{ρ ρ' ρ'':LR}{H H' H'':Hp}{S:Sto}
theorem Mon.fro(x:Mon K ρ ρ' H H')(a:Addr)(xs:LW)(h:FrL K H a xs):FrL K H' a xs:=by
 rcases h with⟨o,h⟩|h;·exact .inl ⟨o,x.frz _ _ _ h⟩
 ·exact .inr h
theorem Stp.refl:Stp K ρ ρ H H:=⟨⟨λ_ _ h=>h,λ_ _ h=>h,λ_ _ _ h=>h⟩,λ_ h=>.inl h,λ_ _ h _=>h⟩
theorem Stp.trans(x:Stp K ρ ρ' H H')(y:Stp K ρ' ρ'' H' H''):Stp K ρ ρ'' H H'' where
 pre:=λn a h=>y.pre n a (x.pre n a h)
 new:=λa h=>by
  rcases y.new a h with h|h;·exact x.new a h
  ·cases e:H a with
   |none=>exact .inr rfl|some o=>
    by_cases J:a∈ρ;·exact .inl J
    ·rw[x.keep a o e J]at h;cases h
 keep:=λa o h n=>y.keep a o (x.keep a o h n) λJ=>by
  rcases x.new a J with z|z;·exact n z
  ·rw[h]at z;cases z
 tup:=λa xs h=>y.tup a xs (x.tup a xs h)
 frz:=λa o u h=>y.frz a o u (x.frz a o u h)
mutual
theorem RD.mono'(x:Mon K ρ ρ' H H'):∀(d:D) (v:V),RD K ρ H d v->RD K ρ' H' d v
 |.non=>λv h=>by simpa only[RD] using h|.bl b=>λv h=>by simpa only[RD] using h|.int i=>λv h=>by simpa only[RD] using h|.str y=>λv h=>by simpa only[RD] using h|.tup xs=>λv h=>by simp only[RD]at h ⊢;obtain⟨a,vs,e,h1,h2⟩:=h;exact⟨a,vs,e,x.tup a vs h1,RDs.mono' x xs vs h2⟩|.fro xs=>λv h=>by simp only[RD]at h ⊢;obtain⟨a,vs,e,h1,h2⟩:=h;exact⟨a,vs,e,x.fro a vs h1,RDs.mono' x xs vs h2⟩|.ref n=>λv h=>by simp only[RD]at h ⊢;obtain⟨a,e,h⟩:=h;exact⟨a,e,x.pre n a h⟩|.fn f nm=>λv h=>by simpa only[RD] using h
theorem RDs.mono'(x:Mon K ρ ρ' H H'):∀(ds:LD) (vs:LW),RDs K ρ H ds vs->RDs K ρ' H' ds vs
 |[]=>λvs h=>by simpa only[RDs] using h|d::ds=>λvs h=>by simp only[RDs]at h ⊢;obtain⟨v,r,e,h1,h2⟩:=h;exact⟨v,r,e,RD.mono' x d v h1,RDs.mono' x ds r h2⟩
end
theorem RD.mono(x:Stp K ρ ρ' H H')(d:D)(v:V)(h:RD K ρ H d v):RD K ρ' H' d v:=RD.mono' x.toMon d v h
theorem RDs.mono(x:Stp K ρ ρ' H H')(ds:LD)(vs:LW)(h:RDs K ρ H ds vs):RDs K ρ' H' ds vs:=RDs.mono' x.toMon ds vs h
theorem RDs.nil:RDs K ρ H [] []:=by simp only[RDs]
theorem RDs.cons(h:RD K ρ H d v)(t:RDs K ρ H ds vs):RDs K ρ H (d::ds) (v::vs):=by simp only[RDs];exact⟨v,vs,rfl,h,t⟩
theorem RDs.length:∀ {ds:LD} {vs:LW},RDs K ρ H ds vs->ll ds=ll vs
 |[],vs,h=>by simp only[RDs]at h;subst h;rfl|d::ds,vs,h=>by simp only[RDs]at h;obtain⟨v,r,rfl,_,h2⟩:=h;simp[RDs.length h2]
theorem RDs.append:∀ {ds es:LD} {vs us:LW},RDs K ρ H ds vs->RDs K ρ H es us->RDs K ρ H (ds++es) (vs++us)
 |[],es,vs,us,h,t=>by simp only[RDs]at h;subst h;exact t|d::ds,es,vs,us,h,t=>by simp only[RDs]at h;obtain⟨v,r,rfl,h1,h2⟩:=h;exact RDs.cons h1 (RDs.append h2 t)
theorem RDs.get:∀ {ds:LD} {vs:LW} {i:Nat} {d:D},RDs K ρ H ds vs->ds[i]?=yz d->∃v,vs[i]?=yz v/\RD K ρ H d v
 |[],vs,i,d,h,e=>by simp at e|x::ds,vs,0,d,h,e=>by simp only[RDs]at h;obtain⟨v,r,rfl,h1,h2⟩:=h;simp at e;subst e;exact⟨v,rfl,h1⟩|x::ds,vs,i+1,d,h,e=>by simp only[RDs]at h;obtain⟨v,r,rfl,h1,h2⟩:=h;obtain⟨L,J,h'⟩:=RDs.get (i:=i) h2 (by simpa using e);exact⟨L,by simpa using J,h'⟩
theorem RDs.none{ds:LD}{vs:LW}{i:Nat}(h:RDs K ρ H ds vs)(e:ds[i]?=yy):vs[i]?=none:=by have:=h.length;rw[U2]at e ⊢;omega
theorem RDs.set(J:RD K ρ H d v):∀ {ds:LD} {vs:LW} (i:Nat),RDs K ρ H ds vs->RDs K ρ H (ds.set i d) (vs.set i v)
 |[],vs,i,h=>by simp only[RDs]at h;subst h;exact RDs.nil|x::ds,vs,0,h=>by simp only[RDs]at h;obtain⟨w,r,rfl,h1,h2⟩:=h;exact RDs.cons J h2|x::ds,vs,i+1,h=>by simp only[RDs]at h;obtain⟨w,r,rfl,h1,h2⟩:=h;exact RDs.cons h1 (RDs.set J i h2)
theorem RDs.drop:∀ {ds:LD} {vs:LW} (n:Nat),RDs K ρ H ds vs->RDs K ρ H (ds.drop n) (vs.drop n)
 |ds,vs,0,h=>h|[],vs,n+1,h=>by simp only[RDs]at h;subst h;exact RDs.nil|x::ds,vs,n+1,h=>by simp only[RDs]at h;obtain⟨w,r,rfl,h1,h2⟩:=h;exact RDs.drop n h2
theorem RDs.take:∀ {ds:LD} {vs:LW} (n:Nat),RDs K ρ H ds vs->RDs K ρ H (ds.take n) (vs.take n)
 |ds,vs,0,h=>RDs.nil|[],vs,n+1,h=>by simp only[RDs]at h;subst h;exact RDs.nil|x::ds,vs,n+1,h=>by simp only[RDs]at h;obtain⟨w,r,rfl,h1,h2⟩:=h;exact RDs.cons h1 (RDs.take n h2)
theorem RDs.ints:∀(ns:LI),RDs K ρ H (ns.map D.int) (ns.map V.int)
 |[]=>RDs.nil|n::ns=>RDs.cons (by simp only[RD]) (RDs.ints ns)
theorem RDs.ints_of:∀ {ns:LI} {vs:LW},RDs K ρ H (ns.map D.int) vs->vs=ns.map V.int
 |[],vs,h=>by simp only[Uj,RDs]at h;exact h|n::ns,vs,h=>by simp only[Uj,RDs]at h;obtain⟨v,r,rfl,h1,h2⟩:=h;simp only[RD]at h1;subst h1;rw[RDs.ints_of h2];rfl
theorem OR.mono'(x:Mon K ρ ρ' H H')(h:OR K ρ H a o)(e:H' a=H a):OR K ρ' H' a o:=by
 cases o with
 |lst xs=>obtain⟨vs,h1,h2⟩:=h;exact⟨vs,e.trans h1,RDs.mono' x xs vs h2⟩|exc c=>obtain⟨C,h1,h2⟩:=h;exact⟨C,h1,e.trans h2⟩
theorem OR.mono(x:Stp K ρ ρ' H H')(h:OR K ρ H a o)(e:H' a=H a):OR K ρ' H' a o:=OR.mono' x.toMon h e
theorem SR.at(r:SR K ρ S H){n:Nat}{a:Addr}(h:ρ[n]?=yz a):∃o,S[n]?=yz o/\OR K ρ H a o:=by
 have J:n<ll S:=by rw[<-r.len];exact(Vd.mp h).1
 exact⟨S[n],by simp[J],r.ob n a _ h (by simp[J])⟩
theorem SR.adr(r:SR K ρ S H){n:Nat}(h:S[n]?=yz o):∃a,ρ[n]?=yz a/\OR K ρ H a o:=by
 have J:n < ρ.length:=by rw[r.len];exact(Vd.mp h).1
 exact⟨ρ[n],by simp[J],r.ob n _ o (by simp[J]) h⟩
theorem SR.mem(r:SR K ρ S H){a:Addr}(h:a∈ρ):∃u,H a=yz u/\∀xs,u≠.tup xs:=by obtain⟨n,J,e⟩:=Vct.mp h;obtain⟨o,_,q⟩:=r.at (n:=n) (a:=a) (by simp[J,e]);exact q.some
theorem Stp.upd(hp:H p=yy):Stp K ρ ρ H (L2.upd H p o) where
 pre:=λ_ _ h=>h
 new:=λ_ h=>.inl h
 keep:=λa u h _=>by rw[Xe (Xj h hp)];exact h
 tup:=λa xs h=>by
  rcases h with(h|⟨u,h⟩)|h;·exact .inl (.inl (by rw[Xe (Xj h hp)];exact h))
  ·exact .inl (.inr ⟨u,by rw[Xe (Xj h hp)];exact h⟩)
  exact .inr h
 frz:=λa o u h=>by rw[Xe (Xj h hp)];exact h
theorem SR.upd(r:SR K ρ S H){p:Addr}{o:HO}(hp:H p=yy):SR K ρ S (L2.upd H p o):=
 ⟨r.tab.upd λq=>(by rw[hp];exact λz=>nomatch z),r.len,r.nd,λn a ob h1 h2=>by have q:=r.ob n a ob h1 h2;obtain⟨u,J,_⟩:=q.some;exact q.mono (Stp.upd hp) (Xe (Xj J hp))⟩
theorem Stp.new1(hp:H p=yy):Stp K ρ (ρ++[p]) H (L2.upd H p o) where
 pre:=λn a h=>by rw[Vu (Vd.mp h).1];exact h
 new:=λa h=>by
  rcases Uf.mp h with h|h;·exact .inl h
  ·rw[Ue.mp h];exact .inr hp
 keep:=(Stp.upd (ρ:=ρ) (K:=K) hp).keep
 tup:=(Stp.upd (ρ:=ρ) (K:=K) hp).tup
 frz:=(Stp.upd (ρ:=ρ) (K:=K) hp).frz
theorem SR.new1(r:SR K ρ S H){p:Addr}{u:HO}{o:O}(hp:H p=yy)(ho:OR K (ρ++[p]) (L2.upd H p u) p o):SR K (ρ++[p]) (S++[o]) (L2.upd H p u):=by
 have L:p ∉ ρ:=λh=>by obtain⟨w,J,_⟩:=r.mem h;rw[hp]at J;cases J
 refine⟨r.tab.upd λq=>(by rw[hp];exact λz=>nomatch z),by simp[r.len],?_,λn a ob h1 h2=>?_⟩;·rw[Vhu];refine⟨r.nd,by simp,λx hx y hy=>?_⟩;rw[Ue.mp hy];exact λz=>L (z▸hx)
 ·by_cases Y:n < ρ.length;·rw[Vu Y]at h1;rw[Vu (by rw[<-r.len];exact Y)]at h2;have q:=r.ob n a ob h1 h2;obtain⟨w,J,_⟩:=q.some;exact q.mono (Stp.new1 hp) (Xe (Xj J hp))
  ·have e:n=ll ρ:=by
    have:=(Vd.mp h1).1;simp at this;omega
   subst e;simp at h1;rw[r.len]at h2;simp at h2;subst h1 h2;exact ho
theorem Stp.chg{n:Nat}{a:Addr}{o:O}{u:HO}(r:SR K ρ S H)(ha:ρ[n]?=yz a)(hz:∀o u,H a≠yz (.frz o u)):Stp K ρ ρ H (L2.upd H a u):=by
 have J:a∈ρ:=U8 ha;obtain⟨w,L,h1⟩:=r.mem J;refine⟨⟨λ_ _ h=>h,λb xs h=>?_,λb o u h=>?_⟩,λ_ h=>.inl h,λb o h hb=>?_⟩
 ·rcases h with(h|⟨v,h⟩)|h;·exact .inl (.inl (by rw[Xe (λz=>by subst z;rw[L]at h;exact h1 _ (Uw h))];exact h))
  ·exact .inl (.inr ⟨v,by rw[Xe (λz=>by subst z;exact hz _ _ h)];exact h⟩)
  exact .inr h
 ·rw[Xe (λz=>by subst z;exact hz _ _ h)];exact h
 rw[Xe (λz=>hb (by rw[z];exact J))];exact h
theorem SR.chg{n:Nat}{a:Addr}{o:O}{u:HO}(r:SR K ρ S H)(ha:ρ[n]?=yz a)(hz:∀o u,H a≠yz (.frz o u))(L:OR K ρ (L2.upd H a u) a o):SR K ρ (S.set n o) (L2.upd H a u):=by
 refine⟨r.tab.upd λq=>let ⟨_,_,h⟩:=r.at ha;h.nt,by simp[r.len],r.nd,λm b ob h1 h2=>?_⟩;have J:n<ll S:=by rw[<-r.len];exact(Vd.mp ha).1
 by_cases e:m=n;·subst e;rw[ha]at h1;cases h1;rw[Vb9 J]at h2;cases h2;exact L
 ·rw[Vao (Ne.symm e)]at h2;have q:=r.ob m b ob h1 h2;refine q.mono (Stp.chg (S:=S) (o:=o) r ha hz) (Xe λz=>e ?_);subst z;obtain⟨h3,Y⟩:=Vd.mp h1;obtain⟨h4,e4⟩:=Vd.mp ha;exact(List.getElem_inj r.nd).mp (Y.trans e4.symm)
theorem Mon.own{D:Addr}{u:HO}{vs:LW}(hd:H D=yz (.lst vs)):Mon K ρ ρ H (L2.upd H D u) where
 pre:=λ_ _ h=>h
 tup:=λa xs h=>by
  rcases h with(h|⟨v,h⟩)|h;·exact .inl (.inl (by rw[Xe (λz=>by subst z;rw[hd]at h;cases h)];exact h))
  ·exact .inl (.inr ⟨v,by rw[Xe (λz=>by subst z;rw[hd]at h;cases h)];exact h⟩)
  exact .inr h
 frz:=λa o u h=>by rw[Xe (λz=>by subst z;rw[hd]at h;cases h)];exact h
theorem SR.own{D:Addr}{u:HO}{vs:LW}(r:SR K ρ S H)(hd:H D=yz (.lst vs))(J:D ∉ ρ):SR K ρ S (L2.upd H D u):=
 ⟨r.tab.upd λq=>(by rw[hd];exact λz=>nomatch z),r.len,r.nd,λn a ob h1 h2=>(r.ob n a ob h1 h2).mono' (Mon.own hd) (Xe λz=>J (by rw[<-z];exact U8 h1))⟩
theorem Stp.own{D:Addr}{u:HO}{vs:LW}{ρ0:LR}(x:Stp K ρ0 ρ H0 H)(h0:H0 D=yy)(hd:H D=yz (.lst vs)):Stp K ρ0 ρ H0 (L2.upd H D u) where
 pre:=x.pre
 tup:=λa xs h=>(Mon.own (ρ:=ρ) hd).tup a xs (x.tup a xs h)
 frz:=λa o u h=>(Mon.own (K:=K) (ρ:=ρ) hd).frz a o u (x.frz a o u h)
 new:=x.new
 keep:=λa o h J=>by rw[Xe (Xj h h0)];exact x.keep a o h J
end
structure ER(K:Ve)(ρ:LR)(H:Hp)(env:En)(σ:L2.St):Prop where
 len:(ll env)=ll σ
 val:∀(i:Nat) d,env[i]?=yz (yz d)->∃v,σ[i]?=yz (yz v)/\RD K ρ H d v
theorem ER.mono{K:Ve}{ρ ρ':LR}{H H':Hp}{env:En}{σ:L2.St}(r:ER K ρ H env σ)(x:Stp K ρ ρ' H H'):ER K ρ' H' env σ:=
 ⟨r.len,λi d e=>let ⟨v,h1,h2⟩:=r.val i d e;⟨v,h1,h2.mono x⟩⟩
theorem ER.mono'{K:Ve}{ρ ρ':LR}{H H':Hp}{env:En}{σ:L2.St}(r:ER K ρ H env σ)(x:Mon K ρ ρ' H H'):ER K ρ' H' env σ:=
 ⟨r.len,λi d e=>let ⟨v,h1,h2⟩:=r.val i d e;⟨v,h1,RD.mono' x d v h2⟩⟩
theorem ER.set{K:Ve}{ρ:LR}{H:Hp}{env:En}{σ:L2.St}(r:ER K ρ H env σ)(i:Nat){d:D}{v:V}(h:RD K ρ H d v):ER K ρ H (env.set i (yz d)) (σ.set i (yz v)):=
 ⟨by simp[r.len],λj e h1=>by
  by_cases z:j=i
  ·subst z;have J:j<ll env:=by
    have:=(Vd.mp h1).1;simpa using this
   rw[Vb9 J]at h1;cases h1;exact⟨v,by rw[Vb9 (by rw[<-r.len];exact J)],h⟩
  rw[Vao (Ne.symm z)]at h1
  obtain⟨L,h2,Y⟩:=r.val j e h1;exact⟨L,by rw[Vao (Ne.symm z)];exact h2,Y⟩⟩
structure S0(X:Cx)(pc:LA)(σ:L2.St)(H:Hp)(s:Vc)(ρ:LR)(S:Sto)(env:En):Prop where
 inv:Inv X pc σ H s
 sr:SR X.K ρ S H
 er:ER X.K ρ H env σ
theorem S0.step(I:S0 X pc σ H s ρ S env)(J:Inv X pc σ H' s')(r:SR X.K ρ' S' H')(x:Stp X.K ρ ρ' H H'):
  S0 X pc σ H' s' ρ' S' env:=⟨J,r,I.er.mono x⟩
def EPd(X:Cx)(pc:LA)(σ:L2.St)(ρ:LR)(H:Hp)(d:D)(S':Sto)(u:Vb)(s':Vc):Prop:=
 ∃v H' ρ',Inv X pc σ H' s'/\RelV v u/\RD X.K ρ' H' d v/\SR X.K ρ' S' H'/\Stp X.K ρ ρ' H H'
def Trc(fl:Vb)(ok:Addr->Prop)(H':Hp)(a:Addr)(h:Heap):Prop:=
 ∃L vs T J ts,h.get? a=yz L/\L.data=.fields vs/\vs[1]?=yz (.ref T)/\ok T/\T≠a/\H' T=yy/\h.get? T=yz J/\J.data=.fields ts/\ts[3]?=yz fl
theorem Trc.imp(x:Trc fl ok H' a h)(k:∀T,ok T->ok' T):Trc fl ok' H' a h:=by obtain⟨J,vs,T,L,ts,h1,h2,h3,Y,r⟩:=x;exact⟨J,vs,T,L,ts,h1,h2,h3,k T Y,r⟩
def Xi0(X:Cx)(pc:LA)(T:Addr):Prop:=(T∈X.ex\/X.s₀.heap.get? T=yy)/\∀p∈X.pn++pc,p.1≠T
def Fly(X:Cx)(pc:LA)(H':Hp)(a:Addr)(h:Heap):Prop:=
 (∃J vs,h.get? a=yz J/\J.data=.fields vs/\vs[1]?=yz .none)\/∃fl,(fl=.none\/fl=Vce X.env.locals)/\Trc fl (Xi0 X pc) H' a h
def XPd(X:Cx)(pc:LA)(σ:L2.St)(ρ:LR)(H:Hp)(n:Nat)(S':Sto)(e:Vb)(s':Vc):Prop:=
 ∃H' ρ' a c,Inv X pc σ H' s'/\e=.ref a/\ρ'[n]?=yz a/\S'[n]?=yz (.exc c)/\SR X.K ρ' S' H'/\Stp X.K ρ ρ' H H'/\Fly X pc H' a s'.heap
def OkP(X:Cx)(pc:LA)(σ:L2.St)(ρ:LR)(H:Hp)(r:R D)(u:Vb)(s':Vc):Prop:=∃d S',r=.ok d S'/\EPd X pc σ ρ H d S' u s'
def ExP(X:Cx)(pc:LA)(σ:L2.St)(ρ:LR)(H:Hp){α:Type}(r:R α)(e:Vb)(s':Vc):Prop:=∃n S',r=.ex n S'/\XPd X pc σ ρ H n S' e s'
def DE(X:Cx)(e:Expr)(f:En->Sto->R D):Prop:=
 ∀(pc:LA) (s:Vc) (σ:L2.St) (H:Hp) (ρ:LR) (S:Sto) (env:En),S0 X pc σ H s ρ S env->f env S≠.bad ->
  Vi (Vj X.prog X.w) X.A (eval e X.env) (OkP X pc σ ρ H (f env S)) (ExP X pc σ ρ H (f env S)) s
def DT(X:Cx)(e:Expr)(f:En->Sto->R Bool):Prop:=
 ∀(pc:LA) (s:Vc) (σ:L2.St) (H:Hp) (ρ:LR) (S:Sto) (env:En),S0 X pc σ H s ρ S env->f env S≠.bad ->
  Vi (Vj X.prog X.w) X.A (isTrue e X.env (eval e X.env)) (λb s'=>∃S',f env S=.ok b S'/\∃H' ρ',Inv X pc σ H' s'/\SR X.K ρ' S' H'/\Stp X.K ρ ρ' H H') (ExP X pc σ ρ H (f env S)) s
section
variable{X:Cx}{pc:LA}{σ:L2.St}{H:Hp}{s:Vc}{ρ:LR}{S S':Sto}{env:En}{e:Expr}{f:En->Sto->R D}{g:En->Sto->R Bool}{Q:VP}{E:VP}
theorem DE.ok(h:DE X e f)(I:S0 X pc σ H s ρ S env)(r:f env S=.ok d S')(hQ:∀u s' v H' ρ',S0 X pc σ H' s' ρ' S' env->RelV v u->RD X.K ρ' H' d v->Stp X.K ρ ρ' H H'->Q u s'):
  Vi (Vj X.prog X.w) X.A (eval e X.env) Q E s:=by
 have Y:f env S≠.bad:=by rw[r];exact λz=>nomatch z
 refine Vp (h pc s σ H ρ S env I Y) (λu s' q=>?_) λx s' q=>?_;·obtain⟨d',S1,L,v,H',ρ',J,rv,rd,sr,st⟩:=q;rw[r]at L;cases L;exact hQ u s' v H' ρ' (I.step J sr st) rv rd st
 ·obtain⟨n,S1,L,_⟩:=q;rw[r]at L;cases L
theorem DE.ex(h:DE X e f)(I:S0 X pc σ H s ρ S env)(r:f env S=.ex n S')(Y:∀x s',XPd X pc σ ρ H n S' x s'->E x s'):
  Vi (Vj X.prog X.w) X.A (eval e X.env) Q E s:=by
 have L:f env S≠.bad:=by rw[r];exact λz=>nomatch z
 refine Vp (h pc s σ H ρ S env I L) (λu s' q=>?_) λx s' q=>?_;·obtain⟨d',S1,J,_⟩:=q;rw[r]at J;cases J
 ·obtain⟨m,S1,J,q⟩:=q;rw[r]at J;cases J;exact Y x s' q
theorem DT.ok{Q:Bool->Vc->Prop}{b:Bool}(h:DT X e g)(I:S0 X pc σ H s ρ S env)(r:g env S=.ok b S')(hQ:∀s' H' ρ',S0 X pc σ H' s' ρ' S' env->Stp X.K ρ ρ' H H'->Q b s'):
  Vi (Vj X.prog X.w) X.A (isTrue e X.env (eval e X.env)) Q E s:=by
 have Y:g env S≠.bad:=by rw[r];exact λz=>nomatch z
 refine Vp (h pc s σ H ρ S env I Y) (λu s' q=>?_) λx s' q=>?_;·obtain⟨S1,L,H',ρ',J,sr,st⟩:=q;rw[r]at L;cases L;exact hQ s' H' ρ' (I.step J sr st) st
 ·obtain⟨n,S1,L,_⟩:=q;rw[r]at L;cases L
theorem DT.ex{Q:Bool->Vc->Prop}{n:Nat}(h:DT X e g)(I:S0 X pc σ H s ρ S env)(r:g env S=.ex n S')(Y:∀x s',XPd X pc σ ρ H n S' x s'->E x s'):
  Vi (Vj X.prog X.w) X.A (isTrue e X.env (eval e X.env)) Q E s:=by
 have L:g env S≠.bad:=by rw[r];exact λz=>nomatch z
 refine Vp (h pc s σ H ρ S env I L) (λu s' q=>?_) λx s' q=>?_;·obtain⟨S1,J,_⟩:=q;rw[r]at J;cases J
 ·obtain⟨m,S1,J,q⟩:=q;rw[r]at J;cases J;exact Y x s' q
theorem XPd.pre(st:Stp X.K ρ ρ' H H')(h:XPd X pc σ ρ' H' n S' x s'):XPd X pc σ ρ H n S' x s':=by obtain⟨H2,ρ2,a,c,J,e,hn,hc,sr,st2,fl⟩:=h;exact⟨H2,ρ2,a,c,J,e,hn,hc,sr,st.trans st2,fl⟩
theorem ExP.mk{α:Type}(st:Stp X.K ρ ρ' H H')(h:XPd X pc σ ρ' H' n S' x s'):ExP X pc σ ρ H (.ex n S':R α) x s':=⟨n,S',rfl,h.pre st⟩
theorem OkP.mk(st:Stp X.K ρ ρ' H H')(J:Inv X pc σ H' s')(L:RelV v u)(rd:RD X.K ρ' H' d v)(sr:SR X.K ρ' S' H'):OkP X pc σ ρ H (.ok d S') u s':=
 ⟨d,S',rfl,v,H',ρ',J,L,rd,sr,st⟩
theorem OkP.pre(st:Stp X.K ρ ρ' H H')(h:OkP X pc σ ρ' H' r u s'):OkP X pc σ ρ H r u s':=by obtain⟨d,S1,e,v,H2,Y,J,rv,rd,sr,L⟩:=h;exact⟨d,S1,e,v,H2,Y,J,rv,rd,sr,st.trans L⟩
theorem ExP.pre{α:Type}{ρ':LR}{H':Hp}{r:R α}{x:Vb}{s':Vc}(st:Stp X.K ρ ρ' H H')(h:ExP X pc σ ρ' H' r x s'):ExP X pc σ ρ H r x s':=by obtain⟨n,S1,e,q⟩:=h;exact⟨n,S1,e,q.pre st⟩
theorem DE.bind{α:Type}(h:DE X e f)(I:S0 X pc σ H s ρ S env){k:D->Sto->R α}(Y:(f env S).bind k≠.bad){r:R α}(L:r=(f env S).bind k)
  (hQ:∀d S1 u s' v H' ρ',r=k d S1->k d S1≠.bad->S0 X pc σ H' s' ρ' S1 env->RelV v u->RD X.K ρ' H' d v->Stp X.K ρ ρ' H H'->Q u s') (hE:∀x s',ExP X pc σ ρ H r x s'->E x s'):
  Vi (Vj X.prog X.w) X.A (eval e X.env) Q E s:=by
 cases q:f env S with
 |bad=>rw[q]at Y;cases Y rfl|ex n S1=>rw[q]at L;exact h.ex I q λx s' z=>hE x s' ⟨n,S1,L,z⟩|ok d S1=>rw[q]at L Y;exact h.ok I q λu s' v H' ρ' J rv rd st=>hQ d S1 u s' v H' ρ' L Y J rv rd st
end
theorem Xew:big<=V0:=by rw[Vdd];decide
theorem Xa2(h:n<=big):n<=V0:=V4 h Xew
noncomputable def tst(r:R D):R Bool:=r.bind λx S=>match Xf S x with
 |some b=>.ok b S|none=>.bad
section
variable{X:Cx}{pc:LA}{σ:L2.St}{H:Hp}{s:Vc}{ρ:LR}{S S':Sto}{env:En}{e a b c:Expr}{f fa fb fc:En->Sto->R D}{Q:VP}{E:VP}{pos:Pos}
theorem opd{f:Vb->Vb->Sem Vb}(ho:OpR (X.wish E) f r)(I:Inv X pc σ H s)(L:RelV x v)(Y:RelV y u)(h:r x y H Q')
  (hQ:∀w s' z H',Inv X pc σ H' s'->RelV z w->Q' z H'->Q w s'):Vi (Vj X.prog X.w) X.A (f v u) Q E s:=
 thn (ho pc s σ H x y v u Q' (I.wish E) L Y h) λw s' ⟨z,H',J,rz,q⟩=>hQ w s' z H' J.unwish rz q
theorem ped(Y:PE (X.wish E) e t)(I:Inv X pc σ H s)(h:t σ H Q')(L:∀w s' z H',Inv X pc σ H' s'->RelV z w->Q' z H'->Q w s'):Vi (Vj X.prog X.w) X.A (eval e X.env) Q E s:=
 thn (Y pc s σ H Q' (I.wish E) h) λw s' ⟨z,H',J,rz,q⟩=>L w s' z H' J.unwish rz q
theorem Xfw{f:Vb}{r:LW->Hp->VK->Prop}{xs:LW}{us:LV}{Q':VK}(ho:Xfo (X.wish E) f r)(I:Inv X pc σ H s)(L:Vals xs us)(h:r xs H Q')
  (Y:∀w s' z H',Inv X pc σ H' s'->RelV z w->Q' z H'->Q w s'):Vi (Vj X.prog X.w) X.A (call f us) Q E s:=
 thn (ho pc s σ H xs us Q' (I.wish E) L h) λw s' ⟨z,H',J,rz,q⟩=>Y w s' z H' J.unwish rz q
theorem mtd{id:String}{r:V->LW->Hp->VK->Prop}{x:V}{xs:LW}{v:Vb}{us:LV}{Q':VK}(ho:MtM (X.wish E) id r)(I:Inv X pc σ H s)(Y:RelV x v)(L:Vals xs us)(h:r x xs H Q')
  (hQ:∀w s' z H',Inv X pc σ H' s'->RelV z w->Q' z H'->Q w s'):Vi (Vj X.prog X.w) X.A (call (.builtin id) (v::us)) Q E s:=
 thn (ho pc s σ H x xs v us Q' (I.wish E) Y L h) λw s' ⟨z,H',J,rz,q⟩=>hQ w s' z H' J.unwish rz q
theorem S0.list(I:S0 X pc σ H s ρ S env)(h:Xc S n=yz xs):∃a vs,ρ[n]?=yz a/\H a=yz (.lst vs)/\RDs X.K ρ H xs vs:=by
 unfold Xc at h;cases e:S[n]? with
 |none=>rw[e]at h;cases h|some o=>
  rw[e]at h;cases o with
  |lst ys=>cases h;obtain⟨a,ha,vs,J,L⟩:=I.sr.adr e;exact⟨a,vs,ha,J,L⟩|exc _=>cases h
theorem S0.seq(I:S0 X pc σ H s ρ S env)(h:Xq S d=yz xs)(r:RD X.K ρ H d v):∃a vs,v=.ref a/\(SqL X.K H a vs\/SqT X.K H a vs)/\RDs X.K ρ H xs vs:=by
 cases d with
 |tup ys=>simp only[Xq,Vq]at h;subst h;simp only[RD]at r;obtain⟨a,vs,e,h1,h2⟩:=r;exact⟨a,vs,e,.inr h1,h2⟩|fro ys=>simp only[Xq,Vq]at h;subst h;simp only[RD]at r;obtain⟨a,vs,e,h1,h2⟩:=r;exact⟨a,vs,e,.inl h1.sq,h2⟩|ref n=>simp only[RD]at r;obtain⟨a,e,h1⟩:=r;obtain⟨a',vs,h2,L,J⟩:=I.list (xs:=xs) (n:=n) h;rw[h1]at h2;cases h2;exact⟨a,vs,e,.inl (.of L),J⟩|non=>cases h|bl _=>cases h|int _=>cases h|str _=>cases h|fn _ _=>cases h
theorem Xbk(h:RDs X.K ρ H ds vs):(!vs.isEmpty) = !ds.isEmpty:=by have:=h.length;cases ds<;>cases vs<;>simp_all
theorem Xlh(I:S0 X pc σ H s ρ S env){k:Bool}{Q:Bool->Vc->Prop}(h:Xf S d=yz k)(rd:RD X.K ρ H d v)(rv:RelV v u)(hQ:∀s',Inv X pc σ H s'->Q k s'):
  Vi (Vj X.prog X.w) X.A (truthy u) Q E s:=by
 have Y:X3k X.K v H k:=by
  cases d with
  |non=>simp only[RD]at rd;subst rd;simp only[Xf,Vq]at h;exact h.symm|bl b=>simp only[RD]at rd;subst rd;simp only[Xf,Vq]at h;exact h.symm|int i=>simp only[RD]at rd;subst rd;simp only[Xf,Vq]at h;exact h.symm|str x=>
   simp only[RD]at rd;subst rd;simp only[Xf]at h;split at h;·rename_i hb;exact⟨Xa2 hb,(Uw h).symm⟩
   ·cases h|fn _ _=>cases h|tup xs=>
   simp only[Xf,Vq]at h;obtain⟨a,vs,e,h1,h2⟩:=I.seq (d:=.tup xs) rfl rd;subst e;rcases h1 with h1|h1;·exact .inl ⟨vs,h1,by rw[Xbk h2];exact h.symm⟩
   ·exact .inr (.inl ⟨vs,h1,by rw[Xbk h2];exact h.symm⟩)|fro xs=>
   simp only[Xf,Vq]at h;obtain⟨a,vs,e,h1,h2⟩:=I.seq (d:=.fro xs) rfl rd;subst e;rcases h1 with h1|h1;·exact .inl ⟨vs,h1,by rw[Xbk h2];exact h.symm⟩
   ·exact .inr (.inl ⟨vs,h1,by rw[Xbk h2];exact h.symm⟩)|ref n=>
   simp only[Xf]at h;cases e:S[n]? with
   |none=>rw[e]at h;cases h|some o=>
    rw[e]at h;cases o with
    |lst ys=>obtain⟨a,vs,h1,h2,h3⟩:=I.list (n:=n) (xs:=ys) (by unfold Xc;rw[e]);simp only[RD]at rd;obtain⟨a',e',L⟩:=rd;rw[h1]at L;cases L;subst e';exact .inl ⟨vs,.of h2,by rw[Xbk h3];exact(Uw h).symm⟩|exc _=>cases h
 exact thn (X3l (X:=X.wish E) pc s σ H v u (λk' H'=>k'=k/\H'=H) (I.inv.wish E) rv ⟨k,Y,rfl,rfl⟩) λb s' ⟨H',J,e1,e2⟩=>by subst e1 e2;exact hQ s' J.unwish
theorem DT.of(h:DE X e f)(Y:∀whole,isTrue e X.env whole=(do let v <- whole;standAt e.pos;holding [v] (truthy v))):DT X e (λenv S=>tst (f env S)):=by
 intro pc s σ H ρ S env I L;dsimp only at L ⊢;cases q:f env S with
 |bad=>rw[q]at L;cases L rfl|ex n S1=>exact isTrue_plain (h.ex I q λx s' z=>⟨n,S1,rfl,z⟩) (Y _)|ok d S1=>
  rw[q]at L;cases t:Xf S1 d with
  |none=>simp[tst,t]at L|some k=>refine isTrue_plain (h.ok I q λu s' v H' ρ' J rv rd st=>?_) (Y _);exact Xlh J t rd rv λs2 J2=>⟨S1,by simp[tst,t],H',ρ',J2,J.sr,st⟩
theorem Xy4 {i:Nat} (hN:X.N[i]?=yz x) (hv:Vis X.env.scope x) (hd:(x==("__debug__" : Str))=yw) (Y:(x==("__classdict__" : Str))=yw):
  DE X (.Name x pos) (λenv S=>match env[i]? with|some (yz d)=>.ok d S|_=>.bad):=by
 intro pc s σ H ρ S env I L;dsimp only at L ⊢;cases q:env[i]? with
 |none=>rw[q]at L;cases L rfl|some o=>
  cases o with
  |none=>rw[q]at L;cases L rfl|some d=>obtain⟨v,h1,h2⟩:=I.er.val i d q;exact ped (Q':=λz H'=>z=v/\H'=H) (X3e hN hv hd Y) I.inv ⟨v,h1,rfl,rfl⟩ λu s' z H' J rz ⟨e1,e2⟩=>by subst e1 e2;exact .mk .refl J rz h2 I.sr
theorem d_int:DE X (.Constant (.int i) j pos) (λ_ S=>.ok (.int i) S):=λpc s σ H ρ S env I _=>ped (Q':=λz H'=>z=.int i/\H'=H) X3f I.inv ⟨rfl,rfl⟩ λu s' z H' J rz ⟨e1,e2⟩=>by subst e1 e2;exact .mk .refl J rz (by simp only[RD]) I.sr
theorem d_bl:DE X (.Constant (.bool i) j pos) (λ_ S=>.ok (.bl i) S):=λpc s σ H ρ S env I _=>ped (Q':=λz H'=>z=.bl i/\H'=H) X8k I.inv ⟨rfl,rfl⟩ λu s' z H' J rz ⟨e1,e2⟩=>by subst e1 e2;exact .mk .refl J rz (by simp only[RD]) I.sr
theorem d_non:DE X (.Constant .none j pos) (λ_ S=>.ok .non S):=λpc s σ H ρ S env I _=>ped (Q':=λz H'=>z=.non/\H'=H) X3g I.inv ⟨rfl,rfl⟩ λu s' z H' J rz ⟨e1,e2⟩=>by subst e1 e2;exact .mk .refl J rz (by simp only[RD]) I.sr
theorem d_str:DE X (.Constant (.str i) j pos) (λ_ S=>.ok (.str i) S):=λpc s σ H ρ S env I _=>ped (Q':=λz H'=>z=.str i/\H'=H) X3h I.inv ⟨rfl,rfl⟩ λu s' z H' J rz ⟨e1,e2⟩=>by subst e1 e2;exact .mk .refl J rz (by simp only[RD]) I.sr
def DA(X:Cx)(es:LX)(f:En->Sto->R LD):Prop:=
 ∀(pos:Pos) (pc:LA) (s:Vc) (σ:L2.St) (H:Hp) (ρ:LR) (S:Sto) (env:En),S0 X pc σ H s ρ S env->f env S≠.bad ->
  Vi (Vj X.prog X.w) X.A (spliced (Vb2 pos (Uk es X.env)))
   (λus s'=>∃ds S' vs H' ρ',f env S=.ok ds S'/\Inv X pc σ H' s'/\Vals vs us/\RDs X.K ρ' H' ds vs/\SR X.K ρ' S' H'/\Stp X.K ρ ρ' H H') (ExP X pc σ ρ H (f env S)) s
theorem DA.ok{es:LX}{g:En->Sto->R (LD)}{Q:LV->Vc->Prop}{ds:LD}(h:DA X es g)(I:S0 X pc σ H s ρ S env)(r:g env S=.ok ds S')
  (hQ:∀us s' vs H' ρ',S0 X pc σ H' s' ρ' S' env->Vals vs us->RDs X.K ρ' H' ds vs->Stp X.K ρ ρ' H H'->Q us s'):
  Vi (Vj X.prog X.w) X.A (spliced (Vb2 pos (Uk es X.env))) Q E s:=by
 have Y:g env S≠.bad:=by rw[r];exact λz=>nomatch z
 refine Vp (h pos pc s σ H ρ S env I Y) (λu s' q=>?_) λx s' q=>?_;·obtain⟨d',S1,vs,H',ρ',L,J,rv,rd,sr,st⟩:=q;rw[r]at L;cases L;exact hQ u s' vs H' ρ' (I.step J sr st) rv rd st
 ·obtain⟨n,S1,L,_⟩:=q;rw[r]at L;cases L
theorem DA.ex{es:LX}{g:En->Sto->R (LD)}{Q:LV->Vc->Prop}{n:Nat}(h:DA X es g)(I:S0 X pc σ H s ρ S env)(r:g env S=.ex n S')(Y:∀x s',XPd X pc σ ρ H n S' x s'->E x s'):
  Vi (Vj X.prog X.w) X.A (spliced (Vb2 pos (Uk es X.env))) Q E s:=by
 have L:g env S≠.bad:=by rw[r];exact λz=>nomatch z
 refine Vp (h pos pc s σ H ρ S env I L) (λu s' q=>?_) λx s' q=>?_;·obtain⟨d',S1,_,_,_,J,_⟩:=q;rw[r]at J;cases J
 ·obtain⟨m,S1,J,q⟩:=q;rw[r]at J;cases J;exact Y x s' q
theorem DA.bind{α:Type}{es:LX}{g:En->Sto->R (LD)}{Q:LV->Vc->Prop}(h:DA X es g)(I:S0 X pc σ H s ρ S env){k:LD->Sto->R α}(Y:(g env S).bind k≠.bad){r:R α}(L:r=(g env S).bind k)
  (hQ:∀ds S1 us s' vs H' ρ',r=k ds S1->k ds S1≠.bad->S0 X pc σ H' s' ρ' S1 env->Vals vs us->RDs X.K ρ' H' ds vs->Stp X.K ρ ρ' H H'->Q us s') (hE:∀x s',ExP X pc σ ρ H r x s'->E x s'):
  Vi (Vj X.prog X.w) X.A (spliced (Vb2 pos (Uk es X.env))) Q E s:=by
 cases q:g env S with
 |bad=>rw[q]at Y;cases Y rfl|ex n S1=>rw[q]at L;exact h.ex I q λx s' z=>hE x s' ⟨n,S1,L,z⟩|ok d S1=>rw[q]at L Y;exact h.ok I q λu s' v H' ρ' J rv rd st=>hQ d S1 u s' v H' ρ' L Y J rv rd st
theorem X4f:DA X [] (λ_ S=>.ok [] S):=λ_ pc s σ H ρ S env I _=>Ver ⟨[],S,[],H,ρ,rfl,I.inv,.nil,.nil,I.sr,.refl⟩
theorem Xz6{es:LX}{g:En->Sto->R (LD)}(ha:DE X a fa)(hr:DA X es g)(hs:Uk (a::es) X.env=(yw,eval a X.env)::Uk es X.env):
  DA X (a::es) (λenv S=>(fa env S).bind λx S=>(g env S).bind λxs S=>.ok (x::xs) S):=by
 intro pos pc s σ H ρ S env I nb;dsimp only at nb ⊢;rw[hs];show Vi _ _ (spliced ((yw,eval a X.env)::Vb2 pos (Uk es X.env))) _ _ s;refine Vci (ha.bind I nb rfl (λd S1 u s1 v H1 ae e1 ac I1 rv rd L=>?_) λ_ _ z=>z);rw[e1];exact hr.bind I1 ac rfl (λds S2 us s2 vs H2 ab e2 _ I2 Y aa J=>⟨d::ds,S2,v::vs,H2,ab,e2,I2.inv,.cons rv Y,.cons (rd.mono J) aa,I2.sr,L.trans J⟩) λ_ _ z=>z.pre L
theorem Xcm(J:Inv X pc σ (upd H p (.tup vs)) s')(hp:H p=yy)(sr:SR X.K ρ S H)(rd:RDs X.K ρ H xs vs):OkP X pc σ ρ H (.ok (.tup xs) S) (.ref p) s':=by refine .mk (v:=.ref p) (Stp.upd hp) J rfl ?_ (sr.upd hp);simp only[RD];exact⟨p,vs,rfl,.of Xp,RDs.mono (Stp.upd hp) xs vs rd⟩
theorem Xa3(J:Inv X pc σ (upd H p (.lst vs)) s')(hp:H p=yy)(sr:SR X.K ρ S H)(rd:RDs X.K ρ H xs vs):OkP X pc σ ρ H (.ok (.ref (ll S)) (S++[.lst xs])) (.ref p) s':=by refine .mk (v:=.ref p) (ρ':=ρ++[p]) (Stp.new1 hp) J rfl ?_ (sr.new1 hp ⟨vs,Xp,RDs.mono (Stp.new1 hp) xs vs rd⟩);simp only[RD];exact⟨p,rfl,by rw[<-sr.len];simp⟩
theorem X8n{es:LX}{x1:Nat}{g:En->Sto->R (LD)}(h:DA X es g):DE X (.Tuple es x1 pos) (λenv S=>(g env S).bind λxs S=>if (ll xs)<=big then .ok (.tup xs) S else .bad):=by
 intro pc s σ H ρ S env I nb;dsimp only at nb ⊢;refine wpAny_Tuple_spliced (h.bind I nb rfl (λds S1 us s1 vs H1 aa e1 J L rv rd Y=>?_) λ_ _ z=>z);rw[e1];split at J
 ·rename_i hz;have hl:(ll vs)<=V0:=by rw[<-rd.length];exact Xa2 hz
  rw[iP0 hz];refine⟨by rw[<-rv.length];exact hl,OkP.pre Y (Xcm (L.inv.laid (t':=s1.toks) (λb u e=>Vo _ e) (Vf _) ⟨hl,us,rv,⟨_,Vw _ rfl,rfl,_,rfl⟩⟩) (L.inv.hok.fresh (Vf _)) L.sr rd)⟩
 cases J rfl
theorem X8o{es:LX}{g:En->Sto->R (LD)}(h:DA X es g):DE X (.List es pos) (λenv S=>(g env S).bind λxs S=>if (ll xs)<=big then .ok (.ref (ll S)) (S++[.lst xs]) else .bad):=by
 intro pc s σ H ρ S env I nb;dsimp only at nb ⊢;refine wpAny_List_spliced (h.bind I nb rfl (λds S1 us s1 vs H1 aa e1 J L rv rd Y=>?_) λ_ _ z=>z);rw[e1];split at J
 ·rename_i hz;have hl:(ll vs)<=V0:=by rw[<-rd.length];exact Xa2 hz
  rw[iP0 hz];refine⟨by rw[<-rv.length];exact hl,OkP.pre Y (Xa3 (L.inv.laid (t':=s1.toks) (λb u e=>Vo _ e) (Vf _) ⟨hl,us,0,rv,Vw _ rfl⟩) (L.inv.hok.fresh (Vf _)) L.sr rd)⟩
 cases J rfl
def Op2(X:Cx)(m:Vb->Vb->Sem Vb)(k:D->D->Sto->R D):Prop:=
 ∀(pc:LA) (s:Vc) (σ:L2.St) (H:Hp) (ρ:LR) (S:Sto) (env:En) (x y:D) (v u:V) (J L:Vb) (E:VP),S0 X pc σ H s ρ S env->k x y S≠.bad ->
  RD X.K ρ H x v->RelV v J->RD X.K ρ H y u->RelV u L->Vi (Vj X.prog X.w) X.A (m J L) (OkP X pc σ ρ H (k x y S)) E s
theorem two(ho:Op2 X m k)(ha:DE X a fa)(hb:DE X b fb)(I:S0 X pc σ H s ρ S env){r:R D}
  (nb:(fa env S).bind (λx S=>(fb env S).bind λy S=>k x y S)≠.bad) (hr:r=(fa env S).bind λx S=>(fb env S).bind λy S=>k x y S):
  Vi (Vj X.prog X.w) X.A (eval a X.env) (λv s₁=>Vi (Vj X.prog X.w) X.A (eval b X.env) (λu s₂=>Vi (Vj X.prog X.w) X.A (m v u)
   (OkP X pc σ ρ H r) (ExP X pc σ ρ H r) s₂) (ExP X pc σ ρ H r) s₁) (ExP X pc σ ρ H r) s:=by
 refine ha.bind I nb hr (λx S1 v' s1 v H1 ae e1 ab I1 rv rd L=>?_) λ_ _ z=>z;refine hb.bind I1 ab e1 (λy S2 u' s2 u H2 Y e2 aa I2 ru ac J=>?_) λ_ _ z=>z.pre L;subst e2;exact Vp (ho pc s2 σ H2 Y S2 env x y v u v' u' (λ_ _=>False) I2 aa (rd.mono J) rv ac ru) (λw s3 z=>z.pre (L.trans J)) λ_ _ z=>z.elim
noncomputable def opB:Bo->Operator
 |.add=>.Add|.sub=>.Sub|.mul=>.Mult|.fdiv=>.FloorDiv|.mod=>.Mod|.pow=>.Pow
theorem X8p(L:Op2 X (Vc9 (opB op)) (Xu op))(ha:DE X a fa)(hb:DE X b fb):DE X (.BinOp a (opB op) b pos) (λenv S=>(fa env S).bind λx S=>(fb env S).bind λy S=>Xu op x y S):=
 λpc s σ H ρ S env I J=>wpAny_BinOp (two L ha hb I J rfl)
noncomputable def opC:Co->CmpOp
 |.eq=>.Eq|.ne=>.NotEq|.lt=>.Lt|.le=>.LtE|.gt=>.Gt|.ge=>.GtE|.isnot=>.IsNot
theorem X8q(Y:Op2 X (Va3 (opC op)) (Xi op))(ha:DE X a fa)(hb:DE X b fb)(J:Vgh (opC op) b=yw):
  DE X (.Compare a [opC op] [b] pos) (λenv S=>(fa env S).bind λx S=>(fb env S).bind λy S=>Xi op x y S):=
 λpc s σ H ρ S env I L=>wpAny_Compare1 (two Y ha hb I L rfl) J
theorem Xfx(h:Xi op x y S≠.bad):∃r,Xw op x y S=yz r/\Xi op x y S=.ok (.bl r) S:=by
 unfold Xi at h ⊢;cases e:Xw op x y S with
 |none=>rw[e]at h;cases h rfl|some r=>exact⟨r,rfl,rfl⟩
theorem Xbl(h:Xf S d=yz r):tst (.ok d S)=.ok r S:=by simp[tst,h]
theorem Xz7{op:CmpOp}{k:D->D->Sto->R D}(hk:∀x y S d S',k x y S=.ok d S'->∃r,d=.bl r)(ho:Op2 X (Va3 op) k)(ha:DE X a fa)(hb:DE X b fb)(hm:Vgh op b=yw):
  DT X (.Compare a [op] [b] pos) (λenv S=>tst ((fa env S).bind λx S=>(fb env S).bind λy S=>k x y S)):=by
 intro pc s σ H ρ S env I nb;dsimp only at nb ⊢;have Y:((fa env S).bind λx S=>(fb env S).bind λy S=>k x y S)≠.bad:=λz=>nb (by rw[z];rfl);refine wpAny_isTrue_Compare1 (Vp (two ho ha hb I Y rfl) (λv s1 h1=>Vp h1 (λu s2 h2=>Vp h2 (λw s3 h3=>?_) λx s' z=>?_) λx s' z=>?_) λx s' z=>?_) hm
 ·obtain⟨d,S1,e,v1,H1,L,J,rv,rd,sr,st⟩:=h3;have aa:∃r,d=.bl r:=by
   cases q:fa env S with
   |bad=>rw[q]at e;cases e|ex n S1=>rw[q]at e;cases e|ok x S1=>
    rw[q]at e;simp only[Rk0]at e;cases q2:fb env S1 with
    |bad=>rw[q2]at e;cases e|ex n S1=>rw[q2]at e;cases e|ok y S2=>rw[q2]at e;exact hk x y S2 d _ e
  obtain⟨r,rfl⟩:=aa;simp only[RD]at rd;subst rd;cases rv;exact Vbl ⟨S1,by rw[e];rfl,H1,L,J,sr,st⟩
 all_goals (obtain⟨n,S1,e,q⟩:=z;exact⟨n,S1,by rw[e];rfl,q⟩)
theorem X4g(Y:Op2 X (Va3 (opC op)) (Xi op))(ha:DE X a fa)(hb:DE X b fb)(L:Vgh (opC op) b=yw):
  DT X (.Compare a [opC op] [b] pos) (λenv S=>tst ((fa env S).bind λx S=>(fb env S).bind λy S=>Xi op x y S)):=Xz7 (λx y S d S' e=>by
 obtain⟨r,_,J⟩:=Xfx (op:=op) (x:=x) (y:=y) (S:=S) (by rw[e];exact λz=>nomatch z)
 rw[J]at e;cases e;exact⟨r,rfl⟩) Y ha hb L
theorem Xy5{rest:LX}(ha:DE X a fa)(hb:DE X (.BoolOp .And (b::rest) pos) fb):DE X (.BoolOp .And (a::b::rest) pos)
  (λenv S=>(fa env S).bind λx S=>match Xf S x with|some yx=>fb env S|some yw=>.ok x S|none=>.bad):=by
 intro pc s σ H ρ S env I nb;dsimp only at nb ⊢;refine BoolOp_and (ha.bind I nb rfl (λx S1 u s1 v H1 aa e1 J Y rv rd L=>?_) λ_ _ z=>z);rw[e1];cases t:Xf S1 x with
 |none=>rw[t]at J;cases J rfl|some r=>
  rw[t]at J;refine Xlh Y t rd rv λs2 J2=>?_;cases r with
  |true=>exact Vp (hb pc s2 σ H1 aa S1 env ⟨J2,Y.sr,Y.er⟩ J) (λw s3 z=>z.pre L) λx s' z=>z.pre L|false=>exact .mk L J2 rv rd Y.sr
theorem X4h{rest:LX}(ha:DE X a fa)(hb:DE X (.BoolOp .Or (b::rest) pos) fb):DE X (.BoolOp .Or (a::b::rest) pos)
  (λenv S=>(fa env S).bind λx S=>match Xf S x with|some yx=>.ok x S|some yw=>fb env S|none=>.bad):=by
 intro pc s σ H ρ S env I nb;dsimp only at nb ⊢;refine BoolOp_or (ha.bind I nb rfl (λx S1 u s1 v H1 aa e1 J Y rv rd L=>?_) λ_ _ z=>z);rw[e1];cases t:Xf S1 x with
 |none=>rw[t]at J;cases J rfl|some r=>
  rw[t]at J;refine Xlh Y t rd rv λs2 J2=>?_;cases r with
  |false=>exact Vp (hb pc s2 σ H1 aa S1 env ⟨J2,Y.sr,Y.er⟩ J) (λw s3 z=>z.pre L) λx s' z=>z.pre L|true=>exact .mk L J2 rv rd Y.sr
theorem Xy6(h:DE X a f):DE X (.BoolOp op [a] pos) f:=λpc s σ H ρ S env I J=>BoolOp_one (h pc s σ H ρ S env I J)
theorem X8r(ha:DT X a (λenv S=>tst (fa env S)))(hv:DE X a fa):DE X (.UnaryOp .Not a pos) (λenv S=>(fa env S).bind λx S=>match Xf S x with|some r=>.ok (.bl (!r)) S|none=>.bad):=by
 intro pc s σ H ρ S env I nb;dsimp only at nb ⊢;refine UnaryOp_ (hv.bind I nb rfl (λx S1 u s1 v H1 aa e1 J Y rv rd L=>?_) λ_ _ z=>z);rw[e1];cases t:Xf S1 x with
 |none=>rw[t]at J;cases J rfl|some r=>exact not_of (Xlh Y t rd rv λs2 J2=>.mk (v:=.bl (!r)) L J2 rfl (by simp only[RD]) Y.sr)
theorem X4i(ha:DT X a (λenv S=>tst (fa env S))):DT X (.UnaryOp .Not a pos) (λenv S=>tst ((fa env S).bind λx S=>match Xf S x with|some r=>.ok (.bl (!r)) S|none=>.bad)):=by
 intro pc s σ H ρ S env I J;dsimp only at J ⊢;cases q:fa env S with
 |bad=>rw[q]at J;cases J rfl|ex n S1=>exact isTrue_not (ha.ex I (by simp only[q];rfl) λx s' z=>⟨n,S1,rfl,z⟩)|ok x S1=>
  rw[q]at J;simp only[Rk0]at J ⊢;cases t:Xf S1 x with
  |none=>rw[t]at J;cases J rfl|some r=>exact isTrue_not (ha.ok I (by simp only[q];exact Xbl t) λs2 H2 Y I2 L=>⟨S1,rfl,H2,Y,I2.inv,I2.sr,L⟩)
theorem X8s(hc:DT X c (λenv S=>tst (fc env S)))(ha:DE X a fa)(hb:DE X b fb):
  DE X (.IfExp c a b pos) (λenv S=>(fc env S).bind λx S=>match Xf S x with|some yx=>fa env S|some yw=>fb env S|none=>.bad):=by
 intro pc s σ H ρ S env I J;dsimp only at J ⊢;cases q:fc env S with
 |bad=>rw[q]at J;cases J rfl|ex n S1=>exact wpAny_IfExp (hc.ex I (by simp only[q];rfl) λx s' z=>⟨n,S1,rfl,z⟩)|ok x S1=>
  rw[q]at J;simp only[Rk0]at J ⊢;cases t:Xf S1 x with
  |none=>rw[t]at J;cases J rfl|some r=>
   rw[t]at J;refine wpAny_IfExp (hc.ok I (by simp only[q];exact Xbl t) λs2 H2 Y I2 L=>?_);cases r with
   |true=>exact Vp (ha pc s2 σ H2 Y S1 env I2 J) (λw s3 z=>z.pre L) λx s' z=>z.pre L|false=>exact Vp (hb pc s2 σ H2 Y S1 env I2 J) (λw s3 z=>z.pre L) λx s' z=>z.pre L
def DW(X:Cx)(e:Expr)(f:En->Sto->R Bool):Prop:=
 ∀(whole:Sem Vb) (pc:LA) (s:Vc) (σ:L2.St) (H:Hp) (ρ:LR) (S:Sto) (env:En),S0 X pc σ H s ρ S env->f env S≠.bad ->
  Vi (Vj X.prog X.w) X.A (isTrue e X.env whole) (λb s'=>∃S',f env S=.ok b S'/\∃H' ρ',Inv X pc σ H' s'/\SR X.K ρ' S' H'/\Stp X.K ρ ρ' H H') (ExP X pc σ ρ H (f env S)) s
theorem DW.dt(h:DW X e g):DT X e g:=h _
theorem Xz8(ha:DT X a g):DW X (.BoolOp .And [a] pos) g:=by
 intro wh pc s σ H ρ S env I J;refine isTrue_and (Vp (ha pc s σ H ρ S env I J) (λc L z=>?_) λ_ _ z=>z);cases c with
 |true=>exact isTrue_and_nil z|false=>exact z
theorem X4j(ha:DT X a g):DW X (.BoolOp .Or [a] pos) g:=by
 intro wh pc s σ H ρ S env I J;refine isTrue_or (Vp (ha pc s σ H ρ S env I J) (λc L z=>?_) λ_ _ z=>z);cases c with
 |false=>exact isTrue_or_nil z|true=>exact z
theorem Xs0{rest:LX}(ha:DT X a (λenv S=>tst (fa env S)))(hb:DW X (.BoolOp .And (b::rest) pos) (λenv S=>tst (fb env S))):DW X (.BoolOp .And (a::b::rest) pos)
  (λenv S=>tst ((fa env S).bind λx S=>match Xf S x with|some yx=>fb env S|some yw=>.ok x S|none=>.bad)):=by
 intro wh pc s σ H ρ S env I J;dsimp only at J ⊢;cases q:fa env S with
 |bad=>rw[q]at J;cases J rfl|ex n S1=>exact isTrue_and (ha.ex I (by simp only[q];rfl) λx s' z=>⟨n,S1,rfl,z⟩)|ok x S1=>
  rw[q]at J;simp only[Rk0]at J ⊢;cases t:Xf S1 x with
  |none=>rw[t]at J;cases J rfl|some r=>
   rw[t]at J;refine isTrue_and (ha.ok I (by simp only[q];exact Xbl t) λs2 H2 Y I2 L=>?_);cases r with
   |true=>exact Vp (hb wh pc s2 σ H2 Y S1 env I2 J) (λw s3 ⟨S3,e3,H3,ρ3,J3,sr3,st3⟩=>⟨S3,e3,H3,ρ3,J3,sr3,L.trans st3⟩) λx s' z=>z.pre L|false=>exact⟨S1,Xbl t,H2,Y,I2.inv,I2.sr,L⟩
theorem Xy7{rest:LX}(ha:DT X a (λenv S=>tst (fa env S)))(hb:DW X (.BoolOp .Or (b::rest) pos) (λenv S=>tst (fb env S))):DW X (.BoolOp .Or (a::b::rest) pos)
  (λenv S=>tst ((fa env S).bind λx S=>match Xf S x with|some yx=>.ok x S|some yw=>fb env S|none=>.bad)):=by
 intro wh pc s σ H ρ S env I J;dsimp only at J ⊢;cases q:fa env S with
 |bad=>rw[q]at J;cases J rfl|ex n S1=>exact isTrue_or (ha.ex I (by simp only[q];rfl) λx s' z=>⟨n,S1,rfl,z⟩)|ok x S1=>
  rw[q]at J;simp only[Rk0]at J ⊢;cases t:Xf S1 x with
  |none=>rw[t]at J;cases J rfl|some r=>
   rw[t]at J;refine isTrue_or (ha.ok I (by simp only[q];exact Xbl t) λs2 H2 Y I2 L=>?_);cases r with
   |false=>exact Vp (hb wh pc s2 σ H2 Y S1 env I2 J) (λw s3 ⟨S3,e3,H3,ρ3,J3,sr3,st3⟩=>⟨S3,e3,H3,ρ3,J3,sr3,L.trans st3⟩) λx s' z=>z.pre L|true=>exact⟨S1,Xbl t,H2,Y,I2.inv,I2.sr,L⟩
end
theorem Xa0:∀ {ns:LI} {us:LV},Vals (ns.map V.int) us->Va0 us ns
 |[],_,.nil=>.nil|n::ns,_,.cons r t=>by obtain⟨k,rfl⟩:=r;exact .cons n k (Xa0 t)
section
variable{prog:Ua}{w:Uq}{A:Uy}{E:VP}{s:Vc}{x y:Addr}{us vs:LV}{xs ys:LI}
theorem Xo7:∀(xs ys:LI),xs=[]\/ys=[]->ltL xs ys=decide (ll xs<ll ys)
 |[],[]=>λ_=>rfl|[],_::_=>λ_=>rfl|_::_,[]=>λ_=>rfl|_::_,_::_=>λh=>by rcases h with h|h<;>cases h
theorem Xo8{P:PySem.Fin->Vc->Prop}(hx:Vcl s.heap x us.toArray)(hy:Vcl s.heap y vs.toArray)(ix:Va0 us xs)(iy:Va0 vs ys)(h:P (.done (.ret (.bool (ltL xs ys)))) s):
  Vi (Vj prog w) A (Vb1.«tuple.__lt__» ⟨[.ref x,.ref y],[]⟩) P E s:=by
 obtain⟨o1,a1,c1,n1,d1⟩:=hx;obtain⟨o2,a2,c2,n2,d2⟩:=hy;show Vi _ _ (isInstance (.ref y) (.type "tuple") >>= _) _ _ s;refine Va (wpAny_isInstance (T:="tuple") ⟨o2,a2,c2⟩ isSubtype_tuple_tuple ?_);simp only[Vc1,Ui,if_false];refine Va (Vfu a1 d1 (Va (Vfu a2 d2 (Va ?_))));refine wpAny_forIn_list _ (λl r s'=>r.1=yy/\s'=s/\∃ps Y J L,l=J.zip L/\Va0 J ps/\Va0 L Y/\ltL ps Y=ltL xs ys/\decide (ll J<ll L)=decide (ll us<ll vs)) _ ?_ ?_ _ _ ⟨rfl,rfl,xs,ys,us,vs,rfl,ix,iy,rfl,rfl⟩
 ·rintro ⟨p,q⟩ l r s' ⟨hr,rfl,ps,Y,J,L,hz,i1,i2,e1,e2⟩;cases i1 with
  |nil=>simp at hz|cons a t ab=>
   cases i2 with
   |nil=>simp at hz|cons b u aa=>
    simp only[Vfv,List.cons.injEq,Vdo]at hz;obtain⟨⟨rfl,rfl⟩,rfl⟩:=hz;refine Va (Vgl ?_);by_cases c:a=b
    ·subst c;simp only[beq_self_eq_true,Vc1,Ui,if_false];refine Vh ⟨rfl,rfl,_,_,_,_,rfl,ab,aa,?_,?_⟩;·rw[<-e1];simp[ltL]
     ·rw[<-e2];simp
    have:(a==b)=false:=by simpa using c
    rw[this];simp only[Vf5,if_true];have e3:ltL xs ys=decide (a<b):=by rw[<-e1];simp[ltL,c]
    rw[e3]at h;exact Va (Vbf (Va (lt_int (Va (Vh (Vh (Vh h)))))))
 ·rintro ⟨r1,r2⟩ s' ⟨hr,rfl,ps,Y,J,L,hz,i1,i2,e1,e2⟩;simp only at hr;subst hr;refine Vh ?_;show P (.done (.ret (.bool (decide (us.toArray.size<vs.toArray.size))))) s';have e3:ps=[]\/Y=[]:=by
   cases i1 with
   |nil=>exact .inl rfl|cons a t ab=>
    cases i2 with
    |nil=>exact .inr rfl|cons b u aa=>simp at hz
  rw[Vn,Vn,<-e2,i1.length,i2.length,<-Xo7 ps Y e3,e1];exact h
theorem Xo9{Q:VP}(hu:A.units<Vcb)(L:Vcl s.heap x us.toArray)(J:Vcl s.heap y vs.toArray)(ix:Va0 us xs)(Y:Va0 vs ys)(h:Q (.bool (ltL xs ys)) s):
  Vi (Vj prog w) A (richCompare .Lt (.ref x) (.ref y)) Q E s:=by
 have t1:s.TypeIs (.ref x) "tuple":=let ⟨o,a,c,_⟩:=L;⟨o,a,c⟩
 have t2:s.TypeIs (.ref y) "tuple":=let ⟨o,a,c,_⟩:=J;⟨o,a,c⟩
 exact Vhh (op:=.Lt) t1 t2 Vgv (Vat Vgv t1 F.entry_tuple_lt (Xo8 L J ix Y ⟨_,rfl,(λe=>nomatch e),h⟩) (F.args_tuple_lt_2 _ _)) hu
theorem Xz9{P:PySem.Fin->Vc->Prop}(hx:Vcl s.heap x us.toArray)(hy:Vcl s.heap y vs.toArray)(ix:Va0 us xs)(iy:Va0 vs ys)(h:P (.done (.ret (.bool (ltL ys xs)))) s):
  Vi (Vj prog w) A (Vb1.«tuple.__gt__» ⟨[.ref x,.ref y],[]⟩) P E s:=by
 obtain⟨o1,a1,c1,n1,d1⟩:=hx;obtain⟨o2,a2,c2,n2,d2⟩:=hy;show Vi _ _ (isInstance (.ref y) (.type "tuple") >>= _) _ _ s;refine Va (wpAny_isInstance (T:="tuple") ⟨o2,a2,c2⟩ isSubtype_tuple_tuple ?_);simp only[Vc1,Ui,if_false];refine Va (Vfu a1 d1 (Va (Vfu a2 d2 (Va ?_))));refine wpAny_forIn_list _ (λl r s'=>r.1=yy/\s'=s/\∃ps Y J L,l=J.zip L/\Va0 J ps/\Va0 L Y/\ltL Y ps=ltL ys xs/\decide (ll L<ll J)=decide (ll vs<ll us)) _ ?_ ?_ _ _ ⟨rfl,rfl,xs,ys,us,vs,rfl,ix,iy,rfl,rfl⟩
 ·rintro ⟨p,q⟩ l r s' ⟨hr,rfl,ps,Y,J,L,hz,i1,i2,e1,e2⟩;cases i1 with
  |nil=>simp at hz|cons a t ab=>
   cases i2 with
   |nil=>simp at hz|cons b u aa=>
    simp only[Vfv,List.cons.injEq,Vdo]at hz;obtain⟨⟨rfl,rfl⟩,rfl⟩:=hz;refine Va (Vgl ?_);by_cases c:a=b
    ·subst c;simp only[beq_self_eq_true,Vc1,Ui,if_false];refine Vh ⟨rfl,rfl,_,_,_,_,rfl,ab,aa,?_,?_⟩;·rw[<-e1];simp[ltL]
     ·rw[<-e2];simp
    have:(a==b)=false:=by simpa using c
    rw[this];simp only[Vf5,if_true];have e3:ltL ys xs=decide (b<a):=by rw[<-e1,ltL,iN0 (Ne.symm c)]
    rw[e3]at h;exact Va (Vbf (Va (gt_int (Va (Vh (Vh (Vh h)))))))
 ·rintro ⟨r1,r2⟩ s' ⟨hr,rfl,ps,Y,J,L,hz,i1,i2,e1,e2⟩;simp only at hr;subst hr;refine Vh ?_;show P (.done (.ret (.bool (decide (vs.toArray.size<us.toArray.size))))) s';have e3:ps=[]\/Y=[]:=by
   cases i1 with
   |nil=>exact .inl rfl|cons a t ab=>
    cases i2 with
    |nil=>exact .inr rfl|cons b u aa=>simp at hz
  rw[Vn,Vn,<-e2,i1.length,i2.length,<-Xo7 Y ps e3.symm,e1];exact h
theorem X0a{Q:VP}(hu:A.units<Vcb)(L:Vcl s.heap x us.toArray)(J:Vcl s.heap y vs.toArray)(ix:Va0 us xs)(Y:Va0 vs ys)(h:Q (.bool (ltL ys xs)) s):
  Vi (Vj prog w) A (richCompare .Gt (.ref x) (.ref y)) Q E s:=by
 have t1:s.TypeIs (.ref x) "tuple":=let ⟨o,a,c,_⟩:=L;⟨o,a,c⟩
 have t2:s.TypeIs (.ref y) "tuple":=let ⟨o,a,c,_⟩:=J;⟨o,a,c⟩
 exact Vhh (op:=.Gt) t1 t2 F.slot_tuple_gt (Vat F.slot_tuple_gt t1 F.entry_tuple_gt (Xz9 L J ix Y ⟨_,rfl,(λe=>nomatch e),h⟩) (F.args_tuple_gt_2 _ _)) hu
theorem Xmc{b:Bool}{Q:Bool->Vc->Prop}(hu:A.units<Vcb)(J:Vcl s.heap x us.toArray)(hy:Vcl s.heap y vs.toArray)(Y:Va0 us xs)(L:Va0 vs ys)(h:Q (ltL xs ys) s):
  Vi (Vj prog w) A (oneLt' b (.ref x) (.ref y)) Q E s:=by
 have t1:s.TypeIs (.ref x) "tuple":=let ⟨o,a,c,_⟩:=J;⟨o,a,c⟩
 rw[oneLt'_eq];cases b with
 |false=>simp only[Ui,if_false];exact Va (Xo9 hu J hy Y L (Vbl h))|true=>simp only[if_true];refine Va (wpAny_cRoomFor hu (Va (wpAny_callSpecialIfBound?_slot t1 Vgv (Vat Vgv t1 F.entry_tuple_lt (Xo8 J hy Y L ⟨_,rfl,?_⟩) (F.args_tuple_lt_2 _ _)))));exact Vbl h
end
end Z
end
section
namespace Z
open PySem PySem.Spec PyProof.Rows L2 PySem.SeqAt
open AutoSeq1 (wpAny_loadPart')
theorem Ya0:fillsNumberSlot (.type "tuple") "mul"=pure false:=
 PySem.fillsNumberSlot_seq (r:=yz (.builtin "tuple.__rmul__")) PySem.F.slot_tuple_mul.lookup (by decide+kernel) (by rw[Vgw,Vez];kernel_rfl) (by decide+kernel)
theorem Ya1:seqRepeat? (.type "tuple")=pure (yz (.builtin "tuple.__mul__")):=by unfold seqRepeat?;rw[PySem.seqSlot_of (T:="tuple") (name:="__mul__") (id:="tuple.__mul__") PySem.F.slot_tuple_mul.lookup (by decide+kernel),PySem.seqSlot_of (T:="tuple") (name:="__rmul__") (id:="tuple.__rmul__") (by rw[Vgw,Vez];kernel_rfl) (by decide+kernel)];rfl
noncomputable abbrev Xq0(items:AV)(n:Nat)(dd:Option Addr)(sl:Array OV):Obj:={cls:=.type "tuple",dict:=dd,data:=.seq items n,slots:=sl}
theorem Xs1(a:Int)(t:Tok)(l:Addr)(items:AV)(n:Nat)(dd:Option Addr)(sl:Array OV):
  Meets (Vb1.«int.__rmul__» ⟨[.int a t,.ref l],[]⟩) (λ_ R s=>s.heap.get? l=yz (Xq0 items n dd sl)/\R (.ok (.ret Value.notImplemented)) s):=
 .of_wp λprog w A R s ⟨hl,h⟩=>by obtain⟨J,g,d,tk,os⟩:=s;wp_walk;exact⟨_,rfl,h⟩
section
variable(l:Addr)(items:AV)(n:Nat)(dd:Option Addr)(sl:Array OV)(k:Int)(u:Tok)
theorem X8t:
  Meets (Vb1.«tuple.__mul__» ⟨[.ref l,.int 1 u],[]⟩) (λ_ R s=>s.heap.get? l=yz (Xq0 items n dd sl)/\R (.ok (.ret (.ref l))) s):=
 .of_wp λprog w A R s ⟨hl,h⟩=>by obtain⟨J,g,d,tk,os⟩:=s;have f1:=AutoSeq1.idx_int;have L:=Vfw;wp_walk using Vb5 hl;exact⟨_,rfl,h⟩
theorem X8u(h0:¬ (decide (k < -2^63)||decide (k ≥ 2^63))=yx)(h1:¬ (items.isEmpty||k==1)=yx)(h2:(decide (k<=0)||items.isEmpty)=yx):
  Meets (Vb1.«tuple.__mul__» ⟨[.ref l,.int k u],[]⟩) (λ_ R s=>s.heap.get? l=yz (Xq0 items n dd sl)/\R (.ok (.ret (.ref s.heap.objs.size))) {s with heap:=s.heap.push {cls:=.type "tuple",data:=.seq #[]} }):=
 .of_wp λprog w A R s ⟨hl,h⟩=>by obtain⟨J,g,d,tk,os⟩:=s;have f1:=AutoSeq1.idx_int;have L:=Vfw;wp_walk using Vb5 hl;refine wpAny_ite_false (decide_eq_false h0) ?_;wp_walk using Vb5 hl;exact⟨_,rfl,h⟩
theorem X8v(h0:¬ (decide (k < -2^63)||decide (k ≥ 2^63))=yx)(h1:¬ (items.isEmpty||k==1)=yx)(h2:¬ (decide (k<=0)||items.isEmpty)=yx)(J:¬ (items.size:Int)*k>(2^63-1)/8)
  (h4:¬ Vhn (items.size*k)=yx) (L:(Vgr (λx1 x2=>x1++x2) #[] (Vg k.toNat items)).size<=V0):
  Meets (Vb1.«tuple.__mul__» ⟨[.ref l,.int k u],[]⟩) (λ_ R s=>s.heap.get? l=yz (Xq0 items n dd sl)/\R (.ok (.ret (.ref s.heap.objs.size))) {s with heap:=s.heap.push {cls:=.type "tuple",data:=.seq (Vgr (λx1 x2=>x1++x2) #[] (Vg k.toNat items))} }):=
 .of_wp λprog w A R s ⟨hl,h⟩=>by obtain⟨hp,g,d,tk,os⟩:=s;have f1:=AutoSeq1.idx_int;have Y:=Vfw;wp_walk using Vb5 hl;refine wpAny_ite_false (decide_eq_false h0) ?_;wp_walk using Vb5 hl;refine wpAny_ite_false (decide_eq_false J) ?_;wp_walk using Vb5 hl;exact⟨_,rfl,h⟩
end
section
variable{E:VP}{s:Vc}
theorem Xkp(its:LV):∀(m:Nat) (acc:LV),Vgr (λx1 x2=>x1++x2) acc.toArray (Vg m its.toArray)=(acc++(Vg m its).flatten).toArray
 |0=>λacc=>by simp|m+1=>λacc=>by rw[Var,Vgs,List.append_toArray,Xkp its m];simp[Var]
theorem X0b(ht:Vcl s.heap t vs.toArray)(hv:vs≠[])(hk:-(1048576)<k)(ae:k<1048576)(hz:(ll vs)*k.toNat<=1000000)
  (h1:k=1->Q (.ref t) s) (h2:k≠1->Q (.ref s.heap.objs.size) {s with heap:=s.heap.push {cls:=.type "tuple",data:=.seq (Vg k.toNat vs).flatten.toArray} }):
  Vi (Vj prog w) A (Vc9 .Mult (.ref t) (.int k u)) Q E s:=by
 obtain⟨⟨cls,dd,data,sl⟩,J,hc,n,hd⟩:=id ht;simp only at hc hd;subst hc hd;have ez:(vs.toArray.isEmpty)=false:=by cases vs with|nil=>exact aB0 rfl hv|cons _ _=>rfl
 have h0:¬ (decide (k < -2^63)||decide (k ≥ 2^63))=true:=by simp;omega
 have go:∀ {S:PySem.Spec},Meets (Vb1.«tuple.__mul__» ⟨[.ref t,.int k u],[]⟩) S->S A (wants Q E) s->Vi (Vj prog w) A (Vc9 .Mult (.ref t) (.int k u)) Q E s:=λg hS=>
  Vhz (T:="tuple") (U:="int") (by decide) ⟨_,J,rfl⟩ (λs'=>typeIs_int s' k u) Ya0 PySem.F.fills_int_mul PySem.F.slot_int_rmul Ya1 PySem.F.slot_int_index.lookup
   (Vec PySem.F.slot_int_rmul (typeIs_int s k u) PySem.F.entry_int_rmul (PySem.F.args_int_rmul_2 _ _) (Xs1 k u t vs.toArray n dd sl)
    ⟨J,rfl,⟨_,J,rfl⟩,Vec PySem.F.slot_tuple_mul ⟨_,J,rfl⟩ PySem.F.entry_tuple_mul (PySem.F.args_tuple_mul_2 _ _) g hS⟩)
 by_cases Y:k=1;·subst Y;exact go (X8t t vs.toArray n dd sl u) ⟨J,h1 rfl⟩
 ·have L:¬ (vs.toArray.isEmpty||k==1)=true:=by rw[ez];simpa using Y
  by_cases e0:k<=0
  ·refine go (X8u t vs.toArray n dd sl k u h0 L (by simp[e0])) ⟨J,?_⟩;have:=h2 Y;have e2:k.toNat=0:=by omega
   rw[e2]at this;exact this
  have ef:=Xkp vs k.toNat [];rw[Uz]at ef;have hl:(Vg k.toNat vs).flatten.length=k.toNat*ll vs:=Xiu vs k.toNat;have aa:(ll vs)*k.toNat<=V0:=V4 hz (by decide);have ac:(ll vs:Int)*k<=1000000:=by
   have ab:(k.toNat:Int)=k:=by omega
   rw[<-ab,<-Veg];exact Int.ofNat_le.mpr hz
  refine go (X8v t vs.toArray n dd sl k u h0 L (by rw[ez];simpa using e0) ?_ ?_ ?_) ⟨J,?_⟩;·rw[Vn];omega
  ·rw[Vn];unfold Vhn;have:(1000000:Int)<=(V0:Int):=by decide
   intro hh;have hh:=oD0 hh;omega
  ·rw[show(#[]:AV)=([]:LV).toArray from rfl,ef,Vn,hl,Vev];exact aa
  rw[show(#[]:AV)=([]:LV).toArray from rfl,ef];exact h2 Y
end
end Z
end
section
namespace Z
open PySem PySem.Spec PyProof.Rows L2
section
variable{X:Cx}{pc:LA}{σ:L2.St}{H:Hp}{s:Vc}{ρ:LR}{S:Sto}{env:En}{Q:VP}{E:VP}
mutual
theorem Xpa(I:S0 X pc σ H s ρ S env)(hl:∀n p a,look n=yz p->ρ[n]?=yz a->∃as,Reads s.heap (.ref a) p as/\∀b∈as,b∈ρ):
  ∀(d:D) (v:V) (u:Vb) (p:Vcs),X4 look d=yz p->RD X.K ρ H d v->RelV v u->∃as,Reads s.heap u p as/\∀b∈as,b∈ρ
 |.non=>λv u p h rd J=>by simp only[X4,Vq]at h;simp only[RD]at rd;subst h rd;cases J;exact⟨_,.none,λ_ z=>nomatch z⟩|.bl b=>λv u p h rd J=>by simp only[X4,Vq]at h;simp only[RD]at rd;subst h rd;cases J;exact⟨_,.bool b,λ_ z=>nomatch z⟩|.int i=>λv u p h rd J=>by simp only[X4,Vq]at h;simp only[RD]at rd;subst h rd;obtain⟨t,rfl⟩:=J;exact⟨_,.int i t,λ_ z=>nomatch z⟩|.str i=>λv u p h rd J=>by simp only[X4,Vq]at h;simp only[RD]at rd;subst h rd;obtain⟨t,rfl⟩:=J;exact⟨_,.str i t,λ_ z=>nomatch z⟩|.fro _=>λv u p h rd J=>by simp only[X4]at h;cases h|.fn _ _=>λv u p h rd J=>by cases h|.tup xs=>λv u p h rd J=>by
  simp only[X4]at h;cases e:datFs look xs with
  |none=>rw[e]at h;cases h|some ps=>rw[e]at h;cases h;simp only[RD]at rd;obtain⟨a,vs,rfl,Y,hs⟩:=rd;cases J;obtain⟨its,r,⟨o,ho,hc,n,hd⟩,hz⟩:=I.inv.tuple Y;obtain⟨as,q,L⟩:=reads_Fs I hl xs vs its ps e hs r;exact⟨_,.tuple ho hc hd (by simpa using q),L⟩
 |.ref n=>λv u p h rd J=>by simp only[X4]at h;simp only[RD]at rd;obtain⟨a,rfl,ha⟩:=rd;cases J;exact hl n p a h ha
theorem reads_Fs(I:S0 X pc σ H s ρ S env)(hl:∀n p a,look n=yz p->ρ[n]?=yz a->∃as,Reads s.heap (.ref a) p as/\∀b∈as,b∈ρ):
  ∀(ds:LD) (vs:LW) (us:LV) (ps:List Vcs),datFs look ds=yz ps->RDs X.K ρ H ds vs->Vals vs us->∃as,ReadsAll s.heap us ps as/\∀b∈as,b∈ρ
 |[]=>λvs us ps h rd Y=>by simp only[datFs,Vq]at h;simp only[RDs]at rd;subst h rd;cases Y;exact⟨_,.nil,λ_ z=>nomatch z⟩|d::ds=>λvs us ps h rd Y=>by
  simp only[datFs]at h;simp only[RDs]at rd;obtain⟨v,r,rfl,h1,h2⟩:=rd;cases J:X4 look d with
  |none=>rw[J]at h;cases h|some p=>
   cases e2:datFs look ds with
   |none=>rw[J,e2]at h;cases h|some ab=>
    rw[J,e2]at h;cases h;cases Y with
    |cons ru aa=>obtain⟨as,q,qm⟩:=Xpa I hl d v _ p J h1 ru;obtain⟨bs,q2,L⟩:=reads_Fs I hl ds r _ ab e2 h2 aa;exact⟨_,.cons q q2,λb hb=>(Uf.mp hb).elim (qm b) (L b)⟩
end
theorem Xpb(I:S0 X pc σ H s ρ S env):∀(k n:Nat) (p:Vcs) (a:Addr),Xae S k n=yz p->ρ[n]?=yz a->∃as,Reads s.heap (.ref a) p as/\∀b∈as,b∈ρ
 |0=>λn p a h ha=>by simp only[Xae]at h;cases h|k+1=>λn p a h ha=>by
  simp only[Xae]at h;cases e:S[n]? with
  |none=>rw[e]at h;cases h|some o=>
   rw[e]at h;have q:=I.sr.ob n a o ha e;cases o with
   |lst xs=>
    dsimp only at h;cases J:datFs (Xae S k) xs with
    |none=>rw[J]at h;cases h|some ps=>rw[J]at h;cases h;obtain⟨vs,L,Y⟩:=q;obtain⟨_,its,n',r,ho⟩:=I.inv.hok a _ L;obtain⟨as,z,zm⟩:=reads_Fs I (Xpb I k) xs vs its ps J Y r;exact⟨_,.list ho rfl rfl (by simpa using z),λb hb=>(V2.mp hb).elim (λq=>q▸U8 ha) (zm b)⟩
   |exc _=>cases h
theorem Xmd(I:S0 X pc σ H s ρ S env)(h:Xam S d=yz p)(rd:RD X.K ρ H d v)(J:RelV v u):∃as,Reads s.heap u p as/\∀b∈as,b∈ρ:=
 Xpa I (Xpb I 4) d v u p h rd J
theorem Xfy(I:S0 X pc σ H s ρ S env)(h:Xam S d=yz p)(rd:RD X.K ρ H d v)(J:RelV v u):∃as,Reads s.heap u p as:=
 let ⟨as,r,_⟩:=Xmd I h rd J
 ⟨as,r⟩
theorem Xs2(I:S0 X pc σ H s ρ S env)(J:∃o,X.K.lookup Vdw=yz o)(h:Xam S d=yz p)(rd:RD X.K ρ H d v)(Y:RelV v u):∃as,Reads s.heap u p as/\Vdw ∉ as:=by obtain⟨as,r,hm⟩:=Xmd I h rd Y;refine⟨as,r,λhb=>?_⟩;obtain⟨o,ho⟩:=J;obtain⟨w,L,_⟩:=I.sr.mem (hm _ hb);have:=(I.inv.bs _ _ (I.inv.mod.kin _ _ ho)).2;rw[L]at this;cases this
theorem Xl(sr:SR X.K ρ S H)(J:Inv X pc σ H s'):OkP X pc σ ρ H (.ok (.bl r) S) (.bool r) s':=.mk (v:=.bl r) .refl J rfl (by simp only[RD]) sr
theorem Y6(sr:SR X.K ρ S H)(J:Inv X pc σ H s'):OkP X pc σ ρ H (.ok (.int i) S) (.int i t) s':=.mk (v:=.int i) .refl J ⟨t,rfl⟩ (by simp only[RD]) sr
theorem Xhx(sr:SR X.K ρ S H)(J:Inv X pc σ H s'):OkP X pc σ ρ H (.ok (.str x) S) (.str x t) s':=.mk (v:=.str x) .refl J ⟨t,rfl⟩ (by simp only[RD]) sr
theorem Ya2(h:(a&&b&&c)=yx):a=yx/\b=yx/\c=true:=by rw[bA0,bA0]at h;exact⟨h.1.1,h.1.2,h.2⟩
theorem Xkq(h:Xdi x y=yz r):∃a b,x=.str a/\y=.str b/\r=(a.cps.toList==b.cps.toList):=by
 cases x with
 |str a=>cases y with
  |str b=>exact⟨a,b,rfl,rfl,(Uw h).symm⟩|_=>cases h
 |_=>cases h
theorem Xs3(h:Xix S x y=yz r):∃a b xs ys,x=.ref a/\y=.ref b/\Xc S a=yz xs/\Xc S b=yz ys/\(ll xs)≠ll ys/\r=false:=by
 cases x with
 |ref a=>cases y with
  |ref b=>
   simp only[Xix]at h;cases J:Xc S a with
   |none=>rw[J]at h;cases h|some xs=>
    cases L:Xc S b with
    |none=>rw[J,L]at h;cases h|some ys=>
     rw[J,L]at h;dsimp only at h;split at h;·cases h
     ·cases h;exact⟨a,b,xs,ys,rfl,rfl,J,L,by assumption,rfl⟩
  |_=>cases h
 |_=>cases h
theorem Xme(h0:eqD S x y=yz r)(Y:Xdi x y=yy):(∃p q,Xam S x=yz p/\Xam S y=yz q/\p.canLay0=yx/\q.canLay0=yx/\p.depth<=60/\r=Vef p q)\/Xix S x y=yz r:=by
 have h:=h0;unfold eqD at h;rw[Y]at h;dsimp only at h;cases J:Xam S x with
 |none=>rw[J]at h;exact .inr h|some p=>
  cases L:Xam S y with
  |none=>rw[J,L]at h;exact .inr h|some q=>
   rw[J,L]at h;dsimp only at h;split at h;·rename_i hc;obtain⟨h1,h2,h3⟩:=Ya2 hc;exact .inl ⟨p,q,rfl,rfl,h1,h2,oD0 h3,(Uw h).symm⟩
   ·exact .inr h
theorem S0.lstM(I:S0 X pc σ H s ρ S env)(h:lstM S n=yz xs):∃a vs,ρ[n]?=yz a/\H a=yz (.lst vs)/\RDs X.K ρ H xs vs:=I.list h
theorem S0.lstR(I:S0 X pc σ H s ρ S env)(h:Z.lstM S n=yz xs)(r:RD X.K ρ H (.ref n) v):∃a vs,v=.ref a/\ρ[n]?=yz a/\H a=yz (.lst vs)/\RDs X.K ρ H xs vs:=by simp only[RD]at r;obtain⟨a,e,h1⟩:=r;obtain⟨a',vs,h2,L,J⟩:=I.lstM h;rw[h1]at h2;cases h2;exact⟨a,vs,e,h1,L,J⟩
theorem Xmf(I:S0 X pc σ H s ρ S env)(h:Xix S x y=yz r)(rx:RD X.K ρ H x v)(rv:RelV v u)(ry:RD X.K ρ H y v')(ru:RelV v' u'):
  r=yw/\∃a b its its',u=.ref a/\u'=.ref b/\s.heap.IsList a its/\s.heap.IsList b its'/\(its.size != its'.size)=true:=by
 obtain⟨n,m,xs,ys,rfl,rfl,h1,h2,aa,rfl⟩:=Xs3 h;obtain⟨a,vs,rfl,ha,L,Y⟩:=I.lstR h1 rx;obtain⟨b,us,rfl,hb,J,rb⟩:=I.lstR h2 ry;cases rv;cases ru;obtain⟨_,i1,n1,q1,o1⟩:=I.inv.hok a _ L;obtain⟨_,i2,n2,q2,o2⟩:=I.inv.hok b _ J;refine⟨rfl,a,b,i1.toArray,i2.toArray,rfl,rfl,⟨_,o1,rfl,_,rfl⟩,⟨_,o2,rfl,_,rfl⟩,?_⟩;have e1:(ll i1)=ll xs:=by rw[Y.length];exact q1.length.symm
 have e2:(ll i2)=ll ys:=by rw[rb.length];exact q2.length.symm
 simp only[Vn,bne_iff_ne,ne_eq];omega
theorem Ya3(hu:X.A.units+200<Vcb):Op2 X (Va3 .Eq) (Xi .eq):=by
 intro pc s σ H ρ S env x y v u v' u' E I nb J rv L ru;obtain⟨r,e,e2⟩:=Xfx nb;rw[e2];cases Y:Xdi x y with
 |some r'=>
  obtain⟨a,b,rfl,rfl,hr⟩:=Xkq Y;have er:r=r':=by have e':eqD S (.str a) (.str b)=yz r:=e;unfold eqD at e';rw[Y]at e';exact(Uw e').symm
  subst er hr;simp only[RD]at J L;subst J L;obtain⟨t,rfl⟩:=rv;obtain⟨t',rfl⟩:=ru;exact PySem.P.eq_str (Xl I.sr I.inv)|none=>
 rcases Xme e Y with⟨p,q,h1,h2,h3,h4,h5,rfl⟩|hl
 rotate_left
 ·obtain⟨rfl,a,b,i1,i2,rfl,rfl,l1,l2,l3⟩:=Xmf I hl J rv L ru;exact SeqAt.RcAt.lists_lengths l1 l2 l3 (by omega) X.prog X.w E _ (Xl I.sr I.inv)
 obtain⟨as,ra⟩:=Xfy I h1 J rv;obtain⟨bs,rb⟩:=Xfy I h2 L ru;exact SeqAt.rcAt_reads ra rb h3 h4 (by omega) X.prog X.w E _ (Xl I.sr I.inv)
theorem Ya4(hu:X.A.units+200<Vcb):Op2 X (Va3 .NotEq) (Xi .ne):=by
 intro pc s σ H ρ S env x y v u v' u' E I nb J rv L ru;obtain⟨r,e,e2⟩:=Xfx nb;rw[e2];simp only[Xw,Ul]at e;obtain⟨r',e,rfl⟩:=e;cases Y:Xdi x y with
 |some r2=>
  obtain⟨a,b,rfl,rfl,hr⟩:=Xkq Y;have er:r'=r2:=by have e':eqD S (.str a) (.str b)=yz r':=e;unfold eqD at e';rw[Y]at e';exact(Uw e').symm
  subst er hr;simp only[RD]at J L;subst J L;obtain⟨t,rfl⟩:=rv;obtain⟨t',rfl⟩:=ru;exact PySem.P.ne_str (Xl I.sr I.inv)|none=>
 rcases Xme e Y with⟨p,q,h1,h2,h3,h4,h5,rfl⟩|hl
 rotate_left
 ·obtain⟨rfl,a,b,i1,i2,rfl,rfl,l1,l2,l3⟩:=Xmf I hl J rv L ru;exact SeqAt.RcNeAt.lists_lengths l1 l2 l3 (by omega) X.prog X.w E _ (Xl I.sr I.inv)
 obtain⟨as,ra⟩:=Xfy I h1 J rv;obtain⟨bs,rb⟩:=Xfy I h2 L ru;exact SeqAt.rcNeAt_reads ra rb h3 h4 (by omega) X.prog X.w E _ (Xl I.sr I.inv)
theorem Xbr{f:D->D->Sto->R D}{q:Vb->Vb->Sem Vb}(hf:∀x y S,f x y S≠.bad->∃i j,x=.int i/\y=.int j)
  (hi:∀ {pc s σ H ρ S env i j t t' E},S0 X pc σ H s ρ S env->f (.int i) (.int j) S≠.bad->Vi (Vj X.prog X.w) X.A (q (.int i t) (.int j t')) (OkP X pc σ ρ H (f (.int i) (.int j) S)) E s):Op2 X q f:=by
 intro pc s σ H ρ S env x y v u v' u' E I J L rv Y ru;obtain⟨i,j,rfl,rfl⟩:=hf x y S J;simp only[RD]at L Y;subst L Y;obtain⟨t,rfl⟩:=rv;obtain⟨t',rfl⟩:=ru;exact hi I J
theorem Ya5:Op2 X (Va3 .LtE) (Xi .le):=Xbr (λx y S h=>by cases x<;>first|exact aB0 rfl h|(cases y<;>first|exact⟨_,_,rfl,rfl⟩|exact aB0 rfl h)) λI J=>le_int (Xl I.sr I.inv)
theorem Ya6:Op2 X (Va3 .GtE) (Xi .ge):=Xbr (λx y S h=>by cases x<;>first|exact aB0 rfl h|(cases y<;>first|exact⟨_,_,rfl,rfl⟩|exact aB0 rfl h)) λI J=>ge_int (Xl I.sr I.inv)
theorem Yl:∀ {xs:LD} {ns:LI},Xo xs=yz ns->xs=ns.map D.int
 |[],ns,h=>by simp only[Xo,Vq]at h;subst h;rfl|.int i::r,ns,h=>by simp only[Xo,Ul]at h;obtain⟨ms,h1,rfl⟩:=h;rw[Yl h1];rfl|.non::_,_,h=>by simp[Xo]at h|.bl _::_,_,h=>by simp[Xo]at h|.str _::_,_,h=>by simp[Xo]at h|.tup _::_,_,h=>by simp[Xo]at h|.ref _::_,_,h=>by simp[Xo]at h|.fro _::_,_,h=>by simp[Xo]at h
theorem Ya7(hu:X.A.units+200<Vcb):Op2 X (Va3 .Lt) (Xi .lt):=by
 intro pc s σ H ρ S env x y v u v' u' E I J Y rv L ru;cases x with
 |int i=>cases y with
  |int j=>simp only[RD]at Y L;subst Y L;obtain⟨t,rfl⟩:=rv;obtain⟨t',rfl⟩:=ru;exact lt_int (Xl I.sr I.inv)|_=>cases J rfl
 |tup xs=>cases y with
  |tup ys=>
   simp only[Xi,Xw,ltD]at J ⊢;cases e1:Xo xs with
   |none=>rw[e1]at J;cases J rfl|some a=>
    cases e2:Xo ys with
    |none=>rw[e1,e2]at J;cases J rfl|some b=>have q1:=Yl e1;have q2:=Yl e2;subst q1;subst q2;simp only[RD]at Y L;obtain⟨b1,ak,rfl,ae,ah⟩:=Y;obtain⟨b2,al,rfl,af,ac⟩:=L;have ab:=ah.ints_of;have aa:=ac.ints_of;subst ab;subst aa;cases rv;cases ru;obtain⟨aj,u1,u2,_⟩:=I.inv.tuple ae;obtain⟨ai,u3,u4,_⟩:=I.inv.tuple af;exact Xo9 (by omega) u2 u4 (Xa0 u1) (Xa0 u3) (Xl I.sr I.inv)
  |_=>cases J rfl
 |_=>cases J rfl
theorem Ya8(hu:X.A.units+200<Vcb):Op2 X (Va3 .Gt) (Xi .gt):=by
 intro pc s σ H ρ S env x y v u v' u' E I J Y rv L ru;cases x with
 |int i=>cases y with
  |int j=>simp only[RD]at Y L;subst Y L;obtain⟨t,rfl⟩:=rv;obtain⟨t',rfl⟩:=ru;exact gt_int (Xl I.sr I.inv)|_=>cases J rfl
 |tup xs=>cases y with
  |tup ys=>
   simp only[Xi,Xw,ltD]at J ⊢;cases e1:Xo ys with
   |none=>rw[e1]at J;cases J rfl|some a=>
    cases e2:Xo xs with
    |none=>rw[e1,e2]at J;cases J rfl|some b=>have q1:=Yl e1;have q2:=Yl e2;subst q1;subst q2;simp only[RD]at Y L;obtain⟨b1,ak,rfl,ae,ah⟩:=Y;obtain⟨b2,al,rfl,af,ac⟩:=L;have ab:=ah.ints_of;have aa:=ac.ints_of;subst ab;subst aa;cases rv;cases ru;obtain⟨aj,u1,u2,_⟩:=I.inv.tuple ae;obtain⟨ai,u3,u4,_⟩:=I.inv.tuple af;exact X0a (by omega) u2 u4 (Xa0 u1) (Xa0 u3) (Xl I.sr I.inv)
  |_=>cases J rfl
 |_=>cases J rfl
theorem X0c:Op2 X (Va3 .IsNot) (Xi .isnot):=by
 intro pc s σ H ρ S env x y v u v' u' E I nb J L Y ru;cases y with
 |non=>
  simp only[RD]at Y;subst Y;cases ru;cases x with
  |non=>simp only[RD]at J;subst J;cases L;exact Vae rfl (Xl I.sr I.inv)|bl b=>simp only[RD]at J;subst J;cases L;exact Vae rfl (Xl I.sr I.inv)|int b=>simp only[RD]at J;subst J;obtain⟨t,rfl⟩:=L;exact Vae rfl (Xl I.sr I.inv)|str b=>simp only[RD]at J;subst J;obtain⟨t,rfl⟩:=L;exact Vae rfl (Xl I.sr I.inv)|tup b=>simp only[RD]at J;obtain⟨a,_,rfl,_⟩:=J;cases L;exact Vae rfl (Xl I.sr I.inv)|fro b=>simp only[RD]at J;obtain⟨a,_,rfl,_⟩:=J;cases L;exact Vae rfl (Xl I.sr I.inv)|ref b=>simp only[RD]at J;obtain⟨a,rfl,_⟩:=J;cases L;exact Vae rfl (Xl I.sr I.inv)|fn _ _=>simp only[RD]at J;obtain⟨a,rfl,_⟩:=J;cases L;exact Vae rfl (Xl I.sr I.inv)
 |bl c=>
  simp only[RD]at Y;subst Y;cases ru;cases x with
  |non=>simp only[RD]at J;subst J;cases L;exact Vae rfl (Xl I.sr I.inv)|bl b=>
   simp only[RD]at J;subst J;cases L;refine isnot_bool ?_;have e:(b != c)=(c != b):=by cases b<;>cases c<;>rfl
   rw[e];exact Xl I.sr I.inv|int b=>simp only[RD]at J;subst J;obtain⟨t,rfl⟩:=L;exact Vae rfl (Xl I.sr I.inv)|str b=>simp only[RD]at J;subst J;obtain⟨t,rfl⟩:=L;exact Vae rfl (Xl I.sr I.inv)|tup b=>simp only[RD]at J;obtain⟨a,_,rfl,_⟩:=J;cases L;exact Vae rfl (Xl I.sr I.inv)|fro b=>simp only[RD]at J;obtain⟨a,_,rfl,_⟩:=J;cases L;exact Vae rfl (Xl I.sr I.inv)|ref b=>simp only[RD]at J;obtain⟨a,rfl,_⟩:=J;cases L;exact Vae rfl (Xl I.sr I.inv)|fn _ _=>simp only[RD]at J;obtain⟨a,rfl,_⟩:=J;cases L;exact Vae rfl (Xl I.sr I.inv)
 |_=>cases nb rfl
theorem Xfz(J:X.A.units+200<Vcb):∀op:Co,Op2 X (Va3 (opC op)) (Xi op)
 |.eq=>Ya3 J|.ne=>Ya4 J|.lt=>Ya7 J|.le=>Ya5|.gt=>Ya8 J|.ge=>Ya6|.isnot=>X0c
theorem Xv4{ws:LV}(ht:Vcl s.heap t #[])(hb:Vcl s.heap b ws.toArray)(h:Q (.ref b) s):Vi (Vj prog w) A (Vc9 .Add (.ref t) (.ref b)) Q E s:=by
 obtain⟨⟨cls,dd,ac,sl⟩,ho,hc,n,hd⟩:=id ht;obtain⟨⟨ae,aa,data2,ab⟩,L,Y,n2,J⟩:=id hb;simp only at hc hd Y J;subst hc hd Y J;exact concat_meets ⟨_,ho,rfl⟩ ⟨_,L,rfl⟩ noFill_tuple_add seq_tuple_add Vgd Vgb (Vfr _ _)
   (tuple_addW0 t b #[] ws.toArray n n2 dd aa sl ab rfl) ⟨ho,L,h⟩
theorem X8w:Op2 X (Vc9 .Add) (Xu .add):=by
 intro pc s σ H ρ S env x y v u v' u' E I L rx rv ry ru;cases x with
 |int i=>cases y with
  |int j=>simp only[RD]at rx ry;subst rx ry;obtain⟨t,rfl⟩:=rv;obtain⟨t',rfl⟩:=ru;exact add_int (Y6 I.sr (I.inv.tok _))|_=>cases L rfl
 |tup xs=>cases y with
  |tup ys=>
   simp only[Xu]at L ⊢;split at L
   ·rename_i hz;rw[iP0 hz];have ai:=rx;have ah:=ry;simp only[RD]at rx ry;obtain⟨a,vs,rfl,s1,r1⟩:=rx;obtain⟨b,us,rfl,s2,r2⟩:=ry;cases rv;cases ru;obtain⟨i1,q1,p1,z1⟩:=I.inv.tuple s1;obtain⟨i2,q2,p2,z2⟩:=I.inv.tuple s2;have Y:=r1.length;have aa:=r2.length;have ac:=q1.length;have ab:=q2.length;by_cases hx:xs=[]
    ·subst hx;have:vs=[]:=by simpa [RDs] using r1
     subst this;cases q1;refine Xv4 p1 p2 ?_;exact .mk (v:=.ref b) .refl I.inv rfl ah I.sr
    refine HT.cat_tup p1 p2 (λz=>hx ?_) (λz=>?_) (λz=>?_) ?_;·subst z;simp at ac;rw[ac]at Y;simpa using Y
    ·have:ys=[]:=by subst z;simp at ab;rw[ab]at aa;simpa using aa
     subst this;rw[Vv];exact .mk (v:=.ref a) .refl I.inv rfl ai I.sr
    ·refine Xcm (I.inv.laid (t':=s.toks) (o:=.tup (vs++us)) (λb ob q=>Vo _ q) (Vf _) ?_) (I.inv.hok.fresh (Vf _)) I.sr (r1.append r2);exact⟨by rw[V3,<-Y,<-aa];exact Xa2 hz,_,q1.append q2,IsTup.new _ _⟩
    rw[<-ac,<-ab,<-Y,<-aa];exact Xa2 hz
   cases L rfl|_=>cases L rfl
 |ref n=>cases y with
  |ref m=>
   simp only[Xu]at L ⊢;cases h1:Z.lstM S n with
   |none=>rw[h1]at L;cases L rfl|some xs=>
    cases h2:Z.lstM S m with
    |none=>rw[h1,h2]at L;cases L rfl|some ys=>
     rw[h1,h2]at L;dsimp only at L ⊢;split at L
     ·rename_i hz;rw[iP0 hz];obtain⟨a,vs,rfl,ha,af,ra⟩:=I.lstR h1 rx;obtain⟨b,us,rfl,hb,ae,rb⟩:=I.lstR h2 ry;exact opd (Q':=λz H'=>∃p,H p=yy/\z=.ref p/\H'=upd H p (.lst (vs++us))) X3o I.inv rv ru ⟨a,b,vs,us,rfl,rfl,af,ae,by rw[<-ra.length,<-rb.length];exact Xa2 hz,λp hp=>⟨p,hp,rfl,rfl⟩⟩
       λw s' z H' J rz ⟨p,hp,z1,z2⟩=>by subst z1 z2;cases rz;exact Xa3 J hp I.sr (ra.append rb)
     cases L rfl
  |_=>cases L rfl
 |_=>cases L rfl
theorem X8x:Op2 X (Vc9 .Sub) (Xu .sub):=Xbr (λx y S h=>by cases x<;>first|exact aB0 rfl h|(cases y<;>first|exact⟨_,_,rfl,rfl⟩|exact aB0 rfl h)) λI J=>sub_int (Y6 I.sr (I.inv.tok _))
theorem Xpc(h:i.natAbs.log2<100000):Builtin.Int.intBits i<=2^20:=by
 unfold Builtin.Int.intBits;split;·exact Um _
 ·omega
theorem Xmg(h:Yq i j=yx):IntMulOk i j:=by
 simp only[Yq,Vb6,bA0,decide_eq_true_eq]at h;rcases h with h|h;·have:CMul i j:=h;exact this.ok
 ·exact IntMulOk.of_bits (Xpc h.1) (Xpc h.2)
theorem X8y:Op2 X (Vc9 .Mult) (Xu .mul):=by
 intro pc s σ H ρ S env x y v u v' u' E I L rx rv ry ru;cases x with
 |int i=>cases y with
  |int j=>
   simp only[RD]at rx ry;subst rx ry;obtain⟨t,rfl⟩:=rv;obtain⟨t',rfl⟩:=ru;simp only[Xu]at L ⊢;split at L;·rename_i hz;rw[iP0 hz];exact mul_int (Y6 I.sr (I.inv.tok _)) (Xmg hz)
   ·cases L rfl|_=>cases L rfl
 |tup xs=>cases y with
  |int k=>
   simp only[Xu]at L ⊢;split at L
   ·rename_i hz;rw[iP0 hz];have ae:=rx;simp only[RD]at rx ry;subst ry;obtain⟨a,vs,rfl,s1,r1⟩:=rx;cases rv;obtain⟨t',rfl⟩:=ru;obtain⟨i1,q1,p1,z1⟩:=I.inv.tuple s1;have Y:=r1.length;have aa:=q1.length;have ab:i1≠[]:=λz=>by
     subst z;have:xs=[]:=Vg5 (by rw[Y,aa];rfl);subst this;exact aB0 hz.2.2.2 (by simp)
    refine X0b p1 ab hz.2.2.1 hz.1 (by rw[<-aa,<-Y];exact hz.2.1) (λe=>?_) (λe=>?_)
    ·subst e;have e1:(Vg (1:Int).toNat xs).flatten=xs:=by simp
     rw[e1];exact .mk (v:=.ref a) .refl I.inv rfl ae I.sr
    have hr:∀m:Nat,RDs X.K ρ H (Vg m xs).flatten (Vg m vs).flatten:=λm=>by
     induction m with
     |zero=>simpa using RDs.nil|succ m ih=>rw[Var,Var,Vau,Vau];exact r1.append ih
    refine Xcm (I.inv.laid (t':=s.toks) (o:=.tup (Vg k.toNat vs).flatten) (λb ob q=>Vo _ q) (Vf _) ?_) (I.inv.hok.fresh (Vf _)) I.sr (hr _);exact⟨by rw[Xiu,<-Y,Vev];exact Xa2 hz.2.1,_,q1.rep _,IsTup.new _ _⟩
   cases L rfl|_=>cases L rfl
 |ref n=>cases y with
  |int k=>
   simp only[Xu]at L ⊢;cases h1:Z.lstM S n with
   |none=>rw[h1]at L;cases L rfl|some xs=>
    rw[h1]at L;dsimp only at L ⊢;split at L
    ·rename_i hz;rw[iP0 hz];obtain⟨a,vs,rfl,ha,ac,ra⟩:=I.lstR h1 rx;simp only[RD]at ry;subst ry;have hr:RDs X.K ρ H (Vg k.toNat xs).flatten (Vg k.toNat vs).flatten:=by
      induction k.toNat with
      |zero=>simpa using RDs.nil|succ m ih=>rw[Var,Var,Vau,Vau];exact ra.append ih
     exact opd (Q':=λz H'=>∃p,H p=yy/\z=.ref p/\H'=upd H p (.lst (Vg k.toNat vs).flatten)) X3p I.inv rv ru
      ⟨a,k,vs,rfl,rfl,ac,by omega,by omega,by rw[<-ra.length];exact Xa2 hz.2.1,λp hp=>⟨p,hp,rfl,rfl⟩⟩
      λw s' z H' J rz ⟨p,hp,z1,z2⟩=>by subst z1 z2;cases rz;exact Xa3 J hp I.sr hr
    cases L rfl
  |_=>cases L rfl
 |_=>cases L rfl
theorem X4k:Op2 X (Vc9 .FloorDiv) (Xu .fdiv):=Xbr (λx y S h=>by cases x<;>first|exact aB0 rfl h|(cases y<;>first|exact⟨_,_,rfl,rfl⟩|exact aB0 rfl h)) λI J=>by
 simp only[Xu]at J ⊢;split at J;·rename_i j hz;rw[iP0 hz];simp only[Yr,bA0,decide_eq_true_eq]at hz;exact floordiv_int (by omega) (by rw[Int.fdiv_eq_ediv_of_nonneg _ (by omega)];exact Y6 I.sr (I.inv.tok _)) (.inl (PyProof.noPylong_of_log2 hz.2))
 ·cases J rfl
theorem X8z:Op2 X (Vc9 .Mod) (Xu .mod):=Xbr (λx y S h=>by cases x<;>first|exact aB0 rfl h|(cases y<;>first|exact⟨_,_,rfl,rfl⟩|exact aB0 rfl h)) λI J=>by
 simp only[Xu]at J ⊢;split at J;·rename_i hz;rw[iP0 hz];exact mod_int' (by omega) (by rw[Int.fmod_eq_emod_of_nonneg _ (by omega)];exact Y6 I.sr (I.inv.tok _))
 ·cases J rfl
theorem X80:Op2 X (Vc9 .Pow) (Xu .pow):=Xbr (λx y S h=>by cases x<;>first|exact aB0 rfl h|(cases y<;>first|exact⟨_,_,rfl,rfl⟩|exact aB0 rfl h)) λI J=>by
 simp only[Xu]at J ⊢;split at J;·rename_i hz;rw[iP0 hz];exact pow_int_small hz.1 (by omega) (by omega) (Y6 I.sr (I.inv.tok _))
 ·cases J rfl
theorem X81:∀op:Bo,Op2 X (Vc9 (opB op)) (Xu op)
 |.add=>X8w|.sub=>X8x|.mul=>X8y|.fdiv=>X4k|.mod=>X8z|.pow=>X80
end
theorem X4l(n:Nat)(i:Int):Z.ixN n i=L2.ixN n i:=rfl
section
variable{X:Cx}{pc:LA}{σ:L2.St}{H:Hp}{s:Vc}{ρ:LR}{S S':Sto}{env:En}{Q:VP}{E:VP}{a b c e:Expr}{f fa fb fc:En->Sto->R D}{pos:Pos}
theorem X4m(r:RDs X.K ρ H xs vs)(h:((Z.ixN (ll xs) k).bind λj=>xs[j]?)=yz d):∃v,atI vs k=yz v/\RD X.K ρ H d v:=by
 cases e:Z.ixN (ll xs) k with
 |none=>rw[e]at h;cases h|some j=>rw[e]at h;obtain⟨v,h1,h2⟩:=r.get (i:=j) (d:=d) h;refine⟨v,?_,h2⟩;show((L2.ixN (ll vs) k).bind λj=>vs[j]?)=yz v;rw[<-r.length];rw[X4l]at e;rw[e];exact h1
theorem X82(hs:Xit b):Op2 X (Vfa a b) Xah:=by
 intro pc s σ H ρ S env x y v u v' u' E I nb rx rv ry ru;unfold Xah at nb ⊢;cases e:Xaw x y S with
 |none=>rw[e]at nb;cases nb rfl|some d=>
  cases y with
  |int k=>
   simp only[RD]at ry;subst ry;have L:∀ {r:R2} (hr:IxR (X.wish E) r) (z:V),r v (.int k) H (λz' H'=>z'=z/\H'=H)->RD X.K ρ H d z->Vi (Vj X.prog X.w) X.A (Vfa a b v' u') (OkP X pc σ ρ H (.ok d S)) E s:=λ{r} hr z h1 h2=>thn (hr a b pc s σ H v (.int k) v' u' _ (I.inv.wish E) rv ru h1 (hs _ _)) λw s' ⟨z',H',J,rz,e1,e2⟩=>by subst e1 e2;exact .mk .refl J.unwish rz h2 I.sr
   have seq:∀xs,Xq S x=yz xs->((Z.ixN (ll xs) k).bind λj=>xs[j]?)=yz d->Vi (Vj X.prog X.w) X.A (Vfa a b v' u') (OkP X pc σ ρ H (.ok d S)) E s:=λxs h1 h2=>by
    obtain⟨p,vs,rfl,Y,hr⟩:=I.seq h1 rx;obtain⟨z,hz,rz⟩:=X4m hr h2;rcases Y with Y|Y;·exact L Xzw z ⟨p,vs,k,z,rfl,rfl,Y,hz,rfl,rfl⟩ rz
    ·exact L X3n z ⟨p,vs,k,z,rfl,rfl,Y,hz,rfl,rfl⟩ rz
   cases x with
   |str _=>simp[Xaw,Xq]at e|tup xs=>exact seq xs rfl (by simpa [Xaw,Xq] using e)|fro xs=>exact seq xs rfl (by simpa [Xaw,Xq] using e)|ref n=>
    simp only[Xaw,Xq]at e;cases e1:Xc S n with
    |none=>rw[e1]at e;cases e|some xs=>rw[e1]at e;exact seq xs e1 e
   |non=>simp[Xaw,Xq]at e|bl _=>simp[Xaw,Xq]at e|int _=>simp[Xaw,Xq]at e|fn _ _=>simp[Xaw,Xq]at e
  |_=>simp[Xaw]at e
theorem X83(hs:Xit b)(ha:DE X a fa)(hb:DE X b fb):DE X (.Subscript a b pos) (λenv S=>(fa env S).bind λx S=>(fb env S).bind λy S=>Xah x y S):=
 λpc s σ H ρ S env I J=>Subscript_ (two (X82 hs) ha hb I J rfl)
noncomputable def spD(K:Ve)(n:Nat)(F:LD->Sto->R D):Sp:=λvs H Q E=>∃ds ρ S,ll vs=n/\RDs K ρ H ds vs/\SR K ρ S H/\F ds S≠.bad /\
 (∀d S' v H' ρ',F ds S=.ok d S'->RD K ρ' H' d v->SR K ρ' S' H'->Stp K ρ ρ' H H'->Q v H') /\
 ∀n c S' a H' ρ',F ds S=.ex n S'->ρ'[n]?=yz a->S'[n]?=yz (.exc c)->SR K ρ' S' H'->Stp K ρ ρ' H H'->E (.ref a) yy H'
noncomputable def CXd(P:Ua)(w:Uq):CXT:=λouter H s E e s'=>∃H',s'.os=s.os/\AllBare s'.gens/\Un (frs outer) [] H H' s.heap s'.heap/\HOk P w H' s'.heap/\(∃a,e=.ref a/\Trc .none (λT=>s.heap.get? T=yy) H' a s'.heap)/\E e yy H'
structure RoomC(cm:Bool)(k:Nat)(A:Uy):Prop where
 gd:A.guards=yz []
 hd:cm=yx->A.handled=yy
 dp:A.depth+3*k+5<Vg9
 un:A.units+16*k+200<Vcb
theorem RoomC.of(r:Room k A):RoomC cm k A:=⟨r.gd,λ_=>r.hd,r.dp,r.un⟩
theorem RoomC.less(r:RoomC cm k A)(h:cm2=yx->cm=yx):RoomC cm2 k A:=⟨r.gd,λz=>r.hd (h z),r.dp,r.un⟩
theorem RoomC.deeper(r:RoomC cm (k+1) A)(env:Va2):RoomC cm k (A.deeper env):=
 ⟨r.gd,r.hd,by have:=r.dp;show A.depth+1+3*k+5<_;omega,by have:=r.un;show A.units+3+16*k+200<_;omega⟩
theorem RoomC.mark(r:RoomC cm k A):RoomC yw k (A.mark h):=⟨r.gd,(λz=>nomatch z),r.dp,r.un⟩
structure FnD(cm:Bool)(P:Ua)(w:Uq)(K:Ve)(mg:Str->OV)(base:Heap)(k:Nat)(f:Addr)(fd:Vdl)(ps:LS)(F:LD->Sto->R D):Prop where
 run:∀(A:Uy) (outer:List Va2) (s:Vc) (H:Hp) (args:Args) (us:LV) (vs:LW) (Q:VK) (E:XK),RoomC cm k A->Env0 P w K mg base A outer s H->BindsTo s fd args (ps.zip us)->Vals vs us->spD K (ll ps) F vs H Q E ->
  Vdh (Vj P w) A (.call (.ref f) args) (CR (CXd P w) outer P w H s Q E) s
theorem Xy8(G:FnD cm X.prog X.w X.K X.mg X.base k g fd ps F)(hr:RoomC cm k X.A)(hb:Binds X.K fd ps [])
  (I:S0 X pc σ H s ρ S env) (rv:Vals vs us) (rd:RDs X.K ρ H ds vs) (hl:(ll ds)=ll ps) (nb:F ds S≠.bad):
  Vi (Vj X.prog X.w) X.A (call (.ref g) us) (OkP X pc σ ρ H (F ds S)) (ExP X pc σ ρ H (F ds S)) s:=by
 have aa:(ll vs)=ll ps:=by rw[<-rd.length];exact hl
 have ae:BindsTo s fd ⟨us,[]⟩ (ps.zip us):=by have:=hb s us I.inv.kIn (by rw[Vv,<-rv.length];exact aa);rwa [Vv]at this
 have ac:spD X.K (ll ps) F vs H (λv H'=>∃d S' ρ',F ds S=.ok d S'/\RD X.K ρ' H' d v/\SR X.K ρ' S' H'/\Stp X.K ρ ρ' H H')
   (λe _ H'=>∃n c S' a ρ',F ds S=.ex n S'/\e=.ref a/\ρ'[n]?=yz a/\S'[n]?=yz (.exc c)/\SR X.K ρ' S' H'/\Stp X.K ρ ρ' H H'):=
  ⟨ds,ρ,S,aa,rd,I.sr,nb,λd S' v H' ρ' h1 h2 L Y=>⟨d,S',ρ',h1,h2,L,Y⟩,λn c S' a H' ρ' h1 h2 L Y h5=>⟨n,c,S',a,ρ',h1,rfl,h2,L,Y,h5⟩⟩
 refine wpAny_call (Vfs (G.run X.A X.stack s H ⟨us,[]⟩ us vs _ _ hr I.inv.env0 ae rv ac) λr s' hq=>?_);cases r with
 |error e=>
  obtain⟨H',os,bare,un,hok,⟨a',h0,tr⟩,n,c,S',a,ρ',h1,h2,L,Y,h5,h6⟩:=hq;refine⟨n,S',h1,H',ρ',a,c,I.inv.call' os un hok bare (λb z=>aB0 z (by simp)),h2,L,Y,h5,h6,.inr ⟨_,.inl rfl,?_⟩⟩;rw[h2]at h0;cases h0;refine tr.imp λT hT=>⟨?_,λp hp z=>?_⟩
  ·by_cases hx:T∈X.ex;·exact .inl hx
   ·cases q:X.s₀.heap.get? T with
    |none=>exact .inr rfl|some o=>obtain⟨o',e⟩:=I.inv.base.there T o q hx;rw[hT]at e;cases e
  have:=(I.inv.pin p hp).1;rw[z,hT]at this;cases this|ok fl=>
  cases fl with
  |ret u=>obtain⟨v,H',J,ab,d,S',ρ',h1,h2,L,Y⟩:=I.inv.after hq;exact⟨d,S',h1,v,H',ρ',J,ab,h2,L,Y⟩|next=>exact Veh hq|brk=>exact Veh hq|cont=>exact Veh hq
theorem X4n(G:FnD cm X.prog X.w X.K X.mg X.base k g fd ps F)(hr:RoomC cm k X.A)(hb:Binds X.K fd ps [])
  (hg:Gl X x) (hm:X.mg x=yz (.ref g)) (hk:Vda X.K (.ref g)=yx) (ha:DA X (e::es) ga) (hl:∀env S ds S',ga env S=.ok ds S'->ll ds=ll ps)
  (aa:(x==("__debug__" : Str))=yw) (he:Uk (e::es) X.env=(yw,eval e X.env)::Uk es X.env) (Y:(Vb2 pos (Uk es X.env)).any (·.1)=yw):
  DE X (.Call (.Name x p) (e::es) [] pos) (λenv S=>(ga env S).bind λxs S=>F xs S):=by
 intro pc s σ H ρ S env I J;dsimp only at J ⊢;refine Vbv (Xdo I.inv hg hm ?_ aa);cases q:ga env S with
 |bad=>rw[q]at J;cases J rfl|ex n S1=>exact Vfx (h₀:=X.base) I.inv.ok.mod.kin hk (ha.ex I q λx s' z=>⟨n,S1,rfl,z⟩) he Y|ok ds S1=>rw[q]at J;simp only[Rk0]at J ⊢;refine Vfx (h₀:=X.base) I.inv.ok.mod.kin hk (ha.ok I q λus s1 vs H1 ab I1 rv rd L=>⟨I1.inv.kIn,?_⟩) he Y;exact Vp (Xy8 G hr hb I1 rv rd (hl env S ds S1 q) J) (λu s2 z=>z.pre L) λx s2 z=>z.pre L
def FlP(X:Cx)(pc:LA)(σ:L2.St)(ρ:LR)(H:Hp)(na:Bool)(S':Sto)(s':Vc):Fl->Flow->Prop
 |.nx e,fl=>fl=.next/\∃ J H' ρ',S0 X pc J H' s' ρ' S' e/\Stp X.K ρ ρ' H H'/\(na=yx->J=σ)|.brk e,fl=>fl=.brk/\∃ J H' ρ',S0 X pc J H' s' ρ' S' e/\Stp X.K ρ ρ' H H'|.rt d,fl=>∃u v J H' ρ',fl=.ret u/\Inv X pc J H' s'/\RelV v u/\RD X.K ρ' H' d v/\SR X.K ρ' S' H'/\Stp X.K ρ ρ' H H'
def OkS(X:Cx)(pc:LA)(σ:L2.St)(ρ:LR)(H:Hp)(na:Bool)(r:R Fl)(fl:Flow)(s':Vc):Prop:=∃x S',r=.ok x S'/\FlP X pc σ ρ H na S' s' x fl
def ExS(X:Cx)(pc:LA)(σ:L2.St)(ρ:LR)(H:Hp)(na:Bool)(r:R Fl)(e:Vb)(s':Vc):Prop:=∃n S' J,r=.ex n S'/\(na=yx->J=σ)/\XPd X pc J ρ H n S' e s'
def DS(X:Cx)(st:Stmt)(na:Bool)(f:En->Sto->R Fl):Prop:=
 ∀(pc:LA) (s:Vc) (σ:L2.St) (H:Hp) (ρ:LR) (S:Sto) (env:En),S0 X pc σ H s ρ S env->f env S≠.bad ->
  Vi (Vj X.prog X.w) X.A (exec st X.env) (OkS X pc σ ρ H na (f env S)) (ExS X pc σ ρ H na (f env S)) s
def DSs(X:Cx)(st:LM)(na:Bool)(f:En->Sto->R Fl):Prop:=
 ∀(pc:LA) (s:Vc) (σ:L2.St) (H:Hp) (ρ:LR) (S:Sto) (env:En),S0 X pc σ H s ρ S env->f env S≠.bad ->
  Vi (Vj X.prog X.w) X.A (execs st X.env) (OkS X pc σ ρ H na (f env S)) (ExS X pc σ ρ H na (f env S)) s
theorem FlP.pre{x:Fl}{fl:Flow}{s':Vc}{aa:L2.St}{ρ':LR}{H':Hp}{na na':Bool}(st:Stp X.K ρ ρ' H H')(hn:na'=yx->na=yx/\aa=σ)(h:FlP X pc aa ρ' H' na S' s' x fl):FlP X pc σ ρ H na' S' s' x fl:=by
 cases x with
 |nx e=>obtain⟨h1,L,H2,J,h2,Y,h4⟩:=h;exact⟨h1,L,H2,J,h2,st.trans Y,λz=>(h4 (hn z).1).trans (hn z).2⟩|brk e=>obtain⟨h1,L,H2,J,h2,Y⟩:=h;exact⟨h1,L,H2,J,h2,st.trans Y⟩|rt d=>obtain⟨u,v,L,H2,J,h1,h2,Y,h4,h5,h6⟩:=h;exact⟨u,v,L,H2,J,h1,h2,Y,h4,h5,st.trans h6⟩
theorem OkS.pre{r:R Fl}{fl:Flow}{s':Vc}{J:L2.St}{ρ':LR}{H':Hp}{na na':Bool}(st:Stp X.K ρ ρ' H H')(L:na'=yx->na=yx/\J=σ)(h:OkS X pc J ρ' H' na r fl s'):OkS X pc σ ρ H na' r fl s':=by obtain⟨x,S1,e,h⟩:=h;exact⟨x,S1,e,h.pre st L⟩
theorem ExS.of(st:Stp X.K ρ ρ' H H')(h:XPd X pc σ ρ' H' n S' x s')(e:r=.ex n S'):ExS X pc σ ρ H na r x s':=⟨n,S',σ,e,λ_=>rfl,h.pre st⟩
theorem ExS.pre{na na':Bool}{J:L2.St}{r:R Fl}{x:Vb}{s':Vc}{ρ':LR}{H':Hp}(st:Stp X.K ρ ρ' H H')(Y:na'=yx->na=yx/\J=σ)(h:ExS X pc J ρ' H' na r x s'):ExS X pc σ ρ H na' r x s':=by obtain⟨n,S1,L,e,h1,h2⟩:=h;exact⟨n,S1,L,e,λz=>(h1 (Y z).1).trans (Y z).2,h2.pre st⟩
variable{st:Stmt}{rest sa sb:LM}{g g2:En->Sto->R Fl}{na na2:Bool}
theorem DS.weak(h:DS X st na g)(J:na2=yx->na=yx):DS X st na2 g:=λpc s σ H ρ S env I L=>Vp (h pc s σ H ρ S env I L) (λ_ _ z=>z.pre .refl λq=>⟨J q,rfl⟩) λ_ _ z=>z.pre .refl λq=>⟨J q,rfl⟩
theorem dss_nil:DSs X [] yx (λenv S=>.ok (.nx env) S):=λpc s σ H ρ S env I _=>Vgx ⟨.nx env,S,rfl,rfl,σ,H,ρ,I,.refl,λ_=>rfl⟩
theorem Xv5(h1:DS X st na g)(h2:DSs X rest na2 g2):DSs X (st::rest) (na&&na2) (λenv S=>match g env S with | .ok (.nx e) S'=>g2 e S'|r=>r):=by
 intro pc s σ H ρ S env I nb;dsimp only at nb ⊢;refine wpAny_execs_cons ?_;cases q:g env S with
 |bad=>rw[q]at nb;cases nb rfl|ex n S1=>
  refine Vp (h1 pc s σ H ρ S env I (by rw[q];exact λz=>nomatch z)) (λfl s1 z=>?_) λx s1 z=>?_;·obtain⟨x,S2,e,_⟩:=z;rw[q]at e;cases e
  ·rw[q]at z;exact z.pre .refl λw=>⟨by rw[bA0]at w;exact w.1,rfl⟩|ok x S1=>
  rw[q]at nb;refine Vp (h1 pc s σ H ρ S env I (by rw[q];exact λz=>nomatch z)) (λfl s1 z=>?_) λx s1 z=>?_
  ·obtain⟨y,S2,e,z⟩:=z;rw[q]at e;cases e;cases x with
   |nx e=>obtain⟨rfl,J,H1,L,I1,Y,aa⟩:=z;exact Vp (h2 pc s1 J H1 L S1 e I1 nb) (λfl s2 z=>z.pre Y λw=>by rw[bA0]at w;exact⟨w.2,aa w.1⟩) λx s2 z=>z.pre Y λw=>by rw[bA0]at w;exact⟨w.2,aa w.1⟩|brk e=>obtain⟨rfl,J,H1,L,I1,Y⟩:=z;exact⟨.brk e,S1,rfl,rfl,J,H1,L,I1,Y⟩|rt d=>obtain⟨u,v,J,H1,L,rfl,r⟩:=z;exact⟨.rt d,S1,rfl,u,v,J,H1,L,rfl,r⟩
  obtain⟨k,S2,ab,e,_⟩:=z;rw[q]at e;cases e
theorem ds_brk:DS X (.Break pos) yw (λenv S=>.ok (.brk env) S):=λpc s σ H ρ S env I _=>wpAny_Break ⟨.brk env,S,rfl,rfl,σ,H,ρ,I,.refl⟩
theorem X0d(Y:DE X e f)(hs:Vfy e yy pos.line X.env=pure yw):DS X (.Expr e pos) yx (λenv S=>(f env S).bind λ_ S=>.ok (.nx env) S):=by
 intro pc s σ H ρ S env I L;dsimp only at L ⊢;cases q:f env S with
 |bad=>rw[q]at L;cases L rfl|ex n S1=>exact wpAny_Expr_any (Y.ex I q λx s' z=>.of .refl z rfl) I.inv.quiet hs|ok d S1=>exact wpAny_Expr_any (Y.ok I q λu s' v H' ρ' J rv rd st=>⟨.nx env,S1,rfl,rfl,σ,H',ρ',J,st,λ_=>rfl⟩) I.inv.quiet hs
theorem Xs4(Y:DE X e f):DS X (.Return (yz e) pos) yx (λenv S=>(f env S).bind λx S=>.ok (.rt x) S):=by
 intro pc s σ H ρ S env I L;dsimp only at L ⊢;cases q:f env S with
 |bad=>rw[q]at L;cases L rfl|ex n S1=>exact wpAny_Return_some (Y.ex I q λx s' z=>.of .refl z rfl)|ok d S1=>exact wpAny_Return_some (Y.ok I q λu s' v H' ρ' J rv rd st=>⟨.rt d,S1,rfl,u,v,σ,H',ρ',rfl,J.inv,rv,rd,J.sr,st⟩)
theorem X84(hc:DT X c (λenv S=>tst (fc env S)))(ha:DSs X sa na g)(hb:DSs X sb na2 g2):
  DS X (.If c sa sb pos) (na&&na2) (λenv S=>(fc env S).bind λx S=>match Xf S x with|some yx=>g env S|some yw=>g2 env S|none=>.bad):=by
 intro pc s σ H ρ S env I J;dsimp only at J ⊢;cases q:fc env S with
 |bad=>rw[q]at J;cases J rfl|ex n S1=>exact wpAny_If (hc.ex I (by simp only[q];rfl) λx s' z=>.of .refl z rfl)|ok x S1=>
  rw[q]at J;simp only[Rk0]at J ⊢;cases t:Xf S1 x with
  |none=>rw[t]at J;cases J rfl|some r=>
   rw[t]at J;refine wpAny_If (hc.ok I (by simp only[q];exact Xbl t) λs2 H2 Y I2 L=>?_);cases r with
   |true=>exact Vp (ha pc s2 σ H2 Y S1 env I2 J) (λw s3 z=>z.pre L λw=>by rw[bA0]at w;exact⟨w.1,rfl⟩) λx s' z=>z.pre L λw=>by rw[bA0]at w;exact⟨w.1,rfl⟩|false=>exact Vp (hb pc s2 σ H2 Y S1 env I2 J) (λw s3 z=>z.pre L λw=>by rw[bA0]at w;exact⟨w.2,rfl⟩) λx s' z=>z.pre L λw=>by rw[bA0]at w;exact⟨w.2,rfl⟩
theorem X4o(hN:X.N.Nodup)(hi:X.N[i]?=yz x)(hx:Loc X.env.scope x)(hf:X.fn x=yx\/X.env.scope.names.lookup x=yz .local)(Y:DE X e f)(hs:Vfy e (yz (.Name x pos')) pos.line X.env=pure yw):
  DS X (.Assign [.Name x pos'] e pos) yw (λenv S=>(f env S).bind λx S=>match Xk (.var i) x env with|some env=>.ok (.nx env) S|none=>.bad):=by
 intro pc s σ H ρ S env I L;dsimp only at L ⊢;cases q:f env S with
 |bad=>rw[q]at L;cases L rfl|ex n S1=>exact wpAny_Assign_Name (Y.ex I q λx s' z=>.of .refl z rfl) hs|ok d S1=>refine wpAny_Assign_Name (Y.ok I q λu s' v H' ρ' J rv rd st=>?_) hs;exact Xba J.inv hN hi hx rv (λs2 I2=>⟨.nx (env.set i (yz d)),S1,rfl,rfl,_,H',ρ',⟨I2,J.sr,J.er.set i rd⟩,st,λz=>nomatch z⟩) hf
theorem Xb3{b:Addr}{u:HO}(x:ObjOk P w H h b u):∃o,h.get? b=yz o:=by
 cases u with
 |lst xs=>obtain⟨_,_,_,_,e⟩:=x;exact⟨_,e⟩|tup xs=>obtain⟨_,_,_,o,e,_⟩:=x;exact⟨_,e⟩|dK J=>obtain⟨_,_,_,_,o,_,_,e,_⟩:=x;exact⟨_,e⟩|dT J=>obtain⟨_,_,_,_,o,_,_,e,_⟩:=x;exact⟨_,e⟩|set S n=>obtain⟨o,_,_,_,e,_⟩:=x;exact⟨_,e⟩|ins C dx fs=>obtain⟨_,_,_,e,_⟩:=x;exact⟨_,e⟩|own y=>exact x|xd fs=>obtain⟨_,⟨_,_,_,e,_⟩,_⟩:=x;exact⟨_,e⟩|rng lo hi=>obtain⟨_,_,_,e⟩:=x;exact⟨_,e⟩|frz ob u=>obtain⟨e,_⟩:=x;exact⟨_,e⟩|tbl ps=>obtain⟨_,e,_⟩:=x;exact⟨_,e⟩|met f y=>exact⟨_,(show h.get? b=yz _ from x)⟩|ext L=>exact x.2.1
theorem Xdj{h g g':Heap}:∀ {l:List Va2},h.FunFrames g l->(∀b∈frs l,g'.get? b=yy)->h.FunFrames g' l
 |[],_,_=>trivial|env::r,⟨hk,⟨L,o,hf,_,ho,hd⟩,hr⟩,k=>by
  have e:frs (env::r)=L::frs r:=by unfold frs;rw[Vak,hf]
  rw[e]at k;exact⟨hk,⟨L,o,hf,k L (.head _),ho,hd⟩,Xdj hr λb hb=>k b (.tail _ hb)⟩
structure Hid(X:Cx)(H':Hp)(a:Addr)(h:Heap)(l:LR):Prop where
 er:a∈l
 fr:∀b∈frs X.stack,b∈l
 of:∀b∈l,b=a\/b∈frs X.stack\/(H' b=yy/\∃o vs,h.get? b=yz o/\o.data=.fields vs)
theorem Xpd{pc:LA}{σ:L2.St}{a C:Addr}{l:LR}(I:Inv X pc σ H' s')(ha:H' a=yz (.ext (ExcO C a)))(hl:Hid X H' a s'.heap l)
  (keep:∀b o,s'.heap.get? b=yz o->b ∉ l->h'.get? b=yz o) (L:ExcO C a h'):HOk X.prog X.w H' h':=by
 have out:∀b u,b≠a->H' b=yz u->b ∉ l:=λb u hb q Y=>by
  rcases hl.of b Y with z|z|⟨z,_⟩;·exact hb z
  ·rw[I.stkFree b z]at q;cases q
  rw[z]at q;cases q
 intro b u q;by_cases hb:b=a;·subst hb;rw[ha]at q;cases q;exact L.ok
 ·refine(I.hok b u q).stay (λc v J e=>?_) (λ_ z=>z) λ_ _ _ z=>z;rcases J with rfl|J;·exact keep c v e (out c u hb q)
  ·exact keep c v e (out c _ (λz=>by rw[z,ha]at J;cases J) J)
theorem Inv.fly{X:Cx}{pc:LA}{σ:L2.St}{H:Hp}{s:Vc}{a:Addr}(I:Inv X pc σ H s)(ha:H a=yz (.ext (ExcO C a)))(hl:Hid X H a s.heap l)
  (J:∀b∈l,b≠a->b ∉ frs X.stack->Xi0 X pc b) (k1:(Vb4 s.heap l).StaysIn h') (k4:s.heap.UpToSlots h') (he:ExcO C a h'):
  Inv X pc σ H {s with heap:=h' }:=by
 have keep:∀b o,s.heap.get? b=yz o->b ∉ l->h'.get? b=yz o:=λb o e hb=>k1 b o (Vd7 l e hb);have aa:∀b∈frs X.stack,∃o,s.heap.get? b=yz o/\∀vs,o.data≠.fields vs:=λb hb=>(I.stack.mem hb).2;have ac:∀b o,X.s₀.heap.get? b=yz o->b≠X.env.locals:=λb o e=>Up (V8 (Vy e) I.ok.above);have L:∀x c,X.env.cells.lookup x=yz c->∀v,s.heap.IsCell c v->h'.IsCell c v:=λx c e v ⟨o,ho,hd⟩=>by
  obtain⟨sl,q⟩:=k4 c o ho λvs z=>by rw[hd]at z;cases z
  exact⟨_,q,hd⟩
 refine⟨I.ok,I.os,I.bare,⟨λb o e n hb Y=>?_,λb o e n hb Y=>?_,λb o e n Y=>I.base.free b o e n Y,λb o e Y=>?_,I.base.tups,I.base.frzs,I.base.tbls⟩,?_,λx c e=>?_,I.free,I.freeC,λp hp=>?_,Xpd I ha hl keep he,I.len⟩
 ·refine keep b o (I.base.keep b o e n hb Y) λhm=>?_;have fb:=I.base.free b o e n Y;by_cases h1:b=a;·rw[h1,ha]at fb;cases fb
  ·by_cases h2:b∈frs X.stack
   ·rcases V2.mp (I.stkSub b h2) with z|z;·exact ac b o e z
    ·exact hb z
   rcases (J b hm h1 h2).1 with z|z;·exact Y z
   ·rw[z]at e;cases e
 ·obtain⟨sl,e1⟩:=I.base.slot b o e n hb Y;obtain⟨_,o',e',nd⟩:=I.funs.mem hb;rw[e1]at e';cases e';obtain⟨ae,e2⟩:=k4 b _ e1 nd;exact⟨ae,e2⟩
 ·obtain⟨o',e1⟩:=I.base.there b o e Y;by_cases hm:b∈l
  ·by_cases h1:b=a;·subst h1;obtain⟨oe,_,_,q,_⟩:=he;exact⟨_,q⟩
   ·by_cases h2:b∈frs X.stack;·obtain⟨o2,e2,nd⟩:=aa b h2;rw[e1]at e2;cases e2;obtain⟨sl,e3⟩:=k4 b _ e1 nd;exact⟨_,e3⟩
    ·rcases (J b hm h1 h2).1 with z|z;·exact aB0 z Y
     ·rw[z]at e;cases e
  exact⟨_,keep b o' e1 hm⟩
 ·obtain⟨m,hn,ab⟩:=I.loc;refine⟨m,k4.ns hn,λi x v e1 e2 e3=>?_⟩;obtain⟨u,r,lk⟩:=ab i x v e1 e2 e3;refine⟨u,r,?_⟩;rcases lk with lk|⟨kd,c,e,z⟩;·exact .inl lk
  ·exact .inr ⟨kd,c,e,L x c e _ z⟩
 ·obtain⟨v,z⟩:=I.cell x c e;exact⟨v,L x c e v z⟩
 ·obtain⟨e,n,ne,nf,d⟩:=I.pin p hp;refine⟨keep p.1 p.2 e λhm=>?_,n,ne,nf,d⟩;by_cases h1:p.1=a;·rw[h1,ha]at n;cases n
  ·by_cases h2:p.1∈frs X.stack
   ·rcases V2.mp (I.stkSub p.1 h2) with z|z;·exact ne z
    ·exact nf z
   exact(J p.1 hm h1 h2).2 p hp rfl
theorem Xg4{X:Cx}{pc:LA}{σ:L2.St}{H':Hp}{s':Vc}{a C:Addr}{Q:Unit->Vc->Prop}{E:VP}(I:Inv X pc σ H' s')(hs:X.stack=X.env::X.outer)(hf:X.env.frame=yz X.env.locals)
  (ha:H' a=yz (.ext (ExcO C a))) (fl:Fly X pc H' a s'.heap)
  (hQ:∀l h2 a0,Hid X H' a s'.heap l->(∀b∈l,b≠a->b ∉ frs X.stack->Xi0 X pc b)->Heap.HeldW (Vb4 s'.heap l) (X.env::X.outer) a (.ref C) a0 X.env.locals h2->s'.heap.UpToSlots h2->Q () {s' with heap:=h2}):
  Vi (Vj X.prog X.w) X.A (noteFrame (.ref a) X.env) Q E s':=by
 have hA:X.A.frames=yz (X.env::X.outer):=by rw[<-hs];exact I.ok.frames
 have hI:=I.stack;obtain⟨⟨oa,va,a0,Y,ca,L,v0,vz⟩,_,_⟩:=(show ObjOk X.prog X.w H' s'.heap a (.ext (ExcO C a)) from I.hok a _ ha);rcases fl with⟨oe,vs,e1,e2,e3⟩|⟨fl,hfl,oe,vs,T,oT,ts,e1,e2,e3,e4,e6,e7,e8,e9,e10⟩
 ·have hid:Hid X H' a s'.heap (a::frs X.stack):=⟨.head _,λb hb=>.tail _ hb,λb hb=>by
   rcases V2.mp hb with z|z;·exact .inl z
   ·exact .inr (.inl z)⟩
  rw[Y]at e1;cases e1;rw[L]at e2;cases e2;unfold noteFrame;simp only[hf];refine Va (Vaj Y L e3 ?_);rw[iN0 (by decide)];refine wpAny_entryW (base:=Vb4 s'.heap (a::frs X.stack)) hA (by rw[<-hs];exact Xdj hI λb hb=>Vbc _ (.tail _ hb)) hf Y (λb o e=>Vfq _ e) (Vbc _ (.head _)) L vz v0 λh2 ⟨k1,k2,k3,k4⟩=>?_
  rw[ca]at k3;exact hQ _ h2 a0 hid (λb hb h1 h2=>by
   rcases V2.mp hb with z|z;·exact aB0 z h1
   ·exact aB0 z h2) ⟨k1,Vbc _ (.head _),k2,k3⟩ k4
 ·have hid:Hid X H' a s'.heap (a::T::frs X.stack):=⟨.head _,λb hb=>.tail _ (.tail _ hb),λb hb=>by
   rcases V2.mp hb with z|z;·exact .inl z
   ·rcases V2.mp z with z|z;·subst z;exact .inr (.inr ⟨e7,oT,ts,e8,e9⟩)
    ·exact .inr (.inl z)⟩
  have J:∀b∈a::T::frs X.stack,b≠a->b ∉ frs X.stack->Xi0 X pc b:=λb hb h1 h2=>by
   rcases V2.mp hb with z|z;·exact aB0 z h1
   ·rcases V2.mp z with z|z;·subst z;exact e4
    ·exact aB0 z h2
  rw[Y]at e1;cases e1;rw[L]at e2;cases e2;have fr:s'.heap.FunFrames (Vb4 s'.heap (a::T::frs X.stack)) (X.env::X.outer):=by rw[<-hs];exact Xdj hI λb hb=>Vbc _ (.tail _ (.tail _ hb))
  have tr:s'.heap.TracedAtW (Vb4 s'.heap (a::T::frs X.stack)) a (.ref C) a0 fl:=⟨oa,va,T,oT,ts,Y,⟨ca,v0⟩,L,e3,Vbc _ (.tail _ (.head _)),e6,e8,e9,e10⟩;rcases hfl with rfl|rfl;·exact wpAny_looks_onW hA hf ⟨λb o e=>Vfq _ e,Vbc _ (.head _),fr,tr⟩ λh2 ab aa=>hQ _ h2 a0 hid J ab aa
  ·exact wpAny_noteFrame_againW hf tr (hQ _ s'.heap a0 hid J ⟨λb o e=>Vfq _ e,Vbc _ (.head _),fr,tr⟩ (.refl _))
theorem X0e{X:Cx}{pc:LA}{σ:L2.St}{H':Hp}{s':Vc}{a C:Addr}{Q:Unit->Vc->Prop}{E:VP}(I:Inv X pc σ H' s')(hs:X.stack=X.env::X.outer)(hf:X.env.frame=yz X.env.locals)(hx:X.ex=[])
  (ha:H' a=yz (.ext (ExcO C a))) (fl:Fly X pc H' a s'.heap)
  (hQ:∀h',Un X.fs [] X.H₀ H' X.s₀.heap h'->HOk X.prog X.w H' h'->Trc .none (λT=>X.s₀.heap.get? T=yy) H' a h'->Q () {s' with heap:=h' }):Vi (Vj X.prog X.w) X.A (leaving X.env (.ref a)) Q E s':=by
 have Y:frs X.stack=X.env.locals::X.fs:=by rw[hs];unfold frs;rw[Vak,hf];rfl
 have hA:X.A.frames=yz (X.env::X.outer):=by rw[<-hs];exact I.ok.frames
 have hI:=I.stack;have fin:∀(l:LR) (h':Heap) (a0:Vb),Hid X H' a s'.heap l->(∀b∈l,b≠a->b ∉ frs X.stack->X.s₀.heap.get? b=yy)->Heap.LeftW (Vb4 s'.heap l) (X.env::X.outer) a (.ref C) a0 s'.heap h'->Q () {s' with heap:=h' }:=by
  intro l h' a0 hl J k0;obtain⟨k1,k2,⟨oe,vs,T,oT,ts,t1,⟨t2,t3⟩,t4,t5,t6,t7,t8,t9,t10⟩,k4⟩:=k0;have keep:∀b o,s'.heap.get? b=yz o->b ∉ l->h'.get? b=yz o:=λb o e hb=>k1 b o (Vd7 l e hb);have ab:∀b∈frs X.stack,∃o,s'.heap.get? b=yz o/\∀vs,o.data≠.fields vs:=λb hb=>(hI.mem hb).2;have aa:∀b∈frs X.stack,∀o,s'.heap.get? b=yz o->∃sl,h'.get? b=yz {o with slots:=sl}:=λb hb o e=>by obtain⟨o',e',nd⟩:=ab b hb;rw[e]at e';cases e';exact k4 b o e nd
  have ac:∀b o,X.s₀.heap.get? b=yz o->b≠X.env.locals:=λb o e=>Up (V8 (Vy e) I.ok.above);have nx:∀b:Addr,b ∉ X.ex:=λb z=>by rw[hx]at z;cases z
  have hT:∀o,s'.heap.get? T=yz o->T∈l:=λo e=>by
   by_cases L:T∈l;·exact L
   ·rw[Vd7 l e L]at t6;cases t6
  have nT:T ∉ frs X.stack:=λL=>by obtain⟨o,e,nd⟩:=ab T L;obtain⟨sl,e'⟩:=aa T L o e;rw[t8]at e';cases e';exact nd ts t9
  refine hQ h' ⟨λb o e n hb _=>?_,λb o e n hb _=>?_,λb o e n _=>I.base.free b o e n (nx b),λb o e _=>?_,I.base.tups,I.base.frzs,I.base.tbls⟩ (Xpd I ha hl keep ⟨oe,vs,a0,t1,t2,t4,t3,(Vdp.mp t5).1⟩) ⟨oe,vs,T,oT,ts,t1,t4,t5,?_,t7,?_,t8,t9,t10⟩
  ·refine keep b o (I.base.keep b o e n hb (nx b)) λL=>?_;have fb:=I.base.free b o e n (nx b);by_cases h1:b=a;·rw[h1,ha]at fb;cases fb
   ·by_cases h2:b∈frs X.stack
    ·rw[Y]at h2;rcases V2.mp h2 with z|z;·exact ac b o e z
     ·exact hb z
    rw[J b L h1 h2]at e;cases e
  ·obtain⟨sl,e1⟩:=I.base.slot b o e n hb (nx b);obtain⟨ae,e2⟩:=aa b (by rw[Y];exact .tail _ hb) _ e1;exact⟨ae,e2⟩
  ·obtain⟨o',e1⟩:=I.base.there b o e (nx b);by_cases L:b∈l
   ·by_cases h1:b=a;·subst h1;exact⟨_,t1⟩
    ·by_cases h2:b∈frs X.stack;·obtain⟨sl,e2⟩:=aa b h2 o' e1;exact⟨_,e2⟩
     ·rw[J b L h1 h2]at e;cases e
   exact⟨_,keep b o' e1 L⟩
  ·cases q:X.s₀.heap.get? T with
   |none=>exact q|some o=>obtain⟨o',e1⟩:=I.base.there T o q (nx T);rw[J T (hT o' e1) t7 nT]at q;cases q
  cases q:H' T with
  |none=>rfl|some u=>
   obtain⟨o',e1⟩:=Xb3 (I.hok T u q);rcases hl.of T (hT o' e1) with z|z|⟨z,_⟩;·exact aB0 z t7
   ·exact aB0 z nT
   rw[z]at q;cases q
 unfold leaving;refine Va (Xg4 I hs hf ha fl λl h2 a0 hid J hh up=>?_);refine wpAny_setFlight_noneW hh.1 hh.2.2.1 hh.2.2.2 λh' k1 k2 k3 k4=>?_;refine fin l h' a0 hid (λb hb h1 h2=>?_) ⟨k1,k2,k3,λb o e nd=>?_⟩
 ·rcases (J b hb h1 h2).1 with z|z;·rw[hx]at z;cases z
  ·exact z
 ·obtain⟨sl,e2⟩:=up b o e nd;exact⟨sl,k4 b _ e2 nd⟩
noncomputable def cxC(cm:Bool)(P:Ua)(w:Uq)(K:Ve)(mg:Str->OV)(base:Heap)(N:LS)(qual:Str)(scope:Ur)(f:Addr)(cd:Vb)(A:Uy)(outer:List Va2)(s:Vc)(H:Hp)(E:XK):Cx:=
 { Xqp (CXd P w) P w K mg base N qual scope f cd A outer s H E with calm:=cm}
theorem X4p{cm:Bool}{P:Ua}{w:Uq}{K:Ve}{mg:Str->OV}{base:Heap}{k:Nat}{f:Addr}{name qual:Str}{params:Ved}{body:LM}{scope:Ur}{dV kV aj pm Y ct oc:Vb}{an od:Option Addr}
  {ar:Array (OV)} {N ps:LS} {G:En->Sto->R Fl} {na:Bool} (lk:K.lookup f=yz ⟨oc,od,.func (Vbt name qual params body scope dV kV aj pm an Y ct),ar⟩) (ao:Vf3 K Y qual=yx) (S:FnScope N ps scope)
  (ae:∀(A:Uy) (outer:List Va2) (s:Vc) (H:Hp) (E:XK),RoomC cm k (A.deeper (envOfC qual scope s.heap.objs.size f Y))->DSs (cxC cm P w K mg base N qual scope f Y A outer s H E) body na G):
  FnD cm P w K mg base (k+1) f (Vbt name qual params body scope dV kV aj pm an Y ct) ps (λds S=>if (ll ds)=ll ps then
   match G (ds.map yz++Vg (N.length-ll ps) yy) S with
   |.ok (.rt v) S=>.ok v S|.ok (.nx _) S=>.ok .non S|.ok _ _=>.bad|.ex n S=>.ex n S
   |.bad=>.bad else .bad):=by
 refine⟨λA outer s H av us vs Q E hr e0 hb r am=>?_⟩;obtain⟨ds,ρ,ah,hl,rd,sr,nb,hok,ac⟩:=am;have ak:(ll ds)=ll ps:=by rw[rd.length];exact hl
 dsimp only at nb hok ac;rw[iP0 ak]at nb;simp only[iP0 ak]at hok ac;have KX:K.In s.heap:=e0.mod.kin.keeps λb o e=>(e0.bs b o e).1;have al:s.heap.NoLimit:=e0.mod.nolimit.keeps λb o e=>(e0.bs b o e).1;have af:∀y∈ps.zip us,scope.names.lookup y.1=yz .local\/(scope.names.lookup y.1=yz .cell/\((Va8 (s.heap.objs.size+1) scope.names []).lookup y.1).isSome=yx):=λ⟨n,v⟩ hy=>by
  rcases S.par n (List.of_mem_zip hy).1 with q|q;·exact .inl q
  ·exact .inr ⟨q,Veo _ _ _ (.inl q)⟩
 refine codeAny_call_function (by have:=hr.dp;omega) (KX _ _ lk) rfl S.co S.gen rfl (PySem.W.codeRec_of KX ao) (hb _ _ _ _ ?_);refine Vho S.kind af λenv he s1 x=>?_;subst he;refine⟨al.keeps x.toInCall.keep,codeAny_func ?_⟩;have hD:=ae A outer s H E (hr.deeper _);have aq:Env0 P w K mg base { A with handled:=yy} outer s H:=⟨e0.frames,e0.mod,e0.bs,e0.bsz,e0.funs,e0.frf,e0.hok,e0.bare⟩;have I:Inv (cxC cm P w K mg base N qual scope f Y A outer s H E) [] (start N vs) H s1:=by have L:Inv (Xqp (CXd P w) P w K mg base N qual scope f Y { A with handled:=yy} outer s H E) [] (start N vs) H s1:=Xkj S rfl aq hl r x;exact⟨⟨L.ok.mod,L.ok.kind,L.ok.glob,L.ok.blt,L.ok.above,L.ok.inj,L.ok.has,L.ok.cab,(λz=>hr.hd z),L.ok.frames,L.ok.stk,L.ok.exf,L.ok.bs,L.ok.bsz,L.ok.noex,L.ok.exfs,L.ok.funs,L.ok.frf⟩,L.os,L.bare,L.base,L.loc,L.cell,L.free,L.freeC,L.pin,L.hok,L.len⟩
 have J:S0 (cxC cm P w K mg base N qual scope f Y A outer s H E) [] (start N vs) H s1 ρ ah (ds.map yz++Vg (N.length-ll ps) yy):=by
  refine⟨I,sr,⟨?_,λi d e=>?_⟩⟩;·unfold L2.start;simp[rd.length,hl]
  ·by_cases hi:i<ll ds
   ·rw[Vu (by simpa using hi),V6]at e;cases q:ds[i]? with
    |none=>rw[q]at e;cases e|some d'=>rw[q]at e;cases e;obtain⟨v,h1,h2⟩:=rd.get q;refine⟨v,?_,h2⟩;unfold L2.start;rw[Vu (by rw[Vl,<-rd.length];exact hi),V6,h1];rfl
   rw[Us (by simpa using hi),Vc3]at e;split at e<;>cases e
 have ap:G (ds.map yz++Vg (N.length-ll ps) yy) ah≠.bad:=λz=>nb (by rw[z]);refine Vp (hD [] s1 (start N vs) H ρ ah _ J ap) (λfl s' hs=>?_) λe s' hs=>?_
 ·obtain⟨y,S1,e1,hs⟩:=hs;rw[e1]at nb hok;cases y with
  |nx e=>obtain⟨rfl,ai,H',ρ',J',aa,_⟩:=hs;exact⟨.non,H',J'.inv.os,J'.inv.bare,J'.inv.base,J'.inv.hok,rfl,hok .non S1 .non H' ρ' rfl (by simp only[RD]) J'.sr aa⟩|rt d=>obtain⟨u,v,ai,H',ρ',rfl,J',rv,au,ab,aa⟩:=hs;exact⟨v,H',J'.os,J'.bare,J'.base,J'.hok,rv,hok d S1 v H' ρ' rfl au ab aa⟩|brk e=>cases nb rfl
 ·obtain⟨n,S1,ai,e1,_,H',ρ',a,c,J',rfl,hn,hc,ab,aa,fl⟩:=hs;rw[e1]at ac;obtain⟨C,_,ha⟩:=(show ∃C,Y9 K c=yz C/\H' a=yz (.ext (ExcO C a)) from ab.ob n a _ hn hc);exact X0e J' rfl rfl rfl ha fl λh' un hok tr=>⟨H',J'.os,J'.bare,un,hok,⟨a,rfl,tr⟩,ac n c S1 a H' ρ' rfl hn hc ab aa⟩
end
theorem Xf0{pc:LA}{t':Nat}{fp:LR}(I:Inv X pc σ H s)(hf:∀b∈fp,Xag X pc H b)
  (k:∀b o,b ∉ fp->s.heap.get? b=yz o->h'.get? b=yz o):Inv X pc σ H {s with heap:=h',toks:=t' }:=by
 have L:∀b u,H b=yz u->b ∉ fp:=λb u e z=>by rw[(hf b z).1]at e;cases e
 refine I.step (g':=s.gens) (d':=s.drawn) (ch:=fp) (λb hb=>⟨(hf b hb).2.2.2.1,(hf b hb).2.1,(hf b hb).2.2.2.2.1,(hf b hb).2.2.2.2.2⟩)
  (λb o _ _ J e _=>k b o J e) (λb o _ _ J e _=>⟨o.slots,k b o J e⟩) (λ_ _ _ _ n=>n)
  (λb o J e=>⟨o,k b o J e⟩) (λ_ _ e=>e) (λ_ _ _ e=>e) (λ_ _ e=>e) (λm hm=>?_) (λb u e=>?_) I.bare
 ·obtain⟨o,es,Y,ho,r⟩:=hm;exact⟨o,es,Y,k _ o (λz=>(hf _ z).2.1 rfl) ho,r⟩
 ·refine(I.hok b u e).stay (λc v J q=>k c v ?_ q) (λ_ q=>q) λ_ _ _ q=>q;rcases J with z|z;·rw[z];exact L b u e
  ·exact L c _ z
def SqK(k:Bool)(h:Heap)(a:Addr)(xs:AV):Prop:=match k with
 |true=>h.IsList a xs|false=>h.IsTuple a xs
def ItK(k:Bool)(h:Heap)(i a:Addr)(n:Nat):Prop:=match k with
 |true=>h.IsListIter i a n|false=>h.IsTupleIter i a n
def SqH(k:Bool)(K:Ve)(H:Hp)(a:Addr)(vs:LW):Prop:=match k with
 |true=>SqL K H a vs|false=>SqT K H a vs
section
variable{k:Bool}{h h':Heap}{a i:Addr}{n:Nat}
theorem ItK.at(x:ItK k h i a n)(e:∀o,h.get? i=yz o->h'.get? i=yz o):ItK k h' i a n:=by cases k<;>(obtain⟨o,J,r⟩:=x;exact⟨o,e _ J,r⟩)
theorem ItK.obj(x:ItK k h i a n):∃o,h.get? i=yz o/\(o.cls=.type "list_iterator" \/ o.cls=.type "tuple_iterator")/\∀v,o.data≠.cell v:=by
 cases k;·obtain⟨o,e,c,d⟩:=x;exact⟨o,e,.inr c,λv z=>by rw[d]at z;cases z⟩
 ·obtain⟨o,e,c,d⟩:=x;exact⟨o,e,.inl c,λv z=>by rw[d]at z;cases z⟩
end
theorem Xi1(I:Inv X pc σ H s)(h:SqH k X.K H a vs):∃its:LV,Vals vs its/\SqK k s.heap a its.toArray:=by
 cases k;·obtain⟨its,J,p,_⟩:=I.tuple h;exact⟨its,J,show s.heap.IsTuple a its.toArray from p⟩
 ·obtain⟨its,J,p,_⟩:=I.list h;exact⟨its,J,p.isList⟩
theorem Xv6(I:Inv X pc σ H s)(h:SqH k X.K H a vs)(h':SqH k X.K H a us):vs=us:=by
 cases k;·exact I.tuple_inj h h'
 ·exact I.list_inj h h'
section
variable{prog:Ua}{w:Uq}{A:Uy}{E:VP}{s:Vc}
theorem Xv7(J:s.heap.IsTupleIter it t i)(ht:s.heap.IsTuple t items)(hx:items[i]?=yz x)
  (hQ:∀h',h'.IsTupleIter it t (i+1)->Vbi it s.heap h'->Q x {s with heap:=h' }):Vi (Vj prog w) A (Vbq (.ref it)) Q E s:=by
 obtain⟨o,L,hc,hd⟩:=id J;obtain⟨ol,aa,_,nl,Y⟩:=ht;unfold Vbq;refine Va (Vba (name:=Val "__next__") J.typeIs Vdq (Vat Vdq J.typeIs Vhi ?_ (Vhd _)));show Vi _ _ (field (.ref it) 0 >>= _) _ _ s;refine Va (Vaj L hd (x:=.ref t) rfl ?_);show Vi _ _ (if (Vcd t==Vbz)=yx then _ else _) _ _ s;rw[iN0 (show ¬ ((Vcd t==Vbz)=yx) from Uu)];show Vi _ _ (field (.ref it) 1 >>= _) _ _ s;refine Va (Vaj L hd (x:=.int i 0) rfl ?_);show Vi _ _ (seqItems? (.ref t) >>= _) _ _ s;refine Va (wpAny_seqItems aa Y ?_);simp only[Van,hx];refine Va (wpAny_setField L hd (by simp) (Vh ⟨x,rfl,Vh (hQ _ ⟨_,Vcf _ L (Obj.isFreed_of_fields (Obj.data_mapFields hd _)),(Obj.cls_mapFields ..).trans hc,by rw[Obj.data_mapFields hd];simp[Vce]⟩ (Vfg ..))⟩))
theorem X0f(hh:A.handled=yy)(J:s.heap.IsTupleIter it t i)(ht:s.heap.IsTuple t items)(hx:items[i]?=yy)
  (hE:∀h' e,Heap.ExtBut it s.heap h'->(∃o,h'.get? e=yz o/\o.cls=.type "StopIteration")->E (.ref e) {s with heap:=h' }):Vi (Vj prog w) A (Vbq (.ref it)) Q E s:=by
 obtain⟨o,Y,hc,hd⟩:=id J;obtain⟨ol,aa,_,nl,L⟩:=ht;unfold Vbq;refine Va (Vba (name:=Val "__next__") J.typeIs Vdq (Vat Vdq J.typeIs Vhi ?_ (Vhd _)));show Vi _ _ (field (.ref it) 0 >>= _) _ _ s;refine Va (Vaj Y hd (x:=.ref t) rfl ?_);show Vi _ _ (if (Vcd t==Vbz)=yx then _ else _) _ _ s;rw[iN0 (show ¬ ((Vcd t==Vbz)=yx) from Uu)];show Vi _ _ (field (.ref it) 1 >>= _) _ _ s;refine Va (Vaj Y hd (x:=.int i 0) rfl ?_);show Vi _ _ (seqItems? (.ref t) >>= _) _ _ s;refine Va (wpAny_seqItems aa L ?_);simp only[Van,hx];refine Va (Vbf (Va (wpAny_setField Y hd (by simp) ?_)));show Vi _ _ (newExc (.type "StopIteration") [] >>= _) _ _ _;refine Va ?_;simp only[newExc,newTuple];refine Va (Va5 ?_ (by size_fits));refine Va (m:=firstArgMember _ _) (wpAny_of_eq (a:=Vbz) (by first|rfl|(simp only[firstArgMember];rfl)) ?_);refine Va5 ?_ (by size_fits);simp only[raiseNew];refine Va (wpAny_handled ?_)
 first|rw[show A.in1.handled=yy from hh]|rw[hh]
 exact Va (Vh (wpAny_throw (hE _ _ (((Vfg ..).extBut.push _).push _) ⟨_,Vw _ rfl,rfl⟩)))
theorem nxK(J:ItK k s.heap it t i)(L:SqK k s.heap t items)(hx:items[i]?=yz x)
  (Y:∀h',ItK k h' it t (i+1)->Vbi it s.heap h'->Q x {s with heap:=h' }):Vi (Vj prog w) A (Vbq (.ref it)) Q E s:=by
 cases k;·exact Xv7 J L hx Y
 ·exact wpAny_nextOf_list_item J L hx Y
theorem Ya9(hh:A.handled=yy)(J:ItK k s.heap it t i)(L:SqK k s.heap t items)(hx:items[i]?=yy)
  (Y:∀h' e,Heap.ExtBut it s.heap h'->(∃o,h'.get? e=yz o/\o.cls=.type "StopIteration")->E (.ref e) {s with heap:=h' }):Vi (Vj prog w) A (Vbq (.ref it)) Q E s:=by
 cases k;·exact X0f hh J L hx Y
 ·exact wpAny_nextOf_list_end hh J L hx Y
noncomputable def Xg5(k:Bool):String:=match k with
 |true => "list_iterator"|false => "tuple_iterator"
theorem Xy9(h:SqK k s.heap a xs)(J:Q (.ref s.heap.objs.size) {s with heap:=s.heap.push {cls:=.type (Xg5 k),data:=.fields #[.ref a,.int 0 0]} }):
  Vi (Vj prog w) A (pyIter (.ref a)) Q E s:=by
 cases k;·exact Vhj h J
 ·exact Vhv h J
theorem X0g(e:h.get? i=yz {cls:=.type (Xg5 k),data:=.fields #[.ref a,.int 0 0]}):ItK k h i a 0:=by cases k<;>exact⟨_,e,rfl,rfl⟩
end
theorem Xmh{h:Heap}{o u:Obj}{c:Addr}(e:(h.push o).get? c=yz u)(J:c≠h.objs.size):h.get? c=yz u:=by rw[Heap.get?_push_ne h c o J]at e;exact e
section
variable{A:Uy}{E:VP}{s:Vc}{a:Addr}
theorem Xs5(h:Q (s.heap.get? a) s):Vi M A (loadIfAlive a) Q E s:=λ_ _ _=>h
end
abbrev Xcv(h:Heap)(e it:Addr)(i:Int)(f0 f1 J:Vb):Prop :=
 h.get? e=yz {cls:=.type "enumerate",dict:=yy,data:=.fields #[f0,f1,.ref it,Vce i,.none,J],slots:=#[]}
def EnA(h:Heap)(e it:Addr)(i:Int):Prop:=∃f0 f1 J,Xcv h e it i f0 f1 J/\(f0=.none\/∃a:Nat,f0=Vce a)
structure NSt(k:Bool)(e it a:Addr)(n:Nat)(h:Heap):Prop where
 eo:EnA h e it n
 io:ItK k h it a n
section
variable{prog:Ua}{w:Uq}{A:Uy}{E:VP}{s:Vc}{k:Bool}{e it a:Addr}{n:Nat}{xs:AV}{x:Vb}
theorem X4q{i:Int}{f0 f1 J:Vb}{Q':Bool->Vc->Prop}(hz:Xcv s.heap e it i f0 f1 J)(hf:f0=.none\/∃a:Nat,f0=Vce a)(h1:Q' yx s)(h2:∀h' (f:Vb),EnA h' e it i->Vbi e s.heap h'->Q' yw {s with heap:=h' }):Vi (Vj prog w) A (Vdj (.ref e)) Q' E s:=by
 unfold Vdj;rcases hf with rfl|⟨T,rfl⟩;·exact Va (Vaj hz rfl (x:=.none) rfl (Vh h1))
 ·refine Va (Vaj hz rfl (x:=Vce T) rfl ?_);show Vi _ _ (loadIfAlive (Int.toNat (T:Int)) >>= _) _ _ _;refine Va (Xs5 ?_);cases s.heap.get? (Int.toNat (T:Int)) with
  |none=>simp only[Option.isNone_none,if_true];exact Vh h1|some o=>
   simp only[Option.isNone_some,Ui,if_false];refine Va (Vaj hz rfl (x:=f1) rfl ?_);split;·exact Va (Vcj hz (by simp) λg5 L Y=>Vh (h2 g5 f1 ⟨_,_,_,L,.inr ⟨T,rfl⟩⟩ Y))
   ·exact Vh (h2 s.heap f1 ⟨_,_,_,hz,.inr ⟨T,rfl⟩⟩ (Heap.SameBut.refl ..))
theorem X0h{hp Y:Heap}{g d tk os}{i:Int}{f0 f1 J:Vb}{T:Addr}{Q:Fin->Vc->Prop}(e4:Xcv Y e it i f0 f1 J)
  (hQ:∀L,EnA L e it i->(∀b o,b≠e->Y.get? b=yz o->L.get? b=yz o)->Q (.done (.ret (.ref T))) ⟨L,g,d,tk,os⟩):
  Vi (Vj prog w) A (do
   rule "enumerate.__next__.owned-tuple-again"
   let J <- field (.ref e) 5
   setField (.ref e) 5 x
   Vfz (.ref e) (.ref T)
   letGo [J] [.ref T]
   ret (.ref T)) Q E ⟨Y,g,d,tk,os⟩:=by
 refine Va (Vbf (Va (Vaj e4 rfl (x:=J) rfl (Va (Vcj e4 (by simp) λg5 e5 c5=>?_)))));replace c5:Vbi e Y g5:=c5;replace e5:Xcv g5 e it i f0 f1 x:=e5;refine Va ?_;unfold Vfz;refine Va (Vcj e5 (by simp) λg6 e6 c6=>?_);replace c6:Vbi e g5 g6:=c6;replace e6:Xcv g6 e it i (Vce T) f1 x:=e6;refine Vcj e6 (by simp) λL e7 c7=>?_;replace c7:Vbi e g6 L:=c7;replace e7:Xcv L e it i (Vce T) (.bool yw) x:=e7;exact Va (wpAny_letGo (Vh (hQ L ⟨_,_,_,e7,.inr ⟨T,rfl⟩⟩ λb o h1 q=>c7.extBut b o h1 (c6.extBut b o h1 (c5.extBut b o h1 q)))))
theorem Xv8{Q:VP}(J:e≠it)(he:EnA s.heap e it n)(hi:ItK k s.heap it a n)(ha:SqK k s.heap a xs)(hx:xs[n]?=yz x)
  (hQ:∀h',EnA h' e it ((n:Int)+1)->ItK k h' it a (n+1)->h'.get? s.heap.objs.size=yz {cls:=.type "tuple",data:=.seq #[.int n s.toks,x]} ->
   (∀b o,b≠e->b≠it->s.heap.get? b=yz o->h'.get? b=yz o)->Q (.ref s.heap.objs.size) {s with heap:=h',toks:=s.toks+1}):
  Vi (Vj prog w) A (Vb1.«enumerate.__next__» ⟨[.ref e],[]⟩) (λfin s'=>∃v,fin=.done (.ret v)/\Q v s') E s:=by
 obtain⟨f0,f1,L,he,hf⟩:=he;obtain⟨Y,g,d,tk,os⟩:=s;show Vi _ _ (field (.ref e) 2 >>= _) _ _ _;refine Va (Vaj he rfl (x:=.ref it) rfl (Va (nxK hi ha hx λg1 i1 c1=>?_)));replace c1:Vbi it Y g1:=c1;have e1:Xcv g1 e it n f0 f1 L:=(c1.2 e J).trans he;show Vi _ _ (field (.ref e) 3 >>= _) _ _ ⟨g1,g,d,tk,os⟩;refine Va (Vaj e1 rfl (x:=Vce n) rfl ?_);show Vi _ _ (field (.ref e) 4 >>= _) _ _ ⟨g1,g,d,tk,os⟩;refine Va (Vaj e1 rfl (x:=.none) rfl ?_);show Vi _ _ (mkInt n >>= _) _ _ ⟨g1,g,d,tk,os⟩;refine Va (wpAny_mkInt ?_);show Vi _ _ (setField (.ref e) 3 (Vce ((n:Int)+1)) >>= _) _ _ ⟨g1,g,d,tk+1,os⟩;refine Va (Vcj e1 (by simp) λg2 e2 c2=>?_);replace c2:Vbi e g1 g2:=c2;replace e2:Xcv g2 e it ((n:Int)+1) f0 f1 L:=e2;show Vi _ _ (setField (.ref e) 4 .none >>= _) _ _ ⟨g2,g,d,tk+1,os⟩;refine Va (Vcj e2 (by simp) λg3 e3 c3=>?_);replace c3:Vbi e g2 g3:=c3;replace e3:Xcv g3 e it ((n:Int)+1) f0 f1 L:=e3;show Vi _ _ (newTuple [.int n tk,x] >>= _) _ _ ⟨g3,g,d,tk+1,os⟩;refine Va (wpAny_newTuple ?_);have e4:Xcv (g3.push {cls:=.type "tuple",data:=.seq #[.int n tk,x]}) e it ((n:Int)+1) f0 f1 L:=Vo _ e3;generalize q4:g3.push {cls:=.type "tuple",data:=.seq #[.int n tk,x]}=g4 at e4;have sz:g3.objs.size=Y.objs.size:=by rw[c3.1,c2.1,c1.1]
 have el:e<Y.objs.size:=Vy he;have t4:g4.get? Y.objs.size=yz {cls:=.type "tuple",data:=.seq #[.int n tk,x]}:=by rw[<-q4,<-sz];exact Vw _ rfl
 have k4:∀b o,b≠e->b≠it->Y.get? b=yz o->g4.get? b=yz o:=λb o h1 h2 hb=>by rw[<-q4];exact Vo _ (c3.extBut b o h1 (c2.extBut b o h1 (c1.extBut b o h2 hb)))
 have i4:ItK k g4 it a (n+1):=i1.at λo q=>by rw[<-q4];exact Vo _ (c3.extBut _ _ (Ne.symm J) (c2.extBut _ _ (Ne.symm J) q))
 show Vi _ _ (Vdj (.ref e) >>= _) _ _ ⟨g4,g,d,tk+1,os⟩;rw[sz];clear q4 e3 c3 e2 c2 e1 c1 i1 sz g3 g2 g1;have fin:∀g7,EnA g7 e it ((n:Int)+1)->(∀b o,b≠e->g4.get? b=yz o->g7.get? b=yz o)->∃v,(Fin.done (.ret (.ref Y.objs.size)))=.done (.ret v)/\Q v ⟨g7,g,d,tk+1,os⟩:=λg7 e7 up=>⟨_,rfl,hQ g7 e7 (i4.at λo q=>up _ o (Ne.symm J) q) (up _ _ (Vet el) t4) λb o h1 h2 hb=>up b o h1 (k4 b o h1 h2 hb)⟩;refine Va (X4q e4 hf ?_ λg5 f5 e5 c5=>?_);·simp only[if_true];exact X0h (hp:=Y) e4 fin
 ·simp only[Ui,if_false];exact Vh (fin g5 e5 λb o h1 q=>c5.extBut b o h1 q)
theorem Xmi(L:e≠it)(J:EnA s.heap e it n)(hi:ItK k s.heap it a n)(ha:SqK k s.heap a xs)(hx:xs[n]?=yz x)
  (hQ:∀h',EnA h' e it ((n:Int)+1)->ItK k h' it a (n+1)->h'.get? s.heap.objs.size=yz {cls:=.type "tuple",data:=.seq #[.int n s.toks,x]} ->
   (∀b o,b≠e->b≠it->s.heap.get? b=yz o->h'.get? b=yz o)->Q (yz (.ref s.heap.objs.size)) {s with heap:=h',toks:=s.toks+1}):Vi (Vj prog w) A (pyNext (.ref e)) Q E s:=by
 have hT:s.TypeIs (.ref e) "enumerate":=by obtain⟨f0,f1,aa,J,_⟩:=J;exact⟨_,J,rfl⟩
 unfold pyNext;exact Va (Vfc (Vba (name:=Val "__next__") hT Ve0 (Vat Ve0 hT F.entry_enumerate_next (Xv8 L J hi ha hx λh' q1 q2 q3 Y=>Vh (hQ h' q1 q2 q3 Y)) (F.args_enumerate_next_1 _))))
theorem Xmj(hh:A.handled=yy)(J:EnA s.heap e it n)(hi:ItK k s.heap it a n)(ha:SqK k s.heap a xs)(hx:xs[n]?=yy)
  (hQ:∀h',Heap.ExtBut it s.heap h'->Q yy {s with heap:=h' }):Vi (Vj prog w) A (pyNext (.ref e)) Q E s:=by
 obtain⟨f0,f1,aa,J,_⟩:=J;have hT:s.TypeIs (.ref e) "enumerate" := ⟨_,J,rfl⟩;unfold pyNext;refine Va (Vfc (Vba (name:=Val "__next__") hT Ve0 (Vat Ve0 hT F.entry_enumerate_next ?_ (F.args_enumerate_next_1 _))));show Vi _ _ (field (.ref e) 2 >>= _) _ _ _;refine Va (Vaj J rfl (x:=.ref it) rfl (Va (Ya9 hh hi ha hx λh' x L Y=>?_)));obtain⟨o,ho,hc⟩:=Y;exact Va (wpAny_isInstance (T:="StopIteration") (b:=yx) ⟨o,ho,hc⟩ isSubtype_stop (Vh (hQ _ L)))
theorem X4r(hz:EnA s.heap e it i)(L:∀h',EnA h' e it i->Vbi e s.heap h'->Q () {s with heap:=h' }):
  Vi (Vj prog w) A (Vea (.Tuple elts x1 pos) (.ref e) (.ref T)) Q E s:=by
 obtain⟨f0,f1,J,hz,hf⟩:=hz;unfold Vea;refine Va (wpAny_load hz ?_);show Vi _ _ (if (["enumerate","zip","dict_itemiterator","dict_reverseitemiterator","odict_iterator","itertools.zip_longest","itertools.pairwise"].contains "enumerate" && (#[f0,f1,.ref it,Vce i,.none,J]:AV)[0]?==yz (Vce T))=yx then _ else _) Q E s;split;·refine Va (Vbf ?_);show Vi _ _ (setField (.ref e) 0 .none) Q E s;exact Vcj hz (by simp) λh' Y c'=>L h' ⟨_,_,_,Y,.inl rfl⟩ c'
 ·exact Vh (L s.heap ⟨f0,f1,J,hz,hf⟩ (Heap.SameBut.refl ..))
end
theorem Xg6(L:EnA s.heap e it i)(h:Q (.ref e) s):Vi (Vj prog w) A (pyIter (.ref e)) Q E s:=by obtain⟨f0,f1,J,q,_⟩:=L;have ty:s.TypeIs (.ref e) "enumerate" := ⟨_,q,rfl⟩;exact wpAny_pyIter_slot ty F.slot_enumerate_iter (Vat F.slot_enumerate_iter ty F.entry_enumerate_iter (show Vi _ _ (ret (.ref e)) _ _ s from Vh ⟨_,rfl,"enumerate",_,ty,F.slot_enumerate_next.lookup,h⟩) (F.args_enumerate_iter_1 _))
open AutoSeq1 (wpAny_loadPart')
noncomputable def X4s(k:Bool):String:=match k with
 |true => "list"|false => "tuple"
theorem Xv9(k:Bool)(a:Addr)(xs:AV)(n:Nat)(J:Option Addr)(sl:Array OV):Meets (Vb1.«enumerate.__new__» ⟨[.type "enumerate",.ref a],[]⟩) (λ_ R s=>s.heap.get? a=yz {cls:=.type (X4s k),dict:=J,data:=.seq xs n,slots:=sl} /\
   R (.ok (.ret (.ref (s.heap.push {cls:=.type (Xg5 k),data:=.fields #[.ref a,.int 0 0]}).objs.size))) {s with heap:=(s.heap.push {cls:=.type (Xg5 k),data:=.fields #[.ref a,.int 0 0]}).push {cls:=.type "enumerate",data:=.fields #[.none,.bool yw,.ref s.heap.objs.size,Vce 0,.none,.none]} }):=
 .of_wp λprog w A R s h=>by
  obtain⟨hp,g,d,tk,os⟩:=s;obtain⟨hl,h⟩:=h;have Y:=sub_enumerate;have L:SqK k (Shared.heap ⟨hp,g,d,tk,os⟩) a xs:=by cases k<;>exact⟨_,hl,rfl,n,rfl⟩
  wp_walk using Vb5 hl;refine wpAny_stack_any λst=>Vh ?_;split;·rename_i c _ _ _ _ _;cases (c==Vb0 "enumerate")<;>(wp_walk using Vb5 hl,Xy9 L;exact⟨_,rfl,h⟩)
  ·wp_walk using Vb5 hl,Xy9 L;exact⟨_,rfl,h⟩
theorem Xpe(hL:SqK k s.heap a xs)
  (h:∀h',NSt k (s.heap.objs.size+1) s.heap.objs.size a 0 h'->(∀b o,s.heap.get? b=yz o->h'.get? b=yz o)->Q (.ref (s.heap.objs.size+1)) {s with heap:=h' }):
  Vi (Vj prog w) A (call (.type "enumerate") [.ref a]) Q E s:=by
 obtain⟨n,J,sl,hl⟩:∃n J sl,s.heap.get? a=yz {cls:=.type (X4s k),dict:=J,data:=.seq xs n,slots:=sl}:=by cases k<;>(obtain⟨⟨c,J,dt,sl⟩,hl,Y,n,hd⟩:=hL;cases Y;cases hd;exact⟨n,J,sl,hl⟩)
 refine callType_new F.called_enumerate (by decide) (F.typeCall_enumerate_1 _) (F.newCall_enumerate_1 _) (λobj=>F.args_object_init_2 obj _) F.entry_enumerate_new (Xv9 k a xs n J sl) ⟨hl,?_⟩;have hz:(s.heap.push {cls:=.type (Xg5 k),data:=.fields #[.ref a,.int 0 0]}).objs.size=s.heap.objs.size+1:=Ve1 ..;show _/\_;rw[hz];have L:Xcv ((s.heap.push {cls:=.type (Xg5 k),data:=.fields #[.ref a,.int 0 0]}).push {cls:=.type "enumerate",data:=.fields #[.none,.bool yw,.ref s.heap.objs.size,Vce 0,.none,.none]}) (s.heap.objs.size+1) s.heap.objs.size 0 .none (.bool yw) .none:=by have:=Vw (s.heap.push {cls:=.type (Xg5 k),data:=.fields #[.ref a,.int 0 0]}) (o:={cls:=.type "enumerate",data:=.fields #[.none,.bool yw,.ref s.heap.objs.size,Vce 0,.none,.none]}) rfl;rw[hz]at this;exact this
 exact⟨⟨_,L,rfl⟩,h _ ⟨⟨_,_,_,L,.inl rfl⟩,X0g (Vo _ (Vw _ rfl))⟩ λb o q=>Vo _ (Vo _ q)⟩
noncomputable def Ite(K:Ve)(k:Bool)(a:Addr):L2.It:=
 ⟨λn H=>∃xs x,SqH k K H a xs/\xs[n]?=yz x,
   λn H v H'=>∃T x,v=.ref T/\H T=yy/\H'=upd H T (.tup [.int n,x])/\∀xs,SqH k K H a xs->xs[n]?=yz x,
   λn H=>∃xs,SqH k K H a xs/\(ll xs)<=n⟩
theorem NSt.at(x:NSt k e it a n h)(q:∀c∈[e,it],∀o,h.get? c=yz o->h'.get? c=yz o):NSt k e it a n h':=
 ⟨let ⟨f0,f1,old,z,r⟩:=x.eo;⟨f0,f1,old,q e (by simp) _ z,r⟩,x.io.at λo z=>q it (by simp) o z⟩
theorem NSt.some(x:NSt k e it a n h):∀c∈[e,it],∃o,h.get? c=yz o/\∀v,o.data≠.cell v:=λc J=>by
 simp only[V2,Vai,or_false]at J;rcases J with z|z<;>subst z
 ·obtain⟨f0,f1,L,z,_⟩:=x.eo;exact⟨_,z,λv q=>nomatch q⟩
 obtain⟨o,z,_,d⟩:=x.io.obj;exact⟨o,z,d⟩
theorem X0i{P:Ua}{w:Uq}{K:Ve}{es:LX}{x0:Nat}{tp:Pos}{k:Bool}{e it a:Addr}(Y:e≠it):
  Turn P w K (.Tuple es x0 tp) (Ite K k a) [e,it] e (λn h=>NSt k e it a n h) where
 mem:=by simp
 obj:=λn h st c L=>st.some c L
 keep:=λn h h' st q=>st.at q
 item:=by
  intro X hP hw hK L n pc s σ H E J hf st hg;subst hP hw hK;obtain⟨xs,x,q1,hx⟩:=hg;obtain⟨its,rv,p⟩:=Xi1 J q1;obtain⟨u,hu,ru⟩:=rv.get hx;have hT:H s.heap.objs.size=none:=J.hok.fresh (Vf _);have aa:∀c∈[e,it],c≠s.heap.objs.size:=λc L=>by obtain⟨o,z,_⟩:=st.some c L;exact Up (Vy z)
  refine Xmi Y st.eo st.io p (x:=u) (by simpa using hu) λh' ac ae pr kp=>⟨_,rfl,X4r ac λh2 e2 c2=>?_⟩;have J1:Inv X pc σ (upd H s.heap.objs.size (.tup [.int n,x])) {s with heap:=s.heap.push {cls:=.type "tuple",data:=.seq #[.int n s.toks,u]} }:=J.laid (t':=s.toks) (λc o z=>Vo _ z) (Vf _) ⟨by show 2<=V0;decide,[.int n s.toks,u],.cons ⟨_,rfl⟩ (.cons ru .nil),⟨_,Vw _ rfl,rfl,_,rfl⟩⟩;have ab:∀c∈[e,it],Xag X pc (upd H s.heap.objs.size (.tup [.int n,x])) c:=λc L=>⟨by rw[Xe (aa c L)];exact(hf c L).1,(hf c L).2⟩;have J2:Inv X pc σ (upd H s.heap.objs.size (.tup [.int n,x])) {s with heap:=h2,toks:=s.toks+1}:=Xf0 (s:={s with heap:=s.heap.push {cls:=.type "tuple",data:=.seq #[.int n s.toks,u]} }) (h':=h2) (t':=s.toks+1) J1 ab λc o L z=>by
   simp only[V2,Vai,or_false,not_or]at L;refine c2.extBut _ _ L.1 ?_;by_cases q:c=s.heap.objs.size;·subst q;have z':=(Vw s.heap (o:={cls:=.type "tuple",data:=.seq #[.int n s.toks,u]}) rfl).symm.trans z;rw[<-z'];exact pr
   ·exact kp c o L.1 L.2 (Xmh z q)
  refine⟨.ref s.heap.objs.size,_,J2,rfl,⟨s.heap.objs.size,x,rfl,hT,rfl,λzs hz=>?_⟩,?_,λc L=>(ab c L).1⟩;·rw[Xv6 J hz q1];exact hx
  ·exact⟨e2,ae.at λo z=>c2.extBut _ _ (Ne.symm Y) z⟩
 done:=by intro X hP hw hK L n pc s σ H E J hf st hg;subst hP hw hK;obtain⟨xs,q1,hl⟩:=hg;obtain⟨its,rv,p⟩:=Xi1 J q1;have l1:=rv.length;refine Xmj (J.ok.hd L) st.eo st.io p (by simp;omega) λh' kp=>⟨rfl,Xf0 (t':=s.toks) J hf λc o L z=>?_⟩;simp only[V2,Vai,or_false,not_or]at L;exact kp c o L.2 z
 self:=λ_ _ _ _ _ st h=>Xg6 st.eo h
theorem Xkr(a b:Int):Vd9 a b (-1)=if a>b then a-b else 0:=by unfold Vd9;rw[iN0 (by decide)];split<;>simp<;>omega
theorem Xq1(ha:-(2^62)<=a)(L:a<2^62)(hb:-(2^62)<=b)(J:b<2^62):Builtin.Range.small a b (-1)=true:=by
 unfold Builtin.Range.small;rw[Xkr];simp only[Builtin.Range.rangeFitsLong,bA0,Vb6,decide_eq_true_eq,beq_iff_eq,show ¬ (-1:Int)>0 by decide,if_false];have q:∀x:Int,-(2^62)<=x->x<2^62->-2^63<=x/\x<2^63:=λx h1 h2=>⟨by omega,by omega⟩;split;·exact⟨⟨⟨⟨q a ha L,q b hb J⟩,by decide⟩,by omega,by omega⟩,.inr (by rw[show(-1:Int)+1=0 from rfl,Int.add_zero];exact q b hb J)⟩
 ·exact⟨⟨⟨⟨q a ha L,q b hb J⟩,by decide⟩,by decide⟩,.inl rfl⟩
noncomputable def Itd(lo:Int)(n:Nat):L2.It where
 go:=λi _=>i<n
 yld:=λi H x H'=>H'=H/\x=.int (lo-i)
 stop:=λi _=>n<=i
theorem Xs6{P:Ua}{w:Uq}{K:Ve}{tg:Expr}(it:Addr)(lo:Int)(n:Nat):Turn P w K tg (Itd lo n) [it] it (λi h=>IsRangeIter h it (lo+(i:Nat)*(-1)) ((n:Int)-(i:Nat)) (-1)) where
 mem:=by simp
 obj:=λi h st b hb=>by
  obtain rfl:b=it:=by simpa using hb
  exact⟨_,st,λv z=>nomatch z⟩
 keep:=λi h h' st k=>k it (by simp) _ st
 item:=by
  intro X hP hw L hc i pc s σ H E I hf st hg;subst hP hw L;obtain⟨f0,f1,f2,f3,Y,f5⟩:=hf it (by simp);refine(Walks.range (prog:=X.prog) (w:=X.w) (I.ok.hd hc) it lo (-1) n).item i s _ _ hg st λv h' tk hv J kk=>?_;obtain⟨t,rfl⟩:=hv;have I1:Inv X pc σ H {s with heap:=h',toks:=tk}:=I.turned (λb o hb e=>kk b o (by simpa using hb) e) f0 f1 f3 Y f5;refine⟨_,rfl,Xle (s:={s with heap:=h',toks:=tk}) (n:="range_iterator") J rfl rfl (by decide) ⟨.int (lo-i),H,I1,⟨t,?_⟩,⟨rfl,rfl⟩,J,λb hb=>(hf b hb).1⟩⟩;have e:lo+(i:Int)*(-1)=lo-i:=by omega
  rw[e]
 done:=by intro X hP hw L hc i pc s σ H E I hf st hg;subst hP hw L;obtain⟨f0,f1,f2,f3,Y,f5⟩:=hf it (by simp);have hn:n<=i:=hg;exact wpAny_pyNext_range_end (I.ok.hd hc) st (by omega) λh' eb=>⟨rfl,I.turned (t':=s.toks) (λb o hb e=>eb b o hb e) f0 f1 f3 Y f5⟩
 self:=λ_ _ _ _ _ st h=>wpAny_pyIter_rangeiter st h
section
variable{X:Cx}{tg:Expr}
theorem X0j{pc:LA}{R:L2.It->Hp->Prop}{E:VP}{lo hi:Int}{tk:Nat}(I:Inv X pc σ H s)(h1:-(2^62)<=lo)(h2:lo<2^62)(Y:-(2^62)<=hi)(h4:hi<2^62)
  (q:R (Itd lo (lo-hi).toNat) H):Vi (Vj X.prog X.w) X.A (pyIter (.ref s.heap.objs.size)) (PIE X pc σ tg R) E {s with heap:=s.heap.push {cls:=.type "range",data:=.fields #[.int lo t,.int hi u,.int (-1) v]},toks:=tk}:=by
 refine wpAny_pyIter_range (IsRange.new ..) (Xq1 h1 h2 Y h4) ?_;generalize hR:({cls:=.type "range",data:=.fields #[.int lo t,.int hi u,.int (-1) v]}:Obj)=J;have L:Inv X pc σ H {s with heap:=s.heap.push J,toks:=tk}:=I.kept λb o e=>Vo _ e;refine⟨(s.heap.push J).objs.size,[(s.heap.push J).objs.size],_,_,H,rfl,L.kept (t':=tk) λb o e=>Vo _ e,Xs6 _ lo (lo-hi).toNat,?_,λb hb=>?_,q⟩
 ·have e1:lo+((0:Nat):Int)*(-1)=lo:=by simp
  have e2:(((lo-hi).toNat:Nat):Int)-((0:Nat):Int)=Vd9 lo hi (-1):=by rw[Xkr];split<;>omega
  show IsRangeIter _ _ (lo+((0:Nat):Int)*(-1)) ((((lo-hi).toNat:Nat):Int)-((0:Nat):Int)) (-1);rw[e1,e2];exact Vw _ rfl
 ·obtain rfl:b=(s.heap.push J).objs.size:=by simpa using hb
  exact L.fpOk (Vf _) (L.hok.fresh (Vf _))
variable{pc:LA}{σ:L2.St}{H:Hp}{s:Vc}{ρ:LR}{S S':Sto}{env:En}{Q:VP}{E:VP}{a b c e iter:Expr}{f:En->Sto->R D}{pos:Pos}
def DG(X:Cx)(tg:Expr)(t:Tg):Prop:=
 ∀(pc:LA) (s:Vc) (σ:L2.St) (H:Hp) (ρ:LR) (S:Sto) (env:En) (d:D) (v:V) (u:Vb) (J:En) (Q:Unit->Vc->Prop) (E:VP),S0 X pc σ H s ρ S env->Xk t d env=yz J->RD X.K ρ H d v->RelV v u ->
  (∀s' L,S0 X pc L H s' ρ S J->Q () s')->Vi (Vj X.prog X.w) X.A (assign tg X.env u) Q E s
theorem X0k(hN:X.N.Nodup)(hi:X.N[i]?=yz x)(hx:Loc X.env.scope x)(hf:X.fn x=yx\/X.env.scope.names.lookup x=yz .local):DG X (.Name x pos) (.var i):=by intro pc s σ H ρ S env d v u J Q E I h rd L Y;simp only[Xk,Vq]at h;subst h;exact Vhq (Xba I.inv hN hi hx L (λs' I'=>Y s' _ ⟨I',I.sr,I.er.set i rd⟩) hf)
noncomputable def gNs:LN->TGs
 |[]=>X3i|i::is=>Xy1 (Xy0 i) (gNs is)
theorem Xs7:∀(J:LN) (vs:LW) (σ:L2.St) (H:Hp) (Q:L2.St->Hp->Prop),ll J=ll vs->Q ((J.zip vs).foldl (λe p=>e.set p.1 (yz p.2)) σ) H->gNs J vs σ H Q
 |[],vs=>fun σ H Q hl h=>by
  have:vs=[]:=by simpa using hl.symm
  subst this;exact⟨rfl,h⟩|i::J,[]=>fun σ H Q hl h=>by simp at hl|i::J,v::vs=>fun σ H Q hl h=>⟨v,vs,rfl,Xs7 J vs _ H Q (by simpa using hl) h⟩
theorem ER.sets{K:Ve}:∀(J:LN) (ds:LD) (vs:LW) (env:En) (σ:L2.St),RDs K ρ H ds vs->ER K ρ H env σ->ER K ρ H ((J.zip ds).foldl (λe p=>e.set p.1 (yz p.2)) env) ((J.zip vs).foldl (λe p=>e.set p.1 (yz p.2)) σ)
 |[],ds=>λvs env σ r e=>by simpa using e|i::J,[]=>λvs env σ r e=>by simp only[RDs]at r;subst r;simpa using e|i::J,d::ds=>λvs env σ r e=>by simp only[RDs]at r;obtain⟨v,L,rfl,h1,h2⟩:=r;exact ER.sets J ds L _ _ h2 (e.set i h1)
theorem X4t(hc:X.calm=yx)(h:∀E,PGs (X.wish E) es (gNs is))(hn:(Va4 es X.env).length=ll is)(aa:(Va4 es X.env).findIdx? (·.1)=yy):DG X (.Tuple es k pos) (.tup is):=by
 intro pc s σ H ρ S env d v u ab Q E I hd rd rv hQ;cases d with
 |tup ds=>
  simp only[Xk]at hd;split at hd
  ·rename_i hl;cases hd;simp only[RD]at rd;obtain⟨a,vs,rfl,hs,hr⟩:=rd;have Y:(ll is)=ll vs:=by rw[hl,hr.length]
   refine thn (X3j (X:=X.wish E) (n:=ll is) hc (h E) hn aa pc s σ H (.ref a) u (λL H'=>H'=H/\L=(is.zip vs).foldl (λe p=>e.set p.1 (yz p.2)) σ) (I.inv.wish E) rv ⟨a,vs,rfl,hs,Y.symm,Xs7 is vs σ H _ Y ⟨rfl,rfl⟩⟩) λ_ s' zz=>?_;obtain⟨L,H',J,e1,e2⟩:=zz;subst e1 e2;exact hQ s' _ ⟨J.unwish,I.sr,ER.sets is ds vs env σ hr I.er⟩
  cases hd|_=>cases hd
theorem Xs8:∀(J:LN) (xs:List (Str×Pos)),X.N.Nodup->J.length=ll xs->(∀(j i:Nat) (x:Str×Pos),J[j]?=yz i->xs[j]?=yz x->X.N[i]?=yz x.1/\Loc X.env.scope x.1/\(X.fn x.1=yx\/X.env.scope.names.lookup x.1=yz .local)) ->
  PGs X (xs.map λx=>Expr.Name x.1 x.2) (gNs J)
 |[],xs=>λ_ hl _=>by
  have:xs=[]:=by simpa using hl.symm
  subst this;exact Xzv|i::J,[]=>λ_ hl _=>by simp at hl|i::J,x::xs=>λhN hl h=>by obtain⟨h1,h2,L⟩:=h 0 i x rfl rfl;exact Xvt (Xzu hN h1 h2 L) (Xs8 J xs hN (by simpa using hl) λj i' x' e1 Y=>h (j+1) i' x' (by simpa using e1) (by simpa using Y)) rfl
theorem Xhy:∀(xs:List (Str×Pos)) (env:Va2),(Va4 (xs.map λx=>Expr.Name x.1 x.2) env).length=ll xs/\(Va4 (xs.map λx=>Expr.Name x.1 x.2) env).findIdx? (·.1)=yy
 |[]=>λenv=>⟨rfl,rfl⟩|x::xs=>λenv=>by have h:=Xhy xs env;have e:Va4 ((x::xs).map λx=>Expr.Name x.1 x.2) env=(yw,assign (.Name x.1 x.2) env)::Va4 (xs.map λx=>Expr.Name x.1 x.2) env:=rfl;rw[e];refine⟨by simp[h.1],?_⟩;rw[List.findIdx?_cons];simp[h.2]
def SrcK(K:Ve)(ρ:LR)(H:Hp):Src->Bool->Addr->Prop
 |.con xs,yw,a=>∃vs,SqT K H a vs/\RDs K ρ H xs vs|.ref n,yx,a=>ρ[n]?=yz a|_,_,_=>False
theorem SrcK.mono'{K:Ve}{ρ':LR}{H':Hp}{src:Src}{k:Bool}{a:Addr}(x:Mon K ρ ρ' H H')(h:SrcK K ρ H src k a):SrcK K ρ' H' src k a:=by
 cases src with
 |con xs=>cases k with
  |false=>obtain⟨vs,h1,h2⟩:=h;exact⟨vs,x.tup _ _ h1,RDs.mono' x _ _ h2⟩|true=>exact h.elim
 |ref n=>cases k with
  |false=>exact h.elim|true=>exact x.pre _ _ h
 |enm _=>exact h.elim
theorem SrcK.get{src:Src}{k:Bool}{a:Addr}{i:Nat}{o:Option D}(h:SrcK X.K ρ H src k a)(I:S0 X pc σ H s ρ S env)(g:src.get S i=yz o):∃vs,SqH k X.K H a vs/\match o with
  |some d=>∃v,vs[i]?=yz v/\RD X.K ρ H d v|none=>ll vs<=i:=by
 cases src with
 |con xs=>cases k with
  |false=>
   obtain⟨vs,h1,h2⟩:=h;simp only[Src.get,Vq]at g;refine⟨vs,h1,?_⟩;cases o with
   |some d=>exact h2.get g|none=>have:=h2.none g;rw[U2]at this;exact this
  |true=>exact h.elim
 |ref n=>cases k with
  |false=>exact h.elim|true=>
   simp only[Src.get,Ul]at g;obtain⟨xs,g1,g2⟩:=g;obtain⟨a',vs,k1,k2,J⟩:=I.list g1;have h':ρ[n]?=yz a:=h;rw[h']at k1;cases k1;refine⟨vs,.of k2,?_⟩;cases o with
   |some d=>exact J.get g2|none=>have:=J.none g2;rw[U2]at this;exact this
 |enm _=>exact h.elim
inductive SrcR(K:Ve)(ρ:LR)(H:Hp):Src->L2.It->Prop where
 |tup {a:Addr} {xs:LD} {vs:LW}:SqT K H a vs->RDs K ρ H xs vs->SrcR K ρ H (.con xs) (Itt K a)
 |rng (lo:Int) (n:Nat):SrcR K ρ H (.con ((Vm n).map λ(k:Nat)=>D.int (lo+k))) (Itr lo n)
 |lst {n:Nat} {a:Addr}:ρ[n]?=yz a->SrcR K ρ H (.ref n) (Itl K a)
 |dwn (lo:Int) (n:Nat):SrcR K ρ H (.con ((Vm n).map λ(k:Nat)=>D.int (lo-k))) (Itd lo n)
 |enm {s1:Src} {k:Bool} {a:Addr}:SrcK K ρ H s1 k a->SrcR K ρ H (.enm s1) (Ite K k a)
theorem SrcR.mono'{K:Ve}{ρ':LR}{H':Hp}{src:Src}{J:L2.It}(x:Mon K ρ ρ' H H')(h:SrcR K ρ H src J):SrcR K ρ' H' src J:=by
 cases h with
 |tup h1 h2=>exact .tup (x.tup _ _ h1) (RDs.mono' x _ _ h2)|rng lo n=>exact .rng lo n|lst h=>exact .lst (x.pre _ _ h)|dwn lo n=>exact .dwn lo n|enm h1=>exact .enm (h1.mono' x)
theorem SrcR.mono{K:Ve}{ρ':LR}{H':Hp}{src:Src}{J:L2.It}(x:Stp K ρ ρ' H H')(h:SrcR K ρ H src J):SrcR K ρ' H' src J:=h.mono' x.toMon
theorem Xpf(g:(Src.enm s1).get S i=yz o):∃J,s1.get S i=yz J/\match o with
  |some d=>∃x,J=yz x/\d=.tup [.int i,x]|none=>J=none:=by
 simp only[Src.get]at g;split at g;·rename_i x Y;cases g;exact⟨_,Y,x,rfl,rfl⟩
 ·rename_i L;refine⟨o,g,?_⟩;cases o with
  |none=>rfl|some x=>exact(L x g).elim
theorem SrcR.go(h:SrcR X.K ρ H src J)(I:S0 X pc σ H s ρ S env)(g:src.get S i=yz (yz d)):
  J.go i H/\∀x H',J.yld i H x H'->SR X.K ρ S H'/\Stp X.K ρ ρ H H'/\RD X.K ρ H' d x:=by
 cases h with
 |@tup a xs vs h1 h2=>simp only[Src.get,Vq]at g;obtain⟨v,L,e2⟩:=h2.get g;refine⟨⟨vs,v,h1,L⟩,λx H' y=>?_⟩;obtain⟨rfl,y⟩:=y;have:=y vs h1;rw[L]at this;cases this;exact⟨I.sr,.refl,e2⟩|rng lo n=>
  simp only[Src.get,Vq]at g;rw[V6]at g;have hi:i<n:=by
   by_cases hi:i<n;·exact hi
   ·rw[Vdk (by simpa using hi)]at g;cases g
  rw[Vag hi]at g;simp only[V7,Vq]at g;subst g;refine⟨hi,λx H' y=>?_⟩;obtain⟨rfl,rfl⟩:=y;exact⟨I.sr,.refl,by simp only[RD]⟩|@lst n a h=>simp only[Src.get,Ul]at g;obtain⟨xs,g1,g2⟩:=g;obtain⟨a',vs,k1,k2,k3⟩:=I.list g1;rw[h]at k1;cases k1;obtain⟨v,L,e2⟩:=k3.get g2;refine⟨⟨vs,v,.of k2,L⟩,λx H' y=>?_⟩;obtain⟨rfl,y⟩:=y;have:=y vs (.of k2);rw[L]at this;cases this;exact⟨I.sr,.refl,e2⟩|dwn lo n=>
  simp only[Src.get,Vq]at g;rw[V6]at g;have hi:i<n:=by
   by_cases hi:i<n;·exact hi
   ·rw[Vdk (by simpa using hi)]at g;cases g
  rw[Vag hi]at g;simp only[V7,Vq]at g;subst g;refine⟨hi,λx H' y=>?_⟩;obtain⟨rfl,rfl⟩:=y;exact⟨I.sr,.refl,by simp only[RD]⟩|@enm s1 k a h1=>obtain⟨o1,g1,x,rfl,rfl⟩:=Xpf g;obtain⟨vs,q1,v,L,r1⟩:=h1.get I g1;refine⟨⟨vs,v,q1,L⟩,λw H' yd=>?_⟩;obtain⟨T,v',rfl,hT,rfl,z1⟩:=yd;have Y:=z1 vs q1;rw[L]at Y;cases Y;have st:Stp X.K ρ ρ H (upd H T (.tup [.int i,v])):=Stp.upd hT;refine⟨I.sr.upd hT,st,?_⟩;simp only[RD];exact⟨T,[.int i,v],rfl,.of Xp,.cons (by simp only[RD]) (.cons (r1.mono st) .nil)⟩
theorem SrcR.stop(h:SrcR X.K ρ H src J)(I:S0 X pc σ H s ρ S env)(g:src.get S i=yz yy):J.stop i H:=by
 cases h with
 |@tup a xs vs h1 h2=>simp only[Src.get,Vq]at g;exact⟨vs,h1,by have:=h2.none g;rw[U2]at this;exact this⟩|rng lo n=>simp only[Src.get,Vq]at g;rw[U2]at g;show n<=i;simpa using g|@lst n a h=>simp only[Src.get,Ul]at g;obtain⟨xs,g1,g2⟩:=g;obtain⟨a',vs,k1,k2,L⟩:=I.list g1;rw[h]at k1;cases k1;exact⟨vs,.of k2,by have:=L.none g2;rw[U2]at this;exact this⟩|dwn lo n=>simp only[Src.get,Vq]at g;rw[U2]at g;show n<=i;simpa using g|@enm s1 k a h1=>obtain⟨o1,g1,ho⟩:=Xpf g;obtain⟨vs,q1,Y⟩:=h1.get I g1;cases ho;exact⟨vs,q1,Y⟩
def ItP(X:Cx)(pc:LA)(σ:L2.St)(ρ:LR)(H:Hp)(tg:Expr)(r:R Src)(Y:Vb)(s2:Vc):Prop:=
 ∃L S' it fp tn J H' ρ',r=.ok L S'/\Y=.ref it/\Inv X pc σ H' s2/\Turn X.prog X.w X.K tg J fp it tn/\tn 0 s2.heap/\(∀b∈fp,Xag X pc H' b)/\SrcR X.K ρ' H' L J/\SR X.K ρ' S' H'/\Stp X.K ρ ρ' H H'
theorem ItP.pre{Y:LR}{H1:Hp}{r:R Src}{L:Vb}{s2:Vc}(h:ItP X pc σ Y H1 tg r L s2)(st:Stp X.K ρ Y H H1):ItP X pc σ ρ H tg r L s2:=by obtain⟨aa,S2,it,fp,tn,J,H2,ab,z1,z2,z3,z4,z5,z6,z7,z8,z9⟩:=h;exact⟨aa,S2,it,fp,tn,J,H2,ab,z1,z2,z3,z4,z5,z6,z7,z8,st.trans z9⟩
def DI(X:Cx)(tg iter:Expr)(f:En->Sto->R Src):Prop:=
 ∀(pc:LA) (s:Vc) (σ:L2.St) (H:Hp) (ρ:LR) (S:Sto) (env:En) (E:VP),S0 X pc σ H s ρ S env->f env S≠.bad->(∀x s',ExP X pc σ ρ H (f env S) x s'->E x s') ->
  Vi (Vj X.prog X.w) X.A (eval iter X.env) (λv J=>Vi (Vj X.prog X.w) X.A (pyIter v) (ItP X pc σ ρ H tg (f env S)) E J) E s
theorem X4u(he:DE X iter f):DI X tg iter (λenv S=>(f env S).bind λx S=>match Yo S x with|some r=>.ok r S|none=>.bad):=by
 intro pc s σ H ρ S env E I J hE;dsimp only at J hE ⊢;cases q:f env S with
 |bad=>rw[q]at J;cases J rfl|ex n S1=>rw[q]at hE;exact he.ex I q λx s' z=>hE x s' ⟨n,S1,rfl,z⟩|ok d S1=>
  rw[q]at J;simp only[Rk0]at J ⊢;refine he.ok I q λu Y v H1 aa L rv rd ab=>?_;cases d with
  |tup xs=>
   simp only[RD]at rd;obtain⟨a,vs,rfl,h1,h2⟩:=rd;cases rv;obtain⟨its,ac,p,hz⟩:=L.inv.tuple h1;refine Vhj (show Y.heap.IsTuple a its.toArray from p) ?_;refine⟨_,S1,Y.heap.objs.size,[Y.heap.objs.size],_,_,H1,aa,rfl,rfl,L.inv.kept (t':=Y.toks) λb o e=>Vo _ e,Xql a _,⟨_,Vw _ rfl,rfl,rfl⟩,λb hb=>?_,.tup h1 h2,L.sr,ab⟩;have e:b=Y.heap.objs.size:=by simpa using hb
   subst e;exact L.inv.fpOk (Vf _) (L.inv.hok.fresh (Vf _))|ref n=>
   cases e1:Xc S1 n with
   |none=>simp[Yo,e1]at J|some xs=>
    obtain⟨a,vs,k1,k2,k3⟩:=L.list e1;simp only[RD]at rd;obtain⟨a',rfl,k4⟩:=rd;rw[k1]at k4;cases k4;cases rv;obtain⟨its,ac,p,hz⟩:=L.inv.list (.of k2);refine Vhv p.isList ?_;refine⟨.ref n,S1,Y.heap.objs.size,[Y.heap.objs.size],_,_,H1,aa,by simp[Yo,e1],rfl,L.inv.kept (t':=Y.toks) λb o e=>Vo _ e,Xsf a _,⟨_,Vw _ rfl,rfl,rfl⟩,λb hb=>?_,.lst k1,L.sr,ab⟩;have e:b=Y.heap.objs.size:=by simpa using hb
    subst e;exact L.inv.fpOk (Vf _) (L.inv.hok.fresh (Vf _))
  |non=>simp[Yo]at J|bl _=>simp[Yo]at J|int _=>simp[Yo]at J|str _=>simp[Yo]at J|fro _=>simp[Yo]at J|fn _ _=>simp[Yo]at J
theorem Xs9{tk:Nat}{lo hi:Int}{ds:LD}(I:S0 X pc σ H s ρ S env)(h1:-(2^62)<=lo)(h2:lo<2^62)(h3:-(2^62)<=hi)(h4:hi<2^62)(L:ds=(Vm (hi-lo).toNat).map λ(k:Nat)=>D.int (lo+k)):
  Vi (Vj X.prog X.w) X.A (pyIter (.ref s.heap.objs.size)) (ItP X pc σ ρ H tg (.ok (.con ds) S)) E {s with heap:=s.heap.push {cls:=.type "range",data:=.fields #[.int lo t,.int hi u,.int 1 v]},toks:=tk}:=by
 refine thn (Xvu (X:=X.wish E) (tg:=tg) (R:=λJ H'=>J=Itr lo (hi-lo).toNat/\H'=H) (I.inv.wish E) h1 h2 h3 h4 ⟨rfl,rfl⟩) λY s2 z=>?_;obtain⟨it,fp,tn,J,H',e1,J',T,t0,fo,e2,e3⟩:=z;subst e2 e3;exact⟨_,S,it,fp,tn,_,H',ρ,rfl,e1,J'.unwish,T,t0,fo,by rw[L];exact .rng _ _,I.sr,.refl⟩
theorem Xwa{tk:Nat}{lo hi:Int}(I:S0 X pc σ H s ρ S env)(h1:-(2^62)<=lo)(h2:lo<2^62)(Y:-(2^62)<=hi)(h4:hi<2^62):
  Vi (Vj X.prog X.w) X.A (pyIter (.ref s.heap.objs.size)) (ItP X pc σ ρ H tg (.ok (.con ((Vm (lo-hi).toNat).map λ(k:Nat)=>D.int (lo-k))) S)) E {s with heap:=s.heap.push {cls:=.type "range",data:=.fields #[.int lo t,.int hi u,.int (-1) v]},toks:=tk}:=by
 refine thn (X0j (X:=X.wish E) (tg:=tg) (R:=λJ H'=>J=Itd lo (lo-hi).toNat/\H'=H) (I.inv.wish E) h1 h2 Y h4 ⟨rfl,rfl⟩) λL s2 z=>?_;obtain⟨it,fp,tn,J,H',e1,J',T,t0,fo,e2,e3⟩:=z;subst e2 e3;exact⟨_,S,it,fp,tn,_,H',ρ,rfl,e1,J'.unwish,T,t0,fo,.dwn _ _,I.sr,.refl⟩
theorem X0l{ds:LD}(h:Ys ds≠yy):(∃j,ds=[.int j])\/(∃i j,ds=[.int i,.int j])\/∃i j c,ds=[.int i,.int j,.int c]:=by
 unfold Ys at h;split at h;·exact .inl ⟨_,rfl⟩
 ·exact .inr (.inl ⟨_,_,rfl⟩)
 ·exact .inr (.inr ⟨_,_,_,rfl⟩)
 cases h rfl
theorem X4v {es:LX} {g:En->Sto->R (LD)} (hg:Gl X "range") (hm:X.mg "range"=yy) (ha:DA X (a::es) g) (hs:Uk (a::es) X.env=(yw,eval a X.env)::Uk es X.env) (ab:(Vb2 pos (Uk es X.env)).any (·.1)=yw):
  DI X tg (.Call (.Name "range" p) (a::es) [] pos) (λenv S=>(g env S).bind λxs S=>match Ys xs with|some ds=>.ok (.con ds) S|none=>.bad):=by
 intro pc s σ H ρ S env E I J hE;dsimp only at J hE ⊢;refine Call_ (Xaz I.inv hg hm boot_range (Va9 ?_ hs ab));cases q:g env S with
 |bad=>rw[q]at J;cases J rfl|ex n S1=>rw[q]at hE;exact ha.ex I q λx s' z=>hE x s' ⟨n,S1,rfl,z⟩|ok ds S1=>
  rw[q]at J;simp only[Rk0]at J ⊢;refine ha.ok I q λus s1 vs H1 ac I1 rv rd aa=>?_;have fin:∀ {tk:Nat} {lo hi:Int} {t u v:Tok} {xs:LD},-(2^62)<=lo->lo<2^62->-(2^62)<=hi->hi<2^62->xs=(Vm (hi-lo).toNat).map (λ(k:Nat)=>D.int (lo+k)) ->
    Vi (Vj X.prog X.w) X.A (pyIter (.ref s1.heap.objs.size)) (ItP X pc σ ρ H tg (.ok (.con xs) S1)) E {s1 with heap:=s1.heap.push {cls:=.type "range",data:=.fields #[.int lo t,.int hi u,.int 1 v]},toks:=tk}:=λh1 h2 h3 h4 h5=>
   Vp (Xs9 I1 h1 h2 h3 h4 h5) (λ_ _ z=>z.pre aa) λ_ _ z=>z
  have nr:Ys ds≠none:=λz=>J (by rw[z]);rcases X0l nr with⟨j,rfl⟩|⟨i,j,rfl⟩|⟨i,j,c,rfl⟩
  ·simp only[Ys]at J ⊢;by_cases hz:-(1048576)<j/\j<1048576
   ·rw[iP0 hz]at J ⊢;simp only[RDs]at rd;obtain⟨v,r,rfl,L,rfl⟩:=rd;simp only[RD]at L;subst L;cases rv with
    |cons q1 q2=>cases q2;obtain⟨t,rfl⟩:=q1;refine call_range_1 (fin (by omega) (by omega) (by omega) (by omega) ?_);simp
   rw[iN0 hz]at J;cases J rfl
  ·simp only[Ys]at J ⊢;by_cases hz:-(1048576)<i/\i<1048576/\-(1048576)<j/\j<1048576
   ·rw[iP0 hz]at J ⊢;simp only[RDs]at rd;obtain⟨v,r,rfl,L,v2,r2,rfl,Y,rfl⟩:=rd;simp only[RD]at L Y;subst L Y;cases rv with
    |cons q1 q2=>
     cases q2 with
     |cons q3 q4=>cases q4;obtain⟨t,rfl⟩:=q1;obtain⟨t',rfl⟩:=q3;exact call_range_2 (fin (by omega) (by omega) (by omega) (by omega) rfl)
   rw[iN0 hz]at J;cases J rfl
  simp only[Ys]at J ⊢;by_cases hz:c = -1/\-(1048576)<i/\i<1048576/\-(1048576)<j/\j<1048576
  ·rw[iP0 hz]at J ⊢;simp only[RDs]at rd;obtain⟨v,r,rfl,L,v2,r2,rfl,Y,v3,r4,rfl,r5,rfl⟩:=rd;simp only[RD]at L Y r5;subst L Y r5;obtain⟨rfl,hz⟩:=hz;cases rv with
   |cons q1 q2=>
    cases q2 with
    |cons q3 q4=>
     cases q4 with
     |cons q5 q6=>cases q6;obtain⟨t,rfl⟩:=q1;obtain⟨t',rfl⟩:=q3;obtain⟨ae,rfl⟩:=q5;exact call_range_3 (by decide) (Vp (Xwa I1 (by omega) (by omega) (by omega) (by omega)) (λ_ _ z=>z.pre aa) λ_ _ z=>z)
  rw[iN0 hz]at J;cases J rfl
theorem X85(I:S0 X pc σ H s ρ S env)(e:Yo S d=yz src)(rd:RD X.K ρ H d v)(L:RelV v u):∃k a vs,u=.ref a/\SqH k X.K H a vs/\SrcK X.K ρ H src k a:=by
 cases d with
 |tup xs=>have e':yz (Src.con xs)=yz src:=e;cases e';simp only[RD]at rd;obtain⟨a,vs,rfl,h1,h2⟩:=rd;cases L;exact⟨yw,a,vs,rfl,h1,vs,h1,h2⟩|ref n=>
  cases J:Xc S n with
  |none=>simp[Yo,J]at e|some xs=>simp only[Yo,J,V7,Vq]at e;subst e;obtain⟨a,vs,k1,k2,k3⟩:=I.list J;simp only[RD]at rd;obtain⟨a',rfl,Y⟩:=rd;rw[k1]at Y;cases Y;cases L;exact⟨yx,a,vs,rfl,.of k2,k1⟩
 |_=>cases e
theorem X4w (hg:Gl X "enumerate") (hm:X.mg "enumerate"=yy) (ha:DA X (a::es) g) (hs:Uk (a::es) X.env=(yw,eval a X.env)::Uk es X.env) (af:(Vb2 pos (Uk es X.env)).any (·.1)=yw):
  DI X (.Tuple ts x0 tp) (.Call (.Name "enumerate" p) (a::es) [] pos) (λenv S=>(g env S).bind λxs S=>match xs with
   |[x]=>match Yo S x with
    |some s=>.ok (.enm s) S|none=>.bad
   |_=>.bad):=by
 intro pc s σ H ρ S env E I L hE;dsimp only at L hE ⊢;refine Call_ (Xaz I.inv hg hm (u:=.type "enumerate") (by decide+kernel) (Va9 ?_ hs af));cases q:g env S with
 |bad=>rw[q]at L;cases L rfl|ex n S1=>rw[q]at hE;exact ha.ex I q λx s' z=>hE x s' ⟨n,S1,rfl,z⟩|ok ds S1=>
  rw[q]at L;simp only[Rk0]at L ⊢;refine ha.ok I q λus s1 vs H1 ac Y rv rd ab=>?_;match ds,rd,L with
  |[],rd,L=>cases L rfl|_::_::_,rd,L=>cases L rfl|[x],rd,L=>
   cases e1:Yo S1 x with
   |none=>simp only[e1]at L;cases L rfl|some sx=>
    simp only[RDs]at rd;obtain⟨v1,r1,rfl,ae,rfl⟩:=rd;cases rv with
    |cons q1 q2=>
     cases q2;obtain⟨k1,b1,w1,rfl,m1,c1⟩:=X85 Y e1 ae q1;obtain⟨ah,_,p1⟩:=Xi1 Y.inv m1;refine Xpe p1 λh' ns kp=>by
      refine Xg6 ns.eo ?_;have J:Inv X pc σ H1 {s1 with heap:=h' }:=Y.inv.kept (t':=s1.toks) kp;refine⟨.enm sx,S1,_,[s1.heap.objs.size+1,s1.heap.objs.size],_,_,H1,ac,by simp only[e1],rfl,J,X0i (λz=>by have z':(_:Nat)=_:=z;omega),ns,λb hb=>?_,.enm c1,Y.sr,ab⟩;have aa:s1.heap.objs.size<=b:=by simp only[V2,Vai,or_false]at hb;rcases hb with z|z<;>(have z':(_:Nat)=_:=z;omega)
      exact Y.inv.fpOk aa (Y.inv.hok.fresh aa)
theorem DSs.ok{st:LM}{na:Bool}{g:En->Sto->R Fl}{Q:Flow->Vc->Prop}(h:DSs X st na g)(I:S0 X pc σ H s ρ S env)(r:g env S=.ok x S')(J:∀fl s',FlP X pc σ ρ H na S' s' x fl->Q fl s'):
  Vi (Vj X.prog X.w) X.A (execs st X.env) Q E s:=by
 refine Vp (h pc s σ H ρ S env I (by rw[r];exact λz=>nomatch z)) (λfl s' z=>?_) λx s' z=>?_;·obtain⟨y,S1,e,z⟩:=z;rw[r]at e;cases e;exact J fl s' z
 ·obtain⟨n,S1,_,e,_⟩:=z;rw[r]at e;cases e
theorem S0.rep(I:S0 X pc σ H s ρ S env)(J:Inv X pl σ H s):S0 X pl σ H s ρ S env:=⟨J,I.sr,I.er⟩
theorem X4x{pl:LA}{σ L:L2.St}{ρ ρ':LR}{H H':Hp}{s:Vc}{x:Vb}{n:Nat}{r:R Fl}(ae:X.stack=X.env::X.outer)(hf:X.env.frame=yz X.env.locals)(st:Stp X.K ρ ρ' H H')(h:XPd X (pc++pl) L ρ' H' n S' x s)(e:r=.ex n S'):
  notedBy (Vj X.prog X.w) X.A X.env (cameBackBy (Vj X.prog X.w) X.A X.env (ExS X pc σ ρ H yw r)) x s:=by
 obtain⟨H2,ab,a,c,J,rfl,hn,hc,sr,aa,fl⟩:=h.pre st;obtain⟨C,_,ha⟩:=(show ∃C,Y9 X.K c=yz C/\H2 a=yz (.ext (ExcO C a)) from sr.ob n a _ hn hc);have J':Inv X pc L H2 s:=J.pins_of λp hp=>J.pin p (Ut _ (Vbd _ hp));have ac:Fly X pc H2 a s.heap:=by
  rcases fl with fl|⟨f,hf,tr⟩;·exact .inl fl
  ·exact .inr ⟨f,hf,tr.imp λT ⟨h1,h2⟩=>⟨h1,λp hp=>h2 p (by
    rcases Uf.mp hp with z|z;·exact Vbd _ z
    ·exact Ut _ (Vbd _ z))⟩⟩
 refine Xg4 J' ae hf ha ac λl h2 a0 hid Y hh up=>?_;obtain⟨k1,k2,k3,oe,vs,T,oT,ts,t1,⟨t2,t3⟩,t4,t5,t6,t7,t8,t9,t10⟩:=hh;have J2:Inv X pc L H2 {s with heap:=h2}:=Inv.fly J' ha hid Y k1 up ⟨oe,vs,a0,t1,t2,t4,t3,(Vdp.mp t5).1⟩;have nT:T ∉ frs X.stack:=λhm=>by obtain⟨_,o,e,nd⟩:=J2.stack.mem hm;have e':h2.get? T=yz o:=e;rw[t8]at e';cases e';exact nd ts t9
 have hT:∀o,s.heap.get? T=yz o->T∈l:=λo e=>by
  by_cases hm:T∈l;·exact hm
  ·rw[Vd7 l e hm]at t6;cases t6
 have nw:Xi0 X pc T:=by
  cases q:s.heap.get? T with
  |some o=>exact Y T (hT o q) t7 nT|none=>
   refine⟨?_,λp hp z=>?_⟩
   ·by_cases hx:T∈X.ex;·exact .inl hx
    ·cases w:X.s₀.heap.get? T with
     |none=>exact .inr rfl|some o=>obtain⟨o',e⟩:=J'.base.there T o w hx;rw[q]at e;cases e
   have:=(J'.pin p hp).1;rw[z,q]at this;cases this
 have hH:H2 T=none:=by
  cases q:H2 T with
  |none=>rfl|some u=>
   obtain⟨o',e1⟩:=Xb3 (J'.hok T u q);rcases hid.of T (hT o' e1) with z|z|⟨z,_⟩;·exact aB0 z t7
   ·exact aB0 z nT
   rw[z]at q;cases q
 have fin:ExS X pc σ ρ H yw r (.ref a) {s with heap:=h2}:=
  ⟨n,S',L,e,(λz=>nomatch z),H2,ab,a,c,J2,rfl,hn,hc,sr,aa,.inr ⟨_,.inr rfl,oe,vs,T,oT,ts,t1,t4,t5,nw,t7,hH,t8,t9,t10⟩⟩
 show Vi _ _ (do {if (<-field (.ref a) 1) == .none then {unsupported _};setFlight (.ref a) X.env.frame}) _ _ _;refine Va (Vaj (s:={s with heap:=h2}) t1 t4 t5 ?_);rw[iN0 (show ¬ ((Vcd T==Vbz)=yx) from by simp)];have step:Vi (Vj X.prog X.w) X.A (setFlight (.ref a) X.env.frame) (λ_ s2=>ExS X pc σ ρ H yw r (.ref a) s2) (ExS X pc σ ρ H yw r) {s with heap:=h2}:=by rw[hf];unfold setFlight;refine Va (Vaj (s:={s with heap:=h2}) t1 t4 t5 ?_);rw[iP0 (show(Vcd T != Vbz)=yx from by simp)];refine wpAny_setField (s:={s with heap:=h2}) t8 t9 (Vdp.mp t10).1 ?_;rw[show((yz X.env.locals).elim Vbz λf=>Vce f)=Vce X.env.locals from rfl,Heap.update_setField_same h2 T oT ts 3 _ t8 t9 t10];exact fin
 first
  |exact Va (Vh step)|exact step
theorem X4y(az:X.stack=X.env::X.outer)(hf:X.env.frame=yz X.env.locals)(hc:X.calm=yx)(hi:DI X tg iter fi)(hg:DG X tg t)(hb:DSs X body na g)(hs:∀x,Vbm iter X.env x=pure x):
  DS X (.For tg iter body [] pos) yw (λenv S=>(fi env S).bind λsrc S=>Xz src.get t g (src.most S+1) 0 env S):=by
 intro pc s σ H ρ S env I nb;dsimp only at nb ⊢;cases q:fi env S with
 |bad=>rw[q]at nb;cases nb rfl|ex n S1=>
  refine wpAny_For (Vp (hi pc s σ H ρ S env _ I (by rw[q];exact λz=>nomatch z) λx s' z=>?_) (λv s1 h1=>Vp h1 (λax s2 h2=>?_) λ_ _ z=>z) λ_ _ z=>z) hs;·rw[q]at z;obtain⟨m,S2,e,z⟩:=z;cases e;exact .of .refl z rfl
  ·obtain⟨src,S2,_,_,_,_,_,_,e,_⟩:=h2;rw[q]at e;cases e|ok src S1=>
  rw[q]at nb;simp only[Rk0]at nb ⊢;refine wpAny_For (Vp (hi pc s σ H ρ S env (ExS X pc σ ρ H yw (Xz src.get t g (src.most S1+1) 0 env S1)) I (by rw[q];exact λz=>nomatch z) λx s' z=>?_) (λv s1 h1=>Vp h1 (λax s2 h2=>?_) λ_ _ z=>z) λ_ _ z=>z) hs;·rw[q]at z;obtain⟨m,S2,e,z⟩:=z;cases e
  ·obtain⟨a0,S2,it,fp,tn,J,H2,am,e1,rfl,I2,T,t0,f2,ao,al,ak⟩:=h2;rw[q]at e1;cases e1;have ah:∀ {H':Hp},(∀b∈fp,H' b=yy)->∀b∈fp,Xag X pc H' b:=λhn b hb=>⟨hn b hb,(f2 b hb).2⟩;generalize ay:Xz src.get t g (src.most S1+1) 0 env S1=r0;refine codeAny_forLoop_any (λn s'=>∃i aj H' ρ' S' Y,S0 X pc aj H' s' ρ' S' Y/\tn i s'.heap/\(∀b∈fp,H' b=yy)/\SrcR X.K ρ' H' src J/\Stp X.K ρ ρ' H H'/\Xz src.get t g n i Y S'≠.bad/\Xz src.get t g n i Y S'=r0)
    ?_ (src.most S1+1) ⟨0,σ,H2,am,S1,env,I.step I2 al ak,t0,λb hb=>(f2 b hb).1,ao,ak,nb,ay⟩
   rintro n s3 ⟨i,σ3,H3,ρ3,S3,env3,I3,t3,fr3,sr3,st3,nb3,eq3⟩;cases n with
   |zero=>cases nb3 rfl|succ n=>
    simp only[Xz]at nb3;cases g1:src.get S3 i with
    |none=>rw[g1]at nb3;cases nb3 rfl|some o=>
     rw[g1]at nb3;cases o with
     |none=>refine thn (T.done X rfl rfl rfl hc i pc s3 σ3 H3 _ I3.inv (ah fr3) t3 (sr3.stop I3 g1)) λr s4 zz=>?_;obtain⟨hr,I4⟩:=zz;subst hr;exact Vgx ⟨.nx env3,S3,by rw[<-eq3];simp only[Xz,g1],rfl,σ3,H3,ρ3,⟨I4,I3.sr,I3.er⟩,st3,λz=>nomatch z⟩|some d=>
      dsimp only at nb3;obtain⟨go,yl⟩:=sr3.go I3 g1;refine thn (T.item X rfl rfl rfl hc i pc s3 σ3 H3 _ I3.inv (ah fr3) t3 go) λr s4 zz=>?_;obtain⟨u,hr,h4⟩:=zz;subst hr;refine thn h4 λ_ s5 zz=>?_;obtain⟨x,H5,I5,r5,y5,t5,an⟩:=zz;obtain⟨ap,af,ar⟩:=yl x H5 y5;have au:=I5.pinned (ah an) (T.obj _ _ t5);cases e6:Xk t d env3 with
      |none=>rw[e6]at nb3;cases nb3 rfl|some ai=>
       rw[e6]at nb3;dsimp only at nb3;refine hg (pc++Xbi fp s5.heap) s5 σ3 H5 ρ3 S3 env3 d x u ai _ _ ⟨au,ap,I3.er.mono af⟩ e6 ar r5 λs6 a1 I6=>?_;have L:=eq3;simp only[Xz,g1,e6]at L;cases e7:g ai S3 with
       |bad=>rw[e7]at nb3;cases nb3 rfl|ex m S7=>
        rw[e7]at L;refine Vp (hb _ _ _ _ _ _ _ I6 (by rw[e7];exact λz=>nomatch z)) (λfl s7 z7=>?_) λx7 s7 z7=>?_;·obtain⟨_,_,e,_⟩:=z7;rw[e7]at e;cases e
        ·obtain⟨m',S8,ab,e,_,z⟩:=z7;rw[e7]at e;cases e;exact X4x az hf (st3.trans af) z L.symm|ok x7 S7=>
        rw[e7]at nb3 L;refine hb.ok I6 e7 λfl s7 z7=>?_;have again:∀ {ab:L2.St} {H7:Hp} {aa:LR} {ae:En},S0 X (pc++Xbi fp s5.heap) ab H7 s7 aa S7 ae->Stp X.K ρ3 aa H5 H7->Xz src.get t g n (i+1) ae S7≠.bad->Xz src.get t g n (i+1) ae S7=r0 ->
          ∃m,m<n+1/\∃i aj H' ρ' S' Y,S0 X pc aj H' s7 ρ' S' Y/\tn i s7.heap/\(∀b∈fp,H' b=yy)/\SrcR X.K ρ' H' src J/\Stp X.K ρ ρ' H H'/\Xz src.get t g m i Y S'≠.bad/\Xz src.get t g m i Y S'=r0:=
         λ{ab H7 aa ae} I7 ac nb7 eq7=>by refine⟨n,Vbu _,i+1,ab,H7,aa,S7,ae,I7.rep I7.inv.unpinned,T.keep _ _ _ t5 λb hb o e=>(I7.inv.pin (b,o) (Ut _ (Ut _ (Xch hb e)))).1,λb hb=>?_,sr3.mono (af.trans ac),st3.trans (af.trans ac),nb7,eq7⟩;obtain⟨o,e,_⟩:=T.obj _ _ t5 b hb;exact(I7.inv.pin (b,o) (Ut _ (Ut _ (Xch hb e)))).2.1
        cases x7 with
        |nx e=>obtain⟨rfl,ab,H7,aa,I7,ac,_⟩:=z7;exact again I7 ac nb3 L|brk e=>obtain⟨rfl,ab,H7,aa,I7,ac⟩:=z7;exact⟨.nx e,S7,L.symm,rfl,ab,H7,aa,I7.rep I7.inv.unpinned,st3.trans (af.trans ac),λz=>nomatch z⟩|rt d'=>obtain⟨u',v',ab,H7,aa,rfl,I7,aw,av,aq,ac⟩:=z7;exact⟨.rt d',S7,L.symm,u',v',ab,H7,aa,rfl,I7.unpinned,aw,av,aq,st3.trans (af.trans ac)⟩
end
theorem Xec(env:Va2)(P:Str->Addr->Prop):∀(names:List (Str×Ven)) (cs:List (Str×Addr)),(∀x∈names,x.2=.free->∃c,env.cells.lookup x.1=yz c/\P x.1 c)->(∀x c,cs.lookup x=yz c->P x c) ->
  ∃Y,(forIn names cs λ(x:Str×Ven) (r:List (Str×Addr))=>(match x with
   | (name,kind)=>if (kind==Vgi)=yx then do
     let a <- cellOf env name
     pure (Vdi ((name,a)::r))
    else pure (Vdi r):Sem (ForInStep (List (Str×Addr)))))=(pure Y:Sem (List (Str×Addr)))/\(∀x c,Y.lookup x=yz c->P x c)/\(∀x c,cs.lookup x=yz c->∃c',Y.lookup x=yz c')/\∀x∈names,x.2=.free->∃c,Y.lookup x.1=yz c
 |[],cs,_,hc=>⟨cs,rfl,hc,λx c h=>⟨c,h⟩,λ_ h=>nomatch h⟩| (n,k)::r,cs,hf,hc=>by
  by_cases hk:k=.free
  ·subst hk
   obtain⟨c,aa,ac⟩:=hf (n,.free) U3 rfl;obtain⟨Y,e,h1,h2,h3⟩:=Xec env P r ((n,c)::cs) (λx J=>hf x (Uv _ J)) (λx d h=>by
    rw[Vad]at h;by_cases J:x==n;·rw[J]at h;cases h;rw[eq_of_beq J];exact ac
    ·have ab:(x==n)=false:=by simpa using J
     rw[ab]at h;exact hc x d h)
   refine⟨Y,?_,h1,λx d h=>?_,λx J L=>?_⟩;·rw[Vgy];simp only[beq_self_eq_true,if_true,cellOf,aa,pure_bind];exact e
   ·by_cases J:x==n;·exact h2 x c (by rw[Vad,J])
    ·have ab:(x==n)=false:=by simpa using J
     exact h2 x d (by rw[Vad,ab];exact h)
   rcases V2.mp J with rfl|J;·exact h2 n c (by rw[Vad,beq_self_eq_true])
   ·exact h3 x J L
  obtain⟨Y,e,h1,h2,h3⟩:=Xec env P r cs (λx J=>hf x (Uv _ J)) hc;refine⟨Y,?_,h1,h2,λx J L=>?_⟩
  ·rw[Vgy];have ae:(k==Vgi)=false:=by simpa using hk
   simp only[ae,Ui,if_false,pure_bind];exact e
  rcases V2.mp J with rfl|J;·exact aB0 L hk
  ·exact h3 x J L
theorem Xhz(hf:∀x∈scope.names,x.2=.free->∃c,env.cells.lookup x.1=yz c):
  ∃J,closureFor scope env=pure J/\(∀x c,J.lookup x=yz c->env.cells.lookup x=yz c/\(x,.free)∈scope.names)/\∀x∈scope.names,x.2=.free->∃c,J.lookup x.1=yz c:=by
 obtain⟨J,e,h1,_,Y⟩:=Xec env (λx c=>env.cells.lookup x=yz c/\(x,.free)∈scope.names) scope.names [] (λx L hk=>let ⟨c,hc⟩:=hf x L hk;⟨c,hc,hc,hk▸L⟩) (λx c h=>by simp at h);refine⟨J,?_,h1,Y⟩;unfold closureFor;simp only[bind_pure];exact e
noncomputable abbrev Xq2(ifs:LX)(env:Va2):Sem Bool:=forIn ifs yx λc r=>if r=yx then do let ok <- isTrue c env (eval c env);pure (Vdi ok) else pure (Vdi r)
noncomputable def cE(k:Bool)(elt:Expr)(gens:List Vbj)(scope:Ur)(pos:Pos):Expr:=match k with
 |false=>.ListComp elt gens scope pos|true=>.SetComp elt gens scope pos
noncomputable def aN(k:Bool):String:=match k with
 |false => "list.append"|true => "set.add"
def Xmk(k:Bool)(M:Model)(A:Uy)(elt:Expr)(gens:List Vbj)(scope:Ur)(pos:Pos)(d:Nat)(acc:Vb)(env:Va2)(P:Vc->Prop)(s:Vc):Prop:=
 match gens[d+1]? with
 |none=>Vi M A (eval elt env) (λx s4=>Vi M A (call (.builtin (aN k)) [acc,x]) (λ_ J=>P J) (λ_ _=>False) s4) (λ_ _=>False) s|some L=>L.is_async=0/\(∀x,Vbm L.iter env x=pure x)/\Vi M A (eval L.iter env) (λx s4=>Vi M A (pyIter x) (λY J=>Vdh M A (.compStart (cE k elt gens scope pos) (d+1) Y acc env) (λr s6=>match r with|.ok _=>P s6|.error _=>False) J) (λ_ _=>False) s4) (λ_ _=>False) s
section
variable{prog:Ua}{w:Uq}{A:Uy}{s:Vc}{R:Result->Vc->Prop}
theorem Xta(hg:gens[d]?=yz ⟨target,iter,ifs,0⟩)(hm:A.mark yy=A)(I:Nat->Vc->Prop)
  (turn:∀n s,I n s->Vi (Vj prog w) A (pyNext it) (λr s₁=>match r with
   |none=>R (.ok .next) s₁
   |some v=>Vi (Vj prog w) A (Vea target it v) (λ_ ac=>Vi (Vj prog w) A (assign target env v) (λ_ ai=>Vi (Vj prog w) A (Xq2 ifs env) (λok ab=>if ok=yx then Xmk k (Vj prog w) A elt gens scope pos d acc env (λaa=>∃m,m<n/\I m aa) ab else ∃m,m<n/\I m ab) (λ_ _=>False) ai) (λ_ _=>False) ac) (λ_ _=>False) s₁) (λ_ _=>False) s)
  (n:Nat) (h:I n s):Vdh (Vj prog w) A (.compLoop (cE k elt gens scope pos) d it acc env) R s:=by
 cases k
 all_goals
  refine codeAny_loop rfl I (λn s hI=>?_) n h;show Vi _ A ((compTurn _ d it acc env).onRaise (λx=>do noteFrame x env;theTreesLotGoes x)) _ _ s;refine wpAny_noted (Vp (E:=λ_ _=>False) ?_ (λ_ _ z=>z) λ_ _ z=>z.elim);unfold compTurn;simp only[cE,hg,show((0:Nat) != 0)=yw from rfl,Ui,if_false];refine Va (Vdr (Va (Vp (turn n s hI) (λr s₁ af=>?_) λ_ _ z=>z)));cases r with
  |none=>exact Vh af|some v=>
   refine Va (Vp af (λ_ ac aj=>Va (Vp aj (λ_ ai ak=>Va (Vp ak (λok ab J=>?_) λ_ _ z=>z)) λ_ _ z=>z)) λ_ _ z=>z);cases ok with
   |false=>rw[iN0 Uu]at J;simp only[Ui,if_false];exact Vh ⟨rfl,J⟩|true=>
    rw[iP0 rfl]at J;simp only[if_true];unfold Xmk at J;cases hq:gens[d+1]? with
    |none=>
     rw[hq]at J;simp only[bind_assoc,pure_bind]
     first
      |exact Va (Vp J (λx ah L=>Va (Vp L (λ_ aa Y=>Vh ⟨rfl,Y⟩) λ_ _ z=>z)) λ_ _ z=>z)
      |exact Va (Vp J (λx ah L=>Va (Vdr (Va (Vp L (λ_ aa Y=>Vh ⟨rfl,Y⟩) λ_ _ z=>z)))) λ_ _ z=>z)
    |some g'=>
     rw[hq]at J;obtain⟨ha,hf,J⟩:=J;simp only[ha,show((0:Nat) != 0)=yw from rfl,Ui,if_false];refine Va (Vp J (λx ah L=>Va (Vdr (Va (wpAny_of_eq (hf x) (Va (Vas (Vp L (λam aa Y=>?_) λ_ _ z=>z))))))) λ_ _ z=>z);refine Va (wpAny_runOwn ?_);rw[hm];refine Vfs Y λr al ae=>?_;cases r with
     |ok f=>exact Vh ⟨rfl,ae⟩|error e=>exact ae.elim
theorem Xq3(hg:gens[d]?=yz ⟨target,iter,ifs,0⟩)
  (h0:Vdh (Vj prog w) A (.compLoop (cE k elt gens scope pos) d it acc env) R s)
  (h:Vi (Vj prog w) A (pyIter it) (λit' s'=>Vdh (Vj prog w) A (.compLoop (cE k elt gens scope pos) d it' acc env) R s') (λ_ _=>False) s):
  Vdh (Vj prog w) A (.compStart (cE k elt gens scope pos) d it acc env) R s:=by
 cases k
 all_goals
  refine codeAny_of_tree ?_;show Vi _ _ ((compStart _ d it acc env).onRaise (λx=>do noteFrame x env;standAt theWindowsPlace)) _ _ s;refine wpAny_notedAt ?_;unfold compStart;simp only[cE,clausesOf,hg,Option.elim,show((0:Nat) != 0)=yw from rfl,Ui,if_false];refine Va (wpAny_askSetting (wpAny_ite ?_));split
  ·first
    |exact Va (Vh (Vh (And.intro rfl h0)))|exact Vh (And.intro rfl h0)
  ·refine Va (Vbf ?_);refine Va (Vdr (Va (Vp h (λit' s' h'=>Vh (And.intro rfl h')) λ_ _ x=>x.elim)))
end
section
variable{X:Cx}{pc:LA}{σ:L2.St}{H:Hp}{s:Vc}{ρ:LR}{S S':Sto}{env:En}{Q:VP}{E:VP}
def DTs(X:Cx)(ifs:LX)(f:En->Sto->R Bool):Prop:=
 ∀(pc:LA) (s:Vc) (σ:L2.St) (H:Hp) (ρ:LR) (S:Sto) (env:En) (b:Bool) (S':Sto) (Q:Bool->Vc->Prop) (E:VP),S0 X pc σ H s ρ S env->f env S=.ok b S' ->
  (∀s' H' ρ',S0 X pc σ H' s' ρ' S' env->Stp X.K ρ ρ' H H'->Q b s')->Vi (Vj X.prog X.w) X.A (Xq2 ifs X.env) Q E s
theorem Xgu{M:Model}{A:Uy}{env:Va2}{s:Vc}{Q:Bool->Vc->Prop}{E:VP}(h:Q yw s):∀ifs:LX,
  Vi M A (forIn ifs yw λc r=>if r=yx then do let ok <- isTrue c env (eval c env);pure (Vdi ok) else pure (Vdi r)) Q E s
 |[]=>Vh h|c::r=>by rw[Vgy];simp only[Ui,if_false];exact Va (Vh (Xgu h r))
theorem X0m:DTs X [] (λ_ S=>.ok yx S):=by intro pc s σ H ρ S env b S' Q E I h J;cases h;exact Vh (J s H ρ I .refl)
theorem Xwb{Y:LX}{fc:En->Sto->R D}{g:En->Sto->R Bool}(hc:DT X c (λenv S=>tst (fc env S)))(hr:DTs X Y g):
  DTs X (c::Y) (λenv S=>(fc env S).bind λx S=>match Xf S x with|some yx=>g env S|some yw=>.ok yw S|none=>.bad):=by
 intro pc s σ H ρ S env b S' Q E I h hQ;dsimp only at h;cases q:fc env S with
 |bad=>rw[q]at h;cases h|ex n S1=>rw[q]at h;cases h|ok x S1=>
  rw[q]at h;simp only[Rk0]at h;unfold Xq2;rw[Vgy];simp only[if_true];cases t:Xf S1 x with
  |none=>rw[t]at h;cases h|some r=>
   rw[t]at h;refine Va (Va (hc.ok I (by simp only[q];exact Xbl t) λs2 H2 L I2 J=>Vh ?_));cases r with
   |true=>exact hr pc s2 σ H2 L S1 env b S' Q E I2 h λs3 H3 ab I3 aa=>hQ s3 H3 ab I3 (J.trans aa)|false=>cases h;exact Xgu (hQ s2 H2 L I2 J) Y
theorem Mon.trans{K:Ve}{ρ' ρ'':LR}{H' H'':Hp}(x:Mon K ρ ρ' H H')(y:Mon K ρ' ρ'' H' H''):Mon K ρ ρ'' H H'':=
 ⟨λn a h=>y.pre n a (x.pre n a h),λa xs h=>y.tup a xs (x.tup a xs h),λa o u h=>y.frz a o u (x.frz a o u h)⟩
theorem Xq4:∀(J:LN) (ds:LD) (env:En),i ∉ J->((J.zip ds).foldl (λe p=>e.set p.1 (yz p.2)) env)[i]?=env[i]?:=by
 intro J;induction J with
 |nil=>intro ds env _;simp|cons j Y ih=>
  intro ds env L;cases ds with
  |nil=>simp|cons d ds=>simp only[Vfv,Vgs];rw[ih ds _ (λz=>L (Uv _ z)),Vao (λz=>L (by simp[z]))]
theorem Xol{t:Tg}{d:D}{env J:En}(h:Xk t d env=yz J){i:Nat}(hi:i ∉ slots t):J[i]?=env[i]?:=by
 cases t with
 |var j=>simp only[Xk,Vq]at h;subst h;have:j≠i:=λz=>hi (by simp[slots,z]);rw[Vao this]|tup L=>
  cases d with
  |tup ds=>
   simp only[Xk]at h;split at h;·cases h;exact Xq4 L ds env hi
   ·cases h|_=>cases h
def Xi2:Type:=LR->Hp->LD->Prop
def Xli(K:Ve)(Da:Addr)(AR:Xi2):Prop:=∀(ρ ρ':LR) (H H':Hp) (J:LD),AR ρ H J->Da ∉ ρ->Stp K ρ ρ' H H'->Da ∉ ρ'/\AR ρ' H' J
noncomputable def LstA(K:Ve)(Da:Addr):Xi2:=fun ρ H J=>∃vs,H Da=yz (.lst vs)/\RDs K ρ H J vs
def Xc9(k:Bool)(AR:Xi2)(Y:Cx)(Da:Addr)(elt:Expr)(gens:List Vbj)(scope:Ur)(cpos:Pos)(d:Nat)(body:En->LD->Sto->R LD):Prop:=
 ∀(pc:LA) (s:Vc) (σ:L2.St) (H:Hp) (ρ:LR) (S S':Sto) (env:En) (L J:LD) (H0:Hp) (ρ0:LR) (P:Vc->Prop),S0 Y pc σ H s ρ S env->Da ∉ ρ->AR ρ H L->H0 Da=yy->Stp Y.K ρ0 ρ H0 H ->
  body env L S=.ok J S'->(∀s' aa H' ρ',S0 Y pc aa H' s' ρ' S' env->Da ∉ ρ'->AR ρ' H' J->Stp Y.K ρ0 ρ' H0 H'->Mon Y.K ρ ρ' H H'->P s') ->
  Xmk k (Vj Y.prog Y.w) Y.A elt gens scope cpos d (.ref Da) Y.env P s
theorem Stp.out{K:Ve}{ρ':LR}{H':Hp}{Da:Addr}{o:HO}(st:Stp K ρ ρ' H H')(L:H Da=yz o)(J:Da ∉ ρ):Da ∉ ρ'/\H' Da=yz o:=
 ⟨λY=>(st.new Da Y).elim J (λz=>by rw[L]at z;cases z),st.keep Da o L J⟩
theorem LstA.ok{K:Ve}{Da:Addr}:Xli K Da (LstA K Da):=fun ρ ρ' H H' acc ⟨vs,h,r⟩ hn st=>⟨(st.out h hn).1,vs,(st.out h hn).2,r.mono st⟩
theorem Xtb{k:Bool}{AR:Xi2}{Y:Cx}{Da it:Addr}{elt tg iter:Expr}{gens:List Vbj}{ifs:LX}{scope:Ur}{cpos:Pos}{d:Nat}{t:Tg}{src:Src}{J:L2.It}{fp:LR}{tn:Nat->Heap->Prop}{tf:En->Sto->R Bool}{body:En->LD->Sto->R (LD)}
  {pc:LA} {σ:L2.St} {H H0:Hp} {s:Vc} {ρ ρ0:LR} {S Sf:Sto} {env:En} {acc ae:LD} {P:Vc->Prop} (hA:Xli Y.K Da AR) (hc:Y.calm=yx) (hg:gens[d]?=yz ⟨tg,iter,ifs,0⟩)
  (T:Turn Y.prog Y.w Y.K tg J fp it tn) (hG:DG Y tg t) (hT:DTs Y ifs tf) (hB:Xc9 k AR Y Da elt gens scope cpos d body) (h0:H0 Da=yy)
  (I:S0 Y pc σ H s ρ S env) (t0:tn 0 s.heap) (f0:∀b∈fp,Xag Y pc H b) (sr:SrcR Y.K ρ H src J) (hn:Da ∉ ρ) (ha:AR ρ H acc) (st0:Stp Y.K ρ0 ρ H0 H)
  (hr:X9 src.get t (Yg tf body) (src.most S+1) 0 env acc S=.ok ae Sf)
  (hP:∀s' ai H' ρ' L,S0 Y pc ai H' s' ρ' Sf L->(∀i,i ∉ slots t->L[i]?=env[i]?)->Da ∉ ρ'->AR ρ' H' ae->Stp Y.K ρ0 ρ' H0 H'->Mon Y.K ρ ρ' H H'->P s'):
  Vdh (Vj Y.prog Y.w) Y.A (.compStart (cE k elt gens scope cpos) d (.ref it) (.ref Da) Y.env) (λr s'=>match r with|.ok _=>P s'|.error _=>False) s:=by
 have al:Vdh (Vj Y.prog Y.w) Y.A (.compLoop (cE k elt gens scope cpos) d (.ref it) (.ref Da) Y.env) (λr s'=>match r with|.ok _=>P s'|.error _=>False) s:=by
  have aj:∀ {H':Hp},(∀b∈fp,H' b=yy)->∀b∈fp,Xag Y pc H' b:=λhn b hb=>⟨hn b hb,(f0 b hb).2⟩
  refine Xta hg rfl (λn s'=>∃i ai H' ρ' S' L ab,S0 Y pc ai H' s' ρ' S' L/\tn i s'.heap/\(∀b∈fp,H' b=yy)/\SrcR Y.K ρ' H' src J/\Mon Y.K ρ ρ' H H'/\Stp Y.K ρ0 ρ' H0 H'/\Da ∉ ρ'/\AR ρ' H' ab /\
   (∀i,i ∉ slots t->L[i]?=env[i]?)/\X9 src.get t (Yg tf body) n i L ab S'=.ok ae Sf) ?_ (src.most S+1) ⟨0,σ,H,ρ,S,env,acc,I,t0,λb hb=>(f0 b hb).1,sr,Stp.refl.toMon,st0,hn,ha,λ_ _=>rfl,hr⟩
  rintro n s3 ⟨i,σ3,H3,ρ3,S3,env3,acc3,I3,t3,fr3,sr3,mo3,st3,hn3,ha3,hs3,eq3⟩;cases n with
  |zero=>cases eq3|succ n=>
   simp only[X9]at eq3;cases g1:src.get S3 i with
   |none=>rw[g1]at eq3;cases eq3|some o=>
    rw[g1]at eq3;cases o with
    |none=>cases eq3;refine thn (T.done Y rfl rfl rfl hc i pc s3 σ3 H3 _ I3.inv (aj fr3) t3 (sr3.stop I3 g1)) λr s4 zz=>?_;obtain⟨hr,I4⟩:=zz;subst hr;exact hP s4 σ3 H3 ρ3 env3 ⟨I4,I3.sr,I3.er⟩ hs3 hn3 ha3 st3 mo3|some dd=>
     dsimp only at eq3;obtain⟨go,yl⟩:=sr3.go I3 g1;refine thn (T.item Y rfl rfl rfl hc i pc s3 σ3 H3 _ I3.inv (aj fr3) t3 go) λr s4 zz=>?_;obtain⟨u,hr,h4⟩:=zz;subst hr;refine thn h4 λ_ s5 zz=>?_;obtain⟨x,H5,I5,r5,y5,t5,aw⟩:=zz;obtain⟨az,af,a0⟩:=yl x H5 y5;have a1:=I5.pinned (aj aw) (T.obj _ _ t5);cases e6:Xk t dd env3 with
     |none=>rw[e6]at eq3;cases eq3|some aa=>
      rw[e6]at eq3;dsimp only at eq3;refine hG (pc++Xbi fp s5.heap) s5 σ3 H5 ρ3 S3 env3 dd x u aa _ _ ⟨a1,az,I3.er.mono af⟩ e6 a0 r5 λs6 ar I6=>?_;obtain⟨_,a2⟩:=hA _ _ _ _ _ ha3 hn3 af;cases e7:Yg tf body aa acc3 S3 with
      |bad=>rw[e7]at eq3;cases eq3|ex m S7=>rw[e7]at eq3;cases eq3|ok ak S7=>
       rw[e7]at eq3;dsimp only at eq3;have a4:∀i,i ∉ slots t->aa[i]?=env[i]?:=λi hi=>(Xol e6 hi).trans (hs3 i hi);have again:∀ {s7:Vc} {an:L2.St} {H7:Hp} {ac:LR},S0 Y (pc++Xbi fp s5.heap) an H7 s7 ac S7 aa->SrcR Y.K ac H7 src J->Mon Y.K ρ ac H H7->Stp Y.K ρ0 ac H0 H7->Da ∉ ac->AR ac H7 ak ->
         ∃m,m<n+1/\∃i ai H' ρ' S' L ab,S0 Y pc ai H' s7 ρ' S' L/\tn i s7.heap/\(∀b∈fp,H' b=yy)/\SrcR Y.K ρ' H' src J/\Mon Y.K ρ ρ' H H'/\Stp Y.K ρ0 ρ' H0 H'/\Da ∉ ρ'/\AR ρ' H' ab /\
          (∀i,i ∉ slots t->L[i]?=env[i]?)/\X9 src.get t (Yg tf body) m i L ab S'=.ok ae Sf:=λ{s7 an H7 ac} I7 sr7 mo7 st7 hn7 ha7=>by
        refine⟨n,Vbu _,i+1,an,H7,ac,S7,aa,ak,I7.rep I7.inv.unpinned,T.keep _ _ _ t5 λb hb o e=>(I7.inv.pin (b,o) (Ut _ (Ut _ (Xch hb e)))).1,λb hb=>?_,sr7,mo7,st7,hn7,ha7,a4,eq3⟩;obtain⟨o,e,_⟩:=T.obj _ _ t5 b hb;exact(I7.inv.pin (b,o) (Ut _ (Ut _ (Xch hb e)))).2.1
       unfold Yg at e7;cases e8:tf aa S3 with
       |bad=>rw[e8]at e7;cases e7|ex m S8=>rw[e8]at e7;cases e7|ok b8 S8=>
        rw[e8]at e7;simp only[Rk0]at e7;refine hT (pc++Xbi fp s5.heap) s6 ar H5 ρ3 S3 aa b8 S8 _ _ I6 e8 λs8 H8 av I8 ah=>?_;obtain⟨ap,au⟩:=hA _ _ _ _ _ a2 hn3 ah;have am:=st3.trans (af.trans ah);have aq:SrcR Y.K av H8 src J:=sr3.mono (af.trans ah);cases b8 with
        |false=>rw[iN0 Uu]at e7 ⊢;cases e7;exact again I8 aq (mo3.trans (af.trans ah).toMon) am ap au|true=>rw[iP0 rfl]at e7 ⊢;exact hB (pc++Xbi fp s5.heap) s8 ar H8 av S8 S7 aa acc3 ak H0 ρ0 _ I8 ap au h0 am e7 λs9 a6 H9 a5 I9 ax ay a3 ao=>again I9 (aq.mono' ao) ((mo3.trans (af.trans ah).toMon).trans ao) a3 ax ay
 exact Xq3 hg al (T.self Y.A 0 s _ _ t0 al)
theorem Xks(hg:gens[d+1]?=yy)(he:DE Y elt fe):
  Xc9 yw (LstA Y.K Da) Y Da elt gens scope cpos d (λenv acc S=>(fe env S).bind λy S=>if (ll acc)<big then .ok (acc++[y]) S else .bad):=by
 intro pc s σ H ρ S S' env acc af H0 ρ0 P I hn ⟨vs,hD,ra⟩ h0 st0 hb hP;unfold Xmk;rw[hg];dsimp only at hb ⊢;cases q:fe env S with
 |bad=>rw[q]at hb;cases hb|ex n S1=>rw[q]at hb;cases hb|ok y S1=>
  rw[q]at hb;simp only[Rk0]at hb;split at hb
  ·rename_i hz;cases hb;refine he.ok I q λu s1 v H1 ab I1 rv rd L=>?_;obtain⟨ac,aa⟩:=L.out hD hn;have ae:(ll vs)<V0:=by rw[<-ra.length];exact V8 hz Xew
   refine mtd (X:=Y) (Q':=λz H'=>z=.non/\H'=upd H1 Da (.lst (vs++[v]))) Xkl I1.inv (show RelV (.ref Da) (.ref Da) from rfl) (.cons rv .nil) ⟨Da,vs,v,rfl,rfl,aa,ae,rfl,rfl⟩ λw s2 z H2 J rz zz=>?_;obtain⟨e1,e2⟩:=zz;subst e1 e2;have mo:Mon Y.K ab ab H1 (upd H1 Da (.lst (vs++[v]))):=Mon.own aa;refine hP s2 σ _ ab ⟨J,I1.sr.own aa ac,I1.er.mono' mo⟩ ac ⟨vs++[v],Xp,(RDs.mono' mo _ _ (ra.mono L)).append (.cons (RD.mono' mo _ _ rd) .nil)⟩ ((st0.trans L).own h0 aa) ⟨λn a h=>L.pre n a h,λa xs h=>mo.tup a xs (L.tup a xs h),λa o u h=>mo.frz a o u (L.frz a o u h)⟩
  cases hb
theorem Xtc{k:Bool}{AR:Xi2}(hA:Xli Y.K Da AR)(hc:Y.calm=yx)
  (hg:gens[d+1]?=yz ⟨tg2,iter2,ifs2,0⟩) (hi:DI Y tg2 iter2 fi) (hs:∀x,Vbm iter2 Y.env x=pure x) (hG:DG Y tg2 t2) (hT:DTs Y ifs2 tf) (hB:Xc9 k AR Y Da elt gens scope cpos (d+1) body):
  Xc9 k AR Y Da elt gens scope cpos d (λenv acc S=>if Xev t2 env then (fi env S).bind λsrc S=>X9 src.get t2 (Yg tf body) (src.most S+1) 0 env acc S else .bad):=by
 intro pc s σ H ρ S S' env acc an H0 ρ0 P I hn ha h0 st0 hb hP;unfold Xmk;rw[hg];dsimp only at hb ⊢;split at hb
 ·rename_i ab;refine⟨rfl,hs,?_⟩;cases q:fi env S with
  |bad=>rw[q]at hb;cases hb|ex n S1=>rw[q]at hb;cases hb|ok src S1=>
   rw[q]at hb;simp only[Rk0]at hb;refine Vp (hi pc s σ H ρ S env (λ_ _=>False) I (by rw[q];exact λz=>nomatch z) λx s' z=>?_) (λv s1 h1=>Vp h1 (λar s2 h2=>?_) λ_ _ z=>z) λ_ _ z=>z;·rw[q]at z;obtain⟨m,S2,e,z⟩:=z;cases e
   ·obtain⟨ao,S2,it,fp,tn,J,H2,aq,e1,rfl,I2,T,t0,f2,ac,aa,L⟩:=h2;rw[q]at e1;cases e1;obtain⟨ak,ah⟩:=hA _ _ _ _ _ ha hn L;refine Xtb (ρ0:=ρ0) (H0:=H0) hA hc hg T hG hT hB h0 (I.step I2 aa L) t0 f2 ac ak ah (st0.trans L) hb λs' af H' ρ' ap I' ai ae al am aj=>?_;refine hP s' af H' ρ' ⟨I'.inv,I'.sr,⟨?_,λi d e=>?_⟩⟩ ae al am (L.toMon.trans aj);·have h1:=I.er.len;have h2:=I.inv.len;have h3:=I'.inv.len;omega
    ·by_cases hi:i∈slots t2;·have z:=Vab.mp ab i hi;rw[e]at z;cases z
     ·exact I'.er.val i d ((ai i hi).trans e)
 ·cases hb
end
noncomputable def hid(own:LS)(y:Str):Str:=if own.contains y then Val "0" ++ y else y
noncomputable def Xao(N own:LS):LS:=N.map (hid own)++own
structure ScOk(outer sc:Ur)(N own:LS):Prop where
 kind:sc.kind=.function
 okind:outer.kind=.function
 nd:(Xao N own).Nodup
 cel:∀y∈sc.names,y.2=.cell->y.1∈own
 apart:∀y∈sc.names,y.2=.free->y.1 ∉ own
 free:∀y∈sc.names,y.2=.free->outer.names.lookup y.1=yz .cell\/outer.names.lookup y.1=yz .free
 loc:∀y,sc.names.lookup y=yz .local->y∈own
 names:∀x∈sc.names,x.2=.local->sc.names.lookup x.1=yz .local
 hidn:∀y∈N,own.contains y=yx->sc.names.lookup (Val "0" ++ y)=yy
section
variable{X:Cx}{pc:LA}{σ:L2.St}{H:Hp}{s:Vc}{ρ:LR}{S:Sto}{env:En}{Q:VP}{E:VP}
noncomputable def blk(X:Cx)(pc:LA)(s:Vc)(H:Hp)(sc:Ur)(J:List (Str×Addr))(C:Addr)(own:LS)(fp:LR):Cx:=
 { X with N:=Xao X.N own,s₀:=s,H₀:=H,env:=compEnvC sc J C X.env,outer:=X.stack,stack:=X.stack,ex:=fp,fn:=λx=>own.contains x,pn:=X.pn++pc}
theorem Xci{names:List (Str×Ven)}(h:names.lookup x=yz k):(x,k)∈names:=Vb8 h
theorem Xom{J:List (Str×Addr)}(h:J.lookup x=yz c):(x,c)∈J:=Vb8 h
theorem Xbs(sc:Ur)(env:Va2)(x:Str):(relabel sc env).names.lookup x=(sc.names.lookup x).map λk=>if (k == .free&&env.scope.kind == .function&&env.kindOf x==yz .cell)=yx then .cell else k:=by
 unfold relabel;dsimp only;induction sc.names with
 |nil=>rfl|cons y r ih=>
  obtain⟨n,k⟩:=y;show List.lookup x ((if (k==Vgi&&env.scope.kind == .function&&env.kindOf n==yz .cell)=yx then (n,NameKind.cell) else (n,k))::_)=_;by_cases Y:x==n
  ·have e:=eq_of_beq Y;subst e;by_cases L:(k==Vgi&&env.scope.kind == .function&&env.kindOf x==yz .cell)=yx;·rw[iP0 L,Vad,beq_self_eq_true,Vad,beq_self_eq_true];exact congrArg yz (iP0 L).symm
   ·rw[iN0 L,Vad,beq_self_eq_true,Vad,beq_self_eq_true];exact congrArg yz (iN0 L).symm
  have J:(x==n)=false:=by simpa using Y
  by_cases L:(k==Vgi&&env.scope.kind == .function&&env.kindOf n==yz .cell)=yx;·rw[iP0 L,Vad,J,Vad,J];exact ih
  ·rw[iN0 L,Vad,J,Vad,J];exact ih
theorem X4z{own:LS}{cl:List (Str×Addr)}{fp:LR}{m:Str->OV}(so:ScOk X.env.scope sc X.N own)(I:Inv X pc σ H s)(hf:∀b∈fp,Xag X pc H b)
  (aa:∀x c,cl.lookup x=yz c->(x ∉ own/\X.env.cells.lookup x=yz c)\/(x∈own/\C<c/\s4.heap.IsCell c yy)) (am:∀x y c,cl.lookup x=yz c->cl.lookup y=yz c->x=y) (af:∀x,sc.names.lookup x=yz .cell\/sc.names.lookup x=yz .free->∃c,cl.lookup x=yz c)
  (ae:Da=s.heap.objs.size) (hC:C=s.heap.objs.size+1) (ap:s4.os=s.os) (ai:s4.gens=s.gens) (keep:∀b o,s.heap.get? b=yz o->s4.heap.get? b=yz o)
  (an:s4.heap.Ns C m) (aj:ObjOk X.prog X.w (upd H Da u) s4.heap Da u) (al:∀b∈fp,b<s.heap.objs.size):
  Inv (blk X pc s H sc cl C own fp) [] (σ++Vg (ll own) yy) (upd H Da u) s4:=by
 have hD:H Da=none:=by rw[ae];exact I.hok.fresh (Vf _)
 have au:H C=none:=by rw[hC];exact I.hok.fresh (Vff _)
 have av:C≠Da:=by rw[hC,ae];exact Vet (Vbu _)
 have L:∀b,b<s.heap.objs.size->b≠C/\b≠Da:=λb hb=>⟨by rw[hC];exact Up (Vcx hb),by rw[ae];exact Up hb⟩;have ac:∀x c,X.env.cells.lookup x=yz c->c<s.heap.objs.size:=λx c e=>by obtain⟨v,q⟩:=I.cell x c e;exact q.lt
 refine⟨⟨I.ok.mod,so.kind,I.ok.glob,I.ok.blt,?_,?_,?_,?_,I.ok.hd,I.ok.frames,.inl rfl,?_,I.bs,?_,?_,?_,I.stack,I.stkFree⟩,ap,?_,?_,?_,?_,?_,?_,?_,?_,?_⟩;·show s.heap.objs.size<=C;rw[hC];exact Vff _
 ·exact am
 ·intro x hx;have ab:(relabel sc X.env).names.lookup x=yz .cell\/(relabel sc X.env).names.lookup x=yz .free:=hx;rw[Xbs]at ab;cases e:sc.names.lookup x with
  |none=>rw[e]at ab;simp at ab|some k=>
   rw[e]at ab;have hk:k=.cell\/k=.free:=by
    rcases ab with h|h
    ·simp only[V7,Vq]at h;split at h;·rename_i hc;simp only[bA0,beq_iff_eq]at hc;exact .inr hc.1.1
     ·exact .inl h
    simp only[V7,Vq]at h;split at h;·cases h
    ·exact .inr h
   exact af x (hk.elim (λz=>.inl (z▸e)) λz=>.inr (z▸e))
 ·intro x c h e;have hx:x∈own:=by simpa using (show own.contains x=yx from h)
  rcases aa x c e with⟨z,_⟩|⟨_,z,_⟩;·exact aB0 hx z
  ·show s.heap.objs.size<=c;rw[hC]at z;exact Vd1 (Ves z)
 ·intro b hb;refine⟨(L b (al b hb)).1,λx c h=>?_⟩;rcases aa x c h with⟨_,z⟩|⟨_,z,_⟩;·exact(hf b hb).2.2.2.2.1 x c z
  ·rw[hC]at z;exact Vet (Nat.lt_trans (al b hb) (Ves z))
 ·exact V4 I.ok.bsz I.sz
 ·intro b o e hb;rcases (hf b hb).2.2.2.1 with z|z;·exact I.ok.noex b o e z
  ·exact aB0 (V8 (Vy e) (V4 I.ok.bsz z)) (Vcz _)
 ·intro b hb hm;rcases V2.mp (I.stkSub b hm) with z|z;·exact(hf b hb).2.1 z
  ·exact(hf b hb).2.2.1 z
 ·rw[ai];exact I.bare
 ·refine⟨λb o e _ _ _=>keep b o e,λb o e _ _ _=>⟨o.slots,keep b o e⟩,λb o e n _=>?_,λb o e _=>⟨o,keep b o e⟩,λb xs e=>?_,λb o u e=>?_,λb ps e=>?_⟩;·show upd H Da _ b=yy;rw[Xe (L b (Vy e)).2];exact n
  ·rw[Xe (Xj e hD)];exact e
  ·rw[Xe (Xj e hD)];exact e
  rw[Xe (Xj e hD)];exact e
 ·refine⟨m,an,λi x v h1 h2 h3=>?_⟩;have hi:i<X.N.length:=by
   by_cases hi:i < σ.length;·rw[I.len]at hi;exact hi
   ·rw[Us (by omega),Vc3]at h2;split at h2<;>cases h2
  have J:(Xao X.N own)[i]?=yz x:=h1;unfold Xao at J;rw[Vu (by simpa using hi),V6]at J;rw[Vu (by rw[I.len];exact hi)]at h2;cases ey:X.N[i]? with
  |none=>rw[ey]at J;cases J|some y=>
   rw[ey]at J;simp only[V7,Vq]at J;have ar:Vis (relabel sc X.env) x:=h3;have ak:=so.loc;have ah:x ∉ own:=λhm=>by have nd:=so.nd;unfold Xao at nd;rw[Vhu]at nd;exact nd.2.2 x (U5.mpr ⟨y,U8 ey,J⟩) x hm rfl
   have Y:sc.names.lookup x=yz .free:=by
    have:(relabel sc X.env).names.lookup x=yz .local\/(relabel sc X.env).names.lookup x=yz .cell\/(relabel sc X.env).names.lookup x=yz .free:=ar;rw[Xbs]at this;cases e:sc.names.lookup x with
    |none=>rw[e]at this;simp at this|some k=>
     cases k with
     |free=>rfl|«local»=>exact aB0 (ak x e) ah|cell=>exact aB0 (so.cel _ (Xci e) rfl) ah|_=>rw[e]at this;simp at this
   have aq:x=y:=by
    unfold hid at J;split at J;·rename_i hc;have z:=so.hidn y (U8 ey) hc;rw[J,Y]at z;cases z
    ·exact J.symm
   subst aq;obtain⟨c,hc⟩:=af x (.inr Y);have ao:=((aa x c hc).resolve_right λz=>ah z.1).2;have kx:=so.free (x,.free) (Xci Y) rfl;obtain⟨m0,aw,hl⟩:=I.loc;obtain⟨u,ru,lk⟩:=hl i x v ey h2 (kx.elim (λz=>.inr (.inl z)) λz=>.inr (.inr z));refine⟨u,ru,.inr ⟨?_,c,hc,?_⟩⟩
   ·show(relabel sc X.env).names.lookup x=yz .cell\/(relabel sc X.env).names.lookup x=yz .free;rw[Xbs,Y];simp only[V7];split;·exact .inl rfl
    ·exact .inr rfl
   rcases lk with⟨k,_⟩|⟨_,c',hc',hcell⟩;·have k':X.env.scope.names.lookup x=yz .local:=k;rcases kx with z|z<;>(rw[k']at z;cases z)
   ·rw[ao]at hc';cases hc';exact⟨_,keep _ _ hcell.choose_spec.1,hcell.choose_spec.2⟩
 ·intro x c h;rcases aa x c h with⟨_,z⟩|⟨_,_,z⟩;·obtain⟨v,o,ho,hd⟩:=I.cell x c z;exact⟨v,o,keep _ _ ho,hd⟩
  ·exact⟨yy,z⟩
 ·show upd H Da _ C=yy;rw[Xe av];exact au
 ·intro x c h;rcases aa x c h with⟨_,z⟩|⟨_,z,_⟩;·rw[Xe (L c (ac x c z)).2];exact I.freeC x c z
  ·rw[hC]at z;rw[Xe (by rw[ae];exact Vet (Ves z))];exact I.hok.fresh (Vd1 (Ves z))
 ·intro p hp;rw[Vv]at hp;obtain⟨e,n,ne,nf,d⟩:=I.pin p hp;refine⟨keep _ _ e,?_,(L _ (Vy e)).1,λhm=>?_,d⟩;·rw[Xe (L _ (Vy e)).2];exact n
  ·rcases V2.mp (I.stkSub _ hm) with z|z;·exact ne z
   ·exact nf z
 ·intro b o e;by_cases hb:b=Da;·subst hb;rw[Xp]at e;cases e;exact aj
  ·rw[Xe hb]at e;exact(I.hok b o e).stay (λc v _ q=>keep c v q) (λc q=>by rw[Xe (Xj q hD)];exact q) λc xs _ q=>by rw[Xe (Xj q hD)];exact q
 ·show(σ++Vg (ll own) yy).length=(Xao X.N own).length;unfold Xao;simp[I.len]
theorem X0n(I:Inv X pc σ H s)(hf:∀b∈fp,Xag X pc H b)(J:Inv (blk X pc s H sc cl C own fp) [] σ' H' s'):
  Inv X pc σ H' s':=
 I.call' J.os J.base J.hok J.bare λb hb=>⟨(hf b hb).2.2.2.1,(hf b hb).2.1,(hf b hb).2.2.2.2.1,(hf b hb).2.2.2.2.2⟩
theorem Xex:∀(names:List (Str×Ven)) (n:Nat) (acc:List (Str×Addr)),Va8 n names acc=Va8 n names []++acc
 |[]=>λ_ _=>rfl| (x,k)::r=>λn acc=>by
  unfold Va8;split;·rw[Xex r (n+1) ((x,n)::acc),Xex r (n+1) [(x,n)],Vt];rfl
  ·exact Xex r n acc
theorem Xml:∀(names:List (Str×Ven)) (n:Nat),(x,c)∈Va8 n names []->(x,.cell)∈names
 |[]=>λ_ h=>nomatch h| (y,k)::r=>λn h=>by
  unfold Va8 at h;split at h
  ·rename_i hk;rw[Xex]at h;rcases Uf.mp h with h|h;·exact Uv _ (Xml r (n+1) h)
   ·have e:=Ue.mp h;cases e;rw[eq_of_beq hk];exact U3
  exact Uv _ (Xml r n h)
theorem X0o {M:Model} {sc:Ur} {g:Addr} {L:List (Str×Addr)} {q:Str} {env:Va2} {R:Va2->Vc->Prop} (h:R {scope:=sc,locals:=s.heap.objs.size,globals:=g,cells:=Va8 (s.heap.objs.size+1) sc.names L,qual:=q,func:=yy,code:=env.code,frame:=env.frame,builtins:=env.builtins} {s with heap:=pushCells (s.heap.push {cls:=.type "dict",data:=.dict #[]}) sc.names}):
  Vi M A (newFunctionEnv sc g L [] q yy .none (yz env)) R E s:=by
 simp only[newFunctionEnv,Vck,if_true];refine Va (wpAny_alloc ?_);refine Va (wpAny_layCells _ (λname kind cells=>by cases J:kind==NameKind.cell<;>simp[J]) _ _ _ _ ?_);rw[show({s with heap:=s.heap.push {cls:=.type "dict",data:=.dict #[]} }:Vc).heap.objs.size=s.heap.objs.size+1 from Ve1 ..];exact Va (by rw[List.forIn_nil];exact Vh (Vh h))
theorem Xkt{k:Bool}{AR:Addr->Xi2}{au:Sem Vb}{oA:Obj}{uA:Addr->HO}(hA:∀Da,Xli X.K Da (AR Da))(bu:∀(A:Uy) (E:VP) (s:Vc) (Q:VP),Q (.ref s.heap.objs.size) {s with heap:=s.heap.push oA}->Vi (Vj X.prog X.w) A au Q E s)(bq:oA.isFreed=yw)
  (br:∀(H:Hp) (h:Heap) (a:Addr),h.get? a=yz oA->ObjOk X.prog X.w H h a (uA a)) (bm:∀a ρ (H:Hp),H a=yz (uA a)->AR a ρ H [])
  (hc:X.calm=yx) (so:ScOk X.env.scope sc X.N own) (bv:(ll own)=n) (hg:gens=⟨tg,iter,ifs,0⟩::gens.tail) (hi:DI X tg iter fi) (hs:∀x,Vbm iter X.env x=pure x)
  (hG:∀pc s H cl C fp,DG (blk X pc s H sc cl C own fp) tg t) (hT:∀pc s H cl C fp,DTs (blk X pc s H sc cl C own fp) ifs tf) (hB:∀pc s H cl C fp Da,Xc9 k (AR Da) (blk X pc s H sc cl C own fp) Da elt gens sc cpos 0 body)
  (I:S0 X pc σ H s ρ S env) (q:fi env S=.ok src S1) (hr:X9 src.get t (Yg tf body) (src.most S1+1) 0 (env++Vg n yy) [] S1=.ok accf Sf)
  (hQ:∀s' H' ρ' Da C m,S0 X pc σ H' s' ρ' Sf env->Stp X.K ρ ρ' H H'->Da ∉ ρ'->H Da=yy->AR Da ρ' H' accf->s'.heap.Ns C m->(∀x c,X.env.cells.lookup x=yz c->c≠C)->C≠X.env.locals->H' C=yy->(∀al ak H'' h',Inv X pc ak H'' al->H'' C=yy->Vbi C al.heap h'->Inv X pc ak H'' {al with heap:=h' }) ->
   compPost (Vj X.prog X.w) X.A E use Q (.ref Da) C (.ok .next) s'):
  Vi (Vj X.prog X.w) X.A (comprehension (cE k elt gens sc cpos) sc X.env (firstIterPos gens cpos) au yw (eval iter X.env) use) Q E s:=by
 have a7:∀x∈sc.names,x.2=.free->∃c,X.env.cells.lookup x.1=yz c:=λx hx hf=>by
  rcases so.free x hx hf with z|z;·exact I.inv.ok.has x.1 (.inl z)
  ·exact I.inv.ok.has x.1 (.inr z)
 obtain⟨cl,az,bd,a8⟩:=Xhz a7;refine Vh4 (g:=⟨tg,iter,ifs,0⟩) (gs:=gens.tail) ((show clausesOf (cE k elt gens sc cpos)=gens by cases k<;>rfl).trans hg) hs az so.kind so.names ?_;refine Vp (E:=λ_ _=>False) (hi pc s σ H ρ S env (λ_ _=>False) I (by rw[q];exact λz=>nomatch z) λx s' z=>?_) (λv s1 h1=>Vp h1 (λb3 s2 h2=>?_) λ_ _ z=>z.elim) λ_ _ z=>z.elim;·rw[q]at z;obtain⟨k,S2,e,z⟩:=z;cases e
 ·obtain⟨bx,S2,it,fp,tn,J,H2,aj,e1,rfl,I2,T,t0,f2,bt,ax,ah⟩:=h2;rw[q]at e1;cases e1;have J2:=I.step I2 ax ah;refine bu _ _ _ _ (X0o ?_);dsimp only;generalize ay:s2.heap.push oA=L;have hC:L.objs.size=s2.heap.objs.size+1:=by rw[<-ay,Ve1]
  have below:∀b,b<s2.heap.objs.size->b≠L.objs.size:=λb hb=>by rw[hC];exact Up (Vcx hb)
  have an:=cellsFrom_ok sc.names (L.push {cls:=.type "dict",data:=.dict #[]}) (L.objs.size+1) [] ⟨λ_ _ hm=>(nomatch hm),Vhs⟩ (by rw[Ve1];exact Vf _);rw[Ve1]at an;obtain⟨m1,ae⟩:∃m1,(pushCells (L.push {cls:=.type "dict",data:=.dict #[]}) sc.names).Ns L.objs.size m1:=by obtain⟨o,es,ep,ho,rest⟩:=(Heap.Ns.new ..:(L.push {cls:=.type "dict",data:=.dict #[]}).Ns L.objs.size _);exact⟨_,o,es,ep,pushCells_keeps _ _ _ _ ho,rest⟩
  have aw:∀b o,L.get? b=yz o->(pushCells (L.push {cls:=.type "dict",data:=.dict #[]}) sc.names).get? b=yz o:=λb o e=>pushCells_keeps _ _ b o (Vo _ e);generalize pushCells (L.push {cls:=.type "dict",data:=.dict #[]}) sc.names=aa at an ae aw ⊢;have bg:∀b o,s2.heap.get? b=yz o->aa.get? b=yz o:=λb o e=>aw b o (ay▸Vo _ e);have bc:aa.get? s2.heap.objs.size=yz oA:=aw _ _ (ay▸Vw _ bq);have ab:∀x c,(x,c)∈Va8 (L.objs.size+1) sc.names []->x∈own/\L.objs.size<c/\aa.IsCell c none:=λx c hm=>⟨so.cel _ (Xml _ _ hm) rfl,(an.empty x c hm).2,(an.empty x c hm).1⟩;have two:∀x c,(Va8 (L.objs.size+1) sc.names cl).lookup x=yz c->(x,c)∈Va8 (L.objs.size+1) sc.names []\/(x ∉ own/\X.env.cells.lookup x=yz c):=λx c h=>by
   rw[Xex,List.lookup_append,Option.or_eq_some_iff]at h;rcases h with h|⟨_,h⟩;·exact .inl (Xom h)
   ·exact .inr ⟨so.apart _ (bd x c h).2 rfl,(bd x c h).1⟩
  have am:∀x c,(Va8 (L.objs.size+1) sc.names cl).lookup x=yz c->(x ∉ own/\X.env.cells.lookup x=yz c)\/(x∈own/\L.objs.size<c/\aa.IsCell c yy):=λx c h=>(two x c h).elim (λz=>.inr (ab x c z)) .inl;have ac:∀x c,X.env.cells.lookup x=yz c->c<L.objs.size:=λx c e=>by obtain⟨v,z⟩:=I2.cell x c e;rw[hC];exact Vcx z.lt
  have ar:∀x y c,(Va8 (L.objs.size+1) sc.names cl).lookup x=yz c->(Va8 (L.objs.size+1) sc.names cl).lookup y=yz c->x=y:=λx y c h1 h2=>by
   rcases two x c h1 with a|⟨_,a⟩<;>rcases two y c h2 with b|⟨_,b⟩
   ·exact name_of_addr an.apart a b
   ·exact aB0 (ac y c b) (Nat.lt_asymm (ab x c a).2.1)
   ·exact aB0 (ac x c a) (Nat.lt_asymm (ab y c b).2.1)
   exact I2.ok.inj x y c a b
  have ai:∀x,sc.names.lookup x=yz .cell\/sc.names.lookup x=yz .free->∃c,(Va8 (L.objs.size+1) sc.names cl).lookup x=yz c:=λx h=>Vcm.mp (Veo sc.names _ cl (h.imp id λz=>by obtain⟨c,hc⟩:=a8 (x,.free) (Xci z) rfl;exact Vcm.mpr ⟨c,hc⟩));generalize Va8 (L.objs.size+1) sc.names cl=ap at am ar ai two ⊢;have ao:∀b∈fp,b<s2.heap.objs.size:=λb hb=>by obtain⟨o,e,_⟩:=T.obj _ _ t0 b hb;exact Vy e
  have af:H2 s2.heap.objs.size=none:=I2.hok.fresh (Vf _);have bh:s2.heap.objs.size ∉ aj:=λhm=>by obtain⟨w,hw,_⟩:=ax.mem hm;rw[af]at hw;cases hw
  generalize bb:({s2 with heap:=aa}:Vc)=s4;have IY:Inv (blk X pc s2 H2 sc ap L.objs.size own fp) [] (σ++Vg (ll own) yy) (upd H2 s2.heap.objs.size (uA s2.heap.objs.size)) s4:=by subst bb;exact X4z so I2 f2 am ar ai rfl hC rfl rfl bg ae (br _ _ _ bc) ao
  have a0:Stp X.K aj aj H2 (upd H2 s2.heap.objs.size (uA s2.heap.objs.size)):=Stp.upd af;have SY:S0 (blk X pc s2 H2 sc ap L.objs.size own fp) [] (σ++Vg (ll own) yy) (upd H2 s2.heap.objs.size (uA s2.heap.objs.size)) s4 aj S1 (env++Vg n yy):=by
   refine⟨IY,ax.upd af,⟨by simp[J2.er.len,bv],λi d e=>?_⟩⟩;have hi:i<ll env:=by
    by_cases hi:i<ll env;·exact hi
    ·rw[Us (by omega),Vc3]at e;split at e<;>cases e
   rw[Vu hi]at e;obtain⟨v,h1,h2⟩:=J2.er.val i d e;exact⟨v,by rw[Vu (by rw[<-J2.er.len];exact hi)];exact h1,h2.mono a0⟩
  have t4:tn 0 s4.heap:=by subst bb;exact T.keep 0 _ _ t0 λb hb o e=>bg b o e
  have fY:∀b∈fp,Xag (blk X pc s2 H2 sc ap L.objs.size own fp) [] (upd H2 s2.heap.objs.size (uA s2.heap.objs.size)) b:=λb hb=>by
   obtain⟨a1,a2,a3,a4,a5,a6⟩:=f2 b hb;refine⟨by rw[Xe (Up (ao b hb))];exact a1,below b (ao b hb),λhm=>?_,.inl hb,λx c h=>(am x c h).elim (λz=>a5 x c z.2) (λz=>Vet (Nat.lt_trans (by rw[hC];exact Vcx (ao b hb)) z.2.1)),λp hp=>?_⟩
   ·rcases V2.mp (I2.stkSub b hm) with z|z;·exact a2 z
    ·exact a3 z
   rw[Vv]at hp;exact a6 p hp
  refine Vfs (Xtb (hA s2.heap.objs.size) (Y:=blk X pc s2 H2 sc ap L.objs.size own fp) (H0:=H2) (ρ0:=aj) (P:=compPost (Vj X.prog X.w) X.A E use Q (.ref s2.heap.objs.size) L.objs.size (.ok .next)) hc (by rw[hg];rfl) T (hG _ _ _ _ _ _) (hT _ _ _ _ _ _) (hB _ _ _ _ _ _ _) af SY t4 fY (bt.mono a0) bh (bm _ _ _ Xp) a0 hr
   λs' b2 H' ρ' bz I' _ bo bj ba _=>?_) λr s' h=>?_
  ·have JX:=X0n I2 f2 I'.inv;have be:H' L.objs.size=none:=I'.inv.free;have a9:s2.heap.objs.size<=L.objs.size:=by rw[hC];exact Vff _
   obtain⟨m',bn,_⟩:=I'.inv.loc;have fo:=I2.fpOk (H':=H') a9 be;have bi:H s2.heap.objs.size=none:=by
    cases e:H s2.heap.objs.size with
    |none=>rfl|some o=>
     by_cases hm:s2.heap.objs.size∈ρ;·obtain⟨k,hk,ek⟩:=Vct.mp hm;exact aB0 (U8 (ah.pre k _ (by simp[hk,ek]))) bh
     ·rw[ah.keep _ o e hm]at af;cases af
   refine hQ s' H' ρ' s2.heap.objs.size L.objs.size m' ⟨JX,I'.sr,I.er.mono (ah.trans ba)⟩ (ah.trans ba) bo bi bj bn fo.2.2.2.2.1 (λz=>fo.2.1 z) be λal ak H'' h' bp av bf=>?_;have aq:Xag X pc H'' L.objs.size:=⟨av,fo.2⟩;exact bp.turned (t':=al.toks) (λb o hb e=>(bf.2 b hb).trans e) av aq.2.1 aq.2.2.2.1 aq.2.2.2.2.1 aq.2.2.2.2.2
  cases r with
  |ok f=>cases use<;>exact h|error e=>exact h.elim
end
theorem Xed{get:Sto->Nat->Option (Option D)}{body:En->LD->Sto->R (LD)}:∀(k i:Nat) (env:En) (acc:LD) (S:Sto) (n:Nat) (S':Sto),X9 get t body k i env acc S≠.ex n S'
 |0=>λi env acc S n S'=>λz=>nomatch z|k+1=>λi env acc S n S'=>by
  simp only[X9];cases get S i with
  |none=>exact λz=>nomatch z|some o=>
   cases o with
   |none=>exact λz=>nomatch z|some d=>
    dsimp only;cases Xk t d env with
    |none=>exact λz=>nomatch z|some J=>
     dsimp only;cases body J acc S with
     |ok a S1=>exact Xed k (i+1) J a S1 n S'|ex _ _=>exact λz=>nomatch z|bad=>exact λz=>nomatch z
section
variable{X:Cx}{pc:LA}{σ:L2.St}{H:Hp}{s:Vc}{ρ:LR}{S:Sto}{env:En}{Q:VP}{E:VP}
theorem SR.adopt{K:Ve}{Da:Addr}{vs:LW}{xs:LD}(r:SR K ρ S H)(J:Da ∉ ρ)(Y:H Da=yz (.lst vs))(rd:RDs K ρ H xs vs):SR K (ρ++[Da]) (S++[.lst xs]) H:=by
 have mo:Mon K ρ (ρ++[Da]) H H:=⟨λn a h=>by rw[Vu (Vd.mp h).1];exact h,λ_ _ h=>h,λ_ _ _ h=>h⟩;refine⟨r.tab,by simp[r.len],?_,λn a ob h1 h2=>?_⟩;·rw[Vhu];refine⟨r.nd,by simp,λx hx y L=>?_⟩;rw[Ue.mp L];exact λz=>J (z▸hx)
 ·by_cases hk:n < ρ.length;·rw[Vu hk]at h1;rw[Vu (by rw[<-r.len];exact hk)]at h2;exact(r.ob n a ob h1 h2).mono' mo rfl
  ·have e:n=ll ρ:=by
    have:=(Vd.mp h1).1;simp at this;omega
   subst e;simp at h1;rw[r.len]at h2;simp at h2;subst h1 h2;exact⟨vs,Y,RDs.mono' mo _ _ rd⟩
theorem Stp.adopt{K:Ve}{Da:Addr}{ρ':LR}{H':Hp}(st:Stp K ρ ρ' H H')(h0:H Da=yy):Stp K ρ (ρ'++[Da]) H H' where
 pre:=λn a h=>by have z:=st.pre n a h;rw[Vu (Vd.mp z).1];exact z
 tup:=st.tup
 frz:=st.frz
 new:=λa h=>by
  rcases Uf.mp h with h|h;·exact st.new a h
  ·rw[Ue.mp h];exact .inr h0
 keep:=st.keep
variable{elt:Expr}{gens:List Vbj}{sc:Ur}{cpos:Pos}{tg iter:Expr}{ifs:LX}{own:LS}{t:Tg}{n:Nat}{fi:En->Sto->R Src}{tf:En->Sto->R Bool}{body:En->LD->Sto->R (LD)}
noncomputable def Xey(fi:En->Sto->R Src)(t:Tg)(n:Nat)(tf:En->Sto->R Bool)(body:En->LD->Sto->R LD)(env:En)(S:Sto):R D:=
 (fi env S).bind λJ S=>(X9 J.get t (Yg tf body) (J.most S+1) 0 (env++Vg n yy) [] S).bind λL S=>.ok (.ref (ll S)) (S++[.lst L])
theorem Xpg{k:Bool}{Y:Sem Vb}{use:Option (Vb->Sem Unit)}{m:Nat}(so:ScOk X.env.scope sc X.N own)(hg:gens=⟨tg,iter,ifs,0⟩::gens.tail)(hi:DI X tg iter fi)(hs:∀x,Vbm iter X.env x=pure x)
  (I:S0 X pc σ H s ρ S env) (q:fi env S=.ex m S1) (hE:∀x s',XPd X pc σ ρ H m S1 x s'->E x s'):
  Vi (Vj X.prog X.w) X.A (comprehension (cE k elt gens sc cpos) sc X.env (firstIterPos gens cpos) Y yw (eval iter X.env) use) Q E s:=by
 have L:∀x∈sc.names,x.2=.free->∃c,X.env.cells.lookup x.1=yz c:=λx hx hf=>by
  rcases so.free x hx hf with z|z;·exact I.inv.ok.has x.1 (.inl z)
  ·exact I.inv.ok.has x.1 (.inr z)
 obtain⟨cl,J,ae,aa⟩:=Xhz L;refine Vh4 (g:=⟨tg,iter,ifs,0⟩) (gs:=gens.tail) ((show clausesOf (cE k elt gens sc cpos)=gens by cases k<;>rfl).trans hg) hs J so.kind so.names ?_;refine Vp (hi pc s σ H ρ S env E I (by rw[q];exact λz=>nomatch z) λx s' z=>?_) (λv s1 h1=>Vp h1 (λac s2 h2=>?_) λ_ _ z=>z) λ_ _ z=>z;·rw[q]at z;obtain⟨k,S2,e,z⟩:=z;cases e;exact hE x s' z
 ·obtain⟨ab,S2,_,_,_,_,_,_,e1,_⟩:=h2;rw[q]at e1;cases e1
theorem Xph (A:Uy) (E:VP) (s:Vc) (Q:VP) (h:Q (.ref s.heap.objs.size) {s with heap:=s.heap.push {cls:=.type "list",dict:=yy,data:=.seq ([]:LV).toArray} }):Vi (Vj X.prog X.w) A (newList []) Q E s:=Va5 h
theorem Xtd (H:Hp) (h:Heap) (a:Addr) (e:h.get? a=yz {cls:=.type "list",dict:=yy,data:=.seq ([]:LV).toArray}):ObjOk X.prog X.w H h a (.lst []):=⟨Um _,[],0,.nil,e⟩
theorem X40(hc:X.calm=yx)(so:ScOk X.env.scope sc X.N own)(ab:(ll own)=n)(hg:gens=⟨tg,iter,ifs,0⟩::gens.tail)(hi:DI X tg iter fi)(hs:∀x,Vbm iter X.env x=pure x)
  (hG:∀pc s H Y C fp,DG (blk X pc s H sc Y C own fp) tg t) (hT:∀pc s H Y C fp,DTs (blk X pc s H sc Y C own fp) ifs tf) (hB:∀pc s H Y C fp Da,Xc9 yw (LstA X.K Da) (blk X pc s H sc Y C own fp) Da elt gens sc cpos 0 body):
  DE X (.ListComp elt gens sc cpos) (Xey fi t n tf body):=by
 intro pc s σ H ρ S env I J;have aa:firstIter gens X.env=eval iter X.env:=by rw[hg];rfl
 have ac:firstAsync gens=false:=by rw[hg];rfl
 rw[eval_ListComp,aa,ac];unfold Xey at J ⊢;cases q:fi env S with
 |bad=>rw[q]at J;cases J rfl|ex m S1=>exact Xpg (k:=yw) so hg hi hs I q λx s' z=>⟨m,S1,rfl,z⟩|ok L S1=>
  rw[q]at J;simp only[Rk0]at J ⊢;cases q2:X9 L.get t (Yg tf body) (L.most S1+1) 0 (env++Vg n yy) [] S1 with
  |bad=>rw[q2]at J;cases J rfl|ex m S2=>exact aB0 q2 (Xed _ _ _ _ _ _ _)|ok af Sf=>refine Xkt (k:=yw) (AR:=λDa=>LstA X.K Da) (uA:=λ_=>.lst []) (λDa=>LstA.ok) Xph rfl Xtd (λa ρ H z=>⟨[],z,.nil⟩) hc so ab hg hi hs hG hT hB I q q2 λs' H' ρ' Da C m I' st' hn' h0 ⟨vs,hD',ra'⟩ hns hcells hCl hCn back=>?_;refine⟨m,hns,λh' ae=>?_⟩;refine .mk (v:=.ref Da) (st'.adopt h0) (back s' σ H' h' I'.inv hCn ae) rfl ?_ (I'.sr.adopt hn' hD' ra');simp only[RD];exact⟨Da,rfl,by rw[<-I'.sr.len];simp⟩
theorem X0p{i:Nat}(hN:X.N.Nodup)(ah:X.N[i]?=yz x)(hx:X.env.scope.names.lookup x=yz .local)(af:Vfy (.ListComp elt gens sc cpos) (yz (.Name x py)) spos.line X.env=pure yx)
  (hc:X.calm=yx) (so:ScOk X.env.scope sc X.N own) (aj:(ll own)=n) (hg:gens=⟨tg,iter,ifs,0⟩::gens.tail) (hi:DI X tg iter fi) (hs:∀x,Vbm iter X.env x=pure x)
  (hG:∀pc s H cl C fp,DG (blk X pc s H sc cl C own fp) tg t) (hT:∀pc s H cl C fp,DTs (blk X pc s H sc cl C own fp) ifs tf) (hB:∀pc s H cl C fp Da,Xc9 yw (LstA X.K Da) (blk X pc s H sc cl C own fp) Da elt gens sc cpos 0 body):
  DS X (.Assign [.Name x py] (.ListComp elt gens sc cpos) spos) yw (λenv S=>(Xey fi t n tf body env S).bind λd S=>match Xk (.var i) d env with|some env=>.ok (.nx env) S|none=>.bad):=by
 intro pc s σ H ρ S env I L;dsimp only at L ⊢;have ae:firstIter gens X.env=eval iter X.env:=by rw[hg];rfl
 have al:firstAsync gens=false:=by rw[hg];rfl
 rw[exec_Assign_Name_used _ _ _ _ af];refine Va (Vdr (Va ?_));show Vi _ X.A (do let _ <- comprehension (.ListComp elt gens sc cpos) sc X.env (firstIterPos gens cpos) (newList []) (firstAsync gens) (firstIter gens X.env) (yz (assign (.Name x py) X.env))) _ _ s;rw[ae,al];refine Va (Vp (Q:=λ_ s'=>OkS X pc σ ρ H yw ((Xey fi t n tf body env S).bind λd S=>match Xk (.var i) d env with|some env=>.ok (.nx env) S|none=>.bad) .next s') ?_ (λ_ s' hq=>Vh (Vh hq)) λ_ _ z=>z);unfold Xey at L ⊢;cases q:fi env S with
 |bad=>rw[q]at L;cases L rfl|ex m S1=>exact Xpg (k:=yw) so hg hi hs I q λx s' z=>.of .refl z rfl|ok aa S1=>
  rw[q]at L;simp only[Rk0]at L ⊢;cases q2:X9 aa.get t (Yg tf body) (aa.most S1+1) 0 (env++Vg n yy) [] S1 with
  |bad=>rw[q2]at L;cases L rfl|ex m S2=>exact aB0 q2 (Xed _ _ _ _ _ _ _)|ok ab Sf=>
   refine Xkt (k:=yw) (AR:=λDa=>LstA X.K Da) (uA:=λ_=>.lst []) (use:=yz (assign (.Name x py) X.env)) (λDa=>LstA.ok) Xph rfl Xtd (λa ρ H z=>⟨[],z,.nil⟩) hc so aj hg hi hs hG hT hB I q q2 λs' H' ρ' Da C m I' st' hn' h0 ⟨vs,hD',ra'⟩ hns hcells hCl hCn back=>?_;show Vi _ X.A (assign (.Name x py) X.env (.ref Da)) _ _ s';refine Vhq (Xke I'.inv hN ah (.inl hx) (show RelV (.ref Da) (.ref Da) from rfl) (λs2 I2 Y=>?_) (.inr hx));obtain⟨ad,Y,ak⟩:=Y;have ac:ad≠C:=by
    rcases ak with z|z;·rw[z];exact Ne.symm hCl
    ·exact hcells x ad z
   refine⟨m,hns.sameBut Y (Ne.symm ac),λh' ai=>?_⟩;have J:=back s2 _ H' h' I2 hCn ai;refine⟨.nx (env.set i (yz (.ref Sf.length))),Sf++[.lst ab],rfl,rfl,_,H',ρ'++[Da],⟨J,I'.sr.adopt hn' hD' ra',?_⟩,st'.adopt h0,λz=>nomatch z⟩;have mo:Mon X.K ρ' (ρ'++[Da]) H' H':=⟨λn a h=>by rw[Vu (Vd.mp h).1];exact h,λ_ _ h=>h,λ_ _ _ h=>h⟩;refine(I'.er.mono' mo).set i ?_;simp only[RD];exact⟨Da,rfl,by rw[<-I'.sr.len];simp⟩
end
section
variable{X:Cx}{pc:LA}{σ:L2.St}{H:Hp}{s:Vc}{ρ:LR}{S:Sto}{env:En}{Q:VP}{E:VP}
def BlR(X:Cx)(k:Bl)(f:Vb):Prop:=
 ∀(pc:LA) (s:Vc) (σ:L2.St) (H:Hp) (ρ:LR) (S:Sto) (env:En) (ds:LD) (vs:LW) (us:LV) (E:VP),S0 X pc σ H s ρ S env->RDs X.K ρ H ds vs->Vals vs us->Xm k ds S≠.bad ->
  Vi (Vj X.prog X.w) X.A (call f us) (OkP X pc σ ρ H (Xm k ds S)) E s
theorem RDs.one{K:Ve}{d:D}{vs:LW}(h:RDs K ρ H [d] vs):∃v,vs=[v]/\RD K ρ H d v:=by simp only[RDs]at h;obtain⟨v,r,rfl,h1,rfl⟩:=h;exact⟨v,rfl,h1⟩
theorem RDs.two{K:Ve}{d e:D}{vs:LW}(h:RDs K ρ H [d,e] vs):∃v u,vs=[v,u]/\RD K ρ H d v/\RD K ρ H e u:=by simp only[RDs]at h;obtain⟨v,r,rfl,h1,u,J,rfl,h2,rfl⟩:=h;exact⟨v,u,rfl,h1,h2⟩
theorem X86:BlR X .len (.builtin "len"):=by
 intro pc s σ H ρ S env ds vs us E I rd rv L;match ds,rd,L with
 |[],_,L=>cases L rfl|_::_::_,_,L=>cases L rfl|[d],rd,L=>
  obtain⟨v,rfl,r1⟩:=rd.one;have go:∀xs,Xq S d=yz xs->Vi (Vj X.prog X.w) X.A (call (.builtin "len") us) (OkP X pc σ ρ H (.ok (.int (ll xs)) S)) E s:=λxs h=>by obtain⟨a,Y,rfl,hq,hr⟩:=I.seq h r1;refine Xfw (Q':=λz H'=>z=.int Y.length/\H'=H) Xl3 I.inv rv ⟨a,Y,rfl,hq,rfl,rfl⟩ λw s' z H' J rz zz=>?_;obtain⟨e1,e2⟩:=zz;subst e1 e2;obtain⟨t,rfl⟩:=rz;rw[<-hr.length];exact Y6 I.sr J
  cases d with
  |str _=>cases L rfl|tup xs=>exact go xs rfl|fro xs=>exact go xs rfl|ref n=>
   simp only[Xm,Xq]at L ⊢;cases e:Xc S n with
   |none=>rw[e]at L;cases L rfl|some xs=>exact go xs e
  |non=>cases L rfl|bl _=>cases L rfl|int _=>cases L rfl|fn _ _=>cases L rfl
theorem X0q:BlR X .tuple (.type "tuple"):=by
 intro pc s σ H ρ S env ds vs us E I rd rv L;match ds,rd,L with
 |[],_,L=>cases L rfl|_::_::_,_,L=>cases L rfl|[d],rd,L=>
  obtain⟨v,rfl,r1⟩:=rd.one;simp only[Xm]at L ⊢;cases e:Xq S d with
  |none=>rw[e]at L;cases L rfl|some xs=>
   dsimp only;obtain⟨a,ws,rfl,Y,hr⟩:=I.seq e r1;rcases Y with Y|Y;·refine Xfw (Q':=λz H'=>∃p,H p=yy/\z=.ref p/\H'=upd H p (.tup ws)) Xem I.inv rv ⟨a,ws,rfl,.inl ⟨Y,λl hl=>⟨l,hl,rfl,rfl⟩⟩⟩ λw s' z H' J rz zz=>?_;obtain⟨p,hp,e1,e2⟩:=zz;subst e1 e2;cases rz;exact Xcm J hp I.sr hr
   ·refine Xfw (Q':=λz H'=>z=.ref a/\H'=H) Xem I.inv rv ⟨a,ws,rfl,.inr ⟨Y,rfl,rfl⟩⟩ λw s' z H' J rz zz=>?_;obtain⟨e1,e2⟩:=zz;subst e1 e2;refine .mk .refl J rz ?_ I.sr;simp only[RD];exact⟨a,ws,rfl,Y,hr⟩
theorem X41:BlR X .list (.type "list"):=by
 intro pc s σ H ρ S env ds vs us E I rd rv L;match ds,rd,L with
 |[],_,L=>cases L rfl|_::_::_,_,L=>cases L rfl|[d],rd,L=>
  obtain⟨v,rfl,r1⟩:=rd.one;simp only[Xm]at L ⊢;cases e:Xq S d with
  |none=>rw[e]at L;cases L rfl|some xs=>dsimp only;obtain⟨a,Y,rfl,hq,hr⟩:=I.seq e r1;refine Xfw (Q':=λz H'=>∃p,H p=yy/\z=.ref p/\H'=upd H p (.lst Y)) Xl4 I.inv rv ⟨a,Y,rfl,hq,λl hl=>⟨l,hl,rfl,rfl⟩⟩ λw s' z H' J rz zz=>?_;obtain⟨p,hp,e1,e2⟩:=zz;subst e1 e2;cases rz;exact Xa3 J hp I.sr hr
theorem Xa9:∀ {xs:LD} {bs:List Bool},X8 xs=yz bs->xs=bs.map D.bl
 |[],ns,h=>by simp only[X8,Vq]at h;subst h;rfl|.bl i::r,ns,h=>by simp only[X8,Ul]at h;obtain⟨ms,h1,rfl⟩:=h;rw[Xa9 h1];rfl|.non::_,_,h=>by simp[X8]at h|.int _::_,_,h=>by simp[X8]at h|.str _::_,_,h=>by simp[X8]at h|.tup _::_,_,h=>by simp[X8]at h|.ref _::_,_,h=>by simp[X8]at h|.fro _::_,_,h=>by simp[X8]at h|.fn _ _::_,_,h=>by simp[X8]at h
theorem Xte(bs:List Bool)(f:Nat->Bool)(h:∀i,f i=(bs[i]?).getD yw):(Vm (ll bs)).all f=bs.all id:=by
 rw[Bool.eq_iff_iff,Vab,Vab];constructor;·intro q b hb;obtain⟨i,hi,rfl⟩:=Vct.mp hb;have:=q i (by simpa using hi);rw[h i]at this;simpa [hi] using this
 ·intro q i hi;have J:i<ll bs:=by simpa using hi
  rw[h i];simp only[J,getElem?_pos,Vdc];exact q _ (Vd4 J)
theorem Xku(bs:List Bool)(f:Nat->Bool)(h:∀i,f i=(bs[i]?).getD yw):(Vm (ll bs)).any f=bs.any id:=by
 rw[Bool.eq_iff_iff,List.any_eq_true,List.any_eq_true];constructor
 ·rintro ⟨i,hi,q⟩;have J:i<ll bs:=by simpa using hi
  rw[h i]at q;simp only[J,getElem?_pos,Vdc]at q;exact⟨_,Vd4 J,q⟩
 rintro ⟨b,hb,q⟩;obtain⟨i,hi,rfl⟩:=Vct.mp hb;refine⟨i,by simpa using hi,?_⟩;rw[h i];simpa [hi] using q
theorem Xq5{K:Ve}:∀ {bs:List Bool} {vs:LW},RDs K ρ H (bs.map D.bl) vs->vs=bs.map V.bl
 |[],vs,h=>by simp only[Uj,RDs]at h;exact h|n::ns,vs,h=>by simp only[Uj,RDs]at h;obtain⟨v,r,rfl,h1,h2⟩:=h;simp only[RD]at h1;subst h1;rw[Xq5 h2];rfl
theorem S0.its(I:S0 X pc σ H s ρ S env)(h:Xc S n=yz xs)(rd:RD X.K ρ H (.ref n) v)(J:RelV v u):∃a vs its,u=.ref a/\s.heap.IsList a its.toArray/\RDs X.K ρ H xs vs/\Vals vs its/\(ll vs)<=V0:=by obtain⟨a,vs,rfl,h1,h2,L⟩:=I.lstR h rd;cases J;obtain⟨its,r,p,hz⟩:=I.inv.list (.of h2);exact⟨a,vs,its,rfl,p.isList,L,r,hz⟩
theorem Xee{its:LV}{Q:VP}(hh:A.handled=yy)(L:s.heap.IsList a its.toArray\/s.heap.IsTuple a its.toArray)
  (h:∀I fp wr St J,Walks prog w A I fp wr (ll its) (λi v=>its[i]?=yz v) St->St 0 J.heap->(∀b∈fp,b<J.heap.objs.size) ->
   (∀h' tk,(∀b o,b ∉ wr->J.heap.get? b=yz o->h'.get? b=yz o)->({J with heap:=h',toks:=tk}:Vc)={s with heap:=h',toks:=tk}/\∀b o,s.heap.get? b=yz o->h'.get? b=yz o)->Q (.ref I) J):
  Vi (Vj prog w) A (pyIter (.ref a)) Q E s:=by
 have aa:∀ {o:Obj},∀h' tk,(∀b ob,b ∉ [s.heap.objs.size]->({s with heap:=s.heap.push o}:Vc).heap.get? b=yz ob->h'.get? b=yz ob)->({ ({s with heap:=s.heap.push o}:Vc) with heap:=h',toks:=tk}:Vc)={s with heap:=h',toks:=tk}/\∀b ob,s.heap.get? b=yz ob->h'.get? b=yz ob:=
  λ{o} h' tk hk=>⟨rfl,λb ob e=>hk b ob (by simp;exact Up (Vy e)) (Vo _ e)⟩
 have Y:∀ {o:Obj} (ha:a<s.heap.objs.size),∀b∈[s.heap.objs.size,a],b<(s.heap.push o).objs.size:=λ{o} ha b hb=>by
  rw[Ve1];simp at hb;rcases hb with rfl|rfl;·exact Vbu _
  ·exact Vcx ha
 rcases L with L|L;·have ha:a<s.heap.objs.size:=Vy L.choose_spec.1;refine Vhv L ?_;have W:=Walks.list (prog:=prog) (w:=w) hh s.heap.objs.size a (Up ha) its.toArray;simp only[Vn,Vgq]at W;exact h _ _ _ _ _ W ⟨⟨_,Vw _ rfl,rfl,rfl⟩,L.at λo e=>Vo _ e⟩ (Y ha) aa
 ·have ha:a<s.heap.objs.size:=Vy L.choose_spec.1;refine Vhj L ?_;have W:=Walks.tuple (prog:=prog) (w:=w) hh s.heap.objs.size a (Up ha) its.toArray;simp only[Vn,Vgq]at W;exact h _ _ _ _ _ W ⟨⟨_,Vw _ rfl,rfl,rfl⟩,L.at λo e=>Vo _ e⟩ (Y ha) aa
theorem S0.seqI(I:S0 X pc σ H s ρ S env)(h:Xq S d=yz xs)(rd:RD X.K ρ H d v)(Y:RelV v u):∃a vs its,u=.ref a/\(s.heap.IsList a its.toArray\/s.heap.IsTuple a its.toArray)/\RDs X.K ρ H xs vs/\Vals vs its/\(ll vs)<=V0:=by
 obtain⟨a,vs,rfl,J,L⟩:=I.seq h rd;cases Y;rcases J with J|J;·obtain⟨its,r,p,hz⟩:=I.inv.list J;exact⟨a,vs,its,rfl,.inl p.isList,L,r,hz⟩
 ·obtain⟨its,r,p,hz⟩:=I.inv.tuple J;exact⟨a,vs,its,rfl,.inr p,L,r,hz⟩
theorem Xpi{i:Nat}{v:Vb}:∀ {bs:List Bool} {its:LV},Vals (bs.map V.bl) its->its[i]?=yz v->v=.bool ((bs[i]?).getD yw):=λ{bs its} hv e=>by
 have hl:i<ll bs:=by have h1:=hv.length;have h2:=(Vd.mp e).1;simp at h1;omega
 obtain⟨u,h1,h2⟩:=hv.get (i:=i) (x:=.bl bs[i]) (by simp[hl]);rw[e]at h1;cases h1;simp[hl];exact h2
theorem X87(hc:X.calm=yx):BlR X .all (.builtin "all"):=by
 intro pc s σ H ρ S env ds vs us E I rd rv J;match ds,rd,J with
 |[],_,J=>cases J rfl|d::_::_,_,J=>cases d<;>cases J rfl|[d],rd,J=>
  cases d with
  |ref n=>
   obtain⟨v,rfl,r1⟩:=rd.one;simp only[Xm]at J ⊢;cases e:Xc S n with
   |none=>rw[e]at J;cases J rfl|some xs=>
    rw[e]at J;simp only[V5]at J ⊢;cases e2:X8 xs with
    |none=>rw[e2]at J;cases J rfl|some bs=>
     dsimp only;have q:=Xa9 e2;subst q;cases rv with
     |cons ru rr=>
      cases rr;obtain⟨a,ws,its,rfl,hl,hr,hv,hz⟩:=I.its e r1 ru;have hw:=Xq5 hr;subst hw;have L:(ll its)=ll bs:=by rw[<-hv.length];simp
      refine call_all_walk (Xee (I.inv.ok.hd hc) (.inl hl) λIt fp wr St aa W st hf Y=>?_);refine⟨It,fp,wr,_,_,St,λi=>(bs[i]?).getD yw,rfl,W,st,λi v s' Q' E' hP hQ=>?_,λh' tk hk=>?_⟩;·rw[Xpi hv hP];exact Vbl hQ
      ·obtain⟨e3,k3⟩:=Y h' tk hk;rw[e3,L,Xte bs _ λ_=>rfl];exact Xl I.sr (I.inv.kept k3)
  |_=>cases J rfl
theorem Xmm{i:Nat}{v:Vb}{ns:LI}{its:LV}(J:Vals (ns.map V.int) its)(e:its[i]?=yz v):∃t,v=.int ((ns[i]?).getD 0) t:=by
 have hl:i<ll ns:=by have h1:=J.length;have h2:=(Vd.mp e).1;simp at h1;omega
 obtain⟨u,h1,h2⟩:=J.get (i:=i) (x:=.int ns[i]) (by simp[hl]);rw[e]at h1;cases h1;simp[hl];exact h2
theorem X88(hc:X.calm=yx):BlR X .anb (.builtin "any"):=by
 intro pc s σ H ρ S env ds vs us E I rd rv J;match ds,rd,J with
 |[],_,J=>cases J rfl|d::_::_,_,J=>cases d<;>cases J rfl|[d],rd,J=>
  cases d with
  |ref n=>
   obtain⟨v,rfl,r1⟩:=rd.one;simp only[Xm]at J ⊢;cases e:Xc S n with
   |none=>rw[e]at J;cases J rfl|some xs=>
    rw[e]at J;simp only[V5]at J ⊢;cases e2:X8 xs with
    |none=>rw[e2]at J;cases J rfl|some bs=>
     dsimp only;have q:=Xa9 e2;subst q;cases rv with
     |cons ru rr=>
      cases rr;obtain⟨a,ws,its,rfl,hl,hr,hv,hz⟩:=I.its e r1 ru;have hw:=Xq5 hr;subst hw;have L:(ll its)=ll bs:=by rw[<-hv.length];simp
      refine call_any_walk (Xee (I.inv.ok.hd hc) (.inl hl) λIt fp wr St aa W st hf Y=>?_);refine⟨It,fp,wr,_,_,St,λi=>(bs[i]?).getD yw,rfl,W,st,λi v s' Q' E' hP hQ=>?_,λh' tk hk=>?_⟩;·rw[Xpi hv hP];exact Vbl hQ
      ·obtain⟨e3,k3⟩:=Y h' tk hk;rw[e3,L,Xku bs _ λ_=>rfl];exact Xl I.sr (I.inv.kept k3)
  |tup xs=>
   obtain⟨v,rfl,r1⟩:=rd.one;simp only[Xm]at J ⊢;cases e2:Xo xs with
   |none=>rw[e2]at J;cases J rfl|some bs=>
    dsimp only;have q:=Yl e2;subst q;cases rv with
    |cons ru rr=>
     cases rr;obtain⟨a,ws,its,rfl,hl,hr,hv,hz⟩:=I.seqI (d:=.tup (bs.map D.int)) rfl r1 ru;have hw:=hr.ints_of;subst hw;have L:(ll its)=ll bs:=by rw[<-hv.length];simp
     refine call_any_walk (Xee (I.inv.ok.hd hc) hl λIt fp wr St aa W st hf Y=>?_);refine⟨It,fp,wr,_,_,St,λi=>((bs.map (· != 0))[i]?).getD yw,rfl,W,st,λi v s' Q' E' hP hQ=>?_,λh' tk hk=>?_⟩
     ·obtain⟨t,e⟩:=Xmm hv hP;have hi:i<ll bs:=by rw[<-L];exact(Vd.mp hP).1
      rw[e];refine truthy_int ?_;simpa [hi] using hQ
     obtain⟨e3,k3⟩:=Y h' tk hk;rw[e3,L,<-Vl (as:=bs) (f:=(· != 0)),Xku (bs.map (· != 0)) _ λ_=>rfl,List.any_map];exact Xl I.sr (I.inv.kept k3)
  |_=>cases J rfl
theorem Xgv(ns:LI):∀k,k<=ll ns->preSum (λi=>(ns[i]?).getD 0) k=(ns.take k).sum
 |0=>λ_=>by simp[preSum]|k+1=>λh=>by
  have hk:k<ll ns:=by omega
  rw[preSum,Xgv ns k (by omega),Vd3 hk,List.sum_append];simp[hk]
theorem X89(hc:X.calm=yx):BlR X .smB (.builtin "sum"):=by
 intro pc s σ H ρ S env ds vs us E I rd rv J;match ds,rd,J with
 |[],_,J=>cases J rfl|_::_::_,_,J=>cases J rfl|[d],rd,J=>
  obtain⟨v,rfl,r1⟩:=rd.one;simp only[Xm]at J ⊢;cases e:Xq S d with
  |none=>rw[e]at J;cases J rfl|some xs=>
   rw[e]at J;simp only[V5]at J ⊢;cases e2:Xo xs with
   |none=>rw[e2]at J;cases J rfl|some ns=>
    dsimp only;have q:=Yl e2;subst q;cases rv with
    |cons ru rr=>
     cases rr;obtain⟨a,ws,its,rfl,hl,hr,hv,hz⟩:=I.seqI e r1 ru;have hw:=hr.ints_of;subst hw;have Y:(ll its)=ll ns:=by rw[<-hv.length];simp
     refine call_sum_walkAnyS (Xee (I.inv.ok.hd hc) hl λIt fp wr St L W st hf aa=>?_);refine⟨It,fp,wr,_,_,_,_,λi=>(ns[i]?).getD 0,rfl,W.toS,st,hf,λi v hP=>Xmm hv hP,λs' t' hm=>?_⟩;obtain⟨h1,h2,h3,h4,h5⟩:=hm;obtain⟨e3,k3⟩:=aa s'.heap s'.toks h1;have e4:s'={L with heap:=s'.heap,toks:=s'.toks}:=by cases s';cases L;simp only at h2 h3 h4;subst h2 h3 h4;rfl
     rw[e4,e3,Y,Xgv ns _ (Vf _),Vd5];exact Y6 I.sr (I.inv.kept k3)
theorem X42(L:X.calm=yx)(I:S0 X pc σ H s ρ S env)(rv:RelV (.int i) v')(Y:RelV (.int j) u'):Vi (Vj X.prog X.w) X.A (call (.builtin "max") [v',u']) (OkP X pc σ ρ H (Xm .max [.int i,.int j] S)) E s:=
 Xfw (Q':=λz H'=>z=.int (if j>i then j else i)/\H'=H) (Xsh L) I.inv (.cons rv (.cons Y .nil)) ⟨i,j,rfl,rfl,rfl⟩ λw s' z H' J rz ⟨e1,e2⟩=>by subst e1 e2;obtain⟨t,rfl⟩:=rz;exact Y6 I.sr J
theorem X43(Y:X.calm=yx){i j:Int}{v' L:Vb}(I:S0 X pc σ H s ρ S env)(rv:RelV (.int i) v')(ru:RelV (.int j) L):Vi (Vj X.prog X.w) X.A (call (.builtin "min") [v',L]) (OkP X pc σ ρ H (Xm .min [.int i,.int j] S)) E s:=
 Xfw (Q':=λz H'=>z=.int (if j<i then j else i)/\H'=H) (Xsi Y) I.inv (.cons rv (.cons ru .nil)) ⟨i,j,rfl,rfl,rfl⟩ λw s' z H' J rz ⟨e1,e2⟩=>by subst e1 e2;obtain⟨t,rfl⟩:=rz;exact Y6 I.sr J
theorem Xtf{k:Bl}{S:Sto}(hk:k=.max\/k=.min)(J:Xm k ds S≠.bad):∃i j,ds=[.int i,.int j]:=by
 rcases hk with rfl|rfl
 ·simp only[Xm]at J;split at J;·exact⟨_,_,rfl⟩
  ·cases J rfl
 simp only[Xm]at J;split at J;·exact⟨_,_,rfl⟩
 ·cases J rfl
theorem X9a(hc:X.calm=yx):BlR X .max (.builtin "max"):=by
 intro pc s σ H ρ S env ds vs us E I rd rv nb;obtain⟨i,j,rfl⟩:=Xtf (.inl rfl) nb;obtain⟨v,u,rfl,Y,r2⟩:=rd.two;simp only[RD]at Y r2;subst Y r2;cases rv with
 |cons ru L=>cases L with
  |cons J L=>cases L;exact X42 hc I ru J
theorem X9b(hc:X.calm=yx):BlR X .min (.builtin "min"):=by
 intro pc s σ H ρ S env ds vs us E I rd rv nb;obtain⟨i,j,rfl⟩:=Xtf (.inr rfl) nb;obtain⟨v,u,rfl,Y,r2⟩:=rd.two;simp only[RD]at Y r2;subst Y r2;cases rv with
 |cons ru L=>cases L with
  |cons J L=>cases L;exact X43 hc I ru J
def MtD(X:Cx)(k:Mt)(id:String):Prop:=
 ∀(pc:LA) (s:Vc) (σ:L2.St) (H:Hp) (ρ:LR) (S:Sto) (env:En) (d:D) (v:V) (u:Vb) (ds:LD) (vs:LW) (us:LV) (E:VP),S0 X pc σ H s ρ S env->RD X.K ρ H d v->RelV v u->RDs X.K ρ H ds vs->Vals vs us->Yv k d ds S≠.bad ->
  Vi (Vj X.prog X.w) X.A (call (.builtin id) (u::us)) (OkP X pc σ ρ H (Yv k d ds S)) E s
theorem Xi3{n:Nat}{a:Addr}{xs:LD}{vs:LW}{s':Vc}{d:D}{v:V}{u:Vb}(I:S0 X pc σ H s ρ S env)(ha:ρ[n]?=yz a)(hv:H a=yz (.lst ws))(J:Inv X pc σ (upd H a (.lst vs)) s')(rd:RDs X.K ρ H xs vs)(rv:RelV v u)(L:RD X.K ρ H d v):
  OkP X pc σ ρ H (.ok d (S.set n (.lst xs))) u s':=by
 have Y:∀o u,H a≠yz (.frz o u):=λo u z=>by rw[hv]at z;cases z
 have st:Stp X.K ρ ρ H (upd H a (.lst vs)):=Stp.chg (S:=S) (o:=.lst xs) I.sr ha Y;exact .mk st J rv (L.mono st) (I.sr.chg ha Y ⟨vs,Xp,rd.mono st⟩)
theorem Xwc:MtD X .append "list.append":=by
 intro pc s σ H ρ S env d v u ds vs us E I rd rv Y aa L;match d,ds,Y,rd,L with
 |.ref n,[x],Y,rd,L=>
  obtain⟨y,rfl,r1⟩:=Y.one;simp only[Yv]at L ⊢;cases e:Z.lstM S n with
  |none=>rw[e]at L;cases L rfl|some xs=>
   rw[e]at L;dsimp only at L ⊢;split at L;·rename_i hz;rw[iP0 hz];obtain⟨a,ws,rfl,ha,hv,hr⟩:=I.lstR e rd;refine mtd (Q':=λz H'=>z=.non/\H'=upd H a (.lst (ws++[y]))) Xkl I.inv rv aa ⟨a,ws,y,rfl,rfl,hv,by rw[<-hr.length];exact V8 hz Xew,rfl,rfl⟩ λw s' z H' J rz zz=>?_;obtain⟨e1,e2⟩:=zz;subst e1 e2;exact Xi3 I ha hv J (hr.append (.cons r1 .nil)) rz (by simp only[RD])
   ·cases L rfl
 |.ref n,[],_,_,L=>cases L rfl|.ref n,_::_::_,_,_,L=>cases L rfl|.non,ds,_,_,L=>cases L rfl|.bl _,ds,_,_,L=>cases L rfl|.int _,ds,_,_,L=>cases L rfl|.str _,ds,_,_,L=>cases L rfl|.tup _,ds,_,_,L=>cases L rfl|.fro _,ds,_,_,L=>cases L rfl
theorem X9c:MtD X .xtd "list.extend":=by
 intro pc s σ H ρ S env d v u ds vs us E I rd rv ab ac L;match d,ds,ab,rd,L with
 |.ref n,[x],ab,rd,L=>
  obtain⟨y,rfl,r1⟩:=ab.one;cases x with
  |ref k=>
   simp only[Yv]at L ⊢;cases e:Z.lstM S n with
   |none=>rw[e]at L;cases L rfl|some xs=>
    rw[e]at L;dsimp only at L ⊢;cases e2:Xc S k with
    |none=>rw[e2]at L;cases L rfl|some ys=>
     rw[e2]at L;dsimp only at L ⊢;split at L;·rename_i hz;rw[iP0 hz];obtain⟨a,ws,rfl,ha,hv,hr⟩:=I.lstR e rd;obtain⟨b,zs,rfl,hb,hw,hq⟩:=I.lstR e2 r1;refine mtd (Q':=λz H'=>z=.non/\H'=upd H a (.lst (ws++zs))) Xsj I.inv rv ac ⟨a,b,ws,zs,rfl,rfl,hv,hw,by rw[<-hr.length,<-hq.length];exact V4 hz Xew,rfl,rfl⟩ λw s' z H' J rz zz=>?_;obtain⟨e1,e2⟩:=zz;subst e1 e2;exact Xi3 I ha hv J (hr.append hq) rz (by simp only[RD])
     ·cases L rfl
  |tup ys=>
   simp only[Yv]at L ⊢;cases e:Z.lstM S n with
   |none=>rw[e]at L;cases L rfl|some xs=>
    rw[e]at L;dsimp only at L ⊢;split at L
    ·rename_i hz;rw[iP0 hz];obtain⟨a,ws,rfl,ha,hv,hr⟩:=I.lstR e rd;simp only[RD]at r1;obtain⟨b,zs,rfl,hs,hq⟩:=r1;cases rv;obtain⟨u2,rfl,ak⟩:=ac.one;cases ak;have ai:ws.length+ll zs<=V0:=by rw[<-hr.length,<-hq.length];exact V4 hz Xew
     obtain⟨z,its,c,ae,hl,eo⟩:=I.inv.lstM hv;obtain⟨Y,r2,⟨o2,e2,ah,n2,af⟩,al⟩:=I.inv.tuple hs;have am:=r2.length;have aj:its.toArray.size+Y.toArray.size<=V0:=by rw[Vn,Vn];omega
     have aa:¬ (!its.toArray.isEmpty&&Vco (its.toArray.size+Y.toArray.size))=true:=by rw[Xg1 aj,Vf2];exact Uu
     refine Vat F.slot_list_extend ⟨_,eo,rfl⟩ F.entry_list_extend ?_ (F.args_list_extend_2 _ _);show Vi _ _ (Vax (.ref a) (.ref b) .none) _ _ s;unfold Vax;refine Va (Vdg (T:="tuple") ⟨o2,e2,ah⟩ ?_);rw[iP0 (by rw[show(Vb0 "tuple" == Vb0 "tuple")=yx from rfl];simp)];refine Va (Vd6 e2 af (Va (Vd6 eo rfl ?_)));rw[iN0 aa];refine Va (Vds eo rfl (Vh ⟨_,rfl,?_⟩) (by rw[Vn];omega) (by rw[Array.size_append];omega));exact Xi3 I ha hv (I.inv.lset (its':=its++Y) hv eo (by simp) (ae.append r2) (by rw[V3];exact ai)) (hr.append hq) (show RelV .non Vbz from rfl) (by simp only[RD])
    cases L rfl
  |_=>cases L rfl
 |.ref n,[],_,_,L=>cases L rfl|.ref n,_::_::_,_,_,L=>cases L rfl|.non,ds,_,_,L=>cases L rfl|.bl _,ds,_,_,L=>cases L rfl|.int _,ds,_,_,L=>cases L rfl|.str _,ds,_,_,L=>cases L rfl|.tup _,ds,_,_,L=>cases L rfl|.fro _,ds,_,_,L=>cases L rfl
end
section
variable{X:Cx}{pc:LA}{σ:L2.St}{H:Hp}{s:Vc}{ρ:LR}{S S':Sto}{env:En}{a b c e:Expr}{fa fb fc:En->Sto->R D}{pos:Pos}
theorem Xza(ha:DE X a fa):DE X (.UnaryOp .USub a pos) (λenv S=>(fa env S).bind λx S=>match x with | .int i=>.ok (.int (-i)) S|_=>.bad):=by
 intro pc s σ H ρ S env I J;dsimp only at J ⊢;cases q:fa env S with
 |bad=>rw[q]at J;cases J rfl|ex n S1=>exact UnaryOp_ (ha.ex I q λx s' z=>⟨n,S1,rfl,z⟩)|ok x S1=>
  rw[q]at J;simp only[Rk0]at J ⊢;refine UnaryOp_ (ha.ok I q λu s1 v H1 aa Y rv rd L=>?_);cases x with
  |int i=>simp only[RD]at rd;subst rd;obtain⟨t,rfl⟩:=rv;exact neg_int (OkP.pre L (Y6 Y.sr (Y.inv.tok _)))|_=>cases J rfl
theorem X44(hc:DT X c (λenv S=>tst (fc env S)))(ha:DT X a (λenv S=>tst (fa env S)))(hb:DT X b (λenv S=>tst (fb env S))):
  DT X (.IfExp c a b pos) (λenv S=>tst ((fc env S).bind λx S=>match Xf S x with|some yx=>fa env S|some yw=>fb env S|none=>.bad)):=by
 intro pc s σ H ρ S env I J;dsimp only at J ⊢;show Vi _ _ (do if <- isTrue c X.env (eval c X.env) then isTrue a X.env (eval a X.env) else isTrue b X.env (eval b X.env)) _ _ s;cases q:fc env S with
 |bad=>rw[q]at J;cases J rfl|ex n S1=>exact Va (hc.ex I (by simp only[q];rfl) λx s' z=>⟨n,S1,rfl,z⟩)|ok x S1=>
  rw[q]at J;simp only[Rk0]at J ⊢;cases t:Xf S1 x with
  |none=>rw[t]at J;cases J rfl|some r=>
   rw[t]at J;refine Va (hc.ok I (by simp only[q];exact Xbl t) λs2 H2 Y I2 L=>?_);cases r with
   |true=>exact Vp (ha pc s2 σ H2 Y S1 env I2 J) (λw s3 ⟨S3,e3,H3,ρ3,J3,sr3,st3⟩=>⟨S3,e3,H3,ρ3,J3,sr3,L.trans st3⟩) λx s' z=>z.pre L|false=>exact Vp (hb pc s2 σ H2 Y S1 env I2 J) (λw s3 ⟨S3,e3,H3,ρ3,J3,sr3,st3⟩=>⟨S3,e3,H3,ρ3,J3,sr3,L.trans st3⟩) λx s' z=>z.pre L
noncomputable def Yz(J L:Co)(fa fb fc:En->Sto->R D)(env:En)(S:Sto):R D:=(fa env S).bind λx S=>(fb env S).bind λy S=>match Xw J x y S with
  |some yx=>(fc env S).bind λz S=>Xi L y z S|some yw=>.ok (.bl yw) S|none=>.bad
theorem Xmn(ah:Op2 X (Va3 (opC o1)) (Xi o1))(ha:DE X a fa)(hb:DE X b fb)(I:S0 X pc σ H s ρ S env)(nb:Yz o1 o2 fa fb fc env S≠.bad)
  {W:Vb->Vb->Bool->Vc->Prop} (hE:∀x s',ExP X pc σ ρ H (Yz o1 o2 fa fb fc env S) x s'->Ev x s')
  (hF:∀v u L S2 H2 J,Yz o1 o2 fa fb fc env S=.ok (.bl yw) S2->S0 X pc σ H2 L J S2 env->Stp X.K ρ J H H2->W v u yw L)
  (hT:∀v u L S2 y vy H2 J,Yz o1 o2 fa fb fc env S=((fc env S2).bind λz S=>Xi o2 y z S)->S0 X pc σ H2 L J S2 env->RelV vy u->RD X.K J H2 y vy->Stp X.K ρ J H H2->W v u yx L):
  Vi (Vj X.prog X.w) X.A (eval a X.env) (λv s1=>Vi (Vj X.prog X.w) X.A (eval b X.env) (λu s2=>Vi (Vj X.prog X.w) X.A (Va3 (opC o1) v u) (λd L=>∃r,d=.bool r/\W v u r L) Ev s2) Ev s1) Ev s:=by
 cases q:fa env S with
 |bad=>rw[Yz,q]at nb;cases nb rfl|ex n S1=>exact ha.ex I q λx s' z=>hE x s' ⟨n,S1,by rw[Yz,q];rfl,z⟩|ok x S1=>
  refine ha.ok I q λv s1 vx H1 ak I1 rv rd ab=>?_;cases q2:fb env S1 with
  |bad=>rw[Yz,q]at nb;simp only[Rk0]at nb;rw[q2]at nb;cases nb rfl|ex n S2=>exact hb.ex I1 q2 λx s' z=>hE x s' ⟨n,S2,by rw[Yz,q];simp only[Rk0];rw[q2];rfl,z.pre ab⟩|ok y S2=>
   refine hb.ok I1 q2 λu s2 vy H2 J I2 ru af aa=>?_
   have eq:Yz o1 o2 fa fb fc env S=(match Xw o1 x y S2 with
     |some yx=>(fc env S2).bind λz S=>Xi o2 y z S|some yw=>.ok (.bl yw) S2
     |none=>.bad):=by rw[Yz,q];simp only[Rk0];rw[q2];rfl
   cases q3:Xw o1 x y S2 with
   |none=>rw[eq,q3]at nb;cases nb rfl|some r=>
    have e3:Xi o1 x y S2=.ok (.bl r) S2:=by unfold Xi;rw[q3]
    refine Vp (ah pc s2 σ H2 J S2 env x y vx vy v u (λ_ _=>False) I2 (by rw[e3];exact λz=>nomatch z) (rd.mono aa) rv af ru) (λd L z=>?_) λ_ _ z=>z.elim;rw[e3]at z;obtain⟨d',S3,e4,w,H3,ac,J3,aj,ae,ai,Y⟩:=z;cases e4;simp only[RD]at ae;subst ae;cases aj;refine⟨r,rfl,?_⟩;have I3:S0 X pc σ H3 L ac S2 env:=I2.step J3 ai Y;cases r with
    |false=>exact hF v u L S2 H3 ac (by rw[eq,q3]) I3 (ab.trans (aa.trans Y))|true=>exact hT v u L S2 y vy H3 ac (by rw[eq,q3]) I3 ru (af.mono Y) (ab.trans (aa.trans Y))
theorem Xmo(ah:Op2 X (Va3 (opC o2)) (Xi o2))(hc:DE X c fc)(I:S0 X pc σ H s ρ S env)(ru:RelV vy u)(rd:RD X.K ρ H y vy)(st0:Stp X.K ρ0 ρ H0 H)
  (L:((fc env S).bind λz S=>Xi o2 y z S)≠.bad) (hE:∀x s',ExP X pc σ ρ0 H0 ((fc env S).bind λz S=>Xi o2 y z S) x s'->Ev x s')
  (hW:∀r S3 s3 H3 J,((fc env S).bind λz S=>Xi o2 y z S)=.ok (.bl r) S3->S0 X pc σ H3 s3 J S3 env->Stp X.K ρ0 J H0 H3->W (.bool r) s3):
  Vi (Vj X.prog X.w) X.A (eval c X.env) (λw s1=>Vi (Vj X.prog X.w) X.A (Va3 (opC o2) u w) W Ev s1) Ev s:=by
 cases q:fc env S with
 |bad=>rw[q]at L;cases L rfl|ex n S1=>exact hc.ex I q λx s' z=>hE x s' ⟨n,S1,by rw[q];rfl,z.pre st0⟩|ok z S1=>rw[q]at L;simp only[Rk0]at L;refine hc.ok I q λw s1 vz H1 ae I1 rv ac Y=>?_;obtain⟨r,e1,e2⟩:=Xfx L;refine Vp (ah pc s1 σ H1 ae S1 env y z vy vz u w (λ_ _=>False) I1 L (rd.mono Y) ru ac rv) (λd s3 zz=>?_) λ_ _ z=>z.elim;rw[e2]at zz;obtain⟨d',S3,e4,w',H3,J,J3,ai,ab,af,aa⟩:=zz;cases e4;simp only[RD]at ab;subst ab;cases ai;exact hW r S1 s3 H3 J (by rw[q];exact e2) (I1.step J3 af aa) (st0.trans (Y.trans aa))
theorem X9d(ac:Op2 X (Va3 (opC o1)) (Xi o1))(ae:Op2 X (Va3 (opC o2)) (Xi o2))(ha:DE X a fa)(hb:DE X b fb)(hc:DE X c fc)(hm:lastMarks [opC o1,opC o2] [b,c]=yw):
  DE X (.Compare a [opC o1,opC o2] [b,c] pos) (Yz o1 o2 fa fb fc):=by
 intro pc s σ H ρ S env I nb;refine Compare_chain (Vp (Xmn (W:=λv u r L=>if r=yx then Vi (Vj X.prog X.w) X.A (compareChain pos u [opC o2] [eval c X.env]) (OkP X pc σ ρ H (Yz o1 o2 fa fb fc env S)) (ExP X pc σ ρ H (Yz o1 o2 fa fb fc env S)) L else OkP X pc σ ρ H (Yz o1 o2 fa fb fc env S) (.bool yw) L) ac ha hb I nb (λ_ _ z=>z) ?_ ?_)
  (λv s1 h1=>chain_link (Vp h1 (λu s2 h2=>Vp h2 (λd L ⟨r,e,w⟩=>?_) λ_ _ z=>z) λ_ _ z=>z)) λ_ _ z=>z) hm
 ·intro v u L S2 H2 aa e Y J;rw[iN0 Uu,e];exact OkP.pre J (Xl Y.sr Y.inv)
 ·intro v u L S2 y vy H2 aa e Y ru rd J;rw[iP0 rfl];refine chain_last (Xmo ae hc Y ru rd J (by rw[<-e];exact nb) (λx s' z=>by rw[e];exact z) λr S3 s4 H3 af e3 I3 ab=>?_);rw[e,e3];exact OkP.pre ab (Xl I3.sr I3.inv)
 ·subst e;refine Vbl ?_;cases r with
  |true=>rw[iP0 rfl]at w;exact ite_tt w|false=>rw[iN0 Uu]at w;exact ite_ff w
theorem X45(ab:Op2 X (Va3 (opC o1)) (Xi o1))(ac:Op2 X (Va3 (opC o2)) (Xi o2))(ha:DE X a fa)(hb:DE X b fb)(hc:DE X c fc)(hm:lastMarks [opC o1,opC o2] [b,c]=yw):
  DT X (.Compare a [opC o1,opC o2] [b,c] pos) (λenv S=>tst (Yz o1 o2 fa fb fc env S)):=by
 intro pc s σ H ρ S env I nb;dsimp only at nb ⊢;have Y:Yz o1 o2 fa fb fc env S≠.bad:=λz=>nb (by rw[z];rfl);have ex:∀x s',ExP X pc σ ρ H (Yz o1 o2 fa fb fc env S) x s'->ExP X pc σ ρ H (tst (Yz o1 o2 fa fb fc env S)) x s':=λx s' ⟨n,S1,e,z⟩=>⟨n,S1,by rw[e];rfl,z⟩
 refine isTrue_chain (Vp (Xmn (W:=λv u r s3=>if r=yx then Vi (Vj X.prog X.w) X.A (testChain pos u [opC o2] [eval c X.env]) (λb s'=>∃S',tst (Yz o1 o2 fa fb fc env S)=.ok b S'/\∃H' ρ',Inv X pc σ H' s'/\SR X.K ρ' S' H'/\Stp X.K ρ ρ' H H') (ExP X pc σ ρ H (tst (Yz o1 o2 fa fb fc env S))) s3
   else ∃S',tst (Yz o1 o2 fa fb fc env S)=.ok yw S'/\∃H' ρ',Inv X pc σ H' s3/\SR X.K ρ' S' H'/\Stp X.K ρ ρ' H H') ab ha hb I Y ex ?_ ?_)
  (λv s1 h1=>test_link (Vp h1 (λu s2 h2=>Vp h2 (λd s3 ⟨r,e,w⟩=>?_) λ_ _ z=>z) λ_ _ z=>z)) λ_ _ z=>z) hm
 ·intro v u s3 S2 H2 L e I2 J;rw[iN0 Uu,e];exact⟨S2,rfl,H2,L,I2.inv,I2.sr,J⟩
 ·intro v u s3 S2 y vy H2 L e I2 ru rd J;rw[iP0 rfl];refine test_last (Xmo ac hc I2 ru rd J (by rw[<-e];exact Y) (λx s' z=>ex x s' (by rw[e];exact z)) λr S3 s4 H3 ae e3 I3 aa=>?_);exact Vbl ⟨S3,by rw[e,e3];rfl,H3,ae,I3.inv,I3.sr,aa⟩
 ·subst e;refine Vbl ?_;cases r with
  |true=>rw[iP0 rfl]at w;exact ite_tt w|false=>rw[iN0 Uu]at w;exact ite_ff w
variable{x:Str}{p:Pos}{es:LX}{g:En->Sto->R (LD)}{k:Bl}{id T:String}
theorem X46 (hB:BlR X k (.builtin id)) (hg:Gl X x) (hm:X.mg x=yy) (hv:Vd0 x=yz (.builtin id)) (ha:DA X (e::es) g) (hn:x ≠ "__name__") (ab:(x==("__debug__" : Str))=yw)
  (he:Uk (e::es) X.env=(yw,eval e X.env)::Uk es X.env) (L:(Vb2 pos (Uk es X.env)).any (·.1)=yw):DE X (.Call (.Name x p) (e::es) [] pos) (λenv S=>(g env S).bind λxs S=>Xm k xs S):=by
 intro pc s σ H ρ S env I J;dsimp only at J ⊢;refine Vbv (Xaz I.inv hg hm hv ?_ hn ab);cases q:g env S with
 |bad=>rw[q]at J;cases J rfl|ex n S1=>exact Vcu (ha.ex I q λx s' z=>⟨n,S1,rfl,z⟩) he L|ok ds S1=>rw[q]at J;refine Vcu (ha.ok I q λus s1 vs H1 Y I1 rv rd aa=>?_) he L;exact Vp (hB pc s1 σ H1 Y S1 env ds vs us (λ_ _=>False) I1 rd rv J) (λw s2 z=>z.pre aa) λ_ _ z=>z.elim
theorem X47 (hB:BlR X k (.type T)) (hg:Gl X x) (hm:X.mg x=yy) (hv:Vd0 x=yz (.type T)) (ha:DA X (e::es) g) (hn:x ≠ "__name__") (ab:(x==("__debug__" : Str))=yw)
  (he:Uk (e::es) X.env=(yw,eval e X.env)::Uk es X.env) (L:(Vb2 pos (Uk es X.env)).any (·.1)=yw):DE X (.Call (.Name x p) (e::es) [] pos) (λenv S=>(g env S).bind λxs S=>Xm k xs S):=by
 intro pc s σ H ρ S env I J;dsimp only at J ⊢;refine Vbv (Xaz I.inv hg hm hv ?_ hn ab);cases q:g env S with
 |bad=>rw[q]at J;cases J rfl|ex n S1=>exact Va9 (ha.ex I q λx s' z=>⟨n,S1,rfl,z⟩) he L|ok ds S1=>rw[q]at J;refine Va9 (ha.ok I q λus s1 vs H1 Y I1 rv rd aa=>?_) he L;exact Vp (hB pc s1 σ H1 Y S1 env ds vs us (λ_ _=>False) I1 rd rv J) (λw s2 z=>z.pre aa) λ_ _ z=>z.elim
theorem X9e (hg:Gl X x) (L:X.mg x=yz u) (hd:∀ ρ H,∃v,RelV v u/\RD X.K ρ H d v) (J:(x==("__debug__" : Str))=yw):DE X (.Name x p) (λ_ S=>.ok d S):=by intro pc s σ H ρ S env I nb;obtain⟨v,Y,rd⟩:=hd ρ H;exact Xdo I.inv hg L (.mk .refl I.inv Y rd I.sr) J
theorem Xh0 (slot:Slot "list" name id) (ah:typeOf (.builtin id)=pure (.type "method_descriptor")) (hM:MtD X m id) (hr:∀x S,Xaf m x S=yx->∃n xs,x=.ref n/\Xc S n=yz xs) (ho:DE X o fo) (ha:DA X (e::es) g)
  (aa:attributeBase o name X.env (eval o X.env)=eval o X.env)
  (ab:((Vb2 cpos (Uk (e::es) X.env)).all (λx=>!x.1)&&(backToKw cpos (keywordEach [] X.env)).all (λx=>x.1.isSome)&&decide ((e::es).length+([]:List Keyword).length+(if ([]:List Keyword).isEmpty then 0 else 1)<30))=yx)
  (Y:(apos.endLine==cpos.line)=yx) (hs:Uk (e::es) X.env=(yw,eval e X.env)::Uk es X.env) (J:(Vb2 cpos (Uk es X.env)).any (·.1)=yw):
  DE X (.Call (.Attribute o name apos) (e::es) [] cpos) (λenv S=>(fo env S).bind λx S=>if Xaf m x S then (g env S).bind λxs S=>Yv m x xs S else .bad):=by
 intro pc s σ H ρ S env I L;dsimp only at L ⊢;cases q:fo env S with
 |bad=>rw[q]at L;cases L rfl|ex n S1=>exact wpAny_Call_method_late aa ab Y rfl (ho.ex I q λx s' z=>⟨n,S1,rfl,z⟩)|ok x S1=>
  rw[q]at L;simp only[Rk0]at L ⊢;split at L
  ·rename_i hk;rw[iP0 hk];obtain⟨n,xs,rfl,hx⟩:=hr x S1 hk;refine wpAny_Call_method_late aa ab Y rfl (ho.ok I q λv s1 vx H1 ak I1 rv rd ae=>?_);obtain⟨a,ws,rfl,k1,k2,k3⟩:=I1.lstR hx rd;cases rv;obtain⟨its,_,pl,_⟩:=I1.inv.list (.of k2);refine⟨"list",id,PySem.F.plainAttrs_list,slot,ah,pl.isList.typeIs,λb eb=>?_,?_⟩;·cases eb;obtain⟨ob,n',e1,c1,hd,_⟩:=pl;exact⟨ob,e1,hd⟩
   ·cases q2:g env S1 with
    |bad=>rw[q2]at L;cases L rfl|ex k S2=>have hA:=ha.ex (pos:=cpos) (E:=ExP X pc σ ρ H (.ex k S2:R D)) (Q:=λus s2=>Vi (Vj X.prog X.w) X.A (call (.builtin id) (.ref a::us)) (OkP X pc σ ρ H (.ex k S2)) (ExP X pc σ ρ H (.ex k S2:R D)) s2) I1 q2 λx s' z=>.mk ae z;rw[hs]at hA ⊢;exact Calls.callWith_builtin (by show(yw||(Vb2 cpos (Uk es X.env)).any (·.1))=yw;rw[J];rfl) (Vgz hA)|ok ds S2=>rw[q2]at L;simp only[Rk0]at L ⊢;have hA:=ha.ok (pos:=cpos) (E:=ExP X pc σ ρ H (Yv m (.ref n) ds S2)) (Q:=λus s2=>Vi (Vj X.prog X.w) X.A (call (.builtin id) (.ref a::us)) (OkP X pc σ ρ H (Yv m (.ref n) ds S2)) (ExP X pc σ ρ H (Yv m (.ref n) ds S2)) s2) I1 q2 λus s2 vs H2 af I2 ai aj ac=>Vp (hM pc s2 σ H2 af S2 env (.ref n) (.ref a) (.ref a) ds vs us (λ_ _=>False) I2 (rd.mono ac) rfl aj ai L) (λw s3 z=>z.pre (ae.trans ac)) λ_ _ z=>z.elim;rw[hs]at hA ⊢;exact Calls.callWith_builtin (by show(yw||(Vb2 cpos (Uk es X.env)).any (·.1))=yw;rw[J];rfl) (Vgz hA)
  cases L rfl
end
section
variable{X:Cx}{pc:LA}{σ:L2.St}{H:Hp}{s:Vc}{ρ:LR}{S:Sto}{env:En}
theorem Xmp:∀(ts:LS) (k:Nat) (acc:Str),(textFrom k acc ts).length<=acc.length+piled ts
 |[]=>λk acc=>by simp[textFrom,piled]|t::ts=>λk acc=>by
  have ih:=Xmp ts (k+1) (acc++(if k>0 then ", " else "" : String)++t);have e:(Val (if k>0 then ", " else "")).length<=2:=by split<;>decide
  rw[textFrom,piled_cons];simp only[Vhw]at ih;omega
mutual
theorem Xmq:∀p:Vcs,p.showable=yx->Xax p=yx->p.shown.length<=szD p
 |.none=>λ_ _=>by simp only[Ve2,szD];decide|.bool b=>λ_ _=>by simp only[Ve2,szD];cases b<;>decide|.int i=>λh _=>by
  simp only[Vav,decide_eq_true_eq]at h;simp only[Ve2,szD,szI];rw[PySem.ofString_length];split;·rename_i c;exact int_text_length_le10 (k:=3) (by decide) c
  ·have:=int_text_length_le (by decide) h;omega|.str x=>λ_ _=>by simp only[Ve2,szD];exact Vf _|.list xs=>λh h2=>by
  simp only[Vav]at h;simp only[Xax]at h2;have ih:=shownAll_le xs h h2;simp only[Ve2,szD,listText,Vhw];have:=Xmp (Vcv xs) 0 "[";have Y:(Val "[").length=1:=by decide
  have L:(Val "]").length=1:=by decide
  omega|.tuple xs=>λh h2=>by
  simp only[Vav]at h;simp only[Xax]at h2;have ih:=shownAll_le xs h h2;simp only[Ve2,szD,tupleText,Vhw];have Y:(Val "(").length=1:=by decide
  have L:(Val (if (Vcv xs).length==1 then ",)" else ")")).length<=2:=by split<;>decide
  have e3:(Str.join ", " (Vcv xs)).length<=piled (Vcv xs):=by
   cases e:Vcv xs with
   |nil=>decide|cons t ts=>have:=join_length_add (t::ts) (by simp);omega
  omega|.dict J=>λ_ h2=>by
  simp only[Xax]at h2;cases J with
  |nil=>simp only[Ve2,PyData.shownKv,szD];decide|cons x r=>cases h2
theorem shownAll_le:∀ps:List Vcs,Vbw ps=yx->dctEs ps=yx->piled (Vcv ps)<=szDs ps
 |[]=>λ_ _=>by simp[Vcv,szDs,piled]|p::ps=>λh h2=>by simp only[Vbw,bA0]at h;simp only[dctEs,bA0]at h2;have i1:=Xmq p h.1 h2.1;have i2:=shownAll_le ps h.2 h2.2;rw[Vcv,piled_cons,szDs];omega
end
theorem X48(aa:∃o,X.K.lookup Vdw=yz o)(hg:X.A.guards=yz [])(hu:X.A.units+200<Vcb):BlR X .repr (.builtin "repr"):=by
 intro pc s σ H ρ S env ds vs us E I rd rv J;match ds,rd,J with
 |[],_,J=>cases J rfl|d::_::_,_,J=>cases d<;>cases J rfl|[d],rd,J=>
  obtain⟨v,rfl,r1⟩:=rd.one;obtain⟨u,rfl,ru⟩:=rv.one;simp only[Xm]at J ⊢;cases e:Xeu S d with
  |none=>rw[e]at J;cases J rfl|some t=>
   dsimp only;unfold Xeu at e;cases e1:Xam S d with
   |none=>rw[e1]at e;cases e|some p=>
    rw[e1]at e;dsimp only at e;split at e
    ·rename_i hz;simp only[bA0,decide_eq_true_eq]at hz;obtain⟨⟨⟨z1,z2⟩,z3⟩,z4⟩:=hz;cases e;obtain⟨as,rr,L⟩:=Xs2 I aa e1 r1 ru;have Y:p.shown.length<=V0:=Xa2 (V4 (Xmq p z1 z2) z4);have ref:∀a,u=.ref a->Vi (Vj X.prog X.w) X.A (call (.builtin "repr") [u]) (OkP X pc σ ρ H (.ok (.str p.shown) S)) E s:=λa ea=>by
      subst ea;exact repr_of_reads' rr z1 (λ_=>L) hg (by omega) (λ_ _ q=>q) (λh' u tk hk=>Xhx I.sr (I.inv.kept hk)) Y
     cases rr with
     |none=>exact PySem.P.repr_of_none (Xhx I.sr (I.inv.tok _))|bool b=>exact PySem.P.repr_of_bool (by cases b<;>exact Xhx I.sr (I.inv.tok _))|int i t=>exact PySem.P.repr_of_int (by simpa only[Vav,decide_eq_true_eq] using z1) (Xhx I.sr (I.inv.tok _))|str x t=>exact PySem.P.repr_of_str (Xhx I.sr (I.inv.tok _)) Y|_=>exact ref _ rfl
    cases e
theorem X9f:BlR X .itB (.type "int"):=by
 intro pc s σ H ρ S env ds vs us E I rd rv J;match ds,rd,J with
 |[],_,J=>cases J rfl|d::_::_,_,J=>cases d<;>cases J rfl|[d],rd,J=>
  obtain⟨v,rfl,L⟩:=rd.one;obtain⟨u,rfl,Y⟩:=rv.one;cases d with
  |bl b=>simp only[RD]at L;subst L;cases Y;simp only[Xm];refine call_int_bool ?_;cases b<;>exact Y6 I.sr (I.inv.tok _)|_=>cases J rfl
theorem Xon{prog:Ua}{w:Uq}{A:Uy}{E:VP}{s:Vc}{l:Addr}{vs:LV}{Q:LV->Vc->Prop}(hl:Vcl s.heap l vs.toArray)(aa:(ll vs)<=V0)
  (h:Q vs {s with heap:=(s.heap.push (Ub "list" #[] 0)).update s.heap.objs.size (Vz (·++vs.toArray))}):Vi (Vj prog w) A (collect (.ref l)) Q E s:=by
 obtain⟨o,ho,Y,n,hd⟩:=id hl;unfold collect;refine Va (wpAny_runValue (Vfl entry_proto_collect' ?_));show Vi _ _ (do again (.builtin "list.__iadd__" ⟨[<-newList [],.ref l],[]⟩)) _ _ s;refine Va (Vgj (Vh ⟨Code.quiet_builtin _ (by decide+kernel),Vfl entry_list_iadd' ?_⟩));show Vi _ _ (Vax (.ref s.heap.objs.size) (.ref l) (.ref s.heap.objs.size)) _ _ {s with heap:=s.heap.push (Ub "list" #[] 0)};unfold Vax;have J:(s.heap.push (Ub "list" #[] 0)).get? l=yz o:=Vo _ ho;refine Va (Vdg (T:="tuple") ⟨o,J,Y⟩ ?_);have L:(Vb0 "tuple" == Vb0 "tuple")=true:=by rfl
 rw[iP0 (by rw[L];simp)];refine Va (Vd6 J hd (Va (Vd6 (xs:=#[]) (n:=0) (Vw _ rfl) rfl ?_)));rw[iN0 (by simp)];refine Va (Vds (xs:=#[]) (n:=0) (Vw _ rfl) rfl (Vh ?_) (Um _) (by show(#[]++vs.toArray).size<=V0+1;simp only[Array.size_append,Vn,Vfm];omega));show Vi (Vj prog w) A (load s.heap.objs.size >>= _) Q E {s with heap:=(s.heap.push (Ub "list" #[] 0)).update s.heap.objs.size (Vz (·++vs.toArray))};refine Va (wpAny_load (Vei (Vw _ rfl) _) ?_);show Vi _ _ (pure ((#[]:AV)++vs.toArray).toList) Q E _;rw[show((#[]:AV)++vs.toArray).toList=vs by simp];exact Vh h
theorem Xmr:∀ {bs:List Bool} {us:LV},Vals (bs.map V.bl) us->us=bs.map Ve6
 |[],_,.nil=>rfl|b::bs,_,.cons r t=>by cases r;rw[Xmr t];rfl
theorem Xpj{K:Ve}{ρ:LR}{H:Hp}:∀ {bs:List Bool} {J:LW},RDs K ρ H (bs.map D.bl) J->J=bs.map V.bl
 |[],J,h=>by simp only[Uj,RDs]at h;exact h|b::bs,J,h=>by simp only[Uj,RDs]at h;obtain⟨v,r,rfl,h1,h2⟩:=h;simp only[RD]at h1;subst h1;rw[Xpj h2];rfl
theorem Xtg(I:S0 X pc σ H s ρ S env){n:Nat}{xs:LD}{bs:List Bool}{v:V}(h:Xc S n=yz xs)(hb:X8 xs=yz bs)(r:RD X.K ρ H (.ref n) v):∃a k,v=.ref a/\s.heap.get? a=yz {cls:=.type "list",data:=.seq (bs.map Ve6).toArray k}:=by obtain⟨a,J,rfl,ha,L,Y⟩:=I.lstR h r;obtain⟨_,its,k,rv,e⟩:=(show ObjOk X.prog X.w H s.heap a (.lst J) from I.inv.hok a _ L);have e1:=Xa9 hb;subst e1;have e2:=Xpj Y;subst e2;rw[Xmr rv]at e;exact⟨a,k,rfl,e⟩
theorem X49(hk:k=.count)(J:Yv k d ds S≠.bad):∃n b,d=.ref n/\ds=[.bl b]:=by
 subst hk
 ·(
  cases d with
  |ref n=>
   cases ds with
   |nil=>cases J rfl|cons x r=>
    cases r with
    |nil=>
     cases x with
     |bl b=>exact⟨n,b,rfl,rfl⟩|_=>cases J rfl
    |cons _ _=>cases J rfl
  |_=>exact aB0 rfl J)
theorem X0r:MtD X .count "list.count":=by
 intro pc s σ H ρ S env d v u ds vs us E I rd rv Y L J;obtain⟨n,b,rfl,rfl⟩:=X49 rfl J;obtain⟨y,rfl,r1⟩:=Y.one;simp only[RD]at r1;subst r1;obtain⟨w,rfl,aa⟩:=L.one;cases aa;simp only[Yv]at J ⊢;cases e:Xc S n with
 |none=>rw[e]at J;cases J rfl|some xs=>
  rw[e]at J;simp only[V5]at J ⊢;cases e2:X8 xs with
  |none=>rw[e2]at J;cases J rfl|some bs=>
   dsimp only;obtain⟨a,k,rfl,ha⟩:=Xtg I e e2 rd;cases rv;refine Vec PySem.F.slot_list_count ⟨_,ha,rfl⟩ PySem.F.entry_list_count (PySem.F.args_list_count_2 _ _) (SeqAt.list_countAt a _ k yy #[] (.bool b) λy=>match y with|.bool c=>c==b|_=>yw) ⟨ha,λy hy=>?_,?_⟩
   ·have ab:y∈bs.map Ve6:=by simpa using hy
    obtain⟨c,_,rfl⟩:=U5.mp ab;exact SeqAt.EqAt.bool_bool c b
   have ec:(bs.map Ve6).countP (λy=>match y with|.bool c=>c==b|_=>yw)=bs.countP (· == b):=by rw[List.countP_map];rfl
   simp only[List.toList_toArray]at *;rw[ec];exact Y6 I.sr (I.inv.tok _)
theorem X5a(J:Yv .index d ds S≠.bad):∃n x,d=.ref n/\ds=[x]/\((∃b,x=.bl b)\/∃i,x=.int i):=by
 cases d with
 |ref n=>
  cases ds with
  |nil=>cases J rfl|cons x r=>
   cases r with
   |nil=>
    cases x with
    |bl b=>exact⟨n,_,rfl,rfl,.inl ⟨b,rfl⟩⟩|int i=>exact⟨n,_,rfl,rfl,.inr ⟨i,rfl⟩⟩|_=>cases J rfl
   |cons _ _=>cases J rfl
 |_=>cases J rfl
theorem Xkv:∀ {us:LV} {ns:LI} {i:Nat} {v:Vb},Va0 us ns->us[i]?=yz v->∃c t,ns[i]?=yz c/\v=.int c t
 |_,_,i,v,.nil,h=>by simp at h|_,_,0,v,.cons n t r,h=>by cases h;exact⟨n,t,rfl,rfl⟩|_,_,i+1,v,.cons n t r,h=>by obtain⟨c,J,h1,h2⟩:=Xkv (i:=i) r (by simpa using h);exact⟨c,J,by simpa using h1,h2⟩
theorem X0s:MtD X .index "list.index":=by
 intro pc s σ H ρ S env d v u ds vs us E I rd rv aj ai J;obtain⟨n,x,rfl,rfl,hx⟩:=X5a J;rcases hx with⟨b,rfl⟩|⟨i0,rfl⟩
 ·obtain⟨y,rfl,r1⟩:=aj.one;simp only[RD]at r1;subst r1;obtain⟨w,rfl,ae⟩:=ai.one;cases ae;simp only[Yv]at J ⊢;cases e:Xc S n with
  |none=>rw[e]at J;cases J rfl|some xs=>
   rw[e]at J;simp only[V5]at J ⊢;cases Y:X8 xs with
   |none=>rw[Y]at J;cases J rfl|some bs=>
    rw[Y]at J;dsimp only at J ⊢;cases e3:bs.findIdx? (· == b) with
    |none=>rw[e3]at J;cases J rfl|some i=>
     dsimp only;obtain⟨a,k,rfl,ha⟩:=Xtg I e Y rd;cases rv;obtain⟨hi,h1,h2⟩:=Vge.mp e3;have ak:(ll bs)<=V0:=by obtain⟨a',ws,_,_,hv,hr⟩:=I.lstR e rd;obtain⟨z,_⟩:=(show ObjOk X.prog X.w H s.heap a' (.lst ws) from I.inv.hok a' _ hv);rw[<-hr.length,Xa9 Y,Vl]at z;exact z
     have ab:(i:Int)<2^63-1:=by
      have:V0<2^62:=by decide
      have an:(2:Int)^63-1=9223372036854775807:=by decide
      have al:(2:Nat)^62=4611686018427387904:=by decide
      omega
     refine Vec Vgc ⟨_,ha,rfl⟩ Vh5 (Vh2 _ _) (SeqAt.list_indexAt a (bs.map Ve6).toArray k yy #[] (.bool b) (λy=>match y with|.bool c=>c==b|_=>yw) i (by simpa using hi) ab (by simpa using h1) λm hm ah=>?_) ⟨ha,λy hy=>?_,Y6 I.sr (I.inv.tok _)⟩;·have:=h2 m ah;simpa using this
     ·have am:y∈bs.map Ve6:=by simpa using hy
      obtain⟨c,_,rfl⟩:=U5.mp am;exact SeqAt.EqAt.bool_bool c b
 obtain⟨y,rfl,r1⟩:=aj.one;simp only[RD]at r1;subst r1;obtain⟨w,rfl,ae⟩:=ai.one;obtain⟨tk,rfl⟩:=ae;simp only[Yv]at J ⊢;cases e:Xc S n with
 |none=>rw[e]at J;cases J rfl|some xs=>
  rw[e]at J;simp only[V5]at J ⊢;cases Y:Xo xs with
  |none=>rw[Y]at J;cases J rfl|some ns=>
   rw[Y]at J;dsimp only at J ⊢;cases e3:ns.findIdx? (· == i0) with
   |none=>rw[e3]at J;cases J rfl|some i=>
    dsimp only;obtain⟨a,ws,rfl,_,hv,hr⟩:=I.lstR e rd;obtain⟨ak,its,k,ao,ha⟩:=(show ObjOk X.prog X.w H s.heap a (.lst ws) from I.inv.hok a _ hv);have q:=Yl Y;subst q;have ew:=hr.ints_of;subst ew;have hI:=Xa0 ao;have aa:(ll its)=ll ns:=hI.length;rw[Vl]at ak;cases rv;obtain⟨hi,h1,h2⟩:=Vge.mp e3;have ab:(i:Int)<2^63-1:=by
     have:V0<2^62:=by decide
     have an:(2:Int)^63-1=9223372036854775807:=by decide
     have al:(2:Nat)^62=4611686018427387904:=by decide
     omega
    have af:∀m (hm:m<its.toArray.size),∃c t,ns[m]?=yz c/\its.toArray[m]=.int c t:=λm hm=>by
     have ac:m<ll its:=by simpa using hm
     obtain⟨c,t,L,z2⟩:=Xkv hI (Uh ac);exact⟨c,t,L,by simpa using z2⟩
    refine Vec Vgc ⟨_,ha,rfl⟩ Vh5 (Vh2 _ _) (SeqAt.list_indexAt a its.toArray k yy #[] (.int i0 tk) (λy=>match y with|.int c _=>c==i0|_=>yw) i (by rw[Vn,aa];exact hi) ab ?_ λm hm ah=>?_) ⟨ha,λy hy=>?_,Y6 I.sr (I.inv.tok _)⟩;·obtain⟨c,t,L,z2⟩:=af i (by rw[Vn,aa];exact hi);rw[z2];rw[Uh hi]at L;cases L;exact h1
    ·obtain⟨c,t,L,z2⟩:=af m hm;rw[z2];have ac:m<ll ns:=by omega
     rw[Uh ac]at L;cases L;have:=h2 m ah;simpa using this
    obtain⟨m,hm,rfl⟩:=Vct.mp (show y∈its by simpa using hy);obtain⟨c,t,L,z2⟩:=af m (by simpa using hm);have z3:its[m]=.int c t:=by simpa using z2
    rw[z3];exact SeqAt.EqAt.int_int c t i0 tk
variable{prog:Ua}{w:Uq}{A:Uy}{E:VP}
theorem X5b(h:Q (decide (x<y)) s):Vi (Vj prog w) A (oneLt' b (.int x t) (.int y u)) Q E s:=by
 cases b with
 |true=>exact PySem.W.kat_lt_int h|false=>exact PySem.W.kat_one _ _ (lt_int (show PySem.W.BoolBack Q _ s from h))
theorem X5c(ha:Va0 us xs):∀(ys:LI) (vs:LV) (i:Nat),Va0 vs ys->Q (ltL xs ys) s->PySem.W.KatLex prog w A yx (decide (ll us<ll vs)) Q (us.zip vs) i s:=by
 induction ha with
 |nil=>intro ys vs i hb h;cases hb<;>exact h|@cons x t us xs ha ih=>
  intro ys vs i hb h;cases hb with
  |nil=>exact h|@cons y u vs ys hb=>
   have hl:decide (ll us+1<ll vs+1)=decide (ll us<ll vs):=decide_eq_decide.mpr Nat.add_lt_add_iff_right;simp only[U4,Vfv,hl];simp only[ltL]at h;refine PySem.W.kat_cons (Vgl (PySem.W.kat_go (λe=>?_) λe=>?_));·rw[iP0 (eq_of_beq e)]at h;exact PySem.W.kat_yes (ih ys vs (i+1) hb h)
   ·rw[iN0 (λz=>by rw[z,beq_self_eq_true]at e;cases e)]at h;exact PySem.W.kat_no (X5b h)
end
def Row(h:Heap)(k:LI)(u:Vb):Prop:=∃a us,u=.ref a/\Vcl h a us.toArray/\Va0 us k
theorem Row.keep(r:Row h k u)(kp:∀b o,h.get? b=yz o->h'.get? b=yz o):Row h' k u:=by obtain⟨a,us,e,⟨o,L,J⟩,hi⟩:=r;exact⟨a,us,e,⟨o,kp _ _ L,J⟩,hi⟩
theorem Xbm:∀ {xs:LD} {ks:LL},Yy xs=yz ks->xs=ks.map λk=>.tup (k.map D.int)
 |[],ks,h=>by cases h;rfl|x::xs,ks,h=>by
  cases x with
  |tup ds=>
   simp only[Yy]at h;cases e:Xo ds with
   |none=>rw[e]at h;cases h|some k=>
    rw[e]at h;dsimp only at h;cases J:Yy xs with
    |none=>rw[J]at h;cases h|some r=>rw[J]at h;cases h;rw[Yl e,Xbm J];rfl
  |_=>cases h
inductive RowsV(h:Heap):LL->LV->Prop
 |nil:RowsV h [] []
 |cons {k:LI} {u:Vb} {ks:LL} {vs:LV}:Row h k u->RowsV h ks vs->RowsV h (k::ks) (u::vs)
theorem Xwd{h:Heap}{ks:LL}{its:LV}(r:RowsV h ks its):ks.all (λk=>!k.isEmpty)=yx->∃fs,PySem.W.KatTups h its fs/\(ll fs)=ll its/\∀v∈fs,∃n t,v=Value.int n t:=by
 induction r with
 |nil=>exact λ_=>⟨[],.nil,rfl,λv J=>by cases J⟩|cons hr _ ih=>
  intro L;rw[Vby,bA0]at L;obtain⟨a,us,rfl,⟨o,ho,hc,n,hd⟩,hi⟩:=hr;obtain⟨fs,f1,f2,f3⟩:=ih L.2;cases hi with
  |nil=>simp at L|cons x t Y=>
   refine⟨.int x t::fs,.cons ho hc hd rfl f1,by simp[f2],λv J=>?_⟩;rcases V2.mp J with rfl|J;·exact⟨x,t,rfl⟩
   ·exact f3 v J
inductive FsV:LL->List (OV)->Prop
 |nil:FsV [] []
 |non {ks:LL} {fs:List (OV)}:FsV ks fs->FsV ([]::ks) (yy::fs)
 |som {x:Int} {t:Tok} {k:LI} {ks:LL} {fs:List (OV)}:FsV ks fs->FsV ((x::k)::ks) (yz (.int x t)::fs)
theorem RowsV.of{α:Type}{h:Heap}{f:α->LI}{g:α->Vb}:∀(l:List α),(∀q∈l,Row h (f q) (g q))->RowsV h (l.map f) (l.map g)
 |[],_=>.nil|q::l,hr=>.cons (hr q U3) (RowsV.of l λp J=>hr p (Uv _ J))
theorem FsV.all{ks:LL}{fs:List (OV)}(f:FsV ks fs):(fs.all λx=>x.isSome)=ks.all (λk=>!k.isEmpty):=by
 induction f with
 |nil=>rfl|non _ ih=>simp|som _ ih=>simp[ih]
section
variable{M:Model}{A:Uy}{E:VP}{s:Vc}
theorem Xwe {k:LI} {u:Vb} (r:Row s.heap k u) {Q:VP} (h:Q (.type "tuple") s):Vi M A (typeOf u) Q E s:=by obtain⟨a,us,rfl,⟨o,L,J,_⟩,_⟩:=r;exact Vdg (T:="tuple") ⟨o,L,J⟩ h
theorem Xoo{ks:LL}{vs:LV}(r:RowsV s.heap ks vs):∀ {Q:List (OV)->Vc->Prop},(∀fs,FsV ks fs->Q fs s)->Vi M A (vs.mapM firstOfTuple') Q E s:=by
 induction r with
 |nil=>intro Q h;rw[List.mapM_nil];exact Vh (h _ .nil)|cons hr _ ih=>
  intro Q h;rw[List.mapM_cons];refine Va ?_;obtain⟨a,us,rfl,⟨o,J,Y,n,hd⟩,hi⟩:=hr;rw[PySem.W.kas_first_eq];refine Va (Vdg (T:="tuple") ⟨o,J,Y⟩ ?_);rw[iN0 (by decide)];refine Va (Vd6 J hd (Vh ?_));cases hi with
  |nil=>exact Va (ih λfs hf=>Vh (h _ (.non hf)))|cons x t L=>exact Va (ih λfs hf=>Vh (h _ (.som hf)))
theorem Xq6{ks:LL}{vs:LV}(r:RowsV s.heap ks vs)(h2:0<ll ks)(Y:(ks.all λk=>!k.isEmpty)=yw){Q:Vdb->Vc->Prop}(h1:Q general' s)(h3:Q oneType' s):Vi M A (keyKind' vs.toArray) Q E s:=by
 rw[PyProof.Rows.kat_kind_eq,List.mapM_toArray,map_eq_pure_bind];refine Va (Va (Xoo r λfs hf=>Vh ?_));have J:(fs.toArray.all λx=>x.isSome)=false:=by rw[List.all_toArray,hf.all];exact Y
 rw[J];simp only[Ui,if_false];split;·exact Vh h1
 ·rw[oneTypeOnly'_eq,List.mapM_toArray,map_eq_pure_bind];have ty:∀v∈vs,∀(Q':VP),Q' (.type "tuple") s->Vi M A (typeOf v) Q' E s:=by
   clear h1 h3 hf J Y;induction r with
   |nil=>intro v L;cases L|cons hr _ ih=>
    intro v L Q' hq;rcases V2.mp L with rfl|L;·exact Xwe hr hq
    ·rename_i aa ab _ _;cases hk:aa with
     |nil=>subst hk;rename_i r';cases r';cases L|cons _ _=>exact ih (by rw[hk];simp) v L Q' hq
  refine Va (Va (Va (PySem.W.kas_mapM (r:=Vb0 "tuple") _ ty (Vh ?_))));split
  ·split;·exact Vh (Vh h3)
   ·exact Vh (Vh h1)
  exact Vh (Vh h1)
end
theorem Xi4:∀a:LI,ltL a a=yw
 |[]=>rfl|x::a=>by simp[ltL,Xi4 a]
theorem Xms:∀a b c:LI,ltL a b=yx->ltL b c=yx->ltL a c=yx
 |[],[],_=>λh _=>by cases h|[],_::_,[]=>λ_ h=>by cases h|[],_::_,_::_=>λ_ _=>rfl|_::_,[],_=>λh _=>by cases h|_::_,_::_,[]=>λ_ h=>by cases h|x::a,y::b,z::c=>λh1 h2=>by
  simp only[ltL]at h1 h2 ⊢;split at h1
  ·rename_i e;subst e;split at h2;·rename_i e;subst e;rw[iP0 rfl];exact Xms a b c h1 h2
   ·rename_i e;rw[iN0 e];exact h2
  rename_i e;split at h2;·rename_i J;subst J;rw[iN0 e];exact h1
  ·rw[decide_eq_true_eq]at h1 h2;rw[iN0 (by omega)];exact decide_eq_true (by omega)
theorem Xi5:∀a b:LI,a≠b->ltL a b=yw->ltL b a=yx
 |[],[]=>λh _=>aB0 rfl h|[],_::_=>λ_ h=>by cases h|_::_,[]=>λ_ _=>rfl|x::a,y::b=>λh h1=>by
  simp only[ltL]at h1 ⊢;split at h1;·rename_i e;subst e;rw[iP0 rfl];exact Xi5 a b (λz=>h (by rw[z])) h1
  ·rename_i e;rw[decide_eq_false_iff_not]at h1;rw[iN0 (Ne.symm e)];exact decide_eq_true (by omega)
theorem Xh1{a b:LI}(h:ltL a b=yx):ltL b a=false:=by
 cases e:ltL b a with
 |false=>rfl|true=>have:=Xms _ _ _ h e;rw[Xi4]at this;cases this
theorem Xpk{a b c:LI}(h1:ltL b a=yw)(h2:ltL c b=yw):ltL c a=false:=by
 cases e:ltL c a with
 |false=>rfl|true=>
  by_cases q:c=b;·subst q;rw[e]at h1;cases h1
  ·rw[Xms _ _ _ (Xi5 _ _ q h2) e]at h1;cases h1
abbrev leL(a b:LI):Prop:=ltL b a=yw
def WkL(l:LL):Prop:=l.Pairwise leL
theorem Xth{α:Type}(f:α->LI):∀ {l:List α},ll l<2->WkL (l.map f)
 |[],_=>.nil|[_],_=>Vc5 _ _
theorem Xpl:∀ {l m:LL},l.Perm m->WkL l->WkL m->l=m
 |[],m,p,_,_=>(List.Perm.nil_eq p)|a::l,[],p,_,_=>aB0 p.length_eq (by simp)|a::l,b::m,p,h1,h2=>by
  unfold WkL at h1 h2;rw[Vej]at h1 h2;have e:a=b:=by
   rcases V2.mp (p.mem_iff.mp U3) with e|ha;·exact e
   ·rcases V2.mp (p.mem_iff.mpr U3) with e|hb;·exact e.symm
    ·have J:ltL b a=false:=h1.1 b hb;have L:ltL a b=false:=h2.1 a ha;exact Classical.byContradiction λq=>by rw[Xi5 _ _ q L]at J;cases J
  subst e;rw[Xpl ((List.perm_cons a).mp p) h1.2 h2.2]
theorem Xez(k:LI):∀l,(Xiy k l).Perm (k::l)
 |[]=>Vhc _|y::r=>by
  unfold Xiy;split;·exact Vhc _
  ·exact((Xez k r).cons y).trans (List.Perm.swap _ _ _)
theorem Xb4:∀l,(Xab l).Perm l
 |[]=>Vhc _|k::r=>(Xez k _).trans ((Xb4 r).cons k)
theorem Xpm(k:LI):∀l,WkL l->WkL (Xiy k l)
 |[]=>λ_=>Vc5 _ _|y::r=>λh=>by
  unfold WkL at h;rw[Vej]at h;unfold Xiy;split
  ·rename_i c;refine Vej.mpr ⟨λz hz=>?_,Vej.mpr h⟩;rcases V2.mp hz with rfl|hz;·exact Xh1 c
   ·exact Xpk (Xh1 c) (h.1 z hz)
  rename_i c;refine Vej.mpr ⟨λz hz=>?_,Xpm k r h.2⟩;rcases V2.mp ((Xez k r).mem_iff.mp hz) with rfl|hz;·exact Bool.eq_false_iff.mpr c
  ·exact h.1 z hz
theorem Xpn:∀l,WkL (Xab l)
 |[]=>Vhs|k::r=>Xpm k _ (Xpn r)
theorem Xmt{l m:LL}(p:l.Perm m)(h:WkL l):l=Xab m:=Xpl (p.trans (Xb4 m).symm) h (Xpn m)
theorem Xti{us:LV}{k:LI}(h:Va0 us k):∀ {k'},Va0 us k'->k=k':=by
 induction h with
 |nil=>intro k' h;cases h;rfl|cons x t _ ih=>intro k' h;cases h with|cons _ _ h=>rw[ih h]
theorem Row.same{h:Heap}{k k':LI}{u:Vb}(r:Row h k u)(r':Row h k' u):k=k':=by obtain⟨a,us,rfl,⟨o,ho,_,n,hd⟩,hi⟩:=r;obtain⟨a',aa,e,⟨o',J,_,n',L⟩,Y⟩:=r';cases e;rw[ho]at J;cases J;rw[hd]at L;cases L;exact Xti hi Y
open Classical in
noncomputable def rk(h:Heap)(u:Vb):LI:=if q:∃k,Row h k u then choose q else []
theorem Xlj{h:Heap}{k:LI}{u:Vb}(r:Row h k u):rk h u=k:=by have q:∃k,Row h k u:=⟨k,r⟩;unfold rk;rw[dif_pos q];exact(Classical.choose_spec q).same r
section
variable{prog:Ua}{w:Uq}{A:Uy}{E:VP}{s:Vc}
theorem Xwf(h:Heap):Ord λx y=>ltL (rk h x.1) (rk h y.1):=⟨λa b=>Xpk a b,λa=>Xh1 a⟩
def Kd3(κ:Vdb):Prop:=κ=tuples' yx\/κ=general'\/κ=oneType'
theorem Xtj{κ:Vdb}(hu:A.units<Vcb)(af:Kd3 κ):Xeq prog w A E s κ (λx y=>ltL (rk s.heap x.1) (rk s.heap y.1)) λx=>∃k,Row s.heap k x.1:=by
 rintro ⟨x,x'⟩ ⟨y,y'⟩ st Q ⟨k,hx⟩ ⟨k',hy⟩ hk hQ;dsimp only at hx hy hQ;rw[Xlj hx,Xlj hy]at hQ;rw[lt'_eq];refine Vs (wpS_get (Vs ?_));rw[hk];obtain⟨a1,ah,rfl,⟨o1,aa,ab,n1,L⟩,hi1⟩:=hx;obtain⟨a2,ae,rfl,⟨o2,Y,ac,n2,J⟩,hi2⟩:=hy;refine wpS_lift (Vfc ?_);have fin:(λ(c:Bool) s'=>s'=s/\wpS (Vj prog w) A E s (match (Except.ok c:Except Vb Bool) with|.ok b=>pure (yz b)|.error e=>do modify (λs=>Vgu (Vah s) (Vr s) (Ug s) (gallopOf s) (yz e));pure yy) Q st) (ltL k k') s:=⟨rfl,Vx hQ⟩;rcases af with rfl|rfl|rfl;·refine PySem.W.kat_lt aa L Y J ?_;simp only[Vn];exact X5c hi1 k' ae 0 hi2 fin
 ·exact Xmc (b:=yw) hu ⟨o1,aa,ab,n1,L⟩ ⟨o2,Y,ac,n2,J⟩ hi1 hi2 fin
 exact Xmc (b:=yx) hu ⟨o1,aa,ab,n1,L⟩ ⟨o2,Y,ac,n2,J⟩ hi1 hi2 fin
noncomputable abbrev Kvs:=List (LI×Vb×Vb)
theorem Xi6(qs:Kvs):((qs.map (·.2.1)).toArray.zip (qs.map (·.2.2)).toArray).toList=qs.map (·.2):=by
 rw[Array.toList_zip];induction qs with
 |nil=>rfl|cons q qs ih=>show _::_=_::_;congr 1
theorem Xmu{β:Type}{qs:Kvs}{f:V1->Sem β}{Q:β->Vc->Prop}(hu:A.units<Vcb)(hq:∀q∈qs,Row s.heap q.1 q.2.1)(h0:0<ll qs)
  (h:∀st (J:Kvs),J.Perm qs->WkL (J.map (·.1))->(Vr st).map (·.2)=(J.map (·.2.2)).toArray->Vb3 st=yy->Vi (Vj prog w) A (f st) Q E s):
  Vi (Vj prog w) A (keyKind' (qs.map (·.2.1)).toArray >>= fun κ=>((sortRuns').run (Vgu κ ((qs.map (·.2.1)).toArray.zip (qs.map (·.2.2)).toArray) #[] 7 yy)) >>= λx=>f x.2) Q E s:=by
 have run:∀ κ,Kd3 κ->Vi (Vj prog w) A (((sortRuns').run (Vgu κ ((qs.map (·.2.1)).toArray.zip (qs.map (·.2.2)).toArray) #[] 7 yy)) >>= λx=>f x.2) Q E s:=fun κ aa=>by
  have mm:∀x∈((qs.map (·.2.1)).toArray.zip (qs.map (·.2.2)).toArray).toList,∃q∈qs,x=q.2:=λx hx=>by rw[Xi6]at hx;obtain⟨q,h1,h2⟩:=U5.mp hx;exact⟨q,h1,h2.symm⟩
  have ez:=Xi6 qs;generalize (qs.map λq:LI×Vb×Vb=>q.2.1).toArray.zip (qs.map λq=>q.2.2).toArray=a0 at ez mm ⊢;have sr:=X4d (prog:=prog) (w:=w) (A:=A) (E:=E) (s:=s) (κ:=κ) (Xwf s.heap) (Xtj hu aa) (a₀:=a0) (λx hx=>?m) (st:=Vgu κ a0 #[] 7 yy) rfl rfl rfl rfl
   (Q:=λ_ st=>∃J:Kvs,J.Perm qs/\WkL (J.map λq=>q.1)/\(Vr st).map (·.2)=(J.map λq=>q.2.2).toArray/\Vb3 st=yy) λst hf hs=>?f
  unfold wpS at sr;refine Va (Vp sr (λr s' hr=>?r) λ_ _ e=>e)
  case m=>obtain⟨q,h1,rfl⟩:=mm x hx;exact⟨q.1,hq q h1⟩
  case f=>
   obtain⟨p,pw⟩:=hs;rw[ez]at p;obtain⟨J,Y,r2⟩:=Xko p qs rfl;refine⟨J,Y,?_,?_,hf⟩;·rw[r2,Vcy]at pw;unfold WkL;rw[Vcy];refine pw.imp_of_mem λ{a b} ha hb z=>?_;have z':ltL (rk s.heap b.2.1) (rk s.heap a.2.1)=false:=z;rw[Xlj (hq a (Y.mem_iff.mp ha)),Xlj (hq b (Y.mem_iff.mp hb))]at z';exact z'
   ·apply Array.toList_inj.mp;rw[Array.toList_map,r2,Vam];rfl
  case r=>obtain⟨rfl,J,Y,r2,r3,r4⟩:=hr;exact h r.2 J Y r2 r3 r4
 have L:∀(M:Model) (h:Heap) (v:Vb),(∃n t,v=Value.int n t)->PySem.W.Looks M h (typeOf v) (.type "int"):=λM h v z=>by obtain⟨n,t,rfl⟩:=z;exact .now
 have rv:=RowsV.of (f:=λq:LI×Vb×Vb=>q.1) (g:=λq=>q.2.1) qs hq;cases en:((qs.map (·.1)).all λk=>!k.isEmpty) with
 |true=>obtain⟨fs,f1,f2,f3⟩:=Xwd rv en;exact Va (PySem.W.kat_kind (T:=.type "int") f1 (by rw[f2,Vl];exact h0) (λv hv=>L _ _ v (f3 v hv)) rfl (run _ (.inl rfl)))|false=>exact Va (Xq6 rv (by rw[Vl];exact h0) en (run _ (.inr (.inl rfl))) (run _ (.inr (.inr rfl))))
theorem Row.ne {h:Heap} {a:Addr} {xs:AV} {n:Nat} {k:LI} {u:Vb} {h':Heap} (Y:h.get? a=yz (Ub "list" xs n)) (kp:∀b o,b≠a->h.get? b=yz o->h'.get? b=yz o) (r:Row h k u):Row h' k u:=by obtain⟨b,us,e,⟨o,J,L⟩,hi⟩:=r;refine⟨b,us,e,⟨o,kp _ _ (λz=>?_) J,L⟩,hi⟩;rw[z,Y]at J;cases J;exact aB0 (show Vb0 "list"=Vb0 "tuple" from L.1) (by decide)
noncomputable def Xwg(x e:Nat):Sem PySem.Fin:=if x != e then do
  rule "list.sort.modified"
  (raiseError "ValueError" "list modified during sort" : Sem PUnit)
  ret .none
 else ret .none
noncomputable def Xwh(a:Addr)(e:Nat)(st:V1):Sem PySem.Fin:=do
 let x <- seqEpoch a
 Builtin.List.listUpdate (.ref a) λ_=>(Vr st).map (·.2)
 match Vb3 st with
 |some v=>do
  rule "list.sort.comparison-raised"
  (throw v:Sem PUnit)
  Xwg x e|_=>Xwg x e
theorem X5d {a:Addr} {qs:List (LI×Vb)} {n:Nat} {P:PySem.Fin->Vc->Prop} (hu:A.units<Vcb) (ho:s.heap.get? a=yz (Ub "list" (qs.map (·.2)).toArray n)) (hl:(ll qs)<100000) (hq:∀q∈qs,Row s.heap q.1 q.2)
  (h:∀J:List (LI×Vb),J.Perm qs->WkL (J.map (·.1))->P (.done (.ret .none)) {s with heap:=sortedHeap s.heap a (qs.map (·.2)) (J.map (·.2)).toArray}):Vi (Vj prog w) A (Vb1.«list.sort» ⟨[.ref a],[]⟩) P E s:=by
 have sl:=Vdd;have Y:(qs.map (·.2)).toArray.size<=V0:=by rw[Vn,Vl];omega
 obtain⟨e1,o1⟩:∃e1,(s.heap.update a (Vz λ_=>(#[]:AV))).get? a=yz (Ub "list" #[] e1):=⟨_,Vei ho λ_=>#[]⟩;have up:∀b o,(s.heap.update a (Vz λ_=>(#[]:AV))).get? b=yz o->(((s.heap.update a (Vz λ_=>(#[]:AV))).push (Ub "tuple" (qs.map (·.2)).toArray 0)).push (Ub "list" #[] 0)).get? b=yz o:=λb o q=>Vo _ (Vo _ q);have kp:∀b o,b≠a->s.heap.get? b=yz o->(((s.heap.update a (Vz λ_=>(#[]:AV))).push (Ub "tuple" (qs.map (·.2)).toArray 0)).push (Ub "list" #[] 0)).get? b=yz o:=λb o hb q=>up b o ((Vc6 _ _ _ _ hb).trans q);have o2:=up a _ o1;rw[list_sort_plain];refine Va (Vd6 ho rfl (Va (Vds ho rfl (Va (seqEpoch_at o1 rfl (Va (wpAny_newTuple (Va (Vgj (Vas ?_) (Um _))) Y)))) Y (Um _))));change Vi (Vj prog w) A _ P E {s with heap:=((s.heap.update a (Vz λ_=>(#[]:AV))).push (Ub "tuple" (qs.map (·.2)).toArray 0)).push (Ub "list" #[] 0)};have fin:∀(st:V1) (J:List (LI×Vb)),J.Perm qs->WkL (J.map (·.1))->(Vr st).map (·.2)=(J.map (·.2)).toArray->Vb3 st=yy->Vi (Vj prog w) A (Xwh a e1 st) P E {s with heap:=((s.heap.update a (Vz λ_=>(#[]:AV))).push (Ub "tuple" (qs.map (·.2)).toArray 0)).push (Ub "list" #[] 0)}:=λst J r1 r2 L r4=>by unfold Xwh;refine Va (seqEpoch_at o2 rfl (Va (Vds o2 rfl ?_ (Um _) (by rw[L,Vn,Vl,r1.length_eq];omega))));rw[L,r4];dsimp only;unfold Xwg;rw[bne_self_eq_false];exact Vh (h J r1 r2)
 have zz:(qs.map (·.2)).toArray.size=ll qs:=by rw[Vn,Vl]
 by_cases q:(ll qs)<2
 ·have q':(qs.map (·.2)).toArray.size<2:=by rw[zz];exact q
  dsimp only;rw[iP0 q',iP0 q'];refine Va (Vh ?_);rw[StateT.run_pure];refine Va (Vh (fin _ qs (.refl _) ?_ ?_ rfl));·exact Xth _ q
  ·show((qs.map (·.2)).toArray.zip (qs.map (·.2)).toArray).map (·.2)=_;apply Array.toList_inj.mp;rw[Array.toList_map,Array.toList_zip,List.map_snd_zip (Vf _)]
 ·have q':¬ (qs.map (·.2)).toArray.size<2:=by rw[zz];exact q
  dsimp only;rw[iN0 q',iN0 q'];have e2:(qs.map λq=>(q.1,q.2,q.2)).map (λq:LI×Vb×Vb=>q.2.1)=qs.map (·.2):=by rw[Vam];rfl
  have e3:(qs.map λq=>(q.1,q.2,q.2)).map (λq:LI×Vb×Vb=>q.2.2)=qs.map (·.2):=by rw[Vam];rfl
  have:=Xmu (prog:=prog) (w:=w) (A:=A) (E:=E) (s:={s with heap:=((s.heap.update a (Vz λ_=>(#[]:AV))).push (Ub "tuple" (qs.map (·.2)).toArray 0)).push (Ub "list" #[] 0)}) (qs:=qs.map λq=>(q.1,q.2,q.2)) (Q:=P) (f:=Xwh a e1) hu (λp hp=>by
    obtain⟨q,aa,rfl⟩:=U5.mp hp;exact(hq q aa).ne ho kp) (by rw[Vl];omega) λst J r1 r2 L r4=>by
    obtain⟨ts,t1,rfl⟩:=Xko r1 _ rfl;rw[Vam]at r2 L;exact fin st ts t1 r2 L r4
  rw[e2,e3]at this;exact this
theorem Xop{l:Addr}{vs:LV}{Q:LV->Vc->Prop}(hl:s.heap.IsList l vs.toArray\/Vcl s.heap l vs.toArray)(J:(ll vs)<=V0)
  (h:Q vs {s with heap:=(s.heap.push (Ub "list" #[] 0)).update s.heap.objs.size (Vz (·++vs.toArray))}):Vi (Vj prog w) A (collect (.ref l)) Q E s:=by
 rcases hl with hl|hl;·exact collect_list hl h J
 ·exact Xon hl J h
theorem Xtk{l:Addr}{qs:List (LI×Vb)}{Q:VP}(hu:A.units+9<Vcb)(hl:s.heap.IsList l (qs.map (·.2)).toArray\/Vcl s.heap l (qs.map (·.2)).toArray)(h5:(ll qs)<100000)(hq:∀q∈qs,Row s.heap q.1 q.2)
  (h:∀L:List (LI×Vb),L.Perm qs->WkL (L.map (·.1))->Q (.ref (s.heap.objs.size+1)) {s with heap:=sortedAll s.heap (qs.map (·.2)) (L.map (·.2)).toArray}):Vi (Vj prog w) A (call (.builtin "sorted") [.ref l]) Q E s:=by
 have sl:=Vdd;have J:(qs.map (·.2)).length<=V0:=by rw[Vl];omega
 have sz:((s.heap.push (Ub "list" #[] 0)).update s.heap.objs.size (Vz (·++(qs.map (·.2)).toArray))).objs.size=s.heap.objs.size+1:=by rw[Heap.size_update,size_push']
 have oL:(((s.heap.push (Ub "list" #[] 0)).update s.heap.objs.size (Vz (·++(qs.map (·.2)).toArray))).push (Ub "list" (qs.map (·.2)).toArray 0)).get? (s.heap.objs.size+1)=yz (Ub "list" (qs.map (·.2)).toArray 0):=sz▸Vw _ rfl;have aa:∀b o,s.heap.get? b=yz o->(((s.heap.push (Ub "list" #[] 0)).update s.heap.objs.size (Vz (·++(qs.map (·.2)).toArray))).push (Ub "list" (qs.map (·.2)).toArray 0)).get? b=yz o:=λb o q=>Vo _ ((Vc6 _ _ _ _ (Up (Vy q))).trans (Vo _ q));refine Calls.call_function_entry kind_sorted plain_sorted entry_sorted (args_sorted1 _) ?_;unfold Vb1.«sorted»;refine Va (m:=checkCount "sorted" 1 1 _) (Vh (Va (Xop hl J (Va (Vgj ?_ J)))));change Vi _ _ _ _ _ {s with heap:=((s.heap.push (Ub "list" #[] 0)).update s.heap.objs.size (Vz (·++(qs.map (·.2)).toArray))).push (Ub "list" (qs.map (·.2)).toArray 0)};rw[sz];refine Va (Vas (Vat slot_list_sort ⟨_,oL,rfl⟩ entry_list_sort (X5d (by simp only[Around.in1_units];omega) oL h5 (λq Y=>(hq q Y).keep aa) λL r1 r2=>⟨_,rfl,?_⟩) (args_list_sort _)));exact Vh ⟨_,rfl,h L r1 r2⟩
end
noncomputable abbrev Xa1(k:LI):D:=.tup (k.map D.int)
section
variable{X:Cx}{pc:LA}{σ:L2.St}{H:Hp}{s:Vc}{ρ:LR}{S:Sto}{env:En}
def X5e(X:Cx)(ρ:LR)(H:Hp)(k:LI)(u:Vb):Prop:=∃v,RD X.K ρ H (Xa1 k) v/\RelV v u
theorem X5f{k:LI}{v:V}{u:Vb}(I:Inv X pc σ H s)(hd:RD X.K ρ H (Xa1 k) v)(J:RelV v u):Row s.heap k u:=by simp only[RD]at hd;obtain⟨b,zs,rfl,hs,hz⟩:=hd;have L:=hz.ints_of;subst L;cases J;obtain⟨us,h1,h2,_⟩:=I.tuple hs;exact⟨b,us,rfl,h2,Xa0 h1⟩
theorem Xf1(I:Inv X pc σ H s):∀(ks:LL) (L:LW) (its:LV),RDs X.K ρ H (ks.map Xa1) L->Vals L its->∃qs:List (LI×Vb),qs.map (·.1)=ks/\qs.map (·.2)=its/\∀q∈qs,Row s.heap q.1 q.2/\X5e X ρ H q.1 q.2
 |[],L,its,hr,rv=>by simp only[Vcp,RDs]at hr;subst hr;cases rv;exact⟨[],rfl,rfl,λq J=>by cases J⟩|k::ks,L,its,hr,rv=>by
  simp only[U6,RDs]at hr;obtain⟨v,r,rfl,h1,h2⟩:=hr;cases rv with
  |@cons _ u _ us Y h4=>
   obtain⟨qs,e1,e2,e3⟩:=Xf1 I ks r us h2 h4;refine⟨(k,u)::qs,by rw[U6,e1],by rw[U6,e2],λq J=>?_⟩;rcases V2.mp J with rfl|J;·exact⟨X5f I h1 Y,v,h1,Y⟩
   ·exact e3 q J
theorem Xi7{f:LI->LI}:∀(J:List (LI×Vb)),(∀q∈J,X5e X ρ H (f q.1) q.2)->∃zs,RDs X.K ρ H ((J.map λq=>f q.1).map Xa1) zs/\Vals zs (J.map (·.2))
 |[],_=>⟨[],.nil,.nil⟩|q::J,h=>by obtain⟨zs,L,z2⟩:=Xi7 J λp Y=>h p (Uv _ Y);obtain⟨v,h1,h2⟩:=h q U3;exact⟨v::zs,.cons h1 L,.cons h2 z2⟩
theorem Xmv{E:VP}{l:Addr}{ws:LW}{its:LV}{ks r:LL}(hu:X.A.units+200<Vcb)(I:S0 X pc σ H s ρ S env)(hl:s.heap.IsList l its.toArray\/Vcl s.heap l its.toArray)(hr:RDs X.K ρ H (ks.map Xa1) ws)(aa:Vals ws its)(e3:Xg3 ks=yz r):
  Vi (Vj X.prog X.w) X.A (call (.builtin "sorted") [.ref l]) (OkP X pc σ ρ H (.ok (.ref (ll S)) (S++[.lst (r.map Xa1)]))) E s:=by
 obtain⟨qs,rfl,rfl,hq⟩:=Xf1 I.inv ks ws its hr aa;unfold Xg3 at e3;obtain⟨h5,rfl⟩:(ll qs)<100000/\r=Xab (qs.map (·.1)):=by
  by_cases c:(qs.map λq=>q.1).length<100000;·rw[iP0 c,Vq]at e3;rw[Vl]at c;exact⟨c,e3.symm⟩
  ·rw[iN0 c]at e3;cases e3
 refine Xtk (by omega) hl h5 (λq h=>(hq q h).1) λY r1 r2=>?_;have e4:=Xmt (r1.map (·.1)) r2;obtain⟨zs,z1,z2⟩:=Xi7 (f:=id) Y λq h=>(hq q (r1.mem_iff.mp h)).2;rw[show(Y.map λq=>id q.1)=Y.map (·.1) from rfl,e4]at z1;obtain⟨e8,ab⟩:=sortedAll_at s.heap (qs.map (·.2)) (Y.map (·.2)).toArray;have L:s.heap.objs.size<=s.heap.objs.size+1:=Vff _;have J:=I.inv.laid (o:=.lst zs) (t':=s.toks) (h':=sortedAll s.heap (qs.map (·.2)) (Y.map (·.2)).toArray) (λb u hb=>sortedAll_old hb) L
  ⟨by rw[z2.length,Vl,r1.length_eq,Vdd];omega,Y.map (·.2),e8,z2,by simpa [Ub] using ab⟩
 exact Xa3 J (I.inv.hok.fresh L) I.sr z1
theorem X9g(hu:X.A.units+200<Vcb):BlR X .srt (.builtin "sorted"):=by
 intro pc s σ H ρ S env ds vs us E I rd rv J;match ds,rd,J with
 |[],_,J=>cases J rfl|d::_::_,_,J=>cases d<;>cases J rfl|[d],rd,J=>
  obtain⟨v,rfl,r1⟩:=rd.one;obtain⟨u,rfl,ru⟩:=rv.one;cases d with
  |ref n=>
   simp only[Xm]at J ⊢;cases e:Xc S n with
   |none=>rw[e]at J;cases J rfl|some xs=>
    rw[e]at J;simp only[V5]at J ⊢;cases L:Yy xs with
    |none=>rw[L]at J;cases J rfl|some ks=>
     rw[L]at J;dsimp only at J ⊢;cases Y:Xg3 ks with
     |none=>rw[Y]at J;cases J rfl|some r=>dsimp only;have q:=Xbm L;subst q;obtain⟨a,ws,rfl,ha,hv,hr⟩:=I.lstR e r1;obtain⟨ae,its,c,aa,eo⟩:=(show ObjOk X.prog X.w H s.heap a (.lst ws) from I.inv.hok a _ hv);cases ru;exact Xmv hu I (.inl ⟨_,eo,rfl,c,rfl⟩) hr aa Y
  |tup xs=>
   simp only[Xm]at J ⊢;cases L:Yy xs with
   |none=>rw[L]at J;cases J rfl|some ks=>
    rw[L]at J;dsimp only at J ⊢;cases Y:Xg3 ks with
    |none=>rw[Y]at J;cases J rfl|some r=>dsimp only;have q:=Xbm L;subst q;simp only[RD]at r1;obtain⟨b,zs,rfl,ac,ab⟩:=r1;cases ru;obtain⟨us,u1,u2,_⟩:=I.inv.tuple ac;exact Xmv hu I (.inr u2) ab u1 Y
  |_=>cases J rfl
end
def PwL(l:LL):Prop:=l.Pairwise λa b=>ltL a b=yx
theorem PwL.wk{l:LL}(h:PwL l):WkL l:=List.Pairwise.imp (λ{a b} z=>Xh1 z) h
theorem Xmw:∀(n:Nat) (l:LD) (x:D),Yj n (l++[x])=Yj n l++[.tup [.int (n+ll l:Nat),x]]
 |n,[]=>λx=>by simp only[Uz,Yj,Vfm,Vex]|n,y::l=>λx=>by
  have ih:=Xmw (n+1) l x;simp only[Vbg,Yj,ih,U4];have e:n+1+ll l=n+(ll l+1):=by omega
  rw[e]
theorem Xwi(h:a≠b):upd (upd H a o) b u=upd (upd H b u) a o:=by
 funext c;unfold upd;by_cases h1:c=a;·subst h1;simp[h]
 ·by_cases h2:c=b;·subst h2;simp[h1]
  ·simp[h1,h2]
section
variable{X:Cx}{pc:LA}{σ:L2.St}{ρ:LR}{S:Sto}
theorem Xtl(h:Rd H a u)(hp:H p=yy):Rd (upd H p o) a u:=by
 rcases h with h|⟨ob,h⟩;·exact .inl ((Xe (Xj h hp)).trans h)
 ·exact .inr ⟨ob,(Xe (Xj h hp)).trans h⟩
theorem Xi8{k:Bool}{K:Ve}{H:Hp}{a p:Addr}{vs:LW}{o:HO}(h:SqH k K H a vs)(hp:H p=yy):SqH k K (upd H p o) a vs:=by
 cases k
 ·rcases h with h|h;·exact .inl (Xtl h hp)
  ·exact .inr h
 rcases h with h|h;·exact .inl (Xtl h hp)
 ·exact .inr h
theorem Xmx(h:Xag X pc H b)(hb:b≠p):Xag X pc (upd H p o) b:=⟨(Xe hb).trans h.1,h.2⟩
theorem Xkw{R:Result->Vc->Prop}{k:Bool}{xs:LD}{ws:LW}(hA:A.in1.handled=yy)(aj:e≠it)(hz:(ll ws)<=V0):
  ∀(m i:Nat) (s:Vc) (Y:Hp) (rs:LW),i+m=ll ws->Inv X pc σ (upd Y L (.lst rs)) s->(∀b∈[e,it],Xag X pc (upd Y L (.lst rs)) b)->EnA s.heap e it i->ItK k s.heap it a i->SqH k X.K Y a ws->Y L=yy->SR X.K ρ S Y->RDs X.K ρ Y xs ws->RDs X.K ρ Y (Yj 0 (xs.take i)) rs ->
  (∀s' aa af,Inv X pc σ (upd aa L (.lst af)) s'->aa L=yy->Stp X.K ρ ρ Y aa->SR X.K ρ S aa->RDs X.K ρ aa (Yj 0 xs) af->R (.ok (.ret res)) s') ->
  Vdh (Vj X.prog X.w) A (.builtin "list.extend.loop" ⟨[.ref L,.ref e,res],[]⟩) R s
 |0=>λi s Y rs hm J hf en io ae hL sr rd rn hR=>by
  have ap:(ll xs)=ll ws:=rd.length;obtain⟨its,rv,p⟩:=Xi1 J (Xi8 ae hL);have hl:=rv.length;refine Vfl F.entry_extend_loop ?_;rw[Around.under_plainId Vfh _];show Vi _ A.in1 (pyNext (.ref e) >>= _) _ _ s;refine Va (Xmj hA en io p (by simp;omega) λh' kp=>?_);have J':Inv X pc σ (upd Y L (.lst rs)) {s with heap:=h',toks:=s.toks}:=Xf0 (t':=s.toks) J hf λc o hc z=>by simp only[V2,Vai,or_false,not_or]at hc;exact kp c o hc.2 z
  have e1:xs.take i=xs:=Vap (by omega);rw[e1]at rn;exact Vh (hR _ Y rs J' hL .refl sr rn)|m+1=>λi s Y rs hm J hf en io ae hL sr rd rn hR=>by
  have ap:(ll xs)=ll ws:=rd.length;obtain⟨its,rv,p⟩:=Xi1 J (Xi8 ae hL);have hl:=rv.length;obtain⟨v,hv⟩:∃v,ws[i]?=yz v:=⟨ws[i]'(by omega),Uh _⟩;obtain⟨x,hx⟩:∃x,xs[i]?=yz x:=⟨xs[i]'(by omega),Uh _⟩;obtain⟨u,hu,ru⟩:=rv.get hv;have hT:upd Y L (.lst rs) s.heap.objs.size=none:=J.hok.fresh (Vf _);have ac:L≠s.heap.objs.size:=λz=>by rw[<-z,Xp]at hT;cases hT
  have ai:Y s.heap.objs.size=none:=by rw[<-Xe (H:=Y) (o:=.lst rs) (Ne.symm ac)];exact hT
  have ab:∀b∈[e,it],b≠L:=λb hb z=>by have:=(hf b hb).1;rw[z,Xp]at this;cases this
  obtain⟨aw,ak,c,ra,eo⟩:=(show ObjOk X.prog X.w (upd Y L (.lst rs)) s.heap L (.lst rs) from J.hok L _ Xp);have av:=ra.length;have ax:(ll rs)=i:=by
   have:=rn.length;have q:∀(n:Nat) (l:LD),(Yj n l).length=ll l:=λn l=>by
    induction l generalizing n with
    |nil=>rfl|cons y l ih=>simp only[Yj,U4,ih]
   rw[q,Vaa]at this;omega
  refine Vfl F.entry_extend_loop ?_;rw[Around.under_plainId Vfh _];show Vi _ A.in1 (pyNext (.ref e) >>= _) _ _ s;refine Va (Xmi aj en io p (x:=u) (by simpa using hu) λh' ao au pr kp=>?_);have al:h'.get? L=yz {cls:=.type "list",data:=.seq ak.toArray c}:=kp L _ (Ne.symm (ab e (by simp))) (Ne.symm (ab it (by simp))) eo;show Vi _ A.in1 (updateSeq L (·.push (.ref s.heap.objs.size)) >>= _) _ _ _;refine Va ?_;have J1:Inv X pc σ (upd (upd Y L (.lst rs)) s.heap.objs.size (.tup [.int i,v])) {s with heap:=s.heap.push {cls:=.type "tuple",data:=.seq #[.int i s.toks,u]} }:=J.laid (t':=s.toks) (λc o z=>Vo _ z) (Vf _) ⟨by show 2<=V0;decide,[.int i s.toks,u],.cons ⟨_,rfl⟩ (.cons ru .nil),⟨_,Vw _ rfl,rfl,_,rfl⟩⟩;have am:∀c∈[e,it],c≠s.heap.objs.size:=λc hc=>by
   simp only[V2,Vai,or_false]at hc;rcases hc with rfl|rfl;·obtain⟨f0,f1,o,q,_⟩:=en;exact Up (Vy q)
   ·obtain⟨o,z,_⟩:=io.obj;exact Up (Vy z)
  have ar:∀c∈[e,it],Xag X pc (upd (upd Y L (.lst rs)) s.heap.objs.size (.tup [.int i,v])) c:=λc hc=>Xmx (hf c hc) (am c hc);have J2:Inv X pc σ (upd (upd Y L (.lst rs)) s.heap.objs.size (.tup [.int i,v])) {s with heap:=h',toks:=s.toks+1}:=Xf0 (s:={s with heap:=s.heap.push {cls:=.type "tuple",data:=.seq #[.int i s.toks,u]} }) (h':=h') (t':=s.toks+1) J1 ar λc o hc z=>by
   simp only[V2,Vai,or_false,not_or]at hc;by_cases q:c=s.heap.objs.size;·subst q;have z':=(Vw s.heap (o:={cls:=.type "tuple",data:=.seq #[.int i s.toks,u]}) rfl).symm.trans z;rw[<-z'];exact pr
   ·exact kp c o hc.1 hc.2 (Xmh z q)
  have an:Mut (upd (upd Y L (.lst rs)) s.heap.objs.size (.tup [.int i,v]) L):=by rw[Xe ac,Xp];exact trivial
  have eS:=Vcf (Vz (·.push (Vcd s.heap.objs.size))) al rfl;have ah:∀b o,b≠L->h'.get? b=yz o->(h'.update L (Vz (·.push (Vcd s.heap.objs.size)))).get? b=yz o:=λb o hb q=>(Vca _ _ (Ne.symm hb)).trans q;have J3:=J2.write (x:=L) (e:=L) (o:=.lst (rs++[.ref s.heap.objs.size])) (t':=s.toks+1) (h':=h'.update L (Vz (·.push (Vcd s.heap.objs.size)))) an (.inl rfl) (λb o hb q=>ah b o hb q) ⟨_,eS⟩
   ⟨by rw[V3];simp only[U4,Vfm];omega,ak++[.ref s.heap.objs.size],_,ra.append (.cons (show L2.RelV (.ref s.heap.objs.size) (.ref s.heap.objs.size) from rfl) .nil),by rw[eS];simp[Vz];rfl⟩
  have eH:upd (upd (upd Y L (.lst rs)) s.heap.objs.size (.tup [.int i,v])) L (.lst (rs++[.ref s.heap.objs.size]))=upd (upd Y s.heap.objs.size (.tup [.int i,v])) L (.lst (rs++[.ref s.heap.objs.size])):=by rw[Xwi ac,Xzs]
  rw[eH]at J3;have st:Stp X.K ρ ρ Y (upd Y s.heap.objs.size (.tup [.int i,v])):=Stp.upd ai;have xd:RD X.K ρ Y x v:=by have:=rd.get hx;obtain⟨v',h1,h2⟩:=this;rw[hv]at h1;cases h1;exact h2
  refine Vg0 al rfl (Vh ⟨plainId_quiet Vfh _,Xkw hA aj hz m (i+1) _ (upd Y s.heap.objs.size (.tup [.int i,v])) (rs++[.ref s.heap.objs.size]) (by omega) J3 (λb hb=>?_) ?_ ?_ (Xi8 ae ai) ((Xe ac).trans hL) (sr.upd ai) (RDs.mono st _ _ rd) ?_ λs' aa af q1 q2 q3 q4 q5=>hR s' aa af q1 q2 (st.trans q3) q4 q5⟩) (by simp;omega) (by simp;omega);·exact Xmx ⟨(Xe (am b hb)).trans (by have:=(hf b hb).1;rwa [Xe (ab b hb)]at this),(hf b hb).2⟩ (ab b hb)
  ·obtain⟨f0,f1,o,q,q2⟩:=ao;exact⟨f0,f1,o,by push_cast;exact ah _ _ (ab e (by simp)) q,q2⟩
  ·exact au.at λo q=>ah _ _ (ab it (by simp)) q
  have et:xs.take (i+1)=xs.take i++[x]:=by rw[Vf6,hx];rfl
  have aq:0+(xs.take i).length=i:=by rw[Vaa];omega
  rw[et,Xmw,aq];refine RDs.append (RDs.mono st _ _ rn) ?_;simp only[RDs];refine⟨_,_,rfl,?_,rfl⟩;simp only[RD];refine⟨s.heap.objs.size,[.int i,v],rfl,.of Xp,?_⟩;simp only[RDs];exact⟨_,_,rfl,rfl,_,_,rfl,xd.mono st,rfl⟩
theorem Xtm:typeLookup (.type "enumerate") "__len__"=pure none:=by rw[Vgw,Vez];kernel_rfl
theorem Xq7:typeLookup (.type "enumerate") "__length_hint__"=pure none:=by rw[Vgw,Vez];kernel_rfl
structure Lnm(X:Cx)(pc:LA)(σ:L2.St)(ρ:LR)(S:Sto)(H:Hp)(s:Vc)(k:Bool)(e it a:Addr)(xs:LD)(ws:LW):Prop where
 inv:Inv X pc σ H s
 fp:∀b∈[e,it],Xag X pc H b
 en:EnA s.heap e it 0
 io:ItK k s.heap it a 0
 sq:SqH k X.K H a ws
 sr:SR X.K ρ S H
 rd:RDs X.K ρ H xs ws
 ln:(ll ws)<=V0
 ne:e≠it
theorem Xtn{R:Result->Vc->Prop}{k:Bool}{xs:LD}{ws:LW}(hA:A.in1.handled=yy)(q:Lnm X pc σ ρ S H s k e it a xs ws)
  (hR:∀s' ac aj,Inv X pc σ (upd ac s.heap.objs.size (.lst aj)) s'->ac s.heap.objs.size=yy->Stp X.K ρ ρ H ac->SR X.K ρ S ac->RDs X.K ρ ac (Yj 0 xs) aj->R (.ok (.ret .none)) s'):
  Vi (Vj X.prog X.w) A.in1 (Vb1.«list.__init__» ⟨[.ref s.heap.objs.size,.ref e],[]⟩)
   (λfin s'=>match fin with | .done f=>R (.ok f) s' | .again c'=>c'.quiet=yx/\Vdh (Vj X.prog X.w) A c' R s') (λe s'=>R (.error e) s') {s with heap:=s.heap.push {cls:=.type "list",data:=.seq #[]} }:=by
 obtain⟨f0,f1,af,eo,ef⟩:=q.en;have hL:H s.heap.objs.size=none:=q.inv.hok.fresh (Vf _);have hS:(s.heap.push {cls:=.type "list",data:=.seq #[]}).get? s.heap.objs.size=yz {cls:=.type "list",data:=.seq #[]}:=Vw _ rfl;generalize ab:s.heap.objs.size=L at hS hL hR;have he:e≠L:=by rw[<-ab];exact Up (Vy eo)
 have hi:it≠L:=by obtain⟨o,z,_⟩:=q.io.obj;rw[<-ab];exact Up (Vy z)
 show Vi _ A.in1 (do let af <- Builtin.List.listItems (.ref L);Builtin.List.listUpdate (.ref L) (λ_=>#[]);letGo af.toList.reverse;Vax (.ref L) (.ref e) .none) _ _ _;refine Va ?_;unfold Builtin.List.listItems;refine Va (wpAny_seqItems hS rfl (Vh ?_));show Vi _ A.in1 (updateSeq L (λ_=>#[]) >>= λ_=>letGo (#[]:AV).toList.reverse >>= λ_=>Vax (.ref L) (.ref e) .none) _ _ _;refine Va (Vg0 hS rfl ?_);have ai:=Vcf (Vz (λ_=>(#[]:AV))) hS rfl;have ae:∀b o,s.heap.get? b=yz o->((s.heap.push {cls:=.type "list",data:=.seq #[]}).update L (Vz (λ_=>(#[]:AV)))).get? b=yz o:=
  λb o z=>(Vca _ _ (λh:L=b=>by rw[<-h,<-ab]at z;exact Vcz _ (Vy z))).trans (Vo _ z)
 refine Va (wpAny_letGo ?_);obtain⟨c2,aa⟩:∃c2,((s.heap.push {cls:=.type "list",data:=.seq #[]}).update L (Vz (λ_=>(#[]:AV)))).get? L=yz {cls:=.type "list",data:=.seq #[] c2}:=⟨_,ai⟩;clear ai;generalize (s.heap.push {cls:=.type "list",data:=.seq #[]}).update L (Vz (λ_=>(#[]:AV)))=h1 at aa ae;have ah:=ae _ _ eo;have hT:Shared.TypeIs {s with heap:=h1} (.ref e) "enumerate" := ⟨_,ah,rfl⟩;unfold Vax;refine Va (Vdg hT ?_);have b1:Vh6 (.ref L) (.ref e)=false:=by simp[Vh6,Ne.symm he]
 have b2:(Vb0 "enumerate" == Vb0 "list")=false:=by decide
 have b3:(Vb0 "enumerate" == Vb0 "tuple")=false:=by decide
 simp only[b1,b2,b3,Bool.or_false,Ui,if_false];refine Va (Xg6 ⟨f0,f1,af,ah,ef⟩ ?_);refine Va (Vas ?_);unfold Builtin.List.listLengthHint;refine Va (wpAny_specialOf hT Xtm ?_);show Vi _ A.in1 (specialOf (Vcd e) (Val "__length_hint__") >>= _) _ _ _;refine Va (wpAny_specialOf hT Xq7 ?_);refine Vh ?_;show Vi _ A.in1 (rule "list.extend.makes-room" >>= λ_=>Builtin.List.listTouch (.ref L) >>= λ_=>again (.builtin "list.extend.loop" ⟨[.ref L,.ref e,.none],[]⟩)) _ _ _;refine Va (Vbf ?_);refine Va ?_;show Vi _ A.in1 (updateSeq L (·.push .none) >>= λ_=>updateSeq L (·.pop)) _ _ _;refine Va (Vg0 aa rfl ?_);have ak:=Vcf (Vz (·.push Vbz)) aa rfl;refine Vg0 (hz:=by seq_fits) ak rfl ?_;have al:=Vcf (Vz (·.pop)) ak rfl;have Y:∀b o,s.heap.get? b=yz o->((h1.update L (Vz (·.push Vbz))).update L (Vz (·.pop))).get? b=yz o:=λb o z=>by
  have hb:L≠b:=λh=>by rw[<-h,<-ab]at z;exact Vcz _ (Vy z)
  exact(Vca _ _ hb).trans ((Vca _ _ hb).trans (ae b o z))
 have J:=q.inv.laid (o:=.lst []) (t':=s.toks) (h':=(h1.update L (Vz (·.push Vbz))).update L (Vz (·.pop))) Y (Nat.le_of_eq ab) ⟨Um _,[],_,.nil,al⟩;have am:=Y _ _ eo;refine Vh ⟨plainId_quiet Vfh _,Xkw hA q.ne q.ln ws.length 0 _ H [] (Va1 _) J (λb hb=>Xmx (q.fp b hb) ?_) ⟨_,_,_,am,ef⟩ (q.io.at λo z=>Y _ _ z) q.sq hL q.sr q.rd ?_ hR⟩
 ·simp only[V2,Vai,or_false]at hb;rcases hb with rfl|rfl;·exact he
  ·exact hi
 ·simp only[Vf7,Yj,RDs]
theorem Xto{k:Bool}{xs:LD}{ws:LW}{E:VP}(hh:X.A.handled=yy)(q:Lnm X pc σ ρ S H s k e it a xs ws):
  Vi (Vj X.prog X.w) X.A (call (.type "list") [.ref e]) (OkP X pc σ ρ H (.ok (.ref (ll S)) (S++[.lst (Yj 0 xs)]))) E s:=by
 refine callType_codes (Q₁:=λobj L=>obj=.ref s.heap.objs.size/\L={s with heap:=s.heap.push {cls:=.type "list",data:=.seq #[]} }) F.called_list (F.typeCall_list_1 _) F.entry_list_init
  (code_list_new _ ⟨rfl,rfl⟩) λobj L Y=>?_
 obtain⟨rfl,rfl⟩:=Y;have hS:(s.heap.push {cls:=.type "list",data:=.seq #[]}).get? s.heap.objs.size=yz {cls:=.type "list",data:=.seq #[]}:=Vw _ rfl;refine⟨⟨_,hS,rfl⟩,F.args_list_init_2 _ _,Xtn (show X.A.in1.in1.handled=yy from hh) q λs' Hb rs J hL st sr rd=>?_⟩;exact⟨rfl,(Xa3 J hL sr rd).pre st⟩
theorem Xwj(I:Inv X pc σ H s)(h:SqH k X.K H a vs):(ll vs)<=V0:=by
 cases k;·obtain⟨its,J,p,z⟩:=I.tuple h;exact z
 ·obtain⟨its,J,p,z⟩:=I.list h;exact z
theorem X5g (hc:X.calm=yx) (ai:Gl X "list") (af:X.mg "list"=yy) (ah:Gl X "enumerate") (ab:X.mg "enumerate"=yy) (ha:DE X a f) (hs:Uk [a] X.env=(yw,eval a X.env)::Uk [] X.env):
  DE X (.Call (.Name "list" p) [.Call (.Name "enumerate" p2) [a] [] pos2] [] pos) (λenv S=>(f env S).bind λx S=>match Xq S x with|some xs=>.ok (.ref (ll S)) (S++[.lst (Yj 0 xs)])|none=>.bad):=by
 intro pc s σ H ρ S env I nb;dsimp only at nb ⊢;refine Vbv (Xaz I.inv ai af (u:=.type "list") (by decide+kernel) (Va9 (Vfn ?_ rfl) rfl rfl) (by decide) rfl);refine Vbv (Xaz I.inv ah ab (u:=.type "enumerate") (by decide+kernel) (Va9 (Vfn ?_ hs) hs rfl) (by decide) rfl);cases q:f env S with
 |bad=>rw[q]at nb;cases nb rfl|ex n S1=>exact ha.ex I q λx s' z=>⟨n,S1,rfl,z⟩|ok d S1=>
  rw[q]at nb;simp only[Rk0]at nb ⊢;cases e:Xq S1 d with
  |none=>rw[e]at nb;cases nb rfl|some xs=>
   dsimp only;refine ha.ok I q λu s1 v H1 ae Y rv rd ac=>Vfo ?_;obtain⟨b,ws,rfl,hq,hr⟩:=Y.seq e rd;cases rv;obtain⟨k,hk⟩:∃k,SqH k X.K H1 b ws:=by
    rcases hq with hq|hq;·exact⟨yx,hq⟩
    ·exact⟨yw,hq⟩
   obtain⟨its,aj,pk⟩:=Xi1 Y.inv hk;refine Xpe pk λh' st kp=>Vfo ?_;have J:Inv X pc σ H1 {s1 with heap:=h' }:=Y.inv.kept (t':=s1.toks) kp
   have L:Lnm X pc σ ae S1 H1 {s1 with heap:=h' } k (s1.heap.objs.size+1) s1.heap.objs.size b xs ws:=⟨J,λc hb=>by
    have aa:s1.heap.objs.size<=c:=by
     simp only[V2,Vai,or_false]at hb;rcases hb with rfl|rfl;·exact Vff _
     ·exact Vf _
    exact Y.inv.fpOk aa (Y.inv.hok.fresh aa),st.eo,st.io,hk,Y.sr,hr,Xwj Y.inv hk,Nat.succ_ne_self _⟩
   exact Vp (Xto (E:=λ_ _=>False) (Y.inv.ok.hd hc) L) (λw s2 z=>z.pre ac) λ_ _ z=>z.elim
theorem Xcw:∀l:LI,Xo (l.map D.int)=yz l
 |[]=>rfl|x::l=>by rw[U6,Xo,Xcw l];rfl
theorem Xmy:∀ks:LL,Yy (ks.map λk=>D.tup (k.map D.int))=yz ks
 |[]=>rfl|k::ks=>by rw[U6,Yy,Xcw,Xmy ks];rfl
end
end Z
end
section
namespace Z
open PySem PySem.Spec PyProof.Rows L2
open PySem.W (CodeHd kla_obj kla_fn kla_eval kla_makeFunction kla_makeFunctionHit kla_callFunE kla_codeExpr tabObj)
structure LamAt(X:Cx)(nm:Str):Prop where
 qual:X.env.qual ++ "<lambda>"=Xan nm
 dep:X.A.depth+5<Vg9
 cod:∃c P,X.env.code=.ref c/\CodeHd X.base c P/\(Xcu X.K).lookup P=yz (Xan nm)
 blt:∃bm ob,X.mg "__builtins__"=yz (.ref bm)/\bm≠Vf1/\X.base.get? bm=yz ob/\ob.cls=.type "module" /\ ob.dict=yz Vf1/\ob.data=.plain
theorem Xtp{pos:Pos}{L:Vb}{a b:Int}{c:Vb}:∀(l:LV),TriplesOk l->codeAmong pos (l++[Vce a,Vce b,c])=yz L->codeAmong pos l=yz L\/L=c:=by
 intro l h e
 fun_induction TriplesOk l with
 |case1=>
  simp only[Uz,Vce,codeAmong]at e;split at e;·cases e;exact .inr rfl
  ·cases e|case2 a' t Y u x rest ih=>
  simp only[Vbg,codeAmong]at e ⊢;split at e;·rename_i J;cases e;rw[iP0 J];exact .inl rfl
  ·rename_i J;rw[iN0 J];exact ih h e|case3 l h1 h2=>exact h.elim
noncomputable def Xh2(sc:Ur):Bool:=sc.names.all λy=>match y.2 with|.free=>yw|_=>yx
theorem Xmz{env:Va2}(h:Xh2 sc=yx):closureFor sc env=pure []:=by simp only[closureFor];rw[forIn_yield_id [] (λx J c=>by have:=Vab.mp h x J;obtain⟨n,k⟩:=x;cases k<;>first|rfl|cases this)];rfl
section
variable{X:Cx}{pc:LA}{σ:L2.St}{H:Hp}{s:Vc}{ρ:LR}{S S':Sto}{env:En}{Q:VP}{E:VP}{nm:Str}
def LamH(X:Cx)(nm:Str)(params:Ved)(body:Expr)(scope:Ur)(H:Hp)(f:Addr):Prop:=
 ∃pm c J u,H f=yz (.frz (kla_obj "<lambda>" (Xan nm) params body scope [] pm c J) (.own u))/\∃o v vs t,H c=yz (.frz o v)/\o.data=.fields vs/\vs[1]?=yz (.str (Xan nm) t)
theorem Xwk{params:Ved}{body:Expr}{scope:Ur}{ab:Pos}(hL:LamAt X nm)(ae:Xh2 scope=yx)(am:defaultsOf params X.env=([],[]))(I:S0 X pc σ H s ρ S env)
  (hQ:∀f s' H',S0 X pc σ H' s' ρ S env->Stp X.K ρ ρ H H'->LamH X nm params body scope H' f->Q (.ref f) s'):
  Vi (Vj X.prog X.w) X.A (eval (.Lambda params body scope ab) X.env) Q E s:=by
 obtain⟨c,P,aa,C,hP⟩:=hL.cod;obtain⟨bm,ob,b1,b2,b3,b4,b5,b6⟩:=hL.blt;have hT:=I.sr.tab P _ hP;obtain⟨ps,e0,t0,n0⟩:=(show ObjOk X.prog X.w H s.heap P (.tbl (Xan nm)) from I.inv.hok P _ hT);have hg:=I.inv.ok.mod.glob.keeps I.inv.bk;have bP:∀b o,X.base.get? b=yz o->b≠P:=λb o e z=>by have:=(I.inv.bs b o e).2;rw[z,hT]at this;cases this
 have al:Uc≠P:=by obtain⟨o,es,ep,e,_⟩:=I.inv.ok.mod.glob;exact bP _ _ e
 have an:bm≠Uc:=λq=>by obtain⟨o,es,ep,e,hd,_⟩:=I.inv.ok.mod.glob;rw[q,e]at b3;cases b3;rw[hd]at b6;cases b6
 have hB:s.heap.BuiltinsAt X.mg P:=⟨bm,ob,b1,b2,an,bP _ _ b3,I.inv.bk _ _ b3,b4,b5,b6⟩;refine kla_eval am ?_;rw[hL.qual];have ak:∀ {H1:Hp} {h':Heap} {tk:Nat} {L:Addr} {Y:Vb},Inv X pc σ H1 {s with heap:=h',toks:=tk}->SR X.K ρ S H1->Stp X.K ρ ρ H H1->(∃o v vs t,H1 L=yz (.frz o v)/\o.data=.fields vs/\vs[1]?=yz (.str (Xan nm) t)) ->
   Q (.ref h'.objs.size) {s with heap:=h'.push (kla_obj "<lambda>" (Xan nm) params body scope [] ((X.mg "__name__").getD .none) L Y),toks:=tk}:=λ{H1 h' tk L Y} J sr st hc=>by
  have hn:H1 h'.objs.size=none:=J.hok.fresh (Vf _);have J2:=J.laid (a:=h'.objs.size) (t':=tk) (o:=.frz (kla_obj "<lambda>" (Xan nm) params body scope [] ((X.mg "__name__").getD .none) L Y) (.own 0)) (h':=h'.push _) (λb u e=>Vo _ e) (Vf _) ⟨Vw _ rfl,_,Vw _ rfl⟩;refine hQ _ _ _ ⟨J2,sr.upd hn,I.er.mono (st.trans (Stp.upd hn))⟩ (st.trans (Stp.upd hn)) ⟨_,L,Y,0,Xp,?_⟩;obtain⟨o,v,vs,t,e1,r⟩:=hc;exact⟨o,v,vs,t,by rw[Xe (Xj e1 hn)];exact e1,r⟩
 cases q:codeAmong ab ps.toList with
 |some cv=>obtain⟨L,o,u,vs,t,rfl,e2,r⟩:=n0 ab cv q;refine kla_makeFunctionHit (mg:=X.mg) (Xmz ae) I.inv.ok.glob hg aa (C.keeps I.inv.bk) e0 t0 q hB λY h' tk k ap=>?_;exact ak (I.inv.kept (t':=tk) k) I.sr .refl ⟨o,u,vs,t,e2,r⟩|none=>
  refine kla_makeFunction (mg:=X.mg) (Xmz ae) I.inv.ok.glob hg aa (C.keeps I.inv.bk) e0 t0 q al hB λL Y h' tk hx aj aq ah ai=>?_;obtain⟨c2,oc,vs,t,e2,af,hd,hv⟩:=ah;cases e2;have hn:H L=none:=I.inv.hok.fresh aj;have cP:P≠L:=λz=>by rw[z]at hT;rw[hn]at hT;cases hT
  have nP:∀b u,H b=yz u->b≠L:=λb u e=>Xj e hn;have hok:HOk X.prog X.w (upd H L (.frz oc (.own 0))) h':=λb u e=>by
   by_cases hb:b=L;·subst hb;rw[Xp]at e;cases e;exact⟨af,_,af⟩
   ·rw[Xe hb]at e;by_cases ac:b=P
    ·subst ac;rw[hT]at e;cases e;refine⟨_,ai,by rw[Vac];exact TriplesOk_snoc _ _ _ _ t0,λpos cv z=>?_⟩;rw[Vac]at z;rcases Xtp _ t0 z with z|z;·obtain⟨c3,o3,u3,ao,t3,e3,e4,r⟩:=n0 pos cv z;exact⟨c3,o3,u3,ao,t3,e3,by rw[Xe (nP _ _ e4)];exact e4,r⟩
     ·exact⟨L,oc,_,vs,t,z,Xp,hd,hv⟩
    refine(I.inv.hok b u e).stay (λd w hd e3=>hx d w ?_ e3) (λd z=>by rw[Xe (nP _ _ z)];exact z) λd w _ z=>by rw[Xe (nP _ _ z)];exact z
    rcases hd with rfl|hd;·exact ac
    ·exact λz=>by rw[z,hT]at hd;cases hd
  have J:Inv X pc σ (upd H L (.frz oc (.own 0))) {s with heap:=h',toks:=tk}:=by
   refine I.inv.un (t':=tk) ⟨λb o e n _ _=>hx b o (λz=>by rw[z,hT]at n;cases n) e,λb o e n _ _=>⟨o.slots,hx b o (λz=>by rw[z,hT]at n;cases n) e⟩,λb o e n _=>by rw[Xe (Up (V8 (Vy e) aj))];exact n,λb o e _=>?_,
    λb xs z=>by rw[Xe (nP _ _ z)];exact z,λb o u z=>by rw[Xe (nP _ _ z)];exact z,λb p z=>by rw[Xe (nP _ _ z)];exact z⟩ hok
   by_cases hb:b=P;·subst hb;exact⟨_,ai⟩
   ·exact⟨o,hx b o hb e⟩
  exact ak J (I.sr.upd hn) (Stp.upd hn) ⟨oc,_,vs,t,Xp,hd,hv⟩
theorem Xwl{params:Ved}{body:Expr}{scope:Ur}{f:Addr}{x:Str}{A:Uy}{fb:En->Sto->R D}{u:Vb}{v:V}{d d':D}(ac:A.depth<Vg9)(hh:A.handled=yy)(hA:A.frames=yz X.stack)(hS:FnScope [x] [x] scope)
  (ai:∀(pm ct:Vb) (c:Addr) (u:Vb),Ve7 (kla_fn "<lambda>" (Xan nm) params body scope [] pm (.ref c) ct) ⟨[u],[]⟩=pure [(x,u)])
  (hb:∀(ah:Vb) (s:Vc) (H:Hp),DE (cxC yx X.prog X.w X.K X.mg X.base [x] (Xan nm) scope f ah A X.stack s H (λ_ _ _=>False)) body fb) (hL:LamH X nm params body scope H f)
  (I:S0 X pc σ H s ρ S env) (rv:RelV v u) (rd:RD X.K ρ H d v) (hF:fb [yz d] S=.ok d' S'):
  Vi (Vj X.prog X.w) A (call (.ref f) [u]) (OkP X pc σ ρ H (.ok d' S')) (λ_ _=>False) s:=by
 obtain⟨pm,c,an,y,hf,o,w,vs,t,hc,hd,hv⟩:=hL;obtain⟨ef,_⟩:=(show ObjOk X.prog X.w H s.heap f (.frz _ _) from I.inv.hok f _ hf);obtain⟨ec,_⟩:=(show ObjOk X.prog X.w H s.heap c (.frz _ _) from I.inv.hok c _ hc);have e0:Env0 X.prog X.w X.K X.mg X.base A X.stack s H:=let e:=I.inv.env0;⟨hA,e.mod,e.bs,e.bsz,e.funs,e.frf,e.hok,e.bare⟩
 have ae:=I.inv.nolimit;have Y:∀y∈[(x,u)],scope.names.lookup y.1=yz .local\/(scope.names.lookup y.1=yz .cell/\((Va8 (s.heap.objs.size+1) scope.names []).lookup y.1).isSome=yx):=λy hy=>by
  rw[Ue.mp hy];rcases hS.par x (.head _) with q|q;·exact .inl q
  ·exact .inr ⟨q,Veo _ _ _ (.inl q)⟩
 refine wpAny_call (Vfs (R:=CR (CXd X.prog X.w) X.stack X.prog X.w H s (λv H'=>∃ ρ',RD X.K ρ' H' d' v/\SR X.K ρ' S' H'/\Stp X.K ρ ρ' H H') (λ_ _ _=>False)) (kla_callFunE ac ef rfl hS.co hS.gen rfl ⟨c,o,vs,t,rfl,ec,hd,hv⟩ ?_) λr s' hq=>?_)
 ·rw[ai];refine Vh (Vho hS.kind Y λam he s1 z=>?_);subst he;refine⟨ae.keeps z.toInCall.keep,kla_codeExpr ?_⟩;have aj:Vals [v] [u]:=.cons rv .nil;have I1:Inv (cxC yx X.prog X.w X.K X.mg X.base [x] (Xan nm) scope f (.ref c) A X.stack s H (λ_ _ _=>False)) [] (start [x] [v]) H s1:=by
   have L:=Xkj (CX:=CXd X.prog X.w) (E:=λ_ _ _=>False) (f:=f) (cd:=.ref c) (qual:=Xan nm) hS hh e0 rfl aj z;exact⟨⟨L.ok.mod,L.ok.kind,L.ok.glob,L.ok.blt,L.ok.above,L.ok.inj,L.ok.has,L.ok.cab,(λ_=>hh),L.ok.frames,L.ok.stk,L.ok.exf,L.ok.bs,L.ok.bsz,L.ok.noex,L.ok.exfs,L.ok.funs,L.ok.frf⟩,L.os,L.bare,L.base,L.loc,L.cell,L.free,L.freeC,L.pin,L.hok,L.len⟩
  refine(hb (.ref c) s H).ok (env:=[yz d]) ⟨I1,I.sr,rfl,λi d1 e=>?_⟩ hF λu2 s2 v2 H2 ab J al ak aa=>⟨v2,H2,J.inv.os,J.inv.bare,J.inv.base,J.inv.hok,al,ab,ak,J.sr,aa⟩;cases i with
  |zero=>cases e;exact⟨v,rfl,rd⟩|succ i=>simp at e
 ·cases r with
  |error e=>obtain⟨_,_,_,_,_,_,z⟩:=hq;exact z.elim|ok fl=>
   cases fl with
   |ret u1=>obtain⟨v1,H1,J,r1,af,q1,q2,q3⟩:=I.inv.after hq;exact⟨d',S',rfl,v1,H1,af,J,r1,q1,q2,q3⟩|next=>exact Veh hq|brk=>exact Veh hq|cont=>exact Veh hq
end
end Z
end
section
namespace Z
open PySem PySem.Spec PyProof.Rows L2
section
variable{X:Cx}{pc:LA}{σ:L2.St}{H:Hp}{s:Vc}{ρ:LR}{S:Sto}{env:En}{E:VP}{nm:Str}
theorem Inv.own1{Da:Addr}{o:Obj}{u:HO}{h':Heap}{t':Nat}(I:Inv X (pc++[(Da,o)]) σ H s)(L:X.s₀.heap.objs.size<=Da)(Y:∀p∈X.pn++pc,p.1≠Da)(k:∀b u,b≠Da->s.heap.get? b=yz u->h'.get? b=yz u)(ht:∃u,h'.get? Da=yz u)
  (new:ObjOk X.prog X.w (upd H Da u) h' Da u):Inv X pc σ (upd H Da u) {s with heap:=h',toks:=t' }:=by
 obtain⟨e,hn,hL,_,hd⟩:=I.pin (Da,o) (by simp);have ne:∀b w,H b=yz w->b≠Da:=λb w e=>Xj e hn;refine I.unpinned.step (g':=s.gens) (d':=s.drawn) (ch:=[Da]) (λb hb=>?_) (λb o _ _ J e _=>k b o (λz=>J (by simp[z])) e) (λb o _ _ J e _=>⟨o.slots,k b o (λz=>J (by simp[z])) e⟩) (λb o J _ n=>by rw[Xe (λz=>J (by simp[z]))];exact n)
  (λb o J e=>⟨o,k b o (λz=>J (by simp[z])) e⟩) (λb xs z=>by rw[Xe (ne _ _ z)];exact z) (λb o u z=>by rw[Xe (ne _ _ z)];exact z) (λb q z=>by rw[Xe (ne _ _ z)];exact z) (λm hm=>?_) (λb w e=>?_) I.bare
 ·rw[Ue.mp hb];refine⟨.inr L,hL,λx c q z=>?_,Y⟩;obtain⟨v,o',e',d'⟩:=I.cell x c q;rw[z,e]at e';cases e';exact hd v d'
 ·obtain⟨o',es,ep,ho,r⟩:=hm;exact⟨o',es,ep,k _ _ hL.symm ho,r⟩
 ·by_cases hb:b=Da;·subst hb;rw[Xp]at e;cases e;exact new
  ·rw[Xe hb]at e;refine(I.hok b w e).stay (λc v J q=>k c v ?_ q) (λc z=>by rw[Xe (ne _ _ z)];exact z) λc v _ z=>by rw[Xe (ne _ _ z)];exact z
   rcases J with rfl|J;·exact hb
   ·exact ne c _ J
theorem Xpo:∀(L ps:List (LI×Vb)),L.map (·.1)=ps.map (λp=>p.1.reverse)->∃qs:Kvs,qs.map (·.2.1)=L.map (·.2)/\qs.map (·.2.2)=ps.map (·.2)/\qs.map (·.1)=L.map (·.1)/\∀q∈qs,(q.1,q.2.1)∈L/\(q.1.reverse,q.2.2)∈ps
 |[],[],_=>⟨[],rfl,rfl,rfl,λq J=>by cases J⟩|[],_::_,h=>by cases h|_::_,[],h=>by cases h|t::L,p::ps,h=>by
  rw[U6,U6]at h;injection h with h1 h2;obtain⟨qs,e1,e2,e3,Y⟩:=Xpo L ps h2;refine⟨(t.1,t.2,p.2)::qs,by rw[U6,e1];rfl,by rw[U6,e2];rfl,by rw[U6,e3];rfl,λq J=>?_⟩;rcases V2.mp J with rfl|J
  ·refine⟨U3,?_⟩;have:(t.1.reverse,p.2)=p:=by rw[h1,List.reverse_reverse]
   dsimp only;rw[this];exact U3
  exact⟨Uv _ (Y q J).1,Uv _ (Y q J).2⟩
theorem X0t {prog:Ua} {w:Uq} {A:Uy} {Da Y:Addr} {qs:Kvs} {e1 n1:Nat} {P:PySem.Fin->Vc->Prop} (hu:A.units<Vcb) (h5:(ll qs)<100000) (hk:s.heap.get? Y=yz (Ub "list" (qs.map (·.2.1)).toArray n1)) (hD:s.heap.get? Da=yz (Ub "list" #[] e1)) (ab:Y≠Da)
  (hq:∀q∈qs,Row s.heap q.1 q.2.1)
  (h:∀J:Kvs,J.Perm qs->WkL (J.map (·.1))->P (.done (.ret .none)) {s with heap:=(s.heap.update Y (Vz λ_=>#[])).update Da (Vz λ_=>(J.map (·.2.2)).toArray)}):Vi (Vj prog w) A (ksk_end Da yw (qs.map (·.2.2)).toArray e1 (.ref Y) (qs.map (·.2.1)).toArray) P E s:=by
 have sl:=Vdd;have L:∀(st:V1) (J:Kvs),J.Perm qs->WkL (J.map (·.1))->(Vr st).map (·.2)=(J.map (·.2.2)).toArray->Vb3 st=yy->Vi (Vj prog w) A (ksk_tail Da yw e1 (.ref Y) st) P E s:=λst J r1 r2 q1 q2=>by
  have aa:(s.heap.update Y (Vz λ_=>(#[]:AV))).get? Da=yz (Ub "list" #[] e1):=(Vc6 _ _ _ _ ab.symm).trans hD;unfold ksk_tail;dsimp only;refine Va (Vds hk rfl (Va (wpAny_letGo (Va (seqEpoch_at aa rfl (Va (Vds aa rfl ?_ (Um _) ?_)))))) (by rw[Vn,Vl];omega) (Um _));·rw[q1,q2,bne_self_eq_false];exact Vh (h J r1 r2)
  ·simp only[Ui,if_false];rw[q1,Vn,Vl,r1.length_eq];omega
 unfold ksk_end;dsimp only;simp only[Ui,if_false];have zz:(qs.map λq:LI×Vb×Vb=>q.2.2).toArray.size=ll qs:=by rw[Vn,Vl]
 by_cases q:(ll qs)<2
 ·rw[iP0 (by rw[zz];exact q),iP0 (by rw[zz];exact q)];refine Va (Vh ?_);rw[StateT.run_pure];refine Va (Vh (L _ qs (.refl _) ?_ ?_ rfl));·exact Xth _ q
  ·show((qs.map λq:LI×Vb×Vb=>q.2.1).toArray.zip (qs.map λq:LI×Vb×Vb=>q.2.2).toArray).map (·.2)=_;apply Array.toList_inj.mp;rw[Array.toList_map,Xi6,Vam];rfl
 ·rw[iN0 (by rw[zz];exact q),iN0 (by rw[zz];exact q)];exact Xmu hu hq (by omega) λst J r1 r2 r3 r4=>L st J r1 r2 r3 r4
variable{params:Ved}{body:Expr}{scope:Ur}
theorem LamH.mono{f:Addr}{H':Hp}(h:LamH X nm params body scope H f)(m:Mon X.K ρ ρ' H H'):LamH X nm params body scope H' f:=by obtain⟨pm,c,J,y,hf,o,w,vs,t,L,r⟩:=h;exact⟨pm,c,J,y,m.frz _ _ _ hf,o,w,vs,t,m.frz _ _ _ L,r⟩
theorem Xk7(ks:LL)(j:Nat)(k:LI)(h:ks[j]?=yz k):(ks.take (j+1)).map (λk=>Xa1 k.reverse)=(ks.take j).map (λk=>Xa1 k.reverse)++[Xa1 k.reverse]:=by rw[Vf6,h,Vcw];rfl
theorem Xwm(h:Heap)(vs:LV)(b:Addr)(o:Obj)(e:h.get? b=yz o):
  ((((((h.push (Ub "list" #[] 0)).update h.objs.size (Vz (·++vs.toArray))).push (Ub "list" vs.toArray 0)).update (h.objs.size+1) (Vz λ_=>(#[]:AV))).push (Ub "tuple" vs.toArray 0)).push (Ub "list" #[] 0)).get? b=yz o:=by
 have lt:=Vy e;refine Vo _ (Vo _ ?_);rw[Vc6 _ _ _ _ (Up (Vcx lt))];exact Vo _ ((Vc6 _ _ _ _ (Up lt)).trans (Vo _ e))
theorem Xwn{f l:Addr}{ws:LW}{its:LV}{ks r:LL}(hu:X.A.units+200<Vcb)(I:S0 X pc σ H s ρ S env)(hL:LamH X nm params body scope H f)
  (au:∀(pc:LA) (s:Vc) (H:Hp) (ρ:LR) (k:LI) (v:V) (u:Vb),S0 X pc σ H s ρ S env->LamH X nm params body scope H f->RelV v u->RD X.K ρ H (Xa1 k) v ->
   Vi (Vj X.prog X.w) X.A.in1.in1 (call (.ref f) [u]) (OkP X pc σ ρ H (.ok (Xa1 k.reverse) S)) (λ_ _=>False) s)
  (hl:s.heap.IsList l its.toArray) (hr:RDs X.K ρ H (ks.map Xa1) ws) (al:Vals ws its) (e3:Xiz ks=yz r):
  Vi (Vj X.prog X.w) X.A (call (.builtin "sorted") [.ref l] [(Val "key",.ref f)]) (OkP X pc σ ρ H (.ok (.ref (ll S)) (S++[.lst (r.map Xa1)]))) E s:=by
 obtain⟨h5,rfl⟩:(ll ks)<100000/\r=(Xab (ks.map Va6)).map Va6:=by
  unfold Xiz at e3;by_cases c:(ll ks)<100000;·rw[iP0 c,Vq]at e3;exact⟨c,e3.symm⟩
  ·rw[iN0 c]at e3;cases e3
 have ap:(ll its)=ll ks:=by rw[<-al.length,<-hr.length,Vl]
 have am:(ll its)<=V0:=by rw[Vdd];omega
 have sz:((s.heap.push (Ub "list" #[] 0)).update s.heap.objs.size (Vz (·++its.toArray))).objs.size=s.heap.objs.size+1:=by rw[Heap.size_update,size_push']
 have oL:(((s.heap.push (Ub "list" #[] 0)).update s.heap.objs.size (Vz (·++its.toArray))).push (Ub "list" its.toArray 0)).get? (s.heap.objs.size+1)=yz (Ub "list" its.toArray 0):=sz▸Vw _ rfl;obtain⟨e1,o1⟩:∃e1,((((s.heap.push (Ub "list" #[] 0)).update s.heap.objs.size (Vz (·++its.toArray))).push (Ub "list" its.toArray 0)).update (s.heap.objs.size+1) (Vz λ_=>(#[]:AV))).get? (s.heap.objs.size+1)=yz (Ub "list" #[] e1):=⟨_,Vei oL λ_=>#[]⟩;have an:(((((s.heap.push (Ub "list" #[] 0)).update s.heap.objs.size (Vz (·++its.toArray))).push (Ub "list" its.toArray 0)).update (s.heap.objs.size+1) (Vz λ_=>(#[]:AV))).push (Ub "tuple" its.toArray 0)).objs.size=s.heap.objs.size+3:=by rw[size_push',Heap.size_update,size_push',sz]
 refine call_function_entry_kw kind_sorted plain_sorted entry_sorted (ksk_s1 _ _) ?_;unfold Vb1.«sorted»;refine Va (m:=checkCount "sorted" 1 1 _) (Vh (Va (collect_list hl (Va (Vgj ?_ (by show (ll its)<=_;exact am))) am)));change Vi _ _ _ _ _ {s with heap:=((s.heap.push (Ub "list" #[] 0)).update s.heap.objs.size (Vz (·++its.toArray))).push (Ub "list" its.toArray 0)};rw[sz];refine Va (Vas (wpAny_call_entry_kw slot_list_sort ⟨_,oL,rfl⟩ entry_list_sort ?_ (ksk_l1 _ _)));show Vi (Vj X.prog X.w) X.A.in1.in1 (Vb1.«list.sort» ⟨[.ref (s.heap.objs.size+1)],[(Val "key",.ref f)]⟩) _ _ _;rw[ksk_t1];unfold ksk_tree;refine Va (Vd6 oL rfl (Va (Vds oL rfl (Va (seqEpoch_at o1 rfl (Va (wpAny_newTuple (Va (Vgj (Vas ?_) (Um _))) (by show (ll its)<=_;exact am))))) (by rw[Vn];exact am) (Um _))));have kp:=Xwm s.heap its;have o4:=Vo (Ub "list" #[] 0) (Vo (Ub "tuple" its.toArray 0) o1);have k4:(((((((s.heap.push (Ub "list" #[] 0)).update s.heap.objs.size (Vz (·++its.toArray))).push (Ub "list" its.toArray 0)).update (s.heap.objs.size+1) (Vz λ_=>(#[]:AV))).push (Ub "tuple" its.toArray 0)).push (Ub "list" #[] 0)).get? (s.heap.objs.size+3))=yz (Ub "list" #[] 0):=an▸Vw _ rfl;change Vi (Vj X.prog X.w) X.A.in1.in1 (ksk_rest (s.heap.objs.size+1) (.ref f) yw its.toArray e1 (.ref ((((((s.heap.push (Ub "list" #[] 0)).update s.heap.objs.size (Vz (·++its.toArray))).push (Ub "list" its.toArray 0)).update (s.heap.objs.size+1) (Vz λ_=>(#[]:AV))).push (Ub "tuple" its.toArray 0)).objs.size))) _ _
  {s with heap:=(((((s.heap.push (Ub "list" #[] 0)).update s.heap.objs.size (Vz (·++its.toArray))).push (Ub "list" its.toArray 0)).update (s.heap.objs.size+1) (Vz λ_=>(#[]:AV))).push (Ub "tuple" its.toArray 0)).push (Ub "list" #[] 0)}
 rw[an];generalize (((((s.heap.push (Ub "list" #[] 0)).update s.heap.objs.size (Vz (·++its.toArray))).push (Ub "list" its.toArray 0)).update (s.heap.objs.size+1) (Vz λ_=>(#[]:AV))).push (Ub "tuple" its.toArray 0)).push (Ub "list" #[] 0)=h4 at kp o4 k4 ⊢;clear an o1 oL sz;have a8:H (s.heap.objs.size+1)=none:=I.inv.hok.fresh (Vff _);have ac:H (s.heap.objs.size+3)=none:=I.inv.hok.fresh (by omega);have bd:=I.inv.sz;have az:=I.inv.lt;have ne:s.heap.objs.size+3≠s.heap.objs.size+1:=by omega
 have J0:Inv X pc σ (upd H (s.heap.objs.size+3) (.lst [])) {s with heap:=h4}:=I.inv.laid (t':=s.toks) kp (by omega) ⟨Um _,[],0,.nil,k4⟩;have J1:Inv X (pc++[(s.heap.objs.size+1,Ub "list" #[] e1)]) σ (upd H (s.heap.objs.size+3) (.lst [])) {s with heap:=h4}:=J0.pins_of λp hp=>by
  rcases Uf.mp hp with z|z;·exact J0.pin p (Ut _ z)
  ·rw[Ue.mp z];exact⟨o4,by rw[Xe ne.symm];exact a8,Vet (Vcx az),I.inv.nofs (Vff _),λv z=>by cases z⟩
 have a6:∀p∈X.pn++pc,p.1≠s.heap.objs.size+1:=λp hp z=>by have:=Vy (I.inv.pin p hp).1;rw[z]at this;exact aB0 (Ves this) (Vcz _)
 have a5:s.heap.objs.size+3 ∉ ρ:=λhm=>by obtain⟨u,e,_⟩:=I.sr.mem hm;rw[ac]at e;cases e
 unfold ksk_rest;refine Va (Vbf ?_);rw[List.forIn_toArray];refine Va (ksk_fold (λi s'=>∃H' ρ' vs,S0 X (pc++[(s.heap.objs.size+1,Ub "list" #[] e1)]) σ H' s' ρ' S env/\Stp X.K ρ ρ' H H'/\s.heap.objs.size+3 ∉ ρ'/\H' (s.heap.objs.size+3)=yz (.lst vs)/\RDs X.K ρ' H' ((ks.take i).map λk=>Xa1 k.reverse) vs) its 0 _
  ⟨_,ρ,[],⟨J1,I.sr.upd ac,I.er.mono (Stp.upd ac)⟩,Stp.upd ac,a5,Xp,by rw[Vf7];exact RDs.nil⟩ (λj x s1 hx hI=>?_) λs1 hI=>?_)
 ·obtain⟨H1,ar,vs,I1,ah,aq,ae,af⟩:=hI;rw[Va1]at af ⊢;have hj:j<ll ks:=by rw[<-ap];exact(Vd.mp hx).1
  obtain⟨v,hv,rv⟩:∃v,ws[j]?=yz v/\RelV v x:=by
   have ax:j<ll ws:=by rw[al.length];exact(Vd.mp hx).1
   obtain⟨u,hu,ru⟩:=al.get (i:=j) (x:=ws[j]) (by simp[ax]);rw[hx]at hu;cases hu;exact⟨_,by simp[ax],ru⟩
  have hk:ks[j]?=yz ks[j]:=by simp[hj]
  obtain⟨v',a0,rd⟩:=hr.get (i:=j) (d:=Xa1 ks[j]) (by rw[V6,hk];rfl);rw[hv]at a0;cases a0;refine Va (Vfc (Vp (au _ s1 H1 ar ks[j] v x I1 (hL.mono ah.toMon) rv (rd.mono ah)) (λu s2 hq=>?_) λ_ _ z=>z.elim));obtain⟨d,S2,e2,v2,H2,av,J2,a4,ba,a7,ao⟩:=hq;cases e2;obtain⟨aw,ai⟩:=ao.out ae aq;obtain⟨a1,Y,nk,aj,ek⟩:=(show ObjOk X.prog X.w H2 s2.heap (s.heap.objs.size+3) (.lst vs) from J2.hok _ _ ai);have ab:s2.heap.get? (s.heap.objs.size+3)=yz (Ub "list" Y.toArray nk):=ek;have bb:(ll Y)=j:=by rw[<-aj.length,<-af.length,Vl,Vaa];omega
  have ea:Y.toArray.push u=(Y++[u]).toArray:=by simp
  have sb:=Vfg s2.heap (s.heap.objs.size+3) (Vz (·.push u));obtain⟨c2,ay⟩:∃c2,(s2.heap.update (s.heap.objs.size+3) (Vz (·.push u))).get? (s.heap.objs.size+3)=yz (Ub "list" (Y++[u]).toArray c2):=⟨_,by rw[<-ea];exact Vei ab (·.push u)⟩;dsimp only;have bc:V0=_:=Vdd;refine Va (Vds ab rfl (Vh ⟨rfl,?_⟩) (by rw[Vn];omega) (by rw[Array.size_push,Vn];omega));have J3:=J2.write (x:=s.heap.objs.size+3) (e:=s.heap.objs.size+3) (o:=.lst (vs++[v2])) (t':=s2.toks) (by rw[ai];trivial) (.inl rfl) (λb w hb q=>(sb.2 b hb).trans q) ⟨_,ay⟩ ⟨by rw[V3,aj.length];show (ll Y)+1<=_;omega,Y++[u],c2,aj.append (.cons a4 .nil),ay⟩;have mo:Mon X.K av av H2 (upd H2 (s.heap.objs.size+3) (.lst (vs++[v2]))):=Mon.own ai;have ak:=(ah.trans ao).own (u:=.lst (vs++[v2])) ac ai;refine⟨_,av,vs++[v2],⟨J3,a7.own ai aw,I.er.mono ak⟩,ak,aw,Xp,?_⟩;rw[Xk7 ks j _ hk];exact(RDs.mono' mo _ _ (af.mono ao)).append (.cons (RD.mono' mo _ _ ba) .nil)
 ·obtain⟨H1,ar,vs,I1,ah,aq,ae,af⟩:=hI;rw[Va1,ap,Vd5]at af;obtain⟨a1,Y,nk,aj,ek⟩:=(show ObjOk X.prog X.w H1 s1.heap (s.heap.objs.size+3) (.lst vs) from I1.inv.hok _ _ ae);have ab:s1.heap.get? (s.heap.objs.size+3)=yz (Ub "list" Y.toArray nk):=ek;have a3:RDs X.K ar H1 ((ks.map Va6).map Xa1) vs:=by rw[Vam];exact af
  obtain⟨tq,t1,t2,t3⟩:=Xf1 I1.inv _ _ _ a3 aj;obtain⟨ps,p1,p2,p3⟩:=Xf1 I.inv _ _ _ hr al;obtain⟨qs,q1,q2,q3,q4⟩:=Xpo tq ps (by rw[t1,<-p1,Vam];rfl);rw[t2]at q1;rw[p2]at q2;have lq:(ll qs)=ll ks:=by rw[<-Vl (f:=λq:LI×Vb×Vb=>q.2.2),q2];exact ap
  have oD:=(I1.inv.pin (s.heap.objs.size+1,Ub "list" #[] e1) (by simp)).1;refine Va (Vd6 ab rfl ?_);rw[<-q1]at ab ⊢;rw[<-q2];refine X0t (by show X.A.units+1+1<_;omega) (by omega) ab oD ne (λq hq=>(t3 _ (q4 q hq).1).1) λrs r1 r2=>⟨_,rfl,Vh ⟨_,rfl,?_⟩⟩;have sb:=Vfg s1.heap (s.heap.objs.size+3) (Vz λ_=>(#[]:AV));have k5:=Vei ab λ_=>#[];have J2:=I1.inv.write (x:=s.heap.objs.size+3) (e:=s.heap.objs.size+3) (o:=.lst []) (t':=s1.toks) (by rw[ae];trivial) (.inl rfl) (λb w hb q=>(sb.2 b hb).trans q) ⟨_,k5⟩ ⟨Um _,[],_,.nil,k5⟩;have a9:=(J2.pin (s.heap.objs.size+1,Ub "list" #[] e1) (by simp)).1;have d5:=Vei a9 λ_=>(rs.map λq:LI×Vb×Vb=>q.2.2).toArray;obtain⟨zs,z1,z2⟩:=Xi7 (X:=X) (ρ:=ρ) (H:=H) (f:=Va6) (rs.map λq=>(q.1,q.2.2)) λq hq=>by obtain⟨p,hp,rfl⟩:=U5.mp hq;exact(p3 _ (q4 p (r1.mem_iff.mp hp)).2).2
  rw[Vam]at z2;replace z2:Vals zs (rs.map λq:LI×Vb×Vb=>q.2.2):=z2;have e9:=Xmt (r1.map λq=>q.1) r2;rw[q3,t1]at e9;have a2:((rs.map λq:LI×Vb×Vb=>(q.1,q.2.2)).map λq=>q.1.reverse)=(Xab (ks.map Va6)).map Va6:=by rw[<-e9,Vam,Vam];rfl
  rw[a2]at z1;have sl:=Vdd;have J3:=Inv.own1 (u:=.lst zs) (t':=s1.toks) J2 (by omega) a6 (λb w hb q=>(Vc6 _ _ _ _ hb).trans q) ⟨_,d5⟩ ⟨by rw[z2.length,Vl,r1.length_eq];omega,_,_,z2,by simpa [Ub] using d5⟩;have ak:=ah.own (u:=.lst []) ac ae;exact OkP.pre ak (Xa3 J3 (by rw[Xe ne.symm];exact(I1.inv.pin (s.heap.objs.size+1,Ub "list" #[] e1) (by simp)).2.1) (I1.sr.own ae aq) (z1.mono ak))
end
noncomputable def Xm0(sc:Ur)(x:Str):Bool:=match sc.names.lookup x with
 |some .local=>yx|some .cell=>yx|some .free=>yx|_=>yw
noncomputable def glB(sc:Ur)(x:Str):Bool:=match sc.names.lookup x with
 |some .globalImplicit=>yx|_=>yw
noncomputable def Xi9(top:Str->Bool)(sc:Ur)(x:Str):Bool:=match sc.names.lookup x with
 |some .local=>yx|some .cell=>top x|_=>yw
noncomputable def Xay(x:Str):Bool:=!(x==("__debug__" : Str)) && !(x==("__classdict__" : Str)) && !decide (x="__name__")
theorem Xpp(h:Xm0 sc x=yx):Vis sc x:=by
 unfold Xm0 at h;split at h;·exact .inl (by assumption)
 ·exact .inr (.inl (by assumption))
 ·exact .inr (.inr (by assumption))
 cases h
theorem Xaq(hs:X.env.scope=sc)(h:glB sc x=yx):Gl X x:=by
 subst hs;unfold glB at h;split at h;·assumption
 ·cases h
theorem Xf2{X:Cx}{top:Str->Bool}{sc:Ur}{x:Str}(hs:X.env.scope=sc)(J:∀x,top x=yx->X.fn x=yx)(h:Xi9 top sc x=yx):Loc X.env.scope x/\(X.fn x=yx\/X.env.scope.names.lookup x=yz .local):=by
 subst hs;unfold Xi9 at h;split at h;·exact⟨.inl (by assumption),.inr (by assumption)⟩
 ·exact⟨.inr (by assumption),.inl (J x h)⟩
 cases h
theorem Xa4(h:Xay x=yx):(x==("__debug__" : Str))=yw/\(x==("__classdict__" : Str))=yw/\x ≠ "__name__":=by simp only[Xay,bA0,Vbn,decide_eq_false_iff_not]at h;exact⟨h.1.1,h.1.2,h.2⟩
noncomputable def Ym:Expr->Bool
 |.Starred _ _=>yw|_=>yx
theorem Xv(h:Ym e=yx):Uk (e::es) env=(yw,eval e env)::Uk es env:=by cases e<;>first|rfl|cases h
theorem Xap(h:es.all Ym=yx):(Vb2 pos (Uk es env)).any (·.1)=false:=by
 induction es with
 |nil=>rfl|cons e es ih=>rw[Vby,bA0]at h;rw[Xv h.1];show(yw||(Vb2 pos (Uk es env)).any (·.1))=yw;rw[ih h.2];rfl
theorem Xwo(h:es.all Ym=yx):(Vb2 pos (Uk es env)).all (λx=>!x.1)=true:=by
 induction es with
 |nil=>rfl|cons e es ih=>rw[Vby,bA0]at h;rw[Xv h.1];show(yx&&(Vb2 pos (Uk es env)).all (λx=>!x.1))=yx;rw[ih h.2];rfl
noncomputable def Xdr:Expr->Bool
 |.Name _ _=>yx|.Constant _ _ _=>yx|.BinOp _ _ _ _=>yx|.UnaryOp _ _ _=>yx|.Call _ _ _ _=>yx|.Subscript _ _ _=>yx|.IfExp _ _ _ _=>yx|.Compare _ _ _ _=>yx|_=>yw
theorem Xq8(h:Xdr b=yx):Xit b:=by cases b<;>first|(intro o i;rfl)|cases h
noncomputable def Xb1:Expr->Bool
 |.Set _ _ _=>yw|_=>yx
theorem Xef(h:Xb1 e=yx)(x:Vb):Vbm e env x=pure x:=by cases e<;>first|rfl|cases h
noncomputable def Xq9:Expr->Bool
 |.Name _ _=>yx|.Subscript _ _ _=>yx|.Constant _ _ _=>yx|_=>yw
theorem ff{P:Prop}(h:yw=yx):P:=nomatch h
theorem Xf3(h:Xq9 o=yx):attributeBase o name env (eval o env)=eval o env:=by cases o<;>first|rfl|exact ff h
noncomputable def Xra(c:Co)(o:CmpOp):Bool:=decide (o=opC c)
theorem Xja{c:Co}{o:CmpOp}(h:Xra c o=yx):o=opC c:=oD0 h
noncomputable def Xrb(c:Bo)(o:Operator):Bool:=decide (o=opB c)
theorem Xpq{c:Bo}{o:Operator}(h:Xrb c o=yx):o=opB c:=oD0 h
noncomputable def Xjb:D->Const->Bool
 |.int i,.int j=>i==j|.bl i,.bool j=>i==j|.non,.none=>yx|.str i,.str j=>decide (i=j)|_,_=>yw
noncomputable def Xrc:Bl->Option (Str×Bool×String)
 |.len=>yz ("len",yx,"len")|.tuple=>yz ("tuple",yw,"tuple")|.list=>yz ("list",yw,"list")|.all=>yz ("all",yx,"all")|.anb=>yz ("any",yx,"any")|.smB=>yz ("sum",yx,"sum")|.max=>yz ("max",yx,"max")|.min=>yz ("min",yx,"min")|.repr=>yz ("repr",yx,"repr")|.itB=>yz ("int",yw,"int")|.srt=>yz ("sorted",yx,"sorted")
noncomputable def Xrd:Bl->Bool
 |.len=>yx|.tuple=>yx|.list=>yx|.repr=>yx|.itB=>yx|.srt=>yx|_=>yw
noncomputable def X5h:Tg->Bool
 |.var _=>yx|_=>yw
noncomputable def tyB(sc:Ur)(t:Ty)(nm:Str):Bool:=match t with
 |.cls c=>decide (Xbj c=yz nm)|.int=>decide (nm="int")|.bool=>decide (nm="bool")|.str=>decide (nm="str")|.tuple=>decide (nm="tuple")|.list=>decide (nm="list")|.dict=>decide (nm="dict")|.valueError=>decide (nm="ValueError")
noncomputable def Ybl:Ty->Bool
 |.cls _=>yw|.valueError=>yw|_=>yx
noncomputable def tyM(sc:Ur)(ts:List Ty)(y:Expr):Bool:=match y with
 |.Name nm _=>glB sc nm&&Xay nm&&(match ts with|[t]=>tyB sc t nm|_=>yw)|_=>yw
noncomputable def Yba:Mt->Option Str
 |.append=>yz "append"|.xtd=>yz "extend"|.count=>yz "count"|.index=>yz "index"
noncomputable def Xg7(scope sc:Ur):Ur:={scope with names:=scope.names.map λ(n,k)=>if (k == .free&&sc.kind == .function&&sc.names.lookup n==yz .cell) then (n,.cell) else (n,k)}
noncomputable def Y0(scope:Ur):LS:=scope.names.filterMap λx=>match x.2 with
 |.local=>yz x.1|.cell=>yz x.1|_=>yy
noncomputable def Xca(N N2:LS)(x:Str):Bool:=(N2.drop N.length).contains x
theorem X0u(h:Xca N (Xao N own) x=yx):own.contains x=true:=by unfold Xca Xao at h;rw[List.drop_left' (by simp)]at h;exact h
noncomputable def Xre(k:ScopeKind):Bool:=match k with
 |.function=>yx|_=>yw
theorem Xjc(h:Xre k=yx):k=.function:=by cases k<;>first|rfl|cases h
noncomputable def Xm1(k:Option Ven):Bool:=match k with
 |some .cell=>yx|some .free=>yx|_=>yw
noncomputable def Xda(k:Option Ven):Bool:=match k with
 |some .local=>yx|_=>yw
noncomputable def Xe0:LS->Bool
 |[]=>yx|x::r=>!(r.contains x)&&Xe0 r
theorem Xe1:∀ {l:LS},Xe0 l=yx->l.Nodup
 |[],_=>List.nodup_nil|x::r,h=>by simp only[Xe0,bA0,Vbn,List.contains_eq_mem]at h;exact Vfi.mpr ⟨by simpa using h.1,Xe1 h.2⟩
noncomputable def scB(outer sc:Ur)(N:LS):Bool:=
 Xre sc.kind&&Xre outer.kind&&Xe0 (Xao N (Y0 sc)) &&
 sc.names.all (λy=>match y.2 with|.free=>Xm1 (outer.names.lookup y.1) && !(Y0 sc).contains y.1|.local=>Xda (sc.names.lookup y.1)|_=>yx) &&
 N.all (λy=>!((Y0 sc).contains y)||(sc.names.lookup (Val "0" ++ y)).isNone)
theorem Xtq(h:scB outer sc N=yx):ScOk outer sc N (Y0 sc):=by
 simp only[scB,bA0]at h;obtain⟨⟨⟨⟨h1,h2⟩,h3⟩,h5⟩,h6⟩:=h;have Y:∀y∈sc.names,y.2=.free->Xm1 (outer.names.lookup y.1)=yx/\y.1 ∉ Y0 sc:=λy J hf=>by have:=Vab.mp h5 y J;rw[hf]at this;simpa using this
 have L:∀y∈sc.names,y.2=.cell->y.1∈Y0 sc:=λy J hk=>Veb.mpr ⟨y,J,by rw[hk]⟩;refine⟨Xjc h1,Xjc h2,Xe1 h3,L,λy J hf=>(Y y J hf).2,λy J hf=>?_,λy J=>?_,λx hx hl=>?_,λy J hc=>?_⟩
 ·have:=(Y y J hf).1;unfold Xm1 at this;split at this;·exact .inl (by assumption)
  ·exact .inr (by assumption)
  cases this
 ·exact Veb.mpr ⟨(y,.local),Xci J,rfl⟩
 ·have:=Vab.mp h5 x hx;rw[hl]at this;dsimp only at this;unfold Xda at this;split at this;·assumption
  ·cases this
 have:=Vab.mp h6 y J;rw[hc]at this;simp only[Vc1,Vfd,Vh3]at this;exact this
noncomputable def Xrf:It->Bool
 |.enm _=>yx|_=>yw
noncomputable def Xe2(t:Tg)(it:It):Bool:=!Xrf it || !X5h t
noncomputable def Xwp:Expr->Bool
 |.Name _ _=>yx|.Subscript _ _ _=>yx|_=>yw
noncomputable def mnC(i:Int)(e:Expr):Bool:=match e with
 |.UnaryOp .USub x _=>(match x with
  |.Constant (.int j) _ _=>i==j
  |_=>yw)
 |_=>yw
noncomputable def Xjd(i:Int)(l:Option Int)(e:Expr):Bool:=match e with
 |.Slice lo yy (yz st) _=>mnC i st&&(match l,lo with
  |none,yy=>yx|some k,yz x=>mnC k x
  |_,_=>yw)
 |_=>yw
theorem Xd{α:Type}{o:Option α}{p:α->Bool}(h:o.any p=yx):∃x,o=yz x/\p x=true:=by
 cases o with
 |none=>cases h|some x=>exact⟨x,rfl,h⟩
theorem ns{α:Type}{z:α}{P:Prop}(h:(yy:Option α)=yz z):P:=nomatch h
noncomputable def vNm(e:Expr):Option Str:=match e with
 |.Name x _=>yz x|_=>yy
theorem Xar{e:Expr}{x:Str}(h:vNm e=yz x):∃p,e=.Name x p:=by
 cases e with
 |Name _ _=>cases h;exact⟨_,rfl⟩|_=>exact ns h
noncomputable def X5i(e:Expr):Option Const:=match e with
 |.Constant c _ _=>yz c|_=>yy
theorem X0v{e:Expr}{x:Const}(h:X5i e=yz x):∃k p,e=.Constant x k p:=by
 cases e with
 |Constant _ _ _=>cases h;exact⟨_,_,rfl⟩|_=>exact ns h
noncomputable def vUn(e:Expr):Option (UnaryOp×Expr):=match e with
 |.UnaryOp o x _=>yz (o,x)|_=>yy
theorem Xtr{e:Expr}{z:UnaryOp×Expr}(h:vUn e=yz z):∃p,e=.UnaryOp z.1 z.2 p:=by
 cases e with
 |UnaryOp _ _ _=>cases h;exact⟨_,rfl⟩|_=>exact ns h
noncomputable def X5j(o:UnaryOp):Bool:=decide (o=.USub)
theorem X0w(h:X5j o=yx):o=.USub:=oD0 h
noncomputable def X5k(o:UnaryOp):Bool:=decide (o=.Not)
theorem X0x(h:X5k o=yx):o=.Not:=oD0 h
noncomputable def Xm2(e:Expr):Option (LX):=match e with
 |.Tuple xs _ _=>yz xs|_=>yy
theorem Xcn{e:Expr}{x:LX}(h:Xm2 e=yz x):∃k p,e=.Tuple x k p:=by
 cases e with
 |Tuple _ _ _=>cases h;exact⟨_,_,rfl⟩|_=>exact ns h
noncomputable def X5l(e:Expr):Option (LX):=match e with
 |.List xs _=>yz xs|_=>yy
theorem X0y{e:Expr}{x:LX}(h:X5l e=yz x):∃p,e=.List x p:=by
 cases e with
 |List _ _=>cases h;exact⟨_,rfl⟩|_=>exact ns h
noncomputable def X5m(e:Expr):Option (Expr×Operator×Expr):=match e with
 |.BinOp x o y _=>yz (x,o,y)|_=>yy
theorem X0z{e:Expr}{z:Expr×Operator×Expr}(h:X5m e=yz z):∃p,e=.BinOp z.1 z.2.1 z.2.2 p:=by
 cases e with
 |BinOp _ _ _ _=>cases h;exact⟨_,rfl⟩|_=>exact ns h
noncomputable def Xdk{α:Type}(l:List α):Option α:=match l with
 |[x]=>yz x|_=>yy
theorem Xbh{α:Type}{l:List α}{x:α}(h:Xdk l=yz x):l=[x]:=by
 unfold Xdk at h;split at h;·cases h;rfl
 ·cases h
noncomputable def Xg8{α:Type}(l:List α):Option (α×α):=match l with
 |[x,y]=>yz (x,y)|_=>yy
theorem Xds{α:Type}{l:List α}{z:α×α}(h:Xg8 l=yz z):l=[z.1,z.2]:=by
 unfold Xg8 at h;split at h;·cases h;rfl
 ·cases h
noncomputable def Xwq(e:Expr):Option (Expr×List CmpOp×LX):=match e with
 |.Compare x os ys _=>yz (x,os,ys)|_=>yy
theorem Xpr{e:Expr}{z:Expr×List CmpOp×LX}(h:Xwq e=yz z):∃p,e=.Compare z.1 z.2.1 z.2.2 p:=by
 cases e with
 |Compare _ _ _ _=>cases h;exact⟨_,rfl⟩|_=>exact ns h
noncomputable def Xrg(e:Expr):Option (BoolOp×LX×Pos):=match e with
 |.BoolOp o xs p=>yz (o,xs,p)|_=>yy
theorem X00{e:Expr}{z:BoolOp×LX×Pos}(h:Xrg e=yz z):e=.BoolOp z.1 z.2.1 z.2.2:=by
 cases e with
 |BoolOp _ _ _=>cases h;rfl|_=>exact ns h
noncomputable def opA(an:Bool):BoolOp:=if an then .And else .Or
noncomputable def Xrh(an:Bool)(o:BoolOp):Bool:=decide (o=opA an)
theorem X01{an:Bool}{o:BoolOp}(h:Xrh an o=yx):o=opA an:=oD0 h
noncomputable def Xm3(an:Bool)(p:Pos)(l:LX):Option (Expr×Expr):=match l with
 |[x,y]=>yz (x,y)|x::y::z::r=>yz (x,.BoolOp (opA an) (y::z::r) p)|_=>yy
theorem X02(h:Xm3 an p l=yz z):l=[z.1,z.2]\/∃y J r,l=z.1::y::J::r/\z.2=.BoolOp (opA an) (y::J::r) p:=by
 unfold Xm3 at h;split at h;·cases h;exact .inl rfl
 ·cases h;exact .inr ⟨_,_,_,rfl,rfl⟩
 cases h
noncomputable def vIf(e:Expr):Option (Expr×Expr×Expr):=match e with
 |.IfExp x y z _=>yz (x,y,z)|_=>yy
theorem X5n{e:Expr}{z:Expr×Expr×Expr}(h:vIf e=yz z):∃p,e=.IfExp z.1 z.2.1 z.2.2 p:=by
 cases e with
 |IfExp _ _ _ _=>cases h;exact⟨_,rfl⟩|_=>exact ns h
noncomputable def Xe3(e:Expr):Option (Expr×Expr):=match e with
 |.Subscript x y _=>yz (x,y)|_=>yy
theorem Xco{e:Expr}{z:Expr×Expr}(h:Xe3 e=yz z):∃p,e=.Subscript z.1 z.2 p:=by
 cases e with
 |Subscript _ _ _=>cases h;exact⟨_,rfl⟩|_=>exact ns h
noncomputable def Xri(e:Expr):Option (Option Expr×Option Expr):=match e with
 |.Slice l h yy _=>yz (l,h)|_=>yy
theorem Xps(h:Xri e=yz z):∃p,e=.Slice z.1 z.2 yy p:=by
 cases e with
 |Slice l u st p=>
  cases st with
  |none=>cases h;exact⟨_,rfl⟩|some _=>cases h
 |_=>exact ns h
noncomputable def Xbc(e:Expr):Option (Expr×Expr×LX×Pos):=match e with
 |.Call f (y::ys) [] p=>yz (f,y,ys,p)|_=>yy
theorem Xje{e:Expr}{z:Expr×Expr×LX×Pos}(h:Xbc e=yz z):e=.Call z.1 (z.2.1::z.2.2.1) [] z.2.2.2:=by
 cases e with
 |Call f xs ks p=>
  cases xs with
  |nil=>cases h|cons y ys=>
   cases ks with
   |nil=>cases h;rfl|cons _ _=>cases h
 |_=>exact ns h
noncomputable def Xwr(e:Expr):Option (Expr×Str×Pos):=match e with
 |.Attribute o nm p=>yz (o,nm,p)|_=>yy
theorem X03(h:Xwr e=yz z):e=.Attribute z.1 z.2.1 z.2.2:=by
 cases e with
 |Attribute _ _ _=>cases h;rfl|_=>exact ns h
noncomputable def vLC(e:Expr):Option (Expr×List Vbj×Ur):=match e with
 |.ListComp e gens scope _=>yz (e,gens,scope)|_=>yy
theorem X5o{e:Expr}{z:Expr×List Vbj×Ur}(h:vLC e=yz z):∃p,e=.ListComp z.1 z.2.1 z.2.2 p:=by
 cases e with
 |ListComp _ _ _ _=>cases h;exact⟨_,rfl⟩|_=>exact ns h
section
variable(cm:Bool)(fns:LF)(gns:LS)
noncomputable def mtT(top:Str->Bool)(sc:Ur)(N:LS):Tg->Expr->Bool
 |.var i,e=>(vNm e).any λx=>decide (N[i]?=yz x)&&Xi9 top sc x|.tup is,e=>(Xm2 e).any λes=>namesB is es
where namesB:LN->LX->Bool
 |[],[]=>yx
 |i::is,e::es=>((vNm e).any λx=>decide (N[i]?=yz x)&&Xi9 top sc x)&&namesB is es
 |_,_=>yw
noncomputable def fnB(f:Nat)(x:Str)(n:Nat):Bool:=match fns[f]? with
 |some (nm,ar,fl)=>decide (nm=x)&&decide (ar=n)&&(cm || !fl)|none=>yw
noncomputable def blB(k:Bl)(x:Str):Bool:=match Xrc k with
 |some (nm,_,_)=>decide (x=nm)|none=>yw
noncomputable def mtB(k:Mt)(nm:Str):Bool:=match Yba k with
 |some m=>decide (nm=m)|none=>yw
mutual
noncomputable def mt(sc:Ur)(N:LS):Ex->Expr->Bool
 |.nev,_=>yx|.var i,e=>(vNm e).any λx=>decide (N[i]?=yz x)&&Xm0 sc x&&Xay x|.cst d,e=>(X5i e).any λc=>Xjb d c|.neg a,e=>(vUn e).any λz=>X5j z.1&&mt sc N a z.2|.glb k,e=>(vNm e).any λx=>decide (gns[k]?=yz x)&&glB sc x&&Xay x|.tup es,e=>(Xm2 e).any λxs=>mts sc N es xs|.lst es,e=>(X5l e).any λxs=>mts sc N es xs|.isi a ts,e=>(Xbc e).any λz=>(vNm z.1).any λ(f:Str)=>decide (f="isinstance")&&glB sc f&&Ym z.2.1&&mt sc N a z.2.1&&(Xdk z.2.2.1).any λy=>tyM sc ts y|.bin op a b,e=>(X5m e).any λz=>Xrb op z.2.1&&mt sc N a z.1&&mt sc N b z.2.2|.cmp op a b,e=>(Xwq e).any λz=>(Xdk z.2.1).any λo=>(Xdk z.2.2).any λy=>Xra op o && !(Vgh (opC op) y)&&mt sc N a z.1&&mt sc N b y|.chn o1 o2 a b c,e=>(Xwq e).any λz=>(Xg8 z.2.1).any λo=>(Xg8 z.2.2).any λy=>Xra o1 o.1&&Xra o2 o.2 && !(lastMarks [opC o1,opC o2] [y.1,y.2])&&mt sc N a z.1&&mt sc N b y.1&&mt sc N c y.2|.and a b,e=>(Xrg e).any λz=>Xrh yx z.1&&(Xm3 yx z.2.2 z.2.1).any λy=>mt sc N a y.1&&mt sc N b y.2|.or a b,e=>(Xrg e).any λz=>Xrh yw z.1&&(Xm3 yw z.2.2 z.2.1).any λy=>mt sc N a y.1&&mt sc N b y.2|.not a,e=>(vUn e).any λz=>X5k z.1&&mt sc N a z.2|.ite c a b,e=>(vIf e).any λz=>mt sc N c z.1&&mt sc N a z.2.1&&mt sc N b z.2.2|.idx a i,e=>(Xe3 e).any λz=>Xdr z.2&&mt sc N a z.1&&mt sc N i z.2|.call f es,e=>(Xbc e).any λz=>(vNm z.1).any λx=>fnB cm fns f x (z.2.1::z.2.2.1).length&&glB sc x&&Xay x&&mts sc N es (z.2.1::z.2.2.1)|.blt k es,e=>(Xbc e).any λz=>(vNm z.1).any λx=>blB k x&&(cm||Xrd k)&&glB sc x&&Xay x&&mts sc N es (z.2.1::z.2.2.1)|.mth k o es,e=>(Xbc e).any λz=>(Xwr z.1).any λx=>mtB k x.2.1&&Xq9 x.1&&(x.2.2.endLine==z.2.2.2.line)&&decide ((z.2.1::z.2.2.1).length<29)&&mt sc N o x.1&&mts sc N es (z.2.1::z.2.2.1)|.cmr k n gs elt,e=>(vLC e).any λz=>cm && !k&&decide ((Y0 z.2.2).length=n)&&scB sc z.2.2 N&&mtG sc N (Xg7 z.2.2 sc) (Xao N (Y0 z.2.2)) gs z.2.1&&mt (Xg7 z.2.2 sc) (Xao N (Y0 z.2.2)) elt z.1|.sli a lo hi,e=>(Xe3 e).any λz=>(Xri z.2).any λy=>mt sc N a z.1&&mto sc N lo y.1&&mto sc N hi y.2|.cal f es,e=>(Xbc e).any λz=>cm&&Xwp z.1&&mt sc N f z.1&&mts sc N es (z.2.1::z.2.2.1)|.rev a,e=>(Xe3 e).any λz=>Xjd 1 yy z.2&&mt sc N a z.1|.lenm a,e=>(Xbc e).any λz=>(vNm z.1).any λ(x:Str)=>decide (x="list")&&cm&&glB sc x&&z.2.2.1.isEmpty&&(Xbc z.2.1).any λy=>(vNm y.1).any λ(J:Str)=>decide (J="enumerate")&&glB sc J&&y.2.2.1.isEmpty&&Ym y.2.1&&mt sc N a y.2.1
noncomputable def mto(sc:Ur)(N:LS):Op->Option Expr->Bool
 |.none,yy=>yx|.some e,yz x=>mt sc N e x|_,_=>yw
noncomputable def mts(sc:Ur)(N:LS):Exs->LX->Bool
 |.nil,[]=>yx|.cons e es,x::xs=>Ym x&&mt sc N e x&&mts sc N es xs|_,_=>yw
noncomputable def mtG(sc:Ur)(N:LS)(sc2:Ur)(N2:LS):Gens->List Vbj->Bool
 |.nil,_=>yw|.cons t it ifs gs,l=>match l with
  |[]=>yw|c::r=>(c.is_async==0)&&Xb1 c.iter&&mtT (Xca N N2) sc2 N2 t c.target&&mtI sc N it c.iter&&mts sc2 N2 ifs c.ifs&&Xe2 t it&&match gs with
   |.nil=>r.isEmpty|.cons t2 it2 ifs2 J=>match r with
    |[]=>yw|c2::r2=>(c2.is_async==0)&&Xb1 c2.iter&&mtT (Xca N N2) sc2 N2 t2 c2.target&&mtI sc2 N2 it2 c2.iter&&mts sc2 N2 ifs2 c2.ifs&&Xe2 t2 it2&&r2.isEmpty&&match J with
     |.nil=>yx|.cons ..=>yw
noncomputable def mtI(sc:Ur)(N:LS):It->Expr->Bool
 |.val e,x=>mt sc N e x|.rng es,e=>(Xbc e).any λz=>(vNm z.1).any λ(x:Str)=>decide (x="range")&&glB sc x&&mts sc N es (z.2.1::z.2.2.1)|.enm es,e=>(Xbc e).any λz=>(vNm z.1).any λ(x:Str)=>decide (x="enumerate")&&glB sc x&&mts sc N es (z.2.1::z.2.2.1)
end
end
section
variable{cm:Bool}{fns:LF}{gns:LS}{sc sc2:Ur}{N N2:LS}{t t2:Tg}{it it2:It}{ifs ifs2:Exs}
theorem X9h(h:mtG cm fns gns sc N sc2 N2 .nil gens=yx):False:=by cases h
theorem X9i(h:mtG cm fns gns sc N sc2 N2 (.cons t it ifs .nil) gens=yx):∃tg iter J,gens=[⟨tg,iter,J,0⟩]/\Xb1 iter=yx/\mtT (Xca N N2) sc2 N2 t tg=yx/\mtI cm fns gns sc N it iter=yx/\mts cm fns gns sc2 N2 ifs J=yx/\Xe2 t it=true:=by
 cases gens with
 |nil=>cases h|cons c r=>obtain⟨tg,iter,J,a⟩:=c;have h:(_&&_)=true:=h;simp only[bA0,beq_iff_eq,Vbh]at h;obtain⟨⟨⟨⟨⟨⟨h1,h2⟩,Y⟩,h4⟩,L⟩,h6⟩,h7⟩:=h;subst h1 h7;exact⟨tg,iter,J,rfl,h2,Y,h4,L,h6⟩
theorem X9j(h:mtG cm fns gns sc N sc2 N2 (.cons t it ifs (.cons t2 it2 ifs2 .nil)) gens=yx):∃tg iter cs L J Y,gens=[⟨tg,iter,cs,0⟩,⟨L,J,Y,0⟩]/\Xb1 iter=yx/\Xb1 J=yx/\mtT (Xca N N2) sc2 N2 t tg=yx/\mtI cm fns gns sc N it iter=yx/\mts cm fns gns sc2 N2 ifs cs=yx/\mtT (Xca N N2) sc2 N2 t2 L=yx/\mtI cm fns gns sc2 N2 it2 J=yx/\mts cm fns gns sc2 N2 ifs2 Y=yx/\Xe2 t it=yx/\Xe2 t2 it2=true:=by
 cases gens with
 |nil=>cases h|cons c r=>
  obtain⟨tg,iter,cs,a⟩:=c;cases r with
  |nil=>have h:(_&&_)=true:=h;simp only[Vf2,Ui]at h|cons c2 r=>obtain⟨L,J,Y,a2⟩:=c2;have h:(_&&_)=true:=h;simp only[bA0,beq_iff_eq,Vbh]at h;obtain⟨⟨⟨⟨⟨⟨h1,h3⟩,h5⟩,h6⟩,h7⟩,ac⟩,⟨⟨⟨⟨⟨⟨h2,h4⟩,h8⟩,h9⟩,ae⟩,aa⟩,ab⟩,_⟩:=h;subst h1 h2 ab;exact⟨tg,iter,cs,L,J,Y,rfl,h3,h4,h5,h6,h7,h8,h9,ae,ac,aa⟩
theorem X9k(h:mtG cm fns gns sc N sc2 N2 (.cons t it ifs (.cons t2 it2 ifs2 (.cons t3 it3 ifs3 gs3))) gens=yx):False:=by
 cases gens with
 |nil=>cases h|cons c r=>cases r<;>(have h:(_&&_)=true:=h;simp only[Vf2,Ui]at h)
theorem Xcx{e:Expr}{q:Expr×Expr×LX×Pos->Str->Bool}(h:((Xbc e).any λz=>(vNm z.1).any λx=>q z x)=yx):∃x p y ys J,e=.Call (.Name x p) (y::ys) [] J/\q (.Name x p,y,ys,J) x=true:=by obtain⟨⟨f,y,ys,J⟩,h1,h2⟩:=Xd h;obtain⟨x,Y,h4⟩:=Xd h2;have e1:=Xje h1;subst e1;have L:vNm f=yz x:=Y;obtain⟨p,e2⟩:=Xar L;subst e2;exact⟨x,p,y,ys,J,rfl,h4⟩
theorem X5p{i:Nat}{e:Expr}(h:mt cm fns gns sc N (.var i) e=yx):∃x p,e=.Name x p/\N[i]?=yz x/\Xm0 sc x=yx/\Xay x=true:=by obtain⟨x,h1,h2⟩:=Xd h;obtain⟨p,rfl⟩:=Xar h1;simp only[bA0,decide_eq_true_eq]at h2;exact⟨x,p,rfl,h2.1.1,h2.1.2,h2.2⟩
theorem X5q{d:D}{e:Expr}(h:mt cm fns gns sc N (.cst d) e=yx):∃c k p,e=.Constant c k p/\Xjb d c=true:=by obtain⟨c,h1,h2⟩:=Xd h;obtain⟨k,p,rfl⟩:=X0v h1;exact⟨c,k,p,rfl,h2⟩
theorem X5r{a:Ex}{e:Expr}(h:mt cm fns gns sc N (.neg a) e=yx):∃x p,e=.UnaryOp .USub x p/\mt cm fns gns sc N a x=true:=by obtain⟨⟨o,x⟩,h1,h2⟩:=Xd h;obtain⟨p,rfl⟩:=Xtr h1;rw[bA0]at h2;have J:=X0w h2.1;dsimp only at J;subst J;exact⟨x,p,rfl,h2.2⟩
theorem X5s{a:Ex}{e:Expr}(h:mt cm fns gns sc N (.not a) e=yx):∃x p,e=.UnaryOp .Not x p/\mt cm fns gns sc N a x=true:=by obtain⟨⟨o,x⟩,h1,h2⟩:=Xd h;obtain⟨p,rfl⟩:=Xtr h1;rw[bA0]at h2;have J:=X0x h2.1;dsimp only at J;subst J;exact⟨x,p,rfl,h2.2⟩
theorem X5t{k:Nat}{e:Expr}(h:mt cm fns gns sc N (.glb k) e=yx):∃x p,e=.Name x p/\gns[k]?=yz x/\glB sc x=yx/\Xay x=true:=by obtain⟨x,h1,h2⟩:=Xd h;obtain⟨p,rfl⟩:=Xar h1;simp only[bA0,decide_eq_true_eq]at h2;exact⟨x,p,rfl,h2.1.1,h2.1.2,h2.2⟩
theorem X5u{es:Exs}{e:Expr}(h:mt cm fns gns sc N (.tup es) e=yx):∃xs k p,e=.Tuple xs k p/\mts cm fns gns sc N es xs=true:=by obtain⟨x,h1,h2⟩:=Xd h;obtain⟨k,p,rfl⟩:=Xcn h1;exact⟨x,k,p,rfl,h2⟩
theorem X5v{es:Exs}{e:Expr}(h:mt cm fns gns sc N (.lst es) e=yx):∃xs p,e=.List xs p/\mts cm fns gns sc N es xs=true:=by obtain⟨x,h1,h2⟩:=Xd h;obtain⟨p,rfl⟩:=X0y h1;exact⟨x,p,rfl,h2⟩
theorem X5w{op:Bo}{a b:Ex}{e:Expr}(h:mt cm fns gns sc N (.bin op a b) e=yx):∃x y p,e=.BinOp x (opB op) y p/\mt cm fns gns sc N a x=yx/\mt cm fns gns sc N b y=true:=by obtain⟨⟨x,o,y⟩,h1,h2⟩:=Xd h;obtain⟨p,rfl⟩:=X0z h1;simp only[bA0]at h2;have J:=Xpq h2.1.1;subst J;exact⟨x,y,p,rfl,h2.1.2,h2.2⟩
theorem X5x{op:Co}{a b:Ex}{e:Expr}(h:mt cm fns gns sc N (.cmp op a b) e=yx):∃x y p,e=.Compare x [opC op] [y] p/\Vgh (opC op) y=yw/\mt cm fns gns sc N a x=yx/\mt cm fns gns sc N b y=true:=by obtain⟨⟨x,os,ys⟩,h1,h2⟩:=Xd h;obtain⟨o,Y,h4⟩:=Xd h2;obtain⟨y,L,J⟩:=Xd h4;obtain⟨p,rfl⟩:=Xpr h1;have e1:os=[o]:=Xbh Y;have e2:ys=[y]:=Xbh L;subst e1 e2;simp only[bA0,Vbn]at J;have e3:=Xja J.1.1.1;subst e3;exact⟨x,y,p,rfl,J.1.1.2,J.1.2,J.2⟩
theorem X5y{J L:Co}{a b c:Ex}{e:Expr}(h:mt cm fns gns sc N (.chn J L a b c) e=yx):∃x y z p,e=.Compare x [opC J,opC L] [y,z] p/\lastMarks [opC J,opC L] [y,z]=yw/\mt cm fns gns sc N a x=yx/\mt cm fns gns sc N b y=yx/\mt cm fns gns sc N c z=true:=by obtain⟨⟨x,os,ys⟩,h1,h2⟩:=Xd h;obtain⟨⟨p1,p2⟩,h3,h4⟩:=Xd h2;obtain⟨⟨y,z⟩,h5,Y⟩:=Xd h4;obtain⟨p,rfl⟩:=Xpr h1;have e1:os=[p1,p2]:=Xds h3;have e2:ys=[y,z]:=Xds h5;subst e1 e2;rw[bA0,bA0,bA0,bA0,bA0,Vbn]at Y;obtain⟨⟨⟨⟨⟨k1,k2⟩,k3⟩,k4⟩,k5⟩,k6⟩:=Y;have e3:=Xja k1;have e4:=Xja k2;dsimp only at e3 e4;subst e3 e4;exact⟨x,y,z,p,rfl,k3,k4,k5,k6⟩
theorem Xpt{an:Bool}{a b:Ex}{e:Expr}(h:((Xrg e).any λz=>Xrh an z.1&&(Xm3 an z.2.2 z.2.1).any λy=>mt cm fns gns sc N a y.1&&mt cm fns gns sc N b y.2)=yx):
  (∃x y p,e=.BoolOp (opA an) [x,y] p/\mt cm fns gns sc N a x=yx/\mt cm fns gns sc N b y=yx)\/∃x y z r p,e=.BoolOp (opA an) (x::y::z::r) p/\mt cm fns gns sc N a x=yx/\mt cm fns gns sc N b (.BoolOp (opA an) (y::z::r) p)=true:=by
 obtain⟨⟨o,xs,p⟩,h1,h2⟩:=Xd h;have e1:=X00 h1;subst e1;rw[bA0]at h2;have Y:=X01 h2.1;dsimp only at Y;subst Y;obtain⟨⟨x,y⟩,h3,L⟩:=Xd h2.2;rw[bA0]at L;rcases X02 h3 with J|⟨y1,y2,r,J,e4⟩;·dsimp only at J;subst J;exact .inl ⟨x,y,p,rfl,L.1,L.2⟩
 ·dsimp only at J e4;subst J e4;exact .inr ⟨x,y1,y2,r,p,rfl,L.1,L.2⟩
theorem X5z(h:mt cm fns gns sc N (.and a b) e=yx):(∃x y p,e=.BoolOp .And [x,y] p/\mt cm fns gns sc N a x=yx/\mt cm fns gns sc N b y=yx)\/∃x y z r p,e=.BoolOp .And (x::y::z::r) p/\mt cm fns gns sc N a x=yx/\mt cm fns gns sc N b (.BoolOp .And (y::z::r) p)=true:=by exact Xpt (an:=yx) h
theorem X9l(h:mt cm fns gns sc N (.or a b) e=yx):(∃x y p,e=.BoolOp .Or [x,y] p/\mt cm fns gns sc N a x=yx/\mt cm fns gns sc N b y=yx)\/∃x y z r p,e=.BoolOp .Or (x::y::z::r) p/\mt cm fns gns sc N a x=yx/\mt cm fns gns sc N b (.BoolOp .Or (y::z::r) p)=true:=by exact Xpt (an:=yw) h
theorem X50{c a b:Ex}{e:Expr}(h:mt cm fns gns sc N (.ite c a b) e=yx):∃x y z p,e=.IfExp x y z p/\mt cm fns gns sc N c x=yx/\mt cm fns gns sc N a y=yx/\mt cm fns gns sc N b z=true:=by obtain⟨⟨x,y,z⟩,h1,h2⟩:=Xd h;obtain⟨p,rfl⟩:=X5n h1;simp only[bA0]at h2;exact⟨x,y,z,p,rfl,h2.1.1,h2.1.2,h2.2⟩
theorem X51{a i:Ex}{e:Expr}(h:mt cm fns gns sc N (.idx a i) e=yx):∃x y p,e=.Subscript x y p/\Xdr y=yx/\mt cm fns gns sc N a x=yx/\mt cm fns gns sc N i y=true:=by obtain⟨⟨x,y⟩,h1,h2⟩:=Xd h;obtain⟨p,rfl⟩:=Xco h1;simp only[bA0]at h2;exact⟨x,y,p,rfl,h2.1.1,h2.1.2,h2.2⟩
theorem Xts{k:Bool}{n:Nat}{gs:Gens}{elt:Ex}{e:Expr}(h:mt cm fns gns sc N (.cmr k n gs elt) e=yx):∃J gens scope p,e=.ListComp J gens scope p/\cm=yx/\k=yw/\(Y0 scope).length=n/\scB sc scope N=yx/\mtG cm fns gns sc N (Xg7 scope sc) (Xao N (Y0 scope)) gs gens=yx/\mt cm fns gns (Xg7 scope sc) (Xao N (Y0 scope)) elt J=true:=by obtain⟨⟨J,gens,scope⟩,h1,h2⟩:=Xd h;obtain⟨p,rfl⟩:=X5o h1;simp only[bA0,decide_eq_true_eq,Vbn]at h2;obtain⟨⟨⟨⟨⟨h0,h1⟩,h2⟩,h3⟩,L⟩,Y⟩:=h2;exact⟨J,gens,scope,p,rfl,h0,h1,h2,h3,L,Y⟩
theorem X9m{n1 n2:Str}{cm:Bool}{M:Expr->Bool}(h:((Xbc e).any λz=>(vNm z.1).any λ(x:Str)=>decide (x=n1)&&cm&&glB sc x&&z.2.2.1.isEmpty&&(Xbc z.2.1).any λy=>(vNm y.1).any λ(x2:Str)=>decide (x2=n2)&&glB sc x2&&y.2.2.1.isEmpty&&Ym y.2.1&&M y.2.1)=yx):
  ∃p p2 x cp J,e=.Call (.Name n1 p) [.Call (.Name n2 p2) [x] [] J] [] cp/\cm=yx/\glB sc n1=yx/\glB sc n2=yx/\Ym x=yx/\M x=true:=by
 obtain⟨x,p,y,ys,cp,rfl,h1⟩:=Xcx h;rw[bA0,bA0,bA0,bA0]at h1;obtain⟨⟨⟨⟨e1,e2⟩,e3⟩,e4⟩,h2⟩:=h1;obtain⟨x2,p2,y2,ac,J,rfl,h3⟩:=Xcx h2;rw[bA0,bA0,bA0,bA0]at h3;obtain⟨⟨⟨⟨f1,f2⟩,f3⟩,f4⟩,f5⟩:=h3;have ab:=oD0 e1;have aa:=oD0 f1;subst ab aa;have Y:=Vbh.mp e4;have L:=Vbh.mp f3;dsimp only at Y L;subst Y L;exact⟨p,p2,y2,cp,J,rfl,e2,e3,f2,f4,f5⟩
theorem X04(h:mt cm fns gns sc N (.lenm a) e=yx):∃p p2 x L J,e=.Call (.Name "list" p) [.Call (.Name "enumerate" p2) [x] [] J] [] L/\cm=yx/\glB sc "list"=yx/\glB sc "enumerate"=yx/\Ym x=yx/\mt cm fns gns sc N a x=true:=by exact X9m h
theorem X52(h:mt cm fns gns sc N (.blt k es) e=yx):∃x p y ys J,e=.Call (.Name x p) (y::ys) [] J/\blB k x=yx/\(cm||Xrd k)=yx/\glB sc x=yx/\Xay x=yx/\mts cm fns gns sc N es (y::ys)=true:=by obtain⟨x,p,y,ys,J,rfl,h1⟩:=Xcx h;rw[bA0,bA0,bA0,bA0]at h1;exact⟨x,p,y,ys,J,rfl,h1.1.1.1.1,h1.1.1.1.2,h1.1.1.2,h1.1.2,h1.2⟩
theorem X05{k:Nat}(h:mt cm fns gns sc N (.call k es) e=yx):∃x p y ys J,e=.Call (.Name x p) (y::ys) [] J/\(∃fl,fns[k]?=yz (x,(y::ys).length,fl)/\(fl=yx->cm=yx))/\glB sc x=yx/\Xay x=yx/\mts cm fns gns sc N es (y::ys)=true:=by
 obtain⟨x,p,y,ys,J,rfl,h1⟩:=Xcx h;rw[bA0,bA0,bA0]at h1;refine⟨x,p,y,ys,J,rfl,?_,h1.1.1.2,h1.1.2,h1.2⟩;have h2:=h1.1.1.1;unfold fnB at h2;split at h2;·rename_i nm L fl e;simp only[bA0,decide_eq_true_eq,Vb6,Vbn]at h2;obtain⟨⟨rfl,rfl⟩,h2⟩:=h2;exact⟨fl,e,λz=>by rcases h2 with h2|h2;exact h2;rw[z]at h2;cases h2⟩
 ·cases h2
theorem X53{k:Mt}{o:Ex}{es:Exs}{e:Expr}(h:mt cm fns gns sc N (.mth k o es) e=yx):∃L nm Y y ys cp,e=.Call (.Attribute L nm Y) (y::ys) [] cp/\mtB k nm=yx/\Xq9 L=yx/\(Y.endLine==cp.line)=yx/\(y::ys).length<29/\mt cm fns gns sc N o L=yx/\mts cm fns gns sc N es (y::ys)=true:=by obtain⟨⟨f,y,ys,cp⟩,h1,h2⟩:=Xd h;obtain⟨⟨L,nm,Y⟩,h3,J⟩:=Xd h2;have e1:=Xje h1;subst e1;have aa:Xwr f=yz (L,nm,Y):=h3;have e2:=X03 aa;subst e2;rw[bA0,bA0,bA0,bA0,bA0]at J;exact⟨L,nm,Y,y,ys,cp,rfl,J.1.1.1.1.1,J.1.1.1.1.2,J.1.1.1.2,oD0 J.1.1.2,J.1.2,J.2⟩
theorem X54{a:Ex}{ts:List Ty}{e:Expr}(h:mt cm fns gns sc N (.isi a ts) e=yx):∃Y x y J,e=.Call (.Name "isinstance" Y) [x,y] [] J/\glB sc "isinstance"=yx/\Ym x=yx/\mt cm fns gns sc N a x=yx/\tyM sc ts y=true:=by obtain⟨f,p,y,ys,J,rfl,h1⟩:=Xcx h;rw[bA0,bA0,bA0,bA0]at h1;obtain⟨⟨⟨⟨h2,h3⟩,h4⟩,h5⟩,h6⟩:=h1;have e1:f="isinstance":=oD0 h2;subst e1;obtain⟨L,h7,h8⟩:=Xd h6;have e2:ys=[L]:=Xbh h7;subst e2;exact⟨p,y,L,J,rfl,h3,h4,h5,h8⟩
theorem X55(h:tyM sc ts y=yx):(∃t nm p,ts=[t]/\y=.Name nm p/\glB sc nm=yx/\Xay nm=yx/\tyB sc t nm=yx):=by
 cases y with
 |Name nm p=>
  have h:(_&&_)=true:=h;simp only[bA0]at h;obtain⟨⟨h1,h2⟩,J⟩:=h;cases ts with
  |nil=>cases J|cons t r=>
   cases r with
   |nil=>exact⟨_,_,_,rfl,rfl,h1,h2,J⟩|cons _ _=>cases J
 |_=>exact ff h
theorem X56{a:Ex}{lo hi:Op}{e:Expr}(h:mt cm fns gns sc N (.sli a lo hi) e=yx):∃x l u p2 p,e=.Subscript x (.Slice l u yy p2) p/\mt cm fns gns sc N a x=yx/\mto cm fns gns sc N lo l=yx/\mto cm fns gns sc N hi u=true:=by obtain⟨⟨x,y⟩,h1,h2⟩:=Xd h;obtain⟨⟨l,u⟩,Y,J⟩:=Xd h2;obtain⟨p,rfl⟩:=Xco h1;obtain⟨p2,L⟩:=Xps Y;dsimp only at L;subst L;simp only[bA0]at J;exact⟨x,l,u,p2,p,rfl,J.1.1,J.1.2,J.2⟩
theorem Xzb{w:Str}{es:Exs}{e:Expr}(h:((Xbc e).any λz=>(vNm z.1).any λx=>decide (x=w)&&glB sc x&&mts cm fns gns sc N es (z.2.1::z.2.2.1))=yx):∃p y ys J,e=.Call (.Name w p) (y::ys) [] J/\glB sc w=yx/\mts cm fns gns sc N es (y::ys)=true:=by obtain⟨x,p,y,ys,J,rfl,h1⟩:=Xcx h;rw[bA0,bA0]at h1;have L:x=w:=oD0 h1.1.1;subst L;exact⟨p,y,ys,J,rfl,h1.1.2,h1.2⟩
theorem X06(h:mtI cm fns gns sc N (.enm es) e=yx):∃p y ys J,e=.Call (.Name "enumerate" p) (y::ys) [] J/\glB sc "enumerate"=yx/\mts cm fns gns sc N es (y::ys)=true:=by exact Xzb h
theorem X07(h:mtI cm fns gns sc N (.rng es) e=yx):∃p y ys J,e=.Call (.Name "range" p) (y::ys) [] J/\glB sc "range"=yx/\mts cm fns gns sc N es (y::ys)=true:=by exact Xzb h
theorem X57{f:Ex}{es:Exs}{e:Expr}(h:mt cm fns gns sc N (.cal f es) e=yx):∃J y ys L,e=.Call J (y::ys) [] L/\cm=yx/\Xwp J=yx/\mt cm fns gns sc N f J=yx/\mts cm fns gns sc N es (y::ys)=true:=by obtain⟨⟨J,y,ys,L⟩,h1,h2⟩:=Xd h;have Y:=Xje h1;subst Y;rw[bA0,bA0,bA0]at h2;exact⟨J,y,ys,L,rfl,h2.1.1.1,h2.1.1.2,h2.1.2,h2.2⟩
theorem X58{a:Ex}{e:Expr}(h:mt cm fns gns sc N (.rev a) e=yx):∃x y p,e=.Subscript x y p/\Xjd 1 yy y=yx/\mt cm fns gns sc N a x=true:=by obtain⟨⟨x,y⟩,h1,h2⟩:=Xd h;obtain⟨p,rfl⟩:=Xco h1;rw[bA0]at h2;exact⟨x,y,p,rfl,h2.1,h2.2⟩
theorem Xh3{top:Str->Bool}{tg:Expr}(h1:Xe2 t it=yx)(h2:mtT top sc N t tg=yx)(L:Xrf it=yx):∃es k p,tg=.Tuple es k p:=by
 unfold Xe2 at h1;rw[L]at h1;cases t with
 |var i=>cases h1|tup Y=>simp only[mtT]at h2;obtain⟨es,J,_⟩:=Xd h2;obtain⟨k,p,rfl⟩:=Xcn J;exact⟨es,k,p,rfl⟩
end
noncomputable def blts:LS:=["len","tuple","list","all","any","sum","max","min","range","isinstance","sorted","set","str","repr","zip","enumerate","abs","ValueError","int","bool","dict"]
noncomputable def bmV:LV:=[.type "ValueError",.type "Exception",.type "BaseException",.type "object"]
noncomputable def Xws:Data->Option ClassData
 |.cls J=>yz J|_=>yy
theorem X08{d:Data}{cd:ClassData}(h:Xws d=yz cd):d=.cls cd:=by cases d<;>cases h<;>rfl
noncomputable def Xm4(K:Ve)(C:Addr):Bool:=match K.lookup C with
 |none=>yw|some o=>match Xws o.data with
  |none=>yw|some J=>o.cls == .type "type" && J.mro == .ref C::J.mro.tail&&o.slots == #[o.slots.getD 0 yy,o.slots.getD 1 yy,o.slots.getD 2 yy,o.slots.getD 3 yy,yz (.builtin "ValueError.__new__"),o.slots.getD 5 yy] && !J.hasDel&&PySem.W.tailIn K bmV J.mro.tail&&PySem.W.nsOkIn K J.ns&&U1 K J.ns "__init__" == yz yy
noncomputable def Xwt(K:Ve):Bool:=
 (K.lookup Vdw).isSome&&PySem.W.specialIn K (.builtin "object.__class__") "__get__" == yz (yz (.builtin "getset_descriptor.__get__"))&&PySem.W.takesIn K (.builtin "object.__class__")==yz yx &&
 (Vm clsNames.length).all λc=>match Y9 K c with
  |some C=>Xm4 K C&&(Ve3 K (.ref C) "__getattribute__" == yz (yz (.builtin "BaseException.__getattribute__"))&&Ve3 K (.ref C) "__getattr__" == yz yy&&PySem.W.mroIn K C (.type "BaseException")==yz yx)&&(PySem.W.clsIn K C).isSome&&Ve3 K (.ref C) "__class__" == yz (yz (.builtin "object.__class__"))&&PySem.W.mroIn K C (.type "object")==yz yx &&
   Vf8 K (.ref C) (.type "ValueError")==yz yx&&(Vm clsNames.length).all λc0=>match Y9 K c0 with
    |some J=>Vf8 K (.ref C) (.ref J)==yz (c0==0||c0==c)&&(!(c0==0||c0==c)||PySem.W.exmOne K (.ref C) (.ref J)==yz yx)|none=>yx
  |none=>(Xbj c).isNone
structure ErrOk(K:Ve):Prop where
 sm:∃o,K.lookup Vdw=yz o
 gt:PySem.W.specialIn K (.builtin "object.__class__") "__get__"=yz (yz (.builtin "getset_descriptor.__get__"))
 tk:PySem.W.takesIn K (.builtin "object.__class__")=yz yx
 at_:∀c nm,Xbj c=yz nm->∃C,Y9 K c=yz C/\U1 K Uc nm=yz (yz (.ref C))
 cls:∀c C,Y9 K c=yz C->Xm4 K C=yx/\(Ve3 K (.ref C) "__getattribute__"=yz (yz (.builtin "BaseException.__getattribute__"))/\Ve3 K (.ref C) "__getattr__"=yz yy/\PySem.W.mroIn K C (.type "BaseException")=yz yx)/\(PySem.W.clsIn K C).isSome=yx/\Ve3 K (.ref C) "__class__"=yz (yz (.builtin "object.__class__"))/\PySem.W.mroIn K C (.type "object")=yz yx/\Vf8 K (.ref C) (.type "ValueError")=yz yx
 sub:∀c C c0 C0,Y9 K c=yz C->Y9 K c0=yz C0->Vf8 K (.ref C) (.ref C0)=yz (c0==0||c0==c)/\((c0==0||c0==c)=yx->PySem.W.exmOne K (.ref C) (.ref C0)=yz yx)
theorem Xg9{K:Ve}{c:Nat}{C:Addr}(h:Y9 K c=yz C):c<ll clsNames:=by
 unfold Y9 at h;cases q:Xbj c with
 |none=>rw[q]at h;cases h|some _=>exact Xmb q
theorem X09{K:Ve}(h:Xwt K=yx):ErrOk K:=by
 simp only[Xwt,bA0,beq_iff_eq,Vab,Vbk]at h;obtain⟨⟨⟨h0,h1⟩,h2⟩,Y⟩:=h;refine⟨Vcm.mp h0,h1,h2,λc nm e=>?_,λc C e=>?_,λc C c0 C0 e e0=>?_⟩
 ·have:=Y c (Xmb e);split at this
  ·rename_i C q;refine⟨C,q,?_⟩;unfold Y9 at q;rw[e,V5]at q;split at q;·rename_i q2;cases q;exact q2
   ·cases q
  rw[e]at this;cases this
 ·have:=Y c (Xg9 e);rw[e]at this;simp only[bA0,beq_iff_eq]at this;obtain⟨⟨⟨⟨⟨⟨a1,⟨⟨a2,aa⟩,J⟩⟩,a3⟩,a4⟩,a5⟩,a6⟩,_⟩:=this;exact⟨a1,⟨a2,aa,J⟩,a3,a4,a5,a6⟩
 have:=Y c (Xg9 e);rw[e]at this;simp only[bA0,beq_iff_eq,Vab,Vbk]at this;have z:=this.2 c0 (Xg9 e0);rw[e0]at z;simp only[bA0,beq_iff_eq,Vb6,Vbn]at z;refine⟨z.1,λy=>?_⟩;rcases z.2 with L|L;·rw[y]at L;cases L
 ·exact L
end Z
end
section
namespace Z
open PySem PySem.Spec PySem.Calls PyProof.Rows L2 PySem.W Builtin Builtin.ObjectAttr Builtin.Getset_descriptor
section
variable{prog:Ua}{w:Uq}{A:Uy}{E:VP}{K:Frag}{y D:Addr}
theorem Xcy(e:ExcO D y h):Looks M h (typeOf (.ref y)) (.ref D):=by obtain⟨ob,_,_,q,J,_⟩:=e;exact J▸(Looks.ld q).andThen .now
theorem X1a {R:Result->Vc->Prop} (J:K.In s.heap) (e:ExcO D y s.heap) (mo:mroIn K D (.type "object")=yz yx) (q:R (.ok (.ret (.ref D))) s):
  Vdh (Vj prog w) A (.call (.builtin "getset_descriptor.__get__") ⟨[.builtin "object.__class__",.ref y,tv],[]⟩) R s:=by
 obtain⟨hp,L,dw,tk,os⟩:=s;have Y:=Xcy (M:=Vj prog w) e;have T1:=looks_mroIn (M:=Vj prog w) J mo;refine codeAny_call_builtin KF.slot_gs.plain KF.entry_gs (KF.slot_gs.check _ _ _ _ _ _ _ _ KF.type_class (KF.args_gs _ _ _) ?_);unfold Vb1.«getset_descriptor.__get__» descrGet;rw[dga_obj];refine Va (Vh ?_);unfold descrGetter descrCheckInstance descrNameAndClass isInstance;simp only[KF.owner_class]
 repeat lk
 refine⟨Code.quiet_builtin _ (by decide+kernel),Vfl KF.entry_class ?_⟩;unfold Vb1.«object.__class__» shownTypeOf
 repeat lk
 exact q
theorem Xwu (J:K.In h) (h1:findIn K (.ref D) nm=yz (yz v)) (h2:specialIn K v "__get__"=yz (yz g)) (Y:takesIn K v=yz yx):Looks M h (find (.ref y) (.ref D) nm) (.bind g v):=by have L:=looks_findIn (M:=M) J h1;have a2:Looks M h (getOf (yz v)) (yz g):=looks_specialIn J h2;have a3:=looks_takesIn (M:=M) J Y;exact L.andThen (a2.andThen ((show Looks M h (dataDescriptor? (yz v) (yz g)) (yz (g,v)) from a3.andThen .now).andThen (Looks.tag .now)))
theorem Xtt (J:K.In s.heap) (e:ExcO D y s.heap) (h1:findIn K (.ref D) nm=yz (yz v)) (h2:specialIn K v "__get__"=yz (yz g)) (Y:takesIn K v=yz yx)
  (z:Vi (Vj prog w) A (call g [v,.ref y,.ref D]) (λr s1=>Q (.done (.ret r)) s1) E s):
  Vi (Vj prog w) A (Vb1.«object.__getattribute__» ⟨[.ref y,.str nm tk],[]⟩) Q E s:=by
 obtain⟨hp,gn,dw,t0,os⟩:=s;have L:=Xcy (M:=Vj prog w) e;have T1:=Xwu (M:=Vj prog w) (y:=y) J h1 h2 Y;unfold Vb1.«object.__getattribute__»;refine Va (Vh ?_);refine Va (Vh ?_);refine Va (L.at (Va (T1.at ?_)));show Vi (Vj prog w) A (holding [v] (call g [v,.ref y,.ref D]) >>= ret) _ _ _;exact Va (Vas (Vp z (λr s1 q=>Vh q) λ_ _ q=>q))
theorem Xtu (J:K.In s.heap) (e:ExcO D y s.heap) (hm:mroIn K D (.type "BaseException")=yz yx) (q:Q () s):
  Vi (Vj prog w) A (checkBuiltinCall "BaseException.__getattribute__" ⟨[.ref y,nv],[]⟩) Q E s:=by
 obtain⟨hp,gn,dw,t0,os⟩:=s;have L:=Xcy (M:=Vj prog w) e;have Y:=looks_mroIn (M:=Vj prog w) J hm;have kd:builtinKind "BaseException.__getattribute__"=yz .slot:=by decide+kernel
 have sp:splitId "BaseException.__getattribute__"=yz ("BaseException","__getattribute__"):=by decide+kernel
 have ao:=PySem.F.args_bexc_ga (.ref y) nv;simp only[checkBuiltinCall,kd,sp];unfold isInstance;refine Va (Va (L.at (Y.at ?_)));rw[iN0 (by decide)];exact wpAny_of_eq ao q
theorem Xwv (J:K.In s.heap) (e:ExcO D y s.heap) (L:findIn K (.ref D) "__getattribute__"=yz (yz (.builtin "BaseException.__getattribute__"))) (gn:findIn K (.ref D) "__getattr__"=yz yy)
  (hm:mroIn K D (.type "BaseException")=yz yx) (h1:findIn K (.ref D) nm=yz (yz v)) (h2:specialIn K v "__get__"=yz (yz g)) (h3:takesIn K v=yz yx) (hh:handedIn (.ref D)=yx)
  (z:∀A':Uy,Vi (Vj prog w) A' (call g [v,.ref y,.ref D]) (λr s1=>r=.ref D/\Q (yz (.ref D)) s1) (λ_ _=>False) {s with toks:=s.toks+1}):
  Vi (Vj prog w) A (getAttr? (.ref y) nm) Q E s:=by
 obtain⟨hp,gs,dw,tk,os⟩:=s;have T0:=Xcy (M:=Vj prog w) e;have T1:=looks_findIn (M:=Vj prog w) J L;have T2:=looks_findIn (M:=Vj prog w) J gn;have T3:=looks_mroIn (M:=Vj prog w) J hm;unfold getAttr? getAttrBy? getAttrBy;refine Va (wpAny_mkText (Va (Vfc (Vas (Va (T0.at (Va (T1.at ?_))))))));have Y:(onTheHeap (Vcd D)&&Value.builtin "BaseException.__getattribute__" == Value.builtin "object.__getattribute__")=false:=by
  have:(Value.builtin "BaseException.__getattribute__" == Value.builtin "object.__getattribute__")=false:=by decide+kernel
  rw[this,Vf2]
 dsimp only;rw[iN0 (by rw[Y];exact Uu)];unfold getAttrByItsOwn hookBefore;rw[iP0 (by rfl)];refine Va (T2.at (Va (Vfc (Vas ?_))));unfold callGetattribute boundAndCalled;rw[iN0 (by simp)];have f3:=PySem.F.excAttr_ValueError.ga.bind (.ref y);rw[f3];refine Va (Vh ?_);refine wpAny_call (codeAny_call_builtin PySem.F.excAttr_ValueError.ga.plain PySem.F.entry_bexc_ga (Xtu (s:=⟨hp,gs,dw,tk+1,os⟩) J e hm ?_));refine Xtt (s:=⟨hp,gs,dw,tk+1,os⟩) J e h1 h2 h3 (Vp (z _) (λr s1 q=>?_) λ_ _ q=>q.elim);obtain⟨rfl,q⟩:=q;exact handed_on hh (Vh q)
theorem Xww (p1:findIn K (.ref D) "__getattribute__"=yz (yz (.builtin "BaseException.__getattribute__"))) (p0:findIn K (.ref D) "__getattr__"=yz yy) (p7:mroIn K D (.type "BaseException")=yz yx) (p2:(clsIn K D).isSome=yx) (Y:findIn K (.ref D) "__class__"=yz (yz (.builtin "object.__class__")))
  (p4:specialIn K (.builtin "object.__class__") "__get__"=yz (yz (.builtin "getset_descriptor.__get__"))) (p5:takesIn K (.builtin "object.__class__")=yz yx) (p6:mroIn K D (.type "object")=yz yx):KitX K (.ref y) (.ref D) (ExcO D y) where
 ty:=λ_ _ _ e=>Xcy e
 it:=λ_ _ J _=>by
  unfold clsIn at p2;split at p2;·rename_i L;intro B Q' E' s' k q;unfold isType loadHead;exact Va (wpAny_loadPart (k _ _ (J _ _ L)) (Vh q))
  ·cases p2
 ne:=λhp tp dd its n sl J ht=>by
  refine Bool.eq_false_iff.mpr λq=>?_;have q':D=tp:=Value.ref.inj (beq_iff_eq.mp q);subst q';unfold clsIn at p2;split at p2;·rename_i L;cases (J _ _ L).symm.trans ht
  ·cases p2
 ca:=λ{prog w B E' Q' s'} J e k=>Xwv J e p1 p0 p7 Y p4 p5 rfl λA'=>wpAny_call (X1a (s:={s' with toks:=s'.toks+1}) J e p6 ⟨rfl,k⟩)
end
end Z
end
section
namespace Z
open PySem PySem.Spec PyProof.Rows L2
noncomputable def Xe4:Ty->Option (Str×String)
 |.int=>yz ("int","int")|.bool=>yz ("bool","bool")|.str=>yz ("str","str")|.tuple=>yz ("tuple","tuple")|.list=>yz ("list","list")|.dict=>yz ("dict","dict")|_=>yy
noncomputable def Xm5:Kd->Option String
 |.non=>yz "NoneType"|.bool=>yz "bool"|.int=>yz "int"|.str=>yz "str"|.tuple=>yz "tuple"|.list=>yz "list"|.dict=>yz "dict"|.exc _=>yy
theorem Xtv(h:Xe4 t=yz (nm,T)):Vd0 nm=yz (.type T):=by cases t<;>simp only[Xe4,Vq,Vdo,reduceCtorEq]at h<;>obtain⟨rfl,rfl⟩:=h<;>decide+kernel
theorem Xwx(h:Xe4 t=yz (nm,T)):nm∈blts:=by cases t<;>simp only[Xe4,Vq,Vdo,reduceCtorEq]at h<;>obtain⟨rfl,rfl⟩:=h<;>decide
theorem X1b(J:Xe4 t=yz (nm,T))(hk:Xm5 k=yz U)(h:isT k t=yz b)(K:Ve):Vf8 K (.type U) (.type T)=yz b:=by cases k<;>simp only[Xm5,Vq,reduceCtorEq]at hk<;>subst hk<;>cases t<;>simp only[Xe4,Vq,Vdo,reduceCtorEq]at J<;>obtain⟨rfl,rfl⟩:=J<;>simp only[isT,tyQ,Vq]at h<;>subst h<;>kernel_rfl
section
variable{X:Cx}{pc:LA}{σ:L2.St}{H:Hp}{s:Vc}{ρ:LR}{S:Sto}{env:En}{a:Expr}{fa:En->Sto->R D}{pos:Pos}
theorem X9n(I:S0 X pc σ H s ρ S env)(h:kdD S d=yz k)(J:Xm5 k=yz U)(rd:RD X.K ρ H d v)(L:RelV v u):
  ∃P:Heap->Prop,PySem.W.KitX X.K u (.type U) P/\P s.heap/\u≠.builtin "__main__.__loader__#opaque":=by
 cases d with
 |non=>cases h;cases J;simp only[RD]at rd;subst rd;cases L;exact⟨_,PySem.W.kitx_none,trivial,λz=>nomatch z⟩|bl b=>cases h;cases J;simp only[RD]at rd;subst rd;cases L;exact⟨_,PySem.W.kitx_bool,trivial,λz=>nomatch z⟩|int i=>cases h;cases J;simp only[RD]at rd;subst rd;obtain⟨t,rfl⟩:=L;exact⟨_,PySem.W.kitx_int,trivial,λz=>nomatch z⟩|str x=>cases h;cases J;simp only[RD]at rd;subst rd;obtain⟨t,rfl⟩:=L;exact⟨_,PySem.W.kitx_str,trivial,λz=>nomatch z⟩|tup xs=>cases h;cases J;simp only[RD]at rd;obtain⟨p,vs,rfl,hq,_⟩:=rd;cases L;obtain⟨its,_,Y,_⟩:=I.inv.tuple hq;obtain⟨o,h1,h2,_⟩:=Y;exact⟨_,PySem.W.kitx_tuple,⟨o,h1,h2⟩,λz=>nomatch z⟩|fro xs=>cases h;cases J;simp only[RD]at rd;obtain⟨p,vs,rfl,hq,_⟩:=rd;cases L;obtain⟨its,_,Y,_⟩:=I.inv.list hq.sq;obtain⟨o,n,h1,h2,_⟩:=Y;exact⟨_,PySem.W.kitx_list,⟨o,h1,h2⟩,λz=>nomatch z⟩|fn _ _=>cases h|ref n=>
  simp only[kdD]at h;simp only[RD]at rd;obtain⟨p,rfl,hp⟩:=rd;cases L;split at h;·rename_i xs e;cases h;cases J;obtain⟨vs,hv,_⟩:=I.sr.ob n p _ hp e;obtain⟨_,its,n',_,h1⟩:=(show ObjOk X.prog X.w H s.heap p (.lst vs) from I.inv.hok p _ hv);exact⟨_,PySem.W.kitx_list,⟨_,h1,rfl⟩,λz=>nomatch z⟩
  ·cases h;cases J
  cases h
theorem Xdt (ht:Xe4 t=yz (nm,T)) (hb:∀x∈blts,X.mg x=yy) (ac:Gl X "isinstance") (hg:Gl X nm) (hok:Xay nm=yx) (ha:DE X a fa) (aa:Ym a=yx):
  DE X (.Call (.Name "isinstance" p0) [a,.Name nm p1] [] pos) (λenv S=>(fa env S).bind λx S=>match (kdD S x).bind λk=>Xac k [t] with|some r=>.ok (.bl r) S|none=>.bad):=by
 intro pc s σ H ρ S env I nb;dsimp only at nb ⊢;obtain⟨o1,_,o3⟩:=Xa4 hok;refine Vbv (Xaz I.inv ac (hb _ (by decide)) (u:=.builtin "isinstance") (by decide+kernel) ?_);refine Vcu ?_ (Xv aa) rfl;rw[Xv aa];generalize hr:((fa env S).bind λx S=>match (kdD S x).bind λk=>Xac k [t] with|some r=>R.ok (D.bl r) S|none=>R.bad)=r at nb ⊢;refine Vci (ha.bind I (by rw[hr];exact nb) hr.symm (λd S1 u s1 v H1 ae e1 Y L rv rd ab=>?_) λ_ _ z=>z);refine Vci (Xaz L.inv hg (hb _ (Xwx ht)) (Xtv ht) ?_ o3 o1);refine Ver ?_;cases q:(kdD S1 d).bind λk=>Xac k [t] with
 |none=>rw[q]at Y;cases Y rfl|some b=>
  obtain⟨k,q1,J⟩:=Vaf.mp q;have q3:isT k t=yz b:=by
   unfold Xac at J;cases e:isT k t with
   |none=>rw[e]at J;cases J|some c=>rw[e]at J;cases c<;>simp[Xac]at J<;>rw[J]
  rw[e1,q];cases hU:Xm5 k with
  |none=>cases k<;>simp only[Xm5,reduceCtorEq]at hU;cases t<;>simp only[Xe4,reduceCtorEq]at ht<;>simp only[isT,tyQ,reduceCtorEq]at q3|some U=>obtain⟨P,k1,k2,k3⟩:=X9n L q1 hU rd rv;exact PySem.W.kia_one k1 L.inv.kIn k2 (X1b ht hU q3 X.K) k3 λtk=>OkP.pre ab (Xl L.sr (L.inv.tok tk))
theorem Xtw (er:ErrOk X.K) (ht:(∃c,t=.cls c/\Xbj c=yz nm)\/(t=.valueError/\nm="ValueError")) (hb:∀x∈blts,X.mg x=yy) (ae:Gl X "isinstance") (hg:Gl X nm) (hok:Xay nm=yx) (ha:DE X a fa) (ac:Ym a=yx):
  DE X (.Call (.Name "isinstance" p0) [a,.Name nm p1] [] pos) (λenv S=>(fa env S).bind λx S=>match (kdD S x).bind λk=>Xac k [t] with|some r=>.ok (.bl r) S|none=>.bad):=by
 intro pc s σ H ρ S env I nb;dsimp only at nb ⊢;obtain⟨o1,_,o3⟩:=Xa4 hok;refine Vbv (Xaz I.inv ae (hb _ (by decide)) (u:=.builtin "isinstance") (by decide+kernel) ?_);refine Vcu ?_ (Xv ac) rfl;rw[Xv ac];generalize hr:((fa env S).bind λx S=>match (kdD S x).bind λk=>Xac k [t] with|some r=>R.ok (D.bl r) S|none=>R.bad)=r at nb ⊢;refine Vci (ha.bind I (by rw[hr];exact nb) hr.symm (λd S1 u s1 v H1 af e1 ab J rv rd aa=>?_) λ_ _ z=>z)
 /- the value is an error -/
 cases q:(kdD S1 d).bind λk=>Xac k [t] with
 |none=>rw[q]at ab;cases ab rfl|some b=>
  rw[e1,q];obtain⟨k,Y,q2⟩:=Vaf.mp q;have q3:isT k t=yz b:=by
   unfold Xac at q2;cases e:isT k t with
   |none=>rw[e]at q2;cases q2|some c=>rw[e]at q2;cases c<;>simp[Xac]at q2<;>rw[q2]
  obtain⟨L,rfl⟩:∃L,k=.exc L:=by rcases ht with⟨c,rfl,_⟩|⟨rfl,_⟩<;>cases k<;>first|exact⟨_,rfl⟩|(simp only[isT,tyQ,reduceCtorEq]at q3)
  obtain⟨n,rfl,hS⟩:∃n,d=.ref n/\S1[n]?=yz (.exc L):=by
   cases d with
   |ref n=>
    refine⟨n,rfl,?_⟩;simp only[kdD]at Y;split at Y;·cases Y
    ·rename_i c2 e;cases Y;exact e
    cases Y|_=>cases Y
  simp only[RD]at rd;obtain⟨p,rfl,hp⟩:=rd;cases rv;obtain⟨C,hC,hH⟩:=(show ∃C,Y9 X.K L=yz C/\H1 p=yz (.ext (ExcO C p)) from J.sr.ob n p _ hp hS);obtain⟨_,⟨b1,b2,b3⟩,a3,a4,a5,a6⟩:=er.cls L C hC;have hE:ExcO C p s1.heap:=(show ObjOk X.prog X.w H1 s1.heap p (.ext (ExcO C p)) from J.inv.hok p _ hH).1;have kx:=Xww (y:=p) b1 b2 b3 a3 a4 er.gt er.tk a5;rcases ht with⟨c,rfl,hc⟩|⟨rfl,rfl⟩
  ·obtain⟨C0,h1,h2⟩:=er.at_ c nm hc;have e3:b=(c==0||c==L):=by simp only[isT,Vq]at q3;exact q3.symm
   subst e3;refine Vci (Xdo J.inv hg (Vc0 J.inv.mod.kin J.inv.mod.glob h2) (Ver ?_) o1);exact PySem.W.kia_one kx J.inv.kIn hE (er.sub L C c C0 hC h1).1 (λz=>nomatch z) λtk=>OkP.pre aa (Xl J.sr (J.inv.tok tk))
  have e3:b=true:=by simp only[isT,Vq]at q3;exact q3.symm
  subst e3;refine Vci (Xaz J.inv hg (hb _ (by decide)) (u:=.type "ValueError") (by decide+kernel) (Ver ?_) o3 o1);exact PySem.W.kia_one kx J.inv.kIn hE a6 (λz=>nomatch z) λtk=>OkP.pre aa (Xl J.sr (J.inv.tok tk))
end
theorem Xf4(n d:Nat)(o:Option Int):Xb9 n d o=HT.sIx n d o:=by
 cases o with
 |none=>rfl|some i=>
  simp only[Xb9,HT.sIx];by_cases h:i<0;·rw[iP0 h,iN0 (by omega)]
  ·rw[iN0 h,iP0 (by omega)]
theorem Xtx{K:Ve}{ρ:LR}{H:Hp}{xs:LD}{vs:LW}(h:RDs K ρ H xs vs)(lo hi:Option Int):RDs K ρ H (cut xs lo hi) (Xis vs lo hi):=by unfold cut Xis;rw[Xf4,Xf4,h.length];exact(h.drop _).take _
section
variable{prog:Ua}{w:Uq}{A:Uy}{E:VP}{s:Vc}
theorem Xoq{items:AV}{lo hi:Option Int}{Q:VP}(J:Vcl s.heap t items)(hs:s.heap.IsSliceOf sl vl vu .none)(pl:Veu vl lo)(pu:Veu vu hi)
  (h1:HT.sIx items.size 0 lo=0) (h2:HT.sIx items.size items.size hi=items.size) (h:Q (.ref t) s):Vi (Vj prog w) A (getItem (.ref t) (.ref sl)) Q E s:=by
 obtain⟨os,Y,L,ab⟩:=id hs;have aa:s.TypeIs (.ref sl) "slice" := ⟨os,Y,L⟩;unfold getItem
 try with_reducible refine Vas ?_
 first|refine Va (Vh ?_)|skip
 refine Va (Vhr J.typeIs (by decide) (Va (Vba (name:=Val "__getitem__") J.typeIs Vay (Vat Vay J.typeIs Vg6 ?_ (Vhg _ _)))));show Vi _ _ (Ve9 (.ref t) >>= _) _ _ s;refine Va (tupleItemsOf_ J (Va (Vdg aa ?_)));rw[iP0 (by decide)];refine Va (HT.sliceApplied_gen hs pl pu ?_);show Vi _ _ (if (((HT.sIx items.size 0 lo:Nat):Int)==0&&(1:Int)==1&&(HT.sIx items.size items.size hi-HT.sIx items.size 0 lo)==items.size)=yx then _ else _) _ _ s;rw[h1,h2,iP0 (by simp)];refine Va ?_;unfold Builtin.Tuple.tupleIsExact;refine Va (Vdg J.typeIs (Vh ?_));rw[iP0 (by decide)];exact Va (Vbf (Vh ⟨_,rfl,Vh h⟩))
end
def Xlk(K:Ve)(ρ:LR)(H:Hp)(o:Option D)(u:Vb):Prop:=match o with
 |none=>u=.none|some d=>∃v,RelV v u/\RD K ρ H d v
def DO(X:Cx)(e:Option Expr)(f:En->Sto->R (Option D)):Prop:=
 ∀(pc:LA) (s:Vc) (σ:L2.St) (H:Hp) (ρ:LR) (S:Sto) (env:En),S0 X pc σ H s ρ S env->f env S≠.bad ->
  Vi (Vj X.prog X.w) X.A (evalPart e X.env) (λu s'=>∃o S',f env S=.ok o S'/\∃H' ρ',Inv X pc σ H' s'/\SR X.K ρ' S' H'/\Stp X.K ρ ρ' H H'/\Xlk X.K ρ' H' o u) (ExP X pc σ ρ H (f env S)) s
section
variable{X:Cx}{pc:LA}{σ:L2.St}{H:Hp}{s:Vc}{ρ:LR}{S:Sto}{env:En}{a:Expr}{fa:En->Sto->R D}{pos p2:Pos}
theorem Xpu:DO X yy (λ_ S=>.ok yy S):=by intro pc s σ H ρ S env I J;rw[evalPart_none];exact Vh ⟨yy,S,rfl,H,ρ,I.inv,I.sr,.refl,rfl⟩
theorem Xpv(h:DE X a fa):DO X (yz a) (λenv S=>(fa env S).bind λx S=>.ok (yz x) S):=by intro pc s σ H ρ S env I nb;dsimp only at nb ⊢;rw[evalPart_some];refine h.bind I nb rfl (λd S1 u s1 v H1 J e1 aa Y rv rd L=>?_) λ_ _ z=>z;exact⟨yz d,S1,e1,H1,J,Y.inv,Y.sr,L,v,rv,rd⟩
theorem DO.bind{α:Type}{e:Option Expr}{f:En->Sto->R (Option D)}(h:DO X e f)(I:S0 X pc σ H s ρ S env){k:Option D->Sto->R α}{r:R α}{Q:VP}{E:VP}(Y:(f env S).bind k≠.bad)(L:r=(f env S).bind k)
  (hQ:∀o S1 u s' H' ρ',r=k o S1->k o S1≠.bad->S0 X pc σ H' s' ρ' S1 env->Xlk X.K ρ' H' o u->Stp X.K ρ ρ' H H'->Q u s') (hE:∀x s',ExP X pc σ ρ H r x s'->E x s'):Vi (Vj X.prog X.w) X.A (evalPart e X.env) Q E s:=by
 cases q:f env S with
 |bad=>rw[q]at Y;cases Y rfl|ex n S1=>
  rw[q]at L;refine Vp (h pc s σ H ρ S env I (by rw[q];exact λz=>nomatch z)) (λu s' z=>?_) λx s' z=>?_;·obtain⟨o,S2,e,_⟩:=z;rw[q]at e;cases e
  ·obtain⟨m,S2,e,z⟩:=z;rw[q]at e;cases e;exact hE x s' ⟨n,S1,L,z⟩|ok o S1=>
  rw[q]at L Y;refine Vp (h pc s σ H ρ S env I (by rw[q];exact λz=>nomatch z)) (λu s' z=>?_) λx s' z=>?_;·obtain⟨o',S2,e,H',ρ',J,sr,st,pr⟩:=z;rw[q]at e;cases e;exact hQ o S1 u s' H' ρ' L Y (I.step J sr st) pr st
  ·obtain⟨m,S2,e,z⟩:=z;rw[q]at e;cases e
theorem Xf5{K:Ve}{o:Option D}{u:Vb}{J:Option Int}(h:Xlk K ρ H o u)(e:Xai o=yz J):Veu u J:=by
 cases o with
 |none=>have L:yz yy=yz J:=e;cases L;have h':u=.none:=h;subst h';exact .none|some d=>
  cases d with
  |int i=>have L:yz (yz i)=yz J:=e;cases L;obtain⟨v,Y,rd⟩:=h;simp only[RD]at rd;subst rd;obtain⟨t,rfl⟩:=Y;exact .int i t|_=>cases e
theorem Xzc{lo hi:Option Expr}{fl fh:En->Sto->R (Option D)}(ha:DE X a fa)(hl:DO X lo fl)(hh:DO X hi fh):
  DE X (.Subscript a (.Slice lo hi yy p2) pos) (λenv S=>(fa env S).bind λx S=>(fl env S).bind λl S=>(fh env S).bind λh S=>match Xai l,Xai h with
   |some l,yz h=>Xaj x l h S
   |_,_=>.bad):=by
 intro pc s σ H ρ S env I nb;dsimp only at nb ⊢;refine Subscript_ (ha.bind I nb rfl (λd S1 u s1 v H1 al e1 aj I1 rv rd ac=>?_) λ_ _ z=>z);rw[e1];refine wpAny_Slice (hl.bind I1 aj rfl (λl S2 vl s2 H2 ak e2 ai I2 pl ab=>?_) λx s' z=>z.pre ac);rw[e2];refine hh.bind I2 ai rfl (λh S3 vu s3 H3 ah e3 aa I3 pu af=>?_) λx s' z=>(z.pre ab).pre ac;rw[e3];cases q1:Xai l with
 |none=>rw[q1]at aa;cases aa rfl|some li=>
  cases q2:Xai h with
  |none=>rw[q1,q2]at aa;cases aa rfl|some L=>
   rw[q1,q2]at aa;dsimp only at aa ⊢;rw[evalPart_none];refine Vh ?_;have P1:=Xf5 pl q1;have P2:=Xf5 pu q2;have ae:=(rd.mono ab).mono af;have J:Inv X pc σ H3 {s3 with heap:=s3.heap.push {cls:=.type "slice",data:=.fields #[vl,vu,.none]} }:=I3.inv.kept (t':=s3.toks) λb ob q=>Vo _ q;have fin:∀ {T id:String},typeLookup (.type T) "__getitem__"=pure (yz (.builtin id))->({s3 with heap:=s3.heap.push {cls:=.type "slice",data:=.fields #[vl,vu,.none]} }:Vc).TypeIs u T ->
     Vi (Vj X.prog X.w) X.A (getItem u (.ref s3.heap.objs.size)) (OkP X pc σ ah H3 (Xaj d li L S3)) (ExP X pc σ ah H3 (Xaj d li L S3)) {s3 with heap:=s3.heap.push {cls:=.type "slice",data:=.fields #[vl,vu,.none]} } ->
     Vi (Vj X.prog X.w) X.A (Vfa a (.Slice lo hi yy p2) u (.ref s3.heap.objs.size)) (OkP X pc σ ρ H (Xaj d li L S3)) (ExP X pc σ ρ H (Xaj d li L S3)) {s3 with heap:=s3.heap.push {cls:=.type "slice",data:=.fields #[vl,vu,.none]} }:=λt1 t2 g=>
    tail_any (ops:=[.ref s3.heap.objs.size,u]) t2 t1 (Vp g (λ_ _ z=>OkP.pre ((ac.trans ab).trans af) z) λ_ _ z=>ExP.pre ((ac.trans ab).trans af) z) (by with_unfolding_all rfl)
   cases d with
   |tup xs=>
    simp only[RD]at ae;obtain⟨p,vs,rfl,hq,hr⟩:=ae;cases rv;obtain⟨its,r,ht,hz⟩:=J.tuple hq;have Y:its.toArray.size=ll vs:=by rw[Vn];exact r.length.symm
    refine fin PyProof.Rows.slot_tuple_getitem.lookup ht.typeIs ?_;by_cases hw:HT.sIx (ll vs) 0 li=0/\HT.sIx (ll vs) (ll vs) L=ll vs
    ·refine Xoq ht (Vek ..) P1 P2 (by rw[Y];exact hw.1) (by rw[Y];exact hw.2) ?_;have e:cut xs li L=xs:=by
      unfold cut;rw[Xf4,Xf4,hr.length,hw.1,hw.2,List.drop_zero,Nat.sub_zero,<-hr.length,Vd5]
     refine .mk (v:=.ref p) .refl J rfl ?_ I3.sr;rw[e];simp only[RD];exact⟨p,vs,rfl,hq,hr⟩
    refine HT.getItem_tuple_cut ht (Vek ..) P1 P2 (by rw[Y];exact hw) ?_ (by rw[Y];exact hz);rw[Y];refine Xcm (vs:=Xis vs li L) (J.laid (t':=s3.toks) (λb ob q=>Vo _ q) (Vf _) ?_) (J.hok.fresh (Vf _)) I3.sr (Xtx hr li L);exact⟨V4 (Xgt vs li L) hz,_,(r.drop (HT.sIx (ll vs) 0 li)).take (HT.sIx (ll vs) (ll vs) L-HT.sIx (ll vs) 0 li),⟨_,Vw _ rfl,rfl,_,rfl⟩⟩|ref n=>
    cases e4:Xc S3 n with
    |none=>simp[Xaj,e4]at aa|some xs=>
     obtain⟨b,vs,k1,k2,k3⟩:=I3.list e4;simp only[RD]at ae;obtain⟨b',rfl,k4⟩:=ae;rw[k1]at k4;cases k4;cases rv;obtain⟨its,r,ht,hz⟩:=J.list (.of k2);have Y:=r.length;refine fin slot_list_getitem.lookup ht.isList.typeIs ?_;refine Vh7 ht.isList (Vek ..) P1 P2 .none (by simp) ?_ (by rw[Vn]<;>omega);rw[Xk6,<-Y];have e5:Xaj (.ref n) li L S3=.ok (.ref S3.length) (S3++[.lst (cut xs li L)]):=by simp only[Xaj,e4]
     rw[e5];refine Xa3 (vs:=Xis vs li L) (J.laid (t':=s3.toks) (λb ob q=>Vo _ q) (Vf _) ?_) (J.hok.fresh (Vf _)) I3.sr (Xtx k3 li L);exact⟨V4 (Xgt vs li L) hz,_,0,(r.drop (HT.sIx (ll vs) 0 li)).take (HT.sIx (ll vs) (ll vs) L-HT.sIx (ll vs) 0 li),Vw _ rfl⟩
   |_=>cases aa rfl
end
end Z
end
section
namespace Z
open PySem PySem.Spec PyProof.Rows L2
open Builtin.Slice (sliceAdjust slicePlaces)
noncomputable def Xm6{α:Type}(lo c:Int)(n:Nat)(xs:List α):List α:=(Vm n).filterMap λ(k:Nat)=>xs[(lo+(k:Int)*c).toNat]?
noncomputable def Y8{α:Type}(xs:List α)(l:Option Int)(c:Int):List α:=Xm6 (sliceAdjust l yy c (ll xs)).1 c (slicePlaces (sliceAdjust l yy c (ll xs)).1 (sliceAdjust l yy c (ll xs)).2 c) xs
theorem Xrj{K:Ve}{ρ:LR}{H:Hp}{xs:LD}{vs:LW}(h:RDs K ρ H xs vs)(J:Nat->Nat):∀ks:LN,RDs K ρ H (ks.filterMap λk=>xs[J k]?) (ks.filterMap λk=>vs[J k]?)
 |[]=>.nil|k::ks=>by
  cases e:xs[J k]? with
  |none=>have L:=h.none e;simp only[Vak,e,L];exact Xrj h J ks|some d=>obtain⟨v,L,r⟩:=h.get e;simp only[Vak,e,L];exact .cons r (Xrj h J ks)
theorem Xjf{xs:LW}{us:LV}(h:Vals xs us)(J:Nat->Nat):∀ks:LN,Vals (ks.filterMap λk=>xs[J k]?) (ks.filterMap λk=>us[J k]?)
 |[]=>.nil|k::ks=>by
  cases e:xs[J k]? with
  |none=>
   have L:us[J k]?=none:=by rw[U2]at e ⊢;rw[<-h.length];exact e
   simp only[Vak,e,L];exact Xjf h J ks|some d=>obtain⟨v,L,r⟩:=h.get e;simp only[Vak,e,L];exact .cons r (Xjf h J ks)
theorem Xty{K:Ve}{ρ:LR}{H:Hp}{xs:LD}{vs:LW}(h:RDs K ρ H xs vs)(l:Option Int)(c:Int):RDs K ρ H (Y8 xs l c) (Y8 vs l c):=by unfold Y8;rw[h.length];exact Xrj h _ _
theorem Xm7(h:Vals xs us)(l:Option Int)(c:Int):Vals (Y8 xs l c) (Y8 us l c):=by unfold Y8;rw[h.length];exact Xjf h _ _
theorem Xtz{lo hi c:Int}{n:Nat}(J:c<0)(h1:lo<=(n:Int)-1)(h2:-1<=hi):slicePlaces lo hi c<=n:=by
 unfold slicePlaces;rw[iN0 (by omega)];split;·have:(lo-hi-1)/(-c)<=lo-hi-1:=Int.ediv_le_self _ (by omega);omega
 ·simp
theorem Xm8{l:Option Int}{c:Int}{n:Nat}(J:c<0):(sliceAdjust l yy c n).1<=(n:Int)-1/\(sliceAdjust l yy c n).2 = -1:=by
 unfold sliceAdjust;simp only[J,if_true,and_true];cases l with
 |none=>exact Int.le_refl _|some v=>dsimp only;split<;>omega
theorem Xjg{α:Type}(xs:List α){l:Option Int}{c:Int}(J:c<0):(Y8 xs l c).length<=ll xs:=by unfold Y8 Xm6;refine V4 (List.length_filterMap_le _ _) ?_;rw[Uo];exact Xtz J (Xm8 J).1 (by rw[(Xm8 J).2];omega)
section
variable{prog:Ua}{w:Uq}{A:Uy}{E:VP}{s:Vc}
theorem Xm9{lo:Option Int}{c:Int}{n:Nat}{Q:Int×Int×Nat->Vc->Prop}(hc:c<0)(hs:s.heap.IsSliceOf sl vl .none vs)(pl:Veu vl lo)(ps:Veu vs (yz c))
  (h:Q ((sliceAdjust lo yy c n).1,c,slicePlaces (sliceAdjust lo yy c n).1 (sliceAdjust lo yy c n).2 c) s):Vi (Vj prog w) A (Vdm (.ref sl) (pure (n:Int))) Q E s:=by
 obtain⟨os,J,Y,L⟩:=id hs;unfold Vdm Vhy;refine Va (Va (Vaj J L (x:=vl) rfl (Va (Vaj J L (x:=.none) rfl (Va (Vaj J L (x:=vs) rfl (Vh ?_)))))));refine Va (HT.slicePart_ ps ?_);show Vi _ _ (if (c==0)=yx then _ else _) _ _ s;rw[iN0 (by simp;omega)];refine Va (HT.slicePart_ pl (Va (HT.slicePart_ .none (Va (Vh ?_)))));exact Vh h
theorem Xrk{its:LV}{lo:Option Int}{c:Int}{Q:VP}(hc:c<0)(L:Vcl s.heap t its.toArray)(hs:s.heap.IsSliceOf sl vl .none vs)(pl:Veu vl lo)(ps:Veu vs (yz c))
  (h:Q (.ref s.heap.objs.size) {s with heap:=s.heap.push {cls:=.type "tuple",data:=.seq (Y8 its lo c).toArray} }) (ab:(ll its)<=V0):Vi (Vj prog w) A (getItem (.ref t) (.ref sl)) Q E s:=by
 have J:sizeOk (.seq (Y8 its lo c).toArray):=by show(Y8 its lo c).toArray.size<=V0;rw[Vn];exact V4 (Xjg its hc) ab
 obtain⟨os,aa,Y,ae⟩:=id hs;have ac:s.TypeIs (.ref sl) "slice" := ⟨os,aa,Y⟩;unfold getItem
 try with_reducible refine Vas ?_
 first|refine Va (Vh ?_)|skip
 refine Va (Vhr L.typeIs (by decide) (Va (Vba (name:=Val "__getitem__") L.typeIs Vay (Vat Vay L.typeIs Vg6 ?_ (Vhg _ _)))));show Vi _ _ (Ve9 (.ref t) >>= _) _ _ s;refine Va (tupleItemsOf_ L (Va (Vdg ac ?_)));rw[iP0 (by decide),Vn];refine Va (Xm9 hc hs pl ps ?_);show Vi _ _ (if ((sliceAdjust lo yy c (ll its)).1==0&&c==1&&slicePlaces (sliceAdjust lo yy c (ll its)).1 (sliceAdjust lo yy c (ll its)).2 c==ll its)=yx then _ else _) _ _ s;have hn:(c==1)=false:=by simp;omega
 rw[iN0 (by rw[hn];simp)];have e:((Vm (slicePlaces (sliceAdjust lo yy c (ll its)).1 (sliceAdjust lo yy c (ll its)).2 c)).filterMap λ(k:Nat)=>its.toArray[((sliceAdjust lo yy c (ll its)).1+(k:Int)*c).toNat]?)=Y8 its lo c:=by unfold Y8 Xm6;simp
 rw[e]
 first
  |exact Va (m:=Vbs _) (Va5 (Vh ⟨_,rfl,Vh h⟩) J)|exact Va (Va (m:=Vbs _) (Va5 (Vh ⟨_,rfl,Vh h⟩) J))
end
theorem Xt0(its:LV)(lo:Option Int)(h0:lo=yy)(L:c<0):slicePick its.toArray lo yy (yz c)=(Y8 its lo c).toArray:=by
 have J:¬ c>0:=by omega
 have e1:(Vde lo yy (yz c) (ll its)).1=(sliceAdjust lo yy c (ll its)).1:=by unfold Vde sliceAdjust;simp only[Vdc,J,L,if_true,if_false];cases h0;rfl
 have e2:(Vde lo yy (yz c) (ll its)).2.1 = -1:=by unfold Vde;simp only[Vdc,J,if_false]
 have Y:(Vde lo yy (yz c) (ll its)).2.2=c:=rfl;unfold slicePick Y8 Xm6;rw[Vn,e1,e2,Y,(Xm8 L).2];generalize (sliceAdjust lo yy c (ll its)).1=a;have e4:slicePlaces a (-1) c=(if a > -1 then (a - -1-c-1)/(-c) else 0).toNat:=by
  unfold slicePlaces;rw[iN0 J];congr 1;split
  ·have:a - -1-c-1=(a - -1-1)+1*(-c):=by omega
   rw[this,Int.add_mul_ediv_right _ _ (by omega)]
  rfl
 unfold sliceRange;simp only[J,if_false];rw[e4,Vhf];congr 2;funext k;simp only[Function.comp,Vgq];rw[Int.mul_comm]
theorem Xna{α β:Type}{f g:α->Option β}:∀ {l:List α},(∀x∈l,f x=g x)->l.filterMap f=l.filterMap g
 |[],_=>rfl|x::l,h=>by rw[Vak,Vak,h x (by simp),Xna λy J=>h y (by simp[J])]
theorem X1c{α:Type}(xs:List α):Y8 xs yy (-1)=xs.reverse:=by
 unfold Y8 Xm6;have L:(sliceAdjust yy yy (-1) (ll xs:Int))=((ll xs:Int)-1,-1):=rfl;rw[L];have J:slicePlaces ((ll xs:Int)-1) (-1) (-1)=ll xs:=by
  unfold slicePlaces;rw[iN0 (by decide)];split;·simp
  ·omega
 dsimp only;rw[J];have:∀(n:Nat) (ys:List α),ll ys=n->(Vm n).filterMap (λk=>ys[k]?)=ys:=by
  intro n;induction n with
  |zero=>intro ys h;rw[Vg5 h];rfl|succ n ih=>
   intro ys h;cases ys with
   |nil=>cases h|cons y ys=>rw[Vgf,Vak,Vhf];simp only[gZ0];congr 1;exact ih ys (by simpa using h)
 rw[<-this (ll xs) xs.reverse (by simp)];refine Xna λk hk=>?_;have hk:=Vbk.mp hk;rw[List.getElem?_reverse hk];congr 1;omega
noncomputable def Xbt(l:Option Int)(c:Int)(x:D)(S:Sto):R D:=
 match x with
 |.tup xs=>.ok (.tup (Y8 xs l c)) S|.ref n=>match Xc S n with
  |some xs=>.ok (.ref (ll S)) (S++[.lst (Y8 xs l c)])|none=>.bad
 |_=>.bad
theorem Xnb(x:D)(S:Sto):Xbt yy (-1) x S=Xqz x S:=by cases x<;>simp only[Xbt,Xqz,X1c]<;>rfl
section
variable{X:Cx}{pc:LA}{σ:L2.St}{H:Hp}{s:Vc}{ρ:LR}{S:Sto}{env:En}{a:Expr}{fa:En->Sto->R D}{pos p2:Pos}
theorem X9o{lo:Option Expr}{st:Expr}{l:Option Int}{c:Int}(hc:c<0)(h0:l=yy)(ha:DE X a fa)(hl:DO X lo (λ_ S=>.ok (l.map D.int) S))(hh:DO X (yz st) (λ_ S=>.ok (yz (.int c)) S)):
  DE X (.Subscript a (.Slice lo yy (yz st) p2) pos) (λenv S=>(fa env S).bind λx S=>Xbt l c x S):=by
 intro pc s σ H ρ S env I nb;dsimp only at nb ⊢;refine Subscript_ (ha.bind I nb rfl (λd S1 u s1 v H1 aj e1 ah I1 rv rd ae=>?_) λ_ _ z=>z);rw[e1];have cst:∀ {e:Option Expr} {o:Option D} {s2:Vc} {H2:Hp} {ab:LR} {Q:VP} {E:VP},DO X e (λ_ S=>.ok o S)->S0 X pc σ H2 s2 ab S1 env->(∀u s' H' ρ',S0 X pc σ H' s' ρ' S1 env->Xlk X.K ρ' H' o u->Stp X.K ab ρ' H2 H'->Q u s') ->
   Vi (Vj X.prog X.w) X.A (evalPart e X.env) Q E s2:=λhe I2 hQ=>by
  refine Vp (he pc _ σ _ _ S1 env I2 (λz=>nomatch z)) (λu s' z=>?_) λx s' z=>?_;·obtain⟨o',S2,e,H',ρ',J,sr,st,pr⟩:=z;cases e;exact hQ u s' H' ρ' (I2.step J sr st) pr st
  ·obtain⟨_,_,e,_⟩:=z;cases e
 refine wpAny_Slice (cst hl I1 λvl s2 H2 ab I2 pl aa=>?_);rw[evalPart_none];refine Vh ?_;refine cst hh I2 λvs L H3 ai I3 ps ac=>?_;have P1:Veu vl l:=Xf5 pl (by cases l<;>rfl);have P2:Veu vs (yz c):=Xf5 ps rfl;have Y:=(rd.mono aa).mono ac;have J:Inv X pc σ H3 {L with heap:=L.heap.push {cls:=.type "slice",data:=.fields #[vl,.none,vs]} }:=I3.inv.kept (t':=L.toks) λb ob q=>Vo _ q;have fin:∀ {T id:String},typeLookup (.type T) "__getitem__"=pure (yz (.builtin id))->({L with heap:=L.heap.push {cls:=.type "slice",data:=.fields #[vl,.none,vs]} }:Vc).TypeIs u T ->
   Vi (Vj X.prog X.w) X.A (getItem u (.ref L.heap.objs.size)) (OkP X pc σ ai H3 (Xbt l c d S1)) (ExP X pc σ ai H3 (Xbt l c d S1)) {L with heap:=L.heap.push {cls:=.type "slice",data:=.fields #[vl,.none,vs]} } ->
   Vi (Vj X.prog X.w) X.A (Vfa a (.Slice lo yy (yz st) p2) u (.ref L.heap.objs.size)) (OkP X pc σ ρ H (Xbt l c d S1)) (ExP X pc σ ρ H (Xbt l c d S1)) {L with heap:=L.heap.push {cls:=.type "slice",data:=.fields #[vl,.none,vs]} }:=λt1 t2 g=>
  tail_any (ops:=[u,.ref L.heap.objs.size]) t2 t1 (Vp g (λ_ _ z=>OkP.pre ((ae.trans aa).trans ac) z) λ_ _ z=>ExP.pre ((ae.trans aa).trans ac) z) (by with_unfolding_all rfl)
 cases d with
 |tup xs=>simp only[RD]at Y;obtain⟨p,ws,rfl,hq,hr⟩:=Y;cases rv;obtain⟨its,r,ht,hz⟩:=J.tuple hq;have af:=r.length;refine fin PyProof.Rows.slot_tuple_getitem.lookup ht.typeIs ?_;refine Xrk hc ht (Vek ..) P1 P2 ?_ (by omega);refine Xcm (vs:=Y8 ws l c) (J.laid (t':=L.toks) (λb ob q=>Vo _ q) (Vf _) ?_) (J.hok.fresh (Vf _)) I3.sr (Xty hr l c);exact⟨V4 (Xjg ws hc) hz,_,Xm7 r l c,⟨_,Vw _ rfl,rfl,_,rfl⟩⟩|ref n=>
  cases e4:Xc S1 n with
  |none=>simp[Xbt,e4]at ah|some xs=>
   obtain⟨b,ws,k1,k2,k3⟩:=I3.list e4;simp only[RD]at Y;obtain⟨b',rfl,k4⟩:=Y;rw[k1]at k4;cases k4;cases rv;obtain⟨its,r,ht,hz⟩:=J.list (.of k2);have af:=r.length;refine fin slot_list_getitem.lookup ht.isList.typeIs ?_;refine Vh7 ht.isList (Vek ..) P1 .none P2 (by intro z;cases z;omega) ?_ (by rw[Vn]<;>omega);rw[Xt0 _ _ h0 hc];have e5:Xbt l c (.ref n) S1=.ok (.ref (ll S1)) (S1++[.lst (Y8 xs l c)]):=by simp only[Xbt,e4]
   rw[e5];refine Xa3 (vs:=Y8 ws l c) (J.laid (t':=L.toks) (λb ob q=>Vo _ q) (Vf _) ?_) (J.hok.fresh (Vf _)) I3.sr (Xty k3 l c);exact⟨V4 (Xjg ws hc) hz,_,0,Xm7 r l c,Vw _ rfl⟩
 |_=>cases ah rfl
theorem Xzd{i:Int}{e:Expr}(h:mnC i e=yx):DO X (yz e) (λ_ S=>.ok (yz (.int (-i))) S):=by
 unfold mnC at h;split at h
 ·rename_i x p;split at h;·rename_i j u q;have:=eq_of_beq h;subst this;exact Xpv (Xza (fa:=λ_ S=>.ok (.int i) S) d_int)
  ·cases h
 cases h
theorem Xt1{i:Int}{l:Option Int}{e:Expr}(hi:0<i)(h0:l=yy)(ha:DE X a fa)(h:Xjd i l e=yx):DE X (.Subscript a e pos) (λenv S=>(fa env S).bind λx S=>Xbt (l.map (- ·)) (-i) x S):=by
 unfold Xjd at h;split at h
 ·rename_i lo st p;rw[bA0]at h;refine X9o (by omega) (by rw[h0];rfl) ha ?_ (Xzd h.1);have h2:=h.2;split at h2;·exact Xpu
  ·exact Xzd h2
  cases h2
 cases h
end
end Z
end
section
namespace Z
open PySem PySem.Spec PyProof.Rows L2
open PySem.W (kla_fn)
theorem Xwy{x:Str}{an:Option Expr}{p:Pos}{n q:Str}{body:Expr}{scope:Ur}{pm J:Vb}{c:Addr}{u:Vb}:
  Ve7 (kla_fn n q ⟨[],[⟨x,an,p⟩],yy,[],[],yy,[]⟩ body scope [] pm (.ref c) J) ⟨[u],[]⟩=pure [(x,u)]:=by
 have s:seqItems? Vbz=pure none:=rfl;unfold Ve7;simp[s,List.lookup]
section
variable{X:Cx}{nm:Str}
theorem X9p {a e:Expr} {fa:En->Sto->R D} {p0 pos p1 p2 p3 L kp:Pos} {x:Str} {an:Option Expr} {scope:Ur} (hu:X.A.units+200<Vcb) (hc:X.calm=yx) (hL:LamAt X nm) (aj:Gl X "sorted") (ah:X.mg "sorted"=yy) (ha:DE X a fa) (Y:Uk [a] X.env=(yw,eval a X.env)::Uk [] X.env)
  (hS:FnScope [x] [x] scope) (ab:Xh2 scope=yx) (hv:Vis scope x) (hd:(x==("__debug__" : Str))=yw) (af:(x==("__classdict__" : Str))=yw) (hr:Xjd 1 yy e=yx):
  DE X (.Call (.Name "sorted" p0) [a] [⟨yz "key",.Lambda ⟨[],[⟨x,an,p1⟩],yy,[],[],yy,[]⟩ (.Subscript (.Name x p2) e p3) scope L,kp⟩] pos) (λenv S=>(fa env S).bind λx S=>Xma x S):=by
 intro pc s σ H ρ S env I nb;dsimp only at nb ⊢;refine Vbv (Xaz I.inv aj ah (u:=.builtin "sorted") (by decide+kernel) (callWith_kw (Vfn ?_ Y) (by rw[Y];rfl) (by rw[Y];rfl) rfl rfl) (by decide) rfl);refine ha.bind I nb rfl (λd S1 u s1 v H1 ak e1 J I1 rv rd ac=>Vfo ?_) λ_ _ z=>z;rw[e1];show Vi _ _ (do let v <- (do let v <- eval (.Lambda ⟨[],[⟨x,an,p1⟩],yy,[],[],yy,[]⟩ (.Subscript (.Name x p2) e p3) scope L) X.env;standAt pos;pure v);return v::(<-holding [v] (evalAll []))) _ _ s1;refine Va (Va (Xwk hL ab rfl I1 λf s2 H2 I2 aa lm=>Va (Vdr (Vh (Va (Vas (Vh (Vh ?_))))))));show Vi _ _ (call (.builtin "sorted") [u] [(Val "key",.ref f)]) _ _ s2;unfold Xma at J ⊢;cases d with
 |ref n=>
  dsimp only at J ⊢;cases q1:Xc S1 n with
  |none=>rw[q1]at J;cases J rfl|some xs=>
   rw[q1]at J;simp only[V5]at J ⊢;cases q2:Yy xs with
   |none=>rw[q2]at J;cases J rfl|some ks=>
    rw[q2]at J;dsimp only at J ⊢;cases q3:Xiz ks with
    |none=>rw[q3]at J;cases J rfl|some r=>have q:=Xbm q2;subst q;obtain⟨b,ws,rfl,_,hw,ae⟩:=I2.lstR q1 (rd.mono aa);obtain⟨al,its,c,ai,eo⟩:=(show ObjOk X.prog X.w H2 s2.heap b (.lst ws) from I2.inv.hok b _ hw);cases rv;refine Vp (Xwn (E:=λ_ _=>False) hu I2 lm (λpc s H ρ k v u I hl rv rd=>?_) ⟨_,eo,rfl,c,rfl⟩ ae ai q3) (λw s3 z=>(z.pre aa).pre ac) λ_ _ z=>z.elim;refine Xwl (A:=X.A.in1.in1) (x:=x) (fb:=λenv S=>(match env[0]? with|some (yz d)=>.ok d S|_=>.bad:R D).bind λx S=>Xbt yy (-1) x S) (show X.A.depth<_ from by have:=hL.dep;omega) (show X.A.handled=yy from I.inv.ok.hd hc) I.inv.ok.frames hS (λ_ _ _ _=>Xwy) (λam s H=>Xt1 (l:=yy) (by decide) rfl (Xy4 (i:=0) rfl hv hd af) hr) hl I rv rd ?_;show Xbt yy (-1) (Xa1 k) S1=_;rw[Xnb];show R.ok (D.tup (k.map D.int).reverse) S1=.ok (D.tup (k.reverse.map D.int)) S1;rw[List.map_reverse]
 |_=>cases J rfl
end
end Z
end
section
namespace Z
open PySem PySem.Spec PyProof.Rows L2
section
variable(cm:Bool)(F:Fn)(G:LD)(fns:LF)(gns:LS)
structure PF(X:Cx):Prop where
 blt:∀x∈blts,X.mg x=yy
 fn:∀(f:Nat) nm ar fl,fns[f]?=yz (nm,ar,fl)->(fl=yx->cm=yx)->∃g fd ps k,FnD fl X.prog X.w X.K X.mg X.base k g fd ps (F f)/\RoomC fl k X.A/\Binds X.K fd ps []/\X.mg nm=yz (.ref g)/\Vda X.K (.ref g)=yx/\(ll ps)=ar
 glb:∀(k:Nat) nm,gns[k]?=yz nm->∃u d,X.mg nm=yz u/\G[k]?=yz d/\∀ ρ H,∃v,RelV v u/\RD X.K ρ H d v
 clf:∀(f:Nat) (nm:Str),Xbb f nm G=yx->∃ar fl,fns[f]?=yz (nm,ar,fl)/\(∀a,U1 X.K Uc nm=yz (yz (.ref a))->X.mg nm=yz (.ref a))/\∀xs S,F f xs S≠.bad->ll xs=ar
 units:X.A.units+200<Vcb
 gd:X.A.guards=yz []
 calm:cm=yx->X.calm=yx
 err:ErrOk X.K
theorem PF.blk(h:PF cm F G fns gns X)(pc:LA)(s:Vc)(H:Hp)(sc:Ur)(J:List (Str×Addr))(C:Addr)(own:LS)(fp:LR):PF cm F G fns gns (blk X pc s H sc J C own fp):=
 ⟨h.blt,h.fn,h.glb,h.clf,h.units,h.gd,h.calm,h.err⟩
variable{X:Cx}{e:Expr}{f g:En->Sto->R D}
theorem DE.congr(h:DE X e f)(q:∀env S,g env S=f env S):DE X e g:=by have:g=f:=funext λenv=>funext λS=>q env S;rw[this];exact h
theorem DT.congr{f g:En->Sto->R Bool}(h:DT X e f)(q:∀env S,g env S=f env S):DT X e g:=by have:g=f:=funext λenv=>funext λS=>q env S;rw[this];exact h
theorem Ybb(aa:X.N.Nodup)(ht:∀x,top x=yx->X.fn x=yx)(J:LN)(es:LX)(h:mtT.namesB top X.env.scope X.N J es=yx):(∀E,PGs (X.wish E) es (gNs J))/\(Va4 es X.env).length=J.length/\(Va4 es X.env).findIdx? (·.1)=none:=by
 have ab:∀(J:LN) (es:LX),mtT.namesB top X.env.scope X.N J es=yx->∃xs:List (Str×Pos),es=xs.map (λx=>Expr.Name x.1 x.2)/\J.length=ll xs/\∀(j i:Nat) (x:Str×Pos),J[j]?=yz i->xs[j]?=yz x->X.N[i]?=yz x.1/\Loc X.env.scope x.1/\(X.fn x.1=yx\/X.env.scope.names.lookup x.1=yz .local):=by
  intro J;induction J with
  |nil=>
   intro es h;cases es with
   |nil=>exact⟨[],rfl,rfl,λj i x L _=>by simp at L⟩|cons _ _=>simp[mtT.namesB]at h
  |cons i J ih=>
   intro es h;cases es with
   |nil=>simp[mtT.namesB]at h|cons e es=>
    simp only[mtT.namesB,bA0]at h;obtain⟨x,h1,h2⟩:=Xd h.1;obtain⟨p,rfl⟩:=Xar h1;rw[bA0,decide_eq_true_eq]at h2;obtain⟨xs,L,Y,e3⟩:=ih es h.2;obtain⟨l1,l2⟩:=Xf2 rfl ht h2.2;refine⟨(x,p)::xs,by rw[L];rfl,by simp[Y],λj i' x' q1 q2=>?_⟩;cases j with
    |zero=>simp at q1 q2;subst q1 q2;exact⟨h2.1,l1,l2⟩|succ j=>exact e3 j i' x' (by simpa using q1) (by simpa using q2)
 obtain⟨xs,L,Y,e3⟩:=ab J es h;subst L;have nm:=Xhy xs X.env;exact⟨λE=>Xs8 (X:=X.wish E) J xs aa Y e3,by rw[nm.1,Y],nm.2⟩
theorem Ybc(J:X.N.Nodup)(L:∀x,top x=yx->X.fn x=yx)(h:mtT top X.env.scope X.N (.tup is) tg=yx):∃es k p,tg=.Tuple es k p/\(∀E,PGs (X.wish E) es (gNs is))/\(Va4 es X.env).length=ll is/\(Va4 es X.env).findIdx? (·.1)=none:=by simp only[mtT]at h;obtain⟨es,h1,h⟩:=Xd h;obtain⟨k,p,rfl⟩:=Xcn h1;exact⟨es,k,p,rfl,Ybb J L is es h⟩
theorem dgB(hN:X.N=N)(hs:X.env.scope=sc)(J:N.Nodup)(Y:X5h t=yw->X.calm=yx)(L:∀x,top x=yx->X.fn x=yx)(h:mtT top sc N t tg=yx):DG X tg t:=by
 subst hN hs;cases t with
 |var i=>simp only[mtT]at h;obtain⟨x,h1,h2⟩:=Xd h;obtain⟨p,rfl⟩:=Xar h1;rw[bA0,decide_eq_true_eq]at h2;obtain⟨l1,l2⟩:=Xf2 rfl L h2.2;exact X0k J h2.1 l1 l2|tup is=>obtain⟨es,k,p,rfl,q1,q2,q3⟩:=Ybc J L h;exact X4t (Y rfl) q1 q2 q3
end
theorem Xpw:∀(es:Exs) (xs:LX),mts cm fns gns sc N es xs=yx->∀env S ds S',evs F G es env S=.ok ds S'->ll ds=ll xs
 |.nil,[]=>λ_ env S ds S' h=>by simp only[evs]at h;cases h;rfl|.nil,_::_=>λh _ _ _ _ _=>by simp[mts]at h|.cons _ _,[]=>λh _ _ _ _ _=>by simp[mts]at h|.cons e es,x::xs=>λh env S ds S' q=>by
  simp only[mts,bA0]at h;simp only[evs]at q;cases L:ev F G e env S with
  |bad=>rw[L]at q;cases q|ex _ _=>rw[L]at q;cases q|ok d S1=>
   rw[L]at q;simp only[Rk0]at q;cases J:evs F G es env S1 with
   |bad=>rw[J]at q;cases q|ex _ _=>rw[J]at q;cases q|ok Y S2=>rw[J]at q;simp only[Rk0]at q;cases q;simp[Xpw es xs h.2 env S1 Y _ J]
theorem Xbd:∀(es:Exs) (xs:LX),mts cm fns gns sc N es xs=yx->xs.all Ym=yx
 |.nil,[]=>λ_=>rfl|.nil,_::_=>λh=>by simp[mts]at h|.cons _ _,[]=>λh=>by simp[mts]at h|.cons e es,x::xs=>λh=>by simp only[mts,bA0]at h;rw[Vby,h.1.1,Xbd es xs h.2];rfl
theorem X1d{k:Bl}{nm:Str}{b:Bool}{id:String}(h:Xrc k=yz (nm,b,id))(Y:∃o,X.K.lookup Vdw=yz o)(aa:X.A.guards=yz [])(L:X.A.units+200<Vcb)(J:Xrd k=yw->X.calm=yx):nm∈blts/\(if b then Vd0 nm=yz (.builtin id)/\BlR X k (.builtin id) else Vd0 nm=yz (.type id)/\BlR X k (.type id)):=by
 cases k<;>simp only[Xrc,Vq,Vdo,reduceCtorEq]at h<;>obtain⟨rfl,rfl,rfl⟩:=h
 case len=>exact⟨by decide,PySem.boot_len,X86⟩
 case min=>exact⟨by decide,by decide+kernel,X9b (J rfl)⟩
 case max=>exact⟨by decide,by decide+kernel,X9a (J rfl)⟩
 case smB=>exact⟨by decide,by decide+kernel,X89 (J rfl)⟩
 case srt=>exact⟨by decide,by decide+kernel,X9g L⟩
 case all=>exact⟨by decide,by decide+kernel,X87 (J rfl)⟩
 case anb=>exact⟨by decide,by decide+kernel,X88 (J rfl)⟩
 case tuple=>exact⟨by decide,by decide+kernel,X0q⟩
 case list=>exact⟨by decide,by decide+kernel,X41⟩
 case repr=>exact⟨by decide,by decide+kernel,X48 Y aa L⟩
 case itB=>exact⟨by decide,by decide+kernel,X9f⟩
section
variable{F:Fn}{G:LD}{cm:Bool}{fns:LF}{gns:LS}
theorem X1e(h:Xwp fx=yx)(args:LX)(pos:Pos)(env:Va2):eval (.Call fx args [] pos) env=(do callWith pos (<-eval fx env) [] (Vb2 pos (Uk args env)) (backToKw pos (keywordEach [] env))):=by cases fx<;>first|rfl|exact ff h
theorem X9q(hp:PF cm F G fns gns X)(hc:cm=yx)(hx:∀(args:LX) (pos:Pos) (env:Va2),eval (.Call fx args [] pos) env=(do callWith pos (<-eval fx env) [] (Vb2 pos (Uk args env)) (backToKw pos (keywordEach [] env))))
  (hf:DE X fx f) (ha:DA X (e::es) ga) (he:Uk (e::es) X.env=(yw,eval e X.env)::Uk es X.env) (aa:(Vb2 pos (Uk es X.env)).any (·.1)=yw):
  DE X (.Call fx (e::es) [] pos) (λenv S=>(f env S).bind λx S=>match x with
   |.fn k nm=>if Xbb k nm G then (ga env S).bind λxs S=>F k xs S else .bad
   |_=>.bad):=by
 intro pc s σ H ρ S env I nb;dsimp only at nb ⊢;rw[hx];refine Va (hf.bind I nb rfl (λd S1 u s1 v H1 af e1 J I1 rv rd L=>?_) λ_ _ z=>z);rw[e1];cases d with
 |fn k nm=>
  dsimp only at J ⊢;by_cases hi:Xbb k nm G=yx
  ·rw[iP0 hi]at J ⊢;obtain⟨ar,fl,q1,q2,q3⟩:=hp.clf k nm hi;obtain⟨g,fd,ps,kk,c1,c2,c3,c4,c5,c6⟩:=hp.fn k nm ar fl q1 λ_=>hc;simp only[RD]at rd;obtain⟨a,rfl,hn⟩:=rd;have:=(q2 a hn).symm.trans c4;cases this;cases rv;cases q:ga env S1 with
   |bad=>rw[q]at J;cases J rfl|ex n S2=>exact Vfx (h₀:=X.base) I1.inv.ok.mod.kin c5 (ha.ex I1 q λx s' z=>⟨n,S2,rfl,z.pre L⟩) he aa|ok ds S2=>rw[q]at J;simp only[Rk0]at J ⊢;refine Vfx (h₀:=X.base) I1.inv.ok.mod.kin c5 (ha.ok I1 q λus s2 vs H2 ae I2 ac ab Y=>⟨I2.inv.kIn,?_⟩) he aa;exact Vp (Xy8 c1 c2 c3 I2 ac ab (by rw[c6];exact q3 _ _ J) J) (λu s2 z=>(z.pre Y).pre L) λx s2 z=>(z.pre Y).pre L
  rw[iN0 hi]at J;cases J rfl|_=>cases J rfl
theorem Yt(h:DE X e f)(J:∀whole,isTrue e X.env whole=(do let v <- whole;standAt e.pos;holding [v] (truthy v))):DE X e f/\DT X e (λenv S=>tst (f env S)):=⟨h,.of h J⟩
theorem DW.of(h:DT X (.BoolOp op ys p) g):DW X (.BoolOp op ys p) g:=λ_=>h
def X59(F:Fn)(G:LD)(X:Cx)(sc2:Ur)(N2:LS)(L:Cx->Prop):Gens->List Vbj->Prop
 |.cons t it ifs .nil,gens=>∃tg iter cs,gens=[⟨tg,iter,cs,0⟩]/\Xb1 iter=yx/\mtT (Xca X.N N2) sc2 N2 t tg=yx/\DI X tg iter (evit F G it)/\∀Y:Cx,Y.N=N2->Y.env.scope=sc2->L Y->DTs Y cs (evts F G ifs)|.cons t it ifs (.cons t2 it2 ifs2 .nil),gens=>∃tg iter cs aa J ab,gens=[⟨tg,iter,cs,0⟩,⟨aa,J,ab,0⟩]/\Xb1 iter=yx/\Xb1 J=yx/\mtT (Xca X.N N2) sc2 N2 t tg=yx/\mtT (Xca X.N N2) sc2 N2 t2 aa=yx/\DI X tg iter (evit F G it) /\
   (∀Y:Cx,Y.N=N2->Y.env.scope=sc2->L Y->DTs Y cs (evts F G ifs))/\(∀Y:Cx,Y.N=N2->Y.env.scope=sc2->L Y->DI Y aa J (evit F G it2))/\∀Y:Cx,Y.N=N2->Y.env.scope=sc2->L Y->DTs Y ab (evts F G ifs2)|_,_=>False
set_option genInjectivity false in
structure CompP(X:Cx)(elt:Expr)(gens:List Vbj)(scope:Ur)(cpos:Pos)(own:LS)(f:En->Sto->R D) where
 tg:Expr
 iter:Expr
 ifs:LX
 t:Tg
 fi:En->Sto->R Src
 tf:En->Sto->R Bool
 body:En->LD->Sto->R (LD)
 hg:gens=⟨tg,iter,ifs,0⟩::gens.tail
 hi:DI X tg iter fi
 hs:∀x,Vbm iter X.env x=pure x
 hG:∀pc s H cl C fp,DG (blk X pc s H scope cl C own fp) tg t
 hT:∀pc s H cl C fp,DTs (blk X pc s H scope cl C own fp) ifs tf
 hB:∀pc s H cl C fp Da,Xc9 yw (LstA X.K Da) (blk X pc s H scope cl C own fp) Da elt gens scope cpos 0 body
 eq:f=Xey fi t (ll own) tf body
theorem Xpx(hN:X.N=N)(hs:X.env.scope=sc)(hp:PF cm F G fns gns X)(hc:X.calm=yx)(so:ScOk sc scope N (Y0 scope))
  (hg:X59 F G X (Xg7 scope sc) (Xao N (Y0 scope)) (PF cm F G fns gns) gs gens) (he:∀Y:Cx,Y.N=Xao N (Y0 scope)->Y.env.scope=Xg7 scope sc->PF cm F G fns gns Y->DE Y elt (ev F G xe)):
  Nonempty (CompP X elt gens scope p (Y0 scope) (ev F G (.cmr yw (Y0 scope).length gs xe))):=by
 subst hN hs;have hY:∀pc s H J C fp,PF cm F G fns gns (blk X pc s H scope J C (Y0 scope) fp):=λpc s H J C fp=>PF.blk cm F G fns gns hp pc s H scope J C (Y0 scope) fp;have L:∀ {t:Tg} {tg:Expr},mtT (Xca X.N (Xao X.N (Y0 scope))) (Xg7 scope X.env.scope) (Xao X.N (Y0 scope)) t tg=yx->∀pc s H J C fp,DG (blk X pc s H scope J C (Y0 scope) fp) tg t:=λh pc s H J C fp=>dgB (top:=Xca X.N (Xao X.N (Y0 scope))) rfl rfl so.nd (λ_=>hc) (λ_ z=>X0u z) h;match gs,hg with
 |.cons t it ifs .nil,hg=>obtain⟨tg,iter,cs,rfl,n1,m1,i1,t1⟩:=hg;refine⟨⟨tg,iter,cs,t,evit F G it,evts F G ifs,_,rfl,i1,Xef n1,L m1,λpc s H J C fp=>t1 _ rfl rfl (hY pc s H J C fp),λpc s H J C fp Da=>Xks rfl (he _ rfl rfl (hY pc s H J C fp)),?_⟩⟩;funext env S;simp only[ev,Xey];rfl|.cons t it ifs (.cons t2 it2 ifs2 .nil),hg=>
  obtain⟨tg,iter,cs,ac,aa,ae,rfl,n1,n2,m1,m2,i1,t1,i2,ab⟩:=hg;refine⟨⟨tg,iter,cs,t,evit F G it,evts F G ifs,_,rfl,i1,Xef n1,L m1,λpc s H J C fp=>t1 _ rfl rfl (hY pc s H J C fp),
   λpc s H J C fp Da=>Xtc LstA.ok hc rfl (i2 _ rfl rfl (hY pc s H J C fp)) (Xef n2) (L m2 pc s H J C fp) (ab _ rfl rfl (hY pc s H J C fp)) (Xks rfl (he _ rfl rfl (hY pc s H J C fp))),?_⟩⟩
  funext env S;simp only[ev,Xey];rfl
theorem Xwz {k:Bl} {es:Exs} {x:Str} {ys:LX} (Y:∃o,X.K.lookup Vdw=yz o) (aa:X.A.guards=yz []) (ab:X.A.units+200<Vcb) (hg:Gl X x) (hb:∀x∈blts,X.mg x=yy) (hc:Xrd k=yw->X.calm=yx) (h1:blB k x=yx) (o1:(x==("__debug__" : Str))=yw) (o3:x ≠ "__name__") (ih:DA X (y::ys) (evs F G es))
  (he:Uk (y::ys) X.env=(yw,eval y X.env)::Uk ys X.env) (L:(Vb2 p (Uk ys X.env)).any (·.1)=yw):DE X (.Call (.Name x p0) (y::ys) [] p) (ev F G (.blt k es)):=by
 unfold blB at h1;cases q:Xrc k with
 |none=>rw[q]at h1;cases h1|some z=>
  obtain⟨nm,b,id⟩:=z;rw[q]at h1;dsimp only at h1;have e1:x=nm:=oD0 h1;subst e1;obtain⟨m1,J⟩:=X1d q Y aa ab hc;cases b with
  |true=>rw[iP0 rfl]at J;exact(X46 J.2 hg (hb _ m1) J.1 ih o3 o1 he L).congr λenv S=>by simp only[ev]|false=>rw[iN0 Uu]at J;exact(X47 J.2 hg (hb _ m1) J.1 ih o3 o1 he L).congr λenv S=>by simp only[ev]
theorem Xw0(h1:mtB k nm=yx)(h2:Xq9 ox=yx)(h3:(ap.endLine==cp.line)=yx)(h4:(y::ys).length<29)(io:DE X ox (ev F G o))(ih:DA X (y::ys) (evs F G es))(st:(y::ys).all Ym=yx):
  DE X (.Call (.Attribute ox nm ap) (y::ys) [] cp) (ev F G (.mth k o es)):=by
 have J:((Vb2 cp (Uk (y::ys) X.env)).all (λx=>!x.1)&&(backToKw cp (keywordEach [] X.env)).all (λx=>x.1.isSome)&&decide ((y::ys).length+([]:List Keyword).length+(if ([]:List Keyword).isEmpty then 0 else 1)<30))=true:=by
  rw[Xwo st];have:(y::ys).length+([]:List Keyword).length+(if ([]:List Keyword).isEmpty then 0 else 1)<30:=by simp only[Vfm,List.isEmpty_nil,if_true];omega
  rw[decide_eq_true this];rfl
 rw[Vby,bA0]at st;have L:∀ {m:Mt} (x:D) (S:Sto),Xaf m x S=yx->∃n xs,x=.ref n/\Xc S n=yz xs:=λ{m} x S h=>by
  cases x with
  |ref n=>have h':(Xc S n).isSome=true:=h;obtain⟨xs,e⟩:=Vcm.mp h';exact⟨n,xs,rfl,e⟩|_=>cases h
 cases k with
 |append=>have Y:nm="append":=oD0 h1;subst Y;exact(Xh0 (m:=.append) (id:="list.append") PySem.F.slot_list_append PySem.F.type_list_append Xwc L io ih (Xf3 h2) J h3 (Xv st.1) (Xap st.2)).congr λenv S=>by simp only[ev]|xtd=>have Y:nm="extend":=oD0 h1;subst Y;exact(Xh0 (m:=.xtd) (id:="list.extend") PySem.F.slot_list_extend PySem.F.type_list_extend X9c L io ih (Xf3 h2) J h3 (Xv st.1) (Xap st.2)).congr λenv S=>by simp only[ev]|count=>have Y:nm="count":=oD0 h1;subst Y;exact(Xh0 (m:=.count) (id:="list.count") PySem.F.slot_list_count PySem.F.type_list_count X0r L io ih (Xf3 h2) J h3 (Xv st.1) (Xap st.2)).congr λenv S=>by simp only[ev]|index=>have Y:nm="index":=oD0 h1;subst Y;exact(Xh0 (m:=.index) (id:="list.index") Vgc PySem.F.type_list_index X0s L io ih (Xf3 h2) J h3 (Xv st.1) (Xap st.2)).congr λenv S=>by simp only[ev]
theorem Xw1 (er:ErrOk X.K) (hb:∀x∈blts,X.mg x=yy) (J:Gl X "isinstance") (hg:Gl X nm) (hok:Xay nm=yx) (Y:tyB sc t nm=yx) (ha:DE X a fa) (L:Ym a=yx):
  DE X (.Call (.Name "isinstance" p0) [a,.Name nm p1] [] pos) (λenv S=>(fa env S).bind λx S=>match (kdD S x).bind λk=>Xac k [t] with|some r=>.ok (.bl r) S|none=>.bad):=by
 cases t with
 |cls c=>exact Xtw er (.inl ⟨c,rfl,oD0 Y⟩) hb J hg hok ha L|valueError=>exact Xtw er (.inr ⟨rfl,oD0 Y⟩) hb J hg hok ha L|int=>have e:=oD0 Y;subst e;exact Xdt (t:=.int) rfl hb J hg hok ha L|bool=>have e:=oD0 Y;subst e;exact Xdt (t:=.bool) rfl hb J hg hok ha L|str=>have e:=oD0 Y;subst e;exact Xdt (t:=.str) rfl hb J hg hok ha L|tuple=>have e:=oD0 Y;subst e;exact Xdt (t:=.tuple) rfl hb J hg hok ha L|list=>have e:=oD0 Y;subst e;exact Xdt (t:=.list) rfl hb J hg hok ha L|dict=>have e:=oD0 Y;subst e;exact Xdt (t:=.dict) rfl hb J hg hok ha L
theorem X1f (er:ErrOk X.K) (hb:∀x∈blts,X.mg x=yy) (hs:X.env.scope=sc) (J:Gl X "isinstance") (Y:tyM sc ts y=yx) (ha:DE X a fa) (L:Ym a=yx):
  DE X (.Call (.Name "isinstance" p0) [a,y] [] pos) (λenv S=>(fa env S).bind λx S=>match (kdD S x).bind λk=>Xac k ts with|some r=>.ok (.bl r) S|none=>.bad):=by
 obtain⟨t,nm,p,rfl,rfl,h1,h2,h3⟩:=X55 Y;exact Xw1 er hb J (Xaq hs h1) h2 h3 ha L
set_option maxHeartbeats 0 in
theorem X6a{k:Nat}(h:Xjb d c=yx):DE X (.Constant c k p) (ev F G (.cst d)):=by
 cases d with
 |int i=>cases c with
  |int j=>simp only[Xjb,beq_iff_eq]at h;subst h;exact d_int.congr λenv S=>by simp only[ev]|_=>cases h
 |bl i=>cases c with
  |bool j=>simp only[Xjb,beq_iff_eq]at h;subst h;exact d_bl.congr λenv S=>by simp only[ev]|_=>cases h
 |non=>cases c with
  |none=>exact d_non.congr λenv S=>by simp only[ev]|_=>cases h
 |str i=>cases c with
  |str j=>simp only[Xjb,decide_eq_true_eq]at h;subst h;exact d_str.congr λenv S=>by simp only[ev]|_=>cases h
 |_=>cases h
mutual
theorem snd:∀(x:Ex) (X:Cx) (sc:Ur) (N:LS) (e:Expr),X.N=N->X.env.scope=sc->PF cm F G fns gns X->mt cm fns gns sc N x e=yx->DE X e (ev F G x)/\DT X e (λenv S=>tst (ev F G x env S))
 |.nev=>λX sc N e hN hs J h=>⟨λ_ _ _ _ _ _ _ _ nb=>aB0 (by simp only[ev]) nb,λ_ _ _ _ _ _ _ _ nb=>aB0 (by simp only[ev]<;>rfl) nb⟩|.var i=>λX sc N e hN hs J h=>by obtain⟨x,p,rfl,h1,h2,L⟩:=X5p h;subst hN hs;obtain⟨o1,o2,_⟩:=Xa4 L;exact Yt ((Xy4 h1 (Xpp h2) o1 o2).congr λenv S=>by simp only[ev]<;>rfl) λ_=>rfl|.cst d=>λX sc N e hN hs J h=>by obtain⟨c,k,p,rfl,h⟩:=X5q h;exact Yt (X6a h) λ_=>rfl|.neg a=>λX sc N e hN hs J h=>by obtain⟨x,p,rfl,h⟩:=X5r h;exact Yt ((Xza (snd a X sc N x hN hs J h).1).congr λenv S=>by simp only[ev]<;>rfl) λ_=>rfl|.glb k=>λX sc N e hN hs J h=>by obtain⟨x,p,rfl,h1,h2,L⟩:=X5t h;obtain⟨o1,o2,_⟩:=Xa4 L;obtain⟨u,d,q1,q2,q3⟩:=J.glb k x h1;exact Yt ((X9e (Xaq hs h2) q1 q3 o1).congr λenv S=>by simp only[ev,q2]) λ_=>rfl|.tup es=>λX sc N e hN hs J h=>by obtain⟨xs,k,p,rfl,h⟩:=X5u h;exact Yt ((X8n (snds es X sc N xs hN hs J h)).congr λenv S=>by simp only[ev]) λ_=>rfl|.lst es=>λX sc N e hN hs J h=>by obtain⟨xs,p,rfl,h⟩:=X5v h;exact Yt ((X8o (snds es X sc N xs hN hs J h)).congr λenv S=>by simp only[ev]) λ_=>rfl|.bin op a b=>λX sc N e hN hs J h=>by obtain⟨x,y,p,rfl,h1,h2⟩:=X5w h;exact Yt ((X8p (X81 op) (snd a X sc N x hN hs J h1).1 (snd b X sc N y hN hs J h2).1).congr λenv S=>by simp only[ev]) λ_=>rfl|.cmp op a b=>λX sc N e hN hs J h=>by obtain⟨x,y,p,rfl,h1,h2,L⟩:=X5x h;have ha:=(snd a X sc N x hN hs J h2).1;have hb:=(snd b X sc N y hN hs J L).1;exact⟨(X8q (Xfz J.units op) ha hb h1).congr λenv S=>by simp only[ev],(X4g (Xfz J.units op) ha hb h1).congr λenv S=>by simp only[ev]⟩|.chn o1 o2 a b c=>λX sc N e hN hs J h=>by obtain⟨x,y,z,p,rfl,h1,h2,L,h4⟩:=X5y h;have ha:=(snd a X sc N x hN hs J h2).1;have hb:=(snd b X sc N y hN hs J L).1;have hc:=(snd c X sc N z hN hs J h4).1;exact⟨(X9d (Xfz J.units o1) (Xfz J.units o2) ha hb hc h1).congr λenv S=>by simp only[ev,Yz]<;>rfl,(X45 (Xfz J.units o1) (Xfz J.units o2) ha hb hc h1).congr λenv S=>by simp only[ev,Yz]<;>rfl⟩|.and a b=>λX sc N e hN hs J h=>by
  rcases X5z h with⟨x,y,p,rfl,h1,h2⟩|⟨x,y,z,r,p,rfl,h1,h2⟩;·have ha:=snd a X sc N x hN hs J h1;have hb:=snd b X sc N y hN hs J h2;exact⟨(Xy5 ha.1 (Xy6 hb.1)).congr λenv S=>by simp only[ev]<;>rfl,((Xs0 ha.2 (Xz8 hb.2)).dt).congr λenv S=>by simp only[ev]<;>rfl⟩
  ·have ha:=snd a X sc N x hN hs J h1;have hb:=snd b X sc N (.BoolOp .And (y::z::r) p) hN hs J h2;exact⟨(Xy5 ha.1 hb.1).congr λenv S=>by simp only[ev]<;>rfl,((Xs0 ha.2 (.of hb.2)).dt).congr λenv S=>by simp only[ev]<;>rfl⟩|.or a b=>λX sc N e hN hs J h=>by
  rcases X9l h with⟨x,y,p,rfl,h1,h2⟩|⟨x,y,z,r,p,rfl,h1,h2⟩;·have ha:=snd a X sc N x hN hs J h1;have hb:=snd b X sc N y hN hs J h2;exact⟨(X4h ha.1 (Xy6 hb.1)).congr λenv S=>by simp only[ev]<;>rfl,((Xy7 ha.2 (X4j hb.2)).dt).congr λenv S=>by simp only[ev]<;>rfl⟩
  ·have ha:=snd a X sc N x hN hs J h1;have hb:=snd b X sc N (.BoolOp .Or (y::z::r) p) hN hs J h2;exact⟨(X4h ha.1 hb.1).congr λenv S=>by simp only[ev]<;>rfl,((Xy7 ha.2 (.of hb.2)).dt).congr λenv S=>by simp only[ev]<;>rfl⟩|.not a=>λX sc N e hN hs J h=>by obtain⟨x,p,rfl,h⟩:=X5s h;have ha:=snd a X sc N x hN hs J h;exact⟨(X8r ha.2 ha.1).congr λenv S=>by simp only[ev]<;>rfl,(X4i ha.2).congr λenv S=>by simp only[ev]<;>rfl⟩|.ite c a b=>λX sc N e hN hs J h=>by obtain⟨x,y,z,p,rfl,h1,h2,L⟩:=X50 h;have hc:=snd c X sc N x hN hs J h1;have ha:=snd a X sc N y hN hs J h2;have hb:=snd b X sc N z hN hs J L;exact⟨(X8s hc.2 ha.1 hb.1).congr λenv S=>by simp only[ev]<;>rfl,(X44 hc.2 ha.2 hb.2).congr λenv S=>by simp only[ev]<;>rfl⟩|.idx a i=>λX sc N e hN hs J h=>by obtain⟨x,y,p,rfl,h1,h2,L⟩:=X51 h;exact Yt ((X83 (Xq8 h1) (snd a X sc N x hN hs J h2).1 (snd i X sc N y hN hs J L).1).congr λenv S=>by simp only[ev]) λ_=>rfl|.sli a lo hi=>λX sc N e hN hs J h=>by obtain⟨x,l,u,p2,p,rfl,h1,h2,L⟩:=X56 h;exact Yt ((Xzc (snd a X sc N x hN hs J h1).1 (sndo lo X sc N l hN hs J h2) (sndo hi X sc N u hN hs J L)).congr λenv S=>by simp only[ev]<;>rfl) λ_=>rfl|.rev a=>λX sc N e hN hs J h=>by obtain⟨x,y,p,rfl,h1,h2⟩:=X58 h;exact Yt ((Xt1 (by decide) rfl (snd a X sc N x hN hs J h2).1 h1).congr λenv S=>by simp only[ev];congr 1;funext x S;exact(Xnb x S).symm) λ_=>rfl|.cal f es=>λX sc N e hN hs J h=>by obtain⟨fx,y,ys,p,rfl,h1,h2,L,h4⟩:=X57 h;have st:=Xbd es (y::ys) h4;rw[Vby,bA0]at st;exact Yt ((X9q J h1 (X1e h2) (snd f X sc N fx hN hs J L).1 (snds es X sc N (y::ys) hN hs J h4) (Xv st.1) (Xap st.2)).congr λenv S=>by simp only[ev]<;>rfl) λ_=>rfl|.lenm a=>λX sc N e hN hs J h=>by obtain⟨p,p2,x,cp,ac,rfl,h1,h2,L,h4,h5⟩:=X04 h;have ih:=(snd a X sc N x hN hs J h5).1;exact Yt ((X5g (J.calm h1) (Xaq hs h2) (J.blt _ (by decide)) (Xaq hs L) (J.blt _ (by decide)) ih (Xv h4)).congr λenv S=>by simp only[ev]<;>rfl) λ_=>rfl|.isi a ts=>λX sc N e hN hs J h=>by obtain⟨p0,x,y,cp,rfl,h1,h2,L,h4⟩:=X54 h;have ih:=(snd a X sc N x hN hs J L).1;exact Yt ((X1f J.err J.blt hs (Xaq hs h1) h4 ih h2).congr λenv S=>by simp only[ev]<;>rfl) λ_=>rfl|.call f es=>λX sc N e hN hs J h=>by obtain⟨x,p0,y,ys,p,rfl,h1,h2,L,h4⟩:=X05 h;obtain⟨o1,o2,_⟩:=Xa4 L;obtain⟨fl,h1,ab⟩:=h1;obtain⟨g,fd,ps,k,c1,c2,c3,c4,c5,c6⟩:=J.fn f x _ fl h1 ab;have st:=Xbd es (y::ys) h4;rw[Vby,bA0]at st;exact Yt ((X4n c1 c2 c3 (Xaq hs h2) c4 c5 (snds es X sc N (y::ys) hN hs J h4) (λenv S ds S' q=>by rw[c6];exact Xpw es (y::ys) h4 env S ds S' q) o1 (Xv st.1) (Xap st.2)).congr λenv S=>by simp only[ev]) λ_=>rfl|.blt k es=>λX sc N e hN hs J h=>by obtain⟨x,p0,y,ys,p,rfl,h1,hq,h2,L,h4⟩:=X52 h;obtain⟨o1,o2,o3⟩:=Xa4 L;have st:=Xbd es (y::ys) h4;rw[Vby,bA0]at st;have ih:=snds es X sc N (y::ys) hN hs J h4;exact Yt (Xwz J.err.sm J.gd J.units (Xaq hs h2) J.blt (λz=>J.calm (by rw[z,Bool.or_false]at hq;exact hq)) h1 o1 o3 ih (Xv st.1) (Xap st.2)) λ_=>rfl|.mth k o es=>λX sc N e hN hs J h=>by obtain⟨ox,nm,ap,y,ys,cp,rfl,h1,h2,L,h4,h5,h6⟩:=X53 h;have st:=Xbd es (y::ys) h6;have ih:=snds es X sc N (y::ys) hN hs J h6;have io:=(snd o X sc N ox hN hs J h5).1;exact Yt (Xw0 h1 h2 L h4 io ih st) λ_=>rfl|.cmr k n gs elt=>λX sc N e hN hs J h=>by obtain⟨ee,gens,scope,p,rfl,h0,h1,h2,L,h4,h5⟩:=Xts h;subst h1 h2;have so:=Xtq L;have aa:=J.calm h0;obtain⟨c⟩:=Xpx (p:=p) hN hs J aa so (sndg gs X sc N _ _ gens hN hs J h4) (λY y1 y2 y3=>(snd elt Y _ _ ee y1 y2 y3 h5).1);subst hN hs;refine Yt ?_ λ_=>rfl;rw[c.eq];exact X40 aa so rfl c.hg c.hi c.hs c.hG c.hT c.hB
theorem sndo:∀(o:Op) (X:Cx) (sc:Ur) (N:LS) (x:Option Expr),X.N=N->X.env.scope=sc->PF cm F G fns gns X->mto cm fns gns sc N o x=yx->DO X x (evo F G o)
 |.none=>λX sc N x hN hs J h=>by
  cases x with
  |none=>
   have:evo F G .none=λ_ S=>.ok yy S:=by funext env S;simp only[evo]
   rw[this];exact Xpu|some _=>cases h
 |.some e=>λX sc N x hN hs J h=>by
  cases x with
  |none=>cases h|some x=>
   have h':mt cm fns gns sc N e x=true:=h;have:evo F G (.some e)=λenv S=>(ev F G e env S).bind λx S=>.ok (yz x) S:=by funext env S;simp only[evo]
   rw[this];exact Xpv (snd e X sc N x hN hs J h').1
theorem snds:∀(es:Exs) (X:Cx) (sc:Ur) (N:LS) (xs:LX),X.N=N->X.env.scope=sc->PF cm F G fns gns X->mts cm fns gns sc N es xs=yx->DA X xs (evs F G es)
 |.nil,X,sc,N,[]=>λhN hs J h=>by
  have:evs F G .nil=λ_ S=>.ok [] S:=by funext env S;simp only[evs]
  rw[this];exact X4f|.cons e es,X,sc,N,x::xs=>λhN hs J h=>by
  simp only[mts,bA0]at h;have:evs F G (.cons e es)=λenv S=>(ev F G e env S).bind λx S=>(evs F G es env S).bind λxs S=>.ok (x::xs) S:=by funext env S;simp only[evs]
  rw[this];exact Xz6 (snd e X sc N x hN hs J h.1.2).1 (snds es X sc N xs hN hs J h.2) (Xv h.1.1)|.nil,X,sc,N,_::_=>λhN hs J h=>by simp[mts]at h|.cons _ _,X,sc,N,[]=>λhN hs J h=>by simp[mts]at h
theorem Xrl:∀(es:Exs) (X:Cx) (sc:Ur) (N:LS) (xs:LX),X.N=N->X.env.scope=sc->PF cm F G fns gns X->mts cm fns gns sc N es xs=yx->DTs X xs (evts F G es)
 |.nil,X,sc,N,[]=>λhN hs J h=>by
  have:evts F G .nil=λ_ S=>.ok yx S:=by funext env S;simp only[evts]
  rw[this];exact X0m|.cons e es,X,sc,N,x::xs=>λhN hs J h=>by
  simp only[mts,bA0]at h;have:evts F G (.cons e es)=λenv S=>(ev F G e env S).bind λx S=>match Xf S x with|some yx=>evts F G es env S|some yw=>.ok yw S|none=>.bad:=by funext env S;simp only[evts]<;>rfl
  rw[this];exact Xwb (snd e X sc N x hN hs J h.1.2).2 (Xrl es X sc N xs hN hs J h.2)|.nil,X,sc,N,_::_=>λhN hs J h=>by simp[mts]at h|.cons _ _,X,sc,N,[]=>λhN hs J h=>by simp[mts]at h
theorem Xrm:∀(it:It) (X:Cx) (sc:Ur) (N:LS) (tg x:Expr),X.N=N->X.env.scope=sc->PF cm F G fns gns X->(Xrf it=yx->∃es k p,tg=.Tuple es k p)->mtI cm fns gns sc N it x=yx->DI X tg x (evit F G it)
 |.val e=>λX sc N tg x hN hs J _ h=>by
  simp only[mtI]at h;have:evit F G (.val e)=λenv S=>(ev F G e env S).bind λx S=>match Yo S x with|some r=>.ok r S|none=>.bad:=by funext env S;simp only[evit]<;>rfl
  rw[this];exact X4u (snd e X sc N x hN hs J h).1|.rng es=>λX sc N tg x hN hs J _ h=>by
  obtain⟨Y,y,ys,p,rfl,h2,L⟩:=X07 h;have st:=Xbd es (y::ys) L;rw[Vby,bA0]at st;have:evit F G (.rng es)=λenv S=>(evs F G es env S).bind λxs S=>match Ys xs with|some ds=>.ok (.con ds) S|none=>.bad:=by funext env S;simp only[evit]<;>rfl
  rw[this];exact X4v (Xaq hs h2) (J.blt _ (by decide)) (snds es X sc N (y::ys) hN hs J L) (Xv st.1) (Xap st.2)|.enm es=>λX sc N tg x hN hs J ht h=>by
  obtain⟨Y,y,ys,p,rfl,h2,L⟩:=X06 h;obtain⟨ts,k,tp,rfl⟩:=ht rfl;have st:=Xbd es (y::ys) L;rw[Vby,bA0]at st;have:evit F G (.enm es)=λenv S=>(evs F G es env S).bind λxs S=>match xs with
   |[x]=>match Yo S x with
    |some s=>.ok (.enm s) S|none=>.bad
   |_=>.bad:=by funext env S;simp only[evit]<;>rfl
  rw[this];exact X4w (Xaq hs h2) (J.blt _ (by decide)) (snds es X sc N (y::ys) hN hs J L) (Xv st.1) (Xap st.2)
theorem sndg:∀(gs:Gens) (X:Cx) (sc:Ur) (N:LS) (sc2:Ur) (N2:LS) (gens:List Vbj),X.N=N->X.env.scope=sc->PF cm F G fns gns X->mtG cm fns gns sc N sc2 N2 gs gens=yx->X59 F G X sc2 N2 (PF cm F G fns gns) gs gens
 |.nil=>λX sc N sc2 N2 gens hN hs hp h=>(X9h h).elim|.cons t it ifs .nil=>λX sc N sc2 N2 gens hN hs hp h=>by obtain⟨tg,iter,cs,rfl,h2,h3,h4,h5,h6⟩:=X9i h;exact⟨tg,iter,cs,rfl,h2,hN▸h3,Xrm it X sc N tg iter hN hs hp (Xh3 h6 h3) h4,λY y1 y2 L=>Xrl ifs Y sc2 N2 cs y1 y2 L h5⟩|.cons t it ifs (.cons t2 it2 ifs2 .nil)=>λX sc N sc2 N2 gens hN hs hp h=>by obtain⟨tg,iter,cs,ab,J,aa,rfl,h3,h4,h5,h6,h7,h8,h9,af,ae,ac⟩:=X9j h;exact⟨tg,iter,cs,ab,J,aa,rfl,h3,h4,hN▸h5,hN▸h8,Xrm it X sc N tg iter hN hs hp (Xh3 ae h5) h6,λY y1 y2 L=>Xrl ifs Y sc2 N2 cs y1 y2 L h7,λY y1 y2 L=>Xrm it2 Y sc2 N2 ab J y1 y2 L (Xh3 ac h8) h9,λY y1 y2 L=>Xrl ifs2 Y sc2 N2 aa y1 y2 L af⟩|.cons t it ifs (.cons t2 it2 ifs2 (.cons _ _ _ _))=>λX sc N sc2 N2 gens hN hs hp h=>(X9k h).elim
end
variable{X:Cx}{pc:LA}{σ:L2.St}{H:Hp}{s:Vc}{ρ:LR}{S S':Sto}{env:En}{a b c e tg:Expr}{f fc:En->Sto->R D}{pos:Pos}
theorem X6b(he:DE X e f)(hg:DG X tg t)(hs:Vdt [tg] e pos.line X.env=pure yw)(hw:Vdu [tg] e X.env=pure yy)(h1:(Va4 [tg] X.env).map (·.2)=[assign tg X.env]):
  DS X (.Assign [tg] e pos) yw (λenv S=>(f env S).bind λx S=>match Xk t x env with|some env=>.ok (.nx env) S|none=>.bad):=by
 intro pc s σ H ρ S env I Y;dsimp only at Y ⊢;cases q:f env S with
 |bad=>rw[q]at Y;cases Y rfl|ex n S1=>exact Vg7 (he.ex I q λx s' z=>.of .refl z rfl) hs hw|ok d S1=>
  rw[q]at Y;simp only[Rk0]at Y ⊢;cases q2:Xk t d env with
  |none=>rw[q2]at Y;cases Y rfl|some L=>refine Vg7 (he.ok I q λu s' v H' ρ' J rv rd st=>?_) hs hw;rw[h1];exact hg pc s' σ H' ρ' S1 env d v u L _ _ J q2 rd rv λs2 aa I2=>⟨.nx L,S1,rfl,rfl,aa,H',ρ',I2,st,λz=>nomatch z⟩
theorem X1g{kt k2 pt2}(hc:X.calm=yx)(hN:X.N.Nodup)(hi:X.N[i]?=yz x)(hj:X.N[j]?=yz y)(aj:i≠j)
  (hx:X.env.scope.names.lookup x=yz .local) (hy:X.env.scope.names.lookup y=yz .local) (ha:DA X [a,b] ga)
  (hw:Vdu [.Tuple [.Name x px,.Name y py] kt pt] (.Tuple [a,b] k2 pt2) X.env=pure (yz [x,y]))
  (hs:Vdt [.Tuple [.Name x px,.Name y py] kt pt] (.Tuple [a,b] k2 pt2) pos.line X.env=pure yw):
  DS X (.Assign [.Tuple [.Name x px,.Name y py] kt pt] (.Tuple [a,b] k2 pt2) pos) yw (λenv S=>(ga env S).bind λxs S=>if [i,j].length=ll xs then .ok (.nx (([i,j].zip xs).foldl (λe p=>e.set p.1 (yz p.2)) env)) S else .bad):=by
 intro pc s σ H ρ S env I J;dsimp only at J ⊢;rw[exec_Assign_arm];refine Va (Vdr ?_);rw[hs];refine Va (Vh ?_);rw[iN0 (by decide)];cases q:ga env S with
 |bad=>rw[q]at J;cases J rfl|ex n S1=>exact Va (Tuple_ (ha.ex I q λx s' z=>.of .refl z rfl))|ok ds S1=>
  rw[q]at J;simp only[Rk0]at J ⊢;split at J
  ·rename_i hl;rw[iP0 hl];obtain⟨d1,d2,rfl⟩:∃d1 d2,ds=[d1,d2]:=by
    match ds,hl with
    |[d1,d2],_=>exact⟨d1,d2,rfl⟩
   refine Va (Tuple_ (ha.ok I q λus Y vs H1 ac I1 af ah ab=>?_));obtain⟨v,w,rfl,ak,ai⟩:=ah.two;obtain⟨u1,L,rfl,rv,aa⟩:∃u1 L,us=[u1,L]/\RelV v u1/\RelV w L:=by
    cases af with
    |cons p q=>
     cases q with
     |cons p' q'=>cases q';exact⟨_,_,rfl,p,p'⟩
   refine Va5 ?_ (by show 2<=V0;decide);have I2:Inv X pc σ H1 {Y with heap:=Y.heap.push {cls:=.type "tuple",data:=.seq [u1,L].toArray} }:=I1.inv.kept (t':=Y.toks) λb o e=>Vo _ e;rw[hw];refine Va (Vh ?_);show Vi (Vj X.prog X.w) X.A (do rule "assign.swapped-stores";let items <- unpackItems (.ref Y.heap.objs.size) 2 yy;assignInOrder [λv=>bindName X.env y v,λv=>bindName X.env x v] items.reverse;pure Flow.next) _ _ _;refine Va (Vbf (Va (unpackItems_tuple (items:=#[u1,L]) (I.inv.ok.hd hc) (IsTup.new Y.heap _) λh' ae=>?_)));have I3:=I2.kept (h':=h') (t':=Y.toks) λb o e=>ae b o (Up (Vy e)) e;show Vi _ _ (assignInOrder [λv=>bindName X.env y v,λv=>bindName X.env x v] [L,u1] >>= λ_=>pure Flow.next) _ _ _;refine Va (Vhe (wpAny_bindName (Xba I3 hN hj (.inl hy) aa (λs2 I4=>?_) (.inr hy))));refine Vhe (wpAny_bindName (Xba I4 hN hi (.inl hx) rv (λs3 I5=>assignInOrder_nil (Vh ?_)) (.inr hx)));rw[List.set_comm _ _ (Ne.symm aj)]at I5;exact⟨.nx ((env.set i (yz d1)).set j (yz d2)),S1,rfl,rfl,_,H1,ac,⟨I5,I1.sr,(I1.er.set i ak).set j ai⟩,ab,λz=>nomatch z⟩
  cases J rfl
theorem X6c(hu:X.A.units+1<Vcb)(I:S0 X pc σ H s ρ S env)(L:Xc8 x y d S≠.bad)(rx:RD X.K ρ H x vx)(qx:RelV vx ux)(ry:RD X.K ρ H y vy)(qy:RelV vy uy)(rd:RD X.K ρ H d v)(rv:RelV v u)
  (Y:∀S' s' H',Xc8 x y d S=.ok () S'->S0 X pc σ H' s' ρ S' env->Stp X.K ρ ρ H H'->Q () s'):Vi (Vj X.prog X.w) X.A (setItem ux uy u) Q Ev s:=by
 unfold Xc8 at L Y;cases x with
 |ref n=>dsimp only at L Y;cases y with
  |int k=>
   dsimp only at L Y;cases e:Z.lstM S n with
   |none=>rw[e]at L;cases L rfl|some xs=>
    rw[e]at L Y;dsimp only at L Y;cases e2:Z.ixN (ll xs) k with
    |none=>rw[e2]at L;cases L rfl|some j=>
     rw[e2]at Y;obtain⟨a,ws,rfl,ha,hv,hr⟩:=I.lstR e rx;simp only[RD]at ry;subst ry;have hl:L2.ixN ws.length k=yz j:=by rw[<-hr.length];exact e2
     refine thn (Xvw (X:=X.wish Ev) pc s σ H (.ref a) (.int k) v ux uy u (λH'=>H'=upd H a (.lst (ws.set j v))) (I.inv.wish Ev) qx qy rv ⟨a,ws,k,j,rfl,rfl,hv,hl,rfl⟩) λ_ s' ⟨H',J,e3⟩=>?_;subst e3;have nf:∀o u,H a≠yz (.frz o u):=λo u z=>by rw[hv]at z;cases z
     have st:Stp X.K ρ ρ H (upd H a (.lst (ws.set j v))):=Stp.chg (S:=S) (o:=.lst (xs.set j d)) I.sr ha nf;exact Y _ s' _ rfl ⟨J.unwish,I.sr.chg ha nf ⟨ws.set j v,Xp,(hr.set rd j).mono st⟩,I.er.mono st⟩ st
  |_=>cases L rfl
 |_=>cases L rfl
variable{o i:Expr}{fo fi:En->Sto->R D}{spos:Pos}
theorem X1h(hu:X.A.units+1<Vcb)(he:DE X e f)(ho:DE X o fo)(hi:DE X i fi)(hs:Vdt [.Subscript o i spos] e pos.line X.env=pure yw)(hw:Vdu [.Subscript o i spos] e X.env=pure yy)
  (hA:∀v,assign (.Subscript o i spos) X.env v=(do
   let ov <- holding [v] (eval o X.env)
   let iv <- holding [v,ov] (eval i X.env)
   standAt spos
   holding [v,ov,iv] (setItem ov iv v)
   release [v,ov,iv] [])):
  DS X (.Assign [.Subscript o i spos] e pos) yx (λenv S=>(f env S).bind λv S=>(fo env S).bind λx S=>(fi env S).bind λy S=>(Xc8 x y v S).bind λ_ S=>.ok (.nx env) S):=by
 intro pc s σ H ρ S env I nb;dsimp only at nb ⊢;generalize hr:(f env S).bind (λv S=>(fo env S).bind λx S=>(fi env S).bind λy S=>(Xc8 x y v S).bind λ_ S=>R.ok (Fl.nx env) S)=r at nb ⊢;have h1:(Va4 [Expr.Subscript o i spos] X.env).map (·.2)=[assign (.Subscript o i spos) X.env]:=rfl;refine Vg7 (he.bind I (by rw[hr];exact nb) hr.symm (λd S1 u s1 v H1 am e1 ai I1 rv rd L=>?_) λx s' ⟨n,S2,e2,z⟩=>.of .refl z e2) hs hw;rw[h1];show Vi _ _ (assign (.Subscript o i spos) X.env u) _ _ _;rw[hA];refine Va (Vas (ho.bind I1 ai e1 (λx S2 ux s2 vx H2 al e2 ah I2 ac aa J=>?_) λx s' ⟨n,S3,e3,z⟩=>.of L z e3));refine Va (Vas (hi.bind I2 ah e2 (λy S3 uy s3 vy H3 ak e3 aj I3 ae af Y=>?_) λx s' ⟨n,S4,e4,z⟩=>.of (L.trans J) z e4));refine Va (Vdr (Va (Vas (X6c hu I3 (λz=>aj (by rw[z];rfl)) (aa.mono Y) ac af ae ((rd.mono J).mono Y) rv λS4 s4 H4 e4 I4 ab=>?_))));refine wpAny_release ⟨.nx env,S4,by rw[e3,e4];rfl,rfl,σ,H4,ak,I4,L.trans (J.trans (Y.trans ab)),λ_=>rfl⟩
theorem X9r(I:S0 X pc σ H s ρ S env)(Y:Xet op x y S≠.bad)(L:RD X.K ρ H x vx)(qx:RelV vx ux)(J:RD X.K ρ H y vy)(qy:RelV vy uy):
  Vi (Vj X.prog X.w) X.A (inplaceOp (opB op) ux uy) (OkP X pc σ ρ H (Xet op x y S)) Ev s:=by
 unfold Xet at Y ⊢;split at Y;·simp only[RD]at L J;subst L J;obtain⟨t,rfl⟩:=qx;obtain⟨t',rfl⟩:=qy;exact iadd_int (Y6 I.sr (I.inv.tok _))
 ·simp only[RD]at L J;subst L J;obtain⟨t,rfl⟩:=qx;obtain⟨t',rfl⟩:=qy;exact isub_int (Y6 I.sr (I.inv.tok _))
 ·simp only[RD]at L J;subst L J;obtain⟨t,rfl⟩:=qx;obtain⟨t',rfl⟩:=qy;split at Y;·rename_i hm;rw[iP0 hm];exact imul_int (Y6 I.sr (I.inv.tok _)) (Xmg hm)
  ·cases Y rfl
 ·cases Y rfl
theorem X6d(hN:X.N.Nodup)(hi:X.N[k]?=yz x)(hx:Loc X.env.scope x)(hf:X.fn x=yx\/X.env.scope.names.lookup x=yz .local)(he:DE X e f):
  DS X (.AugAssign (.Name x spos) (opB op) e pos) yw (λenv S=>match env[k]? with
   |some (yz x)=>(f env S).bind λy S=>(Xet op x y S).bind λz S=>.ok (.nx (env.set k (yz z))) S
   |_=>.bad):=by
 intro pc s σ H ρ S env I nb;dsimp only at nb ⊢;split at nb
 ·rename_i d hd;obtain⟨v,e1,rd⟩:=I.er.2 k d hd;generalize hr:((f env S).bind λy S=>(Xet op d y S).bind λz S=>R.ok (Fl.nx (env.set k (yz z))) S)=r at nb ⊢;obtain⟨m,hn,hl⟩:=I.inv.loc;have ab:Vis X.env.scope x:=by rcases hx with k|k;exact .inl k;exact .inr (.inl k)
  obtain⟨u,rv,l⟩:=hl k x v hi e1 ab;refine wpAny_AugAssign_Name ?_;have go:Vi (Vj X.prog X.w) X.A (eval e X.env) (λw aa=>Vi (Vj X.prog X.w) X.A (inplaceOp (opB op) u w) (λz Y=>Vi (Vj X.prog X.w) X.A (storeName X.env x z) (λ_=>OkS X pc σ ρ H yw r .next) (ExS X pc σ ρ H yw r) Y) (ExS X pc σ ρ H yw r) aa) (ExS X pc σ ρ H yw r) s:=by refine he.bind I (by rw[hr];exact nb) hr.symm (λd2 S1 w s1 v2 H1 al e2 ae I1 aj ah J=>?_) λx s' ⟨n,S2,e2,z⟩=>.of .refl z e2;refine Vp (X9r (Ev:=λ_ _=>False) I1 (λz=>ae (by rw[z];rfl)) (rd.mono J) rv ah aj) (λz s3 hz=>?_) λ_ _ z=>z.elim;obtain⟨d3,S3,e3,v3,H3,ak,J3,af,ac,ai,L⟩:=hz;exact Xba J3 hN hi hx af (λs4 I4=>⟨.nx (env.set k (yz d3)),S3,by rw[e2,e3];rfl,rfl,_,H3,ak,⟨I4,ai,(I1.er.mono L).set k ac⟩,J.trans L,λz=>nomatch z⟩) hf
  rcases l with⟨hk,hm⟩|⟨hk,c,hc,hcell⟩;·exact wpAny_loadName_local I.inv.ok.kind hk hn hm go
  ·rcases hk with hk|hk;·exact wpAny_loadName_cell I.inv.ok.kind hk hc hcell go
   ·rcases hx with k|k;·have:X.env.scope.names.lookup x=yz .free:=hk;rw[k]at this;cases this
    ·have:X.env.scope.names.lookup x=yz .free:=hk;rw[k]at this;cases this
 ·cases nb rfl
theorem X6e(hc:DT X c (λenv S=>tst (fc env S)))(hb:DSs X body na g):
  DS X (.While c body [] pos) yw (λenv S=>Yk (λenv S=>tst (fc env S)) g 100000 env S):=by
 intro pc s σ H ρ S env I nb;dsimp only at nb ⊢;have hp:PassesOwn (Vj X.prog X.w) X.A X.env (λ_ _=>False):=PassesOwn.never;generalize hn:100000=n0 at nb ⊢;generalize ac:Yk (λenv S=>tst (fc env S)) g n0 env S=r0 at nb ⊢;refine Vp (E:=λ_ _=>False) (wpAny_While (codeAny_whileLoop (λn s'=>∃ af H' ρ' S' aa,S0 X pc af H' s' ρ' S' aa/\Stp X.K ρ ρ' H H'/\Yk (λenv S=>tst (fc env S)) g n aa S'≠.bad/\Yk (λenv S=>tst (fc env S)) g n aa S'=r0) ?_ n0 ⟨σ,H,ρ,S,env,I,.refl,by rw[ac];exact nb,ac⟩)) (λ_ _ z=>z) λ_ _ z=>z.elim;rintro n s3 ⟨σ3,H3,ρ3,S3,env3,I3,st3,nb3,eq3⟩;cases n with
 |zero=>cases nb3 rfl|succ n=>
  simp only[Yk]at nb3 eq3;cases e4:tst (fc env3 S3) with
  |bad=>rw[e4]at nb3;cases nb3 rfl|ex m S4=>rw[e4]at nb3;cases nb3 rfl|ok t S4=>
   refine wpAny_passesOwn hp (hc.ok I3 e4 λs4 H4 aj I4 ab=>?_);rw[e4]at nb3 eq3;cases t with
   |false=>rw[iN0 Uu];exact Vgx ⟨.nx env3,S4,eq3.symm,rfl,σ3,H4,aj,I4,st3.trans ab,λz=>nomatch z⟩|true=>
    rw[iP0 rfl];dsimp only at nb3 eq3;cases e5:g env3 S4 with
    |bad=>rw[e5]at nb3;cases nb3 rfl|ex m S5=>rw[e5]at nb3;cases nb3 rfl|ok x5 S5=>
     rw[e5]at nb3 eq3;refine wpAny_passesOwn hp (hb.ok I4 e5 λfl s5 z5=>?_);cases x5 with
     |nx e=>obtain⟨rfl,J,H5,Y,I5,L,_⟩:=z5;exact⟨n,Vbu _,J,H5,Y,S5,e,I5,st3.trans (ab.trans L),nb3,eq3⟩|brk e=>obtain⟨rfl,J,H5,Y,I5,L⟩:=z5;exact⟨.nx e,S5,eq3.symm,rfl,J,H5,Y,I5,st3.trans (ab.trans L),λz=>nomatch z⟩|rt d=>obtain⟨u,v,J,H5,Y,rfl,J5,ah,ai,ae,L⟩:=z5;exact⟨.rt d,S5,eq3.symm,u,v,J,H5,Y,rfl,J5,ah,ai,ae,st3.trans (ab.trans L)⟩
end
def X6f(C:Addr)(h:Heap):Prop:=∃tl N nm qn bs hd sn sub ab J dd k0 k1 k2 Y k5 L,
 h.get? C=yz (excClassObj nm qn C N bs tl hd sn sub ab J dd k0 k1 k2 Y k5 "ValueError.__new__")/\h.Ns N L/\L "__init__"=yy/\OwnTail h bmV tl
theorem X1i{K:Ve}{h:Heap}{C:Addr}(L:K.In h)(J:Xm4 K C=yx):X6f C h:=by
 unfold Xm4 at J;cases lk:K.lookup C with
 |none=>rw[lk]at J;cases J|some o=>
  rw[lk]at J;dsimp only at J;cases Y:Xws o.data with
  |none=>rw[Y]at J;cases J|some cd=>rw[Y]at J;simp only[bA0,beq_iff_eq,Vbn]at J;obtain⟨⟨⟨⟨⟨⟨e0,e1⟩,e2⟩,e3⟩,e4⟩,e5⟩,e6⟩:=J;obtain⟨cl,af,dt,ac⟩:=o;obtain⟨nm,bs,aa,ns,qn,hd,sn,sub,ab,ah,ae⟩:=cd;dsimp only at e0 e1 e2 e3 e4 e5 e6 Y;obtain rfl:=X08 Y;obtain⟨tl,e7⟩:∃tl,aa=.ref C::tl:=⟨_,e1⟩;obtain⟨k0,k1,k2,k3,k5,e8⟩:∃k0 k1 k2 k3 k5,ac=#[k0,k1,k2,k3,yz (.builtin "ValueError.__new__"),k5]:=⟨_,_,_,_,_,e2⟩;clear e1 e2;subst e0 e3 e7 e8;exact⟨tl,_,_,_,_,_,_,_,_,_,_,_,_,_,_,_,_,L _ _ lk,.of_isNs (PySem.W.isNs_of_in L e5),PySem.W.nsMap_none_of_in L e5 e6,PySem.W.tail_of_in L e4⟩
theorem _root_.L2.Inv.newX(I:Inv X pc σ H s)(k:∀b u,s.heap.get? b=yz u->h'.get? b=yz u)(L:s.heap.get? a=yy)
  (new:ObjOk X.prog X.w (upd H a o) h' a o):Inv X pc σ (upd H a o) {s with heap:=h' }/\HOk X.prog X.w (upd H a o) h':=by
 have J:H a=none:=by
  cases z:H a with
  |none=>rfl|some w=>obtain⟨q,e⟩:=Xb3 (I.hok a w z);rw[L]at e;cases e
 have ne:∀b u,H b=yz u->b≠a:=λb u q=>Xj q J;have hok:HOk X.prog X.w (upd H a o) h':=λb u q=>by
  by_cases hb:b=a;·subst hb;rw[Xp]at q;cases q;exact new
  ·rw[Xe hb]at q;exact(I.hok b u q).stay (λc v _ e=>k c v e) (λc z=>by rw[Xe (ne c _ z)];exact z) λc xs _ z=>by rw[Xe (ne c _ z)];exact z
 refine⟨I.un (t':=s.toks) ⟨λb u e _ _ _=>k b u e,λb u e _ _ _=>⟨u.slots,k b u e⟩,λb u e n _=>?_,λb u e _=>⟨u,k b u e⟩,λb xs z=>by rw[Xe (ne b _ z)];exact z,λb u xs z=>by rw[Xe (ne b _ z)];exact z,λb ps z=>by rw[Xe (ne b _ z)];exact z⟩ hok,hok⟩;rw[Xe (λz=>by rw[z,L]at e;cases e)];exact n
section
variable{X:Cx}{pc:LA}{σ:L2.St}{H:Hp}{s:Vc}{ρ:LR}{S:Sto}{env:En}{e:Expr}{f:En->Sto->R D}{pos np cpos:Pos}
theorem X6g{c:Nat}{x:Str}{C:Addr}(hc:X.calm=yx)(hx:Xbj c=yz x)(hn:U1 X.K Uc x=yz (yz (.ref C)))(hq:Xm4 X.K C=yx)
  (hg:Gl X x) (ai:(x==("__debug__" : Str))=yw) (he:DE X e f) (ae:Ym e=yx):DS X (.Raise (yz (.Call (.Name x np) [e] [] cpos)) yy pos) yx (λenv S=>(f env S).bind λ_ S=>.ex (ll S) (S++[.exc c])):=by
 intro pc s σ H ρ S env I nb;dsimp only at nb ⊢;have hm:X.mg x=yz (.ref C):=Vc0 I.inv.mod.kin I.inv.mod.glob hn;have ah:Y9 X.K c=yz C:=by unfold Y9;rw[hx];simp only[V5,hn]
 obtain⟨tl,N,nm,qn,bs,hd,sn,sub,ab,ac,dd,k0,k1,k2,k3,k5,mN,hC,hN,ak,T⟩:=X1i I.inv.mod.kin hq;refine wpAny_Raise_call_subT (C:=C) (nm:=nm) (q:=qn) (N:=N) (bs:=bs) (bm:=tl) (hdct:=hd) (sn:=sn) (sub:=sub) (ab:=ab) (col:=ac) (dd:=dd) (k0:=k0) (k1:=k1) (k2:=k2) (k3:=k3) (k5:=k5)
  PySem.F.excBase_ValueError (mN:=mN) (T.hasType PySem.F.excBase_ValueError.hasBase) (I.inv.ok.hd hc) (by rw[Xv ae];rfl) ak (Xdo I.inv hg hm ⟨rfl,?_⟩ ai)
 rw[Xv ae];refine Vgz ?_;generalize hr:((f env S).bind λ_ S=>(R.ex (ll S) (S++[.exc c]):R Fl))=r at nb ⊢;refine Vci (he.bind I (by rw[hr];exact nb) hr.symm (λd S1 u s1 v H1 aj e1 al Y rv rd af=>Ver ?_) λy s' ⟨n,S2,z1,z2⟩=>⟨n,S2,σ,z1,λ_=>rfl,z2⟩);refine⟨rfl,by simp[V0],Y.inv.bk _ _ hC,hN.keeps Y.inv.bk,T.keeps Y.inv.bk,λh' a L=>?_⟩;obtain⟨t,h1,h2,h3⟩:=L.there;have aa:H1 a=none:=by
  cases z:H1 a with
  |none=>rfl|some w=>obtain⟨o,e⟩:=Xb3 (Y.inv.hok a w z);rw[L.new]at e;cases e
 have xo:ExcO C a h':=⟨_,_,_,h1,rfl,rfl,rfl,by simp⟩;obtain⟨J,hok⟩:=Y.inv.newX L.keeps L.new xo.ok;refine⟨(ll S1),S1++[.exc c],σ,e1,λ_=>rfl,_,aj++[a],a,c,J,rfl,?_,by simp,Y.sr.new1 (o:=.exc c) aa ⟨C,ah,Xp⟩,af.trans (Stp.new1 aa),.inl ⟨_,_,h1,rfl,rfl⟩⟩;rw[<-Y.sr.len];simp
end
noncomputable def inH(X:Cx)(a:Addr):Cx:={ X with A:=X.A.mark (yz (.ref a)),calm:=yw}
section
variable{X:Cx}{pc:LA}{σ:L2.St}{H:Hp}{s:Vc}{a:Addr}
theorem Inv.inH(I:Inv X pc σ H s)(a:Addr):Inv (inH X a) pc σ H s:=
 ⟨⟨I.ok.mod,I.ok.kind,I.ok.glob,I.ok.blt,I.ok.above,I.ok.inj,I.ok.has,I.ok.cab,(λz=>nomatch z),I.ok.frames,I.ok.stk,I.ok.exf,I.ok.bs,I.ok.bsz,I.ok.noex,I.ok.exfs,I.ok.funs,I.ok.frf⟩,I.os,I.bare,I.base,I.loc,I.cell,I.free,I.freeC,I.pin,I.hok,I.len⟩
theorem Inv.outH(I:Inv (Z.inH X a) pc σ H s)(ok:X.Ok):Inv X pc σ H s:=⟨ok,I.os,I.bare,I.base,I.loc,I.cell,I.free,I.freeC,I.pin,I.hok,I.len⟩
theorem Inv.goes(I:Inv X pc σ H s)(hl:X.env.scope.names.lookup n=yz .local)
  (h:∀s',Inv X pc (Vg σ.length yy) H s'->Q () s'):Vi M A (do bindName X.env n .none;unbindBehindTheSuite X.env n p) Q E s:=by
 obtain⟨m,hn,_⟩:=I.loc;refine wpAny_nameGoes hl hn (by rw[I.ok.kind];rfl) λh' m' aa sb=>h _ ?_;obtain⟨o,es,ep,ho,r⟩:=id hn;obtain⟨o',ab,ae,ac,r'⟩:=id aa;have J:∀b u,X.s₀.heap.get? b=yz u->b≠X.env.locals:=λb u e=>Up (V8 (Vy e) I.ok.above);have L:∀x c,X.env.cells.lookup x=yz c->∀v,s.heap.IsCell c v->h'.IsCell c v:=λx c e v ⟨u,hu,hd⟩=>⟨u,(sb.2 c (I.cne x c e)).trans hu,hd⟩;refine⟨I.ok,I.os,I.bare,⟨λb u e q hb Y=>(sb.2 b (J b u e)).trans (I.base.keep b u e q hb Y),λb u e q hb Y=>?_,I.base.free,λb u e Y=>?_,I.base.tups,I.base.frzs,I.base.tbls⟩,⟨m',aa,λi x v _ e2 _=>?_⟩,λx c e=>?_,I.free,I.freeC,λp hp=>?_,λb u q=>?_,by rw[Vgn];exact I.len⟩;·obtain⟨sl,z⟩:=I.base.slot b u e q hb Y;exact⟨sl,(sb.2 b (J b u e)).trans z⟩
 ·obtain⟨w,z⟩:=I.base.there b u e Y;exact⟨w,(sb.2 b (J b u e)).trans z⟩
 ·rw[Vc3]at e2;split at e2<;>cases e2
 ·obtain⟨v,z⟩:=I.cell x c e;exact⟨v,L x c e v z⟩
 ·obtain⟨e,n,ne,r⟩:=I.pin p hp;exact⟨(sb.2 _ ne).trans e,n,ne,r⟩
 ·have ne:∀c v,H c=yz v->c≠X.env.locals:=λc v z=>Xj z I.free;refine(I.hok b u q).stay (λc v hc e=>?_) (λ_ z=>z) λ_ _ _ z=>z;rcases hc with rfl|hc;·exact(sb.2 _ (ne _ _ q)).trans e
  ·exact(sb.2 _ (ne _ _ hc)).trans e
noncomputable def Xw2(c i:Nat)(g J:En->Sto->R Fl)(env:En)(S:Sto):R Fl:=match g env S with
 |.ex m S'=>match S'[m]? with
  |some (.exc c')=>if c==0||c==c' then
    match J (env.set i (yz (.ref m))) S' with
    |.ok (.rt d) S''=>.ok (.rt d) S''|_=>.bad
   else .bad|_=>.bad
 |r=>r
theorem X6h(hs:X.stack=X.env::X.outer)(hf:X.env.frame=yz X.env.locals)
  (hN:X.N.Nodup) (hi:X.N[i]?=yz n) (hl:X.env.scope.names.lookup n=yz .local) (hn:U1 X.K Uc x=yz (yz (.ref C0))) (hg:Gl X x) (am:(x==("__debug__" : Str))=yw)
  (hm:∀c' C,Y9 X.K c'=yz C->(c==0||c==c')=yx->PySem.W.exmOne X.K (.ref C) (.ref C0)=yz yx) (hb:DSs X body yx g) (hh:∀a,DSs (Z.inH X a) (b0::suite) na gh):
  DS X (.Try body [.ExceptHandler (yz (.Name x np)) (yz n) (b0::suite) hp] [] [] pos) yw (Xw2 c i g gh):=by
 intro pc s σ H ρ S env I L;unfold Xw2 at L ⊢;refine wpAny_Try_except ?_;cases q:g env S with
 |bad=>rw[q]at L;cases L rfl|ok y S1=>
  refine Vp (hb pc s σ H ρ S env I (by rw[q];exact λz=>nomatch z)) (λfl s1 z=>?_) λx s1 z=>?_
  ·rw[q]at z;have z':=z.pre (σ:=σ) (na':=yw) .refl λw=>nomatch w;obtain⟨y',S2,e,z2⟩:=z;cases e;cases y with
   |nx e=>obtain⟨rfl,_⟩:=z2;exact Vgx z'|brk e=>obtain⟨rfl,_⟩:=z2;exact z'|rt d=>obtain⟨u,v,aq,H',ρ',rfl,_⟩:=z2;exact z'
  obtain⟨k,S2,ay,e,_⟩:=z;rw[q]at e;cases e|ex m S1=>
  rw[q]at L;dsimp only at L ⊢;refine Vp (hb pc s σ H ρ S env I (by rw[q];exact λz=>nomatch z)) (λfl s1 z=>?_) λx1 s1 z=>?_;·obtain⟨y,S2,e,_⟩:=z;rw[q]at e;cases e
  obtain⟨m',S2,aq,e,ax,H1,af,a,c',J,rfl,al,hc,sr,st,fl⟩:=z;rw[q]at e;cases e;cases ax rfl;rw[hc]at L ⊢;dsimp only at L ⊢;have ak:(c==0||c==c')=true:=by
   cases z:(c==0||c==c') with
   |true=>rfl|false=>rw[z]at L;cases L rfl
  rw[iP0 ak]at L ⊢;obtain⟨d,S2,aa⟩:∃d S2,gh (env.set i (yz (.ref m))) S1=.ok (.rt d) S2:=by
   cases z:gh (env.set i (yz (.ref m))) S1 with
   |bad=>rw[z]at L;cases L rfl|ex _ _=>rw[z]at L;cases L rfl|ok y S2=>
    rw[z]at L;cases y with
    |rt d=>exact⟨d,S2,rfl⟩|nx _=>cases L rfl|brk _=>cases L rfl
  rw[aa];dsimp only;obtain⟨C,hC,ha⟩:=(show ∃C,Y9 X.K c'=yz C/\H1 a=yz (.ext (ExcO C a)) from sr.ob m a _ al hc);have aw:=hm c' C hC ak;have ai:∀(l:LR) (a0:Vb),Hid X H1 a s1.heap l->(∀b∈l,b≠a->b ∉ frs X.stack->Xi0 X pc b) ->
    ∀h2,Heap.HeldW (Vb4 s1.heap l) (X.env::X.outer) a (.ref C) a0 X.env.locals h2->s1.heap.UpToSlots h2 ->
    Vi (Vj X.prog X.w) X.A (setFlight (.ref a) yy) (λ_ s3=>Vi (Vj X.prog X.w) X.A (handleBy (.ref a) X.env [.ExceptHandler (yz (.Name x np)) (yz n) (b0::suite) hp])
     (OkS X pc σ ρ H yw (.ok (.rt d) S2)) (ExS X pc σ ρ H yw (.ok (.rt d) S2)) s3) (ExS X pc σ ρ H yw (.ok (.rt d) S2)) {s1 with heap:=h2}:=by
   intro l a0 hid Y h2 ae ab;have inv:∀ {h':Heap},Heap.FlyingW (Vb4 s1.heap l) (X.env::X.outer) a (.ref C) a0 h'->s1.heap.UpToSlots h'->Inv X pc σ H1 {s1 with heap:=h' }:=λ{h'} fw up=>by obtain⟨f1,_,_,oe,vs,T,oT,ts,t1,⟨t2,t3⟩,t4,t5,_⟩:=fw;exact Inv.fly J ha hid Y f1 up ⟨oe,vs,a0,t1,t2,t4,t3,(Vdp.mp t5).1⟩
   refine wpAny_landsW ae λh3 ac aj=>?_;have J3:=inv ac (ab.trans aj);obtain⟨ob,au,ah⟩:=ac.there;refine wpAny_handleBy_cons (codeAny_handlers_test (Xdo (Inv.inH J3 a) hg (Vc0 J.mod.kin J.mod.glob hn) ?_ am)) (by intro z;cases z);have LT:PySem.W.Looks (Vj X.prog X.w) h3 (typeOf (.ref a)) (.ref C):=ah▸(PySem.W.Looks.ld au).andThen .now;refine(PySem.W.exm_one J3.kIn LT aw).at ?_;refine codeAny_handlers_suite_as (lands_againW ac λh4 av ap=>?_);have J4:=inv av ((ab.trans aj).trans ap);refine Xba (X:=Z.inH X a) (v:=.ref a) (Inv.inH J4 a) hN hi (.inl hl) rfl (λs5 J5=>?_) (.inr hl);have er:ER X.K af H1 (env.set i (yz (.ref m))) (σ.set i (yz (.ref a))):=(I.er.mono st).set i (by simp only[RD];exact⟨a,rfl,al⟩);refine Vp (hh a pc s5 (σ.set i (yz (.ref a))) H1 af S1 (env.set i (yz (.ref m))) ⟨J5,sr,er⟩ (by rw[aa];exact λz=>nomatch z)) (λf6 s6 z=>?_) λy s6 z=>?_;·rw[aa]at z;obtain⟨y,S3,e,z⟩:=z;cases e;obtain⟨u,v,az,H6,an,rfl,J6,rv,rd,ao,ar⟩:=z;exact Inv.goes (Inv.outH J6 J.ok) hl λs7 J7=>⟨.rt d,S2,rfl,u,v,_,H6,an,rfl,J7,rv,rd,ao,st.trans ar⟩
   ·rw[aa]at z;obtain⟨_,_,_,e,_⟩:=z;cases e
  exact Xg4 J hs hf ha fl λl h2 a0 hid Y ae ab=>ai l a0 hid Y h2 ae ab
end
noncomputable def Xcb(sc:Ur):Va2:={scope:=sc,locals:=0,globals:=0,cells:=[]}
noncomputable def Xe5(b:Bool):Sem Bool->Bool
 |.pure c=>b==c|_=>yw
noncomputable def Xnc(l:Option LS):Sem (Option LS)->Bool
 |.pure m=>decide (l=m)|_=>yw
theorem Xcp(h:Xe5 b m=yx):m=pure b:=by
 cases m<;>first|exact ff h|skip
 simp only[Xe5,beq_iff_eq]at h;subst h;rfl
theorem Xjh(h:Xnc b m=yx):m=pure b:=by
 cases m<;>first|exact ff h|skip
 simp only[Xnc,decide_eq_true_eq]at h;subst h;rfl
theorem Xnd(v:Expr)(t:Option Expr)(l:Nat)(env:Va2):Vfy v t l env=Vfy v t l (Xcb env.scope):=rfl
theorem Xji(t v:Expr)(l:Nat)(env:Va2):Vdt [t] v l env=Vdt [t] v l (Xcb env.scope):=rfl
theorem Xjj(ts:LX)(v:Expr)(env:Va2):Vdu ts v env=Vdu ts v (Xcb env.scope):=rfl
theorem Xne(h:Xdr i=yx)(v:Vb):assign (.Subscript o i spos) env v=(do
   let ov <- holding [v] (eval o env)
   let iv <- holding [v,ov] (eval i env)
   standAt spos
   holding [v,ov,iv] (setItem ov iv v)
   release [v,ov,iv] []):=by
 cases i<;>first|rfl|cases h
noncomputable def X6i:Expr->Bool
 |.ListComp _ _ _ _=>yx|_=>yw
noncomputable def Xcj(N ps:LS)(sc:Ur):Bool:=Xre sc.kind && !sc.isCoroutine && !sc.isGenerator&&Xe0 N&&decide (N.take (ll ps)=ps)&&ps.all (λx=>match sc.names.lookup x with|some .local=>yx|some .cell=>yx|_=>yw)&&sc.names.all (λy=>match y.2 with|.free=>yw|_=>yx)
theorem Xnf(h:Xcj N ps sc=yx):FnScope N ps sc:=by
 simp only[Xcj,bA0,Vbn,decide_eq_true_eq]at h;obtain⟨⟨⟨⟨⟨⟨h1,h2⟩,L⟩,h4⟩,J⟩,Y⟩,h7⟩:=h;refine⟨Xjc h1,h2,L,Xe1 h4,J,λx hx=>?_,λy hy e=>?_⟩
 ·have:=Vab.mp Y x hx;split at this;·exact .inl (by assumption)
  ·exact .inr (by assumption)
  cases this
 have:=Vab.mp h7 y hy;rw[e]at this;cases this
noncomputable def Xng(s:Stmt):Option (LX×Expr×Pos):=match s with
 |.Assign ts v p=>yz (ts,v,p)|_=>yy
theorem Xf6(h:Xng s=yz z):s=.Assign z.1 z.2.1 z.2.2:=by
 cases s with
 |Assign _ _ _=>cases h;rfl|_=>exact ns h
noncomputable def X6j(s:Stmt):Option (Expr×Operator×Expr×Pos):=match s with
 |.AugAssign t o v p=>yz (t,o,v,p)|_=>yy
theorem X1j(h:X6j s=yz z):s=.AugAssign z.1 z.2.1 z.2.2.1 z.2.2.2:=by
 cases s with
 |AugAssign _ _ _ _=>cases h;rfl|_=>exact ns h
noncomputable def X6k(s:Stmt):Option (Expr×Pos):=match s with
 |.Expr v p=>yz (v,p)|_=>yy
theorem X1k(h:X6k s=yz z):s=.Expr z.1 z.2:=by
 cases s with
 |Expr _ _=>cases h;rfl|_=>exact ns h
noncomputable def Xw3(s:Stmt):Option (Option Expr):=match s with
 |.Return v _=>yz v|_=>yy
theorem Xpy(h:Xw3 s=yz z):∃p,s=.Return z p:=by
 cases s with
 |Return _ _=>cases h;exact⟨_,rfl⟩|_=>exact ns h
noncomputable def Xrn{α:Type}(l:List α):Option α:=match l with
 |[x]=>yz x|_=>yy
theorem Xnh{α:Type}{l:List α}{x:α}(h:Xrn l=yz x):l=[x]:=by
 match l with
 |[]=>cases h|[y]=>cases h;rfl|_::_::_=>cases h
noncomputable def vCk(e:Expr):Option (Expr×LX×List Keyword):=match e with
 |.Call f a k _=>yz (f,a,k)|_=>yy
theorem X6l{e:Expr}{z:Expr×LX×List Keyword}(h:vCk e=yz z):∃p,e=.Call z.1 z.2.1 z.2.2 p:=by
 cases e with
 |Call _ _ _ _=>cases h;exact⟨_,rfl⟩|_=>exact ns h
noncomputable def X6m(e:Expr):Option (Ved×Expr×Ur):=match e with
 |.Lambda a b sc _=>yz (a,b,sc)|_=>yy
theorem X1l{e:Expr}{z:Ved×Expr×Ur}(h:X6m e=yz z):∃p,e=.Lambda z.1 z.2.1 z.2.2 p:=by
 cases e with
 |Lambda _ _ _ _=>cases h;exact⟨_,rfl⟩|_=>exact ns h
noncomputable def Xw4(a:Ved):Option Arg:=if a.posonlyargs.isEmpty&&a.vararg.isNone&&a.kwonlyargs.isEmpty&&a.kw_defaults.isEmpty&&a.kwarg.isNone&&a.defaults.isEmpty then Xrn a.args else yy
theorem X1m{a:Ved}{z:Arg}(h:Xw4 a=yz z):a=⟨[],[z],yy,[],[],yy,[]⟩:=by
 obtain⟨p,q,r,s,t,u,v⟩:=a;unfold Xw4 at h;by_cases c:(p.isEmpty&&r.isNone&&s.isEmpty&&t.isEmpty&&u.isNone&&v.isEmpty)=yx;·rw[iP0 c]at h;simp only[bA0,Vbh,Vh3]at c;obtain⟨⟨⟨⟨⟨rfl,rfl⟩,rfl⟩,rfl⟩,rfl⟩,rfl⟩:=c;rw[Xnh (l:=q) h]
 ·rw[iN0 c]at h;cases h
noncomputable def Xw5(e:Expr):Option (Str×Expr×Str×Str×Str×Expr×Ur):=(vCk e).bind λc=>(vNm c.1).bind λf=>(Xrn c.2.1).bind λa=>(Xrn c.2.2).bind λw=>w.arg.bind λk=>(X6m w.value).bind λl=>(Xw4 l.1).bind λz=>(Xe3 l.2.1).bind λy=>(vNm y.1).bind λn=>yz (f,a,k,z.arg,n,y.2,l.2.2)
theorem X1n{e:Expr}{f k x y:Str}{a i:Expr}{sc:Ur}(h:Xw5 e=yz (f,a,k,x,y,i,sc)):∃p0 an p1 p2 Y J kp cp,e=.Call (.Name f p0) [a] [⟨yz k,.Lambda ⟨[],[⟨x,an,p1⟩],yy,[],[],yy,[]⟩ (.Subscript (.Name y p2) i Y) sc J,kp⟩] cp:=by obtain⟨c,e1,h⟩:=Vaf.mp h;obtain⟨f',e2,h⟩:=Vaf.mp h;obtain⟨a',e3,h⟩:=Vaf.mp h;obtain⟨w,e4,h⟩:=Vaf.mp h;obtain⟨k',L,h⟩:=Vaf.mp h;obtain⟨l,e6,h⟩:=Vaf.mp h;obtain⟨z,e7,h⟩:=Vaf.mp h;obtain⟨u,e8,h⟩:=Vaf.mp h;obtain⟨n',e9,h⟩:=Vaf.mp h;have h:=Uw h;have d1:f'=f:=congrArg (·.1) h;have d2:a'=a:=congrArg (·.2.1) h;have d3:k'=k:=congrArg (·.2.2.1) h;have d4:z.arg=x:=congrArg (·.2.2.2.1) h;have d5:n'=y:=congrArg (·.2.2.2.2.1) h;have d6:u.2=i:=congrArg (·.2.2.2.2.2.1) h;have d7:l.2.2=sc:=congrArg (·.2.2.2.2.2.2) h;obtain⟨cp,g1⟩:=X6l e1;obtain⟨p0,g2⟩:=Xar e2;obtain⟨J,g3⟩:=X1l e6;obtain⟨Y,g5⟩:=Xco e8;obtain⟨p2,g6⟩:=Xar e9;obtain⟨wk,wv,kp⟩:=w;obtain⟨z1,z2,z3⟩:=z;have L:wk=yz k':=L;have g3:wv=.Lambda l.1 l.2.1 l.2.2 J:=g3;have d4:z1=x:=d4;refine⟨p0,z2,z3,p2,Y,J,kp,cp,?_⟩;rw[g1,g2,Xnh e3,Xnh e4,L,g3,X1m e7,g5,g6,d1,d2,d3,d4,d5,d6,d7]
noncomputable def X6n(s:Stmt):Option (Expr×LM×LM):=match s with
 |.If c a b _=>yz (c,a,b)|_=>yy
theorem X1o{s:Stmt}{z:Expr×LM×LM}(h:X6n s=yz z):∃p,s=.If z.1 z.2.1 z.2.2 p:=by
 cases s with
 |If _ _ _ _=>cases h;exact⟨_,rfl⟩|_=>exact ns h
noncomputable def X6o(s:Stmt):Option (Expr×Expr×LM×LM):=match s with
 |.For t i b J _=>yz (t,i,b,J)|_=>yy
theorem X1p(h:X6o s=yz z):∃p,s=.For z.1 z.2.1 z.2.2.1 z.2.2.2 p:=by
 cases s with
 |For _ _ _ _ _=>cases h;exact⟨_,rfl⟩|_=>exact ns h
noncomputable def X6p(s:Stmt):Option (Expr×LM×LM):=match s with
 |.While c b J _=>yz (c,b,J)|_=>yy
theorem X1q(h:X6p s=yz z):∃p,s=.While z.1 z.2.1 z.2.2 p:=by
 cases s with
 |While _ _ _ _=>cases h;exact⟨_,rfl⟩|_=>exact ns h
noncomputable def X6q(s:Stmt):Option (Option Expr×Option Expr):=match s with
 |.Raise v w _=>yz (v,w)|_=>yy
theorem X1r(h:X6q s=yz z):∃p,s=.Raise z.1 z.2 p:=by
 cases s with
 |Raise _ _ _=>cases h;exact⟨_,rfl⟩|_=>exact ns h
noncomputable def X6r(s:Stmt):Option (LM×List ExceptHandler×LM×LM):=match s with
 |.Try b hs J fb _=>yz (b,hs,J,fb)|_=>yy
theorem X1s(h:X6r s=yz z):∃p,s=.Try z.1 z.2.1 z.2.2.1 z.2.2.2 p:=by
 cases s with
 |Try _ _ _ _ _=>cases h;exact⟨_,rfl⟩|_=>exact ns h
noncomputable def X6s(h:ExceptHandler):Option (Expr×Str×Stmt×LM):=match h with
 |.ExceptHandler (yz e) (yz n) (b::su) _=>yz (e,n,b,su)|_=>yy
theorem X1t(q:X6s h=yz z):∃p,h=.ExceptHandler (yz z.1) (yz z.2.1) (z.2.2.1::z.2.2.2) p:=by
 cases h with
 |ExceptHandler e n b p=>
  cases e with
  |none=>exact ns q|some e=>
   cases n with
   |none=>exact ns q|some n=>
    cases b with
    |nil=>exact ns q|cons b J=>cases q;exact⟨_,rfl⟩
noncomputable def Xni(s:Stmt):Nat:=match s with
 |.Pass _=>1|.Break _=>2|.Continue _=>3|_=>0
theorem vEnd_ok:(Xni s=1->∃p,s=.Pass p)/\(Xni s=2->∃p,s=.Break p)/\(Xni s=3->∃p,s=.Continue p):=by
 unfold Xni;split;·exact⟨λ_=>⟨_,rfl⟩,λz=>(nomatch z),λz=>(nomatch z)⟩
 ·exact⟨λz=>(nomatch z),λ_=>⟨_,rfl⟩,λz=>(nomatch z)⟩
 ·exact⟨λz=>(nomatch z),λz=>(nomatch z),λ_=>⟨_,rfl⟩⟩
 exact⟨λz=>(nomatch z),λz=>(nomatch z),λz=>(nomatch z)⟩
section
variable(cm:Bool)(fns:LF)(gns:LS)(sc:Ur)(N:LS)
noncomputable def X6t(i:Nat)(e:Ex)(v:Expr)(p:Pos)(ts:LX):Bool:=(Xdk ts).any λt=>(vNm t).any λx=>decide (N[i]?=yz x)&&Xi9 (λ_=>yx) sc x&&mt cm fns gns sc N e v&&(Xe5 yw (Vfy v (yz t) p.line (Xcb sc))||(X6i v&&Xda (sc.names.lookup x)&&Xe5 yx (Vfy v (yz t) p.line (Xcb sc))))
noncomputable def Xze(J:LN)(e:Ex)(v:Expr)(p:Pos)(ts:LX):Bool:=(Xdk ts).any λt=>cm&&mtT (λ_=>yx) sc N (.tup J) t&&mt cm fns gns sc N e v&&Xe5 yw (Vdt [t] v p.line (Xcb sc))&&Xnc yy (Vdu [t] v (Xcb sc))
noncomputable def X9s(es:Exs)(p:Pos)(i j:Nat)(a b x y t v:Expr):Bool:=(vNm x).any λJ=>(vNm y).any λL=>cm&&decide (N[i]?=yz J)&&decide (N[j]?=yz L)&&decide (i≠j)&&Xda (sc.names.lookup J)&&Xda (sc.names.lookup L)&&mts cm fns gns sc N es [a,b] &&
   Xnc (yz [J,L]) (Vdu [t] v (Xcb sc))&&Xe5 yw (Vdt [t] v p.line (Xcb sc))
noncomputable def X6u(es:Exs)(p:Pos)(J:LN)(ts:LX)(v:Expr):Bool:=(Xdk ts).any λt=>(Xm2 t).any λL=>(Xm2 v).any λvs=>(Xg8 J).any λi=>(Xg8 L).any λx=>(Xg8 vs).any λa=>X9s cm fns gns sc N es p i.1 i.2 a.1 a.2 x.1 x.2 t v
noncomputable def Xzf(o i e:Ex)(v:Expr)(p:Pos)(ts:LX):Bool:=(Xdk ts).any λt=>(Xe3 t).any λz=>Xdr z.2&&mt cm fns gns sc N o z.1&&mt cm fns gns sc N i z.2&&mt cm fns gns sc N e v&&Xe5 yw (Vdt [t] v p.line (Xcb sc))&&Xnc yy (Vdu [t] v (Xcb sc))
noncomputable def X6v(i:Nat)(t:Expr):Bool:=(vNm t).any λx=>decide (N[i]?=yz x)&&Xi9 (λ_=>yx) sc x
noncomputable def Xw6(e:Ex)(w:Str×Expr×Str×Str×Str×Expr×Ur):Bool:=cm&&decide (w.1="sorted")&&glB sc w.1&&decide (w.2.2.1="key")&&Ym w.2.1&&mt cm fns gns sc N e w.2.1&&decide (w.2.2.2.2.1=w.2.2.2.1)&&Xay w.2.2.2.1&&Xm0 w.2.2.2.2.2.2 w.2.2.2.1&&Xcj [w.2.2.2.1] [w.2.2.2.1] w.2.2.2.2.2.2&&Xh2 w.2.2.2.2.2.2&&Xjd 1 yy w.2.2.2.2.2.1&&mks.any λm=>decide (N.getLast?=yz (Xan m))
noncomputable def Xw7(c:Nat)(e:Ex)(v w:Option Expr):Bool:=w.isNone&&v.any λr=>(Xbc r).any λz=>(vNm z.1).any λx=>decide (Xbj c=yz x)&&glB sc x&&Xay x&&Ym z.2.1&&z.2.2.1.isEmpty&&mt cm fns gns sc N e z.2.1
mutual
noncomputable def mtS(cm:Bool):St->Stmt->Bool
 |.nev,_=>yx|.asg (.var i) e,st=>(Xng st).any λz=>X6t cm fns gns sc N i e z.2.1 z.2.2 z.1|.asg (.tup is) e,st=>(Xng st).any λz=>Xze cm fns gns sc N is e z.2.1 z.2.2 z.1|.par is es,st=>(Xng st).any λz=>X6u cm fns gns sc N es z.2.2 is z.1 z.2.1|.aset o i e,st=>(Xng st).any λz=>Xzf cm fns gns sc N o i e z.2.1 z.2.2 z.1|.aug i op e,st=>(X6j st).any λz=>X6v sc N i z.1&&Xrb op z.2.1&&mt cm fns gns sc N e z.2.2.1|.expr e,st=>(X6k st).any λz=>Xe5 yw (Vfy z.1 yy z.2.line (Xcb sc))&&mt cm fns gns sc N e z.1|.ret e,st=>(Xw3 st).any λz=>z.any λv=>mt cm fns gns sc N e v|.rsk e m,st=>(Xw3 st).any λz=>z.any λv=>(Xe3 v).any λy=>(Xri y.2).any λq=>mto cm fns gns sc N .none q.1&&mto cm fns gns sc N (.some m) q.2&&(Xw5 y.1).any λw=>Xw6 cm fns gns sc N e w|.ite c a b,st=>(X6n st).any λz=>mt cm fns gns sc N c z.1&&mtSs cm a z.2.1&&mtSs cm b z.2.2|.for t it b,st=>(X6o st).any λz=>cm&&z.2.2.2.isEmpty&&Xb1 z.2.1&&mtT (λ_=>yx) sc N t z.1&&mtI cm fns gns sc N it z.2.1&&mtSs cm b z.2.2.1&&Xe2 t it|.whl c b,st=>(X6p st).any λz=>z.2.2.isEmpty&&mt cm fns gns sc N c z.1&&mtSs cm b z.2.1|.rse c e,st=>(X6q st).any λz=>cm&&Xw7 cm fns gns sc N c e z.1 z.2|.try b c i h,st=>(X6r st).any λz=>(Xdk z.2.1).any λy=>(X6s y).any λq=>(vNm q.1).any λx=>z.2.2.1.isEmpty&&z.2.2.2.isEmpty&&nasgs b&&decide (Xbj c=yz x)&&glB sc x&&Xay x&&decide (N[i]?=yz q.2.1)&&Xda (sc.names.lookup q.2.1)&&mtSs cm b z.1&&mtSs yw h (q.2.2.1::q.2.2.2)|.brk,st=>Xni st==2
noncomputable def mtSs(cm:Bool):Sts->LM->Bool
 |.nil,[]=>yx|.cons s ss,x::xs=>mtS cm s x&&mtSs cm ss xs|_,_=>yw
end
end
theorem Xeg(h:Xda k=yx):k=yz .local:=by
 unfold Xda at h;split at h;·rfl
 ·cases h
section
variable{F:Fn}{G:LD}{cm:Bool}{fns:LF}{gns:LS}{X:Cx}
theorem DS.congr{st:Stmt}{na:Bool}{f g:En->Sto->R Fl}(h:DS X st na f)(q:∀env S,g env S=f env S):DS X st na g:=by have:g=f:=funext λenv=>funext λS=>q env S;rw[this];exact h
theorem DSs.congr{st:LM}{na:Bool}{f g:En->Sto->R Fl}(h:DSs X st na f)(q:∀env S,g env S=f env S):DSs X st na g:=by have:g=f:=funext λenv=>funext λS=>q env S;rw[this];exact h
theorem X6w{st:Stmt}{na:Bool}:DS X st na (exe F G .nev):=λ_ _ _ _ _ _ _ _ J=>aB0 (by simp only[exe]) J
structure TopOk(cm:Bool)(F:Fn)(G:LD)(fns:LF)(gns:LS)(X:Cx)(sc:Ur)(N:LS):Prop where
 hN:X.N=N
 hs:X.env.scope=sc
 nd:N.Nodup
 fn:∀x,X.fn x=yx
 pf:PF cm F G fns gns X
 stk:X.stack=X.env::X.outer
 frm:X.env.frame=yz X.env.locals
 lam:∀m∈mks,N.getLast?=yz (Xan m)->LamAt X m
theorem TopOk.inH(T:TopOk cm F G fns gns X sc N)(a:Addr):TopOk yw F G fns gns (Z.inH X a) sc N:=
 ⟨T.hN,T.hs,T.nd,T.fn,⟨T.pf.blt,λf nm J fl h hf=>by
  obtain⟨g,fd,ps,k,c1,Y,r⟩:=T.pf.fn f nm J fl h (λz=>nomatch (hf z));refine⟨g,fd,ps,k,c1,?_,r⟩;cases fl with
  |true=>exact nomatch (hf rfl)
  |false=>exact Y.mark,T.pf.glb,T.pf.clf,T.pf.units,T.pf.gd,(λz=>nomatch z),T.pf.err⟩,T.stk,T.frm,λm L h=>let l:=T.lam m L h;⟨l.qual,l.dep,l.cod,l.blt⟩⟩
variable{sc:Ur}{N:LS}
noncomputable def isC:Ex->Bool
 |.nev=>yx|.cmr _ _ _ _=>yx|_=>yw
theorem X9t(L:X6i v=yx)(J:isC e=yw)(h:mt cm fns gns sc N e v=yx):False:=by
 cases v with
 |ListComp Y gens scope cp=>
  cases e with
  |nev=>cases J|cmr _ _ _ _=>cases J|_=>exact ff h
 |_=>exact ff L
theorem Xw8{i:Nat}{e:Ex}{ts:LX}(T:TopOk cm F G fns gns X sc N)(h:X6t cm fns gns sc N i e v p ts=yx):DS X (.Assign ts v p) yw (exe F G (.asg (.var i) e)):=by
 obtain⟨t,k1,aa⟩:=Xd h;obtain⟨x,k2,ab⟩:=Xd aa;clear h aa;have h:=ab;clear ab;have k3:=Xbh k1;obtain⟨py,k4⟩:=Xar k2;subst k4 k3
 ·rw[bA0,bA0,bA0,decide_eq_true_eq,Vb6,bA0,bA0]at h;obtain⟨⟨⟨h1,h2⟩,h3⟩,L⟩:=h;obtain⟨l1,l2⟩:=Xf2 (X:=X) T.hs (λx _=>T.fn x) h2;have ac:=(snd e X sc N v T.hN T.hs T.pf h3).1;have hN:=T.hN;have hs:=T.hs;subst hN hs;rcases L with L|⟨⟨L,h5⟩,h6⟩;·have hw:=Xcp L;rw[<-Xnd]at hw;exact(X4o T.nd h1 l1 l2 ac hw).congr λenv S=>by simp only[exe]<;>rfl
  ·have hw:=Xcp h6;rw[<-Xnd]at hw;cases e with
   |nev=>exact λ_ _ _ _ _ _ _ _ nb=>aB0 (by simp only[exe,ev,R.bind_bad]) nb|cmr k n gs elt=>
    obtain⟨ee,gens,scope,cp,rfl,m0,m1,m2,m3,m4,m5⟩:=Xts h3;subst m1 m2;have so:=Xtq m3;have J:=T.pf.calm m0;obtain⟨c⟩:=Xpx (p:=cp) rfl rfl T.pf J so (sndg gs X _ _ _ _ gens rfl rfl T.pf m4) (λY y1 y2 y3=>(snd elt Y _ _ ee y1 y2 y3 m5).1);refine(X0p (py:=py) (spos:=p) T.nd h1 (Xeg h5) hw J so rfl c.hg c.hi c.hs c.hG c.hT c.hB).congr λenv S=>?_;simp only[exe];have:=congrFun (congrFun c.eq env) S;rw[this]
    all_goals rfl|_=>exact(X9t L rfl h3).elim
theorem Xw9{is:LN}{e:Ex}{ts:LX}(T:TopOk cm F G fns gns X sc N)(h:Xze cm fns gns sc N is e v p ts=yx):DS X (.Assign ts v p) yw (exe F G (.asg (.tup is) e)):=by obtain⟨t,k1,J⟩:=Xd h;clear h;have h:=J;clear J;have k3:=Xbh k1;subst k3;·rw[bA0,bA0,bA0,bA0]at h;obtain⟨⟨⟨⟨h0,h1⟩,h2⟩,h3⟩,h4⟩:=h;have L:=h1;simp only[mtT]at L;obtain⟨ab,q1,_⟩:=Xd L;obtain⟨ae,ac,q2⟩:=Xcn q1;subst q2;have aa:=(snd e X sc N v T.hN T.hs T.pf h2).1;have hg:=dgB (top:=λ_=>yx) T.hN T.hs T.nd (λ_=>T.pf.calm h0) (λx _=>T.fn x) h1;have w1:=Xcp h3;have Y:=Xjh h4;rw[<-T.hs]at w1 Y;rw[<-Xji]at w1;rw[<-Xjj]at Y;exact(X6b aa hg w1 Y rfl).congr λenv S=>by simp only[exe]<;>rfl
theorem X1u{is:LN}{es:Exs}{ts:LX}(T:TopOk cm F G fns gns X sc N)(h:X6u cm fns gns sc N es p is ts v=yx):DS X (.Assign ts v p) yw (exe F G (.par is es)):=by
 obtain⟨t,k1,J⟩:=Xd h;clear h;have h:=J;clear J;obtain⟨tn,k2,J⟩:=Xd h;clear h;have h:=J;clear J;obtain⟨vs,k3,J⟩:=Xd h;clear h;have h:=J;clear J;have e1:=Xbh k1;obtain⟨kt,pt,e2⟩:=Xcn k2;obtain⟨kv,pv,e3⟩:=Xcn k3;subst e1 e2 e3;obtain⟨⟨i,j⟩,k4,J⟩:=Xd h;clear h;have h:=J;clear J;obtain⟨⟨x,y⟩,k5,J⟩:=Xd h;clear h;have h:=J;clear J;obtain⟨⟨a,b⟩,k6,J⟩:=Xd h;clear h;have h:=J;clear J;have e4:=Xds k4;have e5:=Xds k5;have e6:=Xds k6;subst e4 e5 e6;obtain⟨xn,k7,J⟩:=Xd h;clear h;have h:=J;clear J;obtain⟨yn,k8,J⟩:=Xd h;clear h;have h:=J;clear J;obtain⟨px,e7⟩:=Xar k7;obtain⟨py,Y⟩:=Xar k8;dsimp only at e7 Y;subst e7 Y
 iterate 8 rw[bA0]at h
 obtain⟨⟨⟨⟨⟨⟨⟨⟨h0,h1⟩,h2⟩,h3⟩,h4⟩,h5⟩,h6⟩,h7⟩,h8⟩:=h;have L:=snds es X sc N _ T.hN T.hs T.pf h6;have hN:=T.hN;have hs:=T.hs;subst hN hs;have w1:=Xcp h8;have w2:=Xjh h7;rw[<-Xji]at w1;rw[<-Xjj]at w2;exact(X1g (T.pf.calm h0) T.nd (oD0 h1) (oD0 h2) (oD0 h3) (Xeg h4) (Xeg h5) L w2 w1).congr λenv S=>by simp only[exe]
theorem Xxa{o i e:Ex}{ts:LX}(T:TopOk cm F G fns gns X sc N)(h:Xzf cm fns gns sc N o i e v p ts=yx):DS X (.Assign ts v p) yw (exe F G (.aset o i e)):=by
 obtain⟨t,k1,J⟩:=Xd h;obtain⟨⟨ox,ix⟩,k2,L⟩:=Xd J;clear h J;have h:=L;clear L;have k3:=Xbh k1;obtain⟨sp,k4⟩:=Xco k2;dsimp only at k4;subst k4 k3
 ·iterate 5 rw[bA0]at h
  obtain⟨⟨⟨⟨⟨h1,h2⟩,h3⟩,h4⟩,h5⟩,h6⟩:=h;have w1:=Xcp h5;have Y:=Xjh h6;rw[<-T.hs]at w1 Y;rw[<-Xji]at w1;rw[<-Xjj]at Y;exact((X1h (by have:=T.pf.units;omega) (snd e X sc N v T.hN T.hs T.pf h4).1 (snd o X sc N _ T.hN T.hs T.pf h2).1 (snd i X sc N _ T.hN T.hs T.pf h3).1 w1 Y (Xne h1)).weak (na2:=yw) λz=>nomatch z).congr λenv S=>by simp only[exe]
theorem X1v{i:Nat}{op:Bo}{e:Ex}{o:Operator}(T:TopOk cm F G fns gns X sc N)(h:(X6v sc N i t&&Xrb op o&&mt cm fns gns sc N e v)=yx):DS X (.AugAssign t o v p) yw (exe F G (.aug i op e)):=by simp only[bA0]at h;obtain⟨⟨h1,h2⟩,Y⟩:=h;obtain⟨x,k1,L⟩:=Xd h1;clear h1;have h1:=L;clear L;obtain⟨px,k2⟩:=Xar k1;subst k2;have e1:=Xpq h2;subst e1;·rw[bA0,decide_eq_true_eq]at h1;obtain⟨l1,l2⟩:=Xf2 (X:=X) T.hs (λx _=>T.fn x) h1.2;have J:=(snd e X sc N v T.hN T.hs T.pf Y).1;have hN:=T.hN;have hs:=T.hs;subst hN hs;exact(X6d T.nd h1.1 l1 l2 J).congr λenv S=>by simp only[exe]<;>rfl
theorem X1w{e:Ex}{v:Option Expr}(T:TopOk cm F G fns gns X sc N)(h:(v.any λv=>mt cm fns gns sc N e v)=yx):DS X (.Return v p) yx (exe F G (.ret e)):=by obtain⟨v,rfl,h⟩:=Xd h;exact(Xs4 (snd e X sc N v T.hN T.hs T.pf h).1).congr λenv S=>by simp only[exe]
theorem X1x{e m:Ex}{v:Option Expr}(T:TopOk cm F G fns gns X sc N)(h:(v.any λv=>(Xe3 v).any λy=>(Xri y.2).any λq=>mto cm fns gns sc N .none q.1&&mto cm fns gns sc N (.some m) q.2&&(Xw5 y.1).any λw=>Xw6 cm fns gns sc N e w)=yx):DS X (.Return v p) yx (exe F G (.rsk e m)):=by
 obtain⟨v,rfl,g1⟩:=Xd h;clear h;obtain⟨y,h1,g2⟩:=Xd g1;obtain⟨q,h2,g3⟩:=Xd g2;clear g1 g2;rw[bA0,bA0]at g3;obtain⟨⟨h3,h4⟩,g4⟩:=g3;obtain⟨⟨f,a,k,x,z,i,ab⟩,h5,h⟩:=Xd g4;clear g4;unfold Xw6 at h;dsimp only at h
 iterate 12 rw[bA0]at h
 obtain⟨⟨⟨⟨⟨⟨⟨⟨⟨⟨⟨⟨m1,m2⟩,m3⟩,m4⟩,m5⟩,m6⟩,m7⟩,m8⟩,m9⟩,Y⟩,L⟩,J⟩,aa⟩:=h;have n2:=oD0 m2;have n4:=oD0 m4;have n7:=oD0 m7;subst n2 n4 n7;obtain⟨p1,e1⟩:=Xco h1;obtain⟨p2,e2⟩:=Xps h2;obtain⟨p0,an,q1,q2,q3,lp,kp,cp,e3⟩:=X1n h5;obtain⟨o1,o2,_⟩:=Xa4 m8;obtain⟨nm,hm,hn⟩:=List.any_eq_true.mp aa;have hl:=T.lam nm hm (oD0 hn);rw[e1,e2,e3];exact(Xs4 (Xzc (X9p T.pf.units (T.pf.calm m1) hl (Xaq T.hs m3) (T.pf.blt _ (by decide)) (snd e X sc N a T.hN T.hs T.pf m6).1 (Xv m5) (Xnf Y) L (Xpp m9) o1 o2 J) (sndo .none X sc N _ T.hN T.hs T.pf h3) (sndo (.some m) X sc N _ T.hN T.hs T.pf h4))).congr λenv S=>by simp only[exe]<;>rfl
theorem X1y{c:Nat}{e:Ex}{v w:Option Expr}(T:TopOk cm F G fns gns X sc N)(h0:cm=yx)(h:Xw7 cm fns gns sc N c e v w=yx):DS X (.Raise v w p) yx (exe F G (.rse c e)):=by
 unfold Xw7 at h;rw[bA0]at h;obtain⟨hw,h⟩:=h;cases w with
 |some _=>cases hw|none=>
  obtain⟨r,er,hq⟩:=Xd h;obtain⟨x,px,y,ys,cp,L,J⟩:=Xcx hq;clear h hq;have h:=J;clear J;subst L er
  iterate 5 rw[bA0]at h
  obtain⟨⟨⟨⟨⟨h1,h2⟩,h3⟩,h4⟩,h6⟩,h5⟩:=h;have h1:=oD0 h1;have Y:=Vbh.mp h6;dsimp only at Y;subst Y;obtain⟨C,k1,k2⟩:=T.pf.err.at_ c x h1;exact(X6g (T.pf.calm h0) h1 k2 (T.pf.err.cls c C k1).1 (Xaq T.hs h2) (Xa4 h3).1 (snd e X sc N y T.hN T.hs T.pf h5).1 h4).congr λenv S=>by simp only[exe]
mutual
theorem Ybd{cm:Bool}{X:Cx}:∀(x:St) (st:Stmt),TopOk cm F G fns gns X sc N->mtS fns gns sc N cm x st=yx->DS X st (X4e x) (exe F G x)
 |.nev=>λst T h=>X6w|.asg (.var i) e=>λst T h=>by obtain⟨z,h1,J⟩:=Xd h;clear h;have h:=J;clear J;rw[Xf6 h1];exact Xw8 T h|.asg (.tup is) e=>λst T h=>by obtain⟨z,h1,J⟩:=Xd h;clear h;have h:=J;clear J;rw[Xf6 h1];exact Xw9 T h|.par is es=>λst T h=>by obtain⟨z,h1,J⟩:=Xd h;clear h;have h:=J;clear J;rw[Xf6 h1];exact X1u T h|.aset o i e=>λst T h=>by obtain⟨z,h1,J⟩:=Xd h;clear h;have h:=J;clear J;rw[Xf6 h1];exact Xxa T h|.aug i op e=>λst T h=>by obtain⟨z,h1,J⟩:=Xd h;clear h;have h:=J;clear J;rw[X1j h1];exact X1v T h|.expr e=>λst T h=>by obtain⟨z,h1,J⟩:=Xd h;clear h;have h:=J;clear J;rw[X1k h1];rw[bA0]at h;have w1:=Xcp h.1;rw[<-T.hs,<-Xnd]at w1;exact(X0d (snd e X sc N z.1 T.hN T.hs T.pf h.2).1 w1).congr λenv S=>by simp only[exe]|.ret e=>λst T h=>by obtain⟨z,h1,J⟩:=Xd h;clear h;have h:=J;clear J;obtain⟨p,rfl⟩:=Xpy h1;exact X1w T h|.rsk e m=>λst T h=>by obtain⟨z,h1,J⟩:=Xd h;obtain⟨p,rfl⟩:=Xpy h1;exact(X1x T J).weak λz=>nomatch z|.ite c a b=>λst T h=>by obtain⟨z,h1,J⟩:=Xd h;clear h;have h:=J;clear J;obtain⟨p,rfl⟩:=X1o h1;rw[bA0,bA0]at h;exact(X84 (snd c X sc N z.1 T.hN T.hs T.pf h.1.1).2 (sndSs a z.2.1 T h.1.2) (sndSs b z.2.2 T h.2)).congr λenv S=>by simp only[exe]<;>rfl|.for t it b=>λst T h=>by
  obtain⟨⟨tg,iter,body,oe⟩,h1,J⟩:=Xd h;clear h;have h:=J;clear J;obtain⟨p,rfl⟩:=X1p h1
  iterate 6 rw[bA0]at h
  obtain⟨⟨⟨⟨⟨⟨h0,h1⟩,h2⟩,h3⟩,h4⟩,h5⟩,h6⟩:=h;have L:=Vbh.mp h1;dsimp only at L;subst L;have hg:=dgB (top:=λ_=>yx) T.hN T.hs T.nd (λ_=>T.pf.calm h0) (λx _=>T.fn x) h3;exact(X4y T.stk T.frm (T.pf.calm h0) (Xrm it X sc N tg iter T.hN T.hs T.pf (Xh3 h6 h3) h4) hg (sndSs b body T h5) (Xef h2)).congr λenv S=>by simp only[exe]|.whl c b=>λst T h=>by obtain⟨⟨cx,body,oe⟩,h1,J⟩:=Xd h;clear h;have h:=J;clear J;obtain⟨p,rfl⟩:=X1q h1;rw[bA0,bA0]at h;obtain⟨⟨h1,h2⟩,h3⟩:=h;have L:=Vbh.mp h1;dsimp only at L;subst L;exact(X6e (snd c X sc N cx T.hN T.hs T.pf h2).2 (sndSs b body T h3)).congr λenv S=>by simp only[exe]<;>rfl|.rse c e=>λst T h=>by obtain⟨z,h1,J⟩:=Xd h;clear h;have h:=J;clear J;obtain⟨p,rfl⟩:=X1r h1;rw[bA0]at h;exact X1y T h.1 h.2|.try b c i hd=>λst T h=>by
  obtain⟨⟨body,hs,oe,fb⟩,k1,J⟩:=Xd h;clear h;have h:=J;clear J;obtain⟨y,k2,J⟩:=Xd h;clear h;have h:=J;clear J;obtain⟨⟨te,n,b0,su⟩,k3,J⟩:=Xd h;clear h;have h:=J;clear J;obtain⟨x,k4,J⟩:=Xd h;clear h;have h:=J;clear J;obtain⟨p,L⟩:=X1s k1;have Y:=Xbh k2;obtain⟨hp,e3⟩:=X1t k3;obtain⟨np,e4⟩:=Xar k4;dsimp only at L Y e3 e4;subst e4 e3 Y L
  iterate 9 rw[bA0]at h
  obtain⟨⟨⟨⟨⟨⟨⟨⟨⟨h1,h2⟩,h3⟩,h4⟩,h5⟩,h6⟩,h7⟩,h8⟩,h9⟩,aa⟩:=h;have L:=Vbh.mp h1;have Y:=Vbh.mp h2;have h4:=oD0 h4;have h7:=oD0 h7;dsimp only at L Y h7;subst L Y;have ib:=sndSs b body T h9;rw[h3]at ib;have ih:∀a,DSs (Z.inH X a) (b0::su) (nasgs hd) (pd F G hd):=λa=>sndSs hd (b0::su) (T.inH a) aa;obtain⟨C0,k1,k2⟩:=T.pf.err.at_ c x h4;have hN:=T.hN;have hs:=T.hs;subst hN hs;refine(X6h (c:=c) T.stk T.frm T.nd h7 (Xeg h8) k2 (Xaq rfl h5) (Xa4 h6).1 (λc' C L Y=>(T.pf.err.sub c' C c C0 L k1).2 Y) ib ih).congr λenv S=>?_;simp only[exe,h3,if_true,Xw2]
  all_goals rfl|.brk=>λst T h=>by have h:=beq_iff_eq.mp h;obtain⟨p,rfl⟩:=vEnd_ok.2.1 h;exact ds_brk.congr λenv S=>by simp only[exe]
theorem sndSs{cm:Bool}{X:Cx}:∀(x:Sts) (st:LM),TopOk cm F G fns gns X sc N->mtSs fns gns sc N cm x st=yx->DSs X st (nasgs x) (pd F G x)
 |.nil,[]=>λT h=>dss_nil.congr λenv S=>by simp only[pd]|.cons s ss,x::xs=>λT h=>by have h':(mtS fns gns sc N cm s x&&mtSs fns gns sc N cm ss xs)=true:=h;rw[bA0]at h';exact(Xv5 (Ybd s x T h'.1) (sndSs ss xs T h'.2)).congr λenv S=>by simp only[pd]<;>rfl|.nil,_::_=>λT h=>by cases h|.cons _ _,[]=>λT h=>by cases h
end
end
def BM(mg:Str->OV)(base:Heap):Prop:=∃J ob,mg "__builtins__"=yz (.ref J)/\J≠Vf1/\base.get? J=yz ob/\ob.cls=.type "module" /\ ob.dict=yz Vf1/\ob.data=.plain
noncomputable def Xdl(K:Ve)(nm:Str):Bool:=match PySem.W.tabIn K nm with
 |some (c,P)=>PySem.W.codeHdIn K c P&&decide ((Xcu K).lookup P=yz (Xan nm))|none=>yw
def Xha(K:Ve)(N:LS)(nm:Str):Prop:=∀m∈mks,N.getLast?=yz (Xan m)->m=nm/\Xdl K m=yx
structure DefOk(K:Ve)(mg:Str->OV)(fns:LF)(gns:LS)(d:Df)(nm:Str)(ar:Nat)(fl:Bool):Prop where
 ex:∃g fd st N ps,Fun K nm nm st g fd/\U1 K Uc nm=yz (yz (.ref g))/\Xha K N nm/\mg nm=yz (.ref g)/\Xcj N ps (Xr st)=yx/\mtSs fns gns (Xr st) N fl d.body (Yh st)=yx/\d.np=ll ps/\d.nl=N.length/\(ll ps)=ar/\Binds K fd ps []
section
variable{P:Ua}{w:Uq}{K:Ve}{mg:Str->OV}{base:Heap}{T:List Df}{G:LD}{fns:LF}{gns:LS}
theorem Xnj(ab:∀(f:Nat) (nm:Str),Xbb f nm G=yx->∃J fl,fns[f]?=yz (nm,J,fl)/\(∀a,U1 K Uc nm=yz (yz (.ref a))->mg nm=yz (.ref a))/\∀k xs S,FT T G k f xs S≠.bad->ll xs=J)(er:ErrOk K)(hb:∀x∈blts,mg x=yy)(hg:∀(k:Nat) nm,gns[k]?=yz nm->∃u d,mg nm=yz u/\G[k]?=yz d/\∀ ρ H,∃v,RelV v u/\RD K ρ H d v){k:Nat}
  (ih:∀(f:Nat) nm J fl,fns[f]?=yz (nm,J,fl)->∃g fd ps,FnD fl P w K mg base k g fd ps (FT T G k f)/\Binds K fd ps []/\mg nm=yz (.ref g)/\Vda K (.ref g)=yx/\(ll ps)=J)
  {f:Nat} {nm:Str} {fl:Bool} {d:Df} {g:Addr} {fd:Vdl} {st:Stmt} {N ps:LS} (ah:(∃m∈mks,Xdl K m=yx)->K.In base/\BM mg base) (aa:U1 K Uc nm=yz (yz (.ref g))) (ae:Xha K N nm) (hT:T[f]?=yz d) (F:Fun K nm nm st g fd) (hS:Xcj N ps (Xr st)=yx) (hM:mtSs fns gns (Xr st) N fl d.body (Yh st)=yx) (hp:d.np=ll ps) (hn:d.nl=N.length):
  FnD fl P w K mg base (k+1) g fd ps (FT T G (k+1) f):=by
 obtain⟨oc,od,kV,am,pm,an,ak,ct,al,rfl,lk,ac⟩:=F.ex;have Y:=Xnf hS;have ai:=X4p (cm:=fl) (P:=P) (w:=w) (mg:=mg) (base:=base) (k:=k) (G:=pd (FT T G k) G d.body) (na:=nasgs d.body) lk ac Y λA outer s H E hr=>by
  refine sndSs (fns:=fns) (gns:=gns) (sc:=Xr st) (N:=N) d.body (Yh st) ⟨rfl,rfl,Y.nd,λ_=>rfl,⟨hb,λf nm J aj h af=>?_,hg,λf nm h=>let ⟨J,fl,h1,h2,h3⟩:=ab f nm h;⟨J,fl,h1,h2,h3 k⟩,?_,hr.gd,id,er⟩,rfl,rfl,?lam⟩ hM
  case lam=>
   intro m hm hN;obtain⟨rfl,hl⟩:=ae m hm hN;have hb:=ah ⟨m,hm,hl⟩;unfold Xdl at hl;split at hl
   ·rename_i c P L;rw[bA0,decide_eq_true_eq]at hl;refine⟨rfl,by have:=hr.dp;show(A.deeper _).depth+5<_;omega,⟨c,P,?_,PySem.W.codeHd_of_K hb.1 hl.1,hl.2⟩,hb.2⟩;simp only[PySem.W.tabIn,aa,lk]at L;split at L
    ·split at L
     ·split at L;·cases L;rfl
      ·cases L
     cases L
    cases L
   cases hl
  ·obtain⟨g,fd,ps,h1,h2,h3,h4,h5⟩:=ih f nm J aj h;exact⟨g,fd,ps,k,h1,hr.less af,h2,h3,h4,h5⟩
  have:=hr.un;show(A.deeper _).units+200<Vcb;omega
 have e:FT T G (k+1) f=(λds S=>if (ll ds)=ll ps then
  match pd (FT T G k) G d.body (ds.map yz++Vg (N.length-ll ps) yy) S with
  |.ok (.rt v) S=>.ok v S|.ok (.nx _) S=>.ok .non S|.ok _ _=>.bad|.ex n S=>.ex n S
  |.bad=>.bad else .bad):=by
  funext ds S;simp only[FT,hT,den,hp,hn]
  all_goals rfl
 rw[e];exact ai
theorem X9u(aa:∀(f:Nat) (nm:Str),Xbb f nm G=yx->∃J fl,fns[f]?=yz (nm,J,fl)/\(∀a,U1 K Uc nm=yz (yz (.ref a))->mg nm=yz (.ref a))/\∀k xs S,FT T G k f xs S≠.bad->ll xs=J)(er:ErrOk K)(hb:∀x∈blts,mg x=yy)(hg:∀(k:Nat) nm,gns[k]?=yz nm->∃u d,mg nm=yz u/\G[k]?=yz d/\∀ ρ H,∃v,RelV v u/\RD K ρ H d v)
  (ab:(∃m∈mks,Xdl K m=yx)->K.In base/\BM mg base) (hd:∀(f:Nat) nm J fl,fns[f]?=yz (nm,J,fl)->∃d,T[f]?=yz d/\DefOk K mg fns gns d nm J fl):
  ∀(k f:Nat) nm J fl,fns[f]?=yz (nm,J,fl)->∃g fd ps,FnD fl P w K mg base k g fd ps (FT T G k f)/\Binds K fd ps []/\mg nm=yz (.ref g)/\Vda K (.ref g)=yx/\(ll ps)=J:=by
 intro k;induction k with
 |zero=>intro f nm J fl h;obtain⟨d,_,⟨g,fd,st,N,ps,F,_,_,hm,_,_,_,_,hl,hB⟩⟩:=hd f nm J fl h;refine⟨g,fd,ps,⟨λA outer s H ae us vs Q E _ _ _ _ L=>?_⟩,hB,hm,F.kp,hl⟩;obtain⟨ds,ρ,S',_,_,_,nb,_⟩:=L;cases nb rfl|succ k ih=>intro f nm J fl h;obtain⟨d,hT,⟨g,fd,st,N,ps,F,Y,ac,hm,hS,hM,hp,hn,hl,hB⟩⟩:=hd f nm J fl h;exact⟨g,fd,ps,Xnj aa er hb hg ih ab Y ac hT F hS hM hp hn,hB,hm,F.kp,hl⟩
end
structure FunAt(K:Ve)(nm:Str)(st:Stmt):Prop where
 ex:∃g fd,Fun K nm nm st g fd/\U1 K Uc nm=yz (yz (.ref g))
theorem funAt_mk{K:Ve}{nm:Str}{st:Stmt}{f:Addr}{oc:Vb}{od an:Option Addr}{L:Array (OV)}{kV Y pm J ct:Vb}(a:U1 K Uc nm=yz (yz (.ref f)))
  (l:K.lookup f=yz ⟨oc,od,.func (Vbt nm nm (Xas st) (Yh st) (Xr st) .none kV Y pm an J ct),L⟩) (c:Vf3 K J nm=yx) (k:Vda K (.ref f)=yx):FunAt K nm st:=⟨⟨f,_,X3q l c k,a⟩⟩
def Xeh(nm:Str)(st:Stmt)(ps:LS):Prop:=∀(kV L pm:Vb) (Y:Option Addr) (J ct:Vb) (us:LV),ll us=ll ps->Ve7 (Vbt nm nm (Xas st) (Yh st) (Xr st) .none kV L pm Y J ct) ⟨us,[]⟩=pure (ps.zip us)
theorem Xbn{nm a:Str}{st:Stmt}(h:∀kV J pm an L Y u,Ve7 (Vbt nm nm (Xas st) (Yh st) (Xr st) .none kV J pm an L Y) ⟨[u],[]⟩=pure [(a,u)]:=by intros;rfl):Xeh nm st [a]:=λkV J pm an L Y us hl=>by rcases us with _|⟨u,_|_⟩<;>first|exact h .. | cases hl
theorem Xbe{nm a b:Str}{st:Stmt}(h:∀kV J pm an L Y u v,Ve7 (Vbt nm nm (Xas st) (Yh st) (Xr st) .none kV J pm an L Y) ⟨[u,v],[]⟩=pure [(a,u),(b,v)]:=by intros;rfl):Xeh nm st [a,b]:=λkV J pm an L Y us hl=>by rcases us with _|⟨u,_|⟨v,_|_⟩⟩<;>first|exact h .. | cases hl
theorem Xnk{nm a b c:Str}{st:Stmt}(h:∀kV J pm an L Y u v x,Ve7 (Vbt nm nm (Xas st) (Yh st) (Xr st) .none kV J pm an L Y) ⟨[u,v,x],[]⟩=pure [(a,u),(b,v),(c,x)]:=by intros;rfl):Xeh nm st [a,b,c]:=λkV J pm an L Y us hl=>by rcases us with _|⟨u,_|⟨v,_|⟨x,_|_⟩⟩⟩<;>first|exact h .. | cases hl
theorem Ybe{nm a b c d:Str}{st:Stmt}(h:∀kV J pm an L Y u v x y,Ve7 (Vbt nm nm (Xas st) (Yh st) (Xr st) .none kV J pm an L Y) ⟨[u,v,x,y],[]⟩=pure [(a,u),(b,v),(c,x),(d,y)]:=by intros;rfl):Xeh nm st [a,b,c,d]:=λkV J pm an L Y us hl=>by rcases us with _|⟨u,_|⟨v,_|⟨x,_|⟨y,_|_⟩⟩⟩⟩<;>first|exact h .. | cases hl
theorem Xzg{K:Ve}{N:LS}{nm:Str}(h:(mks.all λm=>!decide (N.getLast?=yz (Xan m)))=yx):Xha K N nm:=λm J e=>by have:=Vab.mp h m J;rw[decide_eq_true e]at this;cases this
theorem X9v{K:Ve}{N:LS}{nm:Str}(hl:Xdl K nm=yx)(h:(mks.all λm=>!decide (N.getLast?=yz (Xan m))||decide (m=nm))=yx):Xha K N nm:=λm J e=>by have:=Vab.mp h m J;rw[decide_eq_true e,Vc1,Vfd,decide_eq_true_eq]at this;exact⟨this,this▸hl⟩
theorem Xxb{K:Ve}{h:Heap}{mg:Str->OV}{fns:LF}{gns:LS}{d:Df}{nm:Str}{L:Nat}{fl:Bool}{st:Stmt}{N ps:LS}(X:K.In h)(Gm:h.Ns Uc mg)(F:FunAt K nm st)
  (hS:Xcj N ps (Xr st)=yx) (hM:mtSs fns gns (Xr st) N fl d.body (Yh st)=yx) (hp:d.np=ll ps) (Y:d.nl=N.length) (hl:(ll ps)=L) (hB:Xeh nm st ps) (J:Xha K N nm):DefOk K mg fns gns d nm L fl:=by
 obtain⟨g,fd,h1,h2⟩:=F.ex;exact⟨g,fd,st,N,ps,h1,h2,J,Vc0 X Gm h2,hS,hM,hp,Y,hl,h1.binds hB⟩
abbrev MD(fns:LF)(gns:LS)(st:Stmt)(N:LS)(fl:Bool)(d:Df):Prop:=(mtSs fns gns (Xr st) N fl d.body (Yh st)&&Xcj N (N.take d.np) (Xr st))=yx
theorem mm{fns:LF}{gns:LS}{st:Stmt}{N:LS}{fl:Bool}{d:Df}(h:MD fns gns st N fl d):mtSs fns gns (Xr st) N fl d.body (Yh st)=true:=((bA0 _ _).mp h).1
theorem ms{fns:LF}{gns:LS}{st:Stmt}{N:LS}{fl:Bool}{d:Df}(h:MD fns gns st N fl d):Xcj N (N.take d.np) (Xr st)=true:=((bA0 _ _).mp h).2
theorem dk{K:Ve}{h:Heap}{mg:Str->OV}{fns:LF}{gns:LS}{d:Df}{nm:Str}{Y:Nat}{fl:Bool}{st:Stmt}{N:LS}(X:K.In h)(Gm:h.Ns Uc mg)(F:FunAt K nm st)
  (L:MD fns gns st N fl d) (hB:Xeh nm st (N.take d.np)) (J:Xha K N nm:=by exact Xzg (by decide+kernel)) (hp:d.np=(N.take d.np).length:=by rfl) (hn:d.nl=N.length:=by rfl) (hl:(N.take d.np).length=Y:=by rfl):DefOk K mg fns gns d nm Y fl:=Xxb X Gm F (ms L) (mm L) hp hn hl hB J
def AllD(K:Ve)(mg:Str->OV)(fns:LF)(gns:LS):LF->List Df->Prop
 |[],[]=>True|x::r,d::ds=>DefOk K mg fns gns d x.1 x.2.1 x.2.2/\AllD K mg fns gns r ds|_,_=>False
theorem AllD.c{K:Ve}{mg:Str->OV}{fns:LF}{gns:LS}{x:Str×Nat×Bool}{r:LF}{d:Df}{ds:List Df}(h:DefOk K mg fns gns d x.1 x.2.1 x.2.2)(t:AllD K mg fns gns r ds):AllD K mg fns gns (x::r) (d::ds):=⟨h,t⟩
theorem AllD.get{K:Ve}{mg:Str->OV}{fns:LF}{gns:LS}:∀ {fs:LF} {ds:List Df},AllD K mg fns gns fs ds->∀(f:Nat) nm ar fl,fs[f]?=yz (nm,ar,fl)->∃d,ds[f]?=yz d/\DefOk K mg fns gns d nm ar fl
 |[],[],_,f,nm,ar,fl,e=>by cases e|x::r,d::ds,h,0,nm,ar,fl,e=>by cases e;exact⟨d,rfl,h.1⟩|x::r,d::ds,h,f+1,nm,ar,fl,e=>AllD.get h.2 f nm ar fl e
noncomputable def X6x(K:Ve):Bool:=blts.all λx=>match U1 K Uc x with
 |some yy=>yx|_=>yw
theorem X1z{K:Ve}{h:Heap}{mg:Str->OV}(X:K.In h)(J:h.Ns Uc mg)(e:X6x K=yx):∀x∈blts,mg x=none:=λx L=>by
 have:=Vab.mp e x L;split at this;·rename_i q;exact PySem.W.mg_none_of X J q
 ·cases this
theorem Xcq{K:Ve}{h:Heap}{mg:Str->OV}{nm:Str}{i:Int}{t:Tok}(X:K.In h)(J:h.Ns Uc mg)(e:U1 K Uc nm=yz (yz (.int i t))):∃u d,mg nm=yz u/\yz (D.int i)=yz d/\∀ ρ H,∃v,RelV v u/\RD K ρ H d v:=
 ⟨_,_,Vc0 X J e,rfl,λ_ _=>⟨.int i,⟨t,rfl⟩,by simp only[RD]⟩⟩
theorem X6y{K:Ve}{h:Heap}{mg:Str->OV}{nm:Str}{st:Stmt}{f:Nat}(X:K.In h)(J:h.Ns Uc mg)(F:FunAt K nm st):∃u d,mg nm=yz u/\yz (D.fn f nm)=yz d/\∀ ρ H,∃v,RelV v u/\RD K ρ H d v:=by obtain⟨g,fd,_,h2⟩:=F.ex;exact⟨_,_,Vc0 X J h2,rfl,λ_ _=>⟨.ref g,rfl,by simp only[RD];exact⟨g,rfl,h2⟩⟩⟩
noncomputable def Xjk(fns:LF):LD->Bool
 |[]=>yx|.fn f nm::r=>(match fns[f]? with|some (m,_,_)=>decide (m=nm)|none=>yw)&&Xjk fns r|_::r=>Xjk fns r
theorem Xjl:∀ {G:LD},Xjk fns G=yx->Xbb f nm G=yx->∃J fl,fns[f]?=yz (nm,J,fl)
 |[],_,h=>by cases h|d::r,hc,h=>by
  cases d with
  |fn g m=>
   simp only[Xjk,bA0]at hc;simp only[Xbb,Vb6,bA0,beq_iff_eq,decide_eq_true_eq]at h;rcases h with⟨rfl,rfl⟩|h
   ·have h1:=hc.1;split at h1;·rename_i L J fl e;have:=oD0 h1;subst this;exact⟨J,fl,e⟩
    ·cases h1
   exact Xjl hc.2 h|_=>exact Xjl (by simpa only[Xjk] using hc) (by simpa only[Xbb] using h)
theorem X6z(hT:T[f]?=yz d):∀(k:Nat) (xs:LD) (S:Sto),FT T G k f xs S≠.bad->ll xs=d.np
 |0=>λxs S h=>aB0 rfl h|k+1=>λxs S h=>by
  simp only[FT,hT,den]at h;split at h;·assumption
  ·cases h rfl
theorem law_fn {P:Ua} {w:Uq} {K:Ve} {h:Heap} {mg:Str->OV} {T:List Df} {G:LD} {fns:LF} {gns:LS} {fa:Addr} {k f:Nat} {d:Df} {st:Stmt} {N:LS} {x:Str} (X:K.In h) (Gm:h.Ns Uc mg) (af:mg "law"=yz (.ref fa))
  (er:ErrOk K) (hb:∀x∈blts,mg x=yy) (hg:∀(k:Nat) nm,gns[k]?=yz nm->∃u d,mg nm=yz u/\G[k]?=yz d/\∀ ρ H,∃v,RelV v u/\RD K ρ H d v)
  (hd:∀(f:Nat) nm ar fl,fns[f]?=yz (nm,ar,fl)->∃d,T[f]?=yz d/\DefOk K mg fns gns d nm ar fl)
  (hT:T[f]?=yz d) (F:FunAt K "law" st) (hS:Xcj N [x] (Xr st)=yx) (hM:mtSs fns gns (Xr st) N yx d.body (Yh st)=yx) (hp:d.np=1) (hn:d.nl=N.length) (hB:Xeh "law" st [x]) (aa:Xjk fns G=true:=by rfl) (ac:Xha K N "law":=by exact Xzg (by decide+kernel)):
  ∃fd:Vdl,(∀(s:Vc) (u:Vb),BindsTo s fd ⟨[u],[]⟩ [(x,u)])/\∀base:Heap,K.In base->((∃m∈mks,Xdl K m=yx)->BM mg base)->FnOk P w K mg base (CXd P w) (k+1) fa fd [x] (spD K 1 (FT T G (k+1) f)):=by
 obtain⟨g,fd,h1,h2⟩:=F.ex;have e:=af.symm.trans (Vc0 X Gm h2);cases e;refine⟨fd,λs u=>?_,λbase kb bm=>?_⟩;·obtain⟨oc,od,kV,ah,pm,an,ab,ct,aj,rfl,_⟩:=h1.ex;exact .of_eq (hB kV ah pm an ab ct [u] rfl)
 ·have J:∀(f:Nat) (nm:Str),Xbb f nm G=yx->∃ar fl,fns[f]?=yz (nm,ar,fl)/\(∀a,U1 K Uc nm=yz (yz (.ref a))->mg nm=yz (.ref a))/\∀k xs S,FT T G k f xs S≠.bad->ll xs=ar:=λf nm h=>by
   obtain⟨ar,fl,q⟩:=Xjl aa h;obtain⟨d',ae,⟨_,_,_,_,ai,_,_,_,_,_,_,e1,_,e2,_⟩⟩:=hd f nm ar fl q;exact⟨ar,fl,q,λa z=>Vc0 X Gm z,λk xs S z=>by rw[X6z ae k xs S z,e1,e2]⟩
  have Y:(∃m∈mks,Xdl K m=yx)->K.In base/\BM mg base:=λz=>⟨kb,bm z⟩;have:=Xnj (P:=P) (w:=w) (base:=base) J er hb hg (λf nm ar fl q=>X9u J er hb hg Y hd k f nm ar fl q) Y h2 ac hT h1 hS hM hp hn;exact⟨λvs H Q E z=>let ⟨_,_,_,q,_⟩:=z;q,λA outer s H L us vs Q E hr=>this.run A outer s H L us vs Q E (.of hr)⟩
theorem X60{K:Ve}{F:LD->Sto->R D}{H:Hp}{a:Addr}{ns:LI}(hO:∀xs,H a≠yz (.lst xs))(hT:TabH K H)(Y:SqL K H a (ns.map V.int))(L:∃S',F [.fro (ns.map D.int)] []=.ok (.bl yx) S'):
  spD K 1 F [.ref a] H (λv _=>v=.bl yx) λ_ _ _=>False:=by
 obtain⟨S',e⟩:=L;have J:FrL K H a (ns.map V.int):=by
  rcases Y with(h|⟨o,h⟩)|h;·exact aB0 h (hO _)
  ·exact .inl ⟨o,h⟩
  exact .inr h
 refine⟨[.fro (ns.map D.int)],[],[],rfl,.cons ?_ .nil,⟨hT,rfl,List.nodup_nil,λn a o q=>by simp at q⟩,(by rw[e];exact λz=>nomatch z),λd S2 v H' ρ' q rd _ _=>?_,λn c S2 a H' ρ' q=>?_⟩;·simp only[RD];exact⟨a,_,rfl,J,RDs.ints ns⟩
 ·rw[e]at q;cases q;simpa only[RD] using rd
 ·rw[e]at q;cases q
theorem X61(H:Hp)(s:Vc)(e:Vb)(s':Vc)(z:CXd P w [] H s (λ_ _ _=>False) e s'):False:=by obtain⟨_,_,_,_,_,_,q⟩:=z;exact q
end Z
end
section
namespace Z
open PySem PySem.Spec PyProof.Rows L2
open PySem.W (tabIn codeHdIn codeHd_of_K tabObj)
noncomputable def X62(K:Ve)(ts:LR):Bool:=mks.all λm=>match tabIn K m with
 |some (c,P)=>codeHdIn K c P&&ts.contains P&&(K.lookup P).isNone|none=>yx
theorem Xt2{P:Addr}{q:Str}:∀ {l:List (Addr×Str)},l.lookup P=yz q->(P,q)∈l
 |[],e=>by cases e| (b,x)::r,e=>by
  rw[Vad]at e;cases hb:P==b with
  |true=>rw[hb]at e;cases e;rw[eq_of_beq hb];exact .head _|false=>rw[hb]at e;exact .tail _ (Xt2 e)
theorem X63{K:Ve}{h:Heap}{ts:LR}(KX:K.In h)(hb:X62 K ts=yx)(ht:∀P∈ts,h.get? P=yz (tabObj #[])){P:Addr}{q:Str}(e:(Xcu K).lookup P=yz q):h.get? P=yz (tabObj #[])/\isCodeTable h P/\K.lookup P=none:=by have hm:=Xt2 e;unfold Xcu at hm;obtain⟨m,L,J⟩:=Veb.mp hm;rw[Ul]at J;obtain⟨⟨c,P'⟩,aa,Y⟩:=J;cases Y;have:=Vab.mp hb m L;rw[aa]at this;simp only[bA0]at this;obtain⟨⟨h1,h2⟩,h3⟩:=this;have e1:=ht P' (by simpa using h2);exact⟨e1,((codeHd_of_K KX h1).tab e1).isCodeTable,by simpa using h3⟩
theorem Xt3{P:Ua}{w:Uq}{K:Ve}{mg mb:Str->OV}{CX:CXT}{k:Nat}{fa a:Addr}{fd:Vdl}{x:Str}{sp:Sp}{J:Vc}{vs:LV}{ns:LI}
  (KX:K.In J.heap) (an:J.heap.Ns Uc mg) (hb:J.heap.Ns Vf1 mb) (au:∀x:Str,x ≠ "__name__" -> mb x=Vd0 x) (al:J.heap.NoLimit) (hg:J.gens=#[])
  (L:∀P q,(Xcu K).lookup P=yz q->J.heap.get? P=yz (tabObj #[])/\isCodeTable J.heap P/\K.lookup P=yy) (ar:BM mg J.heap)
  (ha:J.heap.get? a=yz {cls:=.type "list",data:=.seq vs.toArray}) (hi:Va0 vs ns) (hl:(ll ns)<=V0) (hr:Room k callerA)
  (F:∀base:Heap,K.In base->BM mg base->FnOk P w K mg base CX k fa fd [x] sp) (ae:∀(s:Vc) (u:Vb),BindsTo s fd ⟨[u],[]⟩ [(x,u)])
  (ao:∀H:Hp,(∀xs,H a≠yz (.lst xs))->TabH K H->SqL K H a (ns.map V.int)->sp [.ref a] H (λv _=>v=.bl yx) λ_ _ _=>False)
  (ap:∀H e s',CX [] H J (λ_ _ _=>False) e s'->False):
  Vdh (Vj P w) callerA (.call (.ref fa) ⟨[.ref a],[]⟩) (λr s'=>r=.ok (.ret (.bool yx))/\OldK J.heap s'.heap/\s'.os=J.os/\AllBare s'.gens) J:=by
 have rv:=Xkm hi;have ai:=hi.length;have aq:∀q,(Xcu K).lookup a≠yz q:=λq e=>by have:=(L a q e).1;rw[ha]at this;cases this
 have ac:∀o:Option HO,(∀u,o=yz u->u=.frz {cls:=.type "list",data:=.seq vs.toArray} (.lst (ns.map V.int))/\K.lookup a=yy)->SqL K (λb=>if b=a then o else ((Xcu K).lookup b).map .tbl) a (ns.map V.int) ->
   Vdh (Vj P w) callerA (.call (.ref fa) ⟨[.ref a],[]⟩) (λr s'=>r=.ok (.ret (.bool yx))/\OldK J.heap s'.heap/\s'.os=J.os/\AllBare s'.gens) J:=by
  intro o hO hS;generalize eH:(λb=>if b=a then o else ((Xcu K).lookup b).map HO.tbl)=H at hS;have am:H a=o:=by rw[<-eH];exact iP0 rfl
  have ak:∀b,b≠a->H b=((Xcu K).lookup b).map HO.tbl:=λb z=>by rw[<-eH];exact iN0 z
  have trk:∀b u,H b=yz u->(b=a/\u=.frz {cls:=.type "list",data:=.seq vs.toArray} (.lst (ns.map V.int))/\K.lookup a=yy)\/∃q,u=.tbl q/\(Xcu K).lookup b=yz q:=λb u e=>by
   by_cases hb:b=a;·subst hb;rw[am]at e;exact .inl ⟨rfl,hO u e⟩
   ·rw[ak b hb,Ul]at e;obtain⟨q,e1,Y⟩:=e;exact .inr ⟨q,Y.symm,e1⟩
  have hT:TabH K H:=λP q e=>by rw[ak P λz=>aq q (z▸e),e];rfl
  have hok:HOk P w H J.heap:=λb u e=>by
   rcases trk b u e with⟨rfl,rfl,_⟩|⟨q,rfl,Y⟩;·exact⟨ha,by rw[Vl];exact hl,vs,_,rv,ha⟩
   ·exact⟨#[],(L b q Y).1,trivial,λpos cv z=>by cases z⟩
  have aa:∀ {b:Addr} {o:Obj},J.heap.get? b=yz o->o.cls≠.type "list" -> o≠tabObj #[]->(Xdh J.heap H).get? b=yz o:=λ{b o} e n1 n2=>Xg0 e (by
   cases q:H b with
   |none=>rfl|some u=>
    rcases trk b u q with⟨rfl,_⟩|⟨q,_,Y⟩;·rw[ha]at e;cases e;cases n1 rfl
    ·rw[(L b q Y).1]at e;cases e;exact aB0 rfl n2)
  have af:∀ {b:Addr} {m:Str->OV},J.heap.Ns b m->(Xdh J.heap H).Ns b m:=λ{b m} ⟨o,es,ep,e,d,r⟩=>by
   refine⟨o,es,ep,Xg0 e ?_,d,r⟩;cases q:H b with
   |none=>rfl|some u=>
    rcases trk b u q with⟨rfl,_⟩|⟨q,_,Y⟩;·rw[ha]at e;cases e;cases d
    ·rw[(L b q Y).1]at e;cases e;cases d
  have ah:K.In (Xdh J.heap H):=λb o e=>Xg0 (KX b o e) (by
   cases q:H b with
   |none=>rfl|some u=>
    rcases trk b u q with⟨rfl,_,z⟩|⟨q,_,Y⟩;·rw[z]at e;cases e
    ·rw[(L b q Y).2.2]at e;cases e)
  have hM:Mod K mg (Xdh J.heap H):=⟨ah,af an,⟨mb,af hb,au⟩,let ⟨mc,h1,h2⟩:=al;⟨mc,af h1,h2⟩⟩;have hB:BM mg (Xdh J.heap H):=by obtain⟨bm,ob,b1,b2,b3,b4,r⟩:=ar;exact⟨bm,ob,b1,b2,aa b3 (by rw[b4];nofun) (λz=>by rw[z]at b4;cases b4),b4,r⟩
  have e0:Env0 P w K mg (Xdh J.heap H) callerA [] J H:=⟨rfl,hM,λb o e=>Xzt e,Nat.le_of_eq (Xse _ _),trivial,λb hb=>aB0 (show b∈([]:LR) from hb) (by simp),hok,.of_eq hg⟩;refine Vfs ((F _ ah hB).run callerA [] J H ⟨[.ref a],[]⟩ [.ref a] [.ref a] _ _ hr e0 (ae J (.ref a)) (.cons rfl .nil) (ao H (λxs z=>by rcases trk a _ z with⟨_,z,_⟩|⟨_,z,_⟩<;>cases z) hT hS)) λr s' h=>?_;cases r with
  |error e=>exact(ap H e s' h).elim|ok fl=>
   cases fl with
   |next=>exact Veh h|brk=>exact Veh h|cont=>exact Veh h|ret u=>
    obtain⟨v,H',os,bare,un,ab,r',q⟩:=h;have q':v=.bl true:=q;subst q';obtain rfl:u=Ve6 true:=r';have aj:∀b o,J.heap.get? b=yz o->s'.heap.get? b=yz o\/(isCodeTable J.heap b/\o=tabObj #[]/\∃ps,s'.heap.get? b=yz (tabObj ps)):=λb o e=>by
     cases q:H b with
     |none=>exact .inl (un.keep b o e q (by intro z;exact aB0 (show b∈([]:LR) from z) (by simp)) (by simp))|some u=>
      rcases trk b u q with⟨rfl,rfl,_⟩|⟨q2,rfl,Y⟩;·obtain⟨e3,_⟩:=ab _ _ (un.frzs _ _ _ q);rw[ha]at e;cases e;exact .inl e3
      ·obtain⟨ps,e3,_⟩:=ab _ _ (un.tbls _ _ q);obtain⟨t1,t2,_⟩:=L b q2 Y;rw[t1]at e;cases e;exact .inr ⟨t2,rfl,ps,e3⟩
    refine⟨rfl,⟨λb o e=>?_,λb o e=>?_⟩,os,bare⟩
    ·rcases aj b o e with z|⟨t,rfl,ps,z⟩;·exact .inl z
     ·exact .inr (.inl ⟨t,rfl,#[],ps,rfl,by rw[z,Array.empty_append]⟩)
    rcases aj b o e with z|⟨_,_,ps,z⟩;·exact⟨_,z⟩
    ·exact⟨_,z⟩
 cases hk:K.lookup a with
 |some o=>have e:=KX a o hk;rw[ha]at e;cases e;exact ac yy (λ_ z=>nomatch z) (.inr ⟨_,vs.toArray,_,hk,rfl,rfl,rfl,by rw[Vn,ai];exact hl,by simpa using rv⟩)|none=>exact ac (yz (.frz {cls:=.type "list",data:=.seq vs.toArray} (.lst (ns.map V.int)))) (λu z=>by cases z;exact⟨rfl,hk⟩) (.inl (.inr ⟨{cls:=.type "list",data:=.seq vs.toArray},iP0 rfl⟩))
noncomputable def dr(ts:LR)(K:Ve):Ve:=K.filter λp=>!ts.contains p.1
noncomputable def Xf7(ts:LR)(K:Ve):Bool:=ts.all λP=>match K.lookup P with
 |some ⟨.none,yy,.fields ⟨[]⟩,⟨[]⟩⟩=>yx|_=>yw
section
variable{ts:LR}{K:Ve}{h:Heap}
theorem Xro{a:Addr}:∀ {K:Ve},(dr ts K).lookup a=if a∈ts then yy else K.lookup a
 |[]=>by show yy=_;split<;>rfl| (b,x)::r=>by
  have ih:=Xro (a:=a) (K:=r);unfold dr at ih ⊢;rw[List.filter_cons,Vad];cases hb:a==b with
  |true=>
   have e:=eq_of_beq hb;subst e;by_cases J:a∈ts;·rw[iN0 (by simpa using J),ih];simp only[J,if_true]
   ·rw[iP0 (by simpa using J),Vad,hb,iN0 J]|false=>
   split;·rw[Vad,hb];exact ih
   ·exact ih
theorem X9w(X:K.In h):(dr ts K).In h:=λa o e=>by
 rw[Xro]at e;split at e;·cases e
 ·exact X a o e
theorem Xpz(hb:Xf7 ts K=yx){P:Addr}(J:P∈ts):K.lookup P=yz (tabObj #[]):=by
 have:=Vab.mp hb P J;split at this;·assumption
 ·cases this
theorem Xjm(hb:Xf7 ts K=yx){a:Addr}{o:Obj}(e:K.lookup a=yz o)(L:o≠tabObj #[]):(dr ts K).lookup a=yz o:=by
 rw[Xro,iN0];·exact e
 ·intro J;rw[Xpz hb J]at e;exact L (Uw e).symm
theorem ns_dr(hb:Xf7 ts K=yx){x:Str}{r:OV}(e:U1 K a x=yz r):U1 (dr ts K) a x=yz r:=by
 unfold U1 at e ⊢;split at e;·rename_i q;rw[Xjm hb q λz=>by cases z];exact e
 ·cases e
theorem fun_dr(hb:Xf7 ts K=yx){nm:Str}{st:Stmt}(F:FunAt K nm st):FunAt (dr ts K) nm st:=by
 obtain⟨g,fd,⟨⟨oc,od,kV,ab,pm,an,aa,ct,Y,rfl,lk,J⟩,hk⟩,hn⟩:=F.ex;have L:=Xjm hb lk λz=>by cases z
 refine⟨g,_,⟨⟨oc,od,kV,ab,pm,an,aa,ct,Y,rfl,L,?_⟩,?_⟩,ns_dr hb hn⟩
 ·unfold Vf3 at J ⊢;split at J
  ·split at J;·rename_i q;rw[Xjm hb q λz=>by cases z;cases J];exact J
   ·cases J
  cases J
 unfold Vda;simp only[L]
end
theorem walk_zT{l:PySem.W.OpenLaw}{loose:LS}{XP:(Str->OV)->Heap->Prop}{YP:Uq->Heap->Prop}{d:DefRec}{K:Params->Ve}{T:List Df}{G:LD}{k f:Nat}{x:Str}(ts:LR)(hn:l.most=yz 63)(ae:d.params.defaults=[])(hr:Room k callerA)
  (hY:∀(w:Uq) (h:Heap),YP w h->(K w.params).In h) (hT:∀w:Uq,Xf7 ts (K w.params)=yx) (hN:∀w:Uq,X62 (dr ts (K w.params)) ts=yx)
  (F:∀(w:Uq) (mg:Str->OV) (fa:Addr) (h:Heap),Xf7 ts (K w.params)=yx->(dr ts (K w.params)).In h->h.Ns Uc mg->mg d.name=yz (.ref fa) ->
   ∃fd:Vdl,(∀(s:Vc) (u:Vb),BindsTo s fd ⟨[u],[]⟩ [(x,u)])/\∀base:Heap,(dr ts (K w.params)).In base->((∃m∈mks,Xdl (dr ts (K w.params)) m=yx)->BM mg base)->FnOk l.prog w (dr ts (K w.params)) mg base (CXd l.prog w) k fa fd [x] (spD (dr ts (K w.params)) 1 (FT T G k f)))
  (hL:∀ns:LI,ll ns<=63->∃S',FT T G k f [.fro (ns.map D.int)] []=.ok (.bl yx) S'):
  PySem.W.WalkO q loose XP YP l.row.toRowW d [] (λf vs=>PySem.call f vs):=by
 refine Att.attach_call hn ae λw s₀ ac mg mb fa o pm cd ai a vs ns G Y ho hd ah af ab L J hg=>?_;have KX:=hY w _ Y;have aa:=X9w (ts:=ts) KX;obtain⟨fd,hb,hF⟩:=F w mg fa _ (hT w) aa G.T.g af;exact Xt3 aa G.T.g G.T.b G.T.builtins G.T.nolimit hg (λP q e=>X63 aa (hN w) (λP hP=>KX P _ (Xpz (hT w) hP)) e) G.T.bmain ab L (V4 J (by decide)) hr (λbase kb bm=>hF base kb λ_=>bm) hb (λH hO hT hS=>X60 hO hT hS (hL ns J)) λH e s'=>X61 H ac e s'
end Z
end
section
namespace Z
open PySem PySem.Spec PyProof.Rows L2
section
variable{F:Fn}{G:LD}{s:St}{ss:Sts}{env e:En}{S S1:Sto}
theorem Xb(h:exe F G s env S=.ok (.nx e) S1):pd F G (.cons s ss) env S=pd F G ss e S1:=by simp only[pd,h]
theorem Xh(h:exe F G s env S=.ok (.rt d) S1):pd F G (.cons s ss) env S=.ok (.rt d) S1:=by simp only[pd,h]
theorem Xa5(h:exe F G s env S=.ex n S1):pd F G (.cons s ss) env S=.ex n S1:=by simp only[pd,h]
theorem Xdb{get:Sto->Nat->Option (Option D)}{body:En->Sto->R Fl}(xs:LD)(P:Nat->En->Sto->Prop)(L:∀i e S,P i e S->get S i=yz xs[i]?)
  (step:∀i d e S,xs[i]?=yz d->P i e S->∃e1 Y S2,Xk t d e=yz e1/\body e1 S=.ok (.nx Y) S2/\P (i+1) Y S2):
  ∀(J i:Nat) (e:En) (S:Sto),P i e S->i<=ll xs->ll xs<J+i->∃e' S',Xz get t body J i e S=.ok (.nx e') S'/\P (ll xs) e' S'
 |0=>λi e S h h1 h2=>by omega|J+1=>λi e S h h1 h2=>by
  cases q:xs[i]? with
  |none=>
   have hi:i=ll xs:=by have:=U2.mp q;omega
   refine⟨e,S,?_,hi▸h⟩;simp only[Xz,L i e S h,q]|some d=>obtain⟨e1,Y,S2,a1,a2,a3⟩:=step i d e S q h;have hi:i<ll xs:=(Vd.mp q).1;obtain⟨e',S',b1,b2⟩:=Xdb xs P L step J (i+1) Y S2 a3 (by omega) (by omega);refine⟨e',S',?_,b2⟩;simp only[Xz,L i e S h,q,a1,a2];exact b1
theorem Xbu{ds xs:LD}(P:Nat->En->Sto->Prop)(h1:evs F G es env S=.ok ds S1)(h2:Ys ds=yz xs)(h0:P 0 env S1)
  (step:∀i d e S,xs[i]?=yz d->P i e S->∃Y L S2,Xk t d e=yz Y/\pd F G b Y S=.ok (.nx L) S2/\P (i+1) L S2):
  ∃J S',exe F G (.for t (.rng es) b) env S=.ok (.nx J) S'/\P (ll xs) J S':=by
 obtain⟨J,S',a,b'⟩:=Xdb (get:=(Src.con xs).get) (t:=t) (body:=λenv S=>pd F G b env S) xs P (λ_ _ _ _=>rfl) step (ll xs+1) 0 env S1 h0 (Um _) (by omega);refine⟨J,S',?_,b'⟩;simp only[exe,evit,h1,Rk0,h2,Src.most];exact a
end
theorem Xbf(h:Ys [.int m]=yz xs)(q:xs[i]?=yz d):d=.int i/\i<m.toNat:=by
 simp only[Ys]at h;split at h
 ·cases h;rw[V6]at q;cases z:(Vm m.toNat)[i]? with
  |none=>rw[z]at q;cases q|some j=>rw[z]at q;obtain⟨hi,e⟩:=Vd.mp z;simp at e hi;subst e;simp at q;exact⟨q.symm,by omega⟩
 cases h
theorem Xal(h0:0<=m)(h:m<1048576):∃xs,Ys [.int m]=yz xs/\(ll xs)=m.toNat:=by refine⟨_,by simp only[Ys];rw[iP0 ⟨by omega,h⟩],by simp⟩
noncomputable def C:Nat->Nat->Nat
 |_,0=>1|0,_+1=>0|n+1,k+1=>C n k+C n (k+1)
theorem Y1(n:Nat):C n 0=1:=by cases n<;>rfl
theorem Xbv:∀(n k:Nat),n<k->C n k=0
 |0,k+1,_=>rfl|n+1,k+1,h=>by simp only[C];rw[Xbv n k (by omega),Xbv n (k+1) (by omega)]
theorem Xdu:∀(n k:Nat),C n (k+1)*(k+1)=C n k*(n-k)
 |0,k=>by simp[C]|n+1,0=>by have:=Xdu n 0;simp only[Y1,Nat.sub_zero,Nat.one_mul,Nat.mul_one,Va1]at this ⊢;simp only[C,Y1];rw[this];omega|n+1,k+1=>by
  have h1:=Xdu n (k+1);have h2:=Xdu n k;rw[Nat.add_sub_add_right];simp only[C];by_cases hk:k+1<=n
  ·obtain⟨d,rfl⟩:∃d,n=k+1+d:=⟨n-(k+1),(Nat.add_sub_of_le hk).symm⟩;have J:k+1+d-k=d+1:=by rw[Nat.add_right_comm,Vfb,Vbb]
   rw[Vbb]at h1;rw[J]at h2 ⊢;rw[Nat.add_mul,Nat.add_mul,h1,<-h2,<-Nat.mul_add,<-Nat.mul_add];congr 1;omega
  rw[Xbv n (k+1) (by omega),Xbv n (k+1+1) (by omega),Vex,Vex,Nat.zero_mul];rw[Nat.sub_eq_zero_of_le (by omega),Nat.mul_zero]
theorem X9x(n k:Nat):(C n k:Int)*((n:Int)-k)=(C n (k+1):Int)*((k:Int)+1):=by
 by_cases h:k<=n
 ·have:=Xdu n k;have e:((n-k:Nat):Int)=(n:Int)-k:=by omega
  rw[<-e];have J:((k:Int)+1)=((k+1:Nat):Int):=by omega
  rw[J,<-Veg,<-Veg,this]
 rw[Xbv n k (by omega),Xbv n (k+1) (by omega)];simp
theorem X9y(n k:Nat):((C n k:Int)*((n:Int)-k))/((k:Int)+1)=C n (k+1):=by rw[X9x,Int.mul_ediv_cancel _ (by omega)]
noncomputable def fac:Nat->Nat
 |0=>1|n+1=>fac n*(n+1)
theorem Xp0:∀n,0<fac n
 |0=>by decide|n+1=>Nat.mul_pos (Xp0 n) (by omega)
theorem Xx(i j:Int)(S:Sto):Xu .add (.int i) (.int j) S=.ok (.int (i+j)) S:=rfl
theorem Yd(i j:Int)(S:Sto):Xu .sub (.int i) (.int j) S=.ok (.int (i-j)) S:=rfl
theorem Xa6(h:Yq i j=yx)(S:Sto):Xu .mul (.int i) (.int j) S=.ok (.int (i*j)) S:=by simp only[Xu,h,if_true]
theorem Xcz(h:Yr j=yx)(S:Sto):Xu .fdiv (.int i) (.int j) S=.ok (.int (i/j)) S:=by simp only[Xu,h,if_true]
theorem Xf8(h:0<j)(S:Sto):Xu .mod (.int i) (.int j) S=.ok (.int (i%j)) S:=by simp only[Xu,h,if_true]
theorem Xf9(h:0<=j/\j<=1000/\i.natAbs<2^63)(S:Sto):Xu .pow (.int i) (.int j) S=.ok (.int (i^j.toNat)) S:=by simp only[Xu,h,and_self,if_true]
theorem Xcr(h1:-1000000000000000<j)(h2:j<1000000000000000):Yq i j=true:=by unfold Yq;simp only[Vb6,bA0,decide_eq_true_eq];left;right;constructor<;>omega
theorem Xp1(h1:-1000000000000000<i)(h2:i<1000000000000000):Yq i j=true:=by unfold Yq;simp only[Vb6,bA0,decide_eq_true_eq];left;left;constructor<;>omega
theorem X10(h1:i.natAbs.log2<100000)(h2:j.natAbs.log2<100000):Yq i j=true:=by unfold Yq;simp only[Vb6,bA0,decide_eq_true_eq];right;exact⟨h1,h2⟩
end Z
end
section
namespace Z
open PySem PySem.W
section
variable(tb:String->Option Vb1)(p:Ua)(w:Uq)(m:Nat)(ann:OV)
noncomputable def topT:Nat->SharedT->Thread->Option SharedT
 |0,_,_=>yy|n+1,s,t=>match through t with
  |true=>yz s|false=>match stepOk m ann t with
   |false=>yy|true=>match stepT (denote tb) p w s t with
    |some (s',t')=>topT n s' t'|none=>yy
end
theorem Xp2{tb:String->Option Vb1}{p:Ua}{w:Uq}{m:Nat}{ann:OV}:∀ {n:Nat} {s s':SharedT} {t:Thread},topT tb p w m ann n s t=yz s'->topRun tb p w m ann n s.abs t=yz s'.abs
 |0,_,_,_,h=>by cases h|n+1,s,s',t,h=>by
  unfold topT at h;unfold topRun;cases J:through t with
  |true=>rw[J]at h;cases h;rfl|false=>
   rw[J]at h;cases hk:stepOk m ann t with
   |false=>rw[hk]at h;cases h|true=>
    rw[hk]at h;cases hs:stepT (denote tb) p w s t with
    |none=>rw[hs]at h;cases h|some r=>obtain⟨a,b⟩:=r;rw[hs]at h;rw[stepT_spec hs];exact Xp2 h
noncomputable def Xll(P:Params):BT:=
 .node (boot_o_0 P) (.node (boot_o_1 P) (.node (boot_o_3 P) (.node (boot_o_7 P) .nil .nil) .nil) (.node (boot_o_5 P) (.node (boot_o_9 P) .nil .nil) .nil))
  (.node (boot_o_2 P) (.node (boot_o_4 P) (.node (boot_o_8 P) .nil .nil) .nil) (.node (boot_o_6 P) (.node (boot_o_10 P) .nil .nil) .nil))
noncomputable def Xlm:Life:={debug:=0,thresholds:=[2000,10,10]}
theorem Xxc(P:Params):absHeap (Xll P) 11 Xlm=boot_heap P:=by kernel_rfl
theorem Xt4(P:Params):((boot_heap P).isNs Uc&&(Array.mk ([]:List GenState)).size==0,(boot_heap P).objs.size,(boot_heap P).nsMap Uc "__annotations__")=(yx,11,yz (.ref 6)):=by kernel_rfl
noncomputable def Xt5{α:Type}(p q:Ua)(loose:LS)(Xt:Vc->Bool)(Yf:Vc->α)(P:Params)(s:Vc):=((staticsOk (Vel p.main.body) (boot_heap P) s.heap&&namesBound p s.heap&&gensDone s&&laidKept (boot_heap P) s.heap),openSeen q loose (Vel p.main.body) Xt yx s,Yf s)
theorem Xt6{p q:Ua}{loose:LS}{Xt:Vc->Bool}{α:Type}{Yf:Vc->α}{Ya:Uq->α}{N:Nat}
  (e:opening p=plainProg p.main.scope.names) (hN:Nat.ble 600 N=yx) (f:∀s,fenceModules? p s=yz s)
  (all:∀w os,(topT treeTable p w 11 (yz (.ref 6)) N ⟨Xll w.params,11,Xlm,Array.mk [],boot_drawn,boot_toks,os⟩ (topStub p)).map (λs=>Xt5 p q loose Xt Yf w.params s.abs)=yz (yx,openGood q loose,Ya w)):
  LeftO p q loose Xt Yf Ya N:=λw=>by
 obtain⟨⟨h,gs,d,k,os⟩,e1,e2⟩:=Ul.mp (boot_open e hN f w);obtain⟨rfl,rfl,rfl,rfl⟩:h=boot_heap w.params/\gs=Array.mk []/\d=boot_drawn/\k=boot_toks:=by simpa using e2
 obtain⟨z1,z2,L⟩:_/\_/\_:=by simpa only[Vdo] using Xt4 w.params
 obtain⟨s,r,l⟩:=Ul.mp (all w os);have J:=Xp2 r;have e0:SharedT.abs ⟨Xll w.params,11,Xlm,Array.mk [],boot_drawn,boot_toks,os⟩=⟨boot_heap w.params,Array.mk [],boot_drawn,boot_toks,os⟩:=by unfold SharedT.abs;dsimp only;rw[Xxc]
 rw[e0]at J;unfold Xt5 at l;obtain⟨l1,l2,Y⟩:_/\_/\_:=by simpa only[Vdo] using l
 have t:topFrom treeTable p w N ⟨boot_heap w.params,Array.mk [],boot_drawn,boot_toks,os⟩=yz s.abs:=by unfold topFrom;dsimp only;rw[z1,z2,L,J];dsimp only[Option.bind];rw[l1]
 unfold openEnds;rw[e1];show(topFrom treeTable p w N _).map _=_;rw[t];exact congrArg yz (Prod.ext l2 Y)
abbrev RunT{β:Type}(p:Ua)(g:Uq->SharedT->β)(r:Uq->β):Prop:=∀w os,(topT treeTable p w 11 (yz (.ref 6)) 40000 ⟨Xll w.params,11,Xlm,Array.mk [],boot_drawn,boot_toks,os⟩ (topStub p)).map (g w)=yz (r w)
theorem left_tree3{p q:Ua}{loose:LS}{Xt:Vc->Bool}{α:Type}{Yf:Vc->α}{Ya:Uq->α}(e:opening p=plainProg p.main.scope.names)(f:∀s,fenceModules? p s=yz s)
  (a1:RunT p (λw s=>staticsOk (Vel p.main.body) (boot_heap w.params) s.abs.heap&&namesBound p s.abs.heap&&gensDone s.abs&&laidKept (boot_heap w.params) s.abs.heap) λ_=>yx)
  (a2:RunT p (λ_ s=>openSeen q loose (Vel p.main.body) Xt yx s.abs) λ_=>openGood q loose) (a3:RunT p (λ_ s=>Yf s.abs) Ya):LeftO p q loose Xt Yf Ya 40000:=Xt6 e rfl f λw os=>by
 obtain⟨s,h,Y⟩:=Ul.mp (a1 w os);have L:=a2 w os;have J:=a3 w os;rw[h]at L J ⊢;exact congrArg yz (Prod.ext Y (Prod.ext (Uw L) (Uw J)))
end Z
end
section
namespace Z
open PySem PySem.Spec PyProof.Rows L2
theorem Xxd{m:Int}(h:m<1000000):m<1048576:=by omega
theorem Xg:Xc (S++[.lst xs]) (ll S)=yz xs:=by unfold Xc;rw[Us (Vf _),U0];rfl
theorem X3(h:Xc S q=yz xs):Xc (S++X) q=yz xs:=by
 unfold Xc at h ⊢;cases e:S[q]? with
 |none=>rw[e]at h;cases h|some o=>rw[Vu (Vd.mp e).1];exact h
theorem Xaa(hp:Xc S p=yz xs):p<ll S:=by
 unfold Xc at hp;cases e:S[p]? with
 |none=>rw[e]at hp;cases hp|some o=>exact(Vd.mp e).1
theorem Xau{S:Sto}{p:Nat}{x:LD}(h:p<ll S):Xc (S.set p (.lst x)) p=yz x:=by unfold Xc;rw[Vb9 h]
theorem Xt7(h:p≠q):Xc (S.set p o) q=Xc S q:=by unfold Xc;rw[Vao h]
theorem Ybf(h:Xc S p=yz [.int v]):Xah (.ref p) (.int 0) S=.ok (.int v) S:=by simp only[Xah,Xaw,Xq,h,V5,Z.ixN,Ud];rfl
theorem X9z(h:Xc S p=yz [.int v]):Xc8 (.ref p) (.int 0) d S=.ok () (S.set p (.lst [d])):=by have h':Z.lstM S p=yz [.int v]:=h;simp only[Xc8,h',Z.ixN,Ud];rfl
section
variable{F:Fn}{G:LD}
noncomputable def Xrp:Sts:=.cons (.ite (.cmp .lt (.var 1) (.blt .len (.cons (.var 0) .nil))) (.cons (.ret (.idx (.var 0) (.var 1))) .nil) .nil) (.cons (.ret (.cst (.int 0))) .nil)
noncomputable def Xln:Df:=⟨2,2,Xrp⟩
theorem Xxe(ns:LI)(j:Nat)(S:Sto):∃c,den F G Xln [.fro (ns.map D.int),.int j] S=.ok (.int c) S:=by
 have J:Xm .len [.fro (ns.map D.int)] S=.ok (.int (ll ns)) S:=by simp only[Xm,Xq,Vl]
 by_cases h:j<ll ns
 ·refine⟨ns[j],?_⟩;have hi:Xah (.fro (ns.map D.int)) (.int j) S=.ok (.int ns[j]) S:=by
   simp only[Xah,Xaw,Xq,V5,Z.ixN,Vl];rw[iP0 (by omega),iP0 (by omega)];simp[h]
  simp only[den,Xln,Xrp,Ud,if_true,Uj,Vg,U0,Vv];rw[Xh (d:=.int ns[j]) (S1:=S) (by
   have L:decide ((j:Int)<(ll ns:Int))=true:=decide_eq_true (by omega)
   simp only[exe,ev,evs,gZ0,gS0,Rk0,J,Xi,Xw,ltD,L,Xf];simp only[pd,exe,ev,gZ0,gS0,Rk0,hi])]
 refine⟨0,?_⟩
 simp only[den,Xln,Xrp,Ud,if_true,Uj,Vg,U0,Vv];rw[Xb (e:=[yz (.fro (ns.map D.int)),yz (.int j)]) (S1:=S) (by
  have L:decide ((j:Int)<(ll ns:Int))=false:=decide_eq_false (by omega)
  simp only[exe,ev,evs,gZ0,gS0,Rk0,J,Xi,Xw,ltD,L,Xf];simp only[pd])]
 simp only[pd,exe,ev,Rk0]
noncomputable def Xzh:Sts:=.cons (.asg (.var 2) (.bin .mod (.idx (.var 0) (.cst (.int 0))) (.var 1))) (.cons (.aset (.var 0) (.cst (.int 0)) (.bin .fdiv (.idx (.var 0) (.cst (.int 0))) (.var 1))) (.cons (.ret (.var 2)) .nil))
noncomputable def Xh4:Df:=⟨2,3,Xzh⟩
theorem Xxf{p:Nat}{v far:Int}{S:Sto}(h:Xc S p=yz [.int v])(h0:0<far)(hd:Yr far=yx):den F G Xh4 [.ref p,.int far] S=.ok (.int (v%far)) (S.set p (.lst [.int (v/far)])):=by have J:=Ybf h;have L:=X9z (d:=.int (v/far)) h;simp only[den,Xh4,Xzh,Ud,if_true,Uj,Vg];rw[Xb (e:=[yz (.ref p),yz (.int far),yz (.int (v%far))]) (S1:=S) (by simp only[exe,ev,Vbg,Uz,gZ0,gS0,Rk0,J,Xf8 h0,Xk,Vaz])];rw[Xb (e:=[yz (.ref p),yz (.int far),yz (.int (v%far))]) (S1:=S.set p (.lst [.int (v/far)])) (by simp only[exe,ev,gZ0,gS0,Rk0,J,Xcz hd,L])];rw[Xh (d:=.int (v%far)) (S1:=S.set p (.lst [.int (v/far)])) (by simp only[exe,ev,gZ0,gS0,Rk0])]
noncomputable def Xh5:Sts:=.cons (.asg (.var 3) (.bin .mod (.bin .mul (.bin .add (.bin .add (.bin .mod (.var 0) (.cst (.int 2147483629))) (.bin .mul (.cst (.int 7919)) (.var 2))) (.cst (.int 1))) (.cst (.int 48271))) (.cst (.int 2147483647))))
  (.cons (.asg (.var 3) (.bin .mod (.bin .add (.bin .add (.bin .mul (.var 3) (.var 3)) (.bin .mul (.cst (.int 69621)) (.var 2))) (.cst (.int 7))) (.cst (.int 2147483587))))
  (.cons (.asg (.var 1) (.bin .add (.bin .mul (.var 1) (.cst (.int 2147483587))) (.var 3)))
  .nil))
noncomputable def Xxg:Sts:=.cons (.ite (.cmp .ge (.var 0) (.bin .pow (.cst (.int 10)) (.cst (.int 18)))) (.cons (.ret (.lst (.cons (.bin .sub (.var 0) (.bin .pow (.cst (.int 10)) (.cst (.int 18)))) .nil))) .nil) .nil)
 (.cons (.asg (.var 1) (.cst (.int 0))) (.cons (.for (.var 2) (.rng (.cons (.cst (.int 64)) .nil)) Xh5) (.cons (.ret (.lst (.cons (.var 1) .nil))) .nil)))
noncomputable def Xjn:Df:=⟨1,4,Xxg⟩
theorem Xxh(c a j:Int)(x:Option D)(S:Sto):∃a' J,pd F G Xh5 [yz (.int c),yz (.int a),yz (.int j),x] S=.ok (.nx [yz (.int c),yz (.int a'),yz (.int j),yz (.int J)]) S:=by
 have m1:Yq 7919 j=true:=Xp1 (by decide) (by decide);have Y:∀y,Yq y 48271=true:=λy=>Xcr (by decide) (by decide);have m3:Yq 69621 j=true:=Xp1 (by decide) (by decide);have m4:∀y,Yq y 2147483587=true:=λy=>Xcr (by decide) (by decide);have p1:(0:Int)<2147483629:=by decide
 have p2:(0:Int)<2147483647:=by decide
 have L:(0:Int)<2147483587:=by decide
 generalize hb:((c%2147483629+7919*j+1)*48271)%2147483647=b;have b1:0<=b:=by rw[<-hb];exact Vfp _ (by decide)
 have b2:b<2147483647:=by rw[<-hb];exact Vem _ (by decide)
 have m5:Yq b b=true:=Xcr (by omega) (by omega);refine⟨a*2147483587+(b*b+69621*j+7)%2147483587,(b*b+69621*j+7)%2147483587,?_⟩;unfold Xh5;rw[Xb (e:=[yz (.int c),yz (.int a),yz (.int j),yz (.int b)]) (S1:=S) (by simp only[exe,ev,gZ0,gS0,Rk0,Xf8 p1,Xa6 m1,Xx,Xa6 (Y _),Xf8 p2,Xk,Vaz,hb])];rw[Xb (e:=[yz (.int c),yz (.int a),yz (.int j),yz (.int ((b*b+69621*j+7)%2147483587))]) (S1:=S) (by simp only[exe,ev,gZ0,gS0,Rk0,Xa6 m5,Xa6 m3,Xx,Xf8 L,Xk,Vaz])];rw[Xb (e:=[yz (.int c),yz (.int (a*2147483587+(b*b+69621*j+7)%2147483587)),yz (.int j),yz (.int ((b*b+69621*j+7)%2147483587))]) (S1:=S) (by simp only[exe,ev,gZ0,gS0,Rk0,Xa6 (m4 _),Xx,Xk,Vaz])];simp only[pd]
theorem X11(c a:Int)(S:Sto)(L:En)(Y:¬ (10:Int)^(18:Int).toNat<=c)(h1:exe F G (.for (.var 2) (.rng (.cons (.cst (.int 64)) .nil)) Xh5) [yz (.int c),yz (.int 0),yy,yy] S=.ok (.nx L) S)(h2:L[1]?=yz (yz (.int a))):
  den F G Xjn [.int c] S=.ok (.ref (ll S)) (S++[.lst [.int a]]):=by
 have hp:Xu .pow (.int 10) (.int 18) S=.ok (.int (10^(18:Int).toNat)) S:=Xf9 (by decide+kernel) S;generalize (10:Int)^(18:Int).toNat=w at hp Y;simp only[den,Xjn,Xxg,Ud,if_true,Uj,Vg];rw[Xb (e:=[yz (.int c),yy,yy,yy]) (S1:=S) (by simp only[exe,ev,Vbg,Uz,gZ0,gS0,Rk0,hp,Xi,Xw,Xf,decide_eq_false Y];simp only[pd])];rw[Xb (e:=[yz (.int c),yz (.int 0),yy,yy]) (S1:=S) (by simp only[exe,ev,Rk0,Xk,Vaz])];have J:=Xb (ss:=.cons (.ret (.lst (.cons (.var 1) .nil))) .nil) h1;rw[J];rw[Xh (d:=.ref (ll S)) (S1:=S++[.lst [.int a]]) (by simp only[exe,ev,evs,h2,Rk0,Ud];rfl)]
theorem Xt8(c:Int)(S:Sto)(L:(10:Int)^(18:Int).toNat<=c):∃a,den F G Xjn [.int c] S=.ok (.ref (ll S)) (S++[.lst [.int a]]):=by have J:Xu .pow (.int 10) (.int 18) S=.ok (.int (10^(18:Int).toNat)) S:=Xf9 (by decide+kernel) S;generalize (10:Int)^(18:Int).toNat=w at J L;refine⟨c-w,?_⟩;simp only[den,Xjn,Xxg,Ud,if_true,Uj,Vg];rw[Xh (d:=.ref (ll S)) (S1:=S++[.lst [.int (c-w)]]) (by simp only[exe,ev,Vbg,Uz,gZ0,gS0,Rk0,J,Xi,Xw,Xf,decide_eq_true L];rw[Xh (d:=.ref (ll S)) (S1:=S++[.lst [.int (c-w)]]) (by simp only[exe,ev,evs,gZ0,Rk0,J,Yd,Ud];rfl)])]
theorem X12(c:Int)(S:Sto):∃a,den F G Xjn [.int c] S=.ok (.ref (ll S)) (S++[.lst [.int a]]):=by
 by_cases L:(10:Int)^(18:Int).toNat<=c;·exact Xt8 c S L
 obtain⟨xs,Y,hl⟩:=Xal (m:=(64:Int)) (by decide) (Xxd (by decide));have J:=Xbu (F:=F) (G:=G) (t:=.var 2) (es:=.cons (.cst (.int 64)) .nil) (b:=Xh5)
  (env:=[yz (.int c),yz (.int 0),yy,yy]) (S:=S) (S1:=S) (ds:=[.int 64]) (xs:=xs) (λi e S'=>S'=S/\∃a x y,e=[yz (.int c),yz (.int a),x,y])
  (by simp only[evs,ev,Rk0]) Y ⟨rfl,0,yy,yy,rfl⟩ (λi d e S' hd hP=>by obtain⟨rfl,a,x,y,rfl⟩:=hP;obtain⟨rfl,hi⟩:=Xbf Y hd;obtain⟨a',b',st⟩:=Xxh (F:=F) (G:=G) c a i y S';exact⟨_,_,S',rfl,st,rfl,a',_,_,rfl⟩)
 obtain⟨e',S',h1,rfl,a,x,y,rfl⟩:=J;exact⟨a,X11 c a S' _ L h1 rfl⟩
noncomputable def wh:D->Bool
 |.int _=>yx|_=>yw
def good(S:Sto)(d:D):Prop:=∃k,kdD S d=yz k/\∀c,k≠.exc c
theorem X13(h:∀c,k≠.exc c):∃b,Xac k [.int]=yz b/\(b=yx ↔ k=.int\/k=.bool):=by cases k<;>first|exact⟨_,rfl,by simp⟩|exact aB0 rfl (h _)
theorem Xxi(h:∀c,k≠.exc c):∃b,Xac k [.bool]=yz b/\(b=yx ↔ k=.bool):=by cases k<;>first|exact⟨_,rfl,by simp⟩|exact aB0 rfl (h _)
theorem X90(h:kdD S d=yz k):wh d=yx ↔ k=.int:=by
 cases d with
 |ref n=>simp only[kdD]at h;split at h<;>first|(cases h;simp[wh])|cases h
 |fn _ _=>cases h|_=>cases h;simp[wh]
noncomputable def Xt9:Sts:=.cons (.ret (.and (.isi (.var 0) [.int]) (.not (.isi (.var 0) [.bool])))) .nil
noncomputable def Xc0:Df:=⟨1,1,Xt9⟩
theorem Xua(h:good S d):den F G Xc0 [d] S=.ok (.bl (wh d)) S:=by
 obtain⟨kd,h1,h2⟩:=h;obtain⟨b1,i1,L⟩:=X13 h2;obtain⟨b2,i2,Y⟩:=Xxi h2;have J:=X90 h1;simp only[den,Xc0,Xt9,Ud,pd,exe,ev,Uj,Vg,if_true,U0,Vv,gZ0,Rk0,h1,V5,i1,i2,Xf];cases b1 with
 |false=>
  have e:wh d=false:=by
   cases q:wh d with
   |false=>rfl|true=>exact aB0 (L.mpr (.inl (J.mp q))) Uu
  rw[e];rfl|true=>
  cases b2 with
  |false=>have e:wh d=true:=J.mpr (by rcases L.mp rfl with z|z;exact z;exact aB0 (Y.mpr z) Uu);rw[e];rfl|true=>
   have e:wh d=false:=by
    cases q:wh d with
    |false=>rfl|true=>have z1:=J.mp q;have z2:=Y.mp rfl;rw[z1]at z2;cases z2
   rw[e];rfl
noncomputable def wi(d:D)(lw hi:Int):Bool:=match d with
 |.int i=>decide (lw<=i)&&decide (i<=hi)|_=>yw
noncomputable def Xp3(f:Nat):Sts:=.cons (.ret (.and (.call f (.cons (.var 0) .nil)) (.chn .le .le (.var 1) (.var 0) (.var 2)))) .nil
noncomputable def Xga(f:Nat):Df:=⟨3,3,Xp3 f⟩
theorem Xrq{lw hi:Int}(h:F f [d] S=.ok (.bl (wh d)) S):den F G (Xga f) [d,.int lw,.int hi] S=.ok (.bl (wi d lw hi)) S:=by
 simp only[den,Xga,Xp3,Ud,pd,exe,ev,evs,Uj,Vg,if_true,U0,Vv,gZ0,gS0,Rk0,h,Xf];cases d with
 |int i=>simp only[wh,wi,Xw,Xi];cases decide (lw<=i)<;>rfl|_=>rfl
theorem X64(h1:lw<=i)(h2:i<=hi):wi (.int i) lw hi=true:=by simp only[wi,decide_eq_true h1,decide_eq_true h2,Vc2]
theorem Xhb(S:Sto)(i:Int):good S (.int i):=⟨.int,rfl,λc z=>nomatch z⟩
theorem Xe6(S:Sto)(d:D)(h:∀n,d≠.ref n)(hf:∀f m,d≠.fn f m:=by intro _ _ z;cases z):good S d:=by
 cases d with
 |fn f m=>exact aB0 rfl (hf f m)|ref n=>exact aB0 rfl (h n)|non=>exact⟨.non,rfl,λ_ z=>nomatch z⟩|bl _=>exact⟨.bool,rfl,λ_ z=>nomatch z⟩|int _=>exact⟨.int,rfl,λ_ z=>nomatch z⟩|str _=>exact⟨.str,rfl,λ_ z=>nomatch z⟩|tup _=>exact⟨.tuple,rfl,λ_ z=>nomatch z⟩|fro _=>exact⟨.list,rfl,λ_ z=>nomatch z⟩
theorem Xy(h:ev F G c env S=.ok (.bl yw) S'):exe F G (.ite c a .nil) env S=.ok (.nx env) S':=by rw[exe,h,Rk0];simp only[Xf,pd]
end
noncomputable def Xe7(Y J c3 L:Nat):Ex:=.lst (.cons (.isi (.var 0) [.cls Y]) (.cons (.isi (.var 0) [.cls J]) (.cons (.isi (.var 0) [.cls c3]) (.cons (.isi (.var 0) [.cls L]) .nil))))
noncomputable def words1:LD:=[.str "net",.str "face",.str "point",.str "apart",.str "many",.str "text",.str "row",.str "number",.str "level",.str "crowd",.str "way",.str "closed"]
noncomputable def words2:LD:=[.str "swap",.str "places",.str "deed",.str "line"]
noncomputable def Xdv:LD->Exs
 |[]=>.nil|d::r=>.cons (.cst d) (Xdv r)
noncomputable def Xrr:Sts:=.cons (.asg (.var 1) (Xe7 1 2 3 4)) (.cons (.asg (.var 1) (.bin .add (.var 1) (Xe7 5 6 7 8))) (.cons (.asg (.var 1) (.bin .add (.var 1) (Xe7 9 10 11 12))) (.cons (.asg (.var 1) (.bin .add (.var 1) (Xe7 13 14 15 16)))
  (.cons (.ite (.or (.cmp .ne (.mth .count (.var 1) (.cons (.cst (.bl yx)) .nil)) (.cst (.int 1))) (.not (.isi (.var 0) [.valueError]))) (.cons (.ret (.cst (.str "other"))) .nil) .nil)
  (.cons (.asg (.var 2) (.lst (Xdv words1))) (.cons (.ret (.idx (.bin .add (.var 2) (.lst (Xdv words2))) (.mth .index (.var 1) (.cons (.cst (.bl yx)) .nil)))) .nil))))))
noncomputable def Xh6:Df:=⟨1,3,Xrr⟩
noncomputable def Xc1(c:Nat):D:=(words1++words2).getD (c-1) .non
section
variable{F:Fn}{G:LD}{n c:Nat}{env:En}{S:Sto}
noncomputable def isK(c x:Nat):D:=.bl (x==0||x==c)
theorem Xp4(h0:env[0]?=yz (yz (.ref n)))(hn:S[n]?=yz (.exc c))(J Y L x4:Nat):ev F G (Xe7 J Y L x4) env S=.ok (.ref (ll S)) (S++[.lst [isK c J,isK c Y,isK c L,isK c x4]]):=by
 have q:∀x,ev F G (.isi (.var 0) [.cls x]) env S=.ok (isK c x) S:=λx=>by simp only[ev,h0,Rk0,kdD,hn,V5,Xac,isT,tyQ,isK];cases (x==0||x==c)<;>rfl
 unfold Xe7;rw[ev];simp only[evs,q,Rk0];exact iP0 (show 4<=big by decide)
theorem Xhc{r:Nat}{xs:LD}(h0:env[0]?=yz (yz (.ref n)))(hn:S[n]?=yz (.exc c))(he:1<ll env)(hr:env[1]?=yz (yz (.ref r)))(hx:Xc S r=yz xs)(hl:(ll xs)<=12)(x1 L J x4:Nat):
  ∃q Y,exe F G (.asg (.var 1) (.bin .add (.var 1) (Xe7 x1 L J x4))) env S=.ok (.nx (env.set 1 (yz (.ref q)))) (S++Y)/\Xc (S++Y) q=yz (xs++[isK c x1,isK c L,isK c J,isK c x4])/\(S++Y)[n]?=yz (.exc c):=by
 refine⟨(S++[O.lst [isK c x1,isK c L,isK c J,isK c x4]]).length,[.lst [isK c x1,isK c L,isK c J,isK c x4]]++[.lst (xs++[isK c x1,isK c L,isK c J,isK c x4])],?_,?_,?_⟩
 ·have aa:(16:Nat)<=big:=by decide
  have h4:(ll xs)+4<=big:=by omega
  have l1:lstM (S++[O.lst [isK c x1,isK c L,isK c J,isK c x4]]) r=yz xs:=X3 hx;have l2:lstM (S++[O.lst [isK c x1,isK c L,isK c J,isK c x4]]) (ll S)=yz [isK c x1,isK c L,isK c J,isK c x4]:=Xg;rw[exe,ev,ev,hr];simp only[Rk0,Xp4 h0 hn,Xu,l1,l2,U4,Vfm,h4,if_true,Xk,Vt]
 ·rw[<-Vt];exact Xg
 ·rw[Vu (Vd.mp hn).1];exact hn
theorem X14(hn:S[n]?=yz (.exc c))(h1:1<=c)(h2:c<=16):∃X,den F G Xh6 [.ref n] S=.ok (Xc1 c) (S++X):=by
 have s1:exe F G (.asg (.var 1) (Xe7 1 2 3 4)) [yz (.ref n),yy,yy] S=.ok (.nx [yz (.ref n),yz (.ref (ll S)),yy]) (S++[.lst [isK c 1,isK c 2,isK c 3,isK c 4]]):=by rw[exe,Xp4 rfl hn];rfl
 obtain⟨q2,Y2,s2,l2,n2⟩:=Xhc (F:=F) (G:=G) (env:=[yz (.ref n),yz (.ref (ll S)),yy]) (S:=S++[.lst [isK c 1,isK c 2,isK c 3,isK c 4]]) (c:=c) (n:=n) rfl (by rw[Vu (Vd.mp hn).1];exact hn) (by simp) rfl Xg (by simp) 5 6 7 8;generalize ah:S++[O.lst [isK c 1,isK c 2,isK c 3,isK c 4]]++Y2=S2 at s2 l2 n2;obtain⟨q3,Y3,s3,l3,n3⟩:=Xhc (F:=F) (G:=G) (env:=[yz (.ref n),yz (.ref q2),yy]) rfl n2 (by simp) rfl l2 (by simp) 9 10 11 12;generalize aj:S2++Y3=S3 at s3 l3 n3;obtain⟨q4,Y4,s4,l4,n4⟩:=Xhc (F:=F) (G:=G) (env:=[yz (.ref n),yz (.ref q3),yy]) rfl n3 (by simp) rfl l3 (by simp) 13 14 15 16;generalize af:S3++Y4=J at s4 l4 n4;simp only[Vbg,Uz]at l4;have ab:X8 [isK c 1,isK c 2,isK c 3,isK c 4,isK c 5,isK c 6,isK c 7,isK c 8,isK c 9,isK c 10,isK c 11,isK c 12,isK c 13,isK c 14,isK c 15,isK c 16]=yz ([1,2,3,4,5,6,7,8,9,10,11,12,13,14,15,16].map λx=>(x==0||x==c)):=rfl;have ai:∀c:Fin 17,1<=c.val->([1,2,3,4,5,6,7,8,9,10,11,12,13,14,15,16].map λx=>(x==0||x==c.val)).countP (· == yx)=1/\([1,2,3,4,5,6,7,8,9,10,11,12,13,14,15,16].map λx=>(x==0||x==c.val)).findIdx? (· == yx)=yz (c.val-1):=by decide+kernel
 obtain⟨k1,k2⟩:=ai ⟨c,by omega⟩ h1;generalize [isK c 1,isK c 2,isK c 3,isK c 4,isK c 5,isK c 6,isK c 7,isK c 8,isK c 9,isK c 10,isK c 11,isK c 12,isK c 13,isK c 14,isK c 15,isK c 16]=L at l4 ab;generalize ([1,2,3,4,5,6,7,8,9,10,11,12,13,14,15,16].map λx=>(x==0||x==c))=B at ab k1 k2;have c1:∀Y,Yv .count (.ref q4) [.bl yx] (J++Y)=.ok (.int 1) (J++Y):=λY=>by simp only[Yv,X3 l4,V5,ab,k1];rfl
 have c2:∀Y,Yv .index (.ref q4) [.bl yx] (J++Y)=.ok (.int (c-1:Nat)) (J++Y):=λY=>by simp only[Yv,X3 l4,V5,ab,k2]
 have rc:∀k Y,Xaf k (.ref q4) (J++Y)=true:=λk Y=>by simp only[Xaf,X3 l4,Option.isSome]
 have s5:exe F G (.ite (.or (.cmp .ne (.mth .count (.var 1) (.cons (.cst (.bl yx)) .nil)) (.cst (.int 1))) (.not (.isi (.var 0) [.valueError]))) (.cons (.ret (.cst (.str "other"))) .nil) .nil) [yz (.ref n),yz (.ref q4),yy] J=.ok (.nx [yz (.ref n),yz (.ref q4),yy]) J:=by have ae:=c1 [];have aa:=rc .count [];rw[Vv]at ae aa;have e1:Xi .ne (.int 1) (.int 1) J=.ok (.bl yw) J:=rfl;refine Xy ?_;simp only[ev,evs,gZ0,gS0,Rk0,aa,if_true,ae,e1,Xf,kdD,n4,V5,Xac,isT,tyQ,Vc1]
 have s6:exe F G (.asg (.var 2) (.lst (Xdv words1))) [yz (.ref n),yz (.ref q4),yy] J=.ok (.nx [yz (.ref n),yz (.ref q4),yz (.ref J.length)]) (J++[.lst words1]):=by kernel_rfl
 have e7:∀env S,evs F G (Xdv words2) env S=.ok words2 S:=λenv S=>by kernel_rfl
 have a5:words2.length<=big:=by decide
 have s7:exe F G (.ret (.idx (.bin .add (.var 2) (.lst (Xdv words2))) (.mth .index (.var 1) (.cons (.cst (.bl yx)) .nil)))) [yz (.ref n),yz (.ref q4),yz (.ref J.length)] (J++[O.lst words1])=.ok (.rt (Xc1 c)) (J++([O.lst words1]++[O.lst words2]++[O.lst (words1++words2)])):=by
  have a1:lstM (J++[O.lst words1]++[O.lst words2]) J.length=yz words1:=X3 Xg;have a2:lstM (J++[O.lst words1]++[O.lst words2]) (J++[O.lst words1]).length=yz words2:=Xg;have a3:words1.length+words2.length<=big:=by decide
  have a4:=X3 (X:=[]) (Xg (S:=J++[O.lst words1]++[O.lst words2]) (xs:=words1++words2));have ac:=c2 ([O.lst words1]++[O.lst words2]++[O.lst (words1++words2)]);have aa:=rc .index ([O.lst words1]++[O.lst words2]++[O.lst (words1++words2)]);simp only[<-Vt]at ac aa ⊢;have ix:Xah (.ref (J++[O.lst words1]++[O.lst words2]).length) (.int (c-1:Nat)) (J++[O.lst words1]++[O.lst words2]++[O.lst (words1++words2)])=.ok (Xc1 c) (J++[O.lst words1]++[O.lst words2]++[O.lst (words1++words2)]):=by
   rw[Vv]at a4;have hl:(words1++words2).length=16:=rfl;have hi:ixN 16 ((c-1:Nat):Int)=yz (c-1):=by unfold ixN;rw[iP0 (by omega),iP0 (by omega),Van]
   have hg:(words1++words2)[c-1]?=yz (Xc1 c):=by
    have:c-1<(words1++words2).length:=by rw[hl];omega
    unfold Xc1;rw[Uh this,V9,Uh this];rfl
   simp only[Xah,Xaw,Xq,a4,V5,hl,hi,hg]
  rw[exe];simp only[ev,evs,gZ0,gS0,Rk0,e7,a5,Xu,a1,a2,a3,if_true,aa,ac,ix]
 refine⟨[O.lst [isK c 1,isK c 2,isK c 3,isK c 4]]++(Y2++(Y3++(Y4++([O.lst words1]++([O.lst words2]++[O.lst (words1++words2)]))))),?_⟩;have e:den F G Xh6 [.ref n] S=match pd F G Xrr [yz (.ref n),yy,yy] S with
  |.ok (.rt v) S=>.ok v S|.ok (.nx _) S=>.ok .non S|.ok _ _=>.bad|.ex n S=>.ex n S|.bad=>.bad:=rfl
 rw[e];unfold Xrr;rw[Xb s1,Xb s2];dsimp only[Vaz];rw[Xb s3];dsimp only[Vaz];rw[Xb s4];dsimp only[Vaz];rw[Xb s5,Xb s6,Xh s7,<-af,<-aj,<-ah];simp only[Vt]
theorem X15{T:List Df}{k f:Nat}(hf:T[f]?=yz Xh6)(h1:1<=c)(h2:c<=16)(P:Sto):∃X,FT T G (k+1) f [.ref P.length] (P++[.exc c])=.ok (Xc1 c) (P++X):=by obtain⟨X,h⟩:=X14 (F:=FT T G k) (G:=G) (n:=P.length) (S:=P++[.exc c]) (by simp) h1 h2;simp only[FT,hf];exact⟨_,by rw[h,Vt]⟩
end
def Xgb(F:Fn)(f:Nat):Prop:=∀(p:Nat) (v far:Int) (S:Sto),Xc S p=yz [.int v]->0<far->Yr far=yx->F f [.ref p,.int far] S=.ok (.int (v%far)) (S.set p (.lst [.int (v/far)]))
theorem Xhd(hf:T[f]?=yz Xh4)(k:Nat):Xgb (FT T G (k+1)) f:=λp v far S h h0 hd=>by simp only[FT,hf];exact Xxf h h0 hd
theorem Xxj(hF:Xgb F f)(Y:evs F G es env S=.ok ds S')(hc:(ll ds:Int)=c)(h0:0<c)(hz:(ll ds)<=big)(hd:Yr c=yx)(L:env[q]?=yz (yz (.ref p)))(hp:Xc S' p=yz [.int v]):
  ∃d∈ds,ev F G (.idx (.lst es) (.call f (.cons (.var q) (.cons (.cst (.int c)) .nil)))) env S=.ok d ((S'++[O.lst ds]).set p (.lst [.int (v/c)])):=by
 have tk:=hF p v c (S'++[.lst ds]) (X3 hp) h0 hd;have r0:=Vfp v (Int.ne_of_gt h0);have r1:=Vem v h0;have J:(v%c).toNat<ll ds:=by omega
 have aa:=Xaa hp;have hl:Xc ((S'++[O.lst ds]).set p (.lst [.int (v/c)])) (ll S')=yz ds:=by rw[Xt7 (by omega)];exact Xg
 refine⟨ds[(v%c).toNat],Vd4 J,?_⟩;have hi:Xah (.ref (ll S')) (.int (v%c)) ((S'++[O.lst ds]).set p (.lst [.int (v/c)]))=.ok ds[(v%c).toNat] ((S'++[O.lst ds]).set p (.lst [.int (v/c)])):=by simp only[Xah,Xaw,Xq,hl,V5,Z.ixN];rw[iP0 r0,iP0 (by omega)];simp only[V5,Uh J]
 simp only[ev,Y,evs,L,Rk0,hz,if_true,tk,hi]
theorem Xkx(hp:Xc S' p=yz [.int v]):Xc ((S'++[O.lst ds]).set p (.lst [.int (v/c)])) p=yz [.int (v/c)]:=by refine Xau ?_;have:=Xaa hp;simp;omega
theorem turns{G:LD}{ns:LI}(c:Int)(h1:1<=c)(h2:c<1000000)(h0:env[0]?=yz (yz (.fro (ns.map D.int)))):
  ∃m:Int,evs F G (.cons (.blt .max (.cons (.cst (.int 1)) (.cons (.blt .min (.cons (.blt .len (.cons (.var 0) .nil)) (.cons (.cst (.int c)) .nil))) .nil))) .nil) env S=.ok [.int m] S/\0<=m/\m<=c:=by
 have Y:Xm .len [.fro (ns.map D.int)] S=.ok (.int (ll ns)) S:=by simp only[Xm,Xq,Vl]
 have L:∀i j:Int,Xm .min [.int i,.int j] S=.ok (.int (if j<i then j else i)) S:=λ_ _=>rfl;have J:∀i j:Int,Xm .max [.int i,.int j] S=.ok (.int (if j>i then j else i)) S:=λ_ _=>rfl;refine⟨if (if c<(ll ns:Int) then c else (ll ns:Int))>1 then (if c<(ll ns:Int) then c else (ll ns:Int)) else 1,by simp only[evs,ev,h0,Rk0,Y,L,J],?_,?_⟩
 ·split;·split<;>omega
  ·omega
 ·split;·split<;>omega
  ·omega
end Z
end
section
namespace Z
noncomputable def Xzi(s:Int)(f:LI):LI:=List.zipWith (λa b=>a+s*b) (f++[0]) (0::f)
noncomputable def stepT(s:Int)(f:LI)(n:Int):LI:=(Xzi s f).set f.length ((Xzi s f).getD f.length 0+n)
end Z
end
section
namespace Z
open PySem PySem.Spec PyProof.Rows L2
section
variable{F:Fn}{G:LD}
theorem Xky{get:Sto->Nat->Option (Option D)}{body:En->LD->Sto->R (LD)}(xs:LD)(y:Nat->D)(P:Nat->En->Sto->Prop)(L:∀i e S,P i e S->get S i=yz xs[i]?)
  (step:∀i d e S,xs[i]?=yz d->P i e S->∃Y S2,Xk t d e=yz Y/\body Y ((Vm i).map y) S=.ok ((Vm (i+1)).map y) S2/\P (i+1) Y S2):
  ∀(J i:Nat) (e:En) (S:Sto),P i e S->i<=ll xs->ll xs<J+i->∃e' S',X9 get t body J i e ((Vm i).map y) S=.ok ((Vm (ll xs)).map y) S'/\P (ll xs) e' S'
 |0=>λi e S h h1 h2=>by omega|J+1=>λi e S h h1 h2=>by
  cases q:xs[i]? with
  |none=>
   have hi:i=ll xs:=by have:=U2.mp q;omega
   refine⟨e,S,?_,hi▸h⟩;simp only[X9,L i e S h,q];rw[hi]|some d=>obtain⟨Y,S2,a1,a2,a3⟩:=step i d e S q h;have hi:i<ll xs:=(Vd.mp q).1;obtain⟨e',S',b1,b2⟩:=Xky xs y P L step J (i+1) Y S2 a3 (by omega) (by omega);refine⟨e',S',?_,b2⟩;simp only[X9,L i e S h,q,a1,a2];exact b1
theorem Yx(h:n<=1000):n<=big:=V4 h (by decide)
theorem Xdw{n:Nat}(xs:LD)(y:Nat->D)(P:Nat->En->Sto->Prop)(aa:evit F G it env S=.ok src S1)(hm:src.most S1=ll xs)(hb:(ll xs)<=big)
  (h0:P 0 (env++Vg n yy) S1) (L:∀i e S,P i e S->src.get S i=yz xs[i]?)
  (step:∀i d e S,xs[i]?=yz d->P i e S->∃Y S2,Xk t d e=yz Y/\ev F G elt Y S=.ok (y i) S2/\P (i+1) Y S2):
  ∃e' S',ev F G (.cmr yw n (.cons t it .nil .nil) elt) env S=.ok (.ref (ll S')) (S'++[.lst ((Vm (ll xs)).map y)])/\P (ll xs) e' S':=by
 obtain⟨e',S',a,b⟩:=Xky (get:=src.get) (t:=t) (body:=Yg (λenv S=>evts F G .nil env S) (λenv J S=>(ev F G elt env S).bind λy S=>if (ll J)<big then .ok (J++[y]) S else .bad)) xs y P L
  (λi d e S hd hP=>by
   obtain⟨Y,S2,a1,a2,a3⟩:=step i d e S hd hP;refine⟨Y,S2,a1,?_,a3⟩;have hi:i<ll xs:=(Vd.mp hd).1;simp only[Yg,evts,Rk0,if_true,a2,Vl,Uo];rw[iP0 (by omega),Vg1,Vcw]
   rfl) (ll xs+1) 0 _ S1 h0 (Um _) (by omega)
 refine⟨e',S',?_,b⟩;simp only[ev,aa,Rk0,hm];have a':X9 src.get t (Yg (λenv S=>evts F G .nil env S) (λenv J S=>(ev F G elt env S).bind λy S=>if (ll J)<big then .ok (J++[y]) S else .bad)) (ll xs+1) 0 (env++Vg n yy) [] S1=.ok ((Vm (ll xs)).map y) S':=a;rw[a'];simp only[Rk0];rfl
theorem Xnl(h1:evs F G es env S=.ok ds S1)(h2:Ys ds=yz xs):evit F G (.rng es) env S=.ok (.con xs) S1:=by simp only[evit,h1,Rk0,h2]
theorem Xub(h1:ev F G e env S=.ok (.tup xs) S1):evit F G (.val e) env S=.ok (.con xs) S1:=by simp only[evit,h1,Rk0,Yo]
noncomputable def Xdx:Sts:=.cons (.asg (.var 2) (.bin .fdiv (.bin .mul (.var 2) (.bin .sub (.var 0) (.var 3))) (.bin .add (.var 3) (.cst (.int 1))))) .nil
noncomputable def Xgc:Df:=⟨2,4,.cons (.asg (.var 2) (.cst (.int 1))) (.cons (.for (.var 3) (.rng (.cons (.var 1) .nil)) Xdx) (.cons (.ret (.var 2)) .nil))⟩
theorem X91{i:Nat}(h:i<13):Yr ((i:Int)+1)=true:=by
 have:∀j:Fin 13,Yr ((j.val:Int)+1)=true:=by decide+kernel
 exact this ⟨i,h⟩
theorem Xxk(n m t i:Int)(S:Sto)(J:Yq t (n-i)=yx)(L:Yr (i+1)=yx):pd F G Xdx [yz (.int n),yz (.int m),yz (.int t),yz (.int i)] S=.ok (.nx [yz (.int n),yz (.int m),yz (.int (t*(n-i)/(i+1))),yz (.int i)]) S:=by unfold Xdx;refine Xb (e:=[yz (.int n),yz (.int m),yz (.int (t*(n-i)/(i+1))),yz (.int i)]) (S1:=S) ?_;simp only[exe,ev,gZ0,gS0,Rk0,Yd,Xa6 J,Xx,Xcz L,Xk,Vaz]
theorem Xxl(n m t:Int)(S:Sto)(J:En)(S':Sto)(h1:exe F G (.for (.var 3) (.rng (.cons (.var 1) .nil)) Xdx) [yz (.int n),yz (.int m),yz (.int 1),yy] S=.ok (.nx J) S')(h2:J[2]?=yz (yz (.int t))):
  den F G Xgc [.int n,.int m] S=.ok (.int t) S':=by
 simp only[den,Xgc,Ud,if_true,Uj,Vg];rw[Xb (e:=[yz (.int n),yz (.int m),yz (.int 1),yy]) (S1:=S) (by simp only[exe,ev,Rk0,Xk];rfl)];rw[Xb (ss:=.cons (.ret (.var 2)) .nil) h1];rw[Xh (d:=.int t) (S1:=S') (by simp only[exe,ev,h2,Rk0])]
noncomputable def Xxm(row:D)(x:Option D):En:=[yz row,yy,x]
noncomputable def Xa(l:LI):D:=.tup (l.map D.int)
def Xdy(F:Fn)(i:Nat):Prop:=∀(d:D) (S:Sto),good S d->F i [d] S=.ok (.bl (wh d)) S
theorem Xh7:∀l:List Bool,X8 (l.map D.bl)=yz l
 |[]=>rfl|x::l=>by simp only[Uj,X8,Xh7 l,V7]
noncomputable def Xlo(J:Nat):Ex:=.blt .all (.cons (.cmr yw 2 (.cons (.var 2) (.val (.var 0)) .nil .nil) (.call J (.cons (.var 2) .nil))) .nil)
noncomputable def Xei(J:Nat):Df:=⟨1,1,.cons (.ret (.and (.isi (.var 0) [.tuple]) (Xlo J))) .nil⟩
theorem X16{l:List Bool}:Xm .all [.ref (ll S)] (S++[.lst (l.map D.bl)])=.ok (.bl (l.all id)) (S++[.lst (l.map D.bl)]):=by simp only[Xm,Xg,V5,Xh7]
theorem Xuc{α β:Type}[Inhabited α](f:α->β)(xs:List α):(Vm (ll xs)).map (λi=>f (xs.getD i default))=xs.map f:=by
 refine List.ext_getElem (by simp) λi h1 h2=>?_;have:i<ll xs:=by simpa using h2
 simp[this]
theorem Xnm(Y:Xdy F i0)(hg:∀d∈xs,good S d)(hl:(ll xs)<=1000):ev F G (Xlo i0) [yz (.tup xs)] S=.ok (.bl (xs.all wh)) (S++[.lst ((xs.map wh).map D.bl)]):=by
 obtain⟨e',S',h2,L,h4⟩:=Xdw (F:=F) (G:=G) (t:=.var 2) (n:=2) (elt:=.call i0 (.cons (.var 2) .nil)) (env:=[yz (.tup xs)]) (S:=S) (S1:=S) xs (λi=>.bl (wh (xs.getD i default)))
  (λi e S'=>S'=S/\∃x,e=Xxm (.tup xs) x)
  (Xub (e:=.var 0) (by simp only[ev,gZ0])) rfl (Yx hl) ⟨rfl,yy,rfl⟩ (λ_ _ _ _=>rfl)
  (λi d e S' hd hP=>by
   obtain⟨rfl,x,rfl⟩:=hP;have hm:d∈xs:=U8 hd;have e:xs.getD i default=d:=by rw[V9,hd];rfl
   refine⟨Xxm (.tup xs) (yz d),S',rfl,?_,rfl,yz d,rfl⟩;rw[e];simp only[ev,evs,Xxm,gZ0,gS0,Rk0,Y d S' (hg d hm)])
 have J:S'=S:=L;subst J;have e1:((Vm (ll xs)).map λi=>D.bl (wh (xs.getD i default)))=(xs.map wh).map D.bl:=by rw[Xuc (λd=>D.bl (wh d)) xs,Vam];rfl
 rw[e1]at h2;simp only[Xlo,ev,evs]at h2 ⊢;rw[h2];simp only[Rk0];rw[X16];simp[Function.comp]
theorem Xxn(J:Xdy F i0)(hg:∀d∈xs,good S d)(hl:(ll xs)<=1000):den F G (Xei i0) [.tup xs] S=.ok (.bl (xs.all wh)) (S++[.lst ((xs.map wh).map D.bl)]):=by have h:=Xnm (G:=G) J hg hl;have hk:kdD S (.tup xs)=yz .tuple:=rfl;simp only[den,Xei,Ud,if_true,Uj,Vg,U0,Vv];rw[Xh (d:=.bl (xs.all wh)) (S1:=S++[.lst ((xs.map wh).map D.bl)]) (by simp only[exe];rw[ev,ev];simp only[ev,gZ0,Rk0,hk,V5,Xac,isT,tyQ,Xf];rw[h,Rk0])]
theorem Xud(h:∀c,k≠.exc c)(J:k≠.tuple):Xac k [.tuple]=yz false:=by cases k<;>first|rfl|exact aB0 rfl (h _)|cases J rfl
theorem X17(hk:kdD S d=yz k)(h:∀c,k≠.exc c)(J:k≠.tuple):den F G (Xei i0) [d] S=.ok (.bl yw) S:=by have hi:=Xud h J;simp only[den,Xei,Ud,if_true,Uj,Vg,U0,Vv];rw[Xh (d:=.bl yw) (S1:=S) (by simp only[exe];rw[ev,ev];simp only[ev,gZ0,Rk0,hk,V5,hi,Xf])]
noncomputable def wt:D->Bool
 |.tup xs=>xs.all wh|_=>yw
def Xzj(F:Fn)(i:Nat):Prop:=∀(d:D) (S:Sto),good S d->(∀xs,d=.tup xs->(∀x∈xs,good S x)/\(ll xs)<=1000)->∃X,F i [d] S=.ok (.bl (wt d)) (S++X)
theorem Xxo(hf:T[i]?=yz (Xei i0))(k:Nat)(Y:Xdy (FT T G k) i0):Xzj (FT T G (k+1)) i:=λd S hg J=>by
 simp only[FT,hf];by_cases h:∃xs,d=.tup xs;·obtain⟨xs,rfl⟩:=h;obtain⟨h1,h2⟩:=J xs rfl;exact⟨_,Xxn Y h1 h2⟩
 ·obtain⟨kd,h1,h2⟩:=hg;have L:kd≠.tuple:=λz=>by
   subst z;cases d with
   |tup xs=>exact h ⟨xs,rfl⟩|ref n=>simp only[kdD]at h1;split at h1<;>cases h1|_=>cases h1
  have e:wt d=false:=by
   cases d with
   |tup xs=>exact aB0 ⟨xs,rfl⟩ h|_=>rfl
  refine⟨[],?_⟩;rw[e,Vv];exact X17 h1 h2 L
theorem Xkz(hf:T[i]?=yz Xc0)(k:Nat):Xdy (FT T G (k+1)) i:=λd S h=>by simp only[FT,hf];exact Xua h
noncomputable def Xh8(i2:Nat)(ig:Nat:=0):Df:=⟨1,1,.cons (.ret (.and (.call i2 (.cons (.var 0) .nil)) (.chn .le .le (.cst (.int 1)) (.blt .len (.cons (.var 0) .nil)) (.bin .add (.glb ig) (.cst (.int 1)))))) .nil⟩
noncomputable def Xhe(J:Nat):Df:=⟨1,1,.cons (.ite (.not (.call J (.cons (.var 0) .nil))) (.cons (.rse 7 (.cst (.str "a row is due"))) .nil) .nil) .nil⟩
theorem X65(h:F i4 [d] S=.ok (.bl yx) S1):den F G (Xhe i4) [d] S=.ok .non S1:=by simp only[den,Xhe,Ud,if_true,Uj,Vg,U0,Vv];rw[Xb (e:=[yz d]) (S1:=S1) (Xy (by simp only[ev,evs,gZ0,Rk0,h,Xf];rfl))];simp only[pd]
theorem Xnn{α:Type}(xs:List α)(n:Nat):cut xs yy (yz (n:Int))=xs.take n:=by
 unfold cut Xb9;simp only[List.drop_zero,Nat.sub_zero];rw[iP0 (by omega)];simp only[Van];by_cases h:n<=ll xs;·rw[Vcn h]
 ·rw[Nat.min_eq_right (by omega),Vap (by omega),Vap (by omega)]
end
noncomputable def ps(l:LI)(k:Nat):Int:=(l.take k).sum
noncomputable def pre(l:LI)(n:Nat):LI:=(Vm n).map λj=>ps l (j+1)
section
variable{F:Fn}{G:LD}
theorem Xb5(h:ev F G c env S=.ok (.bl yx) S1):exe F G (.ite c (.cons (.rse k (.cst (.str s))) .nil) .nil) env S=.ex (ll S1) (S1++[.exc k]):=by rw[exe,h,Rk0];simp only[Xf,pd,exe,ev,Rk0]
variable{S:Sto}
theorem Xue(i j:Int)(S:Sto):Xi .ne (.int i) (.int j) S=.ok (.bl (!(i==j))) S:=by simp only[Xi,Xw,eqD,Xdi,Xam,X4,Vf9,Va7,Vef];rfl
end
section
variable{F:Fn}{G:LD}
theorem Xgd(h:Xc S q=yz xs)(hl:(ll xs)<1000):Yv .append (.ref q) [x] S=.ok .non (S.set q (.lst (xs++[x]))):=by have h':lstM S q=yz xs:=h;simp only[Yv,h'];rw[iP0 (V8 hl (by decide))]
theorem Xp5(h1:k<1048576)(h2:(ll x)*k.toNat<=big)(L:-(1048576)<k)(J:x.isEmpty=yw):Xu .mul (.tup x) (.int k) S=.ok (.tup (Vg k.toNat x).flatten) S:=by simp only[Xu];rw[iP0 ⟨h1,h2,L,J⟩]
theorem Xhf(a:LI)(n:Nat)(S:Sto):Xaj (Xa a) yy (yz (n:Int)) S=.ok (Xa (a.take n)) S:=by unfold Xa;simp only[Xaj,Xnn,List.map_take]
theorem Xge(h1:Xc S a=yz x)(h2:Xc S b=yz y)(hl:(ll x)+ll y<=1000):Xu .add (.ref a) (.ref b) S=.ok (.ref (ll S)) (S++[.lst (x++y)]):=by have L:lstM S a=yz x:=h1;have J:lstM S b=yz y:=h2;simp only[Xu,L,J];exact iP0 (Yx hl)
theorem X18(n:Nat):Z.ixN (n+1) (-1)=yz n:=by unfold Z.ixN;rw[iN0 (by omega),iP0 (by omega)];congr 1;omega
theorem Xxp{q n:Nat}{l:LI}(h:Xc S q=yz (l.map D.int))(hl:(ll l)=n+1):Xah (.ref q) (.int (-1)) S=.ok (.int (l.getD n 0)) S:=by
 have J:n<ll l:=by omega
 simp only[Xah,Xaw,Xq,h,V5,Vl,hl,X18];simp[J]
theorem Xjo(P:Nat->En->Sto->Prop)(h1:ev F G e0 env S=.ok (.ref r) S1)(L:Xc S1 r=yz xs)(hk:∀i e S',P i e S'->Xc S' r=yz xs)(h0:P 0 env S1)
  (step:∀i d e S,xs[i]?=yz d->P i e S->∃e1 Y S2,Xk t d e=yz e1/\pd F G b e1 S=.ok (.nx Y) S2/\P (i+1) Y S2):
  ∃J S',exe F G (.for t (.val e0) b) env S=.ok (.nx J) S'/\P (ll xs) J S':=by
 obtain⟨J,S',a,b'⟩:=Xdb (get:=(Src.ref r).get) (t:=t) (body:=λenv S=>pd F G b env S) xs P (λi e S' hP=>by simp only[Src.get,hk i e S' hP,V7]) step (ll xs+1) 0 env S1 h0 (Um _) (by omega);refine⟨J,S',?_,b'⟩;have hs:Yo S1 (.ref r)=yz (.ref r):=by simp only[Yo,L,V7]
 simp only[exe,evit,h1,Rk0,hs,Src.most,L,Vdc];exact a
theorem Xc2(i j:Int)(S:Sto):Xi .eq (.int i) (.int j) S=.ok (.bl (i==j)) S:=by simp only[Xi,Xw,eqD,Xdi,Xam,X4,Vf9,Va7,Vef];rfl
end
mutual
theorem Xk0(h:∀n p,look n=yz p->look' n=yz p):∀(d:D) (p:Vcs),X4 look d=yz p->X4 look' d=yz p
 |.non=>λp e=>by simpa only[X4] using e|.bl b=>λp e=>by simpa only[X4] using e|.int i=>λp e=>by simpa only[X4] using e|.str x=>λp e=>by simpa only[X4] using e|.tup xs=>λp e=>by simp only[X4,Ul]at e ⊢;obtain⟨ps,L,J⟩:=e;exact⟨ps,datFs_mono h xs ps L,J⟩|.fro _=>λp e=>by simp[X4]at e|.fn _ _=>λp e=>by simp[X4]at e|.ref n=>λp e=>by simp only[X4]at e ⊢;exact h n p e
theorem datFs_mono(h:∀n p,look n=yz p->look' n=yz p):∀(ds:LD) (ps:List Vcs),datFs look ds=yz ps->datFs look' ds=yz ps
 |[]=>λps e=>by simpa only[datFs] using e|d::ds=>λps e=>by
  simp only[datFs]at e ⊢;cases J:X4 look d with
  |none=>rw[J]at e;cases e|some q=>
   cases L:datFs look ds with
   |none=>rw[J,L]at e;cases e|some Y=>rw[J,L]at e;rw[Xk0 h d q J,datFs_mono h ds Y L];exact e
end
def Sm(S:Sto)(dep J:Nat)(d:D):Prop:=∃p,X4 (Xae S 3) d=yz p/\p.showable=yx/\Xax p=yx/\p.depth<=dep/\szD p<=J
theorem Sm.mono(h:Sm S a b d)(h1:a<=a')(h2:b<=b'):Sm S a' b' d:=by obtain⟨p,L,J,q3,Y,q5⟩:=h;exact⟨p,L,J,q3,V4 Y h1,V4 q5 h2⟩
theorem Xuf(i:Int):szI i<=1921:=by unfold szI;split<;>omega
theorem X66(S:Sto)(i:Int)(h:i.natAbs.log2<1920):Sm S 0 1921 (.int i):=⟨.int i,by simp only[X4],by simp only[Vav,decide_eq_true h],by simp only[Xax],by simp only[Va7];exact Vf _,by simp only[szD];exact Xuf i⟩
theorem sms:∀ds:LD,(∀d∈ds,∃p,X4 look d=yz p/\p.showable=yx/\Xax p=yx/\p.depth<=a/\szD p<=b) ->
  ∃ps,datFs look ds=yz ps/\Vbw ps=yx/\dctEs ps=yx/\Vb7 ps<=a/\szDs ps<=ll ds*(b+2)
 |[]=>λ_=>⟨[],by simp only[datFs],by simp only[Vbw],by simp only[dctEs],by simp only[Vb7];exact Um _,by simp only[szDs];exact Um _⟩|d::ds=>λh=>by obtain⟨p,p1,p2,J,p4,p5⟩:=h d (by simp);obtain⟨ps,q1,Y,q3,L,q5⟩:=sms ds λx hx=>h x (by simp[hx]);refine⟨p::ps,by simp only[datFs,p1,q1],by simp only[Vbw,p2,Y,Vc2],by simp only[dctEs,J,q3,Vc2],by simp only[Vb7];exact Nat.max_le.mpr ⟨p4,L⟩,?_⟩;simp only[szDs,U4,Vgt];omega
theorem Xug(h:∀d∈ds,Sm S a b d):Sm S (a+1) (ll ds*(b+2)+3) (.tup ds):=by obtain⟨ps,L,J,q3,Y,q5⟩:=sms ds h;refine⟨.tuple ps,by simp only[X4,L,V7],by simp only[Vav,J],by simp only[Xax,q3],by simp only[Va7];omega,by simp only[szD];omega⟩
theorem X19(h:∀x∈l,x.natAbs.log2<1920):Sm S 1 (ll l*1923+3) (Xa l):=by
 have:=Xug (S:=S) (ds:=l.map D.int) (a:=0) (b:=1921) λd hd=>by obtain⟨x,J,rfl⟩:=U5.mp hd;exact X66 S x (h x J)
 rwa [Vl]at this
def Ext(p:Nat)(S S':Sto):Prop:=∀n o,n≠p->S[n]?=yz o->S'[n]?=yz o
section
variable{p:Nat}{S S' S1 S2 X:Sto}
theorem Ext.refl:Ext p S S:=λ_ _ _ h=>h
theorem Ext.trans(a:Ext p S S1)(b:Ext p S1 S2):Ext p S S2:=λn o h e=>b n o h (a n o h e)
theorem Ext.app:Ext p S (S++X):=λn o _ e=>by rw[Vu (Vd.mp e).1];exact e
theorem Ext.set:Ext p S (S.set p o):=λn o h e=>by rw[Vao (Ne.symm h)];exact e
theorem Xbo(h:Xc S q=yz xs):S[q]?=yz (.lst xs):=by
 unfold Xc at h;split at h;·rename_i ys J;cases h;exact J
 ·cases h
theorem Xuh(h:S[q]?=yz (.lst xs)):Xc S q=yz xs:=by unfold Xc;rw[h]
theorem Ext.lst(x:Ext p S S')(J:q≠p)(h:Xc S q=yz xs):Xc S' q=yz xs:=Xuh (x q _ J (Xbo h))
end
def FSm(dep L:Nat)(d:D):Prop:=∃p,(∀J,X4 J d=yz p)/\p.showable=yx/\Xax p=yx/\p.depth<=dep/\szD p<=L
theorem FSm.mono(h:FSm a b d)(h1:a<=a')(h2:b<=b'):FSm a' b' d:=by obtain⟨p,L,J,q3,Y,q5⟩:=h;exact⟨p,L,J,q3,V4 Y h1,V4 q5 h2⟩
theorem FSm.sm(h:FSm a b d)(S:Sto):Sm S a b d:=by obtain⟨p,J,q⟩:=h;exact⟨p,J _,q⟩
theorem FSm.good(h:FSm a b d)(S:Sto):good S d:=by
 obtain⟨p,J,q⟩:=h;refine Xe6 S d (λn z=>?_) (λf m z=>?_);·subst z;have:=J (λ_=>yy);cases this
 ·subst z;have:=J (λ_=>yy);cases this
theorem Xno(h:i.natAbs.log2<1920):FSm 0 1921 (.int i):=⟨.int i,λ_=>by simp only[X4],by simp only[Vav,decide_eq_true h],by simp only[Xax],by simp only[Va7];exact Vf _,by simp only[szD];exact Xuf i⟩
theorem Xui:FSm 0 1921 .non:=⟨.none,λ_=>by simp only[X4],by simp only[Vav],by simp only[Xax],by simp only[Va7];exact Vf _,by simp only[szD];omega⟩
theorem X92:FSm 0 1921 (.bl b):=⟨.bool b,λ_=>by simp only[X4],by simp only[Vav],by simp only[Xax],by simp only[Va7];exact Vf _,by simp only[szD];omega⟩
theorem Xuj(h:(reprText t).length<=1921):FSm 0 1921 (.str t):=⟨.str t,λ_=>by simp only[X4],by simp only[Vav],by simp only[Xax],by simp only[Va7];exact Vf _,by simp only[szD];exact h⟩
theorem fss:∀ds:LD,(∀d∈ds,FSm a b d) ->
  ∃ps,(∀J,datFs J ds=yz ps)/\Vbw ps=yx/\dctEs ps=yx/\Vb7 ps<=a/\szDs ps<=ll ds*(b+2)
 |[]=>λ_=>⟨[],λ_=>by simp only[datFs],by simp only[Vbw],by simp only[dctEs],by simp only[Vb7];exact Um _,by simp only[szDs];exact Um _⟩|d::ds=>λh=>by obtain⟨p,p1,p2,L,p4,p5⟩:=h d (by simp);obtain⟨ps,q1,q2,q3,Y,q5⟩:=fss ds λx hx=>h x (by simp[hx]);refine⟨p::ps,λJ=>by simp only[datFs,p1 J,q1 J],by simp only[Vbw,p2,q2,Vc2],by simp only[dctEs,L,q3,Vc2],by simp only[Vb7];exact Nat.max_le.mpr ⟨p4,Y⟩,?_⟩;simp only[szDs,U4,Vgt];omega
theorem Xnp(h:∀d∈ds,FSm a b d):FSm (a+1) (ll ds*(b+2)+3) (.tup ds):=by obtain⟨ps,Y,L,q3,q4,q5⟩:=fss ds h;refine⟨.tuple ps,λJ=>by simp only[X4,Y J,V7],by simp only[Vav,L],by simp only[Xax,q3],by simp only[Va7];omega,by simp only[szD];omega⟩
theorem X67(h:FSm a b d):FSm (a+1) (b+5) (.tup [d]):=by have:=Xnp (ds:=[d]) (a:=a) (b:=b) (λx J=>by rw[Ue]at J;subst J;exact h);exact this.mono (Vf _) (by simp)
theorem X2a(Y:Xc S n=yz xs)(h:∀x∈xs,FSm a b x):Sm S (a+1) (ll xs*(b+2)+2) (.ref n):=by obtain⟨ps,L,J,q3,q4,q5⟩:=fss xs h;refine⟨.list ps,?_,by simp only[Vav,J],by simp only[Xax,q3],by simp only[Va7];omega,by simp only[szD];omega⟩;show Xae S 3 n=_;rw[Xae,Xbo Y];dsimp only;rw[L,V7]
theorem Xuk(h:Xc S q=yz xs):good S (.ref q):=⟨.list,by simp only[kdD];rw[Xbo h],λ_ z=>nomatch z⟩
structure Thing(S:Sto)(d:D):Prop where
 sm:Sm S 20 400000 d
 gd:good S d
 el:∀xs,d=.tup xs->(∀x∈xs,good S x)/\(ll xs)<=200
def Kp(p:Nat)(S:Sto)(d:D):Prop:=∀S',Ext p S S'->Thing S' d
def El(p:Nat)(S:Sto)(d:D):Prop:=∀S',Ext p S S'->Sm S' 5 30000 d/\good S' d
section
variable{p:Nat}{S S':Sto}{d:D}
theorem Kp.mono(h:Kp p S d)(x:Ext p S S'):Kp p S' d:=λS2 y=>h S2 (x.trans y)
theorem Kp.now(h:Kp p S d):Thing S d:=h S .refl
theorem Xcs(h:FSm a b d)(ha:a<=5)(hb:b<=30000):El p S d:=λS' _=>⟨(h.sm S').mono ha hb,h.good S'⟩
theorem X93(h:El p S d)(J:∀xs,d≠.tup xs):Kp p S d:=λS' x=>⟨(h S' x).1.mono (by omega) (by omega),(h S' x).2,λxs z=>aB0 z (J xs)⟩
theorem X68(h:∀x∈xs,El p S x)(hl:(ll xs)<=13):Kp p S (.tup xs):=λS' x=>by refine⟨(Xug (a:=5) (b:=30000) λy J=>(h y J S' x).1).mono (by omega) (by omega),Xe6 S' _ (λ_ z=>nomatch z) (λ_ _ z=>nomatch z),λys z=>?_⟩;injection z with z;subst z;exact⟨λy J=>(h y J S' x).2,by omega⟩
theorem X69(J:q≠p)(hl:Xc S q=yz xs)(h:∀x∈xs,FSm a b x)(ha:a<=4)(hb:(ll xs)*(b+2)+2<=400000):Kp p S (.ref q):=λS' x=>⟨(X2a (x.lst J hl) h).mono (by omega) hb,Xuk (x.lst J hl),λxs z=>nomatch z⟩
end
def Xdm(l:LI):Prop:=∀x∈l,x.natAbs.log2<1920
theorem Xdz(h:i.natAbs.log2<1920):El p S (.int i):=Xcs (Xno h) (by omega) (by omega)
noncomputable def isr:D->Bool
 |.tup xs=>xs.all wh&&(decide (1<=ll xs)&&decide (ll xs<=12))|_=>yw
theorem Xp6:∀ {xs:LD},xs.all wh=yx->∃l:LI,xs=l.map D.int
 |[],_=>⟨[],rfl⟩|x::xs,h=>by
  simp only[Vby,bA0]at h;obtain⟨l,rfl⟩:=Xp6 h.2;cases x with
  |int i=>exact⟨i::l,rfl⟩|_=>cases h.1
theorem Xjp(h:isr d=yx):∃l,d=Xa l/\1<=ll l/\(ll l)<=12:=by
 cases d with
 |tup xs=>simp only[isr,bA0,decide_eq_true_eq]at h;obtain⟨l,rfl⟩:=Xp6 h.1;rw[Vl]at h;exact⟨l,rfl,h.2.1,h.2.2⟩|_=>cases h
theorem X7a(l:LI):(l.map D.int).all wh=true:=by rw[Vab];intro d hd;obtain⟨i,_,rfl⟩:=U5.mp hd;rfl
theorem Xnq(h1:1<=ll l)(h2:(ll l)<=12):isr (Xa l)=true:=by simp only[isr,Xa,X7a,Vl,decide_eq_true h1,decide_eq_true h2,Vc2]
section
variable{F:Fn}{G:LD}
theorem Xul{a c:Ex}{n lo hi:Int}{d:D}{env:En}{S S':Sto}(h0:env[0]?=yz (yz d))(J:Xm .len [d] S=.ok (.int n) S)(h1:ev F G a env S=.ok (.int lo) S)(h2:ev F G c env S=.ok (.int hi) S):
  ev F G (.chn .le .le a (.blt .len (.cons (.var 0) .nil)) c) env S=.ok (.bl (decide (lo<=n)&&decide (n<=hi))) S:=by
 rw[ev,h1,Rk0];simp only[ev,evs,h0,Rk0,J,Xw,h2,Xi];cases decide (lo<=n)<;>rfl
theorem Xum{i2:Nat}{ig:Nat}{d:D}{S:Sto}(L:Xzj F i2)(hg:G[ig]?=yz (.int 11))(t:Thing S d):∃X,den F G (Xh8 i2 ig) [d] S=.ok (.bl (isr d)) (S++X):=by
 obtain⟨X,h⟩:=L d S t.gd (λxs z=>⟨(t.el xs z).1,V4 (t.el xs z).2 (by omega)⟩);refine⟨X,?_⟩;simp only[den,Xh8,Ud,if_true,Uj,Vg,U0,Vv];have J:ev F G (.call i2 (.cons (.var 0) .nil)) [yz d] S=.ok (.bl (wt d)) (S++X):=by simp only[ev,evs,gZ0,Rk0,h]
 rw[Xh (d:=.bl (isr d)) (S1:=S++X) (by
  rw[exe,ev,J,Rk0];simp only[Xf];cases e:wt d with
  |false=>
   have:isr d=false:=by
    cases d with
    |tup xs=>simp only[wt]at e;simp only[isr,e,Vc8]|_=>rfl
   rw[this];rfl|true=>
   cases d with
   |tup xs=>
    have c:=Xul (F:=F) (G:=G) (a:=.cst (.int 1)) (c:=.bin .add (.glb ig) (.cst (.int 1))) (n:=ll xs) (lo:=1) (hi:=12) (d:=.tup xs) (env:=[yz (.tup xs)]) (S:=S++X) (S':=S++X) rfl rfl (by simp only[ev]) (by simp only[ev,hg,Rk0,Xx];rfl);dsimp only;rw[c];simp only[wt]at e;simp only[isr,e,Vdv,Rk0];have Y:decide ((1:Int)<=(ll xs:Int))=decide (1<=ll xs):=by congr 1;apply propext;omega
    have e2:decide ((ll xs:Int)<=12)=decide (ll xs<=12):=by congr 1;apply propext;omega
    rw[Y,e2]
   |_=>cases e)]
theorem X2b(h:F i4 [d] S=.ok (.bl yx) S1):den F G (Xhe i4) [d] S=.ok .non S1:=X65 h
theorem X7b(h:F i4 [d] S=.ok (.bl yw) S1):den F G (Xhe i4) [d] S=.ex (ll S1) (S1++[.exc 7]):=by simp only[den,Xhe,Ud,if_true,Uj,Vg,U0,Vv];rw[Xa5 (n:=ll S1) (S1:=S1++[.exc 7]) (Xb5 (by simp only[ev,evs,gZ0,Rk0,h,Xf];rfl))]
theorem Xp7(h:ev F G c env S=.ok (.bl yx) S'):exe F G (.ite c (.cons (.ret (.cst d)) .nil) .nil) env S=.ok (.rt d) S':=by rw[exe,h,Rk0];simp only[Xf,pd,exe,ev,Rk0]
end
noncomputable def vsq(v m:Int):Nat->Int
 |0=>v|n+1=>vsq v m n/m
noncomputable def drawn(v far:Int)(n:Nat):LI:=(Vm n).map λi=>vsq v (2*far+1) i%(2*far+1)-far
section
variable{F:Fn}{G:LD}
theorem X0(h:ev F G e env S=.ok d S'):exe F G (.asg (.var i) e) env S=.ok (.nx (env.set i (yz d))) S':=by simp only[exe,h,Rk0,Xk]
theorem Xb6(a:LI)(n:Nat)(S:Sto):Xaj (Xa a) (yz (n:Int)) yy S=.ok (Xa (a.drop n)) S:=by
 have c:cut (a.map D.int) (yz (n:Int)) yy=(a.map D.int).drop n:=by
  unfold cut Xb9;simp only;rw[iP0 (by omega)];simp only[Van];by_cases h:n<=(a.map D.int).length;·rw[Vcn h,Vap (by rw[Vd2];omega)]
  ·rw[Nat.min_eq_right (by omega),Vep (by omega),Vep (by omega)];simp
 unfold Xa;simp only[Xaj,c,List.map_drop]
theorem X2c(h:ev F G e env S=.ok d S):ev F G (.tup (.cons e .nil)) env S=.ok (.tup [d]) S:=by simp only[ev,evs,h,Rk0];exact iP0 (Yx (by simp))
theorem Xnr(x y:LD)(S:Sto)(h:(ll x)+ll y<=1000):Xu .add (.tup x) (.tup y) S=.ok (.tup (x++y)) S:=by simp only[Xu];exact iP0 (Yx h)
theorem X7c{ir ia:Nat}{l:LI}{a b:Nat}(Y:env[ir]?=yz (yz (Xa l)))(ha:env[ia]?=yz (yz (.int a)))(he:ev F G e env S=.ok od S)(hb:ev F G eb env S=.ok (.int b) S)(hl:(ll l)<=100):
  ev F G (.bin .add (.bin .add (.sli (.var ir) .none (.some (.var ia))) (.tup (.cons e .nil))) (.sli (.var ir) (.some eb) .none)) env S=.ok (.tup ((l.take a).map D.int++[od]++(l.drop b).map D.int)) S:=by
 have h1:ev F G (.sli (.var ir) .none (.some (.var ia))) env S=.ok (Xa (l.take a)) S:=by simp only[ev,evo,Y,ha,Rk0,Xai,Xhf]
 have h2:=X2c he;have h3:ev F G (.sli (.var ir) (.some eb) .none) env S=.ok (Xa (l.drop b)) S:=by simp only[ev,evo,Y,hb,Rk0,Xai];exact Xb6 l b S
 have h4:=Xnr ((l.take a).map D.int) [od] S (by simp;omega);have h5:=Xnr ((l.take a).map D.int++[od]) ((l.drop b).map D.int) S (by simp;omega);have J:Xu .add (Xa (l.take a)) (.tup [od]) S=_:=h4;have L:Xu .add (.tup ((l.take a).map D.int++[od])) (Xa (l.drop b)) S=_:=h5;rw[ev,ev,h1,Rk0,h2,Rk0,J,Rk0,h3,Rk0,L]
theorem d2:Yr 2=true:=by decide+kernel
noncomputable def X7d(l:LI)(a b:Nat)(od:D):D:=.tup ((l.take a).map D.int++[od]++(l.drop b).map D.int)
end
theorem Xns:∀(k n:Nat) (p:Vcs),Xae S k n=yz p->Xae S (k+1) n=yz p
 |0=>λn p e=>by cases e|k+1=>λn p e=>by
  rw[Xae]at e ⊢;cases q:S[n]? with
  |none=>rw[q]at e;cases e|some o=>
   rw[q]at e;cases o with
   |lst xs=>simp only[Ul]at e ⊢;obtain⟨ps,L,J⟩:=e;exact⟨ps,datFs_mono (Xns k) xs ps L,J⟩|exc _=>cases e
theorem Xp8(t:Str)(S:Sto):Xi .ne (.str t) (.str t) S=.ok (.bl yw) S:=by simp only[Xi,Xw,eqD,Xdi,beq_self_eq_true,V7,Vc1]
end Z
end
section
namespace Z
theorem Xbp:∀ {m n:Nat},m<=n->C m k<=C n k:=by
 have st:∀n,C n k<=C (n+1) k:=λn=>by
  cases k with
  |zero=>rw[Y1,Y1];exact Vf _|succ k=>simp only[C];omega
 intro m n h;induction n with
 |zero=>
  have:m=0:=by omega
  subst this;exact Vf _|succ n ih=>
  by_cases e:m=n+1;·subst e;exact Vf _
  ·exact V4 (ih (by omega)) (st n)
theorem Xd0:∀k:Nat,C k k=1
 |0=>rfl|k+1=>by simp only[C];rw[Xd0 k,Xbv k (k+1) (by omega)]
theorem Xlp(n:Nat):C n 1=n:=by
 induction n with
 |zero=>rfl|succ n ih=>show C n 0+C n 1=n+1;rw[Y1,ih];omega
theorem Xej(k:Nat):∀j:Nat,j+1<=C (k+1+j) (k+1)
 |0=>by rw[Vex,Xd0];exact Vf _|j+1=>by
  have ih:=Xej k j;have h1:1<=C (k+1+j) k:=by have:=Xbp (k:=k) (show k<=k+1+j by omega);rw[Xd0]at this;exact this
  have e:k+1+(j+1)=(k+1+j)+1:=by omega
  rw[e];simp only[C];omega
def Most(n k m:Nat):Prop:=k<=m/\C m k<=n/\n<C (m+1) k
theorem Most.uniq(h:Most n k m)(h':Most n k m'):m=m':=by
 obtain⟨_,L,Y⟩:=h;obtain⟨_,b1,J⟩:=h';by_cases e:m<m';·have:=Xbp (k:=k) (show m+1<=m' by omega);omega
 ·by_cases e':m'<m;·have:=Xbp (k:=k) (show m'+1<=m by omega);omega
  ·omega
def Wr:Nat->Nat->LI->Prop
 |0,n,l=>n=0/\l=[]|k+1,n,l=>(n=0/\l=[])\/∃(m:Nat) (r:LI),l=(m:Int)::r/\0<n/\Most n (k+1) m/\Wr k (n-C m (k+1)) r
theorem Wr.uniq:∀ {k n:Nat} {l l':LI},Wr k n l->Wr k n l'->l=l'
 |0,n,l,l',h,h'=>by rw[h.2,h'.2]|k+1,n,l,l',h,h'=>by
  rcases h with⟨h0,rfl⟩|⟨m,r,rfl,h0,h1,h2⟩
  ·rcases h' with⟨_,rfl⟩|⟨m',r',rfl,h0',_⟩;·rfl
   ·omega
  rcases h' with⟨h0',rfl⟩|⟨m',r',rfl,h0',h1',h2'⟩;·omega
  ·have e:=h1.uniq h1';subst e;rw[h2.uniq h2']
noncomputable def wok:Nat->Option Int->LI->Bool
 |_,_,[]=>yx|0,_,_::_=>yw|k+1,pv,x::r=>decide (((k+1:Nat):Int)<=x)&&(pv.all λy=>decide (x<y))&&wok k (yz x) r
noncomputable def Xxq:Nat->LI->Int
 |_,[]=>0|0,_::_=>0|k+1,x::r=>C x.toNat (k+1)+Xxq k r
theorem Xzk:∀ {k n:Nat} {l:LI} {pv:Option Int},Wr k n l->(∀y,pv=yz y->(n:Int)<C y.toNat k/\0<=y)->ll l<=k/\wok k pv l=yx/\Xxq k l=n
 |0,n,l,pv,h,_=>by obtain⟨rfl,rfl⟩:=h;exact⟨Vf _,rfl,rfl⟩|k+1,n,l,pv,h,hp=>by
  rcases h with⟨rfl,rfl⟩|⟨m,r,rfl,h0,⟨m1,m2,m3⟩,h2⟩;·exact⟨Um _,rfl,rfl⟩
  ·have L:n<C m k+C m (k+1):=m3;obtain⟨q1,J,q3⟩:=Xzk (pv:=yz (m:Int)) h2 λy e=>by
    cases e;refine⟨?_,by omega⟩;rw[Van];omega
   refine⟨by simp;omega,?_,?_⟩
   ·simp only[wok,bA0,decide_eq_true_eq];refine⟨⟨by omega,?_⟩,J⟩;cases pv with
    |none=>rfl|some y=>
     obtain⟨Y,p2⟩:=hp y rfl;simp only[Option.all_some,decide_eq_true_eq];by_cases e:(m:Int)<y;·exact e
     ·have:=Xbp (k:=k+1) (show y.toNat<=m by omega);omega
   simp only[Xxq,Van,q3];omega
theorem Xh9:∀ {k n:Nat} {l:LI},Wr k n l->∀x∈l,0<=x/\x<=(n:Int)+k
 |0,n,l,h,x,J=>by rw[h.2]at J;cases J|k+1,n,l,h,x,J=>by
  rcases h with⟨_,rfl⟩|⟨m,r,rfl,h0,⟨m1,m2,m3⟩,h2⟩;·cases J
  ·have L:m<=n+k:=by
    obtain⟨j,rfl⟩:∃j,m=k+1+j:=⟨m-(k+1),by omega⟩;have:=Xej k j;omega
   rcases V2.mp J with rfl|J;·omega
   ·have:=Xh9 h2 x J;omega
theorem Xun(h:Wr k n l):(ll l)<=k:=(Xzk (pv:=yy) h λy e=>by cases e).1
end Z
end
section
namespace Z
open PySem PySem.Spec PyProof.Rows L2
section
variable{F:Fn}{G:LD}
theorem Xrs(n m i:Nat)(S:Sto)(J:n<=100000000000000)(hi:i<13):pd F G Xdx [yz (.int n),yz (.int m),yz (.int (C n i)),yz (.int i)] S=.ok (.nx [yz (.int n),yz (.int m),yz (.int (C n (i+1))),yz (.int i)]) S:=by have h:=Xxk (F:=F) (G:=G) n m (C n i) i S (Xcr (by omega) (by omega)) (X91 (by omega));rw[X9y]at h;exact h
theorem Xuo(n m:Nat)(S:Sto)(L:n<=100000000000000)(hm:m<=13):den F G Xgc [.int n,.int m] S=.ok (.int (C n m)) S:=by
 obtain⟨xs,J,hl⟩:=Xal (m:=(m:Int)) (by omega) (Xxd (by omega));obtain⟨e',S',h1,rfl,x,rfl⟩:=Xbu (F:=F) (G:=G) (t:=.var 3) (es:=.cons (.var 1) .nil) (b:=Xdx) (env:=[yz (.int n),yz (.int m),yz (.int 1),yy]) (S:=S) (S1:=S) (ds:=[.int m]) (xs:=xs)
  (λi e S'=>S'=S/\∃x,e=[yz (.int n),yz (.int m),yz (.int (C n i)),x]) (by simp only[evs,ev,gZ0,gS0,Rk0]) J ⟨rfl,yy,by rw[Y1];rfl⟩ (λi d e S' hd Y=>by obtain⟨rfl,x,rfl⟩:=Y;obtain⟨rfl,hi⟩:=Xbf J hd;exact⟨_,_,S',rfl,Xrs n m i S' L (by omega),rfl,_,rfl⟩)
 have e:(ll xs)=m:=by omega
 rw[e]at h1;exact Xxl n m (C n m) S' _ S' h1 rfl
noncomputable def Xia:Ex:=.cmp .gt (.bin .sub (.var 3) (.var 2)) (.cst (.int 1))
noncomputable def Xgf(iw:Nat):Sts:=.cons (.asg (.var 4) (.bin .fdiv (.bin .add (.var 2) (.var 3)) (.cst (.int 2)))) (.cons (.ite (.cmp .le (.call iw (.cons (.var 4) (.cons (.var 1) .nil))) (.var 0)) (.cons (.asg (.var 2) (.var 4)) .nil) (.cons (.asg (.var 3) (.var 4)) .nil)) .nil)
noncomputable def Xib(iw:Nat):Df:=⟨2,5,.cons (.asg (.var 2) (.var 1)) (.cons (.asg (.var 3) (.bin .add (.var 1) (.var 0))) (.cons (.whl Xia (Xgf iw)) (.cons (.ret (.var 2)) .nil)))⟩
def Yn(F:Fn)(iw:Nat):Prop:=∀(n m:Nat) (S:Sto),n<=10000000000000->m<=13->F iw [.int n,.int m] S=.ok (.int (C n m)) S
theorem Xc3(h:T[iw]?=yz Xgc)(k:Nat):Yn (FT T G (k+1)) iw:=λn m S L J=>by simp only[FT,h];exact Xuo n m S (by omega) J
noncomputable def Xjq(F:Fn)(G:LD):En->Sto->R Bool:=λenv S=>(ev F G Xia env S).bind λx S=>match Xf S x with
 |some r=>.ok r S|none=>.bad
theorem Xnt:Xjq F G [yz (.int n),yz (.int k),yz (.int lw),yz (.int hi),x] S=.ok (decide (1<hi-lw)) S:=by unfold Xjq;simp only[Xia,ev,gZ0,gS0,Rk0,Yd,Xi,Xw,Xf]
theorem Xup{iw:Nat}(Y:Yn F iw){n k lw hi:Nat}{x:Option D}(hk:k<=12)(h:(lw+hi)/2<=10000000000000):
  pd F G (Xgf iw) [yz (.int n),yz (.int k),yz (.int lw),yz (.int hi),x] S=.ok (.nx (if C ((lw+hi)/2) k<=n then [yz (.int n),yz (.int k),yz (.int ((lw+hi)/2:Nat)),yz (.int hi),yz (.int ((lw+hi)/2:Nat))] else [yz (.int n),yz (.int k),yz (.int lw),yz (.int ((lw+hi)/2:Nat)),yz (.int ((lw+hi)/2:Nat))])) S:=by
 have e:((lw:Int)+hi)/2=((lw+hi)/2:Nat):=by omega
 have L:=X0 (i:=4) (F:=F) (G:=G) (e:=.bin .fdiv (.bin .add (.var 2) (.var 3)) (.cst (.int 2))) (env:=[yz (.int n),yz (.int k),yz (.int lw),yz (.int hi),x]) (S:=S) (d:=.int ((lw+hi)/2:Nat)) (S':=S) (by simp only[ev,gZ0,gS0,Rk0,Xx,Xcz d2,e]);generalize (lw+hi)/2=m at L h;have hc:=Y m k S h (by omega);have J:ev F G (.cmp .le (.call iw (.cons (.var 4) (.cons (.var 1) .nil))) (.var 0)) [yz (.int n),yz (.int k),yz (.int lw),yz (.int hi),yz (.int m)] S=.ok (.bl (decide ((C m k:Int)<=n))) S:=by simp only[ev,evs,gZ0,gS0,Rk0,hc,Xi,Xw]
 unfold Xgf;rw[Xb L];by_cases q:C m k<=n;·have hd:decide ((C m k:Int)<=n)=true:=decide_eq_true (by omega);rw[hd]at J;rw[iP0 q];rw[Xb (e:=[yz (.int n),yz (.int k),yz (.int m),yz (.int hi),yz (.int m)]) (S1:=S) (by show exe F G _ [yz (.int n),yz (.int k),yz (.int lw),yz (.int hi),yz (.int m)] S=_;rw[exe,J,Rk0];simp only[Xf,pd,exe,ev,gZ0,gS0,Rk0,Xk,Vaz])];rw[pd]
 ·have hd:decide ((C m k:Int)<=n)=false:=decide_eq_false (by omega);rw[hd]at J;rw[iN0 q];rw[Xb (e:=[yz (.int n),yz (.int k),yz (.int lw),yz (.int m),yz (.int m)]) (S1:=S) (by show exe F G _ [yz (.int n),yz (.int k),yz (.int lw),yz (.int hi),yz (.int m)] S=_;rw[exe,J,Rk0];simp only[Xf,pd,exe,ev,gZ0,gS0,Rk0,Xk,Vaz])];rw[pd]
theorem Xe8{iw:Nat}(hw:Yn F iw){n k:Nat}(hk:k<=12):∀(j J lw hi:Nat) (x:Option D),hi-lw<=2^j->j<J->lw<hi->k<=lw->hi<=5000000000000->C lw k<=n->n<C hi k ->
  ∃m h Y,Yk (Xjq F G) (λenv S=>pd F G (Xgf iw) env S) J [yz (.int n),yz (.int k),yz (.int lw),yz (.int hi),x] S=.ok (.nx [yz (.int n),yz (.int k),yz (.int (m:Nat)),h,Y]) S/\Most n k m
 |j,0=>λlw hi x h1 h2 h3 h4 h5 h6 h7=>by omega|j,J+1=>λlw hi x h1 h2 h3 h4 h5 h6 h7=>by
  by_cases q:hi=lw+1;·subst q;have L:=Xnt (F:=F) (G:=G) (n:=n) (k:=k) (lw:=lw) (hi:=(lw+1:Nat)) (x:=x) (S:=S);have hd:decide ((1:Int)<((lw+1:Nat):Int)-lw)=false:=decide_eq_false (by omega);rw[hd]at L;refine⟨lw,yz (.int (lw+1:Nat)),x,?_,h4,h6,h7⟩;simp only[Yk,L]
  ·have L:=Xnt (F:=F) (G:=G) (n:=n) (k:=k) (lw:=lw) (hi:=hi) (x:=x) (S:=S);have hd:decide ((1:Int)<(hi:Int)-lw)=true:=decide_eq_true (by omega);rw[hd]at L;have hb:=Xup (G:=G) hw (n:=n) (k:=k) (lw:=lw) (hi:=hi) (x:=x) (S:=S) hk (by omega);obtain⟨j,rfl⟩:∃i,j=i+1:=by
    cases j with
    |zero=>simp at h1;omega|succ j=>exact⟨j,rfl⟩
   rw[Nat.pow_succ]at h1;by_cases c:C ((lw+hi)/2) k<=n;·rw[iP0 c]at hb;obtain⟨m,h,Y,r1,r2⟩:=Xe8 hw hk j J ((lw+hi)/2) hi (yz (.int ((lw+hi)/2:Nat))) (by omega) (by omega) (by omega) (by omega) h5 c h7;exact⟨m,h,Y,by simp only[Yk,L,hb];exact r1,r2⟩
   ·rw[iN0 c]at hb;obtain⟨m,h,Y,r1,r2⟩:=Xe8 hw hk j J lw ((lw+hi)/2) (yz (.int ((lw+hi)/2:Nat))) (by omega) (by omega) (by omega) h4 (by omega) h6 (by omega);exact⟨m,h,Y,by simp only[Yk,L,hb];exact r1,r2⟩
theorem Xxr{iw:Nat}(hw:Yn F iw){n k:Nat}(aa:1<=k)(hk:k<=12)(L:1<=n)(hn:n<=1000000000000):∃m,den F G (Xib iw) [.int n,.int k] S=.ok (.int (m:Nat)) S/\Most n k m:=by
 have Y:n<C (k+n) k:=by obtain⟨J,rfl⟩:∃J,k=J+1:=⟨k-1,by omega⟩;have:=Xej J n;omega
 obtain⟨m,h,x',r1,r2⟩:=Xe8 (G:=G) hw (n:=n) (k:=k) (S:=S) hk 41 100000 k (k+n) yy (by have ab:(2:Nat)^41=2199023255552:=(by decide);omega) (by omega) (by omega) (Vf _) (by omega) (by rw[Xd0];exact L) Y;refine⟨m,?_,r2⟩;have s1:=X0 (i:=2) (F:=F) (G:=G) (e:=.var 1) (env:=[yz (.int n),yz (.int k),yy,yy,yy]) (S:=S) (d:=.int k) (S':=S) (by simp only[ev,gZ0,gS0]);have s2:=X0 (i:=3) (F:=F) (G:=G) (e:=.bin .add (.var 1) (.var 0)) (env:=[yz (.int n),yz (.int k),yz (.int k),yy,yy]) (S:=S) (d:=.int ((k+n:Nat):Int)) (S':=S) (by simp only[ev,gZ0,gS0,Rk0,Xx];rw[Int.natCast_add]);have s3:exe F G (.whl Xia (Xgf iw)) [yz (.int n),yz (.int k),yz (.int k),yz (.int ((k+n:Nat):Int)),yy] S=.ok (.nx [yz (.int n),yz (.int k),yz (.int m),h,x']) S:=by rw[exe];exact r1
 have s4:exe F G (.ret (.var 2)) [yz (.int n),yz (.int k),yz (.int m),h,x'] S=.ok (.rt (.int m)) S:=by simp only[exe,ev,gZ0,gS0,Rk0]
 simp only[den,Xib,Ud,if_true,Uj,Vg];have q:pd F G (.cons (.asg (.var 2) (.var 1)) (.cons (.asg (.var 3) (.bin .add (.var 1) (.var 0))) (.cons (.whl Xia (Xgf iw)) (.cons (.ret (.var 2)) .nil)))) ([yz (.int n),yz (.int k)]++[yy,yy,yy]) S=.ok (.rt (.int m)) S:=
  (Xb s1).trans ((Xb s2).trans ((Xb s3).trans (Xh s4)))
 rw[q]
noncomputable def Xb2(im iw:Nat):Sts:=.cons (.ite (.cmp .eq (.var 3) (.cst (.int 0))) (.cons .brk .nil) .nil) (.cons (.asg (.var 5) (.call im (.cons (.var 3) (.cons (.var 4) .nil)))) (.cons (.expr (.mth .append (.var 2) (.cons (.var 5) .nil))) (.cons (.aug 3 .sub (.call iw (.cons (.var 5) (.cons (.var 4) .nil)))) .nil)))
noncomputable def Xic(ic im iw:Nat):Df:=⟨2,6,.cons (.expr (.call ic (.cons (.var 0) (.cons (.var 1) .nil)))) (.cons (.asg (.var 2) (.lst .nil)) (.cons (.asg (.var 3) (.var 0)) (.cons (.for (.var 4) (.rng (.cons (.var 1) (.cons (.cst (.int 0)) (.cons (.neg (.cst (.int 1))) .nil)))) (Xb2 im iw)) (.cons (.ret (.blt .tuple (.cons (.var 2) .nil))) .nil))))⟩
def Xdc(F:Fn)(im:Nat):Prop:=∀(n k:Nat) (S:Sto),1<=k->k<=12->1<=n->n<=1000000000000->∃m,F im [.int n,.int k] S=.ok (.int (m:Nat)) S/\Most n k m
theorem Xnu{T:List Df}{im iw:Nat}(h:T[im]?=yz (Xib iw)){k:Nat}(Y:Yn (FT T G k) iw):Xdc (FT T G (k+1)) im:=λn k' S h1 h2 J h4=>by obtain⟨m,L,r2⟩:=Xxr (G:=G) Y (S:=S) h1 h2 J h4;exact⟨m,by simp only[FT,h];exact L,r2⟩
theorem Xuq:pd F G (Xb2 im iw) [yz (.int n),yz (.int s),yz (.ref q),yz (.int 0),yz (.int k),x5] S=.ok (.brk [yz (.int n),yz (.int s),yz (.ref q),yz (.int 0),yz (.int k),x5]) S:=by
 have h:exe F G (.ite (.cmp .eq (.var 3) (.cst (.int 0))) (.cons .brk .nil) .nil) [yz (.int n),yz (.int s),yz (.ref q),yz (.int 0),yz (.int k),x5] S=.ok (.brk [yz (.int n),yz (.int s),yz (.ref q),yz (.int 0),yz (.int k),x5]) S:=by rw[exe];simp only[ev,gZ0,gS0,Rk0,Xc2,beq_self_eq_true,Xf,pd,exe]
 unfold Xb2;simp only[pd,h]
theorem Xxs(hw:Yn F iw)(hm:Xdc F im)(L:1<=k)(hk:k<=12)(ab:1<=r)(hr:r<=1000000000000)(hq:Xc S q=yz acc)(hl:(ll acc)<100):
  ∃m,Most r k m/\pd F G (Xb2 im iw) [yz (.int n),yz (.int s),yz (.ref q),yz (.int r),yz (.int k),x5] S=.ok (.nx [yz (.int n),yz (.int s),yz (.ref q),yz (.int ((r-C m k:Nat):Int)),yz (.int k),yz (.int m)]) (S.set q (.lst (acc++[.int m]))):=by
 obtain⟨m,h1,h2⟩:=hm r k S L hk ab hr;refine⟨m,h2,?_⟩;have ac:m<=10000000000000:=by obtain⟨a1,a2,a3⟩:=h2;obtain⟨J,rfl⟩:∃J,k=J+1:=⟨k-1,by omega⟩;obtain⟨j,rfl⟩:∃j,m=J+1+j:=⟨m-(J+1),by omega⟩;have:=Xej J j;omega
 have hb:((r:Int)==0)=false:=by simp;omega
 have s0:exe F G (.ite (.cmp .eq (.var 3) (.cst (.int 0))) (.cons .brk .nil) .nil) [yz (.int n),yz (.int s),yz (.ref q),yz (.int r),yz (.int k),x5] S=.ok (.nx [yz (.int n),yz (.int s),yz (.ref q),yz (.int r),yz (.int k),x5]) S:=by rw[exe];simp only[ev,gZ0,gS0,Rk0,Xc2,hb,Xf,pd]
 have s1:=X0 (i:=5) (F:=F) (G:=G) (e:=.call im (.cons (.var 3) (.cons (.var 4) .nil))) (env:=[yz (.int n),yz (.int s),yz (.ref q),yz (.int r),yz (.int k),x5]) (S:=S) (d:=.int m) (S':=S) (by simp only[ev,evs,gZ0,gS0,Rk0,h1]);have Y:=Xgd (x:=.int m) hq (by omega);have aa:Xaf .append (.ref q) S=true:=by simp only[Xaf,hq,Vck]
 have s2:exe F G (.expr (.mth .append (.var 2) (.cons (.var 5) .nil))) [yz (.int n),yz (.int s),yz (.ref q),yz (.int r),yz (.int k),yz (.int m)] S=.ok (.nx [yz (.int n),yz (.int s),yz (.ref q),yz (.int r),yz (.int k),yz (.int m)]) (S.set q (.lst (acc++[.int m]))):=by simp only[exe,ev,evs,gZ0,gS0,Rk0,aa,if_true,Y]
 have ae:=hw m k (S.set q (.lst (acc++[.int m]))) ac (by omega);have s3:exe F G (.aug 3 .sub (.call iw (.cons (.var 5) (.cons (.var 4) .nil)))) [yz (.int n),yz (.int s),yz (.ref q),yz (.int r),yz (.int k),yz (.int m)] (S.set q (.lst (acc++[.int m])))=.ok (.nx [yz (.int n),yz (.int s),yz (.ref q),yz (.int ((r-C m k:Nat):Int)),yz (.int k),yz (.int m)]) (S.set q (.lst (acc++[.int m]))):=by
  have e:(r:Int)-(C m k:Int)=((r-C m k:Nat):Int):=by have:=h2.2.1;omega
  simp only[exe,ev,evs,gZ0,gS0,Rk0,ae,Xet,e,Vaz]
 unfold Xb2;exact(Xb s0).trans ((Xb s1).trans ((Xb s2).trans ((Xb s3).trans (by simp only[pd]))))
theorem Xk1(hw:Yn F iw)(hm:Xdc F im)(hx:xs=(Vm s).map λ(j:Nat)=>D.int ((s:Int)-j))(hs:s<=12):∀(k J i r:Nat) (x4 x5:Option D) (S:Sto) (acc:LD),i+k=s->k<J->r<=1000000000000->Xc S q=yz acc->ll acc<=50+i->(k=0->r=0) ->
  ∃w e,Xz (Src.con xs).get (.var 4) (λenv S=>pd F G (Xb2 im iw) env S) J i [yz (.int n),yz (.int s),yz (.ref q),yz (.int r),x4,x5] S=.ok (.nx e) (S.set q (.lst (acc++w.map D.int)))/\Wr k r w/\e[2]?=yz (yz (.ref q))
 |k,0=>λi r x4 x5 S acc h1 h2 h3 h4 h5 h6=>by omega|0,J+1=>λi r x4 x5 S acc h1 h2 h3 h4 h5 h6=>by
  have hi:xs[i]?=none:=by rw[hx];simp;omega
  refine⟨[],[yz (.int n),yz (.int s),yz (.ref q),yz (.int r),x4,x5],?_,⟨h6 rfl,rfl⟩,rfl⟩;have e:S.set q (.lst (acc++([]:LI).map D.int))=S:=by obtain⟨Y,hv⟩:=Vd.mp (Xbo h4);rw[Vcp,Vv,<-hv];exact Ve4 Y
  rw[e];simp only[Xz,Src.get,hi]|k+1,J+1=>λi r x4 x5 S acc h1 h2 h3 h4 h5 h6=>by
  have hi:xs[i]?=yz (.int ((k+1:Nat):Int)):=by rw[hx,V6,Vag (by omega),V7];congr 2;omega
  by_cases hr:r=0
  ·subst hr;refine⟨[],[yz (.int n),yz (.int s),yz (.ref q),yz (.int 0),yz (.int ((k+1:Nat):Int)),x5],?_,.inl ⟨rfl,rfl⟩,rfl⟩;have e:S.set q (.lst (acc++([]:LI).map D.int))=S:=by
    obtain⟨Y,hv⟩:=Vd.mp (Xbo h4);rw[Vcp,Vv,<-hv];exact Ve4 Y
   rw[e];have hz:=Xuq (F:=F) (G:=G) (im:=im) (iw:=iw) (n:=n) (s:=s) (k:=((k+1:Nat):Int)) (q:=q) (x5:=x5) (S:=S);simp only[Xz,Src.get,hi,Xk,Vaz];have aa:pd F G (Xb2 im iw) [yz (.int n),yz (.int s),yz (.ref q),yz (.int ((0:Nat):Int)),yz (.int ((k+1:Nat):Int)),x5] S=_:=hz;rw[aa]
  obtain⟨m,m1,m2⟩:=Xxs (G:=G) hw hm (n:=n) (s:=s) (r:=r) (k:=k+1) (q:=q) (x5:=x5) (S:=S) (acc:=acc) (by omega) (by omega) (by omega) h3 h4 (by omega);have L:k=0->r-C m (k+1)=0:=λz=>by subst z;obtain⟨a1,a2,a3⟩:=m1;rw[Va1,Xlp]at a2 ⊢;rw[Va1,Xlp]at a3;omega
  obtain⟨w,e,r1,r2,r3⟩:=Xk1 hw hm hx hs k J (i+1) (r-C m (k+1)) (yz (.int ((k+1:Nat):Int))) (yz (.int m)) (S.set q (.lst (acc++[.int m]))) (acc++[.int m]) (by omega) (by omega) (by omega) (Xau (Xaa h4)) (by simp;omega) L;refine⟨(m:Int)::w,e,?_,.inr ⟨m,w,rfl,by omega,m1,r2⟩,r3⟩;rw[List.set_set,Vt]at r1;simp only[Xz,Src.get,hi,Xk,Vaz];rw[m2];exact r1
theorem Xnv{s:Nat}(hs:s<=12):Ys [.int s,.int 0,.int (-1)]=yz ((Vm s).map λ(j:Nat)=>D.int ((s:Int)-j)):=by
 have h:∀j:Fin 13,(-(1048576:Int)<(j.val:Int)/\(j.val:Int)<1048576):=by decide
 obtain⟨h1,h2⟩:=h ⟨s,by omega⟩;unfold Ys;dsimp only;rw[iP0 ⟨rfl,h1,h2,by decide,by decide⟩,show((s:Int)-0).toNat=s by omega]
theorem Xxt(hc:F ic [n,s] S=.ok .non S)(hr:Ys [s,.int 0,.int (-1)]=yz xs)
  (r1:Xz (Src.con xs).get (.var 4) (λenv S=>pd F G (Xb2 im iw) env S) (ll xs+1) 0 [yz n,yz s,yz (.ref (ll S)),yz n,yy,yy] (S++[.lst []])=.ok (.nx e) (S++[.lst (w.map D.int)])) (Y:e[2]?=yz (yz (.ref (ll S)))):
  den F G (Xic ic im iw) [n,s] S=.ok (Xa w) (S++[.lst (w.map D.int)]):=by
 have J:exe F G (.expr (.call ic (.cons (.var 0) (.cons (.var 1) .nil)))) [yz n,yz s,yy,yy,yy,yy] S=.ok (.nx [yz n,yz s,yy,yy,yy,yy]) S:=by simp only[exe,ev,evs,gZ0,gS0,Rk0,hc]
 have s1:=X0 (i:=2) (F:=F) (G:=G) (e:=.lst .nil) (env:=[yz n,yz s,yy,yy,yy,yy]) (S:=S) (d:=.ref (ll S)) (S':=S++[.lst []]) (by simp only[ev,evs,Rk0];exact iP0 (by decide));have L:=X0 (i:=3) (F:=F) (G:=G) (e:=.var 0) (env:=[yz n,yz s,yz (.ref (ll S)),yy,yy,yy]) (S:=S++[.lst []]) (d:=n) (S':=S++[.lst []]) (by simp only[ev,gZ0]);have s3:exe F G (.for (.var 4) (.rng (.cons (.var 1) (.cons (.cst (.int 0)) (.cons (.neg (.cst (.int 1))) .nil)))) (Xb2 im iw)) [yz n,yz s,yz (.ref (ll S)),yz n,yy,yy] (S++[.lst []])=.ok (.nx e) (S++[.lst (w.map D.int)]):=by simp only[exe,evit,evs,ev,gZ0,gS0,Rk0,hr,Src.most];exact r1
 have s4:exe F G (.ret (.blt .tuple (.cons (.var 2) .nil))) e (S++[.lst (w.map D.int)])=.ok (.rt (Xa w)) (S++[.lst (w.map D.int)]):=by simp only[exe,ev,evs,Y,Rk0,Xm,Xq,Xg,Xa]
 simp only[den,Xic,Ud,if_true,Uj,Vg];have q:pd F G (.cons (.expr (.call ic (.cons (.var 0) (.cons (.var 1) .nil)))) (.cons (.asg (.var 2) (.lst .nil)) (.cons (.asg (.var 3) (.var 0)) (.cons (.for (.var 4) (.rng (.cons (.var 1) (.cons (.cst (.int 0)) (.cons (.neg (.cst (.int 1))) .nil)))) (Xb2 im iw)) (.cons (.ret (.blt .tuple (.cons (.var 2) .nil))) .nil))))) ([yz n,yz s]++[yy,yy,yy,yy]) S=.ok (.rt (Xa w)) (S++[.lst (w.map D.int)]):=
  (Xb J).trans ((Xb s1).trans ((Xb L).trans ((Xb s3).trans (Xh s4))))
 rw[q]
theorem Xxu{ic im iw n s:Nat}(hw:Yn F iw)(hm:Xdc F im)(hc:F ic [.int n,.int s] S=.ok .non S)(aa:1<=s)(hs:s<=12)(L:n<=1000000000000):∃w,den F G (Xic ic im iw) [.int n,.int s] S=.ok (Xa w) (S++[.lst (w.map D.int)])/\Wr s n w:=by
 obtain⟨w,e,J,r2,Y⟩:=Xk1 (G:=G) hw hm (n:=n) (s:=s) (q:=ll S) rfl hs s (s+1) 0 n yy yy (S++[.lst []]) [] (Va1 s) (Vbu s) L Xg (Um _) (λz=>aB0 z (by omega));have e2:(S++[O.lst []]).set (ll S) (.lst ([]++w.map D.int))=S++[.lst (w.map D.int)]:=by rw[Vey _ _ (Vf _),U0,Uz];rfl
 rw[e2]at J;refine⟨w,Xxt hc (Xnv hs) ?_ Y,r2⟩;rw[Vl,Uo];exact J
end
theorem Xur(n i:Nat)(h:i<=n):((C n i*fac i:Nat):Int)*((n:Int)-i)=((C n (i+1)*fac (i+1):Nat):Int):=by
 have e:(n:Int)-i=((n-i:Nat):Int):=by omega
 rw[e,<-Veg];congr 1;have:=Xdu n i;simp only[fac]
 calc C n i*fac i*(n-i)=C n i*(n-i)*fac i:=by rw[Vfe,Vev (fac i),<-Vfe]
  _=C n (i+1)*(i+1)*fac i:=by rw[this]
  _=C n (i+1)*(fac i*(i+1)):=by rw[Vfe,Vev (i+1)]
theorem Xjr(n:Nat):∀i,C n i*fac i<=n^i
 |0=>by rw[Y1];simp[fac]|i+1=>by
  by_cases h:i<=n
  ·have:=Xdu n i;have ih:=Xjr n i;have e:C n (i+1)*fac (i+1)=C n i*fac i*(n-i):=by
    simp only[fac]
    calc C n (i+1)*(fac i*(i+1))=C n (i+1)*(i+1)*fac i:=by rw[Vfe,Vev (i+1)]
     _=C n i*(n-i)*fac i:=by rw[this]
     _=C n i*fac i*(n-i):=by rw[Vfe,Vev (n-i),<-Vfe]
   rw[e,Nat.pow_succ];exact Nat.mul_le_mul ih (Nat.sub_le _ _)
  rw[Xbv n (i+1) (by omega),Nat.zero_mul];exact Um _
theorem Xe9(h:n<2^k)(hk:0<k):n.log2<k:=by
 by_cases h0:n=0;·subst h0;exact hk
 ·exact(Nat.log2_lt h0).mpr h
theorem Xxv(J:n<2^300)(hi:i<=13):((C n i*fac i:Nat):Int).natAbs.log2<100000:=by rw[Int.natAbs_natCast];refine Xe9 (Vbx (Xjr n i) ?_) (by decide);refine Vbx (Vg8 (Vd1 J) i) ?_;rw[<-Nat.pow_mul];exact Nat.pow_lt_pow_right (by decide) (by omega)
section
variable{F:Fn}{G:LD}
noncomputable def lwB:Sts:=.cons (.asg (.var 3) (.bin .mul (.var 3) (.bin .sub (.var 0) (.var 2)))) (.cons (.asg (.var 4) (.bin .mul (.var 4) (.bin .add (.var 2) (.cst (.int 1))))) .nil)
noncomputable def Xb7:Df:=⟨2,5,.cons (.ite (.cmp .gt (.var 1) (.var 0)) (.cons (.ret (.cst (.int 0))) .nil) .nil) (.cons (.asg (.tup [3,4]) (.tup (.cons (.cst (.int 1)) (.cons (.cst (.int 1)) .nil)))) (.cons (.for (.var 2) (.rng (.cons (.var 1) .nil)) lwB) (.cons (.ret (.bin .fdiv (.var 3) (.var 4))) .nil)))⟩
theorem X7e(h1:Yq t (n-i)=yx)(h2:Yq b (i+1)=yx):pd F G lwB [yz (.int n),yz (.int m),yz (.int i),yz (.int t),yz (.int b)] S=.ok (.nx [yz (.int n),yz (.int m),yz (.int i),yz (.int (t*(n-i))),yz (.int (b*(i+1)))]) S:=by have L:=X0 (i:=3) (F:=F) (G:=G) (e:=.bin .mul (.var 3) (.bin .sub (.var 0) (.var 2))) (env:=[yz (.int n),yz (.int m),yz (.int i),yz (.int t),yz (.int b)]) (S:=S) (d:=.int (t*(n-i))) (S':=S) (by simp only[ev,gZ0,gS0,Rk0,Yd,Xa6 h1]);have J:=X0 (i:=4) (F:=F) (G:=G) (e:=.bin .mul (.var 4) (.bin .add (.var 2) (.cst (.int 1)))) (env:=[yz (.int n),yz (.int m),yz (.int i),yz (.int (t*(n-i))),yz (.int b)]) (S:=S) (d:=.int (b*(i+1))) (S':=S) (by simp only[ev,gZ0,gS0,Rk0,Xx,Xa6 h2]);unfold lwB;exact(Xb L).trans ((Xb J).trans (by simp only[pd,Vaz]))
theorem X7f(h0:decide (n<m)=yw)(h1:exe F G (.for (.var 2) (.rng (.cons (.var 1) .nil)) lwB) [yz (.int n),yz (.int m),yy,yz (.int 1),yz (.int 1)] S=.ok (.nx e') S)(Y:e'[3]?=yz (yz (.int t)))(J:e'[4]?=yz (yz (.int b)))(hd:Yr b=yx)(L:t/b=r):den F G Xb7 [.int n,.int m] S=.ok (.int r) S:=by simp only[den,Xb7,Ud,if_true,Uj,Vg,Vbg,Uz];rw[Xb (e:=[yz (.int n),yz (.int m),yy,yy,yy]) (S1:=S) (Xy (by simp only[ev,Vbg,Uz,gZ0,gS0,Rk0,Xi,Xw,h0]))];rw[Xb (e:=[yz (.int n),yz (.int m),yy,yz (.int 1),yz (.int 1)]) (S1:=S) (by simp only[exe,ev,evs,Rk0];rfl)];rw[Xb h1];rw[Xh (d:=.int r) (S1:=S) (by simp only[exe,ev,Y,J,Rk0,Xcz hd,L])]
theorem X2d(h0:decide (n<m)=yx):den F G Xb7 [.int n,.int m] S=.ok (.int 0) S:=by simp only[den,Xb7,Ud,if_true,Uj,Vg,Vbg,Uz];rw[Xh (d:=.int 0) (S1:=S) (Xp7 (by simp only[ev,Vbg,Uz,gZ0,gS0,Rk0,Xi,Xw,h0]))]
theorem X2e(h:i<=13):Yr (fac i:Int)=true:=by
 have:∀j:Fin 14,Yr (fac j.val:Int)=true:=by decide+kernel
 exact this ⟨i,by omega⟩
theorem X2f(h:i<13):Yq (fac i:Int) ((i:Int)+1)=true:=Xcr (by omega) (by omega)
theorem X2g{n i:Nat}(J:n<2^300)(hi:i<=n):((n:Int)-i).natAbs.log2<100000:=by
 have e:((n:Int)-i).natAbs=n-i:=by omega
 rw[e];exact Xe9 (Vbx (Nat.sub_le n i) (V8 J (Vg2 (by decide) (by decide)))) (by decide)
theorem X2h{n m i:Nat}(L:n<2^300)(hi:i<13)(J:i<=n):pd F G lwB [yz (.int n),yz (.int m),yz (.int i),yz (.int ((C n i*fac i:Nat):Int)),yz (.int (fac i))] S=.ok (.nx [yz (.int n),yz (.int m),yz (.int i),yz (.int ((C n (i+1)*fac (i+1):Nat):Int)),yz (.int (fac (i+1)))]) S:=by
 have h:=X7e (F:=F) (G:=G) (n:=n) (m:=m) (t:=((C n i*fac i:Nat):Int)) (b:=(fac i:Int)) (i:=i) (S:=S) (X10 (Xxv L (Vd1 hi)) (X2g L J)) (X2f hi);rw[Xur n i J]at h;have e:(fac i:Int)*((i:Int)+1)=(fac (i+1):Int):=by simp only[fac];rw[Veg];rfl
 rw[e]at h;exact h
theorem Xus{n m:Nat}(Y:n<2^300)(hm:m<=13):den F G Xb7 [.int n,.int m] S=.ok (.int (C n m)) S:=by
 by_cases h:n<m;·rw[Xbv n m h];exact X2d (decide_eq_true (by omega))
 ·obtain⟨xs,L,hl⟩:=Xal (m:=(m:Int)) (by omega) (Xxd (by omega));have J:(ll xs)=m:=by omega
  obtain⟨e',S',h1,rfl,x,rfl⟩:=Xbu (F:=F) (G:=G) (t:=.var 2) (es:=.cons (.var 1) .nil) (b:=lwB) (env:=[yz (.int n),yz (.int m),yy,yz (.int 1),yz (.int 1)]) (S:=S) (S1:=S) (ds:=[.int m]) (xs:=xs)
   (λi e S'=>S'=S/\∃x,e=[yz (.int n),yz (.int m),x,yz (.int ((C n i*fac i:Nat):Int)),yz (.int (fac i))]) (by simp only[evs,ev,gZ0,gS0,Rk0]) L ⟨rfl,yy,by rw[Y1];rfl⟩ (λi d e S' hd hP=>by obtain⟨rfl,x,rfl⟩:=hP;obtain⟨rfl,hi⟩:=Xbf L hd;exact⟨_,_,S',rfl,X2h Y (by omega) (by omega),rfl,_,rfl⟩)
  rw[J]at h1;refine X7f (decide_eq_false (by omega)) h1 rfl rfl (X2e hm) ?_;rw[Veg,Int.mul_ediv_cancel _ (by have:=Xp0 m;omega)]
def LWaysF(F:Fn)(il:Nat):Prop:=∀(n m:Nat) (S:Sto),n<2^300->m<=13->F il [.int n,.int m] S=.ok (.int (C n m)) S
theorem Xfa{T:List Df}{il:Nat}(h:T[il]?=yz Xb7)(k:Nat):LWaysF (FT T G (k+1)) il:=λn m S L J=>by simp only[FT,h];exact Xus L J
theorem Xid{l:LI}{i:Nat}:(Src.enm (.con (l.map D.int))).get S i=yz ((l[i]?).map λx=>D.tup [.int i,.int x]):=by simp only[Src.get,V6];cases l[i]?<;>rfl
end
theorem Xfb:∀l w:LI,Vgk (l.map Vbr) (w.map Vbr)=decide (l=w)
 |[],[]=>by simp[Vgk]|[],_::_=>by simp[Vgk]|_::_,[]=>by simp[Vgk]|x::l,y::w=>by
  have ih:=Xfb l w;simp only[Uj,Vgk,Vef,ih];by_cases e:x=y;·subst e;simp
  ·simp[e]
theorem Xxw(J:Nat->Option Vcs):∀l:LI,datFs J (l.map D.int)=yz (l.map Vbr)
 |[]=>by simp only[Uj,datFs]|x::l=>by simp only[Uj,datFs,X4,Xxw J l]
theorem Xxx:∀l:LI,Vhx (l.map Vbr)=yx
 |[]=>by simp only[Uj,Vhx]|x::l=>by simp only[Uj,Vhx,Vf9,Xxx l,Vc2]
theorem Xxy:∀l:LI,Vb7 (l.map Vbr)=0
 |[]=>by simp only[Uj,Vb7]|x::l=>by simp only[Uj,Vb7,Va7,Xxy l,Nat.max_self]
theorem X2i(l w:LI)(S:Sto):Xi .eq (Xa l) (Xa w) S=.ok (.bl (decide (l=w))) S:=by
 have hd:∀l:LI,Xam S (Xa l)=yz (.tuple (l.map Vbr)):=λl=>by simp only[Xam,Xa,X4,Xxw,V7]
 have h1:∀l:LI,(PyData.tuple (l.map Vbr)).canLay0=true:=λl=>by simp only[Vf9,Xxx]
 have h2:(PyData.tuple (l.map Vbr)).depth<=60:=by simp only[Va7,Xxy];omega
 have L:Vef (.tuple (l.map Vbr)) (.tuple (w.map Vbr))=decide (l=w):=by simp only[Vef,Xfb]
 have hs:Xdi (Xa l) (Xa w)=none:=rfl;have J:eqD S (Xa l) (Xa w)=yz (decide (l=w)):=by simp only[eqD,hs,hd,h1,L,decide_eq_true h2,Vc2,if_true]
 simp only[Xi,Xw,J]
theorem X2j(l w:LI)(S:Sto):Xi .ne (Xa l) (Xa w) S=.ok (.bl (!decide (l=w))) S:=by
 have h:=X2i l w S;simp only[Xi,Xw]at h ⊢;cases e:eqD S (Xa l) (Xa w) with
 |none=>rw[e]at h;cases h|some b=>rw[e]at h;simp only[R.ok.injEq,D.bl.injEq,and_true]at h;subst h;rfl
section
variable{F:Fn}{G:LD}
noncomputable def Xlq(i1:Nat)(a b:Str):Df:=⟨2,2,.cons (.ite (.not (.call i1 (.cons (.var 0) (.cons (.cst (.int 0)) (.cons (.glb 0) .nil))))) (.cons (.rse 8 (.cst (.str a))) .nil) .nil) (.cons (.ite (.not (.call i1 (.cons (.var 1) (.cons (.cst (.int 1)) (.cons (.glb 1) .nil))))) (.cons (.rse 8 (.cst (.str b))) .nil) .nil) .nil)⟩
variable{i1:Nat}{d e:D}{x y:Str}{g1 g2:Int}{S:Sto}
theorem X2k(h0:G[0]?=yz (.int g1))(h1:G[1]?=yz (.int g2))(h:F i1 [d,.int 0,.int g1] S=.ok (.bl yx) S)(h':F i1 [e,.int 1,.int g2] S=.ok (.bl yx) S):den F G (Xlq i1 x y) [d,e] S=.ok .non S:=by simp only[den,Xlq,Ud,if_true,Uj,Vg,U0,Vv];rw[Xb (e:=[yz d,yz e]) (S1:=S) (Xy (by simp only[ev,evs,gZ0,Rk0,h0,h,Xf];rfl))];rw[Xb (e:=[yz d,yz e]) (S1:=S) (Xy (by simp only[ev,evs,gZ0,gS0,Rk0,h1,h',Xf];rfl))];simp only[pd]
end
noncomputable def Xa8(g:Nat->Nat->Nat):Nat->LI->Nat
 |_,[]=>0|0,_::_=>0|k+1,x::r=>g x.toNat (k+1)+Xa8 g k r
noncomputable def gU(a k:Nat):Nat:=C a (k+1)
noncomputable def gL(a k:Nat):Nat:=C a (k-1)
noncomputable def gB(a k:Nat):Nat:=C (a+1) (k+1)
section
variable{F:Fn}{G:LD}
noncomputable def Xgg(iw:Nat):Df:=⟨2,2,.cons (.ret (.cmr yw 3 (.cons (.tup [3,4]) (.enm (.cons (.call iw (.cons (.var 0) (.cons (.var 1) .nil))) .nil)) .nil .nil) (.tup (.cons (.var 4) (.cons (.bin .sub (.var 1) (.var 3)) .nil))))) .nil⟩
noncomputable def Y7(w:LI)(s:Int)(i:Nat):D:=.tup [.int (w.getD i 0),.int (s-i)]
theorem X2l(x y:D)(S:Sto):(if [x,y].length<=big then R.ok (D.tup [x,y]) S else R.bad)=R.ok (D.tup [x,y]) S:=iP0 (by show 2<=big;decide)
theorem Xrt(h:F iw [.int n,.int s] S=.ok (Xa w) S1)(hl:(ll w)<=12):
  den F G (Xgg iw) [.int n,.int s] S=.ok (.ref (ll S1)) (S1++[.lst ((Vm w.length).map (Y7 w s))]):=by
 have L:evit F G (.enm (.cons (.call iw (.cons (.var 0) (.cons (.var 1) .nil))) .nil)) [yz (.int n),yz (.int s)] S=.ok (.enm (.con (w.map D.int))) S1:=by simp only[evit,evs,ev,gZ0,gS0,Rk0,h,Xa,Yo]
 obtain⟨e',S',a,b⟩:=Xdw (n:=3) (elt:=.tup (.cons (.var 4) (.cons (.bin .sub (.var 1) (.var 3)) .nil))) (t:=.tup [3,4]) ((Vm w.length).map λ(i:Nat)=>D.tup [.int (i:Int),.int (w.getD i 0)]) (Y7 w s) (λi e S=>S=S1/\∃p q r,e=[yz (.int n),yz (.int s),p,q,r]) L
  (by simp[Src.most]) (by rw[Vl,Uo];exact Yx (by omega)) ⟨rfl,yy,yy,yy,rfl⟩
  (λi e S Y=>by
   rw[Xid];congr 1;simp only[V6,Vg3];by_cases q:i<ll w;·simp[q,Vf0]
   ·simp[q])
  (λi d e S hd Y=>by
   obtain⟨rfl,p,q,r,rfl⟩:=Y;have hi:i<ll w:=by have:=(Vd.mp hd).1;simpa using this
   have J:d=D.tup [.int (i:Int),.int (w.getD i 0)]:=by simp only[V6,Vag hi,V7,Vq]at hd;exact hd.symm
   subst J;refine⟨[yz (.int n),yz (.int s),p,yz (.int i),yz (.int (w.getD i 0))],S,rfl,?_,rfl,p,_,_,rfl⟩;simp only[ev,evs,gZ0,gS0,Rk0,Yd,X2l,Y7])
 obtain⟨rfl,_⟩:=b;simp only[den,Xgg,Ud,if_true,Uj,Vg,U0,Vv];simp only[Vl,Uo]at a;rw[Xh (d:=.ref (ll S')) (S1:=S'++[.lst ((Vm w.length).map (Y7 w s))]) (by simp only[exe,a,Rk0])]
noncomputable def Xlr(J:Nat)(elt:Ex):Df:=⟨2,2,.cons (.ret (.blt .smB (.cons (.cmr yw 3 (.cons (.tup [3,4]) (.val (.call J (.cons (.var 0) (.cons (.var 1) .nil)))) .nil .nil) elt) .nil))) .nil⟩
theorem Xp9{q:Nat}{l:LI}(h:Xc S q=yz (l.map D.int)):Xm .smB [.ref q] S=.ok (.int l.sum) S:=by
 have:∀l:LI,Xo (l.map D.int)=yz l:=λl=>by
  induction l with
  |nil=>rfl|cons x r ih=>simp only[Uj,Xo,ih,V7]
 simp only[Xm,Xq,h,V5,this]
theorem Xek(g:Nat->Nat->Nat):∀(s:Nat) (w:LI),ll w<=s->(((Vm w.length).map λi=>((g (w.getD i 0).toNat (s-i):Nat):Int)).sum)=(Xa8 g s w:Nat)
 |s,[]=>λ_=>by
  have e:Xa8 g s []=0:=by cases s<;>rfl
  rw[e];rfl|0,_::_=>λh=>by simp at h|s+1,x::r=>λh=>by
  have ih:=Xek g s r (by simp only[U4]at h;omega);rw[U4,Vgf,U6,List.sum_cons,Vam];simp only[Xa8];have e:(Vm r.length).map ((λi=>((g ((x::r).getD i 0).toNat (s+1-i):Nat):Int))∘Nat.succ)=(Vm r.length).map λi=>((g (r.getD i 0).toNat (s-i):Nat):Int):=by
   refine Vd8 λi _=>?_;simp only[Function.comp,List.getD_cons_succ];have:s+1-i.succ=s-i:=by omega
   rw[this]
  rw[e,ih];simp only[List.getD_cons_zero,Nat.sub_zero];omega
theorem Xxz{J:Nat}{g:Nat->Nat->Nat}{n s:Nat}{w:LI}(h:F J [.int n,.int s] S=.ok (.ref (ll S1)) (S1++[.lst ((Vm w.length).map (Y7 w s))]))(hl:(ll w)<=s)(hs:s<=12)
  (he:∀(x c:Nat) (a b d:Option D) (S:Sto),(x:Int)∈w->1<=c->c<=s->ev F G elt [a,b,d,yz (.int x),yz (.int c)] S=.ok (.int (g x c:Nat)) S) (hw:∀x∈w,0<=x):
  ∃X,den F G (Xlr J elt) [.int n,.int s] S=.ok (.int (Xa8 g s w:Nat)) (S1++X):=by
 have aa:evit F G (.val (.call J (.cons (.var 0) (.cons (.var 1) .nil)))) [yz (.int n),yz (.int s)] S=.ok (.ref (ll S1)) (S1++[.lst ((Vm w.length).map (Y7 w s))]):=by simp only[evit,evs,ev,gZ0,gS0,Rk0,h,Yo,Xg,V7]
 obtain⟨e',S',a,b⟩:=Xdw (n:=3) (elt:=elt) (t:=.tup [3,4]) ((Vm w.length).map (Y7 w s)) (λi=>.int ((g (w.getD i 0).toNat (s-i):Nat):Int)) (λi e S=>S=S1++[.lst ((Vm w.length).map (Y7 w s))]/\∃p q r,e=[yz (.int n),yz (.int s),p,q,r]) aa
  (by simp only[Src.most,Xg,Vdc]) (by rw[Vl,Uo];exact Yx (by omega)) ⟨rfl,yy,yy,yy,rfl⟩
  (λi e S Y=>by obtain⟨rfl,_⟩:=Y;simp only[Src.get,Xg,V7])
  (λi d e S hd Y=>by
   obtain⟨rfl,p,q,r,rfl⟩:=Y;have hi:i<ll w:=by have:=(Vd.mp hd).1;simpa using this
   have L:d=Y7 w s i:=by simp only[V6,Vag hi,V7,Vq]at hd;exact hd.symm
   subst L;refine⟨[yz (.int n),yz (.int s),p,yz (.int (w.getD i 0)),yz (.int ((s:Int)-i))],_,rfl,?_,rfl,p,_,_,rfl⟩;have hm:w.getD i 0∈w:=by
    have:w.getD i 0=w[i]:=by simp[Vf0,hi]
    rw[this];exact Vd4 hi
   have hx:=hw _ hm;have e1:((w.getD i 0).toNat:Int)=w.getD i 0:=by omega
   have e2:(s:Int)-i=((s-i:Nat):Int):=by omega
   have q1:=he (w.getD i 0).toNat (s-i) (yz (.int n)) (yz (.int s)) p (S1++[.lst ((Vm w.length).map (Y7 w s))]) (by rw[e1];exact hm) (by omega) (by omega)
   rw[e1]at q1;rw[e2];exact q1)
 obtain⟨rfl,_⟩:=b;refine⟨[.lst ((Vm w.length).map (Y7 w s))]++[.lst ((Vm ((Vm w.length).map (Y7 w s)).length).map λi=>D.int ((g (w.getD i 0).toNat (s-i):Nat):Int))],?_⟩;simp only[den,Xlr,Ud,if_true,Uj,Vg,U0,Vv];rw[<-Vt];have q:=Xp9 (S:=S1++[.lst ((Vm w.length).map (Y7 w s))]++[.lst ((Vm ((Vm w.length).map (Y7 w s)).length).map λi=>D.int ((g (w.getD i 0).toNat (s-i):Nat):Int))]) (q:=(S1++[O.lst ((Vm w.length).map (Y7 w s))]).length) (l:=(Vm w.length).map λi=>((g (w.getD i 0).toNat (s-i):Nat):Int)) (by rw[Xg,Vl,Uo,Vam];rfl);rw[Xek g s w hl]at q;rw[Xh (d:=.int (Xa8 g s w:Nat)) (S1:=S1++[.lst ((Vm w.length).map (Y7 w s))]++[.lst ((Vm ((Vm w.length).map (Y7 w s)).length).map λi=>D.int ((g (w.getD i 0).toNat (s-i):Nat):Int))]) (by rw[exe,ev,evs,a,Rk0,evs,Rk0,Rk0,q,Rk0])]
theorem X94{iw:Nat}(J:Yn F iw){x c:Nat}{a b d:Option D}(L:x+1<=10000000000000)(hc:c<=12):ev F G (.call iw (.cons (.bin .add (.var 3) (.cst (.int 1))) (.cons (.bin .add (.var 4) (.cst (.int 1))) .nil))) [a,b,d,yz (.int x),yz (.int c)] S=.ok (.int (gB x c:Nat)) S:=by
 have e:(c:Int)+1=((c+1:Nat):Int):=by omega
 have Y:(x:Int)+1=((x+1:Nat):Int):=by omega
 simp only[ev,evs,gZ0,gS0,Rk0,Xx,e,Y,J (x+1) (c+1) S L (by omega),gB]
theorem LWaysF.ways(h:LWaysF F il):Yn F il:=λn m S L J=>h n m S (Vbx L (by decide)) J
noncomputable def lrT:Ex:=.cmp .gt (.bin .sub (.var 6) (.var 5)) (.cst (.int 1))
noncomputable def lrB(iw:Nat):Sts:=.cons (.asg (.var 7) (.bin .fdiv (.bin .add (.var 5) (.var 6)) (.cst (.int 2)))) (.cons (.ite (.cmp .le (.call iw (.cons (.var 7) (.cons (.var 4) .nil))) (.var 3)) (.cons (.asg (.var 5) (.var 7)) .nil) (.cons (.asg (.var 6) (.var 7)) .nil)) .nil)
noncomputable def Xcc(F:Fn)(G:LD)(c:Ex):En->Sto->R Bool:=λenv S=>(ev F G c env S).bind λx S=>match Xf S x with
 |some r=>.ok r S|none=>.bad
theorem Xut:Xcc F G lrT [a0,a1,a2,a3,a4,yz (.int lw),yz (.int hi),x] S=.ok (decide (1<hi-lw)) S:=by unfold Xcc;simp only[lrT,ev,gZ0,gS0,Rk0,Yd,Xi,Xw,Xf]
theorem X2m{iw:Nat}(Y:Yn F iw){a0 a1 a2 x:Option D}{n k lw hi:Nat}(hk:k<=12)(h:(lw+hi)/2<=10000000000000):
  pd F G (lrB iw) [a0,a1,a2,yz (.int n),yz (.int k),yz (.int lw),yz (.int hi),x] S=.ok (.nx (if C ((lw+hi)/2) k<=n then [a0,a1,a2,yz (.int n),yz (.int k),yz (.int ((lw+hi)/2:Nat)),yz (.int hi),yz (.int ((lw+hi)/2:Nat))] else [a0,a1,a2,yz (.int n),yz (.int k),yz (.int lw),yz (.int ((lw+hi)/2:Nat)),yz (.int ((lw+hi)/2:Nat))])) S:=by
 have e:((lw:Int)+hi)/2=((lw+hi)/2:Nat):=by omega
 have L:=X0 (i:=7) (F:=F) (G:=G) (e:=.bin .fdiv (.bin .add (.var 5) (.var 6)) (.cst (.int 2))) (env:=[a0,a1,a2,yz (.int n),yz (.int k),yz (.int lw),yz (.int hi),x]) (S:=S) (d:=.int ((lw+hi)/2:Nat)) (S':=S) (by simp only[ev,gZ0,gS0,Rk0,Xx,Xcz d2,e]);generalize (lw+hi)/2=m at L h;have hc:=Y m k S h (by omega);have J:ev F G (.cmp .le (.call iw (.cons (.var 7) (.cons (.var 4) .nil))) (.var 3)) [a0,a1,a2,yz (.int n),yz (.int k),yz (.int lw),yz (.int hi),yz (.int m)] S=.ok (.bl (decide ((C m k:Int)<=n))) S:=by simp only[ev,evs,gZ0,gS0,Rk0,hc,Xi,Xw]
 unfold lrB;rw[Xb L];by_cases q:C m k<=n;·have hd:decide ((C m k:Int)<=n)=true:=decide_eq_true (by omega);rw[hd]at J;rw[iP0 q];rw[Xb (e:=[a0,a1,a2,yz (.int n),yz (.int k),yz (.int m),yz (.int hi),yz (.int m)]) (S1:=S) (by show exe F G _ [a0,a1,a2,yz (.int n),yz (.int k),yz (.int lw),yz (.int hi),yz (.int m)] S=_;rw[exe,J,Rk0];simp only[Xf,pd,exe,ev,gZ0,gS0,Rk0,Xk,Vaz])];rw[pd]
 ·have hd:decide ((C m k:Int)<=n)=false:=decide_eq_false (by omega);rw[hd]at J;rw[iN0 q];rw[Xb (e:=[a0,a1,a2,yz (.int n),yz (.int k),yz (.int lw),yz (.int m),yz (.int m)]) (S1:=S) (by show exe F G _ [a0,a1,a2,yz (.int n),yz (.int k),yz (.int lw),yz (.int hi),yz (.int m)] S=_;rw[exe,J,Rk0];simp only[Xf,pd,exe,ev,gZ0,gS0,Rk0,Xk,Vaz])];rw[pd]
theorem Xjs{iw:Nat}(hw:Yn F iw){a0 a1 a2:Option D}{n k:Nat}(hk:k<=12):∀(j J lw hi:Nat) (x:Option D),hi-lw<=2^j->j<J->lw<hi->k<=lw->hi<=5000000000000->C lw k<=n->n<C hi k ->
  ∃m h Y,Yk (Xcc F G lrT) (λenv S=>pd F G (lrB iw) env S) J [a0,a1,a2,yz (.int n),yz (.int k),yz (.int lw),yz (.int hi),x] S=.ok (.nx [a0,a1,a2,yz (.int n),yz (.int k),yz (.int (m:Nat)),h,Y]) S/\Most n k m
 |j,0=>λlw hi x h1 h2 h3 h4 h5 h6 h7=>by omega|j,J+1=>λlw hi x h1 h2 h3 h4 h5 h6 h7=>by
  by_cases q:hi=lw+1;·subst q;have L:=Xut (F:=F) (G:=G) (a0:=a0) (a1:=a1) (a2:=a2) (a3:=yz (.int n)) (a4:=yz (.int k)) (lw:=lw) (hi:=(lw+1:Nat)) (x:=x) (S:=S);have hd:decide ((1:Int)<((lw+1:Nat):Int)-lw)=false:=decide_eq_false (by omega);rw[hd]at L;refine⟨lw,yz (.int (lw+1:Nat)),x,?_,h4,h6,h7⟩;simp only[Yk,L]
  ·have L:=Xut (F:=F) (G:=G) (a0:=a0) (a1:=a1) (a2:=a2) (a3:=yz (.int n)) (a4:=yz (.int k)) (lw:=lw) (hi:=hi) (x:=x) (S:=S);have hd:decide ((1:Int)<(hi:Int)-lw)=true:=decide_eq_true (by omega);rw[hd]at L;have hb:=X2m (G:=G) hw (a0:=a0) (a1:=a1) (a2:=a2) (n:=n) (k:=k) (lw:=lw) (hi:=hi) (x:=x) (S:=S) hk (by omega);obtain⟨j,rfl⟩:∃i,j=i+1:=by
    cases j with
    |zero=>simp at h1;omega|succ j=>exact⟨j,rfl⟩
   rw[Nat.pow_succ]at h1;by_cases c:C ((lw+hi)/2) k<=n;·rw[iP0 c]at hb;obtain⟨m,h,Y,r1,r2⟩:=Xjs hw hk j J ((lw+hi)/2) hi (yz (.int ((lw+hi)/2:Nat))) (by omega) (by omega) (by omega) (by omega) h5 c h7;exact⟨m,h,Y,by simp only[Yk,L,hb];exact r1,r2⟩
   ·rw[iN0 c]at hb;obtain⟨m,h,Y,r1,r2⟩:=Xjs hw hk j J lw ((lw+hi)/2) (yz (.int ((lw+hi)/2:Nat))) (by omega) (by omega) (by omega) h4 (by omega) h6 (by omega);exact⟨m,h,Y,by simp only[Yk,L,hb];exact r1,r2⟩
theorem Xx0{iw:Nat}(hw:Yn F iw){a0 a1 a2 x:Option D}{n k:Nat}(ab:1<=k)(hk:k<=12)(L:1<=n)(hn:n<=1000000000000):
  ∃m h Y,exe F G (.whl lrT (lrB iw)) [a0,a1,a2,yz (.int n),yz (.int k),yz (.int k),yz (.int (k+n:Nat)),x] S=.ok (.nx [a0,a1,a2,yz (.int n),yz (.int k),yz (.int (m:Nat)),h,Y]) S/\Most n k m:=by
 have aa:n<C (k+n) k:=by obtain⟨J,rfl⟩:∃J,k=J+1:=⟨k-1,by omega⟩;have:=Xej J n;omega
 obtain⟨m,h,Y,r1,r2⟩:=Xjs (G:=G) hw (a0:=a0) (a1:=a1) (a2:=a2) (n:=n) (k:=k) (S:=S) hk 41 100000 k (k+n) x (by have ac:(2:Nat)^41=2199023255552:=(by decide);omega) (by omega) (by omega) (Vf _) (by omega) (by rw[Xd0];exact L) aa;exact⟨m,h,Y,by rw[exe];exact r1,r2⟩
noncomputable def lrO:Ex:=.cmp .gt (.var 3) (.cst (.int 0))
noncomputable def lrW(iw:Nat):Sts:=.cons (.asg (.var 4) (.bin .sub (.var 1) (.blt .len (.cons (.var 2) .nil)))) (.cons (.par [5,6] (.cons (.var 4) (.cons (.bin .add (.var 4) (.var 3)) .nil))) (.cons (.whl lrT (lrB iw)) (.cons (.expr (.mth .append (.var 2) (.cons (.var 5) .nil))) (.cons (.asg (.var 3) (.bin .sub (.var 3) (.call iw (.cons (.var 5) (.cons (.var 4) .nil))))) .nil))))
noncomputable def Xie(iw:Nat):Df:=⟨2,8,.cons (.par [2,3] (.cons (.lst .nil) (.cons (.var 0) .nil))) (.cons (.whl lrO (lrW iw)) (.cons (.ret (.blt .tuple (.cons (.var 2) .nil))) .nil))⟩
theorem X2n:Xcc F G lrO [a0,a1,a2,yz (.int r),a4,a5,a6,a7] S=.ok (decide (0<r)) S:=by unfold Xcc;simp only[lrO,ev,gZ0,gS0,Rk0,Xi,Xw,Xf]
theorem X2o(h:Xc S q=yz xs):Xm .len [.ref q] S=.ok (.int (ll xs)) S:=by simp only[Xm,Xq,h]
theorem X2p{iw:Nat}(hw:Yn F iw){a0 a4 a5 a6 a7:Option D}{r k q s:Nat}{acc:LD}(ab:1<=k)(hk:k<=12)(aa:1<=r)(hr:r<=1000000000000)(hq:Xc S q=yz acc)(hs:s=k+ll acc)(hl:(ll acc)<100):
  ∃m h J,Most r k m/\pd F G (lrW iw) [a0,yz (.int s),yz (.ref q),yz (.int r),a4,a5,a6,a7] S=.ok (.nx [a0,yz (.int s),yz (.ref q),yz (.int ((r-C m k:Nat):Int)),yz (.int k),yz (.int m),h,J]) (S.set q (.lst (acc++[.int m]))):=by
 have s1:exe F G (.asg (.var 4) (.bin .sub (.var 1) (.blt .len (.cons (.var 2) .nil)))) [a0,yz (.int s),yz (.ref q),yz (.int r),a4,a5,a6,a7] S=.ok (.nx [a0,yz (.int s),yz (.ref q),yz (.int r),yz (.int k),a5,a6,a7]) S:=X0 (by
  have e:(s:Int)-(ll acc:Int)=(k:Int):=by omega
  simp only[ev,evs,gZ0,gS0,Rk0,X2o hq,Yd,e])
 have s2:exe F G (.par [5,6] (.cons (.var 4) (.cons (.bin .add (.var 4) (.var 3)) .nil))) [a0,yz (.int s),yz (.ref q),yz (.int r),yz (.int k),a5,a6,a7] S=.ok (.nx [a0,yz (.int s),yz (.ref q),yz (.int r),yz (.int k),yz (.int k),yz (.int (k+r:Nat)),a7]) S:=by
  have e:(k:Int)+(r:Int)=((k+r:Nat):Int):=by omega
  rw[exe];simp only[evs,ev,gZ0,gS0,Rk0,Xx,e];rfl
 obtain⟨m,h,J,s3,h2⟩:=Xx0 (F:=F) (G:=G) hw (a0:=a0) (a1:=yz (.int s)) (a2:=yz (.ref q)) (x:=a7) (n:=r) (k:=k) (S:=S) ab hk aa hr;refine⟨m,h,J,h2,?_⟩;have ae:m<=10000000000000:=by obtain⟨a1,a2,a3⟩:=h2;obtain⟨L,rfl⟩:∃L,k=L+1:=⟨k-1,by omega⟩;obtain⟨j,rfl⟩:∃j,m=L+1+j:=⟨m-(L+1),by omega⟩;have:=Xej L j;omega
 have ac:=Xgd (x:=.int m) hq (by omega);have Y:Xaf .append (.ref q) S=true:=by simp only[Xaf,hq,Vck]
 have s4:exe F G (.expr (.mth .append (.var 2) (.cons (.var 5) .nil))) [a0,yz (.int s),yz (.ref q),yz (.int r),yz (.int k),yz (.int m),h,J] S=.ok (.nx [a0,yz (.int s),yz (.ref q),yz (.int r),yz (.int k),yz (.int m),h,J]) (S.set q (.lst (acc++[.int m]))):=by simp only[exe,ev,evs,gZ0,gS0,Rk0,Y,if_true,ac]
 have af:=hw m k (S.set q (.lst (acc++[.int m]))) ae (by omega)
 have s5:exe F G (.asg (.var 3) (.bin .sub (.var 3) (.call iw (.cons (.var 5) (.cons (.var 4) .nil))))) [a0,yz (.int s),yz (.ref q),yz (.int r),yz (.int k),yz (.int m),h,J] (S.set q (.lst (acc++[.int m])))=.ok (.nx [a0,yz (.int s),yz (.ref q),yz (.int ((r-C m k:Nat):Int)),yz (.int k),yz (.int m),h,J]) (S.set q (.lst (acc++[.int m]))):=X0 (by
  have e:(r:Int)-(C m k:Int)=((r-C m k:Nat):Int):=by have:=h2.2.1;omega
  simp only[ev,evs,gZ0,gS0,Rk0,af,Yd,e])
 unfold lrW;exact(Xb s1).trans ((Xb s2).trans ((Xb s3).trans ((Xb s4).trans ((Xb s5).trans (by simp only[pd])))))
theorem Xnw(hw:Yn F iw)(hs:s<=12):∀(k J r:Nat) (x4 x5 x6 x7:Option D) (S:Sto) (acc:LD),s=k+ll acc->k<J->r<=1000000000000->Xc S q=yz acc->(k=0->r=0) ->
  ∃w e,Yk (Xcc F G lrO) (λenv S=>pd F G (lrW iw) env S) J [a0,yz (.int s),yz (.ref q),yz (.int r),x4,x5,x6,x7] S=.ok (.nx e) (S.set q (.lst (acc++w.map D.int)))/\Wr k r w/\e[2]?=yz (yz (.ref q))
 |k,0=>λr x4 x5 x6 x7 S acc h1 h2 h3 h4 h6=>by omega|k,J+1=>λr x4 x5 x6 x7 S acc h1 h2 h3 h4 h6=>by
  have Y:=X2n (F:=F) (G:=G) (a0:=a0) (a1:=yz (.int s)) (a2:=yz (.ref q)) (a4:=x4) (a5:=x5) (a6:=x6) (a7:=x7) (r:=r) (S:=S);by_cases hr:r=0
  ·subst hr;have hd:decide ((0:Int)<((0:Nat):Int))=false:=by decide
   rw[hd]at Y;refine⟨[],[a0,yz (.int s),yz (.ref q),yz (.int ((0:Nat):Int)),x4,x5,x6,x7],?_,?_,rfl⟩
   ·have e:S.set q (.lst (acc++([]:LI).map D.int))=S:=by
     obtain⟨aa,hv⟩:=Vd.mp (Xbo h4);rw[Vcp,Vv,<-hv];exact Ve4 aa
    rw[e];simp only[Yk,Y]
   cases k with
   |zero=>exact⟨rfl,rfl⟩|succ k=>exact .inl ⟨rfl,rfl⟩
  obtain⟨k,rfl⟩:∃k',k=k'+1:=⟨k-1,by
   cases k with
   |zero=>exact aB0 (h6 rfl) hr
   |succ k=>omega⟩
  have hd:decide ((0:Int)<(r:Int))=true:=decide_eq_true (by omega);rw[hd]at Y;obtain⟨m,h,x',m1,m2⟩:=X2p (G:=G) hw (a0:=a0) (a4:=x4) (a5:=x5) (a6:=x6) (a7:=x7) (r:=r) (k:=k+1) (q:=q) (s:=s) (S:=S) (acc:=acc) (by omega) (by omega) (by omega) h3 h4 h1 (by omega);have L:k=0->r-C m (k+1)=0:=λz=>by subst z;obtain⟨a1,a2,a3⟩:=m1;rw[Va1,Xlp]at a2 ⊢;rw[Va1,Xlp]at a3;omega
  obtain⟨w,e,r1,r2,r3⟩:=Xnw hw hs k J (r-C m (k+1)) (yz (.int ((k+1:Nat):Int))) (yz (.int m)) h x' (S.set q (.lst (acc++[.int m]))) (acc++[.int m]) (by simp;omega) (by omega) (by omega) (Xau (Xaa h4)) L;refine⟨(m:Int)::w,e,?_,.inr ⟨m,w,rfl,by omega,m1,r2⟩,r3⟩;rw[List.set_set,Vt]at r1;simp only[Yk,Y,m2];exact r1
theorem Xuu{iw n s:Nat}(hw:Yn F iw)(aa:1<=s)(hs:s<=12)(L:n<=1000000000000):∃w,den F G (Xie iw) [.int n,.int s] S=.ok (Xa w) (S++[.lst (w.map D.int)])/\Wr s n w:=by
 obtain⟨w,e,J,r2,Y⟩:=Xnw (F:=F) (G:=G) hw (a0:=yz (.int n)) (s:=s) (q:=ll S) hs s 100000 n yy yy yy yy (S++[.lst []]) [] (by simp) (by omega) L Xg (λz=>by omega);have e2:(S++[O.lst []]).set (ll S) (.lst ([]++w.map D.int))=S++[.lst (w.map D.int)]:=by rw[Vey _ _ (Vf _),U0,Uz];rfl
 rw[e2]at J;refine⟨w,?_,r2⟩;have nb:ev F G (.lst .nil) [yz (.int n),yz (.int s),yy,yy,yy,yy,yy,yy] S=.ok (.ref (ll S)) (S++[.lst []]):=by simp only[ev,evs,Rk0];exact iP0 (by decide)
 have s1:exe F G (.par [2,3] (.cons (.lst .nil) (.cons (.var 0) .nil))) [yz (.int n),yz (.int s),yy,yy,yy,yy,yy,yy] S=.ok (.nx [yz (.int n),yz (.int s),yz (.ref (ll S)),yz (.int n),yy,yy,yy,yy]) (S++[.lst []]):=by rw[exe,evs,nb,Rk0];simp only[evs,ev,gZ0,Rk0];rfl
 have s2:exe F G (.whl lrO (lrW iw)) [yz (.int n),yz (.int s),yz (.ref (ll S)),yz (.int n),yy,yy,yy,yy] (S++[.lst []])=.ok (.nx e) (S++[.lst (w.map D.int)]):=by rw[exe];exact J
 have s3:exe F G (.ret (.blt .tuple (.cons (.var 2) .nil))) e (S++[.lst (w.map D.int)])=.ok (.rt (Xa w)) (S++[.lst (w.map D.int)]):=by simp only[exe,ev,evs,Y,Rk0,Xm,Xq,Xg,Xa]
 simp only[den,Xie,Ud,if_true,Uj,Vg];have q:pd F G (.cons (.par [2,3] (.cons (.lst .nil) (.cons (.var 0) .nil))) (.cons (.whl lrO (lrW iw)) (.cons (.ret (.blt .tuple (.cons (.var 2) .nil))) .nil))) ([yz (.int n),yz (.int s)]++[yy,yy,yy,yy,yy,yy]) S=.ok (.rt (Xa w)) (S++[.lst (w.map D.int)]):=
  (Xb s1).trans ((Xb s2).trans (Xh s3))
 rw[q]
noncomputable def Xdd(w:LI)(i:Nat):D:=.tup [.int i,.int (w.getD i 0)]
theorem Xif:∀(w:LI) (n:Nat),Yj n (w.map D.int)=(Vm w.length).map λi=>D.tup [.int (n+i:Nat),.int (w.getD i 0)]
 |[]=>λn=>rfl|x::r=>λn=>by
  rw[U6,Yj,Xif r (n+1),U4,Vgf,U6,Vam];simp only[Vex,List.getD_cons_zero];congr 1;refine Vd8 λi _=>?_;simp only[Function.comp,List.getD_cons_succ];have:n+1+i=n+i.succ:=by omega
  rw[this]
theorem Xuv(w:LI):Yj 0 (w.map D.int)=(Vm w.length).map (Xdd w):=by rw[Xif];refine Vd8 λi _=>?_;rw[Va1];rfl
theorem Xqa(J:Xc S q=yz (Yj 0 (w.map D.int)))(hl:(ll w)<=s)(hs:s<=12)
  (he:∀(x i:Nat) (p:Option D),(x:Int)∈w->i<s->ev F G elt [a0,a1,a2,yz (.ref q),p,yz (.int i),yz (.int x)] S=.ok (.int (g x (s-i):Nat)) S) (hw:∀x∈w,0<=x):
  ∃X,ev F G (.blt .smB (.cons (.cmr yw 3 (.cons (.tup [5,6]) (.val (.var 3)) .nil .nil) elt) .nil)) [a0,a1,a2,yz (.ref q)] S=.ok (.int (Xa8 g s w:Nat)) (S++X):=by
 rw[Xuv]at J;have aa:evit F G (.val (.var 3)) [a0,a1,a2,yz (.ref q)] S=.ok (.ref q) S:=by simp only[evit,ev,gZ0,gS0,Rk0,Yo,J,V7]
 obtain⟨e',S',a,b⟩:=Xdw (n:=3) (elt:=elt) (t:=.tup [5,6]) ((Vm w.length).map (Xdd w)) (λi=>.int ((g (w.getD i 0).toNat (s-i):Nat):Int)) (λi e S'=>S'=S/\∃p x y,e=[a0,a1,a2,yz (.ref q),p,x,y]) aa
  (by simp only[Src.most,J,Vdc]) (by rw[Vl,Uo];exact Yx (by omega)) ⟨rfl,yy,yy,yy,rfl⟩
  (λi e S Y=>by obtain⟨rfl,_⟩:=Y;simp only[Src.get,J,V7])
  (λi d e S hd Y=>by
   obtain⟨rfl,p,x,y,rfl⟩:=Y;have hi:i<ll w:=by have:=(Vd.mp hd).1;simpa using this
   have L:d=Xdd w i:=by simp only[V6,Vag hi,V7,Vq]at hd;exact hd.symm
   subst L;refine⟨[a0,a1,a2,yz (.ref q),p,yz (.int i),yz (.int (w.getD i 0))],S,rfl,?_,rfl,p,_,_,rfl⟩;have hm:w.getD i 0∈w:=by
    have:w.getD i 0=w[i]:=by simp[Vf0,hi]
    rw[this];exact Vd4 hi
   have hx:=hw _ hm;have e1:((w.getD i 0).toNat:Int)=w.getD i 0:=by omega
   have q1:=he (w.getD i 0).toNat i p (by rw[e1];exact hm) (by omega)
   rw[e1]at q1;exact q1)
 obtain⟨rfl,_⟩:=b;refine⟨[.lst ((Vm ((Vm w.length).map (Xdd w)).length).map λi=>D.int ((g (w.getD i 0).toNat (s-i):Nat):Int))],?_⟩;have qs:=Xp9 (S:=S'++[.lst ((Vm ((Vm w.length).map (Xdd w)).length).map λi=>D.int ((g (w.getD i 0).toNat (s-i):Nat):Int))]) (q:=ll S') (l:=(Vm w.length).map λi=>((g (w.getD i 0).toNat (s-i):Nat):Int)) (by rw[Xg,Vl,Uo,Vam];rfl);rw[Xek g s w hl]at qs;rw[ev,evs,a,Rk0,evs,Rk0,Rk0,qs]
noncomputable def Xjt(il:Nat):Ex:=.call il (.cons (.var 6) (.cons (.bin .sub (.bin .sub (.var 2) (.var 5)) (.cst (.int 1))) .nil))
noncomputable def Xhg(il:Nat):Ex:=.call il (.cons (.bin .add (.var 6) (.blt .itB (.cons (.cmp .eq (.var 0) (.cst (.int 2))) .nil))) (.cons (.bin .add (.bin .sub (.var 2) (.var 5)) (.cst (.int 1))) .nil))
noncomputable def nxS(e:Ex):Ex:=.blt .smB (.cons (.cmr yw 3 (.cons (.tup [5,6]) (.val (.var 3)) .nil .nil) e) .nil)
noncomputable def Xig(il iw:Nat):Df:=⟨3,4,.cons (.asg (.var 3) (.lenm (.call iw (.cons (.var 1) (.cons (.var 2) .nil))))) (.cons (.ite (.cmp .eq (.var 0) (.cst (.int 1))) (.cons (.ret (nxS (Xjt il))) .nil) .nil) (.cons (.ret (nxS (Xhg il))) .nil))⟩
noncomputable def gK(kd:Nat):Nat->Nat->Nat:=if kd=1 then gL else if kd=2 then gB else gU
theorem X7g{il kd:Nat}(Y:Yn F il)(hk:kd=0\/kd=2){a1 p a3:Option D}{x i s:Nat}(hx:x<=9000000000000)(hi:i<s)(hs:s<=12):
  ev F G (Xhg il) [yz (.int kd),a1,yz (.int s),a3,p,yz (.int i),yz (.int x)] S=.ok (.int (gK kd x (s-i):Nat)) S:=by
 have e1:(s:Int)-(i:Int)+1=((s-i+1:Nat):Int):=by omega
 rcases hk with rfl|rfl
 ·have L:(x:Int)+0=((x:Nat):Int):=by omega
  have J:(((0:Nat):Int)==2)=false:=by decide
  simp only[Xhg,ev,evs,gZ0,gS0,Rk0,Xc2,J,Xm,i2,Ui,if_false,Xx,Yd,e1,L,Y x (s-i+1) S (by omega) (by omega)];rfl
 ·have L:(x:Int)+1=((x+1:Nat):Int):=by omega
  have J:(((2:Nat):Int)==2)=true:=by decide
  simp only[Xhg,ev,evs,gZ0,gS0,Rk0,Xc2,J,Xm,i2,if_true,Xx,Yd,e1,L,Y (x+1) (s-i+1) S (by omega) (by omega)];rfl
theorem X7h{il:Nat}(J:Yn F il){a0 a1 p a3:Option D}{x i s:Nat}(Y:x<=9000000000000)(hi:i<s)(hs:s<=12):
  ev F G (Xjt il) [a0,a1,yz (.int s),a3,p,yz (.int i),yz (.int x)] S=.ok (.int (gK 1 x (s-i):Nat)) S:=by
 have L:(s:Int)-(i:Int)-1=((s-i-1:Nat):Int):=by omega
 simp only[Xjt,ev,evs,gZ0,gS0,Rk0,Yd,L,J x (s-i-1) S (by omega) (by omega)];rfl
theorem X2q(h:F iw [.int n,.int s] S=.ok (Xa w) S1):ev F G (.lenm (.call iw (.cons (.var 1) (.cons (.var 2) .nil)))) [yz a0,yz (.int n),yz (.int s),a3] S=.ok (.ref (ll S1)) (S1++[.lst (Yj 0 (w.map D.int))]):=by simp only[ev,evs,gZ0,gS0,Rk0,h,Xa,Xq]
theorem Xx1{il iw kd n s:Nat}{w:LI}(hw:Yn F il)(h:F iw [.int n,.int s] S=.ok (Xa w) S1)(L:Wr s n w)(hn:n<=1000000000000)(hk:kd<=2)(hs:s<=12):
  ∃X,den F G (Xig il iw) [.int kd,.int n,.int s] S=.ok (.int (Xa8 (gK kd) s w:Nat)) (S1++X):=by
 have hl:=Xun L;have hb:=Xh9 L;have J:∀x:Nat,(x:Int)∈w->x<=9000000000000:=λx J=>by have:=(hb _ J).2;omega
 have s1:exe F G (.asg (.var 3) (.lenm (.call iw (.cons (.var 1) (.cons (.var 2) .nil))))) [yz (.int kd),yz (.int n),yz (.int s),yy] S=.ok (.nx [yz (.int kd),yz (.int n),yz (.int s),yz (.ref (ll S1))]) (S1++[.lst (Yj 0 (w.map D.int))]):=X0 (X2q h);have hq:Xc (S1++[O.lst (Yj 0 (w.map D.int))]) (ll S1)=yz (Yj 0 (w.map D.int)):=Xg;by_cases c:kd=1
 ·subst c;obtain⟨X,e⟩:=Xqa (F:=F) (G:=G) (elt:=Xjt il) (g:=gK 1) (a0:=yz (.int ((1:Nat):Int))) (a1:=yz (.int n)) (a2:=yz (.int s)) hq hl hs (λx i p hm hi=>X7h hw (J x hm) hi hs) λx J=>(hb x J).1;have Y:ev F G (.cmp .eq (.var 0) (.cst (.int 1))) [yz (.int ((1:Nat):Int)),yz (.int n),yz (.int s),yz (.ref (ll S1))] (S1++[.lst (Yj 0 (w.map D.int))])=.ok (.bl yx) (S1++[.lst (Yj 0 (w.map D.int))]):=by
   simp only[ev,gZ0,Rk0,Xc2];rfl
  refine⟨[.lst (Yj 0 (w.map D.int))]++X,?_⟩;simp only[den,Xig,Ud,if_true,Uj,Vg];have q:pd F G (.cons (.asg (.var 3) (.lenm (.call iw (.cons (.var 1) (.cons (.var 2) .nil))))) (.cons (.ite (.cmp .eq (.var 0) (.cst (.int 1))) (.cons (.ret (nxS (Xjt il))) .nil) .nil) (.cons (.ret (nxS (Xhg il))) .nil))) ([yz (.int ((1:Nat):Int)),yz (.int n),yz (.int s)]++[yy]) S=.ok (.rt (.int (Xa8 (gK 1) s w:Nat))) (S1++[.lst (Yj 0 (w.map D.int))]++X):=
   (Xb s1).trans (Xh (by rw[exe,Y,Rk0];simp only[Xf,pd,exe,nxS];rw[e];rfl))
  rw[q,Vt]
 ·have c2:kd=0\/kd=2:=by omega
  obtain⟨X,e⟩:=Xqa (F:=F) (G:=G) (elt:=Xhg il) (g:=gK kd) (a0:=yz (.int kd)) (a1:=yz (.int n)) (a2:=yz (.int s)) hq hl hs (λx i p hm hi=>X7g hw c2 (J x hm) hi hs) λx J=>(hb x J).1;have aa:((kd:Int)==1)=false:=by
   have:(kd:Int)≠1:=by omega
   simpa using this
  have Y:ev F G (.cmp .eq (.var 0) (.cst (.int 1))) [yz (.int kd),yz (.int n),yz (.int s),yz (.ref (ll S1))] (S1++[.lst (Yj 0 (w.map D.int))])=.ok (.bl yw) (S1++[.lst (Yj 0 (w.map D.int))]):=by simp only[ev,gZ0,Rk0,Xc2,aa]
  refine⟨[.lst (Yj 0 (w.map D.int))]++X,?_⟩;simp only[den,Xig,Ud,if_true,Uj,Vg];have q:pd F G (.cons (.asg (.var 3) (.lenm (.call iw (.cons (.var 1) (.cons (.var 2) .nil))))) (.cons (.ite (.cmp .eq (.var 0) (.cst (.int 1))) (.cons (.ret (nxS (Xjt il))) .nil) .nil) (.cons (.ret (nxS (Xhg il))) .nil))) ([yz (.int kd),yz (.int n),yz (.int s)]++[yy]) S=.ok (.rt (.int (Xa8 (gK kd) s w:Nat))) (S1++[.lst (Yj 0 (w.map D.int))]++X):=
   (Xb s1).trans ((Xb (Xy Y)).trans (Xh (by rw[exe];unfold nxS;rw[e];rfl)))
  rw[q,Vt]
end
noncomputable def wri(s n:Nat):LI:=open Classical in if h:∃w,Wr s n w then h.choose else []
theorem Xnx(h:Wr s n w):wri s n=w:=by have J:∃w,Wr s n w:=⟨w,h⟩;unfold wri;rw[dif_pos J];exact J.choose_spec.uniq h
noncomputable def abv(g:Nat->Nat->Nat)(s n:Nat):Nat:=Xa8 g s (wri s n)
theorem Xuw(g:Nat->Nat->Nat)(h:Wr s n w):Xa8 g s w=abv g s n:=by unfold abv;rw[Xnx h]
noncomputable def X7(g:Nat->Nat->Nat)(row:LI)(p:Nat):Bool:=match p with
 |0=>!(row.getD 0 0==1)|p+1=>decide (row.getD (p+1) 0<0)||(decide (1000000000000<row.getD (p+1) 0)||(decide (1<=p)&&decide ((abv g p (row.getD p 0).toNat:Int)<row.getD (p+1) 0)))
noncomputable def Yb(g:Nat->Nat->Nat)(row:LI):D:=match (Vm row.length).find? (X7 g row) with
 |some p=>.int p|none=>.non
theorem Xhh(hp:p<ll row)(h:X7 g row p=yx)(J:∀j<p,X7 g row j=yw):Yb g row=.int p:=by
 have:(Vm row.length).find? (X7 g row)=yz p:=by rw[List.find?_eq_some_iff_getElem];refine⟨h,p,by simpa using hp,by simp,λj L=>?_⟩;simp[J j L]
 unfold Yb;rw[this]
theorem Xny(J:∀j<ll row,X7 g row j=yw):Yb g row=.non:=by
 have:(Vm row.length).find? (X7 g row)=none:=by rw[List.find?_eq_none];intro j L;rw[J j (by simpa using L)];simp
 unfold Yb;rw[this]
theorem Xnz(h:X7 g row p=yw):0<=row.getD p 0/\row.getD p 0<=1000000000000:=by
 cases p with
 |zero=>simp only[X7,Bool.not_eq_false',beq_iff_eq]at h;omega|succ p=>simp only[X7,Vdz,decide_eq_false_iff_not]at h;omega
section
variable{F:Fn}{G:LD}
theorem Xdn{get:Sto->Nat->Option (Option D)}{body:En->Sto->R Fl}{xs:LD}(bad:Nat->Bool)(val:Nat->D)(P:En->Sto->Prop)(Q:Sto->Prop)
  (L:∀i S,get S i=yz xs[i]?)
  (step:∀i d e S,xs[i]?=yz d->(∀j<i,bad j=yw)->P e S->∃e1,Xk t d e=yz e1/\((bad i=yx/\∃S',body e1 S=.ok (.rt (val i)) S'/\Q S')\/(bad i=yw/\∃e2 S',body e1 S=.ok (.nx e2) S'/\P e2 S'))):
  ∀(J i:Nat) (e:En) (S:Sto),ll xs<J+i->i<=ll xs->(∀j<i,bad j=yw)->P e S ->
   (∃p S',p<ll xs/\bad p=yx/\(∀j<p,bad j=yw)/\Xz get t body J i e S=.ok (.rt (val p)) S'/\Q S')\/((∀j<ll xs,bad j=yw)/\∃e' S',Xz get t body J i e S=.ok (.nx e') S'/\P e' S')
 |0=>λi e S h1 h2 Y h4=>by omega|J+1=>λi e S h1 h2 Y h4=>by
  cases q:xs[i]? with
  |none=>
   have hi:i=ll xs:=by have:=U2.mp q;omega
   right;refine⟨by rw[<-hi];exact Y,e,S,?_,h4⟩;simp only[Xz,L,q]|some d=>
   have hi:i<ll xs:=(Vd.mp q).1;obtain⟨e1,a1,a2⟩:=step i d e S q Y h4;rcases a2 with⟨b1,S',b2,b3⟩|⟨b1,e2,S',b2,b3⟩;·left;refine⟨i,S',hi,b1,Y,?_,b3⟩;simp only[Xz,L,q,a1,b2]
   ·have aa:∀j<i+1,bad j=false:=λj hj=>by
     by_cases z:j=i;·rw[z];exact b1
     ·exact Y j (by omega)
    have ih:=Xdn bad val P Q L step J (i+1) e2 S' (by omega) hi aa b3;simp only[Xz,L,q,a1,b2];exact ih
def Xru(F:Fn)(f:Nat)(g:Nat->Nat->Nat)(m:Nat):Prop:=∀(n s:Nat) (S:Sto),n<=1000000000000->1<=s->s<=m->∃X,F f [.int n,.int s] S=.ok (.int (abv g s n:Nat)) (S++X)
def Xgh(F:Fn)(f kd:Nat):Prop:=∀(n s:Nat) (S:Sto),n<=1000000000000->1<=s->s<=11->∃X,F f [.int kd,.int n,.int s] S=.ok (.int (abv (gK kd) s n:Nat)) (S++X)
theorem Xbw{row:LI}{p:Nat}(h:p<ll row)(S:Sto):Xah (Xa row) (.int p) S=.ok (.int (row.getD p 0)) S:=by
 have e:ixN (row.map D.int).length (p:Int)=yz p:=by unfold ixN;rw[iP0 (by omega),iP0 (by rw[Vl];omega)];simp
 have J:(row.map D.int)[p]?=yz (.int (row.getD p 0)):=by rw[V6,Uh h];simp[Vf0,h]
 simp only[Xah,Xaw,Xa,Xq,V5,e,J]
noncomputable def Xrv:Ex:=.not (.chn .le .le (.cst (.int 0)) (.idx (.var 0) (.var 2)) (.glb 0))
noncomputable def Xrw:Ex:=.and (.cmp .gt (.var 2) (.cst (.int 1))) (.cmp .gt (.idx (.var 0) (.var 2)) (.cal (.var 1) (.cons (.idx (.var 0) (.bin .sub (.var 2) (.cst (.int 1)))) (.cons (.bin .sub (.var 2) (.cst (.int 1))) .nil))))
noncomputable def fbR:Sts:=.cons (.ret (.var 2)) .nil
noncomputable def fbB:Sts:=.cons (.ite Xrv fbR .nil) (.cons (.ite Xrw fbR .nil) .nil)
noncomputable def dFirst:Df:=⟨2,3,.cons (.ite (.cmp .ne (.idx (.var 0) (.cst (.int 0))) (.cst (.int 1))) (.cons (.ret (.cst (.int 0))) .nil) .nil) (.cons (.for (.var 2) (.rng (.cons (.cst (.int 1)) (.cons (.blt .len (.cons (.var 0) .nil)) .nil))) fbB) (.cons (.ret (.cst .non)) .nil))⟩
theorem Xih(h2:env[2]?=yz (yz d))(h:ev F G c env S=.ok (.bl yx) S'):exe F G (.ite c fbR .nil) env S=.ok (.rt d) S':=by rw[exe,h,Rk0];simp only[Xf,fbR,pd,exe,ev,h2,Rk0]
theorem X95{row:LI}{fn:Option D}{p:Nat}(hp:p<ll row)(hg:G[0]?=yz (.int 1000000000000)):
  ev F G Xrv [yz (Xa row),fn,yz (.int p)] S=.ok (.bl (decide (row.getD p 0<0)||decide (1000000000000<row.getD p 0))) S:=by
 have hi:=Xbw hp S;generalize row.getD p 0=x at hi;by_cases c:x<0;·have L:decide ((0:Int)<=x)=false:=decide_eq_false (by omega);have J:decide (x<0)=true:=decide_eq_true c;simp only[Xrv,ev,gZ0,gS0,Rk0,hi,Xw,L,Xf,J,Bool.true_or,Vf5]
 ·have L:decide ((0:Int)<=x)=true:=decide_eq_true (by omega);have J:decide (x<0)=false:=decide_eq_false c;have Y:(!decide (x<=1000000000000))=decide (1000000000000<x):=by
   by_cases z:x<=1000000000000;·rw[decide_eq_true z,decide_eq_false (by omega)];rfl
   ·rw[decide_eq_false z,decide_eq_true (by omega)];rfl
  simp only[Xrv,ev,gZ0,gS0,Rk0,hi,hg,Xw,Xi,L,Xf,J,Vfd,Y]
theorem X96{row:LI}{f:Nat}{g:Nat->Nat->Nat}{p:Nat}(hf:Xru F f g 11)(hG:Xbb f nm G=yx)(hp:p+1<ll row)(hl:(ll row)<=12)(hx:0<=row.getD p 0/\row.getD p 0<=1000000000000):
  ∃X,ev F G Xrw [yz (Xa row),yz (.fn f nm),yz (.int ((p+1:Nat):Int))] S=.ok (.bl (decide (1<=p)&&decide ((abv g p (row.getD p 0).toNat:Int)<row.getD (p+1) 0))) (S++X):=by
 have Y:((p+1:Nat):Int)-1=(p:Int):=by omega
 by_cases c:1<=p
 ·have hi:=Xbw (row:=row) (p:=p) (by omega) S;have hi2:=Xbw (row:=row) (p:=p+1) hp;have ex:row.getD p 0=((row.getD p 0).toNat:Int):=by omega
  obtain⟨X,h⟩:=hf (row.getD p 0).toNat p S (by omega) c (by omega);rw[<-ex]at h;have L:decide ((1:Int)<((p+1:Nat):Int))=true:=decide_eq_true (by omega);have J:decide (1<=p)=true:=decide_eq_true c;refine⟨X,?_⟩;simp only[Xrw,ev,evs,gZ0,gS0,Rk0,Xi,Xw,L,Xf,hi2,hG,if_true,Yd,Y,hi,h,J,Vdv]
 ·have L:decide ((1:Int)<((p+1:Nat):Int))=false:=decide_eq_false (by omega);have J:decide (1<=p)=false:=decide_eq_false c;refine⟨[],?_⟩;simp only[Xrw,ev,gZ0,gS0,Rk0,Xi,Xw,L,Xf,J,Vc8,Vv]
theorem X2r{row:LI}{f:Nat}{g:Nat->Nat->Nat}{p:Nat}(hf:Xru F f g 11)(hG:Xbb f nm G=yx)(hg:G[0]?=yz (.int 1000000000000))(hp:p+1<ll row)(hl:(ll row)<=12)(L:0<=row.getD p 0/\row.getD p 0<=1000000000000):
  (X7 g row (p+1)=yx/\∃X,pd F G fbB [yz (Xa row),yz (.fn f nm),yz (.int ((p+1:Nat):Int))] S=.ok (.rt (.int ((p+1:Nat):Int))) (S++X)) \/
  (X7 g row (p+1)=yw/\∃X,pd F G fbB [yz (Xa row),yz (.fn f nm),yz (.int ((p+1:Nat):Int))] S=.ok (.nx [yz (Xa row),yz (.fn f nm),yz (.int ((p+1:Nat):Int))]) (S++X)):=by
 have h1:=X95 (F:=F) (G:=G) (fn:=yz (.fn f nm)) (S:=S) hp hg;obtain⟨X,h2⟩:=X96 (F:=F) (G:=G) (S:=S) hf hG hp hl L;simp only[X7];rw[<-Bool.or_assoc];generalize (decide (row.getD (p+1) 0<0)||decide (1000000000000<row.getD (p+1) 0))=b1 at h1;generalize (decide (1<=p)&&decide ((abv g p (row.getD p 0).toNat:Int)<row.getD (p+1) 0))=J at h2;unfold fbB;cases b1 with
 |true=>left;refine⟨by simp,[],?_⟩;rw[Vv];exact Xh (Xih rfl h1)|false=>
  cases J with
  |true=>left;refine⟨by simp,X,?_⟩;rw[Xb (Xy h1)];exact Xh (Xih rfl h2)|false=>right;refine⟨by simp,X,?_⟩;rw[Xb (Xy h1),Xb (Xy h2),pd]
theorem Ye(h0:(ll ds)=d.np)(J:ds.map yz++Vg (d.nl-d.np) yy=env)(h:pd F G d.body env S=.ok (.rt r) S'):den F G d ds S=.ok r S':=by subst J;unfold den;rw[iP0 h0,h]
theorem Xux{L:Nat}(h:L<=12):Ys [.int 1,.int L]=yz ((Vm (L-1)).map λ(k:Nat)=>D.int (1+k)):=by
 have h1:-(1048576:Int)<(L:Int)/\(L:Int)<1048576:=by omega
 have h2:((L:Int)-1).toNat=L-1:=by omega
 simp only[Ys];rw[iP0 ⟨by decide,by decide,h1.1,h1.2⟩,h2]
theorem Xju(row:LI)(S:Sto):Xm .len [Xa row] S=.ok (.int row.length) S:=by simp only[Xm,Xa,Xq,Vl]
theorem Xuy(hf:Xru F f g 11)(hG:Xbb f nm G=yx)(hg:G[0]?=yz (.int 1000000000000))(h1:1<=ll row)(hl:(ll row)<=12):
  ∃X,den F G dFirst [Xa row,.fn f nm] S=.ok (Yb g row) (S++X):=by
 have hi:=Xbw (row:=row) (p:=0) h1 S;have hc:ev F G (.cmp .ne (.idx (.var 0) (.cst (.int 0))) (.cst (.int 1))) [yz (Xa row),yz (.fn f nm),yy] S=.ok (.bl (X7 g row 0)) S:=by have aa:Xah (Xa row) (.int 0) S=.ok (.int (row.getD 0 0)) S:=hi;simp only[ev,gZ0,Rk0,aa,Xue,X7]
 have L:∃X,pd F G dFirst.body [yz (Xa row),yz (.fn f nm),yy] S=.ok (.rt (Yb g row)) (S++X):=by
  unfold dFirst;dsimp only;cases b0:X7 g row 0 with
  |true=>rw[b0]at hc;refine⟨[],?_⟩;rw[Xhh h1 b0 (λj hj=>by omega),Vv];exact Xh (Xp7 hc)|false=>
   rw[b0]at hc;rw[Xb (Xy hc)];have ab:evit F G (.rng (.cons (.cst (.int 1)) (.cons (.blt .len (.cons (.var 0) .nil)) .nil))) [yz (Xa row),yz (.fn f nm),yy] S=.ok (.con ((Vm (ll row-1)).map λ(k:Nat)=>D.int (1+k))) S:=
    Xnl (ds:=[.int 1,.int row.length]) (by simp only[evs,ev,gZ0,Rk0,Xju]) (Xux hl)
   have all:∀i,(∀j<i,X7 g row (j+1)=yw)->∀j<i+1,X7 g row j=false:=λi h j hj=>by
    cases j with
    |zero=>exact b0|succ j=>exact h j (by omega)
   have lp:=Xdn (get:=(Src.con ((Vm (ll row-1)).map λ(k:Nat)=>D.int (1+k))).get) (t:=.var 2) (body:=λenv S=>pd F G fbB env S) (xs:=(Vm (ll row-1)).map λ(k:Nat)=>D.int (1+k)) (λi=>X7 g row (i+1)) (λi=>.int ((i+1:Nat):Int))
    (λe S'=>∃X x,S'=S++X/\e=[yz (Xa row),yz (.fn f nm),x]) (λS'=>∃X,S'=S++X) (λi S=>rfl)
    (λi d e S' hd hb hP=>by
     obtain⟨X,x,rfl,rfl⟩:=hP;have hi:i<ll row-1:=by have:=(Vd.mp hd).1;simpa using this
     have ac:d=.int ((i+1:Nat):Int):=by
      simp only[V6,Vag hi,V7,Vq]at hd;have e:(1+(i:Int))=((i+1:Nat):Int):=by omega
      rw[<-hd,e]
     subst ac;refine⟨[yz (Xa row),yz (.fn f nm),yz (.int ((i+1:Nat):Int))],rfl,?_⟩;have hx:=Xnz (all i hb i (by omega));rcases X2r (F:=F) (G:=G) (S:=S++X) hf hG hg (p:=i) (by omega) hl hx with⟨a1,Y,a2⟩|⟨a1,Y,a2⟩;·exact .inl ⟨a1,_,a2,X++Y,by rw[Vt]⟩
     ·exact .inr ⟨a1,_,_,a2,X++Y,_,by rw[Vt],rfl⟩)
    (ll row-1+1) 0 [yz (Xa row),yz (.fn f nm),yy] S (by simp) (Um _) (λj hj=>by omega) ⟨[],yy,by simp,rfl⟩
   have J:exe F G (.for (.var 2) (.rng (.cons (.cst (.int 1)) (.cons (.blt .len (.cons (.var 0) .nil)) .nil))) fbB) [yz (Xa row),yz (.fn f nm),yy] S=Xz (Src.con ((Vm (ll row-1)).map λ(k:Nat)=>D.int (1+k))).get (.var 2) (λenv S=>pd F G fbB env S) (ll row-1+1) 0 [yz (Xa row),yz (.fn f nm),yy] S:=by simp only[exe,ab,Rk0,Src.most,Vl,Uo]
   rcases lp with⟨p,S',p1,p2,p3,p4,X,rfl⟩|⟨p1,e',S',p2,X,x,rfl,rfl⟩
   ·refine⟨X,?_⟩;rw[Xh (J.trans p4)];have hp:p<ll row-1:=by simpa using p1
    rw[Xhh (p:=p+1) (by omega) p2 (all p p3)]
   refine⟨X,?_⟩;rw[Xb (J.trans p2)];have hn:∀j<ll row,X7 g row j=false:=λj hj=>by
    cases j with
    |zero=>exact b0|succ j=>exact p1 j (by simp;omega)
   rw[Xny hn];exact Xh (by simp only[exe,ev,Rk0])
 obtain⟨X,L⟩:=L;refine⟨X,?_⟩;exact Ye rfl rfl L
noncomputable def e12:Int:=10^(12:Int).toNat
theorem Xrx(S:Sto):Xu .pow (.int 10) (.int 12) S=.ok (.int e12) S:=Xf9 (by decide+kernel) S
theorem Xfc:e12=1000000000000:=by decide+kernel
noncomputable def X7i:Ex:=.or (.cmp .lt (.var 3) (.cst (.int 0))) (.or (.cmp .gt (.var 3) (.bin .pow (.cst (.int 10)) (.cst (.int 12)))) (.and (.cmp .eq (.var 2) (.cst (.int 0))) (.cmp .ne (.var 3) (.cst (.int 1)))))
noncomputable def Xhi(inx:Nat):Ex:=.and (.cmp .gt (.var 2) (.cst (.int 1))) (.cmp .gt (.var 3) (.call inx (.cons (.var 1) (.cons (.idx (.var 0) (.bin .sub (.var 2) (.cst (.int 1)))) (.cons (.bin .sub (.var 2) (.cst (.int 1))) .nil)))))
noncomputable def Xel(inx:Nat):Sts:=.cons (.ite X7i fbR .nil) (.cons (.ite (Xhi inx) fbR .nil) .nil)
noncomputable def Xii(inx:Nat):Df:=⟨2,4,.cons (.for (.tup [2,3]) (.enm (.cons (.var 0) .nil)) (Xel inx)) (.cons (.ret (.cst .non)) .nil)⟩
theorem Xzl(ha:ev F G a env S=.ok (.bl x) S)(hb:ev F G b env S=.ok (.bl y) S):ev F G (.or a b) env S=.ok (.bl (x||y)) S:=by
 rw[ev,ha,Rk0];cases x with
 |true=>simp only[Xf,Bool.true_or]|false=>simp only[Xf,hb,Vfd]
theorem X7j(ha:ev F G a env S=.ok (.bl x) S)(hb:ev F G b env S=.ok (.bl y) S):ev F G (.and a b) env S=.ok (.bl (x&&y)) S:=by
 rw[ev,ha,Rk0];cases x with
 |true=>simp only[Xf,hb,Vdv]|false=>simp only[Xf,Vc8]
theorem X97:ev F G X7i [a0,a1,yz (.int p),yz (.int x)] S=.ok (.bl (decide (x<0)||(decide (e12<x)||(((p:Int)==0) && !(x==1))))) S:=by
 have h1:ev F G (.cmp .lt (.var 3) (.cst (.int 0))) [a0,a1,yz (.int p),yz (.int x)] S=.ok (.bl (decide (x<0))) S:=by simp only[ev,gZ0,gS0,Rk0];rfl
 have h2:ev F G (.cmp .gt (.var 3) (.bin .pow (.cst (.int 10)) (.cst (.int 12)))) [a0,a1,yz (.int p),yz (.int x)] S=.ok (.bl (decide (e12<x))) S:=by simp only[ev,gZ0,gS0,Rk0,Xrx,Xi,Xw]
 have L:ev F G (.cmp .eq (.var 2) (.cst (.int 0))) [a0,a1,yz (.int p),yz (.int x)] S=.ok (.bl ((p:Int)==0)) S:=by simp only[ev,gZ0,gS0,Rk0,Xc2]
 have J:ev F G (.cmp .ne (.var 3) (.cst (.int 1))) [a0,a1,yz (.int p),yz (.int x)] S=.ok (.bl (!(x==1))) S:=by simp only[ev,gZ0,gS0,Rk0,Xue]
 exact Xzl h1 (Xzl h2 (X7j L J))
theorem X98(hf:Xgh F inx kd)(hp:p+1<ll row)(hl:(ll row)<=12)(hx:0<=row.getD p 0/\row.getD p 0<=1000000000000):
  ∃X,ev F G (Xhi inx) [yz (Xa row),yz (.int kd),yz (.int ((p+1:Nat):Int)),yz (.int x)] S=.ok (.bl (decide (1<=p)&&decide ((abv (gK kd) p (row.getD p 0).toNat:Int)<x))) (S++X):=by
 have Y:((p+1:Nat):Int)-1=(p:Int):=by omega
 by_cases c:1<=p
 ·have hi:=Xbw (row:=row) (p:=p) (by omega) S;have ex:row.getD p 0=((row.getD p 0).toNat:Int):=by omega
  obtain⟨X,h⟩:=hf (row.getD p 0).toNat p S (by omega) c (by omega);rw[<-ex]at h;have L:decide ((1:Int)<((p+1:Nat):Int))=true:=decide_eq_true (by omega);have J:decide (1<=p)=true:=decide_eq_true c;refine⟨X,?_⟩;simp only[Xhi,ev,evs,gZ0,gS0,Rk0,Xi,Xw,L,Xf,Yd,Y,hi,h,J,Vdv]
 ·have L:decide ((1:Int)<((p+1:Nat):Int))=false:=decide_eq_false (by omega);have J:decide (1<=p)=false:=decide_eq_false c;refine⟨[],?_⟩;simp only[Xhi,ev,gZ0,gS0,Rk0,Xi,Xw,L,Xf,J,Vc8,Vv]
theorem X7k:ev F G (Xhi inx) [a0,a1,yz (.int ((0:Nat):Int)),yz (.int x)] S=.ok (.bl yw) S:=by
 have J:decide ((1:Int)<((0:Nat):Int))=false:=by decide
 simp only[Xhi,ev,gZ0,gS0,Rk0,Xi,Xw,J,Xf]
theorem X2s(hf:Xgh F inx kd)(hp:p<ll row)(hl:(ll row)<=12)(Y:∀q,p=q+1->0<=row.getD q 0/\row.getD q 0<=1000000000000):
  (X7 (gK kd) row p=yx/\∃X,pd F G (Xel inx) [yz (Xa row),yz (.int kd),yz (.int p),yz (.int (row.getD p 0))] S=.ok (.rt (.int p)) (S++X)) \/
  (X7 (gK kd) row p=yw/\∃X,pd F G (Xel inx) [yz (Xa row),yz (.int kd),yz (.int p),yz (.int (row.getD p 0))] S=.ok (.nx [yz (Xa row),yz (.int kd),yz (.int p),yz (.int (row.getD p 0))]) (S++X)):=by
 have h1:=X97 (F:=F) (G:=G) (a0:=yz (Xa row)) (a1:=yz (.int kd)) (p:=p) (x:=row.getD p 0) (S:=S);have h2:∃X J,ev F G (Xhi inx) [yz (Xa row),yz (.int kd),yz (.int p),yz (.int (row.getD p 0))] S=.ok (.bl J) (S++X)/\X7 (gK kd) row p=((decide (row.getD p 0<0)||(decide (e12<row.getD p 0)||(((p:Int)==0) && !(row.getD p 0==1))))||J):=by
  cases p with
  |zero=>
   refine⟨[],yw,by rw[Vv];exact X7k,?_⟩;rw[Xfc];simp only[X7,Bool.or_false];generalize row.getD 0 0=x;have e:(((0:Nat):Int)==0)=true:=by decide
   rw[e,Vdv];by_cases c:x=1;·subst c;decide
   ·have:(x==1)=false:=by simpa using c
    rw[this];simp|succ q=>
   obtain⟨X,h⟩:=X98 (F:=F) (G:=G) (S:=S) (x:=row.getD (q+1) 0) hf hp hl (Y q rfl);refine⟨X,_,h,?_⟩;rw[Xfc];have e:(((q+1:Nat):Int)==0)=false:=by
    have:((q+1:Nat):Int)≠0:=by omega
    simpa using this
   rw[e,Vc8,Bool.or_false];simp only[X7];rw[Bool.or_assoc]
 obtain⟨X,J,h2,L⟩:=h2;rw[L];generalize (decide (row.getD p 0<0)||(decide (e12<row.getD p 0)||(((p:Int)==0) && !(row.getD p 0==1))))=b1 at h1;unfold Xel;cases b1 with
 |true=>left;refine⟨by simp,[],?_⟩;rw[Vv];exact Xh (Xih rfl h1)|false=>
  cases J with
  |true=>left;refine⟨by simp,X,?_⟩;rw[Xb (Xy h1)];exact Xh (Xih rfl h2)|false=>right;refine⟨by simp,X,?_⟩;rw[Xb (Xy h1),Xb (Xy h2),pd]
theorem Xx2(hf:Xgh F inx kd)(hl:(ll row)<=12):∃X,den F G (Xii inx) [Xa row,.int kd] S=.ok (Yb (gK kd) row) (S++X):=by
 have L:evit F G (.enm (.cons (.var 0) .nil)) [yz (Xa row),yz (.int kd),yy,yy] S=.ok (.enm (.con (row.map D.int))) S:=by simp only[evit,evs,ev,gZ0,Rk0,Xa,Yo]
 have lp:=Xdn (get:=(Src.enm (.con (row.map D.int))).get) (t:=.tup [2,3]) (body:=λenv S=>pd F G (Xel inx) env S) (xs:=(Vm row.length).map (Xdd row)) (X7 (gK kd) row) (λi=>.int (i:Int))
  (λe S'=>∃X x y,S'=S++X/\e=[yz (Xa row),yz (.int kd),x,y]) (λS'=>∃X,S'=S++X)
  (λi S=>by
   rw[Xid];congr 1;simp only[V6];by_cases q:i<ll row;·simp[q,Vf0,Xdd]
   ·simp[q])
  (λi d e S' hd hb hP=>by
   obtain⟨X,x,y,rfl,rfl⟩:=hP;have hi:i<ll row:=by have:=(Vd.mp hd).1;simpa using this
   have aa:d=Xdd row i:=by simp only[V6,Vag hi,V7,Vq]at hd;exact hd.symm
   subst aa;refine⟨[yz (Xa row),yz (.int kd),yz (.int i),yz (.int (row.getD i 0))],rfl,?_⟩;rcases X2s (F:=F) (G:=G) (S:=S++X) hf hi hl (λq hq=>Xnz (hb q (by omega))) with⟨a1,Y,a2⟩|⟨a1,Y,a2⟩;·exact .inl ⟨a1,_,a2,X++Y,by rw[Vt]⟩
   ·exact .inr ⟨a1,_,_,a2,X++Y,_,_,by rw[Vt],rfl⟩)
  (ll row+1) 0 [yz (Xa row),yz (.int kd),yy,yy] S (by simp) (Um _) (λj hj=>by omega) ⟨[],yy,yy,by simp,rfl⟩
 have J:exe F G (.for (.tup [2,3]) (.enm (.cons (.var 0) .nil)) (Xel inx)) [yz (Xa row),yz (.int kd),yy,yy] S=Xz (Src.enm (.con (row.map D.int))).get (.tup [2,3]) (λenv S=>pd F G (Xel inx) env S) (ll row+1) 0 [yz (Xa row),yz (.int kd),yy,yy] S:=by simp only[exe,L,Rk0,Src.most,Vl]
 rcases lp with⟨p,S',p1,p2,p3,p4,X,rfl⟩|⟨p1,e',S',p2,X,x,y,rfl,rfl⟩;·refine⟨X,Ye rfl rfl ?_⟩;unfold Xii;rw[Xhh (by simpa using p1) p2 p3];exact Xh (J.trans p4)
 ·refine⟨X,Ye rfl rfl ?_⟩;unfold Xii;rw[Xny (λj hj=>p1 j (by simpa using hj))];exact(Xb (J.trans p2)).trans (Xh (by simp only[exe,ev,Rk0]))
noncomputable def Xn0(iw:Nat):Df:=⟨1,1,.cons (.ret (.and (.isi (.var 0) [.tuple]) (.and (.chn .le .le (.cst (.int 1)) (.blt .len (.cons (.var 0) .nil)) (.cst (.int 12))) (Xlo iw)))) .nil⟩
theorem Xuz(Y:Xdy F iw)(t:Thing S d):∃X,den F G (Xn0 iw) [d] S=.ok (.bl (isr d)) (S++X):=by
 by_cases h:∃xs,d=.tup xs
 ·obtain⟨xs,rfl⟩:=h;have hk:kdD S (.tup xs)=yz .tuple:=rfl;have hi:ev F G (.isi (.var 0) [.tuple]) [yz (.tup xs)] S=.ok (.bl yx) S:=by
   simp only[ev,gZ0,Rk0,hk,V5,Xac,isT,tyQ]
  have J:=Xul (F:=F) (G:=G) (a:=.cst (.int 1)) (c:=.cst (.int 12)) (n:=ll xs) (lo:=1) (hi:=12) (d:=.tup xs) (env:=[yz (.tup xs)]) (S:=S) (S':=S) rfl rfl (by simp only[ev]) (by simp only[ev]);obtain⟨t1,t2⟩:=t.el xs rfl;have ha:=Xnm (G:=G) Y t1 (V4 t2 (by omega));have e1:(decide ((1:Int)<=(ll xs:Int))&&decide ((ll xs:Int)<=12))=(decide (1<=ll xs)&&decide (ll xs<=12)):=by
   congr 1;·exact decide_eq_decide.mpr (by omega)
   ·exact decide_eq_decide.mpr (by omega)
  rw[e1]at J;have e2:isr (.tup xs)=((decide (1<=ll xs)&&decide (ll xs<=12))&&xs.all wh):=by simp only[isr];rw[Bool.and_comm]
  rw[e2];generalize (decide (1<=ll xs)&&decide (ll xs<=12))=b at J;cases b with
  |true=>refine⟨_,Ye rfl rfl (Xh (d:=.bl (yx&&xs.all wh)) (S1:=S++[.lst ((xs.map wh).map D.bl)]) ?_)⟩;show exe F G _ [yz (.tup xs)] S=_;rw[exe,ev,hi,Rk0];simp only[Xf];rw[ev,J,Rk0];simp only[Xf];rw[ha,Rk0,Vdv]|false=>refine⟨[],Ye rfl rfl (Xh (d:=.bl (yw&&xs.all wh)) (S1:=S++[]) ?_)⟩;show exe F G _ [yz (.tup xs)] S=_;rw[exe,ev,hi,Rk0];simp only[Xf];rw[ev,J,Rk0];simp only[Xf,Rk0,Vc8,Vv]
 obtain⟨kd,h1,h2⟩:=t.gd;have L:kd≠.tuple:=λz=>by
  subst z;cases d with
  |tup xs=>exact h ⟨xs,rfl⟩|ref n=>simp only[kdD]at h1;split at h1<;>cases h1|_=>cases h1
 have e:isr d=false:=by
  cases d with
  |tup xs=>exact aB0 ⟨xs,rfl⟩ h|_=>rfl
 have hi:=Xud h2 L;rw[e];refine⟨[],Ye rfl rfl (Xh (d:=.bl yw) (S1:=S++[]) ?_)⟩;show exe F G _ [yz d] S=_;rw[exe,ev];simp only[ev,gZ0,Rk0,h1,V5,hi,Xf,Vv]
noncomputable def Xfd(ic J ig:Nat):Df:=⟨1,1,.cons (.expr (.call ic (.cons (.var 0) .nil))) (.cons (.ret (.call J (.cons (.var 0) (.cons (.glb ig) .nil)))) .nil)⟩
theorem Xx3(h1:F ic [d] S=.ok .non S1)(hg:G[ig]?=yz f)(h2:F ib [d,f] S1=.ok r S2):den F G (Xfd ic ib ig) [d] S=.ok r S2:=by
 have J:exe F G (.expr (.call ic (.cons (.var 0) .nil))) [yz d] S=.ok (.nx [yz d]) S1:=by simp only[exe,ev,evs,gZ0,Rk0,h1]
 exact Ye rfl rfl ((Xb J).trans (Xh (by simp only[exe,ev,evs,gZ0,Rk0,hg,h2])))
theorem Xx4(h1:F ic [d] S=.ex n S1):den F G (Xfd ic ib ig) [d] S=.ex n S1:=by simp only[den,Xfd,Ud,if_true,Uj,Vg,U0,Vv];rw[Xa5 (n:=n) (S1:=S1) (by simp only[exe,ev,evs,gZ0,Rk0,h1,R.bind_ex])]
end
theorem Ext.setq(h:Ext p S S')(Y:(ll S)<=q):Ext p S (S'.set q o):=λn u J e=>by have L:n<ll S:=(Vd.mp e).1;rw[Vao (by omega)];exact h n u J e
theorem Xqb:∀i:Nat,1<=fac i
 |0=>Vf _|i+1=>by simp only[fac];exact V4 (Xqb i) (Nat.le_mul_of_pos_right _ (by omega))
theorem Xls(n i:Nat):C n i<=n^i:=by have h:=Xjr n i;have h2:C n i*1<=C n i*fac i:=Nat.mul_le_mul_left _ (Xqb i);rw[Nat.mul_one]at h2;exact V4 h2 h
theorem Xgi:∀(k:Nat) (l:LI),(∀x∈l,∀j≤k,g x.toNat j<=B)->Xa8 g k l<=k*B
 |k,[]=>λ_=>by
  have e:Xa8 g k []=0:=by cases k<;>rfl
  rw[e];exact Um _|0,_::_=>λ_=>Um _|k+1,x::r=>λh=>by have ih:=Xgi k r (λy J j L=>h y (Uv _ J) j (by omega));have h1:=h x (U3 ..) (k+1) (Vf _);simp only[Xa8];rw[Vgt];omega
theorem Xn1(ha:a<=2^41)(hk:k<=12):a^k<=2^492:=by
 calc a^k<=(2^41)^k:=Vg8 ha k
  _=2^(41*k):=by rw[<-Nat.pow_mul]
  _<=2^492:=Vg2 (by decide) (by omega)
theorem X99(ha:a<2^41)(J:j<=11):gK kd a j<=2^492:=by
 unfold gK;split;·exact V4 (Xls _ _) (Xn1 (by omega) (by omega))
 ·split;·exact V4 (Xls _ _) (Xn1 (by omega) (by omega))
  ·exact V4 (Xls _ _) (Xn1 (by omega) (by omega))
theorem X7l(hs:s<=11)(hn:n<=1000000000000):abv (gK kd) s n<=11*2^492:=by
 unfold abv;have aa:(2:Nat)^41=2199023255552:=by decide
 have J:∀w,(∀x∈w,0<=x/\x<=(n:Int)+s)->Xa8 (gK kd) s w<=11*2^492:=λw L=>by have h:=Xgi (g:=gK kd) (B:=2^492) s w (λx Y j hj=>X99 (by have:=(L x Y).2;rw[aa];omega) (by omega));exact V4 h (Nat.mul_le_mul_right _ hs)
 by_cases Y:∃w,Wr s n w;·obtain⟨w,L⟩:=Y;rw[Xnx L];exact J w (Xh9 L)
 ·unfold wri;rw[dif_neg Y];exact J [] (λx h=>by cases h)
noncomputable def mx:Nat:=2^500
theorem Xu0:11*2^492+1<=mx:=by decide+kernel
theorem Xzm:1000000000001<=mx:=by decide+kernel
theorem Xij{x:Int}(h:x.natAbs<=mx):x.natAbs.log2<1920:=by have h2:x.natAbs<2^501:=Vbx h (by decide+kernel);have:=Xe9 h2 (by decide);omega
theorem X7m(h:n<=mx)(h0:0<n):Yr (n:Int)=true:=by have h2:n<2^501:=Vbx h (by decide+kernel);have J:=Xe9 h2 (by decide);unfold Yr;have e:((n:Int)).natAbs=n:=Int.natAbs_natCast n;rw[e,decide_eq_true (by omega:(0:Int)<n),decide_eq_true (by omega:n.log2<9000)];rfl
structure Kq(p q:Nat)(S0:Sto)(l:LI)(S:Sto):Prop where
 ex:Ext p S0 S
 pot:∃v,Xc S p=yz [.int v]
 row:Xc S q=yz (l.map D.int)
section
variable{p q:Nat}{S0 S X:Sto}{l:LI}
theorem Kq.app(h:Kq p q S0 l S):Kq p q S0 l (S++X):=⟨h.ex.trans .app,let ⟨v,e⟩:=h.pot;⟨v,X3 e⟩,X3 h.row⟩
theorem Kq.setp(h:Kq p q S0 l S)(J:q≠p)(v:Int):Kq p q S0 l (S.set p (.lst [.int v])):=⟨h.ex.trans .set,let ⟨_,e⟩:=h.pot;⟨v,Xau (Xaa e)⟩,Ext.lst (Ext.set (p:=p) (S:=S) (o:=.lst [.int v])) J h.row⟩
theorem Kq.setq(h:Kq p q S0 l S)(J:q≠p)(L:(ll S0)<=q):Kq p q S0 l' (S.set q (.lst (l'.map D.int))):=⟨h.ex.setq L,let ⟨v,e⟩:=h.pot;⟨v,Ext.lst (Ext.set (p:=q) (S:=S) (o:=.lst (l'.map D.int))) (Ne.symm J) e⟩,Xau (Xaa h.row)⟩
variable{F:Fn}{G:LD}
variable{t:Tg}{it:It}{ifs:Exs}{elt:Ex}{env:En}{n:Nat}
theorem X7n{w:D->LD}{xs:LD}{i:Nat}{d:D}(h:xs[i]?=yz d):((xs.take (i+1)).map w).flatten=((xs.take i).map w).flatten++w d:=by rw[Vf6,h];simp
theorem Xry{w:D->LD}(J:∀d,(w d).length<=1):∀l:LD,((l.map w).flatten).length<=ll l
 |[]=>Vf _|d::l=>by have:=Xry J l;have:=J d;simp only[U6,Vau,V3,U4];omega
noncomputable def Xhj(n:LL):D:=.tup (n.map Xa)
theorem Xgj{xs:LD}{get:Sto->Nat->Option (Option D)}{body:En->LD->Sto->R (LD)}(w:D->LD)(J:LD)(P:En->Prop)(Y:∀X i,get (S++X) i=yz xs[i]?)
  (step:∀i d e X,xs[i]?=yz d->P e->∃e1 X',Xk t d e=yz e1/\P e1/\body e1 (J++((xs.take i).map w).flatten) (S++X)=.ok (J++((xs.take i).map w).flatten++w d) (S++X')):
  ∀(L i:Nat) (e:En) (X:Sto),P e->i<=ll xs->ll xs<L+i->∃X',X9 get t body L i e (J++((xs.take i).map w).flatten) (S++X)=.ok (J++(xs.map w).flatten) (S++X')
 |0=>λi e X h h1 h2=>by omega|L+1=>λi e X h h1 h2=>by
  cases q:xs[i]? with
  |none=>
   have hi:i=ll xs:=by have:=U2.mp q;omega
   refine⟨X,?_⟩;simp only[X9,Y,q];rw[hi,Vd5]|some d=>obtain⟨e1,X1,a1,a2,a3⟩:=step i d e X q h;have hi:i<ll xs:=(Vd.mp q).1;obtain⟨X',b2⟩:=Xgj w J P Y step L (i+1) e1 X1 a2 (by omega) (by omega);refine⟨X',?_⟩;simp only[X9,Y,q,a1,a3];rw[X7n q,<-Vt]at b2;exact b2
theorem X2t{xs:LD}{body:En->LD->Sto->R (LD)}(w:D->LD)(J:LD)(P:En->Prop)
  (step:∀i d e X,xs[i]?=yz d->P e->∃e1 Y,Xk t d e=yz e1/\P e1/\body e1 (J++((xs.take i).map w).flatten) (S++X)=.ok (J++((xs.take i).map w).flatten++w d) (S++Y)):
  ∀(L i:Nat) (e:En) (X:Sto),P e->i<=ll xs->ll xs<L+i->∃Y,X9 (Src.con xs).get t body L i e (J++((xs.take i).map w).flatten) (S++X)=.ok (J++(xs.map w).flatten) (S++Y):=Xgj w J P (λ_ _=>rfl) step
theorem X2u{src:Src}{xs:LD}(b:D->Bool)(y:D->D)(P:En->Prop)(aa:evit F G it env S=.ok src S)(hm:src.most S=ll xs)(L:∀X i,src.get (S++X) i=yz xs[i]?)(hb:(ll xs)<=big)(h0:P (env++Vg n yy))
  (step:∀d∈xs,∀e X,P e->∃Y X1,Xk t d e=yz Y/\P Y/\evts F G ifs Y (S++X)=.ok (b d) (S++X1)/\(b d=yx->∃X2,ev F G elt Y (S++X1)=.ok (y d) (S++X2))):
  ∃X,ev F G (.cmr yw n (.cons t it ifs .nil) elt) env S=.ok (.ref (S++X).length) (S++X++[.lst ((xs.filter b).map y)]):=by
 have hw:∀d,(if b d then [y d] else []:LD).length<=1:=λd=>by split<;>simp
 obtain⟨X',a⟩:=Xgj (S:=S) (xs:=xs) (t:=t) (get:=src.get) (body:=Yg (λenv S=>evts F G ifs env S) (λenv J S=>(ev F G elt env S).bind λy S=>if (ll J)<big then .ok (J++[y]) S else .bad)) (λd=>if b d then [y d] else []) [] P L
  (λi d e X hd hP=>by
   obtain⟨Y,X1,a1,a2,a3,a4⟩:=step d (U8 hd) e X hP;have hi:i<ll xs:=(Vd.mp hd).1;have hl:=Xry hw (xs.take i);rw[Vaa]at hl;cases c:b d with
   |false=>refine⟨Y,X1,a1,a2,?_⟩;simp only[Yg,a3,c,Rk0,Uz];simp
   |true=>obtain⟨X2,a5⟩:=a4 c;refine⟨Y,X2,a1,a2,?_⟩;simp only[Yg,a3,c,Rk0,Uz,if_true,a5];rw[iP0 (by omega)]) (ll xs+1) 0 _ [] h0 (Um _) (by omega)
 refine⟨X',?_⟩;simp only[ev,aa,Rk0,hm];rw[Vv]at a;have a':X9 src.get t (Yg (λenv S=>evts F G ifs env S) (λenv J S=>(ev F G elt env S).bind λy S=>if (ll J)<big then .ok (J++[y]) S else .bad)) (ll xs+1) 0 (env++Vg n yy) [] S=.ok (xs.map λd=>if b d then [y d] else []).flatten (S++X'):=a;have e:(xs.map λd=>if b d then [y d] else []).flatten=(xs.filter b).map y:=by
  clear a a' h0 step hb hm aa L;induction xs with
  |nil=>rfl|cons d xs ih=>simp only[U6,Vau,ih,List.filter_cons];split<;>simp
 rw[a',e];simp only[Rk0];rfl
theorem Xqc{n:Nat}{l:LI}(h:Xc S n=yz (l.map D.int)):Xam S (.ref n)=yz (.list (l.map Vbr)):=by have J:S[n]?=yz (.lst (l.map D.int)):=Xbo h;simp only[Xam,X4,Xae,J,Xxw,V7]
theorem X2v{p q:Nat}{l w:LI}(h1:Xc S p=yz (l.map D.int))(h2:Xc S q=yz (w.map D.int)):Xi .eq (.ref p) (.ref q) S=.ok (.bl (decide (l=w))) S:=by
 have Y:=Xqc h1;have L:=Xqc h2;have b:∀l:LI,(PyData.list (l.map Vbr)).canLay0=true:=λl=>by simp only[Vf9,Xxx]
 have c:(PyData.list (l.map Vbr)).depth<=60:=by simp only[Va7,Xxy];omega
 have e:Vef (.list (l.map Vbr)) (.list (w.map Vbr))=decide (l=w):=by simp only[Vef,Xfb]
 have hs:Xdi (.ref p) (.ref q)=none:=rfl;have J:eqD S (.ref p) (.ref q)=yz (decide (l=w)):=by simp only[eqD,hs,Y,L,b,e,decide_eq_true c,Vc2,if_true]
 simp only[Xi,Xw,J]
end
end Z
end
section
namespace Z
noncomputable def leI(ag:Int)(one:LI):Int:=match one.getLast? with
 |none=>0|some x=>x+1-ag
noncomputable def Y5(far ag:Int)(one:LI):LL:=(Vm (far-leI ag one).toNat).map λ(k:Nat)=>one++[leI ag one+k]
noncomputable def chs(far ag:Int):Nat->LL
 |0=>[[]]|k+1=>(chs far ag k).flatMap (Y5 far ag)
noncomputable def fon(ag:Nat):Nat->Nat->LL
 |0,_=>[[]]|k+1,f=>(Vm f).flatMap λj=>(fon ag k (j+ag)).map (·++[(j:Int)])
def Rsg(ag far:Int)(k:Nat)(y:LI):Prop:=ll y=k/\y.Pairwise (λa b=>a+1-ag<=b)/\∀x∈y,0<=x/\x<far
theorem ris_nil{ag far:Int}{y:LI}:Rsg ag far 0 y ↔ y=[]:=⟨λh=>List.length_eq_zero_iff.mp h.1,λh=>by subst h;exact⟨rfl,.nil,λx J=>by cases J⟩⟩
theorem ris_app{ag far:Int}{k:Nat}{y:LI}:Rsg ag far (k+1) y ↔ ∃z x,y=z++[x]/\Rsg ag far k z/\0<=x/\x<far/\∀a∈z,a+1-ag<=x:=by
 refine⟨λ⟨h1,h2,J⟩=>?_,λ⟨z,x,e,⟨h1,h2,J⟩,h4,h5,h6⟩=>?_⟩
 ·rcases List.eq_nil_or_concat y with e|⟨z,x,e⟩;·rw[e]at h1;cases h1
  ·rw[List.concat_eq_append]at e;subst e;obtain⟨Y,p2,p3⟩:=U9.mp h2;have L:=J x (Ut _ U3);exact⟨z,x,rfl,⟨by simpa using h1,Y,λa ha=>J a (Vbd _ ha)⟩,L.1,L.2,λa ha=>p3 a ha x U3⟩
 subst e;refine⟨by simp[h1],U9.mpr ⟨h2,Vc5 _ _,λa ha b hb=>by rw[Ue.mp hb];exact h6 a ha⟩,λa ha=>?_⟩;rcases Uf.mp ha with z|z;·exact J a z
 ·rw[Ue.mp z];exact⟨h4,h5⟩
theorem Xgk{ag:Nat}(ha:ag<=1):∀ {k f:Nat} {y:LI},y∈fon ag k f ↔ Rsg ag f k y
 |0,f,y=>by rw[ris_nil];exact Ue|k+1,f,y=>by
  rw[ris_app];show y∈(Vm f).flatMap _ ↔ _;rw[List.mem_flatMap];refine⟨λ⟨j,L,Y⟩=>?_,λ⟨z,x,e,⟨h1,h2,J⟩,h4,h5,h6⟩=>?_⟩;·obtain⟨z,hz,rfl⟩:=U5.mp Y;have L:=Vbk.mp L;obtain⟨h1,h2,J⟩:=(Xgk ha).mp hz;exact⟨z,j,rfl,⟨h1,h2,λa q=>by have:=J a q;omega⟩,by omega,by omega,λa q=>by have:=J a q;omega⟩
  ·refine⟨x.toNat,Vbk.mpr (by omega),U5.mpr ⟨z,(Xgk ha).mpr ⟨h1,h2,λa q=>?_⟩,?_⟩⟩;·have:=J a q;have:=h6 a q;omega
   ·rw[e,show((x.toNat:Nat):Int)=x by omega]
theorem X7o{ag far:Int}{k:Nat}{one:LI}(h1:ag<=1)(h:Rsg ag far k one):0<=ll one->∀a∈one,a+1-ag<=leI ag one:=λ_ a ha=>by
 unfold leI;cases k with
 |zero=>rw[ris_nil.mp h]at ha;cases ha|succ k=>
  obtain⟨z,x,rfl,hz,_,_,J⟩:=ris_app.mp h;rw[List.getLast?_append];show _<=x+1-ag;rcases Uf.mp ha with q|q;·have:=J a q;omega
  ·rw[Ue.mp q];omega
theorem X7p{ag far x:Int}{k:Nat}{one:LI}(h:Rsg ag far k one)(J:0<=x)(hl:∀a∈one,a+1-ag<=x):leI ag one<=x:=by
 unfold leI;cases e:one.getLast? with
 |none=>exact J|some y=>exact hl y (Vg4 e)
theorem Xu1{ag far:Int}{k:Nat}{one:LI}(h1:ag<=1)(h:Rsg ag far k one):0<=leI ag one:=by
 unfold leI;cases e:one.getLast? with
 |none=>exact Int.le_refl _|some y=>have:=(h.2.2 y (Vg4 e)).1;show 0<=y+1-ag;omega
theorem Xgl{ag far:Int}(h1:ag<=1):∀ {k:Nat} {y:LI},y∈chs far ag k ↔ Rsg ag far k y
 |0,y=>by rw[ris_nil];exact Ue|k+1,y=>by
  rw[ris_app];show y∈(chs far ag k).flatMap (Y5 far ag) ↔ _;rw[List.mem_flatMap];refine⟨λ⟨z,hz,Y⟩=>?_,λ⟨z,x,e,h2,h4,h5,L⟩=>?_⟩;·obtain⟨j,J,rfl⟩:=U5.mp Y;have J:=Vbk.mp J;have h2:=(Xgl h1).mp hz;have nn:=Xu1 h1 h2;exact⟨z,_,rfl,h2,by omega,by omega,λa q=>by have:=X7o h1 h2 (Um _) a q;omega⟩
  ·have le:=X7p h2 h4 L;exact⟨z,(Xgl h1).mpr h2,U5.mpr ⟨(x-leI ag z).toNat,Vbk.mpr (by omega),by rw[e,show leI ag z+((x-leI ag z).toNat:Nat)=x by omega]⟩⟩
theorem Xu2{ag far:Int}:∀k:Nat,(chs far ag k).Nodup
 |0=>Vc5 _ _|k+1=>by
  refine List.pairwise_flatMap.mpr ⟨λone _=>?_,(Xu2 k).imp λ{a b} hab x hx y hy z=>hab ?_⟩;·unfold Y5;rw[Vcy];refine List.nodup_range.imp λ{i j} hij z=>hij ?_;have:=(List.append_inj' z rfl).2;injection this with this _;omega
  ·obtain⟨i,_,rfl⟩:=U5.mp hx;obtain⟨j,_,rfl⟩:=U5.mp hy;exact(List.append_inj' z rfl).1
theorem Xn2(ag:Nat):∀k f:Nat,PwL ((fon ag k f).map Va6)
 |0,f=>Vc5 _ _|k+1,f=>by
  unfold PwL;rw[Vcy];refine List.pairwise_flatMap.mpr ⟨λj _=>?_,List.pairwise_lt_range.imp λ{i j} hij x hx y hy=>?_⟩;·rw[Vcy];have ih:=Xn2 ag k (j+ag);unfold PwL at ih;rw[Vcy]at ih;refine ih.imp λ{a b} h=>?_;rw[Vbo,Vbo];show ltL ((j:Int)::a.reverse) ((j:Int)::b.reverse)=yx;rw[ltL,iP0 rfl];exact h
  ·obtain⟨a,_,rfl⟩:=U5.mp hx;obtain⟨b,_,rfl⟩:=U5.mp hy;rw[Vbo,Vbo];show ltL ((i:Int)::a.reverse) ((j:Int)::b.reverse)=yx;rw[ltL,iN0 (by omega)];exact decide_eq_true (by omega)
theorem X7q(ag k f:Nat):(fon ag k f).Nodup:=by have:=Xn2 ag k f;unfold PwL at this;rw[Vcy]at this;exact this.imp λ{a b} h z=>by rw[z,Xi4]at h;cases h
theorem Xqd{ag k f:Nat}(ha:ag<=1):(Xab ((chs f ag k).map Va6)).map Va6=fon ag k f:=by
 have p:(fon ag k f).Perm (chs f ag k):=(List.perm_ext_iff_of_nodup (X7q ag k f) (Xu2 k)).mpr λy=>by rw[Xgk ha,Xgl (by omega)]
 have e:=Xmt (p.map Va6) (Xn2 ag k f).wk;rw[<-e,Vam];have:Va6∘Va6=(id:LI->LI):=by funext l;simp
 rw[this,List.map_id]
theorem Xx5{α:Type}{g:Nat->List α}{f j i:Nat}(J:j<f)(hi:i<(g j).length):((Vm f).flatMap g)[((Vm j).flatMap g).length+i]?=(g j)[i]?:=by
 have e:Vm f=Vm j++j::(Vm f).drop (j+1):=by have h:=(Ux j (Vm f)).symm;rw[List.take_range,Vcn (by omega),Vh0 (by simpa using J),Vhk]at h;exact h
 rw[e,Vc7,Us (Vgm _ _),Vbb,List.flatMap_cons,Vu hi]
theorem Xzn{ag k:Nat}(ha:ag<=1):ag*k<=k:=by have:=Nat.mul_le_mul_right k ha;omega
theorem X2w{ag k:Nat}(h:k≠0)(j:Nat):j+ag+ag*(k-1)=j+ag*k:=by obtain⟨m,rfl⟩:∃m,k=m+1:=⟨k-1,by omega⟩;rw[Vee,Nat.mul_succ];omega
theorem Xzo{ag k j:Nat}:C (j+ag+ag*(k-1)) k=C (j+ag*k) k:=by
 by_cases h:k=0;·subst h;rw[Y1,Y1]
 ·rw[X2w h]
theorem Xd1{ag:Nat}(ha:ag<=1):∀k f:Nat,(fon ag k f).length=C (f+ag*(k-1)) k
 |0,f=>by rw[Y1];rfl|k+1,f=>by
  show((Vm f).flatMap _).length=C (f+ag*k) (k+1);induction f with
  |zero=>rw[Va1,Xbv _ _ (by have:=Xzn (k:=k) ha;omega)];rfl|succ f ih=>rw[Vg1,Vc7,V3,ih,List.flatMap_singleton,Vl,Xd1 ha k,Xzo,show f+1+ag*k=f+ag*k+1 by omega];simp only[C];omega
def Xbq(ag:Nat):Nat->Nat->LI->Prop
 |0,_,y=>y=[]|k+1,i,y=>∃(x:Nat) (z:LI),C x (k+1)<=i/\i<C (x+1) (k+1)/\Xbq ag k (i-C x (k+1)) z/\y=z++[(x:Int)-((ag*k:Nat):Int)]
theorem Xgm{ag:Nat}(ha:ag<=1):∀ {k i f:Nat} {y:LI},Xbq ag k i y->i<C (f+ag*(k-1)) k->(fon ag k f)[i]?=yz y
 |0,i,f,y,h,hi=>by
  rw[Y1]at hi;obtain rfl:i=0:=by omega
  rw[show y=[] from h];rfl|k+1,i,f,y,⟨x,z,h1,h2,h3,e⟩,hi=>by
  rw[Vee]at hi;have L:k<=x:=by
   by_cases c:k<=x;·exact c
   ·rw[Xbv (x+1) (k+1) (by omega)]at h2;omega
  have Y:=Xzn (k:=k) ha;have hf:x<f+ag*k:=by
   by_cases c:x<f+ag*k;·exact c
   ·have:=Xbp (k:=k+1) (show f+ag*k<=x by omega);omega
  have J:C (x+1) (k+1)=C x k+C x (k+1):=rfl;obtain⟨j,rfl⟩:∃j,x=j+ag*k:=⟨x-ag*k,by omega⟩;have ih:=Xgm ha (f:=j+ag) h3 (by rw[Xzo];omega);have hl:i-C (j+ag*k) (k+1)<((fon ag k (j+ag)).map (·++[(j:Int)])).length:=by rw[Vl];exact(Vd.mp ih).1
  have fl:((Vm j).flatMap λj=>(fon ag k (j+ag)).map (·++[(j:Int)])).length=C (j+ag*k) (k+1):=Xd1 ha (k+1) j;have:=Xx5 (g:=λj=>(fon ag k (j+ag)).map (·++[(j:Int)])) (f:=f) (j:=j) (show j<f by omega) hl;rw[fl,Nat.add_sub_cancel' h1,V6,ih]at this;show((Vm f).flatMap _)[i]?=_;rw[this,e];show yz (z++[(j:Int)])=_;rw[show((j+ag*k:Nat):Int)-((ag*k:Nat):Int)=j by omega]
theorem Xx6{ag k f m:Nat}{b:Nat->LI}(ha:ag<=1)(hb:∀i,i<m->Xbq ag k i (b i))(J:m<=C (f+ag*(k-1)) k):(fon ag k f).take m=(Vm m).map b:=by
 have hl:=Xd1 ha k f;refine List.ext_getElem? λi=>?_;rw[List.getElem?_take,V6];by_cases c:i<m;·rw[iP0 c,Xgm ha (hb i c) (by omega),Vag c];rfl
 ·rw[iN0 c,Vdk (by rw[Uo];omega)];rfl
end Z
end
section
namespace Z
open PySem PySem.Spec PyProof.Rows L2
noncomputable def Xik(im:Nat):Ex:=.ite (.cmp .gt (.var 3) (.cst (.int 0))) (.call im (.cons (.var 3) (.cons (.var 4) .nil))) (.bin .sub (.var 4) (.cst (.int 1)))
noncomputable def Xgn(im iw:Nat):Sts:=.cons (.asg (.var 5) (Xik im)) (.cons (.expr (.mth .append (.var 2) (.cons (.var 5) .nil))) (.cons (.aug 3 .sub (.call iw (.cons (.var 5) (.cons (.var 4) .nil)))) .nil))
noncomputable def Xlt(im iw:Nat):Df:=⟨2,6,.cons (.asg (.var 2) (.lst .nil)) (.cons (.asg (.var 3) (.var 0)) (.cons (.for (.var 4) (.rng (.cons (.var 1) (.cons (.cst (.int 0)) (.cons (.neg (.cst (.int 1))) .nil)))) (Xgn im iw)) (.cons (.ret (.blt .tuple (.cons (.rev (.var 2)) .nil))) .nil)))⟩
section
variable{F:Fn}{G:LD}{im iw n s q:Nat}{S:Sto}{x4 x5:Option D}
theorem Xx7(hm:Xdc F im){k r:Nat}(hk:k+1<=12)(Y:r<=1000000000000):
  ∃m:Nat,m<=10000000000000/\C m (k+1)<=r/\r<C (m+1) (k+1)/\ev F G (Xik im) [yz (.int n),yz (.int s),yz (.ref q),yz (.int r),yz (.int ((k+1:Nat):Int)),x5] S=.ok (.int m) S:=by
 have J:ev F G (.cmp .gt (.var 3) (.cst (.int 0))) [yz (.int n),yz (.int s),yz (.ref q),yz (.int r),yz (.int ((k+1:Nat):Int)),x5] S=.ok (.bl (decide ((0:Int)<r))) S:=by simp only[ev,gZ0,gS0,Rk0,Xi,Xw]
 by_cases c:0<r
 ·obtain⟨m,h1,h2,L,h4⟩:=hm r (k+1) S (by omega) hk c Y;refine⟨m,?_,L,h4,?_⟩;·obtain⟨j,rfl⟩:∃j,m=k+1+j:=⟨m-(k+1),by omega⟩;have:=Xej k j;omega
  ·rw[decide_eq_true (by omega)]at J;unfold Xik;rw[ev,J,Rk0];simp only[Xf,ev,evs,gZ0,gS0,Rk0];exact h1
 ·obtain rfl:r=0:=by omega
  refine⟨k,by omega,by rw[Xbv k (k+1) (by omega)];exact Vf _,by rw[Xd0];exact Nat.one_pos,?_⟩;rw[decide_eq_false (by omega)]at J;unfold Xik;rw[ev,J,Rk0];simp only[Xf,ev,gZ0,gS0,Rk0,Yd];rw[show(((k+1:Nat):Int)-1)=k by omega]
theorem Xx8(hw:Yn F iw)(hm:Xdc F im){k r:Nat}{acc:LD}(hk:k+1<=12)(hr:r<=1000000000000)(hq:Xc S q=yz acc)(hl:(ll acc)<100):
  ∃m:Nat,C m (k+1)<=r/\r<C (m+1) (k+1)/\pd F G (Xgn im iw) [yz (.int n),yz (.int s),yz (.ref q),yz (.int r),yz (.int ((k+1:Nat):Int)),x5] S=.ok (.nx [yz (.int n),yz (.int s),yz (.ref q),yz (.int ((r-C m (k+1):Nat):Int)),yz (.int ((k+1:Nat):Int)),yz (.int m)]) (S.set q (.lst (acc++[.int m]))):=by
 obtain⟨m,m0,m1,m2,m3⟩:=Xx7 (G:=G) (n:=n) (s:=s) (q:=q) (S:=S) (x5:=x5) hm hk hr;refine⟨m,m1,m2,?_⟩;have s1:exe F G (.asg (.var 5) (Xik im)) [yz (.int n),yz (.int s),yz (.ref q),yz (.int r),yz (.int ((k+1:Nat):Int)),x5] S=.ok (.nx [yz (.int n),yz (.int s),yz (.ref q),yz (.int r),yz (.int ((k+1:Nat):Int)),yz (.int m)]) S:=X0 m3;have J:=Xgd (x:=.int m) hq (by omega);have L:Xaf .append (.ref q) S=true:=by simp only[Xaf,hq,Vck]
 have s2:exe F G (.expr (.mth .append (.var 2) (.cons (.var 5) .nil))) [yz (.int n),yz (.int s),yz (.ref q),yz (.int r),yz (.int ((k+1:Nat):Int)),yz (.int m)] S=.ok (.nx [yz (.int n),yz (.int s),yz (.ref q),yz (.int r),yz (.int ((k+1:Nat):Int)),yz (.int m)]) (S.set q (.lst (acc++[.int m]))):=by simp only[exe,ev,evs,gZ0,gS0,Rk0,L,if_true,J]
 have Y:=hw m (k+1) (S.set q (.lst (acc++[.int m]))) m0 (by omega);have s3:exe F G (.aug 3 .sub (.call iw (.cons (.var 5) (.cons (.var 4) .nil)))) [yz (.int n),yz (.int s),yz (.ref q),yz (.int r),yz (.int ((k+1:Nat):Int)),yz (.int m)] (S.set q (.lst (acc++[.int m])))=.ok (.nx [yz (.int n),yz (.int s),yz (.ref q),yz (.int ((r-C m (k+1):Nat):Int)),yz (.int ((k+1:Nat):Int)),yz (.int m)]) (S.set q (.lst (acc++[.int m]))):=by
  have e:(r:Int)-(C m (k+1):Int)=((r-C m (k+1):Nat):Int):=by omega
  simp only[exe,ev,evs,gZ0,gS0,Rk0,Y,Xet,e,Vaz]
 unfold Xgn;exact(Xb s1).trans ((Xb s2).trans ((Xb s3).trans (by simp only[pd])))
theorem Xk2(hw:Yn F iw)(hm:Xdc F im){xs:LD}(hx:xs=(Vm s).map λ(j:Nat)=>D.int ((s:Int)-j))(hs:s<=12):∀(k J i r:Nat) (x4 x5:Option D) (S:Sto) (acc:LD),i+k=s->k<J->r<=1000000000000->Xc S q=yz acc->ll acc<=i ->
  ∃(w:LI) (e:En),Xz (Src.con xs).get (.var 4) (λenv S=>pd F G (Xgn im iw) env S) J i [yz (.int n),yz (.int s),yz (.ref q),yz (.int r),x4,x5] S=.ok (.nx e) (S.set q (.lst (acc++w.map D.int)))/\Xbq 0 k r w.reverse/\e[2]?=yz (yz (.ref q))
 |k,0=>λi r x4 x5 S acc h1 h2 Y L h5=>by omega|0,J+1=>λi r x4 x5 S acc h1 h2 Y L h5=>by
  have hi:xs[i]?=none:=by rw[hx];simp;omega
  refine⟨[],[yz (.int n),yz (.int s),yz (.ref q),yz (.int r),x4,x5],?_,rfl,rfl⟩;have e:S.set q (.lst (acc++([]:LI).map D.int))=S:=by obtain⟨aa,hv⟩:=Vd.mp (Xbo L);rw[Vcp,Vv,<-hv];exact Ve4 aa
  rw[e];simp only[Xz,Src.get,hi]|k+1,J+1=>λi r x4 x5 S acc h1 h2 Y L h5=>by
  have hi:xs[i]?=yz (.int ((k+1:Nat):Int)):=by rw[hx,V6,Vag (by omega),V7];congr 2;omega
  obtain⟨m,m1,m2,m3⟩:=Xx8 (G:=G) hw hm (n:=n) (s:=s) (r:=r) (k:=k) (q:=q) (x5:=x5) (S:=S) (acc:=acc) (by omega) Y L (by omega);obtain⟨w,e,r1,r2,r3⟩:=Xk2 hw hm hx hs k J (i+1) (r-C m (k+1)) (yz (.int ((k+1:Nat):Int))) (yz (.int m)) (S.set q (.lst (acc++[.int m]))) (acc++[.int m]) (by omega) (by omega) (by omega) (Xau (Xaa L)) (by simp;omega);refine⟨(m:Int)::w,e,?_,⟨m,w.reverse,m1,m2,r2,by rw[List.reverse_cons,Nat.zero_mul];simp⟩,r3⟩;rw[List.set_set,Vt]at r1;simp only[Xz,Src.get,hi,Xk,Vaz];rw[m3];exact r1
theorem Xx9{n s:D}{xs:LD}{e:En}{w:LI}(hr:Ys [s,.int 0,.int (-1)]=yz xs)
  (r1:Xz (Src.con xs).get (.var 4) (λenv S=>pd F G (Xgn im iw) env S) (ll xs+1) 0 [yz n,yz s,yz (.ref (ll S)),yz n,yy,yy] (S++[.lst []])=.ok (.nx e) (S++[.lst (w.map D.int)])) (L:e[2]?=yz (yz (.ref (ll S)))):
  den F G (Xlt im iw) [n,s] S=.ok (Xa w.reverse) (S++[.lst (w.map D.int)]++[.lst (w.map D.int).reverse]):=by
 have l1:Xc (S++[O.lst (w.map D.int)]) (ll S)=yz (w.map D.int):=Xg;have l2:Xc (S++[O.lst (w.map D.int)]++[O.lst (w.map D.int).reverse]) (S++[O.lst (w.map D.int)]).length=yz (w.map D.int).reverse:=Xg;have Y:=X0 (i:=2) (F:=F) (G:=G) (e:=.lst .nil) (env:=[yz n,yz s,yy,yy,yy,yy]) (S:=S) (d:=.ref (ll S)) (S':=S++[.lst []]) (by simp only[ev,evs,Rk0];exact iP0 (by decide));have J:=X0 (i:=3) (F:=F) (G:=G) (e:=.var 0) (env:=[yz n,yz s,yz (.ref (ll S)),yy,yy,yy]) (S:=S++[.lst []]) (d:=n) (S':=S++[.lst []]) (by simp only[ev,gZ0]);have s3:exe F G (.for (.var 4) (.rng (.cons (.var 1) (.cons (.cst (.int 0)) (.cons (.neg (.cst (.int 1))) .nil)))) (Xgn im iw)) [yz n,yz s,yz (.ref (ll S)),yz n,yy,yy] (S++[.lst []])=.ok (.nx e) (S++[.lst (w.map D.int)]):=by simp only[exe,evit,evs,ev,gZ0,gS0,Rk0,hr,Src.most];exact r1
 refine Ye (env:=[yz n,yz s,yy,yy,yy,yy]) rfl rfl ?_;refine(Xb Y).trans ((Xb J).trans ((Xb s3).trans (Xh ?_)));simp only[exe,ev,evs,L,Rk0,Xqz,l1,Xm,Xq,l2,Xa,List.map_reverse]
theorem Xya(hw:Yn F iw)(hm:Xdc F im)(hs:s<=12)(L:n<=1000000000000)(S:Sto):∃y X,den F G (Xlt im iw) [.int n,.int s] S=.ok (Xa y) (S++X)/\Xbq 0 s n y:=by
 obtain⟨w,e,J,r2,Y⟩:=Xk2 (G:=G) (n:=n) (s:=s) (q:=ll S) hw hm rfl hs s (s+1) 0 n yy yy (S++[.lst []]) [] (Va1 s) (Vbu s) L Xg (Um _);have e2:(S++[O.lst []]).set (ll S) (.lst ([]++w.map D.int))=S++[.lst (w.map D.int)]:=by rw[Vey _ _ (Vf _),U0,Uz];rfl
 rw[e2]at J;refine⟨w.reverse,[.lst (w.map D.int)]++[.lst (w.map D.int).reverse],?_,r2⟩;rw[<-Vt];refine Xx9 (Xnv hs) ?_ Y;rw[Vl,Uo];exact J
end
noncomputable def Xyb(f:Nat):Df:=⟨2,2,.cons (.ret (.blt .tuple (.cons (.cmr yw 3 (.cons (.tup [3,4]) (.enm (.cons (.call f (.cons (.var 0) (.cons (.var 1) .nil))) .nil)) .nil .nil) (.bin .sub (.var 4) (.var 3))) .nil))) .nil⟩
noncomputable def Xbx(w:LI):LI:=(Vm w.length).map λi=>w.getD i 0-(i:Int)
theorem Xyc(w:LI)(x:Int):Xbx (w++[x])=Xbx w++[x-(w.length:Int)]:=by
 unfold Xbx;rw[V3,Vgo,Vg1,Vcw];congr 1;·refine Vd8 λi hi=>?_;have hi:=Vbk.mp hi;rw[V9,Vu hi,<-V9]
 ·simp[Vf0]
theorem Xjv{ag:Nat}:∀ {k i:Nat} {y:LI},Xbq ag k i y->ll y=k
 |0,i,y,h=>by rw[show y=[] from h];rfl|k+1,i,y,⟨x,z,_,_,h,e⟩=>by rw[e,V3,Xjv h];rfl
theorem Xqe:∀ {k i:Nat} {y:LI},Xbq 0 k i y->Xbq 1 k i (Xbx y)
 |0,i,y,h=>by rw[show y=[] from h];rfl|k+1,i,y,⟨x,z,h1,h2,h,e⟩=>by refine⟨x,Xbx z,h1,h2,Xqe h,?_⟩;rw[e,Xyc,Xjv h,Nat.zero_mul,Nat.one_mul];simp
theorem X2x{F:Fn}{G:LD}{f n s:Nat}{S S1:Sto}{y:LI}(h:F f [.int n,.int s] S=.ok (Xa y) S1)(hl:(ll y)<=12):
  den F G (Xyb f) [.int n,.int s] S=.ok (Xa (Xbx y)) (S1++[.lst ((Xbx y).map D.int)]):=by
 have L:evit F G (.enm (.cons (.call f (.cons (.var 0) (.cons (.var 1) .nil))) .nil)) [yz (.int n),yz (.int s)] S=.ok (.enm (.con (y.map D.int))) S1:=by simp only[evit,evs,ev,gZ0,gS0,Rk0,h,Xa,Yo]
 obtain⟨e',S',a,b⟩:=Xdw (n:=3) (elt:=.bin .sub (.var 4) (.var 3)) (t:=.tup [3,4]) ((Vm y.length).map λ(i:Nat)=>D.tup [.int (i:Int),.int (y.getD i 0)]) (λi=>.int (y.getD i 0-(i:Int))) (λi e S=>S=S1/\∃p q r,e=[yz (.int n),yz (.int s),p,q,r]) L
  (by simp[Src.most]) (by rw[Vl,Uo];exact Yx (by omega)) ⟨rfl,yy,yy,yy,rfl⟩
  (λi e S Y=>by
   rw[Xid];congr 1;simp only[V6,Vg3];by_cases q:i<ll y;·simp[q,Vf0]
   ·simp[q])
  (λi d e S hd Y=>by
   obtain⟨rfl,p,q,r,rfl⟩:=Y;have hi:i<ll y:=by have:=(Vd.mp hd).1;simpa using this
   have J:d=D.tup [.int (i:Int),.int (y.getD i 0)]:=by simp only[V6,Vag hi,V7,Vq]at hd;exact hd.symm
   subst J;refine⟨[yz (.int n),yz (.int s),p,yz (.int i),yz (.int (y.getD i 0))],S,rfl,?_,rfl,p,_,_,rfl⟩;simp only[ev,gZ0,gS0,Rk0,Yd])
 obtain⟨rfl,_⟩:=b;have em:(Vm y.length).map (λ(i:Nat)=>D.int (y.getD i 0-(i:Int)))=(Xbx y).map D.int:=by unfold Xbx;rw[Vam];rfl
 simp only[Vl,Uo]at a;rw[em]at a;have l1:Xc (S'++[O.lst ((Xbx y).map D.int)]) (ll S')=yz ((Xbx y).map D.int):=Xg;refine Ye (env:=[yz (.int n),yz (.int s)]) rfl rfl (Xh ?_);rw[exe,ev,evs,a,Rk0,evs,Rk0,Rk0];simp only[Xm,Xq,l1,Rk0,Xa]
def UpS(S S':Sto):Prop:=∀(n:Nat) o,S[n]?=yz o->S'[n]?=yz o
section
variable{S S' S2 X:Sto}
theorem UpS.refl:UpS S S:=λ_ _ h=>h
theorem UpS.trans(a:UpS S S')(b:UpS S' S2):UpS S S2:=λn o h=>b n o (a n o h)
theorem UpS.app:UpS S (S++X):=λn o h=>by rw[Vu (Vd.mp h).1];exact h
theorem UpS.set{q:Nat}{o:O}(a:UpS S S')(J:(ll S)<=q):UpS S (S'.set q o):=λn u h=>by rw[Vao (λz=>by have:=(Vd.mp h).1;omega)];exact a n u h
theorem UpS.lst{q:Nat}{xs:LD}(a:UpS S S')(h:Xc S q=yz xs):Xc S' q=yz xs:=Xuh (a q _ (Xbo h))
theorem UpS.len(a:UpS S S'):(ll S)<=ll S':=by
 cases h:(ll S) with
 |zero=>omega|succ n=>have:=(Vd.mp (a n _ (Uh (show n<ll S by omega)))).1;omega
end
theorem Xqf(ks:LL):Yy (ks.map Xa)=yz ks:=Xmy ks
noncomputable def leE:Ex:=.ite (.cmp .ne (.var 6) (.tup .nil)) (.bin .sub (.bin .add (.idx (.var 6) (.neg (.cst (.int 1)))) (.cst (.int 1))) (.var 2)) (.cst (.int 0))
noncomputable def xtE:Ex:=.cmr yw 2 (.cons (.var 9) (.rng (.cons (.var 7) (.cons (.var 0) .nil))) .nil .nil) (.bin .add (.var 6) (.tup (.cons (.var 9) .nil)))
noncomputable def Xrz:Sts:=.cons (.asg (.var 7) leE) (.cons (.expr (.mth .xtd (.var 5) (.cons xtE .nil))) .nil)
noncomputable def Xr0:Sts:=.cons (.asg (.var 5) (.lst .nil)) (.cons (.for (.var 6) (.val (.var 3)) Xrz) (.cons (.asg (.var 3) (.var 5)) .nil))
noncomputable def Xlu:Df:=⟨3,8,.cons (.asg (.var 3) (.lst (.cons (.tup .nil) .nil))) (.cons (.for (.var 4) (.rng (.cons (.var 1) .nil)) Xr0) (.cons (.ret (.var 3)) .nil))⟩
section
variable{F:Fn}{G:LD}{S:Sto}{far ag size:Int}{one:LI}{k q3 q5:Nat}{x4 x7:Option D}
theorem Yaa:ev F G leE [yz (.int far),yz (.int size),yz (.int ag),yz (.ref q3),x4,yz (.ref q5),yz (Xa one),x7] S=.ok (.int (leI ag one)) S:=by
 have L:ev F G (.cmp .ne (.var 6) (.tup .nil)) [yz (.int far),yz (.int size),yz (.int ag),yz (.ref q3),x4,yz (.ref q5),yz (Xa one),x7] S=.ok (.bl (!decide (one=[]))) S:=by simp only[ev,evs,gZ0,gS0,Rk0,Ud];rw[iP0 (by decide),Rk0];exact X2j one [] S
 unfold leE;rw[ev,L,Rk0];cases e:one.getLast? with
 |none=>have z:=List.getLast?_eq_none_iff.mp e;subst z;rfl|some x=>
  have hz:one≠[]:=λz=>by rw[z]at e;cases e
  have hl:0<ll one:=List.length_pos_iff.mpr hz;have Y:one[ll one-1]?=yz x:=by rw[<-List.getLast?_eq_getElem?];exact e
  have hi:ixN (one.map D.int).length (-1)=yz (ll one-1):=by rw[Vl];unfold ixN;rw[iN0 (by omega),iP0 (by omega)];congr 1;omega
  have J:Xah (Xa one) (.int (-1)) S=.ok (.int x) S:=by
   have:(one.map D.int)[ll one-1]?=yz (.int x):=by rw[V6,Y];rfl
   simp only[Xa,Xah,Xaw,Xq,V5,hi,this]
  rw[decide_eq_false hz];simp only[Vf5,Xf,ev,gZ0,gS0,Rk0,J,Xx,Yd];rw[show leI ag one=x+1-ag by simp only[leI,e]]
variable(h:Rsg ag far k one)(hk:k<=100)(h0:0<=ag)(h1:ag<=1)(hf0:0<=far)(hf:far<=1000)
include h h0 h1 hf0 hf
theorem Xu3:0<=leI ag one/\leI ag one<=1000:=by
 refine⟨Xu1 h1 h,?_⟩;unfold leI;cases e:one.getLast? with
 |none=>simp|some x=>have:=h.2.2 x (Vg4 e);show x+1-ag<=1000;omega
theorem Xyd:(Y5 far ag one).length<=1000:=by have:=Xu3 h h0 h1 hf0 hf;simp only[Y5,Vl,Uo];omega
include hk
theorem Yab:ev F G xtE [yz (.int far),yz (.int size),yz (.int ag),yz (.ref q3),x4,yz (.ref q5),yz (Xa one),yz (.int (leI ag one))] S=.ok (.ref (ll S)) (S++[.lst ((Y5 far ag one).map Xa)]):=by
 have bd:=Xu3 h h0 h1 hf0 hf;have hr:Ys [.int (leI ag one),.int far]=yz ((Vm (far-leI ag one).toNat).map λ(k:Nat)=>D.int (leI ag one+k)):=by simp only[Ys];exact iP0 ⟨by omega,by omega,by omega,by omega⟩
 have L:evs F G (.cons (.var 7) (.cons (.var 0) .nil)) [yz (.int far),yz (.int size),yz (.int ag),yz (.ref q3),x4,yz (.ref q5),yz (Xa one),yz (.int (leI ag one))] S=.ok [.int (leI ag one),.int far] S:=by simp only[evs,ev,gZ0,gS0,Rk0]
 obtain⟨e',S1,h2,rfl,_⟩:=Xdw (F:=F) (G:=G) (t:=.var 9) (n:=2) (elt:=.bin .add (.var 6) (.tup (.cons (.var 9) .nil))) (env:=[yz (.int far),yz (.int size),yz (.int ag),yz (.ref q3),x4,yz (.ref q5),yz (Xa one),yz (.int (leI ag one))]) (S:=S) (S1:=S) (src:=.con ((Vm (far-leI ag one).toNat).map λ(k:Nat)=>D.int (leI ag one+k)))
  ((Vm (far-leI ag one).toNat).map λ(k:Nat)=>D.int (leI ag one+k)) (λi=>Xa (one++[leI ag one+(i:Int)]))
  (λ_ e S1=>S1=S/\∃x,e=[yz (.int far),yz (.int size),yz (.int ag),yz (.ref q3),x4,yz (.ref q5),yz (Xa one),yz (.int (leI ag one)),yy,x]) (Xnl L hr) rfl (by rw[Vl,Uo];exact Yx (by omega)) ⟨rfl,yy,rfl⟩ (λ_ _ _ _=>rfl)
  (λi d e S1 hd hP=>by
   obtain⟨rfl,x,rfl⟩:=hP;rw[V6,Ul]at hd;obtain⟨j,hj,rfl⟩:=hd;obtain⟨Y,J⟩:=Vd.mp hj;rw[Vhk]at J;subst J;refine⟨_,S1,rfl,?_,rfl,_,rfl⟩;have e2:(one.map D.int).length+[D.int (leI ag one+(i:Int))].length<=big:=by rw[Vl,h.1];exact Yx (by simp;omega)
   simp only[ev,evs,Vaz,gZ0,gS0,Rk0,Ud];rw[iP0 (by decide),Rk0]
   simp only[Xa,Xu,e2,if_true,Vcw,U6,Vcp])
 rw[Vl,Uo]at h2;have em:(Vm (far-leI ag one).toNat).map (λ(i:Nat)=>Xa (one++[leI ag one+(i:Int)]))=(Y5 far ag one).map Xa:=by unfold Y5;rw[Vam];rfl
 rw[em]at h2;exact h2
theorem Yac{acc:LD}(Y:Xc S q5=yz acc)(hl:(ll acc)<=900000):
  pd F G Xrz [yz (.int far),yz (.int size),yz (.int ag),yz (.ref q3),x4,yz (.ref q5),yz (Xa one),x7] S=.ok (.nx [yz (.int far),yz (.int size),yz (.int ag),yz (.ref q3),x4,yz (.ref q5),yz (Xa one),yz (.int (leI ag one))]) ((S++[O.lst ((Y5 far ag one).map Xa)]).set q5 (O.lst (acc++(Y5 far ag one).map Xa))):=by
 have s1:exe F G (.asg (.var 7) leE) [yz (.int far),yz (.int size),yz (.int ag),yz (.ref q3),x4,yz (.ref q5),yz (Xa one),x7] S=.ok (.nx [yz (.int far),yz (.int size),yz (.int ag),yz (.ref q3),x4,yz (.ref q5),yz (Xa one),yz (.int (leI ag one))]) S:=X0 Yaa;have x:=Yab (F:=F) (G:=G) (S:=S) (size:=size) (q3:=q3) (x4:=x4) (q5:=q5) h hk h0 h1 hf0 hf;have el:=Xyd h h0 h1 hf0 hf;have L:Xc (S++[O.lst ((Y5 far ag one).map Xa)]) q5=yz acc:=X3 Y;have J:Xc (S++[O.lst ((Y5 far ag one).map Xa)]) (ll S)=yz ((Y5 far ag one).map Xa):=Xg;unfold Xrz;rw[Xb s1,pd];have hm:Yv .xtd (.ref q5) [.ref (ll S)] (S++[O.lst ((Y5 far ag one).map Xa)])=.ok .non ((S++[O.lst ((Y5 far ag one).map Xa)]).set q5 (O.lst (acc++(Y5 far ag one).map Xa))):=by
  have:(ll acc)+((Y5 far ag one).map Xa).length<=big:=by rw[Vl];unfold big;omega
  simp only[Yv,show lstM (S++[O.lst ((Y5 far ag one).map Xa)]) q5=yz acc from L,J,this,if_true]
 simp only[exe,ev,evs,gZ0,gS0,Rk0,Xaf,Y,Vck,if_true,x,hm,pd]
end
section
variable{F:Fn}{G:LD}{S:Sto}{far ag:Int}(h0:0<=ag)(h1:ag<=1)(hf0:0<=far)(hf:far<=1000)
include h0 h1 hf0 hf
theorem Yad{size:Int}{k q3:Nat}{J:LL}{x4 x5 x6 x7:Option D}(hk:k<=100)(hs:∀y∈J,Rsg ag far k y)(hl:(J.flatMap (Y5 far ag)).length<=900000)(hq:Xc S q3=yz (J.map Xa)):
  ∃S' q y6 Y,pd F G Xr0 [yz (.int far),yz (.int size),yz (.int ag),yz (.ref q3),x4,x5,x6,x7] S=.ok (.nx [yz (.int far),yz (.int size),yz (.int ag),yz (.ref q),x4,yz (.ref q),y6,Y]) S'/\UpS S S'/\Xc S' q=yz ((J.flatMap (Y5 far ag)).map Xa)/\(ll S)<=q:=by
 have s1:exe F G (.asg (.var 5) (.lst .nil)) [yz (.int far),yz (.int size),yz (.int ag),yz (.ref q3),x4,x5,x6,x7] S=.ok (.nx [yz (.int far),yz (.int size),yz (.int ag),yz (.ref q3),x4,yz (.ref (ll S)),x6,x7]) (S++[.lst []]):=X0 (by simp only[ev,evs,Rk0];rfl);obtain⟨e',S',h2,y6,Y,rfl,u,L⟩:=Xjo (F:=F) (G:=G) (t:=.var 6) (e0:=.var 3) (b:=Xrz) (env:=[yz (.int far),yz (.int size),yz (.int ag),yz (.ref q3),x4,yz (.ref (ll S)),x6,x7]) (S:=S++[.lst []]) (S1:=S++[.lst []]) (r:=q3) (xs:=J.map Xa)
  (λi e S'=>∃y6 Y,e=[yz (.int far),yz (.int size),yz (.int ag),yz (.ref q3),x4,yz (.ref (ll S)),y6,Y]/\UpS S S'/\Xc S' (ll S)=yz (((J.take i).flatMap (Y5 far ag)).map Xa))
  (by simp only[ev,gZ0,gS0]) (X3 hq) (λi e S' ⟨_,_,_,u,_⟩=>u.lst hq) ⟨x6,x7,rfl,.app,Xg⟩
  (λi d e S' hd ⟨y6,Y,he,u,L⟩=>by
   subst he;rw[V6,Ul]at hd;obtain⟨one,ho,rfl⟩:=hd;have tl:((J.take i).flatMap (Y5 far ag)).length<=(J.flatMap (Y5 far ag)).length:=by
    conv=>rhs;rw[<-Ux i J,Vc7,V3]
    exact Vgm _ _
   have b:=Yac (F:=F) (G:=G) (size:=size) (q3:=q3) (x4:=x4) (x7:=Y) (hs one (U8 ho)) hk h0 h1 hf0 hf L (by rw[Vl];omega);refine⟨_,_,_,rfl,b,_,_,rfl,(u.trans .app).set (Vf _),?_⟩;rw[Xau (by rw[V3];have:=Xaa L;omega),Vf6,ho,Vc7,Vcw]
   simp)
 rw[Vl,Vd5]at L;refine⟨S',ll S,y6,Y,?_,u,L,Vf _⟩;unfold Xr0;rw[Xb s1,Xb h2];simp only[pd,exe,ev,gZ0,gS0,Rk0,Xk,Vaz]
theorem Xye{size:Nat}(hs:size<=12)(hB:∀i,i<=size->(chs far ag i).length<=900000):∃S' q,den F G Xlu [.int far,.int size,.int ag] S=.ok (.ref q) S'/\UpS S S'/\Xc S' q=yz ((chs far ag size).map Xa)/\(ll S)<=q:=by
 have s1:exe F G (.asg (.var 3) (.lst (.cons (.tup .nil) .nil))) [yz (.int far),yz (.int size),yz (.int ag),yy,yy,yy,yy,yy] S=.ok (.nx [yz (.int far),yz (.int size),yz (.int ag),yz (.ref (ll S)),yy,yy,yy,yy]) (S++[.lst [.tup []]]):=X0 (by simp only[ev,evs,Rk0,Ud];rfl);obtain⟨xs,hx,ab⟩:=Xal (m:=(size:Int)) (by omega) (by omega);have Y:(ll xs)=size:=by omega
 obtain⟨e',S',h2,q,x4,x5,x6,x7,rfl,u,J,hl⟩:=Xbu (F:=F) (G:=G) (t:=.var 4) (es:=.cons (.var 1) .nil) (b:=Xr0) (env:=[yz (.int far),yz (.int size),yz (.int ag),yz (.ref (ll S)),yy,yy,yy,yy]) (S:=S++[.lst [.tup []]]) (S1:=S++[.lst [.tup []]]) (ds:=[.int size]) (xs:=xs)
  (λi e S'=>∃q x4 x5 x6 x7,e=[yz (.int far),yz (.int size),yz (.int ag),yz (.ref q),x4,x5,x6,x7]/\UpS S S'/\Xc S' q=yz ((chs far ag i).map Xa)/\(ll S)<=q)
  (by simp only[evs,ev,gZ0,gS0,Rk0]) hx ⟨(ll S),yy,yy,yy,yy,rfl,.app,Xg,Vf _⟩
  (λi d e S' hd ⟨q,x4,x5,x6,x7,he,u,J,hl⟩=>by
   subst he;have hi:=(Vd.mp hd).1;obtain⟨rfl,_⟩:=Xbf hx hd;obtain⟨S2,q2,y6,y7,b,u2,aa,L⟩:=Yad (F:=F) (G:=G) (S:=S') h0 h1 hf0 hf (size:=size) (q3:=q) (x4:=yz (.int i)) (x5:=x5) (x6:=x6) (x7:=x7) (k:=i) (by omega) (λy hy=>(Xgl h1).mp hy) (hB (i+1) (by omega)) J
   exact⟨_,_,S2,rfl,b,q2,_,_,y6,y7,rfl,u.trans u2,aa,V4 u.len L⟩)
 rw[Y]at J;refine⟨S',q,?_,u,J,hl⟩;refine Ye (env:=[yz (.int far),yz (.int size),yz (.int ag),yy,yy,yy,yy,yy]) rfl rfl ?_;exact(Xb s1).trans ((Xb h2).trans (Xh (by simp only[exe,ev,gZ0,gS0,Rk0])))
end
noncomputable def Xcd(many size ag:Nat):Nat->Nat->Nat
 |0,far=>far|f+1,far=>if C (far+(size-1)*ag) size<many then Xcd many size ag f (far+1) else far
theorem Xu4{many size ag:Nat}:∀f far:Nat,many<=C (far+f+(size-1)*ag) size->many<=C (Xcd many size ag f far+(size-1)*ag) size/\Xcd many size ag f far<=far+f/\(Xcd many size ag f far=far\/far<Xcd many size ag f far/\C (Xcd many size ag f far-1+(size-1)*ag) size<many)
 |0,far,h=>⟨h,Vf _,.inl rfl⟩|f+1,far,h=>by
  simp only[Xcd];split
  ·rename_i c;obtain⟨a,b,d⟩:=Xu4 (many:=many) (size:=size) (ag:=ag) f (far+1) (by rw[show far+1+f=far+(f+1) by omega];exact h);refine⟨a,by omega,.inr ?_⟩;rcases d with d|⟨J,d2⟩;·rw[d];exact⟨by omega,by rw[Vee];exact c⟩
   ·exact⟨by omega,d2⟩
  rename_i c;exact⟨by omega,by omega,.inl rfl⟩
noncomputable def frT(iw:Nat):Ex:=.and (.cmp .gt (.var 1) (.cst (.int 0))) (.cmp .lt (.call iw (.cons (.bin .add (.var 3) (.bin .mul (.bin .sub (.var 1) (.cst (.int 1))) (.var 2))) (.cons (.var 1) .nil))) (.var 0))
noncomputable def frB:Sts:=.cons (.asg (.var 3) (.bin .add (.var 3) (.cst (.int 1)))) .nil
noncomputable def Xlv(iw ic:Nat):Df:=⟨3,5,.cons (.asg (.var 3) (.cst (.int 0))) (.cons (.whl (frT iw) frB) (.cons (.rsk (.call ic (.cons (.var 3) (.cons (.var 1) (.cons (.var 2) .nil)))) (.var 0)) .nil))⟩
section
variable{F:Fn}{G:LD}{S:Sto}{many size ag iw:Nat}{x:Option D}
theorem Xu5(J:LWaysF F iw)(h1:1<=size)(hs:size<=12)(ha:ag<=1){far:Nat}(hf:far<=1000):
  Xcc F G (frT iw) [yz (.int many),yz (.int size),yz (.int ag),yz (.int far),x] S=.ok (decide (C (far+(size-1)*ag) size<many)) S:=by
 have e1:((far:Int)+((size:Int)-1)*(ag:Int))=((far+(size-1)*ag:Nat):Int):=by rw[show((size:Int)-1)=((size-1:Nat):Int) by omega];simp
 have Y:Yq ((size:Int)-1) (ag:Int)=true:=Xcr (by omega) (by omega);have b:(size-1)*ag<=11:=V4 (Nat.mul_le_mul (show size-1<=11 by omega) ha) (by decide);have L:=J (far+(size-1)*ag) size S (Vbx (show far+(size-1)*ag<=1011 by omega) (by decide)) (by omega);have g1:Xi .gt (.int size) (.int 0) S=.ok (.bl yx) S:=by have:decide ((0:Int)<size)=true:=decide_eq_true (by omega);simp only[Xi,Xw,this]
 have g2:Xi .lt (.int (C (far+(size-1)*ag) size)) (.int many) S=.ok (.bl (decide (C (far+(size-1)*ag) size<many))) S:=by simp only[Xi,Xw,ltD,Int.ofNat_lt]
 simp only[Xcc,frT,ev,evs,gZ0,gS0,Rk0,g1,Xf,Yd,Xa6 Y,Xx,e1,L,g2]
theorem Xqg(L:LWaysF F iw)(h1:1<=size)(hs:size<=12)(ha:ag<=1):∀(f far J:Nat),f<J->far+f<=1000->¬ C (Xcd many size ag f far+(size-1)*ag) size<many ->
  Yk (Xcc F G (frT iw)) (λenv S=>pd F G frB env S) J [yz (.int many),yz (.int size),yz (.int ag),yz (.int far),x] S=.ok (.nx [yz (.int many),yz (.int size),yz (.int ag),yz (.int (Xcd many size ag f far)),x]) S
 |f,far,0=>λh _ _=>by omega|0,far,J+1=>λ_ hb h=>by simp only[Xcd]at h;rw[Yk,Xu5 L h1 hs ha (by omega),decide_eq_false h];rfl|f+1,far,J+1=>λhf hb h=>by
  rw[Yk,Xu5 L h1 hs ha (by omega)];by_cases c:C (far+(size-1)*ag) size<many
  ·simp only[Xcd,iP0 c]at h ⊢;rw[decide_eq_true c];have Y:pd F G frB [yz (.int many),yz (.int size),yz (.int ag),yz (.int far),x] S=.ok (.nx [yz (.int many),yz (.int size),yz (.int ag),yz (.int ((far+1:Nat):Int)),x]) S:=by
    simp only[frB,pd,exe,ev,gZ0,gS0,Rk0,Xx,Xk,Vaz];rfl
   dsimp only;rw[Y];exact Xqg L h1 hs ha f (far+1) J (by omega) (by omega) h
  simp only[Xcd,iN0 c]at h ⊢;rw[decide_eq_false c]
def ChF(F:Fn)(ic:Nat):Prop:=∀(far ag size:Nat) (S:Sto),size<=12->ag<=1->far<=1000->(∀i,i<=size->(chs far ag i).length<=900000)->∃S' q,F ic [.int far,.int size,.int ag] S=.ok (.ref q) S'/\UpS S S'/\Xc S' q=yz ((chs far ag size).map Xa)/\(ll S)<=q
theorem X7r{T:List Df}{ic:Nat}(h:T[ic]?=yz Xlu)(k:Nat):ChF (FT T G (k+1)) ic:=λfar ag size S a b c d=>by simp only[FT,h];exact Xye (by omega) (by omega) (by omega) (by omega) a d
theorem Xn3{far ag k:Nat}(ha:ag<=1):(chs far ag k).length=C (far+ag*(k-1)) k:=by rw[<-Xd1 ha k far,<-Xqd (k:=k) (f:=far) ha,Vl,(Xb4 _).length_eq,Vl]
theorem Xn4{ic far:Nat}(Y:ChF F ic)(J:exe F G (.whl (frT iw) frB) [yz (.int many),yz (.int size),yz (.int ag),yz (.int 0),yy] S=.ok (.nx [yz (.int many),yz (.int size),yz (.int ag),yz (.int far),yy]) S)(hs:size<=12)(ha:ag<=1)(hf:far<=1000)(hB:∀i,i<=size->C (far+ag*(i-1)) i<90000):
  ∃S' q,den F G (Xlv iw ic) [.int many,.int size,.int ag] S=.ok (.ref q) S'/\UpS S S'/\Xc S' q=yz (((fon ag size far).take many).map Xa)/\(ll S)<=q:=by
 obtain⟨S1,q1,c1,u1,l1,g1⟩:=Y far ag size S hs ha hf (λi hi=>by rw[Xn3 ha];have:=hB i hi;omega);have hr:Xiz (chs far ag size)=yz (fon ag size far):=by unfold Xiz;rw[iP0 (by rw[Xn3 ha];have:=hB size (Vf _);omega),Xqd ha]
 generalize fon ag size far=r at hr ⊢;have hk:Xma (.ref q1) S1=.ok (.ref (ll S1)) (S1++[.lst (r.map Xa)]):=by simp only[Xma,l1,V5,Xqf,hr];rfl
 have hc:cut (r.map Xa) yy (yz (many:Int))=(r.take many).map Xa:=by rw[Xnn,List.map_take]
 have L:Xaj (.ref (ll S1)) yy (yz (many:Int)) (S1++[.lst (r.map Xa)])=.ok (.ref (S1++[O.lst (r.map Xa)]).length) (S1++[.lst (r.map Xa)]++[.lst ((r.take many).map Xa)]):=by simp only[Xaj,show Xc (S1++[O.lst (r.map Xa)]) (ll S1)=yz (r.map Xa) from Xg,hc]
 refine⟨S1++[.lst (r.map Xa)]++[.lst ((r.take many).map Xa)],(S1++[O.lst (r.map Xa)]).length,?_,(u1.trans .app).trans .app,Xg,by have:=u1.len;rw[V3];omega⟩;refine Ye (env:=[yz (.int many),yz (.int size),yz (.int ag),yy,yy]) rfl rfl ?_;have s0:exe F G (.asg (.var 3) (.cst (.int 0))) [yz (.int many),yz (.int size),yz (.int ag),yy,yy] S=.ok (.nx [yz (.int many),yz (.int size),yz (.int ag),yz (.int 0),yy]) S:=X0 (by simp only[ev]);refine(Xb s0).trans ((Xb J).trans (Xh ?_));rw[exe];simp only[ev,evs,evo,gZ0,gS0,Rk0,c1,hk,Xai,L]
theorem X7s(J:LWaysF F iw)(h1:1<=size)(hs:size<=12)(ha:ag<=1)(hm:many<=480)(S:Sto):∃far,far<=500/\many<=C (far+(size-1)*ag) size/\(far=0\/C (far-1+(size-1)*ag) size<many) /\
  exe F G (.whl (frT iw) frB) [yz (.int many),yz (.int size),yz (.int ag),yz (.int 0),yy] S=.ok (.nx [yz (.int many),yz (.int size),yz (.int ag),yz (.int far),yy]) S:=by
 obtain⟨k,rfl⟩:∃k,size=k+1:=⟨size-1,by omega⟩;have L:many<=C (0+500+(k+1-1)*ag) (k+1):=by have e1:=Xej k (500-(k+1));have Y:=Xbp (k:=k+1) (show k+1+(500-(k+1))<=0+500+(k+1-1)*ag by omega);omega
 obtain⟨a,b,c⟩:=Xu4 (ag:=ag) 500 0 L;have hl:=Xqg (F:=F) (G:=G) (S:=S) (x:=yy) (many:=many) J h1 hs ha 500 0 100000 (by omega) (by omega) (by omega);refine⟨_,by omega,a,?_,by rw[exe];exact hl⟩;rcases c with c|⟨_,c⟩;·exact .inl c
 ·exact .inr c
end
end Z
end
section
namespace Z
theorem X2y{ag f J:Nat}(h:f<=J):∀k:Nat,∃r,fon ag k J=fon ag k f++r
 |0=>⟨[],rfl⟩|k+1=>by obtain⟨d,rfl⟩:∃d,J=f+d:=⟨J-f,by omega⟩;have e:fon ag (k+1) (f+d)=(Vm (f+d)).flatMap λj=>(fon ag k (j+ag)).map (·++[(j:Int)]):=rfl;rw[List.range_add,Vc7]at e;exact⟨_,e⟩
theorem Xyf{ag k f J m:Nat}(ha:ag<=1)(h:f<=J)(L:m<=C (f+ag*(k-1)) k):(fon ag k f).take m=(fon ag k J).take m:=by obtain⟨r,e⟩:=X2y (ag:=ag) h k;rw[e,List.take_append_of_le_length (by rw[Xd1 ha];exact L)]
noncomputable def bgs(l:LI):LL:=(Vm l.length).flatMap λs=>(fon 1 s 500).take (l.getD s 0).toNat
theorem Xqh{l:LI}(hl:(ll l)<=12)(h:∀s,l.getD s 0<=200):(bgs l).length<=2400:=by
 unfold bgs;have J:∀n:Nat,((Vm n).flatMap λs=>(fon 1 s 500).take (l.getD s 0).toNat).length<=n*200:=λn=>by
  induction n with
  |zero=>simp|succ n ih=>rw[Vg1,Vc7,V3,List.flatMap_singleton,Vaa];have:=h n;omega
 have:=J l.length;omega
structure Crw(l:LI):Prop where
 l1:1<=ll l
 l2:(ll l)<=12
 one:l.getD 0 0=1
 nn:∀s,0<=l.getD s 0
 le:∀s,l.getD s 0<=200
 far:∀s,7<=s->l.getD s 0=0
noncomputable def tb1(l:LI):Bool:=decide (1<ll l)&&decide (16<l.getD 1 0)
noncomputable def tb2(l:LI):Bool:=(l.drop 7).any (· != 0)
noncomputable def tb3(l:LI):Bool:=decide (200<l.sum)
theorem Xn5{g:Nat->Nat->Nat}{l:LI}(h:Yb g l=.non):∀s,s<ll l->X7 g l s=false:=λs hs=>by
 unfold Yb at h;cases e:(Vm l.length).find? (X7 g l) with
 |some p=>rw[e]at h;cases h|none=>have:=List.find?_eq_none.mp e s (Vbk.mpr hs);simpa using this
theorem Xu6{g:Nat->Nat->Nat}{l:LI}(h:Yb g l=.non)(s:Nat):0<=l.getD s 0:=by
 by_cases c:s<ll l;·exact(Xnz (Xn5 h s c)).1
 ·rw[V9,Vdk (by omega)];exact Int.le_refl _
theorem Xu7:∀(l:LI) (s:Nat),(∀s,0<=l.getD s 0)->0<=l.sum/\l.getD s 0<=l.sum
 |[],s,_=>⟨Int.le_refl _,by simp⟩|x::l,s,h=>by
  have J:0<=x:=h 0;have ih:=Xu7 l (s-1) λs=>h (s+1);rw[List.sum_cons];cases s with
  |zero=>exact⟨by omega,by show x<=_;omega⟩|succ s=>rw[Vee]at ih;exact⟨by omega,by show l.getD s 0<=_;omega⟩
theorem X7t{g:Nat->Nat->Nat}{l:LI}(l1:1<=ll l)(l2:(ll l)<=12)(h:Yb g l=.non)(h2:tb2 l=yw)(J:tb3 l=yw):Crw l:=by
 have nn:=Xu6 h;refine⟨l1,l2,?_,nn,λs=>?_,λs hs=>?_⟩;·have:=Xn5 h 0 (by omega);simpa [X7] using this
 ·have:=(Xu7 l s nn).2;have J:¬ 200<l.sum:=by simpa [tb3] using J
  omega
 by_cases c:s<ll l
 ·have:=List.any_eq_false.mp h2 (l.getD s 0) (by
   rw[V9,Uh c];refine Vew.mpr ⟨s-7,?_⟩;rw[Vft,show 7+(s-7)=s by omega,Uh c];rfl)
  simpa using this
 rw[V9,Vdk (by omega)];rfl
theorem X2z{l:LI}(h:∀s,0<=l.getD s 0):decide ((l.drop 7).filter (λx=>decide (0<x))=[]) = !tb2 l:=by
 have hd:∀x∈l.drop 7,0<=x:=λx L=>by obtain⟨i,hi⟩:=Vew.mp L;rw[Vft]at hi;have:=h (7+i);rwa [V9,hi]at this
 unfold tb2;generalize l.drop 7=m at hd ⊢;induction m with
 |nil=>rfl|cons x m ih=>
  have h0:=hd x U3;have ih:=ih λy J=>hd y (Uv _ J);by_cases c:x=0;·subst c;rw[List.filter_cons_of_neg (by simp),List.any_cons,ih];rfl
  ·rw[List.filter_cons_of_pos (by simpa using (by omega:0<x)),List.any_cons];simp[c]
theorem X20{s far m:Nat}(h1:1<=s)(hs:s<=6)(L:m<=200)(h:far=0\/C (far-1+(s-1)*1) s<m):∀i,i<=s->C (far+1*(i-1)) i<5000:=by
 have J:∀B,(∀i,i<=s->C (B+1*(i-1)) i<5000)->200<=C (B+(s-1)*1) s->∀i,i<=s->C (far+1*(i-1)) i<5000:=λB hB Y i hi=>by
  have hf:far<=B:=by
   rcases h with h|h;·omega
   ·by_cases c:far<=B;·exact c
    ·have:=Xbp (k:=s) (show B+(s-1)*1<=far-1+(s-1)*1 by omega);omega
  exact Vbx (Xbp (by omega)) (hB i hi)
 have tb:∀s,s<=6->1<=s->(∀i,i<=s->C ([0,200,20,10,7,6,5].getD s 0+1*(i-1)) i<5000)/\200<=C ([0,200,20,10,7,6,5].getD s 0+(s-1)*1) s:=by decide+kernel
 exact J _ (tb s hs h1).1 (tb s hs h1).2
theorem Yae{s:Nat}(h1:1<=s)(hs:s<=12):480<=C (500+1*(s-1)) s:=by obtain⟨k,rfl⟩:∃k,s=k+1:=⟨s-1,by omega⟩;have L:=Xej k (500-(k+1));have J:=Xbp (k:=k+1) (show k+1+(500-(k+1))<=500+1*(k+1-1) by omega);omega
end Z
end
section
namespace Z
open PySem PySem.Spec PyProof.Rows L2
noncomputable def e59:Int:=10^(59:Int).toNat
theorem Ybg(S:Sto):Xu .pow (.int 10) (.int 59) S=.ok (.int e59) S:=Xf9 (by decide+kernel) S
theorem Yaf:e59<=(mx:Int)/\0<=e59:=by decide+kernel
theorem Xgo{S:Sto}{d:D}{t:Str}(h:Xeu S d=yz t):Xm .repr [d] S=.ok (.str t) S:=by simp only[Xm,h]
theorem Yu{p:Nat}{S:Sto}{l:LI}(h:Xdm l)(hl:(ll l)<=100):Kp p S (Xa l):=λS' _=>by refine⟨(X19 h).mono (by omega) (by omega),Xe6 S' _ (λ_ z=>nomatch z) (λ_ _ z=>nomatch z),λys z=>?_⟩;injection z with z;subst z;refine⟨λx J=>?_,by rw[Vl];omega⟩;obtain⟨i,_,rfl⟩:=U5.mp J;exact Xhb S' i
noncomputable def tkE(it:Nat)(e:Ex):Ex:=.call it (.cons (.var 0) (.cons e .nil))
noncomputable def Xyg(inx:Nat):St:=.ite (.cmp .gt (.var 5) (.cst (.int 1))) (.cons (.asg (.var 6) (.call inx (.cons (.var 1) (.cons (.idx (.var 4) (.neg (.cst (.int 1)))) (.cons (.bin .sub (.var 5) (.cst (.int 1))) .nil))))) .nil) .nil
noncomputable def drX(it:Nat):Exs:=.cons (.var 6) (.cons (tkE it (.bin .add (.var 6) (.cst (.int 1)))) .nil)
noncomputable def Xyh(it:Nat):St:=.expr (.mth .append (.var 4) (.cons (.idx (.lst (drX it)) (tkE it (.cst (.int 2)))) .nil))
noncomputable def drB(it inx:Nat):Sts:=.cons (.asg (.var 6) (.var 2)) (.cons (Xyg inx) (.cons (Xyh it) .nil))
noncomputable def Xr1(it inx:Nat):Df:=⟨4,7,.cons (.asg (.var 4) (.lst (.cons (.cst (.int 1)) .nil))) (.cons (.for (.var 5) (.rng (.cons (.cst (.int 1)) (.cons (.bin .add (.cst (.int 1)) (tkE it (.var 3))) .nil))) (drB it inx)) (.cons (.ret (.blt .tuple (.cons (.var 4) .nil))) .nil))⟩
section
variable{F:Fn}{G:LD}{it inx p q kd pts most:Nat}{S0 S:Sto}{l:LI}{x6:Option D}
structure Bds(kd pts most:Nat)(B:Nat->Nat):Prop where
 b0:1<=B 0
 b1:pts<=B 1
 up:∀s n,1<=s->s+1<most->n<=B s->abv (gK kd) s n<=B (s+1)
 le:∀s,s+1<most->B s<=1000000000000
 mx:∀s,s<most->B s+1<=mx
 mo:most<=12
def InB(B:Nat->Nat)(l:LI):Prop:=∀j,j<ll l->0<=l.getD j 0/\l.getD j 0<=(B j:Int)
variable{B:Nat->Nat}(hb:Bds kd pts most B)
include hb
theorem X7u(hN:Xgh F inx kd)(k:Kq p q S0 l S){pl:Nat}(h1:1<=pl)(h2:pl<most)(hl:(ll l)=pl)(hi:InB B l):
  ∃(far:Nat) (S':Sto),far<=B pl/\Kq p q S0 l S'/\exe F G (Xyg inx) [yz (.ref p),yz (.int kd),yz (.int pts),yz (.int most),yz (.ref q),yz (.int pl),yz (.int pts)] S=.ok (.nx [yz (.ref p),yz (.int kd),yz (.int pts),yz (.int most),yz (.ref q),yz (.int pl),yz (.int far)]) S':=by
 have mo:=hb.mo;by_cases c:1<pl
 ·have hd:decide ((1:Int)<(pl:Int))=true:=decide_eq_true (by omega);have J:ev F G (.cmp .gt (.var 5) (.cst (.int 1))) [yz (.ref p),yz (.int kd),yz (.int pts),yz (.int most),yz (.ref q),yz (.int pl),yz (.int pts)] S=.ok (.bl yx) S:=by
   simp only[ev,gZ0,gS0,Rk0,Xi,Xw,hd]
  obtain⟨n,rfl⟩:∃n,pl=n+1:=⟨pl-1,by omega⟩;have hx:=Xxp k.row hl;have hv:=hi n (by omega);have bl:=hb.le n (by omega);have ex:l.getD n 0=((l.getD n 0).toNat:Int):=by omega
  obtain⟨X,h⟩:=hN (l.getD n 0).toNat n S (by omega) (by omega) (by omega);have Y:=hb.up n (l.getD n 0).toNat (by omega) (by omega) (by omega);rw[<-ex]at h;have e0:((n+1:Nat):Int)-1=(n:Int):=by omega
  generalize abv (gK kd) n (l.getD n 0).toNat=A at h Y;refine⟨A,S++X,Y,k.app,?_⟩;have L:∀S:Sto,ev F G (.neg (.cst (.int 1))) [yz (.ref p),yz (.int kd),yz (.int pts),yz (.int most),yz (.ref q),yz (.int ((n+1:Nat):Int)),yz (.int pts)] S=.ok (.int (-1)) S:=λ_=>rfl;have ha:exe F G (.asg (.var 6) (.call inx (.cons (.var 1) (.cons (.idx (.var 4) (.neg (.cst (.int 1)))) (.cons (.bin .sub (.var 5) (.cst (.int 1))) .nil))))) [yz (.ref p),yz (.int kd),yz (.int pts),yz (.int most),yz (.ref q),yz (.int ((n+1:Nat):Int)),yz (.int pts)] S=.ok (.nx [yz (.ref p),yz (.int kd),yz (.int pts),yz (.int most),yz (.ref q),yz (.int ((n+1:Nat):Int)),yz (.int A)]) (S++X):=X0 (by rw[ev,evs];simp only[ev,evs,L,gZ0,gS0,Rk0,Yd,e0,hx,h]);unfold Xyg;rw[exe,J,Rk0];simp only[Xf];rw[Xb ha,pd]
 ·have hd:decide ((1:Int)<(pl:Int))=false:=decide_eq_false (by omega);have J:ev F G (.cmp .gt (.var 5) (.cst (.int 1))) [yz (.ref p),yz (.int kd),yz (.int pts),yz (.int most),yz (.ref q),yz (.int pl),yz (.int pts)] S=.ok (.bl yw) S:=by
   simp only[ev,gZ0,gS0,Rk0,Xi,Xw,hd]
  obtain rfl:pl=1:=by omega
  exact⟨pts,S,hb.b1,k,Xy J⟩
theorem X7v(hT:Xgb F it)(J:q≠p)(hq:(ll S0)<=q)(k:Kq p q S0 l S){pl far:Nat}(h2:pl<most)(hf:far<=B pl)(hl:(ll l)=pl):
  ∃(y:Nat) (S':Sto),y<=B pl/\Kq p q S0 (l++[(y:Int)]) S'/\exe F G (Xyh it) [yz (.ref p),yz (.int kd),yz (.int pts),yz (.int most),yz (.ref q),yz (.int pl),yz (.int far)] S=.ok (.nx [yz (.ref p),yz (.int kd),yz (.int pts),yz (.int most),yz (.ref q),yz (.int pl),yz (.int far)]) S':=by
 have mo:=hb.mo;have bm:=hb.mx pl h2;obtain⟨v,hv⟩:=k.pot;have ef:(far:Int)+1=((far+1:Nat):Int):=by omega
 have t:=hT p v ((far+1:Nat):Int) S hv (by omega) (X7m (n:=far+1) (by omega) (by omega));have n0:=Vfp v (show((far+1:Nat):Int)≠0 by omega);have n1:=Vem v (show(0:Int)<((far+1:Nat):Int) by omega);obtain⟨r,hr⟩:∃r:Nat,v%((far+1:Nat):Int)=(r:Int):=⟨(v%((far+1:Nat):Int)).toNat,by omega⟩;rw[hr]at t n1;have k1:=k.setp J (v/((far+1:Nat):Int));have p1:Xc (S.set p (.lst [.int (v/((far+1:Nat):Int))])) p=yz [.int (v/((far+1:Nat):Int))]:=Xau (Xaa hv);generalize S.set p (.lst [.int (v/((far+1:Nat):Int))])=S1 at t k1 p1;generalize v/((far+1:Nat):Int)=v1 at p1;have he:evs F G (drX it) [yz (.ref p),yz (.int kd),yz (.int pts),yz (.int most),yz (.ref q),yz (.int pl),yz (.int far)] S=.ok [.int far,.int r] S1:=by simp only[drX,tkE,evs,ev,gZ0,gS0,Rk0,Xx,ef,t]
 obtain⟨d,md,ed⟩:=Xxj (G:=G) hT (q:=0) (c:=2) (p:=p) (v:=v1) he rfl (by decide) (by show 2<=big;decide) d2 rfl p1;have hd:∃n:Nat,d=.int n/\n<=far:=by
  simp only[V2,Vai,or_false]at md;rcases md with rfl|rfl;·exact⟨far,rfl,Vf _⟩
  ·exact⟨r,rfl,by omega⟩
 obtain⟨n,rfl,hn⟩:=hd;have k2:=(k1.app (X:=[.lst [.int far,.int r]])).setp J (v1/2);generalize (S1++[O.lst [.int far,.int r]]).set p (.lst [.int (v1/2)])=S2 at ed k2;have L:=Xgd (x:=.int (n:Int)) k2.row (by rw[Vl];omega);have aa:Xaf .append (.ref q) S=true:=by simp only[Xaf,k.row,Vck]
 have em:l.map D.int++[D.int (n:Int)]=(l++[(n:Int)]).map D.int:=by simp
 rw[em]at L;refine⟨n,_,by omega,k2.setq (l':=l++[(n:Int)]) J hq,?_⟩;have Y:ev F G (.idx (.lst (drX it)) (tkE it (.cst (.int 2)))) [yz (.ref p),yz (.int kd),yz (.int pts),yz (.int most),yz (.ref q),yz (.int pl),yz (.int far)] S=.ok (.int n) S2:=ed;unfold Xyh;simp only[exe,ev,evs,gZ0,gS0,Rk0,aa,if_true]at Y ⊢;rw[Y];simp only[Rk0,L]
theorem Xyi(hT:Xgb F it)(hN:Xgh F inx kd)(hm:1<=most){v:Int}(hp:Xc S p=yz [.int v]):
  ∃(l:LI) (S':Sto),den F G (Xr1 it inx) [.ref p,.int kd,.int pts,.int most] S=.ok (Xa l) S'/\1<=ll l/\(ll l)<=most/\InB B l/\Ext p S S'/\∃v,Xc S' p=yz [.int v]:=by
 have mo:=hb.mo;have ae:=Xaa hp;have s1:exe F G (.asg (.var 4) (.lst (.cons (.cst (.int 1)) .nil))) [yz (.ref p),yz (.int kd),yz (.int pts),yz (.int most),yy,yy,yy] S=.ok (.nx [yz (.ref p),yz (.int kd),yz (.int pts),yz (.int most),yz (.ref (ll S)),yy,yy]) (S++[.lst [.int 1]]):=X0 (by simp only[ev,evs,Rk0];rfl);have dm:Yr (most:Int)=true:=by
  have:∀j:Fin 13,1<=j.val->Yr ((j.val:Nat):Int)=true:=by decide+kernel
  exact this ⟨most,by omega⟩ hm
 have t:=hT p v (most:Nat) (S++[.lst [.int 1]]) (X3 hp) (by omega) dm;have n0:=Vfp v (show((most:Nat):Int)≠0 by omega);have n1:=Vem v (show(0:Int)<((most:Nat):Int) by omega);obtain⟨r,hr⟩:∃r:Nat,v%((most:Nat):Int)=(r:Int):=⟨(v%((most:Nat):Int)).toNat,by omega⟩;rw[hr]at t n1;have k0:Kq p (ll S) S [1] ((S++[O.lst [.int 1]]).set p (.lst [.int (v/(most:Nat))])):=Kq.setp (p:=p) (q:=ll S) (S0:=S) (l:=[1]) ⟨.app,⟨v,X3 hp⟩,Xg⟩ (by omega) _;generalize (S++[O.lst [.int 1]]).set p (.lst [.int (v/(most:Nat))])=S1 at t k0;have aa:evs F G (.cons (.cst (.int 1)) (.cons (.bin .add (.cst (.int 1)) (tkE it (.var 3))) .nil)) [yz (.ref p),yz (.int kd),yz (.int pts),yz (.int most),yz (.ref (ll S)),yy,yy] (S++[.lst [.int 1]])=.ok [.int 1,.int (1+(r:Int))] S1:=by simp only[tkE,evs,ev,gZ0,gS0,Rk0,t,Xx]
 have ac:Ys [.int 1,.int (1+(r:Int))]=yz ((Vm r).map λ(k:Nat)=>D.int (1+(k:Int))):=by simp only[Ys];rw[iP0 ⟨by omega,by omega,by omega,by omega⟩,show(1+(r:Int)-1).toNat=r by omega]
 obtain⟨e',S',h2,l,x5,x6,rfl,J,hl,hi⟩:=Xbu (F:=F) (G:=G) (t:=.var 5) (b:=drB it inx) (env:=[yz (.ref p),yz (.int kd),yz (.int pts),yz (.int most),yz (.ref (ll S)),yy,yy]) (S:=S++[.lst [.int 1]])
  (λi e S'=>∃(l:LI) (x5 x6:Option D),e=[yz (.ref p),yz (.int kd),yz (.int pts),yz (.int most),yz (.ref (ll S)),x5,x6]/\Kq p (ll S) S l S'/\(ll l)=i+1/\InB B l)
  aa ac ⟨[1],yy,yy,rfl,k0,rfl,λj L=>by
   obtain rfl:j=0:=by simpa using L
   have:=hb.b0;show(0:Int)<=1/\(1:Int)<=_;omega⟩
  (λi d e S' hd hP=>by
   obtain⟨l,x5,x6,rfl,J,hl,hi⟩:=hP;rw[V6,Ul]at hd;obtain⟨j,L,rfl⟩:=hd;obtain⟨ab,Y⟩:=Vd.mp L;rw[Vhk]at Y;subst Y;rw[Uo]at ab;have ei:(1+(i:Int))=((i+1:Nat):Int):=by omega
   have a1:exe F G (.asg (.var 6) (.var 2)) [yz (.ref p),yz (.int kd),yz (.int pts),yz (.int most),yz (.ref (ll S)),yz (.int ((i+1:Nat):Int)),x6] S'=.ok (.nx [yz (.ref p),yz (.int kd),yz (.int pts),yz (.int most),yz (.ref (ll S)),yz (.int ((i+1:Nat):Int)),yz (.int pts)]) S':=X0 (by simp only[ev,gZ0,gS0]);obtain⟨far,S2,f1,k2,a2⟩:=X7u (F:=F) (G:=G) hb hN J (pl:=i+1) (by omega) (by omega) hl hi;obtain⟨y,S3,y1,k3,a3⟩:=X7v (F:=F) (G:=G) hb hT (by omega) (Vf _) k2 (pl:=i+1) (far:=far) (by omega) f1 hl;refine⟨_,_,S3,rfl,?_,l++[(y:Int)],yz (.int ((i+1:Nat):Int)),yz (.int far),rfl,k3,by simp[hl],λj L=>?_⟩;·rw[ei];unfold drB;exact(Xb a1).trans ((Xb a2).trans ((Xb a3).trans (by simp only[pd])))
   ·rw[V3,Vgo]at L;by_cases c:j<ll l;·rw[V9,Vu c,<-V9];exact hi j c
    ·obtain rfl:j=ll l:=by omega
     rw[V9,Us (Vf _),U0];show 0<=(y:Int)/\(y:Int)<=_;rw[hl];omega)
 rw[Vl,Uo]at hl;refine⟨l,S',?_,by omega,by omega,hi,J.ex,J.pot⟩;refine Ye (env:=[yz (.ref p),yz (.int kd),yz (.int pts),yz (.int most),yy,yy,yy]) rfl rfl ?_;refine(Xb s1).trans ((Xb h2).trans (Xh ?_));simp only[exe,ev,evs,gZ0,gS0,Rk0,Xm,Xq,J.row,Xa]
end
noncomputable def i1E:Ex:=.cst (.int 1)
noncomputable def Xc4:Ex:=.bin .pow (.cst (.int 10)) (.cst (.int 12))
noncomputable def Xyj:Ex:=.bin .pow (.cst (.int 10)) (.cst (.int 59))
noncomputable def spO:Exs:=.cons (.cst (.bl yx)) (.cons (.cst .non) (.cons (.cst (.str "1")) (.cons (.tup (.cons i1E .nil)) (.cons (.neg i1E) (.cons (.cst (.int 2)) (.cons (.bin .add Xc4 i1E) (.cons Xyj .nil)))))))
noncomputable def spH:Ex:=.sli (.var 1) .none (.some (.var 2))
noncomputable def spT:Ex:=.sli (.var 1) (.some (.bin .add (.var 2) i1E)) .none
noncomputable def sp3:Exs:=.cons (.bin .add (.bin .add spH (.tup (.cons (.var 3) .nil))) spT) (.cons (.bin .add (.bin .add spH (.tup (.cons (.bin .add (.idx (.var 1) (.var 2)) i1E) .nil))) spT) (.cons (.bin .add spH spT) .nil))
noncomputable def spZ:Ex:=.bin .add (.var 1) (.bin .mul (.tup (.cons (.cst (.int 0)) .nil)) (.cst (.int 12)))
noncomputable def sp5:Exs:=.cons (.bin .add (.bin .add spH (.sli (.var 1) (.some (.var 2)) (.some (.bin .add (.var 2) i1E)))) (.sli (.var 1) (.some (.var 2)) .none)) (.cons (.sli spZ .none (.some (.cst (.int 12)))) (.cons spZ (.cons (.blt .list (.cons (.var 1) .nil)) (.cons (.cst .non) .nil))))
noncomputable def sp7:Exs:=.cons (.tup .nil) (.cons (.tup (.cons i1E .nil)) (.cons (.tup (.cons i1E (.cons (.cst (.int 0)) .nil))) (.cons (.tup (.cons i1E (.cons (.cst (.int 16)) .nil))) (.cons (.tup (.cons i1E (.cons (.cst (.int 17)) .nil))) (.cons (.tup (.cons i1E (.cons Xc4 .nil))) (.cons (.bin .add (.var 1) (.tup (.cons i1E .nil))) .nil))))))
noncomputable def Xn6(it:Nat):Df:=⟨2,5,.cons (.asg (.var 2) (.call it (.cons (.var 0) (.cons (.blt .len (.cons (.var 1) .nil)) .nil)))) (.cons (.asg (.var 3) (.idx (.lst spO) (.call it (.cons (.var 0) (.cons (.cst (.int 8)) .nil)))))
 (.cons (.asg (.var 4) (.lst sp3)) (.cons (.asg (.var 4) (.bin .add (.var 4) (.lst sp5))) (.cons (.ret (.bin .add (.var 4) (.lst sp7))) .nil))))⟩
noncomputable def Xhk:LD:=[.bl yx,.non,.str "1",.tup [.int 1],.int (-1),.int 2,.int (e12+1),.int e59]
noncomputable def Xak(l:LI)(a:Nat)(od:D):LD:=[X7d l a (a+1) od,Xa (l.take a++[l.getD a 0+1]++l.drop (a+1)),Xa (l.take a++l.drop (a+1))]
noncomputable def Yw(l:LI)(a q:Nat):LD:=[Xa (l.take a++(l.drop a).take 1++l.drop a),Xa ((l++Vg 12 0).take 12),Xa (l++Vg 12 0),.ref q,.non]
noncomputable def Xce(l:LI):LD:=[Xa [],Xa [1],Xa [1,0],Xa [1,16],Xa [1,17],Xa [1,1000000000000],Xa (l++[1])]
section
variable{F:Fn}{G:LD}{env:En}{S:Sto}{l:LI}{a:Nat}{od:D}
theorem Xa7{es:Exs}{ds:LD}{S1:Sto}(h:evs F G es env S=.ok ds S1)(hl:(ll ds)<=100):ev F G (.tup es) env S=.ok (.tup ds) S1:=by rw[ev,h,Rk0];exact iP0 (Yx (by omega))
theorem Ybh(a b:LI)(h:(ll a)+ll b<=900)(S:Sto):Xu .add (Xa a) (Xa b) S=.ok (Xa (a++b)) S:=by simp only[Xa,Xu,Vl];rw[iP0 (Yx (by omega)),Vcw]
theorem Xby{x y:Ex}{a b:LI}{S1 S2:Sto}(L:ev F G x env S=.ok (Xa a) S1)(J:ev F G y env S1=.ok (Xa b) S2)(h:(ll a)+ll b<=900):ev F G (.bin .add x y) env S=.ok (Xa (a++b)) S2:=by rw[ev,L,Rk0,J,Rk0,Ybh a b h]
theorem X7w:evs F G spO env S=.ok Xhk S:=by
 have h1:ev F G (.tup (.cons i1E .nil)) env S=.ok (.tup [.int 1]) S:=Xa7 (ds:=[.int 1]) (by simp only[i1E,evs,ev,Rk0]) (by simp);have L:ev F G (.neg i1E) env S=.ok (.int (-1)) S:=rfl;have e7:ev F G (.bin .add Xc4 i1E) env S=.ok (.int (e12+1)) S:=by simp only[i1E,Xc4,ev,Rk0,Xrx,Xx]
 have Y:ev F G Xyj env S=.ok (.int e59) S:=by simp only[Xyj,ev,Rk0,Ybg]
 have J:∀d,ev F G (.cst d) env S=.ok d S:=λd=>by simp only[ev]
 unfold spO Xhk;rw[evs,J,Rk0,evs,J,Rk0,evs,J,Rk0,evs,h1,Rk0,evs,L,Rk0,evs,J,Rk0,evs,e7,Rk0,evs,Y,Rk0,evs];simp only[Rk0]
theorem X7x{p:Nat}:∀d∈Xhk,El p S d:=by
 intro d hd;unfold Xhk at hd;simp only[V2,Vai,or_false]at hd;rcases hd with rfl|rfl|rfl|rfl|rfl|rfl|rfl|rfl;·exact Xcs X92 (by omega) (by omega)
 ·exact Xcs Xui (by omega) (by omega)
 ·exact Xcs (Xuj (by decide+kernel)) (by omega) (by omega)
 ·exact Xcs (X67 (Xno (by decide))) (by omega) (by omega)
 ·exact Xdz (by decide)
 ·exact Xdz (by decide)
 ·exact Xdz (by rw[Xfc];decide)
 exact Xdz (Xij (by have:=Yaf;omega))
variable(h1:env[1]?=yz (yz (Xa l)))(h2:env[2]?=yz (yz (.int a)))(hl:(ll l)<=12)(ha:a<ll l)
include h1
theorem Xu8(hl:(ll l)<=12):ev F G spZ env S=.ok (Xa (l++Vg 12 0)) S:=by
 have J:ev F G (.tup (.cons (.cst (.int 0)) .nil)) env S=.ok (Xa [0]) S:=Xa7 (ds:=[.int 0]) (by simp only[evs,ev,Rk0]) (by simp);have Y:Xu .mul (Xa [0]) (.int 12) S=.ok (Xa (Vg 12 0)) S:=by have:=Xp5 (x:=[D.int 0]) (k:=12) (S:=S) (by decide) (Yx (by decide)) (by decide) rfl;exact this
 have L:ev F G (.bin .mul (.tup (.cons (.cst (.int 0)) .nil)) (.cst (.int 12))) env S=.ok (Xa (Vg 12 0)) S:=by rw[ev,J,Rk0];simp only[ev,Rk0];exact Y
 unfold spZ;exact Xby (by simp only[ev,h1]) L (by rw[Vgn];omega)
theorem X7y(hl:(ll l)<=12):evs F G sp7 env S=.ok (Xce l) S:=by
 have e1:∀S,ev F G (.tup .nil) env S=.ok (Xa []) S:=λS=>Xa7 (ds:=[]) (by simp only[evs]) (by simp);have L:∀S,ev F G (.tup (.cons i1E .nil)) env S=.ok (Xa [1]) S:=λS=>Xa7 (ds:=[.int 1]) (by simp only[i1E,evs,ev,Rk0]) (by simp);have J:∀(n:Int) S,ev F G (.tup (.cons i1E (.cons (.cst (.int n)) .nil))) env S=.ok (Xa [1,n]) S:=λn S=>Xa7 (ds:=[.int 1,.int n]) (by simp only[i1E,evs,ev,Rk0]) (by simp);have e4:∀S,ev F G (.tup (.cons i1E (.cons Xc4 .nil))) env S=.ok (Xa [1,1000000000000]) S:=λS=>by rw[<-Xfc];exact Xa7 (ds:=[.int 1,.int e12]) (by simp only[i1E,Xc4,evs,ev,Rk0,Xrx]) (by simp)
 have Y:∀S,ev F G (.bin .add (.var 1) (.tup (.cons i1E .nil))) env S=.ok (Xa (l++[1])) S:=λS=>Xby (by simp only[ev,h1]) (L S) (by simp<;>omega);unfold sp7 Xce;rw[evs,e1,Rk0,evs,L,Rk0,evs,J,Rk0,evs,J,Rk0,evs,J,Rk0,evs,e4,Rk0,evs,Y,Rk0,evs];simp only[Rk0]
include h2
theorem Xn7(S:Sto):ev F G spH env S=.ok (Xa (l.take a)) S:=by have hs:=Xhf l a S;simp only[spH,ev,evo,h1,h2,Rk0,Xai];exact hs
theorem Xu9(S:Sto):ev F G spT env S=.ok (Xa (l.drop (a+1))) S:=by have hs:=Xb6 l (a+1) S;simp only[spT,i1E,ev,evo,h1,h2,Rk0,Xx,Xai];rw[show(a:Int)+1=((a+1:Nat):Int) by omega];exact hs
include hl ha
theorem X7z(L:env[3]?=yz (yz od)):evs F G sp3 env S=.ok (Xak l a od) S:=by
 have ea:(a:Int)+1=((a+1:Nat):Int):=by omega
 have e1:∀S,ev F G (.bin .add (.bin .add spH (.tup (.cons (.var 3) .nil))) spT) env S=.ok (X7d l a (a+1) od) S:=λS=>X7c (ir:=1) (ia:=2) (e:=.var 3) (eb:=.bin .add (.var 2) i1E) h1 h2 (by simp only[ev,L]) (by simp only[i1E,ev,h2,Rk0,Xx,ea]) (by omega);have hi:∀S,ev F G (.tup (.cons (.bin .add (.idx (.var 1) (.var 2)) i1E) .nil)) env S=.ok (Xa [l.getD a 0+1]) S:=λS=>by have J:=Xbw ha S;exact Xa7 (ds:=[.int (l.getD a 0+1)]) (by simp only[i1E,evs,ev,h1,h2,Rk0,J,Xx]) (by simp)
 have e2:∀S,ev F G (.bin .add (.bin .add spH (.tup (.cons (.bin .add (.idx (.var 1) (.var 2)) i1E) .nil))) spT) env S=.ok (Xa (l.take a++[l.getD a 0+1]++l.drop (a+1))) S:=λS=>Xby (Xby (Xn7 h1 h2 S) (hi S) (by simp<;>omega)) (Xu9 h1 h2 S) (by simp<;>omega);have Y:∀S,ev F G (.bin .add spH spT) env S=.ok (Xa (l.take a++l.drop (a+1))) S:=λS=>Xby (Xn7 h1 h2 S) (Xu9 h1 h2 S) (by simp<;>omega);unfold sp3 Xak;rw[evs,e1,Rk0,evs,e2,Rk0,evs,Y,Rk0,evs];simp only[Rk0]
theorem X70:evs F G sp5 env S=.ok (Yw l a (ll S)) (S++[.lst (l.map D.int)]):=by
 have hm:∀S,ev F G (.sli (.var 1) (.some (.var 2)) (.some (.bin .add (.var 2) i1E))) env S=.ok (Xa ((l.drop a).take 1)) S:=λS=>by
  have L:cut (l.map D.int) (yz (a:Int)) (yz ((a:Int)+1))=((l.drop a).take 1).map D.int:=by
   have c1:Xb9 l.length 0 (yz (a:Int))=a:=by unfold Xb9;simp only;rw[iP0 (by omega)];omega
   have Y:Xb9 l.length l.length (yz ((a:Int)+1))=a+1:=by unfold Xb9;simp only;rw[iP0 (by omega)];omega
   unfold cut;rw[Vl,c1,Y,show a+1-a=1 by omega,List.map_take,List.map_drop]
  simp only[i1E,ev,evo,h1,h2,Rk0,Xx,Xai,Xa,Xaj,L]
 have hd:∀S,ev F G (.sli (.var 1) (.some (.var 2)) .none) env S=.ok (Xa (l.drop a)) S:=λS=>by have hs:=Xb6 l a S;simp only[ev,evo,h1,h2,Rk0,Xai];exact hs
 have e1:∀S,ev F G (.bin .add (.bin .add spH (.sli (.var 1) (.some (.var 2)) (.some (.bin .add (.var 2) i1E)))) (.sli (.var 1) (.some (.var 2)) .none)) env S=.ok (Xa (l.take a++(l.drop a).take 1++l.drop a)) S:=λS=>Xby (Xby (Xn7 h1 h2 S) (hm S) (by simp<;>omega)) (hd S) (by simp<;>omega);have e2:∀S,ev F G (.sli spZ .none (.some (.cst (.int 12)))) env S=.ok (Xa ((l++Vg 12 0).take 12)) S:=λS=>by have hs:=Xhf (l++Vg 12 0) 12 S;rw[ev,Xu8 h1 hl,Rk0];simp only[evo,ev,Rk0,Xai];exact hs
 have e4:ev F G (.blt .list (.cons (.var 1) .nil)) env S=.ok (.ref (ll S)) (S++[.lst (l.map D.int)]):=by simp only[ev,evs,h1,Rk0,Xa,Xm,Xq]
 have J:∀S,ev F G (.cst .non) env S=.ok .non S:=λS=>by simp only[ev]
 unfold sp5 Yw;rw[evs,e1,Rk0,evs,e2,Rk0,evs,Xu8 h1 hl,Rk0,evs,e4,Rk0,evs,J,Rk0,evs];simp only[Rk0]
end
theorem Xva{F:Fn}{G:LD}{it p:Nat}{S:Sto}{l:LI}{v:Int}(hT:Xgb F it)(h0:1<=ll l)(hl:(ll l)<=12)(hn:∀x∈l,0<=x/\x+1<=mx)(hp:Xc S p=yz [.int v]):
  ∃q ts S',den F G (Xn6 it) [.ref p,Xa l] S=.ok (.ref q) S'/\Xc S' q=yz ts/\(ll ts)=15/\(∀d∈ts,Kp p S' d)/\Ext p S S'/\q≠p:=by
 have nl:Xdm l:=λx J=>Xij (by have:=hn x J;omega);have dl:Yr (l.length:Int)=true:=by
  have:∀j:Fin 13,1<=j.val->Yr ((j.val:Nat):Int)=true:=by decide+kernel
  exact this ⟨l.length,by omega⟩ h0
 have d8:Yr 8=true:=by decide+kernel
 have t1:=hT p v (l.length:Nat) S hp (by omega) dl;have n0:=Vfp v (show((l.length:Nat):Int)≠0 by omega);have n1:=Vem v (show(0:Int)<((l.length:Nat):Int) by omega);obtain⟨a,ha⟩:∃a:Nat,v%((l.length:Nat):Int)=(a:Int):=⟨(v%((l.length:Nat):Int)).toNat,by omega⟩;rw[ha]at t1 n1;have ab:a<ll l:=by omega
 have s1:exe F G (.asg (.var 2) (.call it (.cons (.var 0) (.cons (.blt .len (.cons (.var 1) .nil)) .nil)))) [yz (.ref p),yz (Xa l),yy,yy,yy] S=.ok (.nx [yz (.ref p),yz (Xa l),yz (.int a),yy,yy]) (S.set p (.lst [.int (v/(l.length:Nat))])):=X0 (by simp only[ev,evs,gZ0,gS0,Rk0,Xju,t1]);have p1:Xc (S.set p (.lst [.int (v/(l.length:Nat))])) p=yz [.int (v/(l.length:Nat))]:=Xau (Xaa hp);have x1:Ext p S (S.set p (.lst [.int (v/(l.length:Nat))])):=.set;generalize S.set p (.lst [.int (v/(l.length:Nat))])=S1 at s1 p1 x1;generalize v/((l.length:Nat):Int)=v1 at p1;obtain⟨od,mo,eo⟩:=Xxj (G:=G) hT (q:=0) (c:=8) (p:=p) (v:=v1) (env:=[yz (.ref p),yz (Xa l),yz (.int a),yy,yy]) (X7w (S:=S1)) rfl (by decide) (by show 8<=big;decide) d8 rfl p1;have p2:=Xkx (ds:=Xhk) (c:=8) p1;have x2:Ext p S ((S1++[O.lst Xhk]).set p (.lst [.int (v1/8)])):=(x1.trans .app).trans .set;have s2:exe F G (.asg (.var 3) (.idx (.lst spO) (.call it (.cons (.var 0) (.cons (.cst (.int 8)) .nil))))) [yz (.ref p),yz (Xa l),yz (.int a),yy,yy] S1=.ok (.nx [yz (.ref p),yz (Xa l),yz (.int a),yz od,yy]) _:=X0 eo;generalize (S1++[O.lst Xhk]).set p (.lst [.int (v1/8)])=S2 at s2 p2 x2;have h3:=X7z (F:=F) (G:=G) (env:=[yz (.ref p),yz (Xa l),yz (.int a),yz od,yy]) (S:=S2) (od:=od) rfl rfl hl ab rfl;have s3:exe F G (.asg (.var 4) (.lst sp3)) [yz (.ref p),yz (Xa l),yz (.int a),yz od,yy] S2=.ok (.nx [yz (.ref p),yz (Xa l),yz (.int a),yz od,yz (.ref (ll S2))]) (S2++[.lst (Xak l a od)]):=X0 (by rw[ev,h3,Rk0];exact iP0 (by show 3<=big;decide));have h5:=X70 (F:=F) (G:=G) (env:=[yz (.ref p),yz (Xa l),yz (.int a),yz od,yz (.ref (ll S2))]) (S:=S2++[.lst (Xak l a od)]) (l:=l) (a:=a) rfl rfl hl ab;have q3:Xc (S2++[O.lst (Xak l a od)]) (ll S2)=yz (Xak l a od):=Xg;have x3:Ext p S (S2++[O.lst (Xak l a od)]):=x2.trans .app;have g3:p<(S2++[O.lst (Xak l a od)]).length:=by have:=Xaa p2;rw[V3];omega
 have ae:(S2++[O.lst (Xak l a od)]).length≠p:=by omega
 generalize S2++[O.lst (Xak l a od)]=L at s3 h5 q3 x3 g3 ae;generalize (ll S2)=r3 at s3 h5 q3;have q5:Xc (L++[O.lst (l.map D.int)]++[O.lst (Yw l a L.length)]) (L++[O.lst (l.map D.int)]).length=yz (Yw l a L.length):=Xg;have ak:=Xge (a:=r3) (b:=(L++[O.lst (l.map D.int)]).length) (X3 (X:=[O.lst (Yw l a L.length)]) (X3 (X:=[O.lst (l.map D.int)]) q3)) q5 (by show 3+5<=1000;decide)
 have s4:exe F G (.asg (.var 4) (.bin .add (.var 4) (.lst sp5))) [yz (.ref p),yz (Xa l),yz (.int a),yz od,yz (.ref r3)] L=.ok (.nx [yz (.ref p),yz (Xa l),yz (.int a),yz od,yz (.ref (L++[O.lst (l.map D.int)]++[O.lst (Yw l a L.length)]).length)]) (L++[.lst (l.map D.int)]++[.lst (Yw l a L.length)]++[.lst (Xak l a od++Yw l a L.length)]):=X0 (by
  have af:ev F G (.lst sp5) [yz (.ref p),yz (Xa l),yz (.int a),yz od,yz (.ref r3)] L=.ok (.ref (L++[O.lst (l.map D.int)]).length) (L++[.lst (l.map D.int)]++[.lst (Yw l a L.length)]):=by rw[ev,h5,Rk0];exact iP0 (by show 5<=big;decide)
  rw[ev];simp only[ev,gZ0,gS0,Rk0]at af ⊢;rw[af];simp only[Rk0,ak])
 have kq:∀(S':Sto),Xc S' (ll L)=yz (l.map D.int)->∀d∈Xak l a od++Yw l a L.length,Kp p S' d:=λS' hq d hd=>by
  have hm:∀x∈l,x.natAbs.log2<1920:=nl;have aa:∀(m:LI),(∀x∈m,x∈l\/x=0\/x=l.getD a 0+1)->Xdm m:=λm h x J=>by
   rcases h x J with z|z|z;·exact nl x z
   ·subst z;decide
   have:l.getD a 0∈l:=by rw[V9,Uh ab];exact Vd4 ab
   have:=hn _ this;exact Xij (by omega)
  rcases Uf.mp hd with hd|hd
  ·unfold Xak at hd;simp only[V2,Vai,or_false]at hd;rcases hd with rfl|rfl|rfl
   ·refine X68 (λx J=>?_) (by simp<;>omega);simp only[Uf,U5,Ue]at J;rcases J with(⟨i,hi,rfl⟩|rfl)|⟨i,hi,rfl⟩;·exact Xdz (nl i (Vaq hi))
    ·exact X7x _ mo
    exact Xdz (nl i (Vbe hi))
   ·refine Yu (aa _ λx J=>?_) (by simp<;>omega);simp only[Uf,Ue]at J;rcases J with(J|rfl)|J;·exact .inl (Vaq J)
    ·exact .inr (.inr rfl)
    exact .inl (Vbe J)
   refine Yu (aa _ λx J=>?_) (by simp<;>omega);rcases Uf.mp J with J|J;·exact .inl (Vaq J)
   ·exact .inl (Vbe J)
  unfold Yw at hd;simp only[V2,Vai,or_false]at hd;have ah:∀x∈l++Vg 12 0,x∈l\/x=0\/x=l.getD a 0+1:=λx J=>by
   rcases Uf.mp J with J|J;·exact .inl J
   ·exact .inr (.inl (List.mem_replicate.mp J).2)
  rcases hd with rfl|rfl|rfl|rfl|rfl
  ·refine Yu (aa _ λx J=>?_) (by simp<;>omega);simp only[Uf]at J;rcases J with(J|J)|J;·exact .inl (Vaq J)
   ·exact .inl (Vbe (Vaq J))
   exact .inl (Vbe J)
  ·exact Yu (aa _ λx J=>ah x (Vaq J)) (by simp<;>omega)
  ·exact Yu (aa _ ah) (by simp<;>omega)
  ·exact X69 ae hq (λx J=>by obtain⟨i,hi,rfl⟩:=U5.mp J;exact Xno (nl i hi)) (by omega) (by rw[Vl];omega)
  exact X93 (Xcs Xui (by omega) (by omega)) (λxs z=>by cases z)
 have k7:∀(S':Sto),∀d∈Xce l,Kp p S' d:=λS' d hd=>by
  unfold Xce at hd;simp only[V2,Vai,or_false]at hd;rcases hd with rfl|rfl|rfl|rfl|rfl|rfl|rfl;·exact Yu (by unfold Xdm;decide+kernel) (by simp)
  ·exact Yu (by unfold Xdm;decide+kernel) (by simp)
  ·exact Yu (by unfold Xdm;decide+kernel) (by simp)
  ·exact Yu (by unfold Xdm;decide+kernel) (by simp)
  ·exact Yu (by unfold Xdm;decide+kernel) (by simp)
  ·exact Yu (by unfold Xdm;decide+kernel) (by simp)
  refine Yu (λx J=>?_) (by simp<;>omega);rcases Uf.mp J with J|J;·exact nl x J
  ·rw[Ue.mp J];decide
 have lq:Xc (L++[.lst (l.map D.int)]++[.lst (Yw l a L.length)]++[.lst (Xak l a od++Yw l a L.length)]) (ll L)=yz (l.map D.int):=X3 (X3 Xg);have l8:Xc (L++[.lst (l.map D.int)]++[.lst (Yw l a L.length)]++[.lst (Xak l a od++Yw l a L.length)]) (L++[O.lst (l.map D.int)]++[O.lst (Yw l a L.length)]).length=yz (Xak l a od++Yw l a L.length):=Xg;have x4:Ext p S (L++[.lst (l.map D.int)]++[.lst (Yw l a L.length)]++[.lst (Xak l a od++Yw l a L.length)]):=((x3.trans .app).trans .app).trans .app;have Y:(Xak l a od++Yw l a L.length).length=8:=rfl;have gp:p<(L++[O.lst (l.map D.int)]++[O.lst (Yw l a L.length)]++[O.lst (Xak l a od++Yw l a L.length)]).length:=by rw[V3,V3,V3];omega
 generalize Xak l a od++Yw l a (ll L)=ac at s4 kq l8 lq x4 Y gp;generalize (L++[O.lst (l.map D.int)]++[O.lst (Yw l a L.length)]).length=r4 at s4 l8;generalize L++[O.lst (l.map D.int)]++[O.lst (Yw l a L.length)]++[O.lst ac]=S4 at s4 l8 lq x4 gp;have h7:=X7y (F:=F) (G:=G) (env:=[yz (.ref p),yz (Xa l),yz (.int a),yz od,yz (.ref r4)]) (S:=S4) (l:=l) rfl hl;have q7:Xc (S4++[O.lst (Xce l)]) (ll S4)=yz (Xce l):=Xg;have aj:=Xge (a:=r4) (b:=S4.length) (X3 (X:=[O.lst (Xce l)]) l8) q7 (by rw[Y];show 8+7<=1000;decide);refine⟨(S4++[O.lst (Xce l)]).length,ac++Xce l,S4++[.lst (Xce l)]++[.lst (ac++Xce l)],?_,Xg,by rw[V3,Y];rfl,λd hd=>?_,(x4.trans .app).trans .app,by rw[V3];omega⟩
 ·refine Ye (env:=[yz (.ref p),yz (Xa l),yy,yy,yy]) rfl rfl ?_;refine(Xb s1).trans ((Xb s2).trans ((Xb s3).trans ((Xb s4).trans (Xh ?_))));have ai:ev F G (.lst sp7) [yz (.ref p),yz (Xa l),yz (.int a),yz od,yz (.ref r4)] S4=.ok (.ref S4.length) (S4++[.lst (Xce l)]):=by
   rw[ev,h7,Rk0];exact iP0 (by show 7<=big;decide)
  rw[exe,ev];simp only[ev,gZ0,gS0,Rk0]at ai ⊢;rw[ai];simp only[Rk0,aj]
 ·rcases Uf.mp hd with hd|hd;·exact kq _ (X3 (X3 lq)) d hd
  ·exact k7 _ d hd
end Z
end
section
namespace K44
open PySem Z
noncomputable def cb1:Ex:=.and (.cmp .gt (.blt .len (.cons (.var 0) .nil)) (.cst (.int 1))) (.cmp .gt (.idx (.var 0) (.cst (.int 1))) (.bin .add (.var 1) (.cst (.int 1))))
noncomputable def cb2:Ex:=.blt .anb (.cons (.sli (.var 0) (.some (.bin .add (.var 2) (.cst (.int 1)))) .none) .nil)
noncomputable def bgX:Ex:=.call 16 (.cons (.var 4) (.cons (.var 2) .nil))
noncomputable def bgE:Ex:=.cmr yw 4 (.cons (.tup [2,3]) (.enm (.cons (.var 0) .nil)) .nil (.cons (.var 4) (.rng (.cons (.var 3) .nil)) .nil .nil)) bgX
noncomputable def Xyk:Df:=⟨3,3,.cons (.ite cb1 (.cons (.rse 5 (.cst (.str "a number would be greater than it may be"))) .nil) .nil) (.cons (.ite cb2 (.cons (.rse 5 (.cst (.str "a size would be greater than it may be"))) .nil) .nil) .nil)⟩
noncomputable def fc1:Ex:=.cmp .isnot (.call 11 (.cons (.var 0) .nil)) (.cst .non)
noncomputable def fc3:Ex:=.cmp .gt (.blt .smB (.cons (.var 0) .nil)) (.glb 5)
noncomputable def Xn8:Df:=⟨1,1,.cons (.ite fc1 (.cons (.rse 11 (.cst (.str "no crowd has such counts"))) .nil) .nil) (.cons (.expr (.call 14 (.cons (.var 0) (.cons (.glb 3) (.cons (.glb 4) .nil)))))
 (.cons (.ite fc3 (.cons (.rse 5 (.cst (.str "the crowd would have more than two hundred bags"))) .nil) .nil) (.cons (.ret (.blt .tuple (.cons (.blt .srt (.cons bgE .nil)) .nil))) .nil)))⟩
noncomputable def lc1:Ex:=.cmp .ne (.cmr yw 2 (.cons (.var 5) (.val (.sli (.var 0) (.some (.cst (.int 7))) .none)) (.cons (.cmp .gt (.var 5) (.cst (.int 0))) .nil) .nil) (.var 5)) (.lst .nil)
noncomputable def lc2:Ex:=.cmp .gt (.sli (.var 0) (.some (.cst (.int 1))) (.some (.cst (.int 2)))) (.tup (.cons (.cst (.int 16)) .nil))
noncomputable def lc3:Ex:=.cmp .gt (.blt .smB (.cons (.var 0) .nil)) (.cst (.int 200))
noncomputable def lfB:Sts:=.cons (.expr (.mth .xtd (.var 1) (.cons (.call 26 (.cons (.var 3) (.cons (.var 2) (.cons (.cst (.int 1)) .nil)))) .nil))) .nil
noncomputable def Xn9:Df:=⟨1,4,.cons (.ite (.not (.call 28 (.cons (.var 0) .nil))) (.cons (.ret (.cst (.str "row"))) .nil) .nil) (.cons (.ite (.cmp .isnot (.call 27 (.cons (.var 0) (.cons (.cst (.int 2)) .nil))) (.cst .non)) (.cons (.ret (.cst (.str "way"))) .nil) .nil)
 (.cons (.ite (.or lc1 (.or lc2 lc3)) (.cons (.ret (.cst (.str "many"))) .nil) .nil) (.cons (.asg (.var 1) (.lst .nil)) (.cons (.for (.tup [2,3]) (.enm (.cons (.var 0) .nil)) lfB) (.cons (.ret (.blt .tuple (.cons (.blt .srt (.cons (.var 1) .nil)) .nil))) .nil)))))⟩
noncomputable def Xr2:Df:=⟨1,2,.cons (.try (.cons (.ret (.call 13 (.cons (.var 0) .nil))) .nil) 0 1 (.cons (.ret (.call 21 (.cons (.var 1) .nil))) .nil)) .nil⟩
noncomputable def no:Sts:=.cons (.ret (.cst (.bl yw))) .nil
noncomputable def lpC:Ex:=.or (.cmp .ne (.blt .repr (.cons (.call 32 (.cons (.var 5) .nil)) .nil)) (.blt .repr (.cons (.var 7) .nil))) (.cmp .ne (.blt .repr (.cons (.var 5) .nil)) (.var 6))
noncomputable def lpB:Sts:=.cons (.ite lpC no .nil) .nil
noncomputable def Xlw:Sts:=.cons (.asg (.var 6) (.blt .repr (.cons (.var 5) .nil))) (.cons (.asg (.var 7) (.call 31 (.cons (.var 5) .nil))) (.cons (.for (.var 8) (.rng (.cons (.cst (.int 2)) .nil)) lpB) .nil))
noncomputable def frC:Ex:=.cmp .ne (.blt .repr (.cons (.call 32 (.cons (.var 2) .nil)) .nil)) (.blt .repr (.cons (.call 31 (.cons (.var 2) .nil)) .nil))
noncomputable def Xr3:Sts:=.cons (.ite frC no .nil) .nil
noncomputable def exI:LI->Exs
 |[]=>.nil|n::r=>.cons (.cst (.int n)) (exI r)
noncomputable def ex7:Exs:=.cons (.tup (exI [1])) (.cons (.tup (exI [1,16])) (.cons (.tup (exI [1,17])) (.cons (.tup (exI [1,16,136])) (.cons (.tup (exI [1,16,136,47])) (.cons (.tup (exI [1,16,136,48])) (.cons (.tup (exI [1,2,3,4,5,6,7])) .nil))))))
noncomputable def ex4:Exs:=.cons (.tup (exI [1,2,3,4,5,6,7,8])) (.cons (.tup (.cons i1E (.cons Xc4 (.cons Xc4 .nil)))) (.cons (.tup (exI [1,1,1,1,1,1,1,0])) (.cons (.bin .mul (.tup (exI [1])) (.cst (.int 8))) .nil)))
noncomputable def ptE:Exs:=exI [1,2,3,5,16]
noncomputable def L1:St:=.asg (.var 4) (.call 18 (.cons (.call 17 (.cons (.var 0) (.cons (.var 3) .nil))) .nil))
noncomputable def L2:St:=.asg (.var 2) (.call 30 (.cons (.var 4) (.cons (.cst (.int 2)) (.cons (.idx (.lst ptE) (.call 19 (.cons (.var 4) (.cons (.cst (.int 5)) .nil)))) (.cons (.cst (.int 5)) .nil)))))
noncomputable def thE:Ex:=.bin .add (.lst (.cons (.var 2) .nil)) (.call 29 (.cons (.var 4) (.cons (.var 2) .nil)))
noncomputable def L3:St:=.for (.var 5) (.val thE) Xlw
noncomputable def Xlx:Sts:=.cons L1 (.cons L2 (.cons L3 .nil))
noncomputable def Ybi:Df:=⟨1,9,.cons (.asg (.var 1) (.lst ex7)) (.cons (.asg (.var 1) (.bin .add (.var 1) (.lst ex4))) (.cons (.for (.var 2) (.val (.var 1)) Xr3)
 (.cons (.for (.var 3) (.rng (.cons (.blt .max (.cons (.cst (.int 1)) (.cons (.blt .min (.cons (.blt .len (.cons (.var 0) .nil)) (.cons (.cst (.int 4)) .nil))) .nil))) .nil)) Xlx) (.cons (.ret (.cst (.bl yx))) .nil))))⟩
end K44
end
section
namespace K44
open PySem PySem.Spec PyProof.Rows L2 Z
noncomputable def top(i:Nat):Stmt:=PySem.Challenge.pw_facecounts_k44_first_crowds.main.body.getD i (.Pass ⟨0,0,0,0⟩)
noncomputable def gns:LS:=["GREATEST_NUMBER","MOST_CHOSEN","GREATEST_WIDTH","GREATEST_IN_BAG","GREATEST_BAG","MOST_BAGS","bags_above"]
noncomputable def G:LD:=[.int 1000000000000,.int 12,.int 11,.int 15,.int 6,.int 200,.fn 4 "bags_above"]
noncomputable def fns:LF:=([("is_whole",1,yx),("is_whole_within",3,yx),("is_whole_tuple",1,yx),("writing",2,yx),("bags_above",2,yx),("check_written",2,yx),("ways",2,yx),("most_things",2,yx),("written_parts",2,yx),("is_row",1,yx),("check_row",1,yx),("not_of_crowd",1,yx),("first_beyond",2,yx),("first_crowd",1,yx),("check_bounds",3,yx),("face_at",2,yx),("bag_at",2,yx),("_law_cell_at",2,yx),("_law_pot",1,yx),("_law_take",2,yx)]:LF)++([("_law_whole",1,yx),("_law_word",1,yw),("_law_ways",2,yx),("_law_writing",2,yx),("_law_next_by",3,yx),("_law_choices",3,yx),("_law_first_ones",3,yx),("_law_first_not",2,yx),("_law_is_row",1,yx),("_law_spoilt_rows",2,yx),("_law_drawn_row",4,yx),("_law_first_crowd",1,yx),("_law_said",1,yx),("law",1,yx)]:LF)
noncomputable abbrev Xil:Df:=Xc0
noncomputable def Xr4:LS:=["thing"]
noncomputable abbrev Xcf:Df:=Xga 0
noncomputable def Xgp:LS:=["thing","low","high"]
noncomputable abbrev Xc5:Df:=Xei 0
noncomputable def Xhl:LS:=["thing"]
noncomputable abbrev Xk3:Df:=Xic 5 7 6
noncomputable def Xvb:LS:=["number","size","told","rest","chosen","things"]
noncomputable abbrev Xfe:Df:=Xlr 8 (.call 6 (.cons (.bin .add (.var 3) (.cst (.int 1))) (.cons (.bin .add (.var 4) (.cst (.int 1))) .nil)))
noncomputable def Xoa:LS:=["number","size"]
noncomputable abbrev Xde:Df:=Xlq 1 "a number from 0 to 10 ** 12 is due" "a size from 1 to 12 is due"
noncomputable def Xim:LS:=["number","size"]
noncomputable abbrev Xvc:Df:=Xgc
noncomputable def X71:LS:=["things","number","told","at"]
noncomputable abbrev Xen:Df:=Xib 6
noncomputable def Xk8:LS:=["number","chosen","low","high","middle"]
noncomputable abbrev Xdf:Df:=Xgg 3
noncomputable def Xin:LS:=["number","size"]
noncomputable abbrev Xob:Df:=Xh8 2 2
noncomputable def Xyl:LS:=["thing"]
noncomputable abbrev Xgw:Df:=Xhe 9
noncomputable def Xor:LS:=["thing"]
noncomputable abbrev Xd2:Df:=Xfd 10 12 6
noncomputable def Xjw:LS:=["row"]
noncomputable abbrev Xd3:Df:=dFirst
noncomputable def Xjx:LS:=["row","above","place"]
noncomputable abbrev X5:Df:=Xn8
noncomputable def Xk9:LS:=["row"]
noncomputable abbrev X6:Df:=Xyk
noncomputable def Xjy:LS:=["row","greatest","size"]
noncomputable abbrev Xk4:Df:=Xlt 7 6
noncomputable def Xvd:LS:=["place","size","told","rest","chosen","number"]
noncomputable abbrev Xoc:Df:=Xyb 15
noncomputable def Xym:LS:=["place","size"]
noncomputable abbrev Xd4:Df:=Xln
noncomputable def Xjz:LS:=["_law_script","_law_k"]
noncomputable abbrev Xio:Df:=Xjn
noncomputable def Xr5:LS:=["_law_cell","_law_number","_law_j","_law_more"]
noncomputable abbrev Xgx:Df:=Xh4
noncomputable def Xos:LS:=["_law_pot_here","_law_far","_law_found"]
noncomputable abbrev Xff:Df:=Xc0
noncomputable def Xod:LS:=["_law_found"]
noncomputable abbrev Xgy:Df:=Xh6
noncomputable def Xot:LS:=["_law_e","_law_some","_law_words"]
noncomputable abbrev Xgz:Df:=Xb7
noncomputable def Xou:LS:=["_law_things","_law_number","_law_at","_law_top","_law_bottom"]
noncomputable abbrev Xd5:Df:=Xie 22
noncomputable def Xj0:LS:=["_law_number","_law_size","_law_found","_law_left","_law_at","_law_low","_law_high","_law_middle"]
noncomputable abbrev Xd6:Df:=Xig 22 23
noncomputable def Xj1:LS:=["_law_kind","_law_number","_law_size","_law_some"]
noncomputable abbrev Xd7:Df:=Xlu
noncomputable def Xj2:LS:=["_law_far","_law_size","_law_again","_law_found","_law_turn","_law_longer","_law_one","_law_least"]
noncomputable abbrev Xcg:Df:=Xlv 22 25
noncomputable def Xgq:LS:=["_law_many","_law_size","_law_again","_law_far","_law_first_ones.<locals>.<lambda>"]
noncomputable abbrev Xc6:Df:=Xii 24
noncomputable def Xhm:LS:=["_law_row","_law_kind","_law_place","_law_number"]
noncomputable abbrev Xeo:Df:=Xn0 20
noncomputable def Xla:LS:=["_law_thing"]
noncomputable abbrev Xb8:Df:=Xn6 19
noncomputable def Xfg:LS:=["_law_pot_here","_law_row","_law_at","_law_odd","_law_some"]
noncomputable abbrev Xc7:Df:=Xr1 19 24
noncomputable def Xhn:LS:=["_law_pot_here","_law_kind","_law_points","_law_most","_law_row","_law_place","_law_far"]
noncomputable abbrev Xn:Df:=Xn9
noncomputable def Xfh:LS:=["_law_row","_law_found","_law_size","_law_many"]
noncomputable abbrev Xad:Df:=Xr2
noncomputable def Xov:LS:=["_law_row","_law_e"]
noncomputable abbrev Xly:Df:=Ybi
noncomputable def Xzp:LS:=["_law_script","_law_some","_law_row","_law_k","_law_pot_here","_law_thing","_law_kept","_law_due","_law_lap"]
noncomputable def T:List Df:=[Xil,Xcf,Xc5,Xk3,Xfe,Xde,Xvc,Xen,Xdf,Xob,Xgw,Xd2,Xd3,X5,X6,Xk4,Xoc,Xd4,Xio,Xgx,Xff,Xgy,Xgz,Xd5,Xd6,Xd7,Xcg,Xc6,Xeo,Xb8,Xc7,Xn,Xad,Xly]
abbrev MS(p:Nat)(N:LS)(fl:Bool)(d:Df):Prop:=Z.MD fns gns (top p) N fl d
theorem Xr6:MS 19 Xr4 yx Xil:=by decide+kernel
theorem Xgr:MS 20 Xgp yx Xcf:=by decide+kernel
theorem Xho:MS 21 Xhl yx Xc5:=by decide+kernel
theorem Xve:MS 25 Xvb yx Xk3:=by decide+kernel
theorem Xoe:MS 26 Xoa yx Xfe:=by decide+kernel
theorem Xip:MS 27 Xim yx Xde:=by decide+kernel
theorem X72:MS 28 X71 yx Xvc:=by decide+kernel
theorem Xlb:MS 29 Xk8 yx Xen:=by decide+kernel
theorem Xiq:MS 30 Xin yx Xdf:=by decide+kernel
theorem Xyn:MS 33 Xyl yx Xob:=by decide+kernel
theorem Xow:MS 34 Xor yx Xgw:=by decide+kernel
theorem Xj3:MS 39 Xjw yx Xd2:=by decide+kernel
theorem Xj4:MS 40 Xjx yx Xd3:=by decide+kernel
theorem Xlc:MS 42 Xk9 yx X5:=by decide+kernel
theorem Xj5:MS 43 Xjy yx X6:=by decide+kernel
theorem Xvf:MS 44 Xvd yx Xk4:=by decide+kernel
theorem Xyo:MS 45 Xym yx Xoc:=by decide+kernel
theorem Xj6:MS 47 Xjz yx Xd4:=by decide+kernel
theorem Xr7:MS 48 Xr5 yx Xio:=by decide+kernel
theorem Xox:MS 49 Xos yx Xgx:=by decide+kernel
theorem Xof:MS 50 Xod yx Xff:=by decide+kernel
theorem Xoy:MS 51 Xot yw Xgy:=by decide+kernel
theorem Xoz:MS 52 Xou yx Xgz:=by decide+kernel
theorem Xj7:MS 53 Xj0 yx Xd5:=by decide+kernel
theorem Xj8:MS 54 Xj1 yx Xd6:=by decide+kernel
theorem Xj9:MS 55 Xj2 yx Xd7:=by decide+kernel
theorem Xgs:MS 56 Xgq yx Xcg:=by decide+kernel
theorem Xhp:MS 57 Xhm yx Xc6:=by decide+kernel
theorem Xld:MS 58 Xla yx Xeo:=by decide+kernel
theorem Xfi:MS 59 Xfg yx Xb8:=by decide+kernel
theorem Xhq:MS 60 Xhn yx Xc7:=by decide+kernel
theorem Xfj:MS 61 Xfh yx Xn:=by decide+kernel
theorem Xo0:MS 62 Xov yx Xad:=by decide+kernel
theorem Xr8:MS 63 Xzp yx Xly:=by decide+kernel
end K44
end
section
namespace K44
open PySem Z
theorem t0:T[0]?=yz Xc0:=rfl
theorem t1:T[1]?=yz (Xga 0):=rfl
theorem t2:T[2]?=yz (Xei 0):=rfl
theorem t3:T[3]?=yz (Xic 5 7 6):=rfl
theorem t4:T[4]?=yz (Xlr 8 (.call 6 (.cons (.bin .add (.var 3) (.cst (.int 1))) (.cons (.bin .add (.var 4) (.cst (.int 1))) .nil)))):=rfl
theorem t5:T[5]?=yz (Xlq 1 "a number from 0 to 10 ** 12 is due" "a size from 1 to 12 is due"):=rfl
theorem t6:T[6]?=yz Xgc:=rfl
theorem t7:T[7]?=yz (Xib 6):=rfl
theorem t8:T[8]?=yz (Xgg 3):=rfl
theorem t9:T[9]?=yz (Xh8 2 2):=rfl
theorem t10:T[10]?=yz (Xhe 9):=rfl
theorem t11:T[11]?=yz (Xfd 10 12 6):=rfl
theorem t12:T[12]?=yz dFirst:=rfl
theorem t15:T[15]?=yz (Xlt 7 6):=rfl
theorem t16:T[16]?=yz (Xyb 15):=rfl
theorem t19:T[19]?=yz Xh4:=rfl
theorem t20:T[20]?=yz Xc0:=rfl
theorem t21:T[21]?=yz Xh6:=rfl
theorem t22:T[22]?=yz Xb7:=rfl
theorem t23:T[23]?=yz (Xie 22):=rfl
theorem t24:T[24]?=yz (Xig 22 23):=rfl
theorem t25:T[25]?=yz Xlu:=rfl
theorem t26:T[26]?=yz (Xlv 22 25):=rfl
theorem t27:T[27]?=yz (Xii 24):=rfl
theorem t28:T[28]?=yz (Xn0 20):=rfl
theorem g0:G[0]?=yz (.int 1000000000000):=rfl
theorem g1:G[1]?=yz (.int 12):=rfl
theorem g2:G[2]?=yz (.int 11):=rfl
theorem ftx{k f:Nat}{d:Df}{ds:LD}{S:Sto}(h:T[f]?=yz d):FT T G (k+1) f ds S=den (FT T G k) G d ds S:=by simp only[FT,h]
theorem whole(k:Nat):Xdy (FT T G (k+1)) 0:=Xkz t0 k
theorem Xvg(k:Nat)(d:D)(lo hi:Int)(S:Sto)(h:good S d):FT T G (k+2) 1 [d,.int lo,.int hi] S=.ok (.bl (wi d lo hi)) S:=by rw[ftx t1];exact Xrq (whole k d S h)
theorem X73(k n s:Nat)(S:Sto)(L:n<=1000000000000)(J:1<=s)(hs:s<=12):FT T G (k+3) 5 [.int n,.int s] S=.ok .non S:=by have h1:=Xvg k (.int n) 0 1000000000000 S (Xhb S n);have h2:=Xvg k (.int s) 1 12 S (Xhb S s);rw[X64 (by omega) (by omega)]at h1 h2;rw[ftx t5];exact X2k g0 g1 h1 h2
theorem X21(k n s:Nat)(S:Sto)(L:n<=1000000000000)(J:1<=s)(hs:s<=12):∃w,FT T G (k+4) 3 [.int n,.int s] S=.ok (Xa w) (S++[.lst (w.map D.int)])/\Wr s n w:=by rw[ftx t3];exact Xxu (Xc3 t6 (k+2)) (Xnu t7 (Xc3 t6 (k+1))) (X73 k n s S L J hs) J hs L
theorem Yag(k:Nat):Xru (FT T G (k+6)) 4 gB 11:=by
 intro n s S Y h1 hs;obtain⟨w,e1,J⟩:=X21 k n s S Y h1 (by omega);have hl:=Xun J;have hb:=Xh9 J;have e2:FT T G (k+5) 8 [.int n,.int s] S=.ok (.ref (S++[O.lst (w.map D.int)]).length) (S++[.lst (w.map D.int)]++[.lst ((Vm w.length).map (Y7 w s))]):=by rw[ftx t8];exact Xrt e1 (by omega)
 obtain⟨X,e3⟩:=Xxz (G:=G) (g:=gB) e2 hl (by omega) (λx c a b d S L aa hc=>X94 (Xc3 t6 (k+4)) (by have:=(hb _ L).2;omega) (by omega)) λx L=>(hb x L).1;refine⟨[.lst (w.map D.int)]++X,?_⟩;rw[ftx t4,e3,Vt,Xuw gB J]
theorem next(k:Nat):Xgh (FT T G (k+3)) 24 2:=by
 intro n s S L h1 hs;have Y:Yn (FT T G (k+2)) 22:=(Xfa t22 (k+1)).ways;obtain⟨w,e1,J⟩:=Xuu (F:=FT T G (k+1)) (G:=G) (iw:=22) (n:=n) (s:=s) (S:=S) (Xfa t22 k).ways h1 (by omega) L;have e2:FT T G (k+2) 23 [.int n,.int s] S=.ok (Xa w) (S++[.lst (w.map D.int)]):=by rw[ftx t23];exact e1
 obtain⟨X,e3⟩:=Xx1 (G:=G) (il:=22) (kd:=2) Y e2 J L (by omega) (by omega);refine⟨[.lst (w.map D.int)]++X,?_⟩;rw[ftx t24,e3,Vt,Xuw (gK 2) J]
theorem Xvh(k:Nat){d:D}{S:Sto}(t:Thing S d):∃X,FT T G (k+3) 9 [d] S=.ok (.bl (isr d)) (S++X):=by obtain⟨X,h⟩:=Xum (G:=G) (Xxo t2 (k+1) (whole k)) g2 t;exact⟨X,by rw[ftx t9];exact h⟩
theorem Xvi(k:Nat){d:D}{S:Sto}(t:Thing S d)(h:isr d=yx):∃X,FT T G (k+4) 10 [d] S=.ok .non (S++X):=by obtain⟨X,e⟩:=Xvh k t;rw[h]at e;exact⟨X,by rw[ftx t10];exact X2b e⟩
theorem Xyp(k:Nat){d:D}{S:Sto}(t:Thing S d)(h:isr d=yw):∃X,FT T G (k+4) 10 [d] S=.ex (S++X).length (S++X++[.exc 7]):=by obtain⟨X,e⟩:=Xvh k t;rw[h]at e;exact⟨X,by rw[ftx t10];exact X7b e⟩
theorem X22(k:Nat){d:D}{S:Sto}(t:Thing S d):∃X,FT T G (k+2) 28 [d] S=.ok (.bl (isr d)) (S++X):=by obtain⟨X,h⟩:=Xuz (G:=G) (Xkz t20 k) t;exact⟨X,by rw[ftx t28];exact h⟩
theorem Xvj(k:Nat){l:LI}(hl:(ll l)<=12)(S:Sto):∃X,FT T G (k+4) 27 [Xa l,.int 2] S=.ok (Yb (gK 2) l) (S++X):=by obtain⟨X,h⟩:=Xx2 (G:=G) (S:=S) (next k) hl;exact⟨X,by rw[ftx t27];exact h⟩
theorem ask(k:Nat){l:LI}(h1:1<=ll l)(hl:(ll l)<=12){S:Sto}(t:Thing S (Xa l)):∃X,FT T G (k+8) 11 [Xa l] S=.ok (Yb (gK 2) l) (S++X):=by
 obtain⟨X,J⟩:=Xvi (k+3) t (Xnq h1 hl);obtain⟨Y,h⟩:=Xuy (F:=FT T G (k+6)) (G:=G) (row:=l) (f:=4) (nm:="bags_above") (g:=gB) (S:=S++X) (Yag k) rfl g0 h1 hl;have e:FT T G (k+7) 12 [Xa l,.fn 4 "bags_above"] (S++X)=.ok (Yb gB l) (S++X++Y):=by rw[ftx t12];exact h
 exact⟨X++Y,by rw[ftx t11,<-Vt];exact Xx3 J rfl e⟩
theorem X74(k:Nat){d:D}{S:Sto}(t:Thing S d)(h:isr d=yw):∃X,FT T G (k+8) 11 [d] S=.ex (S++X).length (S++X++[.exc 7]):=by obtain⟨X,J⟩:=Xyp (k+3) t h;exact⟨X,by rw[ftx t11];exact Xx4 J⟩
theorem Ybj(k n s:Nat)(S:Sto)(hs:s<=12)(J:n<=1000000000000):∃y X,FT T G (k+3) 15 [.int n,.int s] S=.ok (Xa y) (S++X)/\Xbq 0 s n y:=by rw[ftx t15];exact Xya (Xc3 t6 (k+1)) (Xnu t7 (Xc3 t6 k)) hs J S
theorem bag(k n s:Nat)(S:Sto)(hs:s<=12)(J:n<=1000000000000):∃y X,FT T G (k+4) 16 [.int n,.int s] S=.ok (Xa y) (S++X)/\Xbq 1 s n y:=by obtain⟨y,X,h1,h2⟩:=Ybj k n s S hs J;refine⟨Xbx y,X++[.lst ((Xbx y).map D.int)],?_,Xqe h2⟩;rw[ftx t16,<-Vt];exact X2x h1 (by rw[Xjv h2];exact hs)
section
variable{F:Fn}{a b:Ex}{env:En}{S S1:Sto}
theorem X75(h:ev F G a env S=.ok (.bl yw) S1):ev F G (.or a b) env S=ev F G b env S1:=by rw[ev,h,Rk0];simp only[Xf]
theorem X76(h:ev F G a env S=.ok (.bl yx) S1):ev F G (.or a b) env S=.ok (.bl yx) S1:=by rw[ev,h,Rk0];simp only[Xf]
theorem Yah(h:ev F G a env S=.ok (.bl yx) S1):ev F G (.and a b) env S=ev F G b env S1:=by rw[ev,h,Rk0];simp only[Xf]
theorem Yai(h:ev F G a env S=.ok (.bl yw) S1):ev F G (.and a b) env S=.ok (.bl yw) S1:=by rw[ev,h,Rk0];simp only[Xf]
theorem Xka(i j:Int)(S:Sto):Xi .gt (.int i) (.int j) S=.ok (.bl (decide (j<i))) S:=rfl
theorem Xog(l:LI)(S:Sto):Xm .smB [Xa l] S=.ok (.int l.sum) S:=by unfold Xa;simp only[Xm,Xq,V5,Xcw]
theorem Xyq(l:LI)(S:Sto):Xm .anb [Xa l] S=.ok (.bl (l.any (· != 0))) S:=by unfold Xa;simp only[Xm,Xcw]
variable{l:LI}
theorem Xvk(S:Sto):ev F G cb1 [yz (Xa l),yz (.int 15),yz (.int 6)] S=.ok (.bl (tb1 l)) S:=by
 have h1:ev F G (.cmp .gt (.blt .len (.cons (.var 0) .nil)) (.cst (.int 1))) [yz (Xa l),yz (.int 15),yz (.int 6)] S=.ok (.bl (decide (1<ll l))) S:=by have e:decide ((1:Int)<(l.length:Int))=decide (1<ll l):=decide_eq_decide.mpr (by omega);simp only[ev,evs,gZ0,Rk0,Xju,Xka,e]
 unfold cb1 tb1;by_cases c:1<ll l;·rw[decide_eq_true c]at h1 ⊢;have hi:=Xbw (p:=1) c S;rw[Yah h1,Vdv];simp only[ev,gZ0,gS0,Rk0,Xx];rw[show Xah (Xa l) (.int 1) S=.ok (.int (l.getD 1 0)) S from hi];simp only[Rk0,Xka];rfl
 ·rw[decide_eq_false c]at h1 ⊢;rw[Yai h1,Vc8]
theorem Xvl(S:Sto):ev F G cb2 [yz (Xa l),yz (.int 15),yz (.int 6)] S=.ok (.bl (tb2 l)) S:=by have hs:=Xb6 l 7 S;unfold cb2 tb2;simp only[ev,evs,evo,gZ0,gS0,Rk0,Xx,Xai];rw[show Xaj (Xa l) (yz (6+1)) yy S=.ok (Xa (l.drop 7)) S from hs];simp only[Rk0,Xyq]
theorem Xfk(S:Sto)(h:(tb1 l||tb2 l)=yx):den F G X6 [Xa l,.int 15,.int 6] S=.ex (ll S) (S++[.exc 5]):=by
 unfold X6 Xyk;simp only[den,Ud,if_true,Uj,Vg,U0,Vv];have h1:=Xvk (F:=F) (l:=l) S;have h2:=Xvl (F:=F) (l:=l) S;cases c:tb1 l with
 |true=>rw[c]at h1;rw[Xa5 (Xb5 h1)]|false=>rw[c,Vfd]at h;rw[c]at h1;rw[h]at h2;rw[Xb (Xy h1),Xa5 (Xb5 h2)]
theorem Xdg(S:Sto)(h:(tb1 l||tb2 l)=yw):den F G X6 [Xa l,.int 15,.int 6] S=.ok .non S:=by unfold X6 Xyk;simp only[den,Ud,if_true,Uj,Vg,U0,Vv];have h1:=Xvk (F:=F) (l:=l) S;have h2:=Xvl (F:=F) (l:=l) S;rw[Vdz]at h;rw[h.1]at h1;rw[h.2]at h2;rw[Xb (Xy h1),Xb (Xy h2),pd]
def Xyr(F:Fn):Prop:=∀(n s:Nat) (S:Sto),s<=12->n<=1000000000000->∃y X,F 16 [.int n,.int s] S=.ok (Xa y) (S++X)/\Xbq 1 s n y
noncomputable def bgI(F:Fn):En->LD->Sto->R (LD):=Yg (λenv S=>evts F G .nil env S) (λenv J S=>(ev F G bgX env S).bind λy S=>if (ll J)<big then .ok (J++[y]) S else .bad)
noncomputable def bw1(J:Nat->LI)(d:D):LD:=match d with
 |.int i=>[Xa (J i.toNat)]|_=>[]
theorem X23(J:Nat->LI)(m:Nat):(((Vm m).map λ(i:Nat)=>D.int i).map (bw1 J)).flatten=((Vm m).map J).map Xa:=by
 induction Vm m with
 |nil=>rfl|cons i l ih=>rw[U6,U6,Vau,ih];rfl
theorem Yaj(hb:Xyr F){A:Option D}{s m:Nat}{acc:LD}{xs:LD}(hs:s<=12)(hm:m<=200)(hx:Ys [.int m]=yz xs)(hl:(ll acc)<=5000)(S:Sto)(h0:s=0->m<=1):
  ∃X,X9 (Src.con xs).get (.var 4) (bgI F) (ll xs+1) 0 [A,yy,yz (.int s),yz (.int m),yy] acc S=.ok (acc++((fon 1 s 500).take m).map Xa) (S++X):=by
 have xl:(ll xs)=m:=by obtain⟨ys,h1,h2⟩:=Xal (m:=(m:Int)) (by omega) (by omega);rw[hx]at h1;cases h1;omega
 have hB:∀i,i<m->∃y,Xbq 1 s i y:=λi hi=>by obtain⟨y,_,_,h⟩:=hb i s [] hs (by omega);exact⟨y,h⟩
 have hC:m<=C (500+1*(s-1)) s:=by
  by_cases c:s=0;·subst c;rw[Y1];exact h0 rfl
  ·have:=Yae (s:=s) (by omega) hs;omega
 obtain⟨J,L⟩:∃J:Nat->LI,∀i,i<m->Xbq 1 s i (J i):=⟨λi=>if h:i<m then (hB i h).choose else [],λi hi=>by dsimp only;rw[dif_pos hi];exact(hB i hi).choose_spec⟩;have ft:=Xx6 (f:=500) (Vf 1) L hC;have uq:∀i y,i<m->Xbq 1 s i y->y=J i:=λi y hi h=>by have e1:=Xgm (f:=500) (Vf 1) h (by omega);have e2:=Xgm (f:=500) (Vf 1) (L i hi) (by omega);rw[e1]at e2;exact Uw e2
 obtain⟨X,a⟩:=X2t (S:=S) (xs:=xs) (t:=.var 4) (body:=bgI F) (bw1 J) acc (λe=>∃x,e=[A,yy,yz (.int s),yz (.int m),x])
  (λi d e X hd he=>by
   obtain⟨x,rfl⟩:=he;obtain⟨rfl,hi⟩:=Xbf hx hd;have aa:i<m:=by have:=(Vd.mp hd).1;omega
   obtain⟨y,Y,h1,h2⟩:=hb i s (S++X) hs (by omega);have:=uq i y aa h2;subst this;refine⟨[A,yy,yz (.int s),yz (.int m),yz (.int i)],X++Y,rfl,⟨_,rfl⟩,?_⟩;have hq:ev F G bgX [A,yy,yz (.int s),yz (.int m),yz (.int i)] (S++X)=.ok (Xa (J i)) (S++X++Y):=by simp only[bgX,ev,evs,gZ0,gS0,Rk0,h1]
   have ab:(acc++((xs.take i).map (bw1 J)).flatten).length<big:=by have:=Xry (w:=bw1 J) (λd=>by cases d<;>simp[bw1]) (xs.take i);rw[Vaa]at this;rw[V3];exact V8 (show _<6000 by omega) (by decide)
   simp only[bgI,Yg,evts,Rk0,if_true,hq,ab,Vt,bw1,Van])
  (ll xs+1) 0 [A,yy,yz (.int s),yz (.int m),yy] [] ⟨yy,rfl⟩ (Um _) (by omega)
 rw[Vf7,Vcp,List.flatten_nil,Vv,Vv]at a;refine⟨X,?_⟩;have ex:xs=(Vm m).map λ(i:Nat)=>D.int i:=by refine List.ext_getElem (by simp[xl]) λi h1 h2=>?_;obtain⟨e,_⟩:=Xbf hx (Uh h1);rw[e];simp
 rw[a,ft,ex,X23]
end
theorem Xkb{w:D->LD}{B:Nat}:∀l:LD,(∀d∈l,(w d).length<=B)->((l.map w).flatten).length<=ll l*B
 |[],_=>by simp|d::l,h=>by have ih:=Xkb l λx J=>h x (Uv _ J);have:=h d U3;rw[U6,Vau,V3,U4,Vgt];omega
noncomputable def prs(l:LI):LD:=(Vm l.length).map λ(i:Nat)=>D.tup [.int (i:Int),.int (l.getD i 0)]
noncomputable def bw(d:D):LD:=match d with
 |.tup [.int i,.int m]=>((fon 1 i.toNat 500).take m.toNat).map Xa|_=>[]
theorem Xlz(i:Nat)(m:Int):bw (.tup [.int i,.int m])=((fon 1 i 500).take m.toNat).map Xa:=by simp only[bw,Van]
theorem Xvm(l:LI):((prs l).map bw).flatten=(bgs l).map Xa:=by unfold prs bgs;rw[Vam,List.map_flatMap,List.flatMap_def];exact congrArg List.flatten (Vd8 λi _=>Xlz i _)
theorem Xzq{l:LI}(c:Crw l){d:D}(h:d∈prs l):(bw d).length<=200:=by obtain⟨i,_,rfl⟩:=U5.mp h;rw[Xlz,Vl,Vaa];have:=c.le i;omega
theorem Xqi(l:LI)(S:Sto)(i:Nat):(Src.enm (.con (l.map D.int))).get S i=yz (prs l)[i]?:=by
 rw[Xid];unfold prs;congr 1;simp only[V6,Vg3];by_cases q:i<ll l;·simp[q,Vf0]
 ·simp[q]
section
variable{F:Fn}{l:LI}
theorem X77(hb:Xyr F)(c:Crw l)(S:Sto):∃X,ev F G bgE [yz (Xa l)] S=.ok (.ref (S++X).length) (S++X++[.lst ((bgs l).map Xa)]):=by
 have ae:evit F G (.enm (.cons (.var 0) .nil)) [yz (Xa l)] S=.ok (.enm (.con (l.map D.int))) S:=by simp only[evit,evs,ev,gZ0,Rk0,Xa,Yo]
 have pl:(prs l).length=ll l:=by unfold prs;rw[Vl,Uo]
 obtain⟨X,a⟩:=Xgj (S:=S) (xs:=prs l) (t:=.tup [2,3]) (get:=(Src.enm (.con (l.map D.int))).get) (body:=Yg (λenv S=>evts F G .nil env S) (λenv J S=>if Xev (.var 4) env then (evit F G (.rng (.cons (.var 3) .nil)) env S).bind λaa S=>
   X9 (aa.get) (.var 4) (bgI F) (aa.most S+1) 0 env J S else .bad)) bw [] (λe=>∃x y,e=[yz (Xa l),yy,x,y,yy]) (λX i=>Xqi l _ i)
  (λi d e X hd he=>by
   obtain⟨x,y,rfl⟩:=he;have hi:i<ll l:=by have:=(Vd.mp hd).1;omega
   have af:d=.tup [.int (i:Int),.int (l.getD i 0)]:=by unfold prs at hd;rw[V6,Vag hi,V7,Vq]at hd;exact hd.symm
   have fl:((((prs l).take i).map bw).flatten).length<=2400:=by have:=Xkb (w:=bw) ((prs l).take i) λd hd=>Xzq c (Vaq hd);rw[Vaa]at this;have:=c.l2;omega
   generalize (((prs l).take i).map bw).flatten=J at fl ⊢;subst af;obtain⟨m,hm⟩:∃m:Nat,l.getD i 0=(m:Int):=⟨(l.getD i 0).toNat,by have:=c.nn i;omega⟩;have m2:m<=200:=by have:=c.le i;omega
   obtain⟨xs,h1,h2⟩:=Xal (m:=(m:Int)) (by omega) (by omega);obtain⟨Y,q⟩:=Yaj (F:=F) hb (A:=yz (Xa l)) (s:=i) (m:=m) (acc:=[]++J) (xs:=xs) (by have:=c.l2;omega) m2 h1 (by rw[Uz];omega) (S++X) (λz=>by subst z;have:=c.one;omega);refine⟨[yz (Xa l),yy,yz (.int i),yz (.int (l.getD i 0)),yy],X++Y,rfl,⟨_,_,rfl⟩,?_⟩;have ab:evit F G (.rng (.cons (.var 3) .nil)) [yz (Xa l),yy,yz (.int i),yz (.int (l.getD i 0)),yy] (S++X)=.ok (.con xs) (S++X):=Xnl (ds:=[.int m]) (by simp only[evs,ev,gZ0,gS0,Rk0,hm]) h1
   have ac:Xev (.var 4) [yz (Xa l),yy,yz (.int i),yz (.int (l.getD i 0)),yy]=true:=rfl;rw[Xlz];simp only[Yg,evts,Rk0,if_true,ac,ab,Src.most];rw[hm,q,Van];simp only[Vt])
  ((prs l).length+1) 0 [yz (Xa l),yy,yy,yy,yy] [] ⟨yy,yy,rfl⟩ (Um _) (by omega)
 rw[Vf7,Vcp,List.flatten_nil,Uz,Vv,Xvm,Uz]at a;refine⟨X,?_⟩;unfold bgE;rw[ev,ae];simp only[Rk0,Src.most];rw[pl]at a;have a':X9 (Src.enm (.con (l.map D.int))).get (.tup [2,3]) (Yg (λenv S=>evts F G .nil env S) (λenv J S=>if Xev (.var 4) env then (evit F G (.rng (.cons (.var 3) .nil)) env S).bind λaa S=>X9 (aa.get) (.var 4) (Yg (λenv S=>evts F G .nil env S) (λenv J S=>(ev F G bgX env S).bind λy S=>if (ll J)<big then .ok (J++[y]) S else .bad)) (aa.most S+1) 0 env J S else .bad)) ((l.map D.int).length+1) 0 ([yz (Xa l)]++Vg 4 yy) [] S=.ok ((bgs l).map Xa) (S++X):=by rw[Vl];exact a
 rw[a',Rk0];rfl
theorem Xfl(g:Nat->Nat->Nat)(l:LI):Yb g l=.non\/∃p:Nat,Yb g l=.int p:=by
 unfold Yb;split;·exact .inr ⟨_,rfl⟩
 ·exact .inl rfl
theorem Xqj{q:Nat}{S:Sto}(c:Crw l)(J:Xc S q=yz ((bgs l).map Xa)):Xm .srt [.ref q] S=.ok (.ref (ll S)) (S++[.lst ((Xab (bgs l)).map Xa)]):=by have:=Xqh c.l2 c.le;simp only[Xm,J,V5,Xqf,Xg3];rw[iP0 (by omega)];rfl
theorem Xoh{S S1:Sto}{d:D}(h:F 11 [Xa l] S=.ok d S1)(b:Bool)(hb:Xi .isnot d .non S1=.ok (.bl b) S1):ev F G fc1 [yz (Xa l)] S=.ok (.bl b) S1:=by simp only[fc1,ev,evs,gZ0,Rk0,h,hb]
theorem Xvn(S:Sto):ev F G fc3 [yz (Xa l)] S=.ok (.bl (tb3 l)) S:=by simp only[fc3,ev,evs,gZ0,Rk0,Xog];rfl
theorem Xvo{S S1:Sto}{p:Nat}(h:F 11 [Xa l] S=.ok (.int p) S1):den F G X5 [Xa l] S=.ex (ll S1) (S1++[.exc 11]):=by unfold X5 Xn8;simp only[den,Ud,if_true,Uj,Vg,U0,Vv];rw[Xa5 (Xb5 (Xoh h yx rfl))]
theorem Xvp{S S1:Sto}{d:D}{n:Nat}(h:F 11 [d] S=.ex n S1):den F G X5 [d] S=.ex n S1:=by unfold X5 Xn8;simp only[den,Ud,if_true,Uj,Vg,U0,Vv];rw[Xa5 (n:=n) (S1:=S1) (by simp only[exe,fc1,ev,evs,gZ0,Rk0,h,R.bind_ex])]
theorem Xr9{S S1:Sto}{r:R D}(h:F 14 [Xa l,.int 15,.int 6] S=r):ev F G (.call 14 (.cons (.var 0) (.cons (.glb 3) (.cons (.glb 4) .nil)))) [yz (Xa l)] S=r:=by simp only[ev,evs,gZ0,gS0,Rk0,G,h]
theorem Xsa{S S1:Sto}(h:F 11 [Xa l] S=.ok .non S1)(J:∀S,F 14 [Xa l,.int 15,.int 6] S=den F G X6 [Xa l,.int 15,.int 6] S)(hb:(tb1 l||tb2 l||tb3 l)=yx):den F G X5 [Xa l] S=.ex (ll S1) (S1++[.exc 5]):=by
 unfold X5 Xn8;simp only[den,Ud,if_true,Uj,Vg,U0,Vv];rw[Xb (Xy (Xoh h yw rfl))];cases c:tb1 l||tb2 l with
 |true=>rw[Xa5 (n:=ll S1) (S1:=S1++[.exc 5]) (by rw[exe,Xr9 (S1:=S1) ((J S1).trans (Xfk S1 c)),R.bind_ex])]|false=>rw[c,Vfd]at hb;have L:=Xvn (F:=F) (l:=l) S1;rw[hb]at L;rw[Xb (e:=[yz (Xa l)]) (S1:=S1) (by rw[exe,Xr9 (S1:=S1) ((J S1).trans (Xdg S1 c)),Rk0]),Xa5 (Xb5 L)]
theorem Xys{S S1:Sto}(J:Xyr F)(h:F 11 [Xa l] S=.ok .non S1)(L:∀S,F 14 [Xa l,.int 15,.int 6] S=den F G X6 [Xa l,.int 15,.int 6] S)(hb:(tb1 l||tb2 l||tb3 l)=yw)(c:Crw l):
  ∃X,den F G X5 [Xa l] S=.ok (Xhj (Xab (bgs l))) (S1++X):=by
 rw[Vdz]at hb;have Y:=Xvn (F:=F) (l:=l) S1;rw[hb.2]at Y;obtain⟨X,he⟩:=X77 J c S1;have hs:=Xqj c (S:=S1++X++[.lst ((bgs l).map Xa)]) Xg;refine⟨X++[.lst ((bgs l).map Xa)]++[.lst ((Xab (bgs l)).map Xa)],?_⟩;have l2:Xc (S1++X++[O.lst ((bgs l).map Xa)]++[O.lst ((Xab (bgs l)).map Xa)]) (S1++X++[O.lst ((bgs l).map Xa)]).length=yz ((Xab (bgs l)).map Xa):=Xg;unfold X5 Xn8;refine Ye (env:=[yz (Xa l)]) rfl rfl ?_;refine(Xb (Xy (Xoh h yw rfl))).trans ((Xb (e:=[yz (Xa l)]) (S1:=S1) (by rw[exe,Xr9 (S1:=S1) ((L S1).trans (Xdg S1 hb.1)),Rk0])).trans ((Xb (Xy Y)).trans (Xh ?_)));rw[exe,ev,evs,ev,evs,he,Rk0,evs,Rk0,Rk0,hs,Rk0,evs,Rk0,Rk0];simp only[Xm,Xq,l2,Rk0,Xhj,<-Vt]
end
theorem Xyt{x y:D}{b:Bool}{S:Sto}(h:Xi .eq x y S=.ok (.bl b) S):Xi .ne x y S=.ok (.bl (!b)) S:=by
 simp only[Xi,Xw]at h ⊢;cases e:eqD S x y with
 |none=>rw[e]at h;cases h|some c=>rw[e]at h;cases h;rfl
theorem Xyu(a b:LI)(S:Sto):Xi .gt (Xa a) (Xa b) S=.ok (.bl (ltL b a)) S:=by simp only[Xa,Xi,Xw,ltD,Xcw]
theorem X78{α:Type}:∀xs:List α,cut xs (yz 1) (yz 2)=(xs.drop 1).take 1
 |[]=>rfl|[x]=>rfl|x::y::r=>by unfold cut Xb9;simp only[U4];rw[iP0 (by decide),iP0 (by decide),show min ((1:Int).toNat) (ll r+1+1)=1 by omega,show min ((2:Int).toNat) (ll r+1+1)=2 by omega]
theorem X79:∀l:LI,ltL [16] ((l.drop 1).take 1)=tb1 l
 |[]=>rfl|[x]=>rfl|x::y::r=>by
  show ltL [16] [y]=_;unfold tb1;rw[ltL,decide_eq_true (show 1<(x::y::r).length by simp),Vdv];show _=decide (16<y);split;·rename_i c;rw[<-c];rfl
  ·rfl
theorem X8a{F:Fn}{es:Exs}{ds:LD}{env:En}{S S1:Sto}(h:evs F G es env S=.ok ds S1)(hl:(ll ds)<=100):ev F G (.tup es) env S=.ok (.tup ds) S1:=by rw[ev,h,Rk0];exact iP0 (Yx (by omega))
section
variable{F:Fn}{l:LI}
theorem X8b(hl:(ll l)<=12)(hn:∀s,0<=l.getD s 0)(S:Sto):∃X,ev F G lc1 [yz (Xa l),yy,yy,yy] S=.ok (.bl (tb2 l)) (S++X):=by
 have L:ev F G (.sli (.var 0) (.some (.cst (.int 7))) .none) [yz (Xa l),yy,yy,yy] S=.ok (Xa (l.drop 7)) S:=by have hs:=Xb6 l 7 S;simp only[ev,evo,gZ0,Rk0,Xai];exact hs
 obtain⟨X,J⟩:=X2u (F:=F) (G:=G) (S:=S) (n:=2) (t:=.var 5) (it:=.val (.sli (.var 0) (.some (.cst (.int 7))) .none)) (ifs:=.cons (.cmp .gt (.var 5) (.cst (.int 0))) .nil) (elt:=.var 5) (env:=[yz (Xa l),yy,yy,yy]) (src:=.con ((l.drop 7).map D.int)) (xs:=(l.drop 7).map D.int)
  (λd=>match d with|.int x=>decide (0<x)|_=>yw) id (λe=>∃x,e=[yz (Xa l),yy,yy,yy,yy,x])
  (Xub L) rfl (λX i=>rfl) (by rw[Vl,Vd2];exact Yx (by omega)) ⟨yy,rfl⟩
  (λd hd e X he=>by
   obtain⟨x,rfl⟩:=he;obtain⟨y,hy,rfl⟩:=U5.mp hd;refine⟨[yz (Xa l),yy,yy,yy,yy,yz (.int y)],X,rfl,⟨_,rfl⟩,?_,λ_=>⟨X,by simp only[ev,gZ0,gS0,id]⟩⟩
   rw[evts];simp only[ev,gZ0,gS0,Rk0,Xka,Xf];cases decide (0<y)<;>simp only[evts])
 have ef:(((l.drop 7).map D.int).filter (λd=>match d with|.int x=>decide (0<x)|_=>yw)).map id=((l.drop 7).filter λx=>decide (0<x)).map D.int:=by rw[List.map_id,List.filter_map];rfl
 rw[ef]at J;refine⟨X++[.lst (((l.drop 7).filter λx=>decide (0<x)).map D.int)]++[.lst []],?_⟩;have e1:=X2v (S:=S++X++[.lst (((l.drop 7).filter λx=>decide (0<x)).map D.int)]++[.lst []]) (p:=(S++X).length) (q:=(S++X++[O.lst (((l.drop 7).filter λx=>decide (0<x)).map D.int)]).length) (l:=(l.drop 7).filter λx=>decide (0<x)) (w:=[]) (X3 Xg) Xg;have Y:=Xyt e1;rw[X2z hn,Bool.not_not]at Y;unfold lc1;rw[ev,J,Rk0,ev,evs,Rk0];rw[iP0 (by decide),Rk0,Y];simp only[<-Vt]
theorem X8c(S:Sto):ev F G lc2 [yz (Xa l),yy,yy,yy] S=.ok (.bl (tb1 l)) S:=by
 have hs:Xaj (Xa l) (yz 1) (yz 2) S=.ok (Xa ((l.drop 1).take 1)) S:=by simp only[Xa,Xaj,X78,List.map_take,List.map_drop]
 have J:ev F G (.tup (.cons (.cst (.int 16)) .nil)) [yz (Xa l),yy,yy,yy] S=.ok (Xa [16]) S:=X8a (ds:=[.int 16]) (by simp only[evs,ev,Rk0]) (by simp);unfold lc2;rw[ev];simp only[ev,evo,gZ0,Rk0,Xai,hs]at J ⊢;rw[J,Rk0,Xyu,X79]
theorem X8d(S:Sto):ev F G lc3 [yz (Xa l),yy,yy,yy] S=.ok (.bl (tb3 l)) S:=by simp only[lc3,ev,evs,gZ0,Rk0,Xog];rfl
theorem Xzr(hl:(ll l)<=12)(Y:∀s,0<=l.getD s 0)(S:Sto):∃X,ev F G (.or lc1 (.or lc2 lc3)) [yz (Xa l),yy,yy,yy] S=.ok (.bl (tb1 l||tb2 l||tb3 l)) (S++X):=by
 obtain⟨X,h1⟩:=X8b (F:=F) hl Y S;have h2:=X8c (F:=F) (l:=l) (S++X);have h3:=X8d (F:=F) (l:=l) (S++X);refine⟨X,?_⟩;cases J:tb2 l with
 |true=>rw[J]at h1;rw[X76 h1];cases tb1 l<;>rfl|false=>
  rw[J]at h1;rw[X75 h1];cases L:tb1 l with
  |true=>rw[L]at h2;rw[X76 h2];rfl|false=>rw[L]at h2;rw[X75 h2,h3];rfl
def Xsb(F:Fn):Prop:=∀(s m:Nat) (S:Sto),s<=12->m<=200->(s=0->m<=1)->(7<=s->m=0)->∃S' q,F 26 [.int m,.int s,.int 1] S=.ok (.ref q) S'/\UpS S S'/\Xc S' q=yz (((fon 1 s 500).take m).map Xa)/\(ll S)<=q
end
theorem Xyv{F:Fn}(hw:LWaysF F 22)(J:ChF F 25)(s m:Nat)(S:Sto)(hs:s<=12)(hm:m<=200)(h0:s=0->m<=1)(h7:7<=s->m=0):∃S' q,den F G (Xlv 22 25) [.int m,.int s,.int 1] S=.ok (.ref q) S'/\UpS S S'/\Xc S' q=yz (((fon 1 s 500).take m).map Xa)/\(ll S)<=q:=by
 by_cases c:s=0
 ·subst c;have Y:exe F G (.whl (frT 22) frB) [yz (.int m),yz (.int (0:Nat)),yz (.int (1:Nat)),yz (.int 0),yy] S=.ok (.nx [yz (.int m),yz (.int (0:Nat)),yz (.int (1:Nat)),yz (.int (0:Nat)),yy]) S:=by
   have ht:Xcc F G (frT 22) [yz (.int m),yz (.int (0:Nat)),yz (.int (1:Nat)),yz (.int 0),yy] S=.ok yw S:=by
    have:decide ((0:Int)<((0:Nat):Int))=false:=by decide
    simp only[Xcc,frT,ev,gZ0,gS0,Rk0,Xi,Xw,this,Xf]
   have hw:Yk (Xcc F G (frT 22)) (λenv S=>pd F G frB env S) 100000 [yz (.int m),yz (.int (0:Nat)),yz (.int (1:Nat)),yz (.int 0),yy] S=.ok (.nx [yz (.int m),yz (.int (0:Nat)),yz (.int (1:Nat)),yz (.int (0:Nat)),yy]) S:=by rw[Yk,ht];rfl
   rw[exe];exact hw
  obtain⟨S',q,a1,a2,L,a4⟩:=Xn4 (F:=F) (G:=G) (many:=m) (size:=0) (ag:=1) (iw:=22) (ic:=25) (far:=0) J Y (by omega) (Vf 1) (by omega) (λi hi=>by
   obtain rfl:i=0:=by omega
   rw[Y1];decide)
  exact⟨S',q,a1,a2,L,a4⟩
 obtain⟨far,f1,f2,f3,f4⟩:=X7s (F:=F) (G:=G) (iw:=22) (many:=m) (size:=s) (ag:=1) hw (by omega) hs (Vf 1) (by omega) S;have hB:∀i,i<=s->C (far+1*(i-1)) i<5000:=by
  by_cases d:7<=s
  ·have:=h7 d;subst this;have:far=0:=by rcases f3 with h|h<;>omega
   subst this;intro i hi;by_cases e:i=0;·subst e;rw[Y1];decide
   ·rw[Xbv _ _ (by omega)];decide
  exact X20 (by omega) (by omega) hm f3
 obtain⟨S',q,a1,a2,L,a4⟩:=Xn4 (F:=F) (G:=G) (many:=m) (size:=s) (ag:=1) (iw:=22) (ic:=25) (far:=far) J f4 hs (Vf 1) (by omega) (λi hi=>Nat.lt_trans (hB i hi) (by decide));have aa:m<=C (far+1*(s-1)) s:=by rw[Nat.one_mul];rw[Nat.mul_one]at f2;exact f2
 rw[Xyf (Vf 1) (show far<=500 by omega) aa]at L;exact⟨S',q,a1,a2,L,a4⟩
theorem Ybk(k:Nat):Xsb (FT T G (k+2)):=λs m S h1 h2 L J=>by rw[ftx t26];exact Xyv (Xfa t22 k) (X7r t25 k) s m S h1 h2 L J
section
variable{F:Fn}{l:LI}
theorem X24(hf:Xsb F)(c:Crw l)(S:Sto):∃x y S',exe F G (.for (.tup [2,3]) (.enm (.cons (.var 0) .nil)) lfB) [yz (Xa l),yz (.ref (ll S)),yy,yy] (S++[.lst []])=.ok (.nx [yz (Xa l),yz (.ref (ll S)),x,y]) S'/\UpS S S'/\Xc S' (ll S)=yz ((bgs l).map Xa):=by
 have pl:(prs l).length=ll l:=by unfold prs;rw[Vl,Uo]
 obtain⟨e',S',a,x,y,rfl,u,Y⟩:=Xdb (get:=(Src.enm (.con (l.map D.int))).get) (t:=.tup [2,3]) (body:=λenv S=>pd F G lfB env S) (prs l)
  (λi e S'=>∃x y,e=[yz (Xa l),yz (.ref (ll S)),x,y]/\UpS S S'/\Xc S' (ll S)=yz ((((prs l).take i).map bw).flatten)) (λi e S' _=>Xqi l S' i)
  (λi d e S' hd hP=>by
   obtain⟨x,y,rfl,u,Y⟩:=hP;have hi:i<ll l:=by have:=(Vd.mp hd).1;omega
   have fl:((((prs l).take i).map bw).flatten).length<=2400:=by have:=Xkb (w:=bw) ((prs l).take i) λd hd=>Xzq c (Vaq hd);rw[Vaa]at this;have:=c.l2;omega
   have tk:(((prs l).take (i+1)).map bw).flatten=(((prs l).take i).map bw).flatten++bw d:=by rw[Vf6,hd,Vcw,List.flatten_append];simp
   rw[tk];generalize (((prs l).take i).map bw).flatten=L at fl Y ⊢;have af:d=.tup [.int (i:Int),.int (l.getD i 0)]:=by unfold prs at hd;rw[V6,Vag hi,V7,Vq]at hd;exact hd.symm
   subst af;obtain⟨m,hm⟩:∃m:Nat,l.getD i 0=(m:Int):=⟨(l.getD i 0).toNat,by have:=c.nn i;omega⟩;obtain⟨S2,q2,g1,g2,g3,g4⟩:=hf i m S' (by have:=c.l2;omega) (by have:=c.le i;omega) (λz=>by subst z;have:=c.one;omega) (λz=>by have:=c.far i z;omega);have aa:=g2.lst Y;have hb:=Xlz i (m:Int);rw[Van]at hb;rw[hm,hb];have ab:F 26 [.int m,.int i,.int 1] S'=.ok (.ref q2) S2:=g1;have tl:(((fon 1 i 500).take m).map Xa).length<=200:=by rw[Vl,Vaa];have:=c.le i;omega
   have ae:Yv .xtd (.ref (ll S)) [.ref q2] S2=.ok .non (S2.set (ll S) (.lst (L++((fon 1 i 500).take m).map Xa))):=by
    have:(ll L)+(((fon 1 i 500).take m).map Xa).length<=big:=by unfold big;omega
    simp only[Yv,show lstM S2 (ll S)=yz L from aa,g3,this,if_true]
   refine⟨[yz (Xa l),yz (.ref (ll S)),yz (.int i),yz (.int m)],[yz (Xa l),yz (.ref (ll S)),yz (.int i),yz (.int m)],_,rfl,?_,_,_,rfl,(u.trans g2).set (Vf _),Xau (Xaa aa)⟩;simp only[lfB,pd,exe,ev,evs,gZ0,gS0,Vaz,Rk0,Xaf,Y,Vck,if_true,ab,ae])
  ((prs l).length+1) 0 [yz (Xa l),yz (.ref (ll S)),yy,yy] (S++[.lst []]) ⟨yy,yy,rfl,.app,by rw[Vf7];exact Xg⟩ (Um _) (by omega)
 rw[Vd5,Xvm]at Y;refine⟨x,y,S',?_,u,Y⟩;have ac:evit F G (.enm (.cons (.var 0) .nil)) [yz (Xa l),yz (.ref (ll S)),yy,yy] (S++[.lst []])=.ok (.enm (.con (l.map D.int))) (S++[.lst []]):=by simp only[evit,evs,ev,gZ0,Rk0,Xa,Yo]
 rw[exe,ac,Rk0];simp only[Src.most,Vl];rw[pl]at a;exact a
theorem Xsc{S S1:Sto}{d:D}(h:F 28 [d] S=.ok (.bl yw) S1):den F G Xn [d] S=.ok (.str "row") S1:=by unfold Xn Xn9;refine Ye (env:=[yz d,yy,yy,yy]) rfl rfl ?_;refine Xh ?_;simp only[exe,ev,evs,gZ0,Rk0,h,Xf,Vf5,pd]
theorem Xoi{S S1:Sto}(h:F 28 [Xa l] S=.ok (.bl yx) S1):exe F G (.ite (.not (.call 28 (.cons (.var 0) .nil))) (.cons (.ret (.cst (.str "row"))) .nil) .nil) [yz (Xa l),yy,yy,yy] S=.ok (.nx [yz (Xa l),yy,yy,yy]) S1:=Xy (by simp only[ev,evs,gZ0,Rk0,h,Xf,Vc1])
theorem Xsd{S S1 S2:Sto}{p:Nat}(h:F 28 [Xa l] S=.ok (.bl yx) S1)(h2:F 27 [Xa l,.int 2] S1=.ok (.int p) S2):den F G Xn [Xa l] S=.ok (.str "way") S2:=by unfold Xn Xn9;refine Ye (env:=[yz (Xa l),yy,yy,yy]) rfl rfl ?_;refine(Xb (Xoi h)).trans (Xh ?_);simp only[exe,ev,evs,gZ0,Rk0,h2,show Xi .isnot (.int p) .non S2=.ok (.bl yx) S2 from rfl,Xf,pd]
theorem Xqk{S1 S2:Sto}(h2:F 27 [Xa l,.int 2] S1=.ok .non S2):exe F G (.ite (.cmp .isnot (.call 27 (.cons (.var 0) (.cons (.cst (.int 2)) .nil))) (.cst .non)) (.cons (.ret (.cst (.str "way"))) .nil) .nil) [yz (Xa l),yy,yy,yy] S1=.ok (.nx [yz (Xa l),yy,yy,yy]) S2:=Xy (by simp only[ev,evs,gZ0,Rk0,h2];rfl)
theorem Xo1{S S1 S2:Sto}(h:F 28 [Xa l] S=.ok (.bl yx) S1)(h2:F 27 [Xa l,.int 2] S1=.ok .non S2)(hl:l.length<=12)(L:∀s,0<=l.getD s 0)(hb:(tb1 l||tb2 l||tb3 l)=yx):∃X,den F G Xn [Xa l] S=.ok (.str "many") (S2++X):=by obtain⟨X,J⟩:=Xzr (F:=F) hl L S2;rw[hb]at J;refine⟨X,?_⟩;unfold Xn Xn9;refine Ye (env:=[yz (Xa l),yy,yy,yy]) rfl rfl ?_;refine(Xb (Xoi h)).trans ((Xb (Xqk h2)).trans (Xh ?_));rw[exe,J,Rk0];simp only[Xf,pd,exe,ev,Rk0]
theorem Xvq{S S1 S2:Sto}(hf:Xsb F)(h:F 28 [Xa l] S=.ok (.bl yx) S1)(h2:F 27 [Xa l,.int 2] S1=.ok .non S2)(hb:(tb1 l||tb2 l||tb3 l)=yw)(c:Crw l):∃S',den F G Xn [Xa l] S=.ok (Xhj (Xab (bgs l))) S'/\UpS S2 S':=by obtain⟨X,J⟩:=Xzr (F:=F) c.l2 c.nn S2;rw[hb]at J;have Y:exe F G (.asg (.var 1) (.lst .nil)) [yz (Xa l),yy,yy,yy] (S2++X)=.ok (.nx [yz (Xa l),yz (.ref (S2++X).length),yy,yy]) (S2++X++[.lst []]):=X0 (by simp only[ev,evs,Rk0];rfl);obtain⟨x,y,S',L,u,hq⟩:=X24 hf c (S2++X);have hs:=Xqj c hq;have l2:Xc (S'++[O.lst ((Xab (bgs l)).map Xa)]) (ll S')=yz ((Xab (bgs l)).map Xa):=Xg;refine⟨S'++[.lst ((Xab (bgs l)).map Xa)],?_,(UpS.app.trans u).trans .app⟩;unfold Xn Xn9;refine Ye (env:=[yz (Xa l),yy,yy,yy]) rfl rfl ?_;refine(Xb (Xoi h)).trans ((Xb (Xqk h2)).trans ((Xb (Xy J)).trans ((Xb Y).trans ((Xb L).trans (Xh ?_)))));simp only[exe,ev,evs,gZ0,gS0,Rk0,hs];simp only[Xm,Xq,l2,Rk0,Xhj]
end
end K44
end
section
namespace Z
open PySem
theorem Xk5{S S':Sto}(u:UpS S S'):∀(k n:Nat) (p:Vcs),Xae S k n=yz p->Xae S' k n=yz p
 |0=>λn p e=>by cases e|k+1=>λn p e=>by
  simp only[Xae]at e ⊢;cases q:S[n]? with
  |none=>rw[q]at e;cases e|some o=>
   rw[u n o q];rw[q]at e;cases o with
   |lst xs=>simp only[Ul]at e ⊢;obtain⟨ps,L,J⟩:=e;exact⟨ps,datFs_mono (Xk5 u k) xs ps L,J⟩|exc _=>cases e
theorem Sm.repU{S:Sto}{d:D}(h:Sm S 20 400000 d):∃t,∀S',UpS S S'->Xeu S' d=yz t:=by
 obtain⟨p,q1,J,q3,q4,q5⟩:=h;refine⟨p.shown,λS' u=>?_⟩;have e:Xam S' d=yz p:=Xk0 (λn q z=>Xns 3 n q (Xk5 u 3 n q z)) d p q1;have Y:p.depth<=60:=by omega
 have L:szD p<=big:=by unfold big;omega
 unfold Xeu;rw[e];dsimp only;rw[iP0 (by rw[J,q3,decide_eq_true Y,decide_eq_true L];rfl)]
theorem UpS.ext{S S':Sto}{p:Nat}(u:UpS S S'):Ext p S S':=λn o _ e=>u n o e
theorem X25{i:Int}(h:i.natAbs<1000):FSm 0 4 (.int i):=⟨.int i,λ_=>by simp only[X4],by
 have:i.natAbs.log2<1920:=by have h2:i.natAbs<2^10:=V8 h (by decide);have:=Xe9 h2 (by decide);omega
 simp only[Vav,decide_eq_true this],by simp only[Xax],by simp only[Va7];exact Vf _,by simp only[szD,szI];rw[iP0 h];exact Vf _⟩
theorem X8e{n:LL}(hn:(ll n)<=2400)(L:∀r∈n,ll r<=12/\∀x∈r,x.natAbs<1000):FSm 20 400000 (Xhj n):=by
 have h1:∀d∈n.map Xa,FSm 1 75 d:=λd hd=>by
  obtain⟨r,J,rfl⟩:=U5.mp hd;have:=Xnp (ds:=r.map D.int) (a:=0) (b:=4) λd hd=>by obtain⟨x,Y,rfl⟩:=U5.mp hd;exact X25 ((L r J).2 x Y)
  rw[Vl]at this;exact this.mono (Vf _) (by have:=(L r J).1;omega)
 have h2:=Xnp h1;rw[Vl]at h2;exact h2.mono (by omega) (by omega)
theorem X26{l:LI}(hl:(ll l)<=12):∀r∈bgs l,ll r<=12/\∀x∈r,x.natAbs<1000:=λr J=>by obtain⟨s,hs,J⟩:=List.mem_flatMap.mp J;have hs:=Vbk.mp hs;obtain⟨h1,_,Y⟩:=(Xgk (Vf 1)).mp (Vaq J);exact⟨by omega,λx L=>by have:=Y x L;omega⟩
end Z
namespace K44
open PySem Z
theorem t13:T[13]?=yz X5:=rfl
theorem t14:T[14]?=yz X6:=rfl
theorem t29:T[29]?=yz (Xn6 19):=rfl
theorem t30:T[30]?=yz (Xr1 19 24):=rfl
theorem t31:T[31]?=yz Xn:=rfl
theorem t32:T[32]?=yz Xad:=rfl
noncomputable def Xfm(l:LI):D:=open Classical in if Yb (gK 2) l=.non then (if (tb1 l||tb2 l||tb3 l)=yx then .str "many" else Xhj (Xab (bgs l))) else .str "way"
noncomputable def due(d:D):D:=match d with
 |.tup xs=>if isr (.tup xs) then Xfm (xs.map fun | .int i=>i|_=>0) else .str "row"|_=>.str "row"
theorem Xkc{l:LI}(h1:1<=ll l)(hl:(ll l)<=12):due (Xa l)=Xfm l:=by
 have e:(l.map D.int).map (fun|.int i=>i|_=>0)=l:=by simp[Function.comp_def]
 have hi:=Xnq h1 hl;unfold Xa at hi ⊢;simp only[due,hi,if_true,e]
theorem Xoj{d:D}(h:isr d=yw):due d=.str "row":=by
 cases d with
 |tup xs=>simp only[due,h,Ui,if_false]|_=>rfl
theorem Xhr{l:LI}{p:Nat}(h:Yb (gK 2) l=.int p):Xfm l=.str "way":=by unfold Xfm;rw[iN0 (by rw[h];exact λz=>nomatch z)]
theorem Xfn{l:LI}(h:Yb (gK 2) l=.non)(hb:(tb1 l||tb2 l||tb3 l)=yx):Xfm l=.str "many":=by unfold Xfm;rw[iP0 h,iP0 hb]
theorem Xkd{l:LI}(h:Yb (gK 2) l=.non)(hb:(tb1 l||tb2 l||tb3 l)=yw):Xfm l=Xhj (Xab (bgs l)):=by unfold Xfm;rw[iP0 h,iN0 (by rw[hb];decide)]
theorem crw{l:LI}(h1:1<=ll l)(hl:(ll l)<=12)(h:Yb (gK 2) l=.non)(hb:(tb1 l||tb2 l||tb3 l)=yw):Crw l:=by rw[Vdz,Vdz]at hb;exact X7t h1 hl h hb.1.2 hb.2
theorem Xvr(d:D):FSm 20 400000 (due d):=by
 have hs:∀t:Str,(reprText t).length<=1921->FSm 20 400000 (.str t):=λt h=>(Xuj h).mono (by omega) (by omega);cases hi:isr d with
 |false=>rw[Xoj hi];exact hs _ (by decide+kernel)|true=>
  obtain⟨l,rfl,h1,hl⟩:=Xjp hi;rw[Xkc h1 hl];rcases Xfl (gK 2) l with h|⟨p,h⟩
  ·cases hb:tb1 l||tb2 l||tb3 l with
   |true=>rw[Xfn h hb];exact hs _ (by decide+kernel)|false=>have c:=crw h1 hl h hb;rw[Xkd h hb];refine X8e (by rw[(Xb4 _).length_eq];exact Xqh hl c.le) λr J=>X26 hl r ((Xb4 _).mem_iff.mp J)
  rw[Xhr h];exact hs _ (by decide+kernel)
section
variable{F:Fn}{d r:D}{S S' P:Sto}
theorem X27(h:F 13 [d] S=.ok r S'):den F G Xad [d] S=.ok r S':=by unfold Xad Xr2;refine Ye (env:=[yz d,yy]) rfl rfl (Xh ?_);have ha:pd F G (.cons (.ret (.call 13 (.cons (.var 0) .nil))) .nil) [yz d,yy] S=.ok (.rt r) S':=Xh (by simp only[exe,ev,evs,gZ0,Rk0,h]);rw[exe,iP0 (by rfl),ha]
theorem X28{c:Nat}(h:F 13 [d] S=.ex P.length (P++[.exc c]))(hk:F 21 [.ref P.length] (P++[.exc c])=.ok r S'):den F G Xad [d] S=.ok r S':=by
 unfold Xad Xr2;refine Ye (env:=[yz d,yy]) rfl rfl (Xh ?_);have ha:pd F G (.cons (.ret (.call 13 (.cons (.var 0) .nil))) .nil) [yz d,yy] S=.ex P.length (P++[.exc c]):=Xa5 (by simp only[exe,ev,evs,gZ0,Rk0,h,R.bind_ex]);have hg:(P++[O.exc c])[P.length]?=yz (.exc c):=by rw[Us (Vf _),U0];rfl
 have L:pd F G (.cons (.ret (.call 21 (.cons (.var 1) .nil))) .nil) [yz d,yz (.ref P.length)] (P++[.exc c])=.ok (.rt r) S':=Xh (by simp only[exe,ev,evs,gZ0,gS0,Rk0,hk]);rw[exe,iP0 (by rfl),ha];dsimp only;rw[hg];dsimp only;rw[iP0 (by rfl)];have J:pd F G (.cons (.ret (.call 21 (.cons (.var 1) .nil))) .nil) (([yz d,yy]:En).set 1 (yz (.ref P.length))) (P++[.exc c])=_:=L;rw[J]
end
theorem X8f{d:D}{S:Sto}(t:Thing S d):∃X,FT T G 13 32 [d] S=.ok (due d) (S++X):=by
 have J:∀(l:LI) (S:Sto),FT T G 11 14 [Xa l,.int 15,.int 6] S=den (FT T G 11) G X6 [Xa l,.int 15,.int 6] S:=λl S=>by
  cases hb:tb1 l||tb2 l with
  |true=>rw[Xfk S hb,ftx t14];exact Xfk S hb|false=>rw[Xdg S hb,ftx t14];exact Xdg S hb
 have bad:∀(c:Nat) (P:Sto),1<=c->c<=16->FT T G 12 13 [d] S=.ex P.length (P++[.exc c])->(∃X,P=S++X)->∃X,FT T G 13 32 [d] S=.ok (Xc1 c) (S++X):=λc P c1 c2 h ⟨X,hX⟩=>by obtain⟨Y,hk⟩:=X15 (G:=G) (k:=11) t21 c1 c2 P;refine⟨X++Y,?_⟩;rw[ftx t32,X28 h hk,hX,Vt]
 cases hi:isr d with
 |false=>obtain⟨X,h⟩:=X74 3 t hi;rw[Xoj hi];exact bad 7 (S++X) (by omega) (by omega) (by rw[ftx t13];exact Xvp h) ⟨X,rfl⟩|true=>
  obtain⟨l,rfl,h1,hl⟩:=Xjp hi;rw[Xkc h1 hl];obtain⟨X,h⟩:=ask 3 h1 hl t;rcases Xfl (gK 2) l with hf|⟨p,hf⟩
  ·rw[hf]at h;cases hb:tb1 l||tb2 l||tb3 l with
   |true=>rw[Xfn hf hb];exact bad 5 (S++X) (by omega) (by omega) (by rw[ftx t13];exact Xsa h (J l) hb) ⟨X,rfl⟩|false=>rw[Xkd hf hb];obtain⟨Y,e⟩:=Xys (F:=FT T G 11) (λn s S a b=>bag 7 n s S a b) h (J l) hb (crw h1 hl hf hb);refine⟨X++Y,?_⟩;rw[ftx t32,<-Vt];exact X27 (by rw[ftx t13];exact e)
  rw[hf]at h;rw[Xhr hf];exact bad 11 (S++X) (by omega) (by omega) (by rw[ftx t13];exact Xvo h) ⟨X,rfl⟩
theorem X8g{d:D}{S:Sto}(t:Thing S d):∃S',FT T G 13 31 [d] S=.ok (due d) S'/\UpS S S':=by
 rw[ftx t31];obtain⟨X,h⟩:=X22 10 t;cases hi:isr d with
 |false=>rw[hi]at h;rw[Xoj hi];exact⟨S++X,Xsc h,.app⟩|true=>
  rw[hi]at h;obtain⟨l,rfl,h1,hl⟩:=Xjp hi;rw[Xkc h1 hl];obtain⟨Y,h2⟩:=Xvj 8 hl (S++X);rcases Xfl (gK 2) l with hf|⟨p,hf⟩
  ·rw[hf]at h2;cases hb:tb1 l||tb2 l||tb3 l with
   |true=>rw[Xfn hf hb];obtain⟨Z,e⟩:=Xo1 h h2 hl (Xu6 hf) hb;exact⟨_,e,(UpS.app.trans .app).trans .app⟩|false=>rw[Xkd hf hb];obtain⟨S',e,u⟩:=Xvq (Ybk 10) h h2 hb (crw h1 hl hf hb);exact⟨S',e,(UpS.app.trans .app).trans u⟩
  rw[hf]at h2;rw[Xhr hf];exact⟨_,Xsd h h2,UpS.app.trans .app⟩
end K44
end
section
namespace K44
open PySem Z
theorem Xvs{d:D}(h:FSm 20 400000 d):∃t,∀S,Xeu S d=yz t:=by
 obtain⟨p,q1,J,q3,q4,q5⟩:=h;refine⟨p.shown,λS=>?_⟩;have Y:p.depth<=60:=by omega
 have L:szD p<=big:=by unfold big;omega
 unfold Xeu Xam;rw[q1];dsimp only;rw[iP0 (by rw[J,q3,decide_eq_true Y,decide_eq_true L];rfl)]
theorem Xyw{a0 a1 a2 a3 a4 a6 a7 a8:Option D}{d:D}{p:Nat}{S:Sto}(kp:Kp p S d):
  ∃b6 b7 L S',pd (FT T G 13) G Xlw [a0,a1,a2,a3,a4,yz d,a6,a7,a8] S=.ok (.nx [a0,a1,a2,a3,a4,yz d,b6,b7,L]) S'/\UpS S S':=by
 obtain⟨J,Y⟩:=kp.now.sm.repU;obtain⟨ty,aa⟩:=Xvs (Xvr d);have s1:exe (FT T G 13) G (.asg (.var 6) (.blt .repr (.cons (.var 5) .nil))) [a0,a1,a2,a3,a4,yz d,a6,a7,a8] S=.ok (.nx [a0,a1,a2,a3,a4,yz d,yz (.str J),a7,a8]) S:=X0 (by simp only[ev,evs,gZ0,gS0,Rk0,Xgo (Y S .refl)]);obtain⟨S2,h2,u2⟩:=X8g kp.now;have s2:exe (FT T G 13) G (.asg (.var 7) (.call 31 (.cons (.var 5) .nil))) [a0,a1,a2,a3,a4,yz d,yz (.str J),a7,a8] S=.ok (.nx [a0,a1,a2,a3,a4,yz d,yz (.str J),yz (due d),a8]) S2:=X0 (by simp only[ev,evs,gZ0,gS0,Rk0,h2]);obtain⟨xs,hx,ab⟩:=Xal (m:=2) (by omega) (by omega);obtain⟨e',S',h3,L,rfl,u3⟩:=Xbu (F:=FT T G 13) (G:=G) (t:=.var 8) (es:=.cons (.cst (.int 2)) .nil) (b:=lpB) (env:=[a0,a1,a2,a3,a4,yz d,yz (.str J),yz (due d),a8]) (S:=S2) (S1:=S2) (ds:=[.int 2]) (xs:=xs)
  (λi e S'=>∃L,e=[a0,a1,a2,a3,a4,yz d,yz (.str J),yz (due d),L]/\UpS S S') (by simp only[evs,ev,Rk0]) hx ⟨a8,rfl,u2⟩
  (λi x e S' _ hP=>by
   obtain⟨L,rfl,u⟩:=hP;obtain⟨X,hs⟩:=X8f (kp S' u.ext);have hc:ev (FT T G 13) G lpC [a0,a1,a2,a3,a4,yz d,yz (.str J),yz (due d),yz x] S'=.ok (.bl yw) (S'++X):=by simp only[lpC,ev,evs,gZ0,gS0,Rk0,hs,Xgo (aa _),Xp8,Xf,Xgo (Y (S'++X) (u.trans .app))]
   refine⟨[a0,a1,a2,a3,a4,yz d,yz (.str J),yz (due d),yz x],[a0,a1,a2,a3,a4,yz d,yz (.str J),yz (due d),yz x],S'++X,rfl,?_,_,rfl,u.trans .app⟩;unfold lpB;rw[Xb (Xy hc),pd])
 refine⟨yz (.str J),yz (due d),L,S',?_,u3⟩;unfold Xlw;exact(Xb s1).trans ((Xb s2).trans ((Xb h3).trans (by simp only[pd])))
theorem Xyx{a0 a1 a3 a4 a5 a6 a7 a8:Option D}{d:D}{S:Sto}(kp:Kp 0 S d):
  ∃S',pd (FT T G 13) G Xr3 [a0,a1,yz d,a3,a4,a5,a6,a7,a8] S=.ok (.nx [a0,a1,yz d,a3,a4,a5,a6,a7,a8]) S'/\UpS S S':=by
 obtain⟨ty,J⟩:=Xvs (Xvr d);obtain⟨X,hs⟩:=X8f kp.now;obtain⟨S2,h2,Y⟩:=X8g (kp (S++X) (UpS.app.ext));have L:ev (FT T G 13) G frC [a0,a1,yz d,a3,a4,a5,a6,a7,a8] S=.ok (.bl yw) S2:=by simp only[frC,ev,evs,gZ0,gS0,Rk0,hs,Xgo (J _),h2,Xp8]
 refine⟨S2,?_,UpS.app.trans Y⟩;unfold Xr3;rw[Xb (Xy L),pd]
section
variable{F:Fn}{env:En}
theorem Xok(S:Sto):∀ns:LI,evs F G (exI ns) env S=.ok (ns.map D.int) S
 |[]=>by simp only[exI,evs,Vcp]|n::r=>by simp only[exI,evs,ev,Rk0,Xok S r,U6]
theorem Xav(S:Sto)(ns:LI)(h:(ll ns)<=100):ev F G (.tup (exI ns)) env S=.ok (Xa ns) S:=Xa7 (Xok S ns) (by rw[Vl];exact h)
noncomputable def rows7:LL:=[[1],[1,16],[1,17],[1,16,136],[1,16,136,47],[1,16,136,48],[1,2,3,4,5,6,7]]
noncomputable def rows4:LL:=[[1,2,3,4,5,6,7,8],[1,1000000000000,1000000000000],[1,1,1,1,1,1,1,0],[1,1,1,1,1,1,1,1]]
theorem X8h(S:Sto):evs F G ex7 env S=.ok (rows7.map Xa) S:=by unfold ex7 rows7;rw[evs,Xav S _ (by decide),Rk0,evs,Xav S _ (by decide),Rk0,evs,Xav S _ (by decide),Rk0,evs,Xav S _ (by decide),Rk0,evs,Xav S _ (by decide),Rk0,evs,Xav S _ (by decide),Rk0,evs,Xav S _ (by decide),Rk0,evs];simp only[Rk0,Uj]
theorem X8i(S:Sto):evs F G ex4 env S=.ok (rows4.map Xa) S:=by
 have J:ev F G (.tup (.cons i1E (.cons Xc4 (.cons Xc4 .nil)))) env S=.ok (Xa [1,1000000000000,1000000000000]) S:=by rw[<-Xfc];exact Xa7 (ds:=[.int 1,.int e12,.int e12]) (by simp only[i1E,Xc4,evs,ev,Rk0,Xrx]) (by simp)
 have Y:ev F G (.bin .mul (.tup (exI [1])) (.cst (.int 8))) env S=.ok (Xa [1,1,1,1,1,1,1,1]) S:=by
  have L:Xu .mul (Xa [1]) (.int 8) S=.ok (Xa [1,1,1,1,1,1,1,1]) S:=by have:=Xp5 (x:=[D.int 1]) (k:=8) (S:=S) (by decide) (Yx (by decide)) (by decide) rfl;exact this
  rw[ev,Xav S _ (by decide),Rk0,ev,Rk0,L]
 unfold ex4 rows4;rw[evs,Xav S _ (by decide),Rk0,evs,J,Rk0,evs,Xav S _ (by decide),Rk0,evs,Y,Rk0,evs];simp only[Rk0,Uj]
end
theorem Xyy{p:Nat}{S:Sto}:∀d∈(rows7++rows4).map Xa,Kp p S d:=λd hd=>by
 obtain⟨r,J,rfl⟩:=U5.mp hd;have:∀r∈rows7++rows4,(∀x∈r,x.natAbs.log2<1920)/\(ll r)<=100:=by decide+kernel
 exact Yu (this r J).1 (this r J).2
noncomputable def bB(s:Nat):Nat:=match s with
 |0=>1|1=>16|2=>400|3=>1000000000|_=>11*2^492
theorem X8j{kd s n B:Nat}(h:∀x j,x<=n+s->j<=s->gK kd x j<=B):abv (gK kd) s n<=s*B:=by
 unfold abv;by_cases J:∃w,Wr s n w;·obtain⟨w,L⟩:=J;rw[Xnx L];exact Xgi s w λx J j Y=>h _ _ (by have:=(Xh9 L x J).2;omega) Y
 ·unfold wri;rw[dif_neg J];exact Xgi s [] λx h=>by cases h
theorem Yak{x j:Nat}:gK 2 x j<=(x+1)^(j+1):=Xls (x+1) (j+1)
theorem bds{pts:Nat}(h:pts<=16):Bds 2 pts 5 bB:=by
 refine⟨Vf _,h,λs n h1 h2 L=>?_,λs hs=>?_,λs hs=>?_,by decide⟩
 ·have J:∀N e,n+s+1<=N->s+1=e->abv (gK 2) s n<=s*N^e:=λN e hN Y=>X8j λx j hx hj=>by
   refine V4 Yak (V4 (Vg8 (show x+1<=N by omega) _) ?_);subst Y;exact Vg2 (by omega) (by omega)
  rcases (show s=1\/s=2\/s=3 by omega) with rfl|rfl|rfl;·exact V4 (J 18 2 (by have:n<=16:=L;omega) rfl) (by decide)
  ·exact V4 (J 403 3 (by have:n<=400:=L;omega) rfl) (by decide)
  exact X7l (by omega) (by have:n<=1000000000:=L;omega)
 ·exact(by decide:∀s,s<4->bB s<=1000000000000) s (by omega)
 have m1:=Xzm;match s,hs with
 |0,_=>show 1+1<=mx;omega|1,_=>show 16+1<=mx;omega|2,_=>show 400+1<=mx;omega|3,_=>show 1000000000+1<=mx;omega|4,_=>exact Xu0
theorem Yal(j:Nat):bB j+1<=mx:=by
 have J:=Xzm;unfold bB;split;·omega
 ·omega
 ·omega
 ·omega
 exact Xu0
theorem turn(ns:LI)(i:Nat)(a1 a2 a4 a5 a6 a7 a8:Option D)(S:Sto):
  ∃e S',pd (FT T G 13) G Xlx [yz (.fro (ns.map D.int)),a1,a2,yz (.int i),a4,a5,a6,a7,a8] S=.ok (.nx e) S'/\∃b1 b2 b3 b4 b5 b6 b7 b8,e=[yz (.fro (ns.map D.int)),b1,b2,b3,b4,b5,b6,b7,b8]:=by
 generalize ae:yz (D.fro (ns.map D.int))=sc;obtain⟨c,hc⟩:=Xxe (F:=FT T G 12) (G:=G) ns i S;obtain⟨v,hv⟩:=X12 (F:=FT T G 12) (G:=G) c S;have ah:FT T G 13 17 [.fro (ns.map D.int),.int i] S=.ok (.int c) S:=hc;have aj:FT T G 13 18 [.int c] S=.ok (.ref (ll S)) (S++[.lst [.int v]]):=hv;have s1:exe (FT T G 13) G L1 [sc,a1,a2,yz (.int i),a4,a5,a6,a7,a8] S=.ok (.nx [sc,a1,a2,yz (.int i),yz (.ref (ll S)),a5,a6,a7,a8]) (S++[.lst [.int v]]):=X0 (by subst ae;simp only[ev,evs,gZ0,gS0,Rk0,ah,aj]);have p1:Xc (S++[O.lst [.int v]]) (ll S)=yz [.int v]:=Xg;generalize S++[O.lst [.int v]]=S1 at s1 p1;generalize (ll S)=p at s1 p1;have hT:Xgb (FT T G 13) 19:=Xhd t19 12;have d5:Yr 5=true:=by decide+kernel
 obtain⟨d,md,ed⟩:=Xxj (G:=G) hT (q:=4) (c:=5) (p:=p) (v:=v) (env:=[sc,a1,a2,yz (.int i),yz (.ref p),a5,a6,a7,a8]) (Xok (F:=FT T G 13) S1 [1,2,3,5,16]) rfl (by decide) (by show 5<=big;decide) d5 rfl p1;have hd:∃n:Nat,d=.int n/\n<=16:=by
  simp only[Uj,V2,Vai,or_false]at md;rcases md with rfl|rfl|rfl|rfl|rfl;·exact⟨1,rfl,by decide⟩
  ·exact⟨2,rfl,by decide⟩
  ·exact⟨3,rfl,by decide⟩
  ·exact⟨5,rfl,by decide⟩
  exact⟨16,rfl,by decide⟩
 obtain⟨pts,rfl,hp⟩:=hd;have p2:=Xkx (ds:=([1,2,3,5,16]:LI).map D.int) (c:=5) p1;generalize (S1++[O.lst (([1,2,3,5,16]:LI).map D.int)]).set p (.lst [.int (v/5)])=S2 at ed p2;obtain⟨l,J,h3,l1,l2,lb,x3,v3,p3⟩:=Xyi (F:=FT T G 12) (G:=G) (S:=S2) (it:=19) (inx:=24) (bds hp) (Xhd t19 11) (next 9) (by decide) p2;rw[<-ftx t30]at h3;have s2:exe (FT T G 13) G L2 [sc,a1,a2,yz (.int i),yz (.ref p),a5,a6,a7,a8] S1=.ok (.nx [sc,a1,yz (Xa l),yz (.int i),yz (.ref p),a5,a6,a7,a8]) J:=X0 (by have ab:ev (FT T G 13) G (.idx (.lst ptE) (.call 19 (.cons (.var 4) (.cons (.cst (.int 5)) .nil)))) [sc,a1,a2,yz (.int i),yz (.ref p),a5,a6,a7,a8] S1=.ok (.int pts) S2:=ed;rw[ev,evs,ev];simp only[gZ0,gS0,Rk0];rw[evs,ev,Rk0,evs,ab,Rk0,evs,ev,Rk0,evs];simp only[Rk0];exact h3);have aa:∀x∈l,0<=x/\x+1<=(mx:Int):=λx hx=>by obtain⟨j,hj,rfl⟩:=Vct.mp hx;have:=lb j hj;rw[V9,Uh hj]at this;have b:=Yal j;have t:0<=l[j]/\l[j]<=(bB j:Int):=this;omega
 have ai:Xc (J++[O.lst [Xa l]]) p=yz [.int v3]:=X3 p3;obtain⟨q4,ts,Y,h4,g4,n4,k4,x4,ak⟩:=Xva (F:=FT T G 12) (G:=G) (it:=19) (S:=J++[.lst [Xa l]]) (Xhd t19 11) l1 (by omega) aa ai;rw[<-ftx t29]at h4;have ac:(ll J)≠p:=by have:=Xaa p3;omega
 have q3:Xc Y (ll J)=yz [Xa l]:=x4.lst ac Xg;have nl:Xdm l:=λx hx=>Xij (by have:=aa x hx;omega);have ad:=Xge q3 g4 (by rw[n4];show 1+15<=1000;decide);have L:ev (FT T G 13) G thE [sc,a1,yz (Xa l),yz (.int i),yz (.ref p),a5,a6,a7,a8] J=.ok (.ref Y.length) (Y++[.lst ([Xa l]++ts)]):=by
  have af:ev (FT T G 13) G (.lst (.cons (.var 2) .nil)) [sc,a1,yz (Xa l),yz (.int i),yz (.ref p),a5,a6,a7,a8] J=.ok (.ref J.length) (J++[.lst [Xa l]]):=by simp only[ev,evs,gZ0,gS0,Rk0];exact iP0 (by show 1<=big;decide)
  unfold thE;rw[ev,af,Rk0];simp only[ev,evs,gZ0,gS0,Rk0,h4,ad]
 have kt:∀d∈[Xa l]++ts,Kp p (Y++[.lst ([Xa l]++ts)]) d:=λd hd=>by
  rcases Uf.mp hd with hd|hd;·rw[Ue.mp hd];exact Yu nl (by omega)
  ·exact(k4 d hd).mono .app
 have q5:Xc (Y++[.lst ([Xa l]++ts)]) (ll Y)=yz ([Xa l]++ts):=Xg;generalize [Xa l]++ts=xs at L kt q5;generalize (ll Y)=r5 at L q5;generalize Y++[O.lst xs]=S5 at L kt q5;obtain⟨e6,S6,r6,b5,b6,b7,b8,rfl,u⟩:=Xjo (F:=FT T G 13) (G:=G) (t:=.var 5) (e0:=thE) (b:=Xlw) (xs:=xs) (r:=r5) (env:=[sc,a1,yz (Xa l),yz (.int i),yz (.ref p),a5,a6,a7,a8]) (S:=J) (S1:=S5)
  (λj e S'=>∃b5 b6 b7 b8,e=[sc,a1,yz (Xa l),yz (.int i),yz (.ref p),b5,b6,b7,b8]/\UpS S5 S') L q5 (λj e S' ⟨_,_,_,_,_,u⟩=>u.lst q5) ⟨a5,a6,a7,a8,rfl,.refl⟩
  (λj d e S' hd hP=>by obtain⟨b5,b6,b7,b8,rfl,u⟩:=hP;obtain⟨c6,c7,c8,S7,hb,u7⟩:=Xyw (a0:=sc) (a1:=a1) (a2:=yz (Xa l)) (a3:=yz (.int i)) (a4:=yz (.ref p)) (a6:=b6) (a7:=b7) (a8:=b8) ((kt d (U8 hd)).mono u.ext);exact⟨_,_,S7,rfl,hb,yz d,c6,c7,c8,rfl,u.trans u7⟩)
 refine⟨_,S6,?_,a1,yz (Xa l),yz (.int i),yz (.ref p),b5,b6,b7,b8,rfl⟩;unfold Xlx;exact(Xb s1).trans ((Xb s2).trans ((Xb r6).trans (by simp only[pd])))
theorem law_true(ns:LI)(h:(ll ns)<=63):∃S',FT T G 14 33 [.fro (ns.map D.int)] []=.ok (.bl yx) S':=by
 show ∃S',den (FT T G 13) G Xly [.fro (ns.map D.int)] []=_;generalize L:yz (D.fro (ns.map D.int))=sc;have s1:exe (FT T G 13) G (.asg (.var 1) (.lst ex7)) [sc,yy,yy,yy,yy,yy,yy,yy,yy] []=.ok (.nx [sc,yz (.ref 0),yy,yy,yy,yy,yy,yy,yy]) [.lst (rows7.map Xa)]:=X0 (by rw[ev,X8h,Rk0];exact iP0 (by show 7<=big;decide));have ad:=Xge (S:=[O.lst (rows7.map Xa)]++[O.lst (rows4.map Xa)]) (a:=0) (b:=1) (x:=rows7.map Xa) (y:=rows4.map Xa) rfl rfl (by decide)
 have s2:exe (FT T G 13) G (.asg (.var 1) (.bin .add (.var 1) (.lst ex4))) [sc,yz (.ref 0),yy,yy,yy,yy,yy,yy,yy] [.lst (rows7.map Xa)]=.ok (.nx [sc,yz (.ref 2),yy,yy,yy,yy,yy,yy,yy]) ([O.lst (rows7.map Xa)]++[O.lst (rows4.map Xa)]++[.lst (rows7.map Xa++rows4.map Xa)]):=X0 (by
  have h4:ev (FT T G 13) G (.lst ex4) [sc,yz (.ref 0),yy,yy,yy,yy,yy,yy,yy] [.lst (rows7.map Xa)]=.ok (.ref 1) ([O.lst (rows7.map Xa)]++[O.lst (rows4.map Xa)]):=by rw[ev,X8i,Rk0];exact iP0 (by show 4<=big;decide)
  rw[ev];simp only[ev,gZ0,gS0,Rk0]at h4 ⊢;rw[h4];simp only[Rk0,ad];rfl)
 have q2:Xc ([O.lst (rows7.map Xa)]++[O.lst (rows4.map Xa)]++[O.lst (rows7.map Xa++rows4.map Xa)]) 2=yz ((rows7++rows4).map Xa):=by rw[Vcw];rfl
 generalize [O.lst (rows7.map Xa)]++[O.lst (rows4.map Xa)]++[O.lst (rows7.map Xa++rows4.map Xa)]=S2 at s2 q2;obtain⟨e3,S3,s3,J,rfl,u3⟩:=Xjo (F:=FT T G 13) (G:=G) (t:=.var 2) (e0:=.var 1) (b:=Xr3) (xs:=(rows7++rows4).map Xa) (r:=2) (env:=[sc,yz (.ref 2),yy,yy,yy,yy,yy,yy,yy]) (S:=S2) (S1:=S2)
  (λj e S'=>∃J,e=[sc,yz (.ref 2),J,yy,yy,yy,yy,yy,yy]/\UpS S2 S') (by simp only[ev,gZ0,gS0]) q2 (λj e S' ⟨_,_,u⟩=>u.lst q2) ⟨yy,rfl,.refl⟩
  (λj d e S' hd hP=>by obtain⟨J,rfl,u⟩:=hP;obtain⟨S7,hb,u7⟩:=Xyx (a0:=sc) (a1:=yz (.ref 2)) (a3:=yy) (a4:=yy) (a5:=yy) (a6:=yy) (a7:=yy) (a8:=yy) (Xyy (p:=0) (S:=S') d (U8 hd));exact⟨_,_,S7,rfl,hb,yz d,rfl,u.trans u7⟩)
 obtain⟨m,hm,m0,m1⟩:=Z.turns (F:=FT T G 13) (G:=G) (env:=[sc,yz (.ref 2),J,yy,yy,yy,yy,yy,yy]) (S:=S3) (ns:=ns) 4 (by decide) (by decide) (by rw[<-L];rfl);obtain⟨xs,hx,hl⟩:=Xal (m:=m) m0 (by omega);obtain⟨e',S',f2,b1,c2,b3,b4,b5,b6,b7,Y,rfl⟩:=Xbu (F:=FT T G 13) (G:=G) (t:=.var 3) (b:=Xlx) (xs:=xs)
  (λi e S'=>∃b1 J b3 b4 b5 b6 b7 Y,e=[sc,b1,J,b3,b4,b5,b6,b7,Y]) hm hx ⟨_,_,yy,yy,yy,yy,yy,yy,rfl⟩ (λi d e S' hd hP=>by obtain⟨b1,J,b3,b4,b5,b6,b7,Y,rfl⟩:=hP;obtain⟨rfl,hi⟩:=Xbf hx hd;obtain⟨e2,S2,t1,t2⟩:=turn ns i b1 J b4 b5 b6 b7 Y S';rw[L]at t1 t2;exact⟨_,e2,S2,rfl,t1,t2⟩)
 refine⟨S',?_⟩;refine Ye (env:=[sc,yy,yy,yy,yy,yy,yy,yy,yy]) rfl (by rw[<-L];rfl) ?_;exact(Xb s1).trans ((Xb s2).trans ((Xb s3).trans ((Xb f2).trans (Xh (by simp only[exe,ev,Rk0])))))
end K44
end
section
namespace K44
open PySem PySem.Spec PyProof.Rows L2 Z
set_option maxHeartbeats 0 in
theorem all_mk {P:Ua} {w:Uq} {K:Ve} {h:Heap} {mg:Str->OV} {fa:Addr} {t0 t1 t2 t3 t4 t5:Tok} (X:K.In h) (J:h.Ns Uc mg) (az:mg "law"=yz (.ref fa))
  (er:Xwt K=yx) (bl:X6x K=yx) (lm:Xdl K "_law_first_ones"=yx) (g0:U1 K Uc "GREATEST_NUMBER"=yz (yz (.int 1000000000000 t0))) (g1:U1 K Uc "MOST_CHOSEN"=yz (yz (.int 12 t1))) (g2:U1 K Uc "GREATEST_WIDTH"=yz (yz (.int 11 t2))) (g3:U1 K Uc "GREATEST_IN_BAG"=yz (yz (.int 15 t3))) (g4:U1 K Uc "GREATEST_BAG"=yz (yz (.int 6 t4))) (g5:U1 K Uc "MOST_BAGS"=yz (yz (.int 200 t5)))
  (f0:FunAt K "is_whole" (top 19)) (f1:FunAt K "is_whole_within" (top 20)) (f2:FunAt K "is_whole_tuple" (top 21)) (f3:FunAt K "writing" (top 25)) (f4:FunAt K "bags_above" (top 26)) (f5:FunAt K "check_written" (top 27)) (f6:FunAt K "ways" (top 28)) (f7:FunAt K "most_things" (top 29)) (f8:FunAt K "written_parts" (top 30)) (f9:FunAt K "is_row" (top 33)) (a1:FunAt K "check_row" (top 34)) (ae:FunAt K "not_of_crowd" (top 39)) (au:FunAt K "first_beyond" (top 40)) (ar:FunAt K "first_crowd" (top 42)) (a0:FunAt K "check_bounds" (top 43)) (ai:FunAt K "face_at" (top 44)) (ac:FunAt K "bag_at" (top 45)) (aj:FunAt K "_law_cell_at" (top 47)) (aw:FunAt K "_law_pot" (top 48)) (a2:FunAt K "_law_take" (top 49)) (ap:FunAt K "_law_whole" (top 50)) (ak:FunAt K "_law_word" (top 51)) (av:FunAt K "_law_ways" (top 52)) (ax:FunAt K "_law_writing" (top 53)) (ab:FunAt K "_law_next_by" (top 54)) (am:FunAt K "_law_choices" (top 55)) (al:FunAt K "_law_first_ones" (top 56)) (aa:FunAt K "_law_first_not" (top 57)) (af:FunAt K "_law_is_row" (top 58)) (aq:FunAt K "_law_spoilt_rows" (top 59)) (Y:FunAt K "_law_drawn_row" (top 60)) (ay:FunAt K "_law_first_crowd" (top 61)) (ah:FunAt K "_law_said" (top 62)) (L:FunAt K "law" (top 63)):
  ∃fd:Vdl,(∀(s:Vc) (u:Vb),BindsTo s fd ⟨[u],[]⟩ [("_law_script",u)])/\∀base:Heap,K.In base->((∃m∈mks,Xdl K m=yx)->BM mg base)->FnOk P w K mg base (CXd P w) 14 fa fd ["_law_script"] (spD K 1 (FT T G 14 33)):=by
 have an:=X09 er;have ao:=X1z X J bl;have hg:∀(k:Nat) nm,gns[k]?=yz nm->∃u d,mg nm=yz u/\G[k]?=yz d/\∀ ρ H,∃v,RelV v u/\RD K ρ H d v:=λk nm e=>by
  match k,e with
  |0,e=>cases e;exact Xcq X J g0|1,e=>cases e;exact Xcq X J g1|2,e=>cases e;exact Xcq X J g2|3,e=>cases e;exact Xcq X J g3|4,e=>cases e;exact Xcq X J g4|5,e=>cases e;exact Xcq X J g5|6,e=>cases e;exact X6y X J f4|k+7,e=>cases e
 have hD:AllD K mg fns gns fns T:=AllD.c (dk X J f0 Xr6 Xbn) <| AllD.c (dk X J f1 Xgr Xnk) <| AllD.c (dk X J f2 Xho Xbn) <| AllD.c (dk X J f3 Xve Xbe) <| AllD.c (dk X J f4 Xoe Xbe) <| AllD.c (dk X J f5 Xip Xbe) <| AllD.c (dk X J f6 X72 Xbe) <| AllD.c (dk X J f7 Xlb Xbe) <| AllD.c (dk X J f8 Xiq Xbe) <| AllD.c (dk X J f9 Xyn Xbn) <| AllD.c (dk X J a1 Xow Xbn) <| AllD.c (dk X J ae Xj3 Xbn) <| AllD.c (dk X J au Xj4 Xbe) <| AllD.c (dk X J ar Xlc Xbn) <| AllD.c (dk X J a0 Xj5 Xnk) <| AllD.c (dk X J ai Xvf Xbe) <| AllD.c (dk X J ac Xyo Xbe) <| AllD.c (dk X J aj Xj6 Xbe) <| AllD.c (dk X J aw Xr7 Xbn) <| AllD.c (dk X J a2 Xox Xbe) <| AllD.c (dk X J ap Xof Xbn) <| AllD.c (dk X J ak Xoy Xbn) <| AllD.c (dk X J av Xoz Xbe) <| AllD.c (dk X J ax Xj7 Xbe) <| AllD.c (dk X J ab Xj8 Xnk) <| AllD.c (dk X J am Xj9 Xnk) <| AllD.c (dk X J al Xgs Xnk (X9v lm (by decide+kernel))) <| AllD.c (dk X J aa Xhp Xbe) <| AllD.c (dk X J af Xld Xbn) <| AllD.c (dk X J aq Xfi Xbe) <| AllD.c (dk X J Y Xhq Ybe) <| AllD.c (dk X J ay Xfj Xbn) <| AllD.c (dk X J ah Xo0 Xbn) <| AllD.c (dk X J L Xr8 Xbn) <| True.intro
 exact law_fn (k:=13) (d:=Xly) (st:=top 63) (N:=Xzp) X J az an ao hg hD.get rfl L (ms Xr8) (mm Xr8) rfl rfl Xbn
noncomputable def kept:LM:=[top 1,top 2,top 3,top 4,top 5,top 6,top 7,top 8,top 9,top 10,top 11,top 12,top 13,top 14,top 15,top 16,top 17,top 19,top 20,top 21,top 23,top 24,top 25,top 26,top 27,top 28,top 29,top 30,top 32,top 33,top 34,top 36,top 37,top 38,top 39,top 40,top 42,top 43,top 44,top 45,top 47,top 48,top 49,top 50,top 51,top 52,top 53,top 54,top 55,top 56,top 57,top 58,top 59,top 60,top 61,top 62,top 63]
noncomputable def Q:Ua:={ PySem.Challenge.pw_facecounts_k44_first_crowds with main:={ PySem.Challenge.pw_facecounts_k44_first_crowds.main with body:=kept} }
end K44
open PySem PySem.W PyProof.Rows
noncomputable def PySem.W.Fast.tw1234107610386233518:PySem.Program:=PySem.Challenge.pw_facecounts_k44_first_crowds
theorem PySem.W.Fast.te1234107610386233518:PySem.Challenge.pw_facecounts_k44_first_crowds=PySem.W.Fast.tw1234107610386233518:=rfl
lay_quick Z.topT PySem.W.topStub
set_option maxRecDepth 100000 in
set_option maxHeartbeats 0 in
theorem K44.st_ok:Z.RunT PySem.Challenge.pw_facecounts_k44_first_crowds (λw s=>staticsOk (Vel PySem.Challenge.pw_facecounts_k44_first_crowds.main.body) (boot_heap w.params) s.abs.heap&&namesBound PySem.Challenge.pw_facecounts_k44_first_crowds s.abs.heap&&gensDone s.abs&&laidKept (boot_heap w.params) s.abs.heap) λ_=>true:=by intro w os;rw[PySem.W.Fast.te15842407815417585275,PySem.W.Fast.te2530740449226627131,Vga];kernel_rfl
set_option maxRecDepth 100000 in
set_option maxHeartbeats 0 in
theorem K44.seen_ok:Z.RunT PySem.Challenge.pw_facecounts_k44_first_crowds (λ_ s=>openSeen K44.Q [] (Vel PySem.Challenge.pw_facecounts_k44_first_crowds.main.body) (λs=>PySem.W.xlAt K44.Q [] s&&PySem.W.recOk [] s) yx s.abs) λ_=>openGood K44.Q []:=by intro w os;unfold K44.Q K44.kept K44.top;rw[PySem.W.Fast.te4187177175401517315,PySem.W.Fast.te15842407815417585275,PySem.W.Fast.te2530740449226627131,Vga];kernel_rfl
local macro_rules | `(tactic| o_head $H)=>`(tactic|
 refine PySem.W.holds_open (q:=K44.Q) (loose:=[]) (Xt:=λs=>PySem.W.xlAt K44.Q [] s&&PySem.W.recOk [] s)
  (XP:=PySem.W.XL K44.Q []) (Yf:=PySem.W.Hook.obs $H) (Ya:=PySem.W.Hook.val $H)
  (YP:=PySem.W.Hook.says $H) (N:=40000) ?hl (PySem.W.Hook.of $H) (PySem.W.Hook.keeps $H)
  (λs e=>PySem.W.xl_of s (Bool.and_eq_true_iff.mp e).1) PySem.W.XL.keeps
  (by rfl) (by rfl) (by rfl)
  (λs e=>PySem.W.recFacts_of (Bool.and_eq_true_iff.mp e).2)
  (by rfl) (by first|assumption|decide+kernel) (by decide+kernel)
  ⟨rfl,rfl,rfl,rfl,rfl,by decide+kernel⟩ ?hw ?hc)
set_option maxRecDepth 100000 in
set_option maxHeartbeats 0 in
theorem PySem.Challenge.cw_facecounts_k44_first_crowds_holds : PySem.Challenge.rw_facecounts_k44_first_crowds.Holds := by
 w_on;o_law;x_head
 (case hl =>
  refine Z.left_tree3 (p:=PySem.Challenge.pw_facecounts_k44_first_crowds) (by kernel_rfl) (λs=>by kernel_rfl) K44.st_ok K44.seen_ok ?_
  intro w os;dsimp only[PySem.W.kHook];rw[PySem.W.Fast.te15842407815417585275,PySem.W.Fast.te2530740449226627131,PySem.W.Fast.te14364793385576792824]
  kernel_rfl)
 (case hw=>w_witness2)
 k_fill
 refine Z.walk_zT [389] (l:=PySem.Challenge.rw_facecounts_k44_first_crowds) (T:=K44.T) (G:=K44.G) (k:=14) (f:=33) (x:="_law_script") rfl rfl ⟨rfl,rfl,by decide,by decide⟩ (λw h Y=>PySem.W.kIn_of Y) (λw=>by kernel_rfl) (λw=>by kernel_rfl) ?F K44.law_true
 case F =>
  as_aux_lemma =>
   intro w mg fa h hb KX G hmg;refine' K44.all_mk KX G hmg ?er ?bl ?lm ?g0 ?g1 ?g2 ?g3 ?g4 ?g5 ?f0 ?f1 ?f2 ?f3 ?f4 ?f5 ?f6 ?f7 ?f8 ?f9 ?f10 ?f11 ?f12 ?f13 ?f14 ?f15 ?f16 ?f17 ?f18 ?f19 ?f20 ?f21 ?f22 ?f23 ?f24 ?f25 ?f26 ?f27 ?f28 ?f29 ?f30 ?f31 ?f32 ?f33
   (case g0=>refine Z.ns_dr hb ?_;k_is)
   (case g1=>refine Z.ns_dr hb ?_;k_is)
   (case g2=>refine Z.ns_dr hb ?_;k_is)
   (case g3=>refine Z.ns_dr hb ?_;k_is)
   (case g4=>refine Z.ns_dr hb ?_;k_is)
   (case g5=>refine Z.ns_dr hb ?_;k_is)
   (case er=>kernel_rfl)
   (case bl=>kernel_rfl)
   (case lm=>kernel_rfl)
   all_goals (refine Z.fun_dr hb ?_;refine' Z.funAt_mk ?a ?l ?c ?k;(case a=>k_is);(case l=>k_is);(case c=>k_is);(case k=>k_is))
end
